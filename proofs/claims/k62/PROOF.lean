import PyProof.Rows.All
import PyProof.Rows.SetFrom
import KE.KRevIter
import PyProof.InstStoreFacts
import PyProof.ExcInit
import PyProof.IsiBase
import PyProof.ExcAttrAll.ValueError
import OpenK.KDescr
import KE.KIsAll
import PyProof.Rows.CatchOwn
import PyProof.RulesTry
import PyProof.RulesAs
import PyProof.RulesDel
import OpenK.KOwn
import PyProof.ExcBaseAll.ValueError
import PyProof.StationsW
import Wide.All
import OpenK.AllK
import Wide.FinOn
import Lean
import PyProof.EqAt
import PyProof.EqKinds
import PyProof.NeKinds
import PyProof.TupleCall
import PySem.Challenge.RW_wakeorder_k62_crowds_without_times
set_option Elab.async false
set_option linter.all false
set_option maxRecDepth 100000
open PySem.W (plainOver takerIn typeIn specialIn keepIn takesIn kitOne kia_one callWith_K fnOf codeIn nsIn mg_of kitAny mg_none_of)
namespace L2
open PySem PySem.Spec PyProof.Rows
noncomputable abbrev Key:=Sum Int Str
noncomputable def keyIs:Key->Value->Bool
 |.inl k,v=>Value.isInt k v
 |.inr x,v=>Value.isStrOf x v
noncomputable def keyH (w:World):Key->Int
 |.inl k=>hashInt k
 |.inr x=>hashStr w x
theorem cA:∀{k:Key} {v:Value},keyIs k v=true->(∃i t,k=Sum.inl i/\v=Value.int i t)\/(∃x t,k=Sum.inr x/\v=Value.str x t)
 |.inl i,v,h=>by
  obtain ⟨t,e⟩:=Value.isInt_shape (k:=i) (v:=v) h
  exact .inl ⟨i,t,rfl,e⟩
 |.inr x,v,h=>by
  obtain ⟨t,e⟩:=Value.isStrOf_shape (x:=x) (v:=v) h
  exact .inr ⟨x,t,rfl,e⟩
theorem key_ll (a b:Int):decide ((Sum.inl a:Key)=Sum.inl b)=(a==b):=by
 by_cases e:a=b
 ·subst e;simp
 ·have h:¬(Sum.inl a:Key)=Sum.inl b:=fun q=>e (Sum.inl.inj q)
  rw [decide_eq_false h]
  exact (beq_eq_false_iff_ne.mpr e).symm
theorem key_rr (a b:Str):decide ((Sum.inr a:Key)=Sum.inr b)=decide (a=b):=by
 by_cases e:a=b
 ·subst e;simp
 ·have h:¬(Sum.inr a:Key)=Sum.inr b:=fun q=>e (Sum.inr.inj q)
  rw [decide_eq_false h,decide_eq_false e]
theorem key_lr (a:Int) (b:Str):decide ((Sum.inl a:Key)=Sum.inr b)=false:=decide_eq_false (fun q=>nomatch q)
theorem key_rl (a:Str) (b:Int):decide ((Sum.inr a:Key)=Sum.inl b)=false:=decide_eq_false (fun q=>nomatch q)
noncomputable def vZ (prog:Program) (w:World):PySem.KeyKind prog w Key where
 is:=keyIs
 hash:=keyH w
 inj:=fun v a b ha hb=>by
  rcases cA ha with ⟨i,t,rfl,rfl⟩|⟨x,t,rfl,rfl⟩
  ·rcases cA hb with ⟨j,u,rfl,e⟩|⟨y,u,rfl,e⟩
   ·injection e with e1 _;rw [e1]
   ·exact nomatch e
  ·rcases cA hb with ⟨j,u,rfl,e⟩|⟨y,u,rfl,e⟩
   ·exact nomatch e
   ·injection e with e1 _;rw [e1]
 byValue:=fun k v h=>by
  rcases cA h with ⟨i,t,rfl,rfl⟩|⟨x,t,rfl,rfl⟩<;>rfl
 pyHash:=fun hv h=>by
  rcases cA hv with ⟨i,t,rfl,rfl⟩|⟨x,t,rfl,rfl⟩
  ·exact wpAny_pyHash_int h
  ·exact wpAny_pyHash_str h
 eqBool:=fun hu hv h=>by
  rcases cA hu with ⟨i,t,rfl,rfl⟩|⟨x,t,rfl,rfl⟩
  ·rcases cA hv with ⟨j,u,rfl,rfl⟩|⟨y,u,rfl,rfl⟩
   ·rw [key_ll] at h;exact wpAny_eqBool_int h
   ·rw [key_lr] at h;exact SeqAt.EqAt.int_str i t y u _ _ _ _ h
  ·rcases cA hv with ⟨j,u,rfl,rfl⟩|⟨y,u,rfl,rfl⟩
   ·rw [key_rl] at h;exact SeqAt.EqAt.str_int x t j u _ _ _ _ h
   ·rw [key_rr] at h;exact wpAny_eqBool_str h
 «strs»:=fun k x t v h=>by
  rcases cA h with ⟨i,u,rfl,e⟩|⟨y,u,rfl,e⟩
  ·exact nomatch e
  ·injection e with e1 _
   subst e1
   cases v<;>rfl
end L2
namespace L2
open PySem PySem.Spec PyProof.Rows
inductive V where
 |non|bl (b:Bool)|int (i:Int)|str (x:Str)|byt (b:Array UInt8)|flt (b:UInt64)|ref (a:Addr)|ty (n:String)
 deriving DecidableEq
noncomputable def RelV:V->Value->Prop
 |.non,u=>u=Value.none
 |.bl b,u=>u=Value.bool b
 |.int i,u=>∃t,u=Value.int i t
 |.str x,u=>∃t,u=Value.str x t
 |.byt b,u=>∃t,u=Value.bytes b t
 |.flt b,u=>∃t,u=Value.float b t
 |.ref a,u=>u=Value.ref a
 |.ty n,u=>u=Value.type n
noncomputable abbrev Vals:List V->List Value->Prop:=Paired RelV
theorem Vals.length {xs:List V} {us:List Value} (r:Vals xs us):xs.length=us.length:=Paired.length r
theorem Vals.get:∀{xs:List V} {us:List Value} {i:Nat} {x:V},Vals xs us->xs[i]? =some x->∃u,us[i]? =some u/\RelV x u
 |_,_,_,_,.nil,e=>by simp at e
 |_,_,0,_,.cons r _,e=>by simp at e;subst e;exact ⟨_,rfl,r⟩
 |_,_,i+1,x,.cons _ t,e=>by
  obtain ⟨u,h1,h2⟩:=Vals.get (i:=i) (x:=x) t (by simpa using e)
  exact ⟨u,by simpa using h1,h2⟩
theorem Vals.set {x:V} {u:Value} (r:RelV x u):∀{xs:List V} {us:List Value} (i:Nat),Vals xs us->Vals (xs.set i x) (us.set i u)
 |_,_,_,.nil=>.nil
 |_,_,0,.cons _ t=>.cons r t
 |_,_,i+1,.cons q t=>.cons q (Vals.set r i t)
theorem Vals.append:∀{xs ys:List V} {us ws:List Value},Vals xs us->Vals ys ws->Vals (xs++ys) (us++ws)
 |_,_,_,_,.nil,s=>s
 |_,_,_,_,.cons r t,s=>.cons r (Vals.append t s)
theorem Vals.take:∀{xs:List V} {us:List Value} (n:Nat),Vals xs us->Vals (xs.take n) (us.take n)
 |_,_,0,_=>.nil
 |_,_,_+1,.nil=>.nil
 |_,_,n+1,.cons r t=>.cons r (Vals.take n t)
theorem Vals.drop:∀{xs:List V} {us:List Value} (n:Nat),Vals xs us->Vals (xs.drop n) (us.drop n)
 |_,_,0,r=>r
 |_,_,_+1,.nil=>.nil
 |_,_,n+1,.cons _ t=>Vals.drop n t
noncomputable def tM:Option V->Option Value->Prop
 |some v,some u=>RelV v u
 |none,none=>True
 |_,_=>False
noncomputable def KV {κ:Type}:List (κ×V)->List (κ×Value)->Prop:=Paired fun (p:κ×V) (q:κ×Value)=>p.1=q.1/\RelV p.2 q.2
noncomputable def kV:Key->V
 |.inl i=>.int i
 |.inr x=>.str x
inductive HO where
  |lst (xs:List V)
  |tup (xs:List V)
  |dK (kvs:List (Key×V))|dT (kvs:List (List Key×V))
  |set (S:Int->Bool) (n:Nat)
  |ins (C dx:Addr) (fs:List (Str×V))
  |own (x:Addr)
  |xd (fs:List (Str×V))
  |met (f x:Addr)
  |rng (lo hi:Int)
  |frz (o:Obj) (u:HO)
  |tbl (ps:Array Value)
  |ext (φ:Heap->Prop)
noncomputable abbrev Hp:=Addr->Option HO
noncomputable def upd (H:Hp) (a:Addr) (o:HO):Hp:=fun b=>if b=a then some o else H b
theorem aq {H:Hp} {a:Addr} {o:HO}:upd H a o a=some o:=by unfold upd;rw [if_pos rfl]
theorem ar {H:Hp} {a b:Addr} {o:HO} (h:b≠a):upd H a o b=H b:=by unfold upd;rw [if_neg h]
theorem aL {H:Hp} {a b:Addr} {o:HO} (h:H a=some o) (h':H b=none):a≠b:=by
 intro e;subst e;rw [h] at h';cases h'
section
variable (P:Program) (w:World)
noncomputable def dv (H:Hp) (h:Heap) (a:Addr):HO->Prop
 |.lst xs=>xs.length<=sizeLine/\∃(its:List Value) (n:Nat),Vals xs its/\h.get? a=some {cls:=.type "list",data:=.seq its.toArray n}
 |.tup xs=>xs.length<=sizeLine/\∃its:List Value,Vals xs its/\IsTup h a its.toArray
 |.dK kvs=>kvs.length<=sizeLine/\(a==sysModules)=false/\∃vs,KV kvs vs/\h.DictOf (vZ P w) a vs
 |.dT kvs=>kvs.length<=sizeLine/\(a==sysModules)=false/\∃xs:List (List Key×Addr×Value),
   Paired (fun (p:List Key×V) (q:List Key×Addr×Value)=>p.1=q.1/\H q.2.1=some (.tup (p.1.map kV))/\RelV p.2 q.2.2) kvs xs /\
   ∃o es ep,h.get? a=some o/\o.ExactDict/\o.data=.dict es ep/\es.toList=xs.map (entryOfKey (tupleKind (vZ P w)))/\(xs.map (·.1)).Nodup
 |.set S n=>h.SetOf (intKind P w) a S n
 |.ins C dx fs=>H dx=some (.own a)/\fs.length<=1000/\dx≠a/\h.get? a=some (PySem.W.instObj C dx) /\
   ∃mA,h.Ns1 dx mA/\(∀f,tM (fs.lookup f) (mA f))/\PySem.Within mA (fs.map (·.1))
 |.own _=>∃o,h.get? a=some o
 |.xd fs=>∃mA,h.Ns1 a mA/\∀f,tM (fs.lookup f) (mA f)
 |.rng lo hi=>∃t u v,h.get? a=some {cls:=.type "range",data:=.fields #[.int lo t,.int hi u,.int 1 v]}
 |.frz o u=>h.get? a=some o/\dv H h a u
 |.tbl ps=>h.get? a=some {cls:=.none,data:=.fields ps}
 |.met f x=>h.get? a=some (PySem.W.methodObj (.ref f) (.ref x))
 |.ext φ=>φ h/\(∃o,h.get? a=some o)/\∀h1 h2:Heap,φ h1->(∀o,h1.get? a=some o->h2.get? a=some o)->φ h2
noncomputable def HOk (H:Hp) (h:Heap):Prop:=∀a o,H a=some o->dv P w H h a o
end
section
variable {P:Program} {w:World} {H H':Hp} {h h':Heap} {a:Addr} {o:HO}
theorem dv.lt (x:dv P w H h a o):a<h.objs.size:=by
 cases o with
 |lst xs=>obtain ⟨_,_,_,_,e⟩:=x;exact Heap.lt_size e
 |tup xs=>obtain ⟨_,_,_,p⟩:=x;exact p.lt
 |dK kvs=>obtain ⟨_,_,_,_,o,_,_,e,_⟩:=x;exact Heap.lt_size e
 |dT kvs=>obtain ⟨_,_,_,_,o,_,_,e,_⟩:=x;exact Heap.lt_size e
 |set S n=>obtain ⟨o,_,_,_,e,_⟩:=x;exact Heap.lt_size e
 |ins C dx fs=>obtain ⟨_,_,_,e,_⟩:=x;exact Heap.lt_size e
 |own y=>obtain ⟨_,e⟩:=x;exact Heap.lt_size e
 |xd fs=>obtain ⟨_,⟨_,_,_,e,_⟩,_⟩:=x;exact Heap.lt_size e
 |rng lo hi=>obtain ⟨_,_,_,e⟩:=x;exact Heap.lt_size e
 |frz ob u=>obtain ⟨e,_⟩:=x;exact Heap.lt_size e
 |tbl ps=>exact Heap.lt_size (show h.get? a=some _ from x)
 |met f y=>exact Heap.lt_size (show h.get? a=some _ from x)
 |ext φ=>obtain ⟨_,⟨_,e⟩,_⟩:=x;exact Heap.lt_size e
theorem Paired.mapP {α β:Type} {F G:α->β->Prop}:∀{l₁:List α} {l₂:List β},Paired F l₁ l₂->(∀a b,F a b->G a b)->Paired G l₁ l₂
 |_,_,.nil,_=>.nil
 |_,_,.cons r t,f=>.cons (f _ _ r) (Paired.mapP t f)
theorem dv.vF (x:dv P w H h a o) (k:∀b u,(b=a\/H b=some (.own a))->h.get? b=some u->h'.get? b=some u)
  (ho:∀b,H b=some (.own a)->H' b=some (.own a)) (ht:∀b xs,H b=some (.tup xs)->H' b=some (.tup xs)):dv P w H' h' a o:=by
 induction o with
 |lst xs=>obtain ⟨z,its,n,r,e⟩:=x;exact ⟨z,its,n,r,k _ _ (.inl rfl) e⟩
 |tup xs=>obtain ⟨z,its,r,ob,e,c⟩:=x;exact ⟨z,its,r,ob,k _ _ (.inl rfl) e,c⟩
 |dK kvs=>obtain ⟨z,y,vs,r,ob,es,ep,e,c⟩:=x;exact ⟨z,y,vs,r,ob,es,ep,k _ _ (.inl rfl) e,c⟩
 |dT kvs=>
  obtain ⟨z,y,xs,r,ob,es,ep,e,c⟩:=x
  exact ⟨z,y,xs,Paired.mapP r fun p q z=>⟨z.1,ht _ _ z.2.1,z.2.2⟩,ob,es,ep,k _ _ (.inl rfl) e,c⟩
 |set S n=>obtain ⟨ob,es,ep,t,e,c⟩:=x;exact ⟨ob,es,ep,t,k _ _ (.inl rfl) e,c⟩
 |ins C dx fs=>
  obtain ⟨d,z,ne,e,mA,⟨od,es,ep,e2,c⟩,r⟩:=x
  exact ⟨ho _ d,z,ne,k _ _ (.inl rfl) e,mA,⟨od,es,ep,k _ _ (.inr d) e2,c⟩,r⟩
 |own y=>obtain ⟨ob,e⟩:=x;exact ⟨ob,k _ _ (.inl rfl) e⟩
 |xd fs=>obtain ⟨mA,⟨od,es,ep,e,c⟩,r⟩:=x;exact ⟨mA,⟨od,es,ep,k _ _ (.inl rfl) e,c⟩,r⟩
 |rng lo hi=>obtain ⟨t,u,v,e⟩:=x;exact ⟨t,u,v,k _ _ (.inl rfl) e⟩
 |frz ob u ih=>obtain ⟨e,q⟩:=x;exact ⟨k _ _ (.inl rfl) e,ih q⟩
 |tbl ps=>
  have e:h.get? a=some {cls:=.none,data:=.fields ps}:=x
  show h'.get? a=some {cls:=.none,data:=.fields ps}
  exact k a _ (.inl rfl) e
 |met f y=>
  have e:h.get? a=some (PySem.W.methodObj (.ref f) (.ref y)):=x
  show h'.get? a=some (PySem.W.methodObj (.ref f) (.ref y))
  exact k a _ (.inl rfl) e
 |ext φ=>obtain ⟨p,⟨o,e⟩,st⟩:=x;exact ⟨st _ _ p fun o q=>k _ _ (.inl rfl) q,⟨o,k _ _ (.inl rfl) e⟩,st⟩
theorem HOk.lt (x:HOk P w H h) (e:H a=some o):a<h.objs.size:=(x a o e).lt
theorem HOk.fresh (x:HOk P w H h) (e:h.objs.size<=a):H a=none:=by
 cases q:H a with
 |none=>rfl
 |some u=>exact absurd (Nat.lt_of_lt_of_le (x.lt q) e) (Nat.lt_irrefl _)
theorem HOk.kept (x:HOk P w H h) (k:∀b u,h.get? b=some u->h'.get? b=some u):HOk P w H h':=fun a o e=>
 (x a o e).vF (fun b u _ q=>k b u q) (fun _ q=>q) fun _ _ q=>q
theorem HOk.laid (x:HOk P w H h) (k:∀b u,h.get? b=some u->h'.get? b=some u) (hp:h.objs.size<=a) (new:dv P w (upd H a o) h' a o):HOk P w (upd H a o) h':=fun b u e=>by
 have hn:=x.fresh hp
 by_cases hb:b=a
 ·subst hb;rw [aq] at e;cases e;exact new
 ·rw [ar hb] at e
  exact (x b u e).vF (fun c v _ q=>k c v q) (fun c q=>by rw [ar (aL q hn)];exact q) fun c xs q=>by rw [ar (aL q hn)];exact q
end
noncomputable def Rd (H:Hp) (a:Addr) (u:HO):Prop:=H a=some u\/∃o,H a=some (.frz o u)
theorem Rd.ok {P:Program} {w:World} {H:Hp} {h:Heap} {a:Addr} {u:HO} (r:Rd H a u) (x:HOk P w H h):dv P w H h a u:=by
 rcases r with r|⟨o,r⟩
 ·exact x a u r
 ·obtain ⟨_,q⟩:=x a _ r
  exact q
noncomputable def Mut:Option HO->Prop
 |some (.lst _)=>True
 |some (.dK _)=>True
 |some (.dT _)=>True
 |some (.set _ _)=>True
 |some (.ins _ _ _)=>True
 |some (.ext _)=>True
 |_=>False
section
variable {P:Program} {w:World} {H:Hp} {h h':Heap} {x e:Addr} {o':HO}
theorem HOk.write (ok:HOk P w H h) (mu:Mut (H x)) (he:e=x\/H e=some (.own x)) (k:∀b u,b≠e->h.get? b=some u->h'.get? b=some u) (heo:∃u,h'.get? e=some u)
  (new:dv P w (upd H x o') h' x o'):HOk P w (upd H x o') h':=fun b u q=>by
 have nown:∀c y,H c=some (.own y)->c≠x:=fun c y r z=>by subst z;rw [r] at mu;exact mu
 have ntup:∀c xs,H c=some (.tup xs)->c≠x:=fun c xs r z=>by subst z;rw [r] at mu;exact mu
 by_cases hb:b=x
 ·subst hb;rw [aq] at q;cases q;exact new
 ·rw [ar hb] at q
  by_cases hbe:b=e
  ·have q':H b=some (.own x):=by
    rcases he with z|z
    ·exact absurd (hbe.trans z) hb
    ·rw [hbe];exact z
   rw [q] at q';cases q'
   obtain ⟨v,hv⟩:=heo
   exact ⟨v,by rw [hbe];exact hv⟩
  ·refine (ok b u q).vF (fun c v hc r=>k c v ?_ r) (fun c r=>by rw [ar (nown c b r)];exact r) fun c xs r=>by rw [ar (ntup c xs r)];exact r
   rcases hc with rfl|hc
   ·exact hbe
   ·rintro rfl
    rcases he with z|z
    ·exact nown c b hc z
    ·rw [hc] at z;cases z;exact hb rfl
end
structure Un (fs ex:List Addr) (H H':Hp) (h h':Heap):Prop where
 keep:∀b o,h.get? b=some o->H b=none->b∉fs->b∉ex->h'.get? b=some o
 slot:∀b o,h.get? b=some o->H b=none->b∈fs->b∉ex->∃sl,h'.get? b=some {o with slots:=sl}
 free:∀b o,h.get? b=some o->H b=none->b∉ex->H' b=none
 there:∀b o,h.get? b=some o->b∉ex->∃o',h'.get? b=some o'
 tups:∀b xs,H b=some (.tup xs)->H' b=some (.tup xs)
 frzs:∀b o u,H b=some (.frz o u)->H' b=some (.frz o u)
 tbls:∀b ps,H b=some (.tbl ps)->∃more,H' b=some (.tbl (ps++more))
section
variable {fs fs' ex ex':List Addr} {H H1 H2:Hp} {h h1 h2 h':Heap} {a x e:Addr} {o:HO}
theorem Un.any (u:Un fs ex H H1 h h1) {b:Addr} {ob:Obj} (q:h.get? b=some ob) (n:H b=none) (hx:b∉ex):∃sl,h1.get? b=some {ob with slots:=sl}:=by
 by_cases hb:b∈fs
 ·exact u.slot b ob q n hb hx
 ·exact ⟨ob.slots,u.keep b ob q n hb hx⟩
theorem Un.trans (a:Un fs ex H H1 h h1) (b:Un fs ex H1 H2 h1 h2):Un fs ex H H2 h h2 where
 keep:=fun c ob q n hc hx=>b.keep c ob (a.keep c ob q n hc hx) (a.free c ob q n hx) hc hx
 slot:=fun c ob q n hc hx=>by
  obtain ⟨sl,e1⟩:=a.slot c ob q n hc hx
  obtain ⟨sl',e2⟩:=b.slot c _ e1 (a.free c ob q n hx) hc hx
  exact ⟨sl',e2⟩
 free:=fun c ob q n hx=>by
  obtain ⟨o',e1⟩:=a.there c ob q hx
  exact b.free c o' e1 (a.free c ob q n hx) hx
 there:=fun c ob q hx=>by
  obtain ⟨o',e1⟩:=a.there c ob q hx
  exact b.there c o' e1 hx
 tups:=fun c xs q=>b.tups c xs (a.tups c xs q)
 frzs:=fun c ob xs q=>b.frzs c ob xs (a.frzs c ob xs q)
 tbls:=fun c ps q=>by
  obtain ⟨m1,e1⟩:=a.tbls c ps q
  obtain ⟨m2,e2⟩:=b.tbls c _ e1
  exact ⟨m1++m2,by rw [e2,Array.append_assoc]⟩
theorem Un.kept (k:∀b u,h.get? b=some u->h'.get? b=some u):Un fs ex H H h h':=
 ⟨fun b ob q _ _ _=>k b ob q,fun b ob q _ _ _=>⟨ob.slots,k b ob q⟩,fun _ _ _ n _=>n,fun b ob q _=>⟨ob,k b ob q⟩,fun _ _ q=>q,fun _ _ _ q=>q,fun _ ps q=>⟨#[],by rw [q];simp⟩⟩
theorem Un.refl:Un fs ex H H h h:=Un.kept fun _ _ q=>q
theorem Un.laid (k:∀b u,h.get? b=some u->h'.get? b=some u) (hp:h.objs.size<=a) (hn:H a=none):Un fs ex H (upd H a o) h h' where
 keep:=fun b u q _ _ _=>k b u q
 slot:=fun b u q _ _ _=>⟨u.slots,k b u q⟩
 free:=fun b u q n _=>by rw [ar (Nat.ne_of_lt (Nat.lt_of_lt_of_le (Heap.lt_size q) hp))];exact n
 there:=fun b u q _=>⟨u,k b u q⟩
 tups:=fun b xs q=>by rw [ar (aL q hn)];exact q
 frzs:=fun b u xs q=>by rw [ar (aL q hn)];exact q
 tbls:=fun b ps q=>⟨#[],by rw [ar (aL q hn),q];simp⟩
theorem Un.write (mu:Mut (H x)) (he:e=x\/H e=some (.own x)) (k:∀b u,b≠e->h.get? b=some u->h'.get? b=some u) (heo:∃u,h'.get? e=some u):Un fs ex H (upd H x o) h h':=by
 have hx:∀b,H b=none->b≠x:=fun b n z=>by subst z;rw [n] at mu;exact mu
 have hb:∀b,H b=none->b≠e:=fun b n z=>by
  subst z
  rcases he with r|r
  ·exact hx b n r
  ·rw [n] at r;cases r
 have hm:∀b u,H b=some u->¬Mut (some u)->b≠x:=fun b u q nm z=>by subst z;rw [q] at mu;exact nm mu
 refine ⟨fun b u q n _ _=>k b u (hb b n) q,fun b u q n _ _=>⟨u.slots,k b u (hb b n) q⟩,fun b u q n _=>by rw [ar (hx b n)];exact n,fun b u q _=>?_,
  fun b xs q=>by rw [ar (hm b _ q fun z=>z)];exact q,fun b u xs q=>by rw [ar (hm b _ q fun z=>z)];exact q,fun b ps q=>⟨#[],by rw [ar (hm b _ q fun z=>z),q];simp⟩⟩
 by_cases hbe:b=e
 ·subst hbe;exact heo
 ·exact ⟨u,k b u hbe q⟩
end
noncomputable def trk (h:Heap) (H:Hp):List Addr:=(List.range h.objs.size).filter fun a=>(H a).isSome
noncomputable def hidT (h:Heap) (H:Hp):Heap:=PySem.W.hideAll h (trk h H)
theorem AA (h:Heap) (H:Hp):(hidT h H).objs.size=h.objs.size:=PySem.W.hideAll_size _ _
theorem hidT_get {h:Heap} {H:Hp} {b:Addr} {o:Obj} (e:h.get? b=some o) (n:H b=none):(hidT h H).get? b=some o:=
 PySem.W.hideAll_get _ e fun hm=>by
  have q:(H b).isSome=true:=(List.mem_filter.mp hm).2
  rw [n] at q;simp at q
theorem of_hidT {h:Heap} {H:Hp} {b:Addr} {o:Obj} (e:(hidT h H).get? b=some o):h.get? b=some o/\H b=none:=by
 have e':h.get? b=some o:=PySem.W.of_hideAll (trk h H) e
 refine ⟨e',?_⟩
 cases q:H b with
 |none=>rfl
 |some x=>
  have hm:b∈trk h H:=List.mem_filter.mpr ⟨List.mem_range.mpr (Heap.lt_size e'),by simp [q]⟩
  have z:(hidT h H).get? b=none:=PySem.W.hideAll_none (trk h H) hm
  rw [z] at e;cases e
end L2
namespace L2
open PySem PySem.Spec PyProof.Rows
structure Mod (K:PySem.W.Frag) (mg:Str->Option Value) (base:Heap):Prop where
 kin:K.In base
 glob:base.Ns mainGlobals mg
 blt:∃mb,base.Ns builtinsNs mb/\∀x:Str,x≠"__name__"->mb x=bootBuiltins x
 nolimit:base.NoLimit
structure Cx where
 prog:Program
 w:World
 K:PySem.W.Frag
 mg:Str->Option Value
 base:Heap
 A:Around
 N:List Str
 s₀:Shared
 H₀:Hp
 env:Env
 outer:List Env
 stack:List Env
 ex:List Addr
 fn:Str->Bool
 calm:Bool
 pn:List (Addr×Obj)
 xe:Value->Shared->Prop
noncomputable def frs (l:List Env):List Addr:=l.filterMap (·.frame)
noncomputable abbrev Cx.fs (X:Cx):List Addr:=frs X.outer
noncomputable def Vis (sc:Scope) (x:Str):Prop:=sc.names.lookup x=some .local\/sc.names.lookup x=some .cell\/sc.names.lookup x=some .free
noncomputable def Loc (sc:Scope) (x:Str):Prop:=sc.names.lookup x=some .local\/sc.names.lookup x=some .cell
noncomputable def Look (env:Env) (h:Heap) (m:Str->Option Value) (x:Str) (u:Value):Prop:=
 (env.kindOf x=some .local/\m x=some u)\/((env.kindOf x=some .cell\/env.kindOf x=some .free)/\∃c,env.cells.lookup x=some c/\h.IsCell c (some u))
structure Cx.Ok (X:Cx):Prop where
 mod:Mod X.K X.mg X.base
 kind:X.env.scope.kind=.function
 glob:X.env.globals=mainGlobals
 blt:X.env.builtins=builtinsNs
 above:X.s₀.heap.objs.size<=X.env.locals
 inj:∀x y c,X.env.cells.lookup x=some c->X.env.cells.lookup y=some c->x=y
 has:∀x,(X.env.kindOf x=some .cell\/X.env.kindOf x=some .free)->∃c,X.env.cells.lookup x=some c
 cab:∀x c,X.fn x=true->X.env.cells.lookup x=some c->X.s₀.heap.objs.size<=c
 hd:X.calm=true->X.A.handled=none
 frames:X.A.frames=some X.stack
 stk:X.stack=X.outer\/(X.stack=X.env::X.outer/\X.env.frame=some X.env.locals)
 exf:∀b∈X.ex,b≠X.env.locals/\∀x c,X.env.cells.lookup x=some c->c≠b
 bs:∀b o,X.base.get? b=some o->X.s₀.heap.get? b=some o/\X.H₀ b=none
 bsz:X.base.objs.size<=X.s₀.heap.objs.size
 noex:∀b o,X.base.get? b=some o->b∉X.ex
 exfs:∀b∈X.ex,b∉X.fs
 uI:X.s₀.heap.FunFrames X.base X.outer
 frf:∀b∈X.fs,X.H₀ b=none
structure Inv (X:Cx) (pins:List (Addr×Obj)) (σ:List (Option V)) (H:Hp) (s:Shared):Prop where
 ok:X.Ok
 os:s.os=X.s₀.os
 bare:AllBare s.gens
 base:Un X.fs X.ex X.H₀ H X.s₀.heap s.heap
 loc:∃m,s.heap.Ns X.env.locals m/\∀(i:Nat) (x:Str) (v:V),X.N[i]? =some x->σ[i]? =some (some v)->Vis X.env.scope x->∃u,RelV v u/\Look X.env s.heap m x u
 cell:∀x c,X.env.cells.lookup x=some c->∃v,s.heap.IsCell c v
 free:H X.env.locals=none
 freeC:∀x c,X.env.cells.lookup x=some c->H c=none
 pin:∀p∈X.pn++pins,s.heap.get? p.1=some p.2/\H p.1=none/\p.1≠X.env.locals/\p.1∉X.fs/\∀v,p.2.data≠.cell v
 hok:HOk X.prog X.w H s.heap
 len:σ.length=X.N.length
section
variable {X:Cx} {pins:List (Addr×Obj)} {σ:List (Option V)} {H H':Hp} {s:Shared} {h':Heap}
theorem Cx.Ok.nofr (ok:X.Ok) {b:Addr} {o:Obj} (e:X.base.get? b=some o):b∉X.fs:=fun hb=>by
 have:=(ok.uI.mem hb).1
 rw [e] at this;cases this
theorem Inv.bs (I:Inv X pins σ H s):∀b o,X.base.get? b=some o->s.heap.get? b=some o/\H b=none:=fun b o e=>
 ⟨I.base.keep b o (I.ok.bs b o e).1 (I.ok.bs b o e).2 (I.ok.nofr e) (I.ok.noex b o e),I.base.free b o (I.ok.bs b o e).1 (I.ok.bs b o e).2 (I.ok.noex b o e)⟩
theorem Inv.bk (I:Inv X pins σ H s):∀b o,X.base.get? b=some o->s.heap.get? b=some o:=fun b o e=>(I.bs b o e).1
theorem Inv.mod (I:Inv X pins σ H s):Mod X.K X.mg X.base:=I.ok.mod
theorem Inv.kIn (I:Inv X pins σ H s):X.K.In s.heap:=I.ok.mod.kin.keeps I.bk
theorem Inv.lt (I:Inv X pins σ H s):X.env.locals<s.heap.objs.size:=let ⟨_,hn,_⟩:=I.loc;hn.lt
theorem Inv.sz (I:Inv X pins σ H s):X.s₀.heap.objs.size<=s.heap.objs.size:=Nat.le_trans I.ok.above (Nat.le_of_lt I.lt)
theorem Inv.nofs (I:Inv X pins σ H s) {a:Addr} (h:s.heap.objs.size<=a):a∉X.fs:=fun hb=>by
 obtain ⟨_,o,ho,_⟩:=I.ok.uI.mem hb
 exact absurd (Nat.lt_of_lt_of_le (Heap.lt_size ho) (Nat.le_trans I.sz h)) (Nat.lt_irrefl _)
theorem Inv.cne (I:Inv X pins σ H s):∀x c,X.env.cells.lookup x=some c->c≠X.env.locals:=fun x c e z=>by
 obtain ⟨v,o,ho,hd⟩:=I.cell x c e
 obtain ⟨m,⟨o',es,ep,ho',hd',_⟩,_⟩:=I.loc
 rw [z,ho'] at ho;cases ho;rw [hd'] at hd;cases hd
theorem Inv.uI (I:Inv X pins σ H s):s.heap.FunFrames X.base X.outer:=by
 have all:∀(l:List Env),(∀b∈frs l,b∈X.fs)->X.s₀.heap.FunFrames X.base l->s.heap.FunFrames X.base l:=by
  intro l
  induction l with
  |nil=>intro _ _;trivial
  |cons env r ih=>
   intro hs hl
   obtain ⟨hk,⟨L,o,hf,hn,ho,hd⟩,hr⟩:=hl
   have hL:L∈X.fs:=hs L (by unfold frs;rw [List.filterMap_cons,hf];exact List.mem_cons_self)
   obtain ⟨sl,e⟩:=I.base.slot L o ho (I.ok.frf L hL) hL fun z=>I.ok.exfs L z hL
   exact ⟨hk,⟨L,_,hf,hn,e,hd⟩,ih (fun b hb=>hs b (by unfold frs;rw [List.filterMap_cons,hf];exact List.mem_cons_of_mem _ hb)) hr⟩
 exact all X.outer (fun _ hb=>hb) I.ok.uI
theorem Inv.stack (I:Inv X pins σ H s):s.heap.FunFrames X.base X.stack:=by
 rcases I.ok.stk with e|⟨e,hf⟩
 ·rw [e];exact I.uI
 ·rw [e]
  obtain ⟨m,hn,_⟩:=I.loc
  refine .cons (by rw [I.ok.kind];decide) hf hn ?_ I.uI
  exact Heap.get?_none_of_le (Nat.le_trans I.ok.bsz I.ok.above)
theorem Inv.qY (I:Inv X pins σ H s):∀b∈frs X.stack,b∈X.env.locals::X.fs:=fun b hb=>by
 rcases I.ok.stk with e|⟨e,hf⟩
 ·rw [e] at hb;exact List.mem_cons_of_mem _ hb
 ·rw [e] at hb
  unfold frs at hb
  rw [List.filterMap_cons,hf] at hb
  exact hb
theorem Inv.zC (I:Inv X pins σ H s):∀b∈frs X.stack,H b=none:=fun b hb=>by
 rcases List.mem_cons.mp (I.qY b hb) with e|hb
 ·rw [e];exact I.free
 ·obtain ⟨_,o,ho,_⟩:=I.ok.uI.mem hb
  exact I.base.free b o ho (I.ok.frf b hb) fun z=>I.ok.exfs b z hb
theorem Inv.step {g':Array GenState} {t':Nat} {d':Drawn} {ch:List Addr} (I:Inv X pins σ H s)
  (hch:∀b∈ch,(b∈X.ex\/X.s₀.heap.objs.size<=b)/\b≠X.env.locals/\(∀x c,X.env.cells.lookup x=some c->c≠b)/\∀p∈X.pn++pins,p.1≠b)
  (keep:∀b o,b≠X.env.locals->b∉X.fs->b∉ch->s.heap.get? b=some o->H b=none->h'.get? b=some o)
  (slot:∀b o,b≠X.env.locals->b∈X.fs->b∉ch->s.heap.get? b=some o->H b=none->∃sl,h'.get? b=some {o with slots:=sl}) (free:∀b o,b∉ch->s.heap.get? b=some o->H b=none->H' b=none)
  (there:∀b o,b∉ch->s.heap.get? b=some o->∃o',h'.get? b=some o')
  (tups:∀b xs,H b=some (.tup xs)->H' b=some (.tup xs)) (frzs:∀b o u,H b=some (.frz o u)->H' b=some (.frz o u)) (tbls:∀b ps,H b=some (.tbl ps)->∃more,H' b=some (.tbl (ps++more)))
  (ns:∀m,s.heap.Ns X.env.locals m->h'.Ns X.env.locals m) (hok:HOk X.prog X.w H' h') (hg:AllBare g') :
  Inv X pins σ H' {s with heap:=h',gens:=g',drawn:=d',toks:=t'}:=by
 have neL:∀b o,X.s₀.heap.get? b=some o->b≠X.env.locals:=fun b o e=>Nat.ne_of_lt (Nat.lt_of_lt_of_le (Heap.lt_size e) I.ok.above)
 have neC:∀b o,X.s₀.heap.get? b=some o->b∉X.ex->b∉ch:=fun b o e hx hb=>by
  rcases (hch b hb).1 with z|z
  ·exact hx z
  ·exact absurd (Nat.lt_of_lt_of_le (Heap.lt_size e) z) (Nat.lt_irrefl _)
 have cellK:∀x c,X.env.cells.lookup x=some c->∀v,s.heap.IsCell c v->h'.IsCell c v:=fun x c e v ⟨o,ho,hd⟩=>by
  have nch:c∉ch:=fun z=>(hch c z).2.2.1 x c e rfl
  by_cases hc:c∈X.fs
  ·obtain ⟨sl,q⟩:=slot c o (I.cne x c e) hc nch ho (I.freeC x c e)
   exact ⟨_,q,hd⟩
  ·exact ⟨o,keep c o (I.cne x c e) hc nch ho (I.freeC x c e),hd⟩
 refine ⟨I.ok,I.os,hg,⟨fun b o e n hb hx=>?_,fun b o e n hb hx=>?_,fun b o e n hx=>?_,fun b o e hx=>?_,fun b xs e=>tups b xs (I.base.tups b xs e),fun b o xs e=>frzs b o xs (I.base.frzs b o xs e),fun b ps e=>?_⟩,?_,fun x c e=>?_,?_,fun x c e=>?_,fun p hp=>?_,hok,I.len⟩
 ·exact keep b o (neL b o e) hb (neC b o e hx) (I.base.keep b o e n hb hx) (I.base.free b o e n hx)
 ·obtain ⟨sl,e1⟩:=I.base.slot b o e n hb hx
  obtain ⟨sl',e2⟩:=slot b _ (neL b o e) hb (neC b o e hx) e1 (I.base.free b o e n hx)
  exact ⟨sl',e2⟩
 ·obtain ⟨o',e1⟩:=I.base.there b o e hx
  exact free b o' (neC b o e hx) e1 (I.base.free b o e n hx)
 ·obtain ⟨o',e1⟩:=I.base.there b o e hx
  exact there b o' (neC b o e hx) e1
 ·obtain ⟨m1,e1⟩:=I.base.tbls b ps e
  obtain ⟨m2,e2⟩:=tbls b _ e1
  exact ⟨m1++m2,by rw [e2,Array.append_assoc]⟩
 ·obtain ⟨m,hn,hl⟩:=I.loc
  refine ⟨m,ns m hn,fun i x v e1 e2 e3=>?_⟩
  obtain ⟨u,r,l⟩:=hl i x v e1 e2 e3
  refine ⟨u,r,?_⟩
  rcases l with l|⟨k,c,e,z⟩
  ·exact .inl l
  ·exact .inr ⟨k,c,e,cellK x c e _ z⟩
 ·obtain ⟨v,z⟩:=I.cell x c e
  exact ⟨v,cellK x c e v z⟩
 ·obtain ⟨m,⟨o,_,_,ho,_⟩,_⟩:=I.loc
  exact free _ o (fun z=>(hch _ z).2.1 rfl) ho I.free
 ·obtain ⟨v,o,ho,hd⟩:=I.cell x c e
  exact free c o (fun z=>(hch c z).2.2.1 x c e rfl) ho (I.freeC x c e)
 ·obtain ⟨e,n,ne,nf,d⟩:=I.pin p hp
  have nch:p.1∉ch:=fun z=>(hch p.1 z).2.2.2 p hp rfl
  exact ⟨keep p.1 p.2 ne nf nch e n,free p.1 p.2 nch e n,ne,nf,d⟩
theorem Inv.un {t':Nat} (I:Inv X pins σ H s) (u:Un X.fs [] H H' s.heap h') (hok:HOk X.prog X.w H' h'):Inv X pins σ H' {s with heap:=h',toks:=t'}:=by
 obtain ⟨m,⟨o,es,ep,ho,r⟩,_⟩:=id I.loc
 obtain ⟨sl,hL⟩:=u.any ho I.free (by simp)
 exact I.step (g':=s.gens) (d':=s.drawn) (ch:=[]) (fun _ z=>nomatch z) (fun b o _ hb _ e n=>u.keep b o e n hb (by simp)) (fun b o _ hb _ e n=>u.slot b o e n hb (by simp)) (fun b o _ e n=>u.free b o e n (by simp)) (fun b o _ e=>u.there b o e (by simp)) u.tups u.frzs u.tbls (fun m' hm=>by
  obtain ⟨o',es',ep',ho',r'⟩:=hm
  rw [ho] at ho';cases ho'
  exact ⟨_,es',ep',hL,r'⟩) hok I.bare
theorem Inv.call {g':Array GenState} {t':Nat} {d':Drawn} {ch:List Addr} (I:Inv X pins σ H s) (u:Un (frs X.stack) ch H H' s.heap h') (hok:HOk X.prog X.w H' h') (hg:AllBare g')
  (hch:∀b∈ch,(b∈X.ex\/X.s₀.heap.objs.size<=b)/\b≠X.env.locals/\(∀x c,X.env.cells.lookup x=some c->c≠b)/\∀p∈X.pn++pins,p.1≠b) :
  Inv X pins σ H' {s with heap:=h',gens:=g',drawn:=d',toks:=t'}:=by
 obtain ⟨m,⟨o,es,ep,ho,r⟩,_⟩:=id I.loc
 obtain ⟨sl,hL⟩:=u.any ho I.free fun z=>(hch _ z).2.1 rfl
 exact I.step (ch:=ch) hch (fun b o hL hb hc e n=>u.keep b o e n (fun z=>(List.mem_cons.mp (I.qY b z)).elim hL hb) hc) (fun b o _ _ hc e n=>u.any e n hc) (fun b o hc e n=>u.free b o e n hc) (fun b o hc e=>u.there b o e hc) u.tups u.frzs u.tbls (fun m' hm=>by
  obtain ⟨o',es',ep',ho',r'⟩:=hm
  rw [ho] at ho';cases ho'
  exact ⟨_,es',ep',hL,r'⟩) hok hg
theorem Inv.turned {t':Nat} {it:Addr} (I:Inv X pins σ H s) (k:∀b o,b≠it->s.heap.get? b=some o->h'.get? b=some o) (hn:H it=none) (hL:it≠X.env.locals)
  (h1:it∈X.ex\/X.s₀.heap.objs.size<=it) (h2:∀x c,X.env.cells.lookup x=some c->c≠it) (h3:∀p∈X.pn++pins,p.1≠it):Inv X pins σ H {s with heap:=h',toks:=t'}:=by
 have nit:∀b u,H b=some u->b≠it:=fun b u e z=>by rw [z,hn] at e;cases e
 refine I.step (g':=s.gens) (d':=s.drawn) (ch:=[it]) (fun b hb=>?_) (fun b o _ _ hc e _=>k b o (fun z=>hc (by simp [z])) e) (fun b o _ _ hc e _=>⟨o.slots,k b o (fun z=>hc (by simp [z])) e⟩) (fun _ _ _ _ n=>n)
  (fun b o hc e=>⟨o,k b o (fun z=>hc (by simp [z])) e⟩) (fun _ _ e=>e) (fun _ _ _ e=>e) (fun b ps e=>⟨#[],by rw [e];simp⟩) (fun m hm=>?_) (fun b u e=>?_) I.bare
 ·have e:b=it:=by simpa using hb
  subst e
  exact ⟨h1,hL,h2,h3⟩
 ·obtain ⟨o,es,ep,ho,r⟩:=hm
  exact ⟨o,es,ep,k _ o (Ne.symm hL) ho,r⟩
 ·refine (I.hok b u e).vF (fun c v hc q=>k c v ?_ q) (fun _ q=>q) fun _ _ q=>q
  rcases hc with z|z
  ·rw [z];exact nit b u e
  ·exact nit c _ z
theorem Inv.tok (I:Inv X pins σ H s) (t:Nat):Inv X pins σ H {s with toks:=t}:=I.un (h':=s.heap) (t':=t) Un.refl I.hok
theorem Inv.kept {t':Nat} (I:Inv X pins σ H s) (k:∀b u,s.heap.get? b=some u->h'.get? b=some u):Inv X pins σ H {s with heap:=h',toks:=t'}:=I.un (Un.kept k) (I.hok.kept k)
theorem Inv.laid {a:Addr} {o:HO} {t':Nat} (I:Inv X pins σ H s) (k:∀b u,s.heap.get? b=some u->h'.get? b=some u) (hp:s.heap.objs.size<=a) (new:dv X.prog X.w (upd H a o) h' a o) :
  Inv X pins σ (upd H a o) {s with heap:=h',toks:=t'}:=I.un (Un.laid k hp (I.hok.fresh hp)) (I.hok.laid k hp new)
theorem Inv.write {x e:Addr} {o:HO} {t':Nat} (I:Inv X pins σ H s) (mu:Mut (H x)) (he:e=x\/H e=some (.own x)) (k:∀b u,b≠e->s.heap.get? b=some u->h'.get? b=some u) (heo:∃u,h'.get? e=some u)
  (new:dv X.prog X.w (upd H x o) h' x o):Inv X pins σ (upd H x o) {s with heap:=h',toks:=t'}:=I.un (Un.write mu he k heo) (I.hok.write mu he k heo new)
theorem Inv.weak {σ':List (Option V)} (I:Inv X pins σ H s) (hl:σ'.length=σ.length) (w:∀(i:Nat) v,σ'[i]? =some (some v)->σ[i]? =some (some v)):Inv X pins σ' H s:=
 ⟨I.ok,I.os,I.bare,I.base,let ⟨m,hn,hl'⟩:=I.loc;⟨m,hn,fun i x v e1 e2 e3=>hl' i x v e1 (w i v e2) e3⟩,I.cell,I.free,I.freeC,I.pin,I.hok,hl.trans I.len⟩
theorem Inv.sy {pins':List (Addr×Obj)} (I:Inv X pins σ H s) (h:∀p∈pins',s.heap.get? p.1=some p.2/\H p.1=none/\p.1≠X.env.locals/\p.1∉X.fs/\∀v,p.2.data≠.cell v):Inv X pins' σ H s:=
 ⟨I.ok,I.os,I.bare,I.base,I.loc,I.cell,I.free,I.freeC,fun p hp=>(List.mem_append.mp hp).elim (fun z=>I.pin p (List.mem_append_left _ z)) (h p),I.hok,I.len⟩
theorem sI {N:List Str} (hN:N.Nodup) {i j:Nat} {x:Str} (a:N[i]? =some x) (b:N[j]? =some x):i=j:=by
 obtain ⟨h1,e1⟩:=List.getElem?_eq_some_iff.mp a
 obtain ⟨h2,e2⟩:=List.getElem?_eq_some_iff.mp b
 exact (List.getElem_inj hN).mp (e1.trans e2.symm)
theorem u0 {M:Model} {A:Around} {E:Value->Shared->Prop} {i:Nat} {x:Str} {v:V} {u:Value} {Q:Unit->Shared->Prop} (I:Inv X pins σ H s) (hN:X.N.Nodup) (hi:X.N[i]? =some x) (hx:Loc X.env.scope x) (r:RelV v u)
  (h:∀s',Inv X pins (σ.set i (some v)) H s'->(∃a,Heap.SameBut a s.heap s'.heap/\(a=X.env.locals\/X.env.cells.lookup x=some a))->Q () s') (hf:X.fn x=true\/X.env.scope.names.lookup x=some .local:=by first|exact .inl rfl|exact .inr rfl|assumption):wpAny M A (storeName X.env x u) Q E s:=by
 obtain ⟨m,hn,hl⟩:=id I.loc
 have hcls:(X.env.scope.kind==.class||(X.env.scope.kind==.module&&X.env.locals != X.env.globals))=false:=by rw [I.ok.kind];rfl
 have hiσ:i<σ.length:=by rw [I.len];exact (List.getElem?_eq_some_iff.mp hi).1
 have cne:=I.cne
 have tracked:∀{a:Addr} {h':Heap},(∃o,s.heap.get? a=some o/\H a=none)->Heap.SameBut a s.heap h'->HOk X.prog X.w H h':=fun {a h'} ha hs b ob e=>by
  obtain ⟨_,_,hfree⟩:=ha
  refine (I.hok b ob e).vF (fun c w' hc q=>(hs.2 c ?_).trans q) (fun _ q=>q) fun _ _ q=>q
  rintro rfl
  rcases hc with rfl|hc
  ·rw [hfree] at e;cases e
  ·rw [hfree] at hc;cases hc
 rcases hx with hk|hk
 ·refine wpAny_storeName_local hk hn (fun h' hn' hs=>?_) hcls
  obtain ⟨oL,_,_,hoL,_⟩:=id hn
  refine h _ ⟨I.ok,I.os,I.bare,⟨fun b o e n hb hx=>?_,fun b o e n hb hx=>?_,I.base.free,fun b o e hx=>?_,I.base.tups,I.base.frzs,I.base.tbls⟩,⟨_,hn',fun j y v' e1 e2 e3=>?_⟩,fun y c e=>?_,I.free,I.freeC,fun p hp=>?_,tracked ⟨oL,hoL,I.free⟩ hs,by simpa using I.len⟩ ⟨_,hs,.inl rfl⟩
  ·exact (hs.2 b (Nat.ne_of_lt (Nat.lt_of_lt_of_le (Heap.lt_size e) I.ok.above))).trans (I.base.keep b o e n hb hx)
  ·obtain ⟨sl,e1⟩:=I.base.slot b o e n hb hx
   exact ⟨sl,(hs.2 b (Nat.ne_of_lt (Nat.lt_of_lt_of_le (Heap.lt_size e) I.ok.above))).trans e1⟩
  ·obtain ⟨o',e1⟩:=I.base.there b o e hx
   exact ⟨o',(hs.2 b (Nat.ne_of_lt (Nat.lt_of_lt_of_le (Heap.lt_size e) I.ok.above))).trans e1⟩
  ·by_cases hj:j=i
   ·subst hj
    rw [hi] at e1;cases e1
    rw [List.getElem?_set_self hiσ] at e2
    cases e2
    exact ⟨u,r,.inl ⟨hk,by simp⟩⟩
   ·rw [List.getElem?_set_ne (Ne.symm hj)] at e2
    obtain ⟨u',r',q⟩:=hl j y v' e1 e2 e3
    refine ⟨u',r',?_⟩
    rcases q with ⟨k,e⟩|⟨k,c,e,z⟩
    ·refine .inl ⟨k,?_⟩
     have:y≠x:=fun e=>hj (sI hN e1 (e▸hi))
     simp [this,e]
    ·exact .inr ⟨k,c,e,z.sameBut hs (cne y c e)⟩
  ·obtain ⟨w',z⟩:=I.cell y c e
   exact ⟨w',z.sameBut hs (cne y c e)⟩
  ·obtain ⟨e,n,ne,nf,d⟩:=I.pin p hp
   exact ⟨(hs.2 p.1 ne).trans e,n,ne,nf,d⟩
 ·have hfn:X.fn x=true:=by
   rcases hf with z|z
   ·exact z
   ·rw [z] at hk;cases hk
  obtain ⟨c,hc⟩:=I.ok.has x (.inl hk)
  obtain ⟨w',z⟩:=I.cell x c hc
  refine wpAny_storeName_cell I.ok.kind hk hc z (fun h' hc' hs=>?_)
  obtain ⟨oc,hoc,hocd⟩:=id z
  refine h {s with heap:=h'} ⟨I.ok,I.os,I.bare,⟨fun b o e n hb hx=>?_,fun b o e n hb hx=>?_,I.base.free,fun b o e hx=>?_,I.base.tups,I.base.frzs,I.base.tbls⟩,⟨m,hn.sameBut hs (Ne.symm (cne x c hc)),fun j y v' e1 e2 e3=>?_⟩,fun y c' e=>?_,I.free,I.freeC,fun p hp=>?_,tracked ⟨oc,hoc,I.freeC x c hc⟩ hs,by simpa using I.len⟩ ⟨c,hs,.inr hc⟩
  ·exact (hs.2 b (Nat.ne_of_lt (Nat.lt_of_lt_of_le (Heap.lt_size e) (I.ok.cab x c hfn hc)))).trans (I.base.keep b o e n hb hx)
  ·obtain ⟨sl,e1⟩:=I.base.slot b o e n hb hx
   exact ⟨sl,(hs.2 b (Nat.ne_of_lt (Nat.lt_of_lt_of_le (Heap.lt_size e) (I.ok.cab x c hfn hc)))).trans e1⟩
  ·obtain ⟨o',e1⟩:=I.base.there b o e hx
   exact ⟨o',(hs.2 b (Nat.ne_of_lt (Nat.lt_of_lt_of_le (Heap.lt_size e) (I.ok.cab x c hfn hc)))).trans e1⟩
  ·by_cases hj:j=i
   ·subst hj
    rw [hi] at e1;cases e1
    rw [List.getElem?_set_self hiσ] at e2
    cases e2
    exact ⟨u,r,.inr ⟨.inl hk,c,hc,hc'⟩⟩
   ·rw [List.getElem?_set_ne (Ne.symm hj)] at e2
    obtain ⟨u',r',q⟩:=hl j y v' e1 e2 e3
    refine ⟨u',r',?_⟩
    rcases q with q|⟨k,c',e,z'⟩
    ·exact .inl q
    ·refine .inr ⟨k,c',e,z'.sameBut hs ?_⟩
     rintro rfl
     exact hj (sI hN e1 (I.ok.inj _ _ _ e hc▸hi))
  ·by_cases hcc:c'=c
   ·subst hcc;exact ⟨_,hc'⟩
   ·obtain ⟨w2,z2⟩:=I.cell y c' e
    exact ⟨w2,z2.sameBut hs hcc⟩
  ·obtain ⟨e,n,ne,nf,d⟩:=I.pin p hp
   refine ⟨(hs.2 p.1 ?_).trans e,n,ne,nf,d⟩
   intro q
   rw [q,hoc] at e
   have q':oc=p.2:=Option.some.inj e
   exact d w' (by rw [<- q'];exact hocd)
theorem oV {M:Model} {A:Around} {E:Value->Shared->Prop} {i:Nat} {x:Str} {v:V} {u:Value} {Q:Unit->Shared->Prop} (I:Inv X pins σ H s) (hN:X.N.Nodup) (hi:X.N[i]? =some x) (hx:Loc X.env.scope x) (r:RelV v u)
  (h:∀s',Inv X pins (σ.set i (some v)) H s'->Q () s') (hf:X.fn x=true\/X.env.scope.names.lookup x=some .local:=by first|exact .inl rfl|exact .inr rfl|assumption):wpAny M A (storeName X.env x u) Q E s:=
 u0 I hN hi hx r (fun s' I' _=>h s' I') hf
theorem Inv.call' {s':Shared} {ch:List Addr} (I:Inv X pins σ H s) (ho:s'.os=s.os) (u:Un (frs X.stack) ch H H' s.heap s'.heap) (hok:HOk X.prog X.w H' s'.heap) (hg:AllBare s'.gens)
  (hch:∀b∈ch,(b∈X.ex\/X.s₀.heap.objs.size<=b)/\b≠X.env.locals/\(∀x c,X.env.cells.lookup x=some c->c≠b)/\∀p∈X.pn++pins,p.1≠b):Inv X pins σ H' s':=by
 obtain ⟨h',g',d',t',o'⟩:=s'
 have e:o'=s.os:=ho
 subst e
 exact I.call (g':=g') (t':=t') (d':=d') u hok hg hch
end
noncomputable abbrev XK:=Value->Option Addr->Hp->Prop
noncomputable abbrev St:=List (Option V)
noncomputable abbrev VK:=V->Hp->Prop
noncomputable abbrev TE:=St->Hp->VK->Prop
noncomputable abbrev TT:=St->Hp->(Bool->Hp->Prop)->Prop
noncomputable abbrev TA:=St->Hp->(List V->Hp->Prop)->Prop
structure Ends where
 nx:St->Hp->Prop
 rt:VK
 bk:St->Hp->Prop:=fun _ _=>False
 ct:St->Hp->Prop:=fun _ _=>False
noncomputable abbrev TS:=Ends->St->Hp->Prop
noncomputable def EP (X:Cx) (pins:List (Addr×Obj)) (σ:St) (Q:VK) (u:Value) (s':Shared):Prop:=∃v H',Inv X pins σ H' s'/\RelV v u/\Q v H'
noncomputable def TP (X:Cx) (pins:List (Addr×Obj)) (σ:St) (Q:Bool->Hp->Prop) (b:Bool) (s':Shared):Prop:=∃H',Inv X pins σ H' s'/\Q b H'
noncomputable def AP (X:Cx) (pins:List (Addr×Obj)) (σ:St) (Q:List V->Hp->Prop) (us:List Value) (s':Shared):Prop:=∃vs H',Inv X pins σ H' s'/\Vals vs us/\Q vs H'
noncomputable def SP (X:Cx) (pins:List (Addr×Obj)) (D:Ends) (f:Flow) (s':Shared):Prop:=
 match f with
 |.next=>∃σ' H',Inv X pins σ' H' s'/\D.nx σ' H'
 |.brk=>∃σ' H',Inv X pins σ' H' s'/\D.bk σ' H'
 |.cont=>∃σ' H',Inv X pins σ' H' s'/\D.ct σ' H'
 |.ret u=>∃v σ' H',Inv X pins σ' H' s'/\RelV v u/\D.rt v H'
noncomputable def PE (X:Cx) (e:Expr) (t:TE):Prop:=
 ∀(pins:List (Addr×Obj)) (s:Shared) (σ:St) (H:Hp) (Q:VK),Inv X pins σ H s->t σ H Q->wpAny (model X.prog X.w) X.A (eval e X.env) (EP X pins σ Q) X.xe s
noncomputable def PT (X:Cx) (e:Expr) (t:TT):Prop:=
 ∀(pins:List (Addr×Obj)) (s:Shared) (σ:St) (H:Hp) (Q:Bool->Hp->Prop),Inv X pins σ H s->t σ H Q->wpAny (model X.prog X.w) X.A (isTrue e X.env (eval e X.env)) (TP X pins σ Q) X.xe s
noncomputable def PW (X:Cx) (e:Expr) (t:TT):Prop:=
 ∀(whole:Sem Value) (pins:List (Addr×Obj)) (s:Shared) (σ:St) (H:Hp) (Q:Bool->Hp->Prop),Inv X pins σ H s->t σ H Q->wpAny (model X.prog X.w) X.A (isTrue e X.env whole) (TP X pins σ Q) X.xe s
theorem PW.pt {X:Cx} {e:Expr} {t:TT} (h:PW X e t):PT X e t:=h _
noncomputable def PA (X:Cx) (es:List Expr) (t:TA):Prop:=
 ∀(pos:Pos) (pins:List (Addr×Obj)) (s:Shared) (σ:St) (H:Hp) (Q:List V->Hp->Prop),Inv X pins σ H s->t σ H Q->wpAny (model X.prog X.w) X.A (spliced (backTo pos (starEach es X.env))) (AP X pins σ Q) X.xe s
noncomputable def PS (X:Cx) (st:Stmt) (t:TS):Prop:=
 ∀(pins:List (Addr×Obj)) (s:Shared) (σ:St) (H:Hp) (D:Ends),Inv X pins σ H s->t D σ H->wpAny (model X.prog X.w) X.A (exec st X.env) (SP X pins D) X.xe s
noncomputable def PSs (X:Cx) (st:List Stmt) (t:TS):Prop:=
 ∀(pins:List (Addr×Obj)) (s:Shared) (σ:St) (H:Hp) (D:Ends),Inv X pins σ H s->t D σ H->wpAny (model X.prog X.w) X.A (execs st X.env) (SP X pins D) X.xe s
theorem thn {α:Type} {t:Sem α} {Q Q':α->Shared->Prop} {M:Model} {A:Around} {E:Value->Shared->Prop} {s:Shared} (h:wpAny M A t Q E s) (hQ:∀a s,Q a s->Q' a s):wpAny M A t Q' E s:=wpAny_mono h hQ fun _ _ x=>x
end L2
namespace L2
open PySem PySem.Spec PyProof.Rows
section
variable {X:Cx}
noncomputable def tVar (i:Nat):TE:=fun σ H Q=>∃v,σ[i]? =some (some v)/\Q v H
noncomputable def tC (v:V):TE:=fun _ H Q=>Q v H
theorem pe_var {i:Nat} {x:Str} {pos:Pos} (hN:X.N[i]? =some x) (hv:Vis X.env.scope x) (hd:(x==("__debug__":Str))=false:=by decide) (hcd:(x==("__classdict__":Str))=false:=by decide):PE X (.Name x pos) (tVar i):=by
 intro pins s σ H Q I h
 obtain ⟨v,e,h⟩:=h
 obtain ⟨m,hn,hl⟩:=I.loc
 obtain ⟨u,r,l⟩:=hl i x v hN e hv
 have fin:EP X pins σ Q u s:=⟨v,H,I,r,h⟩
 rcases l with ⟨hk,hm⟩|⟨hk,c,hc,hcell⟩
 ·exact wpAny_Name (wpAny_loadName_local I.ok.kind hk hn hm fin) hd
 ·rcases hk with hk|hk
  ·exact wpAny_Name (wpAny_loadName_cell I.ok.kind hk hc hcell fin) hd
  ·exact wpAny_Name (wpAny_loadName_free I.ok.kind hk hc hcell fin hcd) hd
theorem pe_int {i j pos}:PE X (.Constant (.int i) j pos) (tC (.int i)):=fun _ _ _ H _ I h=>wpAny_Constant_int ⟨.int i,H,I.tok _,⟨_,rfl⟩,h⟩
theorem pe_bl {b j pos}:PE X (.Constant (.bool b) j pos) (tC (.bl b)):=fun _ _ _ H _ I h=>Constant_bool ⟨.bl b,H,I,rfl,h⟩
theorem pe_non {j pos}:PE X (.Constant .none j pos) (tC .non):=fun _ _ _ H _ I h=>Constant_none ⟨.non,H,I,rfl,h⟩
noncomputable def Gl (X:Cx) (x:Str):Prop:=X.env.kindOf x=some .globalImplicit
theorem ka {E:Value->Shared->Prop} {pins:List (Addr×Obj)} {s:Shared} {σ:St} {H:Hp} {x:Str} {u:Value} {pos:Pos} {Q:Value->Shared->Prop} (I:Inv X pins σ H s) (hg:Gl X x) (hm:X.mg x=some u) (h:Q u s)
  (hd:(x==("__debug__":Str))=false:=by decide):wpAny (model X.prog X.w) X.A (eval (.Name x pos) X.env) Q E s:=
 Calls.Name_function_global I.ok.kind hg (Calls.loadGlobal_global (by rw [I.ok.glob];exact I.mod.glob.keeps I.bk) hm h) hd
theorem oO {E:Value->Shared->Prop} {pins:List (Addr×Obj)} {s:Shared} {σ:St} {H:Hp} {x:Str} {u:Value} {pos:Pos} {Q:Value->Shared->Prop} (I:Inv X pins σ H s) (hg:Gl X x) (hm:X.mg x=none) (hv:bootBuiltins x=some u) (h:Q u s)
  (hn:x≠"__name__":=by decide) (hd:(x==("__debug__":Str))=false:=by decide):wpAny (model X.prog X.w) X.A (eval (.Name x pos) X.env) Q E s:=by
 obtain ⟨mb,h1,h2⟩:=I.mod.blt
 exact Calls.Name_function_global I.ok.kind hg (Calls.loadGlobal_builtin (by rw [I.ok.glob];exact I.mod.glob.keeps I.bk) hm (by rw [I.ok.blt];exact h1.keeps I.bk) ((h2 x hn).trans hv) h) hd
theorem pe_glob {x:Str} {v:V} {u:Value} {pos:Pos} (hg:Gl X x) (hm:X.mg x=some u) (r:RelV v u) (hd:(x==("__debug__":Str))=false:=by decide):PE X (.Name x pos) (tC v):=
 fun _ _ _ H _ I h=>ka I hg hm ⟨v,H,I,r,h⟩ hd
theorem pe_bltn {x:Str} {v:V} {u:Value} {pos:Pos} (hg:Gl X x) (hm:X.mg x=none) (hv:bootBuiltins x=some u) (r:RelV v u) (hn:x≠"__name__":=by decide) (hd:(x==("__debug__":Str))=false:=by decide):PE X (.Name x pos) (tC v):=
 fun _ _ _ H _ I h=>oO I hg hm hv ⟨v,H,I,r,h⟩ hn hd
variable {a b:Expr} {ta tb:TE} {pos:Pos}
variable {tA tB':TT} {rest:List Expr}
noncomputable def tAnd (t u:TT):TT:=fun σ H Q=>t σ H fun c H1=>if c=true then u σ H1 Q else Q false H1
noncomputable def tOr (t u:TT):TT:=fun σ H Q=>t σ H fun c H1=>if c=true then Q true H1 else u σ H1 Q
noncomputable def tNot (t:TT):TT:=fun σ H Q=>t σ H fun c H1=>Q (!c) H1
theorem pw_and1 (ha:PT X a tA):PW X (.BoolOp .And [a] pos) tA:=by
 intro wh pins s σ H Q I h
 refine isTrue_and (thn (ha pins s σ H Q I h) fun c s1 e=>?_)
 cases c with
 |true=>exact isTrue_and_nil e
 |false=>exact e
theorem pw_or1 (ha:PT X a tA):PW X (.BoolOp .Or [a] pos) tA:=by
 intro wh pins s σ H Q I h
 refine isTrue_or (thn (ha pins s σ H Q I h) fun c s1 e=>?_)
 cases c with
 |false=>exact isTrue_or_nil e
 |true=>exact e
theorem pw_and (ha:PT X a tA) (hb:PW X (.BoolOp .And (b::rest) pos) tB'):PW X (.BoolOp .And (a::b::rest) pos) (tAnd tA tB'):=by
 intro wh pins s σ H Q I h
 refine isTrue_and (thn (ha pins s σ H _ I h) fun c s1 ⟨H1,I1,q1⟩=>?_)
 cases c with
 |true=>exact hb wh pins s1 σ H1 Q I1 q1
 |false=>exact ⟨H1,I1,q1⟩
theorem pw_or (ha:PT X a tA) (hb:PW X (.BoolOp .Or (b::rest) pos) tB'):PW X (.BoolOp .Or (a::b::rest) pos) (tOr tA tB'):=by
 intro wh pins s σ H Q I h
 refine isTrue_or (thn (ha pins s σ H _ I h) fun c s1 ⟨H1,I1,q1⟩=>?_)
 cases c with
 |true=>exact ⟨H1,I1,q1⟩
 |false=>exact hb wh pins s1 σ H1 Q I1 q1
theorem pt_not (ha:PT X a tA):PT X (.UnaryOp .Not a pos) (tNot tA):=by
 intro pins s σ H Q I h
 exact isTrue_not (ha pins s σ H (fun c H1=>Q (!c) H1) I h)
noncomputable def tAndV (ta tb:TE):TE:=fun σ H Q=>ta σ H fun x H1=>∃c,x=.bl c/\if c=true then tb σ H1 Q else Q (.bl false) H1
theorem pe_one {op} {t:TE} (h:PE X a t):PE X (.BoolOp op [a] pos) t:=fun pins s σ H Q I hw=>BoolOp_one (h pins s σ H Q I hw)
theorem pe_and (ha:PE X a ta) (hb:PE X (.BoolOp .And (b::rest) pos) tb):PE X (.BoolOp .And (a::b::rest) pos) (tAndV ta tb):=by
 intro pins s σ H Q I h
 refine BoolOp_and (thn (ha pins s σ H _ I h) fun v s1 ⟨x,H1,I1,r1,q1⟩=>?_)
 obtain ⟨c,rfl,q1⟩:=q1
 cases r1
 refine wpAny_truthy_bool ?_
 cases c with
 |true=>exact hb pins s1 σ H1 Q I1 q1
 |false=>exact ⟨.bl false,H1,I1,rfl,q1⟩
noncomputable def tIf (t:TT) (ta tb:TE):TE:=fun σ H Q=>t σ H fun c H1=>if c=true then ta σ H1 Q else tb σ H1 Q
theorem pe_ifExp {c:Expr} (hc:PT X c tA) (ha:PE X a ta) (hb:PE X b tb):PE X (.IfExp c a b pos) (tIf tA ta tb):=by
 intro pins s σ H Q I h
 refine wpAny_IfExp (thn (hc pins s σ H _ I h) fun d s1 ⟨H1,I1,q1⟩=>?_)
 cases d with
 |true=>exact ha pins s1 σ H1 Q I1 q1
 |false=>exact hb pins s1 σ H1 Q I1 q1
end
end L2
namespace L2
open PySem PySem.Spec PyProof.Rows
noncomputable def SqL (K:PySem.W.Frag) (H:Hp) (a:Addr) (xs:List V):Prop:=
 Rd H a (.lst xs) \/
  ∃(o:Obj) (its:Array Value) (n:Nat),K.lookup a=some o/\o.cls=.type "list"/\o.dict=none/\o.data=.seq its n/\its.size<=sizeLine/\Vals xs its.toList
noncomputable def SqT (K:PySem.W.Frag) (H:Hp) (a:Addr) (xs:List V):Prop:=
 Rd H a (.tup xs) \/
  ∃(o:Obj) (its:Array Value) (n:Nat),K.lookup a=some o/\o.cls=.type "tuple"/\o.data=.seq its n/\its.size<=sizeLine/\Vals xs its.toList
noncomputable def absV:Value->Option V
 |.none=>some .non
 |.bool b=>some (.bl b)
 |.int i _=>some (.int i)
 |.str x _=>some (.str x)
 |.bytes b _=>some (.byt b)
 |.float b _=>some (.flt b)
 |.ref a=>some (.ref a)
 |.type n=>some (.ty n)
 |_=>none
theorem RelV.abs {x:V} {u:Value} (r:RelV x u):absV u=some x:=by
 cases x with
 |non=>cases r;rfl
 |bl _=>cases r;rfl
 |int _=>obtain ⟨t,rfl⟩:=r;rfl
 |str _=>obtain ⟨t,rfl⟩:=r;rfl
 |byt _=>obtain ⟨t,rfl⟩:=r;rfl
 |flt _=>obtain ⟨t,rfl⟩:=r;rfl
 |ref _=>cases r;rfl
 |ty _=>cases r;rfl
theorem RelV.inj {x y:V} {u:Value} (r:RelV x u) (q:RelV y u):x=y:=Option.some.inj (r.abs.symm.trans q.abs)
theorem Vals.inj:∀{xs ys:List V} {us:List Value},Vals xs us->Vals ys us->xs=ys
 |_,_,_,.nil,.nil=>rfl
 |_,_,_,.cons r t,.cons r' t'=>by rw [r.inj r',Vals.inj t t']
section
variable {X:Cx} {pins:List (Addr×Obj)} {σ:St} {H:Hp} {s:Shared} {a:Addr} {xs ys:List V}
theorem SqL.of {K:PySem.W.Frag} (h:H a=some (.lst xs)):SqL K H a xs:=.inl (.inl h)
theorem SqT.of {K:PySem.W.Frag} (h:H a=some (.tup xs)):SqT K H a xs:=.inl (.inl h)
theorem Inv.list (I:Inv X pins σ H s) (h:SqL X.K H a xs):∃its:List Value,Vals xs its/\PlainL s.heap a its.toArray/\xs.length<=sizeLine:=by
 rcases h with h|⟨o,its,n,hk,hc,hd,hs,hz,r⟩
 ·obtain ⟨z,its,n,r,e⟩:=h.ok I.hok
  exact ⟨its,r,⟨_,n,e,rfl,rfl,rfl⟩,z⟩
 ·refine ⟨its.toList,r,⟨o,n,I.kIn a o hk,hc,hd,by simpa using hs⟩,?_⟩
  have e:=r.length
  simp only [Array.length_toList] at e
  omega
theorem Inv.tuple (I:Inv X pins σ H s) (h:SqT X.K H a xs):∃its:List Value,Vals xs its/\IsTup s.heap a its.toArray/\xs.length<=sizeLine:=by
 rcases h with h|⟨o,its,n,hk,hc,hs,hz,r⟩
 ·obtain ⟨z,its,r,p⟩:=h.ok I.hok
  exact ⟨its,r,p,z⟩
 ·refine ⟨its.toList,r,⟨o,I.kIn a o hk,hc,n,by simpa using hs⟩,?_⟩
  have e:=r.length
  simp only [Array.length_toList] at e
  omega
theorem Inv.xy (I:Inv X pins σ H s) (h:SqL X.K H a xs) (h':SqL X.K H a ys):xs=ys:=by
 obtain ⟨its,r,⟨o,n,e,_,_,d⟩,_⟩:=I.list h
 obtain ⟨its',r',⟨o',n',e',_,_,d'⟩,_⟩:=I.list h'
 rw [e] at e';cases e'
 rw [d] at d'
 injection d' with d1 _
 have:its=its':=by simpa using congrArg Array.toList d1
 subst this
 exact r.inj r'
theorem Inv.zu (I:Inv X pins σ H s) (h:SqT X.K H a xs) (h':SqT X.K H a ys):xs=ys:=by
 obtain ⟨its,r,⟨o,e,_,n,d⟩,_⟩:=I.tuple h
 obtain ⟨its',r',⟨o',e',_,n',d'⟩,_⟩:=I.tuple h'
 rw [e] at e';cases e'
 rw [d] at d'
 injection d' with d1 _
 have:its=its':=by simpa using congrArg Array.toList d1
 subst this
 exact r.inj r'
end
noncomputable abbrev Cx.tK (X:Cx) (E:Value->Shared->Prop):Cx:={X with xe:=E}
noncomputable abbrev Cx.nox (X:Cx):Cx:=X.tK fun _ _=>False
theorem Cx.Ok.tK {X:Cx} (ok:X.Ok) (E:Value->Shared->Prop):(X.tK E).Ok:=
 ⟨ok.mod,ok.kind,ok.glob,ok.blt,ok.above,ok.inj,ok.has,ok.cab,ok.hd,ok.frames,ok.stk,ok.exf,ok.bs,ok.bsz,ok.noex,ok.exfs,ok.uI,ok.frf⟩
theorem Cx.Ok.kU {X:Cx} {E:Value->Shared->Prop} (ok:(X.tK E).Ok):X.Ok:=
 ⟨ok.mod,ok.kind,ok.glob,ok.blt,ok.above,ok.inj,ok.has,ok.cab,ok.hd,ok.frames,ok.stk,ok.exf,ok.bs,ok.bsz,ok.noex,ok.exfs,ok.uI,ok.frf⟩
section
variable {X:Cx} {pins:List (Addr×Obj)} {σ:St} {H:Hp} {s:Shared} {E:Value->Shared->Prop}
theorem Inv.tK (I:Inv X pins σ H s) (E:Value->Shared->Prop):Inv (X.tK E) pins σ H s:=⟨I.ok.tK E,I.os,I.bare,I.base,I.loc,I.cell,I.free,I.freeC,I.pin,I.hok,I.len⟩
theorem Inv.kU (I:Inv (X.tK E) pins σ H s):Inv X pins σ H s:=⟨I.ok.kU,I.os,I.bare,I.base,I.loc,I.cell,I.free,I.freeC,I.pin,I.hok,I.len⟩
theorem SP.kU {D:Ends} {f:Flow} {s':Shared} (h:SP (X.tK E) pins D f s'):SP X pins D f s':=by
 cases f with
 |next=>obtain ⟨σ',H',I,q⟩:=h;exact ⟨σ',H',I.kU,q⟩
 |brk=>obtain ⟨σ',H',I,q⟩:=h;exact ⟨σ',H',I.kU,q⟩
 |cont=>obtain ⟨σ',H',I,q⟩:=h;exact ⟨σ',H',I.kU,q⟩
 |ret u=>obtain ⟨v,σ',H',I,r,q⟩:=h;exact ⟨v,σ',H',I.kU,r,q⟩
theorem PSs.nox {st:List Stmt} {t:TS} (h:PSs X.nox st t):PSs X st t:=fun pins s σ H D I hw=>
 wpAny_mono (h pins s σ H D (I.tK _) hw) (fun _ _ q=>q.kU) fun _ _ z=>False.elim z
end
section
variable {X:Cx} {st:Stmt} {rest:List Stmt} {t u:TS} {e:Expr} {te:TE} {pos:Pos}
noncomputable def tNext:TS:=fun D σ H=>D.nx σ H
noncomputable def tSeq (t u:TS):TS:=fun D σ H=>t {D with nx:=u D} σ H
theorem zS:PSs X [] tNext:=fun _ _ σ H _ I h=>wpAny_execs_nil ⟨σ,H,I,h⟩
theorem oY (h1:PS X st t) (h2:PSs X rest u):PSs X (st::rest) (tSeq t u):=by
 intro pins s σ H D I h
 refine wpAny_execs_cons (thn (h1 pins s σ H {D with nx:=u D} I h) fun f s1 q=>?_)
 cases f with
 |next=>
  obtain ⟨σ',H',I',q⟩:=q
  exact h2 pins s1 σ' H' D I' q
 |ret v=>exact q
 |brk=>exact q
 |cont=>exact q
theorem pG (h1:PS X st t):PSs X [st] t:=by
 intro pins s σ H D I h
 refine wpAny_execs_cons (thn (h1 pins s σ H D I h) fun f s1 q=>?_)
 cases f with
 |next=>exact wpAny_execs_nil q
 |ret v=>exact q
 |brk=>exact q
 |cont=>exact q
theorem Inv.quiet {pins:List (Addr×Obj)} {σ:St} {H:Hp} {s:Shared} (I:Inv X pins σ H s):interactive X.env=false:=by simp [interactive,I.ok.kind]
noncomputable def tDrop (te:TE):TS:=fun D σ H=>te σ H fun _ H1=>D.nx σ H1
theorem vO (he:PE X e te) (hs:swapsWith e none pos.line X.env=pure false:=by rfl):PS X (.Expr e pos) (tDrop te):=by
 intro pins s σ H D I h
 exact wpAny_Expr_any (thn (he pins s σ H _ I h) fun v s1 ⟨x,H1,I1,r1,q1⟩=>⟨σ,H1,I1,q1⟩) I.quiet hs
noncomputable def tRet (te:TE):TS:=fun D σ H=>te σ H D.rt
theorem ps_ret (he:PE X e te):PS X (.Return (some e) pos) (tRet te):=by
 intro pins s σ H D I h
 exact wpAny_Return_some (thn (he pins s σ H _ I h) fun v s1 ⟨x,H1,I1,r1,q1⟩=>⟨x,σ,H1,I1,r1,q1⟩)
noncomputable def tIfS (c:TT) (t u:TS):TS:=fun D σ H=>c σ H fun b H1=>if b=true then t D σ H1 else u D σ H1
theorem ps_if {c:Expr} {a b:List Stmt} {tc:TT} (hc:PT X c tc) (ha:PSs X a t) (hb:PSs X b u):PS X (.If c a b pos) (tIfS tc t u):=by
 intro pins s σ H D I h
 refine wpAny_If (thn (hc pins s σ H _ I h) fun d s1 ⟨H1,I1,q1⟩=>?_)
 cases d with
 |true=>exact ha pins s1 σ H1 D I1 q1
 |false=>exact hb pins s1 σ H1 D I1 q1
noncomputable def tNever:TS:=fun _ _ _=>False
theorem uc {sts:List Stmt}:PSs X sts tNever:=fun _ _ _ _ _ _ h=>h.elim
end
noncomputable abbrev TG:=V->St->Hp->(St->Hp->Prop)->Prop
noncomputable abbrev TGs:=List V->St->Hp->(St->Hp->Prop)->Prop
noncomputable def PG (X:Cx) (target:Expr) (t:TG):Prop:=
 ∀(pins:List (Addr×Obj)) (s:Shared) (σ:St) (H:Hp) (v:V) (u:Value) (Q:St->Hp->Prop),Inv X pins σ H s->RelV v u->t v σ H Q ->
  wpAny (model X.prog X.w) X.A (assign target X.env u) (fun _ s'=>∃σ' H',Inv X pins σ' H' s'/\Q σ' H') X.xe s
noncomputable def PGs (X:Cx) (ts:List Expr) (t:TGs):Prop:=
 ∀(pins:List (Addr×Obj)) (s:Shared) (σ:St) (H:Hp) (vs:List V) (us:List Value) (Q:St->Hp->Prop),Inv X pins σ H s->Vals vs us->t vs σ H Q ->
  wpAny (model X.prog X.w) X.A (assignInOrder ((assignEach ts X.env).map (·.2)) us) (fun _ s'=>∃σ' H',Inv X pins σ' H' s'/\Q σ' H') X.xe s
noncomputable abbrev TSet:=V->V->V->Hp->(Hp->Prop)->Prop
noncomputable def PSet (X:Cx) (t:TSet):Prop:=
 ∀(pins:List (Addr×Obj)) (s:Shared) (σ:St) (H:Hp) (o i v:V) (ov iv u:Value) (Q:Hp->Prop),Inv X pins σ H s->RelV o ov->RelV i iv->RelV v u->t o i v H Q ->
  wpAny (model X.prog X.w) X.A (setItem ov iv u) (fun _ s'=>∃H',Inv X pins σ H' s'/\Q H') X.xe s
section
variable {X:Cx} {pos:Pos}
noncomputable def qK (i:Nat):TG:=fun v σ H Q=>Q (σ.set i (some v)) H
theorem vQ {i:Nat} {x:Str} (hN:X.N.Nodup) (hi:X.N[i]? =some x) (hx:Loc X.env.scope x) (hf:X.fn x=true\/X.env.scope.names.lookup x=some .local:=by first|exact .inl rfl|exact .inr rfl|assumption):PG X (.Name x pos) (qK i):=by
 intro pins s σ H v u Q I r h
 exact wpAny_assign_Name (oV I hN hi hx r (fun s' I'=>⟨_,H,I',h⟩) hf)
noncomputable def gNil:TGs:=fun vs σ H Q=>vs=[]/\Q σ H
noncomputable def gCons (t:TG) (u:TGs):TGs:=fun vs σ H Q=>∃v r,vs=v::r/\t v σ H fun σ' H'=>u r σ' H' Q
theorem pgs_nil:PGs X [] gNil:=by
 intro pins s σ H vs us Q I r h
 obtain ⟨e,h⟩:=h
 subst e
 cases r
 exact assignInOrder_nil ⟨σ,H,I,h⟩
theorem xr {e:Expr} {es:List Expr} {t:TG} {u:TGs} (h1:PG X e t) (h2:PGs X es u)
  (hs:(assignEach (e::es) X.env).map (·.2)=assign e X.env::(assignEach es X.env).map (·.2):=by rfl):PGs X (e::es) (gCons t u):=by
 intro pins s σ H vs us Q I r h
 obtain ⟨v,vr,e1,h⟩:=h
 subst e1
 cases r with
 |cons r rr=>
  rw [hs]
  refine assignInOrder_cons (thn (h1 pins s σ H _ _ _ I r h) fun _ s1 ⟨σ1,H1,I1,q1⟩=>?_)
  exact h2 pins s1 σ1 H1 _ _ Q I1 rr q1
noncomputable def gTup (K:PySem.W.Frag) (n:Nat) (t:TGs):TG:=fun v σ H Q=>∃a xs,v=.ref a/\SqT K H a xs/\xs.length=n/\t xs σ H Q
theorem pg_tup {es:List Expr} {k:Nat} {t:TGs} {n:Nat} (hc:X.calm=true) (h:PGs X es t)
  (hn:(assignEach es X.env).length=n:=by rfl) (hst:(assignEach es X.env).findIdx? (·.1)=none:=by rfl):PG X (.Tuple es k pos) (gTup X.K n t):=by
 intro pins s σ H v u Q I r hw
 obtain ⟨a,xs,e1,hq,hl,hw⟩:=hw
 subst e1
 cases r
 obtain ⟨its,rv,ht,hz⟩:=I.tuple hq
 refine assign_Tuple_tuple (I.ok.hd hc) ht (by simp [hn,<- hl,rv.length]) hst fun h' hx=>?_
 have I1:Inv X pins σ H {s with heap:=h'}:=I.kept (t':=s.toks) fun b o e=>hx b o (Nat.ne_of_lt (Heap.lt_size e)) e
 exact h pins _ σ H xs _ Q I1 (by simpa using rv) hw
noncomputable def gSub (to ti:TE) (t:TSet):TG:=fun v σ H Q=>to σ H fun o H1=>ti σ H1 fun i H2=>t o i v H2 fun H3=>Q σ H3
theorem pg_sub {o i:Expr} {to ti:TE} {t:TSet} (ho:PE X o to) (hi:PE X i ti) (hs:PSet X t)
  (ha:∀v,assign (.Subscript o i pos) X.env v=(do
   let ov <- holding [v] (eval o X.env)
   let iv <- holding [v,ov] (eval i X.env)
   standAt pos
   holding [v,ov,iv] (setItem ov iv v)
   release [v,ov,iv] []):=by intro _;rfl):PG X (.Subscript o i pos) (gSub to ti t):=by
 intro pins s σ H v u Q I r h
 rw [ha]
 refine wpAny_bind (wpAny_holding (thn (ho pins s σ H _ I h) fun ov s1 ⟨x,H1,I1,r1,q1⟩=>?_))
 refine wpAny_bind (wpAny_holding (thn (hi pins s1 σ H1 _ I1 q1) fun iv s2 ⟨y,H2,I2,r2,q2⟩=>?_))
 refine wpAny_bind (wpAny_standAt (wpAny_bind (wpAny_holding (thn (hs pins s2 σ H2 x y v ov iv u _ I2 r1 r2 r q2) fun _ s3 ⟨H3,I3,q3⟩=>?_))))
 exact wpAny_release ⟨σ,H3,I3,q3⟩
noncomputable def tAsg (te:TE) (g:TG):TS:=fun D σ H=>te σ H fun x H1=>g x σ H1 D.nx
theorem ps_asg {tg e:Expr} {te:TE} {g:TG} (he:PE X e te) (hg:PG X tg g) (hs:swapsWithSole [tg] e pos.line X.env=pure false:=by rfl) (hw:swappedStores [tg] e X.env=pure none:=by rfl)
  (h1:(assignEach [tg] X.env).map (·.2)=[assign tg X.env]:=by rfl):PS X (.Assign [tg] e pos) (tAsg te g):=by
 intro pins s σ H D I h
 refine wpAny_Assign_stores (thn (he pins s σ H _ I h) fun v s1 ⟨x,H1,I1,r1,q1⟩=>?_) hs hw
 rw [h1]
 exact thn (hg pins s1 σ H1 x v _ I1 r1 q1) fun _ s2 q=>q
theorem zT {i:Nat} {x:Str} {e:Expr} {te:TE} {pos':Pos} (hN:X.N.Nodup) (hi:X.N[i]? =some x) (hx:Loc X.env.scope x) (he:PE X e te) (hs:swapsWith e (some (.Name x pos')) pos.line X.env=pure false:=by rfl) (hf:X.fn x=true\/X.env.scope.names.lookup x=some .local:=by first|exact .inl rfl|exact .inr rfl|assumption) :
  PS X (.Assign [.Name x pos'] e pos) (tAsg te (qK i)):=by
 intro pins s σ H D I h
 refine wpAny_Assign_Name (thn (he pins s σ H _ I h) fun v s1 ⟨y,H1,I1,r1,q1⟩=>?_) hs
 exact oV I1 hN hi hx r1 (fun s2 I2=>⟨_,H1,I2,q1⟩) hf
end
structure It where
 go:Nat->Hp->Prop
 yld:Nat->Hp->V->Hp->Prop
 stop:Nat->Hp->Prop
noncomputable def zd (X:Cx) (pins:List (Addr×Obj)) (H:Hp) (b:Addr):Prop:=
 H b=none/\b≠X.env.locals/\b∉X.fs/\(b∈X.ex\/X.s₀.heap.objs.size<=b)/\(∀x c,X.env.cells.lookup x=some c->c≠b)/\∀p∈X.pn++pins,p.1≠b
theorem Inv.fpOk {X:Cx} {pins:List (Addr×Obj)} {σ:St} {H H':Hp} {s:Shared} {b:Addr} (I:Inv X pins σ H s) (hb:s.heap.objs.size<=b) (hn:H' b=none):zd X pins H' b:=by
 refine ⟨hn,Nat.ne_of_gt (Nat.lt_of_lt_of_le I.lt hb),I.nofs hb,.inr (Nat.le_trans I.sz hb),fun x c e z=>?_,fun p hp z=>?_⟩
 ·obtain ⟨v,q⟩:=I.cell x c e
  exact absurd (Nat.lt_of_lt_of_le q.lt (by rw [z];exact hb)) (Nat.lt_irrefl _)
 ·exact absurd (Nat.lt_of_lt_of_le (Heap.lt_size (I.pin p hp).1) (by rw [z];exact hb)) (Nat.lt_irrefl _)
structure Turn (P:Program) (w:World) (K:PySem.W.Frag) (tg:Expr) (J:It) (fp:List Addr) (it:Addr) (tn:Nat->Heap->Prop):Prop where
 mem:it∈fp
 obj:∀i h,tn i h->∀b∈fp,∃o,h.get? b=some o/\∀v,o.data≠.cell v
 keep:∀i h h',tn i h->(∀b∈fp,∀o,h.get? b=some o->h'.get? b=some o)->tn i h'
 item:∀(X:Cx),X.prog=P->X.w=w->X.K=K->X.calm=true->∀(i:Nat) (pins:List (Addr×Obj)) (s:Shared) (σ:St) (H:Hp) (E:Value->Shared->Prop),Inv X pins σ H s->(∀b∈fp,zd X pins H b)->tn i s.heap->J.go i H ->
  wpAny (model P w) X.A (pyNext (.ref it)) (fun r s1=>∃u,r=some u /\
   wpAny (model P w) X.A (letOwnedTupleGo tg (.ref it) u) (fun _ s2=>∃x H',Inv X pins σ H' s2/\RelV x u/\J.yld i H x H'/\tn (i+1) s2.heap/\∀b∈fp,H' b=none) E s1) E s
 done:∀(X:Cx),X.prog=P->X.w=w->X.K=K->X.calm=true->∀(i:Nat) (pins:List (Addr×Obj)) (s:Shared) (σ:St) (H:Hp) (E:Value->Shared->Prop),Inv X pins σ H s->(∀b∈fp,zd X pins H b)->tn i s.heap->J.stop i H ->
  wpAny (model P w) X.A (pyNext (.ref it)) (fun r s1=>r=none/\Inv X pins σ H s1) E s
 self:∀(A:Around) (i:Nat) (s:Shared) (Q:Value->Shared->Prop) (E:Value->Shared->Prop),tn i s.heap->Q (.ref it) s->wpAny (model P w) A (pyIter (.ref it)) Q E s
noncomputable abbrev TI:=St->Hp->(It->Hp->Prop)->Prop
noncomputable def PIE (X:Cx) (pins:List (Addr×Obj)) (σ:St) (tg:Expr) (R:It->Hp->Prop) (itv:Value) (s2:Shared):Prop:=
 ∃(it:Addr) (fp:List Addr) (tn:Nat->Heap->Prop) (J:It) (H':Hp),itv=.ref it/\Inv X pins σ H' s2/\Turn X.prog X.w X.K tg J fp it tn/\tn 0 s2.heap/\(∀b∈fp,zd X pins H' b)/\R J H'
noncomputable def PI (X:Cx) (tg iter:Expr) (wi:TI):Prop:=
 ∀(pins:List (Addr×Obj)) (s:Shared) (σ:St) (H:Hp) (R:It->Hp->Prop),Inv X pins σ H s->wi σ H R ->
  wpAny (model X.prog X.w) X.A (eval iter X.env) (fun v s1=>wpAny (model X.prog X.w) X.A (pyIter v) (PIE X pins σ tg R) X.xe s1) X.xe s
theorem go_of {M : Model} {A : Around} {E : Value -> Shared -> Prop} {s : Shared} {tg : Expr} {it : Addr} {u : Value} {o : Obj} {n : String} {vs : Array Value} {Q : Unit -> Shared -> Prop} (ho : s.heap.get? it = some o) (hc : o.cls = .type n) (hd : o.data = .fields vs)
    (hn : ["enumerate", "zip", "dict_itemiterator", "dict_reverseitemiterator", "odict_iterator", "itertools.zip_longest", "itertools.pairwise"].contains n = false) (hQ : Q () s) : wpAny M A (letOwnedTupleGo tg (.ref it) u) Q E s := by
  unfold letOwnedTupleGo
  cases tg <;> first
    | exact wpAny_pure hQ
    | (cases u <;> first
        | exact wpAny_pure hQ
        | (refine wpAny_bind (wpAny_load ho ?_)
           rw [hc, hd]
           show wpAny M A (if (["enumerate", "zip", "dict_itemiterator", "dict_reverseitemiterator", "odict_iterator", "itertools.zip_longest", "itertools.pairwise"].contains n && vs[0]? == some (rawInt _)) = true then _ else _) Q E s
           rw [if_neg (by intro h; rw [hn, Bool.false_and] at h; cases h)]
           exact wpAny_pure hQ))
noncomputable def Itl (K:PySem.W.Frag) (a:Addr):It:=
 ⟨fun i H=>∃xs x,SqL K H a xs/\xs[i]? =some x,fun i H x H'=>H'=H/\∀xs,SqL K H a xs->xs[i]? =some x,fun i H=>∃xs,SqL K H a xs/\xs.length<=i⟩
noncomputable def Itt (K:PySem.W.Frag) (a:Addr):It:=
 ⟨fun i H=>∃xs x,SqT K H a xs/\xs[i]? =some x,fun i H x H'=>H'=H/\∀xs,SqT K H a xs->xs[i]? =some x,fun i H=>∃xs,SqT K H a xs/\xs.length<=i⟩
noncomputable def Itr (lo:Int) (n:Nat):It:=⟨fun i _=>i<n,fun i H x H'=>H'=H/\x=.int (lo+i),fun i _=>n<=i⟩
theorem zr {P:Program} {w:World} {K:PySem.W.Frag} {tg:Expr} (a it:Addr):Turn P w K tg (Itl K a) [it] it (fun i h=>h.IsListIter it a i) where
 mem:=by simp
 obj:=fun i h st b hb=>by
  have e:b=it:=by simpa using hb
  subst e
  obtain ⟨o,e,c,d⟩:=st
  exact ⟨o,e,fun v z=>by rw [d] at z;cases z⟩
 keep:=fun i h h' st k=>st.at fun o e=>k it (by simp) o e
 item:=by
  intro X hP hw hK hc i pins s σ H E I hf st hg
  subst hP hw hK
  obtain ⟨xs,x,hq,hx⟩:=hg
  obtain ⟨its,rv,p,hz⟩:=I.list hq
  obtain ⟨u,hu,ru⟩:=rv.get hx
  obtain ⟨f0,f1,f2,f3,f4,f5⟩:=hf it (by simp)
  refine wpAny_pyNext_list_item st p.isList (x:=u) (by simpa using hu) fun h' st' sb=>?_
  have I1:Inv X pins σ H {s with heap:=h'}:=I.turned (t':=s.toks) (fun b o hb e=>(sb.2 b hb).trans e) f0 f1 f3 f4 f5
  obtain ⟨o,e,c,d⟩:=id st'
  exact ⟨u,rfl,go_of (s:={s with heap:=h'}) e c d (by decide) ⟨x,H,I1,ru,⟨rfl,fun ys hy=>by rw [I.xy hy hq];exact hx⟩,st',fun b hb=>(hf b hb).1⟩⟩
 done:=by
  intro X hP hw hK hc i pins s σ H E I hf st hg
  subst hP hw hK
  obtain ⟨xs,hq,hx⟩:=hg
  obtain ⟨its,rv,p,hz⟩:=I.list hq
  obtain ⟨f0,f1,f2,f3,f4,f5⟩:=hf it (by simp)
  have hl:=rv.length
  exact wpAny_pyNext_list_end (I.ok.hd hc) st p.isList (by simp;omega) fun h' eb=>⟨rfl,I.turned (t':=s.toks) (fun b o hb e=>eb b o hb e) f0 f1 f3 f4 f5⟩
 self:=fun _ _ _ _ _ st h=>wpAny_pyIter_listiter st h
theorem yj {P:Program} {w:World} {K:PySem.W.Frag} {tg:Expr} (a it:Addr):Turn P w K tg (Itt K a) [it] it (fun i h=>h.IsTupleIter it a i) where
 mem:=by simp
 obj:=fun i h st b hb=>by
  have e:b=it:=by simpa using hb
  subst e
  obtain ⟨o,e,c,d⟩:=st
  exact ⟨o,e,fun v z=>by rw [d] at z;cases z⟩
 keep:=fun i h h' st k=>st.at fun o e=>k it (by simp) o e
 item:=by
  intro X hP hw hK hc i pins s σ H E I hf st hg
  subst hP hw hK
  obtain ⟨xs,x,hq,hx⟩:=hg
  obtain ⟨its,rv,p,hz⟩:=I.tuple hq
  obtain ⟨u,hu,ru⟩:=rv.get hx
  obtain ⟨f0,f1,f2,f3,f4,f5⟩:=hf it (by simp)
  refine wpAny_pyNext_tuple_item st (show s.heap.IsTuple a its.toArray from p) (x:=u) (by simpa using hu) fun h' st' sb=>?_
  have I1:Inv X pins σ H {s with heap:=h'}:=I.turned (t':=s.toks) (fun b o hb e=>(sb.2 b hb).trans e) f0 f1 f3 f4 f5
  obtain ⟨o,e,c,d⟩:=id st'
  exact ⟨u,rfl,go_of (s:={s with heap:=h'}) e c d (by decide) ⟨x,H,I1,ru,⟨rfl,fun ys hy=>by rw [I.zu hy hq];exact hx⟩,st',fun b hb=>(hf b hb).1⟩⟩
 done:=by
  intro X hP hw hK hc i pins s σ H E I hf st hg
  subst hP hw hK
  obtain ⟨xs,hq,hx⟩:=hg
  obtain ⟨its,rv,p,hz⟩:=I.tuple hq
  obtain ⟨f0,f1,f2,f3,f4,f5⟩:=hf it (by simp)
  have hl:=rv.length
  exact wpAny_pyNext_tuple_end (I.ok.hd hc) st (show s.heap.IsTuple a its.toArray from p) (by simp;omega) fun h' eb=>⟨rfl,I.turned (t':=s.toks) (fun b o hb e=>eb b o hb e) f0 f1 f3 f4 f5⟩
 self:=fun _ _ _ _ _ st h=>wpAny_pyIter_tupleiter st h
theorem yk {P:Program} {w:World} {K:PySem.W.Frag} {tg:Expr} (it:Addr) (lo:Int) (n:Nat):Turn P w K tg (Itr lo n) [it] it (fun i h=>IsRangeIter h it (lo+(i:Nat)*1) ((n:Int)-(i:Nat)) 1) where
 mem:=by simp
 obj:=fun i h st b hb=>by
  have e:b=it:=by simpa using hb
  subst e
  exact ⟨_,st,fun v z=>by
   have z':Data.fields _=Data.cell v:=z
   cases z'⟩
 keep:=fun i h h' st k=>k it (by simp) _ st
 item:=by
  intro X hP hw hK hc i pins s σ H E I hf st hg
  subst hP hw hK
  obtain ⟨f0,f1,f2,f3,f4,f5⟩:=hf it (by simp)
  have W:=Walks.range (prog:=X.prog) (w:=X.w) (I.ok.hd hc) it lo 1 n
  refine W.item i s _ _ hg st fun v h' tk hv st' kk=>?_
  obtain ⟨t,rfl⟩:=hv
  have I1:Inv X pins σ H {s with heap:=h',toks:=tk}:=I.turned (fun b o hb e=>kk b o (by simpa using hb) e) f0 f1 f3 f4 f5
  refine ⟨_,rfl,go_of (s:={s with heap:=h',toks:=tk}) (n:="range_iterator") st' rfl rfl (by decide) ⟨.int (lo+i),H,I1,⟨t,?_⟩,⟨rfl,rfl⟩,st',fun b hb=>(hf b hb).1⟩⟩
  rw [Int.mul_one]
 done:=by
  intro X hP hw hK hc i pins s σ H E I hf st hg
  subst hP hw hK
  obtain ⟨f0,f1,f2,f3,f4,f5⟩:=hf it (by simp)
  exact wpAny_pyNext_range_end (I.ok.hd hc) st (by have:n<=i:=hg;omega) fun h' eb=>⟨rfl,I.turned (t':=s.toks) (fun b o hb e=>eb b o hb e) f0 f1 f3 f4 f5⟩
 self:=fun _ _ _ _ _ st h=>wpAny_pyIter_rangeiter st h
end L2
namespace L2
open PySem PySem.Spec PyProof.Rows
section
variable {X:Cx} {tg:Expr}
theorem range_it {pins:List (Addr×Obj)} {σ:St} {H:Hp} {s:Shared} {R:It->Hp->Prop} {E:Value->Shared->Prop} {lo hi:Int} {t u v:Tok} {tk:Nat} (I:Inv X pins σ H s) (h1: -(2^62)<=lo) (h2:lo<2^62) (h3: -(2^62)<=hi) (h4:hi<2^62)
  (q:R (Itr lo (hi-lo).toNat) H):wpAny (model X.prog X.w) X.A (pyIter (.ref s.heap.objs.size)) (PIE X pins σ tg R) E {s with heap:=s.heap.push {cls:=.type "range",data:=.fields #[.int lo t,.int hi u,.int 1 v]},toks:=tk}:=by
 refine wpAny_pyIter_range (IsRange.new ..) (small_one h1 h2 h3 h4) ?_
 have I1:Inv X pins σ H {s with heap:=s.heap.push {cls:=.type "range",data:=.fields #[.int lo t,.int hi u,.int 1 v]},toks:=tk}:=I.kept fun b o e=>Heap.get?_push_of_some _ e
 refine ⟨(s.heap.push {cls:=.type "range",data:=.fields #[.int lo t,.int hi u,.int 1 v]}).objs.size,[(s.heap.push {cls:=.type "range",data:=.fields #[.int lo t,.int hi u,.int 1 v]}).objs.size],_,_,H,rfl,
  I1.kept (t':=tk) fun b o e=>Heap.get?_push_of_some _ e,yk _ lo (hi-lo).toNat,?_,fun b hb=>?_,q⟩
 ·have e1:lo+((0:Nat):Int)*1=lo:=by simp
  have e2:(((hi-lo).toNat:Nat):Int)-((0:Nat):Int)=Builtin.Range.rangeSize lo hi 1:=by rw [rangeSize_one];split<;>omega
  show IsRangeIter _ _ (lo+((0:Nat):Int)*1) ((((hi-lo).toNat:Nat):Int)-((0:Nat):Int)) 1
  rw [e1,e2]
  exact Heap.get?_push_size _ rfl
 ·have e:b=(s.heap.push {cls:=.type "range",data:=.fields #[.int lo t,.int hi u,.int 1 v]}).objs.size:=by simpa using hb
  subst e
  exact I1.fpOk (Nat.le_refl _) (I1.hok.fresh (Nat.le_refl _))
noncomputable def iRng1 (ta:TA):TI:=fun σ H R=>ta σ H fun vs H1=>∃j:Int,vs=[.int j]/\ -(2^62)<=j/\j<2^62/\R (Itr 0 j.toNat) H1
theorem zY {a:Expr} {ta:TA} {p pos:Pos} (hg:Gl X "range") (hm:X.mg "range"=none) (ha:PA X [a] ta) (hs:starEach [a] X.env=[(false,eval a X.env)]:=by rfl):PI X tg (.Call (.Name "range" p) [a] [] pos) (iRng1 ta):=by
 intro pins s σ H R I h
 refine Call_ (oO I hg hm boot_range (PyProof.Rows.callWith_type1 (thn (ha pos pins s σ H _ I h) fun us s1 ⟨vs,H1,I1,r1,q1⟩=>?_) hs rfl))
 obtain ⟨j,e,q1,q2,q⟩:=q1
 subst e
 cases r1 with
 |cons r rr=>
  cases rr
  obtain ⟨t,rfl⟩:=r
  exact call_range_1 (range_it I1 (by omega) (by omega) q1 q2 (by simpa using q))
noncomputable def tFor (wi:TI) (g:TG) (tb:TS):TS:=fun D σ H=>wi σ H fun J H1=>∃W:Nat->Nat->St->Hp->Prop,(∃m,W 0 m σ H1)/\∀i m σ H,W i m σ H ->
 (J.stop i H/\D.nx σ H)\/(J.go i H/\∃N:St->Hp->Prop,(∀σ' H',N σ' H'->∃m',m'<m/\W (i+1) m' σ' H')/\∀x H',J.yld i H x H'->g x σ H' fun σ2 H2=>tb {D with nx:=N,ct:=N,bk:=D.nx} σ2 H2)
noncomputable def ue (fp:List Addr) (h:Heap):List (Addr×Obj):=fp.filterMap fun b=>(h.get? b).map fun o=>(b,o)
theorem lT {fp:List Addr} {h:Heap} {b:Addr} {o:Obj} (hb:b∈fp) (e:h.get? b=some o):(b,o)∈ue fp h:=List.mem_filterMap.mpr ⟨b,hb,by rw [e];rfl⟩
theorem Ab {fp:List Addr} {h:Heap} {p:Addr×Obj} (hp:p∈ue fp h):p.1∈fp/\h.get? p.1=some p.2:=by
 obtain ⟨b,hb,e⟩:=List.mem_filterMap.mp hp
 cases q:h.get? b with
 |none=>rw [q] at e;cases e
 |some o=>
  rw [q] at e
  have e':(b,o)=p:=Option.some.inj e
  subst e'
  exact ⟨hb,q⟩
theorem Inv.pinned {pins:List (Addr×Obj)} {σ:St} {H:Hp} {s:Shared} {fp:List Addr} (I:Inv X pins σ H s) (hf:∀b∈fp,zd X pins H b) (ho:∀b∈fp,∃o,s.heap.get? b=some o/\∀v,o.data≠.cell v):Inv X (pins++ue fp s.heap) σ H s:=
 I.sy fun p hp=>(List.mem_append.mp hp).elim (fun z=>I.pin p (List.mem_append_right _ z)) fun z=>by
  obtain ⟨hb,e⟩:=Ab z
  obtain ⟨f0,f1,f2,_⟩:=hf p.1 hb
  obtain ⟨o,e',d⟩:=ho p.1 hb
  rw [e] at e';cases e'
  exact ⟨e,f0,f1,f2,d⟩
theorem Inv.sf {pins pl:List (Addr×Obj)} {σ:St} {H:Hp} {s:Shared} (I:Inv X (pins++pl) σ H s):Inv X pins σ H s:=I.sy fun p hp=>I.pin p (List.mem_append_right _ (List.mem_append_left _ hp))
theorem ps_for {iter:Expr} {body:List Stmt} {wi:TI} {g:TG} {tb:TS} {pos:Pos} (hp:PassesOwn (model X.prog X.w) X.A X.env X.xe) (hc:X.calm=true) (hi:PI X tg iter wi) (hg:PG X tg g) (hb:PSs X body tb)
  (hs:∀x,foldedSetIterable iter X.env x=pure x:=by intro _;rfl):PS X (.For tg iter body [] pos) (tFor wi g tb):=by
 intro pins s σ H D I h
 refine wpAny_For (thn (hi pins s σ H _ I h) fun v s1 h1=>thn h1 fun itv s2 h2=>?_) hs
 obtain ⟨it,fp,tn,J,H2,e,I2,T,st2,f2,W,⟨m0,w0⟩,turn⟩:=h2
 subst e
 have stat:∀{H':Hp},(∀b∈fp,H' b=none)->∀b∈fp,zd X pins H' b:=fun hn b hb=>⟨hn b hb,(f2 b hb).2⟩
 refine codeAny_forLoop_any (fun n s'=>∃i σ' H',Inv X pins σ' H' s'/\tn i s'.heap/\(∀b∈fp,H' b=none)/\W i n σ' H') ?_ m0 ⟨0,σ,H2,I2,st2,fun b hb=>(f2 b hb).1,w0⟩
 rintro n s3 ⟨i,σ3,H3,I3,st3,fr3,w3⟩
 rcases turn i n σ3 H3 w3 with ⟨stop,qn⟩|⟨go,N,hN,step⟩
 ·refine wpAny_passesOwn hp (thn (T.done X rfl rfl rfl hc i pins s3 σ3 H3 X.xe I3 (stat fr3) st3 stop) fun r s4 ⟨hr,I4⟩=>?_)
  subst hr
  exact wpAny_execs_nil ⟨σ3,H3,I4,qn⟩
 ·refine wpAny_passesOwn hp (thn (T.item X rfl rfl rfl hc i pins s3 σ3 H3 X.xe I3 (stat fr3) st3 go) fun r s4 ⟨u,hr,h4⟩=>?_)
  subst hr
  refine wpAny_passesOwn hp (thn h4 fun _ s5 ⟨x,H5,I5,r5,y5,st5,fr5⟩=>?_)
  have I5':=I5.pinned (stat fr5) (T.obj _ _ st5)
  refine wpAny_passesOwn hp (thn (hg _ s5 σ3 H5 x u _ I5' r5 (step x H5 y5)) fun _ s6 ⟨σ6,H6,I6,q6⟩=>?_)
  refine wpAny_passesOwn hp (thn (hb _ s6 σ6 H6 _ I6 q6) fun f s7 q7=>?_)
  have again:∀{σ7:St} {H7:Hp},Inv X (pins++ue fp s5.heap) σ7 H7 s7->N σ7 H7->∃m,m<n/\∃i σ' H',Inv X pins σ' H' s7/\tn i s7.heap/\(∀b∈fp,H' b=none)/\W i m σ' H':=fun {σ7 H7} I7 n7=>by
   obtain ⟨m',hm,w7⟩:=hN σ7 H7 n7
   refine ⟨m',hm,i+1,σ7,H7,I7.sf,T.keep _ _ _ st5 fun b hb o e=>(I7.pin (b,o) (List.mem_append_right _ (List.mem_append_right _ (lT hb e)))).1,fun b hb=>?_,w7⟩
   obtain ⟨o,e,d⟩:=T.obj _ _ st5 b hb
   exact (I7.pin (b,o) (List.mem_append_right _ (List.mem_append_right _ (lT hb e)))).2.1
  cases f with
  |next=>obtain ⟨σ7,H7,I7,n7⟩:=q7;exact again I7 n7
  |cont=>obtain ⟨σ7,H7,I7,n7⟩:=q7;exact again I7 n7
  |brk=>obtain ⟨σ7,H7,I7,q7⟩:=q7;exact ⟨σ7,H7,I7.sf,q7⟩
  |ret v=>obtain ⟨x7,σ7,H7,I7,r7,q7⟩:=q7;exact ⟨x7,σ7,H7,I7.sf,r7,q7⟩
end
end L2
namespace L2
open PySem PySem.Spec PyProof.Rows
noncomputable abbrev R2:=V->V->Hp->VK->Prop
noncomputable def OpR (X:Cx) (f:Value->Value->Sem Value) (r:R2):Prop:=
 ∀(pins:List (Addr×Obj)) (s:Shared) (σ:St) (H:Hp) (x y:V) (v u:Value) (Q:VK),Inv X pins σ H s->RelV x v->RelV y u->r x y H Q ->
  wpAny (model X.prog X.w) X.A (f v u) (EP X pins σ Q) X.xe s
noncomputable def UnR (X:Cx) (f:Value->Sem Value) (r:V->Hp->VK->Prop):Prop:=
 ∀(pins:List (Addr×Obj)) (s:Shared) (σ:St) (H:Hp) (x:V) (v:Value) (Q:VK),Inv X pins σ H s->RelV x v->r x H Q ->
  wpAny (model X.prog X.w) X.A (f v) (EP X pins σ Q) X.xe s
noncomputable def dQ (X:Cx) (f:Value) (r:List V->Hp->VK->Prop):Prop:=
 ∀(pins:List (Addr×Obj)) (s:Shared) (σ:St) (H:Hp) (xs:List V) (us:List Value) (Q:VK),Inv X pins σ H s->Vals xs us->r xs H Q ->
  wpAny (model X.prog X.w) X.A (call f us) (EP X pins σ Q) X.xe s
noncomputable def TruR (X:Cx) (r:V->Hp->(Bool->Hp->Prop)->Prop):Prop:=
 ∀(pins:List (Addr×Obj)) (s:Shared) (σ:St) (H:Hp) (x:V) (v:Value) (Q:Bool->Hp->Prop),Inv X pins σ H s->RelV x v->r x H Q ->
  wpAny (model X.prog X.w) X.A (truthy v) (TP X pins σ Q) X.xe s
noncomputable def tOp (r:R2) (ta tb:TE):TE:=fun σ H Q=>ta σ H fun x H1=>tb σ H1 fun y H2=>r x y H2 Q
noncomputable def tUn (r:V->Hp->VK->Prop) (ta:TE):TE:=fun σ H Q=>ta σ H fun x H1=>r x H1 Q
noncomputable def rI (C:Int->Int->Prop) (g:Int->Int->V):R2:=fun x y H Q=>∃i j,x=.int i/\y=.int j/\C i j/\Q (g i j) H
noncomputable def rI0 (g:Int->Int->V):R2:=fun x y H Q=>∃i j,x=.int i/\y=.int j/\Q (g i j) H
noncomputable def rU (g:Int->V):V->Hp->VK->Prop:=fun x H Q=>∃i,x=.int i/\Q (g i) H
section
variable {X:Cx} {a b c:Expr} {ta tb tc:TE} {pos:Pos}
theorem binT (ha:PE X a ta) (hb:PE X b tb) {pins:List (Addr×Obj)} {s:Shared} {σ:St} {H:Hp} {R:V->V->Hp->Prop} (I:Inv X pins σ H s)
  (h:ta σ H fun x H1=>tb σ H1 fun y H2=>R x y H2) {Q:Value->Shared->Prop} {f:Value->Value->Sem Value}
  (hf:∀v u s2 x y H2,Inv X pins σ H2 s2->RelV x v->RelV y u->R x y H2->wpAny (model X.prog X.w) X.A (f v u) Q X.xe s2) :
  wpAny (model X.prog X.w) X.A (eval a X.env) (fun v s₁=>wpAny (model X.prog X.w) X.A (eval b X.env) (fun u s₂=>wpAny (model X.prog X.w) X.A (f v u) Q X.xe s₂) X.xe s₁) X.xe s:=by
 refine thn (ha pins s σ H _ I h) fun v s1 ⟨x,H1,I1,r1,q1⟩=>?_
 refine thn (hb pins s1 σ H1 _ I1 q1) fun u s2 ⟨y,H2,I2,r2,q2⟩=>?_
 exact hf v u s2 x y H2 I2 r1 r2 q2
theorem pe_op {op:Operator} {r:R2} (ho:OpR X (binaryOp op) r) (ha:PE X a ta) (hb:PE X b tb):PE X (.BinOp a op b pos) (tOp r ta tb):=by
 intro pins s σ H Q I h
 exact wpAny_BinOp (binT ha hb I h fun v u s2 x y H2 I2 rx ry q=>ho pins s2 σ H2 x y v u Q I2 rx ry q)
theorem pe_un {op:UnaryOp} {r:V->Hp->VK->Prop} (ho:UnR X (unaryOp op) r) (ha:PE X a ta):PE X (.UnaryOp op a pos) (tUn r ta):=by
 intro pins s σ H Q I h
 exact UnaryOp_ (thn (ha pins s σ H _ I h) fun v s1 ⟨x,H1,I1,r1,q1⟩=>ho pins s1 σ H1 x v Q I1 r1 q1)
theorem opI {f:Value->Value->Sem Value} {C:Int->Int->Prop} {g:Int->Int->Int}
  (rule:∀(i j:Int) (t u:Tok) (s:Shared) (Q:Value->Shared->Prop) (E:Value->Shared->Prop),C i j->Q (.int (g i j) s.toks) {s with toks:=s.toks+1}->wpAny (model X.prog X.w) X.A (f (.int i t) (.int j u)) Q E s) :
  OpR X f (rI C fun i j=>.int (g i j)):=by
 intro pins s σ H x y v u Q I rx ry h
 obtain ⟨i,j,rfl,rfl,hc,q⟩:=h
 obtain ⟨t,rfl⟩:=rx
 obtain ⟨t',rfl⟩:=ry
 exact rule i j t t' s _ _ hc ⟨.int (g i j),H,I.tok _,⟨_,rfl⟩,q⟩
theorem opI0 {f:Value->Value->Sem Value} {g:Int->Int->Int}
  (rule:∀(i j:Int) (t u:Tok) (s:Shared) (Q:Value->Shared->Prop) (E:Value->Shared->Prop),Q (.int (g i j) s.toks) {s with toks:=s.toks+1}->wpAny (model X.prog X.w) X.A (f (.int i t) (.int j u)) Q E s) :
  OpR X f (rI0 fun i j=>.int (g i j)):=by
 intro pins s σ H x y v u Q I rx ry h
 obtain ⟨i,j,rfl,rfl,q⟩:=h
 obtain ⟨t,rfl⟩:=rx
 obtain ⟨t',rfl⟩:=ry
 exact rule i j t t' s _ _ ⟨.int (g i j),H,I.tok _,⟨_,rfl⟩,q⟩
theorem opB0 {f:Value->Value->Sem Value} {g:Int->Int->Bool}
  (rule:∀(i j:Int) (t u:Tok) (s:Shared) (Q:Value->Shared->Prop) (E:Value->Shared->Prop),Q (.bool (g i j)) s->wpAny (model X.prog X.w) X.A (f (.int i t) (.int j u)) Q E s) :
  OpR X f (rI0 fun i j=>.bl (g i j)):=by
 intro pins s σ H x y v u Q I rx ry h
 obtain ⟨i,j,rfl,rfl,q⟩:=h
 obtain ⟨t,rfl⟩:=rx
 obtain ⟨t',rfl⟩:=ry
 exact rule i j t t' s _ _ ⟨.bl (g i j),H,I,rfl,q⟩
noncomputable def CPow (i j:Int):Prop:=0<=j/\j<=1000000/\i.natAbs<2^64
noncomputable def CMul (i j:Int):Prop:=(-(2^64)<i/\i<2^64)\/(-(2^64)<j/\j<2^64)
theorem CMul.ok {i j:Int} (h:CMul i j):IntMulOk i j:=by
 rcases h with ⟨h1,h2⟩|⟨h1,h2⟩
 ·exact .of_left (intBits_le_64 h1 h2)
 ·exact .of_right (intBits_le_64 h1 h2)
theorem op_add:OpR X (binaryOp .Add) (rI0 fun i j=>.int (i+j)):=opI0 fun _ _ _ _ _ _ _ q=>add_int q
theorem op_sub:OpR X (binaryOp .Sub) (rI0 fun i j=>.int (i-j)):=opI0 fun _ _ _ _ _ _ _ q=>sub_int q
theorem op_mul:OpR X (binaryOp .Mult) (rI CMul fun i j=>.int (i*j)):=opI fun _ _ _ _ _ _ _ hc q=>mul_int q hc.ok
theorem op_mod:OpR X (binaryOp .Mod) (rI (fun _ j=>0<j) fun i j=>.int (i%j)):=opI fun i j _ _ _ _ _ hc q=>by
 have h1:(0:Int)<j:=hc
 exact mod_int' (by omega) (by rw [Int.fmod_eq_emod_of_nonneg i (by omega)];exact q)
theorem op_pow:OpR X (binaryOp .Pow) (rI CPow fun i j=>.int (i^j.toNat)):=opI fun _ _ _ _ _ _ _ hc q=>pow_int_small hc.1 hc.2.1 hc.2.2 q
theorem unI {f:Value->Sem Value} {g:Int->Int}
  (rule:∀(i:Int) (t:Tok) (s:Shared) (Q:Value->Shared->Prop) (E:Value->Shared->Prop),Q (.int (g i) s.toks) {s with toks:=s.toks+1}->wpAny (model X.prog X.w) X.A (f (.int i t)) Q E s) :
  UnR X f (rU fun i=>.int (g i)):=by
 intro pins s σ H x v Q I rx h
 obtain ⟨i,rfl,q⟩:=h
 obtain ⟨t,rfl⟩:=rx
 exact rule i t s _ _ ⟨.int (g i),H,I.tok _,⟨_,rfl⟩,q⟩
theorem un_neg:UnR X (unaryOp .USub) (rU fun i=>.int (-i)):=unI fun _ _ _ _ _ q=>neg_int q
end
noncomputable def scal:V->V->Bool
 |.non,.non=>true|.non,.int _=>true|.int _,.non=>true|.non,.bl _=>true|.bl _,.non=>true|.non,.str _=>true|.str _,.non=>true
 |.int _,.int _=>true|.bl _,.bl _=>true|.str _,.str _=>true|.byt _,.byt _=>true
 |.int _,.str _=>true|.str _,.int _=>true|.bl _,.str _=>true|.str _,.bl _=>true
 |_,_=>false
noncomputable def rNe:R2:=fun x y H Q=>scal x y=true/\Q (.bl (!decide (x=y))) H
theorem dec_int {i j:Int}:decide (V.int i=V.int j)=(i==j):=by
 rw [Bool.eq_iff_iff]
 simp
theorem dec_bl {i j:Bool}:decide (V.bl i=V.bl j)=(i==j):=by
 rw [Bool.eq_iff_iff]
 simp
theorem dec_str {i j:Str}:decide (V.str i=V.str j)=(i==j):=by
 rw [Bool.eq_iff_iff]
 simp
theorem dec_byt {i j:Array UInt8}:decide (V.byt i=V.byt j)=(i.toList==j.toList):=by
 rw [Bool.eq_iff_iff]
 cases i
 cases j
 simp
section
variable {X:Cx} {a b c:Expr} {ta tb tc:TE} {pos:Pos}
theorem cZ {pins:List (Addr×Obj)} {σ:St} {H:Hp} {s:Shared} {Q:VK} {k k':Bool} (I:Inv X pins σ H s) (q:Q (.bl k) H) (e:k=k'):EP X pins σ Q (.bool k') s:=by
 subst e
 exact ⟨.bl k,H,I,rfl,q⟩
theorem op_ne:OpR X (compareOp .NotEq) rNe:=by
 intro pins s σ H x y v u Q I rx ry h
 obtain ⟨hs,q⟩:=h
 cases x with
 |non=>
  cases rx
  cases y with
  |non=>cases ry;exact PySem.EqNone.ne_none_none (cZ I q (by simp))
  |bl j=>cases ry;exact PySem.EqNone.ne_none_bool (cZ I q (by simp))
  |int j=>obtain ⟨t',rfl⟩:=ry;exact PySem.EqNone.ne_none_int (cZ I q (by simp))
  |str j=>obtain ⟨t',rfl⟩:=ry;exact PySem.EqNone.ne_none_str (cZ I q (by simp))
  |_=>exact absurd (show false=true from hs) Bool.false_ne_true
 |bl i=>
  cases rx
  cases y with
  |non=>cases ry;exact PySem.EqNone.ne_bool_none (cZ I q (by simp))
  |bl j=>cases ry;exact ne_bool (cZ I q (congrArg not dec_bl))
  |str j=>obtain ⟨t',rfl⟩:=ry;exact PySem.EqMixed.ne_bool_str (cZ I q (by simp))
  |_=>exact absurd (show false=true from hs) Bool.false_ne_true
 |int i=>
  obtain ⟨t,rfl⟩:=rx
  cases y with
  |non=>cases ry;exact PySem.EqNone.ne_int_none (cZ I q (by simp))
  |int j=>obtain ⟨t',rfl⟩:=ry;exact ne_int (cZ I q (congrArg not dec_int))
  |str j=>obtain ⟨t',rfl⟩:=ry;exact PySem.EqMixed.ne_int_str (cZ I q (by simp))
  |_=>exact absurd (show false=true from hs) Bool.false_ne_true
 |str i=>
  obtain ⟨t,rfl⟩:=rx
  cases y with
  |non=>cases ry;exact PySem.EqNone.ne_str_none (cZ I q (by simp))
  |bl j=>cases ry;exact PySem.EqMixed.ne_str_bool (cZ I q (by simp))
  |int j=>obtain ⟨t',rfl⟩:=ry;exact PySem.EqMixed.ne_str_int (cZ I q (by simp))
  |str j=>obtain ⟨t',rfl⟩:=ry;exact ne_str (cZ I q (congrArg not dec_str))
  |_=>exact absurd (show false=true from hs) Bool.false_ne_true
 |byt i=>
  obtain ⟨t,rfl⟩:=rx
  cases y with
  |byt j=>obtain ⟨t',rfl⟩:=ry;exact PySem.W.ne_bytes (cZ I q (congrArg not dec_byt))
  |_=>exact absurd (show false=true from hs) Bool.false_ne_true
 |_=>cases y<;>exact absurd (show false=true from hs) Bool.false_ne_true
theorem op_lt:OpR X (compareOp .Lt) (rI0 fun i j=>.bl (decide (i<j))):=opB0 fun _ _ _ _ _ _ _ q=>lt_int q
theorem op_le:OpR X (compareOp .LtE) (rI0 fun i j=>.bl (decide (i<=j))):=opB0 fun _ _ _ _ _ _ _ q=>le_int q
theorem op_gt:OpR X (compareOp .Gt) (rI0 fun i j=>.bl (decide (j<i))):=opB0 fun _ _ _ _ _ _ _ q=>gt_int q
theorem op_isN:OpR X (compareOp .Is) (fun x y H Q=>y=.non/\Q (.bl (decide (x=.non))) H):=by
 intro pins s σ H x y v u Q I rx ry h
 obtain ⟨rfl,q⟩:=h
 cases ry
 refine is_none_gen (cZ I q ?_)
 cases x<;>first
  |(cases rx;rfl)
  |(obtain ⟨t,rfl⟩:=rx;rfl)
theorem op_notN:OpR X (compareOp .IsNot) (fun x y H Q=>y=.non/\Q (.bl (!decide (x=.non))) H):=by
 intro pins s σ H x y v u Q I rx ry h
 obtain ⟨rfl,q⟩:=h
 cases ry
 refine isnot_none_gen (cZ I q ?_)
 cases x<;>first
  |(cases rx;rfl)
  |(obtain ⟨t,rfl⟩:=rx;rfl)
noncomputable def isObj:HO->Bool
 |.lst _=>true
 |.ins _ _ _=>true
 |_=>false
theorem OpR.or {f:Value->Value->Sem Value} {r r':R2} (h:OpR X f r) (h':OpR X f r'):OpR X f (fun x y H Q=>r x y H Q\/r' x y H Q):=by
 intro pins s σ H x y v u Q I rx ry q
 rcases q with q|q
 ·exact h pins s σ H x y v u Q I rx ry q
 ·exact h' pins s σ H x y v u Q I rx ry q
theorem Ag (b:Expr) {op:CmpOp} (h:op≠.In:=by decide) (h2:op≠.NotIn:=by decide):behindInMarks op b=false:=by
 have e1:(op==CmpOp.In)=false:=by cases op<;>first|rfl|exact absurd rfl h
 have e2:(op==CmpOp.NotIn)=false:=by cases op<;>first|rfl|exact absurd rfl h2
 cases b<;>simp [behindInMarks,e1,e2]
theorem pe_cmpR {op:CmpOp} {r:R2} (ho:OpR X (compareOp op) r) (ha:PE X a ta) (hb:PE X b tb) (hm:behindInMarks op b=false):PE X (.Compare a [op] [b] pos) (tOp r ta tb):=by
 intro pins s σ H Q I h
 exact wpAny_Compare1 (binT ha hb I h fun v u s2 x y H2 I2 rx ry q=>ho pins s2 σ H2 x y v u Q I2 rx ry q) hm
noncomputable def tTest (t:TE):TT:=fun σ H Q=>t σ H fun x H'=>∃k,x=.bl k/\Q k H'
theorem zR {op:CmpOp} {r:R2} (ho:OpR X (compareOp op) r) (ha:PE X a ta) (hb:PE X b tb) (hm:behindInMarks op b=false):PT X (.Compare a [op] [b] pos) (tTest (tOp r ta tb)):=by
 intro pins s σ H Q I h
 refine wpAny_isTrue_Compare1 (thn (ha pins s σ H _ I h) fun v s1 ⟨x,H1,I1,r1,q1⟩=>thn (hb pins s1 σ H1 _ I1 q1) fun u s2 ⟨y,H2,I2,r2,q2⟩=>
  thn (ho pins s2 σ H2 x y v u _ I2 r1 r2 q2) fun c s3 ⟨z,H3,I3,r3,k,e,q3⟩=>?_) hm
 subst e
 cases r3
 exact wpAny_truthy_bool ⟨H3,I3,q3⟩
noncomputable def zA (r r':R2) (ta tb tc:TE):TE:=fun σ H Q=>ta σ H fun x H1=>tb σ H1 fun y H2=>r x y H2 fun z H3=>∃k,z=.bl k /\
 (if k=true then tc σ H3 fun w' H4=>r' y w' H4 Q else Q (.bl false) H3)
theorem pe_chain {op op':CmpOp} {r r':R2} (ho:OpR X (compareOp op) r) (ho':OpR X (compareOp op') r') (ha:PE X a ta) (hb:PE X b tb) (hc:PE X c tc)
  (hm:lastMarks [op,op'] [b,c]=false:=by with_unfolding_all rfl):PE X (.Compare a [op,op'] [b,c] pos) (zA r r' ta tb tc):=by
 intro pins s σ H Q I h
 refine Compare_chain (thn (ha pins s σ H _ I h) fun v s1 ⟨x,H1,I1,r1,q1⟩=>chain_link (thn (hb pins s1 σ H1 _ I1 q1) fun u s2 ⟨y,H2,I2,r2,q2⟩=>
  thn (ho pins s2 σ H2 x y v u _ I2 r1 r2 q2) fun d s3 ⟨z,H3,I3,r3,k,e,q3⟩=>?_)) hm
 subst e
 cases r3
 refine wpAny_truthy_bool ?_
 cases k with
 |false=>exact ite_ff ⟨.bl false,H3,I3,rfl,q3⟩
 |true=>exact ite_tt (chain_last (thn (hc pins s3 σ H3 _ I3 q3) fun w' s4 ⟨z',H4,I4,r4,q4⟩=>ho' pins s4 σ H4 y z' u w' Q I4 r2 r4 q4))
theorem pt_chain {op op':CmpOp} {r r':R2} (ho:OpR X (compareOp op) r) (ho':OpR X (compareOp op') r') (ha:PE X a ta) (hb:PE X b tb) (hc:PE X c tc)
  (hm:lastMarks [op,op'] [b,c]=false:=by with_unfolding_all rfl):PT X (.Compare a [op,op'] [b,c] pos) (tTest (zA r r' ta tb tc)):=by
 intro pins s σ H Q I h
 refine isTrue_chain (thn (ha pins s σ H _ I h) fun v s1 ⟨x,H1,I1,r1,q1⟩=>test_link (thn (hb pins s1 σ H1 _ I1 q1) fun u s2 ⟨y,H2,I2,r2,q2⟩=>
  thn (ho pins s2 σ H2 x y v u _ I2 r1 r2 q2) fun d s3 ⟨z,H3,I3,r3,k,e,q3⟩=>?_)) hm
 subst e
 cases r3
 refine wpAny_truthy_bool ?_
 cases k with
 |false=>
  obtain ⟨k',e',q'⟩:=q3
  cases e'
  exact ite_ff ⟨H3,I3,q'⟩
 |true=>
  refine ite_tt (test_last (thn (hc pins s3 σ H3 _ I3 q3) fun w' s4 ⟨z',H4,I4,r4,q4⟩=>thn (ho' pins s4 σ H4 y z' u w' _ I4 r2 r4 q4) fun d' s5 ⟨z2,H5,I5,r5,k2,e2,q5⟩=>?_))
  subst e2
  cases r5
  exact wpAny_truthy_bool ⟨H5,I5,q5⟩
noncomputable def TruV (K:PySem.W.Frag) (x:V) (H:Hp) (k:Bool):Prop:=
 match x with
 |.non=>k=false
 |.bl b=>k=b
 |.int i=>k=(i != 0)
 |.str y=>y.length<=sizeLine/\k=((y.length:Int) != 0)
 |.byt y=>y.size<=sizeLine/\k=((y.size:Int) != 0)
 |.ref p=>(∃xs,SqL K H p xs/\k= !xs.isEmpty)\/(∃xs,SqT K H p xs/\k= !xs.isEmpty)\/∃kvs,H p=some (.dK kvs)/\k= !kvs.isEmpty
 |_=>False
theorem yG {κ:Type} {kvs:List (κ×V)} {vs:List (κ×Value)} (r:KV kvs vs):(!vs.isEmpty)= !kvs.isEmpty:=by
 cases r<;>rfl
theorem rq {xs:List V} {its:List Value} (r:Vals xs its):(!its.toArray.isEmpty)= !xs.isEmpty:=by
 cases r<;>simp
theorem rj:(sizeLine:Nat)<2^63:=by rw [sizeLine_eq];decide
theorem tru_ok:TruR X (fun x H Q=>∃k,TruV X.K x H k/\Q k H):=by
 intro pins s σ H x v Q I rx h
 obtain ⟨k,e,q⟩:=h
 have hl:=rj
 have hs:sizeLine=16777216:=sizeLine_eq
 cases x with
 |non=>
  cases rx
  have e':k=false:=e
  subst e'
  exact truthy_none ⟨H,I,q⟩
 |bl b=>
  cases rx
  have e':k=b:=e
  subst e'
  exact wpAny_truthy_bool ⟨H,I,q⟩
 |int i=>
  obtain ⟨t,rfl⟩:=rx
  have e':k=(i != 0):=e
  subst e'
  exact PySem.P.truthy_int ⟨H,I,q⟩
 |str y=>
  obtain ⟨t,rfl⟩:=rx
  obtain ⟨hy,e'⟩:y.length<=sizeLine/\k=((y.length:Int) != 0):=e
  subst e'
  exact PySem.P.truthy_str (by omega) ⟨H,I.tok _,q⟩
 |byt y=>
  obtain ⟨t,rfl⟩:=rx
  obtain ⟨hy,e'⟩:y.size<=sizeLine/\k=((y.size:Int) != 0):=e
  subst e'
  exact PySem.W.truthy_bytes (by omega) ⟨H,I.tok _,q⟩
 |ref p=>
  cases rx
  have e':(∃xs,SqL X.K H p xs/\k= !xs.isEmpty)\/(∃xs,SqT X.K H p xs/\k= !xs.isEmpty)\/∃kvs,H p=some (.dK kvs)/\k= !kvs.isEmpty:=e
  rcases e' with ⟨xs,hx,e'⟩|⟨xs,hx,e'⟩|⟨kvs,hx,e'⟩
  ·subst e'
   obtain ⟨its,r,pl,hz⟩:=I.list hx
   have hlen:=r.length
   exact wpAny_truthy_list pl.isList (by simp only [List.size_toArray];omega) ⟨H,I.tok _,by rw [rq r];exact q⟩
  ·subst e'
   obtain ⟨its,r,pl,hz⟩:=I.tuple hx
   have hlen:=r.length
   exact truthy_tuple pl (by simp only [List.size_toArray];omega) ⟨H,I.tok _,by rw [rq r];exact q⟩
  ·subst e'
   obtain ⟨hz,hS,vs,r,m⟩:kvs.length<=sizeLine/\(p==sysModules)=false/\∃vs,KV kvs vs/\s.heap.DictOf (vZ X.prog X.w) p vs:=I.hok p _ hx
   have hlen:kvs.length=vs.length:=Paired.length r
   exact wpAny_truthy_dict hS m (by omega) ⟨H,I.tok _,by rw [yG r];exact q⟩
 |_=>exact (show False from e).elim
theorem pt_truth (ha:PE X a ta) (he:∀whole,isTrue a X.env whole=(do let v <- whole;standAt a.pos;holding [v] (truthy v))) :
  PT X a (fun σ H Q=>ta σ H fun x H'=>∃k,TruV X.K x H' k/\Q k H'):=by
 intro pins s σ H Q I h
 exact isTrue_plain (thn (ha pins s σ H _ I h) fun v s1 ⟨x,H1,I1,r1,q1⟩=>tru_ok pins s1 σ H1 x v Q I1 r1 q1) (he _)
theorem yx:OpR X (binaryOp .Add) (fun x y H Q=>∃i j,x=.str i/\y=.str j/\i.length+j.length<=sizeLine/\Q (.str (i++j)) H):=by
 intro pins s σ H x y v u Q I rx ry h
 obtain ⟨i,j,rfl,rfl,hz,q⟩:=h
 obtain ⟨t,rfl⟩:=rx
 obtain ⟨t',rfl⟩:=ry
 exact add_str (fun t' tk=>⟨.str (i++j),H,I.tok _,⟨_,rfl⟩,q⟩) hz
theorem vals1 {x:V} {us:List Value} (r:Vals [x] us):∃u,us=[u]/\RelV x u:=by
 cases r with
 |cons r1 r2=>cases r2;exact ⟨_,rfl,r1⟩
theorem vals2 {x y:V} {us:List Value} (r:Vals [x,y] us):∃u w',us=[u,w']/\RelV x u/\RelV y w':=by
 cases r with
 |cons r1 r2=>
  cases r2 with
  |cons r3 r4=>cases r4;exact ⟨_,_,rfl,r1,r3⟩
theorem B5 (hc:X.calm=true):dQ X (.builtin "max") (fun xs H Q=>∃i j,xs=[.int i,.int j]/\Q (.int (if j>i then j else i)) H):=by
 intro pins s σ H xs us Q I r h
 obtain ⟨i,j,rfl,q⟩:=h
 obtain ⟨u,w',rfl,⟨t,rfl⟩,⟨t',rfl⟩⟩:=vals2 r
 refine max_two_ints (I.ok.hd hc) fun h' tk k=>⟨_,H,I.kept k,?_,q⟩
 by_cases hj:j>i
 ·rw [if_pos hj,if_pos hj];exact ⟨_,rfl⟩
 ·rw [if_neg hj,if_neg hj];exact ⟨_,rfl⟩
theorem B3 (hc:X.calm=true):dQ X (.builtin "min") (fun xs H Q=>∃i j,xs=[.int i,.int j]/\Q (.int (if j<i then j else i)) H):=by
 intro pins s σ H xs us Q I r h
 obtain ⟨i,j,rfl,q⟩:=h
 obtain ⟨u,w',rfl,⟨t,rfl⟩,⟨t',rfl⟩⟩:=vals2 r
 refine min_two_ints (I.ok.hd hc) fun h' tk k=>⟨_,H,I.kept k,?_,q⟩
 by_cases hj:j<i
 ·rw [if_pos hj,if_pos hj];exact ⟨_,rfl⟩
 ·rw [if_neg hj,if_neg hj];exact ⟨_,rfl⟩
end
end L2
namespace L2
open PySem PySem.Spec PyProof.Rows
structure ObjM (h:Heap) (x dx C:Addr) (mA:Str->Option Value):Prop where
 obj:h.get? x=some (PySem.W.instObj C dx)
 ns:h.Ns1 dx mA
 ne:dx≠x
theorem uD {h:Heap} {dx:Addr} {mA:Str->Option Value} (n:h.Ns1 dx mA):∃od,h.get? dx=some od/\∀name,PySem.W.lookIn name od=some (mA name):=by
 obtain ⟨o,es,ep,ho,hd,hk,_,hm⟩:=n
 refine ⟨o,ho,fun name=>?_⟩
 have e:=hm name
 unfold nsFind findBy at e
 rw [<- Array.find?_toList] at e
 unfold PySem.W.lookIn
 rw [hd]
 dsimp only
 split
 ·rename_i y q
  rw [q] at e
  exact congrArg some e
 ·rename_i q
  rw [q] at e
  have a:es.toList.any (·.refKey)=false:=by
   rw [List.any_eq_false]
   intro y hy
   obtain ⟨z,t,hkey⟩:=hk y (Array.mem_toList_iff.mp hy)
   simp [DictEntry.refKey,hkey]
  have a':¬es.toList.any (·.refKey)=true:=by rw [a];exact Bool.false_ne_true
  rw [if_neg a']
  exact congrArg some e
theorem ObjM.look {h:Heap} {x dx C:Addr} {mA:Str->Option Value} (I:ObjM h x dx C mA):∃od,PySem.W.InstAt h x (PySem.W.instObj C dx) C (some od)/\∀name,PySem.W.lookIn name od=some (mA name):=
 let ⟨od,ho,hl⟩:=uD I.ns
 ⟨od,⟨I.obj,rfl,rfl,ho⟩,hl⟩
section
variable {prog:Program} {w:World} {A:Around} {E:Value->Shared->Prop} {s:Shared} {K:PySem.W.Frag} {x dx C f:Addr} {mA:Str->Option Value} {name:Str} {v:Value}
theorem get_map {expr:Bool} {Q:Value->Shared->Prop} (X:K.In s.heap) (I:ObjM s.heap x dx C mA) (hg:PySem.W.plainGet K C name=true) (hh:PySem.W.hasDictIn K C=true)
  (ha:PySem.W.findIn K (.ref C) name=some none) (hv:mA name=some v) (hv':PySem.W.handedIn v=true) (h:Q v {s with toks:=s.toks+1}) :
  wpAny (model prog w) A (getAttr (.ref x) name expr) Q E s:=by
 obtain ⟨od,J,hl⟩:=I.look
 exact PySem.W.get_value X J (PySem.W.plainGet_of hg).1 (PySem.W.findObj_own hh ha rfl (by rw [hl,hv])) hv' h
theorem get_meth {pl:Sem Bool} {Q:Value×List Value->Shared->Prop} (X:K.In s.heap) (I:ObjM s.heap x dx C mA) (hg:PySem.W.plainGet K C name=true)
  (hf:PySem.W.findIn K (.ref C) name=some (some (.ref f))) (ht:PySem.W.isFn K (.ref f)=true) (hv:mA name=none) (h:Q (.ref f,[.ref x]) s) :
  wpAny (model prog w) A (getMethod (.ref x) name pl) Q E s:=by
 obtain ⟨od,J,hl⟩:=I.look
 exact PySem.W.method_fn X J (PySem.W.plainGet_of hg).1 (PySem.W.plainGet_of hg).2 hf (beq_iff_eq.mp ht) (by show (PySem.W.lookIn name od).map (·.isSome)=some false;rw [hl,hv];rfl) h
theorem set_map {ns:List Str} {Q:Unit->Shared->Prop} (X:K.In s.heap) (I:ObjM s.heap x dx C mA)
  (hs:PySem.W.findIn K (.ref C) "__setattr__"=some (some (.builtin "object.__setattr__"))) (hp:plainOver K C=true) (ht:takerIn K C name=some none) (hh:PySem.W.hasDictIn K C=true)
  (hw:PySem.Within mA ns) (hsz:ns.length<=sizeLine)
  (h:∀h',ObjM h' x dx C (fun y=>if y=name then some v else mA y)->Heap.SameBut dx s.heap h'->Q () {s with heap:=h',toks:=s.toks+2}) :
  wpAny (model prog w) A (setAttr (.ref x) name v) Q E s:=by
 obtain ⟨od,J,hl⟩:=I.look
 refine PySem.W.set_plain X J hs (PySem.W.osa_open (s:={s with toks:=s.toks+1}) (r:=none) X J hp ht fun b=>?_)
 obtain ⟨cd,hc,hd'⟩:=PySem.W.any_some hh
 have hx:s.heap.get? x=some ⟨.ref C,some dx,.plain,#[]⟩:=I.obj
 refine wpAny_bind (wpAny_pure (wpAny_bind (wpAny_bind (wpAny_loadPart hx (wpAny_bind (PySem.W.Looks.here (s:={s with toks:=s.toks+1}) (PySem.W.looks_clsIn X hc) ?_))))))
 rw [hd']
 refine wpAny_pure (a:=some dx) (wpAny_bind (wpAny_pure (wpAny_bind ?_)))
 refine wpAny_nsSet1 (s:={s with toks:=s.toks+1}) I.ns fun h' hn2 hs2=>?_
 obtain ⟨oD,esD,epD,hoD,hdD,hcD⟩:=hn2.count (PySem.Within.cons name v hw)
 refine wpAny_bind (wpAny_lookBehind hoD (by rw [hdD];exact pastItsLine_dict (Nat.le_trans hcD (by rw [List.length_cons];omega))) ?_)
 exact wpAny_pure (h _ ⟨(hs2.2 _ (Ne.symm I.ne)).trans I.obj,hn2,I.ne⟩ hs2)
theorem make_map {R:Result->Shared->Prop} {vs:List Value} {kw:List (Str×Value)} (X:K.In s.heap) (hm:PySem.W.makesIn K C=true)
  (hi:PySem.W.findIn K (.ref C) "__init__"=some (some (.ref f))) (hf:typeIn K (.ref f)=some (.type "function"))
  (h:codeAny (model prog w) (A.under (.builtin "type.__call__" ⟨.ref C::vs,kw⟩)) (.call (.ref f) ⟨.ref (s.heap.objs.size+1)::vs,kw⟩) (PySem.W.InitBack (s.heap.objs.size+1) R)
   {s with heap:=(s.heap.push PySem.W.emptyDict).push (PySem.W.instObj C s.heap.objs.size)}) :
  codeAny (model prog w) A (.call (.ref C) ⟨vs,kw⟩) R s:=by
 obtain ⟨hh,g,d,t,os⟩:=s
 exact PySem.W.make_core (PySem.W.makes_of X hm) (PySem.W.looks_findIn X hi) (fun self=>PySem.W.bind_fn X self hf) (.inl rfl) h
end
noncomputable def qx (f:Str) (v:V):List (Str×V)->List (Str×V)
 |[]=>[(f,v)]
 |(g,x)::r=>if g=f then (g,v)::r else (g,x)::qx f v r
theorem mT (f g:Str) (v:V):∀fs:List (Str×V),(qx f v fs).lookup g=if g=f then some v else fs.lookup g
 |[]=>by
  show List.lookup g [(f,v)]=_
  by_cases h:g=f
  ·have hb:(g==f)=true:=beq_iff_eq.mpr h
   simp only [List.lookup,hb,if_pos h]
  ·have hb:(g==f)=false:=beq_eq_false_iff_ne.mpr h
   simp only [List.lookup,hb,if_neg h]
 |(k,x)::r=>by
  have ih:=mT f g v r
  rw [show qx f v ((k,x)::r)=(if k=f then (k,v)::r else (k,x)::qx f v r) from rfl]
  by_cases hk:k=f
  ·rw [if_pos hk]
   by_cases h:g=k
   ·have hb:(g==k)=true:=beq_iff_eq.mpr h
    simp only [List.lookup,hb,if_pos (h.trans hk)]
   ·have hb:(g==k)=false:=beq_eq_false_iff_ne.mpr h
    simp only [List.lookup,hb,if_neg (fun e:g=f=>h (e.trans hk.symm))]
  ·rw [if_neg hk]
   by_cases h:g=k
   ·have hb:(g==k)=true:=beq_iff_eq.mpr h
    simp only [List.lookup,hb,if_neg (fun e:g=f=>hk (h.symm.trans e))]
   ·have hb:(g==k)=false:=beq_eq_false_iff_ne.mpr h
    simp only [List.lookup,hb]
    exact ih
theorem lh (f:Str) (v:V):∀fs:List (Str×V),f∈(qx f v fs).map (·.1)/\∀g,g∈fs.map (·.1)->g∈(qx f v fs).map (·.1)
 |[]=>⟨by simp [qx],fun g h=>by simp at h⟩
 |(k,x)::r=>by
  obtain ⟨i1,i2⟩:=lh f v r
  rw [show qx f v ((k,x)::r)=(if k=f then (k,v)::r else (k,x)::qx f v r) from rfl]
  by_cases hk:k=f
  ·rw [if_pos hk]
   subst hk
   exact ⟨by simp,fun g h=>by simpa using h⟩
  ·rw [if_neg hk]
   refine ⟨?_,fun g h=>?_⟩
   ·rw [List.map_cons]
    exact List.mem_cons_of_mem _ i1
   ·rw [List.map_cons] at h ⊢
    rcases List.mem_cons.mp h with e|e
    ·exact List.mem_cons.mpr (.inl e)
    ·exact List.mem_cons_of_mem _ (i2 g e)
theorem pP (f:Str) (v:V):∀fs:List (Str×V),(qx f v fs).length<=fs.length+1
 |[]=>by simp [qx]
 |(k,x)::r=>by
  have ih:=pP f v r
  rw [show qx f v ((k,x)::r)=(if k=f then (k,v)::r else (k,x)::qx f v r) from rfl]
  by_cases hk:k=f
  ·rw [if_pos hk,List.length_cons,List.length_cons];omega
  ·rw [if_neg hk,List.length_cons,List.length_cons];omega
theorem tM.some_of {v:V} {o:Option Value} (r:tM (some v) o):∃u,o=some u/\RelV v u:=by
 cases o with
 |none=>exact (show False from r).elim
 |some u=>exact ⟨u,rfl,r⟩
theorem tM.none_of {o:Option Value} (r:tM none o):o=none:=by
 cases o with
 |none=>rfl
 |some u=>exact (show False from r).elim
theorem uH {v:V} {u:Value} (r:RelV v u):PySem.W.handedIn u=true:=by
 cases v with
 |non=>cases (show u=Value.none from r);rfl
 |bl b=>cases (show u=Value.bool b from r);rfl
 |int i=>obtain ⟨t,e⟩:=(show ∃t,u=Value.int i t from r);cases e;rfl
 |str x=>obtain ⟨t,e⟩:=(show ∃t,u=Value.str x t from r);cases e;rfl
 |byt b=>obtain ⟨t,e⟩:=(show ∃t,u=Value.bytes b t from r);cases e;rfl
 |flt b=>obtain ⟨t,e⟩:=(show ∃t,u=Value.float b t from r);cases e;rfl
 |ref a=>cases (show u=Value.ref a from r);rfl
 |ty n=>cases (show u=Value.type n from r);rfl
section
variable {P:Program} {w:World} {H H':Hp} {h h':Heap} {a C dx:Addr} {fs fs':List (Str×V)}
theorem sQ (hok:HOk P w H h) (e:H a=some (.ins C dx fs)):∃mA,ObjM h a dx C mA/\(∀f,tM (fs.lookup f) (mA f))/\PySem.Within mA (fs.map (·.1))/\fs.length<=1000/\H dx=some (.own a):=by
 obtain ⟨d,z,ne,ob,mA,n,r,q⟩:=(show dv P w H h a (.ins C dx fs) from hok a _ e)
 exact ⟨mA,⟨ob,n,ne⟩,r,q,z,d⟩
end
structure Cls (K:PySem.W.Frag) (C:Addr):Prop where
 pg:PySem.W.plainGet K C Str.empty=true
 hd:PySem.W.hasDictIn K C=true
 po:plainOver K C=true
 sa:PySem.W.findIn K (.ref C) "__setattr__"=some (some (.builtin "object.__setattr__"))
theorem Cls.get {K:PySem.W.Frag} {C:Addr} (c:Cls K C) (f:Str):PySem.W.plainGet K C f=true:=c.pg
noncomputable def kQ (K:PySem.W.Frag) (C:Addr) (f:Str):Prop:=PySem.W.findIn K (.ref C) f=some none
theorem kQ.taker {K:PySem.W.Frag} {C:Addr} {f:Str} (n:kQ K C f):takerIn K C f=some none:=by
 unfold takerIn
 rw [show PySem.W.findIn K (.ref C) f=some none from n]
 rfl
structure Con (K:PySem.W.Frag) (C:Addr) (f:Str) (v:V) (u:Value):Prop where
 at_:PySem.W.findIn K (.ref C) f=some (some u)
 rel:RelV v u
 get:specialIn K u "__get__"=some none
 cp:PySem.W.copiedNames.contains f=false
structure Meth (K:PySem.W.Frag) (C:Addr) (m:Str) (f:Addr):Prop where
 at_:PySem.W.findIn K (.ref C) m=some (some (.ref f))
 fn:PySem.W.isFn K (.ref f)=true
 kp:keepIn K (.ref f)=true
section
variable {X:Cx} {pins:List (Addr×Obj)} {σ:St} {H:Hp} {s:Shared} {a C dx:Addr} {fs:List (Str×V)} {f:Str} {v:V} {A:Around} {E:Value->Shared->Prop}
theorem yH {b:Bool} {Q:Value->Shared->Prop} (I:Inv X pins σ H s) (e:H a=some (.ins C dx fs)) (c:Cls X.K C) (n:kQ X.K C f) (l:fs.lookup f=some v)
  (h:∀u s',Inv X pins σ H s'->RelV v u->Q u s'):wpAny (model X.prog X.w) A (getAttr (.ref a) f b) Q E s:=by
 obtain ⟨mA,O,r,_,_,_⟩:=sQ I.hok e
 obtain ⟨u,hu,ru⟩:=tM.some_of (v:=v) (o:=mA f) (by rw [<- l];exact r f)
 exact get_map I.kIn O (c.get f) c.hd n hu (uH ru) (h u _ (I.tok _) ru)
theorem om {m:Str} {g:Addr} {pl:Sem Bool} {Q:Value×List Value->Shared->Prop} (I:Inv X pins σ H s) (e:H a=some (.ins C dx fs)) (c:Cls X.K C) (k:Meth X.K C m g) (l:fs.lookup m=none)
  (h:Q (.ref g,[.ref a]) s):wpAny (model X.prog X.w) A (getMethod (.ref a) m pl) Q E s:=by
 obtain ⟨mA,O,r,_,_,_⟩:=sQ I.hok e
 have hn:mA m=none:=tM.none_of (by rw [<- l];exact r m)
 exact get_meth I.kIn O (c.get m) k.at_ k.fn hn h
theorem yo {y:V} {u:Value} {Q:Unit->Shared->Prop} (I:Inv X pins σ H s) (e:H a=some (.ins C dx fs)) (c:Cls X.K C) (n:kQ X.K C f) (hl:fs.length<1000) (ry:RelV y u)
  (h:∀s',Inv X pins σ (upd H a (.ins C dx (qx f y fs))) s'->Q () s'):wpAny (model X.prog X.w) A (setAttr (.ref a) f u) Q E s:=by
 obtain ⟨mA,O,r,wi,_,ho⟩:=sQ I.hok e
 have hz:(fs.map (·.1)).length<=sizeLine:=by rw [List.length_map,sizeLine_eq];omega
 refine set_map I.kIn O c.sa c.po n.taker c.hd wi hz fun h' O' sb=>h _ ?_
 have hd:∃o,h'.get? dx=some o:=let ⟨o,_,_,e',_⟩:=O'.ns;⟨o,e'⟩
 refine I.write (x:=a) (e:=dx) (by rw [e];exact True.intro) (.inr ho) (fun b q hb z=>(sb.2 b hb).trans z) hd ?_
 refine ⟨by rw [ar O.ne];exact ho,?_,O.ne,O'.obj,_,O'.ns,fun g=>?_,fun g hg=>?_⟩
 ·have:=pP f y fs;omega
 ·show tM ((qx f y fs).lookup g) (if g=f then some u else mA g)
  rw [mT]
  by_cases q:g=f
  ·rw [if_pos q,if_pos q];exact ry
  ·rw [if_neg q,if_neg q];exact r g
 ·by_cases q:g=f
  ·rw [q];exact (lh f y fs).1
  ·refine (lh f y fs).2 g (wi g fun z=>hg ?_)
   show (if g=f then some u else mA g)=none
   rw [if_neg q];exact z
theorem Inv.made (I:Inv X pins σ H s):Inv X pins σ (upd (upd H s.heap.objs.size (.own (s.heap.objs.size+1))) (s.heap.objs.size+1) (.ins C s.heap.objs.size []))
  {s with heap:=(s.heap.push PySem.W.emptyDict).push (PySem.W.instObj C s.heap.objs.size)}:=by
 have e1:(s.heap.push PySem.W.emptyDict).get? s.heap.objs.size=some PySem.W.emptyDict:=Heap.get?_push_size s.heap rfl
 have e2:((s.heap.push PySem.W.emptyDict).push (PySem.W.instObj C s.heap.objs.size)).get? (s.heap.objs.size+1)=some (PySem.W.instObj C s.heap.objs.size):=by
  have:=Heap.get?_push_size (s.heap.push PySem.W.emptyDict) (o:=PySem.W.instObj C s.heap.objs.size) rfl
  rwa [Heap.size_push] at this
 have e3:(s.heap.push PySem.W.emptyDict).Ns s.heap.objs.size (fun _=>none):=⟨PySem.W.emptyDict,#[],_,e1,rfl,(fun e he=>absurd he (by simp)),fun _=>rfl⟩
 have I1:=I.laid (a:=s.heap.objs.size) (o:=.own (s.heap.objs.size+1)) (h':=s.heap.push PySem.W.emptyDict) (t':=s.toks) (fun b u q=>Heap.get?_push_of_some _ q) (Nat.le_refl _) ⟨_,e1⟩
 refine I1.laid (a:=s.heap.objs.size+1) (o:=.ins C s.heap.objs.size []) (t':=s.toks) (fun b u q=>Heap.get?_push_of_some _ q) (Nat.le_of_eq (Heap.size_push _ _)) ?_
 have ne:s.heap.objs.size≠s.heap.objs.size+1:=Nat.ne_of_lt (Nat.lt_succ_self _)
 refine ⟨by rw [ar ne,aq],Nat.zero_le _,ne,e2,fun _=>none,(Heap.Ns1.of_empty e3).at fun o q=>Heap.get?_push_of_some _ q,fun _=>True.intro,fun y hy=>absurd rfl hy⟩
theorem Bd {prog:Program} {w:World} {env:Env} {e:Expr} {f:Str} {pos:Pos} {s:Shared} {Q:Value->Shared->Prop} (hb:attributeBase e f env (eval e env)=eval e env)
  (h:wpAny (model prog w) A (eval e env) (fun o s₁=>wpAny (model prog w) A (getAttr o f true) Q E s₁) E s):wpAny (model prog w) A (eval (.Attribute e f pos) env) Q E s:=
 Attribute_any_ h (by rw [arm_eval_Attribute,hb])
end
noncomputable def tFld (K:PySem.W.Frag) (ta:TE) (f:Str):TE:=fun σ H Q=>ta σ H fun x H1=>∃a C dx fs v,x=.ref a/\H1 a=some (.ins C dx fs)/\Cls K C/\kQ K C f/\fs.lookup f=some v/\Q v H1
noncomputable def sFld (K:PySem.W.Frag) (ta tv:TE) (f:Str):TS:=fun D σ H=>tv σ H fun y H1=>ta σ H1 fun x H2=>∃a C dx fs,x=.ref a/\H2 a=some (.ins C dx fs)/\Cls K C/\kQ K C f/\fs.length<1000 /\
 D.nx σ (upd H2 a (.ins C dx (qx f y fs)))
section
variable {X:Cx} {o e value:Expr} {f:Str} {pos pos' tpos:Pos} {ta tv:TE}
theorem A5 (he:PE X e ta) (hb:attributeBase e f X.env (eval e X.env)=eval e X.env):PE X (.Attribute e f pos) (tFld X.K ta f):=by
 intro pins s σ H Q I h
 refine Bd hb (thn (he pins s σ H _ I h) fun u s1 ⟨x,H1,I1,rx,a,C,dx,fs,v,ex,ea,c,n,l,q⟩=>?_)
 subst ex
 obtain rfl:u=Value.ref a:=rx
 exact yH I1 ea c n l fun u' s2 I2 ru=>⟨v,H1,I2,ru,q⟩
theorem ps_fld (ha:PE X o ta) (hv:PE X value tv) (hs:swapsWith value (some (.Attribute o f pos')) pos.line X.env=pure false):PS X (.Assign [.Attribute o f pos'] value pos) (sFld X.K ta tv f):=by
 intro pins s σ H D I h
 refine plainObj_wpAny_Assign_Attribute (thn (hv pins s σ H _ I h) fun u s1 ⟨y,H1,I1,ry,q⟩=>thn (ha pins s1 σ H1 _ I1 q) fun ov s2 ⟨x,H2,I2,rx,a,C,dx,fs,ex,ea,c,n,l,q2⟩=>?_) hs
 subst ex
 obtain rfl:ov=Value.ref a:=rx
 exact yo I2 ea c n l ry fun s3 I3=>⟨σ,_,I3,q2⟩
theorem methcall_of {pl:Sem Bool} {m:Str} {apos:Pos} {args:List Expr} {pins:List (Addr×Obj)} {s:Shared} {σ:St} {H:Hp} {Q:Value->Shared->Prop} {te:TE} (he:PE X e te) (I:Inv X pins σ H s)
  (h:te σ H fun x H1=>∃a C dx fs g,x=.ref a/\H1 a=some (.ins C dx fs)/\Cls X.K C/\Meth X.K C m g/\fs.lookup m=none /\
   ∀s1,Inv X pins σ H1 s1->wpAny (model X.prog X.w) X.A (callWith pos (.ref g) [.ref a] (backTo pos (starEach args X.env)) (backToKw pos (keywordEach [] X.env))) Q X.xe s1)
  (ht:eval (.Call (.Attribute e m apos) args [] pos) X.env=(do
   let ov <- eval e X.env
   standAt apos.atName
   let (f,first) <- holding [ov] (getMethod ov m pl)
   callWith pos f first (backTo pos (starEach args X.env)) (backToKw pos (keywordEach [] X.env)))) :
  wpAny (model X.prog X.w) X.A (eval (.Call (.Attribute e m apos) args [] pos) X.env) Q X.xe s:=by
 refine PySem.W.methodCall_KW (pl:=pl) (thn (he pins s σ H _ I h) fun u s1 ⟨x,H1,I1,rx,a,C,dx,fs,g,ex,ea,c,k,l,q⟩=>?_) ht
 subst ex
 obtain rfl:u=Value.ref a:=rx
 exact om I1 ea c k l (q s1 I1)
end
section
variable {X:Cx} {pins:List (Addr×Obj)} {σ:St} {H:Hp} {s:Shared} {A:Around} {E:Value->Shared->Prop} {Q:Value->Shared->Prop} {c:Value} {b:Bool}
inductive yc (K:PySem.W.Frag) (H:Hp):V->Value->Prop where
 |non:yc K H .non (.type "NoneType")
 |bl (x:Bool):yc K H (.bl x) (.type "bool")
 |int (i:Int):yc K H (.int i) (.type "int")
 |str (x:Str):yc K H (.str x) (.type "str")
 |flt (x:UInt64):yc K H (.flt x) (.type "float")
 |lst {a:Addr} {xs:List V} (e:H a=some (.lst xs)):yc K H (.ref a) (.type "list")
 |frz {a:Addr} {o:Obj} {xs:List V} (e:H a=some (.frz o (.lst xs))):yc K H (.ref a) (.type "list")
 |tup {a:Addr} {xs:List V} (e:H a=some (.tup xs)):yc K H (.ref a) (.type "tuple")
 |dK {a:Addr} {kvs:List (Key×V)} (e:H a=some (.dK kvs)):yc K H (.ref a) (.type "dict")
 |dT {a:Addr} {kvs:List (List Key×V)} (e:H a=some (.dT kvs)):yc K H (.ref a) (.type "dict")
 |ins {a C dx:Addr} {fs:List (Str×V)} (e:H a=some (.ins C dx fs)) (cl:Cls K C) (ha:PySem.W.findIn K (.ref C) "__class__"=some (some (.builtin "object.__class__")))
   (hn:specialIn K (.builtin "object.__class__") "__get__"=some (some (.builtin "getset_descriptor.__get__"))) (htk:takesIn K (.builtin "object.__class__")=some true)
   (hm:PySem.W.mroIn K C (.type "object")=some true):yc K H (.ref a) (.ref C)
theorem Au {x:V} {u t:Value} (I:Inv X pins σ H s) (rx:RelV x u) (ty:yc X.K H x t) (e:kitOne X.K t c=some b) (h:∀tk,Q (.bool b) {s with toks:=tk}) :
  wpAny (model X.prog X.w) A (call (.builtin "isinstance") [u,c]) Q E s:=by
 cases ty with
 |non=>cases (show u=Value.none from rx);exact kia_one PySem.W.kitx_none I.kIn True.intro e (fun z=>nomatch z) h
 |bl y=>cases (show u=Value.bool y from rx);exact kia_one PySem.W.kitx_bool I.kIn True.intro e (fun z=>nomatch z) h
 |int i=>obtain ⟨t,q⟩:=(show ∃t,u=Value.int i t from rx);cases q;exact kia_one PySem.W.kitx_int I.kIn True.intro e (fun z=>nomatch z) h
 |str y=>obtain ⟨t,q⟩:=(show ∃t,u=Value.str y t from rx);cases q;exact kia_one PySem.W.kitx_str I.kIn True.intro e (fun z=>nomatch z) h
 |flt y=>obtain ⟨t,q⟩:=(show ∃t,u=Value.float y t from rx);cases q;exact kia_one PySem.W.kitx_float I.kIn True.intro e (fun z=>nomatch z) h
 |@lst a xs ea=>
  cases (show u=Value.ref a from rx)
  obtain ⟨_,_,n,_,h1⟩:=(show dv X.prog X.w H s.heap a (.lst xs) from I.hok a _ ea)
  exact kia_one PySem.W.kitx_list I.kIn ⟨_,h1,rfl⟩ e (fun z=>nomatch z) h
 |@frz a ob xs ea=>
  cases (show u=Value.ref a from rx)
  obtain ⟨_,_,_,n,_,h1⟩:=(show dv X.prog X.w H s.heap a (.frz ob (.lst xs)) from I.hok a _ ea)
  exact kia_one PySem.W.kitx_list I.kIn ⟨_,h1,rfl⟩ e (fun z=>nomatch z) h
 |@tup a xs ea=>
  cases (show u=Value.ref a from rx)
  obtain ⟨_,_,_,p⟩:=(show dv X.prog X.w H s.heap a (.tup xs) from I.hok a _ ea)
  obtain ⟨o,h1,h2,_⟩:=p
  exact kia_one PySem.W.kitx_tuple I.kIn ⟨o,h1,h2⟩ e (fun z=>nomatch z) h
 |@dK a kvs ea=>
  cases (show u=Value.ref a from rx)
  obtain ⟨_,_,vs,_,p⟩:=(show dv X.prog X.w H s.heap a (.dK kvs) from I.hok a _ ea)
  obtain ⟨o,es,ep,h1,h2,_⟩:=p
  exact kia_one PySem.W.kitx_dict I.kIn ⟨o,h1,h2.1⟩ e (fun z=>nomatch z) h
 |@dT a kvs ea=>
  cases (show u=Value.ref a from rx)
  obtain ⟨_,_,xs,_,o,es,ep,h1,h2,_⟩:=(show dv X.prog X.w H s.heap a (.dT kvs) from I.hok a _ ea)
  exact kia_one PySem.W.kitx_dict I.kIn ⟨o,h1,h2.1⟩ e (fun z=>nomatch z) h
 |@ins a C dx fs ea cl ha hn htk hm=>
  cases (show u=Value.ref a from rx)
  obtain ⟨mA,O,_⟩:=sQ I.hok ea
  obtain ⟨od,J,_⟩:=O.look
  exact kia_one (PySem.W.kitx_own (cl.get _) cl.hd ha hn htk hm) I.kIn J e (fun z=>nomatch z) h
end
end L2
namespace L2
open PySem PySem.Spec PyProof.Rows
structure jk (k:Nat) (A:Around):Prop where
 hd:A.handled=none
 dp:A.depth+3*k+5<recursionLimit
 un:A.units+16*k+200<cLine
theorem jk.mono {j k:Nat} {A:Around} (r:jk k A) (h:j<=k):jk j A:=⟨r.hd,by have:=r.dp;omega,by have:=r.un;omega⟩
theorem jk.deeper {k:Nat} {A:Around} (r:jk (k+1) A) (env:Env):jk k (A.deeper env):=
 ⟨r.hd,by have:=r.dp;show A.depth+1+3*k+5<_;omega,by have:=r.un;show A.units+3+16*k+200<_;omega⟩
theorem yC {A:Around} {C:Addr} {us:List Value} {kw:List (Str×Value)}:(A.under (.builtin "type.__call__" ⟨.ref C::us,kw⟩)).depth=A.depth+1:=by
 first|rfl|simp [Around.under,Code.weight,Code.isCreation,Code.isGuard,Code.isCaller,Code.frames,Code.isFrame,guardIds]
theorem yB {A:Around} {C:Addr} {us:List Value} {kw:List (Str×Value)}:(A.under (.builtin "type.__call__" ⟨.ref C::us,kw⟩)).units=A.units+1:=by
 first|rfl|simp [Around.under,Code.cUnits,Code.frames,Code.isFrame]
theorem jk.make {k:Nat} {A:Around} (r:jk (k+1) A) (C:Addr) (us:List Value) (kw:List (Str×Value)):jk k (A.under (.builtin "type.__call__" ⟨.ref C::us,kw⟩)):=
 ⟨r.hd,by have:=r.dp;rw [yC];omega,by have:=r.un;rw [yB];omega⟩
theorem jk.depth {k:Nat} {A:Around} (r:jk k A):A.depth<recursionLimit:=by have:=r.dp;omega
theorem jk.units {k:Nat} {A:Around} (r:jk k A):A.units+64<cLine:=by have:=r.un;omega
noncomputable def tNil:TA:=fun _ H Q=>Q [] H
noncomputable def qr (ta:TE) (tr:TA):TA:=fun σ H Q=>ta σ H fun x H1=>tr σ H1 fun xs H2=>Q (x::xs) H2
section
variable {X:Cx} {e:Expr} {es:List Expr} {te:TE} {t:TA} {pos:Pos}
theorem dE:PA X [] tNil:=fun _ _ _ _ H Q I h=>Calls.spliced_nil ⟨[],H,I,.nil,h⟩
theorem b9 (ha:PE X e te) (hr:PA X es t) (hs:starEach (e::es) X.env=(false,eval e X.env)::starEach es X.env:=by rfl):PA X (e::es) (qr te t):=by
 intro pos pins s σ H Q I h
 rw [hs]
 show wpAny _ _ (spliced ((false,eval e X.env)::backTo pos (starEach es X.env))) _ _ s
 refine Calls.spliced_cons (thn (ha pins s σ H _ I h) fun u s1 ⟨x,H1,I1,r1,q1⟩=>?_)
 exact thn (hr pos pins s1 σ H1 _ I1 q1) fun us s2 ⟨xs,H2,I2,r2,q2⟩=>⟨x::xs,H2,I2,.cons r1 r2,q2⟩
noncomputable def tTup (t:TA):TE:=fun σ H Q=>t σ H fun xs H1=>xs.length<=sizeLine/\∀p,H1 p=none->Q (.ref p) (upd H1 p (.tup xs))
noncomputable def tLst (t:TA):TE:=fun σ H Q=>t σ H fun xs H1=>xs.length<=sizeLine/\∀p,H1 p=none->Q (.ref p) (upd H1 p (.lst xs))
theorem xt {x1} (h:PA X es t):PE X (.Tuple es x1 pos) (tTup t):=by
 intro pins s σ H Q I hq
 refine wpAny_Tuple_spliced (thn (h pos pins s σ H _ I hq) fun us s1 ⟨xs,H1,I1,r,z,q⟩=>⟨by rw [<- r.length];exact z,?_⟩)
 have hf:H1 s1.heap.objs.size=none:=I1.hok.fresh (Nat.le_refl _)
 refine ⟨.ref s1.heap.objs.size,upd H1 s1.heap.objs.size (.tup xs),I1.laid (t':=s1.toks) (fun b u e=>Heap.get?_push_of_some _ e) (Nat.le_refl _) ?_,rfl,q _ hf⟩
 exact ⟨z,us,r,⟨_,Heap.get?_push_size _ rfl,rfl,_,rfl⟩⟩
theorem pe_lst (h:PA X es t):PE X (.List es pos) (tLst t):=by
 intro pins s σ H Q I hq
 refine wpAny_List_spliced (thn (h pos pins s σ H _ I hq) fun us s1 ⟨xs,H1,I1,r,z,q⟩=>⟨by rw [<- r.length];exact z,?_⟩)
 have hf:H1 s1.heap.objs.size=none:=I1.hok.fresh (Nat.le_refl _)
 refine ⟨.ref s1.heap.objs.size,upd H1 s1.heap.objs.size (.lst xs),I1.laid (t':=s1.toks) (fun b u e=>Heap.get?_push_of_some _ e) (Nat.le_refl _) ?_,rfl,q _ hf⟩
 exact ⟨z,us,0,r,Heap.get?_push_size _ rfl⟩
end
noncomputable abbrev Sp:=List V->Hp->VK->XK->Prop
noncomputable abbrev CXT:=List Env->Hp->Shared->XK->Value->Shared->Prop
structure Env0 (P:Program) (w:World) (K:PySem.W.Frag) (mg:Str->Option Value) (base:Heap) (A:Around) (outer:List Env) (s:Shared) (H:Hp):Prop where
 frames:A.frames=some outer
 mod:Mod K mg base
 bs:∀b o,base.get? b=some o->s.heap.get? b=some o/\H b=none
 bsz:base.objs.size<=s.heap.objs.size
 uI:s.heap.FunFrames base outer
 frf:∀b∈frs outer,H b=none
 hok:HOk P w H s.heap
 bare:AllBare s.gens
noncomputable def CE (outer:List Env) (P:Program) (w:World) (H:Hp) (s:Shared) (Q:VK) (u:Value) (s':Shared):Prop:=
 ∃v H',s'.os=s.os/\AllBare s'.gens/\Un (frs outer) [] H H' s.heap s'.heap/\HOk P w H' s'.heap/\RelV v u/\Q v H'
noncomputable def CR (CX:CXT) (outer:List Env) (P:Program) (w:World) (H:Hp) (s:Shared) (Q:VK) (E:XK) (r:Result) (s':Shared):Prop:=
 match r with
 |.ok (.ret u)=>CE outer P w H s Q u s'
 |.ok _=>False
 |.error e=>CX outer H s E e s'
structure cu (P:Program) (w:World) (K:PySem.W.Frag) (mg:Str->Option Value) (base:Heap) (CX:CXT) (k:Nat) (f:Addr) (fd:FuncData) (ps:List Str) (sp:Sp):Prop where
 len:∀vs H Q E,sp vs H Q E->vs.length=ps.length
 run:∀(A:Around) (outer:List Env) (s:Shared) (H:Hp) (args:Args) (us:List Value) (vs:List V) (Q:VK) (E:XK),jk k A->Env0 P w K mg base A outer s H->BindsTo s fd args (ps.zip us)->Vals vs us->sp vs H Q E ->
  codeAny (model P w) A (.call (.ref f) args) (CR CX outer P w H s Q E) s
theorem Env0.make {P:Program} {w:World} {K:PySem.W.Frag} {mg:Str->Option Value} {base:Heap} {A:Around} {outer:List Env} {s:Shared} {H:Hp} (e:Env0 P w K mg base A outer s H) (C:Addr) (us:List Value) (kw:List (Str×Value)) :
  Env0 P w K mg base (A.under (.builtin "type.__call__" ⟨.ref C::us,kw⟩)) outer s H:=⟨by first|exact e.frames|(simpa [Around.under,Code.envs,Code.isFrame,pushEnvs] using e.frames),e.mod,e.bs,e.bsz,e.uI,e.frf,e.hok,e.bare⟩
section
variable {X:Cx} {pins:List (Addr×Obj)} {σ:St} {H:Hp} {s s':Shared}
theorem Inv.env0 (I:Inv X pins σ H s):Env0 X.prog X.w X.K X.mg X.base X.A X.stack s H:=
 ⟨I.ok.frames,I.ok.mod,I.bs,Nat.le_trans I.ok.bsz I.sz,I.stack,I.zC,I.hok,I.bare⟩
theorem Inv.after {Q:VK} {u:Value} (I:Inv X pins σ H s) (h:CE X.stack X.prog X.w H s Q u s'):EP X pins σ Q u s':=by
 obtain ⟨v,H',os,bare,un,hok,r,q⟩:=h
 obtain ⟨hh,g,d,t,os'⟩:=s'
 obtain rfl:os'=s.os:=os
 exact ⟨v,H',I.call (h':=hh) (g':=g) (d':=d) (t':=t) (ch:=[]) un hok bare (fun b z=>absurd z (by simp)),r,q⟩
end
noncomputable def tCall (sp:Sp) (dvs:List V) (E:XK) (t:TA):TE:=fun σ H Q=>t σ H fun vs H1=>sp (vs++dvs) H1 Q E
noncomputable def tMeth (C:Addr) (m:Str) (sp:Sp) (dvs:List V) (E:XK) (ta:TE) (t:TA):TE:=fun σ H Q=>ta σ H fun x H1=>∃a dx fs,x=.ref a/\H1 a=some (.ins C dx fs)/\fs.lookup m=none /\
 t σ H1 fun vs H2=>sp (x::(vs++dvs)) H2 Q E
noncomputable def tMake (C:Addr) (sp:Sp) (dvs:List V) (E:XK) (t:TA):TE:=fun σ H Q=>t σ H fun vs H1=>∀x dx,H1 x=none->H1 dx=none->dx≠x ->
 sp (.ref x::(vs++dvs)) (upd (upd H1 dx (.own x)) x (.ins C dx [])) (fun v H2=>v=.non/\Q (.ref x) H2) E
noncomputable def Binds (K:PySem.W.Frag) (fd:FuncData) (ps:List Str) (ds:List Value):Prop:=
 ∀(s:Shared) (us:List Value),K.In s.heap->(us++ds).length=ps.length->BindsTo s fd ⟨us,[]⟩ (ps.zip (us++ds))
theorem Binds.all {K:PySem.W.Frag} {fd:FuncData} {ps:List Str} (h:∀us:List Value,us.length=ps.length->bindArgs fd ⟨us,[]⟩=pure (ps.zip us)):Binds K fd ps []:=fun s us _ hl=>by
 rw [List.append_nil] at hl ⊢
 exact .of_eq (h us hl)
noncomputable def Passes (CX:CXT) (X:Cx) (E:XK):Prop:=∀(pins:List (Addr×Obj)) (σ:St) (H:Hp) (s:Shared) (e:Value) (s':Shared),Inv X pins σ H s->CX X.stack H s E e s'->X.xe e s'
section
variable {X:Cx} {CX:CXT} {k:Nat} {f C:Addr} {fd:FuncData} {ps:List Str} {sp:Sp} {dvs:List V} {ds:List Value} {E:XK} {x m:Str} {p pos apos:Pos} {e o:Expr} {es:List Expr} {ta:TE} {t:TA}
theorem xo {pins:List (Addr×Obj)} {σ:St} {H:Hp} {s:Shared} {Q:VK} {us:List Value} {vs:List V} (F:cu X.prog X.w X.K X.mg X.base CX k f fd ps sp) (hr:jk k X.A) (hb:Binds X.K fd ps ds) (hd:Vals dvs ds) (hx:Passes CX X E)
  (I:Inv X pins σ H s) (r:Vals vs us) (h:sp (vs++dvs) H Q E):wpAny (model X.prog X.w) X.A (call (.ref f) us) (EP X pins σ Q) X.xe s:=by
 have r2:Vals (vs++dvs) (us++ds):=r.append hd
 have hl:(us++ds).length=ps.length:=by rw [<- r2.length];exact F.len _ _ _ _ h
 refine wpAny_call (codeAny_mono (F.run X.A X.stack s H ⟨us,[]⟩ (us++ds) (vs++dvs) Q E hr I.env0 (hb s us I.kIn hl) r2 h) fun r s' hq=>?_)
 cases r with
 |error e=>exact hx pins σ H s e s' I hq
 |ok fl=>
  cases fl with
  |ret u=>exact I.after hq
  |next=>exact False.elim hq
  |brk=>exact False.elim hq
  |cont=>exact False.elim hq
theorem vR (F:cu X.prog X.w X.K X.mg X.base CX k f fd ps sp) (hr:jk k X.A) (hg:Gl X x) (hm:X.mg x=some (.ref f)) (hk:keepIn X.K (.ref f)=true) (hb:Binds X.K fd ps ds) (hd:Vals dvs ds) (hx:Passes CX X E)
  (ha:PA X (e::es) t) (hdb:(x==("__debug__":Str))=false:=by decide) (he:starEach (e::es) X.env=(false,eval e X.env)::starEach es X.env:=by rfl) (hpl:(backTo pos (starEach es X.env)).any (·.1)=false:=by rfl) :
  PE X (.Call (.Name x p) (e::es) [] pos) (tCall sp dvs E t):=by
 intro pins s σ H Q I h
 refine wpAny_Call_Name_kw (ka I hg hm ?_ hdb)
 refine callWith_K (h₀:=X.base) I.ok.mod.kin hk (thn (ha pos pins s σ H _ I h) fun us s1 ⟨vs,H1,I1,r,q⟩=>⟨I1.kIn,?_⟩) he hpl
 exact xo F hr hb hd hx I1 r q
theorem pe_meth {pl:Sem Bool} (he:PE X o ta) (c:Cls X.K C) (hm:Meth X.K C m f) (F:cu X.prog X.w X.K X.mg X.base CX k f fd ps sp) (hr:jk k X.A) (hb:Binds X.K fd ps ds) (hd:Vals dvs ds) (hx:Passes CX X E) (ha:PA X (e::es) t)
  (hst:starEach (e::es) X.env=(false,eval e X.env)::starEach es X.env:=by rfl) (hpl:(backTo pos (starEach es X.env)).any (·.1)=false:=by rfl)
  (ht:eval (.Call (.Attribute o m apos) (e::es) [] pos) X.env=(do
   let ov <- eval o X.env
   standAt apos.atName
   let (f,first) <- holding [ov] (getMethod ov m pl)
   callWith pos f first (backTo pos (starEach (e::es) X.env)) (backToKw pos (keywordEach [] X.env))):=by rfl) :
  PE X (.Call (.Attribute o m apos) (e::es) [] pos) (tMeth C m sp dvs E ta t):=by
 intro pins s σ H Q I h
 refine PySem.W.methodCall_KW (pl:=pl) (thn (he pins s σ H _ I h) fun u s1 ⟨x,H1,I1,rx,a,dx,fs,ex,ea,l,q⟩=>?_) ht
 subst ex
 obtain rfl:u=Value.ref a:=rx
 refine om I1 ea c hm l ?_
 refine callWith_K (first:=[.ref a]) (h₀:=X.base) I.ok.mod.kin hm.kp (thn (ha pos pins s1 σ H1 _ I1 q) fun us s2 ⟨vs,H2,I2,r,q2⟩=>⟨I2.kIn,?_⟩) hst hpl
 exact xo (us:=.ref a::us) (vs:=.ref a::vs) F hr hb hd hx I2 (.cons rfl r) q2
theorem pe_meth0 {pl:Sem Bool} (he:PE X o ta) (c:Cls X.K C) (hm:Meth X.K C m f) (F:cu X.prog X.w X.K X.mg X.base CX k f fd ps sp) (hr:jk k X.A) (hb:Binds X.K fd ps ds) (hd:Vals dvs ds) (hx:Passes CX X E)
  (ht:eval (.Call (.Attribute o m apos) [] [] pos) X.env=(do
   let ov <- eval o X.env
   standAt apos.atName
   let (f,first) <- holding [ov] (getMethod ov m pl)
   callWith pos f first (backTo pos (starEach [] X.env)) (backToKw pos (keywordEach [] X.env))):=by rfl) :
  PE X (.Call (.Attribute o m apos) [] [] pos) (tMeth C m sp dvs E ta tNil):=by
 intro pins s σ H Q I h
 refine PySem.W.methodCall_KW (pl:=pl) (thn (he pins s σ H _ I h) fun u s1 ⟨x,H1,I1,rx,a,dx,fs,ex,ea,l,q⟩=>?_) ht
 subst ex
 obtain rfl:u=Value.ref a:=rx
 refine om I1 ea c hm l ?_
 exact PySem.W.callWith_K0 (first:=[.ref a]) I1.kIn hm.kp (xo (us:=[.ref a]) (vs:=[.ref a]) F hr hb hd hx I1 (.cons rfl .nil) q)
structure Mk (K:PySem.W.Frag) (C f:Addr):Prop where
 makes:PySem.W.makesIn K C=true
 init:PySem.W.findIn K (.ref C) "__init__"=some (some (.ref f))
 fn:PySem.W.isFn K (.ref f)=true
 kp:keepIn K (.ref C)=true
theorem run_make {pins:List (Addr×Obj)} {σ:St} {H:Hp} {s:Shared} {Q:VK} {us:List Value} {vs:List V} (M:Mk X.K C f) (F:cu X.prog X.w X.K X.mg X.base CX k f fd ps sp) (hr:jk (k+1) X.A) (hb:Binds X.K fd ps ds) (hd:Vals dvs ds)
  (hx:Passes CX X E) (I:Inv X pins σ H s) (r:Vals vs us)
  (h:∀x dx,H x=none->H dx=none->dx≠x->sp (.ref x::(vs++dvs)) (upd (upd H dx (.own x)) x (.ins C dx [])) (fun v H2=>v=.non/\Q (.ref x) H2) E) :
  wpAny (model X.prog X.w) X.A (call (.ref C) us) (EP X pins σ Q) X.xe s:=by
 have hq:=h (s.heap.objs.size+1) s.heap.objs.size (I.hok.fresh (Nat.le_succ _)) (I.hok.fresh (Nat.le_refl _)) (Nat.ne_of_lt (Nat.lt_succ_self _))
 have I2:=Inv.made (C:=C) I
 have r2:Vals (V.ref (s.heap.objs.size+1)::(vs++dvs)) (Value.ref (s.heap.objs.size+1)::(us++ds)):=.cons rfl (r.append hd)
 have hl:(Value.ref (s.heap.objs.size+1)::us++ds).length=ps.length:=by
  have e:=r2.length
  rw [F.len _ _ _ _ hq] at e
  exact e.symm
 refine wpAny_call (make_map (f:=f) I.kIn M.makes M.init (beq_iff_eq.mp M.fn) (codeAny_mono (F.run _ X.stack _ _ ⟨Value.ref (s.heap.objs.size+1)::us,[]⟩ (Value.ref (s.heap.objs.size+1)::(us++ds)) _ _ E (hr.make C us [])
  (I2.env0.make C us []) (hb _ (Value.ref (s.heap.objs.size+1)::us) I2.kIn hl) r2 hq) fun r s' hq'=>?_))
 cases r with
 |error e=>exact hx pins σ _ _ e s' I2 hq'
 |ok fl=>
  cases fl with
  |ret u=>
   obtain ⟨v,H',I3,rv,ev,q3⟩:=I2.after hq'
   subst ev
   exact ⟨rv,⟨V.ref (s.heap.objs.size+1),H',I3,rfl,q3⟩⟩
  |next=>exact False.elim hq'
  |brk=>exact False.elim hq'
  |cont=>exact False.elim hq'
theorem A4 (M:Mk X.K C f) (F:cu X.prog X.w X.K X.mg X.base CX k f fd ps sp) (hr:jk (k+1) X.A) (hg:Gl X x) (hm:X.mg x=some (.ref C)) (hb:Binds X.K fd ps ds) (hd:Vals dvs ds) (hx:Passes CX X E)
  (ha:PA X (e::es) t) (hdb:(x==("__debug__":Str))=false:=by decide) (he:starEach (e::es) X.env=(false,eval e X.env)::starEach es X.env:=by rfl) (hpl:(backTo pos (starEach es X.env)).any (·.1)=false:=by rfl) :
  PE X (.Call (.Name x p) (e::es) [] pos) (tMake C sp dvs E t):=by
 intro pins s σ H Q I h
 refine wpAny_Call_Name_kw (ka I hg hm ?_ hdb)
 refine callWith_K (h₀:=X.base) I.ok.mod.kin M.kp (thn (ha pos pins s σ H _ I h) fun us s1 ⟨vs,H1,I1,r,q⟩=>⟨I1.kIn,?_⟩) he hpl
 exact run_make M F hr hb hd hx I1 r q
end
section
variable {X:Cx} {CX:CXT} {k:Nat} {f C:Addr} {fd:FuncData} {ps ks:List Str} {sp:Sp} {E:XK} {x m:Str} {p pos apos kpos:Pos} {e o:Expr} {es:List Expr} {kws:List Keyword} {te ta:TE} {t tk:TA} {nm:Option Str}
structure KBinds (K:PySem.W.Frag) (fd:FuncData) (ps ks:List Str) (g:List Value->List Value->List Value) (gV:List V->List V->List V):Prop where
 to:∀(s:Shared) (us ws:List Value),K.In s.heap->(g us ws).length=ps.length->BindsTo s fd ⟨us,ks.zip ws⟩ (ps.zip (g us ws))
 rel:∀{vs:List V} {us:List Value} {zs:List V} {ws:List Value},Vals vs us->Vals zs ws->Vals (gV vs zs) (g us ws)
variable {g:List Value->List Value->List Value} {gV:List V->List V->List V}
end
structure aK (N P:List Str) (sc:Scope):Prop where
 kind:sc.kind=.function
 co:sc.isCoroutine=false
 gen:sc.isGenerator=false
 nd:N.Nodup
 pre:N.take P.length=P
 par:∀x∈P,sc.names.lookup x=some .local\/sc.names.lookup x=some .cell
 nofree:∀y∈sc.names,y.2≠.free
theorem v7 {kindOf:Str->Option NameKind} {x:Str}:∀{binds:List (Str×Value)} {m:Str->Option Value},(∀v,(x,v)∉binds)->bindL kindOf binds m x=m x
 |[],_,_=>rfl
 |(n,v)::r,m,h=>by
  unfold bindL
  rw [v7 fun w hw=>h w (List.mem_cons_of_mem _ hw)]
  split
  ·have:x≠n:=by rintro rfl;exact h v List.mem_cons_self
   simp [this]
  ·rfl
theorem v9 {kindOf:Str->Option NameKind} {x:Str}:∀{binds:List (Str×Value)} {m:Str->Option Value},(∀v,(x,v)∉binds)->bindC kindOf binds m x=m x
 |[],_,_=>rfl
 |(n,v)::r,m,h=>by
  unfold bindC
  rw [v9 fun w hw=>h w (List.mem_cons_of_mem _ hw)]
  split
  ·rfl
  ·have:x≠n:=by rintro rfl;exact h v List.mem_cons_self
   simp [this]
theorem v8 {kindOf:Str->Option NameKind} {x:Str} {v:Value}:∀{P:List Str} {vs:List Value} {i:Nat} {m:Str->Option Value},P.Nodup->P[i]? =some x->vs[i]? =some v->kindOf x=some .local ->
  bindL kindOf (P.zip vs) m x=some v
 |[],_,_,_,_,h,_,_=>by simp at h
 |_::_,[],_,_,_,_,h,_=>by simp at h
 |p::P,w::vs,0,m,nd,h1,h2,hk=>by
  simp at h1 h2;subst h1;subst h2
  show bindL kindOf ((p,w)::P.zip vs) m p=_
  unfold bindL
  rw [v7 fun v hv=>(List.nodup_cons.mp nd).1 (List.of_mem_zip hv).1,if_pos hk]
  simp
 |p::P,w::vs,i+1,m,nd,h1,h2,hk=>by
  show bindL kindOf ((p,w)::P.zip vs) m x=_
  unfold bindL
  exact v8 (i:=i) (List.nodup_cons.mp nd).2 (by simpa using h1) (by simpa using h2) hk
theorem vb {kindOf:Str->Option NameKind} {x:Str} {v:Value}:∀{P:List Str} {vs:List Value} {i:Nat} {m:Str->Option Value},P.Nodup->P[i]? =some x->vs[i]? =some v->kindOf x≠some .local ->
  bindC kindOf (P.zip vs) m x=some v
 |[],_,_,_,_,h,_,_=>by simp at h
 |_::_,[],_,_,_,_,h,_=>by simp at h
 |p::P,w::vs,0,m,nd,h1,h2,hk=>by
  simp at h1 h2;subst h1;subst h2
  show bindC kindOf ((p,w)::P.zip vs) m p=_
  unfold bindC
  rw [v9 fun v hv=>(List.nodup_cons.mp nd).1 (List.of_mem_zip hv).1,if_neg hk]
  simp
 |p::P,w::vs,i+1,m,nd,h1,h2,hk=>by
  show bindC kindOf ((p,w)::P.zip vs) m x=_
  unfold bindC
  exact vb (i:=i) (List.nodup_cons.mp nd).2 (by simpa using h1) (by simpa using h2) hk
noncomputable def start (N:List Str) (vs:List V):St:=vs.map some++List.replicate (N.length-vs.length) none
noncomputable def AU (CX:CXT) (P:Program) (w:World) (K:PySem.W.Frag) (mg:Str->Option Value) (base:Heap) (N:List Str) (qual:Str) (scope:Scope) (f:Addr) (cd:Value) (A:Around) (outer:List Env) (s:Shared) (H:Hp) (E:XK):Cx where
 prog:=P
 w:=w
 K:=K
 mg:=mg
 base:=base
 A:=A.deeper (envOfC qual scope s.heap.objs.size f cd)
 N:=N
 s₀:=s
 H₀:=H
 env:=envOfC qual scope s.heap.objs.size f cd
 outer:=outer
 stack:=envOfC qual scope s.heap.objs.size f cd::outer
 ex:=[]
 calm:=true
 fn:=fun _=>true
 pn:=[]
 xe:=fun e s'=>wpAny (model P w) (A.deeper (envOfC qual scope s.heap.objs.size f cd)) (leaving (envOfC qual scope s.heap.objs.size f cd) e) (fun _ s''=>CX outer H s E e s'') (fun e' s''=>CX outer H s E e' s'') s'
theorem xY {sc:Scope} {n:Nat} {x:Str} (h:sc.names.lookup x=some .cell):∃c,(cellsFrom n sc.names []).lookup x=some c:=by
 have q:=PySem.W.cellsFrom_some sc.names n [] (.inl h)
 exact Option.isSome_iff_exists.mp q
theorem Ay {CX:CXT} {P:Program} {w:World} {K:PySem.W.Frag} {mg:Str->Option Value} {base:Heap} {N ps:List Str} {qual:Str} {scope:Scope} {f:Addr} {cd:Value} {A:Around} {outer:List Env} {s s1:Shared} {H:Hp} {E:XK} {us:List Value} {vs:List V}
  (S:aK N ps scope) (hd:A.handled=none) (e0:Env0 P w K mg base A outer s H) (hl:vs.length=ps.length) (r:Vals vs us)
  (x:InCallC s s.heap.objs.size (bindL (envOfC qual scope s.heap.objs.size f cd).kindOf (ps.zip us) fun _=>none) (cellsFrom (s.heap.objs.size+1) scope.names []) (bindC (envOfC qual scope s.heap.objs.size f cd).kindOf (ps.zip us) fun _=>none) s1) :
  Inv (AU CX P w K mg base N qual scope f cd A outer s H E) [] (start N vs) H s1:=by
 have hpl:ps.length<=N.length:=by have:=congrArg List.length S.pre;rw [List.length_take] at this;omega
 obtain ⟨h1,tk,rfl,hk⟩:=x.done
 have noA:∀b:Addr,b∉(AU CX P w K mg base N qual scope f cd A outer s H E).ex:=fun b z=>absurd (show b∈([]:List Addr) from z) (by simp)
 refine ⟨⟨e0.mod,S.kind,rfl,rfl,Nat.le_refl _,fun y z c h1 h2=>?_,fun y hy=>?_,fun y c _ h=>?_,fun _=>hd,Around.frames_deeper e0.frames,.inr ⟨rfl,rfl⟩,fun b z=>absurd z (noA b),e0.bs,e0.bsz,fun b _ _=>noA b,fun b z=>absurd z (noA b),e0.uI,e0.frf⟩,
  rfl,e0.bare,Un.kept hk,⟨_,x.toInCall.ns,fun i y v h1 h2 h3=>?_⟩,fun y c h=>⟨_,x.cell y c h⟩,e0.hok.fresh (Nat.le_refl _),fun y c h=>?_,fun p hp=>absurd (show p∈([]:List (Addr×Obj)) from hp) (by simp),e0.hok.kept hk,?_⟩
 ·exact name_of_addr x.apart (PySem.mem_of_lookup h1) (PySem.mem_of_lookup h2)
 ·have hy:scope.names.lookup y=some .cell\/scope.names.lookup y=some .free:=hy
  rcases hy with hy|hy
  ·exact xY hy
  ·exact absurd rfl (S.nofree _ (PySem.mem_of_lookup hy))
 ·exact Nat.le_of_lt (x.above y c (PySem.mem_of_lookup h))
 ·have hi:i<vs.length:=by
   unfold start at h2
   by_cases hi:i<vs.length
   ·exact hi
   ·rw [List.getElem?_append_right (by simpa using hi)] at h2
    rw [List.getElem?_replicate] at h2
    split at h2<;>cases h2
  have ha:vs[i]? =some v:=by
   unfold start at h2
   rw [List.getElem?_append_left (by simpa using hi),List.getElem?_map] at h2
   cases e:vs[i]? with
   |none=>rw [e] at h2;cases h2
   |some a=>rw [e] at h2;cases h2;rfl
  obtain ⟨u,hu,rv⟩:=r.get ha
  have hp:ps[i]? =some y:=by
   rw [<- S.pre,List.getElem?_take_of_lt (by omega)];exact h1
  have ndP:ps.Nodup:=by rw [<- S.pre];exact S.nd.sublist (List.take_sublist _ _)
  refine ⟨u,rv,?_⟩
  rcases S.par y (List.mem_of_getElem? hp) with k|k
  ·exact .inl ⟨k,v8 ndP hp hu k⟩
  ·obtain ⟨c,e⟩:=xY (n:=s.heap.objs.size+1) k
   refine .inr ⟨.inl k,c,e,?_⟩
   have q:=x.cell y c e
   rw [vb ndP hp hu (by show scope.names.lookup y≠_;rw [k];decide)] at q
   exact q
 ·exact e0.hok.fresh (Nat.le_of_lt (x.above y c (PySem.mem_of_lookup h)))
 ·unfold start
  show _=N.length
  rw [List.length_append,List.length_map,List.length_replicate]
  omega
theorem fn_of {CX:CXT} {P:Program} {w:World} {K:PySem.W.Frag} {mg:Str->Option Value} {base:Heap} {k:Nat} {f:Addr} {name qual:Str} {params:Arguments} {body:List Stmt} {scope:Scope} {dV kV doc pm cdv ct oc:Value} {an od:Option Addr}
  {osl:Array (Option Value)} {N ps:List Str} {sp:Sp} (lk:K.lookup f=some ⟨oc,od,.func (fnOf name qual params body scope dV kV doc pm an cdv ct),osl⟩) (hcd:codeIn K cdv qual=true) (S:aK N ps scope)
  (len:∀vs H Q E,sp vs H Q E->vs.length=ps.length)
  (hbody:∀(A:Around) (outer:List Env) (s:Shared) (H:Hp) (vs:List V) (Q:VK) (E:XK),jk k (A.deeper (envOfC qual scope s.heap.objs.size f cdv))->sp vs H Q E ->
   ∃t,PSs (AU CX P w K mg base N qual scope f cdv A outer s H E) body t/\t {nx:=fun _ H'=>Q .non H',rt:=Q} (start N vs) H) :
  cu P w K mg base CX (k+1) f (fnOf name qual params body scope dV kV doc pm an cdv ct) ps sp:=by
 refine ⟨len,fun A outer s H args us vs Q E hr e0 hb r hsp=>?_⟩
 have hl:=len _ _ _ _ hsp
 have KX:K.In s.heap:=e0.mod.kin.keeps fun b o e=>(e0.bs b o e).1
 have lim:s.heap.NoLimit:=e0.mod.nolimit.keeps fun b o e=>(e0.bs b o e).1
 have hkind:∀y∈ps.zip us,scope.names.lookup y.1=some .local\/(scope.names.lookup y.1=some .cell/\((cellsFrom (s.heap.objs.size+1) scope.names []).lookup y.1).isSome=true):=fun ⟨n,v⟩ hy=>by
  rcases S.par n (List.of_mem_zip hy).1 with q|q
  ·exact .inl q
  ·exact .inr ⟨q,PySem.W.cellsFrom_some _ _ _ (.inl q)⟩
 refine codeAny_call_function hr.depth (KX _ _ lk) rfl S.co S.gen rfl (PySem.W.codeRec_of KX hcd) (hb _ _ _ _ ?_)
 refine wpAny_newFunctionEnv_cells S.kind hkind fun env he s1 x=>?_
 subst he
 refine ⟨lim.keeps x.toInCall.keep,codeAny_func ?_⟩
 obtain ⟨t,ht,hq⟩:=hbody A outer s H vs Q E (hr.deeper _) hsp
 have I:Inv (AU CX P w K mg base N qual scope f cdv A outer s H E) [] (start N vs) H s1:=Ay S hr.hd e0 hl r x
 refine wpAny_mono (ht [] s1 (start N vs) H _ I hq) (fun fl s' hs=>?_) fun e s' hs=>hs
 have fin:∀{σ':St} {H':Hp} {v:V} {u:Value},Inv (AU CX P w K mg base N qual scope f cdv A outer s H E) [] σ' H' s'->RelV v u->Q v H'->CE outer P w H s Q u s':=
  fun {σ' H' v u} J rv q=>⟨v,H',J.os,J.bare,J.base,J.hok,rv,q⟩
 cases fl with
 |ret u=>
  obtain ⟨v,σ',H',J,rv,q⟩:=hs
  exact fin J rv q
 |next=>
  obtain ⟨σ',H',J,q⟩:=hs
  exact fin (v:=V.non) (u:=Value.none) J rfl q
 |brk=>
  obtain ⟨_,_,_,q⟩:=hs
  exact False.elim q
 |cont=>
  obtain ⟨_,_,_,q⟩:=hs
  exact False.elim q
end L2
namespace L2
open PySem PySem.Spec PyProof.Rows
section
variable {X:Cx} {x:Str} {p pos:Pos} {e:Expr} {es:List Expr} {t:TA} {id T:String} {r:List V->Hp->VK->Prop}
noncomputable def tCB (r:List V->Hp->VK->Prop) (t:TA):TE:=fun σ H Q=>t σ H fun vs H1=>r vs H1 Q
theorem fQ (hc:dQ X (.builtin id) r) (hg:Gl X x) (hm:X.mg x=none) (hv:bootBuiltins x=some (.builtin id)) (ha:PA X (e::es) t) (hn:x≠"__name__":=by decide) (hdb:(x==("__debug__":Str))=false:=by decide)
  (he:starEach (e::es) X.env=(false,eval e X.env)::starEach es X.env:=by rfl) (hpl:(backTo pos (starEach es X.env)).any (·.1)=false:=by rfl):PE X (.Call (.Name x p) (e::es) [] pos) (tCB r t):=by
 intro pins s σ H Q I h
 refine wpAny_Call_Name_kw (oO I hg hm hv ?_ hn hdb)
 exact PyProof.Rows.callWith_builtin1 (thn (ha pos pins s σ H _ I h) fun us s1 ⟨vs,H1,I1,r1,q1⟩=>hc pins s1 σ H1 vs us Q I1 r1 q1) he hpl
theorem uh (hc:dQ X (.type T) r) (hg:Gl X x) (hm:X.mg x=none) (hv:bootBuiltins x=some (.type T)) (ha:PA X (e::es) t) (hn:x≠"__name__":=by decide) (hdb:(x==("__debug__":Str))=false:=by decide)
  (he:starEach (e::es) X.env=(false,eval e X.env)::starEach es X.env:=by rfl) (hpl:(backTo pos (starEach es X.env)).any (·.1)=false:=by rfl):PE X (.Call (.Name x p) (e::es) [] pos) (tCB r t):=by
 intro pins s σ H Q I h
 refine wpAny_Call_Name_kw (oO I hg hm hv ?_ hn hdb)
 exact PyProof.Rows.callWith_type1 (thn (ha pos pins s σ H _ I h) fun us s1 ⟨vs,H1,I1,r1,q1⟩=>hc pins s1 σ H1 vs us Q I1 r1 q1) he hpl
end
end L2
namespace HT
open PySem PyProof.Rows
section
open PySem.SeqAt
open PySem.AutoSeq1 (wpAny_loadPart')
open PySem.MeetsSeq PySem.MeetsSeq2 PySem.MeetsSeq3
end
section
variable {prog:Program} {w:World} {A:Around} {E:Value->Shared->Prop} {s:Shared}
theorem cat_tup {t b:Addr} {vs ws:List Value} {Q:Value->Shared->Prop} (ht:IsTup s.heap t vs.toArray) (hb:IsTup s.heap b ws.toArray) (hv:vs≠[])
  (h1:ws=[]->Q (.ref t) s) (h2:ws≠[]->Q (.ref s.heap.objs.size) {s with heap:=s.heap.push {cls:=.type "tuple",data:=.seq (vs++ws).toArray}})
  (hsz:vs.length+ws.length<=sizeLine):wpAny (model prog w) A (binaryOp .Add (.ref t) (.ref b)) Q E s:=by
 obtain ⟨⟨cls,dd,data,sl⟩,ho,hc,n,hd⟩:=id ht
 obtain ⟨⟨cls2,dd2,data2,sl2⟩,ho2,hc2,n2,hd2⟩:=id hb
 simp only at hc hd hc2 hd2
 subst hc hd hc2 hd2
 have e:vs.toArray++ws.toArray=(vs++ws).toArray:=by simp
 by_cases hw:ws=[]
 ·exact concat_meets ⟨_,ho,rfl⟩ ⟨_,ho2,rfl⟩ noFill_tuple_add seq_tuple_add PySem.F.slot_tuple_add PySem.F.entry_tuple_add (PySem.F.args_tuple_add_2 _ _)
   (tuple_addW1 t b vs.toArray ws.toArray n n2 dd dd2 sl sl2 (by simpa using hv) (by simp [hw])) ⟨ho,ho2,h1 hw⟩
 ·refine concat_meets ⟨_,ho,rfl⟩ ⟨_,ho2,rfl⟩ noFill_tuple_add seq_tuple_add PySem.F.slot_tuple_add PySem.F.entry_tuple_add (PySem.F.args_tuple_add_2 _ _)
   (tuple_addW2 t b vs.toArray ws.toArray n n2 dd dd2 sl sl2 (by simpa using hv) (by simpa using hw) (by rw [List.size_toArray,List.size_toArray];exact hsz)) ⟨ho,ho2,?_⟩
  rw [e]
  exact h2 hw
noncomputable def sIx (n d:Nat):Option Int->Nat
 |none=>d
 |some v=>if v<0 then (v+(n:Int)).toNat else min v.toNat n
theorem sIx_le (n d:Nat) (hd:d<=n) (o:Option Int):sIx n d o<=n:=by
 cases o with
 |none=>exact hd
 |some v=>
  show (if v<0 then (v+(n:Int)).toNat else min v.toNat n)<=n
  by_cases hv:v<0
  ·rw [if_pos hv];omega
  ·rw [if_neg hv];exact Nat.min_le_right _ _
theorem B1 (v:Int) (n d:Nat):(if v<0 then max (v+(n:Int)) 0 else min v (n:Int))=((sIx n d (some v):Nat):Int):=by
 show (if v<0 then max (v+(n:Int)) 0 else min v (n:Int))=(((if v<0 then (v+(n:Int)).toNat else min v.toNat n):Nat):Int)
 by_cases hv:v<0
 ·simp only [if_pos hv];omega
 ·simp only [if_neg hv];omega
theorem yY (lo hi:Option Int) (n:Nat):Builtin.Slice.sliceAdjust lo hi 1 (n:Int)=(((sIx n 0 lo:Nat):Int),((sIx n n hi:Nat):Int)):=by
 have h1:¬((1:Int)<0):=by omega
 unfold Builtin.Slice.sliceAdjust
 simp only [h1,if_false]
 refine Prod.ext ?_ ?_
 ·cases lo with
  |none=>rfl
  |some v=>exact B1 v n 0
 ·cases hi with
  |none=>rfl
  |some v=>exact B1 v n n
theorem yv (i j:Nat):Builtin.Slice.slicePlaces (i:Int) (j:Int) 1=j-i:=by
 unfold Builtin.Slice.slicePlaces
 have h1:(1:Int)>0:=by omega
 simp only [h1,if_true,Int.ediv_one]
 split<;>omega
theorem qZ {v:Value} {o:Option Int} {Q:Option Int->Shared->Prop} (p:IsPart v o) (h:Q o s):wpAny (model prog w) A (Builtin.Slice.slicePartIndex v) Q E s:=by
 cases p with
 |none=>exact slicePart_none h
 |int i t=>exact slicePart_int h
theorem oS {sl:Addr} {vl vu:Value} {lo hi:Option Int} {n:Nat} {Q:Int×Int×Nat->Shared->Prop} (hs:s.heap.IsSliceOf sl vl vu .none) (pl:IsPart vl lo) (pu:IsPart vu hi)
  (h:Q (((sIx n 0 lo:Nat):Int),1,sIx n n hi-sIx n 0 lo) s):wpAny (model prog w) A (Builtin.Slice.sliceApplied (.ref sl) (pure (n:Int))) Q E s:=by
 obtain ⟨os,hos,hcs,hds⟩:=id hs
 unfold Builtin.Slice.sliceApplied Builtin.Slice.sliceFields
 refine wpAny_bind (wpAny_bind (wpAny_field hos hds (x:=vl) rfl (wpAny_bind (wpAny_field hos hds (x:=vu) rfl (wpAny_bind (wpAny_field hos hds (x:=.none) rfl (wpAny_pure ?_)))))))
 refine wpAny_bind (slicePart_none ?_)
 show wpAny _ _ (if ((1:Int)==0)=true then _ else _) _ _ s
 rw [if_neg (by decide)]
 refine wpAny_bind (qZ pl (wpAny_bind (qZ pu (wpAny_bind (wpAny_pure ?_)))))
 show wpAny _ _ (match Builtin.Slice.sliceAdjust lo hi 1 (n:Int) with|(lo,hi)=>pure (lo,(1:Int),Builtin.Slice.slicePlaces lo hi 1)) _ _ s
 rw [yY lo hi n]
 show wpAny _ _ (pure (((sIx n 0 lo:Nat):Int),(1:Int),Builtin.Slice.slicePlaces ((sIx n 0 lo:Nat):Int) ((sIx n n hi:Nat):Int) 1)) _ _ s
 rw [yv]
 exact wpAny_pure h
theorem pick_gen (xs:Array Value) (i k:Nat):((List.range k).filterMap fun (m:Nat)=>xs[((i:Int)+(m:Int)*1).toNat]?).toArray=((xs.toList.drop i).take k).toArray:=by
 have e:(fun (m:Nat)=>xs[((i:Int)+(m:Int)*1).toNat]?)=fun m=>xs[i+m]?:=by
  funext m
  have:((i:Int)+(m:Int)*1).toNat=i+m:=by omega
  rw [this]
 rw [e]
 have:=pick_run xs i k
 rw [List.filterMap_map] at this
 have e2:((fun x=>xs[x]?)∘fun x=>i+x)=fun m=>xs[i+m]?:=rfl
 rw [e2] at this
 rw [this]
theorem oo {t sl:Addr} {items:Array Value} {vl vu:Value} {lo hi:Option Int} {Q:Value->Shared->Prop} (ht:IsTup s.heap t items) (hs:s.heap.IsSliceOf sl vl vu .none) (pl:IsPart vl lo) (pu:IsPart vu hi)
  (hw:¬(sIx items.size 0 lo=0/\sIx items.size items.size hi=items.size))
  (h:Q (.ref s.heap.objs.size) {s with heap:=s.heap.push {cls:=.type "tuple",data:=.seq ((items.toList.drop (sIx items.size 0 lo)).take (sIx items.size items.size hi-sIx items.size 0 lo)).toArray}})
  (hsz:items.size<=sizeLine):wpAny (model prog w) A (getItem (.ref t) (.ref sl)) Q E s:=by
 have htake:sizeOk (.seq ((items.toList.drop (sIx items.size 0 lo)).take (sIx items.size items.size hi-sIx items.size 0 lo)).toArray):=by
  show ((items.toList.drop (sIx items.size 0 lo)).take (sIx items.size items.size hi-sIx items.size 0 lo)).toArray.size<=sizeLine
  rw [List.size_toArray,List.length_take,List.length_drop,Array.length_toList]
  omega
 have hj:sIx items.size items.size hi<=items.size:=sIx_le _ _ (Nat.le_refl _) hi
 obtain ⟨os,hos,hcs,hds⟩:=id hs
 have hTs:s.TypeIs (.ref sl) "slice":=⟨os,hos,hcs⟩
 unfold getItem
 try with_reducible refine wpAny_holding ?_
 first|refine wpAny_bind (wpAny_pure ?_)|skip
 refine wpAny_bind (wpAny_sequenceKey ht.typeIs (by decide) ?_)
 refine wpAny_bind (wpAny_callSpecial?_slot (name:=Str.ofString "__getitem__") ht.typeIs PyProof.Rows.slot_tuple_getitem
  (wpAny_call_entry PyProof.Rows.slot_tuple_getitem ht.typeIs entry_tuple_getitem ?_ (args_tuple_getitem _ _)))
 show wpAny _ _ (Builtin.Tuple.tupleItemsOf (.ref t) >>= _) _ _ s
 refine wpAny_bind (tupleItemsOf_ ht ?_)
 refine wpAny_bind (wpAny_typeOf hTs ?_)
 rw [if_pos (by decide)]
 refine wpAny_bind (oS hs pl pu ?_)
 have hno:¬((((sIx items.size 0 lo:Nat):Int)==0&&(1:Int)==1&&(sIx items.size items.size hi-sIx items.size 0 lo)==items.size)=true):=by
  intro q
  rw [Bool.and_eq_true,Bool.and_eq_true] at q
  have q1:((sIx items.size 0 lo:Nat):Int)=0:=eq_of_beq q.1.1
  have q2:sIx items.size items.size hi-sIx items.size 0 lo=items.size:=eq_of_beq q.2
  exact hw ⟨by omega,by omega⟩
 show wpAny _ _ (if (((sIx items.size 0 lo:Nat):Int)==0&&(1:Int)==1&&(sIx items.size items.size hi-sIx items.size 0 lo)==items.size)=true then _ else _) _ _ s
 rw [if_neg hno,pick_gen]
 first
  |exact wpAny_bind (m:=Builtin.Tuple.tupleExact _) (wpAny_newObj_type (wpAny_pure ⟨_,rfl,wpAny_pure h⟩) htake)
  |exact wpAny_bind (m:=Builtin.Tuple.tupleExact _) (wpAny_newObj_type (wpAny_bind (wpAny_pure (wpAny_pure ⟨_,rfl,wpAny_pure h⟩))) htake)
  |exact wpAny_bind (wpAny_bind (m:=Builtin.Tuple.tupleExact _) (wpAny_newObj_type (wpAny_pure (wpAny_pure ⟨_,rfl,wpAny_pure h⟩)) htake))
  |exact wpAny_bind (wpAny_bind (m:=Builtin.Tuple.tupleExact _) (wpAny_newObj_type (wpAny_pure ⟨_,rfl,wpAny_pure h⟩) htake))
end
end HT
namespace L2
open PySem PySem.Spec PyProof.Rows
noncomputable abbrev TO:=St->Hp->(Option Int->Hp->Prop)->Prop
noncomputable def PO (X:Cx) (e:Option Expr) (t:TO):Prop:=
 ∀(pins:List (Addr×Obj)) (s:Shared) (σ:St) (H:Hp) (Q:Option Int->Hp->Prop),Inv X pins σ H s->t σ H Q ->
  wpAny (model X.prog X.w) X.A (evalPart e X.env) (fun u s'=>∃o H',Inv X pins σ H' s'/\IsPart u o/\Q o H') X.xe s
noncomputable def tNoPart:TO:=fun _ H Q=>Q none H
noncomputable def tPart (t:TE):TO:=fun σ H Q=>t σ H fun x H1=>∃i,x=.int i/\Q (some i) H1
theorem intsAre_of {ns:List Int}:∀{us:List Value},Vals (ns.map V.int) us->IntsAre us ns:=by
 induction ns with
 |nil=>intro us r;rw [List.map_nil] at r;cases r;exact .nil
 |cons n ns ih=>
  intro us r
  rw [List.map_cons] at r
  cases r with
  |cons r1 r2=>
   obtain ⟨t,e⟩:=r1
   subst e
   exact .cons n t (ih r2)
section
variable {X:Cx} {e:Expr} {te:TE} {lo hi:Option Expr} {tl th:TO} {pos p2:Pos}
theorem po_none:PO X none tNoPart:=by
 intro pins s σ H Q I h
 rw [evalPart_none]
 exact wpAny_pure ⟨none,H,I,.none,h⟩
theorem po_some (h:PE X e te):PO X (some e) (tPart te):=by
 intro pins s σ H Q I hw
 rw [evalPart_some]
 refine thn (h pins s σ H _ I hw) fun u s1 ⟨x,H1,I1,r1,q1⟩=>?_
 obtain ⟨i,rfl,q⟩:=q1
 obtain ⟨t,rfl⟩:=r1
 exact ⟨some i,H1,I1,.int i t,q⟩
noncomputable def SlR (X:Cx) (r:V->Option Int->Option Int->Hp->VK->Prop):Prop:=
 ∀(pins:List (Addr×Obj)) (s:Shared) (σ:St) (H:Hp) (x:V) (v vl vu:Value) (lo hi:Option Int) (sl:Addr) (Q:VK),Inv X pins σ H s->RelV x v->s.heap.IsSliceOf sl vl vu .none->IsPart vl lo->IsPart vu hi->r x lo hi H Q ->
  ∃T id,typeLookup (.type T) "__getitem__"=pure (some (.builtin id))/\s.TypeIs v T/\wpAny (model X.prog X.w) X.A (getItem v (.ref sl)) (EP X pins σ Q) X.xe s
theorem SlR.or {r r':V->Option Int->Option Int->Hp->VK->Prop} (h:SlR X r) (h':SlR X r'):SlR X (fun x lo hi H Q=>r x lo hi H Q\/r' x lo hi H Q):=by
 intro pins s σ H x v vl vu lo hi sl Q I rx hs pl pu q
 rcases q with q|q
 ·exact h pins s σ H x v vl vu lo hi sl Q I rx hs pl pu q
 ·exact h' pins s σ H x v vl vu lo hi sl Q I rx hs pl pu q
noncomputable def tSl (r:V->Option Int->Option Int->Hp->VK->Prop) (te:TE) (tl th:TO):TE:=fun σ H Q=>te σ H fun x H1=>tl σ H1 fun l H2=>th σ H2 fun u H3=>r x l u H3 Q
theorem pe_slice {r:V->Option Int->Option Int->Hp->VK->Prop} (hr:SlR X r) (he:PE X e te) (hl:PO X lo tl) (hu:PO X hi th):PE X (.Subscript e (.Slice lo hi none p2) pos) (tSl r te tl th):=by
 intro pins s σ H Q I h
 refine Subscript_ (thn (he pins s σ H _ I h) fun v s1 ⟨x,H1,I1,r1,q1⟩=>?_)
 refine wpAny_Slice (thn (hl pins s1 σ H1 _ I1 q1) fun vl s2 ⟨l,H2,I2,pl,q2⟩=>thn (hu pins s2 σ H2 _ I2 q2) fun vu s3 ⟨u,H3,I3,pu,q3⟩=>?_)
 rw [evalPart_none]
 refine wpAny_pure ?_
 have I4:Inv X pins σ H3 {s3 with heap:=s3.heap.push {cls:=.type "slice",data:=.fields #[vl,vu,.none]}}:=I3.kept (t':=s3.toks) fun b ob q=>Heap.get?_push_of_some _ q
 obtain ⟨T,id,hT,ht,hg⟩:=hr pins {s3 with heap:=s3.heap.push {cls:=.type "slice",data:=.fields #[vl,vu,.none]}} σ H3 x v vl vu l u s3.heap.objs.size Q I4 r1 (Heap.IsSliceOf.new ..) pl pu q3
 show wpAny (model X.prog X.w) X.A (subscriptTail e (.Slice lo hi none p2) v (.ref s3.heap.objs.size)) (EP X pins σ Q) X.xe {s3 with heap:=s3.heap.push {cls:=.type "slice",data:=.fields #[vl,vu,.none]}}
 exact tail_any (ops:=[.ref s3.heap.objs.size,v]) ht hT hg (by with_unfolding_all rfl)
noncomputable def cutV (xs:List V) (lo hi:Option Int):List V:=(xs.drop (HT.sIx xs.length 0 lo)).take (HT.sIx xs.length xs.length hi-HT.sIx xs.length 0 lo)
theorem qc (xs:List V) (lo hi:Option Int):(cutV xs lo hi).length<=xs.length:=by
 unfold cutV
 rw [List.length_take,List.length_drop]
 omega
noncomputable def rSlT (K:PySem.W.Frag):V->Option Int->Option Int->Hp->VK->Prop:=fun x lo hi H Q=>∃a xs,x=.ref a/\SqT K H a xs /\
 ¬(HT.sIx xs.length 0 lo=0/\HT.sIx xs.length xs.length hi=xs.length)/\∀p,H p=none->Q (.ref p) (upd H p (.tup (cutV xs lo hi)))
theorem sl_tup:SlR X (rSlT X.K):=by
 intro pins s σ H x v vl vu lo hi sl Q I rx hs pl pu h
 obtain ⟨a,xs,rfl,hx,hw,q⟩:=h
 cases rx
 obtain ⟨its,r,ht,hz⟩:=I.tuple hx
 have hlen:its.toArray.size=xs.length:=by rw [List.size_toArray];exact r.length.symm
 refine ⟨"tuple",_,PyProof.Rows.slot_tuple_getitem.lookup,ht.typeIs,?_⟩
 refine HT.oo ht hs pl pu (by rw [hlen];exact hw) ?_ (by rw [hlen];exact hz)
 rw [hlen]
 refine ⟨.ref s.heap.objs.size,_,I.laid (t':=s.toks) (o:=.tup (cutV xs lo hi)) (fun b ob q=>Heap.get?_push_of_some _ q) (Nat.le_refl _) ?_,rfl,q _ (I.hok.fresh (Nat.le_refl _))⟩
 exact ⟨Nat.le_trans (qc xs lo hi) hz,_,(r.drop (HT.sIx xs.length 0 lo)).take (HT.sIx xs.length xs.length hi-HT.sIx xs.length 0 lo),IsTup.new _ _⟩
noncomputable def rCatT (K:PySem.W.Frag):R2:=fun x y H Q=>∃a b xs ys,x=.ref a/\y=.ref b/\SqT K H a xs/\SqT K H b ys/\xs≠[]/\xs.length+ys.length<=sizeLine /\
 (ys=[]->Q (.ref a) H)/\(ys≠[]->∀p,H p=none->Q (.ref p) (upd H p (.tup (xs++ys))))
theorem Vals.vY {xs:List V} {us:List Value} (r:Vals xs us):us=[]↔xs=[]:=by
 cases r with
 |nil=>simp
 |cons _ _=>simp
theorem op_catT:OpR X (binaryOp .Add) (rCatT X.K):=by
 intro pins s σ H x y v u Q I rx ry h
 obtain ⟨a,b,xs,ys,rfl,rfl,ha,hb,hx,hz,q1,q2⟩:=h
 cases rx
 cases ry
 obtain ⟨its,r1,p1,_⟩:=I.tuple ha
 obtain ⟨its2,r2,p2,_⟩:=I.tuple hb
 refine HT.cat_tup p1 p2 (fun z=>hx (r1.vY.mp z)) (fun z=>⟨.ref a,H,I,rfl,q1 (r2.vY.mp z)⟩) (fun z=>?_) (by rw [<- r1.length,<- r2.length];exact hz)
 refine ⟨.ref s.heap.objs.size,_,I.laid (t':=s.toks) (o:=.tup (xs++ys)) (fun b ob q=>Heap.get?_push_of_some _ q) (Nat.le_refl _) ?_,rfl,q2 (fun w=>z (r2.vY.mpr w)) _ (I.hok.fresh (Nat.le_refl _))⟩
 exact ⟨by rw [List.length_append];exact hz,_,r1.append r2,IsTup.new _ _⟩
end
end L2
namespace L2
open PySem PySem.Spec PyProof.Rows
noncomputable def ixN (n:Nat) (i:Int):Option Nat:=if 0<=i then (if i<n then some i.toNat else none) else if -(n:Int)<=i then some (i+n).toNat else none
noncomputable def atI {α:Type} (xs:List α) (i:Int):Option α:=(ixN xs.length i).bind fun j=>xs[j]?
theorem wb {n:Nat} {i:Int} {j:Nat} (h:ixN n i=some j):seqIndex? i n=some j/\j<n/\ -(n:Int)<=i/\i<n:=by
 unfold ixN at h
 by_cases h0:0<=i
 ·rw [if_pos h0] at h
  by_cases h1:i<n
  ·rw [if_pos h1] at h
   have e:i.toNat=j:=Option.some.inj h
   exact ⟨by rw [seqIndex_of h0 h1,e],by omega,by omega,h1⟩
  ·rw [if_neg h1] at h;cases h
 ·rw [if_neg h0] at h
  by_cases h1: -(n:Int)<=i
  ·rw [if_pos h1] at h
   have e:(i+n).toNat=j:=Option.some.inj h
   exact ⟨by rw [seqIndex_neg (by omega) h1,e],by omega,h1,by omega⟩
  ·rw [if_neg h1] at h;cases h
theorem x8 {α:Type} {xs:List α} {i:Int} {v:α} (h:atI xs i=some v):∃j,seqIndex? i xs.length=some j/\xs[j]? =some v/\j<xs.length/\ -(xs.length:Int)<=i/\i<xs.length:=by
 unfold atI at h
 cases e:ixN xs.length i with
 |none=>rw [e] at h;cases h
 |some j=>
  rw [e] at h
  obtain ⟨h1,h2,h3,h4⟩:=wb e
  exact ⟨j,h1,h,h2,h3,h4⟩
noncomputable def Bj (b:Expr):Prop:=∀o i,subscripted b false o i=operate [o,i] (getItem o i)
noncomputable def IxR (X:Cx) (r:R2):Prop:=
 ∀(value slice:Expr) (pins:List (Addr×Obj)) (s:Shared) (σ:St) (H:Hp) (x y:V) (v u:Value) (Q:VK),Inv X pins σ H s->RelV x v->RelV y u->r x y H Q ->
  subscripted slice false v u=operate [v,u] (getItem v u)->wpAny (model X.prog X.w) X.A (subscriptTail value slice v u) (EP X pins σ Q) X.xe s
noncomputable def MtR (X:Cx) (id:String) (r:V->List V->Hp->VK->Prop):Prop:=
 ∀(pins:List (Addr×Obj)) (s:Shared) (σ:St) (H:Hp) (x:V) (xs:List V) (v:Value) (us:List Value) (Q:VK),Inv X pins σ H s->RelV x v->Vals xs us->r x xs H Q ->
  wpAny (model X.prog X.w) X.A (call (.builtin id) (v::us)) (EP X pins σ Q) X.xe s
section
variable {X:Cx} {a b:Expr} {ta tb:TE} {pos:Pos}
theorem IxR.or {r r':R2} (h:IxR X r) (h':IxR X r'):IxR X (fun x y H Q=>r x y H Q\/r' x y H Q):=by
 intro value slice pins s σ H x y v u Q I rx ry q hs
 rcases q with q|q
 ·exact h value slice pins s σ H x y v u Q I rx ry q hs
 ·exact h' value slice pins s σ H x y v u Q I rx ry q hs
theorem pe_ix {r:R2} (hr:IxR X r) (ha:PE X a ta) (hb:PE X b tb) (hs:Bj b):PE X (.Subscript a b pos) (tOp r ta tb):=by
 intro pins s σ H Q I h
 exact Subscript_ (binT ha hb I h fun v u s2 x y H2 I2 rx ry q=>hr a b pins s2 σ H2 x y v u Q I2 rx ry q (hs _ _))
noncomputable def rIxL (K:PySem.W.Frag):R2:=fun x y H Q=>∃p xs i v,x=.ref p/\y=.int i/\SqL K H p xs/\atI xs i=some v/\Q v H
noncomputable def rIxT (K:PySem.W.Frag):R2:=fun x y H Q=>∃p xs i v,x=.ref p/\y=.int i/\SqT K H p xs/\atI xs i=some v/\Q v H
noncomputable def rIxS:R2:=fun x y H Q=>∃z i c,x=.str z/\y=.int i/\z.length<=sizeLine/\atI z.cps.toList i=some c/\Q (.str ⟨#[c]⟩) H
theorem ix_list:IxR X (rIxL X.K):=by
 intro value slice pins s σ H x y v u Q I rx ry h hs
 obtain ⟨p,xs,i,z,rfl,rfl,hq,he,q⟩:=h
 cases rx
 obtain ⟨t,rfl⟩:=ry
 obtain ⟨its,r,pl,hz⟩:=I.list hq
 obtain ⟨j,h1,h2,h3,h4,h5⟩:=x8 he
 obtain ⟨w,ew,rw'⟩:=r.get h2
 have hl:=r.length
 have hn:=rj
 have fin:EP X pins σ Q w s:=⟨z,H,I,rw',q⟩
 by_cases h0:0<=i
 ·have hj:i.toNat=j:=by
   rw [seqIndex_of h0 h5] at h1
   exact Option.some.inj h1
  exact item_listR pl.isList h0 (by omega) (by rw [hj];simpa using ew) fin hs
 ·have hj:(i+(its.toArray.size:Int)).toNat=j:=by
   rw [seqIndex_neg (by omega) h4] at h1
   rw [List.size_toArray,<- hl]
   exact Option.some.inj h1
  exact subscriptTail_builtinR (x:=w) pl.isList.typeIs slot_list_getitem.lookup
   (wpAny_getItem_list_neg (Q:=fun r s'=>r=w/\EP X pins σ Q r s') pl.isList (by omega) (by rw [List.size_toArray]<;>omega) (by omega) (by rw [hj];simpa using ew) ⟨rfl,fin⟩) hs
theorem ix_tup:IxR X (rIxT X.K):=by
 intro value slice pins s σ H x y v u Q I rx ry h hs
 obtain ⟨p,xs,i,z,rfl,rfl,hq,he,q⟩:=h
 cases rx
 obtain ⟨t,rfl⟩:=ry
 obtain ⟨its,r,pl,hz⟩:=I.tuple hq
 obtain ⟨j,h1,h2,h3,h4,h5⟩:=x8 he
 obtain ⟨w,ew,rw'⟩:=r.get h2
 have hl:=r.length
 have hn:=rj
 have fin:EP X pins σ Q w s:=⟨z,H,I,rw',q⟩
 exact subscriptTail_builtinR (x:=w) pl.typeIs slot_tuple_getitem.lookup
  (getItem_tuple (j:=j) (Q:=fun r s'=>r=w/\EP X pins σ Q r s') pl (by omega) (by omega) (by rw [List.size_toArray,<- hl];exact h1) (by simpa using ew) ⟨rfl,fin⟩) hs
theorem ix_str:IxR X rIxS:=by
 intro value slice pins s σ H x y v u Q I rx ry h hs
 obtain ⟨z,i,c,rfl,rfl,hz,he,q⟩:=h
 obtain ⟨t,rfl⟩:=rx
 obtain ⟨t',rfl⟩:=ry
 obtain ⟨j,h1,h2,h3,h4,h5⟩:=x8 he
 have hl:z.cps.toList.length=z.length:=by simp [Str.length]
 rw [hl] at h1 h4 h5
 have hn:=rj
 exact tail_any (typeIs_str s z t) slot_str_getitem.lookup (getItem_str (c:=c) (by
  have e1:decide (i< -(2^63:Int))=false:=decide_eq_false (by omega)
  have e2:decide (i>=2^63)=false:=decide_eq_false (by omega)
  rw [e1,e2,Bool.or_false]) (by rw [h1];simpa using h2) ⟨.str ⟨#[c]⟩,H,I.tok _,⟨_,rfl⟩,q⟩) hs
noncomputable def rIx (K:PySem.W.Frag):R2:=fun x y H Q=>rIxL K x y H Q\/rIxT K x y H Q\/rIxS x y H Q
theorem ix_seq:IxR X (rIx X.K):=ix_list.or (ix_tup.or ix_str)
theorem yA (its:List Value) (n j:Nat) (u:Value):Obj.mapSeq (·.setIfInBounds j u) {cls:=.type "list",data:=.seq its.toArray n}={cls:=.type "list",data:=.seq (its.set j u).toArray n}:=by
 simp [Obj.mapSeq]
theorem Inv.lst {pins:List (Addr×Obj)} {σ:St} {H:Hp} {s:Shared} {p:Addr} {xs:List V} (I:Inv X pins σ H s) (h:H p=some (.lst xs)) :
  ∃(its:List Value) (n:Nat),Vals xs its/\s.heap.get? p=some {cls:=.type "list",data:=.seq its.toArray n}/\xs.length<=sizeLine:=by
 obtain ⟨z,its,n,r,e⟩:=I.hok p _ h
 exact ⟨its,n,r,e,z⟩
theorem Inv.lstUpd {pins:List (Addr×Obj)} {σ:St} {H:Hp} {s:Shared} {p:Addr} {xs ys:List V} {its its':List Value} {n n':Nat} {f:Obj->Obj} (I:Inv X pins σ H s) (h:H p=some (.lst xs))
  (ho:s.heap.get? p=some {cls:=.type "list",data:=.seq its.toArray n}) (hf:f {cls:=.type "list",data:=.seq its.toArray n}={cls:=.type "list",data:=.seq its'.toArray n'}) (r:Vals ys its') (hz:ys.length<=sizeLine) (t:Nat) :
  Inv X pins σ (upd H p (.lst ys)) {s with heap:=s.heap.update p f,toks:=t}:=by
 have e:(s.heap.update p f).get? p=some {cls:=.type "list",data:=.seq its'.toArray n'}:=by
  rw [Heap.get?_update_self f ho (by rw [hf]<;>rfl),hf]
 refine I.write (x:=p) (e:=p) (by rw [h];trivial) (.inl rfl) (fun b u hb q=>(Heap.get?_update_other _ _ (Ne.symm hb)).trans q) ⟨_,e⟩ ?_
 exact ⟨hz,its',n',r,e⟩
noncomputable def rSetL:V->V->V->Hp->(Hp->Prop)->Prop:=fun o i v H Q=>∃p xs k j,o=.ref p/\i=.int k/\H p=some (.lst xs)/\ixN xs.length k=some j/\Q (upd H p (.lst (xs.set j v)))
theorem set_list:PSet X rSetL:=by
 intro pins s σ H o i v ov iv u Q I ro ri rv h
 obtain ⟨p,xs,k,j,rfl,rfl,hp,hj,q⟩:=h
 cases ro
 obtain ⟨t,rfl⟩:=ri
 obtain ⟨its,n,r,ho,hz⟩:=I.lst hp
 obtain ⟨h1,h2,h3,h4⟩:=wb hj
 have hl:=r.length
 have hn:=rj
 have I':Inv X pins σ (upd H p (.lst (xs.set j v))) {s with heap:=s.heap.update p (Obj.mapSeq (·.setIfInBounds j u))}:=
  I.lstUpd hp ho (yA its n j u) (r.set rv j) (by rw [List.length_set];exact hz) s.toks
 by_cases h0:0<=k
 ·have hk:k.toNat=j:=by
   rw [seqIndex_of h0 h4] at h1
   exact Option.some.inj h1
  exact PySem.W.ki_setAt ho h0 (by omega) (by rw [List.size_toArray,<- hl];exact h4) (by rw [hk];exact ⟨_,I',q⟩)
 ·have hk:(k+(its.toArray.size:Int)).toNat=j:=by
   rw [seqIndex_neg (by omega) h3] at h1
   rw [List.size_toArray,<- hl]
   exact Option.some.inj h1
  exact PySem.W.ki_setBack ho (by omega) (by rw [List.size_toArray,<- hl];exact h3) (by omega) (by rw [hk];exact ⟨_,I',q⟩)
theorem u5 (lo hi:Option Int) (n:Nat):(sliceBounds lo hi none n).1=((HT.sIx n 0 lo:Nat):Int)/\(sliceBounds lo hi none n).2.1=((HT.sIx n n hi:Nat):Int)/\(sliceBounds lo hi none n).2.2=1:=by
 refine ⟨?_,?_,rfl⟩
 ·cases lo with
  |none=>simp [sliceBounds,HT.sIx]
  |some i=>
   simp only [sliceBounds,HT.sIx,Option.getD_none,show (1:Int)>0 by decide,if_true]
   by_cases h:i<0
   ·simp only [h,if_true]<;>omega
   ·simp only [h,if_false]<;>omega
 ·cases hi with
  |none=>simp [sliceBounds,HT.sIx]
  |some i=>
   simp only [sliceBounds,HT.sIx,Option.getD_none,show (1:Int)>0 by decide,if_true]
   by_cases h:i<0
   ·simp only [h,if_true]<;>omega
   ·simp only [h,if_false]<;>omega
theorem sj (its:List Value) (lo hi:Option Int):slicePick its.toArray lo hi none=((its.drop (HT.sIx its.length 0 lo)).take (HT.sIx its.length its.length hi-HT.sIx its.length 0 lo)).toArray:=by
 obtain ⟨h1,h2,h3⟩:=u5 lo hi its.toArray.size
 unfold slicePick
 rw [h1,h2,h3]
 simp only [sliceRange_one,pick_run,List.size_toArray]<;>rfl
noncomputable def rSlL (K:PySem.W.Frag):V->Option Int->Option Int->Hp->VK->Prop:=fun x lo hi H Q=>∃a xs,x=.ref a/\SqL K H a xs/\∀p,H p=none->Q (.ref p) (upd H p (.lst (cutV xs lo hi)))
theorem sl_list:SlR X (rSlL X.K):=by
 intro pins s σ H x v vl vu lo hi sl Q I rx hs pl pu h
 obtain ⟨a,xs,rfl,hx,q⟩:=h
 cases rx
 obtain ⟨its,r,ht,hz⟩:=I.list hx
 have hlen:=r.length
 refine ⟨"list",_,slot_list_getitem.lookup,ht.isList.typeIs,?_⟩
 refine wpAny_getItem_list_slice ht.isList hs pl pu .none (by simp) ?_ (by rw [List.size_toArray]<;>omega)
 rw [sj,<- hlen]
 refine ⟨.ref s.heap.objs.size,_,I.laid (t':=s.toks) (o:=.lst (cutV xs lo hi)) (fun b ob q=>Heap.get?_push_of_some _ q) (Nat.le_refl _) ?_,rfl,q _ (I.hok.fresh (Nat.le_refl _))⟩
 exact ⟨Nat.le_trans (qc xs lo hi) hz,_,0,(r.drop (HT.sIx xs.length 0 lo)).take (HT.sIx xs.length xs.length hi-HT.sIx xs.length 0 lo),Heap.get?_push_size _ rfl⟩
noncomputable def flatV:V->Bool
 |.non=>true
 |.bl _=>true
 |.int _=>true
 |.str _=>true
 |_=>false
noncomputable def eqV:V->V->Bool
 |.non,.non=>true
 |.bl a,.bl b=>a==b
 |.bl a,.int b=>(if a then 1 else 0)==b
 |.int a,.bl b=>a==(if b then 1 else 0)
 |.int a,.int b=>a==b
 |.str a,.str b=>a==b
 |_,_=>false
theorem lF:dQ X (.builtin "len") (fun xs H Q=>∃p ys,xs=[.ref p]/\(SqL X.K H p ys\/SqT X.K H p ys)/\Q (.int ys.length) H):=by
 intro pins s σ H xs us Q I r h
 obtain ⟨p,ys,rfl,hq,q⟩:=h
 obtain ⟨u,rfl,rx⟩:=vals1 r
 cases rx
 have hn:=rj
 rcases hq with hq|hq
 ·obtain ⟨its,r',pl,hz⟩:=I.list hq
  have hlen:=r'.length
  exact Calls.call_len_list pl.isList (by simp only [List.size_toArray]<;>omega) ⟨.int ys.length,H,I.tok _,⟨s.toks+1,by rw [List.size_toArray,hlen]⟩,q⟩
 ·obtain ⟨its,r',pl,hz⟩:=I.tuple hq
  have hlen:=r'.length
  exact len_tuple pl (by simp only [List.size_toArray]<;>omega) ⟨.int ys.length,H,I.tok _,⟨s.toks+1,by rw [List.size_toArray,hlen]⟩,q⟩
theorem dQ.or {f:Value} {r r':List V->Hp->VK->Prop} (h:dQ X f r) (h':dQ X f r'):dQ X f (fun xs H Q=>r xs H Q\/r' xs H Q):=by
 intro pins s σ H xs us Q I rs q
 rcases q with q|q
 ·exact h pins s σ H xs us Q I rs q
 ·exact h' pins s σ H xs us Q I rs q
theorem uZ:dQ X (.type "list") (fun xs H Q=>∃p ys,xs=[.ref p]/\(SqL X.K H p ys\/SqT X.K H p ys)/\∀l,H l=none->Q (.ref l) (upd H l (.lst ys))):=by
 intro pins s σ H xs us Q I r h
 obtain ⟨p,ys,rfl,hq,q⟩:=h
 obtain ⟨u,rfl,rx⟩:=vals1 r
 cases rx
 have fin:∀(its:List Value),Vals ys its->ys.length<=sizeLine->∀(h':Heap) (c':Nat),(∀b o',s.heap.get? b=some o'->h'.get? b=some o') ->
   h'.get? s.heap.objs.size=some {cls:=.type "list",dict:=none,data:=.seq its.toArray c',slots:=#[]}->EP X pins σ Q (.ref s.heap.objs.size) {s with heap:=h'}:=fun its r' hz h' c' kp e=>
  ⟨.ref s.heap.objs.size,_,I.laid (t':=s.toks) kp (Nat.le_refl _) (show dv X.prog X.w _ h' _ (.lst ys) from ⟨hz,its,c',r',e⟩),rfl,q _ (I.hok.fresh (Nat.le_refl _))⟩
 rcases hq with hq|hq
 ·obtain ⟨its,r',pl,hz⟩:=I.list hq
  have hlen:=r'.length
  obtain ⟨o,ho,hc,n,hd⟩:=pl.isList
  exact call_list_seq p (.inl rfl) ho hc hd (fun h' c' kp e=>fin its r' hz h' c' kp e) (by simp only [List.size_toArray]<;>omega)
 ·obtain ⟨its,r',pl,hz⟩:=I.tuple hq
  have hlen:=r'.length
  obtain ⟨o,ho,hc,n,hd⟩:=pl
  exact call_list_seq p (.inr rfl) ho hc hd (fun h' c' kp e=>fin its r' hz h' c' kp e) (by simp only [List.size_toArray]<;>omega)
noncomputable def tyV (K:PySem.W.Frag) (T:String) (x:V) (H:Hp):Prop:=match x with
 |.str _=>T="str"
 |.int _=>T="int"
 |.ref p=>(T="list"/\∃xs,SqL K H p xs)\/(T="tuple"/\∃o,K.lookup p=some o/\o.cls=.type "tuple"/\o.dict=none) \/
   (T="dict"/\((∃kvs,H p=some (.dK kvs))\/∃kvs,H p=some (.dT kvs)))\/(T="set"/\∃S n,H p=some (.set S n))
 |_=>False
theorem tyV_is {pins:List (Addr×Obj)} {σ:St} {H:Hp} {s:Shared} {T:String} {x:V} {v:Value} (I:Inv X pins σ H s) (r:RelV x v) (ty:tyV X.K T x H) :
  s.TypeIs v T/\∀a,v=.ref a->∃ob,s.heap.get? a=some ob/\ob.dict=none:=by
 cases x with
 |str z=>
  obtain ⟨t,rfl⟩:=r
  cases (show T="str" from ty)
  exact ⟨typeIs_str s z t,fun _ e=>nomatch e⟩
 |int i=>
  obtain ⟨t,rfl⟩:=r
  cases (show T="int" from ty)
  exact ⟨typeIs_int s i t,fun _ e=>nomatch e⟩
 |ref p=>
  cases r
  rcases ty with ⟨rfl,xs,hq⟩|⟨rfl,o,hk,hc,hd⟩|⟨rfl,hk⟩|⟨rfl,S,n,hk⟩
  ·obtain ⟨its,_,pl,_⟩:=I.list hq
   refine ⟨pl.isList.typeIs,fun a e=>?_⟩
   cases e
   obtain ⟨o,n,e,c,hd,_⟩:=pl
   exact ⟨o,e,hd⟩
  ·refine ⟨⟨o,I.kIn p o hk,hc⟩,fun a e=>?_⟩
   cases e
   exact ⟨o,I.kIn _ o hk,hd⟩
  ·have z:∃o,s.heap.get? p=some o/\o.ExactDict:=by
    rcases hk with ⟨kvs,hk⟩|⟨kvs,hk⟩
    ·obtain ⟨_,_,_,_,o,_,_,e,ex,_⟩:=I.hok p _ hk
     exact ⟨o,e,ex⟩
    ·obtain ⟨_,_,_,_,o,_,_,e,ex,_⟩:=I.hok p _ hk
     exact ⟨o,e,ex⟩
   obtain ⟨o,e,ex⟩:=z
   refine ⟨⟨o,e,ex.1⟩,fun a e2=>?_⟩
   cases e2
   exact ⟨o,e,ex.2.1⟩
  ·obtain ⟨o,_,_,_,e,ex,_⟩:=I.hok p _ hk
   refine ⟨⟨o,e,ex.1⟩,fun a e2=>?_⟩
   cases e2
   exact ⟨o,e,ex.2.1⟩
 |_=>exact False.elim ty
noncomputable def tBM (K:PySem.W.Frag) (T:String) (r:V->List V->Hp->VK->Prop) (to:TE) (t:TA):TE:=fun σ H Q=>to σ H fun x H1=>tyV K T x H1/\t σ H1 fun xs H2=>r x xs H2 Q
variable {o e:Expr} {es:List Expr} {to:TE} {t:TA} {name:Str} {apos cpos:Pos} {T id:String} {r:V->List V->Hp->VK->Prop}
theorem pe_bm (pa:PlainAttrs T) (slot:Slot T name id) (hty:typeOf (.builtin id)=pure (.type "method_descriptor")) (hm:MtR X id r) (ho:PE X o to) (ha:PA X (e::es) t)
  (hbase:attributeBase o name X.env (eval o X.env)=eval o X.env:=by rfl)
  (hfew:((backTo cpos (starEach (e::es) X.env)).all (fun x=> !x.1)&&(backToKw cpos (keywordEach [] X.env)).all (fun x=>x.1.isSome)
   &&decide ((e::es).length+([]:List Keyword).length+(if ([]:List Keyword).isEmpty then 0 else 1)<30))=true:=by rfl)
  (hline:(apos.endLine==cpos.line)=true:=by rfl) (hs:starEach (e::es) X.env=(false,eval e X.env)::starEach es X.env:=by rfl) (hplain:(backTo cpos (starEach es X.env)).any (·.1)=false:=by rfl) :
  PE X (.Call (.Attribute o name apos) (e::es) [] cpos) (tBM X.K T r to t):=by
 intro pins s σ H Q I h
 refine wpAny_Call_method_late hbase hfew hline rfl (thn (ho pins s σ H _ I h) fun v s1 ⟨x,H1,I1,r1,ty,q1⟩=>?_)
 obtain ⟨h1,h2⟩:=tyV_is I1 r1 ty
 refine ⟨T,id,pa,slot,hty,h1,h2,?_⟩
 have hA:=ha cpos pins s1 σ H1 _ I1 q1
 rw [hs] at hA ⊢
 refine Calls.callWith_builtin (by show (false||(backTo cpos (starEach es X.env)).any (·.1))=false;rw [hplain]<;>rfl) (Calls.evalArgs_plain ?_)
 exact thn hA fun us s2 ⟨vs,H2,I2,r2,q2⟩=>hm pins s2 σ H2 x vs v us Q I2 r1 r2 q2
/- xs.append(e),list.index on a module's tuple .. are MtR facts of 06m -/
end
end L2
namespace L2
open PySem PySem.Spec PyProof.Rows
noncomputable def MtM (X:Cx) (id:String) (r:V->List V->Hp->VK->Prop):Prop:=
 ∀(pins:List (Addr×Obj)) (s:Shared) (σ:St) (H:Hp) (x:V) (xs:List V) (v:Value) (us:List Value) (Q:VK),Inv X pins σ H s->RelV x v->Vals xs us->r x xs H Q ->
  wpAny (model X.prog X.w) X.A (call (.builtin id) (v::us)) (EP X pins σ Q) X.xe s
theorem Vals.one:∀{x:V} {us:List Value},Vals [x] us->∃u,us=[u]/\RelV x u
 |_,_,.cons r .nil=>⟨_,rfl,r⟩
theorem Vals.two:∀{x y:V} {us:List Value},Vals [x,y] us->∃u v,us=[u,v]/\RelV x u/\RelV y v
 |_,_,_,.cons r (.cons q .nil)=>⟨_,_,rfl,r,q⟩
theorem Vals.eraseIdx:∀{xs:List V} {us:List Value} (i:Nat),Vals xs us->Vals (xs.eraseIdx i) (us.eraseIdx i)
 |_,_,_,.nil=>.nil
 |_,_,0,.cons _ t=>t
 |_,_,i+1,.cons r t=>.cons r (Vals.eraseIdx i t)
theorem uE {α:Type}:∀(l:List α) (i:Nat),(l.eraseIdx i).length<=l.length
 |[],_=>Nat.le_refl _
 |_::_,0=>Nat.le_succ _
 |_::r,i+1=>Nat.succ_le_succ (uE r i)
section
variable {X:Cx} {pins:List (Addr×Obj)} {σ:St} {H:Hp} {s:Shared} {l b:Addr} {xs ys zs:List V}
theorem Inv.lset {its its':List Value} {n:Nat} {f:Array Value->Array Value} {t':Nat} (I:Inv X pins σ H s) (hH:H l=some (.lst xs))
  (e:s.heap.get? l=some {cls:=.type "list",data:=.seq its.toArray n}) (hf:f its.toArray=its'.toArray) (hv:Vals ys its') (hz:ys.length<=sizeLine) :
  Inv X pins σ (upd H l (.lst ys)) {s with heap:=s.heap.update l (Obj.mapSeq f),toks:=t'}:=by
 have q:=PySem.IsL.update e f
 rw [hf] at q
 refine I.write (x:=l) (e:=l) (by rw [hH];exact trivial) (.inl rfl) (fun b' u hb hu=>(Heap.get?_update_other s.heap (Obj.mapSeq f) (Ne.symm hb)).trans hu) ⟨_,q⟩ ?_
 exact ⟨hz,its',_,hv,q⟩
theorem Inv.lnew {its:List Value} {t':Nat} (I:Inv X pins σ H s) (hv:Vals ys its) (hz:ys.length<=sizeLine) :
  Inv X pins σ (upd H s.heap.objs.size (.lst ys)) {s with heap:=s.heap.push {cls:=.type "list",data:=.seq its.toArray},toks:=t'}:=
 I.laid (fun _ _ q=>Heap.get?_push_of_some _ q) (Nat.le_refl _) ⟨hz,its,0,hv,Heap.get?_push_size _ rfl⟩
theorem Inv.fresh (I:Inv X pins σ H s):H s.heap.objs.size=none:=I.hok.fresh (Nat.le_refl _)
theorem Inv.lstM (I:Inv X pins σ H s) (hH:H l=some (.lst xs)):xs.length<=sizeLine/\∃(its:List Value) (n:Nat),Vals xs its/\xs.length=its.length/\s.heap.get? l=some {cls:=.type "list",data:=.seq its.toArray n}:=by
 obtain ⟨z,its,n,r,e⟩:=I.hok l _ hH
 exact ⟨z,its,n,r,r.length,e⟩
end
section
variable {X:Cx}
noncomputable def vN:V->List V->Hp->VK->Prop:=fun x vs H Q=>∃l xs y,x=.ref l/\vs=[y]/\H l=some (.lst xs)/\xs.length<sizeLine/\Q .non (upd H l (.lst (xs++[y])))
theorem uy:MtM X "list.append" vN:=by
 intro pins s σ H x vs v us Q I rx rv h
 obtain ⟨l,xs,y,rfl,rfl,hH,hz,q⟩:=h
 cases rx
 obtain ⟨u,rfl,ru⟩:=rv.one
 obtain ⟨z,its,n,r,hl,e⟩:=I.lstM hH
 refine call_meets F.slot_list_append ⟨_,e,rfl⟩ F.entry_list_append (F.args_list_append_2 _ _) (PySem.list_append l its.toArray n u (by rw [List.size_toArray];omega)) ⟨e,?_⟩
 refine ⟨.non,_,I.lset (its':=its++[u]) hH e (by simp) (r.append (.cons ru .nil)) ?_,rfl,q⟩
 rw [List.length_append,List.length_singleton]
 omega
noncomputable def rPopAt:V->List V->Hp->VK->Prop:=fun x vs H Q=>∃l xs i k y,x=.ref l/\vs=[.int i]/\H l=some (.lst xs)/\ -(2^63)<=i/\i<2^63/\seqIndex? i xs.length=some k/\xs[k]? =some y/\Q y (upd H l (.lst (xs.eraseIdx k)))
theorem mt_popAt:MtM X "list.pop" rPopAt:=by
 intro pins s σ H x vs v us Q I rx rv h
 obtain ⟨l,xs,i,k,y,rfl,rfl,hH,h1,h2,hk,hy,q⟩:=h
 cases rx
 obtain ⟨u,rfl,ru⟩:=rv.one
 obtain ⟨t,rfl⟩:=ru
 obtain ⟨z,its,n,r,hl,e⟩:=I.lstM hH
 obtain ⟨w,hw,rw'⟩:=r.get hy
 refine call_meets F.slot_list_pop ⟨_,e,rfl⟩ F.entry_list_pop (F.args_list_pop_2 _ _)
  (MeetsSeq.list_pop_at l its.toArray n i t k w (fitsIndex_both h1 h2) (by rw [List.size_toArray,<- hl];exact hk) (by rw [<- Array.getElem?_toList];exact hw) (by rw [List.size_toArray];omega)) ⟨e,?_⟩
 refine ⟨y,_,I.lset (its':=its.eraseIdx k) hH e ?_ (r.eraseIdx k) ?_,rw',q⟩
 ·show its.toArray.eraseIdxIfInBounds k=(its.eraseIdx k).toArray
  rw [List.eraseIdxIfInBounds_toArray]
 ·have:=uE xs k
  omega
end
end L2
namespace Att
open PySem PySem.W PySem.Calls PyProof.Rows
theorem pU {P:Params} {h:Heap}:∀(ns:List Int) (vs:List Value),WellAll P h vs (ns.map WData.int)->IntsAre vs ns:=by
 intro ns
 induction ns with
 |nil=>
  intro vs w
  rw [List.map_nil] at w
  cases w
  exact .nil
 |cons n ns ih=>
  intro vs w
  rw [List.map_cons] at w
  cases w with
  |cons a b=>
   cases a
   exact .cons _ _ (ih _ b)
theorem zJ {l:OpenLaw} {n:Nat} (hn:l.most=some n) {P:Params} {h:Heap} {args:List WData} {vals:List Value}
  (hpre:l.row.toRowW.claim.pre args=true) (hwl:WellAll P h vals args) :
  ∃a vs ns,vals=[Value.ref a]/\args=[WData.list (ns.map WData.int)]/\h.get? a=some {cls:=.type "list",data:=.seq vs.toArray}/\IntsAre vs ns/\ns.length<=n:=by
 have hsh:WShape.hasAll [] args [.list .int]=true:=(pre_splitW hpre).1
 have hc:l.pre.holds [] {args:=args}=true:=(pre_splitW hpre).2
 obtain ⟨d,r,rfl,h1,h2⟩:=hasAllW_cons hsh
 obtain rfl:=hasAllW_nil h2
 obtain ⟨xs,rfl,h3⟩:=hasW_list h1
 obtain ⟨ns,rfl⟩:=items_int h3
 have hlen:ns.length<=n:=by
  unfold OpenLaw.pre at hc
  have h4:(WTm.not (.lt (.lit (.int (n:Int))) (.len (.arg 0)))).holds [] {args:=[.list (ns.map .int)]}=true:=by
   have h4:=(holds_andW hc).1
   rw [hn] at h4
   exact h4
  have h5:=condW_of h4 (w_not (w_lt w_lit (w_len_list (w_arg rfl))))
  rw [List.length_map] at h5
  refine Nat.le_of_not_lt fun q=>?_
  have q':(n:Int)<((ns.length:Nat):Int):=by omega
  first
   |(rw [decide_eq_true q'] at h5;exact absurd h5 (by decide))
   |(simp at h5;omega)
 cases hwl with
 |cons w1 w2=>
  cases w2
  cases w1 with
  |list ho hall=>exact ⟨_,_,ns,rfl,rfl,ho,pU ns _ hall,hlen⟩
theorem zW (l:OpenLaw) (args:List WData):l.row.toRowW.claim.post args (.bool true) args=true:=
 postW_of (r:=l.row.toRowW) (X:=(true==true))
  (show WShape.has [] (.bool true) .bool=true by first|rfl|decide|simp [WShape.has,WShape.arms,WShape.armsAll])
  (show (WTm.eq .res (.lit (.bool true))).value [] {args:=args,res:=some (.bool true),after:=args}=some (.bool (true==true)) from w_eq_bool (w_res rfl) w_lit) rfl
theorem wZ {l:OpenLaw} {n:Nat} {q:Program} {loose:List Str} {XP:(Str->Option Value)->Heap->Prop} {YP:World->Heap->Prop} {d:DefRec}
  (hn:l.most=some n) (hdf:d.params.defaults=[])
  (call:∀(w:World) (s₀ s₁:Shared) (mg mb:Str->Option Value) (fa:Addr) (o:Obj) (pm cd doc:Value) (a:Addr) (vs:List Value) (ns:List Int),
   Ground q loose [] XP w s₀ mg mb s₁.heap->YP w s₁.heap ->
   s₁.heap.get? fa=some o->o.data=.func (docDef d.name d.params d.body d.scope pm cd doc)->s₁.heap.CodeRec cd d.name->mg d.name=some (.ref fa) ->
   s₁.heap.get? a=some {cls:=.type "list",data:=.seq vs.toArray}->IntsAre vs ns->ns.length<=n->s₁.gens=#[] ->
   codeAny (model l.prog w) callerA (.call (.ref fa) ⟨[.ref a],[]⟩) (fun r s'=>r=.ok (.ret (.bool true))/\OldK s₁.heap s'.heap/\s'.os=s₁.os/\AllBare s'.gens) s₁) :
  WalkO q loose XP YP l.row.toRowW d [] (fun f vs=>PySem.call f vs):=by
 intro w s₀ s₁ mg mb G Y fa o pm cd doc dV kV ho hd hcd hD hmg hg args vals as hpre hlay hrd hwl hlo
 obtain rfl:dV=.none:=Dflts.none hD hdf
 obtain rfl:kV=.none:=Dflts.noKw hD
 obtain ⟨a,vs,ns,rfl,rfl,hobj,hints,hlen⟩:=zJ hn hpre hwl
 refine enter_call (codeAny_mono (call w s₀ s₁ mg mb fa o pm cd doc a vs ns G Y ho (fd_plain hd) hcd hmg hobj hints hlen hg) fun r s' hq=>?_)
 obtain ⟨rfl,h2,h3,h4⟩:=hq
 exact ⟨.inl ⟨.bool true,.bool true,[],rfl,fun _=>rfl,.bool true,zW l _,fun _=>⟨List.Pairwise.nil,fun _ hm=>(nomatch hm)⟩⟩,h2,h3,h4⟩
section
variable {prog:Program} {w:World} {A:Around} {E:Value->Shared->Prop} {s:Shared} {K:Frag}
theorem make_obj {R:Result->Shared->Prop} {C fI:Addr} {rest:List Value} {kw:List (Str×Value)}
  (X:K.In s.heap) (hm:makesIn K C=true) (hi:findIn K (.ref C) "__init__"=some (some (.ref fI))) (hf:isFn K (.ref fI)=true)
  (h:codeAny (model prog w) (A.under (.builtin "type.__call__" ⟨.ref C::rest,kw⟩)) (.call (.ref fI) ⟨.ref (s.heap.objs.size+1)::rest,kw⟩) (InitBack (s.heap.objs.size+1) R)
   {s with heap:=(s.heap.push emptyDict).push (instObj C s.heap.objs.size)}):codeAny (model prog w) A (.call (.ref C) ⟨rest,kw⟩) R s:=by
 obtain ⟨hh,g,d,t,os⟩:=s
 exact make_core (makes_of X hm) (looks_findIn X hi) (fun self=>bind_fn X self (beq_iff_eq.mp hf)) (.inl rfl) h
theorem get_field {x C:Addr} {ox:Obj} {es:List DictEntry} {n:Nat} {name:Str} {expr:Bool} {v:Value} {Q:Value->Shared->Prop}
  (X:K.In s.heap) (I:PySem.W.InstAt s.heap x ox C (some (dictOf es n))) (hg:plainGet K C name=true) (hh:hasDictIn K C=true) (ha:findIn K (.ref C) name=some none)
  (hl:getL name es=some (some v)) (hv:handedIn v=true) (h:Q v {s with toks:=s.toks+1}):wpAny (model prog w) A (getAttr (.ref x) name expr) Q E s:=
 get_value X I (plainGet_of hg).1 (findObj_own hh ha rfl hl) hv h
end
end Att
namespace L2
open PySem PySem.Spec PyProof.Rows
theorem tQ:∀{vs:List Value} {ns:List Int},IntsAre vs ns->Vals (ns.map V.int) vs
 |_,_,.nil=>.nil
 |_,_,.cons n t h=>.cons ⟨t,rfl⟩ (tQ h)
noncomputable def Only (H:Hp):Prop:=∀b,H b=none\/∃o xs,H b=some (.frz o (.lst xs))
theorem law_call {P:Program} {w:World} {K:PySem.W.Frag} {mg mb:Str->Option Value} {CX:CXT} {k:Nat} {fa a:Addr} {fd:FuncData} {x:Str} {sp:Sp} {s₁:Shared} {vs:List Value} {ns:List Int}
  (KX:K.In s₁.heap) (hns:s₁.heap.Ns mainGlobals mg) (hb:s₁.heap.Ns builtinsNs mb) (hbb:∀x:Str,x≠"__name__"->mb x=bootBuiltins x) (hlim:s₁.heap.NoLimit) (hg:s₁.gens=#[])
  (ha:s₁.heap.get? a=some {cls:=.type "list",data:=.seq vs.toArray}) (hi:IntsAre vs ns) (hl:ns.length<=sizeLine) (hr:jk k callerA)
  (F:∀base:Heap,K.In base->base.Ns mainGlobals mg->cu P w K mg base CX k fa fd [x] sp) (hbind:∀(s:Shared) (u:Value),BindsTo s fd ⟨[u],[]⟩ [(x,u)])
  (hsp:∀H:Hp,Only H->SqL K H a (ns.map V.int)->sp [.ref a] H (fun v _=>v=.bl true) fun _ _ _=>False)
  (hCX:∀H e s',CX [] H s₁ (fun _ _ _=>False) e s'->False) :
  codeAny (model P w) callerA (.call (.ref fa) ⟨[.ref a],[]⟩) (fun r s'=>r=.ok (.ret (.bool true))/\OldK s₁.heap s'.heap/\s'.os=s₁.os/\AllBare s'.gens) s₁:=by
 have rv:=tQ hi
 have lenV:=hi.length
 have core:∀H:Hp,Only H->SqL K H a (ns.map V.int)->HOk P w H s₁.heap->(∀b,H b≠none->b=a)->(H a≠none->K.lookup a=none) ->
   codeAny (model P w) callerA (.call (.ref fa) ⟨[.ref a],[]⟩) (fun r s'=>r=.ok (.ret (.bool true))/\OldK s₁.heap s'.heap/\s'.os=s₁.os/\AllBare s'.gens) s₁:=by
  intro H hO hS hok hA hK
  have base_of:∀{b:Addr} {o:Obj},s₁.heap.get? b=some o->H b=none->(hidT s₁.heap H).get? b=some o:=fun e n=>hidT_get e n
  have noA:∀{b:Addr} {o:Obj} {es:Array DictEntry} {ep:Nat},s₁.heap.get? b=some o->o.data=.dict es ep->H b=none:=fun {b o es ep} e d=>by
   cases q:H b with
   |none=>rfl
   |some u=>
    have e':b=a:=hA b (by rw [q];simp)
    subst e'
    rw [ha] at e;cases e
    have d':Data.seq vs.toArray _=Data.dict es ep:=d
    cases d'
  have nsK:∀{b:Addr} {m:Str->Option Value},s₁.heap.Ns b m->(hidT s₁.heap H).Ns b m:=fun {b m} ⟨o,es,ep,e,d,r⟩=>⟨o,es,ep,base_of e (noA e d),d,r⟩
  have hKb:K.In (hidT s₁.heap H):=fun b o e=>base_of (KX b o e) (by
   cases q:H b with
   |none=>rfl
   |some u=>
    have e':b=a:=hA b (by rw [q];simp)
    subst e'
    rw [hK (by rw [q];simp)] at e;cases e)
  have hM:Mod K mg (hidT s₁.heap H):=⟨hKb,nsK hns,⟨mb,nsK hb,hbb⟩,let ⟨mc,h1,h2⟩:=hlim;⟨mc,nsK h1,h2⟩⟩
  have e0:Env0 P w K mg (hidT s₁.heap H) callerA [] s₁ H:=⟨rfl,hM,fun b o e=>of_hidT e,Nat.le_of_eq (AA _ _),trivial,fun b hb=>absurd (show b∈([]:List Addr) from hb) (by simp),hok,.of_eq hg⟩
  refine codeAny_mono ((F _ hKb (nsK hns)).run callerA [] s₁ H ⟨[.ref a],[]⟩ [.ref a] [.ref a] _ _ hr e0 (hbind s₁ (.ref a)) (.cons rfl .nil) (hsp H hO hS)) fun r s' h=>?_
  cases r with
  |error e=>exact (hCX H e s' h).elim
  |ok fl=>
   cases fl with
   |next=>exact False.elim h
   |brk=>exact False.elim h
   |cont=>exact False.elim h
   |ret u=>
    obtain ⟨v,H',os,bare,un,hok',r',q⟩:=h
    have q':v=.bl true:=q
    subst q'
    obtain rfl:u=Value.bool true:=r'
    refine ⟨rfl,OldK.of_keep fun b o e=>?_,os,bare⟩
    cases q:H b with
    |none=>exact un.keep b o e q (by intro z;exact absurd (show b∈([]:List Addr) from z) (by simp)) (by simp)
    |some u=>
     rcases hO b with z|⟨ob,xs,z⟩
     ·rw [q] at z;cases z
     ·have z2:=un.frzs b ob _ z
      obtain ⟨e1,_⟩:=hok b _ z
      obtain ⟨e2,_⟩:=hok' b _ z2
      rw [e] at e1;cases e1
      exact e2
 cases hk:K.lookup a with
 |some o=>
  have e:=KX a o hk
  rw [ha] at e
  cases e
  refine core (fun _=>none) (fun _=>.inl rfl) (.inr ⟨_,vs.toArray,_,hk,rfl,rfl,rfl,by rw [List.size_toArray,lenV];exact hl,by simpa using rv⟩) (fun b u z=>by have z':(none:Option HO)=some u:=z;cases z') (fun b z=>absurd rfl z) fun z=>absurd rfl z
 |none=>
  refine core (fun b=>if b=a then some (.frz {cls:=.type "list",data:=.seq vs.toArray} (.lst (ns.map V.int))) else none) (fun b=>?_) (.inl (.inr ⟨{cls:=.type "list",data:=.seq vs.toArray},if_pos rfl⟩)) (fun b u z=>?_) (fun b z=>?_) fun _=>hk
  ·by_cases hb:b=a
   ·exact .inr ⟨_,_,if_pos hb⟩
   ·exact .inl (if_neg hb)
  ·by_cases hb:b=a
   ·have z':=(if_pos hb).symm.trans z
    cases z'
    subst hb
    exact ⟨ha,by rw [List.length_map];exact hl,vs,_,rv,ha⟩
   ·have z':=(if_neg hb).symm.trans z
    cases z'
  ·by_cases hb:b=a
   ·exact hb
   ·exact absurd (if_neg hb) z
end L2
namespace L2
open PySem PySem.Spec PyProof.Rows
theorem walk_of {l:PySem.W.OpenLaw} {n k:Nat} {q:Program} {loose:List Str} {XP:(Str->Option Value)->Heap->Prop} {YP:World->Heap->Prop} {d:DefRec} {K:Params->PySem.W.Frag} {CX:World->CXT} {sp:World->Sp} {x:Str}
  (hn:l.most=some n) (hn2:n<=sizeLine) (hdf:d.params.defaults=[]) (hr:jk k callerA)
  (hY:∀(w:World) (h:Heap),YP w h->(K w.params).In h)
  (F:∀(w:World) (mg:Str->Option Value) (fa:Addr) (h:Heap),(K w.params).In h->h.Ns mainGlobals mg->mg d.name=some (.ref fa) ->
   ∃fd:FuncData,(∀(s:Shared) (u:Value),BindsTo s fd ⟨[u],[]⟩ [(x,u)]) /\
    ∀base:Heap,(K w.params).In base->base.Ns mainGlobals mg->cu l.prog w (K w.params) mg base (CX w) k fa fd [x] (sp w))
  (hsp:∀(w:World) (H:Hp) (a:Addr) (ns:List Int),ns.length<=n->Only H->SqL (K w.params) H a (ns.map V.int)->sp w [.ref a] H (fun v _=>v=.bl true) fun _ _ _=>False)
  (hCX:∀(w:World) (H:Hp) (s:Shared) (e:Value) (s':Shared),CX w [] H s (fun _ _ _=>False) e s'->False) :
  PySem.W.WalkO q loose XP YP l.row.toRowW d [] (fun f vs=>PySem.call f vs):=by
 refine Att.wZ hn hdf fun w s₀ s₁ mg mb fa o pm cd doc a vs ns G Y ho hd hcd hmg hobj hints hlen hg=>?_
 have KX:=hY w _ Y
 obtain ⟨fd,hb,hF⟩:=F w mg fa _ KX G.T.g hmg
 exact law_call KX G.T.g G.T.b G.T.builtins G.T.nolimit hg hobj hints (Nat.le_trans hlen hn2) hr hF hb (fun H hO hS=>hsp w H a ns hlen hO hS) fun H e s'=>hCX w H s₁ e s'
end L2
namespace L2
open PySem PySem.Spec PyProof.Rows
noncomputable def inClass (s:Stmt) (j:Nat):Stmt:=match s with
 |.ClassDef _ _ _ body _ _ _ _ _ _ _=>body.getD j (.Pass ⟨0,0,0,0⟩)
 |_=>.Pass ⟨0,0,0,0⟩
noncomputable def cN (s:Stmt):Arguments:=match s with
 |.FunctionDef _ a _ _ _ _ _ _ _ _=>a
 |_=>{posonlyargs:=[],args:=[],vararg:=none,kwonlyargs:=[],kw_defaults:=[],kwarg:=none,defaults:=[]}
noncomputable def bX (s:Stmt):List Stmt:=match s with
 |.FunctionDef _ _ b _ _ _ _ _ _ _=>b
 |_=>[]
noncomputable def ao (s:Stmt):Scope:=match s with
 |.FunctionDef _ _ _ _ _ _ sc _ _ _=>sc
 |_=>{kind:=.function,names:=[],isGenerator:=false,isCoroutine:=false}
noncomputable abbrev CX0:CXT:=fun _ _ _ _ _ _=>False
noncomputable abbrev E0:XK:=fun _ _ _=>False
theorem ui {X:Cx}:Passes CX0 X E0:=fun _ _ _ _ _ _ _ h=>h.elim
structure Fun (K:PySem.W.Frag) (x qual:Str) (st:Stmt) (f:Addr) (fd:FuncData):Prop where
 ex:∃(oc:Value) (od:Option Addr) (kV doc pm:Value) (an:Option Addr) (cdv ct:Value) (osl:Array (Option Value)),
  fd=fnOf x qual (cN st) (bX st) (ao st) .none kV doc pm an cdv ct/\K.lookup f=some ⟨oc,od,.func fd,osl⟩/\codeIn K cdv qual=true
 kp:keepIn K (.ref f)=true
section
variable {P:Program} {w:World} {K:PySem.W.Frag} {mg:Str->Option Value} {base:Heap}
theorem Fun.binds {x qual:Str} {st:Stmt} {f:Addr} {fd:FuncData} {ps:List Str} (F:Fun K x qual st f fd)
  (h:∀(kV doc pm:Value) (an:Option Addr) (cdv ct:Value) (us:List Value),us.length=ps.length->bindArgs (fnOf x qual (cN st) (bX st) (ao st) .none kV doc pm an cdv ct) ⟨us,[]⟩=pure (ps.zip us)):Binds K fd ps []:=by
 obtain ⟨oc,od,kV,doc,pm,an,cdv,ct,osl,rfl,lk,hcd⟩:=F.ex
 exact .all (h kV doc pm an cdv ct)
theorem xF {x qual:Str} {st:Stmt} {f:Addr} {oc:Value} {od an:Option Addr} {osl:Array (Option Value)} {kV doc pm cdv ct:Value} (l:K.lookup f=some ⟨oc,od,.func (fnOf x qual (cN st) (bX st) (ao st) .none kV doc pm an cdv ct),osl⟩)
  (c:codeIn K cdv qual=true) (k:keepIn K (.ref f)=true):Fun K x qual st f (fnOf x qual (cN st) (bX st) (ao st) .none kV doc pm an cdv ct):=⟨⟨oc,od,kV,doc,pm,an,cdv,ct,osl,rfl,l,c⟩,k⟩
end
section
variable {X:Cx}
theorem pv (i:Nat) {x:Str} {pos:Pos} (hN:X.N[i]? =some x:=by rfl) (hv:Vis X.env.scope x:=by first|exact Or.inl rfl|exact Or.inr (Or.inl rfl)|exact Or.inr (Or.inr rfl)) (hd:(x==("__debug__":Str))=false:=by decide)
  (hcd:(x==("__classdict__":Str))=false:=by decide):PE X (.Name x pos) (tVar i):=pe_var hN hv hd hcd
end
theorem iteF {A B:Prop} (h:B):if false=true then A else B:=by
 rw [if_neg Bool.false_ne_true]
 exact h
theorem iteNS {c A B:Prop} [Decidable c] (hc:c) (h:B):if (!decide c)=true then A else B:=by
 rw [decide_eq_true hc]
 exact iteF h
noncomputable def b0 (H H':Hp):Prop:=∀b o,H b=some o->H' b=some o
theorem b0.refl (H:Hp):b0 H H:=fun _ _ h=>h
theorem b0.trans {H H1 H2:Hp} (a:b0 H H1) (b:b0 H1 H2):b0 H H2:=fun c o h=>b c o (a c o h)
theorem b0.free {H H':Hp} (e:b0 H H') {l:Addr} (h:H' l=Option.none):H l=Option.none:=by
 cases q:H l with
 |none=>rfl
 |some o=>
  rw [e l o q] at h
  cases h
end L2
set_option maxHeartbeats 4000000
namespace L2
open PySem PySem.Spec PyProof.Rows
noncomputable def rN (cells:List (Str×Addr)):List (Str×NameKind)->List (Str×Addr)->List (Str×Addr)
 |[],acc=>acc
 |(x,k)::r,acc=>rN cells r (if (k==NameKind.free)=true then (x,(cells.lookup x).getD 0)::acc else acc)
theorem gt_ne {a b c:Addr} (h1:b<a) (h2:a<c):c≠b:=by
 rintro rfl
 exact absurd (Nat.lt_trans h1 h2) (Nat.lt_irrefl _)
theorem yD {a b:Addr} {n:Nat} (h1:a<n) (h2:n<=b):a≠b:=by
 rintro rfl
 exact absurd (Nat.lt_of_lt_of_le h1 h2) (Nat.lt_irrefl _)
theorem rM {cells:List (Str×Addr)} {x:Str} {c:Addr}:∀(ns:List (Str×NameKind)) (acc:List (Str×Addr)),(rN cells ns acc).lookup x=some c ->
  ((x,NameKind.free)∈ns/\c=(cells.lookup x).getD 0)\/acc.lookup x=some c
 |[],_,h=>.inr h
 |(y,k)::r,acc,h=>by
  unfold rN at h
  rcases rM r _ h with ⟨m,e⟩|q
  ·exact .inl ⟨List.mem_cons_of_mem _ m,e⟩
  ·by_cases hk:(k==NameKind.free)=true
   ·rw [if_pos hk,List.lookup_cons] at q
    cases hy:x==y with
    |true=>
     rw [hy] at q
     have e1:=eq_of_beq hy
     have e2:=eq_of_beq hk
     subst e1 e2
     exact .inl ⟨List.mem_cons_self,(Option.some.inj q).symm⟩
    |false=>rw [hy] at q;exact .inr q
   ·rw [if_neg hk] at q;exact .inr q
theorem qg {cells:List (Str×Addr)} {x:Str}:∀(ns:List (Str×NameKind)) (acc:List (Str×Addr)),((x,NameKind.free)∈ns\/(acc.lookup x).isSome=true)->((rN cells ns acc).lookup x).isSome=true
 |[],_,h=>h.elim (fun z=>nomatch z) id
 |(y,k)::r,acc,h=>by
  unfold rN
  refine qg r _ ?_
  rcases h with h|h
  ·rcases List.mem_cons.mp h with e|h
   ·cases e
    refine .inr ?_
    rw [if_pos (by decide),List.lookup_cons]
    simp
   ·exact .inl h
  ·refine .inr ?_
   by_cases hk:(k==NameKind.free)=true
   ·rw [if_pos hk,List.lookup_cons]
    cases hy:x==y with
    |true=>rfl
    |false=>exact h
   ·rw [if_neg hk];exact h
theorem nh {x:Str} {c:Addr}:∀(ns:List (Str×NameKind)) (n:Nat) (acc:List (Str×Addr)),(cellsFrom n ns acc).lookup x=some c->(n<=c/\(x,NameKind.cell)∈ns)\/acc.lookup x=some c
 |[],_,_,h=>.inr h
 |(y,k)::r,n,acc,h=>by
  unfold cellsFrom at h
  by_cases hk:(k==NameKind.cell)=true
  ·rw [if_pos hk] at h
   rcases nh r (n+1) _ h with ⟨a,m⟩|q
   ·exact .inl ⟨by omega,List.mem_cons_of_mem _ m⟩
   ·rw [List.lookup_cons] at q
    cases hy:x==y with
    |true=>
     rw [hy] at q
     have e1:=eq_of_beq hy
     have e2:=eq_of_beq hk
     have e3:=Option.some.inj q
     subst e1 e2 e3
     exact .inl ⟨Nat.le_refl _,List.mem_cons_self⟩
    |false=>rw [hy] at q;exact .inr q
  ·rw [if_neg hk] at h
   rcases nh r n acc h with ⟨a,m⟩|q
   ·exact .inl ⟨a,List.mem_cons_of_mem _ m⟩
   ·exact .inr q
theorem qh:∀(ns:List (Str×NameKind)) (n:Nat) (acc:List (Str×Addr)),(∀x y c,acc.lookup x=some c->acc.lookup y=some c->x=y)->(∀x c,acc.lookup x=some c->c<n) ->
  ∀x y c,(cellsFrom n ns acc).lookup x=some c->(cellsFrom n ns acc).lookup y=some c->x=y
 |[],_,_,hi,_=>hi
 |(z,k)::r,n,acc,hi,hl=>by
  unfold cellsFrom
  by_cases hk:(k==NameKind.cell)=true
  ·rw [if_pos hk]
   refine qh r (n+1) _ (fun x y c h1 h2=>?_) (fun x c h1=>?_)
   ·rw [List.lookup_cons] at h1 h2
    cases hx:x==z with
    |true=>
     rw [hx] at h1
     have e1:=Option.some.inj h1
     cases hy:y==z with
     |true=>rw [eq_of_beq hx,eq_of_beq hy]
     |false=>
      rw [hy] at h2
      have h3:=hl y c h2
      rw [<- e1] at h3
      exact absurd h3 (Nat.lt_irrefl _)
    |false=>
     rw [hx] at h1
     cases hy:y==z with
     |true=>
      rw [hy] at h2
      have e2:=Option.some.inj h2
      have h3:=hl x c h1
      rw [<- e2] at h3
      exact absurd h3 (Nat.lt_irrefl _)
     |false=>
      rw [hy] at h2
      exact hi x y c h1 h2
   ·rw [List.lookup_cons] at h1
    cases hx:x==z with
    |true=>
     rw [hx] at h1
     have e1:=Option.some.inj h1
     rw [<- e1]
     exact Nat.lt_succ_self _
    |false=>
     rw [hx] at h1
     exact Nat.lt_succ_of_lt (hl x c h1)
  ·rw [if_neg hk]
   exact qh r n acc hi hl
theorem o6 {x:Str} {c:Addr}:∀(ns:List (Str×NameKind)) (h:Heap) (acc:List (Str×Addr)),(cellsFrom h.objs.size ns acc).lookup x=some c ->
  acc.lookup x=some c\/(h.objs.size<=c/\(pushCells h ns).IsCell c none)
 |[],_,_,e=>.inl e
 |(y,k)::r,h,acc,e=>by
  unfold cellsFrom at e
  unfold pushCells
  by_cases hk:(k==NameKind.cell)=true
  ·rw [if_pos hk] at e ⊢
   have q:=o6 (x:=x) (c:=c) r (h.push {cls:=.type "cell",data:=.cell none}) ((y,h.objs.size)::acc) (by rw [Heap.size_push];exact e)
   rcases q with q|⟨q1,q2⟩
   ·rw [List.lookup_cons] at q
    cases hy:x==y with
    |true=>
     rw [hy] at q
     have e1:=Option.some.inj q
     subst e1
     exact .inr ⟨Nat.le_refl _,Heap.IsCell.keeps ⟨_,Heap.get?_push_size _ rfl,rfl⟩ (pushCells_keeps r _)⟩
    |false=>rw [hy] at q;exact .inl q
   ·rw [Heap.size_push] at q1
    exact .inr ⟨by omega,q2⟩
  ·rw [if_neg hk] at e ⊢
   exact o6 r h acc e
theorem oy {env:Env} (f:Str×NameKind->List (Str×Addr)->Sem (ForInStep (List (Str×Addr))))
  (hf:∀n k cs,f (n,k) cs=if (k==NameKind.free)=true then (do let a <- cellOf env n;pure (.yield ((n,a)::cs))) else pure (.yield cs)) :
  ∀(ns:List (Str×NameKind)) (acc:List (Str×Addr)),(∀x∈ns,x.2=NameKind.free->∃c,env.cells.lookup x.1=some c)->forIn ns acc f=(pure (rN env.cells ns acc):Sem _)
 |[],acc,_=>by rw [List.forIn_nil];rfl
 |(y,k)::r,acc,hc=>by
  have hr:∀x∈r,x.2=NameKind.free->∃c,env.cells.lookup x.1=some c:=fun x hx=>hc x (List.mem_cons_of_mem _ hx)
  rw [List.forIn_cons,hf]
  unfold rN
  by_cases hk:(k==NameKind.free)=true
  ·rw [if_pos hk,if_pos hk]
   obtain ⟨c,e⟩:=hc (y,k) List.mem_cons_self (eq_of_beq hk)
   have e':env.cells.lookup y=some c:=e
   have e2:cellOf env y=pure c:=by unfold cellOf;rw [e']
   rw [e2,e']
   exact oy f hf r _ hr
  ·rw [if_neg hk,if_neg hk]
   exact oy f hf r _ hr
theorem rL {scope:Scope} {env:Env} (hc:∀x∈scope.names,x.2=NameKind.free->∃c,env.cells.lookup x.1=some c):closureFor scope env=pure (rN env.cells scope.names []):=by
 simp only [closureFor]
 rw [oy (env:=env) _ (fun n k cs=>by cases h:(k==NameKind.free)<;>simp [h]) scope.names [] hc]
 rfl
theorem Ai {M:Model} {A:Around} {E:Value->Shared->Prop} {s:Shared} {scope:Scope} {gl:Addr} {cl:List (Str×Addr)} {qual:Str} {around:Env} {Q:Env->Shared->Prop}
  (hQ:∀h1:Heap,(∀b o,s.heap.get? b=some o->h1.get? b=some o)->h1.Ns s.heap.objs.size (fun _=>none) ->
   (∀x c,(cellsFrom (s.heap.objs.size+1) scope.names cl).lookup x=some c->cl.lookup x=some c\/(s.heap.objs.size<c/\h1.IsCell c none)) ->
   Q {scope:=scope,locals:=s.heap.objs.size,globals:=gl,cells:=cellsFrom (s.heap.objs.size+1) scope.names cl,qual:=qual,func:=none,code:=around.code,frame:=around.frame,builtins:=around.builtins} {s with heap:=h1}) :
  wpAny M A (newFunctionEnv scope gl cl [] qual none .none (some around)) Q E s:=by
 simp only [newFunctionEnv,Option.isSome_some,if_true]
 refine wpAny_bind (wpAny_alloc ?_)
 refine wpAny_bind (wpAny_layCells _ (fun name kind cells=>by cases hkc:kind==NameKind.cell<;>simp [hkc]) _ _ _ _ ?_)
 rw [show ({s with heap:=s.heap.push {cls:=.type "dict",data:=.dict #[]}}:Shared).heap.objs.size=s.heap.objs.size+1 from Heap.size_push ..]
 rw [List.forIn_nil]
 refine wpAny_bind (wpAny_pure (wpAny_pure ?_))
 refine hQ _ (fun b o e=>pushCells_keeps _ _ b o (Heap.get?_push_of_some _ e)) ((Heap.Ns.new s.heap (.type "dict")).keeps (pushCells_keeps _ _)) fun x c e=>?_
 have q:=o6 (x:=x) (c:=c) scope.names (s.heap.push {cls:=.type "dict",data:=.dict #[]}) cl (by rw [Heap.size_push];exact e)
 rw [Heap.size_push] at q
 exact q.imp id fun ⟨a,b⟩=>⟨by omega,b⟩
theorem r9 {env:Env} {x:Str}:∀{ns:List (Str×NameKind)},ns.lookup x=some .free ->
  (ns.map fun (n,k)=>if (k==NameKind.free&&env.scope.kind==.function&&env.kindOf n==some .cell) then (n,NameKind.cell) else (n,k)).lookup x=some .cell \/
  (ns.map fun (n,k)=>if (k==NameKind.free&&env.scope.kind==.function&&env.kindOf n==some .cell) then (n,NameKind.cell) else (n,k)).lookup x=some .free
 |[],h=>by simp at h
 |(n,k)::r,h=>by
  have ih:=@r9 env x r
  rw [List.map_cons]
  dsimp only
  by_cases hc:(k==NameKind.free&&env.scope.kind==.function&&env.kindOf n==some .cell)=true
  ·rw [if_pos hc,List.lookup_cons]
   cases hx:x==n with
   |true=>exact .inl rfl
   |false=>rw [List.lookup_cons,hx] at h;exact ih h
  ·rw [if_neg hc,List.lookup_cons]
   cases hx:x==n with
   |true=>
    rw [List.lookup_cons,hx] at h
    have e:=Option.some.inj h
    subst e
    exact .inr rfl
   |false=>rw [List.lookup_cons,hx] at h;exact ih h
theorem rg {env:Env} {x:Str}:∀{ns:List (Str×NameKind)},
  ((ns.map fun (n,k)=>if (k==NameKind.free&&env.scope.kind==.function&&env.kindOf n==some .cell) then (n,NameKind.cell) else (n,k)).lookup x=some .cell \/
  (ns.map fun (n,k)=>if (k==NameKind.free&&env.scope.kind==.function&&env.kindOf n==some .cell) then (n,NameKind.cell) else (n,k)).lookup x=some .free) ->
  ns.lookup x=some .cell\/ns.lookup x=some .free
 |[],h=>by simp at h
 |(n,k)::r,h=>by
  have ih:=@rg env x r
  rw [List.map_cons] at h
  dsimp only at h
  by_cases hc:(k==NameKind.free&&env.scope.kind==.function&&env.kindOf n==some .cell)=true
  ·rw [if_pos hc,List.lookup_cons] at h
   rw [List.lookup_cons]
   cases hx:x==n with
   |true=>
    have:k=NameKind.free:=by
     rw [Bool.and_eq_true,Bool.and_eq_true] at hc
     exact eq_of_beq hc.1.1
    subst this
    exact .inr rfl
   |false=>rw [hx] at h;exact ih h
  ·rw [if_neg hc,List.lookup_cons] at h
   rw [List.lookup_cons]
   cases hx:x==n with
   |true=>rw [hx] at h;exact h
   |false=>rw [hx] at h;exact ih h
noncomputable def bB (X:Cx) (N':List Str) (sc:Scope) (L:Addr) (cs:List (Str×Addr)) (s:Shared) (H:Hp) (fp:List Addr):Cx:=
 {X with
  N:=N',s₀:=s,H₀:=H,outer:=X.stack,ex:=fp,pn:=[],xe:=fun _ _=>False
  fn:=fun x=> !(sc.names.any fun p=>p.1==x&&p.2==NameKind.free)
  env:={scope:=relabel sc X.env,locals:=L,globals:=X.env.globals,cells:=cs,qual:=X.env.qual,func:=none,code:=X.env.code,frame:=X.env.frame,builtins:=X.env.builtins}}
noncomputable def inS (ix:List (Option Nat)) (σ:St):St:=ix.map fun o=>match o with
 |none=>none
 |some j=>(σ[j]?).join
noncomputable def bN (N:List Str) (osc:Scope) (N':List Str) (sc:Scope) (ix:List (Option Nat)):Bool:=
 decide (ix.length=N'.length) &&
 ((List.range ix.length).all fun i=>match ix[i]? with
  |some (some j)=>(match N'[i]?,N[j]? with
   |some x,some y=>x==y&&sc.names.lookup x==some NameKind.free
   |_,_=>false)
  |_=>true) &&
 (sc.names.all fun p=>(p.2 != NameKind.free||(osc.names.lookup p.1==some NameKind.cell||osc.names.lookup p.1==some NameKind.free))&&(p.2 != NameKind.local||sc.names.lookup p.1==some NameKind.local)) &&
 (sc.names.all fun p=>sc.names.all fun q=> !(p.1==q.1)||p.2==q.2)
section
variable {X:Cx} {pins:List (Addr×Obj)} {σ:St} {H:Hp} {s:Shared} {N':List Str} {sc:Scope} {ix:List (Option Nat)}
theorem bN.len (ok:bN X.N X.env.scope N' sc ix=true):ix.length=N'.length:=by
 unfold bN at ok
 rw [Bool.and_eq_true,Bool.and_eq_true,Bool.and_eq_true] at ok
 exact of_decide_eq_true ok.1.1.1
theorem bN.at (ok:bN X.N X.env.scope N' sc ix=true) {i j:Nat} {x:Str} (h:ix[i]? =some (some j)) (hx:N'[i]? =some x):X.N[j]? =some x/\sc.names.lookup x=some .free:=by
 unfold bN at ok
 rw [Bool.and_eq_true,Bool.and_eq_true,Bool.and_eq_true] at ok
 have q:=List.all_eq_true.mp ok.1.1.2 i (List.mem_range.mpr (List.getElem?_eq_some_iff.mp h).1)
 rw [h,hx] at q
 dsimp only at q
 cases e:X.N[j]? with
 |none=>rw [e] at q;cases q
 |some y=>
  rw [e] at q
  dsimp only at q
  rw [Bool.and_eq_true] at q
  exact ⟨by rw [eq_of_beq q.1],eq_of_beq q.2⟩
theorem bN.fr (ok:bN X.N X.env.scope N' sc ix=true) {x:Str} (h:(x,NameKind.free)∈sc.names):X.env.kindOf x=some .cell\/X.env.kindOf x=some .free:=by
 unfold bN at ok
 rw [Bool.and_eq_true,Bool.and_eq_true] at ok
 have q:=List.all_eq_true.mp ok.1.2 _ h
 rw [Bool.and_eq_true] at q
 have q1:=q.1
 rw [Bool.or_eq_true] at q1
 rcases q1 with z|z
 ·exact absurd z (by simp)
 ·rw [Bool.or_eq_true] at z
  exact z.imp (fun e=>eq_of_beq e) fun e=>eq_of_beq e
theorem bN.loc (ok:bN X.N X.env.scope N' sc ix=true):∀x∈sc.names,x.2=NameKind.local->sc.names.lookup x.1=some .local:=fun x hx e=>by
 unfold bN at ok
 rw [Bool.and_eq_true,Bool.and_eq_true] at ok
 have q:=List.all_eq_true.mp ok.1.2 _ hx
 rw [Bool.and_eq_true] at q
 have q1:=q.2
 rw [Bool.or_eq_true] at q1
 rcases q1 with z|z
 ·rw [e] at z;exact absurd z (by decide)
 ·exact eq_of_beq z
theorem bN.apart (ok:bN X.N X.env.scope N' sc ix=true) {x:Str} (h1:(x,NameKind.cell)∈sc.names) (h2:(x,NameKind.free)∈sc.names):False:=by
 unfold bN at ok
 rw [Bool.and_eq_true] at ok
 have q:=List.all_eq_true.mp (List.all_eq_true.mp ok.2 _ h1) _ h2
 simp at q
theorem qe (I:Inv X pins σ H s) (ok:bN X.N X.env.scope N' sc ix=true):∀x∈sc.names,x.2=NameKind.free->∃c,X.env.cells.lookup x.1=some c:=fun x hx e=>by
 obtain ⟨n,k⟩:=x
 have e':k=NameKind.free:=e
 subst e'
 exact I.ok.has n (bN.fr ok hx)
theorem AZ (I:Inv X pins σ H s) (ok:bN X.N X.env.scope N' sc ix=true) {x:Str} {c:Addr} (h:(rN X.env.cells sc.names []).lookup x=some c):(x,NameKind.free)∈sc.names/\X.env.cells.lookup x=some c:=by
 rcases rM _ _ h with ⟨m,e⟩|z
 ·obtain ⟨d,hd⟩:=qe I ok _ m rfl
  have hd':X.env.cells.lookup x=some d:=hd
  rw [hd'] at e
  have e2:c=d:=e
  subst e2
  exact ⟨m,hd'⟩
 ·simp at z
theorem comp_inv {fp:List Addr} {L:Addr} {h1:Heap} (I:Inv X pins σ H s) (hf:∀b∈fp,zd X pins H b) (hb:∀b∈fp,∃o,s.heap.get? b=some o) (ok:bN X.N X.env.scope N' sc ix=true) (hk:sc.kind=.function) (hL:s.heap.objs.size<=L)
  (kp:∀b o,s.heap.get? b=some o->h1.get? b=some o) (ns:h1.Ns L fun _=>none)
  (hc:∀x c,(cellsFrom (L+1) sc.names (rN X.env.cells sc.names [])).lookup x=some c->(rN X.env.cells sc.names []).lookup x=some c\/(L<c/\h1.IsCell c none)) :
  Inv (bB X N' sc L (cellsFrom (L+1) sc.names (rN X.env.cells sc.names [])) s H fp) [] (inS ix σ) H {s with heap:=h1}:=by
 have cc:∀x c,(rN X.env.cells sc.names []).lookup x=some c->(x,NameKind.free)∈sc.names/\X.env.cells.lookup x=some c/\(∃v,s.heap.IsCell c v)/\c<s.heap.objs.size:=fun x c e=>by
  obtain ⟨m,e'⟩:=AZ I ok e
  obtain ⟨v,z⟩:=I.cell x c e'
  exact ⟨m,e',⟨v,z⟩,z.lt⟩
 have fpl:∀b∈fp,b<s.heap.objs.size:=fun b z=>let ⟨o,e⟩:=hb b z;Heap.lt_size e
 have cne:∀b∈fp,∀x c,(cellsFrom (L+1) sc.names (rN X.env.cells sc.names [])).lookup x=some c->c≠b:=fun b z x c e=>by
  have hlt:=fpl b z
  rcases hc x c e with q|⟨q,_⟩
  ·exact (hf b z).2.2.2.2.1 x c (cc x c q).2.1
  ·exact gt_ne (Nat.lt_of_lt_of_le hlt hL) q
 have okk:(bB X N' sc L (cellsFrom (L+1) sc.names (rN X.env.cells sc.names [])) s H fp).Ok:=by
  refine ⟨I.ok.mod,hk,I.ok.glob,I.ok.blt,hL,?_,?_,?_,I.ok.hd,I.ok.frames,.inl rfl,?_,I.bs,Nat.le_trans I.ok.bsz I.sz,?_,?_,I.stack,I.zC⟩
  ·refine qh sc.names (L+1) _ (fun x y c e1 e2=>I.ok.inj x y c (cc x c e1).2.1 (cc y c e2).2.1) fun x c e=>?_
   exact Nat.lt_succ_of_lt (Nat.lt_of_lt_of_le (cc x c e).2.2.2 hL)
  ·intro x hx
   have hx':=rg (env:=X.env) (x:=x) (ns:=sc.names) hx
   have q:((cellsFrom (L+1) sc.names (rN X.env.cells sc.names [])).lookup x).isSome=true:=by
    rcases hx' with z|z
    ·exact PySem.W.cellsFrom_some _ _ _ (.inl z)
    ·exact PySem.W.cellsFrom_some _ _ _ (.inr (qg _ _ (.inl (PySem.mem_of_lookup z))))
   exact Option.isSome_iff_exists.mp q
  ·intro x c hfn e
   show s.heap.objs.size<=c
   rcases hc x c e with q|⟨q,_⟩
   ·have m:=(cc x c q).1
    have hfn':(!(sc.names.any fun p=>p.1==x&&p.2==NameKind.free))=true:=hfn
    have z:(sc.names.any fun p=>p.1==x&&p.2==NameKind.free)=true:=List.any_eq_true.mpr ⟨_,m,by simp⟩
    rw [z] at hfn'
    cases hfn'
   ·exact Nat.le_trans hL (Nat.le_of_lt q)
  ·intro b z
   have hlt:=fpl b z
   exact ⟨Nat.ne_of_lt (Nat.lt_of_lt_of_le hlt hL),cne b z⟩
  ·intro b o e z
   rcases (hf b z).2.2.2.1 with q|q
   ·exact I.ok.noex b o e q
   ·exact absurd (Nat.lt_of_lt_of_le (Heap.lt_size e) (Nat.le_trans I.ok.bsz q)) (Nat.lt_irrefl _)
  ·intro b z hs
   rcases List.mem_cons.mp (I.qY b hs) with q|q
   ·exact (hf b z).2.1 q
   ·exact (hf b z).2.2.1 q
 refine ⟨okk,rfl,I.bare,Un.kept kp,⟨_,ns,fun i x v h1' h2 h3=>?_⟩,fun x c e=>?_,I.hok.fresh hL,fun x c e=>?_,fun p hp=>absurd hp (by simp [bB]),I.hok.kept kp,?_⟩
 ·have hix:∃j,ix[i]? =some (some j)/\σ[j]? =some (some v):=by
   unfold inS at h2
   rw [List.getElem?_map] at h2
   cases e:ix[i]? with
   |none=>rw [e] at h2;cases h2
   |some o=>
    rw [e] at h2
    cases o with
    |none=>cases h2
    |some j=>
     have h2':(σ[j]?).join=some v:=Option.some.inj h2
     refine ⟨j,rfl,?_⟩
     cases e2:σ[j]? with
     |none=>rw [e2] at h2';cases h2'
     |some w=>
      rw [e2] at h2'
      have h2'':w=some v:=h2'
      rw [h2'']
  obtain ⟨j,e1,e2⟩:=hix
  obtain ⟨e3,e4⟩:=bN.at ok e1 h1'
  have hfr:=bN.fr ok (PySem.mem_of_lookup e4)
  obtain ⟨m,hn,hl⟩:=I.loc
  obtain ⟨u,r,l⟩:=hl j x v e3 e2 (hfr.elim (fun z=>.inr (.inl z)) fun z=>.inr (.inr z))
  refine ⟨u,r,.inr ⟨r9 (env:=X.env) (x:=x) (ns:=sc.names) e4,?_⟩⟩
  rcases l with ⟨k,_⟩|⟨k,c,e,z⟩
  ·rcases hfr with q|q<;>rw [q] at k<;>cases k
  ·have q1:=qg (cells:=X.env.cells) sc.names [] (.inl (PySem.mem_of_lookup e4))
   obtain ⟨c2,q2⟩:=Option.isSome_iff_exists.mp q1
   have q3:=(cc x c2 q2).2.1
   rw [e] at q3
   cases q3
   have q4:=PySem.W.cellsFrom_some (x:=x) sc.names (L+1) (rN X.env.cells sc.names []) (.inr q1)
   obtain ⟨c3,q5⟩:=Option.isSome_iff_exists.mp q4
   rcases hc x c3 q5 with q6|⟨q6,q7⟩
   ·rw [q2] at q6
    cases q6
    exact ⟨c,q5,z.keeps kp⟩
   ·exfalso
    rcases nh _ _ _ q5 with ⟨_,m'⟩|q8
    ·exact bN.apart ok m' (PySem.mem_of_lookup e4)
    ·rw [q2] at q8
     cases q8
     exact absurd (Nat.lt_trans (Nat.lt_of_lt_of_le (cc x c q2).2.2.2 hL) q6) (Nat.lt_irrefl _)
 ·rcases hc x c e with q|⟨_,q⟩
  ·obtain ⟨v,z⟩:=(cc x c q).2.2.1
   exact ⟨v,z.keeps kp⟩
  ·exact ⟨_,q⟩
 ·rcases hc x c e with q|⟨q,_⟩
  ·exact I.freeC x c (cc x c q).2.1
  ·exact I.hok.fresh (Nat.le_trans hL (Nat.le_of_lt q))
 ·show (inS ix σ).length=N'.length
  unfold inS
  rw [List.length_map]
  exact bN.len ok
end
noncomputable def PTs (X:Cx) (ifs:List Expr) (t:TT):Prop:=
 ∀(pins:List (Addr×Obj)) (s:Shared) (σ:St) (H:Hp) (Q:Bool->Hp->Prop),Inv X pins σ H s->t σ H Q ->
  wpAny (model X.prog X.w) X.A (forIn ifs true fun c r=>if r=true then do let ok <- isTrue c X.env (eval c X.env);pure (ForInStep.yield ok) else pure (ForInStep.yield r)) (TP X pins σ Q) X.xe s
noncomputable def tYes:TT:=fun _ H Q=>Q true H
theorem pts_nil {X:Cx}:PTs X [] tYes:=fun _ _ _ H _ I h=>wpAny_tests_nil ⟨H,I,h⟩
theorem pts_one {X:Cx} {c:Expr} {t:TT} (h:PT X c t):PTs X [c] t:=fun pins s σ H Q I q=>wpAny_tests_one (h pins s σ H Q I q)
theorem uX {prog:Program} {w:World} {A:Around} {R:Result->Shared->Prop} {s:Shared} {elt tg iter:Expr} {ifs:List Expr} {scope:Scope} {pos:Pos} {it acc:Value} {env:Env} (J:Nat->Shared->Prop)
  (turn:∀n s,J n s->wpAny (model prog w) A (pyNext it) (fun r s1=>match r with
   |none=>R (.ok .next) s1
   |some v=>wpAny (model prog w) A (letOwnedTupleGo tg it v) (fun _ s1'=>wpAny (model prog w) A (assign tg env v) (fun _ s2=>
     wpAny (model prog w) A (forIn ifs true fun c r=>if r=true then do let ok <- isTrue c env (eval c env);pure (ForInStep.yield ok) else pure (ForInStep.yield r)) (fun ok s3=>
      if ok=true then wpAny (model prog w) A (eval elt env) (fun x s4=>wpAny (model prog w) A (call (.builtin "list.append") [acc,x]) (fun _ s5=>∃m,m<n/\J m s5) (fun _ _=>False) s4) (fun _ _=>False) s3
      else ∃m,m<n/\J m s3) (fun _ _=>False) s2) (fun _ _=>False) s1') (fun _ _=>False) s1) (fun _ _=>False) s)
  (n:Nat) (h:J n s):codeAny (model prog w) A (.compLoop (.ListComp elt [⟨tg,iter,ifs,0⟩] scope pos) 0 it acc env) R s:=by
 refine codeAny_loop rfl J (fun n s hJ=>?_) n h
 show wpAny _ A ((compTurn (.ListComp elt [⟨tg,iter,ifs,0⟩] scope pos) 0 it acc env).onRaise (fun x=>do noteFrame x env;theTreesLotGoes x)) _ _ s
 refine wpAny_noted ?_
 rw [compTurn_list]
 refine wpAny_bind (wpAny_standAt (wpAny_bind (wpAny_mono (turn n s hJ) (fun r s1 h1=>?_) fun _ _ z=>z.elim)))
 cases r with
 |none=>exact wpAny_pure h1
 |some v=>
  refine wpAny_bind (wpAny_mono h1 (fun _ s1' h1'=>?_) fun _ _ z=>z.elim)
  refine wpAny_bind (wpAny_mono h1' (fun _ s2 h2=>wpAny_bind (wpAny_mono h2 (fun ok s3 h3=>?_) fun _ _ z=>z.elim)) fun _ _ z=>z.elim)
  cases ok with
  |false=>exact wpAny_pure ⟨rfl,h3⟩
  |true=>
   exact wpAny_bind (wpAny_bind (wpAny_mono h3 (fun x s4 h4=>wpAny_bind (wpAny_mono h4 (fun _ s5 h5=>wpAny_pure (wpAny_pure ⟨rfl,h5⟩)) fun _ _ z=>z.elim)) fun _ _ z=>z.elim))
noncomputable def qf (J:It) (ix:List (Option Nat)) (g:TG) (tt:TT) (te:TE) (σ:St) (F:List V->Hp->Prop) (H:Hp):Prop:=
 ∃W:Nat->Nat->List V->Hp->Prop,(∃m,W 0 m [] H)/\∀i m ys H,W i m ys H ->
  (J.stop i H/\ys.length<=sizeLine/\F ys H)\/(J.go i H/\ys.length<=sizeLine/\∃N:List V->Hp->Prop,(∀ys' H',N ys' H'->∃m',m'<m/\W (i+1) m' ys' H') /\
   ∀x H',J.yld i H x H'->g x (inS ix σ) H' fun σ2 H2=>tt σ2 H2 fun b H3=>if b=true then te σ2 H3 fun y H4=>N (ys++[y]) H4 else N ys H3)
section
variable {X:Cx} {pins:List (Addr×Obj)} {σ:St} {H:Hp} {s:Shared} {N':List Str} {sc:Scope} {ix:List (Option Nat)}
theorem Inv.slots0 {X:Cx} {σ':St} (I:Inv X pins σ' H s) (h:∀(i:Nat) v,(inS ix σ)[i]? =some (some v)->σ'[i]? =some (some v)) (hl:(inS ix σ).length=X.N.length):Inv X pins (inS ix σ) H s:=
 I.weak (by rw [hl,I.len]) h
theorem uW {tg elt iter:Expr} {ifs:List Expr} {pos:Pos} {g:TG} {tt:TT} {te:TE} {J:It} {fp:List Addr} {it:Addr} {tn:Nat->Heap->Prop} {F:List V->Hp->Prop} {E:Value->Shared->Prop}
  (hc:X.calm=true) (I:Inv X pins σ H s) (T:Turn X.prog X.w X.K tg J fp it tn) (st:tn 0 s.heap) (hf:∀b∈fp,zd X pins H b) (ok:bN X.N X.env.scope N' sc ix=true) (hk:sc.kind=.function)
  (hg:∀L cs s H fp,PG (bB X N' sc L cs s H fp) tg g) (hkeep:∀x σ' H' (Q:St->Hp->Prop),g x σ' H' Q->g x σ' H' fun σ2 H2=>Q σ2 H2/\∀(i:Nat) v,σ'[i]? =some (some v)->(∃j,ix[i]? =some (some j))->σ2[i]? =some (some v))
  (ht:∀L cs s H fp,PTs (bB X N' sc L cs s H fp) ifs tt) (he:∀L cs s H fp,PE (bB X N' sc L cs s H fp) elt te)
  (tr:qf J ix g tt te σ F H) :
  wpAny (model X.prog X.w) X.A (newList []) (fun acc s3=>wpAny (model X.prog X.w) X.A (newFunctionEnv sc X.env.globals (rN X.env.cells sc.names []) [] X.env.qual none .none (some X.env)) (fun cenv s4=>
   codeAny (model X.prog X.w) X.A (.compStart (.ListComp elt [⟨tg,iter,ifs,0⟩] sc pos) 0 (.ref it) acc {cenv with scope:=relabel sc X.env}) (fun r s'=>(∃fl,r=.ok fl) /\
    ∃(p:Addr) (ys:List V) (H2:Hp),acc=.ref p/\Inv X pins σ (upd H2 p (.lst ys)) s'/\H2 p=none/\F ys H2/\(∃m,s'.heap.Ns cenv.locals m)/\(upd H2 p (.lst ys)) cenv.locals=none/\cenv.locals≠X.env.locals /\
     X.s₀.heap.objs.size<=cenv.locals/\(∀x c,X.env.cells.lookup x=some c->c≠cenv.locals)/\∀q∈X.pn++pins,q.1≠cenv.locals) s4) E s3) E s:=by
 obtain ⟨W,⟨m0,w0⟩,turn⟩:=tr
 refine wpAny_newObj_type (Ai fun h1 kp ns hcl=>?_)
 dsimp only at kp ns hcl ⊢
 generalize hH2:s.heap.push {cls:=.type "list",dict:=none,data:=.seq ([]:List Value).toArray}=HH at kp ns hcl ⊢
 have eL:HH.objs.size=s.heap.objs.size+1:=by rw [<- hH2,Heap.size_push]
 have kp0:∀b o,s.heap.get? b=some o->h1.get? b=some o:=fun b o e=>kp b o (hH2▸Heap.get?_push_of_some _ e)
 have hD0:h1.PlainList s.heap.objs.size #[]:=⟨_,kp _ _ (hH2▸Heap.get?_push_size _ rfl)⟩
 have fpo:∀b∈fp,∃o,s.heap.get? b=some o:=fun b z=>let ⟨o,e,_⟩:=T.obj 0 _ st b z;⟨o,e⟩
 have fpl:∀b∈fp,b<s.heap.objs.size:=fun b z=>let ⟨o,e⟩:=fpo b z;Heap.lt_size e
 have sL:s.heap.objs.size<=HH.objs.size:=by rw [eL];exact Nat.le_succ _
 have sL':s.heap.objs.size<HH.objs.size:=by rw [eL];exact Nat.lt_succ_self _
 have I0:=comp_inv (h1:=h1) I hf fpo ok hk sL kp0 ns hcl
 generalize hXX:bB X N' sc HH.objs.size (cellsFrom (HH.objs.size+1) sc.names (rN X.env.cells sc.names [])) s H fp=Y at I0
 have eY1:Y.prog=X.prog:=by subst hXX;rfl
 have eY2:Y.w=X.w:=by subst hXX;rfl
 have eY3:Y.K=X.K:=by subst hXX;rfl
 have eY4:Y.calm=true:=by subst hXX;exact hc
 have eY5:Y.A=X.A:=by subst hXX;rfl
 have eY6:Y.env={scope:=relabel sc X.env,locals:=HH.objs.size,globals:=X.env.globals,cells:=cellsFrom (HH.objs.size+1) sc.names (rN X.env.cells sc.names []),qual:=X.env.qual,func:=none,code:=X.env.code,frame:=X.env.frame,builtins:=X.env.builtins}:=by subst hXX;rfl
 have eY7:Y.xe=fun _ _=>False:=by subst hXX;rfl
 have eY8:Y.pn=[]:=by subst hXX;rfl
 have eY9:Y.fs=frs X.stack:=by subst hXX;rfl
 have eY10:Y.s₀=s:=by subst hXX;rfl
 have eY11:Y.H₀=H:=by subst hXX;rfl
 have eY12:Y.ex=fp:=by subst hXX;rfl
 have eY13:Y.N=N':=by subst hXX;rfl
 have hgY:PG Y tg g:=by subst hXX;exact hg _ _ _ _ _
 have htY:PTs Y ifs tt:=by subst hXX;exact ht _ _ _ _ _
 have heY:PE Y elt te:=by subst hXX;exact he _ _ _ _ _
 have lenI:(inS ix σ).length=Y.N.length:=by rw [eY13];unfold inS;rw [List.length_map];exact bN.len ok
 have cellN:∀(b:Addr),b<=HH.objs.size->(∀x c,X.env.cells.lookup x=some c->c≠b)->∀x c,Y.env.cells.lookup x=some c->c≠b:=fun b hb hx x c e=>by
  rw [eY6] at e
  rcases hcl x c e with q|⟨q,_⟩
  ·exact hx x c (AZ I ok q).2
  ·exact (yD (Nat.lt_of_le_of_lt hb (Nat.lt_succ_self _)) q).symm
 have oldc:∀x c,X.env.cells.lookup x=some c->c<s.heap.objs.size:=fun x c e=>let ⟨v,z⟩:=I.cell x c e;z.lt
 have nfs:∀b,s.heap.objs.size<=b->b∉frs X.stack:=fun b hb z=>by
  rcases List.mem_cons.mp (I.qY b z) with q|q
  ·exact yD I.lt hb q.symm
  ·exact I.nofs hb q
 have fpY:∀(pp:List (Addr×Obj)) (H':Hp),(∀b∈fp,H' b=none)->(∀q∈pp,q.1∉fp)->∀b∈fp,zd Y pp H' b:=fun pp H' hn hq b z=>by
  have hlt:=fpl b z
  refine ⟨hn b z,?_,?_,.inl (by rw [eY12];exact z),cellN b (Nat.le_of_lt (Nat.lt_trans hlt sL')) ((hf b z).2.2.2.2.1),fun q hq' e=>?_⟩
  ·rw [eY6];exact yD hlt sL
  ·rw [eY9];intro hs
   rcases List.mem_cons.mp (I.qY b hs) with q|q
   ·exact (hf b z).2.1 q
   ·exact (hf b z).2.2.1 q
  ·rw [eY8] at hq'
   exact hq q (by simpa using hq') (by rw [e];exact z)
 have Dfp:s.heap.objs.size∉fp:=fun z=>absurd (fpl _ z) (Nat.lt_irrefl _)
 have Dok:∀(pp:List (Addr×Obj)) (H':Hp),H' s.heap.objs.size=none->(∀q∈pp,q.1≠s.heap.objs.size)->zd Y pp H' s.heap.objs.size:=fun pp H' hn hq=>by
  refine ⟨hn,?_,by rw [eY9];exact nfs _ (Nat.le_refl _),.inr (by rw [eY10];exact Nat.le_refl _),cellN _ sL (fun x c e=>Nat.ne_of_lt (oldc x c e)),fun q hq'=>?_⟩
  ·rw [eY6];exact Nat.ne_of_lt sL'
  ·rw [eY8] at hq'
   exact hq q (by simpa using hq')
 have loop:codeAny (model X.prog X.w) X.A (.compLoop (.ListComp elt [⟨tg,iter,ifs,0⟩] sc pos) 0 (.ref it) (.ref s.heap.objs.size) Y.env) (fun r s'=>(∃fl,r=.ok fl) /\
    ∃(p:Addr) (ys:List V) (H2:Hp),Value.ref s.heap.objs.size=.ref p/\Inv X pins σ (upd H2 p (.lst ys)) s'/\H2 p=none/\F ys H2/\(∃m,s'.heap.Ns HH.objs.size m)/\(upd H2 p (.lst ys)) HH.objs.size=none/\HH.objs.size≠X.env.locals /\
     X.s₀.heap.objs.size<=HH.objs.size/\(∀x c,X.env.cells.lookup x=some c->c≠HH.objs.size)/\∀q∈X.pn++pins,q.1≠HH.objs.size) {s with heap:=h1}:=by
  refine uX (fun n s'=>∃i ys its H',Inv Y [] (inS ix σ) H' s'/\tn i s'.heap/\(∀b∈fp,H' b=none)/\H' s.heap.objs.size=none/\s'.heap.PlainList s.heap.objs.size its/\Vals ys its.toList/\W i n ys H') ?_ m0
   ⟨0,[],#[],H,I0,T.keep _ _ _ st fun b _ o e=>kp0 b o e,fun b z=>(hf b z).1,I.hok.fresh (Nat.le_refl _),hD0,.nil,w0⟩
  rintro n s3 ⟨i,ys,its,H3,I3,st3,fr3,hD3,pl3,vs3,w3⟩
  obtain ⟨nD,oD⟩:=pl3
  have hpD:∀q∈[((s.heap.objs.size:Addr),({cls:=.type "list",data:=.seq its nD}:Obj))],q.1∉fp:=fun q hq=>by
   have:q=_:=List.mem_singleton.mp hq
   rw [this];exact Dfp
  have I3':Inv Y [((s.heap.objs.size:Addr),({cls:=.type "list",data:=.seq its nD}:Obj))] (inS ix σ) H3 s3:=I3.sy fun q hq=>by
   have e:q=_:=List.mem_singleton.mp hq
   obtain ⟨d0,d1,d2,_⟩:=Dok [] H3 hD3 (fun _ z=>nomatch z)
   rw [e]
   exact ⟨oD,d0,d1,d2,fun v z=>by cases z⟩
  rcases turn i n ys H3 w3 with ⟨stop,ln,qn⟩|⟨go,ln,NN,hNN,step⟩
  ·have h1:=T.done Y eY1 eY2 eY3 eY4 i _ s3 _ H3 (fun _ _=>False) I3' (fpY _ H3 fr3 hpD) st3 stop
   rw [eY5] at h1
   refine wpAny_mono h1 (fun r s4 ⟨hr,I4⟩=>?_) fun _ _ z=>z
   subst hr
   obtain ⟨oD4,hD4,_⟩:=I4.pin ((s.heap.objs.size:Addr),({cls:=.type "list",data:=.seq its nD}:Obj)) (by rw [eY8];simp)
   refine ⟨⟨_,rfl⟩,s.heap.objs.size,ys,H3,rfl,?_,hD3,qn,?_,?_,?_,?_,?_,?_⟩
   ·have ub:Un (frs X.stack) fp H H3 s.heap s4.heap:=by
     have:=I4.base
     rw [eY9,eY10,eY11,eY12] at this
     exact this
    have hok4:HOk X.prog X.w H3 s4.heap:=by
     have:=I4.hok
     rw [eY1,eY2] at this
     exact this
    refine I.call' (ch:=fp) (by have:=I4.os;rw [eY10] at this;exact this) ⟨ub.keep,ub.slot,fun b o e nn hx=>?_,ub.there,fun b xs q=>?_,fun b o u q=>?_,fun b ps q=>?_⟩ (fun b u e=>?_) I4.bare (fun b hb=>?_)
    ·rw [ar (Nat.ne_of_lt (Heap.lt_size e))];exact ub.free b o e nn hx
    ·rw [ar (aL (ub.tups b xs q) hD3)];exact ub.tups b xs q
    ·rw [ar (aL (ub.frzs b o u q) hD3)];exact ub.frzs b o u q
    ·obtain ⟨more,z⟩:=ub.tbls b ps q
     exact ⟨more,by rw [ar (aL z hD3)];exact z⟩
    ·by_cases hb:b=s.heap.objs.size
     ·subst hb
      rw [aq] at e
      cases e
      exact ⟨ln,its.toList,nD,vs3,by simpa using oD4⟩
     ·rw [ar hb] at e
      exact (hok4 b u e).vF (fun _ _ _ q=>q) (fun c q=>by rw [ar (aL q hD3)];exact q) fun c xs q=>by rw [ar (aL q hD3)];exact q
    ·obtain ⟨f0,f1,f2,f3,f4,f5⟩:=hf b hb
     exact ⟨f3,f1,f4,f5⟩
   ·obtain ⟨m,hn,_⟩:=I4.loc
    rw [eY6] at hn
    exact ⟨m,hn⟩
   ·rw [ar (Nat.ne_of_gt sL')]
    have:=I4.free
    rw [eY6] at this
    exact this
   ·exact Nat.ne_of_gt (Nat.lt_trans I.lt sL')
   ·exact Nat.le_trans I.sz sL
   ·exact fun x c e=>yD (oldc x c e) sL
   ·exact fun q hq=>yD (Heap.lt_size (I.pin q hq).1) sL
  ·have h1:=T.item Y eY1 eY2 eY3 eY4 i _ s3 _ H3 (fun _ _=>False) I3' (fpY _ H3 fr3 hpD) st3 go
   rw [eY5] at h1
   refine wpAny_mono h1 (fun r s4 ⟨u,hr,h4⟩=>?_) fun _ _ z=>z
   subst hr
   refine wpAny_mono h4 (fun _ s5 ⟨x,H5,I5,r5,y5,st5,fr5⟩=>?_) fun _ _ z=>z
   have I5':=I5.pinned (fpY _ H5 fr5 hpD) (T.obj _ _ st5)
   have h5:=hgY _ s5 _ H5 x u _ I5' r5 (hkeep x _ H5 _ (step x H5 y5))
   rw [eY1,eY2,eY5,eY7] at h5
   refine wpAny_mono h5 (fun _ s6 ⟨σ6,H6,I6,q6,k6⟩=>?_) fun _ _ z=>z
   have h6:=htY _ s6 σ6 H6 _ I6 q6
   rw [eY1,eY2,eY5,eY7] at h6
   refine wpAny_mono h6 (fun b s7 ⟨H7,I7,q7⟩=>?_) fun _ _ z=>z
   have back:∀{s8:Shared} {H8:Hp},Inv Y ([((s.heap.objs.size:Addr),({cls:=.type "list",data:=.seq its nD}:Obj))]++ue fp s5.heap) σ6 H8 s8->Inv Y [] (inS ix σ) H8 s8/\tn (i+1) s8.heap/\(∀b∈fp,H8 b=none)/\H8 s.heap.objs.size=none/\s8.heap.get? s.heap.objs.size=some {cls:=.type "list",data:=.seq its nD}:=fun {s8 H8} I8=>by
    obtain ⟨a1,a2,_⟩:=I8.pin ((s.heap.objs.size:Addr),({cls:=.type "list",data:=.seq its nD}:Obj)) (by rw [eY8];simp)
    refine ⟨(I8.sy (pins':=[]) fun _ z=>nomatch z).slots0 (fun k v e=>?_) lenI,T.keep _ _ _ st5 fun b hb o e=>(I8.pin (b,o) (List.mem_append_right _ (List.mem_append_right _ (lT hb e)))).1,fun b hb=>?_,a2,a1⟩
    ·refine k6 k v e ?_
     unfold inS at e
     rw [List.getElem?_map] at e
     cases e2:ix[k]? with
     |none=>rw [e2] at e;cases e
     |some o=>
      cases o with
      |none=>rw [e2] at e;cases e
      |some j=>exact ⟨j,rfl⟩
    ·obtain ⟨o,e,d⟩:=T.obj _ _ st5 b hb
     exact (I8.pin (b,o) (List.mem_append_right _ (List.mem_append_right _ (lT hb e)))).2.1
   cases b with
   |false=>
    rw [if_neg Bool.false_ne_true] at q7 ⊢
    obtain ⟨m',hm,w7⟩:=hNN _ _ q7
    obtain ⟨b1,b2,b3,b4,b5⟩:=back I7
    exact ⟨m',hm,i+1,ys,its,H7,b1,b2,b3,b4,⟨nD,b5⟩,vs3,w7⟩
   |true=>
    rw [if_pos rfl] at q7 ⊢
    have h7:=heY _ s7 σ6 H7 _ I7 q7
    rw [eY1,eY2,eY5,eY7,eY6] at h7
    rw [eY6]
    refine wpAny_mono h7 (fun uu s8 ⟨y,H8,I8,r8,q8⟩=>?_) fun _ _ z=>z
    obtain ⟨m',hm,w8⟩:=hNN _ _ q8
    obtain ⟨b1,b2,b3,b4,b5⟩:=back I8
    have ez:its.size<=sizeLine:=by
     have h1:=vs3.length
     have h2:its.toList.length=its.size:=by simp
     omega
    refine wpAny_list_append_plain (hsz:=ez) ⟨nD,b5⟩ fun h9 pl9 sb9=>?_
    obtain ⟨d0,d1,d2,d3,d4,d5⟩:=Dok [] H8 b4 (fun _ z=>nomatch z)
    refine ⟨m',hm,i+1,ys++[y],its.push uu,H8,b1.turned (t':=s8.toks) (fun b o hb e=>(sb9.2 b hb).trans e) d0 d1 d3 d4 d5,T.keep _ _ _ b2 fun b hb o e=>(sb9.2 b ?_).trans e,b3,b4,pl9,?_,w8⟩
    ·exact yD (fpl b hb) (Nat.le_refl _)
    ·rw [Array.toList_push]
     exact vs3.append (.cons r8 .nil)
 rw [eY6] at loop
 exact codeAny_compStart_list loop (T.self X.A 0 _ _ _ (T.keep _ _ _ st fun b _ o e=>kp0 b o e) loop)
end
noncomputable def tComp (wi:TI) (ix:List (Option Nat)) (g:TG) (tt:TT) (te:TE):TE:=fun σ H Q=>wi σ H fun J H1=>qf J ix g tt te σ (fun ys H2=>∀p,H2 p=none->Q (.ref p) (upd H2 p (.lst ys))) H1
noncomputable def rV (ix:List (Option Nat)) (g:TG):Prop:=∀x σ' H' (Q:St->Hp->Prop),g x σ' H' Q->g x σ' H' fun σ2 H2=>Q σ2 H2/\∀(i:Nat) v,σ'[i]? =some (some v)->(∃j,ix[i]? =some (some j))->σ2[i]? =some (some v)
theorem bc {ix:List (Option Nat)} {k:Nat} (h:ix[k]? =some none):rV ix (qK k):=fun x σ' H' Q q=>⟨q,fun i v e ⟨j,hj⟩=>by
 have:k≠i:=by rintro rfl;rw [h] at hj;cases hj
 rw [List.getElem?_set_ne this];exact e⟩
section
variable {X:Cx} {N':List Str} {sc:Scope} {ix:List (Option Nat)} {tg elt iter:Expr} {ifs:List Expr} {pos spos py:Pos} {wi:TI} {g:TG} {tt:TT} {te:TE}
theorem pe_comp (N':List Str) (ix:List (Option Nat)) (hc:X.calm=true) (hi:PI X tg iter wi) (hg:∀L cs s H fp,PG (bB X N' sc L cs s H fp) tg g) (hl:rV ix g)
  (ht:∀L cs s H fp,PTs (bB X N' sc L cs s H fp) ifs tt) (he:∀L cs s H fp,PE (bB X N' sc L cs s H fp) elt te)
  (ok:bN X.N X.env.scope N' sc ix=true:=by rfl) (hk:sc.kind=.function:=by rfl) (hs:∀x,foldedSetIterable iter X.env x=pure x:=by intro _;rfl) :
  PE X (.ListComp elt [⟨tg,iter,ifs,0⟩] sc pos) (tComp wi ix g tt te):=by
 intro pins s σ H Q I h
 rw [eval_ListComp]
 refine wpAny_comprehension_free (use:=none) rfl hs (rL (qe I ok)) hk (bN.loc ok) (thn (hi pins s σ H _ I h) fun v s1 h1=>thn h1 fun itv s2 h2=>?_)
 obtain ⟨it,fp,tn,J,H2,e,I2,T,st2,f2,tr⟩:=h2
 subst e
 refine thn (uW hc I2 T st2 f2 ok hk hg hl ht he tr) fun acc s3 h3=>thn h3 fun cenv s4 h4=>codeAny_mono h4 fun r s5 hr=>?_
 obtain ⟨⟨fl,e1⟩,p,ys,H5,e2,I5,hp,q,⟨m,hn⟩,c0,c1,c2,c3,c4⟩:=hr
 subst e1
 subst e2
 exact ⟨m,hn,fun h' sb=>⟨.ref p,_,I5.turned (t':=s5.toks) (fun b o hb e=>(sb.2 b hb).trans e) c0 c1 (.inr c2) c3 c4,rfl,q p hp⟩⟩
noncomputable def tSetComp (j:Nat) (wi:TI) (ix:List (Option Nat)) (g:TG) (tt:TT) (te:TE):TS:=fun D σ H=>wi σ H fun J H1=>qf J ix g tt te σ (fun ys H2=>∀p,H2 p=none->D.nx (σ.set j (some (.ref p))) (upd H2 p (.lst ys))) H1
theorem yu (N':List Str) (ix:List (Option Nat)) {j:Nat} {y:Str} (hN:X.N.Nodup) (hj:X.N[j]? =some y) (hy:X.env.scope.names.lookup y=some .local) (hc:X.calm=true) (hi:PI X tg iter wi) (hg:∀L cs s H fp,PG (bB X N' sc L cs s H fp) tg g) (hl:rV ix g)
  (ht:∀L cs s H fp,PTs (bB X N' sc L cs s H fp) ifs tt) (he:∀L cs s H fp,PE (bB X N' sc L cs s H fp) elt te)
  (hsw:swapsWith (.ListComp elt [⟨tg,iter,ifs,0⟩] sc pos) (some (.Name y py)) spos.line X.env=pure true:=by rfl)
  (ok:bN X.N X.env.scope N' sc ix=true:=by rfl) (hk:sc.kind=.function:=by rfl) (hs:∀x,foldedSetIterable iter X.env x=pure x:=by intro _;rfl) :
  PS X (.Assign [.Name y py] (.ListComp elt [⟨tg,iter,ifs,0⟩] sc pos) spos) (tSetComp j wi ix g tt te):=by
 intro pins s σ H D I h
 rw [exec_Assign_Name_used _ _ _ _ hsw]
 refine wpAny_bind (wpAny_standAt (wpAny_bind ?_))
 show wpAny _ X.A (do let _ <- comprehension (.ListComp elt [⟨tg,iter,ifs,0⟩] sc pos) sc X.env _ (newList []) false (eval iter X.env) (some (assign (.Name y py) X.env))) _ _ s
 refine wpAny_bind (wpAny_mono (wpAny_comprehension_free (use:=some (assign (.Name y py) X.env)) (Q:=fun _ s'=>SP X pins D .next s') rfl hs (rL (qe I ok)) hk (bN.loc ok) (thn (hi pins s σ H _ I h) fun v s1 h1=>thn h1 fun itv s2 h2=>?_)) (fun _ s' hq=>wpAny_pure (wpAny_pure hq)) fun _ _ z=>z)
 obtain ⟨it,fp,tn,J,H2,e,I2,T,st2,f2,tr⟩:=h2
 subst e
 refine thn (uW hc I2 T st2 f2 ok hk hg hl ht he tr) fun acc s3 h3=>thn h3 fun cenv s4 h4=>codeAny_mono h4 fun r s5 hr=>?_
 obtain ⟨⟨fl,e1⟩,p,ys,H5,e2,I5,hp,q,⟨m,hn⟩,c0,c1,c2,c3,c4⟩:=hr
 subst e1
 subst e2
 show wpAny _ X.A (assign (.Name y py) X.env (.ref p)) _ _ s5
 refine wpAny_assign_Name (u0 (v:=.ref p) I5 hN hj (.inl hy) rfl (fun s6 I6 ⟨a,sb,ha⟩=>?_) (.inr hy))
 have ea:cenv.locals≠a:=by
  rcases ha with z|z
  ·rw [z];exact c1
  ·exact fun e=>c3 y a z e.symm
 refine ⟨m,hn.sameBut sb ea,fun h' sb'=>?_⟩
 exact ⟨_,_,I6.turned (t':=s6.toks) (fun b o hb e=>(sb'.2 b hb).trans e) c0 c1 (.inr c2) c3 c4,q p hp⟩
end
end L2
namespace L2
open PySem PySem.Spec PyProof.Rows
section
variable {X:Cx}
theorem ya:∀{bs:List Bool} {us:List Value},Vals (bs.map V.bl) us->LSm.BoolsAre us bs
 |[],_,.nil=>.nil
 |b::r,_,.cons e t=>by cases e;exact .cons b (ya t)
theorem call_all (hc:X.calm=true):dQ X (.builtin "all") (fun xs H Q=>∃(a:Addr) (bs:List Bool),xs=[.ref a]/\SqL X.K H a (bs.map V.bl)/\Q (.bl (bs.all id)) H):=by
 intro pins s σ H xs us Q I r h
 obtain ⟨a,bs,rfl,hq,q⟩:=h
 obtain ⟨u,rfl,ru⟩:=r.one
 cases ru
 obtain ⟨its,rv,p,hz⟩:=I.list hq
 have hb:=ya rv
 have hl:=p.isList
 have hlt:a<s.heap.objs.size:=by obtain ⟨_,e,_⟩:=hl;exact Heap.lt_size e
 refine call_all_walk (wpAny_pyIter_list hl ?_)
 refine ⟨s.heap.objs.size,[s.heap.objs.size,a],[s.heap.objs.size],its.toArray.size,_,_,fun i=>(bs[i]?).getD true,rfl,Walks.list (A:=X.A.in1) (I.ok.hd hc) _ a (Nat.ne_of_lt hlt) its.toArray,
  ⟨⟨_,Heap.get?_push_size _ rfl,rfl,rfl⟩,hl.push _⟩,fun i v s' Q' E' hP hQ=>?_,fun h' tk hk=>?_⟩
 ·obtain ⟨b,e,rfl⟩:=hb.get i v (by simpa using hP)
  simp only [e,Option.getD_some] at hQ
  exact wpAny_truthy_bool hQ
 ·have e:((List.range its.toArray.size).all fun i=>(bs[i]?).getD true)=bs.all id:=by
   rw [List.size_toArray,hb.length];exact LSm.range_all bs
  rw [e]
  exact ⟨.bl (bs.all id),H,I.kept (LSm.kept_iter hk),rfl,q⟩
noncomputable def clsV:V->Option Value
 |.ty n=>some (.type n)
 |.ref a=>some (.ref a)
 |_=>none
theorem clsV_is {y:V} {c u:Value} (h:clsV y=some c) (r:RelV y u):u=c:=by
 cases y with
 |ty n=>cases r;exact Option.some.inj h
 |ref a=>cases r;exact Option.some.inj h
 |_=>cases h
theorem call_isi:dQ X (.builtin "isinstance") (fun xs H Q=>∃x y c t b,xs=[x,y]/\clsV y=some c/\yc X.K H x t/\kitOne X.K t c=some b/\Q (.bl b) H):=by
 intro pins s σ H xs us Q I r h
 obtain ⟨x,y,c,t,b,rfl,hc,ty,e,q⟩:=h
 obtain ⟨u,v,rfl,ru,rv⟩:=r.two
 have ev:=clsV_is hc rv
 subst ev
 exact Au I ru ty e fun tk=>⟨.bl b,H,I.tok tk,rfl,q⟩
inductive EqV (K:PySem.W.Frag) (H:Hp):Nat->V->V->Bool->Prop where
 |flat {n:Nat} {x y:V} (hx:flatV x=true) (hy:flatV y=true):EqV K H n x y (eqV x y)
 |same {n:Nat} {a:Addr}:EqV K H n (.ref a) (.ref a) true
 |lists {n:Nat} {a b:Addr} {xs ys:List V} {e:Nat->Bool} (ha:SqL K H a xs) (hb:SqL K H b ys) (hl:xs.length=ys.length) (ne:a≠b)
   (he:∀j x y,xs[j]? =some x->ys[j]? =some y->EqV K H n x y (e j)):EqV K H (n+1) (.ref a) (.ref b) ((List.range xs.length).all e)
 |listsL {n:Nat} {a b:Addr} {xs ys:List V} (ha:SqL K H a xs) (hb:SqL K H b ys) (hl:xs.length≠ys.length) (ne:a≠b):EqV K H (n+1) (.ref a) (.ref b) false
 |tups {n:Nat} {a b:Addr} {xs ys:List V} {e:Nat->Bool} (ha:SqT K H a xs) (hb:SqT K H b ys) (ne:a≠b)
   (he:∀j x y,xs[j]? =some x->ys[j]? =some y->EqV K H n x y (e j)):EqV K H (n+1) (.ref a) (.ref b) ((List.range (min xs.length ys.length)).all e&&xs.length==ys.length)
theorem Vals.atA {xs:List V} {us:List Value} (r:Vals xs us) {j:Nat} (h:j<us.toArray.size):∃x,xs[j]? =some x/\RelV x us.toArray[j]:=by
 have hl:=r.length
 have hj:j<xs.length:=by rw [hl];simpa using h
 obtain ⟨u,e1,e2⟩:=r.get (i:=j) (x:=xs[j]) (by simp [hj])
 refine ⟨xs[j],by simp [hj],?_⟩
 have:us.toArray[j]=u:=by
  have h':j<us.length:=by simpa using h
  rw [List.getElem?_eq_getElem h'] at e1
  simpa using Option.some.inj e1
 rw [this];exact e2
end
end L2
namespace L2
open PySem PySem.Spec PyProof.Rows
section
variable {X:Cx} {x:Str} {pos:Pos}
theorem A0 {T:String} (hg:Gl X x) (hm:X.mg x=none) (hv:bootBuiltins x=some (.type T)) (hn:x≠"__name__":=by decide) (hd:(x==("__debug__":Str))=false:=by decide):PE X (.Name x pos) (tC (.ty T)):=pe_bltn (v:=.ty T) hg hm hv rfl hn hd
theorem pe_gint {n:Int} (hg:Gl X x) (hm:∃t,X.mg x=some (.int n t)) (hd:(x==("__debug__":Str))=false:=by decide):PE X (.Name x pos) (tC (.int n)):=by
 obtain ⟨t,e⟩:=hm
 exact pe_glob (v:=.int n) hg e ⟨t,rfl⟩ hd
end
section
variable {P:Program} {w:World} {K:PySem.W.Frag} {mg:Str->Option Value} {base:Heap} {CX:CXT}
theorem Fun.okX {x qual:Str} {st:Stmt} {f:Addr} {fd:FuncData} {N ps:List Str} {k:Nat} {sp:Sp} (F:Fun K x qual st f fd) (S:aK N ps (ao st)) (len:∀vs H Q E,sp vs H Q E->vs.length=ps.length)
  (hbody:∀(cdv:Value) (A:Around) (outer:List Env) (s:Shared) (H:Hp) (vs:List V) (Q:VK) (E:XK),jk k (A.deeper (envOfC qual (ao st) s.heap.objs.size f cdv))->sp vs H Q E ->
   ∃t,PSs (AU CX P w K mg base N qual (ao st) f cdv A outer s H E).nox (bX st) t/\t {nx:=fun _ H'=>Q .non H',rt:=Q} (start N vs) H):cu P w K mg base CX (k+1) f fd ps sp:=by
 obtain ⟨oc,od,kV,doc,pm,an,cdv,ct,osl,rfl,lk,hcd⟩:=F.ex
 refine fn_of lk hcd S len fun A outer s H vs Q E hr hsp=>?_
 obtain ⟨t,h,q⟩:=hbody cdv A outer s H vs Q E hr hsp
 exact ⟨t,h.nox,q⟩
structure Def (K:PySem.W.Frag) (mg:Str->Option Value) (x:Str) (st:Stmt) (ps:List Str) (f:Addr) (fd:FuncData):Prop where
 fn:Fun K x x st f fd
 mg:mg x=some (.ref f)
 bd:Binds K fd ps []
theorem cP {h:Heap} (KX:K.In h) (G:h.Ns mainGlobals mg) {x:Str} {st:Stmt} {ps:List Str} {f:Addr} {oc:Value} {od an:Option Addr} {osl:Array (Option Value)} {kV doc pm cdv ct:Value}
  (a:nsIn K mainGlobals x=some (some (.ref f))) (l:K.lookup f=some ⟨oc,od,.func (fnOf x x (cN st) (bX st) (ao st) .none kV doc pm an cdv ct),osl⟩) (c:codeIn K cdv x=true) (k:keepIn K (.ref f)=true)
  (hb:∀(kV doc pm:Value) (an:Option Addr) (cdv ct:Value) (us:List Value),us.length=ps.length->bindArgs (fnOf x x (cN st) (bX st) (ao st) .none kV doc pm an cdv ct) ⟨us,[]⟩=pure (ps.zip us)) :
  Def K mg x st ps f (fnOf x x (cN st) (bX st) (ao st) .none kV doc pm an cdv ct):=
 ⟨xF l c k,mg_of KX G a,(xF l c k).binds hb⟩
structure Mth (K:PySem.W.Frag) (C:Addr) (x qual:Str) (st:Stmt) (ps:List Str) (f:Addr) (fd:FuncData):Prop where
 fn:Fun K x qual st f fd
 mt:Meth K C x f
 bd:Binds K fd ps []
theorem pN {C:Addr} {x qual:Str} {st:Stmt} {ps:List Str} {f:Addr} {oc:Value} {od an:Option Addr} {osl:Array (Option Value)} {kV doc pm cdv ct:Value}
  (a:PySem.W.findIn K (.ref C) x=some (some (.ref f))) (i:PySem.W.isFn K (.ref f)=true) (l:K.lookup f=some ⟨oc,od,.func (fnOf x qual (cN st) (bX st) (ao st) .none kV doc pm an cdv ct),osl⟩) (c:codeIn K cdv qual=true) (k:keepIn K (.ref f)=true)
  (hb:∀(kV doc pm:Value) (an:Option Addr) (cdv ct:Value) (us:List Value),us.length=ps.length->bindArgs (fnOf x qual (cN st) (bX st) (ao st) .none kV doc pm an cdv ct) ⟨us,[]⟩=pure (ps.zip us)) :
  Mth K C x qual st ps f (fnOf x qual (cN st) (bX st) (ao st) .none kV doc pm an cdv ct):=
 ⟨xF l c k,⟨a,i,k⟩,(xF l c k).binds hb⟩
structure Kls (K:PySem.W.Frag) (mg:Str->Option Value) (x:Str) (C:Addr):Prop where
 cl:Cls K C
 mg:mg x=some (.ref C)
 mks:PySem.W.makesIn K C=true
 kp:keepIn K (.ref C)=true
 c1:PySem.W.findIn K (.ref C) "__class__"=some (some (.builtin "object.__class__"))
 c2:specialIn K (.builtin "object.__class__") "__get__"=some (some (.builtin "getset_descriptor.__get__"))
 c3:takesIn K (.builtin "object.__class__")=some true
 c4:PySem.W.mroIn K C (.type "object")=some true
theorem kls_of {h:Heap} (KX:K.In h) (G:h.Ns mainGlobals mg) {x:Str} {C:Addr} (a:nsIn K mainGlobals x=some (some (.ref C)))
  (pg:PySem.W.plainGet K C Str.empty=true) (hd:PySem.W.hasDictIn K C=true) (po:plainOver K C=true) (sa:PySem.W.findIn K (.ref C) "__setattr__"=some (some (.builtin "object.__setattr__"))) (mk:PySem.W.makesIn K C=true) (kp:keepIn K (.ref C)=true)
  (c1:PySem.W.findIn K (.ref C) "__class__"=some (some (.builtin "object.__class__"))) (c2:specialIn K (.builtin "object.__class__") "__get__"=some (some (.builtin "getset_descriptor.__get__")))
  (c3:takesIn K (.builtin "object.__class__")=some true) (c4:PySem.W.mroIn K C (.type "object")=some true):Kls K mg x C:=
 ⟨⟨pg,hd,po,sa⟩,mg_of KX G a,mk,kp,c1,c2,c3,c4⟩
end
section
variable {X:Cx} {K:PySem.W.Frag}
theorem call_isiK (hK:X.K=K:=by rfl):dQ X (.builtin "isinstance") (fun xs H Q=>∃x y c t b,xs=[x,y]/\clsV y=some c/\yc K H x t/\kitOne K t c=some b/\Q (.bl b) H):=by subst hK;exact call_isi
theorem pg_c {N':List Str} {sc:Scope} {L:Addr} {cs:List (Str×Addr)} {s:Shared} {H:Hp} {fp:List Addr} {pos:Pos} {i:Nat} {x:Str} (hN:N'.Nodup) (hi:N'[i]? =some x) (hx:Loc (bB X N' sc L cs s H fp).env.scope x)
  (hf:(bB X N' sc L cs s H fp).fn x=true\/(bB X N' sc L cs s H fp).env.scope.names.lookup x=some .local:=by first|exact .inl rfl|exact .inr rfl|assumption):PG (bB X N' sc L cs s H fp) (.Name x pos) (qK i):=vQ hN hi hx hf
end
structure Grid (H:Hp) (a:Addr) (as:List Addr) (rows:List (List Int)):Prop where
 top:H a=some (.lst (as.map V.ref))
 len:as.length=rows.length
 row:∀(i:Nat) (b:Addr) (r:List Int),as[i]? =some b->rows[i]? =some r->H b=some (.lst (r.map V.int))
theorem Grid.same {H H':Hp} {a:Addr} {as:List Addr} {rows:List (List Int)} (g:Grid H a as rows) (h:b0 H H'):Grid H' a as rows:=
 ⟨h _ _ g.top,g.len,fun i b r e1 e2=>h _ _ (g.row i b r e1 e2)⟩
theorem b0.upd {H:Hp} {a:Addr} {o:HO} (h:H a=none):b0 H (upd H a o):=fun b u e=>by rw [ar (aL e h)];exact e
end L2
namespace L2
open PySem PySem.Spec PyProof.Rows
section
variable {X:Cx} {CX:CXT} {k:Nat} {f C:Addr} {fd:FuncData} {ps:List Str} {sp:Sp} {dvs:List V} {ds:List Value} {E:XK} {x m:Str} {p pos apos:Pos} {e:Expr} {es:List Expr} {t:TA} {mc:Value}
structure Stat (K:PySem.W.Frag) (C:Addr) (mc:Value) (m:Str) (f:Addr):Prop where
 s1:specialIn K (.ref C) "__getattribute__"=some (some (.builtin "type.__getattribute__"))
 s2:PySem.W.readsIn K C mc=true
 s3:PySem.W.findCls K (.ref C) mc m=some (.val (.ref f))
 s4:keepIn K (.ref f)=true
theorem pe_cmeth {pl:Sem Bool} (S:Stat X.K C mc m f) (hg:Gl X x) (hm:X.mg x=some (.ref C)) (F:cu X.prog X.w X.K X.mg X.base CX k f fd ps sp) (hr:jk k X.A) (hb:Binds X.K fd ps ds) (hd:Vals dvs ds) (hx:Passes CX X E) (ha:PA X (e::es) t)
  (hdb:(x==("__debug__":Str))=false:=by decide)
  (hst:starEach (e::es) X.env=(false,eval e X.env)::starEach es X.env:=by rfl) (hpl:(backTo pos (starEach es X.env)).any (·.1)=false:=by rfl)
  (ht:eval (.Call (.Attribute (.Name x p) m apos) (e::es) [] pos) X.env=(do
   let ov <- eval (.Name x p) X.env
   standAt apos.atName
   let (f,first) <- holding [ov] (getMethod ov m pl)
   callWith pos f first (backTo pos (starEach (e::es) X.env)) (backToKw pos (keywordEach [] X.env))):=by rfl) :
  PE X (.Call (.Attribute (.Name x p) m apos) (e::es) [] pos) (tCall sp dvs E t):=by
 intro pins s σ H Q I h
 refine PySem.W.methodCall_KW (pl:=pl) (ka I hg hm ?_ hdb) ht
 refine PySem.W.method_cls I.kIn S.s1 (PySem.W.cls_value I.kIn S.s2 S.s3 rfl ?_)
 refine callWith_K (first:=[]) (h₀:=X.base) I.ok.mod.kin S.s4 (thn (ha pos pins _ σ H _ (I.tok (s.toks+1)) h) fun us s2 ⟨vs,H2,I2,r,q2⟩=>⟨I2.kIn,?_⟩) hst hpl
 exact xo (us:=us) (vs:=vs) F hr hb hd hx I2 r q2
end
noncomputable def Keeps (S:Addr->Prop) (H H':Hp):Prop:=∀b o,H b=some o->¬S b->H' b=some o
theorem Keeps.refl (S:Addr->Prop) (H:Hp):Keeps S H H:=fun _ _ e _=>e
theorem Keeps.same {S:Addr->Prop} {H H1 H2:Hp} (k:Keeps S H H1) (s:b0 H1 H2):Keeps S H H2:=fun b o e n=>s b o (k b o e n)
theorem Grid.keeps {S:Addr->Prop} {H H':Hp} {a:Addr} {as:List Addr} {rows:List (List Int)} (g:Grid H a as rows) (k:Keeps S H H') (h1:¬S a) (h2:∀x∈as,¬S x):Grid H' a as rows:=
 ⟨k _ _ g.top h1,g.len,fun i b r e1 e2=>k _ _ (g.row i b r e1 e2) (h2 b (List.mem_of_getElem? e1))⟩
end L2
namespace L2
open PySem PySem.Spec PyProof.Rows
section
variable {X:Cx} {a b c d:Expr} {ta tb tc td:TE} {pos:Pos}
theorem b0.tup {K:PySem.W.Frag} {H H':Hp} {a:Addr} {xs:List V} (e:b0 H H') (h:SqT K H a xs):SqT K H' a xs:=by
 rcases h with (h|⟨o,h⟩)|h
 ·exact .inl (.inl (e _ _ h))
 ·exact .inl (.inr ⟨o,e _ _ h⟩)
 ·exact .inr h
end
end L2
namespace L2
open PySem PySem.Spec PyProof.Rows
theorem sg {K:PySem.W.Frag} {a:Addr} {H:Hp} {xs:List V} (h:H a=some (.lst xs)):tyV K "list" (.ref a) H:=.inl ⟨rfl,_,SqL.of h⟩
inductive Dat where
 |non|bl (b:Bool)|int (i:Int)|str (x:Str)|tup (ds:List Dat)|lst (ds:List Dat)|ins (C:Addr) (fs:List (Str×Dat))
mutual
noncomputable def cf (K:PySem.W.Frag) (F:Hp):Dat->V->Prop
 |.non,v=>v=.non
 |.bl b,v=>v=.bl b
 |.int i,v=>v=.int i
 |.str x,v=>v=.str x
 |.tup ds,v=>∃a xs,v=.ref a/\SqT K F a xs/\aB K F ds xs
 |.lst ds,v=>∃a xs,v=.ref a/\SqL K F a xs/\aB K F ds xs
 |.ins C gs,v=>∃a dx fs,v=.ref a/\F a=some (.ins C dx fs)/\nR K F gs fs
noncomputable def aB (K:PySem.W.Frag) (F:Hp):List Dat->List V->Prop
 |[],xs=>xs=[]
 |d::ds,xs=>∃v vs,xs=v::vs/\cf K F d v/\aB K F ds vs
noncomputable def nR (K:PySem.W.Frag) (F:Hp):List (Str×Dat)->List (Str×V)->Prop
 |[],fs=>fs=[]
 |(f,d)::gs,fs=>∃v r,fs=(f,v)::r/\cf K F d v/\nR K F gs r
end
mutual
noncomputable def mv:Dat->Bool
 |.tup ds=>rB ds
 |.lst _=>false
 |.ins _ _=>false
 |_=>true
noncomputable def rB:List Dat->Bool
 |[]=>true
 |d::ds=>mv d&&rB ds
end
theorem b0.lst {K:PySem.W.Frag} {H H':Hp} {a:Addr} {xs:List V} (e:b0 H H') (h:SqL K H a xs):SqL K H' a xs:=by
 rcases h with (h|⟨o,h⟩)|h
 ·exact .inl (.inl (e _ _ h))
 ·exact .inl (.inr ⟨o,e _ _ h⟩)
 ·exact .inr h
mutual
theorem cf.mono {K:PySem.W.Frag} {F F':Hp} (s:b0 F F'):∀{d:Dat} {v:V},cf K F d v->cf K F' d v
 |.non,_,h=>h
 |.bl _,_,h=>h
 |.int _,_,h=>h
 |.str _,_,h=>h
 |.tup _,_,⟨a,xs,e,q,r⟩=>⟨a,xs,e,s.tup q,aB.mono s r⟩
 |.lst _,_,⟨a,xs,e,q,r⟩=>⟨a,xs,e,s.lst q,aB.mono s r⟩
 |.ins _ _,_,⟨a,dx,fs,e,q,r⟩=>⟨a,dx,fs,e,s _ _ q,nR.mono s r⟩
theorem aB.mono {K:PySem.W.Frag} {F F':Hp} (s:b0 F F'):∀{ds:List Dat} {xs:List V},aB K F ds xs->aB K F' ds xs
 |[],_,h=>h
 |_::_,_,⟨v,vs,e,q,r⟩=>⟨v,vs,e,cf.mono s q,aB.mono s r⟩
theorem nR.mono {K:PySem.W.Frag} {F F':Hp} (s:b0 F F'):∀{gs:List (Str×Dat)} {fs:List (Str×V)},nR K F gs fs->nR K F' gs fs
 |[],_,h=>h
 |(_,_)::_,_,⟨v,r,e,q,t⟩=>⟨v,r,e,cf.mono s q,nR.mono s t⟩
end
mutual
theorem cf.flat {K:PySem.W.Frag} {F F':Hp} (s:∀a xs,SqT K F a xs->SqT K F' a xs):∀{d:Dat} {v:V},mv d=true->cf K F d v->cf K F' d v
 |.non,_,_,h=>h
 |.bl _,_,_,h=>h
 |.int _,_,_,h=>h
 |.str _,_,_,h=>h
 |.tup ds,_,f,⟨a,xs,e,q,r⟩=>⟨a,xs,e,s _ _ q,aB.flat s (by simpa [mv] using f) r⟩
 |.lst _,_,f,_=>by simp [mv] at f
 |.ins _ _,_,f,_=>by simp [mv] at f
theorem aB.flat {K:PySem.W.Frag} {F F':Hp} (s:∀a xs,SqT K F a xs->SqT K F' a xs):∀{ds:List Dat} {xs:List V},rB ds=true->aB K F ds xs->aB K F' ds xs
 |[],_,_,h=>h
 |d::ds,_,f,⟨v,vs,e,q,r⟩=>by
  simp only [rB,Bool.and_eq_true] at f
  exact ⟨v,vs,e,cf.flat s f.1 q,aB.flat s f.2 r⟩
end
theorem aB.length {K:PySem.W.Frag} {F:Hp}:∀{ds:List Dat} {xs:List V},aB K F ds xs->xs.length=ds.length
 |[],_,h=>by rw [show _=[] from h];rfl
 |_::_,_,⟨_,_,e,_,r⟩=>by rw [e,List.length_cons,List.length_cons,aB.length r]
theorem aB.get {K:PySem.W.Frag} {F:Hp}:∀{ds:List Dat} {xs:List V} {i:Nat} {d:Dat},aB K F ds xs->ds[i]? =some d->∃v,xs[i]? =some v/\cf K F d v
 |[],_,_,_,_,e=>by simp at e
 |_::_,_,0,_,⟨v,vs,e,q,_⟩,h=>by
  simp only [List.getElem?_cons_zero,Option.some.injEq] at h
  subst h e
  exact ⟨v,rfl,q⟩
 |_::_,_,i+1,_,⟨v,vs,e,_,r⟩,h=>by
  subst e
  simp only [List.getElem?_cons_succ] at h ⊢
  exact aB.get r h
theorem aB.at {K:PySem.W.Frag} {F:Hp} {ds:List Dat} {xs:List V} {i:Nat} {v:V} (r:aB K F ds xs) (h:xs[i]? =some v):∃d,ds[i]? =some d/\cf K F d v:=by
 have hi:i<ds.length:=by rw [<- r.length];exact (List.getElem?_eq_some_iff.mp h).1
 obtain ⟨w,e,q⟩:=r.get (i:=i) (d:=ds[i]) (by simp [hi])
 rw [h] at e
 have e':=Option.some.inj e
 subst e'
 exact ⟨ds[i],by simp [hi],q⟩
theorem aB.cons {K:PySem.W.Frag} {F:Hp} {d:Dat} {v:V} {ds:List Dat} {xs:List V} (q:cf K F d v) (r:aB K F ds xs):aB K F (d::ds) (v::xs):=⟨v,xs,rfl,q,r⟩
theorem aB.append {K:PySem.W.Frag} {F:Hp}:∀{ds es:List Dat} {xs ys:List V},aB K F ds xs->aB K F es ys->aB K F (ds++es) (xs++ys)
 |[],_,_,_,h,r=>by rw [show _=[] from h];exact r
 |_::_,_,_,_,⟨v,vs,e,q,t⟩,r=>by subst e;exact ⟨v,_,rfl,q,aB.append t r⟩
theorem aB.take {K:PySem.W.Frag} {F:Hp}:∀{ds:List Dat} {xs:List V} (n:Nat),aB K F ds xs->aB K F (ds.take n) (xs.take n)
 |_,_,0,_=>rfl
 |[],_,_+1,h=>by rw [show _=[] from h];rfl
 |_::_,_,n+1,⟨v,vs,e,q,r⟩=>by subst e;exact ⟨v,_,rfl,q,aB.take n r⟩
theorem aB.drop {K:PySem.W.Frag} {F:Hp}:∀{ds:List Dat} {xs:List V} (n:Nat),aB K F ds xs->aB K F (ds.drop n) (xs.drop n)
 |_,_,0,h=>h
 |[],_,_+1,h=>by rw [show _=[] from h];rfl
 |_::_,_,n+1,⟨v,vs,e,q,r⟩=>by subst e;exact aB.drop n r
theorem aB.set {K:PySem.W.Frag} {F:Hp} {d:Dat} {v:V} (q:cf K F d v):∀{ds:List Dat} {xs:List V} (n:Nat),aB K F ds xs->aB K F (ds.set n d) (xs.set n v)
 |[],_,_,h=>by rw [show _=[] from h];rfl
 |_::_,_,0,⟨w,vs,e,_,r⟩=>by subst e;exact ⟨v,_,rfl,q,r⟩
 |_::_,_,n+1,⟨w,vs,e,p,r⟩=>by subst e;exact ⟨w,_,rfl,p,aB.set q n r⟩
theorem aB.eraseIdx {K:PySem.W.Frag} {F:Hp}:∀{ds:List Dat} {xs:List V} (n:Nat),aB K F ds xs->aB K F (ds.eraseIdx n) (xs.eraseIdx n)
 |[],_,_,h=>by rw [show _=[] from h];rfl
 |_::_,_,0,⟨w,vs,e,_,r⟩=>by subst e;exact r
 |_::_,_,n+1,⟨w,vs,e,p,r⟩=>by subst e;exact ⟨w,_,rfl,p,aB.eraseIdx n r⟩
theorem aB.of_get {K:PySem.W.Frag} {F:Hp}:∀{ds:List Dat} {xs:List V},xs.length=ds.length->(∀(i:Nat) d v,ds[i]? =some d->xs[i]? =some v->cf K F d v)->aB K F ds xs
 |[],[],_,_=>rfl
 |[],_::_,h,_=>by simp at h
 |_::_,[],h,_=>by simp at h
 |d::ds,v::vs,h,q=>⟨v,vs,rfl,q 0 d v rfl rfl,aB.of_get (by simpa using h) fun i e w h1 h2=>q (i+1) e w (by simpa using h1) (by simpa using h2)⟩
structure Step (F H F' H':Hp):Prop where
 ff:b0 F F'
 hh:b0 H H'
 fh:b0 F' H'
 nw:∀b o,F' b=some o->F b=some o\/H b=none
theorem Step.refl {F H:Hp} (s:b0 F H):Step F H F H:=⟨b0.refl _,b0.refl _,s,fun _ _ h=>.inl h⟩
theorem Step.trans {F H F1 H1 F2 H2:Hp} (a:Step F H F1 H1) (b:Step F1 H1 F2 H2):Step F H F2 H2:=
 ⟨a.ff.trans b.ff,a.hh.trans b.hh,b.fh,fun x o h=>(b.nw x o h).elim (fun z=>a.nw x o z) fun z=>.inr (a.hh.free z)⟩
theorem Step.lay {F H:Hp} {p:Addr} {o:HO} (s:b0 F H) (hp:H p=none):Step F H (upd F p o) (upd H p o):=
 ⟨b0.upd (s.free hp),b0.upd hp,fun b u h=>by
  by_cases e:b=p
  ·subst e;rw [aq] at h ⊢;exact h
  ·rw [ar e] at h ⊢;exact s b u h,fun b u h=>by
  by_cases e:b=p
  ·subst e;exact .inr hp
  ·rw [ar e] at h;exact .inl h⟩
theorem Step.grow {F H:Hp} {p:Addr} {o:HO} (s:b0 F H) (hp:H p=none):Step F H F (upd H p o):=
 ⟨b0.refl _,b0.upd hp,s.trans (b0.upd hp),fun _ _ h=>.inl h⟩
theorem Step.same {F H H':Hp} (s:b0 F H) (h:b0 H H'):Step F H F H':=⟨b0.refl _,h,s.trans h,fun _ _ z=>.inl z⟩
noncomputable def Bk (K:PySem.W.Frag) (F H0 H:Hp):Dat->V->Prop
 |.lst ds,v=>∃a xs,v=.ref a/\H a=some (.lst xs)/\F a=none/\H0 a=none/\aB K F ds xs
 |d,v=>cf K F d v
noncomputable def Val (K:PySem.W.Frag) (own:Bool) (F H0 H:Hp) (d:Dat) (v:V):Prop:=if own=true then Bk K F H0 H d v else cf K F d v
theorem Bk.back {K:PySem.W.Frag} {F H0 H1 H:Hp} {d:Dat} {v:V} (s:b0 H0 H1) (h:Bk K F H1 H d v):Bk K F H0 H d v:=by
 cases d with
 |lst ds=>obtain ⟨a,xs,e,p,q,z,r⟩:=h;exact ⟨a,xs,e,p,q,s.free z,r⟩
 |_=>exact h
theorem Val.back {K:PySem.W.Frag} {own:Bool} {F H0 H1 H:Hp} {d:Dat} {v:V} (s:b0 H0 H1) (h:Val K own F H1 H d v):Val K own F H0 H d v:=by
 cases own with
 |true=>exact Bk.back s h
 |false=>exact h
theorem Bk.freeze {K:PySem.W.Frag} {F H0 H:Hp} {d:Dat} {v:V} (s:b0 F H) (h:Bk K F H0 H d v):∃F',b0 F F'/\b0 F' H/\(∀b o,F' b=some o->F b=some o\/H0 b=none)/\cf K F' d v:=by
 cases d with
 |lst ds=>
  obtain ⟨a,xs,e,p,q,z,r⟩:=h
  refine ⟨upd F a (.lst xs),b0.upd q,fun b o h=>?_,fun b o h=>?_,a,xs,e,SqL.of aq,r.mono (b0.upd q)⟩
  ·by_cases e:b=a
   ·subst e;rw [aq] at h;rw [p,<- h]
   ·rw [ar e] at h;exact s b o h
  ·by_cases e:b=a
   ·subst e;exact .inr z
   ·rw [ar e] at h;exact .inl h
 |_=>exact ⟨F,b0.refl _,s,fun _ _ z=>.inl z,h⟩
inductive Err where
 |stuck|exc (C:Addr) (fs:List (Str×Dat))
noncomputable abbrev M:=Except Err
noncomputable abbrev af:=List (Option Dat)
structure gC where
 p:Err->Hp->Hp->Prop
 mono:∀{e:Err} {F H F' H':Hp},p e F H->Step F H F' H'->p e F' H'
 ns:∀{F H:Hp},p .stuck F H->False
noncomputable def Wno:gC:=⟨fun _ _ _=>False,fun h _=>h,fun h=>h⟩
noncomputable def aH (K:PySem.W.Frag) (W:gC) (own:Bool) (F H:Hp) (r:M Dat) (Q:VK):Prop:=match r with
 |.ok d=>∀v F' H',Step F H F' H'->Val K own F' H H' d v->Q v H'
 |.error e=>W.p e F H
theorem aH.step {K:PySem.W.Frag} {W:gC} {own:Bool} {F H F1 H1:Hp} {r:M Dat} {Q:VK} (p:aH K W own F H r Q) (s:Step F H F1 H1):aH K W own F1 H1 r Q:=by
 cases r with
 |ok d=>exact fun v F' H' t q=>p v F' H' (s.trans t) (q.back s.hh)
 |error e=>exact W.mono p s
theorem aH.frz {K:PySem.W.Frag} {W:gC} {F H:Hp} {r:M Dat} {Q:VK} (p:aH K W false F H r Q):aH K W true F H r Q:=by
 cases r with
 |ok d=>
  intro v F' H' t q
  obtain ⟨F2,s1,s2,n,z⟩:=Bk.freeze t.fh q
  exact p v F2 H' ⟨t.ff.trans s1,t.hh,s2,fun b o h=>(n b o h).elim (fun z=>t.nw b o z) .inr⟩ z
 |error e=>exact p
structure oJ (K:PySem.W.Frag) (F:Hp) (σ:St) (ρ:af):Prop where
 len:ρ.length=σ.length
 sl:∀(i:Nat) (d:Dat),ρ[i]? =some (some d)->∃v,σ[i]? =some (some v)/\cf K F d v
theorem oJ.mono {K:PySem.W.Frag} {F F':Hp} {σ:St} {ρ:af} (r:oJ K F σ ρ) (s:b0 F F'):oJ K F' σ ρ:=
 ⟨r.len,fun i d e=>let ⟨v,h,q⟩:=r.sl i d e;⟨v,h,q.mono s⟩⟩
theorem oJ.set {K:PySem.W.Frag} {F:Hp} {σ:St} {ρ:af} {d:Dat} {v:V} (r:oJ K F σ ρ) (q:cf K F d v) (i:Nat):oJ K F (σ.set i (some v)) (ρ.set i (some d)):=
 ⟨by rw [List.length_set,List.length_set,r.len],fun j e h=>by
  by_cases hij:i=j
  ·subst hij
   have hi:i<ρ.length:=by
    have:=(List.getElem?_eq_some_iff.mp h).1
    simpa using this
   rw [List.getElem?_set_self hi] at h
   cases h
   exact ⟨v,by rw [List.getElem?_set_self (by rw [<- r.len];exact hi)],q⟩
  ·rw [List.getElem?_set_ne hij] at h
   obtain ⟨w,h1,h2⟩:=r.sl j e h
   exact ⟨w,by rw [List.getElem?_set_ne hij];exact h1,h2⟩⟩
noncomputable def tD (K:PySem.W.Frag) (W:gC) (own:Bool) (f:af->M Dat):TE:=fun σ H Q=>∃F ρ,oJ K F σ ρ/\b0 F H/\aH K W own F H (f ρ) Q
theorem bZ {K:PySem.W.Frag} {W:gC} {own:Bool} {f:af->M Dat} {σ:St} {ρ:af} {F H:Hp} {R:VK} (r:oJ K F σ ρ) (s:b0 F H) (hE:∀e,f ρ=.error e->W.p e F H)
  (hO:∀d,f ρ=.ok d->∀v F1 H1,Step F H F1 H1->Val K own F1 H H1 d v->R v H1):tD K W own f σ H R:=by
 refine ⟨F,ρ,r,s,?_⟩
 cases e:f ρ with
 |ok d=>exact hO d e
 |error x=>exact hE x e
noncomputable def tDT (K:PySem.W.Frag) (W:gC) (f:af->M Bool):TT:=fun σ H Q=>∃F ρ,oJ K F σ ρ/\b0 F H/\(match f ρ with
 |.ok b=>∀F' H',Step F H F' H'->Q b H'
 |.error e=>W.p e F H)
theorem nW {K:PySem.W.Frag} {W:gC} {f:af->M Bool} {σ:St} {ρ:af} {F H:Hp} {R:Bool->Hp->Prop} (r:oJ K F σ ρ) (s:b0 F H) (hE:∀e,f ρ=.error e->W.p e F H)
  (hO:∀b,f ρ=.ok b->∀F1 H1,Step F H F1 H1->R b H1):tDT K W f σ H R:=by
 refine ⟨F,ρ,r,s,?_⟩
 cases e:f ρ with
 |ok d=>exact hO d e
 |error x=>exact hE x e
noncomputable def tDA (K:PySem.W.Frag) (W:gC) (f:af->M (List Dat)):TA:=fun σ H Q=>∃F ρ,oJ K F σ ρ/\b0 F H/\(match f ρ with
 |.ok ds=>∀vs F' H',Step F H F' H'->aB K F' ds vs->Q vs H'
 |.error e=>W.p e F H)
theorem nX {K:PySem.W.Frag} {W:gC} {f:af->M (List Dat)} {σ:St} {ρ:af} {F H:Hp} {R:List V->Hp->Prop} (r:oJ K F σ ρ) (s:b0 F H) (hE:∀e,f ρ=.error e->W.p e F H)
  (hO:∀ds,f ρ=.ok ds->∀vs F1 H1,Step F H F1 H1->aB K F1 ds vs->R vs H1):tDA K W f σ H R:=by
 refine ⟨F,ρ,r,s,?_⟩
 cases e:f ρ with
 |ok d=>exact hO d e
 |error x=>exact hE x e
noncomputable def ae (i:Nat):af->M Dat:=fun ρ=>match ρ[i]? with
 |some (some d)=>.ok d
 |_=>.error .stuck
noncomputable def fC (d:Dat):af->M Dat:=fun _=>.ok d
noncomputable def f1 (g:Dat->M Dat) (fa:af->M Dat):af->M Dat:=fun ρ=>(fa ρ).bind g
noncomputable def f2 (g:Dat->Dat->M Dat) (fa fb:af->M Dat):af->M Dat:=fun ρ=>(fa ρ).bind fun a=>(fb ρ).bind fun b=>g a b
noncomputable def aZ:af->M (List Dat):=fun _=>.ok []
noncomputable def aa (fa:af->M Dat) (fr:af->M (List Dat)):af->M (List Dat):=fun ρ=>(fa ρ).bind fun a=>(fr ρ).bind fun r=>.ok (a::r)
noncomputable def fL (g:List Dat->M Dat) (fr:af->M (List Dat)):af->M Dat:=fun ρ=>(fr ρ).bind g
noncomputable def k8 (ds:List Dat):M Dat:=if ds.length<=sizeLine then .ok (.tup ds) else .error .stuck
noncomputable def il (ds:List Dat):M Dat:=if ds.length<=sizeLine then .ok (.lst ds) else .error .stuck
noncomputable def fIte (ft:af->M Bool) (fa fb:af->M Dat):af->M Dat:=fun ρ=>(ft ρ).bind fun b=>if b=true then fa ρ else fb ρ
noncomputable def wo (ft fu:af->M Bool):af->M Bool:=fun ρ=>(ft ρ).bind fun b=>if b=true then fu ρ else .ok false
noncomputable def fOr (ft fu:af->M Bool):af->M Bool:=fun ρ=>(ft ρ).bind fun b=>if b=true then .ok true else fu ρ
noncomputable def xJ (ft:af->M Bool):af->M Bool:=fun ρ=>(ft ρ).bind fun b=>.ok (!b)
noncomputable def asB:Dat->M Bool
 |.bl b=>.ok b
 |_=>.error .stuck
noncomputable def fB (fa:af->M Dat):af->M Bool:=fun ρ=>(fa ρ).bind asB
noncomputable def uM (fa fb:af->M Dat):af->M Dat:=fun ρ=>(fa ρ).bind fun a=>(asB a).bind fun b=>if b=true then fb ρ else .ok (.bl false)
noncomputable def truD:Dat->M Bool
 |.non=>.ok false
 |.bl b=>.ok b
 |.int i=>.ok (i != 0)
 |.str x=>if x.length<=sizeLine then .ok ((x.length:Int) != 0) else .error .stuck
 |.tup ds=>.ok (!ds.isEmpty)
 |.lst ds=>.ok (!ds.isEmpty)
 |_=>.error .stuck
noncomputable def uL (fa:af->M Dat):af->M Bool:=fun ρ=>(fa ρ).bind truD
noncomputable def lA (g g':Dat->Dat->M Dat) (fa fb fc:af->M Dat):af->M Dat:=fun ρ=>(fa ρ).bind fun a=>(fb ρ).bind fun b=>(g a b).bind fun x=>(asB x).bind fun k=>if k=true then (fc ρ).bind fun c=>g' b c else .ok (.bl false)
noncomputable def rD2 (K:PySem.W.Frag) (W:gC) (own:Bool) (g:Dat->Dat->M Dat):R2:=fun x y H Q=>∃F a b,b0 F H/\cf K F a x/\cf K F b y/\aH K W own F H (g a b) Q
noncomputable def rD1 (K:PySem.W.Frag) (W:gC) (own:Bool) (g:Dat->M Dat):V->Hp->VK->Prop:=fun x H Q=>∃F a,b0 F H/\cf K F a x/\aH K W own F H (g a) Q
noncomputable def rDL (K:PySem.W.Frag) (W:gC) (own:Bool) (g:List Dat->M Dat):List V->Hp->VK->Prop:=fun xs H Q=>∃F ds,b0 F H/\aB K F ds xs/\aH K W own F H (g ds) Q
section
variable {K:PySem.W.Frag} {W:gC} {own:Bool} {σ:St} {H:Hp} {Q:VK} {fa fb fc:af->M Dat}
theorem rd_var {i:Nat} (h:tD K W false (ae i) σ H Q):tVar i σ H Q:=by
 obtain ⟨F,ρ,r,s,p⟩:=h
 unfold ae at p
 match e:ρ[i]? with
 |some (some d)=>
  rw [e] at p
  obtain ⟨v,e1,q⟩:=r.sl i d e
  exact ⟨v,e1,p v F H (Step.refl s) q⟩
 |some none=>rw [e] at p;exact (W.ns p).elim
 |none=>rw [e] at p;exact (W.ns p).elim
theorem rd_c {d:Dat} {v:V} (hd:∀F,cf K F d v) (h:tD K W false (fC d) σ H Q):tC v σ H Q:=by
 obtain ⟨F,ρ,r,s,p⟩:=h
 exact p v F H (Step.refl s) (hd F)
theorem aH.err {F:Hp} {x:M Dat} {e:Err} (p:aH K W own F H x Q) (h:x=.error e):W.p e F H:=by rw [h] at p;exact p
theorem rd_1 {g:Dat->M Dat} (h:tD K W own (f1 g fa) σ H Q):tUn (rD1 K W own g) (tD K W false fa) σ H Q:=by
 obtain ⟨F,ρ,r,s,p⟩:=h
 refine bZ r s (fun e he=>p.err (by unfold f1;rw [he];rfl)) fun a ha x F1 H1 s1 q1=>?_
 refine ⟨F1,a,s1.fh,q1,?_⟩
 have e:f1 g fa ρ=g a:=by unfold f1;rw [ha];rfl
 rw [e] at p
 exact p.step s1
theorem rd_2 {g:Dat->Dat->M Dat} (h:tD K W own (f2 g fa fb) σ H Q):tOp (rD2 K W own g) (tD K W false fa) (tD K W false fb) σ H Q:=by
 obtain ⟨F,ρ,r,s,p⟩:=h
 refine bZ r s (fun e he=>p.err (by unfold f2;rw [he];rfl)) fun a ha x F1 H1 s1 q1=>?_
 refine bZ (r.mono s1.ff) s1.fh (fun e he=>(p.step s1).err (by unfold f2;rw [ha];show (fb ρ).bind _=_;rw [he];rfl)) fun b hb y F2 H2 s2 q2=>?_
 refine ⟨F2,a,b,s2.fh,cf.mono s2.ff q1,q2,?_⟩
 have e:f2 g fa fb ρ=g a b:=by unfold f2;rw [ha];show (fb ρ).bind _=_;rw [hb];rfl
 rw [e] at p
 exact p.step (s1.trans s2)
theorem rd_nil {R:List V->Hp->Prop} (h:tDA K W aZ σ H R):tNil σ H R:=by
 obtain ⟨F,ρ,r,s,p⟩:=h
 exact p [] F H (Step.refl s) rfl
theorem rd_cons {fr:af->M (List Dat)} {R:List V->Hp->Prop} (h:tDA K W (aa fa fr) σ H R):qr (tD K W false fa) (tDA K W fr) σ H R:=by
 obtain ⟨F,ρ,r,s,p⟩:=h
 refine bZ r s (fun e he=>?_) fun a ha x F1 H1 s1 q1=>nX (r.mono s1.ff) s1.fh (fun e he=>?_) fun ds hd xs F2 H2 s2 q2=>?_
 ·have z:aa fa fr ρ=.error e:=by unfold aa;rw [he];rfl
  rw [z] at p
  exact p
 ·have z:aa fa fr ρ=.error e:=by unfold aa;rw [ha];show (fr ρ).bind _=_;rw [he];rfl
  rw [z] at p
  exact W.mono p s1
 ·have z:aa fa fr ρ=.ok (a::ds):=by unfold aa;rw [ha];show (fr ρ).bind _=_;rw [hd];rfl
  rw [z] at p
  exact p (x::xs) F2 H2 (s1.trans s2) ⟨x,xs,rfl,cf.mono s2.ff q1,q2⟩
theorem rd_L {g:List Dat->M Dat} {fr:af->M (List Dat)} (h:tD K W own (fL g fr) σ H Q):tDA K W fr σ H fun xs H1=>rDL K W own g xs H1 Q:=by
 obtain ⟨F,ρ,r,s,p⟩:=h
 refine nX r s (fun e he=>p.err (by unfold fL;rw [he];rfl)) fun ds hd xs F1 H1 s1 q1=>⟨F1,ds,s1.fh,q1,?_⟩
 have e:fL g fr ρ=g ds:=by unfold fL;rw [hd];rfl
 rw [e] at p
 exact p.step s1
theorem rd_tup {fr:af->M (List Dat)} (h:tD K W own (fL k8 fr) σ H Q):tTup (tDA K W fr) σ H Q:=by
 obtain ⟨F,ρ,r,s,p⟩:=rd_L h
 refine ⟨F,ρ,r,s,?_⟩
 cases e:fr ρ with
 |error x=>rw [e] at p;exact p
 |ok ds=>
  rw [e] at p
  intro vs F' H' t q
  obtain ⟨F1,es,s1,q1,z⟩:=p vs F' H' t q
  unfold k8 at z
  by_cases hl:es.length<=sizeLine
  ·rw [if_pos hl] at z
   refine ⟨by rw [q1.length];exact hl,fun a ha=>z (.ref a) _ _ (Step.lay s1 ha) ?_⟩
   have:cf K (upd F1 a (.tup vs)) (.tup es) (.ref a):=⟨a,vs,rfl,SqT.of aq,q1.mono (b0.upd (s1.free ha))⟩
   cases own with
   |true=>exact this
   |false=>exact this
  ·rw [if_neg hl] at z
   exact (W.ns z).elim
theorem rd_lst {fr:af->M (List Dat)} (h:tD K W true (fL il fr) σ H Q):tLst (tDA K W fr) σ H Q:=by
 obtain ⟨F,ρ,r,s,p⟩:=rd_L h
 refine ⟨F,ρ,r,s,?_⟩
 cases e:fr ρ with
 |error x=>rw [e] at p;exact p
 |ok ds=>
  rw [e] at p
  intro vs F' H' t q
  obtain ⟨F1,es,s1,q1,z⟩:=p vs F' H' t q
  unfold il at z
  by_cases hl:es.length<=sizeLine
  ·rw [if_pos hl] at z
   exact ⟨by rw [q1.length];exact hl,fun a ha=>z (.ref a) F1 _ (Step.grow s1 ha) ⟨a,vs,rfl,aq,s1.free ha,ha,q1⟩⟩
  ·rw [if_neg hl] at z
   exact (W.ns z).elim
theorem rd_ite {ft:af->M Bool} (h:tD K W own (fIte ft fa fb) σ H Q):tIf (tDT K W ft) (tD K W own fa) (tD K W own fb) σ H Q:=by
 obtain ⟨F,ρ,r,s,p⟩:=h
 refine nW r s (fun e he=>p.err (by unfold fIte;rw [he];rfl)) fun b hb F1 H1 s1=>?_
 have e:fIte ft fa fb ρ=if b=true then fa ρ else fb ρ:=by unfold fIte;rw [hb];rfl
 rw [e] at p
 cases b with
 |true=>exact ⟨F1,ρ,r.mono s1.ff,s1.fh,p.step s1⟩
 |false=>exact ⟨F1,ρ,r.mono s1.ff,s1.fh,p.step s1⟩
theorem xm {f:af->M Bool} {F F1 H1:Hp} {ρ:af} {R:Bool->Hp->Prop} (r:oJ K F σ ρ) (s1:Step F H F1 H1) (p:match f ρ with
 |.ok b=>∀F' H',Step F H F' H'->R b H'
 |.error e=>W.p e F H):tDT K W f σ H1 R:=by
 refine ⟨F1,ρ,r.mono s1.ff,s1.fh,?_⟩
 cases e:f ρ with
 |ok b=>rw [e] at p;exact fun F' H' t=>p F' H' (s1.trans t)
 |error x=>rw [e] at p;exact W.mono p s1
theorem rd_and {ft fu:af->M Bool} {R:Bool->Hp->Prop} (h:tDT K W (wo ft fu) σ H R):tAnd (tDT K W ft) (tDT K W fu) σ H R:=by
 obtain ⟨F,ρ,r,s,p⟩:=h
 refine nW r s (fun e he=>?_) fun b hb F1 H1 s1=>?_
 ·have z:wo ft fu ρ=.error e:=by unfold wo;rw [he];rfl
  rw [z] at p;exact p
 ·have z:wo ft fu ρ=if b=true then fu ρ else .ok false:=by unfold wo;rw [hb];rfl
  rw [z] at p
  cases b with
  |true=>exact xm r s1 p
  |false=>exact p F1 H1 s1
theorem rd_or {ft fu:af->M Bool} {R:Bool->Hp->Prop} (h:tDT K W (fOr ft fu) σ H R):tOr (tDT K W ft) (tDT K W fu) σ H R:=by
 obtain ⟨F,ρ,r,s,p⟩:=h
 refine nW r s (fun e he=>?_) fun b hb F1 H1 s1=>?_
 ·have z:fOr ft fu ρ=.error e:=by unfold fOr;rw [he];rfl
  rw [z] at p;exact p
 ·have z:fOr ft fu ρ=if b=true then .ok true else fu ρ:=by unfold fOr;rw [hb];rfl
  rw [z] at p
  cases b with
  |false=>exact xm r s1 p
  |true=>exact p F1 H1 s1
theorem rd_not {ft:af->M Bool} {R:Bool->Hp->Prop} (h:tDT K W (xJ ft) σ H R):tNot (tDT K W ft) σ H R:=by
 obtain ⟨F,ρ,r,s,p⟩:=h
 refine nW r s (fun e he=>?_) fun b hb F1 H1 s1=>?_
 ·have z:xJ ft ρ=.error e:=by unfold xJ;rw [he];rfl
  rw [z] at p;exact p
 ·have z:xJ ft ρ=.ok (!b):=by unfold xJ;rw [hb];rfl
  rw [z] at p;exact p F1 H1 s1
theorem rd_B {R:Bool->Hp->Prop} (h:tDT K W (fB fa) σ H R):tTest (tD K W false fa) σ H R:=by
 obtain ⟨F,ρ,r,s,p⟩:=h
 refine bZ r s (fun e he=>?_) fun a ha x F1 H1 s1 q1=>?_
 ·have z:fB fa ρ=.error e:=by unfold fB;rw [he];rfl
  rw [z] at p;exact p
 ·have z:fB fa ρ=asB a:=by unfold fB;rw [ha];rfl
  rw [z] at p
  cases a with
  |bl b=>exact ⟨b,q1,p F1 H1 s1⟩
  |_=>exact (W.ns p).elim
theorem tru_of {F H1:Hp} {a:Dat} {x:V} {b:Bool} (s:b0 F H1) (q:cf K F a x) (h:truD a=.ok b):TruV K x H1 b:=by
 cases a with
 |non=>rw [show x=.non from q];exact (Except.ok.inj h).symm
 |bl c=>rw [show x=.bl c from q];exact (Except.ok.inj h).symm
 |int i=>rw [show x=.int i from q];exact (Except.ok.inj h).symm
 |str y=>
  rw [show x=.str y from q]
  have h':(if y.length<=sizeLine then Except.ok ((y.length:Int) != 0) else Except.error Err.stuck)=Except.ok b:=h
  by_cases hy:y.length<=sizeLine
  ·rw [if_pos hy] at h'
   exact ⟨hy,(Except.ok.inj h').symm⟩
  ·rw [if_neg hy] at h'
   cases h'
 |tup ds=>
  obtain ⟨p,xs,e,t,r⟩:=q
  subst e
  refine .inr (.inl ⟨xs,s.tup t,?_⟩)
  rw [<- Except.ok.inj h]
  cases ds with
  |nil=>rw [show xs=[] from r];rfl
  |cons d ds=>obtain ⟨v,vs,e,_⟩:=r;rw [e];rfl
 |lst ds=>
  obtain ⟨p,xs,e,t,r⟩:=q
  subst e
  refine .inl ⟨xs,s.lst t,?_⟩
  rw [<- Except.ok.inj h]
  cases ds with
  |nil=>rw [show xs=[] from r];rfl
  |cons d ds=>obtain ⟨v,vs,e,_⟩:=r;rw [e];rfl
 |ins C fs=>cases h
theorem rd_tru {R:Bool->Hp->Prop} (h:tDT K W (uL fa) σ H R):tD K W false fa σ H fun x H1=>∃k,TruV K x H1 k/\R k H1:=by
 obtain ⟨F,ρ,r,s,p⟩:=h
 refine bZ r s (fun e he=>?_) fun a ha x F1 H1 s1 q1=>?_
 ·have z:uL fa ρ=.error e:=by unfold uL;rw [he];rfl
  rw [z] at p;exact p
 ·have z:uL fa ρ=truD a:=by unfold uL;rw [ha];rfl
  rw [z] at p
  cases e:truD a with
  |ok b=>rw [e] at p;exact ⟨b,tru_of s1.fh q1 e,p F1 H1 s1⟩
  |error x=>
   rw [e] at p
   have:x=.stuck:=by
    cases a with
    |str y=>
     have e':(if y.length<=sizeLine then Except.ok ((y.length:Int) != 0) else Except.error Err.stuck)=Except.error x:=e
     by_cases hy:y.length<=sizeLine
     ·rw [if_pos hy] at e'
      cases e'
     ·rw [if_neg hy] at e'
      cases e'
      rfl
    |ins C fs=>cases e;rfl
    |_=>cases e
   subst this
   exact (W.ns p).elim
theorem rd_andV (h:tD K W false (uM fa fb) σ H Q):tAndV (tD K W false fa) (tD K W false fb) σ H Q:=by
 obtain ⟨F,ρ,r,s,p⟩:=h
 refine bZ r s (fun e he=>p.err (by unfold uM;rw [he];rfl)) fun a ha x F1 H1 s1 q1=>?_
 have z:uM fa fb ρ=(asB a).bind fun b=>if b=true then fb ρ else .ok (.bl false):=by unfold uM;rw [ha];rfl
 rw [z] at p
 cases a with
 |bl b=>
  refine ⟨b,q1,?_⟩
  cases b with
  |true=>exact ⟨F1,ρ,r.mono s1.ff,s1.fh,aH.step (own:=false) (r:=fb ρ) p s1⟩
  |false=>exact p (.bl false) F1 H1 s1 rfl
 |_=>exact (W.ns p).elim
theorem xq {g g':Dat->Dat->M Dat} (h:tD K W false (lA g g' fa fb fc) σ H Q):zA (rD2 K W false g) (rD2 K W false g') (tD K W false fa) (tD K W false fb) (tD K W false fc) σ H Q:=by
 obtain ⟨F,ρ,r,s,p⟩:=h
 refine bZ r s (fun e he=>p.err (by unfold lA;rw [he];rfl)) fun a ha x F1 H1 s1 q1=>?_
 refine bZ (r.mono s1.ff) s1.fh (fun e he=>(p.step s1).err (by unfold lA;rw [ha];show (fb ρ).bind _=_;rw [he];rfl)) fun b hb y F2 H2 s2 q2=>?_
 have z:lA g g' fa fb fc ρ=(g a b).bind fun x=>(asB x).bind fun k=>if k=true then (fc ρ).bind fun c=>g' b c else .ok (.bl false):=by unfold lA;rw [ha];show (fb ρ).bind _=_;rw [hb];rfl
 rw [z] at p
 refine ⟨F2,a,b,s2.fh,cf.mono s2.ff q1,q2,?_⟩
 have p2:=p.step (s1.trans s2)
 cases e:g a b with
 |error x=>rw [e] at p2;exact p2
 |ok d=>
  rw [e] at p2
  intro v F3 H3 s3 q3
  have p3:aH K W false F3 H3 ((asB d).bind fun k=>if k=true then (fc ρ).bind fun c=>g' b c else .ok (.bl false)) Q:=aH.step p2 s3
  cases d with
  |bl k=>
   refine ⟨k,q3,?_⟩
   cases k with
   |false=>exact p3 (.bl false) F3 H3 (Step.refl s3.fh) rfl
   |true=>
    have p4:aH K W false F3 H3 ((fc ρ).bind fun c=>g' b c) Q:=p3
    refine bZ (r.mono (s1.trans (s2.trans s3)).ff) s3.fh (fun e he=>p4.err (by rw [he];rfl)) fun c hc w F4 H4 s4 q4=>⟨F4,b,c,s4.fh,cf.mono (s3.trans s4).ff q2,q4,?_⟩
    rw [hc] at p4
    exact p4.step s4
  |_=>exact (W.ns p3).elim
end
inductive Pat where
 |nm (i:Nat)|tp (is:List Nat)
noncomputable def kW:List Nat->List Dat->af->af
 |i::is,d::ds,ρ=>kW is ds (ρ.set i (some d))
 |_,_,ρ=>ρ
noncomputable def ji:Pat->Dat->af->M af
 |.nm i,d,ρ=>.ok (ρ.set i (some d))
 |.tp is,.tup ds,ρ=>if ds.length=is.length then .ok (kW is ds ρ) else .error .stuck
 |.tp _,_,_=>.error .stuck
noncomputable def iW:List Nat->TGs
 |[]=>gNil
 |i::is=>gCons (qK i) (iW is)
noncomputable def gP (K:PySem.W.Frag):Pat->TG
 |.nm i=>qK i
 |.tp is=>gTup K is.length (iW is)
theorem rz {K:PySem.W.Frag} {F H:Hp} {R:St->Hp->Prop}:∀{is:List Nat} {ds:List Dat} {vs:List V} {σ:St} {ρ:af},oJ K F σ ρ->aB K F ds vs->ds.length=is.length->(∀σ',oJ K F σ' (kW is ds ρ)->R σ' H)->iW is vs σ H R
 |[],[],_,σ,ρ,r,q,_,h=>⟨q,h σ r⟩
 |[],_::_,_,_,_,_,_,e,_=>by simp at e
 |_::_,[],_,_,_,_,_,e,_=>by simp at e
 |i::is,d::ds,_,σ,ρ,r,⟨v,vs,e,q,t⟩,l,h=>⟨v,vs,e,rz (r.set q i) t (by simpa using l) h⟩
theorem gP_run {K:PySem.W.Frag} {F H:Hp} {R:St->Hp->Prop} {p:Pat} {d:Dat} {v:V} {σ:St} {ρ ρ':af} (r:oJ K F σ ρ) (s:b0 F H) (q:cf K F d v) (e:ji p d ρ=.ok ρ') (h:∀σ',oJ K F σ' ρ'->R σ' H):gP K p v σ H R:=by
 cases p with
 |nm i=>
  have:=Except.ok.inj e
  subst this
  exact h _ (r.set q i)
 |tp is=>
  cases d with
  |tup ds=>
   have e':(if ds.length=is.length then Except.ok (kW is ds ρ) else Except.error Err.stuck)=Except.ok ρ':=e
   by_cases hl:ds.length=is.length
   ·rw [if_pos hl] at e'
    have:=Except.ok.inj e'
    subst this
    obtain ⟨a,xs,ev,t,z⟩:=q
    exact ⟨a,xs,ev,s.tup t,by rw [z.length,hl],rz r z hl h⟩
   ·rw [if_neg hl] at e'
    cases e'
  |_=>cases e
theorem v5 {p:Pat} {d:Dat} {ρ:af} {e:Err} (h:ji p d ρ=.error e):e=.stuck:=by
 cases p with
 |nm i=>cases h
 |tp is=>
  cases d with
  |tup ds=>
   have e':(if ds.length=is.length then Except.ok (kW is ds ρ) else Except.error Err.stuck)=Except.error e:=h
   by_cases hl:ds.length=is.length
   ·rw [if_pos hl] at e';cases e'
   ·rw [if_neg hl] at e';cases e';rfl
  |_=>cases h;rfl
structure yZ (K:PySem.W.Frag) (F1:Hp) (J:It) (ds:List Dat):Prop where
 go:∀(i:Nat) (F H:Hp),b0 F1 F->b0 F H->i<ds.length->J.go i H
 yl:∀(i:Nat) (F H:Hp) (x:V) (H':Hp) (d:Dat),b0 F1 F->b0 F H->ds[i]? =some d->J.yld i H x H'->∃F',Step F H F' H'/\cf K F' d x
 st:∀(F H:Hp),b0 F1 F->b0 F H->J.stop ds.length H
noncomputable def iD (K:PySem.W.Frag) (W:gC) (f:af->M (List Dat)):TI:=fun σ H R=>∃F ρ,oJ K F σ ρ/\b0 F H/\(match f ρ with
 |.ok ds=>∀J F1 H1,Step F H F1 H1->yZ K F1 J ds->R J H1
 |.error e=>W.p e F H)
noncomputable def uF:Dat->M (List Dat)
 |.lst ds=>.ok ds
 |.tup ds=>.ok ds
 |_=>.error .stuck
noncomputable def fIt (fa:af->M Dat):af->M (List Dat):=fun ρ=>(fa ρ).bind uF
noncomputable def iSeq (K:PySem.W.Frag) (tl:TE):TI:=fun σ H R=>tl σ H fun x H1=>∃a,x=.ref a/\((∃xs,SqL K H1 a xs)/\R (Itl K a) H1\/(∃xs,SqT K H1 a xs)/\R (Itt K a) H1)
theorem Aq {K:PySem.W.Frag} {F:Hp} {a:Addr} {xs:List V} {ds:List Dat} (t:SqL K F a xs) (z:aB K F ds xs):yZ K F (Itl K a) ds where
 go:=fun i F' H' s1 s2 hi=>⟨xs,xs[i]'(by rw [z.length];exact hi),s2.lst (s1.lst t),by simp [z.length,hi]⟩
 yl:=fun i F' H' x H2 d s1 s2 hd hy=>by
  obtain ⟨e,hy⟩:=hy
  subst e
  obtain ⟨v,e1,q⟩:=z.get hd
  have e2:=hy xs (s2.lst (s1.lst t))
  rw [e1] at e2
  cases e2
  exact ⟨F',Step.refl s2,q.mono s1⟩
 st:=fun F' H' s1 s2=>⟨xs,s2.lst (s1.lst t),by rw [z.length];exact Nat.le_refl _⟩
theorem iter_tup {K:PySem.W.Frag} {F:Hp} {a:Addr} {xs:List V} {ds:List Dat} (t:SqT K F a xs) (z:aB K F ds xs):yZ K F (Itt K a) ds where
 go:=fun i F' H' s1 s2 hi=>⟨xs,xs[i]'(by rw [z.length];exact hi),s2.tup (s1.tup t),by simp [z.length,hi]⟩
 yl:=fun i F' H' x H2 d s1 s2 hd hy=>by
  obtain ⟨e,hy⟩:=hy
  subst e
  obtain ⟨v,e1,q⟩:=z.get hd
  have e2:=hy xs (s2.tup (s1.tup t))
  rw [e1] at e2
  cases e2
  exact ⟨F',Step.refl s2,q.mono s1⟩
 st:=fun F' H' s1 s2=>⟨xs,s2.tup (s1.tup t),by rw [z.length];exact Nat.le_refl _⟩
noncomputable def br (lo:Int) (n:Nat):List Dat:=(List.range n).map fun k:Nat=>Dat.int (lo+k)
theorem yE {K:PySem.W.Frag} {F:Hp} {lo:Int} {n:Nat}:yZ K F (Itr lo n) (br lo n) where
 go:=fun i F' H' s1 s2 hi=>by show i<n;simpa [br] using hi
 yl:=fun i F' H' x H2 d s1 s2 hd hy=>by
  obtain ⟨e,hy⟩:=hy
  subst e hy
  unfold br at hd
  rw [List.getElem?_map] at hd
  have hi:i<n:=by
   have:=(List.getElem?_eq_some_iff.mp (show ((List.range n).map fun k:Nat=>Dat.int (lo+k))[i]? =some d by rw [List.getElem?_map];exact hd)).1
   simpa using this
  rw [List.getElem?_range hi] at hd
  cases hd
  exact ⟨F',Step.refl s2,rfl⟩
 st:=fun F' H' s1 s2=>by show n<=_;simp [br]
noncomputable def j8 (i:Int):Bool:=decide (-(2^62)<=i)&&decide (i<2^62)
noncomputable def oX:List Dat->M (List Dat)
 |[.int j]=>if j8 j=true then .ok (br 0 j.toNat) else .error .stuck
 |_=>.error .stuck
noncomputable def qp (g:List Dat->M (List Dat)) (fr:af->M (List Dat)):af->M (List Dat):=fun ρ=>(fr ρ).bind g
section
variable {K:PySem.W.Frag} {W:gC} {own:Bool} {σ:St} {H:Hp} {Q:VK} {fa fb fc:af->M Dat}
theorem ri_seq {R:It->Hp->Prop} (h:iD K W (fIt fa) σ H R):iSeq K (tD K W false fa) σ H R:=by
 obtain ⟨F,ρ,r,s,p⟩:=h
 refine bZ r s (fun e he=>?_) fun a ha x F1 H1 s1 q1=>?_
 ·have z:fIt fa ρ=.error e:=by unfold fIt;rw [he];rfl
  rw [z] at p;exact p
 ·have z:fIt fa ρ=uF a:=by unfold fIt;rw [ha];rfl
  rw [z] at p
  cases a with
  |lst ds=>
   obtain ⟨b,xs,e,t,z⟩:=q1
   exact ⟨b,e,.inl ⟨⟨xs,s1.fh.lst t⟩,p _ F1 H1 s1 (Aq t z)⟩⟩
  |tup ds=>
   obtain ⟨b,xs,e,t,z⟩:=q1
   exact ⟨b,e,.inr ⟨⟨xs,s1.fh.tup t⟩,p _ F1 H1 s1 (iter_tup t z)⟩⟩
  |_=>exact (W.ns p).elim
theorem ri_rng1 {fr:af->M (List Dat)} {R:It->Hp->Prop} (h:iD K W (qp oX fr) σ H R):iRng1 (tDA K W fr) σ H R:=by
 obtain ⟨F,ρ,r,s,p⟩:=h
 refine nX r s (fun e he=>?_) fun ds hd xs F1 H1 s1 q1=>?_
 ·have z:qp oX fr ρ=.error e:=by unfold qp;rw [he];rfl
  rw [z] at p;exact p
 ·have z:qp oX fr ρ=oX ds:=by unfold qp;rw [hd];rfl
  rw [z] at p
  match ds,q1,p with
  |[.int j],⟨v,vs,e,q,t⟩,p=>
   have p':match (if j8 j=true then Except.ok (br 0 j.toNat) else Except.error Err.stuck:M (List Dat)) with
    |.ok ds=>∀J F1 H1,Step F H F1 H1->yZ K F1 J ds->R J H1
    |.error e=>W.p e F H:=p
   by_cases hj:j8 j=true
   ·rw [if_pos hj] at p'
    unfold j8 at hj
    simp only [Bool.and_eq_true,decide_eq_true_eq] at hj
    exact ⟨j,by rw [e,show v=.int j from q,show vs=[] from t],hj.1,hj.2,p' _ F1 H1 s1 yE⟩
   ·rw [if_neg hj] at p'
    exact (W.ns p').elim
  |[],_,p=>exact (W.ns p).elim
  |.non::_,_,p=>exact (W.ns p).elim
  |.bl _::_,_,p=>exact (W.ns p).elim
  |.str _::_,_,p=>exact (W.ns p).elim
  |.tup _::_,_,p=>exact (W.ns p).elim
  |.lst _::_,_,p=>exact (W.ns p).elim
  |.ins _ _::_,_,p=>exact (W.ns p).elim
  |.int _::_::_,_,p=>exact (W.ns p).elim
noncomputable def mr (ix:List (Option Nat)) (ρ:af):af:=ix.map fun o=>match o with
 |none=>none
 |some j=>(ρ[j]?).join
noncomputable def bE (p:Pat) (ft:af->M Bool) (fe:af->M Dat) (ρ0:af):List Dat->M (List Dat)
 |[]=>.ok []
 |d::ds=>(ji p d ρ0).bind fun ρ=>(ft ρ).bind fun b=>if b=true then (fe ρ).bind fun y=>(bE p ft fe ρ0 ds).bind fun r=>.ok (y::r) else bE p ft fe ρ0 ds
noncomputable def gS (fi:af->M (List Dat)) (ix:List (Option Nat)) (p:Pat) (ft:af->M Bool) (fe:af->M Dat):af->M Dat:=fun ρ=>(fi ρ).bind fun ds=>if ds.length<=sizeLine then (bE p ft fe (mr ix ρ) ds).bind fun r=>.ok (.lst r) else .error .stuck
noncomputable def lX:af->M Bool:=fun _=>.ok true
theorem oJ.inS {F:Hp} {ρ:af} (r:oJ K F σ ρ) (ix:List (Option Nat)):oJ K F (L2.inS ix σ) (mr ix ρ):=
 ⟨by simp [L2.inS,mr],fun i d e=>by
  unfold mr at e
  unfold L2.inS
  rw [List.getElem?_map] at e ⊢
  cases h:ix[i]? with
  |none=>rw [h] at e;cases e
  |some o=>
   rw [h] at e
   cases o with
   |none=>cases e
   |some j=>
    simp only [Option.map_some,Option.some.injEq] at e ⊢
    have e1:ρ[j]? =some (some d):=by
     cases z:ρ[j]? with
     |none=>rw [z] at e;cases e
     |some w=>rw [z] at e;simp at e;rw [e]
    obtain ⟨v,h1,h2⟩:=r.sl j d e1
    exact ⟨v,by rw [h1];rfl,h2⟩⟩
theorem zQ {fi:af->M (List Dat)} {ix:List (Option Nat)} {p:Pat} {ft:af->M Bool} {fe:af->M Dat} (h:tD K W true (gS fi ix p ft fe) σ H Q) :
  tComp (iD K W fi) ix (gP K p) (tDT K W ft) (tD K W false fe) σ H Q:=by
 obtain ⟨F,ρ,r,s,q⟩:=h
 refine ⟨F,ρ,r,s,?_⟩
 cases hf:fi ρ with
 |error e=>exact q.err (by unfold gS;rw [hf];rfl)
 |ok ds=>
  intro J F1 H1 s1 it
  have e0:gS fi ix p ft fe ρ=if ds.length<=sizeLine then (bE p ft fe (mr ix ρ) ds).bind fun r=>.ok (.lst r) else .error .stuck:=by unfold gS;rw [hf];rfl
  rw [e0] at q
  by_cases hl:ds.length<=sizeLine
  ·rw [if_pos hl] at q
   refine ⟨fun i m ys H2=>m=ds.length-i/\i<=ds.length/\∃F2 yd,Step F1 H1 F2 H2/\aB K F2 yd ys/\yd.length<=i /\
    (match bE p ft fe (mr ix ρ) (ds.drop i) with
     |.ok rr=>bE p ft fe (mr ix ρ) ds=.ok (yd++rr)
     |.error e=>W.p e F H),⟨ds.length,by omega,Nat.zero_le _,F1,[],Step.refl s1.fh,rfl,Nat.zero_le _,?_⟩,?_⟩
   ·rw [List.drop_zero]
    cases e:bE p ft fe (mr ix ρ) ds with
    |ok rr=>rfl
    |error x=>exact q.err (by rw [e];rfl)
   ·rintro i m ys H2 ⟨rfl,hi,F2,yd,s2,dy,ly,hc⟩
    have lys:ys.length<=sizeLine:=by rw [dy.length];omega
    by_cases hlt:i<ds.length
    ·have ed:ds.drop i=ds[i]::ds.drop (i+1):=List.drop_eq_getElem_cons hlt
     rw [ed] at hc
     refine .inr ⟨it.go i F2 H2 s2.ff s2.fh hlt,lys,fun ys' H'=>(i+1<=ds.length/\∃F2 yd,Step F1 H1 F2 H'/\aB K F2 yd ys'/\yd.length<=i+1 /\
      (match bE p ft fe (mr ix ρ) (ds.drop (i+1)) with
       |.ok rr=>bE p ft fe (mr ix ρ) ds=.ok (yd++rr)
       |.error e=>W.p e F H)),fun ys' H' n=>⟨ds.length-(i+1),by omega,rfl,n⟩,fun x H' y=>?_⟩
     obtain ⟨F3,s3,q3⟩:=it.yl i F2 H2 x H' ds[i] s2.ff s2.fh (by simp [hlt]) y
     have r3:oJ K F3 (L2.inS ix σ) (mr ix ρ):=(r.mono (s1.trans (s2.trans s3)).ff).inS ix
     have st3:Step F H F3 H':=s1.trans (s2.trans s3)
     have ec:bE p ft fe (mr ix ρ) (ds[i]::ds.drop (i+1))=(ji p ds[i] (mr ix ρ)).bind fun ρ1=>(ft ρ1).bind fun b=>if b=true then (fe ρ1).bind fun y=>(bE p ft fe (mr ix ρ) (ds.drop (i+1))).bind fun r=>.ok (y::r) else bE p ft fe (mr ix ρ) (ds.drop (i+1)):=by rw [bE]
     rw [ec] at hc
     cases hb:ji p ds[i] (mr ix ρ) with
     |error e=>
      rw [hb] at hc
      have:=v5 hb
      subst this
      exact (W.ns hc).elim
     |ok ρ1=>
      rw [hb] at hc
      refine gP_run r3 s3.fh q3 hb fun σ2 r4=>?_
      have hc1:match ((ft ρ1).bind fun b=>if b=true then (fe ρ1).bind fun y=>(bE p ft fe (mr ix ρ) (ds.drop (i+1))).bind fun r=>.ok (y::r) else bE p ft fe (mr ix ρ) (ds.drop (i+1))) with
       |.ok rr=>bE p ft fe (mr ix ρ) ds=.ok (yd++rr)
       |.error e=>W.p e F H:=hc
      refine nW r4 s3.fh (fun e he=>by rw [he] at hc1;exact W.mono hc1 st3) fun b hb2 F5 H5 s5=>?_
      rw [hb2] at hc1
      cases b with
      |false=>
       have hc2:match bE p ft fe (mr ix ρ) (ds.drop (i+1)) with
        |.ok rr=>bE p ft fe (mr ix ρ) ds=.ok (yd++rr)
        |.error e=>W.p e F H:=hc1
       exact ⟨hlt,F5,yd,s2.trans (s3.trans s5),dy.mono (s3.trans s5).ff,by omega,hc2⟩
      |true=>
       have hc2:match ((fe ρ1).bind fun y=>(bE p ft fe (mr ix ρ) (ds.drop (i+1))).bind fun r=>.ok (y::r)) with
        |.ok rr=>bE p ft fe (mr ix ρ) ds=.ok (yd++rr)
        |.error e=>W.p e F H:=hc1
       refine bZ (r4.mono s5.ff) s5.fh (fun e he=>by rw [he] at hc2;exact W.mono hc2 (st3.trans s5)) fun d hd v F6 H6 s6 q6=>?_
       rw [hd] at hc2
       refine ⟨hlt,F6,yd++[d],s2.trans (s3.trans (s5.trans s6)),aB.append (dy.mono (s3.trans (s5.trans s6)).ff) ⟨v,[],rfl,q6,rfl⟩,by simp;omega,?_⟩
       have hc3:match ((bE p ft fe (mr ix ρ) (ds.drop (i+1))).bind fun r=>.ok (d::r):M (List Dat)) with
        |.ok rr=>bE p ft fe (mr ix ρ) ds=.ok (yd++rr)
        |.error e=>W.p e F H:=hc2
       cases e7:bE p ft fe (mr ix ρ) (ds.drop (i+1)) with
       |ok rr=>
        rw [e7] at hc3
        show _=Except.ok ((yd++[d])++rr)
        rw [List.append_assoc]
        exact hc3
       |error x=>rw [e7] at hc3;exact hc3
    ·have:i=ds.length:=by omega
     subst this
     rw [List.drop_length] at hc
     have hc':bE p ft fe (mr ix ρ) ds=.ok (yd++[]):=hc
     rw [List.append_nil] at hc'
     rw [hc'] at q
     refine .inl ⟨it.st F2 H2 s2.ff s2.fh,lys,fun a ha=>?_⟩
     have st:Step F H F2 H2:=s1.trans s2
     exact q (.ref a) F2 _ (st.trans (Step.grow s2.fh ha)) ⟨a,ys,rfl,aq,s2.fh.free ha,st.hh.free ha,dy⟩
  ·rw [if_neg hl] at q
   exact (W.ns q).elim
end
inductive Flo where
 |nx (ρ:af)|rt (d:Dat)|bk (ρ:af)|ct (ρ:af)
structure Rep (K:PySem.W.Frag) (F0 H0 FB:Hp) (O:List Nat) (F H:Hp) (σ:St) (ρ:af):Prop where
 st:Step F0 H0 F H
 fb:b0 FB F
 len:ρ.length=σ.length
 fz:∀(i:Nat) (d:Dat),ρ[i]? =some (some d)->i∉O->∃v,σ[i]? =some (some v)/\cf K F d v
 ow:∀(i:Nat) (d:Dat),ρ[i]? =some (some d)->i∈O->∃v,σ[i]? =some (some v)/\Bk K F H0 H d v
 ap:∀(i j:Nat) (ds es:List Dat) (a:Addr),i∈O->j∈O->ρ[i]? =some (some (.lst ds))->ρ[j]? =some (some (.lst es))->σ[i]? =some (some (.ref a))->σ[j]? =some (some (.ref a))->i=j
noncomputable def nU (O O2:List Nat) (σ:St) (ρ:af) (b:Addr):Prop:=∃(i:Nat) (ds:List Dat),i∈O/\i∉O2/\ρ[i]? =some (some (.lst ds))/\σ[i]? =some (some (.ref b))
open Classical in
noncomputable def plus (F H:Hp) (A:Addr->Prop):Hp:=fun b=>if A b then H b else F b
open Classical in
noncomputable def minus (F:Hp) (A:Addr->Prop):Hp:=fun b=>if A b then none else F b
theorem vP {F H:Hp} {A:Addr->Prop} {b:Addr} (h:A b):plus F H A b=H b:=by unfold plus;rw [if_pos h]
theorem jZ {F H:Hp} {A:Addr->Prop} {b:Addr} (h:¬A b):plus F H A b=F b:=by unfold plus;rw [if_neg h]
theorem sJ {F:Hp} {A:Addr->Prop} {b:Addr} (h:A b):minus F A b=none:=by unfold minus;rw [if_pos h]
theorem jA {F:Hp} {A:Addr->Prop} {b:Addr} (h:¬A b):minus F A b=F b:=by unfold minus;rw [if_neg h]
section
variable {K:PySem.W.Frag} {F0 H0 FB F H:Hp} {O O2:List Nat} {σ:St} {ρ:af}
theorem Rep.own (r:Rep K F0 H0 FB O F H σ ρ) {b:Addr} (h:nU O O2 σ ρ b):F b=none/\H0 b=none/\∃xs,H b=some (.lst xs):=by
 obtain ⟨i,ds,hi,_,e1,e2⟩:=h
 obtain ⟨v,e3,a,xs,e,p,q,z,_⟩:=r.ow i _ e1 hi
 rw [e2] at e3
 cases e3
 cases e
 exact ⟨q,z,xs,p⟩
theorem Rep.mL (r:Rep K F0 H0 FB O F H σ ρ):b0 F (plus F H (nU O O2 σ ρ)):=fun b o h=>by
 by_cases hb:nU O O2 σ ρ b
 ·rw [(r.own hb).1] at h;cases h
 ·rw [jZ hb];exact h
theorem Rep.l6 (r:Rep K F0 H0 FB O F H σ ρ):b0 (plus F H (nU O O2 σ ρ)) H:=fun b o h=>by
 by_cases hb:nU O O2 σ ρ b
 ·rw [vP hb] at h;exact h
 ·rw [jZ hb] at h;exact r.st.fh b o h
theorem Rep.freeze (r:Rep K F0 H0 FB O F H σ ρ) (hs:∀i∈O2,i∈O):Rep K F0 H0 FB O2 (plus F H (nU O O2 σ ρ)) H σ ρ where
 st:=⟨r.st.ff.trans r.mL,r.st.hh,r.l6,fun b o h=>by
  by_cases hb:nU O O2 σ ρ b
  ·exact .inr (r.own hb).2.1
  ·rw [jZ hb] at h;exact r.st.nw b o h⟩
 fb:=r.fb.trans r.mL
 len:=r.len
 fz:=fun i d e hi=>by
  by_cases ho:i∈O
  ·obtain ⟨v,e3,q⟩:=r.ow i d e ho
   refine ⟨v,e3,?_⟩
   cases d with
   |lst ds=>
    obtain ⟨a,xs,ev,p,_,_,t⟩:=q
    subst ev
    refine ⟨a,xs,rfl,SqL.of ?_,t.mono r.mL⟩
    rw [vP ⟨i,ds,ho,hi,e,e3⟩]
    exact p
   |_=>exact cf.mono r.mL q
  ·obtain ⟨v,e3,q⟩:=r.fz i d e ho
   exact ⟨v,e3,q.mono r.mL⟩
 ow:=fun i d e hi=>by
  obtain ⟨v,e3,q⟩:=r.ow i d e (hs i hi)
  refine ⟨v,e3,?_⟩
  cases d with
  |lst ds=>
   obtain ⟨a,xs,ev,p,q,z,t⟩:=q
   subst ev
   refine ⟨a,xs,rfl,p,?_,z,t.mono r.mL⟩
   have:¬nU O O2 σ ρ a:=fun ⟨j,es,hj,hj2,f1,f2⟩=>by
    have:=r.ap i j ds es a (hs i hi) hj e f1 e3 f2
    subst this
    exact hj2 hi
   rw [jZ this]
   exact q
  |_=>exact cf.mono r.mL q
 ap:=fun i j ds es a hi hj=>r.ap i j ds es a (hs i hi) (hs j hj)
theorem Rep.repE (r:Rep K F0 H0 FB [] F H σ ρ):oJ K F σ ρ:=⟨r.len,fun i d e=>r.fz i d e (by simp)⟩
theorem Rep.pF (r:Rep K F0 H0 FB O F H σ ρ):oJ K (plus F H (nU O [] σ ρ)) σ ρ:=(r.freeze (O2:=[]) (by simp)).repE
noncomputable def erase:List Nat->af->af
 |[],ρ=>ρ
 |i::is,ρ=>erase is (ρ.set i none)
theorem uN:∀(O:List Nat) (ρ:af),(erase O ρ).length=ρ.length
 |[],_=>rfl
 |i::is,ρ=>by rw [erase,uN,List.length_set]
theorem uO:∀(O:List Nat) (ρ:af) (i:Nat) (d:Dat),(erase O ρ)[i]? =some (some d)->ρ[i]? =some (some d)/\i∉O
 |[],_,_,_,h=>⟨h,by simp⟩
 |j::is,ρ,i,d,h=>by
  obtain ⟨h1,h2⟩:=uO is (ρ.set j none) i d h
  by_cases e:j=i
  ·subst e
   have hj:j<ρ.length:=by
    have:=(List.getElem?_eq_some_iff.mp h1).1
    simpa using this
   rw [List.getElem?_set_self hj] at h1
   cases h1
  ·rw [List.getElem?_set_ne e] at h1
   exact ⟨h1,by simp [h2];omega⟩
theorem Rep.nu (r:Rep K F0 H0 FB O F H σ ρ):oJ K F σ (erase O ρ):=
 ⟨by rw [uN,r.len],fun i d e=>let ⟨h1,h2⟩:=uO O ρ i d e;r.fz i d h1 h2⟩
theorem Rep.step {F1 H1:Hp} (r:Rep K F0 H0 FB O F H σ ρ) (s:Step F H F1 H1):Rep K F0 H0 FB O F1 H1 σ ρ where
 st:=r.st.trans s
 fb:=r.fb.trans s.ff
 len:=r.len
 fz:=fun i d e hi=>let ⟨v,e3,q⟩:=r.fz i d e hi;⟨v,e3,q.mono s.ff⟩
 ow:=fun i d e hi=>by
  obtain ⟨v,e3,q⟩:=r.ow i d e hi
  refine ⟨v,e3,?_⟩
  cases d with
  |lst ds=>
   obtain ⟨a,xs,ev,p,q,z,t⟩:=q
   refine ⟨a,xs,ev,s.hh _ _ p,?_,z,t.mono s.ff⟩
   cases e1:F1 a with
   |none=>rfl
   |some o=>
    rcases s.nw a o e1 with h|h
    ·rw [q] at h;cases h
    ·rw [p] at h;cases h
  |_=>exact cf.mono s.ff q
 ap:=r.ap
theorem Rep.nY {F1 H1:Hp} (r:Rep K F0 H0 FB O F H σ ρ) (s:Step (plus F H (nU O [] σ ρ)) H F1 H1):Rep K F0 H0 FB O (minus F1 (nU O [] σ ρ)) H1 σ ρ:=by
 refine r.step ⟨fun b o h=>?_,s.hh,fun b o h=>?_,fun b o h=>?_⟩
 ·by_cases hb:nU O [] σ ρ b
  ·rw [(r.own hb).1] at h;cases h
  ·rw [jA hb];exact s.ff b o (by rw [jZ hb];exact h)
 ·by_cases hb:nU O [] σ ρ b
  ·rw [sJ hb] at h;cases h
  ·rw [jA hb] at h;exact s.fh b o h
 ·by_cases hb:nU O [] σ ρ b
  ·rw [sJ hb] at h;cases h
  ·rw [jA hb] at h
   rcases s.nw b o h with z|z
   ·rw [jZ hb] at z;exact .inl z
   ·exact .inr z
theorem Rep.uz {F1 H1:Hp} (r:Rep K F0 H0 FB O F H σ ρ) (s:Step (plus F H (nU O [] σ ρ)) H F1 H1) (a:Addr) (xs:List V) (h:SqT K F1 a xs):SqT K (minus F1 (nU O [] σ ρ)) a xs:=by
 have key:∀{b:Addr} {o:HO},F1 b=some o->(∀xs,o≠.lst xs)->minus F1 (nU O [] σ ρ) b=some o:=fun {b o} h n=>by
  by_cases hb:nU O [] σ ρ b
  ·obtain ⟨_,_,xs,e⟩:=r.own hb
   have:=s.ff b (.lst xs) (by rw [vP hb];exact e)
   rw [h] at this
   cases this
   exact absurd rfl (n xs)
  ·rw [jA hb];exact h
 rcases h with (h|⟨o,h⟩)|h
 ·exact .inl (.inl (key h (by intro xs e;cases e)))
 ·exact .inl (.inr ⟨o,key h (by intro xs e;cases e)⟩)
 ·exact .inr h
theorem Rep.set {d:Dat} {v:V} (r:Rep K F0 H0 FB O F H σ ρ) (q:cf K F d v) (i:Nat):Rep K F0 H0 FB (O.filter (· != i)) F H (σ.set i (some v)) (ρ.set i (some d)) where
 st:=r.st
 fb:=r.fb
 len:=by rw [List.length_set,List.length_set,r.len]
 fz:=fun j e h hj=>by
  by_cases hij:i=j
  ·subst hij
   have hi:i<ρ.length:=by
    have:=(List.getElem?_eq_some_iff.mp h).1
    simpa using this
   rw [List.getElem?_set_self hi] at h
   cases h
   exact ⟨v,by rw [List.getElem?_set_self (by rw [<- r.len];exact hi)],q⟩
  ·rw [List.getElem?_set_ne hij] at h
   rw [List.getElem?_set_ne hij]
   exact r.fz j e h fun z=>hj (List.mem_filter.mpr ⟨z,by simpa using Ne.symm hij⟩)
 ow:=fun j e h hj=>by
  obtain ⟨h1,h2⟩:=List.mem_filter.mp hj
  have hij:i≠j:=fun z=>by simp [z] at h2
  rw [List.getElem?_set_ne hij] at h ⊢
  exact r.ow j e h h1
 ap:=fun j k ds es a hj hk e1 e2 e3 e4=>by
  obtain ⟨j1,j2⟩:=List.mem_filter.mp hj
  obtain ⟨k1,k2⟩:=List.mem_filter.mp hk
  have hij:i≠j:=fun z=>by simp [z] at j2
  have hik:i≠k:=fun z=>by simp [z] at k2
  rw [List.getElem?_set_ne hij] at e1 e3
  rw [List.getElem?_set_ne hik] at e2 e4
  exact r.ap j k ds es a j1 k1 e1 e2 e3 e4
theorem Rep.setOwn {d:Dat} {v:V} (r:Rep K F0 H0 FB O F H σ ρ) (q:Bk K F H0 H d v) (nw:∀a,v=.ref a->(∃ds,d=.lst ds)->¬nU O [i] σ ρ a):Rep K F0 H0 FB (i::O.filter (· != i)) F H (σ.set i (some v)) (ρ.set i (some d)) where
 st:=r.st
 fb:=r.fb
 len:=by rw [List.length_set,List.length_set,r.len]
 fz:=fun j e h hj=>by
  simp only [List.mem_cons,not_or] at hj
  have hij:i≠j:=fun z=>hj.1 z.symm
  rw [List.getElem?_set_ne hij] at h ⊢
  exact r.fz j e h fun z=>hj.2 (List.mem_filter.mpr ⟨z,by simpa using Ne.symm hij⟩)
 ow:=fun j e h hj=>by
  by_cases hij:i=j
  ·subst hij
   have hi:i<ρ.length:=by
    have:=(List.getElem?_eq_some_iff.mp h).1
    simpa using this
   rw [List.getElem?_set_self hi] at h
   cases h
   exact ⟨v,by rw [List.getElem?_set_self (by rw [<- r.len];exact hi)],q⟩
  ·rw [List.getElem?_set_ne hij] at h ⊢
   rcases List.mem_cons.mp hj with z|z
   ·exact absurd z.symm hij
   ·exact r.ow j e h (List.mem_filter.mp z).1
 ap:=fun j k ds es a hj hk e1 e2 e3 e4=>by
  have key:∀{k':Nat} {ds' es':List Dat},k'∈O->k'≠i->(ρ.set i (some d))[i]? =some (some (.lst ds'))->(ρ.set i (some d))[k']? =some (some (.lst es'))->(σ.set i (some v))[i]? =some (some (.ref a))->(σ.set i (some v))[k']? =some (some (.ref a))->False:=by
   intro k' ds' es' hk' hne f1 f2 f3 f4
   have hi:i<ρ.length:=by
    have:=(List.getElem?_eq_some_iff.mp f1).1
    simpa using this
   rw [List.getElem?_set_self hi] at f1
   rw [List.getElem?_set_self (by rw [<- r.len];exact hi)] at f3
   rw [List.getElem?_set_ne (Ne.symm hne)] at f2 f4
   have z1:v=.ref a:=by simpa using f3
   have z2:d=.lst ds':=by simpa using f1
   exact nw a z1 ⟨ds',z2⟩ ⟨k',es',hk',by simpa using hne,f2,f4⟩
  rcases List.mem_cons.mp hj with zj|zj
  ·rcases List.mem_cons.mp hk with zk|zk
   ·rw [zj,zk]
   ·obtain ⟨k1,k2⟩:=List.mem_filter.mp zk
    subst zj
    exact (key k1 (by simpa using k2) e1 e2 e3 e4).elim
  ·obtain ⟨j1,j2⟩:=List.mem_filter.mp zj
   have hij:i≠j:=fun z=>by simp [z] at j2
   rcases List.mem_cons.mp hk with zk|zk
   ·subst zk
    exact (key j1 (Ne.symm hij) e2 e1 e4 e3).elim
   ·obtain ⟨k1,k2⟩:=List.mem_filter.mp zk
    have hik:i≠k:=fun z=>by simp [z] at k2
    rw [List.getElem?_set_ne hij] at e1 e3
    rw [List.getElem?_set_ne hik] at e2 e4
    exact r.ap j k ds es a j1 k1 e1 e2 e3 e4
end
section
variable {K:PySem.W.Frag} {F0 H0 FB F H:Hp} {O O2:List Nat} {σ:St} {ρ:af}
theorem Rep.lM {F1 H1:Hp} (r:Rep K F0 H0 FB O F H σ ρ) (s:Step (plus F H (nU O [] σ ρ)) H F1 H1):b0 F (minus F1 (nU O [] σ ρ)):=fun b o h=>by
 by_cases hb:nU O [] σ ρ b
 ·rw [(r.own hb).1] at h;cases h
 ·rw [jA hb];exact s.ff b o (by rw [jZ hb];exact h)
theorem yL {i:Nat} {O:List Nat} (h:i∉O):O.filter (· != i)=O:=by
 rw [List.filter_eq_self]
 intro a ha
 simp
 intro e
 exact h (e▸ha)
theorem Rep.set' {d:Dat} {v:V} (r:Rep K F0 H0 FB O F H σ ρ) (q:cf K F d v) {i:Nat} (hi:i∉O):Rep K F0 H0 FB O F H (σ.set i (some v)) (ρ.set i (some d)):=by
 have:=r.set q i
 rw [yL hi] at this
 exact this
theorem Rep.base {FB':Hp} (r:Rep K F0 H0 FB O F H σ ρ) (s:b0 FB' FB):Rep K F0 H0 FB' O F H σ ρ:=⟨r.st,s.trans r.fb,r.len,r.fz,r.ow,r.ap⟩
theorem Rep.write {i:Nat} {a:Addr} {ds ds':List Dat} {xs':List V} (r:Rep K F0 H0 FB O F H σ ρ) (hi:i∈O) (e1:ρ[i]? =some (some (.lst ds))) (e2:σ[i]? =some (some (.ref a))) (q:aB K F ds' xs'):Rep K F0 H0 FB O F (upd H a (.lst xs')) σ (ρ.set i (some (.lst ds'))):=by
 have ho:F a=none/\H0 a=none/\∃xs,H a=some (.lst xs):=r.own (O2:=[]) ⟨i,ds,hi,by simp,e1,e2⟩
 have hil:i<ρ.length:=(List.getElem?_eq_some_iff.mp e1).1
 refine ⟨⟨r.st.ff,fun b o h=>?_,fun b o h=>?_,r.st.nw⟩,r.fb,by rw [List.length_set,r.len],fun j e h hj=>?_,fun j e h hj=>?_,fun j k es fs b hj hk f1 f2 f3 f4=>?_⟩
 ·rw [ar (aL h ho.2.1)];exact r.st.hh b o h
 ·rw [ar (aL h ho.1)];exact r.st.fh b o h
 ·have hij:i≠j:=fun z=>hj (z▸hi)
  rw [List.getElem?_set_ne hij] at h
  exact r.fz j e h hj
 ·by_cases hij:i=j
  ·subst hij
   rw [List.getElem?_set_self hil] at h
   cases h
   exact ⟨.ref a,e2,a,xs',rfl,aq,ho.1,ho.2.1,q⟩
  ·rw [List.getElem?_set_ne hij] at h
   obtain ⟨v,e3,z⟩:=r.ow j e h hj
   refine ⟨v,e3,?_⟩
   cases e with
   |lst es=>
    obtain ⟨b,ys,ev,p,q1,q2,t⟩:=z
    subst ev
    have hab:b≠a:=fun z=>by
     subst z
     exact hij (r.ap i j ds es b hi hj e1 h e2 e3)
    exact ⟨b,ys,rfl,by rw [ar hab];exact p,q1,q2,t⟩
   |_=>exact z
 ·have fix:∀{j:Nat} {es:List Dat},(ρ.set i (some (.lst ds')))[j]? =some (some (.lst es))->∃es',ρ[j]? =some (some (.lst es')):=fun {j es} f=>by
   by_cases hij:i=j
   ·subst hij;exact ⟨ds,e1⟩
   ·rw [List.getElem?_set_ne hij] at f;exact ⟨es,f⟩
  obtain ⟨es',g1⟩:=fix f1
  obtain ⟨fs',g2⟩:=fix f2
  exact r.ap j k es' fs' b hj hk g1 g2 f3 f4
noncomputable def Pat.names:Pat->List Nat
 |.nm i=>[i]
 |.tp is=>is
theorem rA {R:St->Hp->Prop}:∀{is:List Nat} {ds:List Dat} {vs:List V} {σ:St} {ρ:af},Rep K F0 H0 FB O F H σ ρ->(∀i∈is,i∉O)->aB K F ds vs->ds.length=is.length->(∀σ',Rep K F0 H0 FB O F H σ' (kW is ds ρ)->R σ' H)->iW is vs σ H R
 |[],[],_,σ,ρ,r,_,q,_,h=>⟨q,h σ r⟩
 |[],_::_,_,_,_,_,_,_,e,_=>by simp at e
 |_::_,[],_,_,_,_,_,_,e,_=>by simp at e
 |i::is,d::ds,_,σ,ρ,r,n,⟨v,vs,e,q,t⟩,l,h=>⟨v,vs,e,rA (r.set' q (n i (by simp))) (fun j hj=>n j (by simp [hj])) t (by simpa using l) h⟩
theorem gP_rep {R:St->Hp->Prop} {p:Pat} {d:Dat} {v:V} {ρ':af} (r:Rep K F0 H0 FB O F H σ ρ) (n:∀i∈p.names,i∉O) (q:cf K F d v) (e:ji p d ρ=.ok ρ') (h:∀σ',Rep K F0 H0 FB O F H σ' ρ'->R σ' H):gP K p v σ H R:=by
 cases p with
 |nm i=>
  have:=Except.ok.inj e
  subst this
  exact h _ (r.set' q (n i (by simp [Pat.names])))
 |tp is=>
  cases d with
  |tup ds=>
   have e':(if ds.length=is.length then Except.ok (kW is ds ρ) else Except.error Err.stuck)=Except.ok ρ':=e
   by_cases hl:ds.length=is.length
   ·rw [if_pos hl] at e'
    have:=Except.ok.inj e'
    subst this
    obtain ⟨a,xs,ev,t,z⟩:=q
    exact ⟨a,xs,ev,r.st.fh.tup t,by rw [z.length,hl],rA r n z hl h⟩
   ·rw [if_neg hl] at e'
    cases e'
  |_=>cases e
end
noncomputable def kD (K:PySem.W.Frag) (W:gC) (ro:Bool) (F0 H0 FB:Hp) (OL O':List Nat) (D:Ends) (r:M Flo):Prop:=match r with
 |.ok (.nx ρ)=>∀σ F H,Rep K F0 H0 FB O' F H σ ρ->D.nx σ H
 |.ok (.rt d)=>∀v F H,Step F0 H0 F H->Val K ro F H0 H d v->D.rt v H
 |.ok (.bk ρ)=>∀σ F H,Rep K F0 H0 FB OL F H σ ρ->D.bk σ H
 |.ok (.ct ρ)=>∀σ F H,Rep K F0 H0 FB OL F H σ ρ->D.ct σ H
 |.error e=>W.p e F0 H0
noncomputable def tS (K:PySem.W.Frag) (W:gC) (ro:Bool) (F0 H0:Hp) (OL O O':List Nat) (g:af->M Flo):TS:=fun D σ H=>∃FB F ρ,Rep K F0 H0 FB O F H σ ρ/\kD K W ro F0 H0 FB OL O' D (g ρ)
noncomputable def eI:af->M Flo:=fun ρ=>.ok (.nx ρ)
noncomputable def bO (g h:af->M Flo):af->M Flo:=fun ρ=>(g ρ).bind fun fl=>match fl with
 |.nx ρ'=>h ρ'
 |fl=>.ok fl
noncomputable def sIf (ft:af->M Bool) (g h:af->M Flo):af->M Flo:=fun ρ=>(ft ρ).bind fun b=>if b=true then g ρ else h ρ
noncomputable def oA:Bool->Dat->Bool
 |true,.lst ds=>rB ds
 |_,d=>mv d
noncomputable def vL (own:Bool) (i:Nat) (f:af->M Dat):af->M Flo:=fun ρ=>(f ρ).bind fun d=>if oA own d=true then .ok (.nx (ρ.set i (some d))) else .error .stuck
noncomputable def aQ (O:List Nat) (i:Nat) (f:af->M Dat):af->M Flo:=fun ρ=>(f (erase O ρ)).bind fun d=>.ok (.nx (ρ.set i (some d)))
noncomputable def iN (ρ:af) (i:Nat):M (List Dat):=match ρ[i]? with
 |some (some (.lst ds))=>.ok ds
 |_=>.error .stuck
noncomputable def put (ρ:af) (i:Nat) (ds:List Dat):M Flo:=.ok (.nx (ρ.set i (some (.lst ds))))
noncomputable def mJ (O:List Nat) (i:Nat) (f:af->M Dat):af->M Flo:=fun ρ=>(iN ρ i).bind fun ds=>(f (erase O ρ)).bind fun d=>if ds.length<sizeLine then put ρ i (ds++[d]) else .error .stuck
noncomputable def asI:Dat->M Int
 |.int i=>.ok i
 |_=>.error .stuck
noncomputable def vK (i:Nat) (fi f:af->M Dat):af->M Flo:=fun ρ=>(f ρ).bind fun d=>(iN ρ i).bind fun ds=>(fi ρ).bind fun k=>(asI k).bind fun k=>if mv d=true then (match ixN ds.length k with
 |some j=>put ρ i (ds.set j d)
 |none=>.error .stuck) else .error .stuck
noncomputable def iT (f:af->M Dat):af->M Flo:=fun ρ=>(f ρ).bind fun d=>.ok (.rt d)
noncomputable def isL:Dat->Bool
 |.lst _=>true
 |_=>false
noncomputable def jF (p:Pat) (g:af->M Flo):List Dat->af->M Flo
 |[],ρ=>.ok (.nx ρ)
 |d::ds,ρ=>(ji p d ρ).bind fun ρ1=>(g ρ1).bind fun fl=>match fl with
  |.nx ρ2=>jF p g ds ρ2
  |.ct ρ2=>jF p g ds ρ2
  |.bk ρ2=>.ok (.nx ρ2)
  |.rt d=>.ok (.rt d)
noncomputable def pD (O:List Nat) (fi:af->M (List Dat)) (p:Pat) (g:af->M Flo):af->M Flo:=fun ρ=>(fi (erase O ρ)).bind fun ds=>jF p g ds ρ
section
variable {K:PySem.W.Frag} {W:gC} {ro own:Bool} {F0 H0 FB F H:Hp} {OL O O' O2:List Nat} {D:Ends} {σ:St} {ρ:af} {g h:af->M Flo} {f fi:af->M Dat} {ft:af->M Bool}
theorem kD.err {x:M Flo} {e:Err} (p:kD K W ro F0 H0 FB OL O' D x) (h:x=.error e):W.p e F0 H0:=by rw [h] at p;exact p
theorem kD.qM {x:M Flo} {e:Err} (p:kD K W ro F0 H0 FB OL O' D x) (s:Step F0 H0 F H) (h:x=.error e):W.p e F H:=W.mono (p.err h) s
theorem kD.stuck {x:M Flo} {P:Prop} (p:kD K W ro F0 H0 FB OL O' D x) (h:x=.error .stuck):P:=(W.ns (p.err h)).elim
theorem tS.enter (hs:∀i∈O2,i∈O) (t:tS K W ro F0 H0 OL O O' g D σ H):tS K W ro F0 H0 OL O2 O' g D σ H:=by
 obtain ⟨FB,F,ρ,r,p⟩:=t
 exact ⟨FB,_,ρ,r.freeze hs,p⟩
theorem rs_next (t:tS K W ro F0 H0 OL O O eI D σ H):tNext D σ H:=by
 obtain ⟨FB,F,ρ,r,p⟩:=t
 exact p σ F H r
theorem rs_seq (t:tS K W ro F0 H0 OL O O2 (bO g h) D σ H):tSeq (tS K W ro F0 H0 OL O O' g) (tS K W ro F0 H0 OL O' O2 h) D σ H:=by
 obtain ⟨FB,F,ρ,r,p⟩:=t
 refine ⟨FB,F,ρ,r,?_⟩
 unfold bO at p
 cases e:g ρ with
 |error x=>exact p.err (by rw [e];rfl)
 |ok fl=>
  rw [e] at p
  cases fl with
  |nx ρ'=>exact fun σ' F' H' r'=>⟨FB,F',ρ',r',p⟩
  |rt d=>exact p
  |bk ρ'=>exact p
  |ct ρ'=>exact p
theorem rs_if (t:tS K W ro F0 H0 OL O O' (sIf ft g h) D σ H):tIfS (tDT K W ft) (tS K W ro F0 H0 OL O O' g) (tS K W ro F0 H0 OL O O' h) D σ H:=by
 obtain ⟨FB,F,ρ,r,p⟩:=t
 refine nW r.pF r.l6 (fun e he=>p.qM (r.freeze (O2:=[]) (by simp)).st (by unfold sIf;rw [he];rfl)) fun b hb F1 H1 s1=>?_
 have z:sIf ft g h ρ=if b=true then g ρ else h ρ:=by unfold sIf;rw [hb];rfl
 rw [z] at p
 cases b with
 |true=>exact ⟨FB,_,ρ,r.nY s1,p⟩
 |false=>exact ⟨FB,_,ρ,r.nY s1,p⟩
noncomputable def aft (own:Bool) (i:Nat) (O:List Nat):List Nat:=if own=true then i::O.filter (· != i) else O.filter (· != i)
theorem Rep.bindV {i:Nat} {d:Dat} {v:V} {H2:Hp} (r:Rep K F0 H0 FB O F H σ ρ) (q:Val K own F H2 H d v) (h2:b0 H0 H2) (nw:∀a,nU O [] σ ρ a->∃o,H2 a=some o):Rep K F0 H0 FB (aft own i O) F H (σ.set i (some v)) (ρ.set i (some d)):=by
 cases own with
 |false=>exact r.set q i
 |true=>
  refine r.setOwn (Bk.back h2 q) fun a ha ⟨ds,hd⟩ z=>?_
  subst ha hd
  obtain ⟨b,xs,e,_,_,n,_⟩:=q
  cases e
  obtain ⟨j,es,h1,h2,h3,h4⟩:=z
  obtain ⟨o,ho⟩:=nw a ⟨j,es,h1,by simp,h3,h4⟩
  rw [n] at ho
  cases ho
theorem zM {i:Nat} (t:tS K W ro F0 H0 OL O (aft own i O) (aQ O i f) D σ H):tAsg (tD K W own f) (qK i) D σ H:=by
 obtain ⟨FB,F,ρ,r,p⟩:=t
 refine bZ r.nu r.st.fh (fun e he=>p.qM r.st (by unfold aQ;rw [he];rfl)) fun d hd v F1 H1 s1 q=>?_
 have z:aQ O i f ρ=.ok (.nx (ρ.set i (some d))):=by unfold aQ;rw [hd];rfl
 rw [z] at p
 exact p _ F1 H1 ((r.step s1).bindV q r.st.hh fun a ha=>let ⟨_,_,xs,e⟩:=r.own ha;⟨_,e⟩)
theorem Rep.flatV {F1 H1:Hp} {d:Dat} {v:V} (r:Rep K F0 H0 FB O F H σ ρ) (s:Step (plus F H (nU O [] σ ρ)) H F1 H1) (q:Val K own F1 H H1 d v) (fl:oA own d=true):Val K own (minus F1 (nU O [] σ ρ)) H H1 d v:=by
 have none_of:∀{a:Addr},F1 a=none->minus F1 (nU O [] σ ρ) a=none:=fun {a} h=>by
  by_cases hb:nU O [] σ ρ a
  ·exact sJ hb
  ·rw [jA hb];exact h
 cases own with
 |false=>exact cf.flat (r.uz s) (by cases d<;>exact fl) q
 |true=>
  cases d with
  |lst ds=>
   obtain ⟨a,xs,e,p,n,z,t⟩:=q
   exact ⟨a,xs,e,p,none_of n,z,t.flat (r.uz s) fl⟩
  |non=>exact q
  |bl b=>exact q
  |int i=>exact q
  |str x=>exact q
  |tup ds=>exact cf.flat (d:=.tup ds) (r.uz s) fl q
  |ins C fs=>exact cf.flat (d:=.ins C fs) (r.uz s) fl q
theorem rs_setA {i:Nat} (t:tS K W ro F0 H0 OL O (aft own i O) (vL own i f) D σ H):tAsg (tD K W own f) (qK i) D σ H:=by
 obtain ⟨FB,F,ρ,r,p⟩:=t
 refine bZ r.pF r.l6 (fun e he=>p.qM (r.freeze (O2:=[]) (by simp)).st (by unfold vL;rw [he];rfl)) fun d hd v F1 H1 s1 q=>?_
 have z:vL own i f ρ=if oA own d=true then .ok (.nx (ρ.set i (some d))) else .error .stuck:=by unfold vL;rw [hd];rfl
 rw [z] at p
 by_cases hf:oA own d=true
 ·rw [if_pos hf] at p
  exact p _ _ H1 ((r.nY s1).bindV (r.flatV s1 q hf) r.st.hh fun a ha=>let ⟨_,_,xs,e⟩:=r.own ha;⟨_,e⟩)
 ·rw [if_neg hf] at p
  exact p.stuck rfl
theorem iU {i:Nat} {ds:List Dat} (h:iN ρ i=.ok ds):ρ[i]? =some (some (.lst ds)):=by
 unfold iN at h
 split at h
 ·cases h;assumption
 ·cases h
theorem nz {i:Nat} {e:Err} (h:iN ρ i=.error e):e=.stuck:=by
 unfold iN at h
 split at h
 ·cases h
 ·cases h;rfl
theorem Rep.uA {i:Nat} {ds:List Dat} (r:Rep K F0 H0 FB O F H σ ρ) (hi:i∈O) (e:ρ[i]? =some (some (.lst ds))):∃a xs,σ[i]? =some (some (.ref a))/\H a=some (.lst xs)/\aB K F ds xs:=by
 obtain ⟨v,e3,a,xs,ev,p,_,_,t⟩:=r.ow i _ e hi
 subst ev
 exact ⟨a,xs,e3,p,t⟩
noncomputable def tApp (K:PySem.W.Frag) (i:Nat) (te:TE):TS:=tDrop (tBM K "list" vN (tVar i) (qr te tNil))
theorem rs_appB {i:Nat} (hi:i∈O) (t:tS K W ro F0 H0 OL O O (mJ O i f) D σ H):tApp K i (tD K W false f) D σ H:=by
 obtain ⟨FB,F,ρ,r,p⟩:=t
 cases hl:iN ρ i with
 |error e=>
  have:=nz hl
  subst this
  exact p.stuck (by unfold mJ;rw [hl];rfl)
 |ok ds=>
  obtain ⟨a,xs,e2,ha,z⟩:=r.uA hi (iU hl)
  refine ⟨.ref a,e2,sg ha,?_⟩
  refine bZ r.nu r.st.fh (fun e he=>p.qM r.st (by unfold mJ;rw [hl];show (f (erase O ρ)).bind _=_;rw [he];rfl)) fun d hd v F1 H1 s1 q=>?_
  have ez:mJ O i f ρ=if ds.length<sizeLine then put ρ i (ds++[d]) else .error .stuck:=by unfold mJ;rw [hl];show (f (erase O ρ)).bind _=_;rw [hd];rfl
  rw [ez] at p
  by_cases hs:ds.length<sizeLine
  ·rw [if_pos hs] at p
   exact ⟨a,xs,v,rfl,rfl,s1.hh _ _ ha,by rw [z.length];exact hs,p σ F1 _ ((r.step s1).write hi (iU hl) e2 (aB.append (z.mono s1.ff) ⟨v,[],rfl,q,rfl⟩))⟩
  ·rw [if_neg hs] at p
   exact p.stuck rfl
theorem rs_setI {i:Nat} (hi:i∈O) (t:tS K W ro F0 H0 OL O O (vK i fi f) D σ H):tAsg (tD K W false f) (gSub (tVar i) (tD K W false fi) rSetL) D σ H:=by
 obtain ⟨FB,F,ρ,r,p⟩:=t
 refine bZ r.pF r.l6 (fun e he=>p.qM (r.freeze (O2:=[]) (by simp)).st (by unfold vK;rw [he];rfl)) fun d hd v F1 H1 s1 q=>?_
 have ez:vK i fi f ρ=(iN ρ i).bind fun ds=>(fi ρ).bind fun k=>(asI k).bind fun k=>if mv d=true then (match ixN ds.length k with
  |some j=>put ρ i (ds.set j d)
  |none=>.error .stuck) else .error .stuck:=by unfold vK;rw [hd];rfl
 rw [ez] at p
 cases hl:iN ρ i with
 |error e=>
  have:=nz hl
  subst this
  exact p.stuck (by rw [hl];rfl)
 |ok ds=>
  rw [hl] at p
  have p:kD K W ro F0 H0 FB OL O D ((fi ρ).bind fun k=>(asI k).bind fun k=>if mv d=true then (match ixN ds.length k with
   |some j=>put ρ i (ds.set j d)
   |none=>.error .stuck) else .error .stuck):=p
  have r1:=r.nY s1
  obtain ⟨a,xs,e2,ha,z⟩:=r1.uA hi (iU hl)
  refine ⟨.ref a,e2,?_⟩
  refine bZ r1.pF r1.l6 (fun e he=>p.qM (r1.freeze (O2:=[]) (by simp)).st (by rw [he];rfl)) fun k hk w F2 H2 s2 q2=>?_
  rw [hk] at p
  cases k with
  |int k=>
   have p:kD K W ro F0 H0 FB OL O D (if mv d=true then (match ixN ds.length k with
    |some j=>put ρ i (ds.set j d)
    |none=>.error .stuck) else .error .stuck):=p
   by_cases hf:mv d=true
   ·rw [if_pos hf] at p
    cases hj:ixN ds.length k with
    |none=>rw [hj] at p;exact p.stuck rfl
    |some j=>
     rw [hj] at p
     refine ⟨a,xs,k,j,rfl,q2,s2.hh _ _ ha,by rw [z.length];exact hj,?_⟩
     have qd:cf K (minus F1 (nU O [] σ ρ)) d v:=cf.flat (r.uz s1) hf q
     exact p σ _ _ ((r1.nY s2).write hi (iU hl) e2 (aB.set (qd.mono (r1.lM s2)) j (z.mono (r1.lM s2))))
   ·rw [if_neg hf] at p
    exact p.stuck rfl
  |_=>exact p.stuck rfl
theorem rs_ret (t:tS K W ro F0 H0 OL O O' (iT f) D σ H):tRet (tD K W ro f) D σ H:=by
 obtain ⟨FB,F,ρ,r,p⟩:=t
 have rf:=r.freeze (O2:=[]) (by simp)
 refine bZ r.pF r.l6 (fun e he=>p.qM rf.st (by unfold iT;rw [he];rfl)) fun d hd v F1 H1 s1 q=>?_
 have z:iT f ρ=.ok (.rt d):=by unfold iT;rw [hd];rfl
 rw [z] at p
 exact p v F1 H1 (rf.st.trans s1) (q.back r.st.hh)
theorem rs_for {fs:af->M (List Dat)} {pt:Pat} (n:∀i∈pt.names,i∉O) (t:tS K W ro F0 H0 OL O O (pD O fs pt g) D σ H):tFor (iD K W fs) (gP K pt) (tS K W ro F0 H0 O O O g) D σ H:=by
 obtain ⟨FB,F,ρ,r,p⟩:=t
 refine ⟨F,erase O ρ,r.nu,r.st.fh,?_⟩
 cases e:fs (erase O ρ) with
 |error x=>exact p.qM r.st (by unfold pD;rw [e];rfl)
 |ok ds=>
  have z:pD O fs pt g ρ=jF pt g ds ρ:=by unfold pD;rw [e];rfl
  rw [z] at p
  intro J F1 H1 s1 it
  refine ⟨fun i m σ H=>∃F ρ,Rep K F0 H0 F1 O F H σ ρ/\i<=ds.length/\m=ds.length-i/\kD K W ro F0 H0 FB OL O D (jF pt g (ds.drop i) ρ),⟨ds.length,F1,ρ,?_,Nat.zero_le _,by omega,by rw [List.drop_zero];exact p⟩,?_⟩
  ·have r1:=r.step s1
   exact ⟨r1.st,b0.refl _,r1.len,r1.fz,r1.ow,r1.ap⟩
  ·rintro i m σ2 H2 ⟨F2,ρ2,r2,hi,rfl,p2⟩
   by_cases hlt:i<ds.length
   ·have ed:ds.drop i=ds[i]::ds.drop (i+1):=List.drop_eq_getElem_cons hlt
    rw [ed] at p2
    refine .inr ⟨it.go i F2 H2 r2.fb r2.st.fh hlt,fun σ' H'=>(∃F ρ,Rep K F0 H0 F1 O F H' σ' ρ/\kD K W ro F0 H0 FB OL O D (jF pt g (ds.drop (i+1)) ρ)),fun σ' H' ⟨F,ρ,r,p⟩=>⟨ds.length-(i+1),by omega,F,ρ,r,hlt,rfl,p⟩,fun x H' y=>?_⟩
    obtain ⟨F3,s3,q3⟩:=it.yl i F2 H2 x H' ds[i] r2.fb r2.st.fh (by simp [hlt]) y
    have ef:jF pt g (ds[i]::ds.drop (i+1)) ρ2=(ji pt ds[i] ρ2).bind fun ρ1=>(g ρ1).bind fun fl=>match fl with
     |.nx ρ2=>jF pt g (ds.drop (i+1)) ρ2
     |.ct ρ2=>jF pt g (ds.drop (i+1)) ρ2
     |.bk ρ2=>.ok (.nx ρ2)
     |.rt d=>.ok (.rt d):=by rw [jF]
    rw [ef] at p2
    cases eb:ji pt ds[i] ρ2 with
    |error x=>
     have:=v5 eb
     subst this
     exact p2.stuck (by rw [eb];rfl)
    |ok ρ3=>
     rw [eb] at p2
     have p2:kD K W ro F0 H0 FB OL O D ((g ρ3).bind fun fl=>match fl with
      |.nx ρ2=>jF pt g (ds.drop (i+1)) ρ2
      |.ct ρ2=>jF pt g (ds.drop (i+1)) ρ2
      |.bk ρ2=>.ok (.nx ρ2)
      |.rt d=>.ok (.rt d)):=p2
     refine gP_rep (r2.step s3) n q3 eb fun σ4 r4=>⟨F1,F3,ρ3,r4,?_⟩
     have fb1:b0 FB F1:=(r.step s1).fb
     cases eg:g ρ3 with
     |error x=>exact p2.err (by rw [eg];rfl)
     |ok fl=>
      rw [eg] at p2
      cases fl with
      |nx ρ5=>exact fun σ' F' H' r'=>⟨F',ρ5,r',p2⟩
      |ct ρ5=>exact fun σ' F' H' r'=>⟨F',ρ5,r',p2⟩
      |bk ρ5=>exact fun σ' F' H' r'=>p2 σ' F' H' (r'.base fb1)
      |rt d=>exact p2
   ·have:i=ds.length:=by omega
    subst this
    rw [List.drop_length] at p2
    exact .inl ⟨it.st F2 H2 r2.fb r2.st.fh,p2 σ2 F2 H2 (r2.base (r.step s1).fb)⟩
end
noncomputable def stk {α:Type}:M α:=.error .stuck
noncomputable def jO:Dat->Dat->M Dat
 |.int i,.int j=>.ok (.int (i+j))
 |.str x,.str y=>if x.length+y.length<=sizeLine then .ok (.str (x++y)) else stk
 |.lst xs,.lst ys=>if xs.length+ys.length<=sizeLine then .ok (.lst (xs++ys)) else stk
 |.tup xs,.tup ys=>if xs.length+ys.length<=sizeLine then .ok (.tup (xs++ys)) else stk
 |_,_=>stk
noncomputable def zB:Dat->Dat->M Dat
 |.int i,.int j=>.ok (.int (i-j))
 |_,_=>stk
noncomputable def eG (i:Int):Bool:=decide (-(2^64)<i)&&decide (i<2^64)
noncomputable def pM:Dat->Dat->M Dat
 |.int i,.int j=>if (eG i||eG j)=true then .ok (.int (i*j)) else stk
 |_,_=>stk
noncomputable def jG:Dat->Dat->M Dat
 |.int i,.int j=>if (decide (0<j)&&decide (j<18446744073709551616))=true then .ok (.int (i/j)) else stk
 |_,_=>stk
noncomputable def j9:Dat->Dat->M Dat
 |.int i,.int j=>if 0<j then .ok (.int (i%j)) else stk
 |_,_=>stk
noncomputable def powD:Dat->Dat->M Dat
 |.int i,.int j=>if (decide (0<=j)&&decide (j<=1000000)&&decide (i.natAbs<2^64))=true then .ok (.int (i^j.toNat)) else stk
 |_,_=>stk
noncomputable def negD:Dat->M Dat
 |.int i=>.ok (.int (-i))
 |_=>stk
noncomputable def ltD:Dat->Dat->M Dat
 |.int i,.int j=>.ok (.bl (decide (i<j)))
 |_,_=>stk
noncomputable def leD:Dat->Dat->M Dat
 |.int i,.int j=>.ok (.bl (decide (i<=j)))
 |_,_=>stk
noncomputable def gtD:Dat->Dat->M Dat
 |.int i,.int j=>.ok (.bl (decide (j<i)))
 |_,_=>stk
noncomputable def b2z (b:Bool):Int:=if b then 1 else 0
mutual
noncomputable def eqD:Dat->Dat->Bool
 |.non,.non=>true
 |.bl a,.bl b=>a==b
 |.bl a,.int b=>b2z a==b
 |.int a,.bl b=>a==b2z b
 |.int a,.int b=>a==b
 |.str a,.str b=>a==b
 |.tup xs,.tup ys=>zb xs ys
 |.lst xs,.lst ys=>zb xs ys
 |_,_=>false
noncomputable def zb:List Dat->List Dat->Bool
 |[],[]=>true
 |d::ds,e::es=>eqD d e&&zb ds es
 |_,_=>false
end
mutual
noncomputable def okE:Dat->Nat->Bool
 |.tup ds,n=>(match n with
  |0=>false
  |n+1=>jQ ds n)
 |.lst ds,n=>(match n with
  |0=>false
  |n+1=>jQ ds n)
 |.ins _ _,_=>false
 |.non,_=>true
 |.bl _,_=>true
 |.int _,_=>true
 |.str _,_=>true
noncomputable def jQ:List Dat->Nat->Bool
 |[],_=>true
 |d::ds,n=>okE d n&&jQ ds n
end
noncomputable def eqM (a b:Dat):M Dat:=if (okE a 40&&okE b 40)=true then .ok (.bl (eqD a b)) else stk
noncomputable def neM (a b:Dat):M Dat:=if (okE a 40&&okE b 40)=true then .ok (.bl (!eqD a b)) else stk
noncomputable def Ad (a b:Dat):M Dat:=(uF b).bind fun ds=>if (okE a 40&&jQ ds 40)=true then .ok (.bl (!ds.any fun d=>eqD d a)) else stk
noncomputable def isND:Dat->Dat->M Dat
 |.non,.non=>.ok (.bl true)
 |_,.non=>.ok (.bl false)
 |_,_=>stk
noncomputable def Ac:Dat->Dat->M Dat
 |.non,.non=>.ok (.bl false)
 |_,.non=>.ok (.bl true)
 |_,_=>stk
noncomputable def oP (ds:List Dat) (i:Int):M Dat:=match atI ds i with
 |some d=>.ok d
 |none=>stk
noncomputable def ixD:Dat->Dat->M Dat
 |.lst ds,.int i=>oP ds i
 |.tup ds,.int i=>oP ds i
 |_,_=>stk
noncomputable def wa:List Dat->M Dat
 |[.lst ds]=>.ok (.int ds.length)
 |[.tup ds]=>.ok (.int ds.length)
 |_=>stk
noncomputable def iJ:List Dat->M (List Bool)
 |[]=>.ok []
 |d::ds=>(asB d).bind fun b=>(iJ ds).bind fun r=>.ok (b::r)
noncomputable def bS:List Dat->M (List Int)
 |[]=>.ok []
 |d::ds=>(asI d).bind fun b=>(bS ds).bind fun r=>.ok (b::r)
noncomputable def allD:List Dat->M Dat
 |[.lst ds]=>(iJ ds).bind fun bs=>.ok (.bl (bs.all id))
 |_=>stk
noncomputable def Am:List Dat->M Dat
 |[.lst ds]=>.ok (.lst ds)
 |[.tup ds]=>.ok (.lst ds)
 |_=>stk
noncomputable def kK (i j:Int):Int:=if j>i then j else i
noncomputable def mC (i j:Int):Int:=if j<i then j else i
noncomputable def maxL:List Int->M Dat
 |[]=>stk
 |i::is=>.ok (.int (is.foldl kK i))
noncomputable def minL:List Int->M Dat
 |[]=>stk
 |i::is=>.ok (.int (is.foldl mC i))
noncomputable def maxD:List Dat->M Dat
 |[.int i,.int j]=>.ok (.int (kK i j))
 |[.lst ds]=>(bS ds).bind maxL
 |_=>stk
noncomputable def minD:List Dat->M Dat
 |[.int i,.int j]=>.ok (.int (mC i j))
 |[.lst ds]=>(bS ds).bind minL
 |_=>stk
noncomputable def pd:Dat->M Dat
 |.int _=>.ok (.bl true)
 |.bl _=>.ok (.bl true)
 |.ins _ _=>stk
 |_=>.ok (.bl false)
noncomputable def nE:Dat->M Dat
 |.bl _=>.ok (.bl true)
 |.ins _ _=>stk
 |_=>.ok (.bl false)
noncomputable def nC:Dat->M Dat
 |.lst _=>.ok (.bl true)
 |.ins _ _=>stk
 |_=>.ok (.bl false)
noncomputable def rn:Dat->M Dat
 |.tup _=>.ok (.bl true)
 |.ins _ _=>stk
 |_=>.ok (.bl false)
noncomputable def fLR (fr:af->M (List Dat)):af->M Dat:=fun ρ=>(fr ρ).bind il
noncomputable def iG:Nat->List Dat->List Dat
 |_,[]=>[]
 |k,d::ds=>.tup [.int k,d]::iG (k+1) ds
noncomputable def xC:Dat->M (List Dat)
 |.lst ds=>.ok ds
 |_=>.error .stuck
noncomputable def sV (fa:af->M Dat):af->M (List Dat):=fun ρ=>(fa ρ).bind fun d=>(xC d).bind fun ds=>.ok (iG 0 ds)
noncomputable def cJ (nN n:Nat) (g:af->M Flo) (ds:List Dat):M Dat:=if ds.length=n then (g (ds.map some++List.replicate (nN-ds.length) none)).bind fun fl=>match fl with
 |.nx _=>.ok .non
 |.rt d=>.ok d
 |_=>stk else stk
noncomputable def zX (ds:List Dat) (k:Dat):M (Dat×List Dat):=(asI k).bind fun k=>if sizeLine<ds.length then stk else match ixN ds.length k with
 |some j=>match ds[j]? with
  |some d=>.ok (d,ds.eraseIdx j)
  |none=>stk
 |none=>stk
noncomputable def pE (i j:Nat) (fk:af->M Dat):af->M Flo:=fun ρ=>(iN ρ i).bind fun es=>(iN ρ j).bind fun ds=>(fk ρ).bind fun k=>(zX ds k).bind fun p=>if es.length<sizeLine then put (ρ.set j (some (.lst p.2))) i (es++[p.1]) else stk
@[simp] theorem aA {α β:Type} (a:α) (f:α->M β):Except.bind (Except.ok a:M α) f=f a:=id rfl
@[simp] theorem ku {α β:Type} (e:Err) (f:α->M β):Except.bind (Except.error e:M α) f=.error e:=id rfl
@[simp] theorem g9:∀is:List Int,bS (is.map Dat.int)=.ok is
 |[]=>rfl
 |i::is=>by simp [bS,asI,g9 is]
@[simp] theorem yT:∀is:List Bool,iJ (is.map Dat.bl)=.ok is
 |[]=>rfl
 |i::is=>by simp [iJ,asB,yT is]
theorem iV {ds:List Dat} {k:Nat} (h:k<ds.length):oP ds (k:Int)=.ok ds[k]:=by
 unfold oP atI ixN
 rw [if_pos (by omega),if_pos (by omega)]
 simp [h]
theorem getI_int {is:List Int} {k:Int} (h0:0<=k) (h:k<is.length):oP (is.map Dat.int) k=.ok (.int (is[k.toNat]'(by omega))):=by
 have hj:k.toNat<(is.map Dat.int).length:=by simp;omega
 have e:k=(k.toNat:Int):=by omega
 have:=iV hj
 rw [<- e] at this
 rw [this]
 simp
theorem fU {p:Pat} {g:af->M Flo} (P:Nat->af->Prop):∀(ds:List Dat) (k:Nat) (ρ:af),P k ρ ->
  (∀(i:Nat) (d:Dat) (ρ:af),ds[i]? =some d->P (k+i) ρ->∃ρ1,ji p d ρ=.ok ρ1/\∃ρ2,(g ρ1=.ok (.nx ρ2)\/g ρ1=.ok (.ct ρ2))/\P (k+i+1) ρ2)->∃ρ',jF p g ds ρ=.ok (.nx ρ')/\P (k+ds.length) ρ'
 |[],k,ρ,h,_=>⟨ρ,rfl,h⟩
 |d::ds,k,ρ,h,st=>by
  obtain ⟨ρ1,e1,ρ2,e2,h2⟩:=st 0 d ρ rfl h
  obtain ⟨ρ',e3,h3⟩:=fU P ds (k+1) ρ2 h2 fun i d' ρ he hp=>by
   have:=st (i+1) d' ρ (by simpa using he) (by rw [show k+(i+1)=k+1+i by omega];exact hp)
   rw [show k+(i+1)+1=k+1+i+1 by omega] at this
   exact this
  refine ⟨ρ',?_,by rw [show k+(d::ds).length=k+1+ds.length by simp;omega];exact h3⟩
  rw [jF,e1]
  rcases e2 with e2|e2
  ·simp only [aA,e2];exact e3
  ·simp only [aA,e2];exact e3
theorem gy {p:Pat} {fe:af->M Dat} {ρ0:af} (f:Dat->Dat):∀(ds:List Dat),(∀d∈ds,∃ρ,ji p d ρ0=.ok ρ/\fe ρ=.ok (f d))->bE p lX fe ρ0 ds=.ok (ds.map f)
 |[],_=>rfl
 |d::ds,h=>by
  obtain ⟨ρ,e1,e2⟩:=h d (by simp)
  rw [bE,e1]
  simp only [aA,lX,e2,gy f ds fun x hx=>h x (by simp [hx])]
  simp
@[simp] theorem zG (i:Int):eG i=(decide (-(2^64)<i)&&decide (i<2^64)):=id rfl
@[simp] theorem small_def2 (i:Int):j8 i=(decide (-(2^62)<=i)&&decide (i<2^62)):=id rfl
@[simp] theorem eqDs_nilR (ds:List Dat):zb ds []=ds.isEmpty:=by cases ds<;>rfl
section
variable {ρ:af} {fa fb fc:af->M Dat} {fr:af->M (List Dat)} {ft fu:af->M Bool} {g h:af->M Flo}
@[simp] theorem e_var0 (d:Dat) (r:af):ae 0 (some d::r)=.ok d:=id rfl
@[simp] theorem e_varS (i:Nat) (o:Option Dat) (r:af):ae (i+1) (o::r)=ae i r:=by simp [ae]
@[simp] theorem e_c (d:Dat):fC d ρ=.ok d:=id rfl
@[simp] theorem e_1 (k:Dat->M Dat):f1 k fa ρ=(fa ρ).bind k:=id rfl
@[simp] theorem e_2 (k:Dat->Dat->M Dat):f2 k fa fb ρ=(fa ρ).bind fun a=>(fb ρ).bind fun b=>k a b:=id rfl
@[simp] theorem e_nil:aZ ρ=.ok []:=id rfl
@[simp] theorem e_cons:aa fa fr ρ=(fa ρ).bind fun a=>(fr ρ).bind fun r=>.ok (a::r):=id rfl
@[simp] theorem e_L (k:List Dat->M Dat):fL k fr ρ=(fr ρ).bind k:=id rfl
@[simp] theorem e_ite:fIte ft fa fb ρ=(ft ρ).bind fun b=>if b=true then fa ρ else fb ρ:=id rfl
@[simp] theorem e_and:wo ft fu ρ=(ft ρ).bind fun b=>if b=true then fu ρ else .ok false:=id rfl
@[simp] theorem e_or:fOr ft fu ρ=(ft ρ).bind fun b=>if b=true then .ok true else fu ρ:=id rfl
@[simp] theorem e_not:xJ ft ρ=(ft ρ).bind fun b=>.ok (!b):=id rfl
@[simp] theorem e_B:fB fa ρ=(fa ρ).bind asB:=id rfl
@[simp] theorem e_andV:uM fa fb ρ=(fa ρ).bind fun a=>(asB a).bind fun b=>if b=true then fb ρ else .ok (.bl false):=id rfl
@[simp] theorem e_tru:uL fa ρ=(fa ρ).bind truD:=id rfl
@[simp] theorem e_chain (k k':Dat->Dat->M Dat):lA k k' fa fb fc ρ=(fa ρ).bind fun a=>(fb ρ).bind fun b=>(k a b).bind fun x=>(asB x).bind fun z=>if z=true then (fc ρ).bind fun c=>k' b c else .ok (.bl false):=id rfl
@[simp] theorem e_yes:lX ρ=.ok true:=id rfl
@[simp] theorem e_it:fIt fa ρ=(fa ρ).bind uF:=id rfl
@[simp] theorem e_rng (k:List Dat->M (List Dat)):qp k fr ρ=(fr ρ).bind k:=id rfl
@[simp] theorem e_LR:fLR fr ρ=(fr ρ).bind il:=id rfl
@[simp] theorem e_enum:sV fa ρ=(fa ρ).bind fun d=>(xC d).bind fun ds=>.ok (iG 0 ds):=id rfl
@[simp] theorem e_comp (fi:af->M (List Dat)) (ix:List (Option Nat)) (p:Pat):gS fi ix p ft fa ρ=(fi ρ).bind fun ds=>if ds.length<=sizeLine then (bE p ft fa (mr ix ρ) ds).bind fun r=>.ok (.lst r) else .error .stuck:=id rfl
@[simp] theorem e_asB (b:Bool):asB (.bl b)=.ok b:=id rfl
@[simp] theorem e_asI (b:Int):asI (.int b)=.ok b:=id rfl
@[simp] theorem e_itemsL (ds:List Dat):uF (.lst ds)=.ok ds:=id rfl
@[simp] theorem e_itL (ds:List Dat):xC (.lst ds)=.ok ds:=id rfl
@[simp] theorem e_truB (b:Bool):truD (.bl b)=.ok b:=id rfl
@[simp] theorem e_truL (ds:List Dat):truD (.lst ds)=.ok (!ds.isEmpty):=id rfl
@[simp] theorem e_addI (i j:Int):jO (.int i) (.int j)=.ok (.int (i+j)):=id rfl
@[simp] theorem e_subI (i j:Int):zB (.int i) (.int j)=.ok (.int (i-j)):=id rfl
@[simp] theorem e_negI (i:Int):negD (.int i)=.ok (.int (-i)):=id rfl
@[simp] theorem e_ltI (i j:Int):ltD (.int i) (.int j)=.ok (.bl (decide (i<j))):=id rfl
@[simp] theorem e_leI (i j:Int):leD (.int i) (.int j)=.ok (.bl (decide (i<=j))):=id rfl
@[simp] theorem e_gtI (i j:Int):gtD (.int i) (.int j)=.ok (.bl (decide (j<i))):=id rfl
@[simp] theorem e_ixL (ds:List Dat) (i:Int):ixD (.lst ds) (.int i)=oP ds i:=id rfl
@[simp] theorem e_ixT (ds:List Dat) (i:Int):ixD (.tup ds) (.int i)=oP ds i:=id rfl
@[simp] theorem e_lenL (ds:List Dat):wa [.lst ds]=.ok (.int ds.length):=id rfl
@[simp] theorem e_all (ds:List Dat):allD [.lst ds]=(iJ ds).bind fun bs=>.ok (.bl (bs.all id)):=id rfl
@[simp] theorem e_listL (ds:List Dat):Am [.lst ds]=.ok (.lst ds):=id rfl
@[simp] theorem e_max2 (i j:Int):maxD [.int i,.int j]=.ok (.int (kK i j)):=id rfl
@[simp] theorem e_min2 (i j:Int):minD [.int i,.int j]=.ok (.int (mC i j)):=id rfl
@[simp] theorem AJ (ds:List Dat):maxD [.lst ds]=(bS ds).bind maxL:=id rfl
@[simp] theorem AI (ds:List Dat):minD [.lst ds]=(bS ds).bind minL:=id rfl
@[simp] theorem e_isiBI (i:Int):nE (.int i)=.ok (.bl false):=id rfl
@[simp] theorem e_isiII (i:Int):pd (.int i)=.ok (.bl true):=id rfl
@[simp] theorem e_isiLL (ds:List Dat):nC (.lst ds)=.ok (.bl true):=id rfl
@[simp] theorem e_next:eI ρ=.ok (.nx ρ):=id rfl
@[simp] theorem e_seq:bO g h ρ=(g ρ).bind fun fl=>match fl with
 |.nx ρ'=>h ρ'
 |fl=>.ok fl:=id rfl
@[simp] theorem e_if:sIf ft g h ρ=(ft ρ).bind fun b=>if b=true then g ρ else h ρ:=id rfl
@[simp] theorem e_setB (O:List Nat) (i:Nat):aQ O i fa ρ=(fa (erase O ρ)).bind fun d=>.ok (.nx (ρ.set i (some d))):=id rfl
@[simp] theorem e_setA (own:Bool) (i:Nat):vL own i fa ρ=(fa ρ).bind fun d=>if oA own d=true then .ok (.nx (ρ.set i (some d))) else .error .stuck:=id rfl
@[simp] theorem e_ret:iT fa ρ=(fa ρ).bind fun d=>.ok (.rt d):=id rfl
@[simp] theorem e_for (O:List Nat) (fi:af->M (List Dat)) (p:Pat):pD O fi p g ρ=(fi (erase O ρ)).bind fun ds=>jF p g ds ρ:=id rfl
@[simp] theorem e_appB (O:List Nat) (i:Nat):mJ O i fa ρ=(iN ρ i).bind fun ds=>(fa (erase O ρ)).bind fun d=>if ds.length<sizeLine then put ρ i (ds++[d]) else .error .stuck:=id rfl
@[simp] theorem e_setI (i:Nat):vK i fb fa ρ=(fa ρ).bind fun d=>(iN ρ i).bind fun ds=>(fb ρ).bind fun k=>(asI k).bind fun k=>if mv d=true then (match ixN ds.length k with
 |some j=>put ρ i (ds.set j d)
 |none=>.error .stuck) else .error .stuck:=id rfl
@[simp] theorem e_appPop (i j:Nat):pE i j fa ρ=(iN ρ i).bind fun es=>(iN ρ j).bind fun ds=>(fa ρ).bind fun k=>(zX ds k).bind fun p=>if es.length<sizeLine then put (ρ.set j (some (.lst p.2))) i (es++[p.1]) else stk:=id rfl
@[simp] theorem e_put (i:Nat) (ds:List Dat):put ρ i ds=.ok (.nx (ρ.set i (some (.lst ds)))):=id rfl
@[simp] theorem e_lst0 (ds:List Dat) (r:af):iN (some (.lst ds)::r) 0=.ok ds:=id rfl
@[simp] theorem e_lstS (i:Nat) (o:Option Dat) (r:af):iN (o::r) (i+1)=iN r i:=by simp [iN]
@[simp] theorem e_er0:erase [] ρ=ρ:=id rfl
@[simp] theorem e_erS (i:Nat) (O:List Nat):erase (i::O) ρ=erase O (ρ.set i none):=id rfl
@[simp] theorem e_bnm (i:Nat) (d:Dat):ji (.nm i) d ρ=.ok (ρ.set i (some d)):=id rfl
@[simp] theorem e_btp (is:List Nat) (ds:List Dat):ji (.tp is) (.tup ds) ρ=if ds.length=is.length then .ok (kW is ds ρ) else .error .stuck:=id rfl
@[simp] theorem e_sa0 (ds:List Dat):kW [] ds ρ=ρ:=by cases ds<;>rfl
@[simp] theorem e_saS (i:Nat) (is:List Nat) (d:Dat) (ds:List Dat):kW (i::is) (d::ds) ρ=kW is ds (ρ.set i (some d)):=id rfl
@[simp] theorem e_in0:mr [] ρ=[]:=id rfl
@[simp] theorem e_inN (ix:List (Option Nat)):mr (none::ix) ρ=none::mr ix ρ:=id rfl
@[simp] theorem e_inS (j:Nat) (ix:List (Option Nat)):mr (some j::ix) ρ=(ρ[j]?).join::mr ix ρ:=id rfl
@[simp] theorem e_tup (ds:List Dat):k8 ds=if ds.length<=sizeLine then .ok (.tup ds) else .error .stuck:=id rfl
@[simp] theorem e_lst (ds:List Dat):il ds=if ds.length<=sizeLine then .ok (.lst ds) else .error .stuck:=id rfl
@[simp] theorem e_line:sizeLine=16777216:=sizeLine_eq
@[simp] theorem e_run (a b:Nat) (ds:List Dat):cJ a b g ds=if ds.length=b then (g (ds.map some++List.replicate (a-ds.length) none)).bind fun fl=>match fl with
 |.nx _=>.ok .non
 |.rt d=>.ok d
 |_=>stk else stk:=id rfl
@[simp] theorem e_rng1 {j:Int} (h:j8 j=true):oX [.int j]=.ok (br 0 j.toNat):=by show (if j8 j=true then _ else _)=_;rw [if_pos h]
@[simp] theorem oB {i j:Int} (h:0<j):j9 (.int i) (.int j)=.ok (.int (i%j)):=by simp [j9,h]
@[simp] theorem rF {i j:Int} (h:0<j) (h2:j<18446744073709551616):jG (.int i) (.int j)=.ok (.int (i/j)):=by simp [jG,h,h2]
@[simp] theorem e_mulR {i j:Int} (h:eG j=true):pM (.int i) (.int j)=.ok (.int (i*j)):=by show (if (eG i||eG j)=true then _ else _)=_;rw [h,Bool.or_true,if_pos rfl]
@[simp] theorem e_mulL {i j:Int} (h:eG i=true):pM (.int i) (.int j)=.ok (.int (i*j)):=by show (if (eG i||eG j)=true then _ else _)=_;rw [h,Bool.true_or,if_pos rfl]
end
end L2
namespace L2
open PySem PySem.Spec PyProof.Rows
section
variable {X:Cx} {K:PySem.W.Frag} {W:gC} {own ro:Bool} {e a b c:Expr} {es rest:List Expr} {x:Str} {pos p:Pos} {f fa fb fc:af->M Dat} {fr:af->M (List Dat)} {ft fu:af->M Bool}
theorem PE.imp {t t':TE} (h:PE X e t) (q:∀σ H Q,t' σ H Q->t σ H Q):PE X e t':=fun pins s σ H Q I z=>h pins s σ H Q I (q σ H Q z)
theorem PT.imp {t t':TT} (h:PT X e t) (q:∀σ H Q,t' σ H Q->t σ H Q):PT X e t':=fun pins s σ H Q I z=>h pins s σ H Q I (q σ H Q z)
theorem PW.imp {t t':TT} (h:PW X e t) (q:∀σ H Q,t' σ H Q->t σ H Q):PW X e t':=fun wh pins s σ H Q I z=>h wh pins s σ H Q I (q σ H Q z)
theorem PA.imp {t t':TA} (h:PA X es t) (q:∀σ H Q,t' σ H Q->t σ H Q):PA X es t':=fun ps pins s σ H Q I z=>h ps pins s σ H Q I (q σ H Q z)
theorem PI.imp {tg:Expr} {t t':TI} (h:PI X tg e t) (q:∀σ H Q,t' σ H Q->t σ H Q):PI X tg e t':=fun pins s σ H Q I z=>h pins s σ H Q I (q σ H Q z)
theorem PS.imp {st:Stmt} {t t':TS} (h:PS X st t) (q:∀D σ H,t' D σ H->t D σ H):PS X st t':=fun pins s σ H D I z=>h pins s σ H D I (q D σ H z)
theorem PSs.imp {st:List Stmt} {t t':TS} (h:PSs X st t) (q:∀D σ H,t' D σ H->t D σ H):PSs X st t':=fun pins s σ H D I z=>h pins s σ H D I (q D σ H z)
noncomputable abbrev DE (K:PySem.W.Frag) (W:gC) (own:Bool) (X:Cx) (e:Expr) (f:af->M Dat):Prop:=PE X e (tD K W own f)
noncomputable abbrev DT (K:PySem.W.Frag) (W:gC) (X:Cx) (e:Expr) (f:af->M Bool):Prop:=PT X e (tDT K W f)
noncomputable abbrev DW (K:PySem.W.Frag) (W:gC) (X:Cx) (e:Expr) (f:af->M Bool):Prop:=PW X e (tDT K W f)
noncomputable abbrev DA (K:PySem.W.Frag) (W:gC) (X:Cx) (es:List Expr) (f:af->M (List Dat)):Prop:=PA X es (tDA K W f)
noncomputable abbrev DI (K:PySem.W.Frag) (W:gC) (X:Cx) (tg e:Expr) (f:af->M (List Dat)):Prop:=PI X tg e (iD K W f)
noncomputable abbrev DG (K:PySem.W.Frag) (X:Cx) (tg:Expr) (p:Pat):Prop:=PG X tg (gP K p)
noncomputable abbrev DS (K:PySem.W.Frag) (W:gC) (ro:Bool) (X:Cx) (OL O O':List Nat) (st:Stmt) (g:af->M Flo):Prop:=∀F0 H0:Hp,PS X st (tS K W ro F0 H0 OL O O' g)
noncomputable abbrev DSs (K:PySem.W.Frag) (W:gC) (ro:Bool) (X:Cx) (OL O O':List Nat) (st:List Stmt) (g:af->M Flo):Prop:=∀F0 H0:Hp,PSs X st (tS K W ro F0 H0 OL O O' g)
noncomputable abbrev Op2 (K:PySem.W.Frag) (W:gC) (own:Bool) (X:Cx) (o:Value->Value->Sem Value) (g:Dat->Dat->M Dat):Prop:=OpR X o (rD2 K W own g)
noncomputable abbrev vm (K:PySem.W.Frag) (W:gC) (own:Bool) (X:Cx) (v:Value) (g:List Dat->M Dat):Prop:=dQ X v (rDL K W own g)
theorem ai (i:Nat) (hN:X.N[i]? =some x:=by rfl) (hv:Vis X.env.scope x:=by first|exact Or.inl rfl|exact Or.inr (Or.inl rfl)|exact Or.inr (Or.inr rfl)) (hd:(x==("__debug__":Str))=false:=by decide)
  (hcd:(x==("__classdict__":Str))=false:=by decide):DE K W false X (.Name x pos) (ae i):=(pv i hN hv hd hcd).imp fun _ _ _=>rd_var
theorem a9 {i:Int} {j}:DE K W false X (.Constant (.int i) j pos) (fC (.int i)):=pe_int.imp fun _ _ _=>rd_c fun _=>rfl
theorem qN {k:Bool} {j}:DE K W false X (.Constant (.bool k) j pos) (fC (.bl k)):=pe_bl.imp fun _ _ _=>rd_c fun _=>rfl
theorem xP {j}:DE K W false X (.Constant .none j pos) (fC .non):=pe_non.imp fun _ _ _=>rd_c fun _=>rfl
theorem AO {n:Int} (hm:∃t,X.mg x=some (.int n t)) (hg:Gl X x:=by rfl) (hd:(x==("__debug__":Str))=false:=by decide):DE K W false X (.Name x pos) (fC (.int n)):=(pe_gint hg hm hd).imp fun _ _ _=>rd_c fun _=>rfl
theorem aF (h:DE K W true X e f):DE K W false X e f:=PE.imp h fun _ _ _ ⟨F,ρ,r,s,p⟩=>⟨F,ρ,r,s,p.frz⟩
theorem av {op:Operator} {g:Dat->Dat->M Dat} (ho:Op2 K W own X (binaryOp op) g) (ha:DE K W false X a fa) (hb:DE K W false X b fb):DE K W own X (.BinOp a op b pos) (f2 g fa fb):=(pe_op ho ha hb).imp fun _ _ _=>rd_2
theorem de_un {op:UnaryOp} {g:Dat->M Dat} (ho:UnR X (unaryOp op) (rD1 K W own g)) (ha:DE K W false X a fa):DE K W own X (.UnaryOp op a pos) (f1 g fa):=(pe_un ho ha).imp fun _ _ _=>rd_1
theorem AR {op:CmpOp} {g:Dat->Dat->M Dat} (ho:Op2 K W false X (compareOp op) g) (ha:DE K W false X a fa) (hb:DE K W false X b fb) (hm:behindInMarks op b=false:=by first|exact Ag _|with_unfolding_all rfl):DE K W false X (.Compare a [op] [b] pos) (f2 g fa fb):=
 (pe_cmpR ho ha hb hm).imp fun _ _ _=>rd_2
theorem ck {op:CmpOp} {g:Dat->Dat->M Dat} (ho:Op2 K W false X (compareOp op) g) (ha:DE K W false X a fa) (hb:DE K W false X b fb) (hm:behindInMarks op b=false:=by first|exact Ag _|with_unfolding_all rfl):DT K W X (.Compare a [op] [b] pos) (fB (f2 g fa fb)):=
 (zR ho ha hb hm).imp fun σ H Q h=>by
  have q:=rd_B h
  exact rd_2 (own:=false) q
theorem de_chain {op op':CmpOp} {g g':Dat->Dat->M Dat} (ho:Op2 K W false X (compareOp op) g) (ho':Op2 K W false X (compareOp op') g') (ha:DE K W false X a fa) (hb:DE K W false X b fb) (hc:DE K W false X c fc)
  (hm:lastMarks [op,op'] [b,c]=false:=by with_unfolding_all rfl):DE K W false X (.Compare a [op,op'] [b,c] pos) (lA g g' fa fb fc):=(pe_chain ho ho' ha hb hc hm).imp fun _ _ _=>xq
theorem xM {op op':CmpOp} {g g':Dat->Dat->M Dat} (ho:Op2 K W false X (compareOp op) g) (ho':Op2 K W false X (compareOp op') g') (ha:DE K W false X a fa) (hb:DE K W false X b fb) (hc:DE K W false X c fc)
  (hm:lastMarks [op,op'] [b,c]=false:=by with_unfolding_all rfl):DT K W X (.Compare a [op,op'] [b,c] pos) (fB (lA g g' fa fb fc)):=(pt_chain ho ho' ha hb hc hm).imp fun σ H Q h=>by
  have q:=rd_B h
  exact xq q
theorem mD (ha:DE K W false X a fa) (hK:X.K=K:=by rfl) (he:∀whole,isTrue a X.env whole=(do let v <- whole;standAt a.pos;holding [v] (truthy v)):=by intro _;rfl):DT K W X a (uL fa):=by
 subst hK
 exact (pt_truth ha he).imp fun _ _ _=>rd_tru
theorem pZ (ha:DT K W X a ft):DT K W X (.UnaryOp .Not a pos) (xJ ft):=(pt_not ha).imp fun _ _ _=>rd_not
theorem pY (ha:DT K W X a ft):DW K W X (.BoolOp .And [a] pos) ft:=pw_and1 ha
theorem xK (ha:DT K W X a ft):DW K W X (.BoolOp .Or [a] pos) ft:=pw_or1 ha
theorem rG (ha:DT K W X a ft) (hb:DW K W X (.BoolOp .And (b::rest) pos) fu):DW K W X (.BoolOp .And (a::b::rest) pos) (wo ft fu):=(pw_and ha hb).imp fun _ _ _=>rd_and
theorem dw_or (ha:DT K W X a ft) (hb:DW K W X (.BoolOp .Or (b::rest) pos) fu):DW K W X (.BoolOp .Or (a::b::rest) pos) (fOr ft fu):=(pw_or ha hb).imp fun _ _ _=>rd_or
theorem de_one {op} (h:DE K W false X a f):DE K W false X (.BoolOp op [a] pos) f:=pe_one h
theorem de_and (ha:DE K W false X a fa) (hb:DE K W false X (.BoolOp .And (b::rest) pos) fb):DE K W false X (.BoolOp .And (a::b::rest) pos) (uM fa fb):=(pe_and ha hb).imp fun _ _ _=>rd_andV
theorem de_ite (hc:DT K W X c ft) (ha:DE K W own X a fa) (hb:DE K W own X b fb):DE K W own X (.IfExp c a b pos) (fIte ft fa fb):=(pe_ifExp hc ha hb).imp fun _ _ _=>rd_ite
theorem ak:DA K W X [] aZ:=dE.imp fun _ _ _=>rd_nil
theorem a8 (ha:DE K W false X e fa) (hr:DA K W X es fr) (hs:starEach (e::es) X.env=(false,eval e X.env)::starEach es X.env:=by rfl):DA K W X (e::es) (aa fa fr):=(b9 ha hr hs).imp fun _ _ _=>rd_cons
theorem mE {x1} (h:DA K W X es fr):DE K W own X (.Tuple es x1 pos) (fL k8 fr):=(xt h).imp fun _ _ _=>rd_tup
theorem kL (h:DA K W X es fr):DE K W true X (.List es pos) (fL il fr):=(pe_lst h).imp fun _ _ _=>rd_lst
theorem b8 {id:String} {g:List Dat->M Dat} (hc:vm K W own X (.builtin id) g) (hm:X.mg x=none) (hv:bootBuiltins x=some (.builtin id)) (ha:DA K W X (e::es) fr) (hg:Gl X x:=by rfl) (hn:x≠"__name__":=by decide) (hdb:(x==("__debug__":Str))=false:=by decide)
  (hst:starEach (e::es) X.env=(false,eval e X.env)::starEach es X.env:=by rfl) (hpl:(backTo pos (starEach es X.env)).any (·.1)=false:=by rfl):DE K W own X (.Call (.Name x p) (e::es) [] pos) (fL g fr):=
 (fQ hc hg hm hv ha hn hdb hst hpl).imp fun _ _ _=>rd_L
theorem AS {T:String} {g:List Dat->M Dat} (hc:vm K W own X (.type T) g) (hm:X.mg x=none) (hv:bootBuiltins x=some (.type T)) (ha:DA K W X (e::es) fr) (hg:Gl X x:=by rfl) (hn:x≠"__name__":=by decide) (hdb:(x==("__debug__":Str))=false:=by decide)
  (hst:starEach (e::es) X.env=(false,eval e X.env)::starEach es X.env:=by rfl) (hpl:(backTo pos (starEach es X.env)).any (·.1)=false:=by rfl):DE K W own X (.Call (.Name x p) (e::es) [] pos) (fL g fr):=
 (uh hc hg hm hv ha hn hdb hst hpl).imp fun _ _ _=>rd_L
theorem bA {g:Dat->Dat->M Dat} (hr:IxR X (rD2 K W own g)) (ha:DE K W false X a fa) (hb:DE K W false X b fb) (hs:Bj b:=by exact fun _ _=>rfl):DE K W own X (.Subscript a b pos) (f2 g fa fb):=(pe_ix hr ha hb hs).imp fun _ _ _=>rd_2
theorem oE {i:Nat} (hN:X.N.Nodup) (hi:X.N[i]? =some x:=by rfl) (hx:Loc X.env.scope x:=by first|exact Or.inl rfl|exact Or.inr rfl) (hf:X.fn x=true\/X.env.scope.names.lookup x=some .local:=by first|exact .inl rfl|exact .inr rfl|assumption):DG K X (.Name x pos) (.nm i):=vQ hN hi hx hf
theorem d9 {tg:Expr} (hl:DE K W false X e fa) (hK:X.K=K:=by rfl):DI K W X tg e (fIt fa):=by
 subst hK
 refine PI.imp (t:=iSeq X.K (tD X.K W false fa)) ?_ fun _ _ _=>ri_seq
 intro pins s σ H R I h
 refine thn (hl pins s σ H _ I h) fun v s1 ⟨y,H1,I1,r1,q1⟩=>?_
 obtain ⟨l,e1,q⟩:=q1
 subst e1
 cases r1
 rcases q with ⟨⟨xs,hq⟩,q⟩|⟨⟨xs,hq⟩,q⟩
 ·obtain ⟨its,rv,p,hz⟩:=I1.list hq
  refine wpAny_pyIter_list p.isList ?_
  refine ⟨s1.heap.objs.size,[s1.heap.objs.size],_,_,H1,rfl,I1.kept (t':=s1.toks) fun b o e=>Heap.get?_push_of_some _ e,zr l _,⟨_,Heap.get?_push_size _ rfl,rfl,rfl⟩,fun b hb=>?_,q⟩
  have e:b=s1.heap.objs.size:=by simpa using hb
  subst e
  exact I1.fpOk (Nat.le_refl _) (I1.hok.fresh (Nat.le_refl _))
 ·obtain ⟨its,rv,p,hz⟩:=I1.tuple hq
  refine wpAny_pyIter_tuple (show s1.heap.IsTuple l its.toArray from p) ?_
  refine ⟨s1.heap.objs.size,[s1.heap.objs.size],_,_,H1,rfl,I1.kept (t':=s1.toks) fun b o e=>Heap.get?_push_of_some _ e,yj l _,⟨_,Heap.get?_push_size _ rfl,rfl,rfl⟩,fun b hb=>?_,q⟩
  have e:b=s1.heap.objs.size:=by simpa using hb
  subst e
  exact I1.fpOk (Nat.le_refl _) (I1.hok.fresh (Nat.le_refl _))
theorem kn {tg:Expr} (hm:X.mg "range"=none) (ha:DA K W X [a] fr) (hg:Gl X "range":=by rfl) (hs:starEach [a] X.env=[(false,eval a X.env)]:=by rfl):DI K W X tg (.Call (.Name "range" p) [a] [] pos) (qp oX fr):=(zY hg hm ha hs).imp fun _ _ _=>ri_rng1
variable {OL O O' O2:List Nat} {st:Stmt} {sts:List Stmt} {g h:af->M Flo}
theorem cn:DSs K W ro X OL O O [] eI:=fun _ _=>zS.imp fun _ _ _=>rs_next
theorem ah (h1:DS K W ro X OL O O' st g) (h2:DSs K W ro X OL O' O2 sts h):DSs K W ro X OL O O2 (st::sts) (bO g h):=fun F0 H0=>(oY (h1 F0 H0) (h2 F0 H0)).imp fun _ _ _=>rs_seq
theorem ay (h1:DS K W ro X OL O O' st g):DSs K W ro X OL O O' [st] g:=fun F0 H0=>pG (h1 F0 H0)
theorem dS (h1:DSs K W ro X OL O2 O' sts g) (hs:∀i∈O2,i∈O:=by decide):DSs K W ro X OL O O' sts g:=fun F0 H0=>PSs.imp (h1 F0 H0) fun _ _ _=>tS.enter hs
theorem fM {sa sb:List Stmt} (hc:DT K W X c ft) (ha:DSs K W ro X OL O O' sa g) (hb:DSs K W ro X OL O O' sb h):DS K W ro X OL O O' (.If c sa sb pos) (sIf ft g h):=fun F0 H0=>(ps_if hc (ha F0 H0) (hb F0 H0)).imp fun _ _ _=>rs_if
theorem aw {i:Nat} {pos':Pos} (hN:X.N.Nodup) (he:DE K W own X e f) (hi:X.N[i]? =some x:=by rfl) (hx:Loc X.env.scope x:=by first|exact Or.inl rfl|exact Or.inr rfl) (hs:swapsWith e (some (.Name x pos')) pos.line X.env=pure false:=by rfl) (hf:X.fn x=true\/X.env.scope.names.lookup x=some .local:=by first|exact .inl rfl|exact .inr rfl|assumption) :
  DS K W ro X OL O (aft own i O) (.Assign [.Name x pos'] e pos) (aQ O i f):=fun F0 H0=>(zT hN hi hx he hs hf).imp fun _ _ _=>zM
theorem ds_setA {i:Nat} {pos':Pos} (hN:X.N.Nodup) (he:DE K W own X e f) (hi:X.N[i]? =some x:=by rfl) (hx:Loc X.env.scope x:=by first|exact Or.inl rfl|exact Or.inr rfl) (hs:swapsWith e (some (.Name x pos')) pos.line X.env=pure false:=by rfl) (hf:X.fn x=true\/X.env.scope.names.lookup x=some .local:=by first|exact .inl rfl|exact .inr rfl|assumption) :
  DS K W ro X OL O (aft own i O) (.Assign [.Name x pos'] e pos) (vL own i f):=fun F0 H0=>(zT hN hi hx he hs hf).imp fun _ _ _=>rs_setA
theorem bp (he:DE K W ro X e f):DS K W ro X OL O O' (.Return (some e) pos) (iT f):=fun F0 H0=>(ps_ret he).imp fun _ _ _=>rs_ret
theorem gx {tg iter:Expr} {body:List Stmt} {fs:af->M (List Dat)} {pt:Pat} (hi:DI K W X tg iter fs) (hg:DG K X tg pt) (hb:DSs K W ro X O O O body g) (n:∀i∈pt.names,i∉O:=by decide) (hp:PassesOwn (model X.prog X.w) X.A X.env X.xe:=by exact PassesOwn.never) (hc:X.calm=true:=by rfl)
  (hs:∀x,foldedSetIterable iter X.env x=pure x:=by intro _;rfl):DS K W ro X OL O O (.For tg iter body [] pos) (pD O fs pt g):=fun F0 H0=>(ps_for hp hc hi hg (hb F0 H0) hs).imp fun _ _ _=>rs_for n
theorem lC {i:Nat} {apos:Pos} {q:Pos} (he:DE K W false X e f) (ho:i∈O:=by decide) (hN:X.N[i]? =some x:=by rfl) (hv:Vis X.env.scope x:=by first|exact Or.inl rfl|exact Or.inr (Or.inl rfl)|exact Or.inr (Or.inr rfl)) (hd:(x==("__debug__":Str))=false:=by decide) (hcd:(x==("__classdict__":Str))=false:=by decide) (hK:X.K=K:=by rfl)
  (hst:starEach [e] X.env=[(false,eval e X.env)]:=by rfl) (hbase:attributeBase (.Name x p) "append" X.env (eval (.Name x p) X.env)=eval (.Name x p) X.env:=by rfl) (hfew:((backTo q (starEach [e] X.env)).all (fun x=> !x.1)&&(backToKw q (keywordEach [] X.env)).all (fun x=>x.1.isSome)&&decide ([e].length+([]:List Keyword).length+(if ([]:List Keyword).isEmpty then 0 else 1)<30))=true:=by rfl) (hplain:(backTo q (starEach [] X.env)).any (·.1)=false:=by rfl) (hline:(apos.endLine==q.line)=true:=by rfl) (hsw:swapsWith (.Call (.Attribute (.Name x p) "append" apos) [e] [] q) none pos.line X.env=pure false:=by rfl) :
  DS K W ro X OL O O (.Expr (.Call (.Attribute (.Name x p) "append" apos) [e] [] q) pos) (mJ O i f):=fun F0 H0=>by
 subst hK
 exact PS.imp (vO (pe_bm PySem.F.plainAttrs_list PySem.F.slot_list_append PySem.F.type_list_append uy (pv i hN hv hd hcd) (b9 he dE hst) hbase hfew hline hst hplain) hsw) fun _ _ _=>rs_appB ho
end
end L2
namespace L2
open PySem PySem.Spec PyProof.Rows
section
variable {X:Cx} {K:PySem.W.Frag} {W:gC} {own:Bool}
theorem OpR.imp {f:Value->Value->Sem Value} {r r':R2} (h:OpR X f r) (q:∀x y H Q,r' x y H Q->r x y H Q):OpR X f r':=fun pins s σ H x y v u Q I rx ry z=>h pins s σ H x y v u Q I rx ry (q x y H Q z)
theorem UnR.imp {f:Value->Sem Value} {r r':V->Hp->VK->Prop} (h:UnR X f r) (q:∀x H Q,r' x H Q->r x H Q):UnR X f r':=fun pins s σ H x v Q I rx z=>h pins s σ H x v Q I rx (q x H Q z)
theorem dQ.imp {f:Value} {r r':List V->Hp->VK->Prop} (h:dQ X f r) (q:∀x H Q,r' x H Q->r x H Q):dQ X f r':=fun pins s σ H x v Q I rx z=>h pins s σ H x v Q I rx (q x H Q z)
theorem IxR.imp {r r':R2} (h:IxR X r) (q:∀x y H Q,r' x y H Q->r x y H Q):IxR X r':=fun va sl pins s σ H x y v u Q I rx ry z e=>h va sl pins s σ H x y v u Q I rx ry (q x y H Q z) e
theorem aH.stuck {F H:Hp} {Q:VK} {P:Prop} (p:aH K W own F H (stk) Q):P:=(W.ns p).elim
theorem aH.int {F H:Hp} {Q:VK} {i:Int} (p:aH K W own F H (.ok (.int i)) Q) (s:b0 F H):Q (.int i) H:=p _ F H (Step.refl s) (by cases own<;>rfl)
theorem aH.bl {F H:Hp} {Q:VK} {b:Bool} (p:aH K W own F H (.ok (.bl b)) Q) (s:b0 F H):Q (.bl b) H:=p _ F H (Step.refl s) (by cases own<;>rfl)
theorem aH.str {F H:Hp} {Q:VK} {x:Str} (p:aH K W own F H (.ok (.str x)) Q) (s:b0 F H):Q (.str x) H:=p _ F H (Step.refl s) (by cases own<;>rfl)
theorem aH.tup {F H:Hp} {Q:VK} {ds:List Dat} {xs:List V} {a:Addr} (p:aH K W own F H (.ok (.tup ds)) Q) (s:b0 F H) (q:aB K F ds xs) (ha:H a=none):Q (.ref a) (upd H a (.tup xs)):=
 p _ _ _ (Step.lay s ha) (by
  have:cf K (upd F a (.tup xs)) (.tup ds) (.ref a):=⟨a,xs,rfl,SqT.of aq,q.mono (b0.upd (s.free ha))⟩
  cases own<;>exact this)
theorem aH.same {F H:Hp} {Q:VK} {ds:List Dat} {v:V} (p:aH K W own F H (.ok (.tup ds)) Q) (s:b0 F H) (q:cf K F (.tup ds) v):Q v H:=p _ F H (Step.refl s) (by cases own<;>exact q)
theorem aH.lst {F H:Hp} {Q:VK} {ds:List Dat} {xs:List V} {a:Addr} (p:aH K W true F H (.ok (.lst ds)) Q) (s:b0 F H) (q:aB K F ds xs) (ha:H a=none):Q (.ref a) (upd H a (.lst xs)):=
 p _ F _ (Step.grow s ha) ⟨a,xs,rfl,aq,s.free ha,ha,q⟩
theorem iQ {g:Dat->Dat->M Dat} (hg:∀a b,(∃i j,a=.int i/\b=.int j)\/g a b=stk) {x y:V} {H:Hp} {Q:VK} (h:rD2 K W own g x y H Q):∃F i j,b0 F H/\x=.int i/\y=.int j/\aH K W own F H (g (.int i) (.int j)) Q:=by
 obtain ⟨F,a,b,s,qa,qb,p⟩:=h
 rcases hg a b with ⟨i,j,rfl,rfl⟩|e
 ·exact ⟨F,i,j,s,qa,qb,p⟩
 ·rw [e] at p;exact p.stuck
theorem sH:Op2 K W own X (binaryOp .Sub) zB:=op_sub.imp fun x y H Q h=>by
 obtain ⟨F,i,j,s,e1,e2,p⟩:=iQ (fun a b=>by cases a<;>cases b<;>first|exact .inr rfl|exact .inl ⟨_,_,rfl,rfl⟩) h
 exact ⟨i,j,e1,e2,p.int s⟩
theorem l7:Op2 K W own X (binaryOp .Mult) pM:=op_mul.imp fun x y H Q h=>by
 obtain ⟨F,i,j,s,e1,e2,p⟩:=iQ (fun a b=>by cases a<;>cases b<;>first|exact .inr rfl|exact .inl ⟨_,_,rfl,rfl⟩) h
 have p':aH K W own F H (if (eG i||eG j)=true then .ok (.int (i*j)) else stk) Q:=p
 by_cases hc:(eG i||eG j)=true
 ·rw [if_pos hc] at p'
  refine ⟨i,j,e1,e2,?_,p'.int s⟩
  unfold eG at hc
  simp only [Bool.or_eq_true,Bool.and_eq_true,decide_eq_true_eq] at hc
  exact hc
 ·rw [if_neg hc] at p';exact p'.stuck
theorem Al {j:Int} (h0:0<j) (h1:j<18446744073709551616):j.natAbs.log2<9000:=by
 have a:j.natAbs<2^64:=by omega
 have b:=(Nat.log2_lt (n:=j.natAbs) (k:=64) (by omega)).mpr a
 omega
theorem A7:OpR X (binaryOp .FloorDiv) (rI (fun _ j=>0<j/\j<18446744073709551616) fun i j=>.int (i/j)):=opI fun i j _ _ _ _ _ hc q=>by
 obtain ⟨c1,c2⟩:=hc
 exact floordiv_int (by omega) (by rw [Int.fdiv_eq_ediv_of_nonneg i (by omega)];exact q) (.inl (PyProof.noPylong_of_log2 (Al c1 c2)))
theorem gI:Op2 K W own X (binaryOp .FloorDiv) jG:=A7.imp fun x y H Q h=>by
 obtain ⟨F,i,j,s,e1,e2,p⟩:=iQ (fun a b=>by cases a<;>cases b<;>first|exact .inr rfl|exact .inl ⟨_,_,rfl,rfl⟩) h
 have p':aH K W own F H (if (decide (0<j)&&decide (j<18446744073709551616))=true then .ok (.int (i/j)) else stk) Q:=p
 by_cases hc:(decide (0<j)&&decide (j<18446744073709551616))=true
 ·rw [if_pos hc] at p'
  simp only [Bool.and_eq_true,decide_eq_true_eq] at hc
  exact ⟨i,j,e1,e2,hc,p'.int s⟩
 ·rw [if_neg hc] at p';exact p'.stuck
theorem cM:Op2 K W own X (binaryOp .Mod) j9:=op_mod.imp fun x y H Q h=>by
 obtain ⟨F,i,j,s,e1,e2,p⟩:=iQ (fun a b=>by cases a<;>cases b<;>first|exact .inr rfl|exact .inl ⟨_,_,rfl,rfl⟩) h
 have p':aH K W own F H (if 0<j then .ok (.int (i%j)) else stk) Q:=p
 by_cases hc:0<j
 ·rw [if_pos hc] at p'
  exact ⟨i,j,e1,e2,hc,p'.int s⟩
 ·rw [if_neg hc] at p';exact p'.stuck
theorem yy:Op2 K W own X (binaryOp .Pow) powD:=op_pow.imp fun x y H Q h=>by
 obtain ⟨F,i,j,s,e1,e2,p⟩:=iQ (fun a b=>by cases a<;>cases b<;>first|exact .inr rfl|exact .inl ⟨_,_,rfl,rfl⟩) h
 have p':aH K W own F H (if (decide (0<=j)&&decide (j<=1000000)&&decide (i.natAbs<2^64))=true then .ok (.int (i^j.toNat)) else stk) Q:=p
 by_cases hc:(decide (0<=j)&&decide (j<=1000000)&&decide (i.natAbs<2^64))=true
 ·rw [if_pos hc] at p'
  simp only [Bool.and_eq_true,decide_eq_true_eq] at hc
  exact ⟨i,j,e1,e2,⟨hc.1.1,hc.1.2,hc.2⟩,p'.int s⟩
 ·rw [if_neg hc] at p';exact p'.stuck
theorem o_neg:UnR X (unaryOp .USub) (rD1 K W own negD):=un_neg.imp fun x H Q h=>by
 obtain ⟨F,a,s,qa,p⟩:=h
 cases a with
 |int i=>exact ⟨i,qa,aH.int (own:=own) p s⟩
 |_=>exact aH.stuck p
theorem o_lt:Op2 K W own X (compareOp .Lt) ltD:=op_lt.imp fun x y H Q h=>by
 obtain ⟨F,i,j,s,e1,e2,p⟩:=iQ (fun a b=>by cases a<;>cases b<;>first|exact .inr rfl|exact .inl ⟨_,_,rfl,rfl⟩) h
 exact ⟨i,j,e1,e2,p.bl s⟩
theorem za:Op2 K W own X (compareOp .LtE) leD:=op_le.imp fun x y H Q h=>by
 obtain ⟨F,i,j,s,e1,e2,p⟩:=iQ (fun a b=>by cases a<;>cases b<;>first|exact .inr rfl|exact .inl ⟨_,_,rfl,rfl⟩) h
 exact ⟨i,j,e1,e2,p.bl s⟩
theorem o_gt:Op2 K W own X (compareOp .Gt) gtD:=op_gt.imp fun x y H Q h=>by
 obtain ⟨F,i,j,s,e1,e2,p⟩:=iQ (fun a b=>by cases a<;>cases b<;>first|exact .inr rfl|exact .inl ⟨_,_,rfl,rfl⟩) h
 exact ⟨i,j,e1,e2,p.bl s⟩
theorem op_catL:OpR X (binaryOp .Add) (fun x y H Q=>∃l b xs zs,x=.ref l/\y=.ref b/\SqL X.K H l xs/\SqL X.K H b zs/\xs.length+zs.length<=sizeLine/\∀p,H p=none->Q (.ref p) (upd H p (.lst (xs++zs)))):=by
 intro pins s σ H x y v u Q I rx ry h
 obtain ⟨l,b,xs,zs,rfl,rfl,hH,hB,hz,q⟩:=h
 cases rx
 cases ry
 obtain ⟨its,r,p1,hl⟩:=I.list hH
 obtain ⟨its2,r2,p2,hl2⟩:=I.list hB
 have z1:=r.length
 have z2:=r2.length
 obtain ⟨⟨cls,dd,data,sl⟩,ho,hc,n,hd⟩:=id p1.isList
 obtain ⟨⟨cls2,dd2,data2,sl2⟩,ho2,hc2,n2,hd2⟩:=id p2.isList
 simp only at hc hd hc2 hd2
 subst hc hd hc2 hd2
 refine concat_meets ⟨_,ho,rfl⟩ ⟨_,ho2,rfl⟩ noFill_list_add seq_list_add PySem.F.slot_list_add PySem.F.entry_list_add (PySem.F.args_list_add_2 _ _) (list_addW l b its.toArray its2.toArray n n2 dd dd2 sl sl2 (by simp only [List.size_toArray];omega)) ⟨ho,ho2,?_⟩
 have ea:its.toArray++its2.toArray=(its++its2).toArray:=by simp
 rw [ea]
 exact ⟨.ref _,_,I.lnew (t':=s.toks) (r.append r2) (by rw [List.length_append];omega),rfl,q _ I.fresh⟩
theorem op_cat3:OpR X (binaryOp .Add) (fun x y H Q=>∃a b xs ys,x=.ref a/\y=.ref b/\SqT X.K H a xs/\SqT X.K H b ys/\xs.length+ys.length<=sizeLine/\(xs=[]->Q (.ref b) H)/\(ys=[]->Q (.ref a) H)/\∀p,H p=none->Q (.ref p) (upd H p (.tup (xs++ys)))):=by
 intro pins s σ H x y v u Q I rx ry h
 obtain ⟨a,b,xs,ys,rfl,rfl,ha,hb,hz,q1,q2,q3⟩:=h
 by_cases hx:xs=[]
 ·subst hx
  cases rx
  cases ry
  obtain ⟨its,r1,p1,_⟩:=I.tuple ha
  obtain ⟨its2,r2,p2,_⟩:=I.tuple hb
  cases r1
  obtain ⟨⟨cls,dd,data,sl⟩,ho,hc,n,hd⟩:=id p1
  obtain ⟨⟨cls2,dd2,data2,sl2⟩,ho2,hc2,n2,hd2⟩:=id p2
  simp only at hc hd hc2 hd2
  subst hc hd hc2 hd2
  exact concat_meets ⟨_,ho,rfl⟩ ⟨_,ho2,rfl⟩ noFill_tuple_add seq_tuple_add PySem.F.slot_tuple_add PySem.F.entry_tuple_add (PySem.F.args_tuple_add_2 _ _)
   (tuple_addW0 a b #[] its2.toArray n n2 dd dd2 sl sl2 rfl) ⟨ho,ho2,⟨.ref b,H,I,rfl,q1 rfl⟩⟩
 ·exact op_catT pins s σ H _ _ v u Q I rx ry ⟨a,b,xs,ys,rfl,rfl,ha,hb,hx,hz,fun e=>q2 e,fun _ p hp=>q3 p hp⟩
theorem dF (hK:X.K=K:=by rfl):Op2 K W true X (binaryOp .Add) jO:=by
 subst hK
 refine (op_add.or (yx.or (op_catL.or op_cat3))).imp fun x y H Q h=>?_
 obtain ⟨F,a,b,s,qa,qb,p⟩:=h
 cases a with
 |int i=>
  cases b with
  |int j=>exact .inl ⟨i,j,qa,qb,p.int s⟩
  |_=>exact aH.stuck p
 |str z=>
  cases b with
  |str w=>
   have p':aH X.K W true F H (if z.length+w.length<=sizeLine then .ok (.str (z++w)) else stk) Q:=p
   by_cases hc:z.length+w.length<=sizeLine
   ·rw [if_pos hc] at p'
    exact .inr (.inl ⟨z,w,qa,qb,hc,p'.str s⟩)
   ·rw [if_neg hc] at p';exact p'.stuck
  |_=>exact aH.stuck p
 |lst ds=>
  cases b with
  |lst es=>
   obtain ⟨a,xs,e1,t1,r1⟩:=qa
   obtain ⟨b,ys,e2,t2,r2⟩:=qb
   have p':aH X.K W true F H (if ds.length+es.length<=sizeLine then .ok (.lst (ds++es)) else stk) Q:=p
   by_cases hc:ds.length+es.length<=sizeLine
   ·rw [if_pos hc] at p'
    exact .inr (.inr (.inl ⟨a,b,xs,ys,e1,e2,s.lst t1,s.lst t2,by rw [r1.length,r2.length];exact hc,fun l hl=>p'.lst s (r1.append r2) hl⟩))
   ·rw [if_neg hc] at p';exact p'.stuck
  |_=>exact aH.stuck p
 |tup ds=>
  cases b with
  |tup es=>
   obtain ⟨a,xs,e1,t1,r1⟩:=qa
   obtain ⟨b,ys,e2,t2,r2⟩:=qb
   have p':aH X.K W true F H (if ds.length+es.length<=sizeLine then .ok (.tup (ds++es)) else stk) Q:=p
   by_cases hc:ds.length+es.length<=sizeLine
   ·rw [if_pos hc] at p'
    refine .inr (.inr (.inr ⟨a,b,xs,ys,e1,e2,s.tup t1,s.tup t2,by rw [r1.length,r2.length];exact hc,fun e=>?_,fun e=>?_,fun l hl=>p'.tup s (r1.append r2) hl⟩))
    ·have z:ds=[]:=by have:=r1.length;rw [e] at this;exact List.length_eq_zero_iff.mp this.symm
     subst z
     exact p'.same s ⟨b,ys,rfl,t2,r2⟩
    ·have z:es=[]:=by have:=r2.length;rw [e] at this;exact List.length_eq_zero_iff.mp this.symm
     subst z
     rw [List.append_nil] at p'
     exact p'.same s ⟨a,xs,rfl,t1,r1⟩
   ·rw [if_neg hc] at p';exact p'.stuck
  |_=>exact aH.stuck p
 |_=>exact aH.stuck p
theorem o_isN:Op2 K W own X (compareOp .Is) isND:=op_isN.imp fun x y H Q h=>by
 obtain ⟨F,a,b,s,qa,qb,p⟩:=h
 have key:∀{k:Bool},isND a b=.ok (.bl k)->b=.non->(decide (x=V.non)=k)->y=V.non/\Q (.bl (decide (x=V.non))) H:=fun {k} e1 e2 e3=>by
  subst e2
  rw [e1] at p
  rw [e3]
  exact ⟨qb,p.bl s⟩
 cases b with
 |non=>
  cases a with
  |non=>exact key rfl rfl (by rw [show x=.non from qa];rfl)
  |bl k=>exact key rfl rfl (by rw [show x=.bl k from qa];rfl)
  |int k=>exact key rfl rfl (by rw [show x=.int k from qa];rfl)
  |str k=>exact key rfl rfl (by rw [show x=.str k from qa];rfl)
  |tup ds=>obtain ⟨l,xs,e,_⟩:=qa;exact key rfl rfl (by rw [e];rfl)
  |lst ds=>obtain ⟨l,xs,e,_⟩:=qa;exact key rfl rfl (by rw [e];rfl)
  |ins C fs=>obtain ⟨l,dx,xs,e,_⟩:=qa;exact key rfl rfl (by rw [e];rfl)
 |_=>cases a<;>exact aH.stuck p
theorem o_notN:Op2 K W own X (compareOp .IsNot) Ac:=op_notN.imp fun x y H Q h=>by
 obtain ⟨F,a,b,s,qa,qb,p⟩:=h
 have key:∀{k:Bool},Ac a b=.ok (.bl k)->b=.non->((!decide (x=V.non))=k)->y=V.non/\Q (.bl (!decide (x=V.non))) H:=fun {k} e1 e2 e3=>by
  subst e2
  rw [e1] at p
  rw [e3]
  exact ⟨qb,p.bl s⟩
 cases b with
 |non=>
  cases a with
  |non=>exact key rfl rfl (by rw [show x=.non from qa];rfl)
  |bl k=>exact key rfl rfl (by rw [show x=.bl k from qa];rfl)
  |int k=>exact key rfl rfl (by rw [show x=.int k from qa];rfl)
  |str k=>exact key rfl rfl (by rw [show x=.str k from qa];rfl)
  |tup ds=>obtain ⟨l,xs,e,_⟩:=qa;exact key rfl rfl (by rw [e];rfl)
  |lst ds=>obtain ⟨l,xs,e,_⟩:=qa;exact key rfl rfl (by rw [e];rfl)
  |ins C fs=>obtain ⟨l,dx,xs,e,_⟩:=qa;exact key rfl rfl (by rw [e];rfl)
 |_=>cases a<;>exact aH.stuck p
theorem AB {F H:Hp} {Q:VK} {ds:List Dat} {xs:List V} {i:Int} (p:aH K W false F H (oP ds i) Q) (s:b0 F H) (r:aB K F ds xs):∃v,atI xs i=some v/\Q v H:=by
 unfold oP at p
 cases e:atI ds i with
 |none=>rw [e] at p;exact aH.stuck p
 |some d=>
  rw [e] at p
  unfold atI at e
  cases hj:ixN ds.length i with
  |none=>rw [hj] at e;cases e
  |some j=>
   rw [hj] at e
   obtain ⟨v,e1,q⟩:=r.get (show ds[j]? =some d from e)
   refine ⟨v,?_,p v F H (Step.refl s) q⟩
   unfold atI
   rw [r.length,hj]
   exact e1
theorem g4 (hK:X.K=K:=by rfl):IxR X (rD2 K W false ixD):=by
 subst hK
 refine ix_seq.imp fun x y H Q h=>?_
 obtain ⟨F,a,b,s,qa,qb,p⟩:=h
 cases a with
 |lst ds=>
  cases b with
  |int i=>
   obtain ⟨a,xs,e1,t1,r1⟩:=qa
   obtain ⟨v,e2,q⟩:=AB p s r1
   exact .inl ⟨a,xs,i,v,e1,qb,s.lst t1,e2,q⟩
  |_=>exact aH.stuck p
 |tup ds=>
  cases b with
  |int i=>
   obtain ⟨a,xs,e1,t1,r1⟩:=qa
   obtain ⟨v,e2,q⟩:=AB p s r1
   exact .inr (.inl ⟨a,xs,i,v,e1,qb,s.tup t1,e2,q⟩)
  |_=>exact aH.stuck p
 |_=>exact aH.stuck p
theorem oF (hK:X.K=K:=by rfl):vm K W own X (.builtin "len") wa:=by
 subst hK
 refine lF.imp fun xs H Q h=>?_
 obtain ⟨F,ds,s,q,p⟩:=h
 match ds,q,p with
 |[.lst es],⟨v,vs,e,⟨a,ys,e1,t,r⟩,e2⟩,p=>
  refine ⟨a,ys,by rw [e,e1,show vs=[] from e2],.inl (s.lst t),?_⟩
  rw [r.length]
  exact aH.int (own:=own) p s
 |[.tup es],⟨v,vs,e,⟨a,ys,e1,t,r⟩,e2⟩,p=>
  refine ⟨a,ys,by rw [e,e1,show vs=[] from e2],.inr (s.tup t),?_⟩
  rw [r.length]
  exact aH.int (own:=own) p s
 |[],_,p=>exact aH.stuck p
 |[.non],_,p=>exact aH.stuck p
 |[.bl _],_,p=>exact aH.stuck p
 |[.int _],_,p=>exact aH.stuck p
 |[.str _],_,p=>exact aH.stuck p
 |[.ins _ _],_,p=>exact aH.stuck p
 |.non::_::_,_,p=>exact aH.stuck p
 |.bl _::_::_,_,p=>exact aH.stuck p
 |.int _::_::_,_,p=>exact aH.stuck p
 |.str _::_::_,_,p=>exact aH.stuck p
 |.ins _ _::_::_,_,p=>exact aH.stuck p
 |.lst _::_::_,_,p=>exact aH.stuck p
 |.tup _::_::_,_,p=>exact aH.stuck p
end
end L2
namespace L2
open PySem PySem.Spec PyProof.Rows
section
variable {X:Cx} {K:PySem.W.Frag} {W:gC} {own ro:Bool}
theorem vS {g:List Dat->M Dat} (hg:∀ds,(∃d,ds=[d])\/g ds=stk) {xs:List V} {H:Hp} {Q:VK} (h:rDL K W own g xs H Q):∃F d x,b0 F H/\xs=[x]/\cf K F d x/\aH K W own F H (g [d]) Q:=by
 obtain ⟨F,ds,s,q,p⟩:=h
 rcases hg ds with ⟨d,rfl⟩|e
 ·obtain ⟨v,vs,e,q1,e2⟩:=q
  exact ⟨F,d,v,s,by rw [e,show vs=[] from e2],q1,p⟩
 ·rw [e] at p;exact p.stuck
theorem zq {g:List Dat->M Dat} (hg:∀ds,(∃d,ds=[d])\/(∃d e,ds=[d,e])\/g ds=stk) {xs:List V} {H:Hp} {Q:VK} (h:rDL K W own g xs H Q):(∃F d x,b0 F H/\xs=[x]/\cf K F d x/\aH K W own F H (g [d]) Q)\/∃F d e x y,b0 F H/\xs=[x,y]/\cf K F d x/\cf K F e y/\aH K W own F H (g [d,e]) Q:=by
 obtain ⟨F,ds,s,q,p⟩:=h
 rcases hg ds with ⟨d,rfl⟩|⟨d,e,rfl⟩|e
 ·obtain ⟨v,vs,e,q1,e2⟩:=q
  exact .inl ⟨F,d,v,s,by rw [e,show vs=[] from e2],q1,p⟩
 ·obtain ⟨v,vs,e1,q1,w,ws,e2,q2,e3⟩:=q
  exact .inr ⟨F,d,e,v,w,s,by rw [e1,e2,show ws=[] from e3],q1,q2,p⟩
 ·rw [e] at p;exact p.stuck
theorem rQ {F:Hp}:∀{ds:List Dat} {xs:List V} {bs:List Bool},aB K F ds xs->iJ ds=.ok bs->xs=bs.map V.bl
 |[],_,_,q,e=>by cases e;exact q
 |d::ds,_,bs,⟨v,vs,e1,q,r⟩,e=>by
  cases d with
  |bl b=>
   cases e2:iJ ds with
   |error x=>simp only [iJ,asB,aA,e2,ku] at e;cases e
   |ok cs=>
    simp only [iJ,asB,aA,e2] at e
    cases e
    rw [e1,show v=.bl b from q,rQ r e2]
    rfl
  |_=>cases e
theorem rR:∀{ds:List Dat} {e:Err},iJ ds=.error e->e=.stuck
 |[],_,h=>by cases h
 |d::ds,e,h=>by
  cases d with
  |bl b=>
   cases e2:iJ ds with
   |error x=>simp only [iJ,asB,aA,e2,ku] at h;cases h;exact rR e2
   |ok cs=>simp only [iJ,asB,aA,e2] at h;cases h
  |_=>cases h;rfl
theorem iq {F:Hp}:∀{ds:List Dat} {xs:List V} {bs:List Int},aB K F ds xs->bS ds=.ok bs->xs=bs.map V.int
 |[],_,_,q,e=>by cases e;exact q
 |d::ds,_,bs,⟨v,vs,e1,q,r⟩,e=>by
  cases d with
  |int b=>
   cases e2:bS ds with
   |error x=>simp only [bS,asI,aA,e2,ku] at e;cases e
   |ok cs=>
    simp only [bS,asI,aA,e2] at e
    cases e
    rw [e1,show v=.int b from q,iq r e2]
    rfl
  |_=>cases e
theorem jE:∀{ds:List Dat} {e:Err},bS ds=.error e->e=.stuck
 |[],_,h=>by cases h
 |d::ds,e,h=>by
  cases d with
  |int b=>
   cases e2:bS ds with
   |error x=>simp only [bS,asI,aA,e2,ku] at h;cases h;exact jE e2
   |ok cs=>simp only [bS,asI,aA,e2] at h;cases h
  |_=>cases h;rfl
theorem c_all (hc:X.calm=true) (hK:X.K=K:=by rfl):vm K W own X (.builtin "all") allD:=by
 subst hK
 refine (call_all hc).imp fun xs H Q h=>?_
 obtain ⟨F,d,x,s,e,q,p⟩:=vS (fun ds=>by match ds with|[d]=>exact .inl ⟨d,rfl⟩|[]=>exact .inr rfl|a::b::c=>exact .inr (by cases a<;>rfl)) h
 cases d with
 |lst ds=>
  obtain ⟨a,ys,e1,t,r⟩:=q
  have p':aH X.K W own F H ((iJ ds).bind fun bs=>.ok (.bl (bs.all id))) Q:=p
  cases eb:iJ ds with
  |error z=>rw [eb] at p';have:=rR eb;subst this;exact aH.stuck p'
  |ok bs=>
   rw [eb] at p'
   refine ⟨a,bs,by rw [e,e1],?_,aH.bl (own:=own) p' s⟩
   rw [<- rQ r eb]
   exact s.lst t
 |_=>exact aH.stuck p
theorem c_list (hK:X.K=K:=by rfl):vm K W true X (.type "list") Am:=by
 subst hK
 refine uZ.imp fun xs H Q h=>?_
 obtain ⟨F,d,x,s,e,q,p⟩:=vS (fun ds=>by match ds with|[d]=>exact .inl ⟨d,rfl⟩|[]=>exact .inr rfl|a::b::c=>exact .inr (by cases a<;>rfl)) h
 cases d with
 |lst ds=>
  obtain ⟨a,ys,e1,t,r⟩:=q
  exact ⟨a,ys,by rw [e,e1],.inl (s.lst t),fun l hl=>aH.lst p s r hl⟩
 |tup ds=>
  obtain ⟨a,ys,e1,t,r⟩:=q
  exact ⟨a,ys,by rw [e,e1],.inr (s.tup t),fun l hl=>aH.lst p s r hl⟩
 |_=>exact aH.stuck p
theorem fold_max:∀(is:List Int) (i:Int),(is.foldl kK i=i\/is.foldl kK i∈is)/\i<=is.foldl kK i/\∀a∈is,a<=is.foldl kK i
 |[],i=>⟨.inl rfl,Int.le_refl _,fun _ h=>nomatch h⟩
 |j::is,i=>by
  obtain ⟨h1,h2,h3⟩:=fold_max is (kK i j)
  have z:(kK i j=i\/kK i j=j)/\i<=kK i j/\j<=kK i j:=by unfold kK;split<;>(refine ⟨?_,?_,?_⟩<;>first|exact .inl rfl|exact .inr rfl|omega)
  rw [List.foldl_cons]
  refine ⟨?_,Int.le_trans z.2.1 h2,fun a ha=>?_⟩
  ·rcases h1 with h1|h1
   ·rw [h1]
    rcases z.1 with z|z
    ·exact .inl z
    ·exact .inr (by rw [z];exact List.mem_cons_self)
   ·exact .inr (List.mem_cons_of_mem _ h1)
  ·rcases List.mem_cons.mp ha with e|e
   ·rw [e];exact Int.le_trans z.2.2 h2
   ·exact h3 a e
theorem fold_min:∀(is:List Int) (i:Int),(is.foldl mC i=i\/is.foldl mC i∈is)/\is.foldl mC i<=i/\∀a∈is,is.foldl mC i<=a
 |[],i=>⟨.inl rfl,Int.le_refl _,fun _ h=>nomatch h⟩
 |j::is,i=>by
  obtain ⟨h1,h2,h3⟩:=fold_min is (mC i j)
  have z:(mC i j=i\/mC i j=j)/\mC i j<=i/\mC i j<=j:=by unfold mC;split<;>(refine ⟨?_,?_,?_⟩<;>first|exact .inl rfl|exact .inr rfl|omega)
  rw [List.foldl_cons]
  refine ⟨?_,Int.le_trans h2 z.2.1,fun a ha=>?_⟩
  ·rcases h1 with h1|h1
   ·rw [h1]
    rcases z.1 with z|z
    ·exact .inl z
    ·exact .inr (by rw [z];exact List.mem_cons_self)
   ·exact .inr (List.mem_cons_of_mem _ h1)
  ·rcases List.mem_cons.mp ha with e|e
   ·rw [e];exact Int.le_trans h2 z.2.2
   ·exact h3 a e
theorem wm {is:List Int} {i m:Int} (h1:m∈i::is) (h2:∀a∈i::is,a<=m):is.foldl kK i=m:=by
 obtain ⟨g1,g2,g3⟩:=fold_max is i
 have a1:is.foldl kK i<=m:=by
  rcases g1 with g|g
  ·rw [g];exact h2 i List.mem_cons_self
  ·exact h2 _ (List.mem_cons_of_mem _ g)
 have a2:m<=is.foldl kK i:=by
  rcases List.mem_cons.mp h1 with e|e
  ·rw [e];exact g2
  ·exact g3 m e
 omega
theorem wk {is:List Int} {i m:Int} (h1:m∈i::is) (h2:∀a∈i::is,m<=a):is.foldl mC i=m:=by
 obtain ⟨g1,g2,g3⟩:=fold_min is i
 have a1:m<=is.foldl mC i:=by
  rcases g1 with g|g
  ·rw [g];exact h2 i List.mem_cons_self
  ·exact h2 _ (List.mem_cons_of_mem _ g)
 have a2:is.foldl mC i<=m:=by
  rcases List.mem_cons.mp h1 with e|e
  ·rw [e];exact g2
  ·exact g3 m e
 omega
theorem B4 (hc:X.calm=true):dQ X (.builtin "max") (fun xs H Q=>∃a i is,xs=[.ref a]/\SqL X.K H a ((i::is).map V.int)/\Q (.int (is.foldl kK i)) H):=by
 intro pins s σ H xs us Q I r h
 obtain ⟨a,i,is,rfl,hq,q⟩:=h
 obtain ⟨u,rfl,ru⟩:=r.one
 cases ru
 obtain ⟨its,rv,p,hz⟩:=I.list hq
 have hi:=intsAre_of rv
 obtain ⟨xs,e⟩:=hi.allInts.items
 have hns:i::is=xs.toList.map (·.1):=by rw [<- hi.numsOf,<- nums_intItems,<- e]
 have hsz:0<xs.size:=by
  have h3:=congrArg List.length hns
  simp at h3
  omega
 have hl:=p.isList
 rw [e] at hl
 refine max_intList (I.ok.hd hc) hl hsz fun v h' tk hv hk=>?_
 obtain ⟨t,rfl⟩:=intItems_at hv
 obtain ⟨h1,h2⟩:=argBest_gt (numAt xs) (xs.size-1)
 refine ⟨.int _,H,I.kept hk,⟨t,rfl⟩,?_⟩
 have:=wm (is:=is) (i:=i) (m:=numAt xs (argBest (fun i j=>decide (numAt xs i>numAt xs j)) (xs.size-1))) (by
   rw [hns,numAt_eq];exact getD_mem (by rw [List.length_map,Array.length_toList];omega)) (fun a ha=>by
   rw [hns] at ha
   obtain ⟨j,hj,rfl⟩:=mem_getD ha
   rw [List.length_map,Array.length_toList] at hj
   rw [<- numAt_eq];exact h2 j (by omega))
 rw [<- this]
 exact q
theorem B2 (hc:X.calm=true):dQ X (.builtin "min") (fun xs H Q=>∃a i is,xs=[.ref a]/\SqL X.K H a ((i::is).map V.int)/\Q (.int (is.foldl mC i)) H):=by
 intro pins s σ H xs us Q I r h
 obtain ⟨a,i,is,rfl,hq,q⟩:=h
 obtain ⟨u,rfl,ru⟩:=r.one
 cases ru
 obtain ⟨its,rv,p,hz⟩:=I.list hq
 have hi:=intsAre_of rv
 obtain ⟨xs,e⟩:=hi.allInts.items
 have hns:i::is=xs.toList.map (·.1):=by rw [<- hi.numsOf,<- nums_intItems,<- e]
 have hsz:0<xs.size:=by
  have h3:=congrArg List.length hns
  simp at h3
  omega
 have hl:=p.isList
 rw [e] at hl
 refine min_intList (I.ok.hd hc) hl hsz fun v h' tk hv hk=>?_
 obtain ⟨t,rfl⟩:=intItems_at hv
 obtain ⟨h1,h2⟩:=argBest_lt (numAt xs) (xs.size-1)
 refine ⟨.int _,H,I.kept hk,⟨t,rfl⟩,?_⟩
 have:=wk (is:=is) (i:=i) (m:=numAt xs (argBest (fun i j=>decide (numAt xs i<numAt xs j)) (xs.size-1))) (by
   rw [hns,numAt_eq];exact getD_mem (by rw [List.length_map,Array.length_toList];omega)) (fun a ha=>by
   rw [hns] at ha
   obtain ⟨j,hj,rfl⟩:=mem_getD ha
   rw [List.length_map,Array.length_toList] at hj
   rw [<- numAt_eq];exact h2 j (by omega))
 rw [<- this]
 exact q
theorem B7 (hc:X.calm=true) (hK:X.K=K:=by rfl):vm K W own X (.builtin "max") maxD:=by
 subst hK
 refine ((B5 hc).or (B4 hc)).imp fun xs H Q h=>?_
 rcases zq (fun ds=>by match ds with|[d]=>exact .inl ⟨d,rfl⟩|[d,e]=>exact .inr (.inl ⟨d,e,rfl⟩)|[]=>exact .inr (.inr rfl)|a::b::c::d=>exact .inr (.inr (by cases a<;>cases b<;>rfl))) h with ⟨F,d,x,s,e,q,p⟩|⟨F,d,d2,x,y,s,e,q,q2,p⟩
 ·cases d with
  |lst ds=>
   obtain ⟨a,ys,e1,t,r⟩:=q
   have p':aH X.K W own F H ((bS ds).bind maxL) Q:=p
   cases eb:bS ds with
   |error z=>rw [eb] at p';have:=jE eb;subst this;exact aH.stuck p'
   |ok is=>
    rw [eb] at p'
    cases is with
    |nil=>exact aH.stuck p'
    |cons i is=>
     refine .inr ⟨a,i,is,by rw [e,e1],?_,aH.int (own:=own) p' s⟩
     rw [<- iq r eb]
     exact s.lst t
  |_=>exact aH.stuck p
 ·cases d with
  |int i=>
   cases d2 with
   |int j=>exact .inl ⟨i,j,by rw [e,show x=.int i from q,show y=.int j from q2],aH.int (own:=own) p s⟩
   |_=>exact aH.stuck p
  |_=>cases d2<;>exact aH.stuck p
theorem c_min (hc:X.calm=true) (hK:X.K=K:=by rfl):vm K W own X (.builtin "min") minD:=by
 subst hK
 refine ((B3 hc).or (B2 hc)).imp fun xs H Q h=>?_
 rcases zq (fun ds=>by match ds with|[d]=>exact .inl ⟨d,rfl⟩|[d,e]=>exact .inr (.inl ⟨d,e,rfl⟩)|[]=>exact .inr (.inr rfl)|a::b::c::d=>exact .inr (.inr (by cases a<;>cases b<;>rfl))) h with ⟨F,d,x,s,e,q,p⟩|⟨F,d,d2,x,y,s,e,q,q2,p⟩
 ·cases d with
  |lst ds=>
   obtain ⟨a,ys,e1,t,r⟩:=q
   have p':aH X.K W own F H ((bS ds).bind minL) Q:=p
   cases eb:bS ds with
   |error z=>rw [eb] at p';have:=jE eb;subst this;exact aH.stuck p'
   |ok is=>
    rw [eb] at p'
    cases is with
    |nil=>exact aH.stuck p'
    |cons i is=>
     refine .inr ⟨a,i,is,by rw [e,e1],?_,aH.int (own:=own) p' s⟩
     rw [<- iq r eb]
     exact s.lst t
  |_=>exact aH.stuck p
 ·cases d with
  |int i=>
   cases d2 with
   |int j=>exact .inl ⟨i,j,by rw [e,show x=.int i from q,show y=.int j from q2],aH.int (own:=own) p s⟩
   |_=>exact aH.stuck p
  |_=>cases d2<;>exact aH.stuck p
end
section
variable {X:Cx} {K:PySem.W.Frag} {W:gC} {own ro:Bool}
theorem SqL.inj {pins:List (Addr×Obj)} {σ:St} {H:Hp} {s:Shared} {a:Addr} {xs ys:List V} (I:Inv X pins σ H s) (h:SqL X.K H a xs) (h':SqL X.K H a ys):xs=ys:=by
 obtain ⟨i1,r1,p1,_⟩:=I.list h
 obtain ⟨i2,r2,p2,_⟩:=I.list h'
 obtain ⟨o,n,e,_,_,d⟩:=p1
 obtain ⟨o',n',e',_,_,d'⟩:=p2
 rw [e] at e'
 cases e'
 rw [d] at d'
 injection d' with d1 _
 have:i1=i2:=by simpa using congrArg Array.toList d1
 subst this
 exact r1.inj r2
theorem SqT.inj {pins:List (Addr×Obj)} {σ:St} {H:Hp} {s:Shared} {a:Addr} {xs ys:List V} (I:Inv X pins σ H s) (h:SqT X.K H a xs) (h':SqT X.K H a ys):xs=ys:=by
 obtain ⟨i1,r1,p1,_⟩:=I.tuple h
 obtain ⟨i2,r2,p2,_⟩:=I.tuple h'
 obtain ⟨o,e,_,n,d⟩:=p1
 obtain ⟨o',e',_,n',d'⟩:=p2
 rw [e] at e'
 cases e'
 rw [d] at d'
 injection d' with d1 _
 have:i1=i2:=by simpa using congrArg Array.toList d1
 subst this
 exact r1.inj r2
theorem aB.all_eq {F:Hp} (e:Nat->Bool):∀{ds es:List Dat},ds.length=es.length->(∀(j:Nat) a b,ds[j]? =some a->es[j]? =some b->e j=eqD a b)->(List.range ds.length).all e=zb ds es:=by
 intro ds
 induction ds generalizing e with
 |nil=>intro es h _;cases es with
  |nil=>rfl
  |cons _ _=>simp at h
 |cons d ds ih=>
  intro es h q
  cases es with
  |nil=>simp at h
  |cons b es=>
   rw [List.length_cons,List.range_succ_eq_map,List.all_cons,List.all_map,zb]
   rw [q 0 d b rfl rfl]
   congr 1
   exact ih (e∘Nat.succ) (by simpa using h) fun j x y hx hy=>q (j+1) x y (by simpa using hx) (by simpa using hy)
theorem nH:∀{ds es:List Dat},ds.length≠es.length->zb ds es=false
 |[],[],h=>absurd rfl h
 |[],_::_,_=>rfl
 |_::_,[],_=>rfl
 |d::ds,e::es,h=>by
  rw [zb,nH (ds:=ds) (es:=es) (fun z=>h (by simp [z])),Bool.and_false]
theorem sY (e:Nat->Bool):∀{ds es:List Dat},(∀(j:Nat) a b,ds[j]? =some a->es[j]? =some b->e j=eqD a b)->((List.range (min ds.length es.length)).all e&&ds.length==es.length)=zb ds es:=by
 intro ds es q
 by_cases hl:ds.length=es.length
 ·have e1:min ds.length es.length=ds.length:=by omega
  rw [e1,aB.all_eq (F:=fun _=>none) e hl q,hl,beq_self_eq_true,Bool.and_true]
 ·rw [nH hl]
  have:(ds.length==es.length)=false:=by simpa using hl
  rw [this,Bool.and_false]
mutual
theorem sZ:∀{d:Dat} {n:Nat},okE d n=true->eqD d d=true
 |.non,_,_=>rfl
 |.bl b,_,_=>by simp [eqD]
 |.int i,_,_=>by simp [eqD]
 |.str x,_,_=>by simp [eqD]
 |.tup ds,0,h=>by simp [okE] at h
 |.tup ds,n+1,h=>by simp only [okE] at h;simp only [eqD];exact pX h
 |.lst ds,0,h=>by simp [okE] at h
 |.lst ds,n+1,h=>by simp only [okE] at h;simp only [eqD];exact pX h
 |.ins _ _,_,h=>by simp [okE] at h
theorem pX:∀{ds:List Dat} {n:Nat},jQ ds n=true->zb ds ds=true
 |[],_,_=>rfl
 |d::ds,n,h=>by
  simp only [jQ,Bool.and_eq_true] at h
  simp only [zb,sZ h.1,pX h.2,Bool.and_self]
end
theorem di:∀{ds:List Dat} {n i:Nat} {d:Dat},jQ ds n=true->ds[i]? =some d->okE d n=true
 |[],_,_,_,_,h=>by simp at h
 |_::_,_,0,_,h,e=>by
  simp only [jQ,Bool.and_eq_true] at h
  simp at e
  rw [<- e];exact h.1
 |_::_,_,i+1,_,h,e=>by
  simp only [jQ,Bool.and_eq_true] at h
  exact di h.2 (by simpa using e)
end
noncomputable def gT (ds es:List Dat) (j:Nat):Bool:=match ds[j]?,es[j]? with
 |some a,some b=>eqD a b
 |_,_=>true
section
variable {X:Cx}
mutual
theorem deep_inj {pins:List (Addr×Obj)} {σ:St} {F H:Hp} {s:Shared} (I:Inv X pins σ H s) (hF:b0 F H):∀(d e:Dat) {v:V} {n:Nat},cf X.K F d v->cf X.K F e v->okE d n=true->okE e n=true->d=e
 |.non,.non,v,n,q,r,o1,o2=>by
   rfl
 |.non,.bl b,v,n,q,r,o1,o2=>by
   have e1:v=.non:=q
   have e2:v=.bl b:=r
   rw [e1] at e2
   cases e2
 |.non,.int b,v,n,q,r,o1,o2=>by
   have e1:v=.non:=q
   have e2:v=.int b:=r
   rw [e1] at e2
   cases e2
 |.non,.str b,v,n,q,r,o1,o2=>by
   have e1:v=.non:=q
   have e2:v=.str b:=r
   rw [e1] at e2
   cases e2
 |.non,.tup es,v,n,q,r,o1,o2=>by
   have e1:v=.non:=q
   obtain ⟨l,xs,e2,_⟩:=r
   rw [e1] at e2
   cases e2
 |.non,.lst es,v,n,q,r,o1,o2=>by
   have e1:v=.non:=q
   obtain ⟨l,xs,e2,_⟩:=r
   rw [e1] at e2
   cases e2
 |.bl a,.non,v,n,q,r,o1,o2=>by
   have e1:v=.bl a:=q
   have e2:v=.non:=r
   rw [e1] at e2
   cases e2
 |.bl a,.bl b,v,n,q,r,o1,o2=>by
   have e1:v=.bl a:=q
   have e2:v=.bl b:=r
   rw [e1] at e2
   cases e2
   rfl
 |.bl a,.int b,v,n,q,r,o1,o2=>by
   have e1:v=.bl a:=q
   have e2:v=.int b:=r
   rw [e1] at e2
   cases e2
 |.bl a,.str b,v,n,q,r,o1,o2=>by
   have e1:v=.bl a:=q
   have e2:v=.str b:=r
   rw [e1] at e2
   cases e2
 |.bl a,.tup es,v,n,q,r,o1,o2=>by
   have e1:v=.bl a:=q
   obtain ⟨l,xs,e2,_⟩:=r
   rw [e1] at e2
   cases e2
 |.bl a,.lst es,v,n,q,r,o1,o2=>by
   have e1:v=.bl a:=q
   obtain ⟨l,xs,e2,_⟩:=r
   rw [e1] at e2
   cases e2
 |.int a,.non,v,n,q,r,o1,o2=>by
   have e1:v=.int a:=q
   have e2:v=.non:=r
   rw [e1] at e2
   cases e2
 |.int a,.bl b,v,n,q,r,o1,o2=>by
   have e1:v=.int a:=q
   have e2:v=.bl b:=r
   rw [e1] at e2
   cases e2
 |.int a,.int b,v,n,q,r,o1,o2=>by
   have e1:v=.int a:=q
   have e2:v=.int b:=r
   rw [e1] at e2
   cases e2
   rfl
 |.int a,.str b,v,n,q,r,o1,o2=>by
   have e1:v=.int a:=q
   have e2:v=.str b:=r
   rw [e1] at e2
   cases e2
 |.int a,.tup es,v,n,q,r,o1,o2=>by
   have e1:v=.int a:=q
   obtain ⟨l,xs,e2,_⟩:=r
   rw [e1] at e2
   cases e2
 |.int a,.lst es,v,n,q,r,o1,o2=>by
   have e1:v=.int a:=q
   obtain ⟨l,xs,e2,_⟩:=r
   rw [e1] at e2
   cases e2
 |.str a,.non,v,n,q,r,o1,o2=>by
   have e1:v=.str a:=q
   have e2:v=.non:=r
   rw [e1] at e2
   cases e2
 |.str a,.bl b,v,n,q,r,o1,o2=>by
   have e1:v=.str a:=q
   have e2:v=.bl b:=r
   rw [e1] at e2
   cases e2
 |.str a,.int b,v,n,q,r,o1,o2=>by
   have e1:v=.str a:=q
   have e2:v=.int b:=r
   rw [e1] at e2
   cases e2
 |.str a,.str b,v,n,q,r,o1,o2=>by
   have e1:v=.str a:=q
   have e2:v=.str b:=r
   rw [e1] at e2
   cases e2
   rfl
 |.str a,.tup es,v,n,q,r,o1,o2=>by
   have e1:v=.str a:=q
   obtain ⟨l,xs,e2,_⟩:=r
   rw [e1] at e2
   cases e2
 |.str a,.lst es,v,n,q,r,o1,o2=>by
   have e1:v=.str a:=q
   obtain ⟨l,xs,e2,_⟩:=r
   rw [e1] at e2
   cases e2
 |.tup ds,.non,v,n,q,r,o1,o2=>by
   have e1:v=.non:=r
   obtain ⟨l,xs,e2,_⟩:=q
   rw [e1] at e2
   cases e2
 |.tup ds,.bl b,v,n,q,r,o1,o2=>by
   have e1:v=.bl b:=r
   obtain ⟨l,xs,e2,_⟩:=q
   rw [e1] at e2
   cases e2
 |.tup ds,.int b,v,n,q,r,o1,o2=>by
   have e1:v=.int b:=r
   obtain ⟨l,xs,e2,_⟩:=q
   rw [e1] at e2
   cases e2
 |.tup ds,.str b,v,n,q,r,o1,o2=>by
   have e1:v=.str b:=r
   obtain ⟨l,xs,e2,_⟩:=q
   rw [e1] at e2
   cases e2
 |.tup ds,.tup es,v,n,q,r,o1,o2=>by
   obtain ⟨l,xs,e1,h1,r1⟩:=q
   obtain ⟨l2,ys,e2,h2,r2⟩:=r
   rw [e1] at e2
   cases e2
   have e3:=SqT.inj I (hF.tup h1) (hF.tup h2)
   subst e3
   cases n with
   |zero=>exact absurd o1 (by simp [okE])
   |succ n=>rw [lD I hF ds es r1 r2 (by simpa only [okE] using o1) (by simpa only [okE] using o2)]
 |.tup ds,.lst es,v,n,q,r,o1,o2=>by
   obtain ⟨l,xs,e1,h1,r1⟩:=q
   obtain ⟨l2,ys,e2,h2,r2⟩:=r
   rw [e1] at e2
   cases e2
   obtain ⟨i1,_,p1,_⟩:=I.list (hF.lst h2)
   obtain ⟨i2,_,p2,_⟩:=I.tuple (hF.tup h1)
   exact absurd rfl (SeqAt.ne_of_list_tuple p1.isList (show s.heap.IsTuple l i2.toArray from p2))
 |.lst ds,.non,v,n,q,r,o1,o2=>by
   have e1:v=.non:=r
   obtain ⟨l,xs,e2,_⟩:=q
   rw [e1] at e2
   cases e2
 |.lst ds,.bl b,v,n,q,r,o1,o2=>by
   have e1:v=.bl b:=r
   obtain ⟨l,xs,e2,_⟩:=q
   rw [e1] at e2
   cases e2
 |.lst ds,.int b,v,n,q,r,o1,o2=>by
   have e1:v=.int b:=r
   obtain ⟨l,xs,e2,_⟩:=q
   rw [e1] at e2
   cases e2
 |.lst ds,.str b,v,n,q,r,o1,o2=>by
   have e1:v=.str b:=r
   obtain ⟨l,xs,e2,_⟩:=q
   rw [e1] at e2
   cases e2
 |.lst ds,.tup es,v,n,q,r,o1,o2=>by
   obtain ⟨l,xs,e1,h1,r1⟩:=q
   obtain ⟨l2,ys,e2,h2,r2⟩:=r
   rw [e1] at e2
   cases e2
   obtain ⟨i1,_,p1,_⟩:=I.list (hF.lst h1)
   obtain ⟨i2,_,p2,_⟩:=I.tuple (hF.tup h2)
   exact absurd rfl (SeqAt.ne_of_list_tuple p1.isList (show s.heap.IsTuple l i2.toArray from p2))
 |.lst ds,.lst es,v,n,q,r,o1,o2=>by
   obtain ⟨l,xs,e1,h1,r1⟩:=q
   obtain ⟨l2,ys,e2,h2,r2⟩:=r
   rw [e1] at e2
   cases e2
   have e3:=SqL.inj I (hF.lst h1) (hF.lst h2)
   subst e3
   cases n with
   |zero=>exact absurd o1 (by simp [okE])
   |succ n=>rw [lD I hF ds es r1 r2 (by simpa only [okE] using o1) (by simpa only [okE] using o2)]
 |.ins _ _,_,_,_,_,_,o1,_=>by simp [okE] at o1
 |_,.ins _ _,_,_,_,_,_,o2=>by simp [okE] at o2
theorem lD {pins:List (Addr×Obj)} {σ:St} {F H:Hp} {s:Shared} (I:Inv X pins σ H s) (hF:b0 F H):∀(ds es:List Dat) {xs:List V} {n:Nat},aB X.K F ds xs->aB X.K F es xs->jQ ds n=true->jQ es n=true->ds=es
 |[],[],_,_,_,_,_,_=>rfl
 |[],_::_,_,_,q,⟨_,_,e,_⟩,_,_=>by rw [show _=[] from q] at e;cases e
 |_::_,[],_,_,⟨_,_,e,_⟩,q,_,_=>by rw [show _=[] from q] at e;cases e
 |d::ds,e::es,_,n,⟨v,vs,e1,q1,r1⟩,⟨w,ws,e2,q2,r2⟩,o1,o2=>by
  rw [e1] at e2
  cases e2
  simp only [jQ,Bool.and_eq_true] at o1 o2
  rw [deep_inj I hF d e q1 q2 o1.1 o2.1,lD I hF ds es r1 r2 o1.2 o2.2]
end
end
section
variable {X:Cx} {K:PySem.W.Frag} {W:gC} {own ro:Bool}
mutual
theorem AF {pins:List (Addr×Obj)} {σ:St} {F H:Hp} {s:Shared} (I:Inv X pins σ H s) (hF:b0 F H):∀(a b:Dat) {n:Nat} {x y:V} {u v:Value} {A:Around},okE a n=true->okE b n=true->cf X.K F a x->cf X.K F b y->RelV x u->RelV y v->A.units+n<cLine->SeqAt.EqAt A s u v (eqD a b)
 |.non,.non,n,x,y,u,v,A,oa,ob,qa,qb,ra,rb,hu=>by
   cases (show x=.non from qa)
   cases ra
   cases (show y=.non from qb)
   cases rb
   exact SeqAt.EqAt.same _
 |.non,.bl b,n,x,y,u,v,A,oa,ob,qa,qb,ra,rb,hu=>by
   cases (show x=.non from qa)
   cases ra
   cases (show y=.bl b from qb)
   cases rb
   exact SeqAt.EqAt.none_bool b
 |.non,.int b,n,x,y,u,v,A,oa,ob,qa,qb,ra,rb,hu=>by
   cases (show x=.non from qa)
   cases ra
   cases (show y=.int b from qb)
   obtain ⟨t2,rfl⟩:=rb
   exact SeqAt.EqAt.none_int b t2
 |.non,.str b,n,x,y,u,v,A,oa,ob,qa,qb,ra,rb,hu=>by
   cases (show x=.non from qa)
   cases ra
   cases (show y=.str b from qb)
   obtain ⟨t2,rfl⟩:=rb
   exact SeqAt.EqAt.none_str b t2
 |.non,.tup es,n,x,y,u,v,A,oa,ob,qa,qb,ra,rb,hu=>by
   cases (show x=.non from qa)
   cases ra
   obtain ⟨l2,ys,e2,h2,r2⟩:=qb
   subst e2
   cases rb
   obtain ⟨js,w2,p2,_⟩:=I.tuple (hF.tup h2)
   exact SeqAt.EqAt.none_tuple (show s.heap.IsTuple l2 js.toArray from p2) (by omega)
 |.non,.lst es,n,x,y,u,v,A,oa,ob,qa,qb,ra,rb,hu=>by
   cases (show x=.non from qa)
   cases ra
   obtain ⟨l2,ys,e2,h2,r2⟩:=qb
   subst e2
   cases rb
   obtain ⟨js,w2,p2,_⟩:=I.list (hF.lst h2)
   exact SeqAt.EqAt.none_list p2.isList (by omega)
 |.bl a,.non,n,x,y,u,v,A,oa,ob,qa,qb,ra,rb,hu=>by
   cases (show x=.bl a from qa)
   cases ra
   cases (show y=.non from qb)
   cases rb
   exact SeqAt.EqAt.bool_none a
 |.bl a,.bl b,n,x,y,u,v,A,oa,ob,qa,qb,ra,rb,hu=>by
   cases (show x=.bl a from qa)
   cases ra
   cases (show y=.bl b from qb)
   cases rb
   exact SeqAt.EqAt.bool_bool a b
 |.bl a,.int b,n,x,y,u,v,A,oa,ob,qa,qb,ra,rb,hu=>by
   cases (show x=.bl a from qa)
   cases ra
   cases (show y=.int b from qb)
   obtain ⟨t2,rfl⟩:=rb
   exact SeqAt.EqAt.bool_int a b t2
 |.bl a,.str b,n,x,y,u,v,A,oa,ob,qa,qb,ra,rb,hu=>by
   cases (show x=.bl a from qa)
   cases ra
   cases (show y=.str b from qb)
   obtain ⟨t2,rfl⟩:=rb
   exact SeqAt.EqAt.bool_str a b t2
 |.bl a,.tup es,n,x,y,u,v,A,oa,ob,qa,qb,ra,rb,hu=>by
   cases (show x=.bl a from qa)
   cases ra
   obtain ⟨l2,ys,e2,h2,r2⟩:=qb
   subst e2
   cases rb
   obtain ⟨js,w2,p2,_⟩:=I.tuple (hF.tup h2)
   exact SeqAt.EqAt.bool_tuple a (show s.heap.IsTuple l2 js.toArray from p2) (by omega)
 |.bl a,.lst es,n,x,y,u,v,A,oa,ob,qa,qb,ra,rb,hu=>by
   cases (show x=.bl a from qa)
   cases ra
   obtain ⟨l2,ys,e2,h2,r2⟩:=qb
   subst e2
   cases rb
   obtain ⟨js,w2,p2,_⟩:=I.list (hF.lst h2)
   exact SeqAt.EqAt.bool_list a p2.isList (by omega)
 |.int a,.non,n,x,y,u,v,A,oa,ob,qa,qb,ra,rb,hu=>by
   cases (show x=.int a from qa)
   obtain ⟨t1,rfl⟩:=ra
   cases (show y=.non from qb)
   cases rb
   exact SeqAt.EqAt.int_none a t1
 |.int a,.bl b,n,x,y,u,v,A,oa,ob,qa,qb,ra,rb,hu=>by
   cases (show x=.int a from qa)
   obtain ⟨t1,rfl⟩:=ra
   cases (show y=.bl b from qb)
   cases rb
   exact SeqAt.EqAt.int_bool a t1 b
 |.int a,.int b,n,x,y,u,v,A,oa,ob,qa,qb,ra,rb,hu=>by
   cases (show x=.int a from qa)
   obtain ⟨t1,rfl⟩:=ra
   cases (show y=.int b from qb)
   obtain ⟨t2,rfl⟩:=rb
   exact SeqAt.EqAt.int_int a t1 b t2
 |.int a,.str b,n,x,y,u,v,A,oa,ob,qa,qb,ra,rb,hu=>by
   cases (show x=.int a from qa)
   obtain ⟨t1,rfl⟩:=ra
   cases (show y=.str b from qb)
   obtain ⟨t2,rfl⟩:=rb
   exact SeqAt.EqAt.int_str a t1 b t2
 |.int a,.tup es,n,x,y,u,v,A,oa,ob,qa,qb,ra,rb,hu=>by
   cases (show x=.int a from qa)
   obtain ⟨t1,rfl⟩:=ra
   obtain ⟨l2,ys,e2,h2,r2⟩:=qb
   subst e2
   cases rb
   obtain ⟨js,w2,p2,_⟩:=I.tuple (hF.tup h2)
   exact SeqAt.EqAt.int_tuple a t1 (show s.heap.IsTuple l2 js.toArray from p2) (by omega)
 |.int a,.lst es,n,x,y,u,v,A,oa,ob,qa,qb,ra,rb,hu=>by
   cases (show x=.int a from qa)
   obtain ⟨t1,rfl⟩:=ra
   obtain ⟨l2,ys,e2,h2,r2⟩:=qb
   subst e2
   cases rb
   obtain ⟨js,w2,p2,_⟩:=I.list (hF.lst h2)
   exact SeqAt.EqAt.int_list a t1 p2.isList (by omega)
 |.str a,.non,n,x,y,u,v,A,oa,ob,qa,qb,ra,rb,hu=>by
   cases (show x=.str a from qa)
   obtain ⟨t1,rfl⟩:=ra
   cases (show y=.non from qb)
   cases rb
   exact SeqAt.EqAt.str_none a t1
 |.str a,.bl b,n,x,y,u,v,A,oa,ob,qa,qb,ra,rb,hu=>by
   cases (show x=.str a from qa)
   obtain ⟨t1,rfl⟩:=ra
   cases (show y=.bl b from qb)
   cases rb
   exact SeqAt.EqAt.str_bool a t1 b
 |.str a,.int b,n,x,y,u,v,A,oa,ob,qa,qb,ra,rb,hu=>by
   cases (show x=.str a from qa)
   obtain ⟨t1,rfl⟩:=ra
   cases (show y=.int b from qb)
   obtain ⟨t2,rfl⟩:=rb
   exact SeqAt.EqAt.str_int a t1 b t2
 |.str a,.str b,n,x,y,u,v,A,oa,ob,qa,qb,ra,rb,hu=>by
   cases (show x=.str a from qa)
   obtain ⟨t1,rfl⟩:=ra
   cases (show y=.str b from qb)
   obtain ⟨t2,rfl⟩:=rb
   exact SeqAt.EqAt.str_str a t1 b t2
 |.str a,.tup es,n,x,y,u,v,A,oa,ob,qa,qb,ra,rb,hu=>by
   cases (show x=.str a from qa)
   obtain ⟨t1,rfl⟩:=ra
   obtain ⟨l2,ys,e2,h2,r2⟩:=qb
   subst e2
   cases rb
   obtain ⟨js,w2,p2,_⟩:=I.tuple (hF.tup h2)
   exact SeqAt.EqAt.str_tuple a t1 (show s.heap.IsTuple l2 js.toArray from p2) (by omega)
 |.str a,.lst es,n,x,y,u,v,A,oa,ob,qa,qb,ra,rb,hu=>by
   cases (show x=.str a from qa)
   obtain ⟨t1,rfl⟩:=ra
   obtain ⟨l2,ys,e2,h2,r2⟩:=qb
   subst e2
   cases rb
   obtain ⟨js,w2,p2,_⟩:=I.list (hF.lst h2)
   exact SeqAt.EqAt.str_list a t1 p2.isList (by omega)
 |.tup ds,.non,n,x,y,u,v,A,oa,ob,qa,qb,ra,rb,hu=>by
   obtain ⟨l1,xs,e1,h1,r1⟩:=qa
   subst e1
   cases ra
   obtain ⟨is,w1,p1,_⟩:=I.tuple (hF.tup h1)
   cases (show y=.non from qb)
   cases rb
   exact SeqAt.EqAt.tuple_none (show s.heap.IsTuple l1 is.toArray from p1) (by omega)
 |.tup ds,.bl b,n,x,y,u,v,A,oa,ob,qa,qb,ra,rb,hu=>by
   obtain ⟨l1,xs,e1,h1,r1⟩:=qa
   subst e1
   cases ra
   obtain ⟨is,w1,p1,_⟩:=I.tuple (hF.tup h1)
   cases (show y=.bl b from qb)
   cases rb
   exact SeqAt.EqAt.tuple_bool b (show s.heap.IsTuple l1 is.toArray from p1) (by omega)
 |.tup ds,.int b,n,x,y,u,v,A,oa,ob,qa,qb,ra,rb,hu=>by
   obtain ⟨l1,xs,e1,h1,r1⟩:=qa
   subst e1
   cases ra
   obtain ⟨is,w1,p1,_⟩:=I.tuple (hF.tup h1)
   cases (show y=.int b from qb)
   obtain ⟨t2,rfl⟩:=rb
   exact SeqAt.EqAt.tuple_int b t2 (show s.heap.IsTuple l1 is.toArray from p1) (by omega)
 |.tup ds,.str b,n,x,y,u,v,A,oa,ob,qa,qb,ra,rb,hu=>by
   obtain ⟨l1,xs,e1,h1,r1⟩:=qa
   subst e1
   cases ra
   obtain ⟨is,w1,p1,_⟩:=I.tuple (hF.tup h1)
   cases (show y=.str b from qb)
   obtain ⟨t2,rfl⟩:=rb
   exact SeqAt.EqAt.tuple_str b t2 (show s.heap.IsTuple l1 is.toArray from p1) (by omega)
 |.tup ds,.tup es,n,x,y,u,v,A,oa,ob,qa,qb,ra,rb,hu=>by
   obtain ⟨l1,xs,e1,h1,r1⟩:=qa
   subst e1
   cases ra
   obtain ⟨is,w1,p1,_⟩:=I.tuple (hF.tup h1)
   obtain ⟨l2,ys,e2,h2,r2⟩:=qb
   subst e2
   cases rb
   obtain ⟨js,w2,p2,_⟩:=I.tuple (hF.tup h2)
   have z1:=w1.length
   have z2:=w2.length
   have y1:=r1.length
   have y2:=r2.length
   cases n with
   |zero=>exact absurd oa (by simp [okE])
   |succ n=>
    have oa':jQ ds n=true:=by simpa only [okE] using oa
    have ob':jQ es n=true:=by simpa only [okE] using ob
    by_cases hab:l1=l2
    ·subst hab
     have e3:=SqT.inj I (hF.tup h1) (hF.tup h2)
     subst e3
     have e4:ds=es:=lD I hF ds es r1 r2 oa' ob'
     subst e4
     rw [sZ (n:=n+1) oa]
     exact SeqAt.EqAt.same _
    ·have q:=SeqAt.RcAt.tuples (A:=A) (e:=gT ds es) (show s.heap.IsTuple l1 is.toArray from p1) (show s.heap.IsTuple l2 js.toArray from p2) (by omega) (fun j h1 h2=>by
      obtain ⟨x',f1,g1⟩:=w1.atA h1
      obtain ⟨y',f2,g2⟩:=w2.atA h2
      obtain ⟨d1,k1,m1⟩:=r1.at f1
      obtain ⟨d2,k2,m2⟩:=r2.at f2
      have q:=n8 I hF ds j d1 k1 d2 (n:=n) (A:=A.in1) (di oa' k1) (di ob' k2) m1 m2 g1 g2 (by show A.units+1+n<cLine;omega)
      have e5:gT ds es j=eqD d1 d2:=by simp only [gT,k1,k2]
      rw [e5]
      exact q
      )
     have ez:is.toArray.size=ds.length:=by simp;omega
     have ez2:js.toArray.size=es.length:=by simp;omega
     rw [ez,ez2,sY _ (fun j a b h1 h2=>by simp only [gT,h1,h2])] at q
     exact SeqAt.EqAt.of_refs hab q
 |.tup ds,.lst es,n,x,y,u,v,A,oa,ob,qa,qb,ra,rb,hu=>by
   obtain ⟨l1,xs,e1,h1,r1⟩:=qa
   subst e1
   cases ra
   obtain ⟨is,w1,p1,_⟩:=I.tuple (hF.tup h1)
   obtain ⟨l2,ys,e2,h2,r2⟩:=qb
   subst e2
   cases rb
   obtain ⟨js,w2,p2,_⟩:=I.list (hF.lst h2)
   exact SeqAt.EqAt.tuple_list (show s.heap.IsTuple l1 is.toArray from p1) p2.isList (by omega)
 |.lst ds,.non,n,x,y,u,v,A,oa,ob,qa,qb,ra,rb,hu=>by
   obtain ⟨l1,xs,e1,h1,r1⟩:=qa
   subst e1
   cases ra
   obtain ⟨is,w1,p1,_⟩:=I.list (hF.lst h1)
   cases (show y=.non from qb)
   cases rb
   exact SeqAt.EqAt.list_none p1.isList (by omega)
 |.lst ds,.bl b,n,x,y,u,v,A,oa,ob,qa,qb,ra,rb,hu=>by
   obtain ⟨l1,xs,e1,h1,r1⟩:=qa
   subst e1
   cases ra
   obtain ⟨is,w1,p1,_⟩:=I.list (hF.lst h1)
   cases (show y=.bl b from qb)
   cases rb
   exact SeqAt.EqAt.list_bool b p1.isList (by omega)
 |.lst ds,.int b,n,x,y,u,v,A,oa,ob,qa,qb,ra,rb,hu=>by
   obtain ⟨l1,xs,e1,h1,r1⟩:=qa
   subst e1
   cases ra
   obtain ⟨is,w1,p1,_⟩:=I.list (hF.lst h1)
   cases (show y=.int b from qb)
   obtain ⟨t2,rfl⟩:=rb
   exact SeqAt.EqAt.list_int b t2 p1.isList (by omega)
 |.lst ds,.str b,n,x,y,u,v,A,oa,ob,qa,qb,ra,rb,hu=>by
   obtain ⟨l1,xs,e1,h1,r1⟩:=qa
   subst e1
   cases ra
   obtain ⟨is,w1,p1,_⟩:=I.list (hF.lst h1)
   cases (show y=.str b from qb)
   obtain ⟨t2,rfl⟩:=rb
   exact SeqAt.EqAt.list_str b t2 p1.isList (by omega)
 |.lst ds,.tup es,n,x,y,u,v,A,oa,ob,qa,qb,ra,rb,hu=>by
   obtain ⟨l1,xs,e1,h1,r1⟩:=qa
   subst e1
   cases ra
   obtain ⟨is,w1,p1,_⟩:=I.list (hF.lst h1)
   obtain ⟨l2,ys,e2,h2,r2⟩:=qb
   subst e2
   cases rb
   obtain ⟨js,w2,p2,_⟩:=I.tuple (hF.tup h2)
   exact SeqAt.EqAt.list_tuple p1.isList (show s.heap.IsTuple l2 js.toArray from p2) (by omega)
 |.lst ds,.lst es,n,x,y,u,v,A,oa,ob,qa,qb,ra,rb,hu=>by
   obtain ⟨l1,xs,e1,h1,r1⟩:=qa
   subst e1
   cases ra
   obtain ⟨is,w1,p1,_⟩:=I.list (hF.lst h1)
   obtain ⟨l2,ys,e2,h2,r2⟩:=qb
   subst e2
   cases rb
   obtain ⟨js,w2,p2,_⟩:=I.list (hF.lst h2)
   have z1:=w1.length
   have z2:=w2.length
   have y1:=r1.length
   have y2:=r2.length
   cases n with
   |zero=>exact absurd oa (by simp [okE])
   |succ n=>
    have oa':jQ ds n=true:=by simpa only [okE] using oa
    have ob':jQ es n=true:=by simpa only [okE] using ob
    by_cases hab:l1=l2
    ·subst hab
     have e3:=SqL.inj I (hF.lst h1) (hF.lst h2)
     subst e3
     have e4:ds=es:=lD I hF ds es r1 r2 oa' ob'
     subst e4
     rw [sZ (n:=n+1) oa]
     exact SeqAt.EqAt.same _
    ·by_cases hl:ds.length=es.length
     ·have q:=SeqAt.RcAt.lists (A:=A) (e:=gT ds es) p1.isList p2.isList (by simp;omega) (by omega) (fun j h1 h2=>by
       obtain ⟨x',f1,g1⟩:=w1.atA h1
       obtain ⟨y',f2,g2⟩:=w2.atA h2
       obtain ⟨d1,k1,m1⟩:=r1.at f1
       obtain ⟨d2,k2,m2⟩:=r2.at f2
       have q:=n8 I hF ds j d1 k1 d2 (n:=n) (A:=A.in1) (di oa' k1) (di ob' k2) m1 m2 g1 g2 (by show A.units+1+n<cLine;omega)
       have e5:gT ds es j=eqD d1 d2:=by simp only [gT,k1,k2]
       rw [e5]
       exact q
       )
      have ez:is.toArray.size=ds.length:=by simp;omega
      rw [ez,aB.all_eq (F:=F) _ hl (fun j a b h1 h2=>by simp only [gT,h1,h2])] at q
      exact SeqAt.EqAt.of_refs hab q
     ·rw [show eqD (.lst ds) (.lst es)=false from nH hl]
      exact SeqAt.EqAt.of_refs hab (SeqAt.RcAt.lists_lengths (A:=A) p1.isList p2.isList (by simp;omega) (by omega))
 |.ins _ _,_,_,_,_,_,_,_,oa,_,_,_,_,_,_=>by simp [okE] at oa
 |_,.ins _ _,_,_,_,_,_,_,_,ob,_,_,_,_,_=>by simp [okE] at ob
theorem n8 {pins:List (Addr×Obj)} {σ:St} {F H:Hp} {s:Shared} (I:Inv X pins σ H s) (hF:b0 F H):∀(ds:List Dat) (j:Nat) (a:Dat),ds[j]? =some a->∀(b:Dat) {n:Nat} {x y:V} {u v:Value} {A:Around},okE a n=true->okE b n=true->cf X.K F a x->cf X.K F b y->RelV x u->RelV y v->A.units+n<cLine->SeqAt.EqAt A s u v (eqD a b)
 |[],j,_,h=>by simp at h
 |d::ds,0,_,h=>by
  simp only [List.getElem?_cons_zero,Option.some.injEq] at h
  subst h
  exact AF I hF d
 |d::ds,j+1,a,h=>n8 I hF ds j a (by simpa using h)
end
theorem rcAt_D {pins:List (Addr×Obj)} {σ:St} {F H:Hp} {s:Shared} (I:Inv X pins σ H s) (hF:b0 F H):∀(a b:Dat) {n:Nat} {x y:V} {u v:Value} {A:Around},okE a n=true->okE b n=true->cf X.K F a x->cf X.K F b y->RelV x u->RelV y v->A.units+n<cLine->SeqAt.RcAt A s u v (eqD a b)
 |.non,.non,n,x,y,u,v,A,oa,ob,qa,qb,ra,rb,hu=>by
   cases (show x=.non from qa)
   cases ra
   cases (show y=.non from qb)
   cases rb
   exact SeqAt.RcAt.none_none
 |.non,.bl b,n,x,y,u,v,A,oa,ob,qa,qb,ra,rb,hu=>by
   cases (show x=.non from qa)
   cases ra
   cases (show y=.bl b from qb)
   cases rb
   exact SeqAt.RcAt.none_bool b
 |.non,.int b,n,x,y,u,v,A,oa,ob,qa,qb,ra,rb,hu=>by
   cases (show x=.non from qa)
   cases ra
   cases (show y=.int b from qb)
   obtain ⟨t2,rfl⟩:=rb
   exact SeqAt.RcAt.none_int b t2
 |.non,.str b,n,x,y,u,v,A,oa,ob,qa,qb,ra,rb,hu=>by
   cases (show x=.non from qa)
   cases ra
   cases (show y=.str b from qb)
   obtain ⟨t2,rfl⟩:=rb
   exact SeqAt.RcAt.none_str b t2
 |.non,.tup es,n,x,y,u,v,A,oa,ob,qa,qb,ra,rb,hu=>by
   cases (show x=.non from qa)
   cases ra
   obtain ⟨l2,ys,e2,h2,r2⟩:=qb
   subst e2
   cases rb
   obtain ⟨js,w2,p2,_⟩:=I.tuple (hF.tup h2)
   exact SeqAt.RcAt.none_tuple (show s.heap.IsTuple l2 js.toArray from p2) (by omega)
 |.non,.lst es,n,x,y,u,v,A,oa,ob,qa,qb,ra,rb,hu=>by
   cases (show x=.non from qa)
   cases ra
   obtain ⟨l2,ys,e2,h2,r2⟩:=qb
   subst e2
   cases rb
   obtain ⟨js,w2,p2,_⟩:=I.list (hF.lst h2)
   exact SeqAt.RcAt.none_list p2.isList (by omega)
 |.bl a,.non,n,x,y,u,v,A,oa,ob,qa,qb,ra,rb,hu=>by
   cases (show x=.bl a from qa)
   cases ra
   cases (show y=.non from qb)
   cases rb
   exact SeqAt.RcAt.bool_none a
 |.bl a,.bl b,n,x,y,u,v,A,oa,ob,qa,qb,ra,rb,hu=>by
   cases (show x=.bl a from qa)
   cases ra
   cases (show y=.bl b from qb)
   cases rb
   exact SeqAt.RcAt.bool_bool a b
 |.bl a,.int b,n,x,y,u,v,A,oa,ob,qa,qb,ra,rb,hu=>by
   cases (show x=.bl a from qa)
   cases ra
   cases (show y=.int b from qb)
   obtain ⟨t2,rfl⟩:=rb
   exact SeqAt.RcAt.bool_int a b t2
 |.bl a,.str b,n,x,y,u,v,A,oa,ob,qa,qb,ra,rb,hu=>by
   cases (show x=.bl a from qa)
   cases ra
   cases (show y=.str b from qb)
   obtain ⟨t2,rfl⟩:=rb
   exact SeqAt.RcAt.bool_str a b t2
 |.bl a,.tup es,n,x,y,u,v,A,oa,ob,qa,qb,ra,rb,hu=>by
   cases (show x=.bl a from qa)
   cases ra
   obtain ⟨l2,ys,e2,h2,r2⟩:=qb
   subst e2
   cases rb
   obtain ⟨js,w2,p2,_⟩:=I.tuple (hF.tup h2)
   exact SeqAt.RcAt.bool_tuple a (show s.heap.IsTuple l2 js.toArray from p2) (by omega)
 |.bl a,.lst es,n,x,y,u,v,A,oa,ob,qa,qb,ra,rb,hu=>by
   cases (show x=.bl a from qa)
   cases ra
   obtain ⟨l2,ys,e2,h2,r2⟩:=qb
   subst e2
   cases rb
   obtain ⟨js,w2,p2,_⟩:=I.list (hF.lst h2)
   exact SeqAt.RcAt.bool_list a p2.isList (by omega)
 |.int a,.non,n,x,y,u,v,A,oa,ob,qa,qb,ra,rb,hu=>by
   cases (show x=.int a from qa)
   obtain ⟨t1,rfl⟩:=ra
   cases (show y=.non from qb)
   cases rb
   exact SeqAt.RcAt.int_none a t1
 |.int a,.bl b,n,x,y,u,v,A,oa,ob,qa,qb,ra,rb,hu=>by
   cases (show x=.int a from qa)
   obtain ⟨t1,rfl⟩:=ra
   cases (show y=.bl b from qb)
   cases rb
   exact SeqAt.RcAt.int_bool a t1 b
 |.int a,.int b,n,x,y,u,v,A,oa,ob,qa,qb,ra,rb,hu=>by
   cases (show x=.int a from qa)
   obtain ⟨t1,rfl⟩:=ra
   cases (show y=.int b from qb)
   obtain ⟨t2,rfl⟩:=rb
   exact SeqAt.RcAt.int_int a t1 b t2
 |.int a,.str b,n,x,y,u,v,A,oa,ob,qa,qb,ra,rb,hu=>by
   cases (show x=.int a from qa)
   obtain ⟨t1,rfl⟩:=ra
   cases (show y=.str b from qb)
   obtain ⟨t2,rfl⟩:=rb
   exact SeqAt.RcAt.int_str a t1 b t2
 |.int a,.tup es,n,x,y,u,v,A,oa,ob,qa,qb,ra,rb,hu=>by
   cases (show x=.int a from qa)
   obtain ⟨t1,rfl⟩:=ra
   obtain ⟨l2,ys,e2,h2,r2⟩:=qb
   subst e2
   cases rb
   obtain ⟨js,w2,p2,_⟩:=I.tuple (hF.tup h2)
   exact SeqAt.RcAt.int_tuple a t1 (show s.heap.IsTuple l2 js.toArray from p2) (by omega)
 |.int a,.lst es,n,x,y,u,v,A,oa,ob,qa,qb,ra,rb,hu=>by
   cases (show x=.int a from qa)
   obtain ⟨t1,rfl⟩:=ra
   obtain ⟨l2,ys,e2,h2,r2⟩:=qb
   subst e2
   cases rb
   obtain ⟨js,w2,p2,_⟩:=I.list (hF.lst h2)
   exact SeqAt.RcAt.int_list a t1 p2.isList (by omega)
 |.str a,.non,n,x,y,u,v,A,oa,ob,qa,qb,ra,rb,hu=>by
   cases (show x=.str a from qa)
   obtain ⟨t1,rfl⟩:=ra
   cases (show y=.non from qb)
   cases rb
   exact SeqAt.RcAt.str_none a t1
 |.str a,.bl b,n,x,y,u,v,A,oa,ob,qa,qb,ra,rb,hu=>by
   cases (show x=.str a from qa)
   obtain ⟨t1,rfl⟩:=ra
   cases (show y=.bl b from qb)
   cases rb
   exact SeqAt.RcAt.str_bool a t1 b
 |.str a,.int b,n,x,y,u,v,A,oa,ob,qa,qb,ra,rb,hu=>by
   cases (show x=.str a from qa)
   obtain ⟨t1,rfl⟩:=ra
   cases (show y=.int b from qb)
   obtain ⟨t2,rfl⟩:=rb
   exact SeqAt.RcAt.str_int a t1 b t2
 |.str a,.str b,n,x,y,u,v,A,oa,ob,qa,qb,ra,rb,hu=>by
   cases (show x=.str a from qa)
   obtain ⟨t1,rfl⟩:=ra
   cases (show y=.str b from qb)
   obtain ⟨t2,rfl⟩:=rb
   exact SeqAt.RcAt.str_str a t1 b t2
 |.str a,.tup es,n,x,y,u,v,A,oa,ob,qa,qb,ra,rb,hu=>by
   cases (show x=.str a from qa)
   obtain ⟨t1,rfl⟩:=ra
   obtain ⟨l2,ys,e2,h2,r2⟩:=qb
   subst e2
   cases rb
   obtain ⟨js,w2,p2,_⟩:=I.tuple (hF.tup h2)
   exact SeqAt.RcAt.str_tuple a t1 (show s.heap.IsTuple l2 js.toArray from p2) (by omega)
 |.str a,.lst es,n,x,y,u,v,A,oa,ob,qa,qb,ra,rb,hu=>by
   cases (show x=.str a from qa)
   obtain ⟨t1,rfl⟩:=ra
   obtain ⟨l2,ys,e2,h2,r2⟩:=qb
   subst e2
   cases rb
   obtain ⟨js,w2,p2,_⟩:=I.list (hF.lst h2)
   exact SeqAt.RcAt.str_list a t1 p2.isList (by omega)
 |.tup ds,.non,n,x,y,u,v,A,oa,ob,qa,qb,ra,rb,hu=>by
   obtain ⟨l1,xs,e1,h1,r1⟩:=qa
   subst e1
   cases ra
   obtain ⟨is,w1,p1,_⟩:=I.tuple (hF.tup h1)
   cases (show y=.non from qb)
   cases rb
   exact SeqAt.RcAt.tuple_none (show s.heap.IsTuple l1 is.toArray from p1) (by omega)
 |.tup ds,.bl b,n,x,y,u,v,A,oa,ob,qa,qb,ra,rb,hu=>by
   obtain ⟨l1,xs,e1,h1,r1⟩:=qa
   subst e1
   cases ra
   obtain ⟨is,w1,p1,_⟩:=I.tuple (hF.tup h1)
   cases (show y=.bl b from qb)
   cases rb
   exact SeqAt.RcAt.tuple_bool b (show s.heap.IsTuple l1 is.toArray from p1) (by omega)
 |.tup ds,.int b,n,x,y,u,v,A,oa,ob,qa,qb,ra,rb,hu=>by
   obtain ⟨l1,xs,e1,h1,r1⟩:=qa
   subst e1
   cases ra
   obtain ⟨is,w1,p1,_⟩:=I.tuple (hF.tup h1)
   cases (show y=.int b from qb)
   obtain ⟨t2,rfl⟩:=rb
   exact SeqAt.RcAt.tuple_int b t2 (show s.heap.IsTuple l1 is.toArray from p1) (by omega)
 |.tup ds,.str b,n,x,y,u,v,A,oa,ob,qa,qb,ra,rb,hu=>by
   obtain ⟨l1,xs,e1,h1,r1⟩:=qa
   subst e1
   cases ra
   obtain ⟨is,w1,p1,_⟩:=I.tuple (hF.tup h1)
   cases (show y=.str b from qb)
   obtain ⟨t2,rfl⟩:=rb
   exact SeqAt.RcAt.tuple_str b t2 (show s.heap.IsTuple l1 is.toArray from p1) (by omega)
 |.tup ds,.tup es,n,x,y,u,v,A,oa,ob,qa,qb,ra,rb,hu=>by
   obtain ⟨l1,xs,e1,h1,r1⟩:=qa
   subst e1
   cases ra
   obtain ⟨is,w1,p1,_⟩:=I.tuple (hF.tup h1)
   obtain ⟨l2,ys,e2,h2,r2⟩:=qb
   subst e2
   cases rb
   obtain ⟨js,w2,p2,_⟩:=I.tuple (hF.tup h2)
   have z1:=w1.length
   have z2:=w2.length
   have y1:=r1.length
   have y2:=r2.length
   cases n with
   |zero=>exact absurd oa (by simp [okE])
   |succ n=>
    have oa':jQ ds n=true:=by simpa only [okE] using oa
    have ob':jQ es n=true:=by simpa only [okE] using ob
    have q:=SeqAt.RcAt.tuples (A:=A) (e:=gT ds es) (show s.heap.IsTuple l1 is.toArray from p1) (show s.heap.IsTuple l2 js.toArray from p2) (by omega) (fun j h1 h2=>by
     obtain ⟨x',f1,g1⟩:=w1.atA h1
     obtain ⟨y',f2,g2⟩:=w2.atA h2
     obtain ⟨d1,k1,m1⟩:=r1.at f1
     obtain ⟨d2,k2,m2⟩:=r2.at f2
     have q:=n8 I hF ds j d1 k1 d2 (n:=n) (A:=A.in1) (di oa' k1) (di ob' k2) m1 m2 g1 g2 (by show A.units+1+n<cLine;omega)
     have e5:gT ds es j=eqD d1 d2:=by simp only [gT,k1,k2]
     rw [e5]
     exact q
     )
    have ez:is.toArray.size=ds.length:=by simp;omega
    have ez2:js.toArray.size=es.length:=by simp;omega
    rw [ez,ez2,sY _ (fun j a b h1 h2=>by simp only [gT,h1,h2])] at q
    exact q
 |.tup ds,.lst es,n,x,y,u,v,A,oa,ob,qa,qb,ra,rb,hu=>by
   obtain ⟨l1,xs,e1,h1,r1⟩:=qa
   subst e1
   cases ra
   obtain ⟨is,w1,p1,_⟩:=I.tuple (hF.tup h1)
   obtain ⟨l2,ys,e2,h2,r2⟩:=qb
   subst e2
   cases rb
   obtain ⟨js,w2,p2,_⟩:=I.list (hF.lst h2)
   exact SeqAt.RcAt.tuple_list (show s.heap.IsTuple l1 is.toArray from p1) p2.isList (by omega)
 |.lst ds,.non,n,x,y,u,v,A,oa,ob,qa,qb,ra,rb,hu=>by
   obtain ⟨l1,xs,e1,h1,r1⟩:=qa
   subst e1
   cases ra
   obtain ⟨is,w1,p1,_⟩:=I.list (hF.lst h1)
   cases (show y=.non from qb)
   cases rb
   exact SeqAt.RcAt.list_none p1.isList (by omega)
 |.lst ds,.bl b,n,x,y,u,v,A,oa,ob,qa,qb,ra,rb,hu=>by
   obtain ⟨l1,xs,e1,h1,r1⟩:=qa
   subst e1
   cases ra
   obtain ⟨is,w1,p1,_⟩:=I.list (hF.lst h1)
   cases (show y=.bl b from qb)
   cases rb
   exact SeqAt.RcAt.list_bool b p1.isList (by omega)
 |.lst ds,.int b,n,x,y,u,v,A,oa,ob,qa,qb,ra,rb,hu=>by
   obtain ⟨l1,xs,e1,h1,r1⟩:=qa
   subst e1
   cases ra
   obtain ⟨is,w1,p1,_⟩:=I.list (hF.lst h1)
   cases (show y=.int b from qb)
   obtain ⟨t2,rfl⟩:=rb
   exact SeqAt.RcAt.list_int b t2 p1.isList (by omega)
 |.lst ds,.str b,n,x,y,u,v,A,oa,ob,qa,qb,ra,rb,hu=>by
   obtain ⟨l1,xs,e1,h1,r1⟩:=qa
   subst e1
   cases ra
   obtain ⟨is,w1,p1,_⟩:=I.list (hF.lst h1)
   cases (show y=.str b from qb)
   obtain ⟨t2,rfl⟩:=rb
   exact SeqAt.RcAt.list_str b t2 p1.isList (by omega)
 |.lst ds,.tup es,n,x,y,u,v,A,oa,ob,qa,qb,ra,rb,hu=>by
   obtain ⟨l1,xs,e1,h1,r1⟩:=qa
   subst e1
   cases ra
   obtain ⟨is,w1,p1,_⟩:=I.list (hF.lst h1)
   obtain ⟨l2,ys,e2,h2,r2⟩:=qb
   subst e2
   cases rb
   obtain ⟨js,w2,p2,_⟩:=I.tuple (hF.tup h2)
   exact SeqAt.RcAt.list_tuple p1.isList (show s.heap.IsTuple l2 js.toArray from p2) (by omega)
 |.lst ds,.lst es,n,x,y,u,v,A,oa,ob,qa,qb,ra,rb,hu=>by
   obtain ⟨l1,xs,e1,h1,r1⟩:=qa
   subst e1
   cases ra
   obtain ⟨is,w1,p1,_⟩:=I.list (hF.lst h1)
   obtain ⟨l2,ys,e2,h2,r2⟩:=qb
   subst e2
   cases rb
   obtain ⟨js,w2,p2,_⟩:=I.list (hF.lst h2)
   have z1:=w1.length
   have z2:=w2.length
   have y1:=r1.length
   have y2:=r2.length
   cases n with
   |zero=>exact absurd oa (by simp [okE])
   |succ n=>
    have oa':jQ ds n=true:=by simpa only [okE] using oa
    have ob':jQ es n=true:=by simpa only [okE] using ob
    by_cases hl:ds.length=es.length
    ·have q:=SeqAt.RcAt.lists (A:=A) (e:=gT ds es) p1.isList p2.isList (by simp;omega) (by omega) (fun j h1 h2=>by
      obtain ⟨x',f1,g1⟩:=w1.atA h1
      obtain ⟨y',f2,g2⟩:=w2.atA h2
      obtain ⟨d1,k1,m1⟩:=r1.at f1
      obtain ⟨d2,k2,m2⟩:=r2.at f2
      have q:=n8 I hF ds j d1 k1 d2 (n:=n) (A:=A.in1) (di oa' k1) (di ob' k2) m1 m2 g1 g2 (by show A.units+1+n<cLine;omega)
      have e5:gT ds es j=eqD d1 d2:=by simp only [gT,k1,k2]
      rw [e5]
      exact q
      )
     have ez:is.toArray.size=ds.length:=by simp;omega
     rw [ez,aB.all_eq (F:=F) _ hl (fun j a b h1 h2=>by simp only [gT,h1,h2])] at q
     exact q
    ·rw [show eqD (.lst ds) (.lst es)=false from nH hl]
     exact SeqAt.RcAt.lists_lengths (A:=A) p1.isList p2.isList (by simp;omega) (by omega)
 |.ins _ _,_,_,_,_,_,_,_,oa,_,_,_,_,_,_=>by simp [okE] at oa
 |_,.ins _ _,_,_,_,_,_,_,_,ob,_,_,_,_,_=>by simp [okE] at ob
theorem rcNeAt_D {pins:List (Addr×Obj)} {σ:St} {F H:Hp} {s:Shared} (I:Inv X pins σ H s) (hF:b0 F H):∀(a b:Dat) {n:Nat} {x y:V} {u v:Value} {A:Around},okE a n=true->okE b n=true->cf X.K F a x->cf X.K F b y->RelV x u->RelV y v->A.units+n<cLine->SeqAt.RcNeAt A s u v (!eqD a b)
 |.non,.non,n,x,y,u,v,A,oa,ob,qa,qb,ra,rb,hu=>by
   cases (show x=.non from qa)
   cases ra
   cases (show y=.non from qb)
   cases rb
   exact SeqAt.RcNeAt.none_none
 |.non,.bl b,n,x,y,u,v,A,oa,ob,qa,qb,ra,rb,hu=>by
   cases (show x=.non from qa)
   cases ra
   cases (show y=.bl b from qb)
   cases rb
   exact SeqAt.RcNeAt.none_bool b
 |.non,.int b,n,x,y,u,v,A,oa,ob,qa,qb,ra,rb,hu=>by
   cases (show x=.non from qa)
   cases ra
   cases (show y=.int b from qb)
   obtain ⟨t2,rfl⟩:=rb
   exact SeqAt.RcNeAt.none_int b t2
 |.non,.str b,n,x,y,u,v,A,oa,ob,qa,qb,ra,rb,hu=>by
   cases (show x=.non from qa)
   cases ra
   cases (show y=.str b from qb)
   obtain ⟨t2,rfl⟩:=rb
   exact SeqAt.RcNeAt.none_str b t2
 |.non,.tup es,n,x,y,u,v,A,oa,ob,qa,qb,ra,rb,hu=>by
   cases (show x=.non from qa)
   cases ra
   obtain ⟨l2,ys,e2,h2,r2⟩:=qb
   subst e2
   cases rb
   obtain ⟨js,w2,p2,_⟩:=I.tuple (hF.tup h2)
   exact SeqAt.RcNeAt.none_tuple (show s.heap.IsTuple l2 js.toArray from p2) (by omega)
 |.non,.lst es,n,x,y,u,v,A,oa,ob,qa,qb,ra,rb,hu=>by
   cases (show x=.non from qa)
   cases ra
   obtain ⟨l2,ys,e2,h2,r2⟩:=qb
   subst e2
   cases rb
   obtain ⟨js,w2,p2,_⟩:=I.list (hF.lst h2)
   exact SeqAt.RcNeAt.none_list p2.isList (by omega)
 |.bl a,.non,n,x,y,u,v,A,oa,ob,qa,qb,ra,rb,hu=>by
   cases (show x=.bl a from qa)
   cases ra
   cases (show y=.non from qb)
   cases rb
   exact SeqAt.RcNeAt.bool_none a
 |.bl a,.bl b,n,x,y,u,v,A,oa,ob,qa,qb,ra,rb,hu=>by
   cases (show x=.bl a from qa)
   cases ra
   cases (show y=.bl b from qb)
   cases rb
   exact SeqAt.RcNeAt.bool_bool a b
 |.bl a,.int b,n,x,y,u,v,A,oa,ob,qa,qb,ra,rb,hu=>by
   cases (show x=.bl a from qa)
   cases ra
   cases (show y=.int b from qb)
   obtain ⟨t2,rfl⟩:=rb
   exact SeqAt.RcNeAt.bool_int a b t2
 |.bl a,.str b,n,x,y,u,v,A,oa,ob,qa,qb,ra,rb,hu=>by
   cases (show x=.bl a from qa)
   cases ra
   cases (show y=.str b from qb)
   obtain ⟨t2,rfl⟩:=rb
   exact SeqAt.RcNeAt.bool_str a b t2
 |.bl a,.tup es,n,x,y,u,v,A,oa,ob,qa,qb,ra,rb,hu=>by
   cases (show x=.bl a from qa)
   cases ra
   obtain ⟨l2,ys,e2,h2,r2⟩:=qb
   subst e2
   cases rb
   obtain ⟨js,w2,p2,_⟩:=I.tuple (hF.tup h2)
   exact SeqAt.RcNeAt.bool_tuple a (show s.heap.IsTuple l2 js.toArray from p2) (by omega)
 |.bl a,.lst es,n,x,y,u,v,A,oa,ob,qa,qb,ra,rb,hu=>by
   cases (show x=.bl a from qa)
   cases ra
   obtain ⟨l2,ys,e2,h2,r2⟩:=qb
   subst e2
   cases rb
   obtain ⟨js,w2,p2,_⟩:=I.list (hF.lst h2)
   exact SeqAt.RcNeAt.bool_list a p2.isList (by omega)
 |.int a,.non,n,x,y,u,v,A,oa,ob,qa,qb,ra,rb,hu=>by
   cases (show x=.int a from qa)
   obtain ⟨t1,rfl⟩:=ra
   cases (show y=.non from qb)
   cases rb
   exact SeqAt.RcNeAt.int_none a t1
 |.int a,.bl b,n,x,y,u,v,A,oa,ob,qa,qb,ra,rb,hu=>by
   cases (show x=.int a from qa)
   obtain ⟨t1,rfl⟩:=ra
   cases (show y=.bl b from qb)
   cases rb
   exact SeqAt.RcNeAt.int_bool a t1 b
 |.int a,.int b,n,x,y,u,v,A,oa,ob,qa,qb,ra,rb,hu=>by
   cases (show x=.int a from qa)
   obtain ⟨t1,rfl⟩:=ra
   cases (show y=.int b from qb)
   obtain ⟨t2,rfl⟩:=rb
   exact SeqAt.RcNeAt.int_int a t1 b t2
 |.int a,.str b,n,x,y,u,v,A,oa,ob,qa,qb,ra,rb,hu=>by
   cases (show x=.int a from qa)
   obtain ⟨t1,rfl⟩:=ra
   cases (show y=.str b from qb)
   obtain ⟨t2,rfl⟩:=rb
   exact SeqAt.RcNeAt.int_str a t1 b t2
 |.int a,.tup es,n,x,y,u,v,A,oa,ob,qa,qb,ra,rb,hu=>by
   cases (show x=.int a from qa)
   obtain ⟨t1,rfl⟩:=ra
   obtain ⟨l2,ys,e2,h2,r2⟩:=qb
   subst e2
   cases rb
   obtain ⟨js,w2,p2,_⟩:=I.tuple (hF.tup h2)
   exact SeqAt.RcNeAt.int_tuple a t1 (show s.heap.IsTuple l2 js.toArray from p2) (by omega)
 |.int a,.lst es,n,x,y,u,v,A,oa,ob,qa,qb,ra,rb,hu=>by
   cases (show x=.int a from qa)
   obtain ⟨t1,rfl⟩:=ra
   obtain ⟨l2,ys,e2,h2,r2⟩:=qb
   subst e2
   cases rb
   obtain ⟨js,w2,p2,_⟩:=I.list (hF.lst h2)
   exact SeqAt.RcNeAt.int_list a t1 p2.isList (by omega)
 |.str a,.non,n,x,y,u,v,A,oa,ob,qa,qb,ra,rb,hu=>by
   cases (show x=.str a from qa)
   obtain ⟨t1,rfl⟩:=ra
   cases (show y=.non from qb)
   cases rb
   exact SeqAt.RcNeAt.str_none a t1
 |.str a,.bl b,n,x,y,u,v,A,oa,ob,qa,qb,ra,rb,hu=>by
   cases (show x=.str a from qa)
   obtain ⟨t1,rfl⟩:=ra
   cases (show y=.bl b from qb)
   cases rb
   exact SeqAt.RcNeAt.str_bool a t1 b
 |.str a,.int b,n,x,y,u,v,A,oa,ob,qa,qb,ra,rb,hu=>by
   cases (show x=.str a from qa)
   obtain ⟨t1,rfl⟩:=ra
   cases (show y=.int b from qb)
   obtain ⟨t2,rfl⟩:=rb
   exact SeqAt.RcNeAt.str_int a t1 b t2
 |.str a,.str b,n,x,y,u,v,A,oa,ob,qa,qb,ra,rb,hu=>by
   cases (show x=.str a from qa)
   obtain ⟨t1,rfl⟩:=ra
   cases (show y=.str b from qb)
   obtain ⟨t2,rfl⟩:=rb
   exact SeqAt.RcNeAt.str_str a t1 b t2
 |.str a,.tup es,n,x,y,u,v,A,oa,ob,qa,qb,ra,rb,hu=>by
   cases (show x=.str a from qa)
   obtain ⟨t1,rfl⟩:=ra
   obtain ⟨l2,ys,e2,h2,r2⟩:=qb
   subst e2
   cases rb
   obtain ⟨js,w2,p2,_⟩:=I.tuple (hF.tup h2)
   exact SeqAt.RcNeAt.str_tuple a t1 (show s.heap.IsTuple l2 js.toArray from p2) (by omega)
 |.str a,.lst es,n,x,y,u,v,A,oa,ob,qa,qb,ra,rb,hu=>by
   cases (show x=.str a from qa)
   obtain ⟨t1,rfl⟩:=ra
   obtain ⟨l2,ys,e2,h2,r2⟩:=qb
   subst e2
   cases rb
   obtain ⟨js,w2,p2,_⟩:=I.list (hF.lst h2)
   exact SeqAt.RcNeAt.str_list a t1 p2.isList (by omega)
 |.tup ds,.non,n,x,y,u,v,A,oa,ob,qa,qb,ra,rb,hu=>by
   obtain ⟨l1,xs,e1,h1,r1⟩:=qa
   subst e1
   cases ra
   obtain ⟨is,w1,p1,_⟩:=I.tuple (hF.tup h1)
   cases (show y=.non from qb)
   cases rb
   exact SeqAt.RcNeAt.tuple_none (show s.heap.IsTuple l1 is.toArray from p1) (by omega)
 |.tup ds,.bl b,n,x,y,u,v,A,oa,ob,qa,qb,ra,rb,hu=>by
   obtain ⟨l1,xs,e1,h1,r1⟩:=qa
   subst e1
   cases ra
   obtain ⟨is,w1,p1,_⟩:=I.tuple (hF.tup h1)
   cases (show y=.bl b from qb)
   cases rb
   exact SeqAt.RcNeAt.tuple_bool b (show s.heap.IsTuple l1 is.toArray from p1) (by omega)
 |.tup ds,.int b,n,x,y,u,v,A,oa,ob,qa,qb,ra,rb,hu=>by
   obtain ⟨l1,xs,e1,h1,r1⟩:=qa
   subst e1
   cases ra
   obtain ⟨is,w1,p1,_⟩:=I.tuple (hF.tup h1)
   cases (show y=.int b from qb)
   obtain ⟨t2,rfl⟩:=rb
   exact SeqAt.RcNeAt.tuple_int b t2 (show s.heap.IsTuple l1 is.toArray from p1) (by omega)
 |.tup ds,.str b,n,x,y,u,v,A,oa,ob,qa,qb,ra,rb,hu=>by
   obtain ⟨l1,xs,e1,h1,r1⟩:=qa
   subst e1
   cases ra
   obtain ⟨is,w1,p1,_⟩:=I.tuple (hF.tup h1)
   cases (show y=.str b from qb)
   obtain ⟨t2,rfl⟩:=rb
   exact SeqAt.RcNeAt.tuple_str b t2 (show s.heap.IsTuple l1 is.toArray from p1) (by omega)
 |.tup ds,.tup es,n,x,y,u,v,A,oa,ob,qa,qb,ra,rb,hu=>by
   obtain ⟨l1,xs,e1,h1,r1⟩:=qa
   subst e1
   cases ra
   obtain ⟨is,w1,p1,_⟩:=I.tuple (hF.tup h1)
   obtain ⟨l2,ys,e2,h2,r2⟩:=qb
   subst e2
   cases rb
   obtain ⟨js,w2,p2,_⟩:=I.tuple (hF.tup h2)
   have z1:=w1.length
   have z2:=w2.length
   have y1:=r1.length
   have y2:=r2.length
   cases n with
   |zero=>exact absurd oa (by simp [okE])
   |succ n=>
    have oa':jQ ds n=true:=by simpa only [okE] using oa
    have ob':jQ es n=true:=by simpa only [okE] using ob
    have q:=SeqAt.RcNeAt.tuples (A:=A) (e:=gT ds es) (show s.heap.IsTuple l1 is.toArray from p1) (show s.heap.IsTuple l2 js.toArray from p2) (by omega) (fun j h1 h2=>by
     obtain ⟨x',f1,g1⟩:=w1.atA h1
     obtain ⟨y',f2,g2⟩:=w2.atA h2
     obtain ⟨d1,k1,m1⟩:=r1.at f1
     obtain ⟨d2,k2,m2⟩:=r2.at f2
     have q:=n8 I hF ds j d1 k1 d2 (n:=n) (A:=A.in1) (di oa' k1) (di ob' k2) m1 m2 g1 g2 (by show A.units+1+n<cLine;omega)
     have e5:gT ds es j=eqD d1 d2:=by simp only [gT,k1,k2]
     rw [e5]
     exact q
     )
    have ez:is.toArray.size=ds.length:=by simp;omega
    have ez2:js.toArray.size=es.length:=by simp;omega
    rw [ez,ez2,sY _ (fun j a b h1 h2=>by simp only [gT,h1,h2])] at q
    exact q
 |.tup ds,.lst es,n,x,y,u,v,A,oa,ob,qa,qb,ra,rb,hu=>by
   obtain ⟨l1,xs,e1,h1,r1⟩:=qa
   subst e1
   cases ra
   obtain ⟨is,w1,p1,_⟩:=I.tuple (hF.tup h1)
   obtain ⟨l2,ys,e2,h2,r2⟩:=qb
   subst e2
   cases rb
   obtain ⟨js,w2,p2,_⟩:=I.list (hF.lst h2)
   exact SeqAt.RcNeAt.tuple_list (show s.heap.IsTuple l1 is.toArray from p1) p2.isList (by omega)
 |.lst ds,.non,n,x,y,u,v,A,oa,ob,qa,qb,ra,rb,hu=>by
   obtain ⟨l1,xs,e1,h1,r1⟩:=qa
   subst e1
   cases ra
   obtain ⟨is,w1,p1,_⟩:=I.list (hF.lst h1)
   cases (show y=.non from qb)
   cases rb
   exact SeqAt.RcNeAt.list_none p1.isList (by omega)
 |.lst ds,.bl b,n,x,y,u,v,A,oa,ob,qa,qb,ra,rb,hu=>by
   obtain ⟨l1,xs,e1,h1,r1⟩:=qa
   subst e1
   cases ra
   obtain ⟨is,w1,p1,_⟩:=I.list (hF.lst h1)
   cases (show y=.bl b from qb)
   cases rb
   exact SeqAt.RcNeAt.list_bool b p1.isList (by omega)
 |.lst ds,.int b,n,x,y,u,v,A,oa,ob,qa,qb,ra,rb,hu=>by
   obtain ⟨l1,xs,e1,h1,r1⟩:=qa
   subst e1
   cases ra
   obtain ⟨is,w1,p1,_⟩:=I.list (hF.lst h1)
   cases (show y=.int b from qb)
   obtain ⟨t2,rfl⟩:=rb
   exact SeqAt.RcNeAt.list_int b t2 p1.isList (by omega)
 |.lst ds,.str b,n,x,y,u,v,A,oa,ob,qa,qb,ra,rb,hu=>by
   obtain ⟨l1,xs,e1,h1,r1⟩:=qa
   subst e1
   cases ra
   obtain ⟨is,w1,p1,_⟩:=I.list (hF.lst h1)
   cases (show y=.str b from qb)
   obtain ⟨t2,rfl⟩:=rb
   exact SeqAt.RcNeAt.list_str b t2 p1.isList (by omega)
 |.lst ds,.tup es,n,x,y,u,v,A,oa,ob,qa,qb,ra,rb,hu=>by
   obtain ⟨l1,xs,e1,h1,r1⟩:=qa
   subst e1
   cases ra
   obtain ⟨is,w1,p1,_⟩:=I.list (hF.lst h1)
   obtain ⟨l2,ys,e2,h2,r2⟩:=qb
   subst e2
   cases rb
   obtain ⟨js,w2,p2,_⟩:=I.tuple (hF.tup h2)
   exact SeqAt.RcNeAt.list_tuple p1.isList (show s.heap.IsTuple l2 js.toArray from p2) (by omega)
 |.lst ds,.lst es,n,x,y,u,v,A,oa,ob,qa,qb,ra,rb,hu=>by
   obtain ⟨l1,xs,e1,h1,r1⟩:=qa
   subst e1
   cases ra
   obtain ⟨is,w1,p1,_⟩:=I.list (hF.lst h1)
   obtain ⟨l2,ys,e2,h2,r2⟩:=qb
   subst e2
   cases rb
   obtain ⟨js,w2,p2,_⟩:=I.list (hF.lst h2)
   have z1:=w1.length
   have z2:=w2.length
   have y1:=r1.length
   have y2:=r2.length
   cases n with
   |zero=>exact absurd oa (by simp [okE])
   |succ n=>
    have oa':jQ ds n=true:=by simpa only [okE] using oa
    have ob':jQ es n=true:=by simpa only [okE] using ob
    by_cases hl:ds.length=es.length
    ·have q:=SeqAt.RcNeAt.lists (A:=A) (e:=gT ds es) p1.isList p2.isList (by simp;omega) (by omega) (fun j h1 h2=>by
      obtain ⟨x',f1,g1⟩:=w1.atA h1
      obtain ⟨y',f2,g2⟩:=w2.atA h2
      obtain ⟨d1,k1,m1⟩:=r1.at f1
      obtain ⟨d2,k2,m2⟩:=r2.at f2
      have q:=n8 I hF ds j d1 k1 d2 (n:=n) (A:=A.in1) (di oa' k1) (di ob' k2) m1 m2 g1 g2 (by show A.units+1+n<cLine;omega)
      have e5:gT ds es j=eqD d1 d2:=by simp only [gT,k1,k2]
      rw [e5]
      exact q
      )
     have ez:is.toArray.size=ds.length:=by simp;omega
     rw [ez,aB.all_eq (F:=F) _ hl (fun j a b h1 h2=>by simp only [gT,h1,h2])] at q
     exact q
    ·rw [show eqD (.lst ds) (.lst es)=false from nH hl]
     exact SeqAt.RcNeAt.lists_lengths (A:=A) p1.isList p2.isList (by simp;omega) (by omega)
 |.ins _ _,_,_,_,_,_,_,_,oa,_,_,_,_,_,_=>by simp [okE] at oa
 |_,.ins _ _,_,_,_,_,_,_,_,ob,_,_,_,_,_=>by simp [okE] at ob
end
section
variable {X:Cx} {K:PySem.W.Frag} {W:gC} {own ro:Bool}
theorem aH.blS {F H:Hp} {Q:VK} {pins:List (Addr×Obj)} {σ:St} {s:Shared} {b:Bool} (p:aH K W own F H (.ok (.bl b)) Q) (s1:b0 F H) (I:Inv X pins σ H s):EP X pins σ Q (.bool b) s:=⟨.bl b,H,I,rfl,p.bl s1⟩
theorem o_eq (hu:X.A.units+64<cLine) (hK:X.K=K:=by rfl):Op2 K W own X (compareOp .Eq) eqM:=by
 subst hK
 intro pins s σ H x y v u Q I rx ry h
 obtain ⟨F,a,b,s1,qa,qb,p⟩:=h
 unfold eqM at p
 by_cases hc:(okE a 40&&okE b 40)=true
 ·rw [if_pos hc] at p
  simp only [Bool.and_eq_true] at hc
  exact rcAt_D I s1 a b hc.1 hc.2 qa qb rx ry (by omega) _ _ _ _ (p.blS s1 I)
 ·rw [if_neg hc] at p;exact p.stuck
theorem o_ne (hu:X.A.units+64<cLine) (hK:X.K=K:=by rfl):Op2 K W own X (compareOp .NotEq) neM:=by
 subst hK
 intro pins s σ H x y v u Q I rx ry h
 obtain ⟨F,a,b,s1,qa,qb,p⟩:=h
 unfold neM at p
 by_cases hc:(okE a 40&&okE b 40)=true
 ·rw [if_pos hc] at p
  simp only [Bool.and_eq_true] at hc
  exact rcNeAt_D I s1 a b hc.1 hc.2 qa qb rx ry (by omega) _ _ _ _ (p.blS s1 I)
 ·rw [if_neg hc] at p;exact p.stuck
end
end L2
namespace L2
open PySem PySem.Spec PyProof.Rows
section
variable {X:Cx} {pins:List (Addr×Obj)} {σ:St} {H:Hp} {s:Shared} {h':Heap}
theorem Inv.turnedT {t':Nat} {ch:List Addr} {T:Addr} {xs:List V} (I:Inv X pins σ H s) (hf:∀b∈ch,zd X pins H b) (k:∀b o,b∉ch->s.heap.get? b=some o->h'.get? b=some o) (hT:s.heap.objs.size<=T)
  (new:xs.length<=sizeLine/\∃its:List Value,Vals xs its/\IsTup h' T its.toArray):Inv X pins σ (upd H T (.tup xs)) {s with heap:=h',toks:=t'}:=by
 have hTn:H T=none:=I.hok.fresh hT
 have nit:∀b u,H b=some u->b∉ch:=fun b u e z=>by rw [(hf b z).1] at e;cases e
 have old:∀{b:Addr} {o:Obj},s.heap.get? b=some o->b≠T:=fun {b o} e=>Nat.ne_of_lt (Nat.lt_of_lt_of_le (Heap.lt_size e) hT)
 refine I.step (g':=s.gens) (d':=s.drawn) (ch:=ch) (fun b hb=>?_) (fun b o _ _ hc e _=>k b o hc e) (fun b o _ _ hc e _=>⟨o.slots,k b o hc e⟩) (fun b o _ e n=>by rw [ar (old e)];exact n)
  (fun b o hc e=>⟨o,k b o hc e⟩) (fun b ys e=>by rw [ar (aL e hTn)];exact e) (fun b o u e=>by rw [ar (aL e hTn)];exact e) (fun b ps e=>⟨#[],by rw [ar (aL e hTn),e];simp⟩) (fun m hm=>?_) (fun b u e=>?_) I.bare
 ·obtain ⟨f0,f1,f2,f3,f4,f5⟩:=hf b hb
  exact ⟨f3,f1,f4,f5⟩
 ·obtain ⟨o,es,ep,ho,r⟩:=hm
  exact ⟨o,es,ep,k _ o (fun z=>(hf _ z).2.1 rfl) ho,r⟩
 ·by_cases hb:b=T
  ·subst hb
   rw [aq] at e
   cases e
   exact new
  ·rw [ar hb] at e
   refine (I.hok b u e).vF (fun c v hc q=>k c v ?_ q) (fun c q=>?_) fun c ys q=>?_
   ·rcases hc with z|z
    ·rw [z];exact nit b u e
    ·exact nit c _ z
   ·rw [ar (aL q hTn)];exact q
   ·rw [ar (aL q hTn)];exact q
theorem Inv.turnedL {t':Nat} {ch:List Addr} (I:Inv X pins σ H s) (hf:∀b∈ch,zd X pins H b) (k:∀b o,b∉ch->s.heap.get? b=some o->h'.get? b=some o):Inv X pins σ H {s with heap:=h',toks:=t'}:=by
 have nit:∀b u,H b=some u->b∉ch:=fun b u e z=>by rw [(hf b z).1] at e;cases e
 refine I.step (g':=s.gens) (d':=s.drawn) (ch:=ch) (fun b hb=>?_) (fun b o _ _ hc e _=>k b o hc e) (fun b o _ _ hc e _=>⟨o.slots,k b o hc e⟩) (fun b o _ e n=>n)
  (fun b o hc e=>⟨o,k b o hc e⟩) (fun b ys e=>e) (fun b o u e=>e) (fun b ps e=>⟨#[],by rw [e];simp⟩) (fun m hm=>?_) (fun b u e=>?_) I.bare
 ·obtain ⟨f0,f1,f2,f3,f4,f5⟩:=hf b hb
  exact ⟨f3,f1,f4,f5⟩
 ·obtain ⟨o,es,ep,ho,r⟩:=hm
  exact ⟨o,es,ep,k _ o (fun z=>(hf _ z).2.1 rfl) ho,r⟩
 ·refine (I.hok b u e).vF (fun c v hc q=>k c v ?_ q) (fun _ q=>q) fun _ _ q=>q
  rcases hc with z|z
  ·rw [z];exact nit b u e
  ·exact nit c _ z
end
noncomputable def Ite (K:PySem.W.Frag) (a:Addr):It:=
 ⟨fun i H=>∃xs x,SqL K H a xs/\xs[i]? =some x,fun i H x H'=>∃T y,H T=none/\x=.ref T/\H'=upd H T (.tup [.int i,y])/\∀xs,SqL K H a xs->xs[i]? =some y,fun i H=>∃xs,SqL K H a xs/\xs.length<=i⟩
theorem zt {P:Program} {w:World} {K:PySem.W.Frag} {elts:List Expr} {k:Nat} {pos:Pos} (a e it:Addr) (hei:e≠it):Turn P w K (.Tuple elts k pos) (Ite K a) [e,it] e (fun i h=>(∃old,IsEnum h e it i old)/\h.IsListIter it a i) where
 mem:=by simp
 obj:=fun i h st b hb=>by
  obtain ⟨⟨old,he⟩,o,e1,c,d⟩:=st
  rcases List.mem_cons.mp hb with rfl|hb
  ·exact ⟨_,he,fun v z=>by cases z⟩
  ·have:b=it:=by simpa using hb
   subst this
   exact ⟨o,e1,fun v z=>by rw [d] at z;cases z⟩
 keep:=fun i h h' st kk=>by
  obtain ⟨⟨old,he⟩,hit⟩:=st
  exact ⟨⟨old,kk e (by simp) _ he⟩,hit.at fun o x=>kk it (by simp) o x⟩
 item:=by
  intro X hP hw hK hc i pins s σ H E I hf st hg
  subst hP hw hK
  obtain ⟨⟨old,he⟩,hit⟩:=st
  obtain ⟨xs,x,hq,hx⟩:=hg
  obtain ⟨its,rv,p,hz⟩:=I.list hq
  obtain ⟨u,hu,ru⟩:=rv.get hx
  refine wpAny_pyNext_enum_item he hit p.isList (x:=u) (by simpa using hu) hei fun h1 ho hit1 hT hsz hk=>?_
  refine ⟨_,rfl,wpAny_letOwnedTupleGo_enum ho fun h2 he2 hs2=>?_⟩
  have hlt:e<s.heap.objs.size:=Heap.lt_size he
  have hTe:s.heap.objs.size≠e:=Nat.ne_of_gt hlt
  have I1:Inv X pins σ (upd H s.heap.objs.size (.tup [.int i,x])) {s with heap:=h2,toks:=s.toks+1}:=I.turnedT (ch:=[e,it]) hf (fun b o hb q=>by
    have h3:=hk b o (fun z=>hb (by simp [z])) (fun z=>hb (by simp [z])) q
    exact (hs2.2 b (fun z=>hb (by simp [z]))).trans h3) (Nat.le_refl _) ⟨by show 2<=sizeLine;decide,[.int i s.toks,u],.cons ⟨_,rfl⟩ (.cons ru .nil),⟨_,(hs2.2 _ hTe).trans hT,rfl,0,rfl⟩⟩
  refine ⟨.ref s.heap.objs.size,_,I1,rfl,⟨s.heap.objs.size,x,I.hok.fresh (Nat.le_refl _),rfl,rfl,fun ys hy=>by rw [I.xy hy hq];exact hx⟩,⟨⟨u,by simpa using he2⟩,hit1.at fun o y=>(hs2.2 it hei.symm).trans y⟩,fun b hb=>?_⟩
  have hbn:=(hf b hb).1
  have:b≠s.heap.objs.size:=by
   rcases List.mem_cons.mp hb with rfl|hb
   ·exact hTe.symm
   ·have:b=it:=by simpa using hb
    subst this
    obtain ⟨o,e1,_⟩:=hit
    exact Nat.ne_of_lt (Heap.lt_size e1)
  rw [ar this]
  exact hbn
 done:=by
  intro X hP hw hK hc i pins s σ H E I hf st hg
  subst hP hw hK
  obtain ⟨⟨old,he⟩,hit⟩:=st
  obtain ⟨xs,hq,hx⟩:=hg
  obtain ⟨its,rv,p,hz⟩:=I.list hq
  have hl:=rv.length
  exact wpAny_pyNext_enum_end (I.ok.hd hc) he hit p.isList (Array.getElem?_eq_none (by simp;omega)) fun h2 eb=>⟨rfl,I.turnedL (t':=s.toks) (ch:=[e,it]) hf fun b o hb q=>eb b o (fun z=>hb (by simp [z])) q⟩
 self:=fun _ _ _ _ _ st h=>by
  obtain ⟨⟨old,he⟩,_⟩:=st
  exact wpAny_pyIter_enum he h
theorem lB:∀(ds:List Dat) (k i:Nat),(iG k ds)[i]? =(ds[i]?).map fun d=>.tup [.int ((k+i:Nat):Int),d]
 |[],k,i=>by simp [iG]
 |d::ds,k,0=>by simp [iG]
 |d::ds,k,i+1=>by
  rw [iG,List.getElem?_cons_succ,lB ds (k+1) i,List.getElem?_cons_succ]
  rw [show k+1+i=k+(i+1) by omega]
theorem iF:∀(ds:List Dat) (k:Nat),(iG k ds).length=ds.length
 |[],_=>rfl
 |d::ds,k=>by rw [iG,List.length_cons,iF ds,List.length_cons]
theorem As {K:PySem.W.Frag} {F:Hp} {a:Addr} {xs:List V} {ds:List Dat} (t:SqL K F a xs) (z:aB K F ds xs):yZ K F (Ite K a) (iG 0 ds) where
 go:=fun i F' H' s1 s2 hi=>⟨xs,xs[i]'(by rw [z.length];rw [iF] at hi;exact hi),s2.lst (s1.lst t),by rw [iF] at hi;simp [z.length,hi]⟩
 yl:=fun i F' H' x H2 d s1 s2 hd hy=>by
  obtain ⟨T,y,hT,ex,eH,hy⟩:=hy
  subst ex eH
  rw [lB] at hd
  cases hds:ds[i]? with
  |none=>rw [hds] at hd;cases hd
  |some d'=>
   rw [hds] at hd
   simp at hd
   subst hd
   obtain ⟨v,e1,q⟩:=z.get hds
   have e2:=hy xs (s2.lst (s1.lst t))
   rw [e1] at e2
   cases e2
   refine ⟨upd F' T (.tup [.int i,y]),Step.lay s2 hT,T,_,rfl,SqT.of aq,?_⟩
   exact ⟨.int i,[y],rfl,rfl,y,[],rfl,(q.mono s1).mono (b0.upd (s2.free hT)),rfl⟩
 st:=fun F' H' s1 s2=>⟨xs,s2.lst (s1.lst t),by rw [z.length,iF];exact Nat.le_refl _⟩
section
variable {X:Cx} {K:PySem.W.Frag} {W:gC} {own ro:Bool} {e a b c:Expr} {es:List Expr} {x:Str} {pos p:Pos} {f fa fb fc:af->M Dat} {fr:af->M (List Dat)} {ft:af->M Bool}
noncomputable def iEnum (K:PySem.W.Frag) (tl:TE):TI:=fun σ H R=>tl σ H fun x H1=>∃a,x=.ref a/\(∃xs,SqL K H1 a xs)/\R (Ite K a) H1
theorem pi_enum {elts:List Expr} {k:Nat} {q:Pos} {tl:TE} (hg:Gl X "enumerate") (hm:X.mg "enumerate"=none) (hl:PE X a tl) (hs:starEach [a] X.env=[(false,eval a X.env)]:=by rfl) :
  PI X (.Tuple elts k q) (.Call (.Name "enumerate" p) [a] [] pos) (iEnum X.K tl):=by
 intro pins s σ H R I h
 have ha:PA X [a] (qr tl tNil):=b9 hl dE hs
 refine Call_ (oO I hg hm boot_enumerate (PyProof.Rows.callWith_type1 (thn (ha pos pins s σ H (fun vs H1=>match vs with
  |[x]=>∃a,x=.ref a/\(∃xs,SqL X.K H1 a xs)/\R (Ite X.K a) H1
  |_=>False) I h) fun us s1 ⟨vs,H1,I1,r1,q1⟩=>?_) hs rfl))
 match vs,r1,q1 with
 |[x],r1,⟨l,e1,⟨xs,hq⟩,q⟩=>
  subst e1
  obtain ⟨u,rfl,ru⟩:=r1.one
  cases ru
  obtain ⟨its,rv,pl,hz⟩:=I1.list hq
  refine call_enumerate_list pl.isList fun h2 he hit hsz hk=>?_
  have I2:Inv X pins σ H1 {s1 with heap:=h2}:=I1.kept (t':=s1.toks) hk
  refine wpAny_pyIter_enum he ?_
  refine ⟨s1.heap.objs.size+1,[s1.heap.objs.size+1,s1.heap.objs.size],_,_,H1,rfl,I2,zt l _ _ (Nat.succ_ne_self _),⟨⟨_,he⟩,hit⟩,fun b hb=>?_,q⟩
  have hb2:s1.heap.objs.size<=b:=by
   rcases List.mem_cons.mp hb with rfl|hb
   ·exact Nat.le_succ _
   ·have:b=s1.heap.objs.size:=by simpa using hb
    exact Nat.le_of_eq this.symm
  exact I1.fpOk hb2 (I1.hok.fresh hb2)
theorem ri_enum {σ:St} {H:Hp} {R:It->Hp->Prop} (h:iD K W (sV fa) σ H R):iEnum K (tD K W false fa) σ H R:=by
 obtain ⟨F,ρ,r,s,p⟩:=h
 refine bZ r s (fun e he=>?_) fun d hd v F1 H1 s1 q1=>?_
 ·have z:sV fa ρ=.error e:=by unfold sV;rw [he];rfl
  rw [z] at p;exact p
 ·have z:sV fa ρ=(xC d).bind fun ds=>.ok (iG 0 ds):=by unfold sV;rw [hd];rfl
  rw [z] at p
  cases d with
  |lst ds=>
   obtain ⟨b,xs,e,t,z⟩:=q1
   exact ⟨b,e,⟨xs,s1.fh.lst t⟩,p _ F1 H1 s1 (As t z)⟩
  |_=>exact (W.ns p).elim
theorem AN {elts:List Expr} {k:Nat} {q:Pos} (hm:X.mg "enumerate"=none) (hl:DE K W false X a fa) (hg:Gl X "enumerate":=by rfl) (hs:starEach [a] X.env=[(false,eval a X.env)]:=by rfl) (hK:X.K=K:=by rfl) :
  DI K W X (.Tuple elts k q) (.Call (.Name "enumerate" p) [a] [] pos) (sV fa):=by
 subst hK
 exact (pi_enum hg hm hl hs).imp fun _ _ _=>ri_enum
theorem du:PTs X [] (tDT K W lX):=fun pins s σ H Q I h=>pts_nil pins s σ H Q I (by
 obtain ⟨F,ρ,r,s1,q⟩:=h
 exact q F H (Step.refl s1))
theorem n9:PGs X [] (iW []):=pgs_nil
theorem iX {i:Nat} {is:List Nat} (hN:X.N.Nodup) (h2:PGs X es (iW is)) (hi:X.N[i]? =some x:=by rfl) (hx:Loc X.env.scope x:=by first|exact Or.inl rfl|exact Or.inr rfl) (hf:X.fn x=true\/X.env.scope.names.lookup x=some .local:=by first|exact .inl rfl|exact .inr rfl|assumption)
  (hs:(assignEach (.Name x p::es) X.env).map (·.2)=assign (.Name x p) X.env::(assignEach es X.env).map (·.2):=by rfl):PGs X (.Name x p::es) (iW (i::is)):=xr (vQ hN hi hx hf) h2 hs
theorem wt {k:Nat} {is:List Nat} (hc:X.calm=true) (h:PGs X es (iW is)) (hn:(assignEach es X.env).length=is.length:=by rfl) (hst:(assignEach es X.env).findIdx? (·.1)=none:=by rfl) (hK:X.K=K:=by rfl):DG K X (.Tuple es k pos) (.tp is):=by
 subst hK
 exact pg_tup hc h hn hst
theorem oN {ix:List (Option Nat)}:∀{is:List Nat},(∀i∈is,ix[i]? =some none)->∀vs σ' H' (Q:St->Hp->Prop),iW is vs σ' H' Q->iW is vs σ' H' fun σ2 H2=>Q σ2 H2/\∀(i:Nat) v,σ'[i]? =some (some v)->(∃j,ix[i]? =some (some j))->σ2[i]? =some (some v)
 |[],_,vs,σ',H',Q,⟨e,q⟩=>⟨e,q,fun _ _ h _=>h⟩
 |i::is,hs,vs,σ',H',Q,⟨v,r,e,q⟩=>by
  refine ⟨v,r,e,?_⟩
  have:=oN (ix:=ix) (is:=is) (fun j hj=>hs j (by simp [hj])) r (σ'.set i (some v)) H' Q q
  have mono:∀{is:List Nat} {vs:List V} {σ1:St} {H1:Hp} {Q Q':St->Hp->Prop},(∀σ2 H2,Q σ2 H2->Q' σ2 H2)->iW is vs σ1 H1 Q->iW is vs σ1 H1 Q':=by
   intro is
   induction is with
   |nil=>rintro vs σ1 H1 Q Q' m ⟨e,q⟩;exact ⟨e,m _ _ q⟩
   |cons i is ih=>rintro vs σ1 H1 Q Q' m ⟨v,r,e,q⟩;exact ⟨v,r,e,ih m q⟩
  refine mono (fun σ2 H2 ⟨q1,q2⟩=>⟨q1,fun j w h ⟨l,hl⟩=>q2 j w ?_ ⟨l,hl⟩⟩) this
  have:i≠j:=by rintro rfl;rw [hs i (by simp)] at hl;cases hl
  rw [List.getElem?_set_ne this]
  exact h
theorem pQ {ix:List (Option Nat)} {is:List Nat} (h:∀i∈is,ix[i]? =some none):rV ix (gP K (.tp is)):=fun x σ' H' Q ⟨a,xs,e,t,l,q⟩=>⟨a,xs,e,t,l,oN h xs σ' H' Q q⟩
theorem iY {N':List Str} {sc:Scope} {L:Addr} {cs:List (Str×Addr)} {s:Shared} {H:Hp} {fp:List Addr} {i:Nat} (hN:N'.Nodup) (hi:N'[i]? =some x:=by rfl) (hx:Loc (bB X N' sc L cs s H fp).env.scope x:=by first|exact Or.inl rfl|exact Or.inr rfl)
  (hf:(bB X N' sc L cs s H fp).fn x=true\/(bB X N' sc L cs s H fp).env.scope.names.lookup x=some .local:=by first|exact .inl rfl|exact .inr rfl|assumption):DG K (bB X N' sc L cs s H fp) (.Name x pos) (.nm i):=pg_c hN hi hx hf
variable {sc:Scope} {tg elt iter:Expr} {ifs:List Expr} {fi:af->M (List Dat)} {pt:Pat} {fe:af->M Dat} {spos py:Pos}
theorem gF (N':List Str) (ix:List (Option Nat)) (hi:DI K W X tg iter fi) (hg:∀L cs s H fp,DG K (bB X N' sc L cs s H fp) tg pt) (hl:rV ix (gP K pt))
  (ht:∀L cs s H fp,PTs (bB X N' sc L cs s H fp) ifs (tDT K W ft)) (he:∀L cs s H fp,DE K W false (bB X N' sc L cs s H fp) elt fe) (hc:X.calm=true:=by rfl)
  (ok:bN X.N X.env.scope N' sc ix=true:=by rfl) (hk:sc.kind=.function:=by rfl) (hs:∀x,foldedSetIterable iter X.env x=pure x:=by intro _;rfl) :
  DE K W true X (.ListComp elt [⟨tg,iter,ifs,0⟩] sc pos) (gS fi ix pt ft fe):=(pe_comp N' ix hc hi hg hl ht he ok hk hs).imp fun _ _ _=>zQ
theorem tD_fr {σ:St} {H:Hp} {Q:VK} (h:tD K W own f σ H Q):tD K W true f σ H Q:=by
 cases own with
 |true=>exact h
 |false=>obtain ⟨F,ρ,r,s,p⟩:=h;exact ⟨F,ρ,r,s,p.frz⟩
theorem nI {OL O:List Nat} {i:Nat} (own:Bool) (N':List Str) (ix:List (Option Nat)) (hN:X.N.Nodup) (hi:DI K W X tg iter fi) (hg:∀L cs s H fp,DG K (bB X N' sc L cs s H fp) tg pt) (hl:rV ix (gP K pt))
  (ht:∀L cs s H fp,PTs (bB X N' sc L cs s H fp) ifs (tDT K W ft)) (he:∀L cs s H fp,DE K W false (bB X N' sc L cs s H fp) elt fe) (hj:X.N[i]? =some x:=by rfl) (hy:X.env.scope.names.lookup x=some .local:=by rfl) (hc:X.calm=true:=by rfl)
  (hsw:swapsWith (.ListComp elt [⟨tg,iter,ifs,0⟩] sc pos) (some (.Name x py)) spos.line X.env=pure true:=by rfl)
  (ok:bN X.N X.env.scope N' sc ix=true:=by rfl) (hk:sc.kind=.function:=by rfl) (hs:∀x,foldedSetIterable iter X.env x=pure x:=by intro _;rfl) :
  DS K W ro X OL O (aft own i O) (.Assign [.Name x py] (.ListComp elt [⟨tg,iter,ifs,0⟩] sc pos) spos) (aQ O i (gS fi ix pt ft fe)):=fun F0 H0=>
 (yu N' ix hN hj hy hc hi hg hl ht he hsw ok hk hs).imp fun D σ H t=>zQ (tD_fr (zM t))
theorem ds_setI {OL O:List Nat} {i:Nat} {q r:Pos} {fk:af->M Dat} (he:DE K W false X e f) (hk:DE K W false X b fk) (ho:i∈O:=by decide) (hN:X.N[i]? =some x:=by rfl) (hv:Vis X.env.scope x:=by first|exact Or.inl rfl|exact Or.inr (Or.inl rfl)|exact Or.inr (Or.inr rfl)) (hd:(x==("__debug__":Str))=false:=by decide) (hcd:(x==("__classdict__":Str))=false:=by decide)
  (ha:∀v,assign (.Subscript (.Name x p) b q) X.env v=(do
   let ov <- holding [v] (eval (.Name x p) X.env)
   let iv <- holding [v,ov] (eval b X.env)
   standAt q
   holding [v,ov,iv] (setItem ov iv v)
   release [v,ov,iv] []):=by intro _;rfl) (hs:swapsWithSole [.Subscript (.Name x p) b q] e r.line X.env=pure false:=by rfl) (hw:swappedStores [.Subscript (.Name x p) b q] e X.env=pure none:=by rfl)
  (h1:(assignEach [.Subscript (.Name x p) b q] X.env).map (·.2)=[assign (.Subscript (.Name x p) b q) X.env]:=by rfl) :
  DS K W ro X OL O O (.Assign [.Subscript (.Name x p) b q] e r) (vK i fk f):=fun F0 H0=>(ps_asg he (pg_sub (pv i hN hv hd hcd) hk set_list ha) hs hw h1).imp fun _ _ _=>rs_setI ho
noncomputable def spF (K:PySem.W.Frag) (ro:Bool) (g:List Dat->M Dat) (n:Nat):Sp:=fun vs H Q _=>∃F ds,b0 F H/\aB K F ds vs/\ds.length=n/\aH K Wno ro F H (g ds) Q
theorem sr {nN n:Nat} {g:af->M Flo} {ds:List Dat} (h:ds.length≠n):cJ nN n g ds=stk:=by unfold cJ;rw [if_neg h]
theorem aS {k nN n:Nat} {fad:Addr} {fd:FuncData} {ps:List Str} {g:af->M Flo} (F:cu X.prog X.w X.K X.mg X.base CX0 k fad fd ps (spF K ro (cJ nN n g) n)) (hr:jk k X.A) (hm:X.mg x=some (.ref fad)) (hk:keepIn X.K (.ref fad)=true) (hb:Binds X.K fd ps [])
  (ha:DA K Wno X (e::es) fr) (hg:Gl X x:=by rfl) (hdb:(x==("__debug__":Str))=false:=by decide) (hst:starEach (e::es) X.env=(false,eval e X.env)::starEach es X.env:=by rfl) (hpl:(backTo pos (starEach es X.env)).any (·.1)=false:=by rfl) :
  DE K Wno ro X (.Call (.Name x p) (e::es) [] pos) (fL (cJ nN n g) fr):=by
 refine PE.imp (vR F hr hg hm hk hb .nil ui ha hdb hst hpl) fun σ H Q h=>?_
 obtain ⟨F,ρ,r,s,p⟩:=rd_L h
 refine ⟨F,ρ,r,s,?_⟩
 cases e1:fr ρ with
 |error z=>rw [e1] at p;exact p
 |ok ds=>
  rw [e1] at p
  intro vs F' H' st q
  obtain ⟨F1,es1,s1,q1,z⟩:=p vs F' H' st q
  show spF K ro (cJ nN n g) n (vs++[]) H' Q E0
  rw [List.append_nil]
  by_cases hl:es1.length=n
  ·exact ⟨F1,es1,s1,q1,hl,z⟩
  ·rw [sr hl] at z
   exact aH.stuck z
end
section
variable {P:Program} {w:World} {K:PySem.W.Frag} {mg:Str->Option Value} {base:Heap}
theorem u3 {N:List Str} {vs:List V} {ds:List Dat} {i:Nat} {d:Dat} {F:Hp} (q:aB K F ds vs) (h:(ds.map some++List.replicate (N.length-ds.length) none)[i]? =some (some d)):∃v,(start N vs)[i]? =some (some v)/\cf K F d v:=by
 have hi:i<ds.length:=by
  by_cases hi:i<ds.length
  ·exact hi
  ·rw [List.getElem?_append_right (by simpa using hi),List.getElem?_replicate] at h
   split at h<;>cases h
 rw [List.getElem?_append_left (by simpa using hi),List.getElem?_map] at h
 cases e:ds[i]? with
 |none=>rw [e] at h;cases h
 |some d'=>
  rw [e] at h
  cases h
  obtain ⟨v,e1,q1⟩:=q.get e
  refine ⟨v,?_,q1⟩
  unfold start
  rw [List.getElem?_append_left (by rw [List.length_map,q.length];exact hi),List.getElem?_map,e1]
  rfl
theorem oz {x qual:Str} {st:Stmt} {f:Addr} {fd:FuncData} {N ps:List Str} {k:Nat} {O':List Nat} (F:Fun K x qual st f fd) (S:aK N ps (ao st)) (ro:Bool) (g:af->M Flo)
  (hb:∀(cdv:Value) (A:Around) (outer:List Env) (s:Shared) (H:Hp) (E:XK),jk k (A.deeper (envOfC qual (ao st) s.heap.objs.size f cdv)) ->
   DSs K Wno ro (AU CX0 P w K mg base N qual (ao st) f cdv A outer s H E).nox [] [] O' (bX st) g):cu P w K mg base CX0 (k+1) f fd ps (spF K ro (cJ N.length ps.length g) ps.length):=by
 have hpl:ps.length<=N.length:=by have:=congrArg List.length S.pre;rw [List.length_take] at this;omega
 refine F.okX S (fun vs H Q E ⟨F,ds,s,q,l,p⟩=>by rw [q.length,l]) fun cdv A outer s H vs Q E hr ⟨F1,ds,s1,q,l,p⟩=>⟨_,hb cdv A outer s H E hr F1 H,F1,F1,ds.map some++List.replicate (N.length-ds.length) none,?_,?_⟩
 ·refine ⟨Step.refl s1,b0.refl _,?_,fun i d e _=>u3 q e,(fun i d e h=>nomatch h),(fun i j ds es a h=>nomatch h)⟩
  unfold start
  rw [List.length_append,List.length_append,List.length_map,List.length_map,List.length_replicate,List.length_replicate,q.length]
 ·have e1:cJ N.length ps.length g ds=(g (ds.map some++List.replicate (N.length-ds.length) none)).bind fun fl=>match fl with
   |.nx _=>.ok .non
   |.rt d=>.ok d
   |_=>stk:=by
    unfold cJ
    exact if_pos l
  rw [e1] at p
  cases e2:g (ds.map some++List.replicate (N.length-ds.length) none) with
  |error z=>rw [e2] at p;exact p
  |ok fl=>
   rw [e2] at p
   cases fl with
   |nx ρ=>exact fun σ F H r=>p .non F H r.st (by cases ro<;>rfl)
   |rt d=>exact fun v F H st q=>p v F H st q
   |bk ρ=>exact aH.stuck p
   |ct ρ=>exact aH.stuck p
noncomputable def ym (K:PySem.W.Frag):Sp:=fun vs H Q _=>∃(a:Addr) (ns:List Int),vs=[.ref a]/\SqL K H a (ns.map V.int)/\ns.length<=63/\∀H',Q (.bl true) H'
theorem rH {F:Hp}:∀is:List Int,aB K F (is.map Dat.int) (is.map V.int)
 |[]=>rfl
 |i::is=>⟨.int i,is.map V.int,rfl,rfl,rH is⟩
theorem law_ok {k:Nat} {f:Addr} {fd:FuncData} {x:Str} {ro:Bool} {mlaw:Nat->List Dat->M Dat} (F:∀n,cu P w K mg base CX0 k f fd [x] (spF K ro (mlaw n) 1)) (h:∀ns:List Int,ns.length<=63->∃n,mlaw n [.lst (ns.map .int)]=.ok (.bl true)):cu P w K mg base CX0 k f fd [x] (ym K):=by
 refine ⟨fun vs H Q E ⟨a,ns,e,_⟩=>by rw [e];rfl,fun A outer s H args us vs Q E hr he hb hv ⟨a,ns,e,hq,hl,q⟩=>?_⟩
 obtain ⟨n,hn⟩:=h ns hl
 refine (F n).run A outer s H args us vs Q E hr he hb hv ⟨H,[.lst (ns.map .int)],b0.refl _,⟨.ref a,[],e,⟨a,_,rfl,hq,rH ns⟩,rfl⟩,rfl,?_⟩
 rw [hn]
 intro v F' H' st z
 have:v=.bl true:=by cases ro<;>exact z
 rw [this]
 exact q H'
end
end L2
namespace L2
open PySem PySem.Spec PyProof.Rows
structure Kit (K:PySem.W.Frag):Prop where
 l5:kitOne K (.type "int") (.type "int")=some true
 jz:kitOne K (.type "bool") (.type "int")=some true
 jv:kitOne K (.type "list") (.type "int")=some false
 i9:kitOne K (.type "tuple") (.type "int")=some false
 l3:kitOne K (.type "str") (.type "int")=some false
 dD:kitOne K (.type "NoneType") (.type "int")=some false
 jx:kitOne K (.type "int") (.type "bool")=some false
 ik:kitOne K (.type "bool") (.type "bool")=some true
 ie:kitOne K (.type "list") (.type "bool")=some false
 g6:kitOne K (.type "tuple") (.type "bool")=some false
 jt:kitOne K (.type "str") (.type "bool")=some false
 cV:kitOne K (.type "NoneType") (.type "bool")=some false
 jw:kitOne K (.type "int") (.type "list")=some false
 ij:kitOne K (.type "bool") (.type "list")=some false
 ic:kitOne K (.type "list") (.type "list")=some true
 g5:kitOne K (.type "tuple") (.type "list")=some false
 jr:kitOne K (.type "str") (.type "list")=some false
 cU:kitOne K (.type "NoneType") (.type "list")=some false
 ig:kitOne K (.type "int") (.type "tuple")=some false
 g8:kitOne K (.type "bool") (.type "tuple")=some false
 g7:kitOne K (.type "list") (.type "tuple")=some false
 eJ:kitOne K (.type "tuple") (.type "tuple")=some true
 ib:kitOne K (.type "str") (.type "tuple")=some false
 cF:kitOne K (.type "NoneType") (.type "tuple")=some false
 l4:kitOne K (.type "int") (.type "str")=some false
 jy:kitOne K (.type "bool") (.type "str")=some false
 ju:kitOne K (.type "list") (.type "str")=some false
 i8:kitOne K (.type "tuple") (.type "str")=some false
 l0:kitOne K (.type "str") (.type "str")=some true
 dC:kitOne K (.type "NoneType") (.type "str")=some false
section
variable {X:Cx} {K:PySem.W.Frag} {W:gC} {own ro:Bool} {e a b c:Expr} {es:List Expr} {x:Str} {pos p p2:Pos} {f fa fb fc:af->M Dat} {fr:af->M (List Dat)} {ft:af->M Bool}
theorem Av {pins:List (Addr×Obj)} {σ:St} {F H:Hp} {s:Shared} {T:String} {d:Dat} {x:V} {u:Value} {bi bb bl bt bs bn:Bool} {Q:Value->Shared->Prop} (I:Inv X pins σ H s) (hF:b0 F H) (q:cf X.K F d x) (r:RelV x u)
  (hi:kitOne X.K (.type "int") (.type T)=some bi) (hb:kitOne X.K (.type "bool") (.type T)=some bb) (hl:kitOne X.K (.type "list") (.type T)=some bl) (ht:kitOne X.K (.type "tuple") (.type T)=some bt)
  (hs:kitOne X.K (.type "str") (.type T)=some bs) (hn:kitOne X.K (.type "NoneType") (.type T)=some bn)
  (h:∀k tk,(match d with|.int _=>k=bi|.bl _=>k=bb|.lst _=>k=bl|.tup _=>k=bt|.str _=>k=bs|.non=>k=bn|.ins _ _=>False)->Q (.bool k) {s with toks:=tk}) (no:∀C fs,d≠.ins C fs) :
  wpAny (model X.prog X.w) X.A (call (.builtin "isinstance") [u,.type T]) Q X.xe s:=by
 cases d with
 |non=>cases (show x=.non from q);cases r;exact kia_one PySem.W.kitx_none I.kIn True.intro hn (fun z=>nomatch z) fun tk=>h _ tk rfl
 |bl y=>cases (show x=.bl y from q);cases r;exact kia_one PySem.W.kitx_bool I.kIn True.intro hb (fun z=>nomatch z) fun tk=>h _ tk rfl
 |int i=>cases (show x=.int i from q);obtain ⟨t,rfl⟩:=r;exact kia_one PySem.W.kitx_int I.kIn True.intro hi (fun z=>nomatch z) fun tk=>h _ tk rfl
 |str y=>cases (show x=.str y from q);obtain ⟨t,rfl⟩:=r;exact kia_one PySem.W.kitx_str I.kIn True.intro hs (fun z=>nomatch z) fun tk=>h _ tk rfl
 |lst ds=>
  obtain ⟨l,xs,e,t,_⟩:=q
  subst e
  cases r
  obtain ⟨its,_,pl,_⟩:=I.list (hF.lst t)
  obtain ⟨o,h1,h2,_⟩:=pl.isList
  exact kia_one PySem.W.kitx_list I.kIn ⟨o,h1,h2⟩ hl (fun z=>nomatch z) fun tk=>h _ tk rfl
 |tup ds=>
  obtain ⟨l,xs,e,t,_⟩:=q
  subst e
  cases r
  obtain ⟨its,_,pl,_⟩:=I.tuple (hF.tup t)
  obtain ⟨o,h1,h2,_⟩:=pl
  exact kia_one PySem.W.kitx_tuple I.kIn ⟨o,h1,h2⟩ ht (fun z=>nomatch z) fun tk=>h _ tk rfl
 |ins C fs=>exact absurd rfl (no C fs)
theorem uS {T:String} {y:Str} {g:Dat->M Dat} (hc:dQ X (.builtin "isinstance") (fun xs H Q=>∃v,xs=[v,.ty T]/\rD1 K W own g v H Q)) (hm:X.mg "isinstance"=none) (hmT:X.mg y=none) (hvT:bootBuiltins y=some (.type T)) (ha:DE K W false X a fa)
  (hg:Gl X "isinstance":=by rfl) (hgT:Gl X y:=by rfl) (hn:y≠"__name__":=by decide) (hd:(y==("__debug__":Str))=false:=by decide)
  (hst:starEach [a,.Name y p2] X.env=[(false,eval a X.env),(false,eval (.Name y p2) X.env)]:=by rfl) (hst2:starEach [.Name y p2] X.env=[(false,eval (.Name y p2) X.env)]:=by rfl) (hpl:(backTo pos (starEach [.Name y p2] X.env)).any (·.1)=false:=by rfl) :
  DE K W own X (.Call (.Name "isinstance" p) [a,.Name y p2] [] pos) (f1 g fa):=
 (fQ hc hg hm boot_isinstance (b9 ha (b9 (A0 (pos:=p2) hgT hmT hvT hn hd) dE hst2) (by rw [hst,hst2])) (by decide) (by decide) (by rw [hst,hst2]) hpl).imp fun σ H Q h=>by
  obtain ⟨F,ρ,r,s,q⟩:=rd_1 h
  refine ⟨F,ρ,r,s,?_⟩
  cases e1:fa ρ with
  |error z=>rw [e1] at q;exact q
  |ok d=>rw [e1] at q;exact fun v F' H' st z=>⟨v,rfl,q v F' H' st z⟩
theorem Ba (kit:Kit K) (hK:X.K=K:=by rfl):dQ X (.builtin "isinstance") (fun xs H Q=>∃v,xs=[v,.ty "int"]/\rD1 K W own pd v H Q):=by
 subst hK
 intro pins s σ H xs us Q I r h
 obtain ⟨v,rfl,F,d,s1,q,p⟩:=h
 obtain ⟨u,w,rfl,ru,rw'⟩:=r.two
 cases (show w=Value.type "int" from rw')
 by_cases hi:∃C fs,d=.ins C fs
 ·obtain ⟨C,fs,rfl⟩:=hi
  exact aH.stuck p
 ·refine Av I s1 q ru kit.l5 kit.jz kit.jv kit.i9 kit.l3 kit.dD (fun k tk hk=>⟨.bl k,H,I.tok tk,rfl,?_⟩) (fun C fs e=>hi ⟨C,fs,e⟩)
  cases d<;>first|(have hk':k=_:=hk;subst hk';exact aH.bl (own:=own) p s1)|exact absurd ⟨_,_,rfl⟩ hi
theorem yP (kit:Kit K) (hm:X.mg "isinstance"=none) (hmT:X.mg "int"=none) (ha:DE K W false X a fa) (hK:X.K=K:=by rfl)
  (hg:Gl X "isinstance":=by rfl) (hgT:Gl X "int":=by rfl)
  (hst:starEach [a,.Name "int" p2] X.env=[(false,eval a X.env),(false,eval (.Name "int" p2) X.env)]:=by rfl) (hst2:starEach [.Name "int" p2] X.env=[(false,eval (.Name "int" p2) X.env)]:=by rfl) (hpl:(backTo pos (starEach [.Name "int" p2] X.env)).any (·.1)=false:=by rfl) :
  DE K W own X (.Call (.Name "isinstance" p) [a,.Name "int" p2] [] pos) (f1 pd fa):=uS (Ba kit hK) hm hmT (by decide +kernel) ha hg hgT (by decide) (by decide) hst hst2 hpl
theorem yS (kit:Kit K) (hK:X.K=K:=by rfl):dQ X (.builtin "isinstance") (fun xs H Q=>∃v,xs=[v,.ty "bool"]/\rD1 K W own nE v H Q):=by
 subst hK
 intro pins s σ H xs us Q I r h
 obtain ⟨v,rfl,F,d,s1,q,p⟩:=h
 obtain ⟨u,w,rfl,ru,rw'⟩:=r.two
 cases (show w=Value.type "bool" from rw')
 by_cases hi:∃C fs,d=.ins C fs
 ·obtain ⟨C,fs,rfl⟩:=hi
  exact aH.stuck p
 ·refine Av I s1 q ru kit.jx kit.ik kit.ie kit.g6 kit.jt kit.cV (fun k tk hk=>⟨.bl k,H,I.tok tk,rfl,?_⟩) (fun C fs e=>hi ⟨C,fs,e⟩)
  cases d<;>first|(have hk':k=_:=hk;subst hk';exact aH.bl (own:=own) p s1)|exact absurd ⟨_,_,rfl⟩ hi
theorem wz (kit:Kit K) (hm:X.mg "isinstance"=none) (hmT:X.mg "bool"=none) (ha:DE K W false X a fa) (hK:X.K=K:=by rfl)
  (hg:Gl X "isinstance":=by rfl) (hgT:Gl X "bool":=by rfl)
  (hst:starEach [a,.Name "bool" p2] X.env=[(false,eval a X.env),(false,eval (.Name "bool" p2) X.env)]:=by rfl) (hst2:starEach [.Name "bool" p2] X.env=[(false,eval (.Name "bool" p2) X.env)]:=by rfl) (hpl:(backTo pos (starEach [.Name "bool" p2] X.env)).any (·.1)=false:=by rfl) :
  DE K W own X (.Call (.Name "isinstance" p) [a,.Name "bool" p2] [] pos) (f1 nE fa):=uS (yS kit hK) hm hmT (by decide +kernel) ha hg hgT (by decide) (by decide) hst hst2 hpl
theorem yR (kit:Kit K) (hK:X.K=K:=by rfl):dQ X (.builtin "isinstance") (fun xs H Q=>∃v,xs=[v,.ty "list"]/\rD1 K W own nC v H Q):=by
 subst hK
 intro pins s σ H xs us Q I r h
 obtain ⟨v,rfl,F,d,s1,q,p⟩:=h
 obtain ⟨u,w,rfl,ru,rw'⟩:=r.two
 cases (show w=Value.type "list" from rw')
 by_cases hi:∃C fs,d=.ins C fs
 ·obtain ⟨C,fs,rfl⟩:=hi
  exact aH.stuck p
 ·refine Av I s1 q ru kit.jw kit.ij kit.ic kit.g5 kit.jr kit.cU (fun k tk hk=>⟨.bl k,H,I.tok tk,rfl,?_⟩) (fun C fs e=>hi ⟨C,fs,e⟩)
  cases d<;>first|(have hk':k=_:=hk;subst hk';exact aH.bl (own:=own) p s1)|exact absurd ⟨_,_,rfl⟩ hi
theorem wy (kit:Kit K) (hm:X.mg "isinstance"=none) (hmT:X.mg "list"=none) (ha:DE K W false X a fa) (hK:X.K=K:=by rfl)
  (hg:Gl X "isinstance":=by rfl) (hgT:Gl X "list":=by rfl)
  (hst:starEach [a,.Name "list" p2] X.env=[(false,eval a X.env),(false,eval (.Name "list" p2) X.env)]:=by rfl) (hst2:starEach [.Name "list" p2] X.env=[(false,eval (.Name "list" p2) X.env)]:=by rfl) (hpl:(backTo pos (starEach [.Name "list" p2] X.env)).any (·.1)=false:=by rfl) :
  DE K W own X (.Call (.Name "isinstance" p) [a,.Name "list" p2] [] pos) (f1 nC fa):=uS (yR kit hK) hm hmT (by decide +kernel) ha hg hgT (by decide) (by decide) hst hst2 hpl
theorem wD (kit:Kit K) (hK:X.K=K:=by rfl):dQ X (.builtin "isinstance") (fun xs H Q=>∃v,xs=[v,.ty "tuple"]/\rD1 K W own rn v H Q):=by
 subst hK
 intro pins s σ H xs us Q I r h
 obtain ⟨v,rfl,F,d,s1,q,p⟩:=h
 obtain ⟨u,w,rfl,ru,rw'⟩:=r.two
 cases (show w=Value.type "tuple" from rw')
 by_cases hi:∃C fs,d=.ins C fs
 ·obtain ⟨C,fs,rfl⟩:=hi
  exact aH.stuck p
 ·refine Av I s1 q ru kit.ig kit.g8 kit.g7 kit.eJ kit.ib kit.cF (fun k tk hk=>⟨.bl k,H,I.tok tk,rfl,?_⟩) (fun C fs e=>hi ⟨C,fs,e⟩)
  cases d<;>first|(have hk':k=_:=hk;subst hk';exact aH.bl (own:=own) p s1)|exact absurd ⟨_,_,rfl⟩ hi
theorem de_isi_tuple (kit:Kit K) (hm:X.mg "isinstance"=none) (hmT:X.mg "tuple"=none) (ha:DE K W false X a fa) (hK:X.K=K:=by rfl)
  (hg:Gl X "isinstance":=by rfl) (hgT:Gl X "tuple":=by rfl)
  (hst:starEach [a,.Name "tuple" p2] X.env=[(false,eval a X.env),(false,eval (.Name "tuple" p2) X.env)]:=by rfl) (hst2:starEach [.Name "tuple" p2] X.env=[(false,eval (.Name "tuple" p2) X.env)]:=by rfl) (hpl:(backTo pos (starEach [.Name "tuple" p2] X.env)).any (·.1)=false:=by rfl) :
  DE K W own X (.Call (.Name "isinstance" p) [a,.Name "tuple" p2] [] pos) (f1 rn fa):=uS (wD kit hK) hm hmT (by decide +kernel) ha hg hgT (by decide) (by decide) hst hst2 hpl
noncomputable def tRng (ta:TA) (lo hi:List V->Option Int):TE:=fun σ H Q=>ta σ H fun vs H1=>∃i j,lo vs=some i/\hi vs=some j/\(-(2^62)<=i/\i<2^62/\ -(2^62)<=j/\j<2^62)/\∀r,H1 r=none->Q (.ref r) (upd H1 r (.rng i j))
noncomputable def lo1:List V->Option Int
 |[.int _]=>some 0
 |_=>none
noncomputable def hi1:List V->Option Int
 |[.int j]=>some j
 |_=>none
theorem rng_laid {pins:List (Addr×Obj)} {σ:St} {H:Hp} {s:Shared} {lo hi:Int} {t u v:Tok} {tk:Nat} (I:Inv X pins σ H s):Inv X pins σ (upd H s.heap.objs.size (.rng lo hi)) {s with heap:=s.heap.push {cls:=.type "range",data:=.fields #[.int lo t,.int hi u,.int 1 v]},toks:=tk}:=
 I.laid (fun b o e=>Heap.get?_push_of_some _ e) (Nat.le_refl _) ⟨t,u,v,Heap.get?_push_size _ rfl⟩
theorem pe_rng1 {ta:TA} (hg:Gl X "range") (hm:X.mg "range"=none) (ha:PA X [a] ta) (hs:starEach [a] X.env=[(false,eval a X.env)]:=by rfl):PE X (.Call (.Name "range" p) [a] [] pos) (tRng ta lo1 hi1):=by
 intro pins s σ H Q I h
 refine Call_ (oO I hg hm boot_range (PyProof.Rows.callWith_type1 (thn (ha pos pins s σ H _ I h) fun us s1 ⟨vs,H1,I1,r1,q1⟩=>?_) hs rfl))
 obtain ⟨i,j,e1,e2,hb,q⟩:=q1
 match vs,r1,e1,e2 with
 |[.int k],r1,e1,e2=>
  cases e1
  cases e2
  obtain ⟨u,rfl,t,rfl⟩:=r1.one
  exact call_range_1 ⟨.ref _,_,rng_laid I1,rfl,q _ I1.fresh⟩
theorem Vals.of_get:∀{xs:List V} {us:List Value},xs.length=us.length->(∀(i:Nat) v u,xs[i]? =some v->us[i]? =some u->RelV v u)->Vals xs us
 |[],[],_,_=>.nil
 |[],_::_,h,_=>by simp at h
 |_::_,[],h,_=>by simp at h
 |x::xs,u::us,h,q=>.cons (q 0 x u rfl rfl) (Vals.of_get (by simpa using h) fun i v w h1 h2=>q (i+1) v w (by simpa using h1) (by simpa using h2))
theorem yF {lo:Int}:∀{n:Nat} {acc:List Value},acc.length=n->(∀(i:Nat) v,acc[i]? =some v->∃t,v=.int (lo+i) t)->Vals ((List.range n).map fun k:Nat=>V.int (lo+k)) acc:=by
 intro n acc hl h
 refine Vals.of_get (by simp [hl]) fun i v u e1 e2=>?_
 obtain ⟨t,rfl⟩:=h i u e2
 have hi:i<n:=by
  have:=(List.getElem?_eq_some_iff.mp e1).1
  simpa using this
 rw [List.getElem?_map,List.getElem?_range hi] at e1
 cases e1
 exact ⟨t,rfl⟩
theorem tm (hc:X.calm=true):dQ X (.type "list") (fun xs H Q=>∃r lo hi,xs=[.ref r]/\H r=some (.rng lo hi)/\(-(2^62)<=lo/\lo<2^62/\ -(2^62)<=hi/\hi<2^62)/\(hi-lo).toNat<=sizeLine/\∀l,H l=none->Q (.ref l) (upd H l (.lst ((List.range (hi-lo).toNat).map fun k:Nat=>V.int (lo+k))))):=by
 intro pins s σ H xs us Q I rr h
 obtain ⟨r,lo,hi,rfl,hH,⟨b1,b2,b3,b4⟩,hz,q⟩:=h
 obtain ⟨u,rfl,ru⟩:=rr.one
 cases ru
 obtain ⟨t,u,v,e⟩:=(show ∃t u v,s.heap.get? r=some {cls:=.type "range",data:=.fields #[.int lo t,.int hi u,.int 1 v]} from I.hok r _ hH)
 refine call_list_range (n:=(hi-lo).toNat) (I.ok.hd hc) e (small_one b1 b2 b3 b4) (by rw [rangeSize_one];split<;>omega) (by rw [sizeLine_eq] at hz;omega) fun h' tk acc' c' kp e2 it=>?_
 have hv:Vals ((List.range (hi-lo).toNat).map fun k:Nat=>V.int (lo+k)) acc'.toList:=yF (by rw [Array.length_toList];exact it.1) fun i v hi=>by
  obtain ⟨t,e⟩:=it.2 i v (by simpa using hi)
  exact ⟨t,by rw [e,Int.mul_one]⟩
 exact ⟨.ref _,_,I.laid (t':=tk) kp (Nat.le_refl _) (show dv X.prog X.w _ h' _ (.lst _) from ⟨by simpa using hz,acc'.toList,c',hv,by simpa using e2⟩),rfl,q _ I.fresh⟩
theorem wu {F:Hp} (lo:Int) (n:Nat):aB K F (br lo n) ((List.range n).map fun k:Nat=>V.int (lo+k)):=by
 refine aB.of_get (by simp [br]) fun i d v h1 h2=>?_
 have hi:i<n:=by
  have:=(List.getElem?_eq_some_iff.mp h2).1
  simpa using this
 unfold br at h1
 rw [List.getElem?_map,List.getElem?_range hi] at h1 h2
 cases h1
 cases h2
 rfl
theorem lrng_end {F H1:Hp} {Q:VK} {i j:Int} {r:Addr} (p:aH K W true F H1 (il (br i (j-i).toNat)) Q) (s:b0 F H1) (hr:H1 r=none) :
  (j-i).toNat<=sizeLine/\∀l,upd H1 r (.rng i j) l=none->Q (.ref l) (upd (upd H1 r (.rng i j)) l (.lst ((List.range (j-i).toNat).map fun k:Nat=>V.int (i+k)))):=by
 unfold il at p
 by_cases hl:(br i (j-i).toNat).length<=sizeLine
 ·rw [if_pos hl] at p
  refine ⟨by simpa [br] using hl,fun l hl2=>?_⟩
  have s2:Step F H1 F (upd H1 r (.rng i j)):=Step.grow s hr
  have e:H1 l=none:=s2.hh.free hl2
  exact p _ F _ (s2.trans (Step.grow s2.fh hl2)) ⟨l,_,rfl,aq,s.free e,e,wu i _⟩
 ·rw [if_neg hl] at p
  exact (W.ns p).elim
theorem xR {q1 q2:Pos} (hml:X.mg "list"=none) (hm:X.mg "range"=none) (ha:DA K W X [a] fr) (hc:X.calm=true:=by rfl) (hg:Gl X "range":=by rfl) (hgl:Gl X "list":=by rfl) (hs:starEach [a] X.env=[(false,eval a X.env)]:=by rfl)
  (hst:starEach [.Call (.Name "range" q1) [a] [] q2] X.env=[(false,eval (.Call (.Name "range" q1) [a] [] q2) X.env)]:=by rfl):DE K W true X (.Call (.Name "list" p) [.Call (.Name "range" q1) [a] [] q2] [] pos) (fLR (qp oX fr)):=by
 refine PE.imp (uh (tm hc) hgl hml PyProof.Rows.boot_list (b9 (pe_rng1 hg hm ha hs) dE hst) (by decide) (by decide) hst rfl) fun σ H Q h=>?_
 obtain ⟨F,ρ,r,s,p⟩:=h
 refine nX r s (fun e he=>p.err (by unfold fLR qp;rw [he];rfl)) fun ds hd xs F1 H1 s1 q1=>?_
 have e1:fLR (qp oX fr) ρ=(oX ds).bind il:=by unfold fLR qp;rw [hd];rfl
 rw [e1] at p
 have p1:=p.step s1
 by_cases hds:∃j,ds=[.int j]
 ·obtain ⟨j,rfl⟩:=hds
  obtain ⟨v,vs,e2,q2,e3⟩:=q1
  have p2:aH K W true F1 H1 ((if j8 j=true then Except.ok (br 0 j.toNat) else Except.error Err.stuck:M (List Dat)).bind il) Q:=p1
  by_cases hj:j8 j=true
  ·rw [if_pos hj] at p2
   unfold j8 at hj
   simp only [Bool.and_eq_true,decide_eq_true_eq] at hj
   have e4:xs=[.int j]:=by rw [e2,show v=.int j from q2,show vs=[] from e3]
   subst e4
   refine ⟨0,j,rfl,rfl,⟨by decide,by decide,hj.1,hj.2⟩,fun r2 hr2=>?_⟩
   have p3:aH K W true F1 H1 (il (br 0 (j-0).toNat)) Q:=by rw [Int.sub_zero];exact p2
   obtain ⟨z1,z2⟩:=lrng_end p3 s1.fh hr2
   exact ⟨r2,0,j,rfl,aq,⟨by decide,by decide,hj.1,hj.2⟩,z1,z2⟩
  ·rw [if_neg hj] at p2
   exact (W.ns p2).elim
 ·have:oX ds=.error .stuck:=by
   unfold oX
   split
   ·exact absurd ⟨_,rfl⟩ hds
   ·rfl
  rw [this] at p1
  exact (W.ns p1).elim
end
section
variable {K:PySem.W.Frag} {W:gC} {ro:Bool} {F0 H0 FB F H:Hp} {OL O O' O2:List Nat} {D:Ends} {σ:St} {ρ:af} {g h:af->M Flo} {f fk:af->M Dat}
theorem popD_ok {ds:List Dat} {k:Dat} {d:Dat} {es:List Dat} (h:zX ds k=.ok (d,es)):∃i j,k=.int i/\ds.length<=sizeLine/\ixN ds.length i=some j/\ds[j]? =some d/\es=ds.eraseIdx j:=by
 unfold zX at h
 cases k with
 |int i=>
  simp only [asI,aA] at h
  split at h
  ·cases h
  ·rename_i hs
   cases hj:ixN ds.length i with
   |none=>rw [hj] at h;cases h
   |some j=>
    rw [hj] at h
    simp only at h
    cases hd:ds[j]? with
    |none=>rw [hd] at h;cases h
    |some d'=>
     rw [hd] at h
     cases h
     exact ⟨i,j,rfl,by omega,hj,hd,rfl⟩
 |_=>cases h
theorem popD_err {ds:List Dat} {k:Dat} {e:Err} (h:zX ds k=.error e):e=.stuck:=by
 unfold zX at h
 cases k with
 |int i=>
  simp only [asI,aA] at h
  split at h
  ·cases h;rfl
  ·cases hj:ixN ds.length i with
   |none=>rw [hj] at h;cases h;rfl
   |some j=>
    rw [hj] at h
    simp only at h
    cases hd:ds[j]? with
    |none=>rw [hd] at h;cases h;rfl
    |some d'=>rw [hd] at h;cases h
 |_=>cases h;rfl
noncomputable def tPopE (K:PySem.W.Frag) (i:Nat) (tk:TE):TE:=tBM K "list" rPopAt (tVar i) (qr tk tNil)
theorem pop_run {i:Nat} {R:VK} (r:Rep K F0 H0 FB O F H σ ρ) (hi:i∈O) {ds:List Dat} (hl:iN ρ i=.ok ds) (hE:∀e,fk ρ=.error e->W.p e F0 H0)
  (hO:∀k,fk ρ=.ok k->(∀e,zX ds k=.error e->False)/\∀d es,zX ds k=.ok (d,es)->∀v F1 H1,Rep K F0 H0 FB O F1 H1 σ (ρ.set i (some (.lst es)))->cf K F1 d v->R v H1):tPopE K i (tD K W false fk) σ H R:=by
 obtain ⟨a,xs,e2,ha,z⟩:=r.uA hi (iU hl)
 refine ⟨.ref a,e2,sg ha,?_⟩
 refine bZ r.pF r.l6 (fun e he=>W.mono (hE e he) (r.freeze (O2:=[]) (by simp)).st) fun k hk w F1 H1 s1 q=>?_
 obtain ⟨h1,h2⟩:=hO k hk
 cases hp:zX ds k with
 |error e=>exact (h1 e hp).elim
 |ok de=>
  obtain ⟨d,es⟩:=de
  obtain ⟨m,j,rfl,hz,hj,hd,rfl⟩:=popD_ok hp
  obtain ⟨x1,x2,x3,x4⟩:=wb hj
  obtain ⟨y,e3,qy⟩:=z.get hd
  have hs:=sizeLine_eq
  refine ⟨a,xs,m,j,y,rfl,by rw [show w=.int m from q],s1.hh _ _ ha,by omega,by omega,by rw [z.length];exact x1,e3,?_⟩
  exact h2 d _ hp y _ _ ((r.nY s1).write hi (iU hl) e2 (aB.eraseIdx j (z.mono (r.lM s1)))) (qy.mono (r.lM s1))
theorem zN {i j:Nat} (hi:i∈O) (hj:j∈O) (hij:i≠j) (t:tS K W ro F0 H0 OL O O (pE i j fk) D σ H):tDrop (tBM K "list" vN (tVar i) (qr (tPopE K j (tD K W false fk)) tNil)) D σ H:=by
 obtain ⟨FB,F,ρ,r,p⟩:=t
 unfold pE at p
 cases hl:iN ρ i with
 |error e=>have:=nz hl;subst this;exact p.stuck (by rw [hl];rfl)
 |ok es=>
  rw [hl,aA] at p
  cases hl2:iN ρ j with
  |error e=>have:=nz hl2;subst this;exact p.stuck (by rw [hl2];rfl)
  |ok ds=>
   rw [hl2,aA] at p
   obtain ⟨a,xs,e2,ha,z⟩:=r.uA hi (iU hl)
   refine ⟨.ref a,e2,sg ha,?_⟩
   refine pop_run r hj hl2 (fun e he=>p.err (by rw [he];rfl)) fun k hk=>?_
   rw [hk,aA] at p
   refine ⟨fun e he=>by have:=popD_err he;subst this;exact p.stuck (by rw [he];rfl),fun d es2 hp v F1 H1 r1 q=>?_⟩
   rw [hp,aA] at p
   have el:(ρ.set j (some (.lst es2)))[i]? =some (some (.lst es)):=by rw [List.getElem?_set_ne (Ne.symm hij)];exact iU hl
   obtain ⟨a',xs',e3,ha',z'⟩:=r1.uA hi el
   rw [e2] at e3
   cases e3
   by_cases hs:es.length<sizeLine
   ·simp only [if_pos hs] at p
    exact ⟨a,xs',v,rfl,rfl,ha',by rw [z'.length];exact hs,p σ F1 _ (r1.write hi el e2 (aB.append z' ⟨v,[],rfl,q,rfl⟩))⟩
   ·simp only [if_neg hs] at p
    exact p.stuck rfl
end
section
variable {X:Cx} {K:PySem.W.Frag} {W:gC} {own ro:Bool} {e a b c:Expr} {x y:Str} {pos p p2 p3 q r t u:Pos} {f fk:af->M Dat} {OL O:List Nat}
theorem pe_pop {j:Nat} {tk:TE} (hk:PE X e tk) (hN:X.N[j]? =some y) (hv:Vis X.env.scope y) (hd:(y==("__debug__":Str))=false) (hcd:(y==("__classdict__":Str))=false)
  (hst:starEach [e] X.env=[(false,eval e X.env)]) (hbase:attributeBase (.Name y p) "pop" X.env (eval (.Name y p) X.env)=eval (.Name y p) X.env) (hfew:((backTo q (starEach [e] X.env)).all (fun x=> !x.1)&&(backToKw q (keywordEach [] X.env)).all (fun x=>x.1.isSome)&&decide ([e].length+([]:List Keyword).length+(if ([]:List Keyword).isEmpty then 0 else 1)<30))=true) (hplain:(backTo q (starEach [] X.env)).any (·.1)=false) (hline:(t.endLine==q.line)=true) :
  PE X (.Call (.Attribute (.Name y p) "pop" t) [e] [] q) (tPopE X.K j tk):=pe_bm PySem.F.plainAttrs_list PySem.F.slot_list_pop PySem.F.type_list_pop mt_popAt (pv j hN hv hd hcd) (b9 hk dE hst) hbase hfew hline hst hplain
theorem AM {i j:Nat} (hk:DE K W false X e fk) (hoi:i∈O:=by decide) (hoj:j∈O:=by decide) (hij:i≠j:=by decide) (hN:X.N[j]? =some y:=by rfl) (hv:Vis X.env.scope y:=by first|exact Or.inl rfl|exact Or.inr (Or.inl rfl)|exact Or.inr (Or.inr rfl)) (hd:(y==("__debug__":Str))=false:=by decide) (hcd:(y==("__classdict__":Str))=false:=by decide) (hN2:X.N[i]? =some x:=by rfl) (hv2:Vis X.env.scope x:=by first|exact Or.inl rfl|exact Or.inr (Or.inl rfl)|exact Or.inr (Or.inr rfl)) (hd2:(x==("__debug__":Str))=false:=by decide) (hcd2:(x==("__classdict__":Str))=false:=by decide) (hK:X.K=K:=by rfl)
  (hst:starEach [e] X.env=[(false,eval e X.env)]:=by rfl) (hbase:attributeBase (.Name y p) "pop" X.env (eval (.Name y p) X.env)=eval (.Name y p) X.env:=by rfl) (hfew:((backTo q (starEach [e] X.env)).all (fun x=> !x.1)&&(backToKw q (keywordEach [] X.env)).all (fun x=>x.1.isSome)&&decide ([e].length+([]:List Keyword).length+(if ([]:List Keyword).isEmpty then 0 else 1)<30))=true:=by rfl) (hplain:(backTo q (starEach [] X.env)).any (·.1)=false:=by rfl) (hline:(t.endLine==q.line)=true:=by rfl)
  (hst2:starEach [.Call (.Attribute (.Name y p) "pop" t) [e] [] q] X.env=[(false,eval (.Call (.Attribute (.Name y p) "pop" t) [e] [] q) X.env)]:=by rfl) (hbase2:attributeBase (.Name x p2) "append" X.env (eval (.Name x p2) X.env)=eval (.Name x p2) X.env:=by rfl)
  (hfew2:((backTo r (starEach [.Call (.Attribute (.Name y p) "pop" t) [e] [] q] X.env)).all (fun x=> !x.1)&&(backToKw r (keywordEach [] X.env)).all (fun x=>x.1.isSome)&&decide ([Expr.Call (.Attribute (.Name y p) "pop" t) [e] [] q].length+([]:List Keyword).length+(if ([]:List Keyword).isEmpty then 0 else 1)<30))=true:=by rfl) (hplain2:(backTo r (starEach [] X.env)).any (·.1)=false:=by rfl) (hline2:(u.endLine==r.line)=true:=by rfl)
  (hsw:swapsWith (.Call (.Attribute (.Name x p2) "append" u) [.Call (.Attribute (.Name y p) "pop" t) [e] [] q] [] r) none pos.line X.env=pure false:=by rfl) :
  DS K W ro X OL O O (.Expr (.Call (.Attribute (.Name x p2) "append" u) [.Call (.Attribute (.Name y p) "pop" t) [e] [] q] [] r) pos) (pE i j fk):=fun F0 H0=>by
 subst hK
 exact PS.imp (vO (pe_bm PySem.F.plainAttrs_list PySem.F.slot_list_append PySem.F.type_list_append uy (pv i hN2 hv2 hd2 hcd2) (b9 (pe_pop hk hN hv hd hcd hst hbase hfew hplain hline) dE hst2) hbase2 hfew2 hline2 hst2 hplain2) hsw) fun _ _ _=>zN hoi hoj hij
end
end L2
namespace L2
open PySem PySem.Spec PyProof.Rows
section
variable {X:Cx} {es:List Expr} {x:Str} {p:Pos}
theorem jL {N':List Str} {sc:Scope} {L:Addr} {cs:List (Str×Addr)} {s:Shared} {H:Hp} {fp:List Addr} {i:Nat} {is:List Nat} (hN:N'.Nodup) (h2:PGs (bB X N' sc L cs s H fp) es (iW is)) (hi:N'[i]? =some x:=by rfl) (hx:Loc (bB X N' sc L cs s H fp).env.scope x:=by first|exact Or.inl rfl|exact Or.inr rfl)
  (hf:(bB X N' sc L cs s H fp).fn x=true\/(bB X N' sc L cs s H fp).env.scope.names.lookup x=some .local:=by first|exact .inl rfl|exact .inr rfl|assumption)
  (hs:(assignEach (.Name x p::es) (bB X N' sc L cs s H fp).env).map (·.2)=assign (.Name x p) (bB X N' sc L cs s H fp).env::(assignEach es (bB X N' sc L cs s H fp).env).map (·.2):=by rfl):PGs (bB X N' sc L cs s H fp) (.Name x p::es) (iW (i::is)):=xr (pg_c hN hi hx hf) h2 hs
end
end L2
namespace L2
open PySem PySem.Spec PyProof.Rows
open PySem.W in
noncomputable def eF {α:Type} (lt:Nat->Nat->Bool):KasT α->α
 |.ret a=>a
 |.ask i j k=>eF lt (k (lt i j))
section
open PySem.W
variable {α β:Type} {lt:Nat->Nat->Bool}
theorem jm (f:α->KasT β):∀t:KasT α,eF lt (t.bind f)=eF lt (f (eF lt t))
 |.ret _=>rfl
 |.ask i j k=>jm f (k (lt i j))
variable {key:Nat->Int} {p:Array Nat}
noncomputable def kAt (key:Nat->Int) (p:Array Nat) (i:Nat):Int:=key (p.getD i 0)
noncomputable def Up (key:Nat->Int) (p:Array Nat) (k:Nat):Prop:=∀i j,i<=j->j<k->kAt key p i<=kAt key p j
noncomputable def Down (key:Nat->Int) (p:Array Nat) (k:Nat):Prop:=∀i j,i<=j->j<k->kAt key p j<=kAt key p i
theorem ll {p q:Array Nat} {i j:Nat} (h:p[i]? =q[j]?):kAt key p i=kAt key q j:=by
 unfold kAt
 rw [Array.getD_eq_getD_getElem?,Array.getD_eq_getD_getElem?,h]
theorem pS {i j:Nat} (hj:j<=p.size) (k:Nat):kAt key (kas_rev p i j) k=if i<=k/\k<j then kAt key p (i+j-1-k) else kAt key p k:=by
 have e:=getElem?_mirror_all (i:=i) hj k
 unfold kas_rev
 split
 ·rename_i h;rw [if_pos h] at e;exact ll e
 ·rename_i h;rw [if_neg h] at e;exact ll e
theorem kAt_bub {src d:Nat} (hs:src<p.size) (hd:d<=src) (k:Nat):kAt key (bubble p src d) k=if k=src-d then kAt key p src else if src-d<k/\k<=src then kAt key p (k-1) else kAt key p k:=by
 have e:=getElem?_bubble hs d hd k
 split
 ·rename_i h;rw [if_pos h] at e;exact ll e
 ·rename_i h
  rw [if_neg h] at e
  split
  ·rename_i h2;rw [if_pos h2] at e;exact ll e
  ·rename_i h2;rw [if_neg h2] at e;exact ll e
theorem jY {i j:Nat}:(kas_rev p i j).size=p.size:=mirror_size _ _ _ _
theorem gN {i j:Nat}:(kas_rev p i j).Perm p:=mirror_perm _ _ _ _
noncomputable def ltK (key:Nat->Int) (i j:Nat):Bool:=decide (key i<key j)
theorem Bh (p:Array Nat):∀(f n:Nat),1<=n->Up key p n->n<=eF (ltK key) (kas_asc p f n)/\eF (ltK key) (kas_asc p f n)<=n+f/\Up key p (eF (ltK key) (kas_asc p f n)) /\
  (eF (ltK key) (kas_asc p f n)<n+f->kAt key p (eF (ltK key) (kas_asc p f n))<kAt key p (eF (ltK key) (kas_asc p f n)-1))
 |0,n,h1,h=>⟨Nat.le_refl _,Nat.le_refl _,h,fun z=>absurd z (Nat.lt_irrefl _)⟩
 |f+1,n,h1,h=>by
  have e:eF (ltK key) (kas_asc p (f+1) n)=if kAt key p n<kAt key p (n-1) then n else eF (ltK key) (kas_asc p f (n+1)):=by
   show eF (ltK key) (if ltK key (p.getD n 0) (p.getD (n-1) 0)=true then KasT.ret n else kas_asc p f (n+1))=_
   by_cases hc:kAt key p n<kAt key p (n-1)
   ·rw [if_pos (show ltK key (p.getD n 0) (p.getD (n-1) 0)=true from decide_eq_true hc),if_pos hc];rfl
   ·rw [if_neg (show ¬ltK key (p.getD n 0) (p.getD (n-1) 0)=true from fun z=>hc (of_decide_eq_true z)),if_neg hc]
  rw [e]
  by_cases hc:kAt key p n<kAt key p (n-1)
  ·rw [if_pos hc]
   exact ⟨Nat.le_refl _,by omega,h,fun _=>hc⟩
  ·rw [if_neg hc]
   obtain ⟨a1,a2,a3,a4⟩:=Bh p f (n+1) (by omega) (fun i j hij hj=>by
    by_cases hjn:j<n
    ·exact h i j hij hjn
    ·have:j=n:=by omega
     subst this
     by_cases hin:i=j
     ·rw [hin];exact Int.le_refl _
     ·have:=h i (j-1) (by omega) (by omega)
      omega)
   exact ⟨by omega,by omega,a3,fun z=>a4 (by omega)⟩
noncomputable def Alike (key:Nat->Int) (p:Array Nat) (n q:Nat):Prop:=∀i,n-(q+1)<=i->i<n->kAt key p i=kAt key p (n-1)
theorem Bi {n:Nat}:Alike key p (n+1) 0:=fun i h1 h2=>by rw [show i=n+1-1 by omega]
theorem ua {n q:Nat} (hn:n<=p.size) (ha:Alike key p n q) (hq:q+1<=n) (k:Nat):kAt key (kas_rev p (n-(q+1)) n) k=kAt key p k:=by
 rw [pS hn]
 split
 ·rename_i h
  rw [ha _ (by omega) (by omega),ha k h.1 h.2]
 ·rfl
theorem t7:∀(f:Nat) (p:Array Nat) (n q:Nat),1<=n->q+1<=n->n+f<=p.size->Down key p n->Alike key p n q->∀p' n' q',eF (ltK key) (kas_desc f p n q)=(p',n',q') ->
  p'.Perm p/\p'.size=p.size/\n<=n'/\n'<=n+f/\q'+1<=n'/\Down key p' n'/\Alike key p' n' q'
 |0,p,n,q,h1,hq,hz,hd,ha,p',n',q',e=>by
  cases e
  exact ⟨Array.Perm.refl _,rfl,Nat.le_refl _,Nat.le_refl _,hq,hd,ha⟩
 |f+1,p,n,q,h1,hq,hz,hd,ha,p',n',q',e=>by
  have e0:eF (ltK key) (kas_desc (f+1) p n q)=if kAt key p n<kAt key p (n-1) then (if q>0 then eF (ltK key) (kas_desc f (kas_rev p (n-(q+1)) n) (n+1) 0) else eF (ltK key) (kas_desc f p (n+1) 0))
    else if kAt key p (n-1)<kAt key p n then (p,n,q) else eF (ltK key) (kas_desc f p (n+1) (q+1)):=by
   show eF (ltK key) (if ltK key (p.getD n 0) (p.getD (n-1) 0)=true then (if q>0 then kas_desc f (kas_rev p (n-(q+1)) n) (n+1) 0 else kas_desc f p (n+1) 0)
    else KasT.ask (p.getD (n-1) 0) (p.getD n 0) fun d=>if d=true then .ret (p,n,q) else kas_desc f p (n+1) (q+1))=_
   by_cases hc:kAt key p n<kAt key p (n-1)
   ·rw [if_pos (show ltK key (p.getD n 0) (p.getD (n-1) 0)=true from decide_eq_true hc),if_pos hc]
    by_cases hq0:q>0
    ·rw [if_pos hq0,if_pos hq0]
    ·rw [if_neg hq0,if_neg hq0]
   ·rw [if_neg (show ¬ltK key (p.getD n 0) (p.getD (n-1) 0)=true from fun z=>hc (of_decide_eq_true z)),if_neg hc]
    show eF (ltK key) (if ltK key (p.getD (n-1) 0) (p.getD n 0)=true then KasT.ret (p,n,q) else kas_desc f p (n+1) (q+1))=_
    by_cases hc2:kAt key p (n-1)<kAt key p n
    ·rw [if_pos (show ltK key (p.getD (n-1) 0) (p.getD n 0)=true from decide_eq_true hc2),if_pos hc2];rfl
    ·rw [if_neg (show ¬ltK key (p.getD (n-1) 0) (p.getD n 0)=true from fun z=>hc2 (of_decide_eq_true z)),if_neg hc2]
  rw [e0] at e
  have down1:∀{r:Array Nat},(∀k,kAt key r k=kAt key p k)->kAt key p n<=kAt key p (n-1)->Down key r (n+1):=fun {r} hr hle i j hij hj=>by
   rw [hr,hr]
   by_cases hjn:j<n
   ·exact hd i j hij hjn
   ·have:j=n:=by omega
    subst this
    by_cases hin:i=j
    ·rw [hin];exact Int.le_refl _
    ·have:=hd i (j-1) (by omega) (by omega)
     omega
  by_cases hc:kAt key p n<kAt key p (n-1)
  ·rw [if_pos hc] at e
   by_cases hq0:q>0
   ·rw [if_pos hq0] at e
    have hr:=ua (key:=key) (p:=p) (n:=n) (q:=q) (by omega) ha hq
    obtain ⟨b1,b2,b3,b4,b5,b6,b7⟩:=t7 f _ (n+1) 0 (by omega) (by omega) (by rw [jY];omega) (down1 hr (by omega)) Bi p' n' q' e
    exact ⟨b1.trans gN,by rw [b2,jY],by omega,by omega,b5,b6,b7⟩
   ·rw [if_neg hq0] at e
    obtain ⟨b1,b2,b3,b4,b5,b6,b7⟩:=t7 f _ (n+1) 0 (by omega) (by omega) (by omega) (down1 (fun _=>rfl) (by omega)) Bi p' n' q' e
    exact ⟨b1,b2,by omega,by omega,b5,b6,b7⟩
  ·rw [if_neg hc] at e
   by_cases hc2:kAt key p (n-1)<kAt key p n
   ·rw [if_pos hc2] at e
    cases e
    exact ⟨Array.Perm.refl _,rfl,Nat.le_refl _,by omega,hq,hd,ha⟩
   ·rw [if_neg hc2] at e
    obtain ⟨b1,b2,b3,b4,b5,b6,b7⟩:=t7 f _ (n+1) (q+1) (by omega) (by omega) (by omega) (down1 (fun _=>rfl) (by omega)) (fun i h1 h2=>by
     show kAt key p i=kAt key p (n+1-1)
     rw [Nat.add_sub_cancel]
     by_cases hin:i=n
     ·rw [hin]
     ·have:=ha i (by omega) (by omega)
      omega) p' n' q' e
    exact ⟨b1,b2,by omega,by omega,b5,b6,b7⟩
theorem xk {n nrem:Nat} (h1:1<=n) (hn:n<=nrem) (hz:nrem<=p.size) (hd:Down key p n):∀m p',eF (ltK key) (kas_tail3 n nrem p)=(m,p')->p'.Perm p/\p'.size=p.size/\1<=m/\m<=nrem/\Up key p' m:=by
 intro m p' e
 unfold kas_tail3 at e
 rw [jm] at e
 cases e
 have hu:Up key (kas_rev p 0 n) n:=fun i j hij hj=>by
  rw [pS (by omega),pS (by omega),if_pos ⟨Nat.zero_le _,by omega⟩,if_pos ⟨Nat.zero_le _,by omega⟩]
  exact hd _ _ (by omega) (by omega)
 obtain ⟨a1,a2,a3,_⟩:=Bh (key:=key) (kas_rev p 0 n) (nrem-n) n h1 hu
 exact ⟨gN,jY,by omega,by omega,a3⟩
theorem q9 {n nrem:Nat} (h1:1<=n) (hn:n+1<=nrem) (hz:nrem<=p.size) (hall:∀i,i<n->kAt key p i=kAt key p (n-1)) (hlt:kAt key p n<kAt key p (n-1)):∀m p',eF (ltK key) (kas_descPart n nrem p)=(m,p')->p'.Perm p/\p'.size=p.size/\1<=m/\m<=nrem/\Up key p' m:=by
 intro m p' e
 unfold kas_descPart at e
 rw [jm] at e
 obtain ⟨r,n2,q2⟩:∃r n2 q2,eF (ltK key) (kas_desc (nrem-(n+1)) p (n+1) 0)=(r,n2,q2):=⟨_,_,_,rfl⟩
 obtain ⟨q2,er⟩:=q2
 rw [er] at e
 obtain ⟨b1,b2,b3,b4,b5,b6,b7⟩:=t7 (key:=key) (nrem-(n+1)) p (n+1) 0 (by omega) (by omega) (by omega) (fun i j hij hj=>by
  by_cases hjn:j<n
  ·rw [hall i (by omega),hall j hjn];exact Int.le_refl _
  ·have:j=n:=by omega
   subst this
   by_cases hin:i=j
   ·rw [hin];exact Int.le_refl _
   ·rw [hall i (by omega)];omega) Bi r n2 q2 er
 by_cases hq:q2>0
 ·simp only [if_pos hq] at e
  have hr:=ua (key:=key) (p:=r) (n:=n2) (q:=q2) (by omega) b7 b5
  obtain ⟨c1,c2,c3,c4,c5⟩:=xk (key:=key) (p:=kas_rev r (n2-(q2+1)) n2) (n:=n2) (nrem:=nrem) (by omega) (by omega) (by rw [jY];omega) (fun i j hij hj=>by rw [hr,hr];exact b6 i j hij hj) m p' e
  exact ⟨c1.trans (gN.trans b1),by rw [c2,jY,b2],c3,c4,c5⟩
 ·simp only [if_neg hq] at e
  obtain ⟨c1,c2,c3,c4,c5⟩:=xk (key:=key) (p:=r) (n:=n2) (nrem:=nrem) (by omega) (by omega) (by omega) b6 m p' e
  exact ⟨c1.trans b1,by rw [c2,b2],c3,c4,c5⟩
theorem count_ok {nrem:Nat} (h1:1<=nrem) (hz:nrem<=p.size):∀m p',eF (ltK key) (kas_count nrem p)=(m,p')->p'.Perm p/\p'.size=p.size/\1<=m/\m<=nrem/\Up key p' m:=by
 intro m p' e
 unfold kas_count at e
 rw [jm] at e
 obtain ⟨a1,a2,a3,a4⟩:=Bh (key:=key) p (nrem-1) 1 (Nat.le_refl _) (fun i j hij hj=>by rw [show i=j by omega];exact Int.le_refl _)
 obtain ⟨n,en⟩:∃n,eF (ltK key) (kas_asc p (nrem-1) 1)=n:=⟨_,rfl⟩
 rw [en] at e a1 a2 a3 a4
 by_cases hn:(n==nrem)=true
 ·simp only [if_pos hn] at e
  cases e
  exact ⟨Array.Perm.refl _,rfl,a1,by omega,a3⟩
 ·simp only [if_neg hn] at e
  have hn':n≠nrem:=fun z=>hn (by simp [z])
  have hlt:=a4 (by omega)
  by_cases h2:n>1
  ·simp only [if_pos h2] at e
   have e':eF (ltK key) (if ltK key (p.getD 0 0) (p.getD (n-1) 0)=true then KasT.ret (n,p) else kas_descPart n nrem (kas_rev p 0 n))=(m,p'):=e
   by_cases hc:kAt key p 0<kAt key p (n-1)
   ·rw [if_pos (show ltK key (p.getD 0 0) (p.getD (n-1) 0)=true from decide_eq_true hc)] at e'
    cases e'
    exact ⟨Array.Perm.refl _,rfl,a1,by omega,a3⟩
   ·rw [if_neg (show ¬ltK key (p.getD 0 0) (p.getD (n-1) 0)=true from fun z=>hc (of_decide_eq_true z))] at e'
    have all:∀i,i<n->kAt key p i=kAt key p (n-1):=fun i hi=>by
     have x1:=a3 0 i (by omega) hi
     have x2:=a3 i (n-1) (by omega) (by omega)
     omega
    have hr:∀i,i<n->kAt key (kas_rev p 0 n) i=kAt key p (n-1):=fun i hi=>by
     rw [pS (by omega),if_pos ⟨Nat.zero_le _,hi⟩]
     exact all _ (by omega)
    obtain ⟨c1,c2,c3,c4,c5⟩:=q9 (key:=key) (p:=kas_rev p 0 n) (n:=n) (nrem:=nrem) a1 (by omega) (by rw [jY];omega) (fun i hi=>by rw [hr i hi,hr (n-1) (by omega)]) (by
     rw [hr (n-1) (by omega),pS (by omega),if_neg (by omega)]
     exact hlt) m p' e'
    exact ⟨c1.trans gN,by rw [c2,jY],c3,c4,c5⟩
  ·simp only [if_neg h2] at e
   have:n=1:=by omega
   subst this
   exact q9 (key:=key) (Nat.le_refl _) (by omega) hz (fun i hi=>by rw [show i=1-1 by omega]) hlt m p' e
theorem sx {k:Nat} (hu:Up key p k):∀(f l r:Nat),r<=k->r-l<=f->l<=r->(∀i,i<l->kAt key p i<=kAt key p k)->(∀i,r<=i->i<k->kAt key p k<kAt key p i) ->
  eF (ltK key) (kas_place p k f l r)<=k/\(∀i,i<eF (ltK key) (kas_place p k f l r)->kAt key p i<=kAt key p k)/\∀i,eF (ltK key) (kas_place p k f l r)<=i->i<k->kAt key p k<kAt key p i
 |0,l,r,hr,hf,hlr,h1,h2=>by
  have:l=r:=by omega
  subst this
  exact ⟨hr,h1,h2⟩
 |f+1,l,r,hr,hf,hlr,h1,h2=>by
  by_cases hge:l>=r
  ·have:l=r:=by omega
   subst this
   have e:eF (ltK key) (kas_place p k (f+1) l l)=l:=by
    show eF (ltK key) (if l>=l then KasT.ret l else _)=l
    rw [if_pos hge];rfl
   rw [e]
   exact ⟨hr,h1,h2⟩
  ·have e:eF (ltK key) (kas_place p k (f+1) l r)=if kAt key p k<kAt key p ((l+r)/2) then eF (ltK key) (kas_place p k f l ((l+r)/2)) else eF (ltK key) (kas_place p k f ((l+r)/2+1) r):=by
    show eF (ltK key) (if l>=r then KasT.ret l else .ask (p.getD k 0) (p.getD ((l+r)/2) 0) fun c=>if c=true then kas_place p k f l ((l+r)/2) else kas_place p k f ((l+r)/2+1) r)=_
    rw [if_neg hge]
    show eF (ltK key) (if ltK key (p.getD k 0) (p.getD ((l+r)/2) 0)=true then kas_place p k f l ((l+r)/2) else kas_place p k f ((l+r)/2+1) r)=_
    by_cases hc:kAt key p k<kAt key p ((l+r)/2)
    ·rw [if_pos (show ltK key (p.getD k 0) (p.getD ((l+r)/2) 0)=true from decide_eq_true hc),if_pos hc]
    ·rw [if_neg (show ¬ltK key (p.getD k 0) (p.getD ((l+r)/2) 0)=true from fun z=>hc (of_decide_eq_true z)),if_neg hc]
   rw [e]
   by_cases hc:kAt key p k<kAt key p ((l+r)/2)
   ·rw [if_pos hc]
    exact sx hu f l ((l+r)/2) (by omega) (by omega) (by omega) h1 fun i hi hik=>by
     have:=hu ((l+r)/2) i hi hik
     omega
   ·rw [if_neg hc]
    exact sx hu f ((l+r)/2+1) r hr (by omega) (by omega) (fun i hi=>by
     have:=hu i ((l+r)/2) (by omega) (by omega)
     omega) h2
theorem bin_ok:∀(f:Nat) (p:Array Nat) (k:Nat),k+f<=p.size->Up key p k->(eF (ltK key) (kas_bin f p k)).Perm p/\Up key (eF (ltK key) (kas_bin f p k)) (k+f)
 |0,p,k,hz,hu=>⟨Array.Perm.refl _,hu⟩
 |f+1,p,k,hz,hu=>by
  have e:eF (ltK key) (kas_bin (f+1) p k)=eF (ltK key) (kas_bin f (bubble p k (k-eF (ltK key) (kas_place p k k 0 k))) (k+1)):=by
   show eF (ltK key) ((kas_place p k k 0 k).bind fun l=>kas_bin f (bubble p k (k-l)) (k+1))=_
   rw [jm]
  rw [e]
  obtain ⟨a1,a2,a3⟩:=sx hu k 0 k (Nat.le_refl _) (by omega) (Nat.zero_le _) (fun i hi=>absurd hi (Nat.not_lt_zero _)) (fun i h1 h2=>by omega)
  obtain ⟨l,el⟩:∃l,eF (ltK key) (kas_place p k k 0 k)=l:=⟨_,rfl⟩
  rw [el] at a1 a2 a3 ⊢
  have hb:=kAt_bub (key:=key) (p:=p) (src:=k) (d:=k-l) (by omega) (by omega)
  obtain ⟨c1,c2⟩:=bin_ok f (bubble p k (k-l)) (k+1) (by rw [bubble_size];omega) (fun i j hij hj=>by
   have e1:k-(k-l)=l:=by omega
   rw [hb,hb,e1]
   by_cases hi:i=l
   ·rw [if_pos hi]
    by_cases hj2:j=l
    ·rw [if_pos hj2];exact Int.le_refl _
    ·rw [if_neg hj2,if_pos (by omega)]
     have:=a3 (j-1) (by omega) (by omega)
     omega
   ·rw [if_neg hi]
    by_cases hj2:j=l
    ·rw [if_pos hj2,if_neg (by omega)]
     exact a2 i (by omega)
    ·rw [if_neg hj2]
     by_cases hi2:l<i/\i<=k
     ·rw [if_pos hi2,if_pos (by omega)]
      exact hu _ _ (by omega) (by omega)
     ·rw [if_neg hi2]
      by_cases hj3:l<j/\j<=k
      ·rw [if_pos hj3]
       exact hu _ _ (by omega) (by omega)
      ·rw [if_neg hj3]
       exact hu _ _ (by omega) (by omega))
  exact ⟨c1.trans (bubble_perm _ _ _),by rw [show k+(f+1)=k+1+f by omega];exact c2⟩
theorem si {n:Nat} (h1:1<=n):(eF (ltK key) (kas_sort n)).toList.Perm (List.range n)/\Up key (eF (ltK key) (kas_sort n)) n:=by
 unfold kas_sort
 rw [jm]
 obtain ⟨m,p',er⟩:∃m p',eF (ltK key) (kas_count n (List.toArray (List.range n)))=(m,p'):=⟨_,_,rfl⟩
 rw [er]
 obtain ⟨b1,b2,b3,b4,b5⟩:=count_ok (key:=key) (p:=List.toArray (List.range n)) h1 (by simp) m p' er
 have hsz:p'.size=n:=by rw [b2];simp
 by_cases hm:m<n
 ·simp only [if_pos hm]
  have em:max m 1=m:=by omega
  rw [em]
  obtain ⟨c1,c2⟩:=bin_ok (key:=key) (n-m) p' m (by omega) b5
  refine ⟨?_,by rw [show m+(n-m)=n by omega] at c2;exact c2⟩
  have:=Array.perm_iff_toList_perm.mp (c1.trans b1)
  simpa using this
 ·simp only [if_neg hm]
  have:m=n:=by omega
  subst this
  refine ⟨?_,b5⟩
  have:=Array.perm_iff_toList_perm.mp b1
  show p'.toList.Perm _
  simpa using this
end
end L2
namespace L2
open PySem PySem.Spec PyProof.Rows
section
open PySem.W
variable {α β:Type} {n:Nat}
noncomputable def yf (n:Nat) (R:α->Prop):KasT α->Prop
 |.ret a=>R a
 |.ask i j k=>i<n/\j<n/\∀b,yf n R (k b)
theorem jN {R:α->Prop} {S:β->Prop} {f:α->KasT β} (hf:∀a,R a->yf n S (f a)):∀t:KasT α,yf n R t->yf n S (t.bind f)
 |.ret a,h=>hf a h
 |.ask i j k,h=>⟨h.1,h.2.1,fun b=>jN hf (k b) (h.2.2 b)⟩
theorem rm {lt:Nat->Nat->Bool} {R:α->Prop} {cmp:Nat->Nat->(Bool->Shared->Prop)->Shared->Prop} {s:Shared} (ha:∀i j (C:Bool->Shared->Prop),i<n->j<n->C (lt i j) s->cmp i j C s) {Q:α->Shared->Prop}:∀t:KasT α,yf n R t->Q (eF lt t) s->t.kasWp cmp Q s
 |.ret _,_,h=>h
 |.ask i j k,r,h=>ha i j _ r.1 r.2.1 (rm ha (k (lt i j)) (r.2.2 _) h)
noncomputable def InB (n:Nat) (p:Array Nat):Prop:=∀x,p.getD x 0<n
theorem lU {p q:Array Nat} (h0:0<n) (hp:InB n p) (h:q.Perm p):InB n q:=fun x=>by
 rw [Array.getD_eq_getD_getElem?]
 cases e:q[x]? with
 |none=>exact h0
 |some v=>
  have hv:v∈q.toList:=by
   rw [<- Array.getElem?_toList] at e
   exact List.mem_of_getElem? e
  have hv2:v∈p.toList:=(Array.perm_iff_toList_perm.mp h).mem_iff.mp hv
  obtain ⟨y,hy,ey⟩:=List.getElem_of_mem hv2
  have:=hp y
  rw [Array.getD_eq_getD_getElem?,<- Array.getElem?_toList,List.getElem?_eq_getElem hy,ey] at this
  exact this
variable {p:Array Nat}
theorem tF (hp:InB n p):∀f m,yf n (fun _=>True) (kas_asc p f m)
 |0,_=>trivial
 |f+1,m=>⟨hp _,hp _,fun b=>by
  (try dsimp only)
  split
  ·trivial
  ·exact tF hp f (m+1)⟩
theorem nP (h0:0<n):∀(f:Nat) (p:Array Nat) (m q:Nat),InB n p->yf n (fun r=>InB n r.1) (kas_desc f p m q)
 |0,p,_,_,hp=>hp
 |f+1,p,m,q,hp=>⟨hp _,hp _,fun b=>by
  (try dsimp only)
  split
  ·split
   ·exact nP h0 f _ _ _ (lU h0 hp gN)
   ·exact nP h0 f _ _ _ hp
  ·refine ⟨hp _,hp _,fun c=>?_⟩
   (try dsimp only)
   split
   ·exact hp
   ·exact nP h0 f _ _ _ hp⟩
theorem rS (h0:0<n) (hp:InB n p) (m r:Nat):yf n (fun r=>InB n r.2) (kas_tail3 m r p):=by
 unfold kas_tail3
 refine jN (n:=n) (R:=fun _=>True) (f:=fun k=>KasT.ret (k,kas_rev p 0 m)) (fun a _=>?_) _ (tF (lU h0 hp gN) _ _)
 exact lU h0 hp gN
theorem nO (h0:0<n) (hp:InB n p) (m r:Nat):yf n (fun r=>InB n r.2) (kas_descPart m r p):=by
 refine jN (R:=fun r=>InB n r.1) (fun a ha=>?_) _ (nP h0 _ _ _ _ hp)
 (try dsimp only)
 split
 ·exact rS h0 (lU h0 ha gN) _ _
 ·exact rS h0 ha _ _
theorem yX (h0:0<n) (hp:InB n p) (r:Nat):yf n (fun r=>InB n r.2) (kas_count r p):=by
 refine jN (R:=fun _=>True) (fun a _=>?_) _ (tF hp _ _)
 (try dsimp only)
 split
 ·exact hp
 ·split
  ·refine ⟨hp _,hp _,fun b=>?_⟩
   (try dsimp only)
   split
   ·exact hp
   ·exact nO h0 (lU h0 hp gN) _ _
  ·exact nO h0 hp _ _
theorem oG (hp:InB n p) (k:Nat):∀f l r,yf n (fun _=>True) (kas_place p k f l r)
 |0,_,_=>trivial
 |f+1,l,r=>by
  show yf n (fun _=>True) (if l>=r then KasT.ret l else _)
  split
  ·trivial
  ·refine ⟨hp _,hp _,fun b=>?_⟩
   (try dsimp only)
   split
   ·exact oG hp k f _ _
   ·exact oG hp k f _ _
theorem yb (h0:0<n):∀(f:Nat) (p:Array Nat) (k:Nat),InB n p->yf n (fun _=>True) (kas_bin f p k)
 |0,_,_,_=>trivial
 |f+1,p,k,hp=>jN (R:=fun _=>True) (fun l _=>yb h0 f _ _ (lU h0 hp (bubble_perm _ _ _))) _ (oG hp k _ _ _)
theorem Bg (h0:0<n):yf n (fun _=>True) (kas_sort n):=by
 refine jN (R:=fun r=>InB n r.2) (fun a ha=>?_) _ (yX h0 (fun x=>?_) _)
 ·(try dsimp only)
  split
  ·exact yb h0 _ _ _ ha
  ·trivial
 ·rw [Array.getD_eq_getD_getElem?]
  simp only [List.getElem?_toArray]
  cases e:(List.range n)[x]? with
  |none=>exact h0
  |some v=>exact List.mem_range.mp (List.mem_of_getElem? e)
end
section
open PySem.W
variable {prog:Program} {w:World} {A:Around} {E:Value->Shared->Prop} {s:Shared} {key:Nat->Int}
noncomputable def mj (key:Nat->Int) (vs:List Value):List Value:=if vs.length<2 then vs else (eF (ltK key) (kas_sort vs.length)).toList.map fun i=>vs.getD i Value.none
noncomputable def Asks (prog:Program) (w:World) (A:Around) (key:Nat->Int) (vs:List Value) (s':Shared):Prop:=
 wpAny (model prog w) A (keyKind' vs.toArray) (fun κ s2=>s2=s'/\∀i j (C:Bool->Shared->Prop),i<vs.length->j<vs.length->C (ltK key i j) s'->kas_ask prog w A κ vs i j C s') (fun _ _=>False) s'
theorem uB {a:Addr} {vs:List Value} {n:Nat} {P:PySem.Fin->Shared->Prop} (ho:s.heap.get? a=some (seqObj "list" vs.toArray n)) (h64:vs.length<64)
  (hk:2<=vs.length->∀h1:Heap,(∀b o,b≠a->s.heap.get? b=some o->h1.get? b=some o)->Asks prog w A key vs {s with heap:=h1})
  (h:∀(h':Heap) (c:Nat),(∀b o,b≠a->s.heap.get? b=some o->h'.get? b=some o)->h'.get? a=some (seqObj "list" (mj key vs).toArray c)->P (.done (.ret .none)) {s with heap:=h'}) :
  wpAny (model prog w) A (Builtin.«list.sort» ⟨[.ref a],[]⟩) P E s:=by
 have hlt:a<s.heap.objs.size:=Heap.lt_size ho
 have hline:=sizeLine_eq
 obtain ⟨e1,ho1⟩:∃e1,(s.heap.update a (Obj.mapSeq fun _=>(#[]:Array Value))).get? a=some (seqObj "list" #[] e1):=⟨_,get?_update_seq ho fun _=>#[]⟩
 rw [list_sort_plain]
 refine wpAny_bind (listItems_at ho rfl (wpAny_bind (listUpdate_at ho rfl (wpAny_bind (seqEpoch_at ho1 rfl (wpAny_bind (wpAny_newTuple (wpAny_bind (wpAny_newList (wpAny_holding ?_) (Nat.zero_le _))) (by show vs.length<=_;omega))))) (by rw [List.size_toArray];omega) (Nat.zero_le _))))
 have hkeep:∀b o,b≠a->s.heap.get? b=some o->(((s.heap.update a (Obj.mapSeq fun _=>(#[]:Array Value))).push (seqObj "tuple" vs.toArray 0)).push (seqObj "list" #[] 0)).get? b=some o:=fun b o hb q=>
  Heap.get?_push_of_some _ (Heap.get?_push_of_some _ ((Heap.get?_update_other _ _ (Ne.symm hb)).trans q))
 have ho6:(((s.heap.update a (Obj.mapSeq fun _=>(#[]:Array Value))).push (seqObj "tuple" vs.toArray 0)).push (seqObj "list" #[] 0)).get? a=some (seqObj "list" #[] e1):=Heap.get?_push_of_some _ (Heap.get?_push_of_some _ ho1)
 show wpAny (model prog w) A _ P E {s with heap:=((s.heap.update a (Obj.mapSeq fun _=>(#[]:Array Value))).push (seqObj "tuple" vs.toArray 0)).push (seqObj "list" #[] 0)}
 dsimp only
 have fin:∀(out:List Value),out=mj key vs->P (.done (.ret .none)) {s with heap:=(((s.heap.update a (Obj.mapSeq fun _=>(#[]:Array Value))).push (seqObj "tuple" vs.toArray 0)).push (seqObj "list" #[] 0)).update a (Obj.mapSeq fun _=>out.toArray)}:=fun out eo=>by
  subst eo
  exact h _ _ (fun b o hb q=>(Heap.get?_update_other _ _ (Ne.symm hb)).trans (hkeep b o hb q)) (get?_update_seq ho6 fun _=>(mj key vs).toArray)
 by_cases h2:vs.toArray.size<2
 ·rw [if_pos h2,if_pos h2]
  refine wpAny_bind (wpAny_pure ?_)
  rw [StateT.run_pure]
  refine wpAny_bind (wpAny_pure ?_)
  dsimp only
  have h2':vs.length<2:=by simpa using h2
  have eo:(arrOf (SortSt.mk' general' (vs.toArray.zip vs.toArray) #[] 7 none)).map (·.2)=vs.toArray:=by
   show (vs.toArray.zip vs.toArray).map (·.2)=vs.toArray
   apply Array.toList_inj.mp
   simp only [Array.toList_map,Array.toList_zip]
   exact List.map_snd_zip (Nat.le_refl _)
  rw [eo]
  refine wpAny_bind (seqEpoch_at ho6 rfl (wpAny_bind (listUpdate_at ho6 rfl ?_ (Nat.zero_le _) (by show vs.length<=_;omega))))
  have e3:failedOf (SortSt.mk' general' (vs.toArray.zip vs.toArray) #[] 7 none)=none:=rfl
  simp only [e3,bne_self_eq_false,Bool.false_eq_true,if_false]
  exact wpAny_pure (fin vs (by unfold mj;rw [if_pos h2']))
 ·rw [if_neg h2,if_neg h2]
  have h2':2<=vs.length:=by rw [List.size_toArray] at h2;omega
  refine wpAny_bind (wpAny_mono (hk h2' _ hkeep) (fun κ s0 ⟨es,ask⟩=>?_) fun _ _ x=>x.elim)
  subst es
  refine wpAny_bind (wpAny_mono (kat_run (ks:=vs) (vs:=vs) (Q:=fun st' s'=>s'={s with heap:=((s.heap.update a (Obj.mapSeq fun _=>(#[]:Array Value))).push (seqObj "tuple" vs.toArray 0)).push (seqObj "list" #[] 0)}/\(arrOf st').map (·.2)=(mj key vs).toArray/\failedOf st'=none)
   (G:=fun p s'=>s'={s with heap:=((s.heap.update a (Obj.mapSeq fun _=>(#[]:Array Value))).push (seqObj "tuple" vs.toArray 0)).push (seqObj "list" #[] 0)}/\p=eF (ltK key) (kas_sort vs.length)) rfl h2' h64 (fun p st' s' _ har hf hg=>⟨hg.1,?_,hf⟩) (rm (n:=vs.length) (R:=fun _=>True) (fun i j C hi hj hc=>ask i j C hi hj hc) _ (Bg (by omega)) ⟨rfl,rfl⟩)) (fun r s' hr=>?_) fun _ _ x=>x)
  ·rw [kat_snds rfl har,hg.2]
   unfold mj
   rw [if_neg (by omega)]
  ·obtain ⟨⟨⟩,st'⟩:=r
   obtain ⟨es,eo,ef⟩:=hr
   have es:s'=_:=es
   subst es
   have eo:(arrOf st').map (·.2)=(mj key vs).toArray:=eo
   have ef:failedOf st'=none:=ef
   dsimp only
   rw [eo]
   have hol:(mj key vs).length=vs.length:=by
    unfold mj
    split
    ·rfl
    ·rw [List.length_map,(si (key:=key) (n:=vs.length) (by omega)).1.length_eq,List.length_range]
   refine wpAny_bind (seqEpoch_at ho6 rfl (wpAny_bind (listUpdate_at ho6 rfl ?_ (Nat.zero_le _) (by show (mj key vs).length<=_;omega))))
   simp only [ef,bne_self_eq_false,Bool.false_eq_true,if_false]
   exact wpAny_pure (fin _ rfl)
theorem yn {l:Addr} {vs:List Value} {Q:Value->Shared->Prop} (hl:s.heap.IsList l vs.toArray) (h64:vs.length<64)
  (hk:2<=vs.length->∀h1:Heap,(∀b o,s.heap.get? b=some o->h1.get? b=some o)->Asks prog w A.in1.in1 key vs {s with heap:=h1})
  (h:∀(h':Heap) (D:Addr) (c:Nat),s.heap.objs.size<=D->(∀b o,s.heap.get? b=some o->h'.get? b=some o)->h'.get? D=some (seqObj "list" (mj key vs).toArray c)->Q (.ref D) {s with heap:=h'}) :
  wpAny (model prog w) A (call (.builtin "sorted") [.ref l]) Q E s:=by
 have hline:=sizeLine_eq
 refine Calls.call_function_entry kind_sorted plain_sorted entry_sorted (args_sorted1 _) ?_
 unfold Builtin.«sorted»
 refine wpAny_bind (m:=checkCount "sorted" 1 1 _) (wpAny_pure (wpAny_bind (collect_list hl (wpAny_bind (wpAny_newList ?_ (by omega))) (by omega))))
 have hz:((s.heap.push (seqObj "list" #[] 0)).update s.heap.objs.size (Obj.mapSeq (·++vs.toArray))).objs.size=s.heap.objs.size+1:=by rw [Heap.size_update,size_push']
 have hD:(((s.heap.push (seqObj "list" #[] 0)).update s.heap.objs.size (Obj.mapSeq (·++vs.toArray))).push (seqObj "list" vs.toArray 0)).get? (s.heap.objs.size+1)=some (seqObj "list" vs.toArray 0):=by rw [<- hz];exact Heap.get?_push_size _ rfl
 have hkeep:∀b o,s.heap.get? b=some o->(((s.heap.push (seqObj "list" #[] 0)).update s.heap.objs.size (Obj.mapSeq (·++vs.toArray))).push (seqObj "list" vs.toArray 0)).get? b=some o:=fun b o q=>
  Heap.get?_push_of_some _ ((Heap.get?_update_other _ _ (Nat.ne_of_gt (Heap.lt_size q))).trans (Heap.get?_push_of_some _ q))
 show wpAny _ _ _ _ _ {s with heap:=((s.heap.push (seqObj "list" #[] 0)).update s.heap.objs.size (Obj.mapSeq (·++vs.toArray))).push (seqObj "list" vs.toArray 0)}
 rw [hz]
 have hnD:∀b o,s.heap.get? b=some o->b≠s.heap.objs.size+1:=fun b o q=>Nat.ne_of_lt (Nat.lt_succ_of_lt (Heap.lt_size q))
 refine wpAny_bind (wpAny_holding (wpAny_call_entry slot_list_sort ⟨_,hD,rfl⟩ entry_list_sort (uB hD h64 (fun h2 h1 hk1=>hk h2 h1 fun b o q=>hk1 b o (hnD b o q) (hkeep b o q)) fun h' c k' e'=>⟨_,rfl,?_⟩) (args_list_sort _)))
 exact wpAny_pure ⟨_,rfl,h h' _ c (Nat.le_succ _) (fun b o q=>k' b o (hnD b o q) (hkeep b o q)) e'⟩
end
end L2
namespace L2
open PySem PySem.Spec PyProof.Rows
noncomputable def insL {α:Type} (lt:α->α->Bool) (x:α):List α->List α
 |[]=>[x]
 |y::ys=>if lt y x=true then y::insL lt x ys else x::y::ys
noncomputable def eQ {α:Type} (lt:α->α->Bool):List α->List α
 |[]=>[]
 |x::xs=>insL lt x (eQ lt xs)
noncomputable def ltZ (a b:Int):Bool:=decide (a<b)
noncomputable def pO:List Int->List Int->Bool
 |[],[]=>false
 |[],_::_=>true
 |_::_,[]=>false
 |a::as,b::bs=>if a=b then pO as bs else decide (a<b)
noncomputable def tupZ (t:List Int):Dat:=.tup (t.map .int)
noncomputable def tupD:Dat->M (List Int)
 |.tup ds=>bS ds
 |_=>stk
noncomputable def md:List Dat->M (List (List Int))
 |[]=>.ok []
 |d::ds=>(tupD d).bind fun t=>(md ds).bind fun r=>.ok (t::r)
noncomputable def u4 (ds:List Dat):M Dat:=if ds.length<64 then (match bS ds with
 |.ok is=>.ok (.lst ((eQ ltZ is).map .int))
 |.error _=>(md ds).bind fun ts=>if (ts.all fun t=> !t.isEmpty)=true then .ok (.lst ((eQ pO ts).map tupZ)) else stk) else stk
noncomputable def nZ:List Dat->M Dat
 |[.lst ds]=>u4 ds
 |_=>stk
section
variable {α:Type} {lt:α->α->Bool}
structure Ord (lt:α->α->Bool):Prop where
 irr:∀a,lt a a=false
 tr:∀a b c,lt a b=true->lt b c=true->lt a c=true
 tot:∀a b,lt a b=false->lt b a=false->a=b
theorem ordZ:Ord ltZ:=⟨fun a=>by simp [ltZ],fun a b c h1 h2=>by simp [ltZ] at *;omega,fun a b h1 h2=>by simp [ltZ] at *;omega⟩
theorem A6:Ord pO:=by
 refine ⟨fun a=>?_,fun a b c=>?_,fun a b=>?_⟩
 ·induction a with
  |nil=>rfl
  |cons x xs ih=>simp [pO,ih]
 ·induction a generalizing b c with
  |nil=>
   cases b with
   |nil=>intro h;simp [pO] at h
   |cons y ys=>
    intro _ h2
    cases c with
    |nil=>simp [pO] at h2
    |cons z zs=>rfl
  |cons x xs ih=>
   intro h1 h2
   cases b with
   |nil=>simp [pO] at h1
   |cons y ys=>
    cases c with
    |nil=>simp [pO] at h2
    |cons z zs=>
     simp only [pO] at h1 h2 ⊢
     by_cases e1:x=y
     ·subst e1
      rw [if_pos rfl] at h1
      by_cases e2:x=z
      ·rw [if_pos e2] at h2 ⊢;exact ih _ _ h1 h2
      ·rw [if_neg e2] at h2 ⊢;exact h2
     ·rw [if_neg e1] at h1
      have h1':x<y:=of_decide_eq_true h1
      by_cases e2:y=z
      ·subst e2
       rw [if_neg e1];exact h1
      ·rw [if_neg e2] at h2
       have h2':y<z:=of_decide_eq_true h2
       rw [if_neg (by omega)]
       exact decide_eq_true (by omega)
 ·induction a generalizing b with
  |nil=>
   cases b with
   |nil=>intros;rfl
   |cons y ys=>intro h;simp [pO] at h
  |cons x xs ih=>
   cases b with
   |nil=>intro _ h;simp [pO] at h
   |cons y ys=>
    intro h1 h2
    simp only [pO] at h1 h2
    by_cases e1:x=y
    ·subst e1
     rw [if_pos rfl] at h1 h2
     rw [ih _ h1 h2]
    ·rw [if_neg e1] at h1
     rw [if_neg (fun z=>e1 z.symm)] at h2
     have h1':=of_decide_eq_false h1
     have h2':=of_decide_eq_false h2
     omega
theorem pW (x:α):∀l:List α,(insL lt x l).Perm (x::l)
 |[]=>List.Perm.refl _
 |y::ys=>by
  rw [insL]
  split
  ·exact ((pW x ys).cons y).trans (List.Perm.swap x y ys)
  ·exact List.Perm.refl _
theorem cK:∀l:List α,(eQ lt l).Perm l
 |[]=>List.Perm.refl _
 |x::xs=>(pW x _).trans ((cK xs).cons x)
theorem Ord.le_trans (o:Ord lt) {a b c:α} (h1:lt b a=false) (h2:lt c b=false):lt c a=false:=by
 cases h:lt c a with
 |false=>rfl
 |true=>
  cases h3:lt b c with
  |true=>rw [o.tr b c a h3 h] at h1;cases h1
  |false=>
   have:=o.tot c b h2 h3
   subst this
   rw [h] at h1;cases h1
theorem Ord.asym (o:Ord lt) {a b:α} (h:lt a b=true):lt b a=false:=by
 cases h2:lt b a with
 |false=>rfl
 |true=>have:=o.tr a b a h h2;rw [o.irr] at this;cases this
theorem pV (o:Ord lt) (x:α):∀l:List α,l.Pairwise (fun a b=>lt b a=false)->(insL lt x l).Pairwise (fun a b=>lt b a=false)
 |[],_=>by simp [insL]
 |y::ys,h=>by
  rw [insL]
  rw [List.pairwise_cons] at h
  split
  ·rename_i hc
   rw [List.pairwise_cons]
   refine ⟨fun b hb=>?_,pV o x ys h.2⟩
   rcases List.mem_cons.mp ((pW x ys).mem_iff.mp hb) with e|e
   ·rw [e];exact o.asym hc
   ·exact h.1 b e
  ·rename_i hc
   have hc':lt y x=false:=by simpa using hc
   rw [List.pairwise_cons,List.pairwise_cons]
   refine ⟨fun b hb=>?_,h⟩
   rcases List.mem_cons.mp hb with e|e
   ·rw [e];exact hc'
   ·exact o.le_trans hc' (h.1 b e)
theorem eB (o:Ord lt):∀l:List α,(eQ lt l).Pairwise (fun a b=>lt b a=false)
 |[]=>List.Pairwise.nil
 |x::xs=>pV o x _ (eB o xs)
theorem mM (o:Ord lt):∀{l m:List α},l.Perm m->l.Pairwise (fun a b=>lt b a=false)->m.Pairwise (fun a b=>lt b a=false)->l=m
 |[],m,h,_,_=>(List.Perm.nil_eq h)
 |a::l,m,h,h1,h2=>by
  cases m with
  |nil=>exact absurd h.symm (by simp)
  |cons b m=>
   rw [List.pairwise_cons] at h1 h2
   have e:a=b:=by
    rcases List.mem_cons.mp (h.mem_iff.mp List.mem_cons_self) with e|e
    ·exact e
    ·rcases List.mem_cons.mp (h.mem_iff.mpr List.mem_cons_self) with e2|e2
     ·exact e2.symm
     ·exact o.tot a b (h2.1 a e) (h1.1 b e2)
   subst e
   rw [mM o (List.Perm.cons_inv h) h1.2 h2.2]
end
section
open PySem.W
variable {α:Type} {lt:α->α->Bool}
theorem getD_get {l:List α} {i:Nat} {d:α} (h:i<l.length):l.getD i d=l[i]:=by simp [h]
noncomputable def rk (lt:α->α->Bool) (zs:List α) (d:α) (i:Nat):Int:=((zs.filter fun z=>lt z (zs.getD i d)).length:Int)
theorem filter_lt {p q:α->Bool} (h:∀z,p z=true->q z=true):∀l:List α,(l.filter p).length<=(l.filter q).length/\((∃z∈l,p z=false/\q z=true)->(l.filter p).length<(l.filter q).length)
 |[]=>⟨Nat.le_refl _,fun ⟨_,h,_⟩=>nomatch h⟩
 |x::xs=>by
  obtain ⟨i1,i2⟩:=filter_lt h xs
  cases hp:p x with
  |true=>
   have hq:=h x hp
   rw [List.filter_cons_of_pos hp,List.filter_cons_of_pos hq]
   refine ⟨by simp;exact i1,fun ⟨z,hz,e1,e2⟩=>?_⟩
   rcases List.mem_cons.mp hz with e|e
   ·rw [e,hp] at e1;cases e1
   ·have:=i2 ⟨z,e,e1,e2⟩
    simp;exact this
  |false=>
   rw [List.filter_cons_of_neg (by simp [hp])]
   cases hq:q x with
   |true=>
    rw [List.filter_cons_of_pos hq]
    exact ⟨by simp;omega,fun _=>by simp;omega⟩
   |false=>
    rw [List.filter_cons_of_neg (by simp [hq])]
    refine ⟨i1,fun ⟨z,hz,e1,e2⟩=>?_⟩
    rcases List.mem_cons.mp hz with e|e
    ·rw [e,hq] at e2;cases e2
    ·exact i2 ⟨z,e,e1,e2⟩
theorem rk_lt (o:Ord lt) {zs:List α} {d:α} {i j:Nat} (hi:i<zs.length) (hj:j<zs.length):ltK (rk lt zs d) i j=lt (zs.getD i d) (zs.getD j d):=by
 unfold ltK rk
 have gi:zs.getD i d∈zs:=by rw [getD_get hi];exact List.getElem_mem hi
 have gj:zs.getD j d∈zs:=by rw [getD_get hj];exact List.getElem_mem hj
 cases h:lt (zs.getD i d) (zs.getD j d) with
 |true=>
  refine decide_eq_true ?_
  have:=(filter_lt (p:=fun z=>lt z (zs.getD i d)) (q:=fun z=>lt z (zs.getD j d)) (fun z hz=>o.tr _ _ _ hz h) zs).2 ⟨_,gi,o.irr _,h⟩
  omega
 |false=>
  refine decide_eq_false ?_
  have:=(filter_lt (p:=fun z=>lt z (zs.getD j d)) (q:=fun z=>lt z (zs.getD i d)) (fun z hz=>by
   cases h3:lt z (zs.getD i d) with
   |true=>rfl
   |false=>
    have e:=o.le_trans h h3
    rw [hz] at e;cases e) zs).1
  omega
theorem uk (o:Ord lt) (zs:List α) (d:α) (h2:2<=zs.length):(eF (ltK (rk lt zs d)) (kas_sort zs.length)).toList.map (fun i=>zs.getD i d)=eQ lt zs:=by
 obtain ⟨h1,hu⟩:=si (key:=rk lt zs d) (n:=zs.length) (by omega)
 refine mM o ?_ ?_ (eB o zs)
 ·refine (h1.map _).trans ?_
  have:(List.range zs.length).map (fun i=>zs.getD i d)=zs:=by
   apply List.ext_getElem
   ·simp
   ·intro i h3 h4
    simp [h4]
  rw [this]
  exact (cK zs).symm
 ·rw [List.pairwise_map,List.pairwise_iff_getElem]
  intro i j hi hj hij
  have hn:(eF (ltK (rk lt zs d)) (kas_sort zs.length)).toList.length=zs.length:=by rw [h1.length_eq,List.length_range]
  have inr:∀k (hk:k<(eF (ltK (rk lt zs d)) (kas_sort zs.length)).toList.length),(eF (ltK (rk lt zs d)) (kas_sort zs.length)).toList[k]<zs.length:=fun k hk=>List.mem_range.mp (h1.mem_iff.mp (List.getElem_mem hk))
  have:=hu i j (by omega) (by omega)
  unfold kAt at this
  have g:∀k (hk:k<(eF (ltK (rk lt zs d)) (kas_sort zs.length)).toList.length),(eF (ltK (rk lt zs d)) (kas_sort zs.length)).getD k 0=(eF (ltK (rk lt zs d)) (kas_sort zs.length)).toList[k]:=fun k hk=>by
   rw [Array.getD_eq_getD_getElem?,<- Array.getElem?_toList,List.getElem?_eq_getElem hk];rfl
  rw [g i hi,g j hj] at this
  rw [<- rk_lt o (inr j hj) (inr i hi)]
  exact decide_eq_false (by omega)
theorem pT:∀{zs:List α},zs.length<2->eQ lt zs=zs
 |[],_=>rfl
 |[x],_=>rfl
 |_::_::_,h=>by simp at h;omega
variable {X:Cx} {K:PySem.W.Frag} {W:gC} {own:Bool}
theorem vals_map {xs:List V} {us:List Value} (r:Vals xs us) (ps:List Nat) (hp:∀i∈ps,i<xs.length):Vals (ps.map fun i=>xs.getD i .non) (ps.map fun i=>us.getD i .none):=by
 refine Vals.of_get (by simp) fun k v u h1 h2=>?_
 rw [List.getElem?_map] at h1 h2
 cases e:ps[k]? with
 |none=>rw [e] at h1;cases h1
 |some i=>
  rw [e] at h1 h2
  simp only [Option.map_some,Option.some.injEq] at h1 h2
  have hi:=hp i (List.mem_of_getElem? e)
  have hl:=r.length
  obtain ⟨u',e1,q⟩:=r.get (i:=i) (x:=xs[i]) (by simp [hi])
  rw [getD_get hi] at h1
  rw [List.getD_eq_getElem?_getD,e1] at h2
  rw [<- h1,<- h2]
  exact q
theorem xn (o:Ord lt) {pins:List (Addr×Obj)} {σ:St} {F H:Hp} {s:Shared} {Q:VK} {a:Addr} {xs:List V} {zs:List α} {d0:α} {enc:α->Dat} (I:Inv X pins σ H s) (hF:b0 F H) (t:SqL X.K F a xs) (r:aB X.K F (zs.map enc) xs) (h64:zs.length<64)
  (hk:∀its:List Value,Vals xs its->2<=its.length->∀h1:Heap,(∀b o,s.heap.get? b=some o->h1.get? b=some o)->Asks X.prog X.w X.A.in1.in1 (rk lt zs d0) its {s with heap:=h1})
  (p:aH X.K W true F H (.ok (.lst ((eQ lt zs).map enc))) Q):wpAny (model X.prog X.w) X.A (call (.builtin "sorted") [.ref a]) (EP X pins σ Q) X.xe s:=by
 obtain ⟨its,rv,pl,hz⟩:=I.list (hF.lst t)
 have l1:=rv.length
 have l2:=r.length
 rw [List.length_map] at l2
 refine yn (key:=rk lt zs d0) pl.isList (by omega) (fun h2 h1 kp=>hk its rv h2 h1 kp) fun h' D c hD kp e=>?_
 have key:∃ys,ys.length<=sizeLine/\Vals ys (mj (rk lt zs d0) its)/\aB X.K F ((eQ lt zs).map enc) ys:=by
  unfold mj
  by_cases h2:its.length<2
  ·rw [if_pos h2,pT (by omega)]
   exact ⟨xs,hz,rv,r⟩
  ·rw [if_neg h2,show its.length=zs.length by omega]
   obtain ⟨h1,_⟩:=si (key:=rk lt zs d0) (n:=zs.length) (by omega)
   have inr:∀i∈(eF (ltK (rk lt zs d0)) (kas_sort zs.length)).toList,i<xs.length:=fun i hi=>by
    have:=List.mem_range.mp (h1.mem_iff.mp hi);omega
   refine ⟨(eF (ltK (rk lt zs d0)) (kas_sort zs.length)).toList.map fun i=>xs.getD i .non,?_,vals_map rv _ inr,?_⟩
   ·rw [List.length_map,h1.length_eq,List.length_range];omega
   ·rw [<- uk o zs d0 (by omega),List.map_map]
    refine aB.of_get (by simp) fun k dd v g1 g2=>?_
    rw [List.getElem?_map] at g1 g2
    cases ek:(eF (ltK (rk lt zs d0)) (kas_sort zs.length)).toList[k]? with
    |none=>rw [ek] at g1;cases g1
    |some i=>
     rw [ek] at g1 g2
     simp only [Option.map_some,Option.some.injEq,Function.comp] at g1 g2
     have hi:=inr i (List.mem_of_getElem? ek)
     obtain ⟨w,e1,q⟩:=r.get (i:=i) (d:=enc (zs[i]'(by omega))) (by simp [show i<zs.length by omega])
     rw [getD_get (show i<zs.length by omega)] at g1
     rw [List.getD_eq_getElem?_getD,e1] at g2
     rw [<- g1,<- g2]
     exact q
 obtain ⟨ys,hy1,hy2,hy3⟩:=key
 have I1:Inv X pins σ (upd H D (.lst ys)) {s with heap:=h'}:=I.laid (t':=s.toks) kp hD (show dv X.prog X.w _ h' D (.lst ys) from ⟨hy1,_,c,hy2,e⟩)
 exact ⟨.ref D,_,I1,rfl,p.lst hF hy3 (I.hok.fresh hD)⟩
theorem rk_ints (is:List Int) (i j:Nat) (hi:i<is.length) (hj:j<is.length):ltK (rk ltZ is 0) i j=decide (is.getD i 0<is.getD j 0):=rk_lt ordZ hi hj
theorem vd {prog:Program} {w:World} {A:Around} {s':Shared} {its:List Value} {is:List Int} (hi:IntsAre its is) (h2:2<=its.length):Asks prog w A (rk ltZ is 0) its s':=by
 have hl:=hi.length
 obtain ⟨v1,v2,rest,rfl⟩:∃v1 v2 rest,its=v1::v2::rest:=by
  match its,h2 with
  |v1::v2::rest,_=>exact ⟨v1,v2,rest,rfl⟩
 unfold Asks
 rw [keyKind_ints hi]
 refine wpAny_pure ⟨rfl,fun i j C h1 h2 hc=>?_⟩
 unfold kas_ask
 obtain ⟨t1,e1⟩:=ints_at hi i h1
 obtain ⟨t2,e2⟩:=ints_at hi j h2
 rw [e1,e2]
 rw [rk_ints is i j (by omega) (by omega)] at hc
 exact kat_lt_int hc
where
 ints_at {vs:List Value} {ns:List Int} (h:IntsAre vs ns) (i:Nat) (hi:i<vs.length):∃t,vs.getD i Value.none=.int (ns.getD i 0) t:=by
  induction h generalizing i with
  |nil=>simp at hi
  |cons n t r ih=>
   cases i with
   |zero=>exact ⟨t,rfl⟩
   |succ i=>obtain ⟨t',e⟩:=ih i (by simpa using hi);exact ⟨t',by simpa using e⟩
noncomputable def lexF (f:Bool):List Int->List Int->Bool
 |a::as,b::bs=>if a=b then lexF f as bs else decide (a<b)
 |_,_=>f
theorem xA:∀as bs:List Int,lexF (decide (as.length<bs.length)) as bs=pO as bs
 |[],[]=>rfl
 |[],_::_=>by simp [lexF,pO]
 |_::_,[]=>by simp [lexF,pO]
 |a::as,b::bs=>by
  have:=xA as bs
  simp only [lexF,pO,List.length_cons,Nat.add_lt_add_iff_right]
  rw [this]
theorem pR {prog:Program} {w:World} {A:Around} {s':Shared} {f:Bool} {Q:Bool->Shared->Prop}:∀{us vs:List Value} {as bs:List Int} (i:Nat),IntsAre us as->IntsAre vs bs->Q (lexF f as bs) s'->KatLex prog w A true f Q (us.zip vs) i s'
 |_,_,_,bs,_,.nil,_,h=>kat_nil (by cases bs<;>exact h)
 |_,_,_,_,_,.cons a t r,.nil,h=>kat_nil h
 |_,_,_,_,i,.cons a t r,.cons b u r',h=>by
  show KatLex prog w A true f Q ((.int a t,.int b u)::(_:List (Value×Value))) i s'
  refine kat_cons (SeqAt.EqAt.int_int a t b u _ _ _ _ ?_)
  by_cases e:a=b
  ·rw [show (a==b)=true by simpa using e]
   rw [lexF,if_pos e] at h
   exact kat_yes (pR (i+1) r r' h)
  ·rw [show (a==b)=false by simpa using e]
   rw [lexF,if_neg e] at h
   refine kat_no ?_
   cases hb:(true&&i==0) with
   |true=>exact oneLt_int h
   |false=>exact kat_one _ _ (lt_int h)
theorem Bf {pins:List (Addr×Obj)} {σ:St} {F H:Hp} {s:Shared} {A:Around} {xs:List V} {ts:List (List Int)} {its:List Value} {h1:Heap} (I:Inv X pins σ H s) (hF:b0 F H) (r:aB X.K F (ts.map tupZ) xs) (hne:(ts.all fun t=> !t.isEmpty)=true) (rv:Vals xs its) (h2:2<=its.length)
  (kp:∀b o,s.heap.get? b=some o->h1.get? b=some o):Asks X.prog X.w A (rk pO ts []) its {s with heap:=h1}:=by
 have l1:=rv.length
 have l2:=r.length
 rw [List.length_map] at l2
 have at_:∀i,i<its.length->∃(l:Addr) (ob:Obj) (us:List Value) (n:Nat),its.getD i Value.none=.ref l/\h1.get? l=some ob/\ob.cls=.type "tuple"/\ob.data=.seq us.toArray n/\IntsAre us (ts.getD i []):=fun i hi=>by
  obtain ⟨v,e1,l,ys,e2,tq,rr⟩:=r.get (i:=i) (d:=tupZ (ts[i]'(by omega))) (by simp [show i<ts.length by omega])
  subst e2
  obtain ⟨u,e3,ru⟩:=rv.get e1
  cases ru
  obtain ⟨us,ru,pl,_⟩:=I.tuple (hF.tup tq)
  obtain ⟨ob,h3,h4,n,h5⟩:=pl
  have e4:ys=(ts[i]'(by omega)).map V.int:=iq rr (g9 _)
  rw [e4] at ru
  exact ⟨l,ob,us,n,by rw [List.getD_eq_getElem?_getD,e3];rfl,kp _ _ h3,h4,h5,by rw [getD_get (show i<ts.length by omega)];exact intsAre_of ru⟩
 have tups:∀(k:Nat),k<=its.length->∃fs,KatTups h1 (its.drop (its.length-k)) fs/\fs.length=k/\∀v∈fs,∃i t,v=Value.int i t:=by
  intro k
  induction k with
  |zero=>intro _;exact ⟨[],by rw [Nat.sub_zero,List.drop_length];exact KatTups.nil,rfl,fun _ h=>nomatch h⟩
  |succ k ih=>
   intro hk
   obtain ⟨fs,q1,q2,q3⟩:=ih (by omega)
   have hi:its.length-(k+1)<its.length:=by omega
   obtain ⟨l,ob,us,n,e1,e2,e3,e4,e5⟩:=at_ _ hi
   have hn:(ts.getD (its.length-(k+1)) [])≠[]:=by
    rw [getD_get (show its.length-(k+1)<ts.length by omega)]
    have:=List.all_eq_true.mp hne _ (List.getElem_mem (show its.length-(k+1)<ts.length by omega))
    simpa using this
   obtain ⟨z,ez⟩:∃z,ts.getD (its.length-(k+1)) []=z:=⟨_,rfl⟩
   rw [ez] at e5 hn
   obtain ⟨f,fr,ef,hf⟩:∃f fr,us=f::fr/\∃i t,f=Value.int i t:=by
    cases e5 with
    |nil=>exact absurd rfl hn
    |cons m t r=>exact ⟨_,_,rfl,_,_,rfl⟩
   refine ⟨f::fs,?_,by simp [q2],fun v hv=>?_⟩
   ·rw [List.drop_eq_getElem_cons hi]
    rw [show its.length-(k+1)+1=its.length-k by omega]
    rw [getD_get hi] at e1
    rw [e1]
    exact KatTups.cons e2 e3 e4 (by rw [ef];rfl) q1
   ·rcases List.mem_cons.mp hv with e|e
    ·rw [e];exact hf
    ·exact q3 v e
 obtain ⟨fs,q1,q2,q3⟩:=tups its.length (Nat.le_refl _)
 rw [Nat.sub_self,List.drop_zero] at q1
 unfold Asks
 refine kat_kind (s:={s with heap:=h1}) (T:=.type "int") q1 (by omega) (fun v hv=>?_) rfl ⟨rfl,fun i j C hi hj hc=>?_⟩
 ·obtain ⟨i,t,e⟩:=q3 v hv
  rw [e]
  exact Looks.of_pure rfl
 ·unfold kas_ask
  obtain ⟨x1,o1,us,n1,e1,g1,_,d1,a1⟩:=at_ i hi
  obtain ⟨x2,o2,vs,n2,e2,g2,_,d2,a2⟩:=at_ j hj
  rw [e1,e2]
  rw [rk_lt A6 (show i<ts.length by omega) (show j<ts.length by omega)] at hc
  refine kat_lt (s:={s with heap:=h1}) g1 d1 g2 d2 (pR 0 a1 a2 ?_)
  rw [List.size_toArray,List.size_toArray,a1.length,a2.length,xA]
  exact hc
theorem xj {F:Hp} {d:Dat} {t:List Int} (h:tupD d=.ok t):d=tupZ t:=by
 cases d with
 |tup ds=>
  have:∀{ds:List Dat} {t:List Int},bS ds=.ok t->ds=t.map .int:=by
   intro ds
   induction ds with
   |nil=>intro t h;cases h;rfl
   |cons d ds ih=>
    intro t h
    cases d with
    |int i=>
     cases e:bS ds with
     |error x=>simp only [bS,asI,aA,e,ku] at h;cases h
     |ok r=>
      simp only [bS,asI,aA,e] at h
      cases h
      rw [ih e]
      rfl
    |_=>cases h
  unfold tupZ
  rw [this h]
 |_=>cases h
theorem Az:∀{ds:List Dat} {t:List Int},bS ds=.ok t->ds=t.map .int:=fun {ds t} h=>by
 have:=xj (F:=fun _=>none) (d:=.tup ds) (t:=t) h
 unfold tupZ at this
 injection this
theorem tT:∀{ds:List Dat} {ts:List (List Int)},md ds=.ok ts->ds=ts.map tupZ
 |[],_,h=>by cases h;rfl
 |d::ds,ts,h=>by
  cases e:tupD d with
  |error x=>simp only [md,e,ku] at h;cases h
  |ok t=>
   cases e2:md ds with
   |error x=>simp only [md,e,aA,e2,ku] at h;cases h
   |ok r=>
    simp only [md,e,aA,e2] at h
    cases h
    rw [xj (F:=fun _=>none) e,tT e2]
    rfl
theorem tV:∀{ds:List Dat} {e:Err},md ds=.error e->e=.stuck
 |[],_,h=>by cases h
 |d::ds,e,h=>by
  cases e1:tupD d with
  |error x=>
   simp only [md,e1,ku] at h
   cases h
   cases d with
   |tup ds=>exact jE e1
   |_=>cases e1;rfl
  |ok t=>
   cases e2:md ds with
   |error x=>simp only [md,e1,aA,e2,ku] at h;cases h;exact tV e2
   |ok r=>simp only [md,e1,aA,e2] at h;cases h
theorem c_sorted (hK:X.K=K:=by rfl):vm K W true X (.builtin "sorted") nZ:=by
 subst hK
 intro pins s σ H xs us Q I rr h
 obtain ⟨F,d,x,s1,e,q,p⟩:=vS (fun ds=>by match ds with|[d]=>exact .inl ⟨d,rfl⟩|[]=>exact .inr rfl|a::b::c=>exact .inr (by cases a<;>rfl)) h
 subst e
 obtain ⟨u,rfl,ru⟩:=rr.one
 cases d with
 |lst ds=>
  obtain ⟨a,ys,e1,t,r⟩:=q
  subst e1
  cases ru
  have p':aH X.K W true F H (u4 ds) Q:=p
  unfold u4 at p'
  by_cases h64:ds.length<64
  ·rw [if_pos h64] at p'
   cases ei:bS ds with
   |ok is=>
    rw [ei] at p'
    have ed:=Az ei
    subst ed
    refine xn ordZ (d0:=0) I s1 t r (by simpa using h64) (fun its rv h2 h1 kp=>?_) p'
    have e2:ys=is.map V.int:=iq r ei
    subst e2
    exact vd (intsAre_of rv) h2
   |error z=>
    rw [ei] at p'
    have p2:aH X.K W true F H ((md ds).bind fun ts=>if (ts.all fun t=> !t.isEmpty)=true then .ok (.lst ((eQ pO ts).map tupZ)) else stk) Q:=p'
    cases et:md ds with
    |error z2=>rw [et] at p2;have:=tV et;subst this;exact aH.stuck p2
    |ok ts=>
     rw [et] at p2
     have ed:=tT et
     subst ed
     have p3:aH X.K W true F H (if (ts.all fun t=> !t.isEmpty)=true then .ok (.lst ((eQ pO ts).map tupZ)) else stk) Q:=p2
     by_cases hne:(ts.all fun t=> !t.isEmpty)=true
     ·rw [if_pos hne] at p3
      exact xn A6 (d0:=[]) I s1 t r (by simpa using h64) (fun its rv h2 h1 kp=>Bf I s1 r hne rv h2 kp) p3
     ·rw [if_neg hne] at p3
      exact aH.stuck p3
  ·rw [if_neg h64] at p'
   exact aH.stuck p'
 |_=>exact aH.stuck p
end
end L2
namespace L2
open PySem PySem.Spec PyProof.Rows
noncomputable def cX (n d:Nat):Option Int->Nat
 |none=>d
 |some v=>if v<0 then (v+(n:Int)).toNat else min v.toNat n
noncomputable def vn {α:Type} (xs:List α) (lo hi:Option Int):List α:=(xs.drop (cX xs.length 0 lo)).take (cX xs.length xs.length hi-cX xs.length 0 lo)
noncomputable def mB:Dat->Option Int->Option Int->M Dat
 |.lst ds,lo,hi=>.ok (.lst (vn ds lo hi))
 |.tup ds,lo,hi=>if (decide (cX ds.length 0 lo=0)&&decide (cX ds.length ds.length hi=ds.length))=true then stk else .ok (.tup (vn ds lo hi))
 |_,_,_=>stk
noncomputable def yw:af->M (Option Int):=fun _=>.ok none
noncomputable def qA (f:af->M Dat):af->M (Option Int):=fun ρ=>(f ρ).bind fun d=>(asI d).bind fun i=>.ok (some i)
noncomputable def fSl (g:Dat->Option Int->Option Int->M Dat) (fa:af->M Dat) (fl fu:af->M (Option Int)):af->M Dat:=fun ρ=>(fa ρ).bind fun a=>(fl ρ).bind fun l=>(fu ρ).bind fun u=>g a l u
noncomputable def notBD:Dat->Dat->M Dat
 |.bl a,.bl b=>.ok (.bl (a != b))
 |.non,.bl _=>.ok (.bl true)
 |.int _,.bl _=>.ok (.bl true)
 |.str _,.bl _=>.ok (.bl true)
 |.lst _,.bl _=>.ok (.bl true)
 |.tup _,.bl _=>.ok (.bl true)
 |_,_=>stk
section
variable {X:Cx} {K:PySem.W.Frag} {W:gC} {own ro:Bool} {e a b c d:Expr} {lo hi:Option Expr} {es:List Expr} {x y:Str} {pos p p2 p3 q r t u:Pos} {f fa fb fc fd' fk:af->M Dat} {fl fu:af->M (Option Int)} {OL O:List Nat}
noncomputable def tDO (K:PySem.W.Frag) (W:gC) (f:af->M (Option Int)):TO:=fun σ H Q=>∃F ρ,oJ K F σ ρ/\b0 F H/\(match f ρ with
 |.ok o=>∀F' H',Step F H F' H'->Q o H'
 |.error e=>W.p e F H)
theorem zy {σ:St} {ρ:af} {F H:Hp} {R:Option Int->Hp->Prop} (r:oJ K F σ ρ) (s:b0 F H) (hE:∀e,fl ρ=.error e->W.p e F H) (hO:∀o,fl ρ=.ok o->∀F1 H1,Step F H F1 H1->R o H1):tDO K W fl σ H R:=by
 refine ⟨F,ρ,r,s,?_⟩
 cases e:fl ρ with
 |ok d=>exact hO d e
 |error x=>exact hE x e
noncomputable abbrev DP (K:PySem.W.Frag) (W:gC) (X:Cx) (e:Option Expr) (f:af->M (Option Int)):Prop:=PO X e (tDO K W f)
theorem PO.imp {t t':TO} (h:PO X lo t) (q:∀σ H Q,t' σ H Q->t σ H Q):PO X lo t':=fun pins s σ H Q I z=>h pins s σ H Q I (q σ H Q z)
theorem t6:DP K W X none yw:=po_none.imp fun σ H Q ⟨F,ρ,r,s,p⟩=>p F H (Step.refl s)
theorem t5 (h:DE K W false X e f):DP K W X (some e) (qA f):=(po_some h).imp fun σ H Q ⟨F,ρ,r,s,p⟩=>by
 refine bZ r s (fun e he=>?_) fun d hd v F1 H1 s1 q1=>?_
 ·have z:qA f ρ=.error e:=by unfold qA;rw [he];rfl
  rw [z] at p;exact p
 ·have z:qA f ρ=(asI d).bind fun i=>.ok (some i):=by unfold qA;rw [hd];rfl
  rw [z] at p
  cases d with
  |int i=>exact ⟨i,q1,p F1 H1 s1⟩
  |_=>exact (W.ns p).elim
noncomputable def rDS (K:PySem.W.Frag) (W:gC) (own:Bool) (g:Dat->Option Int->Option Int->M Dat):V->Option Int->Option Int->Hp->VK->Prop:=fun x lo hi H Q=>∃F a,b0 F H/\cf K F a x/\aH K W own F H (g a lo hi) Q
theorem rd_sl {g:Dat->Option Int->Option Int->M Dat} {σ:St} {H:Hp} {Q:VK} (h:tD K W own (fSl g fa fl fu) σ H Q):tSl (rDS K W own g) (tD K W false fa) (tDO K W fl) (tDO K W fu) σ H Q:=by
 obtain ⟨F,ρ,r,s,p⟩:=h
 refine bZ r s (fun e he=>p.err (by unfold fSl;rw [he];rfl)) fun a ha x F1 H1 s1 q1=>?_
 refine zy (r.mono s1.ff) s1.fh (fun e he=>(p.step s1).err (by unfold fSl;rw [ha];show (fl ρ).bind _=_;rw [he];rfl)) fun l hl F2 H2 s2=>?_
 refine zy ((r.mono s1.ff).mono s2.ff) s2.fh (fun e he=>(p.step (s1.trans s2)).err (by unfold fSl;rw [ha];show (fl ρ).bind _=_;rw [hl];show (fu ρ).bind _=_;rw [he];rfl)) fun u hu F3 H3 s3=>?_
 refine ⟨F3,a,s3.fh,cf.mono (s2.trans s3).ff q1,?_⟩
 have e:fSl g fa fl fu ρ=g a l u:=by unfold fSl;rw [ha];show (fl ρ).bind _=_;rw [hl];show (fu ρ).bind _=_;rw [hu];rfl
 rw [e] at p
 exact p.step ((s1.trans s2).trans s3)
theorem de_sl {g:Dat->Option Int->Option Int->M Dat} (hr:SlR X (rDS K W own g)) (ha:DE K W false X a fa) (hl:DP K W X lo fl) (hu:DP K W X hi fu):DE K W own X (.Subscript a (.Slice lo hi none p2) pos) (fSl g fa fl fu):=(pe_slice hr ha hl hu).imp fun _ _ _=>rd_sl
theorem y0 (n d:Nat) (o:Option Int):cX n d o=HT.sIx n d o:=by cases o<;>rfl
theorem aB.cut {F:Hp} {ds:List Dat} {xs:List V} {l u:Option Int} (h:aB K F ds xs):aB K F (vn ds l u) (cutV xs l u):=by
 unfold vn cutV
 rw [y0,y0,h.length]
 exact aB.take _ (aB.drop _ h)
theorem x_sl (hK:X.K=K:=by rfl):SlR X (rDS K W true mB):=by
 subst hK
 intro pins s σ H x v vl vu lo hi sl Q I rx hs pl pu h
 refine (SlR.or sl_list sl_tup) pins s σ H x v vl vu lo hi sl Q I rx hs pl pu ?_
 obtain ⟨F,a,s1,qa,p⟩:=h
 cases a with
 |lst ds=>
  obtain ⟨l,xs,e,t,z⟩:=qa
  exact .inl ⟨l,xs,e,s1.lst t,fun r hr=>aH.lst p s1 z.cut hr⟩
 |tup ds=>
  obtain ⟨l,xs,e,t,z⟩:=qa
  have p':aH X.K W true F H (if (decide (cX ds.length 0 lo=0)&&decide (cX ds.length ds.length hi=ds.length))=true then stk else .ok (.tup (vn ds lo hi))) Q:=p
  by_cases hc:(decide (cX ds.length 0 lo=0)&&decide (cX ds.length ds.length hi=ds.length))=true
  ·rw [if_pos hc] at p';exact p'.stuck
  ·rw [if_neg hc] at p'
   refine .inr ⟨l,xs,e,s1.tup t,fun hw=>hc ?_,fun r hr=>aH.tup p' s1 z.cut hr⟩
   rw [y0,y0,<- z.length]
   simp only [Bool.and_eq_true,decide_eq_true_eq]
   exact hw
 |_=>exact aH.stuck p
theorem o_notB:Op2 K W own X (compareOp .IsNot) notBD:=by
 intro pins s σ H x y v u Q I rx ry h
 obtain ⟨F,a,b,s1,qa,qb,p⟩:=h
 cases b with
 |bl k=>
  cases (show y=.bl k from qb)
  cases ry
  cases a with
  |bl j=>cases (show x=.bl j from qa);cases rx;exact isnot_bool (cZ I (aH.bl p s1) rfl)
  |non=>cases (show x=.non from qa);cases rx;exact wpAny_pure (cZ I (aH.bl p s1) rfl)
  |int j=>cases (show x=.int j from qa);obtain ⟨t,rfl⟩:=rx;exact wpAny_pure (cZ I (aH.bl p s1) rfl)
  |str j=>cases (show x=.str j from qa);obtain ⟨t,rfl⟩:=rx;exact wpAny_pure (cZ I (aH.bl p s1) rfl)
  |lst ds=>obtain ⟨l,xs,e,_⟩:=qa;subst e;cases rx;exact wpAny_pure (cZ I (aH.bl p s1) rfl)
  |tup ds=>obtain ⟨l,xs,e,_⟩:=qa;subst e;cases rx;exact wpAny_pure (cZ I (aH.bl p s1) rfl)
  |ins C fs=>exact aH.stuck p
 |_=>cases a<;>exact aH.stuck p
end
section
variable {ρ:af} {fa fb fc fd':af->M Dat} {fl fu:af->M (Option Int)}
@[simp] theorem e_pNone:yw ρ=.ok none:=id rfl
@[simp] theorem e_pSome:qA fa ρ=(fa ρ).bind fun d=>(asI d).bind fun i=>.ok (some i):=id rfl
@[simp] theorem e_slF (k:Dat->Option Int->Option Int->M Dat):fSl k fa fl fu ρ=(fa ρ).bind fun a=>(fl ρ).bind fun l=>(fu ρ).bind fun u=>k a l u:=id rfl
@[simp] theorem e_sliceL (ds:List Dat) (lo hi:Option Int):mB (.lst ds) lo hi=.ok (.lst (vn ds lo hi)):=id rfl
@[simp] theorem e_pow {i j:Int} (h0:0<=j) (h1:j<=1000000) (h2:i.natAbs<2^64):powD (.int i) (.int j)=.ok (.int (i^j.toNat)):=by
 show (if (decide (0<=j)&&decide (j<=1000000)&&decide (i.natAbs<2^64))=true then _ else _)=_
 rw [if_pos (by simp only [Bool.and_eq_true,decide_eq_true_eq];exact ⟨⟨h0,h1⟩,h2⟩)]
@[simp] theorem e_eqII (i j:Int):eqM (.int i) (.int j)=.ok (.bl (decide (i=j))):=by
 show Except.ok (Dat.bl (i==j))=_
 rw [show (i==j)=decide (i=j) from rfl]
@[simp] theorem e_neII (i j:Int):neM (.int i) (.int j)=.ok (.bl (!decide (i=j))):=by
 show Except.ok (Dat.bl (!(i==j)))=_
 rw [show (i==j)=decide (i=j) from rfl]
@[simp] theorem cut_take {α:Type} (xs:List α) {j:Int} (h:0<=j):vn xs none (some j)=xs.take j.toNat:=by
 unfold vn cX
 simp only [if_neg (show ¬j<0 by omega),List.drop_zero,Nat.sub_zero]
 rcases Nat.le_total j.toNat xs.length with h1|h1
 ·rw [Nat.min_eq_left h1]
 ·rw [Nat.min_eq_right h1,List.take_length,List.take_of_length_le h1]
end
end L2
namespace L2
open PySem PySem.Spec PyProof.Rows
section
variable {X:Cx} {K:PySem.W.Frag} {W:gC} {own ro:Bool} {e a b c d:Expr} {st:Option Expr} {te:TE} {tp:TO} {es:List Expr} {x y:Str} {pos p p2 p3 p4 q r t u:Pos} {f fa fb fc fk:af->M Dat} {fp:af->M (Option Int)} {OL O:List Nat}
end
end L2
namespace L2
open PySem PySem.Spec PyProof.Rows
noncomputable def qQ (Cs:List Addr) (x:Str):Dat->M Dat
 |.ins C fs=>if Cs.contains C=true then (match fs.lookup x with
  |some d=>.ok d
  |none=>stk) else stk
 |_=>stk
noncomputable def isC (C:Addr) (m:Str):Dat->Bool
 |.ins D fs=>(D==C)&&(fs.lookup m).isNone
 |_=>false
noncomputable def nG (C:Addr) (m:Str) (g:List Dat->M Dat) (fo:af->M Dat) (fr:af->M (List Dat)):af->M Dat:=fun ρ=>(fo ρ).bind fun o=>if isC C m o=true then (fr ρ).bind fun as=>g (o::as) else stk
noncomputable def eD (C C2:Addr) (m:Str) (g g2:List Dat->M Dat) (fo:af->M Dat) (fr:af->M (List Dat)):af->M Dat:=fun ρ=>(fo ρ).bind fun o=>if isC C m o=true then (fr ρ).bind fun as=>g (o::as) else if isC C2 m o=true then (fr ρ).bind fun as=>g2 (o::as) else stk
noncomputable def newR (C:Addr) (g:List Dat->M Dat):List Dat->M Dat
 |[d]=>(g [d]).bind fun r=>.ok (.ins C [("gaps",r)])
 |_=>stk
noncomputable def twoL:Dat->Dat->Bool
 |.lst xs,.lst ys=>decide (xs.length=ys.length)
 |_,_=>false
noncomputable def newP (C:Addr) (g:List Dat->M Dat):List Dat->M Dat
 |[d,e]=>(g [d]).bind fun r=>(g [e]).bind fun r2=>if twoL r r2=true then .ok (.ins C [("gaps",r),("beside",r2)]) else stk
 |_=>stk
noncomputable def sStk:af->M Flo:=fun _=>stk
section
variable {X:Cx} {K:PySem.W.Frag} {W:gC} {own ro:Bool} {e o a b c d:Expr} {es:List Expr} {x y m:Str} {pos p p2 apos:Pos} {f fa fo:af->M Dat} {fr:af->M (List Dat)} {OL O O':List Nat} {C C2:Addr} {Cs:List Addr}
theorem ds_stk {st:Stmt}:DS K W ro X OL O O' st sStk:=fun F0 H0 pins s σ H D I h=>by
 obtain ⟨FB,F,ρ,r,p⟩:=h
 exact p.stuck rfl
theorem nR.at {F:Hp} {x:Str}:∀{gs:List (Str×Dat)} {fs:List (Str×V)},nR K F gs fs->(∀d,gs.lookup x=some d->∃v,fs.lookup x=some v/\cf K F d v)/\(gs.lookup x=none->fs.lookup x=none)
 |[],fs,h=>by cases (show fs=[] from h);exact ⟨fun d h=>by simp at h,fun _=>rfl⟩
 |(g,d)::gs,fs,h=>by
  obtain ⟨v,r,rfl,h1,h2⟩:=h
  have ih:=nR.at (x:=x) h2
  rw [List.lookup_cons,List.lookup_cons]
  cases e:x==g with
  |true=>exact ⟨fun d' h'=>by cases h';exact ⟨v,rfl,h1⟩,fun h'=>by cases h'⟩
  |false=>exact ih
theorem AQ (hC:∀C∈Cs,Cls K C/\kQ K C y) (he:DE K W false X e fa) (hb:attributeBase e y X.env (eval e X.env)=eval e X.env:=by rfl) (hK:X.K=K:=by rfl):DE K W false X (.Attribute e y pos) (f1 (qQ Cs y) fa):=by
 subst hK
 refine (A5 he hb).imp fun σ H Q h=>?_
 obtain ⟨F,ρ,r,s,p⟩:=h
 refine bZ r s (fun e he=>p.err (by unfold f1;rw [he];rfl)) fun a ha x F1 H1 s1 q1=>?_
 have ez:f1 (qQ Cs y) fa ρ=qQ Cs y a:=by unfold f1;rw [ha];rfl
 rw [ez] at p
 cases a with
 |ins C gs=>
  obtain ⟨l,dx,fs,e1,ea,df⟩:=q1
  have p':aH X.K W false F H (if Cs.contains C=true then (match gs.lookup y with
   |some d=>.ok d
   |none=>stk) else stk) Q:=p
  by_cases hc:Cs.contains C=true
  ·rw [if_pos hc] at p'
   obtain ⟨h1,h2⟩:=hC C (by simpa using hc)
   cases hl:gs.lookup y with
   |none=>rw [hl] at p';exact aH.stuck p'
   |some d=>
    rw [hl] at p'
    obtain ⟨v,hv,hd⟩:=df.at.1 d hl
    exact ⟨l,C,dx,fs,v,e1,s1.fh _ _ ea,h1,h2,hv,(p'.step s1) v F1 H1 (Step.refl s1.fh) hd⟩
  ·rw [if_neg hc] at p';exact aH.stuck p'
 |_=>exact aH.stuck p
theorem PE.or {t1 t2:TE} (h1:PE X e t1) (h2:PE X e t2):PE X e (fun σ H Q=>t1 σ H Q\/t2 σ H Q):=fun pins s σ H Q I h=>h.elim (h1 pins s σ H Q I) (h2 pins s σ H Q I)
theorem zP {nN n:Nat} {g:af->M Flo} {σ:St} {H:Hp} {Q:VK} (h:tD K Wno ro (nG C m (cJ nN n g) fo fr) σ H Q):tMeth C m (spF K ro (cJ nN n g) n) [] E0 (tD K Wno false fo) (tDA K Wno fr) σ H Q:=by
 obtain ⟨F,ρ,r,s,p⟩:=h
 refine bZ r s (fun e he=>p.err (by unfold nG;rw [he];rfl)) fun o ho x F1 H1 s1 q1=>?_
 have ez:nG C m (cJ nN n g) fo fr ρ=if isC C m o=true then (fr ρ).bind fun as=>cJ nN n g (o::as) else stk:=by unfold nG;rw [ho];rfl
 rw [ez] at p
 by_cases hc:isC C m o=true
 ·rw [if_pos hc] at p
  cases o with
  |ins D gs=>
   obtain ⟨l,dx,fs,e1,ea,df⟩:=id q1
   have hc':((D==C)&&(gs.lookup m).isNone)=true:=hc
   rw [Bool.and_eq_true] at hc'
   obtain ⟨hD,hn⟩:=hc'
   have hD:D=C:=by simpa using hD
   subst hD
   refine ⟨l,dx,fs,e1,s1.fh _ _ ea,df.at.2 (by simpa using hn),?_⟩
   have p:=p.step s1
   refine nX (r.mono s1.ff) s1.fh (fun e he=>p.err (by rw [he];rfl)) fun as has vs F2 H2 s2 qs=>?_
   rw [has] at p
   have p:aH K Wno ro F1 H1 (cJ nN n g (.ins D gs::as)) Q:=p
   have p:=p.step s2
   show spF K ro (cJ nN n g) n (x::(vs++[])) H2 Q E0
   rw [List.append_nil]
   by_cases hl:(Dat.ins D gs::as).length=n
   ·exact ⟨F2,.ins D gs::as,s2.fh,⟨x,vs,rfl,cf.mono s2.ff q1,qs⟩,hl,p⟩
   ·rw [sr hl] at p
    exact aH.stuck p
  |_=>cases hc
 ·rw [if_neg hc] at p;exact aH.stuck p
theorem xp {nN n nN2 n2:Nat} {g g2:af->M Flo} {σ:St} {H:Hp} {Q:VK} (h:tD K Wno ro (eD C C2 m (cJ nN n g) (cJ nN2 n2 g2) fo fr) σ H Q) :
  tD K Wno ro (nG C m (cJ nN n g) fo fr) σ H Q\/tD K Wno ro (nG C2 m (cJ nN2 n2 g2) fo fr) σ H Q:=by
 obtain ⟨F,ρ,r,s,p⟩:=h
 cases ho:fo ρ with
 |error e=>
  refine .inl ⟨F,ρ,r,s,?_⟩
  have e1:eD C C2 m (cJ nN n g) (cJ nN2 n2 g2) fo fr ρ=.error e:=by unfold eD;rw [ho];rfl
  have e2:nG C m (cJ nN n g) fo fr ρ=.error e:=by unfold nG;rw [ho];rfl
  rw [e1] at p;rw [e2];exact p
 |ok o=>
  have e1:eD C C2 m (cJ nN n g) (cJ nN2 n2 g2) fo fr ρ=if isC C m o=true then (fr ρ).bind fun as=>cJ nN n g (o::as) else if isC C2 m o=true then (fr ρ).bind fun as=>cJ nN2 n2 g2 (o::as) else stk:=by unfold eD;rw [ho];rfl
  have e2:nG C m (cJ nN n g) fo fr ρ=if isC C m o=true then (fr ρ).bind fun as=>cJ nN n g (o::as) else stk:=by unfold nG;rw [ho];rfl
  have e3:nG C2 m (cJ nN2 n2 g2) fo fr ρ=if isC C2 m o=true then (fr ρ).bind fun as=>cJ nN2 n2 g2 (o::as) else stk:=by unfold nG;rw [ho];rfl
  rw [e1] at p
  by_cases hc:isC C m o=true
  ·rw [if_pos hc] at p e2
   exact .inl ⟨F,ρ,r,s,by rw [e2];exact p⟩
  ·rw [if_neg hc] at p
   exact .inr ⟨F,ρ,r,s,by rw [e3];exact p⟩
noncomputable def ye (X:Cx) (o:Expr) (m:Str) (apos:Pos) (es:List Expr) (pos:Pos) (pl:Sem Bool):Prop:=eval (.Call (.Attribute o m apos) es [] pos) X.env=(do let ov <- eval o X.env;standAt apos.atName;let (f,first) <- holding [ov] (getMethod ov m pl);callWith pos f first (backTo pos (starEach es X.env)) (backToKw pos (keywordEach [] X.env)))
section
variable {k nN n nN2 n2:Nat} {fad fad2:Addr} {fd fd2:FuncData} {ps:List Str} {g g2:af->M Flo} {pl:Sem Bool}
theorem xu (c:Cls X.K C) (M:Meth X.K C m fad) (F:cu X.prog X.w X.K X.mg X.base CX0 k fad fd ps (spF X.K ro (cJ nN n g) n)) (hr:jk k X.A) (hb:Binds X.K fd ps []) (ho:DE X.K Wno false X o fo) (ha:DA X.K Wno X (e::es) fr)
  (hst:starEach (e::es) X.env=(false,eval e X.env)::starEach es X.env) (hpl:(backTo pos (starEach es X.env)).any (·.1)=false) (ht:ye X o m apos (e::es) pos pl):DE X.K Wno ro X (.Call (.Attribute o m apos) (e::es) [] pos) (nG C m (cJ nN n g) fo fr):=
 (pe_meth (pl:=pl) ho c M F hr hb .nil ui ha hst hpl ht).imp fun _ _ _=>zP
theorem ug (c:Cls X.K C) (M:Meth X.K C m fad) (F:cu X.prog X.w X.K X.mg X.base CX0 k fad fd ps (spF X.K ro (cJ nN n g) n)) (hr:jk k X.A) (hb:Binds X.K fd ps []) (ho:DE X.K Wno false X o fo)
  (ht:ye X o m apos [] pos pl):DE X.K Wno ro X (.Call (.Attribute o m apos) [] [] pos) (nG C m (cJ nN n g) fo aZ):=
 (pe_meth0 (pl:=pl) ho c M F hr hb .nil ui ht).imp fun σ H Q h=>by
  obtain ⟨F,ρ,r,s,z⟩:=zP h
  refine ⟨F,ρ,r,s,?_⟩
  cases e1:fo ρ with
  |error z'=>rw [e1] at z;exact z
  |ok od=>
   rw [e1] at z
   intro v F' H' st q
   obtain ⟨l,dx,fs,h1,h2,h3,h4⟩:=z v F' H' st q
   exact ⟨l,dx,fs,h1,h2,h3,rd_nil h4⟩
theorem xQ {k2:Nat} {ps2:List Str} (c:Cls K C) (M:Meth K C m fad) (F:cu X.prog X.w X.K X.mg X.base CX0 k fad fd ps (spF K ro (cJ nN n g) n)) (hr:jk k X.A) (hb:Binds X.K fd ps [])
  (c2:Cls K C2) (M2:Meth K C2 m fad2) (F2:cu X.prog X.w X.K X.mg X.base CX0 k2 fad2 fd2 ps2 (spF K ro (cJ nN2 n2 g2) n2)) (hr2:jk k2 X.A) (hb2:Binds X.K fd2 ps2 []) (ho:DE K Wno false X o fo) (ha:DA K Wno X (e::es) fr)
  (hK:X.K=K:=by rfl) (hst:starEach (e::es) X.env=(false,eval e X.env)::starEach es X.env:=by rfl) (hpl:(backTo pos (starEach es X.env)).any (·.1)=false:=by rfl) (ht:ye X o m apos (e::es) pos pl:=by rfl) :
  DE K Wno ro X (.Call (.Attribute o m apos) (e::es) [] pos) (eD C C2 m (cJ nN n g) (cJ nN2 n2 g2) fo fr):=by
 subst hK
 exact (PE.or (xu c M F hr hb ho ha hst hpl ht) (xu c2 M2 F2 hr2 hb2 ho ha hst hpl ht)).imp fun _ _ _=>xp
theorem uR {k2:Nat} {ps2:List Str} (c:Cls K C) (M:Meth K C m fad) (F:cu X.prog X.w X.K X.mg X.base CX0 k fad fd ps (spF K ro (cJ nN n g) n)) (hr:jk k X.A) (hb:Binds X.K fd ps [])
  (c2:Cls K C2) (M2:Meth K C2 m fad2) (F2:cu X.prog X.w X.K X.mg X.base CX0 k2 fad2 fd2 ps2 (spF K ro (cJ nN2 n2 g2) n2)) (hr2:jk k2 X.A) (hb2:Binds X.K fd2 ps2 []) (ho:DE K Wno false X o fo)
  (hK:X.K=K:=by rfl) (ht:ye X o m apos [] pos pl:=by rfl) :
  DE K Wno ro X (.Call (.Attribute o m apos) [] [] pos) (eD C C2 m (cJ nN n g) (cJ nN2 n2 g2) fo aZ):=by
 subst hK
 exact (PE.or (ug c M F hr hb ho ht) (ug c2 M2 F2 hr2 hb2 ho ht)).imp fun _ _ _=>xp
end
noncomputable def spI1 (K:PySem.W.Frag) (C:Addr) (g:List Dat->M Dat):Sp:=fun vs H Q _=>∃p dx v F d,vs=[.ref p,v]/\H p=some (.ins C dx [])/\F p=none/\b0 F H/\cf K F d v/\(match g [d] with
 |.ok r=>∀w F' H',b0 F F'->b0 F' H'->F' p=none->(∀b o,F' b=some o->F b=some o\/H b=none)->(∀c o,H c=some o->c≠p->H' c=some o)->H' p=some (.ins C dx [("gaps",w)])->cf K F' r w->Q .non H'
 |.error e=>Wno.p e F H)
noncomputable def spI2 (K:PySem.W.Frag) (C:Addr) (g:List Dat->M Dat):Sp:=fun vs H Q _=>∃p dx v v2 F d d2,vs=[.ref p,v,v2]/\H p=some (.ins C dx [])/\F p=none/\b0 F H/\cf K F d v/\cf K F d2 v2/\(match (g [d]).bind fun r=>(g [d2]).bind fun r2=>if twoL r r2=true then .ok (r,r2) else stk with
 |.ok (r,r2)=>∀w w2 F' H',b0 F F'->b0 F' H'->F' p=none->(∀b o,F' b=some o->F b=some o\/H b=none)->(∀c o,H c=some o->c≠p->H' c=some o)->H' p=some (.ins C dx [("gaps",w),("beside",w2)])->cf K F' r w->cf K F' r2 w2->Q .non H'
 |.error e=>Wno.p e F H)
theorem Step.born {F H F' H':Hp} {x dx:Addr} {fs:List (Str×V)} (s:b0 F H) (hx:H x=none) (hdx:H dx=none) (hne:dx≠x) (h1:b0 F F') (h2:b0 F' H') (h3:F' x=none) (h4:∀b o,F' b=some o->F b=some o\/upd (upd H dx (.own x)) x (.ins C dx []) b=none)
  (h5:∀c o,upd (upd H dx (.own x)) x (.ins C dx []) c=some o->c≠x->H' c=some o) (h6:H' x=some (.ins C dx fs)):Step F H (upd F' x (.ins C dx fs)) H' where
 ff:=h1.trans (b0.upd h3)
 hh:=fun c o e=>by
  have hc:c≠x:=fun h=>by rw [h,hx] at e;cases e
  have hd:c≠dx:=fun h=>by rw [h,hdx] at e;cases e
  exact h5 c o (by rw [ar hc,ar hd];exact e) hc
 fh:=fun c o e=>by
  by_cases hc:c=x
  ·subst hc;rw [aq] at e;rw [h6];exact e
  ·rw [ar hc] at e;exact h2 _ _ e
 nw:=fun c o e=>by
  by_cases hc:c=x
  ·subst hc;exact .inr hx
  ·rw [ar hc] at e
   rcases h4 c o e with z|z
   ·exact .inl z
   ·refine .inr ?_
    by_cases hd:c=dx
    ·subst hd;exact hdx
    ·rw [ar hc,ar hd] at z;exact z
theorem de_newR {k:Nat} {fI:Addr} {fdI:FuncData} {g:List Dat->M Dat} {ps:List Str} (Mk':Mk X.K C fI) (FI:cu X.prog X.w X.K X.mg X.base CX0 k fI fdI ps (spI1 K C g)) (hr:jk (k+1) X.A) (hm:X.mg x=some (.ref C)) (hb:Binds X.K fdI ps [])
  (ha:DA K Wno X [e] fr) (hg:Gl X x:=by rfl) (hdb:(x==("__debug__":Str))=false:=by decide) (hst:starEach [e] X.env=(false,eval e X.env)::starEach [] X.env:=by rfl) (hpl:(backTo pos (starEach [] X.env)).any (·.1)=false:=by rfl) :
  DE K Wno false X (.Call (.Name x p) [e] [] pos) (fL (newR C g) fr):=by
 refine PE.imp (A4 Mk' FI hr hg hm hb .nil ui ha hdb hst hpl) fun σ H Q h=>?_
 obtain ⟨F,ρ,r,s,p⟩:=rd_L h
 refine ⟨F,ρ,r,s,?_⟩
 cases e1:fr ρ with
 |error z=>rw [e1] at p;exact p
 |ok ds=>
  rw [e1] at p
  intro vs F1 H1 st q
  obtain ⟨F2,es1,s1,q1,z⟩:=p vs F1 H1 st q
  rcases es1 with _|⟨d,_|⟨_,_⟩⟩
  ·exact aH.stuck z
  rotate_left
  ·exact aH.stuck z
  ·obtain ⟨v,vs',rfl,qd,hn⟩:=q1
   cases (show vs'=[] from hn)
   intro x dx hx hdx hne
   refine ⟨x,dx,v,F2,d,rfl,aq,s1.free hx,fun c o e=>?_,qd,?_⟩
   ·have hc:c≠x:=fun h=>by rw [h,s1.free hx] at e;cases e
    have hd:c≠dx:=fun h=>by rw [h,s1.free hdx] at e;cases e
    rw [ar hc,ar hd];exact s1 _ _ e
   ·have z:aH K Wno false F2 H1 ((g [d]).bind fun r=>.ok (.ins C [("gaps",r)])) Q:=z
    cases hgd:g [d] with
    |error e=>rw [hgd] at z;exact False.elim z
    |ok r=>
     rw [hgd] at z
     intro w F' H' h1 h2 h3 h4 h5 h6 h7
     refine ⟨rfl,z (.ref x) (upd F' x (.ins C dx [("gaps",w)])) H' (Step.born s1 hx hdx hne h1 h2 h3 h4 h5 h6) ?_⟩
     exact ⟨x,dx,_,rfl,aq,w,[],rfl,cf.mono (b0.upd h3) h7,rfl⟩
theorem de_newP {k:Nat} {fI:Addr} {fdI:FuncData} {g:List Dat->M Dat} {ps:List Str} (Mk':Mk X.K C fI) (FI:cu X.prog X.w X.K X.mg X.base CX0 k fI fdI ps (spI2 K C g)) (hr:jk (k+1) X.A) (hm:X.mg x=some (.ref C)) (hb:Binds X.K fdI ps [])
  (ha:DA K Wno X [e,a] fr) (hg:Gl X x:=by rfl) (hdb:(x==("__debug__":Str))=false:=by decide) (hst:starEach [e,a] X.env=(false,eval e X.env)::starEach [a] X.env:=by rfl) (hpl:(backTo pos (starEach [a] X.env)).any (·.1)=false:=by rfl) :
  DE K Wno false X (.Call (.Name x p) [e,a] [] pos) (fL (newP C g) fr):=by
 refine PE.imp (A4 Mk' FI hr hg hm hb .nil ui ha hdb hst hpl) fun σ H Q h=>?_
 obtain ⟨F,ρ,r,s,p⟩:=rd_L h
 refine ⟨F,ρ,r,s,?_⟩
 cases e1:fr ρ with
 |error z=>rw [e1] at p;exact p
 |ok ds=>
  rw [e1] at p
  intro vs F1 H1 st q
  obtain ⟨F2,es1,s1,q1,z⟩:=p vs F1 H1 st q
  rcases es1 with _|⟨d,_|⟨d2,_|⟨_,_⟩⟩⟩
  ·exact aH.stuck z
  ·exact aH.stuck z
  rotate_left
  ·exact aH.stuck z
  ·obtain ⟨v,vs',rfl,qd,v2,vs2,rfl,qd2,hn⟩:=q1
   cases (show vs2=[] from hn)
   intro x dx hx hdx hne
   refine ⟨x,dx,v,v2,F2,d,d2,rfl,aq,s1.free hx,fun c o e=>?_,qd,qd2,?_⟩
   ·have hc:c≠x:=fun h=>by rw [h,s1.free hx] at e;cases e
    have hd:c≠dx:=fun h=>by rw [h,s1.free hdx] at e;cases e
    rw [ar hc,ar hd];exact s1 _ _ e
   ·have z:aH K Wno false F2 H1 ((g [d]).bind fun r=>(g [d2]).bind fun r2=>if twoL r r2=true then .ok (.ins C [("gaps",r),("beside",r2)]) else stk) Q:=z
    cases hgd:g [d] with
    |error e=>rw [hgd] at z;exact False.elim z
    |ok r=>
     rw [hgd,aA] at z
     cases hgd2:g [d2] with
     |error e=>rw [hgd2] at z;exact False.elim z
     |ok r2=>
      rw [hgd2,aA] at z
      by_cases ht:twoL r r2=true
      ·rw [if_pos ht] at z
       rw [aA,aA,if_pos ht]
       intro w w2 F' H' h1 h2 h3 h4 h5 h6 h7 h8
       refine ⟨rfl,z (.ref x) (upd F' x (.ins C dx [("gaps",w),("beside",w2)])) H' (Step.born s1 hx hdx hne h1 h2 h3 h4 h5 h6) ?_⟩
       exact ⟨x,dx,_,rfl,aq,w,_,rfl,cf.mono (b0.upd h3) h7,w2,[],rfl,cf.mono (b0.upd h3) h8,rfl⟩
      ·rw [if_neg ht] at z;exact aH.stuck z
end
end L2
namespace L2
open PySem PySem.Spec PyProof.Rows
end L2
namespace L2
open PySem PySem.Spec PyProof.Rows
end L2
namespace L2
open PySem PySem.Spec PyProof.Rows
end L2
namespace L2
open PySem PySem.Spec PyProof.Rows
theorem xw {n:Nat}:∀{ds:List Dat} {d:Dat},jQ ds n=true->d∈ds->okE d n=true
 |[],d,_,h=>by simp at h
 |a::ds,d,h,hd=>by
  unfold jQ at h
  simp only [Bool.and_eq_true] at h
  rcases List.mem_cons.mp hd with e|e
  ·rw [e];exact h.1
  ·exact xw h.2 e
section
variable {X:Cx} {K:PySem.W.Frag} {W:gC} {own ro:Bool}
open Classical in
theorem has_D {pins:List (Addr×Obj)} {σ:St} {F H:Hp} {s:Shared} (I:Inv X pins σ H s) (hF:b0 F H) {ds:List Dat} {xs:List V} {its:List Value} {a:Dat} {x:V} {u:Value} {A:Around} (od:jQ ds 40=true) (oa:okE a 40=true) (qs:aB X.K F ds xs) (rv:Vals xs its) (qa:cf X.K F a x) (ra:RelV x u) (hu:A.units+40<cLine) :
  ∃e:Value->Bool,(∀y,y∈its.toArray->SeqAt.EqAt A s y u (e y))/\its.toArray.any e=ds.any fun d=>eqD d a:=by
 have each:∀(i:Nat) (y:Value),its[i]? =some y->∃d,ds[i]? =some d/\SeqAt.EqAt A s y u (eqD d a):=fun i y hy=>by
  have hi:i<its.length:=(List.getElem?_eq_some_iff.mp hy).1
  have h1:i<xs.length:=by rw [rv.length];exact hi
  have h2:i<ds.length:=by rw [<- qs.length];exact h1
  obtain ⟨v,e1,q1⟩:=qs.get (List.getElem?_eq_getElem h2)
  obtain ⟨w,e2,r2⟩:=rv.get e1
  rw [hy] at e2
  cases e2
  exact ⟨_,List.getElem?_eq_getElem h2,AF I hF _ a (xw od (List.getElem_mem h2)) oa q1 qa r2 ra hu⟩
 refine ⟨fun y=>decide (∃(i:Nat) (d:Dat),its[i]? =some y/\ds[i]? =some d/\eqD d a=true),fun y hy=>?_,?_⟩
 ·by_cases h:∃(i:Nat) (d:Dat),its[i]? =some y/\ds[i]? =some d/\eqD d a=true
  ·obtain ⟨i,d,h1,h2,h3⟩:=h
   obtain ⟨d',h4,h5⟩:=each i y h1
   rw [h2] at h4
   cases h4
   rw [h3] at h5
   have:decide (∃(i:Nat) (d:Dat),its[i]? =some y/\ds[i]? =some d/\eqD d a=true)=true:=decide_eq_true ⟨i,d,h1,h2,h3⟩
   show SeqAt.EqAt A s y u (decide _)
   rw [this]
   exact h5
  ·have hm:y∈its:=by simpa using hy
   obtain ⟨i,hi⟩:=List.getElem?_of_mem hm
   obtain ⟨d,h4,h5⟩:=each i y hi
   have h6:eqD d a=false:=by
    cases hq:eqD d a with
    |false=>rfl
    |true=>exact absurd ⟨i,d,hi,h4,hq⟩ h
   rw [h6] at h5
   show SeqAt.EqAt A s y u (decide _)
   rw [decide_eq_false h]
   exact h5
 ·rw [Bool.eq_iff_iff]
  simp only [List.any_toArray,List.any_eq_true,decide_eq_true_eq]
  constructor
  ·rintro ⟨y,hy,i,d,h1,h2,h3⟩
   exact ⟨d,List.mem_of_getElem? h2,h3⟩
  ·rintro ⟨d,hd,h3⟩
   obtain ⟨i,hi⟩:=List.getElem?_of_mem hd
   have h2:i<ds.length:=(List.getElem?_eq_some_iff.mp hi).1
   have h4:i<its.length:=by rw [<- rv.length,qs.length];exact h2
   exact ⟨its[i],List.getElem_mem h4,i,d,List.getElem?_eq_getElem h4,hi,h3⟩
theorem o_notIn (hu:X.A.units+64<cLine) (hK:X.K=K:=by rfl):Op2 K W own X (compareOp .NotIn) Ad:=by
 subst hK
 intro pins s σ H x y v u Q I rx ry h
 obtain ⟨F,a,b,s1,qa,qb,p⟩:=h
 have hu1:X.A.in1.units+40<cLine:=by show X.A.units+1+40<cLine;omega
 cases b with
 |lst ds=>
  obtain ⟨l,xs,e,t,z⟩:=qb
  subst e
  cases ry
  have p':aH X.K W own F H (if (okE a 40&&jQ ds 40)=true then .ok (.bl (!ds.any fun d=>eqD d a)) else stk) Q:=p
  by_cases hc:(okE a 40&&jQ ds 40)=true
  ·rw [if_pos hc] at p'
   simp only [Bool.and_eq_true] at hc
   obtain ⟨its,rv,pl,_⟩:=I.list (s1.lst t)
   obtain ⟨e,he,ha⟩:=has_D (A:=X.A.in1) I s1 hc.2 hc.1 z rv qa rx hu1
   refine SeqAt.notIn_listAt e pl.isList he ?_
   rw [ha]
   exact p'.blS s1 I
  ·rw [if_neg hc] at p';exact p'.stuck
 |tup ds=>
  obtain ⟨l,xs,e,t,z⟩:=qb
  subst e
  cases ry
  have p':aH X.K W own F H (if (okE a 40&&jQ ds 40)=true then .ok (.bl (!ds.any fun d=>eqD d a)) else stk) Q:=p
  by_cases hc:(okE a 40&&jQ ds 40)=true
  ·rw [if_pos hc] at p'
   simp only [Bool.and_eq_true] at hc
   obtain ⟨its,rv,pl,_⟩:=I.tuple (s1.tup t)
   obtain ⟨e,he,ha⟩:=has_D (A:=X.A.in1) I s1 hc.2 hc.1 z rv qa rx hu1
   refine SeqAt.notIn_tupleAt e (show s.heap.IsTuple l its.toArray from pl) he ?_
   rw [ha]
   exact p'.blS s1 I
  ·rw [if_neg hc] at p';exact p'.stuck
 |_=>exact aH.stuck p
end
end L2
namespace L2
open PySem PySem.Spec PyProof.Rows
noncomputable abbrev ZRec (h:Heap) (z p q:Addr) (m k:Value):Prop:=h.get? z=some {cls:=.type "zip",dict:=none,data:=.fields #[m,k,.bool false,.ref p,.ref q],slots:=#[]}
structure Zs (z p q u v l m:Addr) (r k a b:Value) (i j:Nat) (xs ys:Array Value) (h:Heap):Prop where
 me:ZRec h z p q r k
 its:IsPair h p (.ref u) (.ref v)
 own:IsPair h q a b
 one:h.IsListIter u l i
 two:h.IsListIter v m j
 xl:h.IsList l xs
 yl:h.IsList m ys
noncomputable def Off (z q u v:Addr) (h h':Heap):Prop:=∀c o,c≠z->c≠q->c≠u->c≠v->h.get? c=some o->h'.get? c=some o
section
variable {z p q u v l m:Addr} {r k a b:Value} {i j n:Nat} {xs ys:Array Value} {h h' g:Heap}
theorem Off.refl:Off z q u v h h:=fun _ _ _ _ _ _ e=>e
theorem Off.then (A:Off z q u v h h') (B:Off z q u v h' g):Off z q u v h g:=fun c o a b d e x=>B c o a b d e (A c o a b d e x)
end
inductive Mem:Value->Prop
 |no:Mem .none
 |was (a:Int) (t:Tok):Mem (.int a t)
end L2
namespace L2
open PySem PySem.Spec PyProof.Rows
inductive Laid2:Hp->List (V×V)->List V->Hp->Prop
 |nil {G:Hp}:Laid2 G [] [] G
 |cons {G G':Hp} {T:Addr} {x y:V} {ps:List (V×V)} {vs:List V}:G T=none->Laid2 (upd G T (.tup [x,y])) ps vs G'->Laid2 G ((x,y)::ps) (.ref T::vs) G'
end L2
namespace L2
open PySem PySem.Spec PyProof.Rows
end L2
namespace L2
open PySem PySem.Spec PyProof.Rows
theorem Step.stays {F H F' H':Hp} {a:Addr} {o:HO} (s:Step F H F' H') (n:F a=none) (h:H a=some o):F' a=none:=by
 cases e:F' a with
 |none=>rfl
 |some u=>
  rcases s.nw a u e with z|z
  ·rw [n] at z;cases z
  ·rw [h] at z;cases z
structure Owns (K:PySem.W.Frag) (F G H:Hp) (ds:List Dat) (vs:List V):Prop where
 len:vs.length=ds.length
 get:∀(k:Nat) (d:Dat),ds[k]? =some d->∃a xs es,vs[k]? =some (.ref a)/\d=.lst es/\H a=some (.lst xs)/\F a=none/\G a=none/\aB K F es xs
 ap:∀(j k:Nat) (a:Addr),vs[j]? =some (.ref a)->vs[k]? =some (.ref a)->j=k
section
variable {K:PySem.W.Frag} {F G H F' H':Hp} {ds:List Dat} {vs:List V}
theorem Owns.step (o:Owns K F G H ds vs) (s:Step F H F' H'):Owns K F' G H' ds vs where
 len:=o.len
 get:=fun k d e=>by
  obtain ⟨a,xs,es,h1,h2,h3,h4,h5,h6⟩:=o.get k d e
  exact ⟨a,xs,es,h1,h2,s.hh _ _ h3,s.stays h4 h3,h5,h6.mono s.ff⟩
 ap:=o.ap
theorem Owns.back {G':Hp} (o:Owns K F G H ds vs) (s:b0 G' G):Owns K F G' H ds vs where
 len:=o.len
 get:=fun k d e=>by
  obtain ⟨a,xs,es,h1,h2,h3,h4,h5,h6⟩:=o.get k d e
  exact ⟨a,xs,es,h1,h2,h3,h4,s.free h5,h6⟩
 ap:=o.ap
end
noncomputable def rowAt (rs:List Dat) (a:Int):M (Nat×List Dat):=match ixN rs.length a with
 |some j=>(match rs[j]? with
  |some (.lst es)=>.ok (j,es)
  |_=>.error .stuck)
 |none=>.error .stuck
noncomputable def setRow (rs:List Dat) (je:Nat×List Dat) (b:Int) (x:Dat):M (List Dat):=match ixN je.2.length b with
 |some k=>.ok (rs.set je.1 (.lst (je.2.set k x)))
 |none=>.error .stuck
noncomputable def rows3 (i:Nat) (rs:List Dat) (x:Dat) (je:Nat×List Dat) (fB:af->M Dat) (ρ:af):M Flo:=(fB (ρ.set i none)).bind fun b=>(asI b).bind fun b=>(setRow rs je b x).bind fun rs'=>.ok (.nx (ρ.set i (some (.lst rs'))))
noncomputable def yr (i:Nat) (rs:List Dat) (x:Dat) (fA fB:af->M Dat) (ρ:af):M Flo:=(fA (ρ.set i none)).bind fun a=>(asI a).bind fun a=>(rowAt rs a).bind fun je=>rows3 i rs x je fB ρ
end L2
namespace L2
open PySem PySem.Spec PyProof.Rows
end L2
namespace L2
open PySem PySem.Spec PyProof.Rows
structure Ys (z p q u v l m:Addr) (r k a b:Value) (i j:Nat) (xs ys:Array Value) (h:Heap):Prop where
 me:ZRec h z p q r k
 its:IsPair h p (.ref u) (.ref v)
 own:IsPair h q a b
 one:h.IsTupleIter u l i
 two:h.IsTupleIter v m j
 xl:h.IsTuple l xs
 yl:h.IsTuple m ys
end L2
namespace L2
open PySem PySem.Spec PyProof.Rows
structure RepR (K:PySem.W.Frag) (F0 H0 FB:Hp) (i:Nat) (a:Addr) (ys:List V) (rs:List Dat) (F H:Hp) (σ:St) (ρ:af):Prop where
 r:Rep K F0 H0 FB [] F H σ ρ
 sl:σ[i]? =some (some (.ref a))
 hp:H a=some (.lst ys)
 fa:F a=none
 ha:H0 a=none
 nm:∀m:Nat,ys[m]?≠some (.ref a)
 ow:Owns K F H0 H rs ys
section
variable {K:PySem.W.Frag} {F0 H0 FB F H F1 H1:Hp} {i:Nat} {a:Addr} {ys:List V} {rs:List Dat} {σ:St} {ρ:af}
theorem RepR.step (h:RepR K F0 H0 FB i a ys rs F H σ ρ) (s:Step F H F1 H1):RepR K F0 H0 FB i a ys rs F1 H1 σ ρ:=
 ⟨h.r.step s,h.sl,s.hh _ _ h.hp,s.stays h.fa h.hp,h.ha,h.nm,h.ow.step s⟩
theorem RepR.base {FB':Hp} (h:RepR K F0 H0 FB i a ys rs F H σ ρ) (s:b0 FB' FB):RepR K F0 H0 FB' i a ys rs F H σ ρ:=⟨h.r.base s,h.sl,h.hp,h.fa,h.ha,h.nm,h.ow⟩
end
end L2
namespace L2
open PySem PySem.Spec PyProof.Rows
section
variable {κ:Type} [DecidableEq κ]
noncomputable def dropK (kvs:List (κ×V)) (k:κ):List (κ×V):=kvs.filter fun kv=>decide (kv.1≠k)
theorem tM.getD {o:Option V} {u:Option Value} {d:V} {d':Value} (r:tM o u) (rd:RelV d d'):RelV (o.getD d) (u.getD d'):=by
 cases o with
 |none=>cases u with
  |none=>exact rd
  |some _=>exact (show False from r).elim
 |some _=>cases u with
  |none=>exact (show False from r).elim
  |some _=>exact r
theorem KV.drop {kvs:List (κ×V)} {vs:List (κ×Value)} (r:KV kvs vs) (k:κ):KV (dropK kvs k) (without vs k):=by
 unfold KV at r ⊢
 unfold dropK without
 induction r with
 |nil=>exact .nil
 |@cons p q ps qs h t ih=>
  obtain ⟨h1,h2⟩:=h
  rw [List.filter_cons,List.filter_cons]
  by_cases e:p.1=k
  ·have a:¬decide (p.1≠k)=true:=by simp [e]
   have b:¬decide (q.1≠k)=true:=by simp [h1.symm.trans e]
   rw [if_neg a,if_neg b];exact ih
  ·have e':¬q.1=k:=fun z=>e (h1.trans z)
   have a:decide (p.1≠k)=true:=by simp [e]
   have b:decide (q.1≠k)=true:=by simp [e']
   rw [if_pos a,if_pos b];exact .cons ⟨h1,h2⟩ ih
theorem KV.length {kvs:List (κ×V)} {vs:List (κ×Value)} (r:KV kvs vs):kvs.length=vs.length:=Paired.length r
end
noncomputable abbrev KT (H:Hp):List (List Key×V)->List (List Key×Addr×Value)->Prop:=Paired fun p q=>p.1=q.1/\H q.2.1=some (.tup (p.1.map kV))/\RelV p.2 q.2.2
theorem KT.keeps {H H':Hp} {kvs:List (List Key×V)} {xs:List (List Key×Addr×Value)} (r:KT H kvs xs) (ht:∀b ys,H b=some (.tup ys)->H' b=some (.tup ys)):KT H' kvs xs:=
 Paired.mapP r fun _ _ z=>⟨z.1,ht _ _ z.2.1,z.2.2⟩
structure M1 (X:Cx) (o:Expr) (m:Str) (apos:Pos) (e:Expr) (cpos:Pos):Prop where
 base:attributeBase o m X.env (eval o X.env)=eval o X.env
 few:((backTo cpos (starEach [e] X.env)).all (fun x=> !x.1)&&(backToKw cpos (keywordEach [] X.env)).all (fun x=>x.1.isSome)
  &&decide (([e]:List Expr).length+([]:List Keyword).length+(if ([]:List Keyword).isEmpty then 0 else 1)<30))=true
 line:(apos.endLine==cpos.line)=true
 trees:backTo cpos (starEach [e] X.env)=[(false,eval e X.env)]
structure M2 (X:Cx) (o:Expr) (m:Str) (apos:Pos) (e f:Expr) (cpos:Pos):Prop where
 base:attributeBase o m X.env (eval o X.env)=eval o X.env
 few:((backTo cpos (starEach [e,f] X.env)).all (fun x=> !x.1)&&(backToKw cpos (keywordEach [] X.env)).all (fun x=>x.1.isSome)
  &&decide (([e,f]:List Expr).length+([]:List Keyword).length+(if ([]:List Keyword).isEmpty then 0 else 1)<30))=true
 line:(apos.endLine==cpos.line)=true
 trees:backTo cpos (starEach [e,f] X.env)=[(false,eval e X.env),(false,eval f X.env)]
end L2
namespace L2
open PySem PySem.Spec PyProof.Rows
noncomputable def keysI (ks:List Int):List (Key×V):=ks.map fun k=>(Sum.inl k,.bl true)
structure RepK (K:PySem.W.Frag) (F0 H0 FB:Hp) (i:Nat) (a:Addr) (ks:List Int) (F H:Hp) (σ:St) (ρ:af):Prop where
 r:Rep K F0 H0 FB [] F H σ ρ
 sl:σ[i]? =some (some (.ref a))
 hp:H a=some (.dK (keysI ks))
 fa:F a=none
 ha:H0 a=none
section
variable {K:PySem.W.Frag} {F0 H0 FB F H F1 H1:Hp} {i:Nat} {a:Addr} {ks:List Int} {σ:St} {ρ:af}
theorem RepK.step (h:RepK K F0 H0 FB i a ks F H σ ρ) (s:Step F H F1 H1):RepK K F0 H0 FB i a ks F1 H1 σ ρ:=
 ⟨h.r.step s,h.sl,s.hh _ _ h.hp,s.stays h.fa h.hp,h.ha⟩
end
end L2
namespace L2
open PySem PySem.Spec PyProof.Rows
structure ExA (h:Heap) (e:Addr) (C:Value) (dx hd:Option Addr):Prop where
 ob:∃oe vs,h.get? e=some oe/\oe.cls=C/\oe.dict=dx/\oe.data=.fields vs/\vs[1]? =some (hd.elim Value.none Value.ref)
 tb:∀T,hd=some T->T≠e/\∃oT ts,h.get? T=some oT/\oT.data=.fields ts/\ts[3]? =some .none
theorem dictMapF (f:Array Value->Array Value) (o:Obj):(o.mapFields f).dict=o.dict:=by
 obtain ⟨c,d,dt,sl⟩:=o
 cases dt<;>rfl
theorem size3 {l:List Value} (h:3<l.length):3<l.toArray.size:=by rw [List.size_toArray];exact h
section
variable {M:Model} {A:Around} {E:Value->Shared->Prop} {s:Shared}
theorem mkEntry {hv fv lv:Value} {pl:List Value} {Q:Value->Shared->Prop} (hp:IsPlace pl) (h:∀(o:Obj) (ts:Array Value),o.data=.fields ts->3<ts.size->o.isFreed=false->Q (.ref s.heap.objs.size) {s with heap:=s.heap.push o}) :
  wpAny M A (EntryCells.newEntry hv fv .none lv .none pl) Q E s:=by
 unfold EntryCells.newEntry newFields
 refine wpAny_newObj_type (h _ _ rfl (size3 ?_) ?_) (hp.sizeOk5 _ _ _ _ _)
 ·simp
 ·exact Obj.isFreed_of_fields rfl
structure Left (fs:List Addr) (e:Addr) (hd:Option Addr) (h h':Heap):Prop where
 keep:∀b o,h.get? b=some o->b∉fs->b≠e->(∀T,hd=some T->b≠T)->h'.get? b=some o
 slot:∀b o,h.get? b=some o->b∈fs->∃sl,h'.get? b=some {o with slots:=sl}
 size:h.objs.size<=h'.objs.size
theorem entry_at {base:Heap} {env:Env} {outer:List Env} {L e:Addr} {C:Value} {dx:Option Addr} {oe:Obj} {vs:Array Value} {hv:Value} {bn:Bool} {Q:Unit->Shared->Prop}
  (hfr:A.frames=some (env::outer)) (hl:s.heap.FunFrames base (env::outer)) (hf:env.frame=some L) (he:s.heap.get? e=some oe) (hc:oe.cls=C) (hdx:oe.dict=dx) (hd:oe.data=.fields vs) (hs:1<vs.size)
  (h:∀h' T,ExA h' e C dx (some T)->s.heap.objs.size<=T->Left (frs (env::outer)) e none s.heap h'->Q () {s with heap:=h'}) :
  wpAny M A (frameOf env >>= fun a=>entryPlaceOf L bn >>= fun pl=>EntryCells.newEntry hv a .none (rawInt L) .none pl >>= fun b=>setField (.ref e) 1 b) (fun _ s'=>wpAny M A (setFlight (.ref e) none) Q E s') E s:=by
 have nfr:∀b o,b∈frs (env::outer)->s.heap.get? b=some o->∀vs,o.data≠.fields vs:=fun b o hm q=>by
  obtain ⟨_,o',ho',n⟩:=hl.mem hm
  rw [q] at ho'
  cases ho'
  exact n
 have hne:e∉frs (env::outer):=fun hm=>nfr e oe hm he vs hd
 refine wpAny_bind (wpAny_frameOf_fun hfr hl hf fun h1 x1=>?_)
 obtain ⟨z1,z2,z3⟩:=x1
 refine wpAny_bind (wpAny_entryPlaceOf fun pl hp=>?_)
 refine wpAny_bind (mkEntry hp fun o ts ho h3 hfo=>?_)
 have e1:h1.get? e=some oe:=by rw [z2 e hne];exact he
 have n1:h1.objs.size≠e:=fun z=>absurd (Heap.lt_size e1) (by rw [z];exact Nat.lt_irrefl _)
 have e2:(h1.push o).get? e=some oe:=Heap.get?_push_of_some o e1
 have t2:(h1.push o).get? h1.objs.size=some o:=Heap.get?_push_size h1 hfo
 refine wpAny_setField e2 hd hs ?_
 have d3:=Obj.data_mapFields hd (·.setIfInBounds 1 (Value.ref h1.objs.size))
 have e3:=Heap.get?_update_self (h:=h1.push o) (Obj.mapFields (·.setIfInBounds 1 (Value.ref h1.objs.size))) e2 (Obj.isFreed_of_fields d3)
 have t3:((h1.push o).update e (Obj.mapFields (·.setIfInBounds 1 (Value.ref h1.objs.size)))).get? h1.objs.size=some o:=by
  rw [Heap.get?_update_other _ _ (Ne.symm n1)]
  exact t2
 unfold setFlight
 refine wpAny_bind (wpAny_field e3 d3 (x:=.ref h1.objs.size) (by simp [hs]) ?_)
 rw [if_pos (by simp)]
 refine wpAny_setField t3 ho h3 ?_
 have dT:=Obj.data_mapFields ho (·.setIfInBounds 3 ((none:Option Addr).elim Value.none fun f=>rawInt f))
 refine h _ h1.objs.size ⟨⟨_,_,by rw [Heap.get?_update_other _ _ n1];exact e3,by rw [Obj.cls_mapFields];exact hc,by rw [dictMapF];exact hdx,d3,by simp [hs]⟩,fun T hT=>?_⟩ (by rw [z1];exact Nat.le_refl _) ⟨fun b o' q hb hbe _=>?_,fun b o' q hb=>?_,?_⟩
 ·cases hT
  exact ⟨n1,_,_,Heap.get?_update_self _ t3 (Obj.isFreed_of_fields dT),dT,by simp [h3]⟩
 ·have q1:h1.get? b=some o':=by rw [z2 b hb];exact q
  have nb:h1.objs.size≠b:=fun z=>absurd (Heap.lt_size q1) (by rw [z];exact Nat.lt_irrefl _)
  rw [Heap.get?_update_other _ _ nb,Heap.get?_update_other _ _ (Ne.symm hbe)]
  exact Heap.get?_push_of_some o q1
 ·obtain ⟨sl,q1⟩:=z3 b o' q
  have nb:h1.objs.size≠b:=fun z=>absurd (Heap.lt_size q1) (by rw [z];exact Nat.lt_irrefl _)
  have nbe:e≠b:=fun z=>hne (z▸hb)
  refine ⟨sl,?_⟩
  rw [Heap.get?_update_other _ _ nb,Heap.get?_update_other _ _ nbe]
  exact Heap.get?_push_of_some o q1
 ·rw [Heap.size_update,Heap.size_update,Heap.size_push,z1]
  exact Nat.le_succ _
theorem leave2 {base:Heap} {env:Env} {outer:List Env} {L e:Addr} {C:Value} {dx hd:Option Addr} {Q:Unit->Shared->Prop}
  (hfr:A.frames=some (env::outer)) (hl:s.heap.FunFrames base (env::outer)) (hf:env.frame=some L) (x:ExA s.heap e C dx hd)
  (h:∀h' T,ExA h' e C dx (some T)->s.heap.objs.size<=T->Left (frs (env::outer)) e hd s.heap h'->Q () {s with heap:=h'}):wpAny M A (noteFrame (.ref e) env) (fun _ s'=>wpAny M A (setFlight (.ref e) none) Q E s') E s:=by
 obtain ⟨oe,vs,he,hc,hdx,hdt,h1⟩:=x.ob
 have hs:1<vs.size:=(Array.getElem?_eq_some_iff.mp h1).1
 unfold noteFrame
 simp only [hf]
 cases hd with
 |none=>
  refine wpAny_bind (wpAny_field he hdt h1 ?_)
  rw [if_neg (by decide)]
  exact entry_at hfr hl hf he hc hdx hdt hs fun h' T a b c=>h h' T a b c
 |some T=>
  obtain ⟨nTe,oT,ts,hT,hdT,h3⟩:=x.tb T rfl
  have hs3:3<ts.size:=(Array.getElem?_eq_some_iff.mp h3).1
  refine wpAny_bind (wpAny_field he hdt h1 ?_)
  rw [if_pos (by simp)]
  refine wpAny_bind (wpAny_field (x:=.none) hT hdT h3 ?_)
  rw [if_neg (by simp [rawInt])]
  refine wpAny_bind (wpAny_setField hT hdT hs3 ?_)
  have oth:∀b,b≠T->(s.heap.update T (Obj.mapFields (·.setIfInBounds 3 Value.none))).get? b=s.heap.get? b:=fun b hb=>Heap.get?_update_other _ _ (Ne.symm hb)
  have nT:∀b o,s.heap.get? b=some o->(∀vs,o.data≠.fields vs)->b≠T:=fun b o q n z=>by
   subst z
   rw [hT] at q
   cases q
   exact n ts hdT
  refine entry_at hfr (hl.of_keeps fun b o q n=>⟨o,by rw [oth b (nT b o q n)];exact q,rfl⟩) hf (by rw [oth e (Ne.symm nTe)];exact he) hc hdx hdt hs fun h' T' a b c=>?_
  refine h h' T' a (by rw [Heap.size_update] at b;exact b) ⟨fun b' o q hb hbe hbT=>c.keep b' o (by rw [oth b' (hbT T rfl)];exact q) hb hbe (fun _ z=>nomatch z),fun b' o q hb=>?_,?_⟩
  ·obtain ⟨_,o',ho',n⟩:=hl.mem hb
   rw [q] at ho'
   cases ho'
   exact c.slot b' o (by rw [oth b' (nT b' o q n)];exact q) hb
  ·have:=c.size
   rw [Heap.size_update] at this
   exact this
theorem leave_at {base:Heap} {env:Env} {outer:List Env} {L e:Addr} {C:Value} {dx hd:Option Addr} {Q:Unit->Shared->Prop}
  (hfr:A.frames=some (env::outer)) (hl:s.heap.FunFrames base (env::outer)) (hf:env.frame=some L) (x:ExA s.heap e C dx hd)
  (h:∀h' T,ExA h' e C dx (some T)->s.heap.objs.size<=T->Left (frs (env::outer)) e hd s.heap h'->Q () {s with heap:=h'}):wpAny M A (leaving env (.ref e)) Q E s:=by
 unfold leaving
 exact wpAny_bind (leave2 hfr hl hf x h)
end
end L2
namespace L2
open PySem PySem.Spec PyProof.Rows
structure CXs (P:Program) (w:World) (outer:List Env) (H:Hp) (s:Shared) (E:XK) (a T:Addr) (C:Value) (dx:Option Addr) (H':Hp) (s':Shared):Prop where
 ex:ExA s'.heap a C dx (some T)
 na:s.heap.get? a=none
 nT:s.heap.get? T=none
 fa:H' a=none
 fT:H' T=none
 os:s'.os=s.os
 bare:AllBare s'.gens
 un:Un (frs outer) [] H H' s.heap s'.heap
 hok:HOk P w H' s'.heap
 want:E C dx H'
noncomputable def CXd (P:Program) (w:World):CXT:=fun outer H s E e s'=>∃(a T:Addr) (C:Value) (dx:Option Addr) (H':Hp),e=.ref a/\CXs P w outer H s E a T C dx H' s'
theorem get_none {h:Heap} {a:Addr} (z:h.objs.size<=a):h.get? a=none:=by
 cases e:h.get? a with
 |none=>rfl
 |some o=>exact absurd (Heap.lt_size e) (Nat.not_lt.mpr z)
theorem Inv.xh {X:Cx} {pins:List (Addr×Obj)} {σ:St} {H:Hp} {s:Shared} {a:Addr} (I:Inv X pins σ H s) (hx:X.ex=[]) (e:s.heap.get? a=none):X.s₀.heap.get? a=none:=by
 cases q:X.s₀.heap.get? a with
 |none=>rfl
 |some o=>
  obtain ⟨o',z⟩:=I.base.there a o q (by rw [hx];exact fun z=>nomatch z)
  rw [e] at z
  cases z
theorem dv.is {P:Program} {w:World} {H:Hp} {h:Heap} {a:Addr} {o:HO} (x:dv P w H h a o):∃u,h.get? a=some u:=by
 cases o with
 |lst xs=>obtain ⟨_,_,_,_,e⟩:=x;exact ⟨_,e⟩
 |tup xs=>obtain ⟨_,_,_,ob,e,_⟩:=x;exact ⟨_,e⟩
 |dK kvs=>obtain ⟨_,_,_,_,o,_,_,e,_⟩:=x;exact ⟨_,e⟩
 |dT kvs=>obtain ⟨_,_,_,_,o,_,_,e,_⟩:=x;exact ⟨_,e⟩
 |set S n=>obtain ⟨o,_,_,_,e,_⟩:=x;exact ⟨_,e⟩
 |ins C dx fs=>obtain ⟨_,_,_,e,_⟩:=x;exact ⟨_,e⟩
 |own y=>exact x
 |xd fs=>obtain ⟨_,⟨_,_,_,e,_⟩,_⟩:=x;exact ⟨_,e⟩
 |rng lo hi=>obtain ⟨_,_,_,e⟩:=x;exact ⟨_,e⟩
 |frz ob u=>obtain ⟨e,_⟩:=x;exact ⟨_,e⟩
 |tbl ps=>exact ⟨_,show h.get? a=some _ from x⟩
 |met f y=>exact ⟨_,show h.get? a=some _ from x⟩
 |ext φ=>obtain ⟨_,e,_⟩:=x;exact e
section
variable {P:Program} {w:World} {K:PySem.W.Frag} {mg:Str->Option Value} {base:Heap} {N:List Str} {qual:Str} {scope:Scope} {f:Addr} {cd:Value} {A:Around} {outer:List Env} {s:Shared} {H:Hp} {E:XK}
theorem xe_of {pins:List (Addr×Obj)} {σ:St} {H':Hp} {s':Shared} {a:Addr} {C:Value} {dx hd:Option Addr} (J:Inv (AU (CXd P w) P w K mg base N qual scope f cd A outer s H E) pins σ H' s') (x:ExA s'.heap a C dx hd)
  (na:s.heap.get? a=none) (nT:∀T,hd=some T->s.heap.get? T=none/\H' T=none) (fa:H' a=none) (q:E C dx H'):(AU (CXd P w) P w K mg base N qual scope f cd A outer s H E).xe (.ref a) s':=by
 have e0:=J.env0
 have hfs:∀b∈frs (envOfC qual scope s.heap.objs.size f cd::outer),H' b=none:=e0.frf
 have old:∀b o,s.heap.get? b=some o->b≠a/\(∀T,hd=some T->b≠T)/\b<s.heap.objs.size:=fun b o e=>by
  have hb:=Heap.lt_size e
  exact ⟨fun z=>(by subst z;rw [e] at na;cases na),fun T hT z=>(by subst z;have:=(nT _ hT).1;rw [e] at this;cases this),hb⟩
 have infs:∀b,b<s.heap.objs.size->b∈frs (envOfC qual scope s.heap.objs.size f cd::outer)->b∈frs outer:=fun b hb hm=>by
  rcases List.mem_filterMap.mp hm with ⟨v,hv,e⟩
  rcases List.mem_cons.mp hv with z|z
  ·subst z
   have:s.heap.objs.size=b:=by simpa [envOfC] using e
   omega
  ·exact List.mem_filterMap.mpr ⟨v,z,e⟩
 have outfs:∀b,b∈frs outer->b∈frs (envOfC qual scope s.heap.objs.size f cd::outer):=fun b hm=>by
  rcases List.mem_filterMap.mp hm with ⟨v,hv,e⟩
  exact List.mem_filterMap.mpr ⟨v,List.mem_cons_of_mem _ hv,e⟩
 have base':Un (frs outer) [] H H' s.heap s'.heap:=J.base
 show wpAny (model P w) (A.deeper (envOfC qual scope s.heap.objs.size f cd)) (leaving (envOfC qual scope s.heap.objs.size f cd) (.ref a)) (fun _ s''=>CXd P w outer H s E (.ref a) s'') (fun e' s''=>CXd P w outer H s E e' s'') s'
 refine leave_at (base:=base) e0.frames e0.uI rfl x fun h' T x' hT lf=>⟨a,T,C,dx,H',rfl,x',na,get_none (Nat.le_trans (show s.heap.objs.size<=s'.heap.objs.size from J.sz) hT),fa,?_,J.os,J.bare,?_,?_,q⟩
 ·exact J.hok.fresh hT
 ·have vF:∀b o,s.heap.get? b=some o->∀o',s'.heap.get? b=some o'->b∉frs outer->h'.get? b=some o':=fun b o e o' e' hb=>by
   obtain ⟨z1,z2,z3⟩:=old b o e
   exact lf.keep b o' e' (fun z=>hb (infs b z3 z)) z1 z2
  refine ⟨fun b o e n hb hx=>vF b o e o (base'.keep b o e n hb hx) hb,fun b o e n hb hx=>?_,base'.free,fun b o e hx=>?_,base'.tups,base'.frzs,base'.tbls⟩
  ·obtain ⟨sl,e1⟩:=base'.slot b o e n hb hx
   obtain ⟨sl2,e2⟩:=lf.slot b _ e1 (outfs b hb)
   exact ⟨sl2,e2⟩
  ·obtain ⟨o',e1⟩:=base'.there b o e hx
   by_cases hb:b∈frs outer
   ·obtain ⟨sl,e2⟩:=lf.slot b o' e1 (outfs b hb)
    exact ⟨_,e2⟩
   ·exact ⟨o',vF b o e o' e1 hb⟩
 ·intro b o e
  refine (J.hok b o e).vF (fun c u hc e1=>?_) (fun _ z=>z) fun _ _ z=>z
  have hcn:H' c≠none:=by
   rcases hc with z|z
   ·rw [z,e];exact fun z=>nomatch z
   ·rw [z];exact fun z=>nomatch z
  exact lf.keep c u e1 (fun z=>hcn (hfs c z)) (fun z=>hcn (by rw [z];exact fa)) fun T hT z=>hcn (by rw [z];exact (nT T hT).2)
end
end L2
namespace L2
open PySem PySem.Spec PyProof.Rows
end L2
namespace L2
open PySem PySem.Spec PyProof.Rows
noncomputable def WE (K:PySem.W.Frag) (E:XK):gC where
 p:=fun e F H=>match e with
  |.stuck=>False
  |.exc C fs=>∀F' H',Step F H F' H'->match fs with
   |[]=>E (.ref C) none H'
   |fs=>∀d gs,F' d=some (.xd gs)->nR K F' fs gs->E (.ref C) (some d) H'
 mono:=fun {e F H F' H'} h s=>by
  cases e with
  |stuck=>exact h
  |exc C fs=>exact fun F2 H2 s2=>h F2 H2 (s.trans s2)
 ns:=fun h=>h
noncomputable def noX {α:Type}:M α->M α
 |.ok d=>.ok d
 |.error _=>.error .stuck
@[simp] theorem noX_ok {α:Type} (d:α):noX (.ok d:M α)=.ok d:=id rfl
noncomputable def fNoX {α:Type} (f:af->M α):af->M α:=fun ρ=>noX (f ρ)
@[simp] theorem e_fNoX {α:Type} (f:af->M α) (ρ:af):fNoX f ρ=noX (f ρ):=id rfl
section
variable {K:PySem.W.Frag} {W:gC} {X:Cx} {own ro:Bool} {OL O O':List Nat}
theorem xN {st:List Stmt} {g:af->M Flo} (h:DSs K Wno ro X.nox OL O O' st g):DSs K W ro X OL O O' st (fNoX g):=fun F0 H0=>PSs.imp (PSs.nox (h F0 H0)) fun D σ H ⟨FB,F,ρ,r,p⟩=>by
 refine ⟨FB,F,ρ,r,?_⟩
 have p:kD K W ro F0 H0 FB OL O' D (noX (g ρ)):=p
 unfold kD at p ⊢
 cases e:g ρ with
 |ok fl=>
  rw [e] at p
  cases fl<;>exact p
 |error x=>rw [e] at p;exact (W.ns p).elim
end
noncomputable def spX (K:PySem.W.Frag) (ro:Bool) (g:List Dat->M Dat) (n:Nat):Sp:=fun vs H Q E=>∃F ds,b0 F H/\aB K F ds vs/\ds.length=n/\aH K (WE K E) ro F H (g ds) Q
section
variable {P:Program} {w:World} {K:PySem.W.Frag} {mg:Str->Option Value} {base:Heap}
theorem fn_X {x qual:Str} {st:Stmt} {f:Addr} {fd:FuncData} {N ps:List Str} {k:Nat} {O':List Nat} (F:Fun K x qual st f fd) (S:aK N ps (ao st)) (ro:Bool) (g:af->M Flo)
  (hb:∀(cdv:Value) (A:Around) (outer:List Env) (s:Shared) (H:Hp) (E:XK),jk k (A.deeper (envOfC qual (ao st) s.heap.objs.size f cdv)) ->
   DSs K (WE K E) ro (AU (CXd P w) P w K mg base N qual (ao st) f cdv A outer s H E) [] [] O' (bX st) g):cu P w K mg base (CXd P w) (k+1) f fd ps (spX K ro (cJ N.length ps.length g) ps.length):=by
 obtain ⟨oc,od,kV,doc,pm,an,cdv,ct,osl,rfl,lk,hcd⟩:=F.ex
 refine fn_of lk hcd S (fun vs H Q E ⟨F,ds,s,q,l,p⟩=>by rw [q.length,l]) fun A outer s H vs Q E hr ⟨F1,ds,s1,q,l,p⟩=>⟨_,hb cdv A outer s H E hr F1 H,F1,F1,ds.map some++List.replicate (N.length-ds.length) none,?_,?_⟩
 ·refine ⟨Step.refl s1,b0.refl _,?_,fun i d e _=>u3 q e,(fun i d e h=>nomatch h),(fun i j ds es a h=>nomatch h)⟩
  unfold start
  rw [List.length_append,List.length_append,List.length_map,List.length_map,List.length_replicate,List.length_replicate,q.length]
 ·have e1:cJ N.length ps.length g ds=(g (ds.map some++List.replicate (N.length-ds.length) none)).bind fun fl=>match fl with
   |.nx _=>.ok .non
   |.rt d=>.ok d
   |_=>stk:=by
    unfold cJ
    exact if_pos l
  rw [e1] at p
  cases e2:g (ds.map some++List.replicate (N.length-ds.length) none) with
  |error z=>rw [e2] at p;exact p
  |ok fl=>
   rw [e2] at p
   cases fl with
   |nx ρ=>exact fun σ F H r=>p .non F H r.st (by cases ro<;>rfl)
   |rt d=>exact fun v F H st q=>p v F H st q
   |bk ρ=>exact aH.stuck p
   |ct ρ=>exact aH.stuck p
end
end L2
namespace L2
open PySem PySem.Spec PyProof.Rows
section
variable {X:Cx} {pins:List (Addr×Obj)} {σ:St} {H:Hp} {s:Shared} {a:Addr} {C:Value} {dx hd:Option Addr}
structure Apart (X:Cx) (pins:List (Addr×Obj)) (H:Hp) (s:Shared) (a:Addr) (hd:Option Addr):Prop where
 na:X.s₀.heap.get? a=none
 fa:H a=none
 pa:∀p∈X.pn++pins,p.1≠a
 nT:∀T,hd=some T->X.s₀.heap.get? T=none/\H T=none/\∀p∈X.pn++pins,p.1≠T
theorem Inv.left {h':Heap} (I:Inv X pins σ H s) (hx:X.ex=[]) (x:ExA s.heap a C dx hd) (ap:Apart X pins H s a hd) (lf:Left (frs X.stack) a hd s.heap h'):Inv X pins σ H {s with heap:=h'}:=by
 have e0:=I.env0
 obtain ⟨oe,vs,he,_,_,hdt,_⟩:=x.ob
 have nof:∀b o,s.heap.get? b=some o->(∀vs,o.data≠.fields vs)->b≠a/\∀T,hd=some T->b≠T:=fun b o e n=>by
  refine ⟨fun z=>?_,fun T hT z=>?_⟩
  ·subst z
   rw [he] at e
   cases e
   exact n vs hdt
  ·subst z
   obtain ⟨_,oT,ts,h1,h2,_⟩:=x.tb _ hT
   rw [h1] at e
   cases e
   exact n ts h2
 have stk:∀b∈frs X.stack,H b=none:=e0.frf
 have any:∀b o,s.heap.get? b=some o->(∀vs,o.data≠.fields vs)->∃sl,h'.get? b=some {o with slots:=sl}:=fun b o e n=>by
  obtain ⟨z1,z2⟩:=nof b o e n
  by_cases hb:b∈frs X.stack
  ·exact lf.slot b o e hb
  ·exact ⟨o.slots,lf.keep b o e hb z1 z2⟩
 have old:∀b o,X.s₀.heap.get? b=some o->b≠a/\∀T,hd=some T->b≠T:=fun b o e=>
  ⟨fun z=>(by subst z;rw [ap.na] at e;cases e),fun T hT z=>(by subst z;rw [(ap.nT _ hT).1] at e;cases e)⟩
 have up:s.heap.UpToSlots h':=any
 have loc0:X.s₀.heap.get? X.env.locals=none:=get_none I.ok.above
 have out:∀b,b≠X.env.locals->b∉X.fs->b∉frs X.stack:=fun b h1 h2 h3=>by
  rcases List.mem_cons.mp (I.qY b h3) with z|z
  ·exact h1 z
  ·exact h2 z
 have cel:∀c v,s.heap.IsCell c v->h'.IsCell c v:=fun c v ⟨o,h1,h2⟩=>by
  obtain ⟨sl,z⟩:=any c o h1 (fun vs q=>by rw [h2] at q;cases q)
  exact ⟨_,z,h2⟩
 refine ⟨I.ok,I.os,I.bare,?_,?_,fun x c e=>?_,I.free,I.freeC,fun p hp=>?_,?_,I.len⟩
 ·have go:∀b o,X.s₀.heap.get? b=some o->∀o',s.heap.get? b=some o'->∃sl,h'.get? b=some {o' with slots:=sl}:=fun b o e o' e'=>by
   obtain ⟨z1,z2⟩:=old b o e
   by_cases hb:b∈frs X.stack
   ·exact lf.slot b o' e' hb
   ·exact ⟨o'.slots,lf.keep b o' e' hb z1 z2⟩
  refine ⟨fun b o e n hb hx'=>?_,fun b o e n hb hx'=>?_,I.base.free,fun b o e hx'=>?_,I.base.tups,I.base.frzs,I.base.tbls⟩
  ·obtain ⟨z1,z2⟩:=old b o e
   exact lf.keep b o (I.base.keep b o e n hb hx') (out b (fun z=>by rw [z,loc0] at e;cases e) hb) z1 z2
  ·obtain ⟨sl,e1⟩:=I.base.slot b o e n hb hx'
   obtain ⟨sl2,e2⟩:=go b o e _ e1
   exact ⟨sl2,e2⟩
  ·obtain ⟨o',e1⟩:=I.base.there b o e hx'
   obtain ⟨sl2,e2⟩:=go b o e _ e1
   exact ⟨_,e2⟩
 ·obtain ⟨m,hn,hl⟩:=I.loc
  refine ⟨m,up.ns hn,fun i x v e1 e2 e3=>?_⟩
  obtain ⟨u,r,lk⟩:=hl i x v e1 e2 e3
  refine ⟨u,r,?_⟩
  rcases lk with z|⟨z,c,c1,c2⟩
  ·exact .inl z
  ·exact .inr ⟨z,c,c1,cel c _ c2⟩
 ·obtain ⟨v,z⟩:=I.cell x c e
  exact ⟨v,cel c v z⟩
 ·obtain ⟨p1,p2,p3,p4,p5⟩:=I.pin p hp
  exact ⟨lf.keep p.1 p.2 p1 (out p.1 p3 p4) (ap.pa p hp) fun T hT=>(ap.nT T hT).2.2 p hp,p2,p3,p4,p5⟩
 ·intro b o e
  refine (I.hok b o e).vF (fun c u hc e1=>?_) (fun _ z=>z) fun _ _ z=>z
  have hcn:H c≠none:=by
   rcases hc with z|z
   ·rw [z,e];exact fun z=>nomatch z
   ·rw [z];exact fun z=>nomatch z
  exact lf.keep c u e1 (fun z=>hcn (stk c z)) (fun z=>hcn (by rw [z];exact ap.fa)) fun T hT z=>hcn (by rw [z];exact (ap.nT T hT).2.1)
end
noncomputable def PEat (X:Cx) (pins:List (Addr×Obj)) (σ:St) (e:Expr) (t:TE):Prop:=∀(s:Shared) (H:Hp) (Q:VK),Inv X pins σ H s->t σ H Q->wpAny (model X.prog X.w) X.A (eval e X.env) (EP X pins σ Q) X.xe s
noncomputable def PSat (X:Cx) (pins:List (Addr×Obj)) (σ:St) (st:Stmt) (t:TS):Prop:=∀(s:Shared) (H:Hp) (D:Ends),Inv X pins σ H s->t D σ H->wpAny (model X.prog X.w) X.A (exec st X.env) (SP X pins D) X.xe s
noncomputable def PSsAt (X:Cx) (pins:List (Addr×Obj)) (σ:St) (st:List Stmt) (t:TS):Prop:=∀(s:Shared) (H:Hp) (D:Ends),Inv X pins σ H s->t D σ H->wpAny (model X.prog X.w) X.A (execs st X.env) (SP X pins D) X.xe s
noncomputable def m6 (CX:CXT) (X:Cx) (pins:List (Addr×Obj)) (σ:St) (E:XK):Prop:=∀(H:Hp) (s:Shared) (e:Value) (s':Shared),Inv X pins σ H s->CX X.stack H s E e s'->X.xe e s'
section
variable {X:Cx} {pins:List (Addr×Obj)} {σ:St} {st:Stmt} {t u:TS} {pos:Pos}
theorem at_one (h:PSat X pins σ st t):PSsAt X pins σ [st] t:=fun s H D I q=>by
 refine wpAny_execs_cons (thn (h s H D I q) fun f s1 z=>?_)
 cases f with
 |next=>exact wpAny_execs_nil z
 |_=>exact z
theorem at_expr {e:Expr} {te:TE} (he:PEat X pins σ e te) (hs:swapsWith e none pos.line X.env=pure false:=by rfl):PSat X pins σ (.Expr e pos) (tDrop te):=fun s H D I q=>
 wpAny_Expr_any (thn (he s H _ I q) fun v s1 ⟨x,H1,I1,r1,q1⟩=>⟨σ,H1,I1,q1⟩) I.quiet hs
end
section
variable {X:Cx} {pins:List (Addr×Obj)} {σ:St} {CX:CXT} {k:Nat} {f C:Addr} {fd:FuncData} {ps:List Str} {sp:Sp} {dvs:List V} {ds:List Value} {E:XK} {x m:Str} {p pos apos:Pos} {e o:Expr} {es:List Expr} {ta:TE} {t:TA}
theorem at_run {H:Hp} {s:Shared} {Q:VK} {us:List Value} {vs:List V} (F:cu X.prog X.w X.K X.mg X.base CX k f fd ps sp) (hr:jk k X.A) (hb:Binds X.K fd ps ds) (hd:Vals dvs ds) (hx:m6 CX X pins σ E)
  (I:Inv X pins σ H s) (r:Vals vs us) (h:sp (vs++dvs) H Q E):wpAny (model X.prog X.w) X.A (call (.ref f) us) (EP X pins σ Q) X.xe s:=by
 have v2:=r.append hd
 refine wpAny_call (codeAny_mono (F.run _ _ s H ⟨us,[]⟩ _ _ Q E hr I.env0 (hb s us I.kIn (v2.length.symm.trans (F.len _ _ _ _ h))) v2 h) fun z s' hq=>?_)
 cases z with
 |error e=>exact hx H s e s' I hq
 |ok fl=>
  cases fl with
  |ret u=>exact I.after hq
  |_=>exact False.elim hq
theorem at_call (F:cu X.prog X.w X.K X.mg X.base CX k f fd ps sp) (hx:m6 CX X pins σ E) (hr:jk k X.A) (hm:X.mg x=some (.ref f)) (hk:keepIn X.K (.ref f)=true) (hb:Binds X.K fd ps ds) (hd:Vals dvs ds) (ha:PA X (e::es) t) (hg:Gl X x:=by rfl)
  (hdb:(x==("__debug__":Str))=false:=by decide) (he:starEach (e::es) X.env=(false,eval e X.env)::starEach es X.env:=by rfl) (hpl:(backTo pos (starEach es X.env)).any (·.1)=false:=by rfl) :
  PEat X pins σ (.Call (.Name x p) (e::es) [] pos) (tCall sp dvs E t):=fun s H Q I q=>
 wpAny_Call_Name_kw (ka I hg hm (callWith_K (h₀:=X.base) I.ok.mod.kin hk (thn (ha pos pins s σ H _ I q) fun us s1 ⟨vs,H1,I1,r,q1⟩=>⟨I1.kIn,at_run F hr hb hd hx I1 r q1⟩) he hpl) hdb)
end
end L2
namespace L2
open PySem PySem.Spec PyProof.Rows
section
variable {X:Cx} {pins:List (Addr×Obj)} {σ:St} {H:Hp} {s:Shared}
theorem Inv.names {h':Heap} {m:Str->Option Value} {σ':St} (I:Inv X pins σ H s) (hn:h'.Ns X.env.locals m) (hs:Heap.SameBut X.env.locals s.heap h') (hl:σ'.length=X.N.length)
  (hv:∀(i:Nat) (x:Str) (v:V),X.N[i]? =some x->σ'[i]? =some (some v)->Vis X.env.scope x->∃u,RelV v u/\Look X.env s.heap m x u):Inv X pins σ' H {s with heap:=h'}:=by
 have far:∀b o,X.s₀.heap.get? b=some o->b≠X.env.locals:=fun b o e z=>by
  subst z
  exact absurd (Heap.lt_size e) (Nat.not_lt.mpr I.ok.above)
 have cel:∀x c v,X.env.cells.lookup x=some c->s.heap.IsCell c v->h'.IsCell c v:=fun x c v e z=>z.sameBut hs (I.cne x c e)
 refine ⟨I.ok,I.os,I.bare,⟨fun b o e n hb hx=>?_,fun b o e n hb hx=>?_,I.base.free,fun b o e hx=>?_,I.base.tups,I.base.frzs,I.base.tbls⟩,⟨m,hn,fun i x v e1 e2 e3=>?_⟩,fun x c e=>?_,I.free,I.freeC,fun p hp=>?_,fun b o e=>?_,hl⟩
 ·show h'.get? b=_
  rw [hs.2 b (far b o e)];exact I.base.keep b o e n hb hx
 ·obtain ⟨sl,z⟩:=I.base.slot b o e n hb hx
  refine ⟨sl,?_⟩
  show h'.get? b=_
  rw [hs.2 b (far b o e)];exact z
 ·obtain ⟨o',z⟩:=I.base.there b o e hx
  refine ⟨o',?_⟩
  show h'.get? b=_
  rw [hs.2 b (far b o e)];exact z
 ·obtain ⟨u,r,lk⟩:=hv i x v e1 e2 e3
  refine ⟨u,r,?_⟩
  rcases lk with z|⟨z,c,c1,c2⟩
  ·exact .inl z
  ·exact .inr ⟨z,c,c1,cel x c _ c1 c2⟩
 ·obtain ⟨v,z⟩:=I.cell x c e
  exact ⟨v,cel x c v e z⟩
 ·obtain ⟨p1,p2,p3,p4,p5⟩:=I.pin p hp
  refine ⟨?_,p2,p3,p4,p5⟩
  show h'.get? p.1=_
  rw [hs.2 p.1 p3];exact p1
 ·refine (I.hok b o e).vF (fun c u hc e1=>?_) (fun _ z=>z) fun _ _ z=>z
  show h'.get? c=_
  rw [hs.2 c fun z=>?_]
  ·exact e1
  ·rcases hc with y|y
   ·rw [<- y,z,I.free] at e;cases e
   ·rw [z,I.free] at y;cases y
theorem sS {M:Model} {A:Around} {E:Value->Shared->Prop} {i:Nat} {x:Str} {pos:Pos} {Q:Unit->Shared->Prop} (I:Inv X pins σ H s) (hN:X.N.Nodup) (hi:X.N[i]? =some x) (hk:X.env.scope.names.lookup x=some .local)
  (h:∀s',Inv X pins (σ.set i none) H s'->Q () s'):wpAny M A (do bindName X.env x .none;unbindBehindTheSuite X.env x pos) Q E s:=by
 have hcls:(X.env.scope.kind==.class||(X.env.scope.kind==.module&&X.env.locals != X.env.globals))=false:=by rw [I.ok.kind];rfl
 have hil:i<σ.length:=by rw [I.len];exact (List.getElem?_eq_some_iff.mp hi).1
 refine wpAny_bind (wpAny_bindName (oV I hN hi (.inl hk) (v:=.non) rfl (fun s1 I1=>?_) (.inr hk)))
 unfold unbindBehindTheSuite
 refine wpAny_onRaise ?_
 obtain ⟨m,hn,hl⟩:=id I1.loc
 obtain ⟨u,_,lk⟩:=hl i x .non hi (by rw [List.getElem?_set_self hil]) (.inl hk)
 have hmx:m x=some u:=by
  rcases lk with z|⟨z,_⟩
  ·exact z.2
  ·have hkk:X.env.kindOf x=some .local:=hk
   rw [hkk] at z
   rcases z with z|z<;>cases z
 refine wpAny_unbindName_local hk hn hmx hcls fun h' u' hn' hs=>h _ (I1.names hn' hs (by rw [List.length_set];exact I.len) fun j y v e1 e2 e3=>?_)
 have hij:i≠j:=fun z=>by
  subst z
  rw [List.getElem?_set_self hil] at e2
  cases e2
 rw [List.getElem?_set_ne hij] at e2
 obtain ⟨w,r,lk⟩:=hl j y v e1 (by rw [List.getElem?_set_ne hij];exact e2) e3
 refine ⟨w,r,?_⟩
 rcases lk with ⟨z1,z2⟩|z
 ·have hyx:y≠x:=fun z=>hij (sI hN hi (z▸e1))
  exact .inl ⟨z1,by simp [hyx,z2]⟩
 ·exact .inr z
end
end L2
namespace L2
open PySem PySem.Spec PyProof.Rows
noncomputable def vf (K:PySem.W.Frag) (C:Addr) (bmB:List Value):Prop:=∀h:Heap,K.In h->∃tl N nm qn bs hdct sn sub ab col dd k0 k1 k2 k3 k5 newId,h.get? C=some (excClassObj nm qn C N bs tl hdct sn sub ab col dd k0 k1 k2 k3 k5 newId)/\OwnTail h bmB tl
noncomputable abbrev Cx.hand (X:Cx) (a:Addr) (oe:Obj):Cx:={X with A:=X.A.mark (some (.ref a)),calm:=false,xe:=fun _ _=>False,pn:=(a,oe)::X.pn}
section
variable {X:Cx} {pins:List (Addr×Obj)} {σ:St} {H:Hp} {s:Shared} {a T:Addr} {C:Value} {dx:Option Addr} {oe:Obj}
theorem Inv.hand {vs:Array Value} (I:Inv X pins σ H s) (he:s.heap.get? a=some oe) (hd:oe.data=.fields vs) (na:X.s₀.heap.get? a=none) (fa:H a=none):Inv (X.hand a oe) pins σ H s:=by
 have ok:=I.ok
 refine ⟨⟨ok.mod,ok.kind,ok.glob,ok.blt,ok.above,ok.inj,ok.has,ok.cab,(fun z=>nomatch z),ok.frames,ok.stk,ok.exf,ok.bs,ok.bsz,ok.noex,ok.exfs,ok.uI,ok.frf⟩,I.os,I.bare,I.base,I.loc,I.cell,I.free,I.freeC,fun p hp=>?_,I.hok,I.len⟩
 rcases List.mem_cons.mp (show p∈(a,oe)::(X.pn++pins) from hp) with z|z
 ·subst z
  refine ⟨he,fa,fun z=>?_,fun hm=>?_,fun v z=>?_⟩
  ·obtain ⟨m,⟨o,es,ep,h1,h2,_⟩,_⟩:=I.loc
   have z:a=X.env.locals:=z
   rw [<- z,he] at h1
   cases h1
   rw [hd] at h2
   cases h2
  ·obtain ⟨_,o,h1,_⟩:=ok.uI.mem hm
   have h1:X.s₀.heap.get? a=some o:=h1
   rw [na] at h1
   cases h1
  ·have z:oe.data=.cell v:=z
   rw [hd] at z
   cases z
 ·exact I.pin p z
theorem Inv.xi (J:Inv (X.hand a oe) pins σ H s) (ok:X.Ok):Inv X pins σ H s:=
 ⟨ok,J.os,J.bare,J.base,J.loc,J.cell,J.free,J.freeC,fun p hp=>J.pin p (List.mem_cons_of_mem _ hp),J.hok,J.len⟩
theorem AE {M:Model} {A:Around} {E:Value->Shared->Prop} {base:Heap} {l:List Env} {Q:Unit->Shared->Prop} (hl:s.heap.FunFrames base l) (x:ExA s.heap a C dx (some T))
  (h:∀h',ExA h' a C dx (some T)->Left (frs l) a (some T) s.heap h'->h'.get? a=s.heap.get? a->Q () {s with heap:=h'}):wpAny M A (setFlight (.ref a) none) Q E s:=by
 obtain ⟨o,vs,he,hc,hdx,hdt,h1⟩:=x.ob
 obtain ⟨nT,oT,ts,hT,hdT,h3⟩:=x.tb T rfl
 have hs3:3<ts.size:=(Array.getElem?_eq_some_iff.mp h3).1
 unfold setFlight
 refine wpAny_bind (wpAny_field he hdt (x:=.ref T) h1 ?_)
 rw [if_pos (by simp)]
 refine wpAny_setField hT hdT hs3 ?_
 have oth:∀b,b≠T->(s.heap.update T (Obj.mapFields (·.setIfInBounds 3 ((none:Option Addr).elim Value.none fun f=>rawInt f)))).get? b=s.heap.get? b:=fun b hb=>Heap.get?_update_other _ _ (Ne.symm hb)
 have dT:=Obj.data_mapFields hdT (·.setIfInBounds 3 ((none:Option Addr).elim Value.none fun f=>rawInt f))
 refine h _ ⟨⟨o,vs,by rw [oth a (Ne.symm nT)];exact he,hc,hdx,hdt,h1⟩,fun T' hT'=>?_⟩ ⟨fun b o' q _ _ hb=>by rw [oth b (hb T rfl)];exact q,fun b o' q hb=>?_,?_⟩ (oth a (Ne.symm nT))
 ·cases hT'
  exact ⟨nT,_,_,Heap.get?_update_self _ hT (Obj.isFreed_of_fields dT),dT,by simp [hs3]⟩
 ·obtain ⟨_,o2,ho2,n⟩:=hl.mem hb
  have hbT:b≠T:=fun z=>by
   subst z
   rw [hT] at ho2
   cases ho2
   exact n ts hdT
  exact ⟨o'.slots,by rw [oth b hbT];exact q⟩
 ·rw [Heap.size_update]
  exact Nat.le_refl _
end
noncomputable def Ends.less (D:Ends) (i:Nat):Ends:={nx:=fun σ H=>D.nx (σ.set i none) H,rt:=D.rt,bk:=fun σ H=>D.bk (σ.set i none) H,ct:=fun σ H=>D.ct (σ.set i none) H}
section
variable {X:Cx} {pins:List (Addr×Obj)} {σ:St} {H:Hp} {s:Shared} {a T C:Addr} {dx:Option Addr} {c n:Str} {i:Nat} {np pos:Pos} {b₀:Stmt} {suite:List Stmt} {ts:TS} {D:Ends} {bmB:List Value}
theorem Be (I:Inv X pins σ H s) (x:ExA s.heap a (.ref C) dx (some T)) (ap:Apart X pins H s a (some T)) (hex:X.ex=[]) (hC:vf X.K C bmB) (hB:bmB.contains (.type "BaseException")=true)
  (hg:Gl X c) (hm:X.mg c=some (.ref C)) (hN:X.N.Nodup) (hi:X.N[i]? =some n) (hk:X.env.scope.names.lookup n=some .local)
  (hs:∀oe:Obj,oe.cls=.ref C->oe.dict=dx->(∃vs,oe.data=.fields vs)->PSs (X.hand a oe) (b₀::suite) ts) (q:ts (D.less i) (σ.set i (some (.ref a))) H) (hdb:(c==("__debug__":Str))=false:=by decide) :
  wpAny (model X.prog X.w) X.A (handleBy (.ref a) X.env [.ExceptHandler (some (.Name c np)) (some n) (b₀::suite) pos]) (SP X pins D) X.xe s:=by
 obtain ⟨oe,vs,he,hcl,hdx,hdt,h1⟩:=x.ob
 have J:=I.hand he hdt ap.na ap.fa
 refine wpAny_handleBy_cons (codeAny_handlers_test (ka (X:=X.hand a oe) J hg hm ?_ hdb)) (by intro z;cases z)
 obtain ⟨tl,N,nm,qn,bs,hdct,sn,sub,ab,col,dd,k0,k1,k2,k3,k5,newId,o1,o4⟩:=hC _ I.kIn
 have e0:=I.env0
 obtain ⟨hh,gg,d,tk,os⟩:=s
 refine wpAny_excMatches_sub_self o1 he hcl (o4.hasType hB) (codeAny_handlers_suite_as ?_)
 refine AE (base:=X.base) (l:=X.stack) e0.uI x fun h' x' lf ea=>?_
 have I2:=I.left hex x ap lf
 have he2:h'.get? a=some oe:=by rw [ea];exact he
 have J2:=I2.hand he2 hdt ap.na ap.fa
 refine oV (X:=X.hand a oe) J2 hN hi (.inl hk) (v:=.ref a) rfl (fun s3 J3=>?_) (.inr hk)
 refine wpAny_mono (hs oe hcl hdx ⟨vs,hdt⟩ pins s3 _ H (D.less i) J3 q) (fun f s4 z=>?_) fun _ _ z=>z.elim
 cases f with
 |next=>
  obtain ⟨σ',H',J4,q4⟩:=z
  exact sS (J4.xi I.ok) hN hi hk fun s5 I5=>⟨_,H',I5,q4⟩
 |brk=>
  obtain ⟨σ',H',J4,q4⟩:=z
  exact sS (J4.xi I.ok) hN hi hk fun s5 I5=>⟨_,H',I5,q4⟩
 |cont=>
  obtain ⟨σ',H',J4,q4⟩:=z
  exact sS (J4.xi I.ok) hN hi hk fun s5 I5=>⟨_,H',I5,q4⟩
 |ret u=>
  obtain ⟨v,σ',H',J4,r,q4⟩:=z
  exact sS (J4.xi I.ok) hN hi hk fun s5 I5=>⟨v,_,H',I5,r,q4⟩
end
end L2
namespace L2
open PySem PySem.Spec PyProof.Rows
noncomputable def EH (i:Nat) (C:Addr) (ts:Addr->Option Addr->TS) (D:Ends) (σ:St):XK:=fun Cv dx H'=>Cv=.ref C/\∀a,H' a=none->ts a dx (D.less i) (σ.set i (some (.ref a))) H'
noncomputable def tTry (tb:XK->TS) (i:Nat) (C:Addr) (ts:Addr->Option Addr->TS):TS:=fun D σ H=>tb (EH i C ts D σ) D σ H
section
variable {X:Cx} {C:Addr} {c n:Str} {i:Nat} {np hpos pos:Pos} {b₀:Stmt} {body suite:List Stmt} {ts:Addr->Option Addr->TS} {tb:XK->TS} {bmB:List Value}
theorem ps_try (hb:∀(pins:List (Addr×Obj)) (σ:St) (E:XK) (xe:Value->Shared->Prop),m6 (CXd X.prog X.w) (X.tK xe) pins σ E->PSsAt (X.tK xe) pins σ body (tb E))
  (hs:∀(a:Addr) (oe:Obj),oe.cls=.ref C->(∃vs,oe.data=.fields vs)->PSs (X.hand a oe) (b₀::suite) (ts a oe.dict))
  (hC:vf X.K C bmB) (hB:bmB.contains (.type "BaseException")=true) (hm:X.mg c=some (.ref C)) (hN:X.N.Nodup) (hi:X.N[i]? =some n:=by rfl) (hk:X.env.scope.names.lookup n=some .local:=by rfl)
  (hg:Gl X c:=by rfl) (hex:X.ex=[]:=by rfl) (hstk:X.stack=X.env::X.outer:=by rfl) (hfr:X.env.frame=some X.env.locals:=by rfl) (hdb:(c==("__debug__":Str))=false:=by decide) :
  PS X (.Try body [.ExceptHandler (some (.Name c np)) (some n) (b₀::suite) hpos] [] [] pos) (tTry tb i C ts):=by
 intro pins s σ H D I h
 refine wpAny_Try_except (thn (hb pins σ (EH i C ts D σ) (fun e s₁=>wpAny (model X.prog X.w) X.A (noteFrame e X.env) (fun _ s₂=>wpAny (model X.prog X.w) X.A (setFlight e none) (fun _ s₃=>wpAny (model X.prog X.w) X.A (handleBy e X.env [.ExceptHandler (some (.Name c np)) (some n) (b₀::suite) hpos]) (SP X pins D) X.xe s₃) X.xe s₂) X.xe s₁) ?_ s H D (I.tK _) h) fun f s1 z=>?_)
 ·rintro H1 s1 e s' I1' ⟨a,T,Cv,dx,H',rfl,z⟩
  have I1:=I1'.kU
  obtain ⟨rfl,q⟩:=z.want
  have J:Inv X pins σ H' s':=I1.call' z.os z.un z.hok z.bare (fun _ h=>nomatch h)
  have off:∀b,s1.heap.get? b=none->∀p∈X.pn++pins,p.1≠b:=fun b e p hp w=>by
   have:=(I1.pin p hp).1
   rw [w,e] at this
   cases this
  have ap:Apart X pins H' s' a (some T):=⟨I1.xh hex z.na,z.fa,off a z.na,fun T' hT=>by cases hT;exact ⟨I1.xh hex z.nT,z.fT,off T z.nT⟩⟩
  have e0:=J.env0
  have f1:=e0.frames
  have f2:=e0.uI
  rw [hstk] at f1 f2
  refine leave2 (base:=X.base) f1 f2 hfr z.ex fun h' T2 x' hT lf=>?_
  rw [<- hstk] at lf
  have I2:=J.left hex z.ex ap lf
  have ap2:Apart X pins H' {s' with heap:=h'} a (some T2):=⟨ap.na,ap.fa,ap.pa,fun T' hT'=>by
   cases hT'
   refine ⟨get_none (Nat.le_trans J.sz hT),J.hok.fresh hT,fun p hp w=>?_⟩
   have:=Heap.lt_size (J.pin p hp).1
   rw [w] at this
   exact absurd this (Nat.not_lt.mpr hT)⟩
  exact Be I2 x' ap2 hex hC hB hg hm hN hi hk (fun oe h1 h2 h3=>by rw [<- h2];exact hs a oe h1 h3) (q a z.fa) hdb
 ·have z:=SP.kU z
  cases f with
  |next=>exact wpAny_execs_nil z
  |_=>exact z
end
end L2
namespace L2
open PySem PySem.Spec PyProof.Rows
end L2
namespace L2
open PySem PySem.Spec PyProof.Rows
section
open PySem.W
variable {prog:Program} {w:World} {A:Around} {E:Value->Shared->Prop} {h:Heap} {g:Array GenState} {d:Drawn} {t:Nat} {os:OsState} {a C:Addr} {oe:Obj} {od:Option Obj} {K:Frag} {bmB:List Value} {B:String}
theorem xcls_by {tk:Tok} {Q:Value->Shared->Prop} (FB:ExcAttrBase B bmB) (kX:K.In h) (I:W.InstAt h a oe C od) (e1:findIn K (.ref C) "__getattribute__"=some (some (.builtin "BaseException.__getattribute__")))
  (e3:findIn K (.ref C) "__getattr__"=some none)
  (hq:∀R:Result->Shared->Prop,R (.ok (.ret (.ref C))) ⟨h,g,d,t,os⟩->codeAny (model prog w) A (.call (.builtin "BaseException.__getattribute__") ⟨[.ref a,.str "__class__" tk],[]⟩) R ⟨h,g,d,t,os⟩) (q:Q (.ref C) ⟨h,g,d,t,os⟩) :
  wpAny (model prog w) A (getAttrBy (.ref a) (.str "__class__" tk) false) Q E ⟨h,g,d,t,os⟩:=by
 have m0:=I.type (M:=model prog w)
 have m1:=looks_findIn (M:=model prog w) kX e1
 have L2:=looks_findIn (M:=model prog w) kX e3
 have b3:=FB.ga.bind (.ref a)
 have nx:(Value.builtin "BaseException.__getattribute__"==Value.builtin "object.__getattribute__")=false:=by decide +kernel
 unfold getAttrBy
 repeat (any_goals (first|assumption|with_reducible refine m0.at ?_|with_reducible refine m1.at ?_|with_reducible refine L2.at ?_|wp_step))
 all_goals (refine hq _ ?_)
 repeat (any_goals (first|wp_step|assumption))
theorem qV {M:Model} {nameV:Value} {Q:Unit->Shared->Prop} (kX:K.In h) (I:W.InstAt h a oe C od) (hb:mroIn K C (.type "BaseException")=some true) (hq:Q () ⟨h,g,d,t,os⟩) :
  wpAny M A (checkBuiltinCall "BaseException.__getattribute__" ⟨[.ref a,nameV],[]⟩) Q E ⟨h,g,d,t,os⟩:=by
 have kd:builtinKind "BaseException.__getattribute__"=some .slot:=by decide +kernel
 have hs:splitId "BaseException.__getattribute__"=some ("BaseException","__getattribute__"):=by decide +kernel
 have m0:=I.type (M:=M)
 have m1:=looks_mroIn (M:=M) kX hb
 have ag:=F.args_bexc_ga (.ref a) nameV
 simp only [checkBuiltinCall,hs,kd]
 refine wpAny_bind ?_
 unfold isInstance
 repeat (first|with_reducible refine m0.at ?_|with_reducible refine m1.at ?_|wp_step)
 exact hq
theorem yh {tk:Tok} {Q:Fin->Shared->Prop} (kX:K.In h) (I:W.InstAt h a oe C od) (e2:findIn K (.ref C) "__class__"=some (some (.builtin "object.__class__"))) (hm:mroIn K C (.type "object")=some true) (hq:Q (.done (.ret (.ref C))) ⟨h,g,d,t,os⟩) :
  wpAny (model prog w) A (Builtin.«object.__getattribute__» ⟨[.ref a,.str "__class__" tk],[]⟩) Q E ⟨h,g,d,t,os⟩:=by
 have tc:Shared.TypeIs ⟨h,g,d,t,os⟩ (.builtin "object.__class__") "getset_descriptor":=F.typeOf_object_class
 have m0:=I.type (M:=model prog w)
 have m1:=looks_findIn (M:=model prog w) kX e2
 have p5:=F.typeOf_object_class
 have p6:=F.slot_gs_get.lookup
 have p7:=F.slot_gs_set.lookup
 repeat (any_goals (first|assumption|with_reducible refine m0.at ?_|with_reducible refine m1.at ?_|wp_step))
 refine W.class_get (s:=⟨h,g,d,t,os⟩) kX I hm ?_
 repeat (any_goals (first|wp_step|assumption))
theorem zg {Q:Option Value->Shared->Prop} (FB:ExcAttrBase B bmB) (kX:K.In h) (I:W.InstAt h a oe C od) (e1:findIn K (.ref C) "__getattribute__"=some (some (.builtin "BaseException.__getattribute__"))) (e2:findIn K (.ref C) "__class__"=some (some (.builtin "object.__class__"))) (e3:findIn K (.ref C) "__getattr__"=some none)
  (hb:mroIn K C (.type "BaseException")=some true) (hm:mroIn K C (.type "object")=some true) (hq:Q (some (.ref C)) ⟨h,g,d,t+1,os⟩):wpAny (model prog w) A (getAttr? (.ref a) "__class__") Q E ⟨h,g,d,t,os⟩:=by
 unfold getAttr? getAttrBy?
 refine wpAny_bind (wpAny_mkText (wpAny_bind (wpAny_attempt (xcls_by FB kX I e1 e3 (fun R hR=>codeAny_call_builtin FB.ga.plain F.entry_bexc_ga (qV kX I hb (yh kX I e2 hm hR))) ?_))))
 exact wpAny_pure hq
structure zc (K:Frag) (C:Addr):Prop where
 ga:findIn K (.ref C) "__getattribute__"=some (some (.builtin "BaseException.__getattribute__"))
 cl:findIn K (.ref C) "__class__"=some (some (.builtin "object.__class__"))
 gt:findIn K (.ref C) "__getattr__"=some none
 bs:mroIn K C (.type "BaseException")=some true
 ob:mroIn K C (.type "object")=some true
 is:∃cd,clsIn K C=some cd
theorem p8 (FB:ExcAttrBase B bmB) (Z:zc K C):KitX K (.ref a) (.ref C) (fun h=>W.InstAt h a oe C od) where
 ty:=fun _ _ _ I=>I.type
 it:=fun _ _ X _=>by
  obtain ⟨cd,hc⟩:=Z.is
  unfold clsIn at hc
  split at hc
  ·next ho=>
   intro A' Q' E' s' k q
   unfold isType loadHead
   refine wpAny_bind (wpAny_loadPart (k C _ (X C _ ho)) ?_)
   exact wpAny_pure q
  ·cases hc
 ne:=fun hh tq d1 is n1 s1 X htp=>by
  obtain ⟨cd,hc⟩:=Z.is
  refine Bool.eq_false_iff.mpr (fun q=>?_)
  have e:C=tq:=Value.ref.inj (beq_iff_eq.mp q)
  subst e
  unfold clsIn at hc
  split at hc
  ·next ho=>
   cases (X C _ ho).symm.trans htp
  ·cases hc
 ca:=fun {_ _ _ _ _ s} X I k=>by
  obtain ⟨h,g,d,t,os⟩:=s
  exact zg FB X I Z.ga Z.cl Z.gt Z.bs Z.ob k
end
theorem su:∀{ys:List Addr} {its:List Value},Vals (ys.map V.ref) its->its=ys.map Value.ref
 |[],_,.nil=>rfl
 |y::ys,_,.cons r rs=>by rw [su rs,show _=Value.ref y from r];rfl
section
variable {X:Cx} {C a:Addr} {oe:Obj} {B:String} {bmB:List Value}
theorem xZ (FB:ExcAttrBase B bmB) (Z:zc X.K C) (hc:oe.cls=.ref C) (hd:∃vs,oe.data=.fields vs) (hn:oe.dict=none):dQ (X.hand a oe) (.builtin "isinstance") (fun xs H Q=>∃v b,xs=[.ref a,v] /\
  ((∃c,RelV v c/\(∀u,RelV v u->u=c)/\kitOne X.K (.ref C) c=some b)\/∃(tp:Addr) (ys:List Addr),v=.ref tp/\H tp=some (.tup (ys.map V.ref))/\kitAny X.K (.ref C) (ys.map Value.ref)=some b)/\Q (.bl b) H):=by
 intro pins s σ H xs us Q I r h
 obtain ⟨v,b,rfl,h1,q⟩:=h
 obtain ⟨u,w,rfl,ru,rw'⟩:=r.two
 cases (show u=Value.ref a from ru)
 have pa:=(I.pin (a,oe) (List.mem_cons_self ..)).1
 obtain ⟨vs,hdt⟩:=hd
 have J:PySem.W.InstAt s.heap a oe C none:=⟨pa,hc,by unfold PySem.W.notCls;rw [hdt],by rw [hn];trivial⟩
 rcases h1 with ⟨c,rc,uniq,e⟩|⟨tp,ys,rfl,ht,e⟩
 ·cases uniq w rw'
  exact kia_one (p8 FB Z) I.kIn J e (fun z=>nomatch z) fun tk=>⟨.bl b,H,I.tok tk,rfl,q⟩
 ·cases (show w=Value.ref tp from rw')
  obtain ⟨_,its,rv,ob,z1,z2⟩:=(show dv X.prog X.w H s.heap tp (.tup (ys.map V.ref)) from I.hok tp _ ht)
  obtain ⟨z3,n,z4⟩:=z2
  have ei:its=ys.map Value.ref:=su rv
  subst ei
  obtain ⟨oc,odd,odt,osl⟩:=ob
  have z5:oc=Value.type "tuple":=z3
  have z6:odt=.seq (ys.map Value.ref).toArray n:=z4
  subst z5 z6
  exact PySem.W.kia_tup (p8 FB Z) I.kIn J z1 e (fun z=>nomatch z) fun tk=>⟨.bl b,H,I.tok tk,rfl,q⟩
end
end L2
namespace L2
open PySem PySem.Spec PyProof.Rows
noncomputable def tIsiX (i:Nat) (a:Addr) (b:Bool):TE:=fun σ H Q=>σ[i]? =some (some (.ref a))/\Q (.bl b) H
noncomputable def tIsiT (i:Nat) (a:Addr) (ys:List Addr) (b:Bool):TE:=fun σ H Q=>σ[i]? =some (some (.ref a))/\∀p,H p=none->Q (.bl b) (upd H p (.tup (ys.map V.ref)))
section
variable {X:Cx} {C a D:Addr} {oe:Obj} {B:String} {bmB:List Value} {i:Nat} {n x y T:Str} {p p1 p2 pos:Pos} {b:Bool}
theorem pe_isiO (FB:ExcAttrBase B bmB) (Z:zc X.K C) (hc:oe.cls=.ref C) (hd:∃vs,oe.data=.fields vs) (hn:oe.dict=none) (hm:X.mg "isinstance"=none) (hD:X.mg y=some (.ref D)) (hb:kitOne X.K (.ref C) (.ref D)=some b)
  (hN:X.N[i]? =some n:=by rfl) (hv:Vis X.env.scope n:=by first|exact Or.inl rfl|exact Or.inr (Or.inl rfl)|exact Or.inr (Or.inr rfl)) (hd1:(n==("__debug__":Str))=false:=by decide) (hd2:(n==("__classdict__":Str))=false:=by decide)
  (hg:Gl (X.hand a oe) "isinstance":=by rfl) (hgD:Gl (X.hand a oe) y:=by rfl) (hd3:(y==("__debug__":Str))=false:=by decide)
  (hst:starEach [.Name n p1,.Name y p2] X.env=[(false,eval (.Name n p1) X.env),(false,eval (.Name y p2) X.env)]:=by rfl) (hst2:starEach [.Name y p2] X.env=[(false,eval (.Name y p2) X.env)]:=by rfl) (hpl:(backTo pos (starEach [.Name y p2] X.env)).any (·.1)=false:=by rfl) :
  PE (X.hand a oe) (.Call (.Name "isinstance" p) [.Name n p1,.Name y p2] [] pos) (tIsiX i a b):=by
 have vD:PE (X.hand a oe) (.Name y p2) (tC (.ref D)):=fun pins s σ H Q I h=>ka I hgD hD ⟨.ref D,H,I,rfl,h⟩ hd3
 refine PE.imp (fQ (X:=X.hand a oe) (xZ FB Z hc hd hn) hg hm boot_isinstance (b9 (pv i hN hv hd1 hd2) (b9 vD dE hst2) (by rw [hst,hst2])) (by decide) (by decide) (by rw [hst,hst2]) hpl) fun σ H Q h=>?_
 obtain ⟨e1,q⟩:=h
 exact ⟨.ref a,e1,.ref D,b,rfl,.inl ⟨.ref D,rfl,fun u hu=>hu,hb⟩,q⟩
end
noncomputable def tRefs (ys:List Addr):TA:=fun _ H Q=>Q (ys.map V.ref) H
section
variable {X:Cx} {C a D:Addr} {oe:Obj} {B:String} {bmB:List Value} {i:Nat} {n x y:Str} {T:String} {p p1 p2 pos:Pos} {b:Bool} {ys:List Addr} {es:List Expr}
theorem pe_isiB (FB:ExcAttrBase B bmB) (Z:zc X.K C) (hc:oe.cls=.ref C) (hd:∃vs,oe.data=.fields vs) (hn:oe.dict=none) (hm:X.mg "isinstance"=none) (hmT:X.mg y=none) (hvT:bootBuiltins y=some (.type T)) (hb:kitOne X.K (.ref C) (.type T)=some b)
  (hN:X.N[i]? =some n:=by rfl) (hv:Vis X.env.scope n:=by first|exact Or.inl rfl|exact Or.inr (Or.inl rfl)|exact Or.inr (Or.inr rfl)) (hd1:(n==("__debug__":Str))=false:=by decide) (hd2:(n==("__classdict__":Str))=false:=by decide)
  (hg:Gl (X.hand a oe) "isinstance":=by rfl) (hgT:Gl (X.hand a oe) y:=by rfl) (hy:y≠"__name__":=by decide) (hd3:(y==("__debug__":Str))=false:=by decide)
  (hst:starEach [.Name n p1,.Name y p2] X.env=[(false,eval (.Name n p1) X.env),(false,eval (.Name y p2) X.env)]:=by rfl) (hst2:starEach [.Name y p2] X.env=[(false,eval (.Name y p2) X.env)]:=by rfl) (hpl:(backTo pos (starEach [.Name y p2] X.env)).any (·.1)=false:=by rfl) :
  PE (X.hand a oe) (.Call (.Name "isinstance" p) [.Name n p1,.Name y p2] [] pos) (tIsiX i a b):=by
 refine PE.imp (fQ (X:=X.hand a oe) (xZ FB Z hc hd hn) hg hm boot_isinstance (b9 (pv i hN hv hd1 hd2) (b9 (A0 (X:=X.hand a oe) (pos:=p2) hgT hmT hvT hy hd3) dE hst2) (by rw [hst,hst2])) (by decide) (by decide) (by rw [hst,hst2]) hpl) fun σ H Q h=>?_
 obtain ⟨e1,q⟩:=h
 exact ⟨.ref a,e1,.ty T,b,rfl,.inl ⟨.type T,rfl,fun u hu=>hu,hb⟩,q⟩
theorem pe_isiT {j} (FB:ExcAttrBase B bmB) (Z:zc X.K C) (hc:oe.cls=.ref C) (hd:∃vs,oe.data=.fields vs) (hn:oe.dict=none) (hm:X.mg "isinstance"=none) (hT:PA (X.hand a oe) es (tRefs ys)) (hl:ys.length<=sizeLine) (hb:kitAny X.K (.ref C) (ys.map Value.ref)=some b)
  (hN:X.N[i]? =some n:=by rfl) (hv:Vis X.env.scope n:=by first|exact Or.inl rfl|exact Or.inr (Or.inl rfl)|exact Or.inr (Or.inr rfl)) (hd1:(n==("__debug__":Str))=false:=by decide) (hd2:(n==("__classdict__":Str))=false:=by decide)
  (hg:Gl (X.hand a oe) "isinstance":=by rfl)
  (hst:starEach [.Name n p1,.Tuple es j p2] X.env=[(false,eval (.Name n p1) X.env),(false,eval (.Tuple es j p2) X.env)]:=by rfl) (hst2:starEach [.Tuple es j p2] X.env=[(false,eval (.Tuple es j p2) X.env)]:=by rfl) (hpl:(backTo pos (starEach [.Tuple es j p2] X.env)).any (·.1)=false:=by rfl) :
  PE (X.hand a oe) (.Call (.Name "isinstance" p) [.Name n p1,.Tuple es j p2] [] pos) (tIsiT i a ys b):=by
 refine PE.imp (fQ (X:=X.hand a oe) (xZ FB Z hc hd hn) hg hm boot_isinstance (b9 (pv i hN hv hd1 hd2) (b9 (xt hT) dE hst2) (by rw [hst,hst2])) (by decide) (by decide) (by rw [hst,hst2]) hpl) fun σ H Q h=>?_
 obtain ⟨e1,q⟩:=h
 exact ⟨.ref a,e1,by rw [List.length_map];exact hl,fun tp htp=>⟨.ref tp,b,rfl,.inr ⟨tp,ys,rfl,aq,hb⟩,q tp htp⟩⟩
end
end L2
namespace L2
open PySem PySem.Spec PyProof.Rows
noncomputable def DEat (K:PySem.W.Frag) (E:XK) (own:Bool) (X:Cx) (pins:List (Addr×Obj)) (σ:St) (e:Expr) (f:af->M Dat):Prop:=PEat X pins σ e (tD K (WE K E) own f)
noncomputable def DSat (K:PySem.W.Frag) (E:XK) (ro:Bool) (X:Cx) (OL O O':List Nat) (pins:List (Addr×Obj)) (σ:St) (st:List Stmt) (g:af->M Flo):Prop:=∀F0 H0,PSsAt X pins σ st (tS K (WE K E) ro F0 H0 OL O O' g)
theorem PEat.imp {X:Cx} {pins:List (Addr×Obj)} {σ:St} {e:Expr} {t u:TE} (h:PEat X pins σ e t) (k:∀H Q,u σ H Q->t σ H Q):PEat X pins σ e u:=fun s H Q I q=>h s H Q I (k H Q q)
theorem PSat.imp {X:Cx} {pins:List (Addr×Obj)} {σ:St} {st:Stmt} {t u:TS} (h:PSat X pins σ st t) (k:∀D H,u D σ H->t D σ H):PSat X pins σ st u:=fun s H D I q=>h s H D I (k D H q)
section
variable {X:Cx} {pins:List (Addr×Obj)} {σ:St} {K:PySem.W.Frag} {ro:Bool} {x:Str} {e:Expr} {es:List Expr} {fr:af->M (List Dat)} {p pos:Pos} {E:XK} {CX:CXT}
theorem dea_call {k nN n:Nat} {fad:Addr} {fd:FuncData} {ps:List Str} {g:af->M Flo} (F:cu X.prog X.w X.K X.mg X.base CX k fad fd ps (spX K ro (cJ nN n g) n)) (hx:m6 CX X pins σ E) (hr:jk k X.A) (hm:X.mg x=some (.ref fad)) (hk:keepIn X.K (.ref fad)=true) (hb:Binds X.K fd ps [])
  (ha:DA K (WE K E) X (e::es) fr) (hg:Gl X x:=by rfl) (hdb:(x==("__debug__":Str))=false:=by decide) (hst:starEach (e::es) X.env=(false,eval e X.env)::starEach es X.env:=by rfl) (hpl:(backTo pos (starEach es X.env)).any (·.1)=false:=by rfl) :
  DEat K E ro X pins σ (.Call (.Name x p) (e::es) [] pos) (fL (cJ nN n g) fr):=by
 refine PEat.imp (at_call F hx hr hm hk hb .nil ha hg hdb hst hpl) fun H Q h=>?_
 obtain ⟨F,ρ,r,s,p⟩:=rd_L h
 refine ⟨F,ρ,r,s,?_⟩
 cases e1:fr ρ with
 |error z=>rw [e1] at p;exact p
 |ok ds=>
  rw [e1] at p
  intro vs F' H' st q
  obtain ⟨F1,es1,s1,q1,z⟩:=p vs F' H' st q
  show spX K ro (cJ nN n g) n (vs++[]) H' Q E
  rw [List.append_nil]
  by_cases hl:es1.length=n
  ·exact ⟨F1,es1,s1,q1,hl,z⟩
  ·rw [sr hl] at z
   exact aH.stuck z
end
noncomputable def r0 (O:List Nat) (f:af->M Dat):af->M Flo:=fun ρ=>(f (erase O ρ)).bind fun _=>.ok (.nx ρ)
@[simp] theorem e_dropB (O:List Nat) (f:af->M Dat) (ρ:af):r0 O f ρ=(f (erase O ρ)).bind fun _=>.ok (.nx ρ):=id rfl
section
variable {X:Cx} {pins:List (Addr×Obj)} {σ:St} {K:PySem.W.Frag} {ro own:Bool} {OL O:List Nat} {E:XK} {e:Expr} {f:af->M Dat} {pos:Pos}
theorem dsa_expr (h:DEat K E own X pins σ e f) (hs:swapsWith e none pos.line X.env=pure false:=by rfl):DSat K E ro X OL O O pins σ [.Expr e pos] (r0 O f):=fun F0 H0=>at_one (PSat.imp (at_expr h hs) fun D H ⟨FB,F,ρ,r,p⟩=>by
 refine bZ r.nu r.st.fh (fun e he=>p.qM r.st (by unfold r0;rw [he];rfl)) fun d hd v F1 H1 s1 q=>?_
 have z:r0 O f ρ=.ok (.nx ρ):=by unfold r0;rw [hd];rfl
 rw [z] at p
 exact p σ F1 H1 (r.step s1))
end
end L2
namespace L2
open PySem PySem.Spec PyProof.Rows
end L2
namespace L2
open PySem PySem.Spec PyProof.Rows
theorem Rep.back {K:PySem.W.Frag} {F0 H0 F1 H1 FB F H:Hp} {O:List Nat} {σ:St} {ρ:af} (r:Rep K F1 H1 FB O F H σ ρ) (s:Step F0 H0 F1 H1):Rep K F0 H0 FB O F H σ ρ:=
 ⟨s.trans r.st,r.fb,r.len,r.fz,fun i d e h=>let ⟨v,z,q⟩:=r.ow i d e h;⟨v,z,q.back s.hh⟩,r.ap⟩
end L2
namespace L2
open PySem PySem.Spec PyProof.Rows
noncomputable abbrev xArgs (vs:List Value):Obj:={cls:=.type "tuple",data:=.seq vs.toArray}
noncomputable abbrev zh (C t:Addr):Obj:={cls:=.ref C,data:=.fields #[.ref t,.none,.none,.none,.bool false,.none]}
noncomputable abbrev se (h:Heap) (C:Addr) (vs:List Value):Heap:=(h.push (xArgs vs)).push (zh C h.objs.size)
section
variable {w:World} {prog:Program} {E:Value->Shared->Prop} {A:Around}
variable {h:Heap} {g:Array GenState} {d:Drawn} {t:Nat} {os:OsState}
variable {nm q:Str} {C N fI:Addr} {bs tl bmB us:List Value} {hdct ab:Bool} {sn:List Str} {sub:List Value} {col:Option Bool} {dd:Option Addr} {k0 k1 k2 k3 k5:Option Value} {B newId initId:String} {mN:Str->Option Value} {oI:Obj}
theorem pq {b:Addr} {o:Obj} (e:h.get? b=some o):(se h C us).get? b=some o:=Heap.get?_push_of_some _ (Heap.get?_push_of_some _ e)
theorem tP:(se h C us).get? (h.objs.size+1)=some (zh C h.objs.size):=by
 have z:=Heap.get?_push_size (h.push (xArgs us)) (o:=zh C h.objs.size) rfl
 rwa [Heap.size_push] at z
theorem x_type (F:ExcBaseFacts B newId initId bmB) (T:OwnTail h bmB tl) (hC:h.get? C=some (excClassObj nm q C N bs tl hdct sn sub ab col dd k0 k1 k2 k3 k5 newId)) (on:h.Ns N mN) (hi:mN "__init__"=some (.ref fI))
  (ho:h.get? fI=some oI) (hcl:oI.cls=.type "function") (hl:us.length<=sizeLine) {Q:Fin->Shared->Prop}
  (z:wpAny (model prog w) A (call (.ref fI) (.ref (h.objs.size+1)::us)) (fun r s'=>r=.none/\Q (.done (.ret (.ref (h.objs.size+1)))) s') E ⟨se h C us,g,d,t,os⟩) :
  wpAny (model prog w) A (Builtin.«type.__call__» ⟨.ref C::us,[]⟩) Q E ⟨h,g,d,t,os⟩:=by
 have k:∀b o,h.get? b=some o->(se h C us).get? b=some o:=fun b o e=>pq e
 have oC:=k _ _ hC
 have me:(Value.ref C::tl).contains (.ref C)=true:=by simp
 have nw:(se h C us).get? (h.objs.size+1)=some (zh C h.objs.size):=tP
 repeat (first|with_reducible refine wpAny_madeBy_exc hC ?_|with_reducible refine wpAny_loadPart_at hC ?_|wp_step)
 refine codeAny_call_builtin_code (Code.quiet_builtin _ F.quiet) (wpAny_check_new_subT F T hC (codeAny_exc_new_subT F T hC ?_ hl))
 show wpAny _ _ _ _ _ (⟨se h C us,g,d,t,os⟩:Shared)
 unfold isInstance
 repeat (first|(with_reducible refine wpAny_isSubtype_exc oC ?_;rw [me])|with_reducible refine wpAny_loadPart_at nw ?_|wp_step)
 refine wpAny_typeLookup_tail oC (on.keeps k) (T.keeps k) F.mroIs F.init.lookup ?_
 rw [hi]
 unfold bindSpecial
 refine wpAny_holding (wpAny_bind (wpAny_bind (wpAny_typeOf (T:="function") ⟨_,k _ _ ho,hcl⟩ ?_)))
 rw [if_pos (by decide)]
 refine wpAny_pure (wpAny_bind (thn z fun r s' y=>?_))
 obtain ⟨e,y⟩:=y
 subst e
 wp_walk
 exact y
theorem x_call (F:ExcBaseFacts B newId initId bmB) (T:OwnTail h bmB tl) (hC:h.get? C=some (excClassObj nm q C N bs tl hdct sn sub ab col dd k0 k1 k2 k3 k5 newId)) (on:h.Ns N mN) (hi:mN "__init__"=some (.ref fI))
  (ho:h.get? fI=some oI) (hcl:oI.cls=.type "function") (hl:us.length<=sizeLine) {Q:Value->Shared->Prop}
  (z:wpAny (model prog w) (A.under (.builtin "type.__call__" ⟨.ref C::us,[]⟩)) (call (.ref fI) (.ref (h.objs.size+1)::us)) (fun r s'=>r=.none/\Q (.ref (h.objs.size+1)) s') E ⟨se h C us,g,d,t,os⟩) :
  wpAny (model prog w) A (call (.ref C) us) Q E ⟨h,g,d,t,os⟩:=by
 have l1:=tc_lookup
 have l2:=tc_bind (.ref C)
 have ty:(⟨h,g,d,t,os⟩:Shared).TypeIs (.ref C) "type":=⟨_,hC,rfl⟩
 refine wpAny_call (codeAny_of_tree ?_);show wpAny _ _ (callAny (.ref C) _) _ _ _
 (repeat (any_goals (first|assumption|with_reducible refine wpAny_loadPart_at hC ?_|wp_step)));exact ⟨rfl,codeAny_call_builtin_at (Code.quiet_builtin _ (by decide +kernel)) entry_typeCall (wpAny_check_type_call_sub hC (x_type F T hC on hi ho hcl hl z))⟩
end
theorem ns_some {K:PySem.W.Frag} {h:Heap} {N:Addr} {m:Str->Option Value} {n:Str} {v:Value} (X:K.In h) (G:h.Ns N m) (e:nsIn K N n=some (some v)):m n=some v:=by
 obtain ⟨o,es,ep,g1,g2,_,g3⟩:=G
 unfold nsIn at e
 cases q:K.lookup N with
 |none=>rw [q] at e;exact nomatch e
 |some ob=>
  have z:=X _ _ q
  rw [g1] at z
  cases z
  obtain ⟨c,d,dt,sl⟩:=o
  cases (show dt=.dict es ep from g2)
  rw [q] at e
  dsimp only at e
  cases f:es.toList.find? (·.key.isStr n) with
  |none=>rw [f] at e;dsimp only at e;split at e<;>cases e
  |some en=>
   rw [f] at e
   cases e
   rw [<- g3]
   unfold nsFind findBy
   rw [<- Array.find?_toList,f]
   rfl
noncomputable def oQ (K:PySem.W.Frag) (C:Addr) (bmB:List Value) (newId:String) (f:Addr):Bool:=match K.lookup C with
 |some ⟨.type "type",_,.cls cd,sl⟩=>
   (match cd.mro,sl.toList with
  |.ref C'::tl,[_,_,_,_,some (.builtin n),_]=>(n==newId&&C'==C&& !cd.hasDel)&&(PySem.W.nsOkIn K cd.ns&&PySem.W.tailIn K bmB tl)&&(nsIn K cd.ns "__init__"==some (some (.ref f)))
  |_,_=>false)
 |_=>false
theorem sW {K:PySem.W.Frag} {h:Heap} {C f:Addr} {bmB:List Value} {newId:String} (X:K.In h) (q:oQ K C bmB newId f=true) :
  ∃tl N nm qn bs hdct sn sub ab col dd k0 k1 k2 k3 k5 mN,h.get? C=some (excClassObj nm qn C N bs tl hdct sn sub ab col dd k0 k1 k2 k3 k5 newId)/\h.Ns N mN/\mN "__init__"=some (.ref f)/\OwnTail h bmB tl:=by
 unfold oQ at q
 split at q
 next dd cd sl ho=>
  split at q
  next C' tl k0 k1 k2 k3 n k5 hm hs=>
   obtain ⟨c1,c2,mro,c4,c5,c6,c7,c8,c9,c10,del⟩:=cd
   obtain ⟨l⟩:=sl
   simp only [Bool.and_eq_true] at q
   obtain ⟨⟨⟨⟨a2,a1⟩,a3⟩,a5,a4⟩,a6⟩:=q
   have b1:C'=C:=beq_iff_eq.mp a1
   have b2:n=newId:=beq_iff_eq.mp a2
   have b3:del=false:=by cases del<;>first|rfl|cases a3
   have b4:mro=Value.ref C'::tl:=hm
   have b5:l=[k0,k1,k2,k3,some (.builtin n),k5]:=hs
   subst b1 b2 b3 b4 b5
   exact ⟨tl,c4,c1,c5,c2,c6,c7,c8,c9,c10,dd,k0,k1,k2,k3,k5,_,X _ _ ho,.of_isNs (PySem.W.isNs_of_in X a5),ns_some X (.of_isNs (PySem.W.isNs_of_in X a5)) (beq_iff_eq.mp a6),PySem.W.tail_of_in X a4⟩
  next=>cases q
 next=>cases q
theorem xnamed2 {K:PySem.W.Frag} {C f:Addr} {bmB:List Value} {newId:String} (q:oQ K C bmB newId f=true):vf K C bmB:=fun _ X=>by
 obtain ⟨tl,N,nm,qn,bs,hdct,sn,sub,ab,col,dd,k0,k1,k2,k3,k5,mN,o1,o2,o3,o4⟩:=sW X q
 exact ⟨tl,N,nm,qn,bs,hdct,sn,sub,ab,col,dd,k0,k1,k2,k3,k5,newId,o1,o4⟩
end L2
namespace L2
open PySem PySem.Spec PyProof.Rows
noncomputable def pw:List Value->Bool
 |.ref _::r=>pw r
 |[.type a,.type b,.type c,.type d]=>a=="ValueError"&&b=="Exception"&&c=="BaseException"&&d=="object"
 |_=>false
theorem zo (me:Value):∀{l:List Value},pw l=true->refuseLoop me "__setattr__" l=pure ()
 |.ref _::_,e=>by rw [refuseLoop_ref];exact zo me e
 |[.type a,.type b,.type c,.type d],e=>by
  simp only [pw,Bool.and_eq_true,beq_iff_eq] at e
  obtain ⟨⟨⟨rfl,rfl⟩,rfl⟩,rfl⟩:=e
  exact PySem.F.store_ValueError.passes me
theorem ve_obj:∀{l:List Value},pw l=true->l.contains (.type "object")=true
 |.ref _::r,e=>by rw [List.contains_cons,ve_obj (l:=r) e,Bool.or_true]
 |[.type a,.type b,.type c,.type d],e=>by
  simp only [pw,Bool.and_eq_true,beq_iff_eq] at e
  obtain ⟨⟨⟨rfl,rfl⟩,rfl⟩,rfl⟩:=e
  decide +kernel
structure tL (K:PySem.W.Frag) (C:Addr) (f:Str):Prop where
 sa:PySem.W.findIn K (.ref C) "__setattr__"
   =some (some (.builtin "object.__setattr__"))
 no:PySem.W.findIn K (.ref C) f=some none
 cd:((PySem.W.clsIn K C).any fun cd=>pw cd.mro&&cd.hasDict)=true
section
open PySem.W
variable {prog:Program} {w:World} {A:Around} {E:Value->Shared->Prop} {s:Shared} {a C:Addr} {oe:Obj} {od:Option Obj} {K:Frag} {f:Str} {v:Value}
theorem x_open {tk:Tok} {R:Result->Shared->Prop} (X:K.In s.heap) (I:W.InstAt s.heap a oe C od) (Z:tL K C f)
  (z:∀b,wpAny (model prog w) A.in1 (Builtin.ObjectAttr.storeInOwnDict (.ref a) (.ref C) (.str f tk) f v b)
   (fun fin s'=>match fin with|.done y=>R (.ok y) s'|.again c'=>c'.quiet=true/\codeAny (model prog w) A c' R s') (fun e s'=>R (.error e) s') s) :
  codeAny (model prog w) A (.call (.builtin "object.__setattr__") ⟨[.ref a,.str f tk,v],[]⟩) R s:=by
 have SF:=PySem.F.store_object;obtain ⟨cd,hc,ho⟩:=any_some Z.cd
 rw [Bool.and_eq_true] at ho
 have ne:cd.mro.isEmpty=false:=by cases q:cd.mro with|nil=>rw [q] at ho;cases ho.1|cons _ _=>rfl
 have up:Looks (model prog w) s.heap (isInstance (.ref a) (.type "object")) true:=I.type.andThen (looks_mroIn X (by unfold mroIn;rw [hc,Option.bind_some,if_neg (by rw [ne];decide),ve_obj ho.1]))
 refine codeAny_call_builtin SF.slot.plain SF.entry (@check_slot (model prog w) _ _ s "object.__setattr__" "object" "__setattr__" (.ref a) [.str f tk,v] [] _ SF.kind SF.split up (SF.args (.ref a) (.str f tk) v) ?_)
 rw [osa_eq,refuse_eq]
 have hm:Looks (model prog w) s.heap (mroOf (.ref C)) cd.mro:=(looks_clsIn X hc).andThen .now;refine wpAny_bind (wpAny_bind (I.type.here (wpAny_bind (hm.here ?_))))
 rw [zo _ ho.1]
 exact wpAny_pure (wpAny_bind (I.type.here (wpAny_bind ((looks_findIn X Z.no).here (wpAny_bind (wpAny_pure (z _)))))))
theorem x_set1 {vs:Array Value} {Q:Unit->Shared->Prop} (X:K.In s.heap) (Z:tL K C f) (he:s.heap.get? a=some ⟨.ref C,none,.fields vs,#[]⟩)
  (z:∀h',h'.get? a=some ⟨.ref C,some s.heap.objs.size,.fields vs,#[]⟩->h'.Ns1 s.heap.objs.size (fun y=>if y=f then some v else none)->(∀b o,b≠a->s.heap.get? b=some o->h'.get? b=some o)->Q () {s with heap:=h',toks:=s.toks+2}) :
  wpAny (model prog w) A (setAttr (.ref a) f v) Q E s:=by
 have I:W.InstAt s.heap a ⟨.ref C,none,.fields vs,#[]⟩ C none:=⟨he,rfl,rfl,trivial⟩
 refine set_plain X I Z.sa (x_open (s:={s with toks:=s.toks+1}) X I Z fun b=>?_)
 obtain ⟨cd,hc,ho⟩:=any_some Z.cd
 rw [Bool.and_eq_true] at ho
 refine wpAny_bind (wpAny_pure (wpAny_bind (wpAny_bind (wpAny_loadPart he (wpAny_bind (Looks.here (s:={s with toks:=s.toks+1}) (looks_clsIn X hc) ?_))))))
 rw [ho.2]
 have ne:a≠s.heap.objs.size:=Nat.ne_of_lt (Heap.lt_size he)
 have h1:(s.heap.push emptyDict).get? a=some ⟨.ref C,none,.fields vs,#[]⟩:=Heap.get?_push_of_some _ he
 refine wpAny_bind (wpAny_alloc' (wpAny_bind (wpAny_update' h1 (wpAny_pure ?_))))
 have h2:((s.heap.push emptyDict).update a fun o=>{o with dict:=some s.heap.objs.size}).get? s.heap.objs.size=some emptyDict:=by
  rw [Heap.get?_update_other _ _ ne];exact Heap.get?_push_size s.heap rfl
 have h3:((s.heap.push emptyDict).update a fun o=>{o with dict:=some s.heap.objs.size}).get? a=some ⟨.ref C,some s.heap.objs.size,.fields vs,#[]⟩:=Heap.get?_update_self _ h1 rfl
 refine wpAny_bind (wpAny_pure (wpAny_bind (wpAny_nsSet1 (m:=fun _=>none) (Heap.Ns1.of_empty ⟨emptyDict,#[],_,h2,rfl,(fun e he=>absurd he (by simp)),fun _=>rfl⟩) fun h' n1 sb=>?_)))
 obtain ⟨oD,esD,epD,c1,c2,c3⟩:=n1.count (Within.cons f v Within.nil)
 refine wpAny_bind (wpAny_lookBehind c1 (by rw [c2];exact pastItsLine_dict (Nat.le_trans c3 (by rw [List.length_cons,List.length_nil,sizeLine_eq];omega))) (wpAny_pure ?_))
 exact z h' ((sb.2 a ne).trans h3) n1 fun b o hb q=>(sb.2 b (Nat.ne_of_lt (Heap.lt_size q))).trans (by rw [Heap.get?_update_other _ _ (Ne.symm hb)];exact Heap.get?_push_of_some _ q)
theorem x_set2 {vs:Array Value} {dx:Addr} {mA:Str->Option Value} {ns:List Str} {Q:Unit->Shared->Prop} (X:K.In s.heap) (Z:tL K C f) (he:s.heap.get? a=some ⟨.ref C,some dx,.fields vs,#[]⟩) (hd:s.heap.Ns1 dx mA) (hw:Within mA ns) (hl:ns.length<=1000)
  (z:∀h',h'.Ns1 dx (fun y=>if y=f then some v else mA y)->Heap.SameBut dx s.heap h'->Q () {s with heap:=h',toks:=s.toks+2}) :
  wpAny (model prog w) A (setAttr (.ref a) f v) Q E s:=by
 obtain ⟨ob,es,ep,d1,d2⟩:=id hd
 have I:W.InstAt s.heap a ⟨.ref C,some dx,.fields vs,#[]⟩ C (some ob):=⟨he,rfl,rfl,d1⟩
 refine set_plain X I Z.sa (x_open (s:={s with toks:=s.toks+1}) X I Z fun b=>?_)
 obtain ⟨cd,hc,ho⟩:=any_some Z.cd
 rw [Bool.and_eq_true] at ho
 refine wpAny_bind (wpAny_pure (wpAny_bind (wpAny_bind (wpAny_loadPart he (wpAny_bind (Looks.here (s:={s with toks:=s.toks+1}) (looks_clsIn X hc) ?_))))))
 rw [ho.2]
 refine wpAny_pure (a:=some dx) (wpAny_bind (wpAny_pure (wpAny_bind (wpAny_nsSet1 (s:={s with toks:=s.toks+1}) hd fun h' n1 sb=>?_))))
 obtain ⟨oD,esD,epD,c1,c2,c3⟩:=n1.count (Within.cons f v hw)
 refine wpAny_bind (wpAny_lookBehind c1 (by rw [c2];exact pastItsLine_dict (Nat.le_trans c3 (by rw [List.length_cons,sizeLine_eq];omega))) (wpAny_pure ?_))
 exact z h' n1 sb
end
end L2
namespace L2
open PySem PySem.Spec PyProof.Rows
section
open PySem.W
variable {prog:Program} {w:World} {A:Around} {E:Value->Shared->Prop} {s:Shared} {a C:Addr} {oe od:Obj} {K:Frag} {f:Str} {v:Value} {B:String} {bmB:List Value}
theorem tL.hd (Z:tL K C f):hasDictIn K C=true:=by
 obtain ⟨cd,hc,ho⟩:=any_some Z.cd
 rw [Bool.and_eq_true] at ho
 unfold hasDictIn
 rw [hc]
 exact ho.2
theorem x_ga {tk:Tok} {Q:Fin->Shared->Prop} (X:K.In s.heap) (I:W.InstAt s.heap a oe C (some od)) (Y:tL K C f) (hl:lookIn f od=some (some v)) (q:Q (.done (.ret v)) s) :
  wpAny (model prog w) A (Builtin.«object.__getattribute__» ⟨[.ref a,.str f tk],[]⟩) Q E s:=by
 have m0:=I.type (M:=model prog w)
 have m1:=looks_find (M:=model prog w) X I (findObj_own Y.hd Y.no rfl hl)
 unfold Builtin.«object.__getattribute__»;exact wpAny_bind (wpAny_pure (wpAny_bind (wpAny_pure (wpAny_bind (m0.here (wpAny_bind (m1.here (wpAny_pure q))))))))
theorem x_get {ex:Bool} {Q:Value->Shared->Prop} (FB:ExcAttrBase B bmB) (X:K.In s.heap) (I:W.InstAt s.heap a oe C (some od)) (Z:zc K C) (Y:tL K C f) (hl:lookIn f od=some (some v)) (hh:handedIn v=true) (q:Q v {s with toks:=s.toks+1}) :
  wpAny (model prog w) A (getAttr (.ref a) f ex) Q E s:=by
 obtain ⟨h,g,d,t,os⟩:=s
 have m0:=I.type (M:=model prog w)
 have m1:=looks_findIn (M:=model prog w) X Z.ga
 have m2:=looks_findIn (M:=model prog w) X Z.gt
 have b3:=FB.ga.bind (.ref a)
 have nx:(Value.builtin "BaseException.__getattribute__"==Value.builtin "object.__getattribute__")=false:=by decide +kernel
 have run:∀{A':Around} (R:Result->Shared->Prop),R (.ok (.ret v)) ⟨h,g,d,t+1,os⟩->codeAny (model prog w) A' (.call (.builtin "BaseException.__getattribute__") ⟨[.ref a,.str f t],[]⟩) R ⟨h,g,d,t+1,os⟩:=fun {A'} R hR=>
  codeAny_call_builtin FB.ga.plain F.entry_bexc_ga (qV X I Z.bs (x_ga (s:=⟨h,g,d,t+1,os⟩) X I Y hl hR))
 have ho:=handedOut_of hh
 unfold getAttr getAttrBy
 refine wpAny_bind (wpAny_mkText ?_);repeat (any_goals (first|assumption|with_reducible refine m0.at ?_|with_reducible refine m1.at ?_|with_reducible refine m2.at ?_|wp_step))
 rw [show (ex&&onTheHeap (Value.builtin "BaseException.__getattribute__"))=false by rw [show onTheHeap (Value.builtin "BaseException.__getattribute__")=false from rfl,Bool.and_false],if_neg Bool.false_ne_true]
 repeat (any_goals (first|wp_step|assumption))
 all_goals (refine run _ ?_)
 repeat (any_goals (first|wp_step|assumption))
 all_goals (first|(rw [ho];exact wpAny_pure q)|exact q)
end
noncomputable def XO (a C:Addr) (dx:Option Addr):HO:=.ext fun h=>∃vs:Array Value,vs[1]? =some .none/\h.get? a=some ⟨.ref C,dx,.fields vs,#[]⟩
noncomputable def XD (d:Addr) (fs:List (Str×V)):HO:=.ext fun h=>∃mA,h.Ns1 d mA/\(∀f,tM (fs.lookup f) (mA f))/\PySem.Within mA (fs.map (·.1))
section
variable {P:Program} {w:World} {H:Hp} {h:Heap} {a C d:Addr} {dx:Option Addr} {fs:List (Str×V)}
theorem xo_ok {vs:Array Value} (h1:vs[1]? =some .none) (e:h.get? a=some ⟨.ref C,dx,.fields vs,#[]⟩):dv P w H h a (XO a C dx):=⟨⟨vs,h1,e⟩,⟨_,e⟩,fun _ _ ⟨vs,q,e⟩ k=>⟨vs,q,k _ e⟩⟩
theorem xd_ok {mA:Str->Option Value} (n:h.Ns1 d mA) (r:∀f,tM (fs.lookup f) (mA f)) (wi:PySem.Within mA (fs.map (·.1))):dv P w H h d (XD d fs):=
 ⟨⟨mA,n,r,wi⟩,(let ⟨o,_,_,e,_⟩:=n;⟨o,e⟩),fun _ _ ⟨m,q,z⟩ k=>⟨m,q.at k,z⟩⟩
theorem zf (x:dv P w H h a (XO a C dx)):∃vs:Array Value,vs[1]? =some .none/\h.get? a=some ⟨.ref C,dx,.fields vs,#[]⟩:=x.1
theorem xd_get (x:dv P w H h d (XD d fs)):∃mA,h.Ns1 d mA/\(∀f,tM (fs.lookup f) (mA f))/\PySem.Within mA (fs.map (·.1)):=x.1
end
section
variable {X:Cx} {pins:List (Addr×Obj)} {σ:St} {H H':Hp} {s:Shared} {h':Heap}
theorem Inv.turn {t':Nat} (I:Inv X pins σ H s) (S:Addr->Prop) (k:∀b o,¬S b->s.heap.get? b=some o->h'.get? b=some o) (same:∀b,¬S b->H' b=H b)
  (mine:∀b,S b->(∃φ,H b=some (.ext φ))\/s.heap.get? b=none) (there:∀b o,S b->s.heap.get? b=some o->∃o',h'.get? b=some o') (new:∀b o,S b->H' b=some o->dv X.prog X.w H' h' b o) :
  Inv X pins σ H' {s with heap:=h',toks:=t'}:=by
 have out:∀b u,H b=some u->(∀φ,u≠.ext φ)->¬S b:=fun b u e n z=>by
  rcases mine b z with ⟨φ,q⟩|q
  ·rw [e] at q;cases q;exact n φ rfl
  ·obtain ⟨o,r⟩:=(I.hok b u e).is
   rw [r] at q;cases q
 have off:∀b o,s.heap.get? b=some o->H b=none->¬S b:=fun b o e n z=>by
  rcases mine b z with ⟨φ,q⟩|q
  ·rw [n] at q;cases q
  ·rw [e] at q;cases q
 refine I.un ⟨fun b o e n _ _=>k b o (off b o e n) e,fun b o e n _ _=>⟨o.slots,k b o (off b o e n) e⟩,fun b o e n _=>by rw [same b (off b o e n)];exact n,fun b o e _=>?_,fun b xs e=>?_,fun b o u e=>?_,fun b ps e=>?_⟩ fun b u e=>?_
 ·by_cases z:S b
  ·exact there b o z e
  ·exact ⟨o,k b o z e⟩
 ·rw [same b (out b _ e fun _ z=>nomatch z)];exact e
 ·rw [same b (out b _ e fun _ z=>nomatch z)];exact e
 ·exact ⟨#[],by rw [same b (out b _ e fun _ z=>nomatch z),Array.append_empty];exact e⟩
 ·by_cases z:S b
  ·exact new b u z e
  ·rw [same b z] at e
   refine (I.hok b u e).vF (fun c v hc q=>k c v ?_ q) (fun c q=>?_) fun c xs q=>?_
   ·rcases hc with rfl|hc
    ·exact z
    ·exact out c _ hc fun _ z=>nomatch z
   ·rw [same c (out c _ q fun _ z=>nomatch z)];exact q
   ·rw [same c (out c _ q fun _ z=>nomatch z)];exact q
end
section
variable {X:Cx} {pins:List (Addr×Obj)} {σ:St} {H:Hp} {s:Shared} {A:Around} {E:Value->Shared->Prop} {a C d:Addr} {f:Str} {y:V} {u:Value}
theorem xset1_ok {Q:Unit->Shared->Prop} (I:Inv X pins σ H s) (e:H a=some (XO a C none)) (Z:tL X.K C f) (ry:RelV y u)
  (z:∀d s',H d=none->d≠a->Inv X pins σ (upd (upd H d (XD d [(f,y)])) a (XO a C (some d))) s'->Q () s'):wpAny (model X.prog X.w) A (setAttr (.ref a) f u) Q E s:=by
 obtain ⟨vs,v1,he⟩:=zf (I.hok a _ e)
 have fr:=I.hok.fresh (Nat.le_refl s.heap.objs.size)
 have ne:s.heap.objs.size≠a:=fun q=>by rw [q,e] at fr;cases fr
 refine x_set1 I.kIn Z he fun h' e1 n1 k=>z s.heap.objs.size _ fr ne ?_
 refine I.turn (fun b=>b=a\/b=s.heap.objs.size) (fun b o nb q=>k b o (fun r=>nb (.inl r)) q) (fun b nb=>by rw [ar fun r=>nb (.inl r),ar fun r=>nb (.inr r)]) (fun b hb=>?_) (fun b o hb q=>?_) fun b o hb q=>?_
 ·rcases hb with rfl|rfl
  ·exact .inl ⟨_,e⟩
  ·exact .inr (get_none (Nat.le_refl _))
 ·rcases hb with rfl|rfl
  ·exact ⟨_,e1⟩
  ·rw [get_none (Nat.le_refl _)] at q;cases q
 ·rcases hb with rfl|rfl
  ·rw [aq] at q;cases q
   exact xo_ok v1 e1
  ·rw [ar ne,aq] at q;cases q
   refine xd_ok n1 (fun g=>?_) fun g hg=>?_
   ·show tM (List.lookup g [(f,y)]) (if g=f then some u else none)
    rw [List.lookup_cons]
    by_cases hf:g=f
    ·rw [if_pos hf,show (g==f)=true from beq_iff_eq.mpr hf];exact ry
    ·rw [if_neg hf,show (g==f)=false from beq_eq_false_iff_ne.mpr hf];trivial
   ·by_cases hf:g=f
    ·exact List.mem_cons.mpr (.inl hf)
    ·exact absurd (show (if g=f then some u else none)=none from if_neg hf) hg
theorem xset2_ok {fs:List (Str×V)} {Q:Unit->Shared->Prop} (I:Inv X pins σ H s) (e:H a=some (XO a C (some d))) (e2:H d=some (XD d fs)) (ne:d≠a) (hl:fs.length<=900) (Z:tL X.K C f) (ry:RelV y u)
  (z:∀s',Inv X pins σ (upd H d (XD d (qx f y fs))) s'->Q () s'):wpAny (model X.prog X.w) A (setAttr (.ref a) f u) Q E s:=by
 obtain ⟨vs,v1,he⟩:=zf (I.hok a _ e)
 obtain ⟨mA,n,r,wi⟩:=xd_get (I.hok d _ e2)
 refine x_set2 I.kIn Z he n wi (by rw [List.length_map];omega) fun h' n1 sb=>z _ ?_
 refine I.turn (fun b=>b=d) (fun b o nb q=>(sb.2 b nb).trans q) (fun b nb=>ar nb) (fun b hb=>by subst hb;exact .inl ⟨_,e2⟩) (fun b o hb q=>by subst hb;obtain ⟨o',_,_,e',_⟩:=n1;exact ⟨o',e'⟩) fun b o hb q=>?_
 subst hb
 rw [aq] at q;cases q
 refine xd_ok n1 (fun g=>?_) fun g hg=>?_
 ·show tM ((qx f y fs).lookup g)
    (if g=f then some u else mA g)
  rw [mT]
  by_cases q:g=f
  ·rw [if_pos q];rw [if_pos q];exact ry
  ·rw [if_neg q];rw [if_neg q];exact r g
 ·by_cases q:g=f
  ·rw [q];exact And.left (lh f y fs)
  ·exact (lh f y fs).2 g (wi g fun y'=>hg ((if_neg q).trans y'))
end
end L2
namespace L2
open PySem PySem.Spec PyProof.Rows
noncomputable def sX1 (C:Addr) (ta tv:TE) (f:Str):TS:=fun D σ H=>tv σ H fun y H1=>ta σ H1 fun x H2=>∃a,x=.ref a/\H2 a=some (XO a C none)/\∀d,H2 d=none->d≠a->D.nx σ (upd (upd H2 d (XD d [(f,y)])) a (XO a C (some d)))
noncomputable def sX2 (C:Addr) (ta tv:TE) (f:Str):TS:=fun D σ H=>tv σ H fun y H1=>ta σ H1 fun x H2=>∃a d fs,x=.ref a/\H2 a=some (XO a C (some d))/\H2 d=some (XD d fs)/\d≠a/\fs.length<=900/\D.nx σ (upd H2 d (XD d (qx f y fs)))
section
variable {X:Cx} {C:Addr} {o value:Expr} {f:Str} {ta tv:TE} {pos pos':Pos}
theorem ps_x1 (ha:PE X o ta) (hv:PE X value tv) (Z:tL X.K C f) (hs:swapsWith value (some (.Attribute o f pos')) pos.line X.env=pure false:=by rfl):PS X (.Assign [.Attribute o f pos'] value pos) (sX1 C ta tv f):=by
 intro pins s σ H D I h
 refine plainObj_wpAny_Assign_Attribute (thn (hv pins s σ H _ I h) fun u s1 ⟨y,H1,I1,ry,q⟩=>thn (ha pins s1 σ H1 _ I1 q) fun ov s2 ⟨x,H2,I2,rx,a,ex,ea,q2⟩=>?_) hs
 subst ex
 cases (show ov=Value.ref a from rx)
 exact xset1_ok I2 ea Z ry fun d s3 h1 h2 I3=>⟨σ,_,I3,q2 d h1 h2⟩
theorem ps_x2 (ha:PE X o ta) (hv:PE X value tv) (Z:tL X.K C f) (hs:swapsWith value (some (.Attribute o f pos')) pos.line X.env=pure false:=by rfl):PS X (.Assign [.Attribute o f pos'] value pos) (sX2 C ta tv f):=by
 intro pins s σ H D I h
 refine plainObj_wpAny_Assign_Attribute (thn (hv pins s σ H _ I h) fun u s1 ⟨y,H1,I1,ry,q⟩=>thn (ha pins s1 σ H1 _ I1 q) fun ov s2 ⟨x,H2,I2,rx,a,d,fs,ex,ea,ed,ne,hl,q2⟩=>?_) hs
 subst ex
 cases (show ov=Value.ref a from rx)
 exact xset2_ok I2 ea ed ne hl Z ry fun s3 I3=>⟨σ,_,I3,q2⟩
end
noncomputable def spX2 (C:Addr) (f1 f2:Str):Sp:=fun vs H Q _=>∃a v1 v2,vs=[.ref a,v1,v2]/\H a=some (XO a C none)/\∀d,H d=none->d≠a->Q .non (upd (upd H d (XD d [(f1,v1),(f2,v2)])) a (XO a C (some d)))
theorem upd_mid {H:Hp} {a d:Addr} {x y z:HO} (h:d≠a):upd (upd (upd H d x) a y) d z=upd (upd H d z) a y:=by
 funext b
 by_cases hd:b=d
 ·subst hd;rw [aq,ar h,aq]
 ·rw [ar hd]
  by_cases ha:b=a
  ·subst ha;rw [aq,aq]
  ·rw [ar ha,ar ha,ar hd,ar hd]
theorem upd_low {H:Hp} {a d:Addr} {x y z:HO}:upd (upd (upd H a x) d y) a z=upd (upd H d y) a z:=by
 funext b
 by_cases ha:b=a
 ·subst ha;rw [aq,aq]
 ·rw [ar ha,ar ha]
  by_cases hd:b=d
  ·subst hd;rw [aq,aq]
  ·rw [ar hd,ar hd,ar ha]
theorem fn_at {K:PySem.W.Frag} {h:Heap} {f:Addr} (X:K.In h) (e:typeIn K (.ref f)=some (.type "function")):∃o,h.get? f=some o/\o.cls=.type "function":=by
 unfold typeIn at e
 cases q:K.lookup f with
 |none=>simp only [q] at e;cases e
 |some o=>
  simp only [q] at e
  exact ⟨o,X _ _ q,by simpa using e⟩
section
variable {X:Cx} {pins:List (Addr×Obj)} {σ:St} {H:Hp} {s:Shared} {k:Nat} {f C:Addr} {fd:FuncData} {ps:List Str} {f1 f2:Str} {us:List Value} {v1 v2:V} {B newId initId:String} {bmB:List Value}
theorem new_x (FB:ExcBaseFacts B newId initId bmB) (hC:oQ X.K C bmB newId f=true) (hf:typeIn X.K (.ref f)=some (.type "function")) (F:cu X.prog X.w X.K X.mg X.base CX0 k f fd ps (spX2 C f1 f2)) (hr:jk (k+1) X.A) (hb:Binds X.K fd ps [])
  (I:Inv X pins σ H s) (r:Vals [v1,v2] us):wpAny (model X.prog X.w) X.A (call (.ref C) us) (fun v s'=>∃a d,v=.ref a/\s.heap.objs.size<=a/\H a=none/\H d=none/\d≠a/\Inv X pins σ (upd (upd H d (XD d [(f1,v1),(f2,v2)])) a (XO a C (some d))) s') X.xe s:=by
 obtain ⟨tl,N,nm,qn,bs,hdct,sn,sub,ab,col,dd,k0,k1,k2,k3,k5,mN,o1,o2,o3,o4⟩:=sW I.kIn hC
 obtain ⟨oI,i1,i2⟩:=fn_at I.kIn hf
 obtain ⟨hh,gg,dr,tk,os⟩:=s
 have hz:=sizeLine_eq
 have hl:us.length<=sizeLine:=by rw [<- r.length];show 2<=sizeLine;omega
 refine x_call FB o4 o1 o2 o3 i1 i2 hl ?_
 have nw:(se hh C us).get? (hh.objs.size+1)=some (zh C hh.objs.size):=tP
 have J:Inv X pins σ (upd H (hh.objs.size+1) (XO (hh.objs.size+1) C none)) {(⟨hh,gg,dr,tk,os⟩:Shared) with heap:=se hh C us,toks:=tk}:=
  I.laid (fun b u q=>pq q) (Nat.le_succ _) (xo_ok (vs:=#[.ref hh.objs.size,.none,.none,.none,.bool false,.none]) rfl nw)
 have fa:H (hh.objs.size+1)=none:=I.hok.fresh (Nat.le_succ _)
 have w:Vals [V.ref (hh.objs.size+1),v1,v2] (Value.ref (hh.objs.size+1)::us++[]):=by rw [List.append_nil];exact .cons rfl r
 have q:spX2 C f1 f2 [V.ref (hh.objs.size+1),v1,v2] (upd H (hh.objs.size+1) (XO (hh.objs.size+1) C none)) (fun v H2=>v=.non/\∃d,H d=none/\d≠hh.objs.size+1/\H2=upd (upd H d (XD d [(f1,v1),(f2,v2)])) (hh.objs.size+1) (XO (hh.objs.size+1) C (some d))) (fun _ _ _=>False):=
  ⟨_,v1,v2,rfl,aq,fun d hd ne=>⟨rfl,d,by rw [ar ne] at hd;exact hd,ne,upd_low⟩⟩
 have n:(Value.ref (hh.objs.size+1)::us++[]).length=ps.length:=w.length.symm.trans (F.len _ _ _ _ q)
 refine wpAny_call (codeAny_mono (F.run _ X.stack _ _ ⟨.ref (hh.objs.size+1)::us,[]⟩ _ _ _ (fun _ _ _=>False) (hr.make C us []) (J.env0.make C us []) (hb _ (.ref (hh.objs.size+1)::us) J.kIn n) w q) fun z s' hq=>?_)
 cases z with
 |error e=>exact (show False from hq).elim
 |ok fl=>
  cases fl with
  |ret u=>
   obtain ⟨v,H',J3,rv,ev,d,h1,h2,h3⟩:=J.after hq
   subst ev h3
   exact ⟨rv,_,d,rfl,Nat.le_succ _,fa,h1,h2,J3⟩
  |_=>exact False.elim hq
end
theorem vt {M:Model} {A:Around} {E:Value->Shared->Prop} {env:Env} {nm q:Str} {C N:Addr} {bs tl:List Value} {hdct:Bool} {sn:List Str} {sub:List Value} {ab:Bool} {col:Option Bool} {dd:Option Addr} {k0 k1 k2 k3 k5:Option Value} {newId:String}
  {s:Shared} {x:Sem Value} {Q:Flow->Shared->Prop} (hB:tl.contains (.type "BaseException")=true) (hh:A.handled=none)
  (z:wpAny M A x (fun v s₁=>∃e oe,v=.ref e/\s₁.heap.get? C=some (excClassObj nm q C N bs tl hdct sn sub ab col dd k0 k1 k2 k3 k5 newId)/\s₁.heap.get? e=some oe/\oe.cls=.ref C/\(∃vs,oe.data=.fields vs/\vs[1]? =some .none)/\E (.ref e) s₁) E s) :
  wpAny M A
    (raiseStmt env (some x) none) Q E s:=by
 have cB:(Value.ref C::tl).contains (.type "BaseException")=true:=by rw [List.contains_cons,hB,Bool.or_true]
 unfold raiseStmt
 refine wpAny_bind (thn z fun v s₁ h₁=>?_)
 obtain ⟨e,oe,rfl,hC,he,hc,⟨vs,hd,hv1⟩,hE⟩:=h₁
 obtain ⟨oc,odi,oda,osl⟩:=oe
 dsimp only at hc hd
 subst hc hd
 obtain ⟨hp,g,d,tk,os⟩:=s₁;repeat (first|(with_reducible refine wpAny_isSubtype_exc hC ?_;rw [cB])|with_reducible refine wpAny_loadPart_at he ?_|with_reducible refine wpAny_loadPart_at hC ?_|wp_step)
 rw [hv1]
 refine wpAny_pure ?_
 rw [if_neg (by decide)]
 exact wpAny_pure (wpAny_raiseNew_none hh hE)
noncomputable def XEq2 (X:Cx) (E:XK) (C:Addr):Prop:=∀(pins:List (Addr×Obj)) (σ:St) (H:Hp) (s':Shared) (a d:Addr),Inv X pins σ H s'->ExA s'.heap a (.ref C) (some d) none->X.s₀.heap.get? a=none->H a=none->E (.ref C) (some d) H->X.xe (.ref a) s'
noncomputable def tRaise2 (t:TA) (C:Addr) (f1 f2:Str) (E:XK):TS:=fun _ σ H=>t σ H fun vs H1=>∃v1 v2,vs=[v1,v2]/\∀d,H1 d=none->E (.ref C) (some d) (upd H1 d (.xd [(f1,v1),(f2,v2)]))
section
variable {X:Cx} {E:XK} {C f:Addr} {x:Str} {e1 e2:Expr} {t:TA} {np cpos pos:Pos} {k:Nat} {fd:FuncData} {ps:List Str} {f1 f2:Str} {B newId initId:String} {bmB:List Value}
theorem zU (FB:ExcBaseFacts B newId initId bmB) (hx:XEq2 X E C) (hC:oQ X.K C bmB newId f=true) (hf:typeIn X.K (.ref f)=some (.type "function")) (hk:keepIn X.K (.ref C)=true) (F:cu X.prog X.w X.K X.mg X.base CX0 k f fd ps (spX2 C f1 f2)) (hr:jk (k+1) X.A) (hb:Binds X.K fd ps [])
  (hm:X.mg x=some (.ref C)) (ha:PA X [e1,e2] t) (hg:Gl X x:=by rfl) (hdb:(x==("__debug__":Str))=false:=by decide) (hst:starEach [e1,e2] X.env=(false,eval e1 X.env)::starEach [e2] X.env:=by rfl) (hpl:(backTo cpos (starEach [e2] X.env)).any (·.1)=false:=by rfl) :
  PS X (.Raise (some (.Call (.Name x np) [e1,e2] [] cpos)) none pos) (tRaise2 t C f1 f2 E):=by
 intro pins s σ H D I h
 obtain ⟨tl,N,nm,qn,bs,hdct,sn,sub,ab,col,dd,k0,k1,k2,k3,k5,mN,o1,o2,o3,o4⟩:=sW I.mod.kin hC
 rw [arm_exec_Raise]
 refine wpAny_bind (wpAny_standAt (vt (C:=C) (nm:=nm) (q:=qn) (N:=N) (bs:=bs) (tl:=tl) (hdct:=hdct) (sn:=sn) (sub:=sub) (ab:=ab) (col:=col) (dd:=dd) (k0:=k0) (k1:=k1) (k2:=k2) (k3:=k3) (k5:=k5) (newId:=newId) (o4.hasType FB.hasBase) hr.hd (wpAny_bind (thn ?_ fun v s₃ h₃=>wpAny_bind (wpAny_standAt (wpAny_pure h₃))))))
 refine wpAny_Call_Name_kw (ka I hg hm (callWith_K (h₀:=X.base) I.ok.mod.kin hk (thn (ha cpos pins s σ H _ I h) fun us s1 ⟨vs,H1,I1,r,q1⟩=>⟨I1.kIn,?_⟩) hst hpl) hdb)
 obtain ⟨v1,v2,rfl,q1⟩:=q1
 refine thn (new_x FB hC hf F hr hb I1 r) fun v s2 ⟨a,d,ev,hn,fa,fd',ne,J⟩=>?_
 subst ev
 obtain ⟨vs,w1,he⟩:=zf (J.hok a _ aq)
 have dd':upd (upd H1 d (XD d [(f1,v1),(f2,v2)])) a (XO a C (some d)) d=some (XD d [(f1,v1),(f2,v2)]):=by rw [ar ne];exact aq
 have J2:Inv X pins σ (upd H1 d (.xd [(f1,v1),(f2,v2)])) {s2 with heap:=s2.heap,toks:=s2.toks}:=by
  refine J.turn (fun b=>b=a\/b=d) (fun b o _ q=>q) (fun b nb=>?_) (fun b hb=>?_) (fun b o _ q=>⟨o,q⟩) fun b o hb q=>?_
  ·rw [ar fun z=>nb (.inr z),ar fun z=>nb (.inl z),ar fun z=>nb (.inr z)]
  ·rcases hb with rfl|rfl
   ·exact .inl ⟨_,aq⟩
   ·exact .inl ⟨_,dd'⟩
  ·rcases hb with rfl|rfl
   ·rw [ar (Ne.symm ne),fa] at q;cases q
   ·rw [aq] at q;cases q
    obtain ⟨mA,n1,n2,_⟩:=xd_get (J.hok _ _ dd')
    exact ⟨mA,n1,n2⟩
 refine ⟨a,_,rfl,J.bk _ _ o1,he,rfl,⟨vs,rfl,w1⟩,hx pins σ _ s2 a d J2 ⟨⟨_,vs,he,rfl,rfl,rfl,w1⟩,fun T hT=>nomatch hT⟩ (get_none (Nat.le_trans I1.sz hn)) (by rw [ar (Ne.symm ne)];exact fa) (q1 d fd')⟩
end
section
variable {P:Program} {w:World} {K:PySem.W.Frag} {mg:Str->Option Value} {base:Heap} {N:List Str} {qual:Str} {scope:Scope} {f:Addr} {cd:Value} {A:Around} {outer:List Env} {s:Shared} {H:Hp} {E:XK} {C:Addr}
theorem xeqD2:XEq2 (AU (CXd P w) P w K mg base N qual scope f cd A outer s H E) E C:=fun _ _ _ _ _ _ J x na fa q=>xe_of J x na (fun T hT=>nomatch hT) fa q
end
noncomputable def xRes (C:Addr) (f1 f2:Str):List Dat->M Flo
 |[a,b]=>.error (.exc C [(f1,a),(f2,b)])
 |_=>.error .stuck
noncomputable def yq (C:Addr) (f1 f2:Str) (fr:af->M (List Dat)):af->M Flo:=fun ρ=>(fr ρ).bind (xRes C f1 f2)
@[simp] theorem e_sExc2 (C:Addr) (f1 f2:Str) (fr:af->M (List Dat)) (ρ:af):yq C f1 f2 fr ρ=(fr ρ).bind (xRes C f1 f2):=id rfl
@[simp] theorem e_xRes (C:Addr) (f1 f2:Str) (a b:Dat):xRes C f1 f2 [a,b]=.error (.exc C [(f1,a),(f2,b)]):=id rfl
section
variable {K:PySem.W.Frag} {X:Cx} {ro:Bool} {OL O O':List Nat} {E:XK} {C f:Addr} {x:Str} {e1 e2:Expr} {fr:af->M (List Dat)} {np cpos pos:Pos} {k:Nat} {fd:FuncData} {ps:List Str} {f1 f2:Str} {B newId initId:String} {bmB:List Value}
theorem AL (FB:ExcBaseFacts B newId initId bmB) (hx:XEq2 X E C) (hC:oQ X.K C bmB newId f=true) (hf:typeIn X.K (.ref f)=some (.type "function")) (hk:keepIn X.K (.ref C)=true) (F:cu X.prog X.w X.K X.mg X.base CX0 k f fd ps (spX2 C f1 f2)) (hr:jk (k+1) X.A) (hb:Binds X.K fd ps [])
  (hm:X.mg x=some (.ref C)) (ha:DA K (WE K E) X [e1,e2] fr) (hg:Gl X x:=by rfl) (hdb:(x==("__debug__":Str))=false:=by decide) (hst:starEach [e1,e2] X.env=(false,eval e1 X.env)::starEach [e2] X.env:=by rfl) (hpl:(backTo cpos (starEach [e2] X.env)).any (·.1)=false:=by rfl) :
  DS K (WE K E) ro X OL O O' (.Raise (some (.Call (.Name x np) [e1,e2] [] cpos)) none pos) (yq C f1 f2 fr):=fun F0 H0=>PS.imp (zU FB hx hC hf hk F hr hb hm ha hg hdb hst hpl) fun D σ H ⟨FB',F,ρ,r,p⟩=>by
 have rf:=r.freeze (O2:=[]) (by simp)
 refine nX r.pF r.l6 (fun e he=>p.qM rf.st (by unfold yq;rw [he];rfl)) fun ds hd vs F1 H1 s1 q=>?_
 have ez:yq C f1 f2 fr ρ=xRes C f1 f2 ds:=by unfold yq;rw [hd];rfl
 rw [ez] at p
 rcases ds with _|⟨a,_|⟨b,_|⟨_,_⟩⟩⟩
 ·exact ((WE K E).ns p).elim
 ·exact ((WE K E).ns p).elim
 rotate_left
 ·exact ((WE K E).ns p).elim
 ·obtain ⟨w1,vs1,rfl,q1,w2,vs2,rfl,q2,hn⟩:=q
  cases (show vs2=[] from hn)
  refine ⟨w1,w2,rfl,fun d hd'=>?_⟩
  have st:=rf.st.trans s1
  have nf:F1 d=none:=s1.fh.free hd'
  have ff:b0 F1 (upd F1 d (.xd [(f1,w1),(f2,w2)])):=b0.upd nf
  have st2:Step F1 H1 (upd F1 d (.xd [(f1,w1),(f2,w2)])) (upd H1 d (.xd [(f1,w1),(f2,w2)])):=by
   refine ⟨ff,fun c o e=>by rw [ar (aL e hd')];exact e,fun c o e=>?_,fun c o e=>?_⟩
   ·by_cases hc:c=d
    ·subst hc;rw [aq] at e ⊢;exact e
    ·rw [ar hc] at e ⊢;exact s1.fh c o e
   ·by_cases hc:c=d
    ·subst hc;exact .inr hd'
    ·rw [ar hc] at e;exact .inl e
  exact p _ _ (st.trans st2) d _ aq ⟨w1,_,rfl,cf.mono ff q1,w2,[],rfl,cf.mono ff q2,rfl⟩
end
end L2
namespace L2
open PySem PySem.Spec PyProof.Rows
noncomputable def zx (i:Nat) (a d:Addr) (f:Str):TE:=fun σ H Q=>σ[i]? =some (some (.ref a))/\∃gs v,H d=some (.xd gs)/\gs.lookup f=some v/\Q v H
section
variable {X:Cx} {C a d:Addr} {oe:Obj} {B:String} {bmB:List Value} {i:Nat} {n f:Str} {p1 pos:Pos}
theorem zZ (FB:ExcAttrBase B bmB) (Z:zc X.K C) (Y:tL X.K C f) (hc:oe.cls=.ref C) (hd:∃vs,oe.data=.fields vs) (hx:oe.dict=some d)
  (hN:X.N[i]? =some n:=by rfl) (hv:Vis X.env.scope n:=by first|exact Or.inl rfl|exact Or.inr (Or.inl rfl)|exact Or.inr (Or.inr rfl)) (hd1:(n==("__debug__":Str))=false:=by decide) (hd2:(n==("__classdict__":Str))=false:=by decide)
  (hb:attributeBase (.Name n p1) f X.env (eval (.Name n p1) X.env)=eval (.Name n p1) X.env:=by rfl):PE (X.hand a oe) (.Attribute (.Name n p1) f pos) (zx i a d f):=by
 intro pins s σ H Q I h
 obtain ⟨e1,gs,v,hg,hl,q⟩:=h
 refine Bd (env:=(X.hand a oe).env) hb (thn (pv (X:=X.hand a oe) i hN hv hd1 hd2 pins s σ H (fun x H1=>x=.ref a/\H1=H) I ⟨.ref a,e1,rfl,rfl⟩) fun u s1 ⟨x,H1,I1,rx,ex,eH⟩=>?_)
 subst ex eH
 cases (show u=Value.ref a from rx);have pa:=(I1.pin (a,oe) (List.mem_cons_self ..)).1
 obtain ⟨mA,n1,r⟩:=(show dv X.prog X.w H1 s1.heap d (.xd gs) from I1.hok d _ hg)
 obtain ⟨od,ho,hlk⟩:=uD n1
 obtain ⟨u',hu,ru⟩:=tM.some_of (v:=v) (o:=mA f) (by rw [<- hl];exact r f)
 obtain ⟨vs,hdt⟩:=hd
 have J:PySem.W.InstAt s1.heap a oe C (some od):=⟨pa,hc,by unfold PySem.W.notCls;rw [hdt],by rw [hx];exact ho⟩
 exact x_get FB I1.kIn J Z Y (by rw [hlk,hu]) (uH ru) ⟨v,H1,I1.tok _,ru,q⟩
end
noncomputable def pC (O:List Nat) (C:Addr) (fb:af->M Flo) (fx:List (Str×Dat)->af->M af):af->M Flo:=fun ρ=>match fb (erase O ρ) with
 |.ok fl=>.ok fl
 |.error (.exc C' (f::fs))=>if C'=C then (fx (f::fs) ρ).bind fun ρ'=>.ok (.nx ρ') else .error .stuck
 |.error _=>.error .stuck
theorem AH {O:List Nat} {C:Addr} {fb:af->M Flo} {fx:List (Str×Dat)->af->M af} {ρ:af} {fl:Flo} (h:fb (erase O ρ)=.ok fl):pC O C fb fx ρ=.ok fl:=by unfold pC;rw [h]
theorem rE {O:List Nat} {C:Addr} {fb:af->M Flo} {fx:List (Str×Dat)->af->M af} {ρ:af} {f:Str×Dat} {fs:List (Str×Dat)} (h:fb (erase O ρ)=.error (.exc C (f::fs))):pC O C fb fx ρ=(fx (f::fs) ρ).bind fun ρ'=>.ok (.nx ρ'):=by unfold pC;rw [h];exact if_pos rfl
section
variable {K:PySem.W.Frag} {ro:Bool} {F0 H0:Hp} {OL O:List Nat} {D:Ends} {σ:St} {H:Hp} {C:Addr} {i:Nat} {fb:af->M Flo} {fx:List (Str×Dat)->af->M af} {ts:Addr->Option Addr->TS}
theorem rs_tryF (hS:∀(a d:Addr) (gs:List (Str×V)) (fs:List (Str×Dat)) (FB F H:Hp) (ρ:af),Rep K F0 H0 FB O F H σ ρ->F d=some (.xd gs)->nR K F fs gs->kD K Wno ro F0 H0 FB OL O D ((fx fs ρ).bind fun ρ'=>.ok (.nx ρ'))->ts a (some d) (D.less i) (σ.set i (some (.ref a))) H)
  (t:tS K Wno ro F0 H0 OL O O (pC O C fb fx) D σ H):tTry (fun E D σ H=>∃F1 H1,tS K (WE K E) ro F1 H1 OL [] O fb D σ H) i C ts D σ H:=by
 obtain ⟨FB,F,ρ,r,p⟩:=t
 have re:=r.nu
 refine ⟨F,H,FB,F,erase O ρ,⟨Step.refl r.st.fh,r.fb,re.len,fun m d e _=>re.sl m d e,(fun m d e h=>nomatch h),(fun m n d1 d2 c h=>nomatch h)⟩,?_⟩
 cases e:fb (erase O ρ) with
 |ok fl=>
  rw [AH e] at p
  cases fl with
  |nx ρ'=>exact fun σ' F' H' r'=>p σ' F' H' (r'.back r.st)
  |rt d=>exact fun v F' H' s' q=>p v F' H' (r.st.trans s') (q.back r.st.hh)
  |bk ρ'=>exact fun σ' F' H' r'=>p σ' F' H' (r'.back r.st)
  |ct ρ'=>exact fun σ' F' H' r'=>p σ' F' H' (r'.back r.st)
 |error x=>
  cases x with
  |stuck=>exact p.stuck (by unfold pC;rw [e])
  |exc C' fs=>
   cases fs with
   |nil=>exact p.stuck (by unfold pC;rw [e])
   |cons f fs=>
    by_cases hc:C'=C
    ·subst hc
     rw [rE e] at p
     exact fun F' H' s' d gs hd df=>⟨rfl,fun a _=>hS a d gs _ FB F' H' ρ (r.step s') hd df p⟩
    ·exact p.stuck (by unfold pC;rw [e];exact if_neg hc)
end
section
variable {X:Cx} {K:PySem.W.Frag} {ro:Bool} {OL O:List Nat} {C:Addr} {c n:Str} {i:Nat} {np hpos pos:Pos} {b₀:Stmt} {body suite:List Stmt} {ts:Addr->Option Addr->TS} {bmB:List Value} {fb:af->M Flo} {fx:List (Str×Dat)->af->M af}
theorem ds_tryF (hb:∀(pins:List (Addr×Obj)) (σ:St) (E:XK) (xe:Value->Shared->Prop),m6 (CXd X.prog X.w) (X.tK xe) pins σ E->DSat K E ro (X.tK xe) OL [] O pins σ body fb)
  (hs:∀(a:Addr) (oe:Obj),oe.cls=.ref C->(∃vs,oe.data=.fields vs)->PSs (X.hand a oe) (b₀::suite) (ts a oe.dict))
  (hS:∀(F0 H0:Hp) (D:Ends) (σ:St) (a d:Addr) (gs:List (Str×V)) (fs:List (Str×Dat)) (FB F H:Hp) (ρ:af),σ.length=X.N.length->Rep K F0 H0 FB O F H σ ρ->F d=some (.xd gs)->nR K F fs gs->kD K Wno ro F0 H0 FB OL O D ((fx fs ρ).bind fun ρ'=>.ok (.nx ρ'))->ts a (some d) (D.less i) (σ.set i (some (.ref a))) H)
  (hC:vf X.K C bmB) (hB:bmB.contains (.type "BaseException")=true) (hm:X.mg c=some (.ref C)) (hN:X.N.Nodup) (hi:X.N[i]? =some n:=by rfl) (hk:X.env.scope.names.lookup n=some .local:=by rfl)
  (hg:Gl X c:=by rfl) (hex:X.ex=[]:=by rfl) (hstk:X.stack=X.env::X.outer:=by rfl) (hfr:X.env.frame=some X.env.locals:=by rfl) (hdb:(c==("__debug__":Str))=false:=by decide) :
  DS K Wno ro X OL O O (.Try body [.ExceptHandler (some (.Name c np)) (some n) (b₀::suite) hpos] [] [] pos) (pC O C fb fx):=fun F0 H0 pins s σ H D I z=>
 ps_try (tb:=fun E D σ H=>∃F1 H1,tS K (WE K E) ro F1 H1 OL [] O fb D σ H) (fun pins σ E xe hp s H D I ⟨F1,H1,q⟩=>hb pins σ E xe hp F1 H1 s H D I q) hs hC hB hm hN hi hk hg hex hstk hfr hdb pins s σ H D I (rs_tryF (fun a d gs fs FB F H ρ r h1 h2 p=>hS F0 H0 D σ a d gs fs FB F H ρ I.len r h1 h2 p) z)
end
section
variable {K:PySem.W.Frag} {ro:Bool} {F0 H0 FB F H:Hp} {OL O:List Nat} {D:Ends} {σ:St} {ρ:af} {i j:Nat} {a d:Addr} {gs:List (Str×V)} {fs:List (Str×Dat)} {f1 f2:Str}
theorem Rep.told {ds:List Dat} {vs:List V} {l:Addr} (r:Rep K F0 H0 FB O F H σ ρ) (hij:i≠j) (hi:i<σ.length) (hj:j<σ.length) (hiO:i∉O) (hjO:j∉O) (hl:H l=none) (df:aB K F ds vs) :
  Rep K F0 H0 FB O (upd F l (.lst vs)) (upd H l (.lst vs)) (((σ.set i (some (.ref a))).set j (some (.ref l))).set i none) ((ρ.set j (some (.lst ds))).set i none):=by
 have hlF:F l=none:=r.st.fh.free hl
 have ff:b0 F (upd F l (.lst vs)):=b0.upd hlF
 have st:Step F H (upd F l (.lst vs)) (upd H l (.lst vs)):=by
  refine ⟨ff,fun c o e=>by rw [ar (aL e hl)];exact e,fun c o e=>?_,fun c o e=>?_⟩
  ·by_cases hc:c=l
   ·subst hc;rw [aq] at e ⊢;exact e
   ·rw [ar hc] at e ⊢;exact r.st.fh c o e
  ·by_cases hc:c=l
   ·subst hc;exact .inr hl
   ·rw [ar hc] at e;exact .inl e
 have r2:=r.step st
 have out:∀m,m≠i->m≠j->(((σ.set i (some (.ref a))).set j (some (.ref l))).set i none)[m]? =σ[m]?:=fun m h1 h2=>by
  rw [List.getElem?_set_ne (Ne.symm h1),List.getElem?_set_ne (Ne.symm h2),List.getElem?_set_ne (Ne.symm h1)]
 have outR:∀m,m≠i->m≠j->((ρ.set j (some (.lst ds))).set i none)[m]? =ρ[m]?:=fun m h1 h2=>by
  rw [List.getElem?_set_ne (Ne.symm h1),List.getElem?_set_ne (Ne.symm h2)]
 have noi:∀dd,((ρ.set j (some (.lst ds))).set i none)[i]?≠some (some dd):=fun dd e=>by
  rw [List.getElem?_set_self (by rw [List.length_set,r.len];exact hi)] at e
  cases e
 refine ⟨r2.st,r2.fb,by simp only [List.length_set];exact r.len,fun m dd e hm=>?_,fun m dd e hm=>?_,fun m n d1 d2 c hm hn e1 e2 e3 e4=>?_⟩
 ·by_cases h1:m=i
  ·subst h1;exact (noi _ e).elim
  ·by_cases h2:m=j
   ·subst h2
    rw [List.getElem?_set_ne (Ne.symm h1),List.getElem?_set_self (by rw [r.len];exact hj)] at e
    cases e
    refine ⟨.ref l,by rw [List.getElem?_set_ne (Ne.symm h1),List.getElem?_set_self (by rw [List.length_set];exact hj)],l,vs,rfl,SqL.of aq,aB.mono ff df⟩
   ·rw [outR m h1 h2] at e
    rw [out m h1 h2]
    exact r2.fz m dd e hm
 ·have h1:m≠i:=fun z=>hiO (z▸hm)
  have h2:m≠j:=fun z=>hjO (z▸hm)
  rw [outR m h1 h2] at e
  rw [out m h1 h2]
  exact r2.ow m dd e hm
 ·have h1:m≠i:=fun z=>hiO (z▸hm)
  have h2:m≠j:=fun z=>hjO (z▸hm)
  have h3:n≠i:=fun z=>hiO (z▸hn)
  have h4:n≠j:=fun z=>hjO (z▸hn)
  rw [outR m h1 h2] at e1
  rw [outR n h3 h4] at e2
  rw [out m h1 h2] at e3
  rw [out n h3 h4] at e4
  exact r2.ap m n d1 d2 c hm hn e1 e2 e3 e4
end
end L2
namespace L2
open PySem PySem.Spec PyProof.Rows
section
variable {K:PySem.W.Frag} {W:gC} {X:Cx} {ro:Bool} {OL O O':List Nat}
theorem ps_nox {st:Stmt} {t:TS} (h:PS X.nox st t):PS X st t:=fun pins s σ H D I z=>wpAny_mono (h pins s σ H D (I.tK _) z) (fun _ _ q=>q.kU) fun _ _ y=>(show False from y).elim
theorem pe {st:Stmt} {g:af->M Flo} (h:DS K Wno ro X.nox OL O O' st g):DS K W ro X OL O O' st (fNoX g):=fun F0 H0=>PS.imp (ps_nox (h F0 H0)) fun D σ H ⟨FB,F,ρ,r,p⟩=>by
 refine ⟨FB,F,ρ,r,?_⟩
 have p:kD K W ro F0 H0 FB OL O' D (noX (g ρ)):=p
 unfold kD at p ⊢
 cases e:g ρ with
 |ok fl=>
  rw [e] at p
  cases fl<;>exact p
 |error x=>rw [e] at p;exact (W.ns p).elim
end
structure XMk (K:PySem.W.Frag) (mg:Str->Option Value) (x:Str) (C f:Addr):Prop where
 mg:mg x=some (.ref C)
 ex:oQ K C [.type "ValueError",.type "Exception",.type "BaseException",.type "object"] "ValueError.__new__" f=true
 fn:typeIn K (.ref f)=some (.type "function")
 kp:keepIn K (.ref C)
   =true
structure XTry (K:PySem.W.Frag) (mg:Str->Option Value) (x:Str) (C:Addr):Prop where
 mg:mg x=some (.ref C)
 nm:vf K C [.type "ValueError",.type "Exception",.type "BaseException",.type "object"]
 isi:zc K C
end L2
namespace L2
open PySem PySem.Spec PyProof.Rows
noncomputable def isK (k:Int):Value->Bool
 |.int i _=>i==k
 |_=>false
section
variable {X:Cx} {K:PySem.W.Frag} {W:gC}
theorem qW:∀{is:List Int} {us:List Value},Vals (is.map V.int) us->∀(m:Nat) (i:Int),is[m]? =some i->∃t,us[m]? =some (.int i t)
 |[],_,_,m,i,h=>by simp at h
 |a::is,_,.cons r rs,0,i,h=>by
  obtain ⟨t,e⟩:=(show ∃t,_=Value.int a t from r)
  simp at h
  subst h e
  exact ⟨t,rfl⟩
 |a::is,_,.cons r rs,m+1,i,h=>by simpa using qW rs m i (by simpa using h)
variable {o e:Expr} {fo fe:af->M Dat} {apos cpos:Pos}
end
end L2
namespace L2
open PySem PySem.Spec PyProof.Rows
noncomputable def xD:Dat->M Dat
 |.str _=>.ok (.bl true)
 |.ins _ _=>stk
 |_=>.ok (.bl false)
section
variable {X:Cx} {K:PySem.W.Frag} {W:gC} {own:Bool} {a:Expr} {fa:af->M Dat} {pos p p2:Pos}
theorem B9 (kit:Kit K) (hK:X.K=K:=by rfl):dQ X (.builtin "isinstance") (fun xs H Q=>∃v,xs=[v,.ty "str"]/\rD1 K W own xD v H Q):=by
 subst hK
 intro pins s σ H xs us Q I r h;obtain ⟨v,rfl,F,d,s1,q,p⟩:=h
 obtain ⟨u,w,rfl,ru,rw'⟩:=r.two
 cases (show w=Value.type "str" from rw')
 by_cases hi:∃C fs,d=.ins C fs
 ·obtain ⟨C,fs,rfl⟩:=hi
  exact aH.stuck p
 ·refine Av I s1 q ru kit.l4 kit.jy kit.ju kit.i8 kit.l0 kit.dC (fun k tk hk=>⟨.bl k,H,I.tok tk,rfl,?_⟩) (fun C fs e=>hi ⟨C,fs,e⟩)
  cases d<;>first|(have hk':k=_:=hk;subst hk';exact aH.bl (own:=own) p s1)|exact absurd ⟨_,_,rfl⟩ hi
theorem de_isi_str (kit:Kit K) (hm:X.mg "isinstance"=none) (hmT:X.mg "str"=none) (ha:DE K W false X a fa) (hK:X.K=K:=by rfl)
  (hg:Gl X "isinstance":=by rfl) (hgT:Gl X "str":=by rfl)
  (hst:starEach [a,.Name "str" p2] X.env=[(false,eval a X.env),(false,eval (.Name "str" p2) X.env)]:=by rfl) (hst2:starEach [.Name "str" p2] X.env=[(false,eval (.Name "str" p2) X.env)]:=by rfl) (hpl:(backTo pos (starEach [.Name "str" p2] X.env)).any (·.1)=false:=by rfl) :
  DE K W own X (.Call (.Name "isinstance" p) [a,.Name "str" p2] [] pos) (f1 xD fa):=uS (B9 kit hK) hm hmT (by decide +kernel) ha hg hgT (by decide) (by decide) hst hst2 hpl
end
end L2
namespace L2
open PySem PySem.Spec PyProof.Rows
noncomputable def rIsi (K:PySem.W.Frag) (C a:Addr) (R:Hp->Prop):List V->Hp->VK->Prop:=fun xs H Q=>R H/\∃v b,xs=[.ref a,v] /\
  ((∃c,RelV v c/\(∀u,RelV v u->u=c)/\kitOne K (.ref C) c=some b)\/∃(tp:Addr) (ys:List Addr),v=.ref tp/\H tp=some (.tup (ys.map V.ref))/\kitAny K (.ref C) (ys.map Value.ref)=some b)/\Q (.bl b) H
noncomputable def XDk (d:Addr):Hp->Prop:=fun H=>∃gs,H d=some (.xd gs)
noncomputable def tIsiR (i:Nat) (a:Addr) (R:Hp->Prop) (b:Bool):TE:=fun σ H Q=>σ[i]? =some (some (.ref a))/\R H/\Q (.bl b) H
noncomputable def tIsiTR (i:Nat) (a:Addr) (R:Hp->Prop) (ys:List Addr) (b:Bool):TE:=fun σ H Q=>σ[i]? =some (some (.ref a))/\∀p,H p=none->R (upd H p (.tup (ys.map V.ref)))/\Q (.bl b) (upd H p (.tup (ys.map V.ref)))
section
variable {X:Cx} {C a d D:Addr} {oe:Obj} {B:String} {bmB:List Value} {R:Hp->Prop}
theorem c_isiD (FB:ExcAttrBase B bmB) (Z:zc X.K C) (hc:oe.cls=.ref C) (hd:∃vs,oe.data=.fields vs) (hx:oe.dict=some d):dQ (X.hand a oe) (.builtin "isinstance") (rIsi X.K C a (XDk d)):=by
 intro pins s σ H xs us Q I r h;obtain ⟨⟨gs,hg⟩,v,b,rfl,h1,q⟩:=h
 obtain ⟨u,w,rfl,ru,rw'⟩:=r.two
 cases (show u=Value.ref a from ru)
 have pa:=(I.pin (a,oe) (List.mem_cons_self ..)).1
 obtain ⟨vs,hdt⟩:=hd
 obtain ⟨mA,⟨od,es,ep,ho,hrest⟩,_⟩:=(show dv X.prog X.w H s.heap d (.xd gs) from I.hok d _ hg)
 have J:PySem.W.InstAt s.heap a oe C (some od):=⟨pa,hc,by unfold PySem.W.notCls;rw [hdt],by rw [hx];exact ho⟩
 rcases h1 with ⟨c,rc,uniq,e⟩|⟨tp,ys,rfl,ht,e⟩
 ·cases uniq w rw'
  exact kia_one (p8 FB Z) I.kIn J e (fun z=>nomatch z) fun tk=>⟨.bl b,H,I.tok tk,rfl,q⟩
 ·cases (show w=Value.ref tp from rw')
  obtain ⟨_,its,rv,ob,z1,z2⟩:=(show dv X.prog X.w H s.heap tp (.tup (ys.map V.ref)) from I.hok tp _ ht)
  obtain ⟨z3,n,z4⟩:=z2
  have ei:its=ys.map Value.ref:=su rv
  subst ei
  obtain ⟨oc,odd,odt,osl⟩:=ob
  have z5:oc=Value.type "tuple":=z3
  have z6:odt=.seq (ys.map Value.ref).toArray n:=z4
  subst z5 z6
  exact PySem.W.kia_tup (p8 FB Z) I.kIn J z1 e (fun z=>nomatch z) fun tk=>⟨.bl b,H,I.tok tk,rfl,q⟩
end
section
variable {X:Cx} {C a D:Addr} {oe:Obj} {R:Hp->Prop} {i:Nat} {n y:Str} {T:String} {p p1 p2 pos:Pos} {b:Bool} {ys:List Addr} {es:List Expr}
theorem pe_isO (hcr:dQ (X.hand a oe) (.builtin "isinstance") (rIsi X.K C a R)) (hm:X.mg "isinstance"=none) (hD:X.mg y=some (.ref D)) (hb:kitOne X.K (.ref C) (.ref D)=some b)
  (hN:X.N[i]? =some n:=by rfl) (hv:Vis X.env.scope n:=by first|exact Or.inl rfl|exact Or.inr (Or.inl rfl)|exact Or.inr (Or.inr rfl)) (hd1:(n==("__debug__":Str))=false:=by decide) (hd2:(n==("__classdict__":Str))=false:=by decide)
  (hg:Gl (X.hand a oe) "isinstance":=by rfl) (hgD:Gl (X.hand a oe) y:=by rfl) (hd3:(y==("__debug__":Str))=false:=by decide)
  (hst:starEach [.Name n p1,.Name y p2] X.env=[(false,eval (.Name n p1) X.env),(false,eval (.Name y p2) X.env)]:=by rfl) (hst2:starEach [.Name y p2] X.env=[(false,eval (.Name y p2) X.env)]:=by rfl) (hpl:(backTo pos (starEach [.Name y p2] X.env)).any (·.1)=false:=by rfl) :
  PE (X.hand a oe) (.Call (.Name "isinstance" p) [.Name n p1,.Name y p2] [] pos) (tIsiR i a R b):=by
 have vD:PE (X.hand a oe) (.Name y p2) (tC (.ref D)):=fun pins s σ H Q I h=>ka I hgD hD ⟨.ref D,H,I,rfl,h⟩ hd3
 refine PE.imp (fQ (X:=X.hand a oe) hcr hg hm boot_isinstance (b9 (pv i hN hv hd1 hd2) (b9 vD dE hst2) (by rw [hst,hst2])) (by decide) (by decide) (by rw [hst,hst2]) hpl) fun σ H Q h=>?_
 obtain ⟨e1,hR,q⟩:=h
 exact ⟨.ref a,e1,hR,.ref D,b,rfl,.inl ⟨.ref D,rfl,fun u hu=>hu,hb⟩,q⟩
theorem pe_isB (hcr:dQ (X.hand a oe) (.builtin "isinstance") (rIsi X.K C a R)) (hm:X.mg "isinstance"=none) (hmT:X.mg y=none) (hvT:bootBuiltins y=some (.type T)) (hb:kitOne X.K (.ref C) (.type T)=some b)
  (hN:X.N[i]? =some n:=by rfl) (hv:Vis X.env.scope n:=by first|exact Or.inl rfl|exact Or.inr (Or.inl rfl)|exact Or.inr (Or.inr rfl)) (hd1:(n==("__debug__":Str))=false:=by decide) (hd2:(n==("__classdict__":Str))=false:=by decide)
  (hg:Gl (X.hand a oe) "isinstance":=by rfl) (hgT:Gl (X.hand a oe) y:=by rfl) (hy:y≠"__name__":=by decide) (hd3:(y==("__debug__":Str))=false:=by decide)
  (hst:starEach [.Name n p1,.Name y p2] X.env=[(false,eval (.Name n p1) X.env),(false,eval (.Name y p2) X.env)]:=by rfl) (hst2:starEach [.Name y p2] X.env=[(false,eval (.Name y p2) X.env)]:=by rfl) (hpl:(backTo pos (starEach [.Name y p2] X.env)).any (·.1)=false:=by rfl) :
  PE (X.hand a oe) (.Call (.Name "isinstance" p) [.Name n p1,.Name y p2] [] pos) (tIsiR i a R b):=by
 refine PE.imp (fQ (X:=X.hand a oe) hcr hg hm boot_isinstance (b9 (pv i hN hv hd1 hd2) (b9 (A0 (X:=X.hand a oe) (pos:=p2) hgT hmT hvT hy hd3) dE hst2) (by rw [hst,hst2])) (by decide) (by decide) (by rw [hst,hst2]) hpl) fun σ H Q h=>?_
 obtain ⟨e1,hR,q⟩:=h
 exact ⟨.ref a,e1,hR,.ty T,b,rfl,.inl ⟨.type T,rfl,fun u hu=>hu,hb⟩,q⟩
theorem pe_isT {j} (hcr:dQ (X.hand a oe) (.builtin "isinstance") (rIsi X.K C a R)) (hm:X.mg "isinstance"=none) (hT:PA (X.hand a oe) es (tRefs ys)) (hl:ys.length<=sizeLine) (hb:kitAny X.K (.ref C) (ys.map Value.ref)=some b)
  (hN:X.N[i]? =some n:=by rfl) (hv:Vis X.env.scope n:=by first|exact Or.inl rfl|exact Or.inr (Or.inl rfl)|exact Or.inr (Or.inr rfl)) (hd1:(n==("__debug__":Str))=false:=by decide) (hd2:(n==("__classdict__":Str))=false:=by decide)
  (hg:Gl (X.hand a oe) "isinstance":=by rfl)
  (hst:starEach [.Name n p1,.Tuple es j p2] X.env=[(false,eval (.Name n p1) X.env),(false,eval (.Tuple es j p2) X.env)]:=by rfl) (hst2:starEach [.Tuple es j p2] X.env=[(false,eval (.Tuple es j p2) X.env)]:=by rfl) (hpl:(backTo pos (starEach [.Tuple es j p2] X.env)).any (·.1)=false:=by rfl) :
  PE (X.hand a oe) (.Call (.Name "isinstance" p) [.Name n p1,.Tuple es j p2] [] pos) (tIsiTR i a R ys b):=by
 refine PE.imp (fQ (X:=X.hand a oe) hcr hg hm boot_isinstance (b9 (pv i hN hv hd1 hd2) (b9 (xt hT) dE hst2) (by rw [hst,hst2])) (by decide) (by decide) (by rw [hst,hst2]) hpl) fun σ H Q h=>?_
 obtain ⟨e1,q⟩:=h
 exact ⟨.ref a,e1,by rw [List.length_map];exact hl,fun tp htp=>⟨(q tp htp).1,.ref tp,b,rfl,.inr ⟨tp,ys,rfl,aq,hb⟩,(q tp htp).2⟩⟩
end
end L2
namespace L2
open PySem PySem.Spec PyProof.Rows
end L2
namespace L2
open PySem PySem.Spec PyProof.Rows
structure Yd (P:Program) (w:World) (K:PySem.W.Frag) (mg:Str->Option Value) (base:Heap) (CX:CXT) (k:Nat) (x:Str) (st:Stmt) (ps:List Str) (sp:Sp) (f:Addr) (fd:FuncData):Prop where
 d:Def K mg x st ps f fd
 o:cu P w K mg base CX k f fd ps sp
end L2
namespace L2
open PySem PySem.Spec PyProof.Rows
section
open PySem.W
variable {M:Model} {A:Around} {E:Value->Shared->Prop} {h:Heap} {g:Array GenState} {d:Drawn} {t:Nat} {os:OsState} {a C Cb:Addr} {oe:Obj} {K:Frag}
end
structure XUnder (K:PySem.W.Frag) (C Cb:Addr):Prop where
 sub:PySem.W.mroIn K C (.ref Cb)=some true
 isi:zc K C
structure XBase (K:PySem.W.Frag) (mg:Str->Option Value) (x:Str) (Cb:Addr):Prop where
 mg:mg x=some (.ref Cb)
 ty:typeIn K (.ref Cb)=some (.type "type")
 bs:PySem.W.mroIn K Cb (.type "BaseException")=some true
noncomputable def XR:Option Addr->Hp->Prop
 |none=>fun _=>True
 |some d=>XDk d
section
variable {X:Cx} {C a:Addr} {oe:Obj} {B:String} {bmB:List Value}
theorem c_isiA (FB:ExcAttrBase B bmB) (Z:zc X.K C) (hc:oe.cls=.ref C) (hd:∃vs,oe.data=.fields vs):dQ (X.hand a oe) (.builtin "isinstance") (rIsi X.K C a (XR oe.dict)):=by
 cases hx:oe.dict with
 |none=>exact fun pins s σ H xs us Q I r h=>xZ FB Z hc hd hx pins s σ H xs us Q I r h.2
 |some d=>exact c_isiD FB Z hc hd hx
end
structure XTell (K:PySem.W.Frag) (C:Addr) (A1 A2 A3:Addr) (T:String) (ys:List Addr) (bs:List Bool):Prop where
 ex:∃b1 b2 b3 b4 b5,bs=[b1,b2,b3,b4,b5]/\kitOne K (.ref C) (.ref A1)=some b1/\kitOne K (.ref C) (.ref A2)=some b2/\kitOne K (.ref C) (.ref A3)=some b3/\kitOne K (.ref C) (.type T)=some b4/\kitAny K (.ref C) (ys.map Value.ref)=some b5
structure XTxt (K:PySem.W.Frag) (mg:Str->Option Value) (x:Str) (C:Addr):Prop where
 mg:mg x=some (.ref C)
 ex:PySem.W.excIn K C [.type "ValueError",.type "Exception",.type "BaseException",.type "object"] "ValueError.__new__"=true
end L2
namespace L2
open PySem PySem.Spec PyProof.Rows
section
open PySem.W
variable {M:Model} {A:Around} {E:Value->Shared->Prop} {h:Heap} {g:Array GenState} {d:Drawn} {t:Nat} {os:OsState} {a C Cb:Addr} {oe:Obj} {K:Frag}
end
structure XTwo (K:PySem.W.Frag) (mg:Str->Option Value) (c1 c2:Str) (C1 C2:Addr):Prop where
 b1:XBase K mg c1 C1
 b2:XBase K mg c2 C2
 isi:zc K C1
 s1:PySem.W.mroIn K C1 (.ref C1)=some true
 s2:PySem.W.mroIn K C2 (.ref C2)=some true
 no:PySem.W.mroIn K C2 (.ref C1)=some false
section
variable {K:PySem.W.Frag} {ro:Bool} {F0 H0 FB F H:Hp} {OL:List Nat} {D:Ends} {σ:St} {ρ:af} {i j o:Nat} {a:Addr} {ys:List Addr} {C1 C2:Addr} {fb:af->M Flo}
theorem Rep.forget (r:Rep K F0 H0 FB [] F H σ ρ) (i:Nat) (x:Option V):Rep K F0 H0 FB [] F H (σ.set i x) (ρ.set i none):=by
 refine ⟨r.st,r.fb,by simp only [List.length_set];exact r.len,fun m d e _=>?_,(fun m d e h=>nomatch h),(fun m n d1 d2 c h=>nomatch h)⟩
 by_cases hm:i=m
 ·subst hm
  by_cases hl:i<ρ.length
  ·rw [List.getElem?_set_self hl] at e;cases e
  ·rw [List.getElem?_eq_none (by rw [List.length_set];omega)] at e;cases e
 ·rw [List.getElem?_set_ne hm] at e ⊢
  exact r.fz m d e (by simp)
theorem Rep.putN {v:V} {d:Dat} (r:Rep K F0 H0 FB [] F H σ ρ) (j:Nat) (h:cf K F d v):Rep K F0 H0 FB [] F H (σ.set j (some v)) (ρ.set j (some d)):=by
 refine ⟨r.st,r.fb,by simp only [List.length_set];exact r.len,fun m d' e _=>?_,(fun m d e h=>nomatch h),(fun m n d1 d2 c h=>nomatch h)⟩
 by_cases hm:j=m
 ·subst hm
  by_cases hl:j<ρ.length
  ·rw [List.getElem?_set_self hl] at e;cases e
   exact ⟨v,by rw [List.getElem?_set_self (by have:=r.len;omega)],h⟩
  ·rw [List.getElem?_eq_none (by rw [List.length_set];omega)] at e;cases e
 ·rw [List.getElem?_set_ne hm] at e ⊢
  exact r.fz m d' e (by simp)
end
end L2
namespace L2
open PySem PySem.Spec PyProof.Rows
end L2
namespace L2
open PySem PySem.Spec PyProof.Rows
section
open PySem.SetTable
noncomputable def x9 (xs:List Nat):Prop:=xs.Pairwise (·<·)
theorem x9.get {xs:List Nat} (h:x9 xs) {i j x y:Nat} (hij:i<j) (hx:xs[i]? =some x) (hy:xs[j]? =some y):x<y:=by
 obtain ⟨h1,e1⟩:=List.getElem?_eq_some_iff.mp hx
 obtain ⟨h2,e2⟩:=List.getElem?_eq_some_iff.mp hy
 have:=List.pairwise_iff_getElem.mp h i j h1 h2 hij
 omega
theorem x9.arr {xs:Array Nat} (h:x9 xs.toList) {i j x y:Nat} (hij:i<j) (hx:xs[i]? =some x) (hy:xs[j]? =some y):x<y:=
 h.get hij (by rw [Array.getElem?_toList];exact hx) (by rw [Array.getElem?_toList];exact hy)
theorem tB {xs:Array Nat} {j:Nat} (h:x9 xs.toList):∀(f lo hi:Nat),hi-lo<=f->lo<=hi->hi<=xs.size->(∀i x,i<lo->xs[i]? =some x->x<j)->(∀i x,hi<=i->xs[i]? =some x->j<=x) ->
  below.go xs j f lo hi<=xs.size/\(∀i x,i<below.go xs j f lo hi->xs[i]? =some x->x<j)/\∀i x,below.go xs j f lo hi<=i->xs[i]? =some x->j<=x
 |0,lo,hi,h1,h2,h3,ha,hb=>by
  unfold below.go
  have:lo=hi:=by omega
  subst this
  exact ⟨h3,ha,hb⟩
 |f+1,lo,hi,h1,h2,h3,ha,hb=>by
  unfold below.go
  by_cases hlt:lo<hi
  ·rw [if_pos hlt]
   dsimp only
   have hm:(lo+hi)/2<xs.size:=by omega
   have eg:xs[(lo+hi)/2]? =some (xs[(lo+hi)/2]'hm):=Array.getElem?_eq_getElem hm
   have ed:xs.getD ((lo+hi)/2) j=xs[(lo+hi)/2]'hm:=by simp [Array.getD,hm]
   rw [ed]
   by_cases hc:xs[(lo+hi)/2]'hm<j
   ·rw [if_pos hc]
    refine tB h f _ hi (by omega) (by omega) h3 (fun i x hi' hx=>?_) hb
    by_cases hi2:i=(lo+hi)/2
    ·subst hi2;rw [eg] at hx;cases hx;exact hc
    ·have:=h.arr (i:=i) (j:=(lo+hi)/2) (by omega) hx eg
     omega
   ·rw [if_neg hc]
    refine tB h f lo _ (by omega) (by omega) (by omega) ha (fun i x hi' hx=>?_)
    by_cases hi2:i=(lo+hi)/2
    ·subst hi2;rw [eg] at hx;cases hx;omega
    ·have:=h.arr (i:=(lo+hi)/2) (j:=i) (by omega) eg hx
     omega
  ·rw [if_neg hlt]
   have:lo=hi:=by omega
   subst this
   exact ⟨h3,ha,hb⟩
theorem pf {xs:Array Nat} (h:x9 xs.toList) (j:Nat):below xs j<=xs.size/\(∀i x,i<below xs j->xs[i]? =some x->x<j)/\∀i x,below xs j<=i->xs[i]? =some x->j<=x:=
 tB h xs.size 0 xs.size (by omega) (by omega) (by omega) (fun i x hi=>by omega) fun i x hi hx=>by
  have:=(Array.getElem?_eq_some_iff.mp hx).1
  omega
theorem no_place {xs:Array Nat} (h:x9 xs.toList) {j:Nat} (hn:xs[below xs j]?≠some j):j∉xs.toList:=fun hm=>by
 obtain ⟨i,hi,e⟩:=List.getElem_of_mem hm
 obtain ⟨h1,h2,h3⟩:=pf h j
 have ei:xs[i]? =some j:=by rw [<- Array.getElem?_toList,List.getElem?_eq_getElem hi,e]
 have hle:below xs j<=i:=by
  rcases Nat.lt_or_ge i (below xs j) with z|z
  ·have:=h2 i j z ei;omega
  ·exact z
 by_cases he:below xs j=i
 ·rw [he] at hn;exact hn ei
 ·have hs:=(Array.getElem?_eq_some_iff.mp ei).1
  have eb:xs[below xs j]? =some (xs[below xs j]'(by omega)):=Array.getElem?_eq_getElem (by omega)
  have g1:=h3 _ _ (Nat.le_refl _) eb
  have g2:=h.arr (i:=below xs j) (j:=i) (by omega) eb ei
  omega
theorem wg {xs:Array Nat} {p x:Nat}:(insertAt xs p x).toList=xs.toList.take p++x::xs.toList.drop p:=by
 unfold insertAt
 simp [Array.toList_append,List.take_of_length_le]
theorem we {xs:Array Nat} (h:x9 xs.toList) {j:Nat} (hn:j∉xs.toList):x9 (insertAt xs (below xs j) j).toList:=by
 obtain ⟨h1,h2,h3⟩:=pf h j
 rw [wg]
 refine List.pairwise_append.mpr ⟨h.sublist (List.take_sublist _ _),List.pairwise_cons.mpr ⟨fun a ha=>?_,h.sublist (List.drop_sublist _ _)⟩,fun a ha b hb=>?_⟩
 ·obtain ⟨i,e⟩:=List.mem_iff_getElem?.mp ha
  rw [List.getElem?_drop] at e
  have:=h3 (below xs j+i) a (by omega) (by simpa using e)
  have hne:a≠j:=fun z=>hn (z▸List.mem_of_mem_drop ha)
  omega
 ·have aj:a<j:=by
   obtain ⟨i,e⟩:=List.mem_iff_getElem?.mp ha
   rw [List.getElem?_take] at e
   by_cases hi:i<below xs j
   ·rw [if_pos hi] at e
    exact h2 i a hi (by simpa using e)
   ·rw [if_neg hi] at e;cases e
  rcases List.mem_cons.mp hb with z|z
  ·omega
  ·obtain ⟨i,e⟩:=List.mem_iff_getElem?.mp z
   rw [List.getElem?_drop] at e
   have:=h3 (below xs j+i) b (by omega) (by simpa using e)
   omega
noncomputable def TOk (b:Bool) (t:SetTable):Prop:=x9 t.place.toList/\t.led=b
theorem slot_no {t:SetTable} {j:Nat} (h:t.place[below t.place j]? =some j):∃i,t.slot j=.live i:=by
 unfold SetTable.slot
 dsimp only
 rw [h]
 simp
theorem o7 {t:SetTable} {g:Nat->Int} {h:Int}:∀(f:Nat) (p:Probe) (j:Nat) (d:Option Nat),(∀x,p.dummy=some x->t.slot x=.dummy)->probe.go t g h f p=some (.empty j d)->t.slot j=.empty/\∀x,d=some x->t.slot x=.dummy
 |0,p,j,d,hp,e=>by unfold probe.go at e;cases e
 |f+1,p,j,d,hp,e=>by
  unfold probe.go at e
  have adv:∀q:Probe,(t.advance q).dummy=q.dummy:=fun q=>by
   unfold SetTable.advance
   split
   ·rfl
   ·rfl
  cases hs:t.slot p.j with
  |empty=>
   rw [hs] at e
   simp only [Option.some.injEq,Met.empty.injEq] at e
   obtain ⟨rfl,rfl⟩:=e
   exact ⟨hs,hp⟩
  |dummy=>
   rw [hs] at e
   refine o7 f _ j d (fun x hx=>?_) e
   rw [adv] at hx
   simp only [Option.some.injEq] at hx
   subst hx
   exact hs
  |live i=>
   rw [hs] at e
   dsimp only at e
   split at e
   ·cases e
   ·exact o7 f _ j d (fun x hx=>hp x (by rw [adv] at hx;exact hx)) e
theorem free_no {t:SetTable} (ht:x9 t.place.toList) {h:Int} {j:Nat} {wd:Bool} (e:t.freeSlot h=some (j,wd)):j∉t.place.toList:=by
 unfold SetTable.freeSlot at e
 have key:∃j' d,t.probe (fun _=>h+1) h (t.probeStart h)=some (.empty j' d)/\j=d.getD j':=by
  cases hq:t.probe (fun _=>h+1) h (t.probeStart h) with
  |none=>rw [hq] at e;cases e
  |some m=>
   rw [hq] at e
   cases m with
   |empty j' d=>simp only [Option.some.injEq,Prod.mk.injEq] at e;exact ⟨j',d,rfl,e.1.symm⟩
   |candidate _ _ _=>cases e
 obtain ⟨j',d,eq,rfl⟩:=key
 obtain ⟨h1,h2⟩:=o7 _ _ _ _ (fun x hx=>by simp [SetTable.probeStart] at hx) eq
 refine no_place ht fun z=>?_
 obtain ⟨i,ei⟩:=slot_no z
 cases d with
 |none=>rw [show (none:Option Nat).getD j'=j' from rfl,h1] at ei;cases ei
 |some x=>rw [show (some x:Option Nat).getD j'=x from rfl,h2 x rfl] at ei;cases ei
theorem lN {b:Bool} {t:SetTable} {n:Nat} (h:TOk b t):TOk b (t.standIn n):=by
 refine ⟨?_,h.2⟩
 show x9 (Array.range n).toList
 rw [Array.toList_range]
 exact List.pairwise_lt_range
theorem An {b:Bool} {t:SetTable} (h:TOk b t) (es:Array (Int×Value)) (g:Int) (x:Value):TOk b (layNew t es g x).2.1:=by
 unfold layNew
 cases e:t.freeSlot g with
 |none=>exact lN h
 |some p=>
  obtain ⟨j,wd⟩:=p
  have hp:TOk b (t.put j).1:=⟨we h.1 (free_no h.1 e),h.2⟩
  dsimp only
  unfold SetTable.orStandIn
  split
  ·exact hp
  ·exact lN hp
theorem sN (g:Nat->Option Nat):∀l:List Nat,((l.filterMap fun j=>(g j).map (j,·)).map (·.1)).Sublist l
 |[]=>by simp
 |j::l=>by
  cases e:g j with
  |none=>simp only [List.filterMap_cons,e,Option.map_none];exact (sN g l).trans (List.sublist_cons_self _ _)
  |some k=>simp only [List.filterMap_cons,e,Option.map_some,List.map_cons];exact (sN g l).cons_cons _
theorem zO {b:Bool} {t t':SetTable} (h:TOk b t) {hs:Array Int} {n:Nat} {o:Array Nat} (e:t.relaid hs n=some (t',o)):TOk b t':=by
 unfold SetTable.relaid SetTable.laid at e
 cases ho:layClean (sizeAbove n-1) hs with
 |none=>rw [ho] at e;cases e
 |some ow=>
  rw [ho] at e
  simp only [Option.bind_eq_bind,Option.bind_some,Option.pure_def,Option.some.injEq,Prod.mk.injEq] at e
  obtain ⟨rfl,_⟩:=e
  refine ⟨?_,h.2⟩
  show x9 _
  rw [List.toList_toArray]
  exact List.pairwise_lt_range.sublist (sN (fun j=>ow.getD j none) _)
theorem vM {b:Bool} {t:SetTable} (h:TOk b t) (es:Array (Int×Value)) (n:Nat):TOk b (relayAll t es n).2.1:=by
 unfold relayAll
 cases e:t.relaid (es.map (·.1)) n with
 |none=>exact lN h
 |some p=>
  obtain ⟨t',o⟩:=p
  dsimp only
  split
  ·exact zO h e
  ·exact lN h
end
section
open PySem
variable {prog:Program} {w:World} {A:Around} {E:Value->Shared->Prop} {s:Shared}
noncomputable def qI:Value->Int
 |.int k _=>k
 |_=>0
noncomputable def tN (prog:Program) (w:World) (b:Bool) (h:Heap) (a:Addr) (ks:List Int):Prop:=
 ∃o es ep t,h.get? a=some o/\o.ExactSet/\o.data=.set es ep t/\ElemsOf (intKind prog w) es.toList/\(es.toList.map fun e=>qI e.2).Perm ks/\ks.Nodup/\es.size<scanBound/\t.fits es.size=true/\TOk b t
theorem tN.at {b:Bool} {h h':Heap} {a:Addr} {ks:List Int} (H:tN prog w b h a ks) (e:∀o,h.get? a=some o->h'.get? a=some o):tN prog w b h' a ks:=
 let ⟨o,es,ep,t,ho,r⟩:=H;⟨o,es,ep,t,e _ ho,r⟩
theorem tN.ty {b:Bool} {a:Addr} {ks:List Int} (H:tN prog w b s.heap a ks):s.TypeIs (.ref a) "set":=let ⟨o,_,_,_,ho,hx,_⟩:=H;⟨o,ho,hx.1⟩
theorem key_is {v:Value} {k:Int} (h:(intKind prog w).is k v=true):∃t,v=.int k t:=Value.isInt_shape h
theorem is_key {v:Value} {k:Int} (h:∃j,(intKind prog w).is j v=true):(intKind prog w).is k v=decide (k=qI v):=by
 obtain ⟨j,h⟩:=h
 obtain ⟨t,rfl⟩:=key_is h
 show Value.isInt k (.int j t)=_
 by_cases e:k=j
 ·subst e;simp [Value.isInt,qI]
 ·rw [show decide (k=qI (.int j t))=false from decide_eq_false e]
  cases hq:Value.isInt k (.int j t) with
  |false=>rfl
  |true=>
   obtain ⟨t2,e2⟩:=Value.isInt_shape hq
   cases e2
   exact absurd rfl e
noncomputable def vo (ks:List Int) (k:Int):List Int:=if k∈ks then ks else ks++[k]
theorem oH {ks:List Int} {k:Int} (h:ks.Nodup):(vo ks k).Nodup:=by
 unfold vo
 split
 ·exact h
 ·next hk=>exact List.nodup_append.mpr ⟨h,by simp,fun a ha b hb=>by simp at hb;intro e;subst e;subst hb;exact hk ha⟩
theorem rp {b:Bool} {h:Heap} {a:Addr} {o:Obj} {es fs:Array (Int×Value)} {ep:Nat} {t u:SetTable} {ks:List Int} (ho:h.get? a=some o) (hx:o.ExactSet) (hd:o.data=.set es ep t)
  (he:ElemsOf (intKind prog w) fs.toList) (hp:(fs.toList.map fun e=>qI e.2).Perm ks) (hn:ks.Nodup) (hb:fs.size<scanBound) (hf:u.fits fs.size=true) (ht:TOk b u) :
  (h.update a (Obj.putSet fs u)).get? a=some {o with data:=.set fs (ep+1) u}/\tN prog w b (h.update a (Obj.putSet fs u)) a ks:=by
 have g:(h.update a (Obj.putSet fs u)).get? a=some {o with data:=.set fs (ep+1) u}:=by
  have:=Heap.get?_update_self (Obj.putSet fs u) ho (by rw [putSet_of fs u hd];rfl)
  rw [putSet_of fs u hd] at this
  exact this
 exact ⟨g,_,fs,ep+1,u,g,hx,rfl,he,hp,hn,hb,hf,ht⟩
theorem uG {b:Bool} {g:Bool->Sem Unit} (hg:∀(c:Bool) (s₁:Shared) (Q':Unit->Shared->Prop),Q' () s₁->wpAny (model prog w) A (g c) Q' E s₁)
  {a:Addr} {o:Obj} {es fs:Array (Int×Value)} {ep:Nat} {t u:SetTable} {ks:List Int} (ho:s.heap.get? a=some o) (hx:o.ExactSet) (hd:o.data=.set es ep t)
  (he:ElemsOf (intKind prog w) fs.toList) (hp:(fs.toList.map fun e=>qI e.2).Perm ks) (hn:ks.Nodup) (hb:fs.size<scanBound) (hf:u.fits fs.size=true) (ht:TOk b u) {wd:Bool} {R:Option Bool->Shared->Prop}
  (h:∀h',Heap.SameBut a s.heap h'->tN prog w b h' a ks->R (some true) {s with heap:=h'}) :
  wpAny (model prog w) A (do
    storeSet a fs u
    if (!wd&&u.tooFull)=true then do
      g (relayAll u fs (SetTable.grown fs.size)).2.2
      storeSet a (relayAll u fs (SetTable.grown fs.size)).1 (relayAll u fs (SetTable.grown fs.size)).2.1
      pure (some true)
     else pure (some true)) R E s:=by
 refine wpAny_bind (wpAny_storeSet_of ho hd ?_ (fits_of_scanBound hb))
 obtain ⟨g1,S1⟩:=rp (prog:=prog) (w:=w) ho hx hd he hp hn hb hf ht
 have b1:=Heap.SameBut.update s.heap a (Obj.putSet fs u)
 split
 ·have p2:=relayAll_perm u fs (SetTable.grown fs.size)
  have f2:=relayAll_fits u fs (SetTable.grown fs.size)
  have t2:=vM ht fs (SetTable.grown fs.size)
  generalize relayAll u fs (SetTable.grown fs.size)=Z at p2 f2 t2 ⊢
  obtain ⟨gs,v,gv⟩:=Z
  dsimp only at p2 f2 t2 ⊢
  have hz:gs.size=fs.size:=by rw [<- Array.length_toList,p2.length_eq,Array.length_toList]
  refine wpAny_bind (hg _ _ _ (wpAny_bind (wpAny_storeSet_of g1 rfl ?_ (fits_of_scanBound (by omega)))))
  obtain ⟨_,S2⟩:=rp (prog:=prog) (w:=w) (es:=fs) (t:=u) (ep:=ep+1) g1 hx rfl (he.perm p2) ((p2.map _).trans hp) hn (by omega) f2 t2
  exact wpAny_pure (h _ (b1.trans (Heap.SameBut.update _ a _)) S2)
 ·exact wpAny_pure (h _ b1 S1)
theorem iset_add {b:Bool} {a:Addr} {ks:List Int} {k:Int} {tk:Tok} {Q:Bool->Shared->Prop} (H:tN prog w b s.heap a ks) (hr:ks.length+1<scanBound)
  (h:∀r h',Heap.SameBut a s.heap h'->tN prog w b h' a (vo ks k)->Q r {s with heap:=h'}):wpAny (model prog w) A (setAddHashed a (.int k tk) ((intKind prog w).hash k)) Q E s:=by
 obtain ⟨o,es,ep,t,ho,hx,hd,he,hp,hn,hb,hf,ht⟩:=H
 have hkey:(intKind prog w).is k (.int k tk)=true:=by show Value.isInt k (.int k tk)=true;simp [Value.isInt]
 have hsz:es.size=ks.length:=by have:=hp.length_eq;simpa using this
 have hin:∀e∈es.toList,(intKind prog w).is k e.2=decide (k=qI e.2):=fun e m=>is_key (he.keys e m)
 unfold setAddHashed setAddHashedIn
 refine wpAny_holding (wpAny_bind (wpAny_setState_of ho hd hf ?_))
 dsimp only
 rw [byScan_of rfl hb he]
 simp only [↓reduceIte]
 unfold setAddByScan
 refine wpAny_bind (wpAny_bind (wpAny_rule (wpAny_bind (wpAny_setScan_of hkey ho hd hf he ?_))))
 cases hq:List.findIdx? (fun e=>(intKind prog w).is k e.2) es.toList with
 |some j=>
  dsimp only
  obtain ⟨hj,pj,_⟩:=List.findIdx?_eq_some_iff_getElem.mp hq
  have hk:k∈ks:=by
   rw [hin _ (List.getElem_mem hj),decide_eq_true_eq] at pj
   refine hp.mem_iff.mp (List.mem_map.mpr ⟨_,List.getElem_mem hj,pj.symm⟩)
  refine wpAny_pure (wpAny_pure ?_)
  exact h _ s.heap (Heap.SameBut.refl a s.heap) ⟨o,es,ep,t,ho,hx,hd,he,by unfold vo;rw [if_pos hk];exact hp,oH hn,hb,hf,ht⟩
 |none=>
  dsimp only
  have hk:k∉ks:=fun m=>by
   obtain ⟨e,m1,m2⟩:=List.mem_map.mp (hp.mem_iff.mpr m)
   have:=List.findIdx?_eq_none_iff.mp hq e m1
   rw [hin e m1,m2] at this
   simp at this
  have gw:∀(c:Bool) {s₁:Shared} {Q':Unit->Shared->Prop},Q' () s₁->wpAny (model prog w) A (match c with|true=>rule "set.scan.the-table-gave-way"|false=>pure ()) Q' E s₁:=fun c s₁ Q' z=>by cases c<;>first|exact wpAny_pure z|exact wpAny_rule z
  have p1:=layNew_perm t es ((intKind prog w).hash k) (.int k tk)
  have f1:=layNew_fits t es ((intKind prog w).hash k) (.int k tk)
  have t1:=An ht es ((intKind prog w).hash k) (.int k tk)
  generalize layNew t es ((intKind prog w).hash k) (.int k tk)=L at p1 f1 t1 ⊢
  obtain ⟨fs,u,wd,gave⟩:=L
  dsimp only at p1 f1 t1 ⊢
  rw [Array.toList_push] at p1
  have e1:ElemsOf (intKind prog w) fs.toList:=(he.push hkey rfl).perm p1
  have q1:(fs.toList.map fun e=>qI e.2).Perm (vo ks k):=by
   unfold vo
   rw [if_neg hk]
   refine (p1.map _).trans ?_
   rw [List.map_append]
   exact hp.append (List.Perm.refl _)
  have z1:fs.size<scanBound:=by rw [<- Array.length_toList,p1.length_eq,List.length_append,Array.length_toList];simp;omega
  refine wpAny_bind (gw _ ?_)
  split
  ·refine wpAny_bind ?_
   rw [hashByValue_scannable 8 rfl]
   refine wpAny_pure (uG (b:=b) ?_ ho hx hd e1 q1 (oH hn) z1 ?_ ?_ ?_)
   ·intro c s₁ Q' z;cases c<;>first|exact wpAny_pure z|exact wpAny_rule z
   ·split
    ·exact f1
    ·exact SetTable.fits_plain_off f1
   ·split
    ·exact t1
    ·exact t1
   ·intro h' sb S';exact wpAny_pure (h _ h' sb S')
  ·refine wpAny_bind (wpAny_pure ?_)
   simp only [↓reduceIte]
   refine uG (b:=b) ?_ ho hx hd e1 q1 (oH hn) z1 f1 t1 ?_
   ·intro c s₁ Q' z;cases c<;>first|exact wpAny_pure z|exact wpAny_rule z
   ·intro h' sb S';exact wpAny_pure (h _ h' sb S')
end
noncomputable def keysOf (is:List Int):List Int:=is.foldl vo []
theorem p9:∀(is ks:List Int),(is.foldl vo ks).length<=ks.length+is.length
 |[],ks=>by simp
 |i::is,ks=>by
  have:=p9 is (vo ks i)
  have h2:(vo ks i).length<=ks.length+1:=by unfold vo;split<;>simp
  simp only [List.foldl_cons,List.length_cons]
  omega
theorem Ao (val:Nat->Int) (i:Nat):keysOf ((List.range (i+1)).map val)=vo (keysOf ((List.range i).map val)) (val i):=by
 unfold keysOf
 rw [List.range_succ,List.map_append,List.foldl_append]
 rfl
section
open PySem
variable {prog:Program} {w:World} {A:Around} {R:Result->Shared->Prop} {I:Addr} {fp wr:List Addr} {G:Array GenState->Array GenState->Prop} {n:Nat} {P:Nat->Value->Prop} {St:Nat->Shared->Prop} {b:Bool}
theorem Aw (W:WalksS prog w A.in1 I fp wr G n P St) (S:Addr) (hSf:S∉fp) (val:Nat->Int) (hval:∀i v,P i v->∃t,v=.int (val i) t) (hb:n+1<scanBound) :
  ∀(k i:Nat) (s:Shared),n-i=k->i<=n->St i s->tN prog w b s.heap S (keysOf ((List.range i).map val)) ->
   (∀s',Moved (S::wr) G s s'->tN prog w b s'.heap S (keysOf ((List.range n).map val))->R (.ok (.ret .none)) s')->codeAny (model prog w) A (.builtin "set.update.loop" ⟨[.ref S,.ref I],[]⟩) R s:=by
 have off:S∉wr:=fun h=>hSf (W.sub _ h)
 have more:∀c∈wr,c∈S::wr:=fun c hc=>List.mem_cons_of_mem _ hc
 intro k
 induction k with
 |zero=>
  intro i s hk hi st HS fin
  obtain rfl:i=n:=by omega
  refine codeAny_builtin PyProof.Rows.F.entry_set_update_loop ?_
  rw [Around.under_plainId PyProof.Rows.F.plain_set_update_loop _]
  refine wpAny_bind (W.done s _ _ st fun s' hm=>wpAny_pure (fin s' (hm.mono more) (HS.at fun o e=>hm.heap S _ off e)))
 |succ k ih=>
  intro i s hk hi st HS fin
  refine codeAny_builtin PyProof.Rows.F.entry_set_update_loop ?_
  rw [Around.under_plainId PyProof.Rows.F.plain_set_update_loop _]
  refine wpAny_bind (W.item i s _ _ (by omega) st fun v s' hP st' hm=>?_)
  obtain ⟨t,rfl⟩:=hval i v hP
  have HS':=HS.at fun o e=>hm.heap S _ off e
  refine wpAny_bind (wpAny_holding ?_)
  unfold setAdd
  refine wpAny_holding (wpAny_bind ((intKind prog w).pyHash (k:=val i) (intKind_is _ _ _ _) ?_))
  have hl:=p9 ((List.range i).map val) []
  rw [List.length_map,List.length_range] at hl
  refine iset_add (s:={s' with toks:=s'.toks+1}) HS' (by unfold keysOf;simp at hl ⊢;omega) fun r h' sb S2=>?_
  rw [<- Ao] at S2
  refine wpAny_pure ⟨plainId_quiet PyProof.Rows.F.plain_set_update_loop _,ih (i+1) _ (by omega) (by omega) (W.frame _ s' _ _ st' (Nat.le_succ _) fun c hc o e=>?_) S2 fun s2 hm2 S3=>?_⟩
  ·rw [sb.2 c (fun z:c=S=>hSf (z▸hc))];exact e
  ·refine fin s2 (Moved.trans W.gtrans ((hm.mono more).then_heap (Nat.le_succ _) fun c o hc e=>?_) hm2) S3
   rw [sb.2 c (fun z:c=S=>hc (by rw [z];exact List.mem_cons_self))];exact e
end
section
open PySem
variable {prog:Program} {w:World} {A:Around} {E:Value->Shared->Prop} {s:Shared}
noncomputable abbrev o8 (w:World):Bool:= !w.params.followText "set-order"
theorem new_iset (v:Value) {Q₁:Value->Shared->Prop} (h:Q₁ (.ref s.heap.objs.size) {s with heap:=s.heap.push {cls:=.type "set",dict:=none,data:=.set #[] 0 (.fresh 0 0 (o8 w))}}) :
  codeAny (model prog w) A (.call (.builtin "set.__new__") ⟨[.type "set",v],[]⟩) (wants Q₁ E) s:=by
 refine codeAny_of_tree ?_
 show wpAny (model prog w) A.in1 (do checkBuiltinCall "set.__new__" ⟨[.type "set",v],[]⟩;again (.builtin "set.__new__" ⟨[.type "set",v],[]⟩)) _ _ s
 refine wpAny_bind (wpAny_of_eq (F.newCall_set_1 v) (wpAny_pure ⟨plainId_quiet F.plain_set_new _,codeAny_builtin F.entry_set_new ?_⟩));rw [Around.under_plainId F.plain_set_new _]
 unfold Builtin.«set.__new__» Builtin.Frozenset.newClass
 have q:=sub_set_self
 obtain ⟨hp,g,d,tk,os⟩:=s;dsimp only;wp_walk
 refine wpAny_askSetting (wpAny_pure ?_);dsimp only;simp only [newObj]
 exact wpAny_bind (wpAny_alloc (wpAny_pure (wpAny_pure h)))
theorem B6 {l:Addr} {items:Array Value} {ns:List Int} {Q:Value->Shared->Prop} (hh:A.handled=none) (hl:s.heap.IsList l items) (hi:PyProof.Rows.IntsAre items.toList ns) (hb:items.size+1<scanBound)
  (h:∀(h':Heap) (tk:Nat),tN prog w (o8 w) h' s.heap.objs.size (keysOf ns)->(∀c o,c<s.heap.objs.size->s.heap.get? c=some o->h'.get? c=some o)->Q (.ref s.heap.objs.size) {s with heap:=h',toks:=tk}) :
  wpAny (model prog w) A (call (.type "set") [.ref l]) Q E s:=by
 obtain ⟨c,tl,hmro⟩:=F.called_set.mro
 have made:=F.called_set.made
 have sub:=F.called_set.sub
 refine wpAny_call (codeAny_of_tree ?_)
 show wpAny (model prog w) A.in1 (callAny (.type "set") _) _ _ _
 refine wpAny_pure ⟨Code.quiet_builtin _ (by decide +kernel),codeAny_builtin (F.entry_type_call) ?_⟩
 rw [Around.under_plain (weight_type_call_type "set" [.ref l] []) rfl]
 have g1:=F.called_set.notType
 have g2:=F.called_set.canCreate
 have g3:=F.typeCall_set_1 (.ref l)
 repeat (any_goals (first|assumption|wp_step))
 generalize hO:({cls:=.type "set",dict:=none,data:=.set #[] 0 (.fresh 0 0 (o8 w))}:Obj)=ob at *
 refine codeAny_mono (new_iset (.ref l) (E:=E) (Q₁:=fun u s₁=>u=.ref s.heap.objs.size/\s₁={s with heap:=s.heap.push ob}) (by rw [hO];exact ⟨rfl,rfl⟩)) fun r s₁ hr=>?_
 cases r with
 |error e=>exact hr
 |ok fl=>
  cases fl with
  |ret u=>
   obtain ⟨rfl,rfl⟩:=hr
   have hc:ob.cls=.type "set":=by rw [<- hO]
   have hf:ob.isFreed=false:=by rw [<- hO];rfl
   have e0:(s.heap.push ob).get? s.heap.objs.size=some ob:=Heap.get?_push_size _ hf
   have hT:Shared.TypeIs {s with heap:=s.heap.push ob} (.ref s.heap.objs.size) "set":=⟨_,e0,hc⟩
   have li:=F.called_set.init.lookup
   have bi:=F.called_set.init.bind (.ref s.heap.objs.size)
   repeat (any_goals (first|assumption|wp_step))
   refine codeAny_mono (codeAny_call_builtin (R:=wants (fun r s₂=>r=.none/\∃h' tk,s₂={s with heap:=h',toks:=tk}/\tN prog w (o8 w) h' s.heap.objs.size (keysOf ns)/\(∀c o,c<s.heap.objs.size->s.heap.get? c=some o->h'.get? c=some o)) E) F.called_set.init.plain F.entry_set_init (check_set_init_1 hT ?_)) fun r₂ s₂ hr₂=>?_
   ·obtain ⟨ol,hol,hcl,nl,hdl⟩:=hl
    obtain ⟨k1,k2,k3,k4⟩:=ol
    simp only at hcl hdl
    subst hcl;subst hdl
    have hol':(s.heap.push ob).get? l=some {cls:=.type "list",dict:=k2,data:=.seq items nl,slots:=k4}:=Heap.get?_push_of_some _ hol
    have z1:=F.sub_list_set
    have z2:=F.sub_list_frozenset
    have z3:(Value.type "list"==Value.type "dict")=false:=by decide
    have hl1:(s.heap.push ob).IsList l items:=⟨_,hol',rfl,nl,rfl⟩
    subst hO
    unfold Builtin.«set.__init__» noKeywords Builtin.Frozenset.updateFrom
    generalize hPI:pyIter=PI;wp_walk;subst hPI
    refine wpAny_pyIter_list (hl1) ?_
    refine wpAny_bind (m:=runValue _) (wpAny_runValue ?_)
    have lS:l<s.heap.objs.size:=Heap.lt_size hol
    have lI:l≠(s.heap.push {cls:=.type "set",dict:=none,data:=.set #[] 0 (.fresh 0 0 (o8 w))}).objs.size:=by rw [Heap.size_push];exact Nat.ne_of_lt (Nat.lt_succ_of_lt lS)
    have off:s.heap.objs.size∉[(s.heap.push {cls:=.type "set",dict:=none,data:=.set #[] 0 (.fresh 0 0 (o8 w))}).objs.size,l]:=by
     rw [Heap.size_push];simp only [List.mem_cons,List.not_mem_nil,or_false,not_or]
     exact ⟨Nat.ne_of_lt (Nat.lt_succ_self _),Nat.ne_of_gt lS⟩
    have hv:∀(i:Nat) (v:Value),items[i]? =some v->∃t,v=.int ((fun i=>ns.getD i 0) i) t:=fun i v q=>PyProof.Rows.IntsAre.int_at hi i v (by rw [Array.getElem?_toList];exact q)
    have en:(List.range items.size).map (fun i=>ns.getD i 0)=ns:=by
     have hn:items.size=ns.length:=by have:=PyProof.Rows.IntsAre.length hi;simpa using this
     rw [hn]
     apply List.ext_getElem
     ·simp
     ·intro i h3 h4;simp [h4]
    refine Aw (b:=o8 w) ((Walks.list (by simp [hh]) _ l lI items).toS) s.heap.objs.size off (fun i=>ns.getD i 0) hv hb (items.size-0) 0 _ (by omega) (Nat.zero_le _) ⟨⟨_,Heap.get?_push_size _ rfl,rfl,rfl⟩,hl1.push _⟩ ⟨_,#[],0,.fresh 0 0 (o8 w),Heap.get?_push_of_some _ e0,⟨rfl,rfl,rfl⟩,rfl,fun e he=>by simp at he,List.Perm.refl _,List.Pairwise.nil,by decide,rfl,List.Pairwise.nil,rfl⟩ fun s' hm S'=>?_
    rw [en] at S'
    obtain ⟨h',g',d',tk',os'⟩:=s'
    obtain rfl:g'=s.gens:=hm.gens
    obtain rfl:d'=s.drawn:=hm.drawn
    obtain rfl:os'=s.os:=hm.os
    refine wpAny_pure (wpAny_pure ⟨rfl,h',tk',rfl,S',fun c o hc e=>hm.heap c o ?_ (Heap.get?_push_of_some _ (Heap.get?_push_of_some _ e))⟩)
    rw [Heap.size_push]
    simp only [List.mem_cons,List.not_mem_nil,or_false,not_or]
    exact ⟨Nat.ne_of_lt hc,Nat.ne_of_lt (Nat.lt_succ_of_lt hc)⟩
   ·cases r₂ with
    |error e=>exact hr₂
    |ok fl₂=>
     cases fl₂ with
     |ret r=>
      obtain ⟨rfl,h',tk,rfl,S',k'⟩:=hr₂
      repeat (any_goals (first|assumption|wp_step))
      exact h _ _ S' k'
     |_=>exact hr₂.elim
  |_=>exact hr.elim
end
section
open PySem
theorem xv:Manifest.owners.lookup (String.ofList ['r','o','t','a','r','e','t','i','_','t','e','s'].reverse)=some Manifest.sig_set_iterator:=by kernel_rfl
theorem bo:Slot "set_iterator" "__next__" "set_iterator.__next__":=.of (owner:="set_iterator") (n:="__next__") (by rw [typeLookup_type,builtinLookup_eq_fast];kernel_rfl) (by decide +kernel) (by decide +kernel) (by decide +kernel) (by first|exact .inl (by decide +kernel)|exact .inr (by decide +kernel)) (by rw [isSubtype_type];kernel_rfl)
theorem oM:Slot "set_iterator" "__iter__" "set_iterator.__iter__":=.of (owner:="set_iterator") (n:="__iter__") (by rw [typeLookup_type,builtinLookup_eq_fast];kernel_rfl) (by decide +kernel) (by decide +kernel) (by decide +kernel) (by first|exact .inl (by decide +kernel)|exact .inr (by decide +kernel)) (by rw [isSubtype_type];kernel_rfl)
theorem gU:entryFor table "set_iterator.__next__"=some Builtin.«set_iterator.__next__»:=entryFor_of_tree (by kernel_rfl)
theorem t4:entryFor table "set_iterator.__iter__"=some Builtin.«dict_keyiterator.__iter__»:=entryFor_alias (id':="dict_keyiterator.__iter__") (by kernel_rfl) (by first|rfl|decide +kernel|(unfold String.splitOn;simp +decide [String.splitOnAux])) (by decide +kernel) (by kernel_rfl)
theorem uP:entryFor table "set.__iter__"=some Builtin.«frozenset.__iter__»:=entryFor_alias (id':="frozenset.__iter__") (by kernel_rfl) rfl (by decide +kernel) (by kernel_rfl)
theorem j3 (v:Value):argsOk "set_iterator.__next__" ⟨[v],[]⟩:=by
 unfold argsOk;rw [signature?_of (id:="set_iterator.__next__") (n:=['_','_','t','x','e','n','_','_']) (o:=['r','o','t','a','r','e','t','i','_','t','e','s']) (by kernel_rfl) xv];kernel_rfl
theorem ve (v:Value):argsOk "set_iterator.__iter__" ⟨[v],[]⟩:=by
 unfold argsOk;rw [signature?_of (id:="set_iterator.__iter__") (n:=['_','_','r','e','t','i','_','_']) (o:=['r','o','t','a','r','e','t','i','_','t','e','s']) (by kernel_rfl) xv];kernel_rfl
noncomputable abbrev nk (first:Value) (i:Nat) (a:Addr) (n ep:Nat):Obj:={cls:=.type "set_iterator",data:=.fields #[first,rawInt i,.ref a,rawInt n,rawInt ep]}
noncomputable def oU (h:Heap) (a:Addr) (es:Array (Int×Value)) (ep:Nat) (t:SetTable):Prop:=∃o,h.get? a=some o/\o.data=.set es ep t
theorem u6 {h:Heap} {I:Addr} {vs:Array Value} (e:h.get? I=some {cls:=.type "set_iterator",data:=.fields vs}) (k:Nat) (v:Value):(h.update I (Obj.mapFields (·.setIfInBounds k v))).get? I=some {cls:=.type "set_iterator",data:=.fields (vs.setIfInBounds k v)}:=by
 have:=Heap.get?_update_self (Obj.mapFields (·.setIfInBounds k v)) e rfl
 exact this
section
variable {prog:Program} {w:World} {A:Around} {E:Value->Shared->Prop} {s:Shared} {I a:Addr} {es:Array (Int×Value)} {ep n i:Nat} {t:SetTable}
theorem si_step {first:Value} {k:Nat} (e:s.heap.get? I=some (nk first i a n ep)) (v:Value):((s.heap.update I (Obj.mapFields (·.setIfInBounds 0 v))).update I (Obj.mapFields (·.setIfInBounds 1 (rawInt k)))).get? I=some (nk v k a n ep):=by
 have e1:=u6 e 0 v
 have e2:=u6 e1 1 (rawInt k)
 exact e2
theorem si_step1 {first:Value} {k:Nat} (e:s.heap.get? I=some (nk first i a n ep)):(s.heap.update I (Obj.mapFields (·.setIfInBounds 1 (rawInt k)))).get? I=some (nk first k a n ep):=u6 e 1 (rawInt k)
theorem zH {sl:Nat} {x:Value} {nx:Nat} {Q:Option Value->Shared->Prop} (e:s.heap.get? I=some (nk (rawInt sl) i a es.size ep)) (hS:oU s.heap a es ep t) (hf:t.fits es.size=true)
  (hN:∀{A':Around} {E':Value->Shared->Prop} {Q':Option (Value×Nat)->Shared->Prop},Q' (some (x,nx)) s->wpAny (model prog w) A' (setNext a sl i ep) Q' E' s)
  (h:∀h',h'.get? I=some (nk (rawInt nx) (i+1) a es.size ep)->Heap.SameBut I s.heap h'->Q (some x) {s with heap:=h'}):wpAny (model prog w) A (pyNext (.ref I)) Q E s:=by
 obtain ⟨o,ho,hd⟩:=hS
 have ty:s.TypeIs (.ref I) "set_iterator":=⟨_,e,rfl⟩
 unfold pyNext
 refine wpAny_bind (wpAny_attempt (wpAny_callSpecial?_slot (name:=Str.ofString "__next__") ty bo (wpAny_call_entry bo ty gU ?_ (j3 _))))
 unfold Builtin.«set_iterator.__next__»
 refine wpAny_bind (wpAny_of_eq (a:=(Value.ref I,[])) rfl (wpAny_bind (wpAny_fieldsOf e rfl ?_)))
 refine wpAny_bind (wpAny_setEntries_of ho hd hf ?_)
 rw [if_neg (by simp)]
 refine wpAny_bind (hN ?_)
 refine wpAny_bind (wpAny_setField e rfl (by simp) (wpAny_bind (wpAny_setField (u6 e 0 (rawInt nx)) rfl (by simp) (wpAny_pure ⟨x,rfl,wpAny_pure (h _ (si_step e (rawInt nx)) ?_)⟩))))
 exact (Heap.SameBut.update ..).trans (Heap.SameBut.update ..)
theorem pA {sl:Nat} {Q:Option Value->Shared->Prop} (hh:A.handled=none) (e:s.heap.get? I=some (nk (rawInt sl) i a es.size ep)) (hS:oU s.heap a es ep t) (hf:t.fits es.size=true)
  (hN:∀{A':Around} {E':Value->Shared->Prop} {Q':Option (Value×Nat)->Shared->Prop},Q' none s->wpAny (model prog w) A' (setNext a sl i ep) Q' E' s)
  (h:∀h',Heap.ExtBut I s.heap h'->Q none {s with heap:=h'}):wpAny (model prog w) A (pyNext (.ref I)) Q E s:=by
 obtain ⟨o,ho,hd⟩:=hS
 have ty:s.TypeIs (.ref I) "set_iterator":=⟨_,e,rfl⟩
 unfold pyNext
 refine wpAny_bind (wpAny_attempt (wpAny_callSpecial?_slot (name:=Str.ofString "__next__") ty bo (wpAny_call_entry bo ty gU ?_ (j3 _))))
 unfold Builtin.«set_iterator.__next__»
 refine wpAny_bind (wpAny_of_eq (a:=(Value.ref I,[])) rfl (wpAny_bind (wpAny_fieldsOf e rfl ?_)))
 refine wpAny_bind (wpAny_setEntries_of ho hd hf ?_)
 rw [if_neg (by simp)]
 refine wpAny_bind (hN ?_)
 refine wpAny_bind (wpAny_setField e rfl (by simp) (wpAny_bind ?_))
 simp only [newExc,newTuple]
 refine wpAny_bind (wpAny_newObj_type ?_ (by size_fits))
 refine wpAny_bind (m:=firstArgMember _ _) (wpAny_of_eq (a:=Value.none) (by first|rfl|(simp only [firstArgMember];rfl)) ?_)
 refine wpAny_newObj_type ?_ (by size_fits)
 simp only [raiseNew]
 refine wpAny_bind (wpAny_handled ?_)
 rw [show A.in1.handled=none from hh]
 refine wpAny_bind (wpAny_pure (wpAny_throw ?_))
 refine wpAny_bind (wpAny_isInstance (T:="StopIteration") (b:=true) ⟨_,Heap.get?_push_size _ rfl,rfl⟩ isSubtype_stop (wpAny_pure (h _ ?_)))
 exact (((Heap.SameBut.update ..).extBut).push _).push _
end
end
section
open PySem
variable {prog:Program} {w:World} {A:Around} {E:Value->Shared->Prop} {s:Shared} {I a T:Addr} {es:Array (Int×Value)} {ep n i:Nat} {t:SetTable}
theorem si_drawn {ps:Array Value} {m p:Nat} {tk:Tok} {k:Int} {x:Value} {Q:Option Value->Shared->Prop} (e:s.heap.get? I=some (nk (.ref T) i a es.size ep)) (hS:oU s.heap a es ep t) (hf:t.fits es.size=true) (hT:s.heap.get? T=some {cls:=.type "tuple",data:=.seq ps m})
  (hp:ps[i]? =some (.int p tk)) (hx:es[p]? =some (k,x)) (h:∀h',h'.get? I=some (nk (.ref T) (i+1) a es.size ep)->Heap.SameBut I s.heap h'->Q (some x) {s with heap:=h'}):wpAny (model prog w) A (pyNext (.ref I)) Q E s:=by
 obtain ⟨o,ho,hd⟩:=hS
 have ty:s.TypeIs (.ref I) "set_iterator":=⟨_,e,rfl⟩
 unfold pyNext
 refine wpAny_bind (wpAny_attempt (wpAny_callSpecial?_slot (name:=Str.ofString "__next__") ty bo (wpAny_call_entry bo ty gU ?_ (j3 _))))
 unfold Builtin.«set_iterator.__next__»
 refine wpAny_bind (wpAny_of_eq (a:=(Value.ref I,[])) rfl (wpAny_bind (wpAny_fieldsOf e rfl ?_)))
 refine wpAny_bind (wpAny_setEntries_of ho hd hf ?_)
 rw [if_neg (by simp)]
 refine wpAny_bind (wpAny_seqItems hT rfl ?_)
 show wpAny _ _ (match ps[(i:Int).toNat]? with|some (.int place _)=>_|some _=>_|none=>_) _ _ _
 rw [Int.toNat_natCast,hp]
 refine wpAny_bind (m:=setNextDrawn a (p:Int).toNat (ep:Int).toNat) ?_
 rw [Int.toNat_natCast,Int.toNat_natCast]
 unfold setNextDrawn
 refine wpAny_bind (wpAny_setState_of ho hd hf ?_)
 dsimp only
 rw [if_neg (by simp),hx]
 refine wpAny_pure (wpAny_bind (wpAny_setField e rfl (by simp) (wpAny_pure ⟨x,rfl,wpAny_pure (h _ (si_step1 e) (Heap.SameBut.update ..))⟩)))
theorem u7 {ps:Array Value} {m:Nat} {Q:Option Value->Shared->Prop} (hh:A.handled=none) (e:s.heap.get? I=some (nk (.ref T) i a es.size ep)) (hS:oU s.heap a es ep t) (hf:t.fits es.size=true) (hT:s.heap.get? T=some {cls:=.type "tuple",data:=.seq ps m})
  (hp:ps[i]? =none) (h:∀h',Heap.ExtBut I s.heap h'->Q none {s with heap:=h'}):wpAny (model prog w) A (pyNext (.ref I)) Q E s:=by
 obtain ⟨o,ho,hd⟩:=hS
 have ty:s.TypeIs (.ref I) "set_iterator":=⟨_,e,rfl⟩
 unfold pyNext
 refine wpAny_bind (wpAny_attempt (wpAny_callSpecial?_slot (name:=Str.ofString "__next__") ty bo (wpAny_call_entry bo ty gU ?_ (j3 _))))
 unfold Builtin.«set_iterator.__next__»
 refine wpAny_bind (wpAny_of_eq (a:=(Value.ref I,[])) rfl (wpAny_bind (wpAny_fieldsOf e rfl ?_)))
 refine wpAny_bind (wpAny_setEntries_of ho hd hf ?_)
 rw [if_neg (by simp)]
 refine wpAny_bind (wpAny_seqItems hT rfl ?_)
 show wpAny _ _ (match ps[(i:Int).toNat]? with|some (.int place _)=>_|some _=>_|none=>_) _ _ _
 rw [Int.toNat_natCast,hp]
 refine wpAny_bind (wpAny_setField e rfl (by simp) (wpAny_bind (wpAny_setField (u6 e 0 (rawInt 0)) rfl (by simp) (wpAny_bind ?_))))
 simp only [newExc,newTuple]
 refine wpAny_bind (wpAny_newObj_type ?_ (by size_fits))
 refine wpAny_bind (m:=firstArgMember _ _) (wpAny_of_eq (a:=Value.none) (by first|rfl|(simp only [firstArgMember];rfl)) ?_)
 refine wpAny_newObj_type ?_ (by size_fits)
 simp only [raiseNew]
 refine wpAny_bind (wpAny_handled ?_)
 rw [show A.in1.handled=none from hh]
 refine wpAny_bind (wpAny_pure (wpAny_throw ?_))
 refine wpAny_bind (wpAny_isInstance (T:="StopIteration") (b:=true) ⟨_,Heap.get?_push_size _ rfl,rfl⟩ isSubtype_stop (wpAny_pure (h _ ?_)))
 exact ((((Heap.SameBut.update ..).trans (Heap.SameBut.update ..)).extBut).push _).push _
theorem vH {first:Value} {Q:Value->Shared->Prop} (e:s.heap.get? I=some (nk first i a n ep)) (h:Q (.ref I) s):wpAny (model prog w) A (pyIter (.ref I)) Q E s:=by
 have ty:s.TypeIs (.ref I) "set_iterator":=⟨_,e,rfl⟩
 refine wpAny_pyIter_slot ty oM (wpAny_call_entry oM ty t4 ?_ (ve _))
 show wpAny (model prog w) A.in1 (ret (.ref I)) _ _ s
 exact wpAny_pure ⟨.ref I,rfl,"set_iterator",_,ty,bo.lookup,h⟩
theorem oU.at {h h':Heap} (H:oU h a es ep t) (e:∀o,h.get? a=some o->h'.get? a=some o):oU h' a es ep t:=let ⟨o,ho,hd⟩:=H;⟨o,e _ ho,hd⟩
theorem uf {α:Type} (f:Nat->Nat):∀(m k:Nat) (left:List α) (out:Array α),left.length=m->(pickOrder.go f m k left out).toList.Perm (out.toList++left)
 |0,k,left,out,h=>by
  unfold pickOrder.go
  rw [List.length_eq_zero_iff.mp h,List.append_nil]
 |m+1,k,left,out,h=>by
  unfold pickOrder.go
  have hl:f k%left.length<left.length:=Nat.mod_lt _ (by omega)
  rw [List.getElem?_eq_getElem hl]
  dsimp only
  refine (uf f m (k+1) _ _ (by rw [List.length_eraseIdx,if_pos hl];omega)).trans ?_
  rw [Array.toList_push,List.append_assoc]
  refine List.Perm.append (List.Perm.refl _) ?_
  have key:∀{β:Type} {l:List β} {i:Nat} (h:i<l.length),(l[i]::l.eraseIdx i).Perm l:=by
   intro β l
   induction l with
   |nil=>intro i h;simp at h
   |cons x xs ih=>
    intro i h
    cases i with
    |zero=>simp
    |succ i=>
     simp only [List.getElem_cons_succ,List.eraseIdx_cons_succ]
     exact (List.Perm.swap _ _ _).trans ((ih (by simpa using h)).cons _)
  exact key hl
theorem uw {sl:Nat} {Q:Option (Value×Nat)->Shared->Prop} (hb:w.params.followText "set-order"=true) (hS:oU s.heap a es ep t) (hf:t.fits es.size=true) (h:Q (((pickOrder (w.params.setOrder a ep) es)[i]?).map fun e=>(e.2,sl)) s):wpAny (model prog w) A (setNext a sl i ep) Q E s:=by
 obtain ⟨o,ho,hd⟩:=hS
 unfold setNext setsByText
 refine wpAny_bind (wpAny_setState_of ho hd hf (wpAny_bind (wpAny_bind (wpAny_askSetting (wpAny_pure ?_)))))
 dsimp only
 rw [if_pos (show (model prog w).w.params.followText "set-order"=true from hb),if_neg (by simp)]
 unfold setWalk setsByText
 refine wpAny_bind (wpAny_bind (wpAny_setState_of ho hd hf (wpAny_bind (wpAny_bind (wpAny_askSetting (wpAny_pure ?_))))))
 dsimp only
 rw [if_pos (show (model prog w).w.params.followText "set-order"=true from hb)]
 exact wpAny_bind (wpAny_askSetting (wpAny_pure (wpAny_pure h)))
theorem ux {sl:Nat} {Q:Option (Value×Nat)->Shared->Prop} (hb:w.params.followText "set-order"=false) (hdr:(!t.plain&&decide (es.size>1))=false) (hled:t.led=true) (hS:oU s.heap a es ep t) (hf:t.fits es.size=true)
  (h:Q (match es[SetTable.below t.place sl]?,t.place[SetTable.below t.place sl]? with|some (_,x),some j=>some (x,j+1)|_,_=>none) s):wpAny (model prog w) A (setNext a sl i ep) Q E s:=by
 obtain ⟨o,ho,hd⟩:=hS
 unfold setNext setsByText
 refine wpAny_bind (wpAny_setState_of ho hd hf (wpAny_bind (wpAny_bind (wpAny_askSetting (wpAny_pure ?_)))))
 dsimp only
 rw [if_neg (show ¬(model prog w).w.params.followText "set-order"=true from by rw [show (model prog w).w.params.followText "set-order"=false from hb];exact Bool.false_ne_true)]
 refine (?_:wpAny (model prog w) A (if (!t.plain&&decide (es.size>1))=true then _ else _) Q E s)
 rw [hdr,if_neg Bool.false_ne_true]
 refine wpAny_bind (Q:=Q) (m:=if (!t.led&& !es.isEmpty)=true then unsupported "set:maker-not-led" else pure ()) ?_
 rw [hled,Bool.not_true,Bool.false_and,if_neg Bool.false_ne_true]
 exact wpAny_pure (wpAny_pure h)
end
section
open PySem
variable {prog:Program} {w:World} {A:Around} {E:Value->Shared->Prop} {s:Shared} {I a T:Addr} {es:Array (Int×Value)} {ep n i:Nat} {t:SetTable}
theorem zi (hh:A.handled=none) (hb:w.params.followText "set-order"=true) (hf:t.fits es.size=true) (hne:a≠I) {ord:List (Int×Value)} (ho:(pickOrder (w.params.setOrder a ep) es).toList=ord) (hol:ord.length=es.size) :
  Walks prog w A I [I,a] [I] es.size (fun i v=>(ord[i]?).map (·.2)=some v) (fun i h=>oU h a es ep t/\h.get? I=some (nk (rawInt 0) i a es.size ep)) where
 sub:=fun b hb=>by simp at hb;simp [hb]
 frame:=fun _ _ _ x k=>⟨x.1.at fun o e=>k a (by simp) o e,k I (by simp) _ x.2⟩
 item:=fun i s Q E hi x hQ=>by
  obtain ⟨v,ev⟩:∃v,ord[i]? =some v:=⟨_,List.getElem?_eq_getElem (by omega)⟩
  have eg:(pickOrder (w.params.setOrder a ep) es)[i]? =some v:=by rw [<- Array.getElem?_toList,ho];exact ev
  refine zH (sl:=0) (x:=v.2) (nx:=0) x.2 x.1 hf (fun {A' E' Q'} q=>uw hb x.1 hf (by rw [eg];exact q)) fun h' e' sb=>?_
  exact hQ v.2 h' s.toks (by rw [ev];rfl) ⟨x.1.at fun o e=>(sb.2 a hne).trans e,e'⟩ fun b o hb e=>sb.extBut b o (fun z=>hb (by simp [z])) e
 done:=fun s Q E x hQ=>by
  have eg:(pickOrder (w.params.setOrder a ep) es)[es.size]? =none:=by rw [<- Array.getElem?_toList,ho];exact List.getElem?_eq_none (by omega)
  exact pA (sl:=0) hh x.2 x.1 hf (fun {A' E' Q'} q=>uw hb x.1 hf (by rw [eg];exact q)) fun h' e=>hQ h' s.toks fun b o hb eo=>e b o (fun z=>hb (by simp [z])) eo
 self:=fun _ _ _ _ x hQ=>vH x.2 hQ
theorem yV {xs:Array Nat} (h:x9 xs.toList):SetTable.below xs 0=0:=by
 obtain ⟨h1,h2,_⟩:=pf h 0
 rcases Nat.eq_zero_or_pos (SetTable.below xs 0) with z|z
 ·exact z
 ·have:=h2 0 (xs[0]'(by omega)) z (Array.getElem?_eq_getElem (by omega))
  omega
theorem yW {xs:Array Nat} (h:x9 xs.toList) {i j:Nat} (e:xs[i]? =some j):SetTable.below xs (j+1)=i+1:=by
 obtain ⟨h1,h2,h3⟩:=pf h (j+1)
 have hi:=(Array.getElem?_eq_some_iff.mp e).1
 rcases Nat.lt_trichotomy (SetTable.below xs (j+1)) (i+1) with z|z|z
 ·have:=h3 i j (by omega) e
  omega
 ·exact z
 ·have e2:xs[i+1]? =some (xs[i+1]'(by omega)):=Array.getElem?_eq_getElem (by omega)
  have g1:=h2 (i+1) _ z e2
  have g2:=h.arr (i:=i) (j:=i+1) (by omega) e e2
  omega
theorem zm (hh:A.handled=none) (hb:w.params.followText "set-order"=false) (hdr:(!t.plain&&decide (es.size>1))=false) (ht:TOk true t) (hf:t.fits es.size=true) (hne:a≠I) :
  Walks prog w A I [I,a] [I] es.size (fun i v=>(es.toList[i]?).map (·.2)=some v) (fun i h=>oU h a es ep t/\∃sl:Nat,h.get? I=some (nk (rawInt sl) i a es.size ep)/\SetTable.below t.place sl=i) where
 sub:=fun b hb=>by simp at hb;simp [hb]
 frame:=fun _ _ _ x k=>⟨x.1.at fun o e=>k a (by simp) o e,let ⟨sl,e,h⟩:=x.2;⟨sl,k I (by simp) _ e,h⟩⟩
 item:=fun i s Q E hi x hQ=>by
  obtain ⟨x1,sl,x2,hsl⟩:=x
  have hps:t.place.size=es.size:=by simp only [SetTable.fits,Bool.and_eq_true,beq_iff_eq] at hf;exact hf.1
  have e1:es[i]? =some (es[i]'hi):=Array.getElem?_eq_getElem hi
  have e2:t.place[i]? =some (t.place[i]'(by omega)):=Array.getElem?_eq_getElem (by omega)
  refine zH (sl:=sl) (x:=(es[i]'hi).2) (nx:=t.place[i]'(by omega)+1) x2 x1 hf (fun {A' E' Q'} q=>ux hb hdr ht.2 x1 hf (by rw [hsl,e1,e2];exact q)) fun h' e' sb=>?_
  exact hQ _ h' s.toks (by rw [Array.getElem?_toList,e1];rfl) ⟨x1.at fun o e=>(sb.2 a hne).trans e,_,e',yW ht.1 e2⟩ fun b o hb e=>sb.extBut b o (fun z=>hb (by simp [z])) e
 done:=fun s Q E x hQ=>by
  obtain ⟨x1,sl,x2,hsl⟩:=x
  have e1:es[es.size]? =none:=Array.getElem?_eq_none (Nat.le_refl _)
  exact pA (sl:=sl) hh x2 x1 hf (fun {A' E' Q'} q=>ux hb hdr ht.2 x1 hf (by rw [hsl,e1];exact q)) fun h' e=>hQ h' s.toks fun b o hb eo=>e b o (fun z=>hb (by simp [z])) eo
 self:=fun _ _ _ _ x hQ=>by obtain ⟨_,sl,x2,_⟩:=x;exact vH x2 hQ
theorem yi (hh:A.handled=none) (hf:t.fits es.size=true) (hne:a≠I) (hneT:T≠I) {ps:List Nat} (hps:ps.Perm (List.range es.size)) {m:Nat} :
  Walks prog w A I [I,a,T] [I] es.size (fun i v=>((ps.filterMap (es[·]?))[i]?).map (·.2)=some v) (fun i h=>oU h a es ep t/\h.get? I=some (nk (.ref T) i a es.size ep)/\h.get? T=some {cls:=.type "tuple",data:=.seq (ps.map fun (i:Nat)=>rawInt i).toArray m}) where
 sub:=fun b hb=>by simp at hb;simp [hb]
 frame:=fun _ _ _ x k=>⟨x.1.at fun o e=>k a (by simp) o e,k I (by simp) _ x.2.1,k T (by simp) _ x.2.2⟩
 item:=fun i s Q E hi x hQ=>by
  have hl:=hps.length_eq
  rw [List.length_range] at hl
  have hin:∀p∈ps,p<es.size:=fun p hp=>List.mem_range.mp (hps.mem_iff.mp hp)
  have hp:ps[i]'(by omega)<es.size:=hin _ (List.getElem_mem _)
  have ef:∀l:List Nat,(∀p∈l,p<es.size)->∀i (h:i<l.length),(l.filterMap (es[·]?))[i]? =es[l[i]]?:=by
   intro l
   induction l with
   |nil=>intro _ i h;simp at h
   |cons p l ih=>
    intro hl i h
    have h1:es[p]? =some (es[p]'(hl p (by simp))):=Array.getElem?_eq_getElem _
    rw [List.filterMap_cons,h1]
    cases i with
    |zero=>simp [h1]
    |succ i=>simp only [List.getElem?_cons_succ,List.getElem_cons_succ];exact ih (fun q hq=>hl q (by simp [hq])) i (by simpa using h)
  have e1:es[ps[i]'(by omega)]? =some (es[ps[i]'(by omega)]'hp):=Array.getElem?_eq_getElem hp
  refine si_drawn (p:=ps[i]'(by omega)) (tk:=0) (k:=(es[ps[i]'(by omega)]'hp).1) (x:=(es[ps[i]'(by omega)]'hp).2) x.2.1 x.1 hf x.2.2 (by simp [show i<ps.length by omega,rawInt]) e1 fun h' e' sb=>?_
  exact hQ _ h' s.toks (by rw [ef ps hin i (by omega),e1];rfl) ⟨x.1.at fun o e=>(sb.2 a hne).trans e,e',(sb.2 T hneT).trans x.2.2⟩ fun b o hb e=>sb.extBut b o (fun z=>hb (by simp [z])) e
 done:=fun s Q E x hQ=>by
  have hl:=hps.length_eq
  rw [List.length_range] at hl
  exact u7 hh x.2.1 x.1 hf x.2.2 (by simp [hl]) fun h' e=>hQ h' s.toks fun b o hb eo=>e b o (fun z=>hb (by simp [z])) eo
 self:=fun _ _ _ _ x hQ=>vH x.2.1 hQ
theorem yQ {m:Nat} {Q:Nat->Shared->Prop} (h0:m≠0) (h:Q (w.draws .order (s.drawn.get .order)%m) {s with drawn:=s.drawn.bump .order}):wpAny (model prog w) A (choose .order m) Q E s:=fun Γ p hΓ=>by
 unfold choose
 rw [Sem.wp_choose]
 exact ⟨h0,h⟩
theorem uQ {α:Type}:∀(m:Nat) (xs:List α) (s:Shared) {Q:List α->Shared->Prop},xs.length=m->(∀ys d,ys.Perm xs->Q ys {s with drawn:=d})->wpAny (model prog w) A (drawOrder m xs) Q E s
 |0,xs,s,Q,h,q=>by
  unfold drawOrder
  rw [List.length_eq_zero_iff.mp h] at q
  exact wpAny_pure (q [] s.drawn (List.Perm.refl _))
 |m+1,[],s,Q,h,q=>by simp at h
 |m+1,x::xs,s,Q,h,q=>by
  unfold drawOrder
  refine wpAny_bind (yQ (by simp) ?_)
  have hl:w.draws .order (s.drawn.get .order)%(x::xs).length<(x::xs).length:=Nat.mod_lt _ (by simp)
  generalize w.draws .order (s.drawn.get .order)%(x::xs).length=i at hl ⊢
  rw [List.getElem?_eq_getElem hl]
  dsimp only
  refine wpAny_bind (uQ m ((x::xs).eraseIdx i) _ (by rw [List.length_eraseIdx,if_pos hl];simp at h ⊢;omega) fun ys d hp=>wpAny_pure (q _ d ?_))
  have key:∀{β:Type} {l:List β} {i:Nat} (h:i<l.length),(l[i]::l.eraseIdx i).Perm l:=by
   intro β l
   induction l with
   |nil=>intro i h;simp at h
   |cons x xs ih=>
    intro i h
    cases i with
    |zero=>simp
    |succ i=>
     simp only [List.getElem_cons_succ,List.eraseIdx_cons_succ]
     exact (List.Perm.swap _ _ _).trans ((ih (by simpa using h)).cons _)
  exact (hp.cons _).trans (key hl)
end
section
open PySem
variable {prog:Program} {w:World} {A:Around} {E:Value->Shared->Prop} {s:Shared} {a:Addr}
noncomputable def Begun (prog:Program) (w:World) (I a:Addr) (vs:List Value) (low:Nat) (h:Heap):Prop:=
 ∃(fp:List Addr) (St:Nat->Heap->Prop),(∀A:Around,A.handled=none->Walks prog w A I fp [I] vs.length (fun i v=>vs[i]? =some v) St)/\St 0 h/\∀c∈fp,c=a\/low<=c
theorem zF {ord:List (Int×Value)} {i:Nat} {v:Value}:((ord.map (·.2))[i]? =some v)=((ord[i]?).map (·.2)=some v):=by rw [List.getElem?_map]
theorem Walks.by {I:Addr} {fp wr:List Addr} {n m:Nat} {P P':Nat->Value->Prop} {St:Nat->Heap->Prop} (W:Walks prog w A I fp wr n P St) (hn:n=m) (hP:∀i v,P' i v=P i v):Walks prog w A I fp wr m P' St:=by
 subst hn
 have:P'=P:=funext fun i=>funext fun v=>hP i v
 rw [this]
 exact W
theorem perm_keys {es:Array (Int×Value)} {ord:List (Int×Value)} {ks:List Int} (hp:(es.toList.map fun e=>qI e.2).Perm ks) (h:ord.Perm es.toList):((ord.map (·.2)).map qI).Perm ks:=by
 rw [List.map_map]
 exact (h.map _).trans hp
theorem wc {es:Array (Int×Value)} {ord:List (Int×Value)} (he:ElemsOf (intKind prog w) es.toList) (h:ord.Perm es.toList):∀v∈ord.map (·.2),∃t,v=.int (qI v) t:=fun v hv=>by
 obtain ⟨e,m,rfl⟩:=List.mem_map.mp hv
 obtain ⟨k,hk⟩:=he.keys e (h.mem_iff.mp m)
 obtain ⟨t,et⟩:=key_is hk
 rw [et]
 exact ⟨t,rfl⟩
theorem Ar {ks:List Int} {Q:Value->Shared->Prop} (H:tN prog w (o8 w) s.heap a ks)
  (h:∀I vs h' d,(∀c o,s.heap.get? c=some o->h'.get? c=some o)->s.heap.objs.size<=I->Begun prog w I a vs s.heap.objs.size h'->(vs.map qI).Perm ks->(∀v∈vs,∃t,v=.int (qI v) t)->Q (.ref I) {s with heap:=h',drawn:=d}):wpAny (model prog w) A (pyIter (.ref a)) Q E s:=by
 have ty:=H.ty
 obtain ⟨o,es,ep,t,ho,hx,hd,he,hp,hn,hb,hf,ht⟩:=H
 have ha:a<s.heap.objs.size:=Heap.lt_size ho
 refine wpAny_pyIter_slot ty F.slot_set_iter (wpAny_call_entry F.slot_set_iter ty uP ?_ (F.args_set_iter_1 _))
 unfold Builtin.«frozenset.__iter__» Builtin.Frozenset.slot0 slotArgs Builtin.Frozenset.sizeOf
 simp only [List.isEmpty_nil,Bool.not_true,Bool.false_eq_true,↓reduceIte,bind_assoc,List.length_nil,bne_self_eq_false]
 unfold Builtin.Frozenset.addrOf
 refine wpAny_bind (wpAny_pure ?_)
 dsimp only
 refine wpAny_bind (wpAny_pure (wpAny_bind (wpAny_setEntries_of ho hd hf (wpAny_bind (wpAny_pure ?_)))))
 unfold setDrawn setsByText
 simp only [bind_assoc]
 refine wpAny_bind (wpAny_setState_of ho hd hf (wpAny_bind (wpAny_askSetting ?_)))
 simp only [pure_bind]
 cases htx:w.params.followText "set-order" with
 |true=>
  have ord:=uf (w.params.setOrder a ep) es.size 0 es.toList #[] (by simp)
  refine (?_:wpAny (model prog w) A.in1 (if (!(w.params.followText "set-order")&&_)=true then _ else _) _ _ s)
  rw [htx,Bool.not_true,Bool.false_and,if_neg Bool.false_ne_true]
  refine wpAny_bind (wpAny_setEpoch_of ho hd hf (wpAny_bind (wpAny_newObj_type (wpAny_pure ⟨_,rfl,"set_iterator",_,⟨_,Heap.get?_push_size _ rfl,rfl⟩,bo.lookup,?_⟩) (by size_fits))))
  have op:(pickOrder (w.params.setOrder a ep) es).toList.Perm es.toList:=ord
  refine h _ ((pickOrder (w.params.setOrder a ep) es).toList.map (·.2)) _ s.drawn (fun c o e=>Heap.get?_push_of_some _ e) (Nat.le_refl _) ⟨_,_,fun A' hh=>Walks.by (zi (t:=t) (ep:=ep) hh htx hf (Nat.ne_of_lt ha) rfl (by have:=op.length_eq;simpa using this)) (by have:=op.length_eq;simp at this ⊢;omega) (fun i v=>zF),⟨⟨o,Heap.get?_push_of_some _ ho,hd⟩,Heap.get?_push_size _ rfl⟩,fun c hc=>?_⟩ (perm_keys hp op) (wc he op)
  simp only [List.mem_cons,List.not_mem_nil,or_false] at hc
  rcases hc with z|z
  ·exact .inr (by rw [z];exact Nat.le_refl _)
  ·exact .inl z
 |false=>
  have hl:t.led=true:=by rw [ht.2];show (!w.params.followText "set-order")=true;rw [htx];rfl
  refine (?_:wpAny (model prog w) A.in1 (if (!(w.params.followText "set-order")&&(!t.plain&&decide (es.size>1)))=true then _ else _) _ _ s)
  rw [htx,Bool.not_false,Bool.true_and]
  cases hdr:(!t.plain&&decide (es.size>1)) with
  |false=>
   rw [if_neg Bool.false_ne_true]
   refine wpAny_bind (wpAny_setEpoch_of ho hd hf (wpAny_bind (wpAny_newObj_type (wpAny_pure ⟨_,rfl,"set_iterator",_,⟨_,Heap.get?_push_size _ rfl,rfl⟩,bo.lookup,?_⟩) (by size_fits))))
   refine h _ (es.toList.map (·.2)) _ s.drawn (fun c o e=>Heap.get?_push_of_some _ e) (Nat.le_refl _) ⟨_,_,fun A' hh=>Walks.by (zm (ep:=ep) hh htx hdr ⟨ht.1,hl⟩ hf (Nat.ne_of_lt ha)) (by simp) (fun i v=>zF),⟨⟨o,Heap.get?_push_of_some _ ho,hd⟩,0,Heap.get?_push_size _ rfl,yV ht.1⟩,fun c hc=>?_⟩ (perm_keys hp (List.Perm.refl _)) (wc he (List.Perm.refl _))
   simp only [List.mem_cons,List.not_mem_nil,or_false] at hc
   rcases hc with z|z
   ·exact .inr (by rw [z];exact Nat.le_refl _)
   ·exact .inl z
  |true=>
   rw [if_pos rfl]
   have h4:scanBound=4096:=rfl
   have hz:=sizeLine_eq
   refine wpAny_bind (uQ es.size (List.range es.size) s (by simp) fun ps d hps=>?_)
   have hpl:ps.length=es.size:=by have:=hps.length_eq;simpa using this
   refine wpAny_bind (wpAny_newTuple ?_ (by rw [List.length_map];omega))
   have ho':(s.heap.push {cls:=.type "tuple",data:=.seq (ps.map fun (i:Nat)=>rawInt i).toArray}).get? a=some o:=Heap.get?_push_of_some _ ho
   refine wpAny_bind (wpAny_setEpoch_of (s:={s with heap:=s.heap.push {cls:=.type "tuple",data:=.seq (ps.map fun (i:Nat)=>rawInt i).toArray},drawn:=d}) ho' hd hf (wpAny_bind (wpAny_newObj_type (wpAny_pure ⟨_,rfl,"set_iterator",_,⟨_,Heap.get?_push_size _ rfl,rfl⟩,bo.lookup,?_⟩) (by size_fits))))
   have op:(ps.filterMap (es[·]?)).Perm es.toList:=(hps.filterMap _).trans (by rw [filterMap_getElem?_range])
   have up:(s.heap.push {cls:=.type "tuple",data:=.seq (ps.map fun (i:Nat)=>rawInt i).toArray}).objs.size=s.heap.objs.size+1:=Heap.size_push ..
   refine h _ ((ps.filterMap (es[·]?)).map (·.2)) _ d (fun c o e=>Heap.get?_push_of_some _ (Heap.get?_push_of_some _ e)) (by rw [up];exact Nat.le_succ _) ⟨_,_,fun A' hh=>Walks.by (yi (T:=s.heap.objs.size) (ep:=ep) hh hf (by rw [up];exact Nat.ne_of_lt (Nat.lt_succ_of_lt ha)) (by rw [up];exact Nat.ne_of_lt (Nat.lt_succ_self _)) hps) (by have:=op.length_eq;simp at this ⊢;omega) (fun i v=>zF),⟨⟨o,Heap.get?_push_of_some _ ho',hd⟩,Heap.get?_push_size _ rfl,Heap.get?_push_of_some _ (Heap.get?_push_size _ rfl)⟩,fun c hc=>?_⟩ (perm_keys hp op) (wc he op)
   simp only [List.mem_cons,List.not_mem_nil,or_false] at hc
   rcases hc with z|z|z
   ·exact .inr (by rw [z,up];exact Nat.le_succ _)
   ·exact .inl z
   ·exact .inr (by rw [z];exact Nat.le_refl _)
theorem uY {ks:List Int} {Q:List Value->Shared->Prop} (hh:A.handled=none) (H:tN prog w (o8 w) s.heap a ks)
  (h:∀vs h' d tk,(∀c o,s.heap.get? c=some o->h'.get? c=some o)->s.heap.objs.size<=h'.objs.size->(vs.map qI).Perm ks->(∀v∈vs,∃t,v=.int (qI v) t)->Q vs {s with heap:=h',drawn:=d,toks:=tk}):wpAny (model prog w) A (collect (.ref a)) Q E s:=by
 have hz:=sizeLine_eq
 have hks:ks.length<4096:=by
  obtain ⟨o,es,ep,t,ho,hx,hd,he,hp,hn,hb,hf,ht⟩:=H
  have:=hp.length_eq
  have h4:scanBound=4096:=rfl
  simp at this
  omega
 have ha:a<s.heap.objs.size:=by obtain ⟨o,_,_,_,ho,_⟩:=H;exact Heap.lt_size ho
 unfold collect
 refine wpAny_bind (wpAny_runValue (codeAny_builtin (F.entry_proto_collect) ?_))
 rw [Around.under_plainId (F.plain_proto_collect) _]
 show wpAny (model prog w) A.in1 (newList [] >>= fun l=>again (.builtin "list.__iadd__" ⟨[l,.ref a],[]⟩)) _ _ s
 refine wpAny_bind (wpAny_newObj_type ?_)
 refine wpAny_pure ⟨plainId_quiet F.plain_list_iadd _,codeAny_builtin (F.entry_list_iadd) ?_⟩
 rw [Around.under_plainId (F.plain_list_iadd) _]
 have H1:tN prog w (o8 w) (s.heap.push {cls:=.type "list",data:=.seq ([]:List Value).toArray}) a ks:=H.at fun o e=>Heap.get?_push_of_some _ e
 have ty:Shared.TypeIs {s with heap:=s.heap.push {cls:=.type "list",data:=.seq ([]:List Value).toArray}} (.ref a) "set":=H1.ty
 have e0:(s.heap.push {cls:=.type "list",data:=.seq ([]:List Value).toArray}).get? s.heap.objs.size=some {cls:=.type "list",data:=.seq ([]:List Value).toArray}:=Heap.get?_push_size _ rfl
 have up:(s.heap.push {cls:=.type "list",data:=.seq ([]:List Value).toArray}).objs.size=s.heap.objs.size+1:=Heap.size_push ..
 show wpAny (model prog w) A.in1 (Builtin.List.listExtendWith (.ref s.heap.objs.size) (.ref a) (.ref s.heap.objs.size)) _ _ _
 unfold Builtin.List.listExtendWith
 refine wpAny_bind (wpAny_typeOf ty ?_)
 have k1:Builtin.List.listSameRef (.ref s.heap.objs.size) (.ref a)=false:=by simpa [Builtin.List.listSameRef] using Nat.ne_of_gt ha
 have k2:(Value.type "set"==Value.type "list")=false:=by decide
 have k3:(Value.type "set"==Value.type "tuple")=false:=by decide
 simp only [k1,k2,k3,Bool.or_false,Bool.false_eq_true,if_false]
 refine wpAny_bind (Ar (s:={s with heap:=s.heap.push {cls:=.type "list",data:=.seq ([]:List Value).toArray}}) H1 fun I vs h1 d kp hI bg hp hi=>?_)
 have ty1:Shared.TypeIs {s with heap:=h1,drawn:=d} (.ref a) "set":=by
  obtain ⟨o,_,_,_,ho,hx,_⟩:=H1
  exact ⟨o,kp _ _ ho,hx.1⟩
 refine wpAny_bind (wpAny_holding ?_)
 unfold Builtin.List.listLengthHint
 refine wpAny_bind (wpAny_specialOf ty1 F.slot_set_len.lookup ?_)
 wp_delta
 refine wpAny_bind (wpAny_isInstance (T:="set") (b:=true) ty1 sub_set_self ?_)
 refine wpAny_bind (wpAny_typeOf ty1 (wpAny_pure ?_))
 rw [if_pos (by decide)]
 refine wpAny_bind (wpAny_rule (wpAny_bind ?_))
 have g1:=kp _ _ e0
 show wpAny (model prog w) A.in1 (updateSeq s.heap.objs.size (·.push .none) >>= fun _=>updateSeq s.heap.objs.size (·.pop)) _ _ {s with heap:=h1,drawn:=d}
 refine wpAny_bind (wpAny_updateSeq g1 rfl ?_)
 have g2:=Heap.get?_update_self (Obj.mapSeq (·.push Value.none)) g1 rfl
 refine wpAny_updateSeq g2 rfl ?_
 have g3:=Heap.get?_update_self (Obj.mapSeq (·.pop)) g2 rfl
 have oth:∀c o,c≠s.heap.objs.size->h1.get? c=some o->((h1.update s.heap.objs.size (Obj.mapSeq (·.push Value.none))).update s.heap.objs.size (Obj.mapSeq (·.pop))).get? c=some o:=fun c o hc e=>(Heap.get?_update_other _ _ (Ne.symm hc)).trans ((Heap.get?_update_other _ _ (Ne.symm hc)).trans e)
 obtain ⟨fp,St,W,st,low⟩:=bg
 have hS:s.heap.objs.size∉fp:=fun z=>by
  rcases low _ z with q|q
  ·exact Nat.ne_of_gt ha q
  ·rw [up] at q;exact Nat.not_succ_le_self _ q
 have hvl:vs.length<=sizeLine:=by have:=hp.length_eq;simp at this;omega
 refine wpAny_pure ⟨plainId_quiet F.plain_extend_loop _,codeAny_extend_loopS (W A.in1 (by simp [hh])).toS hvl _ hS _ vs.length 0 _ _ _ rfl (Nat.zero_le _) ((W A hh).frame 0 _ _ st fun c hc o e=>oth c o (fun z=>hS (z▸hc)) e) g3 (ItemsOf.nil _) fun s' acc' c' hm hS' hacc=>?_⟩
 show wpAny (model prog w) A (load s.heap.objs.size >>= _) _ _ s'
 refine wpAny_bind (wpAny_load hS' (wpAny_pure ?_))
 have ev:acc'.toList=vs:=by
  apply List.ext_getElem?
  intro i
  by_cases hi:i<vs.length
  ·have h2:i<acc'.size:=by rw [hacc.1];exact hi
   have h3:=hacc.2 i acc'[i] (by simp [h2])
   rw [h3]
   simp [h2]
  ·rw [List.getElem?_eq_none (by rw [Array.length_toList,hacc.1];omega),List.getElem?_eq_none (by omega)]
 have es':=Moved.eq_with hm
 dsimp only at es'
 rw [es',ev]
 refine h vs _ d _ (fun c o e=>?_) ?_ hp hi
 ·have hc:c<s.heap.objs.size:=Heap.lt_size e
  refine hm.heap c o (fun z=>?_) (oth c o (Nat.ne_of_lt hc) (kp c o (Heap.get?_push_of_some _ e)))
  rcases List.mem_cons.mp z with z|z
  ·exact Nat.ne_of_lt hc z
  ·simp at z
   subst z
   rw [up] at hI
   exact absurd hc (Nat.not_lt.mpr (Nat.le_of_succ_le hI))
 ·exact Nat.le_of_lt (Heap.lt_size hS')
end
end L2
namespace L2
open PySem PySem.Spec PyProof.Rows
noncomputable def jR:Dat->M Dat
 |.lst ds=>(bS ds).bind fun is=>if ds.length<64 then .ok (.lst ((eQ ltZ (keysOf is)).map .int)) else stk
 |_=>stk
theorem Inv.draws {X:Cx} {pins:List (Addr×Obj)} {σ:St} {H:Hp} {s:Shared} {d:Drawn} (I:Inv X pins σ H s):Inv X pins σ H {s with drawn:=d}:=⟨I.ok,I.os,I.bare,I.base,I.loc,I.cell,I.free,I.freeC,I.pin,I.hok,I.len⟩
theorem boot_set:bootBuiltins "set"=some (.type "set"):=by decide +kernel
section
open PySem.W
variable {prog:Program} {w:World} {A:Around} {E:Value->Shared->Prop} {s:Shared}
theorem xE:∀{vs:List Value},(∀v∈vs,∃t,v=.int (qI v) t)->IntsAre vs (vs.map qI)
 |[],_=>.nil
 |v::vs,h=>by
  obtain ⟨t,e⟩:=h v (by simp)
  rw [List.map_cons,e]
  exact .cons _ _ (xE fun u hu=>h u (by simp [hu]))
theorem vG {a:Addr} {ks:List Int} {Q:Value->Shared->Prop} (hh:A.handled=none) (H:tN prog w (o8 w) s.heap a ks) (h64:ks.length<64)
  (h:∀(h':Heap) (D:Addr) (c tk:Nat) (d:Drawn) (vs:List Value),s.heap.objs.size<=D->(∀b o,s.heap.get? b=some o->h'.get? b=some o)->h'.get? D=some (seqObj "list" (mj (rk ltZ (vs.map qI) 0) vs).toArray c)->(vs.map qI).Perm ks->IntsAre vs (vs.map qI)->Q (.ref D) {s with heap:=h',drawn:=d,toks:=tk}) :
  wpAny (model prog w) A (call (.builtin "sorted") [.ref a]) Q E s:=by
 have hz:=sizeLine_eq
 refine Calls.call_function_entry kind_sorted plain_sorted entry_sorted (args_sorted1 _) ?_
 unfold Builtin.«sorted»
 refine wpAny_bind (m:=checkCount "sorted" 1 1 _) (wpAny_pure (wpAny_bind (uY (A:=A.in1) hh H fun vs h1 d tk kp hsz hp hi=>?_)))
 have hl:vs.length=ks.length:=by have:=hp.length_eq;simpa using this
 refine wpAny_bind (wpAny_newList ?_ (by omega))
 have hD:(h1.push (seqObj "list" vs.toArray 0)).get? h1.objs.size=some (seqObj "list" vs.toArray 0):=Heap.get?_push_size _ rfl
 have ia:=xE hi
 have no:∀b o,s.heap.get? b=some o->b≠h1.objs.size:=fun b o q=>Nat.ne_of_lt (Heap.lt_size (kp b o q))
 refine wpAny_bind (wpAny_holding (wpAny_call_entry (s:={s with heap:=h1.push (seqObj "list" vs.toArray 0),drawn:=d,toks:=tk}) slot_list_sort ⟨_,hD,rfl⟩ entry_list_sort (uB (key:=rk ltZ (vs.map qI) 0) hD (by omega) (fun h2 h3 k3=>vd ia h2) fun h' c k' e'=>⟨_,rfl,?_⟩) (args_list_sort _)))
 exact wpAny_pure ⟨_,rfl,h h' _ c tk d vs hsz (fun b o q=>k' b o (no b o q) (Heap.get?_push_of_some _ (kp b o q))) e' hp ia⟩
theorem zp:∀{vs:List Value} {is:List Int},IntsAre vs is->Vals (is.map V.int) vs
 |_,_,.nil=>.nil
 |_,_,.cons n t r=>.cons ⟨t,rfl⟩ (zp r)
theorem out_ints {vs:List Value} {is:List Int} (h:IntsAre vs is):IntsAre (mj (rk ltZ is 0) vs) (eQ ltZ is):=by
 have hl:=h.length
 unfold mj
 by_cases h2:vs.length<2
 ·rw [if_pos h2,pT (by omega)]
  exact h
 ·rw [if_neg h2,hl,<- uk ordZ is 0 (by omega)]
  obtain ⟨h1,_⟩:=si (key:=rk ltZ is 0) (n:=is.length) (by omega)
  have inr:∀i∈(eF (ltK (rk ltZ is 0)) (kas_sort is.length)).toList,i<vs.length:=fun i hi=>by
   have:=List.mem_range.mp (h1.mem_iff.mp hi);omega
  generalize (eF (ltK (rk ltZ is 0)) (kas_sort is.length)).toList=l at inr
  induction l with
  |nil=>exact .nil
  |cons i l ih=>
   obtain ⟨t,e⟩:=IntsAre.int_at h i (vs[i]'(inr i (by simp))) (List.getElem?_eq_getElem _)
   have e2:vs.getD i Value.none=.int (is.getD i 0) t:=by rw [List.getD_eq_getElem?_getD,List.getElem?_eq_getElem (inr i (by simp))];exact e
   rw [List.map_cons,List.map_cons,e2]
   exact .cons _ _ (ih fun j hj=>inr j (by simp [hj]))
end
section
variable {X:Cx} {K:PySem.W.Frag} {W:gC} {a:Expr} {pos p p1 pos1:Pos} {fa:af->M Dat}
theorem xO {F:Hp}:∀is:List Int,aB K F (is.map .int) (is.map V.int)
 |[]=>rfl
 |i::is=>⟨.int i,is.map V.int,rfl,rfl,xO is⟩
theorem rl {is:List Int} (h:is.length<64):(keysOf is).length<64:=by
 have:=p9 is []
 unfold keysOf
 simp at this
 omega
theorem wx (hml:X.mg "sorted"=none) (hm:X.mg "set"=none) (ha:DE K W false X a fa) (hc:X.calm=true:=by rfl) (hgl:Gl X "sorted":=by rfl) (hg:Gl X "set":=by rfl) (hs:starEach [a] X.env=[(false,eval a X.env)]:=by rfl)
  (hst:starEach [.Call (.Name "set" p1) [a] [] pos1] X.env=[(false,eval (.Call (.Name "set" p1) [a] [] pos1) X.env)]:=by rfl) (hK:X.K=K:=by rfl) :
  DE K W true X (.Call (.Name "sorted" p) [.Call (.Name "set" p1) [a] [] pos1] [] pos) (f1 jR fa):=by
 subst hK
 intro pins s σ H Q I h
 obtain ⟨F,ρ,r,sm,post⟩:=h
 refine wpAny_Call_Name_kw (oO I hgl hml boot_sorted ?_ (by decide) (by decide))
 have made:wpAny (model X.prog X.w) X.A (eval (.Call (.Name "set" p1) [a] [] pos1) X.env) (fun t s1=>∃s0 H2 is h' tk,t=.ref s0.heap.objs.size/\s1={s0 with heap:=h',toks:=tk}/\Inv X pins σ H2 s0/\is.length<64/\tN X.prog X.w (o8 X.w) h' s0.heap.objs.size (keysOf is)/\(∀c o,c<s0.heap.objs.size->s0.heap.get? c=some o->h'.get? c=some o)/\∀S,H2 S=none->Q (.ref S) (upd H2 S (.lst ((eQ ltZ (keysOf is)).map V.int)))) X.xe s:=by
  refine Call_ (oO I hg hm boot_set (PyProof.Rows.callWith_type1 (thn (b9 ha dE hs pos1 pins s σ H (fun us H2=>∃l is,us=[.ref l]/\is.length<64/\SqL X.K H2 l (is.map V.int)/\∀S,H2 S=none->Q (.ref S) (upd H2 S (.lst ((eQ ltZ (keysOf is)).map V.int)))) I ?_) fun us s1 ⟨vs,H1,I1,r1,q1⟩=>?_) hs rfl))
  ·refine bZ r sm (fun e he=>?_) fun d hd v F1 H1 s1 q1=>?_
   ·have z:f1 jR fa ρ=.error e:=by unfold f1;rw [he];rfl
    rw [z] at post;exact post
   ·have z:f1 jR fa ρ=jR d:=by unfold f1;rw [hd];rfl
    rw [z] at post
    have post:=post.step s1
    cases d with
    |lst ds=>
     obtain ⟨c,xs,e,t,zz⟩:=q1
     have post:aH X.K W true F1 H1 ((bS ds).bind fun is=>if ds.length<64 then .ok (.lst ((eQ ltZ (keysOf is)).map .int)) else stk) Q:=post
     cases ei:bS ds with
     |error z=>rw [ei] at post;have:=jE ei;subst this;exact (W.ns post).elim
     |ok is=>
      rw [ei] at post
      have post:aH X.K W true F1 H1 (if ds.length<64 then .ok (.lst ((eQ ltZ (keysOf is)).map .int)) else stk) Q:=post
      have hx:=iq zz ei
      subst hx
      have hl:ds.length=is.length:=by have:=zz.length;simp at this;omega
      by_cases h64:ds.length<64
      ·rw [if_pos h64] at post
       exact ⟨c,is,by rw [e],by omega,s1.fh.lst t,fun S hS=>post.lst s1.fh (xO _) hS⟩
      ·rw [if_neg h64] at post
       exact (W.ns post).elim
    |_=>exact (W.ns post).elim
  ·obtain ⟨l,is,e,h64,hq,go⟩:=q1
   subst e
   obtain ⟨u,rfl,ru⟩:=r1.one
   cases (show u=Value.ref l from ru)
   obtain ⟨its,rv,pl,hz⟩:=I1.list hq
   have hl:=rv.length
   rw [List.length_map] at hl
   have h4:scanBound=4096:=rfl
   exact B6 (I.ok.hd hc) pl.isList (by simpa using intsAre_of rv) (by rw [List.size_toArray];omega) fun h' tk S' k'=>⟨s1,H1,is,h',tk,rfl,rfl,I1,h64,S',k',go⟩
 refine PyProof.Rows.callWith_builtin1 ?_ hst rfl
 rw [hst]
 refine Calls.spliced_cons (thn made fun t s1 ⟨s0,H2,is,h',tk,et,es,I2,h64,S',k',go⟩=>wpAny_pure ?_)
 subst et es
 have low:s0.heap.objs.size<h'.objs.size:=by obtain ⟨o,_,_,_,ho,_⟩:=S';exact Heap.lt_size ho
 refine vG (s:={s0 with heap:=h',toks:=tk}) (I.ok.hd hc) S' (rl h64) fun h2 D c tk2 d vs hD kp e hp ia=>?_
 have eo:=out_ints ia
 rw [mM ordZ ((cK _).trans (hp.trans (cK (keysOf is)).symm)) (eB ordZ _) (eB ordZ _)] at eo
 have hll:(eQ ltZ (keysOf is)).length<64:=by rw [(cK _).length_eq];exact rl h64
 have hD':s0.heap.objs.size<=D:=Nat.le_trans (Nat.le_of_lt low) hD
 have hz:=sizeLine_eq
 exact ⟨.ref D,_,(I2.laid (t':=tk2) (fun b o q=>kp b o (k' b o (Heap.lt_size q) q)) hD' (show dv X.prog X.w _ h2 D (.lst ((eQ ltZ (keysOf is)).map V.int)) from ⟨by rw [List.length_map];omega,_,c,zp eo,e⟩)).draws,rfl,go D (I2.hok.fresh hD')⟩
end
end L2
namespace L2
open PySem PySem.Spec PyProof.Rows
noncomputable def rK:Dat->Dat->M Dat
 |.lst ds,.int k=>(bS ds).bind fun xs=>.ok (.int (xs.countP (·==k):Nat))
 |_,_=>stk
@[simp] theorem e_countD (ds:List Dat) (k:Int):rK (.lst ds) (.int k)=(bS ds).bind fun xs=>.ok (.int (xs.countP (·==k):Nat)):=id rfl
noncomputable def rC (fo fe:af->M Dat):af->M Dat:=fun ρ=>(fo ρ).bind fun a=>if isL a=true then (fe ρ).bind fun b=>rK a b else stk
@[simp] theorem e_fCount (fo fe:af->M Dat) (ρ:af):rC fo fe ρ=(fo ρ).bind fun a=>if isL a=true then (fe ρ).bind fun b=>rK a b else stk:=id rfl
noncomputable def rCount (K:PySem.W.Frag):V->List V->Hp->VK->Prop:=fun x vs H Q=>∃(l:Addr) (is:List Int) (k:Int),x=.ref l/\vs=[.int k]/\SqL K H l (is.map V.int)/\Q (.int (is.countP (·==k):Nat)) H
section
variable {X:Cx} {K:PySem.W.Frag} {W:gC}
theorem rJ {k:Int}:∀{is:List Int} {us:List Value},Vals (is.map V.int) us->us.countP (isK k)=is.countP (·==k)
 |[],_,.nil=>rfl
 |a::is,_,.cons r rs=>by
  obtain ⟨t,rfl⟩:=(show ∃t,_=Value.int a t from r)
  rw [List.countP_cons,List.countP_cons,rJ rs]
  rfl
theorem mt_count (hu:X.A.units+64<cLine):MtR X "list.count" (rCount X.K):=by
 intro pins s σ H x vs v us Q I rx rv h;obtain ⟨l,is,k,rfl,rfl,hS,q⟩:=h
 cases rx
 obtain ⟨u,rfl,ru⟩:=rv.one
 obtain ⟨its,r,pl,hz⟩:=I.list hS
 obtain ⟨o,n,e,hcls,hdict,hdata⟩:=id pl
 obtain ⟨t,rfl⟩:=(show ∃t,u=Value.int k t from ru)
 have hlen:is.length=its.length:=by rw [<- r.length,List.length_map]
 obtain ⟨oc,odd,odt,osl⟩:=o
 refine call_meets PySem.F.slot_list_count ⟨_,e,hcls⟩ PySem.F.entry_list_count (PySem.F.args_list_count_2 _ _) (SeqAt.list_countAt l its.toArray n odd osl (.int k t) (isK k)) ⟨?_,fun y hy=>?_,?_⟩
 ·rw [e]
  cases (show oc=.type "list" from hcls)
  cases (show odt=.seq its.toArray n from hdata)
  rfl
 ·have hm:y∈its:=by simpa using hy
  obtain ⟨m,hml,rfl⟩:=List.getElem_of_mem hm
  obtain ⟨t',e'⟩:∃t,its[m]=.int (is[m]'(by omega)) t:=by
   obtain ⟨t,ht⟩:=qW r m (is[m]'(by omega)) (List.getElem?_eq_getElem _)
   rw [List.getElem?_eq_getElem hml] at ht
   exact ⟨t,Option.some.inj ht⟩
  rw [e']
  have z:=AF (F:=H) (x:=.int (is[m]'(by omega))) (y:=.int k) (A:=X.A.in1) I (b0.refl H) (.int (is[m]'(by omega))) (.int k) (by simp [okE]) (by simp [okE]) rfl rfl ⟨t',rfl⟩ ⟨t,rfl⟩ (by show X.A.units+1+40<cLine;omega)
  rw [show eqD (.int (is[m]'(by omega))) (.int k)=isK k (.int (is[m]'(by omega)) t') by simp [eqD,isK]] at z
  exact z
 ·rw [List.toList_toArray,rJ r]
  exact ⟨.int (is.countP (·==k):Nat),H,I.tok _,⟨_,rfl⟩,q⟩
variable {o e:Expr} {fo fe:af->M Dat} {apos cpos:Pos}
theorem de_count (hu:X.A.units+64<cLine) (ho:DE K W false X o fo) (he:DE K W false X e fe) (hK:X.K=K:=by rfl) (hbase:attributeBase o "count" X.env (eval o X.env)=eval o X.env:=by rfl)
  (hfew:((backTo cpos (starEach [e] X.env)).all (fun x=> !x.1)&&(backToKw cpos (keywordEach [] X.env)).all (fun x=>x.1.isSome)&&decide ([e].length+([]:List Keyword).length+(if ([]:List Keyword).isEmpty then 0 else 1)<30))=true:=by rfl)
  (hline:(apos.endLine==cpos.line)=true:=by rfl) (hs:starEach [e] X.env=(false,eval e X.env)::starEach [] X.env:=by rfl) (hplain:(backTo cpos (starEach [] X.env)).any (·.1)=false:=by rfl) :
  DE K W false X (.Call (.Attribute o "count" apos) [e] [] cpos) (rC fo fe):=by
 subst hK
 refine PE.imp (pe_bm PySem.F.plainAttrs_list PySem.F.slot_list_count PySem.F.type_list_count (mt_count hu) ho (b9 he dE (by rw [hs])) hbase hfew hline hs hplain) fun σ H Q h=>?_
 obtain ⟨F,ρ,r,s,p⟩:=h
 refine bZ r s (fun e he=>p.err (by unfold rC;rw [he];rfl)) fun a ha x F1 H1 s1 q1=>?_
 have ez:rC fo fe ρ=if isL a=true then (fe ρ).bind fun b=>rK a b else stk:=by unfold rC;rw [ha];rfl
 rw [ez] at p
 have p:=p.step s1
 cases a with
 |lst ds=>
  have p:aH X.K W false F1 H1 ((fe ρ).bind fun b=>rK (.lst ds) b) Q:=p
  obtain ⟨l,xs,ex,t,z⟩:=id q1
  subst ex
  refine ⟨.inl ⟨rfl,_,s1.fh.lst t⟩,?_⟩
  refine bZ (r.mono s1.ff) s1.fh (fun e he=>p.err (by rw [he];rfl)) fun b hb y F2 H2 s2 q2=>?_
  rw [hb] at p
  have p:aH X.K W false F1 H1 (rK (.lst ds) b) Q:=p
  have p:=p.step s2
  cases b with
  |int k=>
   have p:aH X.K W false F2 H2 ((bS ds).bind fun xs=>.ok (.int (xs.countP (·==k):Nat))) Q:=p
   cases hi:bS ds with
   |error e=>rw [hi] at p;rw [jE hi] at p;exact aH.stuck p
   |ok is=>
    rw [hi] at p
    have hx:=iq z hi
    subst hx
    cases (show y=V.int k from q2)
    exact ⟨l,is,k,rfl,rfl,s2.fh.lst (s2.ff.lst t),p (.int (is.countP (·==k):Nat)) F2 H2 (Step.refl s2.fh) rfl⟩
  |_=>exact aH.stuck p
 |_=>exact aH.stuck p
end
end L2
namespace L2
open PySem PySem.Spec PyProof.Rows
noncomputable def sd (i j:Nat) (f1 f2:Str):List (Str×Dat)->af->M af:=fun fs ρ=>match fs.lookup f1,fs.lookup f2 with
 |some a,some b=>.ok (((ρ.set i none).set j (some (.tup [a,b]))).set i none)
 |_,_=>.error .stuck
noncomputable def tsTold2T (i j:Nat) (f1 f2:Str) (a:Addr):Option Addr->TS
 |none=>tNever
 |some d=>tAsg (tTup (qr (zx i a d f1) (qr (zx i a d f2) tNil))) (qK j)
section
variable {K:PySem.W.Frag} {ro:Bool} {F0 H0 FB F H:Hp} {OL:List Nat} {D:Ends} {σ:St} {ρ:af} {i j:Nat} {a d:Addr} {gs:List (Str×V)} {fs:List (Str×Dat)} {f1 f2:Str}
theorem zL (r:Rep K F0 H0 FB [] F H σ ρ) (hd:F d=some (.xd gs)) (df:nR K F fs gs) (hi:i<σ.length) (q:kD K Wno ro F0 H0 FB OL [] D ((sd i j f1 f2 fs ρ).bind fun ρ'=>.ok (.nx ρ'))) :
  tAsg (tTup (qr (zx i a d f1) (qr (zx i a d f2) tNil))) (qK j) (D.less i) (σ.set i (some (.ref a))) H:=by
 have hz:=sizeLine_eq
 have hH:H d=some (.xd gs):=r.st.fh d _ hd
 have e1:(σ.set i (some (.ref a)))[i]? =some (some (.ref a)):=by rw [List.getElem?_set_self hi]
 unfold sd at q
 cases h1:fs.lookup f1 with
 |none=>rw [h1] at q;exact (Wno.ns q).elim
 |some x1=>
  cases h2:fs.lookup f2 with
  |none=>rw [h1,h2] at q;exact (Wno.ns q).elim
  |some x2=>
   rw [h1,h2] at q
   obtain ⟨v1,g1,q1⟩:=df.at.1 x1 h1
   obtain ⟨v2,g2,q2⟩:=df.at.1 x2 h2
   refine ⟨e1,gs,v1,hH,g1,e1,gs,v2,hH,g2,by show 2<=sizeLine;omega,fun l hl=>?_⟩
   have st:Step F H (upd F l (.tup [v1,v2])) (upd H l (.tup [v1,v2])):=Step.lay r.st.fh hl
   exact q _ _ _ ((((r.step st).forget i (some (.ref a))).putN (v:=.ref l) (d:=.tup [x1,x2]) j ⟨l,[v1,v2],rfl,SqT.of aq,v1,[v2],rfl,q1.mono st.ff,v2,[],rfl,q2.mono st.ff,rfl⟩).forget i none)
end
section
variable {X:Cx} {K:PySem.W.Frag} {ro:Bool} {OL:List Nat} {C:Addr} {c n to f1 f2:Str} {i j:Nat} {np hpos pos p1 p2 p3 p4 p5 p6 p7:Pos} {body:List Stmt} {fb:af->M Flo}
theorem AK {x1} (hb:∀(pins:List (Addr×Obj)) (σ:St) (E:XK) (xe:Value->Shared->Prop),m6 (CXd X.prog X.w) (X.tK xe) pins σ E->DSat K E ro (X.tK xe) OL [] [] pins σ body fb)
  (Z:XTry X.K X.mg c C) (a1:tL X.K C f1) (a2:tL X.K C f2) (hN:X.N.Nodup) (hi:X.N[i]? =some n:=by rfl) (hj:X.N[j]? =some to:=by rfl) (hk:X.env.scope.names.lookup n=some .local:=by rfl) (hkj:X.env.scope.names.lookup to=some .local:=by rfl)
  (hg:Gl X c:=by rfl) (hex:X.ex=[]:=by rfl) (hstk:X.stack=X.env::X.outer:=by rfl) (hfr:X.env.frame=some X.env.locals:=by rfl) (hdb:(c==("__debug__":Str))=false:=by decide) (hd1:(n==("__debug__":Str))=false:=by decide) (hd2:(n==("__classdict__":Str))=false:=by decide)
  (hb1:attributeBase (.Name n p3) f1 X.env (eval (.Name n p3) X.env)=eval (.Name n p3) X.env:=by rfl) (hb2:attributeBase (.Name n p5) f2 X.env (eval (.Name n p5) X.env)=eval (.Name n p5) X.env:=by rfl)
  (hs1:starEach [.Attribute (.Name n p3) f1 p4,.Attribute (.Name n p5) f2 p6] X.env=(false,eval (.Attribute (.Name n p3) f1 p4) X.env)::starEach [.Attribute (.Name n p5) f2 p6] X.env:=by rfl) (hs2:starEach [.Attribute (.Name n p5) f2 p6] X.env=[(false,eval (.Attribute (.Name n p5) f2 p6) X.env)]:=by rfl)
  (hsw:swapsWith (.Tuple [.Attribute (.Name n p3) f1 p4,.Attribute (.Name n p5) f2 p6] x1 p2) (some (.Name to p1)) p7.line X.env=pure false:=by rfl) :
  DS K Wno ro X OL [] [] (.Try body [.ExceptHandler (some (.Name c np)) (some n) [.Assign [.Name to p1] (.Tuple [.Attribute (.Name n p3) f1 p4,.Attribute (.Name n p5) f2 p6] x1 p2) p7] hpos] [] [] pos) (pC [] C fb (sd i j f1 f2)):=by
 refine ds_tryF (ts:=fun a dx=>tsTold2T i j f1 f2 a dx) hb (fun a oe hc hd=>?_) (fun F0 H0 D σ a d gs fs FB F H ρ hl r h1 h2 p=>zL r h1 h2 ?_ p) Z.nm (by decide +kernel) Z.mg hN hi hk hg hex hstk hfr hdb
 ·cases hx:oe.dict with
  |none=>exact uc
  |some d=>
   exact pG (zT (X:=X.hand a oe) hN hj (.inl hkj) (xt (b9 (zZ F.attrBase_ValueError Z.isi a1 hc hd hx hi (.inl hk) hd1 hd2 hb1) (b9 (zZ F.attrBase_ValueError Z.isi a2 hc hd hx hi (.inl hk) hd1 hd2 hb2) dE hs2) hs1)) hsw (.inr hkj))
 ·rw [hl];exact (List.getElem?_eq_some_iff.mp hi).1
end
end L2
namespace Ru
open PySem L2 PyProof.Rows
noncomputable def iI (CR CP CN:Addr) (n:Nat):af->M Flo:=
 sIf (fB (f2 gtD (fL wa (aa (ae 2) aZ)) (fC (.int 0))))
   (aQ [] 3 (f2 j9 (f2 ixD (ae 2) (f2 j9 (ae 1) (fL wa (aa (ae 2) aZ)))) (f2 powD (fC (.int 10)) (fC (.int 24)))))
   eI
noncomputable def gQ (CR CP CN:Addr) (n:Nat):af->M Flo:=
 (bO (aQ [] 2 (fSl mB (ae 0) yw (qA (fC (.int 63)))))
  (bO (aQ [] 3 (f2 jO (f2 pM (fC (.int 11)) (ae 1)) (fC (.int 3))))
  (bO (iI CR CP CN n)
  (bO (aQ [] 4 (f2 j9 (f2 pM (f2 jO (f2 jO (ae 3) (f2 pM (f2 pM (ae 1) (ae 1)) (fC (.int 7919)))) (fL wa (aa (ae 2) aZ))) (fC (.int 48271))) (fC (.int 2305843009213693951))))
  (iT (f2 j9 (f2 jO (f2 pM (ae 4) (fC (.int 1442695040888963407))) (fC (.int 4321))) (fC (.int 2305843009213693921))))))))
noncomputable def aJ (CR CP CN:Addr) (n:Nat):List Dat->M Dat:=cJ 5 2 (gQ CR CP CN n)
noncomputable def gX (CR CP CN:Addr) (n:Nat):af->M Flo:=
 sIf (fB (f2 eqM (f2 j9 (ae 7) (fC (.int 16))) (fC (.int 15))))
   (aQ [3,5] 8 (f2 j9 (f2 jG (ae 7) (fC (.int 16))) (f2 jO (f2 powD (fC (.int 10)) (fC (.int 6))) (fC (.int 1)))))
   eI
noncomputable def gW (CR CP CN:Addr) (n:Nat):af->M Flo:=
 sIf (fB (f2 ltD (f2 j9 (ae 7) (fC (.int 16))) (fC (.int 3))))
   (aQ [3,5] 8 (fC (.int 0)))
   eI
noncomputable def cC (CR CP CN:Addr) (n:Nat):af->M Flo:=
 (bO (aQ [3,5] 7 (fL (aJ CR CP CN n) (aa (ae 0) (aa (f2 jO (f2 jO (ae 1) (f2 pM (ae 4) (ae 2))) (ae 6)) aZ))))
  (bO (aQ [3,5] 8 (f2 j9 (f2 jG (ae 7) (fC (.int 16))) (fC (.int 7))))
  (bO (gX CR CP CN n)
  (bO (gW CR CP CN n)
  (mJ [3,5] 5 (ae 8))))))
noncomputable def ky (CR CP CN:Addr) (n:Nat):af->M Flo:=
 (bO (aQ [3] 5 (fL il aZ))
  (bO (pD [3,5] (qp oX (aa (ae 2) aZ)) (.nm 6) (cC CR CP CN n))
  (mJ [3] 3 (ae 5))))
noncomputable def n5 (CR CP CN:Addr) (n:Nat):af->M Flo:=
 (bO (aQ [] 3 (fL il aZ))
  (bO (pD [3] (qp oX (aa (ae 2) aZ)) (.nm 4) (ky CR CP CN n))
  (iT (ae 3))))
noncomputable def fF (CR CP CN:Addr) (n:Nat):List Dat->M Dat:=cJ 9 3 (n5 CR CP CN n)
noncomputable def kl (CR CP CN:Addr) (n:Nat):af->M Flo:=
 (iT (gS (fIt (ae 0)) [none] (.nm 0) lX (fL Am (aa (ae 0) aZ))))
noncomputable def eK (CR CP CN:Addr) (n:Nat):List Dat->M Dat:=cJ 1 1 (kl CR CP CN n)
noncomputable def rP (CR CP CN:Addr) (n:Nat):af->M Flo:=
 sIf (fOr (xJ (uL (f1 pd (ae 0)))) (uL (f1 nE (ae 0))))
   (iT (fC (.bl false)))
   eI
noncomputable def sU (CR CP CN:Addr) (n:Nat):af->M Flo:=
 (bO (rP CR CP CN n)
  (iT (lA leD leD (fC (.int 0)) (ae 0) (fC (.int 1000000)))))
noncomputable def k9 (CR CP CN:Addr) (n:Nat):List Dat->M Dat:=cJ 1 1 (sU CR CP CN n)
noncomputable def lu (CR CP CN:Addr) (n:Nat):af->M Flo:=
 (iT (uM (f1 nC (ae 0)) (uM (f2 eqM (fL wa (aa (ae 0) aZ)) (ae 1)) (fL allD (aa (gS (fIt (ae 0)) [none] (.nm 0) lX (fL (k9 CR CP CN n) (aa (ae 0) aZ))) aZ)))))
noncomputable def cW (CR CP CN:Addr) (n:Nat):List Dat->M Dat:=cJ 2 2 (lu CR CP CN n)
noncomputable def kN (CR CP CN:Addr) (n:Nat):af->M Flo:=
 sIf (xJ (fB (lA leD leD (fC (.int 1)) (ae 1) (fC (.int 6)))))
   sStk
   eI
noncomputable def kM (CR CP CN:Addr) (n:Nat):af->M Flo:=
 sIf (xJ (uL (fL allD (aa (gS (fIt (ae 0)) [none,some 1] (.nm 0) lX (fL (cW CR CP CN n) (aa (ae 0) (aa (ae 1) aZ)))) aZ))))
   sStk
   eI
noncomputable def jf (CR CP CN:Addr) (n:Nat):af->M Flo:=
 (bO (aQ [] 1 (fL wa (aa (ae 0) aZ)))
  (bO (kN CR CP CN n)
  (bO (kM CR CP CN n)
  (iT (fL (eK CR CP CN n) (aa (ae 0) aZ))))))
noncomputable def aC (CR CP CN:Addr) (n:Nat):List Dat->M Dat:=cJ 2 1 (jf CR CP CN n)
noncomputable def cI (CR CP CN:Addr) (n:Nat):af->M Flo:=
 sIf (fB (f2 eqM (f2 j9 (ae 6) (fC (.int 8))) (fC (.int 1))))
   (aQ [4] 8 (f2 powD (fC (.int 10)) (fC (.int 9))))
   eI
noncomputable def cH (CR CP CN:Addr) (n:Nat):af->M Flo:=
 sIf (fB (f2 eqM (f2 j9 (ae 6) (fC (.int 8))) (fC (.int 2))))
   (aQ [4] 8 (f2 jO (ae 7) (f2 j9 (f2 jG (ae 6) (fC (.int 512))) (fC (.int 4)))))
   eI
noncomputable def cG (CR CP CN:Addr) (n:Nat):af->M Flo:=
 sIf (fB (f2 eqM (f2 j9 (ae 6) (fC (.int 8))) (fC (.int 3))))
   (aQ [4] 10 (f2 j9 (ae 6) (f2 jO (f2 powD (fC (.int 10)) (fC (.int 9))) (fC (.int 1)))))
   eI
noncomputable def bF (CR CP CN:Addr) (n:Nat):af->M Flo:=
 (bO (aQ [4] 6 (fL (aJ CR CP CN n) (aa (ae 0) (aa (f2 jO (ae 1) (ae 5)) aZ))))
  (bO (aQ [4] 7 (f2 j9 (f2 jG (ae 6) (fC (.int 8))) (fC (.int 30))))
  (bO (aQ [4] 8 (f2 jO (ae 7) (f2 j9 (f2 jG (ae 6) (fC (.int 512))) (fC (.int 40)))))
  (bO (cI CR CP CN n)
  (bO (cH CR CP CN n)
  (bO (aQ [4] 9 (f2 j9 (f2 jG (ae 6) (fC (.int 32768))) (fC (.int 50))))
  (bO (aQ [4] 10 (f2 j9 (f2 jG (ae 6) (fC (.int 2097152))) (fC (.int 7))))
  (bO (cG CR CP CN n)
  (mJ [4] 4 (fL k8 (aa (f2 j9 (f2 jG (ae 6) (fC (.int 16777216))) (ae 2)) (aa (ae 7) (aa (ae 8) (aa (ae 9) (aa (ae 10) aZ)))))))))))))))
noncomputable def jh (CR CP CN:Addr) (n:Nat):af->M Flo:=
 (bO (aQ [] 4 (fL il aZ))
  (bO (pD [4] (qp oX (aa (ae 3) aZ)) (.nm 5) (bF CR CP CN n))
  (iT (ae 4))))
noncomputable def dG (CR CP CN:Addr) (n:Nat):List Dat->M Dat:=cJ 11 4 (jh CR CP CN n)
noncomputable def iL (CR CP CN:Addr) (n:Nat):af->M Flo:=
 (bO (aQ [2] 4 (fL (aJ CR CP CN n) (aa (ae 0) (aa (f2 jO (f2 jO (ae 1) (fC (.int 1))) (ae 3)) aZ))))
  (bO (aQ [2] 5 (f2 j9 (f2 jG (ae 4) (fC (.int 8))) (fC (.int 40))))
  (mJ [2] 2 (fL k8 (aa (ae 5) (aa (f2 jO (f2 jO (ae 5) (fC (.int 1))) (f2 j9 (f2 jG (ae 4) (fC (.int 512))) (fC (.int 9)))) aZ))))))
noncomputable def km (CR CP CN:Addr) (n:Nat):af->M Flo:=
 (bO (aQ [] 2 (fL il aZ))
  (bO (pD [2] (qp oX (aa (f2 j9 (f2 jG (fL (aJ CR CP CN n) (aa (ae 0) (aa (ae 1) aZ))) (fC (.int 64))) (fC (.int 4))) aZ)) (.nm 3) (iL CR CP CN n))
  (iT (ae 2))))
noncomputable def eN (CR CP CN:Addr) (n:Nat):List Dat->M Dat:=cJ 6 2 (km CR CP CN n)
noncomputable def fH (CR CP CN:Addr) (n:Nat):af->M Flo:=
 (iT (gS (sV (ae 0)) [none,none,some 1,some 2] (.tp [0,1]) (wo (fB (f2 leD (ae 2) (f2 ixD (ae 1) (fC (.int 1))))) (fB (f2 leD (f2 ixD (ae 1) (fC (.int 2))) (ae 3)))) (ae 0)))
noncomputable def cg (CR CP CN:Addr) (n:Nat):List Dat->M Dat:=cJ 3 3 (fH CR CP CN n)
noncomputable def iZ (CR CP CN:Addr) (n:Nat):af->M Flo:=
 sIf (fOr (fB (f2 neM (ae 3) (ae 4))) (fB (f2 gtD (rC (ae 0) (ae 3)) (fC (.int 1)))))
   (mJ [2] 2 (fL k8 (aa (ae 3) (aa (ae 4) aZ))))
   eI
noncomputable def eE (CR CP CN:Addr) (n:Nat):af->M Flo:=
 (iZ CR CP CN n)
noncomputable def gA (CR CP CN:Addr) (n:Nat):af->M Flo:=
 (pD [2] (fIt (ae 1)) (.nm 4) (eE CR CP CN n))
noncomputable def ou (CR CP CN:Addr) (n:Nat):af->M Flo:=
 (bO (aQ [] 1 (f1 jR (ae 0)))
  (bO (aQ [] 2 (fL il aZ))
  (bO (pD [2] (fIt (ae 1)) (.nm 3) (gA CR CP CN n))
  (iT (ae 2)))))
noncomputable def jD (CR CP CN:Addr) (n:Nat):List Dat->M Dat:=cJ 5 1 (ou CR CP CN n)
noncomputable def e6 (CR CP CN:Addr) (n:Nat):af->M Flo:=
 (iT (fC (.int 1)))
noncomputable def aO (CR CP CN:Addr) (n:Nat):List Dat->M Dat:=cJ 1 1 (e6 CR CP CN n)
noncomputable def eU (CR CP CN:Addr) (n:Nat):af->M Flo:=
 (iT (fC (.int 2)))
noncomputable def aU (CR CP CN:Addr) (n:Nat):List Dat->M Dat:=cJ 1 1 (eU CR CP CN n)
noncomputable def gR (CR CP CN:Addr) (n:Nat):af->M Flo:=
 (iT (f2 ixD (f2 ixD (f1 (qQ [CR,CP] "gaps") (ae 0)) (f2 ixD (ae 1) (fC (.int 0)))) (f2 ixD (ae 2) (fC (.int 0)))))
noncomputable def ba (CR CP CN:Addr) (n:Nat):List Dat->M Dat:=cJ 3 3 (gR CR CP CN n)
noncomputable def eC (CR CP CN:Addr) (n:Nat):af->M Flo:=
 (bO (aQ [] 3 (fIte (fB (f2 eqM (f2 ixD (ae 1) (fC (.int 1))) (f2 ixD (ae 2) (fC (.int 1))))) (f1 (qQ [CR,CP] "gaps") (ae 0)) (f1 (qQ [CP] "beside") (ae 0))))
  (iT (f2 ixD (f2 ixD (ae 3) (f2 ixD (ae 1) (fC (.int 0)))) (f2 ixD (ae 2) (fC (.int 0))))))
noncomputable def aX (CR CP CN:Addr) (n:Nat):List Dat->M Dat:=cJ 4 3 (eC CR CP CN n)
noncomputable def iK (CR CP CN:Addr) (n:Nat):af->M Flo:=
 (mJ [2] 2 (eD CR CP "apart" (ba CR CP CN n) (aX CR CP CN n) (ae 0) (aa (fL k8 (aa (ae 3) (aa (fC (.int 0)) aZ))) (aa (fL k8 (aa (ae 4) (aa (ae 5) aZ))) aZ))))
noncomputable def da (CR CP CN:Addr) (n:Nat):af->M Flo:=
 (pD [2] (qp oX (aa (eD CR CP "many_strips" (aO CR CP CN n) (aU CR CP CN n) (ae 0) aZ) aZ)) (.nm 5) (iK CR CP CN n))
noncomputable def gO (CR CP CN:Addr) (n:Nat):af->M Flo:=
 (bO (aQ [] 2 (fL il aZ))
  (bO (pD [2] (fIt (fL (jD CR CP CN n) (aa (ae 1) aZ))) (.tp [3,4]) (da CR CP CN n))
  (iT (fL minD (aa (ae 2) aZ)))))
noncomputable def dj (CR CP CN:Addr) (n:Nat):List Dat->M Dat:=cJ 6 2 (gO CR CP CN n)
noncomputable def lH (CR CP CN:Addr) (n:Nat):af->M Flo:=
 sIf (fB (f2 ltD (fL wa (aa (ae 2) aZ)) (fC (.int 2))))
   (iT (fC (.bl false)))
   eI
noncomputable def lV (CR CP CN:Addr) (n:Nat):af->M Flo:=
 (bO (lH CR CP CN n)
  (bO (aQ [] 3 (fL minD (aa (gS (fIt (ae 2)) [none,some 1] (.nm 0) lX (f2 ixD (f2 ixD (ae 1) (ae 0)) (fC (.int 1)))) aZ)))
  (bO (aQ [] 4 (fL maxD (aa (gS (fIt (ae 2)) [none,some 1] (.nm 0) lX (f2 ixD (f2 ixD (ae 1) (ae 0)) (fC (.int 2)))) aZ)))
  (bO (aQ [] 5 (gS (fIt (ae 2)) [none,some 1] (.nm 0) lX (f2 ixD (f2 ixD (ae 1) (ae 0)) (fC (.int 0)))))
  (iT (f2 gtD (f2 pM (fL (dj CR CP CN n) (aa (ae 0) (aa (ae 5) aZ))) (f2 zB (fL wa (aa (ae 2) aZ)) (fC (.int 1)))) (f2 zB (ae 4) (ae 3))))))))
noncomputable def bK (CR CP CN:Addr) (n:Nat):List Dat->M Dat:=cJ 6 3 (lV CR CP CN n)
noncomputable def lJ (CR CP CN:Addr) (n:Nat):af->M Flo:=
 sIf (uL (fL (bK CR CP CN n) (aa (ae 0) (aa (ae 1) (aa (ae 6) aZ)))))
   (iT (ae 6))
   eI
noncomputable def gB (CR CP CN:Addr) (n:Nat):af->M Flo:=
 (bO (aQ [] 6 (fL (cg CR CP CN n) (aa (ae 1) (aa (ae 4) (aa (ae 5) aZ)))))
  (lJ CR CP CN n))
noncomputable def j0 (CR CP CN:Addr) (n:Nat):af->M Flo:=
 (pD [] (fIt (ae 3)) (.nm 5) (gB CR CP CN n))
noncomputable def lW (CR CP CN:Addr) (n:Nat):af->M Flo:=
 (bO (aQ [] 2 (f1 jR (gS (fIt (ae 1)) [none] (.nm 0) lX (f2 ixD (ae 0) (fC (.int 1))))))
  (bO (aQ [] 3 (f1 jR (gS (fIt (ae 1)) [none] (.nm 0) lX (f2 ixD (ae 0) (fC (.int 2))))))
  (bO (pD [] (fIt (ae 2)) (.nm 4) (j0 CR CP CN n))
  (iT (fC .non)))))
noncomputable def i4 (CR CP CN:Addr) (n:Nat):List Dat->M Dat:=cJ 7 2 (lW CR CP CN n)
noncomputable def kr (CR CP CN:Addr) (n:Nat):af->M Flo:=
 sIf (fB (f2 neM (ae 3) (fL il aZ)))
   (bO (pE 4 3 (f2 j9 (f2 jG (ae 2) (fC (.int 8))) (fL wa (aa (ae 3) aZ))))
  (aQ [3,4] 2 (f2 j9 (f2 jO (f2 jO (f2 pM (ae 2) (ae 2)) (f2 pM (fC (.int 16807)) (ae 2))) (ae 5)) (fC (.int 2147483647)))))
   eI
noncomputable def f7 (CR CP CN:Addr) (n:Nat):af->M Flo:=
 (kr CR CP CN n)
noncomputable def n3 (CR CP CN:Addr) (n:Nat):af->M Flo:=
 (bO (aQ [] 2 (f2 j9 (f2 pM (ae 0) (fC (.int 16807))) (fC (.int 2147483629))))
  (bO (aQ [] 3 (fLR (qp oX (aa (ae 1) aZ))))
  (bO (aQ [3] 4 (fL il aZ))
  (bO (pD [3,4] (qp oX (aa (f2 jO (fC (.int 2)) (f2 j9 (ae 2) (fC (.int 4)))) aZ)) (.nm 5) (f7 CR CP CN n))
  (iT (ae 4))))))
noncomputable def fD (CR CP CN:Addr) (n:Nat):List Dat->M Dat:=cJ 6 2 (n3 CR CP CN n)
noncomputable def gH (CR CP CN:Addr) (n:Nat):af->M Flo:=
 sIf (fB (f2 ltD (ae 1) (fL wa (aa (ae 0) aZ))))
   (iT (f2 j9 (f2 ixD (ae 0) (ae 1)) (f2 powD (fC (.int 10)) (fC (.int 24)))))
   eI
noncomputable def fS (CR CP CN:Addr) (n:Nat):af->M Flo:=
 (bO (gH CR CP CN n)
  (iT (fC (.int 0))))
noncomputable def bu (CR CP CN:Addr) (n:Nat):List Dat->M Dat:=cJ 2 2 (fS CR CP CN n)
noncomputable def fV (CR CP CN:Addr) (n:Nat):af->M Flo:=
 sIf (wo (fB (f2 leD (f2 zB (f2 ixD (ae 4) (f2 jO (ae 7) (fC (.int 1)))) (ae 7)) (ae 2))) (fB (f2 leD (f2 zB (ae 7) (f2 ixD (ae 4) (f2 jO (ae 7) (fC (.int 1))))) (ae 2))))
   (aQ [] 4 (f2 jO (f2 jO (fSl mB (ae 4) yw (qA (ae 7))) (fL il (aa (f2 ixD (ae 4) (f2 jO (ae 7) (fC (.int 1)))) (aa (f2 ixD (ae 4) (ae 7)) aZ)))) (fSl mB (ae 4) (qA (f2 jO (ae 7) (fC (.int 2)))) yw)))
   eI
noncomputable def bY (CR CP CN:Addr) (n:Nat):af->M Flo:=
 sIf (wo (fB (f2 gtD (ae 1) (fC (.int 1)))) (wo (fB (f2 leD (f2 zB (f2 zB (f2 ixD (ae 4) (ae 7)) (ae 7)) (fC (.int 1))) (ae 2))) (fB (f2 leD (f2 zB (f2 jO (ae 7) (fC (.int 1))) (f2 ixD (ae 4) (ae 7))) (ae 2)))))
   (fV CR CP CN n)
   eI
noncomputable def bx (CR CP CN:Addr) (n:Nat):af->M Flo:=
 (bO (aQ [] 7 (f2 j9 (ae 5) (fL maxD (aa (f2 zB (ae 1) (fC (.int 1))) (aa (fC (.int 1)) aZ)))))
  (bO (aQ [] 5 (f2 jO (f2 jG (ae 5) (fL maxD (aa (f2 zB (ae 1) (fC (.int 1))) (aa (fC (.int 1)) aZ)))) (f2 pM (ae 6) (fC (.int 48271)))))
  (bY CR CP CN n)))
noncomputable def lx (CR CP CN:Addr) (n:Nat):af->M Flo:=
 (bO (aQ [] 4 (fLR (qp oX (aa (ae 1) aZ))))
  (bO (aQ [] 5 (f2 j9 (f2 pM (ae 0) (fC (.int 69621))) (fC (.int 2305843009213693951))))
  (bO (pD [] (qp oX (aa (f2 pM (fC (.int 2)) (ae 1)) aZ)) (.nm 6) (bx CR CP CN n))
  (iT (gS (fIt (ae 4)) [none,some 3,some 5] (.nm 0) lX (fL k8 (aa (ae 0) (aa (f2 j9 (f2 jO (f2 jG (ae 2) (fC (.int 2))) (f2 pM (f2 pM (ae 0) (ae 0)) (f2 j9 (ae 2) (fC (.int 7))))) (ae 1)) aZ))))))))
noncomputable def cY (CR CP CN:Addr) (n:Nat):List Dat->M Dat:=cJ 8 4 (lx CR CP CN n)
noncomputable def ot (CR CP CN:Addr) (n:Nat):af->M Flo:=
 (iT (gS (fIt (ae 1)) [none,none,some 0] (.tp [0,1]) lX (fL k8 (aa (f2 ixD (f2 ixD (ae 2) (ae 0)) (fC (.int 0))) (aa (ae 1) aZ)))))
noncomputable def jC (CR CP CN:Addr) (n:Nat):List Dat->M Dat:=cJ 2 2 (ot CR CP CN n)
noncomputable def cb (CR CP CN:Addr) (n:Nat):af->M Flo:=
 sIf (wo (uL (ae 1)) (fB (f2 leD (ae 2) (f2 ixD (f2 ixD (ae 1) (f1 negD (fC (.int 1)))) (fC (.int 1))))))
   (vK 1 (f1 negD (fC (.int 1))) (fL k8 (aa (f2 ixD (f2 ixD (ae 1) (f1 negD (fC (.int 1)))) (fC (.int 0))) (aa (fL maxD (aa (ae 3) (aa (f2 ixD (f2 ixD (ae 1) (f1 negD (fC (.int 1)))) (fC (.int 1))) aZ))) aZ))))
   (mJ [1] 1 (fL k8 (aa (ae 2) (aa (ae 3) aZ))))
noncomputable def bG (CR CP CN:Addr) (n:Nat):af->M Flo:=
 (cb CR CP CN n)
noncomputable def eT (CR CP CN:Addr) (n:Nat):af->M Flo:=
 (bO (aQ [] 1 (fL il aZ))
  (bO (pD [1] (fIt (fL nZ (aa (ae 0) aZ))) (.tp [2,3]) (bG CR CP CN n))
  (iT (ae 1))))
noncomputable def bR (CR CP CN:Addr) (n:Nat):List Dat->M Dat:=cJ 4 1 (eT CR CP CN n)
noncomputable def nK (CR CP CN:Addr) (n:Nat):af->M Flo:=
 sIf (fB (lA leD ltD (ae 2) (ae 1) (ae 3)))
   (iT (ae 3))
   eI
noncomputable def kx (CR CP CN:Addr) (n:Nat):af->M Flo:=
 (nK CR CP CN n)
noncomputable def kj (CR CP CN:Addr) (n:Nat):af->M Flo:=
 (bO (pD [] (fIt (fL (bR CR CP CN n) (aa (ae 0) aZ))) (.tp [2,3]) (kx CR CP CN n))
  (iT (ae 1)))
noncomputable def fy (CR CP CN:Addr) (n:Nat):List Dat->M Dat:=cJ 4 2 (kj CR CP CN n)
noncomputable def n0 (CR CP CN:Addr) (n:Nat):af->M Flo:=
 (iT (gS (qp oX (aa (ae 3) aZ)) [none,some 0,some 1,some 2,some 3] (.nm 0) lX (f2 jO (f2 ixD (ae 3) (ae 0)) (eD CR CP "apart" (ba CR CP CN n) (aX CR CP CN n) (ae 1) (aa (f2 ixD (ae 2) (ae 0)) (aa (f2 ixD (ae 2) (ae 4)) aZ))))))
noncomputable def ip (CR CP CN:Addr) (n:Nat):List Dat->M Dat:=cJ 4 4 (n0 CR CP CN n)
noncomputable def lG (CR CP CN:Addr) (n:Nat):af->M Flo:=
 sIf (fB (f2 gtD (ae 9) (f2 ixD (ae 8) (fC (.int 2)))))
   (yq CN "flight" "time" (aa (f2 ixD (ae 7) (fC (.int 0))) (aa (ae 9) aZ)))
   eI
noncomputable def gz (CR CP CN:Addr) (n:Nat):af->M Flo:=
 (bO (fNoX (aQ [5] 8 (f2 ixD (ae 1) (f2 ixD (ae 7) (fC (.int 0))))))
  (bO (fNoX (vL false 9 (fL (fy CR CP CN n) (aa (ae 2) (aa (fL maxD (aa (f2 jO (fL il (aa (f2 ixD (ae 8) (fC (.int 1))) aZ)) (fL (ip CR CP CN n) (aa (ae 0) (aa (ae 4) (aa (ae 5) (aa (ae 6) aZ)))))) aZ)) aZ)))))
  (bO (lG CR CP CN n)
  (fNoX (mJ [5] 5 (ae 9))))))
noncomputable def oq (CR CP CN:Addr) (n:Nat):af->M Flo:=
 (bO (fNoX (aQ [] 4 (fL (jC CR CP CN n) (aa (ae 1) (aa (ae 3) aZ)))))
  (bO (fNoX (aQ [] 5 (fL il aZ)))
  (bO (pD [5] (sV (ae 3)) (.tp [6,7]) (gz CR CP CN n))
  (fNoX (iT (ae 5))))))
noncomputable def jB (CR CP CN:Addr) (n:Nat):List Dat->M Dat:=cJ 10 4 (oq CR CP CN n)
noncomputable def gG (CR CP CN:Addr) (n:Nat):af->M Flo:=
 pC [] CN (r0 [] (fL (jB CR CP CN n) (aa (ae 0) (aa (ae 1) (aa (ae 2) (aa (ae 3) aZ)))))) (sd 5 4 "flight" "time")
noncomputable def kO (CR CP CN:Addr) (n:Nat):af->M Flo:=
 sIf (fOr (fB (f2 isND (ae 4) (fC .non))) (fB (f2 Ad (f2 ixD (ae 4) (fC (.int 0))) (gS (fIt (ae 3)) [none,none] (.tp [0,1]) lX (ae 0)))))
   (iT (fC (.bl false)))
   eI
noncomputable def jg (CR CP CN:Addr) (n:Nat):af->M Flo:=
 (bO (aQ [] 4 (fC .non))
  (bO (gG CR CP CN n)
  (bO (kO CR CP CN n)
  (iT (f2 gtD (f2 ixD (ae 4) (fC (.int 1))) (f2 ixD (f2 ixD (ae 1) (f2 ixD (ae 4) (fC (.int 0)))) (fC (.int 2))))))))
noncomputable def bW (CR CP CN:Addr) (n:Nat):List Dat->M Dat:=cJ 6 4 (jg CR CP CN n)
noncomputable def nM (CR CP CN:Addr) (n:Nat):af->M Flo:=
 sIf (xJ (uL (fL (bW CR CP CN n) (aa (ae 0) (aa (ae 1) (aa (ae 2) (aa (ae 7) aZ)))))))
   (iT (fC (.bl false)))
   eI
noncomputable def nL (CR CP CN:Addr) (n:Nat):af->M Flo:=
 sIf (xJ (uL (fL (bW CR CP CN n) (aa (ae 0) (aa (ae 8) (aa (ae 2) (aa (ae 7) aZ)))))))
   (iT (fC (.bl false)))
   eI
noncomputable def gY (CR CP CN:Addr) (n:Nat):af->M Flo:=
 (bO (aQ [] 7 (fL (cY CR CP CN n) (aa (ae 6) (aa (fL wa (aa (ae 1) aZ)) (aa (fL wa (aa (ae 1) aZ)) (aa (ae 5) aZ))))))
  (bO (nM CR CP CN n)
  (bO (aQ [] 8 (gS (fIt (ae 3)) [none,some 1] (.nm 0) lX (f2 ixD (ae 1) (ae 0))))
  (bO (aQ [] 7 (fL (cY CR CP CN n) (aa (f2 jG (ae 6) (fC (.int 3))) (aa (fL wa (aa (ae 8) aZ)) (aa (fL wa (aa (ae 8) aZ)) (aa (ae 5) aZ))))))
  (nL CR CP CN n)))))
noncomputable def n4 (CR CP CN:Addr) (n:Nat):af->M Flo:=
 (bO (aQ [] 5 (eD CR CP "many_strips" (aO CR CP CN n) (aU CR CP CN n) (ae 0) aZ))
  (bO (pD [] (fIt (ae 4)) (.nm 6) (gY CR CP CN n))
  (iT (fC (.bl true)))))
noncomputable def fE (CR CP CN:Addr) (n:Nat):List Dat->M Dat:=cJ 9 5 (n4 CR CP CN n)
noncomputable def tx (CR CP CN:Addr) (n:Nat):af->M Flo:=
 sIf (fB (f2 eqM (f2 j9 (fL (bu CR CP CN n) (aa (ae 0) (aa (fC (.int 2)) aZ))) (fC (.int 2))) (fC (.int 1))))
   (aQ [] 4 (fL (newP CP (aC CR CP CN n)) (aa (ae 3) (aa (fL (fF CR CP CN n) (aa (ae 0) (aa (fC (.int 41)) (aa (ae 1) aZ)))) aZ))))
   eI
noncomputable def tw (CR CP CN:Addr) (n:Nat):af->M Flo:=
 sIf (fB (f2 eqM (f2 j9 (f2 jG (fL (bu CR CP CN n) (aa (ae 0) (aa (fC (.int 2)) aZ))) (fC (.int 2))) (fC (.int 2))) (fC (.int 1))))
   (aQ [] 5 (gS (fIt (ae 5)) [none] (.nm 0) lX (fL k8 (aa (f2 ixD (ae 0) (fC (.int 0))) (aa (f2 ixD (ae 0) (fC (.int 1))) (aa (fL minD (aa (f2 ixD (ae 0) (fC (.int 2))) (aa (fC (.int 30)) aZ))) (aa (fC (.int 5)) (aa (fC (.int 1)) aZ))))))))
   eI
noncomputable def B8 (CR CP CN:Addr) (n:Nat):af->M Flo:=
 sIf (fOr (fB (f2 notBD (fL (bK CR CP CN n) (aa (ae 4) (aa (ae 5) (aa (ae 9) aZ)))) (fC (.bl true)))) (xJ (uL (fL (fE CR CP CN n) (aa (ae 4) (aa (ae 5) (aa (ae 6) (aa (ae 9) (aa (ae 8) aZ)))))))))
   (iT (fC (.bl false)))
   eI
noncomputable def tu (CR CP CN:Addr) (n:Nat):af->M Flo:=
 sIf (fB (f2 Ac (ae 9) (fC .non)))
   (B8 CR CP CN n)
   eI
noncomputable def wC (CR CP CN:Addr) (n:Nat):af->M Flo:=
 sIf (wo (uL (fL (bK CR CP CN n) (aa (ae 4) (aa (ae 5) (aa (ae 10) aZ))))) (xJ (uL (fL (fE CR CP CN n) (aa (ae 4) (aa (ae 5) (aa (ae 6) (aa (ae 10) (aa (ae 8) aZ)))))))))
   (iT (fC (.bl false)))
   eI
noncomputable def tE (CR CP CN:Addr) (n:Nat):af->M Flo:=
 (wC CR CP CN n)
noncomputable def g_law (CR CP CN:Addr) (n:Nat):af->M Flo:=
 (bO (aQ [] 1 (f2 jO (fC (.int 1)) (f2 j9 (f2 j9 (f2 pM (fL (bu CR CP CN n) (aa (ae 0) (aa (fC (.int 0)) aZ))) (fC (.int 16807))) (fC (.int 2147483647))) (fC (.int 3)))))
  (bO (aQ [] 2 (f2 jO (fC (.int 2)) (f2 j9 (f2 j9 (f2 pM (fL (bu CR CP CN n) (aa (ae 0) (aa (fC (.int 1)) aZ))) (fC (.int 39373))) (fC (.int 2147483629))) (fC (.int 8)))))
  (bO (aQ [] 3 (fL (fF CR CP CN n) (aa (ae 0) (aa (fC (.int 3)) (aa (ae 1) aZ)))))
  (bO (aQ [] 4 (fL (newR CR (aC CR CP CN n)) (aa (ae 3) aZ)))
  (bO (tx CR CP CN n)
  (bO (aQ [] 5 (fL (dG CR CP CN n) (aa (ae 0) (aa (fC (.int 80)) (aa (ae 1) (aa (ae 2) aZ))))))
  (bO (tw CR CP CN n)
  (bO (aQ [] 6 (fL (eN CR CP CN n) (aa (ae 0) (aa (fC (.int 130)) aZ))))
  (bO (aQ [] 7 (gS (fIt (fSl mB (ae 0) yw (qA (fC (.int 8))))) [none,some 2] (.nm 0) lX (fL (fD CR CP CN n) (aa (f2 j9 (ae 0) (f2 powD (fC (.int 10)) (fC (.int 24)))) (aa (ae 1) aZ)))))
  (bO (aQ [] 8 (gS (qp oX (aa (fC (.int 6)) aZ)) [none,some 0] (.nm 0) lX (fL (aJ CR CP CN n) (aa (ae 1) (aa (f2 jO (fC (.int 150)) (ae 0)) aZ)))))
  (bO (aQ [] 9 (fL (i4 CR CP CN n) (aa (ae 4) (aa (ae 5) aZ))))
  (bO (tu CR CP CN n)
  (bO (pD [] (fIt (ae 7)) (.nm 10) (tE CR CP CN n))
  (iT (fC (.bl true))))))))))))))))
noncomputable def m_law (CR CP CN:Addr) (n:Nat):List Dat->M Dat:=cJ 11 1 (g_law CR CP CN n)
noncomputable def top (i:Nat):Stmt:=PySem.Challenge.pw_wakeorder_k62_crowds_without_times.main.body.getD i (.Pass ⟨0,0,0,0⟩)
noncomputable abbrev cy:Stmt:=top 29
noncomputable abbrev jX:Stmt:=top 30
noncomputable abbrev gL:Stmt:=top 16
noncomputable abbrev oW:Stmt:=top 14
noncomputable abbrev iR:Stmt:=top 15
noncomputable abbrev dB:Stmt:=top 17
noncomputable abbrev fO:Stmt:=top 31
noncomputable abbrev gM:Stmt:=top 32
noncomputable abbrev dh:Stmt:=top 5
noncomputable abbrev lQ:Stmt:=top 2
noncomputable abbrev aN:Stmt:=inClass (top 18) 2
noncomputable abbrev aT:Stmt:=inClass (top 19) 1
noncomputable abbrev bQ:Stmt:=inClass (top 18) 3
noncomputable abbrev cm:Stmt:=inClass (top 19) 2
noncomputable abbrev gK:Stmt:=top 3
noncomputable abbrev jo:Stmt:=top 4
noncomputable abbrev lR:Stmt:=top 6
noncomputable abbrev jV:Stmt:=top 36
noncomputable abbrev fP:Stmt:=top 28
noncomputable abbrev iS:Stmt:=top 35
noncomputable abbrev lP:Stmt:=top 24
noncomputable abbrev cO:Stmt:=top 21
noncomputable abbrev jT:Stmt:=top 22
noncomputable abbrev jU:Stmt:=top 25
noncomputable abbrev lO:Stmt:=top 26
noncomputable abbrev fN:Stmt:=top 37
noncomputable abbrev jW:Stmt:=top 38
noncomputable abbrev yp:Stmt:=top 39
noncomputable abbrev s_nR:Stmt:=inClass (top 18) 0
noncomputable abbrev s_nP:Stmt:=inClass (top 19) 0
noncomputable abbrev vJ:Stmt:=inClass (top 10) 0
structure Zs (K:PySem.W.Frag) (mg:Str->Option Value) (CR CP CN:Addr):Prop where
 xCN:XTry K mg "NoTime" CN
 aCN_flight:tL K CN "flight"
 aCN_time:tL K CN "time"
 kR:Kls K mg "Rules" CR
 kP:Kls K mg "Pair" CP
 xI:∀C∈[CR,CP],Cls K C/\kQ K C "gaps"
 yK:∀C∈[CP],Cls K C/\kQ K C "beside"
 yg:mg "all"=none
 tO:mg "bool"=none
 fj:mg "enumerate"=none
 ze:mg "int"=none
 cT:mg "isinstance"=none
 kS:mg "len"=none
 oK:mg "list"=none
 rX:mg "max"=none
 vq:mg "min"=none
 dU:mg "range"=none
 vp:mg "set"=none
 iO:mg "sorted"=none
 dH:∃t,mg "GREATEST_GAP"=some (.int 1000000 t)
 gc:∃t,mg "MOST_KINDS"=some (.int 6 t)
 kit:Kit K
theorem sc_nCN:aK ["self","flight","time"] ["self","flight","time"] (ao vJ):=⟨rfl,rfl,rfl,by decide +kernel,rfl,by decide +kernel,by decide +kernel⟩
theorem okn_CN {P:Program} {w:World} {K:PySem.W.Frag} {mg:Str->Option Value} {base:Heap} {C f:Addr} {fd:FuncData} (N:Fun K "__init__" "NoTime.__init__" vJ f fd) (z1:tL K C "flight") (z2:tL K C "time"):cu P w K mg base CX0 1 f fd ["self","flight","time"] (spX2 C "flight" "time"):=by
 refine N.okX sc_nCN (fun vs H Q E h=>?_) (fun cdv A outer s H vs Q E hr h=>?_)
 ·obtain ⟨a,v1,v2,rfl,_⟩:=h
  rfl
 ·obtain ⟨a,v1,v2,rfl,ha,q⟩:=h
  refine ⟨_,oY (ps_x1 (pv 0) (pv 1) z1) (pG (ps_x2 (pv 0) (pv 2) z2)),?_⟩
  refine ⟨v1,rfl,_,rfl,a,rfl,ha,fun d hd hne=>⟨v2,rfl,_,rfl,a,d,[("flight",v1)],rfl,aq,by rw [ar hne];exact aq,hne,(by show 1<=900;decide),?_⟩⟩
  rw [upd_mid hne]
  exact q d hd hne
theorem dz:aK ["_law_script","_law_k","_law_cells","_law_cell","_law_number_here"] ["_law_script","_law_k"] (ao cy):=⟨rfl,rfl,rfl,by decide +kernel,rfl,by decide +kernel,by decide +kernel⟩
theorem qD {n:Nat} {P:Program} {w:World} {K:PySem.W.Frag} {mg:Str->Option Value} {base:Heap} {CR CP CN:Addr} (Z:Zs K mg CR CP CN) {bh:Addr} {aW:FuncData} (cD:Def K mg "_law_number" cy ["_law_script","_law_k"] bh aW):cu P w K mg base CX0 1 bh aW ["_law_script","_law_k"] (spF K false (aJ CR CP CN n) 2):=
 oz (O':=[]) cD.fn dz false (gQ CR CP CN n) fun cdv A outer s H E hr=>
  (ah (aw (i:=2) (own:=false) dz.nd (aF (de_sl x_sl (ai 0) t6 (t5 a9))))
  (ah (aw (i:=3) (own:=false) dz.nd (aF (av dF (av l7 a9 (ai 1)) a9)))
  (ah (fM (ck o_gt (b8 oF Z.kS PySem.boot_len (a8 (ai 2) ak)) a9)
   (ay (aw (i:=3) (own:=false) dz.nd (av cM (bA g4 (ai 2) (av cM (ai 1) (b8 oF Z.kS PySem.boot_len (a8 (ai 2) ak)))) (av yy a9 a9))))
   cn)
  (ah (aw (i:=4) (own:=false) dz.nd (av cM (av l7 (aF (av dF (aF (av dF (ai 3) (av l7 (av l7 (ai 1) (ai 1)) a9))) (b8 oF Z.kS PySem.boot_len (a8 (ai 2) ak)))) a9) a9))
  (ay (bp (av cM (aF (av dF (av l7 (ai 4) a9) a9)) a9)))))))
theorem bP:aK ["_law_script","_law_start","_law_kinds","_law_rows","_law_one","_law_row","_law_other","_law_number_here","_law_gap"] ["_law_script","_law_start","_law_kinds"] (ao jX):=⟨rfl,rfl,rfl,by decide +kernel,rfl,by decide +kernel,by decide +kernel⟩
theorem uv {n:Nat} {P:Program} {w:World} {K:PySem.W.Frag} {mg:Str->Option Value} {base:Heap} {CR CP CN:Addr} (Z:Zs K mg CR CP CN) {bh:Addr} {aW:FuncData} (au:Yd P w K mg base CX0 1 "_law_number" cy ["_law_script","_law_k"] (spF K false (aJ CR CP CN n) 2) bh aW) {iE:Addr} {gn:FuncData} (kJ:Def K mg "_law_gaps" jX ["_law_script","_law_start","_law_kinds"] iE gn):cu P w K mg base CX0 2 iE gn ["_law_script","_law_start","_law_kinds"] (spF K false (fF CR CP CN n) 3):=
 oz (O':=[]) kJ.fn bP false (n5 CR CP CN n) fun cdv A outer s H E hr=>
  (ah (aw (i:=3) (own:=true) bP.nd (kL ak))
  (ah (gx (pt:=.nm 4) (kn Z.dU (a8 (ai 2) ak)) (oE bP.nd)
   (ah (aw (i:=5) (own:=true) bP.nd (kL ak))
  (dS (O2:=[3,5]) (ah (gx (pt:=.nm 6) (kn Z.dU (a8 (ai 2) ak)) (oE bP.nd)
   (ah (aw (i:=7) (own:=false) bP.nd (aS au.o hr au.d.mg au.d.fn.kp au.d.bd (a8 (ai 0) (a8 (aF (av dF (aF (av dF (ai 1) (av l7 (ai 4) (ai 2)))) (ai 6))) ak))))
  (ah (aw (i:=8) (own:=false) bP.nd (av cM (av gI (ai 7) a9) a9))
  (ah (fM (ck (o_eq hr.units) (av cM (ai 7) a9) a9)
   (ay (aw (i:=8) (own:=false) bP.nd (av cM (av gI (ai 7) a9) (aF (av dF (av yy a9 a9) a9)))))
   cn)
  (ah (fM (ck o_lt (av cM (ai 7) a9) a9)
   (ay (aw (i:=8) (own:=false) bP.nd a9))
   cn)
  (ay (lC (i:=5) (ai 8))))))))
  (dS (O2:=[3]) (ay (lC (i:=3) (ai 5))))))))
  (dS (O2:=[]) (ay (bp (ai 3))))))
theorem qu:aK ["rows"] ["rows"] (ao gL):=⟨rfl,rfl,rfl,by decide +kernel,rfl,by decide +kernel,by decide +kernel⟩
theorem qC {n:Nat} {P:Program} {w:World} {K:PySem.W.Frag} {mg:Str->Option Value} {base:Heap} {CR CP CN:Addr} (Z:Zs K mg CR CP CN) {eY:Addr} {dJ:FuncData} (hW:Def K mg "copied_rows" gL ["rows"] eY dJ):cu P w K mg base CX0 1 eY dJ ["rows"] (spF K false (eK CR CP CN n) 1):=
 oz (O':=[]) hW.fn qu false (kl CR CP CN n) fun cdv A outer s H E hr=>
  (ay (bp (aF (gF ["row"] [none] (d9 (ai 0)) (fun _ _ _ _ _=>iY (by decide +kernel)) (bc rfl) (fun _ _ _ _ _=>du) (fun _ _ _ _ _=>(aF (AS c_list Z.oK PyProof.Rows.boot_list (a8 (ai 0) ak))))))))
theorem zK:aK ["number"] ["number"] (ao oW):=⟨rfl,rfl,rfl,by decide +kernel,rfl,by decide +kernel,by decide +kernel⟩
theorem A8 {n:Nat} {P:Program} {w:World} {K:PySem.W.Frag} {mg:Str->Option Value} {base:Heap} {CR CP CN:Addr} (Z:Zs K mg CR CP CN) {nF:Addr} {lz:FuncData} (pk:Def K mg "is_gap" oW ["number"] nF lz):cu P w K mg base CX0 1 nF lz ["number"] (spF K false (k9 CR CP CN n) 1):=
 oz (O':=[]) pk.fn zK false (sU CR CP CN n) fun cdv A outer s H E hr=>
  (ah (fM (PW.pt (dw_or (pZ (mD (yP Z.kit Z.cT Z.ze (ai 0)))) (xK (mD (wz Z.kit Z.cT Z.tO (ai 0))))))
   (ay (bp qN))
   cn)
  (ay (bp (de_chain za za a9 (ai 0) (AO Z.dH)))))
theorem sq:aK ["row","kinds"] ["row","kinds"] (ao iR):=⟨rfl,rfl,rfl,by decide +kernel,rfl,by decide +kernel,by decide +kernel⟩
theorem sC {n:Nat} {P:Program} {w:World} {K:PySem.W.Frag} {mg:Str->Option Value} {base:Heap} {CR CP CN:Addr} (Z:Zs K mg CR CP CN) {nF:Addr} {lz:FuncData} (ph:Yd P w K mg base CX0 1 "is_gap" oW ["number"] (spF K false (k9 CR CP CN n) 1) nF lz) {gq:Addr} {eV:FuncData} (j5:Def K mg "is_gap_row" iR ["row","kinds"] gq eV):cu P w K mg base CX0 2 gq eV ["row","kinds"] (spF K false (cW CR CP CN n) 2):=
 oz (O':=[]) j5.fn sq false (lu CR CP CN n) fun cdv A outer s H E hr=>
  (ay (bp (de_and (wy Z.kit Z.cT Z.oK (ai 0)) (de_and (AR (o_eq hr.units) (b8 oF Z.kS PySem.boot_len (a8 (ai 0) ak)) (ai 1)) (de_one (b8 (c_all rfl) Z.yg boot_all (a8 (aF (gF ["number"] [none] (d9 (ai 0)) (fun _ _ _ _ _=>iY (by decide +kernel)) (bc rfl) (fun _ _ _ _ _=>du) (fun _ _ _ _ _=>(aS ph.o hr ph.d.mg ph.d.fn.kp ph.d.bd (a8 (ai 0) ak))))) ak)))))))
theorem kZ:aK ["rows","kinds"] ["rows"] (ao dB):=⟨rfl,rfl,rfl,by decide +kernel,rfl,by decide +kernel,by decide +kernel⟩
theorem pH {n:Nat} {P:Program} {w:World} {K:PySem.W.Frag} {mg:Str->Option Value} {base:Heap} {CR CP CN:Addr} (Z:Zs K mg CR CP CN) {eY:Addr} {dJ:FuncData} (hG:Yd P w K mg base CX0 1 "copied_rows" gL ["rows"] (spF K false (eK CR CP CN n) 1) eY dJ) {gq:Addr} {eV:FuncData} (j4:Yd P w K mg base CX0 2 "is_gap_row" iR ["row","kinds"] (spF K false (cW CR CP CN n) 2) gq eV) {bw:Addr} {bf:FuncData} (aG:Def K mg "checked_rows" dB ["rows"] bw bf):cu P w K mg base CX0 3 bw bf ["rows"] (spF K false (aC CR CP CN n) 1):=
 oz (O':=[]) aG.fn kZ false (jf CR CP CN n) fun cdv A outer s H E hr=>
  (ah (aw (i:=1) (own:=false) kZ.nd (b8 oF Z.kS PySem.boot_len (a8 (ai 0) ak)))
  (ah (fM (pZ (xM za za a9 (ai 1) (AO Z.gc)))
   (ay ds_stk)
   cn)
  (ah (fM (pZ (mD (b8 (c_all rfl) Z.yg boot_all (a8 (aF (gF ["row","kinds"] [none,some 1] (d9 (ai 0)) (fun _ _ _ _ _=>iY (by decide +kernel)) (bc rfl) (fun _ _ _ _ _=>du) (fun _ _ _ _ _=>(aS j4.o hr j4.d.mg j4.d.fn.kp j4.d.bd (a8 (ai 0) (a8 (ai 1) ak)))))) ak))))
   (ay ds_stk)
   cn)
  (ay (bp (aS hG.o (hr.mono (by decide)) hG.d.mg hG.d.fn.kp hG.d.bd (a8 (ai 0) ak)))))))
theorem sc_nR:aK ["self","gaps"] ["self","gaps"] (ao s_nR):=⟨rfl,rfl,rfl,by decide +kernel,rfl,by decide +kernel,by decide +kernel⟩
theorem okn_R {n:Nat} {P:Program} {w:World} {K:PySem.W.Frag} {mg:Str->Option Value} {base:Heap} {CR CP CN:Addr} {C bw f:Addr} {bf fd:FuncData} (aG:Def K mg "checked_rows" dB ["rows"] bw bf) (OK:cu P w K mg base CX0 3 bw bf ["rows"] (spF K false (aC CR CP CN n) 1))
  (N:Fun K "__init__" "Rules.__init__" s_nR f fd) (cl:Cls K C) (na:kQ K C "gaps"):cu P w K mg base CX0 4 f fd ["self","gaps"] (spI1 K C (aC CR CP CN n)):=by
 refine N.okX sc_nR (fun vs H Q E h=>?_) (fun cdv A outer s H vs Q E hr h=>?_)
 ·obtain ⟨p,dx,v,F,d,rfl,_⟩:=h
  rfl
 ·obtain ⟨p,dx,v,F,d,rfl,hp,hF,s1,qd,q⟩:=h
  refine ⟨_,pG (ps_fld (pv 0) (vR OK hr (by rfl) aG.mg aG.fn.kp aG.bd .nil ui (b9 (pv 1) dE)) rfl),?_⟩
  refine ⟨v,rfl,F,[d],s1,⟨v,[],rfl,qd,rfl⟩,rfl,?_⟩
  skip
  cases hg:aC CR CP CN n [d] with
  |error e=>rw [hg] at q;exact q
  |ok r=>
   rw [hg] at q
   intro u F' H' st qw
   have hF1:F' p=none:=by
    cases hz:F' p with
    |none=>rfl
    |some o=>
     rcases st.nw p o hz with z|z
     ·rw [hF] at z;cases z
     ·rw [hp] at z;cases z
   refine ⟨_,rfl,p,C,dx,[],rfl,st.hh _ _ hp,cl,na,(by show 0<1000;decide),?_⟩
   refine q u F' _ st.ff (fun c o e=>?_) hF1 st.nw (fun c o e hc=>by rw [ar hc];exact st.hh _ _ e) aq qw
   have hc:c≠p:=fun z=>by rw [z,hF1] at e;cases e
   rw [ar hc]
   exact st.fh _ _ e
theorem putGB (a b:V):qx ("beside":Str) b [(("gaps":Str),a)]=[(("gaps":Str),a),(("beside":Str),b)]:=by
 show (if ("gaps":Str)="beside" then _ else (("gaps":Str),a)::qx "beside" b [])=_
 rw [if_neg (by decide +kernel)]
 rfl
theorem sc_nP:aK ["self","gaps","beside"] ["self","gaps","beside"] (ao s_nP):=⟨rfl,rfl,rfl,by decide +kernel,rfl,by decide +kernel,by decide +kernel⟩
theorem okn_P {n:Nat} {P:Program} {w:World} {K:PySem.W.Frag} {mg:Str->Option Value} {base:Heap} {CR CP CN:Addr} {bw f fR:Addr} {bf fd fdR:FuncData} {mc:Value} (aG:Def K mg "checked_rows" dB ["rows"] bw bf) (OK:cu P w K mg base CX0 3 bw bf ["rows"] (spF K false (aC CR CP CN n) 1))
  (S:Stat K CR mc "__init__" fR) (bI:Binds K fdR ["self","gaps"] []) (FI:cu P w K mg base CX0 4 fR fdR ["self","gaps"] (spI1 K CP (aC CR CP CN n))) (mR:mg "Rules"=some (.ref CR)) (zl:mg "len"=none)
  (N:Fun K "__init__" "Pair.__init__" s_nP f fd) (cl:Cls K CP) (na:kQ K CP "gaps") (nb:kQ K CP "beside"):cu P w K mg base CX0 5 f fd ["self","gaps","beside"] (spI2 K CP (aC CR CP CN n)):=by
 refine N.okX sc_nP (fun vs H Q E h=>?_) (fun cdv A outer s H vs Q E hr h=>?_)
 ·obtain ⟨p,dx,v,v2,F,d,d2,rfl,_⟩:=h
  rfl
 ·obtain ⟨p,dx,v,v2,F,d,d2,rfl,hp,hF,s1,qd,qd2,q⟩:=h
  refine ⟨_,oY (vO (pe_cmeth S (by rfl) mR FI hr bI .nil ui (b9 (pv 0) (b9 (pv 1) dE))))
   (oY (ps_fld (pv 0) (vR OK (hr.mono (by decide)) (by rfl) aG.mg aG.fn.kp aG.bd .nil ui (b9 (pv 2) dE)) rfl)
   (pG (ps_if (zR op_ne (fQ lF (by rfl) zl PySem.boot_len (b9 (A5 (pv 0) rfl) dE)) (fQ lF (by rfl) zl PySem.boot_len (b9 (A5 (pv 0) rfl) dE)) (Ag _)) uc zS))),?_⟩
  refine ⟨_,rfl,_,rfl,p,dx,v,F,d,rfl,hp,hF,s1,qd,?_⟩
  cases hg:aC CR CP CN n [d] with
  |error e=>rw [hg] at q;exact q
  |ok r=>
   rw [hg,aA] at q
   intro u F1 H1 a1 a2 a3 a4 a5 a6 a7
   refine ⟨v2,rfl,F1,[d2],a2,⟨v2,[],rfl,cf.mono a1 qd2,rfl⟩,rfl,?_⟩
   skip
   cases hg2:aC CR CP CN n [d2] with
   |error e=>rw [hg2] at q;exact False.elim q
   |ok r2=>
    rw [hg2,aA] at q
    intro u2 F2 H2 st qw
    by_cases ht:twoL r r2=true
    ·rw [if_pos ht] at q
     have hF2:F2 p=none:=by
      cases hz:F2 p with
      |none=>rfl
      |some o=>
       rcases st.nw p o hz with z|z
       ·rw [a3] at z;cases z
       ·rw [a6] at z;cases z
     refine ⟨_,rfl,p,CP,dx,_,rfl,st.hh _ _ a6,cl,nb,(by show 1<1000;decide),?_⟩
     rw [putGB]
     have s3:b0 F2 (upd H2 p (.ins CP dx [("gaps",u),("beside",u2)])):=fun c o e=>by
      have hc:c≠p:=fun z=>by rw [z,hF2] at e;cases e
      rw [ar hc]
      exact st.fh _ _ e
     cases r with
     |lst xs=>
      cases r2 with
      |lst ys=>
       have hl:xs.length=ys.length:=of_decide_eq_true ht
       obtain ⟨g1,xs1,e1,t1,z1⟩:=cf.mono st.ff a7
       obtain ⟨g2,xs2,e2,t2,z2⟩:=id qw
       refine ⟨_,rfl,p,CP,dx,_,_,rfl,aq,cl,nb,rfl,g2,_,by rw [e2],.inl (s3.lst t2),_,rfl,p,CP,dx,_,_,rfl,aq,cl,na,rfl,g1,_,by rw [e1],.inl (s3.lst t1),rfl,_,rfl,?_⟩
       refine iteNS (by rw [z1.length,z2.length,hl]) ?_
       refine q u u2 F2 _ (a1.trans st.ff) s3 hF2 (fun b o e=>?_) (fun c o e hc=>by rw [ar hc];exact st.hh _ _ (a5 c o e hc)) aq (cf.mono st.ff a7) qw
       rcases st.nw b o e with z|z
       ·exact a4 b o z
       ·refine .inr ?_
        cases hz:H b with
        |none=>rfl
        |some o'=>
         by_cases hb:b=p
         ·subst hb;rw [hF2] at e;cases e
         ·rw [a5 b o' hz hb] at z;cases z
      |_=>cases ht
     |_=>cases ht
    ·rw [if_neg ht] at q;exact False.elim q
theorem aM:aK ["_law_script","_law_start","_law_kinds","_law_many","_law_flights_here","_law_k","_law_number_here","_law_first","_law_last","_law_due","_law_price"] ["_law_script","_law_start","_law_kinds","_law_many"] (ao fO):=⟨rfl,rfl,rfl,by decide +kernel,rfl,by decide +kernel,by decide +kernel⟩
theorem pJ {n:Nat} {P:Program} {w:World} {K:PySem.W.Frag} {mg:Str->Option Value} {base:Heap} {CR CP CN:Addr} (Z:Zs K mg CR CP CN) {bh:Addr} {aW:FuncData} (au:Yd P w K mg base CX0 1 "_law_number" cy ["_law_script","_law_k"] (spF K false (aJ CR CP CN n) 2) bh aW) {dO:Addr} {d7:FuncData} (fZ:Def K mg "_law_flights" fO ["_law_script","_law_start","_law_kinds","_law_many"] dO d7):cu P w K mg base CX0 2 dO d7 ["_law_script","_law_start","_law_kinds","_law_many"] (spF K false (dG CR CP CN n) 4):=
 oz (O':=[]) fZ.fn aM false (jh CR CP CN n) fun cdv A outer s H E hr=>
  (ah (aw (i:=4) (own:=true) aM.nd (kL ak))
  (ah (gx (pt:=.nm 5) (kn Z.dU (a8 (ai 3) ak)) (oE aM.nd)
   (ah (aw (i:=6) (own:=false) aM.nd (aS au.o hr au.d.mg au.d.fn.kp au.d.bd (a8 (ai 0) (a8 (aF (av dF (ai 1) (ai 5))) ak))))
  (ah (aw (i:=7) (own:=false) aM.nd (av cM (av gI (ai 6) a9) a9))
  (ah (aw (i:=8) (own:=false) aM.nd (aF (av dF (ai 7) (av cM (av gI (ai 6) a9) a9))))
  (ah (fM (ck (o_eq hr.units) (av cM (ai 6) a9) a9)
   (ay (aw (i:=8) (own:=false) aM.nd (av yy a9 a9)))
   cn)
  (ah (fM (ck (o_eq hr.units) (av cM (ai 6) a9) a9)
   (ay (aw (i:=8) (own:=false) aM.nd (aF (av dF (ai 7) (av cM (av gI (ai 6) a9) a9)))))
   cn)
  (ah (aw (i:=9) (own:=false) aM.nd (av cM (av gI (ai 6) a9) a9))
  (ah (aw (i:=10) (own:=false) aM.nd (av cM (av gI (ai 6) a9) a9))
  (ah (fM (ck (o_eq hr.units) (av cM (ai 6) a9) a9)
   (ay (aw (i:=10) (own:=false) aM.nd (av cM (ai 6) (aF (av dF (av yy a9 a9) a9)))))
   cn)
  (ay (lC (i:=4) (mE (a8 (av cM (av gI (ai 6) a9) (ai 2)) (a8 (ai 7) (a8 (ai 8) (a8 (ai 9) (a8 (ai 10) ak)))))))))))))))))
  (dS (O2:=[]) (ay (bp (ai 4))))))
theorem dA:aK ["_law_script","_law_start","_law_closed_here","_law_k","_law_number_here","_law_begin"] ["_law_script","_law_start"] (ao gM):=⟨rfl,rfl,rfl,by decide +kernel,rfl,by decide +kernel,by decide +kernel⟩
theorem qE {n:Nat} {P:Program} {w:World} {K:PySem.W.Frag} {mg:Str->Option Value} {base:Heap} {CR CP CN:Addr} (Z:Zs K mg CR CP CN) {bh:Addr} {aW:FuncData} (au:Yd P w K mg base CX0 1 "_law_number" cy ["_law_script","_law_k"] (spF K false (aJ CR CP CN n) 2) bh aW) {eZ:Addr} {dM:FuncData} (hX:Def K mg "_law_closed" gM ["_law_script","_law_start"] eZ dM):cu P w K mg base CX0 2 eZ dM ["_law_script","_law_start"] (spF K false (eN CR CP CN n) 2):=
 oz (O':=[]) hX.fn dA false (km CR CP CN n) fun cdv A outer s H E hr=>
  (ah (aw (i:=2) (own:=true) dA.nd (kL ak))
  (ah (gx (pt:=.nm 3) (kn Z.dU (a8 (av cM (av gI (aS au.o hr au.d.mg au.d.fn.kp au.d.bd (a8 (ai 0) (a8 (ai 1) ak))) a9) a9) ak)) (oE dA.nd)
   (ah (aw (i:=4) (own:=false) dA.nd (aS au.o hr au.d.mg au.d.fn.kp au.d.bd (a8 (ai 0) (a8 (aF (av dF (aF (av dF (ai 1) a9)) (ai 3))) ak))))
  (ah (aw (i:=5) (own:=false) dA.nd (av cM (av gI (ai 4) a9) a9))
  (ay (lC (i:=2) (mE (a8 (ai 5) (a8 (aF (av dF (aF (av dF (ai 5) a9)) (av cM (av gI (ai 4) a9) a9))) ak))))))))
  (dS (O2:=[]) (ay (bp (ai 2))))))
theorem nq:aK ["flights","first","last"] ["flights","first","last"] (ao dh):=⟨rfl,rfl,rfl,by decide +kernel,rfl,by decide +kernel,by decide +kernel⟩
theorem nv {n:Nat} {P:Program} {w:World} {K:PySem.W.Frag} {mg:Str->Option Value} {base:Heap} {CR CP CN:Addr} (Z:Zs K mg CR CP CN) {cj:Addr} {bT:FuncData} (dq:Def K mg "flights_between" dh ["flights","first","last"] cj bT):cu P w K mg base CX0 1 cj bT ["flights","first","last"] (spF K false (cg CR CP CN n) 3):=
 oz (O':=[]) dq.fn nq false (fH CR CP CN n) fun cdv A outer s H E hr=>
  (ay (bp (aF (gF ["number","flight","first","last"] [none,none,some 1,some 2] (AN Z.fj (ai 0)) (fun _ _ _ _ _=>wt rfl (jL (i:=0) (by decide +kernel) (jL (i:=1) (by decide +kernel) n9))) (pQ (by decide)) (fun _ _ _ _ _=>pts_one (PW.pt (rG (ck za (ai 2) (bA g4 (ai 1) a9)) (pY (ck za (bA g4 (ai 1) a9) (ai 3)))))) (fun _ _ _ _ _=>(ai 0))))))
theorem i5:aK ["kinds","there","pairs","kind","other"] ["kinds"] (ao lQ):=⟨rfl,rfl,rfl,by decide +kernel,rfl,by decide +kernel,by decide +kernel⟩
theorem vV {n:Nat} {P:Program} {w:World} {K:PySem.W.Frag} {mg:Str->Option Value} {base:Heap} {CR CP CN:Addr} (Z:Zs K mg CR CP CN) {jJ:Addr} {iw:FuncData} (m9:Def K mg "pairs_of" lQ ["kinds"] jJ iw):cu P w K mg base CX0 1 jJ iw ["kinds"] (spF K false (jD CR CP CN n) 1):=
 oz (O':=[]) m9.fn i5 false (ou CR CP CN n) fun cdv A outer s H E hr=>
  (ah (aw (i:=1) (own:=false) i5.nd (aF (wx Z.iO Z.vp (ai 0))))
  (ah (aw (i:=2) (own:=true) i5.nd (kL ak))
  (ah (gx (pt:=.nm 3) (d9 (ai 1)) (oE i5.nd)
   (ay (gx (pt:=.nm 4) (d9 (ai 1)) (oE i5.nd)
   (ay (fM (PW.pt (dw_or (ck (o_ne hr.units) (ai 3) (ai 4)) (xK (ck o_gt (de_count hr.units (ai 0) (ai 3)) a9))))
   (ay (lC (i:=2) (mE (a8 (ai 3) (a8 (ai 4) ak)))))
   cn)))))
  (dS (O2:=[]) (ay (bp (ai 2)))))))
theorem mh:aK ["self"] ["self"] (ao aN):=⟨rfl,rfl,rfl,by decide +kernel,rfl,by decide +kernel,by decide +kernel⟩
theorem ml {n:Nat} {P:Program} {w:World} {K:PySem.W.Frag} {mg:Str->Option Value} {base:Heap} {CR CP CN:Addr} (Z:Zs K mg CR CP CN) {ax:Addr} {aI:FuncData} (cE:Mth K CR "many_strips" "Rules.many_strips" aN ["self"] ax aI):cu P w K mg base CX0 1 ax aI ["self"] (spF K false (aO CR CP CN n) 1):=
 oz (O':=[]) cE.fn mh false (e6 CR CP CN n) fun cdv A outer s H E hr=>
  (ay (bp a9))
theorem mI:aK ["self"] ["self"] (ao aT):=⟨rfl,rfl,rfl,by decide +kernel,rfl,by decide +kernel,by decide +kernel⟩
theorem mP {n:Nat} {P:Program} {w:World} {K:PySem.W.Frag} {mg:Str->Option Value} {base:Heap} {CR CP CN:Addr} (Z:Zs K mg CR CP CN) {az:Addr} {aP:FuncData} (cS:Mth K CP "many_strips" "Pair.many_strips" aT ["self"] az aP):cu P w K mg base CX0 1 az aP ["self"] (spF K false (aU CR CP CN n) 1):=
 oz (O':=[]) cS.fn mI false (eU CR CP CN n) fun cdv A outer s H E hr=>
  (ay (bp a9))
theorem qv:aK ["self","one","other"] ["self","one","other"] (ao bQ):=⟨rfl,rfl,rfl,by decide +kernel,rfl,by decide +kernel,by decide +kernel⟩
theorem qF {n:Nat} {P:Program} {w:World} {K:PySem.W.Frag} {mg:Str->Option Value} {base:Heap} {CR CP CN:Addr} (Z:Zs K mg CR CP CN) {aR:Addr} {bH:FuncData} (hZ:Mth K CR "apart" "Rules.apart" bQ ["self","one","other"] aR bH):cu P w K mg base CX0 1 aR bH ["self","one","other"] (spF K false (ba CR CP CN n) 3):=
 oz (O':=[]) hZ.fn qv false (gR CR CP CN n) fun cdv A outer s H E hr=>
  (ay (bp (bA g4 (bA g4 (AQ (Cs:=[CR,CP]) Z.xI (ai 0)) (bA g4 (ai 1) a9)) (bA g4 (ai 2) a9))))
theorem nr:aK ["self","one","other","rows"] ["self","one","other"] (ao cm):=⟨rfl,rfl,rfl,by decide +kernel,rfl,by decide +kernel,by decide +kernel⟩
theorem sE {n:Nat} {P:Program} {w:World} {K:PySem.W.Frag} {mg:Str->Option Value} {base:Heap} {CR CP CN:Addr} (Z:Zs K mg CR CP CN) {aY:Addr} {bU:FuncData} (j7:Mth K CP "apart" "Pair.apart" cm ["self","one","other"] aY bU):cu P w K mg base CX0 1 aY bU ["self","one","other"] (spF K false (aX CR CP CN n) 3):=
 oz (O':=[]) j7.fn nr false (eC CR CP CN n) fun cdv A outer s H E hr=>
  (ah (aw (i:=3) (own:=false) nr.nd (de_ite (ck (o_eq hr.units) (bA g4 (ai 1) a9) (bA g4 (ai 2) a9)) (AQ (Cs:=[CR,CP]) Z.xI (ai 0)) (AQ (Cs:=[CP]) Z.yK (ai 0))))
  (ay (bp (bA g4 (bA g4 (ai 3) (bA g4 (ai 1) a9)) (bA g4 (ai 2) a9)))))
theorem dw:aK ["rules","kinds","found","kind","other","strip"] ["rules","kinds"] (ao gK):=⟨rfl,rfl,rfl,by decide +kernel,rfl,by decide +kernel,by decide +kernel⟩
theorem qB {n:Nat} {P:Program} {w:World} {K:PySem.W.Frag} {mg:Str->Option Value} {base:Heap} {CR CP CN:Addr} (Z:Zs K mg CR CP CN) {jJ:Addr} {iw:FuncData} (m4:Yd P w K mg base CX0 1 "pairs_of" lQ ["kinds"] (spF K false (jD CR CP CN n) 1) jJ iw) {ax:Addr} {aI:FuncData} (bC:Mth K CR "many_strips" "Rules.many_strips" aN ["self"] ax aI) (bj:cu P w K mg base CX0 1 ax aI ["self"] (spF K false (aO CR CP CN n) 1)) {az:Addr} {aP:FuncData} (bD:Mth K CP "many_strips" "Pair.many_strips" aT ["self"] az aP) (bq:cu P w K mg base CX0 1 az aP ["self"] (spF K false (aU CR CP CN n) 1)) {aR:Addr} {bH:FuncData} (gD:Mth K CR "apart" "Rules.apart" bQ ["self","one","other"] aR bH) (cL:cu P w K mg base CX0 1 aR bH ["self","one","other"] (spF K false (ba CR CP CN n) 3)) {aY:Addr} {bU:FuncData} (gE:Mth K CP "apart" "Pair.apart" cm ["self","one","other"] aY bU) (dn:cu P w K mg base CX0 1 aY bU ["self","one","other"] (spF K false (aX CR CP CN n) 3)) {eX:Addr} {dI:FuncData} (hV:Def K mg "least_apart" gK ["rules","kinds"] eX dI):cu P w K mg base CX0 2 eX dI ["rules","kinds"] (spF K false (dj CR CP CN n) 2):=
 oz (O':=[]) hV.fn dw false (gO CR CP CN n) fun cdv A outer s H E hr=>
  (ah (aw (i:=2) (own:=true) dw.nd (kL ak))
  (ah (gx (pt:=.tp [3,4]) (d9 (aS m4.o hr m4.d.mg m4.d.fn.kp m4.d.bd (a8 (ai 1) ak))) (wt rfl (iX (i:=3) dw.nd (iX (i:=4) dw.nd n9)))
   (ay (gx (pt:=.nm 5) (kn Z.dU (a8 (uR Z.kR.cl bC.mt bj hr bC.bd Z.kP.cl bD.mt bq hr bD.bd (ai 0)) ak)) (oE dw.nd)
   (ay (lC (i:=2) (xQ Z.kR.cl gD.mt cL hr gD.bd Z.kP.cl gE.mt dn hr gE.bd (ai 0) (a8 (mE (a8 (ai 3) (a8 a9 ak))) (a8 (mE (a8 (ai 4) (a8 (ai 5) ak))) ak))))))))
  (dS (O2:=[]) (ay (bp (b8 (c_min rfl) Z.vq boot_min (a8 (ai 2) ak)))))))
theorem jS:aK ["rules","flights","some","first","last","kinds"] ["rules","flights","some"] (ao jo):=⟨rfl,rfl,rfl,by decide +kernel,rfl,by decide +kernel,by decide +kernel⟩
theorem vW {n:Nat} {P:Program} {w:World} {K:PySem.W.Frag} {mg:Str->Option Value} {base:Heap} {CR CP CN:Addr} (Z:Zs K mg CR CP CN) {eX:Addr} {dI:FuncData} (gZ:Yd P w K mg base CX0 2 "least_apart" gK ["rules","kinds"] (spF K false (dj CR CP CN n) 2) eX dI) {fK:Addr} {e8:FuncData} (jP:Def K mg "is_crowd" jo ["rules","flights","some"] fK e8):cu P w K mg base CX0 3 fK e8 ["rules","flights","some"] (spF K false (bK CR CP CN n) 3):=
 oz (O':=[]) jP.fn jS false (lV CR CP CN n) fun cdv A outer s H E hr=>
  (ah (fM (ck o_lt (b8 oF Z.kS PySem.boot_len (a8 (ai 2) ak)) a9)
   (ay (bp qN))
   cn)
  (ah (aw (i:=3) (own:=false) jS.nd (b8 (c_min rfl) Z.vq boot_min (a8 (aF (gF ["number","flights"] [none,some 1] (d9 (ai 2)) (fun _ _ _ _ _=>iY (by decide +kernel)) (bc rfl) (fun _ _ _ _ _=>du) (fun _ _ _ _ _=>(bA g4 (bA g4 (ai 1) (ai 0)) a9)))) ak)))
  (ah (aw (i:=4) (own:=false) jS.nd (b8 (B7 rfl) Z.rX boot_max (a8 (aF (gF ["number","flights"] [none,some 1] (d9 (ai 2)) (fun _ _ _ _ _=>iY (by decide +kernel)) (bc rfl) (fun _ _ _ _ _=>du) (fun _ _ _ _ _=>(bA g4 (bA g4 (ai 1) (ai 0)) a9)))) ak)))
  (ah (nI (i:=5) false ["number","flights"] [none,some 1] jS.nd (d9 (ai 2)) (fun _ _ _ _ _=>iY (by decide +kernel)) (bc rfl) (fun _ _ _ _ _=>du) (fun _ _ _ _ _=>(bA g4 (bA g4 (ai 1) (ai 0)) a9)))
  (ay (bp (AR o_gt (av l7 (aS gZ.o hr gZ.d.mg gZ.d.fn.kp gZ.d.bd (a8 (ai 0) (a8 (ai 5) ak))) (av sH (b8 oF Z.kS PySem.boot_len (a8 (ai 2) ak)) a9)) (av sH (ai 4) (ai 3)))))))))
theorem fm:aK ["rules","flights","firsts","lasts","first","last","some"] ["rules","flights"] (ao lR):=⟨rfl,rfl,rfl,by decide +kernel,rfl,by decide +kernel,by decide +kernel⟩
theorem vX {n:Nat} {P:Program} {w:World} {K:PySem.W.Frag} {mg:Str->Option Value} {base:Heap} {CR CP CN:Addr} (Z:Zs K mg CR CP CN) {cj:Addr} {bT:FuncData} (dk:Yd P w K mg base CX0 1 "flights_between" dh ["flights","first","last"] (spF K false (cg CR CP CN n) 3) cj bT) {fK:Addr} {e8:FuncData} (bL:Yd P w K mg base CX0 3 "is_crowd" jo ["rules","flights","some"] (spF K false (bK CR CP CN n) 3) fK e8) {jK:Addr} {iy:FuncData} (ma:Def K mg "crowd_of" lR ["rules","flights"] jK iy):cu P w K mg base CX0 4 jK iy ["rules","flights"] (spF K false (i4 CR CP CN n) 2):=
 oz (O':=[]) ma.fn fm false (lW CR CP CN n) fun cdv A outer s H E hr=>
  (ah (aw (i:=2) (own:=false) fm.nd (aF (wx Z.iO Z.vp (aF (gF ["flight"] [none] (d9 (ai 1)) (fun _ _ _ _ _=>iY (by decide +kernel)) (bc rfl) (fun _ _ _ _ _=>du) (fun _ _ _ _ _=>(bA g4 (ai 0) a9)))))))
  (ah (aw (i:=3) (own:=false) fm.nd (aF (wx Z.iO Z.vp (aF (gF ["flight"] [none] (d9 (ai 1)) (fun _ _ _ _ _=>iY (by decide +kernel)) (bc rfl) (fun _ _ _ _ _=>du) (fun _ _ _ _ _=>(bA g4 (ai 0) a9)))))))
  (ah (gx (pt:=.nm 4) (d9 (ai 2)) (oE fm.nd)
   (ay (gx (pt:=.nm 5) (d9 (ai 3)) (oE fm.nd)
   (ah (aw (i:=6) (own:=false) fm.nd (aS dk.o (hr.mono (by decide)) dk.d.mg dk.d.fn.kp dk.d.bd (a8 (ai 1) (a8 (ai 4) (a8 (ai 5) ak)))))
  (ay (fM (mD (aS bL.o hr bL.d.mg bL.d.fn.kp bL.d.bd (a8 (ai 0) (a8 (ai 1) (a8 (ai 6) ak)))))
   (ay (bp (ai 6)))
   cn))))))
  (ay (bp xP)))))
theorem eh:aK ["_law_cell","_law_many","_law_number_here","_law_left","_law_some_here","_law_k"] ["_law_cell","_law_many"] (ao jV):=⟨rfl,rfl,rfl,by decide +kernel,rfl,by decide +kernel,by decide +kernel⟩
theorem uq {n:Nat} {P:Program} {w:World} {K:PySem.W.Frag} {mg:Str->Option Value} {base:Heap} {CR CP CN:Addr} (Z:Zs K mg CR CP CN) {iB:Addr} {gk:FuncData} (kH:Def K mg "_law_some" jV ["_law_cell","_law_many"] iB gk):cu P w K mg base CX0 1 iB gk ["_law_cell","_law_many"] (spF K false (fD CR CP CN n) 2):=
 oz (O':=[]) kH.fn eh false (n3 CR CP CN n) fun cdv A outer s H E hr=>
  (ah (aw (i:=2) (own:=false) eh.nd (av cM (av l7 (ai 0) a9) a9))
  (ah (aw (i:=3) (own:=true) eh.nd (xR Z.oK Z.dU (a8 (ai 1) ak)))
  (ah (aw (i:=4) (own:=true) eh.nd (kL ak))
  (dS (O2:=[3,4]) (ah (gx (pt:=.nm 5) (kn Z.dU (a8 (aF (av dF a9 (av cM (ai 2) a9))) ak)) (oE eh.nd)
   (ay (fM (ck (o_ne hr.units) (ai 3) (aF (kL ak)))
   (ah (AM (i:=4) (j:=3) (av cM (av gI (ai 2) a9) (b8 oF Z.kS PySem.boot_len (a8 (ai 3) ak))))
  (ay (aw (i:=2) (own:=false) eh.nd (av cM (aF (av dF (aF (av dF (av l7 (ai 2) (ai 2)) (av l7 a9 (ai 2)))) (ai 5))) a9))))
   cn)))
  (dS (O2:=[]) (ay (bp (ai 4)))))))))
theorem pB:aK ["_law_script","_law_k"] ["_law_script","_law_k"] (ao fP):=⟨rfl,rfl,rfl,by decide +kernel,rfl,by decide +kernel,by decide +kernel⟩
theorem pK {n:Nat} {P:Program} {w:World} {K:PySem.W.Frag} {mg:Str->Option Value} {base:Heap} {CR CP CN:Addr} (Z:Zs K mg CR CP CN) {dP:Addr} {d8:FuncData} (g0:Def K mg "_law_cell_at" fP ["_law_script","_law_k"] dP d8):cu P w K mg base CX0 1 dP d8 ["_law_script","_law_k"] (spF K false (bu CR CP CN n) 2):=
 oz (O':=[]) g0.fn pB false (fS CR CP CN n) fun cdv A outer s H E hr=>
  (ah (fM (ck o_lt (ai 1) (b8 oF Z.kS PySem.boot_len (a8 (ai 0) ak)))
   (ay (bp (av cM (bA g4 (ai 0) (ai 1)) (av yy a9 a9))))
   cn)
  (ay (bp a9)))
theorem cx:aK ["_law_cell","_law_many","_law_shift","_law_strips","_law_order","_law_number_here","_law_turn","_law_at"] ["_law_cell","_law_many","_law_shift","_law_strips"] (ao iS):=⟨rfl,rfl,rfl,by decide +kernel,rfl,by decide +kernel,by decide +kernel⟩
theorem sD {n:Nat} {P:Program} {w:World} {K:PySem.W.Frag} {mg:Str->Option Value} {base:Heap} {CR CP CN:Addr} (Z:Zs K mg CR CP CN) {gu:Addr} {eW:FuncData} (j6:Def K mg "_law_drawn" iS ["_law_cell","_law_many","_law_shift","_law_strips"] gu eW):cu P w K mg base CX0 1 gu eW ["_law_cell","_law_many","_law_shift","_law_strips"] (spF K false (cY CR CP CN n) 4):=
 oz (O':=[]) j6.fn cx false (lx CR CP CN n) fun cdv A outer s H E hr=>
  (ah (aw (i:=4) (own:=false) cx.nd (aF (xR Z.oK Z.dU (a8 (ai 1) ak))))
  (ah (aw (i:=5) (own:=false) cx.nd (av cM (av l7 (ai 0) a9) a9))
  (ah (gx (pt:=.nm 6) (kn Z.dU (a8 (av l7 a9 (ai 1)) ak)) (oE cx.nd)
   (ah (aw (i:=7) (own:=false) cx.nd (av cM (ai 5) (b8 (B7 rfl) Z.rX boot_max (a8 (av sH (ai 1) a9) (a8 a9 ak)))))
  (ah (aw (i:=5) (own:=false) cx.nd (aF (av dF (av gI (ai 5) (b8 (B7 rfl) Z.rX boot_max (a8 (av sH (ai 1) a9) (a8 a9 ak)))) (av l7 (ai 6) a9))))
  (ay (fM (PW.pt (rG (ck o_gt (ai 1) a9) (rG (ck za (av sH (av sH (bA g4 (ai 4) (ai 7)) (ai 7)) a9) (ai 2)) (pY (ck za (av sH (aF (av dF (ai 7) a9)) (bA g4 (ai 4) (ai 7))) (ai 2))))))
   (ay (fM (PW.pt (rG (ck za (av sH (bA g4 (ai 4) (aF (av dF (ai 7) a9))) (ai 7)) (ai 2)) (pY (ck za (av sH (ai 7) (bA g4 (ai 4) (aF (av dF (ai 7) a9)))) (ai 2)))))
   (ay (aw (i:=4) (own:=false) cx.nd (aF (av dF (aF (av dF (aF (de_sl x_sl (ai 4) t6 (t5 (ai 7)))) (aF (kL (a8 (bA g4 (ai 4) (aF (av dF (ai 7) a9))) (a8 (bA g4 (ai 4) (ai 7)) ak)))))) (aF (de_sl x_sl (ai 4) (t5 (aF (av dF (ai 7) a9))) t6))))))
   cn))
   cn)))))
  (ay (bp (aF (gF ["_law_flight","_law_strips","_law_number_here"] [none,some 3,some 5] (d9 (ai 4)) (fun _ _ _ _ _=>iY (by decide +kernel)) (bc rfl) (fun _ _ _ _ _=>du) (fun _ _ _ _ _=>(mE (a8 (ai 0) (a8 (av cM (aF (av dF (av gI (ai 2) a9) (av l7 (av l7 (ai 0) (ai 0)) (av cM (ai 2) a9)))) (ai 1)) ak)))))))))))
theorem vI:aK ["flights","plan"] ["flights","plan"] (ao lP):=⟨rfl,rfl,rfl,by decide +kernel,rfl,by decide +kernel,by decide +kernel⟩
theorem vU {n:Nat} {P:Program} {w:World} {K:PySem.W.Frag} {mg:Str->Option Value} {base:Heap} {CR CP CN:Addr} (Z:Zs K mg CR CP CN) {jI:Addr} {iu:FuncData} (m8:Def K mg "spots_of" lP ["flights","plan"] jI iu):cu P w K mg base CX0 1 jI iu ["flights","plan"] (spF K false (jC CR CP CN n) 2):=
 oz (O':=[]) m8.fn vI false (ot CR CP CN n) fun cdv A outer s H E hr=>
  (ay (bp (aF (gF ["flight","strip","flights"] [none,none,some 0] (d9 (ai 1)) (fun _ _ _ _ _=>wt rfl (jL (i:=0) (by decide +kernel) (jL (i:=1) (by decide +kernel) n9))) (pQ (by decide)) (fun _ _ _ _ _=>du) (fun _ _ _ _ _=>(mE (a8 (bA g4 (bA g4 (ai 2) (ai 0)) a9) (a8 (ai 1) ak))))))))
theorem cv:aK ["closed","joined","start","stop"] ["closed"] (ao cO):=⟨rfl,rfl,rfl,by decide +kernel,rfl,by decide +kernel,by decide +kernel⟩
theorem mO {n:Nat} {P:Program} {w:World} {K:PySem.W.Frag} {mg:Str->Option Value} {base:Heap} {CR CP CN:Addr} (Z:Zs K mg CR CP CN) {bV:Addr} {bM:FuncData} (cR:Def K mg "joined_stretches" cO ["closed"] bV bM):cu P w K mg base CX0 1 bV bM ["closed"] (spF K false (bR CR CP CN n) 1):=
 oz (O':=[]) cR.fn cv false (eT CR CP CN n) fun cdv A outer s H E hr=>
  (ah (aw (i:=1) (own:=true) cv.nd (kL ak))
  (ah (gx (pt:=.tp [2,3]) (d9 (aF (b8 c_sorted Z.iO boot_sorted (a8 (ai 0) ak)))) (wt rfl (iX (i:=2) cv.nd (iX (i:=3) cv.nd n9)))
   (ay (fM (PW.pt (rG (mD (ai 1)) (pY (ck za (ai 2) (bA g4 (bA g4 (ai 1) (de_un o_neg a9)) a9)))))
   (ay (ds_setI (i:=1) (mE (a8 (bA g4 (bA g4 (ai 1) (de_un o_neg a9)) a9) (a8 (b8 (B7 rfl) Z.rX boot_max (a8 (ai 3) (a8 (bA g4 (bA g4 (ai 1) (de_un o_neg a9)) a9) ak))) ak))) (de_un o_neg a9)))
   (ay (lC (i:=1) (mE (a8 (ai 2) (a8 (ai 3) ak))))))))
  (dS (O2:=[]) (ay (bp (ai 1))))))
theorem kY:aK ["closed","time","start","stop"] ["closed","time"] (ao jT):=⟨rfl,rfl,rfl,by decide +kernel,rfl,by decide +kernel,by decide +kernel⟩
theorem um {n:Nat} {P:Program} {w:World} {K:PySem.W.Frag} {mg:Str->Option Value} {base:Heap} {CR CP CN:Addr} (Z:Zs K mg CR CP CN) {bV:Addr} {bM:FuncData} (cQ:Yd P w K mg base CX0 1 "joined_stretches" cO ["closed"] (spF K false (bR CR CP CN n) 1) bV bM) {iz:Addr} {gd:FuncData} (kF:Def K mg "next_open" jT ["closed","time"] iz gd):cu P w K mg base CX0 2 iz gd ["closed","time"] (spF K false (fy CR CP CN n) 2):=
 oz (O':=[]) kF.fn kY false (kj CR CP CN n) fun cdv A outer s H E hr=>
  (ah (gx (pt:=.tp [2,3]) (d9 (aS cQ.o hr cQ.d.mg cQ.d.fn.kp cQ.d.bd (a8 (ai 0) ak))) (wt rfl (iX (i:=2) kY.nd (iX (i:=3) kY.nd n9)))
   (ay (fM (xM za o_lt (ai 2) (ai 1) (ai 3))
   (ay (bp (ai 3)))
   cn)))
  (ay (bp (ai 1))))
theorem u9:aK ["rules","spots","times","place"] ["rules","spots","times","place"] (ao jU):=⟨rfl,rfl,rfl,by decide +kernel,rfl,by decide +kernel,by decide +kernel⟩
theorem uo {n:Nat} {P:Program} {w:World} {K:PySem.W.Frag} {mg:Str->Option Value} {base:Heap} {CR CP CN:Addr} (Z:Zs K mg CR CP CN) {aR:Addr} {bH:FuncData} (gD:Mth K CR "apart" "Rules.apart" bQ ["self","one","other"] aR bH) (cL:cu P w K mg base CX0 1 aR bH ["self","one","other"] (spF K false (ba CR CP CN n) 3)) {aY:Addr} {bU:FuncData} (gE:Mth K CP "apart" "Pair.apart" cm ["self","one","other"] aY bU) (dn:cu P w K mg base CX0 1 aY bU ["self","one","other"] (spF K false (aX CR CP CN n) 3)) {iA:Addr} {gh:FuncData} (kG:Def K mg "gap_times" jU ["rules","spots","times","place"] iA gh):cu P w K mg base CX0 2 iA gh ["rules","spots","times","place"] (spF K false (ip CR CP CN n) 4):=
 oz (O':=[]) kG.fn u9 false (n0 CR CP CN n) fun cdv A outer s H E hr=>
  (ay (bp (aF (gF ["ahead","rules","spots","times","place"] [none,some 0,some 1,some 2,some 3] (kn Z.dU (a8 (ai 3) ak)) (fun _ _ _ _ _=>iY (by decide +kernel)) (bc rfl) (fun _ _ _ _ _=>du) (fun _ _ _ _ _=>(aF (av dF (bA g4 (ai 3) (ai 0)) (xQ Z.kR.cl gD.mt cL hr gD.bd Z.kP.cl gE.mt dn hr gE.bd (ai 1) (a8 (bA g4 (ai 2) (ai 0)) (a8 (bA g4 (ai 2) (ai 4)) ak))))))))))
theorem dW:aK ["rules","flights","closed","plan","spots","times","place","entry","flight","time"] ["rules","flights","closed","plan"] (ao lO):=⟨rfl,rfl,rfl,by decide +kernel,rfl,by decide +kernel,by decide +kernel⟩
theorem vT {n:Nat} {P:Program} {w:World} {K:PySem.W.Frag} {mg:Str->Option Value} {base:Heap} {CR CP CN:Addr} (Z:Zs K mg CR CP CN) {jI:Addr} {iu:FuncData} (lZ:Yd P w K mg base CX0 1 "spots_of" lP ["flights","plan"] (spF K false (jC CR CP CN n) 2) jI iu) {iz:Addr} {gd:FuncData} (kA:Yd P w K mg base CX0 2 "next_open" jT ["closed","time"] (spF K false (fy CR CP CN n) 2) iz gd) {iA:Addr} {gh:FuncData} (kB:Yd P w K mg base CX0 2 "gap_times" jU ["rules","spots","times","place"] (spF K false (ip CR CP CN n) 4) iA gh) {qL:Addr} {fd_nCN:FuncData} (N_CN:Mth K CN "__init__" "NoTime.__init__" vJ ["self","flight","time"] qL fd_nCN) (XCN:XMk K mg "NoTime" CN qL) (Bm:cu P w K mg base CX0 1 qL fd_nCN ["self","flight","time"] (spX2 CN "flight" "time")) {jH:Addr} {ir:FuncData} (m7:Def K mg "times_of" lO ["rules","flights","closed","plan"] jH ir):cu P w K mg base (CXd P w) 3 jH ir ["rules","flights","closed","plan"] (spX K false (jB CR CP CN n) 4):=
 fn_X (O':=[]) m7.fn dW false (oq CR CP CN n) fun cdv A outer s H E hr=>
  (ah (pe (aw (i:=4) (own:=false) dW.nd (aS lZ.o (hr.mono (by decide)) lZ.d.mg lZ.d.fn.kp lZ.d.bd (a8 (ai 1) (a8 (ai 3) ak)))))
  (ah (pe (aw (i:=5) (own:=true) dW.nd (kL ak)))
  (ah (gx (pt:=.tp [6,7]) (AN Z.fj (ai 3)) (wt rfl (iX (i:=6) dW.nd (iX (i:=7) dW.nd n9)))
   (ah (pe (aw (i:=8) (own:=false) dW.nd (bA g4 (ai 1) (bA g4 (ai 7) a9))))
  (ah (pe (ds_setA (i:=9) (own:=false) dW.nd (aS kA.o hr kA.d.mg kA.d.fn.kp kA.d.bd (a8 (ai 2) (a8 (b8 (B7 rfl) Z.rX boot_max (a8 (aF (av dF (aF (kL (a8 (bA g4 (ai 8) a9) ak))) (aS kB.o hr kB.d.mg kB.d.fn.kp kB.d.bd (a8 (ai 0) (a8 (ai 4) (a8 (ai 5) (a8 (ai 6) ak))))))) ak)) ak)))))
  (ah (fM (ck o_gt (ai 9) (bA g4 (ai 8) a9))
   (dS (O2:=[]) (ay (AL PySem.F.excBase_ValueError xeqD2 XCN.ex XCN.fn XCN.kp Bm (hr.mono (by decide)) N_CN.bd XCN.mg (a8 (bA g4 (ai 7) a9) (a8 (ai 9) ak)))))
   cn)
  (xN (ay (lC (i:=5) (ai 9))))))) (hp:=PassesOwn.leaving))
  (dS (O2:=[]) (xN (ay (bp (ai 5))))))))
theorem i6:aK ["_law_rules","_law_flights_here","_law_closed_here","_law_plan","_law_told","e"] ["_law_rules","_law_flights_here","_law_closed_here","_law_plan"] (ao fN):=⟨rfl,rfl,rfl,by decide +kernel,rfl,by decide +kernel,by decide +kernel⟩
theorem pI {n:Nat} {P:Program} {w:World} {K:PySem.W.Frag} {mg:Str->Option Value} {base:Heap} {CR CP CN:Addr} (Z:Zs K mg CR CP CN) {jH:Addr} {ir:FuncData} (lY:Yd P w K mg base (CXd P w) 3 "times_of" lO ["rules","flights","closed","plan"] (spX K false (jB CR CP CN n) 4) jH ir) {dN:Addr} {d6:FuncData} (fY:Def K mg "_law_no_time" fN ["_law_rules","_law_flights_here","_law_closed_here","_law_plan"] dN d6):cu P w K mg base CX0 4 dN d6 ["_law_rules","_law_flights_here","_law_closed_here","_law_plan"] (spF K false (bW CR CP CN n) 4):=
 oz (O':=[]) fY.fn i6 false (jg CR CP CN n) fun cdv A outer s H E hr=>
  (ah (aw (i:=4) (own:=false) i6.nd xP)
  (ah (AK (i:=5) (j:=4) (fun pins σ E xe hp=>(dsa_expr (own:=false) (dea_call lY.o hp hr lY.d.mg lY.d.fn.kp lY.d.bd (a8 (ai 0) (a8 (ai 1) (a8 (ai 2) (a8 (ai 3) ak))))))) Z.xCN Z.aCN_flight Z.aCN_time i6.nd)
  (ah (fM (PW.pt (dw_or (ck o_isN (ai 4) xP) (xK (ck (o_notIn hr.units) (bA g4 (ai 4) a9) (aF (gF ["_law_flight","_law_strip"] [none,none] (d9 (ai 3)) (fun _ _ _ _ _=>wt rfl (jL (i:=0) (by decide +kernel) (jL (i:=1) (by decide +kernel) n9))) (pQ (by decide)) (fun _ _ _ _ _=>du) (fun _ _ _ _ _=>(ai 0))))))))
   (ay (bp qN))
   cn)
  (ay (bp (AR o_gt (bA g4 (ai 4) a9) (bA g4 (bA g4 (ai 1) (bA g4 (ai 4) a9)) a9)))))))
theorem eA:aK ["_law_rules","_law_flights_here","_law_closed_here","_law_some_here","_law_cells","_law_strips","_law_cell","_law_plan","_law_few"] ["_law_rules","_law_flights_here","_law_closed_here","_law_some_here","_law_cells"] (ao jW):=⟨rfl,rfl,rfl,by decide +kernel,rfl,by decide +kernel,by decide +kernel⟩
theorem ur {n:Nat} {P:Program} {w:World} {K:PySem.W.Frag} {mg:Str->Option Value} {base:Heap} {CR CP CN:Addr} (Z:Zs K mg CR CP CN) {gu:Addr} {eW:FuncData} (cq:Yd P w K mg base CX0 1 "_law_drawn" iS ["_law_cell","_law_many","_law_shift","_law_strips"] (spF K false (cY CR CP CN n) 4) gu eW) {dN:Addr} {d6:FuncData} (bJ:Yd P w K mg base CX0 4 "_law_no_time" fN ["_law_rules","_law_flights_here","_law_closed_here","_law_plan"] (spF K false (bW CR CP CN n) 4) dN d6) {ax:Addr} {aI:FuncData} (bC:Mth K CR "many_strips" "Rules.many_strips" aN ["self"] ax aI) (bj:cu P w K mg base CX0 1 ax aI ["self"] (spF K false (aO CR CP CN n) 1)) {az:Addr} {aP:FuncData} (bD:Mth K CP "many_strips" "Pair.many_strips" aT ["self"] az aP) (bq:cu P w K mg base CX0 1 az aP ["self"] (spF K false (aU CR CP CN n) 1)) {iC:Addr} {gm:FuncData} (kI:Def K mg "_law_none" jW ["_law_rules","_law_flights_here","_law_closed_here","_law_some_here","_law_cells"] iC gm):cu P w K mg base CX0 5 iC gm ["_law_rules","_law_flights_here","_law_closed_here","_law_some_here","_law_cells"] (spF K false (fE CR CP CN n) 5):=
 oz (O':=[]) kI.fn eA false (n4 CR CP CN n) fun cdv A outer s H E hr=>
  (ah (aw (i:=5) (own:=false) eA.nd (uR Z.kR.cl bC.mt bj (hr.mono (by decide)) bC.bd Z.kP.cl bD.mt bq (hr.mono (by decide)) bD.bd (ai 0)))
  (ah (gx (pt:=.nm 6) (d9 (ai 4)) (oE eA.nd)
   (ah (aw (i:=7) (own:=false) eA.nd (aS cq.o (hr.mono (by decide)) cq.d.mg cq.d.fn.kp cq.d.bd (a8 (ai 6) (a8 (b8 oF Z.kS PySem.boot_len (a8 (ai 1) ak)) (a8 (b8 oF Z.kS PySem.boot_len (a8 (ai 1) ak)) (a8 (ai 5) ak))))))
  (ah (fM (pZ (mD (aS bJ.o hr bJ.d.mg bJ.d.fn.kp bJ.d.bd (a8 (ai 0) (a8 (ai 1) (a8 (ai 2) (a8 (ai 7) ak)))))))
   (ay (bp qN))
   cn)
  (ah (nI (i:=8) false ["_law_k","_law_flights_here"] [none,some 1] eA.nd (d9 (ai 3)) (fun _ _ _ _ _=>iY (by decide +kernel)) (bc rfl) (fun _ _ _ _ _=>du) (fun _ _ _ _ _=>(bA g4 (ai 1) (ai 0))))
  (ah (aw (i:=7) (own:=false) eA.nd (aS cq.o (hr.mono (by decide)) cq.d.mg cq.d.fn.kp cq.d.bd (a8 (av gI (ai 6) a9) (a8 (b8 oF Z.kS PySem.boot_len (a8 (ai 8) ak)) (a8 (b8 oF Z.kS PySem.boot_len (a8 (ai 8) ak)) (a8 (ai 5) ak))))))
  (ay (fM (pZ (mD (aS bJ.o hr bJ.d.mg bJ.d.fn.kp bJ.d.bd (a8 (ai 0) (a8 (ai 8) (a8 (ai 2) (a8 (ai 7) ak)))))))
   (ay (bp qN))
   cn)))))))
  (ay (bp qN))))
theorem jn:aK ["_law_script","_law_kinds","_law_many","_law_gaps_here","_law_rules","_law_flights_here","_law_closed_here","_law_sets","_law_cells","_law_crowd","_law_some_here"] ["_law_script"] (ao yp):=⟨rfl,rfl,rfl,by decide +kernel,rfl,by decide +kernel,by decide +kernel⟩
theorem ok_law {n:Nat} {P:Program} {w:World} {K:PySem.W.Frag} {mg:Str->Option Value} {base:Heap} {CR CP CN:Addr} (Z:Zs K mg CR CP CN) {iE:Addr} {gn:FuncData} (dg:Yd P w K mg base CX0 2 "_law_gaps" jX ["_law_script","_law_start","_law_kinds"] (spF K false (fF CR CP CN n) 3) iE gn) {dO:Addr} {d7:FuncData} (fW:Yd P w K mg base CX0 2 "_law_flights" fO ["_law_script","_law_start","_law_kinds","_law_many"] (spF K false (dG CR CP CN n) 4) dO d7) {eZ:Addr} {dM:FuncData} (hU:Yd P w K mg base CX0 2 "_law_closed" gM ["_law_script","_law_start"] (spF K false (eN CR CP CN n) 2) eZ dM) {jK:Addr} {iy:FuncData} (m5:Yd P w K mg base CX0 4 "crowd_of" lR ["rules","flights"] (spF K false (i4 CR CP CN n) 2) jK iy) {iB:Addr} {gk:FuncData} (kC:Yd P w K mg base CX0 1 "_law_some" jV ["_law_cell","_law_many"] (spF K false (fD CR CP CN n) 2) iB gk) {bh:Addr} {aW:FuncData} (au:Yd P w K mg base CX0 1 "_law_number" cy ["_law_script","_law_k"] (spF K false (aJ CR CP CN n) 2) bh aW) {dP:Addr} {d8:FuncData} (aD:Yd P w K mg base CX0 1 "_law_cell_at" fP ["_law_script","_law_k"] (spF K false (bu CR CP CN n) 2) dP d8) {fK:Addr} {e8:FuncData} (bL:Yd P w K mg base CX0 3 "is_crowd" jo ["rules","flights","some"] (spF K false (bK CR CP CN n) 3) fK e8) {iC:Addr} {gm:FuncData} (dc:Yd P w K mg base CX0 5 "_law_none" jW ["_law_rules","_law_flights_here","_law_closed_here","_law_some_here","_law_cells"] (spF K false (fE CR CP CN n) 5) iC gm) {f_nR:Addr} {fd_nR:FuncData} (N_R:Mth K CR "__init__" "Rules.__init__" s_nR ["self","gaps"] f_nR fd_nR) (OKN_R:cu P w K mg base CX0 4 f_nR fd_nR ["self","gaps"] (spI1 K CR (aC CR CP CN n))) {f_nP:Addr} {fd_nP:FuncData} (N_P:Mth K CP "__init__" "Pair.__init__" s_nP ["self","gaps","beside"] f_nP fd_nP) (OKN_P:cu P w K mg base CX0 5 f_nP fd_nP ["self","gaps","beside"] (spI2 K CP (aC CR CP CN n))) {yM:Addr} {fd_law:FuncData} (D_law:Def K mg "law" yp ["_law_script"] yM fd_law):cu P w K mg base CX0 7 yM fd_law ["_law_script"] (spF K false (m_law CR CP CN n) 1):=
 oz (O':=[]) D_law.fn jn false (g_law CR CP CN n) fun cdv A outer s H E hr=>
  (ah (aw (i:=1) (own:=false) jn.nd (aF (av dF a9 (av cM (av cM (av l7 (aS aD.o (hr.mono (by decide)) aD.d.mg aD.d.fn.kp aD.d.bd (a8 (ai 0) (a8 a9 ak))) a9) a9) a9))))
  (ah (aw (i:=2) (own:=false) jn.nd (aF (av dF a9 (av cM (av cM (av l7 (aS aD.o (hr.mono (by decide)) aD.d.mg aD.d.fn.kp aD.d.bd (a8 (ai 0) (a8 a9 ak))) a9) a9) a9))))
  (ah (aw (i:=3) (own:=false) jn.nd (aS dg.o (hr.mono (by decide)) dg.d.mg dg.d.fn.kp dg.d.bd (a8 (ai 0) (a8 a9 (a8 (ai 1) ak)))))
  (ah (aw (i:=4) (own:=false) jn.nd (de_newR ⟨Z.kR.mks,N_R.mt.at_,N_R.mt.fn,Z.kR.kp⟩ OKN_R (hr.mono (by decide)) Z.kR.mg N_R.bd (a8 (ai 3) ak)))
  (ah (fM (ck (o_eq hr.units) (av cM (aS aD.o (hr.mono (by decide)) aD.d.mg aD.d.fn.kp aD.d.bd (a8 (ai 0) (a8 a9 ak))) a9) a9)
   (ay (aw (i:=4) (own:=false) jn.nd (de_newP ⟨Z.kP.mks,N_P.mt.at_,N_P.mt.fn,Z.kP.kp⟩ OKN_P hr Z.kP.mg N_P.bd (a8 (ai 3) (a8 (aS dg.o (hr.mono (by decide)) dg.d.mg dg.d.fn.kp dg.d.bd (a8 (ai 0) (a8 a9 (a8 (ai 1) ak)))) ak)))))
   cn)
  (ah (aw (i:=5) (own:=false) jn.nd (aS fW.o (hr.mono (by decide)) fW.d.mg fW.d.fn.kp fW.d.bd (a8 (ai 0) (a8 a9 (a8 (ai 1) (a8 (ai 2) ak))))))
  (ah (fM (ck (o_eq hr.units) (av cM (av gI (aS aD.o (hr.mono (by decide)) aD.d.mg aD.d.fn.kp aD.d.bd (a8 (ai 0) (a8 a9 ak))) a9) a9) a9)
   (ay (nI (i:=5) false ["_law_flight"] [none] jn.nd (d9 (ai 5)) (fun _ _ _ _ _=>iY (by decide +kernel)) (bc rfl) (fun _ _ _ _ _=>du) (fun _ _ _ _ _=>(mE (a8 (bA g4 (ai 0) a9) (a8 (bA g4 (ai 0) a9) (a8 (b8 (c_min rfl) Z.vq boot_min (a8 (bA g4 (ai 0) a9) (a8 a9 ak))) (a8 a9 (a8 a9 ak)))))))))
   cn)
  (ah (aw (i:=6) (own:=false) jn.nd (aS hU.o (hr.mono (by decide)) hU.d.mg hU.d.fn.kp hU.d.bd (a8 (ai 0) (a8 a9 ak))))
  (ah (nI (i:=7) false ["_law_cell","_law_many"] [none,some 2] jn.nd (d9 (aF (de_sl x_sl (ai 0) t6 (t5 a9)))) (fun _ _ _ _ _=>iY (by decide +kernel)) (bc rfl) (fun _ _ _ _ _=>du) (fun _ _ _ _ _=>(aS kC.o (hr.mono (by decide)) kC.d.mg kC.d.fn.kp kC.d.bd (a8 (av cM (ai 0) (av yy a9 a9)) (a8 (ai 1) ak)))))
  (ah (nI (i:=8) false ["_law_k","_law_script"] [none,some 0] jn.nd (kn Z.dU (a8 a9 ak)) (fun _ _ _ _ _=>iY (by decide +kernel)) (bc rfl) (fun _ _ _ _ _=>du) (fun _ _ _ _ _=>(aS au.o (hr.mono (by decide)) au.d.mg au.d.fn.kp au.d.bd (a8 (ai 1) (a8 (aF (av dF a9 (ai 0))) ak)))))
  (ah (aw (i:=9) (own:=false) jn.nd (aS m5.o (hr.mono (by decide)) m5.d.mg m5.d.fn.kp m5.d.bd (a8 (ai 4) (a8 (ai 5) ak))))
  (ah (fM (ck o_notN (ai 9) xP)
   (ay (fM (PW.pt (dw_or (ck o_notB (aS bL.o (hr.mono (by decide)) bL.d.mg bL.d.fn.kp bL.d.bd (a8 (ai 4) (a8 (ai 5) (a8 (ai 9) ak)))) qN) (xK (pZ (mD (aS dc.o (hr.mono (by decide)) dc.d.mg dc.d.fn.kp dc.d.bd (a8 (ai 4) (a8 (ai 5) (a8 (ai 6) (a8 (ai 9) (a8 (ai 8) ak)))))))))))
   (ay (bp qN))
   cn))
   cn)
  (ah (gx (pt:=.nm 10) (d9 (ai 7)) (oE jn.nd)
   (ay (fM (PW.pt (rG (mD (aS bL.o (hr.mono (by decide)) bL.d.mg bL.d.fn.kp bL.d.bd (a8 (ai 4) (a8 (ai 5) (a8 (ai 10) ak))))) (pY (pZ (mD (aS dc.o (hr.mono (by decide)) dc.d.mg dc.d.fn.kp dc.d.bd (a8 (ai 4) (a8 (ai 5) (a8 (ai 6) (a8 (ai 10) (a8 (ai 8) ak)))))))))))
   (ay (bp qN))
   cn)))
  (ay (bp qN)))))))))))))))
noncomputable abbrev fg:=Int×Int
noncomputable def stD (p:fg):Dat:=.tup [.int p.1,.int p.2]
theorem tU:∀cs:List fg,md (cs.map stD)=.ok (cs.map fun p=>[p.1,p.2])
 |[]=>rfl
 |p::cs=>by simp [md,tupD,stD,bS,tU cs]
theorem zD (cs:List fg) (hl:cs.length<64):∃ss:List fg,nZ [.lst (cs.map stD)]=.ok (.lst (ss.map stD))/\ss.Perm cs/\ss.Pairwise (fun p q=>p.1<=q.1):=by
 cases hc:cs with
 |nil=>exact ⟨[],by simp [nZ,u4,bS,eQ],List.Perm.refl _,List.Pairwise.nil⟩
 |cons p ps=>
  rw [<- hc]
  have hi:∃e,bS (cs.map stD)=.error e:=⟨.stuck,by rw [hc];simp [bS,stD,asI]⟩
  obtain ⟨e,he⟩:=hi
  have hne:((cs.map fun p=>[p.1,p.2]).all fun t=> !t.isEmpty)=true:=by simp
  have es:nZ [.lst (cs.map stD)]=.ok (.lst ((eQ pO (cs.map fun p=>[p.1,p.2])).map tupZ)):=by
   simp only [nZ,u4,List.length_map,hl,if_true,he,tU,aA,hne]
  have hp:=cK (lt:=pO) (cs.map fun p=>[p.1,p.2])
  have hs:=eB A6 (cs.map fun p=>[p.1,p.2])
  generalize eQ pO (cs.map fun p=>[p.1,p.2])=L at *
  let back:List Int->fg:=fun l=>(l.getD 0 0,l.getD 1 0)
  have hL:∀l∈L,∃p:fg,l=[p.1,p.2]:=fun l h=>by
   have:=hp.mem_iff.mp h
   simp only [List.mem_map] at this
   obtain ⟨p,_,e⟩:=this
   exact ⟨p,e.symm⟩
  refine ⟨L.map back,?_,?_,?_⟩
  ·rw [es,List.map_map]
   congr 2
   refine List.map_congr_left fun l h=>?_
   obtain ⟨p,rfl⟩:=hL l h
   rfl
  ·have:=hp.map back
   rw [List.map_map] at this
   have e2:List.map (back∘fun p=>[p.1,p.2]) cs=cs:=by
    rw [List.map_congr_left (g:=id)]
    ·simp
    ·intro p _;rfl
   rwa [e2] at this
  ·rw [List.pairwise_map]
   refine hs.imp_of_mem fun {a b} ha hb h=>?_
   obtain ⟨p,rfl⟩:=hL a ha
   obtain ⟨q,rfl⟩:=hL b hb
   show p.1<=q.1
   simp only [pO] at h
   by_cases e1:q.1=p.1
   ·omega
   ·rw [if_neg e1] at h
    have:=of_decide_eq_false h
    omega
@[simp] theorem getI_c0 (a:Dat) (l:List Dat):oP (a::l) 0=.ok a:=by
 unfold oP atI ixN
 rw [if_pos (by omega),if_pos (by simp<;>omega)]
 rfl
@[simp] theorem getI_c1 (a b:Dat) (l:List Dat):oP (a::b::l) 1=.ok b:=by
 unfold oP atI ixN
 rw [if_pos (by omega),if_pos (by simp<;>omega)]
 rfl
@[simp] theorem getI_c2 (a b c:Dat) (l:List Dat):oP (a::b::c::l) 2=.ok c:=by
 unfold oP atI ixN
 rw [if_pos (by omega),if_pos (by simp<;>omega)]
 rfl
section
variable (CR CP CN:Addr)
noncomputable def nt (r:List Int):Dat:=.lst (r.map .int)
noncomputable def aV (rows:List (List Int)):Dat:=.lst (rows.map nt)
noncomputable def qm (k:Nat) (r:List Int):Prop:=r.length=k/\∀x∈r,0<=x/\x<=1000000
noncomputable def bz (k:Nat) (rows:List (List Int)):Prop:=rows.length=k/\∀r∈rows,qm k r
theorem yt {lo:Int} {m i:Nat} {d:Dat} (h:(br lo m)[i]? =some d):i<m/\d=.int (lo+i):=by
 unfold br at h
 rw [List.getElem?_map] at h
 obtain ⟨a,h1,h2⟩:=Option.map_eq_some_iff.mp h
 have hi:=(List.getElem?_eq_some_iff.mp h1).1
 rw [List.length_range] at hi
 rw [List.getElem?_range hi] at h1
 cases h1
 exact ⟨hi,h2.symm⟩
theorem fq {m i:Nat} {d:Dat} (h:(br 0 m)[i]? =some d):i<m/\d=.int i:=by
 obtain ⟨h1,h2⟩:=yt h
 exact ⟨h1,by rw [h2,Int.zero_add]⟩
theorem jq (lo:Int) (m:Nat):(br lo m).length=m:=by unfold br;simp
end
section
variable (CR CP CN:Addr)
theorem Ax (n:Nat) (x:Int) (h0:0<=x) (h1:x<=1000000):k9 CR CP CN n [.int x]=.ok (.bl true):=by simp [k9,sU,rP,h0,h1]
theorem sP (n:Nat) (k:Nat) (r:List Int) (hk:k<=6) (h:qm k r):cW CR CP CN n [nt r,.int k]=.ok (.bl true):=by
 have hl:r.length<=16777216:=by have:=h.1;omega
 have hk':k<=16777216:=by omega
 have e:bE (.nm 0) lX (fL (k9 CR CP CN n) (aa (ae 0) aZ)) [none] (r.map .int)=.ok ((r.map fun _=>true).map Dat.bl):=by
  have:=gy (p:=.nm 0) (fe:=fL (k9 CR CP CN n) (aa (ae 0) aZ)) (ρ0:=[none]) (fun _=>.bl true) (r.map .int) (fun d hd=>by
   obtain ⟨x,hx,rfl⟩:=List.mem_map.mp hd
   exact ⟨[some (.int x)],by simp,by simp [Ax CR CP CN n x (h.2 x hx).1 (h.2 x hx).2]⟩)
  rw [this,List.map_map,List.map_map]
  rfl
 simp [cW,lu,nt,e,hl,hk',h.1,-List.map_map]
theorem AW (n:Nat) (rows:List (List Int)) (hl:rows.length<=1000):eK CR CP CN n [aV rows]=.ok (aV rows):=by
 have hl2:rows.length<=16777216:=by omega
 have e:bE (.nm 0) lX (fL Am (aa (ae 0) aZ)) [none] (rows.map nt)=.ok (rows.map nt):=by
  have:=gy (p:=.nm 0) (fe:=fL Am (aa (ae 0) aZ)) (ρ0:=[none]) id (rows.map nt) (fun d hd=>by
   obtain ⟨x,hx,rfl⟩:=List.mem_map.mp hd
   exact ⟨[some (nt x)],by simp,by simp [nt]⟩)
  rw [this,List.map_id]
 simp [eK,kl,aV,e,hl2]
theorem rO (n:Nat) (k:Nat) (rows:List (List Int)) (h1:1<=k) (h6:k<=6) (h:bz k rows):aC CR CP CN n [aV rows]=.ok (aV rows):=by
 have hl2:rows.length<=16777216:=by have:=h.1;omega
 have e:bE (.nm 0) lX (fL (cW CR CP CN n) (aa (ae 0) (aa (ae 1) aZ))) [none,some (.int rows.length)] (rows.map nt)=.ok ((rows.map fun _=>true).map Dat.bl):=by
  have:=gy (p:=.nm 0) (fe:=fL (cW CR CP CN n) (aa (ae 0) (aa (ae 1) aZ))) (ρ0:=[none,some (.int rows.length)]) (fun _=>.bl true) (rows.map nt) (fun d hd=>by
   obtain ⟨x,hx,rfl⟩:=List.mem_map.mp hd
   exact ⟨[some (nt x),some (.int rows.length)],by simp,by simp [h.1,sP CR CP CN n k x h6 (h.2 x hx)]⟩)
  rw [this,List.map_map,List.map_map]
  rfl
 have a1:(1:Int)<=rows.length:=by have:=h.1;omega
 have a2:(rows.length:Int)<=6:=by have:=h.1;omega
 have e3:=AW CR CP CN n rows (by have:=h.1;omega)
 simp only [aV] at e3
 simp [aC,jf,kN,kM,aV,e,e3,hl2,a1,a2,-List.map_map]
noncomputable def aE (rows:List (List Int)):Dat->Dat
 |.non=>.ins CR [("gaps",aV rows)]
 |o=>.ins CP [("gaps",aV rows),("beside",o)]
theorem sT (rows:List (List Int)) (o:Dat) (ho:o=.non\/∃yr,o=aV yr):qQ [CR,CP] "gaps" (aE CR CP rows o)=.ok (aV rows):=by
 have h1:((("gaps":Str)==("gaps":Str))=true):=by decide +kernel
 rcases ho with rfl|⟨yr,rfl⟩
 ·show (if ([CR,CP].contains CR)=true then (match List.lookup ("gaps":Str) [(("gaps":Str),aV rows)] with|some d=>Except.ok d|none=>stk) else stk)=_
  rw [if_pos (by simp),List.lookup_cons,h1]
 ·show (if ([CR,CP].contains CP)=true then (match List.lookup ("gaps":Str) [(("gaps":Str),aV rows),(("beside":Str),aV yr)] with|some d=>Except.ok d|none=>stk) else stk)=_
  rw [if_pos (by simp),List.lookup_cons,h1]
end
structure Fli where
 kind:Int
 first:Int
 last:Int
 due:Int
 price:Int
noncomputable def flD (f:Fli):Dat:=.tup [.int f.kind,.int f.first,.int f.last,.int f.due,.int f.price]
structure mG (k:Nat) (f:Fli):Prop where
 k0:0<=f.kind
 k1:f.kind<k
 f0:0<=f.first
 f1:f.first<=f.last
 l1:f.last<=1000000000
 d0:0<=f.due
 d1:f.due<=1000000000
 p0:0<=f.price
 p1:f.price<=1000000000
@[simp] theorem flatTop_f (d:Dat):oA false d=mv d:=by cases d<;>rfl
@[simp] theorem flatD_int (i:Int):mv (.int i)=true:=by rw [mv]<;>simp
theorem Aj (a b:Int):mC a b<=a/\mC a b<=b/\(mC a b=a\/mC a b=b):=by unfold mC;split<;>omega
theorem yN {α:Type} {l:List α} {i:Nat} (h:i<l.length):(l[i]::l.eraseIdx i).Perm l:=by
 rw [List.eraseIdx_eq_take_drop_succ]
 have e:l.take i++l[i]::l.drop (i+1)=l:=by rw [List.getElem_cons_drop,List.take_append_drop]
 have:=(List.perm_middle (a:=l[i]) (l₁:=l.take i) (l₂:=l.drop (i+1))).symm
 rw [e] at this
 exact this
noncomputable def fJ (fl:List Fli) (i:Int):Fli:=match fl[i.toNat]? with
 |some f=>f
 |none=>⟨0,0,0,0,0⟩
theorem wj {fl:List Fli} {i:Int} (h0:0<=i) (h1:i<fl.length):oP (fl.map flD) i=.ok (flD (fJ fl i))/\fJ fl i∈fl:=by
 have hj:i.toNat<fl.length:=by omega
 have e:fJ fl i=fl[i.toNat]:=by unfold fJ;rw [List.getElem?_eq_getElem hj]
 refine ⟨?_,by rw [e];exact List.getElem_mem hj⟩
 have:=iV (ds:=fl.map flD) (k:=i.toNat) (by simpa using hj)
 rw [show ((i.toNat:Nat):Int)=i by omega] at this
 rw [this,e]
 simp
noncomputable def Cov (cs:List fg) (t:Int):Prop:=∃p∈cs,p.1<=t/\t<p.2
noncomputable def oR (cs:List fg) (t u:Int):Prop:=t<=u/\¬Cov cs u/\∀v,t<=v->v<u->Cov cs v
noncomputable def Bo (cs:List fg) (t u:Int):Prop:=u<=t/\¬Cov cs u/\∀v,u<v->v<=t->Cov cs v
theorem oR.uniq {cs:List fg} {t u v:Int} (h:oR cs t u) (k:oR cs t v):u=v:=by
 rcases Int.lt_trichotomy u v with e|e|e
 ·exact absurd (k.2.2 u h.1 e) h.2.1
 ·exact e
 ·exact absurd (h.2.2 v k.1 e) k.2.1
theorem Bo.uniq {cs:List fg} {t u v:Int} (h:Bo cs t u) (k:Bo cs t v):u=v:=by
 rcases Int.lt_trichotomy u v with e|e|e
 ·exact absurd (h.2.2 v e k.1) k.2.1
 ·exact e
 ·exact absurd (k.2.2 u e h.1) h.2.1
theorem AV (t:Int):¬Cov [] t:=fun ⟨_,h,_⟩=>by simp at h
theorem xS {p:fg} {cs:List fg} {t:Int}:Cov (p::cs) t↔(p.1<=t/\t<p.2)\/Cov cs t:=by
 constructor
 ·rintro ⟨q,h,h2⟩
  rcases List.mem_cons.mp h with e|e
  ·subst e;exact .inl h2
  ·exact .inr ⟨q,e,h2⟩
 ·rintro (h|⟨q,h,h2⟩)
  ·exact ⟨p,by simp,h⟩
  ·exact ⟨q,by simp [h],h2⟩
theorem jM {as bs:List fg} {t:Int}:Cov (as++bs) t↔Cov as t\/Cov bs t:=by
 constructor
 ·rintro ⟨q,h,h2⟩
  rcases List.mem_append.mp h with e|e
  ·exact .inl ⟨q,e,h2⟩
  ·exact .inr ⟨q,e,h2⟩
 ·rintro (⟨q,h,h2⟩|⟨q,h,h2⟩)
  ·exact ⟨q,by simp [h],h2⟩
  ·exact ⟨q,by simp [h],h2⟩
theorem cov_perm {as bs:List fg} (h:as.Perm bs) {t:Int}:Cov as t↔Cov bs t:=⟨fun ⟨p,m,q⟩=>⟨p,h.mem_iff.mp m,q⟩,fun ⟨p,m,q⟩=>⟨p,h.mem_iff.mpr m,q⟩⟩
theorem wA {p:fg} {t:Int}:Cov [p] t↔p.1<=t/\t<p.2:=by rw [xS];simp [AV]
theorem lB:∀(ds:List Dat) (k i:Nat) (d:Dat),(iG k ds)[i]? =some d->∃e,ds[i]? =some e/\d=.tup [.int ((k+i:Nat):Int),e]
 |[],k,i,d,h=>by simp [iG] at h
 |a::ds,k,0,d,h=>by simp [iG] at h;exact ⟨a,by simp,by simp [<- h]⟩
 |a::ds,k,i+1,d,h=>by
  simp [iG] at h
  obtain ⟨e,h1,h2⟩:=lB ds (k+1) i d h
  exact ⟨e,by simpa using h1,by rw [h2,show k+1+i=k+(i+1) by omega]⟩
theorem iF:∀(ds:List Dat) (k:Nat),(iG k ds).length=ds.length
 |[],k=>rfl
 |a::ds,k=>by simp [iG,iF ds (k+1)]
noncomputable def tAt (ts:List Int) (i:Nat):Int:=ts.getD i 0
noncomputable def qAt (qs:List fg) (i:Nat):fg:=qs.getD i (0,0)
noncomputable def rwAt (rows:List (List Int)) (i:Int):List Int:=rows.getD i.toNat []
noncomputable def at2 (rows:List (List Int)) (i j:Int):Int:=(rwAt rows i).getD j.toNat 0
noncomputable def apS (rows r2:List (List Int)) (a b:fg):Int:=if a.2=b.2 then at2 rows a.1 b.1 else at2 r2 a.1 b.1
noncomputable def qo (fl:List Fli) (p:fg):fg:=((fJ fl p.1).kind,p.2)
structure Wo where
 k:Nat
 rows:List (List Int)
 r2:List (List Int)
 o:Dat
 fl:List Fli
 cs:List fg
 qs:List fg
structure Wo.Good (w:Wo):Prop where
 k1:1<=w.k
 k6:w.k<=6
 rows:bz w.k w.rows
 o:(w.o=.non/\∀p∈w.qs,p.2=0)\/(w.o=aV w.r2/\bz w.k w.r2)
 fl:∀f∈w.fl,mG w.k f
 fll:w.fl.length<=60
 cs:∀p∈w.cs,p.1<p.2
 csl:w.cs.length<=20
 qs:∀p∈w.qs,0<=p.1/\p.1<w.fl.length
 qsl:w.qs.length=w.fl.length
noncomputable def Wo.f (w:Wo) (i:Nat):Fli:=fJ w.fl (qAt w.qs i).1
noncomputable def Wo.ap (w:Wo) (j i:Nat):Int:=apS w.rows w.r2 (qo w.fl (qAt w.qs j)) (qo w.fl (qAt w.qs i))
noncomputable def Wo.KeepAt (w:Wo) (ts:List Int) (i:Nat):Prop:=((w.f i).first<=tAt ts i/\tAt ts i<=(w.f i).last/\¬Cov w.cs (tAt ts i))/\∀j,j<i->tAt ts j+w.ap j i<=tAt ts i
noncomputable def Wo.Keeps (w:Wo) (ts:List Int):Prop:=∀i,i<w.qs.length->w.KeepAt ts i
theorem o5 {qs:List fg} {i:Nat} (h:i<qs.length):qAt qs i∈qs:=by
 have:qAt qs i=qs[i]:=by simp [qAt,h]
 rw [this]
 exact List.getElem_mem h
theorem getT {ts:List Int} {i:Nat} (h:i<ts.length):oP (ts.map .int) (i:Int)=.ok (.int (tAt ts i)):=by
 rw [iV (by simpa using h)]
 simp [tAt,h]
theorem getR {k:Nat} {rows:List (List Int)} (g:bz k rows) {i:Int} (h0:0<=i) (h1:i<k):oP (rows.map nt) i=.ok (nt (rwAt rows i))/\qm k (rwAt rows i):=by
 have hl:=g.1
 have hj:i.toNat<rows.length:=by omega
 have e:rwAt rows i=rows[i.toNat]:=by simp [rwAt,hj]
 refine ⟨?_,by rw [e];exact g.2 _ (List.getElem_mem hj)⟩
 have:=iV (ds:=rows.map nt) (k:=i.toNat) (by simpa using hj)
 rw [show ((i.toNat:Nat):Int)=i by omega] at this
 rw [this,e]
 simp
theorem getA {k:Nat} {rows:List (List Int)} (g:bz k rows) {i j:Int} (h0:0<=i) (h1:i<k) (h2:0<=j) (h3:j<k):oP ((rwAt rows i).map .int) j=.ok (.int (at2 rows i j))/\0<=at2 rows i j:=by
 have gr:=(getR g h0 h1).2
 have hl:=gr.1
 have hj:j.toNat<(rwAt rows i).length:=by omega
 have e:at2 rows i j=(rwAt rows i)[j.toNat]:=by simp [at2,hj]
 refine ⟨?_,by rw [e];exact (gr.2 _ (List.getElem_mem hj)).1⟩
 rw [getI_int h2 (by omega),e]
theorem Wo.Good.fAt {w:Wo} (hw:w.Good) {i:Nat} (h:i<w.qs.length):oP (w.fl.map flD) (qAt w.qs i).1=.ok (flD (w.f i))/\mG w.k (w.f i):=by
 obtain ⟨h0,h1⟩:=hw.qs _ (o5 h)
 obtain ⟨e,m⟩:=wj h0 h1
 exact ⟨e,hw.fl _ m⟩
theorem lookA1 (d:Dat):List.lookup ("apart":Str) [(("gaps":Str),d)]=none:=by
 rw [List.lookup_cons,show ((("apart":Str)==("gaps":Str))=false) from by decide +kernel]
 rfl
theorem lookA2 (d e:Dat):List.lookup ("apart":Str) [(("gaps":Str),d),(("beside":Str),e)]=none:=by
 rw [List.lookup_cons,show ((("apart":Str)==("gaps":Str))=false) from by decide +kernel]
 show List.lookup ("apart":Str) [(("beside":Str),e)]=none
 rw [List.lookup_cons,show ((("apart":Str)==("beside":Str))=false) from by decide +kernel]
 rfl
section
variable (CR CP CN:Addr)
theorem vc (rows r2:List (List Int)):qQ [CP] "beside" (aE CR CP rows (aV r2))=.ok (aV r2):=by
 have h1:((("beside":Str)==("gaps":Str))=false):=by decide +kernel
 have h2:((("beside":Str)==("beside":Str))=true):=by decide +kernel
 show (if ([CP].contains CP)=true then (match List.lookup ("beside":Str) [(("gaps":Str),aV rows),(("beside":Str),aV r2)] with|some d=>Except.ok d|none=>stk) else stk)=_
 rw [if_pos (by simp),List.lookup_cons,h1]
 show (match List.lookup ("beside":Str) [(("beside":Str),aV r2)] with|some d=>Except.ok d|none=>stk)=_
 rw [List.lookup_cons,h2]
theorem meth_ok (n:Nat) (hne:CR≠CP) {w:Wo} (hw:w.Good) {j i:Nat} (hj:j<w.qs.length) (hi:i<w.qs.length) (fo f1 f2:af->M Dat) (ρ:af) (h0:fo ρ=.ok (aE CR CP w.rows w.o)) (h1:f1 ρ=.ok (stD (qo w.fl (qAt w.qs j)))) (h2:f2 ρ=.ok (stD (qo w.fl (qAt w.qs i)))) :
  eD CR CP "apart" (ba CR CP CN n) (aX CR CP CN n) fo (aa f1 (aa f2 aZ)) ρ=.ok (.int (w.ap j i)):=by
 obtain ⟨ej,gj⟩:=hw.fAt hj
 obtain ⟨ei,gi⟩:=hw.fAt hi
 obtain ⟨r1,_⟩:=getR hw.rows gj.k0 gj.k1
 obtain ⟨r2,_⟩:=getA hw.rows gj.k0 gj.k1 gi.k0 gi.k1
 unfold Wo.f at *
 unfold eD
 rw [h0,aA]
 rcases hw.o with ⟨ho,h⟩|⟨ho,h⟩
 ·have hs:(qAt w.qs j).2=(qAt w.qs i).2:=(h _ (o5 hj)).trans (h _ (o5 hi)).symm
  have hc:isC CR "apart" (aE CR CP w.rows w.o)=true:=by
   rw [ho]
   show ((CR==CR)&&(List.lookup ("apart":Str) [(("gaps":Str),aV w.rows)]).isNone)=true
   rw [lookA1];simp
  have hg:=sT CR CP w.rows w.o (.inl ho)
  rw [if_pos hc]
  simp [h1,h2,ba,gR,hg,stD,qo,aV,r1,nt,r2,Wo.ap,apS,hs]
 ·have hc:isC CR "apart" (aE CR CP w.rows w.o)=false:=by
   rw [ho]
   show ((CP==CR)&&(List.lookup ("apart":Str) [(("gaps":Str),aV w.rows),(("beside":Str),aV w.r2)]).isNone)=false
   have:(CP==CR)=false:=by simp;exact fun z=>hne z.symm
   rw [this];rfl
  have hc2:isC CP "apart" (aE CR CP w.rows w.o)=true:=by
   rw [ho]
   show ((CP==CP)&&(List.lookup ("apart":Str) [(("gaps":Str),aV w.rows),(("beside":Str),aV w.r2)]).isNone)=true
   rw [lookA2];simp
  have hg:=sT CR CP w.rows w.o (.inr ⟨_,ho⟩)
  have hb:qQ [CP] "beside" (aE CR CP w.rows w.o)=.ok (aV w.r2):=by rw [ho];exact vc CR CP w.rows w.r2
  obtain ⟨r3,_⟩:=getR h gj.k0 gj.k1
  obtain ⟨r4,_⟩:=getA h gj.k0 gj.k1 gi.k0 gi.k1
  rw [if_neg (by rw [hc];simp),if_pos hc2]
  by_cases hs:(qAt w.qs j).2=(qAt w.qs i).2
  ·simp [h1,h2,aX,eC,hg,hb,stD,qo,aV,r1,nt,r2,Wo.ap,apS,hs]
  ·simp [h1,h2,aX,eC,hg,hb,stD,qo,aV,r3,nt,r4,Wo.ap,apS,hs]
theorem spots_ok (n:Nat) {w:Wo} (hw:w.Good):jC CR CP CN n [.lst (w.fl.map flD),.lst (w.qs.map stD)]=.ok (.lst ((w.qs.map (qo w.fl)).map stD)):=by
 have hl:w.qs.length<=16777216:=by have:=hw.qsl;have:=hw.fll;omega
 have e:∀qs:List fg,(∀p∈qs,0<=p.1/\p.1<w.fl.length)->bE (.tp [0,1]) lX (fL k8 (aa (f2 ixD (f2 ixD (ae 2) (ae 0)) (fC (.int 0))) (aa (ae 1) aZ))) [none,none,some (.lst (w.fl.map flD))] (qs.map stD)=.ok ((qs.map (qo w.fl)).map stD):=by
  intro qs
  induction qs with
  |nil=>intro _;rfl
  |cons p qs ih=>
   intro h
   obtain ⟨h0,h1⟩:=h p (by simp)
   obtain ⟨e,_⟩:=wj h0 h1
   have ih:=ih fun q hq=>h q (by simp [hq])
   rw [List.map_cons,bE]
   simp [e,flD,ih,qo,stD,-List.map_map]
 simp [jC,ot,hl,e w.qs hw.qs,-List.map_map]
theorem getS {w:Wo} {i:Nat} (h:i<w.qs.length):oP ((w.qs.map (qo w.fl)).map stD) (i:Int)=.ok (stD (qo w.fl (qAt w.qs i))):=by
 rw [iV (by simpa using h)]
 simp [qAt,h]
noncomputable def Wo.gapL (w:Wo) (ts:List Int) (i:Nat):List Int:=(List.range i).map fun j=>tAt ts j+w.ap j i
theorem gap_ok (n:Nat) (hne:CR≠CP) {w:Wo} (hw:w.Good) (ts:List Int) {i:Nat} (hi:i<w.qs.length) (ht:i<=ts.length):ip CR CP CN n [aE CR CP w.rows w.o,.lst ((w.qs.map (qo w.fl)).map stD),.lst (ts.map .int),.int i]=.ok (.lst ((w.gapL ts i).map .int)):=by
 have hq:=hw.qsl
 have hf:=hw.fll
 have k1: -4611686018427387904<=(i:Int):=by omega
 have k2:(i:Int)<4611686018427387904:=by omega
 have hl:(br 0 i).length<=16777216:=by rw [jq];omega
 have e:bE (.nm 0) lX (f2 jO (f2 ixD (ae 3) (ae 0)) (eD CR CP "apart" (ba CR CP CN n) (aX CR CP CN n) (ae 1) (aa (f2 ixD (ae 2) (ae 0)) (aa (f2 ixD (ae 2) (ae 4)) aZ)))) [none,some (aE CR CP w.rows w.o),some (.lst ((w.qs.map (qo w.fl)).map stD)),some (.lst (ts.map .int)),some (.int i)] (br 0 i)=.ok ((w.gapL ts i).map .int):=by
  have:=gy (p:=.nm 0) (fe:=f2 jO (f2 ixD (ae 3) (ae 0)) (eD CR CP "apart" (ba CR CP CN n) (aX CR CP CN n) (ae 1) (aa (f2 ixD (ae 2) (ae 0)) (aa (f2 ixD (ae 2) (ae 4)) aZ)))) (ρ0:=[none,some (aE CR CP w.rows w.o),some (.lst ((w.qs.map (qo w.fl)).map stD)),some (.lst (ts.map .int)),some (.int i)]) (fun d=>match d with|.int j=>.int (tAt ts j.toNat+w.ap j.toNat i)|d=>d) (br 0 i) (fun d hd=>by
   obtain ⟨j,hj⟩:=List.getElem?_of_mem hd
   obtain ⟨hj,rfl⟩:=fq hj
   refine ⟨[some (.int j),some (aE CR CP w.rows w.o),some (.lst ((w.qs.map (qo w.fl)).map stD)),some (.lst (ts.map .int)),some (.int i)],by simp,?_⟩
   have em:=meth_ok CR CP CN n hne hw (j:=j) (i:=i) (by omega) hi (ae 1) (f2 ixD (ae 2) (ae 0)) (f2 ixD (ae 2) (ae 4)) [some (.int j),some (aE CR CP w.rows w.o),some (.lst ((w.qs.map (qo w.fl)).map stD)),some (.lst (ts.map .int)),some (.int i)] (by simp) (by simp [getS (w:=w) (i:=j) (by omega),-List.map_map]) (by simp [getS (w:=w) hi,-List.map_map])
   have et:=getT (ts:=ts) (i:=j) (by omega)
   rw [e_2,em]
   simp [et])
  rw [this,Wo.gapL]
  congr 1
  unfold br
  rw [List.map_map,List.map_map]
  exact List.map_congr_left fun j _=>by simp
 simp [ip,n0,k1,k2,e,hl,-List.map_map]
end
noncomputable def Wo.low (w:Wo) (ts:List Int) (i j:Nat):Int:=(List.range j).foldl (fun t l=>kK t (tAt ts l+w.ap l i)) (w.f i).first
theorem w9 (a b:Int):a<=kK a b/\b<=kK a b/\(kK a b=a\/kK a b=b):=by unfold kK;split<;>omega
theorem Wo.oZ (w:Wo) (ts:List Int) (i j:Nat):w.low ts i (j+1)=kK (w.low ts i j) (tAt ts j+w.ap j i):=by
 unfold Wo.low
 rw [List.range_succ,List.foldl_append]
 rfl
theorem Wo.uC (w:Wo) (ts:List Int) (i:Nat):∀j,(w.f i).first<=w.low ts i j
 |0=>Int.le_refl _
 |j+1=>by
  have:=w.uC ts i j
  have:=w9 (w.low ts i j) (tAt ts j+w.ap j i)
  rw [w.oZ]
  omega
theorem Wo.Ak (w:Wo) (ts:List Int) (i:Nat):∀j l,l<j->tAt ts l+w.ap l i<=w.low ts i j
 |0,l,h=>by omega
 |j+1,l,h=>by
  have:=w9 (w.low ts i j) (tAt ts j+w.ap j i)
  rw [w.oZ]
  by_cases e:l=j
  ·subst e;omega
  ·have:=w.Ak ts i j l (by omega)
   omega
theorem Wo.nA (w:Wo) {ts us:List Int} (i:Nat):∀j,(∀l,l<j->tAt ts l=tAt us l)->w.low ts i j=w.low us i j
 |0,_=>rfl
 |j+1,h=>by rw [w.oZ,w.oZ,w.nA i j fun l hl=>h l (by omega),h j (by omega)]
noncomputable def Wo.jj (w:Wo) (ts:List Int) (i:Nat):Prop:=oR w.cs (w.low ts i i) (tAt ts i)/\tAt ts i<=(w.f i).last
noncomputable def Wo.Bn (w:Wo) (ts:List Int):Prop:=ts.length=w.qs.length/\∀i,i<w.qs.length->w.jj ts i
theorem vE {ts us:List Int} {i:Nat} (h:i<ts.length):tAt (ts++us) i=tAt ts i:=by
 unfold tAt
 rw [List.getD_eq_getElem?_getD,List.getD_eq_getElem?_getD,List.getElem?_append_left h]
theorem tAt_new (ts us:List Int) (t:Int):tAt (ts++t::us) ts.length=t:=by
 unfold tAt
 rw [List.getD_eq_getElem?_getD,List.getElem?_append_right (Nat.le_refl _)]
 simp
theorem Wo.jj.app {w:Wo} {ts us:List Int} {i:Nat} (h:w.jj ts i) (hi:i<ts.length):w.jj (ts++us) i:=by
 unfold Wo.jj at *
 rw [vE hi,w.nA (us:=ts) i i fun l hl=>vE (by omega)]
 exact h
theorem Wo.jj.keep {w:Wo} {ts:List Int} {i:Nat} (h:w.jj ts i):w.KeepAt ts i:=by
 obtain ⟨⟨h1,h2,h3⟩,h4⟩:=h
 refine ⟨⟨Int.le_trans (w.uC ts i i) h1,h4,h2⟩,fun j hj=>Int.le_trans (w.Ak ts i i j hj) h1⟩
theorem Wo.Bn.keeps {w:Wo} {ts:List Int} (h:w.Bn ts):w.Keeps ts:=fun i hi=>(h.2 i hi).keep
noncomputable def rW (js:List fg):Prop:=js.Pairwise (fun p q=>p.2<q.1)/\∀p∈js,p.1<p.2
theorem xB (n:Nat):ixN (n+1) (-1)=some n:=by unfold ixN;simp<;>omega
@[simp] theorem getI_last (ds:List Dat) (d:Dat):oP (ds++[d]) (-1)=.ok d:=by
 unfold oP atI
 rw [List.length_append,List.length_singleton,xB]
 simp
noncomputable def kE (js done:List fg):Prop:=rW js/\(∀t,Cov js t↔Cov done t)/\js.length<=done.length/\∀j∈js,∃d∈done,d.1=j.1
theorem kE.new {js done:List fg} {p:fg} (h:kE js done) (hp:p.1<p.2) (hlt:∀x∈js,x.2<p.1):kE (js++[p]) (done++[p]):=by
 obtain ⟨⟨h1,h2⟩,h3,h4,h5⟩:=h
 refine ⟨⟨?_,?_⟩,?_,by simp;exact h4,?_⟩
 ·rw [List.pairwise_append]
  exact ⟨h1,by simp,fun a ha b hb=>by simp at hb;subst hb;exact hlt a ha⟩
 ·intro x hx
  rcases List.mem_append.mp hx with e|e
  ·exact h2 x e
  ·simp at e;subst e;exact hp
 ·intro t;rw [jM,jM,h3]
 ·intro j hj
  rcases List.mem_append.mp hj with e|e
  ·obtain ⟨d,m,z⟩:=h5 j e;exact ⟨d,by simp [m],z⟩
  ·simp at e;subst e;exact ⟨j,by simp,rfl⟩
theorem kE.more {js0 done:List fg} {q p:fg} (h:kE (js0++[q]) done) (hp:p.1<p.2) (h1:q.1<=p.1) (h2:p.1<=q.2):kE (js0++[(q.1,kK p.2 q.2)]) (done++[p]):=by
 obtain ⟨⟨a1,a2⟩,a3,a4,a5⟩:=h
 have hq:q.1<q.2:=a2 q (by simp)
 have hm1:p.2<=kK p.2 q.2:=by unfold kK;split<;>omega
 have hm2:q.2<=kK p.2 q.2:=by unfold kK;split<;>omega
 have hm3:kK p.2 q.2=p.2\/kK p.2 q.2=q.2:=by unfold kK;split<;>omega
 rw [List.pairwise_append] at a1
 refine ⟨⟨?_,?_⟩,?_,by simp at a4 ⊢;omega,?_⟩
 ·rw [List.pairwise_append]
  exact ⟨a1.1,by simp,fun a ha b hb=>by simp at hb;subst hb;exact a1.2.2 a ha q (by simp)⟩
 ·intro x hx
  rcases List.mem_append.mp hx with e|e
  ·exact a2 x (by simp [e])
  ·simp at e;subst e;show q.1<kK p.2 q.2;omega
 ·intro t
  have:=a3 t
  rw [jM,wA] at this
  rw [jM,jM,<- this,wA,wA]
  show Cov js0 t\/q.1<=t/\t<kK p.2 q.2↔_
  constructor
  ·rintro (z|z)
   ·exact .inl (.inl z)
   ·by_cases e:t<q.2
    ·exact .inl (.inr ⟨z.1,e⟩)
    ·exact .inr (by omega)
  ·rintro ((z|z)|z)
   ·exact .inl z
   ·exact .inr (by omega)
   ·exact .inr (by omega)
 ·intro j hj
  rcases List.mem_append.mp hj with e|e
  ·obtain ⟨d,m,z⟩:=a5 j (by simp [e]);exact ⟨d,by simp [m],z⟩
  ·simp at e;subst e
   obtain ⟨d,m,z⟩:=a5 q (by simp)
   exact ⟨d,by simp [m],z⟩
theorem uK {g:af->M Flo} {c:Option Dat} {t:Int} (r:fg->Dat) (hg:∀p:fg,g [c,some (.int t),some (.int p.1),some (.int p.2)]=if p.1<=t/\t<p.2 then .ok (.rt (r p)) else .ok (.nx [c,some (.int t),some (.int p.1),some (.int p.2)])) :
  ∀(js:List fg) (z1 z2:Option Dat),(∃p∈js,(p.1<=t/\t<p.2)/\jF (.tp [2,3]) g (js.map stD) [c,some (.int t),z1,z2]=.ok (.rt (r p)))\/(¬Cov js t/\∃z1' z2',jF (.tp [2,3]) g (js.map stD) [c,some (.int t),z1,z2]=.ok (.nx [c,some (.int t),z1',z2']))
 |[],z1,z2=>.inr ⟨AV t,z1,z2,rfl⟩
 |p::js,z1,z2=>by
  have hb:ji (.tp [2,3]) (stD p) [c,some (.int t),z1,z2]=.ok [c,some (.int t),some (.int p.1),some (.int p.2)]:=by simp [stD]
  by_cases h:p.1<=t/\t<p.2
  ·refine .inl ⟨p,by simp,h,?_⟩
   rw [List.map_cons,jF,hb,aA,hg,if_pos h]
   rfl
  ·have e:jF (.tp [2,3]) g ((p::js).map stD) [c,some (.int t),z1,z2]=jF (.tp [2,3]) g (js.map stD) [c,some (.int t),some (.int p.1),some (.int p.2)]:=by
    rw [List.map_cons,jF,hb,aA,hg,if_neg h]
    rfl
   rcases uK r hg js (some (.int p.1)) (some (.int p.2)) with ⟨q,hq,h2,h3⟩|⟨h2,h3⟩
   ·exact .inl ⟨q,by simp [hq],h2,by rw [e];exact h3⟩
   ·refine .inr ⟨fun z=>?_,by rw [e];exact h3⟩
    rcases xS.mp z with z|z
    ·exact h z
    ·exact h2 z
theorem rW.tri:∀{js:List fg},rW js->∀p∈js,∀q∈js,p=q\/p.2<q.1\/q.2<p.1
 |[],_,p,hp,_,_=>by simp at hp
 |a::js,⟨h1,h2⟩,p,hp,q,hq=>by
  rw [List.pairwise_cons] at h1
  rcases List.mem_cons.mp hp with e|e<;>rcases List.mem_cons.mp hq with e2|e2
  ·exact .inl (e.trans e2.symm)
  ·subst e;exact .inr (.inl (h1.1 q e2))
  ·subst e2;exact .inr (.inr (h1.1 p e))
  ·exact rW.tri (js:=js) ⟨h1.2,fun x hx=>h2 x (by simp [hx])⟩ p e q e2
section
variable (CR CP CN:Addr)
theorem Ap (n:Nat) (cs:List fg) (hl:cs.length<64) (hs:∀p∈cs,p.1<p.2):∃js:List fg,bR CR CP CN n [.lst (cs.map stD)]=.ok (.lst (js.map stD))/\rW js/\(∀t,Cov js t↔Cov cs t)/\js.length<=cs.length:=by
 obtain ⟨ss,e,hp,hw⟩:=zD cs hl
 have hlen:ss.length=cs.length:=hp.length_eq
 have key:=fU (p:=.tp [2,3]) (g:=bG CR CP CN n)
  (fun k ρ=>∃js z1 z2,ρ=[some (.lst (cs.map stD)),some (.lst (js.map stD)),z1,z2]/\kE js (ss.take k)) (ss.map stD) 0 [some (.lst (cs.map stD)),some (.lst []),none,none] ⟨[],none,none,rfl,⟨by simp [rW],fun t=>Iff.rfl,by simp,by simp⟩⟩ (by
  rintro i d ρ hd ⟨js,z1,z2,rfl,hj⟩
  rw [List.getElem?_map] at hd
  obtain ⟨p,hpi,rfl⟩:=Option.map_eq_some_iff.mp hd
  obtain ⟨hi,hpe⟩:=List.getElem?_eq_some_iff.mp hpi
  have htk:ss.take (0+i+1)=ss.take (0+i)++[p]:=by rw [Nat.zero_add,List.take_succ,hpi];rfl
  have hpp:p.1<p.2:=hs p (hp.mem_iff.mp (List.mem_of_getElem? hpi))
  have hstart:∀j∈js,j.1<=p.1:=fun j hjm=>by
   obtain ⟨d,dm,de⟩:=hj.2.2.2 j hjm
   rw [Nat.zero_add] at dm
   obtain ⟨m,hm,hme⟩:=List.mem_take_iff_getElem.mp dm
   have:=List.pairwise_iff_getElem.mp hw m i (by omega) hi (by omega)
   rw [hme,hpe] at this
   omega
  have hjl:js.length<64:=by
   have:=hj.2.2.1
   rw [List.length_take] at this
   omega
  refine ⟨_,by simp [stD];rfl,?_⟩
  rw [htk]
  rcases List.eq_nil_or_concat js with e0|⟨js0,q,e0⟩
  ·subst e0
   refine ⟨_,.inl (by simp [bG,cb];rfl),[p],some (.int p.1),some (.int p.2),by simp [stD],by simpa using hj.new hpp (by simp)⟩
  ·rw [List.concat_eq_append] at e0
   subst e0
   by_cases hc:p.1<=q.2
   ·refine ⟨_,.inl (by simp [bG,cb,stD,hc,mv,rB,xB];rfl),js0++[(q.1,kK p.2 q.2)],some (.int p.1),some (.int p.2),?_,hj.more hpp (hstart q (by simp)) hc⟩
    simp [stD]
   ·have hlt:∀x∈js0++[q],x.2<p.1:=fun x hx=>by
     rcases List.mem_append.mp hx with e|e
     ·have h1:=(List.pairwise_append.mp hj.1.1).2.2 x e q (by simp)
      have h2:=hj.1.2 q (by simp)
      omega
     ·simp at e;subst e;omega
    simp at hjl
    have hjl2:js0.length+1<16777216:=by omega
    refine ⟨_,.inl (by simp [bG,cb,stD,hc,hjl2];rfl),js0++[q]++[p],some (.int p.1),some (.int p.2),by simp [stD],hj.new hpp hlt⟩)
 obtain ⟨ρ',e2,js,z1,z2,rfl,hj⟩:=key
 refine ⟨js,?_,hj.1,fun t=>?_,?_⟩
 ·simp [bR,eT,e,e2]
 ·rw [hj.2.1 t,Nat.zero_add,List.length_map,List.take_length]
  exact cov_perm hp
 ·have:=hj.2.2.1
  rw [List.length_take,List.length_map] at this
  omega
theorem Ah (n:Nat) (cs:List fg) (t:Int) (hl:cs.length<64) (hs:∀p∈cs,p.1<p.2):∃u,fy CR CP CN n [.lst (cs.map stD),.int t]=.ok (.int u)/\oR cs t u:=by
 obtain ⟨js,e,hj,hc,_⟩:=Ap CR CP CN n cs hl hs
 rcases uK (g:=kx CR CP CN n) (c:=some (.lst (cs.map stD))) (t:=t) (fun p=>.int p.2) (fun p=>by by_cases h1:p.1<=t<;>by_cases h2:t<p.2<;>simp [kx,nK,h1,h2]) js none none with ⟨p,hp,h,e2⟩|⟨h,z1,z2,e2⟩
 ·refine ⟨p.2,by simp [fy,kj,e,e2],by omega,fun z=>?_,fun v h1 h2=>(hc v).mp ⟨p,hp,by omega,h2⟩⟩
  obtain ⟨q,hq,h3⟩:=(hc _).mpr z
  rcases hj.tri p hp q hq with e|e|e
  ·subst e;omega
  ·omega
  ·have:=hj.2 p hp;omega
 ·exact ⟨t,by simp [fy,kj,e,e2],Int.le_refl _,fun z=>h ((hc t).mpr z),fun v h1 h2=>by omega⟩
end
theorem Wo.low_gapL (w:Wo) (ts:List Int) (i:Nat):(w.gapL ts i).foldl kK (w.f i).first=w.low ts i i:=by
 unfold Wo.gapL Wo.low
 rw [List.foldl_map]
theorem tAt_take {ts:List Int} {m i:Nat} (h:i<m):tAt (ts.take m) i=tAt ts i:=by
 unfold tAt
 rw [List.getD_eq_getElem?_getD,List.getD_eq_getElem?_getD,List.getElem?_take_of_lt h]
theorem zw {ts:List Int} {i:Nat} (h:i<ts.length):ts.take (i+1)=ts.take i++[tAt ts i]:=by
 rw [List.take_add_one,List.getElem?_eq_getElem h]
 simp [tAt,h]
theorem xG {p:Pat} {g:af->M Flo} (x:Err) (P:Nat->af->Prop):∀(ds:List Dat) (k m:Nat) (ρ:af),P k ρ->m<ds.length ->
  (∀(i:Nat) (d:Dat) (ρ:af),i<m->ds[i]? =some d->P (k+i) ρ->∃ρ1,ji p d ρ=.ok ρ1/\∃ρ2,g ρ1=.ok (.nx ρ2)/\P (k+i+1) ρ2) ->
  (∀(d:Dat) (ρ:af),ds[m]? =some d->P (k+m) ρ->∃ρ1,ji p d ρ=.ok ρ1/\g ρ1=.error x)->jF p g ds ρ=.error x
 |[],_,_,_,_,h,_,_=>by simp at h
 |d::ds,k,0,ρ,h,_,_,er=>by
  obtain ⟨ρ1,e1,e2⟩:=er d ρ rfl h
  rw [jF,e1,aA,e2]
  rfl
 |d::ds,k,m+1,ρ,h,hm,st,er=>by
  obtain ⟨ρ1,e1,ρ2,e2,h2⟩:=st 0 d ρ (by omega) rfl h
  have ih:=xG (p:=p) (g:=g) x P ds (k+1) m ρ2 h2 (by simpa using hm) (fun i d' ρ hi he hp=>by
   have:=st (i+1) d' ρ (by omega) (by simpa using he) (by rw [show k+(i+1)=k+1+i by omega];exact hp)
   rw [show k+(i+1)+1=k+1+i+1 by omega] at this
   exact this) (fun d' ρ he hp=>er d' ρ (by simpa using he) (by rw [show k+(m+1)=k+1+m by omega];exact hp))
  rw [jF,e1,aA,e2]
  exact ih
section
variable (CR CP CN:Addr)
theorem qX (n:Nat) (hne:CR≠CP) {w:Wo} (hw:w.Good) (tk:List Int) {i:Nat} (hi:i<w.qs.length) (htk:tk.length=i) {u:Int} (hu:oR w.cs (w.low tk i i) u) (z8 z9:Option Dat) :
  gz CR CP CN n [some (aE CR CP w.rows w.o),some (.lst (w.fl.map flD)),some (.lst (w.cs.map stD)),some (.lst (w.qs.map stD)),some (.lst ((w.qs.map (qo w.fl)).map stD)),some (.lst (tk.map .int)),some (.int i),some (.tup [.int (qAt w.qs i).1,.int (qAt w.qs i).2]),z8,z9] =
   if (w.f i).last<u then .error (.exc CN [("flight",.int (qAt w.qs i).1),("time",.int u)]) else .ok (.nx [some (aE CR CP w.rows w.o),some (.lst (w.fl.map flD)),some (.lst (w.cs.map stD)),some (.lst (w.qs.map stD)),some (.lst ((w.qs.map (qo w.fl)).map stD)),some (.lst ((tk++[u]).map .int)),some (.int i),some (.tup [.int (qAt w.qs i).1,.int (qAt w.qs i).2]),some (flD (w.f i)),some (.int u)]):=by
 have hq:=hw.qsl
 have hf:=hw.fll
 have hc:=hw.csl
 obtain ⟨ef,gf⟩:=hw.fAt hi
 have eg:=gap_ok CR CP CN n hne hw tk hi (by omega)
 have hgl:(w.gapL tk i).length=i:=by simp [Wo.gapL]
 have eM:maxD [.lst (.int (w.f i).first::(w.gapL tk i).map .int)]=.ok (.int (w.low tk i i)):=by
  show (bS (((w.f i).first::w.gapL tk i).map .int)).bind maxL=_
  rw [g9,aA,maxL,w.low_gapL]
 obtain ⟨u',eu,hu'⟩:=Ah CR CP CN n w.cs (w.low tk i i) (by omega) hw.cs
 have hut:=hu'.uniq hu
 subst hut
 have c1:1+i<=16777216:=by omega
 have c2:i<16777216:=by omega
 by_cases hlt:(w.f i).last<u'
 ·rw [if_pos hlt]
  simp only [flD] at ef ⊢
  simp [gz,lG,ef,eg,hgl,jO,c1,eM,eu,hlt,htk,c2,-AJ,-List.map_map]
 ·rw [if_neg hlt]
  simp only [flD] at ef ⊢
  simp [gz,lG,ef,eg,hgl,jO,c1,eM,eu,hlt,htk,c2,-AJ,-List.map_map]
theorem AG {qs:List fg} {i:Nat} {d:Dat} (hd:(iG 0 (qs.map stD))[i]? =some d):i<qs.length/\d=.tup [.int i,.tup [.int (qAt qs i).1,.int (qAt qs i).2]]:=by
 obtain ⟨e,h1,rfl⟩:=lB _ _ _ _ hd
 have hi:i<qs.length:=by simpa using (List.getElem?_eq_some_iff.mp h1).1
 refine ⟨hi,?_⟩
 rw [List.getElem?_map,List.getElem?_eq_getElem hi] at h1
 simp at h1
 rw [<- h1];simp [qAt,hi,stD]
theorem zv (n:Nat) (hne:CR≠CP) {w:Wo} (hw:w.Good) {ts:List Int} {i:Nat} {t:Int} (hi:i<w.qs.length) (ht:ts.length=i) (hle:∀j,j<i->w.jj ts j) (hn:oR w.cs (w.low ts i i) t) (hlt:(w.f i).last<t) :
  jB CR CP CN n [aE CR CP w.rows w.o,.lst (w.fl.map flD),.lst (w.cs.map stD),.lst (w.qs.map stD)]=.error (.exc CN [("flight",.int (qAt w.qs i).1),("time",.int t)]):=by
 have hq:=hw.qsl
 have hf:=hw.fll
 have es:=spots_ok CR CP CN n hw
 have e:=xG (p:=.tp [6,7]) (g:=gz CR CP CN n) (.exc CN [("flight",.int (qAt w.qs i).1),("time",.int t)])
  (fun i ρ=>∃(z6 z7 z8 z9:Option Dat),ρ=[some (aE CR CP w.rows w.o),some (.lst (w.fl.map flD)),some (.lst (w.cs.map stD)),some (.lst (w.qs.map stD)),some (.lst ((w.qs.map (qo w.fl)).map stD)),some (.lst ((ts.take i).map .int)),z6,z7,z8,z9]) (iG 0 (w.qs.map stD)) 0 i [some (aE CR CP w.rows w.o),some (.lst (w.fl.map flD)),some (.lst (w.cs.map stD)),some (.lst (w.qs.map stD)),some (.lst ((w.qs.map (qo w.fl)).map stD)),some (.lst []),none,none,none,none] ⟨none,none,none,none,rfl⟩ (by rw [iF,List.length_map];exact hi) (by
  rintro j d ρ hj hd ⟨z6,z7,z8,z9,rfl⟩
  obtain ⟨hjq,rfl⟩:=AG hd
  obtain ⟨hn,hlast⟩:=hle j hj
  have e:=qX CR CP CN n hne hw (ts.take j) hjq (by rw [List.length_take];omega) (u:=tAt ts j) (by rw [w.nA (us:=ts) j j fun l hl=>tAt_take hl];exact hn) z8 z9
  rw [if_neg (by omega)] at e
  rw [Nat.zero_add,zw (by omega)]
  exact ⟨_,by simp<;>rfl,_,e,_,_,_,_,rfl⟩) (by
  rintro d ρ hd ⟨z6,z7,z8,z9,rfl⟩
  obtain ⟨_,rfl⟩:=AG hd
  have e:=qX CR CP CN n hne hw ts hi ht hn z8 z9
  rw [if_pos hlt] at e
  rw [Nat.zero_add,<- ht,List.take_length]
  rw [ht]
  exact ⟨_,by simp<;>rfl,e⟩)
 simp [jB,oq,es,e,-List.map_map]
end
theorem A9 (n:Nat):∀ts:List Int,jQ (ts.map .int) (n+1)=true
 |[]=>by simp [jQ]
 |p::cs=>by simp [jQ,okE,A9 n cs]
theorem lookM1 (d:Dat):List.lookup ("many_strips":Str) [(("gaps":Str),d)]=none:=by
 rw [List.lookup_cons,show ((("many_strips":Str)==("gaps":Str))=false) from by decide +kernel]
 rfl
theorem lookM2 (d e:Dat):List.lookup ("many_strips":Str) [(("gaps":Str),d),(("beside":Str),e)]=none:=by
 rw [List.lookup_cons,show ((("many_strips":Str)==("gaps":Str))=false) from by decide +kernel]
 show List.lookup ("many_strips":Str) [(("beside":Str),e)]=none
 rw [List.lookup_cons,show ((("many_strips":Str)==("beside":Str))=false) from by decide +kernel]
 rfl
noncomputable def NS (o:Dat) (s:Int):Prop:=(o=.non/\s=1)\/(∃yr,o=aV yr)/\s=2
section
variable (CR CP CN:Addr)
theorem tZ (n:Nat) (hne:CR≠CP) {rows:List (List Int)} {o:Dat} {s:Int} (h:NS o s) (fo:af->M Dat) (ρ:af) (h0:fo ρ=.ok (aE CR CP rows o)):eD CR CP "many_strips" (aO CR CP CN n) (aU CR CP CN n) fo aZ ρ=.ok (.int s):=by
 unfold eD
 rw [h0,aA]
 rcases h with ⟨ho,hs⟩|⟨⟨r2,ho⟩,hs⟩
 ·have hc:isC CR "many_strips" (aE CR CP rows o)=true:=by
   rw [ho]
   show ((CR==CR)&&(List.lookup ("many_strips":Str) [(("gaps":Str),aV rows)]).isNone)=true
   rw [lookM1];simp
  rw [if_pos hc]
  simp [aO,e6,hs]
 ·have hc:isC CR "many_strips" (aE CR CP rows o)=false:=by
   rw [ho]
   show ((CP==CR)&&(List.lookup ("many_strips":Str) [(("gaps":Str),aV rows),(("beside":Str),aV r2)]).isNone)=false
   have:(CP==CR)=false:=by simp;exact fun z=>hne z.symm
   rw [this];rfl
  have hc2:isC CP "many_strips" (aE CR CP rows o)=true:=by
   rw [ho]
   show ((CP==CP)&&(List.lookup ("many_strips":Str) [(("gaps":Str),aV rows),(("beside":Str),aV r2)]).isNone)=true
   rw [lookM2];simp
  rw [if_neg (by rw [hc];simp),if_pos hc2]
  simp [aU,eU,hs]
end
theorem Aa (n:Nat):∀ts:List Int,jQ (ts.map .int) (n+1)=true
 |[]=>by simp [jQ]
 |t::ts=>by simp [jQ,okE,Aa n ts]
theorem take63 {ns:List Int} (h:ns.length<=63):mB (.lst (ns.map .int)) none (some 63)=.ok (.lst (ns.map .int)):=by
 show Except.ok (Dat.lst (vn (ns.map Dat.int) none (some 63)))=_
 congr 2
 unfold vn cX
 rw [List.drop_zero,List.take_of_length_le]
 simp
 omega
section
variable (CR CP CN:Addr)
theorem wB (n:Nat) (ns:List Int) (j:Nat):∃x,bu CR CP CN n [.lst (ns.map .int),.int j]=.ok (.int x)/\0<=x:=by
 by_cases h:j<ns.length
 ·refine ⟨ns[j]%1000000000000000000000000,?_,Int.emod_nonneg _ (by decide)⟩
  have e:=iV (ds:=ns.map Dat.int) (k:=j) (by simpa using h)
  simp [bu,fS,gH,h,e]
 ·exact ⟨0,by simp [bu,fS,gH,h],by omega⟩
theorem xx (y:Int):0<=(y*1442695040888963407+4321)%2305843009213693921:=Int.emod_nonneg _ (by decide)
theorem l8 (n:Nat) (ns:List Int) (hns:ns.length<=63) (k:Int) (h0:0<=k) (h1:k<1000000):∃x,aJ CR CP CN n [.lst (ns.map .int),.int k]=.ok (.int x)/\0<=x:=by
 have hk3: -18446744073709551616<k:=by omega
 have hk4:k<18446744073709551616:=by omega
 have et:=take63 hns
 by_cases hl:0<ns.length
 ·have hm0:0<=k%(ns.length:Int):=Int.emod_nonneg _ (by omega)
  have hm1:k%(ns.length:Int)<(ns.length:Int):=Int.emod_lt_of_pos _ (by omega)
  have hl':(0:Int)<ns.length:=by omega
  have hne:ns≠[]:=fun e=>by rw [e] at hl;simp at hl
  refine ⟨_,?_,xx ((ns[(k%(ns.length:Int)).toNat]'(by omega)%1000000000000000000000000+k*k*7919+ns.length)*48271%2305843009213693951)⟩
  simp [aJ,gQ,iI,et,hl,hne,getI_int hm0 hm1,oB hl',hk3,hk4]
 ·have hne:ns=[]:=by cases ns with|nil=>rfl|cons a b=>simp at hl
  subst hne
  refine ⟨_,?_,xx ((11*k+3+k*k*7919+0)*48271%2305843009213693951)⟩
  simp only [List.map_nil] at et
  simp [aJ,gQ,iI,et,hk3,hk4]
theorem gap_row (n:Nat) (ns:List Int) (hns:ns.length<=63) (b:Int) (k:Nat) (one:Nat) (rows:List Dat) (z6 z7 z8:Option Dat) (hb0:0<=b) (hb1:b<=100) (hk:k<=6) (ho:one<k) :
  ∃(r:List Int) (z6' z7' z8':Option Dat),qm k r/\jF (.nm 6) (cC CR CP CN n) (br 0 k) [some (.lst (ns.map .int)),some (.int b),some (.int k),some (.lst rows),some (.int one),some (.lst []),z6,z7,z8]=.ok (.nx [some (.lst (ns.map .int)),some (.int b),some (.int k),some (.lst rows),some (.int one),some (nt r),z6',z7',z8']):=by
 obtain ⟨ρ',e,r,z6',z7',z8',rfl,h1,h2⟩:=fU (p:=.nm 6) (g:=cC CR CP CN n)
  (fun i ρ=>∃(r:List Int) (z6 z7 z8:Option Dat),ρ=[some (.lst (ns.map .int)),some (.int b),some (.int k),some (.lst rows),some (.int one),some (nt r),z6,z7,z8]/\r.length=i/\∀x∈r,0<=x/\x<=1000000) (br 0 k) 0 _ ⟨[],z6,z7,z8,rfl,rfl,by simp⟩ (by
  rintro i d ρ hd ⟨r,z6,z7,z8,rfl,hr1,hr2⟩
  obtain ⟨hi,rfl⟩:=fq hd
  have hm:(one:Int)*k<=36:=by
   have:one*k<=6*6:=Nat.mul_le_mul (by omega) hk
   exact_mod_cast this
  have hm0:0<=(one:Int)*k:=Int.mul_nonneg (by omega) (by omega)
  obtain ⟨x,e,hx⟩:=l8 CR CP CN n ns hns (b+(one:Int)*k+(i:Int)) (by omega) (by omega)
  have ho1: -18446744073709551616<(one:Int):=by omega
  have ho2:(one:Int)<18446744073709551616:=by omega
  have hl:r.length<16777216:=by omega
  obtain ⟨g,hg0,hg1,eg⟩:∃g:Int,0<=g/\g<=1000000/\cC CR CP CN n [some (.lst (ns.map .int)),some (.int b),some (.int k),some (.lst rows),some (.int one),some (nt r),some (.int (i:Int)),z7,z8]=.ok (.nx [some (.lst (ns.map .int)),some (.int b),some (.int k),some (.lst rows),some (.int one),some (nt (r++[g])),some (.int (i:Int)),some (.int x),some (.int g)]):=by
   by_cases c1:x%16<3
   ·refine ⟨0,by omega,by omega,?_⟩
    have c2:¬x%16=15:=by omega
    simp [cC,gX,gW,e,ho1,ho2,c1,c2,hl,nt]
   ·by_cases c2:x%16=15
    ·refine ⟨x/16%1000001,by omega,by omega,?_⟩
     simp [cC,gX,gW,e,ho1,ho2,c2,hl,nt]
    ·refine ⟨x/16%7,by omega,by omega,?_⟩
     simp [cC,gX,gW,e,ho1,ho2,c1,c2,hl,nt]
  refine ⟨_,rfl,_,.inl eg,r++[g],_,_,_,rfl,by simp;omega,fun y hy=>?_⟩
  rcases List.mem_append.mp hy with z|z
  ·exact hr2 y z
  ·simp at z
   subst z
   exact ⟨hg0,hg1⟩)
 rw [Nat.zero_add,jq] at h1
 exact ⟨r,z6',z7',z8',⟨h1,h2⟩,e⟩
theorem AD (n:Nat) (ns:List Int) (hns:ns.length<=63) (b:Int) (k:Nat) (hb0:0<=b) (hb1:b<=100) (hk:k<=6):∃rows,bz k rows/\fF CR CP CN n [.lst (ns.map .int),.int b,.int k]=.ok (aV rows):=by
 have k1: -4611686018427387904<=(k:Int):=by omega
 have k2:(k:Int)<4611686018427387904:=by omega
 obtain ⟨ρ',e,rows,y4,y5,y6,y7,y8,rfl,h1,h2⟩:=fU (p:=.nm 4) (g:=ky CR CP CN n)
  (fun i ρ=>∃(rows:List (List Int)) (z4 z5 z6 z7 z8:Option Dat),ρ=[some (.lst (ns.map .int)),some (.int b),some (.int k),some (aV rows),z4,z5,z6,z7,z8]/\rows.length=i/\∀r∈rows,qm k r) (br 0 k) 0 [some (.lst (ns.map .int)),some (.int b),some (.int k),some (.lst []),none,none,none,none,none] ⟨[],none,none,none,none,none,rfl,rfl,by simp⟩ (by
  rintro i d ρ hd ⟨rows,z4,z5,z6,z7,z8,rfl,hr1,hr2⟩
  obtain ⟨hi,rfl⟩:=fq hd
  obtain ⟨r,z6',z7',z8',hg,e⟩:=gap_row CR CP CN n ns hns b k i (rows.map nt) z6 z7 z8 hb0 hb1 hk hi
  have hl:rows.length<16777216:=by omega
  refine ⟨_,by simp;rfl,?_⟩
  refine ⟨_,.inl (by simp [ky,aV,k1,k2,e,hl];rfl),rows++[r],some (.int i),some (nt r),z6',z7',z8',by simp [aV],by simp;omega,fun y hy=>?_⟩
  rcases List.mem_append.mp hy with z|z
  ·exact hr2 y z
  ·simp at z;subst z;exact hg)
 rw [Nat.zero_add,jq] at h1
 exact ⟨rows,⟨h1,h2⟩,by simp [fF,n5,k1,k2,e]⟩
theorem yJ (n:Nat) (ns:List Int) (hns:ns.length<=63) (k:Nat) (st:Int) (many i:Nat) (fl:List Fli) (z6 z7 z8 z9 z10:Option Dat) (hk1:1<=k) (hs0:0<=st) (hs1:st<=1000) (hm:many<=40) (hi:i<many) (hfl:fl.length<=40) :
  ∃(f:Fli) (y6 y7 y8 y9 y10:Option Dat),mG k f/\f.first<=29/\bF CR CP CN n [some (.lst (ns.map .int)),some (.int st),some (.int k),some (.int many),some (.lst (fl.map flD)),some (.int i),z6,z7,z8,z9,z10]=.ok (.nx [some (.lst (ns.map .int)),some (.int st),some (.int k),some (.int many),some (.lst ((fl++[f]).map flD)),some (.int i),y6,y7,y8,y9,y10]):=by
 obtain ⟨x,e,hx⟩:=l8 CR CP CN n ns hns (st+(i:Int)) (by omega) (by omega)
 have hk2:(0:Int)<k:=by omega
 have kk0:0<=x/16777216%(k:Int):=Int.emod_nonneg _ (by omega)
 have kk1:x/16777216%(k:Int)<k:=Int.emod_lt_of_pos _ hk2
 have hfl2:fl.length<16777216:=by omega
 by_cases c1:x%8=1
 ·refine ⟨⟨x/16777216%(k:Int),x/8%30,1000000000,x/32768%50,x/2097152%7⟩,some (.int x),some (.int (x/8%30)),some (.int (1000000000)),some (.int (x/32768%50)),some (.int (x/2097152%7)),⟨kk0,kk1,by show 0<=x/8%30;omega,by show x/8%30<=1000000000;omega,by show (1000000000:Int)<=1000000000;omega,by show 0<=x/32768%50;omega,by show x/32768%50<=1000000000;omega,by show 0<=x/2097152%7;omega,by show x/2097152%7<=1000000000;omega⟩,by show x/8%30<=29;omega,?_⟩
  have c2:¬x%8=2:=by omega
  have c3:¬x%8=3:=by omega
  simp [bF,cI,cH,cG,e,c1,oB hk2,hfl2,flD]
 ·by_cases c2:x%8=2
  ·refine ⟨⟨x/16777216%(k:Int),x/8%30,x/8%30+x/512%4,x/32768%50,x/2097152%7⟩,some (.int x),some (.int (x/8%30)),some (.int (x/8%30+x/512%4)),some (.int (x/32768%50)),some (.int (x/2097152%7)),⟨kk0,kk1,by show 0<=x/8%30;omega,by show x/8%30<=x/8%30+x/512%4;omega,by show x/8%30+x/512%4<=1000000000;omega,by show 0<=x/32768%50;omega,by show x/32768%50<=1000000000;omega,by show 0<=x/2097152%7;omega,by show x/2097152%7<=1000000000;omega⟩,by show x/8%30<=29;omega,?_⟩
   simp [bF,cI,cH,cG,e,c2,oB hk2,hfl2,flD]
  ·by_cases c3:x%8=3
   ·refine ⟨⟨x/16777216%(k:Int),x/8%30,x/8%30+x/512%40,x/32768%50,x%1000000001⟩,some (.int x),some (.int (x/8%30)),some (.int (x/8%30+x/512%40)),some (.int (x/32768%50)),some (.int (x%1000000001)),⟨kk0,kk1,by show 0<=x/8%30;omega,by show x/8%30<=x/8%30+x/512%40;omega,by show x/8%30+x/512%40<=1000000000;omega,by show 0<=x/32768%50;omega,by show x/32768%50<=1000000000;omega,by show 0<=x%1000000001;omega,by show x%1000000001<=1000000000;omega⟩,by show x/8%30<=29;omega,?_⟩
    simp [bF,cI,cH,cG,e,c3,oB hk2,hfl2,flD]
   ·refine ⟨⟨x/16777216%(k:Int),x/8%30,x/8%30+x/512%40,x/32768%50,x/2097152%7⟩,some (.int x),some (.int (x/8%30)),some (.int (x/8%30+x/512%40)),some (.int (x/32768%50)),some (.int (x/2097152%7)),⟨kk0,kk1,by show 0<=x/8%30;omega,by show x/8%30<=x/8%30+x/512%40;omega,by show x/8%30+x/512%40<=1000000000;omega,by show 0<=x/32768%50;omega,by show x/32768%50<=1000000000;omega,by show 0<=x/2097152%7;omega,by show x/2097152%7<=1000000000;omega⟩,by show x/8%30<=29;omega,?_⟩
    simp [bF,cI,cH,cG,e,c1,c2,c3,oB hk2,hfl2,flD]
theorem yI (n:Nat) (ns:List Int) (hns:ns.length<=63) (k:Nat) (st:Int) (many:Nat) (hk1:1<=k) (hs0:0<=st) (hs1:st<=1000) (hm:many<=40) :
  ∃fl:List Fli,fl.length=many/\(∀f∈fl,mG k f/\f.first<=29)/\dG CR CP CN n [.lst (ns.map .int),.int st,.int k,.int many]=.ok (.lst (fl.map flD)):=by
 have k1: -4611686018427387904<=(many:Int):=by omega
 have k2:(many:Int)<4611686018427387904:=by omega
 obtain ⟨ρ',e,fl,y5,y6,y7,y8,y9,y10,rfl,h1,h2⟩:=fU (p:=.nm 5) (g:=bF CR CP CN n)
  (fun i ρ=>∃(fl:List Fli) (z5 z6 z7 z8 z9 z10:Option Dat),ρ=[some (.lst (ns.map .int)),some (.int st),some (.int k),some (.int many),some (.lst (fl.map flD)),z5,z6,z7,z8,z9,z10]/\fl.length=i/\∀f∈fl,mG k f/\f.first<=29) (br 0 many) 0 [some (.lst (ns.map .int)),some (.int st),some (.int k),some (.int many),some (.lst []),none,none,none,none,none,none] ⟨[],none,none,none,none,none,none,rfl,rfl,by simp⟩ (by
  rintro i d ρ hd ⟨fl,z5,z6,z7,z8,z9,z10,rfl,hr1,hr2⟩
  obtain ⟨hi,rfl⟩:=fq hd
  obtain ⟨f,y6,y7,y8,y9,y10,hg,h29,e⟩:=yJ CR CP CN n ns hns k st many i fl z6 z7 z8 z9 z10 hk1 hs0 hs1 hm hi (by omega)
  refine ⟨_,by simp<;>rfl,_,.inl e,fl++[f],some (.int i),y6,y7,y8,y9,y10,rfl,by simp;omega,fun y hy=>?_⟩
  rcases List.mem_append.mp hy with z|z
  ·exact hr2 y z
  ·simp at z;subst z;exact ⟨hg,h29⟩)
 rw [Nat.zero_add,jq] at h1
 exact ⟨fl,by omega,h2,by simp [dG,jh,k1,k2,e]⟩
end
theorem addK_mem {ks:List Int} {k x:Int}:x∈vo ks k↔x∈ks\/x=k:=by
 unfold vo
 split
 ·next h=>exact ⟨.inl,fun z=>z.elim id fun e=>e▸h⟩
 ·simp
theorem xH:∀(is ks:List Int) (x:Int),x∈is.foldl vo ks↔x∈ks\/x∈is
 |[],ks,x=>by simp
 |i::is,ks,x=>by rw [List.foldl_cons,xH is (vo ks i) x,addK_mem];simp [or_assoc]
noncomputable def there (ks:List Int):List Int:=eQ ltZ (keysOf ks)
theorem jl (ks:List Int) (x:Int):x∈there ks↔x∈ks:=by
 unfold there keysOf
 rw [(cK (lt:=ltZ) _).mem_iff,xH]
 simp
theorem tX (ks:List Int):(there ks).length<=ks.length:=by
 unfold there keysOf
 rw [(cK (lt:=ltZ) _).length_eq]
 have:=p9 ks []
 simpa using this
noncomputable def many1 (ks:List Int) (x y:Int):Bool:= !decide (x=y)||decide (1<ks.countP (·==x))
noncomputable def prs (ks:List Int):List fg:=(there ks).flatMap fun x=>((there ks).filter (many1 ks x)).map fun y=>(x,y)
theorem zV {ks:List Int} {p:fg}:p∈prs ks↔p.1∈ks/\p.2∈ks/\many1 ks p.1 p.2=true:=by
 unfold prs
 rw [List.mem_flatMap]
 constructor
 ·rintro ⟨x,hx,h⟩
  obtain ⟨y,hy,rfl⟩:=List.mem_map.mp h
  obtain ⟨h1,h2⟩:=List.mem_filter.mp hy
  exact ⟨(jl _ _).mp hx,(jl _ _).mp h1,h2⟩
 ·rintro ⟨h1,h2,h3⟩
  exact ⟨p.1,(jl _ _).mpr h1,List.mem_map.mpr ⟨p.2,List.mem_filter.mpr ⟨(jl _ _).mpr h2,h3⟩,rfl⟩⟩
noncomputable def vals (rows:List (List Int)) (o:Option (List (List Int))) (p:fg):List Int:=match o with
 |none=>[at2 rows p.1 p.2]
 |some r2=>[at2 rows p.1 p.2,at2 r2 p.1 p.2]
noncomputable def oD:Option (List (List Int))->Dat
 |none=>.non
 |some r2=>aV r2
noncomputable def nS:Option (List (List Int))->Int
 |none=>1
 |some _=>2
theorem sM:∀{xs:List Int} {x:Int},(xs.foldl mC x=x\/xs.foldl mC x∈xs)/\xs.foldl mC x<=x/\∀y∈xs,xs.foldl mC x<=y
 |[],x=>⟨.inl rfl,Int.le_refl _,fun _ h=>nomatch h⟩
 |a::xs,x=>by
  obtain ⟨h1,h2,h3⟩:=sM (xs:=xs) (x:=mC x a)
  obtain ⟨m1,m2,m3⟩:=Aj x a
  rw [List.foldl_cons]
  refine ⟨?_,by omega,fun y hy=>?_⟩
  ·rcases h1 with h|h
   ·rcases m3 with z|z
    ·exact .inl (by rw [h,z])
    ·exact .inr (by rw [h,z];simp)
   ·exact .inr (by simp [h])
  ·rcases List.mem_cons.mp hy with z|z
   ·subst z;omega
   ·exact h3 y z
section
variable (CR CP CN:Addr)
theorem sA (n:Nat) (ks:List Int) (a1:Option Dat) (x:Int):∀(ys:List Int) (acc:List fg) (z4:Option Dat),acc.length+ys.length<=100000->∃y4,
  jF (.nm 4) (eE CR CP CN n) (ys.map .int) [some (.lst (ks.map .int)),a1,some (.lst (acc.map stD)),some (.int x),z4]=.ok (.nx [some (.lst (ks.map .int)),a1,some (.lst ((acc++(ys.filter (many1 ks x)).map fun y=>(x,y)).map stD)),some (.int x),y4])
 |[],acc,z4,_=>⟨z4,by simp [jF]⟩
 |y::ys,acc,z4,h=>by
  have hl:acc.length<16777216:=by simp at h;omega
  have eb:eE CR CP CN n [some (.lst (ks.map .int)),a1,some (.lst (acc.map stD)),some (.int x),some (.int y)]=.ok (.nx [some (.lst (ks.map .int)),a1,some (.lst ((if many1 ks x y=true then acc++[(x,y)] else acc).map stD)),some (.int x),some (.int y)]):=by
   unfold many1
   by_cases h1:x=y
   ·subst h1
    by_cases h2:1<ks.countP (·==x)
    ·have h3:(1:Int)<(ks.countP (·==x):Nat):=by omega
     simp [eE,iZ,isL,h2,hl,stD]
     omega
    ·simp [eE,iZ,isL,h2,hl,stD]
     omega
   ·simp [eE,iZ,h1,hl,stD]
  rw [List.map_cons,jF,show ji (.nm 4) (.int y) [some (.lst (ks.map .int)),a1,some (.lst (acc.map stD)),some (.int x),z4]=.ok [some (.lst (ks.map .int)),a1,some (.lst (acc.map stD)),some (.int x),some (.int y)] from rfl,aA,eb,aA]
  cases hm:many1 ks x y with
  |true=>
   rw [if_pos rfl,List.filter_cons_of_pos hm,List.map_cons]
   obtain ⟨y4,e⟩:=sA n ks a1 x ys (acc++[(x,y)]) (some (.int y)) (by simp at h ⊢;omega)
   rw [List.append_assoc] at e
   exact ⟨y4,e⟩
  |false=>
   rw [if_neg (by simp),List.filter_cons_of_neg (by simp [hm])]
   exact sA n ks a1 x ys acc (some (.int y)) (by simp at h ⊢;omega)
theorem uj (n:Nat) (ks th:List Int) (hth:th.length<=64):∀(xs:List Int) (acc:List fg) (z3 z4:Option Dat),acc.length+xs.length*64<=10000->∃y3 y4,
  jF (.nm 3) (gA CR CP CN n) (xs.map .int) [some (.lst (ks.map .int)),some (.lst (th.map .int)),some (.lst (acc.map stD)),z3,z4]=.ok (.nx [some (.lst (ks.map .int)),some (.lst (th.map .int)),some (.lst ((acc++xs.flatMap fun x=>(th.filter (many1 ks x)).map fun y=>(x,y)).map stD)),y3,y4])
 |[],acc,z3,z4,_=>⟨z3,z4,by simp [jF]⟩
 |x::xs,acc,z3,z4,h=>by
  simp only [List.length_cons] at h
  obtain ⟨y4,e⟩:=sA CR CP CN n ks (some (.lst (th.map .int))) x th acc z4 (by omega)
  have hf:(th.filter (many1 ks x)).length<=64:=Nat.le_trans (List.length_filter_le _ _) hth
  obtain ⟨y3,y5,e2⟩:=uj n ks th hth xs (acc++(th.filter (many1 ks x)).map fun y=>(x,y)) (some (.int x)) y4 (by simp;omega)
  have eb:gA CR CP CN n [some (.lst (ks.map .int)),some (.lst (th.map .int)),some (.lst (acc.map stD)),some (.int x),z4]=.ok (.nx [some (.lst (ks.map .int)),some (.lst (th.map .int)),some (.lst ((acc++(th.filter (many1 ks x)).map fun y=>(x,y)).map stD)),some (.int x),y4]):=by
   simp [gA,e]
  refine ⟨y3,y5,?_⟩
  rw [List.map_cons,jF,show ji (.nm 3) (.int x) [some (.lst (ks.map .int)),some (.lst (th.map .int)),some (.lst (acc.map stD)),z3,z4]=.ok [some (.lst (ks.map .int)),some (.lst (th.map .int)),some (.lst (acc.map stD)),some (.int x),z4] from rfl,aA,eb,aA,List.flatMap_cons]
  rw [List.append_assoc] at e2
  exact e2
theorem pairs_ok (n:Nat) (ks:List Int) (h:ks.length<64):jD CR CP CN n [.lst (ks.map .int)]=.ok (.lst ((prs ks).map stD)):=by
 have ht:=tX ks
 have es:jR (.lst (ks.map .int))=.ok (.lst ((there ks).map .int)):=by
  show (bS (ks.map .int)).bind (fun is=>if (ks.map Dat.int).length<64 then Except.ok (Dat.lst ((eQ ltZ (keysOf is)).map Dat.int)) else stk)=_
  rw [g9,aA,if_pos (by simpa using h)]
  rfl
 obtain ⟨y3,y4,e⟩:=uj CR CP CN n ks (there ks) (by omega) (there ks) [] none none (by simp;omega)
 simp only [List.map_nil,List.nil_append] at e
 have e:jF (.nm 3) (gA CR CP CN n) ((there ks).map .int) [some (.lst (ks.map .int)),some (.lst ((there ks).map .int)),some (.lst []),none,none]=.ok (.nx [some (.lst (ks.map .int)),some (.lst ((there ks).map .int)),some (.lst ((prs ks).map stD)),y3,y4]):=e
 simp [jD,ou,es,e]
theorem apart_ok (n:Nat) (hne:CR≠CP) {k:Nat} {rows:List (List Int)} {o:Option (List (List Int))} (hr:bz k rows) (ho:∀r2,o=some r2->bz k r2) {a b:Int} (ha:0<=a/\a<k) (hb:0<=b/\b<k) (s:Int) (hs:s=0\/(s=1/\∃r2,o=some r2)) (fo f1 f2:af->M Dat) (ρ:af) (h0:fo ρ=.ok (aE CR CP rows (oD o))) (h1:f1 ρ=.ok (.tup [.int a,.int 0])) (h2:f2 ρ=.ok (.tup [.int b,.int s])) :
  eD CR CP "apart" (ba CR CP CN n) (aX CR CP CN n) fo (aa f1 (aa f2 aZ)) ρ=.ok (.int (if s=0 then at2 rows a b else at2 (o.getD []) a b)):=by
 obtain ⟨r1,_⟩:=getR hr ha.1 ha.2
 obtain ⟨q1,_⟩:=getA hr ha.1 ha.2 hb.1 hb.2
 unfold eD
 rw [h0,aA]
 cases o with
 |none=>
  have hs0:s=0:=by
   rcases hs with z|⟨_,r2,z⟩
   ·exact z
   ·cases z
  subst hs0
  have hc:isC CR "apart" (aE CR CP rows (oD none))=true:=by
   show ((CR==CR)&&(List.lookup ("apart":Str) [(("gaps":Str),aV rows)]).isNone)=true
   rw [lookA1];simp
  have hg:=sT CR CP rows (oD none) (.inl rfl)
  rw [if_pos hc]
  simp [h1,h2,ba,gR,hg,aV,r1,nt,q1]
 |some r2=>
  have g2:=ho r2 rfl
  obtain ⟨r3,_⟩:=getR g2 ha.1 ha.2
  obtain ⟨q3,_⟩:=getA g2 ha.1 ha.2 hb.1 hb.2
  have hc:isC CR "apart" (aE CR CP rows (oD (some r2)))=false:=by
   show ((CP==CR)&&(List.lookup ("apart":Str) [(("gaps":Str),aV rows),(("beside":Str),aV r2)]).isNone)=false
   have:(CP==CR)=false:=by simp;exact fun z=>hne z.symm
   rw [this];rfl
  have hc2:isC CP "apart" (aE CR CP rows (oD (some r2)))=true:=by
   show ((CP==CP)&&(List.lookup ("apart":Str) [(("gaps":Str),aV rows),(("beside":Str),aV r2)]).isNone)=true
   rw [lookA2];simp
  have hg:=sT CR CP rows (oD (some r2)) (.inr ⟨_,rfl⟩)
  have hb':qQ [CP] "beside" (aE CR CP rows (oD (some r2)))=.ok (aV r2):=vc CR CP rows r2
  rw [if_neg (by rw [hc];simp),if_pos hc2]
  rcases hs with z|⟨z,_⟩
  ·subst z
   simp [h1,h2,aX,eC,hg,hb',aV,r1,nt,q1]
  ·subst z
   simp [h1,h2,aX,eC,hg,hb',aV,r3,nt,q3]
theorem rT (n:Nat) (hne:CR≠CP) {k:Nat} {rows:List (List Int)} {o:Option (List (List Int))} (hr:bz k rows) (ho:∀r2,o=some r2->bz k r2) (a1:Option Dat):∀(ps:List fg) (acc:List Int) (z3 z4 z5:Option Dat),(∀p∈ps,(0<=p.1/\p.1<k)/\0<=p.2/\p.2<k)->acc.length+2*ps.length<=100000->∃y3 y4 y5,
  jF (.tp [3,4]) (da CR CP CN n) (ps.map stD) [some (aE CR CP rows (oD o)),a1,some (.lst (acc.map .int)),z3,z4,z5]=.ok (.nx [some (aE CR CP rows (oD o)),a1,some (.lst ((acc++ps.flatMap (vals rows o)).map .int)),y3,y4,y5])
 |[],acc,z3,z4,z5,_,_=>⟨z3,z4,z5,by simp [jF]⟩
 |p::ps,acc,z3,z4,z5,h,hl=>by
  simp only [List.length_cons] at hl
  obtain ⟨ha,hb⟩:=h p (by simp)
  have hns:NS (oD o) (nS o):=by
   cases o with
   |none=>exact .inl ⟨rfl,rfl⟩
   |some r2=>exact .inr ⟨⟨r2,rfl⟩,rfl⟩
  have turn:∀(s:Int) (acc:List Int) (hl:acc.length<16777216) (hs:s=0\/(s=1/\∃r2,o=some r2)),iK CR CP CN n [some (aE CR CP rows (oD o)),a1,some (.lst (acc.map .int)),some (.int p.1),some (.int p.2),some (.int s)]=.ok (.nx [some (aE CR CP rows (oD o)),a1,some (.lst ((acc++[if s=0 then at2 rows p.1 p.2 else at2 (o.getD []) p.1 p.2]).map .int)),some (.int p.1),some (.int p.2),some (.int s)]):=by
   intro s acc hl hs
   have e:=apart_ok CR CP CN n hne hr ho ha hb s hs (ae 0) (fL k8 (aa (ae 3) (aa (fC (.int 0)) aZ))) (fL k8 (aa (ae 4) (aa (ae 5) aZ))) [some (aE CR CP rows (oD o)),a1,none,some (.int p.1),some (.int p.2),some (.int s)] (by simp) (by simp) (by simp)
   simp [iK,e,hl]
  obtain ⟨y5,eb⟩:∃y5,da CR CP CN n [some (aE CR CP rows (oD o)),a1,some (.lst (acc.map .int)),some (.int p.1),some (.int p.2),z5]=.ok (.nx [some (aE CR CP rows (oD o)),a1,some (.lst ((acc++vals rows o p).map .int)),some (.int p.1),some (.int p.2),y5]):=by
   have est:eD CR CP "many_strips" (aO CR CP CN n) (aU CR CP CN n) (ae 0) aZ [some (aE CR CP rows (oD o)),a1,none,some (.int p.1),some (.int p.2),z5]=.ok (.int (nS o)):=tZ CR CP CN n hne (rows:=rows) hns (ae 0) [some (aE CR CP rows (oD o)),a1,none,some (.int p.1),some (.int p.2),z5] (by simp)
   have t0:=turn 0 acc (by omega) (.inl rfl)
   cases o with
   |none=>
    refine ⟨some (.int 0),?_⟩
    have er:oX [.int 1]=.ok [.int 0]:=by simp [br]
    simp only [nS] at est
    simp [da,est,er,jF,t0,vals,-e_rng1]
   |some r2=>
    refine ⟨some (.int 1),?_⟩
    have er:oX [.int 2]=.ok [.int 0,.int 1]:=by simp [br,List.range_succ]
    have t1:=turn 1 (acc++[at2 rows p.1 p.2]) (by simp;omega) (.inr ⟨rfl,r2,rfl⟩)
    simp only [nS] at est
    simp [da,est,er,jF,-e_rng1]
    simp at t0 t1
    simp [t0,t1,vals]
  obtain ⟨y3,y4,y6,e2⟩:=rT n hne hr ho a1 ps (acc++vals rows o p) (some (.int p.1)) (some (.int p.2)) y5 (fun q hq=>h q (by simp [hq])) (by
   have:(vals rows o p).length<=2:=by cases o<;>simp [vals]
   simp;omega)
  refine ⟨y3,y4,y6,?_⟩
  rw [List.map_cons,jF,show ji (.tp [3,4]) (stD p) [some (aE CR CP rows (oD o)),a1,some (.lst (acc.map .int)),z3,z4,z5]=.ok [some (aE CR CP rows (oD o)),a1,some (.lst (acc.map .int)),some (.int p.1),some (.int p.2),z5] from rfl,aA,eb,aA,List.flatMap_cons]
  rw [List.append_assoc] at e2
  exact e2
end
section
variable (CR CP CN:Addr)
theorem prs_len (ks:List Int) (h:ks.length<64):(prs ks).length<=64*64:=by
 unfold prs
 have ht:=tX ks
 have key:∀xs:List Int,(xs.flatMap fun x=>((there ks).filter (many1 ks x)).map fun y=>(x,y)).length<=xs.length*64:=by
  intro xs
  induction xs with
  |nil=>simp
  |cons x xs ih=>
   have:=List.length_filter_le (many1 ks x) (there ks)
   simp only [List.flatMap_cons,List.length_append,List.length_map,List.length_cons]
   omega
 have:=key (there ks)
 have:(there ks).length*64<=64*64:=Nat.mul_le_mul_right _ (by omega)
 omega
theorem least_ok (n:Nat) (hne:CR≠CP) {k:Nat} {rows:List (List Int)} {o:Option (List (List Int))} (hr:bz k rows) (ho:∀r2,o=some r2->bz k r2) {ks:List Int} (hks:∀x∈ks,0<=x/\x<k) (hl:ks.length<64) :
  dj CR CP CN n [aE CR CP rows (oD o),.lst (ks.map .int)]=minD [.lst (((prs ks).flatMap (vals rows o)).map .int)]:=by
 have ep:=pairs_ok CR CP CN n ks hl
 have hpl:=prs_len ks hl
 obtain ⟨y3,y4,y5,e⟩:=rT CR CP CN n hne hr ho (some (.lst (ks.map .int))) (prs ks) [] none none none (fun p hp=>by
  obtain ⟨h1,h2,_⟩:=zV.mp hp
  exact ⟨hks _ h1,hks _ h2⟩) (by simp;omega)
 simp only [List.map_nil,List.nil_append] at e
 generalize hz:minD [.lst (((prs ks).flatMap (vals rows o)).map .int)]=z
 cases z with
 |ok v=>simp [dj,gO,ep,e,hz,-AI]
 |error x=>simp [dj,gO,ep,e,hz,-AI]
noncomputable def cz (fl:List Fli) (is:List Int):List Int:=is.map fun i=>(fJ fl i).kind
theorem tj (fl:List Fli) (j:Int) (g:Fli->Int) (hg:∀f,oP [.int f.kind,.int f.first,.int f.last,.int f.due,.int f.price] j=.ok (.int (g f))):∀is:List Int,(∀i∈is,0<=i/\i<fl.length) ->
  bE (.nm 0) lX (f2 ixD (f2 ixD (ae 1) (ae 0)) (fC (.int j))) [none,some (.lst (fl.map flD))] (is.map .int)=.ok ((is.map fun i=>g (fJ fl i)).map .int)
 |[],_=>rfl
 |i::is,h=>by
  have ih:=tj fl j g hg is fun x hx=>h x (by simp [hx])
  obtain ⟨h0,h1⟩:=h i (by simp)
  obtain ⟨e,_⟩:=wj h0 h1
  have e2:=hg (fJ fl i)
  rw [List.map_cons,bE]
  simp only [flD] at e
  simp [e,e2,ih]
noncomputable def lawP (is:List Int):List fg:=is.flatMap fun i=>(is.filter fun j=> !decide (i=j)).map fun j=>(i,j)
theorem nB {is:List Int} {p:fg}:p∈lawP is↔p.1∈is/\p.2∈is/\p.1≠p.2:=by
 unfold lawP
 rw [List.mem_flatMap]
 constructor
 ·rintro ⟨x,hx,h⟩
  obtain ⟨y,hy,rfl⟩:=List.mem_map.mp h
  obtain ⟨h1,h2⟩:=List.mem_filter.mp hy
  exact ⟨hx,h1,by simpa using h2⟩
 ·rintro ⟨h1,h2,h3⟩
  exact ⟨p.1,h1,List.mem_map.mpr ⟨p.2,List.mem_filter.mpr ⟨h2,by simpa using h3⟩,rfl⟩⟩
noncomputable def kk (fl:List Fli) (p:fg):fg:=((fJ fl p.1).kind,(fJ fl p.2).kind)
theorem uV {fl:List Fli}:∀{is:List Int},is.Nodup->∀{k:Int},1<(cz fl is).countP (·==k)->∃i∈is,∃j∈is,i≠j/\(fJ fl i).kind=k/\(fJ fl j).kind=k
 |[],_,k,h=>by simp [cz] at h
 |i::is,hn,k,h=>by
  have hn:=List.nodup_cons.mp hn
  unfold cz at h
  rw [List.map_cons,List.countP_cons] at h
  by_cases hk:(fJ fl i).kind=k
  ·rw [if_pos (by simpa using hk)] at h
   have:0<(cz fl is).countP (·==k):=by unfold cz;omega
   obtain ⟨x,hx,e⟩:=List.countP_pos_iff.mp this
   obtain ⟨j,hj,rfl⟩:=List.mem_map.mp hx
   exact ⟨i,by simp,j,by simp [hj],fun z=>hn.1 (z▸hj),hk,by simpa using e⟩
  ·rw [if_neg (by simpa using hk)] at h
   obtain ⟨a,ha,b,hb,r⟩:=uV hn.2 (k:=k) (by unfold cz;omega)
   exact ⟨a,by simp [ha],b,by simp [hb],r⟩
theorem tR {fl:List Fli}:∀{is:List Int} {i j:Int},i∈is->j∈is->i≠j->(fJ fl i).kind=(fJ fl j).kind->1<(cz fl is).countP (·==(fJ fl i).kind)
 |[],i,j,h,_,_,_=>by simp at h
 |x::is,i,j,hi,hj,hne,e=>by
  unfold cz
  rw [List.map_cons,List.countP_cons]
  have pos:∀y∈is,(fJ fl y).kind=(fJ fl i).kind->0<(is.map fun i=>(fJ fl i).kind).countP (·==(fJ fl i).kind):=fun y hy ey=>List.countP_pos_iff.mpr ⟨_,List.mem_map_of_mem hy,by simpa using ey⟩
  rcases List.mem_cons.mp hi with z|z
  ·subst z
   rcases List.mem_cons.mp hj with z|z
   ·exact absurd z.symm hne
   ·have:=pos j z e.symm
    rw [if_pos (by simp)]
    omega
  ·rcases List.mem_cons.mp hj with z2|z2
   ·subst z2
    have:=pos i z rfl
    rw [if_pos (by simpa using e.symm)]
    omega
   ·have:=tR z z2 hne e
    unfold cz at this
    omega
theorem rh {fl:List Fli} {is:List Int} (hn:is.Nodup) (p:fg):p∈prs (cz fl is)↔∃q∈lawP is,kk fl q=p:=by
 rw [zV]
 constructor
 ·rintro ⟨h1,h2,h3⟩
  obtain ⟨i,hi,e1⟩:=List.mem_map.mp h1
  obtain ⟨j,hj,e2⟩:=List.mem_map.mp h2
  unfold many1 at h3
  by_cases hp:p.1=p.2
  ·have h4:1<(cz fl is).countP (·==p.1):=by simpa [hp] using h3
   obtain ⟨a,ha,b,hb,hab,ea,eb⟩:=uV hn h4
   exact ⟨(a,b),nB.mpr ⟨ha,hb,hab⟩,by unfold kk;rw [ea,eb];exact Prod.ext rfl hp⟩
  ·refine ⟨(i,j),nB.mpr ⟨hi,hj,fun z=>hp ?_⟩,?_⟩
   ·have z:i=j:=z
    rw [<- e1,<- e2,z]
   ·unfold kk;exact Prod.ext e1 e2
 ·rintro ⟨q,hq,rfl⟩
  obtain ⟨h1,h2,h3⟩:=nB.mp hq
  refine ⟨List.mem_map_of_mem h1,List.mem_map_of_mem h2,?_⟩
  unfold many1 kk
  by_cases hp:(fJ fl q.1).kind=(fJ fl q.2).kind
  ·have:=tR h1 h2 h3 hp
   simp [this]
  ·simp [hp]
theorem px {rows:List (List Int)} {o:Option (List (List Int))} {fl:List Fli} {is:List Int} (hn:is.Nodup) (x:Int):x∈(prs (cz fl is)).flatMap (vals rows o)↔x∈(lawP is).flatMap fun q=>vals rows o (kk fl q):=by
 rw [List.mem_flatMap,List.mem_flatMap]
 constructor
 ·rintro ⟨p,hp,h⟩
  obtain ⟨q,hq,e⟩:=(rh hn p).mp hp
  exact ⟨q,hq,by rw [e];exact h⟩
 ·rintro ⟨q,hq,h⟩
  exact ⟨_,(rh hn _).mpr ⟨q,hq,rfl⟩,h⟩
theorem vC {rows:List (List Int)} {o:Option (List (List Int))} {fl:List Fli} {is:List Int} (hn:is.Nodup) (h2:2<=is.length):((lawP is).flatMap fun q=>vals rows o (kk fl q))≠[]:=by
 match is,hn,h2 with
 |i::j::r,hn,_=>
  have hij:i≠j:=fun z=>by
   have:=(List.nodup_cons.mp hn).1
   exact this (by simp [z])
  have hm:(i,j)∈lawP (i::j::r):=nB.mpr ⟨by simp,by simp,hij⟩
  intro e
  have:at2 rows (kk fl (i,j)).1 (kk fl (i,j)).2∈(lawP (i::j::r)).flatMap fun q=>vals rows o (kk fl q):=List.mem_flatMap.mpr ⟨_,hm,by cases o<;>simp [vals]⟩
  rw [e] at this
  cases this
end
noncomputable def pz (m:Nat):List Int:=(List.range m).map fun k:Nat=>(k:Int)
theorem i7 (m:Nat):br 0 m=(pz m).map .int:=by
 unfold br pz
 rw [List.map_map]
 exact List.map_congr_left fun k _=>by simp
theorem iP (m:Nat):(pz m).length=m:=by unfold pz;simp
theorem lL (m:Nat):(pz m).Nodup:=by
 unfold pz
 rw [List.Nodup,List.pairwise_map]
 exact List.nodup_range.imp fun h=>by omega
theorem dR {m:Nat} {x:Int}:x∈pz m↔0<=x/\x<m:=by
 unfold pz
 constructor
 ·intro h
  obtain ⟨j,hj,rfl⟩:=List.mem_map.mp h
  have:=List.mem_range.mp hj
  omega
 ·intro h
  exact List.mem_map.mpr ⟨x.toNat,List.mem_range.mpr (by omega),by omega⟩
theorem n6 {β:Type} (f:Int->Option β):∀{l:List Int},l.Pairwise (·<=·)->match l.findSome? f with
  |none=>∀x∈l,f x=none
  |some r=>∃x∈l,f x=some r/\∀y∈l,y<x->f y=none
 |[],_=>by simp
 |a::l,h=>by
  obtain ⟨h1,h2⟩:=List.pairwise_cons.mp h
  have ih:=n6 f h2
  rw [List.findSome?_cons]
  cases ha:f a with
  |some r=>exact ⟨a,by simp,ha,fun y hy hlt=>by
    rcases List.mem_cons.mp hy with z|z
    ·omega
    ·have:=h1 y z;omega⟩
  |none=>
   dsimp only
   cases e:l.findSome? f with
   |none=>
    rw [e] at ih
    intro x hx
    rcases List.mem_cons.mp hx with z|z
    ·rw [z];exact ha
    ·exact ih x z
   |some r=>
    rw [e] at ih
    obtain ⟨x,hx,e1,e2⟩:=ih
    exact ⟨x,by simp [hx],e1,fun y hy hlt=>by
     rcases List.mem_cons.mp hy with z|z
     ·rw [z];exact ha
     ·exact e2 y z hlt⟩
theorem uJ {β:Type} (f:Int->Option β) {l m:List Int} (hl:l.Pairwise (·<=·)) (hm:m.Pairwise (·<=·)) (h:∀x,x∈l↔x∈m):l.findSome? f=m.findSome? f:=by
 have a:=n6 f hl
 have b:=n6 f hm
 cases e1:l.findSome? f with
 |none=>
  rw [e1] at a
  cases e2:m.findSome? f with
  |none=>rfl
  |some r=>
   rw [e2] at b
   obtain ⟨x,hx,e,_⟩:=b
   rw [a x ((h x).mpr hx)] at e
   cases e
 |some r=>
  rw [e1] at a
  obtain ⟨x,hx,ex,hmin⟩:=a
  cases e2:m.findSome? f with
  |none=>rw [e2] at b;rw [b x ((h x).mp hx)] at ex;cases ex
  |some r'=>
   rw [e2] at b
   obtain ⟨y,hy,ey,hmin'⟩:=b
   have:x=y:=by
    rcases Int.lt_trichotomy x y with z|z|z
    ·rw [hmin' x ((h x).mp hx) z] at ex;cases ex
    ·exact z
    ·rw [hmin y ((h y).mpr hy) z] at ey;cases ey
   subst this
   rw [ex] at ey
   exact ey
theorem pb (l:List Int):(eQ ltZ l).Pairwise (·<=·):=(eB ordZ l).imp fun {x y} h=>by
 unfold ltZ at h
 have:=of_decide_eq_false h
 omega
noncomputable def inB (fl:List Fli) (a b k:Int):Bool:=decide (a<=(fJ fl k).first)&&decide ((fJ fl k).last<=b)
noncomputable def btw (fl:List Fli) (a b:Int):List Int:=(pz fl.length).filter (inB fl a b)
theorem v3 (fl:List Fli) (a b:Int):(btw fl a b).Nodup:=(lL _).sublist (List.filter_sublist)
theorem btw_in (fl:List Fli) (a b:Int):∀j∈btw fl a b,0<=j/\j<fl.length:=fun j hj=>dR.mp (List.mem_filter.mp hj).1
theorem wY (fl:List Fli) (a b:Int):(btw fl a b).length<=fl.length:=by
 have:=List.length_filter_le (inB fl a b) (pz fl.length)
 rw [iP] at this
 exact this
theorem rD:∀(fl pre:List Fli),iG pre.length (fl.map flD)=((List.range' pre.length fl.length).map fun k:Nat=>Dat.tup [.int k,flD (fJ (pre++fl) k)])
 |[],pre=>rfl
 |f::fl,pre=>by
  have ih:=rD fl (pre++[f])
  rw [List.length_append,List.length_singleton,List.append_assoc] at ih
  rw [List.map_cons,iG,ih,List.length_cons,List.range'_succ,List.map_cons]
  congr 2
  unfold fJ
  simp
section
variable (CR CP CN:Addr)
theorem xW (fl:List Fli) (a b:Int):∀ks:List Nat,(∀k∈ks,k<fl.length)->bE (.tp [0,1]) (wo (fB (f2 leD (ae 2) (f2 ixD (ae 1) (fC (.int 1))))) (fB (f2 leD (f2 ixD (ae 1) (fC (.int 2))) (ae 3)))) (ae 0) [none,none,some (.int a),some (.int b)] (ks.map fun k:Nat=>Dat.tup [.int k,flD (fJ fl k)])=.ok (((ks.map fun k:Nat=>(k:Int)).filter (inB fl a b)).map .int)
 |[],_=>rfl
 |k::ks,h=>by
  have ih:=xW fl a b ks fun x hx=>h x (by simp [hx])
  rw [List.map_cons,bE,List.map_cons]
  by_cases h1:a<=(fJ fl k).first
  ·by_cases h2:(fJ fl k).last<=b
   ·rw [List.filter_cons_of_pos (by simp [inB,h1,h2])]
    simp [flD] at ih ⊢
    simp [h1,h2,ih]
   ·rw [List.filter_cons_of_neg (by simp [inB,h2])]
    simp [flD] at ih ⊢
    simp [h1,h2,ih]
  ·rw [List.filter_cons_of_neg (by simp [inB,h1])]
   simp [flD] at ih ⊢
   simp [h1,ih]
theorem yU (n:Nat) (fl:List Fli) (hfl:fl.length<=1000) (a b:Int):cg CR CP CN n [.lst (fl.map flD),.int a,.int b]=.ok (.lst ((btw fl a b).map .int)):=by
 have e1:=rD fl []
 rw [List.length_nil,List.nil_append,<- List.range_eq_range'] at e1
 have e2:=xW fl a b (List.range fl.length) fun k hk=>List.mem_range.mp hk
 rw [<- e1] at e2
 have e2:bE (.tp [0,1]) (wo (fB (f2 leD (ae 2) (f2 ixD (ae 1) (fC (.int 1))))) (fB (f2 leD (f2 ixD (ae 1) (fC (.int 2))) (ae 3)))) (ae 0) [none,none,some (.int a),some (.int b)] (iG 0 (fl.map flD))=.ok ((btw fl a b).map .int):=e2
 have hl:(iG 0 (fl.map flD)).length<=16777216:=by rw [e1,List.length_map,List.length_range];omega
 simp [cg,fH,e2,hl]
noncomputable def cw (cr:List Int->Bool) (fl:List Fli) (a b:Int):Option Dat:=if cr (btw fl a b)=true then some (.lst ((btw fl a b).map .int)) else none
noncomputable def early (x:Option Dat) (ρ:af):M Flo:=match x with
 |some r=>.ok (.rt r)
 |none=>.ok (.nx ρ)
noncomputable def told (x:Option Dat):Dat:=x.getD .non
noncomputable def answer (cr:List Int->Bool) (fl:List Fli):Option Dat:=(eQ ltZ (fl.map fun f=>f.first)).findSome? fun a=>(eQ ltZ (fl.map fun f=>f.last)).findSome? fun b=>cw cr fl a b
theorem set_ok (xs:List Int) (h:xs.length<64):jR (.lst (xs.map .int))=.ok (.lst ((there xs).map .int)):=by
 show (bS (xs.map .int)).bind (fun is=>if (xs.map Dat.int).length<64 then Except.ok (Dat.lst ((eQ ltZ (keysOf is)).map Dat.int)) else stk)=_
 rw [g9,aA,if_pos (by simpa using h)]
 rfl
theorem AY (fl:List Fli):bE (.nm 0) lX (f2 ixD (ae 0) (fC (.int 1))) [none] (fl.map flD)=.ok ((fl.map fun f=>f.first).map .int):=by
 have:=gy (p:=.nm 0) (fe:=f2 ixD (ae 0) (fC (.int 1))) (ρ0:=[none]) (fun d=>match d with|.tup [_,x,_,_,_]=>x|_=>.non) (fl.map flD) (fun d hd=>by
  obtain ⟨f,_,rfl⟩:=List.mem_map.mp hd
  exact ⟨[some (flD f)],by simp,by simp [flD]⟩)
 rw [this,List.map_map,List.map_map]
 rfl
theorem AX (fl:List Fli):bE (.nm 0) lX (f2 ixD (ae 0) (fC (.int 2))) [none] (fl.map flD)=.ok ((fl.map fun f=>f.last).map .int):=by
 have:=gy (p:=.nm 0) (fe:=f2 ixD (ae 0) (fC (.int 2))) (ρ0:=[none]) (fun d=>match d with|.tup [_,_,x,_,_]=>x|_=>.non) (fl.map flD) (fun d hd=>by
  obtain ⟨f,_,rfl⟩:=List.mem_map.mp hd
  exact ⟨[some (flD f)],by simp,by simp [flD]⟩)
 rw [this,List.map_map,List.map_map]
 rfl
theorem uU (n:Nat) {fl:List Fli} (hfm:fl.length<64) {rd:Dat} {cr:List Int->Bool} (hc:∀is:List Int,(∀j∈is,0<=j/\j<fl.length)->is.Nodup->is.length<64->bK CR CP CN n [rd,.lst (fl.map flD),.lst (is.map .int)]=.ok (.bl (cr is))) (a2 a3:Option Dat) (a:Int):∀(ls:List Int) (z5 z6:Option Dat),∃y5 y6,
  jF (.nm 5) (gB CR CP CN n) (ls.map .int) [some rd,some (.lst (fl.map flD)),a2,a3,some (.int a),z5,z6]=early (ls.findSome? fun b=>cw cr fl a b) [some rd,some (.lst (fl.map flD)),a2,a3,some (.int a),y5,y6]
 |[],z5,z6=>⟨z5,z6,rfl⟩
 |b::ls,z5,z6=>by
  have eb':=yU CR CP CN n fl (by omega) a b
  have ec:=hc (btw fl a b) (btw_in fl a b) (v3 fl a b) (by have:=wY fl a b;omega)
  have eb:gB CR CP CN n [some rd,some (.lst (fl.map flD)),a2,a3,some (.int a),some (.int b),z6]=early (cw cr fl a b) [some rd,some (.lst (fl.map flD)),a2,a3,some (.int a),some (.int b),some (.lst ((btw fl a b).map .int))]:=by
   unfold cw
   cases hb:cr (btw fl a b) with
   |true=>
    rw [hb] at ec
    simp [gB,eb',lJ,ec,early]
   |false=>
    rw [hb] at ec
    simp [gB,eb',lJ,ec,early]
  obtain ⟨x5,x6,e2⟩:=uU n hfm hc a2 a3 a ls (some (.int b)) (some (.lst ((btw fl a b).map .int)))
  refine ⟨x5,x6,?_⟩
  rw [List.map_cons,jF,show ji (.nm 5) (.int b) [some rd,some (.lst (fl.map flD)),a2,a3,some (.int a),z5,z6]=.ok [some rd,some (.lst (fl.map flD)),a2,a3,some (.int a),some (.int b),z6] from rfl,aA,eb,List.findSome?_cons]
  cases hw:cw cr fl a b with
  |some r=>rfl
  |none=>exact e2
theorem uT (n:Nat) {fl:List Fli} (hfm:fl.length<64) {rd:Dat} {cr:List Int->Bool} (hc:∀is:List Int,(∀j∈is,0<=j/\j<fl.length)->is.Nodup->is.length<64->bK CR CP CN n [rd,.lst (fl.map flD),.lst (is.map .int)]=.ok (.bl (cr is))) (a2:Option Dat) (ls:List Int):∀(fs:List Int) (z4 z5 z6:Option Dat),∃y4 y5 y6,
  jF (.nm 4) (j0 CR CP CN n) (fs.map .int) [some rd,some (.lst (fl.map flD)),a2,some (.lst (ls.map .int)),z4,z5,z6]=early (fs.findSome? fun a=>ls.findSome? fun b=>cw cr fl a b) [some rd,some (.lst (fl.map flD)),a2,some (.lst (ls.map .int)),y4,y5,y6]
 |[],z4,z5,z6=>⟨z4,z5,z6,rfl⟩
 |a::fs,z4,z5,z6=>by
  obtain ⟨y5,y6,e⟩:=uU CR CP CN n hfm hc a2 (some (.lst (ls.map .int))) a ls z5 z6
  have eb:j0 CR CP CN n [some rd,some (.lst (fl.map flD)),a2,some (.lst (ls.map .int)),some (.int a),z5,z6]=early (ls.findSome? fun b=>cw cr fl a b) [some rd,some (.lst (fl.map flD)),a2,some (.lst (ls.map .int)),some (.int a),y5,y6]:=by
   rw [<- e]
   simp [j0]
  obtain ⟨x4,x5,x6,e2⟩:=uT n hfm hc a2 ls fs (some (.int a)) y5 y6
  refine ⟨x4,x5,x6,?_⟩
  rw [List.map_cons,jF,show ji (.nm 4) (.int a) [some rd,some (.lst (fl.map flD)),a2,some (.lst (ls.map .int)),z4,z5,z6]=.ok [some rd,some (.lst (fl.map flD)),a2,some (.lst (ls.map .int)),some (.int a),z5,z6] from rfl,aA,eb,List.findSome?_cons]
  cases hw:ls.findSome? fun b=>cw cr fl a b with
  |some r=>rfl
  |none=>exact e2
theorem crowd_ok (n:Nat) {fl:List Fli} (hfm:fl.length<64) {rd:Dat} {cr:List Int->Bool} (hc:∀is:List Int,(∀j∈is,0<=j/\j<fl.length)->is.Nodup->is.length<64->bK CR CP CN n [rd,.lst (fl.map flD),.lst (is.map .int)]=.ok (.bl (cr is))):i4 CR CP CN n [rd,.lst (fl.map flD)]=.ok (told (answer cr fl)):=by
 have s1:=set_ok (fl.map fun f=>f.first) (by simpa using hfm)
 have s2:=set_ok (fl.map fun f=>f.last) (by simpa using hfm)
 have c1:=AY fl
 have c2:=AX fl
 have hl:fl.length<=16777216:=by omega
 obtain ⟨y4,y5,y6,e⟩:=uT CR CP CN n hfm hc (some (.lst ((there (fl.map fun f=>f.first)).map .int))) (there (fl.map fun f=>f.last)) (there (fl.map fun f=>f.first)) none none none
 have ea:((there (fl.map fun f=>f.first)).findSome? fun a=>(there (fl.map fun f=>f.last)).findSome? fun b=>cw cr fl a b)=answer cr fl:=by
  unfold answer
  have h1:∀a,((there (fl.map fun f=>f.last)).findSome? fun b=>cw cr fl a b)=(eQ ltZ (fl.map fun f=>f.last)).findSome? fun b=>cw cr fl a b:=fun a=>uJ _ (pb _) (pb _) fun x=>by rw [jl,(cK (lt:=ltZ) _).mem_iff]
  simp only [h1]
  exact uJ _ (pb _) (pb _) fun x=>by rw [jl,(cK (lt:=ltZ) _).mem_iff]
 rw [ea] at e
 generalize (there (fl.map fun f=>f.first)).map Dat.int=A at s1 e
 generalize (there (fl.map fun f=>f.last)).map Dat.int=B at s2 e
 cases ha:answer cr fl with
 |none=>
  rw [ha] at e
  simp only [early] at e
  simp [i4,lW,c1,c2,hl,s1,s2,e,told,isL,-List.map_map]
 |some r=>
  rw [ha] at e
  simp only [early] at e
  simp [i4,lW,c1,c2,hl,s1,s2,e,told,-List.map_map]
end
theorem sX (l:List Int) (j:Nat):(l.map Dat.int).eraseIdx j=(l.eraseIdx j).map .int:=by
 rw [List.eraseIdx_eq_take_drop_succ,List.eraseIdx_eq_take_drop_succ]
 simp
theorem popD_i {ls:List Int} {k:Int} (h0:0<=k) (h1:k<ls.length) (hl:ls.length<=16777216):zX (ls.map .int) (.int k)=.ok (.int (ls[k.toNat]'(by omega)),(ls.eraseIdx k.toNat).map .int):=by
 have hj:k.toNat<ls.length:=by omega
 have hn:¬16777216<ls.length:=by omega
 simp [zX,ixN,h0,h1,hj,hn,sX]
theorem ne_nil (ls:List Int):neM (.lst (ls.map .int)) (.lst [])=.ok (.bl !ls.isEmpty):=by
 unfold neM
 rw [if_pos (by simp only [okE,jQ,Bool.and_true];exact Aa 38 ls)]
 cases ls<;>simp [eqD,zb]
noncomputable def Some' (m:Nat) (is:List Int):Prop:=is.Nodup/\(∀j∈is,0<=j/\j<m)/\is.length<=m
section
variable (CR CP CN:Addr)
theorem zE (n:Nat) (a0 a1:Option Dat) (x:Int) (left so:List Int) (j:Int) (hj:0<=j/\j<100) (hl:left.length+so.length<=100) (hx:0<=x/\x<2147483647):∃(x':Int) (left' so':List Int),(0<=x'/\x'<2147483647)/\(so'++left').Perm (so++left) /\
  f7 CR CP CN n [a0,a1,some (.int x),some (.lst (left.map .int)),some (.lst (so.map .int)),some (.int j)]=.ok (.nx [a0,a1,some (.int x'),some (.lst (left'.map .int)),some (.lst (so'.map .int)),some (.int j)]):=by
 have en:=ne_nil left
 cases hle:left.isEmpty with
 |true=>
  rw [hle] at en
  exact ⟨x,left,so,hx,List.Perm.refl _,by simp [f7,kr,en]⟩
 |false=>
  rw [hle] at en
  have hpos:0<left.length:=by
   cases left with
   |nil=>simp at hle
   |cons a b=>simp
  have hp':(0:Int)<left.length:=by omega
  have q0:0<=x/8%(left.length:Int):=Int.emod_nonneg _ (by omega)
  have q1:x/8%(left.length:Int)<left.length:=Int.emod_lt_of_pos _ hp'
  have ep:=popD_i q0 q1 (by omega)
  have k1: -18446744073709551616<x:=by omega
  have k2:x<18446744073709551616:=by omega
  have hs:so.length<16777216:=by omega
  have hj2:(x/8%(left.length:Int)).toNat<left.length:=by omega
  refine ⟨(x*x+16807*x+j)%2147483647,left.eraseIdx (x/8%(left.length:Int)).toNat,so++[left[(x/8%(left.length:Int)).toNat]],⟨Int.emod_nonneg _ (by decide),Int.emod_lt_of_pos _ (by decide)⟩,?_,?_⟩
  ·rw [List.append_assoc]
   exact List.Perm.append (List.Perm.refl _) (yN hj2)
  ·simp [f7,kr,en,oB hp',ep,k1,k2,hs]
theorem some_ok (n:Nat) (c:Int) (m:Nat) (hm:m<=40):∃is,Some' m is/\fD CR CP CN n [.int c,.int m]=.ok (.lst (is.map .int)):=by
 have k1: -4611686018427387904<=(m:Int):=by omega
 have k2:(m:Int)<4611686018427387904:=by omega
 obtain ⟨x,hx⟩:∃x,x=c*16807%2147483629:=⟨_,rfl⟩
 have hx0:0<=x/\x<2147483647:=by
  have a:0<=c*16807%2147483629:=Int.emod_nonneg _ (by decide)
  have b:c*16807%2147483629<2147483629:=Int.emod_lt_of_pos _ (by decide)
  rw [hx];exact ⟨a,by omega⟩
 obtain ⟨t,ht⟩:∃t:Nat,((2+x%4:Int)).toNat=t/\t<=6:=⟨_,rfl,by omega⟩
 have u1: -4611686018427387904<=2+x%4:=by omega
 have u2:2+x%4<4611686018427387904:=by omega
 have hul:(pz m).length=m:=by unfold pz;simp
 obtain ⟨ρ',e,x',left,so,z5,rfl,hx',hp⟩:=fU (p:=.nm 5) (g:=f7 CR CP CN n)
  (fun i ρ=>∃(x':Int) (left so:List Int) (z5:Option Dat),ρ=[some (.int c),some (.int m),some (.int x'),some (.lst (left.map .int)),some (.lst (so.map .int)),z5]/\(0<=x'/\x'<2147483647)/\(so++left).Perm (pz m)) (br 0 t) 0 [some (.int c),some (.int m),some (.int x),some (.lst ((pz m).map .int)),some (.lst []),none] ⟨x,pz m,[],none,rfl,hx0,List.Perm.refl _⟩ (by
  rintro i d ρ hd ⟨x',left,so,z5,rfl,hx',hp⟩
  obtain ⟨hi,rfl⟩:=fq hd
  have hlen:=hp.length_eq
  rw [List.length_append,hul] at hlen
  obtain ⟨x2,l2,s2,h1,h2,e⟩:=zE CR CP CN n (some (.int c)) (some (.int m)) x' left so (i:Int) (by omega) (by omega) hx'
  exact ⟨_,rfl,_,.inl e,x2,l2,s2,_,rfl,h1,h2.trans hp⟩)
 refine ⟨so,⟨?_,fun j hj=>?_,?_⟩,?_⟩
 ·exact ((hp.nodup_iff.mpr (lL m)).sublist (List.sublist_append_left so left))
 ·exact dR.mp (hp.mem_iff.mp (List.mem_append_left _ hj))
 ·have:=hp.length_eq
  rw [List.length_append,hul] at this
  omega
 ·have sm:m<=16777216:=by omega
  rw [i7] at e
  simp [fD,n3,<- hx,k1,k2,u1,u2,ht.1,e,i7,hul,sm]
end
structure tJ (rows:List (List Int)) (o:Option (List (List Int))) (fl:List Fli) (is:List Int) (v lo hi:Int):Prop where
 gap:∀i∈is,∀j∈is,i≠j->∀x∈vals rows o (kk fl (i,j)),v<=x
 win:∀i∈is,lo<=(fJ fl i).first/\(fJ fl i).last<=hi
 room:hi-lo<v*((is.length:Int)-1)
 two:2<=is.length
 nod:is.Nodup
 rng:∀i∈is,0<=i/\i<fl.length
section
variable (CR CP CN:Addr)
theorem crowd_is (n:Nat) (hne:CR≠CP) {k:Nat} {rows:List (List Int)} {o:Option (List (List Int))} (hr:bz k rows) (ho:∀r2,o=some r2->bz k r2) {fl:List Fli} (hfl:∀f∈fl,0<=f.kind/\f.kind<k) {is:List Int} (his:∀j∈is,0<=j/\j<fl.length) (hn:is.Nodup) (hl:is.length<64) :
  ∃b,bK CR CP CN n [aE CR CP rows (oD o),.lst (fl.map flD),.lst (is.map .int)]=.ok (.bl b)/\(b=true->∃v lo hi,tJ rows o fl is v lo hi):=by
 by_cases h2:is.length<2
 ·have h2':(is.length:Int)<2:=by omega
  exact ⟨false,by simp [bK,lV,lH,h2'],fun z=>by cases z⟩
 ·have h2':¬(is.length:Int)<2:=by omega
  have c1:=tj fl 1 (fun f=>f.first) (fun f=>by simp) is his
  have c2:=tj fl 2 (fun f=>f.last) (fun f=>by simp) is his
  have c0:=tj fl 0 (fun f=>f.kind) (fun f=>by simp) is his
  obtain ⟨i0,r,e0⟩:∃i0 r,is=i0::r:=by
   cases is with
   |nil=>simp at h2
   |cons a b=>exact ⟨a,b,rfl⟩
  obtain ⟨lo,elo,hlo⟩:∃lo,minD [.lst ((is.map fun i=>(fJ fl i).first).map .int)]=.ok (.int lo)/\∀i∈is,lo<=(fJ fl i).first:=by
   obtain ⟨_,m2,m3⟩:=sM (xs:=r.map fun i=>(fJ fl i).first) (x:=(fJ fl i0).first)
   refine ⟨(r.map fun i=>(fJ fl i).first).foldl mC (fJ fl i0).first,?_,?_⟩
   ·rw [e0]
    show (bS (((i0::r).map fun i=>(fJ fl i).first).map .int)).bind minL=_
    rw [g9,aA]
    rfl
   ·rw [e0]
    intro i hi
    rcases List.mem_cons.mp hi with z|z
    ·rw [z];exact m2
    ·exact m3 _ (List.mem_map_of_mem z)
  obtain ⟨hi,ehi,hhi⟩:∃hi,maxD [.lst ((is.map fun i=>(fJ fl i).last).map .int)]=.ok (.int hi)/\∀i∈is,(fJ fl i).last<=hi:=by
   obtain ⟨_,m2,m3⟩:=L2.fold_max (r.map fun i=>(fJ fl i).last) (fJ fl i0).last
   refine ⟨(r.map fun i=>(fJ fl i).last).foldl kK (fJ fl i0).last,?_,?_⟩
   ·rw [e0]
    show (bS (((i0::r).map fun i=>(fJ fl i).last).map .int)).bind maxL=_
    rw [g9,aA]
    rfl
   ·rw [e0]
    intro i hi
    rcases List.mem_cons.mp hi with z|z
    ·rw [z];exact m2
    ·exact m3 _ (List.mem_map_of_mem z)
  have hks:∀x∈cz fl is,0<=x/\x<k:=fun x hx=>by
   obtain ⟨i,hi',rfl⟩:=List.mem_map.mp hx
   obtain ⟨_,m⟩:=wj (his i hi').1 (his i hi').2
   exact hfl _ m
  have hkl:(cz fl is).length<64:=by unfold cz;rw [List.length_map];exact hl
  have e1:=least_ok CR CP CN n hne hr ho hks hkl
  have hvs:=vC (rows:=rows) (o:=o) (fl:=fl) hn (by omega)
  have hvn:((prs (cz fl is)).flatMap (vals rows o))≠[]:=fun z=>by
   cases hc:(lawP is).flatMap fun q=>vals rows o (kk fl q) with
   |nil=>exact hvs hc
   |cons a b=>
    have:=(px (rows:=rows) (o:=o) (fl:=fl) hn a).mpr (by rw [hc];simp)
    rw [z] at this
    cases this
  obtain ⟨v,m1,hv⟩:∃v,minD [.lst (((prs (cz fl is)).flatMap (vals rows o)).map .int)]=.ok (.int v)/\∀y∈((lawP is).flatMap fun q=>vals rows o (kk fl q)),v<=y:=by
   cases hz:(prs (cz fl is)).flatMap (vals rows o) with
   |nil=>exact absurd hz hvn
   |cons a zs=>
    obtain ⟨_,h2,h3⟩:=sM (xs:=zs) (x:=a)
    refine ⟨zs.foldl mC a,?_,fun y hy=>?_⟩
    ·show (bS ((a::zs).map .int)).bind minL=_
     rw [g9,aA]
     rfl
    ·have:=(px (rows:=rows) (o:=o) (fl:=fl) hn y).mpr hy
     rw [hz] at this
     rcases List.mem_cons.mp this with z|z
     ·rw [z];exact h2
     ·exact h3 y z
  rw [m1] at e1
  have hmul:pM (.int v) (.int ((is.length:Int)-1))=.ok (.int (v*((is.length:Int)-1))):=e_mulR (by simp only [zG,Bool.and_eq_true,decide_eq_true_eq];omega)
  have s1:is.length<=16777216:=by omega
  unfold cz at e1
  refine ⟨decide (hi-lo<v*((is.length:Int)-1)),?_,fun z=>⟨v,lo,hi,⟨fun i hi' j hj hij x hx=>hv x (List.mem_flatMap.mpr ⟨(i,j),nB.mpr ⟨hi',hj,hij⟩,hx⟩),fun i hi'=>⟨hlo i hi',hhi i hi'⟩,of_decide_eq_true z,by omega,hn,his⟩⟩⟩
  simp [bK,lV,lH,h2',c1,c2,c0,elo,ehi,e1,hmul,s1,-AI,-AJ,-List.map_map,-e_mulR,-e_mulL]
end
theorem tJ.few {rows:List (List Int)} {o:Option (List (List Int))} {fl:List Fli} {is:List Int} {v lo hi:Int} (h:tJ rows o fl is v lo hi):tJ rows o (is.map fun i=>fJ fl i) (pz is.length) v lo hi:=by
 have at':∀j:Int,0<=j/\j<is.length->∃i∈is,fJ (is.map fun i=>fJ fl i) j=fJ fl i/\is[j.toNat]? =some i:=fun j hj=>by
  have hlt:j.toNat<is.length:=by omega
  refine ⟨is[j.toNat],List.getElem_mem hlt,?_,List.getElem?_eq_getElem hlt⟩
  show (match (is.map fun i=>fJ fl i)[j.toNat]? with|some f=>f|none=>_)=_
  rw [List.getElem?_map,List.getElem?_eq_getElem hlt]
  rfl
 refine ⟨fun i hi' j hj hij x hx=>?_,fun i hi'=>?_,by rw [iP];exact h.room,by rw [iP];exact h.two,lL _,fun i hi'=>by rw [List.length_map];exact dR.mp hi'⟩
 ·obtain ⟨a,ha,ea,ga⟩:=at' i (dR.mp hi')
  obtain ⟨b,hb,eb,gb⟩:=at' j (dR.mp hj)
  have hab:a≠b:=fun z=>by
   subst z
   obtain ⟨la,ea'⟩:=List.getElem?_eq_some_iff.mp ga
   obtain ⟨lb,eb'⟩:=List.getElem?_eq_some_iff.mp gb
   have:=(List.getElem_inj h.nod).mp (ea'.trans eb'.symm)
   have h1:=dR.mp hi'
   have h2:=dR.mp hj
   exact hij (by omega)
  refine h.gap a ha b hb hab x ?_
  unfold kk at hx ⊢
  dsimp only at hx ⊢
  rw [ea,eb] at hx
  exact hx
 ·obtain ⟨a,ha,ea,_⟩:=at' i (dR.mp hi')
  rw [ea]
  exact h.win a ha
theorem r6 {t:Nat->Int} {v:Int}:∀{ps:List Nat},ps.Pairwise (fun p q=>t p+v<=t q)->∀{p:Nat},(∀q∈ps,t p+v<=t q)->∃q,(q=p\/q∈ps)/\t p+v*(ps.length:Int)<=t q
 |[],_,p,_=>⟨p,.inl rfl,by simp⟩
 |q::ps,h,p,hp=>by
  obtain ⟨h1,h2⟩:=List.pairwise_cons.mp h
  obtain ⟨r,hr,e⟩:=r6 h2 (p:=q) h1
  have:=hp q (by simp)
  refine ⟨r,.inr ?_,?_⟩
  ·rcases hr with z|z
   ·rw [z];simp
   ·simp [z]
  ·rw [List.length_cons,Int.natCast_add,Int.mul_add]
   simp
   omega
theorem no_least {w:Wo} {o:Option (List (List Int))} (hw:w.Good) (hperm:(w.qs.map (·.1)).Perm (pz w.fl.length)) (ho:(o=none/\∀p∈w.qs,p.2=0)\/o=some w.r2) {is:List Int} {v lo hi:Int} (hc:tJ w.rows o w.fl is v lo hi) (ts:List Int):¬w.Bn ts:=fun hl=>by
 have hk:=hl.keeps
 obtain ⟨P,hP⟩:∃P,P=(List.range w.qs.length).filter fun p=>decide ((qAt w.qs p).1∈is):=⟨_,rfl⟩
 have memP:∀p,p∈P↔p<w.qs.length/\(qAt w.qs p).1∈is:=fun p=>by rw [hP,List.mem_filter,List.mem_range,decide_eq_true_eq]
 have ltP:P.Pairwise (·<·):=by rw [hP];exact List.pairwise_lt_range.sublist List.filter_sublist
 have hnd:(w.qs.map (·.1)).Nodup:=hperm.nodup_iff.mpr (lL _)
 have inj:∀p q,p<w.qs.length->q<w.qs.length->(qAt w.qs p).1=(qAt w.qs q).1->p=q:=fun p q hp hq e=>by
  have e1:(w.qs.map (·.1))[p]'(by simpa using hp)=(qAt w.qs p).1:=by simp [qAt,hp]
  have e2:(w.qs.map (·.1))[q]'(by simpa using hq)=(qAt w.qs q).1:=by simp [qAt,hq]
  exact (List.getElem_inj hnd).mp (e1.trans (e.trans e2.symm))
 have lenP:P.length=is.length:=by
  have perm:(P.map fun p=>(qAt w.qs p).1).Perm is:=by
   refine (List.perm_ext_iff_of_nodup ?_ hc.nod).mpr fun x=>?_
   ·rw [List.Nodup,List.pairwise_map]
    refine (List.Pairwise.and_mem.mp ltP).imp ?_
    rintro a b ⟨ha,hb,hab⟩ e
    have:=inj a b ((memP a).mp ha).1 ((memP b).mp hb).1 e
    omega
   ·constructor
    ·intro h
     obtain ⟨p,hp,rfl⟩:=List.mem_map.mp h
     exact ((memP p).mp hp).2
    ·intro h
     have:=hperm.mem_iff.mpr (dR.mpr (hc.rng x h))
     obtain ⟨q,hq,e⟩:=List.mem_map.mp this
     obtain ⟨p,hp,e2⟩:=List.getElem_of_mem hq
     refine List.mem_map.mpr ⟨p,(memP p).mpr ⟨hp,?_⟩,?_⟩
     ·simp [qAt,hp,e2,e,h]
     ·simp [qAt,hp,e2,e]
  have:=perm.length_eq
  rw [List.length_map] at this
  exact this
 have step:∀p q,p∈P->q∈P->p<q->tAt ts p+v<=tAt ts q:=fun p q hp hq hpq=>by
  obtain ⟨hp1,hp2⟩:=(memP p).mp hp
  obtain ⟨hq1,hq2⟩:=(memP q).mp hq
  have h1:=(hk q hq1).2 p hpq
  have hne:(qAt w.qs p).1≠(qAt w.qs q).1:=fun e=>by have:=inj p q hp1 hq1 e;omega
  have hv:v<=w.ap p q:=by
   refine hc.gap _ hp2 _ hq2 hne _ ?_
   unfold Wo.ap apS qo kk
   dsimp only
   rcases ho with ⟨h,hz⟩|h
   ·rw [if_pos ((hz _ (o5 hp1)).trans (hz _ (o5 hq1)).symm)]
    subst h
    simp [vals]
   ·rw [h]
    simp only [vals]
    by_cases hs:(qAt w.qs p).2=(qAt w.qs q).2
    ·rw [if_pos hs];simp
    ·rw [if_neg hs];simp
  omega
 cases hPc:P with
 |nil=>rw [hPc] at lenP;have:=hc.two;simp at lenP;omega
 |cons p ps=>
  rw [hPc] at lenP ltP step
  obtain ⟨l1,l2⟩:=List.pairwise_cons.mp ltP
  obtain ⟨q,hq,e⟩:=r6 (t:=tAt ts) (v:=v) (ps:=ps) (p:=p) ((List.Pairwise.and_mem.mp l2).imp fun {a b} ⟨ha,hb,hab⟩=>step a b (by simp [ha]) (by simp [hb]) hab) fun q hq=>step p q (by simp) (by simp [hq]) (l1 q hq)
  have hqP:q∈P:=by
   rw [hPc]
   rcases hq with z|z
   ·rw [z];simp
   ·simp [z]
  obtain ⟨hq1,hq2⟩:=(memP q).mp hqP
  obtain ⟨hp1,hp2⟩:=(memP p).mp (by rw [hPc];simp)
  have kp:=(hk p hp1).1
  have kq:=(hk q hq1).1
  have wp:=hc.win _ hp2
  have wq:=hc.win _ hq2
  have hr:=hc.room
  rw [<- lenP,List.length_cons] at hr
  have:(((ps.length+1:Nat):Int))-1=(ps.length:Int):=by omega
  rw [this] at hr
  have a1:(w.f p).first<=tAt ts p:=kp.1
  have a2:tAt ts q<=(w.f q).last:=kq.2.1
  unfold Wo.f at a1 a2
  omega
theorem tW (CR CP CN:Addr) (n:Nat) {w:Wo} (hw:w.Good):∀i,i<=w.qs.length->(∃ts:List Int,ts.length=i/\∀j,j<i->w.jj ts j)\/∃(i':Nat) (ts:List Int) (t:Int),i'<w.qs.length/\ts.length=i'/\(∀j,j<i'->w.jj ts j)/\oR w.cs (w.low ts i' i') t/\(w.f i').last<t
 |0,_=>.inl ⟨[],rfl,fun j h=>by omega⟩
 |i+1,h=>by
  rcases tW CR CP CN n hw i (by omega) with ⟨ts,h1,h2⟩|z
  ·obtain ⟨u,_,hu⟩:=Ah CR CP CN n w.cs (w.low ts i i) (by have:=hw.csl;omega) hw.cs
   by_cases hlt:(w.f i).last<u
   ·exact .inr ⟨i,ts,u,by omega,h1,h2,hu,hlt⟩
   ·refine .inl ⟨ts++[u],by simp [h1],fun j hj=>?_⟩
    by_cases hji:j<i
    ·exact (h2 j hji).app (by omega)
    ·have e:j=i:=by omega
     subst e
     have et:tAt (ts++[u]) j=u:=by rw [<- h1];exact tAt_new ts [] u
     refine ⟨?_,by rw [et];omega⟩
     rw [et,w.nA (us:=ts) j j fun l hl=>vE (by omega)]
     exact hu
  ·exact .inr z
section
variable (CR CP CN:Addr)
theorem xT (z0 z1:Option Dat):∀qs:List fg,bE (.tp [0,1]) lX (ae 0) [z0,z1] (qs.map stD)=.ok ((qs.map (·.1)).map .int)
 |[]=>rfl
 |p::qs=>by
  have ih:=xT z0 z1 qs
  rw [List.map_cons,bE]
  simp [stD,ih]
theorem notIn_i (t:Int) (xs:List Int):Ad (.int t) (.lst (xs.map .int))=.ok (.bl (!decide (t∈xs))):=by
 have h:(okE (.int t) 40&&jQ (xs.map .int) 40)=true:=by rw [A9 39];simp [okE]
 show (if (okE (.int t) 40&&jQ (xs.map .int) 40)=true then _ else _)=_
 rw [if_pos h]
 congr 3
 rw [List.any_map,Bool.eq_iff_iff]
 simp [eqD,Function.comp]
theorem yz (n:Nat) (hne:CR≠CP) {w:Wo} (hw:w.Good) (hno:∀ts,¬w.Bn ts):bW CR CP CN n [aE CR CP w.rows w.o,.lst (w.fl.map flD),.lst (w.cs.map stD),.lst (w.qs.map stD)]=.ok (.bl true):=by
 rcases tW CR CP CN n hw w.qs.length (Nat.le_refl _) with ⟨ts,h1,h2⟩|⟨i,ts,t,hi,h1,h2,h3,h4⟩
 ·exact absurd ⟨h1,h2⟩ (hno ts)
 ·have e:=zv CR CP CN n hne hw hi h1 h2 h3 h4
  have hq:=hw.qsl
  have hf:=hw.fll
  obtain ⟨ef,_⟩:=hw.fAt hi
  have ecf:=xT none none w.qs
  have s1:w.qs.length<=16777216:=by omega
  have hin:(qAt w.qs i).1∈w.qs.map (·.1):=List.mem_map_of_mem (o5 hi)
  have en:=notIn_i (qAt w.qs i).1 (w.qs.map (·.1))
  rw [decide_eq_true hin] at en
  have e1:gG CR CP CN n [some (aE CR CP w.rows w.o),some (.lst (w.fl.map flD)),some (.lst (w.cs.map stD)),some (.lst (w.qs.map stD)),some .non,none]=.ok (.nx [some (aE CR CP w.rows w.o),some (.lst (w.fl.map flD)),some (.lst (w.cs.map stD)),some (.lst (w.qs.map stD)),some (.tup [.int (qAt w.qs i).1,.int t]),none]):=by
   unfold gG
   rw [rE (f:=("flight",.int (qAt w.qs i).1)) (fs:=[("time",.int t)]) (by simp [e])]
   rfl
  simp only [flD] at ef
  simp [bW,jg,e1,kO,isND,ecf,s1,en,ef,h4,-List.map_map]
theorem B0 (n:Nat) (ns:List Int) (hns:ns.length<=63):∃cs:List fg,cs.length<=3/\(∀p∈cs,p.1<p.2)/\eN CR CP CN n [.lst (ns.map .int),.int 130]=.ok (.lst (cs.map stD)):=by
 obtain ⟨x,ex,hx⟩:=l8 CR CP CN n ns hns 130 (by omega) (by omega)
 obtain ⟨m,hm,em⟩:∃m:Nat,m<=3/\(x/64%4:Int)=m:=⟨(x/64%4).toNat,by omega,by omega⟩
 have k1: -4611686018427387904<=(m:Int):=by omega
 have k2:(m:Int)<4611686018427387904:=by omega
 obtain ⟨ρ',e,cs,y3,y4,y5,rfl,h1,h2⟩:=fU (p:=.nm 3) (g:=iL CR CP CN n)
  (fun i ρ=>∃(cs:List fg) (z3 z4 z5:Option Dat),ρ=[some (.lst (ns.map .int)),some (.int 130),some (.lst (cs.map stD)),z3,z4,z5]/\cs.length=i/\∀p∈cs,p.1<p.2) (br 0 m) 0 [some (.lst (ns.map .int)),some (.int 130),some (.lst []),none,none,none] ⟨[],none,none,none,rfl,rfl,by simp⟩ (by
  rintro i d ρ hd ⟨cs,z3,z4,z5,rfl,hr1,hr2⟩
  obtain ⟨hi,rfl⟩:=fq hd
  obtain ⟨y,ey,hy⟩:=l8 CR CP CN n ns hns (130+1+(i:Int)) (by omega) (by omega)
  have hl:cs.length<16777216:=by omega
  refine ⟨_,rfl,[some (.lst (ns.map .int)),some (.int 130),some (.lst ((cs++[(y/8%40,y/8%40+1+y/512%9)]).map stD)),some (.int (i:Int)),some (.int y),some (.int (y/8%40))],.inl ?_,_,_,_,_,rfl,by simp;omega,fun q hq=>?_⟩
  ·simp only [Int.reduceAdd] at ey
   simp [iL,ey,hl,stD]
  ·rcases List.mem_append.mp hq with z|z
   ·exact hr2 q z
   ·simp at z
    subst z
    show y/8%40<y/8%40+1+y/512%9
    omega)
 rw [Nat.zero_add,jq] at h1
 exact ⟨cs,by omega,h2,by simp [eN,km,ex,em,k1,k2,e]⟩
theorem swap_perm (l:List Int) (a:Nat) (h:a+1<l.length):(l.take a++[l[a+1],l[a]]++l.drop (a+2)).Perm l:=by
 have e:l=l.take a++(l[a]::l[a+1]::l.drop (a+2)):=by
  rw [<- List.drop_eq_getElem_cons,<- List.drop_eq_getElem_cons,List.take_append_drop]
 have:(l.take a++([l[a+1],l[a]]++l.drop (a+2))).Perm (l.take a++(l[a]::l[a+1]::l.drop (a+2))):=List.Perm.append (List.Perm.refl _) (List.Perm.swap _ _ _)
 rw [<- e,<- List.append_assoc] at this
 exact this
theorem cut_to (l:List Int) (a:Nat) (h:a<=l.length):mB (.lst (l.map .int)) none (some (a:Int))=.ok (.lst ((l.take a).map .int)):=by
 show Except.ok (Dat.lst (vn (l.map Dat.int) none (some (a:Int))))=_
 congr 2
 unfold vn cX
 dsimp only
 rw [if_neg (by omega),List.drop_zero,List.map_take,List.length_map,Nat.sub_zero,Int.toNat_natCast,Nat.min_eq_left h]
theorem cut_from (l:List Int) (a:Nat) (h:a<=l.length):mB (.lst (l.map .int)) (some (a:Int)) none=.ok (.lst ((l.drop a).map .int)):=by
 show Except.ok (Dat.lst (vn (l.map Dat.int) (some (a:Int)) none))=_
 congr 2
 unfold vn cX
 dsimp only
 rw [if_neg (by omega),List.length_map,Int.toNat_natCast,Nat.min_eq_left h,List.take_of_length_le (by simp),List.map_drop]
theorem yO (n:Nat) (a0 a3:Option Dat) (m:Nat) (hm:m<=40) (sh:Int) (ord:List Int) (hord:ord.length=m) (x tn:Int) (hx:0<=x) (ht:0<=tn/\tn<1000) (z7:Option Dat):∃(ord':List Int) (x':Int) (y7:Option Dat),ord'.Perm ord/\0<=x' /\
  bx CR CP CN n [a0,some (.int m),some (.int sh),a3,some (.lst (ord.map .int)),some (.int x),some (.int tn),z7]=.ok (.nx [a0,some (.int m),some (.int sh),a3,some (.lst (ord'.map .int)),some (.int x'),some (.int tn),y7]):=by
 obtain ⟨g,hg⟩:∃g:Int,g=kK ((m:Int)-1) 1:=⟨_,rfl⟩
 have hg1:=w9 ((m:Int)-1) 1
 rw [<- hg] at hg1
 have gp:0<g:=by omega
 have gl:g<18446744073709551616:=by omega
 have at0:0<=x%g:=Int.emod_nonneg _ (by omega)
 have at1:x%g<g:=Int.emod_lt_of_pos _ gp
 have hx':0<=x/g+tn*48271:=by
  have:=Int.ediv_nonneg hx (by omega:0<=g)
  omega
 by_cases h1:1<(m:Int)
 ·obtain ⟨a,ha,ea⟩:∃a:Nat,a+1<ord.length/\x%g=(a:Int):=⟨(x%g).toNat,by omega,by omega⟩
  have e1:oP (ord.map .int) (a:Int)=.ok (.int ord[a]):=by
   rw [iV (by simp;omega)]
   simp
  have e2:oP (ord.map .int) ((a:Int)+1)=.ok (.int ord[a+1]):=by
   have:=iV (ds:=ord.map Dat.int) (k:=a+1) (by simp;omega)
   rw [show (((a+1:Nat)):Int)=(a:Int)+1 by omega] at this
   rw [this]
   simp
  have c1:=cut_to ord a (by omega)
  have c2:=cut_from ord (a+2) (by omega)
  rw [show (((a+2:Nat)):Int)=(a:Int)+2 by omega] at c2
  have l1:(ord.take a).length+2<=16777216:=by rw [List.length_take];omega
  have l2:(ord.take a).length+2+(ord.drop (a+2)).length<=16777216:=by rw [List.length_take,List.length_drop];omega
  have step1:∀(p:Prop) [Decidable p],True:=fun _ _=>trivial
  by_cases k1:ord[a]-(a:Int)-1<=sh
  ·by_cases k2:(a:Int)+1-ord[a]<=sh
   ·by_cases k3:ord[a+1]-(a:Int)<=sh
    ·by_cases k4:(a:Int)-ord[a+1]<=sh
     ·refine ⟨ord.take a++[ord[a+1],ord[a]]++ord.drop (a+2),x/g+tn*48271,some (.int a),swap_perm ord a ha,hx',?_⟩
      generalize ord[a]=oa at *
      generalize ord[a+1]=ob at *
      generalize hta:(ord.take a)=ta at *
      generalize htb:(ord.drop (a+2))=tb at *
      simp [bx,<- hg,oB gp,rF gp gl,ea,bY,h1,e1,k1,k2,fV,e2,k3,k4,c1,c2,jO,l1,l2]
     ·exact ⟨ord,x/g+tn*48271,some (.int a),List.Perm.refl _,hx',by
       simp [bx,<- hg,oB gp,rF gp gl,ea,bY,h1,e1,k1,k2,fV,e2,k3,k4]⟩
    ·exact ⟨ord,x/g+tn*48271,some (.int a),List.Perm.refl _,hx',by
      simp [bx,<- hg,oB gp,rF gp gl,ea,bY,h1,e1,k1,k2,fV,e2,k3]⟩
   ·exact ⟨ord,x/g+tn*48271,some (.int a),List.Perm.refl _,hx',by
     simp [bx,<- hg,oB gp,rF gp gl,ea,bY,h1,e1,k1,k2]⟩
  ·exact ⟨ord,x/g+tn*48271,some (.int a),List.Perm.refl _,hx',by
    simp [bx,<- hg,oB gp,rF gp gl,ea,bY,h1,e1,k1]⟩
 ·exact ⟨ord,x/g+tn*48271,some (.int (x%g)),List.Perm.refl _,hx',by
   simp [bx,<- hg,oB gp,rF gp gl,bY,h1]⟩
theorem drawn_ok (n:Nat) (c:Int) (m:Nat) (hm:m<=40) (sh st:Int) (hst:1<=st/\st<=2):∃qs:List fg,(qs.map (·.1)).Perm (pz m)/\(∀p∈qs,0<=p.2/\p.2<st)/\cY CR CP CN n [.int c,.int m,.int sh,.int st]=.ok (.lst (qs.map stD)):=by
 have k1: -4611686018427387904<=(m:Int):=by omega
 have k2:(m:Int)<4611686018427387904:=by omega
 have k3: -4611686018427387904<=2*(m:Int):=by omega
 have k4:2*(m:Int)<4611686018427387904:=by omega
 have k5:(2*(m:Int)).toNat=2*m:=by omega
 have hx0:0<=c*69621%2305843009213693951:=Int.emod_nonneg _ (by decide)
 generalize hx:c*69621%2305843009213693951=x at hx0
 obtain ⟨ρ',e,ord,x',z6,z7,rfl,hp,hx'⟩:=fU (p:=.nm 6) (g:=bx CR CP CN n)
  (fun i ρ=>∃(ord:List Int) (x':Int) (z6 z7:Option Dat),ρ=[some (.int c),some (.int m),some (.int sh),some (.int st),some (.lst (ord.map .int)),some (.int x'),z6,z7]/\ord.Perm (pz m)/\0<=x') (br 0 (2*m)) 0 [some (.int c),some (.int m),some (.int sh),some (.int st),some (.lst ((pz m).map .int)),some (.int x),none,none] ⟨pz m,x,none,none,rfl,List.Perm.refl _,hx0⟩ (by
  rintro i d ρ hd ⟨ord,x',z6,z7,rfl,hp,hx'⟩
  obtain ⟨hi,rfl⟩:=fq hd
  have hl:=hp.length_eq
  rw [iP] at hl
  obtain ⟨ord',x2,y7,h1,h2,e⟩:=yO CR CP CN n (some (.int c)) (some (.int st)) m hm sh ord hl x' (i:Int) hx' (by omega) z7
  exact ⟨_,rfl,_,.inl e,ord',x2,_,_,rfl,h1.trans hp,h2⟩)
 have hl:=hp.length_eq
 rw [iP] at hl
 have st0:0<st:=by omega
 have hmem:∀i∈ord,0<=i/\i<m:=fun i hi=>dR.mp (hp.mem_iff.mp hi)
 have ec:∀l:List Int,(∀i∈l,0<=i/\i<m)->bE (.nm 0) lX (fL k8 (aa (ae 0) (aa (f2 j9 (f2 jO (f2 jG (ae 2) (fC (.int 2))) (f2 pM (f2 pM (ae 0) (ae 0)) (f2 j9 (ae 2) (fC (.int 7))))) (ae 1)) aZ))) [none,some (.int st),some (.int x')] (l.map .int)=.ok ((l.map fun i=>(i,(x'/2+i*i*(x'%7))%st)).map stD):=by
  intro l
  induction l with
  |nil=>intro _;rfl
  |cons i l ih=>
   intro h
   have hi:=h i (by simp)
   have ih:=ih fun j hj=>h j (by simp [hj])
   have q1: -18446744073709551616<i:=by omega
   have q2:i<18446744073709551616:=by omega
   have q3: -18446744073709551616<x'%7:=by omega
   have q4:x'%7<18446744073709551616:=by omega
   rw [List.map_cons,bE]
   simp only [List.map_cons]
   simp [q1,q2,q3,q4,oB st0,ih,stD]
 have ec:=ec ord hmem
 have s1:ord.length<=16777216:=by omega
 have sm:m<=16777216:=by omega
 refine ⟨ord.map fun i=>(i,(x'/2+i*i*(x'%7))%st),?_,fun p hp'=>?_,?_⟩
 ·rw [List.map_map]
  show (ord.map fun i=>i).Perm _
  rw [List.map_id']
  exact hp
 ·obtain ⟨i,_,rfl⟩:=List.mem_map.mp hp'
  exact ⟨Int.emod_nonneg _ (by omega),Int.emod_lt_of_pos _ st0⟩
 ·have hul:=iP m
  rw [i7] at e
  simp [cY,lx,k1,k2,k3,k4,k5,i7,hul,sm,hx,e,ec,s1,-List.map_map]
end
theorem xU (fl:List Fli):∀is:List Int,(∀i∈is,0<=i/\i<fl.length)->bE (.nm 0) lX (f2 ixD (ae 1) (ae 0)) [none,some (.lst (fl.map flD))] (is.map .int)=.ok ((is.map fun i=>fJ fl i).map flD)
 |[],_=>rfl
 |i::is,h=>by
  have ih:=xU fl is fun x hx=>h x (by simp [hx])
  obtain ⟨e,_⟩:=wj (h i (by simp)).1 (h i (by simp)).2
  rw [List.map_cons,bE]
  simp only [List.map_cons]
  simp [ih,e,-List.map_map]
noncomputable def cutF (f:Fli):Fli:=⟨f.kind,f.first,mC f.last 30,5,1⟩
theorem xV:∀fl:List Fli,bE (.nm 0) lX (fL k8 (aa (f2 ixD (ae 0) (fC (.int 0))) (aa (f2 ixD (ae 0) (fC (.int 1))) (aa (fL minD (aa (f2 ixD (ae 0) (fC (.int 2))) (aa (fC (.int 30)) aZ))) (aa (fC (.int 5)) (aa (fC (.int 1)) aZ)))))) [none] (fl.map flD)=.ok ((fl.map cutF).map flD)
 |[]=>rfl
 |f::fl=>by
  have ih:=xV fl
  rw [List.map_cons,bE]
  simp only [flD,cutF,List.map_cons] at ih ⊢
  simp [ih]
noncomputable def isD (is:List Int):Dat:=.lst (is.map .int)
section
variable (CR CP CN:Addr)
theorem ud (n:Nat) (hne:CR≠CP) {k:Nat} (hk1:1<=k) (hk6:k<=6) {rows:List (List Int)} {o:Option (List (List Int))} (hr:bz k rows) (ho:∀r2,o=some r2->bz k r2) {fl:List Fli} (hfl:∀f∈fl,mG k f) (hm:fl.length<=40) {cs:List fg} (hcl:cs.length<=3) (hcs:∀p∈cs,p.1<p.2) {is:List Int} {v lo hi:Int} (hc:tJ rows o fl is v lo hi) (c:Int) :
  ∃qs:List fg,cY CR CP CN n [.int c,.int fl.length,.int fl.length,.int (nS o)]=.ok (.lst (qs.map stD))/\bW CR CP CN n [aE CR CP rows (oD o),.lst (fl.map flD),.lst (cs.map stD),.lst (qs.map stD)]=.ok (.bl true):=by
 obtain ⟨qs,hp,h2,e⟩:=drawn_ok CR CP CN n c fl.length hm fl.length (nS o) (by cases o<;>simp [nS])
 refine ⟨qs,e,?_⟩
 have hl:qs.length=fl.length:=by have:=hp.length_eq;rw [List.length_map,iP] at this;exact this
 have hz:o=none->∀p∈qs,p.2=0:=fun z p hp'=>by
  have:=h2 p hp'
  rw [z] at this
  simp only [nS] at this
  omega
 obtain ⟨w,w1,w2,w3,w4,w5,w6,w7⟩:∃w:Wo,w.k=k/\w.rows=rows/\w.r2=o.getD []/\w.o=oD o/\w.fl=fl/\w.cs=cs/\w.qs=qs:=⟨⟨k,rows,o.getD [],oD o,fl,cs,qs⟩,rfl,rfl,rfl,rfl,rfl,rfl,rfl⟩
 have hqf:∀p∈qs,0<=p.1/\p.1<fl.length:=fun p hp'=>dR.mp (hp.mem_iff.mp (List.mem_map_of_mem hp'))
 have g:w.Good:=by
  refine ⟨by rw [w1];exact hk1,by rw [w1];exact hk6,by rw [w1,w2];exact hr,?_,by rw [w1,w5];exact hfl,by rw [w5];omega,by rw [w6];exact hcs,by rw [w6];omega,by rw [w7,w5];exact hqf,by rw [w7,w5];exact hl⟩
  rw [w1,w3,w4,w7]
  cases o with
  |none=>exact .inl ⟨rfl,hz rfl⟩
  |some r2=>exact .inr ⟨rfl,ho r2 rfl⟩
 have hno:∀ts,¬w.Bn ts:=fun ts=>no_least (w:=w) (o:=o) (is:=is) (v:=v) (lo:=lo) (hi:=hi) g (by rw [w7,w5];exact hp) (by
  rw [w3,w7]
  cases o with
  |none=>exact .inl ⟨rfl,hz rfl⟩
  |some r2=>exact .inr rfl) (by rw [w2,w5];exact hc) ts
 have:=yz CR CP CN n hne g hno
 rw [w2,w4,w5,w6,w7] at this
 exact this
theorem Ae (n:Nat) (hne:CR≠CP) {k:Nat} (hk1:1<=k) (hk6:k<=6) {rows:List (List Int)} {o:Option (List (List Int))} (hr:bz k rows) (ho:∀r2,o=some r2->bz k r2) {fl:List Fli} (hfl:∀f∈fl,mG k f) (hm:fl.length<=40) {cs:List fg} (hcl:cs.length<=3) (hcs:∀p∈cs,p.1<p.2) {is:List Int} (hil:is.length<=40) {v lo hi:Int} (hc:tJ rows o fl is v lo hi) (c:Int) (a4 z7 z8:Option Dat):∃y7 y8:Option Dat,
  gY CR CP CN n [some (aE CR CP rows (oD o)),some (.lst (fl.map flD)),some (.lst (cs.map stD)),some (isD is),a4,some (.int (nS o)),some (.int c),z7,z8]=.ok (.nx [some (aE CR CP rows (oD o)),some (.lst (fl.map flD)),some (.lst (cs.map stD)),some (isD is),a4,some (.int (nS o)),some (.int c),y7,y8]):=by
 obtain ⟨qs,e1,e2⟩:=ud CR CP CN n hne hk1 hk6 hr ho hfl hm hcl hcs hc c
 have hff:∀f∈(is.map fun i=>fJ fl i),mG k f:=fun f hf=>by
  obtain ⟨i,hi',rfl⟩:=List.mem_map.mp hf
  exact hfl _ (wj (hc.rng i hi').1 (hc.rng i hi').2).2
 obtain ⟨qs2,e3,e4⟩:=ud CR CP CN n hne hk1 hk6 hr ho hff (by rw [List.length_map];exact hil) hcl hcs hc.few (c/3)
 have ef:=xU fl is hc.rng
 have s1:is.length<=16777216:=by omega
 rw [List.length_map] at e3
 generalize (is.map fun i=>fJ fl i).map flD=fw at *
 have lf:fw.length=is.length:=by
  have:=congrArg (fun x:M (List Dat)=>match x with|.ok l=>l.length|.error _=>0) ef
  have e5:=gy (p:=.nm 0) (fe:=f2 ixD (ae 1) (ae 0)) (ρ0:=[none,some (.lst (fl.map flD))]) (fun d=>match d with|.int i=>flD (fJ fl i)|_=>.non) (is.map .int) (fun d hd=>by
   obtain ⟨i,hi',rfl⟩:=List.mem_map.mp hd
   exact ⟨_,rfl,by obtain ⟨e,_⟩:=wj (hc.rng i hi').1 (hc.rng i hi').2;simp [e]⟩)
  rw [ef] at e5
  cases e5
  simp
 refine ⟨some (.lst (qs2.map stD)),some (.lst fw),?_⟩
 simp [gY,isD,e1,nM,e2,ef,s1,lf,e3,nL,e4,-List.map_map]
theorem Af (n:Nat) (hne:CR≠CP) {k:Nat} (hk1:1<=k) (hk6:k<=6) {rows:List (List Int)} {o:Option (List (List Int))} (hr:bz k rows) (ho:∀r2,o=some r2->bz k r2) {fl:List Fli} (hfl:∀f∈fl,mG k f) (hm:fl.length<=40) {cs:List fg} (hcl:cs.length<=3) (hcs:∀p∈cs,p.1<p.2) {is:List Int} (hil:is.length<=40) {v lo hi:Int} (hc:tJ rows o fl is v lo hi) (cells:List Int) :
  fE CR CP CN n [aE CR CP rows (oD o),.lst (fl.map flD),.lst (cs.map stD),isD is,.lst (cells.map .int)]=.ok (.bl true):=by
 have hns:NS (oD o) (nS o):=by
  cases o with
  |none=>exact .inl ⟨rfl,rfl⟩
  |some r2=>exact .inr ⟨⟨r2,rfl⟩,rfl⟩
 have est:=tZ CR CP CN n hne (rows:=rows) hns (ae 0) [some (aE CR CP rows (oD o)),some (.lst (fl.map flD)),some (.lst (cs.map stD)),some (isD is),some (.lst (cells.map .int)),none,none,none,none] (by simp)
 obtain ⟨ρ',e,_⟩:=fU (p:=.nm 6) (g:=gY CR CP CN n)
  (fun i ρ=>∃z6 z7 z8:Option Dat,ρ=[some (aE CR CP rows (oD o)),some (.lst (fl.map flD)),some (.lst (cs.map stD)),some (isD is),some (.lst (cells.map .int)),some (.int (nS o)),z6,z7,z8]) (cells.map .int) 0 [some (aE CR CP rows (oD o)),some (.lst (fl.map flD)),some (.lst (cs.map stD)),some (isD is),some (.lst (cells.map .int)),some (.int (nS o)),none,none,none] ⟨none,none,none,rfl⟩ (by
  rintro i d ρ hd ⟨z6,z7,z8,rfl⟩
  obtain ⟨c,_,rfl⟩:=List.mem_map.mp (List.mem_of_getElem? hd)
  obtain ⟨y7,y8,et⟩:=Ae CR CP CN n hne hk1 hk6 hr ho hfl hm hcl hcs hil hc c (some (.lst (cells.map .int))) z7 z8
  exact ⟨_,rfl,_,.inl et,_,_,_,rfl⟩)
 simp [fE,n4,est,e]
theorem zI (n:Nat) (m:Nat) (hm:m<=40):∀ns:List Int,∃sets:List (List Int),(∀is∈sets,Some' m is)/\sets.length=ns.length/\bE (.nm 0) lX (fL (fD CR CP CN n) (aa (f2 j9 (ae 0) (f2 powD (fC (.int 10)) (fC (.int 24)))) (aa (ae 1) aZ))) [none,some (.int m)] (ns.map .int)=.ok (sets.map isD)
 |[]=>⟨[],by simp,rfl,rfl⟩
 |x::ns=>by
  obtain ⟨sets,h1,h2,e⟩:=zI n m hm ns
  obtain ⟨is,h3,e2⟩:=some_ok CR CP CN n (x%1000000000000000000000000) m hm
  refine ⟨is::sets,fun y hy=>?_,by simp [h2],?_⟩
  ·rcases List.mem_cons.mp hy with z|z
   ·rw [z];exact h3
   ·exact h1 y z
  ·rw [List.map_cons,bE]
   simp [e2,e,isD]
theorem xX (n:Nat) (ns:List Int) (hns:ns.length<=63):∀ks:List Int,(∀k∈ks,0<=k/\k<100)->∃cells:List Int,bE (.nm 0) lX (fL (aJ CR CP CN n) (aa (ae 1) (aa (f2 jO (fC (.int 150)) (ae 0)) aZ))) [none,some (.lst (ns.map .int))] (ks.map .int)=.ok (cells.map .int)
 |[],_=>⟨[],rfl⟩
 |x::ks,h=>by
  obtain ⟨cells,e⟩:=xX n ns hns ks fun y hy=>h y (by simp [hy])
  have hx:=h x (by simp)
  obtain ⟨y,e2,_⟩:=l8 CR CP CN n ns hns (150+x) (by omega) (by omega)
  refine ⟨y::cells,?_⟩
  rw [List.map_cons,bE]
  simp [e2,e]
theorem take8 (ns:List Int):mB (.lst (ns.map .int)) none (some 8)=.ok (.lst ((ns.take 8).map .int)):=by
 show Except.ok (Dat.lst (vn (ns.map Dat.int) none (some 8)))=_
 congr 2
 unfold vn cX
 dsimp only
 rw [if_neg (by omega),List.drop_zero,List.map_take,List.length_map,Nat.sub_zero]
 by_cases h:ns.length<=8
 ·rw [List.take_of_length_le,List.take_of_length_le]<;>simp<;>omega
 ·congr 1
  omega
theorem law_true (hne:CR≠CP):∀ns:List Int,ns.length<=63->∃n,m_law CR CP CN n [.lst (ns.map .int)]=.ok (.bl true):=by
 intro ns hns
 refine ⟨64,?_⟩
 obtain ⟨x0,c0,p0⟩:=wB CR CP CN 64 ns 0
 obtain ⟨x1,c1,p1⟩:=wB CR CP CN 64 ns 1
 obtain ⟨x2,c2,p2⟩:=wB CR CP CN 64 ns 2
 simp only [Int.cast_ofNat_Int,Int.natCast_zero,Int.natCast_one] at c0 c1 c2
 obtain ⟨k,hk1,hk3,ek⟩:∃k:Nat,1<=k/\k<=3/\(1+x0*16807%2147483647%3:Int)=k:=⟨(1+x0*16807%2147483647%3).toNat,by omega,by omega,by omega⟩
 obtain ⟨m,hm,em⟩:∃m:Nat,m<=24/\(2+x1*39373%2147483629%8:Int)=m:=⟨(2+x1*39373%2147483629%8).toNat,by omega,by omega⟩
 obtain ⟨rows,hr,eg⟩:=AD CR CP CN 64 ns hns 3 k (by omega) (by omega) (by omega)
 obtain ⟨rb,hrb,egb⟩:=AD CR CP CN 64 ns hns 41 k (by omega) (by omega) (by omega)
 have ech:=rO CR CP CN 64 k rows hk1 (by omega) hr
 have echb:=rO CR CP CN 64 k rb hk1 (by omega) hrb
 obtain ⟨fl0,hfl0,hgf0,ef⟩:=yI CR CP CN 64 ns hns k 80 m hk1 (by omega) (by omega) (by omega)
 obtain ⟨o,ho,eo⟩:∃o:Option (List (List Int)),(∀r2,o=some r2->bz k r2)/\tx CR CP CN 64 [some (.lst (ns.map .int)),some (.int k),some (.int m),some (aV rows),some (aE CR CP rows .non),none,none,none,none,none,none]=.ok (.nx [some (.lst (ns.map .int)),some (.int k),some (.int m),some (aV rows),some (aE CR CP rows (oD o)),none,none,none,none,none,none]):=by
  by_cases h:x2%2=1
  ·refine ⟨some rb,fun r2 e=>by cases e;exact hrb,?_⟩
   have enp:newP CP (aC CR CP CN 64) [aV rows,aV rb]=.ok (aE CR CP rows (aV rb)):=by
    have ht:twoL (aV rows) (aV rb)=true:=by simp [twoL,aV,hr.1,hrb.1]
    show _=Except.ok (Dat.ins CP [("gaps",aV rows),("beside",aV rb)])
    simp [newP,ech,echb,ht]
   simp [tx,c2,h,egb,enp,oD]
  ·exact ⟨none,fun r2 e=>by (cases e),by simp [tx,c2,h,oD]⟩
 have enr:newR CR (aC CR CP CN 64) [aV rows]=.ok (aE CR CP rows .non):=by
  simp [newR,ech,aE]
 obtain ⟨fl,hfl,hgf,e3⟩:∃fl:List Fli,fl.length=m/\(∀f∈fl,mG k f)/\tw CR CP CN 64 [some (.lst (ns.map .int)),some (.int k),some (.int m),some (aV rows),some (aE CR CP rows (oD o)),some (.lst (fl0.map flD)),none,none,none,none,none]=.ok (.nx [some (.lst (ns.map .int)),some (.int k),some (.int m),some (aV rows),some (aE CR CP rows (oD o)),some (.lst (fl.map flD)),none,none,none,none,none]):=by
  by_cases h:x2/2%2=1
  ·refine ⟨fl0.map cutF,by rw [List.length_map,hfl0],fun f hf=>?_,?_⟩
   ·obtain ⟨g,hg,rfl⟩:=List.mem_map.mp hf
    obtain ⟨g1,g2⟩:=hgf0 g hg
    have mz:=Aj g.last 30
    have gf:=g1.f1
    have gl:=g1.l1
    exact ⟨g1.k0,g1.k1,g1.f0,by show g.first<=mC g.last 30;omega,by show mC g.last 30<=1000000000;omega,by show (0:Int)<=5;omega,by show (5:Int)<=1000000000;omega,by show (0:Int)<=1;omega,by show (1:Int)<=1000000000;omega⟩
   ·have ec:=xV fl0
    have s1:fl0.length<=16777216:=by omega
    simp [tw,c2,h,ec,s1,-List.map_map]
  ·exact ⟨fl0,hfl0,fun f hf=>(hgf0 f hf).1,by simp [tw,c2,h]⟩
 have hkd:∀f∈fl,0<=f.kind/\f.kind<k:=fun f hf=>⟨(hgf f hf).k0,(hgf f hf).k1⟩
 obtain ⟨cs,hcl,hcs,ecl⟩:=B0 CR CP CN 64 ns hns
 obtain ⟨sets,hsets,hsl,ese⟩:=zI CR CP CN 64 m (by omega) (ns.take 8)
 obtain ⟨cells,ece⟩:=xX CR CP CN 64 ns hns (pz 6) fun k hk=>by have:=dR.mp hk;omega
 have t8:=take8 ns
 have hiss:∀is:List Int,∃b:Bool,(∀j∈is,0<=j/\j<fl.length)->is.Nodup->is.length<64->bK CR CP CN 64 [aE CR CP rows (oD o),.lst (fl.map flD),.lst (is.map .int)]=.ok (.bl b)/\(b=true->∃v lo hi,tJ rows o fl is v lo hi):=fun is=>by
  by_cases h:(∀j∈is,0<=j/\j<fl.length)/\is.Nodup/\is.length<64
  ·obtain ⟨b,e1,e2⟩:=crowd_is CR CP CN 64 hne hr ho hkd h.1 h.2.1 h.2.2
   exact ⟨b,fun _ _ _=>⟨e1,e2⟩⟩
  ·exact ⟨false,fun h1 h2 h3=>absurd ⟨h1,h2,h3⟩ h⟩
 obtain ⟨cr,hcr⟩:=Classical.skolem.mp hiss
 have ew:=crowd_ok CR CP CN 64 (fl:=fl) (rd:=aE CR CP rows (oD o)) (cr:=cr) (by omega) fun is h1 h2 h3=>(hcr is h1 h2 h3).1
 have hx:answer cr fl=none\/∃a b:Int,answer cr fl=some (isD (btw fl a b))/\cr (btw fl a b)=true:=by
  cases h:answer cr fl with
  |none=>exact .inl rfl
  |some r=>
   unfold answer at h
   obtain ⟨a,_,h1⟩:=List.exists_of_findSome?_eq_some h
   obtain ⟨b,_,h2⟩:=List.exists_of_findSome?_eq_some h1
   unfold cw at h2
   split at h2
   ·rename_i hc
    cases h2
    exact .inr ⟨a,b,rfl,hc⟩
   ·cases h2
 have e4:tu CR CP CN 64 [some (.lst (ns.map .int)),some (.int k),some (.int m),some (aV rows),some (aE CR CP rows (oD o)),some (.lst (fl.map flD)),some (.lst (cs.map stD)),some (.lst (sets.map isD)),some (.lst (cells.map .int)),some (told (answer cr fl)),none]=.ok (.nx [some (.lst (ns.map .int)),some (.int k),some (.int m),some (aV rows),some (aE CR CP rows (oD o)),some (.lst (fl.map flD)),some (.lst (cs.map stD)),some (.lst (sets.map isD)),some (.lst (cells.map .int)),some (told (answer cr fl)),none]):=by
  rcases hx with h|⟨a,b,h,hc⟩
  ·rw [h]
   simp [tu,told,Ac]
  ·obtain ⟨e1,e2⟩:=hcr (btw fl a b) (btw_in fl a b) (v3 fl a b) (by have:=wY fl a b;omega)
   rw [hc] at e1
   obtain ⟨v,lo,hi,hC⟩:=e2 hc
   have en:=Af CR CP CN 64 hne hk1 (by omega) hr ho hgf (by omega) hcl hcs (by have:=wY fl a b;omega) hC cells
   rw [h]
   simp only [isD] at en
   simp [tu,told,isD,Ac,B8,e1,notBD,en]
 obtain ⟨ρ',e5,_⟩:=fU (p:=.nm 10) (g:=tE CR CP CN 64)
  (fun i ρ=>∃z10:Option Dat,ρ=[some (.lst (ns.map .int)),some (.int k),some (.int m),some (aV rows),some (aE CR CP rows (oD o)),some (.lst (fl.map flD)),some (.lst (cs.map stD)),some (.lst (sets.map isD)),some (.lst (cells.map .int)),some (told (answer cr fl)),z10]) (sets.map isD) 0 _ ⟨none,rfl⟩ (by
  rintro i d ρ hd ⟨z10,rfl⟩
  obtain ⟨is,his,rfl⟩:=List.mem_map.mp (List.mem_of_getElem? hd)
  obtain ⟨i1,i2,i3⟩:=hsets is his
  obtain ⟨e1,e2⟩:=hcr is (by rw [hfl];exact i2) i1 (by omega)
  refine ⟨_,rfl,_,.inl ?_,some (isD is),rfl⟩
  cases hb:cr is with
  |false=>
   rw [hb] at e1
   simp [tE,wC,isD,e1]
  |true=>
   rw [hb] at e1
   obtain ⟨v,lo,hi,hC⟩:=e2 hb
   have en:=Af CR CP CN 64 hne hk1 (by omega) hr ho hgf (by omega) hcl hcs (by omega) hC cells
   simp only [isD] at en
   simp [tE,wC,isD,e1,en])
 have er:br 0 6=(pz 6).map .int:=i7 6
 have s1:min 8 ns.length<=16777216:=by omega
 rw [List.map_take] at ese t8
 simp [m_law,g_law,c0,ek,c1,em,eg,enr,eo,ef,e3,ecl,t8,ese,s1,er,iP,ece,ew,e4,e5]
end
theorem fin_mk {P:Program} {w:World} {K:PySem.W.Frag} {mg:Str->Option Value} {st:Stmt} {ps:List Str} {f:Addr} {fd:FuncData} {k:Nat} (_:Def K mg "law" st ps f fd) (hb:∀(s:Shared) (v:Value),BindsTo s fd ⟨[v],[]⟩ [("_law_script",v)]) (h:∀base:Heap,cu P w K mg base CX0 k f fd ["_law_script"] (ym K)):∃fd:FuncData,(∀(s:Shared) (v:Value),BindsTo s fd ⟨[v],[]⟩ [("_law_script",v)])/\∀base:Heap,K.In base->base.Ns mainGlobals mg->cu P w K mg base CX0 k f fd ["_law_script"] (ym K):=⟨fd,hb,fun base _ _=>h base⟩
theorem all_mk {l:PySem.W.OpenLaw} {w:World} {K:PySem.W.Frag} {h:Heap} {mg:Str->Option Value} {fa CR CP ax az aR aY yM f_nR f_nP CN qL:Addr} {mm my mQ ni qG qR sF tG od_law an_law od_nR an_nR od_nP an_nP od_nCN an_nCN:Option Addr} {mf mH qt sk sl_law sl_nR sl_nP sl_nCN:Array (Option Value)} {mn mq mw mi gJ mx mS mU nc mK iH ng qH qJ qO qz mF qP sG sO t9 sv nJ tf oc_law kV_law dc_law pm_law cd_law ct_law oc_nR kV_nR dc_nR pm_nR cd_nR ct_nR oc_nP kV_nP dc_nP pm_nP cd_nP ct_nP oc_nCN kV_nCN dc_nCN pm_nCN cd_nCN ct_nCN:Value} {qq tY:Tok} (KX:K.In h) (G:h.Ns mainGlobals mg) (hfa:mg "law"=some (.ref fa))
  (Bb:nsIn K mainGlobals "Rules"=some (some (.ref CR)))
  (wH:PySem.W.plainGet K CR Str.empty=true)
  (wK:PySem.W.hasDictIn K CR=true)
  (wG:plainOver K CR=true)
  (wF:PySem.W.findIn K (.ref CR) "__setattr__"=some (some (.builtin "object.__setattr__")))
  (wI:PySem.W.makesIn K CR=true)
  (wJ:keepIn K (.ref CR)=true)
  (wM:PySem.W.findIn K (.ref CR) "__class__"=some (some (.builtin "object.__class__")))
  (wL:PySem.W.mroIn K CR (.type "object")=some true)
  (ny:PySem.W.findIn K (.ref CR) "gaps"=some none)
  (pL:PySem.W.findIn K (.ref CR) "beside"=some none)
  (Bc:nsIn K mainGlobals "Pair"=some (some (.ref CP)))
  (wQ:PySem.W.plainGet K CP Str.empty=true)
  (wV:PySem.W.hasDictIn K CP=true)
  (wO:plainOver K CP=true)
  (wN:PySem.W.findIn K (.ref CP) "__setattr__"=some (some (.builtin "object.__setattr__")))
  (wR:PySem.W.makesIn K CP=true)
  (wU:keepIn K (.ref CP)=true)
  (wX:PySem.W.findIn K (.ref CP) "__class__"=some (some (.builtin "object.__class__")))
  (wW:PySem.W.mroIn K CP (.type "object")=some true)
  (l9:PySem.W.findIn K (.ref CP) "gaps"=some none)
  (k7:PySem.W.findIn K (.ref CP) "beside"=some none)
  (o2:specialIn K (.builtin "object.__class__") "__get__"=some (some (.builtin "getset_descriptor.__get__")))
  (o3:takesIn K (.builtin "object.__class__")=some true)
  (x_ne:CR≠CP)
  (kh:∃f fd,Def K mg "_law_number" cy ["_law_script","_law_k"] f fd)
  (mZ:∃f fd,Def K mg "_law_gaps" jX ["_law_script","_law_start","_law_kinds"] f fd)
  (kg:∃f fd,Def K mg "copied_rows" gL ["rows"] f fd)
  (sR:∃f fd,Def K mg "is_gap" oW ["number"] f fd)
  (lq:∃f fd,Def K mg "is_gap_row" iR ["row","kinds"] f fd)
  (ja:∃f fd,Def K mg "checked_rows" dB ["rows"] f fd)
  (jc:∃f fd,Def K mg "_law_flights" fO ["_law_script","_law_start","_law_kinds","_law_many"] f fd)
  (ki:∃f fd,Def K mg "_law_closed" gM ["_law_script","_law_start"] f fd)
  (fG:∃f fd,Def K mg "flights_between" dh ["flights","first","last"] f fd)
  (oh:∃f fd,Def K mg "pairs_of" lQ ["kinds"] f fd)
  (ee:PySem.W.findIn K (.ref CR) "many_strips"=some (some (.ref ax)))
  (dZ:PySem.W.isFn K (.ref ax)=true)
  (dX:K.lookup ax=some ⟨mn,mm,.func (fnOf "many_strips" "Rules.many_strips" (cN aN) (bX aN) (ao aN) .none mq mw mi my gJ mx),mf⟩)
  (e9:codeIn K gJ "Rules.many_strips"=true)
  (dY:keepIn K (.ref ax)=true)
  (f9:PySem.W.findIn K (.ref CP) "many_strips"=some (some (.ref az)))
  (eR:PySem.W.isFn K (.ref az)=true)
  (eO:K.lookup az=some ⟨mS,mQ,.func (fnOf "many_strips" "Pair.many_strips" (cN aT) (bX aT) (ao aT) .none mU nc mK ni iH ng),mH⟩)
  (f6:codeIn K iH "Pair.many_strips"=true)
  (eP:keepIn K (.ref az)=true)
  (kz:PySem.W.findIn K (.ref CR) "apart"=some (some (.ref aR)))
  (ke:PySem.W.isFn K (.ref aR)=true)
  (kb:K.lookup aR=some ⟨qH,qG,.func (fnOf "apart" "Rules.apart" (cN bQ) (bX bQ) (ao bQ) .none qJ qO qz qR mF qP),qt⟩)
  (ko:codeIn K mF "Rules.apart"=true)
  (kc:keepIn K (.ref aR)=true)
  (lK:PySem.W.findIn K (.ref CP) "apart"=some (some (.ref aY)))
  (lp:PySem.W.isFn K (.ref aY)=true)
  (lg:K.lookup aY=some ⟨sG,sF,.func (fnOf "apart" "Pair.apart" (cN cm) (bX cm) (ao cm) .none sO t9 sv tG nJ tf),sk⟩)
  (lE:codeIn K nJ "Pair.apart"=true)
  (lj:keepIn K (.ref aY)=true)
  (kf:∃f fd,Def K mg "least_apart" gK ["rules","kinds"] f fd)
  (oi:∃f fd,Def K mg "is_crowd" jo ["rules","flights","some"] f fd)
  (oj:∃f fd,Def K mg "crowd_of" lR ["rules","flights"] f fd)
  (mX:∃f fd,Def K mg "_law_some" jV ["_law_cell","_law_many"] f fd)
  (jd:∃f fd,Def K mg "_law_cell_at" fP ["_law_script","_law_k"] f fd)
  (lr:∃f fd,Def K mg "_law_drawn" iS ["_law_cell","_law_many","_law_shift","_law_strips"] f fd)
  (og:∃f fd,Def K mg "spots_of" lP ["flights","plan"] f fd)
  (eS:∃f fd,Def K mg "joined_stretches" cO ["closed"] f fd)
  (mV:∃f fd,Def K mg "next_open" jT ["closed","time"] f fd)
  (mW:∃f fd,Def K mg "gap_times" jU ["rules","spots","times","place"] f fd)
  (o9:∃f fd,Def K mg "times_of" lO ["rules","flights","closed","plan"] f fd)
  (jb:∃f fd,Def K mg "_law_no_time" fN ["_law_rules","_law_flights_here","_law_closed_here","_law_plan"] f fd)
  (mY:∃f fd,Def K mg "_law_none" jW ["_law_rules","_law_flights_here","_law_closed_here","_law_some_here","_law_cells"] f fd)
  (a_law:nsIn K mainGlobals "law"=some (some (.ref yM)))
  (l_law:K.lookup yM=some ⟨oc_law,od_law,.func (fnOf "law" "law" (cN yp) (bX yp) (ao yp) .none kV_law dc_law pm_law an_law cd_law ct_law),sl_law⟩)
  (d_law:codeIn K cd_law "law"=true)
  (k_law:keepIn K (.ref yM)=true)
  (a_nR:PySem.W.findIn K (.ref CR) "__init__"=some (some (.ref f_nR)))
  (i_nR:PySem.W.isFn K (.ref f_nR)=true)
  (l_nR:K.lookup f_nR=some ⟨oc_nR,od_nR,.func (fnOf "__init__" "Rules.__init__" (cN s_nR) (bX s_nR) (ao s_nR) .none kV_nR dc_nR pm_nR an_nR cd_nR ct_nR),sl_nR⟩)
  (d_nR:codeIn K cd_nR "Rules.__init__"=true)
  (k_nR:keepIn K (.ref f_nR)=true)
  (a_nP:PySem.W.findIn K (.ref CP) "__init__"=some (some (.ref f_nP)))
  (i_nP:PySem.W.isFn K (.ref f_nP)=true)
  (l_nP:K.lookup f_nP=some ⟨oc_nP,od_nP,.func (fnOf "__init__" "Pair.__init__" (cN s_nP) (bX s_nP) (ao s_nP) .none kV_nP dc_nP pm_nP an_nP cd_nP ct_nP),sl_nP⟩)
  (d_nP:codeIn K cd_nP "Pair.__init__"=true)
  (k_nP:keepIn K (.ref f_nP)=true)
  (x_s1:specialIn K (.ref CR) "__getattribute__"=some (some (.builtin "type.__getattribute__")))
  (x_s2:PySem.W.readsIn K CR (.type "type")=true)
  (x_s3:PySem.W.findCls K (.ref CR) (.type "type") "__init__"=some (.val (.ref f_nR)))
  (xg:nsIn K mainGlobals "NoTime"=some (some (.ref CN)))
  (a_nCN:PySem.W.findIn K (.ref CN) "__init__"=some (some (.ref qL)))
  (i_nCN:PySem.W.isFn K (.ref qL)=true)
  (l_nCN:K.lookup qL=some ⟨oc_nCN,od_nCN,.func (fnOf "__init__" "NoTime.__init__" (cN vJ) (bX vJ) (ao vJ) .none kV_nCN dc_nCN pm_nCN an_nCN cd_nCN ct_nCN),sl_nCN⟩)
  (d_nCN:codeIn K cd_nCN "NoTime.__init__"=true)
  (k_nCN:keepIn K (.ref qL)=true)
  (rZ:oQ K CN [.type "ValueError",.type "Exception",.type "BaseException",.type "object"] "ValueError.__new__" qL=true)
  (vw:keepIn K (.ref CN)=true)
  (vz:PySem.W.findIn K (.ref CN) "__getattribute__"=some (some (.builtin "BaseException.__getattribute__")))
  (vA:PySem.W.findIn K (.ref CN) "__class__"=some (some (.builtin "object.__class__")))
  (vy:PySem.W.findIn K (.ref CN) "__getattr__"=some none)
  (vB:PySem.W.mroIn K CN (.type "BaseException")=some true)
  (vv:PySem.W.mroIn K CN (.type "object")=some true)
  (vx:(PySem.W.clsIn K CN).isSome=true)
  (rY:PySem.W.findIn K (.ref CN) "__setattr__"=some (some (.builtin "object.__setattr__")))
  (s9:((PySem.W.clsIn K CN).any fun cd=>pw cd.mro&&cd.hasDict)=true)
  (kT:PySem.W.findIn K (.ref CN) "flight"=some none)
  (nV:PySem.W.findIn K (.ref CN) "time"=some none)
  (yg:nsIn K mainGlobals "all"=some none)
  (tO:nsIn K mainGlobals "bool"=some none)
  (fj:nsIn K mainGlobals "enumerate"=some none)
  (ze:nsIn K mainGlobals "int"=some none)
  (cT:nsIn K mainGlobals "isinstance"=some none)
  (kS:nsIn K mainGlobals "len"=some none)
  (oK:nsIn K mainGlobals "list"=some none)
  (rX:nsIn K mainGlobals "max"=some none)
  (vq:nsIn K mainGlobals "min"=some none)
  (dU:nsIn K mainGlobals "range"=some none)
  (vp:nsIn K mainGlobals "set"=some none)
  (iO:nsIn K mainGlobals "sorted"=some none)
  (dH:nsIn K mainGlobals "GREATEST_GAP"=some (some (.int 1000000 qq)))
  (gc:nsIn K mainGlobals "MOST_KINDS"=some (some (.int 6 tY)))
  (l5:kitOne K (.type "int") (.type "int")=some true)
  (jz:kitOne K (.type "bool") (.type "int")=some true)
  (jv:kitOne K (.type "list") (.type "int")=some false)
  (i9:kitOne K (.type "tuple") (.type "int")=some false)
  (l3:kitOne K (.type "str") (.type "int")=some false)
  (dD:kitOne K (.type "NoneType") (.type "int")=some false)
  (jx:kitOne K (.type "int") (.type "bool")=some false)
  (ik:kitOne K (.type "bool") (.type "bool")=some true)
  (ie:kitOne K (.type "list") (.type "bool")=some false)
  (g6:kitOne K (.type "tuple") (.type "bool")=some false)
  (jt:kitOne K (.type "str") (.type "bool")=some false)
  (cV:kitOne K (.type "NoneType") (.type "bool")=some false)
  (jw:kitOne K (.type "int") (.type "list")=some false)
  (ij:kitOne K (.type "bool") (.type "list")=some false)
  (ic:kitOne K (.type "list") (.type "list")=some true)
  (g5:kitOne K (.type "tuple") (.type "list")=some false)
  (jr:kitOne K (.type "str") (.type "list")=some false)
  (cU:kitOne K (.type "NoneType") (.type "list")=some false)
  (ig:kitOne K (.type "int") (.type "tuple")=some false)
  (g8:kitOne K (.type "bool") (.type "tuple")=some false)
  (g7:kitOne K (.type "list") (.type "tuple")=some false)
  (eJ:kitOne K (.type "tuple") (.type "tuple")=some true)
  (ib:kitOne K (.type "str") (.type "tuple")=some false)
  (cF:kitOne K (.type "NoneType") (.type "tuple")=some false)
  (l4:kitOne K (.type "int") (.type "str")=some false)
  (jy:kitOne K (.type "bool") (.type "str")=some false)
  (ju:kitOne K (.type "list") (.type "str")=some false)
  (i8:kitOne K (.type "tuple") (.type "str")=some false)
  (l0:kitOne K (.type "str") (.type "str")=some true)
  (dC:kitOne K (.type "NoneType") (.type "str")=some false) :
  ∃fd:FuncData,(∀(s:Shared) (v:Value),BindsTo s fd ⟨[v],[]⟩ [("_law_script",v)])/\∀base:Heap,K.In base->base.Ns mainGlobals mg->cu l.prog w K mg base CX0 7 fa fd ["_law_script"] (ym K):=by
 have e:=hfa.symm.trans (mg_of KX G a_law)
 cases e
 have K_CR:=kls_of (mg:=mg) KX G Bb wH wK wG wF wI wJ wM o2 o3 wL
 have K_CP:=kls_of (mg:=mg) KX G Bc wQ wV wO wN wR wU wX o2 o3 wW
 obtain ⟨bh,aW,cD⟩:=kh
 obtain ⟨iE,gn,kJ⟩:=mZ
 obtain ⟨eY,dJ,hW⟩:=kg
 obtain ⟨nF,lz,pk⟩:=sR
 obtain ⟨gq,eV,j5⟩:=lq
 obtain ⟨bw,bf,aG⟩:=ja
 obtain ⟨dO,d7,fZ⟩:=jc
 obtain ⟨eZ,dM,hX⟩:=ki
 obtain ⟨cj,bT,dq⟩:=fG
 obtain ⟨jJ,iw,m9⟩:=oh
 have cE:=pN (C:=CR) (st:=aN) (ps:=["self"]) ee dZ dX e9 dY fun _ _ _ _ _ _ us hl=>match us,hl with|[_],_=>rfl
 have cS:=pN (C:=CP) (st:=aT) (ps:=["self"]) f9 eR eO f6 eP fun _ _ _ _ _ _ us hl=>match us,hl with|[_],_=>rfl
 have hZ:=pN (C:=CR) (st:=bQ) (ps:=["self","one","other"]) kz ke kb ko kc fun _ _ _ _ _ _ us hl=>match us,hl with|[_,_,_],_=>rfl
 have j7:=pN (C:=CP) (st:=cm) (ps:=["self","one","other"]) lK lp lg lE lj fun _ _ _ _ _ _ us hl=>match us,hl with|[_,_,_],_=>rfl
 obtain ⟨eX,dI,hV⟩:=kf
 obtain ⟨fK,e8,jP⟩:=oi
 obtain ⟨jK,iy,ma⟩:=oj
 obtain ⟨iB,gk,kH⟩:=mX
 obtain ⟨dP,d8,g0⟩:=jd
 obtain ⟨gu,eW,j6⟩:=lr
 obtain ⟨jI,iu,m8⟩:=og
 obtain ⟨bV,bM,cR⟩:=eS
 obtain ⟨iz,gd,kF⟩:=mV
 obtain ⟨iA,gh,kG⟩:=mW
 obtain ⟨jH,ir,m7⟩:=o9
 obtain ⟨dN,d6,fY⟩:=jb
 obtain ⟨iC,gm,kI⟩:=mY
 have D_law:=cP (mg:=mg) (st:=yp) (ps:=["_law_script"]) KX G a_law l_law d_law k_law fun _ _ _ _ _ _ us hl=>match us,hl with|[_],_=>rfl
 have gD:=hZ
 have gE:=j7
 have bC:=cE
 have bD:=cS
 have N_R:=pN (C:=CR) (st:=s_nR) (ps:=["self","gaps"]) a_nR i_nR l_nR d_nR k_nR fun _ _ _ _ _ _ us hl=>match us,hl with|[_,_],_=>rfl
 have N_P:=pN (C:=CP) (st:=s_nP) (ps:=["self","gaps","beside"]) a_nP i_nP l_nP d_nP k_nP fun _ _ _ _ _ _ us hl=>match us,hl with|[_,_,_],_=>rfl
 have N_CN:=pN (C:=CN) (st:=vJ) (ps:=["self","flight","time"]) a_nCN i_nCN l_nCN d_nCN k_nCN fun _ _ _ _ _ _ us hl=>match us,hl with|[_,_,_],_=>rfl
 have XCN:XMk K mg "NoTime" CN qL:=⟨mg_of KX G xg,rZ,beq_iff_eq.mp i_nCN,vw⟩
 have Z:Zs K mg CR CP CN:=⟨⟨mg_of KX G xg,xnamed2 rZ,⟨vz,vA,vy,vB,vv,Option.isSome_iff_exists.mp vx⟩⟩,⟨rY,kT,s9⟩,⟨rY,nV,s9⟩,K_CR,K_CP,(by intro C h;simp only [List.mem_cons,List.not_mem_nil,or_false] at h;exact h.elim (fun e=>by subst e;exact ⟨K_CR.cl,ny⟩) (fun e=>by subst e;exact ⟨K_CP.cl,l9⟩)),(by intro C h;simp only [List.mem_cons,List.not_mem_nil,or_false] at h;subst h;exact ⟨K_CP.cl,k7⟩),mg_none_of KX G yg,mg_none_of KX G tO,mg_none_of KX G fj,mg_none_of KX G ze,mg_none_of KX G cT,mg_none_of KX G kS,mg_none_of KX G oK,mg_none_of KX G rX,mg_none_of KX G vq,mg_none_of KX G dU,mg_none_of KX G vp,mg_none_of KX G iO,⟨_,mg_of KX G dH⟩,⟨_,mg_of KX G gc⟩,⟨l5,jz,jv,i9,l3,dD,jx,ik,ie,g6,jt,cV,jw,ij,ic,g5,jr,cU,ig,g8,g7,eJ,ib,cF,l4,jy,ju,i8,l0,dC⟩⟩
 refine fin_mk D_law (fun s v=>.of_eq rfl) fun base=>law_ok (ro:=false) (mlaw:=m_law CR CP CN) (fun n=>?_) (law_true CR CP CN x_ne)
 have Bm:=okn_CN (P:=l.prog) (w:=w) (base:=base) (mg:=mg) N_CN.fn Z.aCN_flight Z.aCN_time
 have fX:=qD (n:=n) (P:=l.prog) (w:=w) (base:=base) Z cD
 have vk:=uv (n:=n) (P:=l.prog) (w:=w) (base:=base) Z ⟨cD,fX⟩ kJ
 have qT:=qC (n:=n) (P:=l.prog) (w:=w) (base:=base) Z hW
 have Bl:=A8 (n:=n) (P:=l.prog) (w:=w) (base:=base) Z pk
 have tH:=sC (n:=n) (P:=l.prog) (w:=w) (base:=base) Z ⟨pk,Bl⟩ j5
 have iM:=pH (n:=n) (P:=l.prog) (w:=w) (base:=base) Z ⟨hW,qT⟩ ⟨j5,tH⟩ aG
 have OKN_R:=okn_R (n:=n) (P:=l.prog) (w:=w) (base:=base) (CR:=CR) (CP:=CP) (CN:=CN) (C:=CR) aG iM N_R.fn K_CR.cl ny
 have OKN_RP:=okn_R (n:=n) (P:=l.prog) (w:=w) (base:=base) (CR:=CR) (CP:=CP) (CN:=CN) (C:=CP) aG iM N_R.fn K_CP.cl l9
 have OKN_P:=okn_P (n:=n) (P:=l.prog) (w:=w) (base:=base) (CR:=CR) (CP:=CP) (CN:=CN) aG iM ⟨x_s1,x_s2,x_s3,k_nR⟩ N_R.bd OKN_RP K_CR.mg (mg_none_of KX G kS) N_P.fn K_CP.cl l9 k7
 have qk:=pJ (n:=n) (P:=l.prog) (w:=w) (base:=base) Z ⟨cD,fX⟩ fZ
 have qU:=qE (n:=n) (P:=l.prog) (w:=w) (base:=base) Z ⟨cD,fX⟩ hX
 have nQ:=nv (n:=n) (P:=l.prog) (w:=w) (base:=base) Z dq
 have xc:=vV (n:=n) (P:=l.prog) (w:=w) (base:=base) Z m9
 have bj:=ml (n:=n) (P:=l.prog) (w:=w) (base:=base) Z cE
 have bq:=mP (n:=n) (P:=l.prog) (w:=w) (base:=base) Z cS
 have cL:=qF (n:=n) (P:=l.prog) (w:=w) (base:=base) Z hZ
 have dn:=sE (n:=n) (P:=l.prog) (w:=w) (base:=base) Z j7
 have qS:=qB (n:=n) (P:=l.prog) (w:=w) (base:=base) Z ⟨m9,xc⟩ bC bj bD bq gD cL gE dn hV
 have qi:=vW (n:=n) (P:=l.prog) (w:=w) (base:=base) Z ⟨hV,qS⟩ jP
 have xf:=vX (n:=n) (P:=l.prog) (w:=w) (base:=base) Z ⟨dq,nQ⟩ ⟨jP,qi⟩ ma
 have vi:=uq (n:=n) (P:=l.prog) (w:=w) (base:=base) Z kH
 have ql:=pK (n:=n) (P:=l.prog) (w:=w) (base:=base) Z g0
 have tI:=sD (n:=n) (P:=l.prog) (w:=w) (base:=base) Z j6
 have xb:=vU (n:=n) (P:=l.prog) (w:=w) (base:=base) Z m8
 have nj:=mO (n:=n) (P:=l.prog) (w:=w) (base:=base) Z cR
 have vg:=um (n:=n) (P:=l.prog) (w:=w) (base:=base) Z ⟨cR,nj⟩ kF
 have vh:=uo (n:=n) (P:=l.prog) (w:=w) (base:=base) Z gD cL gE dn kG
 have xa:=vT (n:=n) (P:=l.prog) (w:=w) (base:=base) Z ⟨m8,xb⟩ ⟨kF,vg⟩ ⟨kG,vh⟩ N_CN XCN Bm m7
 have qj:=pI (n:=n) (P:=l.prog) (w:=w) (base:=base) Z ⟨m7,xa⟩ fY
 have vj:=ur (n:=n) (P:=l.prog) (w:=w) (base:=base) Z ⟨j6,tI⟩ ⟨fY,qj⟩ bC bj bD bq kI
 have OK_law:=ok_law (n:=n) (P:=l.prog) (w:=w) (base:=base) Z ⟨kJ,vk⟩ ⟨fZ,qk⟩ ⟨hX,qU⟩ ⟨ma,xf⟩ ⟨kH,vi⟩ ⟨cD,fX⟩ ⟨g0,ql⟩ ⟨jP,qi⟩ ⟨kI,vj⟩ N_R OKN_R N_P OKN_P D_law
 exact OK_law
theorem walk {l:PySem.W.OpenLaw} {q:Program} {loose:List Str} {XP:(Str->Option Value)->Heap->Prop} {YP:World->Heap->Prop} {d:DefRec} {K:Params->PySem.W.Frag} (hn:l.most=some 63) (hdf:d.params.defaults=[])
  (hY:∀(w:World) (h:Heap),YP w h->(K w.params).In h)
  (F:∀(w:World) (mg:Str->Option Value) (fa:Addr) (h:Heap),(K w.params).In h->h.Ns mainGlobals mg->mg d.name=some (.ref fa) ->
   ∃fd:FuncData,(∀(s:Shared) (u:Value),BindsTo s fd ⟨[u],[]⟩ [("_law_script",u)])/\∀base:Heap,(K w.params).In base->base.Ns mainGlobals mg->cu l.prog w (K w.params) mg base CX0 7 fa fd ["_law_script"] (ym (K w.params))) :
  PySem.W.WalkO q loose XP YP l.row.toRowW d [] (fun f vs=>PySem.call f vs):=
 L2.walk_of (n:=63) (k:=7) (x:="_law_script") (CX:=fun _=>CX0) (sp:=fun w=>ym (K w.params)) hn (by decide) hdf ⟨rfl,by decide,by decide⟩ hY F (fun _ _ a ns hl _ hS=>⟨a,ns,rfl,hS,hl,fun _=>rfl⟩) fun _ _ _ _ _ z=>z
end Ru
open PySem PySem.W PyProof.Rows
noncomputable def _root_.PySem.W.Fast.tw11475072689449022874:Nat:=0
noncomputable def _root_.PySem.W.Fast.tw14086974795009239096:Nat:=0
noncomputable def _root_.PySem.W.Fast.tw17329504109492761123:Nat:=0
noncomputable def _root_.PySem.W.Fast.tw16276949909335874985:Nat:=0
noncomputable def _root_.PySem.W.Fast.tw2402346980972478230:Nat:=0
noncomputable def _root_.PySem.W.Fast.tw16591502389849435272:Nat:=0
noncomputable def _root_.PySem.W.Fast.tw4275994183603215504:Nat:=0
noncomputable def _root_.PySem.W.Fast.tw11796238609828782675:Nat:=0
noncomputable def _root_.PySem.W.Fast.tw1292234502984384212:Nat:=0
noncomputable def _root_.PySem.W.Fast.tw4190483619122900514:Nat:=0
noncomputable def _root_.PySem.W.Fast.tw10387708371657786996:Nat:=0
noncomputable def _root_.PySem.W.Fast.tw1323942647164405955:Nat:=0
noncomputable def _root_.PySem.W.Fast.tw13829175970173476786:Nat:=0
noncomputable def _root_.PySem.W.Fast.tw8670301042061868971:Nat:=0
noncomputable def _root_.PySem.W.Fast.tw15758357398103944116:Nat:=0
noncomputable def _root_.PySem.W.Fast.tw10225797223337045249:Nat:=0
noncomputable def _root_.PySem.W.Fast.tw131180833017881968:Nat:=0
noncomputable def _root_.PySem.W.Fast.tw8571868336453605282:Nat:=0
noncomputable def _root_.PySem.W.Fast.tw9524881537191859482:Nat:=0
noncomputable def _root_.PySem.W.Fast.tw9608152570337169451:Nat:=0
noncomputable def _root_.PySem.W.Fast.tw5386265125774724847:Nat:=0
noncomputable def _root_.PySem.W.Fast.tw12263912138081416437:Nat:=0
noncomputable def _root_.PySem.W.Fast.tw16778246403907725815:Nat:=0
noncomputable def _root_.PySem.W.Fast.tw7246733892671490057:Nat:=0
noncomputable def _root_.PySem.W.Fast.tw6387280553733183622:Nat:=0
noncomputable def _root_.PySem.W.Fast.tw11731748634180955378:Nat:=0
noncomputable def _root_.PySem.W.Fast.tw15490360820197933779:Nat:=0
noncomputable def _root_.PySem.W.Fast.tw16342081560479027595:Nat:=0
noncomputable def _root_.PySem.W.Fast.tw4245146712499547329:Nat:=0
noncomputable def _root_.PySem.W.Fast.tw1185719867214303121:Nat:=0
noncomputable def _root_.PySem.W.Fast.tw3327305203553090466:Nat:=0
noncomputable def _root_.PySem.W.Fast.tw6468935108850222468:Nat:=0
noncomputable def _root_.PySem.W.Fast.tw13246296850103133:Nat:=0
noncomputable def _root_.PySem.W.Fast.tw8136433477001316054:Nat:=0
noncomputable def _root_.PySem.W.Fast.tw16317909527544109985:Nat:=0
noncomputable def _root_.PySem.W.Fast.tw10151153311193555955:Nat:=0
noncomputable def _root_.PySem.W.Fast.tw14254339365746486774:Nat:=0
noncomputable def _root_.PySem.W.Fast.tw13650164628524652833:Nat:=0
noncomputable def _root_.PySem.W.Fast.tw15704032751453440234:Nat:=0
noncomputable def _root_.PySem.W.Fast.tw18415497902349033063:Nat:=0
noncomputable def _root_.PySem.W.Fast.tw1744300904548801656:Nat:=0
noncomputable def _root_.PySem.W.Fast.tw52198610341494865:Nat:=0
noncomputable def _root_.PySem.W.Fast.tw14449949862008380433:Nat:=0
noncomputable def _root_.PySem.W.Fast.tw2119848203585612012:Nat:=0
noncomputable def _root_.PySem.W.Fast.tw17018181535191043865:Nat:=0
noncomputable def _root_.PySem.W.Fast.tw10944856319486744181:Nat:=0
noncomputable def _root_.PySem.W.Fast.tw12034464781660499865:Nat:=0
noncomputable def _root_.PySem.W.Fast.tw3206773129175500782:Nat:=0
noncomputable def _root_.PySem.W.Fast.tw17404461452734631037:Nat:=0
noncomputable def _root_.PySem.W.Fast.tw17658599507467689012:Nat:=0
noncomputable def _root_.PySem.W.Fast.tw15950006882407992985:Nat:=0
noncomputable def _root_.PySem.W.Fast.tw3193635297456103648:Nat:=0
noncomputable def _root_.PySem.W.Fast.tw12413835113315888096:Nat:=0
noncomputable def _root_.PySem.W.Fast.tw1674214790719921296:Nat:=0
noncomputable def _root_.PySem.W.Fast.tw10240383159279876410:Nat:=0
noncomputable def _root_.PySem.W.Fast.tw9528319376282743490:Nat:=0
noncomputable def _root_.PySem.W.Fast.tw18319080502542871662:Nat:=0
noncomputable def _root_.PySem.W.Fast.tw16380196259804821558:Nat:=0
noncomputable def _root_.PySem.W.Fast.tw3652708847469396364:Nat:=0
noncomputable def _root_.PySem.W.Fast.tw13865672780732724279:Nat:=0
noncomputable def _root_.PySem.W.Fast.tw11571943479697010168:Nat:=0
noncomputable def _root_.PySem.W.Fast.tw14014832400408755109:Nat:=0
noncomputable def _root_.PySem.W.Fast.tw17064702345390602233:Nat:=0
noncomputable def _root_.PySem.W.Fast.tw12577995674497258429:Nat:=0
noncomputable def _root_.PySem.W.Fast.tw1419203142210712838:Nat:=0
noncomputable def _root_.PySem.W.Fast.tw978038172429346649:Nat:=0
noncomputable def _root_.PySem.W.Fast.tw9508422562228553942:Nat:=0
noncomputable def _root_.PySem.W.Fast.tw8813002114576038452:Nat:=0
noncomputable def _root_.PySem.W.Fast.tw533818809281102611:Nat:=0
set_option maxRecDepth 100000 in
set_option maxHeartbeats 0 in
theorem PySem.Challenge.cw_wakeorder_k62_crowds_without_times_holds : PySem.Challenge.rw_wakeorder_k62_crowds_without_times.Holds := by
 w_on;o_law;k_head;(case hw=>w_witness2)
 k_fill
 refine Ru.walk (l:=PySem.Challenge.rw_wakeorder_k62_crowds_without_times) rfl rfl (fun w h Y=>PySem.W.kIn_of Y) ?F
 case F=>
  intro w mg fa h KX G hmg
  refine' Ru.all_mk KX G hmg ?Bb ?wH ?wK ?wG ?wF ?wI ?wJ ?wM ?wL ?ny ?pL ?Bc ?wQ ?wV ?wO ?wN ?wR ?wU ?wX ?wW ?l9 ?k7 ?o2 ?o3 ?x_ne ?kh ?mZ ?kg ?sR ?lq ?ja ?jc ?ki ?fG ?oh ?ee ?dZ ?dX ?e9 ?dY ?f9 ?eR ?eO ?f6 ?eP ?kz ?ke ?kb ?ko ?kc ?lK ?lp ?lg ?lE ?lj ?kf ?oi ?oj ?mX ?jd ?lr ?og ?eS ?mV ?mW ?o9 ?jb ?mY ?a_law ?l_law ?d_law ?k_law ?a_nR ?i_nR ?l_nR ?d_nR ?k_nR ?a_nP ?i_nP ?l_nP ?d_nP ?k_nP ?x_s1 ?x_s2 ?x_s3 ?xg ?a_nCN ?i_nCN ?l_nCN ?d_nCN ?k_nCN ?rZ ?vw ?vz ?vA ?vy ?vB ?vv ?vx ?rY ?s9 ?kT ?nV ?yg ?tO ?fj ?ze ?cT ?kS ?oK ?rX ?vq ?dU ?vp ?iO ?dH ?gc ?l5 ?jz ?jv ?i9 ?l3 ?dD ?jx ?ik ?ie ?g6 ?jt ?cV ?jw ?ij ?ic ?g5 ?jr ?cU ?ig ?g8 ?g7 ?eJ ?ib ?cF ?l4 ?jy ?ju ?i8 ?l0 ?dC
  (case Bb=>k_is)
  (case wH=>k_is)
  (case wK=>k_is)
  (case wG=>k_is)
  (case wF=>k_is)
  (case wI=>k_is)
  (case wJ=>k_is)
  (case wM=>k_is)
  (case wL=>k_is)
  (case ny=>k_is)
  (case pL=>k_is)
  (case Bc=>k_is)
  (case wQ=>k_is)
  (case wV=>k_is)
  (case wO=>k_is)
  (case wN=>k_is)
  (case wR=>k_is)
  (case wU=>k_is)
  (case wX=>k_is)
  (case wW=>k_is)
  (case l9=>k_is)
  (case k7=>k_is)
  (case o2=>k_is)
  (case o3=>k_is)
  (case x_ne=>first|k_is|kernel_rfl|rfl|decide +kernel)
  (case kh=>exact ⟨_,_,L2.cP KX G (by k_is) (by k_is) (by k_is) (by k_is) fun _ _ _ _ _ _ us hl=>match us,hl with|[_,_],_=>rfl⟩)
  (case mZ=>exact ⟨_,_,L2.cP KX G (by k_is) (by k_is) (by k_is) (by k_is) fun _ _ _ _ _ _ us hl=>match us,hl with|[_,_,_],_=>rfl⟩)
  (case kg=>exact ⟨_,_,L2.cP KX G (by k_is) (by k_is) (by k_is) (by k_is) fun _ _ _ _ _ _ us hl=>match us,hl with|[_],_=>rfl⟩)
  (case sR=>exact ⟨_,_,L2.cP KX G (by k_is) (by k_is) (by k_is) (by k_is) fun _ _ _ _ _ _ us hl=>match us,hl with|[_],_=>rfl⟩)
  (case lq=>exact ⟨_,_,L2.cP KX G (by k_is) (by k_is) (by k_is) (by k_is) fun _ _ _ _ _ _ us hl=>match us,hl with|[_,_],_=>rfl⟩)
  (case ja=>exact ⟨_,_,L2.cP KX G (by k_is) (by k_is) (by k_is) (by k_is) fun _ _ _ _ _ _ us hl=>match us,hl with|[_],_=>rfl⟩)
  (case jc=>exact ⟨_,_,L2.cP KX G (by k_is) (by k_is) (by k_is) (by k_is) fun _ _ _ _ _ _ us hl=>match us,hl with|[_,_,_,_],_=>rfl⟩)
  (case ki=>exact ⟨_,_,L2.cP KX G (by k_is) (by k_is) (by k_is) (by k_is) fun _ _ _ _ _ _ us hl=>match us,hl with|[_,_],_=>rfl⟩)
  (case fG=>exact ⟨_,_,L2.cP KX G (by k_is) (by k_is) (by k_is) (by k_is) fun _ _ _ _ _ _ us hl=>match us,hl with|[_,_,_],_=>rfl⟩)
  (case oh=>exact ⟨_,_,L2.cP KX G (by k_is) (by k_is) (by k_is) (by k_is) fun _ _ _ _ _ _ us hl=>match us,hl with|[_],_=>rfl⟩)
  (case ee=>k_is)
  (case dZ=>k_is)
  (case dX=>k_is)
  (case e9=>k_is)
  (case dY=>k_is)
  (case f9=>k_is)
  (case eR=>k_is)
  (case eO=>k_is)
  (case f6=>k_is)
  (case eP=>k_is)
  (case kz=>k_is)
  (case ke=>k_is)
  (case kb=>k_is)
  (case ko=>k_is)
  (case kc=>k_is)
  (case lK=>k_is)
  (case lp=>k_is)
  (case lg=>k_is)
  (case lE=>k_is)
  (case lj=>k_is)
  (case kf=>exact ⟨_,_,L2.cP KX G (by k_is) (by k_is) (by k_is) (by k_is) fun _ _ _ _ _ _ us hl=>match us,hl with|[_,_],_=>rfl⟩)
  (case oi=>exact ⟨_,_,L2.cP KX G (by k_is) (by k_is) (by k_is) (by k_is) fun _ _ _ _ _ _ us hl=>match us,hl with|[_,_,_],_=>rfl⟩)
  (case oj=>exact ⟨_,_,L2.cP KX G (by k_is) (by k_is) (by k_is) (by k_is) fun _ _ _ _ _ _ us hl=>match us,hl with|[_,_],_=>rfl⟩)
  (case mX=>exact ⟨_,_,L2.cP KX G (by k_is) (by k_is) (by k_is) (by k_is) fun _ _ _ _ _ _ us hl=>match us,hl with|[_,_],_=>rfl⟩)
  (case jd=>exact ⟨_,_,L2.cP KX G (by k_is) (by k_is) (by k_is) (by k_is) fun _ _ _ _ _ _ us hl=>match us,hl with|[_,_],_=>rfl⟩)
  (case lr=>exact ⟨_,_,L2.cP KX G (by k_is) (by k_is) (by k_is) (by k_is) fun _ _ _ _ _ _ us hl=>match us,hl with|[_,_,_,_],_=>rfl⟩)
  (case og=>exact ⟨_,_,L2.cP KX G (by k_is) (by k_is) (by k_is) (by k_is) fun _ _ _ _ _ _ us hl=>match us,hl with|[_,_],_=>rfl⟩)
  (case eS=>exact ⟨_,_,L2.cP KX G (by k_is) (by k_is) (by k_is) (by k_is) fun _ _ _ _ _ _ us hl=>match us,hl with|[_],_=>rfl⟩)
  (case mV=>exact ⟨_,_,L2.cP KX G (by k_is) (by k_is) (by k_is) (by k_is) fun _ _ _ _ _ _ us hl=>match us,hl with|[_,_],_=>rfl⟩)
  (case mW=>exact ⟨_,_,L2.cP KX G (by k_is) (by k_is) (by k_is) (by k_is) fun _ _ _ _ _ _ us hl=>match us,hl with|[_,_,_,_],_=>rfl⟩)
  (case o9=>exact ⟨_,_,L2.cP KX G (by k_is) (by k_is) (by k_is) (by k_is) fun _ _ _ _ _ _ us hl=>match us,hl with|[_,_,_,_],_=>rfl⟩)
  (case jb=>exact ⟨_,_,L2.cP KX G (by k_is) (by k_is) (by k_is) (by k_is) fun _ _ _ _ _ _ us hl=>match us,hl with|[_,_,_,_],_=>rfl⟩)
  (case mY=>exact ⟨_,_,L2.cP KX G (by k_is) (by k_is) (by k_is) (by k_is) fun _ _ _ _ _ _ us hl=>match us,hl with|[_,_,_,_,_],_=>rfl⟩)
  (case a_law=>k_is)
  (case l_law=>k_is)
  (case d_law=>k_is)
  (case k_law=>k_is)
  (case a_nR=>k_is)
  (case i_nR=>k_is)
  (case l_nR=>k_is)
  (case d_nR=>k_is)
  (case k_nR=>k_is)
  (case a_nP=>k_is)
  (case i_nP=>k_is)
  (case l_nP=>k_is)
  (case d_nP=>k_is)
  (case k_nP=>k_is)
  (case x_s1=>first|k_is|kernel_rfl|rfl|decide +kernel)
  (case x_s2=>first|k_is|kernel_rfl|rfl|decide +kernel)
  (case x_s3=>first|k_is|kernel_rfl|rfl|decide +kernel)
  (case xg=>first|k_is|kernel_rfl|rfl|decide +kernel)
  (case a_nCN=>k_is)
  (case i_nCN=>k_is)
  (case l_nCN=>k_is)
  (case d_nCN=>k_is)
  (case k_nCN=>k_is)
  (case rZ=>first|k_is|kernel_rfl|rfl|decide +kernel)
  (case vw=>first|k_is|kernel_rfl|rfl|decide +kernel)
  (case vz=>first|k_is|kernel_rfl|rfl|decide +kernel)
  (case vA=>first|k_is|kernel_rfl|rfl|decide +kernel)
  (case vy=>first|k_is|kernel_rfl|rfl|decide +kernel)
  (case vB=>first|k_is|kernel_rfl|rfl|decide +kernel)
  (case vv=>first|k_is|kernel_rfl|rfl|decide +kernel)
  (case vx=>first|k_is|kernel_rfl|rfl|decide +kernel)
  (case rY=>first|k_is|kernel_rfl|rfl|decide +kernel)
  (case s9=>first|k_is|kernel_rfl|rfl|decide +kernel)
  (case kT=>first|k_is|kernel_rfl|rfl|decide +kernel)
  (case nV=>first|k_is|kernel_rfl|rfl|decide +kernel)
  (case yg=>k_is)
  (case tO=>k_is)
  (case fj=>k_is)
  (case ze=>k_is)
  (case cT=>k_is)
  (case kS=>k_is)
  (case oK=>k_is)
  (case rX=>k_is)
  (case vq=>k_is)
  (case dU=>k_is)
  (case vp=>k_is)
  (case iO=>k_is)
  (case dH=>k_is)
  (case gc=>k_is)
  (case l5=>first|k_is|kernel_rfl|rfl|decide +kernel)
  (case jz=>first|k_is|kernel_rfl|rfl|decide +kernel)
  (case jv=>first|k_is|kernel_rfl|rfl|decide +kernel)
  (case i9=>first|k_is|kernel_rfl|rfl|decide +kernel)
  (case l3=>first|k_is|kernel_rfl|rfl|decide +kernel)
  (case dD=>first|k_is|kernel_rfl|rfl|decide +kernel)
  (case jx=>first|k_is|kernel_rfl|rfl|decide +kernel)
  (case ik=>first|k_is|kernel_rfl|rfl|decide +kernel)
  (case ie=>first|k_is|kernel_rfl|rfl|decide +kernel)
  (case g6=>first|k_is|kernel_rfl|rfl|decide +kernel)
  (case jt=>first|k_is|kernel_rfl|rfl|decide +kernel)
  (case cV=>first|k_is|kernel_rfl|rfl|decide +kernel)
  (case jw=>first|k_is|kernel_rfl|rfl|decide +kernel)
  (case ij=>first|k_is|kernel_rfl|rfl|decide +kernel)
  (case ic=>first|k_is|kernel_rfl|rfl|decide +kernel)
  (case g5=>first|k_is|kernel_rfl|rfl|decide +kernel)
  (case jr=>first|k_is|kernel_rfl|rfl|decide +kernel)
  (case cU=>first|k_is|kernel_rfl|rfl|decide +kernel)
  (case ig=>first|k_is|kernel_rfl|rfl|decide +kernel)
  (case g8=>first|k_is|kernel_rfl|rfl|decide +kernel)
  (case g7=>first|k_is|kernel_rfl|rfl|decide +kernel)
  (case eJ=>first|k_is|kernel_rfl|rfl|decide +kernel)
  (case ib=>first|k_is|kernel_rfl|rfl|decide +kernel)
  (case cF=>first|k_is|kernel_rfl|rfl|decide +kernel)
  (case l4=>first|k_is|kernel_rfl|rfl|decide +kernel)
  (case jy=>first|k_is|kernel_rfl|rfl|decide +kernel)
  (case ju=>first|k_is|kernel_rfl|rfl|decide +kernel)
  (case i8=>first|k_is|kernel_rfl|rfl|decide +kernel)
  (case l0=>first|k_is|kernel_rfl|rfl|decide +kernel)
  (case dC=>first|k_is|kernel_rfl|rfl|decide +kernel)
