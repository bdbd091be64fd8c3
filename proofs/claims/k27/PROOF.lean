import PyProof.Rows.All
import PyProof.Rows.SetFrom
import KE.KRevIter
import PyProof.InstStoreFacts
import PyProof.ExcInit
import PyProof.IsiBase
import PyProof.ExcAttrAll.ValueError
import OpenK.KDescr
import KE.KIsAll
import PyProof.Rows.CatchOwn
import PyProof.RulesTry
import PyProof.RulesAs
import PyProof.RulesDel
import OpenK.KOwn
import PyProof.ExcBaseAll.ValueError
import PyProof.StationsW
import Wide.All
import OpenK.AllK
import Wide.FinOn
import Lean
import PyProof.EqAt
import PyProof.EqKinds
import PyProof.NeKinds
import PyProof.TupleCall
import PySem.Challenge.RW_wakeorder_k27_whole_eased
set_option Elab.async false
set_option linter.all false
set_option maxRecDepth 100000
open PySem.W (lookIn plainOver takerIn typeIn specialIn keepIn takesIn kitOne kia_one callWith_K fnOf codeIn nsIn mg_of kitAny mg_none_of)
namespace L2
open PySem PySem.Spec PyProof.Rows
noncomputable abbrev Key:=Sum Int Str
noncomputable def keyIs:Key->Value->Bool
 |.inl k,v=>Value.isInt k v
 |.inr x,v=>Value.isStrOf x v
noncomputable def keyH (w:World):Key->Int
 |.inl k=>hashInt k
 |.inr x=>hashStr w x
theorem dn:∀{k:Key} {v:Value},keyIs k v=true->(∃i t,k=Sum.inl i/\v=Value.int i t)\/(∃x t,k=Sum.inr x/\v=Value.str x t)
 |.inl i,v,h=>by
  obtain ⟨t,e⟩:=Value.isInt_shape (k:=i) (v:=v) h
  exact .inl ⟨i,t,rfl,e⟩
 |.inr x,v,h=>by
  obtain ⟨t,e⟩:=Value.isStrOf_shape (x:=x) (v:=v) h
  exact .inr ⟨x,t,rfl,e⟩
theorem key_ll (a b:Int):decide ((Sum.inl a:Key)=Sum.inl b)=(a==b):=by
 by_cases e:a=b
 ·subst e;simp
 ·have h:¬(Sum.inl a:Key)=Sum.inl b:=fun q=>e (Sum.inl.inj q)
  rw [decide_eq_false h]
  exact (beq_eq_false_iff_ne.mpr e).symm
theorem key_rr (a b:Str):decide ((Sum.inr a:Key)=Sum.inr b)=decide (a=b):=by
 by_cases e:a=b
 ·subst e;simp
 ·have h:¬(Sum.inr a:Key)=Sum.inr b:=fun q=>e (Sum.inr.inj q)
  rw [decide_eq_false h,decide_eq_false e]
theorem key_lr (a:Int) (b:Str):decide ((Sum.inl a:Key)=Sum.inr b)=false:=decide_eq_false (fun q=>nomatch q)
theorem key_rl (a:Str) (b:Int):decide ((Sum.inr a:Key)=Sum.inl b)=false:=decide_eq_false (fun q=>nomatch q)
noncomputable def zT (prog:Program) (w:World):PySem.KeyKind prog w Key where
 is:=keyIs
 hash:=keyH w
 inj:=fun v a b ha hb=>by
  rcases dn ha with ⟨i,t,rfl,rfl⟩|⟨x,t,rfl,rfl⟩
  ·rcases dn hb with ⟨j,u,rfl,e⟩|⟨y,u,rfl,e⟩
   ·injection e with e1 _;rw [e1]
   ·exact nomatch e
  ·rcases dn hb with ⟨j,u,rfl,e⟩|⟨y,u,rfl,e⟩
   ·exact nomatch e
   ·injection e with e1 _;rw [e1]
 byValue:=fun k v h=>by
  rcases dn h with ⟨i,t,rfl,rfl⟩|⟨x,t,rfl,rfl⟩<;>rfl
 pyHash:=fun hv h=>by
  rcases dn hv with ⟨i,t,rfl,rfl⟩|⟨x,t,rfl,rfl⟩
  ·exact wpAny_pyHash_int h
  ·exact wpAny_pyHash_str h
 eqBool:=fun hu hv h=>by
  rcases dn hu with ⟨i,t,rfl,rfl⟩|⟨x,t,rfl,rfl⟩
  ·rcases dn hv with ⟨j,u,rfl,rfl⟩|⟨y,u,rfl,rfl⟩
   ·rw [key_ll] at h;exact wpAny_eqBool_int h
   ·rw [key_lr] at h;exact SeqAt.EqAt.int_str i t y u _ _ _ _ h
  ·rcases dn hv with ⟨j,u,rfl,rfl⟩|⟨y,u,rfl,rfl⟩
   ·rw [key_rl] at h;exact SeqAt.EqAt.str_int x t j u _ _ _ _ h
   ·rw [key_rr] at h;exact wpAny_eqBool_str h
 «strs»:=fun k x t v h=>by
  rcases dn h with ⟨i,u,rfl,e⟩|⟨y,u,rfl,e⟩
  ·exact nomatch e
  ·injection e with e1 _
   subst e1
   cases v<;>rfl
end L2
namespace L2
open PySem PySem.Spec PyProof.Rows
inductive V where
 |non|bl (b:Bool)|int (i:Int)|str (x:Str)|byt (b:Array UInt8)|flt (b:UInt64)|ref (a:Addr)|ty (n:String)
 deriving DecidableEq
noncomputable def RelV:V->Value->Prop
 |.non,u=>u=Value.none
 |.bl b,u=>u=Value.bool b
 |.int i,u=>∃t,u=Value.int i t
 |.str x,u=>∃t,u=Value.str x t
 |.byt b,u=>∃t,u=Value.bytes b t
 |.flt b,u=>∃t,u=Value.float b t
 |.ref a,u=>u=Value.ref a
 |.ty n,u=>u=Value.type n
noncomputable abbrev Vals:List V->List Value->Prop:=Paired RelV
theorem Vals.length {xs:List V} {us:List Value} (r:Vals xs us):xs.length=us.length:=Paired.length r
theorem Vals.get:∀{xs:List V} {us:List Value} {i:Nat} {x:V},Vals xs us->xs[i]? =some x->∃u,us[i]? =some u/\RelV x u
 |_,_,_,_,.nil,e=>by simp at e
 |_,_,0,_,.cons r _,e=>by simp at e;subst e;exact ⟨_,rfl,r⟩
 |_,_,i+1,x,.cons _ t,e=>by
  obtain ⟨u,h1,h2⟩:=Vals.get (i:=i) (x:=x) t (by simpa using e)
  exact ⟨u,by simpa using h1,h2⟩
theorem Vals.set {x:V} {u:Value} (r:RelV x u):∀{xs:List V} {us:List Value} (i:Nat),Vals xs us->Vals (xs.set i x) (us.set i u)
 |_,_,_,.nil=>.nil
 |_,_,0,.cons _ t=>.cons r t
 |_,_,i+1,.cons q t=>.cons q (Vals.set r i t)
theorem Vals.append:∀{xs ys:List V} {us ws:List Value},Vals xs us->Vals ys ws->Vals (xs++ys) (us++ws)
 |_,_,_,_,.nil,s=>s
 |_,_,_,_,.cons r t,s=>.cons r (Vals.append t s)
theorem Vals.take:∀{xs:List V} {us:List Value} (n:Nat),Vals xs us->Vals (xs.take n) (us.take n)
 |_,_,0,_=>.nil
 |_,_,_+1,.nil=>.nil
 |_,_,n+1,.cons r t=>.cons r (Vals.take n t)
theorem Vals.drop:∀{xs:List V} {us:List Value} (n:Nat),Vals xs us->Vals (xs.drop n) (us.drop n)
 |_,_,0,r=>r
 |_,_,_+1,.nil=>.nil
 |_,_,n+1,.cons _ t=>Vals.drop n t
noncomputable def Ck:Option V->Option Value->Prop
 |some v,some u=>RelV v u
 |none,none=>True
 |_,_=>False
noncomputable def KV {κ:Type}:List (κ×V)->List (κ×Value)->Prop:=Paired fun (p:κ×V) (q:κ×Value)=>p.1=q.1/\RelV p.2 q.2
noncomputable def kV:Key->V
 |.inl i=>.int i
 |.inr x=>.str x
inductive HO where
  |lst (xs:List V)
  |tup (xs:List V)
  |dK (kvs:List (Key×V))|dT (kvs:List (List Key×V))
  |set (S:Int->Bool) (n:Nat)
  |ins (C dx:Addr) (fs:List (Str×V))
  |own (x:Addr)
  |xd (fs:List (Str×V))
  |met (f x:Addr)
  |rng (lo hi:Int)
  |frz (o:Obj) (u:HO)
  |tbl (ps:Array Value)
  |ext (φ:Heap->Prop)
noncomputable abbrev Hp:=Addr->Option HO
noncomputable def upd (H:Hp) (a:Addr) (o:HO):Hp:=fun b=>if b=a then some o else H b
theorem aP {H:Hp} {a:Addr} {o:HO}:upd H a o a=some o:=by unfold upd;rw [if_pos rfl]
theorem aL {H:Hp} {a b:Addr} {o:HO} (h:b≠a):upd H a o b=H b:=by unfold upd;rw [if_neg h]
theorem ba {H:Hp} {a b:Addr} {o:HO} (h:H a=some o) (h':H b=none):a≠b:=by
 intro e;subst e;rw [h] at h';cases h'
section
variable (P:Program) (w:World)
noncomputable def jQ (H:Hp) (h:Heap) (a:Addr):HO->Prop
 |.lst xs=>xs.length<=sizeLine/\∃(its:List Value) (n:Nat),Vals xs its/\h.get? a=some {cls:=.type "list",data:=.seq its.toArray n}
 |.tup xs=>xs.length<=sizeLine/\∃its:List Value,Vals xs its/\IsTup h a its.toArray
 |.dK kvs=>kvs.length<=sizeLine/\(a==sysModules)=false/\∃vs,KV kvs vs/\h.DictOf (zT P w) a vs
 |.dT kvs=>kvs.length<=sizeLine/\(a==sysModules)=false/\∃xs:List (List Key×Addr×Value),
   Paired (fun (p:List Key×V) (q:List Key×Addr×Value)=>p.1=q.1/\H q.2.1=some (.tup (p.1.map kV))/\RelV p.2 q.2.2) kvs xs /\
   ∃o es ep,h.get? a=some o/\o.ExactDict/\o.data=.dict es ep/\es.toList=xs.map (entryOfKey (tupleKind (zT P w)))/\(xs.map (·.1)).Nodup
 |.set S n=>h.SetOf (intKind P w) a S n
 |.ins C dx fs=>H dx=some (.own a)/\fs.length<=1000/\dx≠a/\h.get? a=some (PySem.W.instObj C dx) /\
   ∃mA,h.Ns1 dx mA/\(∀f,Ck (fs.lookup f) (mA f))/\PySem.Within mA (fs.map (·.1))
 |.own _=>∃o,h.get? a=some o
 |.xd fs=>∃mA,h.Ns1 a mA/\∀f,Ck (fs.lookup f) (mA f)
 |.rng lo hi=>∃t u v,h.get? a=some {cls:=.type "range",data:=.fields #[.int lo t,.int hi u,.int 1 v]}
 |.frz o u=>h.get? a=some o/\jQ H h a u
 |.tbl ps=>h.get? a=some {cls:=.none,data:=.fields ps}
 |.met f x=>h.get? a=some (PySem.W.methodObj (.ref f) (.ref x))
 |.ext φ=>φ h/\(∃o,h.get? a=some o)/\∀h1 h2:Heap,φ h1->(∀o,h1.get? a=some o->h2.get? a=some o)->φ h2
noncomputable def HOk (H:Hp) (h:Heap):Prop:=∀a o,H a=some o->jQ P w H h a o
end
section
variable {P:Program} {w:World} {H H':Hp} {h h':Heap} {a:Addr} {o:HO}
theorem jQ.lt (x:jQ P w H h a o):a<h.objs.size:=by
 cases o with
 |lst xs=>obtain ⟨_,_,_,_,e⟩:=x;exact Heap.lt_size e
 |tup xs=>obtain ⟨_,_,_,p⟩:=x;exact p.lt
 |dK kvs=>obtain ⟨_,_,_,_,o,_,_,e,_⟩:=x;exact Heap.lt_size e
 |dT kvs=>obtain ⟨_,_,_,_,o,_,_,e,_⟩:=x;exact Heap.lt_size e
 |set S n=>obtain ⟨o,_,_,_,e,_⟩:=x;exact Heap.lt_size e
 |ins C dx fs=>obtain ⟨_,_,_,e,_⟩:=x;exact Heap.lt_size e
 |own y=>obtain ⟨_,e⟩:=x;exact Heap.lt_size e
 |xd fs=>obtain ⟨_,⟨_,_,_,e,_⟩,_⟩:=x;exact Heap.lt_size e
 |rng lo hi=>obtain ⟨_,_,_,e⟩:=x;exact Heap.lt_size e
 |frz ob u=>obtain ⟨e,_⟩:=x;exact Heap.lt_size e
 |tbl ps=>exact Heap.lt_size (show h.get? a=some _ from x)
 |met f y=>exact Heap.lt_size (show h.get? a=some _ from x)
 |ext φ=>obtain ⟨_,⟨_,e⟩,_⟩:=x;exact Heap.lt_size e
theorem Paired.mapP {α β:Type} {F G:α->β->Prop}:∀{l₁:List α} {l₂:List β},Paired F l₁ l₂->(∀a b,F a b->G a b)->Paired G l₁ l₂
 |_,_,.nil,_=>.nil
 |_,_,.cons r t,f=>.cons (f _ _ r) (Paired.mapP t f)
theorem jQ.stay (x:jQ P w H h a o) (k:∀b u,(b=a\/H b=some (.own a))->h.get? b=some u->h'.get? b=some u)
  (ho:∀b,H b=some (.own a)->H' b=some (.own a)) (ht:∀b xs,H b=some (.tup xs)->H' b=some (.tup xs)):jQ P w H' h' a o:=by
 induction o with
 |lst xs=>obtain ⟨z,its,n,r,e⟩:=x;exact ⟨z,its,n,r,k _ _ (.inl rfl) e⟩
 |tup xs=>obtain ⟨z,its,r,ob,e,c⟩:=x;exact ⟨z,its,r,ob,k _ _ (.inl rfl) e,c⟩
 |dK kvs=>obtain ⟨z,y,vs,r,ob,es,ep,e,c⟩:=x;exact ⟨z,y,vs,r,ob,es,ep,k _ _ (.inl rfl) e,c⟩
 |dT kvs=>
  obtain ⟨z,y,xs,r,ob,es,ep,e,c⟩:=x
  exact ⟨z,y,xs,Paired.mapP r fun p q z=>⟨z.1,ht _ _ z.2.1,z.2.2⟩,ob,es,ep,k _ _ (.inl rfl) e,c⟩
 |set S n=>obtain ⟨ob,es,ep,t,e,c⟩:=x;exact ⟨ob,es,ep,t,k _ _ (.inl rfl) e,c⟩
 |ins C dx fs=>
  obtain ⟨d,z,ne,e,mA,⟨od,es,ep,e2,c⟩,r⟩:=x
  exact ⟨ho _ d,z,ne,k _ _ (.inl rfl) e,mA,⟨od,es,ep,k _ _ (.inr d) e2,c⟩,r⟩
 |own y=>obtain ⟨ob,e⟩:=x;exact ⟨ob,k _ _ (.inl rfl) e⟩
 |xd fs=>obtain ⟨mA,⟨od,es,ep,e,c⟩,r⟩:=x;exact ⟨mA,⟨od,es,ep,k _ _ (.inl rfl) e,c⟩,r⟩
 |rng lo hi=>obtain ⟨t,u,v,e⟩:=x;exact ⟨t,u,v,k _ _ (.inl rfl) e⟩
 |frz ob u ih=>obtain ⟨e,q⟩:=x;exact ⟨k _ _ (.inl rfl) e,ih q⟩
 |tbl ps=>
  have e:h.get? a=some {cls:=.none,data:=.fields ps}:=x
  show h'.get? a=some {cls:=.none,data:=.fields ps}
  exact k a _ (.inl rfl) e
 |met f y=>
  have e:h.get? a=some (PySem.W.methodObj (.ref f) (.ref y)):=x
  show h'.get? a=some (PySem.W.methodObj (.ref f) (.ref y))
  exact k a _ (.inl rfl) e
 |ext φ=>obtain ⟨p,⟨o,e⟩,st⟩:=x;exact ⟨st _ _ p fun o q=>k _ _ (.inl rfl) q,⟨o,k _ _ (.inl rfl) e⟩,st⟩
theorem HOk.lt (x:HOk P w H h) (e:H a=some o):a<h.objs.size:=(x a o e).lt
theorem HOk.fresh (x:HOk P w H h) (e:h.objs.size<=a):H a=none:=by
 cases q:H a with
 |none=>rfl
 |some u=>exact absurd (Nat.lt_of_lt_of_le (x.lt q) e) (Nat.lt_irrefl _)
theorem HOk.kept (x:HOk P w H h) (k:∀b u,h.get? b=some u->h'.get? b=some u):HOk P w H h':=fun a o e=>
 (x a o e).stay (fun b u _ q=>k b u q) (fun _ q=>q) fun _ _ q=>q
theorem HOk.laid (x:HOk P w H h) (k:∀b u,h.get? b=some u->h'.get? b=some u) (hp:h.objs.size<=a) (new:jQ P w (upd H a o) h' a o):HOk P w (upd H a o) h':=fun b u e=>by
 have hn:=x.fresh hp
 by_cases hb:b=a
 ·subst hb;rw [aP] at e;cases e;exact new
 ·rw [aL hb] at e
  exact (x b u e).stay (fun c v _ q=>k c v q) (fun c q=>by rw [aL (ba q hn)];exact q) fun c xs q=>by rw [aL (ba q hn)];exact q
end
noncomputable def Rd (H:Hp) (a:Addr) (u:HO):Prop:=H a=some u\/∃o,H a=some (.frz o u)
theorem Rd.ok {P:Program} {w:World} {H:Hp} {h:Heap} {a:Addr} {u:HO} (r:Rd H a u) (x:HOk P w H h):jQ P w H h a u:=by
 rcases r with r|⟨o,r⟩
 ·exact x a u r
 ·obtain ⟨_,q⟩:=x a _ r
  exact q
noncomputable def Mut:Option HO->Prop
 |some (.lst _)=>True
 |some (.dK _)=>True
 |some (.dT _)=>True
 |some (.set _ _)=>True
 |some (.ins _ _ _)=>True
 |some (.ext _)=>True
 |_=>False
section
variable {P:Program} {w:World} {H:Hp} {h h':Heap} {x e:Addr} {o':HO}
theorem HOk.write (ok:HOk P w H h) (mu:Mut (H x)) (he:e=x\/H e=some (.own x)) (k:∀b u,b≠e->h.get? b=some u->h'.get? b=some u) (heo:∃u,h'.get? e=some u)
  (new:jQ P w (upd H x o') h' x o'):HOk P w (upd H x o') h':=fun b u q=>by
 have nown:∀c y,H c=some (.own y)->c≠x:=fun c y r z=>by subst z;rw [r] at mu;exact mu
 have ntup:∀c xs,H c=some (.tup xs)->c≠x:=fun c xs r z=>by subst z;rw [r] at mu;exact mu
 by_cases hb:b=x
 ·subst hb;rw [aP] at q;cases q;exact new
 ·rw [aL hb] at q
  by_cases hbe:b=e
  ·have q':H b=some (.own x):=by
    rcases he with z|z
    ·exact absurd (hbe.trans z) hb
    ·rw [hbe];exact z
   rw [q] at q';cases q'
   obtain ⟨v,hv⟩:=heo
   exact ⟨v,by rw [hbe];exact hv⟩
  ·refine (ok b u q).stay (fun c v hc r=>k c v ?_ r) (fun c r=>by rw [aL (nown c b r)];exact r) fun c xs r=>by rw [aL (ntup c xs r)];exact r
   rcases hc with rfl|hc
   ·exact hbe
   ·rintro rfl
    rcases he with z|z
    ·exact nown c b hc z
    ·rw [hc] at z;cases z;exact hb rfl
end
structure Un (fs ex:List Addr) (H H':Hp) (h h':Heap):Prop where
 keep:∀b o,h.get? b=some o->H b=none->b∉fs->b∉ex->h'.get? b=some o
 slot:∀b o,h.get? b=some o->H b=none->b∈fs->b∉ex->∃sl,h'.get? b=some {o with slots:=sl}
 free:∀b o,h.get? b=some o->H b=none->b∉ex->H' b=none
 there:∀b o,h.get? b=some o->b∉ex->∃o',h'.get? b=some o'
 tups:∀b xs,H b=some (.tup xs)->H' b=some (.tup xs)
 frzs:∀b o u,H b=some (.frz o u)->H' b=some (.frz o u)
 tbls:∀b ps,H b=some (.tbl ps)->∃more,H' b=some (.tbl (ps++more))
section
variable {fs fs' ex ex':List Addr} {H H1 H2:Hp} {h h1 h2 h':Heap} {a x e:Addr} {o:HO}
theorem Un.any (u:Un fs ex H H1 h h1) {b:Addr} {ob:Obj} (q:h.get? b=some ob) (n:H b=none) (hx:b∉ex):∃sl,h1.get? b=some {ob with slots:=sl}:=by
 by_cases hb:b∈fs
 ·exact u.slot b ob q n hb hx
 ·exact ⟨ob.slots,u.keep b ob q n hb hx⟩
theorem Un.trans (a:Un fs ex H H1 h h1) (b:Un fs ex H1 H2 h1 h2):Un fs ex H H2 h h2 where
 keep:=fun c ob q n hc hx=>b.keep c ob (a.keep c ob q n hc hx) (a.free c ob q n hx) hc hx
 slot:=fun c ob q n hc hx=>by
  obtain ⟨sl,e1⟩:=a.slot c ob q n hc hx
  obtain ⟨sl',e2⟩:=b.slot c _ e1 (a.free c ob q n hx) hc hx
  exact ⟨sl',e2⟩
 free:=fun c ob q n hx=>by
  obtain ⟨o',e1⟩:=a.there c ob q hx
  exact b.free c o' e1 (a.free c ob q n hx) hx
 there:=fun c ob q hx=>by
  obtain ⟨o',e1⟩:=a.there c ob q hx
  exact b.there c o' e1 hx
 tups:=fun c xs q=>b.tups c xs (a.tups c xs q)
 frzs:=fun c ob xs q=>b.frzs c ob xs (a.frzs c ob xs q)
 tbls:=fun c ps q=>by
  obtain ⟨m1,e1⟩:=a.tbls c ps q
  obtain ⟨m2,e2⟩:=b.tbls c _ e1
  exact ⟨m1++m2,by rw [e2,Array.append_assoc]⟩
theorem Un.kept (k:∀b u,h.get? b=some u->h'.get? b=some u):Un fs ex H H h h':=
 ⟨fun b ob q _ _ _=>k b ob q,fun b ob q _ _ _=>⟨ob.slots,k b ob q⟩,fun _ _ _ n _=>n,fun b ob q _=>⟨ob,k b ob q⟩,fun _ _ q=>q,fun _ _ _ q=>q,fun _ ps q=>⟨#[],by rw [q];simp⟩⟩
theorem Un.refl:Un fs ex H H h h:=Un.kept fun _ _ q=>q
theorem Un.laid (k:∀b u,h.get? b=some u->h'.get? b=some u) (hp:h.objs.size<=a) (hn:H a=none):Un fs ex H (upd H a o) h h' where
 keep:=fun b u q _ _ _=>k b u q
 slot:=fun b u q _ _ _=>⟨u.slots,k b u q⟩
 free:=fun b u q n _=>by rw [aL (Nat.ne_of_lt (Nat.lt_of_lt_of_le (Heap.lt_size q) hp))];exact n
 there:=fun b u q _=>⟨u,k b u q⟩
 tups:=fun b xs q=>by rw [aL (ba q hn)];exact q
 frzs:=fun b u xs q=>by rw [aL (ba q hn)];exact q
 tbls:=fun b ps q=>⟨#[],by rw [aL (ba q hn),q];simp⟩
theorem Un.write (mu:Mut (H x)) (he:e=x\/H e=some (.own x)) (k:∀b u,b≠e->h.get? b=some u->h'.get? b=some u) (heo:∃u,h'.get? e=some u):Un fs ex H (upd H x o) h h':=by
 have hx:∀b,H b=none->b≠x:=fun b n z=>by subst z;rw [n] at mu;exact mu
 have hb:∀b,H b=none->b≠e:=fun b n z=>by
  subst z
  rcases he with r|r
  ·exact hx b n r
  ·rw [n] at r;cases r
 have hm:∀b u,H b=some u->¬Mut (some u)->b≠x:=fun b u q nm z=>by subst z;rw [q] at mu;exact nm mu
 refine ⟨fun b u q n _ _=>k b u (hb b n) q,fun b u q n _ _=>⟨u.slots,k b u (hb b n) q⟩,fun b u q n _=>by rw [aL (hx b n)];exact n,fun b u q _=>?_,
  fun b xs q=>by rw [aL (hm b _ q fun z=>z)];exact q,fun b u xs q=>by rw [aL (hm b _ q fun z=>z)];exact q,fun b ps q=>⟨#[],by rw [aL (hm b _ q fun z=>z),q];simp⟩⟩
 by_cases hbe:b=e
 ·subst hbe;exact heo
 ·exact ⟨u,k b u hbe q⟩
end
noncomputable def trk (h:Heap) (H:Hp):List Addr:=(List.range h.objs.size).filter fun a=>(H a).isSome
noncomputable def hidT (h:Heap) (H:Hp):Heap:=PySem.W.hideAll h (trk h H)
theorem DC (h:Heap) (H:Hp):(hidT h H).objs.size=h.objs.size:=PySem.W.hideAll_size _ _
theorem hidT_get {h:Heap} {H:Hp} {b:Addr} {o:Obj} (e:h.get? b=some o) (n:H b=none):(hidT h H).get? b=some o:=
 PySem.W.hideAll_get _ e fun hm=>by
  have q:(H b).isSome=true:=(List.mem_filter.mp hm).2
  rw [n] at q;simp at q
theorem of_hidT {h:Heap} {H:Hp} {b:Addr} {o:Obj} (e:(hidT h H).get? b=some o):h.get? b=some o/\H b=none:=by
 have e':h.get? b=some o:=PySem.W.of_hideAll (trk h H) e
 refine ⟨e',?_⟩
 cases q:H b with
 |none=>rfl
 |some x=>
  have hm:b∈trk h H:=List.mem_filter.mpr ⟨List.mem_range.mpr (Heap.lt_size e'),by simp [q]⟩
  have z:(hidT h H).get? b=none:=PySem.W.hideAll_none (trk h H) hm
  rw [z] at e;cases e
noncomputable def allNews (g h:Heap) (L:Addr):List (Addr×Obj):=(List.range h.objs.size).filterMap fun a=>if a=L\/(g.get? a).isSome=true then none else (h.get? a).map fun o=>(a,o)
noncomputable def rest (g h:Heap) (L d:Addr):List (Addr×Obj):=(allNews g h L).filter fun p=>decide (p.1≠d)
end L2
namespace L2
open PySem PySem.Spec PyProof.Rows
structure Mod (K:PySem.W.Frag) (mg:Str->Option Value) (base:Heap):Prop where
 kin:K.In base
 glob:base.Ns mainGlobals mg
 blt:∃mb,base.Ns builtinsNs mb/\∀x:Str,x≠"__name__"->mb x=bootBuiltins x
 nolimit:base.NoLimit
structure Cx where
 prog:Program
 w:World
 K:PySem.W.Frag
 mg:Str->Option Value
 base:Heap
 A:Around
 N:List Str
 s₀:Shared
 H₀:Hp
 env:Env
 outer:List Env
 stack:List Env
 ex:List Addr
 fn:Str->Bool
 calm:Bool
 pn:List (Addr×Obj)
 xe:Value->Shared->Prop
noncomputable def frs (l:List Env):List Addr:=l.filterMap (·.frame)
noncomputable abbrev Cx.fs (X:Cx):List Addr:=frs X.outer
noncomputable def Vis (sc:Scope) (x:Str):Prop:=sc.names.lookup x=some .local\/sc.names.lookup x=some .cell\/sc.names.lookup x=some .free
noncomputable def Loc (sc:Scope) (x:Str):Prop:=sc.names.lookup x=some .local\/sc.names.lookup x=some .cell
noncomputable def Look (env:Env) (h:Heap) (m:Str->Option Value) (x:Str) (u:Value):Prop:=
 (env.kindOf x=some .local/\m x=some u)\/((env.kindOf x=some .cell\/env.kindOf x=some .free)/\∃c,env.cells.lookup x=some c/\h.IsCell c (some u))
structure Cx.Ok (X:Cx):Prop where
 mod:Mod X.K X.mg X.base
 kind:X.env.scope.kind=.function
 glob:X.env.globals=mainGlobals
 blt:X.env.builtins=builtinsNs
 above:X.s₀.heap.objs.size<=X.env.locals
 inj:∀x y c,X.env.cells.lookup x=some c->X.env.cells.lookup y=some c->x=y
 has:∀x,(X.env.kindOf x=some .cell\/X.env.kindOf x=some .free)->∃c,X.env.cells.lookup x=some c
 cab:∀x c,X.fn x=true->X.env.cells.lookup x=some c->X.s₀.heap.objs.size<=c
 hd:X.calm=true->X.A.handled=none
 frames:X.A.frames=some X.stack
 stk:X.stack=X.outer\/(X.stack=X.env::X.outer/\X.env.frame=some X.env.locals)
 exf:∀b∈X.ex,b≠X.env.locals/\∀x c,X.env.cells.lookup x=some c->c≠b
 bs:∀b o,X.base.get? b=some o->X.s₀.heap.get? b=some o/\X.H₀ b=none
 bsz:X.base.objs.size<=X.s₀.heap.objs.size
 noex:∀b o,X.base.get? b=some o->b∉X.ex
 exfs:∀b∈X.ex,b∉X.fs
 Cj:X.s₀.heap.FunFrames X.base X.outer
 frf:∀b∈X.fs,X.H₀ b=none
structure Inv (X:Cx) (pins:List (Addr×Obj)) (σ:List (Option V)) (H:Hp) (s:Shared):Prop where
 ok:X.Ok
 os:s.os=X.s₀.os
 bare:AllBare s.gens
 base:Un X.fs X.ex X.H₀ H X.s₀.heap s.heap
 loc:∃m,s.heap.Ns X.env.locals m/\∀(i:Nat) (x:Str) (v:V),X.N[i]? =some x->σ[i]? =some (some v)->Vis X.env.scope x->∃u,RelV v u/\Look X.env s.heap m x u
 cell:∀x c,X.env.cells.lookup x=some c->∃v,s.heap.IsCell c v
 free:H X.env.locals=none
 freeC:∀x c,X.env.cells.lookup x=some c->H c=none
 pin:∀p∈X.pn++pins,s.heap.get? p.1=some p.2/\H p.1=none/\p.1≠X.env.locals/\p.1∉X.fs/\∀v,p.2.data≠.cell v
 hok:HOk X.prog X.w H s.heap
 len:σ.length=X.N.length
section
variable {X:Cx} {pins:List (Addr×Obj)} {σ:List (Option V)} {H H':Hp} {s:Shared} {h':Heap}
theorem Cx.Ok.nofr (ok:X.Ok) {b:Addr} {o:Obj} (e:X.base.get? b=some o):b∉X.fs:=fun hb=>by
 have:=(ok.Cj.mem hb).1
 rw [e] at this;cases this
theorem Inv.bs (I:Inv X pins σ H s):∀b o,X.base.get? b=some o->s.heap.get? b=some o/\H b=none:=fun b o e=>
 ⟨I.base.keep b o (I.ok.bs b o e).1 (I.ok.bs b o e).2 (I.ok.nofr e) (I.ok.noex b o e),I.base.free b o (I.ok.bs b o e).1 (I.ok.bs b o e).2 (I.ok.noex b o e)⟩
theorem Inv.bk (I:Inv X pins σ H s):∀b o,X.base.get? b=some o->s.heap.get? b=some o:=fun b o e=>(I.bs b o e).1
theorem Inv.mod (I:Inv X pins σ H s):Mod X.K X.mg X.base:=I.ok.mod
theorem Inv.kIn (I:Inv X pins σ H s):X.K.In s.heap:=I.ok.mod.kin.keeps I.bk
theorem Inv.lt (I:Inv X pins σ H s):X.env.locals<s.heap.objs.size:=let ⟨_,hn,_⟩:=I.loc;hn.lt
theorem Inv.sz (I:Inv X pins σ H s):X.s₀.heap.objs.size<=s.heap.objs.size:=Nat.le_trans I.ok.above (Nat.le_of_lt I.lt)
theorem Inv.nofs (I:Inv X pins σ H s) {a:Addr} (h:s.heap.objs.size<=a):a∉X.fs:=fun hb=>by
 obtain ⟨_,o,ho,_⟩:=I.ok.Cj.mem hb
 exact absurd (Nat.lt_of_lt_of_le (Heap.lt_size ho) (Nat.le_trans I.sz h)) (Nat.lt_irrefl _)
theorem Inv.cne (I:Inv X pins σ H s):∀x c,X.env.cells.lookup x=some c->c≠X.env.locals:=fun x c e z=>by
 obtain ⟨v,o,ho,hd⟩:=I.cell x c e
 obtain ⟨m,⟨o',es,ep,ho',hd',_⟩,_⟩:=I.loc
 rw [z,ho'] at ho;cases ho;rw [hd'] at hd;cases hd
theorem Inv.Cj (I:Inv X pins σ H s):s.heap.FunFrames X.base X.outer:=by
 have all:∀(l:List Env),(∀b∈frs l,b∈X.fs)->X.s₀.heap.FunFrames X.base l->s.heap.FunFrames X.base l:=by
  intro l
  induction l with
  |nil=>intro _ _;trivial
  |cons env r ih=>
   intro hs hl
   obtain ⟨hk,⟨L,o,hf,hn,ho,hd⟩,hr⟩:=hl
   have hL:L∈X.fs:=hs L (by unfold frs;rw [List.filterMap_cons,hf];exact List.mem_cons_self)
   obtain ⟨sl,e⟩:=I.base.slot L o ho (I.ok.frf L hL) hL fun z=>I.ok.exfs L z hL
   exact ⟨hk,⟨L,_,hf,hn,e,hd⟩,ih (fun b hb=>hs b (by unfold frs;rw [List.filterMap_cons,hf];exact List.mem_cons_of_mem _ hb)) hr⟩
 exact all X.outer (fun _ hb=>hb) I.ok.Cj
theorem Inv.stack (I:Inv X pins σ H s):s.heap.FunFrames X.base X.stack:=by
 rcases I.ok.stk with e|⟨e,hf⟩
 ·rw [e];exact I.Cj
 ·rw [e]
  obtain ⟨m,hn,_⟩:=I.loc
  refine .cons (by rw [I.ok.kind];decide) hf hn ?_ I.Cj
  exact Heap.get?_none_of_le (Nat.le_trans I.ok.bsz I.ok.above)
theorem Inv.vP (I:Inv X pins σ H s):∀b∈frs X.stack,b∈X.env.locals::X.fs:=fun b hb=>by
 rcases I.ok.stk with e|⟨e,hf⟩
 ·rw [e] at hb;exact List.mem_cons_of_mem _ hb
 ·rw [e] at hb
  unfold frs at hb
  rw [List.filterMap_cons,hf] at hb
  exact hb
theorem Inv.CG (I:Inv X pins σ H s):∀b∈frs X.stack,H b=none:=fun b hb=>by
 rcases List.mem_cons.mp (I.vP b hb) with e|hb
 ·rw [e];exact I.free
 ·obtain ⟨_,o,ho,_⟩:=I.ok.Cj.mem hb
  exact I.base.free b o ho (I.ok.frf b hb) fun z=>I.ok.exfs b z hb
theorem Inv.step {g':Array GenState} {t':Nat} {d':Drawn} {ch:List Addr} (I:Inv X pins σ H s)
  (hch:∀b∈ch,(b∈X.ex\/X.s₀.heap.objs.size<=b)/\b≠X.env.locals/\(∀x c,X.env.cells.lookup x=some c->c≠b)/\∀p∈X.pn++pins,p.1≠b)
  (keep:∀b o,b≠X.env.locals->b∉X.fs->b∉ch->s.heap.get? b=some o->H b=none->h'.get? b=some o)
  (slot:∀b o,b≠X.env.locals->b∈X.fs->b∉ch->s.heap.get? b=some o->H b=none->∃sl,h'.get? b=some {o with slots:=sl}) (free:∀b o,b∉ch->s.heap.get? b=some o->H b=none->H' b=none)
  (there:∀b o,b∉ch->s.heap.get? b=some o->∃o',h'.get? b=some o')
  (tups:∀b xs,H b=some (.tup xs)->H' b=some (.tup xs)) (frzs:∀b o u,H b=some (.frz o u)->H' b=some (.frz o u)) (tbls:∀b ps,H b=some (.tbl ps)->∃more,H' b=some (.tbl (ps++more)))
  (ns:∀m,s.heap.Ns X.env.locals m->h'.Ns X.env.locals m) (hok:HOk X.prog X.w H' h') (hg:AllBare g') :
  Inv X pins σ H' {s with heap:=h',gens:=g',drawn:=d',toks:=t'}:=by
 have neL:∀b o,X.s₀.heap.get? b=some o->b≠X.env.locals:=fun b o e=>Nat.ne_of_lt (Nat.lt_of_lt_of_le (Heap.lt_size e) I.ok.above)
 have neC:∀b o,X.s₀.heap.get? b=some o->b∉X.ex->b∉ch:=fun b o e hx hb=>by
  rcases (hch b hb).1 with z|z
  ·exact hx z
  ·exact absurd (Nat.lt_of_lt_of_le (Heap.lt_size e) z) (Nat.lt_irrefl _)
 have cellK:∀x c,X.env.cells.lookup x=some c->∀v,s.heap.IsCell c v->h'.IsCell c v:=fun x c e v ⟨o,ho,hd⟩=>by
  have nch:c∉ch:=fun z=>(hch c z).2.2.1 x c e rfl
  by_cases hc:c∈X.fs
  ·obtain ⟨sl,q⟩:=slot c o (I.cne x c e) hc nch ho (I.freeC x c e)
   exact ⟨_,q,hd⟩
  ·exact ⟨o,keep c o (I.cne x c e) hc nch ho (I.freeC x c e),hd⟩
 refine ⟨I.ok,I.os,hg,⟨fun b o e n hb hx=>?_,fun b o e n hb hx=>?_,fun b o e n hx=>?_,fun b o e hx=>?_,fun b xs e=>tups b xs (I.base.tups b xs e),fun b o xs e=>frzs b o xs (I.base.frzs b o xs e),fun b ps e=>?_⟩,?_,fun x c e=>?_,?_,fun x c e=>?_,fun p hp=>?_,hok,I.len⟩
 ·exact keep b o (neL b o e) hb (neC b o e hx) (I.base.keep b o e n hb hx) (I.base.free b o e n hx)
 ·obtain ⟨sl,e1⟩:=I.base.slot b o e n hb hx
  obtain ⟨sl',e2⟩:=slot b _ (neL b o e) hb (neC b o e hx) e1 (I.base.free b o e n hx)
  exact ⟨sl',e2⟩
 ·obtain ⟨o',e1⟩:=I.base.there b o e hx
  exact free b o' (neC b o e hx) e1 (I.base.free b o e n hx)
 ·obtain ⟨o',e1⟩:=I.base.there b o e hx
  exact there b o' (neC b o e hx) e1
 ·obtain ⟨m1,e1⟩:=I.base.tbls b ps e
  obtain ⟨m2,e2⟩:=tbls b _ e1
  exact ⟨m1++m2,by rw [e2,Array.append_assoc]⟩
 ·obtain ⟨m,hn,hl⟩:=I.loc
  refine ⟨m,ns m hn,fun i x v e1 e2 e3=>?_⟩
  obtain ⟨u,r,l⟩:=hl i x v e1 e2 e3
  refine ⟨u,r,?_⟩
  rcases l with l|⟨k,c,e,z⟩
  ·exact .inl l
  ·exact .inr ⟨k,c,e,cellK x c e _ z⟩
 ·obtain ⟨v,z⟩:=I.cell x c e
  exact ⟨v,cellK x c e v z⟩
 ·obtain ⟨m,⟨o,_,_,ho,_⟩,_⟩:=I.loc
  exact free _ o (fun z=>(hch _ z).2.1 rfl) ho I.free
 ·obtain ⟨v,o,ho,hd⟩:=I.cell x c e
  exact free c o (fun z=>(hch c z).2.2.1 x c e rfl) ho (I.freeC x c e)
 ·obtain ⟨e,n,ne,nf,d⟩:=I.pin p hp
  have nch:p.1∉ch:=fun z=>(hch p.1 z).2.2.2 p hp rfl
  exact ⟨keep p.1 p.2 ne nf nch e n,free p.1 p.2 nch e n,ne,nf,d⟩
theorem Inv.un {t':Nat} (I:Inv X pins σ H s) (u:Un X.fs [] H H' s.heap h') (hok:HOk X.prog X.w H' h'):Inv X pins σ H' {s with heap:=h',toks:=t'}:=by
 obtain ⟨m,⟨o,es,ep,ho,r⟩,_⟩:=id I.loc
 obtain ⟨sl,hL⟩:=u.any ho I.free (by simp)
 exact I.step (g':=s.gens) (d':=s.drawn) (ch:=[]) (fun _ z=>nomatch z) (fun b o _ hb _ e n=>u.keep b o e n hb (by simp)) (fun b o _ hb _ e n=>u.slot b o e n hb (by simp)) (fun b o _ e n=>u.free b o e n (by simp)) (fun b o _ e=>u.there b o e (by simp)) u.tups u.frzs u.tbls (fun m' hm=>by
  obtain ⟨o',es',ep',ho',r'⟩:=hm
  rw [ho] at ho';cases ho'
  exact ⟨_,es',ep',hL,r'⟩) hok I.bare
theorem Inv.call {g':Array GenState} {t':Nat} {d':Drawn} {ch:List Addr} (I:Inv X pins σ H s) (u:Un (frs X.stack) ch H H' s.heap h') (hok:HOk X.prog X.w H' h') (hg:AllBare g')
  (hch:∀b∈ch,(b∈X.ex\/X.s₀.heap.objs.size<=b)/\b≠X.env.locals/\(∀x c,X.env.cells.lookup x=some c->c≠b)/\∀p∈X.pn++pins,p.1≠b) :
  Inv X pins σ H' {s with heap:=h',gens:=g',drawn:=d',toks:=t'}:=by
 obtain ⟨m,⟨o,es,ep,ho,r⟩,_⟩:=id I.loc
 obtain ⟨sl,hL⟩:=u.any ho I.free fun z=>(hch _ z).2.1 rfl
 exact I.step (ch:=ch) hch (fun b o hL hb hc e n=>u.keep b o e n (fun z=>(List.mem_cons.mp (I.vP b z)).elim hL hb) hc) (fun b o _ _ hc e n=>u.any e n hc) (fun b o hc e n=>u.free b o e n hc) (fun b o hc e=>u.there b o e hc) u.tups u.frzs u.tbls (fun m' hm=>by
  obtain ⟨o',es',ep',ho',r'⟩:=hm
  rw [ho] at ho';cases ho'
  exact ⟨_,es',ep',hL,r'⟩) hok hg
theorem Inv.turned {t':Nat} {it:Addr} (I:Inv X pins σ H s) (k:∀b o,b≠it->s.heap.get? b=some o->h'.get? b=some o) (hn:H it=none) (hL:it≠X.env.locals)
  (h1:it∈X.ex\/X.s₀.heap.objs.size<=it) (h2:∀x c,X.env.cells.lookup x=some c->c≠it) (h3:∀p∈X.pn++pins,p.1≠it):Inv X pins σ H {s with heap:=h',toks:=t'}:=by
 have nit:∀b u,H b=some u->b≠it:=fun b u e z=>by rw [z,hn] at e;cases e
 refine I.step (g':=s.gens) (d':=s.drawn) (ch:=[it]) (fun b hb=>?_) (fun b o _ _ hc e _=>k b o (fun z=>hc (by simp [z])) e) (fun b o _ _ hc e _=>⟨o.slots,k b o (fun z=>hc (by simp [z])) e⟩) (fun _ _ _ _ n=>n)
  (fun b o hc e=>⟨o,k b o (fun z=>hc (by simp [z])) e⟩) (fun _ _ e=>e) (fun _ _ _ e=>e) (fun b ps e=>⟨#[],by rw [e];simp⟩) (fun m hm=>?_) (fun b u e=>?_) I.bare
 ·have e:b=it:=by simpa using hb
  subst e
  exact ⟨h1,hL,h2,h3⟩
 ·obtain ⟨o,es,ep,ho,r⟩:=hm
  exact ⟨o,es,ep,k _ o (Ne.symm hL) ho,r⟩
 ·refine (I.hok b u e).stay (fun c v hc q=>k c v ?_ q) (fun _ q=>q) fun _ _ q=>q
  rcases hc with z|z
  ·rw [z];exact nit b u e
  ·exact nit c _ z
theorem Inv.tok (I:Inv X pins σ H s) (t:Nat):Inv X pins σ H {s with toks:=t}:=I.un (h':=s.heap) (t':=t) Un.refl I.hok
theorem Inv.kept {t':Nat} (I:Inv X pins σ H s) (k:∀b u,s.heap.get? b=some u->h'.get? b=some u):Inv X pins σ H {s with heap:=h',toks:=t'}:=I.un (Un.kept k) (I.hok.kept k)
theorem Inv.laid {a:Addr} {o:HO} {t':Nat} (I:Inv X pins σ H s) (k:∀b u,s.heap.get? b=some u->h'.get? b=some u) (hp:s.heap.objs.size<=a) (new:jQ X.prog X.w (upd H a o) h' a o) :
  Inv X pins σ (upd H a o) {s with heap:=h',toks:=t'}:=I.un (Un.laid k hp (I.hok.fresh hp)) (I.hok.laid k hp new)
theorem Inv.write {x e:Addr} {o:HO} {t':Nat} (I:Inv X pins σ H s) (mu:Mut (H x)) (he:e=x\/H e=some (.own x)) (k:∀b u,b≠e->s.heap.get? b=some u->h'.get? b=some u) (heo:∃u,h'.get? e=some u)
  (new:jQ X.prog X.w (upd H x o) h' x o):Inv X pins σ (upd H x o) {s with heap:=h',toks:=t'}:=I.un (Un.write mu he k heo) (I.hok.write mu he k heo new)
theorem Inv.weak {σ':List (Option V)} (I:Inv X pins σ H s) (hl:σ'.length=σ.length) (w:∀(i:Nat) v,σ'[i]? =some (some v)->σ[i]? =some (some v)):Inv X pins σ' H s:=
 ⟨I.ok,I.os,I.bare,I.base,let ⟨m,hn,hl'⟩:=I.loc;⟨m,hn,fun i x v e1 e2 e3=>hl' i x v e1 (w i v e2) e3⟩,I.cell,I.free,I.freeC,I.pin,I.hok,hl.trans I.len⟩
theorem Inv.wR {pins':List (Addr×Obj)} (I:Inv X pins σ H s) (h:∀p∈pins',s.heap.get? p.1=some p.2/\H p.1=none/\p.1≠X.env.locals/\p.1∉X.fs/\∀v,p.2.data≠.cell v):Inv X pins' σ H s:=
 ⟨I.ok,I.os,I.bare,I.base,I.loc,I.cell,I.free,I.freeC,fun p hp=>(List.mem_append.mp hp).elim (fun z=>I.pin p (List.mem_append_left _ z)) (h p),I.hok,I.len⟩
theorem AX {N:List Str} (hN:N.Nodup) {i j:Nat} {x:Str} (a:N[i]? =some x) (b:N[j]? =some x):i=j:=by
 obtain ⟨h1,e1⟩:=List.getElem?_eq_some_iff.mp a
 obtain ⟨h2,e2⟩:=List.getElem?_eq_some_iff.mp b
 exact (List.getElem_inj hN).mp (e1.trans e2.symm)
theorem yf {M:Model} {A:Around} {E:Value->Shared->Prop} {i:Nat} {x:Str} {v:V} {u:Value} {Q:Unit->Shared->Prop} (I:Inv X pins σ H s) (hN:X.N.Nodup) (hi:X.N[i]? =some x) (hx:Loc X.env.scope x) (r:RelV v u)
  (h:∀s',Inv X pins (σ.set i (some v)) H s'->(∃a,Heap.SameBut a s.heap s'.heap/\(a=X.env.locals\/X.env.cells.lookup x=some a))->Q () s') (hf:X.fn x=true\/X.env.scope.names.lookup x=some .local:=by first|exact .inl rfl|exact .inr rfl|assumption):wpAny M A (storeName X.env x u) Q E s:=by
 obtain ⟨m,hn,hl⟩:=id I.loc
 have hcls:(X.env.scope.kind==.class||(X.env.scope.kind==.module&&X.env.locals != X.env.globals))=false:=by rw [I.ok.kind];rfl
 have hiσ:i<σ.length:=by rw [I.len];exact (List.getElem?_eq_some_iff.mp hi).1
 have cne:=I.cne
 have tracked:∀{a:Addr} {h':Heap},(∃o,s.heap.get? a=some o/\H a=none)->Heap.SameBut a s.heap h'->HOk X.prog X.w H h':=fun {a h'} ha hs b ob e=>by
  obtain ⟨_,_,hfree⟩:=ha
  refine (I.hok b ob e).stay (fun c w' hc q=>(hs.2 c ?_).trans q) (fun _ q=>q) fun _ _ q=>q
  rintro rfl
  rcases hc with rfl|hc
  ·rw [hfree] at e;cases e
  ·rw [hfree] at hc;cases hc
 rcases hx with hk|hk
 ·refine wpAny_storeName_local hk hn (fun h' hn' hs=>?_) hcls
  obtain ⟨oL,_,_,hoL,_⟩:=id hn
  refine h _ ⟨I.ok,I.os,I.bare,⟨fun b o e n hb hx=>?_,fun b o e n hb hx=>?_,I.base.free,fun b o e hx=>?_,I.base.tups,I.base.frzs,I.base.tbls⟩,⟨_,hn',fun j y v' e1 e2 e3=>?_⟩,fun y c e=>?_,I.free,I.freeC,fun p hp=>?_,tracked ⟨oL,hoL,I.free⟩ hs,by simpa using I.len⟩ ⟨_,hs,.inl rfl⟩
  ·exact (hs.2 b (Nat.ne_of_lt (Nat.lt_of_lt_of_le (Heap.lt_size e) I.ok.above))).trans (I.base.keep b o e n hb hx)
  ·obtain ⟨sl,e1⟩:=I.base.slot b o e n hb hx
   exact ⟨sl,(hs.2 b (Nat.ne_of_lt (Nat.lt_of_lt_of_le (Heap.lt_size e) I.ok.above))).trans e1⟩
  ·obtain ⟨o',e1⟩:=I.base.there b o e hx
   exact ⟨o',(hs.2 b (Nat.ne_of_lt (Nat.lt_of_lt_of_le (Heap.lt_size e) I.ok.above))).trans e1⟩
  ·by_cases hj:j=i
   ·subst hj
    rw [hi] at e1;cases e1
    rw [List.getElem?_set_self hiσ] at e2
    cases e2
    exact ⟨u,r,.inl ⟨hk,by simp⟩⟩
   ·rw [List.getElem?_set_ne (Ne.symm hj)] at e2
    obtain ⟨u',r',q⟩:=hl j y v' e1 e2 e3
    refine ⟨u',r',?_⟩
    rcases q with ⟨k,e⟩|⟨k,c,e,z⟩
    ·refine .inl ⟨k,?_⟩
     have:y≠x:=fun e=>hj (AX hN e1 (e▸hi))
     simp [this,e]
    ·exact .inr ⟨k,c,e,z.sameBut hs (cne y c e)⟩
  ·obtain ⟨w',z⟩:=I.cell y c e
   exact ⟨w',z.sameBut hs (cne y c e)⟩
  ·obtain ⟨e,n,ne,nf,d⟩:=I.pin p hp
   exact ⟨(hs.2 p.1 ne).trans e,n,ne,nf,d⟩
 ·have hfn:X.fn x=true:=by
   rcases hf with z|z
   ·exact z
   ·rw [z] at hk;cases hk
  obtain ⟨c,hc⟩:=I.ok.has x (.inl hk)
  obtain ⟨w',z⟩:=I.cell x c hc
  refine wpAny_storeName_cell I.ok.kind hk hc z (fun h' hc' hs=>?_)
  obtain ⟨oc,hoc,hocd⟩:=id z
  refine h {s with heap:=h'} ⟨I.ok,I.os,I.bare,⟨fun b o e n hb hx=>?_,fun b o e n hb hx=>?_,I.base.free,fun b o e hx=>?_,I.base.tups,I.base.frzs,I.base.tbls⟩,⟨m,hn.sameBut hs (Ne.symm (cne x c hc)),fun j y v' e1 e2 e3=>?_⟩,fun y c' e=>?_,I.free,I.freeC,fun p hp=>?_,tracked ⟨oc,hoc,I.freeC x c hc⟩ hs,by simpa using I.len⟩ ⟨c,hs,.inr hc⟩
  ·exact (hs.2 b (Nat.ne_of_lt (Nat.lt_of_lt_of_le (Heap.lt_size e) (I.ok.cab x c hfn hc)))).trans (I.base.keep b o e n hb hx)
  ·obtain ⟨sl,e1⟩:=I.base.slot b o e n hb hx
   exact ⟨sl,(hs.2 b (Nat.ne_of_lt (Nat.lt_of_lt_of_le (Heap.lt_size e) (I.ok.cab x c hfn hc)))).trans e1⟩
  ·obtain ⟨o',e1⟩:=I.base.there b o e hx
   exact ⟨o',(hs.2 b (Nat.ne_of_lt (Nat.lt_of_lt_of_le (Heap.lt_size e) (I.ok.cab x c hfn hc)))).trans e1⟩
  ·by_cases hj:j=i
   ·subst hj
    rw [hi] at e1;cases e1
    rw [List.getElem?_set_self hiσ] at e2
    cases e2
    exact ⟨u,r,.inr ⟨.inl hk,c,hc,hc'⟩⟩
   ·rw [List.getElem?_set_ne (Ne.symm hj)] at e2
    obtain ⟨u',r',q⟩:=hl j y v' e1 e2 e3
    refine ⟨u',r',?_⟩
    rcases q with q|⟨k,c',e,z'⟩
    ·exact .inl q
    ·refine .inr ⟨k,c',e,z'.sameBut hs ?_⟩
     rintro rfl
     exact hj (AX hN e1 (I.ok.inj _ _ _ e hc▸hi))
  ·by_cases hcc:c'=c
   ·subst hcc;exact ⟨_,hc'⟩
   ·obtain ⟨w2,z2⟩:=I.cell y c' e
    exact ⟨w2,z2.sameBut hs hcc⟩
  ·obtain ⟨e,n,ne,nf,d⟩:=I.pin p hp
   refine ⟨(hs.2 p.1 ?_).trans e,n,ne,nf,d⟩
   intro q
   rw [q,hoc] at e
   have q':oc=p.2:=Option.some.inj e
   exact d w' (by rw [<- q'];exact hocd)
theorem AI {M:Model} {A:Around} {E:Value->Shared->Prop} {i:Nat} {x:Str} {v:V} {u:Value} {Q:Unit->Shared->Prop} (I:Inv X pins σ H s) (hN:X.N.Nodup) (hi:X.N[i]? =some x) (hx:Loc X.env.scope x) (r:RelV v u)
  (h:∀s',Inv X pins (σ.set i (some v)) H s'->Q () s') (hf:X.fn x=true\/X.env.scope.names.lookup x=some .local:=by first|exact .inl rfl|exact .inr rfl|assumption):wpAny M A (storeName X.env x u) Q E s:=
 yf I hN hi hx r (fun s' I' _=>h s' I') hf
theorem Inv.call' {s':Shared} {ch:List Addr} (I:Inv X pins σ H s) (ho:s'.os=s.os) (u:Un (frs X.stack) ch H H' s.heap s'.heap) (hok:HOk X.prog X.w H' s'.heap) (hg:AllBare s'.gens)
  (hch:∀b∈ch,(b∈X.ex\/X.s₀.heap.objs.size<=b)/\b≠X.env.locals/\(∀x c,X.env.cells.lookup x=some c->c≠b)/\∀p∈X.pn++pins,p.1≠b):Inv X pins σ H' s':=by
 obtain ⟨h',g',d',t',o'⟩:=s'
 have e:o'=s.os:=ho
 subst e
 exact I.call (g':=g') (t':=t') (d':=d') u hok hg hch
end
noncomputable abbrev XK:=Value->Option Addr->Hp->Prop
noncomputable abbrev St:=List (Option V)
noncomputable abbrev VK:=V->Hp->Prop
noncomputable abbrev TE:=St->Hp->VK->Prop
noncomputable abbrev TT:=St->Hp->(Bool->Hp->Prop)->Prop
noncomputable abbrev TA:=St->Hp->(List V->Hp->Prop)->Prop
structure Ends where
 nx:St->Hp->Prop
 rt:VK
 bk:St->Hp->Prop:=fun _ _=>False
 ct:St->Hp->Prop:=fun _ _=>False
noncomputable abbrev TS:=Ends->St->Hp->Prop
noncomputable def EP (X:Cx) (pins:List (Addr×Obj)) (σ:St) (Q:VK) (u:Value) (s':Shared):Prop:=∃v H',Inv X pins σ H' s'/\RelV v u/\Q v H'
noncomputable def TP (X:Cx) (pins:List (Addr×Obj)) (σ:St) (Q:Bool->Hp->Prop) (b:Bool) (s':Shared):Prop:=∃H',Inv X pins σ H' s'/\Q b H'
noncomputable def AP (X:Cx) (pins:List (Addr×Obj)) (σ:St) (Q:List V->Hp->Prop) (us:List Value) (s':Shared):Prop:=∃vs H',Inv X pins σ H' s'/\Vals vs us/\Q vs H'
noncomputable def SP (X:Cx) (pins:List (Addr×Obj)) (D:Ends) (f:Flow) (s':Shared):Prop:=
 match f with
 |.next=>∃σ' H',Inv X pins σ' H' s'/\D.nx σ' H'
 |.brk=>∃σ' H',Inv X pins σ' H' s'/\D.bk σ' H'
 |.cont=>∃σ' H',Inv X pins σ' H' s'/\D.ct σ' H'
 |.ret u=>∃v σ' H',Inv X pins σ' H' s'/\RelV v u/\D.rt v H'
noncomputable def PE (X:Cx) (e:Expr) (t:TE):Prop:=
 ∀(pins:List (Addr×Obj)) (s:Shared) (σ:St) (H:Hp) (Q:VK),Inv X pins σ H s->t σ H Q->wpAny (model X.prog X.w) X.A (eval e X.env) (EP X pins σ Q) X.xe s
noncomputable def PT (X:Cx) (e:Expr) (t:TT):Prop:=
 ∀(pins:List (Addr×Obj)) (s:Shared) (σ:St) (H:Hp) (Q:Bool->Hp->Prop),Inv X pins σ H s->t σ H Q->wpAny (model X.prog X.w) X.A (isTrue e X.env (eval e X.env)) (TP X pins σ Q) X.xe s
noncomputable def PW (X:Cx) (e:Expr) (t:TT):Prop:=
 ∀(whole:Sem Value) (pins:List (Addr×Obj)) (s:Shared) (σ:St) (H:Hp) (Q:Bool->Hp->Prop),Inv X pins σ H s->t σ H Q->wpAny (model X.prog X.w) X.A (isTrue e X.env whole) (TP X pins σ Q) X.xe s
theorem PW.pt {X:Cx} {e:Expr} {t:TT} (h:PW X e t):PT X e t:=h _
noncomputable def PA (X:Cx) (es:List Expr) (t:TA):Prop:=
 ∀(pos:Pos) (pins:List (Addr×Obj)) (s:Shared) (σ:St) (H:Hp) (Q:List V->Hp->Prop),Inv X pins σ H s->t σ H Q->wpAny (model X.prog X.w) X.A (spliced (backTo pos (starEach es X.env))) (AP X pins σ Q) X.xe s
noncomputable def PS (X:Cx) (st:Stmt) (t:TS):Prop:=
 ∀(pins:List (Addr×Obj)) (s:Shared) (σ:St) (H:Hp) (D:Ends),Inv X pins σ H s->t D σ H->wpAny (model X.prog X.w) X.A (exec st X.env) (SP X pins D) X.xe s
noncomputable def PSs (X:Cx) (st:List Stmt) (t:TS):Prop:=
 ∀(pins:List (Addr×Obj)) (s:Shared) (σ:St) (H:Hp) (D:Ends),Inv X pins σ H s->t D σ H->wpAny (model X.prog X.w) X.A (execs st X.env) (SP X pins D) X.xe s
theorem thn {α:Type} {t:Sem α} {Q Q':α->Shared->Prop} {M:Model} {A:Around} {E:Value->Shared->Prop} {s:Shared} (h:wpAny M A t Q E s) (hQ:∀a s,Q a s->Q' a s):wpAny M A t Q' E s:=wpAny_mono h hQ fun _ _ x=>x
end L2
namespace L2
open PySem PySem.Spec PyProof.Rows
section
variable {X:Cx}
noncomputable def tVar (i:Nat):TE:=fun σ H Q=>∃v,σ[i]? =some (some v)/\Q v H
noncomputable def tC (v:V):TE:=fun _ H Q=>Q v H
theorem pe_var {i:Nat} {x:Str} {pos:Pos} (hN:X.N[i]? =some x) (hv:Vis X.env.scope x) (hd:(x==("__debug__":Str))=false:=by decide) (hcd:(x==("__classdict__":Str))=false:=by decide):PE X (.Name x pos) (tVar i):=by
 intro pins s σ H Q I h
 obtain ⟨v,e,h⟩:=h
 obtain ⟨m,hn,hl⟩:=I.loc
 obtain ⟨u,r,l⟩:=hl i x v hN e hv
 have fin:EP X pins σ Q u s:=⟨v,H,I,r,h⟩
 rcases l with ⟨hk,hm⟩|⟨hk,c,hc,hcell⟩
 ·exact wpAny_Name (wpAny_loadName_local I.ok.kind hk hn hm fin) hd
 ·rcases hk with hk|hk
  ·exact wpAny_Name (wpAny_loadName_cell I.ok.kind hk hc hcell fin) hd
  ·exact wpAny_Name (wpAny_loadName_free I.ok.kind hk hc hcell fin hcd) hd
theorem pe_int {i j pos}:PE X (.Constant (.int i) j pos) (tC (.int i)):=fun _ _ _ H _ I h=>wpAny_Constant_int ⟨.int i,H,I.tok _,⟨_,rfl⟩,h⟩
theorem pe_bl {b j pos}:PE X (.Constant (.bool b) j pos) (tC (.bl b)):=fun _ _ _ H _ I h=>Constant_bool ⟨.bl b,H,I,rfl,h⟩
theorem pe_non {j pos}:PE X (.Constant .none j pos) (tC .non):=fun _ _ _ H _ I h=>Constant_none ⟨.non,H,I,rfl,h⟩
theorem pe_str {x j pos}:PE X (.Constant (.str x) j pos) (tC (.str x)):=fun _ _ _ H _ I h=>Calls.Constant_str ⟨.str x,H,I.tok _,⟨_,rfl⟩,h⟩
noncomputable def Gl (X:Cx) (x:Str):Prop:=X.env.kindOf x=some .globalImplicit
theorem sR {E:Value->Shared->Prop} {pins:List (Addr×Obj)} {s:Shared} {σ:St} {H:Hp} {x:Str} {u:Value} {pos:Pos} {Q:Value->Shared->Prop} (I:Inv X pins σ H s) (hg:Gl X x) (hm:X.mg x=some u) (h:Q u s)
  (hd:(x==("__debug__":Str))=false:=by decide):wpAny (model X.prog X.w) X.A (eval (.Name x pos) X.env) Q E s:=
 Calls.Name_function_global I.ok.kind hg (Calls.loadGlobal_global (by rw [I.ok.glob];exact I.mod.glob.keeps I.bk) hm h) hd
theorem rG {E:Value->Shared->Prop} {pins:List (Addr×Obj)} {s:Shared} {σ:St} {H:Hp} {x:Str} {u:Value} {pos:Pos} {Q:Value->Shared->Prop} (I:Inv X pins σ H s) (hg:Gl X x) (hm:X.mg x=none) (hv:bootBuiltins x=some u) (h:Q u s)
  (hn:x≠"__name__":=by decide) (hd:(x==("__debug__":Str))=false:=by decide):wpAny (model X.prog X.w) X.A (eval (.Name x pos) X.env) Q E s:=by
 obtain ⟨mb,h1,h2⟩:=I.mod.blt
 exact Calls.Name_function_global I.ok.kind hg (Calls.loadGlobal_builtin (by rw [I.ok.glob];exact I.mod.glob.keeps I.bk) hm (by rw [I.ok.blt];exact h1.keeps I.bk) ((h2 x hn).trans hv) h) hd
theorem D3 {x:Str} {v:V} {u:Value} {pos:Pos} (hg:Gl X x) (hm:X.mg x=some u) (r:RelV v u) (hd:(x==("__debug__":Str))=false:=by decide):PE X (.Name x pos) (tC v):=
 fun _ _ _ H _ I h=>sR I hg hm ⟨v,H,I,r,h⟩ hd
theorem pe_bltn {x:Str} {v:V} {u:Value} {pos:Pos} (hg:Gl X x) (hm:X.mg x=none) (hv:bootBuiltins x=some u) (r:RelV v u) (hn:x≠"__name__":=by decide) (hd:(x==("__debug__":Str))=false:=by decide):PE X (.Name x pos) (tC v):=
 fun _ _ _ H _ I h=>rG I hg hm hv ⟨v,H,I,r,h⟩ hn hd
variable {a b:Expr} {ta tb:TE} {pos:Pos}
variable {tA tB':TT} {rest:List Expr}
noncomputable def tAnd (t u:TT):TT:=fun σ H Q=>t σ H fun c H1=>if c=true then u σ H1 Q else Q false H1
noncomputable def tOr (t u:TT):TT:=fun σ H Q=>t σ H fun c H1=>if c=true then Q true H1 else u σ H1 Q
noncomputable def tNot (t:TT):TT:=fun σ H Q=>t σ H fun c H1=>Q (!c) H1
theorem pw_and1 (ha:PT X a tA):PW X (.BoolOp .And [a] pos) tA:=by
 intro wh pins s σ H Q I h
 refine isTrue_and (thn (ha pins s σ H Q I h) fun c s1 e=>?_)
 cases c with
 |true=>exact isTrue_and_nil e
 |false=>exact e
theorem pw_or1 (ha:PT X a tA):PW X (.BoolOp .Or [a] pos) tA:=by
 intro wh pins s σ H Q I h
 refine isTrue_or (thn (ha pins s σ H Q I h) fun c s1 e=>?_)
 cases c with
 |false=>exact isTrue_or_nil e
 |true=>exact e
theorem pw_and (ha:PT X a tA) (hb:PW X (.BoolOp .And (b::rest) pos) tB'):PW X (.BoolOp .And (a::b::rest) pos) (tAnd tA tB'):=by
 intro wh pins s σ H Q I h
 refine isTrue_and (thn (ha pins s σ H _ I h) fun c s1 ⟨H1,I1,q1⟩=>?_)
 cases c with
 |true=>exact hb wh pins s1 σ H1 Q I1 q1
 |false=>exact ⟨H1,I1,q1⟩
theorem pw_or (ha:PT X a tA) (hb:PW X (.BoolOp .Or (b::rest) pos) tB'):PW X (.BoolOp .Or (a::b::rest) pos) (tOr tA tB'):=by
 intro wh pins s σ H Q I h
 refine isTrue_or (thn (ha pins s σ H _ I h) fun c s1 ⟨H1,I1,q1⟩=>?_)
 cases c with
 |true=>exact ⟨H1,I1,q1⟩
 |false=>exact hb wh pins s1 σ H1 Q I1 q1
theorem pt_not (ha:PT X a tA):PT X (.UnaryOp .Not a pos) (tNot tA):=by
 intro pins s σ H Q I h
 exact isTrue_not (ha pins s σ H (fun c H1=>Q (!c) H1) I h)
noncomputable def tAndV (ta tb:TE):TE:=fun σ H Q=>ta σ H fun x H1=>∃c,x=.bl c/\if c=true then tb σ H1 Q else Q (.bl false) H1
noncomputable def tNotV (ta:TE):TE:=fun σ H Q=>ta σ H fun x H1=>∃c,x=.bl c/\Q (.bl (!c)) H1
theorem pe_one {op} {t:TE} (h:PE X a t):PE X (.BoolOp op [a] pos) t:=fun pins s σ H Q I hw=>BoolOp_one (h pins s σ H Q I hw)
theorem pe_and (ha:PE X a ta) (hb:PE X (.BoolOp .And (b::rest) pos) tb):PE X (.BoolOp .And (a::b::rest) pos) (tAndV ta tb):=by
 intro pins s σ H Q I h
 refine BoolOp_and (thn (ha pins s σ H _ I h) fun v s1 ⟨x,H1,I1,r1,q1⟩=>?_)
 obtain ⟨c,rfl,q1⟩:=q1
 cases r1
 refine wpAny_truthy_bool ?_
 cases c with
 |true=>exact hb pins s1 σ H1 Q I1 q1
 |false=>exact ⟨.bl false,H1,I1,rfl,q1⟩
theorem pe_not (ha:PE X a ta):PE X (.UnaryOp .Not a pos) (tNotV ta):=by
 intro pins s σ H Q I h
 refine UnaryOp_ (thn (ha pins s σ H _ I h) fun v s1 ⟨x,H1,I1,r1,q1⟩=>?_)
 obtain ⟨c,rfl,q1⟩:=q1
 cases r1
 exact not_of (wpAny_truthy_bool ⟨.bl (!c),H1,I1,rfl,q1⟩)
noncomputable def tIf (t:TT) (ta tb:TE):TE:=fun σ H Q=>t σ H fun c H1=>if c=true then ta σ H1 Q else tb σ H1 Q
theorem pe_ifExp {c:Expr} (hc:PT X c tA) (ha:PE X a ta) (hb:PE X b tb):PE X (.IfExp c a b pos) (tIf tA ta tb):=by
 intro pins s σ H Q I h
 refine wpAny_IfExp (thn (hc pins s σ H _ I h) fun d s1 ⟨H1,I1,q1⟩=>?_)
 cases d with
 |true=>exact ha pins s1 σ H1 Q I1 q1
 |false=>exact hb pins s1 σ H1 Q I1 q1
end
end L2
namespace L2
open PySem PySem.Spec PyProof.Rows
noncomputable def SqL (K:PySem.W.Frag) (H:Hp) (a:Addr) (xs:List V):Prop:=
 Rd H a (.lst xs) \/
  ∃(o:Obj) (its:Array Value) (n:Nat),K.lookup a=some o/\o.cls=.type "list"/\o.dict=none/\o.data=.seq its n/\its.size<=sizeLine/\Vals xs its.toList
noncomputable def SqT (K:PySem.W.Frag) (H:Hp) (a:Addr) (xs:List V):Prop:=
 Rd H a (.tup xs) \/
  ∃(o:Obj) (its:Array Value) (n:Nat),K.lookup a=some o/\o.cls=.type "tuple"/\o.data=.seq its n/\its.size<=sizeLine/\Vals xs its.toList
noncomputable def absV:Value->Option V
 |.none=>some .non
 |.bool b=>some (.bl b)
 |.int i _=>some (.int i)
 |.str x _=>some (.str x)
 |.bytes b _=>some (.byt b)
 |.float b _=>some (.flt b)
 |.ref a=>some (.ref a)
 |.type n=>some (.ty n)
 |_=>none
theorem RelV.abs {x:V} {u:Value} (r:RelV x u):absV u=some x:=by
 cases x with
 |non=>cases r;rfl
 |bl _=>cases r;rfl
 |int _=>obtain ⟨t,rfl⟩:=r;rfl
 |str _=>obtain ⟨t,rfl⟩:=r;rfl
 |byt _=>obtain ⟨t,rfl⟩:=r;rfl
 |flt _=>obtain ⟨t,rfl⟩:=r;rfl
 |ref _=>cases r;rfl
 |ty _=>cases r;rfl
theorem RelV.inj {x y:V} {u:Value} (r:RelV x u) (q:RelV y u):x=y:=Option.some.inj (r.abs.symm.trans q.abs)
theorem Vals.inj:∀{xs ys:List V} {us:List Value},Vals xs us->Vals ys us->xs=ys
 |_,_,_,.nil,.nil=>rfl
 |_,_,_,.cons r t,.cons r' t'=>by rw [r.inj r',Vals.inj t t']
section
variable {X:Cx} {pins:List (Addr×Obj)} {σ:St} {H:Hp} {s:Shared} {a:Addr} {xs ys:List V}
theorem SqL.of {K:PySem.W.Frag} (h:H a=some (.lst xs)):SqL K H a xs:=.inl (.inl h)
theorem SqT.of {K:PySem.W.Frag} (h:H a=some (.tup xs)):SqT K H a xs:=.inl (.inl h)
theorem Inv.list (I:Inv X pins σ H s) (h:SqL X.K H a xs):∃its:List Value,Vals xs its/\PlainL s.heap a its.toArray/\xs.length<=sizeLine:=by
 rcases h with h|⟨o,its,n,hk,hc,hd,hs,hz,r⟩
 ·obtain ⟨z,its,n,r,e⟩:=h.ok I.hok
  exact ⟨its,r,⟨_,n,e,rfl,rfl,rfl⟩,z⟩
 ·refine ⟨its.toList,r,⟨o,n,I.kIn a o hk,hc,hd,by simpa using hs⟩,?_⟩
  have e:=r.length
  simp only [Array.length_toList] at e
  omega
theorem Inv.tuple (I:Inv X pins σ H s) (h:SqT X.K H a xs):∃its:List Value,Vals xs its/\IsTup s.heap a its.toArray/\xs.length<=sizeLine:=by
 rcases h with h|⟨o,its,n,hk,hc,hs,hz,r⟩
 ·obtain ⟨z,its,r,p⟩:=h.ok I.hok
  exact ⟨its,r,p,z⟩
 ·refine ⟨its.toList,r,⟨o,I.kIn a o hk,hc,n,by simpa using hs⟩,?_⟩
  have e:=r.length
  simp only [Array.length_toList] at e
  omega
theorem Inv.uo (I:Inv X pins σ H s) (h:SqL X.K H a xs) (h':SqL X.K H a ys):xs=ys:=by
 obtain ⟨its,r,⟨o,n,e,_,_,d⟩,_⟩:=I.list h
 obtain ⟨its',r',⟨o',n',e',_,_,d'⟩,_⟩:=I.list h'
 rw [e] at e';cases e'
 rw [d] at d'
 injection d' with d1 _
 have:its=its':=by simpa using congrArg Array.toList d1
 subst this
 exact r.inj r'
theorem Inv.Cz (I:Inv X pins σ H s) (h:SqT X.K H a xs) (h':SqT X.K H a ys):xs=ys:=by
 obtain ⟨its,r,⟨o,e,_,n,d⟩,_⟩:=I.tuple h
 obtain ⟨its',r',⟨o',e',_,n',d'⟩,_⟩:=I.tuple h'
 rw [e] at e';cases e'
 rw [d] at d'
 injection d' with d1 _
 have:its=its':=by simpa using congrArg Array.toList d1
 subst this
 exact r.inj r'
end
noncomputable abbrev Cx.wish (X:Cx) (E:Value->Shared->Prop):Cx:={X with xe:=E}
noncomputable abbrev Cx.nox (X:Cx):Cx:=X.wish fun _ _=>False
theorem Cx.Ok.wish {X:Cx} (ok:X.Ok) (E:Value->Shared->Prop):(X.wish E).Ok:=
 ⟨ok.mod,ok.kind,ok.glob,ok.blt,ok.above,ok.inj,ok.has,ok.cab,ok.hd,ok.frames,ok.stk,ok.exf,ok.bs,ok.bsz,ok.noex,ok.exfs,ok.Cj,ok.frf⟩
theorem Cx.Ok.tL {X:Cx} {E:Value->Shared->Prop} (ok:(X.wish E).Ok):X.Ok:=
 ⟨ok.mod,ok.kind,ok.glob,ok.blt,ok.above,ok.inj,ok.has,ok.cab,ok.hd,ok.frames,ok.stk,ok.exf,ok.bs,ok.bsz,ok.noex,ok.exfs,ok.Cj,ok.frf⟩
section
variable {X:Cx} {pins:List (Addr×Obj)} {σ:St} {H:Hp} {s:Shared} {E:Value->Shared->Prop}
theorem Inv.wish (I:Inv X pins σ H s) (E:Value->Shared->Prop):Inv (X.wish E) pins σ H s:=⟨I.ok.wish E,I.os,I.bare,I.base,I.loc,I.cell,I.free,I.freeC,I.pin,I.hok,I.len⟩
theorem Inv.tL (I:Inv (X.wish E) pins σ H s):Inv X pins σ H s:=⟨I.ok.tL,I.os,I.bare,I.base,I.loc,I.cell,I.free,I.freeC,I.pin,I.hok,I.len⟩
theorem SP.tL {D:Ends} {f:Flow} {s':Shared} (h:SP (X.wish E) pins D f s'):SP X pins D f s':=by
 cases f with
 |next=>obtain ⟨σ',H',I,q⟩:=h;exact ⟨σ',H',I.tL,q⟩
 |brk=>obtain ⟨σ',H',I,q⟩:=h;exact ⟨σ',H',I.tL,q⟩
 |cont=>obtain ⟨σ',H',I,q⟩:=h;exact ⟨σ',H',I.tL,q⟩
 |ret u=>obtain ⟨v,σ',H',I,r,q⟩:=h;exact ⟨v,σ',H',I.tL,r,q⟩
theorem PSs.nox {st:List Stmt} {t:TS} (h:PSs X.nox st t):PSs X st t:=fun pins s σ H D I hw=>
 wpAny_mono (h pins s σ H D (I.wish _) hw) (fun _ _ q=>q.tL) fun _ _ z=>False.elim z
end
section
variable {X:Cx} {st:Stmt} {rest:List Stmt} {t u:TS} {e:Expr} {te:TE} {pos:Pos}
noncomputable def tNext:TS:=fun D σ H=>D.nx σ H
noncomputable def tSeq (t u:TS):TS:=fun D σ H=>t {D with nx:=u D} σ H
theorem CU:PSs X [] tNext:=fun _ _ σ H _ I h=>wpAny_execs_nil ⟨σ,H,I,h⟩
theorem rB (h1:PS X st t) (h2:PSs X rest u):PSs X (st::rest) (tSeq t u):=by
 intro pins s σ H D I h
 refine wpAny_execs_cons (thn (h1 pins s σ H {D with nx:=u D} I h) fun f s1 q=>?_)
 cases f with
 |next=>
  obtain ⟨σ',H',I',q⟩:=q
  exact h2 pins s1 σ' H' D I' q
 |ret v=>exact q
 |brk=>exact q
 |cont=>exact q
theorem wN (h1:PS X st t):PSs X [st] t:=by
 intro pins s σ H D I h
 refine wpAny_execs_cons (thn (h1 pins s σ H D I h) fun f s1 q=>?_)
 cases f with
 |next=>exact wpAny_execs_nil q
 |ret v=>exact q
 |brk=>exact q
 |cont=>exact q
theorem Inv.quiet {pins:List (Addr×Obj)} {σ:St} {H:Hp} {s:Shared} (I:Inv X pins σ H s):interactive X.env=false:=by simp [interactive,I.ok.kind]
noncomputable def tDrop (te:TE):TS:=fun D σ H=>te σ H fun _ H1=>D.nx σ H1
theorem zH (he:PE X e te) (hs:swapsWith e none pos.line X.env=pure false:=by rfl):PS X (.Expr e pos) (tDrop te):=by
 intro pins s σ H D I h
 exact wpAny_Expr_any (thn (he pins s σ H _ I h) fun v s1 ⟨x,H1,I1,r1,q1⟩=>⟨σ,H1,I1,q1⟩) I.quiet hs
noncomputable def tRet (te:TE):TS:=fun D σ H=>te σ H D.rt
theorem ps_ret (he:PE X e te):PS X (.Return (some e) pos) (tRet te):=by
 intro pins s σ H D I h
 exact wpAny_Return_some (thn (he pins s σ H _ I h) fun v s1 ⟨x,H1,I1,r1,q1⟩=>⟨x,σ,H1,I1,r1,q1⟩)
noncomputable def tIfS (c:TT) (t u:TS):TS:=fun D σ H=>c σ H fun b H1=>if b=true then t D σ H1 else u D σ H1
theorem ps_if {c:Expr} {a b:List Stmt} {tc:TT} (hc:PT X c tc) (ha:PSs X a t) (hb:PSs X b u):PS X (.If c a b pos) (tIfS tc t u):=by
 intro pins s σ H D I h
 refine wpAny_If (thn (hc pins s σ H _ I h) fun d s1 ⟨H1,I1,q1⟩=>?_)
 cases d with
 |true=>exact ha pins s1 σ H1 D I1 q1
 |false=>exact hb pins s1 σ H1 D I1 q1
noncomputable def tNever:TS:=fun _ _ _=>False
theorem CV {sts:List Stmt}:PSs X sts tNever:=fun _ _ _ _ _ _ h=>h.elim
end
noncomputable abbrev TG:=V->St->Hp->(St->Hp->Prop)->Prop
noncomputable abbrev TGs:=List V->St->Hp->(St->Hp->Prop)->Prop
noncomputable def PG (X:Cx) (target:Expr) (t:TG):Prop:=
 ∀(pins:List (Addr×Obj)) (s:Shared) (σ:St) (H:Hp) (v:V) (u:Value) (Q:St->Hp->Prop),Inv X pins σ H s->RelV v u->t v σ H Q ->
  wpAny (model X.prog X.w) X.A (assign target X.env u) (fun _ s'=>∃σ' H',Inv X pins σ' H' s'/\Q σ' H') X.xe s
noncomputable def PGs (X:Cx) (ts:List Expr) (t:TGs):Prop:=
 ∀(pins:List (Addr×Obj)) (s:Shared) (σ:St) (H:Hp) (vs:List V) (us:List Value) (Q:St->Hp->Prop),Inv X pins σ H s->Vals vs us->t vs σ H Q ->
  wpAny (model X.prog X.w) X.A (assignInOrder ((assignEach ts X.env).map (·.2)) us) (fun _ s'=>∃σ' H',Inv X pins σ' H' s'/\Q σ' H') X.xe s
noncomputable abbrev TSet:=V->V->V->Hp->(Hp->Prop)->Prop
noncomputable def PSet (X:Cx) (t:TSet):Prop:=
 ∀(pins:List (Addr×Obj)) (s:Shared) (σ:St) (H:Hp) (o i v:V) (ov iv u:Value) (Q:Hp->Prop),Inv X pins σ H s->RelV o ov->RelV i iv->RelV v u->t o i v H Q ->
  wpAny (model X.prog X.w) X.A (setItem ov iv u) (fun _ s'=>∃H',Inv X pins σ H' s'/\Q H') X.xe s
section
variable {X:Cx} {pos:Pos}
noncomputable def vH (i:Nat):TG:=fun v σ H Q=>Q (σ.set i (some v)) H
theorem zJ {i:Nat} {x:Str} (hN:X.N.Nodup) (hi:X.N[i]? =some x) (hx:Loc X.env.scope x) (hf:X.fn x=true\/X.env.scope.names.lookup x=some .local:=by first|exact .inl rfl|exact .inr rfl|assumption):PG X (.Name x pos) (vH i):=by
 intro pins s σ H v u Q I r h
 exact wpAny_assign_Name (AI I hN hi hx r (fun s' I'=>⟨_,H,I',h⟩) hf)
noncomputable def gNil:TGs:=fun vs σ H Q=>vs=[]/\Q σ H
noncomputable def gCons (t:TG) (u:TGs):TGs:=fun vs σ H Q=>∃v r,vs=v::r/\t v σ H fun σ' H'=>u r σ' H' Q
theorem pgs_nil:PGs X [] gNil:=by
 intro pins s σ H vs us Q I r h
 obtain ⟨e,h⟩:=h
 subst e
 cases r
 exact assignInOrder_nil ⟨σ,H,I,h⟩
theorem AS {e:Expr} {es:List Expr} {t:TG} {u:TGs} (h1:PG X e t) (h2:PGs X es u)
  (hs:(assignEach (e::es) X.env).map (·.2)=assign e X.env::(assignEach es X.env).map (·.2):=by rfl):PGs X (e::es) (gCons t u):=by
 intro pins s σ H vs us Q I r h
 obtain ⟨v,vr,e1,h⟩:=h
 subst e1
 cases r with
 |cons r rr=>
  rw [hs]
  refine assignInOrder_cons (thn (h1 pins s σ H _ _ _ I r h) fun _ s1 ⟨σ1,H1,I1,q1⟩=>?_)
  exact h2 pins s1 σ1 H1 _ _ Q I1 rr q1
noncomputable def gTup (K:PySem.W.Frag) (n:Nat) (t:TGs):TG:=fun v σ H Q=>∃a xs,v=.ref a/\SqT K H a xs/\xs.length=n/\t xs σ H Q
theorem pg_tup {es:List Expr} {k:Nat} {t:TGs} {n:Nat} (hc:X.calm=true) (h:PGs X es t)
  (hn:(assignEach es X.env).length=n:=by rfl) (hst:(assignEach es X.env).findIdx? (·.1)=none:=by rfl):PG X (.Tuple es k pos) (gTup X.K n t):=by
 intro pins s σ H v u Q I r hw
 obtain ⟨a,xs,e1,hq,hl,hw⟩:=hw
 subst e1
 cases r
 obtain ⟨its,rv,ht,hz⟩:=I.tuple hq
 refine assign_Tuple_tuple (I.ok.hd hc) ht (by simp [hn,<- hl,rv.length]) hst fun h' hx=>?_
 have I1:Inv X pins σ H {s with heap:=h'}:=I.kept (t':=s.toks) fun b o e=>hx b o (Nat.ne_of_lt (Heap.lt_size e)) e
 exact h pins _ σ H xs _ Q I1 (by simpa using rv) hw
noncomputable def gSub (to ti:TE) (t:TSet):TG:=fun v σ H Q=>to σ H fun o H1=>ti σ H1 fun i H2=>t o i v H2 fun H3=>Q σ H3
theorem pg_sub {o i:Expr} {to ti:TE} {t:TSet} (ho:PE X o to) (hi:PE X i ti) (hs:PSet X t)
  (ha:∀v,assign (.Subscript o i pos) X.env v=(do
   let ov <- holding [v] (eval o X.env)
   let iv <- holding [v,ov] (eval i X.env)
   standAt pos
   holding [v,ov,iv] (setItem ov iv v)
   release [v,ov,iv] []):=by intro _;rfl):PG X (.Subscript o i pos) (gSub to ti t):=by
 intro pins s σ H v u Q I r h
 rw [ha]
 refine wpAny_bind (wpAny_holding (thn (ho pins s σ H _ I h) fun ov s1 ⟨x,H1,I1,r1,q1⟩=>?_))
 refine wpAny_bind (wpAny_holding (thn (hi pins s1 σ H1 _ I1 q1) fun iv s2 ⟨y,H2,I2,r2,q2⟩=>?_))
 refine wpAny_bind (wpAny_standAt (wpAny_bind (wpAny_holding (thn (hs pins s2 σ H2 x y v ov iv u _ I2 r1 r2 r q2) fun _ s3 ⟨H3,I3,q3⟩=>?_))))
 exact wpAny_release ⟨σ,H3,I3,q3⟩
noncomputable def CF (te:TE) (g:TG):TS:=fun D σ H=>te σ H fun x H1=>g x σ H1 D.nx
theorem AQ {tg e:Expr} {te:TE} {g:TG} (he:PE X e te) (hg:PG X tg g) (hs:swapsWithSole [tg] e pos.line X.env=pure false:=by rfl) (hw:swappedStores [tg] e X.env=pure none:=by rfl)
  (h1:(assignEach [tg] X.env).map (·.2)=[assign tg X.env]:=by rfl):PS X (.Assign [tg] e pos) (CF te g):=by
 intro pins s σ H D I h
 refine wpAny_Assign_stores (thn (he pins s σ H _ I h) fun v s1 ⟨x,H1,I1,r1,q1⟩=>?_) hs hw
 rw [h1]
 exact thn (hg pins s1 σ H1 x v _ I1 r1 q1) fun _ s2 q=>q
theorem AO {i:Nat} {x:Str} {e:Expr} {te:TE} {pos':Pos} (hN:X.N.Nodup) (hi:X.N[i]? =some x) (hx:Loc X.env.scope x) (he:PE X e te) (hs:swapsWith e (some (.Name x pos')) pos.line X.env=pure false:=by rfl) (hf:X.fn x=true\/X.env.scope.names.lookup x=some .local:=by first|exact .inl rfl|exact .inr rfl|assumption) :
  PS X (.Assign [.Name x pos'] e pos) (CF te (vH i)):=by
 intro pins s σ H D I h
 refine wpAny_Assign_Name (thn (he pins s σ H _ I h) fun v s1 ⟨y,H1,I1,r1,q1⟩=>?_) hs
 exact AI I1 hN hi hx r1 (fun s2 I2=>⟨_,H1,I2,q1⟩) hf
end
section
variable {X:Cx} {pos:Pos}
noncomputable def tWhile (c:TT) (tb:TS):TS:=fun D σ H=>∃W:Nat->St->Hp->Prop,(∃m,W m σ H)/\∀m σ H,W m σ H ->
 c σ H fun b H1=>if b=true then ∃N:St->Hp->Prop,(∀σ' H',N σ' H'->∃m',m'<m/\W m' σ' H')/\tb {D with nx:=N,ct:=N,bk:=D.nx} σ H1 else D.nx σ H1
theorem ps_while {c:Expr} {body:List Stmt} {tc:TT} {tb:TS} (hp:PassesOwn (model X.prog X.w) X.A X.env X.xe) (hc:PT X c tc) (hb:PSs X body tb):PS X (.While c body [] pos) (tWhile tc tb):=by
 intro pins s σ H D I h
 obtain ⟨W,⟨m0,w0⟩,turn⟩:=h
 refine wpAny_While (codeAny_whileLoop (fun n s'=>∃σ' H',Inv X pins σ' H' s'/\W n σ' H') ?_ m0 ⟨σ,H,I,w0⟩)
 rintro n s1 ⟨σ1,H1,I1,w1⟩
 refine wpAny_passesOwn hp (thn (hc pins s1 σ1 H1 _ I1 (turn n σ1 H1 w1)) fun b s2 ⟨H2,I2,q2⟩=>?_)
 cases b with
 |true=>
  obtain ⟨N,hN,q2⟩:=q2
  rw [if_pos rfl]
  refine wpAny_passesOwn hp (thn (hb pins s2 σ1 H2 _ I2 q2) fun f s3 q3=>?_)
  cases f with
  |next=>
   obtain ⟨σ3,H3,I3,n3⟩:=q3
   obtain ⟨m',hm,w3⟩:=hN σ3 H3 n3
   exact ⟨m',hm,σ3,H3,I3,w3⟩
  |cont=>
   obtain ⟨σ3,H3,I3,n3⟩:=q3
   obtain ⟨m',hm,w3⟩:=hN σ3 H3 n3
   exact ⟨m',hm,σ3,H3,I3,w3⟩
  |brk=>exact q3
  |ret v=>exact q3
 |false=>
  rw [if_neg Bool.false_ne_true]
  exact wpAny_execs_nil ⟨σ1,H2,I2,q2⟩
end
structure It where
 go:Nat->Hp->Prop
 yld:Nat->Hp->V->Hp->Prop
 stop:Nat->Hp->Prop
noncomputable def Cm (X:Cx) (pins:List (Addr×Obj)) (H:Hp) (b:Addr):Prop:=
 H b=none/\b≠X.env.locals/\b∉X.fs/\(b∈X.ex\/X.s₀.heap.objs.size<=b)/\(∀x c,X.env.cells.lookup x=some c->c≠b)/\∀p∈X.pn++pins,p.1≠b
theorem Inv.fpOk {X:Cx} {pins:List (Addr×Obj)} {σ:St} {H H':Hp} {s:Shared} {b:Addr} (I:Inv X pins σ H s) (hb:s.heap.objs.size<=b) (hn:H' b=none):Cm X pins H' b:=by
 refine ⟨hn,Nat.ne_of_gt (Nat.lt_of_lt_of_le I.lt hb),I.nofs hb,.inr (Nat.le_trans I.sz hb),fun x c e z=>?_,fun p hp z=>?_⟩
 ·obtain ⟨v,q⟩:=I.cell x c e
  exact absurd (Nat.lt_of_lt_of_le q.lt (by rw [z];exact hb)) (Nat.lt_irrefl _)
 ·exact absurd (Nat.lt_of_lt_of_le (Heap.lt_size (I.pin p hp).1) (by rw [z];exact hb)) (Nat.lt_irrefl _)
structure Turn (P:Program) (w:World) (K:PySem.W.Frag) (tg:Expr) (J:It) (fp:List Addr) (it:Addr) (tn:Nat->Heap->Prop):Prop where
 mem:it∈fp
 obj:∀i h,tn i h->∀b∈fp,∃o,h.get? b=some o/\∀v,o.data≠.cell v
 keep:∀i h h',tn i h->(∀b∈fp,∀o,h.get? b=some o->h'.get? b=some o)->tn i h'
 item:∀(X:Cx),X.prog=P->X.w=w->X.K=K->X.calm=true->∀(i:Nat) (pins:List (Addr×Obj)) (s:Shared) (σ:St) (H:Hp) (E:Value->Shared->Prop),Inv X pins σ H s->(∀b∈fp,Cm X pins H b)->tn i s.heap->J.go i H ->
  wpAny (model P w) X.A (pyNext (.ref it)) (fun r s1=>∃u,r=some u /\
   wpAny (model P w) X.A (letOwnedTupleGo tg (.ref it) u) (fun _ s2=>∃x H',Inv X pins σ H' s2/\RelV x u/\J.yld i H x H'/\tn (i+1) s2.heap/\∀b∈fp,H' b=none) E s1) E s
 done:∀(X:Cx),X.prog=P->X.w=w->X.K=K->X.calm=true->∀(i:Nat) (pins:List (Addr×Obj)) (s:Shared) (σ:St) (H:Hp) (E:Value->Shared->Prop),Inv X pins σ H s->(∀b∈fp,Cm X pins H b)->tn i s.heap->J.stop i H ->
  wpAny (model P w) X.A (pyNext (.ref it)) (fun r s1=>r=none/\Inv X pins σ H s1) E s
 self:∀(A:Around) (i:Nat) (s:Shared) (Q:Value->Shared->Prop) (E:Value->Shared->Prop),tn i s.heap->Q (.ref it) s->wpAny (model P w) A (pyIter (.ref it)) Q E s
noncomputable abbrev TI:=St->Hp->(It->Hp->Prop)->Prop
noncomputable def PIE (X:Cx) (pins:List (Addr×Obj)) (σ:St) (tg:Expr) (R:It->Hp->Prop) (itv:Value) (s2:Shared):Prop:=
 ∃(it:Addr) (fp:List Addr) (tn:Nat->Heap->Prop) (J:It) (H':Hp),itv=.ref it/\Inv X pins σ H' s2/\Turn X.prog X.w X.K tg J fp it tn/\tn 0 s2.heap/\(∀b∈fp,Cm X pins H' b)/\R J H'
noncomputable def PI (X:Cx) (tg iter:Expr) (wi:TI):Prop:=
 ∀(pins:List (Addr×Obj)) (s:Shared) (σ:St) (H:Hp) (R:It->Hp->Prop),Inv X pins σ H s->wi σ H R ->
  wpAny (model X.prog X.w) X.A (eval iter X.env) (fun v s1=>wpAny (model X.prog X.w) X.A (pyIter v) (PIE X pins σ tg R) X.xe s1) X.xe s
theorem go_of {M : Model} {A : Around} {E : Value -> Shared -> Prop} {s : Shared} {tg : Expr} {it : Addr} {u : Value} {o : Obj} {n : String} {vs : Array Value} {Q : Unit -> Shared -> Prop} (ho : s.heap.get? it = some o) (hc : o.cls = .type n) (hd : o.data = .fields vs)
    (hn : ["enumerate", "zip", "dict_itemiterator", "dict_reverseitemiterator", "odict_iterator", "itertools.zip_longest", "itertools.pairwise"].contains n = false) (hQ : Q () s) : wpAny M A (letOwnedTupleGo tg (.ref it) u) Q E s := by
  unfold letOwnedTupleGo
  cases tg <;> first
    | exact wpAny_pure hQ
    | (cases u <;> first
        | exact wpAny_pure hQ
        | (refine wpAny_bind (wpAny_load ho ?_)
           rw [hc, hd]
           show wpAny M A (if (["enumerate", "zip", "dict_itemiterator", "dict_reverseitemiterator", "odict_iterator", "itertools.zip_longest", "itertools.pairwise"].contains n && vs[0]? == some (rawInt _)) = true then _ else _) Q E s
           rw [if_neg (by intro h; rw [hn, Bool.false_and] at h; cases h)]
           exact wpAny_pure hQ))
noncomputable def Itl (K:PySem.W.Frag) (a:Addr):It:=
 ⟨fun i H=>∃xs x,SqL K H a xs/\xs[i]? =some x,fun i H x H'=>H'=H/\∀xs,SqL K H a xs->xs[i]? =some x,fun i H=>∃xs,SqL K H a xs/\xs.length<=i⟩
noncomputable def Itt (K:PySem.W.Frag) (a:Addr):It:=
 ⟨fun i H=>∃xs x,SqT K H a xs/\xs[i]? =some x,fun i H x H'=>H'=H/\∀xs,SqT K H a xs->xs[i]? =some x,fun i H=>∃xs,SqT K H a xs/\xs.length<=i⟩
noncomputable def Itr (lo:Int) (n:Nat):It:=⟨fun i _=>i<n,fun i H x H'=>H'=H/\x=.int (lo+i),fun i _=>n<=i⟩
theorem Cw {P:Program} {w:World} {K:PySem.W.Frag} {tg:Expr} (a it:Addr):Turn P w K tg (Itl K a) [it] it (fun i h=>h.IsListIter it a i) where
 mem:=by simp
 obj:=fun i h st b hb=>by
  have e:b=it:=by simpa using hb
  subst e
  obtain ⟨o,e,c,d⟩:=st
  exact ⟨o,e,fun v z=>by rw [d] at z;cases z⟩
 keep:=fun i h h' st k=>st.at fun o e=>k it (by simp) o e
 item:=by
  intro X hP hw hK hc i pins s σ H E I hf st hg
  subst hP hw hK
  obtain ⟨xs,x,hq,hx⟩:=hg
  obtain ⟨its,rv,p,hz⟩:=I.list hq
  obtain ⟨u,hu,ru⟩:=rv.get hx
  obtain ⟨f0,f1,f2,f3,f4,f5⟩:=hf it (by simp)
  refine wpAny_pyNext_list_item st p.isList (x:=u) (by simpa using hu) fun h' st' sb=>?_
  have I1:Inv X pins σ H {s with heap:=h'}:=I.turned (t':=s.toks) (fun b o hb e=>(sb.2 b hb).trans e) f0 f1 f3 f4 f5
  obtain ⟨o,e,c,d⟩:=id st'
  exact ⟨u,rfl,go_of (s:={s with heap:=h'}) e c d (by decide) ⟨x,H,I1,ru,⟨rfl,fun ys hy=>by rw [I.uo hy hq];exact hx⟩,st',fun b hb=>(hf b hb).1⟩⟩
 done:=by
  intro X hP hw hK hc i pins s σ H E I hf st hg
  subst hP hw hK
  obtain ⟨xs,hq,hx⟩:=hg
  obtain ⟨its,rv,p,hz⟩:=I.list hq
  obtain ⟨f0,f1,f2,f3,f4,f5⟩:=hf it (by simp)
  have hl:=rv.length
  exact wpAny_pyNext_list_end (I.ok.hd hc) st p.isList (by simp;omega) fun h' eb=>⟨rfl,I.turned (t':=s.toks) (fun b o hb e=>eb b o hb e) f0 f1 f3 f4 f5⟩
 self:=fun _ _ _ _ _ st h=>wpAny_pyIter_listiter st h
theorem Bu {P:Program} {w:World} {K:PySem.W.Frag} {tg:Expr} (a it:Addr):Turn P w K tg (Itt K a) [it] it (fun i h=>h.IsTupleIter it a i) where
 mem:=by simp
 obj:=fun i h st b hb=>by
  have e:b=it:=by simpa using hb
  subst e
  obtain ⟨o,e,c,d⟩:=st
  exact ⟨o,e,fun v z=>by rw [d] at z;cases z⟩
 keep:=fun i h h' st k=>st.at fun o e=>k it (by simp) o e
 item:=by
  intro X hP hw hK hc i pins s σ H E I hf st hg
  subst hP hw hK
  obtain ⟨xs,x,hq,hx⟩:=hg
  obtain ⟨its,rv,p,hz⟩:=I.tuple hq
  obtain ⟨u,hu,ru⟩:=rv.get hx
  obtain ⟨f0,f1,f2,f3,f4,f5⟩:=hf it (by simp)
  refine wpAny_pyNext_tuple_item st (show s.heap.IsTuple a its.toArray from p) (x:=u) (by simpa using hu) fun h' st' sb=>?_
  have I1:Inv X pins σ H {s with heap:=h'}:=I.turned (t':=s.toks) (fun b o hb e=>(sb.2 b hb).trans e) f0 f1 f3 f4 f5
  obtain ⟨o,e,c,d⟩:=id st'
  exact ⟨u,rfl,go_of (s:={s with heap:=h'}) e c d (by decide) ⟨x,H,I1,ru,⟨rfl,fun ys hy=>by rw [I.Cz hy hq];exact hx⟩,st',fun b hb=>(hf b hb).1⟩⟩
 done:=by
  intro X hP hw hK hc i pins s σ H E I hf st hg
  subst hP hw hK
  obtain ⟨xs,hq,hx⟩:=hg
  obtain ⟨its,rv,p,hz⟩:=I.tuple hq
  obtain ⟨f0,f1,f2,f3,f4,f5⟩:=hf it (by simp)
  have hl:=rv.length
  exact wpAny_pyNext_tuple_end (I.ok.hd hc) st (show s.heap.IsTuple a its.toArray from p) (by simp;omega) fun h' eb=>⟨rfl,I.turned (t':=s.toks) (fun b o hb e=>eb b o hb e) f0 f1 f3 f4 f5⟩
 self:=fun _ _ _ _ _ st h=>wpAny_pyIter_tupleiter st h
theorem Bv {P:Program} {w:World} {K:PySem.W.Frag} {tg:Expr} (it:Addr) (lo:Int) (n:Nat):Turn P w K tg (Itr lo n) [it] it (fun i h=>IsRangeIter h it (lo+(i:Nat)*1) ((n:Int)-(i:Nat)) 1) where
 mem:=by simp
 obj:=fun i h st b hb=>by
  have e:b=it:=by simpa using hb
  subst e
  exact ⟨_,st,fun v z=>by
   have z':Data.fields _=Data.cell v:=z
   cases z'⟩
 keep:=fun i h h' st k=>k it (by simp) _ st
 item:=by
  intro X hP hw hK hc i pins s σ H E I hf st hg
  subst hP hw hK
  obtain ⟨f0,f1,f2,f3,f4,f5⟩:=hf it (by simp)
  have W:=Walks.range (prog:=X.prog) (w:=X.w) (I.ok.hd hc) it lo 1 n
  refine W.item i s _ _ hg st fun v h' tk hv st' kk=>?_
  obtain ⟨t,rfl⟩:=hv
  have I1:Inv X pins σ H {s with heap:=h',toks:=tk}:=I.turned (fun b o hb e=>kk b o (by simpa using hb) e) f0 f1 f3 f4 f5
  refine ⟨_,rfl,go_of (s:={s with heap:=h',toks:=tk}) (n:="range_iterator") st' rfl rfl (by decide) ⟨.int (lo+i),H,I1,⟨t,?_⟩,⟨rfl,rfl⟩,st',fun b hb=>(hf b hb).1⟩⟩
  rw [Int.mul_one]
 done:=by
  intro X hP hw hK hc i pins s σ H E I hf st hg
  subst hP hw hK
  obtain ⟨f0,f1,f2,f3,f4,f5⟩:=hf it (by simp)
  exact wpAny_pyNext_range_end (I.ok.hd hc) st (by have:n<=i:=hg;omega) fun h' eb=>⟨rfl,I.turned (t':=s.toks) (fun b o hb e=>eb b o hb e) f0 f1 f3 f4 f5⟩
 self:=fun _ _ _ _ _ st h=>wpAny_pyIter_rangeiter st h
end L2
namespace L2
open PySem PySem.Spec PyProof.Rows
section
variable {X:Cx} {tg:Expr}
theorem range_it {pins:List (Addr×Obj)} {σ:St} {H:Hp} {s:Shared} {R:It->Hp->Prop} {E:Value->Shared->Prop} {lo hi:Int} {t u v:Tok} {tk:Nat} (I:Inv X pins σ H s) (h1: -(2^62)<=lo) (h2:lo<2^62) (h3: -(2^62)<=hi) (h4:hi<2^62)
  (q:R (Itr lo (hi-lo).toNat) H):wpAny (model X.prog X.w) X.A (pyIter (.ref s.heap.objs.size)) (PIE X pins σ tg R) E {s with heap:=s.heap.push {cls:=.type "range",data:=.fields #[.int lo t,.int hi u,.int 1 v]},toks:=tk}:=by
 refine wpAny_pyIter_range (IsRange.new ..) (small_one h1 h2 h3 h4) ?_
 have I1:Inv X pins σ H {s with heap:=s.heap.push {cls:=.type "range",data:=.fields #[.int lo t,.int hi u,.int 1 v]},toks:=tk}:=I.kept fun b o e=>Heap.get?_push_of_some _ e
 refine ⟨(s.heap.push {cls:=.type "range",data:=.fields #[.int lo t,.int hi u,.int 1 v]}).objs.size,[(s.heap.push {cls:=.type "range",data:=.fields #[.int lo t,.int hi u,.int 1 v]}).objs.size],_,_,H,rfl,
  I1.kept (t':=tk) fun b o e=>Heap.get?_push_of_some _ e,Bv _ lo (hi-lo).toNat,?_,fun b hb=>?_,q⟩
 ·have e1:lo+((0:Nat):Int)*1=lo:=by simp
  have e2:(((hi-lo).toNat:Nat):Int)-((0:Nat):Int)=Builtin.Range.rangeSize lo hi 1:=by rw [rangeSize_one];split<;>omega
  show IsRangeIter _ _ (lo+((0:Nat):Int)*1) ((((hi-lo).toNat:Nat):Int)-((0:Nat):Int)) 1
  rw [e1,e2]
  exact Heap.get?_push_size _ rfl
 ·have e:b=(s.heap.push {cls:=.type "range",data:=.fields #[.int lo t,.int hi u,.int 1 v]}).objs.size:=by simpa using hb
  subst e
  exact I1.fpOk (Nat.le_refl _) (I1.hok.fresh (Nat.le_refl _))
noncomputable def iRng1 (ta:TA):TI:=fun σ H R=>ta σ H fun vs H1=>∃j:Int,vs=[.int j]/\ -(2^62)<=j/\j<2^62/\R (Itr 0 j.toNat) H1
theorem CZ {a:Expr} {ta:TA} {p pos:Pos} (hg:Gl X "range") (hm:X.mg "range"=none) (ha:PA X [a] ta) (hs:starEach [a] X.env=[(false,eval a X.env)]:=by rfl):PI X tg (.Call (.Name "range" p) [a] [] pos) (iRng1 ta):=by
 intro pins s σ H R I h
 refine Call_ (rG I hg hm boot_range (PyProof.Rows.callWith_type1 (thn (ha pos pins s σ H _ I h) fun us s1 ⟨vs,H1,I1,r1,q1⟩=>?_) hs rfl))
 obtain ⟨j,e,q1,q2,q⟩:=q1
 subst e
 cases r1 with
 |cons r rr=>
  cases rr
  obtain ⟨t,rfl⟩:=r
  exact call_range_1 (range_it I1 (by omega) (by omega) q1 q2 (by simpa using q))
noncomputable def tFor (wi:TI) (g:TG) (tb:TS):TS:=fun D σ H=>wi σ H fun J H1=>∃W:Nat->Nat->St->Hp->Prop,(∃m,W 0 m σ H1)/\∀i m σ H,W i m σ H ->
 (J.stop i H/\D.nx σ H)\/(J.go i H/\∃N:St->Hp->Prop,(∀σ' H',N σ' H'->∃m',m'<m/\W (i+1) m' σ' H')/\∀x H',J.yld i H x H'->g x σ H' fun σ2 H2=>tb {D with nx:=N,ct:=N,bk:=D.nx} σ2 H2)
noncomputable def yt (fp:List Addr) (h:Heap):List (Addr×Obj):=fp.filterMap fun b=>(h.get? b).map fun o=>(b,o)
theorem qh {fp:List Addr} {h:Heap} {b:Addr} {o:Obj} (hb:b∈fp) (e:h.get? b=some o):(b,o)∈yt fp h:=List.mem_filterMap.mpr ⟨b,hb,by rw [e];rfl⟩
theorem Dg {fp:List Addr} {h:Heap} {p:Addr×Obj} (hp:p∈yt fp h):p.1∈fp/\h.get? p.1=some p.2:=by
 obtain ⟨b,hb,e⟩:=List.mem_filterMap.mp hp
 cases q:h.get? b with
 |none=>rw [q] at e;cases e
 |some o=>
  rw [q] at e
  have e':(b,o)=p:=Option.some.inj e
  subst e'
  exact ⟨hb,q⟩
theorem Inv.pinned {pins:List (Addr×Obj)} {σ:St} {H:Hp} {s:Shared} {fp:List Addr} (I:Inv X pins σ H s) (hf:∀b∈fp,Cm X pins H b) (ho:∀b∈fp,∃o,s.heap.get? b=some o/\∀v,o.data≠.cell v):Inv X (pins++yt fp s.heap) σ H s:=
 I.wR fun p hp=>(List.mem_append.mp hp).elim (fun z=>I.pin p (List.mem_append_right _ z)) fun z=>by
  obtain ⟨hb,e⟩:=Dg z
  obtain ⟨f0,f1,f2,_⟩:=hf p.1 hb
  obtain ⟨o,e',d⟩:=ho p.1 hb
  rw [e] at e';cases e'
  exact ⟨e,f0,f1,f2,d⟩
theorem Inv.wB {pins pl:List (Addr×Obj)} {σ:St} {H:Hp} {s:Shared} (I:Inv X (pins++pl) σ H s):Inv X pins σ H s:=I.wR fun p hp=>I.pin p (List.mem_append_right _ (List.mem_append_left _ hp))
theorem ps_for {iter:Expr} {body:List Stmt} {wi:TI} {g:TG} {tb:TS} {pos:Pos} (hp:PassesOwn (model X.prog X.w) X.A X.env X.xe) (hc:X.calm=true) (hi:PI X tg iter wi) (hg:PG X tg g) (hb:PSs X body tb)
  (hs:∀x,foldedSetIterable iter X.env x=pure x:=by intro _;rfl):PS X (.For tg iter body [] pos) (tFor wi g tb):=by
 intro pins s σ H D I h
 refine wpAny_For (thn (hi pins s σ H _ I h) fun v s1 h1=>thn h1 fun itv s2 h2=>?_) hs
 obtain ⟨it,fp,tn,J,H2,e,I2,T,st2,f2,W,⟨m0,w0⟩,turn⟩:=h2
 subst e
 have stat:∀{H':Hp},(∀b∈fp,H' b=none)->∀b∈fp,Cm X pins H' b:=fun hn b hb=>⟨hn b hb,(f2 b hb).2⟩
 refine codeAny_forLoop_any (fun n s'=>∃i σ' H',Inv X pins σ' H' s'/\tn i s'.heap/\(∀b∈fp,H' b=none)/\W i n σ' H') ?_ m0 ⟨0,σ,H2,I2,st2,fun b hb=>(f2 b hb).1,w0⟩
 rintro n s3 ⟨i,σ3,H3,I3,st3,fr3,w3⟩
 rcases turn i n σ3 H3 w3 with ⟨stop,qn⟩|⟨go,N,hN,step⟩
 ·refine wpAny_passesOwn hp (thn (T.done X rfl rfl rfl hc i pins s3 σ3 H3 X.xe I3 (stat fr3) st3 stop) fun r s4 ⟨hr,I4⟩=>?_)
  subst hr
  exact wpAny_execs_nil ⟨σ3,H3,I4,qn⟩
 ·refine wpAny_passesOwn hp (thn (T.item X rfl rfl rfl hc i pins s3 σ3 H3 X.xe I3 (stat fr3) st3 go) fun r s4 ⟨u,hr,h4⟩=>?_)
  subst hr
  refine wpAny_passesOwn hp (thn h4 fun _ s5 ⟨x,H5,I5,r5,y5,st5,fr5⟩=>?_)
  have I5':=I5.pinned (stat fr5) (T.obj _ _ st5)
  refine wpAny_passesOwn hp (thn (hg _ s5 σ3 H5 x u _ I5' r5 (step x H5 y5)) fun _ s6 ⟨σ6,H6,I6,q6⟩=>?_)
  refine wpAny_passesOwn hp (thn (hb _ s6 σ6 H6 _ I6 q6) fun f s7 q7=>?_)
  have again:∀{σ7:St} {H7:Hp},Inv X (pins++yt fp s5.heap) σ7 H7 s7->N σ7 H7->∃m,m<n/\∃i σ' H',Inv X pins σ' H' s7/\tn i s7.heap/\(∀b∈fp,H' b=none)/\W i m σ' H':=fun {σ7 H7} I7 n7=>by
   obtain ⟨m',hm,w7⟩:=hN σ7 H7 n7
   refine ⟨m',hm,i+1,σ7,H7,I7.wB,T.keep _ _ _ st5 fun b hb o e=>(I7.pin (b,o) (List.mem_append_right _ (List.mem_append_right _ (qh hb e)))).1,fun b hb=>?_,w7⟩
   obtain ⟨o,e,d⟩:=T.obj _ _ st5 b hb
   exact (I7.pin (b,o) (List.mem_append_right _ (List.mem_append_right _ (qh hb e)))).2.1
  cases f with
  |next=>obtain ⟨σ7,H7,I7,n7⟩:=q7;exact again I7 n7
  |cont=>obtain ⟨σ7,H7,I7,n7⟩:=q7;exact again I7 n7
  |brk=>obtain ⟨σ7,H7,I7,q7⟩:=q7;exact ⟨σ7,H7,I7.wB,q7⟩
  |ret v=>obtain ⟨x7,σ7,H7,I7,r7,q7⟩:=q7;exact ⟨x7,σ7,H7,I7.wB,r7,q7⟩
end
end L2
namespace L2
open PySem PySem.Spec PyProof.Rows
noncomputable abbrev R2:=V->V->Hp->VK->Prop
noncomputable def OpR (X:Cx) (f:Value->Value->Sem Value) (r:R2):Prop:=
 ∀(pins:List (Addr×Obj)) (s:Shared) (σ:St) (H:Hp) (x y:V) (v u:Value) (Q:VK),Inv X pins σ H s->RelV x v->RelV y u->r x y H Q ->
  wpAny (model X.prog X.w) X.A (f v u) (EP X pins σ Q) X.xe s
noncomputable def UnR (X:Cx) (f:Value->Sem Value) (r:V->Hp->VK->Prop):Prop:=
 ∀(pins:List (Addr×Obj)) (s:Shared) (σ:St) (H:Hp) (x:V) (v:Value) (Q:VK),Inv X pins σ H s->RelV x v->r x H Q ->
  wpAny (model X.prog X.w) X.A (f v) (EP X pins σ Q) X.xe s
noncomputable def eA (X:Cx) (f:Value) (r:List V->Hp->VK->Prop):Prop:=
 ∀(pins:List (Addr×Obj)) (s:Shared) (σ:St) (H:Hp) (xs:List V) (us:List Value) (Q:VK),Inv X pins σ H s->Vals xs us->r xs H Q ->
  wpAny (model X.prog X.w) X.A (call f us) (EP X pins σ Q) X.xe s
noncomputable def TruR (X:Cx) (r:V->Hp->(Bool->Hp->Prop)->Prop):Prop:=
 ∀(pins:List (Addr×Obj)) (s:Shared) (σ:St) (H:Hp) (x:V) (v:Value) (Q:Bool->Hp->Prop),Inv X pins σ H s->RelV x v->r x H Q ->
  wpAny (model X.prog X.w) X.A (truthy v) (TP X pins σ Q) X.xe s
noncomputable def tOp (r:R2) (ta tb:TE):TE:=fun σ H Q=>ta σ H fun x H1=>tb σ H1 fun y H2=>r x y H2 Q
noncomputable def tUn (r:V->Hp->VK->Prop) (ta:TE):TE:=fun σ H Q=>ta σ H fun x H1=>r x H1 Q
noncomputable def rI (C:Int->Int->Prop) (g:Int->Int->V):R2:=fun x y H Q=>∃i j,x=.int i/\y=.int j/\C i j/\Q (g i j) H
noncomputable def rI0 (g:Int->Int->V):R2:=fun x y H Q=>∃i j,x=.int i/\y=.int j/\Q (g i j) H
noncomputable def rU (g:Int->V):V->Hp->VK->Prop:=fun x H Q=>∃i,x=.int i/\Q (g i) H
section
variable {X:Cx} {a b c:Expr} {ta tb tc:TE} {pos:Pos}
theorem binT (ha:PE X a ta) (hb:PE X b tb) {pins:List (Addr×Obj)} {s:Shared} {σ:St} {H:Hp} {R:V->V->Hp->Prop} (I:Inv X pins σ H s)
  (h:ta σ H fun x H1=>tb σ H1 fun y H2=>R x y H2) {Q:Value->Shared->Prop} {f:Value->Value->Sem Value}
  (hf:∀v u s2 x y H2,Inv X pins σ H2 s2->RelV x v->RelV y u->R x y H2->wpAny (model X.prog X.w) X.A (f v u) Q X.xe s2) :
  wpAny (model X.prog X.w) X.A (eval a X.env) (fun v s₁=>wpAny (model X.prog X.w) X.A (eval b X.env) (fun u s₂=>wpAny (model X.prog X.w) X.A (f v u) Q X.xe s₂) X.xe s₁) X.xe s:=by
 refine thn (ha pins s σ H _ I h) fun v s1 ⟨x,H1,I1,r1,q1⟩=>?_
 refine thn (hb pins s1 σ H1 _ I1 q1) fun u s2 ⟨y,H2,I2,r2,q2⟩=>?_
 exact hf v u s2 x y H2 I2 r1 r2 q2
theorem pe_op {op:Operator} {r:R2} (ho:OpR X (binaryOp op) r) (ha:PE X a ta) (hb:PE X b tb):PE X (.BinOp a op b pos) (tOp r ta tb):=by
 intro pins s σ H Q I h
 exact wpAny_BinOp (binT ha hb I h fun v u s2 x y H2 I2 rx ry q=>ho pins s2 σ H2 x y v u Q I2 rx ry q)
theorem pe_un {op:UnaryOp} {r:V->Hp->VK->Prop} (ho:UnR X (unaryOp op) r) (ha:PE X a ta):PE X (.UnaryOp op a pos) (tUn r ta):=by
 intro pins s σ H Q I h
 exact UnaryOp_ (thn (ha pins s σ H _ I h) fun v s1 ⟨x,H1,I1,r1,q1⟩=>ho pins s1 σ H1 x v Q I1 r1 q1)
theorem opI {f:Value->Value->Sem Value} {C:Int->Int->Prop} {g:Int->Int->Int}
  (rule:∀(i j:Int) (t u:Tok) (s:Shared) (Q:Value->Shared->Prop) (E:Value->Shared->Prop),C i j->Q (.int (g i j) s.toks) {s with toks:=s.toks+1}->wpAny (model X.prog X.w) X.A (f (.int i t) (.int j u)) Q E s) :
  OpR X f (rI C fun i j=>.int (g i j)):=by
 intro pins s σ H x y v u Q I rx ry h
 obtain ⟨i,j,rfl,rfl,hc,q⟩:=h
 obtain ⟨t,rfl⟩:=rx
 obtain ⟨t',rfl⟩:=ry
 exact rule i j t t' s _ _ hc ⟨.int (g i j),H,I.tok _,⟨_,rfl⟩,q⟩
theorem opI0 {f:Value->Value->Sem Value} {g:Int->Int->Int}
  (rule:∀(i j:Int) (t u:Tok) (s:Shared) (Q:Value->Shared->Prop) (E:Value->Shared->Prop),Q (.int (g i j) s.toks) {s with toks:=s.toks+1}->wpAny (model X.prog X.w) X.A (f (.int i t) (.int j u)) Q E s) :
  OpR X f (rI0 fun i j=>.int (g i j)):=by
 intro pins s σ H x y v u Q I rx ry h
 obtain ⟨i,j,rfl,rfl,q⟩:=h
 obtain ⟨t,rfl⟩:=rx
 obtain ⟨t',rfl⟩:=ry
 exact rule i j t t' s _ _ ⟨.int (g i j),H,I.tok _,⟨_,rfl⟩,q⟩
theorem opB0 {f:Value->Value->Sem Value} {g:Int->Int->Bool}
  (rule:∀(i j:Int) (t u:Tok) (s:Shared) (Q:Value->Shared->Prop) (E:Value->Shared->Prop),Q (.bool (g i j)) s->wpAny (model X.prog X.w) X.A (f (.int i t) (.int j u)) Q E s) :
  OpR X f (rI0 fun i j=>.bl (g i j)):=by
 intro pins s σ H x y v u Q I rx ry h
 obtain ⟨i,j,rfl,rfl,q⟩:=h
 obtain ⟨t,rfl⟩:=rx
 obtain ⟨t',rfl⟩:=ry
 exact rule i j t t' s _ _ ⟨.bl (g i j),H,I,rfl,q⟩
noncomputable def CPow (i j:Int):Prop:=0<=j/\j<=1000000/\i.natAbs<2^64
noncomputable def CMul (i j:Int):Prop:=(-(2^64)<i/\i<2^64)\/(-(2^64)<j/\j<2^64)
theorem CMul.ok {i j:Int} (h:CMul i j):IntMulOk i j:=by
 rcases h with ⟨h1,h2⟩|⟨h1,h2⟩
 ·exact .of_left (intBits_le_64 h1 h2)
 ·exact .of_right (intBits_le_64 h1 h2)
theorem op_add:OpR X (binaryOp .Add) (rI0 fun i j=>.int (i+j)):=opI0 fun _ _ _ _ _ _ _ q=>add_int q
theorem op_sub:OpR X (binaryOp .Sub) (rI0 fun i j=>.int (i-j)):=opI0 fun _ _ _ _ _ _ _ q=>sub_int q
theorem op_mul:OpR X (binaryOp .Mult) (rI CMul fun i j=>.int (i*j)):=opI fun _ _ _ _ _ _ _ hc q=>mul_int q hc.ok
theorem op_mod:OpR X (binaryOp .Mod) (rI (fun _ j=>0<j) fun i j=>.int (i%j)):=opI fun i j _ _ _ _ _ hc q=>by
 have h1:(0:Int)<j:=hc
 exact mod_int' (by omega) (by rw [Int.fmod_eq_emod_of_nonneg i (by omega)];exact q)
theorem op_pow:OpR X (binaryOp .Pow) (rI CPow fun i j=>.int (i^j.toNat)):=opI fun _ _ _ _ _ _ _ hc q=>pow_int_small hc.1 hc.2.1 hc.2.2 q
theorem unI {f:Value->Sem Value} {g:Int->Int}
  (rule:∀(i:Int) (t:Tok) (s:Shared) (Q:Value->Shared->Prop) (E:Value->Shared->Prop),Q (.int (g i) s.toks) {s with toks:=s.toks+1}->wpAny (model X.prog X.w) X.A (f (.int i t)) Q E s) :
  UnR X f (rU fun i=>.int (g i)):=by
 intro pins s σ H x v Q I rx h
 obtain ⟨i,rfl,q⟩:=h
 obtain ⟨t,rfl⟩:=rx
 exact rule i t s _ _ ⟨.int (g i),H,I.tok _,⟨_,rfl⟩,q⟩
theorem un_neg:UnR X (unaryOp .USub) (rU fun i=>.int (-i)):=unI fun _ _ _ _ _ q=>neg_int q
end
noncomputable def scal:V->V->Bool
 |.non,.non=>true|.non,.int _=>true|.int _,.non=>true|.non,.bl _=>true|.bl _,.non=>true|.non,.str _=>true|.str _,.non=>true
 |.int _,.int _=>true|.bl _,.bl _=>true|.str _,.str _=>true|.byt _,.byt _=>true
 |.int _,.str _=>true|.str _,.int _=>true|.bl _,.str _=>true|.str _,.bl _=>true
 |_,_=>false
noncomputable def rNe:R2:=fun x y H Q=>scal x y=true/\Q (.bl (!decide (x=y))) H
theorem dec_int {i j:Int}:decide (V.int i=V.int j)=(i==j):=by
 rw [Bool.eq_iff_iff]
 simp
theorem dec_bl {i j:Bool}:decide (V.bl i=V.bl j)=(i==j):=by
 rw [Bool.eq_iff_iff]
 simp
theorem dec_str {i j:Str}:decide (V.str i=V.str j)=(i==j):=by
 rw [Bool.eq_iff_iff]
 simp
theorem dec_byt {i j:Array UInt8}:decide (V.byt i=V.byt j)=(i.toList==j.toList):=by
 rw [Bool.eq_iff_iff]
 cases i
 cases j
 simp
section
variable {X:Cx} {a b c:Expr} {ta tb tc:TE} {pos:Pos}
theorem fF {pins:List (Addr×Obj)} {σ:St} {H:Hp} {s:Shared} {Q:VK} {k k':Bool} (I:Inv X pins σ H s) (q:Q (.bl k) H) (e:k=k'):EP X pins σ Q (.bool k') s:=by
 subst e
 exact ⟨.bl k,H,I,rfl,q⟩
theorem op_ne:OpR X (compareOp .NotEq) rNe:=by
 intro pins s σ H x y v u Q I rx ry h
 obtain ⟨hs,q⟩:=h
 cases x with
 |non=>
  cases rx
  cases y with
  |non=>cases ry;exact PySem.EqNone.ne_none_none (fF I q (by simp))
  |bl j=>cases ry;exact PySem.EqNone.ne_none_bool (fF I q (by simp))
  |int j=>obtain ⟨t',rfl⟩:=ry;exact PySem.EqNone.ne_none_int (fF I q (by simp))
  |str j=>obtain ⟨t',rfl⟩:=ry;exact PySem.EqNone.ne_none_str (fF I q (by simp))
  |_=>exact absurd (show false=true from hs) Bool.false_ne_true
 |bl i=>
  cases rx
  cases y with
  |non=>cases ry;exact PySem.EqNone.ne_bool_none (fF I q (by simp))
  |bl j=>cases ry;exact ne_bool (fF I q (congrArg not dec_bl))
  |str j=>obtain ⟨t',rfl⟩:=ry;exact PySem.EqMixed.ne_bool_str (fF I q (by simp))
  |_=>exact absurd (show false=true from hs) Bool.false_ne_true
 |int i=>
  obtain ⟨t,rfl⟩:=rx
  cases y with
  |non=>cases ry;exact PySem.EqNone.ne_int_none (fF I q (by simp))
  |int j=>obtain ⟨t',rfl⟩:=ry;exact ne_int (fF I q (congrArg not dec_int))
  |str j=>obtain ⟨t',rfl⟩:=ry;exact PySem.EqMixed.ne_int_str (fF I q (by simp))
  |_=>exact absurd (show false=true from hs) Bool.false_ne_true
 |str i=>
  obtain ⟨t,rfl⟩:=rx
  cases y with
  |non=>cases ry;exact PySem.EqNone.ne_str_none (fF I q (by simp))
  |bl j=>cases ry;exact PySem.EqMixed.ne_str_bool (fF I q (by simp))
  |int j=>obtain ⟨t',rfl⟩:=ry;exact PySem.EqMixed.ne_str_int (fF I q (by simp))
  |str j=>obtain ⟨t',rfl⟩:=ry;exact ne_str (fF I q (congrArg not dec_str))
  |_=>exact absurd (show false=true from hs) Bool.false_ne_true
 |byt i=>
  obtain ⟨t,rfl⟩:=rx
  cases y with
  |byt j=>obtain ⟨t',rfl⟩:=ry;exact PySem.W.ne_bytes (fF I q (congrArg not dec_byt))
  |_=>exact absurd (show false=true from hs) Bool.false_ne_true
 |_=>cases y<;>exact absurd (show false=true from hs) Bool.false_ne_true
theorem op_lt:OpR X (compareOp .Lt) (rI0 fun i j=>.bl (decide (i<j))):=opB0 fun _ _ _ _ _ _ _ q=>lt_int q
theorem op_le:OpR X (compareOp .LtE) (rI0 fun i j=>.bl (decide (i<=j))):=opB0 fun _ _ _ _ _ _ _ q=>le_int q
theorem op_gt:OpR X (compareOp .Gt) (rI0 fun i j=>.bl (decide (j<i))):=opB0 fun _ _ _ _ _ _ _ q=>gt_int q
theorem op_isN:OpR X (compareOp .Is) (fun x y H Q=>y=.non/\Q (.bl (decide (x=.non))) H):=by
 intro pins s σ H x y v u Q I rx ry h
 obtain ⟨rfl,q⟩:=h
 cases ry
 refine is_none_gen (fF I q ?_)
 cases x<;>first
  |(cases rx;rfl)
  |(obtain ⟨t,rfl⟩:=rx;rfl)
noncomputable def isObj:HO->Bool
 |.lst _=>true
 |.ins _ _ _=>true
 |_=>false
theorem OpR.or {f:Value->Value->Sem Value} {r r':R2} (h:OpR X f r) (h':OpR X f r'):OpR X f (fun x y H Q=>r x y H Q\/r' x y H Q):=by
 intro pins s σ H x y v u Q I rx ry q
 rcases q with q|q
 ·exact h pins s σ H x y v u Q I rx ry q
 ·exact h' pins s σ H x y v u Q I rx ry q
theorem Dh (b:Expr) {op:CmpOp} (h:op≠.In:=by decide) (h2:op≠.NotIn:=by decide):behindInMarks op b=false:=by
 have e1:(op==CmpOp.In)=false:=by cases op<;>first|rfl|exact absurd rfl h
 have e2:(op==CmpOp.NotIn)=false:=by cases op<;>first|rfl|exact absurd rfl h2
 cases b<;>simp [behindInMarks,e1,e2]
theorem pe_cmpR {op:CmpOp} {r:R2} (ho:OpR X (compareOp op) r) (ha:PE X a ta) (hb:PE X b tb) (hm:behindInMarks op b=false):PE X (.Compare a [op] [b] pos) (tOp r ta tb):=by
 intro pins s σ H Q I h
 exact wpAny_Compare1 (binT ha hb I h fun v u s2 x y H2 I2 rx ry q=>ho pins s2 σ H2 x y v u Q I2 rx ry q) hm
noncomputable def tTest (t:TE):TT:=fun σ H Q=>t σ H fun x H'=>∃k,x=.bl k/\Q k H'
theorem CT {op:CmpOp} {r:R2} (ho:OpR X (compareOp op) r) (ha:PE X a ta) (hb:PE X b tb) (hm:behindInMarks op b=false):PT X (.Compare a [op] [b] pos) (tTest (tOp r ta tb)):=by
 intro pins s σ H Q I h
 refine wpAny_isTrue_Compare1 (thn (ha pins s σ H _ I h) fun v s1 ⟨x,H1,I1,r1,q1⟩=>thn (hb pins s1 σ H1 _ I1 q1) fun u s2 ⟨y,H2,I2,r2,q2⟩=>
  thn (ho pins s2 σ H2 x y v u _ I2 r1 r2 q2) fun c s3 ⟨z,H3,I3,r3,k,e,q3⟩=>?_) hm
 subst e
 cases r3
 exact wpAny_truthy_bool ⟨H3,I3,q3⟩
noncomputable def CC (r r':R2) (ta tb tc:TE):TE:=fun σ H Q=>ta σ H fun x H1=>tb σ H1 fun y H2=>r x y H2 fun z H3=>∃k,z=.bl k /\
 (if k=true then tc σ H3 fun w' H4=>r' y w' H4 Q else Q (.bl false) H3)
theorem pe_chain {op op':CmpOp} {r r':R2} (ho:OpR X (compareOp op) r) (ho':OpR X (compareOp op') r') (ha:PE X a ta) (hb:PE X b tb) (hc:PE X c tc)
  (hm:lastMarks [op,op'] [b,c]=false:=by with_unfolding_all rfl):PE X (.Compare a [op,op'] [b,c] pos) (CC r r' ta tb tc):=by
 intro pins s σ H Q I h
 refine Compare_chain (thn (ha pins s σ H _ I h) fun v s1 ⟨x,H1,I1,r1,q1⟩=>chain_link (thn (hb pins s1 σ H1 _ I1 q1) fun u s2 ⟨y,H2,I2,r2,q2⟩=>
  thn (ho pins s2 σ H2 x y v u _ I2 r1 r2 q2) fun d s3 ⟨z,H3,I3,r3,k,e,q3⟩=>?_)) hm
 subst e
 cases r3
 refine wpAny_truthy_bool ?_
 cases k with
 |false=>exact ite_ff ⟨.bl false,H3,I3,rfl,q3⟩
 |true=>exact ite_tt (chain_last (thn (hc pins s3 σ H3 _ I3 q3) fun w' s4 ⟨z',H4,I4,r4,q4⟩=>ho' pins s4 σ H4 y z' u w' Q I4 r2 r4 q4))
theorem pt_chain {op op':CmpOp} {r r':R2} (ho:OpR X (compareOp op) r) (ho':OpR X (compareOp op') r') (ha:PE X a ta) (hb:PE X b tb) (hc:PE X c tc)
  (hm:lastMarks [op,op'] [b,c]=false:=by with_unfolding_all rfl):PT X (.Compare a [op,op'] [b,c] pos) (tTest (CC r r' ta tb tc)):=by
 intro pins s σ H Q I h
 refine isTrue_chain (thn (ha pins s σ H _ I h) fun v s1 ⟨x,H1,I1,r1,q1⟩=>test_link (thn (hb pins s1 σ H1 _ I1 q1) fun u s2 ⟨y,H2,I2,r2,q2⟩=>
  thn (ho pins s2 σ H2 x y v u _ I2 r1 r2 q2) fun d s3 ⟨z,H3,I3,r3,k,e,q3⟩=>?_)) hm
 subst e
 cases r3
 refine wpAny_truthy_bool ?_
 cases k with
 |false=>
  obtain ⟨k',e',q'⟩:=q3
  cases e'
  exact ite_ff ⟨H3,I3,q'⟩
 |true=>
  refine ite_tt (test_last (thn (hc pins s3 σ H3 _ I3 q3) fun w' s4 ⟨z',H4,I4,r4,q4⟩=>thn (ho' pins s4 σ H4 y z' u w' _ I4 r2 r4 q4) fun d' s5 ⟨z2,H5,I5,r5,k2,e2,q5⟩=>?_))
  subst e2
  cases r5
  exact wpAny_truthy_bool ⟨H5,I5,q5⟩
noncomputable def TruV (K:PySem.W.Frag) (x:V) (H:Hp) (k:Bool):Prop:=
 match x with
 |.non=>k=false
 |.bl b=>k=b
 |.int i=>k=(i != 0)
 |.str y=>y.length<=sizeLine/\k=((y.length:Int) != 0)
 |.byt y=>y.size<=sizeLine/\k=((y.size:Int) != 0)
 |.ref p=>(∃xs,SqL K H p xs/\k= !xs.isEmpty)\/(∃xs,SqT K H p xs/\k= !xs.isEmpty)\/∃kvs,H p=some (.dK kvs)/\k= !kvs.isEmpty
 |_=>False
theorem BQ {κ:Type} {kvs:List (κ×V)} {vs:List (κ×Value)} (r:KV kvs vs):(!vs.isEmpty)= !kvs.isEmpty:=by
 cases r<;>rfl
theorem w6 {xs:List V} {its:List Value} (r:Vals xs its):(!its.toArray.isEmpty)= !xs.isEmpty:=by
 cases r<;>simp
theorem vY:(sizeLine:Nat)<2^63:=by rw [sizeLine_eq];decide
theorem tru_ok:TruR X (fun x H Q=>∃k,TruV X.K x H k/\Q k H):=by
 intro pins s σ H x v Q I rx h
 obtain ⟨k,e,q⟩:=h
 have hl:=vY
 have hs:sizeLine=16777216:=sizeLine_eq
 cases x with
 |non=>
  cases rx
  have e':k=false:=e
  subst e'
  exact truthy_none ⟨H,I,q⟩
 |bl b=>
  cases rx
  have e':k=b:=e
  subst e'
  exact wpAny_truthy_bool ⟨H,I,q⟩
 |int i=>
  obtain ⟨t,rfl⟩:=rx
  have e':k=(i != 0):=e
  subst e'
  exact PySem.P.truthy_int ⟨H,I,q⟩
 |str y=>
  obtain ⟨t,rfl⟩:=rx
  obtain ⟨hy,e'⟩:y.length<=sizeLine/\k=((y.length:Int) != 0):=e
  subst e'
  exact PySem.P.truthy_str (by omega) ⟨H,I.tok _,q⟩
 |byt y=>
  obtain ⟨t,rfl⟩:=rx
  obtain ⟨hy,e'⟩:y.size<=sizeLine/\k=((y.size:Int) != 0):=e
  subst e'
  exact PySem.W.truthy_bytes (by omega) ⟨H,I.tok _,q⟩
 |ref p=>
  cases rx
  have e':(∃xs,SqL X.K H p xs/\k= !xs.isEmpty)\/(∃xs,SqT X.K H p xs/\k= !xs.isEmpty)\/∃kvs,H p=some (.dK kvs)/\k= !kvs.isEmpty:=e
  rcases e' with ⟨xs,hx,e'⟩|⟨xs,hx,e'⟩|⟨kvs,hx,e'⟩
  ·subst e'
   obtain ⟨its,r,pl,hz⟩:=I.list hx
   have hlen:=r.length
   exact wpAny_truthy_list pl.isList (by simp only [List.size_toArray];omega) ⟨H,I.tok _,by rw [w6 r];exact q⟩
  ·subst e'
   obtain ⟨its,r,pl,hz⟩:=I.tuple hx
   have hlen:=r.length
   exact truthy_tuple pl (by simp only [List.size_toArray];omega) ⟨H,I.tok _,by rw [w6 r];exact q⟩
  ·subst e'
   obtain ⟨hz,hS,vs,r,m⟩:kvs.length<=sizeLine/\(p==sysModules)=false/\∃vs,KV kvs vs/\s.heap.DictOf (zT X.prog X.w) p vs:=I.hok p _ hx
   have hlen:kvs.length=vs.length:=Paired.length r
   exact wpAny_truthy_dict hS m (by omega) ⟨H,I.tok _,by rw [BQ r];exact q⟩
 |_=>exact (show False from e).elim
theorem pt_truth (ha:PE X a ta) (he:∀whole,isTrue a X.env whole=(do let v <- whole;standAt a.pos;holding [v] (truthy v))) :
  PT X a (fun σ H Q=>ta σ H fun x H'=>∃k,TruV X.K x H' k/\Q k H'):=by
 intro pins s σ H Q I h
 exact isTrue_plain (thn (ha pins s σ H _ I h) fun v s1 ⟨x,H1,I1,r1,q1⟩=>tru_ok pins s1 σ H1 x v Q I1 r1 q1) (he _)
theorem BF:OpR X (binaryOp .Add) (fun x y H Q=>∃i j,x=.str i/\y=.str j/\i.length+j.length<=sizeLine/\Q (.str (i++j)) H):=by
 intro pins s σ H x y v u Q I rx ry h
 obtain ⟨i,j,rfl,rfl,hz,q⟩:=h
 obtain ⟨t,rfl⟩:=rx
 obtain ⟨t',rfl⟩:=ry
 exact add_str (fun t' tk=>⟨.str (i++j),H,I.tok _,⟨_,rfl⟩,q⟩) hz
theorem vals1 {x:V} {us:List Value} (r:Vals [x] us):∃u,us=[u]/\RelV x u:=by
 cases r with
 |cons r1 r2=>cases r2;exact ⟨_,rfl,r1⟩
theorem vals2 {x y:V} {us:List Value} (r:Vals [x,y] us):∃u w',us=[u,w']/\RelV x u/\RelV y w':=by
 cases r with
 |cons r1 r2=>
  cases r2 with
  |cons r3 r4=>cases r4;exact ⟨_,_,rfl,r1,r3⟩
theorem Ei (hc:X.calm=true):eA X (.builtin "max") (fun xs H Q=>∃i j,xs=[.int i,.int j]/\Q (.int (if j>i then j else i)) H):=by
 intro pins s σ H xs us Q I r h
 obtain ⟨i,j,rfl,q⟩:=h
 obtain ⟨u,w',rfl,⟨t,rfl⟩,⟨t',rfl⟩⟩:=vals2 r
 refine max_two_ints (I.ok.hd hc) fun h' tk k=>⟨_,H,I.kept k,?_,q⟩
 by_cases hj:j>i
 ·rw [if_pos hj,if_pos hj];exact ⟨_,rfl⟩
 ·rw [if_neg hj,if_neg hj];exact ⟨_,rfl⟩
theorem Eg (hc:X.calm=true):eA X (.builtin "min") (fun xs H Q=>∃i j,xs=[.int i,.int j]/\Q (.int (if j<i then j else i)) H):=by
 intro pins s σ H xs us Q I r h
 obtain ⟨i,j,rfl,q⟩:=h
 obtain ⟨u,w',rfl,⟨t,rfl⟩,⟨t',rfl⟩⟩:=vals2 r
 refine min_two_ints (I.ok.hd hc) fun h' tk k=>⟨_,H,I.kept k,?_,q⟩
 by_cases hj:j<i
 ·rw [if_pos hj,if_pos hj];exact ⟨_,rfl⟩
 ·rw [if_neg hj,if_neg hj];exact ⟨_,rfl⟩
theorem Ej:eA X (.type "int") (fun xs H Q=>(∃i,xs=[.int i]/\Q (.int i) H)\/∃k,xs=[.bl k]/\Q (.int (if k then 1 else 0)) H):=by
 intro pins s σ H xs us Q I r h
 rcases h with ⟨i,rfl,q⟩|⟨k,rfl,q⟩
 ·obtain ⟨u,rfl,t,rfl⟩:=vals1 r
  exact call_int_int ⟨.int i,H,I,⟨_,rfl⟩,q⟩
 ·obtain ⟨u,rfl,r1⟩:=vals1 r
  cases r1
  exact call_int_bool ⟨.int (if k then 1 else 0),H,I.tok _,⟨_,rfl⟩,q⟩
end
end L2
namespace L2
open PySem PySem.Spec PyProof.Rows
structure ObjM (h:Heap) (x dx C:Addr) (mA:Str->Option Value):Prop where
 obj:h.get? x=some (PySem.W.instObj C dx)
 ns:h.Ns1 dx mA
 ne:dx≠x
theorem Dp {h:Heap} {dx:Addr} {mA:Str->Option Value} (n:h.Ns1 dx mA):∃od,h.get? dx=some od/\∀name,lookIn name od=some (mA name):=by
 obtain ⟨o,es,ep,ho,hd,hk,_,hm⟩:=n
 refine ⟨o,ho,fun name=>?_⟩
 have e:=hm name
 unfold nsFind findBy at e
 rw [<- Array.find?_toList] at e
 unfold lookIn
 rw [hd]
 dsimp only
 split
 ·rename_i y q
  rw [q] at e
  exact congrArg some e
 ·rename_i q
  rw [q] at e
  have a:es.toList.any (·.refKey)=false:=by
   rw [List.any_eq_false]
   intro y hy
   obtain ⟨z,t,hkey⟩:=hk y (Array.mem_toList_iff.mp hy)
   simp [DictEntry.refKey,hkey]
  have a':¬es.toList.any (·.refKey)=true:=by rw [a];exact Bool.false_ne_true
  rw [if_neg a']
  exact congrArg some e
theorem ObjM.look {h:Heap} {x dx C:Addr} {mA:Str->Option Value} (I:ObjM h x dx C mA):∃od,PySem.W.InstAt h x (PySem.W.instObj C dx) C (some od)/\∀name,lookIn name od=some (mA name):=
 let ⟨od,ho,hl⟩:=Dp I.ns
 ⟨od,⟨I.obj,rfl,rfl,ho⟩,hl⟩
section
variable {prog:Program} {w:World} {A:Around} {E:Value->Shared->Prop} {s:Shared} {K:PySem.W.Frag} {x dx C f:Addr} {mA:Str->Option Value} {name:Str} {v:Value}
theorem get_map {expr:Bool} {Q:Value->Shared->Prop} (X:K.In s.heap) (I:ObjM s.heap x dx C mA) (hg:PySem.W.plainGet K C name=true) (hh:PySem.W.hasDictIn K C=true)
  (ha:PySem.W.findIn K (.ref C) name=some none) (hv:mA name=some v) (hv':PySem.W.handedIn v=true) (h:Q v {s with toks:=s.toks+1}) :
  wpAny (model prog w) A (getAttr (.ref x) name expr) Q E s:=by
 obtain ⟨od,J,hl⟩:=I.look
 exact PySem.W.get_value X J (PySem.W.plainGet_of hg).1 (PySem.W.findObj_own hh ha rfl (by rw [hl,hv])) hv' h
theorem get_meth {pl:Sem Bool} {Q:Value×List Value->Shared->Prop} (X:K.In s.heap) (I:ObjM s.heap x dx C mA) (hg:PySem.W.plainGet K C name=true)
  (hf:PySem.W.findIn K (.ref C) name=some (some (.ref f))) (ht:PySem.W.isFn K (.ref f)=true) (hv:mA name=none) (h:Q (.ref f,[.ref x]) s) :
  wpAny (model prog w) A (getMethod (.ref x) name pl) Q E s:=by
 obtain ⟨od,J,hl⟩:=I.look
 exact PySem.W.method_fn X J (PySem.W.plainGet_of hg).1 (PySem.W.plainGet_of hg).2 hf (beq_iff_eq.mp ht) (by show (lookIn name od).map (·.isSome)=some false;rw [hl,hv];rfl) h
theorem set_map {ns:List Str} {Q:Unit->Shared->Prop} (X:K.In s.heap) (I:ObjM s.heap x dx C mA)
  (hs:PySem.W.findIn K (.ref C) "__setattr__"=some (some (.builtin "object.__setattr__"))) (hp:plainOver K C=true) (ht:takerIn K C name=some none) (hh:PySem.W.hasDictIn K C=true)
  (hw:PySem.Within mA ns) (hsz:ns.length<=sizeLine)
  (h:∀h',ObjM h' x dx C (fun y=>if y=name then some v else mA y)->Heap.SameBut dx s.heap h'->Q () {s with heap:=h',toks:=s.toks+2}) :
  wpAny (model prog w) A (setAttr (.ref x) name v) Q E s:=by
 obtain ⟨od,J,hl⟩:=I.look
 refine PySem.W.set_plain X J hs (PySem.W.osa_open (s:={s with toks:=s.toks+1}) (r:=none) X J hp ht fun b=>?_)
 obtain ⟨cd,hc,hd'⟩:=PySem.W.any_some hh
 have hx:s.heap.get? x=some ⟨.ref C,some dx,.plain,#[]⟩:=I.obj
 refine wpAny_bind (wpAny_pure (wpAny_bind (wpAny_bind (wpAny_loadPart hx (wpAny_bind (PySem.W.Looks.here (s:={s with toks:=s.toks+1}) (PySem.W.looks_clsIn X hc) ?_))))))
 rw [hd']
 refine wpAny_pure (a:=some dx) (wpAny_bind (wpAny_pure (wpAny_bind ?_)))
 refine wpAny_nsSet1 (s:={s with toks:=s.toks+1}) I.ns fun h' hn2 hs2=>?_
 obtain ⟨oD,esD,epD,hoD,hdD,hcD⟩:=hn2.count (PySem.Within.cons name v hw)
 refine wpAny_bind (wpAny_lookBehind hoD (by rw [hdD];exact pastItsLine_dict (Nat.le_trans hcD (by rw [List.length_cons];omega))) ?_)
 exact wpAny_pure (h _ ⟨(hs2.2 _ (Ne.symm I.ne)).trans I.obj,hn2,I.ne⟩ hs2)
theorem make_map {R:Result->Shared->Prop} {vs:List Value} {kw:List (Str×Value)} (X:K.In s.heap) (hm:PySem.W.makesIn K C=true)
  (hi:PySem.W.findIn K (.ref C) "__init__"=some (some (.ref f))) (hf:typeIn K (.ref f)=some (.type "function"))
  (h:codeAny (model prog w) (A.under (.builtin "type.__call__" ⟨.ref C::vs,kw⟩)) (.call (.ref f) ⟨.ref (s.heap.objs.size+1)::vs,kw⟩) (PySem.W.InitBack (s.heap.objs.size+1) R)
   {s with heap:=(s.heap.push PySem.W.emptyDict).push (PySem.W.instObj C s.heap.objs.size)}) :
  codeAny (model prog w) A (.call (.ref C) ⟨vs,kw⟩) R s:=by
 obtain ⟨hh,g,d,t,os⟩:=s
 exact PySem.W.make_core (PySem.W.makes_of X hm) (PySem.W.looks_findIn X hi) (fun self=>PySem.W.bind_fn X self hf) (.inl rfl) h
end
noncomputable def xU (f:Str) (v:V):List (Str×V)->List (Str×V)
 |[]=>[(f,v)]
 |(g,x)::r=>if g=f then (g,v)::r else (g,x)::xU f v r
theorem uO (f g:Str) (v:V):∀fs:List (Str×V),(xU f v fs).lookup g=if g=f then some v else fs.lookup g
 |[]=>by
  show List.lookup g [(f,v)]=_
  by_cases h:g=f
  ·have hb:(g==f)=true:=beq_iff_eq.mpr h
   simp only [List.lookup,hb,if_pos h]
  ·have hb:(g==f)=false:=beq_eq_false_iff_ne.mpr h
   simp only [List.lookup,hb,if_neg h]
 |(k,x)::r=>by
  have ih:=uO f g v r
  rw [show xU f v ((k,x)::r)=(if k=f then (k,v)::r else (k,x)::xU f v r) from rfl]
  by_cases hk:k=f
  ·rw [if_pos hk]
   by_cases h:g=k
   ·have hb:(g==k)=true:=beq_iff_eq.mpr h
    simp only [List.lookup,hb,if_pos (h.trans hk)]
   ·have hb:(g==k)=false:=beq_eq_false_iff_ne.mpr h
    simp only [List.lookup,hb,if_neg (fun e:g=f=>h (e.trans hk.symm))]
  ·rw [if_neg hk]
   by_cases h:g=k
   ·have hb:(g==k)=true:=beq_iff_eq.mpr h
    simp only [List.lookup,hb,if_neg (fun e:g=f=>hk (h.symm.trans e))]
   ·have hb:(g==k)=false:=beq_eq_false_iff_ne.mpr h
    simp only [List.lookup,hb]
    exact ih
theorem uR (f:Str) (v:V):∀fs:List (Str×V),f∈(xU f v fs).map (·.1)/\∀g,g∈fs.map (·.1)->g∈(xU f v fs).map (·.1)
 |[]=>⟨by simp [xU],fun g h=>by simp at h⟩
 |(k,x)::r=>by
  obtain ⟨i1,i2⟩:=uR f v r
  rw [show xU f v ((k,x)::r)=(if k=f then (k,v)::r else (k,x)::xU f v r) from rfl]
  by_cases hk:k=f
  ·rw [if_pos hk]
   subst hk
   exact ⟨by simp,fun g h=>by simpa using h⟩
  ·rw [if_neg hk]
   refine ⟨?_,fun g h=>?_⟩
   ·rw [List.map_cons]
    exact List.mem_cons_of_mem _ i1
   ·rw [List.map_cons] at h ⊢
    rcases List.mem_cons.mp h with e|e
    ·exact List.mem_cons.mpr (.inl e)
    ·exact List.mem_cons_of_mem _ (i2 g e)
theorem uQ (f:Str) (v:V):∀fs:List (Str×V),(xU f v fs).length<=fs.length+1
 |[]=>by simp [xU]
 |(k,x)::r=>by
  have ih:=uQ f v r
  rw [show xU f v ((k,x)::r)=(if k=f then (k,v)::r else (k,x)::xU f v r) from rfl]
  by_cases hk:k=f
  ·rw [if_pos hk,List.length_cons,List.length_cons];omega
  ·rw [if_neg hk,List.length_cons,List.length_cons];omega
theorem Ck.some_of {v:V} {o:Option Value} (r:Ck (some v) o):∃u,o=some u/\RelV v u:=by
 cases o with
 |none=>exact (show False from r).elim
 |some u=>exact ⟨u,rfl,r⟩
theorem Ck.none_of {o:Option Value} (r:Ck none o):o=none:=by
 cases o with
 |none=>rfl
 |some u=>exact (show False from r).elim
theorem DD {v:V} {u:Value} (r:RelV v u):PySem.W.handedIn u=true:=by
 cases v with
 |non=>cases (show u=Value.none from r);rfl
 |bl b=>cases (show u=Value.bool b from r);rfl
 |int i=>obtain ⟨t,e⟩:=(show ∃t,u=Value.int i t from r);cases e;rfl
 |str x=>obtain ⟨t,e⟩:=(show ∃t,u=Value.str x t from r);cases e;rfl
 |byt b=>obtain ⟨t,e⟩:=(show ∃t,u=Value.bytes b t from r);cases e;rfl
 |flt b=>obtain ⟨t,e⟩:=(show ∃t,u=Value.float b t from r);cases e;rfl
 |ref a=>cases (show u=Value.ref a from r);rfl
 |ty n=>cases (show u=Value.type n from r);rfl
section
variable {P:Program} {w:World} {H H':Hp} {h h':Heap} {a C dx:Addr} {fs fs':List (Str×V)}
theorem xm (hok:HOk P w H h) (e:H a=some (.ins C dx fs)):∃mA,ObjM h a dx C mA/\(∀f,Ck (fs.lookup f) (mA f))/\PySem.Within mA (fs.map (·.1))/\fs.length<=1000/\H dx=some (.own a):=by
 obtain ⟨d,z,ne,ob,mA,n,r,q⟩:=(show jQ P w H h a (.ins C dx fs) from hok a _ e)
 exact ⟨mA,⟨ob,n,ne⟩,r,q,z,d⟩
end
structure Cls (K:PySem.W.Frag) (C:Addr):Prop where
 pg:PySem.W.plainGet K C Str.empty=true
 hd:PySem.W.hasDictIn K C=true
 po:plainOver K C=true
 sa:PySem.W.findIn K (.ref C) "__setattr__"=some (some (.builtin "object.__setattr__"))
theorem Cls.get {K:PySem.W.Frag} {C:Addr} (c:Cls K C) (f:Str):PySem.W.plainGet K C f=true:=c.pg
noncomputable def oN (K:PySem.W.Frag) (C:Addr) (f:Str):Prop:=PySem.W.findIn K (.ref C) f=some none
theorem oN.taker {K:PySem.W.Frag} {C:Addr} {f:Str} (n:oN K C f):takerIn K C f=some none:=by
 unfold takerIn
 rw [show PySem.W.findIn K (.ref C) f=some none from n]
 rfl
structure Con (K:PySem.W.Frag) (C:Addr) (f:Str) (v:V) (u:Value):Prop where
 at_:PySem.W.findIn K (.ref C) f=some (some u)
 rel:RelV v u
 get:specialIn K u "__get__"=some none
 cp:PySem.W.copiedNames.contains f=false
structure Meth (K:PySem.W.Frag) (C:Addr) (m:Str) (f:Addr):Prop where
 at_:PySem.W.findIn K (.ref C) m=some (some (.ref f))
 fn:PySem.W.isFn K (.ref f)=true
 kp:keepIn K (.ref f)=true
section
variable {X:Cx} {pins:List (Addr×Obj)} {σ:St} {H:Hp} {s:Shared} {a C dx:Addr} {fs:List (Str×V)} {f:Str} {v:V} {A:Around} {E:Value->Shared->Prop}
theorem BR {b:Bool} {Q:Value->Shared->Prop} (I:Inv X pins σ H s) (e:H a=some (.ins C dx fs)) (c:Cls X.K C) (n:oN X.K C f) (l:fs.lookup f=some v)
  (h:∀u s',Inv X pins σ H s'->RelV v u->Q u s'):wpAny (model X.prog X.w) A (getAttr (.ref a) f b) Q E s:=by
 obtain ⟨mA,O,r,_,_,_⟩:=xm I.hok e
 obtain ⟨u,hu,ru⟩:=Ck.some_of (v:=v) (o:=mA f) (by rw [<- l];exact r f)
 exact get_map I.kIn O (c.get f) c.hd n hu (DD ru) (h u _ (I.tok _) ru)
theorem sZ {m:Str} {g:Addr} {pl:Sem Bool} {Q:Value×List Value->Shared->Prop} (I:Inv X pins σ H s) (e:H a=some (.ins C dx fs)) (c:Cls X.K C) (k:Meth X.K C m g) (l:fs.lookup m=none)
  (h:Q (.ref g,[.ref a]) s):wpAny (model X.prog X.w) A (getMethod (.ref a) m pl) Q E s:=by
 obtain ⟨mA,O,r,_,_,_⟩:=xm I.hok e
 have hn:mA m=none:=Ck.none_of (by rw [<- l];exact r m)
 exact get_meth I.kIn O (c.get m) k.at_ k.fn hn h
theorem By {y:V} {u:Value} {Q:Unit->Shared->Prop} (I:Inv X pins σ H s) (e:H a=some (.ins C dx fs)) (c:Cls X.K C) (n:oN X.K C f) (hl:fs.length<1000) (ry:RelV y u)
  (h:∀s',Inv X pins σ (upd H a (.ins C dx (xU f y fs))) s'->Q () s'):wpAny (model X.prog X.w) A (setAttr (.ref a) f u) Q E s:=by
 obtain ⟨mA,O,r,wi,_,ho⟩:=xm I.hok e
 have hz:(fs.map (·.1)).length<=sizeLine:=by rw [List.length_map,sizeLine_eq];omega
 refine set_map I.kIn O c.sa c.po n.taker c.hd wi hz fun h' O' sb=>h _ ?_
 have hd:∃o,h'.get? dx=some o:=let ⟨o,_,_,e',_⟩:=O'.ns;⟨o,e'⟩
 refine I.write (x:=a) (e:=dx) (by rw [e];exact True.intro) (.inr ho) (fun b q hb z=>(sb.2 b hb).trans z) hd ?_
 refine ⟨by rw [aL O.ne];exact ho,?_,O.ne,O'.obj,_,O'.ns,fun g=>?_,fun g hg=>?_⟩
 ·have:=uQ f y fs;omega
 ·show Ck ((xU f y fs).lookup g) (if g=f then some u else mA g)
  rw [uO]
  by_cases q:g=f
  ·rw [if_pos q,if_pos q];exact ry
  ·rw [if_neg q,if_neg q];exact r g
 ·by_cases q:g=f
  ·rw [q];exact (uR f y fs).1
  ·refine (uR f y fs).2 g (wi g fun z=>hg ?_)
   show (if g=f then some u else mA g)=none
   rw [if_neg q];exact z
theorem Inv.made (I:Inv X pins σ H s):Inv X pins σ (upd (upd H s.heap.objs.size (.own (s.heap.objs.size+1))) (s.heap.objs.size+1) (.ins C s.heap.objs.size []))
  {s with heap:=(s.heap.push PySem.W.emptyDict).push (PySem.W.instObj C s.heap.objs.size)}:=by
 have e1:(s.heap.push PySem.W.emptyDict).get? s.heap.objs.size=some PySem.W.emptyDict:=Heap.get?_push_size s.heap rfl
 have e2:((s.heap.push PySem.W.emptyDict).push (PySem.W.instObj C s.heap.objs.size)).get? (s.heap.objs.size+1)=some (PySem.W.instObj C s.heap.objs.size):=by
  have:=Heap.get?_push_size (s.heap.push PySem.W.emptyDict) (o:=PySem.W.instObj C s.heap.objs.size) rfl
  rwa [Heap.size_push] at this
 have e3:(s.heap.push PySem.W.emptyDict).Ns s.heap.objs.size (fun _=>none):=⟨PySem.W.emptyDict,#[],_,e1,rfl,(fun e he=>absurd he (by simp)),fun _=>rfl⟩
 have I1:=I.laid (a:=s.heap.objs.size) (o:=.own (s.heap.objs.size+1)) (h':=s.heap.push PySem.W.emptyDict) (t':=s.toks) (fun b u q=>Heap.get?_push_of_some _ q) (Nat.le_refl _) ⟨_,e1⟩
 refine I1.laid (a:=s.heap.objs.size+1) (o:=.ins C s.heap.objs.size []) (t':=s.toks) (fun b u q=>Heap.get?_push_of_some _ q) (Nat.le_of_eq (Heap.size_push _ _)) ?_
 have ne:s.heap.objs.size≠s.heap.objs.size+1:=Nat.ne_of_lt (Nat.lt_succ_self _)
 refine ⟨by rw [aL ne,aP],Nat.zero_le _,ne,e2,fun _=>none,(Heap.Ns1.of_empty e3).at fun o q=>Heap.get?_push_of_some _ q,fun _=>True.intro,fun y hy=>absurd rfl hy⟩
theorem attr_of {prog:Program} {w:World} {env:Env} {e:Expr} {f:Str} {pos:Pos} {s:Shared} {Q:Value->Shared->Prop} (hb:attributeBase e f env (eval e env)=eval e env)
  (h:wpAny (model prog w) A (eval e env) (fun o s₁=>wpAny (model prog w) A (getAttr o f true) Q E s₁) E s):wpAny (model prog w) A (eval (.Attribute e f pos) env) Q E s:=
 Attribute_any_ h (by rw [arm_eval_Attribute,hb])
end
noncomputable def tFld (K:PySem.W.Frag) (ta:TE) (f:Str):TE:=fun σ H Q=>ta σ H fun x H1=>∃a C dx fs v,x=.ref a/\H1 a=some (.ins C dx fs)/\Cls K C/\oN K C f/\fs.lookup f=some v/\Q v H1
noncomputable def sFld (K:PySem.W.Frag) (ta tv:TE) (f:Str):TS:=fun D σ H=>tv σ H fun y H1=>ta σ H1 fun x H2=>∃a C dx fs,x=.ref a/\H2 a=some (.ins C dx fs)/\Cls K C/\oN K C f/\fs.length<1000 /\
 D.nx σ (upd H2 a (.ins C dx (xU f y fs)))
section
variable {X:Cx} {o e value:Expr} {f:Str} {pos pos' tpos:Pos} {ta tv:TE}
theorem D4 (he:PE X e ta) (hb:attributeBase e f X.env (eval e X.env)=eval e X.env):PE X (.Attribute e f pos) (tFld X.K ta f):=by
 intro pins s σ H Q I h
 refine attr_of hb (thn (he pins s σ H _ I h) fun u s1 ⟨x,H1,I1,rx,a,C,dx,fs,v,ex,ea,c,n,l,q⟩=>?_)
 subst ex
 obtain rfl:u=Value.ref a:=rx
 exact BR I1 ea c n l fun u' s2 I2 ru=>⟨v,H1,I2,ru,q⟩
theorem ps_fld (ha:PE X o ta) (hv:PE X value tv) (hs:swapsWith value (some (.Attribute o f pos')) pos.line X.env=pure false):PS X (.Assign [.Attribute o f pos'] value pos) (sFld X.K ta tv f):=by
 intro pins s σ H D I h
 refine plainObj_wpAny_Assign_Attribute (thn (hv pins s σ H _ I h) fun u s1 ⟨y,H1,I1,ry,q⟩=>thn (ha pins s1 σ H1 _ I1 q) fun ov s2 ⟨x,H2,I2,rx,a,C,dx,fs,ex,ea,c,n,l,q2⟩=>?_) hs
 subst ex
 obtain rfl:ov=Value.ref a:=rx
 exact By I2 ea c n l ry fun s3 I3=>⟨σ,_,I3,q2⟩
theorem methcall_of {pl:Sem Bool} {m:Str} {apos:Pos} {args:List Expr} {pins:List (Addr×Obj)} {s:Shared} {σ:St} {H:Hp} {Q:Value->Shared->Prop} {te:TE} (he:PE X e te) (I:Inv X pins σ H s)
  (h:te σ H fun x H1=>∃a C dx fs g,x=.ref a/\H1 a=some (.ins C dx fs)/\Cls X.K C/\Meth X.K C m g/\fs.lookup m=none /\
   ∀s1,Inv X pins σ H1 s1->wpAny (model X.prog X.w) X.A (callWith pos (.ref g) [.ref a] (backTo pos (starEach args X.env)) (backToKw pos (keywordEach [] X.env))) Q X.xe s1)
  (ht:eval (.Call (.Attribute e m apos) args [] pos) X.env=(do
   let ov <- eval e X.env
   standAt apos.atName
   let (f,first) <- holding [ov] (getMethod ov m pl)
   callWith pos f first (backTo pos (starEach args X.env)) (backToKw pos (keywordEach [] X.env)))) :
  wpAny (model X.prog X.w) X.A (eval (.Call (.Attribute e m apos) args [] pos) X.env) Q X.xe s:=by
 refine PySem.W.methodCall_KW (pl:=pl) (thn (he pins s σ H _ I h) fun u s1 ⟨x,H1,I1,rx,a,C,dx,fs,g,ex,ea,c,k,l,q⟩=>?_) ht
 subst ex
 obtain rfl:u=Value.ref a:=rx
 exact sZ I1 ea c k l (q s1 I1)
end
section
variable {X:Cx} {pins:List (Addr×Obj)} {σ:St} {H:Hp} {s:Shared} {A:Around} {E:Value->Shared->Prop} {Q:Value->Shared->Prop} {c:Value} {b:Bool}
inductive Ay (K:PySem.W.Frag) (H:Hp):V->Value->Prop where
 |non:Ay K H .non (.type "NoneType")
 |bl (x:Bool):Ay K H (.bl x) (.type "bool")
 |int (i:Int):Ay K H (.int i) (.type "int")
 |str (x:Str):Ay K H (.str x) (.type "str")
 |flt (x:UInt64):Ay K H (.flt x) (.type "float")
 |lst {a:Addr} {xs:List V} (e:H a=some (.lst xs)):Ay K H (.ref a) (.type "list")
 |frz {a:Addr} {o:Obj} {xs:List V} (e:H a=some (.frz o (.lst xs))):Ay K H (.ref a) (.type "list")
 |tup {a:Addr} {xs:List V} (e:H a=some (.tup xs)):Ay K H (.ref a) (.type "tuple")
 |dK {a:Addr} {kvs:List (Key×V)} (e:H a=some (.dK kvs)):Ay K H (.ref a) (.type "dict")
 |dT {a:Addr} {kvs:List (List Key×V)} (e:H a=some (.dT kvs)):Ay K H (.ref a) (.type "dict")
 |ins {a C dx:Addr} {fs:List (Str×V)} (e:H a=some (.ins C dx fs)) (cl:Cls K C) (ha:PySem.W.findIn K (.ref C) "__class__"=some (some (.builtin "object.__class__")))
   (hn:specialIn K (.builtin "object.__class__") "__get__"=some (some (.builtin "getset_descriptor.__get__"))) (htk:takesIn K (.builtin "object.__class__")=some true)
   (hm:PySem.W.mroIn K C (.type "object")=some true):Ay K H (.ref a) (.ref C)
theorem yM {x:V} {u t:Value} (I:Inv X pins σ H s) (rx:RelV x u) (ty:Ay X.K H x t) (e:kitOne X.K t c=some b) (h:∀tk,Q (.bool b) {s with toks:=tk}) :
  wpAny (model X.prog X.w) A (call (.builtin "isinstance") [u,c]) Q E s:=by
 cases ty with
 |non=>cases (show u=Value.none from rx);exact kia_one PySem.W.kitx_none I.kIn True.intro e (fun z=>nomatch z) h
 |bl y=>cases (show u=Value.bool y from rx);exact kia_one PySem.W.kitx_bool I.kIn True.intro e (fun z=>nomatch z) h
 |int i=>obtain ⟨t,q⟩:=(show ∃t,u=Value.int i t from rx);cases q;exact kia_one PySem.W.kitx_int I.kIn True.intro e (fun z=>nomatch z) h
 |str y=>obtain ⟨t,q⟩:=(show ∃t,u=Value.str y t from rx);cases q;exact kia_one PySem.W.kitx_str I.kIn True.intro e (fun z=>nomatch z) h
 |flt y=>obtain ⟨t,q⟩:=(show ∃t,u=Value.float y t from rx);cases q;exact kia_one PySem.W.kitx_float I.kIn True.intro e (fun z=>nomatch z) h
 |@lst a xs ea=>
  cases (show u=Value.ref a from rx)
  obtain ⟨_,_,n,_,h1⟩:=(show jQ X.prog X.w H s.heap a (.lst xs) from I.hok a _ ea)
  exact kia_one PySem.W.kitx_list I.kIn ⟨_,h1,rfl⟩ e (fun z=>nomatch z) h
 |@frz a ob xs ea=>
  cases (show u=Value.ref a from rx)
  obtain ⟨_,_,_,n,_,h1⟩:=(show jQ X.prog X.w H s.heap a (.frz ob (.lst xs)) from I.hok a _ ea)
  exact kia_one PySem.W.kitx_list I.kIn ⟨_,h1,rfl⟩ e (fun z=>nomatch z) h
 |@tup a xs ea=>
  cases (show u=Value.ref a from rx)
  obtain ⟨_,_,_,p⟩:=(show jQ X.prog X.w H s.heap a (.tup xs) from I.hok a _ ea)
  obtain ⟨o,h1,h2,_⟩:=p
  exact kia_one PySem.W.kitx_tuple I.kIn ⟨o,h1,h2⟩ e (fun z=>nomatch z) h
 |@dK a kvs ea=>
  cases (show u=Value.ref a from rx)
  obtain ⟨_,_,vs,_,p⟩:=(show jQ X.prog X.w H s.heap a (.dK kvs) from I.hok a _ ea)
  obtain ⟨o,es,ep,h1,h2,_⟩:=p
  exact kia_one PySem.W.kitx_dict I.kIn ⟨o,h1,h2.1⟩ e (fun z=>nomatch z) h
 |@dT a kvs ea=>
  cases (show u=Value.ref a from rx)
  obtain ⟨_,_,xs,_,o,es,ep,h1,h2,_⟩:=(show jQ X.prog X.w H s.heap a (.dT kvs) from I.hok a _ ea)
  exact kia_one PySem.W.kitx_dict I.kIn ⟨o,h1,h2.1⟩ e (fun z=>nomatch z) h
 |@ins a C dx fs ea cl ha hn htk hm=>
  cases (show u=Value.ref a from rx)
  obtain ⟨mA,O,_⟩:=xm I.hok ea
  obtain ⟨od,J,_⟩:=O.look
  exact kia_one (PySem.W.kitx_own (cl.get _) cl.hd ha hn htk hm) I.kIn J e (fun z=>nomatch z) h
end
end L2
namespace L2
open PySem PySem.Spec PyProof.Rows
structure oQ (k:Nat) (A:Around):Prop where
 hd:A.handled=none
 dp:A.depth+3*k+5<recursionLimit
 un:A.units+16*k+200<cLine
theorem oQ.mono {j k:Nat} {A:Around} (r:oQ k A) (h:j<=k):oQ j A:=⟨r.hd,by have:=r.dp;omega,by have:=r.un;omega⟩
theorem oQ.deeper {k:Nat} {A:Around} (r:oQ (k+1) A) (env:Env):oQ k (A.deeper env):=
 ⟨r.hd,by have:=r.dp;show A.depth+1+3*k+5<_;omega,by have:=r.un;show A.units+3+16*k+200<_;omega⟩
theorem BL {A:Around} {C:Addr} {us:List Value} {kw:List (Str×Value)}:(A.under (.builtin "type.__call__" ⟨.ref C::us,kw⟩)).depth=A.depth+1:=by
 first|rfl|simp [Around.under,Code.weight,Code.isCreation,Code.isGuard,Code.isCaller,Code.frames,Code.isFrame,guardIds]
theorem BK {A:Around} {C:Addr} {us:List Value} {kw:List (Str×Value)}:(A.under (.builtin "type.__call__" ⟨.ref C::us,kw⟩)).units=A.units+1:=by
 first|rfl|simp [Around.under,Code.cUnits,Code.frames,Code.isFrame]
theorem oQ.make {k:Nat} {A:Around} (r:oQ (k+1) A) (C:Addr) (us:List Value) (kw:List (Str×Value)):oQ k (A.under (.builtin "type.__call__" ⟨.ref C::us,kw⟩)):=
 ⟨r.hd,by have:=r.dp;rw [BL];omega,by have:=r.un;rw [BK];omega⟩
theorem oQ.depth {k:Nat} {A:Around} (r:oQ k A):A.depth<recursionLimit:=by have:=r.dp;omega
theorem oQ.units {k:Nat} {A:Around} (r:oQ k A):A.units+64<cLine:=by have:=r.un;omega
noncomputable def tNil:TA:=fun _ H Q=>Q [] H
noncomputable def zB (ta:TE) (tr:TA):TA:=fun σ H Q=>ta σ H fun x H1=>tr σ H1 fun xs H2=>Q (x::xs) H2
section
variable {X:Cx} {e:Expr} {es:List Expr} {te:TE} {t:TA} {pos:Pos}
theorem fE:PA X [] tNil:=fun _ _ _ _ H Q I h=>Calls.spliced_nil ⟨[],H,I,.nil,h⟩
theorem bc (ha:PE X e te) (hr:PA X es t) (hs:starEach (e::es) X.env=(false,eval e X.env)::starEach es X.env:=by rfl):PA X (e::es) (zB te t):=by
 intro pos pins s σ H Q I h
 rw [hs]
 show wpAny _ _ (spliced ((false,eval e X.env)::backTo pos (starEach es X.env))) _ _ s
 refine Calls.spliced_cons (thn (ha pins s σ H _ I h) fun u s1 ⟨x,H1,I1,r1,q1⟩=>?_)
 exact thn (hr pos pins s1 σ H1 _ I1 q1) fun us s2 ⟨xs,H2,I2,r2,q2⟩=>⟨x::xs,H2,I2,.cons r1 r2,q2⟩
noncomputable def tTup (t:TA):TE:=fun σ H Q=>t σ H fun xs H1=>xs.length<=sizeLine/\∀p,H1 p=none->Q (.ref p) (upd H1 p (.tup xs))
noncomputable def tLst (t:TA):TE:=fun σ H Q=>t σ H fun xs H1=>xs.length<=sizeLine/\∀p,H1 p=none->Q (.ref p) (upd H1 p (.lst xs))
theorem D1 {x1} (h:PA X es t):PE X (.Tuple es x1 pos) (tTup t):=by
 intro pins s σ H Q I hq
 refine wpAny_Tuple_spliced (thn (h pos pins s σ H _ I hq) fun us s1 ⟨xs,H1,I1,r,z,q⟩=>⟨by rw [<- r.length];exact z,?_⟩)
 have hf:H1 s1.heap.objs.size=none:=I1.hok.fresh (Nat.le_refl _)
 refine ⟨.ref s1.heap.objs.size,upd H1 s1.heap.objs.size (.tup xs),I1.laid (t':=s1.toks) (fun b u e=>Heap.get?_push_of_some _ e) (Nat.le_refl _) ?_,rfl,q _ hf⟩
 exact ⟨z,us,r,⟨_,Heap.get?_push_size _ rfl,rfl,_,rfl⟩⟩
theorem pe_lst (h:PA X es t):PE X (.List es pos) (tLst t):=by
 intro pins s σ H Q I hq
 refine wpAny_List_spliced (thn (h pos pins s σ H _ I hq) fun us s1 ⟨xs,H1,I1,r,z,q⟩=>⟨by rw [<- r.length];exact z,?_⟩)
 have hf:H1 s1.heap.objs.size=none:=I1.hok.fresh (Nat.le_refl _)
 refine ⟨.ref s1.heap.objs.size,upd H1 s1.heap.objs.size (.lst xs),I1.laid (t':=s1.toks) (fun b u e=>Heap.get?_push_of_some _ e) (Nat.le_refl _) ?_,rfl,q _ hf⟩
 exact ⟨z,us,0,r,Heap.get?_push_size _ rfl⟩
end
noncomputable abbrev Sp:=List V->Hp->VK->XK->Prop
noncomputable abbrev CXT:=List Env->Hp->Shared->XK->Value->Shared->Prop
structure Env0 (P:Program) (w:World) (K:PySem.W.Frag) (mg:Str->Option Value) (base:Heap) (A:Around) (outer:List Env) (s:Shared) (H:Hp):Prop where
 frames:A.frames=some outer
 mod:Mod K mg base
 bs:∀b o,base.get? b=some o->s.heap.get? b=some o/\H b=none
 bsz:base.objs.size<=s.heap.objs.size
 Cj:s.heap.FunFrames base outer
 frf:∀b∈frs outer,H b=none
 hok:HOk P w H s.heap
 bare:AllBare s.gens
noncomputable def CE (outer:List Env) (P:Program) (w:World) (H:Hp) (s:Shared) (Q:VK) (u:Value) (s':Shared):Prop:=
 ∃v H',s'.os=s.os/\AllBare s'.gens/\Un (frs outer) [] H H' s.heap s'.heap/\HOk P w H' s'.heap/\RelV v u/\Q v H'
noncomputable def CR (CX:CXT) (outer:List Env) (P:Program) (w:World) (H:Hp) (s:Shared) (Q:VK) (E:XK) (r:Result) (s':Shared):Prop:=
 match r with
 |.ok (.ret u)=>CE outer P w H s Q u s'
 |.ok _=>False
 |.error e=>CX outer H s E e s'
structure cz (P:Program) (w:World) (K:PySem.W.Frag) (mg:Str->Option Value) (base:Heap) (CX:CXT) (k:Nat) (f:Addr) (fd:FuncData) (ps:List Str) (sp:Sp):Prop where
 len:∀vs H Q E,sp vs H Q E->vs.length=ps.length
 run:∀(A:Around) (outer:List Env) (s:Shared) (H:Hp) (args:Args) (us:List Value) (vs:List V) (Q:VK) (E:XK),oQ k A->Env0 P w K mg base A outer s H->BindsTo s fd args (ps.zip us)->Vals vs us->sp vs H Q E ->
  codeAny (model P w) A (.call (.ref f) args) (CR CX outer P w H s Q E) s
theorem Env0.make {P:Program} {w:World} {K:PySem.W.Frag} {mg:Str->Option Value} {base:Heap} {A:Around} {outer:List Env} {s:Shared} {H:Hp} (e:Env0 P w K mg base A outer s H) (C:Addr) (us:List Value) (kw:List (Str×Value)) :
  Env0 P w K mg base (A.under (.builtin "type.__call__" ⟨.ref C::us,kw⟩)) outer s H:=⟨by first|exact e.frames|(simpa [Around.under,Code.envs,Code.isFrame,pushEnvs] using e.frames),e.mod,e.bs,e.bsz,e.Cj,e.frf,e.hok,e.bare⟩
section
variable {X:Cx} {pins:List (Addr×Obj)} {σ:St} {H:Hp} {s s':Shared}
theorem Inv.env0 (I:Inv X pins σ H s):Env0 X.prog X.w X.K X.mg X.base X.A X.stack s H:=
 ⟨I.ok.frames,I.ok.mod,I.bs,Nat.le_trans I.ok.bsz I.sz,I.stack,I.CG,I.hok,I.bare⟩
theorem Inv.after {Q:VK} {u:Value} (I:Inv X pins σ H s) (h:CE X.stack X.prog X.w H s Q u s'):EP X pins σ Q u s':=by
 obtain ⟨v,H',os,bare,un,hok,r,q⟩:=h
 obtain ⟨hh,g,d,t,os'⟩:=s'
 obtain rfl:os'=s.os:=os
 exact ⟨v,H',I.call (h':=hh) (g':=g) (d':=d) (t':=t) (ch:=[]) un hok bare (fun b z=>absurd z (by simp)),r,q⟩
end
noncomputable def tCall (sp:Sp) (dvs:List V) (E:XK) (t:TA):TE:=fun σ H Q=>t σ H fun vs H1=>sp (vs++dvs) H1 Q E
noncomputable def tMeth (C:Addr) (m:Str) (sp:Sp) (dvs:List V) (E:XK) (ta:TE) (t:TA):TE:=fun σ H Q=>ta σ H fun x H1=>∃a dx fs,x=.ref a/\H1 a=some (.ins C dx fs)/\fs.lookup m=none /\
 t σ H1 fun vs H2=>sp (x::(vs++dvs)) H2 Q E
noncomputable def tMake (C:Addr) (sp:Sp) (dvs:List V) (E:XK) (t:TA):TE:=fun σ H Q=>t σ H fun vs H1=>∀x dx,H1 x=none->H1 dx=none->dx≠x ->
 sp (.ref x::(vs++dvs)) (upd (upd H1 dx (.own x)) x (.ins C dx [])) (fun v H2=>v=.non/\Q (.ref x) H2) E
noncomputable def Binds (K:PySem.W.Frag) (fd:FuncData) (ps:List Str) (ds:List Value):Prop:=
 ∀(s:Shared) (us:List Value),K.In s.heap->(us++ds).length=ps.length->BindsTo s fd ⟨us,[]⟩ (ps.zip (us++ds))
theorem Binds.all {K:PySem.W.Frag} {fd:FuncData} {ps:List Str} (h:∀us:List Value,us.length=ps.length->bindArgs fd ⟨us,[]⟩=pure (ps.zip us)):Binds K fd ps []:=fun s us _ hl=>by
 rw [List.append_nil] at hl ⊢
 exact .of_eq (h us hl)
noncomputable def Passes (CX:CXT) (X:Cx) (E:XK):Prop:=∀(pins:List (Addr×Obj)) (σ:St) (H:Hp) (s:Shared) (e:Value) (s':Shared),Inv X pins σ H s->CX X.stack H s E e s'->X.xe e s'
section
variable {X:Cx} {CX:CXT} {k:Nat} {f C:Addr} {fd:FuncData} {ps:List Str} {sp:Sp} {dvs:List V} {ds:List Value} {E:XK} {x m:Str} {p pos apos:Pos} {e o:Expr} {es:List Expr} {ta:TE} {t:TA}
theorem AK {pins:List (Addr×Obj)} {σ:St} {H:Hp} {s:Shared} {Q:VK} {us:List Value} {vs:List V} (F:cz X.prog X.w X.K X.mg X.base CX k f fd ps sp) (hr:oQ k X.A) (hb:Binds X.K fd ps ds) (hd:Vals dvs ds) (hx:Passes CX X E)
  (I:Inv X pins σ H s) (r:Vals vs us) (h:sp (vs++dvs) H Q E):wpAny (model X.prog X.w) X.A (call (.ref f) us) (EP X pins σ Q) X.xe s:=by
 have r2:Vals (vs++dvs) (us++ds):=r.append hd
 have hl:(us++ds).length=ps.length:=by rw [<- r2.length];exact F.len _ _ _ _ h
 refine wpAny_call (codeAny_mono (F.run X.A X.stack s H ⟨us,[]⟩ (us++ds) (vs++dvs) Q E hr I.env0 (hb s us I.kIn hl) r2 h) fun r s' hq=>?_)
 cases r with
 |error e=>exact hx pins σ H s e s' I hq
 |ok fl=>
  cases fl with
  |ret u=>exact I.after hq
  |next=>exact False.elim hq
  |brk=>exact False.elim hq
  |cont=>exact False.elim hq
theorem wU (F:cz X.prog X.w X.K X.mg X.base CX k f fd ps sp) (hr:oQ k X.A) (hg:Gl X x) (hm:X.mg x=some (.ref f)) (hk:keepIn X.K (.ref f)=true) (hb:Binds X.K fd ps ds) (hd:Vals dvs ds) (hx:Passes CX X E)
  (ha:PA X (e::es) t) (hdb:(x==("__debug__":Str))=false:=by decide) (he:starEach (e::es) X.env=(false,eval e X.env)::starEach es X.env:=by rfl) (hpl:(backTo pos (starEach es X.env)).any (·.1)=false:=by rfl) :
  PE X (.Call (.Name x p) (e::es) [] pos) (tCall sp dvs E t):=by
 intro pins s σ H Q I h
 refine wpAny_Call_Name_kw (sR I hg hm ?_ hdb)
 refine callWith_K (h₀:=X.base) I.ok.mod.kin hk (thn (ha pos pins s σ H _ I h) fun us s1 ⟨vs,H1,I1,r,q⟩=>⟨I1.kIn,?_⟩) he hpl
 exact AK F hr hb hd hx I1 r q
theorem pe_meth {pl:Sem Bool} (he:PE X o ta) (c:Cls X.K C) (hm:Meth X.K C m f) (F:cz X.prog X.w X.K X.mg X.base CX k f fd ps sp) (hr:oQ k X.A) (hb:Binds X.K fd ps ds) (hd:Vals dvs ds) (hx:Passes CX X E) (ha:PA X (e::es) t)
  (hst:starEach (e::es) X.env=(false,eval e X.env)::starEach es X.env:=by rfl) (hpl:(backTo pos (starEach es X.env)).any (·.1)=false:=by rfl)
  (ht:eval (.Call (.Attribute o m apos) (e::es) [] pos) X.env=(do
   let ov <- eval o X.env
   standAt apos.atName
   let (f,first) <- holding [ov] (getMethod ov m pl)
   callWith pos f first (backTo pos (starEach (e::es) X.env)) (backToKw pos (keywordEach [] X.env))):=by rfl) :
  PE X (.Call (.Attribute o m apos) (e::es) [] pos) (tMeth C m sp dvs E ta t):=by
 intro pins s σ H Q I h
 refine PySem.W.methodCall_KW (pl:=pl) (thn (he pins s σ H _ I h) fun u s1 ⟨x,H1,I1,rx,a,dx,fs,ex,ea,l,q⟩=>?_) ht
 subst ex
 obtain rfl:u=Value.ref a:=rx
 refine sZ I1 ea c hm l ?_
 refine callWith_K (first:=[.ref a]) (h₀:=X.base) I.ok.mod.kin hm.kp (thn (ha pos pins s1 σ H1 _ I1 q) fun us s2 ⟨vs,H2,I2,r,q2⟩=>⟨I2.kIn,?_⟩) hst hpl
 exact AK (us:=.ref a::us) (vs:=.ref a::vs) F hr hb hd hx I2 (.cons rfl r) q2
theorem pe_meth0 {pl:Sem Bool} (he:PE X o ta) (c:Cls X.K C) (hm:Meth X.K C m f) (F:cz X.prog X.w X.K X.mg X.base CX k f fd ps sp) (hr:oQ k X.A) (hb:Binds X.K fd ps ds) (hd:Vals dvs ds) (hx:Passes CX X E)
  (ht:eval (.Call (.Attribute o m apos) [] [] pos) X.env=(do
   let ov <- eval o X.env
   standAt apos.atName
   let (f,first) <- holding [ov] (getMethod ov m pl)
   callWith pos f first (backTo pos (starEach [] X.env)) (backToKw pos (keywordEach [] X.env))):=by rfl) :
  PE X (.Call (.Attribute o m apos) [] [] pos) (tMeth C m sp dvs E ta tNil):=by
 intro pins s σ H Q I h
 refine PySem.W.methodCall_KW (pl:=pl) (thn (he pins s σ H _ I h) fun u s1 ⟨x,H1,I1,rx,a,dx,fs,ex,ea,l,q⟩=>?_) ht
 subst ex
 obtain rfl:u=Value.ref a:=rx
 refine sZ I1 ea c hm l ?_
 exact PySem.W.callWith_K0 (first:=[.ref a]) I1.kIn hm.kp (AK (us:=[.ref a]) (vs:=[.ref a]) F hr hb hd hx I1 (.cons rfl .nil) q)
structure Mk (K:PySem.W.Frag) (C f:Addr):Prop where
 makes:PySem.W.makesIn K C=true
 init:PySem.W.findIn K (.ref C) "__init__"=some (some (.ref f))
 fn:PySem.W.isFn K (.ref f)=true
 kp:keepIn K (.ref C)=true
theorem run_make {pins:List (Addr×Obj)} {σ:St} {H:Hp} {s:Shared} {Q:VK} {us:List Value} {vs:List V} (M:Mk X.K C f) (F:cz X.prog X.w X.K X.mg X.base CX k f fd ps sp) (hr:oQ (k+1) X.A) (hb:Binds X.K fd ps ds) (hd:Vals dvs ds)
  (hx:Passes CX X E) (I:Inv X pins σ H s) (r:Vals vs us)
  (h:∀x dx,H x=none->H dx=none->dx≠x->sp (.ref x::(vs++dvs)) (upd (upd H dx (.own x)) x (.ins C dx [])) (fun v H2=>v=.non/\Q (.ref x) H2) E) :
  wpAny (model X.prog X.w) X.A (call (.ref C) us) (EP X pins σ Q) X.xe s:=by
 have hq:=h (s.heap.objs.size+1) s.heap.objs.size (I.hok.fresh (Nat.le_succ _)) (I.hok.fresh (Nat.le_refl _)) (Nat.ne_of_lt (Nat.lt_succ_self _))
 have I2:=Inv.made (C:=C) I
 have r2:Vals (V.ref (s.heap.objs.size+1)::(vs++dvs)) (Value.ref (s.heap.objs.size+1)::(us++ds)):=.cons rfl (r.append hd)
 have hl:(Value.ref (s.heap.objs.size+1)::us++ds).length=ps.length:=by
  have e:=r2.length
  rw [F.len _ _ _ _ hq] at e
  exact e.symm
 refine wpAny_call (make_map (f:=f) I.kIn M.makes M.init (beq_iff_eq.mp M.fn) (codeAny_mono (F.run _ X.stack _ _ ⟨Value.ref (s.heap.objs.size+1)::us,[]⟩ (Value.ref (s.heap.objs.size+1)::(us++ds)) _ _ E (hr.make C us [])
  (I2.env0.make C us []) (hb _ (Value.ref (s.heap.objs.size+1)::us) I2.kIn hl) r2 hq) fun r s' hq'=>?_))
 cases r with
 |error e=>exact hx pins σ _ _ e s' I2 hq'
 |ok fl=>
  cases fl with
  |ret u=>
   obtain ⟨v,H',I3,rv,ev,q3⟩:=I2.after hq'
   subst ev
   exact ⟨rv,⟨V.ref (s.heap.objs.size+1),H',I3,rfl,q3⟩⟩
  |next=>exact False.elim hq'
  |brk=>exact False.elim hq'
  |cont=>exact False.elim hq'
theorem D2 (M:Mk X.K C f) (F:cz X.prog X.w X.K X.mg X.base CX k f fd ps sp) (hr:oQ (k+1) X.A) (hg:Gl X x) (hm:X.mg x=some (.ref C)) (hb:Binds X.K fd ps ds) (hd:Vals dvs ds) (hx:Passes CX X E)
  (ha:PA X (e::es) t) (hdb:(x==("__debug__":Str))=false:=by decide) (he:starEach (e::es) X.env=(false,eval e X.env)::starEach es X.env:=by rfl) (hpl:(backTo pos (starEach es X.env)).any (·.1)=false:=by rfl) :
  PE X (.Call (.Name x p) (e::es) [] pos) (tMake C sp dvs E t):=by
 intro pins s σ H Q I h
 refine wpAny_Call_Name_kw (sR I hg hm ?_ hdb)
 refine callWith_K (h₀:=X.base) I.ok.mod.kin M.kp (thn (ha pos pins s σ H _ I h) fun us s1 ⟨vs,H1,I1,r,q⟩=>⟨I1.kIn,?_⟩) he hpl
 exact run_make M F hr hb hd hx I1 r q
end
section
variable {X:Cx} {CX:CXT} {k:Nat} {f C:Addr} {fd:FuncData} {ps ks:List Str} {sp:Sp} {E:XK} {x m:Str} {p pos apos kpos:Pos} {e o:Expr} {es:List Expr} {kws:List Keyword} {te ta:TE} {t tk:TA} {nm:Option Str}
structure KBinds (K:PySem.W.Frag) (fd:FuncData) (ps ks:List Str) (g:List Value->List Value->List Value) (gV:List V->List V->List V):Prop where
 to:∀(s:Shared) (us ws:List Value),K.In s.heap->(g us ws).length=ps.length->BindsTo s fd ⟨us,ks.zip ws⟩ (ps.zip (g us ws))
 rel:∀{vs:List V} {us:List Value} {zs:List V} {ws:List Value},Vals vs us->Vals zs ws->Vals (gV vs zs) (g us ws)
variable {g:List Value->List Value->List Value} {gV:List V->List V->List V}
end
structure aH (N P:List Str) (sc:Scope):Prop where
 kind:sc.kind=.function
 co:sc.isCoroutine=false
 gen:sc.isGenerator=false
 nd:N.Nodup
 pre:N.take P.length=P
 par:∀x∈P,sc.names.lookup x=some .local\/sc.names.lookup x=some .cell
 nofree:∀y∈sc.names,y.2≠.free
theorem zf {kindOf:Str->Option NameKind} {x:Str}:∀{binds:List (Str×Value)} {m:Str->Option Value},(∀v,(x,v)∉binds)->bindL kindOf binds m x=m x
 |[],_,_=>rfl
 |(n,v)::r,m,h=>by
  unfold bindL
  rw [zf fun w hw=>h w (List.mem_cons_of_mem _ hw)]
  split
  ·have:x≠n:=by rintro rfl;exact h v List.mem_cons_self
   simp [this]
  ·rfl
theorem zh {kindOf:Str->Option NameKind} {x:Str}:∀{binds:List (Str×Value)} {m:Str->Option Value},(∀v,(x,v)∉binds)->bindC kindOf binds m x=m x
 |[],_,_=>rfl
 |(n,v)::r,m,h=>by
  unfold bindC
  rw [zh fun w hw=>h w (List.mem_cons_of_mem _ hw)]
  split
  ·rfl
  ·have:x≠n:=by rintro rfl;exact h v List.mem_cons_self
   simp [this]
theorem zg {kindOf:Str->Option NameKind} {x:Str} {v:Value}:∀{P:List Str} {vs:List Value} {i:Nat} {m:Str->Option Value},P.Nodup->P[i]? =some x->vs[i]? =some v->kindOf x=some .local ->
  bindL kindOf (P.zip vs) m x=some v
 |[],_,_,_,_,h,_,_=>by simp at h
 |_::_,[],_,_,_,_,h,_=>by simp at h
 |p::P,w::vs,0,m,nd,h1,h2,hk=>by
  simp at h1 h2;subst h1;subst h2
  show bindL kindOf ((p,w)::P.zip vs) m p=_
  unfold bindL
  rw [zf fun v hv=>(List.nodup_cons.mp nd).1 (List.of_mem_zip hv).1,if_pos hk]
  simp
 |p::P,w::vs,i+1,m,nd,h1,h2,hk=>by
  show bindL kindOf ((p,w)::P.zip vs) m x=_
  unfold bindL
  exact zg (i:=i) (List.nodup_cons.mp nd).2 (by simpa using h1) (by simpa using h2) hk
theorem zi {kindOf:Str->Option NameKind} {x:Str} {v:Value}:∀{P:List Str} {vs:List Value} {i:Nat} {m:Str->Option Value},P.Nodup->P[i]? =some x->vs[i]? =some v->kindOf x≠some .local ->
  bindC kindOf (P.zip vs) m x=some v
 |[],_,_,_,_,h,_,_=>by simp at h
 |_::_,[],_,_,_,_,h,_=>by simp at h
 |p::P,w::vs,0,m,nd,h1,h2,hk=>by
  simp at h1 h2;subst h1;subst h2
  show bindC kindOf ((p,w)::P.zip vs) m p=_
  unfold bindC
  rw [zh fun v hv=>(List.nodup_cons.mp nd).1 (List.of_mem_zip hv).1,if_neg hk]
  simp
 |p::P,w::vs,i+1,m,nd,h1,h2,hk=>by
  show bindC kindOf ((p,w)::P.zip vs) m x=_
  unfold bindC
  exact zi (i:=i) (List.nodup_cons.mp nd).2 (by simpa using h1) (by simpa using h2) hk
noncomputable def start (N:List Str) (vs:List V):St:=vs.map some++List.replicate (N.length-vs.length) none
noncomputable def cxOf (CX:CXT) (P:Program) (w:World) (K:PySem.W.Frag) (mg:Str->Option Value) (base:Heap) (N:List Str) (qual:Str) (scope:Scope) (f:Addr) (cd:Value) (A:Around) (outer:List Env) (s:Shared) (H:Hp) (E:XK):Cx where
 prog:=P
 w:=w
 K:=K
 mg:=mg
 base:=base
 A:=A.deeper (envOfC qual scope s.heap.objs.size f cd)
 N:=N
 s₀:=s
 H₀:=H
 env:=envOfC qual scope s.heap.objs.size f cd
 outer:=outer
 stack:=envOfC qual scope s.heap.objs.size f cd::outer
 ex:=[]
 calm:=true
 fn:=fun _=>true
 pn:=[]
 xe:=fun e s'=>wpAny (model P w) (A.deeper (envOfC qual scope s.heap.objs.size f cd)) (leaving (envOfC qual scope s.heap.objs.size f cd) e) (fun _ s''=>CX outer H s E e s'') (fun e' s''=>CX outer H s E e' s'') s'
theorem Bg {sc:Scope} {n:Nat} {x:Str} (h:sc.names.lookup x=some .cell):∃c,(cellsFrom n sc.names []).lookup x=some c:=by
 have q:=PySem.W.cellsFrom_some sc.names n [] (.inl h)
 exact Option.isSome_iff_exists.mp q
theorem Dz {CX:CXT} {P:Program} {w:World} {K:PySem.W.Frag} {mg:Str->Option Value} {base:Heap} {N ps:List Str} {qual:Str} {scope:Scope} {f:Addr} {cd:Value} {A:Around} {outer:List Env} {s s1:Shared} {H:Hp} {E:XK} {us:List Value} {vs:List V}
  (S:aH N ps scope) (hd:A.handled=none) (e0:Env0 P w K mg base A outer s H) (hl:vs.length=ps.length) (r:Vals vs us)
  (x:InCallC s s.heap.objs.size (bindL (envOfC qual scope s.heap.objs.size f cd).kindOf (ps.zip us) fun _=>none) (cellsFrom (s.heap.objs.size+1) scope.names []) (bindC (envOfC qual scope s.heap.objs.size f cd).kindOf (ps.zip us) fun _=>none) s1) :
  Inv (cxOf CX P w K mg base N qual scope f cd A outer s H E) [] (start N vs) H s1:=by
 have hpl:ps.length<=N.length:=by have:=congrArg List.length S.pre;rw [List.length_take] at this;omega
 obtain ⟨h1,tk,rfl,hk⟩:=x.done
 have noA:∀b:Addr,b∉(cxOf CX P w K mg base N qual scope f cd A outer s H E).ex:=fun b z=>absurd (show b∈([]:List Addr) from z) (by simp)
 refine ⟨⟨e0.mod,S.kind,rfl,rfl,Nat.le_refl _,fun y z c h1 h2=>?_,fun y hy=>?_,fun y c _ h=>?_,fun _=>hd,Around.frames_deeper e0.frames,.inr ⟨rfl,rfl⟩,fun b z=>absurd z (noA b),e0.bs,e0.bsz,fun b _ _=>noA b,fun b z=>absurd z (noA b),e0.Cj,e0.frf⟩,
  rfl,e0.bare,Un.kept hk,⟨_,x.toInCall.ns,fun i y v h1 h2 h3=>?_⟩,fun y c h=>⟨_,x.cell y c h⟩,e0.hok.fresh (Nat.le_refl _),fun y c h=>?_,fun p hp=>absurd (show p∈([]:List (Addr×Obj)) from hp) (by simp),e0.hok.kept hk,?_⟩
 ·exact name_of_addr x.apart (PySem.mem_of_lookup h1) (PySem.mem_of_lookup h2)
 ·have hy:scope.names.lookup y=some .cell\/scope.names.lookup y=some .free:=hy
  rcases hy with hy|hy
  ·exact Bg hy
  ·exact absurd rfl (S.nofree _ (PySem.mem_of_lookup hy))
 ·exact Nat.le_of_lt (x.above y c (PySem.mem_of_lookup h))
 ·have hi:i<vs.length:=by
   unfold start at h2
   by_cases hi:i<vs.length
   ·exact hi
   ·rw [List.getElem?_append_right (by simpa using hi)] at h2
    rw [List.getElem?_replicate] at h2
    split at h2<;>cases h2
  have ha:vs[i]? =some v:=by
   unfold start at h2
   rw [List.getElem?_append_left (by simpa using hi),List.getElem?_map] at h2
   cases e:vs[i]? with
   |none=>rw [e] at h2;cases h2
   |some a=>rw [e] at h2;cases h2;rfl
  obtain ⟨u,hu,rv⟩:=r.get ha
  have hp:ps[i]? =some y:=by
   rw [<- S.pre,List.getElem?_take_of_lt (by omega)];exact h1
  have ndP:ps.Nodup:=by rw [<- S.pre];exact S.nd.sublist (List.take_sublist _ _)
  refine ⟨u,rv,?_⟩
  rcases S.par y (List.mem_of_getElem? hp) with k|k
  ·exact .inl ⟨k,zg ndP hp hu k⟩
  ·obtain ⟨c,e⟩:=Bg (n:=s.heap.objs.size+1) k
   refine .inr ⟨.inl k,c,e,?_⟩
   have q:=x.cell y c e
   rw [zi ndP hp hu (by show scope.names.lookup y≠_;rw [k];decide)] at q
   exact q
 ·exact e0.hok.fresh (Nat.le_of_lt (x.above y c (PySem.mem_of_lookup h)))
 ·unfold start
  show _=N.length
  rw [List.length_append,List.length_map,List.length_replicate]
  omega
theorem fn_of {CX:CXT} {P:Program} {w:World} {K:PySem.W.Frag} {mg:Str->Option Value} {base:Heap} {k:Nat} {f:Addr} {name qual:Str} {params:Arguments} {body:List Stmt} {scope:Scope} {dV kV doc pm cdv ct oc:Value} {an od:Option Addr}
  {osl:Array (Option Value)} {N ps:List Str} {sp:Sp} (lk:K.lookup f=some ⟨oc,od,.func (fnOf name qual params body scope dV kV doc pm an cdv ct),osl⟩) (hcd:codeIn K cdv qual=true) (S:aH N ps scope)
  (len:∀vs H Q E,sp vs H Q E->vs.length=ps.length)
  (hbody:∀(A:Around) (outer:List Env) (s:Shared) (H:Hp) (vs:List V) (Q:VK) (E:XK),oQ k (A.deeper (envOfC qual scope s.heap.objs.size f cdv))->sp vs H Q E ->
   ∃t,PSs (cxOf CX P w K mg base N qual scope f cdv A outer s H E) body t/\t {nx:=fun _ H'=>Q .non H',rt:=Q} (start N vs) H) :
  cz P w K mg base CX (k+1) f (fnOf name qual params body scope dV kV doc pm an cdv ct) ps sp:=by
 refine ⟨len,fun A outer s H args us vs Q E hr e0 hb r hsp=>?_⟩
 have hl:=len _ _ _ _ hsp
 have KX:K.In s.heap:=e0.mod.kin.keeps fun b o e=>(e0.bs b o e).1
 have lim:s.heap.NoLimit:=e0.mod.nolimit.keeps fun b o e=>(e0.bs b o e).1
 have hkind:∀y∈ps.zip us,scope.names.lookup y.1=some .local\/(scope.names.lookup y.1=some .cell/\((cellsFrom (s.heap.objs.size+1) scope.names []).lookup y.1).isSome=true):=fun ⟨n,v⟩ hy=>by
  rcases S.par n (List.of_mem_zip hy).1 with q|q
  ·exact .inl q
  ·exact .inr ⟨q,PySem.W.cellsFrom_some _ _ _ (.inl q)⟩
 refine codeAny_call_function hr.depth (KX _ _ lk) rfl S.co S.gen rfl (PySem.W.codeRec_of KX hcd) (hb _ _ _ _ ?_)
 refine wpAny_newFunctionEnv_cells S.kind hkind fun env he s1 x=>?_
 subst he
 refine ⟨lim.keeps x.toInCall.keep,codeAny_func ?_⟩
 obtain ⟨t,ht,hq⟩:=hbody A outer s H vs Q E (hr.deeper _) hsp
 have I:Inv (cxOf CX P w K mg base N qual scope f cdv A outer s H E) [] (start N vs) H s1:=Dz S hr.hd e0 hl r x
 refine wpAny_mono (ht [] s1 (start N vs) H _ I hq) (fun fl s' hs=>?_) fun e s' hs=>hs
 have fin:∀{σ':St} {H':Hp} {v:V} {u:Value},Inv (cxOf CX P w K mg base N qual scope f cdv A outer s H E) [] σ' H' s'->RelV v u->Q v H'->CE outer P w H s Q u s':=
  fun {σ' H' v u} J rv q=>⟨v,H',J.os,J.bare,J.base,J.hok,rv,q⟩
 cases fl with
 |ret u=>
  obtain ⟨v,σ',H',J,rv,q⟩:=hs
  exact fin J rv q
 |next=>
  obtain ⟨σ',H',J,q⟩:=hs
  exact fin (v:=V.non) (u:=Value.none) J rfl q
 |brk=>
  obtain ⟨_,_,_,q⟩:=hs
  exact False.elim q
 |cont=>
  obtain ⟨_,_,_,q⟩:=hs
  exact False.elim q
end L2
namespace L2
open PySem PySem.Spec PyProof.Rows
section
variable {X:Cx} {x:Str} {p pos:Pos} {e:Expr} {es:List Expr} {t:TA} {id T:String} {r:List V->Hp->VK->Prop}
noncomputable def tCB (r:List V->Hp->VK->Prop) (t:TA):TE:=fun σ H Q=>t σ H fun vs H1=>r vs H1 Q
theorem hV (hc:eA X (.builtin id) r) (hg:Gl X x) (hm:X.mg x=none) (hv:bootBuiltins x=some (.builtin id)) (ha:PA X (e::es) t) (hn:x≠"__name__":=by decide) (hdb:(x==("__debug__":Str))=false:=by decide)
  (he:starEach (e::es) X.env=(false,eval e X.env)::starEach es X.env:=by rfl) (hpl:(backTo pos (starEach es X.env)).any (·.1)=false:=by rfl):PE X (.Call (.Name x p) (e::es) [] pos) (tCB r t):=by
 intro pins s σ H Q I h
 refine wpAny_Call_Name_kw (rG I hg hm hv ?_ hn hdb)
 exact PyProof.Rows.callWith_builtin1 (thn (ha pos pins s σ H _ I h) fun us s1 ⟨vs,H1,I1,r1,q1⟩=>hc pins s1 σ H1 vs us Q I1 r1 q1) he hpl
theorem yv (hc:eA X (.type T) r) (hg:Gl X x) (hm:X.mg x=none) (hv:bootBuiltins x=some (.type T)) (ha:PA X (e::es) t) (hn:x≠"__name__":=by decide) (hdb:(x==("__debug__":Str))=false:=by decide)
  (he:starEach (e::es) X.env=(false,eval e X.env)::starEach es X.env:=by rfl) (hpl:(backTo pos (starEach es X.env)).any (·.1)=false:=by rfl):PE X (.Call (.Name x p) (e::es) [] pos) (tCB r t):=by
 intro pins s σ H Q I h
 refine wpAny_Call_Name_kw (rG I hg hm hv ?_ hn hdb)
 exact PyProof.Rows.callWith_type1 (thn (ha pos pins s σ H _ I h) fun us s1 ⟨vs,H1,I1,r1,q1⟩=>hc pins s1 σ H1 vs us Q I1 r1 q1) he hpl
end
end L2
namespace HT
open PySem PyProof.Rows
section
open PySem.SeqAt
open PySem.AutoSeq1 (wpAny_loadPart')
open PySem.MeetsSeq PySem.MeetsSeq2 PySem.MeetsSeq3
end
section
variable {prog:Program} {w:World} {A:Around} {E:Value->Shared->Prop} {s:Shared}
theorem cat_tup {t b:Addr} {vs ws:List Value} {Q:Value->Shared->Prop} (ht:IsTup s.heap t vs.toArray) (hb:IsTup s.heap b ws.toArray) (hv:vs≠[])
  (h1:ws=[]->Q (.ref t) s) (h2:ws≠[]->Q (.ref s.heap.objs.size) {s with heap:=s.heap.push {cls:=.type "tuple",data:=.seq (vs++ws).toArray}})
  (hsz:vs.length+ws.length<=sizeLine):wpAny (model prog w) A (binaryOp .Add (.ref t) (.ref b)) Q E s:=by
 obtain ⟨⟨cls,dd,data,sl⟩,ho,hc,n,hd⟩:=id ht
 obtain ⟨⟨cls2,dd2,data2,sl2⟩,ho2,hc2,n2,hd2⟩:=id hb
 simp only at hc hd hc2 hd2
 subst hc hd hc2 hd2
 have e:vs.toArray++ws.toArray=(vs++ws).toArray:=by simp
 by_cases hw:ws=[]
 ·exact concat_meets ⟨_,ho,rfl⟩ ⟨_,ho2,rfl⟩ noFill_tuple_add seq_tuple_add PySem.F.slot_tuple_add PySem.F.entry_tuple_add (PySem.F.args_tuple_add_2 _ _)
   (tuple_addW1 t b vs.toArray ws.toArray n n2 dd dd2 sl sl2 (by simpa using hv) (by simp [hw])) ⟨ho,ho2,h1 hw⟩
 ·refine concat_meets ⟨_,ho,rfl⟩ ⟨_,ho2,rfl⟩ noFill_tuple_add seq_tuple_add PySem.F.slot_tuple_add PySem.F.entry_tuple_add (PySem.F.args_tuple_add_2 _ _)
   (tuple_addW2 t b vs.toArray ws.toArray n n2 dd dd2 sl sl2 (by simpa using hv) (by simpa using hw) (by rw [List.size_toArray,List.size_toArray];exact hsz)) ⟨ho,ho2,?_⟩
  rw [e]
  exact h2 hw
noncomputable def sIx (n d:Nat):Option Int->Nat
 |none=>d
 |some v=>if v<0 then (v+(n:Int)).toNat else min v.toNat n
theorem sIx_le (n d:Nat) (hd:d<=n) (o:Option Int):sIx n d o<=n:=by
 cases o with
 |none=>exact hd
 |some v=>
  show (if v<0 then (v+(n:Int)).toNat else min v.toNat n)<=n
  by_cases hv:v<0
  ·rw [if_pos hv];omega
  ·rw [if_neg hv];exact Nat.min_le_right _ _
theorem Ec (v:Int) (n d:Nat):(if v<0 then max (v+(n:Int)) 0 else min v (n:Int))=((sIx n d (some v):Nat):Int):=by
 show (if v<0 then max (v+(n:Int)) 0 else min v (n:Int))=(((if v<0 then (v+(n:Int)).toNat else min v.toNat n):Nat):Int)
 by_cases hv:v<0
 ·simp only [if_pos hv];omega
 ·simp only [if_neg hv];omega
theorem Ca (lo hi:Option Int) (n:Nat):Builtin.Slice.sliceAdjust lo hi 1 (n:Int)=(((sIx n 0 lo:Nat):Int),((sIx n n hi:Nat):Int)):=by
 have h1:¬((1:Int)<0):=by omega
 unfold Builtin.Slice.sliceAdjust
 simp only [h1,if_false]
 refine Prod.ext ?_ ?_
 ·cases lo with
  |none=>rfl
  |some v=>exact Ec v n 0
 ·cases hi with
  |none=>rfl
  |some v=>exact Ec v n n
theorem BE (i j:Nat):Builtin.Slice.slicePlaces (i:Int) (j:Int) 1=j-i:=by
 unfold Builtin.Slice.slicePlaces
 have h1:(1:Int)>0:=by omega
 simp only [h1,if_true,Int.ediv_one]
 split<;>omega
theorem vQ {v:Value} {o:Option Int} {Q:Option Int->Shared->Prop} (p:IsPart v o) (h:Q o s):wpAny (model prog w) A (Builtin.Slice.slicePartIndex v) Q E s:=by
 cases p with
 |none=>exact slicePart_none h
 |int i t=>exact slicePart_int h
theorem tW {sl:Addr} {vl vu:Value} {lo hi:Option Int} {n:Nat} {Q:Int×Int×Nat->Shared->Prop} (hs:s.heap.IsSliceOf sl vl vu .none) (pl:IsPart vl lo) (pu:IsPart vu hi)
  (h:Q (((sIx n 0 lo:Nat):Int),1,sIx n n hi-sIx n 0 lo) s):wpAny (model prog w) A (Builtin.Slice.sliceApplied (.ref sl) (pure (n:Int))) Q E s:=by
 obtain ⟨os,hos,hcs,hds⟩:=id hs
 unfold Builtin.Slice.sliceApplied Builtin.Slice.sliceFields
 refine wpAny_bind (wpAny_bind (wpAny_field hos hds (x:=vl) rfl (wpAny_bind (wpAny_field hos hds (x:=vu) rfl (wpAny_bind (wpAny_field hos hds (x:=.none) rfl (wpAny_pure ?_)))))))
 refine wpAny_bind (slicePart_none ?_)
 show wpAny _ _ (if ((1:Int)==0)=true then _ else _) _ _ s
 rw [if_neg (by decide)]
 refine wpAny_bind (vQ pl (wpAny_bind (vQ pu (wpAny_bind (wpAny_pure ?_)))))
 show wpAny _ _ (match Builtin.Slice.sliceAdjust lo hi 1 (n:Int) with|(lo,hi)=>pure (lo,(1:Int),Builtin.Slice.slicePlaces lo hi 1)) _ _ s
 rw [Ca lo hi n]
 show wpAny _ _ (pure (((sIx n 0 lo:Nat):Int),(1:Int),Builtin.Slice.slicePlaces ((sIx n 0 lo:Nat):Int) ((sIx n n hi:Nat):Int) 1)) _ _ s
 rw [BE]
 exact wpAny_pure h
theorem pick_gen (xs:Array Value) (i k:Nat):((List.range k).filterMap fun (m:Nat)=>xs[((i:Int)+(m:Int)*1).toNat]?).toArray=((xs.toList.drop i).take k).toArray:=by
 have e:(fun (m:Nat)=>xs[((i:Int)+(m:Int)*1).toNat]?)=fun m=>xs[i+m]?:=by
  funext m
  have:((i:Int)+(m:Int)*1).toNat=i+m:=by omega
  rw [this]
 rw [e]
 have:=pick_run xs i k
 rw [List.filterMap_map] at this
 have e2:((fun x=>xs[x]?)∘fun x=>i+x)=fun m=>xs[i+m]?:=rfl
 rw [e2] at this
 rw [this]
theorem t5 {t sl:Addr} {items:Array Value} {vl vu:Value} {lo hi:Option Int} {Q:Value->Shared->Prop} (ht:IsTup s.heap t items) (hs:s.heap.IsSliceOf sl vl vu .none) (pl:IsPart vl lo) (pu:IsPart vu hi)
  (hw:¬(sIx items.size 0 lo=0/\sIx items.size items.size hi=items.size))
  (h:Q (.ref s.heap.objs.size) {s with heap:=s.heap.push {cls:=.type "tuple",data:=.seq ((items.toList.drop (sIx items.size 0 lo)).take (sIx items.size items.size hi-sIx items.size 0 lo)).toArray}})
  (hsz:items.size<=sizeLine):wpAny (model prog w) A (getItem (.ref t) (.ref sl)) Q E s:=by
 have htake:sizeOk (.seq ((items.toList.drop (sIx items.size 0 lo)).take (sIx items.size items.size hi-sIx items.size 0 lo)).toArray):=by
  show ((items.toList.drop (sIx items.size 0 lo)).take (sIx items.size items.size hi-sIx items.size 0 lo)).toArray.size<=sizeLine
  rw [List.size_toArray,List.length_take,List.length_drop,Array.length_toList]
  omega
 have hj:sIx items.size items.size hi<=items.size:=sIx_le _ _ (Nat.le_refl _) hi
 obtain ⟨os,hos,hcs,hds⟩:=id hs
 have hTs:s.TypeIs (.ref sl) "slice":=⟨os,hos,hcs⟩
 unfold getItem
 try with_reducible refine wpAny_holding ?_
 first|refine wpAny_bind (wpAny_pure ?_)|skip
 refine wpAny_bind (wpAny_sequenceKey ht.typeIs (by decide) ?_)
 refine wpAny_bind (wpAny_callSpecial?_slot (name:=Str.ofString "__getitem__") ht.typeIs PyProof.Rows.slot_tuple_getitem
  (wpAny_call_entry PyProof.Rows.slot_tuple_getitem ht.typeIs entry_tuple_getitem ?_ (args_tuple_getitem _ _)))
 show wpAny _ _ (Builtin.Tuple.tupleItemsOf (.ref t) >>= _) _ _ s
 refine wpAny_bind (tupleItemsOf_ ht ?_)
 refine wpAny_bind (wpAny_typeOf hTs ?_)
 rw [if_pos (by decide)]
 refine wpAny_bind (tW hs pl pu ?_)
 have hno:¬((((sIx items.size 0 lo:Nat):Int)==0&&(1:Int)==1&&(sIx items.size items.size hi-sIx items.size 0 lo)==items.size)=true):=by
  intro q
  rw [Bool.and_eq_true,Bool.and_eq_true] at q
  have q1:((sIx items.size 0 lo:Nat):Int)=0:=eq_of_beq q.1.1
  have q2:sIx items.size items.size hi-sIx items.size 0 lo=items.size:=eq_of_beq q.2
  exact hw ⟨by omega,by omega⟩
 show wpAny _ _ (if (((sIx items.size 0 lo:Nat):Int)==0&&(1:Int)==1&&(sIx items.size items.size hi-sIx items.size 0 lo)==items.size)=true then _ else _) _ _ s
 rw [if_neg hno,pick_gen]
 first
  |exact wpAny_bind (m:=Builtin.Tuple.tupleExact _) (wpAny_newObj_type (wpAny_pure ⟨_,rfl,wpAny_pure h⟩) htake)
  |exact wpAny_bind (m:=Builtin.Tuple.tupleExact _) (wpAny_newObj_type (wpAny_bind (wpAny_pure (wpAny_pure ⟨_,rfl,wpAny_pure h⟩))) htake)
  |exact wpAny_bind (wpAny_bind (m:=Builtin.Tuple.tupleExact _) (wpAny_newObj_type (wpAny_pure (wpAny_pure ⟨_,rfl,wpAny_pure h⟩)) htake))
  |exact wpAny_bind (wpAny_bind (m:=Builtin.Tuple.tupleExact _) (wpAny_newObj_type (wpAny_pure ⟨_,rfl,wpAny_pure h⟩) htake))
end
end HT
namespace L2
open PySem PySem.Spec PyProof.Rows
noncomputable abbrev TO:=St->Hp->(Option Int->Hp->Prop)->Prop
noncomputable def PO (X:Cx) (e:Option Expr) (t:TO):Prop:=
 ∀(pins:List (Addr×Obj)) (s:Shared) (σ:St) (H:Hp) (Q:Option Int->Hp->Prop),Inv X pins σ H s->t σ H Q ->
  wpAny (model X.prog X.w) X.A (evalPart e X.env) (fun u s'=>∃o H',Inv X pins σ H' s'/\IsPart u o/\Q o H') X.xe s
noncomputable def tNoPart:TO:=fun _ H Q=>Q none H
noncomputable def tPart (t:TE):TO:=fun σ H Q=>t σ H fun x H1=>∃i,x=.int i/\Q (some i) H1
theorem intsAre_of {ns:List Int}:∀{us:List Value},Vals (ns.map V.int) us->IntsAre us ns:=by
 induction ns with
 |nil=>intro us r;rw [List.map_nil] at r;cases r;exact .nil
 |cons n ns ih=>
  intro us r
  rw [List.map_cons] at r
  cases r with
  |cons r1 r2=>
   obtain ⟨t,e⟩:=r1
   subst e
   exact .cons n t (ih r2)
section
variable {X:Cx} {e:Expr} {te:TE} {lo hi:Option Expr} {tl th:TO} {pos p2:Pos}
theorem po_none:PO X none tNoPart:=by
 intro pins s σ H Q I h
 rw [evalPart_none]
 exact wpAny_pure ⟨none,H,I,.none,h⟩
theorem po_some (h:PE X e te):PO X (some e) (tPart te):=by
 intro pins s σ H Q I hw
 rw [evalPart_some]
 refine thn (h pins s σ H _ I hw) fun u s1 ⟨x,H1,I1,r1,q1⟩=>?_
 obtain ⟨i,rfl,q⟩:=q1
 obtain ⟨t,rfl⟩:=r1
 exact ⟨some i,H1,I1,.int i t,q⟩
noncomputable def SlR (X:Cx) (r:V->Option Int->Option Int->Hp->VK->Prop):Prop:=
 ∀(pins:List (Addr×Obj)) (s:Shared) (σ:St) (H:Hp) (x:V) (v vl vu:Value) (lo hi:Option Int) (sl:Addr) (Q:VK),Inv X pins σ H s->RelV x v->s.heap.IsSliceOf sl vl vu .none->IsPart vl lo->IsPart vu hi->r x lo hi H Q ->
  ∃T id,typeLookup (.type T) "__getitem__"=pure (some (.builtin id))/\s.TypeIs v T/\wpAny (model X.prog X.w) X.A (getItem v (.ref sl)) (EP X pins σ Q) X.xe s
theorem SlR.or {r r':V->Option Int->Option Int->Hp->VK->Prop} (h:SlR X r) (h':SlR X r'):SlR X (fun x lo hi H Q=>r x lo hi H Q\/r' x lo hi H Q):=by
 intro pins s σ H x v vl vu lo hi sl Q I rx hs pl pu q
 rcases q with q|q
 ·exact h pins s σ H x v vl vu lo hi sl Q I rx hs pl pu q
 ·exact h' pins s σ H x v vl vu lo hi sl Q I rx hs pl pu q
noncomputable def tSl (r:V->Option Int->Option Int->Hp->VK->Prop) (te:TE) (tl th:TO):TE:=fun σ H Q=>te σ H fun x H1=>tl σ H1 fun l H2=>th σ H2 fun u H3=>r x l u H3 Q
theorem pe_slice {r:V->Option Int->Option Int->Hp->VK->Prop} (hr:SlR X r) (he:PE X e te) (hl:PO X lo tl) (hu:PO X hi th):PE X (.Subscript e (.Slice lo hi none p2) pos) (tSl r te tl th):=by
 intro pins s σ H Q I h
 refine Subscript_ (thn (he pins s σ H _ I h) fun v s1 ⟨x,H1,I1,r1,q1⟩=>?_)
 refine wpAny_Slice (thn (hl pins s1 σ H1 _ I1 q1) fun vl s2 ⟨l,H2,I2,pl,q2⟩=>thn (hu pins s2 σ H2 _ I2 q2) fun vu s3 ⟨u,H3,I3,pu,q3⟩=>?_)
 rw [evalPart_none]
 refine wpAny_pure ?_
 have I4:Inv X pins σ H3 {s3 with heap:=s3.heap.push {cls:=.type "slice",data:=.fields #[vl,vu,.none]}}:=I3.kept (t':=s3.toks) fun b ob q=>Heap.get?_push_of_some _ q
 obtain ⟨T,id,hT,ht,hg⟩:=hr pins {s3 with heap:=s3.heap.push {cls:=.type "slice",data:=.fields #[vl,vu,.none]}} σ H3 x v vl vu l u s3.heap.objs.size Q I4 r1 (Heap.IsSliceOf.new ..) pl pu q3
 show wpAny (model X.prog X.w) X.A (subscriptTail e (.Slice lo hi none p2) v (.ref s3.heap.objs.size)) (EP X pins σ Q) X.xe {s3 with heap:=s3.heap.push {cls:=.type "slice",data:=.fields #[vl,vu,.none]}}
 exact tail_any (ops:=[.ref s3.heap.objs.size,v]) ht hT hg (by with_unfolding_all rfl)
noncomputable def cutV (xs:List V) (lo hi:Option Int):List V:=(xs.drop (HT.sIx xs.length 0 lo)).take (HT.sIx xs.length xs.length hi-HT.sIx xs.length 0 lo)
theorem vf (xs:List V) (lo hi:Option Int):(cutV xs lo hi).length<=xs.length:=by
 unfold cutV
 rw [List.length_take,List.length_drop]
 omega
noncomputable def rSlT (K:PySem.W.Frag):V->Option Int->Option Int->Hp->VK->Prop:=fun x lo hi H Q=>∃a xs,x=.ref a/\SqT K H a xs /\
 ¬(HT.sIx xs.length 0 lo=0/\HT.sIx xs.length xs.length hi=xs.length)/\∀p,H p=none->Q (.ref p) (upd H p (.tup (cutV xs lo hi)))
theorem sl_tup:SlR X (rSlT X.K):=by
 intro pins s σ H x v vl vu lo hi sl Q I rx hs pl pu h
 obtain ⟨a,xs,rfl,hx,hw,q⟩:=h
 cases rx
 obtain ⟨its,r,ht,hz⟩:=I.tuple hx
 have hlen:its.toArray.size=xs.length:=by rw [List.size_toArray];exact r.length.symm
 refine ⟨"tuple",_,PyProof.Rows.slot_tuple_getitem.lookup,ht.typeIs,?_⟩
 refine HT.t5 ht hs pl pu (by rw [hlen];exact hw) ?_ (by rw [hlen];exact hz)
 rw [hlen]
 refine ⟨.ref s.heap.objs.size,_,I.laid (t':=s.toks) (o:=.tup (cutV xs lo hi)) (fun b ob q=>Heap.get?_push_of_some _ q) (Nat.le_refl _) ?_,rfl,q _ (I.hok.fresh (Nat.le_refl _))⟩
 exact ⟨Nat.le_trans (vf xs lo hi) hz,_,(r.drop (HT.sIx xs.length 0 lo)).take (HT.sIx xs.length xs.length hi-HT.sIx xs.length 0 lo),IsTup.new _ _⟩
noncomputable def rCatT (K:PySem.W.Frag):R2:=fun x y H Q=>∃a b xs ys,x=.ref a/\y=.ref b/\SqT K H a xs/\SqT K H b ys/\xs≠[]/\xs.length+ys.length<=sizeLine /\
 (ys=[]->Q (.ref a) H)/\(ys≠[]->∀p,H p=none->Q (.ref p) (upd H p (.tup (xs++ys))))
theorem Vals.zS {xs:List V} {us:List Value} (r:Vals xs us):us=[]↔xs=[]:=by
 cases r with
 |nil=>simp
 |cons _ _=>simp
theorem op_catT:OpR X (binaryOp .Add) (rCatT X.K):=by
 intro pins s σ H x y v u Q I rx ry h
 obtain ⟨a,b,xs,ys,rfl,rfl,ha,hb,hx,hz,q1,q2⟩:=h
 cases rx
 cases ry
 obtain ⟨its,r1,p1,_⟩:=I.tuple ha
 obtain ⟨its2,r2,p2,_⟩:=I.tuple hb
 refine HT.cat_tup p1 p2 (fun z=>hx (r1.zS.mp z)) (fun z=>⟨.ref a,H,I,rfl,q1 (r2.zS.mp z)⟩) (fun z=>?_) (by rw [<- r1.length,<- r2.length];exact hz)
 refine ⟨.ref s.heap.objs.size,_,I.laid (t':=s.toks) (o:=.tup (xs++ys)) (fun b ob q=>Heap.get?_push_of_some _ q) (Nat.le_refl _) ?_,rfl,q2 (fun w=>z (r2.zS.mpr w)) _ (I.hok.fresh (Nat.le_refl _))⟩
 exact ⟨by rw [List.length_append];exact hz,_,r1.append r2,IsTup.new _ _⟩
end
end L2
namespace L2
open PySem PySem.Spec PyProof.Rows
noncomputable def ixN (n:Nat) (i:Int):Option Nat:=if 0<=i then (if i<n then some i.toNat else none) else if -(n:Int)<=i then some (i+n).toNat else none
noncomputable def atI {α:Type} (xs:List α) (i:Int):Option α:=(ixN xs.length i).bind fun j=>xs[j]?
theorem xi {n:Nat} {i:Int} {j:Nat} (h:ixN n i=some j):seqIndex? i n=some j/\j<n/\ -(n:Int)<=i/\i<n:=by
 unfold ixN at h
 by_cases h0:0<=i
 ·rw [if_pos h0] at h
  by_cases h1:i<n
  ·rw [if_pos h1] at h
   have e:i.toNat=j:=Option.some.inj h
   exact ⟨by rw [seqIndex_of h0 h1,e],by omega,by omega,h1⟩
  ·rw [if_neg h1] at h;cases h
 ·rw [if_neg h0] at h
  by_cases h1: -(n:Int)<=i
  ·rw [if_pos h1] at h
   have e:(i+n).toNat=j:=Option.some.inj h
   exact ⟨by rw [seqIndex_neg (by omega) h1,e],by omega,h1,by omega⟩
  ·rw [if_neg h1] at h;cases h
theorem Ax {α:Type} {xs:List α} {i:Int} {v:α} (h:atI xs i=some v):∃j,seqIndex? i xs.length=some j/\xs[j]? =some v/\j<xs.length/\ -(xs.length:Int)<=i/\i<xs.length:=by
 unfold atI at h
 cases e:ixN xs.length i with
 |none=>rw [e] at h;cases h
 |some j=>
  rw [e] at h
  obtain ⟨h1,h2,h3,h4⟩:=xi e
  exact ⟨j,h1,h,h2,h3,h4⟩
noncomputable def Az (b:Expr):Prop:=∀o i,subscripted b false o i=operate [o,i] (getItem o i)
noncomputable def IxR (X:Cx) (r:R2):Prop:=
 ∀(value slice:Expr) (pins:List (Addr×Obj)) (s:Shared) (σ:St) (H:Hp) (x y:V) (v u:Value) (Q:VK),Inv X pins σ H s->RelV x v->RelV y u->r x y H Q ->
  subscripted slice false v u=operate [v,u] (getItem v u)->wpAny (model X.prog X.w) X.A (subscriptTail value slice v u) (EP X pins σ Q) X.xe s
noncomputable def MtR (X:Cx) (id:String) (r:V->List V->Hp->VK->Prop):Prop:=
 ∀(pins:List (Addr×Obj)) (s:Shared) (σ:St) (H:Hp) (x:V) (xs:List V) (v:Value) (us:List Value) (Q:VK),Inv X pins σ H s->RelV x v->Vals xs us->r x xs H Q ->
  wpAny (model X.prog X.w) X.A (call (.builtin id) (v::us)) (EP X pins σ Q) X.xe s
section
variable {X:Cx} {a b:Expr} {ta tb:TE} {pos:Pos}
theorem IxR.or {r r':R2} (h:IxR X r) (h':IxR X r'):IxR X (fun x y H Q=>r x y H Q\/r' x y H Q):=by
 intro value slice pins s σ H x y v u Q I rx ry q hs
 rcases q with q|q
 ·exact h value slice pins s σ H x y v u Q I rx ry q hs
 ·exact h' value slice pins s σ H x y v u Q I rx ry q hs
theorem pe_ix {r:R2} (hr:IxR X r) (ha:PE X a ta) (hb:PE X b tb) (hs:Az b):PE X (.Subscript a b pos) (tOp r ta tb):=by
 intro pins s σ H Q I h
 exact Subscript_ (binT ha hb I h fun v u s2 x y H2 I2 rx ry q=>hr a b pins s2 σ H2 x y v u Q I2 rx ry q (hs _ _))
noncomputable def rIxL (K:PySem.W.Frag):R2:=fun x y H Q=>∃p xs i v,x=.ref p/\y=.int i/\SqL K H p xs/\atI xs i=some v/\Q v H
noncomputable def rIxT (K:PySem.W.Frag):R2:=fun x y H Q=>∃p xs i v,x=.ref p/\y=.int i/\SqT K H p xs/\atI xs i=some v/\Q v H
noncomputable def rIxS:R2:=fun x y H Q=>∃z i c,x=.str z/\y=.int i/\z.length<=sizeLine/\atI z.cps.toList i=some c/\Q (.str ⟨#[c]⟩) H
theorem ix_list:IxR X (rIxL X.K):=by
 intro value slice pins s σ H x y v u Q I rx ry h hs
 obtain ⟨p,xs,i,z,rfl,rfl,hq,he,q⟩:=h
 cases rx
 obtain ⟨t,rfl⟩:=ry
 obtain ⟨its,r,pl,hz⟩:=I.list hq
 obtain ⟨j,h1,h2,h3,h4,h5⟩:=Ax he
 obtain ⟨w,ew,rw'⟩:=r.get h2
 have hl:=r.length
 have hn:=vY
 have fin:EP X pins σ Q w s:=⟨z,H,I,rw',q⟩
 by_cases h0:0<=i
 ·have hj:i.toNat=j:=by
   rw [seqIndex_of h0 h5] at h1
   exact Option.some.inj h1
  exact item_listR pl.isList h0 (by omega) (by rw [hj];simpa using ew) fin hs
 ·have hj:(i+(its.toArray.size:Int)).toNat=j:=by
   rw [seqIndex_neg (by omega) h4] at h1
   rw [List.size_toArray,<- hl]
   exact Option.some.inj h1
  exact subscriptTail_builtinR (x:=w) pl.isList.typeIs slot_list_getitem.lookup
   (wpAny_getItem_list_neg (Q:=fun r s'=>r=w/\EP X pins σ Q r s') pl.isList (by omega) (by rw [List.size_toArray]<;>omega) (by omega) (by rw [hj];simpa using ew) ⟨rfl,fin⟩) hs
theorem ix_tup:IxR X (rIxT X.K):=by
 intro value slice pins s σ H x y v u Q I rx ry h hs
 obtain ⟨p,xs,i,z,rfl,rfl,hq,he,q⟩:=h
 cases rx
 obtain ⟨t,rfl⟩:=ry
 obtain ⟨its,r,pl,hz⟩:=I.tuple hq
 obtain ⟨j,h1,h2,h3,h4,h5⟩:=Ax he
 obtain ⟨w,ew,rw'⟩:=r.get h2
 have hl:=r.length
 have hn:=vY
 have fin:EP X pins σ Q w s:=⟨z,H,I,rw',q⟩
 exact subscriptTail_builtinR (x:=w) pl.typeIs slot_tuple_getitem.lookup
  (getItem_tuple (j:=j) (Q:=fun r s'=>r=w/\EP X pins σ Q r s') pl (by omega) (by omega) (by rw [List.size_toArray,<- hl];exact h1) (by simpa using ew) ⟨rfl,fin⟩) hs
theorem ix_str:IxR X rIxS:=by
 intro value slice pins s σ H x y v u Q I rx ry h hs
 obtain ⟨z,i,c,rfl,rfl,hz,he,q⟩:=h
 obtain ⟨t,rfl⟩:=rx
 obtain ⟨t',rfl⟩:=ry
 obtain ⟨j,h1,h2,h3,h4,h5⟩:=Ax he
 have hl:z.cps.toList.length=z.length:=by simp [Str.length]
 rw [hl] at h1 h4 h5
 have hn:=vY
 exact tail_any (typeIs_str s z t) slot_str_getitem.lookup (getItem_str (c:=c) (by
  have e1:decide (i< -(2^63:Int))=false:=decide_eq_false (by omega)
  have e2:decide (i>=2^63)=false:=decide_eq_false (by omega)
  rw [e1,e2,Bool.or_false]) (by rw [h1];simpa using h2) ⟨.str ⟨#[c]⟩,H,I.tok _,⟨_,rfl⟩,q⟩) hs
noncomputable def rIx (K:PySem.W.Frag):R2:=fun x y H Q=>rIxL K x y H Q\/rIxT K x y H Q\/rIxS x y H Q
theorem ix_seq:IxR X (rIx X.K):=ix_list.or (ix_tup.or ix_str)
theorem BJ (its:List Value) (n j:Nat) (u:Value):Obj.mapSeq (·.setIfInBounds j u) {cls:=.type "list",data:=.seq its.toArray n}={cls:=.type "list",data:=.seq (its.set j u).toArray n}:=by
 simp [Obj.mapSeq]
theorem Inv.lst {pins:List (Addr×Obj)} {σ:St} {H:Hp} {s:Shared} {p:Addr} {xs:List V} (I:Inv X pins σ H s) (h:H p=some (.lst xs)) :
  ∃(its:List Value) (n:Nat),Vals xs its/\s.heap.get? p=some {cls:=.type "list",data:=.seq its.toArray n}/\xs.length<=sizeLine:=by
 obtain ⟨z,its,n,r,e⟩:=I.hok p _ h
 exact ⟨its,n,r,e,z⟩
theorem Inv.lstUpd {pins:List (Addr×Obj)} {σ:St} {H:Hp} {s:Shared} {p:Addr} {xs ys:List V} {its its':List Value} {n n':Nat} {f:Obj->Obj} (I:Inv X pins σ H s) (h:H p=some (.lst xs))
  (ho:s.heap.get? p=some {cls:=.type "list",data:=.seq its.toArray n}) (hf:f {cls:=.type "list",data:=.seq its.toArray n}={cls:=.type "list",data:=.seq its'.toArray n'}) (r:Vals ys its') (hz:ys.length<=sizeLine) (t:Nat) :
  Inv X pins σ (upd H p (.lst ys)) {s with heap:=s.heap.update p f,toks:=t}:=by
 have e:(s.heap.update p f).get? p=some {cls:=.type "list",data:=.seq its'.toArray n'}:=by
  rw [Heap.get?_update_self f ho (by rw [hf]<;>rfl),hf]
 refine I.write (x:=p) (e:=p) (by rw [h];trivial) (.inl rfl) (fun b u hb q=>(Heap.get?_update_other _ _ (Ne.symm hb)).trans q) ⟨_,e⟩ ?_
 exact ⟨hz,its',n',r,e⟩
noncomputable def rSetL:V->V->V->Hp->(Hp->Prop)->Prop:=fun o i v H Q=>∃p xs k j,o=.ref p/\i=.int k/\H p=some (.lst xs)/\ixN xs.length k=some j/\Q (upd H p (.lst (xs.set j v)))
theorem set_list:PSet X rSetL:=by
 intro pins s σ H o i v ov iv u Q I ro ri rv h
 obtain ⟨p,xs,k,j,rfl,rfl,hp,hj,q⟩:=h
 cases ro
 obtain ⟨t,rfl⟩:=ri
 obtain ⟨its,n,r,ho,hz⟩:=I.lst hp
 obtain ⟨h1,h2,h3,h4⟩:=xi hj
 have hl:=r.length
 have hn:=vY
 have I':Inv X pins σ (upd H p (.lst (xs.set j v))) {s with heap:=s.heap.update p (Obj.mapSeq (·.setIfInBounds j u))}:=
  I.lstUpd hp ho (BJ its n j u) (r.set rv j) (by rw [List.length_set];exact hz) s.toks
 by_cases h0:0<=k
 ·have hk:k.toNat=j:=by
   rw [seqIndex_of h0 h4] at h1
   exact Option.some.inj h1
  exact PySem.W.ki_setAt ho h0 (by omega) (by rw [List.size_toArray,<- hl];exact h4) (by rw [hk];exact ⟨_,I',q⟩)
 ·have hk:(k+(its.toArray.size:Int)).toNat=j:=by
   rw [seqIndex_neg (by omega) h3] at h1
   rw [List.size_toArray,<- hl]
   exact Option.some.inj h1
  exact PySem.W.ki_setBack ho (by omega) (by rw [List.size_toArray,<- hl];exact h3) (by omega) (by rw [hk];exact ⟨_,I',q⟩)
theorem yj (lo hi:Option Int) (n:Nat):(sliceBounds lo hi none n).1=((HT.sIx n 0 lo:Nat):Int)/\(sliceBounds lo hi none n).2.1=((HT.sIx n n hi:Nat):Int)/\(sliceBounds lo hi none n).2.2=1:=by
 refine ⟨?_,?_,rfl⟩
 ·cases lo with
  |none=>simp [sliceBounds,HT.sIx]
  |some i=>
   simp only [sliceBounds,HT.sIx,Option.getD_none,show (1:Int)>0 by decide,if_true]
   by_cases h:i<0
   ·simp only [h,if_true]<;>omega
   ·simp only [h,if_false]<;>omega
 ·cases hi with
  |none=>simp [sliceBounds,HT.sIx]
  |some i=>
   simp only [sliceBounds,HT.sIx,Option.getD_none,show (1:Int)>0 by decide,if_true]
   by_cases h:i<0
   ·simp only [h,if_true]<;>omega
   ·simp only [h,if_false]<;>omega
theorem wH (its:List Value) (lo hi:Option Int):slicePick its.toArray lo hi none=((its.drop (HT.sIx its.length 0 lo)).take (HT.sIx its.length its.length hi-HT.sIx its.length 0 lo)).toArray:=by
 obtain ⟨h1,h2,h3⟩:=yj lo hi its.toArray.size
 unfold slicePick
 rw [h1,h2,h3]
 simp only [sliceRange_one,pick_run,List.size_toArray]<;>rfl
noncomputable def rSlL (K:PySem.W.Frag):V->Option Int->Option Int->Hp->VK->Prop:=fun x lo hi H Q=>∃a xs,x=.ref a/\SqL K H a xs/\∀p,H p=none->Q (.ref p) (upd H p (.lst (cutV xs lo hi)))
theorem sl_list:SlR X (rSlL X.K):=by
 intro pins s σ H x v vl vu lo hi sl Q I rx hs pl pu h
 obtain ⟨a,xs,rfl,hx,q⟩:=h
 cases rx
 obtain ⟨its,r,ht,hz⟩:=I.list hx
 have hlen:=r.length
 refine ⟨"list",_,slot_list_getitem.lookup,ht.isList.typeIs,?_⟩
 refine wpAny_getItem_list_slice ht.isList hs pl pu .none (by simp) ?_ (by rw [List.size_toArray]<;>omega)
 rw [wH,<- hlen]
 refine ⟨.ref s.heap.objs.size,_,I.laid (t':=s.toks) (o:=.lst (cutV xs lo hi)) (fun b ob q=>Heap.get?_push_of_some _ q) (Nat.le_refl _) ?_,rfl,q _ (I.hok.fresh (Nat.le_refl _))⟩
 exact ⟨Nat.le_trans (vf xs lo hi) hz,_,0,(r.drop (HT.sIx xs.length 0 lo)).take (HT.sIx xs.length xs.length hi-HT.sIx xs.length 0 lo),Heap.get?_push_size _ rfl⟩
noncomputable def flatV:V->Bool
 |.non=>true
 |.bl _=>true
 |.int _=>true
 |.str _=>true
 |_=>false
noncomputable def eqV:V->V->Bool
 |.non,.non=>true
 |.bl a,.bl b=>a==b
 |.bl a,.int b=>(if a then 1 else 0)==b
 |.int a,.bl b=>a==(if b then 1 else 0)
 |.int a,.int b=>a==b
 |.str a,.str b=>a==b
 |_,_=>false
theorem pW:eA X (.builtin "len") (fun xs H Q=>∃p ys,xs=[.ref p]/\(SqL X.K H p ys\/SqT X.K H p ys)/\Q (.int ys.length) H):=by
 intro pins s σ H xs us Q I r h
 obtain ⟨p,ys,rfl,hq,q⟩:=h
 obtain ⟨u,rfl,rx⟩:=vals1 r
 cases rx
 have hn:=vY
 rcases hq with hq|hq
 ·obtain ⟨its,r',pl,hz⟩:=I.list hq
  have hlen:=r'.length
  exact Calls.call_len_list pl.isList (by simp only [List.size_toArray]<;>omega) ⟨.int ys.length,H,I.tok _,⟨s.toks+1,by rw [List.size_toArray,hlen]⟩,q⟩
 ·obtain ⟨its,r',pl,hz⟩:=I.tuple hq
  have hlen:=r'.length
  exact len_tuple pl (by simp only [List.size_toArray]<;>omega) ⟨.int ys.length,H,I.tok _,⟨s.toks+1,by rw [List.size_toArray,hlen]⟩,q⟩
theorem eA.or {f:Value} {r r':List V->Hp->VK->Prop} (h:eA X f r) (h':eA X f r'):eA X f (fun xs H Q=>r xs H Q\/r' xs H Q):=by
 intro pins s σ H xs us Q I rs q
 rcases q with q|q
 ·exact h pins s σ H xs us Q I rs q
 ·exact h' pins s σ H xs us Q I rs q
theorem ze:eA X (.type "list") (fun xs H Q=>∃p ys,xs=[.ref p]/\(SqL X.K H p ys\/SqT X.K H p ys)/\∀l,H l=none->Q (.ref l) (upd H l (.lst ys))):=by
 intro pins s σ H xs us Q I r h
 obtain ⟨p,ys,rfl,hq,q⟩:=h
 obtain ⟨u,rfl,rx⟩:=vals1 r
 cases rx
 have fin:∀(its:List Value),Vals ys its->ys.length<=sizeLine->∀(h':Heap) (c':Nat),(∀b o',s.heap.get? b=some o'->h'.get? b=some o') ->
   h'.get? s.heap.objs.size=some {cls:=.type "list",dict:=none,data:=.seq its.toArray c',slots:=#[]}->EP X pins σ Q (.ref s.heap.objs.size) {s with heap:=h'}:=fun its r' hz h' c' kp e=>
  ⟨.ref s.heap.objs.size,_,I.laid (t':=s.toks) kp (Nat.le_refl _) (show jQ X.prog X.w _ h' _ (.lst ys) from ⟨hz,its,c',r',e⟩),rfl,q _ (I.hok.fresh (Nat.le_refl _))⟩
 rcases hq with hq|hq
 ·obtain ⟨its,r',pl,hz⟩:=I.list hq
  have hlen:=r'.length
  obtain ⟨o,ho,hc,n,hd⟩:=pl.isList
  exact call_list_seq p (.inl rfl) ho hc hd (fun h' c' kp e=>fin its r' hz h' c' kp e) (by simp only [List.size_toArray]<;>omega)
 ·obtain ⟨its,r',pl,hz⟩:=I.tuple hq
  have hlen:=r'.length
  obtain ⟨o,ho,hc,n,hd⟩:=pl
  exact call_list_seq p (.inr rfl) ho hc hd (fun h' c' kp e=>fin its r' hz h' c' kp e) (by simp only [List.size_toArray]<;>omega)
noncomputable def tyV (K:PySem.W.Frag) (T:String) (x:V) (H:Hp):Prop:=match x with
 |.str _=>T="str"
 |.int _=>T="int"
 |.ref p=>(T="list"/\∃xs,SqL K H p xs)\/(T="tuple"/\∃o,K.lookup p=some o/\o.cls=.type "tuple"/\o.dict=none) \/
   (T="dict"/\((∃kvs,H p=some (.dK kvs))\/∃kvs,H p=some (.dT kvs)))\/(T="set"/\∃S n,H p=some (.set S n))
 |_=>False
theorem tyV_is {pins:List (Addr×Obj)} {σ:St} {H:Hp} {s:Shared} {T:String} {x:V} {v:Value} (I:Inv X pins σ H s) (r:RelV x v) (ty:tyV X.K T x H) :
  s.TypeIs v T/\∀a,v=.ref a->∃ob,s.heap.get? a=some ob/\ob.dict=none:=by
 cases x with
 |str z=>
  obtain ⟨t,rfl⟩:=r
  cases (show T="str" from ty)
  exact ⟨typeIs_str s z t,fun _ e=>nomatch e⟩
 |int i=>
  obtain ⟨t,rfl⟩:=r
  cases (show T="int" from ty)
  exact ⟨typeIs_int s i t,fun _ e=>nomatch e⟩
 |ref p=>
  cases r
  rcases ty with ⟨rfl,xs,hq⟩|⟨rfl,o,hk,hc,hd⟩|⟨rfl,hk⟩|⟨rfl,S,n,hk⟩
  ·obtain ⟨its,_,pl,_⟩:=I.list hq
   refine ⟨pl.isList.typeIs,fun a e=>?_⟩
   cases e
   obtain ⟨o,n,e,c,hd,_⟩:=pl
   exact ⟨o,e,hd⟩
  ·refine ⟨⟨o,I.kIn p o hk,hc⟩,fun a e=>?_⟩
   cases e
   exact ⟨o,I.kIn _ o hk,hd⟩
  ·have z:∃o,s.heap.get? p=some o/\o.ExactDict:=by
    rcases hk with ⟨kvs,hk⟩|⟨kvs,hk⟩
    ·obtain ⟨_,_,_,_,o,_,_,e,ex,_⟩:=I.hok p _ hk
     exact ⟨o,e,ex⟩
    ·obtain ⟨_,_,_,_,o,_,_,e,ex,_⟩:=I.hok p _ hk
     exact ⟨o,e,ex⟩
   obtain ⟨o,e,ex⟩:=z
   refine ⟨⟨o,e,ex.1⟩,fun a e2=>?_⟩
   cases e2
   exact ⟨o,e,ex.2.1⟩
  ·obtain ⟨o,_,_,_,e,ex,_⟩:=I.hok p _ hk
   refine ⟨⟨o,e,ex.1⟩,fun a e2=>?_⟩
   cases e2
   exact ⟨o,e,ex.2.1⟩
 |_=>exact False.elim ty
noncomputable def tBM (K:PySem.W.Frag) (T:String) (r:V->List V->Hp->VK->Prop) (to:TE) (t:TA):TE:=fun σ H Q=>to σ H fun x H1=>tyV K T x H1/\t σ H1 fun xs H2=>r x xs H2 Q
variable {o e:Expr} {es:List Expr} {to:TE} {t:TA} {name:Str} {apos cpos:Pos} {T id:String} {r:V->List V->Hp->VK->Prop}
theorem pe_bm (pa:PlainAttrs T) (slot:Slot T name id) (hty:typeOf (.builtin id)=pure (.type "method_descriptor")) (hm:MtR X id r) (ho:PE X o to) (ha:PA X (e::es) t)
  (hbase:attributeBase o name X.env (eval o X.env)=eval o X.env:=by rfl)
  (hfew:((backTo cpos (starEach (e::es) X.env)).all (fun x=> !x.1)&&(backToKw cpos (keywordEach [] X.env)).all (fun x=>x.1.isSome)
   &&decide ((e::es).length+([]:List Keyword).length+(if ([]:List Keyword).isEmpty then 0 else 1)<30))=true:=by rfl)
  (hline:(apos.endLine==cpos.line)=true:=by rfl) (hs:starEach (e::es) X.env=(false,eval e X.env)::starEach es X.env:=by rfl) (hplain:(backTo cpos (starEach es X.env)).any (·.1)=false:=by rfl) :
  PE X (.Call (.Attribute o name apos) (e::es) [] cpos) (tBM X.K T r to t):=by
 intro pins s σ H Q I h
 refine wpAny_Call_method_late hbase hfew hline rfl (thn (ho pins s σ H _ I h) fun v s1 ⟨x,H1,I1,r1,ty,q1⟩=>?_)
 obtain ⟨h1,h2⟩:=tyV_is I1 r1 ty
 refine ⟨T,id,pa,slot,hty,h1,h2,?_⟩
 have hA:=ha cpos pins s1 σ H1 _ I1 q1
 rw [hs] at hA ⊢
 refine Calls.callWith_builtin (by show (false||(backTo cpos (starEach es X.env)).any (·.1))=false;rw [hplain]<;>rfl) (Calls.evalArgs_plain ?_)
 exact thn hA fun us s2 ⟨vs,H2,I2,r2,q2⟩=>hm pins s2 σ H2 x vs v us Q I2 r1 r2 q2
/- xs.append(e),list.index on a module's tuple .. are MtR facts of 06m -/
end
end L2
namespace L2
open PySem PySem.Spec PyProof.Rows
noncomputable def MtM (X:Cx) (id:String) (r:V->List V->Hp->VK->Prop):Prop:=
 ∀(pins:List (Addr×Obj)) (s:Shared) (σ:St) (H:Hp) (x:V) (xs:List V) (v:Value) (us:List Value) (Q:VK),Inv X pins σ H s->RelV x v->Vals xs us->r x xs H Q ->
  wpAny (model X.prog X.w) X.A (call (.builtin id) (v::us)) (EP X pins σ Q) X.xe s
theorem Vals.one:∀{x:V} {us:List Value},Vals [x] us->∃u,us=[u]/\RelV x u
 |_,_,.cons r .nil=>⟨_,rfl,r⟩
theorem Vals.two:∀{x y:V} {us:List Value},Vals [x,y] us->∃u v,us=[u,v]/\RelV x u/\RelV y v
 |_,_,_,.cons r (.cons q .nil)=>⟨_,_,rfl,r,q⟩
theorem Vals.zero:∀{us:List Value},Vals [] us->us=[]
 |_,.nil=>rfl
theorem Vals.eraseIdx:∀{xs:List V} {us:List Value} (i:Nat),Vals xs us->Vals (xs.eraseIdx i) (us.eraseIdx i)
 |_,_,_,.nil=>.nil
 |_,_,0,.cons _ t=>t
 |_,_,i+1,.cons r t=>.cons r (Vals.eraseIdx i t)
theorem Vals.reverse {xs:List V} {us:List Value} (h:Vals xs us):Vals xs.reverse us.reverse:=by
 induction h with
 |nil=>exact .nil
 |cons r t ih=>rw [List.reverse_cons,List.reverse_cons];exact Vals.append ih (.cons r .nil)
theorem Vals.rep {xs:List V} {us:List Value} (h:Vals xs us):∀k:Nat,Vals (List.replicate k xs).flatten (List.replicate k us).flatten
 |0=>.nil
 |k+1=>by
  rw [List.replicate_succ,List.replicate_succ,List.flatten_cons,List.flatten_cons]
  exact Vals.append h (Vals.rep h k)
theorem yK {α:Type}:∀(l:List α) (i:Nat),(l.eraseIdx i).length<=l.length
 |[],_=>Nat.le_refl _
 |_::_,0=>Nat.le_succ _
 |_::r,i+1=>Nat.succ_le_succ (yK r i)
theorem foldl_rep (its:List Value):∀(k:Nat) (acc:List Value),
  List.foldl (fun x1 x2=>x1++x2) acc.toArray (List.replicate k its.toArray)=(acc++(List.replicate k its).flatten).toArray
 |0,acc=>by simp
 |k+1,acc=>by
  have e:acc.toArray++its.toArray=(acc++its).toArray:=by simp
  have e2:(acc++its)++(List.replicate k its).flatten=acc++(List.replicate (k+1) its).flatten:=by
   rw [List.replicate_succ,List.flatten_cons,List.append_assoc]
  rw [<- e2,<- foldl_rep its k (acc++its),<- e,List.replicate_succ,List.foldl_cons]
section
variable {X:Cx} {pins:List (Addr×Obj)} {σ:St} {H:Hp} {s:Shared} {l b:Addr} {xs ys zs:List V}
theorem Inv.lset {its its':List Value} {n:Nat} {f:Array Value->Array Value} {t':Nat} (I:Inv X pins σ H s) (hH:H l=some (.lst xs))
  (e:s.heap.get? l=some {cls:=.type "list",data:=.seq its.toArray n}) (hf:f its.toArray=its'.toArray) (hv:Vals ys its') (hz:ys.length<=sizeLine) :
  Inv X pins σ (upd H l (.lst ys)) {s with heap:=s.heap.update l (Obj.mapSeq f),toks:=t'}:=by
 have q:=PySem.IsL.update e f
 rw [hf] at q
 refine I.write (x:=l) (e:=l) (by rw [hH];exact trivial) (.inl rfl) (fun b' u hb hu=>(Heap.get?_update_other s.heap (Obj.mapSeq f) (Ne.symm hb)).trans hu) ⟨_,q⟩ ?_
 exact ⟨hz,its',_,hv,q⟩
theorem Inv.lnew {its:List Value} {t':Nat} (I:Inv X pins σ H s) (hv:Vals ys its) (hz:ys.length<=sizeLine) :
  Inv X pins σ (upd H s.heap.objs.size (.lst ys)) {s with heap:=s.heap.push {cls:=.type "list",data:=.seq its.toArray},toks:=t'}:=
 I.laid (fun _ _ q=>Heap.get?_push_of_some _ q) (Nat.le_refl _) ⟨hz,its,0,hv,Heap.get?_push_size _ rfl⟩
theorem Inv.fresh (I:Inv X pins σ H s):H s.heap.objs.size=none:=I.hok.fresh (Nat.le_refl _)
theorem Inv.lstM (I:Inv X pins σ H s) (hH:H l=some (.lst xs)):xs.length<=sizeLine/\∃(its:List Value) (n:Nat),Vals xs its/\xs.length=its.length/\s.heap.get? l=some {cls:=.type "list",data:=.seq its.toArray n}:=by
 obtain ⟨z,its,n,r,e⟩:=I.hok l _ hH
 exact ⟨z,its,n,r,r.length,e⟩
theorem notLongL {n:Nat} (h:n<=sizeLine):Builtin.List.listTooLong n=false:=by
 unfold Builtin.List.listTooLong
 exact decide_eq_false (by omega)
end
section
variable {X:Cx}
noncomputable def CQ:V->List V->Hp->VK->Prop:=fun x vs H Q=>∃l xs y,x=.ref l/\vs=[y]/\H l=some (.lst xs)/\xs.length<sizeLine/\Q .non (upd H l (.lst (xs++[y])))
theorem yH:MtM X "list.append" CQ:=by
 intro pins s σ H x vs v us Q I rx rv h
 obtain ⟨l,xs,y,rfl,rfl,hH,hz,q⟩:=h
 cases rx
 obtain ⟨u,rfl,ru⟩:=rv.one
 obtain ⟨z,its,n,r,hl,e⟩:=I.lstM hH
 refine call_meets F.slot_list_append ⟨_,e,rfl⟩ F.entry_list_append (F.args_list_append_2 _ _) (PySem.list_append l its.toArray n u (by rw [List.size_toArray];omega)) ⟨e,?_⟩
 refine ⟨.non,_,I.lset (its':=its++[u]) hH e (by simp) (r.append (.cons ru .nil)) ?_,rfl,q⟩
 rw [List.length_append,List.length_singleton]
 omega
noncomputable def rPopAt:V->List V->Hp->VK->Prop:=fun x vs H Q=>∃l xs i k y,x=.ref l/\vs=[.int i]/\H l=some (.lst xs)/\ -(2^63)<=i/\i<2^63/\seqIndex? i xs.length=some k/\xs[k]? =some y/\Q y (upd H l (.lst (xs.eraseIdx k)))
theorem mt_popAt:MtM X "list.pop" rPopAt:=by
 intro pins s σ H x vs v us Q I rx rv h
 obtain ⟨l,xs,i,k,y,rfl,rfl,hH,h1,h2,hk,hy,q⟩:=h
 cases rx
 obtain ⟨u,rfl,ru⟩:=rv.one
 obtain ⟨t,rfl⟩:=ru
 obtain ⟨z,its,n,r,hl,e⟩:=I.lstM hH
 obtain ⟨w,hw,rw'⟩:=r.get hy
 refine call_meets F.slot_list_pop ⟨_,e,rfl⟩ F.entry_list_pop (F.args_list_pop_2 _ _)
  (MeetsSeq.list_pop_at l its.toArray n i t k w (fitsIndex_both h1 h2) (by rw [List.size_toArray,<- hl];exact hk) (by rw [<- Array.getElem?_toList];exact hw) (by rw [List.size_toArray];omega)) ⟨e,?_⟩
 refine ⟨y,_,I.lset (its':=its.eraseIdx k) hH e ?_ (r.eraseIdx k) ?_,rw',q⟩
 ·show its.toArray.eraseIdxIfInBounds k=(its.eraseIdx k).toArray
  rw [List.eraseIdxIfInBounds_toArray]
 ·have:=yK xs k
  omega
noncomputable def rRep:R2:=fun x y H Q=>∃l k xs,x=.ref l/\y=.int k/\H l=some (.lst xs)/\ -(2^63)<=k/\k<2^63/\xs.length*k.toNat<=sizeLine /\
 ∀p,H p=none->Q (.ref p) (upd H p (.lst (List.replicate k.toNat xs).flatten))
theorem len_rep {α:Type} (xs:List α) (k:Nat):(List.replicate k xs).flatten.length=k*xs.length:=by
 induction k with
 |zero=>simp
 |succ k ih=>rw [List.replicate_succ,List.flatten_cons,List.length_append,ih,Nat.succ_mul,Nat.add_comm]
theorem op_rep:OpR X (binaryOp .Mult) rRep:=by
 intro pins s σ H x y v u Q I rx ry h
 obtain ⟨l,k,xs,rfl,rfl,hH,h1,h2,hz,q⟩:=h
 cases rx
 obtain ⟨t,rfl⟩:=ry
 obtain ⟨z,its,n,r,hl,e⟩:=I.lstM hH
 have hlen:its.toArray.size*k.toNat<=sizeLine:=by rw [List.size_toArray,<- hl];exact hz
 have hcap:¬its.toArray.size*k.toNat>(2^63-1)/8:=by
  have:(sizeLine:Nat)<=(2^63-1)/8:=by decide
  omega
 have hfit:¬(!Builtin.List.listFitsIndex k)=true:=by
  rw [fitsIndex_both h1 h2]
  exact Bool.false_ne_true
 have hlong:¬Builtin.List.listTooLong (its.toArray.size*k.toNat)=true:=by
  rw [notLongL hlen]
  exact Bool.false_ne_true
 have hnew:List.foldl (fun x1 x2=>x1++x2) #[] (List.replicate (if its.toArray.isEmpty=true then 0 else k.toNat) its.toArray)=(List.replicate k.toNat its).flatten.toArray:=by
  have f0:∀m:Nat,List.foldl (fun x1 x2=>x1++x2) #[] (List.replicate m its.toArray)=(List.replicate m its).flatten.toArray:=fun m=>by
   have:=foldl_rep its m []
   rw [List.nil_append] at this
   exact this
  rw [f0]
  cases its with
  |nil=>simp
  |cons a r'=>rw [if_neg (by simp)]
 refine wpAny_binaryOp_repeat_ref (T:="list") (U:="int") (by decide) ⟨_,e,rfl⟩ (fun s'=>typeIs_int s' k t) noFill_list_mul F.fills_int_mul F.slot_int_rmul repeat_list F.slot_int_index.lookup
  (call_meets F.slot_int_rmul (typeIs_int s k t) F.entry_int_rmul (F.args_int_rmul_2 _ _) (int___rmul___int_list k t l its.toArray n)
   ⟨e,rfl,⟨_,e,rfl⟩,call_meets F.slot_list_mul ⟨_,e,rfl⟩ F.entry_list_mul (F.args_list_mul_2 _ _) (AutoListH.list___mul___list_int_3 l its.toArray n k t hfit hcap hlong) ⟨e,?_⟩⟩)
 rw [hnew]
 exact ⟨.ref _,_,I.lnew (t':=s.toks) (r.rep k.toNat) (by rw [len_rep,Nat.mul_comm];exact hz),rfl,q _ I.fresh⟩
end
end L2
namespace Att
open PySem PySem.W PySem.Calls PyProof.Rows
theorem uU {P:Params} {h:Heap}:∀(ns:List Int) (vs:List Value),WellAll P h vs (ns.map WData.int)->IntsAre vs ns:=by
 intro ns
 induction ns with
 |nil=>
  intro vs w
  rw [List.map_nil] at w
  cases w
  exact .nil
 |cons n ns ih=>
  intro vs w
  rw [List.map_cons] at w
  cases w with
  |cons a b=>
   cases a
   exact .cons _ _ (ih _ b)
theorem CI {l:OpenLaw} {n:Nat} (hn:l.most=some n) {P:Params} {h:Heap} {args:List WData} {vals:List Value}
  (hpre:l.row.toRowW.claim.pre args=true) (hwl:WellAll P h vals args) :
  ∃a vs ns,vals=[Value.ref a]/\args=[WData.list (ns.map WData.int)]/\h.get? a=some {cls:=.type "list",data:=.seq vs.toArray}/\IntsAre vs ns/\ns.length<=n:=by
 have hsh:WShape.hasAll [] args [.list .int]=true:=(pre_splitW hpre).1
 have hc:l.pre.holds [] {args:=args}=true:=(pre_splitW hpre).2
 obtain ⟨d,r,rfl,h1,h2⟩:=hasAllW_cons hsh
 obtain rfl:=hasAllW_nil h2
 obtain ⟨xs,rfl,h3⟩:=hasW_list h1
 obtain ⟨ns,rfl⟩:=items_int h3
 have hlen:ns.length<=n:=by
  unfold OpenLaw.pre at hc
  have h4:(WTm.not (.lt (.lit (.int (n:Int))) (.len (.arg 0)))).holds [] {args:=[.list (ns.map .int)]}=true:=by
   have h4:=(holds_andW hc).1
   rw [hn] at h4
   exact h4
  have h5:=condW_of h4 (w_not (w_lt w_lit (w_len_list (w_arg rfl))))
  rw [List.length_map] at h5
  refine Nat.le_of_not_lt fun q=>?_
  have q':(n:Int)<((ns.length:Nat):Int):=by omega
  first
   |(rw [decide_eq_true q'] at h5;exact absurd h5 (by decide))
   |(simp at h5;omega)
 cases hwl with
 |cons w1 w2=>
  cases w2
  cases w1 with
  |list ho hall=>exact ⟨_,_,ns,rfl,rfl,ho,uU ns _ hall,hlen⟩
theorem CW (l:OpenLaw) (args:List WData):l.row.toRowW.claim.post args (.bool true) args=true:=
 postW_of (r:=l.row.toRowW) (X:=(true==true))
  (show WShape.has [] (.bool true) .bool=true by first|rfl|decide|simp [WShape.has,WShape.arms,WShape.armsAll])
  (show (WTm.eq .res (.lit (.bool true))).value [] {args:=args,res:=some (.bool true),after:=args}=some (.bool (true==true)) from w_eq_bool (w_res rfl) w_lit) rfl
theorem Aw {l:OpenLaw} {n:Nat} {q:Program} {loose:List Str} {XP:(Str->Option Value)->Heap->Prop} {YP:World->Heap->Prop} {d:DefRec}
  (hn:l.most=some n) (hdf:d.params.defaults=[])
  (call:∀(w:World) (s₀ s₁:Shared) (mg mb:Str->Option Value) (fa:Addr) (o:Obj) (pm cd doc:Value) (a:Addr) (vs:List Value) (ns:List Int),
   Ground q loose [] XP w s₀ mg mb s₁.heap->YP w s₁.heap ->
   s₁.heap.get? fa=some o->o.data=.func (docDef d.name d.params d.body d.scope pm cd doc)->s₁.heap.CodeRec cd d.name->mg d.name=some (.ref fa) ->
   s₁.heap.get? a=some {cls:=.type "list",data:=.seq vs.toArray}->IntsAre vs ns->ns.length<=n->s₁.gens=#[] ->
   codeAny (model l.prog w) callerA (.call (.ref fa) ⟨[.ref a],[]⟩) (fun r s'=>r=.ok (.ret (.bool true))/\OldK s₁.heap s'.heap/\s'.os=s₁.os/\AllBare s'.gens) s₁) :
  WalkO q loose XP YP l.row.toRowW d [] (fun f vs=>PySem.call f vs):=by
 intro w s₀ s₁ mg mb G Y fa o pm cd doc dV kV ho hd hcd hD hmg hg args vals as hpre hlay hrd hwl hlo
 obtain rfl:dV=.none:=Dflts.none hD hdf
 obtain rfl:kV=.none:=Dflts.noKw hD
 obtain ⟨a,vs,ns,rfl,rfl,hobj,hints,hlen⟩:=CI hn hpre hwl
 refine enter_call (codeAny_mono (call w s₀ s₁ mg mb fa o pm cd doc a vs ns G Y ho (fd_plain hd) hcd hmg hobj hints hlen hg) fun r s' hq=>?_)
 obtain ⟨rfl,h2,h3,h4⟩:=hq
 exact ⟨.inl ⟨.bool true,.bool true,[],rfl,fun _=>rfl,.bool true,CW l _,fun _=>⟨List.Pairwise.nil,fun _ hm=>(nomatch hm)⟩⟩,h2,h3,h4⟩
section
variable {prog:Program} {w:World} {A:Around} {E:Value->Shared->Prop} {s:Shared} {K:Frag}
theorem make_obj {R:Result->Shared->Prop} {C fI:Addr} {rest:List Value} {kw:List (Str×Value)}
  (X:K.In s.heap) (hm:makesIn K C=true) (hi:findIn K (.ref C) "__init__"=some (some (.ref fI))) (hf:isFn K (.ref fI)=true)
  (h:codeAny (model prog w) (A.under (.builtin "type.__call__" ⟨.ref C::rest,kw⟩)) (.call (.ref fI) ⟨.ref (s.heap.objs.size+1)::rest,kw⟩) (InitBack (s.heap.objs.size+1) R)
   {s with heap:=(s.heap.push emptyDict).push (instObj C s.heap.objs.size)}):codeAny (model prog w) A (.call (.ref C) ⟨rest,kw⟩) R s:=by
 obtain ⟨hh,g,d,t,os⟩:=s
 exact make_core (makes_of X hm) (looks_findIn X hi) (fun self=>bind_fn X self (beq_iff_eq.mp hf)) (.inl rfl) h
theorem get_field {x C:Addr} {ox:Obj} {es:List DictEntry} {n:Nat} {name:Str} {expr:Bool} {v:Value} {Q:Value->Shared->Prop}
  (X:K.In s.heap) (I:PySem.W.InstAt s.heap x ox C (some (dictOf es n))) (hg:plainGet K C name=true) (hh:hasDictIn K C=true) (ha:findIn K (.ref C) name=some none)
  (hl:getL name es=some (some v)) (hv:handedIn v=true) (h:Q v {s with toks:=s.toks+1}):wpAny (model prog w) A (getAttr (.ref x) name expr) Q E s:=
 get_value X I (plainGet_of hg).1 (findObj_own hh ha rfl hl) hv h
end
end Att
namespace L2
open PySem PySem.Spec PyProof.Rows
theorem xZ:∀{vs:List Value} {ns:List Int},IntsAre vs ns->Vals (ns.map V.int) vs
 |_,_,.nil=>.nil
 |_,_,.cons n t h=>.cons ⟨t,rfl⟩ (xZ h)
noncomputable def Only (H:Hp):Prop:=∀b,H b=none\/∃o xs,H b=some (.frz o (.lst xs))
theorem law_call {P:Program} {w:World} {K:PySem.W.Frag} {mg mb:Str->Option Value} {CX:CXT} {k:Nat} {fa a:Addr} {fd:FuncData} {x:Str} {sp:Sp} {s₁:Shared} {vs:List Value} {ns:List Int}
  (KX:K.In s₁.heap) (hns:s₁.heap.Ns mainGlobals mg) (hb:s₁.heap.Ns builtinsNs mb) (hbb:∀x:Str,x≠"__name__"->mb x=bootBuiltins x) (hlim:s₁.heap.NoLimit) (hg:s₁.gens=#[])
  (ha:s₁.heap.get? a=some {cls:=.type "list",data:=.seq vs.toArray}) (hi:IntsAre vs ns) (hl:ns.length<=sizeLine) (hr:oQ k callerA)
  (F:∀base:Heap,K.In base->base.Ns mainGlobals mg->cz P w K mg base CX k fa fd [x] sp) (hbind:∀(s:Shared) (u:Value),BindsTo s fd ⟨[u],[]⟩ [(x,u)])
  (hsp:∀H:Hp,Only H->SqL K H a (ns.map V.int)->sp [.ref a] H (fun v _=>v=.bl true) fun _ _ _=>False)
  (hCX:∀H e s',CX [] H s₁ (fun _ _ _=>False) e s'->False) :
  codeAny (model P w) callerA (.call (.ref fa) ⟨[.ref a],[]⟩) (fun r s'=>r=.ok (.ret (.bool true))/\OldK s₁.heap s'.heap/\s'.os=s₁.os/\AllBare s'.gens) s₁:=by
 have rv:=xZ hi
 have lenV:=hi.length
 have core:∀H:Hp,Only H->SqL K H a (ns.map V.int)->HOk P w H s₁.heap->(∀b,H b≠none->b=a)->(H a≠none->K.lookup a=none) ->
   codeAny (model P w) callerA (.call (.ref fa) ⟨[.ref a],[]⟩) (fun r s'=>r=.ok (.ret (.bool true))/\OldK s₁.heap s'.heap/\s'.os=s₁.os/\AllBare s'.gens) s₁:=by
  intro H hO hS hok hA hK
  have base_of:∀{b:Addr} {o:Obj},s₁.heap.get? b=some o->H b=none->(hidT s₁.heap H).get? b=some o:=fun e n=>hidT_get e n
  have noA:∀{b:Addr} {o:Obj} {es:Array DictEntry} {ep:Nat},s₁.heap.get? b=some o->o.data=.dict es ep->H b=none:=fun {b o es ep} e d=>by
   cases q:H b with
   |none=>rfl
   |some u=>
    have e':b=a:=hA b (by rw [q];simp)
    subst e'
    rw [ha] at e;cases e
    have d':Data.seq vs.toArray _=Data.dict es ep:=d
    cases d'
  have nsK:∀{b:Addr} {m:Str->Option Value},s₁.heap.Ns b m->(hidT s₁.heap H).Ns b m:=fun {b m} ⟨o,es,ep,e,d,r⟩=>⟨o,es,ep,base_of e (noA e d),d,r⟩
  have hKb:K.In (hidT s₁.heap H):=fun b o e=>base_of (KX b o e) (by
   cases q:H b with
   |none=>rfl
   |some u=>
    have e':b=a:=hA b (by rw [q];simp)
    subst e'
    rw [hK (by rw [q];simp)] at e;cases e)
  have hM:Mod K mg (hidT s₁.heap H):=⟨hKb,nsK hns,⟨mb,nsK hb,hbb⟩,let ⟨mc,h1,h2⟩:=hlim;⟨mc,nsK h1,h2⟩⟩
  have e0:Env0 P w K mg (hidT s₁.heap H) callerA [] s₁ H:=⟨rfl,hM,fun b o e=>of_hidT e,Nat.le_of_eq (DC _ _),trivial,fun b hb=>absurd (show b∈([]:List Addr) from hb) (by simp),hok,.of_eq hg⟩
  refine codeAny_mono ((F _ hKb (nsK hns)).run callerA [] s₁ H ⟨[.ref a],[]⟩ [.ref a] [.ref a] _ _ hr e0 (hbind s₁ (.ref a)) (.cons rfl .nil) (hsp H hO hS)) fun r s' h=>?_
  cases r with
  |error e=>exact (hCX H e s' h).elim
  |ok fl=>
   cases fl with
   |next=>exact False.elim h
   |brk=>exact False.elim h
   |cont=>exact False.elim h
   |ret u=>
    obtain ⟨v,H',os,bare,un,hok',r',q⟩:=h
    have q':v=.bl true:=q
    subst q'
    obtain rfl:u=Value.bool true:=r'
    refine ⟨rfl,OldK.of_keep fun b o e=>?_,os,bare⟩
    cases q:H b with
    |none=>exact un.keep b o e q (by intro z;exact absurd (show b∈([]:List Addr) from z) (by simp)) (by simp)
    |some u=>
     rcases hO b with z|⟨ob,xs,z⟩
     ·rw [q] at z;cases z
     ·have z2:=un.frzs b ob _ z
      obtain ⟨e1,_⟩:=hok b _ z
      obtain ⟨e2,_⟩:=hok' b _ z2
      rw [e] at e1;cases e1
      exact e2
 cases hk:K.lookup a with
 |some o=>
  have e:=KX a o hk
  rw [ha] at e
  cases e
  refine core (fun _=>none) (fun _=>.inl rfl) (.inr ⟨_,vs.toArray,_,hk,rfl,rfl,rfl,by rw [List.size_toArray,lenV];exact hl,by simpa using rv⟩) (fun b u z=>by have z':(none:Option HO)=some u:=z;cases z') (fun b z=>absurd rfl z) fun z=>absurd rfl z
 |none=>
  refine core (fun b=>if b=a then some (.frz {cls:=.type "list",data:=.seq vs.toArray} (.lst (ns.map V.int))) else none) (fun b=>?_) (.inl (.inr ⟨{cls:=.type "list",data:=.seq vs.toArray},if_pos rfl⟩)) (fun b u z=>?_) (fun b z=>?_) fun _=>hk
  ·by_cases hb:b=a
   ·exact .inr ⟨_,_,if_pos hb⟩
   ·exact .inl (if_neg hb)
  ·by_cases hb:b=a
   ·have z':=(if_pos hb).symm.trans z
    cases z'
    subst hb
    exact ⟨ha,by rw [List.length_map];exact hl,vs,_,rv,ha⟩
   ·have z':=(if_neg hb).symm.trans z
    cases z'
  ·by_cases hb:b=a
   ·exact hb
   ·exact absurd (if_neg hb) z
end L2
namespace L2
open PySem PySem.Spec PyProof.Rows
theorem walk_of {l:PySem.W.OpenLaw} {n k:Nat} {q:Program} {loose:List Str} {XP:(Str->Option Value)->Heap->Prop} {YP:World->Heap->Prop} {d:DefRec} {K:Params->PySem.W.Frag} {CX:World->CXT} {sp:World->Sp} {x:Str}
  (hn:l.most=some n) (hn2:n<=sizeLine) (hdf:d.params.defaults=[]) (hr:oQ k callerA)
  (hY:∀(w:World) (h:Heap),YP w h->(K w.params).In h)
  (F:∀(w:World) (mg:Str->Option Value) (fa:Addr) (h:Heap),(K w.params).In h->h.Ns mainGlobals mg->mg d.name=some (.ref fa) ->
   ∃fd:FuncData,(∀(s:Shared) (u:Value),BindsTo s fd ⟨[u],[]⟩ [(x,u)]) /\
    ∀base:Heap,(K w.params).In base->base.Ns mainGlobals mg->cz l.prog w (K w.params) mg base (CX w) k fa fd [x] (sp w))
  (hsp:∀(w:World) (H:Hp) (a:Addr) (ns:List Int),ns.length<=n->Only H->SqL (K w.params) H a (ns.map V.int)->sp w [.ref a] H (fun v _=>v=.bl true) fun _ _ _=>False)
  (hCX:∀(w:World) (H:Hp) (s:Shared) (e:Value) (s':Shared),CX w [] H s (fun _ _ _=>False) e s'->False) :
  PySem.W.WalkO q loose XP YP l.row.toRowW d [] (fun f vs=>PySem.call f vs):=by
 refine Att.Aw hn hdf fun w s₀ s₁ mg mb fa o pm cd doc a vs ns G Y ho hd hcd hmg hobj hints hlen hg=>?_
 have KX:=hY w _ Y
 obtain ⟨fd,hb,hF⟩:=F w mg fa _ KX G.T.g hmg
 exact law_call KX G.T.g G.T.b G.T.builtins G.T.nolimit hg hobj hints (Nat.le_trans hlen hn2) hr hF hb (fun H hO hS=>hsp w H a ns hlen hO hS) fun H e s'=>hCX w H s₁ e s'
end L2
namespace L2
open PySem PySem.Spec PyProof.Rows
noncomputable def inClass (s:Stmt) (j:Nat):Stmt:=match s with
 |.ClassDef _ _ _ body _ _ _ _ _ _ _=>body.getD j (.Pass ⟨0,0,0,0⟩)
 |_=>.Pass ⟨0,0,0,0⟩
noncomputable def dO (s:Stmt):Arguments:=match s with
 |.FunctionDef _ a _ _ _ _ _ _ _ _=>a
 |_=>{posonlyargs:=[],args:=[],vararg:=none,kwonlyargs:=[],kw_defaults:=[],kwarg:=none,defaults:=[]}
noncomputable def cO (s:Stmt):List Stmt:=match s with
 |.FunctionDef _ _ b _ _ _ _ _ _ _=>b
 |_=>[]
noncomputable def ar (s:Stmt):Scope:=match s with
 |.FunctionDef _ _ _ _ _ _ sc _ _ _=>sc
 |_=>{kind:=.function,names:=[],isGenerator:=false,isCoroutine:=false}
noncomputable abbrev CX0:CXT:=fun _ _ _ _ _ _=>False
noncomputable abbrev E0:XK:=fun _ _ _=>False
theorem wV {X:Cx}:Passes CX0 X E0:=fun _ _ _ _ _ _ _ h=>h.elim
structure Fun (K:PySem.W.Frag) (x qual:Str) (st:Stmt) (f:Addr) (fd:FuncData):Prop where
 ex:∃(oc:Value) (od:Option Addr) (kV doc pm:Value) (an:Option Addr) (cdv ct:Value) (osl:Array (Option Value)),
  fd=fnOf x qual (dO st) (cO st) (ar st) .none kV doc pm an cdv ct/\K.lookup f=some ⟨oc,od,.func fd,osl⟩/\codeIn K cdv qual=true
 kp:keepIn K (.ref f)=true
section
variable {P:Program} {w:World} {K:PySem.W.Frag} {mg:Str->Option Value} {base:Heap}
theorem Fun.binds {x qual:Str} {st:Stmt} {f:Addr} {fd:FuncData} {ps:List Str} (F:Fun K x qual st f fd)
  (h:∀(kV doc pm:Value) (an:Option Addr) (cdv ct:Value) (us:List Value),us.length=ps.length->bindArgs (fnOf x qual (dO st) (cO st) (ar st) .none kV doc pm an cdv ct) ⟨us,[]⟩=pure (ps.zip us)):Binds K fd ps []:=by
 obtain ⟨oc,od,kV,doc,pm,an,cdv,ct,osl,rfl,lk,hcd⟩:=F.ex
 exact .all (h kV doc pm an cdv ct)
theorem B4 {x qual:Str} {st:Stmt} {f:Addr} {oc:Value} {od an:Option Addr} {osl:Array (Option Value)} {kV doc pm cdv ct:Value} (l:K.lookup f=some ⟨oc,od,.func (fnOf x qual (dO st) (cO st) (ar st) .none kV doc pm an cdv ct),osl⟩)
  (c:codeIn K cdv qual=true) (k:keepIn K (.ref f)=true):Fun K x qual st f (fnOf x qual (dO st) (cO st) (ar st) .none kV doc pm an cdv ct):=⟨⟨oc,od,kV,doc,pm,an,cdv,ct,osl,rfl,l,c⟩,k⟩
end
section
variable {X:Cx}
theorem pv (i:Nat) {x:Str} {pos:Pos} (hN:X.N[i]? =some x:=by rfl) (hv:Vis X.env.scope x:=by first|exact Or.inl rfl|exact Or.inr (Or.inl rfl)|exact Or.inr (Or.inr rfl)) (hd:(x==("__debug__":Str))=false:=by decide)
  (hcd:(x==("__classdict__":Str))=false:=by decide):PE X (.Name x pos) (tVar i):=pe_var hN hv hd hcd
end
theorem iteF {A B:Prop} (h:B):if false=true then A else B:=by
 rw [if_neg Bool.false_ne_true]
 exact h
theorem iteNS {c A B:Prop} [Decidable c] (hc:c) (h:B):if (!decide c)=true then A else B:=by
 rw [decide_eq_true hc]
 exact iteF h
noncomputable def bp (H H':Hp):Prop:=∀b o,H b=some o->H' b=some o
theorem bp.refl (H:Hp):bp H H:=fun _ _ h=>h
theorem bp.trans {H H1 H2:Hp} (a:bp H H1) (b:bp H1 H2):bp H H2:=fun c o h=>b c o (a c o h)
theorem bp.free {H H':Hp} (e:bp H H') {l:Addr} (h:H' l=Option.none):H l=Option.none:=by
 cases q:H l with
 |none=>rfl
 |some o=>
  rw [e l o q] at h
  cases h
end L2
set_option maxHeartbeats 4000000
namespace L2
open PySem PySem.Spec PyProof.Rows
noncomputable def wm (cells:List (Str×Addr)):List (Str×NameKind)->List (Str×Addr)->List (Str×Addr)
 |[],acc=>acc
 |(x,k)::r,acc=>wm cells r (if (k==NameKind.free)=true then (x,(cells.lookup x).getD 0)::acc else acc)
theorem gt_ne {a b c:Addr} (h1:b<a) (h2:a<c):c≠b:=by
 rintro rfl
 exact absurd (Nat.lt_trans h1 h2) (Nat.lt_irrefl _)
theorem BM {a b:Addr} {n:Nat} (h1:a<n) (h2:n<=b):a≠b:=by
 rintro rfl
 exact absurd (Nat.lt_of_lt_of_le h1 h2) (Nat.lt_irrefl _)
theorem wk {cells:List (Str×Addr)} {x:Str} {c:Addr}:∀(ns:List (Str×NameKind)) (acc:List (Str×Addr)),(wm cells ns acc).lookup x=some c ->
  ((x,NameKind.free)∈ns/\c=(cells.lookup x).getD 0)\/acc.lookup x=some c
 |[],_,h=>.inr h
 |(y,k)::r,acc,h=>by
  unfold wm at h
  rcases wk r _ h with ⟨m,e⟩|q
  ·exact .inl ⟨List.mem_cons_of_mem _ m,e⟩
  ·by_cases hk:(k==NameKind.free)=true
   ·rw [if_pos hk,List.lookup_cons] at q
    cases hy:x==y with
    |true=>
     rw [hy] at q
     have e1:=eq_of_beq hy
     have e2:=eq_of_beq hk
     subst e1 e2
     exact .inl ⟨List.mem_cons_self,(Option.some.inj q).symm⟩
    |false=>rw [hy] at q;exact .inr q
   ·rw [if_neg hk] at q;exact .inr q
theorem vj {cells:List (Str×Addr)} {x:Str}:∀(ns:List (Str×NameKind)) (acc:List (Str×Addr)),((x,NameKind.free)∈ns\/(acc.lookup x).isSome=true)->((wm cells ns acc).lookup x).isSome=true
 |[],_,h=>h.elim (fun z=>nomatch z) id
 |(y,k)::r,acc,h=>by
  unfold wm
  refine vj r _ ?_
  rcases h with h|h
  ·rcases List.mem_cons.mp h with e|h
   ·cases e
    refine .inr ?_
    rw [if_pos (by decide),List.lookup_cons]
    simp
   ·exact .inl h
  ·refine .inr ?_
   by_cases hk:(k==NameKind.free)=true
   ·rw [if_pos hk,List.lookup_cons]
    cases hy:x==y with
    |true=>rfl
    |false=>exact h
   ·rw [if_neg hk];exact h
theorem qZ {x:Str} {c:Addr}:∀(ns:List (Str×NameKind)) (n:Nat) (acc:List (Str×Addr)),(cellsFrom n ns acc).lookup x=some c->(n<=c/\(x,NameKind.cell)∈ns)\/acc.lookup x=some c
 |[],_,_,h=>.inr h
 |(y,k)::r,n,acc,h=>by
  unfold cellsFrom at h
  by_cases hk:(k==NameKind.cell)=true
  ·rw [if_pos hk] at h
   rcases qZ r (n+1) _ h with ⟨a,m⟩|q
   ·exact .inl ⟨by omega,List.mem_cons_of_mem _ m⟩
   ·rw [List.lookup_cons] at q
    cases hy:x==y with
    |true=>
     rw [hy] at q
     have e1:=eq_of_beq hy
     have e2:=eq_of_beq hk
     have e3:=Option.some.inj q
     subst e1 e2 e3
     exact .inl ⟨Nat.le_refl _,List.mem_cons_self⟩
    |false=>rw [hy] at q;exact .inr q
  ·rw [if_neg hk] at h
   rcases qZ r n acc h with ⟨a,m⟩|q
   ·exact .inl ⟨a,List.mem_cons_of_mem _ m⟩
   ·exact .inr q
theorem vk:∀(ns:List (Str×NameKind)) (n:Nat) (acc:List (Str×Addr)),(∀x y c,acc.lookup x=some c->acc.lookup y=some c->x=y)->(∀x c,acc.lookup x=some c->c<n) ->
  ∀x y c,(cellsFrom n ns acc).lookup x=some c->(cellsFrom n ns acc).lookup y=some c->x=y
 |[],_,_,hi,_=>hi
 |(z,k)::r,n,acc,hi,hl=>by
  unfold cellsFrom
  by_cases hk:(k==NameKind.cell)=true
  ·rw [if_pos hk]
   refine vk r (n+1) _ (fun x y c h1 h2=>?_) (fun x c h1=>?_)
   ·rw [List.lookup_cons] at h1 h2
    cases hx:x==z with
    |true=>
     rw [hx] at h1
     have e1:=Option.some.inj h1
     cases hy:y==z with
     |true=>rw [eq_of_beq hx,eq_of_beq hy]
     |false=>
      rw [hy] at h2
      have h3:=hl y c h2
      rw [<- e1] at h3
      exact absurd h3 (Nat.lt_irrefl _)
    |false=>
     rw [hx] at h1
     cases hy:y==z with
     |true=>
      rw [hy] at h2
      have e2:=Option.some.inj h2
      have h3:=hl x c h1
      rw [<- e2] at h3
      exact absurd h3 (Nat.lt_irrefl _)
     |false=>
      rw [hy] at h2
      exact hi x y c h1 h2
   ·rw [List.lookup_cons] at h1
    cases hx:x==z with
    |true=>
     rw [hx] at h1
     have e1:=Option.some.inj h1
     rw [<- e1]
     exact Nat.lt_succ_self _
    |false=>
     rw [hx] at h1
     exact Nat.lt_succ_of_lt (hl x c h1)
  ·rw [if_neg hk]
   exact vk r n acc hi hl
theorem sD {x:Str} {c:Addr}:∀(ns:List (Str×NameKind)) (h:Heap) (acc:List (Str×Addr)),(cellsFrom h.objs.size ns acc).lookup x=some c ->
  acc.lookup x=some c\/(h.objs.size<=c/\(pushCells h ns).IsCell c none)
 |[],_,_,e=>.inl e
 |(y,k)::r,h,acc,e=>by
  unfold cellsFrom at e
  unfold pushCells
  by_cases hk:(k==NameKind.cell)=true
  ·rw [if_pos hk] at e ⊢
   have q:=sD (x:=x) (c:=c) r (h.push {cls:=.type "cell",data:=.cell none}) ((y,h.objs.size)::acc) (by rw [Heap.size_push];exact e)
   rcases q with q|⟨q1,q2⟩
   ·rw [List.lookup_cons] at q
    cases hy:x==y with
    |true=>
     rw [hy] at q
     have e1:=Option.some.inj q
     subst e1
     exact .inr ⟨Nat.le_refl _,Heap.IsCell.keeps ⟨_,Heap.get?_push_size _ rfl,rfl⟩ (pushCells_keeps r _)⟩
    |false=>rw [hy] at q;exact .inl q
   ·rw [Heap.size_push] at q1
    exact .inr ⟨by omega,q2⟩
  ·rw [if_neg hk] at e ⊢
   exact sD r h acc e
theorem tf {env:Env} (f:Str×NameKind->List (Str×Addr)->Sem (ForInStep (List (Str×Addr))))
  (hf:∀n k cs,f (n,k) cs=if (k==NameKind.free)=true then (do let a <- cellOf env n;pure (.yield ((n,a)::cs))) else pure (.yield cs)) :
  ∀(ns:List (Str×NameKind)) (acc:List (Str×Addr)),(∀x∈ns,x.2=NameKind.free->∃c,env.cells.lookup x.1=some c)->forIn ns acc f=(pure (wm env.cells ns acc):Sem _)
 |[],acc,_=>by rw [List.forIn_nil];rfl
 |(y,k)::r,acc,hc=>by
  have hr:∀x∈r,x.2=NameKind.free->∃c,env.cells.lookup x.1=some c:=fun x hx=>hc x (List.mem_cons_of_mem _ hx)
  rw [List.forIn_cons,hf]
  unfold wm
  by_cases hk:(k==NameKind.free)=true
  ·rw [if_pos hk,if_pos hk]
   obtain ⟨c,e⟩:=hc (y,k) List.mem_cons_self (eq_of_beq hk)
   have e':env.cells.lookup y=some c:=e
   have e2:cellOf env y=pure c:=by unfold cellOf;rw [e']
   rw [e2,e']
   exact tf f hf r _ hr
  ·rw [if_neg hk,if_neg hk]
   exact tf f hf r _ hr
theorem wj {scope:Scope} {env:Env} (hc:∀x∈scope.names,x.2=NameKind.free->∃c,env.cells.lookup x.1=some c):closureFor scope env=pure (wm env.cells scope.names []):=by
 simp only [closureFor]
 rw [tf (env:=env) _ (fun n k cs=>by cases h:(k==NameKind.free)<;>simp [h]) scope.names [] hc]
 rfl
theorem Dj {M:Model} {A:Around} {E:Value->Shared->Prop} {s:Shared} {scope:Scope} {gl:Addr} {cl:List (Str×Addr)} {qual:Str} {around:Env} {Q:Env->Shared->Prop}
  (hQ:∀h1:Heap,(∀b o,s.heap.get? b=some o->h1.get? b=some o)->h1.Ns s.heap.objs.size (fun _=>none) ->
   (∀x c,(cellsFrom (s.heap.objs.size+1) scope.names cl).lookup x=some c->cl.lookup x=some c\/(s.heap.objs.size<c/\h1.IsCell c none)) ->
   Q {scope:=scope,locals:=s.heap.objs.size,globals:=gl,cells:=cellsFrom (s.heap.objs.size+1) scope.names cl,qual:=qual,func:=none,code:=around.code,frame:=around.frame,builtins:=around.builtins} {s with heap:=h1}) :
  wpAny M A (newFunctionEnv scope gl cl [] qual none .none (some around)) Q E s:=by
 simp only [newFunctionEnv,Option.isSome_some,if_true]
 refine wpAny_bind (wpAny_alloc ?_)
 refine wpAny_bind (wpAny_layCells _ (fun name kind cells=>by cases hkc:kind==NameKind.cell<;>simp [hkc]) _ _ _ _ ?_)
 rw [show ({s with heap:=s.heap.push {cls:=.type "dict",data:=.dict #[]}}:Shared).heap.objs.size=s.heap.objs.size+1 from Heap.size_push ..]
 rw [List.forIn_nil]
 refine wpAny_bind (wpAny_pure (wpAny_pure ?_))
 refine hQ _ (fun b o e=>pushCells_keeps _ _ b o (Heap.get?_push_of_some _ e)) ((Heap.Ns.new s.heap (.type "dict")).keeps (pushCells_keeps _ _)) fun x c e=>?_
 have q:=sD (x:=x) (c:=c) scope.names (s.heap.push {cls:=.type "dict",data:=.dict #[]}) cl (by rw [Heap.size_push];exact e)
 rw [Heap.size_push] at q
 exact q.imp id fun ⟨a,b⟩=>⟨by omega,b⟩
theorem vT {env:Env} {x:Str}:∀{ns:List (Str×NameKind)},ns.lookup x=some .free ->
  (ns.map fun (n,k)=>if (k==NameKind.free&&env.scope.kind==.function&&env.kindOf n==some .cell) then (n,NameKind.cell) else (n,k)).lookup x=some .cell \/
  (ns.map fun (n,k)=>if (k==NameKind.free&&env.scope.kind==.function&&env.kindOf n==some .cell) then (n,NameKind.cell) else (n,k)).lookup x=some .free
 |[],h=>by simp at h
 |(n,k)::r,h=>by
  have ih:=@vT env x r
  rw [List.map_cons]
  dsimp only
  by_cases hc:(k==NameKind.free&&env.scope.kind==.function&&env.kindOf n==some .cell)=true
  ·rw [if_pos hc,List.lookup_cons]
   cases hx:x==n with
   |true=>exact .inl rfl
   |false=>rw [List.lookup_cons,hx] at h;exact ih h
  ·rw [if_neg hc,List.lookup_cons]
   cases hx:x==n with
   |true=>
    rw [List.lookup_cons,hx] at h
    have e:=Option.some.inj h
    subst e
    exact .inr rfl
   |false=>rw [List.lookup_cons,hx] at h;exact ih h
theorem vU {env:Env} {x:Str}:∀{ns:List (Str×NameKind)},
  ((ns.map fun (n,k)=>if (k==NameKind.free&&env.scope.kind==.function&&env.kindOf n==some .cell) then (n,NameKind.cell) else (n,k)).lookup x=some .cell \/
  (ns.map fun (n,k)=>if (k==NameKind.free&&env.scope.kind==.function&&env.kindOf n==some .cell) then (n,NameKind.cell) else (n,k)).lookup x=some .free) ->
  ns.lookup x=some .cell\/ns.lookup x=some .free
 |[],h=>by simp at h
 |(n,k)::r,h=>by
  have ih:=@vU env x r
  rw [List.map_cons] at h
  dsimp only at h
  by_cases hc:(k==NameKind.free&&env.scope.kind==.function&&env.kindOf n==some .cell)=true
  ·rw [if_pos hc,List.lookup_cons] at h
   rw [List.lookup_cons]
   cases hx:x==n with
   |true=>
    have:k=NameKind.free:=by
     rw [Bool.and_eq_true,Bool.and_eq_true] at hc
     exact eq_of_beq hc.1.1
    subst this
    exact .inr rfl
   |false=>rw [hx] at h;exact ih h
  ·rw [if_neg hc,List.lookup_cons] at h
   rw [List.lookup_cons]
   cases hx:x==n with
   |true=>rw [hx] at h;exact h
   |false=>rw [hx] at h;exact ih h
noncomputable def bG (X:Cx) (N':List Str) (sc:Scope) (L:Addr) (cs:List (Str×Addr)) (s:Shared) (H:Hp) (fp:List Addr):Cx:=
 {X with
  N:=N',s₀:=s,H₀:=H,outer:=X.stack,ex:=fp,pn:=[],xe:=fun _ _=>False
  fn:=fun x=> !(sc.names.any fun p=>p.1==x&&p.2==NameKind.free)
  env:={scope:=relabel sc X.env,locals:=L,globals:=X.env.globals,cells:=cs,qual:=X.env.qual,func:=none,code:=X.env.code,frame:=X.env.frame,builtins:=X.env.builtins}}
noncomputable def inS (ix:List (Option Nat)) (σ:St):St:=ix.map fun o=>match o with
 |none=>none
 |some j=>(σ[j]?).join
noncomputable def cv (N:List Str) (osc:Scope) (N':List Str) (sc:Scope) (ix:List (Option Nat)):Bool:=
 decide (ix.length=N'.length) &&
 ((List.range ix.length).all fun i=>match ix[i]? with
  |some (some j)=>(match N'[i]?,N[j]? with
   |some x,some y=>x==y&&sc.names.lookup x==some NameKind.free
   |_,_=>false)
  |_=>true) &&
 (sc.names.all fun p=>(p.2 != NameKind.free||(osc.names.lookup p.1==some NameKind.cell||osc.names.lookup p.1==some NameKind.free))&&(p.2 != NameKind.local||sc.names.lookup p.1==some NameKind.local)) &&
 (sc.names.all fun p=>sc.names.all fun q=> !(p.1==q.1)||p.2==q.2)
section
variable {X:Cx} {pins:List (Addr×Obj)} {σ:St} {H:Hp} {s:Shared} {N':List Str} {sc:Scope} {ix:List (Option Nat)}
theorem cv.len (ok:cv X.N X.env.scope N' sc ix=true):ix.length=N'.length:=by
 unfold cv at ok
 rw [Bool.and_eq_true,Bool.and_eq_true,Bool.and_eq_true] at ok
 exact of_decide_eq_true ok.1.1.1
theorem cv.at (ok:cv X.N X.env.scope N' sc ix=true) {i j:Nat} {x:Str} (h:ix[i]? =some (some j)) (hx:N'[i]? =some x):X.N[j]? =some x/\sc.names.lookup x=some .free:=by
 unfold cv at ok
 rw [Bool.and_eq_true,Bool.and_eq_true,Bool.and_eq_true] at ok
 have q:=List.all_eq_true.mp ok.1.1.2 i (List.mem_range.mpr (List.getElem?_eq_some_iff.mp h).1)
 rw [h,hx] at q
 dsimp only at q
 cases e:X.N[j]? with
 |none=>rw [e] at q;cases q
 |some y=>
  rw [e] at q
  dsimp only at q
  rw [Bool.and_eq_true] at q
  exact ⟨by rw [eq_of_beq q.1],eq_of_beq q.2⟩
theorem cv.fr (ok:cv X.N X.env.scope N' sc ix=true) {x:Str} (h:(x,NameKind.free)∈sc.names):X.env.kindOf x=some .cell\/X.env.kindOf x=some .free:=by
 unfold cv at ok
 rw [Bool.and_eq_true,Bool.and_eq_true] at ok
 have q:=List.all_eq_true.mp ok.1.2 _ h
 rw [Bool.and_eq_true] at q
 have q1:=q.1
 rw [Bool.or_eq_true] at q1
 rcases q1 with z|z
 ·exact absurd z (by simp)
 ·rw [Bool.or_eq_true] at z
  exact z.imp (fun e=>eq_of_beq e) fun e=>eq_of_beq e
theorem cv.loc (ok:cv X.N X.env.scope N' sc ix=true):∀x∈sc.names,x.2=NameKind.local->sc.names.lookup x.1=some .local:=fun x hx e=>by
 unfold cv at ok
 rw [Bool.and_eq_true,Bool.and_eq_true] at ok
 have q:=List.all_eq_true.mp ok.1.2 _ hx
 rw [Bool.and_eq_true] at q
 have q1:=q.2
 rw [Bool.or_eq_true] at q1
 rcases q1 with z|z
 ·rw [e] at z;exact absurd z (by decide)
 ·exact eq_of_beq z
theorem cv.apart (ok:cv X.N X.env.scope N' sc ix=true) {x:Str} (h1:(x,NameKind.cell)∈sc.names) (h2:(x,NameKind.free)∈sc.names):False:=by
 unfold cv at ok
 rw [Bool.and_eq_true] at ok
 have q:=List.all_eq_true.mp (List.all_eq_true.mp ok.2 _ h1) _ h2
 simp at q
theorem vi (I:Inv X pins σ H s) (ok:cv X.N X.env.scope N' sc ix=true):∀x∈sc.names,x.2=NameKind.free->∃c,X.env.cells.lookup x.1=some c:=fun x hx e=>by
 obtain ⟨n,k⟩:=x
 have e':k=NameKind.free:=e
 subst e'
 exact I.ok.has n (cv.fr ok hx)
theorem Ea (I:Inv X pins σ H s) (ok:cv X.N X.env.scope N' sc ix=true) {x:Str} {c:Addr} (h:(wm X.env.cells sc.names []).lookup x=some c):(x,NameKind.free)∈sc.names/\X.env.cells.lookup x=some c:=by
 rcases wk _ _ h with ⟨m,e⟩|z
 ·obtain ⟨d,hd⟩:=vi I ok _ m rfl
  have hd':X.env.cells.lookup x=some d:=hd
  rw [hd'] at e
  have e2:c=d:=e
  subst e2
  exact ⟨m,hd'⟩
 ·simp at z
theorem comp_inv {fp:List Addr} {L:Addr} {h1:Heap} (I:Inv X pins σ H s) (hf:∀b∈fp,Cm X pins H b) (hb:∀b∈fp,∃o,s.heap.get? b=some o) (ok:cv X.N X.env.scope N' sc ix=true) (hk:sc.kind=.function) (hL:s.heap.objs.size<=L)
  (kp:∀b o,s.heap.get? b=some o->h1.get? b=some o) (ns:h1.Ns L fun _=>none)
  (hc:∀x c,(cellsFrom (L+1) sc.names (wm X.env.cells sc.names [])).lookup x=some c->(wm X.env.cells sc.names []).lookup x=some c\/(L<c/\h1.IsCell c none)) :
  Inv (bG X N' sc L (cellsFrom (L+1) sc.names (wm X.env.cells sc.names [])) s H fp) [] (inS ix σ) H {s with heap:=h1}:=by
 have cc:∀x c,(wm X.env.cells sc.names []).lookup x=some c->(x,NameKind.free)∈sc.names/\X.env.cells.lookup x=some c/\(∃v,s.heap.IsCell c v)/\c<s.heap.objs.size:=fun x c e=>by
  obtain ⟨m,e'⟩:=Ea I ok e
  obtain ⟨v,z⟩:=I.cell x c e'
  exact ⟨m,e',⟨v,z⟩,z.lt⟩
 have fpl:∀b∈fp,b<s.heap.objs.size:=fun b z=>let ⟨o,e⟩:=hb b z;Heap.lt_size e
 have cne:∀b∈fp,∀x c,(cellsFrom (L+1) sc.names (wm X.env.cells sc.names [])).lookup x=some c->c≠b:=fun b z x c e=>by
  have hlt:=fpl b z
  rcases hc x c e with q|⟨q,_⟩
  ·exact (hf b z).2.2.2.2.1 x c (cc x c q).2.1
  ·exact gt_ne (Nat.lt_of_lt_of_le hlt hL) q
 have okk:(bG X N' sc L (cellsFrom (L+1) sc.names (wm X.env.cells sc.names [])) s H fp).Ok:=by
  refine ⟨I.ok.mod,hk,I.ok.glob,I.ok.blt,hL,?_,?_,?_,I.ok.hd,I.ok.frames,.inl rfl,?_,I.bs,Nat.le_trans I.ok.bsz I.sz,?_,?_,I.stack,I.CG⟩
  ·refine vk sc.names (L+1) _ (fun x y c e1 e2=>I.ok.inj x y c (cc x c e1).2.1 (cc y c e2).2.1) fun x c e=>?_
   exact Nat.lt_succ_of_lt (Nat.lt_of_lt_of_le (cc x c e).2.2.2 hL)
  ·intro x hx
   have hx':=vU (env:=X.env) (x:=x) (ns:=sc.names) hx
   have q:((cellsFrom (L+1) sc.names (wm X.env.cells sc.names [])).lookup x).isSome=true:=by
    rcases hx' with z|z
    ·exact PySem.W.cellsFrom_some _ _ _ (.inl z)
    ·exact PySem.W.cellsFrom_some _ _ _ (.inr (vj _ _ (.inl (PySem.mem_of_lookup z))))
   exact Option.isSome_iff_exists.mp q
  ·intro x c hfn e
   show s.heap.objs.size<=c
   rcases hc x c e with q|⟨q,_⟩
   ·have m:=(cc x c q).1
    have hfn':(!(sc.names.any fun p=>p.1==x&&p.2==NameKind.free))=true:=hfn
    have z:(sc.names.any fun p=>p.1==x&&p.2==NameKind.free)=true:=List.any_eq_true.mpr ⟨_,m,by simp⟩
    rw [z] at hfn'
    cases hfn'
   ·exact Nat.le_trans hL (Nat.le_of_lt q)
  ·intro b z
   have hlt:=fpl b z
   exact ⟨Nat.ne_of_lt (Nat.lt_of_lt_of_le hlt hL),cne b z⟩
  ·intro b o e z
   rcases (hf b z).2.2.2.1 with q|q
   ·exact I.ok.noex b o e q
   ·exact absurd (Nat.lt_of_lt_of_le (Heap.lt_size e) (Nat.le_trans I.ok.bsz q)) (Nat.lt_irrefl _)
  ·intro b z hs
   rcases List.mem_cons.mp (I.vP b hs) with q|q
   ·exact (hf b z).2.1 q
   ·exact (hf b z).2.2.1 q
 refine ⟨okk,rfl,I.bare,Un.kept kp,⟨_,ns,fun i x v h1' h2 h3=>?_⟩,fun x c e=>?_,I.hok.fresh hL,fun x c e=>?_,fun p hp=>absurd hp (by simp [bG]),I.hok.kept kp,?_⟩
 ·have hix:∃j,ix[i]? =some (some j)/\σ[j]? =some (some v):=by
   unfold inS at h2
   rw [List.getElem?_map] at h2
   cases e:ix[i]? with
   |none=>rw [e] at h2;cases h2
   |some o=>
    rw [e] at h2
    cases o with
    |none=>cases h2
    |some j=>
     have h2':(σ[j]?).join=some v:=Option.some.inj h2
     refine ⟨j,rfl,?_⟩
     cases e2:σ[j]? with
     |none=>rw [e2] at h2';cases h2'
     |some w=>
      rw [e2] at h2'
      have h2'':w=some v:=h2'
      rw [h2'']
  obtain ⟨j,e1,e2⟩:=hix
  obtain ⟨e3,e4⟩:=cv.at ok e1 h1'
  have hfr:=cv.fr ok (PySem.mem_of_lookup e4)
  obtain ⟨m,hn,hl⟩:=I.loc
  obtain ⟨u,r,l⟩:=hl j x v e3 e2 (hfr.elim (fun z=>.inr (.inl z)) fun z=>.inr (.inr z))
  refine ⟨u,r,.inr ⟨vT (env:=X.env) (x:=x) (ns:=sc.names) e4,?_⟩⟩
  rcases l with ⟨k,_⟩|⟨k,c,e,z⟩
  ·rcases hfr with q|q<;>rw [q] at k<;>cases k
  ·have q1:=vj (cells:=X.env.cells) sc.names [] (.inl (PySem.mem_of_lookup e4))
   obtain ⟨c2,q2⟩:=Option.isSome_iff_exists.mp q1
   have q3:=(cc x c2 q2).2.1
   rw [e] at q3
   cases q3
   have q4:=PySem.W.cellsFrom_some (x:=x) sc.names (L+1) (wm X.env.cells sc.names []) (.inr q1)
   obtain ⟨c3,q5⟩:=Option.isSome_iff_exists.mp q4
   rcases hc x c3 q5 with q6|⟨q6,q7⟩
   ·rw [q2] at q6
    cases q6
    exact ⟨c,q5,z.keeps kp⟩
   ·exfalso
    rcases qZ _ _ _ q5 with ⟨_,m'⟩|q8
    ·exact cv.apart ok m' (PySem.mem_of_lookup e4)
    ·rw [q2] at q8
     cases q8
     exact absurd (Nat.lt_trans (Nat.lt_of_lt_of_le (cc x c q2).2.2.2 hL) q6) (Nat.lt_irrefl _)
 ·rcases hc x c e with q|⟨_,q⟩
  ·obtain ⟨v,z⟩:=(cc x c q).2.2.1
   exact ⟨v,z.keeps kp⟩
  ·exact ⟨_,q⟩
 ·rcases hc x c e with q|⟨q,_⟩
  ·exact I.freeC x c (cc x c q).2.1
  ·exact I.hok.fresh (Nat.le_trans hL (Nat.le_of_lt q))
 ·show (inS ix σ).length=N'.length
  unfold inS
  rw [List.length_map]
  exact cv.len ok
end
noncomputable def PTs (X:Cx) (ifs:List Expr) (t:TT):Prop:=
 ∀(pins:List (Addr×Obj)) (s:Shared) (σ:St) (H:Hp) (Q:Bool->Hp->Prop),Inv X pins σ H s->t σ H Q ->
  wpAny (model X.prog X.w) X.A (forIn ifs true fun c r=>if r=true then do let ok <- isTrue c X.env (eval c X.env);pure (ForInStep.yield ok) else pure (ForInStep.yield r)) (TP X pins σ Q) X.xe s
noncomputable def tYes:TT:=fun _ H Q=>Q true H
theorem pts_nil {X:Cx}:PTs X [] tYes:=fun _ _ _ H _ I h=>wpAny_tests_nil ⟨H,I,h⟩
theorem pts_one {X:Cx} {c:Expr} {t:TT} (h:PT X c t):PTs X [c] t:=fun pins s σ H Q I q=>wpAny_tests_one (h pins s σ H Q I q)
theorem zd {prog:Program} {w:World} {A:Around} {R:Result->Shared->Prop} {s:Shared} {elt tg iter:Expr} {ifs:List Expr} {scope:Scope} {pos:Pos} {it acc:Value} {env:Env} (J:Nat->Shared->Prop)
  (turn:∀n s,J n s->wpAny (model prog w) A (pyNext it) (fun r s1=>match r with
   |none=>R (.ok .next) s1
   |some v=>wpAny (model prog w) A (letOwnedTupleGo tg it v) (fun _ s1'=>wpAny (model prog w) A (assign tg env v) (fun _ s2=>
     wpAny (model prog w) A (forIn ifs true fun c r=>if r=true then do let ok <- isTrue c env (eval c env);pure (ForInStep.yield ok) else pure (ForInStep.yield r)) (fun ok s3=>
      if ok=true then wpAny (model prog w) A (eval elt env) (fun x s4=>wpAny (model prog w) A (call (.builtin "list.append") [acc,x]) (fun _ s5=>∃m,m<n/\J m s5) (fun _ _=>False) s4) (fun _ _=>False) s3
      else ∃m,m<n/\J m s3) (fun _ _=>False) s2) (fun _ _=>False) s1') (fun _ _=>False) s1) (fun _ _=>False) s)
  (n:Nat) (h:J n s):codeAny (model prog w) A (.compLoop (.ListComp elt [⟨tg,iter,ifs,0⟩] scope pos) 0 it acc env) R s:=by
 refine codeAny_loop rfl J (fun n s hJ=>?_) n h
 show wpAny _ A ((compTurn (.ListComp elt [⟨tg,iter,ifs,0⟩] scope pos) 0 it acc env).onRaise (fun x=>do noteFrame x env;theTreesLotGoes x)) _ _ s
 refine wpAny_noted ?_
 rw [compTurn_list]
 refine wpAny_bind (wpAny_standAt (wpAny_bind (wpAny_mono (turn n s hJ) (fun r s1 h1=>?_) fun _ _ z=>z.elim)))
 cases r with
 |none=>exact wpAny_pure h1
 |some v=>
  refine wpAny_bind (wpAny_mono h1 (fun _ s1' h1'=>?_) fun _ _ z=>z.elim)
  refine wpAny_bind (wpAny_mono h1' (fun _ s2 h2=>wpAny_bind (wpAny_mono h2 (fun ok s3 h3=>?_) fun _ _ z=>z.elim)) fun _ _ z=>z.elim)
  cases ok with
  |false=>exact wpAny_pure ⟨rfl,h3⟩
  |true=>
   exact wpAny_bind (wpAny_bind (wpAny_mono h3 (fun x s4 h4=>wpAny_bind (wpAny_mono h4 (fun _ s5 h5=>wpAny_pure (wpAny_pure ⟨rfl,h5⟩)) fun _ _ z=>z.elim)) fun _ _ z=>z.elim))
noncomputable def rW (J:It) (ix:List (Option Nat)) (g:TG) (tt:TT) (te:TE) (σ:St) (F:List V->Hp->Prop) (H:Hp):Prop:=
 ∃W:Nat->Nat->List V->Hp->Prop,(∃m,W 0 m [] H)/\∀i m ys H,W i m ys H ->
  (J.stop i H/\ys.length<=sizeLine/\F ys H)\/(J.go i H/\ys.length<=sizeLine/\∃N:List V->Hp->Prop,(∀ys' H',N ys' H'->∃m',m'<m/\W (i+1) m' ys' H') /\
   ∀x H',J.yld i H x H'->g x (inS ix σ) H' fun σ2 H2=>tt σ2 H2 fun b H3=>if b=true then te σ2 H3 fun y H4=>N (ys++[y]) H4 else N ys H3)
section
variable {X:Cx} {pins:List (Addr×Obj)} {σ:St} {H:Hp} {s:Shared} {N':List Str} {sc:Scope} {ix:List (Option Nat)}
theorem Inv.slots0 {X:Cx} {σ':St} (I:Inv X pins σ' H s) (h:∀(i:Nat) v,(inS ix σ)[i]? =some (some v)->σ'[i]? =some (some v)) (hl:(inS ix σ).length=X.N.length):Inv X pins (inS ix σ) H s:=
 I.weak (by rw [hl,I.len]) h
theorem zc {tg elt iter:Expr} {ifs:List Expr} {pos:Pos} {g:TG} {tt:TT} {te:TE} {J:It} {fp:List Addr} {it:Addr} {tn:Nat->Heap->Prop} {F:List V->Hp->Prop} {E:Value->Shared->Prop}
  (hc:X.calm=true) (I:Inv X pins σ H s) (T:Turn X.prog X.w X.K tg J fp it tn) (st:tn 0 s.heap) (hf:∀b∈fp,Cm X pins H b) (ok:cv X.N X.env.scope N' sc ix=true) (hk:sc.kind=.function)
  (hg:∀L cs s H fp,PG (bG X N' sc L cs s H fp) tg g) (hkeep:∀x σ' H' (Q:St->Hp->Prop),g x σ' H' Q->g x σ' H' fun σ2 H2=>Q σ2 H2/\∀(i:Nat) v,σ'[i]? =some (some v)->(∃j,ix[i]? =some (some j))->σ2[i]? =some (some v))
  (ht:∀L cs s H fp,PTs (bG X N' sc L cs s H fp) ifs tt) (he:∀L cs s H fp,PE (bG X N' sc L cs s H fp) elt te)
  (tr:rW J ix g tt te σ F H) :
  wpAny (model X.prog X.w) X.A (newList []) (fun acc s3=>wpAny (model X.prog X.w) X.A (newFunctionEnv sc X.env.globals (wm X.env.cells sc.names []) [] X.env.qual none .none (some X.env)) (fun cenv s4=>
   codeAny (model X.prog X.w) X.A (.compStart (.ListComp elt [⟨tg,iter,ifs,0⟩] sc pos) 0 (.ref it) acc {cenv with scope:=relabel sc X.env}) (fun r s'=>(∃fl,r=.ok fl) /\
    ∃(p:Addr) (ys:List V) (H2:Hp),acc=.ref p/\Inv X pins σ (upd H2 p (.lst ys)) s'/\H2 p=none/\F ys H2/\(∃m,s'.heap.Ns cenv.locals m)/\(upd H2 p (.lst ys)) cenv.locals=none/\cenv.locals≠X.env.locals /\
     X.s₀.heap.objs.size<=cenv.locals/\(∀x c,X.env.cells.lookup x=some c->c≠cenv.locals)/\∀q∈X.pn++pins,q.1≠cenv.locals) s4) E s3) E s:=by
 obtain ⟨W,⟨m0,w0⟩,turn⟩:=tr
 refine wpAny_newObj_type (Dj fun h1 kp ns hcl=>?_)
 dsimp only at kp ns hcl ⊢
 generalize hH2:s.heap.push {cls:=.type "list",dict:=none,data:=.seq ([]:List Value).toArray}=HH at kp ns hcl ⊢
 have eL:HH.objs.size=s.heap.objs.size+1:=by rw [<- hH2,Heap.size_push]
 have kp0:∀b o,s.heap.get? b=some o->h1.get? b=some o:=fun b o e=>kp b o (hH2▸Heap.get?_push_of_some _ e)
 have hD0:h1.PlainList s.heap.objs.size #[]:=⟨_,kp _ _ (hH2▸Heap.get?_push_size _ rfl)⟩
 have fpo:∀b∈fp,∃o,s.heap.get? b=some o:=fun b z=>let ⟨o,e,_⟩:=T.obj 0 _ st b z;⟨o,e⟩
 have fpl:∀b∈fp,b<s.heap.objs.size:=fun b z=>let ⟨o,e⟩:=fpo b z;Heap.lt_size e
 have sL:s.heap.objs.size<=HH.objs.size:=by rw [eL];exact Nat.le_succ _
 have sL':s.heap.objs.size<HH.objs.size:=by rw [eL];exact Nat.lt_succ_self _
 have I0:=comp_inv (h1:=h1) I hf fpo ok hk sL kp0 ns hcl
 generalize hXX:bG X N' sc HH.objs.size (cellsFrom (HH.objs.size+1) sc.names (wm X.env.cells sc.names [])) s H fp=Y at I0
 have eY1:Y.prog=X.prog:=by subst hXX;rfl
 have eY2:Y.w=X.w:=by subst hXX;rfl
 have eY3:Y.K=X.K:=by subst hXX;rfl
 have eY4:Y.calm=true:=by subst hXX;exact hc
 have eY5:Y.A=X.A:=by subst hXX;rfl
 have eY6:Y.env={scope:=relabel sc X.env,locals:=HH.objs.size,globals:=X.env.globals,cells:=cellsFrom (HH.objs.size+1) sc.names (wm X.env.cells sc.names []),qual:=X.env.qual,func:=none,code:=X.env.code,frame:=X.env.frame,builtins:=X.env.builtins}:=by subst hXX;rfl
 have eY7:Y.xe=fun _ _=>False:=by subst hXX;rfl
 have eY8:Y.pn=[]:=by subst hXX;rfl
 have eY9:Y.fs=frs X.stack:=by subst hXX;rfl
 have eY10:Y.s₀=s:=by subst hXX;rfl
 have eY11:Y.H₀=H:=by subst hXX;rfl
 have eY12:Y.ex=fp:=by subst hXX;rfl
 have eY13:Y.N=N':=by subst hXX;rfl
 have hgY:PG Y tg g:=by subst hXX;exact hg _ _ _ _ _
 have htY:PTs Y ifs tt:=by subst hXX;exact ht _ _ _ _ _
 have heY:PE Y elt te:=by subst hXX;exact he _ _ _ _ _
 have lenI:(inS ix σ).length=Y.N.length:=by rw [eY13];unfold inS;rw [List.length_map];exact cv.len ok
 have cellN:∀(b:Addr),b<=HH.objs.size->(∀x c,X.env.cells.lookup x=some c->c≠b)->∀x c,Y.env.cells.lookup x=some c->c≠b:=fun b hb hx x c e=>by
  rw [eY6] at e
  rcases hcl x c e with q|⟨q,_⟩
  ·exact hx x c (Ea I ok q).2
  ·exact (BM (Nat.lt_of_le_of_lt hb (Nat.lt_succ_self _)) q).symm
 have oldc:∀x c,X.env.cells.lookup x=some c->c<s.heap.objs.size:=fun x c e=>let ⟨v,z⟩:=I.cell x c e;z.lt
 have nfs:∀b,s.heap.objs.size<=b->b∉frs X.stack:=fun b hb z=>by
  rcases List.mem_cons.mp (I.vP b z) with q|q
  ·exact BM I.lt hb q.symm
  ·exact I.nofs hb q
 have fpY:∀(pp:List (Addr×Obj)) (H':Hp),(∀b∈fp,H' b=none)->(∀q∈pp,q.1∉fp)->∀b∈fp,Cm Y pp H' b:=fun pp H' hn hq b z=>by
  have hlt:=fpl b z
  refine ⟨hn b z,?_,?_,.inl (by rw [eY12];exact z),cellN b (Nat.le_of_lt (Nat.lt_trans hlt sL')) ((hf b z).2.2.2.2.1),fun q hq' e=>?_⟩
  ·rw [eY6];exact BM hlt sL
  ·rw [eY9];intro hs
   rcases List.mem_cons.mp (I.vP b hs) with q|q
   ·exact (hf b z).2.1 q
   ·exact (hf b z).2.2.1 q
  ·rw [eY8] at hq'
   exact hq q (by simpa using hq') (by rw [e];exact z)
 have Dfp:s.heap.objs.size∉fp:=fun z=>absurd (fpl _ z) (Nat.lt_irrefl _)
 have Dok:∀(pp:List (Addr×Obj)) (H':Hp),H' s.heap.objs.size=none->(∀q∈pp,q.1≠s.heap.objs.size)->Cm Y pp H' s.heap.objs.size:=fun pp H' hn hq=>by
  refine ⟨hn,?_,by rw [eY9];exact nfs _ (Nat.le_refl _),.inr (by rw [eY10];exact Nat.le_refl _),cellN _ sL (fun x c e=>Nat.ne_of_lt (oldc x c e)),fun q hq'=>?_⟩
  ·rw [eY6];exact Nat.ne_of_lt sL'
  ·rw [eY8] at hq'
   exact hq q (by simpa using hq')
 have loop:codeAny (model X.prog X.w) X.A (.compLoop (.ListComp elt [⟨tg,iter,ifs,0⟩] sc pos) 0 (.ref it) (.ref s.heap.objs.size) Y.env) (fun r s'=>(∃fl,r=.ok fl) /\
    ∃(p:Addr) (ys:List V) (H2:Hp),Value.ref s.heap.objs.size=.ref p/\Inv X pins σ (upd H2 p (.lst ys)) s'/\H2 p=none/\F ys H2/\(∃m,s'.heap.Ns HH.objs.size m)/\(upd H2 p (.lst ys)) HH.objs.size=none/\HH.objs.size≠X.env.locals /\
     X.s₀.heap.objs.size<=HH.objs.size/\(∀x c,X.env.cells.lookup x=some c->c≠HH.objs.size)/\∀q∈X.pn++pins,q.1≠HH.objs.size) {s with heap:=h1}:=by
  refine zd (fun n s'=>∃i ys its H',Inv Y [] (inS ix σ) H' s'/\tn i s'.heap/\(∀b∈fp,H' b=none)/\H' s.heap.objs.size=none/\s'.heap.PlainList s.heap.objs.size its/\Vals ys its.toList/\W i n ys H') ?_ m0
   ⟨0,[],#[],H,I0,T.keep _ _ _ st fun b _ o e=>kp0 b o e,fun b z=>(hf b z).1,I.hok.fresh (Nat.le_refl _),hD0,.nil,w0⟩
  rintro n s3 ⟨i,ys,its,H3,I3,st3,fr3,hD3,pl3,vs3,w3⟩
  obtain ⟨nD,oD⟩:=pl3
  have hpD:∀q∈[((s.heap.objs.size:Addr),({cls:=.type "list",data:=.seq its nD}:Obj))],q.1∉fp:=fun q hq=>by
   have:q=_:=List.mem_singleton.mp hq
   rw [this];exact Dfp
  have I3':Inv Y [((s.heap.objs.size:Addr),({cls:=.type "list",data:=.seq its nD}:Obj))] (inS ix σ) H3 s3:=I3.wR fun q hq=>by
   have e:q=_:=List.mem_singleton.mp hq
   obtain ⟨d0,d1,d2,_⟩:=Dok [] H3 hD3 (fun _ z=>nomatch z)
   rw [e]
   exact ⟨oD,d0,d1,d2,fun v z=>by cases z⟩
  rcases turn i n ys H3 w3 with ⟨stop,ln,qn⟩|⟨go,ln,NN,hNN,step⟩
  ·have h1:=T.done Y eY1 eY2 eY3 eY4 i _ s3 _ H3 (fun _ _=>False) I3' (fpY _ H3 fr3 hpD) st3 stop
   rw [eY5] at h1
   refine wpAny_mono h1 (fun r s4 ⟨hr,I4⟩=>?_) fun _ _ z=>z
   subst hr
   obtain ⟨oD4,hD4,_⟩:=I4.pin ((s.heap.objs.size:Addr),({cls:=.type "list",data:=.seq its nD}:Obj)) (by rw [eY8];simp)
   refine ⟨⟨_,rfl⟩,s.heap.objs.size,ys,H3,rfl,?_,hD3,qn,?_,?_,?_,?_,?_,?_⟩
   ·have ub:Un (frs X.stack) fp H H3 s.heap s4.heap:=by
     have:=I4.base
     rw [eY9,eY10,eY11,eY12] at this
     exact this
    have hok4:HOk X.prog X.w H3 s4.heap:=by
     have:=I4.hok
     rw [eY1,eY2] at this
     exact this
    refine I.call' (ch:=fp) (by have:=I4.os;rw [eY10] at this;exact this) ⟨ub.keep,ub.slot,fun b o e nn hx=>?_,ub.there,fun b xs q=>?_,fun b o u q=>?_,fun b ps q=>?_⟩ (fun b u e=>?_) I4.bare (fun b hb=>?_)
    ·rw [aL (Nat.ne_of_lt (Heap.lt_size e))];exact ub.free b o e nn hx
    ·rw [aL (ba (ub.tups b xs q) hD3)];exact ub.tups b xs q
    ·rw [aL (ba (ub.frzs b o u q) hD3)];exact ub.frzs b o u q
    ·obtain ⟨more,z⟩:=ub.tbls b ps q
     exact ⟨more,by rw [aL (ba z hD3)];exact z⟩
    ·by_cases hb:b=s.heap.objs.size
     ·subst hb
      rw [aP] at e
      cases e
      exact ⟨ln,its.toList,nD,vs3,by simpa using oD4⟩
     ·rw [aL hb] at e
      exact (hok4 b u e).stay (fun _ _ _ q=>q) (fun c q=>by rw [aL (ba q hD3)];exact q) fun c xs q=>by rw [aL (ba q hD3)];exact q
    ·obtain ⟨f0,f1,f2,f3,f4,f5⟩:=hf b hb
     exact ⟨f3,f1,f4,f5⟩
   ·obtain ⟨m,hn,_⟩:=I4.loc
    rw [eY6] at hn
    exact ⟨m,hn⟩
   ·rw [aL (Nat.ne_of_gt sL')]
    have:=I4.free
    rw [eY6] at this
    exact this
   ·exact Nat.ne_of_gt (Nat.lt_trans I.lt sL')
   ·exact Nat.le_trans I.sz sL
   ·exact fun x c e=>BM (oldc x c e) sL
   ·exact fun q hq=>BM (Heap.lt_size (I.pin q hq).1) sL
  ·have h1:=T.item Y eY1 eY2 eY3 eY4 i _ s3 _ H3 (fun _ _=>False) I3' (fpY _ H3 fr3 hpD) st3 go
   rw [eY5] at h1
   refine wpAny_mono h1 (fun r s4 ⟨u,hr,h4⟩=>?_) fun _ _ z=>z
   subst hr
   refine wpAny_mono h4 (fun _ s5 ⟨x,H5,I5,r5,y5,st5,fr5⟩=>?_) fun _ _ z=>z
   have I5':=I5.pinned (fpY _ H5 fr5 hpD) (T.obj _ _ st5)
   have h5:=hgY _ s5 _ H5 x u _ I5' r5 (hkeep x _ H5 _ (step x H5 y5))
   rw [eY1,eY2,eY5,eY7] at h5
   refine wpAny_mono h5 (fun _ s6 ⟨σ6,H6,I6,q6,k6⟩=>?_) fun _ _ z=>z
   have h6:=htY _ s6 σ6 H6 _ I6 q6
   rw [eY1,eY2,eY5,eY7] at h6
   refine wpAny_mono h6 (fun b s7 ⟨H7,I7,q7⟩=>?_) fun _ _ z=>z
   have back:∀{s8:Shared} {H8:Hp},Inv Y ([((s.heap.objs.size:Addr),({cls:=.type "list",data:=.seq its nD}:Obj))]++yt fp s5.heap) σ6 H8 s8->Inv Y [] (inS ix σ) H8 s8/\tn (i+1) s8.heap/\(∀b∈fp,H8 b=none)/\H8 s.heap.objs.size=none/\s8.heap.get? s.heap.objs.size=some {cls:=.type "list",data:=.seq its nD}:=fun {s8 H8} I8=>by
    obtain ⟨a1,a2,_⟩:=I8.pin ((s.heap.objs.size:Addr),({cls:=.type "list",data:=.seq its nD}:Obj)) (by rw [eY8];simp)
    refine ⟨(I8.wR (pins':=[]) fun _ z=>nomatch z).slots0 (fun k v e=>?_) lenI,T.keep _ _ _ st5 fun b hb o e=>(I8.pin (b,o) (List.mem_append_right _ (List.mem_append_right _ (qh hb e)))).1,fun b hb=>?_,a2,a1⟩
    ·refine k6 k v e ?_
     unfold inS at e
     rw [List.getElem?_map] at e
     cases e2:ix[k]? with
     |none=>rw [e2] at e;cases e
     |some o=>
      cases o with
      |none=>rw [e2] at e;cases e
      |some j=>exact ⟨j,rfl⟩
    ·obtain ⟨o,e,d⟩:=T.obj _ _ st5 b hb
     exact (I8.pin (b,o) (List.mem_append_right _ (List.mem_append_right _ (qh hb e)))).2.1
   cases b with
   |false=>
    rw [if_neg Bool.false_ne_true] at q7 ⊢
    obtain ⟨m',hm,w7⟩:=hNN _ _ q7
    obtain ⟨b1,b2,b3,b4,b5⟩:=back I7
    exact ⟨m',hm,i+1,ys,its,H7,b1,b2,b3,b4,⟨nD,b5⟩,vs3,w7⟩
   |true=>
    rw [if_pos rfl] at q7 ⊢
    have h7:=heY _ s7 σ6 H7 _ I7 q7
    rw [eY1,eY2,eY5,eY7,eY6] at h7
    rw [eY6]
    refine wpAny_mono h7 (fun uu s8 ⟨y,H8,I8,r8,q8⟩=>?_) fun _ _ z=>z
    obtain ⟨m',hm,w8⟩:=hNN _ _ q8
    obtain ⟨b1,b2,b3,b4,b5⟩:=back I8
    have ez:its.size<=sizeLine:=by
     have h1:=vs3.length
     have h2:its.toList.length=its.size:=by simp
     omega
    refine wpAny_list_append_plain (hsz:=ez) ⟨nD,b5⟩ fun h9 pl9 sb9=>?_
    obtain ⟨d0,d1,d2,d3,d4,d5⟩:=Dok [] H8 b4 (fun _ z=>nomatch z)
    refine ⟨m',hm,i+1,ys++[y],its.push uu,H8,b1.turned (t':=s8.toks) (fun b o hb e=>(sb9.2 b hb).trans e) d0 d1 d3 d4 d5,T.keep _ _ _ b2 fun b hb o e=>(sb9.2 b ?_).trans e,b3,b4,pl9,?_,w8⟩
    ·exact BM (fpl b hb) (Nat.le_refl _)
    ·rw [Array.toList_push]
     exact vs3.append (.cons r8 .nil)
 rw [eY6] at loop
 exact codeAny_compStart_list loop (T.self X.A 0 _ _ _ (T.keep _ _ _ st fun b _ o e=>kp0 b o e) loop)
end
noncomputable def tComp (wi:TI) (ix:List (Option Nat)) (g:TG) (tt:TT) (te:TE):TE:=fun σ H Q=>wi σ H fun J H1=>rW J ix g tt te σ (fun ys H2=>∀p,H2 p=none->Q (.ref p) (upd H2 p (.lst ys))) H1
noncomputable def wy (ix:List (Option Nat)) (g:TG):Prop:=∀x σ' H' (Q:St->Hp->Prop),g x σ' H' Q->g x σ' H' fun σ2 H2=>Q σ2 H2/\∀(i:Nat) v,σ'[i]? =some (some v)->(∃j,ix[i]? =some (some j))->σ2[i]? =some (some v)
theorem dk {ix:List (Option Nat)} {k:Nat} (h:ix[k]? =some none):wy ix (vH k):=fun x σ' H' Q q=>⟨q,fun i v e ⟨j,hj⟩=>by
 have:k≠i:=by rintro rfl;rw [h] at hj;cases hj
 rw [List.getElem?_set_ne this];exact e⟩
section
variable {X:Cx} {N':List Str} {sc:Scope} {ix:List (Option Nat)} {tg elt iter:Expr} {ifs:List Expr} {pos spos py:Pos} {wi:TI} {g:TG} {tt:TT} {te:TE}
theorem D5 (N':List Str) (ix:List (Option Nat)) (hc:X.calm=true) (hi:PI X tg iter wi) (hg:∀L cs s H fp,PG (bG X N' sc L cs s H fp) tg g) (hl:wy ix g)
  (ht:∀L cs s H fp,PTs (bG X N' sc L cs s H fp) ifs tt) (he:∀L cs s H fp,PE (bG X N' sc L cs s H fp) elt te)
  (ok:cv X.N X.env.scope N' sc ix=true:=by rfl) (hk:sc.kind=.function:=by rfl) (hs:∀x,foldedSetIterable iter X.env x=pure x:=by intro _;rfl) :
  PE X (.ListComp elt [⟨tg,iter,ifs,0⟩] sc pos) (tComp wi ix g tt te):=by
 intro pins s σ H Q I h
 rw [eval_ListComp]
 refine wpAny_comprehension_free (use:=none) rfl hs (wj (vi I ok)) hk (cv.loc ok) (thn (hi pins s σ H _ I h) fun v s1 h1=>thn h1 fun itv s2 h2=>?_)
 obtain ⟨it,fp,tn,J,H2,e,I2,T,st2,f2,tr⟩:=h2
 subst e
 refine thn (zc hc I2 T st2 f2 ok hk hg hl ht he tr) fun acc s3 h3=>thn h3 fun cenv s4 h4=>codeAny_mono h4 fun r s5 hr=>?_
 obtain ⟨⟨fl,e1⟩,p,ys,H5,e2,I5,hp,q,⟨m,hn⟩,c0,c1,c2,c3,c4⟩:=hr
 subst e1
 subst e2
 exact ⟨m,hn,fun h' sb=>⟨.ref p,_,I5.turned (t':=s5.toks) (fun b o hb e=>(sb.2 b hb).trans e) c0 c1 (.inr c2) c3 c4,rfl,q p hp⟩⟩
noncomputable def tSetComp (j:Nat) (wi:TI) (ix:List (Option Nat)) (g:TG) (tt:TT) (te:TE):TS:=fun D σ H=>wi σ H fun J H1=>rW J ix g tt te σ (fun ys H2=>∀p,H2 p=none->D.nx (σ.set j (some (.ref p))) (upd H2 p (.lst ys))) H1
theorem BD (N':List Str) (ix:List (Option Nat)) {j:Nat} {y:Str} (hN:X.N.Nodup) (hj:X.N[j]? =some y) (hy:X.env.scope.names.lookup y=some .local) (hc:X.calm=true) (hi:PI X tg iter wi) (hg:∀L cs s H fp,PG (bG X N' sc L cs s H fp) tg g) (hl:wy ix g)
  (ht:∀L cs s H fp,PTs (bG X N' sc L cs s H fp) ifs tt) (he:∀L cs s H fp,PE (bG X N' sc L cs s H fp) elt te)
  (hsw:swapsWith (.ListComp elt [⟨tg,iter,ifs,0⟩] sc pos) (some (.Name y py)) spos.line X.env=pure true:=by rfl)
  (ok:cv X.N X.env.scope N' sc ix=true:=by rfl) (hk:sc.kind=.function:=by rfl) (hs:∀x,foldedSetIterable iter X.env x=pure x:=by intro _;rfl) :
  PS X (.Assign [.Name y py] (.ListComp elt [⟨tg,iter,ifs,0⟩] sc pos) spos) (tSetComp j wi ix g tt te):=by
 intro pins s σ H D I h
 rw [exec_Assign_Name_used _ _ _ _ hsw]
 refine wpAny_bind (wpAny_standAt (wpAny_bind ?_))
 show wpAny _ X.A (do let _ <- comprehension (.ListComp elt [⟨tg,iter,ifs,0⟩] sc pos) sc X.env _ (newList []) false (eval iter X.env) (some (assign (.Name y py) X.env))) _ _ s
 refine wpAny_bind (wpAny_mono (wpAny_comprehension_free (use:=some (assign (.Name y py) X.env)) (Q:=fun _ s'=>SP X pins D .next s') rfl hs (wj (vi I ok)) hk (cv.loc ok) (thn (hi pins s σ H _ I h) fun v s1 h1=>thn h1 fun itv s2 h2=>?_)) (fun _ s' hq=>wpAny_pure (wpAny_pure hq)) fun _ _ z=>z)
 obtain ⟨it,fp,tn,J,H2,e,I2,T,st2,f2,tr⟩:=h2
 subst e
 refine thn (zc hc I2 T st2 f2 ok hk hg hl ht he tr) fun acc s3 h3=>thn h3 fun cenv s4 h4=>codeAny_mono h4 fun r s5 hr=>?_
 obtain ⟨⟨fl,e1⟩,p,ys,H5,e2,I5,hp,q,⟨m,hn⟩,c0,c1,c2,c3,c4⟩:=hr
 subst e1
 subst e2
 show wpAny _ X.A (assign (.Name y py) X.env (.ref p)) _ _ s5
 refine wpAny_assign_Name (yf (v:=.ref p) I5 hN hj (.inl hy) rfl (fun s6 I6 ⟨a,sb,ha⟩=>?_) (.inr hy))
 have ea:cenv.locals≠a:=by
  rcases ha with z|z
  ·rw [z];exact c1
  ·exact fun e=>c3 y a z e.symm
 refine ⟨m,hn.sameBut sb ea,fun h' sb'=>?_⟩
 exact ⟨_,_,I6.turned (t':=s6.toks) (fun b o hb e=>(sb'.2 b hb).trans e) c0 c1 (.inr c2) c3 c4,q p hp⟩
end
end L2
namespace L2
open PySem PySem.Spec PyProof.Rows
section
variable {X:Cx}
theorem xI:∀{bs:List Bool} {us:List Value},Vals (bs.map V.bl) us->LSm.BoolsAre us bs
 |[],_,.nil=>.nil
 |b::r,_,.cons e t=>by cases e;exact .cons b (xI t)
theorem call_all (hc:X.calm=true):eA X (.builtin "all") (fun xs H Q=>∃(a:Addr) (bs:List Bool),xs=[.ref a]/\SqL X.K H a (bs.map V.bl)/\Q (.bl (bs.all id)) H):=by
 intro pins s σ H xs us Q I r h
 obtain ⟨a,bs,rfl,hq,q⟩:=h
 obtain ⟨u,rfl,ru⟩:=r.one
 cases ru
 obtain ⟨its,rv,p,hz⟩:=I.list hq
 have hb:=xI rv
 have hl:=p.isList
 have hlt:a<s.heap.objs.size:=by obtain ⟨_,e,_⟩:=hl;exact Heap.lt_size e
 refine call_all_walk (wpAny_pyIter_list hl ?_)
 refine ⟨s.heap.objs.size,[s.heap.objs.size,a],[s.heap.objs.size],its.toArray.size,_,_,fun i=>(bs[i]?).getD true,rfl,Walks.list (A:=X.A.in1) (I.ok.hd hc) _ a (Nat.ne_of_lt hlt) its.toArray,
  ⟨⟨_,Heap.get?_push_size _ rfl,rfl,rfl⟩,hl.push _⟩,fun i v s' Q' E' hP hQ=>?_,fun h' tk hk=>?_⟩
 ·obtain ⟨b,e,rfl⟩:=hb.get i v (by simpa using hP)
  simp only [e,Option.getD_some] at hQ
  exact wpAny_truthy_bool hQ
 ·have e:((List.range its.toArray.size).all fun i=>(bs[i]?).getD true)=bs.all id:=by
   rw [List.size_toArray,hb.length];exact LSm.range_all bs
  rw [e]
  exact ⟨.bl (bs.all id),H,I.kept (LSm.kept_iter hk),rfl,q⟩
theorem call_any (hc:X.calm=true):eA X (.builtin "any") (fun xs H Q=>∃(a:Addr) (bs:List Bool),xs=[.ref a]/\SqL X.K H a (bs.map V.bl)/\Q (.bl (bs.any id)) H):=by
 intro pins s σ H xs us Q I r h
 obtain ⟨a,bs,rfl,hq,q⟩:=h
 obtain ⟨u,rfl,ru⟩:=r.one
 cases ru
 obtain ⟨its,rv,p,hz⟩:=I.list hq
 have hb:=xI rv
 have hl:=p.isList
 have hlt:a<s.heap.objs.size:=by obtain ⟨_,e,_⟩:=hl;exact Heap.lt_size e
 refine call_any_walk (wpAny_pyIter_list hl ?_)
 refine ⟨s.heap.objs.size,[s.heap.objs.size,a],[s.heap.objs.size],its.toArray.size,_,_,fun i=>(bs[i]?).getD false,rfl,Walks.list (A:=X.A.in1) (I.ok.hd hc) _ a (Nat.ne_of_lt hlt) its.toArray,
  ⟨⟨_,Heap.get?_push_size _ rfl,rfl,rfl⟩,hl.push _⟩,fun i v s' Q' E' hP hQ=>?_,fun h' tk hk=>?_⟩
 ·obtain ⟨b,e,rfl⟩:=hb.get i v (by simpa using hP)
  simp only [e,Option.getD_some] at hQ
  exact wpAny_truthy_bool hQ
 ·have e:((List.range its.toArray.size).any fun i=>(bs[i]?).getD false)=bs.any id:=by
   rw [List.size_toArray,hb.length];exact LSm.range_any bs
  rw [e]
  exact ⟨.bl (bs.any id),H,I.kept (LSm.kept_iter hk),rfl,q⟩
noncomputable def clsV:V->Option Value
 |.ty n=>some (.type n)
 |.ref a=>some (.ref a)
 |_=>none
theorem clsV_is {y:V} {c u:Value} (h:clsV y=some c) (r:RelV y u):u=c:=by
 cases y with
 |ty n=>cases r;exact Option.some.inj h
 |ref a=>cases r;exact Option.some.inj h
 |_=>cases h
theorem call_isi:eA X (.builtin "isinstance") (fun xs H Q=>∃x y c t b,xs=[x,y]/\clsV y=some c/\Ay X.K H x t/\kitOne X.K t c=some b/\Q (.bl b) H):=by
 intro pins s σ H xs us Q I r h
 obtain ⟨x,y,c,t,b,rfl,hc,ty,e,q⟩:=h
 obtain ⟨u,v,rfl,ru,rv⟩:=r.two
 have ev:=clsV_is hc rv
 subst ev
 exact yM I ru ty e fun tk=>⟨.bl b,H,I.tok tk,rfl,q⟩
inductive EqV (K:PySem.W.Frag) (H:Hp):Nat->V->V->Bool->Prop where
 |flat {n:Nat} {x y:V} (hx:flatV x=true) (hy:flatV y=true):EqV K H n x y (eqV x y)
 |same {n:Nat} {a:Addr}:EqV K H n (.ref a) (.ref a) true
 |lists {n:Nat} {a b:Addr} {xs ys:List V} {e:Nat->Bool} (ha:SqL K H a xs) (hb:SqL K H b ys) (hl:xs.length=ys.length) (ne:a≠b)
   (he:∀j x y,xs[j]? =some x->ys[j]? =some y->EqV K H n x y (e j)):EqV K H (n+1) (.ref a) (.ref b) ((List.range xs.length).all e)
 |listsL {n:Nat} {a b:Addr} {xs ys:List V} (ha:SqL K H a xs) (hb:SqL K H b ys) (hl:xs.length≠ys.length) (ne:a≠b):EqV K H (n+1) (.ref a) (.ref b) false
 |tups {n:Nat} {a b:Addr} {xs ys:List V} {e:Nat->Bool} (ha:SqT K H a xs) (hb:SqT K H b ys) (ne:a≠b)
   (he:∀j x y,xs[j]? =some x->ys[j]? =some y->EqV K H n x y (e j)):EqV K H (n+1) (.ref a) (.ref b) ((List.range (min xs.length ys.length)).all e&&xs.length==ys.length)
theorem Vals.atA {xs:List V} {us:List Value} (r:Vals xs us) {j:Nat} (h:j<us.toArray.size):∃x,xs[j]? =some x/\RelV x us.toArray[j]:=by
 have hl:=r.length
 have hj:j<xs.length:=by rw [hl];simpa using h
 obtain ⟨u,e1,e2⟩:=r.get (i:=j) (x:=xs[j]) (by simp [hj])
 refine ⟨xs[j],by simp [hj],?_⟩
 have:us.toArray[j]=u:=by
  have h':j<us.length:=by simpa using h
  rw [List.getElem?_eq_getElem h'] at e1
  simpa using Option.some.inj e1
 rw [this];exact e2
end
end L2
namespace L2
open PySem PySem.Spec PyProof.Rows
section
variable {X:Cx} {x:Str} {pos:Pos}
theorem D0 {T:String} (hg:Gl X x) (hm:X.mg x=none) (hv:bootBuiltins x=some (.type T)) (hn:x≠"__name__":=by decide) (hd:(x==("__debug__":Str))=false:=by decide):PE X (.Name x pos) (tC (.ty T)):=pe_bltn (v:=.ty T) hg hm hv rfl hn hd
theorem pe_gint {n:Int} (hg:Gl X x) (hm:∃t,X.mg x=some (.int n t)) (hd:(x==("__debug__":Str))=false:=by decide):PE X (.Name x pos) (tC (.int n)):=by
 obtain ⟨t,e⟩:=hm
 exact D3 (v:=.int n) hg e ⟨t,rfl⟩ hd
end
section
variable {P:Program} {w:World} {K:PySem.W.Frag} {mg:Str->Option Value} {base:Heap} {CX:CXT}
theorem Fun.okX {x qual:Str} {st:Stmt} {f:Addr} {fd:FuncData} {N ps:List Str} {k:Nat} {sp:Sp} (F:Fun K x qual st f fd) (S:aH N ps (ar st)) (len:∀vs H Q E,sp vs H Q E->vs.length=ps.length)
  (hbody:∀(cdv:Value) (A:Around) (outer:List Env) (s:Shared) (H:Hp) (vs:List V) (Q:VK) (E:XK),oQ k (A.deeper (envOfC qual (ar st) s.heap.objs.size f cdv))->sp vs H Q E ->
   ∃t,PSs (cxOf CX P w K mg base N qual (ar st) f cdv A outer s H E).nox (cO st) t/\t {nx:=fun _ H'=>Q .non H',rt:=Q} (start N vs) H):cz P w K mg base CX (k+1) f fd ps sp:=by
 obtain ⟨oc,od,kV,doc,pm,an,cdv,ct,osl,rfl,lk,hcd⟩:=F.ex
 refine fn_of lk hcd S len fun A outer s H vs Q E hr hsp=>?_
 obtain ⟨t,h,q⟩:=hbody cdv A outer s H vs Q E hr hsp
 exact ⟨t,h.nox,q⟩
structure Def (K:PySem.W.Frag) (mg:Str->Option Value) (x:Str) (st:Stmt) (ps:List Str) (f:Addr) (fd:FuncData):Prop where
 fn:Fun K x x st f fd
 mg:mg x=some (.ref f)
 bd:Binds K fd ps []
theorem bo {h:Heap} (KX:K.In h) (G:h.Ns mainGlobals mg) {x:Str} {st:Stmt} {ps:List Str} {f:Addr} {oc:Value} {od an:Option Addr} {osl:Array (Option Value)} {kV doc pm cdv ct:Value}
  (a:nsIn K mainGlobals x=some (some (.ref f))) (l:K.lookup f=some ⟨oc,od,.func (fnOf x x (dO st) (cO st) (ar st) .none kV doc pm an cdv ct),osl⟩) (c:codeIn K cdv x=true) (k:keepIn K (.ref f)=true)
  (hb:∀(kV doc pm:Value) (an:Option Addr) (cdv ct:Value) (us:List Value),us.length=ps.length->bindArgs (fnOf x x (dO st) (cO st) (ar st) .none kV doc pm an cdv ct) ⟨us,[]⟩=pure (ps.zip us)) :
  Def K mg x st ps f (fnOf x x (dO st) (cO st) (ar st) .none kV doc pm an cdv ct):=
 ⟨B4 l c k,mg_of KX G a,(B4 l c k).binds hb⟩
structure Mth (K:PySem.W.Frag) (C:Addr) (x qual:Str) (st:Stmt) (ps:List Str) (f:Addr) (fd:FuncData):Prop where
 fn:Fun K x qual st f fd
 mt:Meth K C x f
 bd:Binds K fd ps []
theorem tO {C:Addr} {x qual:Str} {st:Stmt} {ps:List Str} {f:Addr} {oc:Value} {od an:Option Addr} {osl:Array (Option Value)} {kV doc pm cdv ct:Value}
  (a:PySem.W.findIn K (.ref C) x=some (some (.ref f))) (i:PySem.W.isFn K (.ref f)=true) (l:K.lookup f=some ⟨oc,od,.func (fnOf x qual (dO st) (cO st) (ar st) .none kV doc pm an cdv ct),osl⟩) (c:codeIn K cdv qual=true) (k:keepIn K (.ref f)=true)
  (hb:∀(kV doc pm:Value) (an:Option Addr) (cdv ct:Value) (us:List Value),us.length=ps.length->bindArgs (fnOf x qual (dO st) (cO st) (ar st) .none kV doc pm an cdv ct) ⟨us,[]⟩=pure (ps.zip us)) :
  Mth K C x qual st ps f (fnOf x qual (dO st) (cO st) (ar st) .none kV doc pm an cdv ct):=
 ⟨B4 l c k,⟨a,i,k⟩,(B4 l c k).binds hb⟩
structure Kls (K:PySem.W.Frag) (mg:Str->Option Value) (x:Str) (C:Addr):Prop where
 cl:Cls K C
 mg:mg x=some (.ref C)
 mks:PySem.W.makesIn K C=true
 kp:keepIn K (.ref C)=true
 c1:PySem.W.findIn K (.ref C) "__class__"=some (some (.builtin "object.__class__"))
 c2:specialIn K (.builtin "object.__class__") "__get__"=some (some (.builtin "getset_descriptor.__get__"))
 c3:takesIn K (.builtin "object.__class__")=some true
 c4:PySem.W.mroIn K C (.type "object")=some true
theorem Kls.ty {x:Str} {C a dx:Addr} {fs:List (Str×V)} {H:Hp} (k:Kls K mg x C) (e:H a=some (.ins C dx fs)):Ay K H (.ref a) (.ref C):=.ins e k.cl k.c1 k.c2 k.c3 k.c4
theorem kls_of {h:Heap} (KX:K.In h) (G:h.Ns mainGlobals mg) {x:Str} {C:Addr} (a:nsIn K mainGlobals x=some (some (.ref C)))
  (pg:PySem.W.plainGet K C Str.empty=true) (hd:PySem.W.hasDictIn K C=true) (po:plainOver K C=true) (sa:PySem.W.findIn K (.ref C) "__setattr__"=some (some (.builtin "object.__setattr__"))) (mk:PySem.W.makesIn K C=true) (kp:keepIn K (.ref C)=true)
  (c1:PySem.W.findIn K (.ref C) "__class__"=some (some (.builtin "object.__class__"))) (c2:specialIn K (.builtin "object.__class__") "__get__"=some (some (.builtin "getset_descriptor.__get__")))
  (c3:takesIn K (.builtin "object.__class__")=some true) (c4:PySem.W.mroIn K C (.type "object")=some true):Kls K mg x C:=
 ⟨⟨pg,hd,po,sa⟩,mg_of KX G a,mk,kp,c1,c2,c3,c4⟩
end
section
variable {X:Cx} {K:PySem.W.Frag}
theorem call_isiK (hK:X.K=K:=by rfl):eA X (.builtin "isinstance") (fun xs H Q=>∃x y c t b,xs=[x,y]/\clsV y=some c/\Ay K H x t/\kitOne K t c=some b/\Q (.bl b) H):=by subst hK;exact call_isi
theorem pg_c {N':List Str} {sc:Scope} {L:Addr} {cs:List (Str×Addr)} {s:Shared} {H:Hp} {fp:List Addr} {pos:Pos} {i:Nat} {x:Str} (hN:N'.Nodup) (hi:N'[i]? =some x) (hx:Loc (bG X N' sc L cs s H fp).env.scope x)
  (hf:(bG X N' sc L cs s H fp).fn x=true\/(bG X N' sc L cs s H fp).env.scope.names.lookup x=some .local:=by first|exact .inl rfl|exact .inr rfl|assumption):PG (bG X N' sc L cs s H fp) (.Name x pos) (vH i):=zJ hN hi hx hf
end
structure Grid (H:Hp) (a:Addr) (as:List Addr) (rows:List (List Int)):Prop where
 top:H a=some (.lst (as.map V.ref))
 len:as.length=rows.length
 row:∀(i:Nat) (b:Addr) (r:List Int),as[i]? =some b->rows[i]? =some r->H b=some (.lst (r.map V.int))
theorem bp.upd {H:Hp} {a:Addr} {o:HO} (h:H a=none):bp H (upd H a o):=fun b u e=>by rw [aL (ba e h)];exact e
end L2
namespace L2
open PySem PySem.Spec PyProof.Rows
section
variable {X:Cx} {CX:CXT} {k:Nat} {f C:Addr} {fd:FuncData} {ps:List Str} {sp:Sp} {dvs:List V} {ds:List Value} {E:XK} {x m:Str} {p pos apos:Pos} {e:Expr} {es:List Expr} {t:TA} {mc:Value}
structure Stat (K:PySem.W.Frag) (C:Addr) (mc:Value) (m:Str) (f:Addr):Prop where
 s1:specialIn K (.ref C) "__getattribute__"=some (some (.builtin "type.__getattribute__"))
 s2:PySem.W.readsIn K C mc=true
 s3:PySem.W.findCls K (.ref C) mc m=some (.val (.ref f))
 s4:keepIn K (.ref f)=true
theorem pe_cmeth {pl:Sem Bool} (S:Stat X.K C mc m f) (hg:Gl X x) (hm:X.mg x=some (.ref C)) (F:cz X.prog X.w X.K X.mg X.base CX k f fd ps sp) (hr:oQ k X.A) (hb:Binds X.K fd ps ds) (hd:Vals dvs ds) (hx:Passes CX X E) (ha:PA X (e::es) t)
  (hdb:(x==("__debug__":Str))=false:=by decide)
  (hst:starEach (e::es) X.env=(false,eval e X.env)::starEach es X.env:=by rfl) (hpl:(backTo pos (starEach es X.env)).any (·.1)=false:=by rfl)
  (ht:eval (.Call (.Attribute (.Name x p) m apos) (e::es) [] pos) X.env=(do
   let ov <- eval (.Name x p) X.env
   standAt apos.atName
   let (f,first) <- holding [ov] (getMethod ov m pl)
   callWith pos f first (backTo pos (starEach (e::es) X.env)) (backToKw pos (keywordEach [] X.env))):=by rfl) :
  PE X (.Call (.Attribute (.Name x p) m apos) (e::es) [] pos) (tCall sp dvs E t):=by
 intro pins s σ H Q I h
 refine PySem.W.methodCall_KW (pl:=pl) (sR I hg hm ?_ hdb) ht
 refine PySem.W.method_cls I.kIn S.s1 (PySem.W.cls_value I.kIn S.s2 S.s3 rfl ?_)
 refine callWith_K (first:=[]) (h₀:=X.base) I.ok.mod.kin S.s4 (thn (ha pos pins _ σ H _ (I.tok (s.toks+1)) h) fun us s2 ⟨vs,H2,I2,r,q2⟩=>⟨I2.kIn,?_⟩) hst hpl
 exact AK (us:=us) (vs:=vs) F hr hb hd hx I2 r q2
end
noncomputable def Keeps (S:Addr->Prop) (H H':Hp):Prop:=∀b o,H b=some o->¬S b->H' b=some o
theorem Keeps.refl (S:Addr->Prop) (H:Hp):Keeps S H H:=fun _ _ e _=>e
theorem Grid.keeps {S:Addr->Prop} {H H':Hp} {a:Addr} {as:List Addr} {rows:List (List Int)} (g:Grid H a as rows) (k:Keeps S H H') (h1:¬S a) (h2:∀x∈as,¬S x):Grid H' a as rows:=
 ⟨k _ _ g.top h1,g.len,fun i b r e1 e2=>k _ _ (g.row i b r e1 e2) (h2 b (List.mem_of_getElem? e1))⟩
end L2
namespace L2
open PySem PySem.Spec PyProof.Rows
section
variable {X:Cx} {a b c d:Expr} {ta tb tc td:TE} {pos:Pos}
theorem bp.tup {K:PySem.W.Frag} {H H':Hp} {a:Addr} {xs:List V} (e:bp H H') (h:SqT K H a xs):SqT K H' a xs:=by
 rcases h with (h|⟨o,h⟩)|h
 ·exact .inl (.inl (e _ _ h))
 ·exact .inl (.inr ⟨o,e _ _ h⟩)
 ·exact .inr h
end
end L2
namespace L2
open PySem PySem.Spec PyProof.Rows
theorem wC {K:PySem.W.Frag} {a:Addr} {H:Hp} {xs:List V} (h:H a=some (.lst xs)):tyV K "list" (.ref a) H:=.inl ⟨rfl,_,SqL.of h⟩
inductive Dat where
 |non|bl (b:Bool)|int (i:Int)|str (x:Str)|tup (ds:List Dat)|lst (ds:List Dat)|ins (C:Addr) (fs:List (Str×Dat))
mutual
noncomputable def cW (K:PySem.W.Frag) (F:Hp):Dat->V->Prop
 |.non,v=>v=.non
 |.bl b,v=>v=.bl b
 |.int i,v=>v=.int i
 |.str x,v=>v=.str x
 |.tup ds,v=>∃a xs,v=.ref a/\SqT K F a xs/\aE K F ds xs
 |.lst ds,v=>∃a xs,v=.ref a/\SqL K F a xs/\aE K F ds xs
 |.ins C gs,v=>∃a dx fs,v=.ref a/\F a=some (.ins C dx fs)/\vN K F gs fs
noncomputable def aE (K:PySem.W.Frag) (F:Hp):List Dat->List V->Prop
 |[],xs=>xs=[]
 |d::ds,xs=>∃v vs,xs=v::vs/\cW K F d v/\aE K F ds vs
noncomputable def vN (K:PySem.W.Frag) (F:Hp):List (Str×Dat)->List (Str×V)->Prop
 |[],fs=>fs=[]
 |(f,d)::gs,fs=>∃v r,fs=(f,v)::r/\cW K F d v/\vN K F gs r
end
mutual
noncomputable def lp:Dat->Bool
 |.tup ds=>v7 ds
 |.lst _=>false
 |.ins _ _=>false
 |_=>true
noncomputable def v7:List Dat->Bool
 |[]=>true
 |d::ds=>lp d&&v7 ds
end
theorem bp.lst {K:PySem.W.Frag} {H H':Hp} {a:Addr} {xs:List V} (e:bp H H') (h:SqL K H a xs):SqL K H' a xs:=by
 rcases h with (h|⟨o,h⟩)|h
 ·exact .inl (.inl (e _ _ h))
 ·exact .inl (.inr ⟨o,e _ _ h⟩)
 ·exact .inr h
mutual
theorem cW.mono {K:PySem.W.Frag} {F F':Hp} (s:bp F F'):∀{d:Dat} {v:V},cW K F d v->cW K F' d v
 |.non,_,h=>h
 |.bl _,_,h=>h
 |.int _,_,h=>h
 |.str _,_,h=>h
 |.tup _,_,⟨a,xs,e,q,r⟩=>⟨a,xs,e,s.tup q,aE.mono s r⟩
 |.lst _,_,⟨a,xs,e,q,r⟩=>⟨a,xs,e,s.lst q,aE.mono s r⟩
 |.ins _ _,_,⟨a,dx,fs,e,q,r⟩=>⟨a,dx,fs,e,s _ _ q,vN.mono s r⟩
theorem aE.mono {K:PySem.W.Frag} {F F':Hp} (s:bp F F'):∀{ds:List Dat} {xs:List V},aE K F ds xs->aE K F' ds xs
 |[],_,h=>h
 |_::_,_,⟨v,vs,e,q,r⟩=>⟨v,vs,e,cW.mono s q,aE.mono s r⟩
theorem vN.mono {K:PySem.W.Frag} {F F':Hp} (s:bp F F'):∀{gs:List (Str×Dat)} {fs:List (Str×V)},vN K F gs fs->vN K F' gs fs
 |[],_,h=>h
 |(_,_)::_,_,⟨v,r,e,q,t⟩=>⟨v,r,e,cW.mono s q,vN.mono s t⟩
end
mutual
theorem cW.flat {K:PySem.W.Frag} {F F':Hp} (s:∀a xs,SqT K F a xs->SqT K F' a xs):∀{d:Dat} {v:V},lp d=true->cW K F d v->cW K F' d v
 |.non,_,_,h=>h
 |.bl _,_,_,h=>h
 |.int _,_,_,h=>h
 |.str _,_,_,h=>h
 |.tup ds,_,f,⟨a,xs,e,q,r⟩=>⟨a,xs,e,s _ _ q,aE.flat s (by simpa [lp] using f) r⟩
 |.lst _,_,f,_=>by simp [lp] at f
 |.ins _ _,_,f,_=>by simp [lp] at f
theorem aE.flat {K:PySem.W.Frag} {F F':Hp} (s:∀a xs,SqT K F a xs->SqT K F' a xs):∀{ds:List Dat} {xs:List V},v7 ds=true->aE K F ds xs->aE K F' ds xs
 |[],_,_,h=>h
 |d::ds,_,f,⟨v,vs,e,q,r⟩=>by
  simp only [v7,Bool.and_eq_true] at f
  exact ⟨v,vs,e,cW.flat s f.1 q,aE.flat s f.2 r⟩
end
theorem aE.length {K:PySem.W.Frag} {F:Hp}:∀{ds:List Dat} {xs:List V},aE K F ds xs->xs.length=ds.length
 |[],_,h=>by rw [show _=[] from h];rfl
 |_::_,_,⟨_,_,e,_,r⟩=>by rw [e,List.length_cons,List.length_cons,aE.length r]
theorem aE.get {K:PySem.W.Frag} {F:Hp}:∀{ds:List Dat} {xs:List V} {i:Nat} {d:Dat},aE K F ds xs->ds[i]? =some d->∃v,xs[i]? =some v/\cW K F d v
 |[],_,_,_,_,e=>by simp at e
 |_::_,_,0,_,⟨v,vs,e,q,_⟩,h=>by
  simp only [List.getElem?_cons_zero,Option.some.injEq] at h
  subst h e
  exact ⟨v,rfl,q⟩
 |_::_,_,i+1,_,⟨v,vs,e,_,r⟩,h=>by
  subst e
  simp only [List.getElem?_cons_succ] at h ⊢
  exact aE.get r h
theorem aE.at {K:PySem.W.Frag} {F:Hp} {ds:List Dat} {xs:List V} {i:Nat} {v:V} (r:aE K F ds xs) (h:xs[i]? =some v):∃d,ds[i]? =some d/\cW K F d v:=by
 have hi:i<ds.length:=by rw [<- r.length];exact (List.getElem?_eq_some_iff.mp h).1
 obtain ⟨w,e,q⟩:=r.get (i:=i) (d:=ds[i]) (by simp [hi])
 rw [h] at e
 have e':=Option.some.inj e
 subst e'
 exact ⟨ds[i],by simp [hi],q⟩
theorem aE.cons {K:PySem.W.Frag} {F:Hp} {d:Dat} {v:V} {ds:List Dat} {xs:List V} (q:cW K F d v) (r:aE K F ds xs):aE K F (d::ds) (v::xs):=⟨v,xs,rfl,q,r⟩
theorem aE.append {K:PySem.W.Frag} {F:Hp}:∀{ds es:List Dat} {xs ys:List V},aE K F ds xs->aE K F es ys->aE K F (ds++es) (xs++ys)
 |[],_,_,_,h,r=>by rw [show _=[] from h];exact r
 |_::_,_,_,_,⟨v,vs,e,q,t⟩,r=>by subst e;exact ⟨v,_,rfl,q,aE.append t r⟩
theorem aE.take {K:PySem.W.Frag} {F:Hp}:∀{ds:List Dat} {xs:List V} (n:Nat),aE K F ds xs->aE K F (ds.take n) (xs.take n)
 |_,_,0,_=>rfl
 |[],_,_+1,h=>by rw [show _=[] from h];rfl
 |_::_,_,n+1,⟨v,vs,e,q,r⟩=>by subst e;exact ⟨v,_,rfl,q,aE.take n r⟩
theorem aE.drop {K:PySem.W.Frag} {F:Hp}:∀{ds:List Dat} {xs:List V} (n:Nat),aE K F ds xs->aE K F (ds.drop n) (xs.drop n)
 |_,_,0,h=>h
 |[],_,_+1,h=>by rw [show _=[] from h];rfl
 |_::_,_,n+1,⟨v,vs,e,q,r⟩=>by subst e;exact aE.drop n r
theorem aE.set {K:PySem.W.Frag} {F:Hp} {d:Dat} {v:V} (q:cW K F d v):∀{ds:List Dat} {xs:List V} (n:Nat),aE K F ds xs->aE K F (ds.set n d) (xs.set n v)
 |[],_,_,h=>by rw [show _=[] from h];rfl
 |_::_,_,0,⟨w,vs,e,_,r⟩=>by subst e;exact ⟨v,_,rfl,q,r⟩
 |_::_,_,n+1,⟨w,vs,e,p,r⟩=>by subst e;exact ⟨w,_,rfl,p,aE.set q n r⟩
theorem aE.eraseIdx {K:PySem.W.Frag} {F:Hp}:∀{ds:List Dat} {xs:List V} (n:Nat),aE K F ds xs->aE K F (ds.eraseIdx n) (xs.eraseIdx n)
 |[],_,_,h=>by rw [show _=[] from h];rfl
 |_::_,_,0,⟨w,vs,e,_,r⟩=>by subst e;exact r
 |_::_,_,n+1,⟨w,vs,e,p,r⟩=>by subst e;exact ⟨w,_,rfl,p,aE.eraseIdx n r⟩
theorem aE.reverse {K:PySem.W.Frag} {F:Hp}:∀{ds:List Dat} {xs:List V},aE K F ds xs->aE K F ds.reverse xs.reverse
 |[],_,h=>by rw [show _=[] from h];rfl
 |_::_,_,⟨w,vs,e,p,r⟩=>by
  subst e
  rw [List.reverse_cons,List.reverse_cons]
  exact aE.append (aE.reverse r) ⟨w,[],rfl,p,rfl⟩
theorem aE.of_get {K:PySem.W.Frag} {F:Hp}:∀{ds:List Dat} {xs:List V},xs.length=ds.length->(∀(i:Nat) d v,ds[i]? =some d->xs[i]? =some v->cW K F d v)->aE K F ds xs
 |[],[],_,_=>rfl
 |[],_::_,h,_=>by simp at h
 |_::_,[],h,_=>by simp at h
 |d::ds,v::vs,h,q=>⟨v,vs,rfl,q 0 d v rfl rfl,aE.of_get (by simpa using h) fun i e w h1 h2=>q (i+1) e w (by simpa using h1) (by simpa using h2)⟩
structure Step (F H F' H':Hp):Prop where
 ff:bp F F'
 hh:bp H H'
 fh:bp F' H'
 nw:∀b o,F' b=some o->F b=some o\/H b=none
theorem Step.refl {F H:Hp} (s:bp F H):Step F H F H:=⟨bp.refl _,bp.refl _,s,fun _ _ h=>.inl h⟩
theorem Step.trans {F H F1 H1 F2 H2:Hp} (a:Step F H F1 H1) (b:Step F1 H1 F2 H2):Step F H F2 H2:=
 ⟨a.ff.trans b.ff,a.hh.trans b.hh,b.fh,fun x o h=>(b.nw x o h).elim (fun z=>a.nw x o z) fun z=>.inr (a.hh.free z)⟩
theorem Step.lay {F H:Hp} {p:Addr} {o:HO} (s:bp F H) (hp:H p=none):Step F H (upd F p o) (upd H p o):=
 ⟨bp.upd (s.free hp),bp.upd hp,fun b u h=>by
  by_cases e:b=p
  ·subst e;rw [aP] at h ⊢;exact h
  ·rw [aL e] at h ⊢;exact s b u h,fun b u h=>by
  by_cases e:b=p
  ·subst e;exact .inr hp
  ·rw [aL e] at h;exact .inl h⟩
theorem Step.grow {F H:Hp} {p:Addr} {o:HO} (s:bp F H) (hp:H p=none):Step F H F (upd H p o):=
 ⟨bp.refl _,bp.upd hp,s.trans (bp.upd hp),fun _ _ h=>.inl h⟩
noncomputable def Ew (K:PySem.W.Frag) (F H0 H:Hp):Dat->V->Prop
 |.lst ds,v=>∃a xs,v=.ref a/\H a=some (.lst xs)/\F a=none/\H0 a=none/\aE K F ds xs
 |d,v=>cW K F d v
noncomputable def Val (K:PySem.W.Frag) (own:Bool) (F H0 H:Hp) (d:Dat) (v:V):Prop:=if own=true then Ew K F H0 H d v else cW K F d v
theorem Ew.back {K:PySem.W.Frag} {F H0 H1 H:Hp} {d:Dat} {v:V} (s:bp H0 H1) (h:Ew K F H1 H d v):Ew K F H0 H d v:=by
 cases d with
 |lst ds=>obtain ⟨a,xs,e,p,q,z,r⟩:=h;exact ⟨a,xs,e,p,q,s.free z,r⟩
 |_=>exact h
theorem Val.back {K:PySem.W.Frag} {own:Bool} {F H0 H1 H:Hp} {d:Dat} {v:V} (s:bp H0 H1) (h:Val K own F H1 H d v):Val K own F H0 H d v:=by
 cases own with
 |true=>exact Ew.back s h
 |false=>exact h
theorem Ew.freeze {K:PySem.W.Frag} {F H0 H:Hp} {d:Dat} {v:V} (s:bp F H) (h:Ew K F H0 H d v):∃F',bp F F'/\bp F' H/\(∀b o,F' b=some o->F b=some o\/H0 b=none)/\cW K F' d v:=by
 cases d with
 |lst ds=>
  obtain ⟨a,xs,e,p,q,z,r⟩:=h
  refine ⟨upd F a (.lst xs),bp.upd q,fun b o h=>?_,fun b o h=>?_,a,xs,e,SqL.of aP,r.mono (bp.upd q)⟩
  ·by_cases e:b=a
   ·subst e;rw [aP] at h;rw [p,<- h]
   ·rw [aL e] at h;exact s b o h
  ·by_cases e:b=a
   ·subst e;exact .inr z
   ·rw [aL e] at h;exact .inl h
 |_=>exact ⟨F,bp.refl _,s,fun _ _ z=>.inl z,h⟩
inductive Err where
 |stuck|exc (C:Addr) (fs:List (Str×Dat))
noncomputable abbrev M:=Except Err
noncomputable abbrev ao:=List (Option Dat)
structure iV where
 p:Err->Hp->Hp->Prop
 mono:∀{e:Err} {F H F' H':Hp},p e F H->Step F H F' H'->p e F' H'
 ns:∀{F H:Hp},p .stuck F H->False
noncomputable def Wno:iV:=⟨fun _ _ _=>False,fun h _=>h,fun h=>h⟩
noncomputable def aN (K:PySem.W.Frag) (W:iV) (own:Bool) (F H:Hp) (r:M Dat) (Q:VK):Prop:=match r with
 |.ok d=>∀v F' H',Step F H F' H'->Val K own F' H H' d v->Q v H'
 |.error e=>W.p e F H
theorem aN.step {K:PySem.W.Frag} {W:iV} {own:Bool} {F H F1 H1:Hp} {r:M Dat} {Q:VK} (p:aN K W own F H r Q) (s:Step F H F1 H1):aN K W own F1 H1 r Q:=by
 cases r with
 |ok d=>exact fun v F' H' t q=>p v F' H' (s.trans t) (q.back s.hh)
 |error e=>exact W.mono p s
theorem aN.frz {K:PySem.W.Frag} {W:iV} {F H:Hp} {r:M Dat} {Q:VK} (p:aN K W false F H r Q):aN K W true F H r Q:=by
 cases r with
 |ok d=>
  intro v F' H' t q
  obtain ⟨F2,s1,s2,n,z⟩:=Ew.freeze t.fh q
  exact p v F2 H' ⟨t.ff.trans s1,t.hh,s2,fun b o h=>(n b o h).elim (fun z=>t.nw b o z) .inr⟩ z
 |error e=>exact p
structure r9 (K:PySem.W.Frag) (F:Hp) (σ:St) (ρ:ao):Prop where
 len:ρ.length=σ.length
 sl:∀(i:Nat) (d:Dat),ρ[i]? =some (some d)->∃v,σ[i]? =some (some v)/\cW K F d v
theorem r9.mono {K:PySem.W.Frag} {F F':Hp} {σ:St} {ρ:ao} (r:r9 K F σ ρ) (s:bp F F'):r9 K F' σ ρ:=
 ⟨r.len,fun i d e=>let ⟨v,h,q⟩:=r.sl i d e;⟨v,h,q.mono s⟩⟩
theorem r9.set {K:PySem.W.Frag} {F:Hp} {σ:St} {ρ:ao} {d:Dat} {v:V} (r:r9 K F σ ρ) (q:cW K F d v) (i:Nat):r9 K F (σ.set i (some v)) (ρ.set i (some d)):=
 ⟨by rw [List.length_set,List.length_set,r.len],fun j e h=>by
  by_cases hij:i=j
  ·subst hij
   have hi:i<ρ.length:=by
    have:=(List.getElem?_eq_some_iff.mp h).1
    simpa using this
   rw [List.getElem?_set_self hi] at h
   cases h
   exact ⟨v,by rw [List.getElem?_set_self (by rw [<- r.len];exact hi)],q⟩
  ·rw [List.getElem?_set_ne hij] at h
   obtain ⟨w,h1,h2⟩:=r.sl j e h
   exact ⟨w,by rw [List.getElem?_set_ne hij];exact h1,h2⟩⟩
noncomputable def tD (K:PySem.W.Frag) (W:iV) (own:Bool) (f:ao->M Dat):TE:=fun σ H Q=>∃F ρ,r9 K F σ ρ/\bp F H/\aN K W own F H (f ρ) Q
theorem bx {K:PySem.W.Frag} {W:iV} {own:Bool} {f:ao->M Dat} {σ:St} {ρ:ao} {F H:Hp} {R:VK} (r:r9 K F σ ρ) (s:bp F H) (hE:∀e,f ρ=.error e->W.p e F H)
  (hO:∀d,f ρ=.ok d->∀v F1 H1,Step F H F1 H1->Val K own F1 H H1 d v->R v H1):tD K W own f σ H R:=by
 refine ⟨F,ρ,r,s,?_⟩
 cases e:f ρ with
 |ok d=>exact hO d e
 |error x=>exact hE x e
noncomputable def tDT (K:PySem.W.Frag) (W:iV) (f:ao->M Bool):TT:=fun σ H Q=>∃F ρ,r9 K F σ ρ/\bp F H/\(match f ρ with
 |.ok b=>∀F' H',Step F H F' H'->Q b H'
 |.error e=>W.p e F H)
theorem oS {K:PySem.W.Frag} {W:iV} {f:ao->M Bool} {σ:St} {ρ:ao} {F H:Hp} {R:Bool->Hp->Prop} (r:r9 K F σ ρ) (s:bp F H) (hE:∀e,f ρ=.error e->W.p e F H)
  (hO:∀b,f ρ=.ok b->∀F1 H1,Step F H F1 H1->R b H1):tDT K W f σ H R:=by
 refine ⟨F,ρ,r,s,?_⟩
 cases e:f ρ with
 |ok d=>exact hO d e
 |error x=>exact hE x e
noncomputable def tDA (K:PySem.W.Frag) (W:iV) (f:ao->M (List Dat)):TA:=fun σ H Q=>∃F ρ,r9 K F σ ρ/\bp F H/\(match f ρ with
 |.ok ds=>∀vs F' H',Step F H F' H'->aE K F' ds vs->Q vs H'
 |.error e=>W.p e F H)
theorem uC {K:PySem.W.Frag} {W:iV} {f:ao->M (List Dat)} {σ:St} {ρ:ao} {F H:Hp} {R:List V->Hp->Prop} (r:r9 K F σ ρ) (s:bp F H) (hE:∀e,f ρ=.error e->W.p e F H)
  (hO:∀ds,f ρ=.ok ds->∀vs F1 H1,Step F H F1 H1->aE K F1 ds vs->R vs H1):tDA K W f σ H R:=by
 refine ⟨F,ρ,r,s,?_⟩
 cases e:f ρ with
 |ok d=>exact hO d e
 |error x=>exact hE x e
noncomputable def af (i:Nat):ao->M Dat:=fun ρ=>match ρ[i]? with
 |some (some d)=>.ok d
 |_=>.error .stuck
noncomputable def fC (d:Dat):ao->M Dat:=fun _=>.ok d
noncomputable def f1 (g:Dat->M Dat) (fa:ao->M Dat):ao->M Dat:=fun ρ=>(fa ρ).bind g
noncomputable def f2 (g:Dat->Dat->M Dat) (fa fb:ao->M Dat):ao->M Dat:=fun ρ=>(fa ρ).bind fun a=>(fb ρ).bind fun b=>g a b
noncomputable def aC:ao->M (List Dat):=fun _=>.ok []
noncomputable def aa (fa:ao->M Dat) (fr:ao->M (List Dat)):ao->M (List Dat):=fun ρ=>(fa ρ).bind fun a=>(fr ρ).bind fun r=>.ok (a::r)
noncomputable def fL (g:List Dat->M Dat) (fr:ao->M (List Dat)):ao->M Dat:=fun ρ=>(fr ρ).bind g
noncomputable def bQ (ds:List Dat):M Dat:=if ds.length<=sizeLine then .ok (.tup ds) else .error .stuck
noncomputable def cB (ds:List Dat):M Dat:=if ds.length<=sizeLine then .ok (.lst ds) else .error .stuck
noncomputable def fIte (ft:ao->M Bool) (fa fb:ao->M Dat):ao->M Dat:=fun ρ=>(ft ρ).bind fun b=>if b=true then fa ρ else fb ρ
noncomputable def DV (ft fu:ao->M Bool):ao->M Bool:=fun ρ=>(ft ρ).bind fun b=>if b=true then fu ρ else .ok false
noncomputable def fOr (ft fu:ao->M Bool):ao->M Bool:=fun ρ=>(ft ρ).bind fun b=>if b=true then .ok true else fu ρ
noncomputable def zy (ft:ao->M Bool):ao->M Bool:=fun ρ=>(ft ρ).bind fun b=>.ok (!b)
noncomputable def asB:Dat->M Bool
 |.bl b=>.ok b
 |_=>.error .stuck
noncomputable def fB (fa:ao->M Dat):ao->M Bool:=fun ρ=>(fa ρ).bind asB
noncomputable def xr (fa fb:ao->M Dat):ao->M Dat:=fun ρ=>(fa ρ).bind fun a=>(asB a).bind fun b=>if b=true then fb ρ else .ok (.bl false)
noncomputable def notD:Dat->M Dat
 |.bl b=>.ok (.bl (!b))
 |_=>.error .stuck
noncomputable def truD:Dat->M Bool
 |.non=>.ok false
 |.bl b=>.ok b
 |.int i=>.ok (i != 0)
 |.str x=>if x.length<=sizeLine then .ok ((x.length:Int) != 0) else .error .stuck
 |.tup ds=>.ok (!ds.isEmpty)
 |.lst ds=>.ok (!ds.isEmpty)
 |_=>.error .stuck
noncomputable def xV (fa:ao->M Dat):ao->M Bool:=fun ρ=>(fa ρ).bind truD
noncomputable def iI (g g':Dat->Dat->M Dat) (fa fb fc:ao->M Dat):ao->M Dat:=fun ρ=>(fa ρ).bind fun a=>(fb ρ).bind fun b=>(g a b).bind fun x=>(asB x).bind fun k=>if k=true then (fc ρ).bind fun c=>g' b c else .ok (.bl false)
noncomputable def rD2 (K:PySem.W.Frag) (W:iV) (own:Bool) (g:Dat->Dat->M Dat):R2:=fun x y H Q=>∃F a b,bp F H/\cW K F a x/\cW K F b y/\aN K W own F H (g a b) Q
noncomputable def rD1 (K:PySem.W.Frag) (W:iV) (own:Bool) (g:Dat->M Dat):V->Hp->VK->Prop:=fun x H Q=>∃F a,bp F H/\cW K F a x/\aN K W own F H (g a) Q
noncomputable def rDL (K:PySem.W.Frag) (W:iV) (own:Bool) (g:List Dat->M Dat):List V->Hp->VK->Prop:=fun xs H Q=>∃F ds,bp F H/\aE K F ds xs/\aN K W own F H (g ds) Q
section
variable {K:PySem.W.Frag} {W:iV} {own:Bool} {σ:St} {H:Hp} {Q:VK} {fa fb fc:ao->M Dat}
theorem rd_var {i:Nat} (h:tD K W false (af i) σ H Q):tVar i σ H Q:=by
 obtain ⟨F,ρ,r,s,p⟩:=h
 unfold af at p
 match e:ρ[i]? with
 |some (some d)=>
  rw [e] at p
  obtain ⟨v,e1,q⟩:=r.sl i d e
  exact ⟨v,e1,p v F H (Step.refl s) q⟩
 |some none=>rw [e] at p;exact (W.ns p).elim
 |none=>rw [e] at p;exact (W.ns p).elim
theorem rd_c {d:Dat} {v:V} (hd:∀F,cW K F d v) (h:tD K W false (fC d) σ H Q):tC v σ H Q:=by
 obtain ⟨F,ρ,r,s,p⟩:=h
 exact p v F H (Step.refl s) (hd F)
theorem aN.err {F:Hp} {x:M Dat} {e:Err} (p:aN K W own F H x Q) (h:x=.error e):W.p e F H:=by rw [h] at p;exact p
theorem rd_1 {g:Dat->M Dat} (h:tD K W own (f1 g fa) σ H Q):tUn (rD1 K W own g) (tD K W false fa) σ H Q:=by
 obtain ⟨F,ρ,r,s,p⟩:=h
 refine bx r s (fun e he=>p.err (by unfold f1;rw [he];rfl)) fun a ha x F1 H1 s1 q1=>?_
 refine ⟨F1,a,s1.fh,q1,?_⟩
 have e:f1 g fa ρ=g a:=by unfold f1;rw [ha];rfl
 rw [e] at p
 exact p.step s1
theorem rd_2 {g:Dat->Dat->M Dat} (h:tD K W own (f2 g fa fb) σ H Q):tOp (rD2 K W own g) (tD K W false fa) (tD K W false fb) σ H Q:=by
 obtain ⟨F,ρ,r,s,p⟩:=h
 refine bx r s (fun e he=>p.err (by unfold f2;rw [he];rfl)) fun a ha x F1 H1 s1 q1=>?_
 refine bx (r.mono s1.ff) s1.fh (fun e he=>(p.step s1).err (by unfold f2;rw [ha];show (fb ρ).bind _=_;rw [he];rfl)) fun b hb y F2 H2 s2 q2=>?_
 refine ⟨F2,a,b,s2.fh,cW.mono s2.ff q1,q2,?_⟩
 have e:f2 g fa fb ρ=g a b:=by unfold f2;rw [ha];show (fb ρ).bind _=_;rw [hb];rfl
 rw [e] at p
 exact p.step (s1.trans s2)
theorem rd_nil {R:List V->Hp->Prop} (h:tDA K W aC σ H R):tNil σ H R:=by
 obtain ⟨F,ρ,r,s,p⟩:=h
 exact p [] F H (Step.refl s) rfl
theorem rd_cons {fr:ao->M (List Dat)} {R:List V->Hp->Prop} (h:tDA K W (aa fa fr) σ H R):zB (tD K W false fa) (tDA K W fr) σ H R:=by
 obtain ⟨F,ρ,r,s,p⟩:=h
 refine bx r s (fun e he=>?_) fun a ha x F1 H1 s1 q1=>uC (r.mono s1.ff) s1.fh (fun e he=>?_) fun ds hd xs F2 H2 s2 q2=>?_
 ·have z:aa fa fr ρ=.error e:=by unfold aa;rw [he];rfl
  rw [z] at p
  exact p
 ·have z:aa fa fr ρ=.error e:=by unfold aa;rw [ha];show (fr ρ).bind _=_;rw [he];rfl
  rw [z] at p
  exact W.mono p s1
 ·have z:aa fa fr ρ=.ok (a::ds):=by unfold aa;rw [ha];show (fr ρ).bind _=_;rw [hd];rfl
  rw [z] at p
  exact p (x::xs) F2 H2 (s1.trans s2) ⟨x,xs,rfl,cW.mono s2.ff q1,q2⟩
theorem rd_L {g:List Dat->M Dat} {fr:ao->M (List Dat)} (h:tD K W own (fL g fr) σ H Q):tDA K W fr σ H fun xs H1=>rDL K W own g xs H1 Q:=by
 obtain ⟨F,ρ,r,s,p⟩:=h
 refine uC r s (fun e he=>p.err (by unfold fL;rw [he];rfl)) fun ds hd xs F1 H1 s1 q1=>⟨F1,ds,s1.fh,q1,?_⟩
 have e:fL g fr ρ=g ds:=by unfold fL;rw [hd];rfl
 rw [e] at p
 exact p.step s1
theorem rd_tup {fr:ao->M (List Dat)} (h:tD K W own (fL bQ fr) σ H Q):tTup (tDA K W fr) σ H Q:=by
 obtain ⟨F,ρ,r,s,p⟩:=rd_L h
 refine ⟨F,ρ,r,s,?_⟩
 cases e:fr ρ with
 |error x=>rw [e] at p;exact p
 |ok ds=>
  rw [e] at p
  intro vs F' H' t q
  obtain ⟨F1,es,s1,q1,z⟩:=p vs F' H' t q
  unfold bQ at z
  by_cases hl:es.length<=sizeLine
  ·rw [if_pos hl] at z
   refine ⟨by rw [q1.length];exact hl,fun a ha=>z (.ref a) _ _ (Step.lay s1 ha) ?_⟩
   have:cW K (upd F1 a (.tup vs)) (.tup es) (.ref a):=⟨a,vs,rfl,SqT.of aP,q1.mono (bp.upd (s1.free ha))⟩
   cases own with
   |true=>exact this
   |false=>exact this
  ·rw [if_neg hl] at z
   exact (W.ns z).elim
theorem rd_lst {fr:ao->M (List Dat)} (h:tD K W true (fL cB fr) σ H Q):tLst (tDA K W fr) σ H Q:=by
 obtain ⟨F,ρ,r,s,p⟩:=rd_L h
 refine ⟨F,ρ,r,s,?_⟩
 cases e:fr ρ with
 |error x=>rw [e] at p;exact p
 |ok ds=>
  rw [e] at p
  intro vs F' H' t q
  obtain ⟨F1,es,s1,q1,z⟩:=p vs F' H' t q
  unfold cB at z
  by_cases hl:es.length<=sizeLine
  ·rw [if_pos hl] at z
   exact ⟨by rw [q1.length];exact hl,fun a ha=>z (.ref a) F1 _ (Step.grow s1 ha) ⟨a,vs,rfl,aP,s1.free ha,ha,q1⟩⟩
  ·rw [if_neg hl] at z
   exact (W.ns z).elim
theorem rd_ite {ft:ao->M Bool} (h:tD K W own (fIte ft fa fb) σ H Q):tIf (tDT K W ft) (tD K W own fa) (tD K W own fb) σ H Q:=by
 obtain ⟨F,ρ,r,s,p⟩:=h
 refine oS r s (fun e he=>p.err (by unfold fIte;rw [he];rfl)) fun b hb F1 H1 s1=>?_
 have e:fIte ft fa fb ρ=if b=true then fa ρ else fb ρ:=by unfold fIte;rw [hb];rfl
 rw [e] at p
 cases b with
 |true=>exact ⟨F1,ρ,r.mono s1.ff,s1.fh,p.step s1⟩
 |false=>exact ⟨F1,ρ,r.mono s1.ff,s1.fh,p.step s1⟩
theorem AH {f:ao->M Bool} {F F1 H1:Hp} {ρ:ao} {R:Bool->Hp->Prop} (r:r9 K F σ ρ) (s1:Step F H F1 H1) (p:match f ρ with
 |.ok b=>∀F' H',Step F H F' H'->R b H'
 |.error e=>W.p e F H):tDT K W f σ H1 R:=by
 refine ⟨F1,ρ,r.mono s1.ff,s1.fh,?_⟩
 cases e:f ρ with
 |ok b=>rw [e] at p;exact fun F' H' t=>p F' H' (s1.trans t)
 |error x=>rw [e] at p;exact W.mono p s1
theorem rd_and {ft fu:ao->M Bool} {R:Bool->Hp->Prop} (h:tDT K W (DV ft fu) σ H R):tAnd (tDT K W ft) (tDT K W fu) σ H R:=by
 obtain ⟨F,ρ,r,s,p⟩:=h
 refine oS r s (fun e he=>?_) fun b hb F1 H1 s1=>?_
 ·have z:DV ft fu ρ=.error e:=by unfold DV;rw [he];rfl
  rw [z] at p;exact p
 ·have z:DV ft fu ρ=if b=true then fu ρ else .ok false:=by unfold DV;rw [hb];rfl
  rw [z] at p
  cases b with
  |true=>exact AH r s1 p
  |false=>exact p F1 H1 s1
theorem rd_or {ft fu:ao->M Bool} {R:Bool->Hp->Prop} (h:tDT K W (fOr ft fu) σ H R):tOr (tDT K W ft) (tDT K W fu) σ H R:=by
 obtain ⟨F,ρ,r,s,p⟩:=h
 refine oS r s (fun e he=>?_) fun b hb F1 H1 s1=>?_
 ·have z:fOr ft fu ρ=.error e:=by unfold fOr;rw [he];rfl
  rw [z] at p;exact p
 ·have z:fOr ft fu ρ=if b=true then .ok true else fu ρ:=by unfold fOr;rw [hb];rfl
  rw [z] at p
  cases b with
  |false=>exact AH r s1 p
  |true=>exact p F1 H1 s1
theorem rd_not {ft:ao->M Bool} {R:Bool->Hp->Prop} (h:tDT K W (zy ft) σ H R):tNot (tDT K W ft) σ H R:=by
 obtain ⟨F,ρ,r,s,p⟩:=h
 refine oS r s (fun e he=>?_) fun b hb F1 H1 s1=>?_
 ·have z:zy ft ρ=.error e:=by unfold zy;rw [he];rfl
  rw [z] at p;exact p
 ·have z:zy ft ρ=.ok (!b):=by unfold zy;rw [hb];rfl
  rw [z] at p;exact p F1 H1 s1
theorem rd_B {R:Bool->Hp->Prop} (h:tDT K W (fB fa) σ H R):tTest (tD K W false fa) σ H R:=by
 obtain ⟨F,ρ,r,s,p⟩:=h
 refine bx r s (fun e he=>?_) fun a ha x F1 H1 s1 q1=>?_
 ·have z:fB fa ρ=.error e:=by unfold fB;rw [he];rfl
  rw [z] at p;exact p
 ·have z:fB fa ρ=asB a:=by unfold fB;rw [ha];rfl
  rw [z] at p
  cases a with
  |bl b=>exact ⟨b,q1,p F1 H1 s1⟩
  |_=>exact (W.ns p).elim
theorem tru_of {F H1:Hp} {a:Dat} {x:V} {b:Bool} (s:bp F H1) (q:cW K F a x) (h:truD a=.ok b):TruV K x H1 b:=by
 cases a with
 |non=>rw [show x=.non from q];exact (Except.ok.inj h).symm
 |bl c=>rw [show x=.bl c from q];exact (Except.ok.inj h).symm
 |int i=>rw [show x=.int i from q];exact (Except.ok.inj h).symm
 |str y=>
  rw [show x=.str y from q]
  have h':(if y.length<=sizeLine then Except.ok ((y.length:Int) != 0) else Except.error Err.stuck)=Except.ok b:=h
  by_cases hy:y.length<=sizeLine
  ·rw [if_pos hy] at h'
   exact ⟨hy,(Except.ok.inj h').symm⟩
  ·rw [if_neg hy] at h'
   cases h'
 |tup ds=>
  obtain ⟨p,xs,e,t,r⟩:=q
  subst e
  refine .inr (.inl ⟨xs,s.tup t,?_⟩)
  rw [<- Except.ok.inj h]
  cases ds with
  |nil=>rw [show xs=[] from r];rfl
  |cons d ds=>obtain ⟨v,vs,e,_⟩:=r;rw [e];rfl
 |lst ds=>
  obtain ⟨p,xs,e,t,r⟩:=q
  subst e
  refine .inl ⟨xs,s.lst t,?_⟩
  rw [<- Except.ok.inj h]
  cases ds with
  |nil=>rw [show xs=[] from r];rfl
  |cons d ds=>obtain ⟨v,vs,e,_⟩:=r;rw [e];rfl
 |ins C fs=>cases h
theorem rd_tru {R:Bool->Hp->Prop} (h:tDT K W (xV fa) σ H R):tD K W false fa σ H fun x H1=>∃k,TruV K x H1 k/\R k H1:=by
 obtain ⟨F,ρ,r,s,p⟩:=h
 refine bx r s (fun e he=>?_) fun a ha x F1 H1 s1 q1=>?_
 ·have z:xV fa ρ=.error e:=by unfold xV;rw [he];rfl
  rw [z] at p;exact p
 ·have z:xV fa ρ=truD a:=by unfold xV;rw [ha];rfl
  rw [z] at p
  cases e:truD a with
  |ok b=>rw [e] at p;exact ⟨b,tru_of s1.fh q1 e,p F1 H1 s1⟩
  |error x=>
   rw [e] at p
   have:x=.stuck:=by
    cases a with
    |str y=>
     have e':(if y.length<=sizeLine then Except.ok ((y.length:Int) != 0) else Except.error Err.stuck)=Except.error x:=e
     by_cases hy:y.length<=sizeLine
     ·rw [if_pos hy] at e'
      cases e'
     ·rw [if_neg hy] at e'
      cases e'
      rfl
    |ins C fs=>cases e;rfl
    |_=>cases e
   subst this
   exact (W.ns p).elim
theorem rd_andV (h:tD K W false (xr fa fb) σ H Q):tAndV (tD K W false fa) (tD K W false fb) σ H Q:=by
 obtain ⟨F,ρ,r,s,p⟩:=h
 refine bx r s (fun e he=>p.err (by unfold xr;rw [he];rfl)) fun a ha x F1 H1 s1 q1=>?_
 have z:xr fa fb ρ=(asB a).bind fun b=>if b=true then fb ρ else .ok (.bl false):=by unfold xr;rw [ha];rfl
 rw [z] at p
 cases a with
 |bl b=>
  refine ⟨b,q1,?_⟩
  cases b with
  |true=>exact ⟨F1,ρ,r.mono s1.ff,s1.fh,aN.step (own:=false) (r:=fb ρ) p s1⟩
  |false=>exact p (.bl false) F1 H1 s1 rfl
 |_=>exact (W.ns p).elim
theorem rd_notV (h:tD K W false (f1 notD fa) σ H Q):tNotV (tD K W false fa) σ H Q:=by
 obtain ⟨F,ρ,r,s,p⟩:=h
 refine bx r s (fun e he=>p.err (by unfold f1;rw [he];rfl)) fun a ha x F1 H1 s1 q1=>?_
 have z:f1 notD fa ρ=notD a:=by unfold f1;rw [ha];rfl
 rw [z] at p
 cases a with
 |bl b=>exact ⟨b,q1,p (.bl (!b)) F1 H1 s1 rfl⟩
 |_=>exact (W.ns p).elim
theorem AN {g g':Dat->Dat->M Dat} (h:tD K W false (iI g g' fa fb fc) σ H Q):CC (rD2 K W false g) (rD2 K W false g') (tD K W false fa) (tD K W false fb) (tD K W false fc) σ H Q:=by
 obtain ⟨F,ρ,r,s,p⟩:=h
 refine bx r s (fun e he=>p.err (by unfold iI;rw [he];rfl)) fun a ha x F1 H1 s1 q1=>?_
 refine bx (r.mono s1.ff) s1.fh (fun e he=>(p.step s1).err (by unfold iI;rw [ha];show (fb ρ).bind _=_;rw [he];rfl)) fun b hb y F2 H2 s2 q2=>?_
 have z:iI g g' fa fb fc ρ=(g a b).bind fun x=>(asB x).bind fun k=>if k=true then (fc ρ).bind fun c=>g' b c else .ok (.bl false):=by unfold iI;rw [ha];show (fb ρ).bind _=_;rw [hb];rfl
 rw [z] at p
 refine ⟨F2,a,b,s2.fh,cW.mono s2.ff q1,q2,?_⟩
 have p2:=p.step (s1.trans s2)
 cases e:g a b with
 |error x=>rw [e] at p2;exact p2
 |ok d=>
  rw [e] at p2
  intro v F3 H3 s3 q3
  have p3:aN K W false F3 H3 ((asB d).bind fun k=>if k=true then (fc ρ).bind fun c=>g' b c else .ok (.bl false)) Q:=aN.step p2 s3
  cases d with
  |bl k=>
   refine ⟨k,q3,?_⟩
   cases k with
   |false=>exact p3 (.bl false) F3 H3 (Step.refl s3.fh) rfl
   |true=>
    have p4:aN K W false F3 H3 ((fc ρ).bind fun c=>g' b c) Q:=p3
    refine bx (r.mono (s1.trans (s2.trans s3)).ff) s3.fh (fun e he=>p4.err (by rw [he];rfl)) fun c hc w F4 H4 s4 q4=>⟨F4,b,c,s4.fh,cW.mono (s3.trans s4).ff q2,q4,?_⟩
    rw [hc] at p4
    exact p4.step s4
  |_=>exact (W.ns p3).elim
end
inductive Pat where
 |nm (i:Nat)|tp (is:List Nat)
noncomputable def oV:List Nat->List Dat->ao->ao
 |i::is,d::ds,ρ=>oV is ds (ρ.set i (some d))
 |_,_,ρ=>ρ
noncomputable def jz:Pat->Dat->ao->M ao
 |.nm i,d,ρ=>.ok (ρ.set i (some d))
 |.tp is,.tup ds,ρ=>if ds.length=is.length then .ok (oV is ds ρ) else .error .stuck
 |.tp _,_,_=>.error .stuck
noncomputable def lM:List Nat->TGs
 |[]=>gNil
 |i::is=>gCons (vH i) (lM is)
noncomputable def gP (K:PySem.W.Frag):Pat->TG
 |.nm i=>vH i
 |.tp is=>gTup K is.length (lM is)
theorem w9 {K:PySem.W.Frag} {F H:Hp} {R:St->Hp->Prop}:∀{is:List Nat} {ds:List Dat} {vs:List V} {σ:St} {ρ:ao},r9 K F σ ρ->aE K F ds vs->ds.length=is.length->(∀σ',r9 K F σ' (oV is ds ρ)->R σ' H)->lM is vs σ H R
 |[],[],_,σ,ρ,r,q,_,h=>⟨q,h σ r⟩
 |[],_::_,_,_,_,_,_,e,_=>by simp at e
 |_::_,[],_,_,_,_,_,e,_=>by simp at e
 |i::is,d::ds,_,σ,ρ,r,⟨v,vs,e,q,t⟩,l,h=>⟨v,vs,e,w9 (r.set q i) t (by simpa using l) h⟩
theorem gP_run {K:PySem.W.Frag} {F H:Hp} {R:St->Hp->Prop} {p:Pat} {d:Dat} {v:V} {σ:St} {ρ ρ':ao} (r:r9 K F σ ρ) (s:bp F H) (q:cW K F d v) (e:jz p d ρ=.ok ρ') (h:∀σ',r9 K F σ' ρ'->R σ' H):gP K p v σ H R:=by
 cases p with
 |nm i=>
  have:=Except.ok.inj e
  subst this
  exact h _ (r.set q i)
 |tp is=>
  cases d with
  |tup ds=>
   have e':(if ds.length=is.length then Except.ok (oV is ds ρ) else Except.error Err.stuck)=Except.ok ρ':=e
   by_cases hl:ds.length=is.length
   ·rw [if_pos hl] at e'
    have:=Except.ok.inj e'
    subst this
    obtain ⟨a,xs,ev,t,z⟩:=q
    exact ⟨a,xs,ev,s.tup t,by rw [z.length,hl],w9 r z hl h⟩
   ·rw [if_neg hl] at e'
    cases e'
  |_=>cases e
theorem pX {p:Pat} {d:Dat} {ρ:ao} {e:Err} (h:jz p d ρ=.error e):e=.stuck:=by
 cases p with
 |nm i=>cases h
 |tp is=>
  cases d with
  |tup ds=>
   have e':(if ds.length=is.length then Except.ok (oV is ds ρ) else Except.error Err.stuck)=Except.error e:=h
   by_cases hl:ds.length=is.length
   ·rw [if_pos hl] at e';cases e'
   ·rw [if_neg hl] at e';cases e';rfl
  |_=>cases h;rfl
structure AD (K:PySem.W.Frag) (F1:Hp) (J:It) (ds:List Dat):Prop where
 go:∀(i:Nat) (F H:Hp),bp F1 F->bp F H->i<ds.length->J.go i H
 yl:∀(i:Nat) (F H:Hp) (x:V) (H':Hp) (d:Dat),bp F1 F->bp F H->ds[i]? =some d->J.yld i H x H'->∃F',Step F H F' H'/\cW K F' d x
 st:∀(F H:Hp),bp F1 F->bp F H->J.stop ds.length H
noncomputable def iD (K:PySem.W.Frag) (W:iV) (f:ao->M (List Dat)):TI:=fun σ H R=>∃F ρ,r9 K F σ ρ/\bp F H/\(match f ρ with
 |.ok ds=>∀J F1 H1,Step F H F1 H1->AD K F1 J ds->R J H1
 |.error e=>W.p e F H)
noncomputable def yL:Dat->M (List Dat)
 |.lst ds=>.ok ds
 |.tup ds=>.ok ds
 |_=>.error .stuck
noncomputable def fIt (fa:ao->M Dat):ao->M (List Dat):=fun ρ=>(fa ρ).bind yL
noncomputable def iSeq (K:PySem.W.Frag) (tl:TE):TI:=fun σ H R=>tl σ H fun x H1=>∃a,x=.ref a/\((∃xs,SqL K H1 a xs)/\R (Itl K a) H1\/(∃xs,SqT K H1 a xs)/\R (Itt K a) H1)
theorem Dv {K:PySem.W.Frag} {F:Hp} {a:Addr} {xs:List V} {ds:List Dat} (t:SqL K F a xs) (z:aE K F ds xs):AD K F (Itl K a) ds where
 go:=fun i F' H' s1 s2 hi=>⟨xs,xs[i]'(by rw [z.length];exact hi),s2.lst (s1.lst t),by simp [z.length,hi]⟩
 yl:=fun i F' H' x H2 d s1 s2 hd hy=>by
  obtain ⟨e,hy⟩:=hy
  subst e
  obtain ⟨v,e1,q⟩:=z.get hd
  have e2:=hy xs (s2.lst (s1.lst t))
  rw [e1] at e2
  cases e2
  exact ⟨F',Step.refl s2,q.mono s1⟩
 st:=fun F' H' s1 s2=>⟨xs,s2.lst (s1.lst t),by rw [z.length];exact Nat.le_refl _⟩
theorem iter_tup {K:PySem.W.Frag} {F:Hp} {a:Addr} {xs:List V} {ds:List Dat} (t:SqT K F a xs) (z:aE K F ds xs):AD K F (Itt K a) ds where
 go:=fun i F' H' s1 s2 hi=>⟨xs,xs[i]'(by rw [z.length];exact hi),s2.tup (s1.tup t),by simp [z.length,hi]⟩
 yl:=fun i F' H' x H2 d s1 s2 hd hy=>by
  obtain ⟨e,hy⟩:=hy
  subst e
  obtain ⟨v,e1,q⟩:=z.get hd
  have e2:=hy xs (s2.tup (s1.tup t))
  rw [e1] at e2
  cases e2
  exact ⟨F',Step.refl s2,q.mono s1⟩
 st:=fun F' H' s1 s2=>⟨xs,s2.tup (s1.tup t),by rw [z.length];exact Nat.le_refl _⟩
noncomputable def aU (lo:Int) (n:Nat):List Dat:=(List.range n).map fun k:Nat=>Dat.int (lo+k)
theorem BO {K:PySem.W.Frag} {F:Hp} {lo:Int} {n:Nat}:AD K F (Itr lo n) (aU lo n) where
 go:=fun i F' H' s1 s2 hi=>by show i<n;simpa [aU] using hi
 yl:=fun i F' H' x H2 d s1 s2 hd hy=>by
  obtain ⟨e,hy⟩:=hy
  subst e hy
  unfold aU at hd
  rw [List.getElem?_map] at hd
  have hi:i<n:=by
   have:=(List.getElem?_eq_some_iff.mp (show ((List.range n).map fun k:Nat=>Dat.int (lo+k))[i]? =some d by rw [List.getElem?_map];exact hd)).1
   simpa using this
  rw [List.getElem?_range hi] at hd
  cases hd
  exact ⟨F',Step.refl s2,rfl⟩
 st:=fun F' H' s1 s2=>by show n<=_;simp [aU]
noncomputable def mh (i:Int):Bool:=decide (-(2^62)<=i)&&decide (i<2^62)
noncomputable def so:List Dat->M (List Dat)
 |[.int j]=>if mh j=true then .ok (aU 0 j.toNat) else .error .stuck
 |_=>.error .stuck
noncomputable def sr (g:List Dat->M (List Dat)) (fr:ao->M (List Dat)):ao->M (List Dat):=fun ρ=>(fr ρ).bind g
section
variable {K:PySem.W.Frag} {W:iV} {own:Bool} {σ:St} {H:Hp} {Q:VK} {fa fb fc:ao->M Dat}
theorem ri_seq {R:It->Hp->Prop} (h:iD K W (fIt fa) σ H R):iSeq K (tD K W false fa) σ H R:=by
 obtain ⟨F,ρ,r,s,p⟩:=h
 refine bx r s (fun e he=>?_) fun a ha x F1 H1 s1 q1=>?_
 ·have z:fIt fa ρ=.error e:=by unfold fIt;rw [he];rfl
  rw [z] at p;exact p
 ·have z:fIt fa ρ=yL a:=by unfold fIt;rw [ha];rfl
  rw [z] at p
  cases a with
  |lst ds=>
   obtain ⟨b,xs,e,t,z⟩:=q1
   exact ⟨b,e,.inl ⟨⟨xs,s1.fh.lst t⟩,p _ F1 H1 s1 (Dv t z)⟩⟩
  |tup ds=>
   obtain ⟨b,xs,e,t,z⟩:=q1
   exact ⟨b,e,.inr ⟨⟨xs,s1.fh.tup t⟩,p _ F1 H1 s1 (iter_tup t z)⟩⟩
  |_=>exact (W.ns p).elim
theorem ri_rng1 {fr:ao->M (List Dat)} {R:It->Hp->Prop} (h:iD K W (sr so fr) σ H R):iRng1 (tDA K W fr) σ H R:=by
 obtain ⟨F,ρ,r,s,p⟩:=h
 refine uC r s (fun e he=>?_) fun ds hd xs F1 H1 s1 q1=>?_
 ·have z:sr so fr ρ=.error e:=by unfold sr;rw [he];rfl
  rw [z] at p;exact p
 ·have z:sr so fr ρ=so ds:=by unfold sr;rw [hd];rfl
  rw [z] at p
  match ds,q1,p with
  |[.int j],⟨v,vs,e,q,t⟩,p=>
   have p':match (if mh j=true then Except.ok (aU 0 j.toNat) else Except.error Err.stuck:M (List Dat)) with
    |.ok ds=>∀J F1 H1,Step F H F1 H1->AD K F1 J ds->R J H1
    |.error e=>W.p e F H:=p
   by_cases hj:mh j=true
   ·rw [if_pos hj] at p'
    unfold mh at hj
    simp only [Bool.and_eq_true,decide_eq_true_eq] at hj
    exact ⟨j,by rw [e,show v=.int j from q,show vs=[] from t],hj.1,hj.2,p' _ F1 H1 s1 BO⟩
   ·rw [if_neg hj] at p'
    exact (W.ns p').elim
  |[],_,p=>exact (W.ns p).elim
  |.non::_,_,p=>exact (W.ns p).elim
  |.bl _::_,_,p=>exact (W.ns p).elim
  |.str _::_,_,p=>exact (W.ns p).elim
  |.tup _::_,_,p=>exact (W.ns p).elim
  |.lst _::_,_,p=>exact (W.ns p).elim
  |.ins _ _::_,_,p=>exact (W.ns p).elim
  |.int _::_::_,_,p=>exact (W.ns p).elim
noncomputable def iF (ix:List (Option Nat)) (ρ:ao):ao:=ix.map fun o=>match o with
 |none=>none
 |some j=>(ρ[j]?).join
noncomputable def b8 (p:Pat) (ft:ao->M Bool) (fe:ao->M Dat) (ρ0:ao):List Dat->M (List Dat)
 |[]=>.ok []
 |d::ds=>(jz p d ρ0).bind fun ρ=>(ft ρ).bind fun b=>if b=true then (fe ρ).bind fun y=>(b8 p ft fe ρ0 ds).bind fun r=>.ok (y::r) else b8 p ft fe ρ0 ds
noncomputable def fK (fi:ao->M (List Dat)) (ix:List (Option Nat)) (p:Pat) (ft:ao->M Bool) (fe:ao->M Dat):ao->M Dat:=fun ρ=>(fi ρ).bind fun ds=>if ds.length<=sizeLine then (b8 p ft fe (iF ix ρ) ds).bind fun r=>.ok (.lst r) else .error .stuck
noncomputable def sq:ao->M Bool:=fun _=>.ok true
theorem r9.inS {F:Hp} {ρ:ao} (r:r9 K F σ ρ) (ix:List (Option Nat)):r9 K F (L2.inS ix σ) (iF ix ρ):=
 ⟨by simp [L2.inS,iF],fun i d e=>by
  unfold iF at e
  unfold L2.inS
  rw [List.getElem?_map] at e ⊢
  cases h:ix[i]? with
  |none=>rw [h] at e;cases e
  |some o=>
   rw [h] at e
   cases o with
   |none=>cases e
   |some j=>
    simp only [Option.map_some,Option.some.injEq] at e ⊢
    have e1:ρ[j]? =some (some d):=by
     cases z:ρ[j]? with
     |none=>rw [z] at e;cases e
     |some w=>rw [z] at e;simp at e;rw [e]
    obtain ⟨v,h1,h2⟩:=r.sl j d e1
    exact ⟨v,by rw [h1];rfl,h2⟩⟩
theorem CO {fi:ao->M (List Dat)} {ix:List (Option Nat)} {p:Pat} {ft:ao->M Bool} {fe:ao->M Dat} (h:tD K W true (fK fi ix p ft fe) σ H Q) :
  tComp (iD K W fi) ix (gP K p) (tDT K W ft) (tD K W false fe) σ H Q:=by
 obtain ⟨F,ρ,r,s,q⟩:=h
 refine ⟨F,ρ,r,s,?_⟩
 cases hf:fi ρ with
 |error e=>exact q.err (by unfold fK;rw [hf];rfl)
 |ok ds=>
  intro J F1 H1 s1 it
  have e0:fK fi ix p ft fe ρ=if ds.length<=sizeLine then (b8 p ft fe (iF ix ρ) ds).bind fun r=>.ok (.lst r) else .error .stuck:=by unfold fK;rw [hf];rfl
  rw [e0] at q
  by_cases hl:ds.length<=sizeLine
  ·rw [if_pos hl] at q
   refine ⟨fun i m ys H2=>m=ds.length-i/\i<=ds.length/\∃F2 yd,Step F1 H1 F2 H2/\aE K F2 yd ys/\yd.length<=i /\
    (match b8 p ft fe (iF ix ρ) (ds.drop i) with
     |.ok rr=>b8 p ft fe (iF ix ρ) ds=.ok (yd++rr)
     |.error e=>W.p e F H),⟨ds.length,by omega,Nat.zero_le _,F1,[],Step.refl s1.fh,rfl,Nat.zero_le _,?_⟩,?_⟩
   ·rw [List.drop_zero]
    cases e:b8 p ft fe (iF ix ρ) ds with
    |ok rr=>rfl
    |error x=>exact q.err (by rw [e];rfl)
   ·rintro i m ys H2 ⟨rfl,hi,F2,yd,s2,dy,ly,hc⟩
    have lys:ys.length<=sizeLine:=by rw [dy.length];omega
    by_cases hlt:i<ds.length
    ·have ed:ds.drop i=ds[i]::ds.drop (i+1):=List.drop_eq_getElem_cons hlt
     rw [ed] at hc
     refine .inr ⟨it.go i F2 H2 s2.ff s2.fh hlt,lys,fun ys' H'=>(i+1<=ds.length/\∃F2 yd,Step F1 H1 F2 H'/\aE K F2 yd ys'/\yd.length<=i+1 /\
      (match b8 p ft fe (iF ix ρ) (ds.drop (i+1)) with
       |.ok rr=>b8 p ft fe (iF ix ρ) ds=.ok (yd++rr)
       |.error e=>W.p e F H)),fun ys' H' n=>⟨ds.length-(i+1),by omega,rfl,n⟩,fun x H' y=>?_⟩
     obtain ⟨F3,s3,q3⟩:=it.yl i F2 H2 x H' ds[i] s2.ff s2.fh (by simp [hlt]) y
     have r3:r9 K F3 (L2.inS ix σ) (iF ix ρ):=(r.mono (s1.trans (s2.trans s3)).ff).inS ix
     have st3:Step F H F3 H':=s1.trans (s2.trans s3)
     have ec:b8 p ft fe (iF ix ρ) (ds[i]::ds.drop (i+1))=(jz p ds[i] (iF ix ρ)).bind fun ρ1=>(ft ρ1).bind fun b=>if b=true then (fe ρ1).bind fun y=>(b8 p ft fe (iF ix ρ) (ds.drop (i+1))).bind fun r=>.ok (y::r) else b8 p ft fe (iF ix ρ) (ds.drop (i+1)):=by rw [b8]
     rw [ec] at hc
     cases hb:jz p ds[i] (iF ix ρ) with
     |error e=>
      rw [hb] at hc
      have:=pX hb
      subst this
      exact (W.ns hc).elim
     |ok ρ1=>
      rw [hb] at hc
      refine gP_run r3 s3.fh q3 hb fun σ2 r4=>?_
      have hc1:match ((ft ρ1).bind fun b=>if b=true then (fe ρ1).bind fun y=>(b8 p ft fe (iF ix ρ) (ds.drop (i+1))).bind fun r=>.ok (y::r) else b8 p ft fe (iF ix ρ) (ds.drop (i+1))) with
       |.ok rr=>b8 p ft fe (iF ix ρ) ds=.ok (yd++rr)
       |.error e=>W.p e F H:=hc
      refine oS r4 s3.fh (fun e he=>by rw [he] at hc1;exact W.mono hc1 st3) fun b hb2 F5 H5 s5=>?_
      rw [hb2] at hc1
      cases b with
      |false=>
       have hc2:match b8 p ft fe (iF ix ρ) (ds.drop (i+1)) with
        |.ok rr=>b8 p ft fe (iF ix ρ) ds=.ok (yd++rr)
        |.error e=>W.p e F H:=hc1
       exact ⟨hlt,F5,yd,s2.trans (s3.trans s5),dy.mono (s3.trans s5).ff,by omega,hc2⟩
      |true=>
       have hc2:match ((fe ρ1).bind fun y=>(b8 p ft fe (iF ix ρ) (ds.drop (i+1))).bind fun r=>.ok (y::r)) with
        |.ok rr=>b8 p ft fe (iF ix ρ) ds=.ok (yd++rr)
        |.error e=>W.p e F H:=hc1
       refine bx (r4.mono s5.ff) s5.fh (fun e he=>by rw [he] at hc2;exact W.mono hc2 (st3.trans s5)) fun d hd v F6 H6 s6 q6=>?_
       rw [hd] at hc2
       refine ⟨hlt,F6,yd++[d],s2.trans (s3.trans (s5.trans s6)),aE.append (dy.mono (s3.trans (s5.trans s6)).ff) ⟨v,[],rfl,q6,rfl⟩,by simp;omega,?_⟩
       have hc3:match ((b8 p ft fe (iF ix ρ) (ds.drop (i+1))).bind fun r=>.ok (d::r):M (List Dat)) with
        |.ok rr=>b8 p ft fe (iF ix ρ) ds=.ok (yd++rr)
        |.error e=>W.p e F H:=hc2
       cases e7:b8 p ft fe (iF ix ρ) (ds.drop (i+1)) with
       |ok rr=>
        rw [e7] at hc3
        show _=Except.ok ((yd++[d])++rr)
        rw [List.append_assoc]
        exact hc3
       |error x=>rw [e7] at hc3;exact hc3
    ·have:i=ds.length:=by omega
     subst this
     rw [List.drop_length] at hc
     have hc':b8 p ft fe (iF ix ρ) ds=.ok (yd++[]):=hc
     rw [List.append_nil] at hc'
     rw [hc'] at q
     refine .inl ⟨it.st F2 H2 s2.ff s2.fh,lys,fun a ha=>?_⟩
     have st:Step F H F2 H2:=s1.trans s2
     exact q (.ref a) F2 _ (st.trans (Step.grow s2.fh ha)) ⟨a,ys,rfl,aP,s2.fh.free ha,st.hh.free ha,dy⟩
  ·rw [if_neg hl] at q
   exact (W.ns q).elim
end
inductive Flo where
 |nx (ρ:ao)|rt (d:Dat)|bk (ρ:ao)|ct (ρ:ao)
structure Rep (K:PySem.W.Frag) (F0 H0 FB:Hp) (O:List Nat) (F H:Hp) (σ:St) (ρ:ao):Prop where
 st:Step F0 H0 F H
 fb:bp FB F
 len:ρ.length=σ.length
 fz:∀(i:Nat) (d:Dat),ρ[i]? =some (some d)->i∉O->∃v,σ[i]? =some (some v)/\cW K F d v
 ow:∀(i:Nat) (d:Dat),ρ[i]? =some (some d)->i∈O->∃v,σ[i]? =some (some v)/\Ew K F H0 H d v
 ap:∀(i j:Nat) (ds es:List Dat) (a:Addr),i∈O->j∈O->ρ[i]? =some (some (.lst ds))->ρ[j]? =some (some (.lst es))->σ[i]? =some (some (.ref a))->σ[j]? =some (some (.ref a))->i=j
noncomputable def su (O O2:List Nat) (σ:St) (ρ:ao) (b:Addr):Prop:=∃(i:Nat) (ds:List Dat),i∈O/\i∉O2/\ρ[i]? =some (some (.lst ds))/\σ[i]? =some (some (.ref b))
open Classical in
noncomputable def plus (F H:Hp) (A:Addr->Prop):Hp:=fun b=>if A b then H b else F b
open Classical in
noncomputable def minus (F:Hp) (A:Addr->Prop):Hp:=fun b=>if A b then none else F b
theorem qB {F H:Hp} {A:Addr->Prop} {b:Addr} (h:A b):plus F H A b=H b:=by unfold plus;rw [if_pos h]
theorem j0 {F H:Hp} {A:Addr->Prop} {b:Addr} (h:¬A b):plus F H A b=F b:=by unfold plus;rw [if_neg h]
theorem xc {F:Hp} {A:Addr->Prop} {b:Addr} (h:A b):minus F A b=none:=by unfold minus;rw [if_pos h]
theorem mP {F:Hp} {A:Addr->Prop} {b:Addr} (h:¬A b):minus F A b=F b:=by unfold minus;rw [if_neg h]
section
variable {K:PySem.W.Frag} {F0 H0 FB F H:Hp} {O O2:List Nat} {σ:St} {ρ:ao}
theorem Rep.own (r:Rep K F0 H0 FB O F H σ ρ) {b:Addr} (h:su O O2 σ ρ b):F b=none/\H0 b=none/\∃xs,H b=some (.lst xs):=by
 obtain ⟨i,ds,hi,_,e1,e2⟩:=h
 obtain ⟨v,e3,a,xs,e,p,q,z,_⟩:=r.ow i _ e1 hi
 rw [e2] at e3
 cases e3
 cases e
 exact ⟨q,z,xs,p⟩
theorem Rep.qC (r:Rep K F0 H0 FB O F H σ ρ):bp F (plus F H (su O O2 σ ρ)):=fun b o h=>by
 by_cases hb:su O O2 σ ρ b
 ·rw [(r.own hb).1] at h;cases h
 ·rw [j0 hb];exact h
theorem Rep.nB (r:Rep K F0 H0 FB O F H σ ρ):bp (plus F H (su O O2 σ ρ)) H:=fun b o h=>by
 by_cases hb:su O O2 σ ρ b
 ·rw [qB hb] at h;exact h
 ·rw [j0 hb] at h;exact r.st.fh b o h
theorem Rep.freeze (r:Rep K F0 H0 FB O F H σ ρ) (hs:∀i∈O2,i∈O):Rep K F0 H0 FB O2 (plus F H (su O O2 σ ρ)) H σ ρ where
 st:=⟨r.st.ff.trans r.qC,r.st.hh,r.nB,fun b o h=>by
  by_cases hb:su O O2 σ ρ b
  ·exact .inr (r.own hb).2.1
  ·rw [j0 hb] at h;exact r.st.nw b o h⟩
 fb:=r.fb.trans r.qC
 len:=r.len
 fz:=fun i d e hi=>by
  by_cases ho:i∈O
  ·obtain ⟨v,e3,q⟩:=r.ow i d e ho
   refine ⟨v,e3,?_⟩
   cases d with
   |lst ds=>
    obtain ⟨a,xs,ev,p,_,_,t⟩:=q
    subst ev
    refine ⟨a,xs,rfl,SqL.of ?_,t.mono r.qC⟩
    rw [qB ⟨i,ds,ho,hi,e,e3⟩]
    exact p
   |_=>exact cW.mono r.qC q
  ·obtain ⟨v,e3,q⟩:=r.fz i d e ho
   exact ⟨v,e3,q.mono r.qC⟩
 ow:=fun i d e hi=>by
  obtain ⟨v,e3,q⟩:=r.ow i d e (hs i hi)
  refine ⟨v,e3,?_⟩
  cases d with
  |lst ds=>
   obtain ⟨a,xs,ev,p,q,z,t⟩:=q
   subst ev
   refine ⟨a,xs,rfl,p,?_,z,t.mono r.qC⟩
   have:¬su O O2 σ ρ a:=fun ⟨j,es,hj,hj2,f1,f2⟩=>by
    have:=r.ap i j ds es a (hs i hi) hj e f1 e3 f2
    subst this
    exact hj2 hi
   rw [j0 this]
   exact q
  |_=>exact cW.mono r.qC q
 ap:=fun i j ds es a hi hj=>r.ap i j ds es a (hs i hi) (hs j hj)
theorem Rep.repE (r:Rep K F0 H0 FB [] F H σ ρ):r9 K F σ ρ:=⟨r.len,fun i d e=>r.fz i d e (by simp)⟩
theorem Rep.tN (r:Rep K F0 H0 FB O F H σ ρ):r9 K (plus F H (su O [] σ ρ)) σ ρ:=(r.freeze (O2:=[]) (by simp)).repE
noncomputable def erase:List Nat->ao->ao
 |[],ρ=>ρ
 |i::is,ρ=>erase is (ρ.set i none)
theorem yQ:∀(O:List Nat) (ρ:ao),(erase O ρ).length=ρ.length
 |[],_=>rfl
 |i::is,ρ=>by rw [erase,yQ,List.length_set]
theorem yR:∀(O:List Nat) (ρ:ao) (i:Nat) (d:Dat),(erase O ρ)[i]? =some (some d)->ρ[i]? =some (some d)/\i∉O
 |[],_,_,_,h=>⟨h,by simp⟩
 |j::is,ρ,i,d,h=>by
  obtain ⟨h1,h2⟩:=yR is (ρ.set j none) i d h
  by_cases e:j=i
  ·subst e
   have hj:j<ρ.length:=by
    have:=(List.getElem?_eq_some_iff.mp h1).1
    simpa using this
   rw [List.getElem?_set_self hj] at h1
   cases h1
  ·rw [List.getElem?_set_ne e] at h1
   exact ⟨h1,by simp [h2];omega⟩
theorem Rep.um (r:Rep K F0 H0 FB O F H σ ρ):r9 K F σ (erase O ρ):=
 ⟨by rw [yQ,r.len],fun i d e=>let ⟨h1,h2⟩:=yR O ρ i d e;r.fz i d h1 h2⟩
theorem Rep.step {F1 H1:Hp} (r:Rep K F0 H0 FB O F H σ ρ) (s:Step F H F1 H1):Rep K F0 H0 FB O F1 H1 σ ρ where
 st:=r.st.trans s
 fb:=r.fb.trans s.ff
 len:=r.len
 fz:=fun i d e hi=>let ⟨v,e3,q⟩:=r.fz i d e hi;⟨v,e3,q.mono s.ff⟩
 ow:=fun i d e hi=>by
  obtain ⟨v,e3,q⟩:=r.ow i d e hi
  refine ⟨v,e3,?_⟩
  cases d with
  |lst ds=>
   obtain ⟨a,xs,ev,p,q,z,t⟩:=q
   refine ⟨a,xs,ev,s.hh _ _ p,?_,z,t.mono s.ff⟩
   cases e1:F1 a with
   |none=>rfl
   |some o=>
    rcases s.nw a o e1 with h|h
    ·rw [q] at h;cases h
    ·rw [p] at h;cases h
  |_=>exact cW.mono s.ff q
 ap:=r.ap
theorem Rep.oU {F1 H1:Hp} (r:Rep K F0 H0 FB O F H σ ρ) (s:Step (plus F H (su O [] σ ρ)) H F1 H1):Rep K F0 H0 FB O (minus F1 (su O [] σ ρ)) H1 σ ρ:=by
 refine r.step ⟨fun b o h=>?_,s.hh,fun b o h=>?_,fun b o h=>?_⟩
 ·by_cases hb:su O [] σ ρ b
  ·rw [(r.own hb).1] at h;cases h
  ·rw [mP hb];exact s.ff b o (by rw [j0 hb];exact h)
 ·by_cases hb:su O [] σ ρ b
  ·rw [xc hb] at h;cases h
  ·rw [mP hb] at h;exact s.fh b o h
 ·by_cases hb:su O [] σ ρ b
  ·rw [xc hb] at h;cases h
  ·rw [mP hb] at h
   rcases s.nw b o h with z|z
   ·rw [j0 hb] at z;exact .inl z
   ·exact .inr z
theorem Rep.vX {F1 H1:Hp} (r:Rep K F0 H0 FB O F H σ ρ) (s:Step (plus F H (su O [] σ ρ)) H F1 H1) (a:Addr) (xs:List V) (h:SqT K F1 a xs):SqT K (minus F1 (su O [] σ ρ)) a xs:=by
 have key:∀{b:Addr} {o:HO},F1 b=some o->(∀xs,o≠.lst xs)->minus F1 (su O [] σ ρ) b=some o:=fun {b o} h n=>by
  by_cases hb:su O [] σ ρ b
  ·obtain ⟨_,_,xs,e⟩:=r.own hb
   have:=s.ff b (.lst xs) (by rw [qB hb];exact e)
   rw [h] at this
   cases this
   exact absurd rfl (n xs)
  ·rw [mP hb];exact h
 rcases h with (h|⟨o,h⟩)|h
 ·exact .inl (.inl (key h (by intro xs e;cases e)))
 ·exact .inl (.inr ⟨o,key h (by intro xs e;cases e)⟩)
 ·exact .inr h
theorem Rep.set {d:Dat} {v:V} (r:Rep K F0 H0 FB O F H σ ρ) (q:cW K F d v) (i:Nat):Rep K F0 H0 FB (O.filter (· != i)) F H (σ.set i (some v)) (ρ.set i (some d)) where
 st:=r.st
 fb:=r.fb
 len:=by rw [List.length_set,List.length_set,r.len]
 fz:=fun j e h hj=>by
  by_cases hij:i=j
  ·subst hij
   have hi:i<ρ.length:=by
    have:=(List.getElem?_eq_some_iff.mp h).1
    simpa using this
   rw [List.getElem?_set_self hi] at h
   cases h
   exact ⟨v,by rw [List.getElem?_set_self (by rw [<- r.len];exact hi)],q⟩
  ·rw [List.getElem?_set_ne hij] at h
   rw [List.getElem?_set_ne hij]
   exact r.fz j e h fun z=>hj (List.mem_filter.mpr ⟨z,by simpa using Ne.symm hij⟩)
 ow:=fun j e h hj=>by
  obtain ⟨h1,h2⟩:=List.mem_filter.mp hj
  have hij:i≠j:=fun z=>by simp [z] at h2
  rw [List.getElem?_set_ne hij] at h ⊢
  exact r.ow j e h h1
 ap:=fun j k ds es a hj hk e1 e2 e3 e4=>by
  obtain ⟨j1,j2⟩:=List.mem_filter.mp hj
  obtain ⟨k1,k2⟩:=List.mem_filter.mp hk
  have hij:i≠j:=fun z=>by simp [z] at j2
  have hik:i≠k:=fun z=>by simp [z] at k2
  rw [List.getElem?_set_ne hij] at e1 e3
  rw [List.getElem?_set_ne hik] at e2 e4
  exact r.ap j k ds es a j1 k1 e1 e2 e3 e4
theorem Rep.setOwn {d:Dat} {v:V} (r:Rep K F0 H0 FB O F H σ ρ) (q:Ew K F H0 H d v) (nw:∀a,v=.ref a->(∃ds,d=.lst ds)->¬su O [i] σ ρ a):Rep K F0 H0 FB (i::O.filter (· != i)) F H (σ.set i (some v)) (ρ.set i (some d)) where
 st:=r.st
 fb:=r.fb
 len:=by rw [List.length_set,List.length_set,r.len]
 fz:=fun j e h hj=>by
  simp only [List.mem_cons,not_or] at hj
  have hij:i≠j:=fun z=>hj.1 z.symm
  rw [List.getElem?_set_ne hij] at h ⊢
  exact r.fz j e h fun z=>hj.2 (List.mem_filter.mpr ⟨z,by simpa using Ne.symm hij⟩)
 ow:=fun j e h hj=>by
  by_cases hij:i=j
  ·subst hij
   have hi:i<ρ.length:=by
    have:=(List.getElem?_eq_some_iff.mp h).1
    simpa using this
   rw [List.getElem?_set_self hi] at h
   cases h
   exact ⟨v,by rw [List.getElem?_set_self (by rw [<- r.len];exact hi)],q⟩
  ·rw [List.getElem?_set_ne hij] at h ⊢
   rcases List.mem_cons.mp hj with z|z
   ·exact absurd z.symm hij
   ·exact r.ow j e h (List.mem_filter.mp z).1
 ap:=fun j k ds es a hj hk e1 e2 e3 e4=>by
  have key:∀{k':Nat} {ds' es':List Dat},k'∈O->k'≠i->(ρ.set i (some d))[i]? =some (some (.lst ds'))->(ρ.set i (some d))[k']? =some (some (.lst es'))->(σ.set i (some v))[i]? =some (some (.ref a))->(σ.set i (some v))[k']? =some (some (.ref a))->False:=by
   intro k' ds' es' hk' hne f1 f2 f3 f4
   have hi:i<ρ.length:=by
    have:=(List.getElem?_eq_some_iff.mp f1).1
    simpa using this
   rw [List.getElem?_set_self hi] at f1
   rw [List.getElem?_set_self (by rw [<- r.len];exact hi)] at f3
   rw [List.getElem?_set_ne (Ne.symm hne)] at f2 f4
   have z1:v=.ref a:=by simpa using f3
   have z2:d=.lst ds':=by simpa using f1
   exact nw a z1 ⟨ds',z2⟩ ⟨k',es',hk',by simpa using hne,f2,f4⟩
  rcases List.mem_cons.mp hj with zj|zj
  ·rcases List.mem_cons.mp hk with zk|zk
   ·rw [zj,zk]
   ·obtain ⟨k1,k2⟩:=List.mem_filter.mp zk
    subst zj
    exact (key k1 (by simpa using k2) e1 e2 e3 e4).elim
  ·obtain ⟨j1,j2⟩:=List.mem_filter.mp zj
   have hij:i≠j:=fun z=>by simp [z] at j2
   rcases List.mem_cons.mp hk with zk|zk
   ·subst zk
    exact (key j1 (Ne.symm hij) e2 e1 e4 e3).elim
   ·obtain ⟨k1,k2⟩:=List.mem_filter.mp zk
    have hik:i≠k:=fun z=>by simp [z] at k2
    rw [List.getElem?_set_ne hij] at e1 e3
    rw [List.getElem?_set_ne hik] at e2 e4
    exact r.ap j k ds es a j1 k1 e1 e2 e3 e4
end
section
variable {K:PySem.W.Frag} {F0 H0 FB F H:Hp} {O O2:List Nat} {σ:St} {ρ:ao}
theorem Rep.mF {F1 H1:Hp} (r:Rep K F0 H0 FB O F H σ ρ) (s:Step (plus F H (su O [] σ ρ)) H F1 H1):bp F (minus F1 (su O [] σ ρ)):=fun b o h=>by
 by_cases hb:su O [] σ ρ b
 ·rw [(r.own hb).1] at h;cases h
 ·rw [mP hb];exact s.ff b o (by rw [j0 hb];exact h)
theorem BX {i:Nat} {O:List Nat} (h:i∉O):O.filter (· != i)=O:=by
 rw [List.filter_eq_self]
 intro a ha
 simp
 intro e
 exact h (e▸ha)
theorem Rep.set' {d:Dat} {v:V} (r:Rep K F0 H0 FB O F H σ ρ) (q:cW K F d v) {i:Nat} (hi:i∉O):Rep K F0 H0 FB O F H (σ.set i (some v)) (ρ.set i (some d)):=by
 have:=r.set q i
 rw [BX hi] at this
 exact this
theorem Rep.base {FB':Hp} (r:Rep K F0 H0 FB O F H σ ρ) (s:bp FB' FB):Rep K F0 H0 FB' O F H σ ρ:=⟨r.st,s.trans r.fb,r.len,r.fz,r.ow,r.ap⟩
theorem Rep.write {i:Nat} {a:Addr} {ds ds':List Dat} {xs':List V} (r:Rep K F0 H0 FB O F H σ ρ) (hi:i∈O) (e1:ρ[i]? =some (some (.lst ds))) (e2:σ[i]? =some (some (.ref a))) (q:aE K F ds' xs'):Rep K F0 H0 FB O F (upd H a (.lst xs')) σ (ρ.set i (some (.lst ds'))):=by
 have ho:F a=none/\H0 a=none/\∃xs,H a=some (.lst xs):=r.own (O2:=[]) ⟨i,ds,hi,by simp,e1,e2⟩
 have hil:i<ρ.length:=(List.getElem?_eq_some_iff.mp e1).1
 refine ⟨⟨r.st.ff,fun b o h=>?_,fun b o h=>?_,r.st.nw⟩,r.fb,by rw [List.length_set,r.len],fun j e h hj=>?_,fun j e h hj=>?_,fun j k es fs b hj hk f1 f2 f3 f4=>?_⟩
 ·rw [aL (ba h ho.2.1)];exact r.st.hh b o h
 ·rw [aL (ba h ho.1)];exact r.st.fh b o h
 ·have hij:i≠j:=fun z=>hj (z▸hi)
  rw [List.getElem?_set_ne hij] at h
  exact r.fz j e h hj
 ·by_cases hij:i=j
  ·subst hij
   rw [List.getElem?_set_self hil] at h
   cases h
   exact ⟨.ref a,e2,a,xs',rfl,aP,ho.1,ho.2.1,q⟩
  ·rw [List.getElem?_set_ne hij] at h
   obtain ⟨v,e3,z⟩:=r.ow j e h hj
   refine ⟨v,e3,?_⟩
   cases e with
   |lst es=>
    obtain ⟨b,ys,ev,p,q1,q2,t⟩:=z
    subst ev
    have hab:b≠a:=fun z=>by
     subst z
     exact hij (r.ap i j ds es b hi hj e1 h e2 e3)
    exact ⟨b,ys,rfl,by rw [aL hab];exact p,q1,q2,t⟩
   |_=>exact z
 ·have fix:∀{j:Nat} {es:List Dat},(ρ.set i (some (.lst ds')))[j]? =some (some (.lst es))->∃es',ρ[j]? =some (some (.lst es')):=fun {j es} f=>by
   by_cases hij:i=j
   ·subst hij;exact ⟨ds,e1⟩
   ·rw [List.getElem?_set_ne hij] at f;exact ⟨es,f⟩
  obtain ⟨es',g1⟩:=fix f1
  obtain ⟨fs',g2⟩:=fix f2
  exact r.ap j k es' fs' b hj hk g1 g2 f3 f4
noncomputable def Pat.names:Pat->List Nat
 |.nm i=>[i]
 |.tp is=>is
theorem wa {R:St->Hp->Prop}:∀{is:List Nat} {ds:List Dat} {vs:List V} {σ:St} {ρ:ao},Rep K F0 H0 FB O F H σ ρ->(∀i∈is,i∉O)->aE K F ds vs->ds.length=is.length->(∀σ',Rep K F0 H0 FB O F H σ' (oV is ds ρ)->R σ' H)->lM is vs σ H R
 |[],[],_,σ,ρ,r,_,q,_,h=>⟨q,h σ r⟩
 |[],_::_,_,_,_,_,_,_,e,_=>by simp at e
 |_::_,[],_,_,_,_,_,_,e,_=>by simp at e
 |i::is,d::ds,_,σ,ρ,r,n,⟨v,vs,e,q,t⟩,l,h=>⟨v,vs,e,wa (r.set' q (n i (by simp))) (fun j hj=>n j (by simp [hj])) t (by simpa using l) h⟩
theorem DL {R:St->Hp->Prop} {p:Pat} {d:Dat} {v:V} {ρ':ao} (r:Rep K F0 H0 FB O F H σ ρ) (n:∀i∈p.names,i∉O) (q:cW K F d v) (e:jz p d ρ=.ok ρ') (h:∀σ',Rep K F0 H0 FB O F H σ' ρ'->R σ' H):gP K p v σ H R:=by
 cases p with
 |nm i=>
  have:=Except.ok.inj e
  subst this
  exact h _ (r.set' q (n i (by simp [Pat.names])))
 |tp is=>
  cases d with
  |tup ds=>
   have e':(if ds.length=is.length then Except.ok (oV is ds ρ) else Except.error Err.stuck)=Except.ok ρ':=e
   by_cases hl:ds.length=is.length
   ·rw [if_pos hl] at e'
    have:=Except.ok.inj e'
    subst this
    obtain ⟨a,xs,ev,t,z⟩:=q
    exact ⟨a,xs,ev,r.st.fh.tup t,by rw [z.length,hl],wa r n z hl h⟩
   ·rw [if_neg hl] at e'
    cases e'
  |_=>cases e
end
noncomputable def lq (K:PySem.W.Frag) (W:iV) (ro:Bool) (F0 H0 FB:Hp) (OL O':List Nat) (D:Ends) (r:M Flo):Prop:=match r with
 |.ok (.nx ρ)=>∀σ F H,Rep K F0 H0 FB O' F H σ ρ->D.nx σ H
 |.ok (.rt d)=>∀v F H,Step F0 H0 F H->Val K ro F H0 H d v->D.rt v H
 |.ok (.bk ρ)=>∀σ F H,Rep K F0 H0 FB OL F H σ ρ->D.bk σ H
 |.ok (.ct ρ)=>∀σ F H,Rep K F0 H0 FB OL F H σ ρ->D.ct σ H
 |.error e=>W.p e F0 H0
noncomputable def tS (K:PySem.W.Frag) (W:iV) (ro:Bool) (F0 H0:Hp) (OL O O':List Nat) (g:ao->M Flo):TS:=fun D σ H=>∃FB F ρ,Rep K F0 H0 FB O F H σ ρ/\lq K W ro F0 H0 FB OL O' D (g ρ)
noncomputable def eh:ao->M Flo:=fun ρ=>.ok (.nx ρ)
noncomputable def aO (g h:ao->M Flo):ao->M Flo:=fun ρ=>(g ρ).bind fun fl=>match fl with
 |.nx ρ'=>h ρ'
 |fl=>.ok fl
noncomputable def sIf (ft:ao->M Bool) (g h:ao->M Flo):ao->M Flo:=fun ρ=>(ft ρ).bind fun b=>if b=true then g ρ else h ρ
noncomputable def tj:Bool->Dat->Bool
 |true,.lst ds=>v7 ds
 |_,d=>lp d
noncomputable def uE (own:Bool) (i:Nat) (f:ao->M Dat):ao->M Flo:=fun ρ=>(f ρ).bind fun d=>if tj own d=true then .ok (.nx (ρ.set i (some d))) else .error .stuck
noncomputable def aD (O:List Nat) (i:Nat) (f:ao->M Dat):ao->M Flo:=fun ρ=>(f (erase O ρ)).bind fun d=>.ok (.nx (ρ.set i (some d)))
noncomputable def sC (O:List Nat) (p:Pat) (f:ao->M Dat):ao->M Flo:=fun ρ=>(f (erase O ρ)).bind fun d=>(jz p d ρ).bind fun ρ'=>.ok (.nx ρ')
noncomputable def jC (ρ:ao) (i:Nat):M (List Dat):=match ρ[i]? with
 |some (some (.lst ds))=>.ok ds
 |_=>.error .stuck
noncomputable def put (ρ:ao) (i:Nat) (ds:List Dat):M Flo:=.ok (.nx (ρ.set i (some (.lst ds))))
noncomputable def yo (i:Nat) (f:ao->M Dat):ao->M Flo:=fun ρ=>(jC ρ i).bind fun ds=>(f ρ).bind fun d=>if (lp d&&decide (ds.length<sizeLine))=true then put ρ i (ds++[d]) else .error .stuck
noncomputable def mi (O:List Nat) (i:Nat) (f:ao->M Dat):ao->M Flo:=fun ρ=>(jC ρ i).bind fun ds=>(f (erase O ρ)).bind fun d=>if ds.length<sizeLine then put ρ i (ds++[d]) else .error .stuck
noncomputable def asI:Dat->M Int
 |.int i=>.ok i
 |_=>.error .stuck
noncomputable def zF (i:Nat) (fi f:ao->M Dat):ao->M Flo:=fun ρ=>(f ρ).bind fun d=>(jC ρ i).bind fun ds=>(fi ρ).bind fun k=>(asI k).bind fun k=>if lp d=true then (match ixN ds.length k with
 |some j=>put ρ i (ds.set j d)
 |none=>.error .stuck) else .error .stuck
noncomputable def cQ (f:ao->M Dat):ao->M Flo:=fun ρ=>(f ρ).bind fun d=>.ok (.rt d)
noncomputable def isL:Dat->Bool
 |.lst _=>true
 |_=>false
noncomputable def nj (p:Pat) (g:ao->M Flo):List Dat->ao->M Flo
 |[],ρ=>.ok (.nx ρ)
 |d::ds,ρ=>(jz p d ρ).bind fun ρ1=>(g ρ1).bind fun fl=>match fl with
  |.nx ρ2=>nj p g ds ρ2
  |.ct ρ2=>nj p g ds ρ2
  |.bk ρ2=>.ok (.nx ρ2)
  |.rt d=>.ok (.rt d)
noncomputable def tM (O:List Nat) (fi:ao->M (List Dat)) (p:Pat) (g:ao->M Flo):ao->M Flo:=fun ρ=>(fi (erase O ρ)).bind fun ds=>nj p g ds ρ
noncomputable def cw (ft:ao->M Bool) (g:ao->M Flo):Nat->ao->M Flo
 |0,_=>.error .stuck
 |n+1,ρ=>(ft ρ).bind fun b=>if b=true then (g ρ).bind fun fl=>match fl with
  |.nx ρ2=>cw ft g n ρ2
  |.ct ρ2=>cw ft g n ρ2
  |.bk ρ2=>.ok (.nx ρ2)
  |.rt d=>.ok (.rt d) else .ok (.nx ρ)
section
variable {K:PySem.W.Frag} {W:iV} {ro own:Bool} {F0 H0 FB F H:Hp} {OL O O' O2:List Nat} {D:Ends} {σ:St} {ρ:ao} {g h:ao->M Flo} {f fi:ao->M Dat} {ft:ao->M Bool}
theorem lq.err {x:M Flo} {e:Err} (p:lq K W ro F0 H0 FB OL O' D x) (h:x=.error e):W.p e F0 H0:=by rw [h] at p;exact p
theorem lq.qr {x:M Flo} {e:Err} (p:lq K W ro F0 H0 FB OL O' D x) (s:Step F0 H0 F H) (h:x=.error e):W.p e F H:=W.mono (p.err h) s
theorem lq.stuck {x:M Flo} {P:Prop} (p:lq K W ro F0 H0 FB OL O' D x) (h:x=.error .stuck):P:=(W.ns (p.err h)).elim
theorem tS.enter (hs:∀i∈O2,i∈O) (t:tS K W ro F0 H0 OL O O' g D σ H):tS K W ro F0 H0 OL O2 O' g D σ H:=by
 obtain ⟨FB,F,ρ,r,p⟩:=t
 exact ⟨FB,_,ρ,r.freeze hs,p⟩
theorem rs_next (t:tS K W ro F0 H0 OL O O eh D σ H):tNext D σ H:=by
 obtain ⟨FB,F,ρ,r,p⟩:=t
 exact p σ F H r
theorem rs_seq (t:tS K W ro F0 H0 OL O O2 (aO g h) D σ H):tSeq (tS K W ro F0 H0 OL O O' g) (tS K W ro F0 H0 OL O' O2 h) D σ H:=by
 obtain ⟨FB,F,ρ,r,p⟩:=t
 refine ⟨FB,F,ρ,r,?_⟩
 unfold aO at p
 cases e:g ρ with
 |error x=>exact p.err (by rw [e];rfl)
 |ok fl=>
  rw [e] at p
  cases fl with
  |nx ρ'=>exact fun σ' F' H' r'=>⟨FB,F',ρ',r',p⟩
  |rt d=>exact p
  |bk ρ'=>exact p
  |ct ρ'=>exact p
theorem rs_if (t:tS K W ro F0 H0 OL O O' (sIf ft g h) D σ H):tIfS (tDT K W ft) (tS K W ro F0 H0 OL O O' g) (tS K W ro F0 H0 OL O O' h) D σ H:=by
 obtain ⟨FB,F,ρ,r,p⟩:=t
 refine oS r.tN r.nB (fun e he=>p.qr (r.freeze (O2:=[]) (by simp)).st (by unfold sIf;rw [he];rfl)) fun b hb F1 H1 s1=>?_
 have z:sIf ft g h ρ=if b=true then g ρ else h ρ:=by unfold sIf;rw [hb];rfl
 rw [z] at p
 cases b with
 |true=>exact ⟨FB,_,ρ,r.oU s1,p⟩
 |false=>exact ⟨FB,_,ρ,r.oU s1,p⟩
noncomputable def aft (own:Bool) (i:Nat) (O:List Nat):List Nat:=if own=true then i::O.filter (· != i) else O.filter (· != i)
theorem Rep.bindV {i:Nat} {d:Dat} {v:V} {H2:Hp} (r:Rep K F0 H0 FB O F H σ ρ) (q:Val K own F H2 H d v) (h2:bp H0 H2) (nw:∀a,su O [] σ ρ a->∃o,H2 a=some o):Rep K F0 H0 FB (aft own i O) F H (σ.set i (some v)) (ρ.set i (some d)):=by
 cases own with
 |false=>exact r.set q i
 |true=>
  refine r.setOwn (Ew.back h2 q) fun a ha ⟨ds,hd⟩ z=>?_
  subst ha hd
  obtain ⟨b,xs,e,_,_,n,_⟩:=q
  cases e
  obtain ⟨j,es,h1,h2,h3,h4⟩:=z
  obtain ⟨o,ho⟩:=nw a ⟨j,es,h1,by simp,h3,h4⟩
  rw [n] at ho
  cases ho
theorem CM {i:Nat} (t:tS K W ro F0 H0 OL O (aft own i O) (aD O i f) D σ H):CF (tD K W own f) (vH i) D σ H:=by
 obtain ⟨FB,F,ρ,r,p⟩:=t
 refine bx r.um r.st.fh (fun e he=>p.qr r.st (by unfold aD;rw [he];rfl)) fun d hd v F1 H1 s1 q=>?_
 have z:aD O i f ρ=.ok (.nx (ρ.set i (some d))):=by unfold aD;rw [hd];rfl
 rw [z] at p
 exact p _ F1 H1 ((r.step s1).bindV q r.st.hh fun a ha=>let ⟨_,_,xs,e⟩:=r.own ha;⟨_,e⟩)
theorem Rep.flatV {F1 H1:Hp} {d:Dat} {v:V} (r:Rep K F0 H0 FB O F H σ ρ) (s:Step (plus F H (su O [] σ ρ)) H F1 H1) (q:Val K own F1 H H1 d v) (fl:tj own d=true):Val K own (minus F1 (su O [] σ ρ)) H H1 d v:=by
 have none_of:∀{a:Addr},F1 a=none->minus F1 (su O [] σ ρ) a=none:=fun {a} h=>by
  by_cases hb:su O [] σ ρ a
  ·exact xc hb
  ·rw [mP hb];exact h
 cases own with
 |false=>exact cW.flat (r.vX s) (by cases d<;>exact fl) q
 |true=>
  cases d with
  |lst ds=>
   obtain ⟨a,xs,e,p,n,z,t⟩:=q
   exact ⟨a,xs,e,p,none_of n,z,t.flat (r.vX s) fl⟩
  |non=>exact q
  |bl b=>exact q
  |int i=>exact q
  |str x=>exact q
  |tup ds=>exact cW.flat (d:=.tup ds) (r.vX s) fl q
  |ins C fs=>exact cW.flat (d:=.ins C fs) (r.vX s) fl q
theorem rs_setA {i:Nat} (t:tS K W ro F0 H0 OL O (aft own i O) (uE own i f) D σ H):CF (tD K W own f) (vH i) D σ H:=by
 obtain ⟨FB,F,ρ,r,p⟩:=t
 refine bx r.tN r.nB (fun e he=>p.qr (r.freeze (O2:=[]) (by simp)).st (by unfold uE;rw [he];rfl)) fun d hd v F1 H1 s1 q=>?_
 have z:uE own i f ρ=if tj own d=true then .ok (.nx (ρ.set i (some d))) else .error .stuck:=by unfold uE;rw [hd];rfl
 rw [z] at p
 by_cases hf:tj own d=true
 ·rw [if_pos hf] at p
  exact p _ _ H1 ((r.oU s1).bindV (r.flatV s1 q hf) r.st.hh fun a ha=>let ⟨_,_,xs,e⟩:=r.own ha;⟨_,e⟩)
 ·rw [if_neg hf] at p
  exact p.stuck rfl
theorem rs_unpB {pt:Pat} (n:∀i∈pt.names,i∉O) (t:tS K W ro F0 H0 OL O O (sC O pt f) D σ H):CF (tD K W false f) (gP K pt) D σ H:=by
 obtain ⟨FB,F,ρ,r,p⟩:=t
 refine bx r.um r.st.fh (fun e he=>p.qr r.st (by unfold sC;rw [he];rfl)) fun d hd v F1 H1 s1 q=>?_
 have z:sC O pt f ρ=(jz pt d ρ).bind fun ρ'=>.ok (.nx ρ'):=by unfold sC;rw [hd];rfl
 rw [z] at p
 cases e:jz pt d ρ with
 |error x=>
  have:=pX e
  subst this
  exact p.stuck (by rw [e];rfl)
 |ok ρ'=>
  rw [e] at p
  exact DL (r.step s1) n q e fun σ' r'=>p σ' F1 H1 r'
theorem lH {i:Nat} {ds:List Dat} (h:jC ρ i=.ok ds):ρ[i]? =some (some (.lst ds)):=by
 unfold jC at h
 split at h
 ·cases h;assumption
 ·cases h
theorem pq {i:Nat} {e:Err} (h:jC ρ i=.error e):e=.stuck:=by
 unfold jC at h
 split at h
 ·cases h
 ·cases h;rfl
theorem Rep.AZ {i:Nat} {ds:List Dat} (r:Rep K F0 H0 FB O F H σ ρ) (hi:i∈O) (e:ρ[i]? =some (some (.lst ds))):∃a xs,σ[i]? =some (some (.ref a))/\H a=some (.lst xs)/\aE K F ds xs:=by
 obtain ⟨v,e3,a,xs,ev,p,_,_,t⟩:=r.ow i _ e hi
 subst ev
 exact ⟨a,xs,e3,p,t⟩
noncomputable def tApp (K:PySem.W.Frag) (i:Nat) (te:TE):TS:=tDrop (tBM K "list" CQ (tVar i) (zB te tNil))
theorem rs_appB {i:Nat} (hi:i∈O) (t:tS K W ro F0 H0 OL O O (mi O i f) D σ H):tApp K i (tD K W false f) D σ H:=by
 obtain ⟨FB,F,ρ,r,p⟩:=t
 cases hl:jC ρ i with
 |error e=>
  have:=pq hl
  subst this
  exact p.stuck (by unfold mi;rw [hl];rfl)
 |ok ds=>
  obtain ⟨a,xs,e2,ha,z⟩:=r.AZ hi (lH hl)
  refine ⟨.ref a,e2,wC ha,?_⟩
  refine bx r.um r.st.fh (fun e he=>p.qr r.st (by unfold mi;rw [hl];show (f (erase O ρ)).bind _=_;rw [he];rfl)) fun d hd v F1 H1 s1 q=>?_
  have ez:mi O i f ρ=if ds.length<sizeLine then put ρ i (ds++[d]) else .error .stuck:=by unfold mi;rw [hl];show (f (erase O ρ)).bind _=_;rw [hd];rfl
  rw [ez] at p
  by_cases hs:ds.length<sizeLine
  ·rw [if_pos hs] at p
   exact ⟨a,xs,v,rfl,rfl,s1.hh _ _ ha,by rw [z.length];exact hs,p σ F1 _ ((r.step s1).write hi (lH hl) e2 (aE.append (z.mono s1.ff) ⟨v,[],rfl,q,rfl⟩))⟩
  ·rw [if_neg hs] at p
   exact p.stuck rfl
theorem rs_appA {i:Nat} (hi:i∈O) (t:tS K W ro F0 H0 OL O O (yo i f) D σ H):tApp K i (tD K W false f) D σ H:=by
 obtain ⟨FB,F,ρ,r,p⟩:=t
 cases hl:jC ρ i with
 |error e=>
  have:=pq hl
  subst this
  exact p.stuck (by unfold yo;rw [hl];rfl)
 |ok ds=>
  obtain ⟨a,xs,e2,ha,z⟩:=r.AZ hi (lH hl)
  refine ⟨.ref a,e2,wC ha,?_⟩
  refine bx r.tN r.nB (fun e he=>p.qr (r.freeze (O2:=[]) (by simp)).st (by unfold yo;rw [hl];show (f ρ).bind _=_;rw [he];rfl)) fun d hd v F1 H1 s1 q=>?_
  have ez:yo i f ρ=if (lp d&&decide (ds.length<sizeLine))=true then put ρ i (ds++[d]) else .error .stuck:=by unfold yo;rw [hl];show (f ρ).bind _=_;rw [hd];rfl
  rw [ez] at p
  by_cases hs:(lp d&&decide (ds.length<sizeLine))=true
  ·rw [if_pos hs] at p
   simp only [Bool.and_eq_true,decide_eq_true_eq] at hs
   exact ⟨a,xs,v,rfl,rfl,s1.hh _ _ ha,by rw [z.length];exact hs.2,p σ _ _ ((r.oU s1).write hi (lH hl) e2 (aE.append (z.mono (r.mF s1)) ⟨v,[],rfl,cW.flat (r.vX s1) hs.1 q,rfl⟩))⟩
  ·rw [if_neg hs] at p
   exact p.stuck rfl
theorem rs_setI {i:Nat} (hi:i∈O) (t:tS K W ro F0 H0 OL O O (zF i fi f) D σ H):CF (tD K W false f) (gSub (tVar i) (tD K W false fi) rSetL) D σ H:=by
 obtain ⟨FB,F,ρ,r,p⟩:=t
 refine bx r.tN r.nB (fun e he=>p.qr (r.freeze (O2:=[]) (by simp)).st (by unfold zF;rw [he];rfl)) fun d hd v F1 H1 s1 q=>?_
 have ez:zF i fi f ρ=(jC ρ i).bind fun ds=>(fi ρ).bind fun k=>(asI k).bind fun k=>if lp d=true then (match ixN ds.length k with
  |some j=>put ρ i (ds.set j d)
  |none=>.error .stuck) else .error .stuck:=by unfold zF;rw [hd];rfl
 rw [ez] at p
 cases hl:jC ρ i with
 |error e=>
  have:=pq hl
  subst this
  exact p.stuck (by rw [hl];rfl)
 |ok ds=>
  rw [hl] at p
  have p:lq K W ro F0 H0 FB OL O D ((fi ρ).bind fun k=>(asI k).bind fun k=>if lp d=true then (match ixN ds.length k with
   |some j=>put ρ i (ds.set j d)
   |none=>.error .stuck) else .error .stuck):=p
  have r1:=r.oU s1
  obtain ⟨a,xs,e2,ha,z⟩:=r1.AZ hi (lH hl)
  refine ⟨.ref a,e2,?_⟩
  refine bx r1.tN r1.nB (fun e he=>p.qr (r1.freeze (O2:=[]) (by simp)).st (by rw [he];rfl)) fun k hk w F2 H2 s2 q2=>?_
  rw [hk] at p
  cases k with
  |int k=>
   have p:lq K W ro F0 H0 FB OL O D (if lp d=true then (match ixN ds.length k with
    |some j=>put ρ i (ds.set j d)
    |none=>.error .stuck) else .error .stuck):=p
   by_cases hf:lp d=true
   ·rw [if_pos hf] at p
    cases hj:ixN ds.length k with
    |none=>rw [hj] at p;exact p.stuck rfl
    |some j=>
     rw [hj] at p
     refine ⟨a,xs,k,j,rfl,q2,s2.hh _ _ ha,by rw [z.length];exact hj,?_⟩
     have qd:cW K (minus F1 (su O [] σ ρ)) d v:=cW.flat (r.vX s1) hf q
     exact p σ _ _ ((r1.oU s2).write hi (lH hl) e2 (aE.set (qd.mono (r1.mF s2)) j (z.mono (r1.mF s2))))
   ·rw [if_neg hf] at p
    exact p.stuck rfl
  |_=>exact p.stuck rfl
theorem rs_ret (t:tS K W ro F0 H0 OL O O' (cQ f) D σ H):tRet (tD K W ro f) D σ H:=by
 obtain ⟨FB,F,ρ,r,p⟩:=t
 have rf:=r.freeze (O2:=[]) (by simp)
 refine bx r.tN r.nB (fun e he=>p.qr rf.st (by unfold cQ;rw [he];rfl)) fun d hd v F1 H1 s1 q=>?_
 have z:cQ f ρ=.ok (.rt d):=by unfold cQ;rw [hd];rfl
 rw [z] at p
 exact p v F1 H1 (rf.st.trans s1) (q.back r.st.hh)
theorem rs_for {fs:ao->M (List Dat)} {pt:Pat} (n:∀i∈pt.names,i∉O) (t:tS K W ro F0 H0 OL O O (tM O fs pt g) D σ H):tFor (iD K W fs) (gP K pt) (tS K W ro F0 H0 O O O g) D σ H:=by
 obtain ⟨FB,F,ρ,r,p⟩:=t
 refine ⟨F,erase O ρ,r.um,r.st.fh,?_⟩
 cases e:fs (erase O ρ) with
 |error x=>exact p.qr r.st (by unfold tM;rw [e];rfl)
 |ok ds=>
  have z:tM O fs pt g ρ=nj pt g ds ρ:=by unfold tM;rw [e];rfl
  rw [z] at p
  intro J F1 H1 s1 it
  refine ⟨fun i m σ H=>∃F ρ,Rep K F0 H0 F1 O F H σ ρ/\i<=ds.length/\m=ds.length-i/\lq K W ro F0 H0 FB OL O D (nj pt g (ds.drop i) ρ),⟨ds.length,F1,ρ,?_,Nat.zero_le _,by omega,by rw [List.drop_zero];exact p⟩,?_⟩
  ·have r1:=r.step s1
   exact ⟨r1.st,bp.refl _,r1.len,r1.fz,r1.ow,r1.ap⟩
  ·rintro i m σ2 H2 ⟨F2,ρ2,r2,hi,rfl,p2⟩
   by_cases hlt:i<ds.length
   ·have ed:ds.drop i=ds[i]::ds.drop (i+1):=List.drop_eq_getElem_cons hlt
    rw [ed] at p2
    refine .inr ⟨it.go i F2 H2 r2.fb r2.st.fh hlt,fun σ' H'=>(∃F ρ,Rep K F0 H0 F1 O F H' σ' ρ/\lq K W ro F0 H0 FB OL O D (nj pt g (ds.drop (i+1)) ρ)),fun σ' H' ⟨F,ρ,r,p⟩=>⟨ds.length-(i+1),by omega,F,ρ,r,hlt,rfl,p⟩,fun x H' y=>?_⟩
    obtain ⟨F3,s3,q3⟩:=it.yl i F2 H2 x H' ds[i] r2.fb r2.st.fh (by simp [hlt]) y
    have ef:nj pt g (ds[i]::ds.drop (i+1)) ρ2=(jz pt ds[i] ρ2).bind fun ρ1=>(g ρ1).bind fun fl=>match fl with
     |.nx ρ2=>nj pt g (ds.drop (i+1)) ρ2
     |.ct ρ2=>nj pt g (ds.drop (i+1)) ρ2
     |.bk ρ2=>.ok (.nx ρ2)
     |.rt d=>.ok (.rt d):=by rw [nj]
    rw [ef] at p2
    cases eb:jz pt ds[i] ρ2 with
    |error x=>
     have:=pX eb
     subst this
     exact p2.stuck (by rw [eb];rfl)
    |ok ρ3=>
     rw [eb] at p2
     have p2:lq K W ro F0 H0 FB OL O D ((g ρ3).bind fun fl=>match fl with
      |.nx ρ2=>nj pt g (ds.drop (i+1)) ρ2
      |.ct ρ2=>nj pt g (ds.drop (i+1)) ρ2
      |.bk ρ2=>.ok (.nx ρ2)
      |.rt d=>.ok (.rt d)):=p2
     refine DL (r2.step s3) n q3 eb fun σ4 r4=>⟨F1,F3,ρ3,r4,?_⟩
     have fb1:bp FB F1:=(r.step s1).fb
     cases eg:g ρ3 with
     |error x=>exact p2.err (by rw [eg];rfl)
     |ok fl=>
      rw [eg] at p2
      cases fl with
      |nx ρ5=>exact fun σ' F' H' r'=>⟨F',ρ5,r',p2⟩
      |ct ρ5=>exact fun σ' F' H' r'=>⟨F',ρ5,r',p2⟩
      |bk ρ5=>exact fun σ' F' H' r'=>p2 σ' F' H' (r'.base fb1)
      |rt d=>exact p2
   ·have:i=ds.length:=by omega
    subst this
    rw [List.drop_length] at p2
    exact .inl ⟨it.st F2 H2 r2.fb r2.st.fh,p2 σ2 F2 H2 (r2.base (r.step s1).fb)⟩
theorem rs_while {m:Nat} (t:tS K W ro F0 H0 OL O O (cw ft g m) D σ H):tWhile (tDT K W ft) (tS K W ro F0 H0 O O O g) D σ H:=by
 refine ⟨fun m σ H=>tS K W ro F0 H0 OL O O (cw ft g m) D σ H,⟨m,t⟩,?_⟩
 rintro m σ H ⟨FB,F,ρ,r,p⟩
 cases m with
 |zero=>exact p.stuck rfl
 |succ m=>
  have ez:cw ft g (m+1) ρ=(ft ρ).bind fun b=>if b=true then (g ρ).bind fun fl=>match fl with
   |.nx ρ2=>cw ft g m ρ2
   |.ct ρ2=>cw ft g m ρ2
   |.bk ρ2=>.ok (.nx ρ2)
   |.rt d=>.ok (.rt d) else .ok (.nx ρ):=by rw [cw]
  rw [ez] at p
  refine oS r.tN r.nB (fun e he=>p.qr (r.freeze (O2:=[]) (by simp)).st (by rw [he];rfl)) fun b hb F1 H1 s1=>?_
  rw [hb] at p
  have r1:=r.oU s1
  cases b with
  |false=>exact p σ _ H1 r1
  |true=>
   have p:lq K W ro F0 H0 FB OL O D ((g ρ).bind fun fl=>match fl with
    |.nx ρ2=>cw ft g m ρ2
    |.ct ρ2=>cw ft g m ρ2
    |.bk ρ2=>.ok (.nx ρ2)
    |.rt d=>.ok (.rt d)):=p
   refine ⟨fun σ' H'=>tS K W ro F0 H0 OL O O (cw ft g m) D σ' H',fun σ' H' n=>⟨m,Nat.lt_succ_self _,n⟩,FB,_,ρ,r1,?_⟩
   cases eg:g ρ with
   |error x=>exact p.err (by rw [eg];rfl)
   |ok fl=>
    rw [eg] at p
    cases fl with
    |nx ρ5=>exact fun σ' F' H' r'=>⟨FB,F',ρ5,r',p⟩
    |ct ρ5=>exact fun σ' F' H' r'=>⟨FB,F',ρ5,r',p⟩
    |bk ρ5=>exact fun σ' F' H' r'=>p σ' F' H' r'
    |rt d=>exact p
end
noncomputable def stk {α:Type}:M α:=.error .stuck
noncomputable def fG:Dat->Dat->M Dat
 |.int i,.int j=>.ok (.int (i+j))
 |.str x,.str y=>if x.length+y.length<=sizeLine then .ok (.str (x++y)) else stk
 |.lst xs,.lst ys=>if xs.length+ys.length<=sizeLine then .ok (.lst (xs++ys)) else stk
 |.tup xs,.tup ys=>if xs.length+ys.length<=sizeLine then .ok (.tup (xs++ys)) else stk
 |_,_=>stk
noncomputable def zw:Dat->Dat->M Dat
 |.int i,.int j=>.ok (.int (i-j))
 |_,_=>stk
noncomputable def gX (i:Int):Bool:=decide (-(2^64)<i)&&decide (i<2^64)
noncomputable def vt:Dat->Dat->M Dat
 |.int i,.int j=>if (gX i||gX j)=true then .ok (.int (i*j)) else stk
 |_,_=>stk
noncomputable def ck:Dat->Dat->M Dat
 |.int i,.int j=>if (decide (0<j)&&decide (j<18446744073709551616))=true then .ok (.int (i/j)) else stk
 |_,_=>stk
noncomputable def jA:Dat->Dat->M Dat
 |.int i,.int j=>if 0<j then .ok (.int (i%j)) else stk
 |_,_=>stk
noncomputable def wO:Dat->Dat->M Dat
 |.int i,.int j=>if (decide (0<=j)&&decide (j<=1000000)&&decide (i.natAbs<2^64))=true then .ok (.int (i^j.toNat)) else stk
 |_,_=>stk
noncomputable def negD:Dat->M Dat
 |.int i=>.ok (.int (-i))
 |_=>stk
noncomputable def ltD:Dat->Dat->M Dat
 |.int i,.int j=>.ok (.bl (decide (i<j)))
 |_,_=>stk
noncomputable def leD:Dat->Dat->M Dat
 |.int i,.int j=>.ok (.bl (decide (i<=j)))
 |_,_=>stk
noncomputable def gtD:Dat->Dat->M Dat
 |.int i,.int j=>.ok (.bl (decide (j<i)))
 |_,_=>stk
noncomputable def b2z (b:Bool):Int:=if b then 1 else 0
mutual
noncomputable def eqD:Dat->Dat->Bool
 |.non,.non=>true
 |.bl a,.bl b=>a==b
 |.bl a,.int b=>b2z a==b
 |.int a,.bl b=>a==b2z b
 |.int a,.int b=>a==b
 |.str a,.str b=>a==b
 |.tup xs,.tup ys=>B7 xs ys
 |.lst xs,.lst ys=>B7 xs ys
 |_,_=>false
noncomputable def B7:List Dat->List Dat->Bool
 |[],[]=>true
 |d::ds,e::es=>eqD d e&&B7 ds es
 |_,_=>false
end
mutual
noncomputable def okE:Dat->Nat->Bool
 |.tup ds,n=>(match n with
  |0=>false
  |n+1=>kg ds n)
 |.lst ds,n=>(match n with
  |0=>false
  |n+1=>kg ds n)
 |.ins _ _,_=>false
 |.non,_=>true
 |.bl _,_=>true
 |.int _,_=>true
 |.str _,_=>true
noncomputable def kg:List Dat->Nat->Bool
 |[],_=>true
 |d::ds,n=>okE d n&&kg ds n
end
noncomputable def eqM (a b:Dat):M Dat:=if (okE a 40&&okE b 40)=true then .ok (.bl (eqD a b)) else stk
noncomputable def neM (a b:Dat):M Dat:=if (okE a 40&&okE b 40)=true then .ok (.bl (!eqD a b)) else stk
noncomputable def inM (a b:Dat):M Dat:=(yL b).bind fun ds=>if (okE a 40&&kg ds 40)=true then .ok (.bl (ds.any fun d=>eqD d a)) else stk
noncomputable def isND:Dat->Dat->M Dat
 |.non,.non=>.ok (.bl true)
 |_,.non=>.ok (.bl false)
 |_,_=>stk
noncomputable def kh (ds:List Dat) (i:Int):M Dat:=match atI ds i with
 |some d=>.ok d
 |none=>stk
noncomputable def ixD:Dat->Dat->M Dat
 |.lst ds,.int i=>kh ds i
 |.tup ds,.int i=>kh ds i
 |_,_=>stk
noncomputable def qi:List Dat->M Dat
 |[.lst ds]=>.ok (.int ds.length)
 |[.tup ds]=>.ok (.int ds.length)
 |_=>stk
noncomputable def iu:List Dat->M (List Bool)
 |[]=>.ok []
 |d::ds=>(asB d).bind fun b=>(iu ds).bind fun r=>.ok (b::r)
noncomputable def dq:List Dat->M (List Int)
 |[]=>.ok []
 |d::ds=>(asI d).bind fun b=>(dq ds).bind fun r=>.ok (b::r)
noncomputable def allD:List Dat->M Dat
 |[.lst ds]=>(iu ds).bind fun bs=>.ok (.bl (bs.all id))
 |_=>stk
noncomputable def anyD:List Dat->M Dat
 |[.lst ds]=>(iu ds).bind fun bs=>.ok (.bl (bs.any id))
 |_=>stk
noncomputable def sumD:List Dat->M Dat
 |[.lst ds]=>(dq ds).bind fun is=>.ok (.int is.sum)
 |_=>stk
noncomputable def yJ:List Dat->M Dat
 |[.lst ds]=>.ok (.lst ds)
 |[.tup ds]=>.ok (.lst ds)
 |_=>stk
noncomputable def intD:List Dat->M Dat
 |[.int i]=>.ok (.int i)
 |[.bl b]=>.ok (.int (b2z b))
 |_=>stk
noncomputable def oH (i j:Int):Int:=if j>i then j else i
noncomputable def ll (i j:Int):Int:=if j<i then j else i
noncomputable def maxL:List Int->M Dat
 |[]=>stk
 |i::is=>.ok (.int (is.foldl oH i))
noncomputable def minL:List Int->M Dat
 |[]=>stk
 |i::is=>.ok (.int (is.foldl ll i))
noncomputable def maxD:List Dat->M Dat
 |[.int i,.int j]=>.ok (.int (oH i j))
 |[.lst ds]=>(dq ds).bind maxL
 |_=>stk
noncomputable def minD:List Dat->M Dat
 |[.int i,.int j]=>.ok (.int (ll i j))
 |[.lst ds]=>(dq ds).bind minL
 |_=>stk
noncomputable def ur:Dat->M Dat
 |.int _=>.ok (.bl true)
 |.bl _=>.ok (.bl true)
 |.ins _ _=>stk
 |_=>.ok (.bl false)
noncomputable def rK:Dat->M Dat
 |.bl _=>.ok (.bl true)
 |.ins _ _=>stk
 |_=>.ok (.bl false)
noncomputable def rJ:Dat->M Dat
 |.lst _=>.ok (.bl true)
 |.ins _ _=>stk
 |_=>.ok (.bl false)
noncomputable def mT:Dat->M Dat
 |.tup _=>.ok (.bl true)
 |.ins _ _=>stk
 |_=>.ok (.bl false)
noncomputable def fLR (fr:ao->M (List Dat)):ao->M Dat:=fun ρ=>(fr ρ).bind cB
noncomputable def n0:Nat->List Dat->List Dat
 |_,[]=>[]
 |k,d::ds=>.tup [.int k,d]::n0 (k+1) ds
noncomputable def qu:Dat->M (List Dat)
 |.lst ds=>.ok ds
 |_=>.error .stuck
noncomputable def vI (fa:ao->M Dat):ao->M (List Dat):=fun ρ=>(fa ρ).bind fun d=>(qu d).bind fun ds=>.ok (n0 0 ds)
noncomputable def uA:List Dat->List Dat->List Dat
 |d::ds,e::es=>.tup [d,e]::uA ds es
 |_,_=>[]
noncomputable def fZip (fa fb:ao->M Dat):ao->M (List Dat):=fun ρ=>(fa ρ).bind fun a=>(fb ρ).bind fun b=>(qu a).bind fun ds=>(qu b).bind fun es=>.ok (uA ds es)
noncomputable def cb (nN n:Nat) (g:ao->M Flo) (ds:List Dat):M Dat:=if ds.length=n then (g (ds.map some++List.replicate (nN-ds.length) none)).bind fun fl=>match fl with
 |.nx _=>.ok .non
 |.rt d=>.ok d
 |_=>stk else stk
noncomputable def zI (ds:List Dat) (k:Dat):M (Dat×List Dat):=(asI k).bind fun k=>if sizeLine<ds.length then stk else match ixN ds.length k with
 |some j=>match ds[j]? with
  |some d=>.ok (d,ds.eraseIdx j)
  |none=>stk
 |none=>stk
noncomputable def sPop (i j:Nat) (fk:ao->M Dat):ao->M Flo:=fun ρ=>(jC ρ i).bind fun ds=>(fk ρ).bind fun k=>(zI ds k).bind fun p=>.ok (.nx ((ρ.set i (some (.lst p.2))).set j (some p.1)))
noncomputable def CK (i:Nat) (pt:Pat) (fk:ao->M Dat):ao->M Flo:=fun ρ=>(jC ρ i).bind fun ds=>(fk ρ).bind fun k=>(zI ds k).bind fun p=>(jz pt p.1 (ρ.set i (some (.lst p.2)))).bind fun ρ'=>.ok (.nx ρ')
@[simp] theorem ax {α β:Type} (a:α) (f:α->M β):Except.bind (Except.ok a:M α) f=f a:=id rfl
@[simp] theorem o5 {α β:Type} (e:Err) (f:α->M β):Except.bind (Except.error e:M α) f=.error e:=id rfl
@[simp] theorem pD:∀is:List Int,dq (is.map Dat.int)=.ok is
 |[]=>rfl
 |i::is=>by simp [dq,asI,pD is]
@[simp] theorem C8:∀is:List Bool,iu (is.map Dat.bl)=.ok is
 |[]=>rfl
 |i::is=>by simp [iu,asB,C8 is]
@[simp] theorem Dd (n:Nat):∀is:List Int,kg (is.map Dat.int) n=true
 |[]=>by simp [kg]
 |i::is=>by simp [kg,okE,Dd n is]
theorem jW {ds:List Dat} {k:Nat} (h:k<ds.length):kh ds (k:Int)=.ok ds[k]:=by
 unfold kh atI ixN
 rw [if_pos (by omega),if_pos (by omega)]
 simp [h]
theorem getI_int {is:List Int} {k:Int} (h0:0<=k) (h:k<is.length):kh (is.map Dat.int) k=.ok (.int (is[k.toNat]'(by omega))):=by
 have hj:k.toNat<(is.map Dat.int).length:=by simp;omega
 have e:k=(k.toNat:Int):=by omega
 have:=jW hj
 rw [<- e] at this
 rw [this]
 simp
theorem cR {p:Pat} {g:ao->M Flo} (P:Nat->ao->Prop):∀(ds:List Dat) (k:Nat) (ρ:ao),P k ρ ->
  (∀(i:Nat) (d:Dat) (ρ:ao),ds[i]? =some d->P (k+i) ρ->∃ρ1,jz p d ρ=.ok ρ1/\∃ρ2,(g ρ1=.ok (.nx ρ2)\/g ρ1=.ok (.ct ρ2))/\P (k+i+1) ρ2)->∃ρ',nj p g ds ρ=.ok (.nx ρ')/\P (k+ds.length) ρ'
 |[],k,ρ,h,_=>⟨ρ,rfl,h⟩
 |d::ds,k,ρ,h,st=>by
  obtain ⟨ρ1,e1,ρ2,e2,h2⟩:=st 0 d ρ rfl h
  obtain ⟨ρ',e3,h3⟩:=cR P ds (k+1) ρ2 h2 fun i d' ρ he hp=>by
   have:=st (i+1) d' ρ (by simpa using he) (by rw [show k+(i+1)=k+1+i by omega];exact hp)
   rw [show k+(i+1)+1=k+1+i+1 by omega] at this
   exact this
  refine ⟨ρ',?_,by rw [show k+(d::ds).length=k+1+ds.length by simp;omega];exact h3⟩
  rw [nj,e1]
  rcases e2 with e2|e2
  ·simp only [ax,e2];exact e3
  ·simp only [ax,e2];exact e3
theorem jy {p:Pat} {fe:ao->M Dat} {ρ0:ao} (f:Dat->Dat):∀(ds:List Dat),(∀d∈ds,∃ρ,jz p d ρ0=.ok ρ/\fe ρ=.ok (f d))->b8 p sq fe ρ0 ds=.ok (ds.map f)
 |[],_=>rfl
 |d::ds,h=>by
  obtain ⟨ρ,e1,e2⟩:=h d (by simp)
  rw [b8,e1]
  simp only [ax,sq,e2,jy f ds fun x hx=>h x (by simp [hx])]
  simp
@[simp] theorem small_def (i:Int):gX i=(decide (-(2^64)<i)&&decide (i<2^64)):=id rfl
@[simp] theorem small_def2 (i:Int):mh i=(decide (-(2^62)<=i)&&decide (i<2^62)):=id rfl
@[simp] theorem eqDs_nilR (ds:List Dat):B7 ds []=ds.isEmpty:=by cases ds<;>rfl
section
variable {ρ:ao} {fa fb fc:ao->M Dat} {fr:ao->M (List Dat)} {ft fu:ao->M Bool} {g h:ao->M Flo}
@[simp] theorem e_var0 (d:Dat) (r:ao):af 0 (some d::r)=.ok d:=id rfl
@[simp] theorem e_varS (i:Nat) (o:Option Dat) (r:ao):af (i+1) (o::r)=af i r:=by simp [af]
@[simp] theorem e_c (d:Dat):fC d ρ=.ok d:=id rfl
@[simp] theorem e_1 (k:Dat->M Dat):f1 k fa ρ=(fa ρ).bind k:=id rfl
@[simp] theorem e_2 (k:Dat->Dat->M Dat):f2 k fa fb ρ=(fa ρ).bind fun a=>(fb ρ).bind fun b=>k a b:=id rfl
@[simp] theorem e_nil:aC ρ=.ok []:=id rfl
@[simp] theorem e_cons:aa fa fr ρ=(fa ρ).bind fun a=>(fr ρ).bind fun r=>.ok (a::r):=id rfl
@[simp] theorem e_L (k:List Dat->M Dat):fL k fr ρ=(fr ρ).bind k:=id rfl
@[simp] theorem e_ite:fIte ft fa fb ρ=(ft ρ).bind fun b=>if b=true then fa ρ else fb ρ:=id rfl
@[simp] theorem e_and:DV ft fu ρ=(ft ρ).bind fun b=>if b=true then fu ρ else .ok false:=id rfl
@[simp] theorem e_or:fOr ft fu ρ=(ft ρ).bind fun b=>if b=true then .ok true else fu ρ:=id rfl
@[simp] theorem e_not:zy ft ρ=(ft ρ).bind fun b=>.ok (!b):=id rfl
@[simp] theorem e_B:fB fa ρ=(fa ρ).bind asB:=id rfl
@[simp] theorem e_andV:xr fa fb ρ=(fa ρ).bind fun a=>(asB a).bind fun b=>if b=true then fb ρ else .ok (.bl false):=id rfl
@[simp] theorem e_tru:xV fa ρ=(fa ρ).bind truD:=id rfl
@[simp] theorem e_chain (k k':Dat->Dat->M Dat):iI k k' fa fb fc ρ=(fa ρ).bind fun a=>(fb ρ).bind fun b=>(k a b).bind fun x=>(asB x).bind fun z=>if z=true then (fc ρ).bind fun c=>k' b c else .ok (.bl false):=id rfl
@[simp] theorem e_yes:sq ρ=.ok true:=id rfl
@[simp] theorem e_it:fIt fa ρ=(fa ρ).bind yL:=id rfl
@[simp] theorem e_rng (k:List Dat->M (List Dat)):sr k fr ρ=(fr ρ).bind k:=id rfl
@[simp] theorem e_LR:fLR fr ρ=(fr ρ).bind cB:=id rfl
@[simp] theorem e_enum:vI fa ρ=(fa ρ).bind fun d=>(qu d).bind fun ds=>.ok (n0 0 ds):=id rfl
@[simp] theorem e_zip:fZip fa fb ρ=(fa ρ).bind fun a=>(fb ρ).bind fun b=>(qu a).bind fun ds=>(qu b).bind fun es=>.ok (uA ds es):=id rfl
@[simp] theorem e_comp (fi:ao->M (List Dat)) (ix:List (Option Nat)) (p:Pat):fK fi ix p ft fa ρ=(fi ρ).bind fun ds=>if ds.length<=sizeLine then (b8 p ft fa (iF ix ρ) ds).bind fun r=>.ok (.lst r) else .error .stuck:=id rfl
@[simp] theorem e_asB (b:Bool):asB (.bl b)=.ok b:=id rfl
@[simp] theorem e_asI (b:Int):asI (.int b)=.ok b:=id rfl
@[simp] theorem e_itemsL (ds:List Dat):yL (.lst ds)=.ok ds:=id rfl
@[simp] theorem e_itL (ds:List Dat):qu (.lst ds)=.ok ds:=id rfl
@[simp] theorem e_notD (b:Bool):notD (.bl b)=.ok (.bl (!b)):=id rfl
@[simp] theorem e_truB (b:Bool):truD (.bl b)=.ok b:=id rfl
@[simp] theorem e_truL (ds:List Dat):truD (.lst ds)=.ok (!ds.isEmpty):=id rfl
@[simp] theorem e_addI (i j:Int):fG (.int i) (.int j)=.ok (.int (i+j)):=id rfl
@[simp] theorem e_subI (i j:Int):zw (.int i) (.int j)=.ok (.int (i-j)):=id rfl
@[simp] theorem e_negI (i:Int):negD (.int i)=.ok (.int (-i)):=id rfl
@[simp] theorem e_ltI (i j:Int):ltD (.int i) (.int j)=.ok (.bl (decide (i<j))):=id rfl
@[simp] theorem e_leI (i j:Int):leD (.int i) (.int j)=.ok (.bl (decide (i<=j))):=id rfl
@[simp] theorem e_gtI (i j:Int):gtD (.int i) (.int j)=.ok (.bl (decide (j<i))):=id rfl
@[simp] theorem e_ixL (ds:List Dat) (i:Int):ixD (.lst ds) (.int i)=kh ds i:=id rfl
@[simp] theorem e_ixT (ds:List Dat) (i:Int):ixD (.tup ds) (.int i)=kh ds i:=id rfl
@[simp] theorem e_lenL (ds:List Dat):qi [.lst ds]=.ok (.int ds.length):=id rfl
@[simp] theorem e_all (ds:List Dat):allD [.lst ds]=(iu ds).bind fun bs=>.ok (.bl (bs.all id)):=id rfl
@[simp] theorem e_any (ds:List Dat):anyD [.lst ds]=(iu ds).bind fun bs=>.ok (.bl (bs.any id)):=id rfl
@[simp] theorem e_sum (ds:List Dat):sumD [.lst ds]=(dq ds).bind fun is=>.ok (.int is.sum):=id rfl
@[simp] theorem e_listL (ds:List Dat):yJ [.lst ds]=.ok (.lst ds):=id rfl
@[simp] theorem e_intB (b:Bool):intD [.bl b]=.ok (.int (b2z b)):=id rfl
@[simp] theorem e_max2 (i j:Int):maxD [.int i,.int j]=.ok (.int (oH i j)):=id rfl
@[simp] theorem e_min2 (i j:Int):minD [.int i,.int j]=.ok (.int (ll i j)):=id rfl
@[simp] theorem e_maxL (ds:List Dat):maxD [.lst ds]=(dq ds).bind maxL:=id rfl
@[simp] theorem e_isiBI (i:Int):rK (.int i)=.ok (.bl false):=id rfl
@[simp] theorem e_isiII (i:Int):ur (.int i)=.ok (.bl true):=id rfl
@[simp] theorem e_isiLL (ds:List Dat):rJ (.lst ds)=.ok (.bl true):=id rfl
@[simp] theorem e_isN (d:Dat):isND d .non=.ok (.bl (match d with|.non=>true|_=>false)):=by cases d<;>rfl
@[simp] theorem e_next:eh ρ=.ok (.nx ρ):=id rfl
@[simp] theorem e_seq:aO g h ρ=(g ρ).bind fun fl=>match fl with
 |.nx ρ'=>h ρ'
 |fl=>.ok fl:=id rfl
@[simp] theorem e_if:sIf ft g h ρ=(ft ρ).bind fun b=>if b=true then g ρ else h ρ:=id rfl
@[simp] theorem e_setB (O:List Nat) (i:Nat):aD O i fa ρ=(fa (erase O ρ)).bind fun d=>.ok (.nx (ρ.set i (some d))):=id rfl
@[simp] theorem e_setA (own:Bool) (i:Nat):uE own i fa ρ=(fa ρ).bind fun d=>if tj own d=true then .ok (.nx (ρ.set i (some d))) else .error .stuck:=id rfl
@[simp] theorem e_ret:cQ fa ρ=(fa ρ).bind fun d=>.ok (.rt d):=id rfl
@[simp] theorem e_for (O:List Nat) (fi:ao->M (List Dat)) (p:Pat):tM O fi p g ρ=(fi (erase O ρ)).bind fun ds=>nj p g ds ρ:=id rfl
@[simp] theorem e_unpB (O:List Nat) (p:Pat):sC O p fa ρ=(fa (erase O ρ)).bind fun d=>(jz p d ρ).bind fun ρ'=>.ok (.nx ρ'):=id rfl
@[simp] theorem e_appA (i:Nat):yo i fa ρ=(jC ρ i).bind fun ds=>(fa ρ).bind fun d=>if (lp d&&decide (ds.length<sizeLine))=true then put ρ i (ds++[d]) else .error .stuck:=id rfl
@[simp] theorem e_appB (O:List Nat) (i:Nat):mi O i fa ρ=(jC ρ i).bind fun ds=>(fa (erase O ρ)).bind fun d=>if ds.length<sizeLine then put ρ i (ds++[d]) else .error .stuck:=id rfl
@[simp] theorem e_setI (i:Nat):zF i fb fa ρ=(fa ρ).bind fun d=>(jC ρ i).bind fun ds=>(fb ρ).bind fun k=>(asI k).bind fun k=>if lp d=true then (match ixN ds.length k with
 |some j=>put ρ i (ds.set j d)
 |none=>.error .stuck) else .error .stuck:=id rfl
@[simp] theorem e_pop (i j:Nat):sPop i j fa ρ=(jC ρ i).bind fun ds=>(fa ρ).bind fun k=>(zI ds k).bind fun p=>.ok (.nx ((ρ.set i (some (.lst p.2))).set j (some p.1))):=id rfl
@[simp] theorem e_popU (i:Nat) (pt:Pat):CK i pt fa ρ=(jC ρ i).bind fun ds=>(fa ρ).bind fun k=>(zI ds k).bind fun p=>(jz pt p.1 (ρ.set i (some (.lst p.2)))).bind fun ρ'=>.ok (.nx ρ'):=id rfl
@[simp] theorem e_put (i:Nat) (ds:List Dat):put ρ i ds=.ok (.nx (ρ.set i (some (.lst ds)))):=id rfl
@[simp] theorem e_lst0 (ds:List Dat) (r:ao):jC (some (.lst ds)::r) 0=.ok ds:=id rfl
@[simp] theorem e_lstS (i:Nat) (o:Option Dat) (r:ao):jC (o::r) (i+1)=jC r i:=by simp [jC]
@[simp] theorem e_er0:erase [] ρ=ρ:=id rfl
@[simp] theorem e_erS (i:Nat) (O:List Nat):erase (i::O) ρ=erase O (ρ.set i none):=id rfl
@[simp] theorem e_bnm (i:Nat) (d:Dat):jz (.nm i) d ρ=.ok (ρ.set i (some d)):=id rfl
@[simp] theorem e_btp (is:List Nat) (ds:List Dat):jz (.tp is) (.tup ds) ρ=if ds.length=is.length then .ok (oV is ds ρ) else .error .stuck:=id rfl
@[simp] theorem e_sa0 (ds:List Dat):oV [] ds ρ=ρ:=by cases ds<;>rfl
@[simp] theorem e_saS (i:Nat) (is:List Nat) (d:Dat) (ds:List Dat):oV (i::is) (d::ds) ρ=oV is ds (ρ.set i (some d)):=id rfl
@[simp] theorem e_in0:iF [] ρ=[]:=id rfl
@[simp] theorem e_inN (ix:List (Option Nat)):iF (none::ix) ρ=none::iF ix ρ:=id rfl
@[simp] theorem e_inS (j:Nat) (ix:List (Option Nat)):iF (some j::ix) ρ=(ρ[j]?).join::iF ix ρ:=id rfl
@[simp] theorem e_tup (ds:List Dat):bQ ds=if ds.length<=sizeLine then .ok (.tup ds) else .error .stuck:=id rfl
@[simp] theorem e_lst (ds:List Dat):cB ds=if ds.length<=sizeLine then .ok (.lst ds) else .error .stuck:=id rfl
@[simp] theorem e_line:sizeLine=16777216:=sizeLine_eq
@[simp] theorem e_run (a b:Nat) (ds:List Dat):cb a b g ds=if ds.length=b then (g (ds.map some++List.replicate (a-ds.length) none)).bind fun fl=>match fl with
 |.nx _=>.ok .non
 |.rt d=>.ok d
 |_=>stk else stk:=id rfl
@[simp] theorem e_rng1 {j:Int} (h:mh j=true):so [.int j]=.ok (aU 0 j.toNat):=by show (if mh j=true then _ else _)=_;rw [if_pos h]
@[simp] theorem n4 {i j:Int} (h:0<j):jA (.int i) (.int j)=.ok (.int (i%j)):=by simp [jA,h]
@[simp] theorem E1 {i j:Int} (h:0<j) (h2:j<18446744073709551616):ck (.int i) (.int j)=.ok (.int (i/j)):=by simp [ck,h,h2]
@[simp] theorem e_mulR {i j:Int} (h:gX j=true):vt (.int i) (.int j)=.ok (.int (i*j)):=by show (if (gX i||gX j)=true then _ else _)=_;rw [h,Bool.or_true,if_pos rfl]
@[simp] theorem e_mulL {i j:Int} (h:gX i=true):vt (.int i) (.int j)=.ok (.int (i*j)):=by show (if (gX i||gX j)=true then _ else _)=_;rw [h,Bool.true_or,if_pos rfl]
end
end L2
namespace L2
open PySem PySem.Spec PyProof.Rows
section
variable {X:Cx} {K:PySem.W.Frag} {W:iV} {own ro:Bool} {e a b c:Expr} {es rest:List Expr} {x:Str} {pos p:Pos} {f fa fb fc:ao->M Dat} {fr:ao->M (List Dat)} {ft fu:ao->M Bool}
theorem PE.imp {t t':TE} (h:PE X e t) (q:∀σ H Q,t' σ H Q->t σ H Q):PE X e t':=fun pins s σ H Q I z=>h pins s σ H Q I (q σ H Q z)
theorem PT.imp {t t':TT} (h:PT X e t) (q:∀σ H Q,t' σ H Q->t σ H Q):PT X e t':=fun pins s σ H Q I z=>h pins s σ H Q I (q σ H Q z)
theorem PW.imp {t t':TT} (h:PW X e t) (q:∀σ H Q,t' σ H Q->t σ H Q):PW X e t':=fun wh pins s σ H Q I z=>h wh pins s σ H Q I (q σ H Q z)
theorem PA.imp {t t':TA} (h:PA X es t) (q:∀σ H Q,t' σ H Q->t σ H Q):PA X es t':=fun ps pins s σ H Q I z=>h ps pins s σ H Q I (q σ H Q z)
theorem PI.imp {tg:Expr} {t t':TI} (h:PI X tg e t) (q:∀σ H Q,t' σ H Q->t σ H Q):PI X tg e t':=fun pins s σ H Q I z=>h pins s σ H Q I (q σ H Q z)
theorem PS.imp {st:Stmt} {t t':TS} (h:PS X st t) (q:∀D σ H,t' D σ H->t D σ H):PS X st t':=fun pins s σ H D I z=>h pins s σ H D I (q D σ H z)
theorem PSs.imp {st:List Stmt} {t t':TS} (h:PSs X st t) (q:∀D σ H,t' D σ H->t D σ H):PSs X st t':=fun pins s σ H D I z=>h pins s σ H D I (q D σ H z)
noncomputable abbrev DE (K:PySem.W.Frag) (W:iV) (own:Bool) (X:Cx) (e:Expr) (f:ao->M Dat):Prop:=PE X e (tD K W own f)
noncomputable abbrev DT (K:PySem.W.Frag) (W:iV) (X:Cx) (e:Expr) (f:ao->M Bool):Prop:=PT X e (tDT K W f)
noncomputable abbrev DW (K:PySem.W.Frag) (W:iV) (X:Cx) (e:Expr) (f:ao->M Bool):Prop:=PW X e (tDT K W f)
noncomputable abbrev DA (K:PySem.W.Frag) (W:iV) (X:Cx) (es:List Expr) (f:ao->M (List Dat)):Prop:=PA X es (tDA K W f)
noncomputable abbrev DI (K:PySem.W.Frag) (W:iV) (X:Cx) (tg e:Expr) (f:ao->M (List Dat)):Prop:=PI X tg e (iD K W f)
noncomputable abbrev DG (K:PySem.W.Frag) (X:Cx) (tg:Expr) (p:Pat):Prop:=PG X tg (gP K p)
noncomputable abbrev DS (K:PySem.W.Frag) (W:iV) (ro:Bool) (X:Cx) (OL O O':List Nat) (st:Stmt) (g:ao->M Flo):Prop:=∀F0 H0:Hp,PS X st (tS K W ro F0 H0 OL O O' g)
noncomputable abbrev DSs (K:PySem.W.Frag) (W:iV) (ro:Bool) (X:Cx) (OL O O':List Nat) (st:List Stmt) (g:ao->M Flo):Prop:=∀F0 H0:Hp,PSs X st (tS K W ro F0 H0 OL O O' g)
noncomputable abbrev Op2 (K:PySem.W.Frag) (W:iV) (own:Bool) (X:Cx) (o:Value->Value->Sem Value) (g:Dat->Dat->M Dat):Prop:=OpR X o (rD2 K W own g)
noncomputable abbrev vq (K:PySem.W.Frag) (W:iV) (own:Bool) (X:Cx) (v:Value) (g:List Dat->M Dat):Prop:=eA X v (rDL K W own g)
theorem aj (i:Nat) (hN:X.N[i]? =some x:=by rfl) (hv:Vis X.env.scope x:=by first|exact Or.inl rfl|exact Or.inr (Or.inl rfl)|exact Or.inr (Or.inr rfl)) (hd:(x==("__debug__":Str))=false:=by decide)
  (hcd:(x==("__classdict__":Str))=false:=by decide):DE K W false X (.Name x pos) (af i):=(pv i hN hv hd hcd).imp fun _ _ _=>rd_var
theorem ae {i:Int} {j}:DE K W false X (.Constant (.int i) j pos) (fC (.int i)):=pe_int.imp fun _ _ _=>rd_c fun _=>rfl
theorem pU {k:Bool} {j}:DE K W false X (.Constant (.bool k) j pos) (fC (.bl k)):=pe_bl.imp fun _ _ _=>rd_c fun _=>rfl
theorem Ba {j}:DE K W false X (.Constant .none j pos) (fC .non):=pe_non.imp fun _ _ _=>rd_c fun _=>rfl
theorem yV {z:Str} {j}:DE K W false X (.Constant (.str z) j pos) (fC (.str z)):=pe_str.imp fun _ _ _=>rd_c fun _=>rfl
theorem E5 {n:Int} (hm:∃t,X.mg x=some (.int n t)) (hg:Gl X x:=by rfl) (hd:(x==("__debug__":Str))=false:=by decide):DE K W false X (.Name x pos) (fC (.int n)):=(pe_gint hg hm hd).imp fun _ _ _=>rd_c fun _=>rfl
theorem aA (h:DE K W true X e f):DE K W false X e f:=PE.imp h fun _ _ _ ⟨F,ρ,r,s,p⟩=>⟨F,ρ,r,s,p.frz⟩
theorem au {op:Operator} {g:Dat->Dat->M Dat} (ho:Op2 K W own X (binaryOp op) g) (ha:DE K W false X a fa) (hb:DE K W false X b fb):DE K W own X (.BinOp a op b pos) (f2 g fa fb):=(pe_op ho ha hb).imp fun _ _ _=>rd_2
theorem A4 {op:UnaryOp} {g:Dat->M Dat} (ho:UnR X (unaryOp op) (rD1 K W own g)) (ha:DE K W false X a fa):DE K W own X (.UnaryOp op a pos) (f1 g fa):=(pe_un ho ha).imp fun _ _ _=>rd_1
theorem yZ {op:CmpOp} {g:Dat->Dat->M Dat} (ho:Op2 K W false X (compareOp op) g) (ha:DE K W false X a fa) (hb:DE K W false X b fb) (hm:behindInMarks op b=false:=by first|exact Dh _|with_unfolding_all rfl):DE K W false X (.Compare a [op] [b] pos) (f2 g fa fb):=
 (pe_cmpR ho ha hb hm).imp fun _ _ _=>rd_2
theorem bN {op:CmpOp} {g:Dat->Dat->M Dat} (ho:Op2 K W false X (compareOp op) g) (ha:DE K W false X a fa) (hb:DE K W false X b fb) (hm:behindInMarks op b=false:=by first|exact Dh _|with_unfolding_all rfl):DT K W X (.Compare a [op] [b] pos) (fB (f2 g fa fb)):=
 (CT ho ha hb hm).imp fun σ H Q h=>by
  have q:=rd_B h
  exact rd_2 (own:=false) q
theorem ux {op op':CmpOp} {g g':Dat->Dat->M Dat} (ho:Op2 K W false X (compareOp op) g) (ho':Op2 K W false X (compareOp op') g') (ha:DE K W false X a fa) (hb:DE K W false X b fb) (hc:DE K W false X c fc)
  (hm:lastMarks [op,op'] [b,c]=false:=by with_unfolding_all rfl):DE K W false X (.Compare a [op,op'] [b,c] pos) (iI g g' fa fb fc):=(pe_chain ho ho' ha hb hc hm).imp fun _ _ _=>AN
theorem rR {op op':CmpOp} {g g':Dat->Dat->M Dat} (ho:Op2 K W false X (compareOp op) g) (ho':Op2 K W false X (compareOp op') g') (ha:DE K W false X a fa) (hb:DE K W false X b fb) (hc:DE K W false X c fc)
  (hm:lastMarks [op,op'] [b,c]=false:=by with_unfolding_all rfl):DT K W X (.Compare a [op,op'] [b,c] pos) (fB (iI g g' fa fb fc)):=(pt_chain ho ho' ha hb hc hm).imp fun σ H Q h=>by
  have q:=rd_B h
  exact AN q
theorem pS (ha:DE K W false X a fa) (hK:X.K=K:=by rfl) (he:∀whole,isTrue a X.env whole=(do let v <- whole;standAt a.pos;holding [v] (truthy v)):=by intro _;rfl):DT K W X a (xV fa):=by
 subst hK
 exact (pt_truth ha he).imp fun _ _ _=>rd_tru
theorem rQ (ha:DT K W X a ft):DT K W X (.UnaryOp .Not a pos) (zy ft):=(pt_not ha).imp fun _ _ _=>rd_not
theorem xx (ha:DT K W X a ft):DW K W X (.BoolOp .And [a] pos) ft:=pw_and1 ha
theorem yT (ha:DT K W X a ft):DW K W X (.BoolOp .Or [a] pos) ft:=pw_or1 ha
theorem B8 (ha:DT K W X a ft) (hb:DW K W X (.BoolOp .And (b::rest) pos) fu):DW K W X (.BoolOp .And (a::b::rest) pos) (DV ft fu):=(pw_and ha hb).imp fun _ _ _=>rd_and
theorem C4 (ha:DT K W X a ft) (hb:DW K W X (.BoolOp .Or (b::rest) pos) fu):DW K W X (.BoolOp .Or (a::b::rest) pos) (fOr ft fu):=(pw_or ha hb).imp fun _ _ _=>rd_or
theorem de_one {op} (h:DE K W false X a f):DE K W false X (.BoolOp op [a] pos) f:=pe_one h
theorem E6 (ha:DE K W false X a fa) (hb:DE K W false X (.BoolOp .And (b::rest) pos) fb):DE K W false X (.BoolOp .And (a::b::rest) pos) (xr fa fb):=(pe_and ha hb).imp fun _ _ _=>rd_andV
theorem de_not (ha:DE K W false X a fa):DE K W false X (.UnaryOp .Not a pos) (f1 notD fa):=(pe_not ha).imp fun _ _ _=>rd_notV
theorem de_ite (hc:DT K W X c ft) (ha:DE K W own X a fa) (hb:DE K W own X b fb):DE K W own X (.IfExp c a b pos) (fIte ft fa fb):=(pe_ifExp hc ha hb).imp fun _ _ _=>rd_ite
theorem ai:DA K W X [] aC:=fE.imp fun _ _ _=>rd_nil
theorem a8 (ha:DE K W false X e fa) (hr:DA K W X es fr) (hs:starEach (e::es) X.env=(false,eval e X.env)::starEach es X.env:=by rfl):DA K W X (e::es) (aa fa fr):=(bc ha hr hs).imp fun _ _ _=>rd_cons
theorem cx {x1} (h:DA K W X es fr):DE K W own X (.Tuple es x1 pos) (fL bQ fr):=(D1 h).imp fun _ _ _=>rd_tup
theorem cy (h:DA K W X es fr):DE K W true X (.List es pos) (fL cB fr):=(pe_lst h).imp fun _ _ _=>rd_lst
theorem aG {id:String} {g:List Dat->M Dat} (hc:vq K W own X (.builtin id) g) (hm:X.mg x=none) (hv:bootBuiltins x=some (.builtin id)) (ha:DA K W X (e::es) fr) (hg:Gl X x:=by rfl) (hn:x≠"__name__":=by decide) (hdb:(x==("__debug__":Str))=false:=by decide)
  (hst:starEach (e::es) X.env=(false,eval e X.env)::starEach es X.env:=by rfl) (hpl:(backTo pos (starEach es X.env)).any (·.1)=false:=by rfl):DE K W own X (.Call (.Name x p) (e::es) [] pos) (fL g fr):=
 (hV hc hg hm hv ha hn hdb hst hpl).imp fun _ _ _=>rd_L
theorem rV {T:String} {g:List Dat->M Dat} (hc:vq K W own X (.type T) g) (hm:X.mg x=none) (hv:bootBuiltins x=some (.type T)) (ha:DA K W X (e::es) fr) (hg:Gl X x:=by rfl) (hn:x≠"__name__":=by decide) (hdb:(x==("__debug__":Str))=false:=by decide)
  (hst:starEach (e::es) X.env=(false,eval e X.env)::starEach es X.env:=by rfl) (hpl:(backTo pos (starEach es X.env)).any (·.1)=false:=by rfl):DE K W own X (.Call (.Name x p) (e::es) [] pos) (fL g fr):=
 (yv hc hg hm hv ha hn hdb hst hpl).imp fun _ _ _=>rd_L
theorem aw {g:Dat->Dat->M Dat} (hr:IxR X (rD2 K W own g)) (ha:DE K W false X a fa) (hb:DE K W false X b fb) (hs:Az b:=by exact fun _ _=>rfl):DE K W own X (.Subscript a b pos) (f2 g fa fb):=(pe_ix hr ha hb hs).imp fun _ _ _=>rd_2
theorem rT {i:Nat} (hN:X.N.Nodup) (hi:X.N[i]? =some x:=by rfl) (hx:Loc X.env.scope x:=by first|exact Or.inl rfl|exact Or.inr rfl) (hf:X.fn x=true\/X.env.scope.names.lookup x=some .local:=by first|exact .inl rfl|exact .inr rfl|assumption):DG K X (.Name x pos) (.nm i):=zJ hN hi hx hf
theorem lN {tg:Expr} (hl:DE K W false X e fa) (hK:X.K=K:=by rfl):DI K W X tg e (fIt fa):=by
 subst hK
 refine PI.imp (t:=iSeq X.K (tD X.K W false fa)) ?_ fun _ _ _=>ri_seq
 intro pins s σ H R I h
 refine thn (hl pins s σ H _ I h) fun v s1 ⟨y,H1,I1,r1,q1⟩=>?_
 obtain ⟨l,e1,q⟩:=q1
 subst e1
 cases r1
 rcases q with ⟨⟨xs,hq⟩,q⟩|⟨⟨xs,hq⟩,q⟩
 ·obtain ⟨its,rv,p,hz⟩:=I1.list hq
  refine wpAny_pyIter_list p.isList ?_
  refine ⟨s1.heap.objs.size,[s1.heap.objs.size],_,_,H1,rfl,I1.kept (t':=s1.toks) fun b o e=>Heap.get?_push_of_some _ e,Cw l _,⟨_,Heap.get?_push_size _ rfl,rfl,rfl⟩,fun b hb=>?_,q⟩
  have e:b=s1.heap.objs.size:=by simpa using hb
  subst e
  exact I1.fpOk (Nat.le_refl _) (I1.hok.fresh (Nat.le_refl _))
 ·obtain ⟨its,rv,p,hz⟩:=I1.tuple hq
  refine wpAny_pyIter_tuple (show s1.heap.IsTuple l its.toArray from p) ?_
  refine ⟨s1.heap.objs.size,[s1.heap.objs.size],_,_,H1,rfl,I1.kept (t':=s1.toks) fun b o e=>Heap.get?_push_of_some _ e,Bu l _,⟨_,Heap.get?_push_size _ rfl,rfl,rfl⟩,fun b hb=>?_,q⟩
  have e:b=s1.heap.objs.size:=by simpa using hb
  subst e
  exact I1.fpOk (Nat.le_refl _) (I1.hok.fresh (Nat.le_refl _))
theorem fM {tg:Expr} (hm:X.mg "range"=none) (ha:DA K W X [a] fr) (hg:Gl X "range":=by rfl) (hs:starEach [a] X.env=[(false,eval a X.env)]:=by rfl):DI K W X tg (.Call (.Name "range" p) [a] [] pos) (sr so fr):=(CZ hg hm ha hs).imp fun _ _ _=>ri_rng1
variable {OL O O' O2:List Nat} {st:Stmt} {sts:List Stmt} {g h:ao->M Flo}
theorem bS:DSs K W ro X OL O O [] eh:=fun _ _=>CU.imp fun _ _ _=>rs_next
theorem ah (h1:DS K W ro X OL O O' st g) (h2:DSs K W ro X OL O' O2 sts h):DSs K W ro X OL O O2 (st::sts) (aO g h):=fun F0 H0=>(rB (h1 F0 H0) (h2 F0 H0)).imp fun _ _ _=>rs_seq
theorem av (h1:DS K W ro X OL O O' st g):DSs K W ro X OL O O' [st] g:=fun F0 H0=>wN (h1 F0 H0)
theorem bE (h1:DSs K W ro X OL O2 O' sts g) (hs:∀i∈O2,i∈O:=by decide):DSs K W ro X OL O O' sts g:=fun F0 H0=>PSs.imp (h1 F0 H0) fun _ _ _=>tS.enter hs
theorem fv {sa sb:List Stmt} (hc:DT K W X c ft) (ha:DSs K W ro X OL O O' sa g) (hb:DSs K W ro X OL O O' sb h):DS K W ro X OL O O' (.If c sa sb pos) (sIf ft g h):=fun F0 H0=>(ps_if hc (ha F0 H0) (hb F0 H0)).imp fun _ _ _=>rs_if
theorem aq {i:Nat} {pos':Pos} (hN:X.N.Nodup) (he:DE K W own X e f) (hi:X.N[i]? =some x:=by rfl) (hx:Loc X.env.scope x:=by first|exact Or.inl rfl|exact Or.inr rfl) (hs:swapsWith e (some (.Name x pos')) pos.line X.env=pure false:=by rfl) (hf:X.fn x=true\/X.env.scope.names.lookup x=some .local:=by first|exact .inl rfl|exact .inr rfl|assumption) :
  DS K W ro X OL O (aft own i O) (.Assign [.Name x pos'] e pos) (aD O i f):=fun F0 H0=>(AO hN hi hx he hs hf).imp fun _ _ _=>CM
theorem vc {i:Nat} {pos':Pos} (hN:X.N.Nodup) (he:DE K W own X e f) (hi:X.N[i]? =some x:=by rfl) (hx:Loc X.env.scope x:=by first|exact Or.inl rfl|exact Or.inr rfl) (hs:swapsWith e (some (.Name x pos')) pos.line X.env=pure false:=by rfl) (hf:X.fn x=true\/X.env.scope.names.lookup x=some .local:=by first|exact .inl rfl|exact .inr rfl|assumption) :
  DS K W ro X OL O (aft own i O) (.Assign [.Name x pos'] e pos) (uE own i f):=fun F0 H0=>(AO hN hi hx he hs hf).imp fun _ _ _=>rs_setA
theorem aJ (he:DE K W ro X e f):DS K W ro X OL O O' (.Return (some e) pos) (cQ f):=fun F0 H0=>(ps_ret he).imp fun _ _ _=>rs_ret
theorem gT {tg iter:Expr} {body:List Stmt} {fs:ao->M (List Dat)} {pt:Pat} (hi:DI K W X tg iter fs) (hg:DG K X tg pt) (hb:DSs K W ro X O O O body g) (n:∀i∈pt.names,i∉O:=by decide) (hp:PassesOwn (model X.prog X.w) X.A X.env X.xe:=by exact PassesOwn.never) (hc:X.calm=true:=by rfl)
  (hs:∀x,foldedSetIterable iter X.env x=pure x:=by intro _;rfl):DS K W ro X OL O O (.For tg iter body [] pos) (tM O fs pt g):=fun F0 H0=>(ps_for hp hc hi hg (hb F0 H0) hs).imp fun _ _ _=>rs_for n
theorem uw {m:Nat} {body:List Stmt} (hc:DT K W X c ft) (hb:DSs K W ro X O O O body g) (hp:PassesOwn (model X.prog X.w) X.A X.env X.xe:=by exact PassesOwn.never):DS K W ro X OL O O (.While c body [] pos) (cw ft g m):=fun F0 H0=>(ps_while hp hc (hb F0 H0)).imp fun _ _ _=>rs_while
theorem ip {i:Nat} {apos:Pos} {q:Pos} (he:DE K W false X e f) (ho:i∈O:=by decide) (hN:X.N[i]? =some x:=by rfl) (hv:Vis X.env.scope x:=by first|exact Or.inl rfl|exact Or.inr (Or.inl rfl)|exact Or.inr (Or.inr rfl)) (hd:(x==("__debug__":Str))=false:=by decide) (hcd:(x==("__classdict__":Str))=false:=by decide) (hK:X.K=K:=by rfl)
  (hst:starEach [e] X.env=[(false,eval e X.env)]:=by rfl) (hbase:attributeBase (.Name x p) "append" X.env (eval (.Name x p) X.env)=eval (.Name x p) X.env:=by rfl) (hfew:((backTo q (starEach [e] X.env)).all (fun x=> !x.1)&&(backToKw q (keywordEach [] X.env)).all (fun x=>x.1.isSome)&&decide ([e].length+([]:List Keyword).length+(if ([]:List Keyword).isEmpty then 0 else 1)<30))=true:=by rfl) (hplain:(backTo q (starEach [] X.env)).any (·.1)=false:=by rfl) (hline:(apos.endLine==q.line)=true:=by rfl) (hsw:swapsWith (.Call (.Attribute (.Name x p) "append" apos) [e] [] q) none pos.line X.env=pure false:=by rfl) :
  DS K W ro X OL O O (.Expr (.Call (.Attribute (.Name x p) "append" apos) [e] [] q) pos) (mi O i f):=fun F0 H0=>by
 subst hK
 exact PS.imp (zH (pe_bm PySem.F.plainAttrs_list PySem.F.slot_list_append PySem.F.type_list_append yH (pv i hN hv hd hcd) (bc he fE hst) hbase hfew hline hst hplain) hsw) fun _ _ _=>rs_appB ho
theorem ds_appA {i:Nat} {apos:Pos} {q:Pos} (he:DE K W false X e f) (ho:i∈O:=by decide) (hN:X.N[i]? =some x:=by rfl) (hv:Vis X.env.scope x:=by first|exact Or.inl rfl|exact Or.inr (Or.inl rfl)|exact Or.inr (Or.inr rfl)) (hd:(x==("__debug__":Str))=false:=by decide) (hcd:(x==("__classdict__":Str))=false:=by decide) (hK:X.K=K:=by rfl)
  (hst:starEach [e] X.env=[(false,eval e X.env)]:=by rfl) (hbase:attributeBase (.Name x p) "append" X.env (eval (.Name x p) X.env)=eval (.Name x p) X.env:=by rfl) (hfew:((backTo q (starEach [e] X.env)).all (fun x=> !x.1)&&(backToKw q (keywordEach [] X.env)).all (fun x=>x.1.isSome)&&decide ([e].length+([]:List Keyword).length+(if ([]:List Keyword).isEmpty then 0 else 1)<30))=true:=by rfl) (hplain:(backTo q (starEach [] X.env)).any (·.1)=false:=by rfl) (hline:(apos.endLine==q.line)=true:=by rfl) (hsw:swapsWith (.Call (.Attribute (.Name x p) "append" apos) [e] [] q) none pos.line X.env=pure false:=by rfl) :
  DS K W ro X OL O O (.Expr (.Call (.Attribute (.Name x p) "append" apos) [e] [] q) pos) (yo i f):=fun F0 H0=>by
 subst hK
 exact PS.imp (zH (pe_bm PySem.F.plainAttrs_list PySem.F.slot_list_append PySem.F.type_list_append yH (pv i hN hv hd hcd) (bc he fE hst) hbase hfew hline hst hplain) hsw) fun _ _ _=>rs_appA ho
end
end L2
namespace L2
open PySem PySem.Spec PyProof.Rows
section
variable {X:Cx} {K:PySem.W.Frag} {W:iV} {own:Bool}
theorem OpR.imp {f:Value->Value->Sem Value} {r r':R2} (h:OpR X f r) (q:∀x y H Q,r' x y H Q->r x y H Q):OpR X f r':=fun pins s σ H x y v u Q I rx ry z=>h pins s σ H x y v u Q I rx ry (q x y H Q z)
theorem UnR.imp {f:Value->Sem Value} {r r':V->Hp->VK->Prop} (h:UnR X f r) (q:∀x H Q,r' x H Q->r x H Q):UnR X f r':=fun pins s σ H x v Q I rx z=>h pins s σ H x v Q I rx (q x H Q z)
theorem eA.imp {f:Value} {r r':List V->Hp->VK->Prop} (h:eA X f r) (q:∀x H Q,r' x H Q->r x H Q):eA X f r':=fun pins s σ H x v Q I rx z=>h pins s σ H x v Q I rx (q x H Q z)
theorem IxR.imp {r r':R2} (h:IxR X r) (q:∀x y H Q,r' x y H Q->r x y H Q):IxR X r':=fun va sl pins s σ H x y v u Q I rx ry z e=>h va sl pins s σ H x y v u Q I rx ry (q x y H Q z) e
theorem aN.stuck {F H:Hp} {Q:VK} {P:Prop} (p:aN K W own F H (stk) Q):P:=(W.ns p).elim
theorem aN.int {F H:Hp} {Q:VK} {i:Int} (p:aN K W own F H (.ok (.int i)) Q) (s:bp F H):Q (.int i) H:=p _ F H (Step.refl s) (by cases own<;>rfl)
theorem aN.bl {F H:Hp} {Q:VK} {b:Bool} (p:aN K W own F H (.ok (.bl b)) Q) (s:bp F H):Q (.bl b) H:=p _ F H (Step.refl s) (by cases own<;>rfl)
theorem aN.str {F H:Hp} {Q:VK} {x:Str} (p:aN K W own F H (.ok (.str x)) Q) (s:bp F H):Q (.str x) H:=p _ F H (Step.refl s) (by cases own<;>rfl)
theorem aN.tup {F H:Hp} {Q:VK} {ds:List Dat} {xs:List V} {a:Addr} (p:aN K W own F H (.ok (.tup ds)) Q) (s:bp F H) (q:aE K F ds xs) (ha:H a=none):Q (.ref a) (upd H a (.tup xs)):=
 p _ _ _ (Step.lay s ha) (by
  have:cW K (upd F a (.tup xs)) (.tup ds) (.ref a):=⟨a,xs,rfl,SqT.of aP,q.mono (bp.upd (s.free ha))⟩
  cases own<;>exact this)
theorem aN.same {F H:Hp} {Q:VK} {ds:List Dat} {v:V} (p:aN K W own F H (.ok (.tup ds)) Q) (s:bp F H) (q:cW K F (.tup ds) v):Q v H:=p _ F H (Step.refl s) (by cases own<;>exact q)
theorem aN.lst {F H:Hp} {Q:VK} {ds:List Dat} {xs:List V} {a:Addr} (p:aN K W true F H (.ok (.lst ds)) Q) (s:bp F H) (q:aE K F ds xs) (ha:H a=none):Q (.ref a) (upd H a (.lst xs)):=
 p _ F _ (Step.grow s ha) ⟨a,xs,rfl,aP,s.free ha,ha,q⟩
theorem lr {g:Dat->Dat->M Dat} (hg:∀a b,(∃i j,a=.int i/\b=.int j)\/g a b=stk) {x y:V} {H:Hp} {Q:VK} (h:rD2 K W own g x y H Q):∃F i j,bp F H/\x=.int i/\y=.int j/\aN K W own F H (g (.int i) (.int j)) Q:=by
 obtain ⟨F,a,b,s,qa,qb,p⟩:=h
 rcases hg a b with ⟨i,j,rfl,rfl⟩|e
 ·exact ⟨F,i,j,s,qa,qb,p⟩
 ·rw [e] at p;exact p.stuck
theorem zP:Op2 K W own X (binaryOp .Sub) zw:=op_sub.imp fun x y H Q h=>by
 obtain ⟨F,i,j,s,e1,e2,p⟩:=lr (fun a b=>by cases a<;>cases b<;>first|exact .inr rfl|exact .inl ⟨_,_,rfl,rfl⟩) h
 exact ⟨i,j,e1,e2,p.int s⟩
theorem oO:Op2 K W own X (binaryOp .Mult) vt:=op_mul.imp fun x y H Q h=>by
 obtain ⟨F,i,j,s,e1,e2,p⟩:=lr (fun a b=>by cases a<;>cases b<;>first|exact .inr rfl|exact .inl ⟨_,_,rfl,rfl⟩) h
 have p':aN K W own F H (if (gX i||gX j)=true then .ok (.int (i*j)) else stk) Q:=p
 by_cases hc:(gX i||gX j)=true
 ·rw [if_pos hc] at p'
  refine ⟨i,j,e1,e2,?_,p'.int s⟩
  unfold gX at hc
  simp only [Bool.or_eq_true,Bool.and_eq_true,decide_eq_true_eq] at hc
  exact hc
 ·rw [if_neg hc] at p';exact p'.stuck
theorem Dq {j:Int} (h0:0<j) (h1:j<18446744073709551616):j.natAbs.log2<9000:=by
 have a:j.natAbs<2^64:=by omega
 have b:=(Nat.log2_lt (n:=j.natAbs) (k:=64) (by omega)).mpr a
 omega
theorem D8:OpR X (binaryOp .FloorDiv) (rI (fun _ j=>0<j/\j<18446744073709551616) fun i j=>.int (i/j)):=opI fun i j _ _ _ _ _ hc q=>by
 obtain ⟨c1,c2⟩:=hc
 exact floordiv_int (by omega) (by rw [Int.fdiv_eq_ediv_of_nonneg i (by omega)];exact q) (.inl (PyProof.noPylong_of_log2 (Dq c1 c2)))
theorem bL:Op2 K W own X (binaryOp .FloorDiv) ck:=D8.imp fun x y H Q h=>by
 obtain ⟨F,i,j,s,e1,e2,p⟩:=lr (fun a b=>by cases a<;>cases b<;>first|exact .inr rfl|exact .inl ⟨_,_,rfl,rfl⟩) h
 have p':aN K W own F H (if (decide (0<j)&&decide (j<18446744073709551616))=true then .ok (.int (i/j)) else stk) Q:=p
 by_cases hc:(decide (0<j)&&decide (j<18446744073709551616))=true
 ·rw [if_pos hc] at p'
  simp only [Bool.and_eq_true,decide_eq_true_eq] at hc
  exact ⟨i,j,e1,e2,hc,p'.int s⟩
 ·rw [if_neg hc] at p';exact p'.stuck
theorem cf:Op2 K W own X (binaryOp .Mod) jA:=op_mod.imp fun x y H Q h=>by
 obtain ⟨F,i,j,s,e1,e2,p⟩:=lr (fun a b=>by cases a<;>cases b<;>first|exact .inr rfl|exact .inl ⟨_,_,rfl,rfl⟩) h
 have p':aN K W own F H (if 0<j then .ok (.int (i%j)) else stk) Q:=p
 by_cases hc:0<j
 ·rw [if_pos hc] at p'
  exact ⟨i,j,e1,e2,hc,p'.int s⟩
 ·rw [if_neg hc] at p';exact p'.stuck
theorem ph:Op2 K W own X (binaryOp .Pow) wO:=op_pow.imp fun x y H Q h=>by
 obtain ⟨F,i,j,s,e1,e2,p⟩:=lr (fun a b=>by cases a<;>cases b<;>first|exact .inr rfl|exact .inl ⟨_,_,rfl,rfl⟩) h
 have p':aN K W own F H (if (decide (0<=j)&&decide (j<=1000000)&&decide (i.natAbs<2^64))=true then .ok (.int (i^j.toNat)) else stk) Q:=p
 by_cases hc:(decide (0<=j)&&decide (j<=1000000)&&decide (i.natAbs<2^64))=true
 ·rw [if_pos hc] at p'
  simp only [Bool.and_eq_true,decide_eq_true_eq] at hc
  exact ⟨i,j,e1,e2,⟨hc.1.1,hc.1.2,hc.2⟩,p'.int s⟩
 ·rw [if_neg hc] at p';exact p'.stuck
theorem zQ:UnR X (unaryOp .USub) (rD1 K W own negD):=un_neg.imp fun x H Q h=>by
 obtain ⟨F,a,s,qa,p⟩:=h
 cases a with
 |int i=>exact ⟨i,qa,aN.int (own:=own) p s⟩
 |_=>exact aN.stuck p
theorem o_lt:Op2 K W own X (compareOp .Lt) ltD:=op_lt.imp fun x y H Q h=>by
 obtain ⟨F,i,j,s,e1,e2,p⟩:=lr (fun a b=>by cases a<;>cases b<;>first|exact .inr rfl|exact .inl ⟨_,_,rfl,rfl⟩) h
 exact ⟨i,j,e1,e2,p.bl s⟩
theorem AW:Op2 K W own X (compareOp .LtE) leD:=op_le.imp fun x y H Q h=>by
 obtain ⟨F,i,j,s,e1,e2,p⟩:=lr (fun a b=>by cases a<;>cases b<;>first|exact .inr rfl|exact .inl ⟨_,_,rfl,rfl⟩) h
 exact ⟨i,j,e1,e2,p.bl s⟩
theorem o_gt:Op2 K W own X (compareOp .Gt) gtD:=op_gt.imp fun x y H Q h=>by
 obtain ⟨F,i,j,s,e1,e2,p⟩:=lr (fun a b=>by cases a<;>cases b<;>first|exact .inr rfl|exact .inl ⟨_,_,rfl,rfl⟩) h
 exact ⟨i,j,e1,e2,p.bl s⟩
theorem op_catL:OpR X (binaryOp .Add) (fun x y H Q=>∃l b xs zs,x=.ref l/\y=.ref b/\SqL X.K H l xs/\SqL X.K H b zs/\xs.length+zs.length<=sizeLine/\∀p,H p=none->Q (.ref p) (upd H p (.lst (xs++zs)))):=by
 intro pins s σ H x y v u Q I rx ry h
 obtain ⟨l,b,xs,zs,rfl,rfl,hH,hB,hz,q⟩:=h
 cases rx
 cases ry
 obtain ⟨its,r,p1,hl⟩:=I.list hH
 obtain ⟨its2,r2,p2,hl2⟩:=I.list hB
 have z1:=r.length
 have z2:=r2.length
 obtain ⟨⟨cls,dd,data,sl⟩,ho,hc,n,hd⟩:=id p1.isList
 obtain ⟨⟨cls2,dd2,data2,sl2⟩,ho2,hc2,n2,hd2⟩:=id p2.isList
 simp only at hc hd hc2 hd2
 subst hc hd hc2 hd2
 refine concat_meets ⟨_,ho,rfl⟩ ⟨_,ho2,rfl⟩ noFill_list_add seq_list_add PySem.F.slot_list_add PySem.F.entry_list_add (PySem.F.args_list_add_2 _ _) (list_addW l b its.toArray its2.toArray n n2 dd dd2 sl sl2 (by simp only [List.size_toArray];omega)) ⟨ho,ho2,?_⟩
 have ea:its.toArray++its2.toArray=(its++its2).toArray:=by simp
 rw [ea]
 exact ⟨.ref _,_,I.lnew (t':=s.toks) (r.append r2) (by rw [List.length_append];omega),rfl,q _ I.fresh⟩
theorem op_cat3:OpR X (binaryOp .Add) (fun x y H Q=>∃a b xs ys,x=.ref a/\y=.ref b/\SqT X.K H a xs/\SqT X.K H b ys/\xs.length+ys.length<=sizeLine/\(xs=[]->Q (.ref b) H)/\(ys=[]->Q (.ref a) H)/\∀p,H p=none->Q (.ref p) (upd H p (.tup (xs++ys)))):=by
 intro pins s σ H x y v u Q I rx ry h
 obtain ⟨a,b,xs,ys,rfl,rfl,ha,hb,hz,q1,q2,q3⟩:=h
 by_cases hx:xs=[]
 ·subst hx
  cases rx
  cases ry
  obtain ⟨its,r1,p1,_⟩:=I.tuple ha
  obtain ⟨its2,r2,p2,_⟩:=I.tuple hb
  cases r1
  obtain ⟨⟨cls,dd,data,sl⟩,ho,hc,n,hd⟩:=id p1
  obtain ⟨⟨cls2,dd2,data2,sl2⟩,ho2,hc2,n2,hd2⟩:=id p2
  simp only at hc hd hc2 hd2
  subst hc hd hc2 hd2
  exact concat_meets ⟨_,ho,rfl⟩ ⟨_,ho2,rfl⟩ noFill_tuple_add seq_tuple_add PySem.F.slot_tuple_add PySem.F.entry_tuple_add (PySem.F.args_tuple_add_2 _ _)
   (tuple_addW0 a b #[] its2.toArray n n2 dd dd2 sl sl2 rfl) ⟨ho,ho2,⟨.ref b,H,I,rfl,q1 rfl⟩⟩
 ·exact op_catT pins s σ H _ _ v u Q I rx ry ⟨a,b,xs,ys,rfl,rfl,ha,hb,hx,hz,fun e=>q2 e,fun _ p hp=>q3 p hp⟩
theorem cA (hK:X.K=K:=by rfl):Op2 K W true X (binaryOp .Add) fG:=by
 subst hK
 refine (op_add.or (BF.or (op_catL.or op_cat3))).imp fun x y H Q h=>?_
 obtain ⟨F,a,b,s,qa,qb,p⟩:=h
 cases a with
 |int i=>
  cases b with
  |int j=>exact .inl ⟨i,j,qa,qb,p.int s⟩
  |_=>exact aN.stuck p
 |str z=>
  cases b with
  |str w=>
   have p':aN X.K W true F H (if z.length+w.length<=sizeLine then .ok (.str (z++w)) else stk) Q:=p
   by_cases hc:z.length+w.length<=sizeLine
   ·rw [if_pos hc] at p'
    exact .inr (.inl ⟨z,w,qa,qb,hc,p'.str s⟩)
   ·rw [if_neg hc] at p';exact p'.stuck
  |_=>exact aN.stuck p
 |lst ds=>
  cases b with
  |lst es=>
   obtain ⟨a,xs,e1,t1,r1⟩:=qa
   obtain ⟨b,ys,e2,t2,r2⟩:=qb
   have p':aN X.K W true F H (if ds.length+es.length<=sizeLine then .ok (.lst (ds++es)) else stk) Q:=p
   by_cases hc:ds.length+es.length<=sizeLine
   ·rw [if_pos hc] at p'
    exact .inr (.inr (.inl ⟨a,b,xs,ys,e1,e2,s.lst t1,s.lst t2,by rw [r1.length,r2.length];exact hc,fun l hl=>p'.lst s (r1.append r2) hl⟩))
   ·rw [if_neg hc] at p';exact p'.stuck
  |_=>exact aN.stuck p
 |tup ds=>
  cases b with
  |tup es=>
   obtain ⟨a,xs,e1,t1,r1⟩:=qa
   obtain ⟨b,ys,e2,t2,r2⟩:=qb
   have p':aN X.K W true F H (if ds.length+es.length<=sizeLine then .ok (.tup (ds++es)) else stk) Q:=p
   by_cases hc:ds.length+es.length<=sizeLine
   ·rw [if_pos hc] at p'
    refine .inr (.inr (.inr ⟨a,b,xs,ys,e1,e2,s.tup t1,s.tup t2,by rw [r1.length,r2.length];exact hc,fun e=>?_,fun e=>?_,fun l hl=>p'.tup s (r1.append r2) hl⟩))
    ·have z:ds=[]:=by have:=r1.length;rw [e] at this;exact List.length_eq_zero_iff.mp this.symm
     subst z
     exact p'.same s ⟨b,ys,rfl,t2,r2⟩
    ·have z:es=[]:=by have:=r2.length;rw [e] at this;exact List.length_eq_zero_iff.mp this.symm
     subst z
     rw [List.append_nil] at p'
     exact p'.same s ⟨a,xs,rfl,t1,r1⟩
   ·rw [if_neg hc] at p';exact p'.stuck
  |_=>exact aN.stuck p
 |_=>exact aN.stuck p
theorem o_isN:Op2 K W own X (compareOp .Is) isND:=op_isN.imp fun x y H Q h=>by
 obtain ⟨F,a,b,s,qa,qb,p⟩:=h
 have key:∀{k:Bool},isND a b=.ok (.bl k)->b=.non->(decide (x=V.non)=k)->y=V.non/\Q (.bl (decide (x=V.non))) H:=fun {k} e1 e2 e3=>by
  subst e2
  rw [e1] at p
  rw [e3]
  exact ⟨qb,p.bl s⟩
 cases b with
 |non=>
  cases a with
  |non=>exact key rfl rfl (by rw [show x=.non from qa];rfl)
  |bl k=>exact key rfl rfl (by rw [show x=.bl k from qa];rfl)
  |int k=>exact key rfl rfl (by rw [show x=.int k from qa];rfl)
  |str k=>exact key rfl rfl (by rw [show x=.str k from qa];rfl)
  |tup ds=>obtain ⟨l,xs,e,_⟩:=qa;exact key rfl rfl (by rw [e];rfl)
  |lst ds=>obtain ⟨l,xs,e,_⟩:=qa;exact key rfl rfl (by rw [e];rfl)
  |ins C fs=>obtain ⟨l,dx,xs,e,_⟩:=qa;exact key rfl rfl (by rw [e];rfl)
 |_=>cases a<;>exact aN.stuck p
theorem DF {F H:Hp} {Q:VK} {ds:List Dat} {xs:List V} {i:Int} (p:aN K W false F H (kh ds i) Q) (s:bp F H) (r:aE K F ds xs):∃v,atI xs i=some v/\Q v H:=by
 unfold kh at p
 cases e:atI ds i with
 |none=>rw [e] at p;exact aN.stuck p
 |some d=>
  rw [e] at p
  unfold atI at e
  cases hj:ixN ds.length i with
  |none=>rw [hj] at e;cases e
  |some j=>
   rw [hj] at e
   obtain ⟨v,e1,q⟩:=r.get (show ds[j]? =some d from e)
   refine ⟨v,?_,p v F H (Step.refl s) q⟩
   unfold atI
   rw [r.length,hj]
   exact e1
theorem aY (hK:X.K=K:=by rfl):IxR X (rD2 K W false ixD):=by
 subst hK
 refine ix_seq.imp fun x y H Q h=>?_
 obtain ⟨F,a,b,s,qa,qb,p⟩:=h
 cases a with
 |lst ds=>
  cases b with
  |int i=>
   obtain ⟨a,xs,e1,t1,r1⟩:=qa
   obtain ⟨v,e2,q⟩:=DF p s r1
   exact .inl ⟨a,xs,i,v,e1,qb,s.lst t1,e2,q⟩
  |_=>exact aN.stuck p
 |tup ds=>
  cases b with
  |int i=>
   obtain ⟨a,xs,e1,t1,r1⟩:=qa
   obtain ⟨v,e2,q⟩:=DF p s r1
   exact .inr (.inl ⟨a,xs,i,v,e1,qb,s.tup t1,e2,q⟩)
  |_=>exact aN.stuck p
 |_=>exact aN.stuck p
theorem iG (hK:X.K=K:=by rfl):vq K W own X (.builtin "len") qi:=by
 subst hK
 refine pW.imp fun xs H Q h=>?_
 obtain ⟨F,ds,s,q,p⟩:=h
 match ds,q,p with
 |[.lst es],⟨v,vs,e,⟨a,ys,e1,t,r⟩,e2⟩,p=>
  refine ⟨a,ys,by rw [e,e1,show vs=[] from e2],.inl (s.lst t),?_⟩
  rw [r.length]
  exact aN.int (own:=own) p s
 |[.tup es],⟨v,vs,e,⟨a,ys,e1,t,r⟩,e2⟩,p=>
  refine ⟨a,ys,by rw [e,e1,show vs=[] from e2],.inr (s.tup t),?_⟩
  rw [r.length]
  exact aN.int (own:=own) p s
 |[],_,p=>exact aN.stuck p
 |[.non],_,p=>exact aN.stuck p
 |[.bl _],_,p=>exact aN.stuck p
 |[.int _],_,p=>exact aN.stuck p
 |[.str _],_,p=>exact aN.stuck p
 |[.ins _ _],_,p=>exact aN.stuck p
 |.non::_::_,_,p=>exact aN.stuck p
 |.bl _::_::_,_,p=>exact aN.stuck p
 |.int _::_::_,_,p=>exact aN.stuck p
 |.str _::_::_,_,p=>exact aN.stuck p
 |.ins _ _::_::_,_,p=>exact aN.stuck p
 |.lst _::_::_,_,p=>exact aN.stuck p
 |.tup _::_::_,_,p=>exact aN.stuck p
end
end L2
namespace L2
open PySem PySem.Spec PyProof.Rows
section
variable {X:Cx} {K:PySem.W.Frag} {W:iV} {own ro:Bool}
theorem uI {g:List Dat->M Dat} (hg:∀ds,(∃d,ds=[d])\/g ds=stk) {xs:List V} {H:Hp} {Q:VK} (h:rDL K W own g xs H Q):∃F d x,bp F H/\xs=[x]/\cW K F d x/\aN K W own F H (g [d]) Q:=by
 obtain ⟨F,ds,s,q,p⟩:=h
 rcases hg ds with ⟨d,rfl⟩|e
 ·obtain ⟨v,vs,e,q1,e2⟩:=q
  exact ⟨F,d,v,s,by rw [e,show vs=[] from e2],q1,p⟩
 ·rw [e] at p;exact p.stuck
theorem Ct {g:List Dat->M Dat} (hg:∀ds,(∃d,ds=[d])\/(∃d e,ds=[d,e])\/g ds=stk) {xs:List V} {H:Hp} {Q:VK} (h:rDL K W own g xs H Q):(∃F d x,bp F H/\xs=[x]/\cW K F d x/\aN K W own F H (g [d]) Q)\/∃F d e x y,bp F H/\xs=[x,y]/\cW K F d x/\cW K F e y/\aN K W own F H (g [d,e]) Q:=by
 obtain ⟨F,ds,s,q,p⟩:=h
 rcases hg ds with ⟨d,rfl⟩|⟨d,e,rfl⟩|e
 ·obtain ⟨v,vs,e,q1,e2⟩:=q
  exact .inl ⟨F,d,v,s,by rw [e,show vs=[] from e2],q1,p⟩
 ·obtain ⟨v,vs,e1,q1,w,ws,e2,q2,e3⟩:=q
  exact .inr ⟨F,d,e,v,w,s,by rw [e1,e2,show ws=[] from e3],q1,q2,p⟩
 ·rw [e] at p;exact p.stuck
theorem tE {F:Hp}:∀{ds:List Dat} {xs:List V} {bs:List Bool},aE K F ds xs->iu ds=.ok bs->xs=bs.map V.bl
 |[],_,_,q,e=>by cases e;exact q
 |d::ds,_,bs,⟨v,vs,e1,q,r⟩,e=>by
  cases d with
  |bl b=>
   cases e2:iu ds with
   |error x=>simp only [iu,asB,ax,e2,o5] at e;cases e
   |ok cs=>
    simp only [iu,asB,ax,e2] at e
    cases e
    rw [e1,show v=.bl b from q,tE r e2]
    rfl
  |_=>cases e
theorem tF:∀{ds:List Dat} {e:Err},iu ds=.error e->e=.stuck
 |[],_,h=>by cases h
 |d::ds,e,h=>by
  cases d with
  |bl b=>
   cases e2:iu ds with
   |error x=>simp only [iu,asB,ax,e2,o5] at h;cases h;exact tF e2
   |ok cs=>simp only [iu,asB,ax,e2] at h;cases h
  |_=>cases h;rfl
theorem kE {F:Hp}:∀{ds:List Dat} {xs:List V} {bs:List Int},aE K F ds xs->dq ds=.ok bs->xs=bs.map V.int
 |[],_,_,q,e=>by cases e;exact q
 |d::ds,_,bs,⟨v,vs,e1,q,r⟩,e=>by
  cases d with
  |int b=>
   cases e2:dq ds with
   |error x=>simp only [dq,asI,ax,e2,o5] at e;cases e
   |ok cs=>
    simp only [dq,asI,ax,e2] at e
    cases e
    rw [e1,show v=.int b from q,kE r e2]
    rfl
  |_=>cases e
theorem mU:∀{ds:List Dat} {e:Err},dq ds=.error e->e=.stuck
 |[],_,h=>by cases h
 |d::ds,e,h=>by
  cases d with
  |int b=>
   cases e2:dq ds with
   |error x=>simp only [dq,asI,ax,e2,o5] at h;cases h;exact mU e2
   |ok cs=>simp only [dq,asI,ax,e2] at h;cases h
  |_=>cases h;rfl
theorem c_all (hc:X.calm=true) (hK:X.K=K:=by rfl):vq K W own X (.builtin "all") allD:=by
 subst hK
 refine (call_all hc).imp fun xs H Q h=>?_
 obtain ⟨F,d,x,s,e,q,p⟩:=uI (fun ds=>by match ds with|[d]=>exact .inl ⟨d,rfl⟩|[]=>exact .inr rfl|a::b::c=>exact .inr (by cases a<;>rfl)) h
 cases d with
 |lst ds=>
  obtain ⟨a,ys,e1,t,r⟩:=q
  have p':aN X.K W own F H ((iu ds).bind fun bs=>.ok (.bl (bs.all id))) Q:=p
  cases eb:iu ds with
  |error z=>rw [eb] at p';have:=tF eb;subst this;exact aN.stuck p'
  |ok bs=>
   rw [eb] at p'
   refine ⟨a,bs,by rw [e,e1],?_,aN.bl (own:=own) p' s⟩
   rw [<- tE r eb]
   exact s.lst t
 |_=>exact aN.stuck p
theorem c_any (hc:X.calm=true) (hK:X.K=K:=by rfl):vq K W own X (.builtin "any") anyD:=by
 subst hK
 refine (call_any hc).imp fun xs H Q h=>?_
 obtain ⟨F,d,x,s,e,q,p⟩:=uI (fun ds=>by match ds with|[d]=>exact .inl ⟨d,rfl⟩|[]=>exact .inr rfl|a::b::c=>exact .inr (by cases a<;>rfl)) h
 cases d with
 |lst ds=>
  obtain ⟨a,ys,e1,t,r⟩:=q
  have p':aN X.K W own F H ((iu ds).bind fun bs=>.ok (.bl (bs.any id))) Q:=p
  cases eb:iu ds with
  |error z=>rw [eb] at p';have:=tF eb;subst this;exact aN.stuck p'
  |ok bs=>
   rw [eb] at p'
   refine ⟨a,bs,by rw [e,e1],?_,aN.bl (own:=own) p' s⟩
   rw [<- tE r eb]
   exact s.lst t
 |_=>exact aN.stuck p
theorem c_list (hK:X.K=K:=by rfl):vq K W true X (.type "list") yJ:=by
 subst hK
 refine ze.imp fun xs H Q h=>?_
 obtain ⟨F,d,x,s,e,q,p⟩:=uI (fun ds=>by match ds with|[d]=>exact .inl ⟨d,rfl⟩|[]=>exact .inr rfl|a::b::c=>exact .inr (by cases a<;>rfl)) h
 cases d with
 |lst ds=>
  obtain ⟨a,ys,e1,t,r⟩:=q
  exact ⟨a,ys,by rw [e,e1],.inl (s.lst t),fun l hl=>aN.lst p s r hl⟩
 |tup ds=>
  obtain ⟨a,ys,e1,t,r⟩:=q
  exact ⟨a,ys,by rw [e,e1],.inr (s.tup t),fun l hl=>aN.lst p s r hl⟩
 |_=>exact aN.stuck p
theorem c_int:vq K W own X (.type "int") intD:=Ej.imp fun xs H Q h=>by
 obtain ⟨F,d,x,s,e,q,p⟩:=uI (fun ds=>by match ds with|[d]=>exact .inl ⟨d,rfl⟩|[]=>exact .inr rfl|a::b::c=>exact .inr (by cases a<;>rfl)) h
 cases d with
 |int i=>exact .inl ⟨i,by rw [e,show x=.int i from q],aN.int (own:=own) p s⟩
 |bl b=>exact .inr ⟨b,by rw [e,show x=.bl b from q],aN.int (own:=own) p s⟩
 |_=>exact aN.stuck p
theorem fold_max:∀(is:List Int) (i:Int),(is.foldl oH i=i\/is.foldl oH i∈is)/\i<=is.foldl oH i/\∀a∈is,a<=is.foldl oH i
 |[],i=>⟨.inl rfl,Int.le_refl _,fun _ h=>nomatch h⟩
 |j::is,i=>by
  obtain ⟨h1,h2,h3⟩:=fold_max is (oH i j)
  have z:(oH i j=i\/oH i j=j)/\i<=oH i j/\j<=oH i j:=by unfold oH;split<;>(refine ⟨?_,?_,?_⟩<;>first|exact .inl rfl|exact .inr rfl|omega)
  rw [List.foldl_cons]
  refine ⟨?_,Int.le_trans z.2.1 h2,fun a ha=>?_⟩
  ·rcases h1 with h1|h1
   ·rw [h1]
    rcases z.1 with z|z
    ·exact .inl z
    ·exact .inr (by rw [z];exact List.mem_cons_self)
   ·exact .inr (List.mem_cons_of_mem _ h1)
  ·rcases List.mem_cons.mp ha with e|e
   ·rw [e];exact Int.le_trans z.2.2 h2
   ·exact h3 a e
theorem fold_min:∀(is:List Int) (i:Int),(is.foldl ll i=i\/is.foldl ll i∈is)/\is.foldl ll i<=i/\∀a∈is,is.foldl ll i<=a
 |[],i=>⟨.inl rfl,Int.le_refl _,fun _ h=>nomatch h⟩
 |j::is,i=>by
  obtain ⟨h1,h2,h3⟩:=fold_min is (ll i j)
  have z:(ll i j=i\/ll i j=j)/\ll i j<=i/\ll i j<=j:=by unfold ll;split<;>(refine ⟨?_,?_,?_⟩<;>first|exact .inl rfl|exact .inr rfl|omega)
  rw [List.foldl_cons]
  refine ⟨?_,Int.le_trans h2 z.2.1,fun a ha=>?_⟩
  ·rcases h1 with h1|h1
   ·rw [h1]
    rcases z.1 with z|z
    ·exact .inl z
    ·exact .inr (by rw [z];exact List.mem_cons_self)
   ·exact .inr (List.mem_cons_of_mem _ h1)
  ·rcases List.mem_cons.mp ha with e|e
   ·rw [e];exact Int.le_trans h2 z.2.2
   ·exact h3 a e
theorem zY {is:List Int} {i m:Int} (h1:m∈i::is) (h2:∀a∈i::is,a<=m):is.foldl oH i=m:=by
 obtain ⟨g1,g2,g3⟩:=fold_max is i
 have a1:is.foldl oH i<=m:=by
  rcases g1 with g|g
  ·rw [g];exact h2 i List.mem_cons_self
  ·exact h2 _ (List.mem_cons_of_mem _ g)
 have a2:m<=is.foldl oH i:=by
  rcases List.mem_cons.mp h1 with e|e
  ·rw [e];exact g2
  ·exact g3 m e
 omega
theorem zX {is:List Int} {i m:Int} (h1:m∈i::is) (h2:∀a∈i::is,m<=a):is.foldl ll i=m:=by
 obtain ⟨g1,g2,g3⟩:=fold_min is i
 have a1:m<=is.foldl ll i:=by
  rcases g1 with g|g
  ·rw [g];exact h2 i List.mem_cons_self
  ·exact h2 _ (List.mem_cons_of_mem _ g)
 have a2:is.foldl ll i<=m:=by
  rcases List.mem_cons.mp h1 with e|e
  ·rw [e];exact g2
  ·exact g3 m e
 omega
theorem Eh (hc:X.calm=true):eA X (.builtin "max") (fun xs H Q=>∃a i is,xs=[.ref a]/\SqL X.K H a ((i::is).map V.int)/\Q (.int (is.foldl oH i)) H):=by
 intro pins s σ H xs us Q I r h
 obtain ⟨a,i,is,rfl,hq,q⟩:=h
 obtain ⟨u,rfl,ru⟩:=r.one
 cases ru
 obtain ⟨its,rv,p,hz⟩:=I.list hq
 have hi:=intsAre_of rv
 obtain ⟨xs,e⟩:=hi.allInts.items
 have hns:i::is=xs.toList.map (·.1):=by rw [<- hi.numsOf,<- nums_intItems,<- e]
 have hsz:0<xs.size:=by
  have h3:=congrArg List.length hns
  simp at h3
  omega
 have hl:=p.isList
 rw [e] at hl
 refine max_intList (I.ok.hd hc) hl hsz fun v h' tk hv hk=>?_
 obtain ⟨t,rfl⟩:=intItems_at hv
 obtain ⟨h1,h2⟩:=argBest_gt (numAt xs) (xs.size-1)
 refine ⟨.int _,H,I.kept hk,⟨t,rfl⟩,?_⟩
 have:=zY (is:=is) (i:=i) (m:=numAt xs (argBest (fun i j=>decide (numAt xs i>numAt xs j)) (xs.size-1))) (by
   rw [hns,numAt_eq];exact getD_mem (by rw [List.length_map,Array.length_toList];omega)) (fun a ha=>by
   rw [hns] at ha
   obtain ⟨j,hj,rfl⟩:=mem_getD ha
   rw [List.length_map,Array.length_toList] at hj
   rw [<- numAt_eq];exact h2 j (by omega))
 rw [<- this]
 exact q
theorem Ef (hc:X.calm=true):eA X (.builtin "min") (fun xs H Q=>∃a i is,xs=[.ref a]/\SqL X.K H a ((i::is).map V.int)/\Q (.int (is.foldl ll i)) H):=by
 intro pins s σ H xs us Q I r h
 obtain ⟨a,i,is,rfl,hq,q⟩:=h
 obtain ⟨u,rfl,ru⟩:=r.one
 cases ru
 obtain ⟨its,rv,p,hz⟩:=I.list hq
 have hi:=intsAre_of rv
 obtain ⟨xs,e⟩:=hi.allInts.items
 have hns:i::is=xs.toList.map (·.1):=by rw [<- hi.numsOf,<- nums_intItems,<- e]
 have hsz:0<xs.size:=by
  have h3:=congrArg List.length hns
  simp at h3
  omega
 have hl:=p.isList
 rw [e] at hl
 refine min_intList (I.ok.hd hc) hl hsz fun v h' tk hv hk=>?_
 obtain ⟨t,rfl⟩:=intItems_at hv
 obtain ⟨h1,h2⟩:=argBest_lt (numAt xs) (xs.size-1)
 refine ⟨.int _,H,I.kept hk,⟨t,rfl⟩,?_⟩
 have:=zX (is:=is) (i:=i) (m:=numAt xs (argBest (fun i j=>decide (numAt xs i<numAt xs j)) (xs.size-1))) (by
   rw [hns,numAt_eq];exact getD_mem (by rw [List.length_map,Array.length_toList];omega)) (fun a ha=>by
   rw [hns] at ha
   obtain ⟨j,hj,rfl⟩:=mem_getD ha
   rw [List.length_map,Array.length_toList] at hj
   rw [<- numAt_eq];exact h2 j (by omega))
 rw [<- this]
 exact q
theorem c_max (hc:X.calm=true) (hK:X.K=K:=by rfl):vq K W own X (.builtin "max") maxD:=by
 subst hK
 refine ((Ei hc).or (Eh hc)).imp fun xs H Q h=>?_
 rcases Ct (fun ds=>by match ds with|[d]=>exact .inl ⟨d,rfl⟩|[d,e]=>exact .inr (.inl ⟨d,e,rfl⟩)|[]=>exact .inr (.inr rfl)|a::b::c::d=>exact .inr (.inr (by cases a<;>cases b<;>rfl))) h with ⟨F,d,x,s,e,q,p⟩|⟨F,d,d2,x,y,s,e,q,q2,p⟩
 ·cases d with
  |lst ds=>
   obtain ⟨a,ys,e1,t,r⟩:=q
   have p':aN X.K W own F H ((dq ds).bind maxL) Q:=p
   cases eb:dq ds with
   |error z=>rw [eb] at p';have:=mU eb;subst this;exact aN.stuck p'
   |ok is=>
    rw [eb] at p'
    cases is with
    |nil=>exact aN.stuck p'
    |cons i is=>
     refine .inr ⟨a,i,is,by rw [e,e1],?_,aN.int (own:=own) p' s⟩
     rw [<- kE r eb]
     exact s.lst t
  |_=>exact aN.stuck p
 ·cases d with
  |int i=>
   cases d2 with
   |int j=>exact .inl ⟨i,j,by rw [e,show x=.int i from q,show y=.int j from q2],aN.int (own:=own) p s⟩
   |_=>exact aN.stuck p
  |_=>cases d2<;>exact aN.stuck p
theorem c_min (hc:X.calm=true) (hK:X.K=K:=by rfl):vq K W own X (.builtin "min") minD:=by
 subst hK
 refine ((Eg hc).or (Ef hc)).imp fun xs H Q h=>?_
 rcases Ct (fun ds=>by match ds with|[d]=>exact .inl ⟨d,rfl⟩|[d,e]=>exact .inr (.inl ⟨d,e,rfl⟩)|[]=>exact .inr (.inr rfl)|a::b::c::d=>exact .inr (.inr (by cases a<;>cases b<;>rfl))) h with ⟨F,d,x,s,e,q,p⟩|⟨F,d,d2,x,y,s,e,q,q2,p⟩
 ·cases d with
  |lst ds=>
   obtain ⟨a,ys,e1,t,r⟩:=q
   have p':aN X.K W own F H ((dq ds).bind minL) Q:=p
   cases eb:dq ds with
   |error z=>rw [eb] at p';have:=mU eb;subst this;exact aN.stuck p'
   |ok is=>
    rw [eb] at p'
    cases is with
    |nil=>exact aN.stuck p'
    |cons i is=>
     refine .inr ⟨a,i,is,by rw [e,e1],?_,aN.int (own:=own) p' s⟩
     rw [<- kE r eb]
     exact s.lst t
  |_=>exact aN.stuck p
 ·cases d with
  |int i=>
   cases d2 with
   |int j=>exact .inl ⟨i,j,by rw [e,show x=.int i from q,show y=.int j from q2],aN.int (own:=own) p s⟩
   |_=>exact aN.stuck p
  |_=>cases d2<;>exact aN.stuck p
end
section
variable {X:Cx} {K:PySem.W.Frag} {W:iV} {own ro:Bool}
theorem SqL.inj {pins:List (Addr×Obj)} {σ:St} {H:Hp} {s:Shared} {a:Addr} {xs ys:List V} (I:Inv X pins σ H s) (h:SqL X.K H a xs) (h':SqL X.K H a ys):xs=ys:=by
 obtain ⟨i1,r1,p1,_⟩:=I.list h
 obtain ⟨i2,r2,p2,_⟩:=I.list h'
 obtain ⟨o,n,e,_,_,d⟩:=p1
 obtain ⟨o',n',e',_,_,d'⟩:=p2
 rw [e] at e'
 cases e'
 rw [d] at d'
 injection d' with d1 _
 have:i1=i2:=by simpa using congrArg Array.toList d1
 subst this
 exact r1.inj r2
theorem SqT.inj {pins:List (Addr×Obj)} {σ:St} {H:Hp} {s:Shared} {a:Addr} {xs ys:List V} (I:Inv X pins σ H s) (h:SqT X.K H a xs) (h':SqT X.K H a ys):xs=ys:=by
 obtain ⟨i1,r1,p1,_⟩:=I.tuple h
 obtain ⟨i2,r2,p2,_⟩:=I.tuple h'
 obtain ⟨o,e,_,n,d⟩:=p1
 obtain ⟨o',e',_,n',d'⟩:=p2
 rw [e] at e'
 cases e'
 rw [d] at d'
 injection d' with d1 _
 have:i1=i2:=by simpa using congrArg Array.toList d1
 subst this
 exact r1.inj r2
theorem aE.all_eq {F:Hp} (e:Nat->Bool):∀{ds es:List Dat},ds.length=es.length->(∀(j:Nat) a b,ds[j]? =some a->es[j]? =some b->e j=eqD a b)->(List.range ds.length).all e=B7 ds es:=by
 intro ds
 induction ds generalizing e with
 |nil=>intro es h _;cases es with
  |nil=>rfl
  |cons _ _=>simp at h
 |cons d ds ih=>
  intro es h q
  cases es with
  |nil=>simp at h
  |cons b es=>
   rw [List.length_cons,List.range_succ_eq_map,List.all_cons,List.all_map,B7]
   rw [q 0 d b rfl rfl]
   congr 1
   exact ih (e∘Nat.succ) (by simpa using h) fun j x y hx hy=>q (j+1) x y (by simpa using hx) (by simpa using hy)
theorem rP:∀{ds es:List Dat},ds.length≠es.length->B7 ds es=false
 |[],[],h=>absurd rfl h
 |[],_::_,_=>rfl
 |_::_,[],_=>rfl
 |d::ds,e::es,h=>by
  rw [B7,rP (ds:=ds) (es:=es) (fun z=>h (by simp [z])),Bool.and_false]
theorem xv (e:Nat->Bool):∀{ds es:List Dat},(∀(j:Nat) a b,ds[j]? =some a->es[j]? =some b->e j=eqD a b)->((List.range (min ds.length es.length)).all e&&ds.length==es.length)=B7 ds es:=by
 intro ds es q
 by_cases hl:ds.length=es.length
 ·have e1:min ds.length es.length=ds.length:=by omega
  rw [e1,aE.all_eq (F:=fun _=>none) e hl q,hl,beq_self_eq_true,Bool.and_true]
 ·rw [rP hl]
  have:(ds.length==es.length)=false:=by simpa using hl
  rw [this,Bool.and_false]
mutual
theorem xw:∀{d:Dat} {n:Nat},okE d n=true->eqD d d=true
 |.non,_,_=>rfl
 |.bl b,_,_=>by simp [eqD]
 |.int i,_,_=>by simp [eqD]
 |.str x,_,_=>by simp [eqD]
 |.tup ds,0,h=>by simp [okE] at h
 |.tup ds,n+1,h=>by simp only [okE] at h;simp only [eqD];exact v9 h
 |.lst ds,0,h=>by simp [okE] at h
 |.lst ds,n+1,h=>by simp only [okE] at h;simp only [eqD];exact v9 h
 |.ins _ _,_,h=>by simp [okE] at h
theorem v9:∀{ds:List Dat} {n:Nat},kg ds n=true->B7 ds ds=true
 |[],_,_=>rfl
 |d::ds,n,h=>by
  simp only [kg,Bool.and_eq_true] at h
  simp only [B7,xw h.1,v9 h.2,Bool.and_self]
end
theorem fg:∀{ds:List Dat} {n i:Nat} {d:Dat},kg ds n=true->ds[i]? =some d->okE d n=true
 |[],_,_,_,_,h=>by simp at h
 |_::_,_,0,_,h,e=>by
  simp only [kg,Bool.and_eq_true] at h
  simp at e
  rw [<- e];exact h.1
 |_::_,_,i+1,_,h,e=>by
  simp only [kg,Bool.and_eq_true] at h
  exact fg h.2 (by simpa using e)
end
noncomputable def jX (ds es:List Dat) (j:Nat):Bool:=match ds[j]?,es[j]? with
 |some a,some b=>eqD a b
 |_,_=>true
section
variable {X:Cx}
mutual
theorem deep_inj {pins:List (Addr×Obj)} {σ:St} {F H:Hp} {s:Shared} (I:Inv X pins σ H s) (hF:bp F H):∀(d e:Dat) {v:V} {n:Nat},cW X.K F d v->cW X.K F e v->okE d n=true->okE e n=true->d=e
 |.non,.non,v,n,q,r,o1,o2=>by
   rfl
 |.non,.bl b,v,n,q,r,o1,o2=>by
   have e1:v=.non:=q
   have e2:v=.bl b:=r
   rw [e1] at e2
   cases e2
 |.non,.int b,v,n,q,r,o1,o2=>by
   have e1:v=.non:=q
   have e2:v=.int b:=r
   rw [e1] at e2
   cases e2
 |.non,.str b,v,n,q,r,o1,o2=>by
   have e1:v=.non:=q
   have e2:v=.str b:=r
   rw [e1] at e2
   cases e2
 |.non,.tup es,v,n,q,r,o1,o2=>by
   have e1:v=.non:=q
   obtain ⟨l,xs,e2,_⟩:=r
   rw [e1] at e2
   cases e2
 |.non,.lst es,v,n,q,r,o1,o2=>by
   have e1:v=.non:=q
   obtain ⟨l,xs,e2,_⟩:=r
   rw [e1] at e2
   cases e2
 |.bl a,.non,v,n,q,r,o1,o2=>by
   have e1:v=.bl a:=q
   have e2:v=.non:=r
   rw [e1] at e2
   cases e2
 |.bl a,.bl b,v,n,q,r,o1,o2=>by
   have e1:v=.bl a:=q
   have e2:v=.bl b:=r
   rw [e1] at e2
   cases e2
   rfl
 |.bl a,.int b,v,n,q,r,o1,o2=>by
   have e1:v=.bl a:=q
   have e2:v=.int b:=r
   rw [e1] at e2
   cases e2
 |.bl a,.str b,v,n,q,r,o1,o2=>by
   have e1:v=.bl a:=q
   have e2:v=.str b:=r
   rw [e1] at e2
   cases e2
 |.bl a,.tup es,v,n,q,r,o1,o2=>by
   have e1:v=.bl a:=q
   obtain ⟨l,xs,e2,_⟩:=r
   rw [e1] at e2
   cases e2
 |.bl a,.lst es,v,n,q,r,o1,o2=>by
   have e1:v=.bl a:=q
   obtain ⟨l,xs,e2,_⟩:=r
   rw [e1] at e2
   cases e2
 |.int a,.non,v,n,q,r,o1,o2=>by
   have e1:v=.int a:=q
   have e2:v=.non:=r
   rw [e1] at e2
   cases e2
 |.int a,.bl b,v,n,q,r,o1,o2=>by
   have e1:v=.int a:=q
   have e2:v=.bl b:=r
   rw [e1] at e2
   cases e2
 |.int a,.int b,v,n,q,r,o1,o2=>by
   have e1:v=.int a:=q
   have e2:v=.int b:=r
   rw [e1] at e2
   cases e2
   rfl
 |.int a,.str b,v,n,q,r,o1,o2=>by
   have e1:v=.int a:=q
   have e2:v=.str b:=r
   rw [e1] at e2
   cases e2
 |.int a,.tup es,v,n,q,r,o1,o2=>by
   have e1:v=.int a:=q
   obtain ⟨l,xs,e2,_⟩:=r
   rw [e1] at e2
   cases e2
 |.int a,.lst es,v,n,q,r,o1,o2=>by
   have e1:v=.int a:=q
   obtain ⟨l,xs,e2,_⟩:=r
   rw [e1] at e2
   cases e2
 |.str a,.non,v,n,q,r,o1,o2=>by
   have e1:v=.str a:=q
   have e2:v=.non:=r
   rw [e1] at e2
   cases e2
 |.str a,.bl b,v,n,q,r,o1,o2=>by
   have e1:v=.str a:=q
   have e2:v=.bl b:=r
   rw [e1] at e2
   cases e2
 |.str a,.int b,v,n,q,r,o1,o2=>by
   have e1:v=.str a:=q
   have e2:v=.int b:=r
   rw [e1] at e2
   cases e2
 |.str a,.str b,v,n,q,r,o1,o2=>by
   have e1:v=.str a:=q
   have e2:v=.str b:=r
   rw [e1] at e2
   cases e2
   rfl
 |.str a,.tup es,v,n,q,r,o1,o2=>by
   have e1:v=.str a:=q
   obtain ⟨l,xs,e2,_⟩:=r
   rw [e1] at e2
   cases e2
 |.str a,.lst es,v,n,q,r,o1,o2=>by
   have e1:v=.str a:=q
   obtain ⟨l,xs,e2,_⟩:=r
   rw [e1] at e2
   cases e2
 |.tup ds,.non,v,n,q,r,o1,o2=>by
   have e1:v=.non:=r
   obtain ⟨l,xs,e2,_⟩:=q
   rw [e1] at e2
   cases e2
 |.tup ds,.bl b,v,n,q,r,o1,o2=>by
   have e1:v=.bl b:=r
   obtain ⟨l,xs,e2,_⟩:=q
   rw [e1] at e2
   cases e2
 |.tup ds,.int b,v,n,q,r,o1,o2=>by
   have e1:v=.int b:=r
   obtain ⟨l,xs,e2,_⟩:=q
   rw [e1] at e2
   cases e2
 |.tup ds,.str b,v,n,q,r,o1,o2=>by
   have e1:v=.str b:=r
   obtain ⟨l,xs,e2,_⟩:=q
   rw [e1] at e2
   cases e2
 |.tup ds,.tup es,v,n,q,r,o1,o2=>by
   obtain ⟨l,xs,e1,h1,r1⟩:=q
   obtain ⟨l2,ys,e2,h2,r2⟩:=r
   rw [e1] at e2
   cases e2
   have e3:=SqT.inj I (hF.tup h1) (hF.tup h2)
   subst e3
   cases n with
   |zero=>exact absurd o1 (by simp [okE])
   |succ n=>rw [pT I hF ds es r1 r2 (by simpa only [okE] using o1) (by simpa only [okE] using o2)]
 |.tup ds,.lst es,v,n,q,r,o1,o2=>by
   obtain ⟨l,xs,e1,h1,r1⟩:=q
   obtain ⟨l2,ys,e2,h2,r2⟩:=r
   rw [e1] at e2
   cases e2
   obtain ⟨i1,_,p1,_⟩:=I.list (hF.lst h2)
   obtain ⟨i2,_,p2,_⟩:=I.tuple (hF.tup h1)
   exact absurd rfl (SeqAt.ne_of_list_tuple p1.isList (show s.heap.IsTuple l i2.toArray from p2))
 |.lst ds,.non,v,n,q,r,o1,o2=>by
   have e1:v=.non:=r
   obtain ⟨l,xs,e2,_⟩:=q
   rw [e1] at e2
   cases e2
 |.lst ds,.bl b,v,n,q,r,o1,o2=>by
   have e1:v=.bl b:=r
   obtain ⟨l,xs,e2,_⟩:=q
   rw [e1] at e2
   cases e2
 |.lst ds,.int b,v,n,q,r,o1,o2=>by
   have e1:v=.int b:=r
   obtain ⟨l,xs,e2,_⟩:=q
   rw [e1] at e2
   cases e2
 |.lst ds,.str b,v,n,q,r,o1,o2=>by
   have e1:v=.str b:=r
   obtain ⟨l,xs,e2,_⟩:=q
   rw [e1] at e2
   cases e2
 |.lst ds,.tup es,v,n,q,r,o1,o2=>by
   obtain ⟨l,xs,e1,h1,r1⟩:=q
   obtain ⟨l2,ys,e2,h2,r2⟩:=r
   rw [e1] at e2
   cases e2
   obtain ⟨i1,_,p1,_⟩:=I.list (hF.lst h1)
   obtain ⟨i2,_,p2,_⟩:=I.tuple (hF.tup h2)
   exact absurd rfl (SeqAt.ne_of_list_tuple p1.isList (show s.heap.IsTuple l i2.toArray from p2))
 |.lst ds,.lst es,v,n,q,r,o1,o2=>by
   obtain ⟨l,xs,e1,h1,r1⟩:=q
   obtain ⟨l2,ys,e2,h2,r2⟩:=r
   rw [e1] at e2
   cases e2
   have e3:=SqL.inj I (hF.lst h1) (hF.lst h2)
   subst e3
   cases n with
   |zero=>exact absurd o1 (by simp [okE])
   |succ n=>rw [pT I hF ds es r1 r2 (by simpa only [okE] using o1) (by simpa only [okE] using o2)]
 |.ins _ _,_,_,_,_,_,o1,_=>by simp [okE] at o1
 |_,.ins _ _,_,_,_,_,_,o2=>by simp [okE] at o2
theorem pT {pins:List (Addr×Obj)} {σ:St} {F H:Hp} {s:Shared} (I:Inv X pins σ H s) (hF:bp F H):∀(ds es:List Dat) {xs:List V} {n:Nat},aE X.K F ds xs->aE X.K F es xs->kg ds n=true->kg es n=true->ds=es
 |[],[],_,_,_,_,_,_=>rfl
 |[],_::_,_,_,q,⟨_,_,e,_⟩,_,_=>by rw [show _=[] from q] at e;cases e
 |_::_,[],_,_,⟨_,_,e,_⟩,q,_,_=>by rw [show _=[] from q] at e;cases e
 |d::ds,e::es,_,n,⟨v,vs,e1,q1,r1⟩,⟨w,ws,e2,q2,r2⟩,o1,o2=>by
  rw [e1] at e2
  cases e2
  simp only [kg,Bool.and_eq_true] at o1 o2
  rw [deep_inj I hF d e q1 q2 o1.1 o2.1,pT I hF ds es r1 r2 o1.2 o2.2]
end
end
section
variable {X:Cx} {K:PySem.W.Frag} {W:iV} {own ro:Bool}
mutual
theorem DX {pins:List (Addr×Obj)} {σ:St} {F H:Hp} {s:Shared} (I:Inv X pins σ H s) (hF:bp F H):∀(a b:Dat) {n:Nat} {x y:V} {u v:Value} {A:Around},okE a n=true->okE b n=true->cW X.K F a x->cW X.K F b y->RelV x u->RelV y v->A.units+n<cLine->SeqAt.EqAt A s u v (eqD a b)
 |.non,.non,n,x,y,u,v,A,oa,ob,qa,qb,ra,rb,hu=>by
   cases (show x=.non from qa)
   cases ra
   cases (show y=.non from qb)
   cases rb
   exact SeqAt.EqAt.same _
 |.non,.bl b,n,x,y,u,v,A,oa,ob,qa,qb,ra,rb,hu=>by
   cases (show x=.non from qa)
   cases ra
   cases (show y=.bl b from qb)
   cases rb
   exact SeqAt.EqAt.none_bool b
 |.non,.int b,n,x,y,u,v,A,oa,ob,qa,qb,ra,rb,hu=>by
   cases (show x=.non from qa)
   cases ra
   cases (show y=.int b from qb)
   obtain ⟨t2,rfl⟩:=rb
   exact SeqAt.EqAt.none_int b t2
 |.non,.str b,n,x,y,u,v,A,oa,ob,qa,qb,ra,rb,hu=>by
   cases (show x=.non from qa)
   cases ra
   cases (show y=.str b from qb)
   obtain ⟨t2,rfl⟩:=rb
   exact SeqAt.EqAt.none_str b t2
 |.non,.tup es,n,x,y,u,v,A,oa,ob,qa,qb,ra,rb,hu=>by
   cases (show x=.non from qa)
   cases ra
   obtain ⟨l2,ys,e2,h2,r2⟩:=qb
   subst e2
   cases rb
   obtain ⟨js,w2,p2,_⟩:=I.tuple (hF.tup h2)
   exact SeqAt.EqAt.none_tuple (show s.heap.IsTuple l2 js.toArray from p2) (by omega)
 |.non,.lst es,n,x,y,u,v,A,oa,ob,qa,qb,ra,rb,hu=>by
   cases (show x=.non from qa)
   cases ra
   obtain ⟨l2,ys,e2,h2,r2⟩:=qb
   subst e2
   cases rb
   obtain ⟨js,w2,p2,_⟩:=I.list (hF.lst h2)
   exact SeqAt.EqAt.none_list p2.isList (by omega)
 |.bl a,.non,n,x,y,u,v,A,oa,ob,qa,qb,ra,rb,hu=>by
   cases (show x=.bl a from qa)
   cases ra
   cases (show y=.non from qb)
   cases rb
   exact SeqAt.EqAt.bool_none a
 |.bl a,.bl b,n,x,y,u,v,A,oa,ob,qa,qb,ra,rb,hu=>by
   cases (show x=.bl a from qa)
   cases ra
   cases (show y=.bl b from qb)
   cases rb
   exact SeqAt.EqAt.bool_bool a b
 |.bl a,.int b,n,x,y,u,v,A,oa,ob,qa,qb,ra,rb,hu=>by
   cases (show x=.bl a from qa)
   cases ra
   cases (show y=.int b from qb)
   obtain ⟨t2,rfl⟩:=rb
   exact SeqAt.EqAt.bool_int a b t2
 |.bl a,.str b,n,x,y,u,v,A,oa,ob,qa,qb,ra,rb,hu=>by
   cases (show x=.bl a from qa)
   cases ra
   cases (show y=.str b from qb)
   obtain ⟨t2,rfl⟩:=rb
   exact SeqAt.EqAt.bool_str a b t2
 |.bl a,.tup es,n,x,y,u,v,A,oa,ob,qa,qb,ra,rb,hu=>by
   cases (show x=.bl a from qa)
   cases ra
   obtain ⟨l2,ys,e2,h2,r2⟩:=qb
   subst e2
   cases rb
   obtain ⟨js,w2,p2,_⟩:=I.tuple (hF.tup h2)
   exact SeqAt.EqAt.bool_tuple a (show s.heap.IsTuple l2 js.toArray from p2) (by omega)
 |.bl a,.lst es,n,x,y,u,v,A,oa,ob,qa,qb,ra,rb,hu=>by
   cases (show x=.bl a from qa)
   cases ra
   obtain ⟨l2,ys,e2,h2,r2⟩:=qb
   subst e2
   cases rb
   obtain ⟨js,w2,p2,_⟩:=I.list (hF.lst h2)
   exact SeqAt.EqAt.bool_list a p2.isList (by omega)
 |.int a,.non,n,x,y,u,v,A,oa,ob,qa,qb,ra,rb,hu=>by
   cases (show x=.int a from qa)
   obtain ⟨t1,rfl⟩:=ra
   cases (show y=.non from qb)
   cases rb
   exact SeqAt.EqAt.int_none a t1
 |.int a,.bl b,n,x,y,u,v,A,oa,ob,qa,qb,ra,rb,hu=>by
   cases (show x=.int a from qa)
   obtain ⟨t1,rfl⟩:=ra
   cases (show y=.bl b from qb)
   cases rb
   exact SeqAt.EqAt.int_bool a t1 b
 |.int a,.int b,n,x,y,u,v,A,oa,ob,qa,qb,ra,rb,hu=>by
   cases (show x=.int a from qa)
   obtain ⟨t1,rfl⟩:=ra
   cases (show y=.int b from qb)
   obtain ⟨t2,rfl⟩:=rb
   exact SeqAt.EqAt.int_int a t1 b t2
 |.int a,.str b,n,x,y,u,v,A,oa,ob,qa,qb,ra,rb,hu=>by
   cases (show x=.int a from qa)
   obtain ⟨t1,rfl⟩:=ra
   cases (show y=.str b from qb)
   obtain ⟨t2,rfl⟩:=rb
   exact SeqAt.EqAt.int_str a t1 b t2
 |.int a,.tup es,n,x,y,u,v,A,oa,ob,qa,qb,ra,rb,hu=>by
   cases (show x=.int a from qa)
   obtain ⟨t1,rfl⟩:=ra
   obtain ⟨l2,ys,e2,h2,r2⟩:=qb
   subst e2
   cases rb
   obtain ⟨js,w2,p2,_⟩:=I.tuple (hF.tup h2)
   exact SeqAt.EqAt.int_tuple a t1 (show s.heap.IsTuple l2 js.toArray from p2) (by omega)
 |.int a,.lst es,n,x,y,u,v,A,oa,ob,qa,qb,ra,rb,hu=>by
   cases (show x=.int a from qa)
   obtain ⟨t1,rfl⟩:=ra
   obtain ⟨l2,ys,e2,h2,r2⟩:=qb
   subst e2
   cases rb
   obtain ⟨js,w2,p2,_⟩:=I.list (hF.lst h2)
   exact SeqAt.EqAt.int_list a t1 p2.isList (by omega)
 |.str a,.non,n,x,y,u,v,A,oa,ob,qa,qb,ra,rb,hu=>by
   cases (show x=.str a from qa)
   obtain ⟨t1,rfl⟩:=ra
   cases (show y=.non from qb)
   cases rb
   exact SeqAt.EqAt.str_none a t1
 |.str a,.bl b,n,x,y,u,v,A,oa,ob,qa,qb,ra,rb,hu=>by
   cases (show x=.str a from qa)
   obtain ⟨t1,rfl⟩:=ra
   cases (show y=.bl b from qb)
   cases rb
   exact SeqAt.EqAt.str_bool a t1 b
 |.str a,.int b,n,x,y,u,v,A,oa,ob,qa,qb,ra,rb,hu=>by
   cases (show x=.str a from qa)
   obtain ⟨t1,rfl⟩:=ra
   cases (show y=.int b from qb)
   obtain ⟨t2,rfl⟩:=rb
   exact SeqAt.EqAt.str_int a t1 b t2
 |.str a,.str b,n,x,y,u,v,A,oa,ob,qa,qb,ra,rb,hu=>by
   cases (show x=.str a from qa)
   obtain ⟨t1,rfl⟩:=ra
   cases (show y=.str b from qb)
   obtain ⟨t2,rfl⟩:=rb
   exact SeqAt.EqAt.str_str a t1 b t2
 |.str a,.tup es,n,x,y,u,v,A,oa,ob,qa,qb,ra,rb,hu=>by
   cases (show x=.str a from qa)
   obtain ⟨t1,rfl⟩:=ra
   obtain ⟨l2,ys,e2,h2,r2⟩:=qb
   subst e2
   cases rb
   obtain ⟨js,w2,p2,_⟩:=I.tuple (hF.tup h2)
   exact SeqAt.EqAt.str_tuple a t1 (show s.heap.IsTuple l2 js.toArray from p2) (by omega)
 |.str a,.lst es,n,x,y,u,v,A,oa,ob,qa,qb,ra,rb,hu=>by
   cases (show x=.str a from qa)
   obtain ⟨t1,rfl⟩:=ra
   obtain ⟨l2,ys,e2,h2,r2⟩:=qb
   subst e2
   cases rb
   obtain ⟨js,w2,p2,_⟩:=I.list (hF.lst h2)
   exact SeqAt.EqAt.str_list a t1 p2.isList (by omega)
 |.tup ds,.non,n,x,y,u,v,A,oa,ob,qa,qb,ra,rb,hu=>by
   obtain ⟨l1,xs,e1,h1,r1⟩:=qa
   subst e1
   cases ra
   obtain ⟨is,w1,p1,_⟩:=I.tuple (hF.tup h1)
   cases (show y=.non from qb)
   cases rb
   exact SeqAt.EqAt.tuple_none (show s.heap.IsTuple l1 is.toArray from p1) (by omega)
 |.tup ds,.bl b,n,x,y,u,v,A,oa,ob,qa,qb,ra,rb,hu=>by
   obtain ⟨l1,xs,e1,h1,r1⟩:=qa
   subst e1
   cases ra
   obtain ⟨is,w1,p1,_⟩:=I.tuple (hF.tup h1)
   cases (show y=.bl b from qb)
   cases rb
   exact SeqAt.EqAt.tuple_bool b (show s.heap.IsTuple l1 is.toArray from p1) (by omega)
 |.tup ds,.int b,n,x,y,u,v,A,oa,ob,qa,qb,ra,rb,hu=>by
   obtain ⟨l1,xs,e1,h1,r1⟩:=qa
   subst e1
   cases ra
   obtain ⟨is,w1,p1,_⟩:=I.tuple (hF.tup h1)
   cases (show y=.int b from qb)
   obtain ⟨t2,rfl⟩:=rb
   exact SeqAt.EqAt.tuple_int b t2 (show s.heap.IsTuple l1 is.toArray from p1) (by omega)
 |.tup ds,.str b,n,x,y,u,v,A,oa,ob,qa,qb,ra,rb,hu=>by
   obtain ⟨l1,xs,e1,h1,r1⟩:=qa
   subst e1
   cases ra
   obtain ⟨is,w1,p1,_⟩:=I.tuple (hF.tup h1)
   cases (show y=.str b from qb)
   obtain ⟨t2,rfl⟩:=rb
   exact SeqAt.EqAt.tuple_str b t2 (show s.heap.IsTuple l1 is.toArray from p1) (by omega)
 |.tup ds,.tup es,n,x,y,u,v,A,oa,ob,qa,qb,ra,rb,hu=>by
   obtain ⟨l1,xs,e1,h1,r1⟩:=qa
   subst e1
   cases ra
   obtain ⟨is,w1,p1,_⟩:=I.tuple (hF.tup h1)
   obtain ⟨l2,ys,e2,h2,r2⟩:=qb
   subst e2
   cases rb
   obtain ⟨js,w2,p2,_⟩:=I.tuple (hF.tup h2)
   have z1:=w1.length
   have z2:=w2.length
   have y1:=r1.length
   have y2:=r2.length
   cases n with
   |zero=>exact absurd oa (by simp [okE])
   |succ n=>
    have oa':kg ds n=true:=by simpa only [okE] using oa
    have ob':kg es n=true:=by simpa only [okE] using ob
    by_cases hab:l1=l2
    ·subst hab
     have e3:=SqT.inj I (hF.tup h1) (hF.tup h2)
     subst e3
     have e4:ds=es:=pT I hF ds es r1 r2 oa' ob'
     subst e4
     rw [xw (n:=n+1) oa]
     exact SeqAt.EqAt.same _
    ·have q:=SeqAt.RcAt.tuples (A:=A) (e:=jX ds es) (show s.heap.IsTuple l1 is.toArray from p1) (show s.heap.IsTuple l2 js.toArray from p2) (by omega) (fun j h1 h2=>by
      obtain ⟨x',f1,g1⟩:=w1.atA h1
      obtain ⟨y',f2,g2⟩:=w2.atA h2
      obtain ⟨d1,k1,m1⟩:=r1.at f1
      obtain ⟨d2,k2,m2⟩:=r2.at f2
      have q:=qX I hF ds j d1 k1 d2 (n:=n) (A:=A.in1) (fg oa' k1) (fg ob' k2) m1 m2 g1 g2 (by show A.units+1+n<cLine;omega)
      have e5:jX ds es j=eqD d1 d2:=by simp only [jX,k1,k2]
      rw [e5]
      exact q
      )
     have ez:is.toArray.size=ds.length:=by simp;omega
     have ez2:js.toArray.size=es.length:=by simp;omega
     rw [ez,ez2,xv _ (fun j a b h1 h2=>by simp only [jX,h1,h2])] at q
     exact SeqAt.EqAt.of_refs hab q
 |.tup ds,.lst es,n,x,y,u,v,A,oa,ob,qa,qb,ra,rb,hu=>by
   obtain ⟨l1,xs,e1,h1,r1⟩:=qa
   subst e1
   cases ra
   obtain ⟨is,w1,p1,_⟩:=I.tuple (hF.tup h1)
   obtain ⟨l2,ys,e2,h2,r2⟩:=qb
   subst e2
   cases rb
   obtain ⟨js,w2,p2,_⟩:=I.list (hF.lst h2)
   exact SeqAt.EqAt.tuple_list (show s.heap.IsTuple l1 is.toArray from p1) p2.isList (by omega)
 |.lst ds,.non,n,x,y,u,v,A,oa,ob,qa,qb,ra,rb,hu=>by
   obtain ⟨l1,xs,e1,h1,r1⟩:=qa
   subst e1
   cases ra
   obtain ⟨is,w1,p1,_⟩:=I.list (hF.lst h1)
   cases (show y=.non from qb)
   cases rb
   exact SeqAt.EqAt.list_none p1.isList (by omega)
 |.lst ds,.bl b,n,x,y,u,v,A,oa,ob,qa,qb,ra,rb,hu=>by
   obtain ⟨l1,xs,e1,h1,r1⟩:=qa
   subst e1
   cases ra
   obtain ⟨is,w1,p1,_⟩:=I.list (hF.lst h1)
   cases (show y=.bl b from qb)
   cases rb
   exact SeqAt.EqAt.list_bool b p1.isList (by omega)
 |.lst ds,.int b,n,x,y,u,v,A,oa,ob,qa,qb,ra,rb,hu=>by
   obtain ⟨l1,xs,e1,h1,r1⟩:=qa
   subst e1
   cases ra
   obtain ⟨is,w1,p1,_⟩:=I.list (hF.lst h1)
   cases (show y=.int b from qb)
   obtain ⟨t2,rfl⟩:=rb
   exact SeqAt.EqAt.list_int b t2 p1.isList (by omega)
 |.lst ds,.str b,n,x,y,u,v,A,oa,ob,qa,qb,ra,rb,hu=>by
   obtain ⟨l1,xs,e1,h1,r1⟩:=qa
   subst e1
   cases ra
   obtain ⟨is,w1,p1,_⟩:=I.list (hF.lst h1)
   cases (show y=.str b from qb)
   obtain ⟨t2,rfl⟩:=rb
   exact SeqAt.EqAt.list_str b t2 p1.isList (by omega)
 |.lst ds,.tup es,n,x,y,u,v,A,oa,ob,qa,qb,ra,rb,hu=>by
   obtain ⟨l1,xs,e1,h1,r1⟩:=qa
   subst e1
   cases ra
   obtain ⟨is,w1,p1,_⟩:=I.list (hF.lst h1)
   obtain ⟨l2,ys,e2,h2,r2⟩:=qb
   subst e2
   cases rb
   obtain ⟨js,w2,p2,_⟩:=I.tuple (hF.tup h2)
   exact SeqAt.EqAt.list_tuple p1.isList (show s.heap.IsTuple l2 js.toArray from p2) (by omega)
 |.lst ds,.lst es,n,x,y,u,v,A,oa,ob,qa,qb,ra,rb,hu=>by
   obtain ⟨l1,xs,e1,h1,r1⟩:=qa
   subst e1
   cases ra
   obtain ⟨is,w1,p1,_⟩:=I.list (hF.lst h1)
   obtain ⟨l2,ys,e2,h2,r2⟩:=qb
   subst e2
   cases rb
   obtain ⟨js,w2,p2,_⟩:=I.list (hF.lst h2)
   have z1:=w1.length
   have z2:=w2.length
   have y1:=r1.length
   have y2:=r2.length
   cases n with
   |zero=>exact absurd oa (by simp [okE])
   |succ n=>
    have oa':kg ds n=true:=by simpa only [okE] using oa
    have ob':kg es n=true:=by simpa only [okE] using ob
    by_cases hab:l1=l2
    ·subst hab
     have e3:=SqL.inj I (hF.lst h1) (hF.lst h2)
     subst e3
     have e4:ds=es:=pT I hF ds es r1 r2 oa' ob'
     subst e4
     rw [xw (n:=n+1) oa]
     exact SeqAt.EqAt.same _
    ·by_cases hl:ds.length=es.length
     ·have q:=SeqAt.RcAt.lists (A:=A) (e:=jX ds es) p1.isList p2.isList (by simp;omega) (by omega) (fun j h1 h2=>by
       obtain ⟨x',f1,g1⟩:=w1.atA h1
       obtain ⟨y',f2,g2⟩:=w2.atA h2
       obtain ⟨d1,k1,m1⟩:=r1.at f1
       obtain ⟨d2,k2,m2⟩:=r2.at f2
       have q:=qX I hF ds j d1 k1 d2 (n:=n) (A:=A.in1) (fg oa' k1) (fg ob' k2) m1 m2 g1 g2 (by show A.units+1+n<cLine;omega)
       have e5:jX ds es j=eqD d1 d2:=by simp only [jX,k1,k2]
       rw [e5]
       exact q
       )
      have ez:is.toArray.size=ds.length:=by simp;omega
      rw [ez,aE.all_eq (F:=F) _ hl (fun j a b h1 h2=>by simp only [jX,h1,h2])] at q
      exact SeqAt.EqAt.of_refs hab q
     ·rw [show eqD (.lst ds) (.lst es)=false from rP hl]
      exact SeqAt.EqAt.of_refs hab (SeqAt.RcAt.lists_lengths (A:=A) p1.isList p2.isList (by simp;omega) (by omega))
 |.ins _ _,_,_,_,_,_,_,_,oa,_,_,_,_,_,_=>by simp [okE] at oa
 |_,.ins _ _,_,_,_,_,_,_,_,ob,_,_,_,_,_=>by simp [okE] at ob
theorem qX {pins:List (Addr×Obj)} {σ:St} {F H:Hp} {s:Shared} (I:Inv X pins σ H s) (hF:bp F H):∀(ds:List Dat) (j:Nat) (a:Dat),ds[j]? =some a->∀(b:Dat) {n:Nat} {x y:V} {u v:Value} {A:Around},okE a n=true->okE b n=true->cW X.K F a x->cW X.K F b y->RelV x u->RelV y v->A.units+n<cLine->SeqAt.EqAt A s u v (eqD a b)
 |[],j,_,h=>by simp at h
 |d::ds,0,_,h=>by
  simp only [List.getElem?_cons_zero,Option.some.injEq] at h
  subst h
  exact DX I hF d
 |d::ds,j+1,a,h=>qX I hF ds j a (by simpa using h)
end
theorem rcAt_D {pins:List (Addr×Obj)} {σ:St} {F H:Hp} {s:Shared} (I:Inv X pins σ H s) (hF:bp F H):∀(a b:Dat) {n:Nat} {x y:V} {u v:Value} {A:Around},okE a n=true->okE b n=true->cW X.K F a x->cW X.K F b y->RelV x u->RelV y v->A.units+n<cLine->SeqAt.RcAt A s u v (eqD a b)
 |.non,.non,n,x,y,u,v,A,oa,ob,qa,qb,ra,rb,hu=>by
   cases (show x=.non from qa)
   cases ra
   cases (show y=.non from qb)
   cases rb
   exact SeqAt.RcAt.none_none
 |.non,.bl b,n,x,y,u,v,A,oa,ob,qa,qb,ra,rb,hu=>by
   cases (show x=.non from qa)
   cases ra
   cases (show y=.bl b from qb)
   cases rb
   exact SeqAt.RcAt.none_bool b
 |.non,.int b,n,x,y,u,v,A,oa,ob,qa,qb,ra,rb,hu=>by
   cases (show x=.non from qa)
   cases ra
   cases (show y=.int b from qb)
   obtain ⟨t2,rfl⟩:=rb
   exact SeqAt.RcAt.none_int b t2
 |.non,.str b,n,x,y,u,v,A,oa,ob,qa,qb,ra,rb,hu=>by
   cases (show x=.non from qa)
   cases ra
   cases (show y=.str b from qb)
   obtain ⟨t2,rfl⟩:=rb
   exact SeqAt.RcAt.none_str b t2
 |.non,.tup es,n,x,y,u,v,A,oa,ob,qa,qb,ra,rb,hu=>by
   cases (show x=.non from qa)
   cases ra
   obtain ⟨l2,ys,e2,h2,r2⟩:=qb
   subst e2
   cases rb
   obtain ⟨js,w2,p2,_⟩:=I.tuple (hF.tup h2)
   exact SeqAt.RcAt.none_tuple (show s.heap.IsTuple l2 js.toArray from p2) (by omega)
 |.non,.lst es,n,x,y,u,v,A,oa,ob,qa,qb,ra,rb,hu=>by
   cases (show x=.non from qa)
   cases ra
   obtain ⟨l2,ys,e2,h2,r2⟩:=qb
   subst e2
   cases rb
   obtain ⟨js,w2,p2,_⟩:=I.list (hF.lst h2)
   exact SeqAt.RcAt.none_list p2.isList (by omega)
 |.bl a,.non,n,x,y,u,v,A,oa,ob,qa,qb,ra,rb,hu=>by
   cases (show x=.bl a from qa)
   cases ra
   cases (show y=.non from qb)
   cases rb
   exact SeqAt.RcAt.bool_none a
 |.bl a,.bl b,n,x,y,u,v,A,oa,ob,qa,qb,ra,rb,hu=>by
   cases (show x=.bl a from qa)
   cases ra
   cases (show y=.bl b from qb)
   cases rb
   exact SeqAt.RcAt.bool_bool a b
 |.bl a,.int b,n,x,y,u,v,A,oa,ob,qa,qb,ra,rb,hu=>by
   cases (show x=.bl a from qa)
   cases ra
   cases (show y=.int b from qb)
   obtain ⟨t2,rfl⟩:=rb
   exact SeqAt.RcAt.bool_int a b t2
 |.bl a,.str b,n,x,y,u,v,A,oa,ob,qa,qb,ra,rb,hu=>by
   cases (show x=.bl a from qa)
   cases ra
   cases (show y=.str b from qb)
   obtain ⟨t2,rfl⟩:=rb
   exact SeqAt.RcAt.bool_str a b t2
 |.bl a,.tup es,n,x,y,u,v,A,oa,ob,qa,qb,ra,rb,hu=>by
   cases (show x=.bl a from qa)
   cases ra
   obtain ⟨l2,ys,e2,h2,r2⟩:=qb
   subst e2
   cases rb
   obtain ⟨js,w2,p2,_⟩:=I.tuple (hF.tup h2)
   exact SeqAt.RcAt.bool_tuple a (show s.heap.IsTuple l2 js.toArray from p2) (by omega)
 |.bl a,.lst es,n,x,y,u,v,A,oa,ob,qa,qb,ra,rb,hu=>by
   cases (show x=.bl a from qa)
   cases ra
   obtain ⟨l2,ys,e2,h2,r2⟩:=qb
   subst e2
   cases rb
   obtain ⟨js,w2,p2,_⟩:=I.list (hF.lst h2)
   exact SeqAt.RcAt.bool_list a p2.isList (by omega)
 |.int a,.non,n,x,y,u,v,A,oa,ob,qa,qb,ra,rb,hu=>by
   cases (show x=.int a from qa)
   obtain ⟨t1,rfl⟩:=ra
   cases (show y=.non from qb)
   cases rb
   exact SeqAt.RcAt.int_none a t1
 |.int a,.bl b,n,x,y,u,v,A,oa,ob,qa,qb,ra,rb,hu=>by
   cases (show x=.int a from qa)
   obtain ⟨t1,rfl⟩:=ra
   cases (show y=.bl b from qb)
   cases rb
   exact SeqAt.RcAt.int_bool a t1 b
 |.int a,.int b,n,x,y,u,v,A,oa,ob,qa,qb,ra,rb,hu=>by
   cases (show x=.int a from qa)
   obtain ⟨t1,rfl⟩:=ra
   cases (show y=.int b from qb)
   obtain ⟨t2,rfl⟩:=rb
   exact SeqAt.RcAt.int_int a t1 b t2
 |.int a,.str b,n,x,y,u,v,A,oa,ob,qa,qb,ra,rb,hu=>by
   cases (show x=.int a from qa)
   obtain ⟨t1,rfl⟩:=ra
   cases (show y=.str b from qb)
   obtain ⟨t2,rfl⟩:=rb
   exact SeqAt.RcAt.int_str a t1 b t2
 |.int a,.tup es,n,x,y,u,v,A,oa,ob,qa,qb,ra,rb,hu=>by
   cases (show x=.int a from qa)
   obtain ⟨t1,rfl⟩:=ra
   obtain ⟨l2,ys,e2,h2,r2⟩:=qb
   subst e2
   cases rb
   obtain ⟨js,w2,p2,_⟩:=I.tuple (hF.tup h2)
   exact SeqAt.RcAt.int_tuple a t1 (show s.heap.IsTuple l2 js.toArray from p2) (by omega)
 |.int a,.lst es,n,x,y,u,v,A,oa,ob,qa,qb,ra,rb,hu=>by
   cases (show x=.int a from qa)
   obtain ⟨t1,rfl⟩:=ra
   obtain ⟨l2,ys,e2,h2,r2⟩:=qb
   subst e2
   cases rb
   obtain ⟨js,w2,p2,_⟩:=I.list (hF.lst h2)
   exact SeqAt.RcAt.int_list a t1 p2.isList (by omega)
 |.str a,.non,n,x,y,u,v,A,oa,ob,qa,qb,ra,rb,hu=>by
   cases (show x=.str a from qa)
   obtain ⟨t1,rfl⟩:=ra
   cases (show y=.non from qb)
   cases rb
   exact SeqAt.RcAt.str_none a t1
 |.str a,.bl b,n,x,y,u,v,A,oa,ob,qa,qb,ra,rb,hu=>by
   cases (show x=.str a from qa)
   obtain ⟨t1,rfl⟩:=ra
   cases (show y=.bl b from qb)
   cases rb
   exact SeqAt.RcAt.str_bool a t1 b
 |.str a,.int b,n,x,y,u,v,A,oa,ob,qa,qb,ra,rb,hu=>by
   cases (show x=.str a from qa)
   obtain ⟨t1,rfl⟩:=ra
   cases (show y=.int b from qb)
   obtain ⟨t2,rfl⟩:=rb
   exact SeqAt.RcAt.str_int a t1 b t2
 |.str a,.str b,n,x,y,u,v,A,oa,ob,qa,qb,ra,rb,hu=>by
   cases (show x=.str a from qa)
   obtain ⟨t1,rfl⟩:=ra
   cases (show y=.str b from qb)
   obtain ⟨t2,rfl⟩:=rb
   exact SeqAt.RcAt.str_str a t1 b t2
 |.str a,.tup es,n,x,y,u,v,A,oa,ob,qa,qb,ra,rb,hu=>by
   cases (show x=.str a from qa)
   obtain ⟨t1,rfl⟩:=ra
   obtain ⟨l2,ys,e2,h2,r2⟩:=qb
   subst e2
   cases rb
   obtain ⟨js,w2,p2,_⟩:=I.tuple (hF.tup h2)
   exact SeqAt.RcAt.str_tuple a t1 (show s.heap.IsTuple l2 js.toArray from p2) (by omega)
 |.str a,.lst es,n,x,y,u,v,A,oa,ob,qa,qb,ra,rb,hu=>by
   cases (show x=.str a from qa)
   obtain ⟨t1,rfl⟩:=ra
   obtain ⟨l2,ys,e2,h2,r2⟩:=qb
   subst e2
   cases rb
   obtain ⟨js,w2,p2,_⟩:=I.list (hF.lst h2)
   exact SeqAt.RcAt.str_list a t1 p2.isList (by omega)
 |.tup ds,.non,n,x,y,u,v,A,oa,ob,qa,qb,ra,rb,hu=>by
   obtain ⟨l1,xs,e1,h1,r1⟩:=qa
   subst e1
   cases ra
   obtain ⟨is,w1,p1,_⟩:=I.tuple (hF.tup h1)
   cases (show y=.non from qb)
   cases rb
   exact SeqAt.RcAt.tuple_none (show s.heap.IsTuple l1 is.toArray from p1) (by omega)
 |.tup ds,.bl b,n,x,y,u,v,A,oa,ob,qa,qb,ra,rb,hu=>by
   obtain ⟨l1,xs,e1,h1,r1⟩:=qa
   subst e1
   cases ra
   obtain ⟨is,w1,p1,_⟩:=I.tuple (hF.tup h1)
   cases (show y=.bl b from qb)
   cases rb
   exact SeqAt.RcAt.tuple_bool b (show s.heap.IsTuple l1 is.toArray from p1) (by omega)
 |.tup ds,.int b,n,x,y,u,v,A,oa,ob,qa,qb,ra,rb,hu=>by
   obtain ⟨l1,xs,e1,h1,r1⟩:=qa
   subst e1
   cases ra
   obtain ⟨is,w1,p1,_⟩:=I.tuple (hF.tup h1)
   cases (show y=.int b from qb)
   obtain ⟨t2,rfl⟩:=rb
   exact SeqAt.RcAt.tuple_int b t2 (show s.heap.IsTuple l1 is.toArray from p1) (by omega)
 |.tup ds,.str b,n,x,y,u,v,A,oa,ob,qa,qb,ra,rb,hu=>by
   obtain ⟨l1,xs,e1,h1,r1⟩:=qa
   subst e1
   cases ra
   obtain ⟨is,w1,p1,_⟩:=I.tuple (hF.tup h1)
   cases (show y=.str b from qb)
   obtain ⟨t2,rfl⟩:=rb
   exact SeqAt.RcAt.tuple_str b t2 (show s.heap.IsTuple l1 is.toArray from p1) (by omega)
 |.tup ds,.tup es,n,x,y,u,v,A,oa,ob,qa,qb,ra,rb,hu=>by
   obtain ⟨l1,xs,e1,h1,r1⟩:=qa
   subst e1
   cases ra
   obtain ⟨is,w1,p1,_⟩:=I.tuple (hF.tup h1)
   obtain ⟨l2,ys,e2,h2,r2⟩:=qb
   subst e2
   cases rb
   obtain ⟨js,w2,p2,_⟩:=I.tuple (hF.tup h2)
   have z1:=w1.length
   have z2:=w2.length
   have y1:=r1.length
   have y2:=r2.length
   cases n with
   |zero=>exact absurd oa (by simp [okE])
   |succ n=>
    have oa':kg ds n=true:=by simpa only [okE] using oa
    have ob':kg es n=true:=by simpa only [okE] using ob
    have q:=SeqAt.RcAt.tuples (A:=A) (e:=jX ds es) (show s.heap.IsTuple l1 is.toArray from p1) (show s.heap.IsTuple l2 js.toArray from p2) (by omega) (fun j h1 h2=>by
     obtain ⟨x',f1,g1⟩:=w1.atA h1
     obtain ⟨y',f2,g2⟩:=w2.atA h2
     obtain ⟨d1,k1,m1⟩:=r1.at f1
     obtain ⟨d2,k2,m2⟩:=r2.at f2
     have q:=qX I hF ds j d1 k1 d2 (n:=n) (A:=A.in1) (fg oa' k1) (fg ob' k2) m1 m2 g1 g2 (by show A.units+1+n<cLine;omega)
     have e5:jX ds es j=eqD d1 d2:=by simp only [jX,k1,k2]
     rw [e5]
     exact q
     )
    have ez:is.toArray.size=ds.length:=by simp;omega
    have ez2:js.toArray.size=es.length:=by simp;omega
    rw [ez,ez2,xv _ (fun j a b h1 h2=>by simp only [jX,h1,h2])] at q
    exact q
 |.tup ds,.lst es,n,x,y,u,v,A,oa,ob,qa,qb,ra,rb,hu=>by
   obtain ⟨l1,xs,e1,h1,r1⟩:=qa
   subst e1
   cases ra
   obtain ⟨is,w1,p1,_⟩:=I.tuple (hF.tup h1)
   obtain ⟨l2,ys,e2,h2,r2⟩:=qb
   subst e2
   cases rb
   obtain ⟨js,w2,p2,_⟩:=I.list (hF.lst h2)
   exact SeqAt.RcAt.tuple_list (show s.heap.IsTuple l1 is.toArray from p1) p2.isList (by omega)
 |.lst ds,.non,n,x,y,u,v,A,oa,ob,qa,qb,ra,rb,hu=>by
   obtain ⟨l1,xs,e1,h1,r1⟩:=qa
   subst e1
   cases ra
   obtain ⟨is,w1,p1,_⟩:=I.list (hF.lst h1)
   cases (show y=.non from qb)
   cases rb
   exact SeqAt.RcAt.list_none p1.isList (by omega)
 |.lst ds,.bl b,n,x,y,u,v,A,oa,ob,qa,qb,ra,rb,hu=>by
   obtain ⟨l1,xs,e1,h1,r1⟩:=qa
   subst e1
   cases ra
   obtain ⟨is,w1,p1,_⟩:=I.list (hF.lst h1)
   cases (show y=.bl b from qb)
   cases rb
   exact SeqAt.RcAt.list_bool b p1.isList (by omega)
 |.lst ds,.int b,n,x,y,u,v,A,oa,ob,qa,qb,ra,rb,hu=>by
   obtain ⟨l1,xs,e1,h1,r1⟩:=qa
   subst e1
   cases ra
   obtain ⟨is,w1,p1,_⟩:=I.list (hF.lst h1)
   cases (show y=.int b from qb)
   obtain ⟨t2,rfl⟩:=rb
   exact SeqAt.RcAt.list_int b t2 p1.isList (by omega)
 |.lst ds,.str b,n,x,y,u,v,A,oa,ob,qa,qb,ra,rb,hu=>by
   obtain ⟨l1,xs,e1,h1,r1⟩:=qa
   subst e1
   cases ra
   obtain ⟨is,w1,p1,_⟩:=I.list (hF.lst h1)
   cases (show y=.str b from qb)
   obtain ⟨t2,rfl⟩:=rb
   exact SeqAt.RcAt.list_str b t2 p1.isList (by omega)
 |.lst ds,.tup es,n,x,y,u,v,A,oa,ob,qa,qb,ra,rb,hu=>by
   obtain ⟨l1,xs,e1,h1,r1⟩:=qa
   subst e1
   cases ra
   obtain ⟨is,w1,p1,_⟩:=I.list (hF.lst h1)
   obtain ⟨l2,ys,e2,h2,r2⟩:=qb
   subst e2
   cases rb
   obtain ⟨js,w2,p2,_⟩:=I.tuple (hF.tup h2)
   exact SeqAt.RcAt.list_tuple p1.isList (show s.heap.IsTuple l2 js.toArray from p2) (by omega)
 |.lst ds,.lst es,n,x,y,u,v,A,oa,ob,qa,qb,ra,rb,hu=>by
   obtain ⟨l1,xs,e1,h1,r1⟩:=qa
   subst e1
   cases ra
   obtain ⟨is,w1,p1,_⟩:=I.list (hF.lst h1)
   obtain ⟨l2,ys,e2,h2,r2⟩:=qb
   subst e2
   cases rb
   obtain ⟨js,w2,p2,_⟩:=I.list (hF.lst h2)
   have z1:=w1.length
   have z2:=w2.length
   have y1:=r1.length
   have y2:=r2.length
   cases n with
   |zero=>exact absurd oa (by simp [okE])
   |succ n=>
    have oa':kg ds n=true:=by simpa only [okE] using oa
    have ob':kg es n=true:=by simpa only [okE] using ob
    by_cases hl:ds.length=es.length
    ·have q:=SeqAt.RcAt.lists (A:=A) (e:=jX ds es) p1.isList p2.isList (by simp;omega) (by omega) (fun j h1 h2=>by
      obtain ⟨x',f1,g1⟩:=w1.atA h1
      obtain ⟨y',f2,g2⟩:=w2.atA h2
      obtain ⟨d1,k1,m1⟩:=r1.at f1
      obtain ⟨d2,k2,m2⟩:=r2.at f2
      have q:=qX I hF ds j d1 k1 d2 (n:=n) (A:=A.in1) (fg oa' k1) (fg ob' k2) m1 m2 g1 g2 (by show A.units+1+n<cLine;omega)
      have e5:jX ds es j=eqD d1 d2:=by simp only [jX,k1,k2]
      rw [e5]
      exact q
      )
     have ez:is.toArray.size=ds.length:=by simp;omega
     rw [ez,aE.all_eq (F:=F) _ hl (fun j a b h1 h2=>by simp only [jX,h1,h2])] at q
     exact q
    ·rw [show eqD (.lst ds) (.lst es)=false from rP hl]
     exact SeqAt.RcAt.lists_lengths (A:=A) p1.isList p2.isList (by simp;omega) (by omega)
 |.ins _ _,_,_,_,_,_,_,_,oa,_,_,_,_,_,_=>by simp [okE] at oa
 |_,.ins _ _,_,_,_,_,_,_,_,ob,_,_,_,_,_=>by simp [okE] at ob
theorem rcNeAt_D {pins:List (Addr×Obj)} {σ:St} {F H:Hp} {s:Shared} (I:Inv X pins σ H s) (hF:bp F H):∀(a b:Dat) {n:Nat} {x y:V} {u v:Value} {A:Around},okE a n=true->okE b n=true->cW X.K F a x->cW X.K F b y->RelV x u->RelV y v->A.units+n<cLine->SeqAt.RcNeAt A s u v (!eqD a b)
 |.non,.non,n,x,y,u,v,A,oa,ob,qa,qb,ra,rb,hu=>by
   cases (show x=.non from qa)
   cases ra
   cases (show y=.non from qb)
   cases rb
   exact SeqAt.RcNeAt.none_none
 |.non,.bl b,n,x,y,u,v,A,oa,ob,qa,qb,ra,rb,hu=>by
   cases (show x=.non from qa)
   cases ra
   cases (show y=.bl b from qb)
   cases rb
   exact SeqAt.RcNeAt.none_bool b
 |.non,.int b,n,x,y,u,v,A,oa,ob,qa,qb,ra,rb,hu=>by
   cases (show x=.non from qa)
   cases ra
   cases (show y=.int b from qb)
   obtain ⟨t2,rfl⟩:=rb
   exact SeqAt.RcNeAt.none_int b t2
 |.non,.str b,n,x,y,u,v,A,oa,ob,qa,qb,ra,rb,hu=>by
   cases (show x=.non from qa)
   cases ra
   cases (show y=.str b from qb)
   obtain ⟨t2,rfl⟩:=rb
   exact SeqAt.RcNeAt.none_str b t2
 |.non,.tup es,n,x,y,u,v,A,oa,ob,qa,qb,ra,rb,hu=>by
   cases (show x=.non from qa)
   cases ra
   obtain ⟨l2,ys,e2,h2,r2⟩:=qb
   subst e2
   cases rb
   obtain ⟨js,w2,p2,_⟩:=I.tuple (hF.tup h2)
   exact SeqAt.RcNeAt.none_tuple (show s.heap.IsTuple l2 js.toArray from p2) (by omega)
 |.non,.lst es,n,x,y,u,v,A,oa,ob,qa,qb,ra,rb,hu=>by
   cases (show x=.non from qa)
   cases ra
   obtain ⟨l2,ys,e2,h2,r2⟩:=qb
   subst e2
   cases rb
   obtain ⟨js,w2,p2,_⟩:=I.list (hF.lst h2)
   exact SeqAt.RcNeAt.none_list p2.isList (by omega)
 |.bl a,.non,n,x,y,u,v,A,oa,ob,qa,qb,ra,rb,hu=>by
   cases (show x=.bl a from qa)
   cases ra
   cases (show y=.non from qb)
   cases rb
   exact SeqAt.RcNeAt.bool_none a
 |.bl a,.bl b,n,x,y,u,v,A,oa,ob,qa,qb,ra,rb,hu=>by
   cases (show x=.bl a from qa)
   cases ra
   cases (show y=.bl b from qb)
   cases rb
   exact SeqAt.RcNeAt.bool_bool a b
 |.bl a,.int b,n,x,y,u,v,A,oa,ob,qa,qb,ra,rb,hu=>by
   cases (show x=.bl a from qa)
   cases ra
   cases (show y=.int b from qb)
   obtain ⟨t2,rfl⟩:=rb
   exact SeqAt.RcNeAt.bool_int a b t2
 |.bl a,.str b,n,x,y,u,v,A,oa,ob,qa,qb,ra,rb,hu=>by
   cases (show x=.bl a from qa)
   cases ra
   cases (show y=.str b from qb)
   obtain ⟨t2,rfl⟩:=rb
   exact SeqAt.RcNeAt.bool_str a b t2
 |.bl a,.tup es,n,x,y,u,v,A,oa,ob,qa,qb,ra,rb,hu=>by
   cases (show x=.bl a from qa)
   cases ra
   obtain ⟨l2,ys,e2,h2,r2⟩:=qb
   subst e2
   cases rb
   obtain ⟨js,w2,p2,_⟩:=I.tuple (hF.tup h2)
   exact SeqAt.RcNeAt.bool_tuple a (show s.heap.IsTuple l2 js.toArray from p2) (by omega)
 |.bl a,.lst es,n,x,y,u,v,A,oa,ob,qa,qb,ra,rb,hu=>by
   cases (show x=.bl a from qa)
   cases ra
   obtain ⟨l2,ys,e2,h2,r2⟩:=qb
   subst e2
   cases rb
   obtain ⟨js,w2,p2,_⟩:=I.list (hF.lst h2)
   exact SeqAt.RcNeAt.bool_list a p2.isList (by omega)
 |.int a,.non,n,x,y,u,v,A,oa,ob,qa,qb,ra,rb,hu=>by
   cases (show x=.int a from qa)
   obtain ⟨t1,rfl⟩:=ra
   cases (show y=.non from qb)
   cases rb
   exact SeqAt.RcNeAt.int_none a t1
 |.int a,.bl b,n,x,y,u,v,A,oa,ob,qa,qb,ra,rb,hu=>by
   cases (show x=.int a from qa)
   obtain ⟨t1,rfl⟩:=ra
   cases (show y=.bl b from qb)
   cases rb
   exact SeqAt.RcNeAt.int_bool a t1 b
 |.int a,.int b,n,x,y,u,v,A,oa,ob,qa,qb,ra,rb,hu=>by
   cases (show x=.int a from qa)
   obtain ⟨t1,rfl⟩:=ra
   cases (show y=.int b from qb)
   obtain ⟨t2,rfl⟩:=rb
   exact SeqAt.RcNeAt.int_int a t1 b t2
 |.int a,.str b,n,x,y,u,v,A,oa,ob,qa,qb,ra,rb,hu=>by
   cases (show x=.int a from qa)
   obtain ⟨t1,rfl⟩:=ra
   cases (show y=.str b from qb)
   obtain ⟨t2,rfl⟩:=rb
   exact SeqAt.RcNeAt.int_str a t1 b t2
 |.int a,.tup es,n,x,y,u,v,A,oa,ob,qa,qb,ra,rb,hu=>by
   cases (show x=.int a from qa)
   obtain ⟨t1,rfl⟩:=ra
   obtain ⟨l2,ys,e2,h2,r2⟩:=qb
   subst e2
   cases rb
   obtain ⟨js,w2,p2,_⟩:=I.tuple (hF.tup h2)
   exact SeqAt.RcNeAt.int_tuple a t1 (show s.heap.IsTuple l2 js.toArray from p2) (by omega)
 |.int a,.lst es,n,x,y,u,v,A,oa,ob,qa,qb,ra,rb,hu=>by
   cases (show x=.int a from qa)
   obtain ⟨t1,rfl⟩:=ra
   obtain ⟨l2,ys,e2,h2,r2⟩:=qb
   subst e2
   cases rb
   obtain ⟨js,w2,p2,_⟩:=I.list (hF.lst h2)
   exact SeqAt.RcNeAt.int_list a t1 p2.isList (by omega)
 |.str a,.non,n,x,y,u,v,A,oa,ob,qa,qb,ra,rb,hu=>by
   cases (show x=.str a from qa)
   obtain ⟨t1,rfl⟩:=ra
   cases (show y=.non from qb)
   cases rb
   exact SeqAt.RcNeAt.str_none a t1
 |.str a,.bl b,n,x,y,u,v,A,oa,ob,qa,qb,ra,rb,hu=>by
   cases (show x=.str a from qa)
   obtain ⟨t1,rfl⟩:=ra
   cases (show y=.bl b from qb)
   cases rb
   exact SeqAt.RcNeAt.str_bool a t1 b
 |.str a,.int b,n,x,y,u,v,A,oa,ob,qa,qb,ra,rb,hu=>by
   cases (show x=.str a from qa)
   obtain ⟨t1,rfl⟩:=ra
   cases (show y=.int b from qb)
   obtain ⟨t2,rfl⟩:=rb
   exact SeqAt.RcNeAt.str_int a t1 b t2
 |.str a,.str b,n,x,y,u,v,A,oa,ob,qa,qb,ra,rb,hu=>by
   cases (show x=.str a from qa)
   obtain ⟨t1,rfl⟩:=ra
   cases (show y=.str b from qb)
   obtain ⟨t2,rfl⟩:=rb
   exact SeqAt.RcNeAt.str_str a t1 b t2
 |.str a,.tup es,n,x,y,u,v,A,oa,ob,qa,qb,ra,rb,hu=>by
   cases (show x=.str a from qa)
   obtain ⟨t1,rfl⟩:=ra
   obtain ⟨l2,ys,e2,h2,r2⟩:=qb
   subst e2
   cases rb
   obtain ⟨js,w2,p2,_⟩:=I.tuple (hF.tup h2)
   exact SeqAt.RcNeAt.str_tuple a t1 (show s.heap.IsTuple l2 js.toArray from p2) (by omega)
 |.str a,.lst es,n,x,y,u,v,A,oa,ob,qa,qb,ra,rb,hu=>by
   cases (show x=.str a from qa)
   obtain ⟨t1,rfl⟩:=ra
   obtain ⟨l2,ys,e2,h2,r2⟩:=qb
   subst e2
   cases rb
   obtain ⟨js,w2,p2,_⟩:=I.list (hF.lst h2)
   exact SeqAt.RcNeAt.str_list a t1 p2.isList (by omega)
 |.tup ds,.non,n,x,y,u,v,A,oa,ob,qa,qb,ra,rb,hu=>by
   obtain ⟨l1,xs,e1,h1,r1⟩:=qa
   subst e1
   cases ra
   obtain ⟨is,w1,p1,_⟩:=I.tuple (hF.tup h1)
   cases (show y=.non from qb)
   cases rb
   exact SeqAt.RcNeAt.tuple_none (show s.heap.IsTuple l1 is.toArray from p1) (by omega)
 |.tup ds,.bl b,n,x,y,u,v,A,oa,ob,qa,qb,ra,rb,hu=>by
   obtain ⟨l1,xs,e1,h1,r1⟩:=qa
   subst e1
   cases ra
   obtain ⟨is,w1,p1,_⟩:=I.tuple (hF.tup h1)
   cases (show y=.bl b from qb)
   cases rb
   exact SeqAt.RcNeAt.tuple_bool b (show s.heap.IsTuple l1 is.toArray from p1) (by omega)
 |.tup ds,.int b,n,x,y,u,v,A,oa,ob,qa,qb,ra,rb,hu=>by
   obtain ⟨l1,xs,e1,h1,r1⟩:=qa
   subst e1
   cases ra
   obtain ⟨is,w1,p1,_⟩:=I.tuple (hF.tup h1)
   cases (show y=.int b from qb)
   obtain ⟨t2,rfl⟩:=rb
   exact SeqAt.RcNeAt.tuple_int b t2 (show s.heap.IsTuple l1 is.toArray from p1) (by omega)
 |.tup ds,.str b,n,x,y,u,v,A,oa,ob,qa,qb,ra,rb,hu=>by
   obtain ⟨l1,xs,e1,h1,r1⟩:=qa
   subst e1
   cases ra
   obtain ⟨is,w1,p1,_⟩:=I.tuple (hF.tup h1)
   cases (show y=.str b from qb)
   obtain ⟨t2,rfl⟩:=rb
   exact SeqAt.RcNeAt.tuple_str b t2 (show s.heap.IsTuple l1 is.toArray from p1) (by omega)
 |.tup ds,.tup es,n,x,y,u,v,A,oa,ob,qa,qb,ra,rb,hu=>by
   obtain ⟨l1,xs,e1,h1,r1⟩:=qa
   subst e1
   cases ra
   obtain ⟨is,w1,p1,_⟩:=I.tuple (hF.tup h1)
   obtain ⟨l2,ys,e2,h2,r2⟩:=qb
   subst e2
   cases rb
   obtain ⟨js,w2,p2,_⟩:=I.tuple (hF.tup h2)
   have z1:=w1.length
   have z2:=w2.length
   have y1:=r1.length
   have y2:=r2.length
   cases n with
   |zero=>exact absurd oa (by simp [okE])
   |succ n=>
    have oa':kg ds n=true:=by simpa only [okE] using oa
    have ob':kg es n=true:=by simpa only [okE] using ob
    have q:=SeqAt.RcNeAt.tuples (A:=A) (e:=jX ds es) (show s.heap.IsTuple l1 is.toArray from p1) (show s.heap.IsTuple l2 js.toArray from p2) (by omega) (fun j h1 h2=>by
     obtain ⟨x',f1,g1⟩:=w1.atA h1
     obtain ⟨y',f2,g2⟩:=w2.atA h2
     obtain ⟨d1,k1,m1⟩:=r1.at f1
     obtain ⟨d2,k2,m2⟩:=r2.at f2
     have q:=qX I hF ds j d1 k1 d2 (n:=n) (A:=A.in1) (fg oa' k1) (fg ob' k2) m1 m2 g1 g2 (by show A.units+1+n<cLine;omega)
     have e5:jX ds es j=eqD d1 d2:=by simp only [jX,k1,k2]
     rw [e5]
     exact q
     )
    have ez:is.toArray.size=ds.length:=by simp;omega
    have ez2:js.toArray.size=es.length:=by simp;omega
    rw [ez,ez2,xv _ (fun j a b h1 h2=>by simp only [jX,h1,h2])] at q
    exact q
 |.tup ds,.lst es,n,x,y,u,v,A,oa,ob,qa,qb,ra,rb,hu=>by
   obtain ⟨l1,xs,e1,h1,r1⟩:=qa
   subst e1
   cases ra
   obtain ⟨is,w1,p1,_⟩:=I.tuple (hF.tup h1)
   obtain ⟨l2,ys,e2,h2,r2⟩:=qb
   subst e2
   cases rb
   obtain ⟨js,w2,p2,_⟩:=I.list (hF.lst h2)
   exact SeqAt.RcNeAt.tuple_list (show s.heap.IsTuple l1 is.toArray from p1) p2.isList (by omega)
 |.lst ds,.non,n,x,y,u,v,A,oa,ob,qa,qb,ra,rb,hu=>by
   obtain ⟨l1,xs,e1,h1,r1⟩:=qa
   subst e1
   cases ra
   obtain ⟨is,w1,p1,_⟩:=I.list (hF.lst h1)
   cases (show y=.non from qb)
   cases rb
   exact SeqAt.RcNeAt.list_none p1.isList (by omega)
 |.lst ds,.bl b,n,x,y,u,v,A,oa,ob,qa,qb,ra,rb,hu=>by
   obtain ⟨l1,xs,e1,h1,r1⟩:=qa
   subst e1
   cases ra
   obtain ⟨is,w1,p1,_⟩:=I.list (hF.lst h1)
   cases (show y=.bl b from qb)
   cases rb
   exact SeqAt.RcNeAt.list_bool b p1.isList (by omega)
 |.lst ds,.int b,n,x,y,u,v,A,oa,ob,qa,qb,ra,rb,hu=>by
   obtain ⟨l1,xs,e1,h1,r1⟩:=qa
   subst e1
   cases ra
   obtain ⟨is,w1,p1,_⟩:=I.list (hF.lst h1)
   cases (show y=.int b from qb)
   obtain ⟨t2,rfl⟩:=rb
   exact SeqAt.RcNeAt.list_int b t2 p1.isList (by omega)
 |.lst ds,.str b,n,x,y,u,v,A,oa,ob,qa,qb,ra,rb,hu=>by
   obtain ⟨l1,xs,e1,h1,r1⟩:=qa
   subst e1
   cases ra
   obtain ⟨is,w1,p1,_⟩:=I.list (hF.lst h1)
   cases (show y=.str b from qb)
   obtain ⟨t2,rfl⟩:=rb
   exact SeqAt.RcNeAt.list_str b t2 p1.isList (by omega)
 |.lst ds,.tup es,n,x,y,u,v,A,oa,ob,qa,qb,ra,rb,hu=>by
   obtain ⟨l1,xs,e1,h1,r1⟩:=qa
   subst e1
   cases ra
   obtain ⟨is,w1,p1,_⟩:=I.list (hF.lst h1)
   obtain ⟨l2,ys,e2,h2,r2⟩:=qb
   subst e2
   cases rb
   obtain ⟨js,w2,p2,_⟩:=I.tuple (hF.tup h2)
   exact SeqAt.RcNeAt.list_tuple p1.isList (show s.heap.IsTuple l2 js.toArray from p2) (by omega)
 |.lst ds,.lst es,n,x,y,u,v,A,oa,ob,qa,qb,ra,rb,hu=>by
   obtain ⟨l1,xs,e1,h1,r1⟩:=qa
   subst e1
   cases ra
   obtain ⟨is,w1,p1,_⟩:=I.list (hF.lst h1)
   obtain ⟨l2,ys,e2,h2,r2⟩:=qb
   subst e2
   cases rb
   obtain ⟨js,w2,p2,_⟩:=I.list (hF.lst h2)
   have z1:=w1.length
   have z2:=w2.length
   have y1:=r1.length
   have y2:=r2.length
   cases n with
   |zero=>exact absurd oa (by simp [okE])
   |succ n=>
    have oa':kg ds n=true:=by simpa only [okE] using oa
    have ob':kg es n=true:=by simpa only [okE] using ob
    by_cases hl:ds.length=es.length
    ·have q:=SeqAt.RcNeAt.lists (A:=A) (e:=jX ds es) p1.isList p2.isList (by simp;omega) (by omega) (fun j h1 h2=>by
      obtain ⟨x',f1,g1⟩:=w1.atA h1
      obtain ⟨y',f2,g2⟩:=w2.atA h2
      obtain ⟨d1,k1,m1⟩:=r1.at f1
      obtain ⟨d2,k2,m2⟩:=r2.at f2
      have q:=qX I hF ds j d1 k1 d2 (n:=n) (A:=A.in1) (fg oa' k1) (fg ob' k2) m1 m2 g1 g2 (by show A.units+1+n<cLine;omega)
      have e5:jX ds es j=eqD d1 d2:=by simp only [jX,k1,k2]
      rw [e5]
      exact q
      )
     have ez:is.toArray.size=ds.length:=by simp;omega
     rw [ez,aE.all_eq (F:=F) _ hl (fun j a b h1 h2=>by simp only [jX,h1,h2])] at q
     exact q
    ·rw [show eqD (.lst ds) (.lst es)=false from rP hl]
     exact SeqAt.RcNeAt.lists_lengths (A:=A) p1.isList p2.isList (by simp;omega) (by omega)
 |.ins _ _,_,_,_,_,_,_,_,oa,_,_,_,_,_,_=>by simp [okE] at oa
 |_,.ins _ _,_,_,_,_,_,_,_,ob,_,_,_,_,_=>by simp [okE] at ob
end
section
variable {X:Cx} {K:PySem.W.Frag} {W:iV} {own ro:Bool}
theorem aN.blS {F H:Hp} {Q:VK} {pins:List (Addr×Obj)} {σ:St} {s:Shared} {b:Bool} (p:aN K W own F H (.ok (.bl b)) Q) (s1:bp F H) (I:Inv X pins σ H s):EP X pins σ Q (.bool b) s:=⟨.bl b,H,I,rfl,p.bl s1⟩
theorem zx (hu:X.A.units+64<cLine) (hK:X.K=K:=by rfl):Op2 K W own X (compareOp .Eq) eqM:=by
 subst hK
 intro pins s σ H x y v u Q I rx ry h
 obtain ⟨F,a,b,s1,qa,qb,p⟩:=h
 unfold eqM at p
 by_cases hc:(okE a 40&&okE b 40)=true
 ·rw [if_pos hc] at p
  simp only [Bool.and_eq_true] at hc
  exact rcAt_D I s1 a b hc.1 hc.2 qa qb rx ry (by omega) _ _ _ _ (p.blS s1 I)
 ·rw [if_neg hc] at p;exact p.stuck
theorem o_ne (hu:X.A.units+64<cLine) (hK:X.K=K:=by rfl):Op2 K W own X (compareOp .NotEq) neM:=by
 subst hK
 intro pins s σ H x y v u Q I rx ry h
 obtain ⟨F,a,b,s1,qa,qb,p⟩:=h
 unfold neM at p
 by_cases hc:(okE a 40&&okE b 40)=true
 ·rw [if_pos hc] at p
  simp only [Bool.and_eq_true] at hc
  exact rcNeAt_D I s1 a b hc.1 hc.2 qa qb rx ry (by omega) _ _ _ _ (p.blS s1 I)
 ·rw [if_neg hc] at p;exact p.stuck
end
end L2
namespace L2
open PySem PySem.Spec PyProof.Rows
section
variable {X:Cx} {pins:List (Addr×Obj)} {σ:St} {H:Hp} {s:Shared} {h':Heap}
theorem Inv.Cu {t':Nat} {ch:List Addr} {T:Addr} {xs:List V} (I:Inv X pins σ H s) (hf:∀b∈ch,Cm X pins H b) (k:∀b o,b∉ch->s.heap.get? b=some o->h'.get? b=some o) (hT:s.heap.objs.size<=T)
  (new:xs.length<=sizeLine/\∃its:List Value,Vals xs its/\IsTup h' T its.toArray):Inv X pins σ (upd H T (.tup xs)) {s with heap:=h',toks:=t'}:=by
 have hTn:H T=none:=I.hok.fresh hT
 have nit:∀b u,H b=some u->b∉ch:=fun b u e z=>by rw [(hf b z).1] at e;cases e
 have old:∀{b:Addr} {o:Obj},s.heap.get? b=some o->b≠T:=fun {b o} e=>Nat.ne_of_lt (Nat.lt_of_lt_of_le (Heap.lt_size e) hT)
 refine I.step (g':=s.gens) (d':=s.drawn) (ch:=ch) (fun b hb=>?_) (fun b o _ _ hc e _=>k b o hc e) (fun b o _ _ hc e _=>⟨o.slots,k b o hc e⟩) (fun b o _ e n=>by rw [aL (old e)];exact n)
  (fun b o hc e=>⟨o,k b o hc e⟩) (fun b ys e=>by rw [aL (ba e hTn)];exact e) (fun b o u e=>by rw [aL (ba e hTn)];exact e) (fun b ps e=>⟨#[],by rw [aL (ba e hTn),e];simp⟩) (fun m hm=>?_) (fun b u e=>?_) I.bare
 ·obtain ⟨f0,f1,f2,f3,f4,f5⟩:=hf b hb
  exact ⟨f3,f1,f4,f5⟩
 ·obtain ⟨o,es,ep,ho,r⟩:=hm
  exact ⟨o,es,ep,k _ o (fun z=>(hf _ z).2.1 rfl) ho,r⟩
 ·by_cases hb:b=T
  ·subst hb
   rw [aP] at e
   cases e
   exact new
  ·rw [aL hb] at e
   refine (I.hok b u e).stay (fun c v hc q=>k c v ?_ q) (fun c q=>?_) fun c ys q=>?_
   ·rcases hc with z|z
    ·rw [z];exact nit b u e
    ·exact nit c _ z
   ·rw [aL (ba q hTn)];exact q
   ·rw [aL (ba q hTn)];exact q
theorem Inv.Cv {t':Nat} {ch:List Addr} (I:Inv X pins σ H s) (hf:∀b∈ch,Cm X pins H b) (k:∀b o,b∉ch->s.heap.get? b=some o->h'.get? b=some o):Inv X pins σ H {s with heap:=h',toks:=t'}:=by
 have nit:∀b u,H b=some u->b∉ch:=fun b u e z=>by rw [(hf b z).1] at e;cases e
 refine I.step (g':=s.gens) (d':=s.drawn) (ch:=ch) (fun b hb=>?_) (fun b o _ _ hc e _=>k b o hc e) (fun b o _ _ hc e _=>⟨o.slots,k b o hc e⟩) (fun b o _ e n=>n)
  (fun b o hc e=>⟨o,k b o hc e⟩) (fun b ys e=>e) (fun b o u e=>e) (fun b ps e=>⟨#[],by rw [e];simp⟩) (fun m hm=>?_) (fun b u e=>?_) I.bare
 ·obtain ⟨f0,f1,f2,f3,f4,f5⟩:=hf b hb
  exact ⟨f3,f1,f4,f5⟩
 ·obtain ⟨o,es,ep,ho,r⟩:=hm
  exact ⟨o,es,ep,k _ o (fun z=>(hf _ z).2.1 rfl) ho,r⟩
 ·refine (I.hok b u e).stay (fun c v hc q=>k c v ?_ q) (fun _ q=>q) fun _ _ q=>q
  rcases hc with z|z
  ·rw [z];exact nit b u e
  ·exact nit c _ z
end
noncomputable def Ite (K:PySem.W.Frag) (a:Addr):It:=
 ⟨fun i H=>∃xs x,SqL K H a xs/\xs[i]? =some x,fun i H x H'=>∃T y,H T=none/\x=.ref T/\H'=upd H T (.tup [.int i,y])/\∀xs,SqL K H a xs->xs[i]? =some y,fun i H=>∃xs,SqL K H a xs/\xs.length<=i⟩
theorem Cy {P:Program} {w:World} {K:PySem.W.Frag} {elts:List Expr} {k:Nat} {pos:Pos} (a e it:Addr) (hei:e≠it):Turn P w K (.Tuple elts k pos) (Ite K a) [e,it] e (fun i h=>(∃old,IsEnum h e it i old)/\h.IsListIter it a i) where
 mem:=by simp
 obj:=fun i h st b hb=>by
  obtain ⟨⟨old,he⟩,o,e1,c,d⟩:=st
  rcases List.mem_cons.mp hb with rfl|hb
  ·exact ⟨_,he,fun v z=>by cases z⟩
  ·have:b=it:=by simpa using hb
   subst this
   exact ⟨o,e1,fun v z=>by rw [d] at z;cases z⟩
 keep:=fun i h h' st kk=>by
  obtain ⟨⟨old,he⟩,hit⟩:=st
  exact ⟨⟨old,kk e (by simp) _ he⟩,hit.at fun o x=>kk it (by simp) o x⟩
 item:=by
  intro X hP hw hK hc i pins s σ H E I hf st hg
  subst hP hw hK
  obtain ⟨⟨old,he⟩,hit⟩:=st
  obtain ⟨xs,x,hq,hx⟩:=hg
  obtain ⟨its,rv,p,hz⟩:=I.list hq
  obtain ⟨u,hu,ru⟩:=rv.get hx
  refine wpAny_pyNext_enum_item he hit p.isList (x:=u) (by simpa using hu) hei fun h1 ho hit1 hT hsz hk=>?_
  refine ⟨_,rfl,wpAny_letOwnedTupleGo_enum ho fun h2 he2 hs2=>?_⟩
  have hlt:e<s.heap.objs.size:=Heap.lt_size he
  have hTe:s.heap.objs.size≠e:=Nat.ne_of_gt hlt
  have I1:Inv X pins σ (upd H s.heap.objs.size (.tup [.int i,x])) {s with heap:=h2,toks:=s.toks+1}:=I.Cu (ch:=[e,it]) hf (fun b o hb q=>by
    have h3:=hk b o (fun z=>hb (by simp [z])) (fun z=>hb (by simp [z])) q
    exact (hs2.2 b (fun z=>hb (by simp [z]))).trans h3) (Nat.le_refl _) ⟨by show 2<=sizeLine;decide,[.int i s.toks,u],.cons ⟨_,rfl⟩ (.cons ru .nil),⟨_,(hs2.2 _ hTe).trans hT,rfl,0,rfl⟩⟩
  refine ⟨.ref s.heap.objs.size,_,I1,rfl,⟨s.heap.objs.size,x,I.hok.fresh (Nat.le_refl _),rfl,rfl,fun ys hy=>by rw [I.uo hy hq];exact hx⟩,⟨⟨u,by simpa using he2⟩,hit1.at fun o y=>(hs2.2 it hei.symm).trans y⟩,fun b hb=>?_⟩
  have hbn:=(hf b hb).1
  have:b≠s.heap.objs.size:=by
   rcases List.mem_cons.mp hb with rfl|hb
   ·exact hTe.symm
   ·have:b=it:=by simpa using hb
    subst this
    obtain ⟨o,e1,_⟩:=hit
    exact Nat.ne_of_lt (Heap.lt_size e1)
  rw [aL this]
  exact hbn
 done:=by
  intro X hP hw hK hc i pins s σ H E I hf st hg
  subst hP hw hK
  obtain ⟨⟨old,he⟩,hit⟩:=st
  obtain ⟨xs,hq,hx⟩:=hg
  obtain ⟨its,rv,p,hz⟩:=I.list hq
  have hl:=rv.length
  exact wpAny_pyNext_enum_end (I.ok.hd hc) he hit p.isList (Array.getElem?_eq_none (by simp;omega)) fun h2 eb=>⟨rfl,I.Cv (t':=s.toks) (ch:=[e,it]) hf fun b o hb q=>eb b o (fun z=>hb (by simp [z])) q⟩
 self:=fun _ _ _ _ _ st h=>by
  obtain ⟨⟨old,he⟩,_⟩:=st
  exact wpAny_pyIter_enum he h
theorem l5:∀(ds:List Dat) (k i:Nat),(n0 k ds)[i]? =(ds[i]?).map fun d=>.tup [.int ((k+i:Nat):Int),d]
 |[],k,i=>by simp [n0]
 |d::ds,k,0=>by simp [n0]
 |d::ds,k,i+1=>by
  rw [n0,List.getElem?_cons_succ,l5 ds (k+1) i,List.getElem?_cons_succ]
  rw [show k+1+i=k+(i+1) by omega]
theorem il:∀(ds:List Dat) (k:Nat),(n0 k ds).length=ds.length
 |[],_=>rfl
 |d::ds,k=>by rw [n0,List.length_cons,il ds,List.length_cons]
theorem Dw {K:PySem.W.Frag} {F:Hp} {a:Addr} {xs:List V} {ds:List Dat} (t:SqL K F a xs) (z:aE K F ds xs):AD K F (Ite K a) (n0 0 ds) where
 go:=fun i F' H' s1 s2 hi=>⟨xs,xs[i]'(by rw [z.length];rw [il] at hi;exact hi),s2.lst (s1.lst t),by rw [il] at hi;simp [z.length,hi]⟩
 yl:=fun i F' H' x H2 d s1 s2 hd hy=>by
  obtain ⟨T,y,hT,ex,eH,hy⟩:=hy
  subst ex eH
  rw [l5] at hd
  cases hds:ds[i]? with
  |none=>rw [hds] at hd;cases hd
  |some d'=>
   rw [hds] at hd
   simp at hd
   subst hd
   obtain ⟨v,e1,q⟩:=z.get hds
   have e2:=hy xs (s2.lst (s1.lst t))
   rw [e1] at e2
   cases e2
   refine ⟨upd F' T (.tup [.int i,y]),Step.lay s2 hT,T,_,rfl,SqT.of aP,?_⟩
   exact ⟨.int i,[y],rfl,rfl,y,[],rfl,(q.mono s1).mono (bp.upd (s2.free hT)),rfl⟩
 st:=fun F' H' s1 s2=>⟨xs,s2.lst (s1.lst t),by rw [z.length,il];exact Nat.le_refl _⟩
section
variable {X:Cx} {K:PySem.W.Frag} {W:iV} {own ro:Bool} {e a b c:Expr} {es:List Expr} {x:Str} {pos p:Pos} {f fa fb fc:ao->M Dat} {fr:ao->M (List Dat)} {ft:ao->M Bool}
noncomputable def iEnum (K:PySem.W.Frag) (tl:TE):TI:=fun σ H R=>tl σ H fun x H1=>∃a,x=.ref a/\(∃xs,SqL K H1 a xs)/\R (Ite K a) H1
theorem pi_enum {elts:List Expr} {k:Nat} {q:Pos} {tl:TE} (hg:Gl X "enumerate") (hm:X.mg "enumerate"=none) (hl:PE X a tl) (hs:starEach [a] X.env=[(false,eval a X.env)]:=by rfl) :
  PI X (.Tuple elts k q) (.Call (.Name "enumerate" p) [a] [] pos) (iEnum X.K tl):=by
 intro pins s σ H R I h
 have ha:PA X [a] (zB tl tNil):=bc hl fE hs
 refine Call_ (rG I hg hm boot_enumerate (PyProof.Rows.callWith_type1 (thn (ha pos pins s σ H (fun vs H1=>match vs with
  |[x]=>∃a,x=.ref a/\(∃xs,SqL X.K H1 a xs)/\R (Ite X.K a) H1
  |_=>False) I h) fun us s1 ⟨vs,H1,I1,r1,q1⟩=>?_) hs rfl))
 match vs,r1,q1 with
 |[x],r1,⟨l,e1,⟨xs,hq⟩,q⟩=>
  subst e1
  obtain ⟨u,rfl,ru⟩:=r1.one
  cases ru
  obtain ⟨its,rv,pl,hz⟩:=I1.list hq
  refine call_enumerate_list pl.isList fun h2 he hit hsz hk=>?_
  have I2:Inv X pins σ H1 {s1 with heap:=h2}:=I1.kept (t':=s1.toks) hk
  refine wpAny_pyIter_enum he ?_
  refine ⟨s1.heap.objs.size+1,[s1.heap.objs.size+1,s1.heap.objs.size],_,_,H1,rfl,I2,Cy l _ _ (Nat.succ_ne_self _),⟨⟨_,he⟩,hit⟩,fun b hb=>?_,q⟩
  have hb2:s1.heap.objs.size<=b:=by
   rcases List.mem_cons.mp hb with rfl|hb
   ·exact Nat.le_succ _
   ·have:b=s1.heap.objs.size:=by simpa using hb
    exact Nat.le_of_eq this.symm
  exact I1.fpOk hb2 (I1.hok.fresh hb2)
theorem ri_enum {σ:St} {H:Hp} {R:It->Hp->Prop} (h:iD K W (vI fa) σ H R):iEnum K (tD K W false fa) σ H R:=by
 obtain ⟨F,ρ,r,s,p⟩:=h
 refine bx r s (fun e he=>?_) fun d hd v F1 H1 s1 q1=>?_
 ·have z:vI fa ρ=.error e:=by unfold vI;rw [he];rfl
  rw [z] at p;exact p
 ·have z:vI fa ρ=(qu d).bind fun ds=>.ok (n0 0 ds):=by unfold vI;rw [hd];rfl
  rw [z] at p
  cases d with
  |lst ds=>
   obtain ⟨b,xs,e,t,z⟩:=q1
   exact ⟨b,e,⟨xs,s1.fh.lst t⟩,p _ F1 H1 s1 (Dw t z)⟩
  |_=>exact (W.ns p).elim
theorem zZ {elts:List Expr} {k:Nat} {q:Pos} (hm:X.mg "enumerate"=none) (hl:DE K W false X a fa) (hg:Gl X "enumerate":=by rfl) (hs:starEach [a] X.env=[(false,eval a X.env)]:=by rfl) (hK:X.K=K:=by rfl) :
  DI K W X (.Tuple elts k q) (.Call (.Name "enumerate" p) [a] [] pos) (vI fa):=by
 subst hK
 exact (pi_enum hg hm hl hs).imp fun _ _ _=>ri_enum
theorem iR:PTs X [] (tDT K W sq):=fun pins s σ H Q I h=>pts_nil pins s σ H Q I (by
 obtain ⟨F,ρ,r,s1,q⟩:=h
 exact q F H (Step.refl s1))
theorem dN:PGs X [] (lM []):=pgs_nil
theorem aM {i:Nat} {is:List Nat} (hN:X.N.Nodup) (h2:PGs X es (lM is)) (hi:X.N[i]? =some x:=by rfl) (hx:Loc X.env.scope x:=by first|exact Or.inl rfl|exact Or.inr rfl) (hf:X.fn x=true\/X.env.scope.names.lookup x=some .local:=by first|exact .inl rfl|exact .inr rfl|assumption)
  (hs:(assignEach (.Name x p::es) X.env).map (·.2)=assign (.Name x p) X.env::(assignEach es X.env).map (·.2):=by rfl):PGs X (.Name x p::es) (lM (i::is)):=AS (zJ hN hi hx hf) h2 hs
theorem oP {k:Nat} {is:List Nat} (hc:X.calm=true) (h:PGs X es (lM is)) (hn:(assignEach es X.env).length=is.length:=by rfl) (hst:(assignEach es X.env).findIdx? (·.1)=none:=by rfl) (hK:X.K=K:=by rfl):DG K X (.Tuple es k pos) (.tp is):=by
 subst hK
 exact pg_tup hc h hn hst
theorem tP {ix:List (Option Nat)}:∀{is:List Nat},(∀i∈is,ix[i]? =some none)->∀vs σ' H' (Q:St->Hp->Prop),lM is vs σ' H' Q->lM is vs σ' H' fun σ2 H2=>Q σ2 H2/\∀(i:Nat) v,σ'[i]? =some (some v)->(∃j,ix[i]? =some (some j))->σ2[i]? =some (some v)
 |[],_,vs,σ',H',Q,⟨e,q⟩=>⟨e,q,fun _ _ h _=>h⟩
 |i::is,hs,vs,σ',H',Q,⟨v,r,e,q⟩=>by
  refine ⟨v,r,e,?_⟩
  have:=tP (ix:=ix) (is:=is) (fun j hj=>hs j (by simp [hj])) r (σ'.set i (some v)) H' Q q
  have mono:∀{is:List Nat} {vs:List V} {σ1:St} {H1:Hp} {Q Q':St->Hp->Prop},(∀σ2 H2,Q σ2 H2->Q' σ2 H2)->lM is vs σ1 H1 Q->lM is vs σ1 H1 Q':=by
   intro is
   induction is with
   |nil=>rintro vs σ1 H1 Q Q' m ⟨e,q⟩;exact ⟨e,m _ _ q⟩
   |cons i is ih=>rintro vs σ1 H1 Q Q' m ⟨v,r,e,q⟩;exact ⟨v,r,e,ih m q⟩
  refine mono (fun σ2 H2 ⟨q1,q2⟩=>⟨q1,fun j w h ⟨l,hl⟩=>q2 j w ?_ ⟨l,hl⟩⟩) this
  have:i≠j:=by rintro rfl;rw [hs i (by simp)] at hl;cases hl
  rw [List.getElem?_set_ne this]
  exact h
theorem px {ix:List (Option Nat)} {is:List Nat} (h:∀i∈is,ix[i]? =some none):wy ix (gP K (.tp is)):=fun x σ' H' Q ⟨a,xs,e,t,l,q⟩=>⟨a,xs,e,t,l,tP h xs σ' H' Q q⟩
theorem rS {N':List Str} {sc:Scope} {L:Addr} {cs:List (Str×Addr)} {s:Shared} {H:Hp} {fp:List Addr} {i:Nat} (hN:N'.Nodup) (hi:N'[i]? =some x:=by rfl) (hx:Loc (bG X N' sc L cs s H fp).env.scope x:=by first|exact Or.inl rfl|exact Or.inr rfl)
  (hf:(bG X N' sc L cs s H fp).fn x=true\/(bG X N' sc L cs s H fp).env.scope.names.lookup x=some .local:=by first|exact .inl rfl|exact .inr rfl|assumption):DG K (bG X N' sc L cs s H fp) (.Name x pos) (.nm i):=pg_c hN hi hx hf
variable {sc:Scope} {tg elt iter:Expr} {ifs:List Expr} {fi:ao->M (List Dat)} {pt:Pat} {fe:ao->M Dat} {spos py:Pos}
theorem l6 (N':List Str) (ix:List (Option Nat)) (hi:DI K W X tg iter fi) (hg:∀L cs s H fp,DG K (bG X N' sc L cs s H fp) tg pt) (hl:wy ix (gP K pt))
  (ht:∀L cs s H fp,PTs (bG X N' sc L cs s H fp) ifs (tDT K W ft)) (he:∀L cs s H fp,DE K W false (bG X N' sc L cs s H fp) elt fe) (hc:X.calm=true:=by rfl)
  (ok:cv X.N X.env.scope N' sc ix=true:=by rfl) (hk:sc.kind=.function:=by rfl) (hs:∀x,foldedSetIterable iter X.env x=pure x:=by intro _;rfl) :
  DE K W true X (.ListComp elt [⟨tg,iter,ifs,0⟩] sc pos) (fK fi ix pt ft fe):=(D5 N' ix hc hi hg hl ht he ok hk hs).imp fun _ _ _=>CO
theorem tD_fr {σ:St} {H:Hp} {Q:VK} (h:tD K W own f σ H Q):tD K W true f σ H Q:=by
 cases own with
 |true=>exact h
 |false=>obtain ⟨F,ρ,r,s,p⟩:=h;exact ⟨F,ρ,r,s,p.frz⟩
theorem B9 {OL O:List Nat} {i:Nat} (own:Bool) (N':List Str) (ix:List (Option Nat)) (hN:X.N.Nodup) (hi:DI K W X tg iter fi) (hg:∀L cs s H fp,DG K (bG X N' sc L cs s H fp) tg pt) (hl:wy ix (gP K pt))
  (ht:∀L cs s H fp,PTs (bG X N' sc L cs s H fp) ifs (tDT K W ft)) (he:∀L cs s H fp,DE K W false (bG X N' sc L cs s H fp) elt fe) (hj:X.N[i]? =some x:=by rfl) (hy:X.env.scope.names.lookup x=some .local:=by rfl) (hc:X.calm=true:=by rfl)
  (hsw:swapsWith (.ListComp elt [⟨tg,iter,ifs,0⟩] sc pos) (some (.Name x py)) spos.line X.env=pure true:=by rfl)
  (ok:cv X.N X.env.scope N' sc ix=true:=by rfl) (hk:sc.kind=.function:=by rfl) (hs:∀x,foldedSetIterable iter X.env x=pure x:=by intro _;rfl) :
  DS K W ro X OL O (aft own i O) (.Assign [.Name x py] (.ListComp elt [⟨tg,iter,ifs,0⟩] sc pos) spos) (aD O i (fK fi ix pt ft fe)):=fun F0 H0=>
 (BD N' ix hN hj hy hc hi hg hl ht he hsw ok hk hs).imp fun D σ H t=>CO (tD_fr (CM t))
theorem ds_setI {OL O:List Nat} {i:Nat} {q r:Pos} {fk:ao->M Dat} (he:DE K W false X e f) (hk:DE K W false X b fk) (ho:i∈O:=by decide) (hN:X.N[i]? =some x:=by rfl) (hv:Vis X.env.scope x:=by first|exact Or.inl rfl|exact Or.inr (Or.inl rfl)|exact Or.inr (Or.inr rfl)) (hd:(x==("__debug__":Str))=false:=by decide) (hcd:(x==("__classdict__":Str))=false:=by decide)
  (ha:∀v,assign (.Subscript (.Name x p) b q) X.env v=(do
   let ov <- holding [v] (eval (.Name x p) X.env)
   let iv <- holding [v,ov] (eval b X.env)
   standAt q
   holding [v,ov,iv] (setItem ov iv v)
   release [v,ov,iv] []):=by intro _;rfl) (hs:swapsWithSole [.Subscript (.Name x p) b q] e r.line X.env=pure false:=by rfl) (hw:swappedStores [.Subscript (.Name x p) b q] e X.env=pure none:=by rfl)
  (h1:(assignEach [.Subscript (.Name x p) b q] X.env).map (·.2)=[assign (.Subscript (.Name x p) b q) X.env]:=by rfl) :
  DS K W ro X OL O O (.Assign [.Subscript (.Name x p) b q] e r) (zF i fk f):=fun F0 H0=>(AQ he (pg_sub (pv i hN hv hd hcd) hk set_list ha) hs hw h1).imp fun _ _ _=>rs_setI ho
theorem tm {OL O:List Nat} {pt:Pat} {tg:Expr} (he:DE K W false X e f) (hg:DG K X tg pt) (n:∀i∈pt.names,i∉O:=by decide) (hs:swapsWithSole [tg] e pos.line X.env=pure false:=by rfl) (hw:swappedStores [tg] e X.env=pure none:=by rfl)
  (h1:(assignEach [tg] X.env).map (·.2)=[assign tg X.env]:=by rfl):DS K W ro X OL O O (.Assign [tg] e pos) (sC O pt f):=fun F0 H0=>(AQ he hg hs hw h1).imp fun _ _ _=>rs_unpB n
noncomputable def spF (K:PySem.W.Frag) (ro:Bool) (g:List Dat->M Dat) (n:Nat):Sp:=fun vs H Q _=>∃F ds,bp F H/\aE K F ds vs/\ds.length=n/\aN K Wno ro F H (g ds) Q
theorem AL {nN n:Nat} {g:ao->M Flo} {ds:List Dat} (h:ds.length≠n):cb nN n g ds=stk:=by unfold cb;rw [if_neg h]
theorem ay {k nN n:Nat} {fad:Addr} {fd:FuncData} {ps:List Str} {g:ao->M Flo} (F:cz X.prog X.w X.K X.mg X.base CX0 k fad fd ps (spF K ro (cb nN n g) n)) (hr:oQ k X.A) (hm:X.mg x=some (.ref fad)) (hk:keepIn X.K (.ref fad)=true) (hb:Binds X.K fd ps [])
  (ha:DA K Wno X (e::es) fr) (hg:Gl X x:=by rfl) (hdb:(x==("__debug__":Str))=false:=by decide) (hst:starEach (e::es) X.env=(false,eval e X.env)::starEach es X.env:=by rfl) (hpl:(backTo pos (starEach es X.env)).any (·.1)=false:=by rfl) :
  DE K Wno ro X (.Call (.Name x p) (e::es) [] pos) (fL (cb nN n g) fr):=by
 refine PE.imp (wU F hr hg hm hk hb .nil wV ha hdb hst hpl) fun σ H Q h=>?_
 obtain ⟨F,ρ,r,s,p⟩:=rd_L h
 refine ⟨F,ρ,r,s,?_⟩
 cases e1:fr ρ with
 |error z=>rw [e1] at p;exact p
 |ok ds=>
  rw [e1] at p
  intro vs F' H' st q
  obtain ⟨F1,es1,s1,q1,z⟩:=p vs F' H' st q
  show spF K ro (cb nN n g) n (vs++[]) H' Q E0
  rw [List.append_nil]
  by_cases hl:es1.length=n
  ·exact ⟨F1,es1,s1,q1,hl,z⟩
  ·rw [AL hl] at z
   exact aN.stuck z
end
section
variable {P:Program} {w:World} {K:PySem.W.Frag} {mg:Str->Option Value} {base:Heap}
theorem yg {N:List Str} {vs:List V} {ds:List Dat} {i:Nat} {d:Dat} {F:Hp} (q:aE K F ds vs) (h:(ds.map some++List.replicate (N.length-ds.length) none)[i]? =some (some d)):∃v,(start N vs)[i]? =some (some v)/\cW K F d v:=by
 have hi:i<ds.length:=by
  by_cases hi:i<ds.length
  ·exact hi
  ·rw [List.getElem?_append_right (by simpa using hi),List.getElem?_replicate] at h
   split at h<;>cases h
 rw [List.getElem?_append_left (by simpa using hi),List.getElem?_map] at h
 cases e:ds[i]? with
 |none=>rw [e] at h;cases h
 |some d'=>
  rw [e] at h
  cases h
  obtain ⟨v,e1,q1⟩:=q.get e
  refine ⟨v,?_,q1⟩
  unfold start
  rw [List.getElem?_append_left (by rw [List.length_map,q.length];exact hi),List.getElem?_map,e1]
  rfl
theorem lj {x qual:Str} {st:Stmt} {f:Addr} {fd:FuncData} {N ps:List Str} {k:Nat} {O':List Nat} (F:Fun K x qual st f fd) (S:aH N ps (ar st)) (ro:Bool) (g:ao->M Flo)
  (hb:∀(cdv:Value) (A:Around) (outer:List Env) (s:Shared) (H:Hp) (E:XK),oQ k (A.deeper (envOfC qual (ar st) s.heap.objs.size f cdv)) ->
   DSs K Wno ro (cxOf CX0 P w K mg base N qual (ar st) f cdv A outer s H E).nox [] [] O' (cO st) g):cz P w K mg base CX0 (k+1) f fd ps (spF K ro (cb N.length ps.length g) ps.length):=by
 have hpl:ps.length<=N.length:=by have:=congrArg List.length S.pre;rw [List.length_take] at this;omega
 refine F.okX S (fun vs H Q E ⟨F,ds,s,q,l,p⟩=>by rw [q.length,l]) fun cdv A outer s H vs Q E hr ⟨F1,ds,s1,q,l,p⟩=>⟨_,hb cdv A outer s H E hr F1 H,F1,F1,ds.map some++List.replicate (N.length-ds.length) none,?_,?_⟩
 ·refine ⟨Step.refl s1,bp.refl _,?_,fun i d e _=>yg q e,(fun i d e h=>nomatch h),(fun i j ds es a h=>nomatch h)⟩
  unfold start
  rw [List.length_append,List.length_append,List.length_map,List.length_map,List.length_replicate,List.length_replicate,q.length]
 ·have e1:cb N.length ps.length g ds=(g (ds.map some++List.replicate (N.length-ds.length) none)).bind fun fl=>match fl with
   |.nx _=>.ok .non
   |.rt d=>.ok d
   |_=>stk:=by
    unfold cb
    exact if_pos l
  rw [e1] at p
  cases e2:g (ds.map some++List.replicate (N.length-ds.length) none) with
  |error z=>rw [e2] at p;exact p
  |ok fl=>
   rw [e2] at p
   cases fl with
   |nx ρ=>exact fun σ F H r=>p .non F H r.st (by cases ro<;>rfl)
   |rt d=>exact fun v F H st q=>p v F H st q
   |bk ρ=>exact aN.stuck p
   |ct ρ=>exact aN.stuck p
noncomputable def Bw (K:PySem.W.Frag):Sp:=fun vs H Q _=>∃(a:Addr) (ns:List Int),vs=[.ref a]/\SqL K H a (ns.map V.int)/\ns.length<=63/\∀H',Q (.bl true) H'
theorem wc {F:Hp}:∀is:List Int,aE K F (is.map Dat.int) (is.map V.int)
 |[]=>rfl
 |i::is=>⟨.int i,is.map V.int,rfl,rfl,wc is⟩
theorem law_ok {k:Nat} {f:Addr} {fd:FuncData} {x:Str} {ro:Bool} {mlaw:Nat->List Dat->M Dat} (F:∀n,cz P w K mg base CX0 k f fd [x] (spF K ro (mlaw n) 1)) (h:∀ns:List Int,ns.length<=63->∃n,mlaw n [.lst (ns.map .int)]=.ok (.bl true)):cz P w K mg base CX0 k f fd [x] (Bw K):=by
 refine ⟨fun vs H Q E ⟨a,ns,e,_⟩=>by rw [e];rfl,fun A outer s H args us vs Q E hr he hb hv ⟨a,ns,e,hq,hl,q⟩=>?_⟩
 obtain ⟨n,hn⟩:=h ns hl
 refine (F n).run A outer s H args us vs Q E hr he hb hv ⟨H,[.lst (ns.map .int)],bp.refl _,⟨.ref a,[],e,⟨a,_,rfl,hq,wc ns⟩,rfl⟩,rfl,?_⟩
 rw [hn]
 intro v F' H' st z
 have:v=.bl true:=by cases ro<;>exact z
 rw [this]
 exact q H'
end
end L2
namespace L2
open PySem PySem.Spec PyProof.Rows
structure Kit (K:PySem.W.Frag):Prop where
 pe:kitOne K (.type "int") (.type "int")=some true
 mO:kitOne K (.type "bool") (.type "int")=some true
 mK:kitOne K (.type "list") (.type "int")=some false
 ko:kitOne K (.type "tuple") (.type "int")=some false
 p9:kitOne K (.type "str") (.type "int")=some false
 fS:kitOne K (.type "NoneType") (.type "int")=some false
 mM:kitOne K (.type "int") (.type "bool")=some false
 kz:kitOne K (.type "bool") (.type "bool")=some true
 ku:kitOne K (.type "list") (.type "bool")=some false
 jc:kitOne K (.type "tuple") (.type "bool")=some false
 mI:kitOne K (.type "str") (.type "bool")=some false
 eF:kitOne K (.type "NoneType") (.type "bool")=some false
 mL:kitOne K (.type "int") (.type "list")=some false
 ky:kitOne K (.type "bool") (.type "list")=some false
 kr:kitOne K (.type "list") (.type "list")=some true
 jb:kitOne K (.type "tuple") (.type "list")=some false
 mH:kitOne K (.type "str") (.type "list")=some false
 eE:kitOne K (.type "NoneType") (.type "list")=some false
 kx:kitOne K (.type "int") (.type "tuple")=some false
 jf:kitOne K (.type "bool") (.type "tuple")=some false
 jd:kitOne K (.type "list") (.type "tuple")=some false
 hI:kitOne K (.type "tuple") (.type "tuple")=some true
 kq:kitOne K (.type "str") (.type "tuple")=some false
 dz:kitOne K (.type "NoneType") (.type "tuple")=some false
 pb:kitOne K (.type "int") (.type "str")=some false
 mN:kitOne K (.type "bool") (.type "str")=some false
 mJ:kitOne K (.type "list") (.type "str")=some false
 kn:kitOne K (.type "tuple") (.type "str")=some false
 p8:kitOne K (.type "str") (.type "str")=some true
 fQ:kitOne K (.type "NoneType") (.type "str")=some false
section
variable {X:Cx} {K:PySem.W.Frag} {W:iV} {own ro:Bool} {e a b c:Expr} {es:List Expr} {x:Str} {pos p p2:Pos} {f fa fb fc:ao->M Dat} {fr:ao->M (List Dat)} {ft:ao->M Bool}
theorem Dx {pins:List (Addr×Obj)} {σ:St} {F H:Hp} {s:Shared} {T:String} {d:Dat} {x:V} {u:Value} {bi bb bl bt bs bn:Bool} {Q:Value->Shared->Prop} (I:Inv X pins σ H s) (hF:bp F H) (q:cW X.K F d x) (r:RelV x u)
  (hi:kitOne X.K (.type "int") (.type T)=some bi) (hb:kitOne X.K (.type "bool") (.type T)=some bb) (hl:kitOne X.K (.type "list") (.type T)=some bl) (ht:kitOne X.K (.type "tuple") (.type T)=some bt)
  (hs:kitOne X.K (.type "str") (.type T)=some bs) (hn:kitOne X.K (.type "NoneType") (.type T)=some bn)
  (h:∀k tk,(match d with|.int _=>k=bi|.bl _=>k=bb|.lst _=>k=bl|.tup _=>k=bt|.str _=>k=bs|.non=>k=bn|.ins _ _=>False)->Q (.bool k) {s with toks:=tk}) (no:∀C fs,d≠.ins C fs) :
  wpAny (model X.prog X.w) X.A (call (.builtin "isinstance") [u,.type T]) Q X.xe s:=by
 cases d with
 |non=>cases (show x=.non from q);cases r;exact kia_one PySem.W.kitx_none I.kIn True.intro hn (fun z=>nomatch z) fun tk=>h _ tk rfl
 |bl y=>cases (show x=.bl y from q);cases r;exact kia_one PySem.W.kitx_bool I.kIn True.intro hb (fun z=>nomatch z) fun tk=>h _ tk rfl
 |int i=>cases (show x=.int i from q);obtain ⟨t,rfl⟩:=r;exact kia_one PySem.W.kitx_int I.kIn True.intro hi (fun z=>nomatch z) fun tk=>h _ tk rfl
 |str y=>cases (show x=.str y from q);obtain ⟨t,rfl⟩:=r;exact kia_one PySem.W.kitx_str I.kIn True.intro hs (fun z=>nomatch z) fun tk=>h _ tk rfl
 |lst ds=>
  obtain ⟨l,xs,e,t,_⟩:=q
  subst e
  cases r
  obtain ⟨its,_,pl,_⟩:=I.list (hF.lst t)
  obtain ⟨o,h1,h2,_⟩:=pl.isList
  exact kia_one PySem.W.kitx_list I.kIn ⟨o,h1,h2⟩ hl (fun z=>nomatch z) fun tk=>h _ tk rfl
 |tup ds=>
  obtain ⟨l,xs,e,t,_⟩:=q
  subst e
  cases r
  obtain ⟨its,_,pl,_⟩:=I.tuple (hF.tup t)
  obtain ⟨o,h1,h2,_⟩:=pl
  exact kia_one PySem.W.kitx_tuple I.kIn ⟨o,h1,h2⟩ ht (fun z=>nomatch z) fun tk=>h _ tk rfl
 |ins C fs=>exact absurd rfl (no C fs)
theorem yY {T:String} {y:Str} {g:Dat->M Dat} (hc:eA X (.builtin "isinstance") (fun xs H Q=>∃v,xs=[v,.ty T]/\rD1 K W own g v H Q)) (hm:X.mg "isinstance"=none) (hmT:X.mg y=none) (hvT:bootBuiltins y=some (.type T)) (ha:DE K W false X a fa)
  (hg:Gl X "isinstance":=by rfl) (hgT:Gl X y:=by rfl) (hn:y≠"__name__":=by decide) (hd:(y==("__debug__":Str))=false:=by decide)
  (hst:starEach [a,.Name y p2] X.env=[(false,eval a X.env),(false,eval (.Name y p2) X.env)]:=by rfl) (hst2:starEach [.Name y p2] X.env=[(false,eval (.Name y p2) X.env)]:=by rfl) (hpl:(backTo pos (starEach [.Name y p2] X.env)).any (·.1)=false:=by rfl) :
  DE K W own X (.Call (.Name "isinstance" p) [a,.Name y p2] [] pos) (f1 g fa):=
 (hV hc hg hm boot_isinstance (bc ha (bc (D0 (pos:=p2) hgT hmT hvT hn hd) fE hst2) (by rw [hst,hst2])) (by decide) (by decide) (by rw [hst,hst2]) hpl).imp fun σ H Q h=>by
  obtain ⟨F,ρ,r,s,q⟩:=rd_1 h
  refine ⟨F,ρ,r,s,?_⟩
  cases e1:fa ρ with
  |error z=>rw [e1] at q;exact q
  |ok d=>rw [e1] at q;exact fun v F' H' st z=>⟨v,rfl,q v F' H' st z⟩
theorem Em (kit:Kit K) (hK:X.K=K:=by rfl):eA X (.builtin "isinstance") (fun xs H Q=>∃v,xs=[v,.ty "int"]/\rD1 K W own ur v H Q):=by
 subst hK
 intro pins s σ H xs us Q I r h
 obtain ⟨v,rfl,F,d,s1,q,p⟩:=h
 obtain ⟨u,w,rfl,ru,rw'⟩:=r.two
 cases (show w=Value.type "int" from rw')
 by_cases hi:∃C fs,d=.ins C fs
 ·obtain ⟨C,fs,rfl⟩:=hi
  exact aN.stuck p
 ·refine Dx I s1 q ru kit.pe kit.mO kit.mK kit.ko kit.p9 kit.fS (fun k tk hk=>⟨.bl k,H,I.tok tk,rfl,?_⟩) (fun C fs e=>hi ⟨C,fs,e⟩)
  cases d<;>first|(have hk':k=_:=hk;subst hk';exact aN.bl (own:=own) p s1)|exact absurd ⟨_,_,rfl⟩ hi
theorem C5 (kit:Kit K) (hm:X.mg "isinstance"=none) (hmT:X.mg "int"=none) (ha:DE K W false X a fa) (hK:X.K=K:=by rfl)
  (hg:Gl X "isinstance":=by rfl) (hgT:Gl X "int":=by rfl)
  (hst:starEach [a,.Name "int" p2] X.env=[(false,eval a X.env),(false,eval (.Name "int" p2) X.env)]:=by rfl) (hst2:starEach [.Name "int" p2] X.env=[(false,eval (.Name "int" p2) X.env)]:=by rfl) (hpl:(backTo pos (starEach [.Name "int" p2] X.env)).any (·.1)=false:=by rfl) :
  DE K W own X (.Call (.Name "isinstance" p) [a,.Name "int" p2] [] pos) (f1 ur fa):=yY (Em kit hK) hm hmT (by decide +kernel) ha hg hgT (by decide) (by decide) hst hst2 hpl
theorem C7 (kit:Kit K) (hK:X.K=K:=by rfl):eA X (.builtin "isinstance") (fun xs H Q=>∃v,xs=[v,.ty "bool"]/\rD1 K W own rK v H Q):=by
 subst hK
 intro pins s σ H xs us Q I r h
 obtain ⟨v,rfl,F,d,s1,q,p⟩:=h
 obtain ⟨u,w,rfl,ru,rw'⟩:=r.two
 cases (show w=Value.type "bool" from rw')
 by_cases hi:∃C fs,d=.ins C fs
 ·obtain ⟨C,fs,rfl⟩:=hi
  exact aN.stuck p
 ·refine Dx I s1 q ru kit.mM kit.kz kit.ku kit.jc kit.mI kit.eF (fun k tk hk=>⟨.bl k,H,I.tok tk,rfl,?_⟩) (fun C fs e=>hi ⟨C,fs,e⟩)
  cases d<;>first|(have hk':k=_:=hk;subst hk';exact aN.bl (own:=own) p s1)|exact absurd ⟨_,_,rfl⟩ hi
theorem A6 (kit:Kit K) (hm:X.mg "isinstance"=none) (hmT:X.mg "bool"=none) (ha:DE K W false X a fa) (hK:X.K=K:=by rfl)
  (hg:Gl X "isinstance":=by rfl) (hgT:Gl X "bool":=by rfl)
  (hst:starEach [a,.Name "bool" p2] X.env=[(false,eval a X.env),(false,eval (.Name "bool" p2) X.env)]:=by rfl) (hst2:starEach [.Name "bool" p2] X.env=[(false,eval (.Name "bool" p2) X.env)]:=by rfl) (hpl:(backTo pos (starEach [.Name "bool" p2] X.env)).any (·.1)=false:=by rfl) :
  DE K W own X (.Call (.Name "isinstance" p) [a,.Name "bool" p2] [] pos) (f1 rK fa):=yY (C7 kit hK) hm hmT (by decide +kernel) ha hg hgT (by decide) (by decide) hst hst2 hpl
theorem C6 (kit:Kit K) (hK:X.K=K:=by rfl):eA X (.builtin "isinstance") (fun xs H Q=>∃v,xs=[v,.ty "list"]/\rD1 K W own rJ v H Q):=by
 subst hK
 intro pins s σ H xs us Q I r h
 obtain ⟨v,rfl,F,d,s1,q,p⟩:=h
 obtain ⟨u,w,rfl,ru,rw'⟩:=r.two
 cases (show w=Value.type "list" from rw')
 by_cases hi:∃C fs,d=.ins C fs
 ·obtain ⟨C,fs,rfl⟩:=hi
  exact aN.stuck p
 ·refine Dx I s1 q ru kit.mL kit.ky kit.kr kit.jb kit.mH kit.eE (fun k tk hk=>⟨.bl k,H,I.tok tk,rfl,?_⟩) (fun C fs e=>hi ⟨C,fs,e⟩)
  cases d<;>first|(have hk':k=_:=hk;subst hk';exact aN.bl (own:=own) p s1)|exact absurd ⟨_,_,rfl⟩ hi
theorem A5 (kit:Kit K) (hm:X.mg "isinstance"=none) (hmT:X.mg "list"=none) (ha:DE K W false X a fa) (hK:X.K=K:=by rfl)
  (hg:Gl X "isinstance":=by rfl) (hgT:Gl X "list":=by rfl)
  (hst:starEach [a,.Name "list" p2] X.env=[(false,eval a X.env),(false,eval (.Name "list" p2) X.env)]:=by rfl) (hst2:starEach [.Name "list" p2] X.env=[(false,eval (.Name "list" p2) X.env)]:=by rfl) (hpl:(backTo pos (starEach [.Name "list" p2] X.env)).any (·.1)=false:=by rfl) :
  DE K W own X (.Call (.Name "isinstance" p) [a,.Name "list" p2] [] pos) (f1 rJ fa):=yY (C6 kit hK) hm hmT (by decide +kernel) ha hg hgT (by decide) (by decide) hst hst2 hpl
theorem Ae (kit:Kit K) (hK:X.K=K:=by rfl):eA X (.builtin "isinstance") (fun xs H Q=>∃v,xs=[v,.ty "tuple"]/\rD1 K W own mT v H Q):=by
 subst hK
 intro pins s σ H xs us Q I r h
 obtain ⟨v,rfl,F,d,s1,q,p⟩:=h
 obtain ⟨u,w,rfl,ru,rw'⟩:=r.two
 cases (show w=Value.type "tuple" from rw')
 by_cases hi:∃C fs,d=.ins C fs
 ·obtain ⟨C,fs,rfl⟩:=hi
  exact aN.stuck p
 ·refine Dx I s1 q ru kit.kx kit.jf kit.jd kit.hI kit.kq kit.dz (fun k tk hk=>⟨.bl k,H,I.tok tk,rfl,?_⟩) (fun C fs e=>hi ⟨C,fs,e⟩)
  cases d<;>first|(have hk':k=_:=hk;subst hk';exact aN.bl (own:=own) p s1)|exact absurd ⟨_,_,rfl⟩ hi
theorem yX (kit:Kit K) (hm:X.mg "isinstance"=none) (hmT:X.mg "tuple"=none) (ha:DE K W false X a fa) (hK:X.K=K:=by rfl)
  (hg:Gl X "isinstance":=by rfl) (hgT:Gl X "tuple":=by rfl)
  (hst:starEach [a,.Name "tuple" p2] X.env=[(false,eval a X.env),(false,eval (.Name "tuple" p2) X.env)]:=by rfl) (hst2:starEach [.Name "tuple" p2] X.env=[(false,eval (.Name "tuple" p2) X.env)]:=by rfl) (hpl:(backTo pos (starEach [.Name "tuple" p2] X.env)).any (·.1)=false:=by rfl) :
  DE K W own X (.Call (.Name "isinstance" p) [a,.Name "tuple" p2] [] pos) (f1 mT fa):=yY (Ae kit hK) hm hmT (by decide +kernel) ha hg hgT (by decide) (by decide) hst hst2 hpl
noncomputable def tRng (ta:TA) (lo hi:List V->Option Int):TE:=fun σ H Q=>ta σ H fun vs H1=>∃i j,lo vs=some i/\hi vs=some j/\(-(2^62)<=i/\i<2^62/\ -(2^62)<=j/\j<2^62)/\∀r,H1 r=none->Q (.ref r) (upd H1 r (.rng i j))
noncomputable def lo1:List V->Option Int
 |[.int _]=>some 0
 |_=>none
noncomputable def hi1:List V->Option Int
 |[.int j]=>some j
 |_=>none
theorem rng_laid {pins:List (Addr×Obj)} {σ:St} {H:Hp} {s:Shared} {lo hi:Int} {t u v:Tok} {tk:Nat} (I:Inv X pins σ H s):Inv X pins σ (upd H s.heap.objs.size (.rng lo hi)) {s with heap:=s.heap.push {cls:=.type "range",data:=.fields #[.int lo t,.int hi u,.int 1 v]},toks:=tk}:=
 I.laid (fun b o e=>Heap.get?_push_of_some _ e) (Nat.le_refl _) ⟨t,u,v,Heap.get?_push_size _ rfl⟩
theorem pe_rng1 {ta:TA} (hg:Gl X "range") (hm:X.mg "range"=none) (ha:PA X [a] ta) (hs:starEach [a] X.env=[(false,eval a X.env)]:=by rfl):PE X (.Call (.Name "range" p) [a] [] pos) (tRng ta lo1 hi1):=by
 intro pins s σ H Q I h
 refine Call_ (rG I hg hm boot_range (PyProof.Rows.callWith_type1 (thn (ha pos pins s σ H _ I h) fun us s1 ⟨vs,H1,I1,r1,q1⟩=>?_) hs rfl))
 obtain ⟨i,j,e1,e2,hb,q⟩:=q1
 match vs,r1,e1,e2 with
 |[.int k],r1,e1,e2=>
  cases e1
  cases e2
  obtain ⟨u,rfl,t,rfl⟩:=r1.one
  exact call_range_1 ⟨.ref _,_,rng_laid I1,rfl,q _ I1.fresh⟩
theorem Vals.of_get:∀{xs:List V} {us:List Value},xs.length=us.length->(∀(i:Nat) v u,xs[i]? =some v->us[i]? =some u->RelV v u)->Vals xs us
 |[],[],_,_=>.nil
 |[],_::_,h,_=>by simp at h
 |_::_,[],h,_=>by simp at h
 |x::xs,u::us,h,q=>.cons (q 0 x u rfl rfl) (Vals.of_get (by simpa using h) fun i v w h1 h2=>q (i+1) v w (by simpa using h1) (by simpa using h2))
theorem BP {lo:Int}:∀{n:Nat} {acc:List Value},acc.length=n->(∀(i:Nat) v,acc[i]? =some v->∃t,v=.int (lo+i) t)->Vals ((List.range n).map fun k:Nat=>V.int (lo+k)) acc:=by
 intro n acc hl h
 refine Vals.of_get (by simp [hl]) fun i v u e1 e2=>?_
 obtain ⟨t,rfl⟩:=h i u e2
 have hi:i<n:=by
  have:=(List.getElem?_eq_some_iff.mp e1).1
  simpa using this
 rw [List.getElem?_map,List.getElem?_range hi] at e1
 cases e1
 exact ⟨t,rfl⟩
theorem xG (hc:X.calm=true):eA X (.type "list") (fun xs H Q=>∃r lo hi,xs=[.ref r]/\H r=some (.rng lo hi)/\(-(2^62)<=lo/\lo<2^62/\ -(2^62)<=hi/\hi<2^62)/\(hi-lo).toNat<=sizeLine/\∀l,H l=none->Q (.ref l) (upd H l (.lst ((List.range (hi-lo).toNat).map fun k:Nat=>V.int (lo+k))))):=by
 intro pins s σ H xs us Q I rr h
 obtain ⟨r,lo,hi,rfl,hH,⟨b1,b2,b3,b4⟩,hz,q⟩:=h
 obtain ⟨u,rfl,ru⟩:=rr.one
 cases ru
 obtain ⟨t,u,v,e⟩:=(show ∃t u v,s.heap.get? r=some {cls:=.type "range",data:=.fields #[.int lo t,.int hi u,.int 1 v]} from I.hok r _ hH)
 refine call_list_range (n:=(hi-lo).toNat) (I.ok.hd hc) e (small_one b1 b2 b3 b4) (by rw [rangeSize_one];split<;>omega) (by rw [sizeLine_eq] at hz;omega) fun h' tk acc' c' kp e2 it=>?_
 have hv:Vals ((List.range (hi-lo).toNat).map fun k:Nat=>V.int (lo+k)) acc'.toList:=BP (by rw [Array.length_toList];exact it.1) fun i v hi=>by
  obtain ⟨t,e⟩:=it.2 i v (by simpa using hi)
  exact ⟨t,by rw [e,Int.mul_one]⟩
 exact ⟨.ref _,_,I.laid (t':=tk) kp (Nat.le_refl _) (show jQ X.prog X.w _ h' _ (.lst _) from ⟨by simpa using hz,acc'.toList,c',hv,by simpa using e2⟩),rfl,q _ I.fresh⟩
theorem A0 {F:Hp} (lo:Int) (n:Nat):aE K F (aU lo n) ((List.range n).map fun k:Nat=>V.int (lo+k)):=by
 refine aE.of_get (by simp [aU]) fun i d v h1 h2=>?_
 have hi:i<n:=by
  have:=(List.getElem?_eq_some_iff.mp h2).1
  simpa using this
 unfold aU at h1
 rw [List.getElem?_map,List.getElem?_range hi] at h1 h2
 cases h1
 cases h2
 rfl
theorem lrng_end {F H1:Hp} {Q:VK} {i j:Int} {r:Addr} (p:aN K W true F H1 (cB (aU i (j-i).toNat)) Q) (s:bp F H1) (hr:H1 r=none) :
  (j-i).toNat<=sizeLine/\∀l,upd H1 r (.rng i j) l=none->Q (.ref l) (upd (upd H1 r (.rng i j)) l (.lst ((List.range (j-i).toNat).map fun k:Nat=>V.int (i+k)))):=by
 unfold cB at p
 by_cases hl:(aU i (j-i).toNat).length<=sizeLine
 ·rw [if_pos hl] at p
  refine ⟨by simpa [aU] using hl,fun l hl2=>?_⟩
  have s2:Step F H1 F (upd H1 r (.rng i j)):=Step.grow s hr
  have e:H1 l=none:=s2.hh.free hl2
  exact p _ F _ (s2.trans (Step.grow s2.fh hl2)) ⟨l,_,rfl,aP,s.free e,e,A0 i _⟩
 ·rw [if_neg hl] at p
  exact (W.ns p).elim
theorem de_lrng1 {q1 q2:Pos} (hml:X.mg "list"=none) (hm:X.mg "range"=none) (ha:DA K W X [a] fr) (hc:X.calm=true:=by rfl) (hg:Gl X "range":=by rfl) (hgl:Gl X "list":=by rfl) (hs:starEach [a] X.env=[(false,eval a X.env)]:=by rfl)
  (hst:starEach [.Call (.Name "range" q1) [a] [] q2] X.env=[(false,eval (.Call (.Name "range" q1) [a] [] q2) X.env)]:=by rfl):DE K W true X (.Call (.Name "list" p) [.Call (.Name "range" q1) [a] [] q2] [] pos) (fLR (sr so fr)):=by
 refine PE.imp (yv (xG hc) hgl hml PyProof.Rows.boot_list (bc (pe_rng1 hg hm ha hs) fE hst) (by decide) (by decide) hst rfl) fun σ H Q h=>?_
 obtain ⟨F,ρ,r,s,p⟩:=h
 refine uC r s (fun e he=>p.err (by unfold fLR sr;rw [he];rfl)) fun ds hd xs F1 H1 s1 q1=>?_
 have e1:fLR (sr so fr) ρ=(so ds).bind cB:=by unfold fLR sr;rw [hd];rfl
 rw [e1] at p
 have p1:=p.step s1
 by_cases hds:∃j,ds=[.int j]
 ·obtain ⟨j,rfl⟩:=hds
  obtain ⟨v,vs,e2,q2,e3⟩:=q1
  have p2:aN K W true F1 H1 ((if mh j=true then Except.ok (aU 0 j.toNat) else Except.error Err.stuck:M (List Dat)).bind cB) Q:=p1
  by_cases hj:mh j=true
  ·rw [if_pos hj] at p2
   unfold mh at hj
   simp only [Bool.and_eq_true,decide_eq_true_eq] at hj
   have e4:xs=[.int j]:=by rw [e2,show v=.int j from q2,show vs=[] from e3]
   subst e4
   refine ⟨0,j,rfl,rfl,⟨by decide,by decide,hj.1,hj.2⟩,fun r2 hr2=>?_⟩
   have p3:aN K W true F1 H1 (cB (aU 0 (j-0).toNat)) Q:=by rw [Int.sub_zero];exact p2
   obtain ⟨z1,z2⟩:=lrng_end p3 s1.fh hr2
   exact ⟨r2,0,j,rfl,aP,⟨by decide,by decide,hj.1,hj.2⟩,z1,z2⟩
  ·rw [if_neg hj] at p2
   exact (W.ns p2).elim
 ·have:so ds=.error .stuck:=by
   unfold so
   split
   ·exact absurd ⟨_,rfl⟩ hds
   ·rfl
  rw [this] at p1
  exact (W.ns p1).elim
end
section
variable {K:PySem.W.Frag} {W:iV} {ro:Bool} {F0 H0 FB F H:Hp} {OL O O' O2:List Nat} {D:Ends} {σ:St} {ρ:ao} {g h:ao->M Flo} {f fk:ao->M Dat}
theorem popD_ok {ds:List Dat} {k:Dat} {d:Dat} {es:List Dat} (h:zI ds k=.ok (d,es)):∃i j,k=.int i/\ds.length<=sizeLine/\ixN ds.length i=some j/\ds[j]? =some d/\es=ds.eraseIdx j:=by
 unfold zI at h
 cases k with
 |int i=>
  simp only [asI,ax] at h
  split at h
  ·cases h
  ·rename_i hs
   cases hj:ixN ds.length i with
   |none=>rw [hj] at h;cases h
   |some j=>
    rw [hj] at h
    simp only at h
    cases hd:ds[j]? with
    |none=>rw [hd] at h;cases h
    |some d'=>
     rw [hd] at h
     cases h
     exact ⟨i,j,rfl,by omega,hj,hd,rfl⟩
 |_=>cases h
theorem AR {ds:List Dat} {k:Dat} {e:Err} (h:zI ds k=.error e):e=.stuck:=by
 unfold zI at h
 cases k with
 |int i=>
  simp only [asI,ax] at h
  split at h
  ·cases h;rfl
  ·cases hj:ixN ds.length i with
   |none=>rw [hj] at h;cases h;rfl
   |some j=>
    rw [hj] at h
    simp only at h
    cases hd:ds[j]? with
    |none=>rw [hd] at h;cases h;rfl
    |some d'=>rw [hd] at h;cases h
 |_=>cases h;rfl
noncomputable def tPopE (K:PySem.W.Frag) (i:Nat) (tk:TE):TE:=tBM K "list" rPopAt (tVar i) (zB tk tNil)
theorem CY {i:Nat} {R:VK} (r:Rep K F0 H0 FB O F H σ ρ) (hi:i∈O) {ds:List Dat} (hl:jC ρ i=.ok ds) (hE:∀e,fk ρ=.error e->W.p e F0 H0)
  (hO:∀k,fk ρ=.ok k->(∀e,zI ds k=.error e->False)/\∀d es,zI ds k=.ok (d,es)->∀v F1 H1,Rep K F0 H0 FB O F1 H1 σ (ρ.set i (some (.lst es)))->cW K F1 d v->R v H1):tPopE K i (tD K W false fk) σ H R:=by
 obtain ⟨a,xs,e2,ha,z⟩:=r.AZ hi (lH hl)
 refine ⟨.ref a,e2,wC ha,?_⟩
 refine bx r.tN r.nB (fun e he=>W.mono (hE e he) (r.freeze (O2:=[]) (by simp)).st) fun k hk w F1 H1 s1 q=>?_
 obtain ⟨h1,h2⟩:=hO k hk
 cases hp:zI ds k with
 |error e=>exact (h1 e hp).elim
 |ok de=>
  obtain ⟨d,es⟩:=de
  obtain ⟨m,j,rfl,hz,hj,hd,rfl⟩:=popD_ok hp
  obtain ⟨x1,x2,x3,x4⟩:=xi hj
  obtain ⟨y,e3,qy⟩:=z.get hd
  have hs:=sizeLine_eq
  refine ⟨a,xs,m,j,y,rfl,by rw [show w=.int m from q],s1.hh _ _ ha,by omega,by omega,by rw [z.length];exact x1,e3,?_⟩
  exact h2 d _ hp y _ _ ((r.oU s1).write hi (lH hl) e2 (aE.eraseIdx j (z.mono (r.mF s1)))) (qy.mono (r.mF s1))
theorem rs_popU {i:Nat} {pt:Pat} (hi:i∈O) (n:∀i∈pt.names,i∉O) (t:tS K W ro F0 H0 OL O O (CK i pt fk) D σ H):CF (tPopE K i (tD K W false fk)) (gP K pt) D σ H:=by
 obtain ⟨FB,F,ρ,r,p⟩:=t
 unfold CK at p
 cases hl:jC ρ i with
 |error e=>have:=pq hl;subst this;exact p.stuck (by rw [hl];rfl)
 |ok ds=>
  rw [hl,ax] at p
  refine CY r hi hl (fun e he=>p.err (by rw [he];rfl)) fun k hk=>?_
  rw [hk,ax] at p
  refine ⟨fun e he=>by have:=AR he;subst this;exact p.stuck (by rw [he];rfl),fun d es2 hp v F1 H1 r1 q=>?_⟩
  rw [hp,ax] at p
  cases e:jz pt d (ρ.set i (some (.lst es2))) with
  |error x=>have:=pX e;subst this;exact p.stuck (by simp only [e];rfl)
  |ok ρ'=>
   simp only [e,ax] at p
   exact DL r1 n q e fun σ' r'=>p σ' F1 H1 r'
theorem rs_pop {i j:Nat} (hi:i∈O) (hj:j∉O) (t:tS K W ro F0 H0 OL O O (sPop i j fk) D σ H):CF (tPopE K i (tD K W false fk)) (vH j) D σ H:=by
 obtain ⟨FB,F,ρ,r,p⟩:=t
 unfold sPop at p
 cases hl:jC ρ i with
 |error e=>have:=pq hl;subst this;exact p.stuck (by rw [hl];rfl)
 |ok ds=>
  rw [hl,ax] at p
  refine CY r hi hl (fun e he=>p.err (by rw [he];rfl)) fun k hk=>?_
  rw [hk,ax] at p
  refine ⟨fun e he=>by have:=AR he;subst this;exact p.stuck (by rw [he];rfl),fun d es2 hp v F1 H1 r1 q=>?_⟩
  rw [hp,ax] at p
  exact p _ F1 H1 (r1.set' q hj)
end
section
variable {X:Cx} {K:PySem.W.Frag} {W:iV} {own ro:Bool} {e a b c:Expr} {x y:Str} {pos p p2 p3 q r t u:Pos} {f fk:ao->M Dat} {OL O:List Nat}
theorem pe_pop {j:Nat} {tk:TE} (hk:PE X e tk) (hN:X.N[j]? =some y) (hv:Vis X.env.scope y) (hd:(y==("__debug__":Str))=false) (hcd:(y==("__classdict__":Str))=false)
  (hst:starEach [e] X.env=[(false,eval e X.env)]) (hbase:attributeBase (.Name y p) "pop" X.env (eval (.Name y p) X.env)=eval (.Name y p) X.env) (hfew:((backTo q (starEach [e] X.env)).all (fun x=> !x.1)&&(backToKw q (keywordEach [] X.env)).all (fun x=>x.1.isSome)&&decide ([e].length+([]:List Keyword).length+(if ([]:List Keyword).isEmpty then 0 else 1)<30))=true) (hplain:(backTo q (starEach [] X.env)).any (·.1)=false) (hline:(t.endLine==q.line)=true) :
  PE X (.Call (.Attribute (.Name y p) "pop" t) [e] [] q) (tPopE X.K j tk):=pe_bm PySem.F.plainAttrs_list PySem.F.slot_list_pop PySem.F.type_list_pop mt_popAt (pv j hN hv hd hcd) (bc hk fE hst) hbase hfew hline hst hplain
theorem ds_popU {i:Nat} {pt:Pat} {tg:Expr} (hg:DG K X tg pt) (hk:DE K W false X e fk) (ho:i∈O:=by decide) (n:∀i∈pt.names,i∉O:=by decide) (hN:X.N[i]? =some y:=by rfl) (hv:Vis X.env.scope y:=by first|exact Or.inl rfl|exact Or.inr (Or.inl rfl)|exact Or.inr (Or.inr rfl)) (hd:(y==("__debug__":Str))=false:=by decide) (hcd:(y==("__classdict__":Str))=false:=by decide) (hK:X.K=K:=by rfl)
  (hst:starEach [e] X.env=[(false,eval e X.env)]:=by rfl) (hbase:attributeBase (.Name y p) "pop" X.env (eval (.Name y p) X.env)=eval (.Name y p) X.env:=by rfl) (hfew:((backTo q (starEach [e] X.env)).all (fun x=> !x.1)&&(backToKw q (keywordEach [] X.env)).all (fun x=>x.1.isSome)&&decide ([e].length+([]:List Keyword).length+(if ([]:List Keyword).isEmpty then 0 else 1)<30))=true:=by rfl) (hplain:(backTo q (starEach [] X.env)).any (·.1)=false:=by rfl) (hline:(t.endLine==q.line)=true:=by rfl) (hs:swapsWithSole [tg] (.Call (.Attribute (.Name y p) "pop" t) [e] [] q) pos.line X.env=pure false:=by rfl) (hw:swappedStores [tg] (.Call (.Attribute (.Name y p) "pop" t) [e] [] q) X.env=pure none:=by rfl)
  (h1:(assignEach [tg] X.env).map (·.2)=[assign tg X.env]:=by rfl):DS K W ro X OL O O (.Assign [tg] (.Call (.Attribute (.Name y p) "pop" t) [e] [] q) pos) (CK i pt fk):=fun F0 H0=>by
 subst hK
 exact (AQ (pe_pop hk hN hv hd hcd hst hbase hfew hplain hline) hg hs hw h1).imp fun _ _ _=>rs_popU ho n
theorem ds_pop {i j:Nat} (hNd:X.N.Nodup) (hk:DE K W false X e fk) (ho:i∈O:=by decide) (hjo:j∉O:=by decide) (hN:X.N[i]? =some y:=by rfl) (hv:Vis X.env.scope y:=by first|exact Or.inl rfl|exact Or.inr (Or.inl rfl)|exact Or.inr (Or.inr rfl)) (hd:(y==("__debug__":Str))=false:=by decide) (hcd:(y==("__classdict__":Str))=false:=by decide) (hj:X.N[j]? =some x:=by rfl) (hx:Loc X.env.scope x:=by first|exact Or.inl rfl|exact Or.inr rfl) (hf:X.fn x=true\/X.env.scope.names.lookup x=some .local:=by first|exact .inl rfl|exact .inr rfl|assumption) (hK:X.K=K:=by rfl)
  (hst:starEach [e] X.env=[(false,eval e X.env)]:=by rfl) (hbase:attributeBase (.Name y p) "pop" X.env (eval (.Name y p) X.env)=eval (.Name y p) X.env:=by rfl) (hfew:((backTo q (starEach [e] X.env)).all (fun x=> !x.1)&&(backToKw q (keywordEach [] X.env)).all (fun x=>x.1.isSome)&&decide ([e].length+([]:List Keyword).length+(if ([]:List Keyword).isEmpty then 0 else 1)<30))=true:=by rfl) (hplain:(backTo q (starEach [] X.env)).any (·.1)=false:=by rfl) (hline:(t.endLine==q.line)=true:=by rfl) (hs:swapsWith (.Call (.Attribute (.Name y p) "pop" t) [e] [] q) (some (.Name x p2)) pos.line X.env=pure false:=by rfl):DS K W ro X OL O O (.Assign [.Name x p2] (.Call (.Attribute (.Name y p) "pop" t) [e] [] q) pos) (sPop i j fk):=fun F0 H0=>by
 subst hK
 exact (AO hNd hj hx (pe_pop hk hN hv hd hcd hst hbase hfew hplain hline) hs hf).imp fun _ _ _=>rs_pop ho hjo
end
end L2
namespace L2
open PySem PySem.Spec PyProof.Rows
section
variable {X:Cx} {es:List Expr} {x:Str} {p:Pos}
theorem g9 {N':List Str} {sc:Scope} {L:Addr} {cs:List (Str×Addr)} {s:Shared} {H:Hp} {fp:List Addr} {i:Nat} {is:List Nat} (hN:N'.Nodup) (h2:PGs (bG X N' sc L cs s H fp) es (lM is)) (hi:N'[i]? =some x:=by rfl) (hx:Loc (bG X N' sc L cs s H fp).env.scope x:=by first|exact Or.inl rfl|exact Or.inr rfl)
  (hf:(bG X N' sc L cs s H fp).fn x=true\/(bG X N' sc L cs s H fp).env.scope.names.lookup x=some .local:=by first|exact .inl rfl|exact .inr rfl|assumption)
  (hs:(assignEach (.Name x p::es) (bG X N' sc L cs s H fp).env).map (·.2)=assign (.Name x p) (bG X N' sc L cs s H fp).env::(assignEach es (bG X N' sc L cs s H fp).env).map (·.2):=by rfl):PGs (bG X N' sc L cs s H fp) (.Name x p::es) (lM (i::is)):=AS (pg_c hN hi hx hf) h2 hs
end
end L2
namespace L2
open PySem PySem.Spec PyProof.Rows
open PySem.W in
noncomputable def gW {α:Type} (lt:Nat->Nat->Bool):KasT α->α
 |.ret a=>a
 |.ask i j k=>gW lt (k (lt i j))
section
open PySem.W
variable {α β:Type} {lt:Nat->Nat->Bool}
theorem mE (f:α->KasT β):∀t:KasT α,gW lt (t.bind f)=gW lt (f (gW lt t))
 |.ret _=>rfl
 |.ask i j k=>mE f (k (lt i j))
variable {key:Nat->Int} {p:Array Nat}
noncomputable def kAt (key:Nat->Int) (p:Array Nat) (i:Nat):Int:=key (p.getD i 0)
noncomputable def Up (key:Nat->Int) (p:Array Nat) (k:Nat):Prop:=∀i j,i<=j->j<k->kAt key p i<=kAt key p j
noncomputable def Down (key:Nat->Int) (p:Array Nat) (k:Nat):Prop:=∀i j,i<=j->j<k->kAt key p j<=kAt key p i
theorem pB {p q:Array Nat} {i j:Nat} (h:p[i]? =q[j]?):kAt key p i=kAt key q j:=by
 unfold kAt
 rw [Array.getD_eq_getD_getElem?,Array.getD_eq_getD_getElem?,h]
theorem uT {i j:Nat} (hj:j<=p.size) (k:Nat):kAt key (kas_rev p i j) k=if i<=k/\k<j then kAt key p (i+j-1-k) else kAt key p k:=by
 have e:=getElem?_mirror_all (i:=i) hj k
 unfold kas_rev
 split
 ·rename_i h;rw [if_pos h] at e;exact pB e
 ·rename_i h;rw [if_neg h] at e;exact pB e
theorem kAt_bub {src d:Nat} (hs:src<p.size) (hd:d<=src) (k:Nat):kAt key (bubble p src d) k=if k=src-d then kAt key p src else if src-d<k/\k<=src then kAt key p (k-1) else kAt key p k:=by
 have e:=getElem?_bubble hs d hd k
 split
 ·rename_i h;rw [if_pos h] at e;exact pB e
 ·rename_i h
  rw [if_neg h] at e
  split
  ·rename_i h2;rw [if_pos h2] at e;exact pB e
  ·rename_i h2;rw [if_neg h2] at e;exact pB e
theorem nA {i j:Nat}:(kas_rev p i j).size=p.size:=mirror_size _ _ _ _
theorem jV {i j:Nat}:(kas_rev p i j).Perm p:=mirror_perm _ _ _ _
noncomputable def ltK (key:Nat->Int) (i j:Nat):Bool:=decide (key i<key j)
theorem Et (p:Array Nat):∀(f n:Nat),1<=n->Up key p n->n<=gW (ltK key) (kas_asc p f n)/\gW (ltK key) (kas_asc p f n)<=n+f/\Up key p (gW (ltK key) (kas_asc p f n)) /\
  (gW (ltK key) (kas_asc p f n)<n+f->kAt key p (gW (ltK key) (kas_asc p f n))<kAt key p (gW (ltK key) (kas_asc p f n)-1))
 |0,n,h1,h=>⟨Nat.le_refl _,Nat.le_refl _,h,fun z=>absurd z (Nat.lt_irrefl _)⟩
 |f+1,n,h1,h=>by
  have e:gW (ltK key) (kas_asc p (f+1) n)=if kAt key p n<kAt key p (n-1) then n else gW (ltK key) (kas_asc p f (n+1)):=by
   show gW (ltK key) (if ltK key (p.getD n 0) (p.getD (n-1) 0)=true then KasT.ret n else kas_asc p f (n+1))=_
   by_cases hc:kAt key p n<kAt key p (n-1)
   ·rw [if_pos (show ltK key (p.getD n 0) (p.getD (n-1) 0)=true from decide_eq_true hc),if_pos hc];rfl
   ·rw [if_neg (show ¬ltK key (p.getD n 0) (p.getD (n-1) 0)=true from fun z=>hc (of_decide_eq_true z)),if_neg hc]
  rw [e]
  by_cases hc:kAt key p n<kAt key p (n-1)
  ·rw [if_pos hc]
   exact ⟨Nat.le_refl _,by omega,h,fun _=>hc⟩
  ·rw [if_neg hc]
   obtain ⟨a1,a2,a3,a4⟩:=Et p f (n+1) (by omega) (fun i j hij hj=>by
    by_cases hjn:j<n
    ·exact h i j hij hjn
    ·have:j=n:=by omega
     subst this
     by_cases hin:i=j
     ·rw [hin];exact Int.le_refl _
     ·have:=h i (j-1) (by omega) (by omega)
      omega)
   exact ⟨by omega,by omega,a3,fun z=>a4 (by omega)⟩
noncomputable def Alike (key:Nat->Int) (p:Array Nat) (n q:Nat):Prop:=∀i,n-(q+1)<=i->i<n->kAt key p i=kAt key p (n-1)
theorem Eu {n:Nat}:Alike key p (n+1) 0:=fun i h1 h2=>by rw [show i=n+1-1 by omega]
theorem yp {n q:Nat} (hn:n<=p.size) (ha:Alike key p n q) (hq:q+1<=n) (k:Nat):kAt key (kas_rev p (n-(q+1)) n) k=kAt key p k:=by
 rw [uT hn]
 split
 ·rename_i h
  rw [ha _ (by omega) (by omega),ha k h.1 h.2]
 ·rfl
theorem xy:∀(f:Nat) (p:Array Nat) (n q:Nat),1<=n->q+1<=n->n+f<=p.size->Down key p n->Alike key p n q->∀p' n' q',gW (ltK key) (kas_desc f p n q)=(p',n',q') ->
  p'.Perm p/\p'.size=p.size/\n<=n'/\n'<=n+f/\q'+1<=n'/\Down key p' n'/\Alike key p' n' q'
 |0,p,n,q,h1,hq,hz,hd,ha,p',n',q',e=>by
  cases e
  exact ⟨Array.Perm.refl _,rfl,Nat.le_refl _,Nat.le_refl _,hq,hd,ha⟩
 |f+1,p,n,q,h1,hq,hz,hd,ha,p',n',q',e=>by
  have e0:gW (ltK key) (kas_desc (f+1) p n q)=if kAt key p n<kAt key p (n-1) then (if q>0 then gW (ltK key) (kas_desc f (kas_rev p (n-(q+1)) n) (n+1) 0) else gW (ltK key) (kas_desc f p (n+1) 0))
    else if kAt key p (n-1)<kAt key p n then (p,n,q) else gW (ltK key) (kas_desc f p (n+1) (q+1)):=by
   show gW (ltK key) (if ltK key (p.getD n 0) (p.getD (n-1) 0)=true then (if q>0 then kas_desc f (kas_rev p (n-(q+1)) n) (n+1) 0 else kas_desc f p (n+1) 0)
    else KasT.ask (p.getD (n-1) 0) (p.getD n 0) fun d=>if d=true then .ret (p,n,q) else kas_desc f p (n+1) (q+1))=_
   by_cases hc:kAt key p n<kAt key p (n-1)
   ·rw [if_pos (show ltK key (p.getD n 0) (p.getD (n-1) 0)=true from decide_eq_true hc),if_pos hc]
    by_cases hq0:q>0
    ·rw [if_pos hq0,if_pos hq0]
    ·rw [if_neg hq0,if_neg hq0]
   ·rw [if_neg (show ¬ltK key (p.getD n 0) (p.getD (n-1) 0)=true from fun z=>hc (of_decide_eq_true z)),if_neg hc]
    show gW (ltK key) (if ltK key (p.getD (n-1) 0) (p.getD n 0)=true then KasT.ret (p,n,q) else kas_desc f p (n+1) (q+1))=_
    by_cases hc2:kAt key p (n-1)<kAt key p n
    ·rw [if_pos (show ltK key (p.getD (n-1) 0) (p.getD n 0)=true from decide_eq_true hc2),if_pos hc2];rfl
    ·rw [if_neg (show ¬ltK key (p.getD (n-1) 0) (p.getD n 0)=true from fun z=>hc2 (of_decide_eq_true z)),if_neg hc2]
  rw [e0] at e
  have down1:∀{r:Array Nat},(∀k,kAt key r k=kAt key p k)->kAt key p n<=kAt key p (n-1)->Down key r (n+1):=fun {r} hr hle i j hij hj=>by
   rw [hr,hr]
   by_cases hjn:j<n
   ·exact hd i j hij hjn
   ·have:j=n:=by omega
    subst this
    by_cases hin:i=j
    ·rw [hin];exact Int.le_refl _
    ·have:=hd i (j-1) (by omega) (by omega)
     omega
  by_cases hc:kAt key p n<kAt key p (n-1)
  ·rw [if_pos hc] at e
   by_cases hq0:q>0
   ·rw [if_pos hq0] at e
    have hr:=yp (key:=key) (p:=p) (n:=n) (q:=q) (by omega) ha hq
    obtain ⟨b1,b2,b3,b4,b5,b6,b7⟩:=xy f _ (n+1) 0 (by omega) (by omega) (by rw [nA];omega) (down1 hr (by omega)) Eu p' n' q' e
    exact ⟨b1.trans jV,by rw [b2,nA],by omega,by omega,b5,b6,b7⟩
   ·rw [if_neg hq0] at e
    obtain ⟨b1,b2,b3,b4,b5,b6,b7⟩:=xy f _ (n+1) 0 (by omega) (by omega) (by omega) (down1 (fun _=>rfl) (by omega)) Eu p' n' q' e
    exact ⟨b1,b2,by omega,by omega,b5,b6,b7⟩
  ·rw [if_neg hc] at e
   by_cases hc2:kAt key p (n-1)<kAt key p n
   ·rw [if_pos hc2] at e
    cases e
    exact ⟨Array.Perm.refl _,rfl,Nat.le_refl _,by omega,hq,hd,ha⟩
   ·rw [if_neg hc2] at e
    obtain ⟨b1,b2,b3,b4,b5,b6,b7⟩:=xy f _ (n+1) (q+1) (by omega) (by omega) (by omega) (down1 (fun _=>rfl) (by omega)) (fun i h1 h2=>by
     show kAt key p i=kAt key p (n+1-1)
     rw [Nat.add_sub_cancel]
     by_cases hin:i=n
     ·rw [hin]
     ·have:=ha i (by omega) (by omega)
      omega) p' n' q' e
    exact ⟨b1,b2,by omega,by omega,b5,b6,b7⟩
theorem AG {n nrem:Nat} (h1:1<=n) (hn:n<=nrem) (hz:nrem<=p.size) (hd:Down key p n):∀m p',gW (ltK key) (kas_tail3 n nrem p)=(m,p')->p'.Perm p/\p'.size=p.size/\1<=m/\m<=nrem/\Up key p' m:=by
 intro m p' e
 unfold kas_tail3 at e
 rw [mE] at e
 cases e
 have hu:Up key (kas_rev p 0 n) n:=fun i j hij hj=>by
  rw [uT (by omega),uT (by omega),if_pos ⟨Nat.zero_le _,by omega⟩,if_pos ⟨Nat.zero_le _,by omega⟩]
  exact hd _ _ (by omega) (by omega)
 obtain ⟨a1,a2,a3,_⟩:=Et (key:=key) (kas_rev p 0 n) (nrem-n) n h1 hu
 exact ⟨jV,nA,by omega,by omega,a3⟩
theorem vd {n nrem:Nat} (h1:1<=n) (hn:n+1<=nrem) (hz:nrem<=p.size) (hall:∀i,i<n->kAt key p i=kAt key p (n-1)) (hlt:kAt key p n<kAt key p (n-1)):∀m p',gW (ltK key) (kas_descPart n nrem p)=(m,p')->p'.Perm p/\p'.size=p.size/\1<=m/\m<=nrem/\Up key p' m:=by
 intro m p' e
 unfold kas_descPart at e
 rw [mE] at e
 obtain ⟨r,n2,q2⟩:∃r n2 q2,gW (ltK key) (kas_desc (nrem-(n+1)) p (n+1) 0)=(r,n2,q2):=⟨_,_,_,rfl⟩
 obtain ⟨q2,er⟩:=q2
 rw [er] at e
 obtain ⟨b1,b2,b3,b4,b5,b6,b7⟩:=xy (key:=key) (nrem-(n+1)) p (n+1) 0 (by omega) (by omega) (by omega) (fun i j hij hj=>by
  by_cases hjn:j<n
  ·rw [hall i (by omega),hall j hjn];exact Int.le_refl _
  ·have:j=n:=by omega
   subst this
   by_cases hin:i=j
   ·rw [hin];exact Int.le_refl _
   ·rw [hall i (by omega)];omega) Eu r n2 q2 er
 by_cases hq:q2>0
 ·simp only [if_pos hq] at e
  have hr:=yp (key:=key) (p:=r) (n:=n2) (q:=q2) (by omega) b7 b5
  obtain ⟨c1,c2,c3,c4,c5⟩:=AG (key:=key) (p:=kas_rev r (n2-(q2+1)) n2) (n:=n2) (nrem:=nrem) (by omega) (by omega) (by rw [nA];omega) (fun i j hij hj=>by rw [hr,hr];exact b6 i j hij hj) m p' e
  exact ⟨c1.trans (jV.trans b1),by rw [c2,nA,b2],c3,c4,c5⟩
 ·simp only [if_neg hq] at e
  obtain ⟨c1,c2,c3,c4,c5⟩:=AG (key:=key) (p:=r) (n:=n2) (nrem:=nrem) (by omega) (by omega) (by omega) b6 m p' e
  exact ⟨c1.trans b1,by rw [c2,b2],c3,c4,c5⟩
theorem count_ok {nrem:Nat} (h1:1<=nrem) (hz:nrem<=p.size):∀m p',gW (ltK key) (kas_count nrem p)=(m,p')->p'.Perm p/\p'.size=p.size/\1<=m/\m<=nrem/\Up key p' m:=by
 intro m p' e
 unfold kas_count at e
 rw [mE] at e
 obtain ⟨a1,a2,a3,a4⟩:=Et (key:=key) p (nrem-1) 1 (Nat.le_refl _) (fun i j hij hj=>by rw [show i=j by omega];exact Int.le_refl _)
 obtain ⟨n,en⟩:∃n,gW (ltK key) (kas_asc p (nrem-1) 1)=n:=⟨_,rfl⟩
 rw [en] at e a1 a2 a3 a4
 by_cases hn:(n==nrem)=true
 ·simp only [if_pos hn] at e
  cases e
  exact ⟨Array.Perm.refl _,rfl,a1,by omega,a3⟩
 ·simp only [if_neg hn] at e
  have hn':n≠nrem:=fun z=>hn (by simp [z])
  have hlt:=a4 (by omega)
  by_cases h2:n>1
  ·simp only [if_pos h2] at e
   have e':gW (ltK key) (if ltK key (p.getD 0 0) (p.getD (n-1) 0)=true then KasT.ret (n,p) else kas_descPart n nrem (kas_rev p 0 n))=(m,p'):=e
   by_cases hc:kAt key p 0<kAt key p (n-1)
   ·rw [if_pos (show ltK key (p.getD 0 0) (p.getD (n-1) 0)=true from decide_eq_true hc)] at e'
    cases e'
    exact ⟨Array.Perm.refl _,rfl,a1,by omega,a3⟩
   ·rw [if_neg (show ¬ltK key (p.getD 0 0) (p.getD (n-1) 0)=true from fun z=>hc (of_decide_eq_true z))] at e'
    have all:∀i,i<n->kAt key p i=kAt key p (n-1):=fun i hi=>by
     have x1:=a3 0 i (by omega) hi
     have x2:=a3 i (n-1) (by omega) (by omega)
     omega
    have hr:∀i,i<n->kAt key (kas_rev p 0 n) i=kAt key p (n-1):=fun i hi=>by
     rw [uT (by omega),if_pos ⟨Nat.zero_le _,hi⟩]
     exact all _ (by omega)
    obtain ⟨c1,c2,c3,c4,c5⟩:=vd (key:=key) (p:=kas_rev p 0 n) (n:=n) (nrem:=nrem) a1 (by omega) (by rw [nA];omega) (fun i hi=>by rw [hr i hi,hr (n-1) (by omega)]) (by
     rw [hr (n-1) (by omega),uT (by omega),if_neg (by omega)]
     exact hlt) m p' e'
    exact ⟨c1.trans jV,by rw [c2,nA],c3,c4,c5⟩
  ·simp only [if_neg h2] at e
   have:n=1:=by omega
   subst this
   exact vd (key:=key) (Nat.le_refl _) (by omega) hz (fun i hi=>by rw [show i=1-1 by omega]) hlt m p' e
theorem rC {k:Nat} (hu:Up key p k):∀(f l r:Nat),r<=k->r-l<=f->l<=r->(∀i,i<l->kAt key p i<=kAt key p k)->(∀i,r<=i->i<k->kAt key p k<kAt key p i) ->
  gW (ltK key) (kas_place p k f l r)<=k/\(∀i,i<gW (ltK key) (kas_place p k f l r)->kAt key p i<=kAt key p k)/\∀i,gW (ltK key) (kas_place p k f l r)<=i->i<k->kAt key p k<kAt key p i
 |0,l,r,hr,hf,hlr,h1,h2=>by
  have:l=r:=by omega
  subst this
  exact ⟨hr,h1,h2⟩
 |f+1,l,r,hr,hf,hlr,h1,h2=>by
  by_cases hge:l>=r
  ·have:l=r:=by omega
   subst this
   have e:gW (ltK key) (kas_place p k (f+1) l l)=l:=by
    show gW (ltK key) (if l>=l then KasT.ret l else _)=l
    rw [if_pos hge];rfl
   rw [e]
   exact ⟨hr,h1,h2⟩
  ·have e:gW (ltK key) (kas_place p k (f+1) l r)=if kAt key p k<kAt key p ((l+r)/2) then gW (ltK key) (kas_place p k f l ((l+r)/2)) else gW (ltK key) (kas_place p k f ((l+r)/2+1) r):=by
    show gW (ltK key) (if l>=r then KasT.ret l else .ask (p.getD k 0) (p.getD ((l+r)/2) 0) fun c=>if c=true then kas_place p k f l ((l+r)/2) else kas_place p k f ((l+r)/2+1) r)=_
    rw [if_neg hge]
    show gW (ltK key) (if ltK key (p.getD k 0) (p.getD ((l+r)/2) 0)=true then kas_place p k f l ((l+r)/2) else kas_place p k f ((l+r)/2+1) r)=_
    by_cases hc:kAt key p k<kAt key p ((l+r)/2)
    ·rw [if_pos (show ltK key (p.getD k 0) (p.getD ((l+r)/2) 0)=true from decide_eq_true hc),if_pos hc]
    ·rw [if_neg (show ¬ltK key (p.getD k 0) (p.getD ((l+r)/2) 0)=true from fun z=>hc (of_decide_eq_true z)),if_neg hc]
   rw [e]
   by_cases hc:kAt key p k<kAt key p ((l+r)/2)
   ·rw [if_pos hc]
    exact rC hu f l ((l+r)/2) (by omega) (by omega) (by omega) h1 fun i hi hik=>by
     have:=hu ((l+r)/2) i hi hik
     omega
   ·rw [if_neg hc]
    exact rC hu f ((l+r)/2+1) r hr (by omega) (by omega) (fun i hi=>by
     have:=hu i ((l+r)/2) (by omega) (by omega)
     omega) h2
theorem bin_ok:∀(f:Nat) (p:Array Nat) (k:Nat),k+f<=p.size->Up key p k->(gW (ltK key) (kas_bin f p k)).Perm p/\Up key (gW (ltK key) (kas_bin f p k)) (k+f)
 |0,p,k,hz,hu=>⟨Array.Perm.refl _,hu⟩
 |f+1,p,k,hz,hu=>by
  have e:gW (ltK key) (kas_bin (f+1) p k)=gW (ltK key) (kas_bin f (bubble p k (k-gW (ltK key) (kas_place p k k 0 k))) (k+1)):=by
   show gW (ltK key) ((kas_place p k k 0 k).bind fun l=>kas_bin f (bubble p k (k-l)) (k+1))=_
   rw [mE]
  rw [e]
  obtain ⟨a1,a2,a3⟩:=rC hu k 0 k (Nat.le_refl _) (by omega) (Nat.zero_le _) (fun i hi=>absurd hi (Nat.not_lt_zero _)) (fun i h1 h2=>by omega)
  obtain ⟨l,el⟩:∃l,gW (ltK key) (kas_place p k k 0 k)=l:=⟨_,rfl⟩
  rw [el] at a1 a2 a3 ⊢
  have hb:=kAt_bub (key:=key) (p:=p) (src:=k) (d:=k-l) (by omega) (by omega)
  obtain ⟨c1,c2⟩:=bin_ok f (bubble p k (k-l)) (k+1) (by rw [bubble_size];omega) (fun i j hij hj=>by
   have e1:k-(k-l)=l:=by omega
   rw [hb,hb,e1]
   by_cases hi:i=l
   ·rw [if_pos hi]
    by_cases hj2:j=l
    ·rw [if_pos hj2];exact Int.le_refl _
    ·rw [if_neg hj2,if_pos (by omega)]
     have:=a3 (j-1) (by omega) (by omega)
     omega
   ·rw [if_neg hi]
    by_cases hj2:j=l
    ·rw [if_pos hj2,if_neg (by omega)]
     exact a2 i (by omega)
    ·rw [if_neg hj2]
     by_cases hi2:l<i/\i<=k
     ·rw [if_pos hi2,if_pos (by omega)]
      exact hu _ _ (by omega) (by omega)
     ·rw [if_neg hi2]
      by_cases hj3:l<j/\j<=k
      ·rw [if_pos hj3]
       exact hu _ _ (by omega) (by omega)
      ·rw [if_neg hj3]
       exact hu _ _ (by omega) (by omega))
  exact ⟨c1.trans (bubble_perm _ _ _),by rw [show k+(f+1)=k+1+f by omega];exact c2⟩
theorem zC {n:Nat} (h1:1<=n):(gW (ltK key) (kas_sort n)).toList.Perm (List.range n)/\Up key (gW (ltK key) (kas_sort n)) n:=by
 unfold kas_sort
 rw [mE]
 obtain ⟨m,p',er⟩:∃m p',gW (ltK key) (kas_count n (List.toArray (List.range n)))=(m,p'):=⟨_,_,rfl⟩
 rw [er]
 obtain ⟨b1,b2,b3,b4,b5⟩:=count_ok (key:=key) (p:=List.toArray (List.range n)) h1 (by simp) m p' er
 have hsz:p'.size=n:=by rw [b2];simp
 by_cases hm:m<n
 ·simp only [if_pos hm]
  have em:max m 1=m:=by omega
  rw [em]
  obtain ⟨c1,c2⟩:=bin_ok (key:=key) (n-m) p' m (by omega) b5
  refine ⟨?_,by rw [show m+(n-m)=n by omega] at c2;exact c2⟩
  have:=Array.perm_iff_toList_perm.mp (c1.trans b1)
  simpa using this
 ·simp only [if_neg hm]
  have:m=n:=by omega
  subst this
  refine ⟨?_,b5⟩
  have:=Array.perm_iff_toList_perm.mp b1
  show p'.toList.Perm _
  simpa using this
end
end L2
namespace L2
open PySem PySem.Spec PyProof.Rows
section
open PySem.W
variable {α β:Type} {n:Nat}
noncomputable def Bo (n:Nat) (R:α->Prop):KasT α->Prop
 |.ret a=>R a
 |.ask i j k=>i<n/\j<n/\∀b,Bo n R (k b)
theorem ng {R:α->Prop} {S:β->Prop} {f:α->KasT β} (hf:∀a,R a->Bo n S (f a)):∀t:KasT α,Bo n R t->Bo n S (t.bind f)
 |.ret a,h=>hf a h
 |.ask i j k,h=>⟨h.1,h.2.1,fun b=>ng hf (k b) (h.2.2 b)⟩
theorem w5 {lt:Nat->Nat->Bool} {R:α->Prop} {cmp:Nat->Nat->(Bool->Shared->Prop)->Shared->Prop} {s:Shared} (ha:∀i j (C:Bool->Shared->Prop),i<n->j<n->C (lt i j) s->cmp i j C s) {Q:α->Shared->Prop}:∀t:KasT α,Bo n R t->Q (gW lt t) s->t.kasWp cmp Q s
 |.ret _,_,h=>h
 |.ask i j k,r,h=>ha i j _ r.1 r.2.1 (w5 ha (k (lt i j)) (r.2.2 _) h)
noncomputable def InB (n:Nat) (p:Array Nat):Prop:=∀x,p.getD x 0<n
theorem qj {p q:Array Nat} (h0:0<n) (hp:InB n p) (h:q.Perm p):InB n q:=fun x=>by
 rw [Array.getD_eq_getD_getElem?]
 cases e:q[x]? with
 |none=>exact h0
 |some v=>
  have hv:v∈q.toList:=by
   rw [<- Array.getElem?_toList] at e
   exact List.mem_of_getElem? e
  have hv2:v∈p.toList:=(Array.perm_iff_toList_perm.mp h).mem_iff.mp hv
  obtain ⟨y,hy,ey⟩:=List.getElem_of_mem hv2
  have:=hp y
  rw [Array.getD_eq_getD_getElem?,<- Array.getElem?_toList,List.getElem?_eq_getElem hy,ey] at this
  exact this
variable {p:Array Nat}
theorem xK (hp:InB n p):∀f m,Bo n (fun _=>True) (kas_asc p f m)
 |0,_=>trivial
 |f+1,m=>⟨hp _,hp _,fun b=>by
  (try dsimp only)
  split
  ·trivial
  ·exact xK hp f (m+1)⟩
theorem sd (h0:0<n):∀(f:Nat) (p:Array Nat) (m q:Nat),InB n p->Bo n (fun r=>InB n r.1) (kas_desc f p m q)
 |0,p,_,_,hp=>hp
 |f+1,p,m,q,hp=>⟨hp _,hp _,fun b=>by
  (try dsimp only)
  split
  ·split
   ·exact sd h0 f _ _ _ (qj h0 hp jV)
   ·exact sd h0 f _ _ _ hp
  ·refine ⟨hp _,hp _,fun c=>?_⟩
   (try dsimp only)
   split
   ·exact hp
   ·exact sd h0 f _ _ _ hp⟩
theorem wt (h0:0<n) (hp:InB n p) (m r:Nat):Bo n (fun r=>InB n r.2) (kas_tail3 m r p):=by
 unfold kas_tail3
 refine ng (n:=n) (R:=fun _=>True) (f:=fun k=>KasT.ret (k,kas_rev p 0 m)) (fun a _=>?_) _ (xK (qj h0 hp jV) _ _)
 exact qj h0 hp jV
theorem s9 (h0:0<n) (hp:InB n p) (m r:Nat):Bo n (fun r=>InB n r.2) (kas_descPart m r p):=by
 refine ng (R:=fun r=>InB n r.1) (fun a ha=>?_) _ (sd h0 _ _ _ _ hp)
 (try dsimp only)
 split
 ·exact wt h0 (qj h0 ha jV) _ _
 ·exact wt h0 ha _ _
theorem C9 (h0:0<n) (hp:InB n p) (r:Nat):Bo n (fun r=>InB n r.2) (kas_count r p):=by
 refine ng (R:=fun _=>True) (fun a _=>?_) _ (xK hp _ _)
 (try dsimp only)
 split
 ·exact hp
 ·split
  ·refine ⟨hp _,hp _,fun b=>?_⟩
   (try dsimp only)
   split
   ·exact hp
   ·exact s9 h0 (qj h0 hp jV) _ _
  ·exact s9 h0 hp _ _
theorem tG (hp:InB n p) (k:Nat):∀f l r,Bo n (fun _=>True) (kas_place p k f l r)
 |0,_,_=>trivial
 |f+1,l,r=>by
  show Bo n (fun _=>True) (if l>=r then KasT.ret l else _)
  split
  ·trivial
  ·refine ⟨hp _,hp _,fun b=>?_⟩
   (try dsimp only)
   split
   ·exact tG hp k f _ _
   ·exact tG hp k f _ _
theorem Bk (h0:0<n):∀(f:Nat) (p:Array Nat) (k:Nat),InB n p->Bo n (fun _=>True) (kas_bin f p k)
 |0,_,_,_=>trivial
 |f+1,p,k,hp=>ng (R:=fun _=>True) (fun l _=>Bk h0 f _ _ (qj h0 hp (bubble_perm _ _ _))) _ (tG hp k _ _ _)
theorem Es (h0:0<n):Bo n (fun _=>True) (kas_sort n):=by
 refine ng (R:=fun r=>InB n r.2) (fun a ha=>?_) _ (C9 h0 (fun x=>?_) _)
 ·(try dsimp only)
  split
  ·exact Bk h0 _ _ _ ha
  ·trivial
 ·rw [Array.getD_eq_getD_getElem?]
  simp only [List.getElem?_toArray]
  cases e:(List.range n)[x]? with
  |none=>exact h0
  |some v=>exact List.mem_range.mp (List.mem_of_getElem? e)
end
section
open PySem.W
variable {prog:Program} {w:World} {A:Around} {E:Value->Shared->Prop} {s:Shared} {key:Nat->Int}
noncomputable def sG (key:Nat->Int) (vs:List Value):List Value:=if vs.length<2 then vs else (gW (ltK key) (kas_sort vs.length)).toList.map fun i=>vs.getD i Value.none
noncomputable def Asks (prog:Program) (w:World) (A:Around) (key:Nat->Int) (vs:List Value) (s':Shared):Prop:=
 wpAny (model prog w) A (keyKind' vs.toArray) (fun κ s2=>s2=s'/\∀i j (C:Bool->Shared->Prop),i<vs.length->j<vs.length->C (ltK key i j) s'->kas_ask prog w A κ vs i j C s') (fun _ _=>False) s'
theorem Dl {a:Addr} {vs:List Value} {n:Nat} {P:PySem.Fin->Shared->Prop} (ho:s.heap.get? a=some (seqObj "list" vs.toArray n)) (h64:vs.length<64)
  (hk:2<=vs.length->∀h1:Heap,(∀b o,b≠a->s.heap.get? b=some o->h1.get? b=some o)->Asks prog w A key vs {s with heap:=h1})
  (h:∀(h':Heap) (c:Nat),(∀b o,b≠a->s.heap.get? b=some o->h'.get? b=some o)->h'.get? a=some (seqObj "list" (sG key vs).toArray c)->P (.done (.ret .none)) {s with heap:=h'}) :
  wpAny (model prog w) A (Builtin.«list.sort» ⟨[.ref a],[]⟩) P E s:=by
 have hlt:a<s.heap.objs.size:=Heap.lt_size ho
 have hline:=sizeLine_eq
 obtain ⟨e1,ho1⟩:∃e1,(s.heap.update a (Obj.mapSeq fun _=>(#[]:Array Value))).get? a=some (seqObj "list" #[] e1):=⟨_,get?_update_seq ho fun _=>#[]⟩
 rw [list_sort_plain]
 refine wpAny_bind (listItems_at ho rfl (wpAny_bind (listUpdate_at ho rfl (wpAny_bind (seqEpoch_at ho1 rfl (wpAny_bind (wpAny_newTuple (wpAny_bind (wpAny_newList (wpAny_holding ?_) (Nat.zero_le _))) (by show vs.length<=_;omega))))) (by rw [List.size_toArray];omega) (Nat.zero_le _))))
 have hkeep:∀b o,b≠a->s.heap.get? b=some o->(((s.heap.update a (Obj.mapSeq fun _=>(#[]:Array Value))).push (seqObj "tuple" vs.toArray 0)).push (seqObj "list" #[] 0)).get? b=some o:=fun b o hb q=>
  Heap.get?_push_of_some _ (Heap.get?_push_of_some _ ((Heap.get?_update_other _ _ (Ne.symm hb)).trans q))
 have ho6:(((s.heap.update a (Obj.mapSeq fun _=>(#[]:Array Value))).push (seqObj "tuple" vs.toArray 0)).push (seqObj "list" #[] 0)).get? a=some (seqObj "list" #[] e1):=Heap.get?_push_of_some _ (Heap.get?_push_of_some _ ho1)
 show wpAny (model prog w) A _ P E {s with heap:=((s.heap.update a (Obj.mapSeq fun _=>(#[]:Array Value))).push (seqObj "tuple" vs.toArray 0)).push (seqObj "list" #[] 0)}
 dsimp only
 have fin:∀(out:List Value),out=sG key vs->P (.done (.ret .none)) {s with heap:=(((s.heap.update a (Obj.mapSeq fun _=>(#[]:Array Value))).push (seqObj "tuple" vs.toArray 0)).push (seqObj "list" #[] 0)).update a (Obj.mapSeq fun _=>out.toArray)}:=fun out eo=>by
  subst eo
  exact h _ _ (fun b o hb q=>(Heap.get?_update_other _ _ (Ne.symm hb)).trans (hkeep b o hb q)) (get?_update_seq ho6 fun _=>(sG key vs).toArray)
 by_cases h2:vs.toArray.size<2
 ·rw [if_pos h2,if_pos h2]
  refine wpAny_bind (wpAny_pure ?_)
  rw [StateT.run_pure]
  refine wpAny_bind (wpAny_pure ?_)
  dsimp only
  have h2':vs.length<2:=by simpa using h2
  have eo:(arrOf (SortSt.mk' general' (vs.toArray.zip vs.toArray) #[] 7 none)).map (·.2)=vs.toArray:=by
   show (vs.toArray.zip vs.toArray).map (·.2)=vs.toArray
   apply Array.toList_inj.mp
   simp only [Array.toList_map,Array.toList_zip]
   exact List.map_snd_zip (Nat.le_refl _)
  rw [eo]
  refine wpAny_bind (seqEpoch_at ho6 rfl (wpAny_bind (listUpdate_at ho6 rfl ?_ (Nat.zero_le _) (by show vs.length<=_;omega))))
  have e3:failedOf (SortSt.mk' general' (vs.toArray.zip vs.toArray) #[] 7 none)=none:=rfl
  simp only [e3,bne_self_eq_false,Bool.false_eq_true,if_false]
  exact wpAny_pure (fin vs (by unfold sG;rw [if_pos h2']))
 ·rw [if_neg h2,if_neg h2]
  have h2':2<=vs.length:=by rw [List.size_toArray] at h2;omega
  refine wpAny_bind (wpAny_mono (hk h2' _ hkeep) (fun κ s0 ⟨es,ask⟩=>?_) fun _ _ x=>x.elim)
  subst es
  refine wpAny_bind (wpAny_mono (kat_run (ks:=vs) (vs:=vs) (Q:=fun st' s'=>s'={s with heap:=((s.heap.update a (Obj.mapSeq fun _=>(#[]:Array Value))).push (seqObj "tuple" vs.toArray 0)).push (seqObj "list" #[] 0)}/\(arrOf st').map (·.2)=(sG key vs).toArray/\failedOf st'=none)
   (G:=fun p s'=>s'={s with heap:=((s.heap.update a (Obj.mapSeq fun _=>(#[]:Array Value))).push (seqObj "tuple" vs.toArray 0)).push (seqObj "list" #[] 0)}/\p=gW (ltK key) (kas_sort vs.length)) rfl h2' h64 (fun p st' s' _ har hf hg=>⟨hg.1,?_,hf⟩) (w5 (n:=vs.length) (R:=fun _=>True) (fun i j C hi hj hc=>ask i j C hi hj hc) _ (Es (by omega)) ⟨rfl,rfl⟩)) (fun r s' hr=>?_) fun _ _ x=>x)
  ·rw [kat_snds rfl har,hg.2]
   unfold sG
   rw [if_neg (by omega)]
  ·obtain ⟨⟨⟩,st'⟩:=r
   obtain ⟨es,eo,ef⟩:=hr
   have es:s'=_:=es
   subst es
   have eo:(arrOf st').map (·.2)=(sG key vs).toArray:=eo
   have ef:failedOf st'=none:=ef
   dsimp only
   rw [eo]
   have hol:(sG key vs).length=vs.length:=by
    unfold sG
    split
    ·rfl
    ·rw [List.length_map,(zC (key:=key) (n:=vs.length) (by omega)).1.length_eq,List.length_range]
   refine wpAny_bind (seqEpoch_at ho6 rfl (wpAny_bind (listUpdate_at ho6 rfl ?_ (Nat.zero_le _) (by show (sG key vs).length<=_;omega))))
   simp only [ef,bne_self_eq_false,Bool.false_eq_true,if_false]
   exact wpAny_pure (fin _ rfl)
theorem Bx {l:Addr} {vs:List Value} {Q:Value->Shared->Prop} (hl:s.heap.IsList l vs.toArray) (h64:vs.length<64)
  (hk:2<=vs.length->∀h1:Heap,(∀b o,s.heap.get? b=some o->h1.get? b=some o)->Asks prog w A.in1.in1 key vs {s with heap:=h1})
  (h:∀(h':Heap) (D:Addr) (c:Nat),s.heap.objs.size<=D->(∀b o,s.heap.get? b=some o->h'.get? b=some o)->h'.get? D=some (seqObj "list" (sG key vs).toArray c)->Q (.ref D) {s with heap:=h'}) :
  wpAny (model prog w) A (call (.builtin "sorted") [.ref l]) Q E s:=by
 have hline:=sizeLine_eq
 refine Calls.call_function_entry kind_sorted plain_sorted entry_sorted (args_sorted1 _) ?_
 unfold Builtin.«sorted»
 refine wpAny_bind (m:=checkCount "sorted" 1 1 _) (wpAny_pure (wpAny_bind (collect_list hl (wpAny_bind (wpAny_newList ?_ (by omega))) (by omega))))
 have hz:((s.heap.push (seqObj "list" #[] 0)).update s.heap.objs.size (Obj.mapSeq (·++vs.toArray))).objs.size=s.heap.objs.size+1:=by rw [Heap.size_update,size_push']
 have hD:(((s.heap.push (seqObj "list" #[] 0)).update s.heap.objs.size (Obj.mapSeq (·++vs.toArray))).push (seqObj "list" vs.toArray 0)).get? (s.heap.objs.size+1)=some (seqObj "list" vs.toArray 0):=by rw [<- hz];exact Heap.get?_push_size _ rfl
 have hkeep:∀b o,s.heap.get? b=some o->(((s.heap.push (seqObj "list" #[] 0)).update s.heap.objs.size (Obj.mapSeq (·++vs.toArray))).push (seqObj "list" vs.toArray 0)).get? b=some o:=fun b o q=>
  Heap.get?_push_of_some _ ((Heap.get?_update_other _ _ (Nat.ne_of_gt (Heap.lt_size q))).trans (Heap.get?_push_of_some _ q))
 show wpAny _ _ _ _ _ {s with heap:=((s.heap.push (seqObj "list" #[] 0)).update s.heap.objs.size (Obj.mapSeq (·++vs.toArray))).push (seqObj "list" vs.toArray 0)}
 rw [hz]
 have hnD:∀b o,s.heap.get? b=some o->b≠s.heap.objs.size+1:=fun b o q=>Nat.ne_of_lt (Nat.lt_succ_of_lt (Heap.lt_size q))
 refine wpAny_bind (wpAny_holding (wpAny_call_entry slot_list_sort ⟨_,hD,rfl⟩ entry_list_sort (Dl hD h64 (fun h2 h1 hk1=>hk h2 h1 fun b o q=>hk1 b o (hnD b o q) (hkeep b o q)) fun h' c k' e'=>⟨_,rfl,?_⟩) (args_list_sort _)))
 exact wpAny_pure ⟨_,rfl,h h' _ c (Nat.le_succ _) (fun b o q=>k' b o (hnD b o q) (hkeep b o q)) e'⟩
end
end L2
namespace L2
open PySem PySem.Spec PyProof.Rows
noncomputable def insL {α:Type} (lt:α->α->Bool) (x:α):List α->List α
 |[]=>[x]
 |y::ys=>if lt y x=true then y::insL lt x ys else x::y::ys
noncomputable def rH {α:Type} (lt:α->α->Bool):List α->List α
 |[]=>[]
 |x::xs=>insL lt x (rH lt xs)
noncomputable def ltZ (a b:Int):Bool:=decide (a<b)
noncomputable def uP:List Int->List Int->Bool
 |[],[]=>false
 |[],_::_=>true
 |_::_,[]=>false
 |a::as,b::bs=>if a=b then uP as bs else decide (a<b)
noncomputable def tupZ (t:List Int):Dat:=.tup (t.map .int)
noncomputable def tupD:Dat->M (List Int)
 |.tup ds=>dq ds
 |_=>stk
noncomputable def qq:List Dat->M (List (List Int))
 |[]=>.ok []
 |d::ds=>(tupD d).bind fun t=>(qq ds).bind fun r=>.ok (t::r)
noncomputable def yi (ds:List Dat):M Dat:=if ds.length<64 then (match dq ds with
 |.ok is=>.ok (.lst ((rH ltZ is).map .int))
 |.error _=>(qq ds).bind fun ts=>if (ts.all fun t=> !t.isEmpty)=true then .ok (.lst ((rH uP ts).map tupZ)) else stk) else stk
noncomputable def qz:List Dat->M Dat
 |[.lst ds]=>yi ds
 |_=>stk
section
variable {α:Type} {lt:α->α->Bool}
structure Ord (lt:α->α->Bool):Prop where
 irr:∀a,lt a a=false
 tr:∀a b c,lt a b=true->lt b c=true->lt a c=true
 tot:∀a b,lt a b=false->lt b a=false->a=b
theorem ordZ:Ord ltZ:=⟨fun a=>by simp [ltZ],fun a b c h1 h2=>by simp [ltZ] at *;omega,fun a b h1 h2=>by simp [ltZ] at *;omega⟩
theorem D7:Ord uP:=by
 refine ⟨fun a=>?_,fun a b c=>?_,fun a b=>?_⟩
 ·induction a with
  |nil=>rfl
  |cons x xs ih=>simp [uP,ih]
 ·induction a generalizing b c with
  |nil=>
   cases b with
   |nil=>intro h;simp [uP] at h
   |cons y ys=>
    intro _ h2
    cases c with
    |nil=>simp [uP] at h2
    |cons z zs=>rfl
  |cons x xs ih=>
   intro h1 h2
   cases b with
   |nil=>simp [uP] at h1
   |cons y ys=>
    cases c with
    |nil=>simp [uP] at h2
    |cons z zs=>
     simp only [uP] at h1 h2 ⊢
     by_cases e1:x=y
     ·subst e1
      rw [if_pos rfl] at h1
      by_cases e2:x=z
      ·rw [if_pos e2] at h2 ⊢;exact ih _ _ h1 h2
      ·rw [if_neg e2] at h2 ⊢;exact h2
     ·rw [if_neg e1] at h1
      have h1':x<y:=of_decide_eq_true h1
      by_cases e2:y=z
      ·subst e2
       rw [if_neg e1];exact h1
      ·rw [if_neg e2] at h2
       have h2':y<z:=of_decide_eq_true h2
       rw [if_neg (by omega)]
       exact decide_eq_true (by omega)
 ·induction a generalizing b with
  |nil=>
   cases b with
   |nil=>intros;rfl
   |cons y ys=>intro h;simp [uP] at h
  |cons x xs ih=>
   cases b with
   |nil=>intro _ h;simp [uP] at h
   |cons y ys=>
    intro h1 h2
    simp only [uP] at h1 h2
    by_cases e1:x=y
    ·subst e1
     rw [if_pos rfl] at h1 h2
     rw [ih _ h1 h2]
    ·rw [if_neg e1] at h1
     rw [if_neg (fun z=>e1 z.symm)] at h2
     have h1':=of_decide_eq_false h1
     have h2':=of_decide_eq_false h2
     omega
theorem uW (x:α):∀l:List α,(insL lt x l).Perm (x::l)
 |[]=>List.Perm.refl _
 |y::ys=>by
  rw [insL]
  split
  ·exact ((uW x ys).cons y).trans (List.Perm.swap x y ys)
  ·exact List.Perm.refl _
theorem sU:∀l:List α,(rH lt l).Perm l
 |[]=>List.Perm.refl _
 |x::xs=>(uW x _).trans ((sU xs).cons x)
theorem Ord.le_trans (o:Ord lt) {a b c:α} (h1:lt b a=false) (h2:lt c b=false):lt c a=false:=by
 cases h:lt c a with
 |false=>rfl
 |true=>
  cases h3:lt b c with
  |true=>rw [o.tr b c a h3 h] at h1;cases h1
  |false=>
   have:=o.tot c b h2 h3
   subst this
   rw [h] at h1;cases h1
theorem Ord.asym (o:Ord lt) {a b:α} (h:lt a b=true):lt b a=false:=by
 cases h2:lt b a with
 |false=>rfl
 |true=>have:=o.tr a b a h h2;rw [o.irr] at this;cases this
theorem uV (o:Ord lt) (x:α):∀l:List α,l.Pairwise (fun a b=>lt b a=false)->(insL lt x l).Pairwise (fun a b=>lt b a=false)
 |[],_=>by simp [insL]
 |y::ys,h=>by
  rw [insL]
  rw [List.pairwise_cons] at h
  split
  ·rename_i hc
   rw [List.pairwise_cons]
   refine ⟨fun b hb=>?_,uV o x ys h.2⟩
   rcases List.mem_cons.mp ((uW x ys).mem_iff.mp hb) with e|e
   ·rw [e];exact o.asym hc
   ·exact h.1 b e
  ·rename_i hc
   have hc':lt y x=false:=by simpa using hc
   rw [List.pairwise_cons,List.pairwise_cons]
   refine ⟨fun b hb=>?_,h⟩
   rcases List.mem_cons.mp hb with e|e
   ·rw [e];exact hc'
   ·exact o.le_trans hc' (h.1 b e)
theorem pC (o:Ord lt):∀l:List α,(rH lt l).Pairwise (fun a b=>lt b a=false)
 |[]=>List.Pairwise.nil
 |x::xs=>uV o x _ (pC o xs)
theorem uH (o:Ord lt):∀{l m:List α},l.Perm m->l.Pairwise (fun a b=>lt b a=false)->m.Pairwise (fun a b=>lt b a=false)->l=m
 |[],m,h,_,_=>(List.Perm.nil_eq h)
 |a::l,m,h,h1,h2=>by
  cases m with
  |nil=>exact absurd h.symm (by simp)
  |cons b m=>
   rw [List.pairwise_cons] at h1 h2
   have e:a=b:=by
    rcases List.mem_cons.mp (h.mem_iff.mp List.mem_cons_self) with e|e
    ·exact e
    ·rcases List.mem_cons.mp (h.mem_iff.mpr List.mem_cons_self) with e2|e2
     ·exact e2.symm
     ·exact o.tot a b (h2.1 a e) (h1.1 b e2)
   subst e
   rw [uH o (List.Perm.cons_inv h) h1.2 h2.2]
end
section
open PySem.W
variable {α:Type} {lt:α->α->Bool}
theorem getD_get {l:List α} {i:Nat} {d:α} (h:i<l.length):l.getD i d=l[i]:=by simp [h]
noncomputable def rk (lt:α->α->Bool) (zs:List α) (d:α) (i:Nat):Int:=((zs.filter fun z=>lt z (zs.getD i d)).length:Int)
theorem filter_lt {p q:α->Bool} (h:∀z,p z=true->q z=true):∀l:List α,(l.filter p).length<=(l.filter q).length/\((∃z∈l,p z=false/\q z=true)->(l.filter p).length<(l.filter q).length)
 |[]=>⟨Nat.le_refl _,fun ⟨_,h,_⟩=>nomatch h⟩
 |x::xs=>by
  obtain ⟨i1,i2⟩:=filter_lt h xs
  cases hp:p x with
  |true=>
   have hq:=h x hp
   rw [List.filter_cons_of_pos hp,List.filter_cons_of_pos hq]
   refine ⟨by simp;exact i1,fun ⟨z,hz,e1,e2⟩=>?_⟩
   rcases List.mem_cons.mp hz with e|e
   ·rw [e,hp] at e1;cases e1
   ·have:=i2 ⟨z,e,e1,e2⟩
    simp;exact this
  |false=>
   rw [List.filter_cons_of_neg (by simp [hp])]
   cases hq:q x with
   |true=>
    rw [List.filter_cons_of_pos hq]
    exact ⟨by simp;omega,fun _=>by simp;omega⟩
   |false=>
    rw [List.filter_cons_of_neg (by simp [hq])]
    refine ⟨i1,fun ⟨z,hz,e1,e2⟩=>?_⟩
    rcases List.mem_cons.mp hz with e|e
    ·rw [e,hq] at e2;cases e2
    ·exact i2 ⟨z,e,e1,e2⟩
theorem rk_lt (o:Ord lt) {zs:List α} {d:α} {i j:Nat} (hi:i<zs.length) (hj:j<zs.length):ltK (rk lt zs d) i j=lt (zs.getD i d) (zs.getD j d):=by
 unfold ltK rk
 have gi:zs.getD i d∈zs:=by rw [getD_get hi];exact List.getElem_mem hi
 have gj:zs.getD j d∈zs:=by rw [getD_get hj];exact List.getElem_mem hj
 cases h:lt (zs.getD i d) (zs.getD j d) with
 |true=>
  refine decide_eq_true ?_
  have:=(filter_lt (p:=fun z=>lt z (zs.getD i d)) (q:=fun z=>lt z (zs.getD j d)) (fun z hz=>o.tr _ _ _ hz h) zs).2 ⟨_,gi,o.irr _,h⟩
  omega
 |false=>
  refine decide_eq_false ?_
  have:=(filter_lt (p:=fun z=>lt z (zs.getD j d)) (q:=fun z=>lt z (zs.getD i d)) (fun z hz=>by
   cases h3:lt z (zs.getD i d) with
   |true=>rfl
   |false=>
    have e:=o.le_trans h h3
    rw [hz] at e;cases e) zs).1
  omega
theorem D6 (o:Ord lt) (zs:List α) (d:α) (h2:2<=zs.length):(gW (ltK (rk lt zs d)) (kas_sort zs.length)).toList.map (fun i=>zs.getD i d)=rH lt zs:=by
 obtain ⟨h1,hu⟩:=zC (key:=rk lt zs d) (n:=zs.length) (by omega)
 refine uH o ?_ ?_ (pC o zs)
 ·refine (h1.map _).trans ?_
  have:(List.range zs.length).map (fun i=>zs.getD i d)=zs:=by
   apply List.ext_getElem
   ·simp
   ·intro i h3 h4
    simp [h4]
  rw [this]
  exact (sU zs).symm
 ·rw [List.pairwise_map,List.pairwise_iff_getElem]
  intro i j hi hj hij
  have hn:(gW (ltK (rk lt zs d)) (kas_sort zs.length)).toList.length=zs.length:=by rw [h1.length_eq,List.length_range]
  have inr:∀k (hk:k<(gW (ltK (rk lt zs d)) (kas_sort zs.length)).toList.length),(gW (ltK (rk lt zs d)) (kas_sort zs.length)).toList[k]<zs.length:=fun k hk=>List.mem_range.mp (h1.mem_iff.mp (List.getElem_mem hk))
  have:=hu i j (by omega) (by omega)
  unfold kAt at this
  have g:∀k (hk:k<(gW (ltK (rk lt zs d)) (kas_sort zs.length)).toList.length),(gW (ltK (rk lt zs d)) (kas_sort zs.length)).getD k 0=(gW (ltK (rk lt zs d)) (kas_sort zs.length)).toList[k]:=fun k hk=>by
   rw [Array.getD_eq_getD_getElem?,<- Array.getElem?_toList,List.getElem?_eq_getElem hk];rfl
  rw [g i hi,g j hj] at this
  rw [<- rk_lt o (inr j hj) (inr i hi)]
  exact decide_eq_false (by omega)
theorem zV:∀{zs:List α},zs.length<2->rH lt zs=zs
 |[],_=>rfl
 |[x],_=>rfl
 |_::_::_,h=>by simp at h;omega
variable {X:Cx} {K:PySem.W.Frag} {W:iV} {own:Bool}
theorem vals_map {xs:List V} {us:List Value} (r:Vals xs us) (ps:List Nat) (hp:∀i∈ps,i<xs.length):Vals (ps.map fun i=>xs.getD i .non) (ps.map fun i=>us.getD i .none):=by
 refine Vals.of_get (by simp) fun k v u h1 h2=>?_
 rw [List.getElem?_map] at h1 h2
 cases e:ps[k]? with
 |none=>rw [e] at h1;cases h1
 |some i=>
  rw [e] at h1 h2
  simp only [Option.map_some,Option.some.injEq] at h1 h2
  have hi:=hp i (List.mem_of_getElem? e)
  have hl:=r.length
  obtain ⟨u',e1,q⟩:=r.get (i:=i) (x:=xs[i]) (by simp [hi])
  rw [getD_get hi] at h1
  rw [List.getD_eq_getElem?_getD,e1] at h2
  rw [<- h1,<- h2]
  exact q
theorem AJ (o:Ord lt) {pins:List (Addr×Obj)} {σ:St} {F H:Hp} {s:Shared} {Q:VK} {a:Addr} {xs:List V} {zs:List α} {d0:α} {enc:α->Dat} (I:Inv X pins σ H s) (hF:bp F H) (t:SqL X.K F a xs) (r:aE X.K F (zs.map enc) xs) (h64:zs.length<64)
  (hk:∀its:List Value,Vals xs its->2<=its.length->∀h1:Heap,(∀b o,s.heap.get? b=some o->h1.get? b=some o)->Asks X.prog X.w X.A.in1.in1 (rk lt zs d0) its {s with heap:=h1})
  (p:aN X.K W true F H (.ok (.lst ((rH lt zs).map enc))) Q):wpAny (model X.prog X.w) X.A (call (.builtin "sorted") [.ref a]) (EP X pins σ Q) X.xe s:=by
 obtain ⟨its,rv,pl,hz⟩:=I.list (hF.lst t)
 have l1:=rv.length
 have l2:=r.length
 rw [List.length_map] at l2
 refine Bx (key:=rk lt zs d0) pl.isList (by omega) (fun h2 h1 kp=>hk its rv h2 h1 kp) fun h' D c hD kp e=>?_
 have key:∃ys,ys.length<=sizeLine/\Vals ys (sG (rk lt zs d0) its)/\aE X.K F ((rH lt zs).map enc) ys:=by
  unfold sG
  by_cases h2:its.length<2
  ·rw [if_pos h2,zV (by omega)]
   exact ⟨xs,hz,rv,r⟩
  ·rw [if_neg h2,show its.length=zs.length by omega]
   obtain ⟨h1,_⟩:=zC (key:=rk lt zs d0) (n:=zs.length) (by omega)
   have inr:∀i∈(gW (ltK (rk lt zs d0)) (kas_sort zs.length)).toList,i<xs.length:=fun i hi=>by
    have:=List.mem_range.mp (h1.mem_iff.mp hi);omega
   refine ⟨(gW (ltK (rk lt zs d0)) (kas_sort zs.length)).toList.map fun i=>xs.getD i .non,?_,vals_map rv _ inr,?_⟩
   ·rw [List.length_map,h1.length_eq,List.length_range];omega
   ·rw [<- D6 o zs d0 (by omega),List.map_map]
    refine aE.of_get (by simp) fun k dd v g1 g2=>?_
    rw [List.getElem?_map] at g1 g2
    cases ek:(gW (ltK (rk lt zs d0)) (kas_sort zs.length)).toList[k]? with
    |none=>rw [ek] at g1;cases g1
    |some i=>
     rw [ek] at g1 g2
     simp only [Option.map_some,Option.some.injEq,Function.comp] at g1 g2
     have hi:=inr i (List.mem_of_getElem? ek)
     obtain ⟨w,e1,q⟩:=r.get (i:=i) (d:=enc (zs[i]'(by omega))) (by simp [show i<zs.length by omega])
     rw [getD_get (show i<zs.length by omega)] at g1
     rw [List.getD_eq_getElem?_getD,e1] at g2
     rw [<- g1,<- g2]
     exact q
 obtain ⟨ys,hy1,hy2,hy3⟩:=key
 have I1:Inv X pins σ (upd H D (.lst ys)) {s with heap:=h'}:=I.laid (t':=s.toks) kp hD (show jQ X.prog X.w _ h' D (.lst ys) from ⟨hy1,_,c,hy2,e⟩)
 exact ⟨.ref D,_,I1,rfl,p.lst hF hy3 (I.hok.fresh hD)⟩
theorem rk_ints (is:List Int) (i j:Nat) (hi:i<is.length) (hj:j<is.length):ltK (rk ltZ is 0) i j=decide (is.getD i 0<is.getD j 0):=rk_lt ordZ hi hj
theorem Er {prog:Program} {w:World} {A:Around} {s':Shared} {its:List Value} {is:List Int} (hi:IntsAre its is) (h2:2<=its.length):Asks prog w A (rk ltZ is 0) its s':=by
 have hl:=hi.length
 obtain ⟨v1,v2,rest,rfl⟩:∃v1 v2 rest,its=v1::v2::rest:=by
  match its,h2 with
  |v1::v2::rest,_=>exact ⟨v1,v2,rest,rfl⟩
 unfold Asks
 rw [keyKind_ints hi]
 refine wpAny_pure ⟨rfl,fun i j C h1 h2 hc=>?_⟩
 unfold kas_ask
 obtain ⟨t1,e1⟩:=ints_at hi i h1
 obtain ⟨t2,e2⟩:=ints_at hi j h2
 rw [e1,e2]
 rw [rk_ints is i j (by omega) (by omega)] at hc
 exact kat_lt_int hc
where
 ints_at {vs:List Value} {ns:List Int} (h:IntsAre vs ns) (i:Nat) (hi:i<vs.length):∃t,vs.getD i Value.none=.int (ns.getD i 0) t:=by
  induction h generalizing i with
  |nil=>simp at hi
  |cons n t r ih=>
   cases i with
   |zero=>exact ⟨t,rfl⟩
   |succ i=>obtain ⟨t',e⟩:=ih i (by simpa using hi);exact ⟨t',by simpa using e⟩
noncomputable def lexF (f:Bool):List Int->List Int->Bool
 |a::as,b::bs=>if a=b then lexF f as bs else decide (a<b)
 |_,_=>f
theorem B0:∀as bs:List Int,lexF (decide (as.length<bs.length)) as bs=uP as bs
 |[],[]=>rfl
 |[],_::_=>by simp [lexF,uP]
 |_::_,[]=>by simp [lexF,uP]
 |a::as,b::bs=>by
  have:=B0 as bs
  simp only [lexF,uP,List.length_cons,Nat.add_lt_add_iff_right]
  rw [this]
theorem uS {prog:Program} {w:World} {A:Around} {s':Shared} {f:Bool} {Q:Bool->Shared->Prop}:∀{us vs:List Value} {as bs:List Int} (i:Nat),IntsAre us as->IntsAre vs bs->Q (lexF f as bs) s'->KatLex prog w A true f Q (us.zip vs) i s'
 |_,_,_,bs,_,.nil,_,h=>kat_nil (by cases bs<;>exact h)
 |_,_,_,_,_,.cons a t r,.nil,h=>kat_nil h
 |_,_,_,_,i,.cons a t r,.cons b u r',h=>by
  show KatLex prog w A true f Q ((.int a t,.int b u)::(_:List (Value×Value))) i s'
  refine kat_cons (SeqAt.EqAt.int_int a t b u _ _ _ _ ?_)
  by_cases e:a=b
  ·rw [show (a==b)=true by simpa using e]
   rw [lexF,if_pos e] at h
   exact kat_yes (uS (i+1) r r' h)
  ·rw [show (a==b)=false by simpa using e]
   rw [lexF,if_neg e] at h
   refine kat_no ?_
   cases hb:(true&&i==0) with
   |true=>exact oneLt_int h
   |false=>exact kat_one _ _ (lt_int h)
theorem Ep {pins:List (Addr×Obj)} {σ:St} {F H:Hp} {s:Shared} {A:Around} {xs:List V} {ts:List (List Int)} {its:List Value} {h1:Heap} (I:Inv X pins σ H s) (hF:bp F H) (r:aE X.K F (ts.map tupZ) xs) (hne:(ts.all fun t=> !t.isEmpty)=true) (rv:Vals xs its) (h2:2<=its.length)
  (kp:∀b o,s.heap.get? b=some o->h1.get? b=some o):Asks X.prog X.w A (rk uP ts []) its {s with heap:=h1}:=by
 have l1:=rv.length
 have l2:=r.length
 rw [List.length_map] at l2
 have at_:∀i,i<its.length->∃(l:Addr) (ob:Obj) (us:List Value) (n:Nat),its.getD i Value.none=.ref l/\h1.get? l=some ob/\ob.cls=.type "tuple"/\ob.data=.seq us.toArray n/\IntsAre us (ts.getD i []):=fun i hi=>by
  obtain ⟨v,e1,l,ys,e2,tq,rr⟩:=r.get (i:=i) (d:=tupZ (ts[i]'(by omega))) (by simp [show i<ts.length by omega])
  subst e2
  obtain ⟨u,e3,ru⟩:=rv.get e1
  cases ru
  obtain ⟨us,ru,pl,_⟩:=I.tuple (hF.tup tq)
  obtain ⟨ob,h3,h4,n,h5⟩:=pl
  have e4:ys=(ts[i]'(by omega)).map V.int:=kE rr (pD _)
  rw [e4] at ru
  exact ⟨l,ob,us,n,by rw [List.getD_eq_getElem?_getD,e3];rfl,kp _ _ h3,h4,h5,by rw [getD_get (show i<ts.length by omega)];exact intsAre_of ru⟩
 have tups:∀(k:Nat),k<=its.length->∃fs,KatTups h1 (its.drop (its.length-k)) fs/\fs.length=k/\∀v∈fs,∃i t,v=Value.int i t:=by
  intro k
  induction k with
  |zero=>intro _;exact ⟨[],by rw [Nat.sub_zero,List.drop_length];exact KatTups.nil,rfl,fun _ h=>nomatch h⟩
  |succ k ih=>
   intro hk
   obtain ⟨fs,q1,q2,q3⟩:=ih (by omega)
   have hi:its.length-(k+1)<its.length:=by omega
   obtain ⟨l,ob,us,n,e1,e2,e3,e4,e5⟩:=at_ _ hi
   have hn:(ts.getD (its.length-(k+1)) [])≠[]:=by
    rw [getD_get (show its.length-(k+1)<ts.length by omega)]
    have:=List.all_eq_true.mp hne _ (List.getElem_mem (show its.length-(k+1)<ts.length by omega))
    simpa using this
   obtain ⟨z,ez⟩:∃z,ts.getD (its.length-(k+1)) []=z:=⟨_,rfl⟩
   rw [ez] at e5 hn
   obtain ⟨f,fr,ef,hf⟩:∃f fr,us=f::fr/\∃i t,f=Value.int i t:=by
    cases e5 with
    |nil=>exact absurd rfl hn
    |cons m t r=>exact ⟨_,_,rfl,_,_,rfl⟩
   refine ⟨f::fs,?_,by simp [q2],fun v hv=>?_⟩
   ·rw [List.drop_eq_getElem_cons hi]
    rw [show its.length-(k+1)+1=its.length-k by omega]
    rw [getD_get hi] at e1
    rw [e1]
    exact KatTups.cons e2 e3 e4 (by rw [ef];rfl) q1
   ·rcases List.mem_cons.mp hv with e|e
    ·rw [e];exact hf
    ·exact q3 v e
 obtain ⟨fs,q1,q2,q3⟩:=tups its.length (Nat.le_refl _)
 rw [Nat.sub_self,List.drop_zero] at q1
 unfold Asks
 refine kat_kind (s:={s with heap:=h1}) (T:=.type "int") q1 (by omega) (fun v hv=>?_) rfl ⟨rfl,fun i j C hi hj hc=>?_⟩
 ·obtain ⟨i,t,e⟩:=q3 v hv
  rw [e]
  exact Looks.of_pure rfl
 ·unfold kas_ask
  obtain ⟨x1,o1,us,n1,e1,g1,_,d1,a1⟩:=at_ i hi
  obtain ⟨x2,o2,vs,n2,e2,g2,_,d2,a2⟩:=at_ j hj
  rw [e1,e2]
  rw [rk_lt D7 (show i<ts.length by omega) (show j<ts.length by omega)] at hc
  refine kat_lt (s:={s with heap:=h1}) g1 d1 g2 d2 (uS 0 a1 a2 ?_)
  rw [List.size_toArray,List.size_toArray,a1.length,a2.length,B0]
  exact hc
theorem AF {F:Hp} {d:Dat} {t:List Int} (h:tupD d=.ok t):d=tupZ t:=by
 cases d with
 |tup ds=>
  have:∀{ds:List Dat} {t:List Int},dq ds=.ok t->ds=t.map .int:=by
   intro ds
   induction ds with
   |nil=>intro t h;cases h;rfl
   |cons d ds ih=>
    intro t h
    cases d with
    |int i=>
     cases e:dq ds with
     |error x=>simp only [dq,asI,ax,e,o5] at h;cases h
     |ok r=>
      simp only [dq,asI,ax,e] at h
      cases h
      rw [ih e]
      rfl
    |_=>cases h
  unfold tupZ
  rw [this h]
 |_=>cases h
theorem DB:∀{ds:List Dat} {t:List Int},dq ds=.ok t->ds=t.map .int:=fun {ds t} h=>by
 have:=AF (F:=fun _=>none) (d:=.tup ds) (t:=t) h
 unfold tupZ at this
 injection this
theorem y0:∀{ds:List Dat} {ts:List (List Int)},qq ds=.ok ts->ds=ts.map tupZ
 |[],_,h=>by cases h;rfl
 |d::ds,ts,h=>by
  cases e:tupD d with
  |error x=>simp only [qq,e,o5] at h;cases h
  |ok t=>
   cases e2:qq ds with
   |error x=>simp only [qq,e,ax,e2,o5] at h;cases h
   |ok r=>
    simp only [qq,e,ax,e2] at h
    cases h
    rw [AF (F:=fun _=>none) e,y0 e2]
    rfl
theorem yb:∀{ds:List Dat} {e:Err},qq ds=.error e->e=.stuck
 |[],_,h=>by cases h
 |d::ds,e,h=>by
  cases e1:tupD d with
  |error x=>
   simp only [qq,e1,o5] at h
   cases h
   cases d with
   |tup ds=>exact mU e1
   |_=>cases e1;rfl
  |ok t=>
   cases e2:qq ds with
   |error x=>simp only [qq,e1,ax,e2,o5] at h;cases h;exact yb e2
   |ok r=>simp only [qq,e1,ax,e2] at h;cases h
theorem Bh (hK:X.K=K:=by rfl):vq K W true X (.builtin "sorted") qz:=by
 subst hK
 intro pins s σ H xs us Q I rr h
 obtain ⟨F,d,x,s1,e,q,p⟩:=uI (fun ds=>by match ds with|[d]=>exact .inl ⟨d,rfl⟩|[]=>exact .inr rfl|a::b::c=>exact .inr (by cases a<;>rfl)) h
 subst e
 obtain ⟨u,rfl,ru⟩:=rr.one
 cases d with
 |lst ds=>
  obtain ⟨a,ys,e1,t,r⟩:=q
  subst e1
  cases ru
  have p':aN X.K W true F H (yi ds) Q:=p
  unfold yi at p'
  by_cases h64:ds.length<64
  ·rw [if_pos h64] at p'
   cases ei:dq ds with
   |ok is=>
    rw [ei] at p'
    have ed:=DB ei
    subst ed
    refine AJ ordZ (d0:=0) I s1 t r (by simpa using h64) (fun its rv h2 h1 kp=>?_) p'
    have e2:ys=is.map V.int:=kE r ei
    subst e2
    exact Er (intsAre_of rv) h2
   |error z=>
    rw [ei] at p'
    have p2:aN X.K W true F H ((qq ds).bind fun ts=>if (ts.all fun t=> !t.isEmpty)=true then .ok (.lst ((rH uP ts).map tupZ)) else stk) Q:=p'
    cases et:qq ds with
    |error z2=>rw [et] at p2;have:=yb et;subst this;exact aN.stuck p2
    |ok ts=>
     rw [et] at p2
     have ed:=y0 et
     subst ed
     have p3:aN X.K W true F H (if (ts.all fun t=> !t.isEmpty)=true then .ok (.lst ((rH uP ts).map tupZ)) else stk) Q:=p2
     by_cases hne:(ts.all fun t=> !t.isEmpty)=true
     ·rw [if_pos hne] at p3
      exact AJ D7 (d0:=[]) I s1 t r (by simpa using h64) (fun its rv h2 h1 kp=>Ep I s1 r hne rv h2 kp) p3
     ·rw [if_neg hne] at p3
      exact aN.stuck p3
  ·rw [if_neg h64] at p'
   exact aN.stuck p'
 |_=>exact aN.stuck p
end
end L2
namespace L2
open PySem PySem.Spec PyProof.Rows
noncomputable def cX (n d:Nat):Option Int->Nat
 |none=>d
 |some v=>if v<0 then (v+(n:Int)).toNat else min v.toNat n
noncomputable def vg {α:Type} (xs:List α) (lo hi:Option Int):List α:=(xs.drop (cX xs.length 0 lo)).take (cX xs.length xs.length hi-cX xs.length 0 lo)
noncomputable def fy:Dat->Option Int->Option Int->M Dat
 |.lst ds,lo,hi=>.ok (.lst (vg ds lo hi))
 |.tup ds,lo,hi=>if (decide (cX ds.length 0 lo=0)&&decide (cX ds.length ds.length hi=ds.length))=true then stk else .ok (.tup (vg ds lo hi))
 |_,_,_=>stk
noncomputable def pf:ao->M (Option Int):=fun _=>.ok none
noncomputable def kA (f:ao->M Dat):ao->M (Option Int):=fun ρ=>(f ρ).bind fun d=>(asI d).bind fun i=>.ok (some i)
noncomputable def fSl (g:Dat->Option Int->Option Int->M Dat) (fa:ao->M Dat) (fl fu:ao->M (Option Int)):ao->M Dat:=fun ρ=>(fa ρ).bind fun a=>(fl ρ).bind fun l=>(fu ρ).bind fun u=>g a l u
noncomputable def notBD:Dat->Dat->M Dat
 |.bl a,.bl b=>.ok (.bl (a != b))
 |.non,.bl _=>.ok (.bl true)
 |.int _,.bl _=>.ok (.bl true)
 |.str _,.bl _=>.ok (.bl true)
 |.lst _,.bl _=>.ok (.bl true)
 |.tup _,.bl _=>.ok (.bl true)
 |_,_=>stk
section
variable {X:Cx} {K:PySem.W.Frag} {W:iV} {own ro:Bool} {e a b c d:Expr} {lo hi:Option Expr} {es:List Expr} {x y:Str} {pos p p2 p3 q r t u:Pos} {f fa fb fc fd' fk:ao->M Dat} {fl fu:ao->M (Option Int)} {OL O:List Nat}
noncomputable def tDO (K:PySem.W.Frag) (W:iV) (f:ao->M (Option Int)):TO:=fun σ H Q=>∃F ρ,r9 K F σ ρ/\bp F H/\(match f ρ with
 |.ok o=>∀F' H',Step F H F' H'->Q o H'
 |.error e=>W.p e F H)
theorem CB {σ:St} {ρ:ao} {F H:Hp} {R:Option Int->Hp->Prop} (r:r9 K F σ ρ) (s:bp F H) (hE:∀e,fl ρ=.error e->W.p e F H) (hO:∀o,fl ρ=.ok o->∀F1 H1,Step F H F1 H1->R o H1):tDO K W fl σ H R:=by
 refine ⟨F,ρ,r,s,?_⟩
 cases e:fl ρ with
 |ok d=>exact hO d e
 |error x=>exact hE x e
noncomputable abbrev DP (K:PySem.W.Frag) (W:iV) (X:Cx) (e:Option Expr) (f:ao->M (Option Int)):Prop:=PO X e (tDO K W f)
theorem PO.imp {t t':TO} (h:PO X lo t) (q:∀σ H Q,t' σ H Q->t σ H Q):PO X lo t':=fun pins s σ H Q I z=>h pins s σ H Q I (q σ H Q z)
theorem qY:DP K W X none pf:=po_none.imp fun σ H Q ⟨F,ρ,r,s,p⟩=>p F H (Step.refl s)
theorem nU (h:DE K W false X e f):DP K W X (some e) (kA f):=(po_some h).imp fun σ H Q ⟨F,ρ,r,s,p⟩=>by
 refine bx r s (fun e he=>?_) fun d hd v F1 H1 s1 q1=>?_
 ·have z:kA f ρ=.error e:=by unfold kA;rw [he];rfl
  rw [z] at p;exact p
 ·have z:kA f ρ=(asI d).bind fun i=>.ok (some i):=by unfold kA;rw [hd];rfl
  rw [z] at p
  cases d with
  |int i=>exact ⟨i,q1,p F1 H1 s1⟩
  |_=>exact (W.ns p).elim
noncomputable def rDS (K:PySem.W.Frag) (W:iV) (own:Bool) (g:Dat->Option Int->Option Int->M Dat):V->Option Int->Option Int->Hp->VK->Prop:=fun x lo hi H Q=>∃F a,bp F H/\cW K F a x/\aN K W own F H (g a lo hi) Q
theorem rd_sl {g:Dat->Option Int->Option Int->M Dat} {σ:St} {H:Hp} {Q:VK} (h:tD K W own (fSl g fa fl fu) σ H Q):tSl (rDS K W own g) (tD K W false fa) (tDO K W fl) (tDO K W fu) σ H Q:=by
 obtain ⟨F,ρ,r,s,p⟩:=h
 refine bx r s (fun e he=>p.err (by unfold fSl;rw [he];rfl)) fun a ha x F1 H1 s1 q1=>?_
 refine CB (r.mono s1.ff) s1.fh (fun e he=>(p.step s1).err (by unfold fSl;rw [ha];show (fl ρ).bind _=_;rw [he];rfl)) fun l hl F2 H2 s2=>?_
 refine CB ((r.mono s1.ff).mono s2.ff) s2.fh (fun e he=>(p.step (s1.trans s2)).err (by unfold fSl;rw [ha];show (fl ρ).bind _=_;rw [hl];show (fu ρ).bind _=_;rw [he];rfl)) fun u hu F3 H3 s3=>?_
 refine ⟨F3,a,s3.fh,cW.mono (s2.trans s3).ff q1,?_⟩
 have e:fSl g fa fl fu ρ=g a l u:=by unfold fSl;rw [ha];show (fl ρ).bind _=_;rw [hl];show (fu ρ).bind _=_;rw [hu];rfl
 rw [e] at p
 exact p.step ((s1.trans s2).trans s3)
theorem yW {g:Dat->Option Int->Option Int->M Dat} (hr:SlR X (rDS K W own g)) (ha:DE K W false X a fa) (hl:DP K W X lo fl) (hu:DP K W X hi fu):DE K W own X (.Subscript a (.Slice lo hi none p2) pos) (fSl g fa fl fu):=(pe_slice hr ha hl hu).imp fun _ _ _=>rd_sl
theorem Bj (n d:Nat) (o:Option Int):cX n d o=HT.sIx n d o:=by cases o<;>rfl
theorem aE.cut {F:Hp} {ds:List Dat} {xs:List V} {l u:Option Int} (h:aE K F ds xs):aE K F (vg ds l u) (cutV xs l u):=by
 unfold vg cutV
 rw [Bj,Bj,h.length]
 exact aE.take _ (aE.drop _ h)
theorem x_sl (hK:X.K=K:=by rfl):SlR X (rDS K W true fy):=by
 subst hK
 intro pins s σ H x v vl vu lo hi sl Q I rx hs pl pu h
 refine (SlR.or sl_list sl_tup) pins s σ H x v vl vu lo hi sl Q I rx hs pl pu ?_
 obtain ⟨F,a,s1,qa,p⟩:=h
 cases a with
 |lst ds=>
  obtain ⟨l,xs,e,t,z⟩:=qa
  exact .inl ⟨l,xs,e,s1.lst t,fun r hr=>aN.lst p s1 z.cut hr⟩
 |tup ds=>
  obtain ⟨l,xs,e,t,z⟩:=qa
  have p':aN X.K W true F H (if (decide (cX ds.length 0 lo=0)&&decide (cX ds.length ds.length hi=ds.length))=true then stk else .ok (.tup (vg ds lo hi))) Q:=p
  by_cases hc:(decide (cX ds.length 0 lo=0)&&decide (cX ds.length ds.length hi=ds.length))=true
  ·rw [if_pos hc] at p';exact p'.stuck
  ·rw [if_neg hc] at p'
   refine .inr ⟨l,xs,e,s1.tup t,fun hw=>hc ?_,fun r hr=>aN.tup p' s1 z.cut hr⟩
   rw [Bj,Bj,<- z.length]
   simp only [Bool.and_eq_true,decide_eq_true_eq]
   exact hw
 |_=>exact aN.stuck p
theorem o_notB:Op2 K W own X (compareOp .IsNot) notBD:=by
 intro pins s σ H x y v u Q I rx ry h
 obtain ⟨F,a,b,s1,qa,qb,p⟩:=h
 cases b with
 |bl k=>
  cases (show y=.bl k from qb)
  cases ry
  cases a with
  |bl j=>cases (show x=.bl j from qa);cases rx;exact isnot_bool (fF I (aN.bl p s1) rfl)
  |non=>cases (show x=.non from qa);cases rx;exact wpAny_pure (fF I (aN.bl p s1) rfl)
  |int j=>cases (show x=.int j from qa);obtain ⟨t,rfl⟩:=rx;exact wpAny_pure (fF I (aN.bl p s1) rfl)
  |str j=>cases (show x=.str j from qa);obtain ⟨t,rfl⟩:=rx;exact wpAny_pure (fF I (aN.bl p s1) rfl)
  |lst ds=>obtain ⟨l,xs,e,_⟩:=qa;subst e;cases rx;exact wpAny_pure (fF I (aN.bl p s1) rfl)
  |tup ds=>obtain ⟨l,xs,e,_⟩:=qa;subst e;cases rx;exact wpAny_pure (fF I (aN.bl p s1) rfl)
  |ins C fs=>exact aN.stuck p
 |_=>cases a<;>exact aN.stuck p
end
section
variable {ρ:ao} {fa fb fc fd':ao->M Dat} {fl fu:ao->M (Option Int)}
@[simp] theorem e_pNone:pf ρ=.ok none:=id rfl
@[simp] theorem e_pSome:kA fa ρ=(fa ρ).bind fun d=>(asI d).bind fun i=>.ok (some i):=id rfl
@[simp] theorem e_slF (k:Dat->Option Int->Option Int->M Dat):fSl k fa fl fu ρ=(fa ρ).bind fun a=>(fl ρ).bind fun l=>(fu ρ).bind fun u=>k a l u:=id rfl
@[simp] theorem e_sliceL (ds:List Dat) (lo hi:Option Int):fy (.lst ds) lo hi=.ok (.lst (vg ds lo hi)):=id rfl
@[simp] theorem e_pow {i j:Int} (h0:0<=j) (h1:j<=1000000) (h2:i.natAbs<2^64):wO (.int i) (.int j)=.ok (.int (i^j.toNat)):=by
 show (if (decide (0<=j)&&decide (j<=1000000)&&decide (i.natAbs<2^64))=true then _ else _)=_
 rw [if_pos (by simp only [Bool.and_eq_true,decide_eq_true_eq];exact ⟨⟨h0,h1⟩,h2⟩)]
@[simp] theorem e_eqII (i j:Int):eqM (.int i) (.int j)=.ok (.bl (decide (i=j))):=by
 show Except.ok (Dat.bl (i==j))=_
 rw [show (i==j)=decide (i=j) from rfl]
@[simp] theorem cut_take {α:Type} (xs:List α) {j:Int} (h:0<=j):vg xs none (some j)=xs.take j.toNat:=by
 unfold vg cX
 simp only [if_neg (show ¬j<0 by omega),List.drop_zero,Nat.sub_zero]
 rcases Nat.le_total j.toNat xs.length with h1|h1
 ·rw [Nat.min_eq_left h1]
 ·rw [Nat.min_eq_right h1,List.take_length,List.take_of_length_le h1]
end
end L2
namespace L2
open PySem PySem.Spec PyProof.Rows
noncomputable def revD:Dat->M Dat
 |.lst ds=>.ok (.lst ds.reverse)
 |_=>stk
section
variable {X:Cx} {K:PySem.W.Frag} {W:iV} {own ro:Bool} {e a b c d:Expr} {st:Option Expr} {te:TE} {tp:TO} {es:List Expr} {x y:Str} {pos p p2 p3 p4 q r t u:Pos} {f fa fb fc fk:ao->M Dat} {fp:ao->M (Option Int)} {OL O:List Nat}
end
end L2
namespace L2
open PySem PySem.Spec PyProof.Rows
noncomputable def rZ (Cs:List Addr) (x:Str):Dat->M Dat
 |.ins C fs=>if Cs.contains C=true then (match fs.lookup x with
  |some d=>.ok d
  |none=>stk) else stk
 |_=>stk
noncomputable def isC (C:Addr) (m:Str):Dat->Bool
 |.ins D fs=>(D==C)&&(fs.lookup m).isNone
 |_=>false
noncomputable def rN (C:Addr) (m:Str) (g:List Dat->M Dat) (fo:ao->M Dat) (fr:ao->M (List Dat)):ao->M Dat:=fun ρ=>(fo ρ).bind fun o=>if isC C m o=true then (fr ρ).bind fun as=>g (o::as) else stk
noncomputable def iH (C C2:Addr) (m:Str) (g g2:List Dat->M Dat) (fo:ao->M Dat) (fr:ao->M (List Dat)):ao->M Dat:=fun ρ=>(fo ρ).bind fun o=>if isC C m o=true then (fr ρ).bind fun as=>g (o::as) else if isC C2 m o=true then (fr ρ).bind fun as=>g2 (o::as) else stk
noncomputable def newR (C:Addr) (g:List Dat->M Dat):List Dat->M Dat
 |[d]=>(g [d]).bind fun r=>.ok (.ins C [("gaps",r)])
 |_=>stk
noncomputable def twoL:Dat->Dat->Bool
 |.lst xs,.lst ys=>decide (xs.length=ys.length)
 |_,_=>false
noncomputable def newP (C:Addr) (g:List Dat->M Dat):List Dat->M Dat
 |[d,e]=>(g [d]).bind fun r=>(g [e]).bind fun r2=>if twoL r r2=true then .ok (.ins C [("gaps",r),("beside",r2)]) else stk
 |_=>stk
noncomputable def sStk:ao->M Flo:=fun _=>stk
section
variable {X:Cx} {K:PySem.W.Frag} {W:iV} {own ro:Bool} {e o a b c d:Expr} {es:List Expr} {x y m:Str} {pos p p2 apos:Pos} {f fa fo:ao->M Dat} {fr:ao->M (List Dat)} {OL O O':List Nat} {C C2:Addr} {Cs:List Addr}
theorem yU {st:Stmt}:DS K W ro X OL O O' st sStk:=fun F0 H0 pins s σ H D I h=>by
 obtain ⟨FB,F,ρ,r,p⟩:=h
 exact p.stuck rfl
theorem vN.at {F:Hp} {x:Str}:∀{gs:List (Str×Dat)} {fs:List (Str×V)},vN K F gs fs->(∀d,gs.lookup x=some d->∃v,fs.lookup x=some v/\cW K F d v)/\(gs.lookup x=none->fs.lookup x=none)
 |[],fs,h=>by cases (show fs=[] from h);exact ⟨fun d h=>by simp at h,fun _=>rfl⟩
 |(g,d)::gs,fs,h=>by
  obtain ⟨v,r,rfl,h1,h2⟩:=h
  have ih:=vN.at (x:=x) h2
  rw [List.lookup_cons,List.lookup_cons]
  cases e:x==g with
  |true=>exact ⟨fun d' h'=>by cases h';exact ⟨v,rfl,h1⟩,fun h'=>by cases h'⟩
  |false=>exact ih
theorem ve (hC:∀C∈Cs,Cls K C/\oN K C y) (he:DE K W false X e fa) (hb:attributeBase e y X.env (eval e X.env)=eval e X.env:=by rfl) (hK:X.K=K:=by rfl):DE K W false X (.Attribute e y pos) (f1 (rZ Cs y) fa):=by
 subst hK
 refine (D4 he hb).imp fun σ H Q h=>?_
 obtain ⟨F,ρ,r,s,p⟩:=h
 refine bx r s (fun e he=>p.err (by unfold f1;rw [he];rfl)) fun a ha x F1 H1 s1 q1=>?_
 have ez:f1 (rZ Cs y) fa ρ=rZ Cs y a:=by unfold f1;rw [ha];rfl
 rw [ez] at p
 cases a with
 |ins C gs=>
  obtain ⟨l,dx,fs,e1,ea,df⟩:=q1
  have p':aN X.K W false F H (if Cs.contains C=true then (match gs.lookup y with
   |some d=>.ok d
   |none=>stk) else stk) Q:=p
  by_cases hc:Cs.contains C=true
  ·rw [if_pos hc] at p'
   obtain ⟨h1,h2⟩:=hC C (by simpa using hc)
   cases hl:gs.lookup y with
   |none=>rw [hl] at p';exact aN.stuck p'
   |some d=>
    rw [hl] at p'
    obtain ⟨v,hv,hd⟩:=df.at.1 d hl
    exact ⟨l,C,dx,fs,v,e1,s1.fh _ _ ea,h1,h2,hv,(p'.step s1) v F1 H1 (Step.refl s1.fh) hd⟩
  ·rw [if_neg hc] at p';exact aN.stuck p'
 |_=>exact aN.stuck p
theorem PE.or {t1 t2:TE} (h1:PE X e t1) (h2:PE X e t2):PE X e (fun σ H Q=>t1 σ H Q\/t2 σ H Q):=fun pins s σ H Q I h=>h.elim (h1 pins s σ H Q I) (h2 pins s σ H Q I)
theorem CN {nN n:Nat} {g:ao->M Flo} {σ:St} {H:Hp} {Q:VK} (h:tD K Wno ro (rN C m (cb nN n g) fo fr) σ H Q):tMeth C m (spF K ro (cb nN n g) n) [] E0 (tD K Wno false fo) (tDA K Wno fr) σ H Q:=by
 obtain ⟨F,ρ,r,s,p⟩:=h
 refine bx r s (fun e he=>p.err (by unfold rN;rw [he];rfl)) fun o ho x F1 H1 s1 q1=>?_
 have ez:rN C m (cb nN n g) fo fr ρ=if isC C m o=true then (fr ρ).bind fun as=>cb nN n g (o::as) else stk:=by unfold rN;rw [ho];rfl
 rw [ez] at p
 by_cases hc:isC C m o=true
 ·rw [if_pos hc] at p
  cases o with
  |ins D gs=>
   obtain ⟨l,dx,fs,e1,ea,df⟩:=id q1
   have hc':((D==C)&&(gs.lookup m).isNone)=true:=hc
   rw [Bool.and_eq_true] at hc'
   obtain ⟨hD,hn⟩:=hc'
   have hD:D=C:=by simpa using hD
   subst hD
   refine ⟨l,dx,fs,e1,s1.fh _ _ ea,df.at.2 (by simpa using hn),?_⟩
   have p:=p.step s1
   refine uC (r.mono s1.ff) s1.fh (fun e he=>p.err (by rw [he];rfl)) fun as has vs F2 H2 s2 qs=>?_
   rw [has] at p
   have p:aN K Wno ro F1 H1 (cb nN n g (.ins D gs::as)) Q:=p
   have p:=p.step s2
   show spF K ro (cb nN n g) n (x::(vs++[])) H2 Q E0
   rw [List.append_nil]
   by_cases hl:(Dat.ins D gs::as).length=n
   ·exact ⟨F2,.ins D gs::as,s2.fh,⟨x,vs,rfl,cW.mono s2.ff q1,qs⟩,hl,p⟩
   ·rw [AL hl] at p
    exact aN.stuck p
  |_=>cases hc
 ·rw [if_neg hc] at p;exact aN.stuck p
theorem AM {nN n nN2 n2:Nat} {g g2:ao->M Flo} {σ:St} {H:Hp} {Q:VK} (h:tD K Wno ro (iH C C2 m (cb nN n g) (cb nN2 n2 g2) fo fr) σ H Q) :
  tD K Wno ro (rN C m (cb nN n g) fo fr) σ H Q\/tD K Wno ro (rN C2 m (cb nN2 n2 g2) fo fr) σ H Q:=by
 obtain ⟨F,ρ,r,s,p⟩:=h
 cases ho:fo ρ with
 |error e=>
  refine .inl ⟨F,ρ,r,s,?_⟩
  have e1:iH C C2 m (cb nN n g) (cb nN2 n2 g2) fo fr ρ=.error e:=by unfold iH;rw [ho];rfl
  have e2:rN C m (cb nN n g) fo fr ρ=.error e:=by unfold rN;rw [ho];rfl
  rw [e1] at p;rw [e2];exact p
 |ok o=>
  have e1:iH C C2 m (cb nN n g) (cb nN2 n2 g2) fo fr ρ=if isC C m o=true then (fr ρ).bind fun as=>cb nN n g (o::as) else if isC C2 m o=true then (fr ρ).bind fun as=>cb nN2 n2 g2 (o::as) else stk:=by unfold iH;rw [ho];rfl
  have e2:rN C m (cb nN n g) fo fr ρ=if isC C m o=true then (fr ρ).bind fun as=>cb nN n g (o::as) else stk:=by unfold rN;rw [ho];rfl
  have e3:rN C2 m (cb nN2 n2 g2) fo fr ρ=if isC C2 m o=true then (fr ρ).bind fun as=>cb nN2 n2 g2 (o::as) else stk:=by unfold rN;rw [ho];rfl
  rw [e1] at p
  by_cases hc:isC C m o=true
  ·rw [if_pos hc] at p e2
   exact .inl ⟨F,ρ,r,s,by rw [e2];exact p⟩
  ·rw [if_neg hc] at p
   exact .inr ⟨F,ρ,r,s,by rw [e3];exact p⟩
noncomputable def Bl (X:Cx) (o:Expr) (m:Str) (apos:Pos) (es:List Expr) (pos:Pos) (pl:Sem Bool):Prop:=eval (.Call (.Attribute o m apos) es [] pos) X.env=(do let ov <- eval o X.env;standAt apos.atName;let (f,first) <- holding [ov] (getMethod ov m pl);callWith pos f first (backTo pos (starEach es X.env)) (backToKw pos (keywordEach [] X.env)))
section
variable {k nN n nN2 n2:Nat} {fad fad2:Addr} {fd fd2:FuncData} {ps:List Str} {g g2:ao->M Flo} {pl:Sem Bool}
theorem AU (c:Cls X.K C) (M:Meth X.K C m fad) (F:cz X.prog X.w X.K X.mg X.base CX0 k fad fd ps (spF X.K ro (cb nN n g) n)) (hr:oQ k X.A) (hb:Binds X.K fd ps []) (ho:DE X.K Wno false X o fo) (ha:DA X.K Wno X (e::es) fr)
  (hst:starEach (e::es) X.env=(false,eval e X.env)::starEach es X.env) (hpl:(backTo pos (starEach es X.env)).any (·.1)=false) (ht:Bl X o m apos (e::es) pos pl):DE X.K Wno ro X (.Call (.Attribute o m apos) (e::es) [] pos) (rN C m (cb nN n g) fo fr):=
 (pe_meth (pl:=pl) ho c M F hr hb .nil wV ha hst hpl ht).imp fun _ _ _=>CN
theorem yu (c:Cls X.K C) (M:Meth X.K C m fad) (F:cz X.prog X.w X.K X.mg X.base CX0 k fad fd ps (spF X.K ro (cb nN n g) n)) (hr:oQ k X.A) (hb:Binds X.K fd ps []) (ho:DE X.K Wno false X o fo)
  (ht:Bl X o m apos [] pos pl):DE X.K Wno ro X (.Call (.Attribute o m apos) [] [] pos) (rN C m (cb nN n g) fo aC):=
 (pe_meth0 (pl:=pl) ho c M F hr hb .nil wV ht).imp fun σ H Q h=>by
  obtain ⟨F,ρ,r,s,z⟩:=CN h
  refine ⟨F,ρ,r,s,?_⟩
  cases e1:fo ρ with
  |error z'=>rw [e1] at z;exact z
  |ok od=>
   rw [e1] at z
   intro v F' H' st q
   obtain ⟨l,dx,fs,h1,h2,h3,h4⟩:=z v F' H' st q
   exact ⟨l,dx,fs,h1,h2,h3,rd_nil h4⟩
theorem Bb {k2:Nat} {ps2:List Str} (c:Cls K C) (M:Meth K C m fad) (F:cz X.prog X.w X.K X.mg X.base CX0 k fad fd ps (spF K ro (cb nN n g) n)) (hr:oQ k X.A) (hb:Binds X.K fd ps [])
  (c2:Cls K C2) (M2:Meth K C2 m fad2) (F2:cz X.prog X.w X.K X.mg X.base CX0 k2 fad2 fd2 ps2 (spF K ro (cb nN2 n2 g2) n2)) (hr2:oQ k2 X.A) (hb2:Binds X.K fd2 ps2 []) (ho:DE K Wno false X o fo) (ha:DA K Wno X (e::es) fr)
  (hK:X.K=K:=by rfl) (hst:starEach (e::es) X.env=(false,eval e X.env)::starEach es X.env:=by rfl) (hpl:(backTo pos (starEach es X.env)).any (·.1)=false:=by rfl) (ht:Bl X o m apos (e::es) pos pl:=by rfl) :
  DE K Wno ro X (.Call (.Attribute o m apos) (e::es) [] pos) (iH C C2 m (cb nN n g) (cb nN2 n2 g2) fo fr):=by
 subst hK
 exact (PE.or (AU c M F hr hb ho ha hst hpl ht) (AU c2 M2 F2 hr2 hb2 ho ha hst hpl ht)).imp fun _ _ _=>AM
theorem E4 {k2:Nat} {ps2:List Str} (c:Cls K C) (M:Meth K C m fad) (F:cz X.prog X.w X.K X.mg X.base CX0 k fad fd ps (spF K ro (cb nN n g) n)) (hr:oQ k X.A) (hb:Binds X.K fd ps [])
  (c2:Cls K C2) (M2:Meth K C2 m fad2) (F2:cz X.prog X.w X.K X.mg X.base CX0 k2 fad2 fd2 ps2 (spF K ro (cb nN2 n2 g2) n2)) (hr2:oQ k2 X.A) (hb2:Binds X.K fd2 ps2 []) (ho:DE K Wno false X o fo)
  (hK:X.K=K:=by rfl) (ht:Bl X o m apos [] pos pl:=by rfl) :
  DE K Wno ro X (.Call (.Attribute o m apos) [] [] pos) (iH C C2 m (cb nN n g) (cb nN2 n2 g2) fo aC):=by
 subst hK
 exact (PE.or (yu c M F hr hb ho ht) (yu c2 M2 F2 hr2 hb2 ho ht)).imp fun _ _ _=>AM
end
noncomputable def spI1 (K:PySem.W.Frag) (C:Addr) (g:List Dat->M Dat):Sp:=fun vs H Q _=>∃p dx v F d,vs=[.ref p,v]/\H p=some (.ins C dx [])/\F p=none/\bp F H/\cW K F d v/\(match g [d] with
 |.ok r=>∀w F' H',bp F F'->bp F' H'->F' p=none->(∀b o,F' b=some o->F b=some o\/H b=none)->(∀c o,H c=some o->c≠p->H' c=some o)->H' p=some (.ins C dx [("gaps",w)])->cW K F' r w->Q .non H'
 |.error e=>Wno.p e F H)
noncomputable def spI2 (K:PySem.W.Frag) (C:Addr) (g:List Dat->M Dat):Sp:=fun vs H Q _=>∃p dx v v2 F d d2,vs=[.ref p,v,v2]/\H p=some (.ins C dx [])/\F p=none/\bp F H/\cW K F d v/\cW K F d2 v2/\(match (g [d]).bind fun r=>(g [d2]).bind fun r2=>if twoL r r2=true then .ok (r,r2) else stk with
 |.ok (r,r2)=>∀w w2 F' H',bp F F'->bp F' H'->F' p=none->(∀b o,F' b=some o->F b=some o\/H b=none)->(∀c o,H c=some o->c≠p->H' c=some o)->H' p=some (.ins C dx [("gaps",w),("beside",w2)])->cW K F' r w->cW K F' r2 w2->Q .non H'
 |.error e=>Wno.p e F H)
theorem Step.born {F H F' H':Hp} {x dx:Addr} {fs:List (Str×V)} (s:bp F H) (hx:H x=none) (hdx:H dx=none) (hne:dx≠x) (h1:bp F F') (h2:bp F' H') (h3:F' x=none) (h4:∀b o,F' b=some o->F b=some o\/upd (upd H dx (.own x)) x (.ins C dx []) b=none)
  (h5:∀c o,upd (upd H dx (.own x)) x (.ins C dx []) c=some o->c≠x->H' c=some o) (h6:H' x=some (.ins C dx fs)):Step F H (upd F' x (.ins C dx fs)) H' where
 ff:=h1.trans (bp.upd h3)
 hh:=fun c o e=>by
  have hc:c≠x:=fun h=>by rw [h,hx] at e;cases e
  have hd:c≠dx:=fun h=>by rw [h,hdx] at e;cases e
  exact h5 c o (by rw [aL hc,aL hd];exact e) hc
 fh:=fun c o e=>by
  by_cases hc:c=x
  ·subst hc;rw [aP] at e;rw [h6];exact e
  ·rw [aL hc] at e;exact h2 _ _ e
 nw:=fun c o e=>by
  by_cases hc:c=x
  ·subst hc;exact .inr hx
  ·rw [aL hc] at e
   rcases h4 c o e with z|z
   ·exact .inl z
   ·refine .inr ?_
    by_cases hd:c=dx
    ·subst hd;exact hdx
    ·rw [aL hc,aL hd] at z;exact z
theorem E2 {k:Nat} {fI:Addr} {fdI:FuncData} {g:List Dat->M Dat} {ps:List Str} (Mk':Mk X.K C fI) (FI:cz X.prog X.w X.K X.mg X.base CX0 k fI fdI ps (spI1 K C g)) (hr:oQ (k+1) X.A) (hm:X.mg x=some (.ref C)) (hb:Binds X.K fdI ps [])
  (ha:DA K Wno X [e] fr) (hg:Gl X x:=by rfl) (hdb:(x==("__debug__":Str))=false:=by decide) (hst:starEach [e] X.env=(false,eval e X.env)::starEach [] X.env:=by rfl) (hpl:(backTo pos (starEach [] X.env)).any (·.1)=false:=by rfl) :
  DE K Wno false X (.Call (.Name x p) [e] [] pos) (fL (newR C g) fr):=by
 refine PE.imp (D2 Mk' FI hr hg hm hb .nil wV ha hdb hst hpl) fun σ H Q h=>?_
 obtain ⟨F,ρ,r,s,p⟩:=rd_L h
 refine ⟨F,ρ,r,s,?_⟩
 cases e1:fr ρ with
 |error z=>rw [e1] at p;exact p
 |ok ds=>
  rw [e1] at p
  intro vs F1 H1 st q
  obtain ⟨F2,es1,s1,q1,z⟩:=p vs F1 H1 st q
  rcases es1 with _|⟨d,_|⟨_,_⟩⟩
  ·exact aN.stuck z
  rotate_left
  ·exact aN.stuck z
  ·obtain ⟨v,vs',rfl,qd,hn⟩:=q1
   cases (show vs'=[] from hn)
   intro x dx hx hdx hne
   refine ⟨x,dx,v,F2,d,rfl,aP,s1.free hx,fun c o e=>?_,qd,?_⟩
   ·have hc:c≠x:=fun h=>by rw [h,s1.free hx] at e;cases e
    have hd:c≠dx:=fun h=>by rw [h,s1.free hdx] at e;cases e
    rw [aL hc,aL hd];exact s1 _ _ e
   ·have z:aN K Wno false F2 H1 ((g [d]).bind fun r=>.ok (.ins C [("gaps",r)])) Q:=z
    cases hgd:g [d] with
    |error e=>rw [hgd] at z;exact False.elim z
    |ok r=>
     rw [hgd] at z
     intro w F' H' h1 h2 h3 h4 h5 h6 h7
     refine ⟨rfl,z (.ref x) (upd F' x (.ins C dx [("gaps",w)])) H' (Step.born s1 hx hdx hne h1 h2 h3 h4 h5 h6) ?_⟩
     exact ⟨x,dx,_,rfl,aP,w,[],rfl,cW.mono (bp.upd h3) h7,rfl⟩
theorem E3 {k:Nat} {fI:Addr} {fdI:FuncData} {g:List Dat->M Dat} {ps:List Str} (Mk':Mk X.K C fI) (FI:cz X.prog X.w X.K X.mg X.base CX0 k fI fdI ps (spI2 K C g)) (hr:oQ (k+1) X.A) (hm:X.mg x=some (.ref C)) (hb:Binds X.K fdI ps [])
  (ha:DA K Wno X [e,a] fr) (hg:Gl X x:=by rfl) (hdb:(x==("__debug__":Str))=false:=by decide) (hst:starEach [e,a] X.env=(false,eval e X.env)::starEach [a] X.env:=by rfl) (hpl:(backTo pos (starEach [a] X.env)).any (·.1)=false:=by rfl) :
  DE K Wno false X (.Call (.Name x p) [e,a] [] pos) (fL (newP C g) fr):=by
 refine PE.imp (D2 Mk' FI hr hg hm hb .nil wV ha hdb hst hpl) fun σ H Q h=>?_
 obtain ⟨F,ρ,r,s,p⟩:=rd_L h
 refine ⟨F,ρ,r,s,?_⟩
 cases e1:fr ρ with
 |error z=>rw [e1] at p;exact p
 |ok ds=>
  rw [e1] at p
  intro vs F1 H1 st q
  obtain ⟨F2,es1,s1,q1,z⟩:=p vs F1 H1 st q
  rcases es1 with _|⟨d,_|⟨d2,_|⟨_,_⟩⟩⟩
  ·exact aN.stuck z
  ·exact aN.stuck z
  rotate_left
  ·exact aN.stuck z
  ·obtain ⟨v,vs',rfl,qd,v2,vs2,rfl,qd2,hn⟩:=q1
   cases (show vs2=[] from hn)
   intro x dx hx hdx hne
   refine ⟨x,dx,v,v2,F2,d,d2,rfl,aP,s1.free hx,fun c o e=>?_,qd,qd2,?_⟩
   ·have hc:c≠x:=fun h=>by rw [h,s1.free hx] at e;cases e
    have hd:c≠dx:=fun h=>by rw [h,s1.free hdx] at e;cases e
    rw [aL hc,aL hd];exact s1 _ _ e
   ·have z:aN K Wno false F2 H1 ((g [d]).bind fun r=>(g [d2]).bind fun r2=>if twoL r r2=true then .ok (.ins C [("gaps",r),("beside",r2)]) else stk) Q:=z
    cases hgd:g [d] with
    |error e=>rw [hgd] at z;exact False.elim z
    |ok r=>
     rw [hgd,ax] at z
     cases hgd2:g [d2] with
     |error e=>rw [hgd2] at z;exact False.elim z
     |ok r2=>
      rw [hgd2,ax] at z
      by_cases ht:twoL r r2=true
      ·rw [if_pos ht] at z
       rw [ax,ax,if_pos ht]
       intro w w2 F' H' h1 h2 h3 h4 h5 h6 h7 h8
       refine ⟨rfl,z (.ref x) (upd F' x (.ins C dx [("gaps",w),("beside",w2)])) H' (Step.born s1 hx hdx hne h1 h2 h3 h4 h5 h6) ?_⟩
       exact ⟨x,dx,_,rfl,aP,w,_,rfl,cW.mono (bp.upd h3) h7,w2,[],rfl,cW.mono (bp.upd h3) h8,rfl⟩
      ·rw [if_neg ht] at z;exact aN.stuck z
end
end L2
namespace L2
open PySem PySem.Spec PyProof.Rows
section
variable {X:Cx} {K:PySem.W.Frag} {W:iV} {own:Bool}
theorem Ee (hc:X.calm=true):eA X (.builtin "sum") (fun xs H Q=>∃(a:Addr) (is:List Int),xs=[.ref a]/\SqL X.K H a (is.map V.int)/\Q (.int is.sum) H):=by
 intro pins s σ H xs us Q I r h
 obtain ⟨a,is,rfl,hq,q⟩:=h
 obtain ⟨u,rfl,ru⟩:=r.one
 cases ru
 obtain ⟨its,rv,p,hz⟩:=I.list hq
 have hi:=intsAre_of rv
 obtain ⟨xs,e⟩:=hi.allInts.items
 have hns:is=xs.toList.map (·.1):=by rw [<- hi.numsOf,<- nums_intItems,<- e]
 have hl:=p.isList
 rw [e] at hl
 refine call_sum_walkAnyS (iter_intList hl fun s₂ e2 st hfp hlI=>?_)
 subst e2
 refine ⟨_,_,_,_,_,_,_,numAt xs,rfl,(Walks.list (A:=X.A.in1) (I.ok.hd hc) _ a hlI (intItems xs)).toS,st,hfp,(fun _ _=>intItems_at),fun s' t' hm=>?_⟩
 obtain ⟨h',g',d',tk',os'⟩:=s'
 have e1:=hm.gens
 have e2:=hm.drawn
 have e3:=hm.os
 have e4:=hm.heap
 simp only at e1 e2 e3
 subst e1 e2 e3
 have hk:=old_kept (s:=s) (l:=a) (h':=h') fun b o hb e=>e4 b o hb e
 refine ⟨.int _,H,I.kept (t':=tk') hk,⟨t',rfl⟩,?_⟩
 have es:preSum (numAt xs) (intItems xs).size=is.sum:=by
  rw [preSum_eq,hns,List.take_of_length_le (by simp [intItems])]
 rw [es]
 exact q
theorem c_sum (hc:X.calm=true) (hK:X.K=K:=by rfl):vq K W own X (.builtin "sum") sumD:=by
 subst hK
 refine (Ee hc).imp fun xs H Q h=>?_
 obtain ⟨F,ds,s,q,p⟩:=h
 rcases ds with _|⟨d,_|⟨_,_⟩⟩
 ·exact aN.stuck p
 ·obtain ⟨v,vs,rfl,qd,hn⟩:=q
  cases (show vs=[] from hn)
  cases d with
  |lst ds=>
   obtain ⟨a,xs,e,t,z⟩:=qd
   have p':aN X.K W own F H ((dq ds).bind fun is=>.ok (.int is.sum)) Q:=p
   cases hi:dq ds with
   |error e=>rw [hi] at p';have:=mU hi;subst this;exact aN.stuck p'
   |ok is=>
    rw [hi] at p'
    have hx:xs=is.map V.int:=kE z hi
    subst hx
    exact ⟨a,is,by rw [e],s.lst t,aN.int p' s⟩
  |_=>exact aN.stuck p
 ·cases d<;>exact aN.stuck p
end
noncomputable def Itz (K:PySem.W.Frag) (a b:Addr):It:=
 ⟨fun i H=>∃xs ys x y,SqL K H a xs/\SqL K H b ys/\xs[i]? =some x/\ys[i]? =some y,fun i H v H'=>∃T x y,H T=none/\v=.ref T/\H'=upd H T (.tup [x,y])/\(∀xs,SqL K H a xs->xs[i]? =some x)/\∀ys,SqL K H b ys->ys[i]? =some y,fun i H=>∃xs ys,SqL K H a xs/\SqL K H b ys/\(xs.length<=i\/ys.length<=i)⟩
theorem turn_zip {P:Program} {w:World} {K:PySem.W.Frag} {elts:List Expr} {k:Nat} {pos:Pos} {z TI TO i1 i2 l1 l2:Addr} (D:ZipApart z TI TO i1 i2 l1 l2) :
  Turn P w K (.Tuple elts k pos) (Itz K l1 l2) [z,TI,TO,i1,i2] z (fun i h=>IsZip h z TI TO .none/\IsPair h TI (.ref i1) (.ref i2)/\(∃a b,IsPair h TO a b)/\h.IsListIter i1 l1 i/\h.IsListIter i2 l2 i) where
 mem:=by simp
 obj:=fun i h st b hb=>by
  obtain ⟨hz,hTI,⟨a,c,hTO⟩,⟨o1,e1,c1,d1⟩,⟨o2,e2,c2,d2⟩⟩:=st
  simp only [List.mem_cons,List.not_mem_nil,or_false] at hb
  rcases hb with rfl|rfl|rfl|rfl|rfl
  ·exact ⟨_,hz,fun v q=>by cases q⟩
  ·exact ⟨_,hTI,fun v q=>by cases q⟩
  ·exact ⟨_,hTO,fun v q=>by cases q⟩
  ·exact ⟨o1,e1,fun v q=>by rw [d1] at q;cases q⟩
  ·exact ⟨o2,e2,fun v q=>by rw [d2] at q;cases q⟩
 keep:=fun i h h' st kk=>by
  obtain ⟨hz,hTI,⟨a,c,hTO⟩,h1,h2⟩:=st
  exact ⟨kk z (by simp) _ hz,kk TI (by simp) _ hTI,⟨a,c,kk TO (by simp) _ hTO⟩,h1.at fun o x=>kk i1 (by simp) o x,h2.at fun o x=>kk i2 (by simp) o x⟩
 item:=by
  intro X hP hw hK hc i pins s σ H E I hf st hg
  subst hP hw hK
  obtain ⟨hz,hTI,⟨a,c,hTO⟩,h1,h2⟩:=st
  obtain ⟨xs,ys,x,y,hx,hy,gx,gy⟩:=hg
  obtain ⟨its,rv,p,_⟩:=I.list hx
  obtain ⟨its2,rv2,p2,_⟩:=I.list hy
  obtain ⟨u,hu,ru⟩:=rv.get gx
  obtain ⟨u2,hu2,ru2⟩:=rv2.get gy
  refine wpAny_pyNext_zip_item D hz hTI hTO h1 h2 p.isList p2.isList (x:=u) (y:=u2) (by simpa using hu) (by simpa using hu2) fun h' a1 a2 a3 a4 a5 a6 a7=>?_
  refine ⟨_,rfl,wpAny_letOwnedTupleGo_zip a1 fun h2' b1 b2=>?_⟩
  have lz:z<s.heap.objs.size:=Heap.lt_size hz
  have lTI:TI<s.heap.objs.size:=Heap.lt_size hTI
  have lTO:TO<s.heap.objs.size:=Heap.lt_size hTO
  have li1:i1<s.heap.objs.size:=by obtain ⟨o,e,_⟩:=h1;exact Heap.lt_size e
  have li2:i2<s.heap.objs.size:=by obtain ⟨o,e,_⟩:=h2;exact Heap.lt_size e
  have I1:Inv X pins σ (upd H s.heap.objs.size (.tup [x,y])) {s with heap:=h2',toks:=s.toks}:=I.Cu (ch:=[z,TI,TO,i1,i2]) hf (fun b o hb q=>by
    simp only [List.mem_cons,List.not_mem_nil,or_false,not_or] at hb
    exact (b2.2 b hb.1).trans (a7 b o hb.1 hb.2.2.1 hb.2.2.2.1 hb.2.2.2.2 q)) (Nat.le_refl _) ⟨by show 2<=sizeLine;decide,[u,u2],.cons ru (.cons ru2 .nil),⟨_,(b2.2 _ (Nat.ne_of_gt lz)).trans a5,rfl,0,rfl⟩⟩
  refine ⟨.ref s.heap.objs.size,_,I1,rfl,⟨s.heap.objs.size,x,y,I.hok.fresh (Nat.le_refl _),rfl,rfl,fun zs hq=>by rw [I.uo hq hx];exact gx,fun zs hq=>by rw [I.uo hq hy];exact gy⟩,
   ⟨b1,(b2.2 _ D.TIz).trans (a7 TI _ D.TIz D.TITO D.TIi1 D.TIi2 hTI),⟨_,_,(b2.2 _ D.TOz).trans a2⟩,a3.at fun o q=>(b2.2 _ D.i1z).trans q,a4.at fun o q=>(b2.2 _ D.i2z).trans q⟩,fun b hb=>?_⟩
  have hbn:=(hf b hb).1
  have:b≠s.heap.objs.size:=by
   simp only [List.mem_cons,List.not_mem_nil,or_false] at hb
   rcases hb with rfl|rfl|rfl|rfl|rfl<;>exact Nat.ne_of_lt (by assumption)
  rw [aL this]
  exact hbn
 done:=by
  intro X hP hw hK hc i pins s σ H E I hf st hg
  subst hP hw hK
  obtain ⟨hz,hTI,⟨a,c,hTO⟩,h1,h2⟩:=st
  obtain ⟨xs,ys,hx,hy,hend⟩:=hg
  obtain ⟨its,rv,p,_⟩:=I.list hx
  obtain ⟨its2,rv2,p2,_⟩:=I.list hy
  have e1:=rv.length
  have e2:=rv2.length
  refine wpAny_pyNext_zip_end (I.ok.hd hc) D hz hTI hTO h1 h2 p.isList p2.isList ?_ fun h' hk=>⟨rfl,I.Cv (t':=s.toks) (ch:=[z,TI,TO,i1,i2]) hf fun b o hb q=>?_⟩
  ·rcases hend with z|z
   ·exact .inl (Array.getElem?_eq_none (by simp;omega))
   ·exact .inr (Array.getElem?_eq_none (by simp;omega))
  ·simp only [List.mem_cons,List.not_mem_nil,or_false,not_or] at hb
   exact hk b o hb.1 hb.2.2.1 hb.2.2.2.1 hb.2.2.2.2 q
 self:=fun _ _ _ _ _ st h=>wpAny_pyIter_zip st.1 h
theorem AE:∀(ds es:List Dat) (i:Nat),(uA ds es)[i]? =(ds[i]?).bind fun d=>(es[i]?).map fun e=>.tup [d,e]
 |[],es,i=>by simp [uA]
 |d::ds,[],i=>by cases h:(d::ds)[i]?<;>simp [uA]
 |d::ds,e::es,0=>by simp [uA]
 |d::ds,e::es,i+1=>by rw [uA,List.getElem?_cons_succ,AE ds es i,List.getElem?_cons_succ,List.getElem?_cons_succ]
theorem wA:∀(ds es:List Dat),(uA ds es).length=min ds.length es.length
 |[],es=>by simp [uA]
 |d::ds,[]=>by simp [uA]
 |d::ds,e::es=>by rw [uA,List.length_cons,wA ds es,List.length_cons,List.length_cons];omega
theorem iter_zip {K:PySem.W.Frag} {F:Hp} {a b:Addr} {xs ys:List V} {ds es:List Dat} (t:SqL K F a xs) (z:aE K F ds xs) (t2:SqL K F b ys) (z2:aE K F es ys):AD K F (Itz K a b) (uA ds es) where
 go:=fun i F' H' s1 s2 hi=>by
  rw [wA] at hi
  exact ⟨xs,ys,xs[i]'(by rw [z.length];omega),ys[i]'(by rw [z2.length];omega),s2.lst (s1.lst t),s2.lst (s1.lst t2),List.getElem?_eq_getElem _,List.getElem?_eq_getElem _⟩
 yl:=fun i F' H' x H2 d s1 s2 hd hy=>by
  obtain ⟨T,x1,y1,hT,ex,eH,h1,h2⟩:=hy
  subst ex eH
  rw [AE] at hd
  cases hds:ds[i]? with
  |none=>rw [hds] at hd;cases hd
  |some d1=>
   cases hes:es[i]? with
   |none=>rw [hds,hes] at hd;cases hd
   |some d2=>
    rw [hds,hes] at hd
    simp at hd
    subst hd
    obtain ⟨v,e1,q⟩:=z.get hds
    obtain ⟨v2,e2,q2⟩:=z2.get hes
    have e3:=h1 xs (s2.lst (s1.lst t))
    have e4:=h2 ys (s2.lst (s1.lst t2))
    rw [e1] at e3
    rw [e2] at e4
    cases e3
    cases e4
    refine ⟨upd F' T (.tup [x1,y1]),Step.lay s2 hT,T,_,rfl,SqT.of aP,?_⟩
    exact ⟨x1,[y1],rfl,(q.mono s1).mono (bp.upd (s2.free hT)),y1,[],rfl,(q2.mono s1).mono (bp.upd (s2.free hT)),rfl⟩
 st:=fun F' H' s1 s2=>⟨xs,ys,s2.lst (s1.lst t),s2.lst (s1.lst t2),by rw [z.length,z2.length,wA];omega⟩
section
variable {X:Cx} {K:PySem.W.Frag} {W:iV} {own ro:Bool} {e a b c:Expr} {es:List Expr} {x:Str} {pos p:Pos} {f fa fb fc:ao->M Dat}
noncomputable def iZip (K:PySem.W.Frag) (ta tb:TE):TI:=fun σ H R=>ta σ H fun x H1=>tb σ H1 fun y H2=>∃a b,x=.ref a/\y=.ref b/\(∃xs,SqL K H2 a xs)/\(∃ys,SqL K H2 b ys)/\R (Itz K a b) H2
theorem pi_zip {elts:List Expr} {k:Nat} {q:Pos} {ta tb:TE} (hg:Gl X "zip") (hm:X.mg "zip"=none) (ha:PE X a ta) (hb:PE X b tb) (hs:starEach [a,b] X.env=[(false,eval a X.env),(false,eval b X.env)]) (hs2:starEach [b] X.env=[(false,eval b X.env)]) :
  PI X (.Tuple elts k q) (.Call (.Name "zip" p) [a,b] [] pos) (iZip X.K ta tb):=by
 intro pins s σ H R I h
 have hA:PA X [a,b] (zB ta (zB tb tNil)):=bc ha (bc hb fE hs2) (by rw [hs,hs2])
 refine Call_ (rG I hg hm boot_zip (PyProof.Rows.callWith_type1 (thn (hA pos pins s σ H (fun vs H1=>match vs with
  |[x,y]=>∃a b,x=.ref a/\y=.ref b/\(∃xs,SqL X.K H1 a xs)/\(∃ys,SqL X.K H1 b ys)/\R (Itz X.K a b) H1
  |_=>False) I h) fun us s1 ⟨vs,H1,I1,r1,q1⟩=>?_) (by rw [hs,hs2]) (by rw [hs2];rfl)))
 match vs,r1,q1 with
 |[x,y],r1,⟨l,l2,e1,e2,⟨xs,hq⟩,⟨ys,hq2⟩,q⟩=>
  subst e1 e2
  obtain ⟨u,u2,rfl,ru,ru2⟩:=r1.two
  cases ru
  cases ru2
  obtain ⟨its,rv,pl,_⟩:=I1.list hq
  obtain ⟨its2,rv2,pl2,_⟩:=I1.list hq2
  have a1:l<s1.heap.objs.size:=by obtain ⟨_,e,_⟩:=pl.isList;exact Heap.lt_size e
  have a2:l2<s1.heap.objs.size:=by obtain ⟨_,e,_⟩:=pl2.isList;exact Heap.lt_size e
  refine call_zip_2 pl.isList pl2.isList fun h' hz hTI hTO hi1 hi2 hsz hk=>?_
  have I2:Inv X pins σ H1 {s1 with heap:=h'}:=I1.kept (t':=s1.toks) hk
  refine wpAny_pyIter_zip hz ?_
  refine ⟨s1.heap.objs.size+4,[s1.heap.objs.size+4,s1.heap.objs.size+2,s1.heap.objs.size+3,s1.heap.objs.size,s1.heap.objs.size+1],_,_,H1,rfl,I2,turn_zip (zipApart_new a1 a2),⟨hz,hTI,⟨_,_,hTO⟩,hi1,hi2⟩,fun b hb=>?_,q⟩
  have hb2:s1.heap.objs.size<=b:=by
   simp only [List.mem_cons,List.not_mem_nil,or_false] at hb
   rcases hb with rfl|rfl|rfl|rfl|rfl
   ·exact Nat.le_add_right _ 4
   ·exact Nat.le_add_right _ 2
   ·exact Nat.le_add_right _ 3
   ·exact Nat.le_refl _
   ·exact Nat.le_add_right _ 1
  exact I1.fpOk hb2 (I1.hok.fresh hb2)
theorem ri_zip {σ:St} {H:Hp} {R:It->Hp->Prop} (h:iD K W (fZip fa fb) σ H R):iZip K (tD K W false fa) (tD K W false fb) σ H R:=by
 obtain ⟨F,ρ,r,s,p⟩:=h
 refine bx r s (fun e he=>?_) fun d hd v F1 H1 s1 q1=>?_
 ·have z:fZip fa fb ρ=.error e:=by unfold fZip;rw [he];rfl
  rw [z] at p;exact p
 ·refine bx (r.mono s1.ff) s1.fh (fun e he=>?_) fun d2 hd2 v2 F2 H2 s2 q2=>?_
  ·have z:fZip fa fb ρ=.error e:=by unfold fZip;rw [hd,ax,he];rfl
   rw [z] at p;exact W.mono p s1
  ·have z:fZip fa fb ρ=(qu d).bind fun ds=>(qu d2).bind fun es=>.ok (uA ds es):=by unfold fZip;rw [hd,ax,hd2,ax]
   rw [z] at p
   cases d with
   |lst ds=>
    cases d2 with
    |lst es=>
     obtain ⟨b,xs,e,t,zz⟩:=q1
     obtain ⟨b2,ys,e2,t2,zz2⟩:=q2
     have t':=s2.ff.lst t
     exact ⟨b,b2,e,e2,⟨xs,s2.fh.lst t'⟩,⟨ys,s2.fh.lst t2⟩,p _ F2 H2 (s1.trans s2) (iter_zip t' (zz.mono s2.ff) t2 zz2)⟩
    |_=>exact (W.ns p).elim
   |_=>exact (W.ns p).elim
theorem di_zip {elts:List Expr} {k:Nat} {q:Pos} (hm:X.mg "zip"=none) (ha:DE K W false X a fa) (hb:DE K W false X b fb) (hg:Gl X "zip":=by rfl) (hs:starEach [a,b] X.env=[(false,eval a X.env),(false,eval b X.env)]:=by rfl) (hs2:starEach [b] X.env=[(false,eval b X.env)]:=by rfl) (hK:X.K=K:=by rfl) :
  DI K W X (.Tuple elts k q) (.Call (.Name "zip" p) [a,b] [] pos) (fZip fa fb):=by
 subst hK
 exact (pi_zip hg hm ha hb hs hs2).imp fun _ _ _=>ri_zip
end
end L2
namespace L2
open PySem PySem.Spec PyProof.Rows
end L2
namespace L2
open PySem PySem.Spec PyProof.Rows
end L2
namespace L2
open PySem PySem.Spec PyProof.Rows
theorem AV {n:Nat}:∀{ds:List Dat} {d:Dat},kg ds n=true->d∈ds->okE d n=true
 |[],d,_,h=>by simp at h
 |a::ds,d,h,hd=>by
  unfold kg at h
  simp only [Bool.and_eq_true] at h
  rcases List.mem_cons.mp hd with e|e
  ·rw [e];exact h.1
  ·exact AV h.2 e
section
variable {X:Cx} {K:PySem.W.Frag} {W:iV} {own ro:Bool}
open Classical in
theorem has_D {pins:List (Addr×Obj)} {σ:St} {F H:Hp} {s:Shared} (I:Inv X pins σ H s) (hF:bp F H) {ds:List Dat} {xs:List V} {its:List Value} {a:Dat} {x:V} {u:Value} {A:Around} (od:kg ds 40=true) (oa:okE a 40=true) (qs:aE X.K F ds xs) (rv:Vals xs its) (qa:cW X.K F a x) (ra:RelV x u) (hu:A.units+40<cLine) :
  ∃e:Value->Bool,(∀y,y∈its.toArray->SeqAt.EqAt A s y u (e y))/\its.toArray.any e=ds.any fun d=>eqD d a:=by
 have each:∀(i:Nat) (y:Value),its[i]? =some y->∃d,ds[i]? =some d/\SeqAt.EqAt A s y u (eqD d a):=fun i y hy=>by
  have hi:i<its.length:=(List.getElem?_eq_some_iff.mp hy).1
  have h1:i<xs.length:=by rw [rv.length];exact hi
  have h2:i<ds.length:=by rw [<- qs.length];exact h1
  obtain ⟨v,e1,q1⟩:=qs.get (List.getElem?_eq_getElem h2)
  obtain ⟨w,e2,r2⟩:=rv.get e1
  rw [hy] at e2
  cases e2
  exact ⟨_,List.getElem?_eq_getElem h2,DX I hF _ a (AV od (List.getElem_mem h2)) oa q1 qa r2 ra hu⟩
 refine ⟨fun y=>decide (∃(i:Nat) (d:Dat),its[i]? =some y/\ds[i]? =some d/\eqD d a=true),fun y hy=>?_,?_⟩
 ·by_cases h:∃(i:Nat) (d:Dat),its[i]? =some y/\ds[i]? =some d/\eqD d a=true
  ·obtain ⟨i,d,h1,h2,h3⟩:=h
   obtain ⟨d',h4,h5⟩:=each i y h1
   rw [h2] at h4
   cases h4
   rw [h3] at h5
   have:decide (∃(i:Nat) (d:Dat),its[i]? =some y/\ds[i]? =some d/\eqD d a=true)=true:=decide_eq_true ⟨i,d,h1,h2,h3⟩
   show SeqAt.EqAt A s y u (decide _)
   rw [this]
   exact h5
  ·have hm:y∈its:=by simpa using hy
   obtain ⟨i,hi⟩:=List.getElem?_of_mem hm
   obtain ⟨d,h4,h5⟩:=each i y hi
   have h6:eqD d a=false:=by
    cases hq:eqD d a with
    |false=>rfl
    |true=>exact absurd ⟨i,d,hi,h4,hq⟩ h
   rw [h6] at h5
   show SeqAt.EqAt A s y u (decide _)
   rw [decide_eq_false h]
   exact h5
 ·rw [Bool.eq_iff_iff]
  simp only [List.any_toArray,List.any_eq_true,decide_eq_true_eq]
  constructor
  ·rintro ⟨y,hy,i,d,h1,h2,h3⟩
   exact ⟨d,List.mem_of_getElem? h2,h3⟩
  ·rintro ⟨d,hd,h3⟩
   obtain ⟨i,hi⟩:=List.getElem?_of_mem hd
   have h2:i<ds.length:=(List.getElem?_eq_some_iff.mp hi).1
   have h4:i<its.length:=by rw [<- rv.length,qs.length];exact h2
   exact ⟨its[i],List.getElem_mem h4,i,d,List.getElem?_eq_getElem h4,hi,h3⟩
theorem o_in (hu:X.A.units+64<cLine) (hK:X.K=K:=by rfl):Op2 K W own X (compareOp .In) inM:=by
 subst hK
 intro pins s σ H x y v u Q I rx ry h
 obtain ⟨F,a,b,s1,qa,qb,p⟩:=h
 have hu1:X.A.in1.units+40<cLine:=by show X.A.units+1+40<cLine;omega
 cases b with
 |lst ds=>
  obtain ⟨l,xs,e,t,z⟩:=qb
  subst e
  cases ry
  have p':aN X.K W own F H (if (okE a 40&&kg ds 40)=true then .ok (.bl (ds.any fun d=>eqD d a)) else stk) Q:=p
  by_cases hc:(okE a 40&&kg ds 40)=true
  ·rw [if_pos hc] at p'
   simp only [Bool.and_eq_true] at hc
   obtain ⟨its,rv,pl,_⟩:=I.list (s1.lst t)
   obtain ⟨e,he,ha⟩:=has_D (A:=X.A.in1) I s1 hc.2 hc.1 z rv qa rx hu1
   refine SeqAt.in_listAt e pl.isList he ?_
   rw [ha]
   exact p'.blS s1 I
  ·rw [if_neg hc] at p';exact p'.stuck
 |tup ds=>
  obtain ⟨l,xs,e,t,z⟩:=qb
  subst e
  cases ry
  have p':aN X.K W own F H (if (okE a 40&&kg ds 40)=true then .ok (.bl (ds.any fun d=>eqD d a)) else stk) Q:=p
  by_cases hc:(okE a 40&&kg ds 40)=true
  ·rw [if_pos hc] at p'
   simp only [Bool.and_eq_true] at hc
   obtain ⟨its,rv,pl,_⟩:=I.tuple (s1.tup t)
   obtain ⟨e,he,ha⟩:=has_D (A:=X.A.in1) I s1 hc.2 hc.1 z rv qa rx hu1
   refine SeqAt.in_tupleAt e (show s.heap.IsTuple l its.toArray from pl) he ?_
   rw [ha]
   exact p'.blS s1 I
  ·rw [if_neg hc] at p';exact p'.stuck
 |_=>exact aN.stuck p
end
end L2
namespace L2
open PySem PySem.Spec PyProof.Rows
noncomputable abbrev ZRec (h:Heap) (z p q:Addr) (m k:Value):Prop:=h.get? z=some {cls:=.type "zip",dict:=none,data:=.fields #[m,k,.bool false,.ref p,.ref q],slots:=#[]}
structure Zs (z p q u v l m:Addr) (r k a b:Value) (i j:Nat) (xs ys:Array Value) (h:Heap):Prop where
 me:ZRec h z p q r k
 its:IsPair h p (.ref u) (.ref v)
 own:IsPair h q a b
 one:h.IsListIter u l i
 two:h.IsListIter v m j
 xl:h.IsList l xs
 yl:h.IsList m ys
noncomputable def Off (z q u v:Addr) (h h':Heap):Prop:=∀c o,c≠z->c≠q->c≠u->c≠v->h.get? c=some o->h'.get? c=some o
section
variable {z p q u v l m:Addr} {r k a b:Value} {i j n:Nat} {xs ys:Array Value} {h h' g:Heap}
theorem Off.refl:Off z q u v h h:=fun _ _ _ _ _ _ e=>e
theorem Off.then (A:Off z q u v h h') (B:Off z q u v h' g):Off z q u v h g:=fun c o a b d e x=>B c o a b d e (A c o a b d e x)
end
inductive Mem:Value->Prop
 |no:Mem .none
 |was (a:Int) (t:Tok):Mem (.int a t)
end L2
namespace L2
open PySem PySem.Spec PyProof.Rows
inductive Laid2:Hp->List (V×V)->List V->Hp->Prop
 |nil {G:Hp}:Laid2 G [] [] G
 |cons {G G':Hp} {T:Addr} {x y:V} {ps:List (V×V)} {vs:List V}:G T=none->Laid2 (upd G T (.tup [x,y])) ps vs G'->Laid2 G ((x,y)::ps) (.ref T::vs) G'
end L2
namespace L2
open PySem PySem.Spec PyProof.Rows
noncomputable def repD:Dat->Dat->M Dat
 |.lst ds,.int k=>if (decide (-(2^63)<=k)&&decide (k<2^63)&&decide (ds.length*k.toNat<=sizeLine))=true then .ok (.lst (List.replicate k.toNat ds).flatten) else stk
 |_,_=>stk
@[simp] theorem e_rep {ds:List Dat} {k:Int} (h0: -9223372036854775808<=k) (h1:k<9223372036854775808) (h2:ds.length*k.toNat<=16777216):repD (.lst ds) (.int k)=.ok (.lst (List.replicate k.toNat ds).flatten):=by
 show (if _ then _ else _)=_
 rw [if_pos];simp only [Bool.and_eq_true,decide_eq_true_eq]
 exact ⟨⟨by omega,by omega⟩,by rw [sizeLine_eq];exact h2⟩
theorem aE.rep {K:PySem.W.Frag} {F:Hp} {ds:List Dat} {xs:List V} (h:aE K F ds xs):∀m:Nat,aE K F (List.replicate m ds).flatten (List.replicate m xs).flatten
 |0=>rfl
 |m+1=>by
  rw [List.replicate_succ,List.replicate_succ,List.flatten_cons,List.flatten_cons]
  exact h.append (aE.rep h m)
section
variable {X:Cx} {K:PySem.W.Frag} {W:iV} {a b:Expr} {pos:Pos} {fa fb:ao->M Dat}
theorem de_rep (ha:DE K W true X a fa) (hb:DE K W false X b fb):DE K W true X (.BinOp a .Mult b pos) (f2 repD fa fb):=by
 refine PE.imp (pe_op op_rep ha hb) fun σ H Q h=>?_
 obtain ⟨F,ρ,r,s,p⟩:=h
 refine bx r s (fun e he=>p.err (by unfold f2;rw [he];rfl)) fun x hx v F1 H1 s1 q1=>?_
 refine bx (r.mono s1.ff) s1.fh (fun e he=>(p.step s1).err (by unfold f2;rw [hx];show (fb ρ).bind _=_;rw [he];rfl)) fun y hy u F2 H2 s2 q2=>?_
 have e:f2 repD fa fb ρ=repD x y:=by unfold f2;rw [hx];show (fb ρ).bind _=_;rw [hy];rfl
 rw [e] at p
 cases x with
 |lst ds=>
  cases y with
  |int k=>
   obtain ⟨l,xs,e1,t1,t2,t3,t4⟩:=q1
   have e2:u=.int k:=q2
   have p':aN K W true F H (if (decide (-(2^63)<=k)&&decide (k<2^63)&&decide (ds.length*k.toNat<=sizeLine))=true then .ok (.lst (List.replicate k.toNat ds).flatten) else stk) Q:=p
   by_cases hc:(decide (-(2^63)<=k)&&decide (k<2^63)&&decide (ds.length*k.toNat<=sizeLine))=true
   ·rw [if_pos hc] at p';simp only [Bool.and_eq_true,decide_eq_true_eq] at hc
    have t4':=t4.mono s2.ff
    refine ⟨l,k,xs,e1,e2,s2.hh l _ t1,hc.1.1,hc.1.2,by rw [t4.length];exact hc.2,fun z hz=>?_⟩
    exact (p'.step (s1.trans s2)).lst s2.fh (t4'.rep k.toNat) hz
   ·rw [if_neg hc] at p';exact p'.stuck
  |_=>exact aN.stuck p
 |_=>exact aN.stuck p
end
end L2
namespace L2
open PySem PySem.Spec PyProof.Rows
theorem Step.stays {F H F' H':Hp} {a:Addr} {o:HO} (s:Step F H F' H') (n:F a=none) (h:H a=some o):F' a=none:=by
 cases e:F' a with
 |none=>rfl
 |some u=>
  rcases s.nw a u e with z|z
  ·rw [n] at z;cases z
  ·rw [h] at z;cases z
structure wu (K:PySem.W.Frag) (F G H:Hp) (ds:List Dat) (vs:List V):Prop where
 len:vs.length=ds.length
 get:∀(k:Nat) (d:Dat),ds[k]? =some d->∃a xs es,vs[k]? =some (.ref a)/\d=.lst es/\H a=some (.lst xs)/\F a=none/\G a=none/\aE K F es xs
 ap:∀(j k:Nat) (a:Addr),vs[j]? =some (.ref a)->vs[k]? =some (.ref a)->j=k
section
variable {K:PySem.W.Frag} {F G H F' H':Hp} {ds:List Dat} {vs:List V}
theorem wu.nil:wu K F G H [] []:=⟨rfl,fun k d e=>by simp at e,fun j k a e=>by simp at e⟩
theorem wu.step (o:wu K F G H ds vs) (s:Step F H F' H'):wu K F' G H' ds vs where
 len:=o.len
 get:=fun k d e=>by
  obtain ⟨a,xs,es,h1,h2,h3,h4,h5,h6⟩:=o.get k d e
  exact ⟨a,xs,es,h1,h2,s.hh _ _ h3,s.stays h4 h3,h5,h6.mono s.ff⟩
 ap:=o.ap
theorem wu.back {G':Hp} (o:wu K F G H ds vs) (s:bp G' G):wu K F G' H ds vs where
 len:=o.len
 get:=fun k d e=>by
  obtain ⟨a,xs,es,h1,h2,h3,h4,h5,h6⟩:=o.get k d e
  exact ⟨a,xs,es,h1,h2,h3,h4,s.free h5,h6⟩
 ap:=o.ap
theorem wu.at (o:wu K F G H ds vs) {k:Nat} {a:Addr} (h:vs[k]? =some (.ref a)):∃xs es,ds[k]? =some (.lst es)/\H a=some (.lst xs)/\F a=none/\G a=none/\aE K F es xs:=by
 have hk:k<ds.length:=by rw [<- o.len];exact (List.getElem?_eq_some_iff.mp h).1
 obtain ⟨b,xs,es,h1,h2,h3,h4,h5,h6⟩:=o.get k ds[k] (by simp [hk])
 rw [h] at h1
 cases h1
 exact ⟨xs,es,by rw [<- h2];simp [hk],h3,h4,h5,h6⟩
theorem wu.add (o:wu K F G H ds vs) {es:List Dat} {a:Addr} {xs:List V} (new:∀k:Nat,vs[k]?≠some (.ref a)) (h3:H a=some (.lst xs)) (h4:F a=none) (h5:G a=none) (h6:aE K F es xs):wu K F G H (ds++[.lst es]) (vs++[.ref a]) where
 len:=by simp [o.len]
 get:=fun k d e=>by
  rcases Nat.lt_trichotomy k ds.length with z|z|z
  ·rw [List.getElem?_append_left z] at e
   obtain ⟨b,ys,fs,g1,g2⟩:=o.get k d e
   exact ⟨b,ys,fs,by rw [List.getElem?_append_left (by rw [o.len];exact z)];exact g1,g2⟩
  ·subst z
   simp at e
   refine ⟨a,xs,es,?_,e.symm,h3,h4,h5,h6⟩
   rw [<- o.len]
   simp
  ·have:=(List.getElem?_eq_some_iff.mp e).1
   simp at this
   omega
 ap:=fun j k b e1 e2=>by
  have key:∀m,(vs++[V.ref a])[m]? =some (.ref b)->(m<vs.length/\vs[m]? =some (.ref b))\/(m=vs.length/\b=a):=fun m e=>by
   rcases Nat.lt_trichotomy m vs.length with z|z|z
   ·rw [List.getElem?_append_left z] at e;exact .inl ⟨z,e⟩
   ·subst z;simp at e;exact .inr ⟨rfl,e.symm⟩
   ·have:=(List.getElem?_eq_some_iff.mp e).1
    simp at this
    omega
  rcases key j e1 with ⟨_,u1⟩|⟨u1,u2⟩<;>rcases key k e2 with ⟨_,w1⟩|⟨w1,w2⟩
  ·exact o.ap j k b u1 w1
  ·subst w2;exact absurd u1 (new j)
  ·subst u2;exact absurd w1 (new k)
  ·omega
end
section
variable {K:PySem.W.Frag} {W:iV} {F H:Hp} {σ:St} {ρ:ao}
theorem rd_turns {fi:ao->M (List Dat)} {ix:List (Option Nat)} {p:Pat} {ft:ao->M Bool} {fe:ao->M Dat} {R:List V->Hp->Prop} (r:r9 K F σ ρ) (s:bp F H) (hL:∀ρ d,fe ρ=.ok d->∃es,d=.lst es) (hE:∀e,fK fi ix p ft fe ρ=.error e->W.p e F H)
  (hO:∀rs,fK fi ix p ft fe ρ=.ok (.lst rs)->∀ys F2 H2,Step F H F2 H2->wu K F2 H H2 rs ys->R ys H2):iD K W fi σ H fun J H1=>rW J ix (gP K p) (tDT K W ft) (tD K W true fe) σ R H1:=by
 refine ⟨F,ρ,r,s,?_⟩
 cases hf:fi ρ with
 |error e=>exact hE e (by unfold fK;rw [hf];rfl)
 |ok ds=>
  intro J F1 H1 s1 it
  have e0:fK fi ix p ft fe ρ=if ds.length<=sizeLine then (b8 p ft fe (iF ix ρ) ds).bind fun r=>.ok (.lst r) else .error .stuck:=by unfold fK;rw [hf];rfl
  by_cases hl:ds.length<=sizeLine
  ·rw [if_pos hl] at e0
   rw [e0] at hE hO
   refine ⟨fun i m ys H2=>m=ds.length-i/\i<=ds.length/\∃F2 yd,Step F1 H1 F2 H2/\wu K F2 H1 H2 yd ys/\yd.length<=i /\
    (match b8 p ft fe (iF ix ρ) (ds.drop i) with
     |.ok rr=>b8 p ft fe (iF ix ρ) ds=.ok (yd++rr)
     |.error e=>W.p e F H),⟨ds.length,by omega,Nat.zero_le _,F1,[],Step.refl s1.fh,wu.nil,Nat.zero_le _,?_⟩,?_⟩
   ·rw [List.drop_zero]
    cases e:b8 p ft fe (iF ix ρ) ds with
    |ok rr=>rfl
    |error x=>exact hE x (by rw [e];rfl)
   ·rintro i m ys H2 ⟨rfl,hi,F2,yd,s2,dy,ly,hc⟩
    have lys:ys.length<=sizeLine:=by rw [dy.len];omega
    by_cases hlt:i<ds.length
    ·have ed:ds.drop i=ds[i]::ds.drop (i+1):=List.drop_eq_getElem_cons hlt
     rw [ed] at hc
     refine .inr ⟨it.go i F2 H2 s2.ff s2.fh hlt,lys,fun ys' H'=>(i+1<=ds.length/\∃F2 yd,Step F1 H1 F2 H'/\wu K F2 H1 H' yd ys'/\yd.length<=i+1 /\
      (match b8 p ft fe (iF ix ρ) (ds.drop (i+1)) with
       |.ok rr=>b8 p ft fe (iF ix ρ) ds=.ok (yd++rr)
       |.error e=>W.p e F H)),fun ys' H' n=>⟨ds.length-(i+1),by omega,rfl,n⟩,fun x H' y=>?_⟩
     obtain ⟨F3,s3,q3⟩:=it.yl i F2 H2 x H' ds[i] s2.ff s2.fh (by simp [hlt]) y
     have r3:r9 K F3 (L2.inS ix σ) (iF ix ρ):=(r.mono (s1.trans (s2.trans s3)).ff).inS ix
     have st3:Step F H F3 H':=s1.trans (s2.trans s3)
     have ec:b8 p ft fe (iF ix ρ) (ds[i]::ds.drop (i+1))=(jz p ds[i] (iF ix ρ)).bind fun ρ1=>(ft ρ1).bind fun b=>if b=true then (fe ρ1).bind fun y=>(b8 p ft fe (iF ix ρ) (ds.drop (i+1))).bind fun r=>.ok (y::r) else b8 p ft fe (iF ix ρ) (ds.drop (i+1)):=by rw [b8]
     rw [ec] at hc
     cases hb:jz p ds[i] (iF ix ρ) with
     |error e=>
      rw [hb] at hc
      have:=pX hb
      subst this
      exact (W.ns hc).elim
     |ok ρ1=>
      rw [hb] at hc
      refine gP_run r3 s3.fh q3 hb fun σ2 r4=>?_
      have hc1:match ((ft ρ1).bind fun b=>if b=true then (fe ρ1).bind fun y=>(b8 p ft fe (iF ix ρ) (ds.drop (i+1))).bind fun r=>.ok (y::r) else b8 p ft fe (iF ix ρ) (ds.drop (i+1))) with
       |.ok rr=>b8 p ft fe (iF ix ρ) ds=.ok (yd++rr)
       |.error e=>W.p e F H:=hc
      refine oS r4 s3.fh (fun e he=>by rw [he] at hc1;exact W.mono hc1 st3) fun b hb2 F5 H5 s5=>?_
      rw [hb2] at hc1
      cases b with
      |false=>
       have hc2:match b8 p ft fe (iF ix ρ) (ds.drop (i+1)) with
        |.ok rr=>b8 p ft fe (iF ix ρ) ds=.ok (yd++rr)
        |.error e=>W.p e F H:=hc1
       exact ⟨hlt,F5,yd,s2.trans (s3.trans s5),dy.step (s3.trans s5),by omega,hc2⟩
      |true=>
       have hc2:match ((fe ρ1).bind fun y=>(b8 p ft fe (iF ix ρ) (ds.drop (i+1))).bind fun r=>.ok (y::r)) with
        |.ok rr=>b8 p ft fe (iF ix ρ) ds=.ok (yd++rr)
        |.error e=>W.p e F H:=hc1
       refine bx (r4.mono s5.ff) s5.fh (fun e he=>by rw [he] at hc2;exact W.mono hc2 (st3.trans s5)) fun d hd v F6 H6 s6 q6=>?_
       rw [hd] at hc2
       obtain ⟨es,rfl⟩:=hL _ _ hd
       obtain ⟨a,xs,ev,g1,g2,g3,g4⟩:=q6
       subst ev
       have d5:=dy.step (s3.trans s5)
       refine ⟨hlt,F6,yd++[.lst es],s2.trans (s3.trans (s5.trans s6)),(d5.step s6).add (fun k hk=>?_) g1 g2 ((s2.trans (s3.trans s5)).hh.free g3) g4,by simp;omega,?_⟩
       ·obtain ⟨_,_,_,z,_⟩:=d5.at hk
        rw [g3] at z
        cases z
       ·have hc3:match ((b8 p ft fe (iF ix ρ) (ds.drop (i+1))).bind fun r=>.ok (Dat.lst es::r):M (List Dat)) with
         |.ok rr=>b8 p ft fe (iF ix ρ) ds=.ok (yd++rr)
         |.error e=>W.p e F H:=hc2
        cases e7:b8 p ft fe (iF ix ρ) (ds.drop (i+1)) with
        |ok rr=>
         rw [e7] at hc3
         show _=Except.ok ((yd++[Dat.lst es])++rr)
         rw [List.append_assoc]
         exact hc3
        |error x=>rw [e7] at hc3;exact hc3
    ·have:i=ds.length:=by omega
     subst this
     rw [List.drop_length] at hc
     have hc':b8 p ft fe (iF ix ρ) ds=.ok (yd++[]):=hc
     rw [List.append_nil] at hc'
     exact .inl ⟨it.st F2 H2 s2.ff s2.fh,lys,hO yd (by rw [hc'];rfl) ys F2 H2 (s1.trans s2) (dy.back s1.hh)⟩
  ·rw [if_neg hl] at e0
   exact (W.ns (hE .stuck e0)).elim
end
noncomputable def lstOf:Dat->M (List Dat)
 |.lst ds=>.ok ds
 |_=>.error .stuck
noncomputable def rowAt (rs:List Dat) (a:Int):M (Nat×List Dat):=match ixN rs.length a with
 |some j=>(match rs[j]? with
  |some (.lst es)=>.ok (j,es)
  |_=>.error .stuck)
 |none=>.error .stuck
noncomputable def vR (rs:List Dat) (je:Nat×List Dat) (b:Int) (x:Dat):M (List Dat):=match ixN je.2.length b with
 |some k=>.ok (rs.set je.1 (.lst (je.2.set k x)))
 |none=>.error .stuck
noncomputable def uF (i:Nat) (rs:List Dat) (x:Dat) (je:Nat×List Dat) (fB:ao->M Dat) (ρ:ao):M Flo:=(fB (ρ.set i none)).bind fun b=>(asI b).bind fun b=>(vR rs je b x).bind fun rs'=>.ok (.nx (ρ.set i (some (.lst rs'))))
noncomputable def fJ (i:Nat) (rs:List Dat) (x:Dat) (fA fB:ao->M Dat) (ρ:ao):M Flo:=(fA (ρ.set i none)).bind fun a=>(asI a).bind fun a=>(rowAt rs a).bind fun je=>uF i rs x je fB ρ
noncomputable def zG (i:Nat) (rs:List Dat) (fx fA fB:ao->M Dat) (ρ:ao):M Flo:=(fx (ρ.set i none)).bind fun x=>fJ i rs x fA fB ρ
noncomputable def wL (i:Nat) (fc fx fA fB:ao->M Dat):ao->M Flo:=fun ρ=>(fc ρ).bind fun d=>(lstOf d).bind fun rs=>zG i rs fx fA fB ρ
noncomputable def xF (g:ao->M Flo) (m:M Flo):M Flo:=m.bind fun fl=>match fl with
 |.nx ρ'=>g ρ'
 |fl=>.ok fl
theorem iq {g:ao->M Flo} {m:M Flo} {e:Err} (h:m=.error e):xF g m=.error e:=by rw [h];rfl
theorem Dr {fr:ao->M (List Dat)}:∀ρ d,fL yJ fr ρ=.ok d->∃es,d=.lst es:=fun ρ d h=>by
 unfold fL at h
 cases e:fr ρ with
 |error x=>rw [e] at h;cases h
 |ok ds=>
  rw [e] at h
  have h:yJ ds=.ok d:=h
  unfold yJ at h
  split at h
  all_goals first
   |(cases h;done)
   |(split at h<;>first|(cases h;done)|(cases h;exact ⟨_,rfl⟩))
   |(cases h;exact ⟨_,rfl⟩)
end L2
namespace L2
open PySem PySem.Spec PyProof.Rows
end L2
namespace L2
open PySem PySem.Spec PyProof.Rows
structure Ys (z p q u v l m:Addr) (r k a b:Value) (i j:Nat) (xs ys:Array Value) (h:Heap):Prop where
 me:ZRec h z p q r k
 its:IsPair h p (.ref u) (.ref v)
 own:IsPair h q a b
 one:h.IsTupleIter u l i
 two:h.IsTupleIter v m j
 xl:h.IsTuple l xs
 yl:h.IsTuple m ys
end L2
namespace L2
open PySem PySem.Spec PyProof.Rows
structure RepR (K:PySem.W.Frag) (F0 H0 FB:Hp) (i:Nat) (a:Addr) (ys:List V) (rs:List Dat) (F H:Hp) (σ:St) (ρ:ao):Prop where
 r:Rep K F0 H0 FB [] F H σ ρ
 sl:σ[i]? =some (some (.ref a))
 hp:H a=some (.lst ys)
 fa:F a=none
 ha:H0 a=none
 nm:∀m:Nat,ys[m]?≠some (.ref a)
 ow:wu K F H0 H rs ys
section
variable {K:PySem.W.Frag} {F0 H0 FB F H F1 H1:Hp} {i:Nat} {a:Addr} {ys:List V} {rs:List Dat} {σ:St} {ρ:ao}
theorem RepR.base {FB':Hp} (h:RepR K F0 H0 FB i a ys rs F H σ ρ) (s:bp FB' FB):RepR K F0 H0 FB' i a ys rs F H σ ρ:=⟨h.r.base s,h.sl,h.hp,h.fa,h.ha,h.nm,h.ow⟩
end
end L2
namespace L2
open PySem PySem.Spec PyProof.Rows
section
variable {κ:Type} [DecidableEq κ]
noncomputable def dropK (kvs:List (κ×V)) (k:κ):List (κ×V):=kvs.filter fun kv=>decide (kv.1≠k)
theorem Ck.getD {o:Option V} {u:Option Value} {d:V} {d':Value} (r:Ck o u) (rd:RelV d d'):RelV (o.getD d) (u.getD d'):=by
 cases o with
 |none=>cases u with
  |none=>exact rd
  |some _=>exact (show False from r).elim
 |some _=>cases u with
  |none=>exact (show False from r).elim
  |some _=>exact r
theorem KV.drop {kvs:List (κ×V)} {vs:List (κ×Value)} (r:KV kvs vs) (k:κ):KV (dropK kvs k) (without vs k):=by
 unfold KV at r ⊢
 unfold dropK without
 induction r with
 |nil=>exact .nil
 |@cons p q ps qs h t ih=>
  obtain ⟨h1,h2⟩:=h
  rw [List.filter_cons,List.filter_cons]
  by_cases e:p.1=k
  ·have a:¬decide (p.1≠k)=true:=by simp [e]
   have b:¬decide (q.1≠k)=true:=by simp [h1.symm.trans e]
   rw [if_neg a,if_neg b];exact ih
  ·have e':¬q.1=k:=fun z=>e (h1.trans z)
   have a:decide (p.1≠k)=true:=by simp [e]
   have b:decide (q.1≠k)=true:=by simp [e']
   rw [if_pos a,if_pos b];exact .cons ⟨h1,h2⟩ ih
theorem KV.length {kvs:List (κ×V)} {vs:List (κ×Value)} (r:KV kvs vs):kvs.length=vs.length:=Paired.length r
end
noncomputable abbrev KT (H:Hp):List (List Key×V)->List (List Key×Addr×Value)->Prop:=Paired fun p q=>p.1=q.1/\H q.2.1=some (.tup (p.1.map kV))/\RelV p.2 q.2.2
theorem KT.keeps {H H':Hp} {kvs:List (List Key×V)} {xs:List (List Key×Addr×Value)} (r:KT H kvs xs) (ht:∀b ys,H b=some (.tup ys)->H' b=some (.tup ys)):KT H' kvs xs:=
 Paired.mapP r fun _ _ z=>⟨z.1,ht _ _ z.2.1,z.2.2⟩
structure M1 (X:Cx) (o:Expr) (m:Str) (apos:Pos) (e:Expr) (cpos:Pos):Prop where
 base:attributeBase o m X.env (eval o X.env)=eval o X.env
 few:((backTo cpos (starEach [e] X.env)).all (fun x=> !x.1)&&(backToKw cpos (keywordEach [] X.env)).all (fun x=>x.1.isSome)
  &&decide (([e]:List Expr).length+([]:List Keyword).length+(if ([]:List Keyword).isEmpty then 0 else 1)<30))=true
 line:(apos.endLine==cpos.line)=true
 trees:backTo cpos (starEach [e] X.env)=[(false,eval e X.env)]
structure M2 (X:Cx) (o:Expr) (m:Str) (apos:Pos) (e f:Expr) (cpos:Pos):Prop where
 base:attributeBase o m X.env (eval o X.env)=eval o X.env
 few:((backTo cpos (starEach [e,f] X.env)).all (fun x=> !x.1)&&(backToKw cpos (keywordEach [] X.env)).all (fun x=>x.1.isSome)
  &&decide (([e,f]:List Expr).length+([]:List Keyword).length+(if ([]:List Keyword).isEmpty then 0 else 1)<30))=true
 line:(apos.endLine==cpos.line)=true
 trees:backTo cpos (starEach [e,f] X.env)=[(false,eval e X.env),(false,eval f X.env)]
end L2
namespace L2
open PySem PySem.Spec PyProof.Rows
noncomputable def keysI (ks:List Int):List (Key×V):=ks.map fun k=>(Sum.inl k,.bl true)
structure RepK (K:PySem.W.Frag) (F0 H0 FB:Hp) (i:Nat) (a:Addr) (ks:List Int) (F H:Hp) (σ:St) (ρ:ao):Prop where
 r:Rep K F0 H0 FB [] F H σ ρ
 sl:σ[i]? =some (some (.ref a))
 hp:H a=some (.dK (keysI ks))
 fa:F a=none
 ha:H0 a=none
end L2
namespace L2
open PySem PySem.Spec PyProof.Rows
structure ExA (h:Heap) (e:Addr) (C:Value) (dx hd:Option Addr):Prop where
 ob:∃oe vs,h.get? e=some oe/\oe.cls=C/\oe.dict=dx/\oe.data=.fields vs/\vs[1]? =some (hd.elim Value.none Value.ref)
 tb:∀T,hd=some T->T≠e/\∃oT ts,h.get? T=some oT/\oT.data=.fields ts/\ts[3]? =some .none
section
variable {M:Model} {A:Around} {E:Value->Shared->Prop} {s:Shared}
structure Left (fs:List Addr) (e:Addr) (hd:Option Addr) (h h':Heap):Prop where
 keep:∀b o,h.get? b=some o->b∉fs->b≠e->(∀T,hd=some T->b≠T)->h'.get? b=some o
 slot:∀b o,h.get? b=some o->b∈fs->∃sl,h'.get? b=some {o with slots:=sl}
 size:h.objs.size<=h'.objs.size
end
end L2
namespace L2
open PySem PySem.Spec PyProof.Rows
structure CXs (P:Program) (w:World) (outer:List Env) (H:Hp) (s:Shared) (E:XK) (a T:Addr) (C:Value) (dx:Option Addr) (H':Hp) (s':Shared):Prop where
 ex:ExA s'.heap a C dx (some T)
 na:s.heap.get? a=none
 nT:s.heap.get? T=none
 fa:H' a=none
 fT:H' T=none
 os:s'.os=s.os
 bare:AllBare s'.gens
 un:Un (frs outer) [] H H' s.heap s'.heap
 hok:HOk P w H' s'.heap
 want:E C dx H'
theorem get_none {h:Heap} {a:Addr} (z:h.objs.size<=a):h.get? a=none:=by
 cases e:h.get? a with
 |none=>rfl
 |some o=>exact absurd (Heap.lt_size e) (Nat.not_lt.mpr z)
end L2
namespace L2
open PySem PySem.Spec PyProof.Rows
end L2
namespace L2
open PySem PySem.Spec PyProof.Rows
end L2
namespace L2
open PySem PySem.Spec PyProof.Rows
section
variable {X:Cx} {pins:List (Addr×Obj)} {σ:St} {H:Hp} {s:Shared} {a:Addr} {C:Value} {dx hd:Option Addr}
structure Apart (X:Cx) (pins:List (Addr×Obj)) (H:Hp) (s:Shared) (a:Addr) (hd:Option Addr):Prop where
 na:X.s₀.heap.get? a=none
 fa:H a=none
 pa:∀p∈X.pn++pins,p.1≠a
 nT:∀T,hd=some T->X.s₀.heap.get? T=none/\H T=none/\∀p∈X.pn++pins,p.1≠T
theorem Inv.left {h':Heap} (I:Inv X pins σ H s) (hx:X.ex=[]) (x:ExA s.heap a C dx hd) (ap:Apart X pins H s a hd) (lf:Left (frs X.stack) a hd s.heap h'):Inv X pins σ H {s with heap:=h'}:=by
 have e0:=I.env0
 obtain ⟨oe,vs,he,_,_,hdt,_⟩:=x.ob
 have nof:∀b o,s.heap.get? b=some o->(∀vs,o.data≠.fields vs)->b≠a/\∀T,hd=some T->b≠T:=fun b o e n=>by
  refine ⟨fun z=>?_,fun T hT z=>?_⟩
  ·subst z
   rw [he] at e
   cases e
   exact n vs hdt
  ·subst z
   obtain ⟨_,oT,ts,h1,h2,_⟩:=x.tb _ hT
   rw [h1] at e
   cases e
   exact n ts h2
 have stk:∀b∈frs X.stack,H b=none:=e0.frf
 have any:∀b o,s.heap.get? b=some o->(∀vs,o.data≠.fields vs)->∃sl,h'.get? b=some {o with slots:=sl}:=fun b o e n=>by
  obtain ⟨z1,z2⟩:=nof b o e n
  by_cases hb:b∈frs X.stack
  ·exact lf.slot b o e hb
  ·exact ⟨o.slots,lf.keep b o e hb z1 z2⟩
 have old:∀b o,X.s₀.heap.get? b=some o->b≠a/\∀T,hd=some T->b≠T:=fun b o e=>
  ⟨fun z=>(by subst z;rw [ap.na] at e;cases e),fun T hT z=>(by subst z;rw [(ap.nT _ hT).1] at e;cases e)⟩
 have up:s.heap.UpToSlots h':=any
 have loc0:X.s₀.heap.get? X.env.locals=none:=get_none I.ok.above
 have out:∀b,b≠X.env.locals->b∉X.fs->b∉frs X.stack:=fun b h1 h2 h3=>by
  rcases List.mem_cons.mp (I.vP b h3) with z|z
  ·exact h1 z
  ·exact h2 z
 have cel:∀c v,s.heap.IsCell c v->h'.IsCell c v:=fun c v ⟨o,h1,h2⟩=>by
  obtain ⟨sl,z⟩:=any c o h1 (fun vs q=>by rw [h2] at q;cases q)
  exact ⟨_,z,h2⟩
 refine ⟨I.ok,I.os,I.bare,?_,?_,fun x c e=>?_,I.free,I.freeC,fun p hp=>?_,?_,I.len⟩
 ·have go:∀b o,X.s₀.heap.get? b=some o->∀o',s.heap.get? b=some o'->∃sl,h'.get? b=some {o' with slots:=sl}:=fun b o e o' e'=>by
   obtain ⟨z1,z2⟩:=old b o e
   by_cases hb:b∈frs X.stack
   ·exact lf.slot b o' e' hb
   ·exact ⟨o'.slots,lf.keep b o' e' hb z1 z2⟩
  refine ⟨fun b o e n hb hx'=>?_,fun b o e n hb hx'=>?_,I.base.free,fun b o e hx'=>?_,I.base.tups,I.base.frzs,I.base.tbls⟩
  ·obtain ⟨z1,z2⟩:=old b o e
   exact lf.keep b o (I.base.keep b o e n hb hx') (out b (fun z=>by rw [z,loc0] at e;cases e) hb) z1 z2
  ·obtain ⟨sl,e1⟩:=I.base.slot b o e n hb hx'
   obtain ⟨sl2,e2⟩:=go b o e _ e1
   exact ⟨sl2,e2⟩
  ·obtain ⟨o',e1⟩:=I.base.there b o e hx'
   obtain ⟨sl2,e2⟩:=go b o e _ e1
   exact ⟨_,e2⟩
 ·obtain ⟨m,hn,hl⟩:=I.loc
  refine ⟨m,up.ns hn,fun i x v e1 e2 e3=>?_⟩
  obtain ⟨u,r,lk⟩:=hl i x v e1 e2 e3
  refine ⟨u,r,?_⟩
  rcases lk with z|⟨z,c,c1,c2⟩
  ·exact .inl z
  ·exact .inr ⟨z,c,c1,cel c _ c2⟩
 ·obtain ⟨v,z⟩:=I.cell x c e
  exact ⟨v,cel c v z⟩
 ·obtain ⟨p1,p2,p3,p4,p5⟩:=I.pin p hp
  exact ⟨lf.keep p.1 p.2 p1 (out p.1 p3 p4) (ap.pa p hp) fun T hT=>(ap.nT T hT).2.2 p hp,p2,p3,p4,p5⟩
 ·intro b o e
  refine (I.hok b o e).stay (fun c u hc e1=>?_) (fun _ z=>z) fun _ _ z=>z
  have hcn:H c≠none:=by
   rcases hc with z|z
   ·rw [z,e];exact fun z=>nomatch z
   ·rw [z];exact fun z=>nomatch z
  exact lf.keep c u e1 (fun z=>hcn (stk c z)) (fun z=>hcn (by rw [z];exact ap.fa)) fun T hT z=>hcn (by rw [z];exact (ap.nT T hT).2.1)
end
end L2
namespace L2
open PySem PySem.Spec PyProof.Rows
end L2
namespace L2
open PySem PySem.Spec PyProof.Rows
noncomputable def XNamed (K:PySem.W.Frag) (C:Addr) (bmB:List Value):Prop:=∀h:Heap,K.In h->∃tl N nm qn bs hdct sn sub ab col dd k0 k1 k2 k3 k5 newId,h.get? C=some (excClassObj nm qn C N bs tl hdct sn sub ab col dd k0 k1 k2 k3 k5 newId)/\OwnTail h bmB tl
noncomputable abbrev Cx.hand (X:Cx) (a:Addr) (oe:Obj):Cx:={X with A:=X.A.mark (some (.ref a)),calm:=false,xe:=fun _ _=>False,pn:=(a,oe)::X.pn}
noncomputable def Ends.less (D:Ends) (i:Nat):Ends:={nx:=fun σ H=>D.nx (σ.set i none) H,rt:=D.rt,bk:=fun σ H=>D.bk (σ.set i none) H,ct:=fun σ H=>D.ct (σ.set i none) H}
end L2
namespace L2
open PySem PySem.Spec PyProof.Rows
end L2
namespace L2
open PySem PySem.Spec PyProof.Rows
end L2
namespace L2
open PySem PySem.Spec PyProof.Rows
section
open PySem.W
variable {prog:Program} {w:World} {A:Around} {E:Value->Shared->Prop} {h:Heap} {g:Array GenState} {d:Drawn} {t:Nat} {os:OsState} {a C:Addr} {oe:Obj} {od:Option Obj} {K:Frag} {bmB:List Value} {B:String}
theorem xcls_by {tk:Tok} {Q:Value->Shared->Prop} (FB:ExcAttrBase B bmB) (kX:K.In h) (I:W.InstAt h a oe C od) (e1:findIn K (.ref C) "__getattribute__"=some (some (.builtin "BaseException.__getattribute__")))
  (e3:findIn K (.ref C) "__getattr__"=some none)
  (hq:∀R:Result->Shared->Prop,R (.ok (.ret (.ref C))) ⟨h,g,d,t,os⟩->codeAny (model prog w) A (.call (.builtin "BaseException.__getattribute__") ⟨[.ref a,.str "__class__" tk],[]⟩) R ⟨h,g,d,t,os⟩) (q:Q (.ref C) ⟨h,g,d,t,os⟩) :
  wpAny (model prog w) A (getAttrBy (.ref a) (.str "__class__" tk) false) Q E ⟨h,g,d,t,os⟩:=by
 have m0:=I.type (M:=model prog w)
 have m1:=looks_findIn (M:=model prog w) kX e1
 have L2:=looks_findIn (M:=model prog w) kX e3
 have b3:=FB.ga.bind (.ref a)
 have nx:(Value.builtin "BaseException.__getattribute__"==Value.builtin "object.__getattribute__")=false:=by decide +kernel
 unfold getAttrBy
 repeat (any_goals (first|assumption|with_reducible refine m0.at ?_|with_reducible refine m1.at ?_|with_reducible refine L2.at ?_|wp_step))
 all_goals (refine hq _ ?_)
 repeat (any_goals (first|wp_step|assumption))
theorem Bs {M:Model} {nameV:Value} {Q:Unit->Shared->Prop} (kX:K.In h) (I:W.InstAt h a oe C od) (hb:mroIn K C (.type "BaseException")=some true) (hq:Q () ⟨h,g,d,t,os⟩) :
  wpAny M A (checkBuiltinCall "BaseException.__getattribute__" ⟨[.ref a,nameV],[]⟩) Q E ⟨h,g,d,t,os⟩:=by
 have kd:builtinKind "BaseException.__getattribute__"=some .slot:=by decide +kernel
 have hs:splitId "BaseException.__getattribute__"=some ("BaseException","__getattribute__"):=by decide +kernel
 have m0:=I.type (M:=M)
 have m1:=looks_mroIn (M:=M) kX hb
 have ag:=F.args_bexc_ga (.ref a) nameV
 simp only [checkBuiltinCall,hs,kd]
 refine wpAny_bind ?_
 unfold isInstance
 repeat (first|with_reducible refine m0.at ?_|with_reducible refine m1.at ?_|wp_step)
 exact hq
theorem Br {tk:Tok} {Q:Fin->Shared->Prop} (kX:K.In h) (I:W.InstAt h a oe C od) (e2:findIn K (.ref C) "__class__"=some (some (.builtin "object.__class__"))) (hm:mroIn K C (.type "object")=some true) (hq:Q (.done (.ret (.ref C))) ⟨h,g,d,t,os⟩) :
  wpAny (model prog w) A (Builtin.«object.__getattribute__» ⟨[.ref a,.str "__class__" tk],[]⟩) Q E ⟨h,g,d,t,os⟩:=by
 have tc:Shared.TypeIs ⟨h,g,d,t,os⟩ (.builtin "object.__class__") "getset_descriptor":=F.typeOf_object_class
 have m0:=I.type (M:=model prog w)
 have m1:=looks_findIn (M:=model prog w) kX e2
 have p5:=F.typeOf_object_class
 have p6:=F.slot_gs_get.lookup
 have p7:=F.slot_gs_set.lookup
 repeat (any_goals (first|assumption|with_reducible refine m0.at ?_|with_reducible refine m1.at ?_|wp_step))
 refine W.class_get (s:=⟨h,g,d,t,os⟩) kX I hm ?_
 repeat (any_goals (first|wp_step|assumption))
theorem Cq {Q:Option Value->Shared->Prop} (FB:ExcAttrBase B bmB) (kX:K.In h) (I:W.InstAt h a oe C od) (e1:findIn K (.ref C) "__getattribute__"=some (some (.builtin "BaseException.__getattribute__"))) (e2:findIn K (.ref C) "__class__"=some (some (.builtin "object.__class__"))) (e3:findIn K (.ref C) "__getattr__"=some none)
  (hb:mroIn K C (.type "BaseException")=some true) (hm:mroIn K C (.type "object")=some true) (hq:Q (some (.ref C)) ⟨h,g,d,t+1,os⟩):wpAny (model prog w) A (getAttr? (.ref a) "__class__") Q E ⟨h,g,d,t,os⟩:=by
 unfold getAttr? getAttrBy?
 refine wpAny_bind (wpAny_mkText (wpAny_bind (wpAny_attempt (xcls_by FB kX I e1 e3 (fun R hR=>codeAny_call_builtin FB.ga.plain F.entry_bexc_ga (Bs kX I hb (Br kX I e2 hm hR))) ?_))))
 exact wpAny_pure hq
structure XIsi (K:Frag) (C:Addr):Prop where
 ga:findIn K (.ref C) "__getattribute__"=some (some (.builtin "BaseException.__getattribute__"))
 cl:findIn K (.ref C) "__class__"=some (some (.builtin "object.__class__"))
 gt:findIn K (.ref C) "__getattr__"=some none
 bs:mroIn K C (.type "BaseException")=some true
 ob:mroIn K C (.type "object")=some true
 is:∃cd,clsIn K C=some cd
theorem uq (FB:ExcAttrBase B bmB) (Z:XIsi K C):KitX K (.ref a) (.ref C) (fun h=>W.InstAt h a oe C od) where
 ty:=fun _ _ _ I=>I.type
 it:=fun _ _ X _=>by
  obtain ⟨cd,hc⟩:=Z.is
  unfold clsIn at hc
  split at hc
  ·next ho=>
   intro A' Q' E' s' k q
   unfold isType loadHead
   refine wpAny_bind (wpAny_loadPart (k C _ (X C _ ho)) ?_)
   exact wpAny_pure q
  ·cases hc
 ne:=fun hh tq d1 is n1 s1 X htp=>by
  obtain ⟨cd,hc⟩:=Z.is
  refine Bool.eq_false_iff.mpr (fun q=>?_)
  have e:C=tq:=Value.ref.inj (beq_iff_eq.mp q)
  subst e
  unfold clsIn at hc
  split at hc
  ·next ho=>
   cases (X C _ ho).symm.trans htp
  ·cases hc
 ca:=fun {_ _ _ _ _ s} X I k=>by
  obtain ⟨h,g,d,t,os⟩:=s
  exact Cq FB X I Z.ga Z.cl Z.gt Z.bs Z.ob k
end
theorem wM:∀{ys:List Addr} {its:List Value},Vals (ys.map V.ref) its->its=ys.map Value.ref
 |[],_,.nil=>rfl
 |y::ys,_,.cons r rs=>by rw [wM rs,show _=Value.ref y from r];rfl
section
variable {X:Cx} {C a:Addr} {oe:Obj} {B:String} {bmB:List Value}
theorem Bi (FB:ExcAttrBase B bmB) (Z:XIsi X.K C) (hc:oe.cls=.ref C) (hd:∃vs,oe.data=.fields vs) (hn:oe.dict=none):eA (X.hand a oe) (.builtin "isinstance") (fun xs H Q=>∃v b,xs=[.ref a,v] /\
  ((∃c,RelV v c/\(∀u,RelV v u->u=c)/\kitOne X.K (.ref C) c=some b)\/∃(tp:Addr) (ys:List Addr),v=.ref tp/\H tp=some (.tup (ys.map V.ref))/\kitAny X.K (.ref C) (ys.map Value.ref)=some b)/\Q (.bl b) H):=by
 intro pins s σ H xs us Q I r h
 obtain ⟨v,b,rfl,h1,q⟩:=h
 obtain ⟨u,w,rfl,ru,rw'⟩:=r.two
 cases (show u=Value.ref a from ru)
 have pa:=(I.pin (a,oe) (List.mem_cons_self ..)).1
 obtain ⟨vs,hdt⟩:=hd
 have J:PySem.W.InstAt s.heap a oe C none:=⟨pa,hc,by unfold PySem.W.notCls;rw [hdt],by rw [hn];trivial⟩
 rcases h1 with ⟨c,rc,uniq,e⟩|⟨tp,ys,rfl,ht,e⟩
 ·cases uniq w rw'
  exact kia_one (uq FB Z) I.kIn J e (fun z=>nomatch z) fun tk=>⟨.bl b,H,I.tok tk,rfl,q⟩
 ·cases (show w=Value.ref tp from rw')
  obtain ⟨_,its,rv,ob,z1,z2⟩:=(show jQ X.prog X.w H s.heap tp (.tup (ys.map V.ref)) from I.hok tp _ ht)
  obtain ⟨z3,n,z4⟩:=z2
  have ei:its=ys.map Value.ref:=wM rv
  subst ei
  obtain ⟨oc,odd,odt,osl⟩:=ob
  have z5:oc=Value.type "tuple":=z3
  have z6:odt=.seq (ys.map Value.ref).toArray n:=z4
  subst z5 z6
  exact PySem.W.kia_tup (uq FB Z) I.kIn J z1 e (fun z=>nomatch z) fun tk=>⟨.bl b,H,I.tok tk,rfl,q⟩
end
end L2
namespace L2
open PySem PySem.Spec PyProof.Rows
noncomputable def tIsiX (i:Nat) (a:Addr) (b:Bool):TE:=fun σ H Q=>σ[i]? =some (some (.ref a))/\Q (.bl b) H
noncomputable def tIsiT (i:Nat) (a:Addr) (ys:List Addr) (b:Bool):TE:=fun σ H Q=>σ[i]? =some (some (.ref a))/\∀p,H p=none->Q (.bl b) (upd H p (.tup (ys.map V.ref)))
section
variable {X:Cx} {C a D:Addr} {oe:Obj} {B:String} {bmB:List Value} {i:Nat} {n x y T:Str} {p p1 p2 pos:Pos} {b:Bool}
theorem pe_isiO (FB:ExcAttrBase B bmB) (Z:XIsi X.K C) (hc:oe.cls=.ref C) (hd:∃vs,oe.data=.fields vs) (hn:oe.dict=none) (hm:X.mg "isinstance"=none) (hD:X.mg y=some (.ref D)) (hb:kitOne X.K (.ref C) (.ref D)=some b)
  (hN:X.N[i]? =some n:=by rfl) (hv:Vis X.env.scope n:=by first|exact Or.inl rfl|exact Or.inr (Or.inl rfl)|exact Or.inr (Or.inr rfl)) (hd1:(n==("__debug__":Str))=false:=by decide) (hd2:(n==("__classdict__":Str))=false:=by decide)
  (hg:Gl (X.hand a oe) "isinstance":=by rfl) (hgD:Gl (X.hand a oe) y:=by rfl) (hd3:(y==("__debug__":Str))=false:=by decide)
  (hst:starEach [.Name n p1,.Name y p2] X.env=[(false,eval (.Name n p1) X.env),(false,eval (.Name y p2) X.env)]:=by rfl) (hst2:starEach [.Name y p2] X.env=[(false,eval (.Name y p2) X.env)]:=by rfl) (hpl:(backTo pos (starEach [.Name y p2] X.env)).any (·.1)=false:=by rfl) :
  PE (X.hand a oe) (.Call (.Name "isinstance" p) [.Name n p1,.Name y p2] [] pos) (tIsiX i a b):=by
 have vD:PE (X.hand a oe) (.Name y p2) (tC (.ref D)):=fun pins s σ H Q I h=>sR I hgD hD ⟨.ref D,H,I,rfl,h⟩ hd3
 refine PE.imp (hV (X:=X.hand a oe) (Bi FB Z hc hd hn) hg hm boot_isinstance (bc (pv i hN hv hd1 hd2) (bc vD fE hst2) (by rw [hst,hst2])) (by decide) (by decide) (by rw [hst,hst2]) hpl) fun σ H Q h=>?_
 obtain ⟨e1,q⟩:=h
 exact ⟨.ref a,e1,.ref D,b,rfl,.inl ⟨.ref D,rfl,fun u hu=>hu,hb⟩,q⟩
end
noncomputable def tRefs (ys:List Addr):TA:=fun _ H Q=>Q (ys.map V.ref) H
section
variable {X:Cx} {C a D:Addr} {oe:Obj} {B:String} {bmB:List Value} {i:Nat} {n x y:Str} {T:String} {p p1 p2 pos:Pos} {b:Bool} {ys:List Addr} {es:List Expr}
theorem pe_isiB (FB:ExcAttrBase B bmB) (Z:XIsi X.K C) (hc:oe.cls=.ref C) (hd:∃vs,oe.data=.fields vs) (hn:oe.dict=none) (hm:X.mg "isinstance"=none) (hmT:X.mg y=none) (hvT:bootBuiltins y=some (.type T)) (hb:kitOne X.K (.ref C) (.type T)=some b)
  (hN:X.N[i]? =some n:=by rfl) (hv:Vis X.env.scope n:=by first|exact Or.inl rfl|exact Or.inr (Or.inl rfl)|exact Or.inr (Or.inr rfl)) (hd1:(n==("__debug__":Str))=false:=by decide) (hd2:(n==("__classdict__":Str))=false:=by decide)
  (hg:Gl (X.hand a oe) "isinstance":=by rfl) (hgT:Gl (X.hand a oe) y:=by rfl) (hy:y≠"__name__":=by decide) (hd3:(y==("__debug__":Str))=false:=by decide)
  (hst:starEach [.Name n p1,.Name y p2] X.env=[(false,eval (.Name n p1) X.env),(false,eval (.Name y p2) X.env)]:=by rfl) (hst2:starEach [.Name y p2] X.env=[(false,eval (.Name y p2) X.env)]:=by rfl) (hpl:(backTo pos (starEach [.Name y p2] X.env)).any (·.1)=false:=by rfl) :
  PE (X.hand a oe) (.Call (.Name "isinstance" p) [.Name n p1,.Name y p2] [] pos) (tIsiX i a b):=by
 refine PE.imp (hV (X:=X.hand a oe) (Bi FB Z hc hd hn) hg hm boot_isinstance (bc (pv i hN hv hd1 hd2) (bc (D0 (X:=X.hand a oe) (pos:=p2) hgT hmT hvT hy hd3) fE hst2) (by rw [hst,hst2])) (by decide) (by decide) (by rw [hst,hst2]) hpl) fun σ H Q h=>?_
 obtain ⟨e1,q⟩:=h
 exact ⟨.ref a,e1,.ty T,b,rfl,.inl ⟨.type T,rfl,fun u hu=>hu,hb⟩,q⟩
theorem pe_isiT {j} (FB:ExcAttrBase B bmB) (Z:XIsi X.K C) (hc:oe.cls=.ref C) (hd:∃vs,oe.data=.fields vs) (hn:oe.dict=none) (hm:X.mg "isinstance"=none) (hT:PA (X.hand a oe) es (tRefs ys)) (hl:ys.length<=sizeLine) (hb:kitAny X.K (.ref C) (ys.map Value.ref)=some b)
  (hN:X.N[i]? =some n:=by rfl) (hv:Vis X.env.scope n:=by first|exact Or.inl rfl|exact Or.inr (Or.inl rfl)|exact Or.inr (Or.inr rfl)) (hd1:(n==("__debug__":Str))=false:=by decide) (hd2:(n==("__classdict__":Str))=false:=by decide)
  (hg:Gl (X.hand a oe) "isinstance":=by rfl)
  (hst:starEach [.Name n p1,.Tuple es j p2] X.env=[(false,eval (.Name n p1) X.env),(false,eval (.Tuple es j p2) X.env)]:=by rfl) (hst2:starEach [.Tuple es j p2] X.env=[(false,eval (.Tuple es j p2) X.env)]:=by rfl) (hpl:(backTo pos (starEach [.Tuple es j p2] X.env)).any (·.1)=false:=by rfl) :
  PE (X.hand a oe) (.Call (.Name "isinstance" p) [.Name n p1,.Tuple es j p2] [] pos) (tIsiT i a ys b):=by
 refine PE.imp (hV (X:=X.hand a oe) (Bi FB Z hc hd hn) hg hm boot_isinstance (bc (pv i hN hv hd1 hd2) (bc (D1 hT) fE hst2) (by rw [hst,hst2])) (by decide) (by decide) (by rw [hst,hst2]) hpl) fun σ H Q h=>?_
 obtain ⟨e1,q⟩:=h
 exact ⟨.ref a,e1,by rw [List.length_map];exact hl,fun tp htp=>⟨.ref tp,b,rfl,.inr ⟨tp,ys,rfl,aP,hb⟩,q tp htp⟩⟩
end
end L2
namespace L2
open PySem PySem.Spec PyProof.Rows
end L2
namespace L2
open PySem PySem.Spec PyProof.Rows
end L2
namespace L2
open PySem PySem.Spec PyProof.Rows
theorem Rep.back {K:PySem.W.Frag} {F0 H0 F1 H1 FB F H:Hp} {O:List Nat} {σ:St} {ρ:ao} (r:Rep K F1 H1 FB O F H σ ρ) (s:Step F0 H0 F1 H1):Rep K F0 H0 FB O F H σ ρ:=
 ⟨s.trans r.st,r.fb,r.len,r.fz,fun i d e h=>let ⟨v,z,q⟩:=r.ow i d e h;⟨v,z,q.back s.hh⟩,r.ap⟩
end L2
namespace L2
open PySem PySem.Spec PyProof.Rows
noncomputable def excIn2 (K:PySem.W.Frag) (C:Addr) (bmB:List Value) (newId:String) (f:Addr):Bool:=match K.lookup C with
 |some ⟨.type "type",_,.cls cd,sl⟩=>
   (match cd.mro,sl.toList with
  |.ref C'::tl,[_,_,_,_,some (.builtin n),_]=>(n==newId&&C'==C&& !cd.hasDel)&&(PySem.W.nsOkIn K cd.ns&&PySem.W.tailIn K bmB tl)&&(nsIn K cd.ns "__init__"==some (some (.ref f)))
  |_,_=>false)
 |_=>false
end L2
namespace L2
open PySem PySem.Spec PyProof.Rows
noncomputable def veTail:List Value->Bool
 |.ref _::r=>veTail r
 |[.type a,.type b,.type c,.type d]=>a=="ValueError"&&b=="Exception"&&c=="BaseException"&&d=="object"
 |_=>false
structure XFld (K:PySem.W.Frag) (C:Addr) (f:Str):Prop where
 sa:PySem.W.findIn K (.ref C) "__setattr__"
   =some (some (.builtin "object.__setattr__"))
 no:PySem.W.findIn K (.ref C) f=some none
 cd:((PySem.W.clsIn K C).any fun cd=>veTail cd.mro&&cd.hasDict)=true
section
open PySem.W
variable {prog:Program} {w:World} {A:Around} {E:Value->Shared->Prop} {s:Shared} {a C:Addr} {oe:Obj} {od:Option Obj} {K:Frag} {f:Str} {v:Value}
end
end L2
namespace L2
open PySem PySem.Spec PyProof.Rows
section
open PySem.W
variable {prog:Program} {w:World} {A:Around} {E:Value->Shared->Prop} {s:Shared} {a C:Addr} {oe od:Obj} {K:Frag} {f:Str} {v:Value} {B:String} {bmB:List Value}
end
end L2
namespace L2
open PySem PySem.Spec PyProof.Rows
end L2
namespace L2
open PySem PySem.Spec PyProof.Rows
end L2
namespace L2
open PySem PySem.Spec PyProof.Rows
structure XMk (K:PySem.W.Frag) (mg:Str->Option Value) (x:Str) (C f:Addr):Prop where
 mg:mg x=some (.ref C)
 ex:excIn2 K C [.type "ValueError",.type "Exception",.type "BaseException",.type "object"] "ValueError.__new__" f=true
 fn:typeIn K (.ref f)=some (.type "function")
 kp:keepIn K (.ref C)
   =true
structure XTry (K:PySem.W.Frag) (mg:Str->Option Value) (x:Str) (C:Addr):Prop where
 mg:mg x=some (.ref C)
 nm:XNamed K C [.type "ValueError",.type "Exception",.type "BaseException",.type "object"]
 isi:XIsi K C
end L2
namespace L2
open PySem PySem.Spec PyProof.Rows
noncomputable def vv (xs:List Int) (k:Int):Option Nat:=xs.findIdx? (·==k)
noncomputable def tQ:Dat->Dat->M Dat
 |.lst ds,.int k=>(dq ds).bind fun xs=>match vv xs k with
  |some j=>.ok (.int j)
  |none=>stk
 |_,_=>stk
@[simp] theorem e_index (ds:List Dat) (k:Int):tQ (.lst ds) (.int k)=(dq ds).bind fun xs=>match vv xs k with
  |some j=>.ok (.int j)
  |none=>stk:=id rfl
noncomputable def rO (fo fe:ao->M Dat):ao->M Dat:=fun ρ=>(fo ρ).bind fun a=>if isL a=true then (fe ρ).bind fun b=>tQ a b else stk
@[simp] theorem e_fIndex (fo fe:ao->M Dat) (ρ:ao):rO fo fe ρ=(fo ρ).bind fun a=>if isL a=true then (fe ρ).bind fun b=>tQ a b else stk:=id rfl
noncomputable def rIndex (K:PySem.W.Frag):V->List V->Hp->VK->Prop:=fun x vs H Q=>∃l is k j,x=.ref l/\vs=[.int k]/\SqL K H l (is.map V.int)/\vv is k=some j/\Q (.int j) H
noncomputable def isK (k:Int):Value->Bool
 |.int i _=>i==k
 |_=>false
section
variable {X:Cx} {K:PySem.W.Frag} {W:iV}
theorem vO:∀{is:List Int} {us:List Value},Vals (is.map V.int) us->∀(m:Nat) (i:Int),is[m]? =some i->∃t,us[m]? =some (.int i t)
 |[],_,_,m,i,h=>by simp at h
 |a::is,_,.cons r rs,0,i,h=>by
  obtain ⟨t,e⟩:=(show ∃t,_=Value.int a t from r)
  simp at h
  subst h e
  exact ⟨t,rfl⟩
 |a::is,_,.cons r rs,m+1,i,h=>by simpa using vO rs m i (by simpa using h)
theorem mt_index (hu:X.A.units+64<cLine):MtR X "list.index" (rIndex X.K):=by
 intro pins s σ H x vs v us Q I rx rv h;obtain ⟨l,is,k,j,rfl,rfl,hS,hj,q⟩:=h
 cases rx
 obtain ⟨u,rfl,ru⟩:=rv.one
 obtain ⟨its,r,pl,hz⟩:=I.list hS
 obtain ⟨o,n,e,hcls,hdict,hdata⟩:=id pl
 obtain ⟨t,rfl⟩:=(show ∃t,u=Value.int k t from ru)
 obtain ⟨hjl,hit,hno⟩:=List.findIdx?_eq_some_iff_getElem.mp hj
 have hlen:is.length=its.length:=by rw [<- r.length,List.length_map]
 have at':∀m (hm:m<its.length),∃t,its[m]=.int (is[m]'(by omega)) t:=fun m hm=>by
  obtain ⟨t,ht⟩:=vO r m (is[m]'(by omega)) (List.getElem?_eq_getElem _)
  rw [List.getElem?_eq_getElem hm] at ht
  exact ⟨t,Option.some.inj ht⟩
 obtain ⟨oc,odd,odt,osl⟩:=o
 have hsz:=sizeLine_eq
 refine call_meets PySem.F.slot_list_index ⟨_,e,hcls⟩ PySem.F.entry_list_index (PySem.F.args_list_index_2 _ _) (SeqAt.list_indexAt l its.toArray n odd osl (.int k t) (isK k) j (by rw [List.size_toArray];omega) (by have:=hz;rw [List.length_map] at this;omega) ?_ ?_) ⟨?_,fun y hy=>?_,?_⟩
 ·obtain ⟨t',e'⟩:=at' j (by omega)
  rw [List.getElem_toArray,e']
  exact hit
 ·intro m hm hmj
  rw [List.size_toArray] at hm
  obtain ⟨t',e'⟩:=at' m hm
  rw [List.getElem_toArray,e']
  have:=hno m hmj
  simpa [isK] using this
 ·rw [e]
  cases (show oc=.type "list" from hcls)
  cases (show odt=.seq its.toArray n from hdata)
  rfl
 ·have hm:y∈its:=by simpa using hy
  obtain ⟨m,hml,rfl⟩:=List.getElem_of_mem hm
  obtain ⟨t',e'⟩:=at' m hml
  rw [e']
  have z:=DX (F:=H) (x:=.int (is[m]'(by omega))) (y:=.int k) (A:=X.A.in1) I (bp.refl H) (.int (is[m]'(by omega))) (.int k) (by simp [okE]) (by simp [okE]) rfl rfl ⟨t',rfl⟩ ⟨t,rfl⟩ (by show X.A.units+1+40<cLine;omega)
  have e2:eqD (.int (is[m]'(by omega))) (.int k)=isK k (.int (is[m]'(by omega)) t'):=by
   simp [eqD,isK]
  rw [e2] at z
  exact z
 ·exact ⟨.int j,H,I.tok _,⟨_,rfl⟩,q⟩
variable {o e:Expr} {fo fe:ao->M Dat} {apos cpos:Pos}
theorem xA (hu:X.A.units+64<cLine) (ho:DE K W false X o fo) (he:DE K W false X e fe) (hK:X.K=K:=by rfl) (hbase:attributeBase o "index" X.env (eval o X.env)=eval o X.env:=by rfl)
  (hfew:((backTo cpos (starEach [e] X.env)).all (fun x=> !x.1)&&(backToKw cpos (keywordEach [] X.env)).all (fun x=>x.1.isSome)
   &&decide ([e].length+([]:List Keyword).length+(if ([]:List Keyword).isEmpty then 0 else 1)<30))=true:=by rfl)
  (hline:(apos.endLine==cpos.line)=true:=by rfl) (hs:starEach [e] X.env=(false,eval e X.env)::starEach [] X.env:=by rfl) (hplain:(backTo cpos (starEach [] X.env)).any (·.1)=false:=by rfl) :
  DE K W false X (.Call (.Attribute o "index" apos) [e] [] cpos) (rO fo fe):=by
 subst hK
 refine PE.imp (pe_bm PySem.F.plainAttrs_list PySem.F.slot_list_index PySem.F.type_list_index (mt_index hu) ho (bc he fE (by rw [hs])) hbase hfew hline hs hplain) fun σ H Q h=>?_
 obtain ⟨F,ρ,r,s,p⟩:=h
 refine bx r s (fun e he=>p.err (by unfold rO;rw [he];rfl)) fun a ha x F1 H1 s1 q1=>?_
 have ez:rO fo fe ρ=if isL a=true then (fe ρ).bind fun b=>tQ a b else stk:=by unfold rO;rw [ha];rfl
 rw [ez] at p
 have p:=p.step s1
 cases a with
 |lst ds=>
  have p:aN X.K W false F1 H1 ((fe ρ).bind fun b=>tQ (.lst ds) b) Q:=p
  obtain ⟨l,xs,ex,t,z⟩:=id q1
  subst ex
  refine ⟨.inl ⟨rfl,_,s1.fh.lst t⟩,?_⟩
  refine bx (r.mono s1.ff) s1.fh (fun e he=>p.err (by rw [he];rfl)) fun b hb y F2 H2 s2 q2=>?_
  rw [hb] at p
  have p:aN X.K W false F1 H1 (tQ (.lst ds) b) Q:=p
  have p:=p.step s2
  cases b with
  |int k=>
   have p:aN X.K W false F2 H2 ((dq ds).bind fun xs=>match vv xs k with
    |some j=>.ok (.int j)
    |none=>stk) Q:=p
   cases hi:dq ds with
   |error e=>rw [hi] at p;rw [mU hi] at p;exact aN.stuck p
   |ok is=>
    rw [hi] at p
    have p:aN X.K W false F2 H2 (match vv is k with
     |some j=>.ok (.int j)
     |none=>stk) Q:=p
    have hx:=kE z hi
    subst hx
    cases hj:vv is k with
    |none=>rw [hj] at p;exact aN.stuck p
    |some j=>
     rw [hj] at p
     cases (show y=V.int k from q2)
     exact ⟨l,is,k,j,rfl,rfl,s2.fh.lst (s2.ff.lst t),hj,p (.int j) F2 H2 (Step.refl s2.fh) rfl⟩
  |_=>exact aN.stuck p
 |_=>exact aN.stuck p
end
end L2
namespace L2
open PySem PySem.Spec PyProof.Rows
noncomputable def B1:Dat->M Dat
 |.str _=>.ok (.bl true)
 |.ins _ _=>stk
 |_=>.ok (.bl false)
section
variable {X:Cx} {K:PySem.W.Frag} {W:iV} {own:Bool} {a:Expr} {fa:ao->M Dat} {pos p p2:Pos}
theorem El (kit:Kit K) (hK:X.K=K:=by rfl):eA X (.builtin "isinstance") (fun xs H Q=>∃v,xs=[v,.ty "str"]/\rD1 K W own B1 v H Q):=by
 subst hK
 intro pins s σ H xs us Q I r h;obtain ⟨v,rfl,F,d,s1,q,p⟩:=h
 obtain ⟨u,w,rfl,ru,rw'⟩:=r.two
 cases (show w=Value.type "str" from rw')
 by_cases hi:∃C fs,d=.ins C fs
 ·obtain ⟨C,fs,rfl⟩:=hi
  exact aN.stuck p
 ·refine Dx I s1 q ru kit.pb kit.mN kit.mJ kit.kn kit.p8 kit.fQ (fun k tk hk=>⟨.bl k,H,I.tok tk,rfl,?_⟩) (fun C fs e=>hi ⟨C,fs,e⟩)
  cases d<;>first|(have hk':k=_:=hk;subst hk';exact aN.bl (own:=own) p s1)|exact absurd ⟨_,_,rfl⟩ hi
theorem de_isi_str (kit:Kit K) (hm:X.mg "isinstance"=none) (hmT:X.mg "str"=none) (ha:DE K W false X a fa) (hK:X.K=K:=by rfl)
  (hg:Gl X "isinstance":=by rfl) (hgT:Gl X "str":=by rfl)
  (hst:starEach [a,.Name "str" p2] X.env=[(false,eval a X.env),(false,eval (.Name "str" p2) X.env)]:=by rfl) (hst2:starEach [.Name "str" p2] X.env=[(false,eval (.Name "str" p2) X.env)]:=by rfl) (hpl:(backTo pos (starEach [.Name "str" p2] X.env)).any (·.1)=false:=by rfl) :
  DE K W own X (.Call (.Name "isinstance" p) [a,.Name "str" p2] [] pos) (f1 B1 fa):=yY (El kit hK) hm hmT (by decide +kernel) ha hg hgT (by decide) (by decide) hst hst2 hpl
end
end L2
namespace L2
open PySem PySem.Spec PyProof.Rows
noncomputable def rIsi (K:PySem.W.Frag) (C a:Addr) (R:Hp->Prop):List V->Hp->VK->Prop:=fun xs H Q=>R H/\∃v b,xs=[.ref a,v] /\
  ((∃c,RelV v c/\(∀u,RelV v u->u=c)/\kitOne K (.ref C) c=some b)\/∃(tp:Addr) (ys:List Addr),v=.ref tp/\H tp=some (.tup (ys.map V.ref))/\kitAny K (.ref C) (ys.map Value.ref)=some b)/\Q (.bl b) H
noncomputable def XDk (d:Addr):Hp->Prop:=fun H=>∃gs,H d=some (.xd gs)
noncomputable def tIsiR (i:Nat) (a:Addr) (R:Hp->Prop) (b:Bool):TE:=fun σ H Q=>σ[i]? =some (some (.ref a))/\R H/\Q (.bl b) H
noncomputable def tIsiTR (i:Nat) (a:Addr) (R:Hp->Prop) (ys:List Addr) (b:Bool):TE:=fun σ H Q=>σ[i]? =some (some (.ref a))/\∀p,H p=none->R (upd H p (.tup (ys.map V.ref)))/\Q (.bl b) (upd H p (.tup (ys.map V.ref)))
section
variable {X:Cx} {C a d D:Addr} {oe:Obj} {B:String} {bmB:List Value} {R:Hp->Prop}
theorem c_isiD (FB:ExcAttrBase B bmB) (Z:XIsi X.K C) (hc:oe.cls=.ref C) (hd:∃vs,oe.data=.fields vs) (hx:oe.dict=some d):eA (X.hand a oe) (.builtin "isinstance") (rIsi X.K C a (XDk d)):=by
 intro pins s σ H xs us Q I r h;obtain ⟨⟨gs,hg⟩,v,b,rfl,h1,q⟩:=h
 obtain ⟨u,w,rfl,ru,rw'⟩:=r.two
 cases (show u=Value.ref a from ru)
 have pa:=(I.pin (a,oe) (List.mem_cons_self ..)).1
 obtain ⟨vs,hdt⟩:=hd
 obtain ⟨mA,⟨od,es,ep,ho,hrest⟩,_⟩:=(show jQ X.prog X.w H s.heap d (.xd gs) from I.hok d _ hg)
 have J:PySem.W.InstAt s.heap a oe C (some od):=⟨pa,hc,by unfold PySem.W.notCls;rw [hdt],by rw [hx];exact ho⟩
 rcases h1 with ⟨c,rc,uniq,e⟩|⟨tp,ys,rfl,ht,e⟩
 ·cases uniq w rw'
  exact kia_one (uq FB Z) I.kIn J e (fun z=>nomatch z) fun tk=>⟨.bl b,H,I.tok tk,rfl,q⟩
 ·cases (show w=Value.ref tp from rw')
  obtain ⟨_,its,rv,ob,z1,z2⟩:=(show jQ X.prog X.w H s.heap tp (.tup (ys.map V.ref)) from I.hok tp _ ht)
  obtain ⟨z3,n,z4⟩:=z2
  have ei:its=ys.map Value.ref:=wM rv
  subst ei
  obtain ⟨oc,odd,odt,osl⟩:=ob
  have z5:oc=Value.type "tuple":=z3
  have z6:odt=.seq (ys.map Value.ref).toArray n:=z4
  subst z5 z6
  exact PySem.W.kia_tup (uq FB Z) I.kIn J z1 e (fun z=>nomatch z) fun tk=>⟨.bl b,H,I.tok tk,rfl,q⟩
end
section
variable {X:Cx} {C a D:Addr} {oe:Obj} {R:Hp->Prop} {i:Nat} {n y:Str} {T:String} {p p1 p2 pos:Pos} {b:Bool} {ys:List Addr} {es:List Expr}
theorem pe_isO (hcr:eA (X.hand a oe) (.builtin "isinstance") (rIsi X.K C a R)) (hm:X.mg "isinstance"=none) (hD:X.mg y=some (.ref D)) (hb:kitOne X.K (.ref C) (.ref D)=some b)
  (hN:X.N[i]? =some n:=by rfl) (hv:Vis X.env.scope n:=by first|exact Or.inl rfl|exact Or.inr (Or.inl rfl)|exact Or.inr (Or.inr rfl)) (hd1:(n==("__debug__":Str))=false:=by decide) (hd2:(n==("__classdict__":Str))=false:=by decide)
  (hg:Gl (X.hand a oe) "isinstance":=by rfl) (hgD:Gl (X.hand a oe) y:=by rfl) (hd3:(y==("__debug__":Str))=false:=by decide)
  (hst:starEach [.Name n p1,.Name y p2] X.env=[(false,eval (.Name n p1) X.env),(false,eval (.Name y p2) X.env)]:=by rfl) (hst2:starEach [.Name y p2] X.env=[(false,eval (.Name y p2) X.env)]:=by rfl) (hpl:(backTo pos (starEach [.Name y p2] X.env)).any (·.1)=false:=by rfl) :
  PE (X.hand a oe) (.Call (.Name "isinstance" p) [.Name n p1,.Name y p2] [] pos) (tIsiR i a R b):=by
 have vD:PE (X.hand a oe) (.Name y p2) (tC (.ref D)):=fun pins s σ H Q I h=>sR I hgD hD ⟨.ref D,H,I,rfl,h⟩ hd3
 refine PE.imp (hV (X:=X.hand a oe) hcr hg hm boot_isinstance (bc (pv i hN hv hd1 hd2) (bc vD fE hst2) (by rw [hst,hst2])) (by decide) (by decide) (by rw [hst,hst2]) hpl) fun σ H Q h=>?_
 obtain ⟨e1,hR,q⟩:=h
 exact ⟨.ref a,e1,hR,.ref D,b,rfl,.inl ⟨.ref D,rfl,fun u hu=>hu,hb⟩,q⟩
theorem pe_isB (hcr:eA (X.hand a oe) (.builtin "isinstance") (rIsi X.K C a R)) (hm:X.mg "isinstance"=none) (hmT:X.mg y=none) (hvT:bootBuiltins y=some (.type T)) (hb:kitOne X.K (.ref C) (.type T)=some b)
  (hN:X.N[i]? =some n:=by rfl) (hv:Vis X.env.scope n:=by first|exact Or.inl rfl|exact Or.inr (Or.inl rfl)|exact Or.inr (Or.inr rfl)) (hd1:(n==("__debug__":Str))=false:=by decide) (hd2:(n==("__classdict__":Str))=false:=by decide)
  (hg:Gl (X.hand a oe) "isinstance":=by rfl) (hgT:Gl (X.hand a oe) y:=by rfl) (hy:y≠"__name__":=by decide) (hd3:(y==("__debug__":Str))=false:=by decide)
  (hst:starEach [.Name n p1,.Name y p2] X.env=[(false,eval (.Name n p1) X.env),(false,eval (.Name y p2) X.env)]:=by rfl) (hst2:starEach [.Name y p2] X.env=[(false,eval (.Name y p2) X.env)]:=by rfl) (hpl:(backTo pos (starEach [.Name y p2] X.env)).any (·.1)=false:=by rfl) :
  PE (X.hand a oe) (.Call (.Name "isinstance" p) [.Name n p1,.Name y p2] [] pos) (tIsiR i a R b):=by
 refine PE.imp (hV (X:=X.hand a oe) hcr hg hm boot_isinstance (bc (pv i hN hv hd1 hd2) (bc (D0 (X:=X.hand a oe) (pos:=p2) hgT hmT hvT hy hd3) fE hst2) (by rw [hst,hst2])) (by decide) (by decide) (by rw [hst,hst2]) hpl) fun σ H Q h=>?_
 obtain ⟨e1,hR,q⟩:=h
 exact ⟨.ref a,e1,hR,.ty T,b,rfl,.inl ⟨.type T,rfl,fun u hu=>hu,hb⟩,q⟩
theorem pe_isT {j} (hcr:eA (X.hand a oe) (.builtin "isinstance") (rIsi X.K C a R)) (hm:X.mg "isinstance"=none) (hT:PA (X.hand a oe) es (tRefs ys)) (hl:ys.length<=sizeLine) (hb:kitAny X.K (.ref C) (ys.map Value.ref)=some b)
  (hN:X.N[i]? =some n:=by rfl) (hv:Vis X.env.scope n:=by first|exact Or.inl rfl|exact Or.inr (Or.inl rfl)|exact Or.inr (Or.inr rfl)) (hd1:(n==("__debug__":Str))=false:=by decide) (hd2:(n==("__classdict__":Str))=false:=by decide)
  (hg:Gl (X.hand a oe) "isinstance":=by rfl)
  (hst:starEach [.Name n p1,.Tuple es j p2] X.env=[(false,eval (.Name n p1) X.env),(false,eval (.Tuple es j p2) X.env)]:=by rfl) (hst2:starEach [.Tuple es j p2] X.env=[(false,eval (.Tuple es j p2) X.env)]:=by rfl) (hpl:(backTo pos (starEach [.Tuple es j p2] X.env)).any (·.1)=false:=by rfl) :
  PE (X.hand a oe) (.Call (.Name "isinstance" p) [.Name n p1,.Tuple es j p2] [] pos) (tIsiTR i a R ys b):=by
 refine PE.imp (hV (X:=X.hand a oe) hcr hg hm boot_isinstance (bc (pv i hN hv hd1 hd2) (bc (D1 hT) fE hst2) (by rw [hst,hst2])) (by decide) (by decide) (by rw [hst,hst2]) hpl) fun σ H Q h=>?_
 obtain ⟨e1,q⟩:=h
 exact ⟨.ref a,e1,by rw [List.length_map];exact hl,fun tp htp=>⟨(q tp htp).1,.ref tp,b,rfl,.inr ⟨tp,ys,rfl,aP,hb⟩,(q tp htp).2⟩⟩
end
end L2
namespace L2
open PySem PySem.Spec PyProof.Rows
end L2
namespace L2
open PySem PySem.Spec PyProof.Rows
structure Yd (P:Program) (w:World) (K:PySem.W.Frag) (mg:Str->Option Value) (base:Heap) (CX:CXT) (k:Nat) (x:Str) (st:Stmt) (ps:List Str) (sp:Sp) (f:Addr) (fd:FuncData):Prop where
 d:Def K mg x st ps f fd
 o:cz P w K mg base CX k f fd ps sp
end L2
namespace L2
open PySem PySem.Spec PyProof.Rows
section
open PySem.W
variable {M:Model} {A:Around} {E:Value->Shared->Prop} {h:Heap} {g:Array GenState} {d:Drawn} {t:Nat} {os:OsState} {a C Cb:Addr} {oe:Obj} {K:Frag}
end
structure XUnder (K:PySem.W.Frag) (C Cb:Addr):Prop where
 sub:PySem.W.mroIn K C (.ref Cb)=some true
 isi:XIsi K C
structure XBase (K:PySem.W.Frag) (mg:Str->Option Value) (x:Str) (Cb:Addr):Prop where
 mg:mg x=some (.ref Cb)
 ty:typeIn K (.ref Cb)=some (.type "type")
 bs:PySem.W.mroIn K Cb (.type "BaseException")=some true
noncomputable def XR:Option Addr->Hp->Prop
 |none=>fun _=>True
 |some d=>XDk d
section
variable {X:Cx} {C a:Addr} {oe:Obj} {B:String} {bmB:List Value}
theorem c_isiA (FB:ExcAttrBase B bmB) (Z:XIsi X.K C) (hc:oe.cls=.ref C) (hd:∃vs,oe.data=.fields vs):eA (X.hand a oe) (.builtin "isinstance") (rIsi X.K C a (XR oe.dict)):=by
 cases hx:oe.dict with
 |none=>exact fun pins s σ H xs us Q I r h=>Bi FB Z hc hd hx pins s σ H xs us Q I r h.2
 |some d=>exact c_isiD FB Z hc hd hx
end
structure XTell (K:PySem.W.Frag) (C:Addr) (A1 A2 A3:Addr) (T:String) (ys:List Addr) (bs:List Bool):Prop where
 ex:∃b1 b2 b3 b4 b5,bs=[b1,b2,b3,b4,b5]/\kitOne K (.ref C) (.ref A1)=some b1/\kitOne K (.ref C) (.ref A2)=some b2/\kitOne K (.ref C) (.ref A3)=some b3/\kitOne K (.ref C) (.type T)=some b4/\kitAny K (.ref C) (ys.map Value.ref)=some b5
structure XTxt (K:PySem.W.Frag) (mg:Str->Option Value) (x:Str) (C:Addr):Prop where
 mg:mg x=some (.ref C)
 ex:PySem.W.excIn K C [.type "ValueError",.type "Exception",.type "BaseException",.type "object"] "ValueError.__new__"=true
end L2
namespace L2
open PySem PySem.Spec PyProof.Rows
section
open PySem.W
variable {M:Model} {A:Around} {E:Value->Shared->Prop} {h:Heap} {g:Array GenState} {d:Drawn} {t:Nat} {os:OsState} {a C Cb:Addr} {oe:Obj} {K:Frag}
end
structure XTwo (K:PySem.W.Frag) (mg:Str->Option Value) (c1 c2:Str) (C1 C2:Addr):Prop where
 b1:XBase K mg c1 C1
 b2:XBase K mg c2 C2
 isi:XIsi K C1
 s1:PySem.W.mroIn K C1 (.ref C1)=some true
 s2:PySem.W.mroIn K C2 (.ref C2)=some true
 no:PySem.W.mroIn K C2 (.ref C1)=some false
end L2
namespace L2
open PySem PySem.Spec PyProof.Rows
theorem BN:typeLookup (.type "list_reverseiterator") "__len__"=pure none:=by rw [typeLookup_type,builtinLookup_eq_fast];kernel_rfl
theorem lri_hint:typeLookup (.type "list_reverseiterator") "__length_hint__"=pure (some (.builtin "list_reverseiterator.__length_hint__")):=by rw [typeLookup_type,builtinLookup_eq_fast];kernel_rfl
theorem lri_self:isSubtype (.type "list_reverseiterator") (.type "list_reverseiterator")=pure true:=by rw [isSubtype_type];kernel_rfl
theorem boot_reversed:bootBuiltins "reversed"=some (.type "reversed"):=by decide +kernel
section
variable {P:Program} {w:World} {A:Around} {E:Value->Shared->Prop} {Q:Value->Shared->Prop} {s:Shared} {R l:Addr} {items:Array Value}
theorem xH (hh:A.handled=none) (it:s.heap.IsRevIter R l ((items.size:Int)-1)) (hl:s.heap.IsList l items) (hne:l≠R) (hn:items.size<=sizeLine)
  (fin:∀h' tk acc c,(∀b o,b≠R->s.heap.get? b=some o->h'.get? b=some o)->h'.get? s.heap.objs.size=some {cls:=.type "list",dict:=none,data:=.seq acc c,slots:=#[]}->ItemsOf (fun i v=>items[items.size-1-i]? =some v) acc items.size->Q (.ref s.heap.objs.size) {s with heap:=h',toks:=tk}) :
  wpAny (model P w) A (call (.type "list") [.ref R]) Q E s:=by
 have lo:∀{b o},s.heap.get? b=some o->s.heap.objs.size≠b:=fun e z=>Nat.lt_irrefl _ (z▸Heap.lt_size e)
 have hR:s.heap.objs.size≠R:=it.elim fun _ t=>lo t.1
 have hL:s.heap.objs.size≠l:=hl.elim fun _ t=>lo t.1
 refine callType_codes (Q₁:=fun u s₁=>u=.ref s.heap.objs.size/\s₁={s with heap:=s.heap.push {cls:=.type "list",data:=.seq #[]}}) F.called_list (F.typeCall_list_1 _) F.entry_list_init (code_list_new _ ⟨rfl,rfl⟩) fun u s₁ h₁=>?_
 obtain ⟨rfl,rfl⟩:=h₁
 have e0:(s.heap.push {cls:=.type "list",data:=.seq #[]}).get? s.heap.objs.size=some {cls:=.type "list",data:=.seq #[]}:=Heap.get?_push_size _ rfl
 refine ⟨⟨_,e0,rfl⟩,F.args_list_init_2 _ _,?_⟩
 refine wpAny_bind (wpAny_bind (wpAny_seqItems e0 rfl (wpAny_pure ?_)))
 refine wpAny_bind (wpAny_updateSeq e0 rfl ?_)
 have e1:=Heap.get?_update_self (Obj.mapSeq fun _=>(#[]:Array Value)) e0 rfl
 have kp:∀b o,s.heap.get? b=some o->((s.heap.push {cls:=.type "list",data:=.seq #[]}).update s.heap.objs.size (Obj.mapSeq fun _=>(#[]:Array Value))).get? b=some o:=fun b o e=>(Heap.get?_update_other _ _ (lo e)).trans (Heap.get?_push_of_some _ e)
 have it1:=it.at (kp R)
 have hl1:=hl.at (kp l)
 have ty:Shared.TypeIs {s with heap:=(s.heap.push {cls:=.type "list",data:=.seq #[]}).update s.heap.objs.size (Obj.mapSeq fun _=>(#[]:Array Value))} (.ref R) "list_reverseiterator":=it1.typeIs
 have other:Builtin.List.listSameRef (.ref s.heap.objs.size) (.ref R)=false:=by simpa [Builtin.List.listSameRef] using hR
 refine wpAny_bind (wpAny_letGo (wpAny_bind (wpAny_typeOf ty ?_)))
 rw [other,if_neg (by decide)]
 refine wpAny_bind (wpAny_pyIter_revIter it1 (wpAny_bind (wpAny_holding ?_)))
 refine wpAny_bind (wpAny_specialOf ty BN (wpAny_bind (wpAny_specialOf (name:=Str.ofString "__length_hint__") ty lri_hint ?_)))
 wp_delta
 refine wpAny_bind (wpAny_isInstance (T:="list_reverseiterator") (b:=true) ty lri_self ?_)
 refine wpAny_pure ?_
 rw [if_neg (by decide)]
 refine wpAny_pure ⟨plainId_quiet F.plain_extend_loop _,codeAny_extend_loopS (Walks.listRev (A:=A.in1.in1) hh R l hne items).toS hn _ (by simp only [List.mem_cons,List.not_mem_nil,or_false,not_or];exact ⟨hR,hL⟩) _ items.size 0 _ _ _ rfl (Nat.zero_le _) ⟨Nat.zero_le _,by simpa using it1,hl1⟩ e1 (ItemsOf.nil _) fun s' acc' c' hm hS' hacc=>⟨rfl,?_⟩⟩
 rw [Moved.eq_with hm]
 refine fin s'.heap s'.toks acc' c' (fun b o hb e=>hm.heap b o (fun z=>?_) (kp b o e)) hS' hacc
 simp only [List.mem_cons,List.not_mem_nil,or_false] at z
 exact z.elim (fun z=>lo e z.symm) hb
end
theorem rev_vals {xs:List V} {its:List Value} {acc:Array Value} (r:Vals xs its) (h:ItemsOf (fun i v=>its.toArray[its.toArray.size-1-i]? =some v) acc its.toArray.size):Vals xs.reverse acc.toList:=by
 have hl:=r.length
 have e:acc.toList=its.reverse:=by
  refine List.ext_getElem? fun i=>?_
  by_cases hi:i<its.length
  ·have h2:i<acc.size:=by rw [h.1];simpa using hi
   have h3:=h.2 i acc[i] (by simp [h2])
   rw [List.getElem?_reverse hi]
   simp only [List.size_toArray,List.getElem?_toArray] at h3
   rw [h3]
   simp [h2]
  ·rw [List.getElem?_eq_none (by rw [Array.length_toList,h.1];simpa using hi),List.getElem?_eq_none (by rw [List.length_reverse];omega)]
 rw [e]
 clear e h hl
 induction r with
 |nil=>exact .nil
 |cons a b ih=>rw [List.reverse_cons,List.reverse_cons];exact ih.append (.cons a .nil)
section
variable {X:Cx} {K:PySem.W.Frag} {W:iV} {a:Expr} {pos p p1 pos1:Pos} {fa:ao->M Dat}
theorem de_lrev (hml:X.mg "list"=none) (hm:X.mg "reversed"=none) (ha:DE K W false X a fa) (hc:X.calm=true:=by rfl) (hgl:Gl X "list":=by rfl) (hg:Gl X "reversed":=by rfl) (hs:starEach [a] X.env=[(false,eval a X.env)]:=by rfl)
  (hst:starEach [.Call (.Name "reversed" p1) [a] [] pos1] X.env=[(false,eval (.Call (.Name "reversed" p1) [a] [] pos1) X.env)]:=by rfl) (hK:X.K=K:=by rfl) :
  DE K W true X (.Call (.Name "list" p) [.Call (.Name "reversed" p1) [a] [] pos1] [] pos) (f1 revD fa):=by
 subst hK
 intro pins s σ H Q I h
 obtain ⟨F,ρ,r,sm,post⟩:=h
 refine wpAny_Call_Name_kw (rG I hgl hml PyProof.Rows.boot_list ?_ (by decide) (by decide))
 refine PyProof.Rows.callWith_type1 ?_ hst rfl
 rw [hst]
 have made:wpAny (model X.prog X.w) X.A (eval (.Call (.Name "reversed" p1) [a] [] pos1) X.env) (fun t s1=>∃s0 H2 l xs vs,t=.ref s0.heap.objs.size/\s1={s0 with heap:=s0.heap.push (revObj l ((vs.toArray.size:Int)-1))}/\Inv X pins σ H2 s0/\SqL X.K H2 l xs/\Vals xs vs/\s0.heap.IsList l vs.toArray/\xs.length<=sizeLine/\∀S,H2 S=none->Q (.ref S) (upd H2 S (.lst xs.reverse))) X.xe s:=by
  refine Call_ (rG I hg hm boot_reversed (PyProof.Rows.callWith_type1 (thn (bc ha fE hs pos1 pins s σ H (fun us H2=>∃l xs,us=[.ref l]/\SqL X.K H2 l xs/\∀S,H2 S=none->Q (.ref S) (upd H2 S (.lst xs.reverse))) I ?_) fun us s1 ⟨vs,H1,I1,r1,q1⟩=>?_) hs rfl))
  ·refine bx r sm (fun e he=>?_) fun d hd v F1 H1 s1 q1=>?_
   ·have z:f1 revD fa ρ=.error e:=by unfold f1;rw [he];rfl
    rw [z] at post;exact post
   ·have z:f1 revD fa ρ=revD d:=by unfold f1;rw [hd];rfl
    rw [z] at post
    have post:=post.step s1
    cases d with
    |lst ds=>
     obtain ⟨c,xs,e,t,zz⟩:=q1
     exact ⟨c,xs,by rw [e],s1.fh.lst t,fun S hS=>post _ F1 _ (Step.grow s1.fh hS) ⟨S,xs.reverse,rfl,aP,s1.fh.free hS,hS,zz.reverse⟩⟩
    |_=>exact (W.ns post).elim
  ·obtain ⟨l,xs,e,hq,go⟩:=q1
   subst e
   obtain ⟨u,rfl,ru⟩:=r1.one
   cases (show u=Value.ref l from ru)
   obtain ⟨its,rv,pl,hz⟩:=I1.list hq
   exact call_reversed_list pl.isList ⟨s1,H1,l,xs,its,rfl,rfl,I1,hq,rv,pl.isList,hz,go⟩
 refine Calls.spliced_cons (thn made fun t s1 ⟨s0,H2,l,xs,vs,et,es,I2,hq,rv,hl,hz,go⟩=>wpAny_pure ?_)
 subst et es
 have lt:l<s0.heap.objs.size:=hl.elim fun _ t=>Heap.lt_size t.1
 refine xH (items:=vs.toArray) (I.ok.hd hc) ⟨_,Heap.get?_push_size _ rfl,rfl,rfl⟩ (hl.at fun o e=>Heap.get?_push_of_some _ e) (Nat.ne_of_lt lt) (by rw [List.size_toArray,<- rv.length];exact hz) fun h' tk acc c kp e2 it=>?_
 have up:s0.heap.objs.size<(s0.heap.push (revObj l ((vs.toArray.size:Int)-1))).objs.size:=by rw [Heap.size_push];exact Nat.lt_succ_self _
 refine ⟨.ref _,_,I2.laid (t':=tk) (fun b o e=>kp b o (fun z=>?_) (Heap.get?_push_of_some _ e)) (Nat.le_of_lt up) (show jQ X.prog X.w _ h' _ (.lst xs.reverse) from ⟨by rw [List.length_reverse];exact hz,acc.toList,c,rev_vals rv it,by simpa using e2⟩),rfl,go _ (I2.hok.fresh (Nat.le_of_lt up))⟩
 have:=Heap.lt_size e
 rw [z] at this
 exact Nat.lt_irrefl _ this
end
end L2
namespace L2
open PySem PySem.Spec PyProof.Rows
section
open PySem.SetTable
end
section
open PySem
variable {prog:Program} {w:World} {A:Around} {E:Value->Shared->Prop} {s:Shared}
end
section
open PySem
variable {prog:Program} {w:World} {A:Around} {R:Result->Shared->Prop} {I:Addr} {fp wr:List Addr} {G:Array GenState->Array GenState->Prop} {n:Nat} {P:Nat->Value->Prop} {St:Nat->Shared->Prop} {b:Bool}
end
section
open PySem
variable {prog:Program} {w:World} {A:Around} {E:Value->Shared->Prop} {s:Shared}
end
section
open PySem
end
section
open PySem
variable {prog:Program} {w:World} {A:Around} {E:Value->Shared->Prop} {s:Shared} {I a T:Addr} {es:Array (Int×Value)} {ep n i:Nat} {t:SetTable}
end
section
open PySem
variable {prog:Program} {w:World} {A:Around} {E:Value->Shared->Prop} {s:Shared} {I a T:Addr} {es:Array (Int×Value)} {ep n i:Nat} {t:SetTable}
end
section
open PySem
variable {prog:Program} {w:World} {A:Around} {E:Value->Shared->Prop} {s:Shared} {a:Addr}
end
end L2
namespace L2
open PySem PySem.Spec PyProof.Rows
section
open PySem.W
variable {prog:Program} {w:World} {A:Around} {E:Value->Shared->Prop} {s:Shared}
end
end L2
namespace L2
open PySem PySem.Spec PyProof.Rows
end L2
namespace L2
open PySem PySem.Spec PyProof.Rows
end L2
namespace L2
open PySem PySem.Spec PyProof.Rows
noncomputable def spO (K:PySem.W.Frag) (g:List Dat->M Dat) (n:Nat):Sp:=fun vs H Q _=>∃F ds rs,bp F H/\aE K F ds vs/\ds.length=n/\g ds=.ok (.lst rs)/\∀ys F2 H2,Step F H F2 H2->wu K F2 H H2 rs ys->∀a,H2 a=none->Q (.ref a) (upd H2 a (.lst ys))
section
variable {K:PySem.W.Frag} {W:iV} {ro:Bool} {F0 H0 FB F:Hp} {OL O':List Nat} {D:Ends} {σ:St} {ρ:ao} {H:Hp} {g:ao->M Flo}
theorem rs_rowsK {i:Nat} {fx fA fB:ao->M Dat} {rs:List Dat} {ys:List V} {F2 H2:Hp} {a:Addr} (hi:i<σ.length) (r:Rep K F0 H0 FB [] F H σ ρ) (s2:Step F H F2 H2) (ow:wu K F2 H H2 rs ys) (ha:H2 a=none)
  (q1:lq K W ro F0 H0 FB OL O' D (xF g (zG i rs fx fA fB ρ))) :
  tSeq (CF (tD K W false fx) (gSub (tOp (rIx K) (tVar i) (tD K W false fA)) (tD K W false fB) rSetL)) (tS K W ro F0 H0 OL [] O' g) D (σ.set i (some (.ref a))) (upd H2 a (.lst ys)):=by
 have rE:=r.repE
 have r2:r9 K F2 (σ.set i (some (.ref a))) (ρ.set i none):=⟨by rw [List.length_set,List.length_set,r.len],fun j d e=>by
  by_cases hij:i=j
  ·subst hij
   rw [List.getElem?_set_self (by rw [r.len];exact hi)] at e
   cases e
  ·rw [List.getElem?_set_ne hij] at e
   obtain ⟨v,h1,h2⟩:=rE.sl j d e
   exact ⟨v,by rw [List.getElem?_set_ne hij];exact h1,h2.mono s2.ff⟩⟩
 have sg:Step F2 H2 F2 (upd H2 a (.lst ys)):=Step.grow s2.fh ha
 have st2:=s2.trans sg
 refine bx r2 sg.fh (fun e he=>q1.qr (r.st.trans st2) (iq (by unfold zG;rw [he];rfl))) fun x hx v F3 H3 s3 qx=>?_
 have q2:lq K W ro F0 H0 FB OL O' D (xF g (fJ i rs x fA fB ρ)):=by
  unfold zG at q1
  rw [hx] at q1
  exact q1
 refine ⟨.ref a,by rw [List.getElem?_set_self hi],?_⟩
 refine bx (r2.mono s3.ff) s3.fh (fun e he=>q2.qr (r.st.trans (st2.trans s3)) (iq (by unfold fJ;rw [he];rfl))) fun da hda va F4 H4 s4 qa=>?_
 cases da with
 |int ka=>
  have q3:lq K W ro F0 H0 FB OL O' D (xF g ((rowAt rs ka).bind fun je=>uF i rs x je fB ρ)):=by
   unfold fJ at q2
   rw [hda] at q2
   exact q2
  have h3a:H3 a=some (.lst ys):=s3.hh _ _ aP
  have h4a:=s4.hh _ _ h3a
  have ow4:=((ow.step sg).step s3).step s4
  have s4':=st2.trans (s3.trans s4)
  cases hj:ixN rs.length ka with
  |none=>exact q3.stuck (iq (by unfold rowAt;rw [hj];rfl))
  |some j=>
   have hjl:=(xi hj).2.1
   obtain ⟨b,xs,es,g1,g2,g3,g4,g5,g6⟩:=ow4.get j rs[j] (by simp [hjl])
   have erj:rs[j]? =some (.lst es):=by rw [<- g2];simp [hjl]
   have q4:lq K W ro F0 H0 FB OL O' D (xF g (uF i rs x (j,es) fB ρ)):=by
    unfold rowAt at q3
    rw [hj] at q3
    have q3:lq K W ro F0 H0 FB OL O' D (xF g (((match rs[j]? with
     |some (.lst es)=>.ok (j,es)
     |_=>.error .stuck):M (Nat×List Dat)).bind fun je=>uF i rs x je fB ρ)):=q3
    rw [erj] at q3
    exact q3
   refine .inl ⟨a,ys,ka,.ref b,rfl,qa,SqL.of h4a,?_,?_⟩
   ·unfold atI
    rw [ow.len,hj]
    exact g1
   refine bx (r2.mono (s3.trans s4).ff) s4.fh (fun e he=>q4.qr (r.st.trans s4') (iq (by unfold uF;rw [he];rfl))) fun db hdb vb F5 H5 s5 qb=>?_
   cases db with
   |int kb=>
    have q5:lq K W ro F0 H0 FB OL O' D (xF g ((vR rs (j,es) kb x).bind fun rs'=>.ok (.nx (ρ.set i (some (.lst rs')))))):=by
     unfold uF at q4
     rw [hdb] at q4
     exact q4
    cases hk:ixN es.length kb with
    |none=>exact q5.stuck (iq (by unfold vR;rw [show ((j,es):Nat×List Dat).2=es from rfl,hk];rfl))
    |some k=>
     have q6:lq K W ro F0 H0 FB OL O' D (g (ρ.set i (some (.lst (rs.set j (.lst (es.set k x))))))):=by
      unfold vR at q5
      rw [show ((j,es):Nat×List Dat).2=es from rfl,hk] at q5
      exact q5
     have h5a:=s5.hh _ _ h4a
     have h5b:=s5.hh _ _ g3
     have ow5:=ow4.step s5
     have st:Step F H F5 H5:=s4'.trans s5
     refine ⟨b,xs,kb,k,rfl,qb,h5b,by rw [g6.length];exact hk,?_⟩
     have ma:H a=none:=s2.hh.free ha
     have fa2:F2 a=none:=s2.fh.free ha
     have f5a:F5 a=none:=(s3.trans (s4.trans s5)).stays fa2 (aP (H:=H2) (a:=a) (o:=.lst ys))
     have nab:a≠b:=fun z=>by
      obtain ⟨_,_,_,w,_⟩:=ow.at (k:=j) (a:=b) g1
      rw [<- z,ha] at w
      cases w
     have inA:∀c,(c=a\/∃m:Nat,ys[m]? =some (.ref c))->F5 c=none/\H c=none:=fun c h=>by
      rcases h with z|⟨m,z⟩
      ·rw [z];exact ⟨f5a,ma⟩
      ·obtain ⟨_,_,_,_,z1,z2,_⟩:=ow5.at z
       exact ⟨z1,z2⟩
     have Ab:b=a\/∃m:Nat,ys[m]? =some (.ref b):=.inr ⟨j,g1⟩
     have ff:bp F5 (plus F5 (upd H5 b (.lst (xs.set k v))) fun c=>c=a\/∃m:Nat,ys[m]? =some (.ref c)):=fun c o h=>by
      by_cases hc:c=a\/∃m:Nat,ys[m]? =some (.ref c)
      ·rw [(inA c hc).1] at h;cases h
      ·rw [j0 hc];exact h
     have fh:bp (plus F5 (upd H5 b (.lst (xs.set k v))) fun c=>c=a\/∃m:Nat,ys[m]? =some (.ref c)) (upd H5 b (.lst (xs.set k v))):=fun c o h=>by
      by_cases hc:c=a\/∃m:Nat,ys[m]? =some (.ref c)
      ·rw [qB hc] at h;exact h
      ·rw [j0 hc] at h
       have:c≠b:=fun z=>hc (by rw [z];exact Ab)
       rw [aL this]
       exact s5.fh c o h
     have mono3:bp F3 (plus F5 (upd H5 b (.lst (xs.set k v))) fun c=>c=a\/∃m:Nat,ys[m]? =some (.ref c)):=(s4.trans s5).ff.trans ff
     have mono4:bp F4 (plus F5 (upd H5 b (.lst (xs.set k v))) fun c=>c=a\/∃m:Nat,ys[m]? =some (.ref c)):=s5.ff.trans ff
     refine ⟨FB,plus F5 (upd H5 b (.lst (xs.set k v))) (fun c=>c=a\/∃m:Nat,ys[m]? =some (.ref c)),ρ.set i (some (.lst (rs.set j (.lst (es.set k x))))),?_,q6⟩
     have stt:=r.st.trans st
     refine ⟨⟨stt.ff.trans ff,fun c o h=>?_,fh,fun c o h=>?_⟩,r.fb.trans (st.ff.trans ff),by rw [List.length_set,List.length_set,r.len],fun m d e _=>?_,(fun m d e h=>nomatch h),(fun m n d1 d2 c h=>nomatch h)⟩
     ·have:c≠b:=fun z=>by
       rw [z] at h
       have:=r.st.hh _ _ h
       rw [(inA b Ab).2] at this
       cases this
      rw [aL this]
      exact stt.hh c o h
     ·by_cases hc:c=a\/∃m:Nat,ys[m]? =some (.ref c)
      ·exact .inr (r.st.hh.free (inA c hc).2)
      ·rw [j0 hc] at h
       exact stt.nw c o h
     ·by_cases him:i=m
      ·subst him
       rw [List.getElem?_set_self (by rw [r.len];exact hi)] at e
       cases e
       refine ⟨.ref a,by rw [List.getElem?_set_self hi],a,ys,rfl,SqL.of ?_,?_⟩
       ·rw [qB (.inl rfl),aL nab]
        exact h5a
       ·refine aE.of_get (by rw [List.length_set];exact ow.len) fun m d u e1 e2=>?_
        by_cases hjm:j=m
        ·subst hjm
         rw [List.getElem?_set_self hjl] at e1
         cases e1
         rw [g1] at e2
         cases e2
         exact ⟨b,xs.set k v,rfl,SqL.of (by rw [qB Ab,aP]),aE.set (cW.mono mono3 qx) k (g6.mono mono4)⟩
        ·rw [List.getElem?_set_ne hjm] at e1
         obtain ⟨c,ws,fs,k1,k2,k3,k4,k5,k6⟩:=ow5.get m d e1
         rw [k1] at e2
         cases e2
         subst k2
         have ncb:c≠b:=fun z=>hjm (ow5.ap j m b g1 (by rw [<- z];exact k1))
         exact ⟨c,ws,rfl,SqL.of (by rw [qB (.inr ⟨m,k1⟩),aL ncb];exact k3),k6.mono ff⟩
      ·rw [List.getElem?_set_ne him] at e
       obtain ⟨u,h1,h2⟩:=rE.sl m d e
       exact ⟨u,by rw [List.getElem?_set_ne him];exact h1,h2.mono (st.ff.trans ff)⟩
   |_=>exact q4.stuck (iq (by unfold uF;rw [hdb];rfl))
 |_=>exact q2.stuck (iq (by unfold fJ;rw [hda];rfl))
theorem rs_rowsC {i n:Nat} {m:List Dat->M Dat} {fr:ao->M (List Dat)} {fx fA fB:ao->M Dat} (hm:∀ds rs,m ds=.ok rs->ds.length=n/\∃es,rs=.lst es) (hi:i<σ.length) (t:tS K Wno ro F0 H0 OL [] O' (aO (wL i (fL m fr) fx fA fB) g) D σ H) :
  tSeq (CF (tCall (spO K m n) [] E0 (tDA K Wno fr)) (vH i)) (tSeq (CF (tD K Wno false fx) (gSub (tOp (rIx K) (tVar i) (tD K Wno false fA)) (tD K Wno false fB) rSetL)) (tS K Wno ro F0 H0 OL [] O' g)) D σ H:=by
 obtain ⟨FB,F,ρ,r,q⟩:=t
 have rE:=r.repE
 have q0:lq K Wno ro F0 H0 FB OL O' D (xF g (wL i (fL m fr) fx fA fB ρ)):=q
 refine ⟨F,ρ,rE,r.st.fh,?_⟩
 cases e1:fr ρ with
 |error z=>exact q0.qr r.st (iq (by unfold wL fL;rw [e1];rfl))
 |ok ds=>
  intro vs F1 H1 s1 dd
  show spO K m n (vs++[]) H1 _ E0
  rw [List.append_nil]
  cases e2:m ds with
  |error z=>exact False.elim (q0.qr (e:=z) r.st (iq (by unfold wL fL;rw [e1];show (Except.bind (m ds) _)=_;rw [e2];rfl)))
  |ok d=>
   obtain ⟨hl,rs,rfl⟩:=hm ds d e2
   refine ⟨F1,ds,rs,s1.fh,dd,hl,e2,fun ys F2 H2 s2 ow a ha=>?_⟩
   refine rs_rowsK hi r (s1.trans s2) (ow.back s1.hh) ha ?_
   unfold wL fL at q0
   rw [e1] at q0
   have q0:lq K Wno ro F0 H0 FB OL O' D (xF g ((m ds).bind fun d=>(lstOf d).bind fun rs=>zG i rs fx fA fB ρ)):=q0
   rw [e2] at q0
   exact q0
end
section
variable {P:Program} {w:World} {K:PySem.W.Frag} {mg:Str->Option Value} {base:Heap}
theorem fn_O {x qual:Str} {st:Stmt} {f:Addr} {fd:FuncData} {N ps:List Str} {k:Nat} {fi:ao->M (List Dat)} {ix:List (Option Nat)} {p:Pat} {ft:ao->M Bool} {fe:ao->M Dat} (F:Fun K x qual st f fd) (S:aH N ps (ar st)) (hL:∀ρ d,fe ρ=.ok d->∃es,d=.lst es)
  (hb:∀(cdv:Value) (A:Around) (outer:List Env) (s:Shared) (H:Hp) (E:XK),oQ k (A.deeper (envOfC qual (ar st) s.heap.objs.size f cdv)) ->
   PSs (cxOf CX0 P w K mg base N qual (ar st) f cdv A outer s H E).nox (cO st) (tRet (tComp (iD K Wno fi) ix (gP K p) (tDT K Wno ft) (tD K Wno true fe)))) :
  cz P w K mg base CX0 (k+1) f fd ps (spO K (cb N.length ps.length (cQ (fK fi ix p ft fe))) ps.length):=by
 refine F.okX S (fun vs H Q E ⟨F1,ds,rs,s1,q,l,_⟩=>by rw [q.length,l]) fun cdv A outer s H vs Q E hr ⟨F1,ds,rs,s1,q,l,e,h⟩=>⟨_,hb cdv A outer s H E hr,?_⟩
 have e1:cb N.length ps.length (cQ (fK fi ix p ft fe)) ds=(cQ (fK fi ix p ft fe) (ds.map some++List.replicate (N.length-ds.length) none)).bind fun fl=>match fl with
  |.nx _=>.ok .non
  |.rt d=>.ok d
  |_=>stk:=by
   unfold cb
   exact if_pos l
 rw [e1] at e
 have rE:r9 K F1 (start N vs) (ds.map some++List.replicate (N.length-ds.length) none):=⟨by
  unfold start
  rw [List.length_append,List.length_append,List.length_map,List.length_map,List.length_replicate,List.length_replicate,q.length],fun i d e=>yg q e⟩
 cases e2:fK fi ix p ft fe (ds.map some++List.replicate (N.length-ds.length) none) with
 |error z=>
  unfold cQ at e
  rw [e2] at e
  cases e
 |ok d=>
  unfold cQ at e
  rw [e2] at e
  cases e
  refine rd_turns rE s1 hL (fun z hz=>by rw [e2] at hz;cases hz) fun rs' hrs ys F2 H2 s2 ow a ha=>?_
  rw [e2] at hrs
  cases hrs
  exact h ys F2 H2 s2 ow a ha
end
section
variable {X:Cx} {K:PySem.W.Frag} {ro:Bool} {OL O':List Nat} {x c:Str} {e ex ea eb:Expr} {es:List Expr} {fx fA fB:ao->M Dat} {fr:ao->M (List Dat)} {cp pos spos py p0 p1 p2 p3 p4:Pos} {sts:List Stmt} {g gb:ao->M Flo}
theorem runB_lst {nN n:Nat} {ds:List Dat} {d:Dat} {fc:ao->M Dat} (hf:∀ρ d,fc ρ=.ok d->∃es,d=.lst es) (h:cb nN n (cQ fc) ds=.ok d):ds.length=n/\∃es,d=.lst es:=by
 unfold cb at h
 by_cases hl:ds.length=n
 ·refine ⟨hl,?_⟩
  rw [if_pos hl] at h
  unfold cQ at h
  cases e:fc (ds.map some++List.replicate (nN-ds.length) none) with
  |error z=>rw [e] at h;cases h
  |ok v=>
   rw [e] at h
   cases h
   exact hf _ _ e
 ·rw [if_neg hl] at h
  cases h
theorem DU {fi:ao->M (List Dat)} {ix:List (Option Nat)} {p:Pat} {ft:ao->M Bool} {fe:ao->M Dat} (ρ:ao) (d:Dat) (h:fK fi ix p ft fe ρ=.ok d):∃es,d=.lst es:=by
 unfold fK at h
 cases e:fi ρ with
 |error z=>rw [e] at h;cases h
 |ok ds=>
  rw [e] at h
  have h:(if ds.length<=sizeLine then (b8 p ft fe (iF ix ρ) ds).bind fun r=>.ok (.lst r) else .error .stuck)=Except.ok d:=h
  split at h
  ·cases e2:b8 p ft fe (iF ix ρ) ds with
   |error z=>rw [e2] at h;cases h
   |ok r=>rw [e2] at h;cases h;exact ⟨_,rfl⟩
  ·cases h
theorem ds_rowsC {i k nN n:Nat} {fad:Addr} {fd:FuncData} {ps:List Str} {fi:ao->M (List Dat)} {ix:List (Option Nat)} {pt:Pat} {ft:ao->M Bool} {fe:ao->M Dat} (F:cz X.prog X.w X.K X.mg X.base CX0 k fad fd ps (spO K (cb nN n (cQ (fK fi ix pt ft fe))) n)) (hrm:oQ k X.A) (hm:X.mg c=some (.ref fad)) (hkp:keepIn X.K (.ref fad)=true) (hb:Binds X.K fd ps [])
  (hN:X.N.Nodup) (hda:DA K Wno X (e::es) fr) (hx:DE K Wno false X ex fx) (hA:DE K Wno false X ea fA) (hB:DE K Wno false X eb fB) (hr:DSs K Wno ro X OL [] O' sts g)
  (hg:Gl X c:=by rfl) (hdb:(c==("__debug__":Str))=false:=by decide) (hst:starEach (e::es) X.env=(false,eval e X.env)::starEach es X.env:=by rfl) (hpl0:(backTo cp (starEach es X.env)).any (·.1)=false:=by rfl)
  (hj:X.N[i]? =some x:=by rfl) (hlx:Loc X.env.scope x:=by first|exact Or.inl rfl|exact Or.inr rfl) (hsx:swapsWith (.Call (.Name c p0) (e::es) [] cp) (some (.Name x py)) spos.line X.env=pure false:=by rfl) (hfx:X.fn x=true\/X.env.scope.names.lookup x=some .local:=by first|exact .inl rfl|exact .inr rfl|assumption) (hK:X.K=K:=by rfl)
  (hv:Vis X.env.scope x:=by first|exact Or.inl rfl|exact Or.inr (Or.inl rfl)|exact Or.inr (Or.inr rfl)) (hd:(x==("__debug__":Str))=false:=by decide) (hcd:(x==("__classdict__":Str))=false:=by decide) (hpl:Az ea:=by exact fun _ _=>rfl)
  (ha:∀v,assign (.Subscript (.Subscript (.Name x p1) ea p2) eb p3) X.env v=(do
   let ov <- holding [v] (eval (.Subscript (.Name x p1) ea p2) X.env)
   let iv <- holding [v,ov] (eval eb X.env)
   standAt p3
   holding [v,ov,iv] (setItem ov iv v)
   release [v,ov,iv] []):=by intro _;rfl) (hs1:swapsWithSole [.Subscript (.Subscript (.Name x p1) ea p2) eb p3] ex p4.line X.env=pure false:=by rfl) (hw:swappedStores [.Subscript (.Subscript (.Name x p1) ea p2) eb p3] ex X.env=pure none:=by rfl)
  (h1:(assignEach [.Subscript (.Subscript (.Name x p1) ea p2) eb p3] X.env).map (·.2)=[assign (.Subscript (.Subscript (.Name x p1) ea p2) eb p3) X.env]:=by rfl) :
  DSs K Wno ro X OL [] O' (.Assign [.Name x py] (.Call (.Name c p0) (e::es) [] cp) spos::.Assign [.Subscript (.Subscript (.Name x p1) ea p2) eb p3] ex p4::sts) (aO (wL i (fL (cb nN n (cQ (fK fi ix pt ft fe))) fr) fx fA fB) g):=by
 subst hK
 intro F0 H0 pins s σ H D I z
 have hil:i<σ.length:=by
  rw [I.len]
  exact (List.getElem?_eq_some_iff.mp hj).1
 refine rB (AO hN hj hlx (wU F hrm hg hm hkp hb .nil wV hda hdb hst hpl0) hsx hfx) (rB (AQ hx (pg_sub (pe_ix ix_seq (pv i hj hv hd hcd) hA hpl) hB set_list ha) hs1 hw h1) (hr F0 H0)) pins s σ H D I ?_
 exact rs_rowsC (fun ds rs h=>runB_lst DU h) hil z
end
end L2
namespace L2
open PySem PySem.Spec PyProof.Rows
structure Abt (p:Addr) (F H F' H':Hp):Prop where
 ff:bp F F'
 fh:bp F' H'
 fp:F' p=none
 nw:∀b o,F' b=some o->F b=some o\/H b=none
 hh:∀c o,H c=some o->c≠p->H' c=some o
section
variable {X:Cx} {K:PySem.W.Frag} {own ro:Bool} {e o a:Expr} {es:List Expr} {x m:Str} {pos p apos:Pos} {f fo:ao->M Dat} {fr:ao->M (List Dat)} {C C2:Addr} {E:XK} {CX:CXT}
end
end L2
namespace L2
open PySem PySem.Spec PyProof.Rows
noncomputable def isiC (tb:List (Addr×Bool)):Dat->M Dat
 |.ins C _=>match tb.lookup C with
  |some b=>.ok (.bl b)
  |none=>stk
 |_=>stk
section
variable {X:Cx} {K:PySem.W.Frag} {W:iV} {own:Bool} {a:Expr} {fa:ao->M Dat} {pos p p2:Pos} {y:Str} {D:Addr} {tb:List (Addr×Bool)}
theorem c_isiC (hT:∀C b,tb.lookup C=some b->(∃x,Kls K X.mg x C)/\kitOne K (.ref C) (.ref D)=some b) (hK:X.K=K:=by rfl):eA X (.builtin "isinstance") (fun xs H Q=>∃v,xs=[v,.ref D]/\rD1 K W own (isiC tb) v H Q):=by
 subst hK
 intro pins s σ H xs us Q I r h
 obtain ⟨v,rfl,F,d,s1,q,p⟩:=h
 obtain ⟨u,w,rfl,ru,rw'⟩:=r.two
 cases (show w=Value.ref D from rw')
 cases d with
 |ins C fs=>
  cases hl:tb.lookup C with
  |none=>
   have p:aN X.K W own F H (match tb.lookup C with
    |some b=>.ok (.bl b)
    |none=>stk) Q:=p
   rw [hl] at p
   exact aN.stuck p
  |some b=>
   have p:aN X.K W own F H (match tb.lookup C with
    |some b=>.ok (.bl b)
    |none=>stk) Q:=p
   rw [hl] at p
   obtain ⟨⟨x,hk⟩,hb⟩:=hT C b hl
   obtain ⟨l,dx,gs,e1,ea,df⟩:=q
   subst e1
   exact yM I ru (hk.ty (s1 _ _ ea)) hb fun tk=>⟨.bl b,H,I.tok tk,rfl,aN.bl (own:=own) p s1⟩
 |_=>exact aN.stuck p
theorem de_isiC (hT:∀C b,tb.lookup C=some b->(∃x,Kls K X.mg x C)/\kitOne K (.ref C) (.ref D)=some b) (hm:X.mg "isinstance"=none) (hD:X.mg y=some (.ref D)) (ha:DE K W false X a fa) (hK:X.K=K:=by rfl)
  (hg:Gl X "isinstance":=by rfl) (hgT:Gl X y:=by rfl) (hd:(y==("__debug__":Str))=false:=by decide)
  (hst:starEach [a,.Name y p2] X.env=[(false,eval a X.env),(false,eval (.Name y p2) X.env)]:=by rfl) (hst2:starEach [.Name y p2] X.env=[(false,eval (.Name y p2) X.env)]:=by rfl) (hpl:(backTo pos (starEach [.Name y p2] X.env)).any (·.1)=false:=by rfl) :
  DE K W own X (.Call (.Name "isinstance" p) [a,.Name y p2] [] pos) (f1 (isiC tb) fa):=
 (hV (c_isiC hT hK) hg hm boot_isinstance (bc ha (bc (D3 (v:=.ref D) (pos:=p2) hgT hD rfl hd) fE hst2) (by rw [hst,hst2])) (by decide) (by decide) (by rw [hst,hst2]) hpl).imp fun σ H Q h=>by
  obtain ⟨F,ρ,r,s,q⟩:=rd_1 h
  refine ⟨F,ρ,r,s,?_⟩
  cases e1:fa ρ with
  |error z=>rw [e1] at q;exact q
  |ok d=>rw [e1] at q;exact fun v F' H' st z=>⟨v,rfl,q v F' H' st z⟩
end
end L2
namespace L2
open PySem PySem.Spec PyProof.Rows
end L2
namespace Ru
open PySem L2 PyProof.Rows
noncomputable def o4 (CR CP:Addr) (n:Nat):ao->M Flo:=
 sIf (fB (f2 gtD (fL qi (aa (af 0) aC)) (fC (.int 0))))
   (aD [] 2 (f2 ixD (af 0) (f2 jA (af 1) (fL qi (aa (af 0) aC)))))
   eh
noncomputable def nQ (CR CP:Addr) (n:Nat):ao->M Flo:=
 (aO (aD [] 2 (af 1))
  (aO (o4 CR CP n)
  (aO (aD [] 3 (f2 jA (f2 vt (f2 fG (f2 fG (af 2) (f2 vt (f2 vt (fC (.int 7919)) (af 1)) (af 1))) (af 1)) (fC (.int 982451653))) (fC (.int 2305843009213693951))))
  (cQ (f2 ck (f2 jA (f2 vt (af 3) (fC (.int 1000003))) (fC (.int 1152921504606846883))) (fC (.int 8)))))))
noncomputable def aK (CR CP:Addr) (n:Nat):List Dat->M Dat:=cb 4 2 (nQ CR CP n)
noncomputable def gR (CR CP:Addr) (n:Nat):ao->M Flo:=
 (cQ (f2 ixD (fL cB (aa (fC (.int 1)) (aa (fC (.int 1)) (aa (fC (.int 100)) (aa (f2 wO (fC (.int 10)) (fC (.int 5))) aC))))) (f2 jA (fL (aK CR CP n) (aa (af 0) (aa (fC (.int 99)) aC))) (fC (.int 4)))))
noncomputable def cF (CR CP:Addr) (n:Nat):List Dat->M Dat:=cb 1 1 (gR CR CP n)
noncomputable def k8 (CR CP:Addr) (n:Nat):ao->M Flo:=
 (aO (aD [4,6] 8 (fL (aK CR CP n) (aa (af 0) (aa (f2 fG (f2 fG (af 1) (f2 vt (af 5) (af 2))) (af 7)) aC))))
  (mi [4,6] 6 (f2 fG (f2 vt (f2 jA (af 8) (fC (.int 6))) (af 3)) (f2 jA (f2 ck (af 8) (fC (.int 6))) (af 3)))))
noncomputable def og (CR CP:Addr) (n:Nat):ao->M Flo:=
 (aO (aD [4] 6 (fL cB aC))
  (aO (tM [4,6] (sr so (aa (af 2) aC)) (.nm 7) (k8 CR CP n))
  (mi [4] 4 (af 6))))
noncomputable def qW (CR CP:Addr) (n:Nat):ao->M Flo:=
 (aO (aD [] 4 (fL cB aC))
  (aO (tM [4] (sr so (aa (af 2) aC)) (.nm 5) (og CR CP n))
  (cQ (af 4))))
noncomputable def iN (CR CP:Addr) (n:Nat):List Dat->M Dat:=cb 9 4 (qW CR CP n)
noncomputable def iT (CR CP:Addr) (n:Nat):ao->M Flo:=
 sIf (fB (f2 eqM (f2 jA (fL (aK CR CP n) (aa (af 0) (aa (fC (.int 1)) aC))) (fC (.int 2))) (fC (.int 1))))
   (aD [] 3 (fL (iN CR CP n) (aa (af 0) (aa (fC (.int 50)) (aa (af 2) (aa (af 1) aC))))))
   eh
noncomputable def i5 (CR CP:Addr) (n:Nat):ao->M Flo:=
 (aO (aD [] 2 (f2 fG (fC (.int 1)) (f2 jA (fL (aK CR CP n) (aa (af 0) (aa (fC (.int 0)) aC))) (fC (.int 6)))))
  (aO (aD [] 3 (fC .non))
  (aO (iT CR CP n)
  (cQ (fL bQ (aa (fL (iN CR CP n) (aa (af 0) (aa (fC (.int 4)) (aa (af 2) (aa (af 1) aC))))) (aa (af 3) aC)))))))
noncomputable def cj (CR CP:Addr) (n:Nat):List Dat->M Dat:=cb 4 2 (i5 CR CP n)
noncomputable def gu (CR CP:Addr) (n:Nat):ao->M Flo:=
 sIf (fB (f2 eqM (f2 jA (fL (aK CR CP n) (aa (af 0) (aa (fC (.int 3)) aC))) (fC (.int 8))) (fC (.int 5))))
   (aD [] 4 (af 2))
   eh
noncomputable def gv (CR CP:Addr) (n:Nat):ao->M Flo:=
 (aO (aD [5] 7 (fL (aK CR CP n) (aa (af 0) (aa (f2 fG (fC (.int 100)) (af 6)) aC))))
  (aO (aD [5] 8 (f2 jA (f2 ck (af 7) (fC (.int 16))) (f2 vt (f2 vt (fC (.int 25)) (af 3)) (f2 fG (af 6) (fC (.int 1))))))
  (aO (aD [5] 9 (f2 ixD (fL cB (aa (f2 wO (fC (.int 10)) (fC (.int 9))) (aa (f2 vt (f2 vt (fC (.int 100)) (af 3)) (af 4)) (aa (f2 vt (f2 vt (fC (.int 12)) (af 3)) (af 4)) (aa (f2 vt (fC (.int 3)) (af 3)) aC))))) (f2 ck (f2 jA (af 7) (fC (.int 16))) (fC (.int 5)))))
  (aO (aD [5] 10 (fL minD (aa (f2 wO (fC (.int 10)) (fC (.int 9))) (aa (f2 fG (af 8) (af 9)) aC))))
  (aO (aD [5] 11 (fL minD (aa (f2 wO (fC (.int 10)) (fC (.int 9))) (aa (f2 fG (af 8) (f2 jA (f2 ck (af 7) (fC (.int 1000))) (f2 vt (fC (.int 20)) (af 3)))) aC))))
  (aO (aD [5] 12 (f2 ixD (fL cB (aa (f2 jA (f2 ck (af 7) (fC (.int 7))) (fC (.int 10))) (aa (f2 jA (f2 ck (af 7) (fC (.int 7))) (f2 fG (f2 wO (fC (.int 10)) (fC (.int 9))) (fC (.int 1)))) aC))) (f2 jA (f2 ck (af 7) (fC (.int 3))) (fC (.int 2)))))
  (mi [5] 5 (fL bQ (aa (f2 jA (f2 ck (af 7) (fC (.int 11))) (fL qi (aa (f2 ixD (af 1) (fC (.int 0))) aC))) (aa (af 8) (aa (af 10) (aa (af 11) (aa (af 12) aC)))))))))))))
noncomputable def mr (CR CP:Addr) (n:Nat):ao->M Flo:=
 (aO (aD [] 4 (f2 jA (fL (aK CR CP n) (aa (af 0) (aa (fC (.int 2)) aC))) (f2 fG (f2 ck (af 2) (fC (.int 4))) (fC (.int 1)))))
  (aO (gu CR CP n)
  (aO (aD [] 5 (fL cB aC))
  (aO (tM [5] (sr so (aa (af 4) aC)) (.nm 6) (gv CR CP n))
  (cQ (af 5))))))
noncomputable def dJ (CR CP:Addr) (n:Nat):List Dat->M Dat:=cb 13 4 (mr CR CP n)
noncomputable def fO (CR CP:Addr) (n:Nat):ao->M Flo:=
 (aO (aD [2] 4 (f2 jA (af 0) (f2 wO (fC (.int 10)) (fC (.int 9)))))
  (aO (aD [2] 0 (f2 ck (af 0) (f2 wO (fC (.int 10)) (fC (.int 9)))))
  (aO (mi [2] 2 (fL bQ (aa (af 4) (aa (f2 fG (f2 fG (af 4) (fC (.int 1))) (f2 jA (af 0) (f2 zw (f2 wO (fC (.int 10)) (fC (.int 9))) (af 4)))) aC))))
  (aD [2] 0 (f2 ck (af 0) (f2 wO (fC (.int 10)) (fC (.int 9))))))))
noncomputable def i7 (CR CP:Addr) (n:Nat):ao->M Flo:=
 (aO (aD [] 2 (fL cB aC))
  (aO (tM [2] (sr so (aa (af 1) aC)) (.nm 3) (fO CR CP n))
  (cQ (af 2))))
noncomputable def cG (CR CP:Addr) (n:Nat):List Dat->M Dat:=cb 5 2 (i7 CR CP n)
noncomputable def jZ (CR CP:Addr) (n:Nat):ao->M Flo:=
 (aO (mi [2,4] 4 (f2 jA (af 0) (f2 fG (f2 wO (fC (.int 10)) (fC (.int 6))) (fC (.int 1)))))
  (aD [2,4] 0 (f2 ck (af 0) (f2 fG (f2 wO (fC (.int 10)) (fC (.int 6))) (fC (.int 1))))))
noncomputable def o8 (CR CP:Addr) (n:Nat):ao->M Flo:=
 (aO (aD [2] 4 (fL cB aC))
  (aO (tM [2,4] (sr so (aa (af 1) aC)) (.nm 5) (jZ CR CP n))
  (mi [2] 2 (af 4))))
noncomputable def qU (CR CP:Addr) (n:Nat):ao->M Flo:=
 (aO (aD [] 2 (fL cB aC))
  (aO (tM [2] (sr so (aa (af 1) aC)) (.nm 3) (o8 CR CP n))
  (cQ (af 2))))
noncomputable def iL (CR CP:Addr) (n:Nat):List Dat->M Dat:=cb 6 2 (qU CR CP n)
noncomputable def fN (CR CP:Addr) (n:Nat):ao->M Flo:=
 (aO (mi [3] 3 (f2 jA (af 0) (f2 fG (f2 wO (fC (.int 10)) (fC (.int 9))) (fC (.int 1)))))
  (aD [3] 0 (f2 ck (af 0) (f2 fG (f2 wO (fC (.int 10)) (fC (.int 9))) (fC (.int 1))))))
noncomputable def i6 (CR CP:Addr) (n:Nat):ao->M Flo:=
 (aO (aD [] 2 (f2 jA (af 0) (af 1)))
  (aO (aD [] 3 (fL cB aC))
  (aO (aD [3] 0 (f2 ck (af 0) (af 1)))
  (aO (tM [3] (sr so (aa (fC (.int 4)) aC)) (.nm 4) (fN CR CP n))
  (aO (aD [] 5 (f2 ixD (af 3) (fC (.int 0))))
  (cQ (fL bQ (aa (af 2) (aa (af 5) (aa (f2 fG (af 5) (f2 jA (f2 ixD (af 3) (fC (.int 1))) (f2 fG (f2 zw (f2 wO (fC (.int 10)) (fC (.int 9))) (af 5)) (fC (.int 1))))) (aa (f2 ixD (af 3) (fC (.int 2))) (aa (f2 ixD (af 3) (fC (.int 3))) aC))))))))))))
noncomputable def bM (CR CP:Addr) (n:Nat):List Dat->M Dat:=cb 6 2 (i6 CR CP n)
noncomputable def cC (CR CP:Addr) (n:Nat):ao->M Bool:=
 (fB (f2 gtD (fL qi (aa (af 3) aC)) (fC (.int 0))))
noncomputable def dW (CR CP:Addr) (n:Nat):ao->M Flo:=
 (aO (sPop 3 5 (f2 jA (af 0) (fL qi (aa (af 3) aC))))
  (aO (uE false 0 (f2 ck (af 0) (f2 fG (fL qi (aa (af 3) aC)) (fC (.int 1)))))
  (aO (mi [3,4] 4 (fL bQ (aa (af 5) (aa (f2 jA (af 0) (af 2)) aC))))
  (aD [3,4] 0 (f2 ck (af 0) (af 2))))))
noncomputable def jJ (CR CP:Addr) (n:Nat):ao->M Flo:=
 (aO (aD [] 3 (fLR (sr so (aa (af 1) aC))))
  (aO (aD [3] 4 (fL cB aC))
  (aO (cw (cC CR CP n) (dW CR CP n) n)
  (cQ (af 4)))))
noncomputable def dB (CR CP:Addr) (n:Nat):List Dat->M Dat:=cb 6 3 (jJ CR CP n)
noncomputable def nZ (CR CP:Addr) (n:Nat):ao->M Flo:=
 sIf (fB (f2 eqM (af 4) (fC (.int 2))))
   (aD [] 5 (fL (iL CR CP n) (aa (f2 ixD (af 2) (fC (.int 2))) (aa (af 3) aC))))
   eh
noncomputable def nP (CR CP:Addr) (n:Nat):ao->M Flo:=
 (aO (aD [] 2 (f2 fG (fSl fy (af 0) pf (kA (fC (.int 5)))) (f2 repD (fL cB (aa (fC (.int 0)) aC)) (fC (.int 5)))))
  (aO (aD [] 3 (f2 fG (fC (.int 1)) (f2 jA (f2 ck (f2 ixD (af 2) (fC (.int 0))) (fC (.int 2))) (fC (.int 6)))))
  (aO (aD [] 4 (f2 fG (fC (.int 1)) (f2 jA (f2 ck (f2 ixD (af 2) (fC (.int 0))) (fC (.int 12))) (fC (.int 2)))))
  (aO (aD [] 5 (fC .non))
  (aO (nZ CR CP n)
  (aO (aD [] 6 (fK (fIt (fSl fy (af 0) (kA (fC (.int 5))) (kA (f2 fG (fC (.int 5)) (af 1))))) [none,some 3] (.nm 0) sq (fL (bM CR CP n) (aa (af 0) (aa (af 1) aC)))))
  (aO (aD [] 7 (fL (cG CR CP n) (aa (f2 ixD (af 2) (fC (.int 3))) (aa (f2 jA (f2 ck (f2 ixD (af 2) (fC (.int 0))) (fC (.int 24))) (fC (.int 21))) aC))))
  (cQ (fL bQ (aa (fL bQ (aa (fL (iL CR CP n) (aa (f2 ixD (af 2) (fC (.int 1))) (aa (af 3) aC))) (aa (af 5) aC))) (aa (af 6) (aa (af 7) (aa (fL (dB CR CP n) (aa (f2 ixD (af 2) (fC (.int 4))) (aa (fL qi (aa (af 6) aC)) (aa (af 4) aC)))) aC)))))))))))))
noncomputable def iO (CR CP:Addr) (n:Nat):List Dat->M Dat:=cb 8 2 (nP CR CP n)
noncomputable def ir (CR CP:Addr) (n:Nat):ao->M Flo:=
 sIf (fB (f2 eqM (f2 jA (fL (aK CR CP n) (aa (af 0) (aa (fC (.int 151)) aC))) (fC (.int 8))) (fC (.int 5))))
   (aD [] 2 (fC (.int 20)))
   eh
noncomputable def l8 (CR CP:Addr) (n:Nat):ao->M Flo:=
 (aO (aD [3] 5 (fL (aK CR CP n) (aa (af 0) (aa (f2 fG (fC (.int 152)) (af 4)) aC))))
  (aO (aD [3] 6 (f2 jA (f2 ck (af 5) (fC (.int 9))) (f2 vt (fC (.int 150)) (af 1))))
  (mi [3] 3 (fL bQ (aa (af 6) (aa (f2 fG (f2 fG (af 6) (fC (.int 1))) (f2 vt (f2 jA (af 5) (fC (.int 9))) (af 1))) aC))))))
noncomputable def nR (CR CP:Addr) (n:Nat):ao->M Flo:=
 (aO (aD [] 2 (f2 jA (fL (aK CR CP n) (aa (af 0) (aa (fC (.int 150)) aC))) (fC (.int 5))))
  (aO (ir CR CP n)
  (aO (aD [] 3 (fL cB aC))
  (aO (tM [3] (sr so (aa (af 2) aC)) (.nm 4) (l8 CR CP n))
  (cQ (af 3))))))
noncomputable def fm (CR CP:Addr) (n:Nat):List Dat->M Dat:=cb 7 2 (nR CR CP n)
noncomputable def gU (CR CP:Addr) (n:Nat):ao->M Bool:=
 (fB (f2 gtD (fL qi (aa (af 3) aC)) (fC (.int 0))))
noncomputable def k7 (CR CP:Addr) (n:Nat):ao->M Flo:=
 (aO (uE false 6 (fL (aK CR CP n) (aa (af 0) (aa (f2 fG (fC (.int 180)) (fL qi (aa (af 3) aC))) aC))))
  (aO (uE false 7 (f2 vt (f2 jA (f2 ck (af 6) (fC (.int 64))) (fL minD (aa (fL qi (aa (af 3) aC)) (aa (fC (.int 3)) aC)))) (fL intD (aa (f2 eqM (f2 jA (af 6) (fC (.int 4))) (fC (.int 0))) aC))))
  (aO (CK 3 (.tp [8,9]) (af 7))
  (mi [3,4] 4 (fL bQ (aa (af 9) (aa (f2 jA (f2 ck (af 6) (fC (.int 4096))) (af 5)) aC)))))))
noncomputable def qV (CR CP:Addr) (n:Nat):ao->M Flo:=
 (aO (aD [] 3 (fL qz (aa (fK (sr so (aa (fL qi (aa (af 2) aC)) aC)) [none,some 2] (.nm 0) sq (fL bQ (aa (f2 ixD (f2 ixD (af 1) (af 0)) (fC (.int 1))) (aa (af 0) aC)))) aC)))
  (aO (aD [3] 4 (fL cB aC))
  (aO (aD [3,4] 5 (f2 zw (fC (.int 2)) (fL intD (aa (f2 isND (f2 ixD (af 1) (fC (.int 1))) (fC .non)) aC))))
  (aO (cw (gU CR CP n) (k7 CR CP n) n)
  (cQ (af 4))))))
noncomputable def iM (CR CP:Addr) (n:Nat):List Dat->M Dat:=cb 10 3 (qV CR CP n)
noncomputable def j3 (CR CP:Addr) (n:Nat):ao->M Flo:=
 sIf (DV (fB (f2 gtD (fL qi (aa (af 0) aC)) (fC (.int 0)))) (fB (f2 eqM (f2 jA (f2 ixD (af 0) (fC (.int 0))) (fC (.int 2))) (fC (.int 1)))))
   (cQ (fL (iO CR CP n) (aa (af 0) (aa (af 1) aC))))
   eh
noncomputable def jg (CR CP:Addr) (n:Nat):ao->M Flo:=
 (aO (j3 CR CP n)
  (aO (aD [] 2 (fL (cF CR CP n) (aa (af 0) aC)))
  (aO (aD [] 3 (fL (cj CR CP n) (aa (af 0) (aa (af 2) aC))))
  (aO (aD [] 4 (fL (dJ CR CP n) (aa (af 0) (aa (af 3) (aa (af 1) (aa (af 2) aC))))))
  (cQ (fL bQ (aa (af 3) (aa (af 4) (aa (fL (fm CR CP n) (aa (af 0) (aa (af 2) aC))) (aa (fL (iM CR CP n) (aa (af 0) (aa (af 3) (aa (af 4) aC)))) aC))))))))))
noncomputable def eK (CR CP:Addr) (n:Nat):List Dat->M Dat:=cb 5 2 (jg CR CP n)
noncomputable def nM (CR CP:Addr) (n:Nat):ao->M Flo:=
 (cQ (fK (fIt (af 0)) [none] (.nm 0) sq (fL yJ (aa (af 0) aC))))
noncomputable def bh (CR CP:Addr) (n:Nat):List Dat->M Dat:=cb 1 1 (nM CR CP n)
noncomputable def wq (CR CP:Addr) (n:Nat):ao->M Flo:=
 sIf (fOr (zy (xV (f1 ur (af 0)))) (xV (f1 rK (af 0))))
   (cQ (fC (.bl false)))
   eh
noncomputable def xq (CR CP:Addr) (n:Nat):ao->M Flo:=
 (aO (wq CR CP n)
  (cQ (iI leD leD (fC (.int 0)) (af 0) (fC (.int 1000000)))))
noncomputable def nE (CR CP:Addr) (n:Nat):List Dat->M Dat:=cb 1 1 (xq CR CP n)
noncomputable def pO (CR CP:Addr) (n:Nat):ao->M Flo:=
 (cQ (xr (f1 rJ (af 0)) (xr (f2 eqM (fL qi (aa (af 0) aC)) (af 1)) (fL allD (aa (fK (fIt (af 0)) [none] (.nm 0) sq (fL (nE CR CP n) (aa (af 0) aC))) aC)))))
noncomputable def eJ (CR CP:Addr) (n:Nat):List Dat->M Dat:=cb 2 2 (pO CR CP n)
noncomputable def oK (CR CP:Addr) (n:Nat):ao->M Flo:=
 sIf (zy (fB (iI leD leD (fC (.int 1)) (af 1) (fC (.int 6)))))
   sStk
   eh
noncomputable def oJ (CR CP:Addr) (n:Nat):ao->M Flo:=
 sIf (zy (xV (fL allD (aa (fK (fIt (af 0)) [none,some 1] (.nm 0) sq (fL (eJ CR CP n) (aa (af 0) (aa (af 1) aC)))) aC))))
   sStk
   eh
noncomputable def mq (CR CP:Addr) (n:Nat):ao->M Flo:=
 (aO (aD [] 1 (fL qi (aa (af 0) aC)))
  (aO (oK CR CP n)
  (aO (oJ CR CP n)
  (cQ (fL (bh CR CP n) (aa (af 0) aC))))))
noncomputable def az (CR CP:Addr) (n:Nat):List Dat->M Dat:=cb 2 1 (mq CR CP n)
noncomputable def nY (CR CP:Addr) (n:Nat):ao->M Flo:=
 sIf (fB (f2 isND (f2 ixD (af 0) (fC (.int 1))) (fC .non)))
   (cQ (fL (newR CR (az CR CP n)) (aa (f2 ixD (af 0) (fC (.int 0))) aC)))
   eh
noncomputable def nO (CR CP:Addr) (n:Nat):ao->M Flo:=
 (aO (nY CR CP n)
  (cQ (fL (newP CP (az CR CP n)) (aa (f2 ixD (af 0) (fC (.int 0))) (aa (f2 ixD (af 0) (fC (.int 1))) aC)))))
noncomputable def di (CR CP:Addr) (n:Nat):List Dat->M Dat:=cb 1 1 (nO CR CP n)
noncomputable def t7 (CR CP:Addr) (n:Nat):ao->M Flo:=
 (cQ (fK (fIt (af 1)) [none,none,some 0] (.tp [0,1]) sq (fL bQ (aa (f2 ixD (f2 ixD (af 2) (af 0)) (fC (.int 0))) (aa (af 1) aC)))))
noncomputable def fj (CR CP:Addr) (n:Nat):List Dat->M Dat:=cb 2 2 (t7 CR CP n)
noncomputable def cS (CR CP:Addr) (n:Nat):ao->M Flo:=
 sIf (DV (xV (af 1)) (fB (f2 leD (af 2) (f2 ixD (f2 ixD (af 1) (f1 negD (fC (.int 1)))) (fC (.int 1))))))
   (zF 1 (f1 negD (fC (.int 1))) (fL bQ (aa (f2 ixD (f2 ixD (af 1) (f1 negD (fC (.int 1)))) (fC (.int 0))) (aa (fL maxD (aa (af 3) (aa (f2 ixD (f2 ixD (af 1) (f1 negD (fC (.int 1)))) (fC (.int 1))) aC))) aC))))
   (mi [1] 1 (fL bQ (aa (af 2) (aa (af 3) aC))))
noncomputable def bT (CR CP:Addr) (n:Nat):ao->M Flo:=
 (cS CR CP n)
noncomputable def i4 (CR CP:Addr) (n:Nat):ao->M Flo:=
 (aO (aD [] 1 (fL cB aC))
  (aO (tM [1] (fIt (fL qz (aa (af 0) aC))) (.tp [2,3]) (bT CR CP n))
  (cQ (af 1))))
noncomputable def cE (CR CP:Addr) (n:Nat):List Dat->M Dat:=cb 4 1 (i4 CR CP n)
noncomputable def rY (CR CP:Addr) (n:Nat):ao->M Flo:=
 sIf (fB (iI leD ltD (af 2) (af 1) (af 3)))
   (cQ (af 3))
   eh
noncomputable def o7 (CR CP:Addr) (n:Nat):ao->M Flo:=
 (rY CR CP n)
noncomputable def nL (CR CP:Addr) (n:Nat):ao->M Flo:=
 (aO (tM [] (fIt (fL (cE CR CP n) (aa (af 0) aC))) (.tp [2,3]) (o7 CR CP n))
  (cQ (af 1)))
noncomputable def iK (CR CP:Addr) (n:Nat):List Dat->M Dat:=cb 4 2 (nL CR CP n)
noncomputable def nS (CR CP:Addr) (n:Nat):ao->M Flo:=
 (cQ (f2 ixD (f2 ixD (f1 (rZ [CR,CP] "gaps") (af 0)) (f2 ixD (af 1) (fC (.int 0)))) (f2 ixD (af 2) (fC (.int 0)))))
noncomputable def dj (CR CP:Addr) (n:Nat):List Dat->M Dat:=cb 3 3 (nS CR CP n)
noncomputable def lL (CR CP:Addr) (n:Nat):ao->M Flo:=
 (aO (aD [] 3 (fIte (fB (f2 eqM (f2 ixD (af 1) (fC (.int 1))) (f2 ixD (af 2) (fC (.int 1))))) (f1 (rZ [CR,CP] "gaps") (af 0)) (f1 (rZ [CP] "beside") (af 0))))
  (cQ (f2 ixD (f2 ixD (af 3) (f2 ixD (af 1) (fC (.int 0)))) (f2 ixD (af 2) (fC (.int 0))))))
noncomputable def d7 (CR CP:Addr) (n:Nat):List Dat->M Dat:=cb 4 3 (lL CR CP n)
noncomputable def qT (CR CP:Addr) (n:Nat):ao->M Flo:=
 (cQ (fK (sr so (aa (af 3) aC)) [none,some 0,some 1,some 2,some 3] (.nm 0) sq (f2 fG (f2 ixD (af 3) (af 0)) (iH CR CP "apart" (dj CR CP n) (d7 CR CP n) (af 1) (aa (f2 ixD (af 2) (af 0)) (aa (f2 ixD (af 2) (af 4)) aC))))))
noncomputable def dh (CR CP:Addr) (n:Nat):List Dat->M Dat:=cb 4 4 (qT CR CP n)
noncomputable def tR (CR CP:Addr) (n:Nat):ao->M Flo:=
 sIf (fB (f2 gtD (af 9) (f2 ixD (af 8) (fC (.int 2)))))
   sStk
   eh
noncomputable def pY (CR CP:Addr) (n:Nat):ao->M Flo:=
 (aO (aD [5] 8 (f2 ixD (af 1) (f2 ixD (af 7) (fC (.int 0)))))
  (aO (uE false 9 (fL (iK CR CP n) (aa (af 2) (aa (fL maxD (aa (f2 fG (fL cB (aa (f2 ixD (af 8) (fC (.int 1))) aC)) (fL (dh CR CP n) (aa (af 0) (aa (af 4) (aa (af 5) (aa (af 6) aC)))))) aC)) aC))))
  (aO (tR CR CP n)
  (mi [5] 5 (af 9)))))
noncomputable def t6 (CR CP:Addr) (n:Nat):ao->M Flo:=
 (aO (aD [] 4 (fL (fj CR CP n) (aa (af 1) (aa (af 3) aC))))
  (aO (aD [] 5 (fL cB aC))
  (aO (tM [5] (vI (af 3)) (.tp [6,7]) (pY CR CP n))
  (cQ (af 5)))))
noncomputable def gN (CR CP:Addr) (n:Nat):List Dat->M Dat:=cb 10 4 (t6 CR CP n)
noncomputable def qS (CR CP:Addr) (n:Nat):ao->M Flo:=
 (aO (aD [] 2 (f2 ixD (af 0) (fC (.int 3))))
  (aO (aD [] 3 (f2 ixD (af 0) (fC (.int 4))))
  (cQ (f2 vt (af 3) (fL maxD (aa (fC (.int 0)) (aa (f2 zw (af 1) (af 2)) aC)))))))
noncomputable def eI (CR CP:Addr) (n:Nat):List Dat->M Dat:=cb 4 2 (qS CR CP n)
noncomputable def v5 (CR CP:Addr) (n:Nat):ao->M Flo:=
 (cQ (fL sumD (aa (fK (fZip (af 1) (af 2)) [none,none,some 0] (.tp [0,1]) sq (fL (eI CR CP n) (aa (f2 ixD (af 2) (f2 ixD (af 0) (fC (.int 0)))) (aa (af 1) aC)))) aC)))
noncomputable def hW (CR CP:Addr) (n:Nat):List Dat->M Dat:=cb 3 3 (v5 CR CP n)
noncomputable def dS (CR CP:Addr) (n:Nat):ao->M Flo:=
 sIf (fB (iI leD ltD (af 3) (af 1) (af 4)))
   (aO (aD [] 1 (af 4))
  (aD [] 2 (fC (.bl true))))
   eh
noncomputable def br (CR CP:Addr) (n:Nat):ao->M Flo:=
 (dS CR CP n)
noncomputable def bJ (CR CP:Addr) (n:Nat):ao->M Bool:=
 (xV (af 2))
noncomputable def dU (CR CP:Addr) (n:Nat):ao->M Flo:=
 (aO (aD [] 2 (fC (.bl false)))
  (tM [] (fIt (af 0)) (.tp [3,4]) (br CR CP n)))
noncomputable def jI (CR CP:Addr) (n:Nat):ao->M Flo:=
 (aO (aD [] 2 (fC (.bl true)))
  (aO (cw (bJ CR CP n) (dU CR CP n) n)
  (cQ (af 1))))
noncomputable def dA (CR CP:Addr) (n:Nat):List Dat->M Dat:=cb 5 2 (jI CR CP n)
noncomputable def my (CR CP:Addr) (n:Nat):ao->M Flo:=
 sIf (fB (f2 eqM (f2 ixD (af 2) (fC (.int 1))) (f2 ixD (af 3) (fC (.int 1)))))
   (cQ (f2 ixD (f2 ixD (f2 ixD (af 0) (fC (.int 0))) (af 4)) (af 5)))
   eh
noncomputable def lK (CR CP:Addr) (n:Nat):ao->M Flo:=
 (aO (aD [] 4 (f2 ixD (f2 ixD (af 1) (f2 ixD (af 2) (fC (.int 0)))) (fC (.int 0))))
  (aO (aD [] 5 (f2 ixD (f2 ixD (af 1) (f2 ixD (af 3) (fC (.int 0)))) (fC (.int 0))))
  (aO (my CR CP n)
  (cQ (f2 ixD (f2 ixD (f2 ixD (af 0) (fC (.int 1))) (af 4)) (af 5))))))
noncomputable def gQ (CR CP:Addr) (n:Nat):List Dat->M Dat:=cb 6 4 (lK CR CP n)
noncomputable def j6 (CR CP:Addr) (n:Nat):ao->M Flo:=
 (uE false 7 (fL maxD (aa (af 7) (aa (f2 fG (f2 ixD (af 4) (af 8)) (fL (gQ CR CP n) (aa (af 0) (aa (af 1) (aa (f2 ixD (af 3) (af 8)) (aa (f2 ixD (af 3) (af 5)) aC)))))) aC))))
noncomputable def mw (CR CP:Addr) (n:Nat):ao->M Flo:=
 sIf (fB (f2 gtD (af 7) (f2 ixD (af 6) (fC (.int 2)))))
   (cQ (fL bQ (aa (f2 ixD (f2 ixD (af 3) (af 5)) (fC (.int 0))) (aa (af 7) aC))))
   eh
noncomputable def j5 (CR CP:Addr) (n:Nat):ao->M Flo:=
 (aO (aD [4] 6 (f2 ixD (af 1) (f2 ixD (f2 ixD (af 3) (af 5)) (fC (.int 0)))))
  (aO (aD [4] 7 (f2 ixD (af 6) (fC (.int 1))))
  (aO (tM [4] (sr so (aa (af 5) aC)) (.nm 8) (j6 CR CP n))
  (aO (aD [4] 7 (fL (dA CR CP n) (aa (af 2) (aa (af 7) aC))))
  (aO (mw CR CP n)
  (mi [4] 4 (af 7)))))))
noncomputable def lJ (CR CP:Addr) (n:Nat):ao->M Flo:=
 (aO (aD [] 4 (fL cB aC))
  (aO (tM [4] (sr so (aa (fL qi (aa (af 3) aC)) aC)) (.nm 5) (j5 CR CP n))
  (cQ (af 4))))
noncomputable def eO (CR CP:Addr) (n:Nat):List Dat->M Dat:=cb 9 4 (lJ CR CP n)
noncomputable def jL (CR CP:Addr) (n:Nat):ao->M Flo:=
 (cQ (fL (bh CR CP n) (aa (f1 (rZ [CR,CP] "gaps") (af 0)) aC)))
noncomputable def bz (CR CP:Addr) (n:Nat):List Dat->M Dat:=cb 1 1 (jL CR CP n)
noncomputable def n8 (CR CP:Addr) (n:Nat):ao->M Flo:=
 sIf (fOr (zy (fB (iI leD ltD (fC (.int 0)) (af 1) (af 4)))) (zy (fB (iI leD ltD (fC (.int 0)) (af 2) (af 4)))))
   sStk
   eh
noncomputable def kK (CR CP:Addr) (n:Nat):ao->M Flo:=
 (aO (aD [] 4 (fL qi (aa (af 0) aC)))
  (aO (n8 CR CP n)
  (aO (wL 5 (fL (bh CR CP n) (aa (af 0) aC)) (af 3) (af 1) (af 2))
  (cQ (af 5)))))
noncomputable def cg (CR CP:Addr) (n:Nat):List Dat->M Dat:=cb 6 4 (kK CR CP n)
noncomputable def jK (CR CP:Addr) (n:Nat):ao->M Flo:=
 (cQ (fL (newR CR (az CR CP n)) (aa (fL (cg CR CP n) (aa (f1 (rZ [CR,CP] "gaps") (af 0)) (aa (af 1) (aa (af 2) (aa (af 3) aC))))) aC)))
noncomputable def dC (CR CP:Addr) (n:Nat):List Dat->M Dat:=cb 4 4 (jK CR CP n)
noncomputable def kO (CR CP:Addr) (n:Nat):ao->M Flo:=
 (cQ (fL (newP CP (az CR CP n)) (aa (fL (cg CR CP n) (aa (f1 (rZ [CR,CP] "gaps") (af 0)) (aa (af 1) (aa (af 2) (aa (af 3) aC))))) (aa (f1 (rZ [CP] "beside") (af 0)) aC))))
noncomputable def eQ (CR CP:Addr) (n:Nat):List Dat->M Dat:=cb 4 4 (kO CR CP n)
noncomputable def j4 (CR CP:Addr) (n:Nat):ao->M Flo:=
 sIf (fB (f2 ltD (f2 jA (af 2) (fC (.int 8))) (fC (.int 3))))
   (cQ (fL bQ (aa (iH CR CP "with_gap" (dC CR CP n) (eQ CR CP n) (af 0) (aa (af 7) (aa (af 8) (aa (f2 ck (f2 ixD (f2 ixD (af 6) (af 7)) (af 8)) (fC (.int 2))) aC)))) (aa (af 1) aC))))
   eh
noncomputable def dM (CR CP:Addr) (n:Nat):ao->M Flo:=
 sIf (DV (fB (f2 ltD (f2 jA (af 2) (fC (.int 8))) (fC (.int 5)))) (fB (f2 neM (af 4) (fL cB aC))))
   (aO (aD [] 9 (f2 jA (f2 ck (af 2) (fC (.int 8))) (fL qi (aa (af 4) aC))))
  (aO (sC [] (.tp [10,11]) (f2 ixD (af 4) (af 9)))
  (aO (aD [] 12 (f2 ck (f2 fG (af 10) (af 11)) (fC (.int 2))))
  (aO (aD [] 13 (f2 ixD (fL cB (aa (fL cB aC) (aa (fL cB (aa (fL bQ (aa (af 12) (aa (af 11) aC))) aC)) (aa (fL cB (aa (fL bQ (aa (af 10) (aa (f2 fG (af 12) (fC (.int 1))) aC))) aC)) aC)))) (f2 jA (f2 ck (af 2) (fC (.int 512))) (fC (.int 3)))))
  (cQ (fL bQ (aa (af 0) (aa (fL bQ (aa (af 3) (aa (f2 fG (f2 fG (fSl fy (af 4) pf (kA (af 9))) (af 13)) (fSl fy (af 4) (kA (f2 fG (af 9) (fC (.int 1)))) pf)) (aa (af 5) aC)))) aC))))))))
   eh
noncomputable def mx (CR CP:Addr) (n:Nat):ao->M Flo:=
 sIf (fB (f2 eqM (af 3) (fL cB aC)))
   (cQ (fL bQ (aa (af 0) (aa (af 1) aC))))
   eh
noncomputable def bF (CR CP:Addr) (n:Nat):ao->M Flo:=
 sIf (fB (f2 eqM (f2 jA (af 2) (fC (.int 2))) (fC (.int 1))))
   (aD [] 18 (fL bQ (aa (af 7) (aa (af 14) (aa (fL minD (aa (f2 wO (fC (.int 10)) (fC (.int 9))) (aa (f2 fG (af 15) (f2 jA (f2 ck (af 2) (fC (.int 512))) (fC (.int 1000)))) aC))) (aa (af 16) (aa (af 17) aC)))))))
   eh
noncomputable def gS (CR CP:Addr) (n:Nat):ao->M Flo:=
 (aO (sC [] (.tp [3,4,5]) (af 1))
  (aO (aD [] 6 (iH CR CP "gap_rows" (bz CR CP n) (bz CR CP n) (af 0) aC))
  (aO (aD [] 7 (f2 jA (f2 ck (af 2) (fC (.int 8))) (fL qi (aa (af 6) aC))))
  (aO (aD [] 8 (f2 jA (f2 ck (af 2) (fC (.int 64))) (fL qi (aa (af 6) aC))))
  (aO (j4 CR CP n)
  (aO (dM CR CP n)
  (aO (mx CR CP n)
  (aO (aD [] 9 (f2 jA (f2 ck (af 2) (fC (.int 8))) (fL qi (aa (af 3) aC))))
  (aO (sC [] (.tp [7,14,15,16,17]) (f2 ixD (af 3) (af 9)))
  (aO (aD [] 18 (fL bQ (aa (af 7) (aa (f2 zw (af 14) (f2 ck (af 14) (fC (.int 3)))) (aa (af 15) (aa (af 16) (aa (af 17) aC)))))))
  (aO (bF CR CP n)
  (cQ (fL bQ (aa (af 0) (aa (fL bQ (aa (f2 fG (f2 fG (fSl fy (af 3) pf (kA (af 9))) (fL cB (aa (af 18) aC))) (fSl fy (af 3) (kA (f2 fG (af 9) (fC (.int 1)))) pf)) (aa (af 4) (aa (af 5) aC)))) aC)))))))))))))))
noncomputable def bW (CR CP:Addr) (n:Nat):List Dat->M Dat:=cb 19 3 (gS CR CP n)
noncomputable def jY (CR CP:Addr) (n:Nat):ao->M Flo:=
 sIf (fOr (fB (f2 eqM (fL qi (aa (af 0) aC)) (fC (.int 0)))) (fB (f2 eqM (f2 jA (f2 ixD (af 0) (fC (.int 0))) (fC (.int 2))) (fC (.int 0)))))
   (cQ (fL (aK CR CP n) (aa (af 0) (aa (f2 fG (fC (.int 250)) (af 1)) aC))))
   eh
noncomputable def o9 (CR CP:Addr) (n:Nat):ao->M Flo:=
 (aD [] 2 (f2 ck (af 2) (f2 wO (fC (.int 10)) (fC (.int 18)))))
noncomputable def kL (CR CP:Addr) (n:Nat):ao->M Flo:=
 (aO (jY CR CP n)
  (aO (aD [] 2 (f2 ck (f2 ixD (af 0) (fC (.int 0))) (fC (.int 504))))
  (aO (tM [] (sr so (aa (af 1) aC)) (.nm 3) (o9 CR CP n))
  (cQ (f2 jA (af 2) (f2 wO (fC (.int 10)) (fC (.int 18))))))))
noncomputable def gG (CR CP:Addr) (n:Nat):List Dat->M Dat:=cb 4 2 (kL CR CP n)
noncomputable def v3 (CR CP:Addr) (n:Nat):ao->M Flo:=
 (cQ (f1 notD (fL anyD (aa (fK (fIt (af 0)) [none,none,some 1] (.tp [0,1]) sq (iI leD ltD (af 0) (af 2) (af 1))) aC))))
noncomputable def pk (CR CP:Addr) (n:Nat):List Dat->M Dat:=cb 2 2 (v3 CR CP n)
noncomputable def mn (CR CP:Addr) (n:Nat):ao->M Flo:=
 (cQ (xr (iI leD leD (f2 ixD (af 0) (fC (.int 1))) (af 2) (f2 ixD (af 0) (fC (.int 2)))) (fL (pk CR CP n) (aa (af 1) (aa (af 2) aC)))))
noncomputable def fU (CR CP:Addr) (n:Nat):List Dat->M Dat:=cb 3 3 (mn CR CP n)
noncomputable def mv (CR CP:Addr) (n:Nat):ao->M Flo:=
 sIf (zy (xV (fL (fU CR CP n) (aa (f2 ixD (af 1) (f2 ixD (f2 ixD (af 3) (af 6)) (fC (.int 0)))) (aa (af 2) (aa (af 7) aC))))))
   (cQ (fC (.bl false)))
   eh
noncomputable def gc (CR CP:Addr) (n:Nat):ao->M Flo:=
 sIf (xV (fL anyD (aa (fK (fIt (fL (dh CR CP n) (aa (af 0) (aa (af 5) (aa (af 4) (aa (af 6) aC)))))) [none,some 7] (.nm 0) sq (f2 ltD (af 1) (af 0))) aC)))
   (cQ (fC (.bl false)))
   eh
noncomputable def mz (CR CP:Addr) (n:Nat):ao->M Flo:=
 (aO (mv CR CP n)
  (gc CR CP n))
noncomputable def lI (CR CP:Addr) (n:Nat):ao->M Flo:=
 (aO (aD [] 5 (fL (fj CR CP n) (aa (af 1) (aa (af 3) aC))))
  (aO (tM [] (vI (af 4)) (.tp [6,7]) (mz CR CP n))
  (cQ (fC (.bl true)))))
noncomputable def gO (CR CP:Addr) (n:Nat):List Dat->M Dat:=cb 8 5 (lI CR CP n)
noncomputable def n9 (CR CP:Addr) (n:Nat):ao->M Flo:=
 sIf (fOr (fB (f2 neM (fL qi (aa (af 2) aC)) (fL qi (aa (af 3) aC)))) (fB (f2 neM (fK (sr so (aa (fL qi (aa (af 2) aC)) aC)) [none,some 2,some 3] (.nm 0) (fB (f2 gtD (f2 ixD (af 1) (af 0)) (f2 ixD (af 2) (af 0)))) (af 0)) (fL cB aC))))
   (cQ (fC (.bl false)))
   eh
noncomputable def kM (CR CP:Addr) (n:Nat):ao->M Flo:=
 (aO (n9 CR CP n)
  (cQ (f2 leD (fL (hW CR CP n) (aa (af 0) (aa (af 1) (aa (af 2) aC)))) (fL (hW CR CP n) (aa (af 0) (aa (af 1) (aa (af 3) aC)))))))
noncomputable def eN (CR CP:Addr) (n:Nat):List Dat->M Dat:=cb 4 4 (kM CR CP n)
noncomputable def nX (CR CP:Addr) (n:Nat):ao->M Flo:=
 sIf (fB (f2 eqM (af 3) (f2 ixD (af 0) (fC (.int 1)))))
   (cQ (fL bQ (aa (fC (.str "first")) aC)))
   eh
noncomputable def r6 (CR CP:Addr) (n:Nat):ao->M Flo:=
 sIf (fB (f2 inM (af 3) (af 2)))
   (cQ (fL bQ (aa (fC (.str "gap")) (aa (rO (af 2) (af 3)) aC))))
   eh
noncomputable def pN (CR CP:Addr) (n:Nat):ao->M Flo:=
 (aO (nX CR CP n)
  (aO (r6 CR CP n)
  (aO (aD [] 4 (fK (fIt (af 1)) [none,none] (.tp [0,1]) sq (af 1)))
  (cQ (fL bQ (aa (fC (.str "closed")) (aa (rO (af 4) (af 3)) aC)))))))
noncomputable def kB (CR CP:Addr) (n:Nat):List Dat->M Dat:=cb 5 4 (pN CR CP n)
noncomputable def o6 (CR CP:Addr) (n:Nat):ao->M Flo:=
 (aO (aD [6] 9 (fL (dh CR CP n) (aa (af 0) (aa (af 5) (aa (af 4) (aa (af 7) aC))))))
  (mi [6] 6 (fL (kB CR CP n) (aa (f2 ixD (af 1) (f2 ixD (f2 ixD (af 3) (af 7)) (fC (.int 0)))) (aa (af 2) (aa (af 9) (aa (af 8) aC)))))))
noncomputable def qR (CR CP:Addr) (n:Nat):ao->M Flo:=
 (aO (aD [] 4 (fL (gN CR CP n) (aa (af 0) (aa (af 1) (aa (af 2) (aa (af 3) aC))))))
  (aO (aD [] 5 (fL (fj CR CP n) (aa (af 1) (aa (af 3) aC))))
  (aO (aD [] 6 (fL cB aC))
  (aO (tM [6] (vI (af 4)) (.tp [7,8]) (o6 CR CP n))
  (cQ (af 6))))))
noncomputable def eG (CR CP:Addr) (n:Nat):List Dat->M Dat:=cb 10 4 (qR CR CP n)
noncomputable def t8 (CR CP:Addr) (n:Nat):ao->M Flo:=
 (cQ (iI leD ltD (fC (.int 0)) (af 1) (fL qi (aa (af 0) aC))))
noncomputable def mQ (CR CP:Addr) (n:Nat):List Dat->M Dat:=cb 2 2 (t8 CR CP n)
noncomputable def tT (CR CP:Addr) (n:Nat):ao->M Flo:=
 sIf (zy (xV (fL (mQ CR CP n) (aa (af 1) (aa (af 4) aC)))))
   sStk
   eh
noncomputable def gK (CR CP:Addr) (n:Nat):ao->M Bool:=
 (fB (f2 eqM (f2 ixD (f2 ixD (af 5) (f2 ixD (af 6) (f1 negD (fC (.int 1))))) (fC (.int 0))) (fC (.str "gap"))))
noncomputable def lO (CR CP:Addr) (n:Nat):ao->M Flo:=
 (yo 6 (f2 ixD (f2 ixD (af 5) (f2 ixD (af 6) (f1 negD (fC (.int 1))))) (fC (.int 1))))
noncomputable def t9 (CR CP:Addr) (n:Nat):ao->M Flo:=
 (aO (tT CR CP n)
  (aO (aD [] 5 (fL (eG CR CP n) (aa (af 0) (aa (af 1) (aa (af 2) (aa (af 3) aC))))))
  (aO (aD [] 6 (fL cB (aa (af 4) aC)))
  (aO (cw (gK CR CP n) (lO CR CP n) n)
  (cQ (f1 revD (af 6)))))))
noncomputable def mS (CR CP:Addr) (n:Nat):List Dat->M Dat:=cb 7 5 (t9 CR CP n)
noncomputable def nc (CR CP:Addr) (n:Nat):ao->M Flo:=
 sIf (fOr (fB (f2 neM (f2 ixD (af 5) (f1 negD (fC (.int 1)))) (af 4))) (fOr (fB (f2 eqM (f2 ixD (f2 ixD (af 3) (f2 ixD (af 5) (fC (.int 0)))) (fC (.int 0))) (fC (.str "gap")))) (fB (f2 gtD (f2 ixD (af 2) (f2 ixD (af 5) (fC (.int 0)))) (f2 ixD (af 2) (af 4))))))
   (cQ (fC (.bl false)))
   eh
noncomputable def iU (CR CP:Addr) (n:Nat):ao->M Flo:=
 (aO (aD [] 5 (fL (mS CR CP n) (aa (af 0) (aa (f2 ixD (af 1) (fC (.int 0))) (aa (f2 ixD (af 1) (fC (.int 1))) (aa (f2 ixD (af 1) (fC (.int 2))) (aa (af 4) aC)))))))
  (nc CR CP n))
noncomputable def kN (CR CP:Addr) (n:Nat):ao->M Flo:=
 (aO (aD [] 3 (fL (eG CR CP n) (aa (af 0) (aa (f2 ixD (af 1) (fC (.int 0))) (aa (f2 ixD (af 1) (fC (.int 1))) (aa (f2 ixD (af 1) (fC (.int 2))) aC))))))
  (aO (tM [] (fIt (fL cB (aa (fC (.int 0)) (aa (f2 zw (fL qi (aa (af 2) aC)) (fC (.int 1))) aC)))) (.nm 4) (iU CR CP n))
  (cQ (fC (.bl true)))))
noncomputable def eP (CR CP:Addr) (n:Nat):List Dat->M Dat:=cb 6 3 (kN CR CP n)
noncomputable def Ad (CR CP:Addr) (n:Nat):ao->M Flo:=
 sIf (xV (f1 mT (fL (eO CR CP n) (aa (af 1) (aa (af 2) (aa (f2 ixD (af 6) (fC (.int 1))) (aa (f2 ixD (af 6) (fC (.int 2))) aC)))))))
   (cQ (fC (.bl true)))
   eh
noncomputable def Ac (CR CP:Addr) (n:Nat):ao->M Flo:=
 sIf (fB (f2 notBD (fL (gO CR CP n) (aa (af 5) (aa (f2 ixD (af 6) (fC (.int 0))) (aa (f2 ixD (af 6) (fC (.int 1))) (aa (f2 ixD (af 6) (fC (.int 2))) (aa (af 7) aC)))))) (fC (.bl true))))
   (cQ (fC (.bl false)))
   eh
noncomputable def Aa (CR CP:Addr) (n:Nat):ao->M Flo:=
 sIf (zy (xV (fL (eN CR CP n) (aa (f2 ixD (af 6) (fC (.int 0))) (aa (f2 ixD (af 6) (fC (.int 2))) (aa (af 7) (aa (af 9) aC)))))))
   (cQ (fC (.bl false)))
   eh
noncomputable def A9 (CR CP:Addr) (n:Nat):ao->M Flo:=
 sIf (DV (fB (f2 gtD (fL qi (aa (af 7) aC)) (fC (.int 0)))) (zy (xV (fL (eP CR CP n) (aa (af 5) (aa (af 6) (aa (af 7) aC)))))))
   (cQ (fC (.bl false)))
   eh
noncomputable def vm (CR CP:Addr) (n:Nat):ao->M Flo:=
 (aO (sC [] (.tp [5,6]) (fL (bW CR CP n) (aa (af 5) (aa (af 6) (aa (fL (gG CR CP n) (aa (af 0) (aa (af 8) aC))) aC)))))
  (aO (Ac CR CP n)
  (aO (aD [] 9 (af 7))
  (aO (aD [] 7 (fL (gN CR CP n) (aa (af 5) (aa (f2 ixD (af 6) (fC (.int 0))) (aa (f2 ixD (af 6) (fC (.int 1))) (aa (f2 ixD (af 6) (fC (.int 2))) aC))))))
  (aO (Aa CR CP n)
  (A9 CR CP n))))))
noncomputable def Ek (CR CP:Addr) (n:Nat):ao->M Flo:=
 sIf (fB (f2 neM (fL (hW CR CP n) (aa (af 16) (aa (f2 ixD (af 6) (fC (.int 2))) (aa (af 7) aC)))) (f2 zw (af 10) (fL (eI CR CP n) (aa (f2 ixD (f2 ixD (af 6) (fC (.int 0))) (af 8)) (aa (f2 ixD (af 7) (af 17)) aC))))))
   (cQ (fC (.bl false)))
   eh
noncomputable def xJ (CR CP:Addr) (n:Nat):ao->M Flo:=
 (aO (sC [] (.tp [11,12,13,14,15]) (f2 ixD (f2 ixD (af 6) (fC (.int 0))) (af 8)))
  (aO (aD [] 16 (f2 fG (f2 fG (fSl fy (f2 ixD (af 6) (fC (.int 0))) pf (kA (af 8))) (fL cB (aa (fL bQ (aa (af 11) (aa (af 12) (aa (af 13) (aa (af 14) (aa (fC (.int 0)) aC)))))) aC))) (fSl fy (f2 ixD (af 6) (fC (.int 0))) (kA (f2 fG (af 8) (fC (.int 1)))) pf)))
  (aO (aD [] 17 (rO (fK (fIt (f2 ixD (af 6) (fC (.int 2)))) [none,none] (.tp [0,1]) sq (af 0)) (af 8)))
  (Ek CR CP n))))
noncomputable def g_law (CR CP:Addr) (n:Nat):ao->M Flo:=
 (aO (sC [] (.tp [1,2,3,4]) (fL (eK CR CP n) (aa (af 0) (aa (fC (.int 24)) aC))))
  (aO (aD [] 5 (fL (di CR CP n) (aa (af 1) aC)))
  (aO (aD [] 6 (fL bQ (aa (af 2) (aa (af 3) (aa (af 4) aC)))))
  (aO (Ad CR CP n)
  (aO (aD [] 7 (fL (gN CR CP n) (aa (af 5) (aa (f2 ixD (af 6) (fC (.int 0))) (aa (f2 ixD (af 6) (fC (.int 1))) (aa (f2 ixD (af 6) (fC (.int 2))) aC))))))
  (aO (tM [] (sr so (aa (fC (.int 6)) aC)) (.nm 8) (vm CR CP n))
  (aO (aD [] 10 (fL (hW CR CP n) (aa (f2 ixD (af 6) (fC (.int 0))) (aa (f2 ixD (af 6) (fC (.int 2))) (aa (af 7) aC)))))
  (aO (tM [] (sr so (aa (fL qi (aa (f2 ixD (af 6) (fC (.int 0))) aC)) aC)) (.nm 8) (xJ CR CP n))
  (cQ (fC (.bl true)))))))))))
noncomputable def Dk (CR CP:Addr) (n:Nat):List Dat->M Dat:=cb 18 1 (g_law CR CP n)
noncomputable def top (i:Nat):Stmt:=PySem.Challenge.pw_wakeorder_k27_whole_eased.main.body.getD i (.Pass ⟨0,0,0,0⟩)
noncomputable abbrev cN:Stmt:=top 35
noncomputable abbrev lD:Stmt:=top 43
noncomputable abbrev ny:Stmt:=top 36
noncomputable abbrev gY:Stmt:=top 37
noncomputable abbrev iZ:Stmt:=top 40
noncomputable abbrev dR:Stmt:=top 47
noncomputable abbrev nr:Stmt:=top 46
noncomputable abbrev dQ:Stmt:=top 48
noncomputable abbrev gk:Stmt:=top 49
noncomputable abbrev nz:Stmt:=top 50
noncomputable abbrev jU:Stmt:=top 41
noncomputable abbrev nt:Stmt:=top 42
noncomputable abbrev lC:Stmt:=top 52
noncomputable abbrev dc:Stmt:=top 29
noncomputable abbrev uk:Stmt:=top 27
noncomputable abbrev lB:Stmt:=top 28
noncomputable abbrev fP:Stmt:=top 30
noncomputable abbrev nv:Stmt:=top 38
noncomputable abbrev kf:Stmt:=top 13
noncomputable abbrev dP:Stmt:=top 7
noncomputable abbrev nq:Stmt:=top 9
noncomputable abbrev dg:Stmt:=inClass (top 32) 3
noncomputable abbrev eD:Stmt:=inClass (top 33) 2
noncomputable abbrev iJ:Stmt:=top 14
noncomputable abbrev mG:Stmt:=top 17
noncomputable abbrev kl:Stmt:=top 22
noncomputable abbrev oZ:Stmt:=top 23
noncomputable abbrev gh:Stmt:=top 44
noncomputable abbrev lG:Stmt:=top 39
noncomputable abbrev lE:Stmt:=top 45
noncomputable abbrev bg:Stmt:=inClass (top 32) 4
noncomputable abbrev eC:Stmt:=top 31
noncomputable abbrev bP:Stmt:=inClass (top 32) 5
noncomputable abbrev c9:Stmt:=inClass (top 33) 4
noncomputable abbrev lF:Stmt:=top 53
noncomputable abbrev nu:Stmt:=top 51
noncomputable abbrev rA:Stmt:=top 8
noncomputable abbrev iY:Stmt:=top 15
noncomputable abbrev lA:Stmt:=top 16
noncomputable abbrev gZ:Stmt:=top 54
noncomputable abbrev rz:Stmt:=top 18
noncomputable abbrev kj:Stmt:=top 19
noncomputable abbrev qf:Stmt:=top 11
noncomputable abbrev qg:Stmt:=top 20
noncomputable abbrev hG:Stmt:=top 55
noncomputable abbrev BB:Stmt:=top 56
noncomputable abbrev s_nR:Stmt:=inClass (top 32) 0
noncomputable abbrev s_nP:Stmt:=inClass (top 33) 0
structure Zs (K:PySem.W.Frag) (mg:Str->Option Value) (CR CP:Addr):Prop where
 kR:Kls K mg "Rules" CR
 kP:Kls K mg "Pair" CP
 rL:∀C∈[CR,CP],Cls K C/\oN K C "gaps"
 wb:∀C∈[CP],Cls K C/\oN K C "beside"
 Bq:mg "all"=none
 Bp:mg "any"=none
 xY:mg "bool"=none
 gE:mg "enumerate"=none
 zA:mg "int"=none
 cY:mg "isinstance"=none
 fH:mg "len"=none
 rp:mg "list"=none
 xX:mg "max"=none
 xW:mg "min"=none
 cL:mg "range"=none
 mD:mg "reversed"=none
 qe:mg "sorted"=none
 Cp:mg "sum"=none
 uB:mg "tuple"=none
 Co:mg "zip"=none
 fV:∃t,mg "GREATEST_GAP"=some (.int 1000000 t)
 jh:∃t,mg "MOST_KINDS"=some (.int 6 t)
 kit:Kit K
theorem lx:aH ["_law_script","_law_k","_law_cell","_law_number"] ["_law_script","_law_k"] (ar cN):=⟨rfl,rfl,rfl,by decide +kernel,rfl,by decide +kernel,by decide +kernel⟩
theorem yG {n:Nat} {P:Program} {w:World} {K:PySem.W.Frag} {mg:Str->Option Value} {base:Heap} {CR CP:Addr} (Z:Zs K mg CR CP) {aW:Addr} {aS:FuncData} (cP:Def K mg "_law_draw" cN ["_law_script","_law_k"] aW aS):cz P w K mg base CX0 1 aW aS ["_law_script","_law_k"] (spF K false (aK CR CP n) 2):=
 lj (O':=[]) cP.fn lx false (nQ CR CP n) fun cdv A outer s H E hr=>
  (ah (aq (i:=2) (own:=false) lx.nd (aj 1))
  (ah (fv (bN o_gt (aG iG Z.fH PySem.boot_len (a8 (aj 0) ai)) ae)
   (av (aq (i:=2) (own:=false) lx.nd (aw aY (aj 0) (au cf (aj 1) (aG iG Z.fH PySem.boot_len (a8 (aj 0) ai))))))
   bS)
  (ah (aq (i:=3) (own:=false) lx.nd (au cf (au oO (aA (au cA (aA (au cA (aj 2) (au oO (au oO ae (aj 1)) (aj 1)))) (aj 1))) ae) ae))
  (av (aJ (au bL (au cf (au oO (aj 3) ae) ae) ae))))))
theorem wK:aH ["_law_script"] ["_law_script"] (ar lD):=⟨rfl,rfl,rfl,by decide +kernel,rfl,by decide +kernel,by decide +kernel⟩
theorem wZ {n:Nat} {P:Program} {w:World} {K:PySem.W.Frag} {mg:Str->Option Value} {base:Heap} {CR CP:Addr} (Z:Zs K mg CR CP) {aW:Addr} {aS:FuncData} (ak:Yd P w K mg base CX0 1 "_law_draw" cN ["_law_script","_law_k"] (spF K false (aK CR CP n) 2) aW aS) {ju:Addr} {ib:FuncData} (m7:Def K mg "_law_scale" lD ["_law_script"] ju ib):cz P w K mg base CX0 2 ju ib ["_law_script"] (spF K false (cF CR CP n) 1):=
 lj (O':=[]) m7.fn wK false (gR CR CP n) fun cdv A outer s H E hr=>
  (av (aJ (aw aY (aA (cy (a8 ae (a8 ae (a8 ae (a8 (au ph ae ae) ai)))))) (au cf (ay ak.o hr ak.d.mg ak.d.fn.kp ak.d.bd (a8 (aj 0) (a8 ae ai))) ae))))
theorem gM:aH ["_law_script","_law_by","_law_kinds","_law_scale_here","_law_rows_here","_law_one","_law_row","_law_other","_law_number"] ["_law_script","_law_by","_law_kinds","_law_scale_here"] (ar ny):=⟨rfl,rfl,rfl,by decide +kernel,rfl,by decide +kernel,by decide +kernel⟩
theorem yE {n:Nat} {P:Program} {w:World} {K:PySem.W.Frag} {mg:Str->Option Value} {base:Heap} {CR CP:Addr} (Z:Zs K mg CR CP) {aW:Addr} {aS:FuncData} (ak:Yd P w K mg base CX0 1 "_law_draw" cN ["_law_script","_law_k"] (spF K false (aK CR CP n) 2) aW aS) {l3:Addr} {jn:FuncData} (oF:Def K mg "_law_gaps" ny ["_law_script","_law_by","_law_kinds","_law_scale_here"] l3 jn):cz P w K mg base CX0 2 l3 jn ["_law_script","_law_by","_law_kinds","_law_scale_here"] (spF K false (iN CR CP n) 4):=
 lj (O':=[]) oF.fn gM false (qW CR CP n) fun cdv A outer s H E hr=>
  (ah (aq (i:=4) (own:=true) gM.nd (cy ai))
  (ah (gT (pt:=.nm 5) (fM Z.cL (a8 (aj 2) ai)) (rT gM.nd)
   (ah (aq (i:=6) (own:=true) gM.nd (cy ai))
  (bE (O2:=[4,6]) (ah (gT (pt:=.nm 7) (fM Z.cL (a8 (aj 2) ai)) (rT gM.nd)
   (ah (aq (i:=8) (own:=false) gM.nd (ay ak.o hr ak.d.mg ak.d.fn.kp ak.d.bd (a8 (aj 0) (a8 (aA (au cA (aA (au cA (aj 1) (au oO (aj 5) (aj 2)))) (aj 7))) ai))))
  (av (ip (i:=6) (aA (au cA (au oO (au cf (aj 8) ae) (aj 3)) (au cf (au bL (aj 8) ae) (aj 3))))))))
  (bE (O2:=[4]) (av (ip (i:=4) (aj 6))))))))
  (bE (O2:=[]) (av (aJ (aj 4))))))
theorem gd:aH ["_law_script","_law_scale_here","_law_kinds","_law_beside"] ["_law_script","_law_scale_here"] (ar gY):=⟨rfl,rfl,rfl,by decide +kernel,rfl,by decide +kernel,by decide +kernel⟩
theorem u4 {n:Nat} {P:Program} {w:World} {K:PySem.W.Frag} {mg:Str->Option Value} {base:Heap} {CR CP:Addr} (Z:Zs K mg CR CP) {l3:Addr} {jn:FuncData} (eZ:Yd P w K mg base CX0 2 "_law_gaps" ny ["_law_script","_law_by","_law_kinds","_law_scale_here"] (spF K false (iN CR CP n) 4) l3 jn) {aW:Addr} {aS:FuncData} (ak:Yd P w K mg base CX0 1 "_law_draw" cN ["_law_script","_law_k"] (spF K false (aK CR CP n) 2) aW aS) {eV:Addr} {dD:FuncData} (iA:Def K mg "_law_rules_of" gY ["_law_script","_law_scale_here"] eV dD):cz P w K mg base CX0 3 eV dD ["_law_script","_law_scale_here"] (spF K false (cj CR CP n) 2):=
 lj (O':=[]) iA.fn gd false (i5 CR CP n) fun cdv A outer s H E hr=>
  (ah (aq (i:=2) (own:=false) gd.nd (aA (au cA ae (au cf (ay ak.o (hr.mono (by decide)) ak.d.mg ak.d.fn.kp ak.d.bd (a8 (aj 0) (a8 ae ai))) ae))))
  (ah (aq (i:=3) (own:=false) gd.nd Ba)
  (ah (fv (bN (zx hr.units) (au cf (ay ak.o (hr.mono (by decide)) ak.d.mg ak.d.fn.kp ak.d.bd (a8 (aj 0) (a8 ae ai))) ae) ae)
   (av (aq (i:=3) (own:=false) gd.nd (ay eZ.o hr eZ.d.mg eZ.d.fn.kp eZ.d.bd (a8 (aj 0) (a8 ae (a8 (aj 2) (a8 (aj 1) ai)))))))
   bS)
  (av (aJ (cx (a8 (ay eZ.o hr eZ.d.mg eZ.d.fn.kp eZ.d.bd (a8 (aj 0) (a8 ae (a8 (aj 2) (a8 (aj 1) ai))))) (a8 (aj 3) ai))))))))
theorem aV:aH ["_law_script","_law_rules","_law_most","_law_scale_here","_law_many","_law_flights_here","_law_k","_law_number","_law_first","_law_wide","_law_last","_law_due","_law_price"] ["_law_script","_law_rules","_law_most","_law_scale_here"] (ar iZ):=⟨rfl,rfl,rfl,by decide +kernel,rfl,by decide +kernel,by decide +kernel⟩
theorem uM {n:Nat} {P:Program} {w:World} {K:PySem.W.Frag} {mg:Str->Option Value} {base:Heap} {CR CP:Addr} (Z:Zs K mg CR CP) {aW:Addr} {aS:FuncData} (ak:Yd P w K mg base CX0 1 "_law_draw" cN ["_law_script","_law_k"] (spF K false (aK CR CP n) 2) aW aS) {fZ:Addr} {eU:FuncData} (ja:Def K mg "_law_flights" iZ ["_law_script","_law_rules","_law_most","_law_scale_here"] fZ eU):cz P w K mg base CX0 2 fZ eU ["_law_script","_law_rules","_law_most","_law_scale_here"] (spF K false (dJ CR CP n) 4):=
 lj (O':=[]) ja.fn aV false (mr CR CP n) fun cdv A outer s H E hr=>
  (ah (aq (i:=4) (own:=false) aV.nd (au cf (ay ak.o hr ak.d.mg ak.d.fn.kp ak.d.bd (a8 (aj 0) (a8 ae ai))) (aA (au cA (au bL (aj 2) ae) ae))))
  (ah (fv (bN (zx hr.units) (au cf (ay ak.o hr ak.d.mg ak.d.fn.kp ak.d.bd (a8 (aj 0) (a8 ae ai))) ae) ae)
   (av (aq (i:=4) (own:=false) aV.nd (aj 2)))
   bS)
  (ah (aq (i:=5) (own:=true) aV.nd (cy ai))
  (ah (gT (pt:=.nm 6) (fM Z.cL (a8 (aj 4) ai)) (rT aV.nd)
   (ah (aq (i:=7) (own:=false) aV.nd (ay ak.o hr ak.d.mg ak.d.fn.kp ak.d.bd (a8 (aj 0) (a8 (aA (au cA ae (aj 6))) ai))))
  (ah (aq (i:=8) (own:=false) aV.nd (au cf (au bL (aj 7) ae) (au oO (au oO ae (aj 3)) (aA (au cA (aj 6) ae)))))
  (ah (aq (i:=9) (own:=false) aV.nd (aw aY (aA (cy (a8 (au ph ae ae) (a8 (au oO (au oO ae (aj 3)) (aj 4)) (a8 (au oO (au oO ae (aj 3)) (aj 4)) (a8 (au oO ae (aj 3)) ai)))))) (au bL (au cf (aj 7) ae) ae)))
  (ah (aq (i:=10) (own:=false) aV.nd (aG (c_min rfl) Z.xW boot_min (a8 (au ph ae ae) (a8 (aA (au cA (aj 8) (aj 9))) ai))))
  (ah (aq (i:=11) (own:=false) aV.nd (aG (c_min rfl) Z.xW boot_min (a8 (au ph ae ae) (a8 (aA (au cA (aj 8) (au cf (au bL (aj 7) ae) (au oO ae (aj 3))))) ai))))
  (ah (aq (i:=12) (own:=false) aV.nd (aw aY (aA (cy (a8 (au cf (au bL (aj 7) ae) ae) (a8 (au cf (au bL (aj 7) ae) (aA (au cA (au ph ae ae) ae))) ai)))) (au cf (au bL (aj 7) ae) ae)))
  (av (ip (i:=5) (cx (a8 (au cf (au bL (aj 7) ae) (aG iG Z.fH PySem.boot_len (a8 (aw aY (aj 1) ae) ai))) (a8 (aj 8) (a8 (aj 10) (a8 (aj 11) (a8 (aj 12) ai)))))))))))))))
  (bE (O2:=[]) (av (aJ (aj 5))))))))
theorem bB:aH ["_law_cell","_law_many","_law_closed_here","_law_k","_law_start"] ["_law_cell","_law_many"] (ar dR):=⟨rfl,rfl,rfl,by decide +kernel,rfl,by decide +kernel,by decide +kernel⟩
theorem qF {n:Nat} {P:Program} {w:World} {K:PySem.W.Frag} {mg:Str->Option Value} {base:Heap} {CR CP:Addr} (Z:Zs K mg CR CP) {cK:Addr} {cq:FuncData} (e9:Def K mg "_law_free_closed" dR ["_law_cell","_law_many"] cK cq):cz P w K mg base CX0 1 cK cq ["_law_cell","_law_many"] (spF K false (cG CR CP n) 2):=
 lj (O':=[]) e9.fn bB false (i7 CR CP n) fun cdv A outer s H E hr=>
  (ah (aq (i:=2) (own:=true) bB.nd (cy ai))
  (ah (gT (pt:=.nm 3) (fM Z.cL (a8 (aj 1) ai)) (rT bB.nd)
   (ah (aq (i:=4) (own:=false) bB.nd (au cf (aj 0) (au ph ae ae)))
  (ah (aq (i:=0) (own:=false) bB.nd (au bL (aj 0) (au ph ae ae)))
  (ah (ip (i:=2) (cx (a8 (aj 4) (a8 (aA (au cA (aA (au cA (aj 4) ae)) (au cf (aj 0) (au zP (au ph ae ae) (aj 4))))) ai))))
  (av (aq (i:=0) (own:=false) bB.nd (au bL (aj 0) (au ph ae ae))))))))
  (bE (O2:=[]) (av (aJ (aj 2))))))
theorem gL:aH ["_law_cell","_law_kinds","_law_rows_here","_law_one","_law_row","_law_other"] ["_law_cell","_law_kinds"] (ar nr):=⟨rfl,rfl,rfl,by decide +kernel,rfl,by decide +kernel,by decide +kernel⟩
theorem yA {n:Nat} {P:Program} {w:World} {K:PySem.W.Frag} {mg:Str->Option Value} {base:Heap} {CR CP:Addr} (Z:Zs K mg CR CP) {kW:Addr} {jj:FuncData} (oA:Def K mg "_law_rows" nr ["_law_cell","_law_kinds"] kW jj):cz P w K mg base CX0 1 kW jj ["_law_cell","_law_kinds"] (spF K false (iL CR CP n) 2):=
 lj (O':=[]) oA.fn gL false (qU CR CP n) fun cdv A outer s H E hr=>
  (ah (aq (i:=2) (own:=true) gL.nd (cy ai))
  (ah (gT (pt:=.nm 3) (fM Z.cL (a8 (aj 1) ai)) (rT gL.nd)
   (ah (aq (i:=4) (own:=true) gL.nd (cy ai))
  (bE (O2:=[2,4]) (ah (gT (pt:=.nm 5) (fM Z.cL (a8 (aj 1) ai)) (rT gL.nd)
   (ah (ip (i:=4) (au cf (aj 0) (aA (au cA (au ph ae ae) ae))))
  (av (aq (i:=0) (own:=false) gL.nd (au bL (aj 0) (aA (au cA (au ph ae ae) ae)))))))
  (bE (O2:=[2]) (av (ip (i:=2) (aj 4))))))))
  (bE (O2:=[]) (av (aJ (aj 2))))))
theorem bj:aH ["_law_cell","_law_kinds","_law_kind","_law_numbers","_law_k","_law_first"] ["_law_cell","_law_kinds"] (ar dQ):=⟨rfl,rfl,rfl,by decide +kernel,rfl,by decide +kernel,by decide +kernel⟩
theorem qE {n:Nat} {P:Program} {w:World} {K:PySem.W.Frag} {mg:Str->Option Value} {base:Heap} {CR CP:Addr} (Z:Zs K mg CR CP) {cJ:Addr} {cn:FuncData} (e8:Def K mg "_law_free_flight" dQ ["_law_cell","_law_kinds"] cJ cn):cz P w K mg base CX0 1 cJ cn ["_law_cell","_law_kinds"] (spF K false (bM CR CP n) 2):=
 lj (O':=[]) e8.fn bj false (i6 CR CP n) fun cdv A outer s H E hr=>
  (ah (aq (i:=2) (own:=false) bj.nd (au cf (aj 0) (aj 1)))
  (ah (aq (i:=3) (own:=true) bj.nd (cy ai))
  (ah (aq (i:=0) (own:=false) bj.nd (au bL (aj 0) (aj 1)))
  (ah (gT (pt:=.nm 4) (fM Z.cL (a8 ae ai)) (rT bj.nd)
   (ah (ip (i:=3) (au cf (aj 0) (aA (au cA (au ph ae ae) ae))))
  (av (aq (i:=0) (own:=false) bj.nd (au bL (aj 0) (aA (au cA (au ph ae ae) ae)))))))
  (bE (O2:=[]) (ah (aq (i:=5) (own:=false) bj.nd (aw aY (aj 3) ae))
  (av (aJ (cx (a8 (aj 2) (a8 (aj 5) (a8 (aA (au cA (aj 5) (au cf (aw aY (aj 3) ae) (aA (au cA (au zP (au ph ae ae) (aj 5)) ae))))) (a8 (aw aY (aj 3) ae) (a8 (aw aY (aj 3) ae) ai))))))))))))))
theorem bY:aH ["_law_cell","_law_many","_law_strips","_law_left","_law_pairs","_law_flight"] ["_law_cell","_law_many","_law_strips"] (ar gk):=⟨rfl,rfl,rfl,by decide +kernel,rfl,by decide +kernel,by decide +kernel⟩
theorem sI {n:Nat} {P:Program} {w:World} {K:PySem.W.Frag} {mg:Str->Option Value} {base:Heap} {CR CP:Addr} (Z:Zs K mg CR CP) {dI:Addr} {cU:FuncData} (gB:Def K mg "_law_free_plan" gk ["_law_cell","_law_many","_law_strips"] dI cU):cz P w K mg base CX0 1 dI cU ["_law_cell","_law_many","_law_strips"] (spF K false (dB CR CP n) 3):=
 lj (O':=[]) gB.fn bY false (jJ CR CP n) fun cdv A outer s H E hr=>
  (ah (aq (i:=3) (own:=true) bY.nd (de_lrng1 Z.rp Z.cL (a8 (aj 1) ai)))
  (ah (aq (i:=4) (own:=true) bY.nd (cy ai))
  (bE (O2:=[3,4]) (ah (uw (m:=n) (bN o_gt (aG iG Z.fH PySem.boot_len (a8 (aj 3) ai)) ae)
   (ah (ds_pop (i:=3) (j:=5) bY.nd (au cf (aj 0) (aG iG Z.fH PySem.boot_len (a8 (aj 3) ai))))
  (ah (vc (i:=0) (own:=false) bY.nd (au bL (aj 0) (aA (au cA (aG iG Z.fH PySem.boot_len (a8 (aj 3) ai)) ae))))
  (ah (ip (i:=4) (cx (a8 (aj 5) (a8 (au cf (aj 0) (aj 2)) ai))))
  (av (aq (i:=0) (own:=false) bY.nd (au bL (aj 0) (aj 2))))))))
  (bE (O2:=[]) (av (aJ (aj 4))))))))
theorem d6:aH ["_law_script","_law_most","_law_cells","_law_kinds","_law_strips","_law_beside","_law_flights_here","_law_closed_here"] ["_law_script","_law_most"] (ar nz):=⟨rfl,rfl,rfl,by decide +kernel,rfl,by decide +kernel,by decide +kernel⟩
theorem yF {n:Nat} {P:Program} {w:World} {K:PySem.W.Frag} {mg:Str->Option Value} {base:Heap} {CR CP:Addr} (Z:Zs K mg CR CP) {cK:Addr} {cq:FuncData} (dZ:Yd P w K mg base CX0 1 "_law_free_closed" dR ["_law_cell","_law_many"] (spF K false (cG CR CP n) 2) cK cq) {kW:Addr} {jj:FuncData} (eY:Yd P w K mg base CX0 1 "_law_rows" nr ["_law_cell","_law_kinds"] (spF K false (iL CR CP n) 2) kW jj) {cJ:Addr} {cn:FuncData} (dY:Yd P w K mg base CX0 1 "_law_free_flight" dQ ["_law_cell","_law_kinds"] (spF K false (bM CR CP n) 2) cJ cn) {dI:Addr} {cU:FuncData} (gz:Yd P w K mg base CX0 1 "_law_free_plan" gk ["_law_cell","_law_many","_law_strips"] (spF K false (dB CR CP n) 3) dI cU) {l4:Addr} {jo:FuncData} (oG:Def K mg "_law_free" nz ["_law_script","_law_most"] l4 jo):cz P w K mg base CX0 2 l4 jo ["_law_script","_law_most"] (spF K false (iO CR CP n) 2):=
 lj (O':=[]) oG.fn d6 false (nP CR CP n) fun cdv A outer s H E hr=>
  (ah (aq (i:=2) (own:=false) d6.nd (aA (au cA (aA (yW x_sl (aj 0) qY (nU ae))) (aA (de_rep (cy (a8 ae ai)) ae)))))
  (ah (aq (i:=3) (own:=false) d6.nd (aA (au cA ae (au cf (au bL (aw aY (aj 2) ae) ae) ae))))
  (ah (aq (i:=4) (own:=false) d6.nd (aA (au cA ae (au cf (au bL (aw aY (aj 2) ae) ae) ae))))
  (ah (aq (i:=5) (own:=false) d6.nd Ba)
  (ah (fv (bN (zx hr.units) (aj 4) ae)
   (av (aq (i:=5) (own:=false) d6.nd (ay eY.o hr eY.d.mg eY.d.fn.kp eY.d.bd (a8 (aw aY (aj 2) ae) (a8 (aj 3) ai)))))
   bS)
  (ah (B9 (i:=6) false ["_law_cell","_law_kinds"] [none,some 3] d6.nd (lN (aA (yW x_sl (aj 0) (nU ae) (nU (aA (au cA ae (aj 1))))))) (fun _ _ _ _ _=>rS (by decide +kernel)) (dk rfl) (fun _ _ _ _ _=>iR) (fun _ _ _ _ _=>(ay dY.o hr dY.d.mg dY.d.fn.kp dY.d.bd (a8 (aj 0) (a8 (aj 1) ai)))))
  (ah (aq (i:=7) (own:=false) d6.nd (ay dZ.o hr dZ.d.mg dZ.d.fn.kp dZ.d.bd (a8 (aw aY (aj 2) ae) (a8 (au cf (au bL (aw aY (aj 2) ae) ae) ae) ai))))
  (av (aJ (cx (a8 (cx (a8 (ay eY.o hr eY.d.mg eY.d.fn.kp eY.d.bd (a8 (aw aY (aj 2) ae) (a8 (aj 3) ai))) (a8 (aj 5) ai))) (a8 (aj 6) (a8 (aj 7) (a8 (ay gz.o hr gz.d.mg gz.d.fn.kp gz.d.bd (a8 (aw aY (aj 2) ae) (a8 (aG iG Z.fH PySem.boot_len (a8 (aj 6) ai)) (a8 (aj 4) ai)))) ai))))))))))))))
theorem cM:aH ["_law_script","_law_scale_here","_law_many","_law_closed_here","_law_k","_law_number","_law_start"] ["_law_script","_law_scale_here"] (ar jU):=⟨rfl,rfl,rfl,by decide +kernel,rfl,by decide +kernel,by decide +kernel⟩
theorem vB {n:Nat} {P:Program} {w:World} {K:PySem.W.Frag} {mg:Str->Option Value} {base:Heap} {CR CP:Addr} (Z:Zs K mg CR CP) {aW:Addr} {aS:FuncData} (ak:Yd P w K mg base CX0 1 "_law_draw" cN ["_law_script","_law_k"] (spF K false (aK CR CP n) 2) aW aS) {ik:Addr} {fW:FuncData} (kc:Def K mg "_law_closed" jU ["_law_script","_law_scale_here"] ik fW):cz P w K mg base CX0 2 ik fW ["_law_script","_law_scale_here"] (spF K false (fm CR CP n) 2):=
 lj (O':=[]) kc.fn cM false (nR CR CP n) fun cdv A outer s H E hr=>
  (ah (aq (i:=2) (own:=false) cM.nd (au cf (ay ak.o hr ak.d.mg ak.d.fn.kp ak.d.bd (a8 (aj 0) (a8 ae ai))) ae))
  (ah (fv (bN (zx hr.units) (au cf (ay ak.o hr ak.d.mg ak.d.fn.kp ak.d.bd (a8 (aj 0) (a8 ae ai))) ae) ae)
   (av (aq (i:=2) (own:=false) cM.nd ae))
   bS)
  (ah (aq (i:=3) (own:=true) cM.nd (cy ai))
  (ah (gT (pt:=.nm 4) (fM Z.cL (a8 (aj 2) ai)) (rT cM.nd)
   (ah (aq (i:=5) (own:=false) cM.nd (ay ak.o hr ak.d.mg ak.d.fn.kp ak.d.bd (a8 (aj 0) (a8 (aA (au cA ae (aj 4))) ai))))
  (ah (aq (i:=6) (own:=false) cM.nd (au cf (au bL (aj 5) ae) (au oO ae (aj 1))))
  (av (ip (i:=3) (cx (a8 (aj 6) (a8 (aA (au cA (aA (au cA (aj 6) ae)) (au oO (au cf (aj 5) ae) (aj 1)))) ai))))))))
  (bE (O2:=[]) (av (aJ (aj 3))))))))
theorem cZ:aH ["_law_script","_law_rules","_law_flights_here","_law_left","_law_pairs","_law_strips","_law_number","_law_at","_law_first","_law_k"] ["_law_script","_law_rules","_law_flights_here"] (ar nt):=⟨rfl,rfl,rfl,by decide +kernel,rfl,by decide +kernel,by decide +kernel⟩
theorem yB {n:Nat} {P:Program} {w:World} {K:PySem.W.Frag} {mg:Str->Option Value} {base:Heap} {CR CP:Addr} (Z:Zs K mg CR CP) {aW:Addr} {aS:FuncData} (ak:Yd P w K mg base CX0 1 "_law_draw" cN ["_law_script","_law_k"] (spF K false (aK CR CP n) 2) aW aS) {kY:Addr} {jk:FuncData} (oB:Def K mg "_law_plan" nt ["_law_script","_law_rules","_law_flights_here"] kY jk):cz P w K mg base CX0 2 kY jk ["_law_script","_law_rules","_law_flights_here"] (spF K false (iM CR CP n) 3):=
 lj (O':=[]) oB.fn cZ false (qV CR CP n) fun cdv A outer s H E hr=>
  (ah (aq (i:=3) (own:=true) cZ.nd (aG Bh Z.qe boot_sorted (a8 (aA (l6 ["_law_k","_law_flights_here"] [none,some 2] (fM Z.cL (a8 (aG iG Z.fH PySem.boot_len (a8 (aj 2) ai)) ai)) (fun _ _ _ _ _=>rS (by decide +kernel)) (dk rfl) (fun _ _ _ _ _=>iR) (fun _ _ _ _ _=>(cx (a8 (aw aY (aw aY (aj 1) (aj 0)) ae) (a8 (aj 0) ai)))))) ai)))
  (ah (aq (i:=4) (own:=true) cZ.nd (cy ai))
  (bE (O2:=[3,4]) (ah (aq (i:=5) (own:=false) cZ.nd (au zP ae (rV c_int Z.zA PyProof.Rows.boot_int (a8 (yZ o_isN (aw aY (aj 1) ae) Ba) ai))))
  (ah (uw (m:=n) (bN o_gt (aG iG Z.fH PySem.boot_len (a8 (aj 3) ai)) ae)
   (ah (vc (i:=6) (own:=false) cZ.nd (ay ak.o hr ak.d.mg ak.d.fn.kp ak.d.bd (a8 (aj 0) (a8 (aA (au cA ae (aG iG Z.fH PySem.boot_len (a8 (aj 3) ai)))) ai))))
  (ah (vc (i:=7) (own:=false) cZ.nd (au oO (au cf (au bL (aj 6) ae) (aG (c_min rfl) Z.xW boot_min (a8 (aG iG Z.fH PySem.boot_len (a8 (aj 3) ai)) (a8 ae ai)))) (rV c_int Z.zA PyProof.Rows.boot_int (a8 (yZ (zx hr.units) (au cf (aj 6) ae) ae) ai))))
  (ah (ds_popU (i:=3) (oP rfl (aM (i:=8) cZ.nd (aM (i:=9) cZ.nd dN))) (aj 7))
  (av (ip (i:=4) (cx (a8 (aj 9) (a8 (au cf (au bL (aj 6) ae) (aj 5)) ai)))))))))
  (bE (O2:=[]) (av (aJ (aj 4)))))))))
theorem jT:aH ["_law_script","_law_most","_law_scale_here","_law_rules","_law_flights_here"] ["_law_script","_law_most"] (ar lC):=⟨rfl,rfl,rfl,by decide +kernel,rfl,by decide +kernel,by decide +kernel⟩
theorem wY {n:Nat} {P:Program} {w:World} {K:PySem.W.Frag} {mg:Str->Option Value} {base:Heap} {CR CP:Addr} (Z:Zs K mg CR CP) {ju:Addr} {ib:FuncData} (lS:Yd P w K mg base CX0 2 "_law_scale" lD ["_law_script"] (spF K false (cF CR CP n) 1) ju ib) {eV:Addr} {dD:FuncData} (iw:Yd P w K mg base CX0 3 "_law_rules_of" gY ["_law_script","_law_scale_here"] (spF K false (cj CR CP n) 2) eV dD) {fZ:Addr} {eU:FuncData} (j8:Yd P w K mg base CX0 2 "_law_flights" iZ ["_law_script","_law_rules","_law_most","_law_scale_here"] (spF K false (dJ CR CP n) 4) fZ eU) {l4:Addr} {jo:FuncData} (ot:Yd P w K mg base CX0 2 "_law_free" nz ["_law_script","_law_most"] (spF K false (iO CR CP n) 2) l4 jo) {ik:Addr} {fW:FuncData} (k9:Yd P w K mg base CX0 2 "_law_closed" jU ["_law_script","_law_scale_here"] (spF K false (fm CR CP n) 2) ik fW) {kY:Addr} {jk:FuncData} (om:Yd P w K mg base CX0 2 "_law_plan" nt ["_law_script","_law_rules","_law_flights_here"] (spF K false (iM CR CP n) 3) kY jk) {jt:Addr} {ia:FuncData} (m6:Def K mg "_law_state" lC ["_law_script","_law_most"] jt ia):cz P w K mg base CX0 4 jt ia ["_law_script","_law_most"] (spF K false (eK CR CP n) 2):=
 lj (O':=[]) m6.fn jT false (jg CR CP n) fun cdv A outer s H E hr=>
  (ah (fv (PW.pt (B8 (bN o_gt (aG iG Z.fH PySem.boot_len (a8 (aj 0) ai)) ae) (xx (bN (zx hr.units) (au cf (aw aY (aj 0) ae) ae) ae))))
   (av (aJ (ay ot.o (hr.mono (by decide)) ot.d.mg ot.d.fn.kp ot.d.bd (a8 (aj 0) (a8 (aj 1) ai)))))
   bS)
  (ah (aq (i:=2) (own:=false) jT.nd (ay lS.o (hr.mono (by decide)) lS.d.mg lS.d.fn.kp lS.d.bd (a8 (aj 0) ai)))
  (ah (aq (i:=3) (own:=false) jT.nd (ay iw.o hr iw.d.mg iw.d.fn.kp iw.d.bd (a8 (aj 0) (a8 (aj 2) ai))))
  (ah (aq (i:=4) (own:=false) jT.nd (ay j8.o (hr.mono (by decide)) j8.d.mg j8.d.fn.kp j8.d.bd (a8 (aj 0) (a8 (aj 3) (a8 (aj 1) (a8 (aj 2) ai))))))
  (av (aJ (cx (a8 (aj 3) (a8 (aj 4) (a8 (ay k9.o (hr.mono (by decide)) k9.d.mg k9.d.fn.kp k9.d.bd (a8 (aj 0) (a8 (aj 2) ai))) (a8 (ay om.o (hr.mono (by decide)) om.d.mg om.d.fn.kp om.d.bd (a8 (aj 0) (a8 (aj 3) (a8 (aj 4) ai)))) ai)))))))))))
theorem qt:aH ["rows"] ["rows"] (ar dc):=⟨rfl,rfl,rfl,by decide +kernel,rfl,by decide +kernel,by decide +kernel⟩
theorem vA {n:Nat} {P:Program} {w:World} {K:PySem.W.Frag} {mg:Str->Option Value} {base:Heap} {CR CP:Addr} (Z:Zs K mg CR CP) {aZ:Addr} {aT:FuncData} (bV:Def K mg "copied_rows" dc ["rows"] aZ aT):cz P w K mg base CX0 1 aZ aT ["rows"] (spF K false (bh CR CP n) 1):=
 lj (O':=[]) bV.fn qt false (nM CR CP n) fun cdv A outer s H E hr=>
  (av (aJ (aA (l6 ["row"] [none] (lN (aj 0)) (fun _ _ _ _ _=>rS (by decide +kernel)) (dk rfl) (fun _ _ _ _ _=>iR) (fun _ _ _ _ _=>(aA (rV c_list Z.rp PyProof.Rows.boot_list (a8 (aj 0) ai))))))))
theorem uJ {n:Nat} {P:Program} {w:World} {K:PySem.W.Frag} {mg:Str->Option Value} {base:Heap} {CR CP:Addr} (Z:Zs K mg CR CP) {aZ:Addr} {aT:FuncData} (bV:Def K mg "copied_rows" dc ["rows"] aZ aT):cz P w K mg base CX0 1 aZ aT ["rows"] (spO K (bh CR CP n) 1):=
 fn_O bV.fn qt Dr fun cdv A outer s H E hr=>
  wN (ps_ret (D5 ["row"] [none] rfl (lN (aj 0)) (fun _ _ _ _ _=>rS (by decide +kernel)) (dk rfl) (fun _ _ _ _ _=>iR) (fun _ _ _ _ _=>(rV c_list Z.rp PyProof.Rows.boot_list (a8 (aj 0) ai))) rfl rfl (by intro _;rfl)))
theorem CJ:aH ["number"] ["number"] (ar uk):=⟨rfl,rfl,rfl,by decide +kernel,rfl,by decide +kernel,by decide +kernel⟩
theorem D9 {n:Nat} {P:Program} {w:World} {K:PySem.W.Frag} {mg:Str->Option Value} {base:Heap} {CR CP:Addr} (Z:Zs K mg CR CP) {rM:Addr} {pP:FuncData} (uz:Def K mg "is_gap" uk ["number"] rM pP):cz P w K mg base CX0 1 rM pP ["number"] (spF K false (nE CR CP n) 1):=
 lj (O':=[]) uz.fn CJ false (xq CR CP n) fun cdv A outer s H E hr=>
  (ah (fv (PW.pt (C4 (rQ (pS (C5 Z.kit Z.cY Z.zA (aj 0)))) (yT (pS (A6 Z.kit Z.cY Z.xY (aj 0))))))
   (av (aJ pU))
   bS)
  (av (aJ (ux AW AW ae (aj 0) (E5 Z.fV)))))
theorem wJ:aH ["row","kinds"] ["row","kinds"] (ar lB):=⟨rfl,rfl,rfl,by decide +kernel,rfl,by decide +kernel,by decide +kernel⟩
theorem wX {n:Nat} {P:Program} {w:World} {K:PySem.W.Frag} {mg:Str->Option Value} {base:Heap} {CR CP:Addr} (Z:Zs K mg CR CP) {rM:Addr} {pP:FuncData} (uy:Yd P w K mg base CX0 1 "is_gap" uk ["number"] (spF K false (nE CR CP n) 1) rM pP) {jr:Addr} {i9:FuncData} (m5:Def K mg "is_gap_row" lB ["row","kinds"] jr i9):cz P w K mg base CX0 2 jr i9 ["row","kinds"] (spF K false (eJ CR CP n) 2):=
 lj (O':=[]) m5.fn wJ false (pO CR CP n) fun cdv A outer s H E hr=>
  (av (aJ (E6 (A5 Z.kit Z.cY Z.rp (aj 0)) (E6 (yZ (zx hr.units) (aG iG Z.fH PySem.boot_len (a8 (aj 0) ai)) (aj 1)) (de_one (aG (c_all rfl) Z.Bq boot_all (a8 (aA (l6 ["number"] [none] (lN (aj 0)) (fun _ _ _ _ _=>rS (by decide +kernel)) (dk rfl) (fun _ _ _ _ _=>iR) (fun _ _ _ _ _=>(ay uy.o hr uy.d.mg uy.d.fn.kp uy.d.bd (a8 (aj 0) ai))))) ai)))))))
theorem oY:aH ["rows","kinds"] ["rows"] (ar fP):=⟨rfl,rfl,rfl,by decide +kernel,rfl,by decide +kernel,by decide +kernel⟩
theorem uL {n:Nat} {P:Program} {w:World} {K:PySem.W.Frag} {mg:Str->Option Value} {base:Heap} {CR CP:Addr} (Z:Zs K mg CR CP) {aZ:Addr} {aT:FuncData} (b9:Yd P w K mg base CX0 1 "copied_rows" dc ["rows"] (spF K false (bh CR CP n) 1) aZ aT) {jr:Addr} {i9:FuncData} (lQ:Yd P w K mg base CX0 2 "is_gap_row" lB ["row","kinds"] (spF K false (eJ CR CP n) 2) jr i9) {bC:Addr} {bq:FuncData} (aR:Def K mg "checked_rows" fP ["rows"] bC bq):cz P w K mg base CX0 3 bC bq ["rows"] (spF K false (az CR CP n) 1):=
 lj (O':=[]) aR.fn oY false (mq CR CP n) fun cdv A outer s H E hr=>
  (ah (aq (i:=1) (own:=false) oY.nd (aG iG Z.fH PySem.boot_len (a8 (aj 0) ai)))
  (ah (fv (rQ (rR AW AW ae (aj 1) (E5 Z.jh)))
   (av yU)
   bS)
  (ah (fv (rQ (pS (aG (c_all rfl) Z.Bq boot_all (a8 (aA (l6 ["row","kinds"] [none,some 1] (lN (aj 0)) (fun _ _ _ _ _=>rS (by decide +kernel)) (dk rfl) (fun _ _ _ _ _=>iR) (fun _ _ _ _ _=>(ay lQ.o hr lQ.d.mg lQ.d.fn.kp lQ.d.bd (a8 (aj 0) (a8 (aj 1) ai)))))) ai))))
   (av yU)
   bS)
  (av (aJ (ay b9.o (hr.mono (by decide)) b9.d.mg b9.d.fn.kp b9.d.bd (a8 (aj 0) ai)))))))
theorem sc_nR:aH ["self","gaps"] ["self","gaps"] (ar s_nR):=⟨rfl,rfl,rfl,by decide +kernel,rfl,by decide +kernel,by decide +kernel⟩
theorem okn_R {n:Nat} {P:Program} {w:World} {K:PySem.W.Frag} {mg:Str->Option Value} {base:Heap} {CR CP:Addr} {C bC f:Addr} {bq fd:FuncData} (aR:Def K mg "checked_rows" fP ["rows"] bC bq) (OK:cz P w K mg base CX0 3 bC bq ["rows"] (spF K false (az CR CP n) 1))
  (N:Fun K "__init__" "Rules.__init__" s_nR f fd) (cl:Cls K C) (na:oN K C "gaps"):cz P w K mg base CX0 4 f fd ["self","gaps"] (spI1 K C (az CR CP n)):=by
 refine N.okX sc_nR (fun vs H Q E h=>?_) (fun cdv A outer s H vs Q E hr h=>?_)
 ·obtain ⟨p,dx,v,F,d,rfl,_⟩:=h
  rfl
 ·obtain ⟨p,dx,v,F,d,rfl,hp,hF,s1,qd,q⟩:=h
  refine ⟨_,wN (ps_fld (pv 0) (wU OK hr (by rfl) aR.mg aR.fn.kp aR.bd .nil wV (bc (pv 1) fE)) rfl),?_⟩
  refine ⟨v,rfl,F,[d],s1,⟨v,[],rfl,qd,rfl⟩,rfl,?_⟩
  skip
  cases hg:az CR CP n [d] with
  |error e=>rw [hg] at q;exact q
  |ok r=>
   rw [hg] at q
   intro u F' H' st qw
   have hF1:F' p=none:=by
    cases hz:F' p with
    |none=>rfl
    |some o=>
     rcases st.nw p o hz with z|z
     ·rw [hF] at z;cases z
     ·rw [hp] at z;cases z
   refine ⟨_,rfl,p,C,dx,[],rfl,st.hh _ _ hp,cl,na,(by show 0<1000;decide),?_⟩
   refine q u F' _ st.ff (fun c o e=>?_) hF1 st.nw (fun c o e hc=>by rw [aL hc];exact st.hh _ _ e) aP qw
   have hc:c≠p:=fun z=>by rw [z,hF1] at e;cases e
   rw [aL hc]
   exact st.fh _ _ e
theorem putGB (a b:V):xU ("beside":Str) b [(("gaps":Str),a)]=[(("gaps":Str),a),(("beside":Str),b)]:=by
 show (if ("gaps":Str)="beside" then _ else (("gaps":Str),a)::xU "beside" b [])=_
 rw [if_neg (by decide +kernel)]
 rfl
theorem sc_nP:aH ["self","gaps","beside"] ["self","gaps","beside"] (ar s_nP):=⟨rfl,rfl,rfl,by decide +kernel,rfl,by decide +kernel,by decide +kernel⟩
theorem okn_P {n:Nat} {P:Program} {w:World} {K:PySem.W.Frag} {mg:Str->Option Value} {base:Heap} {CR CP:Addr} {bC f fR:Addr} {bq fd fdR:FuncData} {mc:Value} (aR:Def K mg "checked_rows" fP ["rows"] bC bq) (OK:cz P w K mg base CX0 3 bC bq ["rows"] (spF K false (az CR CP n) 1))
  (S:Stat K CR mc "__init__" fR) (bI:Binds K fdR ["self","gaps"] []) (FI:cz P w K mg base CX0 4 fR fdR ["self","gaps"] (spI1 K CP (az CR CP n))) (mR:mg "Rules"=some (.ref CR)) (zl:mg "len"=none)
  (N:Fun K "__init__" "Pair.__init__" s_nP f fd) (cl:Cls K CP) (na:oN K CP "gaps") (nb:oN K CP "beside"):cz P w K mg base CX0 5 f fd ["self","gaps","beside"] (spI2 K CP (az CR CP n)):=by
 refine N.okX sc_nP (fun vs H Q E h=>?_) (fun cdv A outer s H vs Q E hr h=>?_)
 ·obtain ⟨p,dx,v,v2,F,d,d2,rfl,_⟩:=h
  rfl
 ·obtain ⟨p,dx,v,v2,F,d,d2,rfl,hp,hF,s1,qd,qd2,q⟩:=h
  refine ⟨_,rB (zH (pe_cmeth S (by rfl) mR FI hr bI .nil wV (bc (pv 0) (bc (pv 1) fE))))
   (rB (ps_fld (pv 0) (wU OK (hr.mono (by decide)) (by rfl) aR.mg aR.fn.kp aR.bd .nil wV (bc (pv 2) fE)) rfl)
   (wN (ps_if (CT op_ne (hV pW (by rfl) zl PySem.boot_len (bc (D4 (pv 0) rfl) fE)) (hV pW (by rfl) zl PySem.boot_len (bc (D4 (pv 0) rfl) fE)) (Dh _)) CV CU))),?_⟩
  refine ⟨_,rfl,_,rfl,p,dx,v,F,d,rfl,hp,hF,s1,qd,?_⟩
  cases hg:az CR CP n [d] with
  |error e=>rw [hg] at q;exact q
  |ok r=>
   rw [hg,ax] at q
   intro u F1 H1 a1 a2 a3 a4 a5 a6 a7
   refine ⟨v2,rfl,F1,[d2],a2,⟨v2,[],rfl,cW.mono a1 qd2,rfl⟩,rfl,?_⟩
   skip
   cases hg2:az CR CP n [d2] with
   |error e=>rw [hg2] at q;exact False.elim q
   |ok r2=>
    rw [hg2,ax] at q
    intro u2 F2 H2 st qw
    by_cases ht:twoL r r2=true
    ·rw [if_pos ht] at q
     have hF2:F2 p=none:=by
      cases hz:F2 p with
      |none=>rfl
      |some o=>
       rcases st.nw p o hz with z|z
       ·rw [a3] at z;cases z
       ·rw [a6] at z;cases z
     refine ⟨_,rfl,p,CP,dx,_,rfl,st.hh _ _ a6,cl,nb,(by show 1<1000;decide),?_⟩
     rw [putGB]
     have s3:bp F2 (upd H2 p (.ins CP dx [("gaps",u),("beside",u2)])):=fun c o e=>by
      have hc:c≠p:=fun z=>by rw [z,hF2] at e;cases e
      rw [aL hc]
      exact st.fh _ _ e
     cases r with
     |lst xs=>
      cases r2 with
      |lst ys=>
       have hl:xs.length=ys.length:=of_decide_eq_true ht
       obtain ⟨g1,xs1,e1,t1,z1⟩:=cW.mono st.ff a7
       obtain ⟨g2,xs2,e2,t2,z2⟩:=id qw
       refine ⟨_,rfl,p,CP,dx,_,_,rfl,aP,cl,nb,rfl,g2,_,by rw [e2],.inl (s3.lst t2),_,rfl,p,CP,dx,_,_,rfl,aP,cl,na,rfl,g1,_,by rw [e1],.inl (s3.lst t1),rfl,_,rfl,?_⟩
       refine iteNS (by rw [z1.length,z2.length,hl]) ?_
       refine q u u2 F2 _ (a1.trans st.ff) s3 hF2 (fun b o e=>?_) (fun c o e hc=>by rw [aL hc];exact st.hh _ _ (a5 c o e hc)) aP (cW.mono st.ff a7) qw
       rcases st.nw b o e with z|z
       ·exact a4 b o z
       ·refine .inr ?_
        cases hz:H b with
        |none=>rfl
        |some o'=>
         by_cases hb:b=p
         ·subst hb;rw [hF2] at e;cases e
         ·rw [a5 b o' hz hb] at z;cases z
      |_=>cases ht
     |_=>cases ht
    ·rw [if_neg ht] at q;exact False.elim q
theorem yn:aH ["_law_rules"] ["_law_rules"] (ar nv):=⟨rfl,rfl,rfl,by decide +kernel,rfl,by decide +kernel,by decide +kernel⟩
theorem yD {n:Nat} {P:Program} {w:World} {K:PySem.W.Frag} {mg:Str->Option Value} {base:Heap} {CR CP:Addr} (Z:Zs K mg CR CP) {f_nP:Addr} {DQ:FuncData} (N_P:Mth K CP "__init__" "Pair.__init__" s_nP ["self","gaps","beside"] f_nP DQ) (Cf:cz P w K mg base CX0 5 f_nP DQ ["self","gaps","beside"] (spI2 K CP (az CR CP n))) {DR:Addr} {DO:FuncData} (N_R:Mth K CR "__init__" "Rules.__init__" s_nR ["self","gaps"] DR DO) (Ce:cz P w K mg base CX0 4 DR DO ["self","gaps"] (spI1 K CR (az CR CP n))) {l0:Addr} {jm:FuncData} (oE:Def K mg "_law_made" nv ["_law_rules"] l0 jm):cz P w K mg base CX0 7 l0 jm ["_law_rules"] (spF K false (di CR CP n) 1):=
 lj (O':=[]) oE.fn yn false (nO CR CP n) fun cdv A outer s H E hr=>
  (ah (fv (bN o_isN (aw aY (aj 0) ae) Ba)
   (av (aJ (E2 ⟨Z.kR.mks,N_R.mt.at_,N_R.mt.fn,Z.kR.kp⟩ Ce (hr.mono (by decide)) Z.kR.mg N_R.bd (a8 (aw aY (aj 0) ae) ai))))
   bS)
  (av (aJ (E3 ⟨Z.kP.mks,N_P.mt.at_,N_P.mt.fn,Z.kP.kp⟩ Cf hr Z.kP.mg N_P.bd (a8 (aw aY (aj 0) ae) (a8 (aw aY (aj 0) ae) ai))))))
theorem zD:aH ["flights","plan"] ["flights","plan"] (ar kf):=⟨rfl,rfl,rfl,by decide +kernel,rfl,by decide +kernel,by decide +kernel⟩
theorem zM {n:Nat} {P:Program} {w:World} {K:PySem.W.Frag} {mg:Str->Option Value} {base:Heap} {CR CP:Addr} (Z:Zs K mg CR CP) {fq:Addr} {dr:FuncData} (ki:Def K mg "spots_of" kf ["flights","plan"] fq dr):cz P w K mg base CX0 1 fq dr ["flights","plan"] (spF K false (fj CR CP n) 2):=
 lj (O':=[]) ki.fn zD false (t7 CR CP n) fun cdv A outer s H E hr=>
  (av (aJ (aA (l6 ["flight","strip","flights"] [none,none,some 0] (lN (aj 1)) (fun _ _ _ _ _=>oP rfl (g9 (i:=0) (by decide +kernel) (g9 (i:=1) (by decide +kernel) dN))) (px (by decide)) (fun _ _ _ _ _=>iR) (fun _ _ _ _ _=>(cx (a8 (aw aY (aw aY (aj 2) (aj 0)) ae) (a8 (aj 1) ai))))))))
theorem d9:aH ["closed","joined","start","stop"] ["closed"] (ar dP):=⟨rfl,rfl,rfl,by decide +kernel,rfl,by decide +kernel,by decide +kernel⟩
theorem qD {n:Nat} {P:Program} {w:World} {K:PySem.W.Frag} {mg:Str->Option Value} {base:Heap} {CR CP:Addr} (Z:Zs K mg CR CP) {cI:Addr} {cm:FuncData} (e6:Def K mg "joined_stretches" dP ["closed"] cI cm):cz P w K mg base CX0 1 cI cm ["closed"] (spF K false (cE CR CP n) 1):=
 lj (O':=[]) e6.fn d9 false (i4 CR CP n) fun cdv A outer s H E hr=>
  (ah (aq (i:=1) (own:=true) d9.nd (cy ai))
  (ah (gT (pt:=.tp [2,3]) (lN (aA (aG Bh Z.qe boot_sorted (a8 (aj 0) ai)))) (oP rfl (aM (i:=2) d9.nd (aM (i:=3) d9.nd dN)))
   (av (fv (PW.pt (B8 (pS (aj 1)) (xx (bN AW (aj 2) (aw aY (aw aY (aj 1) (A4 zQ ae)) ae)))))
   (av (ds_setI (i:=1) (cx (a8 (aw aY (aw aY (aj 1) (A4 zQ ae)) ae) (a8 (aG (c_max rfl) Z.xX boot_max (a8 (aj 3) (a8 (aw aY (aw aY (aj 1) (A4 zQ ae)) ae) ai))) ai))) (A4 zQ ae)))
   (av (ip (i:=1) (cx (a8 (aj 2) (a8 (aj 3) ai))))))))
  (bE (O2:=[]) (av (aJ (aj 1))))))
theorem oW:aH ["closed","time","start","stop"] ["closed","time"] (ar nq):=⟨rfl,rfl,rfl,by decide +kernel,rfl,by decide +kernel,by decide +kernel⟩
theorem yx {n:Nat} {P:Program} {w:World} {K:PySem.W.Frag} {mg:Str->Option Value} {base:Heap} {CR CP:Addr} (Z:Zs K mg CR CP) {cI:Addr} {cm:FuncData} (dX:Yd P w K mg base CX0 1 "joined_stretches" dP ["closed"] (spF K false (cE CR CP n) 1) cI cm) {kT:Addr} {ji:FuncData} (oz:Def K mg "next_open" nq ["closed","time"] kT ji):cz P w K mg base CX0 2 kT ji ["closed","time"] (spF K false (iK CR CP n) 2):=
 lj (O':=[]) oz.fn oW false (nL CR CP n) fun cdv A outer s H E hr=>
  (ah (gT (pt:=.tp [2,3]) (lN (ay dX.o hr dX.d.mg dX.d.fn.kp dX.d.bd (a8 (aj 0) ai))) (oP rfl (aM (i:=2) oW.nd (aM (i:=3) oW.nd dN)))
   (av (fv (rR AW o_lt (aj 2) (aj 1) (aj 3))
   (av (aJ (aj 3)))
   bS)))
  (av (aJ (aj 1))))
theorem vy:aH ["self","one","other"] ["self","one","other"] (ar dg):=⟨rfl,rfl,rfl,by decide +kernel,rfl,by decide +kernel,by decide +kernel⟩
theorem vC {n:Nat} {P:Program} {w:World} {K:PySem.W.Frag} {mg:Str->Option Value} {base:Heap} {CR CP:Addr} (Z:Zs K mg CR CP) {bD:Addr} {fX:FuncData} (ke:Mth K CR "apart" "Rules.apart" dg ["self","one","other"] bD fX):cz P w K mg base CX0 1 bD fX ["self","one","other"] (spF K false (dj CR CP n) 3):=
 lj (O':=[]) ke.fn vy false (nS CR CP n) fun cdv A outer s H E hr=>
  (av (aJ (aw aY (aw aY (ve (Cs:=[CR,CP]) Z.rL (aj 0)) (aw aY (aj 1) ae)) (aw aY (aj 2) ae))))
theorem rq:aH ["self","one","other","rows"] ["self","one","other"] (ar eD):=⟨rfl,rfl,rfl,by decide +kernel,rfl,by decide +kernel,by decide +kernel⟩
theorem x9 {n:Nat} {P:Program} {w:World} {K:PySem.W.Frag} {mg:Str->Option Value} {base:Heap} {CR CP:Addr} (Z:Zs K mg CR CP) {bX:Addr} {ij:FuncData} (mf:Mth K CP "apart" "Pair.apart" eD ["self","one","other"] bX ij):cz P w K mg base CX0 1 bX ij ["self","one","other"] (spF K false (d7 CR CP n) 3):=
 lj (O':=[]) mf.fn rq false (lL CR CP n) fun cdv A outer s H E hr=>
  (ah (aq (i:=3) (own:=false) rq.nd (de_ite (bN (zx hr.units) (aw aY (aj 1) ae) (aw aY (aj 2) ae)) (ve (Cs:=[CR,CP]) Z.rL (aj 0)) (ve (Cs:=[CP]) Z.wb (aj 0))))
  (av (aJ (aw aY (aw aY (aj 3) (aw aY (aj 1) ae)) (aw aY (aj 2) ae)))))
theorem ym:aH ["rules","spots","times","place"] ["rules","spots","times","place"] (ar iJ):=⟨rfl,rfl,rfl,by decide +kernel,rfl,by decide +kernel,by decide +kernel⟩
theorem yz {n:Nat} {P:Program} {w:World} {K:PySem.W.Frag} {mg:Str->Option Value} {base:Heap} {CR CP:Addr} (Z:Zs K mg CR CP) {bD:Addr} {fX:FuncData} (sh:Mth K CR "apart" "Rules.apart" dg ["self","one","other"] bD fX) (mC:cz P w K mg base CX0 1 bD fX ["self","one","other"] (spF K false (dj CR CP n) 3)) {bX:Addr} {ij:FuncData} (si:Mth K CP "apart" "Pair.apart" eD ["self","one","other"] bX ij) (ou:cz P w K mg base CX0 1 bX ij ["self","one","other"] (spF K false (d7 CR CP n) 3)) {dt:Addr} {cH:FuncData} (iX:Def K mg "gap_times" iJ ["rules","spots","times","place"] dt cH):cz P w K mg base CX0 2 dt cH ["rules","spots","times","place"] (spF K false (dh CR CP n) 4):=
 lj (O':=[]) iX.fn ym false (qT CR CP n) fun cdv A outer s H E hr=>
  (av (aJ (aA (l6 ["ahead","rules","spots","times","place"] [none,some 0,some 1,some 2,some 3] (fM Z.cL (a8 (aj 3) ai)) (fun _ _ _ _ _=>rS (by decide +kernel)) (dk rfl) (fun _ _ _ _ _=>iR) (fun _ _ _ _ _=>(aA (au cA (aw aY (aj 3) (aj 0)) (Bb Z.kR.cl sh.mt mC hr sh.bd Z.kP.cl si.mt ou hr si.bd (aj 1) (a8 (aw aY (aj 2) (aj 0)) (a8 (aw aY (aj 2) (aj 4)) ai))))))))))
theorem gF:aH ["rules","flights","closed","plan","spots","times","place","entry","flight","time"] ["rules","flights","closed","plan"] (ar mG):=⟨rfl,rfl,rfl,by decide +kernel,rfl,by decide +kernel,by decide +kernel⟩
theorem zL {n:Nat} {P:Program} {w:World} {K:PySem.W.Frag} {mg:Str->Option Value} {base:Heap} {CR CP:Addr} (Z:Zs K mg CR CP) {fq:Addr} {dr:FuncData} (bO:Yd P w K mg base CX0 1 "spots_of" kf ["flights","plan"] (spF K false (fj CR CP n) 2) fq dr) {kT:Addr} {ji:FuncData} (oj:Yd P w K mg base CX0 2 "next_open" nq ["closed","time"] (spF K false (iK CR CP n) 2) kT ji) {dt:Addr} {cH:FuncData} (bw:Yd P w K mg base CX0 2 "gap_times" iJ ["rules","spots","times","place"] (spF K false (dh CR CP n) 4) dt cH) {iQ:Addr} {gH:FuncData} (ni:Def K mg "times_of" mG ["rules","flights","closed","plan"] iQ gH):cz P w K mg base CX0 3 iQ gH ["rules","flights","closed","plan"] (spF K false (gN CR CP n) 4):=
 lj (O':=[]) ni.fn gF false (t6 CR CP n) fun cdv A outer s H E hr=>
  (ah (aq (i:=4) (own:=false) gF.nd (ay bO.o (hr.mono (by decide)) bO.d.mg bO.d.fn.kp bO.d.bd (a8 (aj 1) (a8 (aj 3) ai))))
  (ah (aq (i:=5) (own:=true) gF.nd (cy ai))
  (ah (gT (pt:=.tp [6,7]) (zZ Z.gE (aj 3)) (oP rfl (aM (i:=6) gF.nd (aM (i:=7) gF.nd dN)))
   (ah (aq (i:=8) (own:=false) gF.nd (aw aY (aj 1) (aw aY (aj 7) ae)))
  (ah (vc (i:=9) (own:=false) gF.nd (ay oj.o hr oj.d.mg oj.d.fn.kp oj.d.bd (a8 (aj 2) (a8 (aG (c_max rfl) Z.xX boot_max (a8 (aA (au cA (aA (cy (a8 (aw aY (aj 8) ae) ai))) (ay bw.o hr bw.d.mg bw.d.fn.kp bw.d.bd (a8 (aj 0) (a8 (aj 4) (a8 (aj 5) (a8 (aj 6) ai))))))) ai)) ai))))
  (ah (fv (bN o_gt (aj 9) (aw aY (aj 8) ae))
   (bE (O2:=[]) (av yU))
   bS)
  (av (ip (i:=5) (aj 9)))))))
  (bE (O2:=[]) (av (aJ (aj 5)))))))
theorem oX:aH ["flight","time","due","price"] ["flight","time"] (ar kl):=⟨rfl,rfl,rfl,by decide +kernel,rfl,by decide +kernel,by decide +kernel⟩
theorem yy {n:Nat} {P:Program} {w:World} {K:PySem.W.Frag} {mg:Str->Option Value} {base:Heap} {CR CP:Addr} (Z:Zs K mg CR CP) {gJ:Addr} {eS:FuncData} (lh:Def K mg "late_cost" kl ["flight","time"] gJ eS):cz P w K mg base CX0 1 gJ eS ["flight","time"] (spF K false (eI CR CP n) 2):=
 lj (O':=[]) lh.fn oX false (qS CR CP n) fun cdv A outer s H E hr=>
  (ah (aq (i:=2) (own:=false) oX.nd (aw aY (aj 0) ae))
  (ah (aq (i:=3) (own:=false) oX.nd (aw aY (aj 0) ae))
  (av (aJ (au oO (aj 3) (aG (c_max rfl) Z.xX boot_max (a8 ae (a8 (au zP (aj 1) (aj 2)) ai))))))))
theorem BA:aH ["flights","plan","times"] ["flights","plan","times"] (ar oZ):=⟨rfl,rfl,rfl,by decide +kernel,rfl,by decide +kernel,by decide +kernel⟩
theorem BI {n:Nat} {P:Program} {w:World} {K:PySem.W.Frag} {mg:Str->Option Value} {base:Heap} {CR CP:Addr} (Z:Zs K mg CR CP) {gJ:Addr} {eS:FuncData} (dv:Yd P w K mg base CX0 1 "late_cost" kl ["flight","time"] (spF K false (eI CR CP n) 2) gJ eS) {kU:Addr} {iP:FuncData} (qc:Def K mg "cost_of" oZ ["flights","plan","times"] kU iP):cz P w K mg base CX0 2 kU iP ["flights","plan","times"] (spF K false (hW CR CP n) 3):=
 lj (O':=[]) qc.fn BA false (v5 CR CP n) fun cdv A outer s H E hr=>
  (av (aJ (aG (c_sum rfl) Z.Cp boot_sum (a8 (aA (l6 ["entry","time","flights"] [none,none,some 0] (di_zip Z.Co (aj 1) (aj 2)) (fun _ _ _ _ _=>oP rfl (g9 (i:=0) (by decide +kernel) (g9 (i:=1) (by decide +kernel) dN))) (px (by decide)) (fun _ _ _ _ _=>iR) (fun _ _ _ _ _=>(ay dv.o hr dv.d.mg dv.d.fn.kp dv.d.bd (a8 (aw aY (aj 2) (aw aY (aj 0) ae)) (a8 (aj 1) ai)))))) ai))))
theorem bA:aH ["_law_closed_here","_law_time","_law_moved","_law_start","_law_stop"] ["_law_closed_here","_law_time"] (ar gh):=⟨rfl,rfl,rfl,by decide +kernel,rfl,by decide +kernel,by decide +kernel⟩
theorem sH {n:Nat} {P:Program} {w:World} {K:PySem.W.Frag} {mg:Str->Option Value} {base:Heap} {CR CP:Addr} (Z:Zs K mg CR CP) {dH:Addr} {cT:FuncData} (gA:Def K mg "_law_open_from" gh ["_law_closed_here","_law_time"] dH cT):cz P w K mg base CX0 1 dH cT ["_law_closed_here","_law_time"] (spF K false (dA CR CP n) 2):=
 lj (O':=[]) gA.fn bA false (jI CR CP n) fun cdv A outer s H E hr=>
  (ah (aq (i:=2) (own:=false) bA.nd pU)
  (ah (uw (m:=n) (pS (aj 2))
   (ah (aq (i:=2) (own:=false) bA.nd pU)
  (av (gT (pt:=.tp [3,4]) (lN (aj 0)) (oP rfl (aM (i:=3) bA.nd (aM (i:=4) bA.nd dN)))
   (av (fv (rR AW o_lt (aj 3) (aj 1) (aj 4))
   (ah (aq (i:=1) (own:=false) bA.nd (aj 4))
  (av (aq (i:=2) (own:=false) bA.nd pU)))
   bS))))))
  (av (aJ (aj 1)))))
theorem nk:aH ["_law_rules","_law_flights_here","_law_one","_law_other","_law_here","_law_there"] ["_law_rules","_law_flights_here","_law_one","_law_other"] (ar lG):=⟨rfl,rfl,rfl,by decide +kernel,rfl,by decide +kernel,by decide +kernel⟩
theorem x8 {n:Nat} {P:Program} {w:World} {K:PySem.W.Frag} {mg:Str->Option Value} {base:Heap} {CR CP:Addr} (Z:Zs K mg CR CP) {jx:Addr} {ig:FuncData} (md:Def K mg "_law_apart" lG ["_law_rules","_law_flights_here","_law_one","_law_other"] jx ig):cz P w K mg base CX0 1 jx ig ["_law_rules","_law_flights_here","_law_one","_law_other"] (spF K false (gQ CR CP n) 4):=
 lj (O':=[]) md.fn nk false (lK CR CP n) fun cdv A outer s H E hr=>
  (ah (aq (i:=4) (own:=false) nk.nd (aw aY (aw aY (aj 1) (aw aY (aj 2) ae)) ae))
  (ah (aq (i:=5) (own:=false) nk.nd (aw aY (aw aY (aj 1) (aw aY (aj 3) ae)) ae))
  (ah (fv (bN (zx hr.units) (aw aY (aj 2) ae) (aw aY (aj 3) ae))
   (av (aJ (aw aY (aw aY (aw aY (aj 0) ae) (aj 4)) (aj 5))))
   bS)
  (av (aJ (aw aY (aw aY (aw aY (aj 0) ae) (aj 4)) (aj 5)))))))
theorem cD:aH ["_law_rules","_law_flights_here","_law_closed_here","_law_plan_here","_law_times","_law_place","_law_flight","_law_time","_law_ahead"] ["_law_rules","_law_flights_here","_law_closed_here","_law_plan_here"] (ar lE):=⟨rfl,rfl,rfl,by decide +kernel,rfl,by decide +kernel,by decide +kernel⟩
theorem x5 {n:Nat} {P:Program} {w:World} {K:PySem.W.Frag} {mg:Str->Option Value} {base:Heap} {CR CP:Addr} (Z:Zs K mg CR CP) {dH:Addr} {cT:FuncData} (gw:Yd P w K mg base CX0 1 "_law_open_from" gh ["_law_closed_here","_law_time"] (spF K false (dA CR CP n) 2) dH cT) {jx:Addr} {ig:FuncData} (lV:Yd P w K mg base CX0 1 "_law_apart" lG ["_law_rules","_law_flights_here","_law_one","_law_other"] (spF K false (gQ CR CP n) 4) jx ig) {jv:Addr} {ic:FuncData} (m8:Def K mg "_law_least" lE ["_law_rules","_law_flights_here","_law_closed_here","_law_plan_here"] jv ic):cz P w K mg base CX0 2 jv ic ["_law_rules","_law_flights_here","_law_closed_here","_law_plan_here"] (spF K false (eO CR CP n) 4):=
 lj (O':=[]) m8.fn cD false (lJ CR CP n) fun cdv A outer s H E hr=>
  (ah (aq (i:=4) (own:=true) cD.nd (cy ai))
  (ah (gT (pt:=.nm 5) (fM Z.cL (a8 (aG iG Z.fH PySem.boot_len (a8 (aj 3) ai)) ai)) (rT cD.nd)
   (ah (aq (i:=6) (own:=false) cD.nd (aw aY (aj 1) (aw aY (aw aY (aj 3) (aj 5)) ae)))
  (ah (aq (i:=7) (own:=false) cD.nd (aw aY (aj 6) ae))
  (ah (gT (pt:=.nm 8) (fM Z.cL (a8 (aj 5) ai)) (rT cD.nd)
   (av (vc (i:=7) (own:=false) cD.nd (aG (c_max rfl) Z.xX boot_max (a8 (aj 7) (a8 (aA (au cA (aw aY (aj 4) (aj 8)) (ay lV.o hr lV.d.mg lV.d.fn.kp lV.d.bd (a8 (aj 0) (a8 (aj 1) (a8 (aw aY (aj 3) (aj 8)) (a8 (aw aY (aj 3) (aj 5)) ai))))))) ai))))))
  (ah (aq (i:=7) (own:=false) cD.nd (ay gw.o hr gw.d.mg gw.d.fn.kp gw.d.bd (a8 (aj 2) (a8 (aj 7) ai))))
  (ah (fv (bN o_gt (aj 7) (aw aY (aj 6) ae))
   (bE (O2:=[]) (av (aJ (cx (a8 (aw aY (aw aY (aj 3) (aj 5)) ae) (a8 (aj 7) ai))))))
   bS)
  (av (ip (i:=4) (aj 7)))))))))
  (bE (O2:=[]) (av (aJ (aj 4))))))
theorem sA:aH ["self"] ["self"] (ar bg):=⟨rfl,rfl,rfl,by decide +kernel,rfl,by decide +kernel,by decide +kernel⟩
theorem sM {n:Nat} {P:Program} {w:World} {K:PySem.W.Frag} {mg:Str->Option Value} {base:Heap} {CR CP:Addr} (Z:Zs K mg CR CP) {aZ:Addr} {aT:FuncData} (b9:Yd P w K mg base CX0 1 "copied_rows" dc ["rows"] (spF K false (bh CR CP n) 1) aZ aT) {aQ:Addr} {c7:FuncData} (gD:Mth K CR "gap_rows" "Rules.gap_rows" bg ["self"] aQ c7):cz P w K mg base CX0 2 aQ c7 ["self"] (spF K false (bz CR CP n) 1):=
 lj (O':=[]) gD.fn sA false (jL CR CP n) fun cdv A outer s H E hr=>
  (av (aJ (ay b9.o hr b9.d.mg b9.d.fn.kp b9.d.bd (a8 (ve (Cs:=[CR,CP]) Z.rL (aj 0)) ai))))
theorem jB:aH ["rows","kind","other","gap","kinds","changed"] ["rows","kind","other","gap"] (ar eC):=⟨rfl,rfl,rfl,by decide +kernel,rfl,by decide +kernel,by decide +kernel⟩
theorem u3 {n:Nat} {P:Program} {w:World} {K:PySem.W.Frag} {mg:Str->Option Value} {base:Heap} {CR CP:Addr} (Z:Zs K mg CR CP) {aZ:Addr} {aT:FuncData} (b9:Yd P w K mg base CX0 1 "copied_rows" dc ["rows"] (spF K false (bh CR CP n) 1) aZ aT) (OKO_copied_rows:cz P w K mg base CX0 1 aZ aT ["rows"] (spO K (bh CR CP n) 1)) {cu:Addr} {bR:FuncData} (f7:Def K mg "rows_with_gap" eC ["rows","kind","other","gap"] cu bR):cz P w K mg base CX0 2 cu bR ["rows","kind","other","gap"] (spF K false (cg CR CP n) 4):=
 lj (O':=[]) f7.fn jB false (kK CR CP n) fun cdv A outer s H E hr=>
  (ah (aq (i:=4) (own:=false) jB.nd (aG iG Z.fH PySem.boot_len (a8 (aj 0) ai)))
  (ah (fv (PW.pt (C4 (rQ (rR AW o_lt ae (aj 1) (aj 4))) (yT (rQ (rR AW o_lt ae (aj 2) (aj 4))))))
   (av yU)
   bS)
  (ds_rowsC (i:=5) OKO_copied_rows hr b9.d.mg b9.d.fn.kp b9.d.bd jB.nd (a8 (aj 0) ai) (aj 3) (aj 1) (aj 2)
  (av (aJ (aj 5))))))
theorem sy:aH ["self","kind","other","gap"] ["self","kind","other","gap"] (ar bP):=⟨rfl,rfl,rfl,by decide +kernel,rfl,by decide +kernel,by decide +kernel⟩
theorem sJ {n:Nat} {P:Program} {w:World} {K:PySem.W.Frag} {mg:Str->Option Value} {base:Heap} {CR CP:Addr} (Z:Zs K mg CR CP) {cu:Addr} {bR:FuncData} (bu:Yd P w K mg base CX0 2 "rows_with_gap" eC ["rows","kind","other","gap"] (spF K false (cg CR CP n) 4) cu bR) {DR:Addr} {DO:FuncData} (N_R:Mth K CR "__init__" "Rules.__init__" s_nR ["self","gaps"] DR DO) (Ce:cz P w K mg base CX0 4 DR DO ["self","gaps"] (spI1 K CR (az CR CP n))) {aX:Addr} {cV:FuncData} (gC:Mth K CR "with_gap" "Rules.with_gap" bP ["self","kind","other","gap"] aX cV):cz P w K mg base CX0 6 aX cV ["self","kind","other","gap"] (spF K false (dC CR CP n) 4):=
 lj (O':=[]) gC.fn sy false (jK CR CP n) fun cdv A outer s H E hr=>
  (av (aJ (E2 ⟨Z.kR.mks,N_R.mt.at_,N_R.mt.fn,Z.kR.kp⟩ Ce hr Z.kR.mg N_R.bd (a8 (ay bu.o (hr.mono (by decide)) bu.d.mg bu.d.fn.kp bu.d.bd (a8 (ve (Cs:=[CR,CP]) Z.rL (aj 0)) (a8 (aj 1) (a8 (aj 2) (a8 (aj 3) ai))))) ai))))
theorem tZ:aH ["self","kind","other","gap"] ["self","kind","other","gap"] (ar c9):=⟨rfl,rfl,rfl,by decide +kernel,rfl,by decide +kernel,by decide +kernel⟩
theorem u7 {n:Nat} {P:Program} {w:World} {K:PySem.W.Frag} {mg:Str->Option Value} {base:Heap} {CR CP:Addr} (Z:Zs K mg CR CP) {cu:Addr} {bR:FuncData} (bu:Yd P w K mg base CX0 2 "rows_with_gap" eC ["rows","kind","other","gap"] (spF K false (cg CR CP n) 4) cu bR) {f_nP:Addr} {DQ:FuncData} (N_P:Mth K CP "__init__" "Pair.__init__" s_nP ["self","gaps","beside"] f_nP DQ) (Cf:cz P w K mg base CX0 5 f_nP DQ ["self","gaps","beside"] (spI2 K CP (az CR CP n))) {bf:Addr} {dG:FuncData} (iE:Mth K CP "with_gap" "Pair.with_gap" c9 ["self","kind","other","gap"] bf dG):cz P w K mg base CX0 7 bf dG ["self","kind","other","gap"] (spF K false (eQ CR CP n) 4):=
 lj (O':=[]) iE.fn tZ false (kO CR CP n) fun cdv A outer s H E hr=>
  (av (aJ (E3 ⟨Z.kP.mks,N_P.mt.at_,N_P.mt.fn,Z.kP.kp⟩ Cf hr Z.kP.mg N_P.bd (a8 (ay bu.o (hr.mono (by decide)) bu.d.mg bu.d.fn.kp bu.d.bd (a8 (ve (Cs:=[CR,CP]) Z.rL (aj 0)) (a8 (aj 1) (a8 (aj 2) (a8 (aj 3) ai))))) (a8 (ve (Cs:=[CP]) Z.wb (aj 0)) ai)))))
theorem aI:aH ["_law_made_here","_law_lists","_law_number","_law_flights_here","_law_closed_here","_law_plan_here","_law_rows_here","_law_kind","_law_other","_law_at","_law_start","_law_stop","_law_half","_law_some","_law_first","_law_last","_law_due","_law_price","_law_flight"] ["_law_made_here","_law_lists","_law_number"] (ar lF):=⟨rfl,rfl,rfl,by decide +kernel,rfl,by decide +kernel,by decide +kernel⟩
theorem x6 {n:Nat} {P:Program} {w:World} {K:PySem.W.Frag} {mg:Str->Option Value} {base:Heap} {CR CP:Addr} (Z:Zs K mg CR CP) {aQ:Addr} {c7:FuncData} (lX:Mth K CR "gap_rows" "Rules.gap_rows" bg ["self"] aQ c7) (fw:cz P w K mg base CX0 2 aQ c7 ["self"] (spF K false (bz CR CP n) 1)) (lZ:Mth K CP "gap_rows" "Rules.gap_rows" bg ["self"] aQ c7) {aX:Addr} {cV:FuncData} (lW:Mth K CR "with_gap" "Rules.with_gap" bP ["self","kind","other","gap"] aX cV) (iW:cz P w K mg base CX0 6 aX cV ["self","kind","other","gap"] (spF K false (dC CR CP n) 4)) {bf:Addr} {dG:FuncData} (lY:Mth K CP "with_gap" "Pair.with_gap" c9 ["self","kind","other","gap"] bf dG) (jR:cz P w K mg base CX0 7 bf dG ["self","kind","other","gap"] (spF K false (eQ CR CP n) 4)) {jw:Addr} {ie:FuncData} (m9:Def K mg "_law_eased" lF ["_law_made_here","_law_lists","_law_number"] jw ie):cz P w K mg base CX0 8 jw ie ["_law_made_here","_law_lists","_law_number"] (spF K false (bW CR CP n) 3):=
 lj (O':=[]) m9.fn aI false (gS CR CP n) fun cdv A outer s H E hr=>
  (ah (tm (aj 1) (oP rfl (aM (i:=3) aI.nd (aM (i:=4) aI.nd (aM (i:=5) aI.nd dN)))))
  (ah (aq (i:=6) (own:=false) aI.nd (E4 Z.kR.cl lX.mt fw (hr.mono (by decide)) lX.bd Z.kP.cl lZ.mt fw (hr.mono (by decide)) lZ.bd (aj 0)))
  (ah (aq (i:=7) (own:=false) aI.nd (au cf (au bL (aj 2) ae) (aG iG Z.fH PySem.boot_len (a8 (aj 6) ai))))
  (ah (aq (i:=8) (own:=false) aI.nd (au cf (au bL (aj 2) ae) (aG iG Z.fH PySem.boot_len (a8 (aj 6) ai))))
  (ah (fv (bN o_lt (au cf (aj 2) ae) ae)
   (av (aJ (cx (a8 (Bb Z.kR.cl lW.mt iW (hr.mono (by decide)) lW.bd Z.kP.cl lY.mt jR hr lY.bd (aj 0) (a8 (aj 7) (a8 (aj 8) (a8 (au bL (aw aY (aw aY (aj 6) (aj 7)) (aj 8)) ae) ai)))) (a8 (aj 1) ai)))))
   bS)
  (ah (fv (PW.pt (B8 (bN o_lt (au cf (aj 2) ae) ae) (xx (bN (o_ne hr.units) (aj 4) (aA (cy ai))))))
   (ah (aq (i:=9) (own:=false) aI.nd (au cf (au bL (aj 2) ae) (aG iG Z.fH PySem.boot_len (a8 (aj 4) ai))))
  (ah (tm (aw aY (aj 4) (aj 9)) (oP rfl (aM (i:=10) aI.nd (aM (i:=11) aI.nd dN))))
  (ah (aq (i:=12) (own:=false) aI.nd (au bL (aA (au cA (aj 10) (aj 11))) ae))
  (ah (aq (i:=13) (own:=false) aI.nd (aw aY (aA (cy (a8 (aA (cy ai)) (a8 (aA (cy (a8 (cx (a8 (aj 12) (a8 (aj 11) ai))) ai))) (a8 (aA (cy (a8 (cx (a8 (aj 10) (a8 (aA (au cA (aj 12) ae)) ai))) ai))) ai))))) (au cf (au bL (aj 2) ae) ae)))
  (av (aJ (cx (a8 (aj 0) (a8 (cx (a8 (aj 3) (a8 (aA (au cA (aA (au cA (aA (yW x_sl (aj 4) qY (nU (aj 9)))) (aj 13))) (aA (yW x_sl (aj 4) (nU (aA (au cA (aj 9) ae))) qY)))) (a8 (aj 5) ai)))) ai)))))))))
   bS)
  (ah (fv (bN (zx hr.units) (aj 3) (aA (cy ai)))
   (av (aJ (cx (a8 (aj 0) (a8 (aj 1) ai)))))
   bS)
  (ah (aq (i:=9) (own:=false) aI.nd (au cf (au bL (aj 2) ae) (aG iG Z.fH PySem.boot_len (a8 (aj 3) ai))))
  (ah (tm (aw aY (aj 3) (aj 9)) (oP rfl (aM (i:=7) aI.nd (aM (i:=14) aI.nd (aM (i:=15) aI.nd (aM (i:=16) aI.nd (aM (i:=17) aI.nd dN)))))))
  (ah (aq (i:=18) (own:=false) aI.nd (cx (a8 (aj 7) (a8 (au zP (aj 14) (au bL (aj 14) ae)) (a8 (aj 15) (a8 (aj 16) (a8 (aj 17) ai)))))))
  (ah (fv (bN (zx hr.units) (au cf (aj 2) ae) ae)
   (av (aq (i:=18) (own:=false) aI.nd (cx (a8 (aj 7) (a8 (aj 14) (a8 (aG (c_min rfl) Z.xW boot_min (a8 (au ph ae ae) (a8 (aA (au cA (aj 15) (au cf (au bL (aj 2) ae) ae))) ai))) (a8 (aj 16) (a8 (aj 17) ai))))))))
   bS)
  (av (aJ (cx (a8 (aj 0) (a8 (cx (a8 (aA (au cA (aA (au cA (aA (yW x_sl (aj 3) qY (nU (aj 9)))) (aA (cy (a8 (aj 18) ai))))) (aA (yW x_sl (aj 3) (nU (aA (au cA (aj 9) ae))) qY)))) (a8 (aj 4) (a8 (aj 5) ai)))) ai))))))))))))))))
theorem lu:aH ["_law_script","_law_k","_law_cell","_law_j"] ["_law_script","_law_k"] (ar nu):=⟨rfl,rfl,rfl,by decide +kernel,rfl,by decide +kernel,by decide +kernel⟩
theorem yC {n:Nat} {P:Program} {w:World} {K:PySem.W.Frag} {mg:Str->Option Value} {base:Heap} {CR CP:Addr} (Z:Zs K mg CR CP) {aW:Addr} {aS:FuncData} (ak:Yd P w K mg base CX0 1 "_law_draw" cN ["_law_script","_law_k"] (spF K false (aK CR CP n) 2) aW aS) {kZ:Addr} {jl:FuncData} (oC:Def K mg "_law_pick" nu ["_law_script","_law_k"] kZ jl):cz P w K mg base CX0 2 kZ jl ["_law_script","_law_k"] (spF K false (gG CR CP n) 2):=
 lj (O':=[]) oC.fn lu false (kL CR CP n) fun cdv A outer s H E hr=>
  (ah (fv (PW.pt (C4 (bN (zx hr.units) (aG iG Z.fH PySem.boot_len (a8 (aj 0) ai)) ae) (yT (bN (zx hr.units) (au cf (aw aY (aj 0) ae) ae) ae))))
   (av (aJ (ay ak.o hr ak.d.mg ak.d.fn.kp ak.d.bd (a8 (aj 0) (a8 (aA (au cA ae (aj 1))) ai)))))
   bS)
  (ah (aq (i:=2) (own:=false) lu.nd (au bL (aw aY (aj 0) ae) ae))
  (ah (gT (pt:=.nm 3) (fM Z.cL (a8 (aj 1) ai)) (rT lu.nd)
   (av (aq (i:=2) (own:=false) lu.nd (au bL (aj 2) (au ph ae ae)))))
  (av (aJ (au cf (aj 2) (au ph ae ae)))))))
theorem Bz:aH ["closed","time"] ["closed","time"] (ar rA):=⟨rfl,rfl,rfl,by decide +kernel,rfl,by decide +kernel,by decide +kernel⟩
theorem BH {n:Nat} {P:Program} {w:World} {K:PySem.W.Frag} {mg:Str->Option Value} {base:Heap} {CR CP:Addr} (Z:Zs K mg CR CP) {pR:Addr} {mX:FuncData} (sk:Def K mg "is_open" rA ["closed","time"] pR mX):cz P w K mg base CX0 1 pR mX ["closed","time"] (spF K false (pk CR CP n) 2):=
 lj (O':=[]) sk.fn Bz false (v3 CR CP n) fun cdv A outer s H E hr=>
  (av (aJ (de_not (aG (c_any rfl) Z.Bp boot_any (a8 (aA (l6 ["start","stop","time"] [none,none,some 1] (lN (aj 0)) (fun _ _ _ _ _=>oP rfl (g9 (i:=0) (by decide +kernel) (g9 (i:=1) (by decide +kernel) dN))) (px (by decide)) (fun _ _ _ _ _=>iR) (fun _ _ _ _ _=>(ux AW o_lt (aj 0) (aj 2) (aj 1))))) ai)))))
theorem uD:aH ["flight","closed","time"] ["flight","closed","time"] (ar iY):=⟨rfl,rfl,rfl,by decide +kernel,rfl,by decide +kernel,by decide +kernel⟩
theorem uK {n:Nat} {P:Program} {w:World} {K:PySem.W.Frag} {mg:Str->Option Value} {base:Heap} {CR CP:Addr} (Z:Zs K mg CR CP) {pR:Addr} {mX:FuncData} (sf:Yd P w K mg base CX0 1 "is_open" rA ["closed","time"] (spF K false (pk CR CP n) 2) pR mX) {fY:Addr} {eT:FuncData} (j9:Def K mg "keeps_window" iY ["flight","closed","time"] fY eT):cz P w K mg base CX0 2 fY eT ["flight","closed","time"] (spF K false (fU CR CP n) 3):=
 lj (O':=[]) j9.fn uD false (mn CR CP n) fun cdv A outer s H E hr=>
  (av (aJ (E6 (ux AW AW (aw aY (aj 0) ae) (aj 2) (aw aY (aj 0) ae)) (de_one (ay sf.o hr sf.d.mg sf.d.fn.kp sf.d.bd (a8 (aj 1) (a8 (aj 2) ai)))))))
theorem jS:aH ["rules","flights","closed","plan","times","spots","place","time"] ["rules","flights","closed","plan","times"] (ar lA):=⟨rfl,rfl,rfl,by decide +kernel,rfl,by decide +kernel,by decide +kernel⟩
theorem wW {n:Nat} {P:Program} {w:World} {K:PySem.W.Frag} {mg:Str->Option Value} {base:Heap} {CR CP:Addr} (Z:Zs K mg CR CP) {fq:Addr} {dr:FuncData} (bO:Yd P w K mg base CX0 1 "spots_of" kf ["flights","plan"] (spF K false (fj CR CP n) 2) fq dr) {fY:Addr} {eT:FuncData} (j7:Yd P w K mg base CX0 2 "keeps_window" iY ["flight","closed","time"] (spF K false (fU CR CP n) 3) fY eT) {dt:Addr} {cH:FuncData} (bw:Yd P w K mg base CX0 2 "gap_times" iJ ["rules","spots","times","place"] (spF K false (dh CR CP n) 4) dt cH) {jq:Addr} {i8:FuncData} (m4:Def K mg "keeps_plan" lA ["rules","flights","closed","plan","times"] jq i8):cz P w K mg base CX0 3 jq i8 ["rules","flights","closed","plan","times"] (spF K false (gO CR CP n) 5):=
 lj (O':=[]) m4.fn jS false (lI CR CP n) fun cdv A outer s H E hr=>
  (ah (aq (i:=5) (own:=false) jS.nd (ay bO.o (hr.mono (by decide)) bO.d.mg bO.d.fn.kp bO.d.bd (a8 (aj 1) (a8 (aj 3) ai))))
  (ah (gT (pt:=.tp [6,7]) (zZ Z.gE (aj 4)) (oP rfl (aM (i:=6) jS.nd (aM (i:=7) jS.nd dN)))
   (ah (fv (rQ (pS (ay j7.o hr j7.d.mg j7.d.fn.kp j7.d.bd (a8 (aw aY (aj 1) (aw aY (aw aY (aj 3) (aj 6)) ae)) (a8 (aj 2) (a8 (aj 7) ai))))))
   (av (aJ pU))
   bS)
  (av (fv (pS (aG (c_any rfl) Z.Bp boot_any (a8 (aA (l6 ["least","time"] [none,some 7] (lN (ay bw.o hr bw.d.mg bw.d.fn.kp bw.d.bd (a8 (aj 0) (a8 (aj 5) (a8 (aj 4) (a8 (aj 6) ai)))))) (fun _ _ _ _ _=>rS (by decide +kernel)) (dk rfl) (fun _ _ _ _ _=>iR) (fun _ _ _ _ _=>(yZ o_lt (aj 1) (aj 0))))) ai)))
   (av (aJ pU))
   bS))))
  (av (aJ pU))))
theorem tY:aH ["_law_flights_here","_law_plan_here","_law_times","_law_before"] ["_law_flights_here","_law_plan_here","_law_times","_law_before"] (ar gZ):=⟨rfl,rfl,rfl,by decide +kernel,rfl,by decide +kernel,by decide +kernel⟩
theorem u5 {n:Nat} {P:Program} {w:World} {K:PySem.W.Frag} {mg:Str->Option Value} {base:Heap} {CR CP:Addr} (Z:Zs K mg CR CP) {kU:Addr} {iP:FuncData} (bH:Yd P w K mg base CX0 2 "cost_of" oZ ["flights","plan","times"] (spF K false (hW CR CP n) 3) kU iP) {eW:Addr} {dE:FuncData} (iB:Def K mg "_law_no_later" gZ ["_law_flights_here","_law_plan_here","_law_times","_law_before"] eW dE):cz P w K mg base CX0 3 eW dE ["_law_flights_here","_law_plan_here","_law_times","_law_before"] (spF K false (eN CR CP n) 4):=
 lj (O':=[]) iB.fn tY false (kM CR CP n) fun cdv A outer s H E hr=>
  (ah (fv (PW.pt (C4 (bN (o_ne hr.units) (aG iG Z.fH PySem.boot_len (a8 (aj 2) ai)) (aG iG Z.fH PySem.boot_len (a8 (aj 3) ai))) (yT (bN (o_ne hr.units) (aA (l6 ["_law_k","_law_times","_law_before"] [none,some 2,some 3] (fM Z.cL (a8 (aG iG Z.fH PySem.boot_len (a8 (aj 2) ai)) ai)) (fun _ _ _ _ _=>rS (by decide +kernel)) (dk rfl) (fun _ _ _ _ _=>pts_one (bN o_gt (aw aY (aj 1) (aj 0)) (aw aY (aj 2) (aj 0)))) (fun _ _ _ _ _=>(aj 0)))) (aA (cy ai))))))
   (av (aJ pU))
   bS)
  (av (aJ (yZ AW (ay bH.o hr bH.d.mg bH.d.fn.kp bH.d.bd (a8 (aj 0) (a8 (aj 1) (a8 (aj 2) ai)))) (ay bH.o hr bH.d.mg bH.d.fn.kp bH.d.bd (a8 (aj 0) (a8 (aj 1) (a8 (aj 3) ai))))))))
theorem vS:aH ["flight","closed","gaps","time","stops"] ["flight","closed","gaps","time"] (ar rz):=⟨rfl,rfl,rfl,by decide +kernel,rfl,by decide +kernel,by decide +kernel⟩
theorem BG {n:Nat} {P:Program} {w:World} {K:PySem.W.Frag} {mg:Str->Option Value} {base:Heap} {CR CP:Addr} (Z:Zs K mg CR CP) {pQ:Addr} {mW:FuncData} (sj:Def K mg "push_of" rz ["flight","closed","gaps","time"] pQ mW):cz P w K mg base CX0 1 pQ mW ["flight","closed","gaps","time"] (spF K false (kB CR CP n) 4):=
 lj (O':=[]) sj.fn vS false (pN CR CP n) fun cdv A outer s H E hr=>
  (ah (fv (bN (zx hr.units) (aj 3) (aw aY (aj 0) ae))
   (av (aJ (cx (a8 yV ai))))
   bS)
  (ah (fv (bN (o_in hr.units) (aj 3) (aj 2))
   (av (aJ (cx (a8 yV (a8 (xA hr.units (aj 2) (aj 3)) ai)))))
   bS)
  (ah (B9 (i:=4) false ["start","stop"] [none,none] vS.nd (lN (aj 1)) (fun _ _ _ _ _=>oP rfl (g9 (i:=0) (by decide +kernel) (g9 (i:=1) (by decide +kernel) dN))) (px (by decide)) (fun _ _ _ _ _=>iR) (fun _ _ _ _ _=>(aj 1)))
  (av (aJ (cx (a8 yV (a8 (xA hr.units (aj 4) (aj 3)) ai))))))))
theorem eB:aH ["rules","flights","closed","plan","times","spots","pushes","place","time","gaps"] ["rules","flights","closed","plan"] (ar kj):=⟨rfl,rfl,rfl,by decide +kernel,rfl,by decide +kernel,by decide +kernel⟩
theorem yw {n:Nat} {P:Program} {w:World} {K:PySem.W.Frag} {mg:Str->Option Value} {base:Heap} {CR CP:Addr} (Z:Zs K mg CR CP) {iQ:Addr} {gH:FuncData} (c8:Yd P w K mg base CX0 3 "times_of" mG ["rules","flights","closed","plan"] (spF K false (gN CR CP n) 4) iQ gH) {fq:Addr} {dr:FuncData} (bO:Yd P w K mg base CX0 1 "spots_of" kf ["flights","plan"] (spF K false (fj CR CP n) 2) fq dr) {dt:Addr} {cH:FuncData} (bw:Yd P w K mg base CX0 2 "gap_times" iJ ["rules","spots","times","place"] (spF K false (dh CR CP n) 4) dt cH) {pQ:Addr} {mW:FuncData} (se:Yd P w K mg base CX0 1 "push_of" rz ["flight","closed","gaps","time"] (spF K false (kB CR CP n) 4) pQ mW) {gI:Addr} {eR:FuncData} (lg:Def K mg "pushes_of" kj ["rules","flights","closed","plan"] gI eR):cz P w K mg base CX0 4 gI eR ["rules","flights","closed","plan"] (spF K false (eG CR CP n) 4):=
 lj (O':=[]) lg.fn eB false (qR CR CP n) fun cdv A outer s H E hr=>
  (ah (aq (i:=4) (own:=false) eB.nd (ay c8.o hr c8.d.mg c8.d.fn.kp c8.d.bd (a8 (aj 0) (a8 (aj 1) (a8 (aj 2) (a8 (aj 3) ai))))))
  (ah (aq (i:=5) (own:=false) eB.nd (ay bO.o (hr.mono (by decide)) bO.d.mg bO.d.fn.kp bO.d.bd (a8 (aj 1) (a8 (aj 3) ai))))
  (ah (aq (i:=6) (own:=true) eB.nd (cy ai))
  (ah (gT (pt:=.tp [7,8]) (zZ Z.gE (aj 4)) (oP rfl (aM (i:=7) eB.nd (aM (i:=8) eB.nd dN)))
   (ah (aq (i:=9) (own:=false) eB.nd (ay bw.o (hr.mono (by decide)) bw.d.mg bw.d.fn.kp bw.d.bd (a8 (aj 0) (a8 (aj 5) (a8 (aj 4) (a8 (aj 7) ai))))))
  (av (ip (i:=6) (ay se.o (hr.mono (by decide)) se.d.mg se.d.fn.kp se.d.bd (a8 (aw aY (aj 1) (aw aY (aw aY (aj 3) (aj 7)) ae)) (a8 (aj 2) (a8 (aj 9) (a8 (aj 8) ai)))))))))
  (bE (O2:=[]) (av (aJ (aj 6))))))))
theorem zE:aH ["flights","place"] ["flights","place"] (ar qf):=⟨rfl,rfl,rfl,by decide +kernel,rfl,by decide +kernel,by decide +kernel⟩
theorem zN {n:Nat} {P:Program} {w:World} {K:PySem.W.Frag} {mg:Str->Option Value} {base:Heap} {CR CP:Addr} (Z:Zs K mg CR CP) {mY:Addr} {kQ:FuncData} (qo:Def K mg "is_place" qf ["flights","place"] mY kQ):cz P w K mg base CX0 1 mY kQ ["flights","place"] (spF K false (mQ CR CP n) 2):=
 lj (O':=[]) qo.fn zE false (t8 CR CP n) fun cdv A outer s H E hr=>
  (av (aJ (ux AW o_lt ae (aj 1) (aG iG Z.fH PySem.boot_len (a8 (aj 0) ai)))))
theorem qA:aH ["rules","flights","closed","plan","place","pushes","chain"] ["rules","flights","closed","plan","place"] (ar qg):=⟨rfl,rfl,rfl,by decide +kernel,rfl,by decide +kernel,by decide +kernel⟩
theorem zO {n:Nat} {P:Program} {w:World} {K:PySem.W.Frag} {mg:Str->Option Value} {base:Heap} {CR CP:Addr} (Z:Zs K mg CR CP) {gI:Addr} {eR:FuncData} (du:Yd P w K mg base CX0 4 "pushes_of" kj ["rules","flights","closed","plan"] (spF K false (eG CR CP n) 4) gI eR) {mY:Addr} {kQ:FuncData} (ql:Yd P w K mg base CX0 1 "is_place" qf ["flights","place"] (spF K false (mQ CR CP n) 2) mY kQ) {mZ:Addr} {kS:FuncData} (qp:Def K mg "chain_of" qg ["rules","flights","closed","plan","place"] mZ kS):cz P w K mg base CX0 5 mZ kS ["rules","flights","closed","plan","place"] (spF K false (mS CR CP n) 5):=
 lj (O':=[]) qp.fn qA false (t9 CR CP n) fun cdv A outer s H E hr=>
  (ah (fv (rQ (pS (ay ql.o (hr.mono (by decide)) ql.d.mg ql.d.fn.kp ql.d.bd (a8 (aj 1) (a8 (aj 4) ai)))))
   (av yU)
   bS)
  (ah (aq (i:=5) (own:=false) qA.nd (ay du.o hr du.d.mg du.d.fn.kp du.d.bd (a8 (aj 0) (a8 (aj 1) (a8 (aj 2) (a8 (aj 3) ai))))))
  (ah (aq (i:=6) (own:=true) qA.nd (cy (a8 (aj 4) ai)))
  (ah (uw (m:=n) (bN (zx hr.units) (aw aY (aw aY (aj 5) (aw aY (aj 6) (A4 zQ ae))) ae) yV)
   (av (ds_appA (i:=6) (aw aY (aw aY (aj 5) (aw aY (aj 6) (A4 zQ ae))) ae))))
  (bE (O2:=[]) (av (aJ (aA (de_lrev Z.rp Z.mD (aj 6))))))))))
theorem gg:aH ["_law_made_here","_law_lists","_law_times","_law_pushes","_law_place","_law_chain"] ["_law_made_here","_law_lists","_law_times"] (ar hG):=⟨rfl,rfl,rfl,by decide +kernel,rfl,by decide +kernel,by decide +kernel⟩
theorem u6 {n:Nat} {P:Program} {w:World} {K:PySem.W.Frag} {mg:Str->Option Value} {base:Heap} {CR CP:Addr} (Z:Zs K mg CR CP) {gI:Addr} {eR:FuncData} (du:Yd P w K mg base CX0 4 "pushes_of" kj ["rules","flights","closed","plan"] (spF K false (eG CR CP n) 4) gI eR) {mZ:Addr} {kS:FuncData} (qm:Yd P w K mg base CX0 5 "chain_of" qg ["rules","flights","closed","plan","place"] (spF K false (mS CR CP n) 5) mZ kS) {eX:Addr} {dF:FuncData} (iC:Def K mg "_law_ends_led" hG ["_law_made_here","_law_lists","_law_times"] eX dF):cz P w K mg base CX0 6 eX dF ["_law_made_here","_law_lists","_law_times"] (spF K false (eP CR CP n) 3):=
 lj (O':=[]) iC.fn gg false (kN CR CP n) fun cdv A outer s H E hr=>
  (ah (aq (i:=3) (own:=false) gg.nd (ay du.o (hr.mono (by decide)) du.d.mg du.d.fn.kp du.d.bd (a8 (aj 0) (a8 (aw aY (aj 1) ae) (a8 (aw aY (aj 1) ae) (a8 (aw aY (aj 1) ae) ai))))))
  (ah (gT (pt:=.nm 4) (lN (aA (cy (a8 ae (a8 (au zP (aG iG Z.fH PySem.boot_len (a8 (aj 2) ai)) ae) ai))))) (rT gg.nd)
   (ah (aq (i:=5) (own:=false) gg.nd (ay qm.o hr qm.d.mg qm.d.fn.kp qm.d.bd (a8 (aj 0) (a8 (aw aY (aj 1) ae) (a8 (aw aY (aj 1) ae) (a8 (aw aY (aj 1) ae) (a8 (aj 4) ai)))))))
  (av (fv (PW.pt (C4 (bN (o_ne hr.units) (aw aY (aj 5) (A4 zQ ae)) (aj 4)) (C4 (bN (zx hr.units) (aw aY (aw aY (aj 3) (aw aY (aj 5) ae)) ae) yV) (yT (bN o_gt (aw aY (aj 2) (aw aY (aj 5) ae)) (aw aY (aj 2) (aj 4)))))))
   (av (aJ pU))
   bS))))
  (av (aJ pU))))
theorem fD:aH ["_law_script","_law_rules","_law_flights_here","_law_closed_here","_law_plan_here","_law_made_here","_law_lists","_law_times","_law_k","_law_before","_law_total","_law_kind","_law_first","_law_last","_law_due","_law_price","_law_free_here","_law_place"] ["_law_script"] (ar BB):=⟨rfl,rfl,rfl,by decide +kernel,rfl,by decide +kernel,by decide +kernel⟩
theorem ok_law {n:Nat} {P:Program} {w:World} {K:PySem.W.Frag} {mg:Str->Option Value} {base:Heap} {CR CP:Addr} (Z:Zs K mg CR CP) {jt:Addr} {ia:FuncData} (lR:Yd P w K mg base CX0 4 "_law_state" lC ["_law_script","_law_most"] (spF K false (eK CR CP n) 2) jt ia) {l0:Addr} {jm:FuncData} (oq:Yd P w K mg base CX0 7 "_law_made" nv ["_law_rules"] (spF K false (di CR CP n) 1) l0 jm) {iQ:Addr} {gH:FuncData} (c8:Yd P w K mg base CX0 3 "times_of" mG ["rules","flights","closed","plan"] (spF K false (gN CR CP n) 4) iQ gH) {kU:Addr} {iP:FuncData} (bH:Yd P w K mg base CX0 2 "cost_of" oZ ["flights","plan","times"] (spF K false (hW CR CP n) 3) kU iP) {jv:Addr} {ic:FuncData} (lT:Yd P w K mg base CX0 2 "_law_least" lE ["_law_rules","_law_flights_here","_law_closed_here","_law_plan_here"] (spF K false (eO CR CP n) 4) jv ic) {jw:Addr} {ie:FuncData} (lU:Yd P w K mg base CX0 8 "_law_eased" lF ["_law_made_here","_law_lists","_law_number"] (spF K false (bW CR CP n) 3) jw ie) {kZ:Addr} {jl:FuncData} (oo:Yd P w K mg base CX0 2 "_law_pick" nu ["_law_script","_law_k"] (spF K false (gG CR CP n) 2) kZ jl) {jq:Addr} {i8:FuncData} (lP:Yd P w K mg base CX0 3 "keeps_plan" lA ["rules","flights","closed","plan","times"] (spF K false (gO CR CP n) 5) jq i8) {eW:Addr} {dE:FuncData} (iy:Yd P w K mg base CX0 3 "_law_no_later" gZ ["_law_flights_here","_law_plan_here","_law_times","_law_before"] (spF K false (eN CR CP n) 4) eW dE) {eX:Addr} {dF:FuncData} (iz:Yd P w K mg base CX0 6 "_law_ends_led" hG ["_law_made_here","_law_lists","_law_times"] (spF K false (eP CR CP n) 3) eX dF) {gJ:Addr} {eS:FuncData} (dv:Yd P w K mg base CX0 1 "late_cost" kl ["flight","time"] (spF K false (eI CR CP n) 2) gJ eS) {BY:Addr} {fd_law:FuncData} (D_law:Def K mg "law" BB ["_law_script"] BY fd_law):cz P w K mg base CX0 9 BY fd_law ["_law_script"] (spF K false (Dk CR CP n) 1):=
 lj (O':=[]) D_law.fn fD false (g_law CR CP n) fun cdv A outer s H E hr=>
  (ah (tm (ay lR.o (hr.mono (by decide)) lR.d.mg lR.d.fn.kp lR.d.bd (a8 (aj 0) (a8 ae ai))) (oP rfl (aM (i:=1) fD.nd (aM (i:=2) fD.nd (aM (i:=3) fD.nd (aM (i:=4) fD.nd dN))))))
  (ah (aq (i:=5) (own:=false) fD.nd (ay oq.o (hr.mono (by decide)) oq.d.mg oq.d.fn.kp oq.d.bd (a8 (aj 1) ai)))
  (ah (aq (i:=6) (own:=false) fD.nd (cx (a8 (aj 2) (a8 (aj 3) (a8 (aj 4) ai)))))
  (ah (fv (pS (yX Z.kit Z.cY Z.uB (ay lT.o (hr.mono (by decide)) lT.d.mg lT.d.fn.kp lT.d.bd (a8 (aj 1) (a8 (aj 2) (a8 (aw aY (aj 6) ae) (a8 (aw aY (aj 6) ae) ai)))))))
   (av (aJ pU))
   bS)
  (ah (aq (i:=7) (own:=false) fD.nd (ay c8.o (hr.mono (by decide)) c8.d.mg c8.d.fn.kp c8.d.bd (a8 (aj 5) (a8 (aw aY (aj 6) ae) (a8 (aw aY (aj 6) ae) (a8 (aw aY (aj 6) ae) ai))))))
  (ah (gT (pt:=.nm 8) (fM Z.cL (a8 ae ai)) (rT fD.nd)
   (ah (tm (ay lU.o hr lU.d.mg lU.d.fn.kp lU.d.bd (a8 (aj 5) (a8 (aj 6) (a8 (ay oo.o (hr.mono (by decide)) oo.d.mg oo.d.fn.kp oo.d.bd (a8 (aj 0) (a8 (aj 8) ai))) ai)))) (oP rfl (aM (i:=5) fD.nd (aM (i:=6) fD.nd dN))))
  (ah (fv (bN o_notB (ay lP.o (hr.mono (by decide)) lP.d.mg lP.d.fn.kp lP.d.bd (a8 (aj 5) (a8 (aw aY (aj 6) ae) (a8 (aw aY (aj 6) ae) (a8 (aw aY (aj 6) ae) (a8 (aj 7) ai)))))) pU)
   (av (aJ pU))
   bS)
  (ah (aq (i:=9) (own:=false) fD.nd (aj 7))
  (ah (aq (i:=7) (own:=false) fD.nd (ay c8.o (hr.mono (by decide)) c8.d.mg c8.d.fn.kp c8.d.bd (a8 (aj 5) (a8 (aw aY (aj 6) ae) (a8 (aw aY (aj 6) ae) (a8 (aw aY (aj 6) ae) ai))))))
  (ah (fv (rQ (pS (ay iy.o (hr.mono (by decide)) iy.d.mg iy.d.fn.kp iy.d.bd (a8 (aw aY (aj 6) ae) (a8 (aw aY (aj 6) ae) (a8 (aj 7) (a8 (aj 9) ai)))))))
   (av (aJ pU))
   bS)
  (av (fv (PW.pt (B8 (bN o_gt (aG iG Z.fH PySem.boot_len (a8 (aj 7) ai)) ae) (xx (rQ (pS (ay iz.o (hr.mono (by decide)) iz.d.mg iz.d.fn.kp iz.d.bd (a8 (aj 5) (a8 (aj 6) (a8 (aj 7) ai)))))))))
   (av (aJ pU))
   bS))))))))
  (ah (aq (i:=10) (own:=false) fD.nd (ay bH.o (hr.mono (by decide)) bH.d.mg bH.d.fn.kp bH.d.bd (a8 (aw aY (aj 6) ae) (a8 (aw aY (aj 6) ae) (a8 (aj 7) ai)))))
  (ah (gT (pt:=.nm 8) (fM Z.cL (a8 (aG iG Z.fH PySem.boot_len (a8 (aw aY (aj 6) ae) ai)) ai)) (rT fD.nd)
   (ah (tm (aw aY (aw aY (aj 6) ae) (aj 8)) (oP rfl (aM (i:=11) fD.nd (aM (i:=12) fD.nd (aM (i:=13) fD.nd (aM (i:=14) fD.nd (aM (i:=15) fD.nd dN)))))))
  (ah (aq (i:=16) (own:=false) fD.nd (aA (au cA (aA (au cA (aA (yW x_sl (aw aY (aj 6) ae) qY (nU (aj 8)))) (aA (cy (a8 (cx (a8 (aj 11) (a8 (aj 12) (a8 (aj 13) (a8 (aj 14) (a8 ae ai)))))) ai))))) (aA (yW x_sl (aw aY (aj 6) ae) (nU (aA (au cA (aj 8) ae))) qY)))))
  (ah (aq (i:=17) (own:=false) fD.nd (xA hr.units (aA (l6 ["_law_flight","_law_strip"] [none,none] (lN (aw aY (aj 6) ae)) (fun _ _ _ _ _=>oP rfl (g9 (i:=0) (by decide +kernel) (g9 (i:=1) (by decide +kernel) dN))) (px (by decide)) (fun _ _ _ _ _=>iR) (fun _ _ _ _ _=>(aj 0)))) (aj 8)))
  (av (fv (bN (o_ne hr.units) (ay bH.o (hr.mono (by decide)) bH.d.mg bH.d.fn.kp bH.d.bd (a8 (aj 16) (a8 (aw aY (aj 6) ae) (a8 (aj 7) ai)))) (au zP (aj 10) (ay dv.o (hr.mono (by decide)) dv.d.mg dv.d.fn.kp dv.d.bd (a8 (aw aY (aw aY (aj 6) ae) (aj 8)) (a8 (aw aY (aj 7) (aj 17)) ai)))))
   (av (aJ pU))
   bS))))))
  (av (aJ pU))))))))))
noncomputable abbrev d8:=Int×Int
noncomputable def stD (p:d8):Dat:=.tup [.int p.1,.int p.2]
theorem ya:∀cs:List d8,qq (cs.map stD)=.ok (cs.map fun p=>[p.1,p.2])
 |[]=>rfl
 |p::cs=>by simp [qq,tupD,stD,dq,ya cs]
theorem yh (cs:List d8) (hl:cs.length<64):∃ss:List d8,qz [.lst (cs.map stD)]=.ok (.lst (ss.map stD))/\ss.Perm cs/\ss.Pairwise (fun p q=>p.1<=q.1):=by
 cases hc:cs with
 |nil=>exact ⟨[],by simp [qz,yi,dq,rH],List.Perm.refl _,List.Pairwise.nil⟩
 |cons p ps=>
  rw [<- hc]
  have hi:∃e,dq (cs.map stD)=.error e:=⟨.stuck,by rw [hc];simp [dq,stD,asI]⟩
  obtain ⟨e,he⟩:=hi
  have hne:((cs.map fun p=>[p.1,p.2]).all fun t=> !t.isEmpty)=true:=by simp
  have es:qz [.lst (cs.map stD)]=.ok (.lst ((rH uP (cs.map fun p=>[p.1,p.2])).map tupZ)):=by
   simp only [qz,yi,List.length_map,hl,if_true,he,ya,ax,hne]
  have hp:=sU (lt:=uP) (cs.map fun p=>[p.1,p.2])
  have hs:=pC D7 (cs.map fun p=>[p.1,p.2])
  generalize rH uP (cs.map fun p=>[p.1,p.2])=L at *
  let back:List Int->d8:=fun l=>(l.getD 0 0,l.getD 1 0)
  have hL:∀l∈L,∃p:d8,l=[p.1,p.2]:=fun l h=>by
   have:=hp.mem_iff.mp h
   simp only [List.mem_map] at this
   obtain ⟨p,_,e⟩:=this
   exact ⟨p,e.symm⟩
  refine ⟨L.map back,?_,?_,?_⟩
  ·rw [es,List.map_map]
   congr 2
   refine List.map_congr_left fun l h=>?_
   obtain ⟨p,rfl⟩:=hL l h
   rfl
  ·have:=hp.map back
   rw [List.map_map] at this
   have e2:List.map (back∘fun p=>[p.1,p.2]) cs=cs:=by
    rw [List.map_congr_left (g:=id)]
    ·simp
    ·intro p _;rfl
   rwa [e2] at this
  ·rw [List.pairwise_map]
   refine hs.imp_of_mem fun {a b} ha hb h=>?_
   obtain ⟨p,rfl⟩:=hL a ha
   obtain ⟨q,rfl⟩:=hL b hb
   show p.1<=q.1
   simp only [uP] at h
   by_cases e1:q.1=p.1
   ·omega
   ·rw [if_neg e1] at h
    have:=of_decide_eq_false h
    omega
@[simp] theorem getI_c0 (a:Dat) (l:List Dat):kh (a::l) 0=.ok a:=by
 unfold kh atI ixN
 rw [if_pos (by omega),if_pos (by simp<;>omega)]
 rfl
@[simp] theorem getI_c1 (a b:Dat) (l:List Dat):kh (a::b::l) 1=.ok b:=by
 unfold kh atI ixN
 rw [if_pos (by omega),if_pos (by simp<;>omega)]
 rfl
@[simp] theorem getI_c2 (a b c:Dat) (l:List Dat):kh (a::b::c::l) 2=.ok c:=by
 unfold kh atI ixN
 rw [if_pos (by omega),if_pos (by simp<;>omega)]
 rfl
@[simp] theorem getI_c3 (a b c d:Dat) (l:List Dat):kh (a::b::c::d::l) 3=.ok d:=by
 unfold kh atI ixN
 rw [if_pos (by omega),if_pos (by simp<;>omega)]
 rfl
@[simp] theorem getI_c4 (a b c d e:Dat) (l:List Dat):kh (a::b::c::d::e::l) 4=.ok e:=by
 unfold kh atI ixN
 rw [if_pos (by omega),if_pos (by simp<;>omega)]
 rfl
section
variable (CR CP:Addr)
theorem jM (n:Nat) (ns:List Int) (k:Int) (h0:0<=k) (h1:k<1000000):∃x,aK CR CP n [.lst (ns.map .int),.int k]=.ok (.int x)/\0<=x:=by
 have hk1: -18446744073709551616<7919*k:=by omega
 have hk2:7919*k<18446744073709551616:=by omega
 have hk3: -18446744073709551616<k:=by omega
 have hk4:k<18446744073709551616:=by omega
 by_cases hl:0<ns.length
 ·have hm0:0<=k%(ns.length:Int):=Int.emod_nonneg _ (by omega)
  have hm1:k%(ns.length:Int)<(ns.length:Int):=Int.emod_lt_of_pos _ (by omega)
  have hl':(0:Int)<ns.length:=by omega
  have hne:ns≠[]:=fun e=>by rw [e] at hl;simp at hl
  refine ⟨(ns[(k%(ns.length:Int)).toNat]'(by omega)+7919*k*k+k)*982451653%2305843009213693951*1000003%1152921504606846883/8,?_,?_⟩
  ·simp [aK,nQ,o4,hl,hne,getI_int hm0 hm1,n4 hl',hk1,hk2,hk3,hk4]
  ·exact Int.ediv_nonneg (Int.emod_nonneg _ (by decide)) (by decide)
 ·have hne:ns=[]:=by cases ns with|nil=>rfl|cons a b=>simp at hl
  subst hne
  refine ⟨(k+7919*k*k+k)*982451653%2305843009213693951*1000003%1152921504606846883/8,?_,?_⟩
  ·simp [aK,nQ,o4,hk1,hk2,hk3,hk4]
  ·exact Int.ediv_nonneg (Int.emod_nonneg _ (by decide)) (by decide)
theorem scale_ok (n:Nat) (ns:List Int):∃s:Int,cF CR CP n [.lst (ns.map .int)]=.ok (.int s)/\1<=s/\s<=100000:=by
 obtain ⟨x,e,hx⟩:=jM CR CP n ns 99 (by omega) (by omega)
 have h4:x%4=0\/x%4=1\/x%4=2\/x%4=3:=by omega
 rcases h4 with h|h|h|h
 ·exact ⟨1,by simp [cF,gR,e,h],by omega,by omega⟩
 ·exact ⟨1,by simp [cF,gR,e,h],by omega,by omega⟩
 ·exact ⟨100,by simp [cF,gR,e,h],by omega,by omega⟩
 ·exact ⟨100000,by simp [cF,gR,e,h],by omega,by omega⟩
noncomputable def km (r:List Int):Dat:=.lst (r.map .int)
noncomputable def aF (rows:List (List Int)):Dat:=.lst (rows.map km)
noncomputable def rn (k:Nat) (r:List Int):Prop:=r.length=k/\∀x∈r,0<=x/\x<=1000000
noncomputable def bU (k:Nat) (rows:List (List Int)):Prop:=rows.length=k/\∀r∈rows,rn k r
theorem BC {lo:Int} {m i:Nat} {d:Dat} (h:(aU lo m)[i]? =some d):i<m/\d=.int (lo+i):=by
 unfold aU at h
 rw [List.getElem?_map] at h
 obtain ⟨a,h1,h2⟩:=Option.map_eq_some_iff.mp h
 have hi:=(List.getElem?_eq_some_iff.mp h1).1
 rw [List.length_range] at hi
 rw [List.getElem?_range hi] at h1
 cases h1
 exact ⟨hi,h2.symm⟩
theorem bK {m i:Nat} {d:Dat} (h:(aU 0 m)[i]? =some d):i<m/\d=.int i:=by
 obtain ⟨h1,h2⟩:=BC h
 exact ⟨h1,by rw [h2,Int.zero_add]⟩
theorem bZ (lo:Int) (m:Nat):(aU lo m).length=m:=by unfold aU;simp
theorem gap_row (n:Nat) (ns:List Int) (b:Int) (k:Nat) (s:Int) (one:Nat) (rows:List Dat) (z7 z8:Option Dat) (hb0:0<=b) (hb1:b<=100) (hk:k<=6) (hs0:1<=s) (hs1:s<=100000) (ho:one<k) :
  ∃(r:List Int) (z7' z8':Option Dat),rn k r/\nj (.nm 7) (k8 CR CP n) (aU 0 k) [some (.lst (ns.map .int)),some (.int b),some (.int k),some (.int s),some (.lst rows),some (.int one),some (.lst []),z7,z8]=.ok (.nx [some (.lst (ns.map .int)),some (.int b),some (.int k),some (.int s),some (.lst rows),some (.int one),some (km r),z7',z8']):=by
 obtain ⟨ρ',e,r,z7',z8',rfl,h1,h2⟩:=cR (p:=.nm 7) (g:=k8 CR CP n)
  (fun i ρ=>∃(r:List Int) (z7 z8:Option Dat),ρ=[some (.lst (ns.map .int)),some (.int b),some (.int k),some (.int s),some (.lst rows),some (.int one),some (km r),z7,z8]/\r.length=i/\∀x∈r,0<=x/\x<=1000000) (aU 0 k) 0 _ ⟨[],z7,z8,rfl,rfl,by simp⟩ (by
  rintro i d ρ hd ⟨r,z7,z8,rfl,hr1,hr2⟩
  obtain ⟨hi,rfl⟩:=bK hd
  have hm:(one:Int)*k<=36:=by
   have:one*k<=6*6:=Nat.mul_le_mul (by omega) hk
   exact_mod_cast this
  have hm0:0<=(one:Int)*k:=Int.mul_nonneg (by omega) (by omega)
  obtain ⟨x,e,hx⟩:=jM CR CP n ns (b+(one:Int)*k+(i:Int)) (by omega) (by omega)
  have hs':0<s:=by omega
  have ho1: -18446744073709551616<(one:Int):=by omega
  have ho2:(one:Int)<18446744073709551616:=by omega
  have q1: -18446744073709551616<x%6:=by omega
  have q2:x%6<18446744073709551616:=by omega
  have hl:r.length<16777216:=by omega
  refine ⟨_,by simp;rfl,?_⟩
  refine ⟨_,.inl (by simp [k8,e,n4 hs',ho1,ho2,q1,q2,hl,km];rfl),r++[x%6*s+x/6%s],some (.int (i:Int)),some (.int x),by simp [km],by simp;omega,fun y hy=>?_⟩
  rcases List.mem_append.mp hy with z|z
  ·exact hr2 y z
  ·simp at z
   subst z
   have a1:0<=x/6%s:=Int.emod_nonneg _ (by omega)
   have a2:x/6%s<s:=Int.emod_lt_of_pos _ hs'
   have a3:0<=x%6*s:=Int.mul_nonneg (by omega) (by omega)
   have a4:x%6*s<=5*100000:=Int.le_trans (Int.mul_le_mul_of_nonneg_right (by omega) (by omega)) (Int.mul_le_mul_of_nonneg_left hs1 (by omega))
   omega)
 rw [Nat.zero_add,bZ] at h1
 exact ⟨r,z7',z8',⟨h1,h2⟩,e⟩
theorem DH (n:Nat) (ns:List Int) (b:Int) (k:Nat) (s:Int) (hb0:0<=b) (hb1:b<=100) (hk:k<=6) (hs0:1<=s) (hs1:s<=100000):∃rows,bU k rows/\iN CR CP n [.lst (ns.map .int),.int b,.int k,.int s]=.ok (aF rows):=by
 have k1: -4611686018427387904<=(k:Int):=by omega
 have k2:(k:Int)<4611686018427387904:=by omega
 obtain ⟨ρ',e,rows,y5,y6,y7,y8,rfl,h1,h2⟩:=cR (p:=.nm 5) (g:=og CR CP n)
  (fun i ρ=>∃(rows:List (List Int)) (z5 z6 z7 z8:Option Dat),ρ=[some (.lst (ns.map .int)),some (.int b),some (.int k),some (.int s),some (aF rows),z5,z6,z7,z8]/\rows.length=i/\∀r∈rows,rn k r) (aU 0 k) 0 [some (.lst (ns.map .int)),some (.int b),some (.int k),some (.int s),some (.lst []),none,none,none,none] ⟨[],none,none,none,none,rfl,rfl,by simp⟩ (by
  rintro i d ρ hd ⟨rows,z5,z6,z7,z8,rfl,hr1,hr2⟩
  obtain ⟨hi,rfl⟩:=bK hd
  obtain ⟨r,z7',z8',hg,e⟩:=gap_row CR CP n ns b k s i (rows.map km) z7 z8 hb0 hb1 hk hs0 hs1 hi
  have hl:rows.length<16777216:=by omega
  refine ⟨_,by simp;rfl,?_⟩
  refine ⟨_,.inl (by simp [og,aF,k1,k2,e,hl];rfl),rows++[r],some (.int i),some (km r),z7',z8',by simp [aF],by simp;omega,fun y hy=>?_⟩
  rcases List.mem_append.mp hy with z|z
  ·exact hr2 y z
  ·simp at z;subst z;exact hg)
 rw [Nat.zero_add,bZ] at h1
 exact ⟨rows,⟨h1,h2⟩,by simp [iN,qW,k1,k2,e]⟩
theorem rules_ok (n:Nat) (ns:List Int) (s:Int) (hs0:1<=s) (hs1:s<=100000):∃(k:Nat) (rows:List (List Int)) (o:Dat),1<=k/\k<=6/\bU k rows/\(o=.non\/∃fJ,bU k fJ/\o=aF fJ)/\cj CR CP n [.lst (ns.map .int),.int s]=.ok (.tup [aF rows,o]):=by
 obtain ⟨x,e1,hx⟩:=jM CR CP n ns 0 (by omega) (by omega)
 obtain ⟨y,e2,hy⟩:=jM CR CP n ns 1 (by omega) (by omega)
 have hk0:0<=x%6:=by omega
 have hk:1+x%6=((1+(x%6).toNat:Nat):Int):=by omega
 obtain ⟨rows,g1,e3⟩:=DH CR CP n ns 4 (1+(x%6).toNat) s (by omega) (by omega) (by omega) hs0 hs1
 obtain ⟨fJ,g2,e4⟩:=DH CR CP n ns 50 (1+(x%6).toNat) s (by omega) (by omega) (by omega) hs0 hs1
 rw [<- hk] at e3 e4
 by_cases h:y%2=1
 ·exact ⟨1+(x%6).toNat,rows,aF fJ,by omega,by omega,g1,.inr ⟨fJ,g2,rfl⟩,by simp [cj,i5,iT,e1,e2,e3,e4,h]⟩
 ·exact ⟨1+(x%6).toNat,rows,.non,by omega,by omega,g1,.inl rfl,by simp [cj,i5,iT,e1,e2,e3,h]⟩
end
section
variable (CR CP:Addr)
theorem Dy (n:Nat) (x:Int) (h0:0<=x) (h1:x<=1000000):nE CR CP n [.int x]=.ok (.bl true):=by simp [nE,xq,wq,h0,h1]
theorem xk (n:Nat) (k:Nat) (r:List Int) (hk:k<=6) (h:rn k r):eJ CR CP n [km r,.int k]=.ok (.bl true):=by
 have hl:r.length<=16777216:=by have:=h.1;omega
 have hk':k<=16777216:=by omega
 have e:b8 (.nm 0) sq (fL (nE CR CP n) (aa (af 0) aC)) [none] (r.map .int)=.ok ((r.map fun _=>true).map Dat.bl):=by
  have:=jy (p:=.nm 0) (fe:=fL (nE CR CP n) (aa (af 0) aC)) (ρ0:=[none]) (fun _=>.bl true) (r.map .int) (fun d hd=>by
   obtain ⟨x,hx,rfl⟩:=List.mem_map.mp hd
   exact ⟨[some (.int x)],by simp,by simp [Dy CR CP n x (h.2 x hx).1 (h.2 x hx).2]⟩)
  rw [this,List.map_map,List.map_map]
  rfl
 simp [eJ,pO,km,e,hl,hk',h.1,-List.map_map]
theorem vh (n:Nat) (rows:List (List Int)) (hl:rows.length<=1000):bh CR CP n [aF rows]=.ok (aF rows):=by
 have hl2:rows.length<=16777216:=by omega
 have e:b8 (.nm 0) sq (fL yJ (aa (af 0) aC)) [none] (rows.map km)=.ok (rows.map km):=by
  have:=jy (p:=.nm 0) (fe:=fL yJ (aa (af 0) aC)) (ρ0:=[none]) id (rows.map km) (fun d hd=>by
   obtain ⟨x,hx,rfl⟩:=List.mem_map.mp hd
   exact ⟨[some (km x)],by simp,by simp [km]⟩)
  rw [this,List.map_id]
 simp [bh,nM,aF,e,hl2]
theorem qk (n:Nat) (k:Nat) (rows:List (List Int)) (h1:1<=k) (h6:k<=6) (h:bU k rows):az CR CP n [aF rows]=.ok (aF rows):=by
 have hl2:rows.length<=16777216:=by have:=h.1;omega
 have e:b8 (.nm 0) sq (fL (eJ CR CP n) (aa (af 0) (aa (af 1) aC))) [none,some (.int rows.length)] (rows.map km)=.ok ((rows.map fun _=>true).map Dat.bl):=by
  have:=jy (p:=.nm 0) (fe:=fL (eJ CR CP n) (aa (af 0) (aa (af 1) aC))) (ρ0:=[none,some (.int rows.length)]) (fun _=>.bl true) (rows.map km) (fun d hd=>by
   obtain ⟨x,hx,rfl⟩:=List.mem_map.mp hd
   exact ⟨[some (km x),some (.int rows.length)],by simp,by simp [h.1,xk CR CP n k x h6 (h.2 x hx)]⟩)
  rw [this,List.map_map,List.map_map]
  rfl
 have a1:(1:Int)<=rows.length:=by have:=h.1;omega
 have a2:(rows.length:Int)<=6:=by have:=h.1;omega
 have e3:=vh CR CP n rows (by have:=h.1;omega)
 simp only [aF] at e3
 simp [az,mq,oK,oJ,aF,e,e3,hl2,a1,a2,-List.map_map]
noncomputable def aB (rows:List (List Int)):Dat->Dat
 |.non=>.ins CR [("gaps",aF rows)]
 |o=>.ins CP [("gaps",aF rows),("beside",o)]
theorem zU (n:Nat) (k:Nat) (rows:List (List Int)) (o:Dat) (h1:1<=k) (h6:k<=6) (h:bU k rows) (ho:o=.non\/∃fJ,bU k fJ/\o=aF fJ):di CR CP n [.tup [aF rows,o]]=.ok (aB CR CP rows o):=by
 have e1:=qk CR CP n k rows h1 h6 h
 rcases ho with rfl|⟨fJ,g2,rfl⟩
 ·simp [di,nO,nY,newR,e1,aB]
 ·have e2:=qk CR CP n k fJ h1 h6 g2
  have ht:twoL (aF rows) (aF fJ)=true:=by simp [twoL,aF,h.1,g2.1]
  have e3:aB CR CP rows (aF fJ)=.ins CP [("gaps",aF rows),("beside",aF fJ)]:=rfl
  rw [e3]
  have hr:aF fJ=.lst (fJ.map km):=rfl
  simp [di,nO,nY,newP,e1,e2,ht]
  rw [hr]
  have en:newP CP (az CR CP n) [aF rows,aF fJ]=.ok (.ins CP [("gaps",aF rows),("beside",aF fJ)]):=by simp [newP,e1,e2,ht]
  simp [<- hr,en]
theorem zW (rows:List (List Int)) (o:Dat) (ho:o=.non\/∃fJ,o=aF fJ):rZ [CR,CP] "gaps" (aB CR CP rows o)=.ok (aF rows):=by
 have h1:((("gaps":Str)==("gaps":Str))=true):=by decide +kernel
 rcases ho with rfl|⟨fJ,rfl⟩
 ·show (if ([CR,CP].contains CR)=true then (match List.lookup ("gaps":Str) [(("gaps":Str),aF rows)] with|some d=>Except.ok d|none=>stk) else stk)=_
  rw [if_pos (by simp),List.lookup_cons,h1]
 ·show (if ([CR,CP].contains CP)=true then (match List.lookup ("gaps":Str) [(("gaps":Str),aF rows),(("beside":Str),aF fJ)] with|some d=>Except.ok d|none=>stk) else stk)=_
  rw [if_pos (by simp),List.lookup_cons,h1]
end
structure Fli where
 kind:Int
 first:Int
 last:Int
 due:Int
 price:Int
noncomputable def flD (f:Fli):Dat:=.tup [.int f.kind,.int f.first,.int f.last,.int f.due,.int f.price]
structure nh (k:Nat) (f:Fli):Prop where
 k0:0<=f.kind
 k1:f.kind<k
 f0:0<=f.first
 f1:f.first<=f.last
 l1:f.last<=1000000000
 d0:0<=f.due
 d1:f.due<=1000000000
 p0:0<=f.price
 p1:f.price<=1000000000
@[simp] theorem flatTop_f (d:Dat):tj false d=lp d:=by cases d<;>rfl
@[simp] theorem flatD_int (i:Int):lp (.int i)=true:=by rw [lp]<;>simp
theorem xf (a b:Int):ll a b<=a/\ll a b<=b/\(ll a b=a\/ll a b=b):=by unfold ll;split<;>omega
section
variable (CR CP:Addr)
theorem BW (n:Nat) (ns:List Int) (k:Nat) (rows:List (List Int)) (o:Dat) (most s:Int) (many i:Nat) (fl:List Fli) (z6 z7 z8 z9 z10 z11 z12:Option Dat) (hk:rows.length=k) (hk1:1<=k) (hm:many<=40) (hi:i<many) (hs0:1<=s) (hs1:s<=100000) (hfl:fl.length<=40) :
  ∃(f:Fli) (y7 y8 y9 y10 y11 y12:Option Dat),nh k f/\gv CR CP n [some (.lst (ns.map .int)),some (.tup [aF rows,o]),some (.int most),some (.int s),some (.int many),some (.lst (fl.map flD)),some (.int i),z7,z8,z9,z10,z11,z12]=.ok (.nx [some (.lst (ns.map .int)),some (.tup [aF rows,o]),some (.int most),some (.int s),some (.int many),some (.lst ((fl++[f]).map flD)),some (.int i),y7,y8,y9,y10,y11,y12]):=by
 obtain ⟨x,e,hx⟩:=jM CR CP n ns (100+(i:Int)) (by omega) (by omega)
 have p1:0<25*s*((i:Int)+1):=Int.mul_pos (by omega) (by omega)
 have p2:25*s*((i:Int)+1)<=2500000*40:=Int.le_trans (Int.mul_le_mul_of_nonneg_right (by omega) (by omega)) (Int.mul_le_mul_of_nonneg_left (by omega) (by omega))
 have p3:0<20*s:=by omega
 have f0:0<=x/16%(25*s*((i:Int)+1)):=Int.emod_nonneg _ (by omega)
 have f1:x/16%(25*s*((i:Int)+1))<25*s*((i:Int)+1):=Int.emod_lt_of_pos _ p1
 have d0:0<=x/1000%(20*s):=Int.emod_nonneg _ (by omega)
 have c1: -18446744073709551616<25*s:=by omega
 have c2:25*s<18446744073709551616:=by omega
 have c3: -18446744073709551616<100*s:=by omega
 have c4:100*s<18446744073709551616:=by omega
 have c5: -18446744073709551616<12*s:=by omega
 have c6:12*s<18446744073709551616:=by omega
 have hk2:(0:Int)<rows.length:=by omega
 have hfl2:fl.length<16777216:=by omega
 have hmp:(0:Int)<=many:=by omega
 generalize hF:x/16%(25*s*((i:Int)+1))=F at f0 f1
 generalize hDd:x/1000%(20*s)=dd at d0
 have q4:x%16/5=0\/x%16/5=1\/x%16/5=2\/x%16/5=3:=by omega
 have q2:x/3%2=0\/x/3%2=1:=by omega
 obtain ⟨w,hw0,ew⟩:∃w,0<=w/\kh [.int 1000000000,.int (100*s*many),.int (12*s*many),.int (3*s)] (x%16/5)=.ok (.int w):=by
  rcases q4 with h|h|h|h
  ·exact ⟨1000000000,by omega,by rw [h];simp⟩
  ·exact ⟨100*s*many,Int.mul_nonneg (by omega) (by omega),by rw [h];simp⟩
  ·exact ⟨12*s*many,Int.mul_nonneg (by omega) (by omega),by rw [h];simp⟩
  ·exact ⟨3*s,by omega,by rw [h];simp⟩
 obtain ⟨pr,hp0,hp1,ep⟩:∃w,0<=w/\w<=1000000000/\kh [.int (x/7%10),.int (x/7%1000000001)] (x/3%2)=.ok (.int w):=by
  rcases q2 with h|h
  ·exact ⟨x/7%10,by omega,by omega,by rw [h];simp⟩
  ·exact ⟨x/7%1000000001,by omega,by omega,by rw [h];simp⟩
 have kk0:0<=x/11%(rows.length:Int):=Int.emod_nonneg _ (by omega)
 have kk1:x/11%(rows.length:Int)<rows.length:=Int.emod_lt_of_pos _ hk2
 have m1:=xf 1000000000 (F+w)
 have m2:=xf 1000000000 (F+dd)
 have g1:x/11%(rows.length:Int)<(k:Int):=by omega
 have g2:F<=ll 1000000000 (F+w):=by omega
 have g3:0<=ll 1000000000 (F+dd):=by omega
 refine ⟨⟨x/11%(rows.length:Int),F,ll 1000000000 (F+w),ll 1000000000 (F+dd),pr⟩,some (.int x),some (.int F),some (.int w),some (.int (ll 1000000000 (F+w))),some (.int (ll 1000000000 (F+dd))),some (.int pr),⟨kk0,g1,f0,g2,m1.1,g3,m2.1,hp0,hp1⟩,?_⟩
 simp [gv,e,c1,c2,c3,c4,c5,c6,n4 p1,n4 p3,hF,hDd,ew,ep,n4 hk2,hfl2,aF,flD]
theorem BV (n:Nat) (ns:List Int) (k:Nat) (rows:List (List Int)) (o:Dat) (most:Nat) (s:Int) (hk:rows.length=k) (hk1:1<=k) (hm:most<=40) (hs0:1<=s) (hs1:s<=100000) :
  ∃fl:List Fli,fl.length<=most/\(∀f∈fl,nh k f)/\dJ CR CP n [.lst (ns.map .int),.tup [aF rows,o],.int most,.int s]=.ok (.lst (fl.map flD)):=by
 obtain ⟨x,e1,hx⟩:=jM CR CP n ns 2 (by omega) (by omega)
 obtain ⟨y,e2,hy⟩:=jM CR CP n ns 3 (by omega) (by omega)
 have hmp:0<(most:Int)/4+1:=by omega
 have a0:0<=x%((most:Int)/4+1):=Int.emod_nonneg _ (by omega)
 have a1:x%((most:Int)/4+1)<(most:Int)/4+1:=Int.emod_lt_of_pos _ hmp
 obtain ⟨many,hmany,em⟩:∃many:Nat,many<=most/\gu CR CP n [some (.lst (ns.map .int)),some (.tup [aF rows,o]),some (.int most),some (.int s),some (.int (x%((most:Int)/4+1))),none,none,none,none,none,none,none,none]=.ok (.nx [some (.lst (ns.map .int)),some (.tup [aF rows,o]),some (.int most),some (.int s),some (.int many),none,none,none,none,none,none,none,none]):=by
  by_cases h:y%8=5
  ·exact ⟨most,by omega,by simp [gu,e2,h]⟩
  ·exact ⟨(x%((most:Int)/4+1)).toNat,by omega,by simp [gu,e2,h]<;>omega⟩
 have k1: -4611686018427387904<=(many:Int):=by omega
 have k2:(many:Int)<4611686018427387904:=by omega
 obtain ⟨ρ',e,fl,y6,y7,y8,y9,y10,y11,y12,rfl,h1,h2⟩:=cR (p:=.nm 6) (g:=gv CR CP n)
  (fun i ρ=>∃(fl:List Fli) (z6 z7 z8 z9 z10 z11 z12:Option Dat),ρ=[some (.lst (ns.map .int)),some (.tup [aF rows,o]),some (.int most),some (.int s),some (.int many),some (.lst (fl.map flD)),z6,z7,z8,z9,z10,z11,z12]/\fl.length=i/\∀f∈fl,nh k f) (aU 0 many) 0 [some (.lst (ns.map .int)),some (.tup [aF rows,o]),some (.int most),some (.int s),some (.int many),some (.lst []),none,none,none,none,none,none,none] ⟨[],none,none,none,none,none,none,none,rfl,rfl,by simp⟩ (by
  rintro i d ρ hd ⟨fl,z6,z7,z8,z9,z10,z11,z12,rfl,hr1,hr2⟩
  obtain ⟨hi,rfl⟩:=bK hd
  obtain ⟨f,y7,y8,y9,y10,y11,y12,hg,e⟩:=BW CR CP n ns k rows o most s many i fl z6 z7 z8 z9 z10 z11 z12 hk hk1 (by omega) hi hs0 hs1 (by omega)
  refine ⟨_,by simp<;>rfl,_,.inl e,fl++[f],some (.int i),y7,y8,y9,y10,y11,y12,rfl,by simp;omega,fun y hy=>?_⟩
  rcases List.mem_append.mp hy with z|z
  ·exact hr2 y z
  ·simp at z;subst z;exact hg)
 rw [Nat.zero_add,bZ] at h1
 exact ⟨fl,by omega,h2,by simp [dJ,mr,e1,n4 hmp,em,k1,k2,e]⟩
end
theorem BZ {α:Type} {l:List α} {i:Nat} (h:i<l.length):(l[i]::l.eraseIdx i).Perm l:=by
 rw [List.eraseIdx_eq_take_drop_succ]
 have e:l.take i++l[i]::l.drop (i+1)=l:=by rw [List.getElem_cons_drop,List.take_append_drop]
 have:=(List.perm_middle (a:=l[i]) (l₁:=l.take i) (l₂:=l.drop (i+1))).symm
 rw [e] at this
 exact this
theorem xt (l:List d8) (j:Nat):(l.map stD).eraseIdx j=(l.eraseIdx j).map stD:=by
 rw [List.eraseIdx_eq_take_drop_succ,List.eraseIdx_eq_take_drop_succ]
 simp
theorem popD_st {ls:List d8} {k:Int} (h0:0<=k) (h1:k<ls.length) (hl:ls.length<=16777216):zI (ls.map stD) (.int k)=.ok (stD (ls[k.toNat]'(by omega)),(ls.eraseIdx k.toNat).map stD):=by
 have hj:k.toNat<ls.length:=by omega
 have hn:¬16777216<ls.length:=by omega
 simp [zI,ixN,h0,h1,hj,hn,xt]
section
variable (CR CP:Addr)
theorem wg (fl:List Fli):∀ks:List Nat,(∀k∈ks,k<fl.length)->∃cs:List d8,cs.map (·.2)=ks.map (fun k:Nat=>(k:Int))/\b8 (.nm 0) sq (fL bQ (aa (f2 ixD (f2 ixD (af 1) (af 0)) (fC (.int 1))) (aa (af 0) aC))) [none,some (.lst (fl.map flD))] (ks.map fun k:Nat=>Dat.int (k:Int))=.ok (cs.map stD)
 |[],_=>⟨[],rfl,rfl⟩
 |k::ks,h=>by
  obtain ⟨cs,h1,h2⟩:=wg fl ks fun x hx=>h x (by simp [hx])
  have hk:=h k (by simp)
  have e:kh (fl.map flD) (k:Int)=.ok (flD fl[k]):=by
   rw [jW (by simpa using hk)];simp
  refine ⟨((fl[k]).first,(k:Int))::cs,by simp [h1],?_⟩
  rw [List.map_cons,b8]
  simp [e,flD,h2,stD]
theorem yr (n:Nat) (ns:List Int) (a1 a2:Option Dat) (st:Int) (hs0:1<=st):∀(m:Nat) (left pairs:List d8) (z6 z7 z8 z9:Option Dat),left.length<m->left.length+pairs.length<=1000->(∀p∈pairs,0<=p.2/\p.2<st) ->
  ∃(qs:List d8) (y6 y7 y8 y9:Option Dat),(qs.map (·.1)).Perm (pairs.map (·.1)++left.map (·.2))/\(∀p∈qs,0<=p.2/\p.2<st) /\
   cw (gU CR CP n) (k7 CR CP n) m [some (.lst (ns.map .int)),a1,a2,some (.lst (left.map stD)),some (.lst (pairs.map stD)),some (.int st),z6,z7,z8,z9]=.ok (.nx [some (.lst (ns.map .int)),a1,a2,some (.lst []),some (.lst (qs.map stD)),some (.int st),y6,y7,y8,y9])
 |0,left,pairs,z6,z7,z8,z9,h,_,_=>by omega
 |m+1,left,pairs,z6,z7,z8,z9,h,hl,hp=>by
  by_cases h0:left.length=0
  ·have:left=[]:=List.length_eq_zero_iff.mp h0
   subst this
   exact ⟨pairs,z6,z7,z8,z9,by simp,hp,by rw [cw];simp [gU]⟩
  ·obtain ⟨x,e,hx⟩:=jM CR CP n ns (180+(left.length:Int)) (by omega) (by omega)
   have hpos:0<left.length:=by omega
   have m1:=xf (left.length:Int) 3
   have hmz:0<ll (left.length:Int) 3:=by omega
   have b0:0<=x/64%ll (left.length:Int) 3:=Int.emod_nonneg _ (by omega)
   have b1:x/64%ll (left.length:Int) 3<ll (left.length:Int) 3:=Int.emod_lt_of_pos _ hmz
   obtain ⟨at_,c0,c1,ec⟩:∃at_:Int,0<=at_/\at_<left.length/\vt (.int (x/64%ll (left.length:Int) 3)) (.int (b2z (decide (x%4=0))))=.ok (.int at_):=by
    by_cases hq:x%4=0
    ·exact ⟨x/64%ll (left.length:Int) 3,b0,by omega,by simp [hq,b2z]⟩
    ·exact ⟨0,by omega,by omega,by simp [hq,b2z]⟩
   have ep:=popD_st c0 c1 (by omega)
   have hst:0<st:=by omega
   have r0:0<=x/4096%st:=Int.emod_nonneg _ (by omega)
   have r1:x/4096%st<st:=Int.emod_lt_of_pos _ hst
   have hpl:pairs.length<16777216:=by omega
   have hat:at_.toNat<left.length:=by omega
   generalize hpd:left[at_.toNat]'hat=pd at ep
   have hle:=List.length_eraseIdx_of_lt hat
   obtain ⟨qs,y6,y7,y8,y9,hq1,hq2,hq3⟩:=yr n ns a1 a2 st hs0 m (left.eraseIdx at_.toNat) (pairs++[(pd.2,x/4096%st)]) (some (.int x)) (some (.int at_)) (some (.int pd.1)) (some (.int pd.2)) (by omega) (by simp;omega) (fun p hp'=>by
    rcases List.mem_append.mp hp' with z|z
    ·exact hp p z
    ·simp at z;subst z;exact ⟨r0,r1⟩)
   refine ⟨qs,y6,y7,y8,y9,?_,hq2,?_⟩
   ·refine hq1.trans ?_
    rw [List.map_append,List.append_assoc]
    refine List.Perm.append_left _ ?_
    have:=(BZ hat).map (·.2)
    rw [hpd] at this
    simpa using this
   ·rw [cw]
    rw [List.map_append,List.map_cons,List.map_nil] at hq3
    simp only [stD] at hq3 ep
    have ht:gU CR CP n [some (.lst (ns.map .int)),a1,a2,some (.lst (left.map stD)),some (.lst (pairs.map stD)),some (.int st),z6,z7,z8,z9]=.ok true:=by simp [gU,hpos]
    have hb:k7 CR CP n [some (.lst (ns.map .int)),a1,a2,some (.lst (left.map stD)),some (.lst (pairs.map stD)),some (.int st),z6,z7,z8,z9]=.ok (.nx [some (.lst (ns.map .int)),a1,a2,some (.lst ((left.eraseIdx at_.toNat).map stD)),some (.lst (pairs.map stD++[.tup [.int pd.2,.int (x/4096%st)]])),some (.int st),some (.int x),some (.int at_),some (.int pd.1),some (.int pd.2)]):=by
     simp [k7,e,n4 hmz,ec,ep,n4 hst,hpl]
    rw [ht,ax,if_pos rfl,hb,ax]
    exact hq3
end
section
variable (CR CP:Addr)
theorem plan_ok (n:Nat) (ns:List Int) (rows:List (List Int)) (o:Dat) (fl:List Fli) (hf:fl.length<=60) (hn:64<=n):∃qs:List d8,(qs.map (·.1)).Perm ((List.range fl.length).map fun k:Nat=>(k:Int))/\(∀p∈qs,0<=p.2/\p.2<2)/\(o=.non->∀p∈qs,p.2=0)/\iM CR CP n [.lst (ns.map .int),.tup [aF rows,o],.lst (fl.map flD)]=.ok (.lst (qs.map stD)):=by
 obtain ⟨cs,h1,h2⟩:=wg fl (List.range fl.length) (fun k hk=>List.mem_range.mp hk)
 have hcl:cs.length=fl.length:=by have:=congrArg List.length h1;simpa using this
 obtain ⟨ss,e,hp,_⟩:=yh cs (by omega)
 obtain ⟨b,hb⟩:∃b,isND o .non=.ok (.bl b):=by cases o<;>exact ⟨_,rfl⟩
 have hs0:1<=(2:Int)-b2z b:=by cases b<;>decide
 have hs1:(2:Int)-b2z b<=2:=by cases b<;>decide
 obtain ⟨qs,y6,y7,y8,y9,q1,q2,q3⟩:=yr CR CP n ns (some (.tup [aF rows,o])) (some (.lst (fl.map flD))) (2-b2z b) hs0 n ss [] none none none none (by rw [hp.length_eq];omega) (by rw [hp.length_eq];simp;omega) (by simp)
 refine ⟨qs,?_,fun p hp=>⟨(q2 p hp).1,by have:=(q2 p hp).2;omega⟩,fun hon p hp=>by subst hon;cases hb;have:=q2 p hp;simp [b2z] at this;omega,?_⟩
 ·refine q1.trans ?_
  rw [List.map_nil,List.nil_append,<- h1]
  exact hp.map _
 ·have k1: -4611686018427387904<=(fl.length:Int):=by omega
  have k2:(fl.length:Int)<4611686018427387904:=by omega
  have hl2:fl.length<=16777216:=by omega
  have er:aU 0 fl.length=(List.range fl.length).map fun k:Nat=>Dat.int (k:Int):=by
   unfold aU
   exact List.map_congr_left fun k _=>by rw [Int.zero_add]
  rw [List.map_nil] at q3
  simp [iM,qV,k1,k2,er,h2,e,hb,hl2,q3,-e_isN]
end
noncomputable def mV (fl:List Fli) (i:Int):Fli:=match fl[i.toNat]? with
 |some f=>f
 |none=>⟨0,0,0,0,0⟩
theorem BS {fl:List Fli} {i:Int} (h0:0<=i) (h1:i<fl.length):kh (fl.map flD) i=.ok (flD (mV fl i))/\mV fl i∈fl:=by
 have hj:i.toNat<fl.length:=by omega
 have e:mV fl i=fl[i.toNat]:=by unfold mV;rw [List.getElem?_eq_getElem hj]
 refine ⟨?_,by rw [e];exact List.getElem_mem hj⟩
 have:=jW (ds:=fl.map flD) (k:=i.toNat) (by simpa using hj)
 rw [show ((i.toNat:Nat):Int)=i by omega] at this
 rw [this,e]
 simp
noncomputable def Cov (cs:List d8) (t:Int):Prop:=∃p∈cs,p.1<=t/\t<p.2
noncomputable def lb (cs:List d8) (t u:Int):Prop:=t<=u/\¬Cov cs u/\∀v,t<=v->v<u->Cov cs v
noncomputable def Bm (cs:List d8) (t u:Int):Prop:=u<=t/\¬Cov cs u/\∀v,u<v->v<=t->Cov cs v
theorem lb.uniq {cs:List d8} {t u v:Int} (h:lb cs t u) (k:lb cs t v):u=v:=by
 rcases Int.lt_trichotomy u v with e|e|e
 ·exact absurd (k.2.2 u h.1 e) h.2.1
 ·exact e
 ·exact absurd (h.2.2 v k.1 e) k.2.1
theorem Bm.uniq {cs:List d8} {t u v:Int} (h:Bm cs t u) (k:Bm cs t v):u=v:=by
 rcases Int.lt_trichotomy u v with e|e|e
 ·exact absurd (h.2.2 v e k.1) k.2.1
 ·exact e
 ·exact absurd (k.2.2 u e h.1) h.2.1
theorem A8 (t:Int):¬Cov [] t:=fun ⟨_,h,_⟩=>by simp at h
theorem xD {p:d8} {cs:List d8} {t:Int}:Cov (p::cs) t↔(p.1<=t/\t<p.2)\/Cov cs t:=by
 constructor
 ·rintro ⟨q,h,h2⟩
  rcases List.mem_cons.mp h with e|e
  ·subst e;exact .inl h2
  ·exact .inr ⟨q,e,h2⟩
 ·rintro (h|⟨q,h,h2⟩)
  ·exact ⟨p,by simp,h⟩
  ·exact ⟨q,by simp [h],h2⟩
theorem iS {as bs:List d8} {t:Int}:Cov (as++bs) t↔Cov as t\/Cov bs t:=by
 constructor
 ·rintro ⟨q,h,h2⟩
  rcases List.mem_append.mp h with e|e
  ·exact .inl ⟨q,e,h2⟩
  ·exact .inr ⟨q,e,h2⟩
 ·rintro (⟨q,h,h2⟩|⟨q,h,h2⟩)
  ·exact ⟨q,by simp [h],h2⟩
  ·exact ⟨q,by simp [h],h2⟩
theorem cov_perm {as bs:List d8} (h:as.Perm bs) {t:Int}:Cov as t↔Cov bs t:=⟨fun ⟨p,m,q⟩=>⟨p,h.mem_iff.mp m,q⟩,fun ⟨p,m,q⟩=>⟨p,h.mem_iff.mpr m,q⟩⟩
theorem A7 {p:d8} {t:Int}:Cov [p] t↔p.1<=t/\t<p.2:=by rw [xD];simp [A8]
noncomputable def covB (cs:List d8) (t:Int):Bool:=cs.any fun p=>decide (p.1<=t)&&decide (t<p.2)
theorem covB_iff {cs:List d8} {t:Int}:covB cs t=true↔Cov cs t:=by
 unfold covB Cov
 simp
theorem B6 {p:Pat} {g:ao->M Flo} (r:Dat) (P:Nat->ao->Prop) (B:Nat->Prop):∀(ds:List Dat) (k:Nat) (ρ:ao),P k ρ ->
  (∀(i:Nat) (d:Dat) (ρ:ao),ds[i]? =some d->P (k+i) ρ->∃ρ1,jz p d ρ=.ok ρ1/\((B (k+i)/\∃ρ2,g ρ1=.ok (.nx ρ2)/\P (k+i+1) ρ2)\/(¬B (k+i)/\g ρ1=.ok (.rt r)))) ->
  ((∀i,i<ds.length->B (k+i))/\∃ρ',nj p g ds ρ=.ok (.nx ρ')/\P (k+ds.length) ρ')\/((∃i,i<ds.length/\¬B (k+i))/\nj p g ds ρ=.ok (.rt r))
 |[],k,ρ,h,_=>.inl ⟨by simp,ρ,rfl,h⟩
 |d::ds,k,ρ,h,st=>by
  obtain ⟨ρ1,e1,h1⟩:=st 0 d ρ rfl h
  rcases h1 with ⟨hb,ρ2,e2,h2⟩|⟨hb,e2⟩
  ·have ih:=B6 r P B ds (k+1) ρ2 h2 fun i d' ρ he hp=>by
    have:=st (i+1) d' ρ (by simpa using he) (by rw [show k+(i+1)=k+1+i by omega];exact hp)
    rw [show k+(i+1)=k+1+i by omega] at this
    exact this
   have e:nj p g (d::ds) ρ=nj p g ds ρ2:=by rw [nj,e1];simp only [ax,e2]
   rcases ih with ⟨a,ρ',e3,h3⟩|⟨⟨i,hi,hbi⟩,e3⟩
   ·refine .inl ⟨fun i hi=>?_,ρ',by rw [e];exact e3,by rw [show k+(d::ds).length=k+1+ds.length by simp;omega];exact h3⟩
    cases i with
    |zero=>exact hb
    |succ i=>rw [show k+(i+1)=k+1+i by omega];exact a i (by simpa using hi)
   ·exact .inr ⟨⟨i+1,by simpa using hi,by rw [show k+(i+1)=k+1+i by omega];exact hbi⟩,by rw [e];exact e3⟩
  ·exact .inr ⟨⟨0,by simp,hb⟩,by rw [nj,e1];simp only [ax,e2]⟩
theorem l5:∀(ds:List Dat) (k i:Nat) (d:Dat),(n0 k ds)[i]? =some d->∃e,ds[i]? =some e/\d=.tup [.int ((k+i:Nat):Int),e]
 |[],k,i,d,h=>by simp [n0] at h
 |a::ds,k,0,d,h=>by simp [n0] at h;exact ⟨a,by simp,by simp [<- h]⟩
 |a::ds,k,i+1,d,h=>by
  simp [n0] at h
  obtain ⟨e,h1,h2⟩:=l5 ds (k+1) i d h
  exact ⟨e,by simpa using h1,by rw [h2,show k+1+i=k+(i+1) by omega]⟩
theorem il:∀(ds:List Dat) (k:Nat),(n0 k ds).length=ds.length
 |[],k=>rfl
 |a::ds,k=>by simp [n0,il ds (k+1)]
noncomputable def tAt (ts:List Int) (i:Nat):Int:=ts.getD i 0
noncomputable def qAt (qs:List d8) (i:Nat):d8:=qs.getD i (0,0)
noncomputable def CL (rows:List (List Int)) (i:Int):List Int:=rows.getD i.toNat []
noncomputable def at2 (rows:List (List Int)) (i j:Int):Int:=(CL rows i).getD j.toNat 0
noncomputable def apS (rows r2:List (List Int)) (a b:d8):Int:=if a.2=b.2 then at2 rows a.1 b.1 else at2 r2 a.1 b.1
noncomputable def oR (fl:List Fli) (p:d8):d8:=((mV fl p.1).kind,p.2)
structure Wo where
 k:Nat
 rows:List (List Int)
 r2:List (List Int)
 o:Dat
 fl:List Fli
 cs:List d8
 qs:List d8
structure Wo.Good (w:Wo):Prop where
 k1:1<=w.k
 k6:w.k<=6
 rows:bU w.k w.rows
 o:(w.o=.non/\∀p∈w.qs,p.2=0)\/(w.o=aF w.r2/\bU w.k w.r2)
 fl:∀f∈w.fl,nh w.k f
 fll:w.fl.length<=60
 cs:∀p∈w.cs,p.1<p.2
 csl:w.cs.length<=20
 qs:∀p∈w.qs,0<=p.1/\p.1<w.fl.length
 qsl:w.qs.length=w.fl.length
noncomputable def Wo.f (w:Wo) (i:Nat):Fli:=mV w.fl (qAt w.qs i).1
noncomputable def Wo.ap (w:Wo) (j i:Nat):Int:=apS w.rows w.r2 (oR w.fl (qAt w.qs j)) (oR w.fl (qAt w.qs i))
noncomputable def Wo.ruD (w:Wo):Dat:=.tup [aF w.rows,w.o]
noncomputable def Wo.Bn (w:Wo) (ts:List Int) (i:Nat):Prop:=((w.f i).first<=tAt ts i/\tAt ts i<=(w.f i).last/\¬Cov w.cs (tAt ts i))/\∀j,j<i->tAt ts j+w.ap j i<=tAt ts i
noncomputable def Wo.Keeps (w:Wo) (ts:List Int):Prop:=∀i,i<w.qs.length->w.Bn ts i
theorem getQ {qs:List d8} {i:Nat} (h:i<qs.length):kh (qs.map stD) (i:Int)=.ok (stD (qAt qs i)):=by
 rw [jW (by simpa using h)]
 simp [qAt,h]
theorem hU {qs:List d8} {i:Nat} (h:i<qs.length):qAt qs i∈qs:=by
 have:qAt qs i=qs[i]:=by simp [qAt,h]
 rw [this]
 exact List.getElem_mem h
theorem Ci {ts:List Int} {i:Nat} (h:i<ts.length):kh (ts.map .int) (i:Int)=.ok (.int (tAt ts i)):=by
 rw [jW (by simpa using h)]
 simp [tAt,h]
theorem getR {k:Nat} {rows:List (List Int)} (g:bU k rows) {i:Int} (h0:0<=i) (h1:i<k):kh (rows.map km) i=.ok (km (CL rows i))/\rn k (CL rows i):=by
 have hl:=g.1
 have hj:i.toNat<rows.length:=by omega
 have e:CL rows i=rows[i.toNat]:=by simp [CL,hj]
 refine ⟨?_,by rw [e];exact g.2 _ (List.getElem_mem hj)⟩
 have:=jW (ds:=rows.map km) (k:=i.toNat) (by simpa using hj)
 rw [show ((i.toNat:Nat):Int)=i by omega] at this
 rw [this,e]
 simp
theorem getA {k:Nat} {rows:List (List Int)} (g:bU k rows) {i j:Int} (h0:0<=i) (h1:i<k) (h2:0<=j) (h3:j<k):kh ((CL rows i).map .int) j=.ok (.int (at2 rows i j))/\0<=at2 rows i j:=by
 have gr:=(getR g h0 h1).2
 have hl:=gr.1
 have hj:j.toNat<(CL rows i).length:=by omega
 have e:at2 rows i j=(CL rows i)[j.toNat]:=by simp [at2,hj]
 refine ⟨?_,by rw [e];exact (gr.2 _ (List.getElem_mem hj)).1⟩
 rw [getI_int h2 (by omega),e]
theorem Wo.Good.fAt {w:Wo} (hw:w.Good) {i:Nat} (h:i<w.qs.length):kh (w.fl.map flD) (qAt w.qs i).1=.ok (flD (w.f i))/\nh w.k (w.f i):=by
 obtain ⟨h0,h1⟩:=hw.qs _ (hU h)
 obtain ⟨e,m⟩:=BS h0 h1
 exact ⟨e,hw.fl _ m⟩
theorem Wo.Good.ap0 {w:Wo} (hw:w.Good) {j i:Nat} (hj:j<w.qs.length) (hi:i<w.qs.length):0<=w.ap j i:=by
 have gj:=(hw.fAt hj).2
 have gi:=(hw.fAt hi).2
 unfold Wo.ap apS
 split
 ·exact (getA hw.rows gj.k0 gj.k1 gi.k0 gi.k1).2
 ·rename_i hne
  rcases hw.o with ⟨_,h⟩|⟨_,h⟩
  ·exact absurd ((h _ (hU hj)).trans (h _ (hU hi)).symm) hne
  ·exact (getA h gj.k0 gj.k1 gi.k0 gi.k1).2
section
variable (CR CP:Addr)
theorem apart_ok (n:Nat) {w:Wo} (hw:w.Good) {j i:Nat} (hj:j<w.qs.length) (hi:i<w.qs.length):gQ CR CP n [w.ruD,.lst (w.fl.map flD),stD (qAt w.qs j),stD (qAt w.qs i)]=.ok (.int (w.ap j i)):=by
 obtain ⟨ej,gj⟩:=hw.fAt hj
 obtain ⟨ei,gi⟩:=hw.fAt hi
 obtain ⟨r1,_⟩:=getR hw.rows gj.k0 gj.k1
 obtain ⟨r2,_⟩:=getA hw.rows gj.k0 gj.k1 gi.k0 gi.k1
 unfold Wo.f at *
 by_cases hs:(qAt w.qs j).2=(qAt w.qs i).2
 ·simp [gQ,lK,my,Wo.ruD,stD,ej,ei,flD,hs,aF,r1,km,r2,Wo.ap,apS,oR]
 ·rcases hw.o with ⟨_,h⟩|⟨ho,h⟩
  ·exact absurd ((h _ (hU hj)).trans (h _ (hU hi)).symm) hs
  ·obtain ⟨r3,_⟩:=getR h gj.k0 gj.k1
   obtain ⟨r4,_⟩:=getA h gj.k0 gj.k1 gi.k0 gi.k1
   simp [gQ,lK,my,Wo.ruD,stD,ej,ei,flD,hs,ho,aF,r3,km,r4,Wo.ap,apS,oR]
end
section
variable (CR CP:Addr)
theorem Eb (n:Nat) (ns:List Int) (s:Int) (hs0:1<=s) (hs1:s<=100000):∃cs:List d8,cs.length<=20/\(∀p∈cs,0<=p.1/\p.1<p.2)/\fm CR CP n [.lst (ns.map .int),.int s]=.ok (.lst (cs.map stD)):=by
 obtain ⟨x,e1,hx⟩:=jM CR CP n ns 150 (by omega) (by omega)
 obtain ⟨y,e2,hy⟩:=jM CR CP n ns 151 (by omega) (by omega)
 obtain ⟨many,hmany,em⟩:∃many:Nat,many<=20/\ir CR CP n [some (.lst (ns.map .int)),some (.int s),some (.int (x%5)),none,none,none,none]=.ok (.nx [some (.lst (ns.map .int)),some (.int s),some (.int many),none,none,none,none]):=by
  by_cases h:y%8=5
  ·exact ⟨20,by omega,by simp [ir,e2,h]⟩
  ·exact ⟨(x%5).toNat,by omega,by simp [ir,e2,h]<;>omega⟩
 have k1: -4611686018427387904<=(many:Int):=by omega
 have k2:(many:Int)<4611686018427387904:=by omega
 obtain ⟨ρ',e,cs,y4,y5,y6,rfl,h1,h2⟩:=cR (p:=.nm 4) (g:=l8 CR CP n)
  (fun i ρ=>∃(cs:List d8) (z4 z5 z6:Option Dat),ρ=[some (.lst (ns.map .int)),some (.int s),some (.int many),some (.lst (cs.map stD)),z4,z5,z6]/\cs.length=i/\∀p∈cs,0<=p.1/\p.1<p.2) (aU 0 many) 0 [some (.lst (ns.map .int)),some (.int s),some (.int many),some (.lst []),none,none,none] ⟨[],none,none,none,rfl,rfl,by simp⟩ (by
  rintro i d ρ hd ⟨cs,z4,z5,z6,rfl,hr1,hr2⟩
  obtain ⟨hi,rfl⟩:=bK hd
  obtain ⟨x,ex,hx⟩:=jM CR CP n ns (152+(i:Int)) (by omega) (by omega)
  have p1:0<150*s:=by omega
  have f0:0<=x/9%(150*s):=Int.emod_nonneg _ (by omega)
  have m0:0<=x%9*s:=Int.mul_nonneg (by omega) (by omega)
  have q1: -18446744073709551616<x%9:=by omega
  have q2:x%9<18446744073709551616:=by omega
  have hl:cs.length<16777216:=by omega
  refine ⟨_,by simp<;>rfl,[some (.lst (ns.map .int)),some (.int s),some (.int many),some (.lst ((cs++[(x/9%(150*s),x/9%(150*s)+1+x%9*s)]).map stD)),some (.int i),some (.int x),some (.int (x/9%(150*s)))],.inl ?_,_,_,_,_,rfl,by simp;omega,fun y hy=>?_⟩
  ·simp [l8,ex,n4 p1,q1,q2,hl,stD]
  ·rcases List.mem_append.mp hy with z|z
   ·exact hr2 y z
   ·simp at z;subst z;exact ⟨f0,by show x/9%(150*s)<x/9%(150*s)+1+x%9*s;omega⟩)
 rw [Nat.zero_add,bZ] at h1
 exact ⟨cs,by omega,h2,by simp [fm,nR,e1,em,k1,k2,e]⟩
end
noncomputable def cnt (cs:List d8) (t:Int):Nat:=cs.countP fun p=>decide (t<p.2)
theorem Bd {cs:List d8} {t u:Int} (h:t<=u):cnt cs u<=cnt cs t:=by
 unfold cnt
 exact List.countP_mono_left fun p _ hp=>by simp at hp ⊢;omega
theorem cnt_lt:∀{cs:List d8} {p:d8} {t:Int},p∈cs->t<p.2->cnt cs p.2<cnt cs t
 |[],p,t,hp,_=>by simp at hp
 |a::cs,p,t,hp,ht=>by
  have hm:=Bd (cs:=cs) (t:=t) (u:=p.2) (by omega)
  unfold cnt at *
  rw [List.countP_cons,List.countP_cons]
  rcases List.mem_cons.mp hp with e|e
  ·subst e
   simp [ht]
   omega
  ·have ih:=cnt_lt (cs:=cs) e ht
   unfold cnt at ih
   by_cases h1:p.2<a.2
   ·have:t<a.2:=by omega
    simp [h1,this];omega
   ·by_cases h2:t<a.2<;>simp [h1,h2]<;>omega
section
variable (CR CP:Addr)
theorem zK (n:Nat) (all:List d8) (c:Option Dat):∀(ds:List d8) (t:Int) (m:Bool) (z3 z4:Option Dat),(∀p∈ds,p∈all)->∃(t':Int) (m':Bool) (y3 y4:Option Dat),nj (.tp [3,4]) (br CR CP n) (ds.map stD) [c,some (.int t),some (.bl m),z3,z4]=.ok (.nx [c,some (.int t'),some (.bl m'),y3,y4])/\t<=t'/\(∀v,t<=v->v<t'->Cov all v)/\(m'=false->m=false/\t'=t/\¬Cov ds t)/\(m'=true->m=true\/cnt all t'<cnt all t)
 |[],t,m,z3,z4,_=>⟨t,m,z3,z4,rfl,Int.le_refl _,fun v h1 h2=>by omega,fun h=>⟨h,rfl,A8 t⟩,fun h=>.inl h⟩
 |p::ds,t,m,z3,z4,hin=>by
  have hb:jz (.tp [3,4]) (stD p) [c,some (.int t),some (.bl m),z3,z4]=.ok [c,some (.int t),some (.bl m),some (.int p.1),some (.int p.2)]:=by simp [stD]
  by_cases h:p.1<=t/\t<p.2
  ·have hg:br CR CP n [c,some (.int t),some (.bl m),some (.int p.1),some (.int p.2)]=.ok (.nx [c,some (.int p.2),some (.bl true),some (.int p.1),some (.int p.2)]):=by simp [br,dS,h.1,h.2]
   obtain ⟨t',m',y3,y4,e,h1,h2,h3,h4⟩:=zK n all c ds p.2 true (some (.int p.1)) (some (.int p.2)) fun q hq=>hin q (by simp [hq])
   refine ⟨t',m',y3,y4,?_,by omega,fun v a b=>?_,fun hm=>absurd (h3 hm).1 (by simp),fun _=>.inr ?_⟩
   ·rw [List.map_cons,nj,hb,ax,hg];exact e
   ·by_cases hv:v<p.2
    ·exact ⟨p,hin p (by simp),by omega,hv⟩
    ·exact h2 v (by omega) b
   ·exact Nat.lt_of_le_of_lt (Bd h1) (cnt_lt (hin p (by simp)) h.2)
  ·have hg:br CR CP n [c,some (.int t),some (.bl m),some (.int p.1),some (.int p.2)]=.ok (.nx [c,some (.int t),some (.bl m),some (.int p.1),some (.int p.2)]):=by
    by_cases h1:p.1<=t
    ·have h2:¬t<p.2:=fun z=>h ⟨h1,z⟩
     simp [br,dS,h1,h2]
    ·simp [br,dS,h1]
   obtain ⟨t',m',y3,y4,e,h1,h2,h3,h4⟩:=zK n all c ds t m (some (.int p.1)) (some (.int p.2)) fun q hq=>hin q (by simp [hq])
   refine ⟨t',m',y3,y4,?_,h1,h2,fun hm=>?_,h4⟩
   ·rw [List.map_cons,nj,hb,ax,hg];exact e
   ·obtain ⟨a,b,d⟩:=h3 hm
    exact ⟨a,b,fun z=>(xD.mp z).elim h d⟩
theorem vW (n:Nat) (cs:List d8):∀(m:Nat) (t:Int) (z3 z4:Option Dat),cnt cs t+1<m->∃(u:Int) (y3 y4:Option Dat),lb cs t u/\cw (bJ CR CP n) (dU CR CP n) m [some (.lst (cs.map stD)),some (.int t),some (.bl true),z3,z4]=.ok (.nx [some (.lst (cs.map stD)),some (.int u),some (.bl false),y3,y4])
 |0,t,z3,z4,h=>by omega
 |m+1,t,z3,z4,h=>by
  obtain ⟨t',m',y3,y4,e,h1,h2,h3,h4⟩:=zK CR CP n cs (some (.lst (cs.map stD))) cs t false z3 z4 fun q hq=>hq
  have ht:bJ CR CP n [some (.lst (cs.map stD)),some (.int t),some (.bl true),z3,z4]=.ok true:=by simp [bJ]
  have hb:dU CR CP n [some (.lst (cs.map stD)),some (.int t),some (.bl true),z3,z4]=.ok (.nx [some (.lst (cs.map stD)),some (.int t'),some (.bl m'),y3,y4]):=by simp [dU,e]
  cases m' with
  |false=>
   obtain ⟨_,e2,hn⟩:=h3 rfl
   subst e2
   refine ⟨t',y3,y4,⟨Int.le_refl _,hn,fun v a b=>by omega⟩,?_⟩
   rw [cw,ht,ax,if_pos rfl,hb,ax]
   have ht2:bJ CR CP n [some (.lst (cs.map stD)),some (.int t'),some (.bl false),y3,y4]=.ok false:=by simp [bJ]
   cases m with
   |zero=>omega
   |succ m=>
    show cw _ _ (m+1) _=_
    rw [cw,ht2,ax,if_neg (by simp)]
  |true=>
   rcases h4 rfl with z|z
   ·cases z
   ·obtain ⟨u,w3,w4,hu,e2⟩:=vW n cs m t' y3 y4 (by omega)
    refine ⟨u,w3,w4,⟨Int.le_trans h1 hu.1,hu.2.1,fun v a b=>?_⟩,?_⟩
    ·by_cases hv:v<t'
     ·exact h2 v a hv
     ·exact hu.2.2 v (by omega) b
    ·rw [cw,ht,ax,if_pos rfl,hb,ax]
     exact e2
theorem from_ok (n:Nat) (cs:List d8) (t:Int) (hl:cs.length<=20) (hn:64<=n):∃u,lb cs t u/\dA CR CP n [.lst (cs.map stD),.int t]=.ok (.int u):=by
 have hc:cnt cs t<=cs.length:=List.countP_le_length
 obtain ⟨u,y3,y4,hu,e⟩:=vW CR CP n cs n t none none (by omega)
 exact ⟨u,hu,by simp [dA,jI,e]⟩
end
theorem lookA1 (d:Dat):List.lookup ("apart":Str) [(("gaps":Str),d)]=none:=by
 rw [List.lookup_cons,show ((("apart":Str)==("gaps":Str))=false) from by decide +kernel]
 rfl
theorem lookA2 (d e:Dat):List.lookup ("apart":Str) [(("gaps":Str),d),(("beside":Str),e)]=none:=by
 rw [List.lookup_cons,show ((("apart":Str)==("gaps":Str))=false) from by decide +kernel]
 show List.lookup ("apart":Str) [(("beside":Str),e)]=none
 rw [List.lookup_cons,show ((("apart":Str)==("beside":Str))=false) from by decide +kernel]
 rfl
section
variable (CR CP:Addr)
theorem zm (rows r2:List (List Int)):rZ [CP] "beside" (aB CR CP rows (aF r2))=.ok (aF r2):=by
 have h1:((("beside":Str)==("gaps":Str))=false):=by decide +kernel
 have h2:((("beside":Str)==("beside":Str))=true):=by decide +kernel
 show (if ([CP].contains CP)=true then (match List.lookup ("beside":Str) [(("gaps":Str),aF rows),(("beside":Str),aF r2)] with|some d=>Except.ok d|none=>stk) else stk)=_
 rw [if_pos (by simp),List.lookup_cons,h1]
 show (match List.lookup ("beside":Str) [(("beside":Str),aF r2)] with|some d=>Except.ok d|none=>stk)=_
 rw [List.lookup_cons,h2]
theorem meth_ok (n:Nat) (hne:CR≠CP) {w:Wo} (hw:w.Good) {j i:Nat} (hj:j<w.qs.length) (hi:i<w.qs.length) (fo f1 f2:ao->M Dat) (ρ:ao) (h0:fo ρ=.ok (aB CR CP w.rows w.o)) (h1:f1 ρ=.ok (stD (oR w.fl (qAt w.qs j)))) (h2:f2 ρ=.ok (stD (oR w.fl (qAt w.qs i)))) :
  iH CR CP "apart" (dj CR CP n) (d7 CR CP n) fo (aa f1 (aa f2 aC)) ρ=.ok (.int (w.ap j i)):=by
 obtain ⟨ej,gj⟩:=hw.fAt hj
 obtain ⟨ei,gi⟩:=hw.fAt hi
 obtain ⟨r1,_⟩:=getR hw.rows gj.k0 gj.k1
 obtain ⟨r2,_⟩:=getA hw.rows gj.k0 gj.k1 gi.k0 gi.k1
 unfold Wo.f at *
 unfold iH
 rw [h0,ax]
 rcases hw.o with ⟨ho,h⟩|⟨ho,h⟩
 ·have hs:(qAt w.qs j).2=(qAt w.qs i).2:=(h _ (hU hj)).trans (h _ (hU hi)).symm
  have hc:isC CR "apart" (aB CR CP w.rows w.o)=true:=by
   rw [ho]
   show ((CR==CR)&&(List.lookup ("apart":Str) [(("gaps":Str),aF w.rows)]).isNone)=true
   rw [lookA1];simp
  have hg:=zW CR CP w.rows w.o (.inl ho)
  rw [if_pos hc]
  simp [h1,h2,dj,nS,hg,stD,oR,aF,r1,km,r2,Wo.ap,apS,hs]
 ·have hc:isC CR "apart" (aB CR CP w.rows w.o)=false:=by
   rw [ho]
   show ((CP==CR)&&(List.lookup ("apart":Str) [(("gaps":Str),aF w.rows),(("beside":Str),aF w.r2)]).isNone)=false
   have:(CP==CR)=false:=by simp;exact fun z=>hne z.symm
   rw [this];rfl
  have hc2:isC CP "apart" (aB CR CP w.rows w.o)=true:=by
   rw [ho]
   show ((CP==CP)&&(List.lookup ("apart":Str) [(("gaps":Str),aF w.rows),(("beside":Str),aF w.r2)]).isNone)=true
   rw [lookA2];simp
  have hg:=zW CR CP w.rows w.o (.inr ⟨_,ho⟩)
  have hb:rZ [CP] "beside" (aB CR CP w.rows w.o)=.ok (aF w.r2):=by rw [ho];exact zm CR CP w.rows w.r2
  obtain ⟨r3,_⟩:=getR h gj.k0 gj.k1
  obtain ⟨r4,_⟩:=getA h gj.k0 gj.k1 gi.k0 gi.k1
  rw [if_neg (by rw [hc];simp),if_pos hc2]
  by_cases hs:(qAt w.qs j).2=(qAt w.qs i).2
  ·simp [h1,h2,d7,lL,hg,hb,stD,oR,aF,r1,km,r2,Wo.ap,apS,hs]
  ·simp [h1,h2,d7,lL,hg,hb,stD,oR,aF,r3,km,r4,Wo.ap,apS,hs]
theorem wG (n:Nat) {w:Wo} (hw:w.Good):fj CR CP n [.lst (w.fl.map flD),.lst (w.qs.map stD)]=.ok (.lst ((w.qs.map (oR w.fl)).map stD)):=by
 have hl:w.qs.length<=16777216:=by have:=hw.qsl;have:=hw.fll;omega
 have e:∀qs:List d8,(∀p∈qs,0<=p.1/\p.1<w.fl.length)->b8 (.tp [0,1]) sq (fL bQ (aa (f2 ixD (f2 ixD (af 2) (af 0)) (fC (.int 0))) (aa (af 1) aC))) [none,none,some (.lst (w.fl.map flD))] (qs.map stD)=.ok ((qs.map (oR w.fl)).map stD):=by
  intro qs
  induction qs with
  |nil=>intro _;rfl
  |cons p qs ih=>
   intro h
   obtain ⟨h0,h1⟩:=h p (by simp)
   obtain ⟨e,_⟩:=BS h0 h1
   have ih:=ih fun q hq=>h q (by simp [hq])
   rw [List.map_cons,b8]
   simp [e,flD,ih,oR,stD,-List.map_map]
 simp [fj,t7,hl,e w.qs hw.qs,-List.map_map]
theorem getS {w:Wo} {i:Nat} (h:i<w.qs.length):kh ((w.qs.map (oR w.fl)).map stD) (i:Int)=.ok (stD (oR w.fl (qAt w.qs i))):=by
 rw [jW (by simpa using h)]
 simp [qAt,h]
noncomputable def Wo.pM (w:Wo) (ts:List Int) (i:Nat):List Int:=(List.range i).map fun j=>tAt ts j+w.ap j i
theorem DJ (n:Nat) (hne:CR≠CP) {w:Wo} (hw:w.Good) (ts:List Int) {i:Nat} (hi:i<w.qs.length) (ht:i<=ts.length):dh CR CP n [aB CR CP w.rows w.o,.lst ((w.qs.map (oR w.fl)).map stD),.lst (ts.map .int),.int i]=.ok (.lst ((w.pM ts i).map .int)):=by
 have hq:=hw.qsl
 have hf:=hw.fll
 have k1: -4611686018427387904<=(i:Int):=by omega
 have k2:(i:Int)<4611686018427387904:=by omega
 have hl:(aU 0 i).length<=16777216:=by rw [bZ];omega
 have e:b8 (.nm 0) sq (f2 fG (f2 ixD (af 3) (af 0)) (iH CR CP "apart" (dj CR CP n) (d7 CR CP n) (af 1) (aa (f2 ixD (af 2) (af 0)) (aa (f2 ixD (af 2) (af 4)) aC)))) [none,some (aB CR CP w.rows w.o),some (.lst ((w.qs.map (oR w.fl)).map stD)),some (.lst (ts.map .int)),some (.int i)] (aU 0 i)=.ok ((w.pM ts i).map .int):=by
  have:=jy (p:=.nm 0) (fe:=f2 fG (f2 ixD (af 3) (af 0)) (iH CR CP "apart" (dj CR CP n) (d7 CR CP n) (af 1) (aa (f2 ixD (af 2) (af 0)) (aa (f2 ixD (af 2) (af 4)) aC)))) (ρ0:=[none,some (aB CR CP w.rows w.o),some (.lst ((w.qs.map (oR w.fl)).map stD)),some (.lst (ts.map .int)),some (.int i)]) (fun d=>match d with|.int j=>.int (tAt ts j.toNat+w.ap j.toNat i)|d=>d) (aU 0 i) (fun d hd=>by
   obtain ⟨j,hj⟩:=List.getElem?_of_mem hd
   obtain ⟨hj,rfl⟩:=bK hj
   refine ⟨[some (.int j),some (aB CR CP w.rows w.o),some (.lst ((w.qs.map (oR w.fl)).map stD)),some (.lst (ts.map .int)),some (.int i)],by simp,?_⟩
   have em:=meth_ok CR CP n hne hw (j:=j) (i:=i) (by omega) hi (af 1) (f2 ixD (af 2) (af 0)) (f2 ixD (af 2) (af 4)) [some (.int j),some (aB CR CP w.rows w.o),some (.lst ((w.qs.map (oR w.fl)).map stD)),some (.lst (ts.map .int)),some (.int i)] (by simp) (by simp [getS (w:=w) (i:=j) (by omega),-List.map_map]) (by simp [getS (w:=w) hi,-List.map_map])
   have et:=Ci (ts:=ts) (i:=j) (by omega)
   rw [e_2,em]
   simp [et])
  rw [this,Wo.pM]
  congr 1
  unfold aU
  rw [List.map_map,List.map_map]
  exact List.map_congr_left fun j _=>by simp
 simp [dh,qT,k1,k2,e,hl,-List.map_map]
theorem open_ok (n:Nat) (cs:List d8) (t:Int) (hl:cs.length<64):pk CR CP n [.lst (cs.map stD),.int t]=.ok (.bl (!covB cs t)):=by
 have hl2:cs.length<=16777216:=by omega
 have e:b8 (.tp [0,1]) sq (iI leD ltD (af 0) (af 2) (af 1)) [none,none,some (.int t)] (cs.map stD)=.ok ((cs.map fun p=>decide (p.1<=t)&&decide (t<p.2)).map Dat.bl):=by
  rw [jy (fun d=>match d with|.tup [.int a,.int b]=>.bl (decide (a<=t)&&decide (t<b))|d=>d)]
  ·rw [List.map_map,List.map_map];rfl
  ·intro d hd
   obtain ⟨p,_,rfl⟩:=List.mem_map.mp hd
   refine ⟨[some (.int p.1),some (.int p.2),some (.int t)],by simp [stD],?_⟩
   by_cases h1:p.1<=t<;>simp [stD,h1]
 simp [pk,v3,e,hl2,-List.map_map]
 unfold covB
 simp
theorem Cr (n:Nat) (f:Fli) (cs:List d8) (t:Int) (hl:cs.length<64):fU CR CP n [flD f,.lst (cs.map stD),.int t]=.ok (.bl (decide (f.first<=t)&&decide (t<=f.last)&& !covB cs t)):=by
 have e:=open_ok CR CP n cs t hl
 by_cases h1:f.first<=t<;>by_cases h2:t<=f.last<;>simp [fU,mn,flD,e,h1,h2]
theorem Bt (f:Fli) (cs:List d8) (t:Int):(decide (f.first<=t)&&decide (t<=f.last)&& !covB cs t)=true↔f.first<=t/\t<=f.last/\¬Cov cs t:=by
 rw [<- covB_iff]
 simp [and_assoc]
theorem any_lt (xs:List Int) (t:Int) (h:xs.length<=16777216):∀(ρ:ao),b8 (.nm 0) sq (f2 ltD (af 1) (af 0)) [none,some (.int t)] (xs.map .int)=.ok ((xs.map fun x=>decide (t<x)).map Dat.bl):=by
 intro _
 rw [jy (fun d=>match d with|.int a=>.bl (decide (t<a))|d=>d)]
 ·rw [List.map_map,List.map_map];rfl
 ·intro d hd
  obtain ⟨p,_,rfl⟩:=List.mem_map.mp hd
  exact ⟨[some (.int p),some (.int t)],by simp,by simp⟩
theorem keeps_ok (n:Nat) (hne:CR≠CP) {w:Wo} (hw:w.Good) (ts:List Int) (ht:ts.length=w.qs.length):∃b,gO CR CP n [aB CR CP w.rows w.o,.lst (w.fl.map flD),.lst (w.cs.map stD),.lst (w.qs.map stD),.lst (ts.map .int)]=.ok (.bl b)/\(b=true↔w.Keeps ts):=by
 have hq:=hw.qsl
 have hf:=hw.fll
 have hc:=hw.csl
 have es:=wG CR CP n hw
 have key:=B6 (p:=.tp [6,7]) (g:=mz CR CP n) (.bl false)
  (fun i ρ=>∃(z6 z7:Option Dat),ρ=[some (aB CR CP w.rows w.o),some (.lst (w.fl.map flD)),some (.lst (w.cs.map stD)),some (.lst (w.qs.map stD)),some (.lst (ts.map .int)),some (.lst ((w.qs.map (oR w.fl)).map stD)),z6,z7]) (fun i=>w.Bn ts i) (n0 0 (ts.map .int)) 0 [some (aB CR CP w.rows w.o),some (.lst (w.fl.map flD)),some (.lst (w.cs.map stD)),some (.lst (w.qs.map stD)),some (.lst (ts.map .int)),some (.lst ((w.qs.map (oR w.fl)).map stD)),none,none] ⟨none,none,rfl⟩ (by
  rintro i d ρ hd ⟨z6,z7,rfl⟩
  obtain ⟨e,h1,rfl⟩:=l5 _ _ _ _ hd
  have hi:i<ts.length:=by simpa using (List.getElem?_eq_some_iff.mp h1).1
  have hiq:i<w.qs.length:=by omega
  have he:e=.int (tAt ts i):=by
   rw [List.getElem?_map,List.getElem?_eq_getElem hi] at h1
   simp at h1
   rw [<- h1];simp [tAt,hi]
  subst he
  rw [Nat.zero_add]
  refine ⟨[some (aB CR CP w.rows w.o),some (.lst (w.fl.map flD)),some (.lst (w.cs.map stD)),some (.lst (w.qs.map stD)),some (.lst (ts.map .int)),some (.lst ((w.qs.map (oR w.fl)).map stD)),some (.int i),some (.int (tAt ts i))],by simp,?_⟩
  have eq:=getQ hiq
  obtain ⟨ef,gf⟩:=hw.fAt hiq
  have ew:=Cr CR CP n (w.f i) w.cs (tAt ts i) (by omega)
  have eg:=DJ CR CP n hne hw ts hiq (by omega)
  have hgl:(w.pM ts i).length=i:=by simp [Wo.pM]
  have ea:=any_lt (w.pM ts i) (tAt ts i) (by omega) []
  have hw1:=Bt (w.f i) w.cs (tAt ts i)
  generalize hB:(decide ((w.f i).first<=tAt ts i)&&decide (tAt ts i<=(w.f i).last)&& !covB w.cs (tAt ts i))=B at ew hw1
  have hgi:i<=16777216:=by omega
  have c1:mv CR CP n [some (aB CR CP w.rows w.o),some (.lst (w.fl.map flD)),some (.lst (w.cs.map stD)),some (.lst (w.qs.map stD)),some (.lst (ts.map .int)),some (.lst ((w.qs.map (oR w.fl)).map stD)),some (.int i),some (.int (tAt ts i))]=if B=true then .ok (.nx [some (aB CR CP w.rows w.o),some (.lst (w.fl.map flD)),some (.lst (w.cs.map stD)),some (.lst (w.qs.map stD)),some (.lst (ts.map .int)),some (.lst ((w.qs.map (oR w.fl)).map stD)),some (.int i),some (.int (tAt ts i))]) else .ok (.rt (.bl false)):=by
   simp only [stD] at eq
   cases B<;>simp [mv,eq,ef,ew,stD]
  have c2:gc CR CP n [some (aB CR CP w.rows w.o),some (.lst (w.fl.map flD)),some (.lst (w.cs.map stD)),some (.lst (w.qs.map stD)),some (.lst (ts.map .int)),some (.lst ((w.qs.map (oR w.fl)).map stD)),some (.int i),some (.int (tAt ts i))]=if ((w.pM ts i).map fun x=>decide (tAt ts i<x)).any id=true then .ok (.rt (.bl false)) else .ok (.nx [some (aB CR CP w.rows w.o),some (.lst (w.fl.map flD)),some (.lst (w.cs.map stD)),some (.lst (w.qs.map stD)),some (.lst (ts.map .int)),some (.lst ((w.qs.map (oR w.fl)).map stD)),some (.int i),some (.int (tAt ts i))]):=by
   simp [gc,eg,ea,hgl,hgi,-List.map_map,-List.any_map,-List.any_eq_true]
  have hany:(((w.pM ts i).map fun x=>decide (tAt ts i<x)).any id=true)↔¬∀j,j<i->tAt ts j+w.ap j i<=tAt ts i:=by
   constructor
   ·intro h hall
    simp [Wo.pM] at h
    obtain ⟨j,hj,hlt⟩:=h
    have:=hall j hj
    omega
   ·intro h
    simp [Wo.pM]
    refine Classical.byContradiction fun hn=>h fun j hj=>?_
    refine Classical.byContradiction fun hz=>hn ⟨j,hj,by omega⟩
  unfold mz
  rw [e_seq,c1]
  by_cases hb:B=true
  ·rw [if_pos hb,ax]
   show _\/(_/\gc CR CP n _=_)
   rw [c2]
   by_cases ha:((w.pM ts i).map fun x=>decide (tAt ts i<x)).any id=true
   ·exact .inr ⟨fun z=>(hany.mp ha) z.2,by rw [if_pos ha]⟩
   ·refine .inl ⟨⟨hw1.mp hb,Classical.byContradiction fun z=>ha (hany.mpr z)⟩,_,?_,some (.int i),some (.int (tAt ts i)),rfl⟩
    show gc CR CP n _=_
    rw [c2,if_neg ha]
  ·rw [if_neg hb,ax]
   exact .inr ⟨fun z=>hb (hw1.mpr z.1),rfl⟩)
 rw [il,List.length_map,ht] at key
 rcases key with ⟨h1,ρ',e,z6,z7,rfl⟩|⟨⟨i,hi,h1⟩,e⟩
 ·exact ⟨true,by simp [gO,lI,es,e,-List.map_map],by simp only [true_iff];intro i hi;have:=h1 i hi;rwa [Nat.zero_add] at this⟩
 ·exact ⟨false,by simp [gO,lI,es,e,-List.map_map],by simp only [Bool.false_eq_true,false_iff];intro z;rw [Nat.zero_add] at h1;exact h1 (z i hi)⟩
end
theorem B5 {p:Pat} {g:ao->M Flo} (P:Nat->ao->Prop) (R:Dat->Prop):∀(ds:List Dat) (k:Nat) (ρ:ao),P k ρ ->
  (∀(i:Nat) (d:Dat) (ρ:ao),ds[i]? =some d->P (k+i) ρ->∃ρ1,jz p d ρ=.ok ρ1/\((∃ρ2,g ρ1=.ok (.nx ρ2)/\P (k+i+1) ρ2)\/(∃r,g ρ1=.ok (.rt r)/\R r))) ->
  (∃ρ',nj p g ds ρ=.ok (.nx ρ')/\P (k+ds.length) ρ')\/(∃r,nj p g ds ρ=.ok (.rt r)/\R r)
 |[],k,ρ,h,_=>.inl ⟨ρ,rfl,h⟩
 |d::ds,k,ρ,h,st=>by
  obtain ⟨ρ1,e1,h1⟩:=st 0 d ρ rfl h
  rcases h1 with ⟨ρ2,e2,h2⟩|⟨r,e2,hr⟩
  ·have ih:=B5 P R ds (k+1) ρ2 h2 fun i d' ρ he hp=>by
    have:=st (i+1) d' ρ (by simpa using he) (by rw [show k+(i+1)=k+1+i by omega];exact hp)
    rw [show k+(i+1)=k+1+i by omega] at this
    exact this
   have e:nj p g (d::ds) ρ=nj p g ds ρ2:=by rw [nj,e1];simp only [ax,e2]
   rcases ih with ⟨ρ',e3,h3⟩|⟨r,e3,hr⟩
   ·exact .inl ⟨ρ',by rw [e];exact e3,by rw [show k+(d::ds).length=k+1+ds.length by simp;omega];exact h3⟩
   ·exact .inr ⟨r,by rw [e];exact e3,hr⟩
  ·exact .inr ⟨r,by rw [nj,e1];simp only [ax,e2],hr⟩
section
variable (CR CP:Addr)
theorem getC {cs:List d8} {i:Nat} (h:i<cs.length):kh (cs.map stD) (i:Int)=.ok (.tup [.int (qAt cs i).1,.int (qAt cs i).2]):=getQ h
end
noncomputable def Wo.low (w:Wo) (ts:List Int) (i j:Nat):Int:=(List.range j).foldl (fun t l=>oH t (tAt ts l+w.ap l i)) (w.f i).first
theorem xg (a b:Int):a<=oH a b/\b<=oH a b/\(oH a b=a\/oH a b=b):=by unfold oH;split<;>omega
theorem Wo.nF (w:Wo) (ts:List Int) (i j:Nat):w.low ts i (j+1)=oH (w.low ts i j) (tAt ts j+w.ap j i):=by
 unfold Wo.low
 rw [List.range_succ,List.foldl_append]
 rfl
theorem Wo.yI (w:Wo) (ts:List Int) (i:Nat):∀j,(w.f i).first<=w.low ts i j
 |0=>Int.le_refl _
 |j+1=>by
  have:=w.yI ts i j
  have:=xg (w.low ts i j) (tAt ts j+w.ap j i)
  rw [w.nF]
  omega
theorem Wo.Dn (w:Wo) (ts:List Int) (i:Nat):∀j l,l<j->tAt ts l+w.ap l i<=w.low ts i j
 |0,l,h=>by omega
 |j+1,l,h=>by
  have:=xg (w.low ts i j) (tAt ts j+w.ap j i)
  rw [w.nF]
  by_cases e:l=j
  ·subst e;omega
  ·have:=w.Dn ts i j l (by omega)
   omega
theorem Wo.Dm (w:Wo) (ts:List Int) (i:Nat) (t:Int) (h0:(w.f i).first<=t):∀j,(∀l,l<j->tAt ts l+w.ap l i<=t)->w.low ts i j<=t
 |0,_=>h0
 |j+1,h=>by
  have:=xg (w.low ts i j) (tAt ts j+w.ap j i)
  have:=w.Dm ts i t h0 j fun l hl=>h l (by omega)
  have:=h j (by omega)
  rw [w.nF]
  omega
theorem Wo.rF (w:Wo) {ts us:List Int} (i:Nat):∀j,(∀l,l<j->tAt ts l=tAt us l)->w.low ts i j=w.low us i j
 |0,_=>rfl
 |j+1,h=>by rw [w.nF,w.nF,w.rF i j fun l hl=>h l (by omega),h j (by omega)]
noncomputable def Wo.dw (w:Wo) (ts:List Int) (i:Nat):Prop:=lb w.cs (w.low ts i i) (tAt ts i)/\tAt ts i<=(w.f i).last
noncomputable def Wo.rm (w:Wo) (ts:List Int):Prop:=ts.length=w.qs.length/\∀i,i<w.qs.length->w.dw ts i
theorem wF {ts us:List Int} {i:Nat} (h:i<ts.length):tAt (ts++us) i=tAt ts i:=by
 unfold tAt
 rw [List.getD_eq_getElem?_getD,List.getD_eq_getElem?_getD,List.getElem?_append_left h]
theorem CD (ts us:List Int) (t:Int):tAt (ts++t::us) ts.length=t:=by
 unfold tAt
 rw [List.getD_eq_getElem?_getD,List.getElem?_append_right (Nat.le_refl _)]
 simp
theorem Wo.dw.app {w:Wo} {ts us:List Int} {i:Nat} (h:w.dw ts i) (hi:i<ts.length):w.dw (ts++us) i:=by
 unfold Wo.dw at *
 rw [wF hi,w.rF (us:=ts) i i fun l hl=>wF (by omega)]
 exact h
theorem Wo.dw.keep {w:Wo} {ts:List Int} {i:Nat} (h:w.dw ts i):w.Bn ts i:=by
 obtain ⟨⟨h1,h2,h3⟩,h4⟩:=h
 refine ⟨⟨Int.le_trans (w.yI ts i i) h1,h4,h2⟩,fun j hj=>Int.le_trans (w.Dn ts i i j hj) h1⟩
theorem Wo.rm.keeps {w:Wo} {ts:List Int} (h:w.rm ts):w.Keeps ts:=fun i hi=>(h.2 i hi).keep
section
variable (CR CP:Addr)
theorem low_loop (n:Nat) {w:Wo} (hw:w.Good) (ts:List Int) (i:Nat) (hi:i<w.qs.length) (ht:ts.length=i) (z8:Option Dat):∃y8,nj (.nm 8) (j6 CR CP n) (aU 0 i) [some w.ruD,some (.lst (w.fl.map flD)),some (.lst (w.cs.map stD)),some (.lst (w.qs.map stD)),some (.lst (ts.map .int)),some (.int i),some (flD (w.f i)),some (.int (w.f i).first),z8]=.ok (.nx [some w.ruD,some (.lst (w.fl.map flD)),some (.lst (w.cs.map stD)),some (.lst (w.qs.map stD)),some (.lst (ts.map .int)),some (.int i),some (flD (w.f i)),some (.int (w.low ts i i)),y8]):=by
 obtain ⟨ρ',e,y8,rfl⟩:=cR (p:=.nm 8) (g:=j6 CR CP n)
  (fun j ρ=>∃(z8:Option Dat),ρ=[some w.ruD,some (.lst (w.fl.map flD)),some (.lst (w.cs.map stD)),some (.lst (w.qs.map stD)),some (.lst (ts.map .int)),some (.int i),some (flD (w.f i)),some (.int (w.low ts i j)),z8]) (aU 0 i) 0 _ ⟨z8,rfl⟩ (by
  rintro j d ρ hd ⟨z8,rfl⟩
  obtain ⟨hj,rfl⟩:=bK hd
  have ea:=apart_ok CR CP n hw (j:=j) (i:=i) (by omega) hi
  have etj:=Ci (ts:=ts) (i:=j) (by omega)
  have eqj:=getQ (qs:=w.qs) (i:=j) (by omega)
  have eqi:=getQ (qs:=w.qs) (i:=i) (by omega)
  refine ⟨_,by simp<;>rfl,[some w.ruD,some (.lst (w.fl.map flD)),some (.lst (w.cs.map stD)),some (.lst (w.qs.map stD)),some (.lst (ts.map .int)),some (.int i),some (flD (w.f i)),some (.int (w.low ts i (0+j+1))),some (.int j)],.inl ?_,_,rfl⟩
  rw [w.nF,Nat.zero_add]
  simp [j6,ea,etj,eqj,eqi])
 rw [Nat.zero_add,bZ] at e
 exact ⟨y8,e⟩
theorem least_ok (n:Nat) (hn:64<=n) {w:Wo} (hw:w.Good):(∃ts,w.rm ts/\eO CR CP n [w.ruD,.lst (w.fl.map flD),.lst (w.cs.map stD),.lst (w.qs.map stD)]=.ok (.lst (ts.map .int)))\/(∃(i:Nat) (ts:List Int) (t:Int),i<w.qs.length/\ts.length=i/\(∀j,j<i->w.dw ts j)/\lb w.cs (w.low ts i i) t/\(w.f i).last<t/\eO CR CP n [w.ruD,.lst (w.fl.map flD),.lst (w.cs.map stD),.lst (w.qs.map stD)]=.ok (.tup [.int (qAt w.qs i).1,.int t])):=by
 have hq:=hw.qsl
 have hf:=hw.fll
 have hc:=hw.csl
 have k1: -4611686018427387904<=(w.qs.length:Int):=by omega
 have k2:(w.qs.length:Int)<4611686018427387904:=by omega
 rcases B5 (p:=.nm 5) (g:=j5 CR CP n)
  (fun i ρ=>∃(ts:List Int) (z5 z6 z7 z8:Option Dat),ρ=[some w.ruD,some (.lst (w.fl.map flD)),some (.lst (w.cs.map stD)),some (.lst (w.qs.map stD)),some (.lst (ts.map .int)),z5,z6,z7,z8]/\ts.length=i/\∀j,j<i->w.dw ts j) (fun r=>∃(i:Nat) (ts:List Int) (t:Int),i<w.qs.length/\ts.length=i/\(∀j,j<i->w.dw ts j)/\lb w.cs (w.low ts i i) t/\(w.f i).last<t/\r=.tup [.int (qAt w.qs i).1,.int t]) (aU 0 w.qs.length) 0 [some w.ruD,some (.lst (w.fl.map flD)),some (.lst (w.cs.map stD)),some (.lst (w.qs.map stD)),some (.lst []),none,none,none,none] ⟨[],none,none,none,none,rfl,rfl,by simp⟩ (by
  rintro i d ρ hd ⟨ts,z5,z6,z7,z8,rfl,ht,hle⟩
  obtain ⟨hi,rfl⟩:=bK hd
  rw [Nat.zero_add] at ht hle
  refine ⟨[some w.ruD,some (.lst (w.fl.map flD)),some (.lst (w.cs.map stD)),some (.lst (w.qs.map stD)),some (.lst (ts.map .int)),some (.int i),z6,z7,z8],by simp,?_⟩
  have eq:=getC hi
  obtain ⟨ef,gf⟩:=hw.fAt hi
  obtain ⟨y8,el⟩:=low_loop CR CP n hw ts i hi ht z8
  obtain ⟨u,hu,eo⟩:=from_ok CR CP n w.cs (w.low ts i i) (by omega) hn
  have j1: -4611686018427387904<=(i:Int):=by omega
  have j2:(i:Int)<4611686018427387904:=by omega
  have hl:ts.length<16777216:=by omega
  by_cases hlt:(w.f i).last<u
  ·refine .inr ⟨.tup [.int (qAt w.qs i).1,.int u],?_,i,ts,u,hi,ht,hle,hu,hlt,rfl⟩
   simp only [flD] at ef el
   simp [j5,mw,eq,ef,j1,j2,el,eo,hlt]
  ·refine .inl ⟨[some w.ruD,some (.lst (w.fl.map flD)),some (.lst (w.cs.map stD)),some (.lst (w.qs.map stD)),some (.lst ((ts++[u]).map .int)),some (.int i),some (flD (w.f i)),some (.int u),y8],?_,ts++[u],_,_,_,_,rfl,by simp;omega,fun j hj=>?_⟩
   ·simp only [flD] at ef el ⊢
    simp [j5,mw,eq,ef,j1,j2,el,eo,hlt,hl]
   ·by_cases hji:j=i
    ·subst hji
     unfold Wo.dw
     rw [w.rF (us:=ts) j j fun l hl=>wF (by omega)]
     have:=CD ts [] u
     rw [ht] at this
     rw [this]
     exact ⟨hu,by omega⟩
    ·exact (hle j (by omega)).app (by omega)) with ⟨ρ',e,ts,z5,z6,z7,z8,rfl,h1,h2⟩|⟨r,e,i,ts,t,h1,h2,h3,h4,h5,rfl⟩
 ·rw [Nat.zero_add,bZ] at h1 h2
  exact .inl ⟨ts,⟨h1,h2⟩,by simp [eO,lJ,k1,k2,e]⟩
 ·exact .inr ⟨i,ts,t,h1,h2,h3,h4,h5,by simp [eO,lJ,k1,k2,e]⟩
end
noncomputable def wz (js:List d8):Prop:=js.Pairwise (fun p q=>p.2<q.1)/\∀p∈js,p.1<p.2
theorem xj (n:Nat):ixN (n+1) (-1)=some n:=by unfold ixN;simp<;>omega
@[simp] theorem getI_last (ds:List Dat) (d:Dat):kh (ds++[d]) (-1)=.ok d:=by
 unfold kh atI
 rw [List.length_append,List.length_singleton,xj]
 simp
noncomputable def oy (js done:List d8):Prop:=wz js/\(∀t,Cov js t↔Cov done t)/\js.length<=done.length/\∀j∈js,∃d∈done,d.1=j.1
theorem oy.new {js done:List d8} {p:d8} (h:oy js done) (hp:p.1<p.2) (hlt:∀x∈js,x.2<p.1):oy (js++[p]) (done++[p]):=by
 obtain ⟨⟨h1,h2⟩,h3,h4,h5⟩:=h
 refine ⟨⟨?_,?_⟩,?_,by simp;exact h4,?_⟩
 ·rw [List.pairwise_append]
  exact ⟨h1,by simp,fun a ha b hb=>by simp at hb;subst hb;exact hlt a ha⟩
 ·intro x hx
  rcases List.mem_append.mp hx with e|e
  ·exact h2 x e
  ·simp at e;subst e;exact hp
 ·intro t;rw [iS,iS,h3]
 ·intro j hj
  rcases List.mem_append.mp hj with e|e
  ·obtain ⟨d,m,z⟩:=h5 j e;exact ⟨d,by simp [m],z⟩
  ·simp at e;subst e;exact ⟨j,by simp,rfl⟩
theorem oy.more {js0 done:List d8} {q p:d8} (h:oy (js0++[q]) done) (hp:p.1<p.2) (h1:q.1<=p.1) (h2:p.1<=q.2):oy (js0++[(q.1,oH p.2 q.2)]) (done++[p]):=by
 obtain ⟨⟨a1,a2⟩,a3,a4,a5⟩:=h
 have hq:q.1<q.2:=a2 q (by simp)
 have hm1:p.2<=oH p.2 q.2:=by unfold oH;split<;>omega
 have hm2:q.2<=oH p.2 q.2:=by unfold oH;split<;>omega
 have hm3:oH p.2 q.2=p.2\/oH p.2 q.2=q.2:=by unfold oH;split<;>omega
 rw [List.pairwise_append] at a1
 refine ⟨⟨?_,?_⟩,?_,by simp at a4 ⊢;omega,?_⟩
 ·rw [List.pairwise_append]
  exact ⟨a1.1,by simp,fun a ha b hb=>by simp at hb;subst hb;exact a1.2.2 a ha q (by simp)⟩
 ·intro x hx
  rcases List.mem_append.mp hx with e|e
  ·exact a2 x (by simp [e])
  ·simp at e;subst e;show q.1<oH p.2 q.2;omega
 ·intro t
  have:=a3 t
  rw [iS,A7] at this
  rw [iS,iS,<- this,A7,A7]
  show Cov js0 t\/q.1<=t/\t<oH p.2 q.2↔_
  constructor
  ·rintro (z|z)
   ·exact .inl (.inl z)
   ·by_cases e:t<q.2
    ·exact .inl (.inr ⟨z.1,e⟩)
    ·exact .inr (by omega)
  ·rintro ((z|z)|z)
   ·exact .inl z
   ·exact .inr (by omega)
   ·exact .inr (by omega)
 ·intro j hj
  rcases List.mem_append.mp hj with e|e
  ·obtain ⟨d,m,z⟩:=a5 j (by simp [e]);exact ⟨d,by simp [m],z⟩
  ·simp at e;subst e
   obtain ⟨d,m,z⟩:=a5 q (by simp)
   exact ⟨d,by simp [m],z⟩
theorem yP {g:ao->M Flo} {c:Option Dat} {t:Int} (r:d8->Dat) (hg:∀p:d8,g [c,some (.int t),some (.int p.1),some (.int p.2)]=if p.1<=t/\t<p.2 then .ok (.rt (r p)) else .ok (.nx [c,some (.int t),some (.int p.1),some (.int p.2)])) :
  ∀(js:List d8) (z1 z2:Option Dat),(∃p∈js,(p.1<=t/\t<p.2)/\nj (.tp [2,3]) g (js.map stD) [c,some (.int t),z1,z2]=.ok (.rt (r p)))\/(¬Cov js t/\∃z1' z2',nj (.tp [2,3]) g (js.map stD) [c,some (.int t),z1,z2]=.ok (.nx [c,some (.int t),z1',z2']))
 |[],z1,z2=>.inr ⟨A8 t,z1,z2,rfl⟩
 |p::js,z1,z2=>by
  have hb:jz (.tp [2,3]) (stD p) [c,some (.int t),z1,z2]=.ok [c,some (.int t),some (.int p.1),some (.int p.2)]:=by simp [stD]
  by_cases h:p.1<=t/\t<p.2
  ·refine .inl ⟨p,by simp,h,?_⟩
   rw [List.map_cons,nj,hb,ax,hg,if_pos h]
   rfl
  ·have e:nj (.tp [2,3]) g ((p::js).map stD) [c,some (.int t),z1,z2]=nj (.tp [2,3]) g (js.map stD) [c,some (.int t),some (.int p.1),some (.int p.2)]:=by
    rw [List.map_cons,nj,hb,ax,hg,if_neg h]
    rfl
   rcases yP r hg js (some (.int p.1)) (some (.int p.2)) with ⟨q,hq,h2,h3⟩|⟨h2,h3⟩
   ·exact .inl ⟨q,by simp [hq],h2,by rw [e];exact h3⟩
   ·refine .inr ⟨fun z=>?_,by rw [e];exact h3⟩
    rcases xD.mp z with z|z
    ·exact h z
    ·exact h2 z
theorem wz.tri:∀{js:List d8},wz js->∀p∈js,∀q∈js,p=q\/p.2<q.1\/q.2<p.1
 |[],_,p,hp,_,_=>by simp at hp
 |a::js,⟨h1,h2⟩,p,hp,q,hq=>by
  rw [List.pairwise_cons] at h1
  rcases List.mem_cons.mp hp with e|e<;>rcases List.mem_cons.mp hq with e2|e2
  ·exact .inl (e.trans e2.symm)
  ·subst e;exact .inr (.inl (h1.1 q e2))
  ·subst e2;exact .inr (.inr (h1.1 p e))
  ·exact wz.tri (js:=js) ⟨h1.2,fun x hx=>h2 x (by simp [hx])⟩ p e q e2
section
variable (CR CP:Addr)
theorem Du (n:Nat) (cs:List d8) (hl:cs.length<64) (hs:∀p∈cs,p.1<p.2):∃js:List d8,cE CR CP n [.lst (cs.map stD)]=.ok (.lst (js.map stD))/\wz js/\(∀t,Cov js t↔Cov cs t)/\js.length<=cs.length:=by
 obtain ⟨ss,e,hp,hw⟩:=yh cs hl
 have hlen:ss.length=cs.length:=hp.length_eq
 have key:=cR (p:=.tp [2,3]) (g:=bT CR CP n)
  (fun k ρ=>∃js z1 z2,ρ=[some (.lst (cs.map stD)),some (.lst (js.map stD)),z1,z2]/\oy js (ss.take k)) (ss.map stD) 0 [some (.lst (cs.map stD)),some (.lst []),none,none] ⟨[],none,none,rfl,⟨by simp [wz],fun t=>Iff.rfl,by simp,by simp⟩⟩ (by
  rintro i d ρ hd ⟨js,z1,z2,rfl,hj⟩
  rw [List.getElem?_map] at hd
  obtain ⟨p,hpi,rfl⟩:=Option.map_eq_some_iff.mp hd
  obtain ⟨hi,hpe⟩:=List.getElem?_eq_some_iff.mp hpi
  have htk:ss.take (0+i+1)=ss.take (0+i)++[p]:=by rw [Nat.zero_add,List.take_succ,hpi];rfl
  have hpp:p.1<p.2:=hs p (hp.mem_iff.mp (List.mem_of_getElem? hpi))
  have hstart:∀j∈js,j.1<=p.1:=fun j hjm=>by
   obtain ⟨d,dm,de⟩:=hj.2.2.2 j hjm
   rw [Nat.zero_add] at dm
   obtain ⟨m,hm,hme⟩:=List.mem_take_iff_getElem.mp dm
   have:=List.pairwise_iff_getElem.mp hw m i (by omega) hi (by omega)
   rw [hme,hpe] at this
   omega
  have hjl:js.length<64:=by
   have:=hj.2.2.1
   rw [List.length_take] at this
   omega
  refine ⟨_,by simp [stD];rfl,?_⟩
  rw [htk]
  rcases List.eq_nil_or_concat js with e0|⟨js0,q,e0⟩
  ·subst e0
   refine ⟨_,.inl (by simp [bT,cS];rfl),[p],some (.int p.1),some (.int p.2),by simp [stD],by simpa using hj.new hpp (by simp)⟩
  ·rw [List.concat_eq_append] at e0
   subst e0
   by_cases hc:p.1<=q.2
   ·refine ⟨_,.inl (by simp [bT,cS,stD,hc,lp,v7,xj];rfl),js0++[(q.1,oH p.2 q.2)],some (.int p.1),some (.int p.2),?_,hj.more hpp (hstart q (by simp)) hc⟩
    simp [stD]
   ·have hlt:∀x∈js0++[q],x.2<p.1:=fun x hx=>by
     rcases List.mem_append.mp hx with e|e
     ·have h1:=(List.pairwise_append.mp hj.1.1).2.2 x e q (by simp)
      have h2:=hj.1.2 q (by simp)
      omega
     ·simp at e;subst e;omega
    simp at hjl
    have hjl2:js0.length+1<16777216:=by omega
    refine ⟨_,.inl (by simp [bT,cS,stD,hc,hjl2];rfl),js0++[q]++[p],some (.int p.1),some (.int p.2),by simp [stD],hj.new hpp hlt⟩)
 obtain ⟨ρ',e2,js,z1,z2,rfl,hj⟩:=key
 refine ⟨js,?_,hj.1,fun t=>?_,?_⟩
 ·simp [cE,i4,e,e2]
 ·rw [hj.2.1 t,Nat.zero_add,List.length_map,List.take_length]
  exact cov_perm hp
 ·have:=hj.2.2.1
  rw [List.length_take,List.length_map] at this
  omega
theorem Di (n:Nat) (cs:List d8) (t:Int) (hl:cs.length<64) (hs:∀p∈cs,p.1<p.2):∃u,iK CR CP n [.lst (cs.map stD),.int t]=.ok (.int u)/\lb cs t u:=by
 obtain ⟨js,e,hj,hc,_⟩:=Du CR CP n cs hl hs
 rcases yP (g:=o7 CR CP n) (c:=some (.lst (cs.map stD))) (t:=t) (fun p=>.int p.2) (fun p=>by by_cases h1:p.1<=t<;>by_cases h2:t<p.2<;>simp [o7,rY,h1,h2]) js none none with ⟨p,hp,h,e2⟩|⟨h,z1,z2,e2⟩
 ·refine ⟨p.2,by simp [iK,nL,e,e2],by omega,fun z=>?_,fun v h1 h2=>(hc v).mp ⟨p,hp,by omega,h2⟩⟩
  obtain ⟨q,hq,h3⟩:=(hc _).mpr z
  rcases hj.tri p hp q hq with e|e|e
  ·subst e;omega
  ·omega
  ·have:=hj.2 p hp;omega
 ·exact ⟨t,by simp [iK,nL,e,e2],Int.le_refl _,fun z=>h ((hc t).mpr z),fun v h1 h2=>by omega⟩
end
theorem Wo.BU (w:Wo) {ts us:List Int} {i:Nat} (h:∀l,l<i->tAt ts l=tAt us l):w.pM ts i=w.pM us i:=by
 unfold Wo.pM
 exact List.map_congr_left fun j hj=>by rw [h j (List.mem_range.mp hj)]
theorem Wo.low_gapL (w:Wo) (ts:List Int) (i:Nat):(w.pM ts i).foldl oH (w.f i).first=w.low ts i i:=by
 unfold Wo.pM Wo.low
 rw [List.foldl_map]
theorem tAt_take {ts:List Int} {m i:Nat} (h:i<m):tAt (ts.take m) i=tAt ts i:=by
 unfold tAt
 rw [List.getD_eq_getElem?_getD,List.getD_eq_getElem?_getD,List.getElem?_take_of_lt h]
theorem CA {ts:List Int} {i:Nat} (h:i<ts.length):ts.take (i+1)=ts.take i++[tAt ts i]:=by
 rw [List.take_add_one,List.getElem?_eq_getElem h]
 simp [tAt,h]
section
variable (CR CP:Addr)
theorem wD (n:Nat) (hne:CR≠CP) {w:Wo} (hw:w.Good) {ts:List Int} (hl:w.rm ts):gN CR CP n [aB CR CP w.rows w.o,.lst (w.fl.map flD),.lst (w.cs.map stD),.lst (w.qs.map stD)]=.ok (.lst (ts.map .int)):=by
 have hq:=hw.qsl
 have hf:=hw.fll
 have hc:=hw.csl
 have es:=wG CR CP n hw
 have htl:=hl.1
 obtain ⟨ρ',e,z6,z7,z8,z9,rfl⟩:=cR (p:=.tp [6,7]) (g:=pY CR CP n)
  (fun i ρ=>∃(z6 z7 z8 z9:Option Dat),ρ=[some (aB CR CP w.rows w.o),some (.lst (w.fl.map flD)),some (.lst (w.cs.map stD)),some (.lst (w.qs.map stD)),some (.lst ((w.qs.map (oR w.fl)).map stD)),some (.lst ((ts.take i).map .int)),z6,z7,z8,z9]) (n0 0 (w.qs.map stD)) 0 [some (aB CR CP w.rows w.o),some (.lst (w.fl.map flD)),some (.lst (w.cs.map stD)),some (.lst (w.qs.map stD)),some (.lst ((w.qs.map (oR w.fl)).map stD)),some (.lst []),none,none,none,none] ⟨none,none,none,none,rfl⟩ (by
  rintro i d ρ hd ⟨z6,z7,z8,z9,rfl⟩
  obtain ⟨e,h1,rfl⟩:=l5 _ _ _ _ hd
  have hi:i<w.qs.length:=by simpa using (List.getElem?_eq_some_iff.mp h1).1
  have he:e=.tup [.int (qAt w.qs i).1,.int (qAt w.qs i).2]:=by
   rw [List.getElem?_map,List.getElem?_eq_getElem hi] at h1
   simp at h1
   rw [<- h1];simp [qAt,hi,stD]
  subst he
  rw [Nat.zero_add,CA (by omega)]
  obtain ⟨ef,gf⟩:=hw.fAt hi
  have htk:(ts.take i).length=i:=by rw [List.length_take];omega
  have eg:=DJ CR CP n hne hw (ts.take i) hi (by omega)
  rw [w.BU (us:=ts) fun l hl=>tAt_take hl] at eg
  have hgl:(w.pM ts i).length=i:=by simp [Wo.pM]
  generalize ts.take i=tk at eg htk ⊢
  have eM:maxD [.lst (.int (w.f i).first::(w.pM ts i).map .int)]=.ok (.int (w.low ts i i)):=by
   show (dq (((w.f i).first::w.pM ts i).map .int)).bind maxL=_
   rw [pD,ax,maxL,w.low_gapL]
  obtain ⟨u,eu,hu⟩:=Di CR CP n w.cs (w.low ts i i) (by omega) hw.cs
  obtain ⟨hn,hlast⟩:=hl.2 i hi
  have hut:=hu.uniq hn
  subst hut
  have hnl:¬(w.f i).last<tAt ts i:=by omega
  have c1:1+i<=16777216:=by omega
  have c2:i<16777216:=by omega
  refine ⟨[some (aB CR CP w.rows w.o),some (.lst (w.fl.map flD)),some (.lst (w.cs.map stD)),some (.lst (w.qs.map stD)),some (.lst ((w.qs.map (oR w.fl)).map stD)),some (.lst (tk.map .int)),some (.int i),some (.tup [.int (qAt w.qs i).1,.int (qAt w.qs i).2]),z8,z9],by simp,[some (aB CR CP w.rows w.o),some (.lst (w.fl.map flD)),some (.lst (w.cs.map stD)),some (.lst (w.qs.map stD)),some (.lst ((w.qs.map (oR w.fl)).map stD)),some (.lst ((tk++[tAt ts i]).map .int)),some (.int i),some (.tup [.int (qAt w.qs i).1,.int (qAt w.qs i).2]),some (flD (w.f i)),some (.int (tAt ts i))],.inl ?_,_,_,_,_,rfl⟩
  simp only [flD] at ef ⊢
  simp [pY,tR,ef,eg,hgl,fG,c1,eM,eu,hnl,htk,c2,-e_maxL,-List.map_map])
 rw [Nat.zero_add,il,List.length_map,<- htl,List.take_length] at e
 simp [gN,t6,es,e,-List.map_map]
end
section
variable (CR CP:Addr)
theorem world_ok (n:Nat) (hn:64<=n) (ns:List Int) (most:Nat) (hm:most<=40):∃(s:Int) (w:Wo),w.Good/\1<=s/\s<=100000/\w.fl.length<=most/\cF CR CP n [.lst (ns.map .int)]=.ok (.int s)/\cj CR CP n [.lst (ns.map .int),.int s]=.ok w.ruD/\di CR CP n [w.ruD]=.ok (aB CR CP w.rows w.o)/\dJ CR CP n [.lst (ns.map .int),w.ruD,.int most,.int s]=.ok (.lst (w.fl.map flD))/\fm CR CP n [.lst (ns.map .int),.int s]=.ok (.lst (w.cs.map stD))/\iM CR CP n [.lst (ns.map .int),w.ruD,.lst (w.fl.map flD)]=.ok (.lst (w.qs.map stD))/\(∀p∈w.cs,0<=p.1)/\(w.qs.map (·.1)).Perm ((List.range w.fl.length).map fun k:Nat=>(k:Int)):=by
 obtain ⟨s,es,hs0,hs1⟩:=scale_ok CR CP n ns
 obtain ⟨k,rows,o,hk1,hk6,hr,ho,er⟩:=rules_ok CR CP n ns s hs0 hs1
 have em:=zU CR CP n k rows o hk1 hk6 hr ho
 obtain ⟨fl,hfl1,hfl2,ef⟩:=BV CR CP n ns k rows o most s hr.1 hk1 hm hs0 hs1
 obtain ⟨cs,hc1,hc2,ec⟩:=Eb CR CP n ns s hs0 hs1
 obtain ⟨qs,hq1,hq2,hq3,eq⟩:=plan_ok CR CP n ns rows o fl (by omega) (by omega)
 have hql:qs.length=fl.length:=by have:=hq1.length_eq;simpa using this
 have hqb:∀p∈qs,0<=p.1/\p.1<fl.length:=fun p hp=>by
  have:p.1∈qs.map (·.1):=List.mem_map_of_mem hp
  have:=hq1.mem_iff.mp this
  obtain ⟨j,hj,e⟩:=List.mem_map.mp this
  have:=List.mem_range.mp hj
  omega
 obtain ⟨r2,hor⟩:∃r2,(o=.non/\∀p∈qs,p.2=0)\/(o=aF r2/\bU k r2):=by
  rcases ho with h|⟨r2,h1,h2⟩
  ·exact ⟨[],.inl ⟨h,hq3 h⟩⟩
  ·exact ⟨r2,.inr ⟨h2,h1⟩⟩
 exact ⟨s,⟨k,rows,r2,o,fl,cs,qs⟩,⟨hk1,hk6,hr,hor,hfl2,by show fl.length<=60;omega,fun p hp=>(hc2 p hp).2,hc1,hqb,hql⟩,hs0,hs1,hfl1,es,er,em,ef,ec,eq,fun p hp=>(hc2 p hp).1,hq1⟩
end
theorem AY (a b:Int):ll a b<=a/\ll a b<=b/\(ll a b=a\/ll a b=b):=by unfold ll;split<;>omega
noncomputable def Wo.high (w:Wo) (ls:List Int) (i j:Nat):Int:=(List.range j).foldl (fun t l=>ll t (tAt ls (i+1+l)-w.ap i (i+1+l))) (w.f i).last
theorem Wo.yN (w:Wo) (ls:List Int) (i j:Nat):w.high ls i (j+1)=ll (w.high ls i j) (tAt ls (i+1+j)-w.ap i (i+1+j)):=by
 unfold Wo.high
 rw [List.range_succ,List.foldl_append]
 rfl
theorem Wo.yO (w:Wo) (ls:List Int) (i:Nat):∀j,w.high ls i j<=(w.f i).last
 |0=>Int.le_refl _
 |j+1=>by
  have:=w.yO ls i j
  have:=AY (w.high ls i j) (tAt ls (i+1+j)-w.ap i (i+1+j))
  rw [w.yN]
  omega
theorem Wo.B2 (w:Wo) (ls:List Int) (i:Nat):∀j l,l<j->w.high ls i j<=tAt ls (i+1+l)-w.ap i (i+1+l)
 |0,l,h=>by omega
 |j+1,l,h=>by
  have:=AY (w.high ls i j) (tAt ls (i+1+j)-w.ap i (i+1+j))
  rw [w.yN]
  by_cases e:l=j
  ·subst e;omega
  ·have:=w.B2 ls i j l (by omega)
   omega
noncomputable def Wo.up (w:Wo) (ls:List Int) (i:Nat):Int:=w.high ls i (w.qs.length-(i+1))
noncomputable def Wo.LatestAt (w:Wo) (ls:List Int) (i:Nat):Prop:=Bm w.cs (w.up ls i) (tAt ls i)
noncomputable def Wo.Latest (w:Wo) (ts ls:List Int):Prop:=ls.length=w.qs.length/\∀i,i<w.qs.length->w.LatestAt ls i/\tAt ts i<=tAt ls i
theorem Wo.up_gap (w:Wo) (ls:List Int) {i j:Nat} (h:i<j) (hj:j<w.qs.length):w.up ls i<=tAt ls j-w.ap i j:=by
 have:=w.B2 ls i (w.qs.length-(i+1)) (j-(i+1)) (by omega)
 rwa [show i+1+(j-(i+1))=j by omega] at this
theorem Wo.Latest.keeps {w:Wo} {ts ls:List Int} (hk:w.Keeps ts) (h:w.Latest ts ls):w.Keeps ls:=fun i hi=>by
 obtain ⟨h1,h2⟩:=h.2 i hi
 have a1:=(hk i hi).1.1
 have a2:=w.yO ls i (w.qs.length-(i+1))
 have a3:=h1.1
 unfold Wo.up at a3
 refine ⟨⟨by omega,by omega,h1.2.1⟩,fun j hj=>?_⟩
 have b1:=(h.2 j (by omega)).1.1
 have b2:=w.up_gap ls hj hi
 omega
noncomputable def Cg (f:Fli) (t:Int):Int:=f.price*oH 0 (t-f.due)
noncomputable def nW (fl:List Fli):List d8->List Int->List Int
 |p::qs,t::ts=>Cg (mV fl p.1) t::nW fl qs ts
 |_,_=>[]
section
variable (CR CP:Addr)
theorem Ds (n:Nat) (f:Fli) (t:Int) (h0:0<=f.price) (h1:f.price<=1000000000):eI CR CP n [flD f,.int t]=.ok (.int (Cg f t)):=by
 have c1: -18446744073709551616<f.price:=by omega
 have c2:f.price<18446744073709551616:=by omega
 simp [eI,qS,flD,c1,c2,Cg]
theorem zb (n:Nat) (k:Nat) (fl:List Fli) (hfl:∀f∈fl,nh k f):∀(qs:List d8) (ts:List Int),(∀p∈qs,0<=p.1/\p.1<fl.length)->b8 (.tp [0,1]) sq (fL (eI CR CP n) (aa (f2 ixD (af 2) (f2 ixD (af 0) (fC (.int 0)))) (aa (af 1) aC))) [none,none,some (.lst (fl.map flD))] (uA (qs.map stD) (ts.map .int))=.ok ((nW fl qs ts).map .int)
 |[],ts,_=>by rw [List.map_nil,uA.eq_def];rfl
 |p::qs,[],_=>by rw [List.map_nil,List.map_cons,uA.eq_def];rfl
 |p::qs,t::ts,h=>by
  obtain ⟨hp0,hp1⟩:=h p (by simp)
  obtain ⟨e,hm⟩:=BS hp0 hp1
  have g:=hfl _ hm
  have el:=Ds CR CP n (mV fl p.1) t g.p0 g.p1
  have ih:=zb n k fl hfl qs ts fun q hq=>h q (by simp [hq])
  rw [List.map_cons,List.map_cons,uA,b8]
  simp [stD,e,el,ih,nW]
theorem Cn:∀(ds es:List Dat),(uA ds es).length<=ds.length
 |[],_=>by rw [uA.eq_def];simp
 |_::_,[]=>by rw [uA.eq_def];simp
 |d::ds,e::es=>by rw [uA,List.length_cons,List.length_cons];have:=Cn ds es;omega
theorem xE (n:Nat) (k:Nat) (fl:List Fli) (hfl:∀f∈fl,nh k f) (qs:List d8) (ts:List Int) (h:∀p∈qs,0<=p.1/\p.1<fl.length) (hl:qs.length<=1000):hW CR CP n [.lst (fl.map flD),.lst (qs.map stD),.lst (ts.map .int)]=.ok (.int (nW fl qs ts).sum):=by
 have hz:=Cn (qs.map stD) (ts.map .int)
 rw [List.length_map] at hz
 have hz2:(uA (qs.map stD) (ts.map .int)).length<=16777216:=by omega
 simp [hW,v5,hz2,zb CR CP n k fl hfl qs ts h]
end
theorem wd (k:Nat) (fl:List Fli) (hfl:∀f∈fl,nh k f):∀(qs:List d8) (ts us:List Int),(∀p∈qs,0<=p.1/\p.1<fl.length)->ts.length=qs.length->us.length=qs.length->(∀i,i<qs.length->tAt ts i<=tAt us i)->(nW fl qs ts).sum<=(nW fl qs us).sum
 |[],_,_,_,_,_,_=>by simp [nW]
 |p::qs,[],_,_,h,_,_=>by simp at h
 |p::qs,_::_,[],_,_,h,_=>by simp at h
 |p::qs,t::ts,u::us,hq,h1,h2,h=>by
  obtain ⟨hp0,hp1⟩:=hq p (by simp)
  have g:=hfl _ (BS hp0 hp1).2
  have ih:=wd k fl hfl qs ts us (fun q hq'=>hq q (by simp [hq'])) (by simpa using h1) (by simpa using h2) fun i hi=>by
   have:=h (i+1) (by simpa using hi)
   simpa [tAt] using this
  have h0:=h 0 (by simp)
  have h0':t<=u:=by simpa [tAt] using h0
  have hl:Cg (mV fl p.1) t<=Cg (mV fl p.1) u:=by
   unfold Cg
   refine Int.mul_le_mul_of_nonneg_left ?_ g.p0
   unfold oH
   split<;>split<;>omega
  simp [nW]
  omega
theorem lb.le {cs:List d8} {t u v:Int} (h:lb cs t u) (hv:t<=v) (hn:¬Cov cs v):u<=v:=Classical.byContradiction fun z=>hn (h.2.2 v hv (by omega))
theorem Wo.least_le {w:Wo} {ts ls:List Int} {i:Nat} (hk:∀j,j<i->w.Bn ls j) (ht:∀j,j<i->w.dw ts j):∀(m j:Nat),j<=m->j<i->tAt ts j<=tAt ls j
 |m,j,hjm,hj=>by
  obtain ⟨⟨k1,k2,k3⟩,k4⟩:=hk j hj
  refine (ht j hj).1.le (w.Dm ts j _ k1 j fun l hl=>?_) k3
  have a:=k4 l hl
  cases m with
  |zero=>omega
  |succ m=>
   have:=Wo.least_le hk ht m l (by omega) (by omega)
   omega
theorem Wo.never {w:Wo} {ts ls:List Int} (hk:w.Keeps ls) {i:Nat} {t:Int} (hi:i<w.qs.length) (ht:∀j,j<i->w.dw ts j) (hn:lb w.cs (w.low ts i i) t):t<=(w.f i).last:=by
 obtain ⟨⟨k1,k2,k3⟩,k4⟩:=hk i hi
 have:=hn.le (w.Dm ts i _ k1 i fun l hl=>by
  have a:=k4 l hl
  have:=Wo.least_le (fun j hj=>hk j (by omega)) ht l l (Nat.le_refl _) hl
  omega) k3
 omega
noncomputable def Fli.Cg (f:Fli) (t:Int):Fli:=⟨f.kind,t,f.last,f.due,f.price⟩
noncomputable def Once (w:Wo):Prop:=∀i j,i<w.qs.length->j<w.qs.length->(qAt w.qs i).1=(qAt w.qs j).1->i=j
theorem uv {fl:List Fli} {m:Nat} {x:Fli} {a:Int} (hm:m<fl.length):mV (fl.set m x) a=if a.toNat=m then x else mV fl a:=by
 unfold mV
 rw [List.getElem?_set]
 by_cases h:m=a.toNat
 ·subst h;simp [hm]
 ·rw [if_neg h,if_neg (fun z=>h z.symm)]
section
variable {w:Wo} (hw:w.Good) (ho:Once w) {p:Nat} (hp:p<w.qs.length) {f g:Fli} (hf:f.kind=(w.f p).kind) (hg:g.kind=(w.f p).kind)
include hw hp
include hf
include ho
omit hf
include hf
omit ho
end
section
variable {w:Wo} (hw:w.Good) (ho:Once w) {p:Nat} (hp:p<w.qs.length) (t:Int)
include hw hp
include ho
end
theorem Dc (n:Nat):∀cs:List d8,kg (cs.map stD) (n+1)=true
 |[]=>by simp [kg]
 |p::cs=>by simp [kg,okE,stD,Dc n cs]
theorem Df (n:Nat):∀cs:List Fli,kg (cs.map flD) (n+1)=true
 |[]=>by simp [kg]
 |p::cs=>by simp [kg,okE,flD,Df n cs]
theorem De (n:Nat):∀ts:List Int,kg (ts.map .int) (n+1)=true
 |[]=>by simp [kg]
 |p::cs=>by simp [kg,okE,De n cs]
theorem xu (l:List Int) (j:Nat):(l.map Dat.int).eraseIdx j=(l.eraseIdx j).map Dat.int:=by
 rw [List.eraseIdx_eq_take_drop_succ,List.eraseIdx_eq_take_drop_succ]
 simp
theorem popD_in {ls:List Int} {k:Int} (h0:0<=k) (h1:k<ls.length) (hl:ls.length<=16777216):zI (ls.map .int) (.int k)=.ok (.int (ls[k.toNat]'(by omega)),(ls.eraseIdx k.toNat).map .int):=by
 have hj:k.toNat<ls.length:=by omega
 have hn:¬16777216<ls.length:=by omega
 simp [zI,ixN,h0,h1,hj,hn,xu]
theorem v8:∀{ls:List Int} {j:Nat} (h:j<ls.length),(ls[j]::ls.eraseIdx j).Perm ls
 |a::ls,0,h=>by simp
 |a::ls,j+1,h=>by
  have:=v8 (ls:=ls) (j:=j) (by simpa using h)
  simp only [List.getElem_cons_succ,List.eraseIdx_cons_succ]
  exact (List.Perm.swap _ _ _).trans (this.cons a)
section
variable (CR CP:Addr)
theorem rowF (n:Nat) (k:Nat) (hk:k<=6) (c:Int) (rows:List Dat) (z3 z5:Option Dat):∃(r:List Int) (c':Int) (y5:Option Dat),rn k r/\nj (.nm 5) (jZ CR CP n) (aU 0 k) [some (.int c),some (.int k),some (.lst rows),z3,some (.lst []),z5]=.ok (.nx [some (.int c'),some (.int k),some (.lst rows),z3,some (km r),y5]):=by
 obtain ⟨ρ',e,r,c',y5,rfl,h1,h2⟩:=cR (p:=.nm 5) (g:=jZ CR CP n)
  (fun i ρ=>∃(r:List Int) (c:Int) (z5:Option Dat),ρ=[some (.int c),some (.int k),some (.lst rows),z3,some (km r),z5]/\r.length=i/\∀x∈r,0<=x/\x<=1000000) (aU 0 k) 0 _ ⟨[],c,z5,rfl,rfl,by simp⟩ (by
  rintro i d ρ hd ⟨r,c,z5,rfl,hr1,hr2⟩
  obtain ⟨hi,rfl⟩:=bK hd
  have hl:r.length<16777216:=by omega
  refine ⟨[some (.int c),some (.int k),some (.lst rows),z3,some (km r),some (.int i)],by simp,[some (.int (c/1000001)),some (.int k),some (.lst rows),z3,some (km (r++[c%1000001])),some (.int i)],.inl ?_,r++[c%1000001],c/1000001,some (.int i),rfl,by simp;omega,fun y hy=>?_⟩
  ·simp [jZ,hl,km]
  ·rcases List.mem_append.mp hy with z|z
   ·exact hr2 y z
   ·simp at z;subst z;omega)
 rw [Nat.zero_add,bZ] at h1
 exact ⟨r,c',y5,⟨h1,h2⟩,e⟩
theorem rowsF (n:Nat) (k:Nat) (hk:k<=6) (c:Int):∃rows,bU k rows/\iL CR CP n [.int c,.int k]=.ok (aF rows):=by
 have k1: -4611686018427387904<=(k:Int):=by omega
 have k2:(k:Int)<4611686018427387904:=by omega
 obtain ⟨ρ',e,rows,c',y3,y4,y5,rfl,h1,h2⟩:=cR (p:=.nm 3) (g:=o8 CR CP n)
  (fun i ρ=>∃(rows:List (List Int)) (c:Int) (z3 z4 z5:Option Dat),ρ=[some (.int c),some (.int k),some (aF rows),z3,z4,z5]/\rows.length=i/\∀r∈rows,rn k r) (aU 0 k) 0 [some (.int c),some (.int k),some (.lst []),none,none,none] ⟨[],c,none,none,none,rfl,rfl,by simp⟩ (by
  rintro i d ρ hd ⟨rows,c,z3,z4,z5,rfl,hr1,hr2⟩
  obtain ⟨hi,rfl⟩:=bK hd
  obtain ⟨r,c',y5,hr,er⟩:=rowF CR CP n k hk c (rows.map km) (some (.int i)) z5
  have hl:rows.length<16777216:=by omega
  refine ⟨[some (.int c),some (.int k),some (aF rows),some (.int i),z4,z5],by simp,[some (.int c'),some (.int k),some (aF (rows++[r])),some (.int i),some (km r),y5],.inl ?_,rows++[r],c',some (.int i),some (km r),y5,rfl,by simp;omega,fun y hy=>?_⟩
  ·simp [o8,k1,k2,aF,er,hl]
  ·rcases List.mem_append.mp hy with z|z
   ·exact hr2 y z
   ·simp at z;subst z;exact hr)
 rw [Nat.zero_add,bZ] at h1
 exact ⟨rows,⟨h1,h2⟩,by simp [iL,qU,k1,k2,e]⟩
theorem closedF (n:Nat) (c:Int) (many:Nat) (hm:many<=20):∃cs:List d8,cs.length<=20/\(∀p∈cs,p.1<p.2)/\cG CR CP n [.int c,.int many]=.ok (.lst (cs.map stD)):=by
 have k1: -4611686018427387904<=(many:Int):=by omega
 have k2:(many:Int)<4611686018427387904:=by omega
 obtain ⟨ρ',e,cs,c',y3,y4,rfl,h1,h2⟩:=cR (p:=.nm 3) (g:=fO CR CP n)
  (fun i ρ=>∃(cs:List d8) (c:Int) (z3 z4:Option Dat),ρ=[some (.int c),some (.int many),some (.lst (cs.map stD)),z3,z4]/\cs.length=i/\∀p∈cs,p.1<p.2) (aU 0 many) 0 [some (.int c),some (.int many),some (.lst []),none,none] ⟨[],c,none,none,rfl,rfl,by simp⟩ (by
  rintro i d ρ hd ⟨cs,c,z3,z4,rfl,hr1,hr2⟩
  obtain ⟨hi,rfl⟩:=bK hd
  have hl:cs.length<16777216:=by omega
  have p1:0<1000000000-c%1000000000:=by omega
  have m0:0<=c/1000000000%(1000000000-c%1000000000):=Int.emod_nonneg _ (by omega)
  refine ⟨[some (.int c),some (.int many),some (.lst (cs.map stD)),some (.int i),z4],by simp,[some (.int (c/1000000000/1000000000)),some (.int many),some (.lst ((cs++[(c%1000000000,c%1000000000+1+c/1000000000%(1000000000-c%1000000000))]).map stD)),some (.int i),some (.int (c%1000000000))],.inl ?_,_,_,_,_,rfl,by simp;omega,fun y hy=>?_⟩
  ·simp [fO,n4 p1,hl,stD]
  ·rcases List.mem_append.mp hy with z|z
   ·exact hr2 y z
   ·simp at z;subst z;show c%1000000000<c%1000000000+1+c/1000000000%(1000000000-c%1000000000);omega)
 rw [Nat.zero_add,bZ] at h1
 exact ⟨cs,by omega,h2,by simp [cG,i7,k1,k2,e]⟩
theorem flightF (n:Nat) (c:Int) (k:Nat) (hk1:1<=k) (hk6:k<=6):∃f:Fli,nh k f/\bM CR CP n [.int c,.int k]=.ok (flD f):=by
 have hk:(0:Int)<k:=by omega
 have hk9:(k:Int)<18446744073709551616:=by omega
 obtain ⟨ρ',e,xs,c',y4,rfl,h1,h2⟩:=cR (p:=.nm 4) (g:=fN CR CP n)
  (fun i ρ=>∃(xs:List Int) (c':Int) (z4:Option Dat),ρ=[some (.int c'),some (.int k),some (.int (c%k)),some (.lst (xs.map .int)),z4,none]/\xs.length=i/\∀x∈xs,0<=x/\x<=1000000000) (aU 0 4) 0 [some (.int (c/k)),some (.int k),some (.int (c%k)),some (.lst []),none,none] ⟨[],c/k,none,rfl,rfl,by simp⟩ (by
  rintro i d ρ hd ⟨xs,c',z4,rfl,hr1,hr2⟩
  obtain ⟨hi,rfl⟩:=bK hd
  have hl:xs.length<16777216:=by omega
  refine ⟨[some (.int c'),some (.int k),some (.int (c%k)),some (.lst (xs.map .int)),some (.int i),none],by simp,[some (.int (c'/1000000001)),some (.int k),some (.int (c%k)),some (.lst ((xs++[c'%1000000001]).map .int)),some (.int i),none],.inl ?_,_,_,_,rfl,by simp;omega,fun y hy=>?_⟩
  ·simp [fN,hl]
  ·rcases List.mem_append.mp hy with z|z
   ·exact hr2 y z
   ·simp at z;subst z;omega)
 rw [Nat.zero_add,bZ] at h1
 match xs,h1 with
 |[x0,x1,x2,x3],_=>
  have b0:=h2 x0 (by simp)
  have b1:=h2 x1 (by simp)
  have b2:=h2 x2 (by simp)
  have b3:=h2 x3 (by simp)
  have p1:0<1000000000-x0+1:=by omega
  have m0:0<=x1%(1000000000-x0+1):=Int.emod_nonneg _ (by omega)
  have m1:x1%(1000000000-x0+1)<1000000000-x0+1:=Int.emod_lt_of_pos _ p1
  have q0:0<=c%(k:Int):=Int.emod_nonneg _ (by omega)
  have q1:c%(k:Int)<k:=Int.emod_lt_of_pos _ hk
  refine ⟨⟨c%k,x0,x0+x1%(1000000000-x0+1),x2,x3⟩,⟨q0,q1,b0.1,by show x0<=x0+x1%(1000000000-x0+1);omega,by show x0+x1%(1000000000-x0+1)<=1000000000;omega,b2.1,b2.2,b3.1,b3.2⟩,?_⟩
  simp only [List.map_cons,List.map_nil] at e
  simp [bM,i6,n4 hk,E1 hk hk9,e,n4 p1,flD]
theorem vV (n:Nat) (a1:Option Dat) (st:Int) (hs0:1<=st) (hs2:st<=2):∀(m:Nat) (c:Int) (left:List Int) (pairs:List d8) (z5:Option Dat),left.length<m->left.length+pairs.length<=1000->(∀p∈pairs,0<=p.2/\p.2<st) ->
  ∃(qs:List d8) (c':Int) (y5:Option Dat),(qs.map (·.1)).Perm (pairs.map (·.1)++left)/\(∀p∈qs,0<=p.2/\p.2<st) /\
   cw (cC CR CP n) (dW CR CP n) m [some (.int c),a1,some (.int st),some (.lst (left.map .int)),some (.lst (pairs.map stD)),z5]=.ok (.nx [some (.int c'),a1,some (.int st),some (.lst []),some (.lst (qs.map stD)),y5])
 |0,c,left,pairs,z5,h,_,_=>by omega
 |m+1,c,left,pairs,z5,h,hl,hp=>by
  by_cases h0:left.length=0
  ·have:left=[]:=List.length_eq_zero_iff.mp h0
   subst this
   exact ⟨pairs,c,z5,by simp,hp,by rw [cw];simp [cC]⟩
  ·have hpos:0<left.length:=by omega
   have hpos2:(0:Int)<left.length:=by omega
   have c0:0<=c%(left.length:Int):=Int.emod_nonneg _ (by omega)
   have c1:c%(left.length:Int)<left.length:=Int.emod_lt_of_pos _ hpos2
   have ep:=popD_in c0 c1 (by omega)
   have hst:0<st:=by omega
   have hst9:st<18446744073709551616:=by omega
   have hat:(c%(left.length:Int)).toNat<left.length:=by omega
   have hle:=List.length_eraseIdx_of_lt hat
   generalize hpd:left[(c%(left.length:Int)).toNat]'hat=pd at ep
   have hperm:=v8 hat
   rw [hpd] at hperm
   generalize hlf:left.eraseIdx (c%(left.length:Int)).toNat=lf at ep hle hperm
   have hp2:(0:Int)<(lf.length:Int)+1:=by omega
   have hp9:(lf.length:Int)+1<18446744073709551616:=by omega
   have r0:0<=c/((lf.length:Int)+1)%st:=Int.emod_nonneg _ (by omega)
   have r1:c/((lf.length:Int)+1)%st<st:=Int.emod_lt_of_pos _ hst
   have hpl:pairs.length<16777216:=by omega
   obtain ⟨qs,c',y5,hq1,hq2,hq3⟩:=vV n a1 st hs0 hs2 m (c/((lf.length:Int)+1)/st) lf (pairs++[(pd,c/((lf.length:Int)+1)%st)]) (some (.int pd)) (by omega) (by simp;omega) (fun p hp'=>by
    rcases List.mem_append.mp hp' with z|z
    ·exact hp p z
    ·simp at z;subst z;exact ⟨r0,r1⟩)
   refine ⟨qs,c',y5,?_,hq2,?_⟩
   ·refine hq1.trans ?_
    rw [List.map_append,List.append_assoc]
    exact List.Perm.append_left _ hperm
   ·rw [cw]
    rw [List.map_append,List.map_cons,List.map_nil] at hq3
    simp only [stD] at hq3
    have ht:cC CR CP n [some (.int c),a1,some (.int st),some (.lst (left.map .int)),some (.lst (pairs.map stD)),z5]=.ok true:=by simp [cC,hpos]
    have hb:dW CR CP n [some (.int c),a1,some (.int st),some (.lst (left.map .int)),some (.lst (pairs.map stD)),z5]=.ok (.nx [some (.int (c/((lf.length:Int)+1)/st)),a1,some (.int st),some (.lst (lf.map .int)),some (.lst (pairs.map stD++[.tup [.int pd,.int (c/((lf.length:Int)+1)%st)]])),some (.int pd)]):=by
     simp [dW,n4 hpos2,ep,E1 hp2 hp9,n4 hst,E1 hst hst9,hpl]
    rw [ht,ax,if_pos rfl,hb,ax]
    exact hq3
theorem planF (n:Nat) (hn:64<=n) (c:Int) (many:Nat) (hm:many<=60) (st:Int) (hs0:1<=st) (hs2:st<=2):∃qs:List d8,(qs.map (·.1)).Perm ((List.range many).map fun k:Nat=>(k:Int))/\(∀p∈qs,0<=p.2/\p.2<st)/\dB CR CP n [.int c,.int many,.int st]=.ok (.lst (qs.map stD)):=by
 have k1: -4611686018427387904<=(many:Int):=by omega
 have k2:(many:Int)<4611686018427387904:=by omega
 have hl2:(aU 0 many).length<=16777216:=by rw [bZ];omega
 obtain ⟨qs,c',y5,h1,h2,h3⟩:=vV CR CP n (some (.int many)) st hs0 hs2 n c ((List.range many).map fun k:Nat=>(k:Int)) [] none (by simp;omega) (by simp;omega) (by simp)
 have er:aU 0 many=((List.range many).map fun k:Nat=>(k:Int)).map Dat.int:=by
  unfold aU
  rw [List.map_map]
  exact List.map_congr_left fun k _=>by simp
 refine ⟨qs,by simpa using h1,h2,?_⟩
 rw [List.map_nil] at h3
 rw [er] at hl2
 generalize ((List.range many).map fun k:Nat=>(k:Int))=L at *
 rw [List.length_map] at hl2
 simp [dB,jJ,k1,k2,er,hl2,h3]
end
section
variable (CR CP:Addr)
theorem E7 (ns:List Int) (lo hi:Option Int):vg (ns.map Dat.int) lo hi=(vg ns lo hi).map Dat.int:=by
 unfold vg
 simp
theorem cut_len {α:Type} (xs:List α) (lo hi:Option Int):(vg xs lo hi).length<=xs.length:=by
 unfold vg
 simp
 omega
theorem compF (n:Nat) (k:Nat) (hk1:1<=k) (hk6:k<=6):∀xs:List Int,∃fl:List Fli,fl.length=xs.length/\(∀f∈fl,nh k f)/\b8 (.nm 0) sq (fL (bM CR CP n) (aa (af 0) (aa (af 1) aC))) [none,some (.int k)] (xs.map .int)=.ok (fl.map flD)
 |[]=>⟨[],rfl,by simp,rfl⟩
 |x::xs=>by
  obtain ⟨fl,h1,h2,h3⟩:=compF n k hk1 hk6 xs
  obtain ⟨f,hf,ef⟩:=flightF CR CP n x k hk1 hk6
  refine ⟨f::fl,by simp [h1],fun g hg=>?_,?_⟩
  ·rcases List.mem_cons.mp hg with z|z
   ·subst z;exact hf
   ·exact h2 g z
  ·rw [List.map_cons,b8]
   simp [ef,h3]
theorem freeW (n:Nat) (hn:64<=n) (ns:List Int) (hns:ns.length<=63):∃(w:Wo),w.Good/\iO CR CP n [.lst (ns.map .int),.int 24]=.ok (.tup [w.ruD,.lst (w.fl.map flD),.lst (w.cs.map stD),.lst (w.qs.map stD)])/\di CR CP n [w.ruD]=.ok (aB CR CP w.rows w.o)/\(w.qs.map (·.1)).Perm ((List.range w.fl.length).map fun k:Nat=>(k:Int)):=by
 have hcl:5<=(ns.take 5++[0,0,0,0,0]).length:=by simp
 have hc10:(ns.take 5).length+5<=16777216:=by simp;omega
 have ec:fG (.lst ((ns.map Dat.int).take 5)) (.lst [.int 0,.int 0,.int 0,.int 0,.int 0])=.ok (.lst ((ns.take 5++[0,0,0,0,0]).map .int)):=by
  have hm:min 5 ns.length+5<=16777216:=by omega
  simp [fG,hm]
 have er5:(List.replicate 5 [Dat.int 0]).flatten=[.int 0,.int 0,.int 0,.int 0,.int 0]:=rfl
 generalize ns.take 5++[0,0,0,0,0]=cells at *
 have g0:kh (cells.map .int) 0=.ok (.int (tAt cells 0)):=Ci (i:=0) (by omega)
 have g1:kh (cells.map .int) 1=.ok (.int (tAt cells 1)):=Ci (i:=1) (by omega)
 have g2:kh (cells.map .int) 2=.ok (.int (tAt cells 2)):=Ci (i:=2) (by omega)
 have g3:kh (cells.map .int) 3=.ok (.int (tAt cells 3)):=Ci (i:=3) (by omega)
 have g4:kh (cells.map .int) 4=.ok (.int (tAt cells 4)):=Ci (i:=4) (by omega)
 obtain ⟨k,hk⟩:∃k:Nat,1+tAt cells 0/2%6=k:=⟨(1+tAt cells 0/2%6).toNat,by omega⟩
 have hk1:1<=k:=by omega
 have hk6:k<=6:=by omega
 obtain ⟨many,hm⟩:∃m:Nat,tAt cells 0/24%21=m:=⟨(tAt cells 0/24%21).toNat,by omega⟩
 obtain ⟨rows,gr,er⟩:=rowsF CR CP n k (by omega) (tAt cells 1)
 obtain ⟨fJ,gr2,er2⟩:=rowsF CR CP n k (by omega) (tAt cells 2)
 obtain ⟨cs,hc1,hc2,ecs⟩:=closedF CR CP n (tAt cells 3) many (by omega)
 obtain ⟨fl,hf1,hf2,hf3⟩:=compF CR CP n k (by omega) (by omega) (vg ns (some 5) (some 29))
 have hcut:=cut_len ns (some 5) (some 29)
 have hflen:fl.length<=60:=by
  have:(vg ns (some 5) (some 29)).length<=24:=by unfold vg cX;simp;omega
  omega
 have hl2:(vg ns (some 5) (some 29)).length<=16777216:=by omega
 rw [<- E7] at hf3
 have st2:1+tAt cells 0/12%2=1\/1+tAt cells 0/12%2=2:=by omega
 obtain ⟨qs,hq1,hq2,eq⟩:=planF CR CP n hn (tAt cells 4) fl.length hflen (1+tAt cells 0/12%2) (by omega) (by omega)
 have hql:qs.length=fl.length:=by have:=hq1.length_eq;simpa using this
 have hqb:∀p∈qs,0<=p.1/\p.1<fl.length:=fun p hp=>by
  have:p.1∈qs.map (·.1):=List.mem_map_of_mem hp
  have:=hq1.mem_iff.mp this
  obtain ⟨j,hj,e⟩:=List.mem_map.mp this
  have:=List.mem_range.mp hj
  omega
 have hl3:(vg (ns.map Dat.int) (some 5) (some 29)).length<=16777216:=by rw [E7,List.length_map];exact hl2
 generalize hcutd:vg (ns.map Dat.int) (some 5) (some 29)=cut at hf3 hl3
 rcases st2 with h|h
 ·rw [h] at eq hq2
  have hne:¬(1+tAt cells 0/12%2=2):=by omega
  refine ⟨⟨k,rows,[],.non,fl,cs,qs⟩,⟨hk1,hk6,gr,.inl ⟨rfl,fun p hp=>?_⟩,hf2,hflen,hc2,hc1,hqb,hql⟩,?_,zU CR CP n k rows .non (by omega) (by omega) gr (.inl rfl),hq1⟩
  ·have:=hq2 p hp
   omega
  ·simp [iO,nP,nZ,er5,ec,g0,g1,g2,g3,g4,hk,hm,h,er,ecs,hcutd,hf3,hl3,eq,Wo.ruD]
 ·rw [h] at eq hq2
  refine ⟨⟨k,rows,fJ,aF fJ,fl,cs,qs⟩,⟨hk1,hk6,gr,.inr ⟨rfl,gr2⟩,hf2,hflen,hc2,hc1,hqb,hql⟩,?_,zU CR CP n k rows (aF fJ) (by omega) (by omega) gr (.inr ⟨fJ,gr2,rfl⟩),hq1⟩
  simp [iO,nP,nZ,er5,ec,g0,g1,g2,g3,g4,hk,hm,h,er,er2,ecs,hcutd,hf3,hl3,eq,Wo.ruD]
theorem state_ok (n:Nat) (hn:64<=n) (ns:List Int) (hns:ns.length<=63):∃(w:Wo),w.Good/\eK CR CP n [.lst (ns.map .int),.int 24]=.ok (.tup [w.ruD,.lst (w.fl.map flD),.lst (w.cs.map stD),.lst (w.qs.map stD)])/\di CR CP n [w.ruD]=.ok (aB CR CP w.rows w.o)/\(w.qs.map (·.1)).Perm ((List.range w.fl.length).map fun k:Nat=>(k:Int)):=by
 obtain ⟨s,w,hw,hs0,hs1,hfl,es,er,em,ef,ec,eq,h0,hp⟩:=world_ok CR CP n hn ns 24 (by omega)
 simp only [Int.cast_ofNat_Int] at ef
 obtain ⟨v,hv,ev,emv,hpv⟩:=freeW CR CP n hn ns hns
 cases ns with
 |nil=>
  simp only [List.map_nil] at *
  exact ⟨w,hw,by simp [eK,jg,j3,es,er,ef,ec,eq],em,hp⟩
 |cons a rest=>
  have hz:(0:Int)<(rest.length:Int)+1:=by omega
  by_cases h1:a%2=1
  ·refine ⟨v,hv,?_,emv,hpv⟩
   simp only [List.map_cons] at *
   simp [eK,jg,j3,hz,h1,ev]
  ·refine ⟨w,hw,?_,em,hp⟩
   simp only [List.map_cons] at *
   simp [eK,jg,j3,hz,h1,es,er,ef,ec,eq]
theorem pick_ok (n:Nat) (ns:List Int) (k:Nat) (hk:k<=100):∃x:Int,0<=x/\gG CR CP n [.lst (ns.map .int),.int k]=.ok (.int x):=by
 obtain ⟨y,ey,hy⟩:=jM CR CP n ns (250+(k:Int)) (by omega) (by omega)
 by_cases h0:ns.length=0
 ·have:ns=[]:=List.length_eq_zero_iff.mp h0
  subst this
  exact ⟨y,hy,by simp only [List.map_nil] at ey;simp [gG,kL,jY,ey]⟩
 ·obtain ⟨a,rest,rfl⟩:∃a rest,ns=a::rest:=by
   cases ns with
   |nil=>simp at h0
   |cons a r=>exact ⟨a,r,rfl⟩
  by_cases h1:a%2=0
  ·refine ⟨y,hy,?_⟩
   simp only [List.map_cons] at ey
   have hz:¬((rest.length:Int)+1=0):=by omega
   simp [gG,kL,jY,ey,h1,hz]
  ·have k1: -4611686018427387904<=(k:Int):=by omega
   have k2:(k:Int)<4611686018427387904:=by omega
   obtain ⟨ρ',e,c,y3,rfl⟩:=cR (p:=.nm 3) (g:=o9 CR CP n)
    (fun i ρ=>∃(c:Int) (z3:Option Dat),ρ=[some (.lst (.int a::rest.map .int)),some (.int k),some (.int c),z3]) (aU 0 k) 0 [some (.lst (.int a::rest.map .int)),some (.int k),some (.int (a/504)),none] ⟨a/504,none,rfl⟩ (by
    rintro i d ρ hd ⟨c,z3,rfl⟩
    obtain ⟨hi,rfl⟩:=bK hd
    exact ⟨[some (.lst (.int a::rest.map .int)),some (.int k),some (.int c),some (.int i)],by simp,[some (.lst (.int a::rest.map .int)),some (.int k),some (.int (c/1000000000000000000)),some (.int i)],.inl (by simp [o9]),_,_,rfl⟩)
   refine ⟨c%1000000000000000000,Int.emod_nonneg _ (by decide),?_⟩
   have hz:¬((rest.length:Int)+1=0):=by omega
   simp [gG,kL,jY,h1,hz,k1,k2,e]
end
theorem Wo.low_in (w:Wo) (ts:List Int) (i:Nat):∀j,w.low ts i j=(w.f i).first\/∃l,l<j/\w.low ts i j=tAt ts l+w.ap l i
 |0=>.inl rfl
 |j+1=>by
  rw [w.nF]
  obtain ⟨_,_,h⟩:=xg (w.low ts i j) (tAt ts j+w.ap j i)
  rcases h with h|h
  ·rw [h]
   rcases w.low_in ts i j with z|⟨l,h1,h2⟩
   ·exact .inl z
   ·exact .inr ⟨l,by omega,h2⟩
  ·exact .inr ⟨j,by omega,h⟩
theorem lb.stop {cs:List d8} {t u:Int} (h:lb cs t u) (hne:t≠u):∃p∈cs,p.2=u:=by
 obtain ⟨p,hp,h1,h2⟩:=h.2.2 (u-1) (by have:=h.1;omega) (by omega)
 refine ⟨p,hp,?_⟩
 have:¬(p.1<=u/\u<p.2):=fun z=>h.2.1 ⟨p,hp,z⟩
 omega
theorem xo {xs:List Int} {k:Int} (h:vv xs k=none):k∉xs:=fun hm=>by
 have:=List.findIdx?_eq_none_iff.mp h k hm
 simp at this
theorem xn {xs:List Int} {k:Int} {j:Nat} (h:vv xs k=some j):j<xs.length/\tAt xs j=k/\∀m,m<j->tAt xs m≠k:=by
 obtain ⟨h1,h2,h3⟩:=List.findIdx?_eq_some_iff_getElem.mp h
 refine ⟨h1,by simpa [tAt,h1] using h2,fun m hm e=>?_⟩
 have:=h3 m hm
 simp [tAt,show m<xs.length by omega] at e this
 exact this e
theorem B3 (w:Wo) (ts:List Int) (i:Nat):(w.pM ts i).length=i:=by simp [Wo.pM]
theorem DK (w:Wo) (ts:List Int) {i l:Nat} (h:l<i):tAt (w.pM ts i) l=tAt ts l+w.ap l i:=by
 unfold tAt
 rw [List.getD_eq_getElem?_getD]
 simp [Wo.pM,h,tAt]
noncomputable def f9 (w:Wo) (ts:List Int) (i:Nat):Dat:=if tAt ts i=(w.f i).first then .tup [.str "first"] else match vv (w.pM ts i) (tAt ts i) with
 |some j=>.tup [.str "gap",.int j]
 |none=>match vv (w.cs.map (·.2)) (tAt ts i) with
  |some j=>.tup [.str "closed",.int j]
  |none=>.non
theorem uG {w:Wo} {ts:List Int} {i:Nat} (hl:w.dw ts i) (h1:tAt ts i≠(w.f i).first) (h2:vv (w.pM ts i) (tAt ts i)=none):∃j,vv (w.cs.map (·.2)) (tAt ts i)=some j:=by
 cases h:vv (w.cs.map (·.2)) (tAt ts i) with
 |some j=>exact ⟨j,rfl⟩
 |none=>
  exfalso
  by_cases e:w.low ts i i=tAt ts i
  ·rcases w.low_in ts i i with z|⟨l,h3,h4⟩
   ·exact h1 (by omega)
   ·refine xo h2 ?_
    have hg:=DK w ts h3
    have hlen:=B3 w ts i
    have:tAt (w.pM ts i) l∈w.pM ts i:=by
     unfold tAt
     rw [List.getD_eq_getElem?_getD,List.getElem?_eq_getElem (by omega)]
     exact List.getElem_mem _
    rw [hg] at this
    rw [<- e,h4]
    exact this
  ·obtain ⟨p,hp,hp2⟩:=hl.1.stop e
   exact xo h (by rw [<- hp2];exact List.mem_map_of_mem hp)
theorem CS {w:Wo} {ts:List Int} {i:Nat} (hl:w.dw ts i):f9 w ts i=.tup [.str "first"]\/(∃j:Nat,f9 w ts i=.tup [.str "gap",.int j])\/∃j:Nat,f9 w ts i=.tup [.str "closed",.int j]:=by
 unfold f9
 by_cases h:tAt ts i=(w.f i).first
 ·rw [if_pos h];exact .inl rfl
 ·rw [if_neg h]
  cases h2:vv (w.pM ts i) (tAt ts i) with
  |some j=>exact .inr (.inl ⟨j,rfl⟩)
  |none=>
   obtain ⟨j,e⟩:=uG hl h h2
   rw [e]
   exact .inr (.inr ⟨j,rfl⟩)
theorem in_ints (xs:List Int) (k:Int):inM (.int k) (.lst (xs.map .int))=.ok (.bl (vv xs k).isSome):=by
 have h:(okE (.int k) 40&&kg (xs.map .int) 40)=true:=by simp [okE,De]
 show (if (okE (.int k) 40&&kg (xs.map .int) 40)=true then _ else _)=_
 rw [if_pos h]
 congr 2
 unfold vv
 rw [List.findIdx?_isSome,List.any_map]
 congr 1
section
variable (CR CP:Addr)
theorem push_ok (n:Nat) {w:Wo} (hw:w.Good) {ts:List Int} {i:Nat} (hi:i<w.qs.length) (hl:w.dw ts i):kB CR CP n [flD (w.f i),.lst (w.cs.map stD),.lst ((w.pM ts i).map .int),.int (tAt ts i)]=.ok (f9 w ts i):=by
 have hc:=hw.csl
 have ei:=in_ints (w.pM ts i) (tAt ts i)
 unfold f9
 by_cases h:tAt ts i=(w.f i).first
 ·rw [if_pos h]
  simp [kB,pN,nX,flD,h]
 ·rw [if_neg h]
  cases h2:vv (w.pM ts i) (tAt ts i) with
  |some j=>
   rw [h2] at ei
   simp [kB,pN,nX,r6,flD,h,ei,isL,pD,h2]
  |none=>
   rw [h2] at ei
   obtain ⟨j,e⟩:=uG hl h h2
   have ec:b8 (.tp [0,1]) sq (af 1) [none,none] (w.cs.map stD)=.ok ((w.cs.map (·.2)).map .int):=by
    have:=jy (p:=.tp [0,1]) (fe:=af 1) (ρ0:=[none,none]) (fun d=>match d with|.tup [_,x]=>x|_=>.non) (w.cs.map stD) (fun d hd=>by
     obtain ⟨p,_,rfl⟩:=List.mem_map.mp hd
     exact ⟨[some (.int p.1),some (.int p.2)],by simp [stD],by simp [stD]⟩)
    rw [this,List.map_map,List.map_map]
    rfl
   have s2:w.cs.length<=16777216:=by omega
   rw [e]
   simp [kB,pN,nX,r6,flD,h,ei,isL,ec,pD,e,s2,-List.map_map]
theorem DN {w:Wo} {ts:List Int} {i:Nat} (hl:w.dw ts i):lp (f9 w ts i)=true:=by
 rcases CS hl with h|⟨j,h⟩|⟨j,h⟩<;>rw [h]<;>simp [lp,v7]
theorem yq (n:Nat) (hne:CR≠CP) {w:Wo} (hw:w.Good) {ts:List Int} (hl:w.rm ts):eG CR CP n [aB CR CP w.rows w.o,.lst (w.fl.map flD),.lst (w.cs.map stD),.lst (w.qs.map stD)]=.ok (.lst ((List.range w.qs.length).map (f9 w ts))):=by
 have hq:=hw.qsl
 have hf:=hw.fll
 have es:=wG CR CP n hw
 have et:=wD CR CP n hne hw hl
 have htl:=hl.1
 obtain ⟨ρ',e,z7,z8,z9,rfl⟩:=cR (p:=.tp [7,8]) (g:=o6 CR CP n)
  (fun i ρ=>∃(z7 z8 z9:Option Dat),ρ=[some (aB CR CP w.rows w.o),some (.lst (w.fl.map flD)),some (.lst (w.cs.map stD)),some (.lst (w.qs.map stD)),some (.lst (ts.map .int)),some (.lst ((w.qs.map (oR w.fl)).map stD)),some (.lst ((List.range i).map (f9 w ts))),z7,z8,z9]) (n0 0 (ts.map .int)) 0 [some (aB CR CP w.rows w.o),some (.lst (w.fl.map flD)),some (.lst (w.cs.map stD)),some (.lst (w.qs.map stD)),some (.lst (ts.map .int)),some (.lst ((w.qs.map (oR w.fl)).map stD)),some (.lst []),none,none,none] ⟨none,none,none,rfl⟩ (by
  rintro i d ρ hd ⟨z7,z8,z9,rfl⟩
  obtain ⟨e,h1,rfl⟩:=l5 _ _ _ _ hd
  have hi:i<ts.length:=by simpa using (List.getElem?_eq_some_iff.mp h1).1
  have he:e=.int (tAt ts i):=by
   rw [List.getElem?_map,List.getElem?_eq_getElem hi] at h1
   simp at h1
   rw [<- h1];simp [tAt,hi]
  subst he
  rw [Nat.zero_add]
  have hiq:i<w.qs.length:=by omega
  obtain ⟨ef,gf⟩:=hw.fAt hiq
  have eq:=getC hiq
  have eg:=DJ CR CP n hne hw ts hiq (by omega)
  have ep:=push_ok CR CP n hw hiq (hl.2 i hiq)
  have hfl:=DN (hl.2 i hiq)
  have hsz:((List.range i).map (f9 w ts)).length<16777216:=by simp;omega
  rw [List.range_succ,List.map_append]
  generalize (List.range i).map (f9 w ts)=acc at hsz ⊢
  refine ⟨[some (aB CR CP w.rows w.o),some (.lst (w.fl.map flD)),some (.lst (w.cs.map stD)),some (.lst (w.qs.map stD)),some (.lst (ts.map .int)),some (.lst ((w.qs.map (oR w.fl)).map stD)),some (.lst acc),some (.int i),some (.int (tAt ts i)),z9],by simp,[some (aB CR CP w.rows w.o),some (.lst (w.fl.map flD)),some (.lst (w.cs.map stD)),some (.lst (w.qs.map stD)),some (.lst (ts.map .int)),some (.lst ((w.qs.map (oR w.fl)).map stD)),some (.lst (acc++[f9 w ts i])),some (.int i),some (.int (tAt ts i)),some (.lst ((w.pM ts i).map .int))],.inl ?_,_,_,_,rfl⟩
  simp [o6,eg,eq,ef,ep,hsz,hfl,-List.map_map])
 rw [Nat.zero_add,il,List.length_map,htl] at e
 simp [eG,qR,et,es,e,-List.map_map]
end
noncomputable def IsCh (w:Wo) (ts:List Int):Nat->List Nat->Prop
 |i,[]=>∀j:Nat,f9 w ts i≠.tup [.str "gap",.int j]
 |i,j::r=>j<i/\tAt ts i=tAt ts j+w.ap j i/\f9 w ts i=.tup [.str "gap",.int j]/\IsCh w ts j r
theorem push_gap {w:Wo} {ts:List Int} {i j:Nat} (h:f9 w ts i=.tup [.str "gap",.int j]):j<i/\tAt ts i=tAt ts j+w.ap j i:=by
 unfold f9 at h
 by_cases h1:tAt ts i=(w.f i).first
 ·rw [if_pos h1] at h;simp at h
 ·rw [if_neg h1] at h
  cases h2:vv (w.pM ts i) (tAt ts i) with
  |some k=>
   rw [h2] at h
   simp at h
   obtain rfl:k=j:=by omega
   obtain ⟨a,b,_⟩:=xn h2
   rw [B3] at a
   rw [DK w ts a] at b
   exact ⟨a,b.symm⟩
  |none=>
   rw [h2] at h
   cases h3:vv (w.cs.map (·.2)) (tAt ts i) with
   |none=>rw [h3] at h;simp at h
   |some m=>rw [h3] at h;simp at h;exact absurd h.1 (by decide)
theorem ch_ex (w:Wo) (ts:List Int):∀(m i:Nat),i<m->∃r,IsCh w ts i r/\r.length<=i
 |0,i,h=>by omega
 |m+1,i,h=>by
  by_cases e:∃j:Nat,f9 w ts i=.tup [.str "gap",.int j]
  ·obtain ⟨j,e⟩:=e
   obtain ⟨h1,h2⟩:=push_gap e
   obtain ⟨r,h3,h4⟩:=ch_ex w ts m j (by omega)
   exact ⟨j::r,⟨h1,h2,e,h3⟩,by simp;omega⟩
  ·exact ⟨[],fun j z=>e ⟨j,z⟩,by simp⟩
theorem getP {w:Wo} {ts:List Int} {N i:Nat} (h:i<N):kh ((List.range N).map (f9 w ts)) (i:Int)=.ok (f9 w ts i):=by
 rw [jW (by simpa using h)]
 simp
theorem Bf {w:Wo} {ts:List Int} (hl:w.rm ts) {i:Nat} (hi:i<w.qs.length) (h:∀j:Nat,f9 w ts i≠.tup [.str "gap",.int j]) :
  (tAt ts i=(w.f i).first\/tAt ts i∈w.cs.map (·.2))/\∃(s:Str) (r:List Dat),f9 w ts i=.tup (.str s::r)/\(s==("gap":Str))=false:=by
 have hp:=CS (hl.2 i hi)
 unfold f9 at h hp ⊢
 by_cases h1:tAt ts i=(w.f i).first
 ·rw [if_pos h1]
  exact ⟨.inl h1,_,_,rfl,by decide⟩
 ·rw [if_neg h1] at h ⊢
  cases h2:vv (w.pM ts i) (tAt ts i) with
  |some k=>rw [h2] at h;exact absurd rfl (h k)
  |none=>
   obtain ⟨j,e⟩:=uG (hl.2 i hi) h1 h2
   rw [e]
   obtain ⟨a,b,_⟩:=xn e
   refine ⟨.inr ?_,_,_,rfl,by decide⟩
   rw [<- b]
   simp [tAt,List.getD_eq_getElem?_getD] at a ⊢
   rw [List.getElem?_eq_getElem a]
   exact ⟨_,List.getElem_mem a⟩
section
variable (CR CP:Addr)
theorem wo (n:Nat) {w:Wo} {ts:List Int} (hl:w.rm ts) (a0 a1 a2 a3 a4:Option Dat):∀(r:List Nat) (m i:Nat) (pre:List Dat),IsCh w ts i r->i<w.qs.length->r.length<m->pre.length+r.length<1000 ->
  cw (gK CR CP n) (lO CR CP n) m [a0,a1,a2,a3,a4,some (.lst ((List.range w.qs.length).map (f9 w ts))),some (.lst (pre++[.int i]))]=.ok (.nx [a0,a1,a2,a3,a4,some (.lst ((List.range w.qs.length).map (f9 w ts))),some (.lst (pre++(i::r).map fun j:Nat=>Dat.int j))])
 |_,0,_,_,_,_,h,_=>by omega
 |[],m+1,i,pre,hc,hi,_,_=>by
  obtain ⟨_,s,r,e,hs⟩:=Bf hl hi hc
  have eg:=getP (w:=w) (ts:=ts) hi
  rw [e] at eg
  have ee:eqM (.str s) (.str "gap")=.ok (.bl false):=by
   unfold eqM
   rw [if_pos (by simp [okE])]
   simp only [eqD,hs]
  have e0:kh (.str s::r) 0=.ok (.str s):=by
   show kh _ ((0:Nat):Int)=_
   rw [jW (by simp)]
   rfl
  generalize (List.range w.qs.length).map (f9 w ts)=ps at eg ⊢
  have ht:gK CR CP n [a0,a1,a2,a3,a4,some (.lst ps),some (.lst (pre++[.int i]))]=.ok false:=by simp [gK,eg,e0,ee]
  rw [cw,ht,ax,if_neg (by simp)]
  rfl
 |j::r,m+1,i,pre,hc,hi,hm,hz=>by
  obtain ⟨h1,h2,h3,h4⟩:=hc
  have eg:=getP (w:=w) (ts:=ts) hi
  rw [h3] at eg
  have ih:=wo n hl a0 a1 a2 a3 a4 r m j (pre++[.int i]) h4 (by omega) (by simpa using hm) (by simp at hz ⊢;omega)
  have ee:eqM (.str "gap") (.str "gap")=.ok (.bl true):=by
   unfold eqM
   rw [if_pos (by simp [okE])]
   simp [eqD]
  have e0:kh [.str "gap",.int (j:Int)] 0=.ok (.str "gap"):=rfl
  have e1:kh [.str "gap",.int (j:Int)] 1=.ok (.int j):=rfl
  have hz2:pre.length+1<16777216:=by simp at hz;omega
  generalize (List.range w.qs.length).map (f9 w ts)=ps at eg ih ⊢
  have ht:gK CR CP n [a0,a1,a2,a3,a4,some (.lst ps),some (.lst (pre++[.int i]))]=.ok true:=by simp [gK,eg,e0,ee]
  have hb:lO CR CP n [a0,a1,a2,a3,a4,some (.lst ps),some (.lst (pre++[.int i]))]=.ok (.nx [a0,a1,a2,a3,a4,some (.lst ps),some (.lst ((pre++[.int i])++[.int j]))]):=by simp [lO,eg,e1,hz2]
  rw [cw,ht,ax,if_pos rfl,hb,ax]
  rw [List.map_cons,show pre++Dat.int (i:Int)::(j::r).map (fun j:Nat=>Dat.int j)=(pre++[.int i])++(j::r).map (fun j:Nat=>Dat.int j) by simp]
  exact ih
theorem rC (n:Nat) (fl:List Fli) (x:Int):mQ CR CP n [.lst (fl.map flD),.int x]=.ok (.bl (decide (0<=x)&&decide (x<fl.length))):=by
 by_cases h:0<=x<;>by_cases h2:x<fl.length<;>simp [mQ,t8,h,h2]
theorem chain_ok (n:Nat) (hn:64<=n) {w:Wo} (hw:w.Good) {ts:List Int} (hl:w.rm ts) {a b c:Dat} (ep:eG CR CP n [a,.lst (w.fl.map flD),b,c]=.ok (.lst ((List.range w.qs.length).map (f9 w ts)))) {i:Nat} (hi:i<w.qs.length) {r:List Nat} (hc:IsCh w ts i r) (hr:r.length<=i) :
  mS CR CP n [a,.lst (w.fl.map flD),b,c,.int i]=.ok (.lst ((r.reverse++[i]).map fun j:Nat=>Dat.int j)):=by
 have hq:=hw.qsl
 have hf:=hw.fll
 have e1:=rC CR CP n w.fl (i:Int)
 rw [show (decide (0<=(i:Int))&&decide ((i:Int)<w.fl.length))=true by simp;omega] at e1
 have el:=wo CR CP n hl (some a) (some (.lst (w.fl.map flD))) (some b) (some c) (some (.int i)) r n i [] hc hi (by omega) (by simp;omega)
 rw [List.nil_append,List.nil_append] at el
 generalize (List.range w.qs.length).map (f9 w ts)=ps at ep el
 rw [show (r.reverse++[i]).map (fun j:Nat=>Dat.int j)=((i::r).map fun j:Nat=>Dat.int j).reverse by rw [<- List.map_reverse,List.reverse_cons]]
 generalize (i::r).map (fun j:Nat=>Dat.int j)=cd at el
 simp [mS,t9,tT,e1,ep,el,revD]
noncomputable def Links (w:Wo) (ts:List Int) (c:List Nat):Prop:=∀k,k+1<c.length->c.getD k 0<c.getD (k+1) 0/\tAt ts (c.getD (k+1) 0)=tAt ts (c.getD k 0)+w.ap (c.getD k 0) (c.getD (k+1) 0)/\f9 w ts (c.getD (k+1) 0)=.tup [.str "gap",.int (c.getD k 0)]
theorem Be {w:Wo} {ts:List Int}:∀{r:List Nat} {i:Nat},IsCh w ts i r->Links w ts (r.reverse++[i])/\(∀j:Nat,f9 w ts ((r.reverse++[i]).getD 0 0)≠.tup [.str "gap",.int j])/\∀j∈r,j<=i
 |[],i,h=>⟨fun k hk=>by simp at hk,h,by simp⟩
 |j::r,i,⟨h1,h2,h3,h4⟩=>by
  obtain ⟨a,b,c⟩:=Be h4
  refine ⟨fun k hk=>?_,?_,fun x hx=>?_⟩
  ·rw [List.reverse_cons] at hk ⊢
   simp only [List.length_append,List.length_reverse,List.length_cons,List.length_nil] at hk
   have g1:∀m,m<r.length+1->(r.reverse++[j]++[i]).getD m 0=(r.reverse++[j]).getD m 0:=fun m hm=>by
    rw [List.getD_eq_getElem?_getD,List.getElem?_append_left (by simp;omega),<- List.getD_eq_getElem?_getD]
   by_cases hk2:k+1<r.length+1
   ·rw [g1 _ hk2,g1 _ (by omega)]
    exact a k (by simp;omega)
   ·have ek:k=r.length:=by omega
    subst ek
    have e1:(r.reverse++[j]++[i]).getD (r.length+1) 0=i:=by
     rw [List.getD_eq_getElem?_getD,List.getElem?_append_right (by simp)]
     simp
    have e2:(r.reverse++[j]++[i]).getD r.length 0=j:=by
     rw [g1 _ (by omega),List.getD_eq_getElem?_getD,List.getElem?_append_right (by simp)]
     simp
    rw [e1,e2]
    exact ⟨h1,h2,h3⟩
  ·rw [List.reverse_cons,List.getD_eq_getElem?_getD,List.getElem?_append_left (by simp),<- List.getD_eq_getElem?_getD]
   exact b
  ·rcases List.mem_cons.mp hx with z|z
   ·omega
   ·have:=c x z;omega
end
noncomputable def setG (rows:List (List Int)) (a b:Nat) (x:Int):List (List Int):=rows.set a ((rows.getD a []).set b x)
theorem sRows_ok {k:Nat} {rows:List (List Int)} (h:rows.length=k) (hr:∀r∈rows,r.length=k) {a b:Nat} (ha:a<k) (hb:b<k) (i:Nat) (x:Int) (fc fx fA fB:ao->M Dat) (ρ:ao) (e0:fc ρ=.ok (aF rows)) (e1:fx (ρ.set i none)=.ok (.int x)) (e2:fA (ρ.set i none)=.ok (.int a)) (e3:fB (ρ.set i none)=.ok (.int b)) :
  wL i fc fx fA fB ρ=.ok (.nx (ρ.set i (some (aF (setG rows a b x))))):=by
 have ha':a<rows.length:=by omega
 have hrl:(rows[a]).length=k:=hr _ (List.getElem_mem ha')
 have i1:ixN (rows.map km).length (a:Int)=some a:=by
  unfold ixN
  rw [if_pos (by omega),if_pos (by simp;omega)]
  simp
 have i2:ixN ((rows[a]).map Dat.int).length (b:Int)=some b:=by
  unfold ixN
  rw [if_pos (by omega),if_pos (by simp;omega)]
  simp
 have i3:(rows.map km)[a]? =some (.lst ((rows[a]).map .int)):=by simp [ha',km]
 unfold wL
 rw [e0,ax]
 show zG i (rows.map km) fx fA fB ρ=_
 unfold zG
 rw [e1,ax]
 unfold fJ
 rw [e2,ax]
 show ((rowAt (rows.map km) (a:Int)).bind fun je=>uF i (rows.map km) (.int x) je fB ρ)=_
 unfold rowAt
 rw [i1]
 show (((match (rows.map km)[a]? with|some (.lst es)=>.ok (a,es)|_=>.error .stuck):M (Nat×List Dat)).bind fun je=>uF i (rows.map km) (.int x) je fB ρ)=_
 rw [i3]
 show uF i (rows.map km) (.int x) (a,(rows[a]).map .int) fB ρ=_
 unfold uF
 rw [e3,ax]
 show ((vR (rows.map km) (a,(rows[a]).map .int) (b:Int) (.int x)).bind fun rs'=>Except.ok (Flo.nx (ρ.set i (some (.lst rs')))))=_
 unfold vR
 show (((match ixN ((rows[a]).map Dat.int).length (b:Int) with|some k=>.ok ((rows.map km).set a (.lst (((rows[a]).map Dat.int).set k (.int x))))|none=>.error .stuck):M (List Dat)).bind fun rs'=>Except.ok (Flo.nx (ρ.set i (some (.lst rs')))))=_
 rw [i2,ax]
 unfold setG aF
 have e4:rows.getD a []=rows[a]:=by simp [ha']
 rw [e4,List.map_set]
 unfold km
 rw [List.map_set]
theorem yk {k:Nat} {rows:List (List Int)} (h:bU k rows) {a b:Nat} (ha:a<k) {x:Int} (hx:0<=x/\x<=1000000):bU k (setG rows a b x):=by
 have ha':a<rows.length:=by rw [h.1];exact ha
 have e4:rows.getD a []=rows[a]:=by simp [ha']
 refine ⟨by unfold setG;rw [List.length_set];exact h.1,fun r hr=>?_⟩
 unfold setG at hr
 rcases List.mem_or_eq_of_mem_set hr with z|z
 ·exact h.2 r z
 ·subst z
  rw [e4]
  obtain ⟨g1,g2⟩:=h.2 _ (List.getElem_mem ha')
  refine ⟨by rw [List.length_set];exact g1,fun y hy=>?_⟩
  rcases List.mem_or_eq_of_mem_set hy with z|z
  ·exact g2 y z
  ·rw [z];exact hx
theorem setG_len {k:Nat} {rows:List (List Int)} (h:bU k rows) {a b:Nat} (ha:a<k) {x:Int}:(setG rows a b x).length=k/\∀r∈setG rows a b x,r.length=k:=by
 have ha':a<rows.length:=by rw [h.1];exact ha
 have e4:rows.getD a []=rows[a]:=by simp [ha']
 refine ⟨by unfold setG;rw [List.length_set];exact h.1,fun r hr=>?_⟩
 unfold setG at hr
 rcases List.mem_or_eq_of_mem_set hr with z|z
 ·exact (h.2 r z).1
 ·subst z
  rw [e4,List.length_set]
  exact (h.2 _ (List.getElem_mem ha')).1
section
variable (CR CP:Addr)
theorem rwg_ok (n:Nat) {k:Nat} (hk:k<=6) {rows:List (List Int)} (h:bU k rows) {a b:Nat} (ha:a<k) (hb:b<k) (x:Int):cg CR CP n [aF rows,.int a,.int b,.int x]=.ok (aF (setG rows a b x)):=by
 have hl:=h.1
 have e3:=vh CR CP n rows (by omega)
 have c1:(a:Int)<rows.length:=by omega
 have c2:(b:Int)<rows.length:=by omega
 have es:=sRows_ok (k:=k) hl (fun r hr=>(h.2 r hr).1) ha hb 5 x (fL (bh CR CP n) (aa (af 0) aC)) (af 3) (af 1) (af 2) [some (aF rows),some (.int a),some (.int b),some (.int x),some (.int rows.length),none] (by simp [e3]) (by simp) (by simp) (by simp)
 have hlen:qi [aF rows]=.ok (.int rows.length):=by simp [aF]
 simp [cg,kK,n8,hlen,c1,c2,es]
theorem at2_set {k:Nat} {rows:List (List Int)} (h:bU k rows) {a b:Nat} (ha:a<k) (hb:b<k) (x:Int) (i j:Int) (hi:0<=i/\i<k) (hj:0<=j/\j<k):at2 (setG rows a b x) i j=if i=a/\j=b then x else at2 rows i j:=by
 have ha':a<rows.length:=by rw [h.1];exact ha
 have e4:rows.getD a []=rows[a]:=by simp [ha']
 have hl:b<(rows[a]).length:=by rw [(h.2 _ (List.getElem_mem ha')).1];exact hb
 unfold at2 CL setG
 rw [e4]
 by_cases hia:i=a
 ·subst hia
  have e1:(rows.set a ((rows[a]).set b x)).getD ((a:Int).toNat) []=(rows[a]).set b x:=by simp [ha']
  rw [e1]
  by_cases hjb:j=b
  ·subst hjb
   rw [if_pos ⟨rfl,rfl⟩]
   simp [hl]
  ·rw [if_neg (fun z=>hjb z.2)]
   have:¬b=j.toNat:=by omega
   simp [List.getD_eq_getElem?_getD,List.getElem?_set_ne this,ha']
 ·rw [if_neg (fun z=>hia z.1)]
  have:¬a=i.toNat:=by omega
  simp [List.getD_eq_getElem?_getD,List.getElem?_set_ne this]
theorem methG (hne:CR≠CP) (m:Str) (h1:(m==("gaps":Str))=false) (h2:(m==("beside":Str))=false) (g1 g2:List Dat->M Dat) {w:Wo} (hw:w.Good) (fo:ao->M Dat) (fr:ao->M (List Dat)) (ρ:ao) (as:List Dat) (r:Dat) (e0:fo ρ=.ok (aB CR CP w.rows w.o)) (e1:fr ρ=.ok as)
  (q1:w.o=.non->g1 (aB CR CP w.rows w.o::as)=.ok r) (q2:w.o=aF w.r2->bU w.k w.r2->g2 (aB CR CP w.rows w.o::as)=.ok r):iH CR CP m g1 g2 fo fr ρ=.ok r:=by
 unfold iH
 rw [e0,ax]
 rcases hw.o with ⟨ho,_⟩|⟨ho,hg⟩
 ·have hc:isC CR m (aB CR CP w.rows w.o)=true:=by
   rw [ho]
   show ((CR==CR)&&(List.lookup m [(("gaps":Str),aF w.rows)]).isNone)=true
   rw [List.lookup_cons,h1]
   simp
  rw [if_pos hc,e1,ax]
  exact q1 ho
 ·have hc:isC CR m (aB CR CP w.rows w.o)=false:=by
   rw [ho]
   show ((CP==CR)&&(List.lookup m [(("gaps":Str),aF w.rows),(("beside":Str),aF w.r2)]).isNone)=false
   have:(CP==CR)=false:=by simp;exact fun z=>hne z.symm
   rw [this];rfl
  have hc2:isC CP m (aB CR CP w.rows w.o)=true:=by
   rw [ho]
   show ((CP==CP)&&(List.lookup m [(("gaps":Str),aF w.rows),(("beside":Str),aF w.r2)]).isNone)=true
   rw [List.lookup_cons,h1]
   show ((CP==CP)&&(List.lookup m [(("beside":Str),aF w.r2)]).isNone)=true
   rw [List.lookup_cons,h2]
   simp
  rw [if_neg (by rw [hc];simp),if_pos hc2,e1,ax]
  exact q2 ho hg
theorem gapsO {w:Wo} (hw:w.Good):rZ [CR,CP] "gaps" (aB CR CP w.rows w.o)=.ok (aF w.rows):=zW CR CP w.rows w.o (by rcases hw.o with ⟨h,_⟩|⟨h,_⟩;exact .inl h;exact .inr ⟨_,h⟩)
theorem grows_ok (n:Nat) (hne:CR≠CP) {w:Wo} (hw:w.Good) (fo:ao->M Dat) (ρ:ao) (e0:fo ρ=.ok (aB CR CP w.rows w.o)):iH CR CP "gap_rows" (bz CR CP n) (bz CR CP n) fo aC ρ=.ok (aF w.rows):=by
 have eg:=gapsO CR CP hw
 have hl:=hw.rows.1
 have hk:=hw.k6
 have ec:=vh CR CP n w.rows (by omega)
 have em:bz CR CP n [aB CR CP w.rows w.o]=.ok (aF w.rows):=by simp [bz,jL,eg,ec]
 exact methG CR CP hne "gap_rows" (by decide +kernel) (by decide +kernel) _ _ hw fo aC ρ [] _ e0 rfl (fun _=>em) (fun _ _=>em)
theorem with_ok (n:Nat) (hne:CR≠CP) {w:Wo} (hw:w.Good) {a b:Nat} (ha:a<w.k) (hb:b<w.k) {x:Int} (hx:0<=x/\x<=1000000) (fo:ao->M Dat) (fr:ao->M (List Dat)) (ρ:ao) (e0:fo ρ=.ok (aB CR CP w.rows w.o)) (e1:fr ρ=.ok [.int a,.int b,.int x]) :
  iH CR CP "with_gap" (dC CR CP n) (eQ CR CP n) fo fr ρ=.ok (aB CR CP (setG w.rows a b x) w.o):=by
 have eg:=gapsO CR CP hw
 have er:=rwg_ok CR CP n hw.k6 hw.rows ha hb x
 have ec:=qk CR CP n w.k (setG w.rows a b x) hw.k1 hw.k6 (yk hw.rows ha hx)
 refine methG CR CP hne "with_gap" (by decide +kernel) (by decide +kernel) _ _ hw fo fr ρ _ _ e0 e1 (fun ho=>?_) (fun ho g2=>?_)
 ·rw [ho] at eg ⊢
  have en:newR CR (az CR CP n) [aF (setG w.rows a b x)]=.ok (aB CR CP (setG w.rows a b x) .non):=by simp [newR,ec,aB]
  simp [dC,jK,eg,er,en]
 ·rw [ho] at eg ⊢
  have ec2:=qk CR CP n w.k w.r2 hw.k1 hw.k6 g2
  have eb:=zm CR CP w.rows w.r2
  have en:newP CP (az CR CP n) [aF (setG w.rows a b x),aF w.r2]=.ok (aB CR CP (setG w.rows a b x) (aF w.r2)):=by
   have ht:twoL (aF (setG w.rows a b x)) (aF w.r2)=true:=by simp [twoL,aF,(setG_len hw.rows ha).1,g2.1]
   show _=Except.ok (Dat.ins CP [("gaps",aF (setG w.rows a b x)),("beside",aF w.r2)])
   simp [newP,ec,ec2,ht]
  simp [eQ,kO,eg,eb,er,en]
end
structure uj (w v:Wo):Prop where
 good:v.Good
 qs:v.qs=w.qs
 len:v.fl.length=w.fl.length
 ap:∀j i,j<w.qs.length->i<w.qs.length->v.ap j i<=w.ap j i
 f1:∀i,i<w.qs.length->(v.f i).first<=(w.f i).first
 f2:∀i,i<w.qs.length->(w.f i).last<=(v.f i).last
 cov:∀t,Cov v.cs t->Cov w.cs t
theorem uj.keeps {w v:Wo} (h:uj w v) {ts:List Int} (hk:w.Keeps ts):v.Keeps ts:=fun i hi=>by
 rw [h.qs] at hi
 obtain ⟨⟨k1,k2,k3⟩,k4⟩:=hk i hi
 have e1:=h.f1 i hi
 have e2:=h.f2 i hi
 refine ⟨⟨by omega,by omega,fun z=>k3 (h.cov _ z)⟩,fun j hj=>?_⟩
 have:=k4 j hj
 have:=h.ap j i (by omega) hi
 omega
theorem uj.refl {w:Wo} (h:w.Good):uj w w:=⟨h,rfl,rfl,fun _ _ _ _=>Int.le_refl _,fun _ _=>Int.le_refl _,fun _ _=>Int.le_refl _,fun _ z=>z⟩
theorem yc (CR CP:Addr) (n:Nat) {w:Wo} (hw:w.Good):∀i,i<=w.qs.length->(∃ts:List Int,ts.length=i/\∀j,j<i->w.dw ts j)\/∃(i':Nat) (ts:List Int) (t:Int),i'<w.qs.length/\ts.length=i'/\(∀j,j<i'->w.dw ts j)/\lb w.cs (w.low ts i' i') t/\(w.f i').last<t
 |0,_=>.inl ⟨[],rfl,fun j h=>by omega⟩
 |i+1,h=>by
  rcases yc CR CP n hw i (by omega) with ⟨ts,h1,h2⟩|z
  ·obtain ⟨u,_,hu⟩:=Di CR CP n w.cs (w.low ts i i) (by have:=hw.csl;omega) hw.cs
   by_cases hlt:(w.f i).last<u
   ·exact .inr ⟨i,ts,u,by omega,h1,h2,hu,hlt⟩
   ·refine .inl ⟨ts++[u],by simp [h1],fun j hj=>?_⟩
    by_cases hji:j<i
    ·exact (h2 j hji).app (by omega)
    ·have e:j=i:=by omega
     subst e
     have et:tAt (ts++[u]) j=u:=by rw [<- h1];exact CD ts [] u
     refine ⟨?_,by rw [et];omega⟩
     rw [et,w.rF (us:=ts) j j fun l hl=>wF (by omega)]
     exact hu
  ·exact .inr z
theorem least_of (CR CP:Addr) (n:Nat) {w:Wo} (hw:w.Good) {us:List Int} (hk:w.Keeps us):∃ts,w.rm ts/\∀i,i<w.qs.length->tAt ts i<=tAt us i:=by
 rcases yc CR CP n hw w.qs.length (Nat.le_refl _) with ⟨ts,h1,h2⟩|⟨i,ts,t,hi,h1,h2,h3,h4⟩
 ·exact ⟨ts,⟨h1,h2⟩,fun i hi=>Wo.least_le (i:=w.qs.length) hk h2 i i (Nat.le_refl _) hi⟩
 ·have:=Wo.never hk hi h2 h3
  omega
theorem cutD_to (l:List Dat) (a:Nat) (h:a<=l.length):fy (.lst l) none (some (a:Int))=.ok (.lst (l.take a)):=by
 show Except.ok (Dat.lst (vg l none (some (a:Int))))=_
 congr 2
 unfold vg cX
 dsimp only
 rw [if_neg (by omega),List.drop_zero,Nat.sub_zero,Int.toNat_natCast,Nat.min_eq_left h]
theorem E9 (l:List Dat) (a:Nat) (h:a<=l.length):fy (.lst l) (some (a:Int)) none=.ok (.lst (l.drop a)):=by
 show Except.ok (Dat.lst (vg l (some (a:Int)) none))=_
 congr 2
 unfold vg cX
 dsimp only
 rw [if_neg (by omega),Int.toNat_natCast,Nat.min_eq_left h,List.take_of_length_le (by simp)]
theorem E8 (l s:List Dat) (a:Nat) (h:a<l.length) (hl:l.length<=1000) (hs:s.length<=1000):∃m1 m2,fy (.lst l) none (some (a:Int))=.ok m1/\fy (.lst l) (some ((a:Int)+1)) none=.ok m2/\∃m3,fG m1 (.lst s)=.ok m3/\fG m3 m2=.ok (.lst (l.take a++s++l.drop (a+1))):=by
 have c2:=E9 l (a+1) (by omega)
 rw [show (((a+1:Nat)):Int)=(a:Int)+1 by omega] at c2
 have l1:(l.take a).length+s.length<=16777216:=by rw [List.length_take];omega
 have l2:(l.take a++s).length+(l.drop (a+1)).length<=16777216:=by rw [List.length_append,List.length_take,List.length_drop];omega
 refine ⟨_,_,cutD_to l a (by omega),c2,.lst (l.take a++s),?_,?_⟩
 ·simp only [fG,sizeLine_eq]
  rw [if_pos l1]
 ·simp only [fG,sizeLine_eq]
  rw [if_pos l2]
theorem at2_b {k:Nat} {rows:List (List Int)} (g:bU k rows) {i j:Int} (h0:0<=i) (h1:i<k) (h2:0<=j) (h3:j<k):0<=at2 rows i j/\at2 rows i j<=1000000:=by
 have gr:=(getR g h0 h1).2
 have hj:j.toNat<(CL rows i).length:=by rw [gr.1];omega
 have e:at2 rows i j=(CL rows i)[j.toNat]:=by simp [at2,hj]
 rw [e]
 exact gr.2 _ (List.getElem_mem hj)
theorem eq_nil' (fl:List Fli):eqM (.lst (fl.map flD)) (.lst [])=.ok (.bl fl.isEmpty):=by
 unfold eqM
 rw [if_pos (by simp only [okE,kg,Bool.and_true];exact Df 38 fl)]
 cases fl<;>simp [eqD,B7]
theorem ne_nil' (cs:List d8):neM (.lst (cs.map stD)) (.lst [])=.ok (.bl !cs.isEmpty):=by
 unfold neM
 rw [if_pos (by simp only [okE,kg,Bool.and_true];exact Dc 38 cs)]
 cases cs<;>simp [eqD,B7]
theorem cov_cut {cs S:List d8} {a:Nat} {t:Int} (h:a<cs.length) (hS:∀p∈S,∀t,p.1<=t->t<p.2->(qAt cs a).1<=t/\t<(qAt cs a).2) (hc:Cov (cs.take a++S++cs.drop (a+1)) t):Cov cs t:=by
 rcases iS.mp hc with z|⟨p,hp,hq⟩
 ·rcases iS.mp z with ⟨p,hp,hq⟩|⟨p,hp,hq⟩
  ·exact ⟨p,List.mem_of_mem_take hp,hq⟩
  ·exact ⟨_,hU h,hS p hp t hq.1 hq.2⟩
 ·exact ⟨p,List.mem_of_mem_drop hp,hq⟩
theorem DY {w:Wo} (hw:w.Good) {a b:Nat} (ha:a<w.k) (hb:b<w.k) {x:Int} (hx:0<=x) (hle:x<=at2 w.rows a b):uj w ⟨w.k,setG w.rows a b x,w.r2,w.o,w.fl,w.cs,w.qs⟩:=by
 have hb2:=at2_b hw.rows (i:=a) (j:=b) (by omega) (by omega) (by omega) (by omega)
 refine ⟨⟨hw.k1,hw.k6,yk hw.rows ha ⟨hx,by omega⟩,hw.o,hw.fl,hw.fll,hw.cs,hw.csl,hw.qs,hw.qsl⟩,rfl,rfl,fun j i hj hi=>?_,fun i hi=>Int.le_refl _,fun i hi=>Int.le_refl _,fun t z=>z⟩
 obtain ⟨_,gj⟩:=hw.fAt hj
 obtain ⟨_,gi⟩:=hw.fAt hi
 unfold Wo.f at gj gi
 unfold Wo.ap apS oR
 dsimp only
 by_cases hs:(qAt w.qs j).2=(qAt w.qs i).2
 ·rw [if_pos hs,if_pos hs,at2_set hw.rows ha hb x _ _ ⟨gj.k0,gj.k1⟩ ⟨gi.k0,gi.k1⟩]
  split
  ·rename_i z
   rw [z.1,z.2]
   exact hle
  ·exact Int.le_refl _
 ·rw [if_neg hs,if_neg hs]
  exact Int.le_refl _
theorem C3 {w:Wo} (hw:w.Good) {a:Nat} (ha:a<w.cs.length) {S:List d8} (hl:S.length<=1) (h1:∀p∈S,p.1<p.2) (h2:∀p∈S,(qAt w.cs a).1<=p.1/\p.2<=(qAt w.cs a).2):uj w ⟨w.k,w.rows,w.r2,w.o,w.fl,w.cs.take a++S++w.cs.drop (a+1),w.qs⟩:=by
 have hc:=hw.csl
 refine ⟨⟨hw.k1,hw.k6,hw.rows,hw.o,hw.fl,hw.fll,fun p hp=>?_,?_,hw.qs,hw.qsl⟩,rfl,rfl,fun j i hj hi=>Int.le_refl _,fun i hi=>Int.le_refl _,fun i hi=>Int.le_refl _,fun t z=>cov_cut ha (fun p hp t z1 z2=>by have:=h2 p hp;omega) z⟩
 ·rcases List.mem_append.mp hp with z|z
  ·rcases List.mem_append.mp z with z|z
   ·exact hw.cs p (List.mem_of_mem_take z)
   ·exact h1 p z
  ·exact hw.cs p (List.mem_of_mem_drop z)
 ·show (w.cs.take a++S++w.cs.drop (a+1)).length<=20
  rw [List.length_append,List.length_append,List.length_take,List.length_drop]
  omega
theorem C0 {w:Wo} (hw:w.Good) {a:Nat} (ha:a<w.fl.length) {f:Fli} (hk:f.kind=(mV w.fl a).kind) (hg:nh w.k f) (h1:f.first<=(mV w.fl a).first) (h2:(mV w.fl a).last<=f.last):uj w ⟨w.k,w.rows,w.r2,w.o,w.fl.set a f,w.cs,w.qs⟩:=by
 have key:∀i:Int,0<=i->mV (w.fl.set a f) i=if i.toNat=a then f else mV w.fl i:=fun i _=>uv ha
 have at':∀i:Int,0<=i->i.toNat=a->mV w.fl i=mV w.fl a:=fun i h0 h=>by rw [show i=(a:Int) by omega]
 have kind:∀i:Int,0<=i->(mV (w.fl.set a f) i).kind=(mV w.fl i).kind:=fun i h0=>by
  rw [key i h0]
  split
  ·rename_i z
   rw [at' i h0 z]
   exact hk
  ·rfl
 have hlen:(w.fl.set a f).length=w.fl.length:=List.length_set ..
 refine ⟨⟨hw.k1,hw.k6,hw.rows,hw.o,fun g hg'=>?_,by rw [hlen];exact hw.fll,hw.cs,hw.csl,by rw [hlen];exact hw.qs,by rw [hlen];exact hw.qsl⟩,rfl,hlen,fun j i hj hi=>?_,fun i hi=>?_,fun i hi=>?_,fun t z=>z⟩
 ·rcases List.mem_or_eq_of_mem_set hg' with z|z
  ·exact hw.fl g z
  ·rw [z];exact hg
 ·unfold Wo.ap oR
  dsimp only
  rw [kind _ (hw.qs _ (hU hj)).1,kind _ (hw.qs _ (hU hi)).1]
  exact Int.le_refl _
 ·have h0:=(hw.qs _ (hU hi)).1
  show (mV (w.fl.set a f) (qAt w.qs i).1).first<=(mV w.fl (qAt w.qs i).1).first
  rw [key _ h0]
  split
  ·rename_i z
   rw [at' _ h0 z]
   exact h1
  ·exact Int.le_refl _
 ·have h0:=(hw.qs _ (hU hi)).1
  show (mV w.fl (qAt w.qs i).1).last<=(mV (w.fl.set a f) (qAt w.qs i).1).last
  rw [key _ h0]
  split
  ·rename_i z
   rw [at' _ h0 z]
   exact h2
  ·exact Int.le_refl _
theorem CH {fl:List Fli} {a:Nat} (h:a<fl.length) (f:Fli):(fl.map flD).take a++[flD f]++(fl.map flD).drop (a+1)=(fl.set a f).map flD:=by
 rw [List.set_eq_take_append_cons_drop,if_pos h]
 simp
section
variable (CR CP:Addr)
theorem eased_ok (n:Nat) (hne:CR≠CP) {w:Wo} (hw:w.Good) (x:Int) (hx:0<=x):∃v,uj w v/\bW CR CP n [aB CR CP w.rows w.o,.tup [.lst (w.fl.map flD),.lst (w.cs.map stD),.lst (w.qs.map stD)],.int x]=.ok (.tup [aB CR CP v.rows v.o,.tup [.lst (v.fl.map flD),.lst (v.cs.map stD),.lst (v.qs.map stD)]]):=by
 have hk1:=hw.k1
 have hk6:=hw.k6
 have hrl:=hw.rows.1
 have hcl:=hw.csl
 have hfl:=hw.fll
 have hkp:(0:Int)<w.k:=by omega
 have hlen:qi [aF w.rows]=.ok (.int w.k):=by simp [aF,hrl]
 obtain ⟨a,ha,ea⟩:∃a:Nat,a<w.k/\x/8%(w.k:Int)=a:=⟨(x/8%(w.k:Int)).toNat,by have:=Int.emod_lt_of_pos (x/8) hkp;have:=Int.emod_nonneg (x/8) (show (w.k:Int)≠0 by omega);omega,by have:=Int.emod_nonneg (x/8) (show (w.k:Int)≠0 by omega);omega⟩
 obtain ⟨b,hb,eb⟩:∃b:Nat,b<w.k/\x/64%(w.k:Int)=b:=⟨(x/64%(w.k:Int)).toNat,by have:=Int.emod_lt_of_pos (x/64) hkp;have:=Int.emod_nonneg (x/64) (show (w.k:Int)≠0 by omega);omega,by have:=Int.emod_nonneg (x/64) (show (w.k:Int)≠0 by omega);omega⟩
 have eg:=grows_ok CR CP n hne hw (af 0) [some (aB CR CP w.rows w.o),some (.tup [.lst (w.fl.map flD),.lst (w.cs.map stD),.lst (w.qs.map stD)]),some (.int x),some (.lst (w.fl.map flD)),some (.lst (w.cs.map stD)),some (.lst (w.qs.map stD)),none,none,none,none,none,none,none,none,none,none,none,none,none] (by simp)
 by_cases c1:x%8<3
 ·have hb2:=at2_b hw.rows (i:=a) (j:=b) (by omega) (by omega) (by omega) (by omega)
  obtain ⟨r1,_⟩:=getR hw.rows (i:=(a:Int)) (by omega) (by omega)
  obtain ⟨r2,_⟩:=getA hw.rows (i:=(a:Int)) (j:=(b:Int)) (by omega) (by omega) (by omega) (by omega)
  have ew:=with_ok CR CP n hne hw ha hb (x:=at2 w.rows a b/2) ⟨by omega,by omega⟩ (af 0) (aa (af 7) (aa (af 8) (aa (f2 ck (f2 ixD (f2 ixD (af 6) (af 7)) (af 8)) (fC (.int 2))) aC))) [some (aB CR CP w.rows w.o),some (.tup [.lst (w.fl.map flD),.lst (w.cs.map stD),.lst (w.qs.map stD)]),some (.int x),some (.lst (w.fl.map flD)),some (.lst (w.cs.map stD)),some (.lst (w.qs.map stD)),some (aF w.rows),some (.int a),some (.int b),none,none,none,none,none,none,none,none,none,none] (by simp) (by simp [aF,r1,km,r2])
  refine ⟨_,DY hw ha hb (x:=at2 w.rows a b/2) (by omega) (by omega),?_⟩
  simp [bW,gS,eg,hlen,n4 hkp,ea,eb,j4,c1,ew]
 ·have e1:∀(r:List (Option Dat)),j4 CR CP n ([some (aB CR CP w.rows w.o),some (.tup [.lst (w.fl.map flD),.lst (w.cs.map stD),.lst (w.qs.map stD)]),some (.int x)]++r)=.ok (.nx ([some (aB CR CP w.rows w.o),some (.tup [.lst (w.fl.map flD),.lst (w.cs.map stD),.lst (w.qs.map stD)]),some (.int x)]++r)):=fun r=>by simp [j4,c1]
  have e1:=e1 [some (.lst (w.fl.map flD)),some (.lst (w.cs.map stD)),some (.lst (w.qs.map stD)),some (aF w.rows),some (.int a),some (.int b),none,none,none,none,none,none,none,none,none,none]
  simp only [List.cons_append,List.nil_append] at e1
  have en:=ne_nil' w.cs
  by_cases c2:x%8<5/\w.cs.isEmpty=false
  ·obtain ⟨c2,c3⟩:=c2
   rw [c3] at en
   have hcp:0<w.cs.length:=by
    cases hh:w.cs with
    |nil=>rw [hh] at c3;simp at c3
    |cons p q=>simp
   have hcp':(0:Int)<w.cs.length:=by omega
   obtain ⟨c,hc,ec⟩:∃c:Nat,c<w.cs.length/\x/8%(w.cs.length:Int)=c:=⟨(x/8%(w.cs.length:Int)).toNat,by have:=Int.emod_lt_of_pos (x/8) hcp';have:=Int.emod_nonneg (x/8) (show (w.cs.length:Int)≠0 by omega);omega,by have:=Int.emod_nonneg (x/8) (show (w.cs.length:Int)≠0 by omega);omega⟩
   have eq:=getQ hc
   have hse:=hw.cs _ (hU hc)
   obtain ⟨s,hs⟩:∃s,s=(qAt w.cs c).1:=⟨_,rfl⟩
   obtain ⟨e,he⟩:∃e,e=(qAt w.cs c).2:=⟨_,rfl⟩
   simp only [stD] at eq
   rw [<- hs,<- he] at eq hse
   have hi3:x/512%3=0\/x/512%3=1\/x/512%3=2:=by omega
   have fin:∀S:List d8,S.length<=1->(∀p∈S,p.1<p.2)->(∀p∈S,s<=p.1/\p.2<=e)->kh [.lst [],.lst [.tup [.int ((s+e)/2),.int e]],.lst [.tup [.int s,.int ((s+e)/2+1)]]] (x/512%3)=.ok (.lst (S.map stD))->∃v,uj w v/\bW CR CP n [aB CR CP w.rows w.o,.tup [.lst (w.fl.map flD),.lst (w.cs.map stD),.lst (w.qs.map stD)],.int x]=.ok (.tup [aB CR CP v.rows v.o,.tup [.lst (v.fl.map flD),.lst (v.cs.map stD),.lst (v.qs.map stD)]]):=fun S hS1 hS2 hS3 hS4=>by
    obtain ⟨m1,m2,k1,k2,m3,k3,k4⟩:=E8 (w.cs.map stD) (S.map stD) c (by simpa using hc) (by simp;omega) (by simp;omega)
    refine ⟨_,C3 hw hc hS1 hS2 (by rw [<- hs,<- he];exact hS3),?_⟩
    have er:(w.cs.take c++S++w.cs.drop (c+1)).map stD=(w.cs.map stD).take c++S.map stD++(w.cs.map stD).drop (c+1):=by simp
    dsimp only
    rw [er]
    have e2:dM CR CP n [some (aB CR CP w.rows w.o),some (.tup [.lst (w.fl.map flD),.lst (w.cs.map stD),.lst (w.qs.map stD)]),some (.int x),some (.lst (w.fl.map flD)),some (.lst (w.cs.map stD)),some (.lst (w.qs.map stD)),some (aF w.rows),some (.int a),some (.int b),none,none,none,none,none,none,none,none,none,none]=.ok (.rt (.tup [aB CR CP w.rows w.o,.tup [.lst (w.fl.map flD),.lst ((w.cs.map stD).take c++S.map stD++(w.cs.map stD).drop (c+1)),.lst (w.qs.map stD)]])):=by
     simp [dM,c2,en,n4 hcp',ec,eq,hS4,k1,k2,k3,k4,-List.map_take,-List.map_drop]
    simp [bW,gS,eg,hlen,n4 hkp,ea,eb,e1,e2,-List.map_take,-List.map_drop]
   rcases hi3 with h|h|h
   ·exact fin [] (by simp) (by simp) (by simp) (by rw [h];simp)
   ·refine fin [((s+e)/2,e)] (by simp) (fun p hp=>?_) (fun p hp=>?_) (by rw [h];simp [stD])
    ·simp at hp;subst hp;show (s+e)/2<e;omega
    ·simp at hp;subst hp;show s<=(s+e)/2/\e<=e;omega
   ·refine fin [(s,(s+e)/2+1)] (by simp) (fun p hp=>?_) (fun p hp=>?_) (by rw [h];simp [stD])
    ·simp at hp;subst hp;show s<(s+e)/2+1;omega
    ·simp at hp;subst hp;show s<=s/\(s+e)/2+1<=e;omega
  ·have e2:dM CR CP n [some (aB CR CP w.rows w.o),some (.tup [.lst (w.fl.map flD),.lst (w.cs.map stD),.lst (w.qs.map stD)]),some (.int x),some (.lst (w.fl.map flD)),some (.lst (w.cs.map stD)),some (.lst (w.qs.map stD)),some (aF w.rows),some (.int a),some (.int b),none,none,none,none,none,none,none,none,none,none]=.ok (.nx [some (aB CR CP w.rows w.o),some (.tup [.lst (w.fl.map flD),.lst (w.cs.map stD),.lst (w.qs.map stD)]),some (.int x),some (.lst (w.fl.map flD)),some (.lst (w.cs.map stD)),some (.lst (w.qs.map stD)),some (aF w.rows),some (.int a),some (.int b),none,none,none,none,none,none,none,none,none,none]):=by
    by_cases c3:x%8<5
    ·have c4:w.cs.isEmpty=true:=by
      cases hh:w.cs.isEmpty with
      |true=>rfl
      |false=>exact absurd ⟨c3,hh⟩ c2
     rw [c4] at en
     simp [dM,c3,en]
    ·simp [dM,c3]
   have ef:=eq_nil' w.fl
   cases hfe:w.fl.isEmpty with
   |true=>
    rw [hfe] at ef
    refine ⟨w,uj.refl hw,?_⟩
    simp [bW,gS,eg,hlen,n4 hkp,ea,eb,e1,e2,mx,ef]
   |false=>
    rw [hfe] at ef
    have hfp:0<w.fl.length:=by
     cases hh:w.fl with
     |nil=>rw [hh] at hfe;simp at hfe
     |cons p q=>simp
    have hfp':(0:Int)<w.fl.length:=by omega
    obtain ⟨c,hc,ec⟩:∃c:Nat,c<w.fl.length/\x/8%(w.fl.length:Int)=c:=⟨(x/8%(w.fl.length:Int)).toNat,by have:=Int.emod_lt_of_pos (x/8) hfp';have:=Int.emod_nonneg (x/8) (show (w.fl.length:Int)≠0 by omega);omega,by have:=Int.emod_nonneg (x/8) (show (w.fl.length:Int)≠0 by omega);omega⟩
    obtain ⟨eq,hm⟩:=BS (fl:=w.fl) (i:=(c:Int)) (by omega) (by omega)
    have gf:=hw.fl _ hm
    obtain ⟨f,hf⟩:∃f,f=mV w.fl (c:Int):=⟨_,rfl⟩
    rw [<- hf] at eq gf
    simp only [flD] at eq
    have g1:=gf.f0
    have g2:=gf.f1
    have g3:=gf.l1
    have fin:∀f':Fli,f'.kind=f.kind->nh w.k f'->f'.first<=f.first->f.last<=f'.last->(∀r:List (Option Dat),r.length=9->(aO (aD [] 18 (fL bQ (aa (af 7) (aa (f2 zw (af 14) (f2 ck (af 14) (fC (.int 3)))) (aa (af 15) (aa (af 16) (aa (af 17) aC))))))) (bF CR CP n)) [some (aB CR CP w.rows w.o),some (.tup [.lst (w.fl.map flD),.lst (w.cs.map stD),.lst (w.qs.map stD)]),some (.int x),some (.lst (w.fl.map flD)),some (.lst (w.cs.map stD)),some (.lst (w.qs.map stD)),some (aF w.rows),some (.int f.kind),some (.int b),some (.int c),none,none,none,none,some (.int f.first),some (.int f.last),some (.int f.due),some (.int f.price),none]=.ok (.nx [some (aB CR CP w.rows w.o),some (.tup [.lst (w.fl.map flD),.lst (w.cs.map stD),.lst (w.qs.map stD)]),some (.int x),some (.lst (w.fl.map flD)),some (.lst (w.cs.map stD)),some (.lst (w.qs.map stD)),some (aF w.rows),some (.int f.kind),some (.int b),some (.int c),none,none,none,none,some (.int f.first),some (.int f.last),some (.int f.due),some (.int f.price),some (flD f')]))->∃v,uj w v/\bW CR CP n [aB CR CP w.rows w.o,.tup [.lst (w.fl.map flD),.lst (w.cs.map stD),.lst (w.qs.map stD)],.int x]=.ok (.tup [aB CR CP v.rows v.o,.tup [.lst (v.fl.map flD),.lst (v.cs.map stD),.lst (v.qs.map stD)]]):=fun f' hk hg h1 h2 hse=>by
     have hse:=hse (List.replicate 9 none) (by simp)
     obtain ⟨m1,m2,k1,k2,m3,k3,k4⟩:=E8 (w.fl.map flD) [flD f'] c (by simpa using hc) (by simp;omega) (by simp)
     rw [CH hc] at k4
     refine ⟨_,C0 hw hc (f:=f') (by rw [<- hf];exact hk) hg (by rw [<- hf];exact h1) (by rw [<- hf];exact h2),?_⟩
     dsimp only
     generalize (w.fl.set c f').map flD=FL at *
     have tail:∀ρ2,(aO (aD [] 18 (fL bQ (aa (af 7) (aa (f2 zw (af 14) (f2 ck (af 14) (fC (.int 3)))) (aa (af 15) (aa (af 16) (aa (af 17) aC))))))) (aO (bF CR CP n) (cQ (fL bQ (aa (af 0) (aa (fL bQ (aa (f2 fG (f2 fG (fSl fy (af 3) pf (kA (af 9))) (fL cB (aa (af 18) aC))) (fSl fy (af 3) (kA (f2 fG (af 9) (fC (.int 1)))) pf)) (aa (af 4) (aa (af 5) aC)))) aC)))))) ρ2=(aO (aO (aD [] 18 (fL bQ (aa (af 7) (aa (f2 zw (af 14) (f2 ck (af 14) (fC (.int 3)))) (aa (af 15) (aa (af 16) (aa (af 17) aC))))))) (bF CR CP n)) (cQ (fL bQ (aa (af 0) (aa (fL bQ (aa (f2 fG (f2 fG (fSl fy (af 3) pf (kA (af 9))) (fL cB (aa (af 18) aC))) (fSl fy (af 3) (kA (f2 fG (af 9) (fC (.int 1)))) pf)) (aa (af 4) (aa (af 5) aC)))) aC))))) ρ2:=fun ρ2=>by
      unfold aO
      cases (aD [] 18 (fL bQ (aa (af 7) (aa (f2 zw (af 14) (f2 ck (af 14) (fC (.int 3)))) (aa (af 15) (aa (af 16) (aa (af 17) aC))))))) ρ2 with
      |error z=>rfl
      |ok fl=>cases fl<;>rfl
     have last:(aO (aO (aD [] 18 (fL bQ (aa (af 7) (aa (f2 zw (af 14) (f2 ck (af 14) (fC (.int 3)))) (aa (af 15) (aa (af 16) (aa (af 17) aC))))))) (bF CR CP n)) (cQ (fL bQ (aa (af 0) (aa (fL bQ (aa (f2 fG (f2 fG (fSl fy (af 3) pf (kA (af 9))) (fL cB (aa (af 18) aC))) (fSl fy (af 3) (kA (f2 fG (af 9) (fC (.int 1)))) pf)) (aa (af 4) (aa (af 5) aC)))) aC))))) [some (aB CR CP w.rows w.o),some (.tup [.lst (w.fl.map flD),.lst (w.cs.map stD),.lst (w.qs.map stD)]),some (.int x),some (.lst (w.fl.map flD)),some (.lst (w.cs.map stD)),some (.lst (w.qs.map stD)),some (aF w.rows),some (.int f.kind),some (.int b),some (.int c),none,none,none,none,some (.int f.first),some (.int f.last),some (.int f.due),some (.int f.price),none]=.ok (.rt (.tup [aB CR CP w.rows w.o,.tup [.lst FL,.lst (w.cs.map stD),.lst (w.qs.map stD)]])):=by
      generalize hQ:(aO (aD [] 18 (fL bQ (aa (af 7) (aa (f2 zw (af 14) (f2 ck (af 14) (fC (.int 3)))) (aa (af 15) (aa (af 16) (aa (af 17) aC))))))) (bF CR CP n))=Q at hse
      simp [hse,k1,k2,k3,k4]
     have g2:∀ρ2,(aO (aD [] 9 (f2 jA (f2 ck (af 2) (fC (.int 8))) (fL qi (aa (af 3) aC)))) (aO (sC [] (.tp [7,14,15,16,17]) (f2 ixD (af 3) (af 9))) ρ2)) [some (aB CR CP w.rows w.o),some (.tup [.lst (w.fl.map flD),.lst (w.cs.map stD),.lst (w.qs.map stD)]),some (.int x),some (.lst (w.fl.map flD)),some (.lst (w.cs.map stD)),some (.lst (w.qs.map stD)),some (aF w.rows),some (.int a),some (.int b),none,none,none,none,none,none,none,none,none,none]=ρ2 [some (aB CR CP w.rows w.o),some (.tup [.lst (w.fl.map flD),.lst (w.cs.map stD),.lst (w.qs.map stD)]),some (.int x),some (.lst (w.fl.map flD)),some (.lst (w.cs.map stD)),some (.lst (w.qs.map stD)),some (aF w.rows),some (.int f.kind),some (.int b),some (.int c),none,none,none,none,some (.int f.first),some (.int f.last),some (.int f.due),some (.int f.price),none]:=fun ρ2=>by
      simp [n4 hfp',ec,eq]
     have g3:=g2 (aO (aD [] 18 (fL bQ (aa (af 7) (aa (f2 zw (af 14) (f2 ck (af 14) (fC (.int 3)))) (aa (af 15) (aa (af 16) (aa (af 17) aC))))))) (aO (bF CR CP n) (cQ (fL bQ (aa (af 0) (aa (fL bQ (aa (f2 fG (f2 fG (fSl fy (af 3) pf (kA (af 9))) (fL cB (aa (af 18) aC))) (fSl fy (af 3) (kA (f2 fG (af 9) (fC (.int 1)))) pf)) (aa (af 4) (aa (af 5) aC)))) aC))))))
     rw [tail,last] at g3
     generalize hR:(aO (aD [] 9 (f2 jA (f2 ck (af 2) (fC (.int 8))) (fL qi (aa (af 3) aC)))) _)=R at g3
     unfold bW gS
     rw [hR]
     simp [eg,hlen,n4 hkp,ea,eb,e1,e2,mx,ef,g3]
    by_cases c4:x%2=1
    ·have hmz:=xf 1000000000 (f.last+x/512%1000)
     refine fin ⟨f.kind,f.first,ll 1000000000 (f.last+x/512%1000),f.due,f.price⟩ rfl ⟨gf.k0,gf.k1,gf.f0,by show f.first<=ll 1000000000 (f.last+x/512%1000);omega,by show ll 1000000000 (f.last+x/512%1000)<=1000000000;omega,gf.d0,gf.d1,gf.p0,gf.p1⟩ (Int.le_refl _) (by show f.last<=ll 1000000000 (f.last+x/512%1000);omega) fun r hr=>?_
     simp [bF,c4,flD]
    ·refine fin ⟨f.kind,f.first-f.first/3,f.last,f.due,f.price⟩ rfl ⟨gf.k0,gf.k1,by show 0<=f.first-f.first/3;omega,by show f.first-f.first/3<=f.last;omega,gf.l1,gf.d0,gf.d1,gf.p0,gf.p1⟩ (by show f.first-f.first/3<=f.first;omega) (Int.le_refl _) fun r hr=>?_
     simp [bF,c4,flD]
end
theorem Ed {w:Wo} (hw:w.Good) {ts:List Int}:∀{r:List Nat} {i:Nat},i<w.qs.length->IsCh w ts i r->(r.reverse++[i]).getD 0 0<w.qs.length/\tAt ts ((r.reverse++[i]).getD 0 0)<=tAt ts i
 |[],i,hi,_=>⟨by simpa using hi,by simp⟩
 |j::r,i,hi,⟨h1,h2,h3,h4⟩=>by
  obtain ⟨a,b⟩:=Ed hw (r:=r) (i:=j) (by omega) h4
  have e:((j::r).reverse++[i]).getD 0 0=(r.reverse++[j]).getD 0 0:=by
   rw [List.reverse_cons,List.append_assoc]
   cases hr:r.reverse with
   |nil=>rfl
   |cons x xs=>rfl
  rw [e]
  have:=hw.ap0 (j:=j) (i:=i) (by omega) hi
  exact ⟨a,by omega⟩
theorem getLast' (c:List Dat) (d:Dat):kh (c++[d]) (-1)=.ok d:=by
 unfold kh atI
 rw [show (c++[d]).length=c.length+1 by simp,xj]
 simp
theorem getFirst {c:List Nat} (h:c≠[]):kh (c.map fun j:Nat=>Dat.int j) 0=.ok (.int (c.getD 0 0:Nat)):=by
 cases c with
 |nil=>exact absurd rfl h
 |cons a b=>simp
theorem str_ne (s:Str) (h:(s==("gap":Str))=false):eqM (.str s) (.str "gap")=.ok (.bl false):=by
 unfold eqM
 rw [if_pos (by simp [okE])]
 simp only [eqD]
 rw [h]
section
variable (CR CP:Addr)
theorem yS (n:Nat) (hn:64<=n) (hne:CR≠CP) {w:Wo} (hw:w.Good) {ts:List Int} (hl:w.rm ts) {i:Nat} (hi:i<w.qs.length) (z5:Option Dat):∃y5,
  iU CR CP n [some (aB CR CP w.rows w.o),some (.tup [.lst (w.fl.map flD),.lst (w.cs.map stD),.lst (w.qs.map stD)]),some (.lst (ts.map .int)),some (.lst ((List.range w.qs.length).map (f9 w ts))),some (.int (i:Int)),z5]=.ok (.nx [some (aB CR CP w.rows w.o),some (.tup [.lst (w.fl.map flD),.lst (w.cs.map stD),.lst (w.qs.map stD)]),some (.lst (ts.map .int)),some (.lst ((List.range w.qs.length).map (f9 w ts))),some (.int (i:Int)),y5]):=by
 have ep:=yq CR CP n hne hw hl
 obtain ⟨r,hc,hr⟩:=ch_ex w ts (i+1) i (by omega)
 have ec:=chain_ok CR CP n hn hw hl ep hi hc hr
 obtain ⟨_,hg,_⟩:=Be hc
 obtain ⟨f1,f2⟩:=Ed hw hi hc
 obtain ⟨_,s,rr,es,hs⟩:=Bf hl f1 hg
 obtain ⟨c0,hc0⟩:∃c0:Nat,c0=(r.reverse++[i]).getD 0 0:=⟨_,rfl⟩
 rw [<- hc0] at f1 f2 es
 have g1:kh ((r.reverse++[i]).map fun j:Nat=>Dat.int j) (-1)=.ok (.int (i:Int)):=by
  rw [List.map_append]
  exact getLast' _ _
 have g2:kh ((r.reverse++[i]).map fun j:Nat=>Dat.int j) 0=.ok (.int (c0:Int)):=by
  rw [hc0]
  exact getFirst (by simp)
 have g3:=getP (w:=w) (ts:=ts) f1
 rw [es] at g3
 have hts:=hl.1
 have g4:=Ci (ts:=ts) (i:=c0) (by omega)
 have g5:=Ci (ts:=ts) (i:=i) (by omega)
 have g6:=str_ne s hs
 have g7:¬tAt ts i<tAt ts c0:=by omega
 have g8:neM (.int (i:Int)) (.int (i:Int))=.ok (.bl false):=by simp [neM,okE,eqD]
 generalize (r.reverse++[i]).map (fun j:Nat=>Dat.int j)=cd at ec g1 g2
 generalize (List.range w.qs.length).map (f9 w ts)=ps at g3 ⊢
 refine ⟨some (.lst cd),?_⟩
 simp [iU,ec,nc,g1,g2,g3,g4,g5,g6,g7,g8]
theorem ends_ok (n:Nat) (hn:64<=n) (hne:CR≠CP) {w:Wo} (hw:w.Good) {ts:List Int} (hl:w.rm ts) (hp:0<w.qs.length) :
  eP CR CP n [aB CR CP w.rows w.o,.tup [.lst (w.fl.map flD),.lst (w.cs.map stD),.lst (w.qs.map stD)],.lst (ts.map .int)]=.ok (.bl true):=by
 have ep:=yq CR CP n hne hw hl
 have hts:=hl.1
 obtain ⟨y,t1⟩:=yS CR CP n hn hne hw hl (i:=0) hp none
 obtain ⟨y',t2⟩:=yS CR CP n hn hne hw hl (i:=w.qs.length-1) (by omega) y
 rw [show ((w.qs.length-1:Nat):Int)=(w.qs.length:Int)-1 by omega] at t2
 simp only [Int.natCast_zero,Int.cast_ofNat_Int] at t1
 generalize (List.range w.qs.length).map (f9 w ts)=ps at ep t1 t2
 simp [eP,kN,ep,hts,nj,t1,t2]
theorem vZ (ts us:List Int):∀ks:List Nat,(∀k∈ks,k<ts.length/\k<us.length/\tAt ts k<=tAt us k)->b8 (.nm 0) (fB (f2 gtD (f2 ixD (af 1) (af 0)) (f2 ixD (af 2) (af 0)))) (af 0) [none,some (.lst (ts.map .int)),some (.lst (us.map .int))] (ks.map fun k:Nat=>Dat.int (k:Int))=.ok []
 |[],_=>rfl
 |k::ks,h=>by
  have ih:=vZ ts us ks fun x hx=>h x (by simp [hx])
  obtain ⟨h1,h2,h3⟩:=h k (by simp)
  have g1:=Ci h1
  have g2:=Ci h2
  have g3:¬tAt us k<tAt ts k:=by omega
  rw [List.map_cons,b8]
  simp [g1,g2,g3,ih]
theorem zR (n:Nat) {w:Wo} (hw:w.Good) {ts us:List Int} (h1:ts.length=w.qs.length) (h2:us.length=w.qs.length) (hle:∀i,i<w.qs.length->tAt ts i<=tAt us i):eN CR CP n [.lst (w.fl.map flD),.lst (w.qs.map stD),.lst (ts.map .int),.lst (us.map .int)]=.ok (.bl true):=by
 have hq:=hw.qsl
 have hf:=hw.fll
 have c1:=xE CR CP n w.k w.fl hw.fl w.qs ts hw.qs (by omega)
 have c2:=xE CR CP n w.k w.fl hw.fl w.qs us hw.qs (by omega)
 have hm:=wd w.k w.fl hw.fl w.qs ts us hw.qs h1 h2 hle
 have ec:=vZ ts us (List.range ts.length) fun k hk=>by have:=List.mem_range.mp hk;exact ⟨this,by omega,hle k (by omega)⟩
 have er:aU 0 ts.length=(List.range ts.length).map fun k:Nat=>Dat.int (k:Int):=by
  unfold aU
  exact List.map_congr_left fun k _=>by simp
 rw [<- er] at ec
 have k1: -4611686018427387904<=(ts.length:Int):=by omega
 have k2:(ts.length:Int)<4611686018427387904:=by omega
 have s1:(aU 0 ts.length).length<=16777216:=by rw [bZ];omega
 have g0:neM (.lst []) (.lst [])=.ok (.bl false):=by simp [neM,okE,kg,eqD,B7]
 have g8:neM (.int (ts.length:Int)) (.int (us.length:Int))=.ok (.bl false):=by rw [h1,h2];simp [neM,okE,eqD]
 simp [eN,kM,n9,g8,k1,k2,ec,s1,g0,c1,c2,hm]
end
noncomputable def Fli.free (f:Fli):Fli:=⟨f.kind,f.first,f.last,f.due,0⟩
theorem Dt (f:Fli) (t:Int):Cg f.free t=0:=by unfold Cg Fli.free;simp
theorem za {fl:List Fli} {k:Nat} (hk:k<fl.length) (g:Fli):∀(qs:List d8) (ts:List Int),(∀p∈qs,0<=p.1)->(k:Int)∉qs.map (·.1)->nW (fl.set k g) qs ts=nW fl qs ts
 |[],_,_,_=>by simp [nW]
 |p::qs,[],_,_=>by simp [nW]
 |p::qs,t::ts,h0,hn=>by
  simp only [nW]
  rw [za hk g qs ts (fun q hq=>h0 q (by simp [hq])) (fun z=>hn (by simp [z])),uv hk,if_neg]
  intro z
  have:=h0 p (by simp)
  exact hn (by simp;left;omega)
theorem we {fl:List Fli} {k:Nat} (hk:k<fl.length):∀(qs:List d8) (ts:List Int) (p:Nat),(∀p∈qs,0<=p.1)->(qs.map (·.1)).Nodup->ts.length=qs.length->p<qs.length->(qAt qs p).1=(k:Int)->(nW (fl.set k (mV fl k).free) qs ts).sum=(nW fl qs ts).sum-Cg (mV fl k) (tAt ts p)
 |[],_,p,_,_,_,h,_=>by simp at h
 |q::qs,[],p,_,_,h,_,_=>by simp at h
 |q::qs,t::ts,p,h0,hn,hl,hp,he=>by
  rw [List.map_cons,List.nodup_cons] at hn
  simp only [nW,List.sum_cons]
  cases p with
  |zero=>
   have e:q.1=(k:Int):=he
   have hko:(k:Int)∉qs.map (·.1):=by rw [<- e];exact hn.1
   rw [za hk _ qs ts (fun x hx=>h0 x (by simp [hx])) hko,uv hk,if_pos (by omega),Dt,e]
   show _=_-Cg (mV fl (k:Int)) t
   omega
  |succ p=>
   have hp':p<qs.length:=by simpa using hp
   have he':(qAt qs p).1=(k:Int):=he
   have ih:=we hk qs ts p (fun x hx=>h0 x (by simp [hx])) hn.2 (by simpa using hl) hp' he'
   have hm:(qAt qs p).1∈qs.map (·.1):=List.mem_map_of_mem (hU hp')
   have hne:¬q.1.toNat=k:=fun z=>by
    have:=h0 q (by simp)
    exact hn.1 (by rw [show q.1=(k:Int) by omega,<- he'];exact hm)
   rw [ih,uv hk,if_neg hne]
   show _=_-Cg (mV fl (k:Int)) (tAt ts p)
   omega
theorem Bc (z0 z1:Option Dat):∀qs:List d8,b8 (.tp [0,1]) sq (af 0) [z0,z1] (qs.map stD)=.ok ((qs.map (·.1)).map .int)
 |[]=>rfl
 |p::qs=>by
  have ih:=Bc z0 z1 qs
  rw [List.map_cons,b8]
  simp [stD,ih]
noncomputable def pw (w:Wo):Dat:=.tup [.lst (w.fl.map flD),.lst (w.cs.map stD),.lst (w.qs.map stD)]
section
variable (CR CP:Addr)
theorem DZ (n:Nat) (hn:64<=n) (hne:CR≠CP) {w:Wo} (hw:w.Good) {ts:List Int} (hl:w.rm ts) (ns:List Int) (k:Nat) (hk:k<=100) (a1 a2 a3 a4 z9:Option Dat) (r:List (Option Dat)) (hr:r=[none,none,none,none,none,none,none,none]):∃(v:Wo) (us:List Int) (y9:Option Dat),uj w v/\v.rm us /\
  vm CR CP n ([some (.lst (ns.map .int)),a1,a2,a3,a4,some (aB CR CP w.rows w.o),some (pw w),some (.lst (ts.map .int)),some (.int (k:Int)),z9]++r)=.ok (.nx ([some (.lst (ns.map .int)),a1,a2,a3,a4,some (aB CR CP v.rows v.o),some (pw v),some (.lst (us.map .int)),some (.int (k:Int)),y9]++r)):=by
 subst hr
 obtain ⟨x,hx,ex⟩:=pick_ok CR CP n ns k hk
 obtain ⟨v,hv,ev⟩:=eased_ok CR CP n hne hw x hx
 have hts:=hl.1
 have hkp:=hv.keeps hl.keeps
 obtain ⟨b,eb,hb⟩:=keeps_ok CR CP n hne hv.good ts (by rw [hv.qs];exact hts)
 rw [hb.mpr hkp] at eb
 obtain ⟨us,hu,hle⟩:=least_of CR CP n hv.good hkp
 have et:=wD CR CP n hne hv.good hu
 have hus:=hu.1
 have hno:=zR CR CP n hv.good (ts:=us) (us:=ts) hus (by rw [hv.qs];exact hts) hle
 refine ⟨v,us,some (.lst (ts.map .int)),hv,hu,?_⟩
 by_cases hp:0<v.qs.length
 ·have he:=ends_ok CR CP n hn hne hv.good hu hp
  have hp2:(0:Int)<us.length:=by omega
  simp [vm,pw,ex,ev,Ac,eb,notBD,et,Aa,hno,A9,hp2,he]
 ·have hp2:¬0<us.length:=by omega
  simp [vm,pw,ex,ev,Ac,eb,notBD,et,Aa,hno,A9,hp2]
theorem DM (n:Nat) {w:Wo} (hw:w.Good) {ts:List Int} (hl:w.rm ts) (hperm:(w.qs.map (·.1)).Perm ((List.range w.fl.length).map fun k:Nat=>(k:Int))) (k:Nat) (hk:k<w.fl.length) (a0 a1 a2 a3 a4 a5 a9 z11 z12 z13 z14 z15 z16 z17:Option Dat):∃y11 y12 y13 y14 y15 y16 y17:Option Dat,
  xJ CR CP n [a0,a1,a2,a3,a4,a5,some (pw w),some (.lst (ts.map .int)),some (.int (k:Int)),a9,some (.int (nW w.fl w.qs ts).sum),z11,z12,z13,z14,z15,z16,z17]=.ok (.nx [a0,a1,a2,a3,a4,a5,some (pw w),some (.lst (ts.map .int)),some (.int (k:Int)),a9,some (.int (nW w.fl w.qs ts).sum),y11,y12,y13,y14,y15,y16,y17]):=by
 have hq:=hw.qsl
 have hf:=hw.fll
 have hts:=hl.1
 obtain ⟨ef,hm⟩:=BS (fl:=w.fl) (i:=(k:Int)) (by omega) (by omega)
 have gf:=hw.fl _ hm
 have hnd:(w.qs.map (·.1)).Nodup:=hperm.nodup_iff.mpr (by
  rw [List.Nodup,List.pairwise_map]
  exact List.nodup_range.imp fun h=>by omega)
 have hin:(k:Int)∈w.qs.map (·.1):=hperm.mem_iff.mpr (List.mem_map.mpr ⟨k,List.mem_range.mpr hk,rfl⟩)
 obtain ⟨p,ep⟩:∃p,vv (w.qs.map (·.1)) (k:Int)=some p:=by
  cases h:vv (w.qs.map (·.1)) (k:Int) with
  |none=>exact absurd hin (xo h)
  |some p=>exact ⟨p,rfl⟩
 obtain ⟨p1,p2,_⟩:=xn ep
 rw [List.length_map] at p1
 have hqp:(qAt w.qs p).1=(k:Int):=by
  rw [<- p2]
  unfold tAt qAt
  simp [List.getD_eq_getElem?_getD,p1]
 obtain ⟨m1,m2,k1,k2,m3,k3,k4⟩:=E8 (w.fl.map flD) [flD (mV w.fl k).free] k (by simpa using hk) (by simp;omega) (by simp)
 rw [CH hk] at k4
 have hgf:∀f∈w.fl.set k (mV w.fl k).free,nh w.k f:=fun f hf'=>by
  rcases List.mem_or_eq_of_mem_set hf' with z|z
  ·exact hw.fl f z
  ·rw [z]
   exact ⟨gf.k0,gf.k1,gf.f0,gf.f1,gf.l1,gf.d0,gf.d1,Int.le_refl _,by show (0:Int)<=1000000000;omega⟩
 have c1:=xE CR CP n w.k (w.fl.set k (mV w.fl k).free) hgf w.qs ts (by rw [List.length_set];exact hw.qs) (by omega)
 rw [we hk w.qs ts p (fun q hq'=>(hw.qs q hq').1) hnd hts p1 hqp] at c1
 have gt:=Ci (ts:=ts) (i:=p) (by omega)
 have el:=Ds CR CP n (mV w.fl k) (tAt ts p) gf.p0 gf.p1
 have ec:=Bc none none w.qs
 have s1:w.qs.length<=16777216:=by omega
 have ei:tQ (.lst ((w.qs.map (·.1)).map .int)) (.int (k:Int))=.ok (.int (p:Int)):=by
  simp [tQ,ep,-List.map_map]
 have hne:∀z:Int,neM (.int z) (.int z)=.ok (.bl false):=fun z=>by simp [neM,okE,eqD]
 generalize (w.fl.set k (mV w.fl k).free).map flD=FL at k4 c1
 simp only [flD,Fli.free] at ef k3 el
 refine ⟨some (.int (mV w.fl k).kind),some (.int (mV w.fl k).first),some (.int (mV w.fl k).last),some (.int (mV w.fl k).due),some (.int (mV w.fl k).price),some (.lst FL),some (.int (p:Int)),?_⟩
 simp [xJ,pw,ef,k1,k2,k3,k4,rO,ec,s1,isL,ei,Ek,c1,gt,el,hne,-List.map_map]
theorem law_true (hne:CR≠CP):∀ns:List Int,ns.length<=63->∃n,Dk CR CP n [.lst (ns.map .int)]=.ok (.bl true):=by
 intro ns hns
 refine ⟨64,?_⟩
 obtain ⟨w,hw,es,em,hperm⟩:=state_ok CR CP 64 (Nat.le_refl _) ns hns
 rcases least_ok CR CP 64 (Nat.le_refl _) hw with ⟨ts,hl,el⟩|⟨i,ts,t,hi,h1,h2,h3,h4,el⟩
 ·have et:=wD CR CP 64 hne hw hl
  obtain ⟨ρ',e,w',ts',y8,y9,rfl,hw',hl',hp'⟩:=cR (p:=.nm 8) (g:=vm CR CP 64)
   (fun i ρ=>∃(w':Wo) (ts':List Int) (z8 z9:Option Dat),ρ=[some (.lst (ns.map .int)),some w.ruD,some (.lst (w.fl.map flD)),some (.lst (w.cs.map stD)),some (.lst (w.qs.map stD)),some (aB CR CP w'.rows w'.o),some (pw w'),some (.lst (ts'.map .int)),z8,z9,none,none,none,none,none,none,none,none]/\w'.Good/\w'.rm ts'/\(w'.qs.map (·.1)).Perm ((List.range w'.fl.length).map fun k:Nat=>(k:Int))) (aU 0 6) 0 [some (.lst (ns.map .int)),some w.ruD,some (.lst (w.fl.map flD)),some (.lst (w.cs.map stD)),some (.lst (w.qs.map stD)),some (aB CR CP w.rows w.o),some (pw w),some (.lst (ts.map .int)),none,none,none,none,none,none,none,none,none,none] ⟨w,ts,none,none,rfl,hw,hl,hperm⟩ (by
   rintro i d ρ hd ⟨w',ts',z8,z9,rfl,hw',hl',hp'⟩
   obtain ⟨hi,rfl⟩:=bK hd
   obtain ⟨v,us,y9,hv,hu,et⟩:=DZ CR CP 64 (Nat.le_refl _) hne hw' hl' ns i (by omega) (some w.ruD) (some (.lst (w.fl.map flD))) (some (.lst (w.cs.map stD))) (some (.lst (w.qs.map stD))) z9 _ rfl
   exact ⟨_,rfl,_,.inl et,v,us,_,_,rfl,hv.good,hu,by rw [hv.qs,hv.len];exact hp'⟩)
  have hq':=hw'.qsl
  have hf':=hw'.fll
  have ec:=xE CR CP 64 w'.k w'.fl hw'.fl w'.qs ts' hw'.qs (by omega)
  obtain ⟨ρ2,e2,_⟩:=cR (p:=.nm 8) (g:=xJ CR CP 64)
   (fun i ρ=>∃(z8 z11 z12 z13 z14 z15 z16 z17:Option Dat),ρ=[some (.lst (ns.map .int)),some w.ruD,some (.lst (w.fl.map flD)),some (.lst (w.cs.map stD)),some (.lst (w.qs.map stD)),some (aB CR CP w'.rows w'.o),some (pw w'),some (.lst (ts'.map .int)),z8,y9,some (.int (nW w'.fl w'.qs ts').sum),z11,z12,z13,z14,z15,z16,z17]) (aU 0 w'.fl.length) 0 _ ⟨y8,none,none,none,none,none,none,none,rfl⟩ (by
   rintro i d ρ hd ⟨z8,z11,z12,z13,z14,z15,z16,z17,rfl⟩
   obtain ⟨hi,rfl⟩:=bK hd
   obtain ⟨y11,y12,y13,y14,y15,y16,y17,et⟩:=DM CR CP 64 hw' hl' hp' i hi (some (.lst (ns.map .int))) (some w.ruD) (some (.lst (w.fl.map flD))) (some (.lst (w.cs.map stD))) (some (.lst (w.qs.map stD))) (some (aB CR CP w'.rows w'.o)) y9 z11 z12 z13 z14 z15 z16 z17
   exact ⟨_,rfl,_,.inl et,_,_,_,_,_,_,_,_,rfl⟩)
  have k1: -4611686018427387904<=(w'.fl.length:Int):=by omega
  have k2:(w'.fl.length:Int)<4611686018427387904:=by omega
  unfold pw at e e2
  simp [Dk,g_law,es,em,Ad,el,mT,et,e,ec,k1,k2,e2]
 ·simp [Dk,g_law,es,em,Ad,el,mT]
end
theorem fin_mk {P:Program} {w:World} {K:PySem.W.Frag} {mg:Str->Option Value} {st:Stmt} {ps:List Str} {f:Addr} {fd:FuncData} {k:Nat} (_:Def K mg "law" st ps f fd) (hb:∀(s:Shared) (v:Value),BindsTo s fd ⟨[v],[]⟩ [("_law_script",v)]) (h:∀base:Heap,cz P w K mg base CX0 k f fd ["_law_script"] (Bw K)):∃fd:FuncData,(∀(s:Shared) (v:Value),BindsTo s fd ⟨[v],[]⟩ [("_law_script",v)])/\∀base:Heap,K.In base->base.Ns mainGlobals mg->cz P w K mg base CX0 k f fd ["_law_script"] (Bw K):=⟨fd,hb,fun base _ _=>h base⟩
theorem all_mk {l:PySem.W.OpenLaw} {w:World} {K:PySem.W.Frag} {h:Heap} {mg:Str->Option Value} {fa CR CP bD bX aQ aX bf BY DR f_nP:Addr} {vE vL xa xM sO tI sN tH u9 uf od_law an_law od_nR an_nR od_nP an_nP:Option Addr} {vx wI sx sv tX sl_law sl_nR sl_nP:Array (Option Value)} {vF vG vJ vz qv vK xb xh xB wQ rX xC sQ sT tw sF n6 tB sP sS tu sE n5 tx ua uc ud u0 oI ue oc_law kV_law dc_law pm_law cd_law ct_law oc_nR kV_nR dc_nR pm_nR cd_nR ct_nR oc_nP kV_nP dc_nP pm_nP cd_nP ct_nP:Value} {vw ye:Tok} (KX:K.In h) (G:h.Ns mainGlobals mg) (hfa:mg "law"=some (.ref fa))
  (En:nsIn K mainGlobals "Rules"=some (some (.ref CR)))
  (Ah:PySem.W.plainGet K CR Str.empty=true)
  (Ak:PySem.W.hasDictIn K CR=true)
  (Ag:plainOver K CR=true)
  (Af:PySem.W.findIn K (.ref CR) "__setattr__"=some (some (.builtin "object.__setattr__")))
  (Ai:PySem.W.makesIn K CR=true)
  (Aj:keepIn K (.ref CR)=true)
  (Am:PySem.W.findIn K (.ref CR) "__class__"=some (some (.builtin "object.__class__")))
  (Al:PySem.W.mroIn K CR (.type "object")=some true)
  (rD:PySem.W.findIn K (.ref CR) "gaps"=some none)
  (uN:PySem.W.findIn K (.ref CR) "beside"=some none)
  (Eo:nsIn K mainGlobals "Pair"=some (some (.ref CP)))
  (Ap:PySem.W.plainGet K CP Str.empty=true)
  (As:PySem.W.hasDictIn K CP=true)
  (Ao:plainOver K CP=true)
  (An:PySem.W.findIn K (.ref CP) "__setattr__"=some (some (.builtin "object.__setattr__")))
  (Aq:PySem.W.makesIn K CP=true)
  (Ar:keepIn K (.ref CP)=true)
  (Av:PySem.W.findIn K (.ref CP) "__class__"=some (some (.builtin "object.__class__")))
  (Au:PySem.W.mroIn K CP (.type "object")=some true)
  (pj:PySem.W.findIn K (.ref CP) "gaps"=some none)
  (nC:PySem.W.findIn K (.ref CP) "beside"=some none)
  (o2:specialIn K (.builtin "object.__class__") "__get__"=some (some (.builtin "getset_descriptor.__get__")))
  (o3:takesIn K (.builtin "object.__class__")=some true)
  (x_ne:CR≠CP)
  (qQ:∃f fd,Def K mg "_law_draw" cN ["_law_script","_law_k"] f fd)
  (pI:∃f fd,Def K mg "_law_scale" lD ["_law_script"] f fd)
  (qO:∃f fd,Def K mg "_law_gaps" ny ["_law_script","_law_by","_law_kinds","_law_scale_here"] f fd)
  (kH:∃f fd,Def K mg "_law_rules_of" gY ["_law_script","_law_scale_here"] f fd)
  (mm:∃f fd,Def K mg "_law_flights" iZ ["_law_script","_law_rules","_law_most","_law_scale_here"] f fd)
  (i0:∃f fd,Def K mg "_law_free_closed" dR ["_law_cell","_law_many"] f fd)
  (qK:∃f fd,Def K mg "_law_rows" nr ["_law_cell","_law_kinds"] f fd)
  (hZ:∃f fd,Def K mg "_law_free_flight" dQ ["_law_cell","_law_kinds"] f fd)
  (jH:∃f fd,Def K mg "_law_free_plan" gk ["_law_cell","_law_many","_law_strips"] f fd)
  (qP:∃f fd,Def K mg "_law_free" nz ["_law_script","_law_most"] f fd)
  (nK:∃f fd,Def K mg "_law_closed" jU ["_law_script","_law_scale_here"] f fd)
  (qL:∃f fd,Def K mg "_law_plan" nt ["_law_script","_law_rules","_law_flights_here"] f fd)
  (pH:∃f fd,Def K mg "_law_state" lC ["_law_script","_law_most"] f fd)
  (nJ:∃f fd,Def K mg "copied_rows" dc ["rows"] f fd)
  (xp:∃f fd,Def K mg "is_gap" uk ["number"] f fd)
  (pG:∃f fd,Def K mg "is_gap_row" lB ["row","kinds"] f fd)
  (ml:∃f fd,Def K mg "checked_rows" fP ["rows"] f fd)
  (qN:∃f fd,Def K mg "_law_made" nv ["_law_rules"] f fd)
  (sW:∃f fd,Def K mg "spots_of" kf ["flights","plan"] f fd)
  (hX:∃f fd,Def K mg "joined_stretches" dP ["closed"] f fd)
  (qH:∃f fd,Def K mg "next_open" nq ["closed","time"] f fd)
  (oh:PySem.W.findIn K (.ref CR) "apart"=some (some (.ref bD)))
  (nI:PySem.W.isFn K (.ref bD)=true)
  (nG:K.lookup bD=some ⟨vF,vE,.func (fnOf "apart" "Rules.apart" (dO dg) (cO dg) (ar dg) .none vG vJ vz vL qv vK),vx⟩)
  (nV:codeIn K qv "Rules.apart"=true)
  (nH:keepIn K (.ref bD)=true)
  (pZ:PySem.W.findIn K (.ref CP) "apart"=some (some (.ref bX)))
  (pE:PySem.W.isFn K (.ref bX)=true)
  (pz:K.lookup bX=some ⟨xb,xa,.func (fnOf "apart" "Pair.apart" (dO eD) (cO eD) (ar eD) .none xh xB wQ xM rX xC),wI⟩)
  (pV:codeIn K rX "Pair.apart"=true)
  (pA:keepIn K (.ref bX)=true)
  (qJ:∃f fd,Def K mg "gap_times" iJ ["rules","spots","times","place"] f fd)
  (sV:∃f fd,Def K mg "times_of" mG ["rules","flights","closed","plan"] f fd)
  (qI:∃f fd,Def K mg "late_cost" kl ["flight","time"] f fd)
  (uZ:∃f fd,Def K mg "cost_of" oZ ["flights","plan","times"] f fd)
  (jG:∃f fd,Def K mg "_law_open_from" gh ["_law_closed_here","_law_time"] f fd)
  (pL:∃f fd,Def K mg "_law_apart" lG ["_law_rules","_law_flights_here","_law_one","_law_other"] f fd)
  (pJ:∃f fd,Def K mg "_law_least" lE ["_law_rules","_law_flights_here","_law_closed_here","_law_plan_here"] f fd)
  (jP:PySem.W.findIn K (.ref CR) "gap_rows"=some (some (.ref aQ)))
  (gp:PySem.W.isFn K (.ref aQ)=true)
  (gm:K.lookup aQ=some ⟨sQ,sO,.func (fnOf "gap_rows" "Rules.gap_rows" (dO bg) (cO bg) (ar bg) .none sT tw sF tI n6 tB),sx⟩)
  (gq:codeIn K n6 "Rules.gap_rows"=true)
  (gn:keepIn K (.ref aQ)=true)
  (kG:∃f fd,Def K mg "rows_with_gap" eC ["rows","kind","other","gap"] f fd)
  (jO:PySem.W.findIn K (.ref CR) "with_gap"=some (some (.ref aX)))
  (jF:PySem.W.isFn K (.ref aX)=true)
  (jD:K.lookup aX=some ⟨sP,sN,.func (fnOf "with_gap" "Rules.with_gap" (dO bP) (cO bP) (ar bP) .none sS tu sE tH n5 tx),sv⟩)
  (jN:codeIn K n5 "Rules.with_gap"=true)
  (jE:keepIn K (.ref aX)=true)
  (l9:PySem.W.findIn K (.ref CP) "with_gap"=some (some (.ref bf)))
  (kF:PySem.W.isFn K (.ref bf)=true)
  (kC:K.lookup bf=some ⟨ua,u9,.func (fnOf "with_gap" "Pair.with_gap" (dO c9) (cO c9) (ar c9) .none uc ud u0 uf oI ue),tX⟩)
  (l7:codeIn K oI "Pair.with_gap"=true)
  (kD:keepIn K (.ref bf)=true)
  (pK:∃f fd,Def K mg "_law_eased" lF ["_law_made_here","_law_lists","_law_number"] f fd)
  (qM:∃f fd,Def K mg "_law_pick" nu ["_law_script","_law_k"] f fd)
  (uY:∃f fd,Def K mg "is_open" rA ["closed","time"] f fd)
  (mj:∃f fd,Def K mg "keeps_window" iY ["flight","closed","time"] f fd)
  (pF:∃f fd,Def K mg "keeps_plan" lA ["rules","flights","closed","plan","times"] f fd)
  (kI:∃f fd,Def K mg "_law_no_later" gZ ["_law_flights_here","_law_plan_here","_law_times","_law_before"] f fd)
  (uX:∃f fd,Def K mg "push_of" rz ["flight","closed","gaps","time"] f fd)
  (qG:∃f fd,Def K mg "pushes_of" kj ["rules","flights","closed","plan"] f fd)
  (sX:∃f fd,Def K mg "is_place" qf ["flights","place"] f fd)
  (sY:∃f fd,Def K mg "chain_of" qg ["rules","flights","closed","plan","place"] f fd)
  (kJ:∃f fd,Def K mg "_law_ends_led" hG ["_law_made_here","_law_lists","_law_times"] f fd)
  (a_law:nsIn K mainGlobals "law"=some (some (.ref BY)))
  (l_law:K.lookup BY=some ⟨oc_law,od_law,.func (fnOf "law" "law" (dO BB) (cO BB) (ar BB) .none kV_law dc_law pm_law an_law cd_law ct_law),sl_law⟩)
  (d_law:codeIn K cd_law "law"=true)
  (k_law:keepIn K (.ref BY)=true)
  (oi:PySem.W.findIn K (.ref CP) "gap_rows"=some (some (.ref aQ)))
  (a_nR:PySem.W.findIn K (.ref CR) "__init__"=some (some (.ref DR)))
  (i_nR:PySem.W.isFn K (.ref DR)=true)
  (l_nR:K.lookup DR=some ⟨oc_nR,od_nR,.func (fnOf "__init__" "Rules.__init__" (dO s_nR) (cO s_nR) (ar s_nR) .none kV_nR dc_nR pm_nR an_nR cd_nR ct_nR),sl_nR⟩)
  (d_nR:codeIn K cd_nR "Rules.__init__"=true)
  (k_nR:keepIn K (.ref DR)=true)
  (a_nP:PySem.W.findIn K (.ref CP) "__init__"=some (some (.ref f_nP)))
  (i_nP:PySem.W.isFn K (.ref f_nP)=true)
  (l_nP:K.lookup f_nP=some ⟨oc_nP,od_nP,.func (fnOf "__init__" "Pair.__init__" (dO s_nP) (cO s_nP) (ar s_nP) .none kV_nP dc_nP pm_nP an_nP cd_nP ct_nP),sl_nP⟩)
  (d_nP:codeIn K cd_nP "Pair.__init__"=true)
  (k_nP:keepIn K (.ref f_nP)=true)
  (x_s1:specialIn K (.ref CR) "__getattribute__"=some (some (.builtin "type.__getattribute__")))
  (x_s2:PySem.W.readsIn K CR (.type "type")=true)
  (x_s3:PySem.W.findCls K (.ref CR) (.type "type") "__init__"=some (.val (.ref DR)))
  (Bq:nsIn K mainGlobals "all"=some none)
  (Bp:nsIn K mainGlobals "any"=some none)
  (xY:nsIn K mainGlobals "bool"=some none)
  (gE:nsIn K mainGlobals "enumerate"=some none)
  (zA:nsIn K mainGlobals "int"=some none)
  (cY:nsIn K mainGlobals "isinstance"=some none)
  (fH:nsIn K mainGlobals "len"=some none)
  (rp:nsIn K mainGlobals "list"=some none)
  (xX:nsIn K mainGlobals "max"=some none)
  (xW:nsIn K mainGlobals "min"=some none)
  (cL:nsIn K mainGlobals "range"=some none)
  (mD:nsIn K mainGlobals "reversed"=some none)
  (qe:nsIn K mainGlobals "sorted"=some none)
  (Cp:nsIn K mainGlobals "sum"=some none)
  (uB:nsIn K mainGlobals "tuple"=some none)
  (Co:nsIn K mainGlobals "zip"=some none)
  (fV:nsIn K mainGlobals "GREATEST_GAP"=some (some (.int 1000000 vw)))
  (jh:nsIn K mainGlobals "MOST_KINDS"=some (some (.int 6 ye)))
  (pe:kitOne K (.type "int") (.type "int")=some true)
  (mO:kitOne K (.type "bool") (.type "int")=some true)
  (mK:kitOne K (.type "list") (.type "int")=some false)
  (ko:kitOne K (.type "tuple") (.type "int")=some false)
  (p9:kitOne K (.type "str") (.type "int")=some false)
  (fS:kitOne K (.type "NoneType") (.type "int")=some false)
  (mM:kitOne K (.type "int") (.type "bool")=some false)
  (kz:kitOne K (.type "bool") (.type "bool")=some true)
  (ku:kitOne K (.type "list") (.type "bool")=some false)
  (jc:kitOne K (.type "tuple") (.type "bool")=some false)
  (mI:kitOne K (.type "str") (.type "bool")=some false)
  (eF:kitOne K (.type "NoneType") (.type "bool")=some false)
  (mL:kitOne K (.type "int") (.type "list")=some false)
  (ky:kitOne K (.type "bool") (.type "list")=some false)
  (kr:kitOne K (.type "list") (.type "list")=some true)
  (jb:kitOne K (.type "tuple") (.type "list")=some false)
  (mH:kitOne K (.type "str") (.type "list")=some false)
  (eE:kitOne K (.type "NoneType") (.type "list")=some false)
  (kx:kitOne K (.type "int") (.type "tuple")=some false)
  (jf:kitOne K (.type "bool") (.type "tuple")=some false)
  (jd:kitOne K (.type "list") (.type "tuple")=some false)
  (hI:kitOne K (.type "tuple") (.type "tuple")=some true)
  (kq:kitOne K (.type "str") (.type "tuple")=some false)
  (dz:kitOne K (.type "NoneType") (.type "tuple")=some false)
  (pb:kitOne K (.type "int") (.type "str")=some false)
  (mN:kitOne K (.type "bool") (.type "str")=some false)
  (mJ:kitOne K (.type "list") (.type "str")=some false)
  (kn:kitOne K (.type "tuple") (.type "str")=some false)
  (p8:kitOne K (.type "str") (.type "str")=some true)
  (fQ:kitOne K (.type "NoneType") (.type "str")=some false) :
  ∃fd:FuncData,(∀(s:Shared) (v:Value),BindsTo s fd ⟨[v],[]⟩ [("_law_script",v)])/\∀base:Heap,K.In base->base.Ns mainGlobals mg->cz l.prog w K mg base CX0 9 fa fd ["_law_script"] (Bw K):=by
 have e:=hfa.symm.trans (mg_of KX G a_law)
 cases e
 have K_CR:=kls_of (mg:=mg) KX G En Ah Ak Ag Af Ai Aj Am o2 o3 Al
 have K_CP:=kls_of (mg:=mg) KX G Eo Ap As Ao An Aq Ar Av o2 o3 Au
 obtain ⟨aW,aS,cP⟩:=qQ
 obtain ⟨ju,ib,m7⟩:=pI
 obtain ⟨l3,jn,oF⟩:=qO
 obtain ⟨eV,dD,iA⟩:=kH
 obtain ⟨fZ,eU,ja⟩:=mm
 obtain ⟨cK,cq,e9⟩:=i0
 obtain ⟨kW,jj,oA⟩:=qK
 obtain ⟨cJ,cn,e8⟩:=hZ
 obtain ⟨dI,cU,gB⟩:=jH
 obtain ⟨l4,jo,oG⟩:=qP
 obtain ⟨ik,fW,kc⟩:=nK
 obtain ⟨kY,jk,oB⟩:=qL
 obtain ⟨jt,ia,m6⟩:=pH
 obtain ⟨aZ,aT,bV⟩:=nJ
 obtain ⟨rM,pP,uz⟩:=xp
 obtain ⟨jr,i9,m5⟩:=pG
 obtain ⟨bC,bq,aR⟩:=ml
 obtain ⟨l0,jm,oE⟩:=qN
 obtain ⟨fq,dr,ki⟩:=sW
 obtain ⟨cI,cm,e6⟩:=hX
 obtain ⟨kT,ji,oz⟩:=qH
 have ke:=tO (C:=CR) (st:=dg) (ps:=["self","one","other"]) oh nI nG nV nH fun _ _ _ _ _ _ us hl=>match us,hl with|[_,_,_],_=>rfl
 have mf:=tO (C:=CP) (st:=eD) (ps:=["self","one","other"]) pZ pE pz pV pA fun _ _ _ _ _ _ us hl=>match us,hl with|[_,_,_],_=>rfl
 obtain ⟨dt,cH,iX⟩:=qJ
 obtain ⟨iQ,gH,ni⟩:=sV
 obtain ⟨gJ,eS,lh⟩:=qI
 obtain ⟨kU,iP,qc⟩:=uZ
 obtain ⟨dH,cT,gA⟩:=jG
 obtain ⟨jx,ig,md⟩:=pL
 obtain ⟨jv,ic,m8⟩:=pJ
 have gD:=tO (C:=CR) (st:=bg) (ps:=["self"]) jP gp gm gq gn fun _ _ _ _ _ _ us hl=>match us,hl with|[_],_=>rfl
 obtain ⟨cu,bR,f7⟩:=kG
 have gC:=tO (C:=CR) (st:=bP) (ps:=["self","kind","other","gap"]) jO jF jD jN jE fun _ _ _ _ _ _ us hl=>match us,hl with|[_,_,_,_],_=>rfl
 have iE:=tO (C:=CP) (st:=c9) (ps:=["self","kind","other","gap"]) l9 kF kC l7 kD fun _ _ _ _ _ _ us hl=>match us,hl with|[_,_,_,_],_=>rfl
 obtain ⟨jw,ie,m9⟩:=pK
 obtain ⟨kZ,jl,oC⟩:=qM
 obtain ⟨pR,mX,sk⟩:=uY
 obtain ⟨fY,eT,j9⟩:=mj
 obtain ⟨jq,i8,m4⟩:=pF
 obtain ⟨eW,dE,iB⟩:=kI
 obtain ⟨pQ,mW,sj⟩:=uX
 obtain ⟨gI,eR,lg⟩:=qG
 obtain ⟨mY,kQ,qo⟩:=sX
 obtain ⟨mZ,kS,qp⟩:=sY
 obtain ⟨eX,dF,iC⟩:=kJ
 have D_law:=bo (mg:=mg) (st:=BB) (ps:=["_law_script"]) KX G a_law l_law d_law k_law fun _ _ _ _ _ _ us hl=>match us,hl with|[_],_=>rfl
 have sh:=ke
 have si:=mf
 have lX:=gD
 have lZ:=tO (C:=CP) (st:=bg) (ps:=["self"]) oi gp gm gq gn fun _ _ _ _ _ _ us hl=>match us,hl with|[_],_=>rfl
 have lW:=gC
 have lY:=iE
 have N_R:=tO (C:=CR) (st:=s_nR) (ps:=["self","gaps"]) a_nR i_nR l_nR d_nR k_nR fun _ _ _ _ _ _ us hl=>match us,hl with|[_,_],_=>rfl
 have N_P:=tO (C:=CP) (st:=s_nP) (ps:=["self","gaps","beside"]) a_nP i_nP l_nP d_nP k_nP fun _ _ _ _ _ _ us hl=>match us,hl with|[_,_,_],_=>rfl
 have Z:Zs K mg CR CP:=⟨K_CR,K_CP,(by intro C h;simp only [List.mem_cons,List.not_mem_nil,or_false] at h;exact h.elim (fun e=>by subst e;exact ⟨K_CR.cl,rD⟩) (fun e=>by subst e;exact ⟨K_CP.cl,pj⟩)),(by intro C h;simp only [List.mem_cons,List.not_mem_nil,or_false] at h;subst h;exact ⟨K_CP.cl,nC⟩),mg_none_of KX G Bq,mg_none_of KX G Bp,mg_none_of KX G xY,mg_none_of KX G gE,mg_none_of KX G zA,mg_none_of KX G cY,mg_none_of KX G fH,mg_none_of KX G rp,mg_none_of KX G xX,mg_none_of KX G xW,mg_none_of KX G cL,mg_none_of KX G mD,mg_none_of KX G qe,mg_none_of KX G Cp,mg_none_of KX G uB,mg_none_of KX G Co,⟨_,mg_of KX G fV⟩,⟨_,mg_of KX G jh⟩,⟨pe,mO,mK,ko,p9,fS,mM,kz,ku,jc,mI,eF,mL,ky,kr,jb,mH,eE,kx,jf,jd,hI,kq,dz,pb,mN,mJ,kn,p8,fQ⟩⟩
 refine fin_mk D_law (fun s v=>.of_eq rfl) fun base=>law_ok (ro:=false) (mlaw:=Dk CR CP) (fun n=>?_) (law_true CR CP x_ne)
 have f6:=yG (n:=n) (P:=l.prog) (w:=w) (base:=base) Z cP
 have xQ:=wZ (n:=n) (P:=l.prog) (w:=w) (base:=base) Z ⟨cP,f6⟩ m7
 have zu:=yE (n:=n) (P:=l.prog) (w:=w) (base:=base) Z ⟨cP,f6⟩ oF
 have ug:=u4 (n:=n) (P:=l.prog) (w:=w) (base:=base) Z ⟨oF,zu⟩ ⟨cP,f6⟩ iA
 have vp:=uM (n:=n) (P:=l.prog) (w:=w) (base:=base) Z ⟨cP,f6⟩ ja
 have rl:=qF (n:=n) (P:=l.prog) (w:=w) (base:=base) Z e9
 have zp:=yA (n:=n) (P:=l.prog) (w:=w) (base:=base) Z oA
 have rj:=qE (n:=n) (P:=l.prog) (w:=w) (base:=base) Z e8
 have tK:=sI (n:=n) (P:=l.prog) (w:=w) (base:=base) Z gB
 have zv:=yF (n:=n) (P:=l.prog) (w:=w) (base:=base) Z ⟨e9,rl⟩ ⟨oA,zp⟩ ⟨e8,rj⟩ ⟨gB,tK⟩ oG
 have vM:=vB (n:=n) (P:=l.prog) (w:=w) (base:=base) Z ⟨cP,f6⟩ kc
 have zq:=yB (n:=n) (P:=l.prog) (w:=w) (base:=base) Z ⟨cP,f6⟩ oB
 have xP:=wY (n:=n) (P:=l.prog) (w:=w) (base:=base) Z ⟨m7,xQ⟩ ⟨iA,ug⟩ ⟨ja,vp⟩ ⟨oG,zv⟩ ⟨kc,vM⟩ ⟨oB,zq⟩ m6
 have mB:=vA (n:=n) (P:=l.prog) (w:=w) (base:=base) Z bV
 have OKO_copied_rows:=uJ (n:=n) (P:=l.prog) (w:=w) (base:=base) Z bV
 have Ex:=D9 (n:=n) (P:=l.prog) (w:=w) (base:=base) Z uz
 have xO:=wX (n:=n) (P:=l.prog) (w:=w) (base:=base) Z ⟨uz,Ex⟩ m5
 have la:=uL (n:=n) (P:=l.prog) (w:=w) (base:=base) Z ⟨bV,mB⟩ ⟨m5,xO⟩ aR
 have Ce:=okn_R (n:=n) (P:=l.prog) (w:=w) (base:=base) (CR:=CR) (CP:=CP) (C:=CR) aR la N_R.fn K_CR.cl rD
 have OKN_RP:=okn_R (n:=n) (P:=l.prog) (w:=w) (base:=base) (CR:=CR) (CP:=CP) (C:=CP) aR la N_R.fn K_CP.cl pj
 have Cf:=okn_P (n:=n) (P:=l.prog) (w:=w) (base:=base) (CR:=CR) (CP:=CP) aR la ⟨x_s1,x_s2,x_s3,k_nR⟩ N_R.bd OKN_RP K_CR.mg (mg_none_of KX G fH) N_P.fn K_CP.cl pj nC
 have zt:=yD (n:=n) (P:=l.prog) (w:=w) (base:=base) Z N_P Cf N_R Ce oE
 have rg:=zM (n:=n) (P:=l.prog) (w:=w) (base:=base) Z ki
 have rh:=qD (n:=n) (P:=l.prog) (w:=w) (base:=base) Z e6
 have zo:=yx (n:=n) (P:=l.prog) (w:=w) (base:=base) Z ⟨e6,rh⟩ oz
 have mC:=vC (n:=n) (P:=l.prog) (w:=w) (base:=base) Z ke
 have ou:=x9 (n:=n) (P:=l.prog) (w:=w) (base:=base) Z mf
 have q9:=yz (n:=n) (P:=l.prog) (w:=w) (base:=base) Z sh mC si ou iX
 have vn:=zL (n:=n) (P:=l.prog) (w:=w) (base:=base) Z ⟨ki,rg⟩ ⟨oz,zo⟩ ⟨iX,q9⟩ ni
 have tV:=yy (n:=n) (P:=l.prog) (w:=w) (base:=base) Z lh
 have wx:=BI (n:=n) (P:=l.prog) (w:=w) (base:=base) Z ⟨lh,tV⟩ qc
 have tJ:=sH (n:=n) (P:=l.prog) (w:=w) (base:=base) Z gA
 have xT:=x8 (n:=n) (P:=l.prog) (w:=w) (base:=base) Z md
 have xR:=x5 (n:=n) (P:=l.prog) (w:=w) (base:=base) Z ⟨gA,tJ⟩ ⟨md,xT⟩ m8
 have fw:=sM (n:=n) (P:=l.prog) (w:=w) (base:=base) Z ⟨bV,mB⟩ gD
 have oM:=u3 (n:=n) (P:=l.prog) (w:=w) (base:=base) Z ⟨bV,mB⟩ OKO_copied_rows f7
 have iW:=sJ (n:=n) (P:=l.prog) (w:=w) (base:=base) Z ⟨f7,oM⟩ N_R Ce gC
 have jR:=u7 (n:=n) (P:=l.prog) (w:=w) (base:=base) Z ⟨f7,oM⟩ N_P Cf iE
 have xS:=x6 (n:=n) (P:=l.prog) (w:=w) (base:=base) Z lX fw lZ lW iW lY jR m9
 have zr:=yC (n:=n) (P:=l.prog) (w:=w) (base:=base) Z ⟨cP,f6⟩ oC
 have Cd:=BH (n:=n) (P:=l.prog) (w:=w) (base:=base) Z sk
 have vo:=uK (n:=n) (P:=l.prog) (w:=w) (base:=base) Z ⟨sk,Cd⟩ j9
 have xN:=wW (n:=n) (P:=l.prog) (w:=w) (base:=base) Z ⟨ki,rg⟩ ⟨j9,vo⟩ ⟨iX,q9⟩ m4
 have uh:=u5 (n:=n) (P:=l.prog) (w:=w) (base:=base) Z ⟨qc,wx⟩ iB
 have Cc:=BG (n:=n) (P:=l.prog) (w:=w) (base:=base) Z sj
 have tU:=yw (n:=n) (P:=l.prog) (w:=w) (base:=base) Z ⟨ni,vn⟩ ⟨ki,rg⟩ ⟨iX,q9⟩ ⟨sj,Cc⟩ lg
 have AA:=zN (n:=n) (P:=l.prog) (w:=w) (base:=base) Z qo
 have AB:=zO (n:=n) (P:=l.prog) (w:=w) (base:=base) Z ⟨lg,tU⟩ ⟨qo,AA⟩ qp
 have ui:=u6 (n:=n) (P:=l.prog) (w:=w) (base:=base) Z ⟨lg,tU⟩ ⟨qp,AB⟩ iC
 have OK_law:=ok_law (n:=n) (P:=l.prog) (w:=w) (base:=base) Z ⟨m6,xP⟩ ⟨oE,zt⟩ ⟨ni,vn⟩ ⟨qc,wx⟩ ⟨m8,xR⟩ ⟨m9,xS⟩ ⟨oC,zr⟩ ⟨m4,xN⟩ ⟨iB,uh⟩ ⟨iC,ui⟩ ⟨lh,tV⟩ D_law
 exact OK_law
theorem walk {l:PySem.W.OpenLaw} {q:Program} {loose:List Str} {XP:(Str->Option Value)->Heap->Prop} {YP:World->Heap->Prop} {d:DefRec} {K:Params->PySem.W.Frag} (hn:l.most=some 63) (hdf:d.params.defaults=[])
  (hY:∀(w:World) (h:Heap),YP w h->(K w.params).In h)
  (F:∀(w:World) (mg:Str->Option Value) (fa:Addr) (h:Heap),(K w.params).In h->h.Ns mainGlobals mg->mg d.name=some (.ref fa) ->
   ∃fd:FuncData,(∀(s:Shared) (u:Value),BindsTo s fd ⟨[u],[]⟩ [("_law_script",u)])/\∀base:Heap,(K w.params).In base->base.Ns mainGlobals mg->cz l.prog w (K w.params) mg base CX0 9 fa fd ["_law_script"] (Bw (K w.params))) :
  PySem.W.WalkO q loose XP YP l.row.toRowW d [] (fun f vs=>PySem.call f vs):=
 L2.walk_of (n:=63) (k:=9) (x:="_law_script") (CX:=fun _=>CX0) (sp:=fun w=>Bw (K w.params)) hn (by decide) hdf ⟨rfl,by decide,by decide⟩ hY F (fun _ _ a ns hl _ hS=>⟨a,ns,rfl,hS,hl,fun _=>rfl⟩) fun _ _ _ _ _ z=>z
end Ru
open PySem PySem.W PyProof.Rows
noncomputable def _root_.PySem.W.Fast.tw3195825344585264813:Nat:=0
noncomputable def _root_.PySem.W.Fast.tw913911384450726726:Nat:=0
noncomputable def _root_.PySem.W.Fast.tw14779989141541777178:Nat:=0
noncomputable def _root_.PySem.W.Fast.tw2883114741820362220:Nat:=0
noncomputable def _root_.PySem.W.Fast.tw9230394349132492612:Nat:=0
noncomputable def _root_.PySem.W.Fast.tw8793210630044801376:Nat:=0
noncomputable def _root_.PySem.W.Fast.tw15605384218329967466:Nat:=0
noncomputable def _root_.PySem.W.Fast.tw9043055789764044909:Nat:=0
noncomputable def _root_.PySem.W.Fast.tw13058820907972355197:Nat:=0
noncomputable def _root_.PySem.W.Fast.tw12677999084417329089:Nat:=0
noncomputable def _root_.PySem.W.Fast.tw1666561801648263344:Nat:=0
noncomputable def _root_.PySem.W.Fast.tw2828835615653521217:Nat:=0
noncomputable def _root_.PySem.W.Fast.tw2961974636685371336:Nat:=0
noncomputable def _root_.PySem.W.Fast.tw7364701645480360676:Nat:=0
noncomputable def _root_.PySem.W.Fast.tw7130635652095472394:Nat:=0
noncomputable def _root_.PySem.W.Fast.tw9082111148115985818:Nat:=0
noncomputable def _root_.PySem.W.Fast.tw11219384885711125801:Nat:=0
noncomputable def _root_.PySem.W.Fast.tw4084710359803176283:Nat:=0
noncomputable def _root_.PySem.W.Fast.tw5277768000839121683:Nat:=0
noncomputable def _root_.PySem.W.Fast.tw12533405206073775262:Nat:=0
noncomputable def _root_.PySem.W.Fast.tw17980554518927801305:Nat:=0
noncomputable def _root_.PySem.W.Fast.tw12145052826602814597:Nat:=0
noncomputable def _root_.PySem.W.Fast.tw843331149549779317:Nat:=0
noncomputable def _root_.PySem.W.Fast.tw281870013803787814:Nat:=0
noncomputable def _root_.PySem.W.Fast.tw15871056610780096147:Nat:=0
noncomputable def _root_.PySem.W.Fast.tw16518206719562095455:Nat:=0
noncomputable def _root_.PySem.W.Fast.tw5769631431226828322:Nat:=0
noncomputable def _root_.PySem.W.Fast.tw8663267100358411451:Nat:=0
noncomputable def _root_.PySem.W.Fast.tw12171744826774476736:Nat:=0
noncomputable def _root_.PySem.W.Fast.tw9220688215133785119:Nat:=0
noncomputable def _root_.PySem.W.Fast.tw16083243435319893982:Nat:=0
noncomputable def _root_.PySem.W.Fast.tw12342803158230408699:Nat:=0
noncomputable def _root_.PySem.W.Fast.tw14099430011733192398:Nat:=0
noncomputable def _root_.PySem.W.Fast.tw8100117743151160069:Nat:=0
noncomputable def _root_.PySem.W.Fast.tw5549027151625874912:Nat:=0
noncomputable def _root_.PySem.W.Fast.tw13599012819514738971:Nat:=0
noncomputable def _root_.PySem.W.Fast.tw17798413413083934528:Nat:=0
noncomputable def _root_.PySem.W.Fast.tw10491585124623613747:Nat:=0
noncomputable def _root_.PySem.W.Fast.tw6365560263145380835:Nat:=0
noncomputable def _root_.PySem.W.Fast.tw1546291485488008085:Nat:=0
noncomputable def _root_.PySem.W.Fast.tw9289522303160612010:Nat:=0
noncomputable def _root_.PySem.W.Fast.tw9639567563286456668:Nat:=0
noncomputable def _root_.PySem.W.Fast.tw9050607697902796996:Nat:=0
noncomputable def _root_.PySem.W.Fast.tw18094445019878537025:Nat:=0
noncomputable def _root_.PySem.W.Fast.tw7770090339990159522:Nat:=0
noncomputable def _root_.PySem.W.Fast.tw10667946894783433981:Nat:=0
noncomputable def _root_.PySem.W.Fast.tw4897463207071666221:Nat:=0
noncomputable def _root_.PySem.W.Fast.tw16533968563058279396:Nat:=0
noncomputable def _root_.PySem.W.Fast.tw12713661203758812739:Nat:=0
noncomputable def _root_.PySem.W.Fast.tw7851646995277822002:Nat:=0
noncomputable def _root_.PySem.W.Fast.tw6635036945802441673:Nat:=0
noncomputable def _root_.PySem.W.Fast.tw11944016284070367969:Nat:=0
noncomputable def _root_.PySem.W.Fast.tw13267127596355145388:Nat:=0
noncomputable def _root_.PySem.W.Fast.tw420986055001707760:Nat:=0
noncomputable def _root_.PySem.W.Fast.tw14396787474912116428:Nat:=0
noncomputable def _root_.PySem.W.Fast.tw16363955882622089820:Nat:=0
noncomputable def _root_.PySem.W.Fast.tw263639975922900903:Nat:=0
noncomputable def _root_.PySem.W.Fast.tw13155000504427447336:Nat:=0
noncomputable def _root_.PySem.W.Fast.tw17094635994747392134:Nat:=0
noncomputable def _root_.PySem.W.Fast.tw4654115308465529042:Nat:=0
noncomputable def _root_.PySem.W.Fast.tw6367409077316536432:Nat:=0
noncomputable def _root_.PySem.W.Fast.tw8472003143378782419:Nat:=0
noncomputable def _root_.PySem.W.Fast.tw5459184980459352443:Nat:=0
noncomputable def _root_.PySem.W.Fast.tw4366931797953954845:Nat:=0
noncomputable def _root_.PySem.W.Fast.tw11375916598693751829:Nat:=0
noncomputable def _root_.PySem.W.Fast.tw12433484639394697576:Nat:=0
noncomputable def _root_.PySem.W.Fast.tw9845199745829062586:Nat:=0
noncomputable def _root_.PySem.W.Fast.tw9593113578552788184:Nat:=0
noncomputable def _root_.PySem.W.Fast.tw12669875456281796691:Nat:=0
noncomputable def _root_.PySem.W.Fast.tw8772389682245050670:Nat:=0
noncomputable def _root_.PySem.W.Fast.tw15213823323674554067:Nat:=0
noncomputable def _root_.PySem.W.Fast.tw2054528135020753854:Nat:=0
noncomputable def _root_.PySem.W.Fast.tw12263797137637029569:Nat:=0
noncomputable def _root_.PySem.W.Fast.tw8872663487152102951:Nat:=0
noncomputable def _root_.PySem.W.Fast.tw17600736995434559251:Nat:=0
noncomputable def _root_.PySem.W.Fast.tw5512210239107368502:Nat:=0
noncomputable def _root_.PySem.W.Fast.tw12292539878707062610:Nat:=0
noncomputable def _root_.PySem.W.Fast.tw3768129566131535963:Nat:=0
noncomputable def _root_.PySem.W.Fast.tw7821055654253674494:Nat:=0
noncomputable def _root_.PySem.W.Fast.tw8123971886021022640:Nat:=0
noncomputable def _root_.PySem.W.Fast.tw12047082318047269998:Nat:=0
noncomputable def _root_.PySem.W.Fast.tw16753940058207732469:Nat:=0
noncomputable def _root_.PySem.W.Fast.tw3199125489903868534:Nat:=0
noncomputable def _root_.PySem.W.Fast.tw3714873329555628641:Nat:=0
noncomputable def _root_.PySem.W.Fast.tw7430951386073854152:Nat:=0
noncomputable def _root_.PySem.W.Fast.tw86682535871293240:Nat:=0
noncomputable def _root_.PySem.W.Fast.tw1631266044119691290:Nat:=0
noncomputable def _root_.PySem.W.Fast.tw2194869838278721592:Nat:=0
noncomputable def _root_.PySem.W.Fast.tw11959204918474767935:Nat:=0
noncomputable def _root_.PySem.W.Fast.tw18404657169855681871:Nat:=0
noncomputable def _root_.PySem.W.Fast.tw5835602674031368589:Nat:=0
noncomputable def _root_.PySem.W.Fast.tw7777760626974779271:Nat:=0
noncomputable def _root_.PySem.W.Fast.tw1645116682170916642:Nat:=0
noncomputable def _root_.PySem.W.Fast.tw16426674184086270262:Nat:=0
noncomputable def _root_.PySem.W.Fast.tw6497602231278403926:Nat:=0
noncomputable def _root_.PySem.W.Fast.tw11336710283184096348:Nat:=0
set_option maxRecDepth 100000 in
set_option maxHeartbeats 0 in
theorem PySem.Challenge.cw_wakeorder_k27_whole_eased_holds : PySem.Challenge.rw_wakeorder_k27_whole_eased.Holds := by
 w_on;o_law;k_head;(case hw=>w_witness2)
 k_fill
 refine Ru.walk (l:=PySem.Challenge.rw_wakeorder_k27_whole_eased) rfl rfl (fun w h Y=>PySem.W.kIn_of Y) ?F
 case F=>
  intro w mg fa h KX G hmg
  refine' Ru.all_mk KX G hmg ?En ?Ah ?Ak ?Ag ?Af ?Ai ?Aj ?Am ?Al ?rD ?uN ?Eo ?Ap ?As ?Ao ?An ?Aq ?Ar ?Av ?Au ?pj ?nC ?o2 ?o3 ?x_ne ?qQ ?pI ?qO ?kH ?mm ?i0 ?qK ?hZ ?jH ?qP ?nK ?qL ?pH ?nJ ?xp ?pG ?ml ?qN ?sW ?hX ?qH ?oh ?nI ?nG ?nV ?nH ?pZ ?pE ?pz ?pV ?pA ?qJ ?sV ?qI ?uZ ?jG ?pL ?pJ ?jP ?gp ?gm ?gq ?gn ?kG ?jO ?jF ?jD ?jN ?jE ?l9 ?kF ?kC ?l7 ?kD ?pK ?qM ?uY ?mj ?pF ?kI ?uX ?qG ?sX ?sY ?kJ ?a_law ?l_law ?d_law ?k_law ?oi ?a_nR ?i_nR ?l_nR ?d_nR ?k_nR ?a_nP ?i_nP ?l_nP ?d_nP ?k_nP ?x_s1 ?x_s2 ?x_s3 ?Bq ?Bp ?xY ?gE ?zA ?cY ?fH ?rp ?xX ?xW ?cL ?mD ?qe ?Cp ?uB ?Co ?fV ?jh ?pe ?mO ?mK ?ko ?p9 ?fS ?mM ?kz ?ku ?jc ?mI ?eF ?mL ?ky ?kr ?jb ?mH ?eE ?kx ?jf ?jd ?hI ?kq ?dz ?pb ?mN ?mJ ?kn ?p8 ?fQ
  (case En=>k_is)
  (case Ah=>k_is)
  (case Ak=>k_is)
  (case Ag=>k_is)
  (case Af=>k_is)
  (case Ai=>k_is)
  (case Aj=>k_is)
  (case Am=>k_is)
  (case Al=>k_is)
  (case rD=>k_is)
  (case uN=>k_is)
  (case Eo=>k_is)
  (case Ap=>k_is)
  (case As=>k_is)
  (case Ao=>k_is)
  (case An=>k_is)
  (case Aq=>k_is)
  (case Ar=>k_is)
  (case Av=>k_is)
  (case Au=>k_is)
  (case pj=>k_is)
  (case nC=>k_is)
  (case o2=>k_is)
  (case o3=>k_is)
  (case x_ne=>first|k_is|kernel_rfl|rfl|decide +kernel)
  (case qQ=>exact ⟨_,_,L2.bo KX G (by k_is) (by k_is) (by k_is) (by k_is) fun _ _ _ _ _ _ us hl=>match us,hl with|[_,_],_=>rfl⟩)
  (case pI=>exact ⟨_,_,L2.bo KX G (by k_is) (by k_is) (by k_is) (by k_is) fun _ _ _ _ _ _ us hl=>match us,hl with|[_],_=>rfl⟩)
  (case qO=>exact ⟨_,_,L2.bo KX G (by k_is) (by k_is) (by k_is) (by k_is) fun _ _ _ _ _ _ us hl=>match us,hl with|[_,_,_,_],_=>rfl⟩)
  (case kH=>exact ⟨_,_,L2.bo KX G (by k_is) (by k_is) (by k_is) (by k_is) fun _ _ _ _ _ _ us hl=>match us,hl with|[_,_],_=>rfl⟩)
  (case mm=>exact ⟨_,_,L2.bo KX G (by k_is) (by k_is) (by k_is) (by k_is) fun _ _ _ _ _ _ us hl=>match us,hl with|[_,_,_,_],_=>rfl⟩)
  (case i0=>exact ⟨_,_,L2.bo KX G (by k_is) (by k_is) (by k_is) (by k_is) fun _ _ _ _ _ _ us hl=>match us,hl with|[_,_],_=>rfl⟩)
  (case qK=>exact ⟨_,_,L2.bo KX G (by k_is) (by k_is) (by k_is) (by k_is) fun _ _ _ _ _ _ us hl=>match us,hl with|[_,_],_=>rfl⟩)
  (case hZ=>exact ⟨_,_,L2.bo KX G (by k_is) (by k_is) (by k_is) (by k_is) fun _ _ _ _ _ _ us hl=>match us,hl with|[_,_],_=>rfl⟩)
  (case jH=>exact ⟨_,_,L2.bo KX G (by k_is) (by k_is) (by k_is) (by k_is) fun _ _ _ _ _ _ us hl=>match us,hl with|[_,_,_],_=>rfl⟩)
  (case qP=>exact ⟨_,_,L2.bo KX G (by k_is) (by k_is) (by k_is) (by k_is) fun _ _ _ _ _ _ us hl=>match us,hl with|[_,_],_=>rfl⟩)
  (case nK=>exact ⟨_,_,L2.bo KX G (by k_is) (by k_is) (by k_is) (by k_is) fun _ _ _ _ _ _ us hl=>match us,hl with|[_,_],_=>rfl⟩)
  (case qL=>exact ⟨_,_,L2.bo KX G (by k_is) (by k_is) (by k_is) (by k_is) fun _ _ _ _ _ _ us hl=>match us,hl with|[_,_,_],_=>rfl⟩)
  (case pH=>exact ⟨_,_,L2.bo KX G (by k_is) (by k_is) (by k_is) (by k_is) fun _ _ _ _ _ _ us hl=>match us,hl with|[_,_],_=>rfl⟩)
  (case nJ=>exact ⟨_,_,L2.bo KX G (by k_is) (by k_is) (by k_is) (by k_is) fun _ _ _ _ _ _ us hl=>match us,hl with|[_],_=>rfl⟩)
  (case xp=>exact ⟨_,_,L2.bo KX G (by k_is) (by k_is) (by k_is) (by k_is) fun _ _ _ _ _ _ us hl=>match us,hl with|[_],_=>rfl⟩)
  (case pG=>exact ⟨_,_,L2.bo KX G (by k_is) (by k_is) (by k_is) (by k_is) fun _ _ _ _ _ _ us hl=>match us,hl with|[_,_],_=>rfl⟩)
  (case ml=>exact ⟨_,_,L2.bo KX G (by k_is) (by k_is) (by k_is) (by k_is) fun _ _ _ _ _ _ us hl=>match us,hl with|[_],_=>rfl⟩)
  (case qN=>exact ⟨_,_,L2.bo KX G (by k_is) (by k_is) (by k_is) (by k_is) fun _ _ _ _ _ _ us hl=>match us,hl with|[_],_=>rfl⟩)
  (case sW=>exact ⟨_,_,L2.bo KX G (by k_is) (by k_is) (by k_is) (by k_is) fun _ _ _ _ _ _ us hl=>match us,hl with|[_,_],_=>rfl⟩)
  (case hX=>exact ⟨_,_,L2.bo KX G (by k_is) (by k_is) (by k_is) (by k_is) fun _ _ _ _ _ _ us hl=>match us,hl with|[_],_=>rfl⟩)
  (case qH=>exact ⟨_,_,L2.bo KX G (by k_is) (by k_is) (by k_is) (by k_is) fun _ _ _ _ _ _ us hl=>match us,hl with|[_,_],_=>rfl⟩)
  (case oh=>k_is)
  (case nI=>k_is)
  (case nG=>k_is)
  (case nV=>k_is)
  (case nH=>k_is)
  (case pZ=>k_is)
  (case pE=>k_is)
  (case pz=>k_is)
  (case pV=>k_is)
  (case pA=>k_is)
  (case qJ=>exact ⟨_,_,L2.bo KX G (by k_is) (by k_is) (by k_is) (by k_is) fun _ _ _ _ _ _ us hl=>match us,hl with|[_,_,_,_],_=>rfl⟩)
  (case sV=>exact ⟨_,_,L2.bo KX G (by k_is) (by k_is) (by k_is) (by k_is) fun _ _ _ _ _ _ us hl=>match us,hl with|[_,_,_,_],_=>rfl⟩)
  (case qI=>exact ⟨_,_,L2.bo KX G (by k_is) (by k_is) (by k_is) (by k_is) fun _ _ _ _ _ _ us hl=>match us,hl with|[_,_],_=>rfl⟩)
  (case uZ=>exact ⟨_,_,L2.bo KX G (by k_is) (by k_is) (by k_is) (by k_is) fun _ _ _ _ _ _ us hl=>match us,hl with|[_,_,_],_=>rfl⟩)
  (case jG=>exact ⟨_,_,L2.bo KX G (by k_is) (by k_is) (by k_is) (by k_is) fun _ _ _ _ _ _ us hl=>match us,hl with|[_,_],_=>rfl⟩)
  (case pL=>exact ⟨_,_,L2.bo KX G (by k_is) (by k_is) (by k_is) (by k_is) fun _ _ _ _ _ _ us hl=>match us,hl with|[_,_,_,_],_=>rfl⟩)
  (case pJ=>exact ⟨_,_,L2.bo KX G (by k_is) (by k_is) (by k_is) (by k_is) fun _ _ _ _ _ _ us hl=>match us,hl with|[_,_,_,_],_=>rfl⟩)
  (case jP=>k_is)
  (case gp=>k_is)
  (case gm=>k_is)
  (case gq=>k_is)
  (case gn=>k_is)
  (case kG=>exact ⟨_,_,L2.bo KX G (by k_is) (by k_is) (by k_is) (by k_is) fun _ _ _ _ _ _ us hl=>match us,hl with|[_,_,_,_],_=>rfl⟩)
  (case jO=>k_is)
  (case jF=>k_is)
  (case jD=>k_is)
  (case jN=>k_is)
  (case jE=>k_is)
  (case l9=>k_is)
  (case kF=>k_is)
  (case kC=>k_is)
  (case l7=>k_is)
  (case kD=>k_is)
  (case pK=>exact ⟨_,_,L2.bo KX G (by k_is) (by k_is) (by k_is) (by k_is) fun _ _ _ _ _ _ us hl=>match us,hl with|[_,_,_],_=>rfl⟩)
  (case qM=>exact ⟨_,_,L2.bo KX G (by k_is) (by k_is) (by k_is) (by k_is) fun _ _ _ _ _ _ us hl=>match us,hl with|[_,_],_=>rfl⟩)
  (case uY=>exact ⟨_,_,L2.bo KX G (by k_is) (by k_is) (by k_is) (by k_is) fun _ _ _ _ _ _ us hl=>match us,hl with|[_,_],_=>rfl⟩)
  (case mj=>exact ⟨_,_,L2.bo KX G (by k_is) (by k_is) (by k_is) (by k_is) fun _ _ _ _ _ _ us hl=>match us,hl with|[_,_,_],_=>rfl⟩)
  (case pF=>exact ⟨_,_,L2.bo KX G (by k_is) (by k_is) (by k_is) (by k_is) fun _ _ _ _ _ _ us hl=>match us,hl with|[_,_,_,_,_],_=>rfl⟩)
  (case kI=>exact ⟨_,_,L2.bo KX G (by k_is) (by k_is) (by k_is) (by k_is) fun _ _ _ _ _ _ us hl=>match us,hl with|[_,_,_,_],_=>rfl⟩)
  (case uX=>exact ⟨_,_,L2.bo KX G (by k_is) (by k_is) (by k_is) (by k_is) fun _ _ _ _ _ _ us hl=>match us,hl with|[_,_,_,_],_=>rfl⟩)
  (case qG=>exact ⟨_,_,L2.bo KX G (by k_is) (by k_is) (by k_is) (by k_is) fun _ _ _ _ _ _ us hl=>match us,hl with|[_,_,_,_],_=>rfl⟩)
  (case sX=>exact ⟨_,_,L2.bo KX G (by k_is) (by k_is) (by k_is) (by k_is) fun _ _ _ _ _ _ us hl=>match us,hl with|[_,_],_=>rfl⟩)
  (case sY=>exact ⟨_,_,L2.bo KX G (by k_is) (by k_is) (by k_is) (by k_is) fun _ _ _ _ _ _ us hl=>match us,hl with|[_,_,_,_,_],_=>rfl⟩)
  (case kJ=>exact ⟨_,_,L2.bo KX G (by k_is) (by k_is) (by k_is) (by k_is) fun _ _ _ _ _ _ us hl=>match us,hl with|[_,_,_],_=>rfl⟩)
  (case a_law=>k_is)
  (case l_law=>k_is)
  (case d_law=>k_is)
  (case k_law=>k_is)
  (case oi=>k_is)
  (case a_nR=>k_is)
  (case i_nR=>k_is)
  (case l_nR=>k_is)
  (case d_nR=>k_is)
  (case k_nR=>k_is)
  (case a_nP=>k_is)
  (case i_nP=>k_is)
  (case l_nP=>k_is)
  (case d_nP=>k_is)
  (case k_nP=>k_is)
  (case x_s1=>first|k_is|kernel_rfl|rfl|decide +kernel)
  (case x_s2=>first|k_is|kernel_rfl|rfl|decide +kernel)
  (case x_s3=>first|k_is|kernel_rfl|rfl|decide +kernel)
  (case Bq=>k_is)
  (case Bp=>k_is)
  (case xY=>k_is)
  (case gE=>k_is)
  (case zA=>k_is)
  (case cY=>k_is)
  (case fH=>k_is)
  (case rp=>k_is)
  (case xX=>k_is)
  (case xW=>k_is)
  (case cL=>k_is)
  (case mD=>k_is)
  (case qe=>k_is)
  (case Cp=>k_is)
  (case uB=>k_is)
  (case Co=>k_is)
  (case fV=>k_is)
  (case jh=>k_is)
  (case pe=>first|k_is|kernel_rfl|rfl|decide +kernel)
  (case mO=>first|k_is|kernel_rfl|rfl|decide +kernel)
  (case mK=>first|k_is|kernel_rfl|rfl|decide +kernel)
  (case ko=>first|k_is|kernel_rfl|rfl|decide +kernel)
  (case p9=>first|k_is|kernel_rfl|rfl|decide +kernel)
  (case fS=>first|k_is|kernel_rfl|rfl|decide +kernel)
  (case mM=>first|k_is|kernel_rfl|rfl|decide +kernel)
  (case kz=>first|k_is|kernel_rfl|rfl|decide +kernel)
  (case ku=>first|k_is|kernel_rfl|rfl|decide +kernel)
  (case jc=>first|k_is|kernel_rfl|rfl|decide +kernel)
  (case mI=>first|k_is|kernel_rfl|rfl|decide +kernel)
  (case eF=>first|k_is|kernel_rfl|rfl|decide +kernel)
  (case mL=>first|k_is|kernel_rfl|rfl|decide +kernel)
  (case ky=>first|k_is|kernel_rfl|rfl|decide +kernel)
  (case kr=>first|k_is|kernel_rfl|rfl|decide +kernel)
  (case jb=>first|k_is|kernel_rfl|rfl|decide +kernel)
  (case mH=>first|k_is|kernel_rfl|rfl|decide +kernel)
  (case eE=>first|k_is|kernel_rfl|rfl|decide +kernel)
  (case kx=>first|k_is|kernel_rfl|rfl|decide +kernel)
  (case jf=>first|k_is|kernel_rfl|rfl|decide +kernel)
  (case jd=>first|k_is|kernel_rfl|rfl|decide +kernel)
  (case hI=>first|k_is|kernel_rfl|rfl|decide +kernel)
  (case kq=>first|k_is|kernel_rfl|rfl|decide +kernel)
  (case dz=>first|k_is|kernel_rfl|rfl|decide +kernel)
  (case pb=>first|k_is|kernel_rfl|rfl|decide +kernel)
  (case mN=>first|k_is|kernel_rfl|rfl|decide +kernel)
  (case mJ=>first|k_is|kernel_rfl|rfl|decide +kernel)
  (case kn=>first|k_is|kernel_rfl|rfl|decide +kernel)
  (case p8=>first|k_is|kernel_rfl|rfl|decide +kernel)
  (case fQ=>first|k_is|kernel_rfl|rfl|decide +kernel)
