import PyProof.Rows.All
import PyProof.InstStoreFacts
import PyProof.ExcInit
import PyProof.IsiBase
import PyProof.ExcAttrAll.ValueError
import OpenK.KDescr
import KE.KIsAll
import PyProof.Rows.CatchOwn
import PyProof.RulesTry
import PyProof.RulesAs
import PyProof.RulesDel
import OpenK.KOwn
import PyProof.ExcBaseAll.ValueError
import PyProof.StationsW
import Wide.All
import OpenK.AllK
import Wide.FinOn
import Lean
import PyProof.EqAt
import PyProof.EqKinds
import PyProof.NeKinds
import PyProof.TupleCall
import PySem.Challenge.RW_wakeorder_k32_free_times
set_option Elab.async false
set_option linter.all false
set_option maxRecDepth 100000
open PySem.W (plainOver takerIn typeIn specialIn keepIn takesIn kitOne kia_one callWith_K fnOf codeIn nsIn mg_of kitAny mg_none_of)
namespace L2
open PySem PySem.Spec PyProof.Rows
noncomputable abbrev Key:=Sum Int Str
noncomputable def keyIs:Key->Value->Bool
 |.inl k,v=>Value.isInt k v
 |.inr x,v=>Value.isStrOf x v
noncomputable def keyH (w:World):Key->Int
 |.inl k=>hashInt k
 |.inr x=>hashStr w x
theorem cq:∀{k:Key} {v:Value},keyIs k v=true->(∃i t,k=Sum.inl i/\v=Value.int i t)\/(∃x t,k=Sum.inr x/\v=Value.str x t)
 |.inl i,v,h=>by
  obtain ⟨t,e⟩:=Value.isInt_shape (k:=i) (v:=v) h
  exact .inl ⟨i,t,rfl,e⟩
 |.inr x,v,h=>by
  obtain ⟨t,e⟩:=Value.isStrOf_shape (x:=x) (v:=v) h
  exact .inr ⟨x,t,rfl,e⟩
theorem key_ll (a b:Int):decide ((Sum.inl a:Key)=Sum.inl b)=(a==b):=by
 by_cases e:a=b
 ·subst e;simp
 ·have h:¬(Sum.inl a:Key)=Sum.inl b:=fun q=>e (Sum.inl.inj q)
  rw [decide_eq_false h]
  exact (beq_eq_false_iff_ne.mpr e).symm
theorem key_rr (a b:Str):decide ((Sum.inr a:Key)=Sum.inr b)=decide (a=b):=by
 by_cases e:a=b
 ·subst e;simp
 ·have h:¬(Sum.inr a:Key)=Sum.inr b:=fun q=>e (Sum.inr.inj q)
  rw [decide_eq_false h,decide_eq_false e]
theorem key_lr (a:Int) (b:Str):decide ((Sum.inl a:Key)=Sum.inr b)=false:=decide_eq_false (fun q=>nomatch q)
theorem key_rl (a:Str) (b:Int):decide ((Sum.inr a:Key)=Sum.inl b)=false:=decide_eq_false (fun q=>nomatch q)
noncomputable def vX (prog:Program) (w:World):PySem.KeyKind prog w Key where
 is:=keyIs
 hash:=keyH w
 inj:=fun v a b ha hb=>by
  rcases cq ha with ⟨i,t,rfl,rfl⟩|⟨x,t,rfl,rfl⟩
  ·rcases cq hb with ⟨j,u,rfl,e⟩|⟨y,u,rfl,e⟩
   ·injection e with e1 _;rw [e1]
   ·exact nomatch e
  ·rcases cq hb with ⟨j,u,rfl,e⟩|⟨y,u,rfl,e⟩
   ·exact nomatch e
   ·injection e with e1 _;rw [e1]
 byValue:=fun k v h=>by
  rcases cq h with ⟨i,t,rfl,rfl⟩|⟨x,t,rfl,rfl⟩<;>rfl
 pyHash:=fun hv h=>by
  rcases cq hv with ⟨i,t,rfl,rfl⟩|⟨x,t,rfl,rfl⟩
  ·exact wpAny_pyHash_int h
  ·exact wpAny_pyHash_str h
 eqBool:=fun hu hv h=>by
  rcases cq hu with ⟨i,t,rfl,rfl⟩|⟨x,t,rfl,rfl⟩
  ·rcases cq hv with ⟨j,u,rfl,rfl⟩|⟨y,u,rfl,rfl⟩
   ·rw [key_ll] at h;exact wpAny_eqBool_int h
   ·rw [key_lr] at h;exact SeqAt.EqAt.int_str i t y u _ _ _ _ h
  ·rcases cq hv with ⟨j,u,rfl,rfl⟩|⟨y,u,rfl,rfl⟩
   ·rw [key_rl] at h;exact SeqAt.EqAt.str_int x t j u _ _ _ _ h
   ·rw [key_rr] at h;exact wpAny_eqBool_str h
 «strs»:=fun k x t v h=>by
  rcases cq h with ⟨i,u,rfl,e⟩|⟨y,u,rfl,e⟩
  ·exact nomatch e
  ·injection e with e1 _
   subst e1
   cases v<;>rfl
end L2
namespace L2
open PySem PySem.Spec PyProof.Rows
inductive V where
 |non|bl (b:Bool)|int (i:Int)|str (x:Str)|byt (b:Array UInt8)|flt (b:UInt64)|ref (a:Addr)|ty (n:String)
 deriving DecidableEq
noncomputable def RelV:V->Value->Prop
 |.non,u=>u=Value.none
 |.bl b,u=>u=Value.bool b
 |.int i,u=>∃t,u=Value.int i t
 |.str x,u=>∃t,u=Value.str x t
 |.byt b,u=>∃t,u=Value.bytes b t
 |.flt b,u=>∃t,u=Value.float b t
 |.ref a,u=>u=Value.ref a
 |.ty n,u=>u=Value.type n
noncomputable abbrev Vals:List V->List Value->Prop:=Paired RelV
theorem Vals.length {xs:List V} {us:List Value} (r:Vals xs us):xs.length=us.length:=Paired.length r
theorem Vals.get:∀{xs:List V} {us:List Value} {i:Nat} {x:V},Vals xs us->xs[i]? =some x->∃u,us[i]? =some u/\RelV x u
 |_,_,_,_,.nil,e=>by simp at e
 |_,_,0,_,.cons r _,e=>by simp at e;subst e;exact ⟨_,rfl,r⟩
 |_,_,i+1,x,.cons _ t,e=>by
  obtain ⟨u,h1,h2⟩:=Vals.get (i:=i) (x:=x) t (by simpa using e)
  exact ⟨u,by simpa using h1,h2⟩
theorem Vals.set {x:V} {u:Value} (r:RelV x u):∀{xs:List V} {us:List Value} (i:Nat),Vals xs us->Vals (xs.set i x) (us.set i u)
 |_,_,_,.nil=>.nil
 |_,_,0,.cons _ t=>.cons r t
 |_,_,i+1,.cons q t=>.cons q (Vals.set r i t)
theorem Vals.append:∀{xs ys:List V} {us ws:List Value},Vals xs us->Vals ys ws->Vals (xs++ys) (us++ws)
 |_,_,_,_,.nil,s=>s
 |_,_,_,_,.cons r t,s=>.cons r (Vals.append t s)
theorem Vals.take:∀{xs:List V} {us:List Value} (n:Nat),Vals xs us->Vals (xs.take n) (us.take n)
 |_,_,0,_=>.nil
 |_,_,_+1,.nil=>.nil
 |_,_,n+1,.cons r t=>.cons r (Vals.take n t)
theorem Vals.drop:∀{xs:List V} {us:List Value} (n:Nat),Vals xs us->Vals (xs.drop n) (us.drop n)
 |_,_,0,r=>r
 |_,_,_+1,.nil=>.nil
 |_,_,n+1,.cons _ t=>Vals.drop n t
noncomputable def tU:Option V->Option Value->Prop
 |some v,some u=>RelV v u
 |none,none=>True
 |_,_=>False
noncomputable def KV {κ:Type}:List (κ×V)->List (κ×Value)->Prop:=Paired fun (p:κ×V) (q:κ×Value)=>p.1=q.1/\RelV p.2 q.2
noncomputable def kV:Key->V
 |.inl i=>.int i
 |.inr x=>.str x
inductive HO where
  |lst (xs:List V)
  |tup (xs:List V)
  |dK (kvs:List (Key×V))|dT (kvs:List (List Key×V))
  |set (S:Int->Bool) (n:Nat)
  |ins (C dx:Addr) (fs:List (Str×V))
  |own (x:Addr)
  |xd (fs:List (Str×V))
  |met (f x:Addr)
  |rng (lo hi:Int)
  |frz (o:Obj) (u:HO)
  |tbl (ps:Array Value)
  |ext (φ:Heap->Prop)
noncomputable abbrev Hp:=Addr->Option HO
noncomputable def upd (H:Hp) (a:Addr) (o:HO):Hp:=fun b=>if b=a then some o else H b
theorem ao {H:Hp} {a:Addr} {o:HO}:upd H a o a=some o:=by unfold upd;rw [if_pos rfl]
theorem ar {H:Hp} {a b:Addr} {o:HO} (h:b≠a):upd H a o b=H b:=by unfold upd;rw [if_neg h]
theorem aM {H:Hp} {a b:Addr} {o:HO} (h:H a=some o) (h':H b=none):a≠b:=by
 intro e;subst e;rw [h] at h';cases h'
section
variable (P:Program) (w:World)
noncomputable def dR (H:Hp) (h:Heap) (a:Addr):HO->Prop
 |.lst xs=>xs.length<=sizeLine/\∃(its:List Value) (n:Nat),Vals xs its/\h.get? a=some {cls:=.type "list",data:=.seq its.toArray n}
 |.tup xs=>xs.length<=sizeLine/\∃its:List Value,Vals xs its/\IsTup h a its.toArray
 |.dK kvs=>kvs.length<=sizeLine/\(a==sysModules)=false/\∃vs,KV kvs vs/\h.DictOf (vX P w) a vs
 |.dT kvs=>kvs.length<=sizeLine/\(a==sysModules)=false/\∃xs:List (List Key×Addr×Value),
   Paired (fun (p:List Key×V) (q:List Key×Addr×Value)=>p.1=q.1/\H q.2.1=some (.tup (p.1.map kV))/\RelV p.2 q.2.2) kvs xs /\
   ∃o es ep,h.get? a=some o/\o.ExactDict/\o.data=.dict es ep/\es.toList=xs.map (entryOfKey (tupleKind (vX P w)))/\(xs.map (·.1)).Nodup
 |.set S n=>h.SetOf (intKind P w) a S n
 |.ins C dx fs=>H dx=some (.own a)/\fs.length<=1000/\dx≠a/\h.get? a=some (PySem.W.instObj C dx) /\
   ∃mA,h.Ns1 dx mA/\(∀f,tU (fs.lookup f) (mA f))/\PySem.Within mA (fs.map (·.1))
 |.own _=>∃o,h.get? a=some o
 |.xd fs=>∃mA,h.Ns1 a mA/\∀f,tU (fs.lookup f) (mA f)
 |.rng lo hi=>∃t u v,h.get? a=some {cls:=.type "range",data:=.fields #[.int lo t,.int hi u,.int 1 v]}
 |.frz o u=>h.get? a=some o/\dR H h a u
 |.tbl ps=>h.get? a=some {cls:=.none,data:=.fields ps}
 |.met f x=>h.get? a=some (PySem.W.methodObj (.ref f) (.ref x))
 |.ext φ=>φ h/\(∃o,h.get? a=some o)/\∀h1 h2:Heap,φ h1->(∀o,h1.get? a=some o->h2.get? a=some o)->φ h2
noncomputable def HOk (H:Hp) (h:Heap):Prop:=∀a o,H a=some o->dR P w H h a o
end
section
variable {P:Program} {w:World} {H H':Hp} {h h':Heap} {a:Addr} {o:HO}
theorem dR.lt (x:dR P w H h a o):a<h.objs.size:=by
 cases o with
 |lst xs=>obtain ⟨_,_,_,_,e⟩:=x;exact Heap.lt_size e
 |tup xs=>obtain ⟨_,_,_,p⟩:=x;exact p.lt
 |dK kvs=>obtain ⟨_,_,_,_,o,_,_,e,_⟩:=x;exact Heap.lt_size e
 |dT kvs=>obtain ⟨_,_,_,_,o,_,_,e,_⟩:=x;exact Heap.lt_size e
 |set S n=>obtain ⟨o,_,_,_,e,_⟩:=x;exact Heap.lt_size e
 |ins C dx fs=>obtain ⟨_,_,_,e,_⟩:=x;exact Heap.lt_size e
 |own y=>obtain ⟨_,e⟩:=x;exact Heap.lt_size e
 |xd fs=>obtain ⟨_,⟨_,_,_,e,_⟩,_⟩:=x;exact Heap.lt_size e
 |rng lo hi=>obtain ⟨_,_,_,e⟩:=x;exact Heap.lt_size e
 |frz ob u=>obtain ⟨e,_⟩:=x;exact Heap.lt_size e
 |tbl ps=>exact Heap.lt_size (show h.get? a=some _ from x)
 |met f y=>exact Heap.lt_size (show h.get? a=some _ from x)
 |ext φ=>obtain ⟨_,⟨_,e⟩,_⟩:=x;exact Heap.lt_size e
theorem Paired.mapP {α β:Type} {F G:α->β->Prop}:∀{l₁:List α} {l₂:List β},Paired F l₁ l₂->(∀a b,F a b->G a b)->Paired G l₁ l₂
 |_,_,.nil,_=>.nil
 |_,_,.cons r t,f=>.cons (f _ _ r) (Paired.mapP t f)
theorem dR.vH (x:dR P w H h a o) (k:∀b u,(b=a\/H b=some (.own a))->h.get? b=some u->h'.get? b=some u)
  (ho:∀b,H b=some (.own a)->H' b=some (.own a)) (ht:∀b xs,H b=some (.tup xs)->H' b=some (.tup xs)):dR P w H' h' a o:=by
 induction o with
 |lst xs=>obtain ⟨z,its,n,r,e⟩:=x;exact ⟨z,its,n,r,k _ _ (.inl rfl) e⟩
 |tup xs=>obtain ⟨z,its,r,ob,e,c⟩:=x;exact ⟨z,its,r,ob,k _ _ (.inl rfl) e,c⟩
 |dK kvs=>obtain ⟨z,y,vs,r,ob,es,ep,e,c⟩:=x;exact ⟨z,y,vs,r,ob,es,ep,k _ _ (.inl rfl) e,c⟩
 |dT kvs=>
  obtain ⟨z,y,xs,r,ob,es,ep,e,c⟩:=x
  exact ⟨z,y,xs,Paired.mapP r fun p q z=>⟨z.1,ht _ _ z.2.1,z.2.2⟩,ob,es,ep,k _ _ (.inl rfl) e,c⟩
 |set S n=>obtain ⟨ob,es,ep,t,e,c⟩:=x;exact ⟨ob,es,ep,t,k _ _ (.inl rfl) e,c⟩
 |ins C dx fs=>
  obtain ⟨d,z,ne,e,mA,⟨od,es,ep,e2,c⟩,r⟩:=x
  exact ⟨ho _ d,z,ne,k _ _ (.inl rfl) e,mA,⟨od,es,ep,k _ _ (.inr d) e2,c⟩,r⟩
 |own y=>obtain ⟨ob,e⟩:=x;exact ⟨ob,k _ _ (.inl rfl) e⟩
 |xd fs=>obtain ⟨mA,⟨od,es,ep,e,c⟩,r⟩:=x;exact ⟨mA,⟨od,es,ep,k _ _ (.inl rfl) e,c⟩,r⟩
 |rng lo hi=>obtain ⟨t,u,v,e⟩:=x;exact ⟨t,u,v,k _ _ (.inl rfl) e⟩
 |frz ob u ih=>obtain ⟨e,q⟩:=x;exact ⟨k _ _ (.inl rfl) e,ih q⟩
 |tbl ps=>
  have e:h.get? a=some {cls:=.none,data:=.fields ps}:=x
  show h'.get? a=some {cls:=.none,data:=.fields ps}
  exact k a _ (.inl rfl) e
 |met f y=>
  have e:h.get? a=some (PySem.W.methodObj (.ref f) (.ref y)):=x
  show h'.get? a=some (PySem.W.methodObj (.ref f) (.ref y))
  exact k a _ (.inl rfl) e
 |ext φ=>obtain ⟨p,⟨o,e⟩,st⟩:=x;exact ⟨st _ _ p fun o q=>k _ _ (.inl rfl) q,⟨o,k _ _ (.inl rfl) e⟩,st⟩
theorem HOk.lt (x:HOk P w H h) (e:H a=some o):a<h.objs.size:=(x a o e).lt
theorem HOk.fresh (x:HOk P w H h) (e:h.objs.size<=a):H a=none:=by
 cases q:H a with
 |none=>rfl
 |some u=>exact absurd (Nat.lt_of_lt_of_le (x.lt q) e) (Nat.lt_irrefl _)
theorem HOk.kept (x:HOk P w H h) (k:∀b u,h.get? b=some u->h'.get? b=some u):HOk P w H h':=fun a o e=>
 (x a o e).vH (fun b u _ q=>k b u q) (fun _ q=>q) fun _ _ q=>q
theorem HOk.laid (x:HOk P w H h) (k:∀b u,h.get? b=some u->h'.get? b=some u) (hp:h.objs.size<=a) (new:dR P w (upd H a o) h' a o):HOk P w (upd H a o) h':=fun b u e=>by
 have hn:=x.fresh hp
 by_cases hb:b=a
 ·subst hb;rw [ao] at e;cases e;exact new
 ·rw [ar hb] at e
  exact (x b u e).vH (fun c v _ q=>k c v q) (fun c q=>by rw [ar (aM q hn)];exact q) fun c xs q=>by rw [ar (aM q hn)];exact q
end
noncomputable def Rd (H:Hp) (a:Addr) (u:HO):Prop:=H a=some u\/∃o,H a=some (.frz o u)
theorem Rd.ok {P:Program} {w:World} {H:Hp} {h:Heap} {a:Addr} {u:HO} (r:Rd H a u) (x:HOk P w H h):dR P w H h a u:=by
 rcases r with r|⟨o,r⟩
 ·exact x a u r
 ·obtain ⟨_,q⟩:=x a _ r
  exact q
noncomputable def Mut:Option HO->Prop
 |some (.lst _)=>True
 |some (.dK _)=>True
 |some (.dT _)=>True
 |some (.set _ _)=>True
 |some (.ins _ _ _)=>True
 |some (.ext _)=>True
 |_=>False
section
variable {P:Program} {w:World} {H:Hp} {h h':Heap} {x e:Addr} {o':HO}
theorem HOk.write (ok:HOk P w H h) (mu:Mut (H x)) (he:e=x\/H e=some (.own x)) (k:∀b u,b≠e->h.get? b=some u->h'.get? b=some u) (heo:∃u,h'.get? e=some u)
  (new:dR P w (upd H x o') h' x o'):HOk P w (upd H x o') h':=fun b u q=>by
 have nown:∀c y,H c=some (.own y)->c≠x:=fun c y r z=>by subst z;rw [r] at mu;exact mu
 have ntup:∀c xs,H c=some (.tup xs)->c≠x:=fun c xs r z=>by subst z;rw [r] at mu;exact mu
 by_cases hb:b=x
 ·subst hb;rw [ao] at q;cases q;exact new
 ·rw [ar hb] at q
  by_cases hbe:b=e
  ·have q':H b=some (.own x):=by
    rcases he with z|z
    ·exact absurd (hbe.trans z) hb
    ·rw [hbe];exact z
   rw [q] at q';cases q'
   obtain ⟨v,hv⟩:=heo
   exact ⟨v,by rw [hbe];exact hv⟩
  ·refine (ok b u q).vH (fun c v hc r=>k c v ?_ r) (fun c r=>by rw [ar (nown c b r)];exact r) fun c xs r=>by rw [ar (ntup c xs r)];exact r
   rcases hc with rfl|hc
   ·exact hbe
   ·rintro rfl
    rcases he with z|z
    ·exact nown c b hc z
    ·rw [hc] at z;cases z;exact hb rfl
end
structure Un (fs ex:List Addr) (H H':Hp) (h h':Heap):Prop where
 keep:∀b o,h.get? b=some o->H b=none->b∉fs->b∉ex->h'.get? b=some o
 slot:∀b o,h.get? b=some o->H b=none->b∈fs->b∉ex->∃sl,h'.get? b=some {o with slots:=sl}
 free:∀b o,h.get? b=some o->H b=none->b∉ex->H' b=none
 there:∀b o,h.get? b=some o->b∉ex->∃o',h'.get? b=some o'
 tups:∀b xs,H b=some (.tup xs)->H' b=some (.tup xs)
 frzs:∀b o u,H b=some (.frz o u)->H' b=some (.frz o u)
 tbls:∀b ps,H b=some (.tbl ps)->∃more,H' b=some (.tbl (ps++more))
section
variable {fs fs' ex ex':List Addr} {H H1 H2:Hp} {h h1 h2 h':Heap} {a x e:Addr} {o:HO}
theorem Un.any (u:Un fs ex H H1 h h1) {b:Addr} {ob:Obj} (q:h.get? b=some ob) (n:H b=none) (hx:b∉ex):∃sl,h1.get? b=some {ob with slots:=sl}:=by
 by_cases hb:b∈fs
 ·exact u.slot b ob q n hb hx
 ·exact ⟨ob.slots,u.keep b ob q n hb hx⟩
theorem Un.trans (a:Un fs ex H H1 h h1) (b:Un fs ex H1 H2 h1 h2):Un fs ex H H2 h h2 where
 keep:=fun c ob q n hc hx=>b.keep c ob (a.keep c ob q n hc hx) (a.free c ob q n hx) hc hx
 slot:=fun c ob q n hc hx=>by
  obtain ⟨sl,e1⟩:=a.slot c ob q n hc hx
  obtain ⟨sl',e2⟩:=b.slot c _ e1 (a.free c ob q n hx) hc hx
  exact ⟨sl',e2⟩
 free:=fun c ob q n hx=>by
  obtain ⟨o',e1⟩:=a.there c ob q hx
  exact b.free c o' e1 (a.free c ob q n hx) hx
 there:=fun c ob q hx=>by
  obtain ⟨o',e1⟩:=a.there c ob q hx
  exact b.there c o' e1 hx
 tups:=fun c xs q=>b.tups c xs (a.tups c xs q)
 frzs:=fun c ob xs q=>b.frzs c ob xs (a.frzs c ob xs q)
 tbls:=fun c ps q=>by
  obtain ⟨m1,e1⟩:=a.tbls c ps q
  obtain ⟨m2,e2⟩:=b.tbls c _ e1
  exact ⟨m1++m2,by rw [e2,Array.append_assoc]⟩
theorem Un.kept (k:∀b u,h.get? b=some u->h'.get? b=some u):Un fs ex H H h h':=
 ⟨fun b ob q _ _ _=>k b ob q,fun b ob q _ _ _=>⟨ob.slots,k b ob q⟩,fun _ _ _ n _=>n,fun b ob q _=>⟨ob,k b ob q⟩,fun _ _ q=>q,fun _ _ _ q=>q,fun _ ps q=>⟨#[],by rw [q];simp⟩⟩
theorem Un.refl:Un fs ex H H h h:=Un.kept fun _ _ q=>q
theorem Un.laid (k:∀b u,h.get? b=some u->h'.get? b=some u) (hp:h.objs.size<=a) (hn:H a=none):Un fs ex H (upd H a o) h h' where
 keep:=fun b u q _ _ _=>k b u q
 slot:=fun b u q _ _ _=>⟨u.slots,k b u q⟩
 free:=fun b u q n _=>by rw [ar (Nat.ne_of_lt (Nat.lt_of_lt_of_le (Heap.lt_size q) hp))];exact n
 there:=fun b u q _=>⟨u,k b u q⟩
 tups:=fun b xs q=>by rw [ar (aM q hn)];exact q
 frzs:=fun b u xs q=>by rw [ar (aM q hn)];exact q
 tbls:=fun b ps q=>⟨#[],by rw [ar (aM q hn),q];simp⟩
theorem Un.write (mu:Mut (H x)) (he:e=x\/H e=some (.own x)) (k:∀b u,b≠e->h.get? b=some u->h'.get? b=some u) (heo:∃u,h'.get? e=some u):Un fs ex H (upd H x o) h h':=by
 have hx:∀b,H b=none->b≠x:=fun b n z=>by subst z;rw [n] at mu;exact mu
 have hb:∀b,H b=none->b≠e:=fun b n z=>by
  subst z
  rcases he with r|r
  ·exact hx b n r
  ·rw [n] at r;cases r
 have hm:∀b u,H b=some u->¬Mut (some u)->b≠x:=fun b u q nm z=>by subst z;rw [q] at mu;exact nm mu
 refine ⟨fun b u q n _ _=>k b u (hb b n) q,fun b u q n _ _=>⟨u.slots,k b u (hb b n) q⟩,fun b u q n _=>by rw [ar (hx b n)];exact n,fun b u q _=>?_,
  fun b xs q=>by rw [ar (hm b _ q fun z=>z)];exact q,fun b u xs q=>by rw [ar (hm b _ q fun z=>z)];exact q,fun b ps q=>⟨#[],by rw [ar (hm b _ q fun z=>z),q];simp⟩⟩
 by_cases hbe:b=e
 ·subst hbe;exact heo
 ·exact ⟨u,k b u hbe q⟩
end
noncomputable def trk (h:Heap) (H:Hp):List Addr:=(List.range h.objs.size).filter fun a=>(H a).isSome
noncomputable def hidT (h:Heap) (H:Hp):Heap:=PySem.W.hideAll h (trk h H)
theorem A6 (h:Heap) (H:Hp):(hidT h H).objs.size=h.objs.size:=PySem.W.hideAll_size _ _
theorem hidT_get {h:Heap} {H:Hp} {b:Addr} {o:Obj} (e:h.get? b=some o) (n:H b=none):(hidT h H).get? b=some o:=
 PySem.W.hideAll_get _ e fun hm=>by
  have q:(H b).isSome=true:=(List.mem_filter.mp hm).2
  rw [n] at q;simp at q
theorem of_hidT {h:Heap} {H:Hp} {b:Addr} {o:Obj} (e:(hidT h H).get? b=some o):h.get? b=some o/\H b=none:=by
 have e':h.get? b=some o:=PySem.W.of_hideAll (trk h H) e
 refine ⟨e',?_⟩
 cases q:H b with
 |none=>rfl
 |some x=>
  have hm:b∈trk h H:=List.mem_filter.mpr ⟨List.mem_range.mpr (Heap.lt_size e'),by simp [q]⟩
  have z:(hidT h H).get? b=none:=PySem.W.hideAll_none (trk h H) hm
  rw [z] at e;cases e
end L2
namespace L2
open PySem PySem.Spec PyProof.Rows
structure Mod (K:PySem.W.Frag) (mg:Str->Option Value) (base:Heap):Prop where
 kin:K.In base
 glob:base.Ns mainGlobals mg
 blt:∃mb,base.Ns builtinsNs mb/\∀x:Str,x≠"__name__"->mb x=bootBuiltins x
 nolimit:base.NoLimit
structure Cx where
 prog:Program
 w:World
 K:PySem.W.Frag
 mg:Str->Option Value
 base:Heap
 A:Around
 N:List Str
 s₀:Shared
 H₀:Hp
 env:Env
 outer:List Env
 stack:List Env
 ex:List Addr
 fn:Str->Bool
 calm:Bool
 pn:List (Addr×Obj)
 xe:Value->Shared->Prop
noncomputable def frs (l:List Env):List Addr:=l.filterMap (·.frame)
noncomputable abbrev Cx.fs (X:Cx):List Addr:=frs X.outer
noncomputable def Vis (sc:Scope) (x:Str):Prop:=sc.names.lookup x=some .local\/sc.names.lookup x=some .cell\/sc.names.lookup x=some .free
noncomputable def Loc (sc:Scope) (x:Str):Prop:=sc.names.lookup x=some .local\/sc.names.lookup x=some .cell
noncomputable def Look (env:Env) (h:Heap) (m:Str->Option Value) (x:Str) (u:Value):Prop:=
 (env.kindOf x=some .local/\m x=some u)\/((env.kindOf x=some .cell\/env.kindOf x=some .free)/\∃c,env.cells.lookup x=some c/\h.IsCell c (some u))
structure Cx.Ok (X:Cx):Prop where
 mod:Mod X.K X.mg X.base
 kind:X.env.scope.kind=.function
 glob:X.env.globals=mainGlobals
 blt:X.env.builtins=builtinsNs
 above:X.s₀.heap.objs.size<=X.env.locals
 inj:∀x y c,X.env.cells.lookup x=some c->X.env.cells.lookup y=some c->x=y
 has:∀x,(X.env.kindOf x=some .cell\/X.env.kindOf x=some .free)->∃c,X.env.cells.lookup x=some c
 cab:∀x c,X.fn x=true->X.env.cells.lookup x=some c->X.s₀.heap.objs.size<=c
 hd:X.calm=true->X.A.handled=none
 frames:X.A.frames=some X.stack
 stk:X.stack=X.outer\/(X.stack=X.env::X.outer/\X.env.frame=some X.env.locals)
 exf:∀b∈X.ex,b≠X.env.locals/\∀x c,X.env.cells.lookup x=some c->c≠b
 bs:∀b o,X.base.get? b=some o->X.s₀.heap.get? b=some o/\X.H₀ b=none
 bsz:X.base.objs.size<=X.s₀.heap.objs.size
 noex:∀b o,X.base.get? b=some o->b∉X.ex
 exfs:∀b∈X.ex,b∉X.fs
 uM:X.s₀.heap.FunFrames X.base X.outer
 frf:∀b∈X.fs,X.H₀ b=none
structure Inv (X:Cx) (pins:List (Addr×Obj)) (σ:List (Option V)) (H:Hp) (s:Shared):Prop where
 ok:X.Ok
 os:s.os=X.s₀.os
 bare:AllBare s.gens
 base:Un X.fs X.ex X.H₀ H X.s₀.heap s.heap
 loc:∃m,s.heap.Ns X.env.locals m/\∀(i:Nat) (x:Str) (v:V),X.N[i]? =some x->σ[i]? =some (some v)->Vis X.env.scope x->∃u,RelV v u/\Look X.env s.heap m x u
 cell:∀x c,X.env.cells.lookup x=some c->∃v,s.heap.IsCell c v
 free:H X.env.locals=none
 freeC:∀x c,X.env.cells.lookup x=some c->H c=none
 pin:∀p∈X.pn++pins,s.heap.get? p.1=some p.2/\H p.1=none/\p.1≠X.env.locals/\p.1∉X.fs/\∀v,p.2.data≠.cell v
 hok:HOk X.prog X.w H s.heap
 len:σ.length=X.N.length
section
variable {X:Cx} {pins:List (Addr×Obj)} {σ:List (Option V)} {H H':Hp} {s:Shared} {h':Heap}
theorem Cx.Ok.nofr (ok:X.Ok) {b:Addr} {o:Obj} (e:X.base.get? b=some o):b∉X.fs:=fun hb=>by
 have:=(ok.uM.mem hb).1
 rw [e] at this;cases this
theorem Inv.bs (I:Inv X pins σ H s):∀b o,X.base.get? b=some o->s.heap.get? b=some o/\H b=none:=fun b o e=>
 ⟨I.base.keep b o (I.ok.bs b o e).1 (I.ok.bs b o e).2 (I.ok.nofr e) (I.ok.noex b o e),I.base.free b o (I.ok.bs b o e).1 (I.ok.bs b o e).2 (I.ok.noex b o e)⟩
theorem Inv.bk (I:Inv X pins σ H s):∀b o,X.base.get? b=some o->s.heap.get? b=some o:=fun b o e=>(I.bs b o e).1
theorem Inv.mod (I:Inv X pins σ H s):Mod X.K X.mg X.base:=I.ok.mod
theorem Inv.kIn (I:Inv X pins σ H s):X.K.In s.heap:=I.ok.mod.kin.keeps I.bk
theorem Inv.lt (I:Inv X pins σ H s):X.env.locals<s.heap.objs.size:=let ⟨_,hn,_⟩:=I.loc;hn.lt
theorem Inv.sz (I:Inv X pins σ H s):X.s₀.heap.objs.size<=s.heap.objs.size:=Nat.le_trans I.ok.above (Nat.le_of_lt I.lt)
theorem Inv.nofs (I:Inv X pins σ H s) {a:Addr} (h:s.heap.objs.size<=a):a∉X.fs:=fun hb=>by
 obtain ⟨_,o,ho,_⟩:=I.ok.uM.mem hb
 exact absurd (Nat.lt_of_lt_of_le (Heap.lt_size ho) (Nat.le_trans I.sz h)) (Nat.lt_irrefl _)
theorem Inv.cne (I:Inv X pins σ H s):∀x c,X.env.cells.lookup x=some c->c≠X.env.locals:=fun x c e z=>by
 obtain ⟨v,o,ho,hd⟩:=I.cell x c e
 obtain ⟨m,⟨o',es,ep,ho',hd',_⟩,_⟩:=I.loc
 rw [z,ho'] at ho;cases ho;rw [hd'] at hd;cases hd
theorem Inv.uM (I:Inv X pins σ H s):s.heap.FunFrames X.base X.outer:=by
 have all:∀(l:List Env),(∀b∈frs l,b∈X.fs)->X.s₀.heap.FunFrames X.base l->s.heap.FunFrames X.base l:=by
  intro l
  induction l with
  |nil=>intro _ _;trivial
  |cons env r ih=>
   intro hs hl
   obtain ⟨hk,⟨L,o,hf,hn,ho,hd⟩,hr⟩:=hl
   have hL:L∈X.fs:=hs L (by unfold frs;rw [List.filterMap_cons,hf];exact List.mem_cons_self)
   obtain ⟨sl,e⟩:=I.base.slot L o ho (I.ok.frf L hL) hL fun z=>I.ok.exfs L z hL
   exact ⟨hk,⟨L,_,hf,hn,e,hd⟩,ih (fun b hb=>hs b (by unfold frs;rw [List.filterMap_cons,hf];exact List.mem_cons_of_mem _ hb)) hr⟩
 exact all X.outer (fun _ hb=>hb) I.ok.uM
theorem Inv.stack (I:Inv X pins σ H s):s.heap.FunFrames X.base X.stack:=by
 rcases I.ok.stk with e|⟨e,hf⟩
 ·rw [e];exact I.uM
 ·rw [e]
  obtain ⟨m,hn,_⟩:=I.loc
  refine .cons (by rw [I.ok.kind];decide) hf hn ?_ I.uM
  exact Heap.get?_none_of_le (Nat.le_trans I.ok.bsz I.ok.above)
theorem Inv.rh (I:Inv X pins σ H s):∀b∈frs X.stack,b∈X.env.locals::X.fs:=fun b hb=>by
 rcases I.ok.stk with e|⟨e,hf⟩
 ·rw [e] at hb;exact List.mem_cons_of_mem _ hb
 ·rw [e] at hb
  unfold frs at hb
  rw [List.filterMap_cons,hf] at hb
  exact hb
theorem Inv.yV (I:Inv X pins σ H s):∀b∈frs X.stack,H b=none:=fun b hb=>by
 rcases List.mem_cons.mp (I.rh b hb) with e|hb
 ·rw [e];exact I.free
 ·obtain ⟨_,o,ho,_⟩:=I.ok.uM.mem hb
  exact I.base.free b o ho (I.ok.frf b hb) fun z=>I.ok.exfs b z hb
theorem Inv.step {g':Array GenState} {t':Nat} {d':Drawn} {ch:List Addr} (I:Inv X pins σ H s)
  (hch:∀b∈ch,(b∈X.ex\/X.s₀.heap.objs.size<=b)/\b≠X.env.locals/\(∀x c,X.env.cells.lookup x=some c->c≠b)/\∀p∈X.pn++pins,p.1≠b)
  (keep:∀b o,b≠X.env.locals->b∉X.fs->b∉ch->s.heap.get? b=some o->H b=none->h'.get? b=some o)
  (slot:∀b o,b≠X.env.locals->b∈X.fs->b∉ch->s.heap.get? b=some o->H b=none->∃sl,h'.get? b=some {o with slots:=sl}) (free:∀b o,b∉ch->s.heap.get? b=some o->H b=none->H' b=none)
  (there:∀b o,b∉ch->s.heap.get? b=some o->∃o',h'.get? b=some o')
  (tups:∀b xs,H b=some (.tup xs)->H' b=some (.tup xs)) (frzs:∀b o u,H b=some (.frz o u)->H' b=some (.frz o u)) (tbls:∀b ps,H b=some (.tbl ps)->∃more,H' b=some (.tbl (ps++more)))
  (ns:∀m,s.heap.Ns X.env.locals m->h'.Ns X.env.locals m) (hok:HOk X.prog X.w H' h') (hg:AllBare g') :
  Inv X pins σ H' {s with heap:=h',gens:=g',drawn:=d',toks:=t'}:=by
 have neL:∀b o,X.s₀.heap.get? b=some o->b≠X.env.locals:=fun b o e=>Nat.ne_of_lt (Nat.lt_of_lt_of_le (Heap.lt_size e) I.ok.above)
 have neC:∀b o,X.s₀.heap.get? b=some o->b∉X.ex->b∉ch:=fun b o e hx hb=>by
  rcases (hch b hb).1 with z|z
  ·exact hx z
  ·exact absurd (Nat.lt_of_lt_of_le (Heap.lt_size e) z) (Nat.lt_irrefl _)
 have cellK:∀x c,X.env.cells.lookup x=some c->∀v,s.heap.IsCell c v->h'.IsCell c v:=fun x c e v ⟨o,ho,hd⟩=>by
  have nch:c∉ch:=fun z=>(hch c z).2.2.1 x c e rfl
  by_cases hc:c∈X.fs
  ·obtain ⟨sl,q⟩:=slot c o (I.cne x c e) hc nch ho (I.freeC x c e)
   exact ⟨_,q,hd⟩
  ·exact ⟨o,keep c o (I.cne x c e) hc nch ho (I.freeC x c e),hd⟩
 refine ⟨I.ok,I.os,hg,⟨fun b o e n hb hx=>?_,fun b o e n hb hx=>?_,fun b o e n hx=>?_,fun b o e hx=>?_,fun b xs e=>tups b xs (I.base.tups b xs e),fun b o xs e=>frzs b o xs (I.base.frzs b o xs e),fun b ps e=>?_⟩,?_,fun x c e=>?_,?_,fun x c e=>?_,fun p hp=>?_,hok,I.len⟩
 ·exact keep b o (neL b o e) hb (neC b o e hx) (I.base.keep b o e n hb hx) (I.base.free b o e n hx)
 ·obtain ⟨sl,e1⟩:=I.base.slot b o e n hb hx
  obtain ⟨sl',e2⟩:=slot b _ (neL b o e) hb (neC b o e hx) e1 (I.base.free b o e n hx)
  exact ⟨sl',e2⟩
 ·obtain ⟨o',e1⟩:=I.base.there b o e hx
  exact free b o' (neC b o e hx) e1 (I.base.free b o e n hx)
 ·obtain ⟨o',e1⟩:=I.base.there b o e hx
  exact there b o' (neC b o e hx) e1
 ·obtain ⟨m1,e1⟩:=I.base.tbls b ps e
  obtain ⟨m2,e2⟩:=tbls b _ e1
  exact ⟨m1++m2,by rw [e2,Array.append_assoc]⟩
 ·obtain ⟨m,hn,hl⟩:=I.loc
  refine ⟨m,ns m hn,fun i x v e1 e2 e3=>?_⟩
  obtain ⟨u,r,l⟩:=hl i x v e1 e2 e3
  refine ⟨u,r,?_⟩
  rcases l with l|⟨k,c,e,z⟩
  ·exact .inl l
  ·exact .inr ⟨k,c,e,cellK x c e _ z⟩
 ·obtain ⟨v,z⟩:=I.cell x c e
  exact ⟨v,cellK x c e v z⟩
 ·obtain ⟨m,⟨o,_,_,ho,_⟩,_⟩:=I.loc
  exact free _ o (fun z=>(hch _ z).2.1 rfl) ho I.free
 ·obtain ⟨v,o,ho,hd⟩:=I.cell x c e
  exact free c o (fun z=>(hch c z).2.2.1 x c e rfl) ho (I.freeC x c e)
 ·obtain ⟨e,n,ne,nf,d⟩:=I.pin p hp
  have nch:p.1∉ch:=fun z=>(hch p.1 z).2.2.2 p hp rfl
  exact ⟨keep p.1 p.2 ne nf nch e n,free p.1 p.2 nch e n,ne,nf,d⟩
theorem Inv.un {t':Nat} (I:Inv X pins σ H s) (u:Un X.fs [] H H' s.heap h') (hok:HOk X.prog X.w H' h'):Inv X pins σ H' {s with heap:=h',toks:=t'}:=by
 obtain ⟨m,⟨o,es,ep,ho,r⟩,_⟩:=id I.loc
 obtain ⟨sl,hL⟩:=u.any ho I.free (by simp)
 exact I.step (g':=s.gens) (d':=s.drawn) (ch:=[]) (fun _ z=>nomatch z) (fun b o _ hb _ e n=>u.keep b o e n hb (by simp)) (fun b o _ hb _ e n=>u.slot b o e n hb (by simp)) (fun b o _ e n=>u.free b o e n (by simp)) (fun b o _ e=>u.there b o e (by simp)) u.tups u.frzs u.tbls (fun m' hm=>by
  obtain ⟨o',es',ep',ho',r'⟩:=hm
  rw [ho] at ho';cases ho'
  exact ⟨_,es',ep',hL,r'⟩) hok I.bare
theorem Inv.call {g':Array GenState} {t':Nat} {d':Drawn} {ch:List Addr} (I:Inv X pins σ H s) (u:Un (frs X.stack) ch H H' s.heap h') (hok:HOk X.prog X.w H' h') (hg:AllBare g')
  (hch:∀b∈ch,(b∈X.ex\/X.s₀.heap.objs.size<=b)/\b≠X.env.locals/\(∀x c,X.env.cells.lookup x=some c->c≠b)/\∀p∈X.pn++pins,p.1≠b) :
  Inv X pins σ H' {s with heap:=h',gens:=g',drawn:=d',toks:=t'}:=by
 obtain ⟨m,⟨o,es,ep,ho,r⟩,_⟩:=id I.loc
 obtain ⟨sl,hL⟩:=u.any ho I.free fun z=>(hch _ z).2.1 rfl
 exact I.step (ch:=ch) hch (fun b o hL hb hc e n=>u.keep b o e n (fun z=>(List.mem_cons.mp (I.rh b z)).elim hL hb) hc) (fun b o _ _ hc e n=>u.any e n hc) (fun b o hc e n=>u.free b o e n hc) (fun b o hc e=>u.there b o e hc) u.tups u.frzs u.tbls (fun m' hm=>by
  obtain ⟨o',es',ep',ho',r'⟩:=hm
  rw [ho] at ho';cases ho'
  exact ⟨_,es',ep',hL,r'⟩) hok hg
theorem Inv.turned {t':Nat} {it:Addr} (I:Inv X pins σ H s) (k:∀b o,b≠it->s.heap.get? b=some o->h'.get? b=some o) (hn:H it=none) (hL:it≠X.env.locals)
  (h1:it∈X.ex\/X.s₀.heap.objs.size<=it) (h2:∀x c,X.env.cells.lookup x=some c->c≠it) (h3:∀p∈X.pn++pins,p.1≠it):Inv X pins σ H {s with heap:=h',toks:=t'}:=by
 have nit:∀b u,H b=some u->b≠it:=fun b u e z=>by rw [z,hn] at e;cases e
 refine I.step (g':=s.gens) (d':=s.drawn) (ch:=[it]) (fun b hb=>?_) (fun b o _ _ hc e _=>k b o (fun z=>hc (by simp [z])) e) (fun b o _ _ hc e _=>⟨o.slots,k b o (fun z=>hc (by simp [z])) e⟩) (fun _ _ _ _ n=>n)
  (fun b o hc e=>⟨o,k b o (fun z=>hc (by simp [z])) e⟩) (fun _ _ e=>e) (fun _ _ _ e=>e) (fun b ps e=>⟨#[],by rw [e];simp⟩) (fun m hm=>?_) (fun b u e=>?_) I.bare
 ·have e:b=it:=by simpa using hb
  subst e
  exact ⟨h1,hL,h2,h3⟩
 ·obtain ⟨o,es,ep,ho,r⟩:=hm
  exact ⟨o,es,ep,k _ o (Ne.symm hL) ho,r⟩
 ·refine (I.hok b u e).vH (fun c v hc q=>k c v ?_ q) (fun _ q=>q) fun _ _ q=>q
  rcases hc with z|z
  ·rw [z];exact nit b u e
  ·exact nit c _ z
theorem Inv.tok (I:Inv X pins σ H s) (t:Nat):Inv X pins σ H {s with toks:=t}:=I.un (h':=s.heap) (t':=t) Un.refl I.hok
theorem Inv.kept {t':Nat} (I:Inv X pins σ H s) (k:∀b u,s.heap.get? b=some u->h'.get? b=some u):Inv X pins σ H {s with heap:=h',toks:=t'}:=I.un (Un.kept k) (I.hok.kept k)
theorem Inv.laid {a:Addr} {o:HO} {t':Nat} (I:Inv X pins σ H s) (k:∀b u,s.heap.get? b=some u->h'.get? b=some u) (hp:s.heap.objs.size<=a) (new:dR X.prog X.w (upd H a o) h' a o) :
  Inv X pins σ (upd H a o) {s with heap:=h',toks:=t'}:=I.un (Un.laid k hp (I.hok.fresh hp)) (I.hok.laid k hp new)
theorem Inv.write {x e:Addr} {o:HO} {t':Nat} (I:Inv X pins σ H s) (mu:Mut (H x)) (he:e=x\/H e=some (.own x)) (k:∀b u,b≠e->s.heap.get? b=some u->h'.get? b=some u) (heo:∃u,h'.get? e=some u)
  (new:dR X.prog X.w (upd H x o) h' x o):Inv X pins σ (upd H x o) {s with heap:=h',toks:=t'}:=I.un (Un.write mu he k heo) (I.hok.write mu he k heo new)
theorem Inv.weak {σ':List (Option V)} (I:Inv X pins σ H s) (hl:σ'.length=σ.length) (w:∀(i:Nat) v,σ'[i]? =some (some v)->σ[i]? =some (some v)):Inv X pins σ' H s:=
 ⟨I.ok,I.os,I.bare,I.base,let ⟨m,hn,hl'⟩:=I.loc;⟨m,hn,fun i x v e1 e2 e3=>hl' i x v e1 (w i v e2) e3⟩,I.cell,I.free,I.freeC,I.pin,I.hok,hl.trans I.len⟩
theorem Inv.sC {pins':List (Addr×Obj)} (I:Inv X pins σ H s) (h:∀p∈pins',s.heap.get? p.1=some p.2/\H p.1=none/\p.1≠X.env.locals/\p.1∉X.fs/\∀v,p.2.data≠.cell v):Inv X pins' σ H s:=
 ⟨I.ok,I.os,I.bare,I.base,I.loc,I.cell,I.free,I.freeC,fun p hp=>(List.mem_append.mp hp).elim (fun z=>I.pin p (List.mem_append_left _ z)) (h p),I.hok,I.len⟩
theorem sS {N:List Str} (hN:N.Nodup) {i j:Nat} {x:Str} (a:N[i]? =some x) (b:N[j]? =some x):i=j:=by
 obtain ⟨h1,e1⟩:=List.getElem?_eq_some_iff.mp a
 obtain ⟨h2,e2⟩:=List.getElem?_eq_some_iff.mp b
 exact (List.getElem_inj hN).mp (e1.trans e2.symm)
theorem u6 {M:Model} {A:Around} {E:Value->Shared->Prop} {i:Nat} {x:Str} {v:V} {u:Value} {Q:Unit->Shared->Prop} (I:Inv X pins σ H s) (hN:X.N.Nodup) (hi:X.N[i]? =some x) (hx:Loc X.env.scope x) (r:RelV v u)
  (h:∀s',Inv X pins (σ.set i (some v)) H s'->(∃a,Heap.SameBut a s.heap s'.heap/\(a=X.env.locals\/X.env.cells.lookup x=some a))->Q () s') (hf:X.fn x=true\/X.env.scope.names.lookup x=some .local:=by first|exact .inl rfl|exact .inr rfl|assumption):wpAny M A (storeName X.env x u) Q E s:=by
 obtain ⟨m,hn,hl⟩:=id I.loc
 have hcls:(X.env.scope.kind==.class||(X.env.scope.kind==.module&&X.env.locals != X.env.globals))=false:=by rw [I.ok.kind];rfl
 have hiσ:i<σ.length:=by rw [I.len];exact (List.getElem?_eq_some_iff.mp hi).1
 have cne:=I.cne
 have tracked:∀{a:Addr} {h':Heap},(∃o,s.heap.get? a=some o/\H a=none)->Heap.SameBut a s.heap h'->HOk X.prog X.w H h':=fun {a h'} ha hs b ob e=>by
  obtain ⟨_,_,hfree⟩:=ha
  refine (I.hok b ob e).vH (fun c w' hc q=>(hs.2 c ?_).trans q) (fun _ q=>q) fun _ _ q=>q
  rintro rfl
  rcases hc with rfl|hc
  ·rw [hfree] at e;cases e
  ·rw [hfree] at hc;cases hc
 rcases hx with hk|hk
 ·refine wpAny_storeName_local hk hn (fun h' hn' hs=>?_) hcls
  obtain ⟨oL,_,_,hoL,_⟩:=id hn
  refine h _ ⟨I.ok,I.os,I.bare,⟨fun b o e n hb hx=>?_,fun b o e n hb hx=>?_,I.base.free,fun b o e hx=>?_,I.base.tups,I.base.frzs,I.base.tbls⟩,⟨_,hn',fun j y v' e1 e2 e3=>?_⟩,fun y c e=>?_,I.free,I.freeC,fun p hp=>?_,tracked ⟨oL,hoL,I.free⟩ hs,by simpa using I.len⟩ ⟨_,hs,.inl rfl⟩
  ·exact (hs.2 b (Nat.ne_of_lt (Nat.lt_of_lt_of_le (Heap.lt_size e) I.ok.above))).trans (I.base.keep b o e n hb hx)
  ·obtain ⟨sl,e1⟩:=I.base.slot b o e n hb hx
   exact ⟨sl,(hs.2 b (Nat.ne_of_lt (Nat.lt_of_lt_of_le (Heap.lt_size e) I.ok.above))).trans e1⟩
  ·obtain ⟨o',e1⟩:=I.base.there b o e hx
   exact ⟨o',(hs.2 b (Nat.ne_of_lt (Nat.lt_of_lt_of_le (Heap.lt_size e) I.ok.above))).trans e1⟩
  ·by_cases hj:j=i
   ·subst hj
    rw [hi] at e1;cases e1
    rw [List.getElem?_set_self hiσ] at e2
    cases e2
    exact ⟨u,r,.inl ⟨hk,by simp⟩⟩
   ·rw [List.getElem?_set_ne (Ne.symm hj)] at e2
    obtain ⟨u',r',q⟩:=hl j y v' e1 e2 e3
    refine ⟨u',r',?_⟩
    rcases q with ⟨k,e⟩|⟨k,c,e,z⟩
    ·refine .inl ⟨k,?_⟩
     have:y≠x:=fun e=>hj (sS hN e1 (e▸hi))
     simp [this,e]
    ·exact .inr ⟨k,c,e,z.sameBut hs (cne y c e)⟩
  ·obtain ⟨w',z⟩:=I.cell y c e
   exact ⟨w',z.sameBut hs (cne y c e)⟩
  ·obtain ⟨e,n,ne,nf,d⟩:=I.pin p hp
   exact ⟨(hs.2 p.1 ne).trans e,n,ne,nf,d⟩
 ·have hfn:X.fn x=true:=by
   rcases hf with z|z
   ·exact z
   ·rw [z] at hk;cases hk
  obtain ⟨c,hc⟩:=I.ok.has x (.inl hk)
  obtain ⟨w',z⟩:=I.cell x c hc
  refine wpAny_storeName_cell I.ok.kind hk hc z (fun h' hc' hs=>?_)
  obtain ⟨oc,hoc,hocd⟩:=id z
  refine h {s with heap:=h'} ⟨I.ok,I.os,I.bare,⟨fun b o e n hb hx=>?_,fun b o e n hb hx=>?_,I.base.free,fun b o e hx=>?_,I.base.tups,I.base.frzs,I.base.tbls⟩,⟨m,hn.sameBut hs (Ne.symm (cne x c hc)),fun j y v' e1 e2 e3=>?_⟩,fun y c' e=>?_,I.free,I.freeC,fun p hp=>?_,tracked ⟨oc,hoc,I.freeC x c hc⟩ hs,by simpa using I.len⟩ ⟨c,hs,.inr hc⟩
  ·exact (hs.2 b (Nat.ne_of_lt (Nat.lt_of_lt_of_le (Heap.lt_size e) (I.ok.cab x c hfn hc)))).trans (I.base.keep b o e n hb hx)
  ·obtain ⟨sl,e1⟩:=I.base.slot b o e n hb hx
   exact ⟨sl,(hs.2 b (Nat.ne_of_lt (Nat.lt_of_lt_of_le (Heap.lt_size e) (I.ok.cab x c hfn hc)))).trans e1⟩
  ·obtain ⟨o',e1⟩:=I.base.there b o e hx
   exact ⟨o',(hs.2 b (Nat.ne_of_lt (Nat.lt_of_lt_of_le (Heap.lt_size e) (I.ok.cab x c hfn hc)))).trans e1⟩
  ·by_cases hj:j=i
   ·subst hj
    rw [hi] at e1;cases e1
    rw [List.getElem?_set_self hiσ] at e2
    cases e2
    exact ⟨u,r,.inr ⟨.inl hk,c,hc,hc'⟩⟩
   ·rw [List.getElem?_set_ne (Ne.symm hj)] at e2
    obtain ⟨u',r',q⟩:=hl j y v' e1 e2 e3
    refine ⟨u',r',?_⟩
    rcases q with q|⟨k,c',e,z'⟩
    ·exact .inl q
    ·refine .inr ⟨k,c',e,z'.sameBut hs ?_⟩
     rintro rfl
     exact hj (sS hN e1 (I.ok.inj _ _ _ e hc▸hi))
  ·by_cases hcc:c'=c
   ·subst hcc;exact ⟨_,hc'⟩
   ·obtain ⟨w2,z2⟩:=I.cell y c' e
    exact ⟨w2,z2.sameBut hs hcc⟩
  ·obtain ⟨e,n,ne,nf,d⟩:=I.pin p hp
   refine ⟨(hs.2 p.1 ?_).trans e,n,ne,nf,d⟩
   intro q
   rw [q,hoc] at e
   have q':oc=p.2:=Option.some.inj e
   exact d w' (by rw [<- q'];exact hocd)
theorem nE {M:Model} {A:Around} {E:Value->Shared->Prop} {i:Nat} {x:Str} {v:V} {u:Value} {Q:Unit->Shared->Prop} (I:Inv X pins σ H s) (hN:X.N.Nodup) (hi:X.N[i]? =some x) (hx:Loc X.env.scope x) (r:RelV v u)
  (h:∀s',Inv X pins (σ.set i (some v)) H s'->Q () s') (hf:X.fn x=true\/X.env.scope.names.lookup x=some .local:=by first|exact .inl rfl|exact .inr rfl|assumption):wpAny M A (storeName X.env x u) Q E s:=
 u6 I hN hi hx r (fun s' I' _=>h s' I') hf
theorem Inv.call' {s':Shared} {ch:List Addr} (I:Inv X pins σ H s) (ho:s'.os=s.os) (u:Un (frs X.stack) ch H H' s.heap s'.heap) (hok:HOk X.prog X.w H' s'.heap) (hg:AllBare s'.gens)
  (hch:∀b∈ch,(b∈X.ex\/X.s₀.heap.objs.size<=b)/\b≠X.env.locals/\(∀x c,X.env.cells.lookup x=some c->c≠b)/\∀p∈X.pn++pins,p.1≠b):Inv X pins σ H' s':=by
 obtain ⟨h',g',d',t',o'⟩:=s'
 have e:o'=s.os:=ho
 subst e
 exact I.call (g':=g') (t':=t') (d':=d') u hok hg hch
end
noncomputable abbrev XK:=Value->Option Addr->Hp->Prop
noncomputable abbrev St:=List (Option V)
noncomputable abbrev VK:=V->Hp->Prop
noncomputable abbrev TE:=St->Hp->VK->Prop
noncomputable abbrev TT:=St->Hp->(Bool->Hp->Prop)->Prop
noncomputable abbrev TA:=St->Hp->(List V->Hp->Prop)->Prop
structure Ends where
 nx:St->Hp->Prop
 rt:VK
 bk:St->Hp->Prop:=fun _ _=>False
 ct:St->Hp->Prop:=fun _ _=>False
noncomputable abbrev TS:=Ends->St->Hp->Prop
noncomputable def EP (X:Cx) (pins:List (Addr×Obj)) (σ:St) (Q:VK) (u:Value) (s':Shared):Prop:=∃v H',Inv X pins σ H' s'/\RelV v u/\Q v H'
noncomputable def TP (X:Cx) (pins:List (Addr×Obj)) (σ:St) (Q:Bool->Hp->Prop) (b:Bool) (s':Shared):Prop:=∃H',Inv X pins σ H' s'/\Q b H'
noncomputable def AP (X:Cx) (pins:List (Addr×Obj)) (σ:St) (Q:List V->Hp->Prop) (us:List Value) (s':Shared):Prop:=∃vs H',Inv X pins σ H' s'/\Vals vs us/\Q vs H'
noncomputable def SP (X:Cx) (pins:List (Addr×Obj)) (D:Ends) (f:Flow) (s':Shared):Prop:=
 match f with
 |.next=>∃σ' H',Inv X pins σ' H' s'/\D.nx σ' H'
 |.brk=>∃σ' H',Inv X pins σ' H' s'/\D.bk σ' H'
 |.cont=>∃σ' H',Inv X pins σ' H' s'/\D.ct σ' H'
 |.ret u=>∃v σ' H',Inv X pins σ' H' s'/\RelV v u/\D.rt v H'
noncomputable def PE (X:Cx) (e:Expr) (t:TE):Prop:=
 ∀(pins:List (Addr×Obj)) (s:Shared) (σ:St) (H:Hp) (Q:VK),Inv X pins σ H s->t σ H Q->wpAny (model X.prog X.w) X.A (eval e X.env) (EP X pins σ Q) X.xe s
noncomputable def PT (X:Cx) (e:Expr) (t:TT):Prop:=
 ∀(pins:List (Addr×Obj)) (s:Shared) (σ:St) (H:Hp) (Q:Bool->Hp->Prop),Inv X pins σ H s->t σ H Q->wpAny (model X.prog X.w) X.A (isTrue e X.env (eval e X.env)) (TP X pins σ Q) X.xe s
noncomputable def PW (X:Cx) (e:Expr) (t:TT):Prop:=
 ∀(whole:Sem Value) (pins:List (Addr×Obj)) (s:Shared) (σ:St) (H:Hp) (Q:Bool->Hp->Prop),Inv X pins σ H s->t σ H Q->wpAny (model X.prog X.w) X.A (isTrue e X.env whole) (TP X pins σ Q) X.xe s
theorem PW.pt {X:Cx} {e:Expr} {t:TT} (h:PW X e t):PT X e t:=h _
noncomputable def PA (X:Cx) (es:List Expr) (t:TA):Prop:=
 ∀(pos:Pos) (pins:List (Addr×Obj)) (s:Shared) (σ:St) (H:Hp) (Q:List V->Hp->Prop),Inv X pins σ H s->t σ H Q->wpAny (model X.prog X.w) X.A (spliced (backTo pos (starEach es X.env))) (AP X pins σ Q) X.xe s
noncomputable def PS (X:Cx) (st:Stmt) (t:TS):Prop:=
 ∀(pins:List (Addr×Obj)) (s:Shared) (σ:St) (H:Hp) (D:Ends),Inv X pins σ H s->t D σ H->wpAny (model X.prog X.w) X.A (exec st X.env) (SP X pins D) X.xe s
noncomputable def PSs (X:Cx) (st:List Stmt) (t:TS):Prop:=
 ∀(pins:List (Addr×Obj)) (s:Shared) (σ:St) (H:Hp) (D:Ends),Inv X pins σ H s->t D σ H->wpAny (model X.prog X.w) X.A (execs st X.env) (SP X pins D) X.xe s
theorem thn {α:Type} {t:Sem α} {Q Q':α->Shared->Prop} {M:Model} {A:Around} {E:Value->Shared->Prop} {s:Shared} (h:wpAny M A t Q E s) (hQ:∀a s,Q a s->Q' a s):wpAny M A t Q' E s:=wpAny_mono h hQ fun _ _ x=>x
end L2
namespace L2
open PySem PySem.Spec PyProof.Rows
section
variable {X:Cx}
noncomputable def tVar (i:Nat):TE:=fun σ H Q=>∃v,σ[i]? =some (some v)/\Q v H
noncomputable def tC (v:V):TE:=fun _ H Q=>Q v H
theorem pe_var {i:Nat} {x:Str} {pos:Pos} (hN:X.N[i]? =some x) (hv:Vis X.env.scope x) (hd:(x==("__debug__":Str))=false:=by decide) (hcd:(x==("__classdict__":Str))=false:=by decide):PE X (.Name x pos) (tVar i):=by
 intro pins s σ H Q I h
 obtain ⟨v,e,h⟩:=h
 obtain ⟨m,hn,hl⟩:=I.loc
 obtain ⟨u,r,l⟩:=hl i x v hN e hv
 have fin:EP X pins σ Q u s:=⟨v,H,I,r,h⟩
 rcases l with ⟨hk,hm⟩|⟨hk,c,hc,hcell⟩
 ·exact wpAny_Name (wpAny_loadName_local I.ok.kind hk hn hm fin) hd
 ·rcases hk with hk|hk
  ·exact wpAny_Name (wpAny_loadName_cell I.ok.kind hk hc hcell fin) hd
  ·exact wpAny_Name (wpAny_loadName_free I.ok.kind hk hc hcell fin hcd) hd
theorem pe_int {i j pos}:PE X (.Constant (.int i) j pos) (tC (.int i)):=fun _ _ _ H _ I h=>wpAny_Constant_int ⟨.int i,H,I.tok _,⟨_,rfl⟩,h⟩
theorem pe_bl {b j pos}:PE X (.Constant (.bool b) j pos) (tC (.bl b)):=fun _ _ _ H _ I h=>Constant_bool ⟨.bl b,H,I,rfl,h⟩
theorem pe_non {j pos}:PE X (.Constant .none j pos) (tC .non):=fun _ _ _ H _ I h=>Constant_none ⟨.non,H,I,rfl,h⟩
noncomputable def Gl (X:Cx) (x:Str):Prop:=X.env.kindOf x=some .globalImplicit
theorem kn {E:Value->Shared->Prop} {pins:List (Addr×Obj)} {s:Shared} {σ:St} {H:Hp} {x:Str} {u:Value} {pos:Pos} {Q:Value->Shared->Prop} (I:Inv X pins σ H s) (hg:Gl X x) (hm:X.mg x=some u) (h:Q u s)
  (hd:(x==("__debug__":Str))=false:=by decide):wpAny (model X.prog X.w) X.A (eval (.Name x pos) X.env) Q E s:=
 Calls.Name_function_global I.ok.kind hg (Calls.loadGlobal_global (by rw [I.ok.glob];exact I.mod.glob.keeps I.bk) hm h) hd
theorem mK {E:Value->Shared->Prop} {pins:List (Addr×Obj)} {s:Shared} {σ:St} {H:Hp} {x:Str} {u:Value} {pos:Pos} {Q:Value->Shared->Prop} (I:Inv X pins σ H s) (hg:Gl X x) (hm:X.mg x=none) (hv:bootBuiltins x=some u) (h:Q u s)
  (hn:x≠"__name__":=by decide) (hd:(x==("__debug__":Str))=false:=by decide):wpAny (model X.prog X.w) X.A (eval (.Name x pos) X.env) Q E s:=by
 obtain ⟨mb,h1,h2⟩:=I.mod.blt
 exact Calls.Name_function_global I.ok.kind hg (Calls.loadGlobal_builtin (by rw [I.ok.glob];exact I.mod.glob.keeps I.bk) hm (by rw [I.ok.blt];exact h1.keeps I.bk) ((h2 x hn).trans hv) h) hd
theorem pe_glob {x:Str} {v:V} {u:Value} {pos:Pos} (hg:Gl X x) (hm:X.mg x=some u) (r:RelV v u) (hd:(x==("__debug__":Str))=false:=by decide):PE X (.Name x pos) (tC v):=
 fun _ _ _ H _ I h=>kn I hg hm ⟨v,H,I,r,h⟩ hd
theorem pe_bltn {x:Str} {v:V} {u:Value} {pos:Pos} (hg:Gl X x) (hm:X.mg x=none) (hv:bootBuiltins x=some u) (r:RelV v u) (hn:x≠"__name__":=by decide) (hd:(x==("__debug__":Str))=false:=by decide):PE X (.Name x pos) (tC v):=
 fun _ _ _ H _ I h=>mK I hg hm hv ⟨v,H,I,r,h⟩ hn hd
variable {a b:Expr} {ta tb:TE} {pos:Pos}
variable {tA tB':TT} {rest:List Expr}
noncomputable def tAnd (t u:TT):TT:=fun σ H Q=>t σ H fun c H1=>if c=true then u σ H1 Q else Q false H1
noncomputable def tOr (t u:TT):TT:=fun σ H Q=>t σ H fun c H1=>if c=true then Q true H1 else u σ H1 Q
noncomputable def tNot (t:TT):TT:=fun σ H Q=>t σ H fun c H1=>Q (!c) H1
theorem pw_and1 (ha:PT X a tA):PW X (.BoolOp .And [a] pos) tA:=by
 intro wh pins s σ H Q I h
 refine isTrue_and (thn (ha pins s σ H Q I h) fun c s1 e=>?_)
 cases c with
 |true=>exact isTrue_and_nil e
 |false=>exact e
theorem pw_or1 (ha:PT X a tA):PW X (.BoolOp .Or [a] pos) tA:=by
 intro wh pins s σ H Q I h
 refine isTrue_or (thn (ha pins s σ H Q I h) fun c s1 e=>?_)
 cases c with
 |false=>exact isTrue_or_nil e
 |true=>exact e
theorem pw_and (ha:PT X a tA) (hb:PW X (.BoolOp .And (b::rest) pos) tB'):PW X (.BoolOp .And (a::b::rest) pos) (tAnd tA tB'):=by
 intro wh pins s σ H Q I h
 refine isTrue_and (thn (ha pins s σ H _ I h) fun c s1 ⟨H1,I1,q1⟩=>?_)
 cases c with
 |true=>exact hb wh pins s1 σ H1 Q I1 q1
 |false=>exact ⟨H1,I1,q1⟩
theorem pw_or (ha:PT X a tA) (hb:PW X (.BoolOp .Or (b::rest) pos) tB'):PW X (.BoolOp .Or (a::b::rest) pos) (tOr tA tB'):=by
 intro wh pins s σ H Q I h
 refine isTrue_or (thn (ha pins s σ H _ I h) fun c s1 ⟨H1,I1,q1⟩=>?_)
 cases c with
 |true=>exact ⟨H1,I1,q1⟩
 |false=>exact hb wh pins s1 σ H1 Q I1 q1
theorem pt_not (ha:PT X a tA):PT X (.UnaryOp .Not a pos) (tNot tA):=by
 intro pins s σ H Q I h
 exact isTrue_not (ha pins s σ H (fun c H1=>Q (!c) H1) I h)
noncomputable def tAndV (ta tb:TE):TE:=fun σ H Q=>ta σ H fun x H1=>∃c,x=.bl c/\if c=true then tb σ H1 Q else Q (.bl false) H1
noncomputable def tNotV (ta:TE):TE:=fun σ H Q=>ta σ H fun x H1=>∃c,x=.bl c/\Q (.bl (!c)) H1
theorem pe_one {op} {t:TE} (h:PE X a t):PE X (.BoolOp op [a] pos) t:=fun pins s σ H Q I hw=>BoolOp_one (h pins s σ H Q I hw)
theorem pe_and (ha:PE X a ta) (hb:PE X (.BoolOp .And (b::rest) pos) tb):PE X (.BoolOp .And (a::b::rest) pos) (tAndV ta tb):=by
 intro pins s σ H Q I h
 refine BoolOp_and (thn (ha pins s σ H _ I h) fun v s1 ⟨x,H1,I1,r1,q1⟩=>?_)
 obtain ⟨c,rfl,q1⟩:=q1
 cases r1
 refine wpAny_truthy_bool ?_
 cases c with
 |true=>exact hb pins s1 σ H1 Q I1 q1
 |false=>exact ⟨.bl false,H1,I1,rfl,q1⟩
theorem pe_not (ha:PE X a ta):PE X (.UnaryOp .Not a pos) (tNotV ta):=by
 intro pins s σ H Q I h
 refine UnaryOp_ (thn (ha pins s σ H _ I h) fun v s1 ⟨x,H1,I1,r1,q1⟩=>?_)
 obtain ⟨c,rfl,q1⟩:=q1
 cases r1
 exact not_of (wpAny_truthy_bool ⟨.bl (!c),H1,I1,rfl,q1⟩)
noncomputable def tIf (t:TT) (ta tb:TE):TE:=fun σ H Q=>t σ H fun c H1=>if c=true then ta σ H1 Q else tb σ H1 Q
theorem pe_ifExp {c:Expr} (hc:PT X c tA) (ha:PE X a ta) (hb:PE X b tb):PE X (.IfExp c a b pos) (tIf tA ta tb):=by
 intro pins s σ H Q I h
 refine wpAny_IfExp (thn (hc pins s σ H _ I h) fun d s1 ⟨H1,I1,q1⟩=>?_)
 cases d with
 |true=>exact ha pins s1 σ H1 Q I1 q1
 |false=>exact hb pins s1 σ H1 Q I1 q1
end
end L2
namespace L2
open PySem PySem.Spec PyProof.Rows
noncomputable def SqL (K:PySem.W.Frag) (H:Hp) (a:Addr) (xs:List V):Prop:=
 Rd H a (.lst xs) \/
  ∃(o:Obj) (its:Array Value) (n:Nat),K.lookup a=some o/\o.cls=.type "list"/\o.dict=none/\o.data=.seq its n/\its.size<=sizeLine/\Vals xs its.toList
noncomputable def SqT (K:PySem.W.Frag) (H:Hp) (a:Addr) (xs:List V):Prop:=
 Rd H a (.tup xs) \/
  ∃(o:Obj) (its:Array Value) (n:Nat),K.lookup a=some o/\o.cls=.type "tuple"/\o.data=.seq its n/\its.size<=sizeLine/\Vals xs its.toList
noncomputable def absV:Value->Option V
 |.none=>some .non
 |.bool b=>some (.bl b)
 |.int i _=>some (.int i)
 |.str x _=>some (.str x)
 |.bytes b _=>some (.byt b)
 |.float b _=>some (.flt b)
 |.ref a=>some (.ref a)
 |.type n=>some (.ty n)
 |_=>none
theorem RelV.abs {x:V} {u:Value} (r:RelV x u):absV u=some x:=by
 cases x with
 |non=>cases r;rfl
 |bl _=>cases r;rfl
 |int _=>obtain ⟨t,rfl⟩:=r;rfl
 |str _=>obtain ⟨t,rfl⟩:=r;rfl
 |byt _=>obtain ⟨t,rfl⟩:=r;rfl
 |flt _=>obtain ⟨t,rfl⟩:=r;rfl
 |ref _=>cases r;rfl
 |ty _=>cases r;rfl
theorem RelV.inj {x y:V} {u:Value} (r:RelV x u) (q:RelV y u):x=y:=Option.some.inj (r.abs.symm.trans q.abs)
theorem Vals.inj:∀{xs ys:List V} {us:List Value},Vals xs us->Vals ys us->xs=ys
 |_,_,_,.nil,.nil=>rfl
 |_,_,_,.cons r t,.cons r' t'=>by rw [r.inj r',Vals.inj t t']
section
variable {X:Cx} {pins:List (Addr×Obj)} {σ:St} {H:Hp} {s:Shared} {a:Addr} {xs ys:List V}
theorem SqL.of {K:PySem.W.Frag} (h:H a=some (.lst xs)):SqL K H a xs:=.inl (.inl h)
theorem SqT.of {K:PySem.W.Frag} (h:H a=some (.tup xs)):SqT K H a xs:=.inl (.inl h)
theorem Inv.list (I:Inv X pins σ H s) (h:SqL X.K H a xs):∃its:List Value,Vals xs its/\PlainL s.heap a its.toArray/\xs.length<=sizeLine:=by
 rcases h with h|⟨o,its,n,hk,hc,hd,hs,hz,r⟩
 ·obtain ⟨z,its,n,r,e⟩:=h.ok I.hok
  exact ⟨its,r,⟨_,n,e,rfl,rfl,rfl⟩,z⟩
 ·refine ⟨its.toList,r,⟨o,n,I.kIn a o hk,hc,hd,by simpa using hs⟩,?_⟩
  have e:=r.length
  simp only [Array.length_toList] at e
  omega
theorem Inv.tuple (I:Inv X pins σ H s) (h:SqT X.K H a xs):∃its:List Value,Vals xs its/\IsTup s.heap a its.toArray/\xs.length<=sizeLine:=by
 rcases h with h|⟨o,its,n,hk,hc,hs,hz,r⟩
 ·obtain ⟨z,its,r,p⟩:=h.ok I.hok
  exact ⟨its,r,p,z⟩
 ·refine ⟨its.toList,r,⟨o,I.kIn a o hk,hc,n,by simpa using hs⟩,?_⟩
  have e:=r.length
  simp only [Array.length_toList] at e
  omega
theorem Inv.pB (I:Inv X pins σ H s) (h:SqL X.K H a xs) (h':SqL X.K H a ys):xs=ys:=by
 obtain ⟨its,r,⟨o,n,e,_,_,d⟩,_⟩:=I.list h
 obtain ⟨its',r',⟨o',n',e',_,_,d'⟩,_⟩:=I.list h'
 rw [e] at e';cases e'
 rw [d] at d'
 injection d' with d1 _
 have:its=its':=by simpa using congrArg Array.toList d1
 subst this
 exact r.inj r'
theorem Inv.yM (I:Inv X pins σ H s) (h:SqT X.K H a xs) (h':SqT X.K H a ys):xs=ys:=by
 obtain ⟨its,r,⟨o,e,_,n,d⟩,_⟩:=I.tuple h
 obtain ⟨its',r',⟨o',e',_,n',d'⟩,_⟩:=I.tuple h'
 rw [e] at e';cases e'
 rw [d] at d'
 injection d' with d1 _
 have:its=its':=by simpa using congrArg Array.toList d1
 subst this
 exact r.inj r'
end
noncomputable abbrev Cx.tR (X:Cx) (E:Value->Shared->Prop):Cx:={X with xe:=E}
noncomputable abbrev Cx.nox (X:Cx):Cx:=X.tR fun _ _=>False
theorem Cx.Ok.tR {X:Cx} (ok:X.Ok) (E:Value->Shared->Prop):(X.tR E).Ok:=
 ⟨ok.mod,ok.kind,ok.glob,ok.blt,ok.above,ok.inj,ok.has,ok.cab,ok.hd,ok.frames,ok.stk,ok.exf,ok.bs,ok.bsz,ok.noex,ok.exfs,ok.uM,ok.frf⟩
theorem Cx.Ok.lD {X:Cx} {E:Value->Shared->Prop} (ok:(X.tR E).Ok):X.Ok:=
 ⟨ok.mod,ok.kind,ok.glob,ok.blt,ok.above,ok.inj,ok.has,ok.cab,ok.hd,ok.frames,ok.stk,ok.exf,ok.bs,ok.bsz,ok.noex,ok.exfs,ok.uM,ok.frf⟩
section
variable {X:Cx} {pins:List (Addr×Obj)} {σ:St} {H:Hp} {s:Shared} {E:Value->Shared->Prop}
theorem Inv.tR (I:Inv X pins σ H s) (E:Value->Shared->Prop):Inv (X.tR E) pins σ H s:=⟨I.ok.tR E,I.os,I.bare,I.base,I.loc,I.cell,I.free,I.freeC,I.pin,I.hok,I.len⟩
theorem Inv.lD (I:Inv (X.tR E) pins σ H s):Inv X pins σ H s:=⟨I.ok.lD,I.os,I.bare,I.base,I.loc,I.cell,I.free,I.freeC,I.pin,I.hok,I.len⟩
theorem SP.lD {D:Ends} {f:Flow} {s':Shared} (h:SP (X.tR E) pins D f s'):SP X pins D f s':=by
 cases f with
 |next=>obtain ⟨σ',H',I,q⟩:=h;exact ⟨σ',H',I.lD,q⟩
 |brk=>obtain ⟨σ',H',I,q⟩:=h;exact ⟨σ',H',I.lD,q⟩
 |cont=>obtain ⟨σ',H',I,q⟩:=h;exact ⟨σ',H',I.lD,q⟩
 |ret u=>obtain ⟨v,σ',H',I,r,q⟩:=h;exact ⟨v,σ',H',I.lD,r,q⟩
theorem PSs.nox {st:List Stmt} {t:TS} (h:PSs X.nox st t):PSs X st t:=fun pins s σ H D I hw=>
 wpAny_mono (h pins s σ H D (I.tR _) hw) (fun _ _ q=>q.lD) fun _ _ z=>False.elim z
end
section
variable {X:Cx} {st:Stmt} {rest:List Stmt} {t u:TS} {e:Expr} {te:TE} {pos:Pos}
noncomputable def tNext:TS:=fun D σ H=>D.nx σ H
noncomputable def tSeq (t u:TS):TS:=fun D σ H=>t {D with nx:=u D} σ H
theorem zg:PSs X [] tNext:=fun _ _ σ H _ I h=>wpAny_execs_nil ⟨σ,H,I,h⟩
theorem pA (h1:PS X st t) (h2:PSs X rest u):PSs X (st::rest) (tSeq t u):=by
 intro pins s σ H D I h
 refine wpAny_execs_cons (thn (h1 pins s σ H {D with nx:=u D} I h) fun f s1 q=>?_)
 cases f with
 |next=>
  obtain ⟨σ',H',I',q⟩:=q
  exact h2 pins s1 σ' H' D I' q
 |ret v=>exact q
 |brk=>exact q
 |cont=>exact q
theorem pJ (h1:PS X st t):PSs X [st] t:=by
 intro pins s σ H D I h
 refine wpAny_execs_cons (thn (h1 pins s σ H D I h) fun f s1 q=>?_)
 cases f with
 |next=>exact wpAny_execs_nil q
 |ret v=>exact q
 |brk=>exact q
 |cont=>exact q
theorem Inv.quiet {pins:List (Addr×Obj)} {σ:St} {H:Hp} {s:Shared} (I:Inv X pins σ H s):interactive X.env=false:=by simp [interactive,I.ok.kind]
noncomputable def tDrop (te:TE):TS:=fun D σ H=>te σ H fun _ H1=>D.nx σ H1
theorem zo (he:PE X e te) (hs:swapsWith e none pos.line X.env=pure false:=by rfl):PS X (.Expr e pos) (tDrop te):=by
 intro pins s σ H D I h
 exact wpAny_Expr_any (thn (he pins s σ H _ I h) fun v s1 ⟨x,H1,I1,r1,q1⟩=>⟨σ,H1,I1,q1⟩) I.quiet hs
noncomputable def tRet (te:TE):TS:=fun D σ H=>te σ H D.rt
theorem zi (he:PE X e te):PS X (.Return (some e) pos) (tRet te):=by
 intro pins s σ H D I h
 exact wpAny_Return_some (thn (he pins s σ H _ I h) fun v s1 ⟨x,H1,I1,r1,q1⟩=>⟨x,σ,H1,I1,r1,q1⟩)
noncomputable def tIfS (c:TT) (t u:TS):TS:=fun D σ H=>c σ H fun b H1=>if b=true then t D σ H1 else u D σ H1
theorem ps_if {c:Expr} {a b:List Stmt} {tc:TT} (hc:PT X c tc) (ha:PSs X a t) (hb:PSs X b u):PS X (.If c a b pos) (tIfS tc t u):=by
 intro pins s σ H D I h
 refine wpAny_If (thn (hc pins s σ H _ I h) fun d s1 ⟨H1,I1,q1⟩=>?_)
 cases d with
 |true=>exact ha pins s1 σ H1 D I1 q1
 |false=>exact hb pins s1 σ H1 D I1 q1
noncomputable def tNever:TS:=fun _ _ _=>False
theorem uh {sts:List Stmt}:PSs X sts tNever:=fun _ _ _ _ _ _ h=>h.elim
end
noncomputable abbrev TG:=V->St->Hp->(St->Hp->Prop)->Prop
noncomputable abbrev TGs:=List V->St->Hp->(St->Hp->Prop)->Prop
noncomputable def PG (X:Cx) (target:Expr) (t:TG):Prop:=
 ∀(pins:List (Addr×Obj)) (s:Shared) (σ:St) (H:Hp) (v:V) (u:Value) (Q:St->Hp->Prop),Inv X pins σ H s->RelV v u->t v σ H Q ->
  wpAny (model X.prog X.w) X.A (assign target X.env u) (fun _ s'=>∃σ' H',Inv X pins σ' H' s'/\Q σ' H') X.xe s
noncomputable def PGs (X:Cx) (ts:List Expr) (t:TGs):Prop:=
 ∀(pins:List (Addr×Obj)) (s:Shared) (σ:St) (H:Hp) (vs:List V) (us:List Value) (Q:St->Hp->Prop),Inv X pins σ H s->Vals vs us->t vs σ H Q ->
  wpAny (model X.prog X.w) X.A (assignInOrder ((assignEach ts X.env).map (·.2)) us) (fun _ s'=>∃σ' H',Inv X pins σ' H' s'/\Q σ' H') X.xe s
noncomputable abbrev TSet:=V->V->V->Hp->(Hp->Prop)->Prop
noncomputable def PSet (X:Cx) (t:TSet):Prop:=
 ∀(pins:List (Addr×Obj)) (s:Shared) (σ:St) (H:Hp) (o i v:V) (ov iv u:Value) (Q:Hp->Prop),Inv X pins σ H s->RelV o ov->RelV i iv->RelV v u->t o i v H Q ->
  wpAny (model X.prog X.w) X.A (setItem ov iv u) (fun _ s'=>∃H',Inv X pins σ H' s'/\Q H') X.xe s
section
variable {X:Cx} {pos:Pos}
noncomputable def pZ (i:Nat):TG:=fun v σ H Q=>Q (σ.set i (some v)) H
theorem vQ {i:Nat} {x:Str} (hN:X.N.Nodup) (hi:X.N[i]? =some x) (hx:Loc X.env.scope x) (hf:X.fn x=true\/X.env.scope.names.lookup x=some .local:=by first|exact .inl rfl|exact .inr rfl|assumption):PG X (.Name x pos) (pZ i):=by
 intro pins s σ H v u Q I r h
 exact wpAny_assign_Name (nE I hN hi hx r (fun s' I'=>⟨_,H,I',h⟩) hf)
noncomputable def gNil:TGs:=fun vs σ H Q=>vs=[]/\Q σ H
noncomputable def gCons (t:TG) (u:TGs):TGs:=fun vs σ H Q=>∃v r,vs=v::r/\t v σ H fun σ' H'=>u r σ' H' Q
theorem pgs_nil:PGs X [] gNil:=by
 intro pins s σ H vs us Q I r h
 obtain ⟨e,h⟩:=h
 subst e
 cases r
 exact assignInOrder_nil ⟨σ,H,I,h⟩
theorem xg {e:Expr} {es:List Expr} {t:TG} {u:TGs} (h1:PG X e t) (h2:PGs X es u)
  (hs:(assignEach (e::es) X.env).map (·.2)=assign e X.env::(assignEach es X.env).map (·.2):=by rfl):PGs X (e::es) (gCons t u):=by
 intro pins s σ H vs us Q I r h
 obtain ⟨v,vr,e1,h⟩:=h
 subst e1
 cases r with
 |cons r rr=>
  rw [hs]
  refine assignInOrder_cons (thn (h1 pins s σ H _ _ _ I r h) fun _ s1 ⟨σ1,H1,I1,q1⟩=>?_)
  exact h2 pins s1 σ1 H1 _ _ Q I1 rr q1
noncomputable def gTup (K:PySem.W.Frag) (n:Nat) (t:TGs):TG:=fun v σ H Q=>∃a xs,v=.ref a/\SqT K H a xs/\xs.length=n/\t xs σ H Q
theorem pg_tup {es:List Expr} {k:Nat} {t:TGs} {n:Nat} (hc:X.calm=true) (h:PGs X es t)
  (hn:(assignEach es X.env).length=n:=by rfl) (hst:(assignEach es X.env).findIdx? (·.1)=none:=by rfl):PG X (.Tuple es k pos) (gTup X.K n t):=by
 intro pins s σ H v u Q I r hw
 obtain ⟨a,xs,e1,hq,hl,hw⟩:=hw
 subst e1
 cases r
 obtain ⟨its,rv,ht,hz⟩:=I.tuple hq
 refine assign_Tuple_tuple (I.ok.hd hc) ht (by simp [hn,<- hl,rv.length]) hst fun h' hx=>?_
 have I1:Inv X pins σ H {s with heap:=h'}:=I.kept (t':=s.toks) fun b o e=>hx b o (Nat.ne_of_lt (Heap.lt_size e)) e
 exact h pins _ σ H xs _ Q I1 (by simpa using rv) hw
noncomputable def gSub (to ti:TE) (t:TSet):TG:=fun v σ H Q=>to σ H fun o H1=>ti σ H1 fun i H2=>t o i v H2 fun H3=>Q σ H3
theorem pg_sub {o i:Expr} {to ti:TE} {t:TSet} (ho:PE X o to) (hi:PE X i ti) (hs:PSet X t)
  (ha:∀v,assign (.Subscript o i pos) X.env v=(do
   let ov <- holding [v] (eval o X.env)
   let iv <- holding [v,ov] (eval i X.env)
   standAt pos
   holding [v,ov,iv] (setItem ov iv v)
   release [v,ov,iv] []):=by intro _;rfl):PG X (.Subscript o i pos) (gSub to ti t):=by
 intro pins s σ H v u Q I r h
 rw [ha]
 refine wpAny_bind (wpAny_holding (thn (ho pins s σ H _ I h) fun ov s1 ⟨x,H1,I1,r1,q1⟩=>?_))
 refine wpAny_bind (wpAny_holding (thn (hi pins s1 σ H1 _ I1 q1) fun iv s2 ⟨y,H2,I2,r2,q2⟩=>?_))
 refine wpAny_bind (wpAny_standAt (wpAny_bind (wpAny_holding (thn (hs pins s2 σ H2 x y v ov iv u _ I2 r1 r2 r q2) fun _ s3 ⟨H3,I3,q3⟩=>?_))))
 exact wpAny_release ⟨σ,H3,I3,q3⟩
noncomputable def tAsg (te:TE) (g:TG):TS:=fun D σ H=>te σ H fun x H1=>g x σ H1 D.nx
theorem zp {tg e:Expr} {te:TE} {g:TG} (he:PE X e te) (hg:PG X tg g) (hs:swapsWithSole [tg] e pos.line X.env=pure false:=by rfl) (hw:swappedStores [tg] e X.env=pure none:=by rfl)
  (h1:(assignEach [tg] X.env).map (·.2)=[assign tg X.env]:=by rfl):PS X (.Assign [tg] e pos) (tAsg te g):=by
 intro pins s σ H D I h
 refine wpAny_Assign_stores (thn (he pins s σ H _ I h) fun v s1 ⟨x,H1,I1,r1,q1⟩=>?_) hs hw
 rw [h1]
 exact thn (hg pins s1 σ H1 x v _ I1 r1 q1) fun _ s2 q=>q
theorem zh {i:Nat} {x:Str} {e:Expr} {te:TE} {pos':Pos} (hN:X.N.Nodup) (hi:X.N[i]? =some x) (hx:Loc X.env.scope x) (he:PE X e te) (hs:swapsWith e (some (.Name x pos')) pos.line X.env=pure false:=by rfl) (hf:X.fn x=true\/X.env.scope.names.lookup x=some .local:=by first|exact .inl rfl|exact .inr rfl|assumption) :
  PS X (.Assign [.Name x pos'] e pos) (tAsg te (pZ i)):=by
 intro pins s σ H D I h
 refine wpAny_Assign_Name (thn (he pins s σ H _ I h) fun v s1 ⟨y,H1,I1,r1,q1⟩=>?_) hs
 exact nE I1 hN hi hx r1 (fun s2 I2=>⟨_,H1,I2,q1⟩) hf
end
section
variable {X:Cx} {pos:Pos}
noncomputable def tWhile (c:TT) (tb:TS):TS:=fun D σ H=>∃W:Nat->St->Hp->Prop,(∃m,W m σ H)/\∀m σ H,W m σ H ->
 c σ H fun b H1=>if b=true then ∃N:St->Hp->Prop,(∀σ' H',N σ' H'->∃m',m'<m/\W m' σ' H')/\tb {D with nx:=N,ct:=N,bk:=D.nx} σ H1 else D.nx σ H1
theorem ps_while {c:Expr} {body:List Stmt} {tc:TT} {tb:TS} (hp:PassesOwn (model X.prog X.w) X.A X.env X.xe) (hc:PT X c tc) (hb:PSs X body tb):PS X (.While c body [] pos) (tWhile tc tb):=by
 intro pins s σ H D I h
 obtain ⟨W,⟨m0,w0⟩,turn⟩:=h
 refine wpAny_While (codeAny_whileLoop (fun n s'=>∃σ' H',Inv X pins σ' H' s'/\W n σ' H') ?_ m0 ⟨σ,H,I,w0⟩)
 rintro n s1 ⟨σ1,H1,I1,w1⟩
 refine wpAny_passesOwn hp (thn (hc pins s1 σ1 H1 _ I1 (turn n σ1 H1 w1)) fun b s2 ⟨H2,I2,q2⟩=>?_)
 cases b with
 |true=>
  obtain ⟨N,hN,q2⟩:=q2
  rw [if_pos rfl]
  refine wpAny_passesOwn hp (thn (hb pins s2 σ1 H2 _ I2 q2) fun f s3 q3=>?_)
  cases f with
  |next=>
   obtain ⟨σ3,H3,I3,n3⟩:=q3
   obtain ⟨m',hm,w3⟩:=hN σ3 H3 n3
   exact ⟨m',hm,σ3,H3,I3,w3⟩
  |cont=>
   obtain ⟨σ3,H3,I3,n3⟩:=q3
   obtain ⟨m',hm,w3⟩:=hN σ3 H3 n3
   exact ⟨m',hm,σ3,H3,I3,w3⟩
  |brk=>exact q3
  |ret v=>exact q3
 |false=>
  rw [if_neg Bool.false_ne_true]
  exact wpAny_execs_nil ⟨σ1,H2,I2,q2⟩
end
structure It where
 go:Nat->Hp->Prop
 yld:Nat->Hp->V->Hp->Prop
 stop:Nat->Hp->Prop
noncomputable def wN (X:Cx) (pins:List (Addr×Obj)) (H:Hp) (b:Addr):Prop:=
 H b=none/\b≠X.env.locals/\b∉X.fs/\(b∈X.ex\/X.s₀.heap.objs.size<=b)/\(∀x c,X.env.cells.lookup x=some c->c≠b)/\∀p∈X.pn++pins,p.1≠b
theorem Inv.fpOk {X:Cx} {pins:List (Addr×Obj)} {σ:St} {H H':Hp} {s:Shared} {b:Addr} (I:Inv X pins σ H s) (hb:s.heap.objs.size<=b) (hn:H' b=none):wN X pins H' b:=by
 refine ⟨hn,Nat.ne_of_gt (Nat.lt_of_lt_of_le I.lt hb),I.nofs hb,.inr (Nat.le_trans I.sz hb),fun x c e z=>?_,fun p hp z=>?_⟩
 ·obtain ⟨v,q⟩:=I.cell x c e
  exact absurd (Nat.lt_of_lt_of_le q.lt (by rw [z];exact hb)) (Nat.lt_irrefl _)
 ·exact absurd (Nat.lt_of_lt_of_le (Heap.lt_size (I.pin p hp).1) (by rw [z];exact hb)) (Nat.lt_irrefl _)
structure Turn (P:Program) (w:World) (K:PySem.W.Frag) (tg:Expr) (J:It) (fp:List Addr) (it:Addr) (tn:Nat->Heap->Prop):Prop where
 mem:it∈fp
 obj:∀i h,tn i h->∀b∈fp,∃o,h.get? b=some o/\∀v,o.data≠.cell v
 keep:∀i h h',tn i h->(∀b∈fp,∀o,h.get? b=some o->h'.get? b=some o)->tn i h'
 item:∀(X:Cx),X.prog=P->X.w=w->X.K=K->X.calm=true->∀(i:Nat) (pins:List (Addr×Obj)) (s:Shared) (σ:St) (H:Hp) (E:Value->Shared->Prop),Inv X pins σ H s->(∀b∈fp,wN X pins H b)->tn i s.heap->J.go i H ->
  wpAny (model P w) X.A (pyNext (.ref it)) (fun r s1=>∃u,r=some u /\
   wpAny (model P w) X.A (letOwnedTupleGo tg (.ref it) u) (fun _ s2=>∃x H',Inv X pins σ H' s2/\RelV x u/\J.yld i H x H'/\tn (i+1) s2.heap/\∀b∈fp,H' b=none) E s1) E s
 done:∀(X:Cx),X.prog=P->X.w=w->X.K=K->X.calm=true->∀(i:Nat) (pins:List (Addr×Obj)) (s:Shared) (σ:St) (H:Hp) (E:Value->Shared->Prop),Inv X pins σ H s->(∀b∈fp,wN X pins H b)->tn i s.heap->J.stop i H ->
  wpAny (model P w) X.A (pyNext (.ref it)) (fun r s1=>r=none/\Inv X pins σ H s1) E s
 self:∀(A:Around) (i:Nat) (s:Shared) (Q:Value->Shared->Prop) (E:Value->Shared->Prop),tn i s.heap->Q (.ref it) s->wpAny (model P w) A (pyIter (.ref it)) Q E s
noncomputable abbrev TI:=St->Hp->(It->Hp->Prop)->Prop
noncomputable def PIE (X:Cx) (pins:List (Addr×Obj)) (σ:St) (tg:Expr) (R:It->Hp->Prop) (itv:Value) (s2:Shared):Prop:=
 ∃(it:Addr) (fp:List Addr) (tn:Nat->Heap->Prop) (J:It) (H':Hp),itv=.ref it/\Inv X pins σ H' s2/\Turn X.prog X.w X.K tg J fp it tn/\tn 0 s2.heap/\(∀b∈fp,wN X pins H' b)/\R J H'
noncomputable def PI (X:Cx) (tg iter:Expr) (wi:TI):Prop:=
 ∀(pins:List (Addr×Obj)) (s:Shared) (σ:St) (H:Hp) (R:It->Hp->Prop),Inv X pins σ H s->wi σ H R ->
  wpAny (model X.prog X.w) X.A (eval iter X.env) (fun v s1=>wpAny (model X.prog X.w) X.A (pyIter v) (PIE X pins σ tg R) X.xe s1) X.xe s
theorem go_of {M : Model} {A : Around} {E : Value -> Shared -> Prop} {s : Shared} {tg : Expr} {it : Addr} {u : Value} {o : Obj} {n : String} {vs : Array Value} {Q : Unit -> Shared -> Prop} (ho : s.heap.get? it = some o) (hc : o.cls = .type n) (hd : o.data = .fields vs)
    (hn : ["enumerate", "zip", "dict_itemiterator", "dict_reverseitemiterator", "odict_iterator", "itertools.zip_longest", "itertools.pairwise"].contains n = false) (hQ : Q () s) : wpAny M A (letOwnedTupleGo tg (.ref it) u) Q E s := by
  unfold letOwnedTupleGo
  cases tg <;> first
    | exact wpAny_pure hQ
    | (cases u <;> first
        | exact wpAny_pure hQ
        | (refine wpAny_bind (wpAny_load ho ?_)
           rw [hc, hd]
           show wpAny M A (if (["enumerate", "zip", "dict_itemiterator", "dict_reverseitemiterator", "odict_iterator", "itertools.zip_longest", "itertools.pairwise"].contains n && vs[0]? == some (rawInt _)) = true then _ else _) Q E s
           rw [if_neg (by intro h; rw [hn, Bool.false_and] at h; cases h)]
           exact wpAny_pure hQ))
noncomputable def Itl (K:PySem.W.Frag) (a:Addr):It:=
 ⟨fun i H=>∃xs x,SqL K H a xs/\xs[i]? =some x,fun i H x H'=>H'=H/\∀xs,SqL K H a xs->xs[i]? =some x,fun i H=>∃xs,SqL K H a xs/\xs.length<=i⟩
noncomputable def Itt (K:PySem.W.Frag) (a:Addr):It:=
 ⟨fun i H=>∃xs x,SqT K H a xs/\xs[i]? =some x,fun i H x H'=>H'=H/\∀xs,SqT K H a xs->xs[i]? =some x,fun i H=>∃xs,SqT K H a xs/\xs.length<=i⟩
noncomputable def Itr (lo:Int) (n:Nat):It:=⟨fun i _=>i<n,fun i H x H'=>H'=H/\x=.int (lo+i),fun i _=>n<=i⟩
theorem yJ {P:Program} {w:World} {K:PySem.W.Frag} {tg:Expr} (a it:Addr):Turn P w K tg (Itl K a) [it] it (fun i h=>h.IsListIter it a i) where
 mem:=by simp
 obj:=fun i h st b hb=>by
  have e:b=it:=by simpa using hb
  subst e
  obtain ⟨o,e,c,d⟩:=st
  exact ⟨o,e,fun v z=>by rw [d] at z;cases z⟩
 keep:=fun i h h' st k=>st.at fun o e=>k it (by simp) o e
 item:=by
  intro X hP hw hK hc i pins s σ H E I hf st hg
  subst hP hw hK
  obtain ⟨xs,x,hq,hx⟩:=hg
  obtain ⟨its,rv,p,hz⟩:=I.list hq
  obtain ⟨u,hu,ru⟩:=rv.get hx
  obtain ⟨f0,f1,f2,f3,f4,f5⟩:=hf it (by simp)
  refine wpAny_pyNext_list_item st p.isList (x:=u) (by simpa using hu) fun h' st' sb=>?_
  have I1:Inv X pins σ H {s with heap:=h'}:=I.turned (t':=s.toks) (fun b o hb e=>(sb.2 b hb).trans e) f0 f1 f3 f4 f5
  obtain ⟨o,e,c,d⟩:=id st'
  exact ⟨u,rfl,go_of (s:={s with heap:=h'}) e c d (by decide) ⟨x,H,I1,ru,⟨rfl,fun ys hy=>by rw [I.pB hy hq];exact hx⟩,st',fun b hb=>(hf b hb).1⟩⟩
 done:=by
  intro X hP hw hK hc i pins s σ H E I hf st hg
  subst hP hw hK
  obtain ⟨xs,hq,hx⟩:=hg
  obtain ⟨its,rv,p,hz⟩:=I.list hq
  obtain ⟨f0,f1,f2,f3,f4,f5⟩:=hf it (by simp)
  have hl:=rv.length
  exact wpAny_pyNext_list_end (I.ok.hd hc) st p.isList (by simp;omega) fun h' eb=>⟨rfl,I.turned (t':=s.toks) (fun b o hb e=>eb b o hb e) f0 f1 f3 f4 f5⟩
 self:=fun _ _ _ _ _ st h=>wpAny_pyIter_listiter st h
theorem xP {P:Program} {w:World} {K:PySem.W.Frag} {tg:Expr} (a it:Addr):Turn P w K tg (Itt K a) [it] it (fun i h=>h.IsTupleIter it a i) where
 mem:=by simp
 obj:=fun i h st b hb=>by
  have e:b=it:=by simpa using hb
  subst e
  obtain ⟨o,e,c,d⟩:=st
  exact ⟨o,e,fun v z=>by rw [d] at z;cases z⟩
 keep:=fun i h h' st k=>st.at fun o e=>k it (by simp) o e
 item:=by
  intro X hP hw hK hc i pins s σ H E I hf st hg
  subst hP hw hK
  obtain ⟨xs,x,hq,hx⟩:=hg
  obtain ⟨its,rv,p,hz⟩:=I.tuple hq
  obtain ⟨u,hu,ru⟩:=rv.get hx
  obtain ⟨f0,f1,f2,f3,f4,f5⟩:=hf it (by simp)
  refine wpAny_pyNext_tuple_item st (show s.heap.IsTuple a its.toArray from p) (x:=u) (by simpa using hu) fun h' st' sb=>?_
  have I1:Inv X pins σ H {s with heap:=h'}:=I.turned (t':=s.toks) (fun b o hb e=>(sb.2 b hb).trans e) f0 f1 f3 f4 f5
  obtain ⟨o,e,c,d⟩:=id st'
  exact ⟨u,rfl,go_of (s:={s with heap:=h'}) e c d (by decide) ⟨x,H,I1,ru,⟨rfl,fun ys hy=>by rw [I.yM hy hq];exact hx⟩,st',fun b hb=>(hf b hb).1⟩⟩
 done:=by
  intro X hP hw hK hc i pins s σ H E I hf st hg
  subst hP hw hK
  obtain ⟨xs,hq,hx⟩:=hg
  obtain ⟨its,rv,p,hz⟩:=I.tuple hq
  obtain ⟨f0,f1,f2,f3,f4,f5⟩:=hf it (by simp)
  have hl:=rv.length
  exact wpAny_pyNext_tuple_end (I.ok.hd hc) st (show s.heap.IsTuple a its.toArray from p) (by simp;omega) fun h' eb=>⟨rfl,I.turned (t':=s.toks) (fun b o hb e=>eb b o hb e) f0 f1 f3 f4 f5⟩
 self:=fun _ _ _ _ _ st h=>wpAny_pyIter_tupleiter st h
theorem xQ {P:Program} {w:World} {K:PySem.W.Frag} {tg:Expr} (it:Addr) (lo:Int) (n:Nat):Turn P w K tg (Itr lo n) [it] it (fun i h=>IsRangeIter h it (lo+(i:Nat)*1) ((n:Int)-(i:Nat)) 1) where
 mem:=by simp
 obj:=fun i h st b hb=>by
  have e:b=it:=by simpa using hb
  subst e
  exact ⟨_,st,fun v z=>by
   have z':Data.fields _=Data.cell v:=z
   cases z'⟩
 keep:=fun i h h' st k=>k it (by simp) _ st
 item:=by
  intro X hP hw hK hc i pins s σ H E I hf st hg
  subst hP hw hK
  obtain ⟨f0,f1,f2,f3,f4,f5⟩:=hf it (by simp)
  have W:=Walks.range (prog:=X.prog) (w:=X.w) (I.ok.hd hc) it lo 1 n
  refine W.item i s _ _ hg st fun v h' tk hv st' kk=>?_
  obtain ⟨t,rfl⟩:=hv
  have I1:Inv X pins σ H {s with heap:=h',toks:=tk}:=I.turned (fun b o hb e=>kk b o (by simpa using hb) e) f0 f1 f3 f4 f5
  refine ⟨_,rfl,go_of (s:={s with heap:=h',toks:=tk}) (n:="range_iterator") st' rfl rfl (by decide) ⟨.int (lo+i),H,I1,⟨t,?_⟩,⟨rfl,rfl⟩,st',fun b hb=>(hf b hb).1⟩⟩
  rw [Int.mul_one]
 done:=by
  intro X hP hw hK hc i pins s σ H E I hf st hg
  subst hP hw hK
  obtain ⟨f0,f1,f2,f3,f4,f5⟩:=hf it (by simp)
  exact wpAny_pyNext_range_end (I.ok.hd hc) st (by have:n<=i:=hg;omega) fun h' eb=>⟨rfl,I.turned (t':=s.toks) (fun b o hb e=>eb b o hb e) f0 f1 f3 f4 f5⟩
 self:=fun _ _ _ _ _ st h=>wpAny_pyIter_rangeiter st h
end L2
namespace L2
open PySem PySem.Spec PyProof.Rows
section
variable {X:Cx} {tg:Expr}
theorem xf {pins:List (Addr×Obj)} {σ:St} {H:Hp} {s:Shared} {R:It->Hp->Prop} {E:Value->Shared->Prop} {lo hi:Int} {t u v:Tok} {tk:Nat} (I:Inv X pins σ H s) (h1: -(2^62)<=lo) (h2:lo<2^62) (h3: -(2^62)<=hi) (h4:hi<2^62)
  (q:R (Itr lo (hi-lo).toNat) H):wpAny (model X.prog X.w) X.A (pyIter (.ref s.heap.objs.size)) (PIE X pins σ tg R) E {s with heap:=s.heap.push {cls:=.type "range",data:=.fields #[.int lo t,.int hi u,.int 1 v]},toks:=tk}:=by
 refine wpAny_pyIter_range (IsRange.new ..) (small_one h1 h2 h3 h4) ?_
 have I1:Inv X pins σ H {s with heap:=s.heap.push {cls:=.type "range",data:=.fields #[.int lo t,.int hi u,.int 1 v]},toks:=tk}:=I.kept fun b o e=>Heap.get?_push_of_some _ e
 refine ⟨(s.heap.push {cls:=.type "range",data:=.fields #[.int lo t,.int hi u,.int 1 v]}).objs.size,[(s.heap.push {cls:=.type "range",data:=.fields #[.int lo t,.int hi u,.int 1 v]}).objs.size],_,_,H,rfl,
  I1.kept (t':=tk) fun b o e=>Heap.get?_push_of_some _ e,xQ _ lo (hi-lo).toNat,?_,fun b hb=>?_,q⟩
 ·have e1:lo+((0:Nat):Int)*1=lo:=by simp
  have e2:(((hi-lo).toNat:Nat):Int)-((0:Nat):Int)=Builtin.Range.rangeSize lo hi 1:=by rw [rangeSize_one];split<;>omega
  show IsRangeIter _ _ (lo+((0:Nat):Int)*1) ((((hi-lo).toNat:Nat):Int)-((0:Nat):Int)) 1
  rw [e1,e2]
  exact Heap.get?_push_size _ rfl
 ·have e:b=(s.heap.push {cls:=.type "range",data:=.fields #[.int lo t,.int hi u,.int 1 v]}).objs.size:=by simpa using hb
  subst e
  exact I1.fpOk (Nat.le_refl _) (I1.hok.fresh (Nat.le_refl _))
noncomputable def iRng1 (ta:TA):TI:=fun σ H R=>ta σ H fun vs H1=>∃j:Int,vs=[.int j]/\ -(2^62)<=j/\j<2^62/\R (Itr 0 j.toNat) H1
noncomputable def iRng2 (ta:TA):TI:=fun σ H R=>ta σ H fun vs H1=>∃i j:Int,vs=[.int i,.int j]/\(-(2^62)<=i/\i<2^62/\ -(2^62)<=j/\j<2^62)/\R (Itr i (j-i).toNat) H1
theorem zv {a:Expr} {ta:TA} {p pos:Pos} (hg:Gl X "range") (hm:X.mg "range"=none) (ha:PA X [a] ta) (hs:starEach [a] X.env=[(false,eval a X.env)]:=by rfl):PI X tg (.Call (.Name "range" p) [a] [] pos) (iRng1 ta):=by
 intro pins s σ H R I h
 refine Call_ (mK I hg hm boot_range (PyProof.Rows.callWith_type1 (thn (ha pos pins s σ H _ I h) fun us s1 ⟨vs,H1,I1,r1,q1⟩=>?_) hs rfl))
 obtain ⟨j,e,q1,q2,q⟩:=q1
 subst e
 cases r1 with
 |cons r rr=>
  cases rr
  obtain ⟨t,rfl⟩:=r
  exact call_range_1 (xf I1 (by omega) (by omega) q1 q2 (by simpa using q))
theorem zu {a b:Expr} {ta:TA} {p pos:Pos} (hg:Gl X "range") (hm:X.mg "range"=none) (ha:PA X [a,b] ta) (hs:starEach [a,b] X.env=[(false,eval a X.env),(false,eval b X.env)]:=by rfl) (hs2:starEach [b] X.env=[(false,eval b X.env)]:=by rfl) :
  PI X tg (.Call (.Name "range" p) [a,b] [] pos) (iRng2 ta):=by
 intro pins s σ H R I h
 refine Call_ (mK I hg hm boot_range (PyProof.Rows.callWith_type1 (thn (ha pos pins s σ H _ I h) fun us s1 ⟨vs,H1,I1,r1,q1⟩=>?_) (by rw [hs,hs2]) (by rw [hs2];rfl)))
 obtain ⟨i,j,e,⟨q1,q2,q3,q4⟩,q⟩:=q1
 subst e
 cases r1 with
 |cons r rr=>
  cases rr with
  |cons r' rr=>
   cases rr
   obtain ⟨t,rfl⟩:=r
   obtain ⟨t',rfl⟩:=r'
   exact call_range_2 (xf I1 q1 q2 q3 q4 q)
noncomputable def tFor (wi:TI) (g:TG) (tb:TS):TS:=fun D σ H=>wi σ H fun J H1=>∃W:Nat->Nat->St->Hp->Prop,(∃m,W 0 m σ H1)/\∀i m σ H,W i m σ H ->
 (J.stop i H/\D.nx σ H)\/(J.go i H/\∃N:St->Hp->Prop,(∀σ' H',N σ' H'->∃m',m'<m/\W (i+1) m' σ' H')/\∀x H',J.yld i H x H'->g x σ H' fun σ2 H2=>tb {D with nx:=N,ct:=N,bk:=D.nx} σ2 H2)
noncomputable def uj (fp:List Addr) (h:Heap):List (Addr×Obj):=fp.filterMap fun b=>(h.get? b).map fun o=>(b,o)
theorem mz {fp:List Addr} {h:Heap} {b:Addr} {o:Obj} (hb:b∈fp) (e:h.get? b=some o):(b,o)∈uj fp h:=List.mem_filterMap.mpr ⟨b,hb,by rw [e];rfl⟩
theorem zJ {fp:List Addr} {h:Heap} {p:Addr×Obj} (hp:p∈uj fp h):p.1∈fp/\h.get? p.1=some p.2:=by
 obtain ⟨b,hb,e⟩:=List.mem_filterMap.mp hp
 cases q:h.get? b with
 |none=>rw [q] at e;cases e
 |some o=>
  rw [q] at e
  have e':(b,o)=p:=Option.some.inj e
  subst e'
  exact ⟨hb,q⟩
theorem Inv.pinned {pins:List (Addr×Obj)} {σ:St} {H:Hp} {s:Shared} {fp:List Addr} (I:Inv X pins σ H s) (hf:∀b∈fp,wN X pins H b) (ho:∀b∈fp,∃o,s.heap.get? b=some o/\∀v,o.data≠.cell v):Inv X (pins++uj fp s.heap) σ H s:=
 I.sC fun p hp=>(List.mem_append.mp hp).elim (fun z=>I.pin p (List.mem_append_right _ z)) fun z=>by
  obtain ⟨hb,e⟩:=zJ z
  obtain ⟨f0,f1,f2,_⟩:=hf p.1 hb
  obtain ⟨o,e',d⟩:=ho p.1 hb
  rw [e] at e';cases e'
  exact ⟨e,f0,f1,f2,d⟩
theorem Inv.si {pins pl:List (Addr×Obj)} {σ:St} {H:Hp} {s:Shared} (I:Inv X (pins++pl) σ H s):Inv X pins σ H s:=I.sC fun p hp=>I.pin p (List.mem_append_right _ (List.mem_append_left _ hp))
theorem ps_for {iter:Expr} {body:List Stmt} {wi:TI} {g:TG} {tb:TS} {pos:Pos} (hp:PassesOwn (model X.prog X.w) X.A X.env X.xe) (hc:X.calm=true) (hi:PI X tg iter wi) (hg:PG X tg g) (hb:PSs X body tb)
  (hs:∀x,foldedSetIterable iter X.env x=pure x:=by intro _;rfl):PS X (.For tg iter body [] pos) (tFor wi g tb):=by
 intro pins s σ H D I h
 refine wpAny_For (thn (hi pins s σ H _ I h) fun v s1 h1=>thn h1 fun itv s2 h2=>?_) hs
 obtain ⟨it,fp,tn,J,H2,e,I2,T,st2,f2,W,⟨m0,w0⟩,turn⟩:=h2
 subst e
 have stat:∀{H':Hp},(∀b∈fp,H' b=none)->∀b∈fp,wN X pins H' b:=fun hn b hb=>⟨hn b hb,(f2 b hb).2⟩
 refine codeAny_forLoop_any (fun n s'=>∃i σ' H',Inv X pins σ' H' s'/\tn i s'.heap/\(∀b∈fp,H' b=none)/\W i n σ' H') ?_ m0 ⟨0,σ,H2,I2,st2,fun b hb=>(f2 b hb).1,w0⟩
 rintro n s3 ⟨i,σ3,H3,I3,st3,fr3,w3⟩
 rcases turn i n σ3 H3 w3 with ⟨stop,qn⟩|⟨go,N,hN,step⟩
 ·refine wpAny_passesOwn hp (thn (T.done X rfl rfl rfl hc i pins s3 σ3 H3 X.xe I3 (stat fr3) st3 stop) fun r s4 ⟨hr,I4⟩=>?_)
  subst hr
  exact wpAny_execs_nil ⟨σ3,H3,I4,qn⟩
 ·refine wpAny_passesOwn hp (thn (T.item X rfl rfl rfl hc i pins s3 σ3 H3 X.xe I3 (stat fr3) st3 go) fun r s4 ⟨u,hr,h4⟩=>?_)
  subst hr
  refine wpAny_passesOwn hp (thn h4 fun _ s5 ⟨x,H5,I5,r5,y5,st5,fr5⟩=>?_)
  have I5':=I5.pinned (stat fr5) (T.obj _ _ st5)
  refine wpAny_passesOwn hp (thn (hg _ s5 σ3 H5 x u _ I5' r5 (step x H5 y5)) fun _ s6 ⟨σ6,H6,I6,q6⟩=>?_)
  refine wpAny_passesOwn hp (thn (hb _ s6 σ6 H6 _ I6 q6) fun f s7 q7=>?_)
  have again:∀{σ7:St} {H7:Hp},Inv X (pins++uj fp s5.heap) σ7 H7 s7->N σ7 H7->∃m,m<n/\∃i σ' H',Inv X pins σ' H' s7/\tn i s7.heap/\(∀b∈fp,H' b=none)/\W i m σ' H':=fun {σ7 H7} I7 n7=>by
   obtain ⟨m',hm,w7⟩:=hN σ7 H7 n7
   refine ⟨m',hm,i+1,σ7,H7,I7.si,T.keep _ _ _ st5 fun b hb o e=>(I7.pin (b,o) (List.mem_append_right _ (List.mem_append_right _ (mz hb e)))).1,fun b hb=>?_,w7⟩
   obtain ⟨o,e,d⟩:=T.obj _ _ st5 b hb
   exact (I7.pin (b,o) (List.mem_append_right _ (List.mem_append_right _ (mz hb e)))).2.1
  cases f with
  |next=>obtain ⟨σ7,H7,I7,n7⟩:=q7;exact again I7 n7
  |cont=>obtain ⟨σ7,H7,I7,n7⟩:=q7;exact again I7 n7
  |brk=>obtain ⟨σ7,H7,I7,q7⟩:=q7;exact ⟨σ7,H7,I7.si,q7⟩
  |ret v=>obtain ⟨x7,σ7,H7,I7,r7,q7⟩:=q7;exact ⟨x7,σ7,H7,I7.si,r7,q7⟩
end
end L2
namespace L2
open PySem PySem.Spec PyProof.Rows
noncomputable abbrev R2:=V->V->Hp->VK->Prop
noncomputable def OpR (X:Cx) (f:Value->Value->Sem Value) (r:R2):Prop:=
 ∀(pins:List (Addr×Obj)) (s:Shared) (σ:St) (H:Hp) (x y:V) (v u:Value) (Q:VK),Inv X pins σ H s->RelV x v->RelV y u->r x y H Q ->
  wpAny (model X.prog X.w) X.A (f v u) (EP X pins σ Q) X.xe s
noncomputable def UnR (X:Cx) (f:Value->Sem Value) (r:V->Hp->VK->Prop):Prop:=
 ∀(pins:List (Addr×Obj)) (s:Shared) (σ:St) (H:Hp) (x:V) (v:Value) (Q:VK),Inv X pins σ H s->RelV x v->r x H Q ->
  wpAny (model X.prog X.w) X.A (f v) (EP X pins σ Q) X.xe s
noncomputable def dS (X:Cx) (f:Value) (r:List V->Hp->VK->Prop):Prop:=
 ∀(pins:List (Addr×Obj)) (s:Shared) (σ:St) (H:Hp) (xs:List V) (us:List Value) (Q:VK),Inv X pins σ H s->Vals xs us->r xs H Q ->
  wpAny (model X.prog X.w) X.A (call f us) (EP X pins σ Q) X.xe s
noncomputable def TruR (X:Cx) (r:V->Hp->(Bool->Hp->Prop)->Prop):Prop:=
 ∀(pins:List (Addr×Obj)) (s:Shared) (σ:St) (H:Hp) (x:V) (v:Value) (Q:Bool->Hp->Prop),Inv X pins σ H s->RelV x v->r x H Q ->
  wpAny (model X.prog X.w) X.A (truthy v) (TP X pins σ Q) X.xe s
noncomputable def tOp (r:R2) (ta tb:TE):TE:=fun σ H Q=>ta σ H fun x H1=>tb σ H1 fun y H2=>r x y H2 Q
noncomputable def tUn (r:V->Hp->VK->Prop) (ta:TE):TE:=fun σ H Q=>ta σ H fun x H1=>r x H1 Q
noncomputable def rI (C:Int->Int->Prop) (g:Int->Int->V):R2:=fun x y H Q=>∃i j,x=.int i/\y=.int j/\C i j/\Q (g i j) H
noncomputable def rI0 (g:Int->Int->V):R2:=fun x y H Q=>∃i j,x=.int i/\y=.int j/\Q (g i j) H
noncomputable def rU (g:Int->V):V->Hp->VK->Prop:=fun x H Q=>∃i,x=.int i/\Q (g i) H
section
variable {X:Cx} {a b c:Expr} {ta tb tc:TE} {pos:Pos}
theorem binT (ha:PE X a ta) (hb:PE X b tb) {pins:List (Addr×Obj)} {s:Shared} {σ:St} {H:Hp} {R:V->V->Hp->Prop} (I:Inv X pins σ H s)
  (h:ta σ H fun x H1=>tb σ H1 fun y H2=>R x y H2) {Q:Value->Shared->Prop} {f:Value->Value->Sem Value}
  (hf:∀v u s2 x y H2,Inv X pins σ H2 s2->RelV x v->RelV y u->R x y H2->wpAny (model X.prog X.w) X.A (f v u) Q X.xe s2) :
  wpAny (model X.prog X.w) X.A (eval a X.env) (fun v s₁=>wpAny (model X.prog X.w) X.A (eval b X.env) (fun u s₂=>wpAny (model X.prog X.w) X.A (f v u) Q X.xe s₂) X.xe s₁) X.xe s:=by
 refine thn (ha pins s σ H _ I h) fun v s1 ⟨x,H1,I1,r1,q1⟩=>?_
 refine thn (hb pins s1 σ H1 _ I1 q1) fun u s2 ⟨y,H2,I2,r2,q2⟩=>?_
 exact hf v u s2 x y H2 I2 r1 r2 q2
theorem pe_op {op:Operator} {r:R2} (ho:OpR X (binaryOp op) r) (ha:PE X a ta) (hb:PE X b tb):PE X (.BinOp a op b pos) (tOp r ta tb):=by
 intro pins s σ H Q I h
 exact wpAny_BinOp (binT ha hb I h fun v u s2 x y H2 I2 rx ry q=>ho pins s2 σ H2 x y v u Q I2 rx ry q)
theorem pe_un {op:UnaryOp} {r:V->Hp->VK->Prop} (ho:UnR X (unaryOp op) r) (ha:PE X a ta):PE X (.UnaryOp op a pos) (tUn r ta):=by
 intro pins s σ H Q I h
 exact UnaryOp_ (thn (ha pins s σ H _ I h) fun v s1 ⟨x,H1,I1,r1,q1⟩=>ho pins s1 σ H1 x v Q I1 r1 q1)
theorem opI {f:Value->Value->Sem Value} {C:Int->Int->Prop} {g:Int->Int->Int}
  (rule:∀(i j:Int) (t u:Tok) (s:Shared) (Q:Value->Shared->Prop) (E:Value->Shared->Prop),C i j->Q (.int (g i j) s.toks) {s with toks:=s.toks+1}->wpAny (model X.prog X.w) X.A (f (.int i t) (.int j u)) Q E s) :
  OpR X f (rI C fun i j=>.int (g i j)):=by
 intro pins s σ H x y v u Q I rx ry h
 obtain ⟨i,j,rfl,rfl,hc,q⟩:=h
 obtain ⟨t,rfl⟩:=rx
 obtain ⟨t',rfl⟩:=ry
 exact rule i j t t' s _ _ hc ⟨.int (g i j),H,I.tok _,⟨_,rfl⟩,q⟩
theorem opI0 {f:Value->Value->Sem Value} {g:Int->Int->Int}
  (rule:∀(i j:Int) (t u:Tok) (s:Shared) (Q:Value->Shared->Prop) (E:Value->Shared->Prop),Q (.int (g i j) s.toks) {s with toks:=s.toks+1}->wpAny (model X.prog X.w) X.A (f (.int i t) (.int j u)) Q E s) :
  OpR X f (rI0 fun i j=>.int (g i j)):=by
 intro pins s σ H x y v u Q I rx ry h
 obtain ⟨i,j,rfl,rfl,q⟩:=h
 obtain ⟨t,rfl⟩:=rx
 obtain ⟨t',rfl⟩:=ry
 exact rule i j t t' s _ _ ⟨.int (g i j),H,I.tok _,⟨_,rfl⟩,q⟩
theorem opB0 {f:Value->Value->Sem Value} {g:Int->Int->Bool}
  (rule:∀(i j:Int) (t u:Tok) (s:Shared) (Q:Value->Shared->Prop) (E:Value->Shared->Prop),Q (.bool (g i j)) s->wpAny (model X.prog X.w) X.A (f (.int i t) (.int j u)) Q E s) :
  OpR X f (rI0 fun i j=>.bl (g i j)):=by
 intro pins s σ H x y v u Q I rx ry h
 obtain ⟨i,j,rfl,rfl,q⟩:=h
 obtain ⟨t,rfl⟩:=rx
 obtain ⟨t',rfl⟩:=ry
 exact rule i j t t' s _ _ ⟨.bl (g i j),H,I,rfl,q⟩
noncomputable def CPow (i j:Int):Prop:=0<=j/\j<=1000000/\i.natAbs<2^64
noncomputable def CMul (i j:Int):Prop:=(-(2^64)<i/\i<2^64)\/(-(2^64)<j/\j<2^64)
theorem CMul.ok {i j:Int} (h:CMul i j):IntMulOk i j:=by
 rcases h with ⟨h1,h2⟩|⟨h1,h2⟩
 ·exact .of_left (intBits_le_64 h1 h2)
 ·exact .of_right (intBits_le_64 h1 h2)
theorem op_add:OpR X (binaryOp .Add) (rI0 fun i j=>.int (i+j)):=opI0 fun _ _ _ _ _ _ _ q=>add_int q
theorem op_sub:OpR X (binaryOp .Sub) (rI0 fun i j=>.int (i-j)):=opI0 fun _ _ _ _ _ _ _ q=>sub_int q
theorem op_mul:OpR X (binaryOp .Mult) (rI CMul fun i j=>.int (i*j)):=opI fun _ _ _ _ _ _ _ hc q=>mul_int q hc.ok
theorem op_mod:OpR X (binaryOp .Mod) (rI (fun _ j=>0<j) fun i j=>.int (i%j)):=opI fun i j _ _ _ _ _ hc q=>by
 have h1:(0:Int)<j:=hc
 exact mod_int' (by omega) (by rw [Int.fmod_eq_emod_of_nonneg i (by omega)];exact q)
theorem op_pow:OpR X (binaryOp .Pow) (rI CPow fun i j=>.int (i^j.toNat)):=opI fun _ _ _ _ _ _ _ hc q=>pow_int_small hc.1 hc.2.1 hc.2.2 q
theorem unI {f:Value->Sem Value} {g:Int->Int}
  (rule:∀(i:Int) (t:Tok) (s:Shared) (Q:Value->Shared->Prop) (E:Value->Shared->Prop),Q (.int (g i) s.toks) {s with toks:=s.toks+1}->wpAny (model X.prog X.w) X.A (f (.int i t)) Q E s) :
  UnR X f (rU fun i=>.int (g i)):=by
 intro pins s σ H x v Q I rx h
 obtain ⟨i,rfl,q⟩:=h
 obtain ⟨t,rfl⟩:=rx
 exact rule i t s _ _ ⟨.int (g i),H,I.tok _,⟨_,rfl⟩,q⟩
theorem un_neg:UnR X (unaryOp .USub) (rU fun i=>.int (-i)):=unI fun _ _ _ _ _ q=>neg_int q
end
noncomputable def scal:V->V->Bool
 |.non,.non=>true|.non,.int _=>true|.int _,.non=>true|.non,.bl _=>true|.bl _,.non=>true|.non,.str _=>true|.str _,.non=>true
 |.int _,.int _=>true|.bl _,.bl _=>true|.str _,.str _=>true|.byt _,.byt _=>true
 |.int _,.str _=>true|.str _,.int _=>true|.bl _,.str _=>true|.str _,.bl _=>true
 |_,_=>false
noncomputable def rNe:R2:=fun x y H Q=>scal x y=true/\Q (.bl (!decide (x=y))) H
theorem dec_int {i j:Int}:decide (V.int i=V.int j)=(i==j):=by
 rw [Bool.eq_iff_iff]
 simp
theorem dec_bl {i j:Bool}:decide (V.bl i=V.bl j)=(i==j):=by
 rw [Bool.eq_iff_iff]
 simp
theorem dec_str {i j:Str}:decide (V.str i=V.str j)=(i==j):=by
 rw [Bool.eq_iff_iff]
 simp
theorem dec_byt {i j:Array UInt8}:decide (V.byt i=V.byt j)=(i.toList==j.toList):=by
 rw [Bool.eq_iff_iff]
 cases i
 cases j
 simp
section
variable {X:Cx} {a b c:Expr} {ta tb tc:TE} {pos:Pos}
theorem gX {pins:List (Addr×Obj)} {σ:St} {H:Hp} {s:Shared} {Q:VK} {k k':Bool} (I:Inv X pins σ H s) (q:Q (.bl k) H) (e:k=k'):EP X pins σ Q (.bool k') s:=by
 subst e
 exact ⟨.bl k,H,I,rfl,q⟩
theorem op_ne:OpR X (compareOp .NotEq) rNe:=by
 intro pins s σ H x y v u Q I rx ry h
 obtain ⟨hs,q⟩:=h
 cases x with
 |non=>
  cases rx
  cases y with
  |non=>cases ry;exact PySem.EqNone.ne_none_none (gX I q (by simp))
  |bl j=>cases ry;exact PySem.EqNone.ne_none_bool (gX I q (by simp))
  |int j=>obtain ⟨t',rfl⟩:=ry;exact PySem.EqNone.ne_none_int (gX I q (by simp))
  |str j=>obtain ⟨t',rfl⟩:=ry;exact PySem.EqNone.ne_none_str (gX I q (by simp))
  |_=>exact absurd (show false=true from hs) Bool.false_ne_true
 |bl i=>
  cases rx
  cases y with
  |non=>cases ry;exact PySem.EqNone.ne_bool_none (gX I q (by simp))
  |bl j=>cases ry;exact ne_bool (gX I q (congrArg not dec_bl))
  |str j=>obtain ⟨t',rfl⟩:=ry;exact PySem.EqMixed.ne_bool_str (gX I q (by simp))
  |_=>exact absurd (show false=true from hs) Bool.false_ne_true
 |int i=>
  obtain ⟨t,rfl⟩:=rx
  cases y with
  |non=>cases ry;exact PySem.EqNone.ne_int_none (gX I q (by simp))
  |int j=>obtain ⟨t',rfl⟩:=ry;exact ne_int (gX I q (congrArg not dec_int))
  |str j=>obtain ⟨t',rfl⟩:=ry;exact PySem.EqMixed.ne_int_str (gX I q (by simp))
  |_=>exact absurd (show false=true from hs) Bool.false_ne_true
 |str i=>
  obtain ⟨t,rfl⟩:=rx
  cases y with
  |non=>cases ry;exact PySem.EqNone.ne_str_none (gX I q (by simp))
  |bl j=>cases ry;exact PySem.EqMixed.ne_str_bool (gX I q (by simp))
  |int j=>obtain ⟨t',rfl⟩:=ry;exact PySem.EqMixed.ne_str_int (gX I q (by simp))
  |str j=>obtain ⟨t',rfl⟩:=ry;exact ne_str (gX I q (congrArg not dec_str))
  |_=>exact absurd (show false=true from hs) Bool.false_ne_true
 |byt i=>
  obtain ⟨t,rfl⟩:=rx
  cases y with
  |byt j=>obtain ⟨t',rfl⟩:=ry;exact PySem.W.ne_bytes (gX I q (congrArg not dec_byt))
  |_=>exact absurd (show false=true from hs) Bool.false_ne_true
 |_=>cases y<;>exact absurd (show false=true from hs) Bool.false_ne_true
theorem op_lt:OpR X (compareOp .Lt) (rI0 fun i j=>.bl (decide (i<j))):=opB0 fun _ _ _ _ _ _ _ q=>lt_int q
theorem op_le:OpR X (compareOp .LtE) (rI0 fun i j=>.bl (decide (i<=j))):=opB0 fun _ _ _ _ _ _ _ q=>le_int q
theorem op_gt:OpR X (compareOp .Gt) (rI0 fun i j=>.bl (decide (j<i))):=opB0 fun _ _ _ _ _ _ _ q=>gt_int q
theorem op_ge:OpR X (compareOp .GtE) (rI0 fun i j=>.bl (decide (j<=i))):=opB0 fun _ _ _ _ _ _ _ q=>ge_int q
theorem op_isN:OpR X (compareOp .Is) (fun x y H Q=>y=.non/\Q (.bl (decide (x=.non))) H):=by
 intro pins s σ H x y v u Q I rx ry h
 obtain ⟨rfl,q⟩:=h
 cases ry
 refine is_none_gen (gX I q ?_)
 cases x<;>first
  |(cases rx;rfl)
  |(obtain ⟨t,rfl⟩:=rx;rfl)
noncomputable def isObj:HO->Bool
 |.lst _=>true
 |.ins _ _ _=>true
 |_=>false
theorem OpR.or {f:Value->Value->Sem Value} {r r':R2} (h:OpR X f r) (h':OpR X f r'):OpR X f (fun x y H Q=>r x y H Q\/r' x y H Q):=by
 intro pins s σ H x y v u Q I rx ry q
 rcases q with q|q
 ·exact h pins s σ H x y v u Q I rx ry q
 ·exact h' pins s σ H x y v u Q I rx ry q
theorem zL (b:Expr) {op:CmpOp} (h:op≠.In:=by decide) (h2:op≠.NotIn:=by decide):behindInMarks op b=false:=by
 have e1:(op==CmpOp.In)=false:=by cases op<;>first|rfl|exact absurd rfl h
 have e2:(op==CmpOp.NotIn)=false:=by cases op<;>first|rfl|exact absurd rfl h2
 cases b<;>simp [behindInMarks,e1,e2]
theorem pe_cmpR {op:CmpOp} {r:R2} (ho:OpR X (compareOp op) r) (ha:PE X a ta) (hb:PE X b tb) (hm:behindInMarks op b=false):PE X (.Compare a [op] [b] pos) (tOp r ta tb):=by
 intro pins s σ H Q I h
 exact wpAny_Compare1 (binT ha hb I h fun v u s2 x y H2 I2 rx ry q=>ho pins s2 σ H2 x y v u Q I2 rx ry q) hm
noncomputable def tTest (t:TE):TT:=fun σ H Q=>t σ H fun x H'=>∃k,x=.bl k/\Q k H'
theorem zf {op:CmpOp} {r:R2} (ho:OpR X (compareOp op) r) (ha:PE X a ta) (hb:PE X b tb) (hm:behindInMarks op b=false):PT X (.Compare a [op] [b] pos) (tTest (tOp r ta tb)):=by
 intro pins s σ H Q I h
 refine wpAny_isTrue_Compare1 (thn (ha pins s σ H _ I h) fun v s1 ⟨x,H1,I1,r1,q1⟩=>thn (hb pins s1 σ H1 _ I1 q1) fun u s2 ⟨y,H2,I2,r2,q2⟩=>
  thn (ho pins s2 σ H2 x y v u _ I2 r1 r2 q2) fun c s3 ⟨z,H3,I3,r3,k,e,q3⟩=>?_) hm
 subst e
 cases r3
 exact wpAny_truthy_bool ⟨H3,I3,q3⟩
noncomputable def yT (r r':R2) (ta tb tc:TE):TE:=fun σ H Q=>ta σ H fun x H1=>tb σ H1 fun y H2=>r x y H2 fun z H3=>∃k,z=.bl k /\
 (if k=true then tc σ H3 fun w' H4=>r' y w' H4 Q else Q (.bl false) H3)
theorem pe_chain {op op':CmpOp} {r r':R2} (ho:OpR X (compareOp op) r) (ho':OpR X (compareOp op') r') (ha:PE X a ta) (hb:PE X b tb) (hc:PE X c tc)
  (hm:lastMarks [op,op'] [b,c]=false:=by with_unfolding_all rfl):PE X (.Compare a [op,op'] [b,c] pos) (yT r r' ta tb tc):=by
 intro pins s σ H Q I h
 refine Compare_chain (thn (ha pins s σ H _ I h) fun v s1 ⟨x,H1,I1,r1,q1⟩=>chain_link (thn (hb pins s1 σ H1 _ I1 q1) fun u s2 ⟨y,H2,I2,r2,q2⟩=>
  thn (ho pins s2 σ H2 x y v u _ I2 r1 r2 q2) fun d s3 ⟨z,H3,I3,r3,k,e,q3⟩=>?_)) hm
 subst e
 cases r3
 refine wpAny_truthy_bool ?_
 cases k with
 |false=>exact ite_ff ⟨.bl false,H3,I3,rfl,q3⟩
 |true=>exact ite_tt (chain_last (thn (hc pins s3 σ H3 _ I3 q3) fun w' s4 ⟨z',H4,I4,r4,q4⟩=>ho' pins s4 σ H4 y z' u w' Q I4 r2 r4 q4))
theorem pt_chain {op op':CmpOp} {r r':R2} (ho:OpR X (compareOp op) r) (ho':OpR X (compareOp op') r') (ha:PE X a ta) (hb:PE X b tb) (hc:PE X c tc)
  (hm:lastMarks [op,op'] [b,c]=false:=by with_unfolding_all rfl):PT X (.Compare a [op,op'] [b,c] pos) (tTest (yT r r' ta tb tc)):=by
 intro pins s σ H Q I h
 refine isTrue_chain (thn (ha pins s σ H _ I h) fun v s1 ⟨x,H1,I1,r1,q1⟩=>test_link (thn (hb pins s1 σ H1 _ I1 q1) fun u s2 ⟨y,H2,I2,r2,q2⟩=>
  thn (ho pins s2 σ H2 x y v u _ I2 r1 r2 q2) fun d s3 ⟨z,H3,I3,r3,k,e,q3⟩=>?_)) hm
 subst e
 cases r3
 refine wpAny_truthy_bool ?_
 cases k with
 |false=>
  obtain ⟨k',e',q'⟩:=q3
  cases e'
  exact ite_ff ⟨H3,I3,q'⟩
 |true=>
  refine ite_tt (test_last (thn (hc pins s3 σ H3 _ I3 q3) fun w' s4 ⟨z',H4,I4,r4,q4⟩=>thn (ho' pins s4 σ H4 y z' u w' _ I4 r2 r4 q4) fun d' s5 ⟨z2,H5,I5,r5,k2,e2,q5⟩=>?_))
  subst e2
  cases r5
  exact wpAny_truthy_bool ⟨H5,I5,q5⟩
noncomputable def TruV (K:PySem.W.Frag) (x:V) (H:Hp) (k:Bool):Prop:=
 match x with
 |.non=>k=false
 |.bl b=>k=b
 |.int i=>k=(i != 0)
 |.str y=>y.length<=sizeLine/\k=((y.length:Int) != 0)
 |.byt y=>y.size<=sizeLine/\k=((y.size:Int) != 0)
 |.ref p=>(∃xs,SqL K H p xs/\k= !xs.isEmpty)\/(∃xs,SqT K H p xs/\k= !xs.isEmpty)\/∃kvs,H p=some (.dK kvs)/\k= !kvs.isEmpty
 |_=>False
theorem yg {κ:Type} {kvs:List (κ×V)} {vs:List (κ×Value)} (r:KV kvs vs):(!vs.isEmpty)= !kvs.isEmpty:=by
 cases r<;>rfl
theorem rE {xs:List V} {its:List Value} (r:Vals xs its):(!its.toArray.isEmpty)= !xs.isEmpty:=by
 cases r<;>simp
theorem rA:(sizeLine:Nat)<2^63:=by rw [sizeLine_eq];decide
theorem tru_ok:TruR X (fun x H Q=>∃k,TruV X.K x H k/\Q k H):=by
 intro pins s σ H x v Q I rx h
 obtain ⟨k,e,q⟩:=h
 have hl:=rA
 have hs:sizeLine=16777216:=sizeLine_eq
 cases x with
 |non=>
  cases rx
  have e':k=false:=e
  subst e'
  exact truthy_none ⟨H,I,q⟩
 |bl b=>
  cases rx
  have e':k=b:=e
  subst e'
  exact wpAny_truthy_bool ⟨H,I,q⟩
 |int i=>
  obtain ⟨t,rfl⟩:=rx
  have e':k=(i != 0):=e
  subst e'
  exact PySem.P.truthy_int ⟨H,I,q⟩
 |str y=>
  obtain ⟨t,rfl⟩:=rx
  obtain ⟨hy,e'⟩:y.length<=sizeLine/\k=((y.length:Int) != 0):=e
  subst e'
  exact PySem.P.truthy_str (by omega) ⟨H,I.tok _,q⟩
 |byt y=>
  obtain ⟨t,rfl⟩:=rx
  obtain ⟨hy,e'⟩:y.size<=sizeLine/\k=((y.size:Int) != 0):=e
  subst e'
  exact PySem.W.truthy_bytes (by omega) ⟨H,I.tok _,q⟩
 |ref p=>
  cases rx
  have e':(∃xs,SqL X.K H p xs/\k= !xs.isEmpty)\/(∃xs,SqT X.K H p xs/\k= !xs.isEmpty)\/∃kvs,H p=some (.dK kvs)/\k= !kvs.isEmpty:=e
  rcases e' with ⟨xs,hx,e'⟩|⟨xs,hx,e'⟩|⟨kvs,hx,e'⟩
  ·subst e'
   obtain ⟨its,r,pl,hz⟩:=I.list hx
   have hlen:=r.length
   exact wpAny_truthy_list pl.isList (by simp only [List.size_toArray];omega) ⟨H,I.tok _,by rw [rE r];exact q⟩
  ·subst e'
   obtain ⟨its,r,pl,hz⟩:=I.tuple hx
   have hlen:=r.length
   exact truthy_tuple pl (by simp only [List.size_toArray];omega) ⟨H,I.tok _,by rw [rE r];exact q⟩
  ·subst e'
   obtain ⟨hz,hS,vs,r,m⟩:kvs.length<=sizeLine/\(p==sysModules)=false/\∃vs,KV kvs vs/\s.heap.DictOf (vX X.prog X.w) p vs:=I.hok p _ hx
   have hlen:kvs.length=vs.length:=Paired.length r
   exact wpAny_truthy_dict hS m (by omega) ⟨H,I.tok _,by rw [yg r];exact q⟩
 |_=>exact (show False from e).elim
theorem pt_truth (ha:PE X a ta) (he:∀whole,isTrue a X.env whole=(do let v <- whole;standAt a.pos;holding [v] (truthy v))) :
  PT X a (fun σ H Q=>ta σ H fun x H'=>∃k,TruV X.K x H' k/\Q k H'):=by
 intro pins s σ H Q I h
 exact isTrue_plain (thn (ha pins s σ H _ I h) fun v s1 ⟨x,H1,I1,r1,q1⟩=>tru_ok pins s1 σ H1 x v Q I1 r1 q1) (he _)
theorem xY:OpR X (binaryOp .Add) (fun x y H Q=>∃i j,x=.str i/\y=.str j/\i.length+j.length<=sizeLine/\Q (.str (i++j)) H):=by
 intro pins s σ H x y v u Q I rx ry h
 obtain ⟨i,j,rfl,rfl,hz,q⟩:=h
 obtain ⟨t,rfl⟩:=rx
 obtain ⟨t',rfl⟩:=ry
 exact add_str (fun t' tk=>⟨.str (i++j),H,I.tok _,⟨_,rfl⟩,q⟩) hz
theorem vals1 {x:V} {us:List Value} (r:Vals [x] us):∃u,us=[u]/\RelV x u:=by
 cases r with
 |cons r1 r2=>cases r2;exact ⟨_,rfl,r1⟩
theorem vals2 {x y:V} {us:List Value} (r:Vals [x,y] us):∃u w',us=[u,w']/\RelV x u/\RelV y w':=by
 cases r with
 |cons r1 r2=>
  cases r2 with
  |cons r3 r4=>cases r4;exact ⟨_,_,rfl,r1,r3⟩
theorem AE (hc:X.calm=true):dS X (.builtin "max") (fun xs H Q=>∃i j,xs=[.int i,.int j]/\Q (.int (if j>i then j else i)) H):=by
 intro pins s σ H xs us Q I r h
 obtain ⟨i,j,rfl,q⟩:=h
 obtain ⟨u,w',rfl,⟨t,rfl⟩,⟨t',rfl⟩⟩:=vals2 r
 refine max_two_ints (I.ok.hd hc) fun h' tk k=>⟨_,H,I.kept k,?_,q⟩
 by_cases hj:j>i
 ·rw [if_pos hj,if_pos hj];exact ⟨_,rfl⟩
 ·rw [if_neg hj,if_neg hj];exact ⟨_,rfl⟩
theorem AB (hc:X.calm=true):dS X (.builtin "min") (fun xs H Q=>∃i j,xs=[.int i,.int j]/\Q (.int (if j<i then j else i)) H):=by
 intro pins s σ H xs us Q I r h
 obtain ⟨i,j,rfl,q⟩:=h
 obtain ⟨u,w',rfl,⟨t,rfl⟩,⟨t',rfl⟩⟩:=vals2 r
 refine min_two_ints (I.ok.hd hc) fun h' tk k=>⟨_,H,I.kept k,?_,q⟩
 by_cases hj:j<i
 ·rw [if_pos hj,if_pos hj];exact ⟨_,rfl⟩
 ·rw [if_neg hj,if_neg hj];exact ⟨_,rfl⟩
theorem AF:dS X (.type "int") (fun xs H Q=>(∃i,xs=[.int i]/\Q (.int i) H)\/∃k,xs=[.bl k]/\Q (.int (if k then 1 else 0)) H):=by
 intro pins s σ H xs us Q I r h
 rcases h with ⟨i,rfl,q⟩|⟨k,rfl,q⟩
 ·obtain ⟨u,rfl,t,rfl⟩:=vals1 r
  exact call_int_int ⟨.int i,H,I,⟨_,rfl⟩,q⟩
 ·obtain ⟨u,rfl,r1⟩:=vals1 r
  cases r1
  exact call_int_bool ⟨.int (if k then 1 else 0),H,I.tok _,⟨_,rfl⟩,q⟩
end
end L2
namespace L2
open PySem PySem.Spec PyProof.Rows
structure ObjM (h:Heap) (x dx C:Addr) (mA:Str->Option Value):Prop where
 obj:h.get? x=some (PySem.W.instObj C dx)
 ns:h.Ns1 dx mA
 ne:dx≠x
theorem uF {h:Heap} {dx:Addr} {mA:Str->Option Value} (n:h.Ns1 dx mA):∃od,h.get? dx=some od/\∀name,PySem.W.lookIn name od=some (mA name):=by
 obtain ⟨o,es,ep,ho,hd,hk,_,hm⟩:=n
 refine ⟨o,ho,fun name=>?_⟩
 have e:=hm name
 unfold nsFind findBy at e
 rw [<- Array.find?_toList] at e
 unfold PySem.W.lookIn
 rw [hd]
 dsimp only
 split
 ·rename_i y q
  rw [q] at e
  exact congrArg some e
 ·rename_i q
  rw [q] at e
  have a:es.toList.any (·.refKey)=false:=by
   rw [List.any_eq_false]
   intro y hy
   obtain ⟨z,t,hkey⟩:=hk y (Array.mem_toList_iff.mp hy)
   simp [DictEntry.refKey,hkey]
  have a':¬es.toList.any (·.refKey)=true:=by rw [a];exact Bool.false_ne_true
  rw [if_neg a']
  exact congrArg some e
theorem ObjM.look {h:Heap} {x dx C:Addr} {mA:Str->Option Value} (I:ObjM h x dx C mA):∃od,PySem.W.InstAt h x (PySem.W.instObj C dx) C (some od)/\∀name,PySem.W.lookIn name od=some (mA name):=
 let ⟨od,ho,hl⟩:=uF I.ns
 ⟨od,⟨I.obj,rfl,rfl,ho⟩,hl⟩
section
variable {prog:Program} {w:World} {A:Around} {E:Value->Shared->Prop} {s:Shared} {K:PySem.W.Frag} {x dx C f:Addr} {mA:Str->Option Value} {name:Str} {v:Value}
theorem get_map {expr:Bool} {Q:Value->Shared->Prop} (X:K.In s.heap) (I:ObjM s.heap x dx C mA) (hg:PySem.W.plainGet K C name=true) (hh:PySem.W.hasDictIn K C=true)
  (ha:PySem.W.findIn K (.ref C) name=some none) (hv:mA name=some v) (hv':PySem.W.handedIn v=true) (h:Q v {s with toks:=s.toks+1}) :
  wpAny (model prog w) A (getAttr (.ref x) name expr) Q E s:=by
 obtain ⟨od,J,hl⟩:=I.look
 exact PySem.W.get_value X J (PySem.W.plainGet_of hg).1 (PySem.W.findObj_own hh ha rfl (by rw [hl,hv])) hv' h
theorem get_meth {pl:Sem Bool} {Q:Value×List Value->Shared->Prop} (X:K.In s.heap) (I:ObjM s.heap x dx C mA) (hg:PySem.W.plainGet K C name=true)
  (hf:PySem.W.findIn K (.ref C) name=some (some (.ref f))) (ht:PySem.W.isFn K (.ref f)=true) (hv:mA name=none) (h:Q (.ref f,[.ref x]) s) :
  wpAny (model prog w) A (getMethod (.ref x) name pl) Q E s:=by
 obtain ⟨od,J,hl⟩:=I.look
 exact PySem.W.method_fn X J (PySem.W.plainGet_of hg).1 (PySem.W.plainGet_of hg).2 hf (beq_iff_eq.mp ht) (by show (PySem.W.lookIn name od).map (·.isSome)=some false;rw [hl,hv];rfl) h
theorem set_map {ns:List Str} {Q:Unit->Shared->Prop} (X:K.In s.heap) (I:ObjM s.heap x dx C mA)
  (hs:PySem.W.findIn K (.ref C) "__setattr__"=some (some (.builtin "object.__setattr__"))) (hp:plainOver K C=true) (ht:takerIn K C name=some none) (hh:PySem.W.hasDictIn K C=true)
  (hw:PySem.Within mA ns) (hsz:ns.length<=sizeLine)
  (h:∀h',ObjM h' x dx C (fun y=>if y=name then some v else mA y)->Heap.SameBut dx s.heap h'->Q () {s with heap:=h',toks:=s.toks+2}) :
  wpAny (model prog w) A (setAttr (.ref x) name v) Q E s:=by
 obtain ⟨od,J,hl⟩:=I.look
 refine PySem.W.set_plain X J hs (PySem.W.osa_open (s:={s with toks:=s.toks+1}) (r:=none) X J hp ht fun b=>?_)
 obtain ⟨cd,hc,hd'⟩:=PySem.W.any_some hh
 have hx:s.heap.get? x=some ⟨.ref C,some dx,.plain,#[]⟩:=I.obj
 refine wpAny_bind (wpAny_pure (wpAny_bind (wpAny_bind (wpAny_loadPart hx (wpAny_bind (PySem.W.Looks.here (s:={s with toks:=s.toks+1}) (PySem.W.looks_clsIn X hc) ?_))))))
 rw [hd']
 refine wpAny_pure (a:=some dx) (wpAny_bind (wpAny_pure (wpAny_bind ?_)))
 refine wpAny_nsSet1 (s:={s with toks:=s.toks+1}) I.ns fun h' hn2 hs2=>?_
 obtain ⟨oD,esD,epD,hoD,hdD,hcD⟩:=hn2.count (PySem.Within.cons name v hw)
 refine wpAny_bind (wpAny_lookBehind hoD (by rw [hdD];exact pastItsLine_dict (Nat.le_trans hcD (by rw [List.length_cons];omega))) ?_)
 exact wpAny_pure (h _ ⟨(hs2.2 _ (Ne.symm I.ne)).trans I.obj,hn2,I.ne⟩ hs2)
theorem make_map {R:Result->Shared->Prop} {vs:List Value} {kw:List (Str×Value)} (X:K.In s.heap) (hm:PySem.W.makesIn K C=true)
  (hi:PySem.W.findIn K (.ref C) "__init__"=some (some (.ref f))) (hf:typeIn K (.ref f)=some (.type "function"))
  (h:codeAny (model prog w) (A.under (.builtin "type.__call__" ⟨.ref C::vs,kw⟩)) (.call (.ref f) ⟨.ref (s.heap.objs.size+1)::vs,kw⟩) (PySem.W.InitBack (s.heap.objs.size+1) R)
   {s with heap:=(s.heap.push PySem.W.emptyDict).push (PySem.W.instObj C s.heap.objs.size)}) :
  codeAny (model prog w) A (.call (.ref C) ⟨vs,kw⟩) R s:=by
 obtain ⟨hh,g,d,t,os⟩:=s
 exact PySem.W.make_core (PySem.W.makes_of X hm) (PySem.W.looks_findIn X hi) (fun self=>PySem.W.bind_fn X self hf) (.inl rfl) h
end
noncomputable def qE (f:Str) (v:V):List (Str×V)->List (Str×V)
 |[]=>[(f,v)]
 |(g,x)::r=>if g=f then (g,v)::r else (g,x)::qE f v r
theorem mY (f g:Str) (v:V):∀fs:List (Str×V),(qE f v fs).lookup g=if g=f then some v else fs.lookup g
 |[]=>by
  show List.lookup g [(f,v)]=_
  by_cases h:g=f
  ·have hb:(g==f)=true:=beq_iff_eq.mpr h
   simp only [List.lookup,hb,if_pos h]
  ·have hb:(g==f)=false:=beq_eq_false_iff_ne.mpr h
   simp only [List.lookup,hb,if_neg h]
 |(k,x)::r=>by
  have ih:=mY f g v r
  rw [show qE f v ((k,x)::r)=(if k=f then (k,v)::r else (k,x)::qE f v r) from rfl]
  by_cases hk:k=f
  ·rw [if_pos hk]
   by_cases h:g=k
   ·have hb:(g==k)=true:=beq_iff_eq.mpr h
    simp only [List.lookup,hb,if_pos (h.trans hk)]
   ·have hb:(g==k)=false:=beq_eq_false_iff_ne.mpr h
    simp only [List.lookup,hb,if_neg (fun e:g=f=>h (e.trans hk.symm))]
  ·rw [if_neg hk]
   by_cases h:g=k
   ·have hb:(g==k)=true:=beq_iff_eq.mpr h
    simp only [List.lookup,hb,if_neg (fun e:g=f=>hk (h.symm.trans e))]
   ·have hb:(g==k)=false:=beq_eq_false_iff_ne.mpr h
    simp only [List.lookup,hb]
    exact ih
theorem lP (f:Str) (v:V):∀fs:List (Str×V),f∈(qE f v fs).map (·.1)/\∀g,g∈fs.map (·.1)->g∈(qE f v fs).map (·.1)
 |[]=>⟨by simp [qE],fun g h=>by simp at h⟩
 |(k,x)::r=>by
  obtain ⟨i1,i2⟩:=lP f v r
  rw [show qE f v ((k,x)::r)=(if k=f then (k,v)::r else (k,x)::qE f v r) from rfl]
  by_cases hk:k=f
  ·rw [if_pos hk]
   subst hk
   exact ⟨by simp,fun g h=>by simpa using h⟩
  ·rw [if_neg hk]
   refine ⟨?_,fun g h=>?_⟩
   ·rw [List.map_cons]
    exact List.mem_cons_of_mem _ i1
   ·rw [List.map_cons] at h ⊢
    rcases List.mem_cons.mp h with e|e
    ·exact List.mem_cons.mpr (.inl e)
    ·exact List.mem_cons_of_mem _ (i2 g e)
theorem pR (f:Str) (v:V):∀fs:List (Str×V),(qE f v fs).length<=fs.length+1
 |[]=>by simp [qE]
 |(k,x)::r=>by
  have ih:=pR f v r
  rw [show qE f v ((k,x)::r)=(if k=f then (k,v)::r else (k,x)::qE f v r) from rfl]
  by_cases hk:k=f
  ·rw [if_pos hk,List.length_cons,List.length_cons];omega
  ·rw [if_neg hk,List.length_cons,List.length_cons];omega
theorem tU.some_of {v:V} {o:Option Value} (r:tU (some v) o):∃u,o=some u/\RelV v u:=by
 cases o with
 |none=>exact (show False from r).elim
 |some u=>exact ⟨u,rfl,r⟩
theorem tU.none_of {o:Option Value} (r:tU none o):o=none:=by
 cases o with
 |none=>rfl
 |some u=>exact (show False from r).elim
theorem uL {v:V} {u:Value} (r:RelV v u):PySem.W.handedIn u=true:=by
 cases v with
 |non=>cases (show u=Value.none from r);rfl
 |bl b=>cases (show u=Value.bool b from r);rfl
 |int i=>obtain ⟨t,e⟩:=(show ∃t,u=Value.int i t from r);cases e;rfl
 |str x=>obtain ⟨t,e⟩:=(show ∃t,u=Value.str x t from r);cases e;rfl
 |byt b=>obtain ⟨t,e⟩:=(show ∃t,u=Value.bytes b t from r);cases e;rfl
 |flt b=>obtain ⟨t,e⟩:=(show ∃t,u=Value.float b t from r);cases e;rfl
 |ref a=>cases (show u=Value.ref a from r);rfl
 |ty n=>cases (show u=Value.type n from r);rfl
section
variable {P:Program} {w:World} {H H':Hp} {h h':Heap} {a C dx:Addr} {fs fs':List (Str×V)}
theorem sX (hok:HOk P w H h) (e:H a=some (.ins C dx fs)):∃mA,ObjM h a dx C mA/\(∀f,tU (fs.lookup f) (mA f))/\PySem.Within mA (fs.map (·.1))/\fs.length<=1000/\H dx=some (.own a):=by
 obtain ⟨d,z,ne,ob,mA,n,r,q⟩:=(show dR P w H h a (.ins C dx fs) from hok a _ e)
 exact ⟨mA,⟨ob,n,ne⟩,r,q,z,d⟩
end
structure Cls (K:PySem.W.Frag) (C:Addr):Prop where
 pg:PySem.W.plainGet K C Str.empty=true
 hd:PySem.W.hasDictIn K C=true
 po:plainOver K C=true
 sa:PySem.W.findIn K (.ref C) "__setattr__"=some (some (.builtin "object.__setattr__"))
theorem Cls.get {K:PySem.W.Frag} {C:Addr} (c:Cls K C) (f:Str):PySem.W.plainGet K C f=true:=c.pg
noncomputable def lx (K:PySem.W.Frag) (C:Addr) (f:Str):Prop:=PySem.W.findIn K (.ref C) f=some none
theorem lx.taker {K:PySem.W.Frag} {C:Addr} {f:Str} (n:lx K C f):takerIn K C f=some none:=by
 unfold takerIn
 rw [show PySem.W.findIn K (.ref C) f=some none from n]
 rfl
structure Con (K:PySem.W.Frag) (C:Addr) (f:Str) (v:V) (u:Value):Prop where
 at_:PySem.W.findIn K (.ref C) f=some (some u)
 rel:RelV v u
 get:specialIn K u "__get__"=some none
 cp:PySem.W.copiedNames.contains f=false
structure Meth (K:PySem.W.Frag) (C:Addr) (m:Str) (f:Addr):Prop where
 at_:PySem.W.findIn K (.ref C) m=some (some (.ref f))
 fn:PySem.W.isFn K (.ref f)=true
 kp:keepIn K (.ref f)=true
section
variable {X:Cx} {pins:List (Addr×Obj)} {σ:St} {H:Hp} {s:Shared} {a C dx:Addr} {fs:List (Str×V)} {f:Str} {v:V} {A:Around} {E:Value->Shared->Prop}
theorem yh {b:Bool} {Q:Value->Shared->Prop} (I:Inv X pins σ H s) (e:H a=some (.ins C dx fs)) (c:Cls X.K C) (n:lx X.K C f) (l:fs.lookup f=some v)
  (h:∀u s',Inv X pins σ H s'->RelV v u->Q u s'):wpAny (model X.prog X.w) A (getAttr (.ref a) f b) Q E s:=by
 obtain ⟨mA,O,r,_,_,_⟩:=sX I.hok e
 obtain ⟨u,hu,ru⟩:=tU.some_of (v:=v) (o:=mA f) (by rw [<- l];exact r f)
 exact get_map I.kIn O (c.get f) c.hd n hu (uL ru) (h u _ (I.tok _) ru)
theorem rG {m:Str} {g:Addr} {pl:Sem Bool} {Q:Value×List Value->Shared->Prop} (I:Inv X pins σ H s) (e:H a=some (.ins C dx fs)) (c:Cls X.K C) (k:Meth X.K C m g) (l:fs.lookup m=none)
  (h:Q (.ref g,[.ref a]) s):wpAny (model X.prog X.w) A (getMethod (.ref a) m pl) Q E s:=by
 obtain ⟨mA,O,r,_,_,_⟩:=sX I.hok e
 have hn:mA m=none:=tU.none_of (by rw [<- l];exact r m)
 exact get_meth I.kIn O (c.get m) k.at_ k.fn hn h
theorem xU {y:V} {u:Value} {Q:Unit->Shared->Prop} (I:Inv X pins σ H s) (e:H a=some (.ins C dx fs)) (c:Cls X.K C) (n:lx X.K C f) (hl:fs.length<1000) (ry:RelV y u)
  (h:∀s',Inv X pins σ (upd H a (.ins C dx (qE f y fs))) s'->Q () s'):wpAny (model X.prog X.w) A (setAttr (.ref a) f u) Q E s:=by
 obtain ⟨mA,O,r,wi,_,ho⟩:=sX I.hok e
 have hz:(fs.map (·.1)).length<=sizeLine:=by rw [List.length_map,sizeLine_eq];omega
 refine set_map I.kIn O c.sa c.po n.taker c.hd wi hz fun h' O' sb=>h _ ?_
 have hd:∃o,h'.get? dx=some o:=let ⟨o,_,_,e',_⟩:=O'.ns;⟨o,e'⟩
 refine I.write (x:=a) (e:=dx) (by rw [e];exact True.intro) (.inr ho) (fun b q hb z=>(sb.2 b hb).trans z) hd ?_
 refine ⟨by rw [ar O.ne];exact ho,?_,O.ne,O'.obj,_,O'.ns,fun g=>?_,fun g hg=>?_⟩
 ·have:=pR f y fs;omega
 ·show tU ((qE f y fs).lookup g) (if g=f then some u else mA g)
  rw [mY]
  by_cases q:g=f
  ·rw [if_pos q,if_pos q];exact ry
  ·rw [if_neg q,if_neg q];exact r g
 ·by_cases q:g=f
  ·rw [q];exact (lP f y fs).1
  ·refine (lP f y fs).2 g (wi g fun z=>hg ?_)
   show (if g=f then some u else mA g)=none
   rw [if_neg q];exact z
theorem Inv.made (I:Inv X pins σ H s):Inv X pins σ (upd (upd H s.heap.objs.size (.own (s.heap.objs.size+1))) (s.heap.objs.size+1) (.ins C s.heap.objs.size []))
  {s with heap:=(s.heap.push PySem.W.emptyDict).push (PySem.W.instObj C s.heap.objs.size)}:=by
 have e1:(s.heap.push PySem.W.emptyDict).get? s.heap.objs.size=some PySem.W.emptyDict:=Heap.get?_push_size s.heap rfl
 have e2:((s.heap.push PySem.W.emptyDict).push (PySem.W.instObj C s.heap.objs.size)).get? (s.heap.objs.size+1)=some (PySem.W.instObj C s.heap.objs.size):=by
  have:=Heap.get?_push_size (s.heap.push PySem.W.emptyDict) (o:=PySem.W.instObj C s.heap.objs.size) rfl
  rwa [Heap.size_push] at this
 have e3:(s.heap.push PySem.W.emptyDict).Ns s.heap.objs.size (fun _=>none):=⟨PySem.W.emptyDict,#[],_,e1,rfl,(fun e he=>absurd he (by simp)),fun _=>rfl⟩
 have I1:=I.laid (a:=s.heap.objs.size) (o:=.own (s.heap.objs.size+1)) (h':=s.heap.push PySem.W.emptyDict) (t':=s.toks) (fun b u q=>Heap.get?_push_of_some _ q) (Nat.le_refl _) ⟨_,e1⟩
 refine I1.laid (a:=s.heap.objs.size+1) (o:=.ins C s.heap.objs.size []) (t':=s.toks) (fun b u q=>Heap.get?_push_of_some _ q) (Nat.le_of_eq (Heap.size_push _ _)) ?_
 have ne:s.heap.objs.size≠s.heap.objs.size+1:=Nat.ne_of_lt (Nat.lt_succ_self _)
 refine ⟨by rw [ar ne,ao],Nat.zero_le _,ne,e2,fun _=>none,(Heap.Ns1.of_empty e3).at fun o q=>Heap.get?_push_of_some _ q,fun _=>True.intro,fun y hy=>absurd rfl hy⟩
theorem AO {prog:Program} {w:World} {env:Env} {e:Expr} {f:Str} {pos:Pos} {s:Shared} {Q:Value->Shared->Prop} (hb:attributeBase e f env (eval e env)=eval e env)
  (h:wpAny (model prog w) A (eval e env) (fun o s₁=>wpAny (model prog w) A (getAttr o f true) Q E s₁) E s):wpAny (model prog w) A (eval (.Attribute e f pos) env) Q E s:=
 Attribute_any_ h (by rw [arm_eval_Attribute,hb])
end
noncomputable def tFld (K:PySem.W.Frag) (ta:TE) (f:Str):TE:=fun σ H Q=>ta σ H fun x H1=>∃a C dx fs v,x=.ref a/\H1 a=some (.ins C dx fs)/\Cls K C/\lx K C f/\fs.lookup f=some v/\Q v H1
noncomputable def sFld (K:PySem.W.Frag) (ta tv:TE) (f:Str):TS:=fun D σ H=>tv σ H fun y H1=>ta σ H1 fun x H2=>∃a C dx fs,x=.ref a/\H2 a=some (.ins C dx fs)/\Cls K C/\lx K C f/\fs.length<1000 /\
 D.nx σ (upd H2 a (.ins C dx (qE f y fs)))
section
variable {X:Cx} {o e value:Expr} {f:Str} {pos pos' tpos:Pos} {ta tv:TE}
theorem zB (he:PE X e ta) (hb:attributeBase e f X.env (eval e X.env)=eval e X.env):PE X (.Attribute e f pos) (tFld X.K ta f):=by
 intro pins s σ H Q I h
 refine AO hb (thn (he pins s σ H _ I h) fun u s1 ⟨x,H1,I1,rx,a,C,dx,fs,v,ex,ea,c,n,l,q⟩=>?_)
 subst ex
 obtain rfl:u=Value.ref a:=rx
 exact yh I1 ea c n l fun u' s2 I2 ru=>⟨v,H1,I2,ru,q⟩
theorem ps_fld (ha:PE X o ta) (hv:PE X value tv) (hs:swapsWith value (some (.Attribute o f pos')) pos.line X.env=pure false):PS X (.Assign [.Attribute o f pos'] value pos) (sFld X.K ta tv f):=by
 intro pins s σ H D I h
 refine plainObj_wpAny_Assign_Attribute (thn (hv pins s σ H _ I h) fun u s1 ⟨y,H1,I1,ry,q⟩=>thn (ha pins s1 σ H1 _ I1 q) fun ov s2 ⟨x,H2,I2,rx,a,C,dx,fs,ex,ea,c,n,l,q2⟩=>?_) hs
 subst ex
 obtain rfl:ov=Value.ref a:=rx
 exact xU I2 ea c n l ry fun s3 I3=>⟨σ,_,I3,q2⟩
theorem methcall_of {pl:Sem Bool} {m:Str} {apos:Pos} {args:List Expr} {pins:List (Addr×Obj)} {s:Shared} {σ:St} {H:Hp} {Q:Value->Shared->Prop} {te:TE} (he:PE X e te) (I:Inv X pins σ H s)
  (h:te σ H fun x H1=>∃a C dx fs g,x=.ref a/\H1 a=some (.ins C dx fs)/\Cls X.K C/\Meth X.K C m g/\fs.lookup m=none /\
   ∀s1,Inv X pins σ H1 s1->wpAny (model X.prog X.w) X.A (callWith pos (.ref g) [.ref a] (backTo pos (starEach args X.env)) (backToKw pos (keywordEach [] X.env))) Q X.xe s1)
  (ht:eval (.Call (.Attribute e m apos) args [] pos) X.env=(do
   let ov <- eval e X.env
   standAt apos.atName
   let (f,first) <- holding [ov] (getMethod ov m pl)
   callWith pos f first (backTo pos (starEach args X.env)) (backToKw pos (keywordEach [] X.env)))) :
  wpAny (model X.prog X.w) X.A (eval (.Call (.Attribute e m apos) args [] pos) X.env) Q X.xe s:=by
 refine PySem.W.methodCall_KW (pl:=pl) (thn (he pins s σ H _ I h) fun u s1 ⟨x,H1,I1,rx,a,C,dx,fs,g,ex,ea,c,k,l,q⟩=>?_) ht
 subst ex
 obtain rfl:u=Value.ref a:=rx
 exact rG I1 ea c k l (q s1 I1)
end
section
variable {X:Cx} {pins:List (Addr×Obj)} {σ:St} {H:Hp} {s:Shared} {A:Around} {E:Value->Shared->Prop} {Q:Value->Shared->Prop} {c:Value} {b:Bool}
inductive xI (K:PySem.W.Frag) (H:Hp):V->Value->Prop where
 |non:xI K H .non (.type "NoneType")
 |bl (x:Bool):xI K H (.bl x) (.type "bool")
 |int (i:Int):xI K H (.int i) (.type "int")
 |str (x:Str):xI K H (.str x) (.type "str")
 |flt (x:UInt64):xI K H (.flt x) (.type "float")
 |lst {a:Addr} {xs:List V} (e:H a=some (.lst xs)):xI K H (.ref a) (.type "list")
 |frz {a:Addr} {o:Obj} {xs:List V} (e:H a=some (.frz o (.lst xs))):xI K H (.ref a) (.type "list")
 |tup {a:Addr} {xs:List V} (e:H a=some (.tup xs)):xI K H (.ref a) (.type "tuple")
 |dK {a:Addr} {kvs:List (Key×V)} (e:H a=some (.dK kvs)):xI K H (.ref a) (.type "dict")
 |dT {a:Addr} {kvs:List (List Key×V)} (e:H a=some (.dT kvs)):xI K H (.ref a) (.type "dict")
 |ins {a C dx:Addr} {fs:List (Str×V)} (e:H a=some (.ins C dx fs)) (cl:Cls K C) (ha:PySem.W.findIn K (.ref C) "__class__"=some (some (.builtin "object.__class__")))
   (hn:specialIn K (.builtin "object.__class__") "__get__"=some (some (.builtin "getset_descriptor.__get__"))) (htk:takesIn K (.builtin "object.__class__")=some true)
   (hm:PySem.W.mroIn K C (.type "object")=some true):xI K H (.ref a) (.ref C)
theorem A0 {x:V} {u t:Value} (I:Inv X pins σ H s) (rx:RelV x u) (ty:xI X.K H x t) (e:kitOne X.K t c=some b) (h:∀tk,Q (.bool b) {s with toks:=tk}) :
  wpAny (model X.prog X.w) A (call (.builtin "isinstance") [u,c]) Q E s:=by
 cases ty with
 |non=>cases (show u=Value.none from rx);exact kia_one PySem.W.kitx_none I.kIn True.intro e (fun z=>nomatch z) h
 |bl y=>cases (show u=Value.bool y from rx);exact kia_one PySem.W.kitx_bool I.kIn True.intro e (fun z=>nomatch z) h
 |int i=>obtain ⟨t,q⟩:=(show ∃t,u=Value.int i t from rx);cases q;exact kia_one PySem.W.kitx_int I.kIn True.intro e (fun z=>nomatch z) h
 |str y=>obtain ⟨t,q⟩:=(show ∃t,u=Value.str y t from rx);cases q;exact kia_one PySem.W.kitx_str I.kIn True.intro e (fun z=>nomatch z) h
 |flt y=>obtain ⟨t,q⟩:=(show ∃t,u=Value.float y t from rx);cases q;exact kia_one PySem.W.kitx_float I.kIn True.intro e (fun z=>nomatch z) h
 |@lst a xs ea=>
  cases (show u=Value.ref a from rx)
  obtain ⟨_,_,n,_,h1⟩:=(show dR X.prog X.w H s.heap a (.lst xs) from I.hok a _ ea)
  exact kia_one PySem.W.kitx_list I.kIn ⟨_,h1,rfl⟩ e (fun z=>nomatch z) h
 |@frz a ob xs ea=>
  cases (show u=Value.ref a from rx)
  obtain ⟨_,_,_,n,_,h1⟩:=(show dR X.prog X.w H s.heap a (.frz ob (.lst xs)) from I.hok a _ ea)
  exact kia_one PySem.W.kitx_list I.kIn ⟨_,h1,rfl⟩ e (fun z=>nomatch z) h
 |@tup a xs ea=>
  cases (show u=Value.ref a from rx)
  obtain ⟨_,_,_,p⟩:=(show dR X.prog X.w H s.heap a (.tup xs) from I.hok a _ ea)
  obtain ⟨o,h1,h2,_⟩:=p
  exact kia_one PySem.W.kitx_tuple I.kIn ⟨o,h1,h2⟩ e (fun z=>nomatch z) h
 |@dK a kvs ea=>
  cases (show u=Value.ref a from rx)
  obtain ⟨_,_,vs,_,p⟩:=(show dR X.prog X.w H s.heap a (.dK kvs) from I.hok a _ ea)
  obtain ⟨o,es,ep,h1,h2,_⟩:=p
  exact kia_one PySem.W.kitx_dict I.kIn ⟨o,h1,h2.1⟩ e (fun z=>nomatch z) h
 |@dT a kvs ea=>
  cases (show u=Value.ref a from rx)
  obtain ⟨_,_,xs,_,o,es,ep,h1,h2,_⟩:=(show dR X.prog X.w H s.heap a (.dT kvs) from I.hok a _ ea)
  exact kia_one PySem.W.kitx_dict I.kIn ⟨o,h1,h2.1⟩ e (fun z=>nomatch z) h
 |@ins a C dx fs ea cl ha hn htk hm=>
  cases (show u=Value.ref a from rx)
  obtain ⟨mA,O,_⟩:=sX I.hok ea
  obtain ⟨od,J,_⟩:=O.look
  exact kia_one (PySem.W.kitx_own (cl.get _) cl.hd ha hn htk hm) I.kIn J e (fun z=>nomatch z) h
end
end L2
namespace L2
open PySem PySem.Spec PyProof.Rows
structure l5 (k:Nat) (A:Around):Prop where
 hd:A.handled=none
 dp:A.depth+3*k+5<recursionLimit
 un:A.units+16*k+200<cLine
theorem l5.mono {j k:Nat} {A:Around} (r:l5 k A) (h:j<=k):l5 j A:=⟨r.hd,by have:=r.dp;omega,by have:=r.un;omega⟩
theorem l5.deeper {k:Nat} {A:Around} (r:l5 (k+1) A) (env:Env):l5 k (A.deeper env):=
 ⟨r.hd,by have:=r.dp;show A.depth+1+3*k+5<_;omega,by have:=r.un;show A.units+3+16*k+200<_;omega⟩
theorem yb {A:Around} {C:Addr} {us:List Value} {kw:List (Str×Value)}:(A.under (.builtin "type.__call__" ⟨.ref C::us,kw⟩)).depth=A.depth+1:=by
 first|rfl|simp [Around.under,Code.weight,Code.isCreation,Code.isGuard,Code.isCaller,Code.frames,Code.isFrame,guardIds]
theorem ya {A:Around} {C:Addr} {us:List Value} {kw:List (Str×Value)}:(A.under (.builtin "type.__call__" ⟨.ref C::us,kw⟩)).units=A.units+1:=by
 first|rfl|simp [Around.under,Code.cUnits,Code.frames,Code.isFrame]
theorem l5.make {k:Nat} {A:Around} (r:l5 (k+1) A) (C:Addr) (us:List Value) (kw:List (Str×Value)):l5 k (A.under (.builtin "type.__call__" ⟨.ref C::us,kw⟩)):=
 ⟨r.hd,by have:=r.dp;rw [yb];omega,by have:=r.un;rw [ya];omega⟩
theorem l5.depth {k:Nat} {A:Around} (r:l5 k A):A.depth<recursionLimit:=by have:=r.dp;omega
theorem l5.units {k:Nat} {A:Around} (r:l5 k A):A.units+64<cLine:=by have:=r.un;omega
noncomputable def tNil:TA:=fun _ H Q=>Q [] H
noncomputable def oz (ta:TE) (tr:TA):TA:=fun σ H Q=>ta σ H fun x H1=>tr σ H1 fun xs H2=>Q (x::xs) H2
section
variable {X:Cx} {e:Expr} {es:List Expr} {te:TE} {t:TA} {pos:Pos}
theorem eF:PA X [] tNil:=fun _ _ _ _ H Q I h=>Calls.spliced_nil ⟨[],H,I,.nil,h⟩
theorem aX (ha:PE X e te) (hr:PA X es t) (hs:starEach (e::es) X.env=(false,eval e X.env)::starEach es X.env:=by rfl):PA X (e::es) (oz te t):=by
 intro pos pins s σ H Q I h
 rw [hs]
 show wpAny _ _ (spliced ((false,eval e X.env)::backTo pos (starEach es X.env))) _ _ s
 refine Calls.spliced_cons (thn (ha pins s σ H _ I h) fun u s1 ⟨x,H1,I1,r1,q1⟩=>?_)
 exact thn (hr pos pins s1 σ H1 _ I1 q1) fun us s2 ⟨xs,H2,I2,r2,q2⟩=>⟨x::xs,H2,I2,.cons r1 r2,q2⟩
noncomputable def tTup (t:TA):TE:=fun σ H Q=>t σ H fun xs H1=>xs.length<=sizeLine/\∀p,H1 p=none->Q (.ref p) (upd H1 p (.tup xs))
noncomputable def tLst (t:TA):TE:=fun σ H Q=>t σ H fun xs H1=>xs.length<=sizeLine/\∀p,H1 p=none->Q (.ref p) (upd H1 p (.lst xs))
theorem zy {x1} (h:PA X es t):PE X (.Tuple es x1 pos) (tTup t):=by
 intro pins s σ H Q I hq
 refine wpAny_Tuple_spliced (thn (h pos pins s σ H _ I hq) fun us s1 ⟨xs,H1,I1,r,z,q⟩=>⟨by rw [<- r.length];exact z,?_⟩)
 have hf:H1 s1.heap.objs.size=none:=I1.hok.fresh (Nat.le_refl _)
 refine ⟨.ref s1.heap.objs.size,upd H1 s1.heap.objs.size (.tup xs),I1.laid (t':=s1.toks) (fun b u e=>Heap.get?_push_of_some _ e) (Nat.le_refl _) ?_,rfl,q _ hf⟩
 exact ⟨z,us,r,⟨_,Heap.get?_push_size _ rfl,rfl,_,rfl⟩⟩
theorem pe_lst (h:PA X es t):PE X (.List es pos) (tLst t):=by
 intro pins s σ H Q I hq
 refine wpAny_List_spliced (thn (h pos pins s σ H _ I hq) fun us s1 ⟨xs,H1,I1,r,z,q⟩=>⟨by rw [<- r.length];exact z,?_⟩)
 have hf:H1 s1.heap.objs.size=none:=I1.hok.fresh (Nat.le_refl _)
 refine ⟨.ref s1.heap.objs.size,upd H1 s1.heap.objs.size (.lst xs),I1.laid (t':=s1.toks) (fun b u e=>Heap.get?_push_of_some _ e) (Nat.le_refl _) ?_,rfl,q _ hf⟩
 exact ⟨z,us,0,r,Heap.get?_push_size _ rfl⟩
end
noncomputable abbrev Sp:=List V->Hp->VK->XK->Prop
noncomputable abbrev CXT:=List Env->Hp->Shared->XK->Value->Shared->Prop
structure Env0 (P:Program) (w:World) (K:PySem.W.Frag) (mg:Str->Option Value) (base:Heap) (A:Around) (outer:List Env) (s:Shared) (H:Hp):Prop where
 frames:A.frames=some outer
 mod:Mod K mg base
 bs:∀b o,base.get? b=some o->s.heap.get? b=some o/\H b=none
 bsz:base.objs.size<=s.heap.objs.size
 uM:s.heap.FunFrames base outer
 frf:∀b∈frs outer,H b=none
 hok:HOk P w H s.heap
 bare:AllBare s.gens
noncomputable def CE (outer:List Env) (P:Program) (w:World) (H:Hp) (s:Shared) (Q:VK) (u:Value) (s':Shared):Prop:=
 ∃v H',s'.os=s.os/\AllBare s'.gens/\Un (frs outer) [] H H' s.heap s'.heap/\HOk P w H' s'.heap/\RelV v u/\Q v H'
noncomputable def CR (CX:CXT) (outer:List Env) (P:Program) (w:World) (H:Hp) (s:Shared) (Q:VK) (E:XK) (r:Result) (s':Shared):Prop:=
 match r with
 |.ok (.ret u)=>CE outer P w H s Q u s'
 |.ok _=>False
 |.error e=>CX outer H s E e s'
structure cD (P:Program) (w:World) (K:PySem.W.Frag) (mg:Str->Option Value) (base:Heap) (CX:CXT) (k:Nat) (f:Addr) (fd:FuncData) (ps:List Str) (sp:Sp):Prop where
 len:∀vs H Q E,sp vs H Q E->vs.length=ps.length
 run:∀(A:Around) (outer:List Env) (s:Shared) (H:Hp) (args:Args) (us:List Value) (vs:List V) (Q:VK) (E:XK),l5 k A->Env0 P w K mg base A outer s H->BindsTo s fd args (ps.zip us)->Vals vs us->sp vs H Q E ->
  codeAny (model P w) A (.call (.ref f) args) (CR CX outer P w H s Q E) s
theorem Env0.make {P:Program} {w:World} {K:PySem.W.Frag} {mg:Str->Option Value} {base:Heap} {A:Around} {outer:List Env} {s:Shared} {H:Hp} (e:Env0 P w K mg base A outer s H) (C:Addr) (us:List Value) (kw:List (Str×Value)) :
  Env0 P w K mg base (A.under (.builtin "type.__call__" ⟨.ref C::us,kw⟩)) outer s H:=⟨by first|exact e.frames|(simpa [Around.under,Code.envs,Code.isFrame,pushEnvs] using e.frames),e.mod,e.bs,e.bsz,e.uM,e.frf,e.hok,e.bare⟩
section
variable {X:Cx} {pins:List (Addr×Obj)} {σ:St} {H:Hp} {s s':Shared}
theorem Inv.env0 (I:Inv X pins σ H s):Env0 X.prog X.w X.K X.mg X.base X.A X.stack s H:=
 ⟨I.ok.frames,I.ok.mod,I.bs,Nat.le_trans I.ok.bsz I.sz,I.stack,I.yV,I.hok,I.bare⟩
theorem Inv.after {Q:VK} {u:Value} (I:Inv X pins σ H s) (h:CE X.stack X.prog X.w H s Q u s'):EP X pins σ Q u s':=by
 obtain ⟨v,H',os,bare,un,hok,r,q⟩:=h
 obtain ⟨hh,g,d,t,os'⟩:=s'
 obtain rfl:os'=s.os:=os
 exact ⟨v,H',I.call (h':=hh) (g':=g) (d':=d) (t':=t) (ch:=[]) un hok bare (fun b z=>absurd z (by simp)),r,q⟩
end
noncomputable def tCall (sp:Sp) (dvs:List V) (E:XK) (t:TA):TE:=fun σ H Q=>t σ H fun vs H1=>sp (vs++dvs) H1 Q E
noncomputable def tMeth (C:Addr) (m:Str) (sp:Sp) (dvs:List V) (E:XK) (ta:TE) (t:TA):TE:=fun σ H Q=>ta σ H fun x H1=>∃a dx fs,x=.ref a/\H1 a=some (.ins C dx fs)/\fs.lookup m=none /\
 t σ H1 fun vs H2=>sp (x::(vs++dvs)) H2 Q E
noncomputable def tMake (C:Addr) (sp:Sp) (dvs:List V) (E:XK) (t:TA):TE:=fun σ H Q=>t σ H fun vs H1=>∀x dx,H1 x=none->H1 dx=none->dx≠x ->
 sp (.ref x::(vs++dvs)) (upd (upd H1 dx (.own x)) x (.ins C dx [])) (fun v H2=>v=.non/\Q (.ref x) H2) E
noncomputable def Binds (K:PySem.W.Frag) (fd:FuncData) (ps:List Str) (ds:List Value):Prop:=
 ∀(s:Shared) (us:List Value),K.In s.heap->(us++ds).length=ps.length->BindsTo s fd ⟨us,[]⟩ (ps.zip (us++ds))
theorem Binds.all {K:PySem.W.Frag} {fd:FuncData} {ps:List Str} (h:∀us:List Value,us.length=ps.length->bindArgs fd ⟨us,[]⟩=pure (ps.zip us)):Binds K fd ps []:=fun s us _ hl=>by
 rw [List.append_nil] at hl ⊢
 exact .of_eq (h us hl)
noncomputable def Passes (CX:CXT) (X:Cx) (E:XK):Prop:=∀(pins:List (Addr×Obj)) (σ:St) (H:Hp) (s:Shared) (e:Value) (s':Shared),Inv X pins σ H s->CX X.stack H s E e s'->X.xe e s'
section
variable {X:Cx} {CX:CXT} {k:Nat} {f C:Addr} {fd:FuncData} {ps:List Str} {sp:Sp} {dvs:List V} {ds:List Value} {E:XK} {x m:Str} {p pos apos:Pos} {e o:Expr} {es:List Expr} {ta:TE} {t:TA}
theorem yZ {pins:List (Addr×Obj)} {σ:St} {H:Hp} {s:Shared} {Q:VK} {us:List Value} {vs:List V} (F:cD X.prog X.w X.K X.mg X.base CX k f fd ps sp) (hr:l5 k X.A) (hb:Binds X.K fd ps ds) (hd:Vals dvs ds) (hx:Passes CX X E)
  (I:Inv X pins σ H s) (r:Vals vs us) (h:sp (vs++dvs) H Q E):wpAny (model X.prog X.w) X.A (call (.ref f) us) (EP X pins σ Q) X.xe s:=by
 have r2:Vals (vs++dvs) (us++ds):=r.append hd
 have hl:(us++ds).length=ps.length:=by rw [<- r2.length];exact F.len _ _ _ _ h
 refine wpAny_call (codeAny_mono (F.run X.A X.stack s H ⟨us,[]⟩ (us++ds) (vs++dvs) Q E hr I.env0 (hb s us I.kIn hl) r2 h) fun r s' hq=>?_)
 cases r with
 |error e=>exact hx pins σ H s e s' I hq
 |ok fl=>
  cases fl with
  |ret u=>exact I.after hq
  |next=>exact False.elim hq
  |brk=>exact False.elim hq
  |cont=>exact False.elim hq
theorem sD (F:cD X.prog X.w X.K X.mg X.base CX k f fd ps sp) (hr:l5 k X.A) (hg:Gl X x) (hm:X.mg x=some (.ref f)) (hk:keepIn X.K (.ref f)=true) (hb:Binds X.K fd ps ds) (hd:Vals dvs ds) (hx:Passes CX X E)
  (ha:PA X (e::es) t) (hdb:(x==("__debug__":Str))=false:=by decide) (he:starEach (e::es) X.env=(false,eval e X.env)::starEach es X.env:=by rfl) (hpl:(backTo pos (starEach es X.env)).any (·.1)=false:=by rfl) :
  PE X (.Call (.Name x p) (e::es) [] pos) (tCall sp dvs E t):=by
 intro pins s σ H Q I h
 refine wpAny_Call_Name_kw (kn I hg hm ?_ hdb)
 refine callWith_K (h₀:=X.base) I.ok.mod.kin hk (thn (ha pos pins s σ H _ I h) fun us s1 ⟨vs,H1,I1,r,q⟩=>⟨I1.kIn,?_⟩) he hpl
 exact yZ F hr hb hd hx I1 r q
theorem pe_meth {pl:Sem Bool} (he:PE X o ta) (c:Cls X.K C) (hm:Meth X.K C m f) (F:cD X.prog X.w X.K X.mg X.base CX k f fd ps sp) (hr:l5 k X.A) (hb:Binds X.K fd ps ds) (hd:Vals dvs ds) (hx:Passes CX X E) (ha:PA X (e::es) t)
  (hst:starEach (e::es) X.env=(false,eval e X.env)::starEach es X.env:=by rfl) (hpl:(backTo pos (starEach es X.env)).any (·.1)=false:=by rfl)
  (ht:eval (.Call (.Attribute o m apos) (e::es) [] pos) X.env=(do
   let ov <- eval o X.env
   standAt apos.atName
   let (f,first) <- holding [ov] (getMethod ov m pl)
   callWith pos f first (backTo pos (starEach (e::es) X.env)) (backToKw pos (keywordEach [] X.env))):=by rfl) :
  PE X (.Call (.Attribute o m apos) (e::es) [] pos) (tMeth C m sp dvs E ta t):=by
 intro pins s σ H Q I h
 refine PySem.W.methodCall_KW (pl:=pl) (thn (he pins s σ H _ I h) fun u s1 ⟨x,H1,I1,rx,a,dx,fs,ex,ea,l,q⟩=>?_) ht
 subst ex
 obtain rfl:u=Value.ref a:=rx
 refine rG I1 ea c hm l ?_
 refine callWith_K (first:=[.ref a]) (h₀:=X.base) I.ok.mod.kin hm.kp (thn (ha pos pins s1 σ H1 _ I1 q) fun us s2 ⟨vs,H2,I2,r,q2⟩=>⟨I2.kIn,?_⟩) hst hpl
 exact yZ (us:=.ref a::us) (vs:=.ref a::vs) F hr hb hd hx I2 (.cons rfl r) q2
structure Mk (K:PySem.W.Frag) (C f:Addr):Prop where
 makes:PySem.W.makesIn K C=true
 init:PySem.W.findIn K (.ref C) "__init__"=some (some (.ref f))
 fn:PySem.W.isFn K (.ref f)=true
 kp:keepIn K (.ref C)=true
theorem run_make {pins:List (Addr×Obj)} {σ:St} {H:Hp} {s:Shared} {Q:VK} {us:List Value} {vs:List V} (M:Mk X.K C f) (F:cD X.prog X.w X.K X.mg X.base CX k f fd ps sp) (hr:l5 (k+1) X.A) (hb:Binds X.K fd ps ds) (hd:Vals dvs ds)
  (hx:Passes CX X E) (I:Inv X pins σ H s) (r:Vals vs us)
  (h:∀x dx,H x=none->H dx=none->dx≠x->sp (.ref x::(vs++dvs)) (upd (upd H dx (.own x)) x (.ins C dx [])) (fun v H2=>v=.non/\Q (.ref x) H2) E) :
  wpAny (model X.prog X.w) X.A (call (.ref C) us) (EP X pins σ Q) X.xe s:=by
 have hq:=h (s.heap.objs.size+1) s.heap.objs.size (I.hok.fresh (Nat.le_succ _)) (I.hok.fresh (Nat.le_refl _)) (Nat.ne_of_lt (Nat.lt_succ_self _))
 have I2:=Inv.made (C:=C) I
 have r2:Vals (V.ref (s.heap.objs.size+1)::(vs++dvs)) (Value.ref (s.heap.objs.size+1)::(us++ds)):=.cons rfl (r.append hd)
 have hl:(Value.ref (s.heap.objs.size+1)::us++ds).length=ps.length:=by
  have e:=r2.length
  rw [F.len _ _ _ _ hq] at e
  exact e.symm
 refine wpAny_call (make_map (f:=f) I.kIn M.makes M.init (beq_iff_eq.mp M.fn) (codeAny_mono (F.run _ X.stack _ _ ⟨Value.ref (s.heap.objs.size+1)::us,[]⟩ (Value.ref (s.heap.objs.size+1)::(us++ds)) _ _ E (hr.make C us [])
  (I2.env0.make C us []) (hb _ (Value.ref (s.heap.objs.size+1)::us) I2.kIn hl) r2 hq) fun r s' hq'=>?_))
 cases r with
 |error e=>exact hx pins σ _ _ e s' I2 hq'
 |ok fl=>
  cases fl with
  |ret u=>
   obtain ⟨v,H',I3,rv,ev,q3⟩:=I2.after hq'
   subst ev
   exact ⟨rv,⟨V.ref (s.heap.objs.size+1),H',I3,rfl,q3⟩⟩
  |next=>exact False.elim hq'
  |brk=>exact False.elim hq'
  |cont=>exact False.elim hq'
theorem zA (M:Mk X.K C f) (F:cD X.prog X.w X.K X.mg X.base CX k f fd ps sp) (hr:l5 (k+1) X.A) (hg:Gl X x) (hm:X.mg x=some (.ref C)) (hb:Binds X.K fd ps ds) (hd:Vals dvs ds) (hx:Passes CX X E)
  (ha:PA X (e::es) t) (hdb:(x==("__debug__":Str))=false:=by decide) (he:starEach (e::es) X.env=(false,eval e X.env)::starEach es X.env:=by rfl) (hpl:(backTo pos (starEach es X.env)).any (·.1)=false:=by rfl) :
  PE X (.Call (.Name x p) (e::es) [] pos) (tMake C sp dvs E t):=by
 intro pins s σ H Q I h
 refine wpAny_Call_Name_kw (kn I hg hm ?_ hdb)
 refine callWith_K (h₀:=X.base) I.ok.mod.kin M.kp (thn (ha pos pins s σ H _ I h) fun us s1 ⟨vs,H1,I1,r,q⟩=>⟨I1.kIn,?_⟩) he hpl
 exact run_make M F hr hb hd hx I1 r q
end
section
variable {X:Cx} {CX:CXT} {k:Nat} {f C:Addr} {fd:FuncData} {ps ks:List Str} {sp:Sp} {E:XK} {x m:Str} {p pos apos kpos:Pos} {e o:Expr} {es:List Expr} {kws:List Keyword} {te ta:TE} {t tk:TA} {nm:Option Str}
structure KBinds (K:PySem.W.Frag) (fd:FuncData) (ps ks:List Str) (g:List Value->List Value->List Value) (gV:List V->List V->List V):Prop where
 to:∀(s:Shared) (us ws:List Value),K.In s.heap->(g us ws).length=ps.length->BindsTo s fd ⟨us,ks.zip ws⟩ (ps.zip (g us ws))
 rel:∀{vs:List V} {us:List Value} {zs:List V} {ws:List Value},Vals vs us->Vals zs ws->Vals (gV vs zs) (g us ws)
variable {g:List Value->List Value->List Value} {gV:List V->List V->List V}
end
structure aF (N P:List Str) (sc:Scope):Prop where
 kind:sc.kind=.function
 co:sc.isCoroutine=false
 gen:sc.isGenerator=false
 nd:N.Nodup
 pre:N.take P.length=P
 par:∀x∈P,sc.names.lookup x=some .local\/sc.names.lookup x=some .cell
 nofree:∀y∈sc.names,y.2≠.free
theorem v5 {kindOf:Str->Option NameKind} {x:Str}:∀{binds:List (Str×Value)} {m:Str->Option Value},(∀v,(x,v)∉binds)->bindL kindOf binds m x=m x
 |[],_,_=>rfl
 |(n,v)::r,m,h=>by
  unfold bindL
  rw [v5 fun w hw=>h w (List.mem_cons_of_mem _ hw)]
  split
  ·have:x≠n:=by rintro rfl;exact h v List.mem_cons_self
   simp [this]
  ·rfl
theorem v8 {kindOf:Str->Option NameKind} {x:Str}:∀{binds:List (Str×Value)} {m:Str->Option Value},(∀v,(x,v)∉binds)->bindC kindOf binds m x=m x
 |[],_,_=>rfl
 |(n,v)::r,m,h=>by
  unfold bindC
  rw [v8 fun w hw=>h w (List.mem_cons_of_mem _ hw)]
  split
  ·rfl
  ·have:x≠n:=by rintro rfl;exact h v List.mem_cons_self
   simp [this]
theorem v7 {kindOf:Str->Option NameKind} {x:Str} {v:Value}:∀{P:List Str} {vs:List Value} {i:Nat} {m:Str->Option Value},P.Nodup->P[i]? =some x->vs[i]? =some v->kindOf x=some .local ->
  bindL kindOf (P.zip vs) m x=some v
 |[],_,_,_,_,h,_,_=>by simp at h
 |_::_,[],_,_,_,_,h,_=>by simp at h
 |p::P,w::vs,0,m,nd,h1,h2,hk=>by
  simp at h1 h2;subst h1;subst h2
  show bindL kindOf ((p,w)::P.zip vs) m p=_
  unfold bindL
  rw [v5 fun v hv=>(List.nodup_cons.mp nd).1 (List.of_mem_zip hv).1,if_pos hk]
  simp
 |p::P,w::vs,i+1,m,nd,h1,h2,hk=>by
  show bindL kindOf ((p,w)::P.zip vs) m x=_
  unfold bindL
  exact v7 (i:=i) (List.nodup_cons.mp nd).2 (by simpa using h1) (by simpa using h2) hk
theorem v9 {kindOf:Str->Option NameKind} {x:Str} {v:Value}:∀{P:List Str} {vs:List Value} {i:Nat} {m:Str->Option Value},P.Nodup->P[i]? =some x->vs[i]? =some v->kindOf x≠some .local ->
  bindC kindOf (P.zip vs) m x=some v
 |[],_,_,_,_,h,_,_=>by simp at h
 |_::_,[],_,_,_,_,h,_=>by simp at h
 |p::P,w::vs,0,m,nd,h1,h2,hk=>by
  simp at h1 h2;subst h1;subst h2
  show bindC kindOf ((p,w)::P.zip vs) m p=_
  unfold bindC
  rw [v8 fun v hv=>(List.nodup_cons.mp nd).1 (List.of_mem_zip hv).1,if_neg hk]
  simp
 |p::P,w::vs,i+1,m,nd,h1,h2,hk=>by
  show bindC kindOf ((p,w)::P.zip vs) m x=_
  unfold bindC
  exact v9 (i:=i) (List.nodup_cons.mp nd).2 (by simpa using h1) (by simpa using h2) hk
noncomputable def start (N:List Str) (vs:List V):St:=vs.map some++List.replicate (N.length-vs.length) none
noncomputable def yz (CX:CXT) (P:Program) (w:World) (K:PySem.W.Frag) (mg:Str->Option Value) (base:Heap) (N:List Str) (qual:Str) (scope:Scope) (f:Addr) (cd:Value) (A:Around) (outer:List Env) (s:Shared) (H:Hp) (E:XK):Cx where
 prog:=P
 w:=w
 K:=K
 mg:=mg
 base:=base
 A:=A.deeper (envOfC qual scope s.heap.objs.size f cd)
 N:=N
 s₀:=s
 H₀:=H
 env:=envOfC qual scope s.heap.objs.size f cd
 outer:=outer
 stack:=envOfC qual scope s.heap.objs.size f cd::outer
 ex:=[]
 calm:=true
 fn:=fun _=>true
 pn:=[]
 xe:=fun e s'=>wpAny (model P w) (A.deeper (envOfC qual scope s.heap.objs.size f cd)) (leaving (envOfC qual scope s.heap.objs.size f cd) e) (fun _ s''=>CX outer H s E e s'') (fun e' s''=>CX outer H s E e' s'') s'
theorem xB {sc:Scope} {n:Nat} {x:Str} (h:sc.names.lookup x=some .cell):∃c,(cellsFrom n sc.names []).lookup x=some c:=by
 have q:=PySem.W.cellsFrom_some sc.names n [] (.inl h)
 exact Option.isSome_iff_exists.mp q
theorem A3 {CX:CXT} {P:Program} {w:World} {K:PySem.W.Frag} {mg:Str->Option Value} {base:Heap} {N ps:List Str} {qual:Str} {scope:Scope} {f:Addr} {cd:Value} {A:Around} {outer:List Env} {s s1:Shared} {H:Hp} {E:XK} {us:List Value} {vs:List V}
  (S:aF N ps scope) (hd:A.handled=none) (e0:Env0 P w K mg base A outer s H) (hl:vs.length=ps.length) (r:Vals vs us)
  (x:InCallC s s.heap.objs.size (bindL (envOfC qual scope s.heap.objs.size f cd).kindOf (ps.zip us) fun _=>none) (cellsFrom (s.heap.objs.size+1) scope.names []) (bindC (envOfC qual scope s.heap.objs.size f cd).kindOf (ps.zip us) fun _=>none) s1) :
  Inv (yz CX P w K mg base N qual scope f cd A outer s H E) [] (start N vs) H s1:=by
 have hpl:ps.length<=N.length:=by have:=congrArg List.length S.pre;rw [List.length_take] at this;omega
 obtain ⟨h1,tk,rfl,hk⟩:=x.done
 have noA:∀b:Addr,b∉(yz CX P w K mg base N qual scope f cd A outer s H E).ex:=fun b z=>absurd (show b∈([]:List Addr) from z) (by simp)
 refine ⟨⟨e0.mod,S.kind,rfl,rfl,Nat.le_refl _,fun y z c h1 h2=>?_,fun y hy=>?_,fun y c _ h=>?_,fun _=>hd,Around.frames_deeper e0.frames,.inr ⟨rfl,rfl⟩,fun b z=>absurd z (noA b),e0.bs,e0.bsz,fun b _ _=>noA b,fun b z=>absurd z (noA b),e0.uM,e0.frf⟩,
  rfl,e0.bare,Un.kept hk,⟨_,x.toInCall.ns,fun i y v h1 h2 h3=>?_⟩,fun y c h=>⟨_,x.cell y c h⟩,e0.hok.fresh (Nat.le_refl _),fun y c h=>?_,fun p hp=>absurd (show p∈([]:List (Addr×Obj)) from hp) (by simp),e0.hok.kept hk,?_⟩
 ·exact name_of_addr x.apart (PySem.mem_of_lookup h1) (PySem.mem_of_lookup h2)
 ·have hy:scope.names.lookup y=some .cell\/scope.names.lookup y=some .free:=hy
  rcases hy with hy|hy
  ·exact xB hy
  ·exact absurd rfl (S.nofree _ (PySem.mem_of_lookup hy))
 ·exact Nat.le_of_lt (x.above y c (PySem.mem_of_lookup h))
 ·have hi:i<vs.length:=by
   unfold start at h2
   by_cases hi:i<vs.length
   ·exact hi
   ·rw [List.getElem?_append_right (by simpa using hi)] at h2
    rw [List.getElem?_replicate] at h2
    split at h2<;>cases h2
  have ha:vs[i]? =some v:=by
   unfold start at h2
   rw [List.getElem?_append_left (by simpa using hi),List.getElem?_map] at h2
   cases e:vs[i]? with
   |none=>rw [e] at h2;cases h2
   |some a=>rw [e] at h2;cases h2;rfl
  obtain ⟨u,hu,rv⟩:=r.get ha
  have hp:ps[i]? =some y:=by
   rw [<- S.pre,List.getElem?_take_of_lt (by omega)];exact h1
  have ndP:ps.Nodup:=by rw [<- S.pre];exact S.nd.sublist (List.take_sublist _ _)
  refine ⟨u,rv,?_⟩
  rcases S.par y (List.mem_of_getElem? hp) with k|k
  ·exact .inl ⟨k,v7 ndP hp hu k⟩
  ·obtain ⟨c,e⟩:=xB (n:=s.heap.objs.size+1) k
   refine .inr ⟨.inl k,c,e,?_⟩
   have q:=x.cell y c e
   rw [v9 ndP hp hu (by show scope.names.lookup y≠_;rw [k];decide)] at q
   exact q
 ·exact e0.hok.fresh (Nat.le_of_lt (x.above y c (PySem.mem_of_lookup h)))
 ·unfold start
  show _=N.length
  rw [List.length_append,List.length_map,List.length_replicate]
  omega
theorem fn_of {CX:CXT} {P:Program} {w:World} {K:PySem.W.Frag} {mg:Str->Option Value} {base:Heap} {k:Nat} {f:Addr} {name qual:Str} {params:Arguments} {body:List Stmt} {scope:Scope} {dV kV doc pm cdv ct oc:Value} {an od:Option Addr}
  {osl:Array (Option Value)} {N ps:List Str} {sp:Sp} (lk:K.lookup f=some ⟨oc,od,.func (fnOf name qual params body scope dV kV doc pm an cdv ct),osl⟩) (hcd:codeIn K cdv qual=true) (S:aF N ps scope)
  (len:∀vs H Q E,sp vs H Q E->vs.length=ps.length)
  (hbody:∀(A:Around) (outer:List Env) (s:Shared) (H:Hp) (vs:List V) (Q:VK) (E:XK),l5 k (A.deeper (envOfC qual scope s.heap.objs.size f cdv))->sp vs H Q E ->
   ∃t,PSs (yz CX P w K mg base N qual scope f cdv A outer s H E) body t/\t {nx:=fun _ H'=>Q .non H',rt:=Q} (start N vs) H) :
  cD P w K mg base CX (k+1) f (fnOf name qual params body scope dV kV doc pm an cdv ct) ps sp:=by
 refine ⟨len,fun A outer s H args us vs Q E hr e0 hb r hsp=>?_⟩
 have hl:=len _ _ _ _ hsp
 have KX:K.In s.heap:=e0.mod.kin.keeps fun b o e=>(e0.bs b o e).1
 have lim:s.heap.NoLimit:=e0.mod.nolimit.keeps fun b o e=>(e0.bs b o e).1
 have hkind:∀y∈ps.zip us,scope.names.lookup y.1=some .local\/(scope.names.lookup y.1=some .cell/\((cellsFrom (s.heap.objs.size+1) scope.names []).lookup y.1).isSome=true):=fun ⟨n,v⟩ hy=>by
  rcases S.par n (List.of_mem_zip hy).1 with q|q
  ·exact .inl q
  ·exact .inr ⟨q,PySem.W.cellsFrom_some _ _ _ (.inl q)⟩
 refine codeAny_call_function hr.depth (KX _ _ lk) rfl S.co S.gen rfl (PySem.W.codeRec_of KX hcd) (hb _ _ _ _ ?_)
 refine wpAny_newFunctionEnv_cells S.kind hkind fun env he s1 x=>?_
 subst he
 refine ⟨lim.keeps x.toInCall.keep,codeAny_func ?_⟩
 obtain ⟨t,ht,hq⟩:=hbody A outer s H vs Q E (hr.deeper _) hsp
 have I:Inv (yz CX P w K mg base N qual scope f cdv A outer s H E) [] (start N vs) H s1:=A3 S hr.hd e0 hl r x
 refine wpAny_mono (ht [] s1 (start N vs) H _ I hq) (fun fl s' hs=>?_) fun e s' hs=>hs
 have fin:∀{σ':St} {H':Hp} {v:V} {u:Value},Inv (yz CX P w K mg base N qual scope f cdv A outer s H E) [] σ' H' s'->RelV v u->Q v H'->CE outer P w H s Q u s':=
  fun {σ' H' v u} J rv q=>⟨v,H',J.os,J.bare,J.base,J.hok,rv,q⟩
 cases fl with
 |ret u=>
  obtain ⟨v,σ',H',J,rv,q⟩:=hs
  exact fin J rv q
 |next=>
  obtain ⟨σ',H',J,q⟩:=hs
  exact fin (v:=V.non) (u:=Value.none) J rfl q
 |brk=>
  obtain ⟨_,_,_,q⟩:=hs
  exact False.elim q
 |cont=>
  obtain ⟨_,_,_,q⟩:=hs
  exact False.elim q
end L2
namespace L2
open PySem PySem.Spec PyProof.Rows
section
variable {X:Cx} {x:Str} {p pos:Pos} {e:Expr} {es:List Expr} {t:TA} {id T:String} {r:List V->Hp->VK->Prop}
noncomputable def tCB (r:List V->Hp->VK->Prop) (t:TA):TE:=fun σ H Q=>t σ H fun vs H1=>r vs H1 Q
theorem fO (hc:dS X (.builtin id) r) (hg:Gl X x) (hm:X.mg x=none) (hv:bootBuiltins x=some (.builtin id)) (ha:PA X (e::es) t) (hn:x≠"__name__":=by decide) (hdb:(x==("__debug__":Str))=false:=by decide)
  (he:starEach (e::es) X.env=(false,eval e X.env)::starEach es X.env:=by rfl) (hpl:(backTo pos (starEach es X.env)).any (·.1)=false:=by rfl):PE X (.Call (.Name x p) (e::es) [] pos) (tCB r t):=by
 intro pins s σ H Q I h
 refine wpAny_Call_Name_kw (mK I hg hm hv ?_ hn hdb)
 exact PyProof.Rows.callWith_builtin1 (thn (ha pos pins s σ H _ I h) fun us s1 ⟨vs,H1,I1,r1,q1⟩=>hc pins s1 σ H1 vs us Q I1 r1 q1) he hpl
theorem zC (hc:dS X (.type T) r) (hg:Gl X x) (hm:X.mg x=none) (hv:bootBuiltins x=some (.type T)) (ha:PA X (e::es) t) (hn:x≠"__name__":=by decide) (hdb:(x==("__debug__":Str))=false:=by decide)
  (he:starEach (e::es) X.env=(false,eval e X.env)::starEach es X.env:=by rfl) (hpl:(backTo pos (starEach es X.env)).any (·.1)=false:=by rfl):PE X (.Call (.Name x p) (e::es) [] pos) (tCB r t):=by
 intro pins s σ H Q I h
 refine wpAny_Call_Name_kw (mK I hg hm hv ?_ hn hdb)
 exact PyProof.Rows.callWith_type1 (thn (ha pos pins s σ H _ I h) fun us s1 ⟨vs,H1,I1,r1,q1⟩=>hc pins s1 σ H1 vs us Q I1 r1 q1) he hpl
end
end L2
namespace HT
open PySem PyProof.Rows
section
open PySem.SeqAt
open PySem.AutoSeq1 (wpAny_loadPart')
open PySem.MeetsSeq PySem.MeetsSeq2 PySem.MeetsSeq3
end
section
variable {prog:Program} {w:World} {A:Around} {E:Value->Shared->Prop} {s:Shared}
theorem cat_tup {t b:Addr} {vs ws:List Value} {Q:Value->Shared->Prop} (ht:IsTup s.heap t vs.toArray) (hb:IsTup s.heap b ws.toArray) (hv:vs≠[])
  (h1:ws=[]->Q (.ref t) s) (h2:ws≠[]->Q (.ref s.heap.objs.size) {s with heap:=s.heap.push {cls:=.type "tuple",data:=.seq (vs++ws).toArray}})
  (hsz:vs.length+ws.length<=sizeLine):wpAny (model prog w) A (binaryOp .Add (.ref t) (.ref b)) Q E s:=by
 obtain ⟨⟨cls,dd,data,sl⟩,ho,hc,n,hd⟩:=id ht
 obtain ⟨⟨cls2,dd2,data2,sl2⟩,ho2,hc2,n2,hd2⟩:=id hb
 simp only at hc hd hc2 hd2
 subst hc hd hc2 hd2
 have e:vs.toArray++ws.toArray=(vs++ws).toArray:=by simp
 by_cases hw:ws=[]
 ·exact concat_meets ⟨_,ho,rfl⟩ ⟨_,ho2,rfl⟩ noFill_tuple_add seq_tuple_add PySem.F.slot_tuple_add PySem.F.entry_tuple_add (PySem.F.args_tuple_add_2 _ _)
   (tuple_addW1 t b vs.toArray ws.toArray n n2 dd dd2 sl sl2 (by simpa using hv) (by simp [hw])) ⟨ho,ho2,h1 hw⟩
 ·refine concat_meets ⟨_,ho,rfl⟩ ⟨_,ho2,rfl⟩ noFill_tuple_add seq_tuple_add PySem.F.slot_tuple_add PySem.F.entry_tuple_add (PySem.F.args_tuple_add_2 _ _)
   (tuple_addW2 t b vs.toArray ws.toArray n n2 dd dd2 sl sl2 (by simpa using hv) (by simpa using hw) (by rw [List.size_toArray,List.size_toArray];exact hsz)) ⟨ho,ho2,?_⟩
  rw [e]
  exact h2 hw
noncomputable def sIx (n d:Nat):Option Int->Nat
 |none=>d
 |some v=>if v<0 then (v+(n:Int)).toNat else min v.toNat n
theorem sIx_le (n d:Nat) (hd:d<=n) (o:Option Int):sIx n d o<=n:=by
 cases o with
 |none=>exact hd
 |some v=>
  show (if v<0 then (v+(n:Int)).toNat else min v.toNat n)<=n
  by_cases hv:v<0
  ·rw [if_pos hv];omega
  ·rw [if_neg hv];exact Nat.min_le_right _ _
theorem Az (v:Int) (n d:Nat):(if v<0 then max (v+(n:Int)) 0 else min v (n:Int))=((sIx n d (some v):Nat):Int):=by
 show (if v<0 then max (v+(n:Int)) 0 else min v (n:Int))=(((if v<0 then (v+(n:Int)).toNat else min v.toNat n):Nat):Int)
 by_cases hv:v<0
 ·simp only [if_pos hv];omega
 ·simp only [if_neg hv];omega
theorem yu (lo hi:Option Int) (n:Nat):Builtin.Slice.sliceAdjust lo hi 1 (n:Int)=(((sIx n 0 lo:Nat):Int),((sIx n n hi:Nat):Int)):=by
 have h1:¬((1:Int)<0):=by omega
 unfold Builtin.Slice.sliceAdjust
 simp only [h1,if_false]
 refine Prod.ext ?_ ?_
 ·cases lo with
  |none=>rfl
  |some v=>exact Az v n 0
 ·cases hi with
  |none=>rfl
  |some v=>exact Az v n n
theorem xX (i j:Nat):Builtin.Slice.slicePlaces (i:Int) (j:Int) 1=j-i:=by
 unfold Builtin.Slice.slicePlaces
 have h1:(1:Int)>0:=by omega
 simp only [h1,if_true,Int.ediv_one]
 split<;>omega
theorem rl {v:Value} {o:Option Int} {Q:Option Int->Shared->Prop} (p:IsPart v o) (h:Q o s):wpAny (model prog w) A (Builtin.Slice.slicePartIndex v) Q E s:=by
 cases p with
 |none=>exact slicePart_none h
 |int i t=>exact slicePart_int h
theorem pb {sl:Addr} {vl vu:Value} {lo hi:Option Int} {n:Nat} {Q:Int×Int×Nat->Shared->Prop} (hs:s.heap.IsSliceOf sl vl vu .none) (pl:IsPart vl lo) (pu:IsPart vu hi)
  (h:Q (((sIx n 0 lo:Nat):Int),1,sIx n n hi-sIx n 0 lo) s):wpAny (model prog w) A (Builtin.Slice.sliceApplied (.ref sl) (pure (n:Int))) Q E s:=by
 obtain ⟨os,hos,hcs,hds⟩:=id hs
 unfold Builtin.Slice.sliceApplied Builtin.Slice.sliceFields
 refine wpAny_bind (wpAny_bind (wpAny_field hos hds (x:=vl) rfl (wpAny_bind (wpAny_field hos hds (x:=vu) rfl (wpAny_bind (wpAny_field hos hds (x:=.none) rfl (wpAny_pure ?_)))))))
 refine wpAny_bind (slicePart_none ?_)
 show wpAny _ _ (if ((1:Int)==0)=true then _ else _) _ _ s
 rw [if_neg (by decide)]
 refine wpAny_bind (rl pl (wpAny_bind (rl pu (wpAny_bind (wpAny_pure ?_)))))
 show wpAny _ _ (match Builtin.Slice.sliceAdjust lo hi 1 (n:Int) with|(lo,hi)=>pure (lo,(1:Int),Builtin.Slice.slicePlaces lo hi 1)) _ _ s
 rw [yu lo hi n]
 show wpAny _ _ (pure (((sIx n 0 lo:Nat):Int),(1:Int),Builtin.Slice.slicePlaces ((sIx n 0 lo:Nat):Int) ((sIx n n hi:Nat):Int) 1)) _ _ s
 rw [xX]
 exact wpAny_pure h
theorem pick_gen (xs:Array Value) (i k:Nat):((List.range k).filterMap fun (m:Nat)=>xs[((i:Int)+(m:Int)*1).toNat]?).toArray=((xs.toList.drop i).take k).toArray:=by
 have e:(fun (m:Nat)=>xs[((i:Int)+(m:Int)*1).toNat]?)=fun m=>xs[i+m]?:=by
  funext m
  have:((i:Int)+(m:Int)*1).toNat=i+m:=by omega
  rw [this]
 rw [e]
 have:=pick_run xs i k
 rw [List.filterMap_map] at this
 have e2:((fun x=>xs[x]?)∘fun x=>i+x)=fun m=>xs[i+m]?:=rfl
 rw [e2] at this
 rw [this]
theorem oM {t sl:Addr} {items:Array Value} {vl vu:Value} {lo hi:Option Int} {Q:Value->Shared->Prop} (ht:IsTup s.heap t items) (hs:s.heap.IsSliceOf sl vl vu .none) (pl:IsPart vl lo) (pu:IsPart vu hi)
  (hw:¬(sIx items.size 0 lo=0/\sIx items.size items.size hi=items.size))
  (h:Q (.ref s.heap.objs.size) {s with heap:=s.heap.push {cls:=.type "tuple",data:=.seq ((items.toList.drop (sIx items.size 0 lo)).take (sIx items.size items.size hi-sIx items.size 0 lo)).toArray}})
  (hsz:items.size<=sizeLine):wpAny (model prog w) A (getItem (.ref t) (.ref sl)) Q E s:=by
 have htake:sizeOk (.seq ((items.toList.drop (sIx items.size 0 lo)).take (sIx items.size items.size hi-sIx items.size 0 lo)).toArray):=by
  show ((items.toList.drop (sIx items.size 0 lo)).take (sIx items.size items.size hi-sIx items.size 0 lo)).toArray.size<=sizeLine
  rw [List.size_toArray,List.length_take,List.length_drop,Array.length_toList]
  omega
 have hj:sIx items.size items.size hi<=items.size:=sIx_le _ _ (Nat.le_refl _) hi
 obtain ⟨os,hos,hcs,hds⟩:=id hs
 have hTs:s.TypeIs (.ref sl) "slice":=⟨os,hos,hcs⟩
 unfold getItem
 try with_reducible refine wpAny_holding ?_
 first|refine wpAny_bind (wpAny_pure ?_)|skip
 refine wpAny_bind (wpAny_sequenceKey ht.typeIs (by decide) ?_)
 refine wpAny_bind (wpAny_callSpecial?_slot (name:=Str.ofString "__getitem__") ht.typeIs PyProof.Rows.slot_tuple_getitem
  (wpAny_call_entry PyProof.Rows.slot_tuple_getitem ht.typeIs entry_tuple_getitem ?_ (args_tuple_getitem _ _)))
 show wpAny _ _ (Builtin.Tuple.tupleItemsOf (.ref t) >>= _) _ _ s
 refine wpAny_bind (tupleItemsOf_ ht ?_)
 refine wpAny_bind (wpAny_typeOf hTs ?_)
 rw [if_pos (by decide)]
 refine wpAny_bind (pb hs pl pu ?_)
 have hno:¬((((sIx items.size 0 lo:Nat):Int)==0&&(1:Int)==1&&(sIx items.size items.size hi-sIx items.size 0 lo)==items.size)=true):=by
  intro q
  rw [Bool.and_eq_true,Bool.and_eq_true] at q
  have q1:((sIx items.size 0 lo:Nat):Int)=0:=eq_of_beq q.1.1
  have q2:sIx items.size items.size hi-sIx items.size 0 lo=items.size:=eq_of_beq q.2
  exact hw ⟨by omega,by omega⟩
 show wpAny _ _ (if (((sIx items.size 0 lo:Nat):Int)==0&&(1:Int)==1&&(sIx items.size items.size hi-sIx items.size 0 lo)==items.size)=true then _ else _) _ _ s
 rw [if_neg hno,pick_gen]
 first
  |exact wpAny_bind (m:=Builtin.Tuple.tupleExact _) (wpAny_newObj_type (wpAny_pure ⟨_,rfl,wpAny_pure h⟩) htake)
  |exact wpAny_bind (m:=Builtin.Tuple.tupleExact _) (wpAny_newObj_type (wpAny_bind (wpAny_pure (wpAny_pure ⟨_,rfl,wpAny_pure h⟩))) htake)
  |exact wpAny_bind (wpAny_bind (m:=Builtin.Tuple.tupleExact _) (wpAny_newObj_type (wpAny_pure (wpAny_pure ⟨_,rfl,wpAny_pure h⟩)) htake))
  |exact wpAny_bind (wpAny_bind (m:=Builtin.Tuple.tupleExact _) (wpAny_newObj_type (wpAny_pure ⟨_,rfl,wpAny_pure h⟩) htake))
end
end HT
namespace L2
open PySem PySem.Spec PyProof.Rows
noncomputable abbrev TO:=St->Hp->(Option Int->Hp->Prop)->Prop
noncomputable def PO (X:Cx) (e:Option Expr) (t:TO):Prop:=
 ∀(pins:List (Addr×Obj)) (s:Shared) (σ:St) (H:Hp) (Q:Option Int->Hp->Prop),Inv X pins σ H s->t σ H Q ->
  wpAny (model X.prog X.w) X.A (evalPart e X.env) (fun u s'=>∃o H',Inv X pins σ H' s'/\IsPart u o/\Q o H') X.xe s
noncomputable def tNoPart:TO:=fun _ H Q=>Q none H
noncomputable def tPart (t:TE):TO:=fun σ H Q=>t σ H fun x H1=>∃i,x=.int i/\Q (some i) H1
theorem intsAre_of {ns:List Int}:∀{us:List Value},Vals (ns.map V.int) us->IntsAre us ns:=by
 induction ns with
 |nil=>intro us r;rw [List.map_nil] at r;cases r;exact .nil
 |cons n ns ih=>
  intro us r
  rw [List.map_cons] at r
  cases r with
  |cons r1 r2=>
   obtain ⟨t,e⟩:=r1
   subst e
   exact .cons n t (ih r2)
section
variable {X:Cx} {e:Expr} {te:TE} {lo hi:Option Expr} {tl th:TO} {pos p2:Pos}
theorem po_none:PO X none tNoPart:=by
 intro pins s σ H Q I h
 rw [evalPart_none]
 exact wpAny_pure ⟨none,H,I,.none,h⟩
theorem po_some (h:PE X e te):PO X (some e) (tPart te):=by
 intro pins s σ H Q I hw
 rw [evalPart_some]
 refine thn (h pins s σ H _ I hw) fun u s1 ⟨x,H1,I1,r1,q1⟩=>?_
 obtain ⟨i,rfl,q⟩:=q1
 obtain ⟨t,rfl⟩:=r1
 exact ⟨some i,H1,I1,.int i t,q⟩
noncomputable def SlR (X:Cx) (r:V->Option Int->Option Int->Hp->VK->Prop):Prop:=
 ∀(pins:List (Addr×Obj)) (s:Shared) (σ:St) (H:Hp) (x:V) (v vl vu:Value) (lo hi:Option Int) (sl:Addr) (Q:VK),Inv X pins σ H s->RelV x v->s.heap.IsSliceOf sl vl vu .none->IsPart vl lo->IsPart vu hi->r x lo hi H Q ->
  ∃T id,typeLookup (.type T) "__getitem__"=pure (some (.builtin id))/\s.TypeIs v T/\wpAny (model X.prog X.w) X.A (getItem v (.ref sl)) (EP X pins σ Q) X.xe s
theorem SlR.or {r r':V->Option Int->Option Int->Hp->VK->Prop} (h:SlR X r) (h':SlR X r'):SlR X (fun x lo hi H Q=>r x lo hi H Q\/r' x lo hi H Q):=by
 intro pins s σ H x v vl vu lo hi sl Q I rx hs pl pu q
 rcases q with q|q
 ·exact h pins s σ H x v vl vu lo hi sl Q I rx hs pl pu q
 ·exact h' pins s σ H x v vl vu lo hi sl Q I rx hs pl pu q
noncomputable def tSl (r:V->Option Int->Option Int->Hp->VK->Prop) (te:TE) (tl th:TO):TE:=fun σ H Q=>te σ H fun x H1=>tl σ H1 fun l H2=>th σ H2 fun u H3=>r x l u H3 Q
theorem pe_slice {r:V->Option Int->Option Int->Hp->VK->Prop} (hr:SlR X r) (he:PE X e te) (hl:PO X lo tl) (hu:PO X hi th):PE X (.Subscript e (.Slice lo hi none p2) pos) (tSl r te tl th):=by
 intro pins s σ H Q I h
 refine Subscript_ (thn (he pins s σ H _ I h) fun v s1 ⟨x,H1,I1,r1,q1⟩=>?_)
 refine wpAny_Slice (thn (hl pins s1 σ H1 _ I1 q1) fun vl s2 ⟨l,H2,I2,pl,q2⟩=>thn (hu pins s2 σ H2 _ I2 q2) fun vu s3 ⟨u,H3,I3,pu,q3⟩=>?_)
 rw [evalPart_none]
 refine wpAny_pure ?_
 have I4:Inv X pins σ H3 {s3 with heap:=s3.heap.push {cls:=.type "slice",data:=.fields #[vl,vu,.none]}}:=I3.kept (t':=s3.toks) fun b ob q=>Heap.get?_push_of_some _ q
 obtain ⟨T,id,hT,ht,hg⟩:=hr pins {s3 with heap:=s3.heap.push {cls:=.type "slice",data:=.fields #[vl,vu,.none]}} σ H3 x v vl vu l u s3.heap.objs.size Q I4 r1 (Heap.IsSliceOf.new ..) pl pu q3
 show wpAny (model X.prog X.w) X.A (subscriptTail e (.Slice lo hi none p2) v (.ref s3.heap.objs.size)) (EP X pins σ Q) X.xe {s3 with heap:=s3.heap.push {cls:=.type "slice",data:=.fields #[vl,vu,.none]}}
 exact tail_any (ops:=[.ref s3.heap.objs.size,v]) ht hT hg (by with_unfolding_all rfl)
noncomputable def cutV (xs:List V) (lo hi:Option Int):List V:=(xs.drop (HT.sIx xs.length 0 lo)).take (HT.sIx xs.length xs.length hi-HT.sIx xs.length 0 lo)
theorem qg (xs:List V) (lo hi:Option Int):(cutV xs lo hi).length<=xs.length:=by
 unfold cutV
 rw [List.length_take,List.length_drop]
 omega
noncomputable def rSlT (K:PySem.W.Frag):V->Option Int->Option Int->Hp->VK->Prop:=fun x lo hi H Q=>∃a xs,x=.ref a/\SqT K H a xs /\
 ¬(HT.sIx xs.length 0 lo=0/\HT.sIx xs.length xs.length hi=xs.length)/\∀p,H p=none->Q (.ref p) (upd H p (.tup (cutV xs lo hi)))
theorem sl_tup:SlR X (rSlT X.K):=by
 intro pins s σ H x v vl vu lo hi sl Q I rx hs pl pu h
 obtain ⟨a,xs,rfl,hx,hw,q⟩:=h
 cases rx
 obtain ⟨its,r,ht,hz⟩:=I.tuple hx
 have hlen:its.toArray.size=xs.length:=by rw [List.size_toArray];exact r.length.symm
 refine ⟨"tuple",_,PyProof.Rows.slot_tuple_getitem.lookup,ht.typeIs,?_⟩
 refine HT.oM ht hs pl pu (by rw [hlen];exact hw) ?_ (by rw [hlen];exact hz)
 rw [hlen]
 refine ⟨.ref s.heap.objs.size,_,I.laid (t':=s.toks) (o:=.tup (cutV xs lo hi)) (fun b ob q=>Heap.get?_push_of_some _ q) (Nat.le_refl _) ?_,rfl,q _ (I.hok.fresh (Nat.le_refl _))⟩
 exact ⟨Nat.le_trans (qg xs lo hi) hz,_,(r.drop (HT.sIx xs.length 0 lo)).take (HT.sIx xs.length xs.length hi-HT.sIx xs.length 0 lo),IsTup.new _ _⟩
noncomputable def rCatT (K:PySem.W.Frag):R2:=fun x y H Q=>∃a b xs ys,x=.ref a/\y=.ref b/\SqT K H a xs/\SqT K H b ys/\xs≠[]/\xs.length+ys.length<=sizeLine /\
 (ys=[]->Q (.ref a) H)/\(ys≠[]->∀p,H p=none->Q (.ref p) (upd H p (.tup (xs++ys))))
theorem Vals.vW {xs:List V} {us:List Value} (r:Vals xs us):us=[]↔xs=[]:=by
 cases r with
 |nil=>simp
 |cons _ _=>simp
theorem op_catT:OpR X (binaryOp .Add) (rCatT X.K):=by
 intro pins s σ H x y v u Q I rx ry h
 obtain ⟨a,b,xs,ys,rfl,rfl,ha,hb,hx,hz,q1,q2⟩:=h
 cases rx
 cases ry
 obtain ⟨its,r1,p1,_⟩:=I.tuple ha
 obtain ⟨its2,r2,p2,_⟩:=I.tuple hb
 refine HT.cat_tup p1 p2 (fun z=>hx (r1.vW.mp z)) (fun z=>⟨.ref a,H,I,rfl,q1 (r2.vW.mp z)⟩) (fun z=>?_) (by rw [<- r1.length,<- r2.length];exact hz)
 refine ⟨.ref s.heap.objs.size,_,I.laid (t':=s.toks) (o:=.tup (xs++ys)) (fun b ob q=>Heap.get?_push_of_some _ q) (Nat.le_refl _) ?_,rfl,q2 (fun w=>z (r2.vW.mpr w)) _ (I.hok.fresh (Nat.le_refl _))⟩
 exact ⟨by rw [List.length_append];exact hz,_,r1.append r2,IsTup.new _ _⟩
end
end L2
namespace L2
open PySem PySem.Spec PyProof.Rows
noncomputable def ixN (n:Nat) (i:Int):Option Nat:=if 0<=i then (if i<n then some i.toNat else none) else if -(n:Int)<=i then some (i+n).toNat else none
noncomputable def atI {α:Type} (xs:List α) (i:Int):Option α:=(ixN xs.length i).bind fun j=>xs[j]?
theorem vZ {n:Nat} {i:Int} {j:Nat} (h:ixN n i=some j):seqIndex? i n=some j/\j<n/\ -(n:Int)<=i/\i<n:=by
 unfold ixN at h
 by_cases h0:0<=i
 ·rw [if_pos h0] at h
  by_cases h1:i<n
  ·rw [if_pos h1] at h
   have e:i.toNat=j:=Option.some.inj h
   exact ⟨by rw [seqIndex_of h0 h1,e],by omega,by omega,h1⟩
  ·rw [if_neg h1] at h;cases h
 ·rw [if_neg h0] at h
  by_cases h1: -(n:Int)<=i
  ·rw [if_pos h1] at h
   have e:(i+n).toNat=j:=Option.some.inj h
   exact ⟨by rw [seqIndex_neg (by omega) h1,e],by omega,h1,by omega⟩
  ·rw [if_neg h1] at h;cases h
theorem wL {α:Type} {xs:List α} {i:Int} {v:α} (h:atI xs i=some v):∃j,seqIndex? i xs.length=some j/\xs[j]? =some v/\j<xs.length/\ -(xs.length:Int)<=i/\i<xs.length:=by
 unfold atI at h
 cases e:ixN xs.length i with
 |none=>rw [e] at h;cases h
 |some j=>
  rw [e] at h
  obtain ⟨h1,h2,h3,h4⟩:=vZ e
  exact ⟨j,h1,h,h2,h3,h4⟩
noncomputable def AX (b:Expr):Prop:=∀o i,subscripted b false o i=operate [o,i] (getItem o i)
noncomputable def IxR (X:Cx) (r:R2):Prop:=
 ∀(value slice:Expr) (pins:List (Addr×Obj)) (s:Shared) (σ:St) (H:Hp) (x y:V) (v u:Value) (Q:VK),Inv X pins σ H s->RelV x v->RelV y u->r x y H Q ->
  subscripted slice false v u=operate [v,u] (getItem v u)->wpAny (model X.prog X.w) X.A (subscriptTail value slice v u) (EP X pins σ Q) X.xe s
noncomputable def MtR (X:Cx) (id:String) (r:V->List V->Hp->VK->Prop):Prop:=
 ∀(pins:List (Addr×Obj)) (s:Shared) (σ:St) (H:Hp) (x:V) (xs:List V) (v:Value) (us:List Value) (Q:VK),Inv X pins σ H s->RelV x v->Vals xs us->r x xs H Q ->
  wpAny (model X.prog X.w) X.A (call (.builtin id) (v::us)) (EP X pins σ Q) X.xe s
section
variable {X:Cx} {a b:Expr} {ta tb:TE} {pos:Pos}
theorem IxR.or {r r':R2} (h:IxR X r) (h':IxR X r'):IxR X (fun x y H Q=>r x y H Q\/r' x y H Q):=by
 intro value slice pins s σ H x y v u Q I rx ry q hs
 rcases q with q|q
 ·exact h value slice pins s σ H x y v u Q I rx ry q hs
 ·exact h' value slice pins s σ H x y v u Q I rx ry q hs
theorem pe_ix {r:R2} (hr:IxR X r) (ha:PE X a ta) (hb:PE X b tb) (hs:AX b):PE X (.Subscript a b pos) (tOp r ta tb):=by
 intro pins s σ H Q I h
 exact Subscript_ (binT ha hb I h fun v u s2 x y H2 I2 rx ry q=>hr a b pins s2 σ H2 x y v u Q I2 rx ry q (hs _ _))
noncomputable def rIxL (K:PySem.W.Frag):R2:=fun x y H Q=>∃p xs i v,x=.ref p/\y=.int i/\SqL K H p xs/\atI xs i=some v/\Q v H
noncomputable def rIxT (K:PySem.W.Frag):R2:=fun x y H Q=>∃p xs i v,x=.ref p/\y=.int i/\SqT K H p xs/\atI xs i=some v/\Q v H
noncomputable def rIxS:R2:=fun x y H Q=>∃z i c,x=.str z/\y=.int i/\z.length<=sizeLine/\atI z.cps.toList i=some c/\Q (.str ⟨#[c]⟩) H
theorem ix_list:IxR X (rIxL X.K):=by
 intro value slice pins s σ H x y v u Q I rx ry h hs
 obtain ⟨p,xs,i,z,rfl,rfl,hq,he,q⟩:=h
 cases rx
 obtain ⟨t,rfl⟩:=ry
 obtain ⟨its,r,pl,hz⟩:=I.list hq
 obtain ⟨j,h1,h2,h3,h4,h5⟩:=wL he
 obtain ⟨w,ew,rw'⟩:=r.get h2
 have hl:=r.length
 have hn:=rA
 have fin:EP X pins σ Q w s:=⟨z,H,I,rw',q⟩
 by_cases h0:0<=i
 ·have hj:i.toNat=j:=by
   rw [seqIndex_of h0 h5] at h1
   exact Option.some.inj h1
  exact item_listR pl.isList h0 (by omega) (by rw [hj];simpa using ew) fin hs
 ·have hj:(i+(its.toArray.size:Int)).toNat=j:=by
   rw [seqIndex_neg (by omega) h4] at h1
   rw [List.size_toArray,<- hl]
   exact Option.some.inj h1
  exact subscriptTail_builtinR (x:=w) pl.isList.typeIs slot_list_getitem.lookup
   (wpAny_getItem_list_neg (Q:=fun r s'=>r=w/\EP X pins σ Q r s') pl.isList (by omega) (by rw [List.size_toArray]<;>omega) (by omega) (by rw [hj];simpa using ew) ⟨rfl,fin⟩) hs
theorem ix_tup:IxR X (rIxT X.K):=by
 intro value slice pins s σ H x y v u Q I rx ry h hs
 obtain ⟨p,xs,i,z,rfl,rfl,hq,he,q⟩:=h
 cases rx
 obtain ⟨t,rfl⟩:=ry
 obtain ⟨its,r,pl,hz⟩:=I.tuple hq
 obtain ⟨j,h1,h2,h3,h4,h5⟩:=wL he
 obtain ⟨w,ew,rw'⟩:=r.get h2
 have hl:=r.length
 have hn:=rA
 have fin:EP X pins σ Q w s:=⟨z,H,I,rw',q⟩
 exact subscriptTail_builtinR (x:=w) pl.typeIs slot_tuple_getitem.lookup
  (getItem_tuple (j:=j) (Q:=fun r s'=>r=w/\EP X pins σ Q r s') pl (by omega) (by omega) (by rw [List.size_toArray,<- hl];exact h1) (by simpa using ew) ⟨rfl,fin⟩) hs
theorem ix_str:IxR X rIxS:=by
 intro value slice pins s σ H x y v u Q I rx ry h hs
 obtain ⟨z,i,c,rfl,rfl,hz,he,q⟩:=h
 obtain ⟨t,rfl⟩:=rx
 obtain ⟨t',rfl⟩:=ry
 obtain ⟨j,h1,h2,h3,h4,h5⟩:=wL he
 have hl:z.cps.toList.length=z.length:=by simp [Str.length]
 rw [hl] at h1 h4 h5
 have hn:=rA
 exact tail_any (typeIs_str s z t) slot_str_getitem.lookup (getItem_str (c:=c) (by
  have e1:decide (i< -(2^63:Int))=false:=decide_eq_false (by omega)
  have e2:decide (i>=2^63)=false:=decide_eq_false (by omega)
  rw [e1,e2,Bool.or_false]) (by rw [h1];simpa using h2) ⟨.str ⟨#[c]⟩,H,I.tok _,⟨_,rfl⟩,q⟩) hs
noncomputable def rIx (K:PySem.W.Frag):R2:=fun x y H Q=>rIxL K x y H Q\/rIxT K x y H Q\/rIxS x y H Q
theorem ix_seq:IxR X (rIx X.K):=ix_list.or (ix_tup.or ix_str)
theorem y0 (its:List Value) (n j:Nat) (u:Value):Obj.mapSeq (·.setIfInBounds j u) {cls:=.type "list",data:=.seq its.toArray n}={cls:=.type "list",data:=.seq (its.set j u).toArray n}:=by
 simp [Obj.mapSeq]
theorem Inv.lst {pins:List (Addr×Obj)} {σ:St} {H:Hp} {s:Shared} {p:Addr} {xs:List V} (I:Inv X pins σ H s) (h:H p=some (.lst xs)) :
  ∃(its:List Value) (n:Nat),Vals xs its/\s.heap.get? p=some {cls:=.type "list",data:=.seq its.toArray n}/\xs.length<=sizeLine:=by
 obtain ⟨z,its,n,r,e⟩:=I.hok p _ h
 exact ⟨its,n,r,e,z⟩
theorem Inv.lstUpd {pins:List (Addr×Obj)} {σ:St} {H:Hp} {s:Shared} {p:Addr} {xs ys:List V} {its its':List Value} {n n':Nat} {f:Obj->Obj} (I:Inv X pins σ H s) (h:H p=some (.lst xs))
  (ho:s.heap.get? p=some {cls:=.type "list",data:=.seq its.toArray n}) (hf:f {cls:=.type "list",data:=.seq its.toArray n}={cls:=.type "list",data:=.seq its'.toArray n'}) (r:Vals ys its') (hz:ys.length<=sizeLine) (t:Nat) :
  Inv X pins σ (upd H p (.lst ys)) {s with heap:=s.heap.update p f,toks:=t}:=by
 have e:(s.heap.update p f).get? p=some {cls:=.type "list",data:=.seq its'.toArray n'}:=by
  rw [Heap.get?_update_self f ho (by rw [hf]<;>rfl),hf]
 refine I.write (x:=p) (e:=p) (by rw [h];trivial) (.inl rfl) (fun b u hb q=>(Heap.get?_update_other _ _ (Ne.symm hb)).trans q) ⟨_,e⟩ ?_
 exact ⟨hz,its',n',r,e⟩
noncomputable def rSetL:V->V->V->Hp->(Hp->Prop)->Prop:=fun o i v H Q=>∃p xs k j,o=.ref p/\i=.int k/\H p=some (.lst xs)/\ixN xs.length k=some j/\Q (upd H p (.lst (xs.set j v)))
theorem set_list:PSet X rSetL:=by
 intro pins s σ H o i v ov iv u Q I ro ri rv h
 obtain ⟨p,xs,k,j,rfl,rfl,hp,hj,q⟩:=h
 cases ro
 obtain ⟨t,rfl⟩:=ri
 obtain ⟨its,n,r,ho,hz⟩:=I.lst hp
 obtain ⟨h1,h2,h3,h4⟩:=vZ hj
 have hl:=r.length
 have hn:=rA
 have I':Inv X pins σ (upd H p (.lst (xs.set j v))) {s with heap:=s.heap.update p (Obj.mapSeq (·.setIfInBounds j u))}:=
  I.lstUpd hp ho (y0 its n j u) (r.set rv j) (by rw [List.length_set];exact hz) s.toks
 by_cases h0:0<=k
 ·have hk:k.toNat=j:=by
   rw [seqIndex_of h0 h4] at h1
   exact Option.some.inj h1
  exact PySem.W.ki_setAt ho h0 (by omega) (by rw [List.size_toArray,<- hl];exact h4) (by rw [hk];exact ⟨_,I',q⟩)
 ·have hk:(k+(its.toArray.size:Int)).toNat=j:=by
   rw [seqIndex_neg (by omega) h3] at h1
   rw [List.size_toArray,<- hl]
   exact Option.some.inj h1
  exact PySem.W.ki_setBack ho (by omega) (by rw [List.size_toArray,<- hl];exact h3) (by omega) (by rw [hk];exact ⟨_,I',q⟩)
theorem uc (lo hi:Option Int) (n:Nat):(sliceBounds lo hi none n).1=((HT.sIx n 0 lo:Nat):Int)/\(sliceBounds lo hi none n).2.1=((HT.sIx n n hi:Nat):Int)/\(sliceBounds lo hi none n).2.2=1:=by
 refine ⟨?_,?_,rfl⟩
 ·cases lo with
  |none=>simp [sliceBounds,HT.sIx]
  |some i=>
   simp only [sliceBounds,HT.sIx,Option.getD_none,show (1:Int)>0 by decide,if_true]
   by_cases h:i<0
   ·simp only [h,if_true]<;>omega
   ·simp only [h,if_false]<;>omega
 ·cases hi with
  |none=>simp [sliceBounds,HT.sIx]
  |some i=>
   simp only [sliceBounds,HT.sIx,Option.getD_none,show (1:Int)>0 by decide,if_true]
   by_cases h:i<0
   ·simp only [h,if_true]<;>omega
   ·simp only [h,if_false]<;>omega
theorem sk (its:List Value) (lo hi:Option Int):slicePick its.toArray lo hi none=((its.drop (HT.sIx its.length 0 lo)).take (HT.sIx its.length its.length hi-HT.sIx its.length 0 lo)).toArray:=by
 obtain ⟨h1,h2,h3⟩:=uc lo hi its.toArray.size
 unfold slicePick
 rw [h1,h2,h3]
 simp only [sliceRange_one,pick_run,List.size_toArray]<;>rfl
noncomputable def rSlL (K:PySem.W.Frag):V->Option Int->Option Int->Hp->VK->Prop:=fun x lo hi H Q=>∃a xs,x=.ref a/\SqL K H a xs/\∀p,H p=none->Q (.ref p) (upd H p (.lst (cutV xs lo hi)))
theorem sl_list:SlR X (rSlL X.K):=by
 intro pins s σ H x v vl vu lo hi sl Q I rx hs pl pu h
 obtain ⟨a,xs,rfl,hx,q⟩:=h
 cases rx
 obtain ⟨its,r,ht,hz⟩:=I.list hx
 have hlen:=r.length
 refine ⟨"list",_,slot_list_getitem.lookup,ht.isList.typeIs,?_⟩
 refine wpAny_getItem_list_slice ht.isList hs pl pu .none (by simp) ?_ (by rw [List.size_toArray]<;>omega)
 rw [sk,<- hlen]
 refine ⟨.ref s.heap.objs.size,_,I.laid (t':=s.toks) (o:=.lst (cutV xs lo hi)) (fun b ob q=>Heap.get?_push_of_some _ q) (Nat.le_refl _) ?_,rfl,q _ (I.hok.fresh (Nat.le_refl _))⟩
 exact ⟨Nat.le_trans (qg xs lo hi) hz,_,0,(r.drop (HT.sIx xs.length 0 lo)).take (HT.sIx xs.length xs.length hi-HT.sIx xs.length 0 lo),Heap.get?_push_size _ rfl⟩
noncomputable def flatV:V->Bool
 |.non=>true
 |.bl _=>true
 |.int _=>true
 |.str _=>true
 |_=>false
noncomputable def eqV:V->V->Bool
 |.non,.non=>true
 |.bl a,.bl b=>a==b
 |.bl a,.int b=>(if a then 1 else 0)==b
 |.int a,.bl b=>a==(if b then 1 else 0)
 |.int a,.int b=>a==b
 |.str a,.str b=>a==b
 |_,_=>false
theorem mr:dS X (.builtin "len") (fun xs H Q=>∃p ys,xs=[.ref p]/\(SqL X.K H p ys\/SqT X.K H p ys)/\Q (.int ys.length) H):=by
 intro pins s σ H xs us Q I r h
 obtain ⟨p,ys,rfl,hq,q⟩:=h
 obtain ⟨u,rfl,rx⟩:=vals1 r
 cases rx
 have hn:=rA
 rcases hq with hq|hq
 ·obtain ⟨its,r',pl,hz⟩:=I.list hq
  have hlen:=r'.length
  exact Calls.call_len_list pl.isList (by simp only [List.size_toArray]<;>omega) ⟨.int ys.length,H,I.tok _,⟨s.toks+1,by rw [List.size_toArray,hlen]⟩,q⟩
 ·obtain ⟨its,r',pl,hz⟩:=I.tuple hq
  have hlen:=r'.length
  exact len_tuple pl (by simp only [List.size_toArray]<;>omega) ⟨.int ys.length,H,I.tok _,⟨s.toks+1,by rw [List.size_toArray,hlen]⟩,q⟩
theorem dS.or {f:Value} {r r':List V->Hp->VK->Prop} (h:dS X f r) (h':dS X f r'):dS X f (fun xs H Q=>r xs H Q\/r' xs H Q):=by
 intro pins s σ H xs us Q I rs q
 rcases q with q|q
 ·exact h pins s σ H xs us Q I rs q
 ·exact h' pins s σ H xs us Q I rs q
theorem uZ:dS X (.type "list") (fun xs H Q=>∃p ys,xs=[.ref p]/\(SqL X.K H p ys\/SqT X.K H p ys)/\∀l,H l=none->Q (.ref l) (upd H l (.lst ys))):=by
 intro pins s σ H xs us Q I r h
 obtain ⟨p,ys,rfl,hq,q⟩:=h
 obtain ⟨u,rfl,rx⟩:=vals1 r
 cases rx
 have fin:∀(its:List Value),Vals ys its->ys.length<=sizeLine->∀(h':Heap) (c':Nat),(∀b o',s.heap.get? b=some o'->h'.get? b=some o') ->
   h'.get? s.heap.objs.size=some {cls:=.type "list",dict:=none,data:=.seq its.toArray c',slots:=#[]}->EP X pins σ Q (.ref s.heap.objs.size) {s with heap:=h'}:=fun its r' hz h' c' kp e=>
  ⟨.ref s.heap.objs.size,_,I.laid (t':=s.toks) kp (Nat.le_refl _) (show dR X.prog X.w _ h' _ (.lst ys) from ⟨hz,its,c',r',e⟩),rfl,q _ (I.hok.fresh (Nat.le_refl _))⟩
 rcases hq with hq|hq
 ·obtain ⟨its,r',pl,hz⟩:=I.list hq
  have hlen:=r'.length
  obtain ⟨o,ho,hc,n,hd⟩:=pl.isList
  exact call_list_seq p (.inl rfl) ho hc hd (fun h' c' kp e=>fin its r' hz h' c' kp e) (by simp only [List.size_toArray]<;>omega)
 ·obtain ⟨its,r',pl,hz⟩:=I.tuple hq
  have hlen:=r'.length
  obtain ⟨o,ho,hc,n,hd⟩:=pl
  exact call_list_seq p (.inr rfl) ho hc hd (fun h' c' kp e=>fin its r' hz h' c' kp e) (by simp only [List.size_toArray]<;>omega)
noncomputable def tyV (K:PySem.W.Frag) (T:String) (x:V) (H:Hp):Prop:=match x with
 |.str _=>T="str"
 |.int _=>T="int"
 |.ref p=>(T="list"/\∃xs,SqL K H p xs)\/(T="tuple"/\∃o,K.lookup p=some o/\o.cls=.type "tuple"/\o.dict=none) \/
   (T="dict"/\((∃kvs,H p=some (.dK kvs))\/∃kvs,H p=some (.dT kvs)))\/(T="set"/\∃S n,H p=some (.set S n))
 |_=>False
theorem tyV_is {pins:List (Addr×Obj)} {σ:St} {H:Hp} {s:Shared} {T:String} {x:V} {v:Value} (I:Inv X pins σ H s) (r:RelV x v) (ty:tyV X.K T x H) :
  s.TypeIs v T/\∀a,v=.ref a->∃ob,s.heap.get? a=some ob/\ob.dict=none:=by
 cases x with
 |str z=>
  obtain ⟨t,rfl⟩:=r
  cases (show T="str" from ty)
  exact ⟨typeIs_str s z t,fun _ e=>nomatch e⟩
 |int i=>
  obtain ⟨t,rfl⟩:=r
  cases (show T="int" from ty)
  exact ⟨typeIs_int s i t,fun _ e=>nomatch e⟩
 |ref p=>
  cases r
  rcases ty with ⟨rfl,xs,hq⟩|⟨rfl,o,hk,hc,hd⟩|⟨rfl,hk⟩|⟨rfl,S,n,hk⟩
  ·obtain ⟨its,_,pl,_⟩:=I.list hq
   refine ⟨pl.isList.typeIs,fun a e=>?_⟩
   cases e
   obtain ⟨o,n,e,c,hd,_⟩:=pl
   exact ⟨o,e,hd⟩
  ·refine ⟨⟨o,I.kIn p o hk,hc⟩,fun a e=>?_⟩
   cases e
   exact ⟨o,I.kIn _ o hk,hd⟩
  ·have z:∃o,s.heap.get? p=some o/\o.ExactDict:=by
    rcases hk with ⟨kvs,hk⟩|⟨kvs,hk⟩
    ·obtain ⟨_,_,_,_,o,_,_,e,ex,_⟩:=I.hok p _ hk
     exact ⟨o,e,ex⟩
    ·obtain ⟨_,_,_,_,o,_,_,e,ex,_⟩:=I.hok p _ hk
     exact ⟨o,e,ex⟩
   obtain ⟨o,e,ex⟩:=z
   refine ⟨⟨o,e,ex.1⟩,fun a e2=>?_⟩
   cases e2
   exact ⟨o,e,ex.2.1⟩
  ·obtain ⟨o,_,_,_,e,ex,_⟩:=I.hok p _ hk
   refine ⟨⟨o,e,ex.1⟩,fun a e2=>?_⟩
   cases e2
   exact ⟨o,e,ex.2.1⟩
 |_=>exact False.elim ty
noncomputable def tBM (K:PySem.W.Frag) (T:String) (r:V->List V->Hp->VK->Prop) (to:TE) (t:TA):TE:=fun σ H Q=>to σ H fun x H1=>tyV K T x H1/\t σ H1 fun xs H2=>r x xs H2 Q
variable {o e:Expr} {es:List Expr} {to:TE} {t:TA} {name:Str} {apos cpos:Pos} {T id:String} {r:V->List V->Hp->VK->Prop}
theorem pe_bm (pa:PlainAttrs T) (slot:Slot T name id) (hty:typeOf (.builtin id)=pure (.type "method_descriptor")) (hm:MtR X id r) (ho:PE X o to) (ha:PA X (e::es) t)
  (hbase:attributeBase o name X.env (eval o X.env)=eval o X.env:=by rfl)
  (hfew:((backTo cpos (starEach (e::es) X.env)).all (fun x=> !x.1)&&(backToKw cpos (keywordEach [] X.env)).all (fun x=>x.1.isSome)
   &&decide ((e::es).length+([]:List Keyword).length+(if ([]:List Keyword).isEmpty then 0 else 1)<30))=true:=by rfl)
  (hline:(apos.endLine==cpos.line)=true:=by rfl) (hs:starEach (e::es) X.env=(false,eval e X.env)::starEach es X.env:=by rfl) (hplain:(backTo cpos (starEach es X.env)).any (·.1)=false:=by rfl) :
  PE X (.Call (.Attribute o name apos) (e::es) [] cpos) (tBM X.K T r to t):=by
 intro pins s σ H Q I h
 refine wpAny_Call_method_late hbase hfew hline rfl (thn (ho pins s σ H _ I h) fun v s1 ⟨x,H1,I1,r1,ty,q1⟩=>?_)
 obtain ⟨h1,h2⟩:=tyV_is I1 r1 ty
 refine ⟨T,id,pa,slot,hty,h1,h2,?_⟩
 have hA:=ha cpos pins s1 σ H1 _ I1 q1
 rw [hs] at hA ⊢
 refine Calls.callWith_builtin (by show (false||(backTo cpos (starEach es X.env)).any (·.1))=false;rw [hplain]<;>rfl) (Calls.evalArgs_plain ?_)
 exact thn hA fun us s2 ⟨vs,H2,I2,r2,q2⟩=>hm pins s2 σ H2 x vs v us Q I2 r1 r2 q2
/- xs.append(e),list.index on a module's tuple .. are MtR facts of 06m -/
end
end L2
namespace L2
open PySem PySem.Spec PyProof.Rows
noncomputable def MtM (X:Cx) (id:String) (r:V->List V->Hp->VK->Prop):Prop:=
 ∀(pins:List (Addr×Obj)) (s:Shared) (σ:St) (H:Hp) (x:V) (xs:List V) (v:Value) (us:List Value) (Q:VK),Inv X pins σ H s->RelV x v->Vals xs us->r x xs H Q ->
  wpAny (model X.prog X.w) X.A (call (.builtin id) (v::us)) (EP X pins σ Q) X.xe s
theorem Vals.one:∀{x:V} {us:List Value},Vals [x] us->∃u,us=[u]/\RelV x u
 |_,_,.cons r .nil=>⟨_,rfl,r⟩
theorem Vals.two:∀{x y:V} {us:List Value},Vals [x,y] us->∃u v,us=[u,v]/\RelV x u/\RelV y v
 |_,_,_,.cons r (.cons q .nil)=>⟨_,_,rfl,r,q⟩
theorem Vals.zero:∀{us:List Value},Vals [] us->us=[]
 |_,.nil=>rfl
theorem Vals.eraseIdx:∀{xs:List V} {us:List Value} (i:Nat),Vals xs us->Vals (xs.eraseIdx i) (us.eraseIdx i)
 |_,_,_,.nil=>.nil
 |_,_,0,.cons _ t=>t
 |_,_,i+1,.cons r t=>.cons r (Vals.eraseIdx i t)
theorem Vals.rep {xs:List V} {us:List Value} (h:Vals xs us):∀k:Nat,Vals (List.replicate k xs).flatten (List.replicate k us).flatten
 |0=>.nil
 |k+1=>by
  rw [List.replicate_succ,List.replicate_succ,List.flatten_cons,List.flatten_cons]
  exact Vals.append h (Vals.rep h k)
theorem uH {α:Type}:∀(l:List α) (i:Nat),(l.eraseIdx i).length<=l.length
 |[],_=>Nat.le_refl _
 |_::_,0=>Nat.le_succ _
 |_::r,i+1=>Nat.succ_le_succ (uH r i)
theorem foldl_rep (its:List Value):∀(k:Nat) (acc:List Value),
  List.foldl (fun x1 x2=>x1++x2) acc.toArray (List.replicate k its.toArray)=(acc++(List.replicate k its).flatten).toArray
 |0,acc=>by simp
 |k+1,acc=>by
  have e:acc.toArray++its.toArray=(acc++its).toArray:=by simp
  have e2:(acc++its)++(List.replicate k its).flatten=acc++(List.replicate (k+1) its).flatten:=by
   rw [List.replicate_succ,List.flatten_cons,List.append_assoc]
  rw [<- e2,<- foldl_rep its k (acc++its),<- e,List.replicate_succ,List.foldl_cons]
section
variable {X:Cx} {pins:List (Addr×Obj)} {σ:St} {H:Hp} {s:Shared} {l b:Addr} {xs ys zs:List V}
theorem Inv.lset {its its':List Value} {n:Nat} {f:Array Value->Array Value} {t':Nat} (I:Inv X pins σ H s) (hH:H l=some (.lst xs))
  (e:s.heap.get? l=some {cls:=.type "list",data:=.seq its.toArray n}) (hf:f its.toArray=its'.toArray) (hv:Vals ys its') (hz:ys.length<=sizeLine) :
  Inv X pins σ (upd H l (.lst ys)) {s with heap:=s.heap.update l (Obj.mapSeq f),toks:=t'}:=by
 have q:=PySem.IsL.update e f
 rw [hf] at q
 refine I.write (x:=l) (e:=l) (by rw [hH];exact trivial) (.inl rfl) (fun b' u hb hu=>(Heap.get?_update_other s.heap (Obj.mapSeq f) (Ne.symm hb)).trans hu) ⟨_,q⟩ ?_
 exact ⟨hz,its',_,hv,q⟩
theorem Inv.lnew {its:List Value} {t':Nat} (I:Inv X pins σ H s) (hv:Vals ys its) (hz:ys.length<=sizeLine) :
  Inv X pins σ (upd H s.heap.objs.size (.lst ys)) {s with heap:=s.heap.push {cls:=.type "list",data:=.seq its.toArray},toks:=t'}:=
 I.laid (fun _ _ q=>Heap.get?_push_of_some _ q) (Nat.le_refl _) ⟨hz,its,0,hv,Heap.get?_push_size _ rfl⟩
theorem Inv.fresh (I:Inv X pins σ H s):H s.heap.objs.size=none:=I.hok.fresh (Nat.le_refl _)
theorem Inv.lstM (I:Inv X pins σ H s) (hH:H l=some (.lst xs)):xs.length<=sizeLine/\∃(its:List Value) (n:Nat),Vals xs its/\xs.length=its.length/\s.heap.get? l=some {cls:=.type "list",data:=.seq its.toArray n}:=by
 obtain ⟨z,its,n,r,e⟩:=I.hok l _ hH
 exact ⟨z,its,n,r,r.length,e⟩
theorem notLongL {n:Nat} (h:n<=sizeLine):Builtin.List.listTooLong n=false:=by
 unfold Builtin.List.listTooLong
 exact decide_eq_false (by omega)
end
section
variable {X:Cx}
noncomputable def zb:V->List V->Hp->VK->Prop:=fun x vs H Q=>∃l xs y,x=.ref l/\vs=[y]/\H l=some (.lst xs)/\xs.length<sizeLine/\Q .non (upd H l (.lst (xs++[y])))
theorem zN:MtM X "list.append" zb:=by
 intro pins s σ H x vs v us Q I rx rv h
 obtain ⟨l,xs,y,rfl,rfl,hH,hz,q⟩:=h
 cases rx
 obtain ⟨u,rfl,ru⟩:=rv.one
 obtain ⟨z,its,n,r,hl,e⟩:=I.lstM hH
 refine call_meets F.slot_list_append ⟨_,e,rfl⟩ F.entry_list_append (F.args_list_append_2 _ _) (PySem.list_append l its.toArray n u (by rw [List.size_toArray];omega)) ⟨e,?_⟩
 refine ⟨.non,_,I.lset (its':=its++[u]) hH e (by simp) (r.append (.cons ru .nil)) ?_,rfl,q⟩
 rw [List.length_append,List.length_singleton]
 omega
noncomputable def rPopAt:V->List V->Hp->VK->Prop:=fun x vs H Q=>∃l xs i k y,x=.ref l/\vs=[.int i]/\H l=some (.lst xs)/\ -(2^63)<=i/\i<2^63/\seqIndex? i xs.length=some k/\xs[k]? =some y/\Q y (upd H l (.lst (xs.eraseIdx k)))
theorem mt_popAt:MtM X "list.pop" rPopAt:=by
 intro pins s σ H x vs v us Q I rx rv h
 obtain ⟨l,xs,i,k,y,rfl,rfl,hH,h1,h2,hk,hy,q⟩:=h
 cases rx
 obtain ⟨u,rfl,ru⟩:=rv.one
 obtain ⟨t,rfl⟩:=ru
 obtain ⟨z,its,n,r,hl,e⟩:=I.lstM hH
 obtain ⟨w,hw,rw'⟩:=r.get hy
 refine call_meets F.slot_list_pop ⟨_,e,rfl⟩ F.entry_list_pop (F.args_list_pop_2 _ _)
  (MeetsSeq.list_pop_at l its.toArray n i t k w (fitsIndex_both h1 h2) (by rw [List.size_toArray,<- hl];exact hk) (by rw [<- Array.getElem?_toList];exact hw) (by rw [List.size_toArray];omega)) ⟨e,?_⟩
 refine ⟨y,_,I.lset (its':=its.eraseIdx k) hH e ?_ (r.eraseIdx k) ?_,rw',q⟩
 ·show its.toArray.eraseIdxIfInBounds k=(its.eraseIdx k).toArray
  rw [List.eraseIdxIfInBounds_toArray]
 ·have:=uH xs k
  omega
noncomputable def rRep:R2:=fun x y H Q=>∃l k xs,x=.ref l/\y=.int k/\H l=some (.lst xs)/\ -(2^63)<=k/\k<2^63/\xs.length*k.toNat<=sizeLine /\
 ∀p,H p=none->Q (.ref p) (upd H p (.lst (List.replicate k.toNat xs).flatten))
theorem len_rep {α:Type} (xs:List α) (k:Nat):(List.replicate k xs).flatten.length=k*xs.length:=by
 induction k with
 |zero=>simp
 |succ k ih=>rw [List.replicate_succ,List.flatten_cons,List.length_append,ih,Nat.succ_mul,Nat.add_comm]
theorem op_rep:OpR X (binaryOp .Mult) rRep:=by
 intro pins s σ H x y v u Q I rx ry h
 obtain ⟨l,k,xs,rfl,rfl,hH,h1,h2,hz,q⟩:=h
 cases rx
 obtain ⟨t,rfl⟩:=ry
 obtain ⟨z,its,n,r,hl,e⟩:=I.lstM hH
 have hlen:its.toArray.size*k.toNat<=sizeLine:=by rw [List.size_toArray,<- hl];exact hz
 have hcap:¬its.toArray.size*k.toNat>(2^63-1)/8:=by
  have:(sizeLine:Nat)<=(2^63-1)/8:=by decide
  omega
 have hfit:¬(!Builtin.List.listFitsIndex k)=true:=by
  rw [fitsIndex_both h1 h2]
  exact Bool.false_ne_true
 have hlong:¬Builtin.List.listTooLong (its.toArray.size*k.toNat)=true:=by
  rw [notLongL hlen]
  exact Bool.false_ne_true
 have hnew:List.foldl (fun x1 x2=>x1++x2) #[] (List.replicate (if its.toArray.isEmpty=true then 0 else k.toNat) its.toArray)=(List.replicate k.toNat its).flatten.toArray:=by
  have f0:∀m:Nat,List.foldl (fun x1 x2=>x1++x2) #[] (List.replicate m its.toArray)=(List.replicate m its).flatten.toArray:=fun m=>by
   have:=foldl_rep its m []
   rw [List.nil_append] at this
   exact this
  rw [f0]
  cases its with
  |nil=>simp
  |cons a r'=>rw [if_neg (by simp)]
 refine wpAny_binaryOp_repeat_ref (T:="list") (U:="int") (by decide) ⟨_,e,rfl⟩ (fun s'=>typeIs_int s' k t) noFill_list_mul F.fills_int_mul F.slot_int_rmul repeat_list F.slot_int_index.lookup
  (call_meets F.slot_int_rmul (typeIs_int s k t) F.entry_int_rmul (F.args_int_rmul_2 _ _) (int___rmul___int_list k t l its.toArray n)
   ⟨e,rfl,⟨_,e,rfl⟩,call_meets F.slot_list_mul ⟨_,e,rfl⟩ F.entry_list_mul (F.args_list_mul_2 _ _) (AutoListH.list___mul___list_int_3 l its.toArray n k t hfit hcap hlong) ⟨e,?_⟩⟩)
 rw [hnew]
 exact ⟨.ref _,_,I.lnew (t':=s.toks) (r.rep k.toNat) (by rw [len_rep,Nat.mul_comm];exact hz),rfl,q _ I.fresh⟩
end
end L2
namespace Att
open PySem PySem.W PySem.Calls PyProof.Rows
theorem pV {P:Params} {h:Heap}:∀(ns:List Int) (vs:List Value),WellAll P h vs (ns.map WData.int)->IntsAre vs ns:=by
 intro ns
 induction ns with
 |nil=>
  intro vs w
  rw [List.map_nil] at w
  cases w
  exact .nil
 |cons n ns ih=>
  intro vs w
  rw [List.map_cons] at w
  cases w with
  |cons a b=>
   cases a
   exact .cons _ _ (ih _ b)
theorem yW {l:OpenLaw} {n:Nat} (hn:l.most=some n) {P:Params} {h:Heap} {args:List WData} {vals:List Value}
  (hpre:l.row.toRowW.claim.pre args=true) (hwl:WellAll P h vals args) :
  ∃a vs ns,vals=[Value.ref a]/\args=[WData.list (ns.map WData.int)]/\h.get? a=some {cls:=.type "list",data:=.seq vs.toArray}/\IntsAre vs ns/\ns.length<=n:=by
 have hsh:WShape.hasAll [] args [.list .int]=true:=(pre_splitW hpre).1
 have hc:l.pre.holds [] {args:=args}=true:=(pre_splitW hpre).2
 obtain ⟨d,r,rfl,h1,h2⟩:=hasAllW_cons hsh
 obtain rfl:=hasAllW_nil h2
 obtain ⟨xs,rfl,h3⟩:=hasW_list h1
 obtain ⟨ns,rfl⟩:=items_int h3
 have hlen:ns.length<=n:=by
  unfold OpenLaw.pre at hc
  have h4:(WTm.not (.lt (.lit (.int (n:Int))) (.len (.arg 0)))).holds [] {args:=[.list (ns.map .int)]}=true:=by
   have h4:=(holds_andW hc).1
   rw [hn] at h4
   exact h4
  have h5:=condW_of h4 (w_not (w_lt w_lit (w_len_list (w_arg rfl))))
  rw [List.length_map] at h5
  refine Nat.le_of_not_lt fun q=>?_
  have q':(n:Int)<((ns.length:Nat):Int):=by omega
  first
   |(rw [decide_eq_true q'] at h5;exact absurd h5 (by decide))
   |(simp at h5;omega)
 cases hwl with
 |cons w1 w2=>
  cases w2
  cases w1 with
  |list ho hall=>exact ⟨_,_,ns,rfl,rfl,ho,pV ns _ hall,hlen⟩
theorem zq (l:OpenLaw) (args:List WData):l.row.toRowW.claim.post args (.bool true) args=true:=
 postW_of (r:=l.row.toRowW) (X:=(true==true))
  (show WShape.has [] (.bool true) .bool=true by first|rfl|decide|simp [WShape.has,WShape.arms,WShape.armsAll])
  (show (WTm.eq .res (.lit (.bool true))).value [] {args:=args,res:=some (.bool true),after:=args}=some (.bool (true==true)) from w_eq_bool (w_res rfl) w_lit) rfl
theorem wK {l:OpenLaw} {n:Nat} {q:Program} {loose:List Str} {XP:(Str->Option Value)->Heap->Prop} {YP:World->Heap->Prop} {d:DefRec}
  (hn:l.most=some n) (hdf:d.params.defaults=[])
  (call:∀(w:World) (s₀ s₁:Shared) (mg mb:Str->Option Value) (fa:Addr) (o:Obj) (pm cd doc:Value) (a:Addr) (vs:List Value) (ns:List Int),
   Ground q loose [] XP w s₀ mg mb s₁.heap->YP w s₁.heap ->
   s₁.heap.get? fa=some o->o.data=.func (docDef d.name d.params d.body d.scope pm cd doc)->s₁.heap.CodeRec cd d.name->mg d.name=some (.ref fa) ->
   s₁.heap.get? a=some {cls:=.type "list",data:=.seq vs.toArray}->IntsAre vs ns->ns.length<=n->s₁.gens=#[] ->
   codeAny (model l.prog w) callerA (.call (.ref fa) ⟨[.ref a],[]⟩) (fun r s'=>r=.ok (.ret (.bool true))/\OldK s₁.heap s'.heap/\s'.os=s₁.os/\AllBare s'.gens) s₁) :
  WalkO q loose XP YP l.row.toRowW d [] (fun f vs=>PySem.call f vs):=by
 intro w s₀ s₁ mg mb G Y fa o pm cd doc dV kV ho hd hcd hD hmg hg args vals as hpre hlay hrd hwl hlo
 obtain rfl:dV=.none:=Dflts.none hD hdf
 obtain rfl:kV=.none:=Dflts.noKw hD
 obtain ⟨a,vs,ns,rfl,rfl,hobj,hints,hlen⟩:=yW hn hpre hwl
 refine enter_call (codeAny_mono (call w s₀ s₁ mg mb fa o pm cd doc a vs ns G Y ho (fd_plain hd) hcd hmg hobj hints hlen hg) fun r s' hq=>?_)
 obtain ⟨rfl,h2,h3,h4⟩:=hq
 exact ⟨.inl ⟨.bool true,.bool true,[],rfl,fun _=>rfl,.bool true,zq l _,fun _=>⟨List.Pairwise.nil,fun _ hm=>(nomatch hm)⟩⟩,h2,h3,h4⟩
section
variable {prog:Program} {w:World} {A:Around} {E:Value->Shared->Prop} {s:Shared} {K:Frag}
theorem make_obj {R:Result->Shared->Prop} {C fI:Addr} {rest:List Value} {kw:List (Str×Value)}
  (X:K.In s.heap) (hm:makesIn K C=true) (hi:findIn K (.ref C) "__init__"=some (some (.ref fI))) (hf:isFn K (.ref fI)=true)
  (h:codeAny (model prog w) (A.under (.builtin "type.__call__" ⟨.ref C::rest,kw⟩)) (.call (.ref fI) ⟨.ref (s.heap.objs.size+1)::rest,kw⟩) (InitBack (s.heap.objs.size+1) R)
   {s with heap:=(s.heap.push emptyDict).push (instObj C s.heap.objs.size)}):codeAny (model prog w) A (.call (.ref C) ⟨rest,kw⟩) R s:=by
 obtain ⟨hh,g,d,t,os⟩:=s
 exact make_core (makes_of X hm) (looks_findIn X hi) (fun self=>bind_fn X self (beq_iff_eq.mp hf)) (.inl rfl) h
theorem get_field {x C:Addr} {ox:Obj} {es:List DictEntry} {n:Nat} {name:Str} {expr:Bool} {v:Value} {Q:Value->Shared->Prop}
  (X:K.In s.heap) (I:PySem.W.InstAt s.heap x ox C (some (dictOf es n))) (hg:plainGet K C name=true) (hh:hasDictIn K C=true) (ha:findIn K (.ref C) name=some none)
  (hl:getL name es=some (some v)) (hv:handedIn v=true) (h:Q v {s with toks:=s.toks+1}):wpAny (model prog w) A (getAttr (.ref x) name expr) Q E s:=
 get_value X I (plainGet_of hg).1 (findObj_own hh ha rfl hl) hv h
end
end Att
namespace L2
open PySem PySem.Spec PyProof.Rows
theorem tX:∀{vs:List Value} {ns:List Int},IntsAre vs ns->Vals (ns.map V.int) vs
 |_,_,.nil=>.nil
 |_,_,.cons n t h=>.cons ⟨t,rfl⟩ (tX h)
noncomputable def Only (H:Hp):Prop:=∀b,H b=none\/∃o xs,H b=some (.frz o (.lst xs))
theorem law_call {P:Program} {w:World} {K:PySem.W.Frag} {mg mb:Str->Option Value} {CX:CXT} {k:Nat} {fa a:Addr} {fd:FuncData} {x:Str} {sp:Sp} {s₁:Shared} {vs:List Value} {ns:List Int}
  (KX:K.In s₁.heap) (hns:s₁.heap.Ns mainGlobals mg) (hb:s₁.heap.Ns builtinsNs mb) (hbb:∀x:Str,x≠"__name__"->mb x=bootBuiltins x) (hlim:s₁.heap.NoLimit) (hg:s₁.gens=#[])
  (ha:s₁.heap.get? a=some {cls:=.type "list",data:=.seq vs.toArray}) (hi:IntsAre vs ns) (hl:ns.length<=sizeLine) (hr:l5 k callerA)
  (F:∀base:Heap,K.In base->base.Ns mainGlobals mg->cD P w K mg base CX k fa fd [x] sp) (hbind:∀(s:Shared) (u:Value),BindsTo s fd ⟨[u],[]⟩ [(x,u)])
  (hsp:∀H:Hp,Only H->SqL K H a (ns.map V.int)->sp [.ref a] H (fun v _=>v=.bl true) fun _ _ _=>False)
  (hCX:∀H e s',CX [] H s₁ (fun _ _ _=>False) e s'->False) :
  codeAny (model P w) callerA (.call (.ref fa) ⟨[.ref a],[]⟩) (fun r s'=>r=.ok (.ret (.bool true))/\OldK s₁.heap s'.heap/\s'.os=s₁.os/\AllBare s'.gens) s₁:=by
 have rv:=tX hi
 have lenV:=hi.length
 have core:∀H:Hp,Only H->SqL K H a (ns.map V.int)->HOk P w H s₁.heap->(∀b,H b≠none->b=a)->(H a≠none->K.lookup a=none) ->
   codeAny (model P w) callerA (.call (.ref fa) ⟨[.ref a],[]⟩) (fun r s'=>r=.ok (.ret (.bool true))/\OldK s₁.heap s'.heap/\s'.os=s₁.os/\AllBare s'.gens) s₁:=by
  intro H hO hS hok hA hK
  have base_of:∀{b:Addr} {o:Obj},s₁.heap.get? b=some o->H b=none->(hidT s₁.heap H).get? b=some o:=fun e n=>hidT_get e n
  have noA:∀{b:Addr} {o:Obj} {es:Array DictEntry} {ep:Nat},s₁.heap.get? b=some o->o.data=.dict es ep->H b=none:=fun {b o es ep} e d=>by
   cases q:H b with
   |none=>rfl
   |some u=>
    have e':b=a:=hA b (by rw [q];simp)
    subst e'
    rw [ha] at e;cases e
    have d':Data.seq vs.toArray _=Data.dict es ep:=d
    cases d'
  have nsK:∀{b:Addr} {m:Str->Option Value},s₁.heap.Ns b m->(hidT s₁.heap H).Ns b m:=fun {b m} ⟨o,es,ep,e,d,r⟩=>⟨o,es,ep,base_of e (noA e d),d,r⟩
  have hKb:K.In (hidT s₁.heap H):=fun b o e=>base_of (KX b o e) (by
   cases q:H b with
   |none=>rfl
   |some u=>
    have e':b=a:=hA b (by rw [q];simp)
    subst e'
    rw [hK (by rw [q];simp)] at e;cases e)
  have hM:Mod K mg (hidT s₁.heap H):=⟨hKb,nsK hns,⟨mb,nsK hb,hbb⟩,let ⟨mc,h1,h2⟩:=hlim;⟨mc,nsK h1,h2⟩⟩
  have e0:Env0 P w K mg (hidT s₁.heap H) callerA [] s₁ H:=⟨rfl,hM,fun b o e=>of_hidT e,Nat.le_of_eq (A6 _ _),trivial,fun b hb=>absurd (show b∈([]:List Addr) from hb) (by simp),hok,.of_eq hg⟩
  refine codeAny_mono ((F _ hKb (nsK hns)).run callerA [] s₁ H ⟨[.ref a],[]⟩ [.ref a] [.ref a] _ _ hr e0 (hbind s₁ (.ref a)) (.cons rfl .nil) (hsp H hO hS)) fun r s' h=>?_
  cases r with
  |error e=>exact (hCX H e s' h).elim
  |ok fl=>
   cases fl with
   |next=>exact False.elim h
   |brk=>exact False.elim h
   |cont=>exact False.elim h
   |ret u=>
    obtain ⟨v,H',os,bare,un,hok',r',q⟩:=h
    have q':v=.bl true:=q
    subst q'
    obtain rfl:u=Value.bool true:=r'
    refine ⟨rfl,OldK.of_keep fun b o e=>?_,os,bare⟩
    cases q:H b with
    |none=>exact un.keep b o e q (by intro z;exact absurd (show b∈([]:List Addr) from z) (by simp)) (by simp)
    |some u=>
     rcases hO b with z|⟨ob,xs,z⟩
     ·rw [q] at z;cases z
     ·have z2:=un.frzs b ob _ z
      obtain ⟨e1,_⟩:=hok b _ z
      obtain ⟨e2,_⟩:=hok' b _ z2
      rw [e] at e1;cases e1
      exact e2
 cases hk:K.lookup a with
 |some o=>
  have e:=KX a o hk
  rw [ha] at e
  cases e
  refine core (fun _=>none) (fun _=>.inl rfl) (.inr ⟨_,vs.toArray,_,hk,rfl,rfl,rfl,by rw [List.size_toArray,lenV];exact hl,by simpa using rv⟩) (fun b u z=>by have z':(none:Option HO)=some u:=z;cases z') (fun b z=>absurd rfl z) fun z=>absurd rfl z
 |none=>
  refine core (fun b=>if b=a then some (.frz {cls:=.type "list",data:=.seq vs.toArray} (.lst (ns.map V.int))) else none) (fun b=>?_) (.inl (.inr ⟨{cls:=.type "list",data:=.seq vs.toArray},if_pos rfl⟩)) (fun b u z=>?_) (fun b z=>?_) fun _=>hk
  ·by_cases hb:b=a
   ·exact .inr ⟨_,_,if_pos hb⟩
   ·exact .inl (if_neg hb)
  ·by_cases hb:b=a
   ·have z':=(if_pos hb).symm.trans z
    cases z'
    subst hb
    exact ⟨ha,by rw [List.length_map];exact hl,vs,_,rv,ha⟩
   ·have z':=(if_neg hb).symm.trans z
    cases z'
  ·by_cases hb:b=a
   ·exact hb
   ·exact absurd (if_neg hb) z
end L2
namespace L2
open PySem PySem.Spec PyProof.Rows
theorem walk_of {l:PySem.W.OpenLaw} {n k:Nat} {q:Program} {loose:List Str} {XP:(Str->Option Value)->Heap->Prop} {YP:World->Heap->Prop} {d:DefRec} {K:Params->PySem.W.Frag} {CX:World->CXT} {sp:World->Sp} {x:Str}
  (hn:l.most=some n) (hn2:n<=sizeLine) (hdf:d.params.defaults=[]) (hr:l5 k callerA)
  (hY:∀(w:World) (h:Heap),YP w h->(K w.params).In h)
  (F:∀(w:World) (mg:Str->Option Value) (fa:Addr) (h:Heap),(K w.params).In h->h.Ns mainGlobals mg->mg d.name=some (.ref fa) ->
   ∃fd:FuncData,(∀(s:Shared) (u:Value),BindsTo s fd ⟨[u],[]⟩ [(x,u)]) /\
    ∀base:Heap,(K w.params).In base->base.Ns mainGlobals mg->cD l.prog w (K w.params) mg base (CX w) k fa fd [x] (sp w))
  (hsp:∀(w:World) (H:Hp) (a:Addr) (ns:List Int),ns.length<=n->Only H->SqL (K w.params) H a (ns.map V.int)->sp w [.ref a] H (fun v _=>v=.bl true) fun _ _ _=>False)
  (hCX:∀(w:World) (H:Hp) (s:Shared) (e:Value) (s':Shared),CX w [] H s (fun _ _ _=>False) e s'->False) :
  PySem.W.WalkO q loose XP YP l.row.toRowW d [] (fun f vs=>PySem.call f vs):=by
 refine Att.wK hn hdf fun w s₀ s₁ mg mb fa o pm cd doc a vs ns G Y ho hd hcd hmg hobj hints hlen hg=>?_
 have KX:=hY w _ Y
 obtain ⟨fd,hb,hF⟩:=F w mg fa _ KX G.T.g hmg
 exact law_call KX G.T.g G.T.b G.T.builtins G.T.nolimit hg hobj hints (Nat.le_trans hlen hn2) hr hF hb (fun H hO hS=>hsp w H a ns hlen hO hS) fun H e s'=>hCX w H s₁ e s'
end L2
namespace L2
open PySem PySem.Spec PyProof.Rows
noncomputable def inClass (s:Stmt) (j:Nat):Stmt:=match s with
 |.ClassDef _ _ _ body _ _ _ _ _ _ _=>body.getD j (.Pass ⟨0,0,0,0⟩)
 |_=>.Pass ⟨0,0,0,0⟩
noncomputable def dk (s:Stmt):Arguments:=match s with
 |.FunctionDef _ a _ _ _ _ _ _ _ _=>a
 |_=>{posonlyargs:=[],args:=[],vararg:=none,kwonlyargs:=[],kw_defaults:=[],kwarg:=none,defaults:=[]}
noncomputable def cv (s:Stmt):List Stmt:=match s with
 |.FunctionDef _ _ b _ _ _ _ _ _ _=>b
 |_=>[]
noncomputable def aq (s:Stmt):Scope:=match s with
 |.FunctionDef _ _ _ _ _ _ sc _ _ _=>sc
 |_=>{kind:=.function,names:=[],isGenerator:=false,isCoroutine:=false}
noncomputable abbrev CX0:CXT:=fun _ _ _ _ _ _=>False
noncomputable abbrev E0:XK:=fun _ _ _=>False
theorem vR {X:Cx}:Passes CX0 X E0:=fun _ _ _ _ _ _ _ h=>h.elim
structure Fun (K:PySem.W.Frag) (x qual:Str) (st:Stmt) (f:Addr) (fd:FuncData):Prop where
 ex:∃(oc:Value) (od:Option Addr) (kV doc pm:Value) (an:Option Addr) (cdv ct:Value) (osl:Array (Option Value)),
  fd=fnOf x qual (dk st) (cv st) (aq st) .none kV doc pm an cdv ct/\K.lookup f=some ⟨oc,od,.func fd,osl⟩/\codeIn K cdv qual=true
 kp:keepIn K (.ref f)=true
section
variable {P:Program} {w:World} {K:PySem.W.Frag} {mg:Str->Option Value} {base:Heap}
theorem Fun.binds {x qual:Str} {st:Stmt} {f:Addr} {fd:FuncData} {ps:List Str} (F:Fun K x qual st f fd)
  (h:∀(kV doc pm:Value) (an:Option Addr) (cdv ct:Value) (us:List Value),us.length=ps.length->bindArgs (fnOf x qual (dk st) (cv st) (aq st) .none kV doc pm an cdv ct) ⟨us,[]⟩=pure (ps.zip us)):Binds K fd ps []:=by
 obtain ⟨oc,od,kV,doc,pm,an,cdv,ct,osl,rfl,lk,hcd⟩:=F.ex
 exact .all (h kV doc pm an cdv ct)
theorem xp {x qual:Str} {st:Stmt} {f:Addr} {oc:Value} {od an:Option Addr} {osl:Array (Option Value)} {kV doc pm cdv ct:Value} (l:K.lookup f=some ⟨oc,od,.func (fnOf x qual (dk st) (cv st) (aq st) .none kV doc pm an cdv ct),osl⟩)
  (c:codeIn K cdv qual=true) (k:keepIn K (.ref f)=true):Fun K x qual st f (fnOf x qual (dk st) (cv st) (aq st) .none kV doc pm an cdv ct):=⟨⟨oc,od,kV,doc,pm,an,cdv,ct,osl,rfl,l,c⟩,k⟩
end
section
variable {X:Cx}
theorem pv (i:Nat) {x:Str} {pos:Pos} (hN:X.N[i]? =some x:=by rfl) (hv:Vis X.env.scope x:=by first|exact Or.inl rfl|exact Or.inr (Or.inl rfl)|exact Or.inr (Or.inr rfl)) (hd:(x==("__debug__":Str))=false:=by decide)
  (hcd:(x==("__classdict__":Str))=false:=by decide):PE X (.Name x pos) (tVar i):=pe_var hN hv hd hcd
end
theorem iteF {A B:Prop} (h:B):if false=true then A else B:=by
 rw [if_neg Bool.false_ne_true]
 exact h
theorem iteNS {c A B:Prop} [Decidable c] (hc:c) (h:B):if (!decide c)=true then A else B:=by
 rw [decide_eq_true hc]
 exact iteF h
noncomputable def aU (H H':Hp):Prop:=∀b o,H b=some o->H' b=some o
theorem aU.refl (H:Hp):aU H H:=fun _ _ h=>h
theorem aU.trans {H H1 H2:Hp} (a:aU H H1) (b:aU H1 H2):aU H H2:=fun c o h=>b c o (a c o h)
theorem aU.free {H H':Hp} (e:aU H H') {l:Addr} (h:H' l=Option.none):H l=Option.none:=by
 cases q:H l with
 |none=>rfl
 |some o=>
  rw [e l o q] at h
  cases h
end L2
set_option maxHeartbeats 4000000
namespace L2
open PySem PySem.Spec PyProof.Rows
noncomputable def rR (cells:List (Str×Addr)):List (Str×NameKind)->List (Str×Addr)->List (Str×Addr)
 |[],acc=>acc
 |(x,k)::r,acc=>rR cells r (if (k==NameKind.free)=true then (x,(cells.lookup x).getD 0)::acc else acc)
theorem gt_ne {a b c:Addr} (h1:b<a) (h2:a<c):c≠b:=by
 rintro rfl
 exact absurd (Nat.lt_trans h1 h2) (Nat.lt_irrefl _)
theorem ye {a b:Addr} {n:Nat} (h1:a<n) (h2:n<=b):a≠b:=by
 rintro rfl
 exact absurd (Nat.lt_of_lt_of_le h1 h2) (Nat.lt_irrefl _)
theorem rQ {cells:List (Str×Addr)} {x:Str} {c:Addr}:∀(ns:List (Str×NameKind)) (acc:List (Str×Addr)),(rR cells ns acc).lookup x=some c ->
  ((x,NameKind.free)∈ns/\c=(cells.lookup x).getD 0)\/acc.lookup x=some c
 |[],_,h=>.inr h
 |(y,k)::r,acc,h=>by
  unfold rR at h
  rcases rQ r _ h with ⟨m,e⟩|q
  ·exact .inl ⟨List.mem_cons_of_mem _ m,e⟩
  ·by_cases hk:(k==NameKind.free)=true
   ·rw [if_pos hk,List.lookup_cons] at q
    cases hy:x==y with
    |true=>
     rw [hy] at q
     have e1:=eq_of_beq hy
     have e2:=eq_of_beq hk
     subst e1 e2
     exact .inl ⟨List.mem_cons_self,(Option.some.inj q).symm⟩
    |false=>rw [hy] at q;exact .inr q
   ·rw [if_neg hk] at q;exact .inr q
theorem qk {cells:List (Str×Addr)} {x:Str}:∀(ns:List (Str×NameKind)) (acc:List (Str×Addr)),((x,NameKind.free)∈ns\/(acc.lookup x).isSome=true)->((rR cells ns acc).lookup x).isSome=true
 |[],_,h=>h.elim (fun z=>nomatch z) id
 |(y,k)::r,acc,h=>by
  unfold rR
  refine qk r _ ?_
  rcases h with h|h
  ·rcases List.mem_cons.mp h with e|h
   ·cases e
    refine .inr ?_
    rw [if_pos (by decide),List.lookup_cons]
    simp
   ·exact .inl h
  ·refine .inr ?_
   by_cases hk:(k==NameKind.free)=true
   ·rw [if_pos hk,List.lookup_cons]
    cases hy:x==y with
    |true=>rfl
    |false=>exact h
   ·rw [if_neg hk];exact h
theorem nA {x:Str} {c:Addr}:∀(ns:List (Str×NameKind)) (n:Nat) (acc:List (Str×Addr)),(cellsFrom n ns acc).lookup x=some c->(n<=c/\(x,NameKind.cell)∈ns)\/acc.lookup x=some c
 |[],_,_,h=>.inr h
 |(y,k)::r,n,acc,h=>by
  unfold cellsFrom at h
  by_cases hk:(k==NameKind.cell)=true
  ·rw [if_pos hk] at h
   rcases nA r (n+1) _ h with ⟨a,m⟩|q
   ·exact .inl ⟨by omega,List.mem_cons_of_mem _ m⟩
   ·rw [List.lookup_cons] at q
    cases hy:x==y with
    |true=>
     rw [hy] at q
     have e1:=eq_of_beq hy
     have e2:=eq_of_beq hk
     have e3:=Option.some.inj q
     subst e1 e2 e3
     exact .inl ⟨Nat.le_refl _,List.mem_cons_self⟩
    |false=>rw [hy] at q;exact .inr q
  ·rw [if_neg hk] at h
   rcases nA r n acc h with ⟨a,m⟩|q
   ·exact .inl ⟨a,List.mem_cons_of_mem _ m⟩
   ·exact .inr q
theorem ql:∀(ns:List (Str×NameKind)) (n:Nat) (acc:List (Str×Addr)),(∀x y c,acc.lookup x=some c->acc.lookup y=some c->x=y)->(∀x c,acc.lookup x=some c->c<n) ->
  ∀x y c,(cellsFrom n ns acc).lookup x=some c->(cellsFrom n ns acc).lookup y=some c->x=y
 |[],_,_,hi,_=>hi
 |(z,k)::r,n,acc,hi,hl=>by
  unfold cellsFrom
  by_cases hk:(k==NameKind.cell)=true
  ·rw [if_pos hk]
   refine ql r (n+1) _ (fun x y c h1 h2=>?_) (fun x c h1=>?_)
   ·rw [List.lookup_cons] at h1 h2
    cases hx:x==z with
    |true=>
     rw [hx] at h1
     have e1:=Option.some.inj h1
     cases hy:y==z with
     |true=>rw [eq_of_beq hx,eq_of_beq hy]
     |false=>
      rw [hy] at h2
      have h3:=hl y c h2
      rw [<- e1] at h3
      exact absurd h3 (Nat.lt_irrefl _)
    |false=>
     rw [hx] at h1
     cases hy:y==z with
     |true=>
      rw [hy] at h2
      have e2:=Option.some.inj h2
      have h3:=hl x c h1
      rw [<- e2] at h3
      exact absurd h3 (Nat.lt_irrefl _)
     |false=>
      rw [hy] at h2
      exact hi x y c h1 h2
   ·rw [List.lookup_cons] at h1
    cases hx:x==z with
    |true=>
     rw [hx] at h1
     have e1:=Option.some.inj h1
     rw [<- e1]
     exact Nat.lt_succ_self _
    |false=>
     rw [hx] at h1
     exact Nat.lt_succ_of_lt (hl x c h1)
  ·rw [if_neg hk]
   exact ql r n acc hi hl
theorem oE {x:Str} {c:Addr}:∀(ns:List (Str×NameKind)) (h:Heap) (acc:List (Str×Addr)),(cellsFrom h.objs.size ns acc).lookup x=some c ->
  acc.lookup x=some c\/(h.objs.size<=c/\(pushCells h ns).IsCell c none)
 |[],_,_,e=>.inl e
 |(y,k)::r,h,acc,e=>by
  unfold cellsFrom at e
  unfold pushCells
  by_cases hk:(k==NameKind.cell)=true
  ·rw [if_pos hk] at e ⊢
   have q:=oE (x:=x) (c:=c) r (h.push {cls:=.type "cell",data:=.cell none}) ((y,h.objs.size)::acc) (by rw [Heap.size_push];exact e)
   rcases q with q|⟨q1,q2⟩
   ·rw [List.lookup_cons] at q
    cases hy:x==y with
    |true=>
     rw [hy] at q
     have e1:=Option.some.inj q
     subst e1
     exact .inr ⟨Nat.le_refl _,Heap.IsCell.keeps ⟨_,Heap.get?_push_size _ rfl,rfl⟩ (pushCells_keeps r _)⟩
    |false=>rw [hy] at q;exact .inl q
   ·rw [Heap.size_push] at q1
    exact .inr ⟨by omega,q2⟩
  ·rw [if_neg hk] at e ⊢
   exact oE r h acc e
theorem oO {env:Env} (f:Str×NameKind->List (Str×Addr)->Sem (ForInStep (List (Str×Addr))))
  (hf:∀n k cs,f (n,k) cs=if (k==NameKind.free)=true then (do let a <- cellOf env n;pure (.yield ((n,a)::cs))) else pure (.yield cs)) :
  ∀(ns:List (Str×NameKind)) (acc:List (Str×Addr)),(∀x∈ns,x.2=NameKind.free->∃c,env.cells.lookup x.1=some c)->forIn ns acc f=(pure (rR env.cells ns acc):Sem _)
 |[],acc,_=>by rw [List.forIn_nil];rfl
 |(y,k)::r,acc,hc=>by
  have hr:∀x∈r,x.2=NameKind.free->∃c,env.cells.lookup x.1=some c:=fun x hx=>hc x (List.mem_cons_of_mem _ hx)
  rw [List.forIn_cons,hf]
  unfold rR
  by_cases hk:(k==NameKind.free)=true
  ·rw [if_pos hk,if_pos hk]
   obtain ⟨c,e⟩:=hc (y,k) List.mem_cons_self (eq_of_beq hk)
   have e':env.cells.lookup y=some c:=e
   have e2:cellOf env y=pure c:=by unfold cellOf;rw [e']
   rw [e2,e']
   exact oO f hf r _ hr
  ·rw [if_neg hk,if_neg hk]
   exact oO f hf r _ hr
theorem rP {scope:Scope} {env:Env} (hc:∀x∈scope.names,x.2=NameKind.free->∃c,env.cells.lookup x.1=some c):closureFor scope env=pure (rR env.cells scope.names []):=by
 simp only [closureFor]
 rw [oO (env:=env) _ (fun n k cs=>by cases h:(k==NameKind.free)<;>simp [h]) scope.names [] hc]
 rfl
theorem zM {M:Model} {A:Around} {E:Value->Shared->Prop} {s:Shared} {scope:Scope} {gl:Addr} {cl:List (Str×Addr)} {qual:Str} {around:Env} {Q:Env->Shared->Prop}
  (hQ:∀h1:Heap,(∀b o,s.heap.get? b=some o->h1.get? b=some o)->h1.Ns s.heap.objs.size (fun _=>none) ->
   (∀x c,(cellsFrom (s.heap.objs.size+1) scope.names cl).lookup x=some c->cl.lookup x=some c\/(s.heap.objs.size<c/\h1.IsCell c none)) ->
   Q {scope:=scope,locals:=s.heap.objs.size,globals:=gl,cells:=cellsFrom (s.heap.objs.size+1) scope.names cl,qual:=qual,func:=none,code:=around.code,frame:=around.frame,builtins:=around.builtins} {s with heap:=h1}) :
  wpAny M A (newFunctionEnv scope gl cl [] qual none .none (some around)) Q E s:=by
 simp only [newFunctionEnv,Option.isSome_some,if_true]
 refine wpAny_bind (wpAny_alloc ?_)
 refine wpAny_bind (wpAny_layCells _ (fun name kind cells=>by cases hkc:kind==NameKind.cell<;>simp [hkc]) _ _ _ _ ?_)
 rw [show ({s with heap:=s.heap.push {cls:=.type "dict",data:=.dict #[]}}:Shared).heap.objs.size=s.heap.objs.size+1 from Heap.size_push ..]
 rw [List.forIn_nil]
 refine wpAny_bind (wpAny_pure (wpAny_pure ?_))
 refine hQ _ (fun b o e=>pushCells_keeps _ _ b o (Heap.get?_push_of_some _ e)) ((Heap.Ns.new s.heap (.type "dict")).keeps (pushCells_keeps _ _)) fun x c e=>?_
 have q:=oE (x:=x) (c:=c) scope.names (s.heap.push {cls:=.type "dict",data:=.dict #[]}) cl (by rw [Heap.size_push];exact e)
 rw [Heap.size_push] at q
 exact q.imp id fun ⟨a,b⟩=>⟨by omega,b⟩
theorem rn {env:Env} {x:Str}:∀{ns:List (Str×NameKind)},ns.lookup x=some .free ->
  (ns.map fun (n,k)=>if (k==NameKind.free&&env.scope.kind==.function&&env.kindOf n==some .cell) then (n,NameKind.cell) else (n,k)).lookup x=some .cell \/
  (ns.map fun (n,k)=>if (k==NameKind.free&&env.scope.kind==.function&&env.kindOf n==some .cell) then (n,NameKind.cell) else (n,k)).lookup x=some .free
 |[],h=>by simp at h
 |(n,k)::r,h=>by
  have ih:=@rn env x r
  rw [List.map_cons]
  dsimp only
  by_cases hc:(k==NameKind.free&&env.scope.kind==.function&&env.kindOf n==some .cell)=true
  ·rw [if_pos hc,List.lookup_cons]
   cases hx:x==n with
   |true=>exact .inl rfl
   |false=>rw [List.lookup_cons,hx] at h;exact ih h
  ·rw [if_neg hc,List.lookup_cons]
   cases hx:x==n with
   |true=>
    rw [List.lookup_cons,hx] at h
    have e:=Option.some.inj h
    subst e
    exact .inr rfl
   |false=>rw [List.lookup_cons,hx] at h;exact ih h
theorem rp {env:Env} {x:Str}:∀{ns:List (Str×NameKind)},
  ((ns.map fun (n,k)=>if (k==NameKind.free&&env.scope.kind==.function&&env.kindOf n==some .cell) then (n,NameKind.cell) else (n,k)).lookup x=some .cell \/
  (ns.map fun (n,k)=>if (k==NameKind.free&&env.scope.kind==.function&&env.kindOf n==some .cell) then (n,NameKind.cell) else (n,k)).lookup x=some .free) ->
  ns.lookup x=some .cell\/ns.lookup x=some .free
 |[],h=>by simp at h
 |(n,k)::r,h=>by
  have ih:=@rp env x r
  rw [List.map_cons] at h
  dsimp only at h
  by_cases hc:(k==NameKind.free&&env.scope.kind==.function&&env.kindOf n==some .cell)=true
  ·rw [if_pos hc,List.lookup_cons] at h
   rw [List.lookup_cons]
   cases hx:x==n with
   |true=>
    have:k=NameKind.free:=by
     rw [Bool.and_eq_true,Bool.and_eq_true] at hc
     exact eq_of_beq hc.1.1
    subst this
    exact .inr rfl
   |false=>rw [hx] at h;exact ih h
  ·rw [if_neg hc,List.lookup_cons] at h
   rw [List.lookup_cons]
   cases hx:x==n with
   |true=>rw [hx] at h;exact h
   |false=>rw [hx] at h;exact ih h
noncomputable def bo (X:Cx) (N':List Str) (sc:Scope) (L:Addr) (cs:List (Str×Addr)) (s:Shared) (H:Hp) (fp:List Addr):Cx:=
 {X with
  N:=N',s₀:=s,H₀:=H,outer:=X.stack,ex:=fp,pn:=[],xe:=fun _ _=>False
  fn:=fun x=> !(sc.names.any fun p=>p.1==x&&p.2==NameKind.free)
  env:={scope:=relabel sc X.env,locals:=L,globals:=X.env.globals,cells:=cs,qual:=X.env.qual,func:=none,code:=X.env.code,frame:=X.env.frame,builtins:=X.env.builtins}}
noncomputable def inS (ix:List (Option Nat)) (σ:St):St:=ix.map fun o=>match o with
 |none=>none
 |some j=>(σ[j]?).join
noncomputable def bE (N:List Str) (osc:Scope) (N':List Str) (sc:Scope) (ix:List (Option Nat)):Bool:=
 decide (ix.length=N'.length) &&
 ((List.range ix.length).all fun i=>match ix[i]? with
  |some (some j)=>(match N'[i]?,N[j]? with
   |some x,some y=>x==y&&sc.names.lookup x==some NameKind.free
   |_,_=>false)
  |_=>true) &&
 (sc.names.all fun p=>(p.2 != NameKind.free||(osc.names.lookup p.1==some NameKind.cell||osc.names.lookup p.1==some NameKind.free))&&(p.2 != NameKind.local||sc.names.lookup p.1==some NameKind.local)) &&
 (sc.names.all fun p=>sc.names.all fun q=> !(p.1==q.1)||p.2==q.2)
section
variable {X:Cx} {pins:List (Addr×Obj)} {σ:St} {H:Hp} {s:Shared} {N':List Str} {sc:Scope} {ix:List (Option Nat)}
theorem bE.len (ok:bE X.N X.env.scope N' sc ix=true):ix.length=N'.length:=by
 unfold bE at ok
 rw [Bool.and_eq_true,Bool.and_eq_true,Bool.and_eq_true] at ok
 exact of_decide_eq_true ok.1.1.1
theorem bE.at (ok:bE X.N X.env.scope N' sc ix=true) {i j:Nat} {x:Str} (h:ix[i]? =some (some j)) (hx:N'[i]? =some x):X.N[j]? =some x/\sc.names.lookup x=some .free:=by
 unfold bE at ok
 rw [Bool.and_eq_true,Bool.and_eq_true,Bool.and_eq_true] at ok
 have q:=List.all_eq_true.mp ok.1.1.2 i (List.mem_range.mpr (List.getElem?_eq_some_iff.mp h).1)
 rw [h,hx] at q
 dsimp only at q
 cases e:X.N[j]? with
 |none=>rw [e] at q;cases q
 |some y=>
  rw [e] at q
  dsimp only at q
  rw [Bool.and_eq_true] at q
  exact ⟨by rw [eq_of_beq q.1],eq_of_beq q.2⟩
theorem bE.fr (ok:bE X.N X.env.scope N' sc ix=true) {x:Str} (h:(x,NameKind.free)∈sc.names):X.env.kindOf x=some .cell\/X.env.kindOf x=some .free:=by
 unfold bE at ok
 rw [Bool.and_eq_true,Bool.and_eq_true] at ok
 have q:=List.all_eq_true.mp ok.1.2 _ h
 rw [Bool.and_eq_true] at q
 have q1:=q.1
 rw [Bool.or_eq_true] at q1
 rcases q1 with z|z
 ·exact absurd z (by simp)
 ·rw [Bool.or_eq_true] at z
  exact z.imp (fun e=>eq_of_beq e) fun e=>eq_of_beq e
theorem bE.loc (ok:bE X.N X.env.scope N' sc ix=true):∀x∈sc.names,x.2=NameKind.local->sc.names.lookup x.1=some .local:=fun x hx e=>by
 unfold bE at ok
 rw [Bool.and_eq_true,Bool.and_eq_true] at ok
 have q:=List.all_eq_true.mp ok.1.2 _ hx
 rw [Bool.and_eq_true] at q
 have q1:=q.2
 rw [Bool.or_eq_true] at q1
 rcases q1 with z|z
 ·rw [e] at z;exact absurd z (by decide)
 ·exact eq_of_beq z
theorem bE.apart (ok:bE X.N X.env.scope N' sc ix=true) {x:Str} (h1:(x,NameKind.cell)∈sc.names) (h2:(x,NameKind.free)∈sc.names):False:=by
 unfold bE at ok
 rw [Bool.and_eq_true] at ok
 have q:=List.all_eq_true.mp (List.all_eq_true.mp ok.2 _ h1) _ h2
 simp at q
theorem qi (I:Inv X pins σ H s) (ok:bE X.N X.env.scope N' sc ix=true):∀x∈sc.names,x.2=NameKind.free->∃c,X.env.cells.lookup x.1=some c:=fun x hx e=>by
 obtain ⟨n,k⟩:=x
 have e':k=NameKind.free:=e
 subst e'
 exact I.ok.has n (bE.fr ok hx)
theorem Aw (I:Inv X pins σ H s) (ok:bE X.N X.env.scope N' sc ix=true) {x:Str} {c:Addr} (h:(rR X.env.cells sc.names []).lookup x=some c):(x,NameKind.free)∈sc.names/\X.env.cells.lookup x=some c:=by
 rcases rQ _ _ h with ⟨m,e⟩|z
 ·obtain ⟨d,hd⟩:=qi I ok _ m rfl
  have hd':X.env.cells.lookup x=some d:=hd
  rw [hd'] at e
  have e2:c=d:=e
  subst e2
  exact ⟨m,hd'⟩
 ·simp at z
theorem comp_inv {fp:List Addr} {L:Addr} {h1:Heap} (I:Inv X pins σ H s) (hf:∀b∈fp,wN X pins H b) (hb:∀b∈fp,∃o,s.heap.get? b=some o) (ok:bE X.N X.env.scope N' sc ix=true) (hk:sc.kind=.function) (hL:s.heap.objs.size<=L)
  (kp:∀b o,s.heap.get? b=some o->h1.get? b=some o) (ns:h1.Ns L fun _=>none)
  (hc:∀x c,(cellsFrom (L+1) sc.names (rR X.env.cells sc.names [])).lookup x=some c->(rR X.env.cells sc.names []).lookup x=some c\/(L<c/\h1.IsCell c none)) :
  Inv (bo X N' sc L (cellsFrom (L+1) sc.names (rR X.env.cells sc.names [])) s H fp) [] (inS ix σ) H {s with heap:=h1}:=by
 have cc:∀x c,(rR X.env.cells sc.names []).lookup x=some c->(x,NameKind.free)∈sc.names/\X.env.cells.lookup x=some c/\(∃v,s.heap.IsCell c v)/\c<s.heap.objs.size:=fun x c e=>by
  obtain ⟨m,e'⟩:=Aw I ok e
  obtain ⟨v,z⟩:=I.cell x c e'
  exact ⟨m,e',⟨v,z⟩,z.lt⟩
 have fpl:∀b∈fp,b<s.heap.objs.size:=fun b z=>let ⟨o,e⟩:=hb b z;Heap.lt_size e
 have cne:∀b∈fp,∀x c,(cellsFrom (L+1) sc.names (rR X.env.cells sc.names [])).lookup x=some c->c≠b:=fun b z x c e=>by
  have hlt:=fpl b z
  rcases hc x c e with q|⟨q,_⟩
  ·exact (hf b z).2.2.2.2.1 x c (cc x c q).2.1
  ·exact gt_ne (Nat.lt_of_lt_of_le hlt hL) q
 have okk:(bo X N' sc L (cellsFrom (L+1) sc.names (rR X.env.cells sc.names [])) s H fp).Ok:=by
  refine ⟨I.ok.mod,hk,I.ok.glob,I.ok.blt,hL,?_,?_,?_,I.ok.hd,I.ok.frames,.inl rfl,?_,I.bs,Nat.le_trans I.ok.bsz I.sz,?_,?_,I.stack,I.yV⟩
  ·refine ql sc.names (L+1) _ (fun x y c e1 e2=>I.ok.inj x y c (cc x c e1).2.1 (cc y c e2).2.1) fun x c e=>?_
   exact Nat.lt_succ_of_lt (Nat.lt_of_lt_of_le (cc x c e).2.2.2 hL)
  ·intro x hx
   have hx':=rp (env:=X.env) (x:=x) (ns:=sc.names) hx
   have q:((cellsFrom (L+1) sc.names (rR X.env.cells sc.names [])).lookup x).isSome=true:=by
    rcases hx' with z|z
    ·exact PySem.W.cellsFrom_some _ _ _ (.inl z)
    ·exact PySem.W.cellsFrom_some _ _ _ (.inr (qk _ _ (.inl (PySem.mem_of_lookup z))))
   exact Option.isSome_iff_exists.mp q
  ·intro x c hfn e
   show s.heap.objs.size<=c
   rcases hc x c e with q|⟨q,_⟩
   ·have m:=(cc x c q).1
    have hfn':(!(sc.names.any fun p=>p.1==x&&p.2==NameKind.free))=true:=hfn
    have z:(sc.names.any fun p=>p.1==x&&p.2==NameKind.free)=true:=List.any_eq_true.mpr ⟨_,m,by simp⟩
    rw [z] at hfn'
    cases hfn'
   ·exact Nat.le_trans hL (Nat.le_of_lt q)
  ·intro b z
   have hlt:=fpl b z
   exact ⟨Nat.ne_of_lt (Nat.lt_of_lt_of_le hlt hL),cne b z⟩
  ·intro b o e z
   rcases (hf b z).2.2.2.1 with q|q
   ·exact I.ok.noex b o e q
   ·exact absurd (Nat.lt_of_lt_of_le (Heap.lt_size e) (Nat.le_trans I.ok.bsz q)) (Nat.lt_irrefl _)
  ·intro b z hs
   rcases List.mem_cons.mp (I.rh b hs) with q|q
   ·exact (hf b z).2.1 q
   ·exact (hf b z).2.2.1 q
 refine ⟨okk,rfl,I.bare,Un.kept kp,⟨_,ns,fun i x v h1' h2 h3=>?_⟩,fun x c e=>?_,I.hok.fresh hL,fun x c e=>?_,fun p hp=>absurd hp (by simp [bo]),I.hok.kept kp,?_⟩
 ·have hix:∃j,ix[i]? =some (some j)/\σ[j]? =some (some v):=by
   unfold inS at h2
   rw [List.getElem?_map] at h2
   cases e:ix[i]? with
   |none=>rw [e] at h2;cases h2
   |some o=>
    rw [e] at h2
    cases o with
    |none=>cases h2
    |some j=>
     have h2':(σ[j]?).join=some v:=Option.some.inj h2
     refine ⟨j,rfl,?_⟩
     cases e2:σ[j]? with
     |none=>rw [e2] at h2';cases h2'
     |some w=>
      rw [e2] at h2'
      have h2'':w=some v:=h2'
      rw [h2'']
  obtain ⟨j,e1,e2⟩:=hix
  obtain ⟨e3,e4⟩:=bE.at ok e1 h1'
  have hfr:=bE.fr ok (PySem.mem_of_lookup e4)
  obtain ⟨m,hn,hl⟩:=I.loc
  obtain ⟨u,r,l⟩:=hl j x v e3 e2 (hfr.elim (fun z=>.inr (.inl z)) fun z=>.inr (.inr z))
  refine ⟨u,r,.inr ⟨rn (env:=X.env) (x:=x) (ns:=sc.names) e4,?_⟩⟩
  rcases l with ⟨k,_⟩|⟨k,c,e,z⟩
  ·rcases hfr with q|q<;>rw [q] at k<;>cases k
  ·have q1:=qk (cells:=X.env.cells) sc.names [] (.inl (PySem.mem_of_lookup e4))
   obtain ⟨c2,q2⟩:=Option.isSome_iff_exists.mp q1
   have q3:=(cc x c2 q2).2.1
   rw [e] at q3
   cases q3
   have q4:=PySem.W.cellsFrom_some (x:=x) sc.names (L+1) (rR X.env.cells sc.names []) (.inr q1)
   obtain ⟨c3,q5⟩:=Option.isSome_iff_exists.mp q4
   rcases hc x c3 q5 with q6|⟨q6,q7⟩
   ·rw [q2] at q6
    cases q6
    exact ⟨c,q5,z.keeps kp⟩
   ·exfalso
    rcases nA _ _ _ q5 with ⟨_,m'⟩|q8
    ·exact bE.apart ok m' (PySem.mem_of_lookup e4)
    ·rw [q2] at q8
     cases q8
     exact absurd (Nat.lt_trans (Nat.lt_of_lt_of_le (cc x c q2).2.2.2 hL) q6) (Nat.lt_irrefl _)
 ·rcases hc x c e with q|⟨_,q⟩
  ·obtain ⟨v,z⟩:=(cc x c q).2.2.1
   exact ⟨v,z.keeps kp⟩
  ·exact ⟨_,q⟩
 ·rcases hc x c e with q|⟨q,_⟩
  ·exact I.freeC x c (cc x c q).2.1
  ·exact I.hok.fresh (Nat.le_trans hL (Nat.le_of_lt q))
 ·show (inS ix σ).length=N'.length
  unfold inS
  rw [List.length_map]
  exact bE.len ok
end
noncomputable def PTs (X:Cx) (ifs:List Expr) (t:TT):Prop:=
 ∀(pins:List (Addr×Obj)) (s:Shared) (σ:St) (H:Hp) (Q:Bool->Hp->Prop),Inv X pins σ H s->t σ H Q ->
  wpAny (model X.prog X.w) X.A (forIn ifs true fun c r=>if r=true then do let ok <- isTrue c X.env (eval c X.env);pure (ForInStep.yield ok) else pure (ForInStep.yield r)) (TP X pins σ Q) X.xe s
noncomputable def tYes:TT:=fun _ H Q=>Q true H
theorem pts_nil {X:Cx}:PTs X [] tYes:=fun _ _ _ H _ I h=>wpAny_tests_nil ⟨H,I,h⟩
theorem pts_one {X:Cx} {c:Expr} {t:TT} (h:PT X c t):PTs X [c] t:=fun pins s σ H Q I q=>wpAny_tests_one (h pins s σ H Q I q)
theorem uY {prog:Program} {w:World} {A:Around} {R:Result->Shared->Prop} {s:Shared} {elt tg iter:Expr} {ifs:List Expr} {scope:Scope} {pos:Pos} {it acc:Value} {env:Env} (J:Nat->Shared->Prop)
  (turn:∀n s,J n s->wpAny (model prog w) A (pyNext it) (fun r s1=>match r with
   |none=>R (.ok .next) s1
   |some v=>wpAny (model prog w) A (letOwnedTupleGo tg it v) (fun _ s1'=>wpAny (model prog w) A (assign tg env v) (fun _ s2=>
     wpAny (model prog w) A (forIn ifs true fun c r=>if r=true then do let ok <- isTrue c env (eval c env);pure (ForInStep.yield ok) else pure (ForInStep.yield r)) (fun ok s3=>
      if ok=true then wpAny (model prog w) A (eval elt env) (fun x s4=>wpAny (model prog w) A (call (.builtin "list.append") [acc,x]) (fun _ s5=>∃m,m<n/\J m s5) (fun _ _=>False) s4) (fun _ _=>False) s3
      else ∃m,m<n/\J m s3) (fun _ _=>False) s2) (fun _ _=>False) s1') (fun _ _=>False) s1) (fun _ _=>False) s)
  (n:Nat) (h:J n s):codeAny (model prog w) A (.compLoop (.ListComp elt [⟨tg,iter,ifs,0⟩] scope pos) 0 it acc env) R s:=by
 refine codeAny_loop rfl J (fun n s hJ=>?_) n h
 show wpAny _ A ((compTurn (.ListComp elt [⟨tg,iter,ifs,0⟩] scope pos) 0 it acc env).onRaise (fun x=>do noteFrame x env;theTreesLotGoes x)) _ _ s
 refine wpAny_noted ?_
 rw [compTurn_list]
 refine wpAny_bind (wpAny_standAt (wpAny_bind (wpAny_mono (turn n s hJ) (fun r s1 h1=>?_) fun _ _ z=>z.elim)))
 cases r with
 |none=>exact wpAny_pure h1
 |some v=>
  refine wpAny_bind (wpAny_mono h1 (fun _ s1' h1'=>?_) fun _ _ z=>z.elim)
  refine wpAny_bind (wpAny_mono h1' (fun _ s2 h2=>wpAny_bind (wpAny_mono h2 (fun ok s3 h3=>?_) fun _ _ z=>z.elim)) fun _ _ z=>z.elim)
  cases ok with
  |false=>exact wpAny_pure ⟨rfl,h3⟩
  |true=>
   exact wpAny_bind (wpAny_bind (wpAny_mono h3 (fun x s4 h4=>wpAny_bind (wpAny_mono h4 (fun _ s5 h5=>wpAny_pure (wpAny_pure ⟨rfl,h5⟩)) fun _ _ z=>z.elim)) fun _ _ z=>z.elim))
noncomputable def qj (J:It) (ix:List (Option Nat)) (g:TG) (tt:TT) (te:TE) (σ:St) (F:List V->Hp->Prop) (H:Hp):Prop:=
 ∃W:Nat->Nat->List V->Hp->Prop,(∃m,W 0 m [] H)/\∀i m ys H,W i m ys H ->
  (J.stop i H/\ys.length<=sizeLine/\F ys H)\/(J.go i H/\ys.length<=sizeLine/\∃N:List V->Hp->Prop,(∀ys' H',N ys' H'->∃m',m'<m/\W (i+1) m' ys' H') /\
   ∀x H',J.yld i H x H'->g x (inS ix σ) H' fun σ2 H2=>tt σ2 H2 fun b H3=>if b=true then te σ2 H3 fun y H4=>N (ys++[y]) H4 else N ys H3)
section
variable {X:Cx} {pins:List (Addr×Obj)} {σ:St} {H:Hp} {s:Shared} {N':List Str} {sc:Scope} {ix:List (Option Nat)}
theorem Inv.slots0 {X:Cx} {σ':St} (I:Inv X pins σ' H s) (h:∀(i:Nat) v,(inS ix σ)[i]? =some (some v)->σ'[i]? =some (some v)) (hl:(inS ix σ).length=X.N.length):Inv X pins (inS ix σ) H s:=
 I.weak (by rw [hl,I.len]) h
theorem uX {tg elt iter:Expr} {ifs:List Expr} {pos:Pos} {g:TG} {tt:TT} {te:TE} {J:It} {fp:List Addr} {it:Addr} {tn:Nat->Heap->Prop} {F:List V->Hp->Prop} {E:Value->Shared->Prop}
  (hc:X.calm=true) (I:Inv X pins σ H s) (T:Turn X.prog X.w X.K tg J fp it tn) (st:tn 0 s.heap) (hf:∀b∈fp,wN X pins H b) (ok:bE X.N X.env.scope N' sc ix=true) (hk:sc.kind=.function)
  (hg:∀L cs s H fp,PG (bo X N' sc L cs s H fp) tg g) (hkeep:∀x σ' H' (Q:St->Hp->Prop),g x σ' H' Q->g x σ' H' fun σ2 H2=>Q σ2 H2/\∀(i:Nat) v,σ'[i]? =some (some v)->(∃j,ix[i]? =some (some j))->σ2[i]? =some (some v))
  (ht:∀L cs s H fp,PTs (bo X N' sc L cs s H fp) ifs tt) (he:∀L cs s H fp,PE (bo X N' sc L cs s H fp) elt te)
  (tr:qj J ix g tt te σ F H) :
  wpAny (model X.prog X.w) X.A (newList []) (fun acc s3=>wpAny (model X.prog X.w) X.A (newFunctionEnv sc X.env.globals (rR X.env.cells sc.names []) [] X.env.qual none .none (some X.env)) (fun cenv s4=>
   codeAny (model X.prog X.w) X.A (.compStart (.ListComp elt [⟨tg,iter,ifs,0⟩] sc pos) 0 (.ref it) acc {cenv with scope:=relabel sc X.env}) (fun r s'=>(∃fl,r=.ok fl) /\
    ∃(p:Addr) (ys:List V) (H2:Hp),acc=.ref p/\Inv X pins σ (upd H2 p (.lst ys)) s'/\H2 p=none/\F ys H2/\(∃m,s'.heap.Ns cenv.locals m)/\(upd H2 p (.lst ys)) cenv.locals=none/\cenv.locals≠X.env.locals /\
     X.s₀.heap.objs.size<=cenv.locals/\(∀x c,X.env.cells.lookup x=some c->c≠cenv.locals)/\∀q∈X.pn++pins,q.1≠cenv.locals) s4) E s3) E s:=by
 obtain ⟨W,⟨m0,w0⟩,turn⟩:=tr
 refine wpAny_newObj_type (zM fun h1 kp ns hcl=>?_)
 dsimp only at kp ns hcl ⊢
 generalize hH2:s.heap.push {cls:=.type "list",dict:=none,data:=.seq ([]:List Value).toArray}=HH at kp ns hcl ⊢
 have eL:HH.objs.size=s.heap.objs.size+1:=by rw [<- hH2,Heap.size_push]
 have kp0:∀b o,s.heap.get? b=some o->h1.get? b=some o:=fun b o e=>kp b o (hH2▸Heap.get?_push_of_some _ e)
 have hD0:h1.PlainList s.heap.objs.size #[]:=⟨_,kp _ _ (hH2▸Heap.get?_push_size _ rfl)⟩
 have fpo:∀b∈fp,∃o,s.heap.get? b=some o:=fun b z=>let ⟨o,e,_⟩:=T.obj 0 _ st b z;⟨o,e⟩
 have fpl:∀b∈fp,b<s.heap.objs.size:=fun b z=>let ⟨o,e⟩:=fpo b z;Heap.lt_size e
 have sL:s.heap.objs.size<=HH.objs.size:=by rw [eL];exact Nat.le_succ _
 have sL':s.heap.objs.size<HH.objs.size:=by rw [eL];exact Nat.lt_succ_self _
 have I0:=comp_inv (h1:=h1) I hf fpo ok hk sL kp0 ns hcl
 generalize hXX:bo X N' sc HH.objs.size (cellsFrom (HH.objs.size+1) sc.names (rR X.env.cells sc.names [])) s H fp=Y at I0
 have eY1:Y.prog=X.prog:=by subst hXX;rfl
 have eY2:Y.w=X.w:=by subst hXX;rfl
 have eY3:Y.K=X.K:=by subst hXX;rfl
 have eY4:Y.calm=true:=by subst hXX;exact hc
 have eY5:Y.A=X.A:=by subst hXX;rfl
 have eY6:Y.env={scope:=relabel sc X.env,locals:=HH.objs.size,globals:=X.env.globals,cells:=cellsFrom (HH.objs.size+1) sc.names (rR X.env.cells sc.names []),qual:=X.env.qual,func:=none,code:=X.env.code,frame:=X.env.frame,builtins:=X.env.builtins}:=by subst hXX;rfl
 have eY7:Y.xe=fun _ _=>False:=by subst hXX;rfl
 have eY8:Y.pn=[]:=by subst hXX;rfl
 have eY9:Y.fs=frs X.stack:=by subst hXX;rfl
 have eY10:Y.s₀=s:=by subst hXX;rfl
 have eY11:Y.H₀=H:=by subst hXX;rfl
 have eY12:Y.ex=fp:=by subst hXX;rfl
 have eY13:Y.N=N':=by subst hXX;rfl
 have hgY:PG Y tg g:=by subst hXX;exact hg _ _ _ _ _
 have htY:PTs Y ifs tt:=by subst hXX;exact ht _ _ _ _ _
 have heY:PE Y elt te:=by subst hXX;exact he _ _ _ _ _
 have lenI:(inS ix σ).length=Y.N.length:=by rw [eY13];unfold inS;rw [List.length_map];exact bE.len ok
 have cellN:∀(b:Addr),b<=HH.objs.size->(∀x c,X.env.cells.lookup x=some c->c≠b)->∀x c,Y.env.cells.lookup x=some c->c≠b:=fun b hb hx x c e=>by
  rw [eY6] at e
  rcases hcl x c e with q|⟨q,_⟩
  ·exact hx x c (Aw I ok q).2
  ·exact (ye (Nat.lt_of_le_of_lt hb (Nat.lt_succ_self _)) q).symm
 have oldc:∀x c,X.env.cells.lookup x=some c->c<s.heap.objs.size:=fun x c e=>let ⟨v,z⟩:=I.cell x c e;z.lt
 have nfs:∀b,s.heap.objs.size<=b->b∉frs X.stack:=fun b hb z=>by
  rcases List.mem_cons.mp (I.rh b z) with q|q
  ·exact ye I.lt hb q.symm
  ·exact I.nofs hb q
 have fpY:∀(pp:List (Addr×Obj)) (H':Hp),(∀b∈fp,H' b=none)->(∀q∈pp,q.1∉fp)->∀b∈fp,wN Y pp H' b:=fun pp H' hn hq b z=>by
  have hlt:=fpl b z
  refine ⟨hn b z,?_,?_,.inl (by rw [eY12];exact z),cellN b (Nat.le_of_lt (Nat.lt_trans hlt sL')) ((hf b z).2.2.2.2.1),fun q hq' e=>?_⟩
  ·rw [eY6];exact ye hlt sL
  ·rw [eY9];intro hs
   rcases List.mem_cons.mp (I.rh b hs) with q|q
   ·exact (hf b z).2.1 q
   ·exact (hf b z).2.2.1 q
  ·rw [eY8] at hq'
   exact hq q (by simpa using hq') (by rw [e];exact z)
 have Dfp:s.heap.objs.size∉fp:=fun z=>absurd (fpl _ z) (Nat.lt_irrefl _)
 have Dok:∀(pp:List (Addr×Obj)) (H':Hp),H' s.heap.objs.size=none->(∀q∈pp,q.1≠s.heap.objs.size)->wN Y pp H' s.heap.objs.size:=fun pp H' hn hq=>by
  refine ⟨hn,?_,by rw [eY9];exact nfs _ (Nat.le_refl _),.inr (by rw [eY10];exact Nat.le_refl _),cellN _ sL (fun x c e=>Nat.ne_of_lt (oldc x c e)),fun q hq'=>?_⟩
  ·rw [eY6];exact Nat.ne_of_lt sL'
  ·rw [eY8] at hq'
   exact hq q (by simpa using hq')
 have loop:codeAny (model X.prog X.w) X.A (.compLoop (.ListComp elt [⟨tg,iter,ifs,0⟩] sc pos) 0 (.ref it) (.ref s.heap.objs.size) Y.env) (fun r s'=>(∃fl,r=.ok fl) /\
    ∃(p:Addr) (ys:List V) (H2:Hp),Value.ref s.heap.objs.size=.ref p/\Inv X pins σ (upd H2 p (.lst ys)) s'/\H2 p=none/\F ys H2/\(∃m,s'.heap.Ns HH.objs.size m)/\(upd H2 p (.lst ys)) HH.objs.size=none/\HH.objs.size≠X.env.locals /\
     X.s₀.heap.objs.size<=HH.objs.size/\(∀x c,X.env.cells.lookup x=some c->c≠HH.objs.size)/\∀q∈X.pn++pins,q.1≠HH.objs.size) {s with heap:=h1}:=by
  refine uY (fun n s'=>∃i ys its H',Inv Y [] (inS ix σ) H' s'/\tn i s'.heap/\(∀b∈fp,H' b=none)/\H' s.heap.objs.size=none/\s'.heap.PlainList s.heap.objs.size its/\Vals ys its.toList/\W i n ys H') ?_ m0
   ⟨0,[],#[],H,I0,T.keep _ _ _ st fun b _ o e=>kp0 b o e,fun b z=>(hf b z).1,I.hok.fresh (Nat.le_refl _),hD0,.nil,w0⟩
  rintro n s3 ⟨i,ys,its,H3,I3,st3,fr3,hD3,pl3,vs3,w3⟩
  obtain ⟨nD,oD⟩:=pl3
  have hpD:∀q∈[((s.heap.objs.size:Addr),({cls:=.type "list",data:=.seq its nD}:Obj))],q.1∉fp:=fun q hq=>by
   have:q=_:=List.mem_singleton.mp hq
   rw [this];exact Dfp
  have I3':Inv Y [((s.heap.objs.size:Addr),({cls:=.type "list",data:=.seq its nD}:Obj))] (inS ix σ) H3 s3:=I3.sC fun q hq=>by
   have e:q=_:=List.mem_singleton.mp hq
   obtain ⟨d0,d1,d2,_⟩:=Dok [] H3 hD3 (fun _ z=>nomatch z)
   rw [e]
   exact ⟨oD,d0,d1,d2,fun v z=>by cases z⟩
  rcases turn i n ys H3 w3 with ⟨stop,ln,qn⟩|⟨go,ln,NN,hNN,step⟩
  ·have h1:=T.done Y eY1 eY2 eY3 eY4 i _ s3 _ H3 (fun _ _=>False) I3' (fpY _ H3 fr3 hpD) st3 stop
   rw [eY5] at h1
   refine wpAny_mono h1 (fun r s4 ⟨hr,I4⟩=>?_) fun _ _ z=>z
   subst hr
   obtain ⟨oD4,hD4,_⟩:=I4.pin ((s.heap.objs.size:Addr),({cls:=.type "list",data:=.seq its nD}:Obj)) (by rw [eY8];simp)
   refine ⟨⟨_,rfl⟩,s.heap.objs.size,ys,H3,rfl,?_,hD3,qn,?_,?_,?_,?_,?_,?_⟩
   ·have ub:Un (frs X.stack) fp H H3 s.heap s4.heap:=by
     have:=I4.base
     rw [eY9,eY10,eY11,eY12] at this
     exact this
    have hok4:HOk X.prog X.w H3 s4.heap:=by
     have:=I4.hok
     rw [eY1,eY2] at this
     exact this
    refine I.call' (ch:=fp) (by have:=I4.os;rw [eY10] at this;exact this) ⟨ub.keep,ub.slot,fun b o e nn hx=>?_,ub.there,fun b xs q=>?_,fun b o u q=>?_,fun b ps q=>?_⟩ (fun b u e=>?_) I4.bare (fun b hb=>?_)
    ·rw [ar (Nat.ne_of_lt (Heap.lt_size e))];exact ub.free b o e nn hx
    ·rw [ar (aM (ub.tups b xs q) hD3)];exact ub.tups b xs q
    ·rw [ar (aM (ub.frzs b o u q) hD3)];exact ub.frzs b o u q
    ·obtain ⟨more,z⟩:=ub.tbls b ps q
     exact ⟨more,by rw [ar (aM z hD3)];exact z⟩
    ·by_cases hb:b=s.heap.objs.size
     ·subst hb
      rw [ao] at e
      cases e
      exact ⟨ln,its.toList,nD,vs3,by simpa using oD4⟩
     ·rw [ar hb] at e
      exact (hok4 b u e).vH (fun _ _ _ q=>q) (fun c q=>by rw [ar (aM q hD3)];exact q) fun c xs q=>by rw [ar (aM q hD3)];exact q
    ·obtain ⟨f0,f1,f2,f3,f4,f5⟩:=hf b hb
     exact ⟨f3,f1,f4,f5⟩
   ·obtain ⟨m,hn,_⟩:=I4.loc
    rw [eY6] at hn
    exact ⟨m,hn⟩
   ·rw [ar (Nat.ne_of_gt sL')]
    have:=I4.free
    rw [eY6] at this
    exact this
   ·exact Nat.ne_of_gt (Nat.lt_trans I.lt sL')
   ·exact Nat.le_trans I.sz sL
   ·exact fun x c e=>ye (oldc x c e) sL
   ·exact fun q hq=>ye (Heap.lt_size (I.pin q hq).1) sL
  ·have h1:=T.item Y eY1 eY2 eY3 eY4 i _ s3 _ H3 (fun _ _=>False) I3' (fpY _ H3 fr3 hpD) st3 go
   rw [eY5] at h1
   refine wpAny_mono h1 (fun r s4 ⟨u,hr,h4⟩=>?_) fun _ _ z=>z
   subst hr
   refine wpAny_mono h4 (fun _ s5 ⟨x,H5,I5,r5,y5,st5,fr5⟩=>?_) fun _ _ z=>z
   have I5':=I5.pinned (fpY _ H5 fr5 hpD) (T.obj _ _ st5)
   have h5:=hgY _ s5 _ H5 x u _ I5' r5 (hkeep x _ H5 _ (step x H5 y5))
   rw [eY1,eY2,eY5,eY7] at h5
   refine wpAny_mono h5 (fun _ s6 ⟨σ6,H6,I6,q6,k6⟩=>?_) fun _ _ z=>z
   have h6:=htY _ s6 σ6 H6 _ I6 q6
   rw [eY1,eY2,eY5,eY7] at h6
   refine wpAny_mono h6 (fun b s7 ⟨H7,I7,q7⟩=>?_) fun _ _ z=>z
   have back:∀{s8:Shared} {H8:Hp},Inv Y ([((s.heap.objs.size:Addr),({cls:=.type "list",data:=.seq its nD}:Obj))]++uj fp s5.heap) σ6 H8 s8->Inv Y [] (inS ix σ) H8 s8/\tn (i+1) s8.heap/\(∀b∈fp,H8 b=none)/\H8 s.heap.objs.size=none/\s8.heap.get? s.heap.objs.size=some {cls:=.type "list",data:=.seq its nD}:=fun {s8 H8} I8=>by
    obtain ⟨a1,a2,_⟩:=I8.pin ((s.heap.objs.size:Addr),({cls:=.type "list",data:=.seq its nD}:Obj)) (by rw [eY8];simp)
    refine ⟨(I8.sC (pins':=[]) fun _ z=>nomatch z).slots0 (fun k v e=>?_) lenI,T.keep _ _ _ st5 fun b hb o e=>(I8.pin (b,o) (List.mem_append_right _ (List.mem_append_right _ (mz hb e)))).1,fun b hb=>?_,a2,a1⟩
    ·refine k6 k v e ?_
     unfold inS at e
     rw [List.getElem?_map] at e
     cases e2:ix[k]? with
     |none=>rw [e2] at e;cases e
     |some o=>
      cases o with
      |none=>rw [e2] at e;cases e
      |some j=>exact ⟨j,rfl⟩
    ·obtain ⟨o,e,d⟩:=T.obj _ _ st5 b hb
     exact (I8.pin (b,o) (List.mem_append_right _ (List.mem_append_right _ (mz hb e)))).2.1
   cases b with
   |false=>
    rw [if_neg Bool.false_ne_true] at q7 ⊢
    obtain ⟨m',hm,w7⟩:=hNN _ _ q7
    obtain ⟨b1,b2,b3,b4,b5⟩:=back I7
    exact ⟨m',hm,i+1,ys,its,H7,b1,b2,b3,b4,⟨nD,b5⟩,vs3,w7⟩
   |true=>
    rw [if_pos rfl] at q7 ⊢
    have h7:=heY _ s7 σ6 H7 _ I7 q7
    rw [eY1,eY2,eY5,eY7,eY6] at h7
    rw [eY6]
    refine wpAny_mono h7 (fun uu s8 ⟨y,H8,I8,r8,q8⟩=>?_) fun _ _ z=>z
    obtain ⟨m',hm,w8⟩:=hNN _ _ q8
    obtain ⟨b1,b2,b3,b4,b5⟩:=back I8
    have ez:its.size<=sizeLine:=by
     have h1:=vs3.length
     have h2:its.toList.length=its.size:=by simp
     omega
    refine wpAny_list_append_plain (hsz:=ez) ⟨nD,b5⟩ fun h9 pl9 sb9=>?_
    obtain ⟨d0,d1,d2,d3,d4,d5⟩:=Dok [] H8 b4 (fun _ z=>nomatch z)
    refine ⟨m',hm,i+1,ys++[y],its.push uu,H8,b1.turned (t':=s8.toks) (fun b o hb e=>(sb9.2 b hb).trans e) d0 d1 d3 d4 d5,T.keep _ _ _ b2 fun b hb o e=>(sb9.2 b ?_).trans e,b3,b4,pl9,?_,w8⟩
    ·exact ye (fpl b hb) (Nat.le_refl _)
    ·rw [Array.toList_push]
     exact vs3.append (.cons r8 .nil)
 rw [eY6] at loop
 exact codeAny_compStart_list loop (T.self X.A 0 _ _ _ (T.keep _ _ _ st fun b _ o e=>kp0 b o e) loop)
end
noncomputable def tComp (wi:TI) (ix:List (Option Nat)) (g:TG) (tt:TT) (te:TE):TE:=fun σ H Q=>wi σ H fun J H1=>qj J ix g tt te σ (fun ys H2=>∀p,H2 p=none->Q (.ref p) (upd H2 p (.lst ys))) H1
noncomputable def qr (ix:List (Option Nat)) (g:TG):Prop:=∀x σ' H' (Q:St->Hp->Prop),g x σ' H' Q->g x σ' H' fun σ2 H2=>Q σ2 H2/\∀(i:Nat) v,σ'[i]? =some (some v)->(∃j,ix[i]? =some (some j))->σ2[i]? =some (some v)
theorem cS {ix:List (Option Nat)} {k:Nat} (h:ix[k]? =some none):qr ix (pZ k):=fun x σ' H' Q q=>⟨q,fun i v e ⟨j,hj⟩=>by
 have:k≠i:=by rintro rfl;rw [h] at hj;cases hj
 rw [List.getElem?_set_ne this];exact e⟩
section
variable {X:Cx} {N':List Str} {sc:Scope} {ix:List (Option Nat)} {tg elt iter:Expr} {ifs:List Expr} {pos spos py:Pos} {wi:TI} {g:TG} {tt:TT} {te:TE}
theorem pe_comp (N':List Str) (ix:List (Option Nat)) (hc:X.calm=true) (hi:PI X tg iter wi) (hg:∀L cs s H fp,PG (bo X N' sc L cs s H fp) tg g) (hl:qr ix g)
  (ht:∀L cs s H fp,PTs (bo X N' sc L cs s H fp) ifs tt) (he:∀L cs s H fp,PE (bo X N' sc L cs s H fp) elt te)
  (ok:bE X.N X.env.scope N' sc ix=true:=by rfl) (hk:sc.kind=.function:=by rfl) (hs:∀x,foldedSetIterable iter X.env x=pure x:=by intro _;rfl) :
  PE X (.ListComp elt [⟨tg,iter,ifs,0⟩] sc pos) (tComp wi ix g tt te):=by
 intro pins s σ H Q I h
 rw [eval_ListComp]
 refine wpAny_comprehension_free (use:=none) rfl hs (rP (qi I ok)) hk (bE.loc ok) (thn (hi pins s σ H _ I h) fun v s1 h1=>thn h1 fun itv s2 h2=>?_)
 obtain ⟨it,fp,tn,J,H2,e,I2,T,st2,f2,tr⟩:=h2
 subst e
 refine thn (uX hc I2 T st2 f2 ok hk hg hl ht he tr) fun acc s3 h3=>thn h3 fun cenv s4 h4=>codeAny_mono h4 fun r s5 hr=>?_
 obtain ⟨⟨fl,e1⟩,p,ys,H5,e2,I5,hp,q,⟨m,hn⟩,c0,c1,c2,c3,c4⟩:=hr
 subst e1
 subst e2
 exact ⟨m,hn,fun h' sb=>⟨.ref p,_,I5.turned (t':=s5.toks) (fun b o hb e=>(sb.2 b hb).trans e) c0 c1 (.inr c2) c3 c4,rfl,q p hp⟩⟩
noncomputable def tSetComp (j:Nat) (wi:TI) (ix:List (Option Nat)) (g:TG) (tt:TT) (te:TE):TS:=fun D σ H=>wi σ H fun J H1=>qj J ix g tt te σ (fun ys H2=>∀p,H2 p=none->D.nx (σ.set j (some (.ref p))) (upd H2 p (.lst ys))) H1
theorem rq (N':List Str) (ix:List (Option Nat)) {j:Nat} {y:Str} (hN:X.N.Nodup) (hj:X.N[j]? =some y) (hy:X.env.scope.names.lookup y=some .local) (hc:X.calm=true) (hi:PI X tg iter wi) (hg:∀L cs s H fp,PG (bo X N' sc L cs s H fp) tg g) (hl:qr ix g)
  (ht:∀L cs s H fp,PTs (bo X N' sc L cs s H fp) ifs tt) (he:∀L cs s H fp,PE (bo X N' sc L cs s H fp) elt te)
  (hsw:swapsWith (.ListComp elt [⟨tg,iter,ifs,0⟩] sc pos) (some (.Name y py)) spos.line X.env=pure true:=by rfl)
  (ok:bE X.N X.env.scope N' sc ix=true:=by rfl) (hk:sc.kind=.function:=by rfl) (hs:∀x,foldedSetIterable iter X.env x=pure x:=by intro _;rfl) :
  PS X (.Assign [.Name y py] (.ListComp elt [⟨tg,iter,ifs,0⟩] sc pos) spos) (tSetComp j wi ix g tt te):=by
 intro pins s σ H D I h
 rw [exec_Assign_Name_used _ _ _ _ hsw]
 refine wpAny_bind (wpAny_standAt (wpAny_bind ?_))
 show wpAny _ X.A (do let _ <- comprehension (.ListComp elt [⟨tg,iter,ifs,0⟩] sc pos) sc X.env _ (newList []) false (eval iter X.env) (some (assign (.Name y py) X.env))) _ _ s
 refine wpAny_bind (wpAny_mono (wpAny_comprehension_free (use:=some (assign (.Name y py) X.env)) (Q:=fun _ s'=>SP X pins D .next s') rfl hs (rP (qi I ok)) hk (bE.loc ok) (thn (hi pins s σ H _ I h) fun v s1 h1=>thn h1 fun itv s2 h2=>?_)) (fun _ s' hq=>wpAny_pure (wpAny_pure hq)) fun _ _ z=>z)
 obtain ⟨it,fp,tn,J,H2,e,I2,T,st2,f2,tr⟩:=h2
 subst e
 refine thn (uX hc I2 T st2 f2 ok hk hg hl ht he tr) fun acc s3 h3=>thn h3 fun cenv s4 h4=>codeAny_mono h4 fun r s5 hr=>?_
 obtain ⟨⟨fl,e1⟩,p,ys,H5,e2,I5,hp,q,⟨m,hn⟩,c0,c1,c2,c3,c4⟩:=hr
 subst e1
 subst e2
 show wpAny _ X.A (assign (.Name y py) X.env (.ref p)) _ _ s5
 refine wpAny_assign_Name (u6 (v:=.ref p) I5 hN hj (.inl hy) rfl (fun s6 I6 ⟨a,sb,ha⟩=>?_) (.inr hy))
 have ea:cenv.locals≠a:=by
  rcases ha with z|z
  ·rw [z];exact c1
  ·exact fun e=>c3 y a z e.symm
 refine ⟨m,hn.sameBut sb ea,fun h' sb'=>?_⟩
 exact ⟨_,_,I6.turned (t':=s6.toks) (fun b o hb e=>(sb'.2 b hb).trans e) c0 c1 (.inr c2) c3 c4,q p hp⟩
end
end L2
namespace L2
open PySem PySem.Spec PyProof.Rows
section
variable {X:Cx}
theorem xF:∀{bs:List Bool} {us:List Value},Vals (bs.map V.bl) us->LSm.BoolsAre us bs
 |[],_,.nil=>.nil
 |b::r,_,.cons e t=>by cases e;exact .cons b (xF t)
theorem call_all (hc:X.calm=true):dS X (.builtin "all") (fun xs H Q=>∃(a:Addr) (bs:List Bool),xs=[.ref a]/\SqL X.K H a (bs.map V.bl)/\Q (.bl (bs.all id)) H):=by
 intro pins s σ H xs us Q I r h
 obtain ⟨a,bs,rfl,hq,q⟩:=h
 obtain ⟨u,rfl,ru⟩:=r.one
 cases ru
 obtain ⟨its,rv,p,hz⟩:=I.list hq
 have hb:=xF rv
 have hl:=p.isList
 have hlt:a<s.heap.objs.size:=by obtain ⟨_,e,_⟩:=hl;exact Heap.lt_size e
 refine call_all_walk (wpAny_pyIter_list hl ?_)
 refine ⟨s.heap.objs.size,[s.heap.objs.size,a],[s.heap.objs.size],its.toArray.size,_,_,fun i=>(bs[i]?).getD true,rfl,Walks.list (A:=X.A.in1) (I.ok.hd hc) _ a (Nat.ne_of_lt hlt) its.toArray,
  ⟨⟨_,Heap.get?_push_size _ rfl,rfl,rfl⟩,hl.push _⟩,fun i v s' Q' E' hP hQ=>?_,fun h' tk hk=>?_⟩
 ·obtain ⟨b,e,rfl⟩:=hb.get i v (by simpa using hP)
  simp only [e,Option.getD_some] at hQ
  exact wpAny_truthy_bool hQ
 ·have e:((List.range its.toArray.size).all fun i=>(bs[i]?).getD true)=bs.all id:=by
   rw [List.size_toArray,hb.length];exact LSm.range_all bs
  rw [e]
  exact ⟨.bl (bs.all id),H,I.kept (LSm.kept_iter hk),rfl,q⟩
noncomputable def clsV:V->Option Value
 |.ty n=>some (.type n)
 |.ref a=>some (.ref a)
 |_=>none
theorem clsV_is {y:V} {c u:Value} (h:clsV y=some c) (r:RelV y u):u=c:=by
 cases y with
 |ty n=>cases r;exact Option.some.inj h
 |ref a=>cases r;exact Option.some.inj h
 |_=>cases h
theorem call_isi:dS X (.builtin "isinstance") (fun xs H Q=>∃x y c t b,xs=[x,y]/\clsV y=some c/\xI X.K H x t/\kitOne X.K t c=some b/\Q (.bl b) H):=by
 intro pins s σ H xs us Q I r h
 obtain ⟨x,y,c,t,b,rfl,hc,ty,e,q⟩:=h
 obtain ⟨u,v,rfl,ru,rv⟩:=r.two
 have ev:=clsV_is hc rv
 subst ev
 exact A0 I ru ty e fun tk=>⟨.bl b,H,I.tok tk,rfl,q⟩
inductive EqV (K:PySem.W.Frag) (H:Hp):Nat->V->V->Bool->Prop where
 |flat {n:Nat} {x y:V} (hx:flatV x=true) (hy:flatV y=true):EqV K H n x y (eqV x y)
 |same {n:Nat} {a:Addr}:EqV K H n (.ref a) (.ref a) true
 |lists {n:Nat} {a b:Addr} {xs ys:List V} {e:Nat->Bool} (ha:SqL K H a xs) (hb:SqL K H b ys) (hl:xs.length=ys.length) (ne:a≠b)
   (he:∀j x y,xs[j]? =some x->ys[j]? =some y->EqV K H n x y (e j)):EqV K H (n+1) (.ref a) (.ref b) ((List.range xs.length).all e)
 |listsL {n:Nat} {a b:Addr} {xs ys:List V} (ha:SqL K H a xs) (hb:SqL K H b ys) (hl:xs.length≠ys.length) (ne:a≠b):EqV K H (n+1) (.ref a) (.ref b) false
 |tups {n:Nat} {a b:Addr} {xs ys:List V} {e:Nat->Bool} (ha:SqT K H a xs) (hb:SqT K H b ys) (ne:a≠b)
   (he:∀j x y,xs[j]? =some x->ys[j]? =some y->EqV K H n x y (e j)):EqV K H (n+1) (.ref a) (.ref b) ((List.range (min xs.length ys.length)).all e&&xs.length==ys.length)
theorem Vals.atA {xs:List V} {us:List Value} (r:Vals xs us) {j:Nat} (h:j<us.toArray.size):∃x,xs[j]? =some x/\RelV x us.toArray[j]:=by
 have hl:=r.length
 have hj:j<xs.length:=by rw [hl];simpa using h
 obtain ⟨u,e1,e2⟩:=r.get (i:=j) (x:=xs[j]) (by simp [hj])
 refine ⟨xs[j],by simp [hj],?_⟩
 have:us.toArray[j]=u:=by
  have h':j<us.length:=by simpa using h
  rw [List.getElem?_eq_getElem h'] at e1
  simpa using Option.some.inj e1
 rw [this];exact e2
end
end L2
namespace L2
open PySem PySem.Spec PyProof.Rows
section
variable {X:Cx} {x:Str} {pos:Pos}
theorem zx {T:String} (hg:Gl X x) (hm:X.mg x=none) (hv:bootBuiltins x=some (.type T)) (hn:x≠"__name__":=by decide) (hd:(x==("__debug__":Str))=false:=by decide):PE X (.Name x pos) (tC (.ty T)):=pe_bltn (v:=.ty T) hg hm hv rfl hn hd
theorem pe_gint {n:Int} (hg:Gl X x) (hm:∃t,X.mg x=some (.int n t)) (hd:(x==("__debug__":Str))=false:=by decide):PE X (.Name x pos) (tC (.int n)):=by
 obtain ⟨t,e⟩:=hm
 exact pe_glob (v:=.int n) hg e ⟨t,rfl⟩ hd
end
section
variable {P:Program} {w:World} {K:PySem.W.Frag} {mg:Str->Option Value} {base:Heap} {CX:CXT}
theorem Fun.okX {x qual:Str} {st:Stmt} {f:Addr} {fd:FuncData} {N ps:List Str} {k:Nat} {sp:Sp} (F:Fun K x qual st f fd) (S:aF N ps (aq st)) (len:∀vs H Q E,sp vs H Q E->vs.length=ps.length)
  (hbody:∀(cdv:Value) (A:Around) (outer:List Env) (s:Shared) (H:Hp) (vs:List V) (Q:VK) (E:XK),l5 k (A.deeper (envOfC qual (aq st) s.heap.objs.size f cdv))->sp vs H Q E ->
   ∃t,PSs (yz CX P w K mg base N qual (aq st) f cdv A outer s H E).nox (cv st) t/\t {nx:=fun _ H'=>Q .non H',rt:=Q} (start N vs) H):cD P w K mg base CX (k+1) f fd ps sp:=by
 obtain ⟨oc,od,kV,doc,pm,an,cdv,ct,osl,rfl,lk,hcd⟩:=F.ex
 refine fn_of lk hcd S len fun A outer s H vs Q E hr hsp=>?_
 obtain ⟨t,h,q⟩:=hbody cdv A outer s H vs Q E hr hsp
 exact ⟨t,h.nox,q⟩
structure Def (K:PySem.W.Frag) (mg:Str->Option Value) (x:Str) (st:Stmt) (ps:List Str) (f:Addr) (fd:FuncData):Prop where
 fn:Fun K x x st f fd
 mg:mg x=some (.ref f)
 bd:Binds K fd ps []
theorem bJ {h:Heap} (KX:K.In h) (G:h.Ns mainGlobals mg) {x:Str} {st:Stmt} {ps:List Str} {f:Addr} {oc:Value} {od an:Option Addr} {osl:Array (Option Value)} {kV doc pm cdv ct:Value}
  (a:nsIn K mainGlobals x=some (some (.ref f))) (l:K.lookup f=some ⟨oc,od,.func (fnOf x x (dk st) (cv st) (aq st) .none kV doc pm an cdv ct),osl⟩) (c:codeIn K cdv x=true) (k:keepIn K (.ref f)=true)
  (hb:∀(kV doc pm:Value) (an:Option Addr) (cdv ct:Value) (us:List Value),us.length=ps.length->bindArgs (fnOf x x (dk st) (cv st) (aq st) .none kV doc pm an cdv ct) ⟨us,[]⟩=pure (ps.zip us)) :
  Def K mg x st ps f (fnOf x x (dk st) (cv st) (aq st) .none kV doc pm an cdv ct):=
 ⟨xp l c k,mg_of KX G a,(xp l c k).binds hb⟩
structure Mth (K:PySem.W.Frag) (C:Addr) (x qual:Str) (st:Stmt) (ps:List Str) (f:Addr) (fd:FuncData):Prop where
 fn:Fun K x qual st f fd
 mt:Meth K C x f
 bd:Binds K fd ps []
theorem uC {C:Addr} {x qual:Str} {st:Stmt} {ps:List Str} {f:Addr} {oc:Value} {od an:Option Addr} {osl:Array (Option Value)} {kV doc pm cdv ct:Value}
  (a:PySem.W.findIn K (.ref C) x=some (some (.ref f))) (i:PySem.W.isFn K (.ref f)=true) (l:K.lookup f=some ⟨oc,od,.func (fnOf x qual (dk st) (cv st) (aq st) .none kV doc pm an cdv ct),osl⟩) (c:codeIn K cdv qual=true) (k:keepIn K (.ref f)=true)
  (hb:∀(kV doc pm:Value) (an:Option Addr) (cdv ct:Value) (us:List Value),us.length=ps.length->bindArgs (fnOf x qual (dk st) (cv st) (aq st) .none kV doc pm an cdv ct) ⟨us,[]⟩=pure (ps.zip us)) :
  Mth K C x qual st ps f (fnOf x qual (dk st) (cv st) (aq st) .none kV doc pm an cdv ct):=
 ⟨xp l c k,⟨a,i,k⟩,(xp l c k).binds hb⟩
structure Kls (K:PySem.W.Frag) (mg:Str->Option Value) (x:Str) (C:Addr):Prop where
 cl:Cls K C
 mg:mg x=some (.ref C)
 mks:PySem.W.makesIn K C=true
 kp:keepIn K (.ref C)=true
 c1:PySem.W.findIn K (.ref C) "__class__"=some (some (.builtin "object.__class__"))
 c2:specialIn K (.builtin "object.__class__") "__get__"=some (some (.builtin "getset_descriptor.__get__"))
 c3:takesIn K (.builtin "object.__class__")=some true
 c4:PySem.W.mroIn K C (.type "object")=some true
theorem kls_of {h:Heap} (KX:K.In h) (G:h.Ns mainGlobals mg) {x:Str} {C:Addr} (a:nsIn K mainGlobals x=some (some (.ref C)))
  (pg:PySem.W.plainGet K C Str.empty=true) (hd:PySem.W.hasDictIn K C=true) (po:plainOver K C=true) (sa:PySem.W.findIn K (.ref C) "__setattr__"=some (some (.builtin "object.__setattr__"))) (mk:PySem.W.makesIn K C=true) (kp:keepIn K (.ref C)=true)
  (c1:PySem.W.findIn K (.ref C) "__class__"=some (some (.builtin "object.__class__"))) (c2:specialIn K (.builtin "object.__class__") "__get__"=some (some (.builtin "getset_descriptor.__get__")))
  (c3:takesIn K (.builtin "object.__class__")=some true) (c4:PySem.W.mroIn K C (.type "object")=some true):Kls K mg x C:=
 ⟨⟨pg,hd,po,sa⟩,mg_of KX G a,mk,kp,c1,c2,c3,c4⟩
end
section
variable {X:Cx} {K:PySem.W.Frag}
theorem call_isiK (hK:X.K=K:=by rfl):dS X (.builtin "isinstance") (fun xs H Q=>∃x y c t b,xs=[x,y]/\clsV y=some c/\xI K H x t/\kitOne K t c=some b/\Q (.bl b) H):=by subst hK;exact call_isi
theorem pg_c {N':List Str} {sc:Scope} {L:Addr} {cs:List (Str×Addr)} {s:Shared} {H:Hp} {fp:List Addr} {pos:Pos} {i:Nat} {x:Str} (hN:N'.Nodup) (hi:N'[i]? =some x) (hx:Loc (bo X N' sc L cs s H fp).env.scope x)
  (hf:(bo X N' sc L cs s H fp).fn x=true\/(bo X N' sc L cs s H fp).env.scope.names.lookup x=some .local:=by first|exact .inl rfl|exact .inr rfl|assumption):PG (bo X N' sc L cs s H fp) (.Name x pos) (pZ i):=vQ hN hi hx hf
end
structure Grid (H:Hp) (a:Addr) (as:List Addr) (rows:List (List Int)):Prop where
 top:H a=some (.lst (as.map V.ref))
 len:as.length=rows.length
 row:∀(i:Nat) (b:Addr) (r:List Int),as[i]? =some b->rows[i]? =some r->H b=some (.lst (r.map V.int))
theorem aU.upd {H:Hp} {a:Addr} {o:HO} (h:H a=none):aU H (upd H a o):=fun b u e=>by rw [ar (aM e h)];exact e
end L2
namespace L2
open PySem PySem.Spec PyProof.Rows
section
variable {X:Cx} {CX:CXT} {k:Nat} {f C:Addr} {fd:FuncData} {ps:List Str} {sp:Sp} {dvs:List V} {ds:List Value} {E:XK} {x m:Str} {p pos apos:Pos} {e:Expr} {es:List Expr} {t:TA} {mc:Value}
structure Stat (K:PySem.W.Frag) (C:Addr) (mc:Value) (m:Str) (f:Addr):Prop where
 s1:specialIn K (.ref C) "__getattribute__"=some (some (.builtin "type.__getattribute__"))
 s2:PySem.W.readsIn K C mc=true
 s3:PySem.W.findCls K (.ref C) mc m=some (.val (.ref f))
 s4:keepIn K (.ref f)=true
theorem pe_cmeth {pl:Sem Bool} (S:Stat X.K C mc m f) (hg:Gl X x) (hm:X.mg x=some (.ref C)) (F:cD X.prog X.w X.K X.mg X.base CX k f fd ps sp) (hr:l5 k X.A) (hb:Binds X.K fd ps ds) (hd:Vals dvs ds) (hx:Passes CX X E) (ha:PA X (e::es) t)
  (hdb:(x==("__debug__":Str))=false:=by decide)
  (hst:starEach (e::es) X.env=(false,eval e X.env)::starEach es X.env:=by rfl) (hpl:(backTo pos (starEach es X.env)).any (·.1)=false:=by rfl)
  (ht:eval (.Call (.Attribute (.Name x p) m apos) (e::es) [] pos) X.env=(do
   let ov <- eval (.Name x p) X.env
   standAt apos.atName
   let (f,first) <- holding [ov] (getMethod ov m pl)
   callWith pos f first (backTo pos (starEach (e::es) X.env)) (backToKw pos (keywordEach [] X.env))):=by rfl) :
  PE X (.Call (.Attribute (.Name x p) m apos) (e::es) [] pos) (tCall sp dvs E t):=by
 intro pins s σ H Q I h
 refine PySem.W.methodCall_KW (pl:=pl) (kn I hg hm ?_ hdb) ht
 refine PySem.W.method_cls I.kIn S.s1 (PySem.W.cls_value I.kIn S.s2 S.s3 rfl ?_)
 refine callWith_K (first:=[]) (h₀:=X.base) I.ok.mod.kin S.s4 (thn (ha pos pins _ σ H _ (I.tok (s.toks+1)) h) fun us s2 ⟨vs,H2,I2,r,q2⟩=>⟨I2.kIn,?_⟩) hst hpl
 exact yZ (us:=us) (vs:=vs) F hr hb hd hx I2 r q2
end
noncomputable def Keeps (S:Addr->Prop) (H H':Hp):Prop:=∀b o,H b=some o->¬S b->H' b=some o
theorem Keeps.refl (S:Addr->Prop) (H:Hp):Keeps S H H:=fun _ _ e _=>e
theorem Grid.keeps {S:Addr->Prop} {H H':Hp} {a:Addr} {as:List Addr} {rows:List (List Int)} (g:Grid H a as rows) (k:Keeps S H H') (h1:¬S a) (h2:∀x∈as,¬S x):Grid H' a as rows:=
 ⟨k _ _ g.top h1,g.len,fun i b r e1 e2=>k _ _ (g.row i b r e1 e2) (h2 b (List.mem_of_getElem? e1))⟩
end L2
namespace L2
open PySem PySem.Spec PyProof.Rows
section
variable {X:Cx} {a b c d:Expr} {ta tb tc td:TE} {pos:Pos}
theorem aU.tup {K:PySem.W.Frag} {H H':Hp} {a:Addr} {xs:List V} (e:aU H H') (h:SqT K H a xs):SqT K H' a xs:=by
 rcases h with (h|⟨o,h⟩)|h
 ·exact .inl (.inl (e _ _ h))
 ·exact .inl (.inr ⟨o,e _ _ h⟩)
 ·exact .inr h
end
end L2
namespace L2
open PySem PySem.Spec PyProof.Rows
theorem wX {K:PySem.W.Frag} {a:Addr} {H:Hp} {xs:List V} (h:H a=some (.lst xs)):tyV K "list" (.ref a) H:=.inl ⟨rfl,_,SqL.of h⟩
inductive Dat where
 |non|bl (b:Bool)|int (i:Int)|str (x:Str)|tup (ds:List Dat)|lst (ds:List Dat)|ins (C:Addr) (fs:List (Str×Dat))
mutual
noncomputable def cf (K:PySem.W.Frag) (F:Hp):Dat->V->Prop
 |.non,v=>v=.non
 |.bl b,v=>v=.bl b
 |.int i,v=>v=.int i
 |.str x,v=>v=.str x
 |.tup ds,v=>∃a xs,v=.ref a/\SqT K F a xs/\ax K F ds xs
 |.lst ds,v=>∃a xs,v=.ref a/\SqL K F a xs/\ax K F ds xs
 |.ins C gs,v=>∃a dx fs,v=.ref a/\F a=some (.ins C dx fs)/\oj K F gs fs
noncomputable def ax (K:PySem.W.Frag) (F:Hp):List Dat->List V->Prop
 |[],xs=>xs=[]
 |d::ds,xs=>∃v vs,xs=v::vs/\cf K F d v/\ax K F ds vs
noncomputable def oj (K:PySem.W.Frag) (F:Hp):List (Str×Dat)->List (Str×V)->Prop
 |[],fs=>fs=[]
 |(f,d)::gs,fs=>∃v r,fs=(f,v)::r/\cf K F d v/\oj K F gs r
end
mutual
noncomputable def md:Dat->Bool
 |.tup ds=>oX ds
 |.lst _=>false
 |.ins _ _=>false
 |_=>true
noncomputable def oX:List Dat->Bool
 |[]=>true
 |d::ds=>md d&&oX ds
end
theorem aU.lst {K:PySem.W.Frag} {H H':Hp} {a:Addr} {xs:List V} (e:aU H H') (h:SqL K H a xs):SqL K H' a xs:=by
 rcases h with (h|⟨o,h⟩)|h
 ·exact .inl (.inl (e _ _ h))
 ·exact .inl (.inr ⟨o,e _ _ h⟩)
 ·exact .inr h
mutual
theorem cf.mono {K:PySem.W.Frag} {F F':Hp} (s:aU F F'):∀{d:Dat} {v:V},cf K F d v->cf K F' d v
 |.non,_,h=>h
 |.bl _,_,h=>h
 |.int _,_,h=>h
 |.str _,_,h=>h
 |.tup _,_,⟨a,xs,e,q,r⟩=>⟨a,xs,e,s.tup q,ax.mono s r⟩
 |.lst _,_,⟨a,xs,e,q,r⟩=>⟨a,xs,e,s.lst q,ax.mono s r⟩
 |.ins _ _,_,⟨a,dx,fs,e,q,r⟩=>⟨a,dx,fs,e,s _ _ q,oj.mono s r⟩
theorem ax.mono {K:PySem.W.Frag} {F F':Hp} (s:aU F F'):∀{ds:List Dat} {xs:List V},ax K F ds xs->ax K F' ds xs
 |[],_,h=>h
 |_::_,_,⟨v,vs,e,q,r⟩=>⟨v,vs,e,cf.mono s q,ax.mono s r⟩
theorem oj.mono {K:PySem.W.Frag} {F F':Hp} (s:aU F F'):∀{gs:List (Str×Dat)} {fs:List (Str×V)},oj K F gs fs->oj K F' gs fs
 |[],_,h=>h
 |(_,_)::_,_,⟨v,r,e,q,t⟩=>⟨v,r,e,cf.mono s q,oj.mono s t⟩
end
mutual
theorem cf.flat {K:PySem.W.Frag} {F F':Hp} (s:∀a xs,SqT K F a xs->SqT K F' a xs):∀{d:Dat} {v:V},md d=true->cf K F d v->cf K F' d v
 |.non,_,_,h=>h
 |.bl _,_,_,h=>h
 |.int _,_,_,h=>h
 |.str _,_,_,h=>h
 |.tup ds,_,f,⟨a,xs,e,q,r⟩=>⟨a,xs,e,s _ _ q,ax.flat s (by simpa [md] using f) r⟩
 |.lst _,_,f,_=>by simp [md] at f
 |.ins _ _,_,f,_=>by simp [md] at f
theorem ax.flat {K:PySem.W.Frag} {F F':Hp} (s:∀a xs,SqT K F a xs->SqT K F' a xs):∀{ds:List Dat} {xs:List V},oX ds=true->ax K F ds xs->ax K F' ds xs
 |[],_,_,h=>h
 |d::ds,_,f,⟨v,vs,e,q,r⟩=>by
  simp only [oX,Bool.and_eq_true] at f
  exact ⟨v,vs,e,cf.flat s f.1 q,ax.flat s f.2 r⟩
end
theorem ax.length {K:PySem.W.Frag} {F:Hp}:∀{ds:List Dat} {xs:List V},ax K F ds xs->xs.length=ds.length
 |[],_,h=>by rw [show _=[] from h];rfl
 |_::_,_,⟨_,_,e,_,r⟩=>by rw [e,List.length_cons,List.length_cons,ax.length r]
theorem ax.get {K:PySem.W.Frag} {F:Hp}:∀{ds:List Dat} {xs:List V} {i:Nat} {d:Dat},ax K F ds xs->ds[i]? =some d->∃v,xs[i]? =some v/\cf K F d v
 |[],_,_,_,_,e=>by simp at e
 |_::_,_,0,_,⟨v,vs,e,q,_⟩,h=>by
  simp only [List.getElem?_cons_zero,Option.some.injEq] at h
  subst h e
  exact ⟨v,rfl,q⟩
 |_::_,_,i+1,_,⟨v,vs,e,_,r⟩,h=>by
  subst e
  simp only [List.getElem?_cons_succ] at h ⊢
  exact ax.get r h
theorem ax.at {K:PySem.W.Frag} {F:Hp} {ds:List Dat} {xs:List V} {i:Nat} {v:V} (r:ax K F ds xs) (h:xs[i]? =some v):∃d,ds[i]? =some d/\cf K F d v:=by
 have hi:i<ds.length:=by rw [<- r.length];exact (List.getElem?_eq_some_iff.mp h).1
 obtain ⟨w,e,q⟩:=r.get (i:=i) (d:=ds[i]) (by simp [hi])
 rw [h] at e
 have e':=Option.some.inj e
 subst e'
 exact ⟨ds[i],by simp [hi],q⟩
theorem ax.cons {K:PySem.W.Frag} {F:Hp} {d:Dat} {v:V} {ds:List Dat} {xs:List V} (q:cf K F d v) (r:ax K F ds xs):ax K F (d::ds) (v::xs):=⟨v,xs,rfl,q,r⟩
theorem ax.append {K:PySem.W.Frag} {F:Hp}:∀{ds es:List Dat} {xs ys:List V},ax K F ds xs->ax K F es ys->ax K F (ds++es) (xs++ys)
 |[],_,_,_,h,r=>by rw [show _=[] from h];exact r
 |_::_,_,_,_,⟨v,vs,e,q,t⟩,r=>by subst e;exact ⟨v,_,rfl,q,ax.append t r⟩
theorem ax.take {K:PySem.W.Frag} {F:Hp}:∀{ds:List Dat} {xs:List V} (n:Nat),ax K F ds xs->ax K F (ds.take n) (xs.take n)
 |_,_,0,_=>rfl
 |[],_,_+1,h=>by rw [show _=[] from h];rfl
 |_::_,_,n+1,⟨v,vs,e,q,r⟩=>by subst e;exact ⟨v,_,rfl,q,ax.take n r⟩
theorem ax.drop {K:PySem.W.Frag} {F:Hp}:∀{ds:List Dat} {xs:List V} (n:Nat),ax K F ds xs->ax K F (ds.drop n) (xs.drop n)
 |_,_,0,h=>h
 |[],_,_+1,h=>by rw [show _=[] from h];rfl
 |_::_,_,n+1,⟨v,vs,e,q,r⟩=>by subst e;exact ax.drop n r
theorem ax.set {K:PySem.W.Frag} {F:Hp} {d:Dat} {v:V} (q:cf K F d v):∀{ds:List Dat} {xs:List V} (n:Nat),ax K F ds xs->ax K F (ds.set n d) (xs.set n v)
 |[],_,_,h=>by rw [show _=[] from h];rfl
 |_::_,_,0,⟨w,vs,e,_,r⟩=>by subst e;exact ⟨v,_,rfl,q,r⟩
 |_::_,_,n+1,⟨w,vs,e,p,r⟩=>by subst e;exact ⟨w,_,rfl,p,ax.set q n r⟩
theorem ax.eraseIdx {K:PySem.W.Frag} {F:Hp}:∀{ds:List Dat} {xs:List V} (n:Nat),ax K F ds xs->ax K F (ds.eraseIdx n) (xs.eraseIdx n)
 |[],_,_,h=>by rw [show _=[] from h];rfl
 |_::_,_,0,⟨w,vs,e,_,r⟩=>by subst e;exact r
 |_::_,_,n+1,⟨w,vs,e,p,r⟩=>by subst e;exact ⟨w,_,rfl,p,ax.eraseIdx n r⟩
theorem ax.of_get {K:PySem.W.Frag} {F:Hp}:∀{ds:List Dat} {xs:List V},xs.length=ds.length->(∀(i:Nat) d v,ds[i]? =some d->xs[i]? =some v->cf K F d v)->ax K F ds xs
 |[],[],_,_=>rfl
 |[],_::_,h,_=>by simp at h
 |_::_,[],h,_=>by simp at h
 |d::ds,v::vs,h,q=>⟨v,vs,rfl,q 0 d v rfl rfl,ax.of_get (by simpa using h) fun i e w h1 h2=>q (i+1) e w (by simpa using h1) (by simpa using h2)⟩
structure Step (F H F' H':Hp):Prop where
 ff:aU F F'
 hh:aU H H'
 fh:aU F' H'
 nw:∀b o,F' b=some o->F b=some o\/H b=none
theorem Step.refl {F H:Hp} (s:aU F H):Step F H F H:=⟨aU.refl _,aU.refl _,s,fun _ _ h=>.inl h⟩
theorem Step.trans {F H F1 H1 F2 H2:Hp} (a:Step F H F1 H1) (b:Step F1 H1 F2 H2):Step F H F2 H2:=
 ⟨a.ff.trans b.ff,a.hh.trans b.hh,b.fh,fun x o h=>(b.nw x o h).elim (fun z=>a.nw x o z) fun z=>.inr (a.hh.free z)⟩
theorem Step.lay {F H:Hp} {p:Addr} {o:HO} (s:aU F H) (hp:H p=none):Step F H (upd F p o) (upd H p o):=
 ⟨aU.upd (s.free hp),aU.upd hp,fun b u h=>by
  by_cases e:b=p
  ·subst e;rw [ao] at h ⊢;exact h
  ·rw [ar e] at h ⊢;exact s b u h,fun b u h=>by
  by_cases e:b=p
  ·subst e;exact .inr hp
  ·rw [ar e] at h;exact .inl h⟩
theorem Step.grow {F H:Hp} {p:Addr} {o:HO} (s:aU F H) (hp:H p=none):Step F H F (upd H p o):=
 ⟨aU.refl _,aU.upd hp,s.trans (aU.upd hp),fun _ _ h=>.inl h⟩
noncomputable def AY (K:PySem.W.Frag) (F H0 H:Hp):Dat->V->Prop
 |.lst ds,v=>∃a xs,v=.ref a/\H a=some (.lst xs)/\F a=none/\H0 a=none/\ax K F ds xs
 |d,v=>cf K F d v
noncomputable def Val (K:PySem.W.Frag) (own:Bool) (F H0 H:Hp) (d:Dat) (v:V):Prop:=if own=true then AY K F H0 H d v else cf K F d v
theorem AY.back {K:PySem.W.Frag} {F H0 H1 H:Hp} {d:Dat} {v:V} (s:aU H0 H1) (h:AY K F H1 H d v):AY K F H0 H d v:=by
 cases d with
 |lst ds=>obtain ⟨a,xs,e,p,q,z,r⟩:=h;exact ⟨a,xs,e,p,q,s.free z,r⟩
 |_=>exact h
theorem Val.back {K:PySem.W.Frag} {own:Bool} {F H0 H1 H:Hp} {d:Dat} {v:V} (s:aU H0 H1) (h:Val K own F H1 H d v):Val K own F H0 H d v:=by
 cases own with
 |true=>exact AY.back s h
 |false=>exact h
theorem AY.freeze {K:PySem.W.Frag} {F H0 H:Hp} {d:Dat} {v:V} (s:aU F H) (h:AY K F H0 H d v):∃F',aU F F'/\aU F' H/\(∀b o,F' b=some o->F b=some o\/H0 b=none)/\cf K F' d v:=by
 cases d with
 |lst ds=>
  obtain ⟨a,xs,e,p,q,z,r⟩:=h
  refine ⟨upd F a (.lst xs),aU.upd q,fun b o h=>?_,fun b o h=>?_,a,xs,e,SqL.of ao,r.mono (aU.upd q)⟩
  ·by_cases e:b=a
   ·subst e;rw [ao] at h;rw [p,<- h]
   ·rw [ar e] at h;exact s b o h
  ·by_cases e:b=a
   ·subst e;exact .inr z
   ·rw [ar e] at h;exact .inl h
 |_=>exact ⟨F,aU.refl _,s,fun _ _ z=>.inl z,h⟩
inductive Err where
 |stuck|exc (C:Addr) (fs:List (Str×Dat))
noncomputable abbrev M:=Except Err
noncomputable abbrev ak:=List (Option Dat)
structure fm where
 p:Err->Hp->Hp->Prop
 mono:∀{e:Err} {F H F' H':Hp},p e F H->Step F H F' H'->p e F' H'
 ns:∀{F H:Hp},p .stuck F H->False
noncomputable def Wno:fm:=⟨fun _ _ _=>False,fun h _=>h,fun h=>h⟩
noncomputable def aL (K:PySem.W.Frag) (W:fm) (own:Bool) (F H:Hp) (r:M Dat) (Q:VK):Prop:=match r with
 |.ok d=>∀v F' H',Step F H F' H'->Val K own F' H H' d v->Q v H'
 |.error e=>W.p e F H
theorem aL.step {K:PySem.W.Frag} {W:fm} {own:Bool} {F H F1 H1:Hp} {r:M Dat} {Q:VK} (p:aL K W own F H r Q) (s:Step F H F1 H1):aL K W own F1 H1 r Q:=by
 cases r with
 |ok d=>exact fun v F' H' t q=>p v F' H' (s.trans t) (q.back s.hh)
 |error e=>exact W.mono p s
theorem aL.frz {K:PySem.W.Frag} {W:fm} {F H:Hp} {r:M Dat} {Q:VK} (p:aL K W false F H r Q):aL K W true F H r Q:=by
 cases r with
 |ok d=>
  intro v F' H' t q
  obtain ⟨F2,s1,s2,n,z⟩:=AY.freeze t.fh q
  exact p v F2 H' ⟨t.ff.trans s1,t.hh,s2,fun b o h=>(n b o h).elim (fun z=>t.nw b o z) .inr⟩ z
 |error e=>exact p
structure oS (K:PySem.W.Frag) (F:Hp) (σ:St) (ρ:ak):Prop where
 len:ρ.length=σ.length
 sl:∀(i:Nat) (d:Dat),ρ[i]? =some (some d)->∃v,σ[i]? =some (some v)/\cf K F d v
theorem oS.mono {K:PySem.W.Frag} {F F':Hp} {σ:St} {ρ:ak} (r:oS K F σ ρ) (s:aU F F'):oS K F' σ ρ:=
 ⟨r.len,fun i d e=>let ⟨v,h,q⟩:=r.sl i d e;⟨v,h,q.mono s⟩⟩
theorem oS.set {K:PySem.W.Frag} {F:Hp} {σ:St} {ρ:ak} {d:Dat} {v:V} (r:oS K F σ ρ) (q:cf K F d v) (i:Nat):oS K F (σ.set i (some v)) (ρ.set i (some d)):=
 ⟨by rw [List.length_set,List.length_set,r.len],fun j e h=>by
  by_cases hij:i=j
  ·subst hij
   have hi:i<ρ.length:=by
    have:=(List.getElem?_eq_some_iff.mp h).1
    simpa using this
   rw [List.getElem?_set_self hi] at h
   cases h
   exact ⟨v,by rw [List.getElem?_set_self (by rw [<- r.len];exact hi)],q⟩
  ·rw [List.getElem?_set_ne hij] at h
   obtain ⟨w,h1,h2⟩:=r.sl j e h
   exact ⟨w,by rw [List.getElem?_set_ne hij];exact h1,h2⟩⟩
noncomputable def tD (K:PySem.W.Frag) (W:fm) (own:Bool) (f:ak->M Dat):TE:=fun σ H Q=>∃F ρ,oS K F σ ρ/\aU F H/\aL K W own F H (f ρ) Q
theorem bA {K:PySem.W.Frag} {W:fm} {own:Bool} {f:ak->M Dat} {σ:St} {ρ:ak} {F H:Hp} {R:VK} (r:oS K F σ ρ) (s:aU F H) (hE:∀e,f ρ=.error e->W.p e F H)
  (hO:∀d,f ρ=.ok d->∀v F1 H1,Step F H F1 H1->Val K own F1 H H1 d v->R v H1):tD K W own f σ H R:=by
 refine ⟨F,ρ,r,s,?_⟩
 cases e:f ρ with
 |ok d=>exact hO d e
 |error x=>exact hE x e
noncomputable def tDT (K:PySem.W.Frag) (W:fm) (f:ak->M Bool):TT:=fun σ H Q=>∃F ρ,oS K F σ ρ/\aU F H/\(match f ρ with
 |.ok b=>∀F' H',Step F H F' H'->Q b H'
 |.error e=>W.p e F H)
theorem mS {K:PySem.W.Frag} {W:fm} {f:ak->M Bool} {σ:St} {ρ:ak} {F H:Hp} {R:Bool->Hp->Prop} (r:oS K F σ ρ) (s:aU F H) (hE:∀e,f ρ=.error e->W.p e F H)
  (hO:∀b,f ρ=.ok b->∀F1 H1,Step F H F1 H1->R b H1):tDT K W f σ H R:=by
 refine ⟨F,ρ,r,s,?_⟩
 cases e:f ρ with
 |ok d=>exact hO d e
 |error x=>exact hE x e
noncomputable def tDA (K:PySem.W.Frag) (W:fm) (f:ak->M (List Dat)):TA:=fun σ H Q=>∃F ρ,oS K F σ ρ/\aU F H/\(match f ρ with
 |.ok ds=>∀vs F' H',Step F H F' H'->ax K F' ds vs->Q vs H'
 |.error e=>W.p e F H)
theorem mT {K:PySem.W.Frag} {W:fm} {f:ak->M (List Dat)} {σ:St} {ρ:ak} {F H:Hp} {R:List V->Hp->Prop} (r:oS K F σ ρ) (s:aU F H) (hE:∀e,f ρ=.error e->W.p e F H)
  (hO:∀ds,f ρ=.ok ds->∀vs F1 H1,Step F H F1 H1->ax K F1 ds vs->R vs H1):tDA K W f σ H R:=by
 refine ⟨F,ρ,r,s,?_⟩
 cases e:f ρ with
 |ok d=>exact hO d e
 |error x=>exact hE x e
noncomputable def aa (i:Nat):ak->M Dat:=fun ρ=>match ρ[i]? with
 |some (some d)=>.ok d
 |_=>.error .stuck
noncomputable def fC (d:Dat):ak->M Dat:=fun _=>.ok d
noncomputable def f1 (g:Dat->M Dat) (fa:ak->M Dat):ak->M Dat:=fun ρ=>(fa ρ).bind g
noncomputable def f2 (g:Dat->Dat->M Dat) (fa fb:ak->M Dat):ak->M Dat:=fun ρ=>(fa ρ).bind fun a=>(fb ρ).bind fun b=>g a b
noncomputable def aJ:ak->M (List Dat):=fun _=>.ok []
noncomputable def a9 (fa:ak->M Dat) (fr:ak->M (List Dat)):ak->M (List Dat):=fun ρ=>(fa ρ).bind fun a=>(fr ρ).bind fun r=>.ok (a::r)
noncomputable def fL (g:List Dat->M Dat) (fr:ak->M (List Dat)):ak->M Dat:=fun ρ=>(fr ρ).bind g
noncomputable def jK (ds:List Dat):M Dat:=if ds.length<=sizeLine then .ok (.tup ds) else .error .stuck
noncomputable def dv (ds:List Dat):M Dat:=if ds.length<=sizeLine then .ok (.lst ds) else .error .stuck
noncomputable def fIte (ft:ak->M Bool) (fa fb:ak->M Dat):ak->M Dat:=fun ρ=>(ft ρ).bind fun b=>if b=true then fa ρ else fb ρ
noncomputable def fAnd (ft fu:ak->M Bool):ak->M Bool:=fun ρ=>(ft ρ).bind fun b=>if b=true then fu ρ else .ok false
noncomputable def fOr (ft fu:ak->M Bool):ak->M Bool:=fun ρ=>(ft ρ).bind fun b=>if b=true then .ok true else fu ρ
noncomputable def vp (ft:ak->M Bool):ak->M Bool:=fun ρ=>(ft ρ).bind fun b=>.ok (!b)
noncomputable def asB:Dat->M Bool
 |.bl b=>.ok b
 |_=>.error .stuck
noncomputable def fB (fa:ak->M Dat):ak->M Bool:=fun ρ=>(fa ρ).bind asB
noncomputable def qQ (fa fb:ak->M Dat):ak->M Dat:=fun ρ=>(fa ρ).bind fun a=>(asB a).bind fun b=>if b=true then fb ρ else .ok (.bl false)
noncomputable def notD:Dat->M Dat
 |.bl b=>.ok (.bl (!b))
 |_=>.error .stuck
noncomputable def truD:Dat->M Bool
 |.non=>.ok false
 |.bl b=>.ok b
 |.int i=>.ok (i != 0)
 |.str x=>if x.length<=sizeLine then .ok ((x.length:Int) != 0) else .error .stuck
 |.tup ds=>.ok (!ds.isEmpty)
 |.lst ds=>.ok (!ds.isEmpty)
 |_=>.error .stuck
noncomputable def rK (fa:ak->M Dat):ak->M Bool:=fun ρ=>(fa ρ).bind truD
noncomputable def j5 (g g':Dat->Dat->M Dat) (fa fb fc:ak->M Dat):ak->M Dat:=fun ρ=>(fa ρ).bind fun a=>(fb ρ).bind fun b=>(g a b).bind fun x=>(asB x).bind fun k=>if k=true then (fc ρ).bind fun c=>g' b c else .ok (.bl false)
noncomputable def rD2 (K:PySem.W.Frag) (W:fm) (own:Bool) (g:Dat->Dat->M Dat):R2:=fun x y H Q=>∃F a b,aU F H/\cf K F a x/\cf K F b y/\aL K W own F H (g a b) Q
noncomputable def rD1 (K:PySem.W.Frag) (W:fm) (own:Bool) (g:Dat->M Dat):V->Hp->VK->Prop:=fun x H Q=>∃F a,aU F H/\cf K F a x/\aL K W own F H (g a) Q
noncomputable def rDL (K:PySem.W.Frag) (W:fm) (own:Bool) (g:List Dat->M Dat):List V->Hp->VK->Prop:=fun xs H Q=>∃F ds,aU F H/\ax K F ds xs/\aL K W own F H (g ds) Q
section
variable {K:PySem.W.Frag} {W:fm} {own:Bool} {σ:St} {H:Hp} {Q:VK} {fa fb fc:ak->M Dat}
theorem rd_var {i:Nat} (h:tD K W false (aa i) σ H Q):tVar i σ H Q:=by
 obtain ⟨F,ρ,r,s,p⟩:=h
 unfold aa at p
 match e:ρ[i]? with
 |some (some d)=>
  rw [e] at p
  obtain ⟨v,e1,q⟩:=r.sl i d e
  exact ⟨v,e1,p v F H (Step.refl s) q⟩
 |some none=>rw [e] at p;exact (W.ns p).elim
 |none=>rw [e] at p;exact (W.ns p).elim
theorem rd_c {d:Dat} {v:V} (hd:∀F,cf K F d v) (h:tD K W false (fC d) σ H Q):tC v σ H Q:=by
 obtain ⟨F,ρ,r,s,p⟩:=h
 exact p v F H (Step.refl s) (hd F)
theorem aL.err {F:Hp} {x:M Dat} {e:Err} (p:aL K W own F H x Q) (h:x=.error e):W.p e F H:=by rw [h] at p;exact p
theorem rd_1 {g:Dat->M Dat} (h:tD K W own (f1 g fa) σ H Q):tUn (rD1 K W own g) (tD K W false fa) σ H Q:=by
 obtain ⟨F,ρ,r,s,p⟩:=h
 refine bA r s (fun e he=>p.err (by unfold f1;rw [he];rfl)) fun a ha x F1 H1 s1 q1=>?_
 refine ⟨F1,a,s1.fh,q1,?_⟩
 have e:f1 g fa ρ=g a:=by unfold f1;rw [ha];rfl
 rw [e] at p
 exact p.step s1
theorem rd_2 {g:Dat->Dat->M Dat} (h:tD K W own (f2 g fa fb) σ H Q):tOp (rD2 K W own g) (tD K W false fa) (tD K W false fb) σ H Q:=by
 obtain ⟨F,ρ,r,s,p⟩:=h
 refine bA r s (fun e he=>p.err (by unfold f2;rw [he];rfl)) fun a ha x F1 H1 s1 q1=>?_
 refine bA (r.mono s1.ff) s1.fh (fun e he=>(p.step s1).err (by unfold f2;rw [ha];show (fb ρ).bind _=_;rw [he];rfl)) fun b hb y F2 H2 s2 q2=>?_
 refine ⟨F2,a,b,s2.fh,cf.mono s2.ff q1,q2,?_⟩
 have e:f2 g fa fb ρ=g a b:=by unfold f2;rw [ha];show (fb ρ).bind _=_;rw [hb];rfl
 rw [e] at p
 exact p.step (s1.trans s2)
theorem rd_nil {R:List V->Hp->Prop} (h:tDA K W aJ σ H R):tNil σ H R:=by
 obtain ⟨F,ρ,r,s,p⟩:=h
 exact p [] F H (Step.refl s) rfl
theorem rd_cons {fr:ak->M (List Dat)} {R:List V->Hp->Prop} (h:tDA K W (a9 fa fr) σ H R):oz (tD K W false fa) (tDA K W fr) σ H R:=by
 obtain ⟨F,ρ,r,s,p⟩:=h
 refine bA r s (fun e he=>?_) fun a ha x F1 H1 s1 q1=>mT (r.mono s1.ff) s1.fh (fun e he=>?_) fun ds hd xs F2 H2 s2 q2=>?_
 ·have z:a9 fa fr ρ=.error e:=by unfold a9;rw [he];rfl
  rw [z] at p
  exact p
 ·have z:a9 fa fr ρ=.error e:=by unfold a9;rw [ha];show (fr ρ).bind _=_;rw [he];rfl
  rw [z] at p
  exact W.mono p s1
 ·have z:a9 fa fr ρ=.ok (a::ds):=by unfold a9;rw [ha];show (fr ρ).bind _=_;rw [hd];rfl
  rw [z] at p
  exact p (x::xs) F2 H2 (s1.trans s2) ⟨x,xs,rfl,cf.mono s2.ff q1,q2⟩
theorem rd_L {g:List Dat->M Dat} {fr:ak->M (List Dat)} (h:tD K W own (fL g fr) σ H Q):tDA K W fr σ H fun xs H1=>rDL K W own g xs H1 Q:=by
 obtain ⟨F,ρ,r,s,p⟩:=h
 refine mT r s (fun e he=>p.err (by unfold fL;rw [he];rfl)) fun ds hd xs F1 H1 s1 q1=>⟨F1,ds,s1.fh,q1,?_⟩
 have e:fL g fr ρ=g ds:=by unfold fL;rw [hd];rfl
 rw [e] at p
 exact p.step s1
theorem rd_tup {fr:ak->M (List Dat)} (h:tD K W own (fL jK fr) σ H Q):tTup (tDA K W fr) σ H Q:=by
 obtain ⟨F,ρ,r,s,p⟩:=rd_L h
 refine ⟨F,ρ,r,s,?_⟩
 cases e:fr ρ with
 |error x=>rw [e] at p;exact p
 |ok ds=>
  rw [e] at p
  intro vs F' H' t q
  obtain ⟨F1,es,s1,q1,z⟩:=p vs F' H' t q
  unfold jK at z
  by_cases hl:es.length<=sizeLine
  ·rw [if_pos hl] at z
   refine ⟨by rw [q1.length];exact hl,fun a ha=>z (.ref a) _ _ (Step.lay s1 ha) ?_⟩
   have:cf K (upd F1 a (.tup vs)) (.tup es) (.ref a):=⟨a,vs,rfl,SqT.of ao,q1.mono (aU.upd (s1.free ha))⟩
   cases own with
   |true=>exact this
   |false=>exact this
  ·rw [if_neg hl] at z
   exact (W.ns z).elim
theorem rd_lst {fr:ak->M (List Dat)} (h:tD K W true (fL dv fr) σ H Q):tLst (tDA K W fr) σ H Q:=by
 obtain ⟨F,ρ,r,s,p⟩:=rd_L h
 refine ⟨F,ρ,r,s,?_⟩
 cases e:fr ρ with
 |error x=>rw [e] at p;exact p
 |ok ds=>
  rw [e] at p
  intro vs F' H' t q
  obtain ⟨F1,es,s1,q1,z⟩:=p vs F' H' t q
  unfold dv at z
  by_cases hl:es.length<=sizeLine
  ·rw [if_pos hl] at z
   exact ⟨by rw [q1.length];exact hl,fun a ha=>z (.ref a) F1 _ (Step.grow s1 ha) ⟨a,vs,rfl,ao,s1.free ha,ha,q1⟩⟩
  ·rw [if_neg hl] at z
   exact (W.ns z).elim
theorem rd_ite {ft:ak->M Bool} (h:tD K W own (fIte ft fa fb) σ H Q):tIf (tDT K W ft) (tD K W own fa) (tD K W own fb) σ H Q:=by
 obtain ⟨F,ρ,r,s,p⟩:=h
 refine mS r s (fun e he=>p.err (by unfold fIte;rw [he];rfl)) fun b hb F1 H1 s1=>?_
 have e:fIte ft fa fb ρ=if b=true then fa ρ else fb ρ:=by unfold fIte;rw [hb];rfl
 rw [e] at p
 cases b with
 |true=>exact ⟨F1,ρ,r.mono s1.ff,s1.fh,p.step s1⟩
 |false=>exact ⟨F1,ρ,r.mono s1.ff,s1.fh,p.step s1⟩
theorem x8 {f:ak->M Bool} {F F1 H1:Hp} {ρ:ak} {R:Bool->Hp->Prop} (r:oS K F σ ρ) (s1:Step F H F1 H1) (p:match f ρ with
 |.ok b=>∀F' H',Step F H F' H'->R b H'
 |.error e=>W.p e F H):tDT K W f σ H1 R:=by
 refine ⟨F1,ρ,r.mono s1.ff,s1.fh,?_⟩
 cases e:f ρ with
 |ok b=>rw [e] at p;exact fun F' H' t=>p F' H' (s1.trans t)
 |error x=>rw [e] at p;exact W.mono p s1
theorem rd_and {ft fu:ak->M Bool} {R:Bool->Hp->Prop} (h:tDT K W (fAnd ft fu) σ H R):tAnd (tDT K W ft) (tDT K W fu) σ H R:=by
 obtain ⟨F,ρ,r,s,p⟩:=h
 refine mS r s (fun e he=>?_) fun b hb F1 H1 s1=>?_
 ·have z:fAnd ft fu ρ=.error e:=by unfold fAnd;rw [he];rfl
  rw [z] at p;exact p
 ·have z:fAnd ft fu ρ=if b=true then fu ρ else .ok false:=by unfold fAnd;rw [hb];rfl
  rw [z] at p
  cases b with
  |true=>exact x8 r s1 p
  |false=>exact p F1 H1 s1
theorem rd_or {ft fu:ak->M Bool} {R:Bool->Hp->Prop} (h:tDT K W (fOr ft fu) σ H R):tOr (tDT K W ft) (tDT K W fu) σ H R:=by
 obtain ⟨F,ρ,r,s,p⟩:=h
 refine mS r s (fun e he=>?_) fun b hb F1 H1 s1=>?_
 ·have z:fOr ft fu ρ=.error e:=by unfold fOr;rw [he];rfl
  rw [z] at p;exact p
 ·have z:fOr ft fu ρ=if b=true then .ok true else fu ρ:=by unfold fOr;rw [hb];rfl
  rw [z] at p
  cases b with
  |false=>exact x8 r s1 p
  |true=>exact p F1 H1 s1
theorem rd_not {ft:ak->M Bool} {R:Bool->Hp->Prop} (h:tDT K W (vp ft) σ H R):tNot (tDT K W ft) σ H R:=by
 obtain ⟨F,ρ,r,s,p⟩:=h
 refine mS r s (fun e he=>?_) fun b hb F1 H1 s1=>?_
 ·have z:vp ft ρ=.error e:=by unfold vp;rw [he];rfl
  rw [z] at p;exact p
 ·have z:vp ft ρ=.ok (!b):=by unfold vp;rw [hb];rfl
  rw [z] at p;exact p F1 H1 s1
theorem rd_B {R:Bool->Hp->Prop} (h:tDT K W (fB fa) σ H R):tTest (tD K W false fa) σ H R:=by
 obtain ⟨F,ρ,r,s,p⟩:=h
 refine bA r s (fun e he=>?_) fun a ha x F1 H1 s1 q1=>?_
 ·have z:fB fa ρ=.error e:=by unfold fB;rw [he];rfl
  rw [z] at p;exact p
 ·have z:fB fa ρ=asB a:=by unfold fB;rw [ha];rfl
  rw [z] at p
  cases a with
  |bl b=>exact ⟨b,q1,p F1 H1 s1⟩
  |_=>exact (W.ns p).elim
theorem tru_of {F H1:Hp} {a:Dat} {x:V} {b:Bool} (s:aU F H1) (q:cf K F a x) (h:truD a=.ok b):TruV K x H1 b:=by
 cases a with
 |non=>rw [show x=.non from q];exact (Except.ok.inj h).symm
 |bl c=>rw [show x=.bl c from q];exact (Except.ok.inj h).symm
 |int i=>rw [show x=.int i from q];exact (Except.ok.inj h).symm
 |str y=>
  rw [show x=.str y from q]
  have h':(if y.length<=sizeLine then Except.ok ((y.length:Int) != 0) else Except.error Err.stuck)=Except.ok b:=h
  by_cases hy:y.length<=sizeLine
  ·rw [if_pos hy] at h'
   exact ⟨hy,(Except.ok.inj h').symm⟩
  ·rw [if_neg hy] at h'
   cases h'
 |tup ds=>
  obtain ⟨p,xs,e,t,r⟩:=q
  subst e
  refine .inr (.inl ⟨xs,s.tup t,?_⟩)
  rw [<- Except.ok.inj h]
  cases ds with
  |nil=>rw [show xs=[] from r];rfl
  |cons d ds=>obtain ⟨v,vs,e,_⟩:=r;rw [e];rfl
 |lst ds=>
  obtain ⟨p,xs,e,t,r⟩:=q
  subst e
  refine .inl ⟨xs,s.lst t,?_⟩
  rw [<- Except.ok.inj h]
  cases ds with
  |nil=>rw [show xs=[] from r];rfl
  |cons d ds=>obtain ⟨v,vs,e,_⟩:=r;rw [e];rfl
 |ins C fs=>cases h
theorem rd_tru {R:Bool->Hp->Prop} (h:tDT K W (rK fa) σ H R):tD K W false fa σ H fun x H1=>∃k,TruV K x H1 k/\R k H1:=by
 obtain ⟨F,ρ,r,s,p⟩:=h
 refine bA r s (fun e he=>?_) fun a ha x F1 H1 s1 q1=>?_
 ·have z:rK fa ρ=.error e:=by unfold rK;rw [he];rfl
  rw [z] at p;exact p
 ·have z:rK fa ρ=truD a:=by unfold rK;rw [ha];rfl
  rw [z] at p
  cases e:truD a with
  |ok b=>rw [e] at p;exact ⟨b,tru_of s1.fh q1 e,p F1 H1 s1⟩
  |error x=>
   rw [e] at p
   have:x=.stuck:=by
    cases a with
    |str y=>
     have e':(if y.length<=sizeLine then Except.ok ((y.length:Int) != 0) else Except.error Err.stuck)=Except.error x:=e
     by_cases hy:y.length<=sizeLine
     ·rw [if_pos hy] at e'
      cases e'
     ·rw [if_neg hy] at e'
      cases e'
      rfl
    |ins C fs=>cases e;rfl
    |_=>cases e
   subst this
   exact (W.ns p).elim
theorem rd_andV (h:tD K W false (qQ fa fb) σ H Q):tAndV (tD K W false fa) (tD K W false fb) σ H Q:=by
 obtain ⟨F,ρ,r,s,p⟩:=h
 refine bA r s (fun e he=>p.err (by unfold qQ;rw [he];rfl)) fun a ha x F1 H1 s1 q1=>?_
 have z:qQ fa fb ρ=(asB a).bind fun b=>if b=true then fb ρ else .ok (.bl false):=by unfold qQ;rw [ha];rfl
 rw [z] at p
 cases a with
 |bl b=>
  refine ⟨b,q1,?_⟩
  cases b with
  |true=>exact ⟨F1,ρ,r.mono s1.ff,s1.fh,aL.step (own:=false) (r:=fb ρ) p s1⟩
  |false=>exact p (.bl false) F1 H1 s1 rfl
 |_=>exact (W.ns p).elim
theorem rd_notV (h:tD K W false (f1 notD fa) σ H Q):tNotV (tD K W false fa) σ H Q:=by
 obtain ⟨F,ρ,r,s,p⟩:=h
 refine bA r s (fun e he=>p.err (by unfold f1;rw [he];rfl)) fun a ha x F1 H1 s1 q1=>?_
 have z:f1 notD fa ρ=notD a:=by unfold f1;rw [ha];rfl
 rw [z] at p
 cases a with
 |bl b=>exact ⟨b,q1,p (.bl (!b)) F1 H1 s1 rfl⟩
 |_=>exact (W.ns p).elim
theorem xc {g g':Dat->Dat->M Dat} (h:tD K W false (j5 g g' fa fb fc) σ H Q):yT (rD2 K W false g) (rD2 K W false g') (tD K W false fa) (tD K W false fb) (tD K W false fc) σ H Q:=by
 obtain ⟨F,ρ,r,s,p⟩:=h
 refine bA r s (fun e he=>p.err (by unfold j5;rw [he];rfl)) fun a ha x F1 H1 s1 q1=>?_
 refine bA (r.mono s1.ff) s1.fh (fun e he=>(p.step s1).err (by unfold j5;rw [ha];show (fb ρ).bind _=_;rw [he];rfl)) fun b hb y F2 H2 s2 q2=>?_
 have z:j5 g g' fa fb fc ρ=(g a b).bind fun x=>(asB x).bind fun k=>if k=true then (fc ρ).bind fun c=>g' b c else .ok (.bl false):=by unfold j5;rw [ha];show (fb ρ).bind _=_;rw [hb];rfl
 rw [z] at p
 refine ⟨F2,a,b,s2.fh,cf.mono s2.ff q1,q2,?_⟩
 have p2:=p.step (s1.trans s2)
 cases e:g a b with
 |error x=>rw [e] at p2;exact p2
 |ok d=>
  rw [e] at p2
  intro v F3 H3 s3 q3
  have p3:aL K W false F3 H3 ((asB d).bind fun k=>if k=true then (fc ρ).bind fun c=>g' b c else .ok (.bl false)) Q:=aL.step p2 s3
  cases d with
  |bl k=>
   refine ⟨k,q3,?_⟩
   cases k with
   |false=>exact p3 (.bl false) F3 H3 (Step.refl s3.fh) rfl
   |true=>
    have p4:aL K W false F3 H3 ((fc ρ).bind fun c=>g' b c) Q:=p3
    refine bA (r.mono (s1.trans (s2.trans s3)).ff) s3.fh (fun e he=>p4.err (by rw [he];rfl)) fun c hc w F4 H4 s4 q4=>⟨F4,b,c,s4.fh,cf.mono (s3.trans s4).ff q2,q4,?_⟩
    rw [hc] at p4
    exact p4.step s4
  |_=>exact (W.ns p3).elim
end
inductive Pat where
 |nm (i:Nat)|tp (is:List Nat)
noncomputable def lE:List Nat->List Dat->ak->ak
 |i::is,d::ds,ρ=>lE is ds (ρ.set i (some d))
 |_,_,ρ=>ρ
noncomputable def eY:Pat->Dat->ak->M ak
 |.nm i,d,ρ=>.ok (ρ.set i (some d))
 |.tp is,.tup ds,ρ=>if ds.length=is.length then .ok (lE is ds ρ) else .error .stuck
 |.tp _,_,_=>.error .stuck
noncomputable def j3:List Nat->TGs
 |[]=>gNil
 |i::is=>gCons (pZ i) (j3 is)
noncomputable def gP (K:PySem.W.Frag):Pat->TG
 |.nm i=>pZ i
 |.tp is=>gTup K is.length (j3 is)
theorem rH {K:PySem.W.Frag} {F H:Hp} {R:St->Hp->Prop}:∀{is:List Nat} {ds:List Dat} {vs:List V} {σ:St} {ρ:ak},oS K F σ ρ->ax K F ds vs->ds.length=is.length->(∀σ',oS K F σ' (lE is ds ρ)->R σ' H)->j3 is vs σ H R
 |[],[],_,σ,ρ,r,q,_,h=>⟨q,h σ r⟩
 |[],_::_,_,_,_,_,_,e,_=>by simp at e
 |_::_,[],_,_,_,_,_,e,_=>by simp at e
 |i::is,d::ds,_,σ,ρ,r,⟨v,vs,e,q,t⟩,l,h=>⟨v,vs,e,rH (r.set q i) t (by simpa using l) h⟩
theorem gP_run {K:PySem.W.Frag} {F H:Hp} {R:St->Hp->Prop} {p:Pat} {d:Dat} {v:V} {σ:St} {ρ ρ':ak} (r:oS K F σ ρ) (s:aU F H) (q:cf K F d v) (e:eY p d ρ=.ok ρ') (h:∀σ',oS K F σ' ρ'->R σ' H):gP K p v σ H R:=by
 cases p with
 |nm i=>
  have:=Except.ok.inj e
  subst this
  exact h _ (r.set q i)
 |tp is=>
  cases d with
  |tup ds=>
   have e':(if ds.length=is.length then Except.ok (lE is ds ρ) else Except.error Err.stuck)=Except.ok ρ':=e
   by_cases hl:ds.length=is.length
   ·rw [if_pos hl] at e'
    have:=Except.ok.inj e'
    subst this
    obtain ⟨a,xs,ev,t,z⟩:=q
    exact ⟨a,xs,ev,s.tup t,by rw [z.length,hl],rH r z hl h⟩
   ·rw [if_neg hl] at e'
    cases e'
  |_=>cases e
theorem o7 {p:Pat} {d:Dat} {ρ:ak} {e:Err} (h:eY p d ρ=.error e):e=.stuck:=by
 cases p with
 |nm i=>cases h
 |tp is=>
  cases d with
  |tup ds=>
   have e':(if ds.length=is.length then Except.ok (lE is ds ρ) else Except.error Err.stuck)=Except.error e:=h
   by_cases hl:ds.length=is.length
   ·rw [if_pos hl] at e';cases e'
   ·rw [if_neg hl] at e';cases e';rfl
  |_=>cases h;rfl
structure qZ (K:PySem.W.Frag) (F1:Hp) (J:It) (ds:List Dat):Prop where
 go:∀(i:Nat) (F H:Hp),aU F1 F->aU F H->i<ds.length->J.go i H
 yl:∀(i:Nat) (F H:Hp) (x:V) (H':Hp) (d:Dat),aU F1 F->aU F H->ds[i]? =some d->J.yld i H x H'->∃F',Step F H F' H'/\cf K F' d x
 st:∀(F H:Hp),aU F1 F->aU F H->J.stop ds.length H
noncomputable def iD (K:PySem.W.Frag) (W:fm) (f:ak->M (List Dat)):TI:=fun σ H R=>∃F ρ,oS K F σ ρ/\aU F H/\(match f ρ with
 |.ok ds=>∀J F1 H1,Step F H F1 H1->qZ K F1 J ds->R J H1
 |.error e=>W.p e F H)
noncomputable def xm:Dat->M (List Dat)
 |.lst ds=>.ok ds
 |.tup ds=>.ok ds
 |_=>.error .stuck
noncomputable def fIt (fa:ak->M Dat):ak->M (List Dat):=fun ρ=>(fa ρ).bind xm
noncomputable def iSeq (K:PySem.W.Frag) (tl:TE):TI:=fun σ H R=>tl σ H fun x H1=>∃a,x=.ref a/\((∃xs,SqL K H1 a xs)/\R (Itl K a) H1\/(∃xs,SqT K H1 a xs)/\R (Itt K a) H1)
theorem zX {K:PySem.W.Frag} {F:Hp} {a:Addr} {xs:List V} {ds:List Dat} (t:SqL K F a xs) (z:ax K F ds xs):qZ K F (Itl K a) ds where
 go:=fun i F' H' s1 s2 hi=>⟨xs,xs[i]'(by rw [z.length];exact hi),s2.lst (s1.lst t),by simp [z.length,hi]⟩
 yl:=fun i F' H' x H2 d s1 s2 hd hy=>by
  obtain ⟨e,hy⟩:=hy
  subst e
  obtain ⟨v,e1,q⟩:=z.get hd
  have e2:=hy xs (s2.lst (s1.lst t))
  rw [e1] at e2
  cases e2
  exact ⟨F',Step.refl s2,q.mono s1⟩
 st:=fun F' H' s1 s2=>⟨xs,s2.lst (s1.lst t),by rw [z.length];exact Nat.le_refl _⟩
theorem iter_tup {K:PySem.W.Frag} {F:Hp} {a:Addr} {xs:List V} {ds:List Dat} (t:SqT K F a xs) (z:ax K F ds xs):qZ K F (Itt K a) ds where
 go:=fun i F' H' s1 s2 hi=>⟨xs,xs[i]'(by rw [z.length];exact hi),s2.tup (s1.tup t),by simp [z.length,hi]⟩
 yl:=fun i F' H' x H2 d s1 s2 hd hy=>by
  obtain ⟨e,hy⟩:=hy
  subst e
  obtain ⟨v,e1,q⟩:=z.get hd
  have e2:=hy xs (s2.tup (s1.tup t))
  rw [e1] at e2
  cases e2
  exact ⟨F',Step.refl s2,q.mono s1⟩
 st:=fun F' H' s1 s2=>⟨xs,s2.tup (s1.tup t),by rw [z.length];exact Nat.le_refl _⟩
noncomputable def bg (lo:Int) (n:Nat):List Dat:=(List.range n).map fun k:Nat=>Dat.int (lo+k)
theorem rD {K:PySem.W.Frag} {F:Hp} {lo:Int} {n:Nat}:qZ K F (Itr lo n) (bg lo n) where
 go:=fun i F' H' s1 s2 hi=>by show i<n;simpa [bg] using hi
 yl:=fun i F' H' x H2 d s1 s2 hd hy=>by
  obtain ⟨e,hy⟩:=hy
  subst e hy
  unfold bg at hd
  rw [List.getElem?_map] at hd
  have hi:i<n:=by
   have:=(List.getElem?_eq_some_iff.mp (show ((List.range n).map fun k:Nat=>Dat.int (lo+k))[i]? =some d by rw [List.getElem?_map];exact hd)).1
   simpa using this
  rw [List.getElem?_range hi] at hd
  cases hd
  exact ⟨F',Step.refl s2,rfl⟩
 st:=fun F' H' s1 s2=>by show n<=_;simp [bg]
noncomputable def aY (i:Int):Bool:=decide (-(2^62)<=i)&&decide (i<2^62)
noncomputable def vN:List Dat->M (List Dat)
 |[.int j]=>if aY j=true then .ok (bg 0 j.toNat) else .error .stuck
 |_=>.error .stuck
noncomputable def rng2:List Dat->M (List Dat)
 |[.int i,.int j]=>if (aY i&&aY j)=true then .ok (bg i (j-i).toNat) else .error .stuck
 |_=>.error .stuck
noncomputable def mL (g:List Dat->M (List Dat)) (fr:ak->M (List Dat)):ak->M (List Dat):=fun ρ=>(fr ρ).bind g
section
variable {K:PySem.W.Frag} {W:fm} {own:Bool} {σ:St} {H:Hp} {Q:VK} {fa fb fc:ak->M Dat}
theorem ri_seq {R:It->Hp->Prop} (h:iD K W (fIt fa) σ H R):iSeq K (tD K W false fa) σ H R:=by
 obtain ⟨F,ρ,r,s,p⟩:=h
 refine bA r s (fun e he=>?_) fun a ha x F1 H1 s1 q1=>?_
 ·have z:fIt fa ρ=.error e:=by unfold fIt;rw [he];rfl
  rw [z] at p;exact p
 ·have z:fIt fa ρ=xm a:=by unfold fIt;rw [ha];rfl
  rw [z] at p
  cases a with
  |lst ds=>
   obtain ⟨b,xs,e,t,z⟩:=q1
   exact ⟨b,e,.inl ⟨⟨xs,s1.fh.lst t⟩,p _ F1 H1 s1 (zX t z)⟩⟩
  |tup ds=>
   obtain ⟨b,xs,e,t,z⟩:=q1
   exact ⟨b,e,.inr ⟨⟨xs,s1.fh.tup t⟩,p _ F1 H1 s1 (iter_tup t z)⟩⟩
  |_=>exact (W.ns p).elim
theorem ri_rng1 {fr:ak->M (List Dat)} {R:It->Hp->Prop} (h:iD K W (mL vN fr) σ H R):iRng1 (tDA K W fr) σ H R:=by
 obtain ⟨F,ρ,r,s,p⟩:=h
 refine mT r s (fun e he=>?_) fun ds hd xs F1 H1 s1 q1=>?_
 ·have z:mL vN fr ρ=.error e:=by unfold mL;rw [he];rfl
  rw [z] at p;exact p
 ·have z:mL vN fr ρ=vN ds:=by unfold mL;rw [hd];rfl
  rw [z] at p
  match ds,q1,p with
  |[.int j],⟨v,vs,e,q,t⟩,p=>
   have p':match (if aY j=true then Except.ok (bg 0 j.toNat) else Except.error Err.stuck:M (List Dat)) with
    |.ok ds=>∀J F1 H1,Step F H F1 H1->qZ K F1 J ds->R J H1
    |.error e=>W.p e F H:=p
   by_cases hj:aY j=true
   ·rw [if_pos hj] at p'
    unfold aY at hj
    simp only [Bool.and_eq_true,decide_eq_true_eq] at hj
    exact ⟨j,by rw [e,show v=.int j from q,show vs=[] from t],hj.1,hj.2,p' _ F1 H1 s1 rD⟩
   ·rw [if_neg hj] at p'
    exact (W.ns p').elim
  |[],_,p=>exact (W.ns p).elim
  |.non::_,_,p=>exact (W.ns p).elim
  |.bl _::_,_,p=>exact (W.ns p).elim
  |.str _::_,_,p=>exact (W.ns p).elim
  |.tup _::_,_,p=>exact (W.ns p).elim
  |.lst _::_,_,p=>exact (W.ns p).elim
  |.ins _ _::_,_,p=>exact (W.ns p).elim
  |.int _::_::_,_,p=>exact (W.ns p).elim
theorem ri_rng2 {fr:ak->M (List Dat)} {R:It->Hp->Prop} (h:iD K W (mL rng2 fr) σ H R):iRng2 (tDA K W fr) σ H R:=by
 obtain ⟨F,ρ,r,s,p⟩:=h
 refine mT r s (fun e he=>?_) fun ds hd xs F1 H1 s1 q1=>?_
 ·have z:mL rng2 fr ρ=.error e:=by unfold mL;rw [he];rfl
  rw [z] at p;exact p
 ·have z:mL rng2 fr ρ=rng2 ds:=by unfold mL;rw [hd];rfl
  rw [z] at p
  by_cases hds:∃i j,ds=[.int i,.int j]
  ·obtain ⟨i,j,rfl⟩:=hds
   obtain ⟨v,vs,e,q,v2,vs2,e2,q2,t⟩:=q1
   have p':match (if (aY i&&aY j)=true then Except.ok (bg i (j-i).toNat) else Except.error Err.stuck:M (List Dat)) with
    |.ok ds=>∀J F1 H1,Step F H F1 H1->qZ K F1 J ds->R J H1
    |.error e=>W.p e F H:=p
   by_cases hj:(aY i&&aY j)=true
   ·rw [if_pos hj] at p'
    unfold aY at hj
    simp only [Bool.and_eq_true,decide_eq_true_eq] at hj
    exact ⟨i,j,by rw [e,show v=.int i from q,e2,show v2=.int j from q2,show vs2=[] from t],⟨hj.1.1,hj.1.2,hj.2.1,hj.2.2⟩,p' _ F1 H1 s1 rD⟩
   ·rw [if_neg hj] at p'
    exact (W.ns p').elim
  ·have:rng2 ds=.error .stuck:=by
    unfold rng2
    split
    ·exact absurd ⟨_,_,rfl⟩ hds
    ·rfl
   rw [this] at p
   exact (W.ns p).elim
noncomputable def mI (ix:List (Option Nat)) (ρ:ak):ak:=ix.map fun o=>match o with
 |none=>none
 |some j=>(ρ[j]?).join
noncomputable def bY (p:Pat) (ft:ak->M Bool) (fe:ak->M Dat) (ρ0:ak):List Dat->M (List Dat)
 |[]=>.ok []
 |d::ds=>(eY p d ρ0).bind fun ρ=>(ft ρ).bind fun b=>if b=true then (fe ρ).bind fun y=>(bY p ft fe ρ0 ds).bind fun r=>.ok (y::r) else bY p ft fe ρ0 ds
noncomputable def mi (fi:ak->M (List Dat)) (ix:List (Option Nat)) (p:Pat) (ft:ak->M Bool) (fe:ak->M Dat):ak->M Dat:=fun ρ=>(fi ρ).bind fun ds=>if ds.length<=sizeLine then (bY p ft fe (mI ix ρ) ds).bind fun r=>.ok (.lst r) else .error .stuck
noncomputable def qP:ak->M Bool:=fun _=>.ok true
theorem oS.inS {F:Hp} {ρ:ak} (r:oS K F σ ρ) (ix:List (Option Nat)):oS K F (L2.inS ix σ) (mI ix ρ):=
 ⟨by simp [L2.inS,mI],fun i d e=>by
  unfold mI at e
  unfold L2.inS
  rw [List.getElem?_map] at e ⊢
  cases h:ix[i]? with
  |none=>rw [h] at e;cases e
  |some o=>
   rw [h] at e
   cases o with
   |none=>cases e
   |some j=>
    simp only [Option.map_some,Option.some.injEq] at e ⊢
    have e1:ρ[j]? =some (some d):=by
     cases z:ρ[j]? with
     |none=>rw [z] at e;cases e
     |some w=>rw [z] at e;simp at e;rw [e]
    obtain ⟨v,h1,h2⟩:=r.sl j d e1
    exact ⟨v,by rw [h1];rfl,h2⟩⟩
theorem vO {fi:ak->M (List Dat)} {ix:List (Option Nat)} {p:Pat} {ft:ak->M Bool} {fe:ak->M Dat} (h:tD K W true (mi fi ix p ft fe) σ H Q) :
  tComp (iD K W fi) ix (gP K p) (tDT K W ft) (tD K W false fe) σ H Q:=by
 obtain ⟨F,ρ,r,s,q⟩:=h
 refine ⟨F,ρ,r,s,?_⟩
 cases hf:fi ρ with
 |error e=>exact q.err (by unfold mi;rw [hf];rfl)
 |ok ds=>
  intro J F1 H1 s1 it
  have e0:mi fi ix p ft fe ρ=if ds.length<=sizeLine then (bY p ft fe (mI ix ρ) ds).bind fun r=>.ok (.lst r) else .error .stuck:=by unfold mi;rw [hf];rfl
  rw [e0] at q
  by_cases hl:ds.length<=sizeLine
  ·rw [if_pos hl] at q
   refine ⟨fun i m ys H2=>m=ds.length-i/\i<=ds.length/\∃F2 yd,Step F1 H1 F2 H2/\ax K F2 yd ys/\yd.length<=i /\
    (match bY p ft fe (mI ix ρ) (ds.drop i) with
     |.ok rr=>bY p ft fe (mI ix ρ) ds=.ok (yd++rr)
     |.error e=>W.p e F H),⟨ds.length,by omega,Nat.zero_le _,F1,[],Step.refl s1.fh,rfl,Nat.zero_le _,?_⟩,?_⟩
   ·rw [List.drop_zero]
    cases e:bY p ft fe (mI ix ρ) ds with
    |ok rr=>rfl
    |error x=>exact q.err (by rw [e];rfl)
   ·rintro i m ys H2 ⟨rfl,hi,F2,yd,s2,dy,ly,hc⟩
    have lys:ys.length<=sizeLine:=by rw [dy.length];omega
    by_cases hlt:i<ds.length
    ·have ed:ds.drop i=ds[i]::ds.drop (i+1):=List.drop_eq_getElem_cons hlt
     rw [ed] at hc
     refine .inr ⟨it.go i F2 H2 s2.ff s2.fh hlt,lys,fun ys' H'=>(i+1<=ds.length/\∃F2 yd,Step F1 H1 F2 H'/\ax K F2 yd ys'/\yd.length<=i+1 /\
      (match bY p ft fe (mI ix ρ) (ds.drop (i+1)) with
       |.ok rr=>bY p ft fe (mI ix ρ) ds=.ok (yd++rr)
       |.error e=>W.p e F H)),fun ys' H' n=>⟨ds.length-(i+1),by omega,rfl,n⟩,fun x H' y=>?_⟩
     obtain ⟨F3,s3,q3⟩:=it.yl i F2 H2 x H' ds[i] s2.ff s2.fh (by simp [hlt]) y
     have r3:oS K F3 (L2.inS ix σ) (mI ix ρ):=(r.mono (s1.trans (s2.trans s3)).ff).inS ix
     have st3:Step F H F3 H':=s1.trans (s2.trans s3)
     have ec:bY p ft fe (mI ix ρ) (ds[i]::ds.drop (i+1))=(eY p ds[i] (mI ix ρ)).bind fun ρ1=>(ft ρ1).bind fun b=>if b=true then (fe ρ1).bind fun y=>(bY p ft fe (mI ix ρ) (ds.drop (i+1))).bind fun r=>.ok (y::r) else bY p ft fe (mI ix ρ) (ds.drop (i+1)):=by rw [bY]
     rw [ec] at hc
     cases hb:eY p ds[i] (mI ix ρ) with
     |error e=>
      rw [hb] at hc
      have:=o7 hb
      subst this
      exact (W.ns hc).elim
     |ok ρ1=>
      rw [hb] at hc
      refine gP_run r3 s3.fh q3 hb fun σ2 r4=>?_
      have hc1:match ((ft ρ1).bind fun b=>if b=true then (fe ρ1).bind fun y=>(bY p ft fe (mI ix ρ) (ds.drop (i+1))).bind fun r=>.ok (y::r) else bY p ft fe (mI ix ρ) (ds.drop (i+1))) with
       |.ok rr=>bY p ft fe (mI ix ρ) ds=.ok (yd++rr)
       |.error e=>W.p e F H:=hc
      refine mS r4 s3.fh (fun e he=>by rw [he] at hc1;exact W.mono hc1 st3) fun b hb2 F5 H5 s5=>?_
      rw [hb2] at hc1
      cases b with
      |false=>
       have hc2:match bY p ft fe (mI ix ρ) (ds.drop (i+1)) with
        |.ok rr=>bY p ft fe (mI ix ρ) ds=.ok (yd++rr)
        |.error e=>W.p e F H:=hc1
       exact ⟨hlt,F5,yd,s2.trans (s3.trans s5),dy.mono (s3.trans s5).ff,by omega,hc2⟩
      |true=>
       have hc2:match ((fe ρ1).bind fun y=>(bY p ft fe (mI ix ρ) (ds.drop (i+1))).bind fun r=>.ok (y::r)) with
        |.ok rr=>bY p ft fe (mI ix ρ) ds=.ok (yd++rr)
        |.error e=>W.p e F H:=hc1
       refine bA (r4.mono s5.ff) s5.fh (fun e he=>by rw [he] at hc2;exact W.mono hc2 (st3.trans s5)) fun d hd v F6 H6 s6 q6=>?_
       rw [hd] at hc2
       refine ⟨hlt,F6,yd++[d],s2.trans (s3.trans (s5.trans s6)),ax.append (dy.mono (s3.trans (s5.trans s6)).ff) ⟨v,[],rfl,q6,rfl⟩,by simp;omega,?_⟩
       have hc3:match ((bY p ft fe (mI ix ρ) (ds.drop (i+1))).bind fun r=>.ok (d::r):M (List Dat)) with
        |.ok rr=>bY p ft fe (mI ix ρ) ds=.ok (yd++rr)
        |.error e=>W.p e F H:=hc2
       cases e7:bY p ft fe (mI ix ρ) (ds.drop (i+1)) with
       |ok rr=>
        rw [e7] at hc3
        show _=Except.ok ((yd++[d])++rr)
        rw [List.append_assoc]
        exact hc3
       |error x=>rw [e7] at hc3;exact hc3
    ·have:i=ds.length:=by omega
     subst this
     rw [List.drop_length] at hc
     have hc':bY p ft fe (mI ix ρ) ds=.ok (yd++[]):=hc
     rw [List.append_nil] at hc'
     rw [hc'] at q
     refine .inl ⟨it.st F2 H2 s2.ff s2.fh,lys,fun a ha=>?_⟩
     have st:Step F H F2 H2:=s1.trans s2
     exact q (.ref a) F2 _ (st.trans (Step.grow s2.fh ha)) ⟨a,ys,rfl,ao,s2.fh.free ha,st.hh.free ha,dy⟩
  ·rw [if_neg hl] at q
   exact (W.ns q).elim
end
inductive Flo where
 |nx (ρ:ak)|rt (d:Dat)|bk (ρ:ak)|ct (ρ:ak)
structure Rep (K:PySem.W.Frag) (F0 H0 FB:Hp) (O:List Nat) (F H:Hp) (σ:St) (ρ:ak):Prop where
 st:Step F0 H0 F H
 fb:aU FB F
 len:ρ.length=σ.length
 fz:∀(i:Nat) (d:Dat),ρ[i]? =some (some d)->i∉O->∃v,σ[i]? =some (some v)/\cf K F d v
 ow:∀(i:Nat) (d:Dat),ρ[i]? =some (some d)->i∈O->∃v,σ[i]? =some (some v)/\AY K F H0 H d v
 ap:∀(i j:Nat) (ds es:List Dat) (a:Addr),i∈O->j∈O->ρ[i]? =some (some (.lst ds))->ρ[j]? =some (some (.lst es))->σ[i]? =some (some (.ref a))->σ[j]? =some (some (.ref a))->i=j
noncomputable def oq (O O2:List Nat) (σ:St) (ρ:ak) (b:Addr):Prop:=∃(i:Nat) (ds:List Dat),i∈O/\i∉O2/\ρ[i]? =some (some (.lst ds))/\σ[i]? =some (some (.ref b))
open Classical in
noncomputable def plus (F H:Hp) (A:Addr->Prop):Hp:=fun b=>if A b then H b else F b
open Classical in
noncomputable def minus (F:Hp) (A:Addr->Prop):Hp:=fun b=>if A b then none else F b
theorem vP {F H:Hp} {A:Addr->Prop} {b:Addr} (h:A b):plus F H A b=H b:=by unfold plus;rw [if_pos h]
theorem kh {F H:Hp} {A:Addr->Prop} {b:Addr} (h:¬A b):plus F H A b=F b:=by unfold plus;rw [if_neg h]
theorem sT {F:Hp} {A:Addr->Prop} {b:Addr} (h:A b):minus F A b=none:=by unfold minus;rw [if_pos h]
theorem jL {F:Hp} {A:Addr->Prop} {b:Addr} (h:¬A b):minus F A b=F b:=by unfold minus;rw [if_neg h]
section
variable {K:PySem.W.Frag} {F0 H0 FB F H:Hp} {O O2:List Nat} {σ:St} {ρ:ak}
theorem Rep.own (r:Rep K F0 H0 FB O F H σ ρ) {b:Addr} (h:oq O O2 σ ρ b):F b=none/\H0 b=none/\∃xs,H b=some (.lst xs):=by
 obtain ⟨i,ds,hi,_,e1,e2⟩:=h
 obtain ⟨v,e3,a,xs,e,p,q,z,_⟩:=r.ow i _ e1 hi
 rw [e2] at e3
 cases e3
 cases e
 exact ⟨q,z,xs,p⟩
theorem Rep.mW (r:Rep K F0 H0 FB O F H σ ρ):aU F (plus F H (oq O O2 σ ρ)):=fun b o h=>by
 by_cases hb:oq O O2 σ ρ b
 ·rw [(r.own hb).1] at h;cases h
 ·rw [kh hb];exact h
theorem Rep.jl (r:Rep K F0 H0 FB O F H σ ρ):aU (plus F H (oq O O2 σ ρ)) H:=fun b o h=>by
 by_cases hb:oq O O2 σ ρ b
 ·rw [vP hb] at h;exact h
 ·rw [kh hb] at h;exact r.st.fh b o h
theorem Rep.freeze (r:Rep K F0 H0 FB O F H σ ρ) (hs:∀i∈O2,i∈O):Rep K F0 H0 FB O2 (plus F H (oq O O2 σ ρ)) H σ ρ where
 st:=⟨r.st.ff.trans r.mW,r.st.hh,r.jl,fun b o h=>by
  by_cases hb:oq O O2 σ ρ b
  ·exact .inr (r.own hb).2.1
  ·rw [kh hb] at h;exact r.st.nw b o h⟩
 fb:=r.fb.trans r.mW
 len:=r.len
 fz:=fun i d e hi=>by
  by_cases ho:i∈O
  ·obtain ⟨v,e3,q⟩:=r.ow i d e ho
   refine ⟨v,e3,?_⟩
   cases d with
   |lst ds=>
    obtain ⟨a,xs,ev,p,_,_,t⟩:=q
    subst ev
    refine ⟨a,xs,rfl,SqL.of ?_,t.mono r.mW⟩
    rw [vP ⟨i,ds,ho,hi,e,e3⟩]
    exact p
   |_=>exact cf.mono r.mW q
  ·obtain ⟨v,e3,q⟩:=r.fz i d e ho
   exact ⟨v,e3,q.mono r.mW⟩
 ow:=fun i d e hi=>by
  obtain ⟨v,e3,q⟩:=r.ow i d e (hs i hi)
  refine ⟨v,e3,?_⟩
  cases d with
  |lst ds=>
   obtain ⟨a,xs,ev,p,q,z,t⟩:=q
   subst ev
   refine ⟨a,xs,rfl,p,?_,z,t.mono r.mW⟩
   have:¬oq O O2 σ ρ a:=fun ⟨j,es,hj,hj2,f1,f2⟩=>by
    have:=r.ap i j ds es a (hs i hi) hj e f1 e3 f2
    subst this
    exact hj2 hi
   rw [kh this]
   exact q
  |_=>exact cf.mono r.mW q
 ap:=fun i j ds es a hi hj=>r.ap i j ds es a (hs i hi) (hs j hj)
theorem Rep.repE (r:Rep K F0 H0 FB [] F H σ ρ):oS K F σ ρ:=⟨r.len,fun i d e=>r.fz i d e (by simp)⟩
theorem Rep.nJ (r:Rep K F0 H0 FB O F H σ ρ):oS K (plus F H (oq O [] σ ρ)) σ ρ:=(r.freeze (O2:=[]) (by simp)).repE
noncomputable def erase:List Nat->ak->ak
 |[],ρ=>ρ
 |i::is,ρ=>erase is (ρ.set i none)
theorem uP:∀(O:List Nat) (ρ:ak),(erase O ρ).length=ρ.length
 |[],_=>rfl
 |i::is,ρ=>by rw [erase,uP,List.length_set]
theorem uQ:∀(O:List Nat) (ρ:ak) (i:Nat) (d:Dat),(erase O ρ)[i]? =some (some d)->ρ[i]? =some (some d)/\i∉O
 |[],_,_,_,h=>⟨h,by simp⟩
 |j::is,ρ,i,d,h=>by
  obtain ⟨h1,h2⟩:=uQ is (ρ.set j none) i d h
  by_cases e:j=i
  ·subst e
   have hj:j<ρ.length:=by
    have:=(List.getElem?_eq_some_iff.mp h1).1
    simpa using this
   rw [List.getElem?_set_self hj] at h1
   cases h1
  ·rw [List.getElem?_set_ne e] at h1
   exact ⟨h1,by simp [h2];omega⟩
theorem Rep.nI (r:Rep K F0 H0 FB O F H σ ρ):oS K F σ (erase O ρ):=
 ⟨by rw [uP,r.len],fun i d e=>let ⟨h1,h2⟩:=uQ O ρ i d e;r.fz i d h1 h2⟩
theorem Rep.step {F1 H1:Hp} (r:Rep K F0 H0 FB O F H σ ρ) (s:Step F H F1 H1):Rep K F0 H0 FB O F1 H1 σ ρ where
 st:=r.st.trans s
 fb:=r.fb.trans s.ff
 len:=r.len
 fz:=fun i d e hi=>let ⟨v,e3,q⟩:=r.fz i d e hi;⟨v,e3,q.mono s.ff⟩
 ow:=fun i d e hi=>by
  obtain ⟨v,e3,q⟩:=r.ow i d e hi
  refine ⟨v,e3,?_⟩
  cases d with
  |lst ds=>
   obtain ⟨a,xs,ev,p,q,z,t⟩:=q
   refine ⟨a,xs,ev,s.hh _ _ p,?_,z,t.mono s.ff⟩
   cases e1:F1 a with
   |none=>rfl
   |some o=>
    rcases s.nw a o e1 with h|h
    ·rw [q] at h;cases h
    ·rw [p] at h;cases h
  |_=>exact cf.mono s.ff q
 ap:=r.ap
theorem Rep.mU {F1 H1:Hp} (r:Rep K F0 H0 FB O F H σ ρ) (s:Step (plus F H (oq O [] σ ρ)) H F1 H1):Rep K F0 H0 FB O (minus F1 (oq O [] σ ρ)) H1 σ ρ:=by
 refine r.step ⟨fun b o h=>?_,s.hh,fun b o h=>?_,fun b o h=>?_⟩
 ·by_cases hb:oq O [] σ ρ b
  ·rw [(r.own hb).1] at h;cases h
  ·rw [jL hb];exact s.ff b o (by rw [kh hb];exact h)
 ·by_cases hb:oq O [] σ ρ b
  ·rw [sT hb] at h;cases h
  ·rw [jL hb] at h;exact s.fh b o h
 ·by_cases hb:oq O [] σ ρ b
  ·rw [sT hb] at h;cases h
  ·rw [jL hb] at h
   rcases s.nw b o h with z|z
   ·rw [kh hb] at z;exact .inl z
   ·exact .inr z
theorem Rep.uD {F1 H1:Hp} (r:Rep K F0 H0 FB O F H σ ρ) (s:Step (plus F H (oq O [] σ ρ)) H F1 H1) (a:Addr) (xs:List V) (h:SqT K F1 a xs):SqT K (minus F1 (oq O [] σ ρ)) a xs:=by
 have key:∀{b:Addr} {o:HO},F1 b=some o->(∀xs,o≠.lst xs)->minus F1 (oq O [] σ ρ) b=some o:=fun {b o} h n=>by
  by_cases hb:oq O [] σ ρ b
  ·obtain ⟨_,_,xs,e⟩:=r.own hb
   have:=s.ff b (.lst xs) (by rw [vP hb];exact e)
   rw [h] at this
   cases this
   exact absurd rfl (n xs)
  ·rw [jL hb];exact h
 rcases h with (h|⟨o,h⟩)|h
 ·exact .inl (.inl (key h (by intro xs e;cases e)))
 ·exact .inl (.inr ⟨o,key h (by intro xs e;cases e)⟩)
 ·exact .inr h
theorem Rep.set {d:Dat} {v:V} (r:Rep K F0 H0 FB O F H σ ρ) (q:cf K F d v) (i:Nat):Rep K F0 H0 FB (O.filter (· != i)) F H (σ.set i (some v)) (ρ.set i (some d)) where
 st:=r.st
 fb:=r.fb
 len:=by rw [List.length_set,List.length_set,r.len]
 fz:=fun j e h hj=>by
  by_cases hij:i=j
  ·subst hij
   have hi:i<ρ.length:=by
    have:=(List.getElem?_eq_some_iff.mp h).1
    simpa using this
   rw [List.getElem?_set_self hi] at h
   cases h
   exact ⟨v,by rw [List.getElem?_set_self (by rw [<- r.len];exact hi)],q⟩
  ·rw [List.getElem?_set_ne hij] at h
   rw [List.getElem?_set_ne hij]
   exact r.fz j e h fun z=>hj (List.mem_filter.mpr ⟨z,by simpa using Ne.symm hij⟩)
 ow:=fun j e h hj=>by
  obtain ⟨h1,h2⟩:=List.mem_filter.mp hj
  have hij:i≠j:=fun z=>by simp [z] at h2
  rw [List.getElem?_set_ne hij] at h ⊢
  exact r.ow j e h h1
 ap:=fun j k ds es a hj hk e1 e2 e3 e4=>by
  obtain ⟨j1,j2⟩:=List.mem_filter.mp hj
  obtain ⟨k1,k2⟩:=List.mem_filter.mp hk
  have hij:i≠j:=fun z=>by simp [z] at j2
  have hik:i≠k:=fun z=>by simp [z] at k2
  rw [List.getElem?_set_ne hij] at e1 e3
  rw [List.getElem?_set_ne hik] at e2 e4
  exact r.ap j k ds es a j1 k1 e1 e2 e3 e4
theorem Rep.setOwn {d:Dat} {v:V} (r:Rep K F0 H0 FB O F H σ ρ) (q:AY K F H0 H d v) (nw:∀a,v=.ref a->(∃ds,d=.lst ds)->¬oq O [i] σ ρ a):Rep K F0 H0 FB (i::O.filter (· != i)) F H (σ.set i (some v)) (ρ.set i (some d)) where
 st:=r.st
 fb:=r.fb
 len:=by rw [List.length_set,List.length_set,r.len]
 fz:=fun j e h hj=>by
  simp only [List.mem_cons,not_or] at hj
  have hij:i≠j:=fun z=>hj.1 z.symm
  rw [List.getElem?_set_ne hij] at h ⊢
  exact r.fz j e h fun z=>hj.2 (List.mem_filter.mpr ⟨z,by simpa using Ne.symm hij⟩)
 ow:=fun j e h hj=>by
  by_cases hij:i=j
  ·subst hij
   have hi:i<ρ.length:=by
    have:=(List.getElem?_eq_some_iff.mp h).1
    simpa using this
   rw [List.getElem?_set_self hi] at h
   cases h
   exact ⟨v,by rw [List.getElem?_set_self (by rw [<- r.len];exact hi)],q⟩
  ·rw [List.getElem?_set_ne hij] at h ⊢
   rcases List.mem_cons.mp hj with z|z
   ·exact absurd z.symm hij
   ·exact r.ow j e h (List.mem_filter.mp z).1
 ap:=fun j k ds es a hj hk e1 e2 e3 e4=>by
  have key:∀{k':Nat} {ds' es':List Dat},k'∈O->k'≠i->(ρ.set i (some d))[i]? =some (some (.lst ds'))->(ρ.set i (some d))[k']? =some (some (.lst es'))->(σ.set i (some v))[i]? =some (some (.ref a))->(σ.set i (some v))[k']? =some (some (.ref a))->False:=by
   intro k' ds' es' hk' hne f1 f2 f3 f4
   have hi:i<ρ.length:=by
    have:=(List.getElem?_eq_some_iff.mp f1).1
    simpa using this
   rw [List.getElem?_set_self hi] at f1
   rw [List.getElem?_set_self (by rw [<- r.len];exact hi)] at f3
   rw [List.getElem?_set_ne (Ne.symm hne)] at f2 f4
   have z1:v=.ref a:=by simpa using f3
   have z2:d=.lst ds':=by simpa using f1
   exact nw a z1 ⟨ds',z2⟩ ⟨k',es',hk',by simpa using hne,f2,f4⟩
  rcases List.mem_cons.mp hj with zj|zj
  ·rcases List.mem_cons.mp hk with zk|zk
   ·rw [zj,zk]
   ·obtain ⟨k1,k2⟩:=List.mem_filter.mp zk
    subst zj
    exact (key k1 (by simpa using k2) e1 e2 e3 e4).elim
  ·obtain ⟨j1,j2⟩:=List.mem_filter.mp zj
   have hij:i≠j:=fun z=>by simp [z] at j2
   rcases List.mem_cons.mp hk with zk|zk
   ·subst zk
    exact (key j1 (Ne.symm hij) e2 e1 e4 e3).elim
   ·obtain ⟨k1,k2⟩:=List.mem_filter.mp zk
    have hik:i≠k:=fun z=>by simp [z] at k2
    rw [List.getElem?_set_ne hij] at e1 e3
    rw [List.getElem?_set_ne hik] at e2 e4
    exact r.ap j k ds es a j1 k1 e1 e2 e3 e4
end
section
variable {K:PySem.W.Frag} {F0 H0 FB F H:Hp} {O O2:List Nat} {σ:St} {ρ:ak}
theorem Rep.my {F1 H1:Hp} (r:Rep K F0 H0 FB O F H σ ρ) (s:Step (plus F H (oq O [] σ ρ)) H F1 H1):aU F (minus F1 (oq O [] σ ρ)):=fun b o h=>by
 by_cases hb:oq O [] σ ρ b
 ·rw [(r.own hb).1] at h;cases h
 ·rw [jL hb];exact s.ff b o (by rw [kh hb];exact h)
theorem ym {i:Nat} {O:List Nat} (h:i∉O):O.filter (· != i)=O:=by
 rw [List.filter_eq_self]
 intro a ha
 simp
 intro e
 exact h (e▸ha)
theorem Rep.set' {d:Dat} {v:V} (r:Rep K F0 H0 FB O F H σ ρ) (q:cf K F d v) {i:Nat} (hi:i∉O):Rep K F0 H0 FB O F H (σ.set i (some v)) (ρ.set i (some d)):=by
 have:=r.set q i
 rw [ym hi] at this
 exact this
theorem Rep.base {FB':Hp} (r:Rep K F0 H0 FB O F H σ ρ) (s:aU FB' FB):Rep K F0 H0 FB' O F H σ ρ:=⟨r.st,s.trans r.fb,r.len,r.fz,r.ow,r.ap⟩
theorem Rep.write {i:Nat} {a:Addr} {ds ds':List Dat} {xs':List V} (r:Rep K F0 H0 FB O F H σ ρ) (hi:i∈O) (e1:ρ[i]? =some (some (.lst ds))) (e2:σ[i]? =some (some (.ref a))) (q:ax K F ds' xs'):Rep K F0 H0 FB O F (upd H a (.lst xs')) σ (ρ.set i (some (.lst ds'))):=by
 have ho:F a=none/\H0 a=none/\∃xs,H a=some (.lst xs):=r.own (O2:=[]) ⟨i,ds,hi,by simp,e1,e2⟩
 have hil:i<ρ.length:=(List.getElem?_eq_some_iff.mp e1).1
 refine ⟨⟨r.st.ff,fun b o h=>?_,fun b o h=>?_,r.st.nw⟩,r.fb,by rw [List.length_set,r.len],fun j e h hj=>?_,fun j e h hj=>?_,fun j k es fs b hj hk f1 f2 f3 f4=>?_⟩
 ·rw [ar (aM h ho.2.1)];exact r.st.hh b o h
 ·rw [ar (aM h ho.1)];exact r.st.fh b o h
 ·have hij:i≠j:=fun z=>hj (z▸hi)
  rw [List.getElem?_set_ne hij] at h
  exact r.fz j e h hj
 ·by_cases hij:i=j
  ·subst hij
   rw [List.getElem?_set_self hil] at h
   cases h
   exact ⟨.ref a,e2,a,xs',rfl,ao,ho.1,ho.2.1,q⟩
  ·rw [List.getElem?_set_ne hij] at h
   obtain ⟨v,e3,z⟩:=r.ow j e h hj
   refine ⟨v,e3,?_⟩
   cases e with
   |lst es=>
    obtain ⟨b,ys,ev,p,q1,q2,t⟩:=z
    subst ev
    have hab:b≠a:=fun z=>by
     subst z
     exact hij (r.ap i j ds es b hi hj e1 h e2 e3)
    exact ⟨b,ys,rfl,by rw [ar hab];exact p,q1,q2,t⟩
   |_=>exact z
 ·have fix:∀{j:Nat} {es:List Dat},(ρ.set i (some (.lst ds')))[j]? =some (some (.lst es))->∃es',ρ[j]? =some (some (.lst es')):=fun {j es} f=>by
   by_cases hij:i=j
   ·subst hij;exact ⟨ds,e1⟩
   ·rw [List.getElem?_set_ne hij] at f;exact ⟨es,f⟩
  obtain ⟨es',g1⟩:=fix f1
  obtain ⟨fs',g2⟩:=fix f2
  exact r.ap j k es' fs' b hj hk g1 g2 f3 f4
noncomputable def Pat.names:Pat->List Nat
 |.nm i=>[i]
 |.tp is=>is
theorem rJ {R:St->Hp->Prop}:∀{is:List Nat} {ds:List Dat} {vs:List V} {σ:St} {ρ:ak},Rep K F0 H0 FB O F H σ ρ->(∀i∈is,i∉O)->ax K F ds vs->ds.length=is.length->(∀σ',Rep K F0 H0 FB O F H σ' (lE is ds ρ)->R σ' H)->j3 is vs σ H R
 |[],[],_,σ,ρ,r,_,q,_,h=>⟨q,h σ r⟩
 |[],_::_,_,_,_,_,_,_,e,_=>by simp at e
 |_::_,[],_,_,_,_,_,_,e,_=>by simp at e
 |i::is,d::ds,_,σ,ρ,r,n,⟨v,vs,e,q,t⟩,l,h=>⟨v,vs,e,rJ (r.set' q (n i (by simp))) (fun j hj=>n j (by simp [hj])) t (by simpa using l) h⟩
theorem Ab {R:St->Hp->Prop} {p:Pat} {d:Dat} {v:V} {ρ':ak} (r:Rep K F0 H0 FB O F H σ ρ) (n:∀i∈p.names,i∉O) (q:cf K F d v) (e:eY p d ρ=.ok ρ') (h:∀σ',Rep K F0 H0 FB O F H σ' ρ'->R σ' H):gP K p v σ H R:=by
 cases p with
 |nm i=>
  have:=Except.ok.inj e
  subst this
  exact h _ (r.set' q (n i (by simp [Pat.names])))
 |tp is=>
  cases d with
  |tup ds=>
   have e':(if ds.length=is.length then Except.ok (lE is ds ρ) else Except.error Err.stuck)=Except.ok ρ':=e
   by_cases hl:ds.length=is.length
   ·rw [if_pos hl] at e'
    have:=Except.ok.inj e'
    subst this
    obtain ⟨a,xs,ev,t,z⟩:=q
    exact ⟨a,xs,ev,r.st.fh.tup t,by rw [z.length,hl],rJ r n z hl h⟩
   ·rw [if_neg hl] at e'
    cases e'
  |_=>cases e
end
noncomputable def jU (K:PySem.W.Frag) (W:fm) (ro:Bool) (F0 H0 FB:Hp) (OL O':List Nat) (D:Ends) (r:M Flo):Prop:=match r with
 |.ok (.nx ρ)=>∀σ F H,Rep K F0 H0 FB O' F H σ ρ->D.nx σ H
 |.ok (.rt d)=>∀v F H,Step F0 H0 F H->Val K ro F H0 H d v->D.rt v H
 |.ok (.bk ρ)=>∀σ F H,Rep K F0 H0 FB OL F H σ ρ->D.bk σ H
 |.ok (.ct ρ)=>∀σ F H,Rep K F0 H0 FB OL F H σ ρ->D.ct σ H
 |.error e=>W.p e F0 H0
noncomputable def tS (K:PySem.W.Frag) (W:fm) (ro:Bool) (F0 H0:Hp) (OL O O':List Nat) (g:ak->M Flo):TS:=fun D σ H=>∃FB F ρ,Rep K F0 H0 FB O F H σ ρ/\jU K W ro F0 H0 FB OL O' D (g ρ)
noncomputable def gb:ak->M Flo:=fun ρ=>.ok (.nx ρ)
noncomputable def br (g h:ak->M Flo):ak->M Flo:=fun ρ=>(g ρ).bind fun fl=>match fl with
 |.nx ρ'=>h ρ'
 |fl=>.ok fl
noncomputable def sIf (ft:ak->M Bool) (g h:ak->M Flo):ak->M Flo:=fun ρ=>(ft ρ).bind fun b=>if b=true then g ρ else h ρ
noncomputable def ma:Bool->Dat->Bool
 |true,.lst ds=>oX ds
 |_,d=>md d
noncomputable def oA (own:Bool) (i:Nat) (f:ak->M Dat):ak->M Flo:=fun ρ=>(f ρ).bind fun d=>if ma own d=true then .ok (.nx (ρ.set i (some d))) else .error .stuck
noncomputable def aI (O:List Nat) (i:Nat) (f:ak->M Dat):ak->M Flo:=fun ρ=>(f (erase O ρ)).bind fun d=>.ok (.nx (ρ.set i (some d)))
noncomputable def uf (O:List Nat) (p:Pat) (f:ak->M Dat):ak->M Flo:=fun ρ=>(f (erase O ρ)).bind fun d=>(eY p d ρ).bind fun ρ'=>.ok (.nx ρ')
noncomputable def km (ρ:ak) (i:Nat):M (List Dat):=match ρ[i]? with
 |some (some (.lst ds))=>.ok ds
 |_=>.error .stuck
noncomputable def put (ρ:ak) (i:Nat) (ds:List Dat):M Flo:=.ok (.nx (ρ.set i (some (.lst ds))))
noncomputable def mH (O:List Nat) (i:Nat) (f:ak->M Dat):ak->M Flo:=fun ρ=>(km ρ i).bind fun ds=>(f (erase O ρ)).bind fun d=>if ds.length<sizeLine then put ρ i (ds++[d]) else .error .stuck
noncomputable def asI:Dat->M Int
 |.int i=>.ok i
 |_=>.error .stuck
noncomputable def sv (i:Nat) (fi f:ak->M Dat):ak->M Flo:=fun ρ=>(f ρ).bind fun d=>(km ρ i).bind fun ds=>(fi ρ).bind fun k=>(asI k).bind fun k=>if md d=true then (match ixN ds.length k with
 |some j=>put ρ i (ds.set j d)
 |none=>.error .stuck) else .error .stuck
noncomputable def g9 (f:ak->M Dat):ak->M Flo:=fun ρ=>(f ρ).bind fun d=>.ok (.rt d)
noncomputable def isL:Dat->Bool
 |.lst _=>true
 |_=>false
noncomputable def vL (f:ak->M Dat):ak->M Flo:=fun ρ=>(f ρ).bind fun d=>if isL d=true then .error .stuck else .ok (.rt d)
noncomputable def iO (p:Pat) (g:ak->M Flo):List Dat->ak->M Flo
 |[],ρ=>.ok (.nx ρ)
 |d::ds,ρ=>(eY p d ρ).bind fun ρ1=>(g ρ1).bind fun fl=>match fl with
  |.nx ρ2=>iO p g ds ρ2
  |.ct ρ2=>iO p g ds ρ2
  |.bk ρ2=>.ok (.nx ρ2)
  |.rt d=>.ok (.rt d)
noncomputable def qz (O:List Nat) (fi:ak->M (List Dat)) (p:Pat) (g:ak->M Flo):ak->M Flo:=fun ρ=>(fi (erase O ρ)).bind fun ds=>iO p g ds ρ
noncomputable def bW (ft:ak->M Bool) (g:ak->M Flo):Nat->ak->M Flo
 |0,_=>.error .stuck
 |n+1,ρ=>(ft ρ).bind fun b=>if b=true then (g ρ).bind fun fl=>match fl with
  |.nx ρ2=>bW ft g n ρ2
  |.ct ρ2=>bW ft g n ρ2
  |.bk ρ2=>.ok (.nx ρ2)
  |.rt d=>.ok (.rt d) else .ok (.nx ρ)
section
variable {K:PySem.W.Frag} {W:fm} {ro own:Bool} {F0 H0 FB F H:Hp} {OL O O' O2:List Nat} {D:Ends} {σ:St} {ρ:ak} {g h:ak->M Flo} {f fi:ak->M Dat} {ft:ak->M Bool}
theorem jU.err {x:M Flo} {e:Err} (p:jU K W ro F0 H0 FB OL O' D x) (h:x=.error e):W.p e F0 H0:=by rw [h] at p;exact p
theorem jU.ph {x:M Flo} {e:Err} (p:jU K W ro F0 H0 FB OL O' D x) (s:Step F0 H0 F H) (h:x=.error e):W.p e F H:=W.mono (p.err h) s
theorem jU.stuck {x:M Flo} {P:Prop} (p:jU K W ro F0 H0 FB OL O' D x) (h:x=.error .stuck):P:=(W.ns (p.err h)).elim
theorem tS.enter (hs:∀i∈O2,i∈O) (t:tS K W ro F0 H0 OL O O' g D σ H):tS K W ro F0 H0 OL O2 O' g D σ H:=by
 obtain ⟨FB,F,ρ,r,p⟩:=t
 exact ⟨FB,_,ρ,r.freeze hs,p⟩
theorem rs_next (t:tS K W ro F0 H0 OL O O gb D σ H):tNext D σ H:=by
 obtain ⟨FB,F,ρ,r,p⟩:=t
 exact p σ F H r
theorem rs_seq (t:tS K W ro F0 H0 OL O O2 (br g h) D σ H):tSeq (tS K W ro F0 H0 OL O O' g) (tS K W ro F0 H0 OL O' O2 h) D σ H:=by
 obtain ⟨FB,F,ρ,r,p⟩:=t
 refine ⟨FB,F,ρ,r,?_⟩
 unfold br at p
 cases e:g ρ with
 |error x=>exact p.err (by rw [e];rfl)
 |ok fl=>
  rw [e] at p
  cases fl with
  |nx ρ'=>exact fun σ' F' H' r'=>⟨FB,F',ρ',r',p⟩
  |rt d=>exact p
  |bk ρ'=>exact p
  |ct ρ'=>exact p
theorem rs_if (t:tS K W ro F0 H0 OL O O' (sIf ft g h) D σ H):tIfS (tDT K W ft) (tS K W ro F0 H0 OL O O' g) (tS K W ro F0 H0 OL O O' h) D σ H:=by
 obtain ⟨FB,F,ρ,r,p⟩:=t
 refine mS r.nJ r.jl (fun e he=>p.ph (r.freeze (O2:=[]) (by simp)).st (by unfold sIf;rw [he];rfl)) fun b hb F1 H1 s1=>?_
 have z:sIf ft g h ρ=if b=true then g ρ else h ρ:=by unfold sIf;rw [hb];rfl
 rw [z] at p
 cases b with
 |true=>exact ⟨FB,_,ρ,r.mU s1,p⟩
 |false=>exact ⟨FB,_,ρ,r.mU s1,p⟩
noncomputable def aft (own:Bool) (i:Nat) (O:List Nat):List Nat:=if own=true then i::O.filter (· != i) else O.filter (· != i)
theorem Rep.bindV {i:Nat} {d:Dat} {v:V} {H2:Hp} (r:Rep K F0 H0 FB O F H σ ρ) (q:Val K own F H2 H d v) (h2:aU H0 H2) (nw:∀a,oq O [] σ ρ a->∃o,H2 a=some o):Rep K F0 H0 FB (aft own i O) F H (σ.set i (some v)) (ρ.set i (some d)):=by
 cases own with
 |false=>exact r.set q i
 |true=>
  refine r.setOwn (AY.back h2 q) fun a ha ⟨ds,hd⟩ z=>?_
  subst ha hd
  obtain ⟨b,xs,e,_,_,n,_⟩:=q
  cases e
  obtain ⟨j,es,h1,h2,h3,h4⟩:=z
  obtain ⟨o,ho⟩:=nw a ⟨j,es,h1,by simp,h3,h4⟩
  rw [n] at ho
  cases ho
theorem vM {i:Nat} (t:tS K W ro F0 H0 OL O (aft own i O) (aI O i f) D σ H):tAsg (tD K W own f) (pZ i) D σ H:=by
 obtain ⟨FB,F,ρ,r,p⟩:=t
 refine bA r.nI r.st.fh (fun e he=>p.ph r.st (by unfold aI;rw [he];rfl)) fun d hd v F1 H1 s1 q=>?_
 have z:aI O i f ρ=.ok (.nx (ρ.set i (some d))):=by unfold aI;rw [hd];rfl
 rw [z] at p
 exact p _ F1 H1 ((r.step s1).bindV q r.st.hh fun a ha=>let ⟨_,_,xs,e⟩:=r.own ha;⟨_,e⟩)
theorem Rep.flatV {F1 H1:Hp} {d:Dat} {v:V} (r:Rep K F0 H0 FB O F H σ ρ) (s:Step (plus F H (oq O [] σ ρ)) H F1 H1) (q:Val K own F1 H H1 d v) (fl:ma own d=true):Val K own (minus F1 (oq O [] σ ρ)) H H1 d v:=by
 have none_of:∀{a:Addr},F1 a=none->minus F1 (oq O [] σ ρ) a=none:=fun {a} h=>by
  by_cases hb:oq O [] σ ρ a
  ·exact sT hb
  ·rw [jL hb];exact h
 cases own with
 |false=>exact cf.flat (r.uD s) (by cases d<;>exact fl) q
 |true=>
  cases d with
  |lst ds=>
   obtain ⟨a,xs,e,p,n,z,t⟩:=q
   exact ⟨a,xs,e,p,none_of n,z,t.flat (r.uD s) fl⟩
  |non=>exact q
  |bl b=>exact q
  |int i=>exact q
  |str x=>exact q
  |tup ds=>exact cf.flat (d:=.tup ds) (r.uD s) fl q
  |ins C fs=>exact cf.flat (d:=.ins C fs) (r.uD s) fl q
theorem za {i:Nat} (t:tS K W ro F0 H0 OL O (aft own i O) (oA own i f) D σ H):tAsg (tD K W own f) (pZ i) D σ H:=by
 obtain ⟨FB,F,ρ,r,p⟩:=t
 refine bA r.nJ r.jl (fun e he=>p.ph (r.freeze (O2:=[]) (by simp)).st (by unfold oA;rw [he];rfl)) fun d hd v F1 H1 s1 q=>?_
 have z:oA own i f ρ=if ma own d=true then .ok (.nx (ρ.set i (some d))) else .error .stuck:=by unfold oA;rw [hd];rfl
 rw [z] at p
 by_cases hf:ma own d=true
 ·rw [if_pos hf] at p
  exact p _ _ H1 ((r.mU s1).bindV (r.flatV s1 q hf) r.st.hh fun a ha=>let ⟨_,_,xs,e⟩:=r.own ha;⟨_,e⟩)
 ·rw [if_neg hf] at p
  exact p.stuck rfl
theorem rs_unpB {pt:Pat} (n:∀i∈pt.names,i∉O) (t:tS K W ro F0 H0 OL O O (uf O pt f) D σ H):tAsg (tD K W false f) (gP K pt) D σ H:=by
 obtain ⟨FB,F,ρ,r,p⟩:=t
 refine bA r.nI r.st.fh (fun e he=>p.ph r.st (by unfold uf;rw [he];rfl)) fun d hd v F1 H1 s1 q=>?_
 have z:uf O pt f ρ=(eY pt d ρ).bind fun ρ'=>.ok (.nx ρ'):=by unfold uf;rw [hd];rfl
 rw [z] at p
 cases e:eY pt d ρ with
 |error x=>
  have:=o7 e
  subst this
  exact p.stuck (by rw [e];rfl)
 |ok ρ'=>
  rw [e] at p
  exact Ab (r.step s1) n q e fun σ' r'=>p σ' F1 H1 r'
theorem mB {i:Nat} {ds:List Dat} (h:km ρ i=.ok ds):ρ[i]? =some (some (.lst ds)):=by
 unfold km at h
 split at h
 ·cases h;assumption
 ·cases h
theorem pP {i:Nat} {e:Err} (h:km ρ i=.error e):e=.stuck:=by
 unfold km at h
 split at h
 ·cases h
 ·cases h;rfl
theorem Rep.zQ {i:Nat} {ds:List Dat} (r:Rep K F0 H0 FB O F H σ ρ) (hi:i∈O) (e:ρ[i]? =some (some (.lst ds))):∃a xs,σ[i]? =some (some (.ref a))/\H a=some (.lst xs)/\ax K F ds xs:=by
 obtain ⟨v,e3,a,xs,ev,p,_,_,t⟩:=r.ow i _ e hi
 subst ev
 exact ⟨a,xs,e3,p,t⟩
noncomputable def tApp (K:PySem.W.Frag) (i:Nat) (te:TE):TS:=tDrop (tBM K "list" zb (tVar i) (oz te tNil))
theorem rs_appB {i:Nat} (hi:i∈O) (t:tS K W ro F0 H0 OL O O (mH O i f) D σ H):tApp K i (tD K W false f) D σ H:=by
 obtain ⟨FB,F,ρ,r,p⟩:=t
 cases hl:km ρ i with
 |error e=>
  have:=pP hl
  subst this
  exact p.stuck (by unfold mH;rw [hl];rfl)
 |ok ds=>
  obtain ⟨a,xs,e2,ha,z⟩:=r.zQ hi (mB hl)
  refine ⟨.ref a,e2,wX ha,?_⟩
  refine bA r.nI r.st.fh (fun e he=>p.ph r.st (by unfold mH;rw [hl];show (f (erase O ρ)).bind _=_;rw [he];rfl)) fun d hd v F1 H1 s1 q=>?_
  have ez:mH O i f ρ=if ds.length<sizeLine then put ρ i (ds++[d]) else .error .stuck:=by unfold mH;rw [hl];show (f (erase O ρ)).bind _=_;rw [hd];rfl
  rw [ez] at p
  by_cases hs:ds.length<sizeLine
  ·rw [if_pos hs] at p
   exact ⟨a,xs,v,rfl,rfl,s1.hh _ _ ha,by rw [z.length];exact hs,p σ F1 _ ((r.step s1).write hi (mB hl) e2 (ax.append (z.mono s1.ff) ⟨v,[],rfl,q,rfl⟩))⟩
  ·rw [if_neg hs] at p
   exact p.stuck rfl
theorem rs_setI {i:Nat} (hi:i∈O) (t:tS K W ro F0 H0 OL O O (sv i fi f) D σ H):tAsg (tD K W false f) (gSub (tVar i) (tD K W false fi) rSetL) D σ H:=by
 obtain ⟨FB,F,ρ,r,p⟩:=t
 refine bA r.nJ r.jl (fun e he=>p.ph (r.freeze (O2:=[]) (by simp)).st (by unfold sv;rw [he];rfl)) fun d hd v F1 H1 s1 q=>?_
 have ez:sv i fi f ρ=(km ρ i).bind fun ds=>(fi ρ).bind fun k=>(asI k).bind fun k=>if md d=true then (match ixN ds.length k with
  |some j=>put ρ i (ds.set j d)
  |none=>.error .stuck) else .error .stuck:=by unfold sv;rw [hd];rfl
 rw [ez] at p
 cases hl:km ρ i with
 |error e=>
  have:=pP hl
  subst this
  exact p.stuck (by rw [hl];rfl)
 |ok ds=>
  rw [hl] at p
  have p:jU K W ro F0 H0 FB OL O D ((fi ρ).bind fun k=>(asI k).bind fun k=>if md d=true then (match ixN ds.length k with
   |some j=>put ρ i (ds.set j d)
   |none=>.error .stuck) else .error .stuck):=p
  have r1:=r.mU s1
  obtain ⟨a,xs,e2,ha,z⟩:=r1.zQ hi (mB hl)
  refine ⟨.ref a,e2,?_⟩
  refine bA r1.nJ r1.jl (fun e he=>p.ph (r1.freeze (O2:=[]) (by simp)).st (by rw [he];rfl)) fun k hk w F2 H2 s2 q2=>?_
  rw [hk] at p
  cases k with
  |int k=>
   have p:jU K W ro F0 H0 FB OL O D (if md d=true then (match ixN ds.length k with
    |some j=>put ρ i (ds.set j d)
    |none=>.error .stuck) else .error .stuck):=p
   by_cases hf:md d=true
   ·rw [if_pos hf] at p
    cases hj:ixN ds.length k with
    |none=>rw [hj] at p;exact p.stuck rfl
    |some j=>
     rw [hj] at p
     refine ⟨a,xs,k,j,rfl,q2,s2.hh _ _ ha,by rw [z.length];exact hj,?_⟩
     have qd:cf K (minus F1 (oq O [] σ ρ)) d v:=cf.flat (r.uD s1) hf q
     exact p σ _ _ ((r1.mU s2).write hi (mB hl) e2 (ax.set (qd.mono (r1.my s2)) j (z.mono (r1.my s2))))
   ·rw [if_neg hf] at p
    exact p.stuck rfl
  |_=>exact p.stuck rfl
theorem rs_ret (t:tS K W ro F0 H0 OL O O' (g9 f) D σ H):tRet (tD K W ro f) D σ H:=by
 obtain ⟨FB,F,ρ,r,p⟩:=t
 have rf:=r.freeze (O2:=[]) (by simp)
 refine bA r.nJ r.jl (fun e he=>p.ph rf.st (by unfold g9;rw [he];rfl)) fun d hd v F1 H1 s1 q=>?_
 have z:g9 f ρ=.ok (.rt d):=by unfold g9;rw [hd];rfl
 rw [z] at p
 exact p v F1 H1 (rf.st.trans s1) (q.back r.st.hh)
theorem rs_retN (t:tS K W true F0 H0 OL O O' (vL f) D σ H):tRet (tD K W false f) D σ H:=by
 obtain ⟨FB,F,ρ,r,p⟩:=t
 have rf:=r.freeze (O2:=[]) (by simp)
 refine bA r.nJ r.jl (fun e he=>p.ph rf.st (by unfold vL;rw [he];rfl)) fun d hd v F1 H1 s1 q=>?_
 have z:vL f ρ=if isL d=true then .error .stuck else .ok (.rt d):=by unfold vL;rw [hd];rfl
 rw [z] at p
 cases d with
 |lst ds=>exact p.stuck rfl
 |_=>exact p v F1 H1 (rf.st.trans s1) q
theorem rs_retV {i:Nat} (hi:i∈O) (t:tS K W true F0 H0 OL O O' (g9 (aa i)) D σ H):tRet (tVar i) D σ H:=by
 obtain ⟨FB,F,ρ,r,p⟩:=t
 unfold g9 aa at p
 match e:ρ[i]? with
 |some (some d)=>
  rw [e] at p
  obtain ⟨v,e3,q⟩:=r.ow i d e hi
  exact ⟨v,e3,p v F H r.st q⟩
 |some none=>rw [e] at p;exact p.stuck rfl
 |none=>rw [e] at p;exact p.stuck rfl
theorem rs_for {fs:ak->M (List Dat)} {pt:Pat} (n:∀i∈pt.names,i∉O) (t:tS K W ro F0 H0 OL O O (qz O fs pt g) D σ H):tFor (iD K W fs) (gP K pt) (tS K W ro F0 H0 O O O g) D σ H:=by
 obtain ⟨FB,F,ρ,r,p⟩:=t
 refine ⟨F,erase O ρ,r.nI,r.st.fh,?_⟩
 cases e:fs (erase O ρ) with
 |error x=>exact p.ph r.st (by unfold qz;rw [e];rfl)
 |ok ds=>
  have z:qz O fs pt g ρ=iO pt g ds ρ:=by unfold qz;rw [e];rfl
  rw [z] at p
  intro J F1 H1 s1 it
  refine ⟨fun i m σ H=>∃F ρ,Rep K F0 H0 F1 O F H σ ρ/\i<=ds.length/\m=ds.length-i/\jU K W ro F0 H0 FB OL O D (iO pt g (ds.drop i) ρ),⟨ds.length,F1,ρ,?_,Nat.zero_le _,by omega,by rw [List.drop_zero];exact p⟩,?_⟩
  ·have r1:=r.step s1
   exact ⟨r1.st,aU.refl _,r1.len,r1.fz,r1.ow,r1.ap⟩
  ·rintro i m σ2 H2 ⟨F2,ρ2,r2,hi,rfl,p2⟩
   by_cases hlt:i<ds.length
   ·have ed:ds.drop i=ds[i]::ds.drop (i+1):=List.drop_eq_getElem_cons hlt
    rw [ed] at p2
    refine .inr ⟨it.go i F2 H2 r2.fb r2.st.fh hlt,fun σ' H'=>(∃F ρ,Rep K F0 H0 F1 O F H' σ' ρ/\jU K W ro F0 H0 FB OL O D (iO pt g (ds.drop (i+1)) ρ)),fun σ' H' ⟨F,ρ,r,p⟩=>⟨ds.length-(i+1),by omega,F,ρ,r,hlt,rfl,p⟩,fun x H' y=>?_⟩
    obtain ⟨F3,s3,q3⟩:=it.yl i F2 H2 x H' ds[i] r2.fb r2.st.fh (by simp [hlt]) y
    have ef:iO pt g (ds[i]::ds.drop (i+1)) ρ2=(eY pt ds[i] ρ2).bind fun ρ1=>(g ρ1).bind fun fl=>match fl with
     |.nx ρ2=>iO pt g (ds.drop (i+1)) ρ2
     |.ct ρ2=>iO pt g (ds.drop (i+1)) ρ2
     |.bk ρ2=>.ok (.nx ρ2)
     |.rt d=>.ok (.rt d):=by rw [iO]
    rw [ef] at p2
    cases eb:eY pt ds[i] ρ2 with
    |error x=>
     have:=o7 eb
     subst this
     exact p2.stuck (by rw [eb];rfl)
    |ok ρ3=>
     rw [eb] at p2
     have p2:jU K W ro F0 H0 FB OL O D ((g ρ3).bind fun fl=>match fl with
      |.nx ρ2=>iO pt g (ds.drop (i+1)) ρ2
      |.ct ρ2=>iO pt g (ds.drop (i+1)) ρ2
      |.bk ρ2=>.ok (.nx ρ2)
      |.rt d=>.ok (.rt d)):=p2
     refine Ab (r2.step s3) n q3 eb fun σ4 r4=>⟨F1,F3,ρ3,r4,?_⟩
     have fb1:aU FB F1:=(r.step s1).fb
     cases eg:g ρ3 with
     |error x=>exact p2.err (by rw [eg];rfl)
     |ok fl=>
      rw [eg] at p2
      cases fl with
      |nx ρ5=>exact fun σ' F' H' r'=>⟨F',ρ5,r',p2⟩
      |ct ρ5=>exact fun σ' F' H' r'=>⟨F',ρ5,r',p2⟩
      |bk ρ5=>exact fun σ' F' H' r'=>p2 σ' F' H' (r'.base fb1)
      |rt d=>exact p2
   ·have:i=ds.length:=by omega
    subst this
    rw [List.drop_length] at p2
    exact .inl ⟨it.st F2 H2 r2.fb r2.st.fh,p2 σ2 F2 H2 (r2.base (r.step s1).fb)⟩
theorem rs_while {m:Nat} (t:tS K W ro F0 H0 OL O O (bW ft g m) D σ H):tWhile (tDT K W ft) (tS K W ro F0 H0 O O O g) D σ H:=by
 refine ⟨fun m σ H=>tS K W ro F0 H0 OL O O (bW ft g m) D σ H,⟨m,t⟩,?_⟩
 rintro m σ H ⟨FB,F,ρ,r,p⟩
 cases m with
 |zero=>exact p.stuck rfl
 |succ m=>
  have ez:bW ft g (m+1) ρ=(ft ρ).bind fun b=>if b=true then (g ρ).bind fun fl=>match fl with
   |.nx ρ2=>bW ft g m ρ2
   |.ct ρ2=>bW ft g m ρ2
   |.bk ρ2=>.ok (.nx ρ2)
   |.rt d=>.ok (.rt d) else .ok (.nx ρ):=by rw [bW]
  rw [ez] at p
  refine mS r.nJ r.jl (fun e he=>p.ph (r.freeze (O2:=[]) (by simp)).st (by rw [he];rfl)) fun b hb F1 H1 s1=>?_
  rw [hb] at p
  have r1:=r.mU s1
  cases b with
  |false=>exact p σ _ H1 r1
  |true=>
   have p:jU K W ro F0 H0 FB OL O D ((g ρ).bind fun fl=>match fl with
    |.nx ρ2=>bW ft g m ρ2
    |.ct ρ2=>bW ft g m ρ2
    |.bk ρ2=>.ok (.nx ρ2)
    |.rt d=>.ok (.rt d)):=p
   refine ⟨fun σ' H'=>tS K W ro F0 H0 OL O O (bW ft g m) D σ' H',fun σ' H' n=>⟨m,Nat.lt_succ_self _,n⟩,FB,_,ρ,r1,?_⟩
   cases eg:g ρ with
   |error x=>exact p.err (by rw [eg];rfl)
   |ok fl=>
    rw [eg] at p
    cases fl with
    |nx ρ5=>exact fun σ' F' H' r'=>⟨FB,F',ρ5,r',p⟩
    |ct ρ5=>exact fun σ' F' H' r'=>⟨FB,F',ρ5,r',p⟩
    |bk ρ5=>exact fun σ' F' H' r'=>p σ' F' H' r'
    |rt d=>exact p
end
noncomputable def stk {α:Type}:M α:=.error .stuck
noncomputable def lB:Dat->Dat->M Dat
 |.int i,.int j=>.ok (.int (i+j))
 |.str x,.str y=>if x.length+y.length<=sizeLine then .ok (.str (x++y)) else stk
 |.lst xs,.lst ys=>if xs.length+ys.length<=sizeLine then .ok (.lst (xs++ys)) else stk
 |.tup xs,.tup ys=>if xs.length+ys.length<=sizeLine then .ok (.tup (xs++ys)) else stk
 |_,_=>stk
noncomputable def yU:Dat->Dat->M Dat
 |.int i,.int j=>.ok (.int (i-j))
 |_,_=>stk
noncomputable def eB (i:Int):Bool:=decide (-(2^64)<i)&&decide (i<2^64)
noncomputable def qL:Dat->Dat->M Dat
 |.int i,.int j=>if (eB i||eB j)=true then .ok (.int (i*j)) else stk
 |_,_=>stk
noncomputable def mJ:Dat->Dat->M Dat
 |.int i,.int j=>if (decide (0<j)&&decide (j<18446744073709551616))=true then .ok (.int (i/j)) else stk
 |_,_=>stk
noncomputable def oo:Dat->Dat->M Dat
 |.int i,.int j=>if 0<j then .ok (.int (i%j)) else stk
 |_,_=>stk
noncomputable def powD:Dat->Dat->M Dat
 |.int i,.int j=>if (decide (0<=j)&&decide (j<=1000000)&&decide (i.natAbs<2^64))=true then .ok (.int (i^j.toNat)) else stk
 |_,_=>stk
noncomputable def negD:Dat->M Dat
 |.int i=>.ok (.int (-i))
 |_=>stk
noncomputable def ltD:Dat->Dat->M Dat
 |.int i,.int j=>.ok (.bl (decide (i<j)))
 |_,_=>stk
noncomputable def leD:Dat->Dat->M Dat
 |.int i,.int j=>.ok (.bl (decide (i<=j)))
 |_,_=>stk
noncomputable def gtD:Dat->Dat->M Dat
 |.int i,.int j=>.ok (.bl (decide (j<i)))
 |_,_=>stk
noncomputable def geD:Dat->Dat->M Dat
 |.int i,.int j=>.ok (.bl (decide (j<=i)))
 |_,_=>stk
noncomputable def b2z (b:Bool):Int:=if b then 1 else 0
mutual
noncomputable def eqD:Dat->Dat->Bool
 |.non,.non=>true
 |.bl a,.bl b=>a==b
 |.bl a,.int b=>b2z a==b
 |.int a,.bl b=>a==b2z b
 |.int a,.int b=>a==b
 |.str a,.str b=>a==b
 |.tup xs,.tup ys=>oZ xs ys
 |.lst xs,.lst ys=>oZ xs ys
 |_,_=>false
noncomputable def oZ:List Dat->List Dat->Bool
 |[],[]=>true
 |d::ds,e::es=>eqD d e&&oZ ds es
 |_,_=>false
end
mutual
noncomputable def okE:Dat->Nat->Bool
 |.tup ds,n=>(match n with
  |0=>false
  |n+1=>ki ds n)
 |.lst ds,n=>(match n with
  |0=>false
  |n+1=>ki ds n)
 |.ins _ _,_=>false
 |.non,_=>true
 |.bl _,_=>true
 |.int _,_=>true
 |.str _,_=>true
noncomputable def ki:List Dat->Nat->Bool
 |[],_=>true
 |d::ds,n=>okE d n&&ki ds n
end
noncomputable def eqM (a b:Dat):M Dat:=if (okE a 40&&okE b 40)=true then .ok (.bl (eqD a b)) else stk
noncomputable def neM (a b:Dat):M Dat:=if (okE a 40&&okE b 40)=true then .ok (.bl (!eqD a b)) else stk
noncomputable def isND:Dat->Dat->M Dat
 |.non,.non=>.ok (.bl true)
 |_,.non=>.ok (.bl false)
 |_,_=>stk
noncomputable def ni (ds:List Dat) (i:Int):M Dat:=match atI ds i with
 |some d=>.ok d
 |none=>stk
noncomputable def ixD:Dat->Dat->M Dat
 |.lst ds,.int i=>ni ds i
 |.tup ds,.int i=>ni ds i
 |_,_=>stk
noncomputable def qM:List Dat->M Dat
 |[.lst ds]=>.ok (.int ds.length)
 |[.tup ds]=>.ok (.int ds.length)
 |_=>stk
noncomputable def iK:List Dat->M (List Bool)
 |[]=>.ok []
 |d::ds=>(asB d).bind fun b=>(iK ds).bind fun r=>.ok (b::r)
noncomputable def dj:List Dat->M (List Int)
 |[]=>.ok []
 |d::ds=>(asI d).bind fun b=>(dj ds).bind fun r=>.ok (b::r)
noncomputable def allD:List Dat->M Dat
 |[.lst ds]=>(iK ds).bind fun bs=>.ok (.bl (bs.all id))
 |_=>stk
noncomputable def uG:List Dat->M Dat
 |[.lst ds]=>.ok (.lst ds)
 |[.tup ds]=>.ok (.lst ds)
 |_=>stk
noncomputable def intD:List Dat->M Dat
 |[.int i]=>.ok (.int i)
 |[.bl b]=>.ok (.int (b2z b))
 |_=>stk
noncomputable def lA (i j:Int):Int:=if j>i then j else i
noncomputable def jm (i j:Int):Int:=if j<i then j else i
noncomputable def maxL:List Int->M Dat
 |[]=>stk
 |i::is=>.ok (.int (is.foldl lA i))
noncomputable def minL:List Int->M Dat
 |[]=>stk
 |i::is=>.ok (.int (is.foldl jm i))
noncomputable def maxD:List Dat->M Dat
 |[.int i,.int j]=>.ok (.int (lA i j))
 |[.lst ds]=>(dj ds).bind maxL
 |_=>stk
noncomputable def minD:List Dat->M Dat
 |[.int i,.int j]=>.ok (.int (jm i j))
 |[.lst ds]=>(dj ds).bind minL
 |_=>stk
noncomputable def nO:Dat->M Dat
 |.int _=>.ok (.bl true)
 |.bl _=>.ok (.bl true)
 |.ins _ _=>stk
 |_=>.ok (.bl false)
noncomputable def lT:Dat->M Dat
 |.bl _=>.ok (.bl true)
 |.ins _ _=>stk
 |_=>.ok (.bl false)
noncomputable def gp:Dat->M Dat
 |.lst _=>.ok (.bl true)
 |.ins _ _=>stk
 |_=>.ok (.bl false)
noncomputable def dZ:Dat->M Dat
 |.tup _=>.ok (.bl true)
 |.ins _ _=>stk
 |_=>.ok (.bl false)
noncomputable def jO:Nat->List Dat->List Dat
 |_,[]=>[]
 |k,d::ds=>.tup [.int k,d]::jO (k+1) ds
noncomputable def lq:Dat->M (List Dat)
 |.lst ds=>.ok ds
 |_=>.error .stuck
noncomputable def uO (fa:ak->M Dat):ak->M (List Dat):=fun ρ=>(fa ρ).bind fun d=>(lq d).bind fun ds=>.ok (jO 0 ds)
noncomputable def mF:List Dat->List Dat->List Dat
 |d::ds,e::es=>.tup [d,e]::mF ds es
 |_,_=>[]
noncomputable def vo (fa fb:ak->M Dat):ak->M (List Dat):=fun ρ=>(fa ρ).bind fun a=>(fb ρ).bind fun b=>(lq a).bind fun ds=>(lq b).bind fun es=>.ok (mF ds es)
noncomputable def cw (nN n:Nat) (g:ak->M Flo) (ds:List Dat):M Dat:=if ds.length=n then (g (ds.map some++List.replicate (nN-ds.length) none)).bind fun fl=>match fl with
 |.nx _=>.ok .non
 |.rt d=>.ok d
 |_=>stk else stk
noncomputable def zr (ds:List Dat) (k:Dat):M (Dat×List Dat):=(asI k).bind fun k=>if sizeLine<ds.length then stk else match ixN ds.length k with
 |some j=>match ds[j]? with
  |some d=>.ok (d,ds.eraseIdx j)
  |none=>stk
 |none=>stk
noncomputable def yY (i:Nat) (pt:Pat) (fk:ak->M Dat):ak->M Flo:=fun ρ=>(km ρ i).bind fun ds=>(fk ρ).bind fun k=>(zr ds k).bind fun p=>(eY pt p.1 (ρ.set i (some (.lst p.2)))).bind fun ρ'=>.ok (.nx ρ')
@[simp] theorem au {α β:Type} (a:α) (f:α->M β):Except.bind (Except.ok a:M α) f=f a:=id rfl
@[simp] theorem kM {α β:Type} (e:Err) (f:α->M β):Except.bind (Except.error e:M α) f=.error e:=id rfl
@[simp] theorem nP:∀is:List Int,dj (is.map Dat.int)=.ok is
 |[]=>rfl
 |i::is=>by simp [dj,asI,nP is]
@[simp] theorem yr:∀is:List Bool,iK (is.map Dat.bl)=.ok is
 |[]=>rfl
 |i::is=>by simp [iK,asB,yr is]
@[simp] theorem wb:∀is:List Int,oX (is.map Dat.int)=true
 |[]=>rfl
 |i::is=>by simp [oX,md,wb is]
theorem iX {ds:List Dat} {k:Nat} (h:k<ds.length):ni ds (k:Int)=.ok ds[k]:=by
 unfold ni atI ixN
 rw [if_pos (by omega),if_pos (by omega)]
 simp [h]
theorem getI_int {is:List Int} {k:Int} (h0:0<=k) (h:k<is.length):ni (is.map Dat.int) k=.ok (.int (is[k.toNat]'(by omega))):=by
 have hj:k.toNat<(is.map Dat.int).length:=by simp;omega
 have e:k=(k.toNat:Int):=by omega
 have:=iX hj
 rw [<- e] at this
 rw [this]
 simp
theorem eO {p:Pat} {g:ak->M Flo} (P:Nat->ak->Prop):∀(ds:List Dat) (k:Nat) (ρ:ak),P k ρ ->
  (∀(i:Nat) (d:Dat) (ρ:ak),ds[i]? =some d->P (k+i) ρ->∃ρ1,eY p d ρ=.ok ρ1/\∃ρ2,(g ρ1=.ok (.nx ρ2)\/g ρ1=.ok (.ct ρ2))/\P (k+i+1) ρ2)->∃ρ',iO p g ds ρ=.ok (.nx ρ')/\P (k+ds.length) ρ'
 |[],k,ρ,h,_=>⟨ρ,rfl,h⟩
 |d::ds,k,ρ,h,st=>by
  obtain ⟨ρ1,e1,ρ2,e2,h2⟩:=st 0 d ρ rfl h
  obtain ⟨ρ',e3,h3⟩:=eO P ds (k+1) ρ2 h2 fun i d' ρ he hp=>by
   have:=st (i+1) d' ρ (by simpa using he) (by rw [show k+(i+1)=k+1+i by omega];exact hp)
   rw [show k+(i+1)+1=k+1+i+1 by omega] at this
   exact this
  refine ⟨ρ',?_,by rw [show k+(d::ds).length=k+1+ds.length by simp;omega];exact h3⟩
  rw [iO,e1]
  rcases e2 with e2|e2
  ·simp only [au,e2];exact e3
  ·simp only [au,e2];exact e3
theorem jS {p:Pat} {fe:ak->M Dat} {ρ0:ak} (f:Dat->Dat):∀(ds:List Dat),(∀d∈ds,∃ρ,eY p d ρ0=.ok ρ/\fe ρ=.ok (f d))->bY p qP fe ρ0 ds=.ok (ds.map f)
 |[],_=>rfl
 |d::ds,h=>by
  obtain ⟨ρ,e1,e2⟩:=h d (by simp)
  rw [bY,e1]
  simp only [au,qP,e2,jS f ds fun x hx=>h x (by simp [hx])]
  simp
@[simp] theorem small_def (i:Int):eB i=(decide (-(2^64)<i)&&decide (i<2^64)):=id rfl
@[simp] theorem rj (i:Int):aY i=(decide (-(2^62)<=i)&&decide (i<2^62)):=id rfl
@[simp] theorem eqDs_nilR (ds:List Dat):oZ ds []=ds.isEmpty:=by cases ds<;>rfl
section
variable {ρ:ak} {fa fb fc:ak->M Dat} {fr:ak->M (List Dat)} {ft fu:ak->M Bool} {g h:ak->M Flo}
@[simp] theorem Ai (d:Dat) (r:ak):aa 0 (some d::r)=.ok d:=id rfl
@[simp] theorem Ah (i:Nat) (o:Option Dat) (r:ak):aa (i+1) (o::r)=aa i r:=by simp [aa]
@[simp] theorem e_c (d:Dat):fC d ρ=.ok d:=id rfl
@[simp] theorem e_1 (k:Dat->M Dat):f1 k fa ρ=(fa ρ).bind k:=id rfl
@[simp] theorem e_2 (k:Dat->Dat->M Dat):f2 k fa fb ρ=(fa ρ).bind fun a=>(fb ρ).bind fun b=>k a b:=id rfl
@[simp] theorem e_nil:aJ ρ=.ok []:=id rfl
@[simp] theorem e_cons:a9 fa fr ρ=(fa ρ).bind fun a=>(fr ρ).bind fun r=>.ok (a::r):=id rfl
@[simp] theorem e_L (k:List Dat->M Dat):fL k fr ρ=(fr ρ).bind k:=id rfl
@[simp] theorem e_ite:fIte ft fa fb ρ=(ft ρ).bind fun b=>if b=true then fa ρ else fb ρ:=id rfl
@[simp] theorem e_and:fAnd ft fu ρ=(ft ρ).bind fun b=>if b=true then fu ρ else .ok false:=id rfl
@[simp] theorem e_or:fOr ft fu ρ=(ft ρ).bind fun b=>if b=true then .ok true else fu ρ:=id rfl
@[simp] theorem e_not:vp ft ρ=(ft ρ).bind fun b=>.ok (!b):=id rfl
@[simp] theorem e_B:fB fa ρ=(fa ρ).bind asB:=id rfl
@[simp] theorem e_andV:qQ fa fb ρ=(fa ρ).bind fun a=>(asB a).bind fun b=>if b=true then fb ρ else .ok (.bl false):=id rfl
@[simp] theorem e_tru:rK fa ρ=(fa ρ).bind truD:=id rfl
@[simp] theorem e_chain (k k':Dat->Dat->M Dat):j5 k k' fa fb fc ρ=(fa ρ).bind fun a=>(fb ρ).bind fun b=>(k a b).bind fun x=>(asB x).bind fun z=>if z=true then (fc ρ).bind fun c=>k' b c else .ok (.bl false):=id rfl
@[simp] theorem e_yes:qP ρ=.ok true:=id rfl
@[simp] theorem e_it:fIt fa ρ=(fa ρ).bind xm:=id rfl
@[simp] theorem e_rng (k:List Dat->M (List Dat)):mL k fr ρ=(fr ρ).bind k:=id rfl
@[simp] theorem e_enum:uO fa ρ=(fa ρ).bind fun d=>(lq d).bind fun ds=>.ok (jO 0 ds):=id rfl
@[simp] theorem e_zip:vo fa fb ρ=(fa ρ).bind fun a=>(fb ρ).bind fun b=>(lq a).bind fun ds=>(lq b).bind fun es=>.ok (mF ds es):=id rfl
@[simp] theorem e_comp (fi:ak->M (List Dat)) (ix:List (Option Nat)) (p:Pat):mi fi ix p ft fa ρ=(fi ρ).bind fun ds=>if ds.length<=sizeLine then (bY p ft fa (mI ix ρ) ds).bind fun r=>.ok (.lst r) else .error .stuck:=id rfl
@[simp] theorem e_asB (b:Bool):asB (.bl b)=.ok b:=id rfl
@[simp] theorem e_asI (b:Int):asI (.int b)=.ok b:=id rfl
@[simp] theorem e_itemsL (ds:List Dat):xm (.lst ds)=.ok ds:=id rfl
@[simp] theorem e_itL (ds:List Dat):lq (.lst ds)=.ok ds:=id rfl
@[simp] theorem e_notD (b:Bool):notD (.bl b)=.ok (.bl (!b)):=id rfl
@[simp] theorem e_truB (b:Bool):truD (.bl b)=.ok b:=id rfl
@[simp] theorem e_truL (ds:List Dat):truD (.lst ds)=.ok (!ds.isEmpty):=id rfl
@[simp] theorem e_addI (i j:Int):lB (.int i) (.int j)=.ok (.int (i+j)):=id rfl
@[simp] theorem e_subI (i j:Int):yU (.int i) (.int j)=.ok (.int (i-j)):=id rfl
@[simp] theorem e_negI (i:Int):negD (.int i)=.ok (.int (-i)):=id rfl
@[simp] theorem e_ltI (i j:Int):ltD (.int i) (.int j)=.ok (.bl (decide (i<j))):=id rfl
@[simp] theorem e_leI (i j:Int):leD (.int i) (.int j)=.ok (.bl (decide (i<=j))):=id rfl
@[simp] theorem e_gtI (i j:Int):gtD (.int i) (.int j)=.ok (.bl (decide (j<i))):=id rfl
@[simp] theorem e_geI (i j:Int):geD (.int i) (.int j)=.ok (.bl (decide (j<=i))):=id rfl
@[simp] theorem e_ixL (ds:List Dat) (i:Int):ixD (.lst ds) (.int i)=ni ds i:=id rfl
@[simp] theorem e_ixT (ds:List Dat) (i:Int):ixD (.tup ds) (.int i)=ni ds i:=id rfl
@[simp] theorem e_lenL (ds:List Dat):qM [.lst ds]=.ok (.int ds.length):=id rfl
@[simp] theorem e_all (ds:List Dat):allD [.lst ds]=(iK ds).bind fun bs=>.ok (.bl (bs.all id)):=id rfl
@[simp] theorem e_listL (ds:List Dat):uG [.lst ds]=.ok (.lst ds):=id rfl
@[simp] theorem e_intB (b:Bool):intD [.bl b]=.ok (.int (b2z b)):=id rfl
@[simp] theorem e_max2 (i j:Int):maxD [.int i,.int j]=.ok (.int (lA i j)):=id rfl
@[simp] theorem e_min2 (i j:Int):minD [.int i,.int j]=.ok (.int (jm i j)):=id rfl
@[simp] theorem e_maxL (ds:List Dat):maxD [.lst ds]=(dj ds).bind maxL:=id rfl
@[simp] theorem e_minL (ds:List Dat):minD [.lst ds]=(dj ds).bind minL:=id rfl
@[simp] theorem e_isiBI (i:Int):lT (.int i)=.ok (.bl false):=id rfl
@[simp] theorem e_isiII (i:Int):nO (.int i)=.ok (.bl true):=id rfl
@[simp] theorem e_isiLL (ds:List Dat):gp (.lst ds)=.ok (.bl true):=id rfl
@[simp] theorem e_isN (d:Dat):isND d .non=.ok (.bl (match d with|.non=>true|_=>false)):=by cases d<;>rfl
@[simp] theorem e_next:gb ρ=.ok (.nx ρ):=id rfl
@[simp] theorem e_seq:br g h ρ=(g ρ).bind fun fl=>match fl with
 |.nx ρ'=>h ρ'
 |fl=>.ok fl:=id rfl
@[simp] theorem e_if:sIf ft g h ρ=(ft ρ).bind fun b=>if b=true then g ρ else h ρ:=id rfl
@[simp] theorem e_setB (O:List Nat) (i:Nat):aI O i fa ρ=(fa (erase O ρ)).bind fun d=>.ok (.nx (ρ.set i (some d))):=id rfl
@[simp] theorem e_setA (own:Bool) (i:Nat):oA own i fa ρ=(fa ρ).bind fun d=>if ma own d=true then .ok (.nx (ρ.set i (some d))) else .error .stuck:=id rfl
@[simp] theorem e_ret:g9 fa ρ=(fa ρ).bind fun d=>.ok (.rt d):=id rfl
@[simp] theorem e_retN:vL fa ρ=(fa ρ).bind fun d=>if isL d=true then .error .stuck else .ok (.rt d):=id rfl
@[simp] theorem e_for (O:List Nat) (fi:ak->M (List Dat)) (p:Pat):qz O fi p g ρ=(fi (erase O ρ)).bind fun ds=>iO p g ds ρ:=id rfl
@[simp] theorem e_unpB (O:List Nat) (p:Pat):uf O p fa ρ=(fa (erase O ρ)).bind fun d=>(eY p d ρ).bind fun ρ'=>.ok (.nx ρ'):=id rfl
@[simp] theorem e_appB (O:List Nat) (i:Nat):mH O i fa ρ=(km ρ i).bind fun ds=>(fa (erase O ρ)).bind fun d=>if ds.length<sizeLine then put ρ i (ds++[d]) else .error .stuck:=id rfl
@[simp] theorem e_setI (i:Nat):sv i fb fa ρ=(fa ρ).bind fun d=>(km ρ i).bind fun ds=>(fb ρ).bind fun k=>(asI k).bind fun k=>if md d=true then (match ixN ds.length k with
 |some j=>put ρ i (ds.set j d)
 |none=>.error .stuck) else .error .stuck:=id rfl
@[simp] theorem e_popU (i:Nat) (pt:Pat):yY i pt fa ρ=(km ρ i).bind fun ds=>(fa ρ).bind fun k=>(zr ds k).bind fun p=>(eY pt p.1 (ρ.set i (some (.lst p.2)))).bind fun ρ'=>.ok (.nx ρ'):=id rfl
@[simp] theorem e_put (i:Nat) (ds:List Dat):put ρ i ds=.ok (.nx (ρ.set i (some (.lst ds)))):=id rfl
@[simp] theorem e_lst0 (ds:List Dat) (r:ak):km (some (.lst ds)::r) 0=.ok ds:=id rfl
@[simp] theorem e_lstS (i:Nat) (o:Option Dat) (r:ak):km (o::r) (i+1)=km r i:=by simp [km]
@[simp] theorem e_er0:erase [] ρ=ρ:=id rfl
@[simp] theorem e_erS (i:Nat) (O:List Nat):erase (i::O) ρ=erase O (ρ.set i none):=id rfl
@[simp] theorem e_bnm (i:Nat) (d:Dat):eY (.nm i) d ρ=.ok (ρ.set i (some d)):=id rfl
@[simp] theorem e_btp (is:List Nat) (ds:List Dat):eY (.tp is) (.tup ds) ρ=if ds.length=is.length then .ok (lE is ds ρ) else .error .stuck:=id rfl
@[simp] theorem e_sa0 (ds:List Dat):lE [] ds ρ=ρ:=by cases ds<;>rfl
@[simp] theorem e_saS (i:Nat) (is:List Nat) (d:Dat) (ds:List Dat):lE (i::is) (d::ds) ρ=lE is ds (ρ.set i (some d)):=id rfl
@[simp] theorem e_in0:mI [] ρ=[]:=id rfl
@[simp] theorem e_inN (ix:List (Option Nat)):mI (none::ix) ρ=none::mI ix ρ:=id rfl
@[simp] theorem e_inS (j:Nat) (ix:List (Option Nat)):mI (some j::ix) ρ=(ρ[j]?).join::mI ix ρ:=id rfl
@[simp] theorem e_tup (ds:List Dat):jK ds=if ds.length<=sizeLine then .ok (.tup ds) else .error .stuck:=id rfl
@[simp] theorem e_lst (ds:List Dat):dv ds=if ds.length<=sizeLine then .ok (.lst ds) else .error .stuck:=id rfl
@[simp] theorem e_line:sizeLine=16777216:=sizeLine_eq
@[simp] theorem e_run (a b:Nat) (ds:List Dat):cw a b g ds=if ds.length=b then (g (ds.map some++List.replicate (a-ds.length) none)).bind fun fl=>match fl with
 |.nx _=>.ok .non
 |.rt d=>.ok d
 |_=>stk else stk:=id rfl
@[simp] theorem e_rng1 {j:Int} (h:aY j=true):vN [.int j]=.ok (bg 0 j.toNat):=by show (if aY j=true then _ else _)=_;rw [if_pos h]
@[simp] theorem e_rng2 {i j:Int} (h:aY i=true) (h2:aY j=true):rng2 [.int i,.int j]=.ok (bg i (j-i).toNat):=by show (if (aY i&&aY j)=true then _ else _)=_;rw [h,h2,Bool.and_true,if_pos rfl]
@[simp] theorem qR {i j:Int} (h:0<j):oo (.int i) (.int j)=.ok (.int (i%j)):=by simp [oo,h]
@[simp] theorem e_fdiv {i j:Int} (h:0<j) (h2:j<18446744073709551616):mJ (.int i) (.int j)=.ok (.int (i/j)):=by simp [mJ,h,h2]
@[simp] theorem e_mulR {i j:Int} (h:eB j=true):qL (.int i) (.int j)=.ok (.int (i*j)):=by show (if (eB i||eB j)=true then _ else _)=_;rw [h,Bool.or_true,if_pos rfl]
@[simp] theorem e_mulL {i j:Int} (h:eB i=true):qL (.int i) (.int j)=.ok (.int (i*j)):=by show (if (eB i||eB j)=true then _ else _)=_;rw [h,Bool.true_or,if_pos rfl]
end
end L2
namespace L2
open PySem PySem.Spec PyProof.Rows
section
variable {X:Cx} {K:PySem.W.Frag} {W:fm} {own ro:Bool} {e a b c:Expr} {es rest:List Expr} {x:Str} {pos p:Pos} {f fa fb fc:ak->M Dat} {fr:ak->M (List Dat)} {ft fu:ak->M Bool}
theorem PE.imp {t t':TE} (h:PE X e t) (q:∀σ H Q,t' σ H Q->t σ H Q):PE X e t':=fun pins s σ H Q I z=>h pins s σ H Q I (q σ H Q z)
theorem PT.imp {t t':TT} (h:PT X e t) (q:∀σ H Q,t' σ H Q->t σ H Q):PT X e t':=fun pins s σ H Q I z=>h pins s σ H Q I (q σ H Q z)
theorem PW.imp {t t':TT} (h:PW X e t) (q:∀σ H Q,t' σ H Q->t σ H Q):PW X e t':=fun wh pins s σ H Q I z=>h wh pins s σ H Q I (q σ H Q z)
theorem PA.imp {t t':TA} (h:PA X es t) (q:∀σ H Q,t' σ H Q->t σ H Q):PA X es t':=fun ps pins s σ H Q I z=>h ps pins s σ H Q I (q σ H Q z)
theorem PI.imp {tg:Expr} {t t':TI} (h:PI X tg e t) (q:∀σ H Q,t' σ H Q->t σ H Q):PI X tg e t':=fun pins s σ H Q I z=>h pins s σ H Q I (q σ H Q z)
theorem PS.imp {st:Stmt} {t t':TS} (h:PS X st t) (q:∀D σ H,t' D σ H->t D σ H):PS X st t':=fun pins s σ H D I z=>h pins s σ H D I (q D σ H z)
theorem PSs.imp {st:List Stmt} {t t':TS} (h:PSs X st t) (q:∀D σ H,t' D σ H->t D σ H):PSs X st t':=fun pins s σ H D I z=>h pins s σ H D I (q D σ H z)
noncomputable abbrev DE (K:PySem.W.Frag) (W:fm) (own:Bool) (X:Cx) (e:Expr) (f:ak->M Dat):Prop:=PE X e (tD K W own f)
noncomputable abbrev DT (K:PySem.W.Frag) (W:fm) (X:Cx) (e:Expr) (f:ak->M Bool):Prop:=PT X e (tDT K W f)
noncomputable abbrev DW (K:PySem.W.Frag) (W:fm) (X:Cx) (e:Expr) (f:ak->M Bool):Prop:=PW X e (tDT K W f)
noncomputable abbrev DA (K:PySem.W.Frag) (W:fm) (X:Cx) (es:List Expr) (f:ak->M (List Dat)):Prop:=PA X es (tDA K W f)
noncomputable abbrev DI (K:PySem.W.Frag) (W:fm) (X:Cx) (tg e:Expr) (f:ak->M (List Dat)):Prop:=PI X tg e (iD K W f)
noncomputable abbrev DG (K:PySem.W.Frag) (X:Cx) (tg:Expr) (p:Pat):Prop:=PG X tg (gP K p)
noncomputable abbrev DS (K:PySem.W.Frag) (W:fm) (ro:Bool) (X:Cx) (OL O O':List Nat) (st:Stmt) (g:ak->M Flo):Prop:=∀F0 H0:Hp,PS X st (tS K W ro F0 H0 OL O O' g)
noncomputable abbrev DSs (K:PySem.W.Frag) (W:fm) (ro:Bool) (X:Cx) (OL O O':List Nat) (st:List Stmt) (g:ak->M Flo):Prop:=∀F0 H0:Hp,PSs X st (tS K W ro F0 H0 OL O O' g)
noncomputable abbrev Op2 (K:PySem.W.Frag) (W:fm) (own:Bool) (X:Cx) (o:Value->Value->Sem Value) (g:Dat->Dat->M Dat):Prop:=OpR X o (rD2 K W own g)
noncomputable abbrev tQ (K:PySem.W.Frag) (W:fm) (own:Bool) (X:Cx) (v:Value) (g:List Dat->M Dat):Prop:=dS X v (rDL K W own g)
theorem aj (i:Nat) (hN:X.N[i]? =some x:=by rfl) (hv:Vis X.env.scope x:=by first|exact Or.inl rfl|exact Or.inr (Or.inl rfl)|exact Or.inr (Or.inr rfl)) (hd:(x==("__debug__":Str))=false:=by decide)
  (hcd:(x==("__classdict__":Str))=false:=by decide):DE K W false X (.Name x pos) (aa i):=(pv i hN hv hd hcd).imp fun _ _ _=>rd_var
theorem ae {i:Int} {j}:DE K W false X (.Constant (.int i) j pos) (fC (.int i)):=pe_int.imp fun _ _ _=>rd_c fun _=>rfl
theorem oQ {k:Bool} {j}:DE K W false X (.Constant (.bool k) j pos) (fC (.bl k)):=pe_bl.imp fun _ _ _=>rd_c fun _=>rfl
theorem xv {j}:DE K W false X (.Constant .none j pos) (fC .non):=pe_non.imp fun _ _ _=>rd_c fun _=>rfl
theorem Ar {n:Int} (hm:∃t,X.mg x=some (.int n t)) (hg:Gl X x:=by rfl) (hd:(x==("__debug__":Str))=false:=by decide):DE K W false X (.Name x pos) (fC (.int n)):=(pe_gint hg hm hd).imp fun _ _ _=>rd_c fun _=>rfl
theorem aD (h:DE K W true X e f):DE K W false X e f:=PE.imp h fun _ _ _ ⟨F,ρ,r,s,p⟩=>⟨F,ρ,r,s,p.frz⟩
theorem aB {op:Operator} {g:Dat->Dat->M Dat} (ho:Op2 K W own X (binaryOp op) g) (ha:DE K W false X a fa) (hb:DE K W false X b fb):DE K W own X (.BinOp a op b pos) (f2 g fa fb):=(pe_op ho ha hb).imp fun _ _ _=>rd_2
theorem uV {op:UnaryOp} {g:Dat->M Dat} (ho:UnR X (unaryOp op) (rD1 K W own g)) (ha:DE K W false X a fa):DE K W own X (.UnaryOp op a pos) (f1 g fa):=(pe_un ho ha).imp fun _ _ _=>rd_1
theorem qf {op:CmpOp} {g:Dat->Dat->M Dat} (ho:Op2 K W false X (compareOp op) g) (ha:DE K W false X a fa) (hb:DE K W false X b fb) (hm:behindInMarks op b=false:=by first|exact zL _|with_unfolding_all rfl):DE K W false X (.Compare a [op] [b] pos) (f2 g fa fb):=
 (pe_cmpR ho ha hb hm).imp fun _ _ _=>rd_2
theorem e9 {op:CmpOp} {g:Dat->Dat->M Dat} (ho:Op2 K W false X (compareOp op) g) (ha:DE K W false X a fa) (hb:DE K W false X b fb) (hm:behindInMarks op b=false:=by first|exact zL _|with_unfolding_all rfl):DT K W X (.Compare a [op] [b] pos) (fB (f2 g fa fb)):=
 (zf ho ha hb hm).imp fun σ H Q h=>by
  have q:=rd_B h
  exact rd_2 (own:=false) q
theorem de_chain {op op':CmpOp} {g g':Dat->Dat->M Dat} (ho:Op2 K W false X (compareOp op) g) (ho':Op2 K W false X (compareOp op') g') (ha:DE K W false X a fa) (hb:DE K W false X b fb) (hc:DE K W false X c fc)
  (hm:lastMarks [op,op'] [b,c]=false:=by with_unfolding_all rfl):DE K W false X (.Compare a [op,op'] [b,c] pos) (j5 g g' fa fb fc):=(pe_chain ho ho' ha hb hc hm).imp fun _ _ _=>xc
theorem nX {op op':CmpOp} {g g':Dat->Dat->M Dat} (ho:Op2 K W false X (compareOp op) g) (ho':Op2 K W false X (compareOp op') g') (ha:DE K W false X a fa) (hb:DE K W false X b fb) (hc:DE K W false X c fc)
  (hm:lastMarks [op,op'] [b,c]=false:=by with_unfolding_all rfl):DT K W X (.Compare a [op,op'] [b,c] pos) (fB (j5 g g' fa fb fc)):=(pt_chain ho ho' ha hb hc hm).imp fun σ H Q h=>by
  have q:=rd_B h
  exact xc q
theorem jP (ha:DE K W false X a fa) (hK:X.K=K:=by rfl) (he:∀whole,isTrue a X.env whole=(do let v <- whole;standAt a.pos;holding [v] (truthy v)):=by intro _;rfl):DT K W X a (rK fa):=by
 subst hK
 exact (pt_truth ha he).imp fun _ _ _=>rd_tru
theorem nW (ha:DT K W X a ft):DT K W X (.UnaryOp .Not a pos) (vp ft):=(pt_not ha).imp fun _ _ _=>rd_not
theorem dw_and1 (ha:DT K W X a ft):DW K W X (.BoolOp .And [a] pos) ft:=pw_and1 ha
theorem uT (ha:DT K W X a ft):DW K W X (.BoolOp .Or [a] pos) ft:=pw_or1 ha
theorem dw_and (ha:DT K W X a ft) (hb:DW K W X (.BoolOp .And (b::rest) pos) fu):DW K W X (.BoolOp .And (a::b::rest) pos) (fAnd ft fu):=(pw_and ha hb).imp fun _ _ _=>rd_and
theorem wd (ha:DT K W X a ft) (hb:DW K W X (.BoolOp .Or (b::rest) pos) fu):DW K W X (.BoolOp .Or (a::b::rest) pos) (fOr ft fu):=(pw_or ha hb).imp fun _ _ _=>rd_or
theorem Aq {op} (h:DE K W false X a f):DE K W false X (.BoolOp op [a] pos) f:=pe_one h
theorem xx (ha:DE K W false X a fa) (hb:DE K W false X (.BoolOp .And (b::rest) pos) fb):DE K W false X (.BoolOp .And (a::b::rest) pos) (qQ fa fb):=(pe_and ha hb).imp fun _ _ _=>rd_andV
theorem de_not (ha:DE K W false X a fa):DE K W false X (.UnaryOp .Not a pos) (f1 notD fa):=(pe_not ha).imp fun _ _ _=>rd_notV
theorem de_ite (hc:DT K W X c ft) (ha:DE K W own X a fa) (hb:DE K W own X b fb):DE K W own X (.IfExp c a b pos) (fIte ft fa fb):=(pe_ifExp hc ha hb).imp fun _ _ _=>rd_ite
theorem ai:DA K W X [] aJ:=eF.imp fun _ _ _=>rd_nil
theorem a8 (ha:DE K W false X e fa) (hr:DA K W X es fr) (hs:starEach (e::es) X.env=(false,eval e X.env)::starEach es X.env:=by rfl):DA K W X (e::es) (a9 fa fr):=(aX ha hr hs).imp fun _ _ _=>rd_cons
theorem j6 {x1} (h:DA K W X es fr):DE K W own X (.Tuple es x1 pos) (fL jK fr):=(zy h).imp fun _ _ _=>rd_tup
theorem cH (h:DA K W X es fr):DE K W true X (.List es pos) (fL dv fr):=(pe_lst h).imp fun _ _ _=>rd_lst
theorem aH {id:String} {g:List Dat->M Dat} (hc:tQ K W own X (.builtin id) g) (hm:X.mg x=none) (hv:bootBuiltins x=some (.builtin id)) (ha:DA K W X (e::es) fr) (hg:Gl X x:=by rfl) (hn:x≠"__name__":=by decide) (hdb:(x==("__debug__":Str))=false:=by decide)
  (hst:starEach (e::es) X.env=(false,eval e X.env)::starEach es X.env:=by rfl) (hpl:(backTo pos (starEach es X.env)).any (·.1)=false:=by rfl):DE K W own X (.Call (.Name x p) (e::es) [] pos) (fL g fr):=
 (fO hc hg hm hv ha hn hdb hst hpl).imp fun _ _ _=>rd_L
theorem jQ {T:String} {g:List Dat->M Dat} (hc:tQ K W own X (.type T) g) (hm:X.mg x=none) (hv:bootBuiltins x=some (.type T)) (ha:DA K W X (e::es) fr) (hg:Gl X x:=by rfl) (hn:x≠"__name__":=by decide) (hdb:(x==("__debug__":Str))=false:=by decide)
  (hst:starEach (e::es) X.env=(false,eval e X.env)::starEach es X.env:=by rfl) (hpl:(backTo pos (starEach es X.env)).any (·.1)=false:=by rfl):DE K W own X (.Call (.Name x p) (e::es) [] pos) (fL g fr):=
 (zC hc hg hm hv ha hn hdb hst hpl).imp fun _ _ _=>rd_L
theorem ay {g:Dat->Dat->M Dat} (hr:IxR X (rD2 K W own g)) (ha:DE K W false X a fa) (hb:DE K W false X b fb) (hs:AX b:=by exact fun _ _=>rfl):DE K W own X (.Subscript a b pos) (f2 g fa fb):=(pe_ix hr ha hb hs).imp fun _ _ _=>rd_2
theorem qT {i:Nat} (hN:X.N.Nodup) (hi:X.N[i]? =some x:=by rfl) (hx:Loc X.env.scope x:=by first|exact Or.inl rfl|exact Or.inr rfl) (hf:X.fn x=true\/X.env.scope.names.lookup x=some .local:=by first|exact .inl rfl|exact .inr rfl|assumption):DG K X (.Name x pos) (.nm i):=vQ hN hi hx hf
theorem mM {tg:Expr} (hl:DE K W false X e fa) (hK:X.K=K:=by rfl):DI K W X tg e (fIt fa):=by
 subst hK
 refine PI.imp (t:=iSeq X.K (tD X.K W false fa)) ?_ fun _ _ _=>ri_seq
 intro pins s σ H R I h
 refine thn (hl pins s σ H _ I h) fun v s1 ⟨y,H1,I1,r1,q1⟩=>?_
 obtain ⟨l,e1,q⟩:=q1
 subst e1
 cases r1
 rcases q with ⟨⟨xs,hq⟩,q⟩|⟨⟨xs,hq⟩,q⟩
 ·obtain ⟨its,rv,p,hz⟩:=I1.list hq
  refine wpAny_pyIter_list p.isList ?_
  refine ⟨s1.heap.objs.size,[s1.heap.objs.size],_,_,H1,rfl,I1.kept (t':=s1.toks) fun b o e=>Heap.get?_push_of_some _ e,yJ l _,⟨_,Heap.get?_push_size _ rfl,rfl,rfl⟩,fun b hb=>?_,q⟩
  have e:b=s1.heap.objs.size:=by simpa using hb
  subst e
  exact I1.fpOk (Nat.le_refl _) (I1.hok.fresh (Nat.le_refl _))
 ·obtain ⟨its,rv,p,hz⟩:=I1.tuple hq
  refine wpAny_pyIter_tuple (show s1.heap.IsTuple l its.toArray from p) ?_
  refine ⟨s1.heap.objs.size,[s1.heap.objs.size],_,_,H1,rfl,I1.kept (t':=s1.toks) fun b o e=>Heap.get?_push_of_some _ e,xP l _,⟨_,Heap.get?_push_size _ rfl,rfl,rfl⟩,fun b hb=>?_,q⟩
  have e:b=s1.heap.objs.size:=by simpa using hb
  subst e
  exact I1.fpOk (Nat.le_refl _) (I1.hok.fresh (Nat.le_refl _))
theorem kG {tg:Expr} (hm:X.mg "range"=none) (ha:DA K W X [a] fr) (hg:Gl X "range":=by rfl) (hs:starEach [a] X.env=[(false,eval a X.env)]:=by rfl):DI K W X tg (.Call (.Name "range" p) [a] [] pos) (mL vN fr):=(zv hg hm ha hs).imp fun _ _ _=>ri_rng1
theorem Ap {tg:Expr} (hm:X.mg "range"=none) (ha:DA K W X [a,b] fr) (hg:Gl X "range":=by rfl) (hs:starEach [a,b] X.env=[(false,eval a X.env),(false,eval b X.env)]:=by rfl) (hs2:starEach [b] X.env=[(false,eval b X.env)]:=by rfl) :
  DI K W X tg (.Call (.Name "range" p) [a,b] [] pos) (mL rng2 fr):=(zu hg hm ha hs hs2).imp fun _ _ _=>ri_rng2
variable {OL O O' O2:List Nat} {st:Stmt} {sts:List Stmt} {g h:ak->M Flo}
theorem cZ:DSs K W ro X OL O O [] gb:=fun _ _=>zg.imp fun _ _ _=>rs_next
theorem ah (h1:DS K W ro X OL O O' st g) (h2:DSs K W ro X OL O' O2 sts h):DSs K W ro X OL O O2 (st::sts) (br g h):=fun F0 H0=>(pA (h1 F0 H0) (h2 F0 H0)).imp fun _ _ _=>rs_seq
theorem aw (h1:DS K W ro X OL O O' st g):DSs K W ro X OL O O' [st] g:=fun F0 H0=>pJ (h1 F0 H0)
theorem bC (h1:DSs K W ro X OL O2 O' sts g) (hs:∀i∈O2,i∈O:=by decide):DSs K W ro X OL O O' sts g:=fun F0 H0=>PSs.imp (h1 F0 H0) fun _ _ _=>tS.enter hs
theorem i0 {sa sb:List Stmt} (hc:DT K W X c ft) (ha:DSs K W ro X OL O O' sa g) (hb:DSs K W ro X OL O O' sb h):DS K W ro X OL O O' (.If c sa sb pos) (sIf ft g h):=fun F0 H0=>(ps_if hc (ha F0 H0) (hb F0 H0)).imp fun _ _ _=>rs_if
theorem av {i:Nat} {pos':Pos} (hN:X.N.Nodup) (he:DE K W own X e f) (hi:X.N[i]? =some x:=by rfl) (hx:Loc X.env.scope x:=by first|exact Or.inl rfl|exact Or.inr rfl) (hs:swapsWith e (some (.Name x pos')) pos.line X.env=pure false:=by rfl) (hf:X.fn x=true\/X.env.scope.names.lookup x=some .local:=by first|exact .inl rfl|exact .inr rfl|assumption) :
  DS K W ro X OL O (aft own i O) (.Assign [.Name x pos'] e pos) (aI O i f):=fun F0 H0=>(zh hN hi hx he hs hf).imp fun _ _ _=>vM
theorem q9 {i:Nat} {pos':Pos} (hN:X.N.Nodup) (he:DE K W own X e f) (hi:X.N[i]? =some x:=by rfl) (hx:Loc X.env.scope x:=by first|exact Or.inl rfl|exact Or.inr rfl) (hs:swapsWith e (some (.Name x pos')) pos.line X.env=pure false:=by rfl) (hf:X.fn x=true\/X.env.scope.names.lookup x=some .local:=by first|exact .inl rfl|exact .inr rfl|assumption) :
  DS K W ro X OL O (aft own i O) (.Assign [.Name x pos'] e pos) (oA own i f):=fun F0 H0=>(zh hN hi hx he hs hf).imp fun _ _ _=>za
theorem aR (he:DE K W ro X e f):DS K W ro X OL O O' (.Return (some e) pos) (g9 f):=fun F0 H0=>(zi he).imp fun _ _ _=>rs_ret
theorem ds_retN (he:DE K W false X e f):DS K W true X OL O O' (.Return (some e) pos) (vL f):=fun F0 H0=>(zi he).imp fun _ _ _=>rs_retN
theorem Ak {i:Nat} (ho:i∈O:=by decide) (hN:X.N[i]? =some x:=by rfl) (hv:Vis X.env.scope x:=by first|exact Or.inl rfl|exact Or.inr (Or.inl rfl)|exact Or.inr (Or.inr rfl)) (hd:(x==("__debug__":Str))=false:=by decide)
  (hcd:(x==("__classdict__":Str))=false:=by decide):DS K W true X OL O O' (.Return (some (.Name x p)) pos) (g9 (aa i)):=fun F0 H0=>(zi (pv i hN hv hd hcd)).imp fun _ _ _=>rs_retV ho
theorem gY {tg iter:Expr} {body:List Stmt} {fs:ak->M (List Dat)} {pt:Pat} (hi:DI K W X tg iter fs) (hg:DG K X tg pt) (hb:DSs K W ro X O O O body g) (n:∀i∈pt.names,i∉O:=by decide) (hp:PassesOwn (model X.prog X.w) X.A X.env X.xe:=by exact PassesOwn.never) (hc:X.calm=true:=by rfl)
  (hs:∀x,foldedSetIterable iter X.env x=pure x:=by intro _;rfl):DS K W ro X OL O O (.For tg iter body [] pos) (qz O fs pt g):=fun F0 H0=>(ps_for hp hc hi hg (hb F0 H0) hs).imp fun _ _ _=>rs_for n
theorem tm {m:Nat} {body:List Stmt} (hc:DT K W X c ft) (hb:DSs K W ro X O O O body g) (hp:PassesOwn (model X.prog X.w) X.A X.env X.xe:=by exact PassesOwn.never):DS K W ro X OL O O (.While c body [] pos) (bW ft g m):=fun F0 H0=>(ps_while hp hc (hb F0 H0)).imp fun _ _ _=>rs_while
theorem kF {i:Nat} {apos:Pos} {q:Pos} (he:DE K W false X e f) (ho:i∈O:=by decide) (hN:X.N[i]? =some x:=by rfl) (hv:Vis X.env.scope x:=by first|exact Or.inl rfl|exact Or.inr (Or.inl rfl)|exact Or.inr (Or.inr rfl)) (hd:(x==("__debug__":Str))=false:=by decide) (hcd:(x==("__classdict__":Str))=false:=by decide) (hK:X.K=K:=by rfl)
  (hst:starEach [e] X.env=[(false,eval e X.env)]:=by rfl) (hbase:attributeBase (.Name x p) "append" X.env (eval (.Name x p) X.env)=eval (.Name x p) X.env:=by rfl) (hfew:((backTo q (starEach [e] X.env)).all (fun x=> !x.1)&&(backToKw q (keywordEach [] X.env)).all (fun x=>x.1.isSome)&&decide ([e].length+([]:List Keyword).length+(if ([]:List Keyword).isEmpty then 0 else 1)<30))=true:=by rfl) (hplain:(backTo q (starEach [] X.env)).any (·.1)=false:=by rfl) (hline:(apos.endLine==q.line)=true:=by rfl) (hsw:swapsWith (.Call (.Attribute (.Name x p) "append" apos) [e] [] q) none pos.line X.env=pure false:=by rfl) :
  DS K W ro X OL O O (.Expr (.Call (.Attribute (.Name x p) "append" apos) [e] [] q) pos) (mH O i f):=fun F0 H0=>by
 subst hK
 exact PS.imp (zo (pe_bm PySem.F.plainAttrs_list PySem.F.slot_list_append PySem.F.type_list_append zN (pv i hN hv hd hcd) (aX he eF hst) hbase hfew hline hst hplain) hsw) fun _ _ _=>rs_appB ho
end
end L2
namespace L2
open PySem PySem.Spec PyProof.Rows
section
variable {X:Cx} {K:PySem.W.Frag} {W:fm} {own:Bool}
theorem OpR.imp {f:Value->Value->Sem Value} {r r':R2} (h:OpR X f r) (q:∀x y H Q,r' x y H Q->r x y H Q):OpR X f r':=fun pins s σ H x y v u Q I rx ry z=>h pins s σ H x y v u Q I rx ry (q x y H Q z)
theorem UnR.imp {f:Value->Sem Value} {r r':V->Hp->VK->Prop} (h:UnR X f r) (q:∀x H Q,r' x H Q->r x H Q):UnR X f r':=fun pins s σ H x v Q I rx z=>h pins s σ H x v Q I rx (q x H Q z)
theorem dS.imp {f:Value} {r r':List V->Hp->VK->Prop} (h:dS X f r) (q:∀x H Q,r' x H Q->r x H Q):dS X f r':=fun pins s σ H x v Q I rx z=>h pins s σ H x v Q I rx (q x H Q z)
theorem IxR.imp {r r':R2} (h:IxR X r) (q:∀x y H Q,r' x y H Q->r x y H Q):IxR X r':=fun va sl pins s σ H x y v u Q I rx ry z e=>h va sl pins s σ H x y v u Q I rx ry (q x y H Q z) e
theorem aL.stuck {F H:Hp} {Q:VK} {P:Prop} (p:aL K W own F H (stk) Q):P:=(W.ns p).elim
theorem aL.int {F H:Hp} {Q:VK} {i:Int} (p:aL K W own F H (.ok (.int i)) Q) (s:aU F H):Q (.int i) H:=p _ F H (Step.refl s) (by cases own<;>rfl)
theorem aL.bl {F H:Hp} {Q:VK} {b:Bool} (p:aL K W own F H (.ok (.bl b)) Q) (s:aU F H):Q (.bl b) H:=p _ F H (Step.refl s) (by cases own<;>rfl)
theorem aL.str {F H:Hp} {Q:VK} {x:Str} (p:aL K W own F H (.ok (.str x)) Q) (s:aU F H):Q (.str x) H:=p _ F H (Step.refl s) (by cases own<;>rfl)
theorem aL.tup {F H:Hp} {Q:VK} {ds:List Dat} {xs:List V} {a:Addr} (p:aL K W own F H (.ok (.tup ds)) Q) (s:aU F H) (q:ax K F ds xs) (ha:H a=none):Q (.ref a) (upd H a (.tup xs)):=
 p _ _ _ (Step.lay s ha) (by
  have:cf K (upd F a (.tup xs)) (.tup ds) (.ref a):=⟨a,xs,rfl,SqT.of ao,q.mono (aU.upd (s.free ha))⟩
  cases own<;>exact this)
theorem aL.same {F H:Hp} {Q:VK} {ds:List Dat} {v:V} (p:aL K W own F H (.ok (.tup ds)) Q) (s:aU F H) (q:cf K F (.tup ds) v):Q v H:=p _ F H (Step.refl s) (by cases own<;>exact q)
theorem aL.lst {F H:Hp} {Q:VK} {ds:List Dat} {xs:List V} {a:Addr} (p:aL K W true F H (.ok (.lst ds)) Q) (s:aU F H) (q:ax K F ds xs) (ha:H a=none):Q (.ref a) (upd H a (.lst xs)):=
 p _ F _ (Step.grow s ha) ⟨a,xs,rfl,ao,s.free ha,ha,q⟩
theorem hI {g:Dat->Dat->M Dat} (hg:∀a b,(∃i j,a=.int i/\b=.int j)\/g a b=stk) {x y:V} {H:Hp} {Q:VK} (h:rD2 K W own g x y H Q):∃F i j,aU F H/\x=.int i/\y=.int j/\aL K W own F H (g (.int i) (.int j)) Q:=by
 obtain ⟨F,a,b,s,qa,qb,p⟩:=h
 rcases hg a b with ⟨i,j,rfl,rfl⟩|e
 ·exact ⟨F,i,j,s,qa,qb,p⟩
 ·rw [e] at p;exact p.stuck
theorem vV:Op2 K W own X (binaryOp .Sub) yU:=op_sub.imp fun x y H Q h=>by
 obtain ⟨F,i,j,s,e1,e2,p⟩:=hI (fun a b=>by cases a<;>cases b<;>first|exact .inr rfl|exact .inl ⟨_,_,rfl,rfl⟩) h
 exact ⟨i,j,e1,e2,p.int s⟩
theorem lL:Op2 K W own X (binaryOp .Mult) qL:=op_mul.imp fun x y H Q h=>by
 obtain ⟨F,i,j,s,e1,e2,p⟩:=hI (fun a b=>by cases a<;>cases b<;>first|exact .inr rfl|exact .inl ⟨_,_,rfl,rfl⟩) h
 have p':aL K W own F H (if (eB i||eB j)=true then .ok (.int (i*j)) else stk) Q:=p
 by_cases hc:(eB i||eB j)=true
 ·rw [if_pos hc] at p'
  refine ⟨i,j,e1,e2,?_,p'.int s⟩
  unfold eB at hc
  simp only [Bool.or_eq_true,Bool.and_eq_true,decide_eq_true_eq] at hc
  exact hc
 ·rw [if_neg hc] at p';exact p'.stuck
theorem zT {j:Int} (h0:0<j) (h1:j<18446744073709551616):j.natAbs.log2<9000:=by
 have a:j.natAbs<2^64:=by omega
 have b:=(Nat.log2_lt (n:=j.natAbs) (k:=64) (by omega)).mpr a
 omega
theorem zF:OpR X (binaryOp .FloorDiv) (rI (fun _ j=>0<j/\j<18446744073709551616) fun i j=>.int (i/j)):=opI fun i j _ _ _ _ _ hc q=>by
 obtain ⟨c1,c2⟩:=hc
 exact floordiv_int (by omega) (by rw [Int.fdiv_eq_ediv_of_nonneg i (by omega)];exact q) (.inl (PyProof.noPylong_of_log2 (zT c1 c2)))
theorem jJ:Op2 K W own X (binaryOp .FloorDiv) mJ:=zF.imp fun x y H Q h=>by
 obtain ⟨F,i,j,s,e1,e2,p⟩:=hI (fun a b=>by cases a<;>cases b<;>first|exact .inr rfl|exact .inl ⟨_,_,rfl,rfl⟩) h
 have p':aL K W own F H (if (decide (0<j)&&decide (j<18446744073709551616))=true then .ok (.int (i/j)) else stk) Q:=p
 by_cases hc:(decide (0<j)&&decide (j<18446744073709551616))=true
 ·rw [if_pos hc] at p'
  simp only [Bool.and_eq_true,decide_eq_true_eq] at hc
  exact ⟨i,j,e1,e2,hc,p'.int s⟩
 ·rw [if_neg hc] at p';exact p'.stuck
theorem gO:Op2 K W own X (binaryOp .Mod) oo:=op_mod.imp fun x y H Q h=>by
 obtain ⟨F,i,j,s,e1,e2,p⟩:=hI (fun a b=>by cases a<;>cases b<;>first|exact .inr rfl|exact .inl ⟨_,_,rfl,rfl⟩) h
 have p':aL K W own F H (if 0<j then .ok (.int (i%j)) else stk) Q:=p
 by_cases hc:0<j
 ·rw [if_pos hc] at p'
  exact ⟨i,j,e1,e2,hc,p'.int s⟩
 ·rw [if_neg hc] at p';exact p'.stuck
theorem zK:Op2 K W own X (binaryOp .Pow) powD:=op_pow.imp fun x y H Q h=>by
 obtain ⟨F,i,j,s,e1,e2,p⟩:=hI (fun a b=>by cases a<;>cases b<;>first|exact .inr rfl|exact .inl ⟨_,_,rfl,rfl⟩) h
 have p':aL K W own F H (if (decide (0<=j)&&decide (j<=1000000)&&decide (i.natAbs<2^64))=true then .ok (.int (i^j.toNat)) else stk) Q:=p
 by_cases hc:(decide (0<=j)&&decide (j<=1000000)&&decide (i.natAbs<2^64))=true
 ·rw [if_pos hc] at p'
  simp only [Bool.and_eq_true,decide_eq_true_eq] at hc
  exact ⟨i,j,e1,e2,⟨hc.1.1,hc.1.2,hc.2⟩,p'.int s⟩
 ·rw [if_neg hc] at p';exact p'.stuck
theorem uB:UnR X (unaryOp .USub) (rD1 K W own negD):=un_neg.imp fun x H Q h=>by
 obtain ⟨F,a,s,qa,p⟩:=h
 cases a with
 |int i=>exact ⟨i,qa,aL.int (own:=own) p s⟩
 |_=>exact aL.stuck p
theorem o_lt:Op2 K W own X (compareOp .Lt) ltD:=op_lt.imp fun x y H Q h=>by
 obtain ⟨F,i,j,s,e1,e2,p⟩:=hI (fun a b=>by cases a<;>cases b<;>first|exact .inr rfl|exact .inl ⟨_,_,rfl,rfl⟩) h
 exact ⟨i,j,e1,e2,p.bl s⟩
theorem o_le:Op2 K W own X (compareOp .LtE) leD:=op_le.imp fun x y H Q h=>by
 obtain ⟨F,i,j,s,e1,e2,p⟩:=hI (fun a b=>by cases a<;>cases b<;>first|exact .inr rfl|exact .inl ⟨_,_,rfl,rfl⟩) h
 exact ⟨i,j,e1,e2,p.bl s⟩
theorem o_gt:Op2 K W own X (compareOp .Gt) gtD:=op_gt.imp fun x y H Q h=>by
 obtain ⟨F,i,j,s,e1,e2,p⟩:=hI (fun a b=>by cases a<;>cases b<;>first|exact .inr rfl|exact .inl ⟨_,_,rfl,rfl⟩) h
 exact ⟨i,j,e1,e2,p.bl s⟩
theorem o_ge:Op2 K W own X (compareOp .GtE) geD:=op_ge.imp fun x y H Q h=>by
 obtain ⟨F,i,j,s,e1,e2,p⟩:=hI (fun a b=>by cases a<;>cases b<;>first|exact .inr rfl|exact .inl ⟨_,_,rfl,rfl⟩) h
 exact ⟨i,j,e1,e2,p.bl s⟩
theorem op_catL:OpR X (binaryOp .Add) (fun x y H Q=>∃l b xs zs,x=.ref l/\y=.ref b/\SqL X.K H l xs/\SqL X.K H b zs/\xs.length+zs.length<=sizeLine/\∀p,H p=none->Q (.ref p) (upd H p (.lst (xs++zs)))):=by
 intro pins s σ H x y v u Q I rx ry h
 obtain ⟨l,b,xs,zs,rfl,rfl,hH,hB,hz,q⟩:=h
 cases rx
 cases ry
 obtain ⟨its,r,p1,hl⟩:=I.list hH
 obtain ⟨its2,r2,p2,hl2⟩:=I.list hB
 have z1:=r.length
 have z2:=r2.length
 obtain ⟨⟨cls,dd,data,sl⟩,ho,hc,n,hd⟩:=id p1.isList
 obtain ⟨⟨cls2,dd2,data2,sl2⟩,ho2,hc2,n2,hd2⟩:=id p2.isList
 simp only at hc hd hc2 hd2
 subst hc hd hc2 hd2
 refine concat_meets ⟨_,ho,rfl⟩ ⟨_,ho2,rfl⟩ noFill_list_add seq_list_add PySem.F.slot_list_add PySem.F.entry_list_add (PySem.F.args_list_add_2 _ _) (list_addW l b its.toArray its2.toArray n n2 dd dd2 sl sl2 (by simp only [List.size_toArray];omega)) ⟨ho,ho2,?_⟩
 have ea:its.toArray++its2.toArray=(its++its2).toArray:=by simp
 rw [ea]
 exact ⟨.ref _,_,I.lnew (t':=s.toks) (r.append r2) (by rw [List.length_append];omega),rfl,q _ I.fresh⟩
theorem op_cat3:OpR X (binaryOp .Add) (fun x y H Q=>∃a b xs ys,x=.ref a/\y=.ref b/\SqT X.K H a xs/\SqT X.K H b ys/\xs.length+ys.length<=sizeLine/\(xs=[]->Q (.ref b) H)/\(ys=[]->Q (.ref a) H)/\∀p,H p=none->Q (.ref p) (upd H p (.tup (xs++ys)))):=by
 intro pins s σ H x y v u Q I rx ry h
 obtain ⟨a,b,xs,ys,rfl,rfl,ha,hb,hz,q1,q2,q3⟩:=h
 by_cases hx:xs=[]
 ·subst hx
  cases rx
  cases ry
  obtain ⟨its,r1,p1,_⟩:=I.tuple ha
  obtain ⟨its2,r2,p2,_⟩:=I.tuple hb
  cases r1
  obtain ⟨⟨cls,dd,data,sl⟩,ho,hc,n,hd⟩:=id p1
  obtain ⟨⟨cls2,dd2,data2,sl2⟩,ho2,hc2,n2,hd2⟩:=id p2
  simp only at hc hd hc2 hd2
  subst hc hd hc2 hd2
  exact concat_meets ⟨_,ho,rfl⟩ ⟨_,ho2,rfl⟩ noFill_tuple_add seq_tuple_add PySem.F.slot_tuple_add PySem.F.entry_tuple_add (PySem.F.args_tuple_add_2 _ _)
   (tuple_addW0 a b #[] its2.toArray n n2 dd dd2 sl sl2 rfl) ⟨ho,ho2,⟨.ref b,H,I,rfl,q1 rfl⟩⟩
 ·exact op_catT pins s σ H _ _ v u Q I rx ry ⟨a,b,xs,ys,rfl,rfl,ha,hb,hx,hz,fun e=>q2 e,fun _ p hp=>q3 p hp⟩
theorem gQ (hK:X.K=K:=by rfl):Op2 K W true X (binaryOp .Add) lB:=by
 subst hK
 refine (op_add.or (xY.or (op_catL.or op_cat3))).imp fun x y H Q h=>?_
 obtain ⟨F,a,b,s,qa,qb,p⟩:=h
 cases a with
 |int i=>
  cases b with
  |int j=>exact .inl ⟨i,j,qa,qb,p.int s⟩
  |_=>exact aL.stuck p
 |str z=>
  cases b with
  |str w=>
   have p':aL X.K W true F H (if z.length+w.length<=sizeLine then .ok (.str (z++w)) else stk) Q:=p
   by_cases hc:z.length+w.length<=sizeLine
   ·rw [if_pos hc] at p'
    exact .inr (.inl ⟨z,w,qa,qb,hc,p'.str s⟩)
   ·rw [if_neg hc] at p';exact p'.stuck
  |_=>exact aL.stuck p
 |lst ds=>
  cases b with
  |lst es=>
   obtain ⟨a,xs,e1,t1,r1⟩:=qa
   obtain ⟨b,ys,e2,t2,r2⟩:=qb
   have p':aL X.K W true F H (if ds.length+es.length<=sizeLine then .ok (.lst (ds++es)) else stk) Q:=p
   by_cases hc:ds.length+es.length<=sizeLine
   ·rw [if_pos hc] at p'
    exact .inr (.inr (.inl ⟨a,b,xs,ys,e1,e2,s.lst t1,s.lst t2,by rw [r1.length,r2.length];exact hc,fun l hl=>p'.lst s (r1.append r2) hl⟩))
   ·rw [if_neg hc] at p';exact p'.stuck
  |_=>exact aL.stuck p
 |tup ds=>
  cases b with
  |tup es=>
   obtain ⟨a,xs,e1,t1,r1⟩:=qa
   obtain ⟨b,ys,e2,t2,r2⟩:=qb
   have p':aL X.K W true F H (if ds.length+es.length<=sizeLine then .ok (.tup (ds++es)) else stk) Q:=p
   by_cases hc:ds.length+es.length<=sizeLine
   ·rw [if_pos hc] at p'
    refine .inr (.inr (.inr ⟨a,b,xs,ys,e1,e2,s.tup t1,s.tup t2,by rw [r1.length,r2.length];exact hc,fun e=>?_,fun e=>?_,fun l hl=>p'.tup s (r1.append r2) hl⟩))
    ·have z:ds=[]:=by have:=r1.length;rw [e] at this;exact List.length_eq_zero_iff.mp this.symm
     subst z
     exact p'.same s ⟨b,ys,rfl,t2,r2⟩
    ·have z:es=[]:=by have:=r2.length;rw [e] at this;exact List.length_eq_zero_iff.mp this.symm
     subst z
     rw [List.append_nil] at p'
     exact p'.same s ⟨a,xs,rfl,t1,r1⟩
   ·rw [if_neg hc] at p';exact p'.stuck
  |_=>exact aL.stuck p
 |_=>exact aL.stuck p
theorem o_isN:Op2 K W own X (compareOp .Is) isND:=op_isN.imp fun x y H Q h=>by
 obtain ⟨F,a,b,s,qa,qb,p⟩:=h
 have key:∀{k:Bool},isND a b=.ok (.bl k)->b=.non->(decide (x=V.non)=k)->y=V.non/\Q (.bl (decide (x=V.non))) H:=fun {k} e1 e2 e3=>by
  subst e2
  rw [e1] at p
  rw [e3]
  exact ⟨qb,p.bl s⟩
 cases b with
 |non=>
  cases a with
  |non=>exact key rfl rfl (by rw [show x=.non from qa];rfl)
  |bl k=>exact key rfl rfl (by rw [show x=.bl k from qa];rfl)
  |int k=>exact key rfl rfl (by rw [show x=.int k from qa];rfl)
  |str k=>exact key rfl rfl (by rw [show x=.str k from qa];rfl)
  |tup ds=>obtain ⟨l,xs,e,_⟩:=qa;exact key rfl rfl (by rw [e];rfl)
  |lst ds=>obtain ⟨l,xs,e,_⟩:=qa;exact key rfl rfl (by rw [e];rfl)
  |ins C fs=>obtain ⟨l,dx,xs,e,_⟩:=qa;exact key rfl rfl (by rw [e];rfl)
 |_=>cases a<;>exact aL.stuck p
theorem A7 {F H:Hp} {Q:VK} {ds:List Dat} {xs:List V} {i:Int} (p:aL K W false F H (ni ds i) Q) (s:aU F H) (r:ax K F ds xs):∃v,atI xs i=some v/\Q v H:=by
 unfold ni at p
 cases e:atI ds i with
 |none=>rw [e] at p;exact aL.stuck p
 |some d=>
  rw [e] at p
  unfold atI at e
  cases hj:ixN ds.length i with
  |none=>rw [hj] at e;cases e
  |some j=>
   rw [hj] at e
   obtain ⟨v,e1,q⟩:=r.get (show ds[j]? =some d from e)
   refine ⟨v,?_,p v F H (Step.refl s) q⟩
   unfold atI
   rw [r.length,hj]
   exact e1
theorem bz (hK:X.K=K:=by rfl):IxR X (rD2 K W false ixD):=by
 subst hK
 refine ix_seq.imp fun x y H Q h=>?_
 obtain ⟨F,a,b,s,qa,qb,p⟩:=h
 cases a with
 |lst ds=>
  cases b with
  |int i=>
   obtain ⟨a,xs,e1,t1,r1⟩:=qa
   obtain ⟨v,e2,q⟩:=A7 p s r1
   exact .inl ⟨a,xs,i,v,e1,qb,s.lst t1,e2,q⟩
  |_=>exact aL.stuck p
 |tup ds=>
  cases b with
  |int i=>
   obtain ⟨a,xs,e1,t1,r1⟩:=qa
   obtain ⟨v,e2,q⟩:=A7 p s r1
   exact .inr (.inl ⟨a,xs,i,v,e1,qb,s.tup t1,e2,q⟩)
  |_=>exact aL.stuck p
 |_=>exact aL.stuck p
theorem kI (hK:X.K=K:=by rfl):tQ K W own X (.builtin "len") qM:=by
 subst hK
 refine mr.imp fun xs H Q h=>?_
 obtain ⟨F,ds,s,q,p⟩:=h
 match ds,q,p with
 |[.lst es],⟨v,vs,e,⟨a,ys,e1,t,r⟩,e2⟩,p=>
  refine ⟨a,ys,by rw [e,e1,show vs=[] from e2],.inl (s.lst t),?_⟩
  rw [r.length]
  exact aL.int (own:=own) p s
 |[.tup es],⟨v,vs,e,⟨a,ys,e1,t,r⟩,e2⟩,p=>
  refine ⟨a,ys,by rw [e,e1,show vs=[] from e2],.inr (s.tup t),?_⟩
  rw [r.length]
  exact aL.int (own:=own) p s
 |[],_,p=>exact aL.stuck p
 |[.non],_,p=>exact aL.stuck p
 |[.bl _],_,p=>exact aL.stuck p
 |[.int _],_,p=>exact aL.stuck p
 |[.str _],_,p=>exact aL.stuck p
 |[.ins _ _],_,p=>exact aL.stuck p
 |.non::_::_,_,p=>exact aL.stuck p
 |.bl _::_::_,_,p=>exact aL.stuck p
 |.int _::_::_,_,p=>exact aL.stuck p
 |.str _::_::_,_,p=>exact aL.stuck p
 |.ins _ _::_::_,_,p=>exact aL.stuck p
 |.lst _::_::_,_,p=>exact aL.stuck p
 |.tup _::_::_,_,p=>exact aL.stuck p
end
end L2
namespace L2
open PySem PySem.Spec PyProof.Rows
section
variable {X:Cx} {K:PySem.W.Frag} {W:fm} {own ro:Bool}
theorem sF {g:List Dat->M Dat} (hg:∀ds,(∃d,ds=[d])\/g ds=stk) {xs:List V} {H:Hp} {Q:VK} (h:rDL K W own g xs H Q):∃F d x,aU F H/\xs=[x]/\cf K F d x/\aL K W own F H (g [d]) Q:=by
 obtain ⟨F,ds,s,q,p⟩:=h
 rcases hg ds with ⟨d,rfl⟩|e
 ·obtain ⟨v,vs,e,q1,e2⟩:=q
  exact ⟨F,d,v,s,by rw [e,show vs=[] from e2],q1,p⟩
 ·rw [e] at p;exact p.stuck
theorem yI {g:List Dat->M Dat} (hg:∀ds,(∃d,ds=[d])\/(∃d e,ds=[d,e])\/g ds=stk) {xs:List V} {H:Hp} {Q:VK} (h:rDL K W own g xs H Q):(∃F d x,aU F H/\xs=[x]/\cf K F d x/\aL K W own F H (g [d]) Q)\/∃F d e x y,aU F H/\xs=[x,y]/\cf K F d x/\cf K F e y/\aL K W own F H (g [d,e]) Q:=by
 obtain ⟨F,ds,s,q,p⟩:=h
 rcases hg ds with ⟨d,rfl⟩|⟨d,e,rfl⟩|e
 ·obtain ⟨v,vs,e,q1,e2⟩:=q
  exact .inl ⟨F,d,v,s,by rw [e,show vs=[] from e2],q1,p⟩
 ·obtain ⟨v,vs,e1,q1,w,ws,e2,q2,e3⟩:=q
  exact .inr ⟨F,d,e,v,w,s,by rw [e1,e2,show ws=[] from e3],q1,q2,p⟩
 ·rw [e] at p;exact p.stuck
theorem rV {F:Hp}:∀{ds:List Dat} {xs:List V} {bs:List Bool},ax K F ds xs->iK ds=.ok bs->xs=bs.map V.bl
 |[],_,_,q,e=>by cases e;exact q
 |d::ds,_,bs,⟨v,vs,e1,q,r⟩,e=>by
  cases d with
  |bl b=>
   cases e2:iK ds with
   |error x=>simp only [iK,asB,au,e2,kM] at e;cases e
   |ok cs=>
    simp only [iK,asB,au,e2] at e
    cases e
    rw [e1,show v=.bl b from q,rV r e2]
    rfl
  |_=>cases e
theorem rW:∀{ds:List Dat} {e:Err},iK ds=.error e->e=.stuck
 |[],_,h=>by cases h
 |d::ds,e,h=>by
  cases d with
  |bl b=>
   cases e2:iK ds with
   |error x=>simp only [iK,asB,au,e2,kM] at h;cases h;exact rW e2
   |ok cs=>simp only [iK,asB,au,e2] at h;cases h
  |_=>cases h;rfl
theorem lU {F:Hp}:∀{ds:List Dat} {xs:List V} {bs:List Int},ax K F ds xs->dj ds=.ok bs->xs=bs.map V.int
 |[],_,_,q,e=>by cases e;exact q
 |d::ds,_,bs,⟨v,vs,e1,q,r⟩,e=>by
  cases d with
  |int b=>
   cases e2:dj ds with
   |error x=>simp only [dj,asI,au,e2,kM] at e;cases e
   |ok cs=>
    simp only [dj,asI,au,e2] at e
    cases e
    rw [e1,show v=.int b from q,lU r e2]
    rfl
  |_=>cases e
theorem nQ:∀{ds:List Dat} {e:Err},dj ds=.error e->e=.stuck
 |[],_,h=>by cases h
 |d::ds,e,h=>by
  cases d with
  |int b=>
   cases e2:dj ds with
   |error x=>simp only [dj,asI,au,e2,kM] at h;cases h;exact nQ e2
   |ok cs=>simp only [dj,asI,au,e2] at h;cases h
  |_=>cases h;rfl
theorem c_all (hc:X.calm=true) (hK:X.K=K:=by rfl):tQ K W own X (.builtin "all") allD:=by
 subst hK
 refine (call_all hc).imp fun xs H Q h=>?_
 obtain ⟨F,d,x,s,e,q,p⟩:=sF (fun ds=>by match ds with|[d]=>exact .inl ⟨d,rfl⟩|[]=>exact .inr rfl|a::b::c=>exact .inr (by cases a<;>rfl)) h
 cases d with
 |lst ds=>
  obtain ⟨a,ys,e1,t,r⟩:=q
  have p':aL X.K W own F H ((iK ds).bind fun bs=>.ok (.bl (bs.all id))) Q:=p
  cases eb:iK ds with
  |error z=>rw [eb] at p';have:=rW eb;subst this;exact aL.stuck p'
  |ok bs=>
   rw [eb] at p'
   refine ⟨a,bs,by rw [e,e1],?_,aL.bl (own:=own) p' s⟩
   rw [<- rV r eb]
   exact s.lst t
 |_=>exact aL.stuck p
theorem xD (hK:X.K=K:=by rfl):tQ K W true X (.type "list") uG:=by
 subst hK
 refine uZ.imp fun xs H Q h=>?_
 obtain ⟨F,d,x,s,e,q,p⟩:=sF (fun ds=>by match ds with|[d]=>exact .inl ⟨d,rfl⟩|[]=>exact .inr rfl|a::b::c=>exact .inr (by cases a<;>rfl)) h
 cases d with
 |lst ds=>
  obtain ⟨a,ys,e1,t,r⟩:=q
  exact ⟨a,ys,by rw [e,e1],.inl (s.lst t),fun l hl=>aL.lst p s r hl⟩
 |tup ds=>
  obtain ⟨a,ys,e1,t,r⟩:=q
  exact ⟨a,ys,by rw [e,e1],.inr (s.tup t),fun l hl=>aL.lst p s r hl⟩
 |_=>exact aL.stuck p
theorem c_int:tQ K W own X (.type "int") intD:=AF.imp fun xs H Q h=>by
 obtain ⟨F,d,x,s,e,q,p⟩:=sF (fun ds=>by match ds with|[d]=>exact .inl ⟨d,rfl⟩|[]=>exact .inr rfl|a::b::c=>exact .inr (by cases a<;>rfl)) h
 cases d with
 |int i=>exact .inl ⟨i,by rw [e,show x=.int i from q],aL.int (own:=own) p s⟩
 |bl b=>exact .inr ⟨b,by rw [e,show x=.bl b from q],aL.int (own:=own) p s⟩
 |_=>exact aL.stuck p
theorem fold_max:∀(is:List Int) (i:Int),(is.foldl lA i=i\/is.foldl lA i∈is)/\i<=is.foldl lA i/\∀a∈is,a<=is.foldl lA i
 |[],i=>⟨.inl rfl,Int.le_refl _,fun _ h=>nomatch h⟩
 |j::is,i=>by
  obtain ⟨h1,h2,h3⟩:=fold_max is (lA i j)
  have z:(lA i j=i\/lA i j=j)/\i<=lA i j/\j<=lA i j:=by unfold lA;split<;>(refine ⟨?_,?_,?_⟩<;>first|exact .inl rfl|exact .inr rfl|omega)
  rw [List.foldl_cons]
  refine ⟨?_,Int.le_trans z.2.1 h2,fun a ha=>?_⟩
  ·rcases h1 with h1|h1
   ·rw [h1]
    rcases z.1 with z|z
    ·exact .inl z
    ·exact .inr (by rw [z];exact List.mem_cons_self)
   ·exact .inr (List.mem_cons_of_mem _ h1)
  ·rcases List.mem_cons.mp ha with e|e
   ·rw [e];exact Int.le_trans z.2.2 h2
   ·exact h3 a e
theorem fold_min:∀(is:List Int) (i:Int),(is.foldl jm i=i\/is.foldl jm i∈is)/\is.foldl jm i<=i/\∀a∈is,is.foldl jm i<=a
 |[],i=>⟨.inl rfl,Int.le_refl _,fun _ h=>nomatch h⟩
 |j::is,i=>by
  obtain ⟨h1,h2,h3⟩:=fold_min is (jm i j)
  have z:(jm i j=i\/jm i j=j)/\jm i j<=i/\jm i j<=j:=by unfold jm;split<;>(refine ⟨?_,?_,?_⟩<;>first|exact .inl rfl|exact .inr rfl|omega)
  rw [List.foldl_cons]
  refine ⟨?_,Int.le_trans h2 z.2.1,fun a ha=>?_⟩
  ·rcases h1 with h1|h1
   ·rw [h1]
    rcases z.1 with z|z
    ·exact .inl z
    ·exact .inr (by rw [z];exact List.mem_cons_self)
   ·exact .inr (List.mem_cons_of_mem _ h1)
  ·rcases List.mem_cons.mp ha with e|e
   ·rw [e];exact Int.le_trans h2 z.2.2
   ·exact h3 a e
theorem wa {is:List Int} {i m:Int} (h1:m∈i::is) (h2:∀a∈i::is,a<=m):is.foldl lA i=m:=by
 obtain ⟨g1,g2,g3⟩:=fold_max is i
 have a1:is.foldl lA i<=m:=by
  rcases g1 with g|g
  ·rw [g];exact h2 i List.mem_cons_self
  ·exact h2 _ (List.mem_cons_of_mem _ g)
 have a2:m<=is.foldl lA i:=by
  rcases List.mem_cons.mp h1 with e|e
  ·rw [e];exact g2
  ·exact g3 m e
 omega
theorem w9 {is:List Int} {i m:Int} (h1:m∈i::is) (h2:∀a∈i::is,m<=a):is.foldl jm i=m:=by
 obtain ⟨g1,g2,g3⟩:=fold_min is i
 have a1:m<=is.foldl jm i:=by
  rcases g1 with g|g
  ·rw [g];exact h2 i List.mem_cons_self
  ·exact h2 _ (List.mem_cons_of_mem _ g)
 have a2:is.foldl jm i<=m:=by
  rcases List.mem_cons.mp h1 with e|e
  ·rw [e];exact g2
  ·exact g3 m e
 omega
theorem AD (hc:X.calm=true):dS X (.builtin "max") (fun xs H Q=>∃a i is,xs=[.ref a]/\SqL X.K H a ((i::is).map V.int)/\Q (.int (is.foldl lA i)) H):=by
 intro pins s σ H xs us Q I r h
 obtain ⟨a,i,is,rfl,hq,q⟩:=h
 obtain ⟨u,rfl,ru⟩:=r.one
 cases ru
 obtain ⟨its,rv,p,hz⟩:=I.list hq
 have hi:=intsAre_of rv
 obtain ⟨xs,e⟩:=hi.allInts.items
 have hns:i::is=xs.toList.map (·.1):=by rw [<- hi.numsOf,<- nums_intItems,<- e]
 have hsz:0<xs.size:=by
  have h3:=congrArg List.length hns
  simp at h3
  omega
 have hl:=p.isList
 rw [e] at hl
 refine max_intList (I.ok.hd hc) hl hsz fun v h' tk hv hk=>?_
 obtain ⟨t,rfl⟩:=intItems_at hv
 obtain ⟨h1,h2⟩:=argBest_gt (numAt xs) (xs.size-1)
 refine ⟨.int _,H,I.kept hk,⟨t,rfl⟩,?_⟩
 have:=wa (is:=is) (i:=i) (m:=numAt xs (argBest (fun i j=>decide (numAt xs i>numAt xs j)) (xs.size-1))) (by
   rw [hns,numAt_eq];exact getD_mem (by rw [List.length_map,Array.length_toList];omega)) (fun a ha=>by
   rw [hns] at ha
   obtain ⟨j,hj,rfl⟩:=mem_getD ha
   rw [List.length_map,Array.length_toList] at hj
   rw [<- numAt_eq];exact h2 j (by omega))
 rw [<- this]
 exact q
theorem AA (hc:X.calm=true):dS X (.builtin "min") (fun xs H Q=>∃a i is,xs=[.ref a]/\SqL X.K H a ((i::is).map V.int)/\Q (.int (is.foldl jm i)) H):=by
 intro pins s σ H xs us Q I r h
 obtain ⟨a,i,is,rfl,hq,q⟩:=h
 obtain ⟨u,rfl,ru⟩:=r.one
 cases ru
 obtain ⟨its,rv,p,hz⟩:=I.list hq
 have hi:=intsAre_of rv
 obtain ⟨xs,e⟩:=hi.allInts.items
 have hns:i::is=xs.toList.map (·.1):=by rw [<- hi.numsOf,<- nums_intItems,<- e]
 have hsz:0<xs.size:=by
  have h3:=congrArg List.length hns
  simp at h3
  omega
 have hl:=p.isList
 rw [e] at hl
 refine min_intList (I.ok.hd hc) hl hsz fun v h' tk hv hk=>?_
 obtain ⟨t,rfl⟩:=intItems_at hv
 obtain ⟨h1,h2⟩:=argBest_lt (numAt xs) (xs.size-1)
 refine ⟨.int _,H,I.kept hk,⟨t,rfl⟩,?_⟩
 have:=w9 (is:=is) (i:=i) (m:=numAt xs (argBest (fun i j=>decide (numAt xs i<numAt xs j)) (xs.size-1))) (by
   rw [hns,numAt_eq];exact getD_mem (by rw [List.length_map,Array.length_toList];omega)) (fun a ha=>by
   rw [hns] at ha
   obtain ⟨j,hj,rfl⟩:=mem_getD ha
   rw [List.length_map,Array.length_toList] at hj
   rw [<- numAt_eq];exact h2 j (by omega))
 rw [<- this]
 exact q
theorem c_max (hc:X.calm=true) (hK:X.K=K:=by rfl):tQ K W own X (.builtin "max") maxD:=by
 subst hK
 refine ((AE hc).or (AD hc)).imp fun xs H Q h=>?_
 rcases yI (fun ds=>by match ds with|[d]=>exact .inl ⟨d,rfl⟩|[d,e]=>exact .inr (.inl ⟨d,e,rfl⟩)|[]=>exact .inr (.inr rfl)|a::b::c::d=>exact .inr (.inr (by cases a<;>cases b<;>rfl))) h with ⟨F,d,x,s,e,q,p⟩|⟨F,d,d2,x,y,s,e,q,q2,p⟩
 ·cases d with
  |lst ds=>
   obtain ⟨a,ys,e1,t,r⟩:=q
   have p':aL X.K W own F H ((dj ds).bind maxL) Q:=p
   cases eb:dj ds with
   |error z=>rw [eb] at p';have:=nQ eb;subst this;exact aL.stuck p'
   |ok is=>
    rw [eb] at p'
    cases is with
    |nil=>exact aL.stuck p'
    |cons i is=>
     refine .inr ⟨a,i,is,by rw [e,e1],?_,aL.int (own:=own) p' s⟩
     rw [<- lU r eb]
     exact s.lst t
  |_=>exact aL.stuck p
 ·cases d with
  |int i=>
   cases d2 with
   |int j=>exact .inl ⟨i,j,by rw [e,show x=.int i from q,show y=.int j from q2],aL.int (own:=own) p s⟩
   |_=>exact aL.stuck p
  |_=>cases d2<;>exact aL.stuck p
theorem AG (hc:X.calm=true) (hK:X.K=K:=by rfl):tQ K W own X (.builtin "min") minD:=by
 subst hK
 refine ((AB hc).or (AA hc)).imp fun xs H Q h=>?_
 rcases yI (fun ds=>by match ds with|[d]=>exact .inl ⟨d,rfl⟩|[d,e]=>exact .inr (.inl ⟨d,e,rfl⟩)|[]=>exact .inr (.inr rfl)|a::b::c::d=>exact .inr (.inr (by cases a<;>cases b<;>rfl))) h with ⟨F,d,x,s,e,q,p⟩|⟨F,d,d2,x,y,s,e,q,q2,p⟩
 ·cases d with
  |lst ds=>
   obtain ⟨a,ys,e1,t,r⟩:=q
   have p':aL X.K W own F H ((dj ds).bind minL) Q:=p
   cases eb:dj ds with
   |error z=>rw [eb] at p';have:=nQ eb;subst this;exact aL.stuck p'
   |ok is=>
    rw [eb] at p'
    cases is with
    |nil=>exact aL.stuck p'
    |cons i is=>
     refine .inr ⟨a,i,is,by rw [e,e1],?_,aL.int (own:=own) p' s⟩
     rw [<- lU r eb]
     exact s.lst t
  |_=>exact aL.stuck p
 ·cases d with
  |int i=>
   cases d2 with
   |int j=>exact .inl ⟨i,j,by rw [e,show x=.int i from q,show y=.int j from q2],aL.int (own:=own) p s⟩
   |_=>exact aL.stuck p
  |_=>cases d2<;>exact aL.stuck p
end
section
variable {X:Cx} {K:PySem.W.Frag} {W:fm} {own ro:Bool}
theorem SqL.inj {pins:List (Addr×Obj)} {σ:St} {H:Hp} {s:Shared} {a:Addr} {xs ys:List V} (I:Inv X pins σ H s) (h:SqL X.K H a xs) (h':SqL X.K H a ys):xs=ys:=by
 obtain ⟨i1,r1,p1,_⟩:=I.list h
 obtain ⟨i2,r2,p2,_⟩:=I.list h'
 obtain ⟨o,n,e,_,_,d⟩:=p1
 obtain ⟨o',n',e',_,_,d'⟩:=p2
 rw [e] at e'
 cases e'
 rw [d] at d'
 injection d' with d1 _
 have:i1=i2:=by simpa using congrArg Array.toList d1
 subst this
 exact r1.inj r2
theorem SqT.inj {pins:List (Addr×Obj)} {σ:St} {H:Hp} {s:Shared} {a:Addr} {xs ys:List V} (I:Inv X pins σ H s) (h:SqT X.K H a xs) (h':SqT X.K H a ys):xs=ys:=by
 obtain ⟨i1,r1,p1,_⟩:=I.tuple h
 obtain ⟨i2,r2,p2,_⟩:=I.tuple h'
 obtain ⟨o,e,_,n,d⟩:=p1
 obtain ⟨o',e',_,n',d'⟩:=p2
 rw [e] at e'
 cases e'
 rw [d] at d'
 injection d' with d1 _
 have:i1=i2:=by simpa using congrArg Array.toList d1
 subst this
 exact r1.inj r2
theorem ax.all_eq {F:Hp} (e:Nat->Bool):∀{ds es:List Dat},ds.length=es.length->(∀(j:Nat) a b,ds[j]? =some a->es[j]? =some b->e j=eqD a b)->(List.range ds.length).all e=oZ ds es:=by
 intro ds
 induction ds generalizing e with
 |nil=>intro es h _;cases es with
  |nil=>rfl
  |cons _ _=>simp at h
 |cons d ds ih=>
  intro es h q
  cases es with
  |nil=>simp at h
  |cons b es=>
   rw [List.length_cons,List.range_succ_eq_map,List.all_cons,List.all_map,oZ]
   rw [q 0 d b rfl rfl]
   congr 1
   exact ih (e∘Nat.succ) (by simpa using h) fun j x y hx hy=>q (j+1) x y (by simpa using hx) (by simpa using hy)
theorem nV:∀{ds es:List Dat},ds.length≠es.length->oZ ds es=false
 |[],[],h=>absurd rfl h
 |[],_::_,_=>rfl
 |_::_,[],_=>rfl
 |d::ds,e::es,h=>by
  rw [oZ,nV (ds:=ds) (es:=es) (fun z=>h (by simp [z])),Bool.and_false]
theorem t9 (e:Nat->Bool):∀{ds es:List Dat},(∀(j:Nat) a b,ds[j]? =some a->es[j]? =some b->e j=eqD a b)->((List.range (min ds.length es.length)).all e&&ds.length==es.length)=oZ ds es:=by
 intro ds es q
 by_cases hl:ds.length=es.length
 ·have e1:min ds.length es.length=ds.length:=by omega
  rw [e1,ax.all_eq (F:=fun _=>none) e hl q,hl,beq_self_eq_true,Bool.and_true]
 ·rw [nV hl]
  have:(ds.length==es.length)=false:=by simpa using hl
  rw [this,Bool.and_false]
mutual
theorem tf:∀{d:Dat} {n:Nat},okE d n=true->eqD d d=true
 |.non,_,_=>rfl
 |.bl b,_,_=>by simp [eqD]
 |.int i,_,_=>by simp [eqD]
 |.str x,_,_=>by simp [eqD]
 |.tup ds,0,h=>by simp [okE] at h
 |.tup ds,n+1,h=>by simp only [okE] at h;simp only [eqD];exact q0 h
 |.lst ds,0,h=>by simp [okE] at h
 |.lst ds,n+1,h=>by simp only [okE] at h;simp only [eqD];exact q0 h
 |.ins _ _,_,h=>by simp [okE] at h
theorem q0:∀{ds:List Dat} {n:Nat},ki ds n=true->oZ ds ds=true
 |[],_,_=>rfl
 |d::ds,n,h=>by
  simp only [ki,Bool.and_eq_true] at h
  simp only [oZ,tf h.1,q0 h.2,Bool.and_self]
end
theorem d8:∀{ds:List Dat} {n i:Nat} {d:Dat},ki ds n=true->ds[i]? =some d->okE d n=true
 |[],_,_,_,_,h=>by simp at h
 |_::_,_,0,_,h,e=>by
  simp only [ki,Bool.and_eq_true] at h
  simp at e
  rw [<- e];exact h.1
 |_::_,_,i+1,_,h,e=>by
  simp only [ki,Bool.and_eq_true] at h
  exact d8 h.2 (by simpa using e)
end
noncomputable def hZ (ds es:List Dat) (j:Nat):Bool:=match ds[j]?,es[j]? with
 |some a,some b=>eqD a b
 |_,_=>true
section
variable {X:Cx}
mutual
theorem deep_inj {pins:List (Addr×Obj)} {σ:St} {F H:Hp} {s:Shared} (I:Inv X pins σ H s) (hF:aU F H):∀(d e:Dat) {v:V} {n:Nat},cf X.K F d v->cf X.K F e v->okE d n=true->okE e n=true->d=e
 |.non,.non,v,n,q,r,o1,o2=>by
   rfl
 |.non,.bl b,v,n,q,r,o1,o2=>by
   have e1:v=.non:=q
   have e2:v=.bl b:=r
   rw [e1] at e2
   cases e2
 |.non,.int b,v,n,q,r,o1,o2=>by
   have e1:v=.non:=q
   have e2:v=.int b:=r
   rw [e1] at e2
   cases e2
 |.non,.str b,v,n,q,r,o1,o2=>by
   have e1:v=.non:=q
   have e2:v=.str b:=r
   rw [e1] at e2
   cases e2
 |.non,.tup es,v,n,q,r,o1,o2=>by
   have e1:v=.non:=q
   obtain ⟨l,xs,e2,_⟩:=r
   rw [e1] at e2
   cases e2
 |.non,.lst es,v,n,q,r,o1,o2=>by
   have e1:v=.non:=q
   obtain ⟨l,xs,e2,_⟩:=r
   rw [e1] at e2
   cases e2
 |.bl a,.non,v,n,q,r,o1,o2=>by
   have e1:v=.bl a:=q
   have e2:v=.non:=r
   rw [e1] at e2
   cases e2
 |.bl a,.bl b,v,n,q,r,o1,o2=>by
   have e1:v=.bl a:=q
   have e2:v=.bl b:=r
   rw [e1] at e2
   cases e2
   rfl
 |.bl a,.int b,v,n,q,r,o1,o2=>by
   have e1:v=.bl a:=q
   have e2:v=.int b:=r
   rw [e1] at e2
   cases e2
 |.bl a,.str b,v,n,q,r,o1,o2=>by
   have e1:v=.bl a:=q
   have e2:v=.str b:=r
   rw [e1] at e2
   cases e2
 |.bl a,.tup es,v,n,q,r,o1,o2=>by
   have e1:v=.bl a:=q
   obtain ⟨l,xs,e2,_⟩:=r
   rw [e1] at e2
   cases e2
 |.bl a,.lst es,v,n,q,r,o1,o2=>by
   have e1:v=.bl a:=q
   obtain ⟨l,xs,e2,_⟩:=r
   rw [e1] at e2
   cases e2
 |.int a,.non,v,n,q,r,o1,o2=>by
   have e1:v=.int a:=q
   have e2:v=.non:=r
   rw [e1] at e2
   cases e2
 |.int a,.bl b,v,n,q,r,o1,o2=>by
   have e1:v=.int a:=q
   have e2:v=.bl b:=r
   rw [e1] at e2
   cases e2
 |.int a,.int b,v,n,q,r,o1,o2=>by
   have e1:v=.int a:=q
   have e2:v=.int b:=r
   rw [e1] at e2
   cases e2
   rfl
 |.int a,.str b,v,n,q,r,o1,o2=>by
   have e1:v=.int a:=q
   have e2:v=.str b:=r
   rw [e1] at e2
   cases e2
 |.int a,.tup es,v,n,q,r,o1,o2=>by
   have e1:v=.int a:=q
   obtain ⟨l,xs,e2,_⟩:=r
   rw [e1] at e2
   cases e2
 |.int a,.lst es,v,n,q,r,o1,o2=>by
   have e1:v=.int a:=q
   obtain ⟨l,xs,e2,_⟩:=r
   rw [e1] at e2
   cases e2
 |.str a,.non,v,n,q,r,o1,o2=>by
   have e1:v=.str a:=q
   have e2:v=.non:=r
   rw [e1] at e2
   cases e2
 |.str a,.bl b,v,n,q,r,o1,o2=>by
   have e1:v=.str a:=q
   have e2:v=.bl b:=r
   rw [e1] at e2
   cases e2
 |.str a,.int b,v,n,q,r,o1,o2=>by
   have e1:v=.str a:=q
   have e2:v=.int b:=r
   rw [e1] at e2
   cases e2
 |.str a,.str b,v,n,q,r,o1,o2=>by
   have e1:v=.str a:=q
   have e2:v=.str b:=r
   rw [e1] at e2
   cases e2
   rfl
 |.str a,.tup es,v,n,q,r,o1,o2=>by
   have e1:v=.str a:=q
   obtain ⟨l,xs,e2,_⟩:=r
   rw [e1] at e2
   cases e2
 |.str a,.lst es,v,n,q,r,o1,o2=>by
   have e1:v=.str a:=q
   obtain ⟨l,xs,e2,_⟩:=r
   rw [e1] at e2
   cases e2
 |.tup ds,.non,v,n,q,r,o1,o2=>by
   have e1:v=.non:=r
   obtain ⟨l,xs,e2,_⟩:=q
   rw [e1] at e2
   cases e2
 |.tup ds,.bl b,v,n,q,r,o1,o2=>by
   have e1:v=.bl b:=r
   obtain ⟨l,xs,e2,_⟩:=q
   rw [e1] at e2
   cases e2
 |.tup ds,.int b,v,n,q,r,o1,o2=>by
   have e1:v=.int b:=r
   obtain ⟨l,xs,e2,_⟩:=q
   rw [e1] at e2
   cases e2
 |.tup ds,.str b,v,n,q,r,o1,o2=>by
   have e1:v=.str b:=r
   obtain ⟨l,xs,e2,_⟩:=q
   rw [e1] at e2
   cases e2
 |.tup ds,.tup es,v,n,q,r,o1,o2=>by
   obtain ⟨l,xs,e1,h1,r1⟩:=q
   obtain ⟨l2,ys,e2,h2,r2⟩:=r
   rw [e1] at e2
   cases e2
   have e3:=SqT.inj I (hF.tup h1) (hF.tup h2)
   subst e3
   cases n with
   |zero=>exact absurd o1 (by simp [okE])
   |succ n=>rw [mn I hF ds es r1 r2 (by simpa only [okE] using o1) (by simpa only [okE] using o2)]
 |.tup ds,.lst es,v,n,q,r,o1,o2=>by
   obtain ⟨l,xs,e1,h1,r1⟩:=q
   obtain ⟨l2,ys,e2,h2,r2⟩:=r
   rw [e1] at e2
   cases e2
   obtain ⟨i1,_,p1,_⟩:=I.list (hF.lst h2)
   obtain ⟨i2,_,p2,_⟩:=I.tuple (hF.tup h1)
   exact absurd rfl (SeqAt.ne_of_list_tuple p1.isList (show s.heap.IsTuple l i2.toArray from p2))
 |.lst ds,.non,v,n,q,r,o1,o2=>by
   have e1:v=.non:=r
   obtain ⟨l,xs,e2,_⟩:=q
   rw [e1] at e2
   cases e2
 |.lst ds,.bl b,v,n,q,r,o1,o2=>by
   have e1:v=.bl b:=r
   obtain ⟨l,xs,e2,_⟩:=q
   rw [e1] at e2
   cases e2
 |.lst ds,.int b,v,n,q,r,o1,o2=>by
   have e1:v=.int b:=r
   obtain ⟨l,xs,e2,_⟩:=q
   rw [e1] at e2
   cases e2
 |.lst ds,.str b,v,n,q,r,o1,o2=>by
   have e1:v=.str b:=r
   obtain ⟨l,xs,e2,_⟩:=q
   rw [e1] at e2
   cases e2
 |.lst ds,.tup es,v,n,q,r,o1,o2=>by
   obtain ⟨l,xs,e1,h1,r1⟩:=q
   obtain ⟨l2,ys,e2,h2,r2⟩:=r
   rw [e1] at e2
   cases e2
   obtain ⟨i1,_,p1,_⟩:=I.list (hF.lst h1)
   obtain ⟨i2,_,p2,_⟩:=I.tuple (hF.tup h2)
   exact absurd rfl (SeqAt.ne_of_list_tuple p1.isList (show s.heap.IsTuple l i2.toArray from p2))
 |.lst ds,.lst es,v,n,q,r,o1,o2=>by
   obtain ⟨l,xs,e1,h1,r1⟩:=q
   obtain ⟨l2,ys,e2,h2,r2⟩:=r
   rw [e1] at e2
   cases e2
   have e3:=SqL.inj I (hF.lst h1) (hF.lst h2)
   subst e3
   cases n with
   |zero=>exact absurd o1 (by simp [okE])
   |succ n=>rw [mn I hF ds es r1 r2 (by simpa only [okE] using o1) (by simpa only [okE] using o2)]
 |.ins _ _,_,_,_,_,_,o1,_=>by simp [okE] at o1
 |_,.ins _ _,_,_,_,_,_,o2=>by simp [okE] at o2
theorem mn {pins:List (Addr×Obj)} {σ:St} {F H:Hp} {s:Shared} (I:Inv X pins σ H s) (hF:aU F H):∀(ds es:List Dat) {xs:List V} {n:Nat},ax X.K F ds xs->ax X.K F es xs->ki ds n=true->ki es n=true->ds=es
 |[],[],_,_,_,_,_,_=>rfl
 |[],_::_,_,_,q,⟨_,_,e,_⟩,_,_=>by rw [show _=[] from q] at e;cases e
 |_::_,[],_,_,⟨_,_,e,_⟩,q,_,_=>by rw [show _=[] from q] at e;cases e
 |d::ds,e::es,_,n,⟨v,vs,e1,q1,r1⟩,⟨w,ws,e2,q2,r2⟩,o1,o2=>by
  rw [e1] at e2
  cases e2
  simp only [ki,Bool.and_eq_true] at o1 o2
  rw [deep_inj I hF d e q1 q2 o1.1 o2.1,mn I hF ds es r1 r2 o1.2 o2.2]
end
end
section
variable {X:Cx} {K:PySem.W.Frag} {W:fm} {own ro:Bool}
mutual
theorem eqAt_D {pins:List (Addr×Obj)} {σ:St} {F H:Hp} {s:Shared} (I:Inv X pins σ H s) (hF:aU F H):∀(a b:Dat) {n:Nat} {x y:V} {u v:Value} {A:Around},okE a n=true->okE b n=true->cf X.K F a x->cf X.K F b y->RelV x u->RelV y v->A.units+n<cLine->SeqAt.EqAt A s u v (eqD a b)
 |.non,.non,n,x,y,u,v,A,oa,ob,qa,qb,ra,rb,hu=>by
   cases (show x=.non from qa)
   cases ra
   cases (show y=.non from qb)
   cases rb
   exact SeqAt.EqAt.same _
 |.non,.bl b,n,x,y,u,v,A,oa,ob,qa,qb,ra,rb,hu=>by
   cases (show x=.non from qa)
   cases ra
   cases (show y=.bl b from qb)
   cases rb
   exact SeqAt.EqAt.none_bool b
 |.non,.int b,n,x,y,u,v,A,oa,ob,qa,qb,ra,rb,hu=>by
   cases (show x=.non from qa)
   cases ra
   cases (show y=.int b from qb)
   obtain ⟨t2,rfl⟩:=rb
   exact SeqAt.EqAt.none_int b t2
 |.non,.str b,n,x,y,u,v,A,oa,ob,qa,qb,ra,rb,hu=>by
   cases (show x=.non from qa)
   cases ra
   cases (show y=.str b from qb)
   obtain ⟨t2,rfl⟩:=rb
   exact SeqAt.EqAt.none_str b t2
 |.non,.tup es,n,x,y,u,v,A,oa,ob,qa,qb,ra,rb,hu=>by
   cases (show x=.non from qa)
   cases ra
   obtain ⟨l2,ys,e2,h2,r2⟩:=qb
   subst e2
   cases rb
   obtain ⟨js,w2,p2,_⟩:=I.tuple (hF.tup h2)
   exact SeqAt.EqAt.none_tuple (show s.heap.IsTuple l2 js.toArray from p2) (by omega)
 |.non,.lst es,n,x,y,u,v,A,oa,ob,qa,qb,ra,rb,hu=>by
   cases (show x=.non from qa)
   cases ra
   obtain ⟨l2,ys,e2,h2,r2⟩:=qb
   subst e2
   cases rb
   obtain ⟨js,w2,p2,_⟩:=I.list (hF.lst h2)
   exact SeqAt.EqAt.none_list p2.isList (by omega)
 |.bl a,.non,n,x,y,u,v,A,oa,ob,qa,qb,ra,rb,hu=>by
   cases (show x=.bl a from qa)
   cases ra
   cases (show y=.non from qb)
   cases rb
   exact SeqAt.EqAt.bool_none a
 |.bl a,.bl b,n,x,y,u,v,A,oa,ob,qa,qb,ra,rb,hu=>by
   cases (show x=.bl a from qa)
   cases ra
   cases (show y=.bl b from qb)
   cases rb
   exact SeqAt.EqAt.bool_bool a b
 |.bl a,.int b,n,x,y,u,v,A,oa,ob,qa,qb,ra,rb,hu=>by
   cases (show x=.bl a from qa)
   cases ra
   cases (show y=.int b from qb)
   obtain ⟨t2,rfl⟩:=rb
   exact SeqAt.EqAt.bool_int a b t2
 |.bl a,.str b,n,x,y,u,v,A,oa,ob,qa,qb,ra,rb,hu=>by
   cases (show x=.bl a from qa)
   cases ra
   cases (show y=.str b from qb)
   obtain ⟨t2,rfl⟩:=rb
   exact SeqAt.EqAt.bool_str a b t2
 |.bl a,.tup es,n,x,y,u,v,A,oa,ob,qa,qb,ra,rb,hu=>by
   cases (show x=.bl a from qa)
   cases ra
   obtain ⟨l2,ys,e2,h2,r2⟩:=qb
   subst e2
   cases rb
   obtain ⟨js,w2,p2,_⟩:=I.tuple (hF.tup h2)
   exact SeqAt.EqAt.bool_tuple a (show s.heap.IsTuple l2 js.toArray from p2) (by omega)
 |.bl a,.lst es,n,x,y,u,v,A,oa,ob,qa,qb,ra,rb,hu=>by
   cases (show x=.bl a from qa)
   cases ra
   obtain ⟨l2,ys,e2,h2,r2⟩:=qb
   subst e2
   cases rb
   obtain ⟨js,w2,p2,_⟩:=I.list (hF.lst h2)
   exact SeqAt.EqAt.bool_list a p2.isList (by omega)
 |.int a,.non,n,x,y,u,v,A,oa,ob,qa,qb,ra,rb,hu=>by
   cases (show x=.int a from qa)
   obtain ⟨t1,rfl⟩:=ra
   cases (show y=.non from qb)
   cases rb
   exact SeqAt.EqAt.int_none a t1
 |.int a,.bl b,n,x,y,u,v,A,oa,ob,qa,qb,ra,rb,hu=>by
   cases (show x=.int a from qa)
   obtain ⟨t1,rfl⟩:=ra
   cases (show y=.bl b from qb)
   cases rb
   exact SeqAt.EqAt.int_bool a t1 b
 |.int a,.int b,n,x,y,u,v,A,oa,ob,qa,qb,ra,rb,hu=>by
   cases (show x=.int a from qa)
   obtain ⟨t1,rfl⟩:=ra
   cases (show y=.int b from qb)
   obtain ⟨t2,rfl⟩:=rb
   exact SeqAt.EqAt.int_int a t1 b t2
 |.int a,.str b,n,x,y,u,v,A,oa,ob,qa,qb,ra,rb,hu=>by
   cases (show x=.int a from qa)
   obtain ⟨t1,rfl⟩:=ra
   cases (show y=.str b from qb)
   obtain ⟨t2,rfl⟩:=rb
   exact SeqAt.EqAt.int_str a t1 b t2
 |.int a,.tup es,n,x,y,u,v,A,oa,ob,qa,qb,ra,rb,hu=>by
   cases (show x=.int a from qa)
   obtain ⟨t1,rfl⟩:=ra
   obtain ⟨l2,ys,e2,h2,r2⟩:=qb
   subst e2
   cases rb
   obtain ⟨js,w2,p2,_⟩:=I.tuple (hF.tup h2)
   exact SeqAt.EqAt.int_tuple a t1 (show s.heap.IsTuple l2 js.toArray from p2) (by omega)
 |.int a,.lst es,n,x,y,u,v,A,oa,ob,qa,qb,ra,rb,hu=>by
   cases (show x=.int a from qa)
   obtain ⟨t1,rfl⟩:=ra
   obtain ⟨l2,ys,e2,h2,r2⟩:=qb
   subst e2
   cases rb
   obtain ⟨js,w2,p2,_⟩:=I.list (hF.lst h2)
   exact SeqAt.EqAt.int_list a t1 p2.isList (by omega)
 |.str a,.non,n,x,y,u,v,A,oa,ob,qa,qb,ra,rb,hu=>by
   cases (show x=.str a from qa)
   obtain ⟨t1,rfl⟩:=ra
   cases (show y=.non from qb)
   cases rb
   exact SeqAt.EqAt.str_none a t1
 |.str a,.bl b,n,x,y,u,v,A,oa,ob,qa,qb,ra,rb,hu=>by
   cases (show x=.str a from qa)
   obtain ⟨t1,rfl⟩:=ra
   cases (show y=.bl b from qb)
   cases rb
   exact SeqAt.EqAt.str_bool a t1 b
 |.str a,.int b,n,x,y,u,v,A,oa,ob,qa,qb,ra,rb,hu=>by
   cases (show x=.str a from qa)
   obtain ⟨t1,rfl⟩:=ra
   cases (show y=.int b from qb)
   obtain ⟨t2,rfl⟩:=rb
   exact SeqAt.EqAt.str_int a t1 b t2
 |.str a,.str b,n,x,y,u,v,A,oa,ob,qa,qb,ra,rb,hu=>by
   cases (show x=.str a from qa)
   obtain ⟨t1,rfl⟩:=ra
   cases (show y=.str b from qb)
   obtain ⟨t2,rfl⟩:=rb
   exact SeqAt.EqAt.str_str a t1 b t2
 |.str a,.tup es,n,x,y,u,v,A,oa,ob,qa,qb,ra,rb,hu=>by
   cases (show x=.str a from qa)
   obtain ⟨t1,rfl⟩:=ra
   obtain ⟨l2,ys,e2,h2,r2⟩:=qb
   subst e2
   cases rb
   obtain ⟨js,w2,p2,_⟩:=I.tuple (hF.tup h2)
   exact SeqAt.EqAt.str_tuple a t1 (show s.heap.IsTuple l2 js.toArray from p2) (by omega)
 |.str a,.lst es,n,x,y,u,v,A,oa,ob,qa,qb,ra,rb,hu=>by
   cases (show x=.str a from qa)
   obtain ⟨t1,rfl⟩:=ra
   obtain ⟨l2,ys,e2,h2,r2⟩:=qb
   subst e2
   cases rb
   obtain ⟨js,w2,p2,_⟩:=I.list (hF.lst h2)
   exact SeqAt.EqAt.str_list a t1 p2.isList (by omega)
 |.tup ds,.non,n,x,y,u,v,A,oa,ob,qa,qb,ra,rb,hu=>by
   obtain ⟨l1,xs,e1,h1,r1⟩:=qa
   subst e1
   cases ra
   obtain ⟨is,w1,p1,_⟩:=I.tuple (hF.tup h1)
   cases (show y=.non from qb)
   cases rb
   exact SeqAt.EqAt.tuple_none (show s.heap.IsTuple l1 is.toArray from p1) (by omega)
 |.tup ds,.bl b,n,x,y,u,v,A,oa,ob,qa,qb,ra,rb,hu=>by
   obtain ⟨l1,xs,e1,h1,r1⟩:=qa
   subst e1
   cases ra
   obtain ⟨is,w1,p1,_⟩:=I.tuple (hF.tup h1)
   cases (show y=.bl b from qb)
   cases rb
   exact SeqAt.EqAt.tuple_bool b (show s.heap.IsTuple l1 is.toArray from p1) (by omega)
 |.tup ds,.int b,n,x,y,u,v,A,oa,ob,qa,qb,ra,rb,hu=>by
   obtain ⟨l1,xs,e1,h1,r1⟩:=qa
   subst e1
   cases ra
   obtain ⟨is,w1,p1,_⟩:=I.tuple (hF.tup h1)
   cases (show y=.int b from qb)
   obtain ⟨t2,rfl⟩:=rb
   exact SeqAt.EqAt.tuple_int b t2 (show s.heap.IsTuple l1 is.toArray from p1) (by omega)
 |.tup ds,.str b,n,x,y,u,v,A,oa,ob,qa,qb,ra,rb,hu=>by
   obtain ⟨l1,xs,e1,h1,r1⟩:=qa
   subst e1
   cases ra
   obtain ⟨is,w1,p1,_⟩:=I.tuple (hF.tup h1)
   cases (show y=.str b from qb)
   obtain ⟨t2,rfl⟩:=rb
   exact SeqAt.EqAt.tuple_str b t2 (show s.heap.IsTuple l1 is.toArray from p1) (by omega)
 |.tup ds,.tup es,n,x,y,u,v,A,oa,ob,qa,qb,ra,rb,hu=>by
   obtain ⟨l1,xs,e1,h1,r1⟩:=qa
   subst e1
   cases ra
   obtain ⟨is,w1,p1,_⟩:=I.tuple (hF.tup h1)
   obtain ⟨l2,ys,e2,h2,r2⟩:=qb
   subst e2
   cases rb
   obtain ⟨js,w2,p2,_⟩:=I.tuple (hF.tup h2)
   have z1:=w1.length
   have z2:=w2.length
   have y1:=r1.length
   have y2:=r2.length
   cases n with
   |zero=>exact absurd oa (by simp [okE])
   |succ n=>
    have oa':ki ds n=true:=by simpa only [okE] using oa
    have ob':ki es n=true:=by simpa only [okE] using ob
    by_cases hab:l1=l2
    ·subst hab
     have e3:=SqT.inj I (hF.tup h1) (hF.tup h2)
     subst e3
     have e4:ds=es:=mn I hF ds es r1 r2 oa' ob'
     subst e4
     rw [tf (n:=n+1) oa]
     exact SeqAt.EqAt.same _
    ·have q:=SeqAt.RcAt.tuples (A:=A) (e:=hZ ds es) (show s.heap.IsTuple l1 is.toArray from p1) (show s.heap.IsTuple l2 js.toArray from p2) (by omega) (fun j h1 h2=>by
      obtain ⟨x',f1,g1⟩:=w1.atA h1
      obtain ⟨y',f2,g2⟩:=w2.atA h2
      obtain ⟨d1,k1,m1⟩:=r1.at f1
      obtain ⟨d2,k2,m2⟩:=r2.at f2
      have q:=nu I hF ds j d1 k1 d2 (n:=n) (A:=A.in1) (d8 oa' k1) (d8 ob' k2) m1 m2 g1 g2 (by show A.units+1+n<cLine;omega)
      have e5:hZ ds es j=eqD d1 d2:=by simp only [hZ,k1,k2]
      rw [e5]
      exact q
      )
     have ez:is.toArray.size=ds.length:=by simp;omega
     have ez2:js.toArray.size=es.length:=by simp;omega
     rw [ez,ez2,t9 _ (fun j a b h1 h2=>by simp only [hZ,h1,h2])] at q
     exact SeqAt.EqAt.of_refs hab q
 |.tup ds,.lst es,n,x,y,u,v,A,oa,ob,qa,qb,ra,rb,hu=>by
   obtain ⟨l1,xs,e1,h1,r1⟩:=qa
   subst e1
   cases ra
   obtain ⟨is,w1,p1,_⟩:=I.tuple (hF.tup h1)
   obtain ⟨l2,ys,e2,h2,r2⟩:=qb
   subst e2
   cases rb
   obtain ⟨js,w2,p2,_⟩:=I.list (hF.lst h2)
   exact SeqAt.EqAt.tuple_list (show s.heap.IsTuple l1 is.toArray from p1) p2.isList (by omega)
 |.lst ds,.non,n,x,y,u,v,A,oa,ob,qa,qb,ra,rb,hu=>by
   obtain ⟨l1,xs,e1,h1,r1⟩:=qa
   subst e1
   cases ra
   obtain ⟨is,w1,p1,_⟩:=I.list (hF.lst h1)
   cases (show y=.non from qb)
   cases rb
   exact SeqAt.EqAt.list_none p1.isList (by omega)
 |.lst ds,.bl b,n,x,y,u,v,A,oa,ob,qa,qb,ra,rb,hu=>by
   obtain ⟨l1,xs,e1,h1,r1⟩:=qa
   subst e1
   cases ra
   obtain ⟨is,w1,p1,_⟩:=I.list (hF.lst h1)
   cases (show y=.bl b from qb)
   cases rb
   exact SeqAt.EqAt.list_bool b p1.isList (by omega)
 |.lst ds,.int b,n,x,y,u,v,A,oa,ob,qa,qb,ra,rb,hu=>by
   obtain ⟨l1,xs,e1,h1,r1⟩:=qa
   subst e1
   cases ra
   obtain ⟨is,w1,p1,_⟩:=I.list (hF.lst h1)
   cases (show y=.int b from qb)
   obtain ⟨t2,rfl⟩:=rb
   exact SeqAt.EqAt.list_int b t2 p1.isList (by omega)
 |.lst ds,.str b,n,x,y,u,v,A,oa,ob,qa,qb,ra,rb,hu=>by
   obtain ⟨l1,xs,e1,h1,r1⟩:=qa
   subst e1
   cases ra
   obtain ⟨is,w1,p1,_⟩:=I.list (hF.lst h1)
   cases (show y=.str b from qb)
   obtain ⟨t2,rfl⟩:=rb
   exact SeqAt.EqAt.list_str b t2 p1.isList (by omega)
 |.lst ds,.tup es,n,x,y,u,v,A,oa,ob,qa,qb,ra,rb,hu=>by
   obtain ⟨l1,xs,e1,h1,r1⟩:=qa
   subst e1
   cases ra
   obtain ⟨is,w1,p1,_⟩:=I.list (hF.lst h1)
   obtain ⟨l2,ys,e2,h2,r2⟩:=qb
   subst e2
   cases rb
   obtain ⟨js,w2,p2,_⟩:=I.tuple (hF.tup h2)
   exact SeqAt.EqAt.list_tuple p1.isList (show s.heap.IsTuple l2 js.toArray from p2) (by omega)
 |.lst ds,.lst es,n,x,y,u,v,A,oa,ob,qa,qb,ra,rb,hu=>by
   obtain ⟨l1,xs,e1,h1,r1⟩:=qa
   subst e1
   cases ra
   obtain ⟨is,w1,p1,_⟩:=I.list (hF.lst h1)
   obtain ⟨l2,ys,e2,h2,r2⟩:=qb
   subst e2
   cases rb
   obtain ⟨js,w2,p2,_⟩:=I.list (hF.lst h2)
   have z1:=w1.length
   have z2:=w2.length
   have y1:=r1.length
   have y2:=r2.length
   cases n with
   |zero=>exact absurd oa (by simp [okE])
   |succ n=>
    have oa':ki ds n=true:=by simpa only [okE] using oa
    have ob':ki es n=true:=by simpa only [okE] using ob
    by_cases hab:l1=l2
    ·subst hab
     have e3:=SqL.inj I (hF.lst h1) (hF.lst h2)
     subst e3
     have e4:ds=es:=mn I hF ds es r1 r2 oa' ob'
     subst e4
     rw [tf (n:=n+1) oa]
     exact SeqAt.EqAt.same _
    ·by_cases hl:ds.length=es.length
     ·have q:=SeqAt.RcAt.lists (A:=A) (e:=hZ ds es) p1.isList p2.isList (by simp;omega) (by omega) (fun j h1 h2=>by
       obtain ⟨x',f1,g1⟩:=w1.atA h1
       obtain ⟨y',f2,g2⟩:=w2.atA h2
       obtain ⟨d1,k1,m1⟩:=r1.at f1
       obtain ⟨d2,k2,m2⟩:=r2.at f2
       have q:=nu I hF ds j d1 k1 d2 (n:=n) (A:=A.in1) (d8 oa' k1) (d8 ob' k2) m1 m2 g1 g2 (by show A.units+1+n<cLine;omega)
       have e5:hZ ds es j=eqD d1 d2:=by simp only [hZ,k1,k2]
       rw [e5]
       exact q
       )
      have ez:is.toArray.size=ds.length:=by simp;omega
      rw [ez,ax.all_eq (F:=F) _ hl (fun j a b h1 h2=>by simp only [hZ,h1,h2])] at q
      exact SeqAt.EqAt.of_refs hab q
     ·rw [show eqD (.lst ds) (.lst es)=false from nV hl]
      exact SeqAt.EqAt.of_refs hab (SeqAt.RcAt.lists_lengths (A:=A) p1.isList p2.isList (by simp;omega) (by omega))
 |.ins _ _,_,_,_,_,_,_,_,oa,_,_,_,_,_,_=>by simp [okE] at oa
 |_,.ins _ _,_,_,_,_,_,_,_,ob,_,_,_,_,_=>by simp [okE] at ob
theorem nu {pins:List (Addr×Obj)} {σ:St} {F H:Hp} {s:Shared} (I:Inv X pins σ H s) (hF:aU F H):∀(ds:List Dat) (j:Nat) (a:Dat),ds[j]? =some a->∀(b:Dat) {n:Nat} {x y:V} {u v:Value} {A:Around},okE a n=true->okE b n=true->cf X.K F a x->cf X.K F b y->RelV x u->RelV y v->A.units+n<cLine->SeqAt.EqAt A s u v (eqD a b)
 |[],j,_,h=>by simp at h
 |d::ds,0,_,h=>by
  simp only [List.getElem?_cons_zero,Option.some.injEq] at h
  subst h
  exact eqAt_D I hF d
 |d::ds,j+1,a,h=>nu I hF ds j a (by simpa using h)
end
theorem rcAt_D {pins:List (Addr×Obj)} {σ:St} {F H:Hp} {s:Shared} (I:Inv X pins σ H s) (hF:aU F H):∀(a b:Dat) {n:Nat} {x y:V} {u v:Value} {A:Around},okE a n=true->okE b n=true->cf X.K F a x->cf X.K F b y->RelV x u->RelV y v->A.units+n<cLine->SeqAt.RcAt A s u v (eqD a b)
 |.non,.non,n,x,y,u,v,A,oa,ob,qa,qb,ra,rb,hu=>by
   cases (show x=.non from qa)
   cases ra
   cases (show y=.non from qb)
   cases rb
   exact SeqAt.RcAt.none_none
 |.non,.bl b,n,x,y,u,v,A,oa,ob,qa,qb,ra,rb,hu=>by
   cases (show x=.non from qa)
   cases ra
   cases (show y=.bl b from qb)
   cases rb
   exact SeqAt.RcAt.none_bool b
 |.non,.int b,n,x,y,u,v,A,oa,ob,qa,qb,ra,rb,hu=>by
   cases (show x=.non from qa)
   cases ra
   cases (show y=.int b from qb)
   obtain ⟨t2,rfl⟩:=rb
   exact SeqAt.RcAt.none_int b t2
 |.non,.str b,n,x,y,u,v,A,oa,ob,qa,qb,ra,rb,hu=>by
   cases (show x=.non from qa)
   cases ra
   cases (show y=.str b from qb)
   obtain ⟨t2,rfl⟩:=rb
   exact SeqAt.RcAt.none_str b t2
 |.non,.tup es,n,x,y,u,v,A,oa,ob,qa,qb,ra,rb,hu=>by
   cases (show x=.non from qa)
   cases ra
   obtain ⟨l2,ys,e2,h2,r2⟩:=qb
   subst e2
   cases rb
   obtain ⟨js,w2,p2,_⟩:=I.tuple (hF.tup h2)
   exact SeqAt.RcAt.none_tuple (show s.heap.IsTuple l2 js.toArray from p2) (by omega)
 |.non,.lst es,n,x,y,u,v,A,oa,ob,qa,qb,ra,rb,hu=>by
   cases (show x=.non from qa)
   cases ra
   obtain ⟨l2,ys,e2,h2,r2⟩:=qb
   subst e2
   cases rb
   obtain ⟨js,w2,p2,_⟩:=I.list (hF.lst h2)
   exact SeqAt.RcAt.none_list p2.isList (by omega)
 |.bl a,.non,n,x,y,u,v,A,oa,ob,qa,qb,ra,rb,hu=>by
   cases (show x=.bl a from qa)
   cases ra
   cases (show y=.non from qb)
   cases rb
   exact SeqAt.RcAt.bool_none a
 |.bl a,.bl b,n,x,y,u,v,A,oa,ob,qa,qb,ra,rb,hu=>by
   cases (show x=.bl a from qa)
   cases ra
   cases (show y=.bl b from qb)
   cases rb
   exact SeqAt.RcAt.bool_bool a b
 |.bl a,.int b,n,x,y,u,v,A,oa,ob,qa,qb,ra,rb,hu=>by
   cases (show x=.bl a from qa)
   cases ra
   cases (show y=.int b from qb)
   obtain ⟨t2,rfl⟩:=rb
   exact SeqAt.RcAt.bool_int a b t2
 |.bl a,.str b,n,x,y,u,v,A,oa,ob,qa,qb,ra,rb,hu=>by
   cases (show x=.bl a from qa)
   cases ra
   cases (show y=.str b from qb)
   obtain ⟨t2,rfl⟩:=rb
   exact SeqAt.RcAt.bool_str a b t2
 |.bl a,.tup es,n,x,y,u,v,A,oa,ob,qa,qb,ra,rb,hu=>by
   cases (show x=.bl a from qa)
   cases ra
   obtain ⟨l2,ys,e2,h2,r2⟩:=qb
   subst e2
   cases rb
   obtain ⟨js,w2,p2,_⟩:=I.tuple (hF.tup h2)
   exact SeqAt.RcAt.bool_tuple a (show s.heap.IsTuple l2 js.toArray from p2) (by omega)
 |.bl a,.lst es,n,x,y,u,v,A,oa,ob,qa,qb,ra,rb,hu=>by
   cases (show x=.bl a from qa)
   cases ra
   obtain ⟨l2,ys,e2,h2,r2⟩:=qb
   subst e2
   cases rb
   obtain ⟨js,w2,p2,_⟩:=I.list (hF.lst h2)
   exact SeqAt.RcAt.bool_list a p2.isList (by omega)
 |.int a,.non,n,x,y,u,v,A,oa,ob,qa,qb,ra,rb,hu=>by
   cases (show x=.int a from qa)
   obtain ⟨t1,rfl⟩:=ra
   cases (show y=.non from qb)
   cases rb
   exact SeqAt.RcAt.int_none a t1
 |.int a,.bl b,n,x,y,u,v,A,oa,ob,qa,qb,ra,rb,hu=>by
   cases (show x=.int a from qa)
   obtain ⟨t1,rfl⟩:=ra
   cases (show y=.bl b from qb)
   cases rb
   exact SeqAt.RcAt.int_bool a t1 b
 |.int a,.int b,n,x,y,u,v,A,oa,ob,qa,qb,ra,rb,hu=>by
   cases (show x=.int a from qa)
   obtain ⟨t1,rfl⟩:=ra
   cases (show y=.int b from qb)
   obtain ⟨t2,rfl⟩:=rb
   exact SeqAt.RcAt.int_int a t1 b t2
 |.int a,.str b,n,x,y,u,v,A,oa,ob,qa,qb,ra,rb,hu=>by
   cases (show x=.int a from qa)
   obtain ⟨t1,rfl⟩:=ra
   cases (show y=.str b from qb)
   obtain ⟨t2,rfl⟩:=rb
   exact SeqAt.RcAt.int_str a t1 b t2
 |.int a,.tup es,n,x,y,u,v,A,oa,ob,qa,qb,ra,rb,hu=>by
   cases (show x=.int a from qa)
   obtain ⟨t1,rfl⟩:=ra
   obtain ⟨l2,ys,e2,h2,r2⟩:=qb
   subst e2
   cases rb
   obtain ⟨js,w2,p2,_⟩:=I.tuple (hF.tup h2)
   exact SeqAt.RcAt.int_tuple a t1 (show s.heap.IsTuple l2 js.toArray from p2) (by omega)
 |.int a,.lst es,n,x,y,u,v,A,oa,ob,qa,qb,ra,rb,hu=>by
   cases (show x=.int a from qa)
   obtain ⟨t1,rfl⟩:=ra
   obtain ⟨l2,ys,e2,h2,r2⟩:=qb
   subst e2
   cases rb
   obtain ⟨js,w2,p2,_⟩:=I.list (hF.lst h2)
   exact SeqAt.RcAt.int_list a t1 p2.isList (by omega)
 |.str a,.non,n,x,y,u,v,A,oa,ob,qa,qb,ra,rb,hu=>by
   cases (show x=.str a from qa)
   obtain ⟨t1,rfl⟩:=ra
   cases (show y=.non from qb)
   cases rb
   exact SeqAt.RcAt.str_none a t1
 |.str a,.bl b,n,x,y,u,v,A,oa,ob,qa,qb,ra,rb,hu=>by
   cases (show x=.str a from qa)
   obtain ⟨t1,rfl⟩:=ra
   cases (show y=.bl b from qb)
   cases rb
   exact SeqAt.RcAt.str_bool a t1 b
 |.str a,.int b,n,x,y,u,v,A,oa,ob,qa,qb,ra,rb,hu=>by
   cases (show x=.str a from qa)
   obtain ⟨t1,rfl⟩:=ra
   cases (show y=.int b from qb)
   obtain ⟨t2,rfl⟩:=rb
   exact SeqAt.RcAt.str_int a t1 b t2
 |.str a,.str b,n,x,y,u,v,A,oa,ob,qa,qb,ra,rb,hu=>by
   cases (show x=.str a from qa)
   obtain ⟨t1,rfl⟩:=ra
   cases (show y=.str b from qb)
   obtain ⟨t2,rfl⟩:=rb
   exact SeqAt.RcAt.str_str a t1 b t2
 |.str a,.tup es,n,x,y,u,v,A,oa,ob,qa,qb,ra,rb,hu=>by
   cases (show x=.str a from qa)
   obtain ⟨t1,rfl⟩:=ra
   obtain ⟨l2,ys,e2,h2,r2⟩:=qb
   subst e2
   cases rb
   obtain ⟨js,w2,p2,_⟩:=I.tuple (hF.tup h2)
   exact SeqAt.RcAt.str_tuple a t1 (show s.heap.IsTuple l2 js.toArray from p2) (by omega)
 |.str a,.lst es,n,x,y,u,v,A,oa,ob,qa,qb,ra,rb,hu=>by
   cases (show x=.str a from qa)
   obtain ⟨t1,rfl⟩:=ra
   obtain ⟨l2,ys,e2,h2,r2⟩:=qb
   subst e2
   cases rb
   obtain ⟨js,w2,p2,_⟩:=I.list (hF.lst h2)
   exact SeqAt.RcAt.str_list a t1 p2.isList (by omega)
 |.tup ds,.non,n,x,y,u,v,A,oa,ob,qa,qb,ra,rb,hu=>by
   obtain ⟨l1,xs,e1,h1,r1⟩:=qa
   subst e1
   cases ra
   obtain ⟨is,w1,p1,_⟩:=I.tuple (hF.tup h1)
   cases (show y=.non from qb)
   cases rb
   exact SeqAt.RcAt.tuple_none (show s.heap.IsTuple l1 is.toArray from p1) (by omega)
 |.tup ds,.bl b,n,x,y,u,v,A,oa,ob,qa,qb,ra,rb,hu=>by
   obtain ⟨l1,xs,e1,h1,r1⟩:=qa
   subst e1
   cases ra
   obtain ⟨is,w1,p1,_⟩:=I.tuple (hF.tup h1)
   cases (show y=.bl b from qb)
   cases rb
   exact SeqAt.RcAt.tuple_bool b (show s.heap.IsTuple l1 is.toArray from p1) (by omega)
 |.tup ds,.int b,n,x,y,u,v,A,oa,ob,qa,qb,ra,rb,hu=>by
   obtain ⟨l1,xs,e1,h1,r1⟩:=qa
   subst e1
   cases ra
   obtain ⟨is,w1,p1,_⟩:=I.tuple (hF.tup h1)
   cases (show y=.int b from qb)
   obtain ⟨t2,rfl⟩:=rb
   exact SeqAt.RcAt.tuple_int b t2 (show s.heap.IsTuple l1 is.toArray from p1) (by omega)
 |.tup ds,.str b,n,x,y,u,v,A,oa,ob,qa,qb,ra,rb,hu=>by
   obtain ⟨l1,xs,e1,h1,r1⟩:=qa
   subst e1
   cases ra
   obtain ⟨is,w1,p1,_⟩:=I.tuple (hF.tup h1)
   cases (show y=.str b from qb)
   obtain ⟨t2,rfl⟩:=rb
   exact SeqAt.RcAt.tuple_str b t2 (show s.heap.IsTuple l1 is.toArray from p1) (by omega)
 |.tup ds,.tup es,n,x,y,u,v,A,oa,ob,qa,qb,ra,rb,hu=>by
   obtain ⟨l1,xs,e1,h1,r1⟩:=qa
   subst e1
   cases ra
   obtain ⟨is,w1,p1,_⟩:=I.tuple (hF.tup h1)
   obtain ⟨l2,ys,e2,h2,r2⟩:=qb
   subst e2
   cases rb
   obtain ⟨js,w2,p2,_⟩:=I.tuple (hF.tup h2)
   have z1:=w1.length
   have z2:=w2.length
   have y1:=r1.length
   have y2:=r2.length
   cases n with
   |zero=>exact absurd oa (by simp [okE])
   |succ n=>
    have oa':ki ds n=true:=by simpa only [okE] using oa
    have ob':ki es n=true:=by simpa only [okE] using ob
    have q:=SeqAt.RcAt.tuples (A:=A) (e:=hZ ds es) (show s.heap.IsTuple l1 is.toArray from p1) (show s.heap.IsTuple l2 js.toArray from p2) (by omega) (fun j h1 h2=>by
     obtain ⟨x',f1,g1⟩:=w1.atA h1
     obtain ⟨y',f2,g2⟩:=w2.atA h2
     obtain ⟨d1,k1,m1⟩:=r1.at f1
     obtain ⟨d2,k2,m2⟩:=r2.at f2
     have q:=nu I hF ds j d1 k1 d2 (n:=n) (A:=A.in1) (d8 oa' k1) (d8 ob' k2) m1 m2 g1 g2 (by show A.units+1+n<cLine;omega)
     have e5:hZ ds es j=eqD d1 d2:=by simp only [hZ,k1,k2]
     rw [e5]
     exact q
     )
    have ez:is.toArray.size=ds.length:=by simp;omega
    have ez2:js.toArray.size=es.length:=by simp;omega
    rw [ez,ez2,t9 _ (fun j a b h1 h2=>by simp only [hZ,h1,h2])] at q
    exact q
 |.tup ds,.lst es,n,x,y,u,v,A,oa,ob,qa,qb,ra,rb,hu=>by
   obtain ⟨l1,xs,e1,h1,r1⟩:=qa
   subst e1
   cases ra
   obtain ⟨is,w1,p1,_⟩:=I.tuple (hF.tup h1)
   obtain ⟨l2,ys,e2,h2,r2⟩:=qb
   subst e2
   cases rb
   obtain ⟨js,w2,p2,_⟩:=I.list (hF.lst h2)
   exact SeqAt.RcAt.tuple_list (show s.heap.IsTuple l1 is.toArray from p1) p2.isList (by omega)
 |.lst ds,.non,n,x,y,u,v,A,oa,ob,qa,qb,ra,rb,hu=>by
   obtain ⟨l1,xs,e1,h1,r1⟩:=qa
   subst e1
   cases ra
   obtain ⟨is,w1,p1,_⟩:=I.list (hF.lst h1)
   cases (show y=.non from qb)
   cases rb
   exact SeqAt.RcAt.list_none p1.isList (by omega)
 |.lst ds,.bl b,n,x,y,u,v,A,oa,ob,qa,qb,ra,rb,hu=>by
   obtain ⟨l1,xs,e1,h1,r1⟩:=qa
   subst e1
   cases ra
   obtain ⟨is,w1,p1,_⟩:=I.list (hF.lst h1)
   cases (show y=.bl b from qb)
   cases rb
   exact SeqAt.RcAt.list_bool b p1.isList (by omega)
 |.lst ds,.int b,n,x,y,u,v,A,oa,ob,qa,qb,ra,rb,hu=>by
   obtain ⟨l1,xs,e1,h1,r1⟩:=qa
   subst e1
   cases ra
   obtain ⟨is,w1,p1,_⟩:=I.list (hF.lst h1)
   cases (show y=.int b from qb)
   obtain ⟨t2,rfl⟩:=rb
   exact SeqAt.RcAt.list_int b t2 p1.isList (by omega)
 |.lst ds,.str b,n,x,y,u,v,A,oa,ob,qa,qb,ra,rb,hu=>by
   obtain ⟨l1,xs,e1,h1,r1⟩:=qa
   subst e1
   cases ra
   obtain ⟨is,w1,p1,_⟩:=I.list (hF.lst h1)
   cases (show y=.str b from qb)
   obtain ⟨t2,rfl⟩:=rb
   exact SeqAt.RcAt.list_str b t2 p1.isList (by omega)
 |.lst ds,.tup es,n,x,y,u,v,A,oa,ob,qa,qb,ra,rb,hu=>by
   obtain ⟨l1,xs,e1,h1,r1⟩:=qa
   subst e1
   cases ra
   obtain ⟨is,w1,p1,_⟩:=I.list (hF.lst h1)
   obtain ⟨l2,ys,e2,h2,r2⟩:=qb
   subst e2
   cases rb
   obtain ⟨js,w2,p2,_⟩:=I.tuple (hF.tup h2)
   exact SeqAt.RcAt.list_tuple p1.isList (show s.heap.IsTuple l2 js.toArray from p2) (by omega)
 |.lst ds,.lst es,n,x,y,u,v,A,oa,ob,qa,qb,ra,rb,hu=>by
   obtain ⟨l1,xs,e1,h1,r1⟩:=qa
   subst e1
   cases ra
   obtain ⟨is,w1,p1,_⟩:=I.list (hF.lst h1)
   obtain ⟨l2,ys,e2,h2,r2⟩:=qb
   subst e2
   cases rb
   obtain ⟨js,w2,p2,_⟩:=I.list (hF.lst h2)
   have z1:=w1.length
   have z2:=w2.length
   have y1:=r1.length
   have y2:=r2.length
   cases n with
   |zero=>exact absurd oa (by simp [okE])
   |succ n=>
    have oa':ki ds n=true:=by simpa only [okE] using oa
    have ob':ki es n=true:=by simpa only [okE] using ob
    by_cases hl:ds.length=es.length
    ·have q:=SeqAt.RcAt.lists (A:=A) (e:=hZ ds es) p1.isList p2.isList (by simp;omega) (by omega) (fun j h1 h2=>by
      obtain ⟨x',f1,g1⟩:=w1.atA h1
      obtain ⟨y',f2,g2⟩:=w2.atA h2
      obtain ⟨d1,k1,m1⟩:=r1.at f1
      obtain ⟨d2,k2,m2⟩:=r2.at f2
      have q:=nu I hF ds j d1 k1 d2 (n:=n) (A:=A.in1) (d8 oa' k1) (d8 ob' k2) m1 m2 g1 g2 (by show A.units+1+n<cLine;omega)
      have e5:hZ ds es j=eqD d1 d2:=by simp only [hZ,k1,k2]
      rw [e5]
      exact q
      )
     have ez:is.toArray.size=ds.length:=by simp;omega
     rw [ez,ax.all_eq (F:=F) _ hl (fun j a b h1 h2=>by simp only [hZ,h1,h2])] at q
     exact q
    ·rw [show eqD (.lst ds) (.lst es)=false from nV hl]
     exact SeqAt.RcAt.lists_lengths (A:=A) p1.isList p2.isList (by simp;omega) (by omega)
 |.ins _ _,_,_,_,_,_,_,_,oa,_,_,_,_,_,_=>by simp [okE] at oa
 |_,.ins _ _,_,_,_,_,_,_,_,ob,_,_,_,_,_=>by simp [okE] at ob
theorem rcNeAt_D {pins:List (Addr×Obj)} {σ:St} {F H:Hp} {s:Shared} (I:Inv X pins σ H s) (hF:aU F H):∀(a b:Dat) {n:Nat} {x y:V} {u v:Value} {A:Around},okE a n=true->okE b n=true->cf X.K F a x->cf X.K F b y->RelV x u->RelV y v->A.units+n<cLine->SeqAt.RcNeAt A s u v (!eqD a b)
 |.non,.non,n,x,y,u,v,A,oa,ob,qa,qb,ra,rb,hu=>by
   cases (show x=.non from qa)
   cases ra
   cases (show y=.non from qb)
   cases rb
   exact SeqAt.RcNeAt.none_none
 |.non,.bl b,n,x,y,u,v,A,oa,ob,qa,qb,ra,rb,hu=>by
   cases (show x=.non from qa)
   cases ra
   cases (show y=.bl b from qb)
   cases rb
   exact SeqAt.RcNeAt.none_bool b
 |.non,.int b,n,x,y,u,v,A,oa,ob,qa,qb,ra,rb,hu=>by
   cases (show x=.non from qa)
   cases ra
   cases (show y=.int b from qb)
   obtain ⟨t2,rfl⟩:=rb
   exact SeqAt.RcNeAt.none_int b t2
 |.non,.str b,n,x,y,u,v,A,oa,ob,qa,qb,ra,rb,hu=>by
   cases (show x=.non from qa)
   cases ra
   cases (show y=.str b from qb)
   obtain ⟨t2,rfl⟩:=rb
   exact SeqAt.RcNeAt.none_str b t2
 |.non,.tup es,n,x,y,u,v,A,oa,ob,qa,qb,ra,rb,hu=>by
   cases (show x=.non from qa)
   cases ra
   obtain ⟨l2,ys,e2,h2,r2⟩:=qb
   subst e2
   cases rb
   obtain ⟨js,w2,p2,_⟩:=I.tuple (hF.tup h2)
   exact SeqAt.RcNeAt.none_tuple (show s.heap.IsTuple l2 js.toArray from p2) (by omega)
 |.non,.lst es,n,x,y,u,v,A,oa,ob,qa,qb,ra,rb,hu=>by
   cases (show x=.non from qa)
   cases ra
   obtain ⟨l2,ys,e2,h2,r2⟩:=qb
   subst e2
   cases rb
   obtain ⟨js,w2,p2,_⟩:=I.list (hF.lst h2)
   exact SeqAt.RcNeAt.none_list p2.isList (by omega)
 |.bl a,.non,n,x,y,u,v,A,oa,ob,qa,qb,ra,rb,hu=>by
   cases (show x=.bl a from qa)
   cases ra
   cases (show y=.non from qb)
   cases rb
   exact SeqAt.RcNeAt.bool_none a
 |.bl a,.bl b,n,x,y,u,v,A,oa,ob,qa,qb,ra,rb,hu=>by
   cases (show x=.bl a from qa)
   cases ra
   cases (show y=.bl b from qb)
   cases rb
   exact SeqAt.RcNeAt.bool_bool a b
 |.bl a,.int b,n,x,y,u,v,A,oa,ob,qa,qb,ra,rb,hu=>by
   cases (show x=.bl a from qa)
   cases ra
   cases (show y=.int b from qb)
   obtain ⟨t2,rfl⟩:=rb
   exact SeqAt.RcNeAt.bool_int a b t2
 |.bl a,.str b,n,x,y,u,v,A,oa,ob,qa,qb,ra,rb,hu=>by
   cases (show x=.bl a from qa)
   cases ra
   cases (show y=.str b from qb)
   obtain ⟨t2,rfl⟩:=rb
   exact SeqAt.RcNeAt.bool_str a b t2
 |.bl a,.tup es,n,x,y,u,v,A,oa,ob,qa,qb,ra,rb,hu=>by
   cases (show x=.bl a from qa)
   cases ra
   obtain ⟨l2,ys,e2,h2,r2⟩:=qb
   subst e2
   cases rb
   obtain ⟨js,w2,p2,_⟩:=I.tuple (hF.tup h2)
   exact SeqAt.RcNeAt.bool_tuple a (show s.heap.IsTuple l2 js.toArray from p2) (by omega)
 |.bl a,.lst es,n,x,y,u,v,A,oa,ob,qa,qb,ra,rb,hu=>by
   cases (show x=.bl a from qa)
   cases ra
   obtain ⟨l2,ys,e2,h2,r2⟩:=qb
   subst e2
   cases rb
   obtain ⟨js,w2,p2,_⟩:=I.list (hF.lst h2)
   exact SeqAt.RcNeAt.bool_list a p2.isList (by omega)
 |.int a,.non,n,x,y,u,v,A,oa,ob,qa,qb,ra,rb,hu=>by
   cases (show x=.int a from qa)
   obtain ⟨t1,rfl⟩:=ra
   cases (show y=.non from qb)
   cases rb
   exact SeqAt.RcNeAt.int_none a t1
 |.int a,.bl b,n,x,y,u,v,A,oa,ob,qa,qb,ra,rb,hu=>by
   cases (show x=.int a from qa)
   obtain ⟨t1,rfl⟩:=ra
   cases (show y=.bl b from qb)
   cases rb
   exact SeqAt.RcNeAt.int_bool a t1 b
 |.int a,.int b,n,x,y,u,v,A,oa,ob,qa,qb,ra,rb,hu=>by
   cases (show x=.int a from qa)
   obtain ⟨t1,rfl⟩:=ra
   cases (show y=.int b from qb)
   obtain ⟨t2,rfl⟩:=rb
   exact SeqAt.RcNeAt.int_int a t1 b t2
 |.int a,.str b,n,x,y,u,v,A,oa,ob,qa,qb,ra,rb,hu=>by
   cases (show x=.int a from qa)
   obtain ⟨t1,rfl⟩:=ra
   cases (show y=.str b from qb)
   obtain ⟨t2,rfl⟩:=rb
   exact SeqAt.RcNeAt.int_str a t1 b t2
 |.int a,.tup es,n,x,y,u,v,A,oa,ob,qa,qb,ra,rb,hu=>by
   cases (show x=.int a from qa)
   obtain ⟨t1,rfl⟩:=ra
   obtain ⟨l2,ys,e2,h2,r2⟩:=qb
   subst e2
   cases rb
   obtain ⟨js,w2,p2,_⟩:=I.tuple (hF.tup h2)
   exact SeqAt.RcNeAt.int_tuple a t1 (show s.heap.IsTuple l2 js.toArray from p2) (by omega)
 |.int a,.lst es,n,x,y,u,v,A,oa,ob,qa,qb,ra,rb,hu=>by
   cases (show x=.int a from qa)
   obtain ⟨t1,rfl⟩:=ra
   obtain ⟨l2,ys,e2,h2,r2⟩:=qb
   subst e2
   cases rb
   obtain ⟨js,w2,p2,_⟩:=I.list (hF.lst h2)
   exact SeqAt.RcNeAt.int_list a t1 p2.isList (by omega)
 |.str a,.non,n,x,y,u,v,A,oa,ob,qa,qb,ra,rb,hu=>by
   cases (show x=.str a from qa)
   obtain ⟨t1,rfl⟩:=ra
   cases (show y=.non from qb)
   cases rb
   exact SeqAt.RcNeAt.str_none a t1
 |.str a,.bl b,n,x,y,u,v,A,oa,ob,qa,qb,ra,rb,hu=>by
   cases (show x=.str a from qa)
   obtain ⟨t1,rfl⟩:=ra
   cases (show y=.bl b from qb)
   cases rb
   exact SeqAt.RcNeAt.str_bool a t1 b
 |.str a,.int b,n,x,y,u,v,A,oa,ob,qa,qb,ra,rb,hu=>by
   cases (show x=.str a from qa)
   obtain ⟨t1,rfl⟩:=ra
   cases (show y=.int b from qb)
   obtain ⟨t2,rfl⟩:=rb
   exact SeqAt.RcNeAt.str_int a t1 b t2
 |.str a,.str b,n,x,y,u,v,A,oa,ob,qa,qb,ra,rb,hu=>by
   cases (show x=.str a from qa)
   obtain ⟨t1,rfl⟩:=ra
   cases (show y=.str b from qb)
   obtain ⟨t2,rfl⟩:=rb
   exact SeqAt.RcNeAt.str_str a t1 b t2
 |.str a,.tup es,n,x,y,u,v,A,oa,ob,qa,qb,ra,rb,hu=>by
   cases (show x=.str a from qa)
   obtain ⟨t1,rfl⟩:=ra
   obtain ⟨l2,ys,e2,h2,r2⟩:=qb
   subst e2
   cases rb
   obtain ⟨js,w2,p2,_⟩:=I.tuple (hF.tup h2)
   exact SeqAt.RcNeAt.str_tuple a t1 (show s.heap.IsTuple l2 js.toArray from p2) (by omega)
 |.str a,.lst es,n,x,y,u,v,A,oa,ob,qa,qb,ra,rb,hu=>by
   cases (show x=.str a from qa)
   obtain ⟨t1,rfl⟩:=ra
   obtain ⟨l2,ys,e2,h2,r2⟩:=qb
   subst e2
   cases rb
   obtain ⟨js,w2,p2,_⟩:=I.list (hF.lst h2)
   exact SeqAt.RcNeAt.str_list a t1 p2.isList (by omega)
 |.tup ds,.non,n,x,y,u,v,A,oa,ob,qa,qb,ra,rb,hu=>by
   obtain ⟨l1,xs,e1,h1,r1⟩:=qa
   subst e1
   cases ra
   obtain ⟨is,w1,p1,_⟩:=I.tuple (hF.tup h1)
   cases (show y=.non from qb)
   cases rb
   exact SeqAt.RcNeAt.tuple_none (show s.heap.IsTuple l1 is.toArray from p1) (by omega)
 |.tup ds,.bl b,n,x,y,u,v,A,oa,ob,qa,qb,ra,rb,hu=>by
   obtain ⟨l1,xs,e1,h1,r1⟩:=qa
   subst e1
   cases ra
   obtain ⟨is,w1,p1,_⟩:=I.tuple (hF.tup h1)
   cases (show y=.bl b from qb)
   cases rb
   exact SeqAt.RcNeAt.tuple_bool b (show s.heap.IsTuple l1 is.toArray from p1) (by omega)
 |.tup ds,.int b,n,x,y,u,v,A,oa,ob,qa,qb,ra,rb,hu=>by
   obtain ⟨l1,xs,e1,h1,r1⟩:=qa
   subst e1
   cases ra
   obtain ⟨is,w1,p1,_⟩:=I.tuple (hF.tup h1)
   cases (show y=.int b from qb)
   obtain ⟨t2,rfl⟩:=rb
   exact SeqAt.RcNeAt.tuple_int b t2 (show s.heap.IsTuple l1 is.toArray from p1) (by omega)
 |.tup ds,.str b,n,x,y,u,v,A,oa,ob,qa,qb,ra,rb,hu=>by
   obtain ⟨l1,xs,e1,h1,r1⟩:=qa
   subst e1
   cases ra
   obtain ⟨is,w1,p1,_⟩:=I.tuple (hF.tup h1)
   cases (show y=.str b from qb)
   obtain ⟨t2,rfl⟩:=rb
   exact SeqAt.RcNeAt.tuple_str b t2 (show s.heap.IsTuple l1 is.toArray from p1) (by omega)
 |.tup ds,.tup es,n,x,y,u,v,A,oa,ob,qa,qb,ra,rb,hu=>by
   obtain ⟨l1,xs,e1,h1,r1⟩:=qa
   subst e1
   cases ra
   obtain ⟨is,w1,p1,_⟩:=I.tuple (hF.tup h1)
   obtain ⟨l2,ys,e2,h2,r2⟩:=qb
   subst e2
   cases rb
   obtain ⟨js,w2,p2,_⟩:=I.tuple (hF.tup h2)
   have z1:=w1.length
   have z2:=w2.length
   have y1:=r1.length
   have y2:=r2.length
   cases n with
   |zero=>exact absurd oa (by simp [okE])
   |succ n=>
    have oa':ki ds n=true:=by simpa only [okE] using oa
    have ob':ki es n=true:=by simpa only [okE] using ob
    have q:=SeqAt.RcNeAt.tuples (A:=A) (e:=hZ ds es) (show s.heap.IsTuple l1 is.toArray from p1) (show s.heap.IsTuple l2 js.toArray from p2) (by omega) (fun j h1 h2=>by
     obtain ⟨x',f1,g1⟩:=w1.atA h1
     obtain ⟨y',f2,g2⟩:=w2.atA h2
     obtain ⟨d1,k1,m1⟩:=r1.at f1
     obtain ⟨d2,k2,m2⟩:=r2.at f2
     have q:=nu I hF ds j d1 k1 d2 (n:=n) (A:=A.in1) (d8 oa' k1) (d8 ob' k2) m1 m2 g1 g2 (by show A.units+1+n<cLine;omega)
     have e5:hZ ds es j=eqD d1 d2:=by simp only [hZ,k1,k2]
     rw [e5]
     exact q
     )
    have ez:is.toArray.size=ds.length:=by simp;omega
    have ez2:js.toArray.size=es.length:=by simp;omega
    rw [ez,ez2,t9 _ (fun j a b h1 h2=>by simp only [hZ,h1,h2])] at q
    exact q
 |.tup ds,.lst es,n,x,y,u,v,A,oa,ob,qa,qb,ra,rb,hu=>by
   obtain ⟨l1,xs,e1,h1,r1⟩:=qa
   subst e1
   cases ra
   obtain ⟨is,w1,p1,_⟩:=I.tuple (hF.tup h1)
   obtain ⟨l2,ys,e2,h2,r2⟩:=qb
   subst e2
   cases rb
   obtain ⟨js,w2,p2,_⟩:=I.list (hF.lst h2)
   exact SeqAt.RcNeAt.tuple_list (show s.heap.IsTuple l1 is.toArray from p1) p2.isList (by omega)
 |.lst ds,.non,n,x,y,u,v,A,oa,ob,qa,qb,ra,rb,hu=>by
   obtain ⟨l1,xs,e1,h1,r1⟩:=qa
   subst e1
   cases ra
   obtain ⟨is,w1,p1,_⟩:=I.list (hF.lst h1)
   cases (show y=.non from qb)
   cases rb
   exact SeqAt.RcNeAt.list_none p1.isList (by omega)
 |.lst ds,.bl b,n,x,y,u,v,A,oa,ob,qa,qb,ra,rb,hu=>by
   obtain ⟨l1,xs,e1,h1,r1⟩:=qa
   subst e1
   cases ra
   obtain ⟨is,w1,p1,_⟩:=I.list (hF.lst h1)
   cases (show y=.bl b from qb)
   cases rb
   exact SeqAt.RcNeAt.list_bool b p1.isList (by omega)
 |.lst ds,.int b,n,x,y,u,v,A,oa,ob,qa,qb,ra,rb,hu=>by
   obtain ⟨l1,xs,e1,h1,r1⟩:=qa
   subst e1
   cases ra
   obtain ⟨is,w1,p1,_⟩:=I.list (hF.lst h1)
   cases (show y=.int b from qb)
   obtain ⟨t2,rfl⟩:=rb
   exact SeqAt.RcNeAt.list_int b t2 p1.isList (by omega)
 |.lst ds,.str b,n,x,y,u,v,A,oa,ob,qa,qb,ra,rb,hu=>by
   obtain ⟨l1,xs,e1,h1,r1⟩:=qa
   subst e1
   cases ra
   obtain ⟨is,w1,p1,_⟩:=I.list (hF.lst h1)
   cases (show y=.str b from qb)
   obtain ⟨t2,rfl⟩:=rb
   exact SeqAt.RcNeAt.list_str b t2 p1.isList (by omega)
 |.lst ds,.tup es,n,x,y,u,v,A,oa,ob,qa,qb,ra,rb,hu=>by
   obtain ⟨l1,xs,e1,h1,r1⟩:=qa
   subst e1
   cases ra
   obtain ⟨is,w1,p1,_⟩:=I.list (hF.lst h1)
   obtain ⟨l2,ys,e2,h2,r2⟩:=qb
   subst e2
   cases rb
   obtain ⟨js,w2,p2,_⟩:=I.tuple (hF.tup h2)
   exact SeqAt.RcNeAt.list_tuple p1.isList (show s.heap.IsTuple l2 js.toArray from p2) (by omega)
 |.lst ds,.lst es,n,x,y,u,v,A,oa,ob,qa,qb,ra,rb,hu=>by
   obtain ⟨l1,xs,e1,h1,r1⟩:=qa
   subst e1
   cases ra
   obtain ⟨is,w1,p1,_⟩:=I.list (hF.lst h1)
   obtain ⟨l2,ys,e2,h2,r2⟩:=qb
   subst e2
   cases rb
   obtain ⟨js,w2,p2,_⟩:=I.list (hF.lst h2)
   have z1:=w1.length
   have z2:=w2.length
   have y1:=r1.length
   have y2:=r2.length
   cases n with
   |zero=>exact absurd oa (by simp [okE])
   |succ n=>
    have oa':ki ds n=true:=by simpa only [okE] using oa
    have ob':ki es n=true:=by simpa only [okE] using ob
    by_cases hl:ds.length=es.length
    ·have q:=SeqAt.RcNeAt.lists (A:=A) (e:=hZ ds es) p1.isList p2.isList (by simp;omega) (by omega) (fun j h1 h2=>by
      obtain ⟨x',f1,g1⟩:=w1.atA h1
      obtain ⟨y',f2,g2⟩:=w2.atA h2
      obtain ⟨d1,k1,m1⟩:=r1.at f1
      obtain ⟨d2,k2,m2⟩:=r2.at f2
      have q:=nu I hF ds j d1 k1 d2 (n:=n) (A:=A.in1) (d8 oa' k1) (d8 ob' k2) m1 m2 g1 g2 (by show A.units+1+n<cLine;omega)
      have e5:hZ ds es j=eqD d1 d2:=by simp only [hZ,k1,k2]
      rw [e5]
      exact q
      )
     have ez:is.toArray.size=ds.length:=by simp;omega
     rw [ez,ax.all_eq (F:=F) _ hl (fun j a b h1 h2=>by simp only [hZ,h1,h2])] at q
     exact q
    ·rw [show eqD (.lst ds) (.lst es)=false from nV hl]
     exact SeqAt.RcNeAt.lists_lengths (A:=A) p1.isList p2.isList (by simp;omega) (by omega)
 |.ins _ _,_,_,_,_,_,_,_,oa,_,_,_,_,_,_=>by simp [okE] at oa
 |_,.ins _ _,_,_,_,_,_,_,_,ob,_,_,_,_,_=>by simp [okE] at ob
end
section
variable {X:Cx} {K:PySem.W.Frag} {W:fm} {own ro:Bool}
theorem aL.blS {F H:Hp} {Q:VK} {pins:List (Addr×Obj)} {σ:St} {s:Shared} {b:Bool} (p:aL K W own F H (.ok (.bl b)) Q) (s1:aU F H) (I:Inv X pins σ H s):EP X pins σ Q (.bool b) s:=⟨.bl b,H,I,rfl,p.bl s1⟩
theorem yy (hu:X.A.units+64<cLine) (hK:X.K=K:=by rfl):Op2 K W own X (compareOp .Eq) eqM:=by
 subst hK
 intro pins s σ H x y v u Q I rx ry h
 obtain ⟨F,a,b,s1,qa,qb,p⟩:=h
 unfold eqM at p
 by_cases hc:(okE a 40&&okE b 40)=true
 ·rw [if_pos hc] at p
  simp only [Bool.and_eq_true] at hc
  exact rcAt_D I s1 a b hc.1 hc.2 qa qb rx ry (by omega) _ _ _ _ (p.blS s1 I)
 ·rw [if_neg hc] at p;exact p.stuck
theorem o_ne (hu:X.A.units+64<cLine) (hK:X.K=K:=by rfl):Op2 K W own X (compareOp .NotEq) neM:=by
 subst hK
 intro pins s σ H x y v u Q I rx ry h
 obtain ⟨F,a,b,s1,qa,qb,p⟩:=h
 unfold neM at p
 by_cases hc:(okE a 40&&okE b 40)=true
 ·rw [if_pos hc] at p
  simp only [Bool.and_eq_true] at hc
  exact rcNeAt_D I s1 a b hc.1 hc.2 qa qb rx ry (by omega) _ _ _ _ (p.blS s1 I)
 ·rw [if_neg hc] at p;exact p.stuck
end
end L2
namespace L2
open PySem PySem.Spec PyProof.Rows
section
variable {X:Cx} {pins:List (Addr×Obj)} {σ:St} {H:Hp} {s:Shared} {h':Heap}
theorem Inv.vE {t':Nat} {ch:List Addr} {T:Addr} {xs:List V} (I:Inv X pins σ H s) (hf:∀b∈ch,wN X pins H b) (k:∀b o,b∉ch->s.heap.get? b=some o->h'.get? b=some o) (hT:s.heap.objs.size<=T)
  (new:xs.length<=sizeLine/\∃its:List Value,Vals xs its/\IsTup h' T its.toArray):Inv X pins σ (upd H T (.tup xs)) {s with heap:=h',toks:=t'}:=by
 have hTn:H T=none:=I.hok.fresh hT
 have nit:∀b u,H b=some u->b∉ch:=fun b u e z=>by rw [(hf b z).1] at e;cases e
 have old:∀{b:Addr} {o:Obj},s.heap.get? b=some o->b≠T:=fun {b o} e=>Nat.ne_of_lt (Nat.lt_of_lt_of_le (Heap.lt_size e) hT)
 refine I.step (g':=s.gens) (d':=s.drawn) (ch:=ch) (fun b hb=>?_) (fun b o _ _ hc e _=>k b o hc e) (fun b o _ _ hc e _=>⟨o.slots,k b o hc e⟩) (fun b o _ e n=>by rw [ar (old e)];exact n)
  (fun b o hc e=>⟨o,k b o hc e⟩) (fun b ys e=>by rw [ar (aM e hTn)];exact e) (fun b o u e=>by rw [ar (aM e hTn)];exact e) (fun b ps e=>⟨#[],by rw [ar (aM e hTn),e];simp⟩) (fun m hm=>?_) (fun b u e=>?_) I.bare
 ·obtain ⟨f0,f1,f2,f3,f4,f5⟩:=hf b hb
  exact ⟨f3,f1,f4,f5⟩
 ·obtain ⟨o,es,ep,ho,r⟩:=hm
  exact ⟨o,es,ep,k _ o (fun z=>(hf _ z).2.1 rfl) ho,r⟩
 ·by_cases hb:b=T
  ·subst hb
   rw [ao] at e
   cases e
   exact new
  ·rw [ar hb] at e
   refine (I.hok b u e).vH (fun c v hc q=>k c v ?_ q) (fun c q=>?_) fun c ys q=>?_
   ·rcases hc with z|z
    ·rw [z];exact nit b u e
    ·exact nit c _ z
   ·rw [ar (aM q hTn)];exact q
   ·rw [ar (aM q hTn)];exact q
theorem Inv.vF {t':Nat} {ch:List Addr} (I:Inv X pins σ H s) (hf:∀b∈ch,wN X pins H b) (k:∀b o,b∉ch->s.heap.get? b=some o->h'.get? b=some o):Inv X pins σ H {s with heap:=h',toks:=t'}:=by
 have nit:∀b u,H b=some u->b∉ch:=fun b u e z=>by rw [(hf b z).1] at e;cases e
 refine I.step (g':=s.gens) (d':=s.drawn) (ch:=ch) (fun b hb=>?_) (fun b o _ _ hc e _=>k b o hc e) (fun b o _ _ hc e _=>⟨o.slots,k b o hc e⟩) (fun b o _ e n=>n)
  (fun b o hc e=>⟨o,k b o hc e⟩) (fun b ys e=>e) (fun b o u e=>e) (fun b ps e=>⟨#[],by rw [e];simp⟩) (fun m hm=>?_) (fun b u e=>?_) I.bare
 ·obtain ⟨f0,f1,f2,f3,f4,f5⟩:=hf b hb
  exact ⟨f3,f1,f4,f5⟩
 ·obtain ⟨o,es,ep,ho,r⟩:=hm
  exact ⟨o,es,ep,k _ o (fun z=>(hf _ z).2.1 rfl) ho,r⟩
 ·refine (I.hok b u e).vH (fun c v hc q=>k c v ?_ q) (fun _ q=>q) fun _ _ q=>q
  rcases hc with z|z
  ·rw [z];exact nit b u e
  ·exact nit c _ z
end
noncomputable def Ite (K:PySem.W.Frag) (a:Addr):It:=
 ⟨fun i H=>∃xs x,SqL K H a xs/\xs[i]? =some x,fun i H x H'=>∃T y,H T=none/\x=.ref T/\H'=upd H T (.tup [.int i,y])/\∀xs,SqL K H a xs->xs[i]? =some y,fun i H=>∃xs,SqL K H a xs/\xs.length<=i⟩
theorem yK {P:Program} {w:World} {K:PySem.W.Frag} {elts:List Expr} {k:Nat} {pos:Pos} (a e it:Addr) (hei:e≠it):Turn P w K (.Tuple elts k pos) (Ite K a) [e,it] e (fun i h=>(∃old,IsEnum h e it i old)/\h.IsListIter it a i) where
 mem:=by simp
 obj:=fun i h st b hb=>by
  obtain ⟨⟨old,he⟩,o,e1,c,d⟩:=st
  rcases List.mem_cons.mp hb with rfl|hb
  ·exact ⟨_,he,fun v z=>by cases z⟩
  ·have:b=it:=by simpa using hb
   subst this
   exact ⟨o,e1,fun v z=>by rw [d] at z;cases z⟩
 keep:=fun i h h' st kk=>by
  obtain ⟨⟨old,he⟩,hit⟩:=st
  exact ⟨⟨old,kk e (by simp) _ he⟩,hit.at fun o x=>kk it (by simp) o x⟩
 item:=by
  intro X hP hw hK hc i pins s σ H E I hf st hg
  subst hP hw hK
  obtain ⟨⟨old,he⟩,hit⟩:=st
  obtain ⟨xs,x,hq,hx⟩:=hg
  obtain ⟨its,rv,p,hz⟩:=I.list hq
  obtain ⟨u,hu,ru⟩:=rv.get hx
  refine wpAny_pyNext_enum_item he hit p.isList (x:=u) (by simpa using hu) hei fun h1 ho hit1 hT hsz hk=>?_
  refine ⟨_,rfl,wpAny_letOwnedTupleGo_enum ho fun h2 he2 hs2=>?_⟩
  have hlt:e<s.heap.objs.size:=Heap.lt_size he
  have hTe:s.heap.objs.size≠e:=Nat.ne_of_gt hlt
  have I1:Inv X pins σ (upd H s.heap.objs.size (.tup [.int i,x])) {s with heap:=h2,toks:=s.toks+1}:=I.vE (ch:=[e,it]) hf (fun b o hb q=>by
    have h3:=hk b o (fun z=>hb (by simp [z])) (fun z=>hb (by simp [z])) q
    exact (hs2.2 b (fun z=>hb (by simp [z]))).trans h3) (Nat.le_refl _) ⟨by show 2<=sizeLine;decide,[.int i s.toks,u],.cons ⟨_,rfl⟩ (.cons ru .nil),⟨_,(hs2.2 _ hTe).trans hT,rfl,0,rfl⟩⟩
  refine ⟨.ref s.heap.objs.size,_,I1,rfl,⟨s.heap.objs.size,x,I.hok.fresh (Nat.le_refl _),rfl,rfl,fun ys hy=>by rw [I.pB hy hq];exact hx⟩,⟨⟨u,by simpa using he2⟩,hit1.at fun o y=>(hs2.2 it hei.symm).trans y⟩,fun b hb=>?_⟩
  have hbn:=(hf b hb).1
  have:b≠s.heap.objs.size:=by
   rcases List.mem_cons.mp hb with rfl|hb
   ·exact hTe.symm
   ·have:b=it:=by simpa using hb
    subst this
    obtain ⟨o,e1,_⟩:=hit
    exact Nat.ne_of_lt (Heap.lt_size e1)
  rw [ar this]
  exact hbn
 done:=by
  intro X hP hw hK hc i pins s σ H E I hf st hg
  subst hP hw hK
  obtain ⟨⟨old,he⟩,hit⟩:=st
  obtain ⟨xs,hq,hx⟩:=hg
  obtain ⟨its,rv,p,hz⟩:=I.list hq
  have hl:=rv.length
  exact wpAny_pyNext_enum_end (I.ok.hd hc) he hit p.isList (Array.getElem?_eq_none (by simp;omega)) fun h2 eb=>⟨rfl,I.vF (t':=s.toks) (ch:=[e,it]) hf fun b o hb q=>eb b o (fun z=>hb (by simp [z])) q⟩
 self:=fun _ _ _ _ _ st h=>by
  obtain ⟨⟨old,he⟩,_⟩:=st
  exact wpAny_pyIter_enum he h
theorem mj:∀(ds:List Dat) (k i:Nat),(jO k ds)[i]? =(ds[i]?).map fun d=>.tup [.int ((k+i:Nat):Int),d]
 |[],k,i=>by simp [jO]
 |d::ds,k,0=>by simp [jO]
 |d::ds,k,i+1=>by
  rw [jO,List.getElem?_cons_succ,mj ds (k+1) i,List.getElem?_cons_succ]
  rw [show k+1+i=k+(i+1) by omega]
theorem gK:∀(ds:List Dat) (k:Nat),(jO k ds).length=ds.length
 |[],_=>rfl
 |d::ds,k=>by rw [jO,List.length_cons,gK ds,List.length_cons]
theorem zY {K:PySem.W.Frag} {F:Hp} {a:Addr} {xs:List V} {ds:List Dat} (t:SqL K F a xs) (z:ax K F ds xs):qZ K F (Ite K a) (jO 0 ds) where
 go:=fun i F' H' s1 s2 hi=>⟨xs,xs[i]'(by rw [z.length];rw [gK] at hi;exact hi),s2.lst (s1.lst t),by rw [gK] at hi;simp [z.length,hi]⟩
 yl:=fun i F' H' x H2 d s1 s2 hd hy=>by
  obtain ⟨T,y,hT,ex,eH,hy⟩:=hy
  subst ex eH
  rw [mj] at hd
  cases hds:ds[i]? with
  |none=>rw [hds] at hd;cases hd
  |some d'=>
   rw [hds] at hd
   simp at hd
   subst hd
   obtain ⟨v,e1,q⟩:=z.get hds
   have e2:=hy xs (s2.lst (s1.lst t))
   rw [e1] at e2
   cases e2
   refine ⟨upd F' T (.tup [.int i,y]),Step.lay s2 hT,T,_,rfl,SqT.of ao,?_⟩
   exact ⟨.int i,[y],rfl,rfl,y,[],rfl,(q.mono s1).mono (aU.upd (s2.free hT)),rfl⟩
 st:=fun F' H' s1 s2=>⟨xs,s2.lst (s1.lst t),by rw [z.length,gK];exact Nat.le_refl _⟩
section
variable {X:Cx} {K:PySem.W.Frag} {W:fm} {own ro:Bool} {e a b c:Expr} {es:List Expr} {x:Str} {pos p:Pos} {f fa fb fc:ak->M Dat} {fr:ak->M (List Dat)} {ft:ak->M Bool}
noncomputable def iEnum (K:PySem.W.Frag) (tl:TE):TI:=fun σ H R=>tl σ H fun x H1=>∃a,x=.ref a/\(∃xs,SqL K H1 a xs)/\R (Ite K a) H1
theorem pi_enum {elts:List Expr} {k:Nat} {q:Pos} {tl:TE} (hg:Gl X "enumerate") (hm:X.mg "enumerate"=none) (hl:PE X a tl) (hs:starEach [a] X.env=[(false,eval a X.env)]:=by rfl) :
  PI X (.Tuple elts k q) (.Call (.Name "enumerate" p) [a] [] pos) (iEnum X.K tl):=by
 intro pins s σ H R I h
 have ha:PA X [a] (oz tl tNil):=aX hl eF hs
 refine Call_ (mK I hg hm boot_enumerate (PyProof.Rows.callWith_type1 (thn (ha pos pins s σ H (fun vs H1=>match vs with
  |[x]=>∃a,x=.ref a/\(∃xs,SqL X.K H1 a xs)/\R (Ite X.K a) H1
  |_=>False) I h) fun us s1 ⟨vs,H1,I1,r1,q1⟩=>?_) hs rfl))
 match vs,r1,q1 with
 |[x],r1,⟨l,e1,⟨xs,hq⟩,q⟩=>
  subst e1
  obtain ⟨u,rfl,ru⟩:=r1.one
  cases ru
  obtain ⟨its,rv,pl,hz⟩:=I1.list hq
  refine call_enumerate_list pl.isList fun h2 he hit hsz hk=>?_
  have I2:Inv X pins σ H1 {s1 with heap:=h2}:=I1.kept (t':=s1.toks) hk
  refine wpAny_pyIter_enum he ?_
  refine ⟨s1.heap.objs.size+1,[s1.heap.objs.size+1,s1.heap.objs.size],_,_,H1,rfl,I2,yK l _ _ (Nat.succ_ne_self _),⟨⟨_,he⟩,hit⟩,fun b hb=>?_,q⟩
  have hb2:s1.heap.objs.size<=b:=by
   rcases List.mem_cons.mp hb with rfl|hb
   ·exact Nat.le_succ _
   ·have:b=s1.heap.objs.size:=by simpa using hb
    exact Nat.le_of_eq this.symm
  exact I1.fpOk hb2 (I1.hok.fresh hb2)
theorem ri_enum {σ:St} {H:Hp} {R:It->Hp->Prop} (h:iD K W (uO fa) σ H R):iEnum K (tD K W false fa) σ H R:=by
 obtain ⟨F,ρ,r,s,p⟩:=h
 refine bA r s (fun e he=>?_) fun d hd v F1 H1 s1 q1=>?_
 ·have z:uO fa ρ=.error e:=by unfold uO;rw [he];rfl
  rw [z] at p;exact p
 ·have z:uO fa ρ=(lq d).bind fun ds=>.ok (jO 0 ds):=by unfold uO;rw [hd];rfl
  rw [z] at p
  cases d with
  |lst ds=>
   obtain ⟨b,xs,e,t,z⟩:=q1
   exact ⟨b,e,⟨xs,s1.fh.lst t⟩,p _ F1 H1 s1 (zY t z)⟩
  |_=>exact (W.ns p).elim
theorem di_enum {elts:List Expr} {k:Nat} {q:Pos} (hm:X.mg "enumerate"=none) (hl:DE K W false X a fa) (hg:Gl X "enumerate":=by rfl) (hs:starEach [a] X.env=[(false,eval a X.env)]:=by rfl) (hK:X.K=K:=by rfl) :
  DI K W X (.Tuple elts k q) (.Call (.Name "enumerate" p) [a] [] pos) (uO fa):=by
 subst hK
 exact (pi_enum hg hm hl hs).imp fun _ _ _=>ri_enum
theorem ml:PTs X [] (tDT K W qP):=fun pins s σ H Q I h=>pts_nil pins s σ H Q I (by
 obtain ⟨F,ρ,r,s1,q⟩:=h
 exact q F H (Step.refl s1))
theorem jv:PGs X [] (j3 []):=pgs_nil
theorem bc {i:Nat} {is:List Nat} (hN:X.N.Nodup) (h2:PGs X es (j3 is)) (hi:X.N[i]? =some x:=by rfl) (hx:Loc X.env.scope x:=by first|exact Or.inl rfl|exact Or.inr rfl) (hf:X.fn x=true\/X.env.scope.names.lookup x=some .local:=by first|exact .inl rfl|exact .inr rfl|assumption)
  (hs:(assignEach (.Name x p::es) X.env).map (·.2)=assign (.Name x p) X.env::(assignEach es X.env).map (·.2):=by rfl):PGs X (.Name x p::es) (j3 (i::is)):=xg (vQ hN hi hx hf) h2 hs
theorem qS {k:Nat} {is:List Nat} (hc:X.calm=true) (h:PGs X es (j3 is)) (hn:(assignEach es X.env).length=is.length:=by rfl) (hst:(assignEach es X.env).findIdx? (·.1)=none:=by rfl) (hK:X.K=K:=by rfl):DG K X (.Tuple es k pos) (.tp is):=by
 subst hK
 exact pg_tup hc h hn hst
theorem oW {ix:List (Option Nat)}:∀{is:List Nat},(∀i∈is,ix[i]? =some none)->∀vs σ' H' (Q:St->Hp->Prop),j3 is vs σ' H' Q->j3 is vs σ' H' fun σ2 H2=>Q σ2 H2/\∀(i:Nat) v,σ'[i]? =some (some v)->(∃j,ix[i]? =some (some j))->σ2[i]? =some (some v)
 |[],_,vs,σ',H',Q,⟨e,q⟩=>⟨e,q,fun _ _ h _=>h⟩
 |i::is,hs,vs,σ',H',Q,⟨v,r,e,q⟩=>by
  refine ⟨v,r,e,?_⟩
  have:=oW (ix:=ix) (is:=is) (fun j hj=>hs j (by simp [hj])) r (σ'.set i (some v)) H' Q q
  have mono:∀{is:List Nat} {vs:List V} {σ1:St} {H1:Hp} {Q Q':St->Hp->Prop},(∀σ2 H2,Q σ2 H2->Q' σ2 H2)->j3 is vs σ1 H1 Q->j3 is vs σ1 H1 Q':=by
   intro is
   induction is with
   |nil=>rintro vs σ1 H1 Q Q' m ⟨e,q⟩;exact ⟨e,m _ _ q⟩
   |cons i is ih=>rintro vs σ1 H1 Q Q' m ⟨v,r,e,q⟩;exact ⟨v,r,e,ih m q⟩
  refine mono (fun σ2 H2 ⟨q1,q2⟩=>⟨q1,fun j w h ⟨l,hl⟩=>q2 j w ?_ ⟨l,hl⟩⟩) this
  have:i≠j:=by rintro rfl;rw [hs i (by simp)] at hl;cases hl
  rw [List.getElem?_set_ne this]
  exact h
theorem zU {ix:List (Option Nat)} {is:List Nat} (h:∀i∈is,ix[i]? =some none):qr ix (gP K (.tp is)):=fun x σ' H' Q ⟨a,xs,e,t,l,q⟩=>⟨a,xs,e,t,l,oW h xs σ' H' Q q⟩
theorem p8 {N':List Str} {sc:Scope} {L:Addr} {cs:List (Str×Addr)} {s:Shared} {H:Hp} {fp:List Addr} {i:Nat} (hN:N'.Nodup) (hi:N'[i]? =some x:=by rfl) (hx:Loc (bo X N' sc L cs s H fp).env.scope x:=by first|exact Or.inl rfl|exact Or.inr rfl)
  (hf:(bo X N' sc L cs s H fp).fn x=true\/(bo X N' sc L cs s H fp).env.scope.names.lookup x=some .local:=by first|exact .inl rfl|exact .inr rfl|assumption):DG K (bo X N' sc L cs s H fp) (.Name x pos) (.nm i):=pg_c hN hi hx hf
variable {sc:Scope} {tg elt iter:Expr} {ifs:List Expr} {fi:ak->M (List Dat)} {pt:Pat} {fe:ak->M Dat} {spos py:Pos}
theorem nz (N':List Str) (ix:List (Option Nat)) (hi:DI K W X tg iter fi) (hg:∀L cs s H fp,DG K (bo X N' sc L cs s H fp) tg pt) (hl:qr ix (gP K pt))
  (ht:∀L cs s H fp,PTs (bo X N' sc L cs s H fp) ifs (tDT K W ft)) (he:∀L cs s H fp,DE K W false (bo X N' sc L cs s H fp) elt fe) (hc:X.calm=true:=by rfl)
  (ok:bE X.N X.env.scope N' sc ix=true:=by rfl) (hk:sc.kind=.function:=by rfl) (hs:∀x,foldedSetIterable iter X.env x=pure x:=by intro _;rfl) :
  DE K W true X (.ListComp elt [⟨tg,iter,ifs,0⟩] sc pos) (mi fi ix pt ft fe):=(pe_comp N' ix hc hi hg hl ht he ok hk hs).imp fun _ _ _=>vO
theorem tD_fr {σ:St} {H:Hp} {Q:VK} (h:tD K W own f σ H Q):tD K W true f σ H Q:=by
 cases own with
 |true=>exact h
 |false=>obtain ⟨F,ρ,r,s,p⟩:=h;exact ⟨F,ρ,r,s,p.frz⟩
theorem ds_compB {OL O:List Nat} {i:Nat} (own:Bool) (N':List Str) (ix:List (Option Nat)) (hN:X.N.Nodup) (hi:DI K W X tg iter fi) (hg:∀L cs s H fp,DG K (bo X N' sc L cs s H fp) tg pt) (hl:qr ix (gP K pt))
  (ht:∀L cs s H fp,PTs (bo X N' sc L cs s H fp) ifs (tDT K W ft)) (he:∀L cs s H fp,DE K W false (bo X N' sc L cs s H fp) elt fe) (hj:X.N[i]? =some x:=by rfl) (hy:X.env.scope.names.lookup x=some .local:=by rfl) (hc:X.calm=true:=by rfl)
  (hsw:swapsWith (.ListComp elt [⟨tg,iter,ifs,0⟩] sc pos) (some (.Name x py)) spos.line X.env=pure true:=by rfl)
  (ok:bE X.N X.env.scope N' sc ix=true:=by rfl) (hk:sc.kind=.function:=by rfl) (hs:∀x,foldedSetIterable iter X.env x=pure x:=by intro _;rfl) :
  DS K W ro X OL O (aft own i O) (.Assign [.Name x py] (.ListComp elt [⟨tg,iter,ifs,0⟩] sc pos) spos) (aI O i (mi fi ix pt ft fe)):=fun F0 H0=>
 (rq N' ix hN hj hy hc hi hg hl ht he hsw ok hk hs).imp fun D σ H t=>vO (tD_fr (vM t))
theorem ds_compA {OL O:List Nat} {i:Nat} (own:Bool) (N':List Str) (ix:List (Option Nat)) (hN:X.N.Nodup) (hi:DI K W X tg iter fi) (hg:∀L cs s H fp,DG K (bo X N' sc L cs s H fp) tg pt) (hl:qr ix (gP K pt))
  (ht:∀L cs s H fp,PTs (bo X N' sc L cs s H fp) ifs (tDT K W ft)) (he:∀L cs s H fp,DE K W false (bo X N' sc L cs s H fp) elt fe) (hj:X.N[i]? =some x:=by rfl) (hy:X.env.scope.names.lookup x=some .local:=by rfl) (hc:X.calm=true:=by rfl)
  (hsw:swapsWith (.ListComp elt [⟨tg,iter,ifs,0⟩] sc pos) (some (.Name x py)) spos.line X.env=pure true:=by rfl)
  (ok:bE X.N X.env.scope N' sc ix=true:=by rfl) (hk:sc.kind=.function:=by rfl) (hs:∀x,foldedSetIterable iter X.env x=pure x:=by intro _;rfl) :
  DS K W ro X OL O (aft own i O) (.Assign [.Name x py] (.ListComp elt [⟨tg,iter,ifs,0⟩] sc pos) spos) (oA own i (mi fi ix pt ft fe)):=fun F0 H0=>
 (rq N' ix hN hj hy hc hi hg hl ht he hsw ok hk hs).imp fun D σ H t=>vO (tD_fr (za t))
theorem we {OL O:List Nat} {i:Nat} {q r:Pos} {fk:ak->M Dat} (he:DE K W false X e f) (hk:DE K W false X b fk) (ho:i∈O:=by decide) (hN:X.N[i]? =some x:=by rfl) (hv:Vis X.env.scope x:=by first|exact Or.inl rfl|exact Or.inr (Or.inl rfl)|exact Or.inr (Or.inr rfl)) (hd:(x==("__debug__":Str))=false:=by decide) (hcd:(x==("__classdict__":Str))=false:=by decide)
  (ha:∀v,assign (.Subscript (.Name x p) b q) X.env v=(do
   let ov <- holding [v] (eval (.Name x p) X.env)
   let iv <- holding [v,ov] (eval b X.env)
   standAt q
   holding [v,ov,iv] (setItem ov iv v)
   release [v,ov,iv] []):=by intro _;rfl) (hs:swapsWithSole [.Subscript (.Name x p) b q] e r.line X.env=pure false:=by rfl) (hw:swappedStores [.Subscript (.Name x p) b q] e X.env=pure none:=by rfl)
  (h1:(assignEach [.Subscript (.Name x p) b q] X.env).map (·.2)=[assign (.Subscript (.Name x p) b q) X.env]:=by rfl) :
  DS K W ro X OL O O (.Assign [.Subscript (.Name x p) b q] e r) (sv i fk f):=fun F0 H0=>(zp he (pg_sub (pv i hN hv hd hcd) hk set_list ha) hs hw h1).imp fun _ _ _=>rs_setI ho
theorem Aj {OL O:List Nat} {pt:Pat} {tg:Expr} (he:DE K W false X e f) (hg:DG K X tg pt) (n:∀i∈pt.names,i∉O:=by decide) (hs:swapsWithSole [tg] e pos.line X.env=pure false:=by rfl) (hw:swappedStores [tg] e X.env=pure none:=by rfl)
  (h1:(assignEach [tg] X.env).map (·.2)=[assign tg X.env]:=by rfl):DS K W ro X OL O O (.Assign [tg] e pos) (uf O pt f):=fun F0 H0=>(zp he hg hs hw h1).imp fun _ _ _=>rs_unpB n
noncomputable def spF (K:PySem.W.Frag) (ro:Bool) (g:List Dat->M Dat) (n:Nat):Sp:=fun vs H Q _=>∃F ds,aU F H/\ax K F ds vs/\ds.length=n/\aL K Wno ro F H (g ds) Q
theorem pz {nN n:Nat} {g:ak->M Flo} {ds:List Dat} (h:ds.length≠n):cw nN n g ds=stk:=by unfold cw;rw [if_neg h]
theorem aC {k nN n:Nat} {fad:Addr} {fd:FuncData} {ps:List Str} {g:ak->M Flo} (F:cD X.prog X.w X.K X.mg X.base CX0 k fad fd ps (spF K ro (cw nN n g) n)) (hr:l5 k X.A) (hm:X.mg x=some (.ref fad)) (hk:keepIn X.K (.ref fad)=true) (hb:Binds X.K fd ps [])
  (ha:DA K Wno X (e::es) fr) (hg:Gl X x:=by rfl) (hdb:(x==("__debug__":Str))=false:=by decide) (hst:starEach (e::es) X.env=(false,eval e X.env)::starEach es X.env:=by rfl) (hpl:(backTo pos (starEach es X.env)).any (·.1)=false:=by rfl) :
  DE K Wno ro X (.Call (.Name x p) (e::es) [] pos) (fL (cw nN n g) fr):=by
 refine PE.imp (sD F hr hg hm hk hb .nil vR ha hdb hst hpl) fun σ H Q h=>?_
 obtain ⟨F,ρ,r,s,p⟩:=rd_L h
 refine ⟨F,ρ,r,s,?_⟩
 cases e1:fr ρ with
 |error z=>rw [e1] at p;exact p
 |ok ds=>
  rw [e1] at p
  intro vs F' H' st q
  obtain ⟨F1,es1,s1,q1,z⟩:=p vs F' H' st q
  show spF K ro (cw nN n g) n (vs++[]) H' Q E0
  rw [List.append_nil]
  by_cases hl:es1.length=n
  ·exact ⟨F1,es1,s1,q1,hl,z⟩
  ·rw [pz hl] at z
   exact aL.stuck z
end
section
variable {P:Program} {w:World} {K:PySem.W.Frag} {mg:Str->Option Value} {base:Heap}
theorem u7 {N:List Str} {vs:List V} {ds:List Dat} {i:Nat} {d:Dat} {F:Hp} (q:ax K F ds vs) (h:(ds.map some++List.replicate (N.length-ds.length) none)[i]? =some (some d)):∃v,(start N vs)[i]? =some (some v)/\cf K F d v:=by
 have hi:i<ds.length:=by
  by_cases hi:i<ds.length
  ·exact hi
  ·rw [List.getElem?_append_right (by simpa using hi),List.getElem?_replicate] at h
   split at h<;>cases h
 rw [List.getElem?_append_left (by simpa using hi),List.getElem?_map] at h
 cases e:ds[i]? with
 |none=>rw [e] at h;cases h
 |some d'=>
  rw [e] at h
  cases h
  obtain ⟨v,e1,q1⟩:=q.get e
  refine ⟨v,?_,q1⟩
  unfold start
  rw [List.getElem?_append_left (by rw [List.length_map,q.length];exact hi),List.getElem?_map,e1]
  rfl
theorem nS {x qual:Str} {st:Stmt} {f:Addr} {fd:FuncData} {N ps:List Str} {k:Nat} {O':List Nat} (F:Fun K x qual st f fd) (S:aF N ps (aq st)) (ro:Bool) (g:ak->M Flo)
  (hb:∀(cdv:Value) (A:Around) (outer:List Env) (s:Shared) (H:Hp) (E:XK),l5 k (A.deeper (envOfC qual (aq st) s.heap.objs.size f cdv)) ->
   DSs K Wno ro (yz CX0 P w K mg base N qual (aq st) f cdv A outer s H E).nox [] [] O' (cv st) g):cD P w K mg base CX0 (k+1) f fd ps (spF K ro (cw N.length ps.length g) ps.length):=by
 have hpl:ps.length<=N.length:=by have:=congrArg List.length S.pre;rw [List.length_take] at this;omega
 refine F.okX S (fun vs H Q E ⟨F,ds,s,q,l,p⟩=>by rw [q.length,l]) fun cdv A outer s H vs Q E hr ⟨F1,ds,s1,q,l,p⟩=>⟨_,hb cdv A outer s H E hr F1 H,F1,F1,ds.map some++List.replicate (N.length-ds.length) none,?_,?_⟩
 ·refine ⟨Step.refl s1,aU.refl _,?_,fun i d e _=>u7 q e,(fun i d e h=>nomatch h),(fun i j ds es a h=>nomatch h)⟩
  unfold start
  rw [List.length_append,List.length_append,List.length_map,List.length_map,List.length_replicate,List.length_replicate,q.length]
 ·have e1:cw N.length ps.length g ds=(g (ds.map some++List.replicate (N.length-ds.length) none)).bind fun fl=>match fl with
   |.nx _=>.ok .non
   |.rt d=>.ok d
   |_=>stk:=by
    unfold cw
    exact if_pos l
  rw [e1] at p
  cases e2:g (ds.map some++List.replicate (N.length-ds.length) none) with
  |error z=>rw [e2] at p;exact p
  |ok fl=>
   rw [e2] at p
   cases fl with
   |nx ρ=>exact fun σ F H r=>p .non F H r.st (by cases ro<;>rfl)
   |rt d=>exact fun v F H st q=>p v F H st q
   |bk ρ=>exact aL.stuck p
   |ct ρ=>exact aL.stuck p
noncomputable def xS (K:PySem.W.Frag):Sp:=fun vs H Q _=>∃(a:Addr) (ns:List Int),vs=[.ref a]/\SqL K H a (ns.map V.int)/\ns.length<=63/\∀H',Q (.bl true) H'
theorem rM {F:Hp}:∀is:List Int,ax K F (is.map Dat.int) (is.map V.int)
 |[]=>rfl
 |i::is=>⟨.int i,is.map V.int,rfl,rfl,rM is⟩
theorem law_ok {k:Nat} {f:Addr} {fd:FuncData} {x:Str} {ro:Bool} {mlaw:Nat->List Dat->M Dat} (F:∀n,cD P w K mg base CX0 k f fd [x] (spF K ro (mlaw n) 1)) (h:∀ns:List Int,ns.length<=63->∃n,mlaw n [.lst (ns.map .int)]=.ok (.bl true)):cD P w K mg base CX0 k f fd [x] (xS K):=by
 refine ⟨fun vs H Q E ⟨a,ns,e,_⟩=>by rw [e];rfl,fun A outer s H args us vs Q E hr he hb hv ⟨a,ns,e,hq,hl,q⟩=>?_⟩
 obtain ⟨n,hn⟩:=h ns hl
 refine (F n).run A outer s H args us vs Q E hr he hb hv ⟨H,[.lst (ns.map .int)],aU.refl _,⟨.ref a,[],e,⟨a,_,rfl,hq,rM ns⟩,rfl⟩,rfl,?_⟩
 rw [hn]
 intro v F' H' st z
 have:v=.bl true:=by cases ro<;>exact z
 rw [this]
 exact q H'
end
end L2
namespace L2
open PySem PySem.Spec PyProof.Rows
structure Kit (K:PySem.W.Frag):Prop where
 lK:kitOne K (.type "int") (.type "int")=some true
 jI:kitOne K (.type "bool") (.type "int")=some true
 jE:kitOne K (.type "list") (.type "int")=some false
 ie:kitOne K (.type "tuple") (.type "int")=some false
 lI:kitOne K (.type "str") (.type "int")=some false
 du:kitOne K (.type "NoneType") (.type "int")=some false
 jG:kitOne K (.type "int") (.type "bool")=some false
 iq:kitOne K (.type "bool") (.type "bool")=some true
 ik:kitOne K (.type "list") (.type "bool")=some false
 gd:kitOne K (.type "tuple") (.type "bool")=some false
 jC:kitOne K (.type "str") (.type "bool")=some false
 cN:kitOne K (.type "NoneType") (.type "bool")=some false
 jF:kitOne K (.type "int") (.type "list")=some false
 ip:kitOne K (.type "bool") (.type "list")=some false
 ij:kitOne K (.type "list") (.type "list")=some true
 gc:kitOne K (.type "tuple") (.type "list")=some false
 jB:kitOne K (.type "str") (.type "list")=some false
 cM:kitOne K (.type "NoneType") (.type "list")=some false
 il:kitOne K (.type "int") (.type "tuple")=some false
 gk:kitOne K (.type "bool") (.type "tuple")=some false
 gh:kitOne K (.type "list") (.type "tuple")=some false
 eE:kitOne K (.type "tuple") (.type "tuple")=some true
 ig:kitOne K (.type "str") (.type "tuple")=some false
 cx:kitOne K (.type "NoneType") (.type "tuple")=some false
 lJ:kitOne K (.type "int") (.type "str")=some false
 jH:kitOne K (.type "bool") (.type "str")=some false
 jD:kitOne K (.type "list") (.type "str")=some false
 ic:kitOne K (.type "tuple") (.type "str")=some false
 lH:kitOne K (.type "str") (.type "str")=some true
 dq:kitOne K (.type "NoneType") (.type "str")=some false
section
variable {X:Cx} {K:PySem.W.Frag} {W:fm} {own ro:Bool} {e a b c:Expr} {es:List Expr} {x:Str} {pos p p2:Pos} {f fa fb fc:ak->M Dat} {fr:ak->M (List Dat)} {ft:ak->M Bool}
theorem A1 {pins:List (Addr×Obj)} {σ:St} {F H:Hp} {s:Shared} {T:String} {d:Dat} {x:V} {u:Value} {bi bb bl bt bs bn:Bool} {Q:Value->Shared->Prop} (I:Inv X pins σ H s) (hF:aU F H) (q:cf X.K F d x) (r:RelV x u)
  (hi:kitOne X.K (.type "int") (.type T)=some bi) (hb:kitOne X.K (.type "bool") (.type T)=some bb) (hl:kitOne X.K (.type "list") (.type T)=some bl) (ht:kitOne X.K (.type "tuple") (.type T)=some bt)
  (hs:kitOne X.K (.type "str") (.type T)=some bs) (hn:kitOne X.K (.type "NoneType") (.type T)=some bn)
  (h:∀k tk,(match d with|.int _=>k=bi|.bl _=>k=bb|.lst _=>k=bl|.tup _=>k=bt|.str _=>k=bs|.non=>k=bn|.ins _ _=>False)->Q (.bool k) {s with toks:=tk}) (no:∀C fs,d≠.ins C fs) :
  wpAny (model X.prog X.w) X.A (call (.builtin "isinstance") [u,.type T]) Q X.xe s:=by
 cases d with
 |non=>cases (show x=.non from q);cases r;exact kia_one PySem.W.kitx_none I.kIn True.intro hn (fun z=>nomatch z) fun tk=>h _ tk rfl
 |bl y=>cases (show x=.bl y from q);cases r;exact kia_one PySem.W.kitx_bool I.kIn True.intro hb (fun z=>nomatch z) fun tk=>h _ tk rfl
 |int i=>cases (show x=.int i from q);obtain ⟨t,rfl⟩:=r;exact kia_one PySem.W.kitx_int I.kIn True.intro hi (fun z=>nomatch z) fun tk=>h _ tk rfl
 |str y=>cases (show x=.str y from q);obtain ⟨t,rfl⟩:=r;exact kia_one PySem.W.kitx_str I.kIn True.intro hs (fun z=>nomatch z) fun tk=>h _ tk rfl
 |lst ds=>
  obtain ⟨l,xs,e,t,_⟩:=q
  subst e
  cases r
  obtain ⟨its,_,pl,_⟩:=I.list (hF.lst t)
  obtain ⟨o,h1,h2,_⟩:=pl.isList
  exact kia_one PySem.W.kitx_list I.kIn ⟨o,h1,h2⟩ hl (fun z=>nomatch z) fun tk=>h _ tk rfl
 |tup ds=>
  obtain ⟨l,xs,e,t,_⟩:=q
  subst e
  cases r
  obtain ⟨its,_,pl,_⟩:=I.tuple (hF.tup t)
  obtain ⟨o,h1,h2,_⟩:=pl
  exact kia_one PySem.W.kitx_tuple I.kIn ⟨o,h1,h2⟩ ht (fun z=>nomatch z) fun tk=>h _ tk rfl
 |ins C fs=>exact absurd rfl (no C fs)
theorem uW {T:String} {y:Str} {g:Dat->M Dat} (hc:dS X (.builtin "isinstance") (fun xs H Q=>∃v,xs=[v,.ty T]/\rD1 K W own g v H Q)) (hm:X.mg "isinstance"=none) (hmT:X.mg y=none) (hvT:bootBuiltins y=some (.type T)) (ha:DE K W false X a fa)
  (hg:Gl X "isinstance":=by rfl) (hgT:Gl X y:=by rfl) (hn:y≠"__name__":=by decide) (hd:(y==("__debug__":Str))=false:=by decide)
  (hst:starEach [a,.Name y p2] X.env=[(false,eval a X.env),(false,eval (.Name y p2) X.env)]:=by rfl) (hst2:starEach [.Name y p2] X.env=[(false,eval (.Name y p2) X.env)]:=by rfl) (hpl:(backTo pos (starEach [.Name y p2] X.env)).any (·.1)=false:=by rfl) :
  DE K W own X (.Call (.Name "isinstance" p) [a,.Name y p2] [] pos) (f1 g fa):=
 (fO hc hg hm boot_isinstance (aX ha (aX (zx (pos:=p2) hgT hmT hvT hn hd) eF hst2) (by rw [hst,hst2])) (by decide) (by decide) (by rw [hst,hst2]) hpl).imp fun σ H Q h=>by
  obtain ⟨F,ρ,r,s,q⟩:=rd_1 h
  refine ⟨F,ρ,r,s,?_⟩
  cases e1:fa ρ with
  |error z=>rw [e1] at q;exact q
  |ok d=>rw [e1] at q;exact fun v F' H' st z=>⟨v,rfl,q v F' H' st z⟩
theorem AJ (kit:Kit K) (hK:X.K=K:=by rfl):dS X (.builtin "isinstance") (fun xs H Q=>∃v,xs=[v,.ty "int"]/\rD1 K W own nO v H Q):=by
 subst hK
 intro pins s σ H xs us Q I r h
 obtain ⟨v,rfl,F,d,s1,q,p⟩:=h
 obtain ⟨u,w,rfl,ru,rw'⟩:=r.two
 cases (show w=Value.type "int" from rw')
 by_cases hi:∃C fs,d=.ins C fs
 ·obtain ⟨C,fs,rfl⟩:=hi
  exact aL.stuck p
 ·refine A1 I s1 q ru kit.lK kit.jI kit.jE kit.ie kit.lI kit.du (fun k tk hk=>⟨.bl k,H,I.tok tk,rfl,?_⟩) (fun C fs e=>hi ⟨C,fs,e⟩)
  cases d<;>first|(have hk':k=_:=hk;subst hk';exact aL.bl (own:=own) p s1)|exact absurd ⟨_,_,rfl⟩ hi
theorem rN (kit:Kit K) (hm:X.mg "isinstance"=none) (hmT:X.mg "int"=none) (ha:DE K W false X a fa) (hK:X.K=K:=by rfl)
  (hg:Gl X "isinstance":=by rfl) (hgT:Gl X "int":=by rfl)
  (hst:starEach [a,.Name "int" p2] X.env=[(false,eval a X.env),(false,eval (.Name "int" p2) X.env)]:=by rfl) (hst2:starEach [.Name "int" p2] X.env=[(false,eval (.Name "int" p2) X.env)]:=by rfl) (hpl:(backTo pos (starEach [.Name "int" p2] X.env)).any (·.1)=false:=by rfl) :
  DE K W own X (.Call (.Name "isinstance" p) [a,.Name "int" p2] [] pos) (f1 nO fa):=uW (AJ kit hK) hm hmT (by decide +kernel) ha hg hgT (by decide) (by decide) hst hst2 hpl
theorem yq (kit:Kit K) (hK:X.K=K:=by rfl):dS X (.builtin "isinstance") (fun xs H Q=>∃v,xs=[v,.ty "bool"]/\rD1 K W own lT v H Q):=by
 subst hK
 intro pins s σ H xs us Q I r h
 obtain ⟨v,rfl,F,d,s1,q,p⟩:=h
 obtain ⟨u,w,rfl,ru,rw'⟩:=r.two
 cases (show w=Value.type "bool" from rw')
 by_cases hi:∃C fs,d=.ins C fs
 ·obtain ⟨C,fs,rfl⟩:=hi
  exact aL.stuck p
 ·refine A1 I s1 q ru kit.jG kit.iq kit.ik kit.gd kit.jC kit.cN (fun k tk hk=>⟨.bl k,H,I.tok tk,rfl,?_⟩) (fun C fs e=>hi ⟨C,fs,e⟩)
  cases d<;>first|(have hk':k=_:=hk;subst hk';exact aL.bl (own:=own) p s1)|exact absurd ⟨_,_,rfl⟩ hi
theorem qe (kit:Kit K) (hm:X.mg "isinstance"=none) (hmT:X.mg "bool"=none) (ha:DE K W false X a fa) (hK:X.K=K:=by rfl)
  (hg:Gl X "isinstance":=by rfl) (hgT:Gl X "bool":=by rfl)
  (hst:starEach [a,.Name "bool" p2] X.env=[(false,eval a X.env),(false,eval (.Name "bool" p2) X.env)]:=by rfl) (hst2:starEach [.Name "bool" p2] X.env=[(false,eval (.Name "bool" p2) X.env)]:=by rfl) (hpl:(backTo pos (starEach [.Name "bool" p2] X.env)).any (·.1)=false:=by rfl) :
  DE K W own X (.Call (.Name "isinstance" p) [a,.Name "bool" p2] [] pos) (f1 lT fa):=uW (yq kit hK) hm hmT (by decide +kernel) ha hg hgT (by decide) (by decide) hst hst2 hpl
theorem yp (kit:Kit K) (hK:X.K=K:=by rfl):dS X (.builtin "isinstance") (fun xs H Q=>∃v,xs=[v,.ty "list"]/\rD1 K W own gp v H Q):=by
 subst hK
 intro pins s σ H xs us Q I r h
 obtain ⟨v,rfl,F,d,s1,q,p⟩:=h
 obtain ⟨u,w,rfl,ru,rw'⟩:=r.two
 cases (show w=Value.type "list" from rw')
 by_cases hi:∃C fs,d=.ins C fs
 ·obtain ⟨C,fs,rfl⟩:=hi
  exact aL.stuck p
 ·refine A1 I s1 q ru kit.jF kit.ip kit.ij kit.gc kit.jB kit.cM (fun k tk hk=>⟨.bl k,H,I.tok tk,rfl,?_⟩) (fun C fs e=>hi ⟨C,fs,e⟩)
  cases d<;>first|(have hk':k=_:=hk;subst hk';exact aL.bl (own:=own) p s1)|exact absurd ⟨_,_,rfl⟩ hi
theorem nv (kit:Kit K) (hm:X.mg "isinstance"=none) (hmT:X.mg "list"=none) (ha:DE K W false X a fa) (hK:X.K=K:=by rfl)
  (hg:Gl X "isinstance":=by rfl) (hgT:Gl X "list":=by rfl)
  (hst:starEach [a,.Name "list" p2] X.env=[(false,eval a X.env),(false,eval (.Name "list" p2) X.env)]:=by rfl) (hst2:starEach [.Name "list" p2] X.env=[(false,eval (.Name "list" p2) X.env)]:=by rfl) (hpl:(backTo pos (starEach [.Name "list" p2] X.env)).any (·.1)=false:=by rfl) :
  DE K W own X (.Call (.Name "isinstance" p) [a,.Name "list" p2] [] pos) (f1 gp fa):=uW (yp kit hK) hm hmT (by decide +kernel) ha hg hgT (by decide) (by decide) hst hst2 hpl
theorem wm (kit:Kit K) (hK:X.K=K:=by rfl):dS X (.builtin "isinstance") (fun xs H Q=>∃v,xs=[v,.ty "tuple"]/\rD1 K W own dZ v H Q):=by
 subst hK
 intro pins s σ H xs us Q I r h
 obtain ⟨v,rfl,F,d,s1,q,p⟩:=h
 obtain ⟨u,w,rfl,ru,rw'⟩:=r.two
 cases (show w=Value.type "tuple" from rw')
 by_cases hi:∃C fs,d=.ins C fs
 ·obtain ⟨C,fs,rfl⟩:=hi
  exact aL.stuck p
 ·refine A1 I s1 q ru kit.il kit.gk kit.gh kit.eE kit.ig kit.cx (fun k tk hk=>⟨.bl k,H,I.tok tk,rfl,?_⟩) (fun C fs e=>hi ⟨C,fs,e⟩)
  cases d<;>first|(have hk':k=_:=hk;subst hk';exact aL.bl (own:=own) p s1)|exact absurd ⟨_,_,rfl⟩ hi
theorem p9 (kit:Kit K) (hm:X.mg "isinstance"=none) (hmT:X.mg "tuple"=none) (ha:DE K W false X a fa) (hK:X.K=K:=by rfl)
  (hg:Gl X "isinstance":=by rfl) (hgT:Gl X "tuple":=by rfl)
  (hst:starEach [a,.Name "tuple" p2] X.env=[(false,eval a X.env),(false,eval (.Name "tuple" p2) X.env)]:=by rfl) (hst2:starEach [.Name "tuple" p2] X.env=[(false,eval (.Name "tuple" p2) X.env)]:=by rfl) (hpl:(backTo pos (starEach [.Name "tuple" p2] X.env)).any (·.1)=false:=by rfl) :
  DE K W own X (.Call (.Name "isinstance" p) [a,.Name "tuple" p2] [] pos) (f1 dZ fa):=uW (wm kit hK) hm hmT (by decide +kernel) ha hg hgT (by decide) (by decide) hst hst2 hpl
theorem Vals.of_get:∀{xs:List V} {us:List Value},xs.length=us.length->(∀(i:Nat) v u,xs[i]? =some v->us[i]? =some u->RelV v u)->Vals xs us
 |[],[],_,_=>.nil
 |[],_::_,h,_=>by simp at h
 |_::_,[],h,_=>by simp at h
 |x::xs,u::us,h,q=>.cons (q 0 x u rfl rfl) (Vals.of_get (by simpa using h) fun i v w h1 h2=>q (i+1) v w (by simpa using h1) (by simpa using h2))
end
section
variable {K:PySem.W.Frag} {W:fm} {ro:Bool} {F0 H0 FB F H:Hp} {OL O O' O2:List Nat} {D:Ends} {σ:St} {ρ:ak} {g h:ak->M Flo} {f fk:ak->M Dat}
theorem popD_ok {ds:List Dat} {k:Dat} {d:Dat} {es:List Dat} (h:zr ds k=.ok (d,es)):∃i j,k=.int i/\ds.length<=sizeLine/\ixN ds.length i=some j/\ds[j]? =some d/\es=ds.eraseIdx j:=by
 unfold zr at h
 cases k with
 |int i=>
  simp only [asI,au] at h
  split at h
  ·cases h
  ·rename_i hs
   cases hj:ixN ds.length i with
   |none=>rw [hj] at h;cases h
   |some j=>
    rw [hj] at h
    simp only at h
    cases hd:ds[j]? with
    |none=>rw [hd] at h;cases h
    |some d'=>
     rw [hd] at h
     cases h
     exact ⟨i,j,rfl,by omega,hj,hd,rfl⟩
 |_=>cases h
theorem popD_err {ds:List Dat} {k:Dat} {e:Err} (h:zr ds k=.error e):e=.stuck:=by
 unfold zr at h
 cases k with
 |int i=>
  simp only [asI,au] at h
  split at h
  ·cases h;rfl
  ·cases hj:ixN ds.length i with
   |none=>rw [hj] at h;cases h;rfl
   |some j=>
    rw [hj] at h
    simp only at h
    cases hd:ds[j]? with
    |none=>rw [hd] at h;cases h;rfl
    |some d'=>rw [hd] at h;cases h
 |_=>cases h;rfl
noncomputable def tPopE (K:PySem.W.Frag) (i:Nat) (tk:TE):TE:=tBM K "list" rPopAt (tVar i) (oz tk tNil)
theorem pop_run {i:Nat} {R:VK} (r:Rep K F0 H0 FB O F H σ ρ) (hi:i∈O) {ds:List Dat} (hl:km ρ i=.ok ds) (hE:∀e,fk ρ=.error e->W.p e F0 H0)
  (hO:∀k,fk ρ=.ok k->(∀e,zr ds k=.error e->False)/\∀d es,zr ds k=.ok (d,es)->∀v F1 H1,Rep K F0 H0 FB O F1 H1 σ (ρ.set i (some (.lst es)))->cf K F1 d v->R v H1):tPopE K i (tD K W false fk) σ H R:=by
 obtain ⟨a,xs,e2,ha,z⟩:=r.zQ hi (mB hl)
 refine ⟨.ref a,e2,wX ha,?_⟩
 refine bA r.nJ r.jl (fun e he=>W.mono (hE e he) (r.freeze (O2:=[]) (by simp)).st) fun k hk w F1 H1 s1 q=>?_
 obtain ⟨h1,h2⟩:=hO k hk
 cases hp:zr ds k with
 |error e=>exact (h1 e hp).elim
 |ok de=>
  obtain ⟨d,es⟩:=de
  obtain ⟨m,j,rfl,hz,hj,hd,rfl⟩:=popD_ok hp
  obtain ⟨x1,x2,x3,x4⟩:=vZ hj
  obtain ⟨y,e3,qy⟩:=z.get hd
  have hs:=sizeLine_eq
  refine ⟨a,xs,m,j,y,rfl,by rw [show w=.int m from q],s1.hh _ _ ha,by omega,by omega,by rw [z.length];exact x1,e3,?_⟩
  exact h2 d _ hp y _ _ ((r.mU s1).write hi (mB hl) e2 (ax.eraseIdx j (z.mono (r.my s1)))) (qy.mono (r.my s1))
theorem rs_popU {i:Nat} {pt:Pat} (hi:i∈O) (n:∀i∈pt.names,i∉O) (t:tS K W ro F0 H0 OL O O (yY i pt fk) D σ H):tAsg (tPopE K i (tD K W false fk)) (gP K pt) D σ H:=by
 obtain ⟨FB,F,ρ,r,p⟩:=t
 unfold yY at p
 cases hl:km ρ i with
 |error e=>have:=pP hl;subst this;exact p.stuck (by rw [hl];rfl)
 |ok ds=>
  rw [hl,au] at p
  refine pop_run r hi hl (fun e he=>p.err (by rw [he];rfl)) fun k hk=>?_
  rw [hk,au] at p
  refine ⟨fun e he=>by have:=popD_err he;subst this;exact p.stuck (by rw [he];rfl),fun d es2 hp v F1 H1 r1 q=>?_⟩
  rw [hp,au] at p
  cases e:eY pt d (ρ.set i (some (.lst es2))) with
  |error x=>have:=o7 e;subst this;exact p.stuck (by simp only [e];rfl)
  |ok ρ'=>
   simp only [e,au] at p
   exact Ab r1 n q e fun σ' r'=>p σ' F1 H1 r'
end
section
variable {X:Cx} {K:PySem.W.Frag} {W:fm} {own ro:Bool} {e a b c:Expr} {x y:Str} {pos p p2 p3 q r t u:Pos} {f fk:ak->M Dat} {OL O:List Nat}
theorem pe_pop {j:Nat} {tk:TE} (hk:PE X e tk) (hN:X.N[j]? =some y) (hv:Vis X.env.scope y) (hd:(y==("__debug__":Str))=false) (hcd:(y==("__classdict__":Str))=false)
  (hst:starEach [e] X.env=[(false,eval e X.env)]) (hbase:attributeBase (.Name y p) "pop" X.env (eval (.Name y p) X.env)=eval (.Name y p) X.env) (hfew:((backTo q (starEach [e] X.env)).all (fun x=> !x.1)&&(backToKw q (keywordEach [] X.env)).all (fun x=>x.1.isSome)&&decide ([e].length+([]:List Keyword).length+(if ([]:List Keyword).isEmpty then 0 else 1)<30))=true) (hplain:(backTo q (starEach [] X.env)).any (·.1)=false) (hline:(t.endLine==q.line)=true) :
  PE X (.Call (.Attribute (.Name y p) "pop" t) [e] [] q) (tPopE X.K j tk):=pe_bm PySem.F.plainAttrs_list PySem.F.slot_list_pop PySem.F.type_list_pop mt_popAt (pv j hN hv hd hcd) (aX hk eF hst) hbase hfew hline hst hplain
theorem ds_popU {i:Nat} {pt:Pat} {tg:Expr} (hg:DG K X tg pt) (hk:DE K W false X e fk) (ho:i∈O:=by decide) (n:∀i∈pt.names,i∉O:=by decide) (hN:X.N[i]? =some y:=by rfl) (hv:Vis X.env.scope y:=by first|exact Or.inl rfl|exact Or.inr (Or.inl rfl)|exact Or.inr (Or.inr rfl)) (hd:(y==("__debug__":Str))=false:=by decide) (hcd:(y==("__classdict__":Str))=false:=by decide) (hK:X.K=K:=by rfl)
  (hst:starEach [e] X.env=[(false,eval e X.env)]:=by rfl) (hbase:attributeBase (.Name y p) "pop" X.env (eval (.Name y p) X.env)=eval (.Name y p) X.env:=by rfl) (hfew:((backTo q (starEach [e] X.env)).all (fun x=> !x.1)&&(backToKw q (keywordEach [] X.env)).all (fun x=>x.1.isSome)&&decide ([e].length+([]:List Keyword).length+(if ([]:List Keyword).isEmpty then 0 else 1)<30))=true:=by rfl) (hplain:(backTo q (starEach [] X.env)).any (·.1)=false:=by rfl) (hline:(t.endLine==q.line)=true:=by rfl) (hs:swapsWithSole [tg] (.Call (.Attribute (.Name y p) "pop" t) [e] [] q) pos.line X.env=pure false:=by rfl) (hw:swappedStores [tg] (.Call (.Attribute (.Name y p) "pop" t) [e] [] q) X.env=pure none:=by rfl)
  (h1:(assignEach [tg] X.env).map (·.2)=[assign tg X.env]:=by rfl):DS K W ro X OL O O (.Assign [tg] (.Call (.Attribute (.Name y p) "pop" t) [e] [] q) pos) (yY i pt fk):=fun F0 H0=>by
 subst hK
 exact (zp (pe_pop hk hN hv hd hcd hst hbase hfew hplain hline) hg hs hw h1).imp fun _ _ _=>rs_popU ho n
end
end L2
namespace L2
open PySem PySem.Spec PyProof.Rows
section
variable {X:Cx} {es:List Expr} {x:Str} {p:Pos}
theorem uU {N':List Str} {sc:Scope} {L:Addr} {cs:List (Str×Addr)} {s:Shared} {H:Hp} {fp:List Addr} {i:Nat} {is:List Nat} (hN:N'.Nodup) (h2:PGs (bo X N' sc L cs s H fp) es (j3 is)) (hi:N'[i]? =some x:=by rfl) (hx:Loc (bo X N' sc L cs s H fp).env.scope x:=by first|exact Or.inl rfl|exact Or.inr rfl)
  (hf:(bo X N' sc L cs s H fp).fn x=true\/(bo X N' sc L cs s H fp).env.scope.names.lookup x=some .local:=by first|exact .inl rfl|exact .inr rfl|assumption)
  (hs:(assignEach (.Name x p::es) (bo X N' sc L cs s H fp).env).map (·.2)=assign (.Name x p) (bo X N' sc L cs s H fp).env::(assignEach es (bo X N' sc L cs s H fp).env).map (·.2):=by rfl):PGs (bo X N' sc L cs s H fp) (.Name x p::es) (j3 (i::is)):=xg (pg_c hN hi hx hf) h2 hs
end
end L2
namespace L2
open PySem PySem.Spec PyProof.Rows
open PySem.W in
noncomputable def eA {α:Type} (lt:Nat->Nat->Bool):KasT α->α
 |.ret a=>a
 |.ask i j k=>eA lt (k (lt i j))
section
open PySem.W
variable {α β:Type} {lt:Nat->Nat->Bool}
theorem jy (f:α->KasT β):∀t:KasT α,eA lt (t.bind f)=eA lt (f (eA lt t))
 |.ret _=>rfl
 |.ask i j k=>jy f (k (lt i j))
variable {key:Nat->Int} {p:Array Nat}
noncomputable def kAt (key:Nat->Int) (p:Array Nat) (i:Nat):Int:=key (p.getD i 0)
noncomputable def Up (key:Nat->Int) (p:Array Nat) (k:Nat):Prop:=∀i j,i<=j->j<k->kAt key p i<=kAt key p j
noncomputable def Down (key:Nat->Int) (p:Array Nat) (k:Nat):Prop:=∀i j,i<=j->j<k->kAt key p j<=kAt key p i
theorem lR {p q:Array Nat} {i j:Nat} (h:p[i]? =q[j]?):kAt key p i=kAt key q j:=by
 unfold kAt
 rw [Array.getD_eq_getD_getElem?,Array.getD_eq_getD_getElem?,h]
theorem pU {i j:Nat} (hj:j<=p.size) (k:Nat):kAt key (kas_rev p i j) k=if i<=k/\k<j then kAt key p (i+j-1-k) else kAt key p k:=by
 have e:=getElem?_mirror_all (i:=i) hj k
 unfold kas_rev
 split
 ·rename_i h;rw [if_pos h] at e;exact lR e
 ·rename_i h;rw [if_neg h] at e;exact lR e
theorem kAt_bub {src d:Nat} (hs:src<p.size) (hd:d<=src) (k:Nat):kAt key (bubble p src d) k=if k=src-d then kAt key p src else if src-d<k/\k<=src then kAt key p (k-1) else kAt key p k:=by
 have e:=getElem?_bubble hs d hd k
 split
 ·rename_i h;rw [if_pos h] at e;exact lR e
 ·rename_i h
  rw [if_neg h] at e
  split
  ·rename_i h2;rw [if_pos h2] at e;exact lR e
  ·rename_i h2;rw [if_neg h2] at e;exact lR e
theorem kg {i j:Nat}:(kas_rev p i j).size=p.size:=mirror_size _ _ _ _
theorem hX {i j:Nat}:(kas_rev p i j).Perm p:=mirror_perm _ _ _ _
noncomputable def ltK (key:Nat->Int) (i j:Nat):Bool:=decide (key i<key j)
theorem AV (p:Array Nat):∀(f n:Nat),1<=n->Up key p n->n<=eA (ltK key) (kas_asc p f n)/\eA (ltK key) (kas_asc p f n)<=n+f/\Up key p (eA (ltK key) (kas_asc p f n)) /\
  (eA (ltK key) (kas_asc p f n)<n+f->kAt key p (eA (ltK key) (kas_asc p f n))<kAt key p (eA (ltK key) (kas_asc p f n)-1))
 |0,n,h1,h=>⟨Nat.le_refl _,Nat.le_refl _,h,fun z=>absurd z (Nat.lt_irrefl _)⟩
 |f+1,n,h1,h=>by
  have e:eA (ltK key) (kas_asc p (f+1) n)=if kAt key p n<kAt key p (n-1) then n else eA (ltK key) (kas_asc p f (n+1)):=by
   show eA (ltK key) (if ltK key (p.getD n 0) (p.getD (n-1) 0)=true then KasT.ret n else kas_asc p f (n+1))=_
   by_cases hc:kAt key p n<kAt key p (n-1)
   ·rw [if_pos (show ltK key (p.getD n 0) (p.getD (n-1) 0)=true from decide_eq_true hc),if_pos hc];rfl
   ·rw [if_neg (show ¬ltK key (p.getD n 0) (p.getD (n-1) 0)=true from fun z=>hc (of_decide_eq_true z)),if_neg hc]
  rw [e]
  by_cases hc:kAt key p n<kAt key p (n-1)
  ·rw [if_pos hc]
   exact ⟨Nat.le_refl _,by omega,h,fun _=>hc⟩
  ·rw [if_neg hc]
   obtain ⟨a1,a2,a3,a4⟩:=AV p f (n+1) (by omega) (fun i j hij hj=>by
    by_cases hjn:j<n
    ·exact h i j hij hjn
    ·have:j=n:=by omega
     subst this
     by_cases hin:i=j
     ·rw [hin];exact Int.le_refl _
     ·have:=h i (j-1) (by omega) (by omega)
      omega)
   exact ⟨by omega,by omega,a3,fun z=>a4 (by omega)⟩
noncomputable def Alike (key:Nat->Int) (p:Array Nat) (n q:Nat):Prop:=∀i,n-(q+1)<=i->i<n->kAt key p i=kAt key p (n-1)
theorem AW {n:Nat}:Alike key p (n+1) 0:=fun i h1 h2=>by rw [show i=n+1-1 by omega]
theorem ug {n q:Nat} (hn:n<=p.size) (ha:Alike key p n q) (hq:q+1<=n) (k:Nat):kAt key (kas_rev p (n-(q+1)) n) k=kAt key p k:=by
 rw [pU hn]
 split
 ·rename_i h
  rw [ha _ (by omega) (by omega),ha k h.1 h.2]
 ·rfl
theorem tu:∀(f:Nat) (p:Array Nat) (n q:Nat),1<=n->q+1<=n->n+f<=p.size->Down key p n->Alike key p n q->∀p' n' q',eA (ltK key) (kas_desc f p n q)=(p',n',q') ->
  p'.Perm p/\p'.size=p.size/\n<=n'/\n'<=n+f/\q'+1<=n'/\Down key p' n'/\Alike key p' n' q'
 |0,p,n,q,h1,hq,hz,hd,ha,p',n',q',e=>by
  cases e
  exact ⟨Array.Perm.refl _,rfl,Nat.le_refl _,Nat.le_refl _,hq,hd,ha⟩
 |f+1,p,n,q,h1,hq,hz,hd,ha,p',n',q',e=>by
  have e0:eA (ltK key) (kas_desc (f+1) p n q)=if kAt key p n<kAt key p (n-1) then (if q>0 then eA (ltK key) (kas_desc f (kas_rev p (n-(q+1)) n) (n+1) 0) else eA (ltK key) (kas_desc f p (n+1) 0))
    else if kAt key p (n-1)<kAt key p n then (p,n,q) else eA (ltK key) (kas_desc f p (n+1) (q+1)):=by
   show eA (ltK key) (if ltK key (p.getD n 0) (p.getD (n-1) 0)=true then (if q>0 then kas_desc f (kas_rev p (n-(q+1)) n) (n+1) 0 else kas_desc f p (n+1) 0)
    else KasT.ask (p.getD (n-1) 0) (p.getD n 0) fun d=>if d=true then .ret (p,n,q) else kas_desc f p (n+1) (q+1))=_
   by_cases hc:kAt key p n<kAt key p (n-1)
   ·rw [if_pos (show ltK key (p.getD n 0) (p.getD (n-1) 0)=true from decide_eq_true hc),if_pos hc]
    by_cases hq0:q>0
    ·rw [if_pos hq0,if_pos hq0]
    ·rw [if_neg hq0,if_neg hq0]
   ·rw [if_neg (show ¬ltK key (p.getD n 0) (p.getD (n-1) 0)=true from fun z=>hc (of_decide_eq_true z)),if_neg hc]
    show eA (ltK key) (if ltK key (p.getD (n-1) 0) (p.getD n 0)=true then KasT.ret (p,n,q) else kas_desc f p (n+1) (q+1))=_
    by_cases hc2:kAt key p (n-1)<kAt key p n
    ·rw [if_pos (show ltK key (p.getD (n-1) 0) (p.getD n 0)=true from decide_eq_true hc2),if_pos hc2];rfl
    ·rw [if_neg (show ¬ltK key (p.getD (n-1) 0) (p.getD n 0)=true from fun z=>hc2 (of_decide_eq_true z)),if_neg hc2]
  rw [e0] at e
  have down1:∀{r:Array Nat},(∀k,kAt key r k=kAt key p k)->kAt key p n<=kAt key p (n-1)->Down key r (n+1):=fun {r} hr hle i j hij hj=>by
   rw [hr,hr]
   by_cases hjn:j<n
   ·exact hd i j hij hjn
   ·have:j=n:=by omega
    subst this
    by_cases hin:i=j
    ·rw [hin];exact Int.le_refl _
    ·have:=hd i (j-1) (by omega) (by omega)
     omega
  by_cases hc:kAt key p n<kAt key p (n-1)
  ·rw [if_pos hc] at e
   by_cases hq0:q>0
   ·rw [if_pos hq0] at e
    have hr:=ug (key:=key) (p:=p) (n:=n) (q:=q) (by omega) ha hq
    obtain ⟨b1,b2,b3,b4,b5,b6,b7⟩:=tu f _ (n+1) 0 (by omega) (by omega) (by rw [kg];omega) (down1 hr (by omega)) AW p' n' q' e
    exact ⟨b1.trans hX,by rw [b2,kg],by omega,by omega,b5,b6,b7⟩
   ·rw [if_neg hq0] at e
    obtain ⟨b1,b2,b3,b4,b5,b6,b7⟩:=tu f _ (n+1) 0 (by omega) (by omega) (by omega) (down1 (fun _=>rfl) (by omega)) AW p' n' q' e
    exact ⟨b1,b2,by omega,by omega,b5,b6,b7⟩
  ·rw [if_neg hc] at e
   by_cases hc2:kAt key p (n-1)<kAt key p n
   ·rw [if_pos hc2] at e
    cases e
    exact ⟨Array.Perm.refl _,rfl,Nat.le_refl _,by omega,hq,hd,ha⟩
   ·rw [if_neg hc2] at e
    obtain ⟨b1,b2,b3,b4,b5,b6,b7⟩:=tu f _ (n+1) (q+1) (by omega) (by omega) (by omega) (down1 (fun _=>rfl) (by omega)) (fun i h1 h2=>by
     show kAt key p i=kAt key p (n+1-1)
     rw [Nat.add_sub_cancel]
     by_cases hin:i=n
     ·rw [hin]
     ·have:=ha i (by omega) (by omega)
      omega) p' n' q' e
    exact ⟨b1,b2,by omega,by omega,b5,b6,b7⟩
theorem x6 {n nrem:Nat} (h1:1<=n) (hn:n<=nrem) (hz:nrem<=p.size) (hd:Down key p n):∀m p',eA (ltK key) (kas_tail3 n nrem p)=(m,p')->p'.Perm p/\p'.size=p.size/\1<=m/\m<=nrem/\Up key p' m:=by
 intro m p' e
 unfold kas_tail3 at e
 rw [jy] at e
 cases e
 have hu:Up key (kas_rev p 0 n) n:=fun i j hij hj=>by
  rw [pU (by omega),pU (by omega),if_pos ⟨Nat.zero_le _,by omega⟩,if_pos ⟨Nat.zero_le _,by omega⟩]
  exact hd _ _ (by omega) (by omega)
 obtain ⟨a1,a2,a3,_⟩:=AV (key:=key) (kas_rev p 0 n) (nrem-n) n h1 hu
 exact ⟨hX,kg,by omega,by omega,a3⟩
theorem qc {n nrem:Nat} (h1:1<=n) (hn:n+1<=nrem) (hz:nrem<=p.size) (hall:∀i,i<n->kAt key p i=kAt key p (n-1)) (hlt:kAt key p n<kAt key p (n-1)):∀m p',eA (ltK key) (kas_descPart n nrem p)=(m,p')->p'.Perm p/\p'.size=p.size/\1<=m/\m<=nrem/\Up key p' m:=by
 intro m p' e
 unfold kas_descPart at e
 rw [jy] at e
 obtain ⟨r,n2,q2⟩:∃r n2 q2,eA (ltK key) (kas_desc (nrem-(n+1)) p (n+1) 0)=(r,n2,q2):=⟨_,_,_,rfl⟩
 obtain ⟨q2,er⟩:=q2
 rw [er] at e
 obtain ⟨b1,b2,b3,b4,b5,b6,b7⟩:=tu (key:=key) (nrem-(n+1)) p (n+1) 0 (by omega) (by omega) (by omega) (fun i j hij hj=>by
  by_cases hjn:j<n
  ·rw [hall i (by omega),hall j hjn];exact Int.le_refl _
  ·have:j=n:=by omega
   subst this
   by_cases hin:i=j
   ·rw [hin];exact Int.le_refl _
   ·rw [hall i (by omega)];omega) AW r n2 q2 er
 by_cases hq:q2>0
 ·simp only [if_pos hq] at e
  have hr:=ug (key:=key) (p:=r) (n:=n2) (q:=q2) (by omega) b7 b5
  obtain ⟨c1,c2,c3,c4,c5⟩:=x6 (key:=key) (p:=kas_rev r (n2-(q2+1)) n2) (n:=n2) (nrem:=nrem) (by omega) (by omega) (by rw [kg];omega) (fun i j hij hj=>by rw [hr,hr];exact b6 i j hij hj) m p' e
  exact ⟨c1.trans (hX.trans b1),by rw [c2,kg,b2],c3,c4,c5⟩
 ·simp only [if_neg hq] at e
  obtain ⟨c1,c2,c3,c4,c5⟩:=x6 (key:=key) (p:=r) (n:=n2) (nrem:=nrem) (by omega) (by omega) (by omega) b6 m p' e
  exact ⟨c1.trans b1,by rw [c2,b2],c3,c4,c5⟩
theorem count_ok {nrem:Nat} (h1:1<=nrem) (hz:nrem<=p.size):∀m p',eA (ltK key) (kas_count nrem p)=(m,p')->p'.Perm p/\p'.size=p.size/\1<=m/\m<=nrem/\Up key p' m:=by
 intro m p' e
 unfold kas_count at e
 rw [jy] at e
 obtain ⟨a1,a2,a3,a4⟩:=AV (key:=key) p (nrem-1) 1 (Nat.le_refl _) (fun i j hij hj=>by rw [show i=j by omega];exact Int.le_refl _)
 obtain ⟨n,en⟩:∃n,eA (ltK key) (kas_asc p (nrem-1) 1)=n:=⟨_,rfl⟩
 rw [en] at e a1 a2 a3 a4
 by_cases hn:(n==nrem)=true
 ·simp only [if_pos hn] at e
  cases e
  exact ⟨Array.Perm.refl _,rfl,a1,by omega,a3⟩
 ·simp only [if_neg hn] at e
  have hn':n≠nrem:=fun z=>hn (by simp [z])
  have hlt:=a4 (by omega)
  by_cases h2:n>1
  ·simp only [if_pos h2] at e
   have e':eA (ltK key) (if ltK key (p.getD 0 0) (p.getD (n-1) 0)=true then KasT.ret (n,p) else kas_descPart n nrem (kas_rev p 0 n))=(m,p'):=e
   by_cases hc:kAt key p 0<kAt key p (n-1)
   ·rw [if_pos (show ltK key (p.getD 0 0) (p.getD (n-1) 0)=true from decide_eq_true hc)] at e'
    cases e'
    exact ⟨Array.Perm.refl _,rfl,a1,by omega,a3⟩
   ·rw [if_neg (show ¬ltK key (p.getD 0 0) (p.getD (n-1) 0)=true from fun z=>hc (of_decide_eq_true z))] at e'
    have all:∀i,i<n->kAt key p i=kAt key p (n-1):=fun i hi=>by
     have x1:=a3 0 i (by omega) hi
     have x2:=a3 i (n-1) (by omega) (by omega)
     omega
    have hr:∀i,i<n->kAt key (kas_rev p 0 n) i=kAt key p (n-1):=fun i hi=>by
     rw [pU (by omega),if_pos ⟨Nat.zero_le _,hi⟩]
     exact all _ (by omega)
    obtain ⟨c1,c2,c3,c4,c5⟩:=qc (key:=key) (p:=kas_rev p 0 n) (n:=n) (nrem:=nrem) a1 (by omega) (by rw [kg];omega) (fun i hi=>by rw [hr i hi,hr (n-1) (by omega)]) (by
     rw [hr (n-1) (by omega),pU (by omega),if_neg (by omega)]
     exact hlt) m p' e'
    exact ⟨c1.trans hX,by rw [c2,kg],c3,c4,c5⟩
  ·simp only [if_neg h2] at e
   have:n=1:=by omega
   subst this
   exact qc (key:=key) (Nat.le_refl _) (by omega) hz (fun i hi=>by rw [show i=1-1 by omega]) hlt m p' e
theorem sA {k:Nat} (hu:Up key p k):∀(f l r:Nat),r<=k->r-l<=f->l<=r->(∀i,i<l->kAt key p i<=kAt key p k)->(∀i,r<=i->i<k->kAt key p k<kAt key p i) ->
  eA (ltK key) (kas_place p k f l r)<=k/\(∀i,i<eA (ltK key) (kas_place p k f l r)->kAt key p i<=kAt key p k)/\∀i,eA (ltK key) (kas_place p k f l r)<=i->i<k->kAt key p k<kAt key p i
 |0,l,r,hr,hf,hlr,h1,h2=>by
  have:l=r:=by omega
  subst this
  exact ⟨hr,h1,h2⟩
 |f+1,l,r,hr,hf,hlr,h1,h2=>by
  by_cases hge:l>=r
  ·have:l=r:=by omega
   subst this
   have e:eA (ltK key) (kas_place p k (f+1) l l)=l:=by
    show eA (ltK key) (if l>=l then KasT.ret l else _)=l
    rw [if_pos hge];rfl
   rw [e]
   exact ⟨hr,h1,h2⟩
  ·have e:eA (ltK key) (kas_place p k (f+1) l r)=if kAt key p k<kAt key p ((l+r)/2) then eA (ltK key) (kas_place p k f l ((l+r)/2)) else eA (ltK key) (kas_place p k f ((l+r)/2+1) r):=by
    show eA (ltK key) (if l>=r then KasT.ret l else .ask (p.getD k 0) (p.getD ((l+r)/2) 0) fun c=>if c=true then kas_place p k f l ((l+r)/2) else kas_place p k f ((l+r)/2+1) r)=_
    rw [if_neg hge]
    show eA (ltK key) (if ltK key (p.getD k 0) (p.getD ((l+r)/2) 0)=true then kas_place p k f l ((l+r)/2) else kas_place p k f ((l+r)/2+1) r)=_
    by_cases hc:kAt key p k<kAt key p ((l+r)/2)
    ·rw [if_pos (show ltK key (p.getD k 0) (p.getD ((l+r)/2) 0)=true from decide_eq_true hc),if_pos hc]
    ·rw [if_neg (show ¬ltK key (p.getD k 0) (p.getD ((l+r)/2) 0)=true from fun z=>hc (of_decide_eq_true z)),if_neg hc]
   rw [e]
   by_cases hc:kAt key p k<kAt key p ((l+r)/2)
   ·rw [if_pos hc]
    exact sA hu f l ((l+r)/2) (by omega) (by omega) (by omega) h1 fun i hi hik=>by
     have:=hu ((l+r)/2) i hi hik
     omega
   ·rw [if_neg hc]
    exact sA hu f ((l+r)/2+1) r hr (by omega) (by omega) (fun i hi=>by
     have:=hu i ((l+r)/2) (by omega) (by omega)
     omega) h2
theorem bin_ok:∀(f:Nat) (p:Array Nat) (k:Nat),k+f<=p.size->Up key p k->(eA (ltK key) (kas_bin f p k)).Perm p/\Up key (eA (ltK key) (kas_bin f p k)) (k+f)
 |0,p,k,hz,hu=>⟨Array.Perm.refl _,hu⟩
 |f+1,p,k,hz,hu=>by
  have e:eA (ltK key) (kas_bin (f+1) p k)=eA (ltK key) (kas_bin f (bubble p k (k-eA (ltK key) (kas_place p k k 0 k))) (k+1)):=by
   show eA (ltK key) ((kas_place p k k 0 k).bind fun l=>kas_bin f (bubble p k (k-l)) (k+1))=_
   rw [jy]
  rw [e]
  obtain ⟨a1,a2,a3⟩:=sA hu k 0 k (Nat.le_refl _) (by omega) (Nat.zero_le _) (fun i hi=>absurd hi (Nat.not_lt_zero _)) (fun i h1 h2=>by omega)
  obtain ⟨l,el⟩:∃l,eA (ltK key) (kas_place p k k 0 k)=l:=⟨_,rfl⟩
  rw [el] at a1 a2 a3 ⊢
  have hb:=kAt_bub (key:=key) (p:=p) (src:=k) (d:=k-l) (by omega) (by omega)
  obtain ⟨c1,c2⟩:=bin_ok f (bubble p k (k-l)) (k+1) (by rw [bubble_size];omega) (fun i j hij hj=>by
   have e1:k-(k-l)=l:=by omega
   rw [hb,hb,e1]
   by_cases hi:i=l
   ·rw [if_pos hi]
    by_cases hj2:j=l
    ·rw [if_pos hj2];exact Int.le_refl _
    ·rw [if_neg hj2,if_pos (by omega)]
     have:=a3 (j-1) (by omega) (by omega)
     omega
   ·rw [if_neg hi]
    by_cases hj2:j=l
    ·rw [if_pos hj2,if_neg (by omega)]
     exact a2 i (by omega)
    ·rw [if_neg hj2]
     by_cases hi2:l<i/\i<=k
     ·rw [if_pos hi2,if_pos (by omega)]
      exact hu _ _ (by omega) (by omega)
     ·rw [if_neg hi2]
      by_cases hj3:l<j/\j<=k
      ·rw [if_pos hj3]
       exact hu _ _ (by omega) (by omega)
      ·rw [if_neg hj3]
       exact hu _ _ (by omega) (by omega))
  exact ⟨c1.trans (bubble_perm _ _ _),by rw [show k+(f+1)=k+1+f by omega];exact c2⟩
theorem vI {n:Nat} (h1:1<=n):(eA (ltK key) (kas_sort n)).toList.Perm (List.range n)/\Up key (eA (ltK key) (kas_sort n)) n:=by
 unfold kas_sort
 rw [jy]
 obtain ⟨m,p',er⟩:∃m p',eA (ltK key) (kas_count n (List.toArray (List.range n)))=(m,p'):=⟨_,_,rfl⟩
 rw [er]
 obtain ⟨b1,b2,b3,b4,b5⟩:=count_ok (key:=key) (p:=List.toArray (List.range n)) h1 (by simp) m p' er
 have hsz:p'.size=n:=by rw [b2];simp
 by_cases hm:m<n
 ·simp only [if_pos hm]
  have em:max m 1=m:=by omega
  rw [em]
  obtain ⟨c1,c2⟩:=bin_ok (key:=key) (n-m) p' m (by omega) b5
  refine ⟨?_,by rw [show m+(n-m)=n by omega] at c2;exact c2⟩
  have:=Array.perm_iff_toList_perm.mp (c1.trans b1)
  simpa using this
 ·simp only [if_neg hm]
  have:m=n:=by omega
  subst this
  refine ⟨?_,b5⟩
  have:=Array.perm_iff_toList_perm.mp b1
  show p'.toList.Perm _
  simpa using this
end
end L2
namespace L2
open PySem PySem.Spec PyProof.Rows
section
open PySem.W
variable {α β:Type} {n:Nat}
noncomputable def xJ (n:Nat) (R:α->Prop):KasT α->Prop
 |.ret a=>R a
 |.ask i j k=>i<n/\j<n/\∀b,xJ n R (k b)
theorem jT {R:α->Prop} {S:β->Prop} {f:α->KasT β} (hf:∀a,R a->xJ n S (f a)):∀t:KasT α,xJ n R t->xJ n S (t.bind f)
 |.ret a,h=>hf a h
 |.ask i j k,h=>⟨h.1,h.2.1,fun b=>jT hf (k b) (h.2.2 b)⟩
theorem rC {lt:Nat->Nat->Bool} {R:α->Prop} {cmp:Nat->Nat->(Bool->Shared->Prop)->Shared->Prop} {s:Shared} (ha:∀i j (C:Bool->Shared->Prop),i<n->j<n->C (lt i j) s->cmp i j C s) {Q:α->Shared->Prop}:∀t:KasT α,xJ n R t->Q (eA lt t) s->t.kasWp cmp Q s
 |.ret _,_,h=>h
 |.ask i j k,r,h=>ha i j _ r.1 r.2.1 (rC ha (k (lt i j)) (r.2.2 _) h)
noncomputable def InB (n:Nat) (p:Array Nat):Prop:=∀x,p.getD x 0<n
theorem mC {p q:Array Nat} (h0:0<n) (hp:InB n p) (h:q.Perm p):InB n q:=fun x=>by
 rw [Array.getD_eq_getD_getElem?]
 cases e:q[x]? with
 |none=>exact h0
 |some v=>
  have hv:v∈q.toList:=by
   rw [<- Array.getElem?_toList] at e
   exact List.mem_of_getElem? e
  have hv2:v∈p.toList:=(Array.perm_iff_toList_perm.mp h).mem_iff.mp hv
  obtain ⟨y,hy,ey⟩:=List.getElem_of_mem hv2
  have:=hp y
  rw [Array.getD_eq_getD_getElem?,<- Array.getElem?_toList,List.getElem?_eq_getElem hy,ey] at this
  exact this
variable {p:Array Nat}
theorem tI (hp:InB n p):∀f m,xJ n (fun _=>True) (kas_asc p f m)
 |0,_=>trivial
 |f+1,m=>⟨hp _,hp _,fun b=>by
  (try dsimp only)
  split
  ·trivial
  ·exact tI hp f (m+1)⟩
theorem o9 (h0:0<n):∀(f:Nat) (p:Array Nat) (m q:Nat),InB n p->xJ n (fun r=>InB n r.1) (kas_desc f p m q)
 |0,p,_,_,hp=>hp
 |f+1,p,m,q,hp=>⟨hp _,hp _,fun b=>by
  (try dsimp only)
  split
  ·split
   ·exact o9 h0 f _ _ _ (mC h0 hp hX)
   ·exact o9 h0 f _ _ _ hp
  ·refine ⟨hp _,hp _,fun c=>?_⟩
   (try dsimp only)
   split
   ·exact hp
   ·exact o9 h0 f _ _ _ hp⟩
theorem rX (h0:0<n) (hp:InB n p) (m r:Nat):xJ n (fun r=>InB n r.2) (kas_tail3 m r p):=by
 unfold kas_tail3
 refine jT (n:=n) (R:=fun _=>True) (f:=fun k=>KasT.ret (k,kas_rev p 0 m)) (fun a _=>?_) _ (tI (mC h0 hp hX) _ _)
 exact mC h0 hp hX
theorem o8 (h0:0<n) (hp:InB n p) (m r:Nat):xJ n (fun r=>InB n r.2) (kas_descPart m r p):=by
 refine jT (R:=fun r=>InB n r.1) (fun a ha=>?_) _ (o9 h0 _ _ _ _ hp)
 (try dsimp only)
 split
 ·exact rX h0 (mC h0 ha hX) _ _
 ·exact rX h0 ha _ _
theorem yt (h0:0<n) (hp:InB n p) (r:Nat):xJ n (fun r=>InB n r.2) (kas_count r p):=by
 refine jT (R:=fun _=>True) (fun a _=>?_) _ (tI hp _ _)
 (try dsimp only)
 split
 ·exact hp
 ·split
  ·refine ⟨hp _,hp _,fun b=>?_⟩
   (try dsimp only)
   split
   ·exact hp
   ·exact o8 h0 (mC h0 hp hX) _ _
  ·exact o8 h0 hp _ _
theorem oR (hp:InB n p) (k:Nat):∀f l r,xJ n (fun _=>True) (kas_place p k f l r)
 |0,_,_=>trivial
 |f+1,l,r=>by
  show xJ n (fun _=>True) (if l>=r then KasT.ret l else _)
  split
  ·trivial
  ·refine ⟨hp _,hp _,fun b=>?_⟩
   (try dsimp only)
   split
   ·exact oR hp k f _ _
   ·exact oR hp k f _ _
theorem xG (h0:0<n):∀(f:Nat) (p:Array Nat) (k:Nat),InB n p->xJ n (fun _=>True) (kas_bin f p k)
 |0,_,_,_=>trivial
 |f+1,p,k,hp=>jT (R:=fun _=>True) (fun l _=>xG h0 f _ _ (mC h0 hp (bubble_perm _ _ _))) _ (oR hp k _ _ _)
theorem AU (h0:0<n):xJ n (fun _=>True) (kas_sort n):=by
 refine jT (R:=fun r=>InB n r.2) (fun a ha=>?_) _ (yt h0 (fun x=>?_) _)
 ·(try dsimp only)
  split
  ·exact xG h0 _ _ _ ha
  ·trivial
 ·rw [Array.getD_eq_getD_getElem?]
  simp only [List.getElem?_toArray]
  cases e:(List.range n)[x]? with
  |none=>exact h0
  |some v=>exact List.mem_range.mp (List.mem_of_getElem? e)
end
section
open PySem.W
variable {prog:Program} {w:World} {A:Around} {E:Value->Shared->Prop} {s:Shared} {key:Nat->Int}
noncomputable def oF (key:Nat->Int) (vs:List Value):List Value:=if vs.length<2 then vs else (eA (ltK key) (kas_sort vs.length)).toList.map fun i=>vs.getD i Value.none
noncomputable def Asks (prog:Program) (w:World) (A:Around) (key:Nat->Int) (vs:List Value) (s':Shared):Prop:=
 wpAny (model prog w) A (keyKind' vs.toArray) (fun κ s2=>s2=s'/\∀i j (C:Bool->Shared->Prop),i<vs.length->j<vs.length->C (ltK key i j) s'->kas_ask prog w A κ vs i j C s') (fun _ _=>False) s'
theorem zR {a:Addr} {vs:List Value} {n:Nat} {P:PySem.Fin->Shared->Prop} (ho:s.heap.get? a=some (seqObj "list" vs.toArray n)) (h64:vs.length<64)
  (hk:2<=vs.length->∀h1:Heap,(∀b o,b≠a->s.heap.get? b=some o->h1.get? b=some o)->Asks prog w A key vs {s with heap:=h1})
  (h:∀(h':Heap) (c:Nat),(∀b o,b≠a->s.heap.get? b=some o->h'.get? b=some o)->h'.get? a=some (seqObj "list" (oF key vs).toArray c)->P (.done (.ret .none)) {s with heap:=h'}) :
  wpAny (model prog w) A (Builtin.«list.sort» ⟨[.ref a],[]⟩) P E s:=by
 have hlt:a<s.heap.objs.size:=Heap.lt_size ho
 have hline:=sizeLine_eq
 obtain ⟨e1,ho1⟩:∃e1,(s.heap.update a (Obj.mapSeq fun _=>(#[]:Array Value))).get? a=some (seqObj "list" #[] e1):=⟨_,get?_update_seq ho fun _=>#[]⟩
 rw [list_sort_plain]
 refine wpAny_bind (listItems_at ho rfl (wpAny_bind (listUpdate_at ho rfl (wpAny_bind (seqEpoch_at ho1 rfl (wpAny_bind (wpAny_newTuple (wpAny_bind (wpAny_newList (wpAny_holding ?_) (Nat.zero_le _))) (by show vs.length<=_;omega))))) (by rw [List.size_toArray];omega) (Nat.zero_le _))))
 have hkeep:∀b o,b≠a->s.heap.get? b=some o->(((s.heap.update a (Obj.mapSeq fun _=>(#[]:Array Value))).push (seqObj "tuple" vs.toArray 0)).push (seqObj "list" #[] 0)).get? b=some o:=fun b o hb q=>
  Heap.get?_push_of_some _ (Heap.get?_push_of_some _ ((Heap.get?_update_other _ _ (Ne.symm hb)).trans q))
 have ho6:(((s.heap.update a (Obj.mapSeq fun _=>(#[]:Array Value))).push (seqObj "tuple" vs.toArray 0)).push (seqObj "list" #[] 0)).get? a=some (seqObj "list" #[] e1):=Heap.get?_push_of_some _ (Heap.get?_push_of_some _ ho1)
 show wpAny (model prog w) A _ P E {s with heap:=((s.heap.update a (Obj.mapSeq fun _=>(#[]:Array Value))).push (seqObj "tuple" vs.toArray 0)).push (seqObj "list" #[] 0)}
 dsimp only
 have fin:∀(out:List Value),out=oF key vs->P (.done (.ret .none)) {s with heap:=(((s.heap.update a (Obj.mapSeq fun _=>(#[]:Array Value))).push (seqObj "tuple" vs.toArray 0)).push (seqObj "list" #[] 0)).update a (Obj.mapSeq fun _=>out.toArray)}:=fun out eo=>by
  subst eo
  exact h _ _ (fun b o hb q=>(Heap.get?_update_other _ _ (Ne.symm hb)).trans (hkeep b o hb q)) (get?_update_seq ho6 fun _=>(oF key vs).toArray)
 by_cases h2:vs.toArray.size<2
 ·rw [if_pos h2,if_pos h2]
  refine wpAny_bind (wpAny_pure ?_)
  rw [StateT.run_pure]
  refine wpAny_bind (wpAny_pure ?_)
  dsimp only
  have h2':vs.length<2:=by simpa using h2
  have eo:(arrOf (SortSt.mk' general' (vs.toArray.zip vs.toArray) #[] 7 none)).map (·.2)=vs.toArray:=by
   show (vs.toArray.zip vs.toArray).map (·.2)=vs.toArray
   apply Array.toList_inj.mp
   simp only [Array.toList_map,Array.toList_zip]
   exact List.map_snd_zip (Nat.le_refl _)
  rw [eo]
  refine wpAny_bind (seqEpoch_at ho6 rfl (wpAny_bind (listUpdate_at ho6 rfl ?_ (Nat.zero_le _) (by show vs.length<=_;omega))))
  have e3:failedOf (SortSt.mk' general' (vs.toArray.zip vs.toArray) #[] 7 none)=none:=rfl
  simp only [e3,bne_self_eq_false,Bool.false_eq_true,if_false]
  exact wpAny_pure (fin vs (by unfold oF;rw [if_pos h2']))
 ·rw [if_neg h2,if_neg h2]
  have h2':2<=vs.length:=by rw [List.size_toArray] at h2;omega
  refine wpAny_bind (wpAny_mono (hk h2' _ hkeep) (fun κ s0 ⟨es,ask⟩=>?_) fun _ _ x=>x.elim)
  subst es
  refine wpAny_bind (wpAny_mono (kat_run (ks:=vs) (vs:=vs) (Q:=fun st' s'=>s'={s with heap:=((s.heap.update a (Obj.mapSeq fun _=>(#[]:Array Value))).push (seqObj "tuple" vs.toArray 0)).push (seqObj "list" #[] 0)}/\(arrOf st').map (·.2)=(oF key vs).toArray/\failedOf st'=none)
   (G:=fun p s'=>s'={s with heap:=((s.heap.update a (Obj.mapSeq fun _=>(#[]:Array Value))).push (seqObj "tuple" vs.toArray 0)).push (seqObj "list" #[] 0)}/\p=eA (ltK key) (kas_sort vs.length)) rfl h2' h64 (fun p st' s' _ har hf hg=>⟨hg.1,?_,hf⟩) (rC (n:=vs.length) (R:=fun _=>True) (fun i j C hi hj hc=>ask i j C hi hj hc) _ (AU (by omega)) ⟨rfl,rfl⟩)) (fun r s' hr=>?_) fun _ _ x=>x)
  ·rw [kat_snds rfl har,hg.2]
   unfold oF
   rw [if_neg (by omega)]
  ·obtain ⟨⟨⟩,st'⟩:=r
   obtain ⟨es,eo,ef⟩:=hr
   have es:s'=_:=es
   subst es
   have eo:(arrOf st').map (·.2)=(oF key vs).toArray:=eo
   have ef:failedOf st'=none:=ef
   dsimp only
   rw [eo]
   have hol:(oF key vs).length=vs.length:=by
    unfold oF
    split
    ·rfl
    ·rw [List.length_map,(vI (key:=key) (n:=vs.length) (by omega)).1.length_eq,List.length_range]
   refine wpAny_bind (seqEpoch_at ho6 rfl (wpAny_bind (listUpdate_at ho6 rfl ?_ (Nat.zero_le _) (by show (oF key vs).length<=_;omega))))
   simp only [ef,bne_self_eq_false,Bool.false_eq_true,if_false]
   exact wpAny_pure (fin _ rfl)
theorem xT {l:Addr} {vs:List Value} {Q:Value->Shared->Prop} (hl:s.heap.IsList l vs.toArray) (h64:vs.length<64)
  (hk:2<=vs.length->∀h1:Heap,(∀b o,s.heap.get? b=some o->h1.get? b=some o)->Asks prog w A.in1.in1 key vs {s with heap:=h1})
  (h:∀(h':Heap) (D:Addr) (c:Nat),s.heap.objs.size<=D->(∀b o,s.heap.get? b=some o->h'.get? b=some o)->h'.get? D=some (seqObj "list" (oF key vs).toArray c)->Q (.ref D) {s with heap:=h'}) :
  wpAny (model prog w) A (call (.builtin "sorted") [.ref l]) Q E s:=by
 have hline:=sizeLine_eq
 refine Calls.call_function_entry kind_sorted plain_sorted entry_sorted (args_sorted1 _) ?_
 unfold Builtin.«sorted»
 refine wpAny_bind (m:=checkCount "sorted" 1 1 _) (wpAny_pure (wpAny_bind (collect_list hl (wpAny_bind (wpAny_newList ?_ (by omega))) (by omega))))
 have hz:((s.heap.push (seqObj "list" #[] 0)).update s.heap.objs.size (Obj.mapSeq (·++vs.toArray))).objs.size=s.heap.objs.size+1:=by rw [Heap.size_update,size_push']
 have hD:(((s.heap.push (seqObj "list" #[] 0)).update s.heap.objs.size (Obj.mapSeq (·++vs.toArray))).push (seqObj "list" vs.toArray 0)).get? (s.heap.objs.size+1)=some (seqObj "list" vs.toArray 0):=by rw [<- hz];exact Heap.get?_push_size _ rfl
 have hkeep:∀b o,s.heap.get? b=some o->(((s.heap.push (seqObj "list" #[] 0)).update s.heap.objs.size (Obj.mapSeq (·++vs.toArray))).push (seqObj "list" vs.toArray 0)).get? b=some o:=fun b o q=>
  Heap.get?_push_of_some _ ((Heap.get?_update_other _ _ (Nat.ne_of_gt (Heap.lt_size q))).trans (Heap.get?_push_of_some _ q))
 show wpAny _ _ _ _ _ {s with heap:=((s.heap.push (seqObj "list" #[] 0)).update s.heap.objs.size (Obj.mapSeq (·++vs.toArray))).push (seqObj "list" vs.toArray 0)}
 rw [hz]
 have hnD:∀b o,s.heap.get? b=some o->b≠s.heap.objs.size+1:=fun b o q=>Nat.ne_of_lt (Nat.lt_succ_of_lt (Heap.lt_size q))
 refine wpAny_bind (wpAny_holding (wpAny_call_entry slot_list_sort ⟨_,hD,rfl⟩ entry_list_sort (zR hD h64 (fun h2 h1 hk1=>hk h2 h1 fun b o q=>hk1 b o (hnD b o q) (hkeep b o q)) fun h' c k' e'=>⟨_,rfl,?_⟩) (args_list_sort _)))
 exact wpAny_pure ⟨_,rfl,h h' _ c (Nat.le_succ _) (fun b o q=>k' b o (hnD b o q) (hkeep b o q)) e'⟩
end
end L2
namespace L2
open PySem PySem.Spec PyProof.Rows
noncomputable def insL {α:Type} (lt:α->α->Bool) (x:α):List α->List α
 |[]=>[x]
 |y::ys=>if lt y x=true then y::insL lt x ys else x::y::ys
noncomputable def nM {α:Type} (lt:α->α->Bool):List α->List α
 |[]=>[]
 |x::xs=>insL lt x (nM lt xs)
noncomputable def ltZ (a b:Int):Bool:=decide (a<b)
noncomputable def pQ:List Int->List Int->Bool
 |[],[]=>false
 |[],_::_=>true
 |_::_,[]=>false
 |a::as,b::bs=>if a=b then pQ as bs else decide (a<b)
noncomputable def tupZ (t:List Int):Dat:=.tup (t.map .int)
noncomputable def tupD:Dat->M (List Int)
 |.tup ds=>dj ds
 |_=>stk
noncomputable def mG:List Dat->M (List (List Int))
 |[]=>.ok []
 |d::ds=>(tupD d).bind fun t=>(mG ds).bind fun r=>.ok (t::r)
noncomputable def ua (ds:List Dat):M Dat:=if ds.length<64 then (match dj ds with
 |.ok is=>.ok (.lst ((nM ltZ is).map .int))
 |.error _=>(mG ds).bind fun ts=>if (ts.all fun t=> !t.isEmpty)=true then .ok (.lst ((nM pQ ts).map tupZ)) else stk) else stk
noncomputable def mV:List Dat->M Dat
 |[.lst ds]=>ua ds
 |_=>stk
section
variable {α:Type} {lt:α->α->Bool}
structure Ord (lt:α->α->Bool):Prop where
 irr:∀a,lt a a=false
 tr:∀a b c,lt a b=true->lt b c=true->lt a c=true
 tot:∀a b,lt a b=false->lt b a=false->a=b
theorem ordZ:Ord ltZ:=⟨fun a=>by simp [ltZ],fun a b c h1 h2=>by simp [ltZ] at *;omega,fun a b h1 h2=>by simp [ltZ] at *;omega⟩
theorem zE:Ord pQ:=by
 refine ⟨fun a=>?_,fun a b c=>?_,fun a b=>?_⟩
 ·induction a with
  |nil=>rfl
  |cons x xs ih=>simp [pQ,ih]
 ·induction a generalizing b c with
  |nil=>
   cases b with
   |nil=>intro h;simp [pQ] at h
   |cons y ys=>
    intro _ h2
    cases c with
    |nil=>simp [pQ] at h2
    |cons z zs=>rfl
  |cons x xs ih=>
   intro h1 h2
   cases b with
   |nil=>simp [pQ] at h1
   |cons y ys=>
    cases c with
    |nil=>simp [pQ] at h2
    |cons z zs=>
     simp only [pQ] at h1 h2 ⊢
     by_cases e1:x=y
     ·subst e1
      rw [if_pos rfl] at h1
      by_cases e2:x=z
      ·rw [if_pos e2] at h2 ⊢;exact ih _ _ h1 h2
      ·rw [if_neg e2] at h2 ⊢;exact h2
     ·rw [if_neg e1] at h1
      have h1':x<y:=of_decide_eq_true h1
      by_cases e2:y=z
      ·subst e2
       rw [if_neg e1];exact h1
      ·rw [if_neg e2] at h2
       have h2':y<z:=of_decide_eq_true h2
       rw [if_neg (by omega)]
       exact decide_eq_true (by omega)
 ·induction a generalizing b with
  |nil=>
   cases b with
   |nil=>intros;rfl
   |cons y ys=>intro h;simp [pQ] at h
  |cons x xs ih=>
   cases b with
   |nil=>intro _ h;simp [pQ] at h
   |cons y ys=>
    intro h1 h2
    simp only [pQ] at h1 h2
    by_cases e1:x=y
    ·subst e1
     rw [if_pos rfl] at h1 h2
     rw [ih _ h1 h2]
    ·rw [if_neg e1] at h1
     rw [if_neg (fun z=>e1 z.symm)] at h2
     have h1':=of_decide_eq_false h1
     have h2':=of_decide_eq_false h2
     omega
theorem pX (x:α):∀l:List α,(insL lt x l).Perm (x::l)
 |[]=>List.Perm.refl _
 |y::ys=>by
  rw [insL]
  split
  ·exact ((pX x ys).cons y).trans (List.Perm.swap x y ys)
  ·exact List.Perm.refl _
theorem oH:∀l:List α,(nM lt l).Perm l
 |[]=>List.Perm.refl _
 |x::xs=>(pX x _).trans ((oH xs).cons x)
theorem Ord.le_trans (o:Ord lt) {a b c:α} (h1:lt b a=false) (h2:lt c b=false):lt c a=false:=by
 cases h:lt c a with
 |false=>rfl
 |true=>
  cases h3:lt b c with
  |true=>rw [o.tr b c a h3 h] at h1;cases h1
  |false=>
   have:=o.tot c b h2 h3
   subst this
   rw [h] at h1;cases h1
theorem Ord.asym (o:Ord lt) {a b:α} (h:lt a b=true):lt b a=false:=by
 cases h2:lt b a with
 |false=>rfl
 |true=>have:=o.tr a b a h h2;rw [o.irr] at this;cases this
theorem pW (o:Ord lt) (x:α):∀l:List α,l.Pairwise (fun a b=>lt b a=false)->(insL lt x l).Pairwise (fun a b=>lt b a=false)
 |[],_=>by simp [insL]
 |y::ys,h=>by
  rw [insL]
  rw [List.pairwise_cons] at h
  split
  ·rename_i hc
   rw [List.pairwise_cons]
   refine ⟨fun b hb=>?_,pW o x ys h.2⟩
   rcases List.mem_cons.mp ((pX x ys).mem_iff.mp hb) with e|e
   ·rw [e];exact o.asym hc
   ·exact h.1 b e
  ·rename_i hc
   have hc':lt y x=false:=by simpa using hc
   rw [List.pairwise_cons,List.pairwise_cons]
   refine ⟨fun b hb=>?_,h⟩
   rcases List.mem_cons.mp hb with e|e
   ·rw [e];exact hc'
   ·exact o.le_trans hc' (h.1 b e)
theorem lS (o:Ord lt):∀l:List α,(nM lt l).Pairwise (fun a b=>lt b a=false)
 |[]=>List.Pairwise.nil
 |x::xs=>pW o x _ (lS o xs)
theorem pK (o:Ord lt):∀{l m:List α},l.Perm m->l.Pairwise (fun a b=>lt b a=false)->m.Pairwise (fun a b=>lt b a=false)->l=m
 |[],m,h,_,_=>(List.Perm.nil_eq h)
 |a::l,m,h,h1,h2=>by
  cases m with
  |nil=>exact absurd h.symm (by simp)
  |cons b m=>
   rw [List.pairwise_cons] at h1 h2
   have e:a=b:=by
    rcases List.mem_cons.mp (h.mem_iff.mp List.mem_cons_self) with e|e
    ·exact e
    ·rcases List.mem_cons.mp (h.mem_iff.mpr List.mem_cons_self) with e2|e2
     ·exact e2.symm
     ·exact o.tot a b (h2.1 a e) (h1.1 b e2)
   subst e
   rw [pK o (List.Perm.cons_inv h) h1.2 h2.2]
end
section
open PySem.W
variable {α:Type} {lt:α->α->Bool}
theorem getD_get {l:List α} {i:Nat} {d:α} (h:i<l.length):l.getD i d=l[i]:=by simp [h]
noncomputable def rk (lt:α->α->Bool) (zs:List α) (d:α) (i:Nat):Int:=((zs.filter fun z=>lt z (zs.getD i d)).length:Int)
theorem filter_lt {p q:α->Bool} (h:∀z,p z=true->q z=true):∀l:List α,(l.filter p).length<=(l.filter q).length/\((∃z∈l,p z=false/\q z=true)->(l.filter p).length<(l.filter q).length)
 |[]=>⟨Nat.le_refl _,fun ⟨_,h,_⟩=>nomatch h⟩
 |x::xs=>by
  obtain ⟨i1,i2⟩:=filter_lt h xs
  cases hp:p x with
  |true=>
   have hq:=h x hp
   rw [List.filter_cons_of_pos hp,List.filter_cons_of_pos hq]
   refine ⟨by simp;exact i1,fun ⟨z,hz,e1,e2⟩=>?_⟩
   rcases List.mem_cons.mp hz with e|e
   ·rw [e,hp] at e1;cases e1
   ·have:=i2 ⟨z,e,e1,e2⟩
    simp;exact this
  |false=>
   rw [List.filter_cons_of_neg (by simp [hp])]
   cases hq:q x with
   |true=>
    rw [List.filter_cons_of_pos hq]
    exact ⟨by simp;omega,fun _=>by simp;omega⟩
   |false=>
    rw [List.filter_cons_of_neg (by simp [hq])]
    refine ⟨i1,fun ⟨z,hz,e1,e2⟩=>?_⟩
    rcases List.mem_cons.mp hz with e|e
    ·rw [e,hq] at e2;cases e2
    ·exact i2 ⟨z,e,e1,e2⟩
theorem rk_lt (o:Ord lt) {zs:List α} {d:α} {i j:Nat} (hi:i<zs.length) (hj:j<zs.length):ltK (rk lt zs d) i j=lt (zs.getD i d) (zs.getD j d):=by
 unfold ltK rk
 have gi:zs.getD i d∈zs:=by rw [getD_get hi];exact List.getElem_mem hi
 have gj:zs.getD j d∈zs:=by rw [getD_get hj];exact List.getElem_mem hj
 cases h:lt (zs.getD i d) (zs.getD j d) with
 |true=>
  refine decide_eq_true ?_
  have:=(filter_lt (p:=fun z=>lt z (zs.getD i d)) (q:=fun z=>lt z (zs.getD j d)) (fun z hz=>o.tr _ _ _ hz h) zs).2 ⟨_,gi,o.irr _,h⟩
  omega
 |false=>
  refine decide_eq_false ?_
  have:=(filter_lt (p:=fun z=>lt z (zs.getD j d)) (q:=fun z=>lt z (zs.getD i d)) (fun z hz=>by
   cases h3:lt z (zs.getD i d) with
   |true=>rfl
   |false=>
    have e:=o.le_trans h h3
    rw [hz] at e;cases e) zs).1
  omega
theorem zD (o:Ord lt) (zs:List α) (d:α) (h2:2<=zs.length):(eA (ltK (rk lt zs d)) (kas_sort zs.length)).toList.map (fun i=>zs.getD i d)=nM lt zs:=by
 obtain ⟨h1,hu⟩:=vI (key:=rk lt zs d) (n:=zs.length) (by omega)
 refine pK o ?_ ?_ (lS o zs)
 ·refine (h1.map _).trans ?_
  have:(List.range zs.length).map (fun i=>zs.getD i d)=zs:=by
   apply List.ext_getElem
   ·simp
   ·intro i h3 h4
    simp [h4]
  rw [this]
  exact (oH zs).symm
 ·rw [List.pairwise_map,List.pairwise_iff_getElem]
  intro i j hi hj hij
  have hn:(eA (ltK (rk lt zs d)) (kas_sort zs.length)).toList.length=zs.length:=by rw [h1.length_eq,List.length_range]
  have inr:∀k (hk:k<(eA (ltK (rk lt zs d)) (kas_sort zs.length)).toList.length),(eA (ltK (rk lt zs d)) (kas_sort zs.length)).toList[k]<zs.length:=fun k hk=>List.mem_range.mp (h1.mem_iff.mp (List.getElem_mem hk))
  have:=hu i j (by omega) (by omega)
  unfold kAt at this
  have g:∀k (hk:k<(eA (ltK (rk lt zs d)) (kas_sort zs.length)).toList.length),(eA (ltK (rk lt zs d)) (kas_sort zs.length)).getD k 0=(eA (ltK (rk lt zs d)) (kas_sort zs.length)).toList[k]:=fun k hk=>by
   rw [Array.getD_eq_getD_getElem?,<- Array.getElem?_toList,List.getElem?_eq_getElem hk];rfl
  rw [g i hi,g j hj] at this
  rw [<- rk_lt o (inr j hj) (inr i hi)]
  exact decide_eq_false (by omega)
theorem w5:∀{zs:List α},zs.length<2->nM lt zs=zs
 |[],_=>rfl
 |[x],_=>rfl
 |_::_::_,h=>by simp at h;omega
variable {X:Cx} {K:PySem.W.Frag} {W:fm} {own:Bool}
theorem vals_map {xs:List V} {us:List Value} (r:Vals xs us) (ps:List Nat) (hp:∀i∈ps,i<xs.length):Vals (ps.map fun i=>xs.getD i .non) (ps.map fun i=>us.getD i .none):=by
 refine Vals.of_get (by simp) fun k v u h1 h2=>?_
 rw [List.getElem?_map] at h1 h2
 cases e:ps[k]? with
 |none=>rw [e] at h1;cases h1
 |some i=>
  rw [e] at h1 h2
  simp only [Option.map_some,Option.some.injEq] at h1 h2
  have hi:=hp i (List.mem_of_getElem? e)
  have hl:=r.length
  obtain ⟨u',e1,q⟩:=r.get (i:=i) (x:=xs[i]) (by simp [hi])
  rw [getD_get hi] at h1
  rw [List.getD_eq_getElem?_getD,e1] at h2
  rw [<- h1,<- h2]
  exact q
theorem xa (o:Ord lt) {pins:List (Addr×Obj)} {σ:St} {F H:Hp} {s:Shared} {Q:VK} {a:Addr} {xs:List V} {zs:List α} {d0:α} {enc:α->Dat} (I:Inv X pins σ H s) (hF:aU F H) (t:SqL X.K F a xs) (r:ax X.K F (zs.map enc) xs) (h64:zs.length<64)
  (hk:∀its:List Value,Vals xs its->2<=its.length->∀h1:Heap,(∀b o,s.heap.get? b=some o->h1.get? b=some o)->Asks X.prog X.w X.A.in1.in1 (rk lt zs d0) its {s with heap:=h1})
  (p:aL X.K W true F H (.ok (.lst ((nM lt zs).map enc))) Q):wpAny (model X.prog X.w) X.A (call (.builtin "sorted") [.ref a]) (EP X pins σ Q) X.xe s:=by
 obtain ⟨its,rv,pl,hz⟩:=I.list (hF.lst t)
 have l1:=rv.length
 have l2:=r.length
 rw [List.length_map] at l2
 refine xT (key:=rk lt zs d0) pl.isList (by omega) (fun h2 h1 kp=>hk its rv h2 h1 kp) fun h' D c hD kp e=>?_
 have key:∃ys,ys.length<=sizeLine/\Vals ys (oF (rk lt zs d0) its)/\ax X.K F ((nM lt zs).map enc) ys:=by
  unfold oF
  by_cases h2:its.length<2
  ·rw [if_pos h2,w5 (by omega)]
   exact ⟨xs,hz,rv,r⟩
  ·rw [if_neg h2,show its.length=zs.length by omega]
   obtain ⟨h1,_⟩:=vI (key:=rk lt zs d0) (n:=zs.length) (by omega)
   have inr:∀i∈(eA (ltK (rk lt zs d0)) (kas_sort zs.length)).toList,i<xs.length:=fun i hi=>by
    have:=List.mem_range.mp (h1.mem_iff.mp hi);omega
   refine ⟨(eA (ltK (rk lt zs d0)) (kas_sort zs.length)).toList.map fun i=>xs.getD i .non,?_,vals_map rv _ inr,?_⟩
   ·rw [List.length_map,h1.length_eq,List.length_range];omega
   ·rw [<- zD o zs d0 (by omega),List.map_map]
    refine ax.of_get (by simp) fun k dd v g1 g2=>?_
    rw [List.getElem?_map] at g1 g2
    cases ek:(eA (ltK (rk lt zs d0)) (kas_sort zs.length)).toList[k]? with
    |none=>rw [ek] at g1;cases g1
    |some i=>
     rw [ek] at g1 g2
     simp only [Option.map_some,Option.some.injEq,Function.comp] at g1 g2
     have hi:=inr i (List.mem_of_getElem? ek)
     obtain ⟨w,e1,q⟩:=r.get (i:=i) (d:=enc (zs[i]'(by omega))) (by simp [show i<zs.length by omega])
     rw [getD_get (show i<zs.length by omega)] at g1
     rw [List.getD_eq_getElem?_getD,e1] at g2
     rw [<- g1,<- g2]
     exact q
 obtain ⟨ys,hy1,hy2,hy3⟩:=key
 have I1:Inv X pins σ (upd H D (.lst ys)) {s with heap:=h'}:=I.laid (t':=s.toks) kp hD (show dR X.prog X.w _ h' D (.lst ys) from ⟨hy1,_,c,hy2,e⟩)
 exact ⟨.ref D,_,I1,rfl,p.lst hF hy3 (I.hok.fresh hD)⟩
theorem rk_ints (is:List Int) (i j:Nat) (hi:i<is.length) (hj:j<is.length):ltK (rk ltZ is 0) i j=decide (is.getD i 0<is.getD j 0):=rk_lt ordZ hi hj
theorem AS {prog:Program} {w:World} {A:Around} {s':Shared} {its:List Value} {is:List Int} (hi:IntsAre its is) (h2:2<=its.length):Asks prog w A (rk ltZ is 0) its s':=by
 have hl:=hi.length
 obtain ⟨v1,v2,rest,rfl⟩:∃v1 v2 rest,its=v1::v2::rest:=by
  match its,h2 with
  |v1::v2::rest,_=>exact ⟨v1,v2,rest,rfl⟩
 unfold Asks
 rw [keyKind_ints hi]
 refine wpAny_pure ⟨rfl,fun i j C h1 h2 hc=>?_⟩
 unfold kas_ask
 obtain ⟨t1,e1⟩:=ints_at hi i h1
 obtain ⟨t2,e2⟩:=ints_at hi j h2
 rw [e1,e2]
 rw [rk_ints is i j (by omega) (by omega)] at hc
 exact kat_lt_int hc
where
 ints_at {vs:List Value} {ns:List Int} (h:IntsAre vs ns) (i:Nat) (hi:i<vs.length):∃t,vs.getD i Value.none=.int (ns.getD i 0) t:=by
  induction h generalizing i with
  |nil=>simp at hi
  |cons n t r ih=>
   cases i with
   |zero=>exact ⟨t,rfl⟩
   |succ i=>obtain ⟨t',e⟩:=ih i (by simpa using hi);exact ⟨t',by simpa using e⟩
noncomputable def lexF (f:Bool):List Int->List Int->Bool
 |a::as,b::bs=>if a=b then lexF f as bs else decide (a<b)
 |_,_=>f
theorem xj:∀as bs:List Int,lexF (decide (as.length<bs.length)) as bs=pQ as bs
 |[],[]=>rfl
 |[],_::_=>by simp [lexF,pQ]
 |_::_,[]=>by simp [lexF,pQ]
 |a::as,b::bs=>by
  have:=xj as bs
  simp only [lexF,pQ,List.length_cons,Nat.add_lt_add_iff_right]
  rw [this]
theorem pT {prog:Program} {w:World} {A:Around} {s':Shared} {f:Bool} {Q:Bool->Shared->Prop}:∀{us vs:List Value} {as bs:List Int} (i:Nat),IntsAre us as->IntsAre vs bs->Q (lexF f as bs) s'->KatLex prog w A true f Q (us.zip vs) i s'
 |_,_,_,bs,_,.nil,_,h=>kat_nil (by cases bs<;>exact h)
 |_,_,_,_,_,.cons a t r,.nil,h=>kat_nil h
 |_,_,_,_,i,.cons a t r,.cons b u r',h=>by
  show KatLex prog w A true f Q ((.int a t,.int b u)::(_:List (Value×Value))) i s'
  refine kat_cons (SeqAt.EqAt.int_int a t b u _ _ _ _ ?_)
  by_cases e:a=b
  ·rw [show (a==b)=true by simpa using e]
   rw [lexF,if_pos e] at h
   exact kat_yes (pT (i+1) r r' h)
  ·rw [show (a==b)=false by simpa using e]
   rw [lexF,if_neg e] at h
   refine kat_no ?_
   cases hb:(true&&i==0) with
   |true=>exact oneLt_int h
   |false=>exact kat_one _ _ (lt_int h)
theorem AR {pins:List (Addr×Obj)} {σ:St} {F H:Hp} {s:Shared} {A:Around} {xs:List V} {ts:List (List Int)} {its:List Value} {h1:Heap} (I:Inv X pins σ H s) (hF:aU F H) (r:ax X.K F (ts.map tupZ) xs) (hne:(ts.all fun t=> !t.isEmpty)=true) (rv:Vals xs its) (h2:2<=its.length)
  (kp:∀b o,s.heap.get? b=some o->h1.get? b=some o):Asks X.prog X.w A (rk pQ ts []) its {s with heap:=h1}:=by
 have l1:=rv.length
 have l2:=r.length
 rw [List.length_map] at l2
 have at_:∀i,i<its.length->∃(l:Addr) (ob:Obj) (us:List Value) (n:Nat),its.getD i Value.none=.ref l/\h1.get? l=some ob/\ob.cls=.type "tuple"/\ob.data=.seq us.toArray n/\IntsAre us (ts.getD i []):=fun i hi=>by
  obtain ⟨v,e1,l,ys,e2,tq,rr⟩:=r.get (i:=i) (d:=tupZ (ts[i]'(by omega))) (by simp [show i<ts.length by omega])
  subst e2
  obtain ⟨u,e3,ru⟩:=rv.get e1
  cases ru
  obtain ⟨us,ru,pl,_⟩:=I.tuple (hF.tup tq)
  obtain ⟨ob,h3,h4,n,h5⟩:=pl
  have e4:ys=(ts[i]'(by omega)).map V.int:=lU rr (nP _)
  rw [e4] at ru
  exact ⟨l,ob,us,n,by rw [List.getD_eq_getElem?_getD,e3];rfl,kp _ _ h3,h4,h5,by rw [getD_get (show i<ts.length by omega)];exact intsAre_of ru⟩
 have tups:∀(k:Nat),k<=its.length->∃fs,KatTups h1 (its.drop (its.length-k)) fs/\fs.length=k/\∀v∈fs,∃i t,v=Value.int i t:=by
  intro k
  induction k with
  |zero=>intro _;exact ⟨[],by rw [Nat.sub_zero,List.drop_length];exact KatTups.nil,rfl,fun _ h=>nomatch h⟩
  |succ k ih=>
   intro hk
   obtain ⟨fs,q1,q2,q3⟩:=ih (by omega)
   have hi:its.length-(k+1)<its.length:=by omega
   obtain ⟨l,ob,us,n,e1,e2,e3,e4,e5⟩:=at_ _ hi
   have hn:(ts.getD (its.length-(k+1)) [])≠[]:=by
    rw [getD_get (show its.length-(k+1)<ts.length by omega)]
    have:=List.all_eq_true.mp hne _ (List.getElem_mem (show its.length-(k+1)<ts.length by omega))
    simpa using this
   obtain ⟨z,ez⟩:∃z,ts.getD (its.length-(k+1)) []=z:=⟨_,rfl⟩
   rw [ez] at e5 hn
   obtain ⟨f,fr,ef,hf⟩:∃f fr,us=f::fr/\∃i t,f=Value.int i t:=by
    cases e5 with
    |nil=>exact absurd rfl hn
    |cons m t r=>exact ⟨_,_,rfl,_,_,rfl⟩
   refine ⟨f::fs,?_,by simp [q2],fun v hv=>?_⟩
   ·rw [List.drop_eq_getElem_cons hi]
    rw [show its.length-(k+1)+1=its.length-k by omega]
    rw [getD_get hi] at e1
    rw [e1]
    exact KatTups.cons e2 e3 e4 (by rw [ef];rfl) q1
   ·rcases List.mem_cons.mp hv with e|e
    ·rw [e];exact hf
    ·exact q3 v e
 obtain ⟨fs,q1,q2,q3⟩:=tups its.length (Nat.le_refl _)
 rw [Nat.sub_self,List.drop_zero] at q1
 unfold Asks
 refine kat_kind (s:={s with heap:=h1}) (T:=.type "int") q1 (by omega) (fun v hv=>?_) rfl ⟨rfl,fun i j C hi hj hc=>?_⟩
 ·obtain ⟨i,t,e⟩:=q3 v hv
  rw [e]
  exact Looks.of_pure rfl
 ·unfold kas_ask
  obtain ⟨x1,o1,us,n1,e1,g1,_,d1,a1⟩:=at_ i hi
  obtain ⟨x2,o2,vs,n2,e2,g2,_,d2,a2⟩:=at_ j hj
  rw [e1,e2]
  rw [rk_lt zE (show i<ts.length by omega) (show j<ts.length by omega)] at hc
  refine kat_lt (s:={s with heap:=h1}) g1 d1 g2 d2 (pT 0 a1 a2 ?_)
  rw [List.size_toArray,List.size_toArray,a1.length,a2.length,xj]
  exact hc
theorem wY {F:Hp} {d:Dat} {t:List Int} (h:tupD d=.ok t):d=tupZ t:=by
 cases d with
 |tup ds=>
  have:∀{ds:List Dat} {t:List Int},dj ds=.ok t->ds=t.map .int:=by
   intro ds
   induction ds with
   |nil=>intro t h;cases h;rfl
   |cons d ds ih=>
    intro t h
    cases d with
    |int i=>
     cases e:dj ds with
     |error x=>simp only [dj,asI,au,e,kM] at h;cases h
     |ok r=>
      simp only [dj,asI,au,e] at h
      cases h
      rw [ih e]
      rfl
    |_=>cases h
  unfold tupZ
  rw [this h]
 |_=>cases h
theorem A4:∀{ds:List Dat} {t:List Int},dj ds=.ok t->ds=t.map .int:=fun {ds t} h=>by
 have:=wY (F:=fun _=>none) (d:=.tup ds) (t:=t) h
 unfold tupZ at this
 injection this
theorem tZ:∀{ds:List Dat} {ts:List (List Int)},mG ds=.ok ts->ds=ts.map tupZ
 |[],_,h=>by cases h;rfl
 |d::ds,ts,h=>by
  cases e:tupD d with
  |error x=>simp only [mG,e,kM] at h;cases h
  |ok t=>
   cases e2:mG ds with
   |error x=>simp only [mG,e,au,e2,kM] at h;cases h
   |ok r=>
    simp only [mG,e,au,e2] at h
    cases h
    rw [wY (F:=fun _=>none) e,tZ e2]
    rfl
theorem u3:∀{ds:List Dat} {e:Err},mG ds=.error e->e=.stuck
 |[],_,h=>by cases h
 |d::ds,e,h=>by
  cases e1:tupD d with
  |error x=>
   simp only [mG,e1,kM] at h
   cases h
   cases d with
   |tup ds=>exact nQ e1
   |_=>cases e1;rfl
  |ok t=>
   cases e2:mG ds with
   |error x=>simp only [mG,e1,au,e2,kM] at h;cases h;exact u3 e2
   |ok r=>simp only [mG,e1,au,e2] at h;cases h
theorem xC (hK:X.K=K:=by rfl):tQ K W true X (.builtin "sorted") mV:=by
 subst hK
 intro pins s σ H xs us Q I rr h
 obtain ⟨F,d,x,s1,e,q,p⟩:=sF (fun ds=>by match ds with|[d]=>exact .inl ⟨d,rfl⟩|[]=>exact .inr rfl|a::b::c=>exact .inr (by cases a<;>rfl)) h
 subst e
 obtain ⟨u,rfl,ru⟩:=rr.one
 cases d with
 |lst ds=>
  obtain ⟨a,ys,e1,t,r⟩:=q
  subst e1
  cases ru
  have p':aL X.K W true F H (ua ds) Q:=p
  unfold ua at p'
  by_cases h64:ds.length<64
  ·rw [if_pos h64] at p'
   cases ei:dj ds with
   |ok is=>
    rw [ei] at p'
    have ed:=A4 ei
    subst ed
    refine xa ordZ (d0:=0) I s1 t r (by simpa using h64) (fun its rv h2 h1 kp=>?_) p'
    have e2:ys=is.map V.int:=lU r ei
    subst e2
    exact AS (intsAre_of rv) h2
   |error z=>
    rw [ei] at p'
    have p2:aL X.K W true F H ((mG ds).bind fun ts=>if (ts.all fun t=> !t.isEmpty)=true then .ok (.lst ((nM pQ ts).map tupZ)) else stk) Q:=p'
    cases et:mG ds with
    |error z2=>rw [et] at p2;have:=u3 et;subst this;exact aL.stuck p2
    |ok ts=>
     rw [et] at p2
     have ed:=tZ et
     subst ed
     have p3:aL X.K W true F H (if (ts.all fun t=> !t.isEmpty)=true then .ok (.lst ((nM pQ ts).map tupZ)) else stk) Q:=p2
     by_cases hne:(ts.all fun t=> !t.isEmpty)=true
     ·rw [if_pos hne] at p3
      exact xa zE (d0:=[]) I s1 t r (by simpa using h64) (fun its rv h2 h1 kp=>AR I s1 r hne rv h2 kp) p3
     ·rw [if_neg hne] at p3
      exact aL.stuck p3
  ·rw [if_neg h64] at p'
   exact aL.stuck p'
 |_=>exact aL.stuck p
end
end L2
namespace L2
open PySem PySem.Spec PyProof.Rows
noncomputable def cX (n d:Nat):Option Int->Nat
 |none=>d
 |some v=>if v<0 then (v+(n:Int)).toNat else min v.toNat n
noncomputable def Au {α:Type} (xs:List α) (lo hi:Option Int):List α:=(xs.drop (cX xs.length 0 lo)).take (cX xs.length xs.length hi-cX xs.length 0 lo)
noncomputable def xb:Dat->Option Int->Option Int->M Dat
 |.lst ds,lo,hi=>.ok (.lst (Au ds lo hi))
 |.tup ds,lo,hi=>if (decide (cX ds.length 0 lo=0)&&decide (cX ds.length ds.length hi=ds.length))=true then stk else .ok (.tup (Au ds lo hi))
 |_,_,_=>stk
noncomputable def pNone:ak->M (Option Int):=fun _=>.ok none
noncomputable def uk (f:ak->M Dat):ak->M (Option Int):=fun ρ=>(f ρ).bind fun d=>(asI d).bind fun i=>.ok (some i)
noncomputable def fSl (g:Dat->Option Int->Option Int->M Dat) (fa:ak->M Dat) (fl fu:ak->M (Option Int)):ak->M Dat:=fun ρ=>(fa ρ).bind fun a=>(fl ρ).bind fun l=>(fu ρ).bind fun u=>g a l u
section
variable {X:Cx} {K:PySem.W.Frag} {W:fm} {own ro:Bool} {e a b c d:Expr} {lo hi:Option Expr} {es:List Expr} {x y:Str} {pos p p2 p3 q r t u:Pos} {f fa fb fc fd' fk:ak->M Dat} {fl fu:ak->M (Option Int)} {OL O:List Nat}
noncomputable def tDO (K:PySem.W.Frag) (W:fm) (f:ak->M (Option Int)):TO:=fun σ H Q=>∃F ρ,oS K F σ ρ/\aU F H/\(match f ρ with
 |.ok o=>∀F' H',Step F H F' H'->Q o H'
 |.error e=>W.p e F H)
theorem yS {σ:St} {ρ:ak} {F H:Hp} {R:Option Int->Hp->Prop} (r:oS K F σ ρ) (s:aU F H) (hE:∀e,fl ρ=.error e->W.p e F H) (hO:∀o,fl ρ=.ok o->∀F1 H1,Step F H F1 H1->R o H1):tDO K W fl σ H R:=by
 refine ⟨F,ρ,r,s,?_⟩
 cases e:fl ρ with
 |ok d=>exact hO d e
 |error x=>exact hE x e
noncomputable abbrev DP (K:PySem.W.Frag) (W:fm) (X:Cx) (e:Option Expr) (f:ak->M (Option Int)):Prop:=PO X e (tDO K W f)
theorem PO.imp {t t':TO} (h:PO X lo t) (q:∀σ H Q,t' σ H Q->t σ H Q):PO X lo t':=fun pins s σ H Q I z=>h pins s σ H Q I (q σ H Q z)
theorem An:DP K W X none pNone:=po_none.imp fun σ H Q ⟨F,ρ,r,s,p⟩=>p F H (Step.refl s)
theorem Am (h:DE K W false X e f):DP K W X (some e) (uk f):=(po_some h).imp fun σ H Q ⟨F,ρ,r,s,p⟩=>by
 refine bA r s (fun e he=>?_) fun d hd v F1 H1 s1 q1=>?_
 ·have z:uk f ρ=.error e:=by unfold uk;rw [he];rfl
  rw [z] at p;exact p
 ·have z:uk f ρ=(asI d).bind fun i=>.ok (some i):=by unfold uk;rw [hd];rfl
  rw [z] at p
  cases d with
  |int i=>exact ⟨i,q1,p F1 H1 s1⟩
  |_=>exact (W.ns p).elim
noncomputable def rDS (K:PySem.W.Frag) (W:fm) (own:Bool) (g:Dat->Option Int->Option Int->M Dat):V->Option Int->Option Int->Hp->VK->Prop:=fun x lo hi H Q=>∃F a,aU F H/\cf K F a x/\aL K W own F H (g a lo hi) Q
theorem rd_sl {g:Dat->Option Int->Option Int->M Dat} {σ:St} {H:Hp} {Q:VK} (h:tD K W own (fSl g fa fl fu) σ H Q):tSl (rDS K W own g) (tD K W false fa) (tDO K W fl) (tDO K W fu) σ H Q:=by
 obtain ⟨F,ρ,r,s,p⟩:=h
 refine bA r s (fun e he=>p.err (by unfold fSl;rw [he];rfl)) fun a ha x F1 H1 s1 q1=>?_
 refine yS (r.mono s1.ff) s1.fh (fun e he=>(p.step s1).err (by unfold fSl;rw [ha];show (fl ρ).bind _=_;rw [he];rfl)) fun l hl F2 H2 s2=>?_
 refine yS ((r.mono s1.ff).mono s2.ff) s2.fh (fun e he=>(p.step (s1.trans s2)).err (by unfold fSl;rw [ha];show (fl ρ).bind _=_;rw [hl];show (fu ρ).bind _=_;rw [he];rfl)) fun u hu F3 H3 s3=>?_
 refine ⟨F3,a,s3.fh,cf.mono (s2.trans s3).ff q1,?_⟩
 have e:fSl g fa fl fu ρ=g a l u:=by unfold fSl;rw [ha];show (fl ρ).bind _=_;rw [hl];show (fu ρ).bind _=_;rw [hu];rfl
 rw [e] at p
 exact p.step ((s1.trans s2).trans s3)
theorem de_sl {g:Dat->Option Int->Option Int->M Dat} (hr:SlR X (rDS K W own g)) (ha:DE K W false X a fa) (hl:DP K W X lo fl) (hu:DP K W X hi fu):DE K W own X (.Subscript a (.Slice lo hi none p2) pos) (fSl g fa fl fu):=(pe_slice hr ha hl hu).imp fun _ _ _=>rd_sl
theorem xE (n d:Nat) (o:Option Int):cX n d o=HT.sIx n d o:=by cases o<;>rfl
theorem ax.cut {F:Hp} {ds:List Dat} {xs:List V} {l u:Option Int} (h:ax K F ds xs):ax K F (Au ds l u) (cutV xs l u):=by
 unfold Au cutV
 rw [xE,xE,h.length]
 exact ax.take _ (ax.drop _ h)
theorem x_sl (hK:X.K=K:=by rfl):SlR X (rDS K W true xb):=by
 subst hK
 intro pins s σ H x v vl vu lo hi sl Q I rx hs pl pu h
 refine (SlR.or sl_list sl_tup) pins s σ H x v vl vu lo hi sl Q I rx hs pl pu ?_
 obtain ⟨F,a,s1,qa,p⟩:=h
 cases a with
 |lst ds=>
  obtain ⟨l,xs,e,t,z⟩:=qa
  exact .inl ⟨l,xs,e,s1.lst t,fun r hr=>aL.lst p s1 z.cut hr⟩
 |tup ds=>
  obtain ⟨l,xs,e,t,z⟩:=qa
  have p':aL X.K W true F H (if (decide (cX ds.length 0 lo=0)&&decide (cX ds.length ds.length hi=ds.length))=true then stk else .ok (.tup (Au ds lo hi))) Q:=p
  by_cases hc:(decide (cX ds.length 0 lo=0)&&decide (cX ds.length ds.length hi=ds.length))=true
  ·rw [if_pos hc] at p';exact p'.stuck
  ·rw [if_neg hc] at p'
   refine .inr ⟨l,xs,e,s1.tup t,fun hw=>hc ?_,fun r hr=>aL.tup p' s1 z.cut hr⟩
   rw [xE,xE,<- z.length]
   simp only [Bool.and_eq_true,decide_eq_true_eq]
   exact hw
 |_=>exact aL.stuck p
end
section
variable {ρ:ak} {fa fb fc fd':ak->M Dat} {fl fu:ak->M (Option Int)}
@[simp] theorem e_pNone:pNone ρ=.ok none:=id rfl
@[simp] theorem e_pSome:uk fa ρ=(fa ρ).bind fun d=>(asI d).bind fun i=>.ok (some i):=id rfl
@[simp] theorem e_slF (k:Dat->Option Int->Option Int->M Dat):fSl k fa fl fu ρ=(fa ρ).bind fun a=>(fl ρ).bind fun l=>(fu ρ).bind fun u=>k a l u:=id rfl
@[simp] theorem e_sliceL (ds:List Dat) (lo hi:Option Int):xb (.lst ds) lo hi=.ok (.lst (Au ds lo hi)):=id rfl
@[simp] theorem e_pow {i j:Int} (h0:0<=j) (h1:j<=1000000) (h2:i.natAbs<2^64):powD (.int i) (.int j)=.ok (.int (i^j.toNat)):=by
 show (if (decide (0<=j)&&decide (j<=1000000)&&decide (i.natAbs<2^64))=true then _ else _)=_
 rw [if_pos (by simp only [Bool.and_eq_true,decide_eq_true_eq];exact ⟨⟨h0,h1⟩,h2⟩)]
@[simp] theorem e_eqII (i j:Int):eqM (.int i) (.int j)=.ok (.bl (decide (i=j))):=by
 show Except.ok (Dat.bl (i==j))=_
 rw [show (i==j)=decide (i=j) from rfl]
@[simp] theorem e_neII (i j:Int):neM (.int i) (.int j)=.ok (.bl (!decide (i=j))):=by
 show Except.ok (Dat.bl (!(i==j)))=_
 rw [show (i==j)=decide (i=j) from rfl]
@[simp] theorem cut_take {α:Type} (xs:List α) {j:Int} (h:0<=j):Au xs none (some j)=xs.take j.toNat:=by
 unfold Au cX
 simp only [if_neg (show ¬j<0 by omega),List.drop_zero,Nat.sub_zero]
 rcases Nat.le_total j.toNat xs.length with h1|h1
 ·rw [Nat.min_eq_left h1]
 ·rw [Nat.min_eq_right h1,List.take_length,List.take_of_length_le h1]
@[simp] theorem cut_drop {α:Type} (xs:List α) {j:Int} (h:0<=j):Au xs (some j) none=xs.drop j.toNat:=by
 unfold Au cX
 simp only [if_neg (show ¬j<0 by omega)]
 rcases Nat.le_total j.toNat xs.length with h1|h1
 ·rw [Nat.min_eq_left h1,List.take_of_length_le (by simp)]
 ·rw [Nat.min_eq_right h1,List.drop_of_length_le h1,List.drop_length];simp
end
end L2
namespace L2
open PySem PySem.Spec PyProof.Rows
section
variable {X:Cx} {K:PySem.W.Frag} {W:fm} {own ro:Bool} {e a b c d:Expr} {st:Option Expr} {te:TE} {tp:TO} {es:List Expr} {x y:Str} {pos p p2 p3 p4 q r t u:Pos} {f fa fb fc fk:ak->M Dat} {fp:ak->M (Option Int)} {OL O:List Nat}
end
end L2
namespace L2
open PySem PySem.Spec PyProof.Rows
noncomputable def tH (Cs:List Addr) (x:Str):Dat->M Dat
 |.ins C fs=>if Cs.contains C=true then (match fs.lookup x with
  |some d=>.ok d
  |none=>stk) else stk
 |_=>stk
noncomputable def isC (C:Addr) (m:Str):Dat->Bool
 |.ins D fs=>(D==C)&&(fs.lookup m).isNone
 |_=>false
noncomputable def oP (C:Addr) (m:Str) (g:List Dat->M Dat) (fo:ak->M Dat) (fr:ak->M (List Dat)):ak->M Dat:=fun ρ=>(fo ρ).bind fun o=>if isC C m o=true then (fr ρ).bind fun as=>g (o::as) else stk
noncomputable def j4 (C C2:Addr) (m:Str) (g g2:List Dat->M Dat) (fo:ak->M Dat) (fr:ak->M (List Dat)):ak->M Dat:=fun ρ=>(fo ρ).bind fun o=>if isC C m o=true then (fr ρ).bind fun as=>g (o::as) else if isC C2 m o=true then (fr ρ).bind fun as=>g2 (o::as) else stk
noncomputable def newR (C:Addr) (g:List Dat->M Dat):List Dat->M Dat
 |[d]=>(g [d]).bind fun r=>.ok (.ins C [("gaps",r)])
 |_=>stk
noncomputable def twoL:Dat->Dat->Bool
 |.lst xs,.lst ys=>decide (xs.length=ys.length)
 |_,_=>false
noncomputable def newP (C:Addr) (g:List Dat->M Dat):List Dat->M Dat
 |[d,e]=>(g [d]).bind fun r=>(g [e]).bind fun r2=>if twoL r r2=true then .ok (.ins C [("gaps",r),("beside",r2)]) else stk
 |_=>stk
noncomputable def sStk:ak->M Flo:=fun _=>stk
section
variable {X:Cx} {K:PySem.W.Frag} {W:fm} {own ro:Bool} {e o a b c d:Expr} {es:List Expr} {x y m:Str} {pos p p2 apos:Pos} {f fa fo:ak->M Dat} {fr:ak->M (List Dat)} {OL O O':List Nat} {C C2:Addr} {Cs:List Addr}
theorem ds_stk {st:Stmt}:DS K W ro X OL O O' st sStk:=fun F0 H0 pins s σ H D I h=>by
 obtain ⟨FB,F,ρ,r,p⟩:=h
 exact p.stuck rfl
theorem oj.at {F:Hp} {x:Str}:∀{gs:List (Str×Dat)} {fs:List (Str×V)},oj K F gs fs->(∀d,gs.lookup x=some d->∃v,fs.lookup x=some v/\cf K F d v)/\(gs.lookup x=none->fs.lookup x=none)
 |[],fs,h=>by cases (show fs=[] from h);exact ⟨fun d h=>by simp at h,fun _=>rfl⟩
 |(g,d)::gs,fs,h=>by
  obtain ⟨v,r,rfl,h1,h2⟩:=h
  have ih:=oj.at (x:=x) h2
  rw [List.lookup_cons,List.lookup_cons]
  cases e:x==g with
  |true=>exact ⟨fun d' h'=>by cases h';exact ⟨v,rfl,h1⟩,fun h'=>by cases h'⟩
  |false=>exact ih
theorem As (hC:∀C∈Cs,Cls K C/\lx K C y) (he:DE K W false X e fa) (hb:attributeBase e y X.env (eval e X.env)=eval e X.env:=by rfl) (hK:X.K=K:=by rfl):DE K W false X (.Attribute e y pos) (f1 (tH Cs y) fa):=by
 subst hK
 refine (zB he hb).imp fun σ H Q h=>?_
 obtain ⟨F,ρ,r,s,p⟩:=h
 refine bA r s (fun e he=>p.err (by unfold f1;rw [he];rfl)) fun a ha x F1 H1 s1 q1=>?_
 have ez:f1 (tH Cs y) fa ρ=tH Cs y a:=by unfold f1;rw [ha];rfl
 rw [ez] at p
 cases a with
 |ins C gs=>
  obtain ⟨l,dx,fs,e1,ea,df⟩:=q1
  have p':aL X.K W false F H (if Cs.contains C=true then (match gs.lookup y with
   |some d=>.ok d
   |none=>stk) else stk) Q:=p
  by_cases hc:Cs.contains C=true
  ·rw [if_pos hc] at p'
   obtain ⟨h1,h2⟩:=hC C (by simpa using hc)
   cases hl:gs.lookup y with
   |none=>rw [hl] at p';exact aL.stuck p'
   |some d=>
    rw [hl] at p'
    obtain ⟨v,hv,hd⟩:=df.at.1 d hl
    exact ⟨l,C,dx,fs,v,e1,s1.fh _ _ ea,h1,h2,hv,(p'.step s1) v F1 H1 (Step.refl s1.fh) hd⟩
  ·rw [if_neg hc] at p';exact aL.stuck p'
 |_=>exact aL.stuck p
theorem PE.or {t1 t2:TE} (h1:PE X e t1) (h2:PE X e t2):PE X e (fun σ H Q=>t1 σ H Q\/t2 σ H Q):=fun pins s σ H Q I h=>h.elim (h1 pins s σ H Q I) (h2 pins s σ H Q I)
theorem rd_meth {nN n:Nat} {g:ak->M Flo} {σ:St} {H:Hp} {Q:VK} (h:tD K Wno ro (oP C m (cw nN n g) fo fr) σ H Q):tMeth C m (spF K ro (cw nN n g) n) [] E0 (tD K Wno false fo) (tDA K Wno fr) σ H Q:=by
 obtain ⟨F,ρ,r,s,p⟩:=h
 refine bA r s (fun e he=>p.err (by unfold oP;rw [he];rfl)) fun o ho x F1 H1 s1 q1=>?_
 have ez:oP C m (cw nN n g) fo fr ρ=if isC C m o=true then (fr ρ).bind fun as=>cw nN n g (o::as) else stk:=by unfold oP;rw [ho];rfl
 rw [ez] at p
 by_cases hc:isC C m o=true
 ·rw [if_pos hc] at p
  cases o with
  |ins D gs=>
   obtain ⟨l,dx,fs,e1,ea,df⟩:=id q1
   have hc':((D==C)&&(gs.lookup m).isNone)=true:=hc
   rw [Bool.and_eq_true] at hc'
   obtain ⟨hD,hn⟩:=hc'
   have hD:D=C:=by simpa using hD
   subst hD
   refine ⟨l,dx,fs,e1,s1.fh _ _ ea,df.at.2 (by simpa using hn),?_⟩
   have p:=p.step s1
   refine mT (r.mono s1.ff) s1.fh (fun e he=>p.err (by rw [he];rfl)) fun as has vs F2 H2 s2 qs=>?_
   rw [has] at p
   have p:aL K Wno ro F1 H1 (cw nN n g (.ins D gs::as)) Q:=p
   have p:=p.step s2
   show spF K ro (cw nN n g) n (x::(vs++[])) H2 Q E0
   rw [List.append_nil]
   by_cases hl:(Dat.ins D gs::as).length=n
   ·exact ⟨F2,.ins D gs::as,s2.fh,⟨x,vs,rfl,cf.mono s2.ff q1,qs⟩,hl,p⟩
   ·rw [pz hl] at p
    exact aL.stuck p
  |_=>cases hc
 ·rw [if_neg hc] at p;exact aL.stuck p
theorem rd_meth2 {nN n nN2 n2:Nat} {g g2:ak->M Flo} {σ:St} {H:Hp} {Q:VK} (h:tD K Wno ro (j4 C C2 m (cw nN n g) (cw nN2 n2 g2) fo fr) σ H Q) :
  tD K Wno ro (oP C m (cw nN n g) fo fr) σ H Q\/tD K Wno ro (oP C2 m (cw nN2 n2 g2) fo fr) σ H Q:=by
 obtain ⟨F,ρ,r,s,p⟩:=h
 cases ho:fo ρ with
 |error e=>
  refine .inl ⟨F,ρ,r,s,?_⟩
  have e1:j4 C C2 m (cw nN n g) (cw nN2 n2 g2) fo fr ρ=.error e:=by unfold j4;rw [ho];rfl
  have e2:oP C m (cw nN n g) fo fr ρ=.error e:=by unfold oP;rw [ho];rfl
  rw [e1] at p;rw [e2];exact p
 |ok o=>
  have e1:j4 C C2 m (cw nN n g) (cw nN2 n2 g2) fo fr ρ=if isC C m o=true then (fr ρ).bind fun as=>cw nN n g (o::as) else if isC C2 m o=true then (fr ρ).bind fun as=>cw nN2 n2 g2 (o::as) else stk:=by unfold j4;rw [ho];rfl
  have e2:oP C m (cw nN n g) fo fr ρ=if isC C m o=true then (fr ρ).bind fun as=>cw nN n g (o::as) else stk:=by unfold oP;rw [ho];rfl
  have e3:oP C2 m (cw nN2 n2 g2) fo fr ρ=if isC C2 m o=true then (fr ρ).bind fun as=>cw nN2 n2 g2 (o::as) else stk:=by unfold oP;rw [ho];rfl
  rw [e1] at p
  by_cases hc:isC C m o=true
  ·rw [if_pos hc] at p e2
   exact .inl ⟨F,ρ,r,s,by rw [e2];exact p⟩
  ·rw [if_neg hc] at p
   exact .inr ⟨F,ρ,r,s,by rw [e3];exact p⟩
noncomputable def MethEq (X:Cx) (o:Expr) (m:Str) (apos:Pos) (es:List Expr) (pos:Pos) (pl:Sem Bool):Prop:=eval (.Call (.Attribute o m apos) es [] pos) X.env=(do let ov <- eval o X.env;standAt apos.atName;let (f,first) <- holding [ov] (getMethod ov m pl);callWith pos f first (backTo pos (starEach es X.env)) (backToKw pos (keywordEach [] X.env)))
section
variable {k nN n nN2 n2:Nat} {fad fad2:Addr} {fd fd2:FuncData} {ps:List Str} {g g2:ak->M Flo} {pl:Sem Bool}
theorem xh (c:Cls X.K C) (M:Meth X.K C m fad) (F:cD X.prog X.w X.K X.mg X.base CX0 k fad fd ps (spF X.K ro (cw nN n g) n)) (hr:l5 k X.A) (hb:Binds X.K fd ps []) (ho:DE X.K Wno false X o fo) (ha:DA X.K Wno X (e::es) fr)
  (hst:starEach (e::es) X.env=(false,eval e X.env)::starEach es X.env) (hpl:(backTo pos (starEach es X.env)).any (·.1)=false) (ht:MethEq X o m apos (e::es) pos pl):DE X.K Wno ro X (.Call (.Attribute o m apos) (e::es) [] pos) (oP C m (cw nN n g) fo fr):=
 (pe_meth (pl:=pl) ho c M F hr hb .nil vR ha hst hpl ht).imp fun _ _ _=>rd_meth
theorem xw {k2:Nat} {ps2:List Str} (c:Cls K C) (M:Meth K C m fad) (F:cD X.prog X.w X.K X.mg X.base CX0 k fad fd ps (spF K ro (cw nN n g) n)) (hr:l5 k X.A) (hb:Binds X.K fd ps [])
  (c2:Cls K C2) (M2:Meth K C2 m fad2) (F2:cD X.prog X.w X.K X.mg X.base CX0 k2 fad2 fd2 ps2 (spF K ro (cw nN2 n2 g2) n2)) (hr2:l5 k2 X.A) (hb2:Binds X.K fd2 ps2 []) (ho:DE K Wno false X o fo) (ha:DA K Wno X (e::es) fr)
  (hK:X.K=K:=by rfl) (hst:starEach (e::es) X.env=(false,eval e X.env)::starEach es X.env:=by rfl) (hpl:(backTo pos (starEach es X.env)).any (·.1)=false:=by rfl) (ht:MethEq X o m apos (e::es) pos pl:=by rfl) :
  DE K Wno ro X (.Call (.Attribute o m apos) (e::es) [] pos) (j4 C C2 m (cw nN n g) (cw nN2 n2 g2) fo fr):=by
 subst hK
 exact (PE.or (xh c M F hr hb ho ha hst hpl ht) (xh c2 M2 F2 hr2 hb2 ho ha hst hpl ht)).imp fun _ _ _=>rd_meth2
end
noncomputable def spI1 (K:PySem.W.Frag) (C:Addr) (g:List Dat->M Dat):Sp:=fun vs H Q _=>∃p dx v F d,vs=[.ref p,v]/\H p=some (.ins C dx [])/\F p=none/\aU F H/\cf K F d v/\(match g [d] with
 |.ok r=>∀w F' H',aU F F'->aU F' H'->F' p=none->(∀b o,F' b=some o->F b=some o\/H b=none)->(∀c o,H c=some o->c≠p->H' c=some o)->H' p=some (.ins C dx [("gaps",w)])->cf K F' r w->Q .non H'
 |.error e=>Wno.p e F H)
noncomputable def spI2 (K:PySem.W.Frag) (C:Addr) (g:List Dat->M Dat):Sp:=fun vs H Q _=>∃p dx v v2 F d d2,vs=[.ref p,v,v2]/\H p=some (.ins C dx [])/\F p=none/\aU F H/\cf K F d v/\cf K F d2 v2/\(match (g [d]).bind fun r=>(g [d2]).bind fun r2=>if twoL r r2=true then .ok (r,r2) else stk with
 |.ok (r,r2)=>∀w w2 F' H',aU F F'->aU F' H'->F' p=none->(∀b o,F' b=some o->F b=some o\/H b=none)->(∀c o,H c=some o->c≠p->H' c=some o)->H' p=some (.ins C dx [("gaps",w),("beside",w2)])->cf K F' r w->cf K F' r2 w2->Q .non H'
 |.error e=>Wno.p e F H)
theorem Step.born {F H F' H':Hp} {x dx:Addr} {fs:List (Str×V)} (s:aU F H) (hx:H x=none) (hdx:H dx=none) (hne:dx≠x) (h1:aU F F') (h2:aU F' H') (h3:F' x=none) (h4:∀b o,F' b=some o->F b=some o\/upd (upd H dx (.own x)) x (.ins C dx []) b=none)
  (h5:∀c o,upd (upd H dx (.own x)) x (.ins C dx []) c=some o->c≠x->H' c=some o) (h6:H' x=some (.ins C dx fs)):Step F H (upd F' x (.ins C dx fs)) H' where
 ff:=h1.trans (aU.upd h3)
 hh:=fun c o e=>by
  have hc:c≠x:=fun h=>by rw [h,hx] at e;cases e
  have hd:c≠dx:=fun h=>by rw [h,hdx] at e;cases e
  exact h5 c o (by rw [ar hc,ar hd];exact e) hc
 fh:=fun c o e=>by
  by_cases hc:c=x
  ·subst hc;rw [ao] at e;rw [h6];exact e
  ·rw [ar hc] at e;exact h2 _ _ e
 nw:=fun c o e=>by
  by_cases hc:c=x
  ·subst hc;exact .inr hx
  ·rw [ar hc] at e
   rcases h4 c o e with z|z
   ·exact .inl z
   ·refine .inr ?_
    by_cases hd:c=dx
    ·subst hd;exact hdx
    ·rw [ar hc,ar hd] at z;exact z
theorem de_newR {k:Nat} {fI:Addr} {fdI:FuncData} {g:List Dat->M Dat} {ps:List Str} (Mk':Mk X.K C fI) (FI:cD X.prog X.w X.K X.mg X.base CX0 k fI fdI ps (spI1 K C g)) (hr:l5 (k+1) X.A) (hm:X.mg x=some (.ref C)) (hb:Binds X.K fdI ps [])
  (ha:DA K Wno X [e] fr) (hg:Gl X x:=by rfl) (hdb:(x==("__debug__":Str))=false:=by decide) (hst:starEach [e] X.env=(false,eval e X.env)::starEach [] X.env:=by rfl) (hpl:(backTo pos (starEach [] X.env)).any (·.1)=false:=by rfl) :
  DE K Wno false X (.Call (.Name x p) [e] [] pos) (fL (newR C g) fr):=by
 refine PE.imp (zA Mk' FI hr hg hm hb .nil vR ha hdb hst hpl) fun σ H Q h=>?_
 obtain ⟨F,ρ,r,s,p⟩:=rd_L h
 refine ⟨F,ρ,r,s,?_⟩
 cases e1:fr ρ with
 |error z=>rw [e1] at p;exact p
 |ok ds=>
  rw [e1] at p
  intro vs F1 H1 st q
  obtain ⟨F2,es1,s1,q1,z⟩:=p vs F1 H1 st q
  rcases es1 with _|⟨d,_|⟨_,_⟩⟩
  ·exact aL.stuck z
  rotate_left
  ·exact aL.stuck z
  ·obtain ⟨v,vs',rfl,qd,hn⟩:=q1
   cases (show vs'=[] from hn)
   intro x dx hx hdx hne
   refine ⟨x,dx,v,F2,d,rfl,ao,s1.free hx,fun c o e=>?_,qd,?_⟩
   ·have hc:c≠x:=fun h=>by rw [h,s1.free hx] at e;cases e
    have hd:c≠dx:=fun h=>by rw [h,s1.free hdx] at e;cases e
    rw [ar hc,ar hd];exact s1 _ _ e
   ·have z:aL K Wno false F2 H1 ((g [d]).bind fun r=>.ok (.ins C [("gaps",r)])) Q:=z
    cases hgd:g [d] with
    |error e=>rw [hgd] at z;exact False.elim z
    |ok r=>
     rw [hgd] at z
     intro w F' H' h1 h2 h3 h4 h5 h6 h7
     refine ⟨rfl,z (.ref x) (upd F' x (.ins C dx [("gaps",w)])) H' (Step.born s1 hx hdx hne h1 h2 h3 h4 h5 h6) ?_⟩
     exact ⟨x,dx,_,rfl,ao,w,[],rfl,cf.mono (aU.upd h3) h7,rfl⟩
theorem de_newP {k:Nat} {fI:Addr} {fdI:FuncData} {g:List Dat->M Dat} {ps:List Str} (Mk':Mk X.K C fI) (FI:cD X.prog X.w X.K X.mg X.base CX0 k fI fdI ps (spI2 K C g)) (hr:l5 (k+1) X.A) (hm:X.mg x=some (.ref C)) (hb:Binds X.K fdI ps [])
  (ha:DA K Wno X [e,a] fr) (hg:Gl X x:=by rfl) (hdb:(x==("__debug__":Str))=false:=by decide) (hst:starEach [e,a] X.env=(false,eval e X.env)::starEach [a] X.env:=by rfl) (hpl:(backTo pos (starEach [a] X.env)).any (·.1)=false:=by rfl) :
  DE K Wno false X (.Call (.Name x p) [e,a] [] pos) (fL (newP C g) fr):=by
 refine PE.imp (zA Mk' FI hr hg hm hb .nil vR ha hdb hst hpl) fun σ H Q h=>?_
 obtain ⟨F,ρ,r,s,p⟩:=rd_L h
 refine ⟨F,ρ,r,s,?_⟩
 cases e1:fr ρ with
 |error z=>rw [e1] at p;exact p
 |ok ds=>
  rw [e1] at p
  intro vs F1 H1 st q
  obtain ⟨F2,es1,s1,q1,z⟩:=p vs F1 H1 st q
  rcases es1 with _|⟨d,_|⟨d2,_|⟨_,_⟩⟩⟩
  ·exact aL.stuck z
  ·exact aL.stuck z
  rotate_left
  ·exact aL.stuck z
  ·obtain ⟨v,vs',rfl,qd,v2,vs2,rfl,qd2,hn⟩:=q1
   cases (show vs2=[] from hn)
   intro x dx hx hdx hne
   refine ⟨x,dx,v,v2,F2,d,d2,rfl,ao,s1.free hx,fun c o e=>?_,qd,qd2,?_⟩
   ·have hc:c≠x:=fun h=>by rw [h,s1.free hx] at e;cases e
    have hd:c≠dx:=fun h=>by rw [h,s1.free hdx] at e;cases e
    rw [ar hc,ar hd];exact s1 _ _ e
   ·have z:aL K Wno false F2 H1 ((g [d]).bind fun r=>(g [d2]).bind fun r2=>if twoL r r2=true then .ok (.ins C [("gaps",r),("beside",r2)]) else stk) Q:=z
    cases hgd:g [d] with
    |error e=>rw [hgd] at z;exact False.elim z
    |ok r=>
     rw [hgd,au] at z
     cases hgd2:g [d2] with
     |error e=>rw [hgd2] at z;exact False.elim z
     |ok r2=>
      rw [hgd2,au] at z
      by_cases ht:twoL r r2=true
      ·rw [if_pos ht] at z
       rw [au,au,if_pos ht]
       intro w w2 F' H' h1 h2 h3 h4 h5 h6 h7 h8
       refine ⟨rfl,z (.ref x) (upd F' x (.ins C dx [("gaps",w),("beside",w2)])) H' (Step.born s1 hx hdx hne h1 h2 h3 h4 h5 h6) ?_⟩
       exact ⟨x,dx,_,rfl,ao,w,_,rfl,cf.mono (aU.upd h3) h7,w2,[],rfl,cf.mono (aU.upd h3) h8,rfl⟩
      ·rw [if_neg ht] at z;exact aL.stuck z
end
end L2
namespace L2
open PySem PySem.Spec PyProof.Rows
noncomputable def Itz (K:PySem.W.Frag) (a b:Addr):It:=
 ⟨fun i H=>∃xs ys x y,SqL K H a xs/\SqL K H b ys/\xs[i]? =some x/\ys[i]? =some y,fun i H v H'=>∃T x y,H T=none/\v=.ref T/\H'=upd H T (.tup [x,y])/\(∀xs,SqL K H a xs->xs[i]? =some x)/\∀ys,SqL K H b ys->ys[i]? =some y,fun i H=>∃xs ys,SqL K H a xs/\SqL K H b ys/\(xs.length<=i\/ys.length<=i)⟩
theorem s9:∀(ds es:List Dat) (i:Nat),(mF ds es)[i]? =(ds[i]?).bind fun d=>(es[i]?).map fun e=>.tup [d,e]
 |[],es,i=>by simp [mF]
 |d::ds,[],i=>by cases h:(d::ds)[i]?<;>simp [mF]
 |d::ds,e::es,0=>by simp [mF]
 |d::ds,e::es,i+1=>by rw [mF,List.getElem?_cons_succ,s9 ds es i,List.getElem?_cons_succ,List.getElem?_cons_succ]
theorem jX:∀(ds es:List Dat),(mF ds es).length=min ds.length es.length
 |[],es=>by simp [mF]
 |d::ds,[]=>by simp [mF]
 |d::ds,e::es=>by rw [mF,List.length_cons,jX ds es,List.length_cons,List.length_cons];omega
theorem iter_zip {K:PySem.W.Frag} {F:Hp} {a b:Addr} {xs ys:List V} {ds es:List Dat} (t:SqL K F a xs) (z:ax K F ds xs) (t2:SqL K F b ys) (z2:ax K F es ys):qZ K F (Itz K a b) (mF ds es) where
 go:=fun i F' H' s1 s2 hi=>by
  rw [jX] at hi
  exact ⟨xs,ys,xs[i]'(by rw [z.length];omega),ys[i]'(by rw [z2.length];omega),s2.lst (s1.lst t),s2.lst (s1.lst t2),List.getElem?_eq_getElem _,List.getElem?_eq_getElem _⟩
 yl:=fun i F' H' x H2 d s1 s2 hd hy=>by
  obtain ⟨T,x1,y1,hT,ex,eH,h1,h2⟩:=hy
  subst ex eH
  rw [s9] at hd
  cases hds:ds[i]? with
  |none=>rw [hds] at hd;cases hd
  |some d1=>
   cases hes:es[i]? with
   |none=>rw [hds,hes] at hd;cases hd
   |some d2=>
    rw [hds,hes] at hd
    simp at hd
    subst hd
    obtain ⟨v,e1,q⟩:=z.get hds
    obtain ⟨v2,e2,q2⟩:=z2.get hes
    have e3:=h1 xs (s2.lst (s1.lst t))
    have e4:=h2 ys (s2.lst (s1.lst t2))
    rw [e1] at e3
    rw [e2] at e4
    cases e3
    cases e4
    refine ⟨upd F' T (.tup [x1,y1]),Step.lay s2 hT,T,_,rfl,SqT.of ao,?_⟩
    exact ⟨x1,[y1],rfl,(q.mono s1).mono (aU.upd (s2.free hT)),y1,[],rfl,(q2.mono s1).mono (aU.upd (s2.free hT)),rfl⟩
 st:=fun F' H' s1 s2=>⟨xs,ys,s2.lst (s1.lst t),s2.lst (s1.lst t2),by rw [z.length,z2.length,jX];omega⟩
section
variable {X:Cx} {K:PySem.W.Frag} {W:fm} {own ro:Bool} {e a b c:Expr} {es:List Expr} {x:Str} {pos p:Pos} {f fa fb fc:ak->M Dat}
noncomputable def iZip (K:PySem.W.Frag) (ta tb:TE):TI:=fun σ H R=>ta σ H fun x H1=>tb σ H1 fun y H2=>∃a b,x=.ref a/\y=.ref b/\(∃xs,SqL K H2 a xs)/\(∃ys,SqL K H2 b ys)/\R (Itz K a b) H2
theorem ri_zip {σ:St} {H:Hp} {R:It->Hp->Prop} (h:iD K W (vo fa fb) σ H R):iZip K (tD K W false fa) (tD K W false fb) σ H R:=by
 obtain ⟨F,ρ,r,s,p⟩:=h
 refine bA r s (fun e he=>?_) fun d hd v F1 H1 s1 q1=>?_
 ·have z:vo fa fb ρ=.error e:=by unfold vo;rw [he];rfl
  rw [z] at p;exact p
 ·refine bA (r.mono s1.ff) s1.fh (fun e he=>?_) fun d2 hd2 v2 F2 H2 s2 q2=>?_
  ·have z:vo fa fb ρ=.error e:=by unfold vo;rw [hd,au,he];rfl
   rw [z] at p;exact W.mono p s1
  ·have z:vo fa fb ρ=(lq d).bind fun ds=>(lq d2).bind fun es=>.ok (mF ds es):=by unfold vo;rw [hd,au,hd2,au]
   rw [z] at p
   cases d with
   |lst ds=>
    cases d2 with
    |lst es=>
     obtain ⟨b,xs,e,t,zz⟩:=q1
     obtain ⟨b2,ys,e2,t2,zz2⟩:=q2
     have t':=s2.ff.lst t
     exact ⟨b,b2,e,e2,⟨xs,s2.fh.lst t'⟩,⟨ys,s2.fh.lst t2⟩,p _ F2 H2 (s1.trans s2) (iter_zip t' (zz.mono s2.ff) t2 zz2)⟩
    |_=>exact (W.ns p).elim
   |_=>exact (W.ns p).elim
end
end L2
namespace L2
open PySem PySem.Spec PyProof.Rows
noncomputable def Itd (hi:Int) (n:Nat):It:=⟨fun i _=>i<n,fun i H x H'=>H'=H/\x=.int (hi-i),fun i _=>n<=i⟩
theorem yL {P:Program} {w:World} {K:PySem.W.Frag} {tg:Expr} (it:Addr) (lo:Int) (n:Nat):Turn P w K tg (Itd lo n) [it] it (fun i h=>IsRangeIter h it (lo+(i:Nat)*(-1)) ((n:Int)-(i:Nat)) (-1)) where
 mem:=by simp
 obj:=fun i h st b hb=>by
  have e:b=it:=by simpa using hb
  subst e
  exact ⟨_,st,fun v z=>by
   have z':Data.fields _=Data.cell v:=z
   cases z'⟩
 keep:=fun i h h' st k=>k it (by simp) _ st
 item:=by
  intro X hP hw hK hc i pins s σ H E I hf st hg
  subst hP hw hK
  obtain ⟨f0,f1,f2,f3,f4,f5⟩:=hf it (by simp)
  have W:=Walks.range (prog:=X.prog) (w:=X.w) (I.ok.hd hc) it lo (-1) n
  refine W.item i s _ _ hg st fun v h' tk hv st' kk=>?_
  obtain ⟨t,rfl⟩:=hv
  have I1:Inv X pins σ H {s with heap:=h',toks:=tk}:=I.turned (fun b o hb e=>kk b o (by simpa using hb) e) f0 f1 f3 f4 f5
  refine ⟨_,rfl,go_of (s:={s with heap:=h',toks:=tk}) (n:="range_iterator") st' rfl rfl (by decide) ⟨.int (lo-i),H,I1,⟨t,?_⟩,⟨rfl,rfl⟩,st',fun b hb=>(hf b hb).1⟩⟩
  rw [show lo+(i:Int)*(-1)=lo-i by omega]
 done:=by
  intro X hP hw hK hc i pins s σ H E I hf st hg
  subst hP hw hK
  obtain ⟨f0,f1,f2,f3,f4,f5⟩:=hf it (by simp)
  exact wpAny_pyNext_range_end (I.ok.hd hc) st (by have:n<=i:=hg;omega) fun h' eb=>⟨rfl,I.turned (t':=s.toks) (fun b o hb e=>eb b o hb e) f0 f1 f3 f4 f5⟩
 self:=fun _ _ _ _ _ st h=>wpAny_pyIter_rangeiter st h
theorem rangeSize_down (a b:Int):Builtin.Range.rangeSize a b (-1)=if b<a then a-b else 0:=by
 unfold Builtin.Range.rangeSize
 simp only [show ¬(-1:Int)>0 by decide,if_false]
 by_cases h:b<a
 ·rw [if_pos h,if_pos h]
  simp
 ·rw [if_neg h,if_neg h]
theorem small_down {a b:Int} (ha: -(2^62)<=a) (ha':a<2^62) (hb: -(2^62)<=b) (hb':b<2^62):Builtin.Range.small a b (-1)=true:=by
 unfold Builtin.Range.small
 rw [rangeSize_down]
 simp only [Builtin.Range.rangeFitsLong,Bool.and_eq_true,Bool.or_eq_true,decide_eq_true_eq,beq_iff_eq,show ¬(-1:Int)>0 by decide,if_false]
 split<;>omega
section
variable {X:Cx} {tg:Expr}
theorem down_it {pins:List (Addr×Obj)} {σ:St} {H:Hp} {s:Shared} {R:It->Hp->Prop} {E:Value->Shared->Prop} {hi lo:Int} {t u v:Tok} {tk:Nat} (I:Inv X pins σ H s) (h1: -(2^62)<=hi) (h2:hi<2^62) (h3: -(2^62)<=lo) (h4:lo<2^62)
  (q:R (Itd hi (hi-lo).toNat) H):wpAny (model X.prog X.w) X.A (pyIter (.ref s.heap.objs.size)) (PIE X pins σ tg R) E {s with heap:=s.heap.push {cls:=.type "range",data:=.fields #[.int hi t,.int lo u,.int (-1) v]},toks:=tk}:=by
 refine wpAny_pyIter_range (IsRange.new ..) (small_down h1 h2 h3 h4) ?_
 have I1:Inv X pins σ H {s with heap:=s.heap.push {cls:=.type "range",data:=.fields #[.int hi t,.int lo u,.int (-1) v]},toks:=tk}:=I.kept fun b o e=>Heap.get?_push_of_some _ e
 refine ⟨(s.heap.push {cls:=.type "range",data:=.fields #[.int hi t,.int lo u,.int (-1) v]}).objs.size,[(s.heap.push {cls:=.type "range",data:=.fields #[.int hi t,.int lo u,.int (-1) v]}).objs.size],_,_,H,rfl,
  I1.kept (t':=tk) fun b o e=>Heap.get?_push_of_some _ e,yL _ hi (hi-lo).toNat,?_,fun b hb=>?_,q⟩
 ·have e1:hi+((0:Nat):Int)*(-1)=hi:=by simp
  have e2:(((hi-lo).toNat:Nat):Int)-((0:Nat):Int)=Builtin.Range.rangeSize hi lo (-1):=by rw [rangeSize_down];split<;>omega
  show IsRangeIter _ _ (hi+((0:Nat):Int)*(-1)) ((((hi-lo).toNat:Nat):Int)-((0:Nat):Int)) (-1)
  rw [e1,e2]
  exact Heap.get?_push_size _ rfl
 ·have e:b=(s.heap.push {cls:=.type "range",data:=.fields #[.int hi t,.int lo u,.int (-1) v]}).objs.size:=by simpa using hb
  subst e
  exact I1.fpOk (Nat.le_refl _) (I1.hok.fresh (Nat.le_refl _))
noncomputable def iRng3 (ta:TA):TI:=fun σ H R=>ta σ H fun vs H1=>∃i j:Int,vs=[.int i,.int j,.int (-1)]/\(-(2^62)<=i/\i<2^62/\ -(2^62)<=j/\j<2^62)/\R (Itd i (i-j).toNat) H1
theorem zt {a b c:Expr} {ta:TA} {p pos:Pos} (hg:Gl X "range") (hm:X.mg "range"=none) (ha:PA X [a,b,c] ta) (hs:starEach [a,b,c] X.env=[(false,eval a X.env),(false,eval b X.env),(false,eval c X.env)]:=by rfl) (hs2:starEach [b,c] X.env=[(false,eval b X.env),(false,eval c X.env)]:=by rfl) :
  PI X tg (.Call (.Name "range" p) [a,b,c] [] pos) (iRng3 ta):=by
 intro pins s σ H R I h
 refine Call_ (mK I hg hm boot_range (PyProof.Rows.callWith_type1 (thn (ha pos pins s σ H _ I h) fun us s1 ⟨vs,H1,I1,r1,q1⟩=>?_) (by rw [hs,hs2]) (by rw [hs2];rfl)))
 obtain ⟨i,j,e,⟨q1,q2,q3,q4⟩,q⟩:=q1
 subst e
 cases r1 with
 |cons r rr=>
  cases rr with
  |cons r' rr=>
   cases rr with
   |cons r'' rr=>
    cases rr
    obtain ⟨t,rfl⟩:=r
    obtain ⟨t',rfl⟩:=r'
    obtain ⟨t'',rfl⟩:=r''
    exact call_range_3 (by decide) (down_it I1 q1 q2 q3 q4 q) (Or.inl (PyProof.noPylong_small (by decide)))
end
noncomputable def mm (hi:Int) (n:Nat):List Dat:=(List.range n).map fun k:Nat=>Dat.int (hi-k)
theorem zZ {K:PySem.W.Frag} {F:Hp} {hi:Int} {n:Nat}:qZ K F (Itd hi n) (mm hi n) where
 go:=fun i F' H' s1 s2 hi=>by show i<n;simpa [mm] using hi
 yl:=fun i F' H' x H2 d s1 s2 hd hy=>by
  obtain ⟨e,hy⟩:=hy
  subst e hy
  unfold mm at hd
  rw [List.getElem?_map] at hd
  have hi:i<n:=by
   have:=(List.getElem?_eq_some_iff.mp (show ((List.range n).map fun k:Nat=>Dat.int (hi-k))[i]? =some d by rw [List.getElem?_map];exact hd)).1
   simpa using this
  rw [List.getElem?_range hi] at hd
  cases hd
  exact ⟨F',Step.refl s2,rfl⟩
 st:=fun F' H' s1 s2=>by show n<=_;simp [mm]
noncomputable def yx:List Dat->M (List Dat)
 |[.int i,.int j,.int c]=>if (decide (c= -1)&&aY i&&aY j)=true then .ok (mm i (i-j).toNat) else .error .stuck
 |_=>.error .stuck
section
variable {K:PySem.W.Frag} {W:fm} {own:Bool} {σ:St} {H:Hp} {Q:VK} {fa fb fc:ak->M Dat}
theorem ri_rng3 {fr:ak->M (List Dat)} {R:It->Hp->Prop} (h:iD K W (mL yx fr) σ H R):iRng3 (tDA K W fr) σ H R:=by
 obtain ⟨F,ρ,r,s,p⟩:=h
 refine mT r s (fun e he=>?_) fun ds hd xs F1 H1 s1 q1=>?_
 ·have z:mL yx fr ρ=.error e:=by unfold mL;rw [he];rfl
  rw [z] at p;exact p
 ·have z:mL yx fr ρ=yx ds:=by unfold mL;rw [hd];rfl
  rw [z] at p
  by_cases hds:∃i j c,ds=[.int i,.int j,.int c]
  ·obtain ⟨i,j,c,rfl⟩:=hds
   obtain ⟨v,vs,e,q,v2,vs2,e2,q2,v3,vs3,e3,q3,t⟩:=q1
   have p':match (if (decide (c= -1)&&aY i&&aY j)=true then Except.ok (mm i (i-j).toNat) else Except.error Err.stuck:M (List Dat)) with
    |.ok ds=>∀J F1 H1,Step F H F1 H1->qZ K F1 J ds->R J H1
    |.error e=>W.p e F H:=p
   by_cases hj:(decide (c= -1)&&aY i&&aY j)=true
   ·rw [if_pos hj] at p'
    unfold aY at hj
    simp only [Bool.and_eq_true,decide_eq_true_eq] at hj
    obtain ⟨⟨hc,hi⟩,hj⟩:=hj
    subst hc
    exact ⟨i,j,by rw [e,show v=.int i from q,e2,show v2=.int j from q2,e3,show v3=.int (-1) from q3,show vs3=[] from t],⟨hi.1,hi.2,hj.1,hj.2⟩,p' _ F1 H1 s1 zZ⟩
   ·rw [if_neg hj] at p'
    exact (W.ns p').elim
  ·have:yx ds=.error .stuck:=by
    unfold yx
    split
    ·exact absurd ⟨_,_,_,rfl⟩ hds
    ·rfl
   rw [this] at p
   exact (W.ns p).elim
end
section
variable {X:Cx} {K:PySem.W.Frag} {W:fm} {own ro:Bool} {e a b c:Expr} {es:List Expr} {x:Str} {pos p:Pos} {f fa fb fc:ak->M Dat} {fr:ak->M (List Dat)}
theorem Ao {tg:Expr} (hm:X.mg "range"=none) (ha:DA K W X [a,b,c] fr) (hg:Gl X "range":=by rfl) (hs:starEach [a,b,c] X.env=[(false,eval a X.env),(false,eval b X.env),(false,eval c X.env)]:=by rfl) (hs2:starEach [b,c] X.env=[(false,eval b X.env),(false,eval c X.env)]:=by rfl) :
  DI K W X tg (.Call (.Name "range" p) [a,b,c] [] pos) (mL yx fr):=(zt hg hm ha hs hs2).imp fun _ _ _=>ri_rng3
end
section
variable {ρ:ak}
@[simp] theorem xu {i j:Int} (h:aY i=true) (h2:aY j=true):yx [.int i,.int j,.int (-1)]=.ok (mm i (i-j).toNat):=by show (if (decide ((-1:Int)= -1)&&aY i&&aY j)=true then _ else _)=_;rw [h,h2];rfl
end
end L2
namespace L2
open PySem PySem.Spec PyProof.Rows
end L2
namespace L2
open PySem PySem.Spec PyProof.Rows
section
variable {X:Cx} {K:PySem.W.Frag} {W:fm} {own ro:Bool}
open Classical in
end
end L2
namespace L2
open PySem PySem.Spec PyProof.Rows
noncomputable abbrev ZRec (h:Heap) (z p q:Addr) (m k:Value):Prop:=h.get? z=some {cls:=.type "zip",dict:=none,data:=.fields #[m,k,.bool false,.ref p,.ref q],slots:=#[]}
structure Zs (z p q u v l m:Addr) (r k a b:Value) (i j:Nat) (xs ys:Array Value) (h:Heap):Prop where
 me:ZRec h z p q r k
 its:IsPair h p (.ref u) (.ref v)
 own:IsPair h q a b
 one:h.IsListIter u l i
 two:h.IsListIter v m j
 xl:h.IsList l xs
 yl:h.IsList m ys
noncomputable def Off (z q u v:Addr) (h h':Heap):Prop:=∀c o,c≠z->c≠q->c≠u->c≠v->h.get? c=some o->h'.get? c=some o
section
variable {z p q u v l m:Addr} {r k a b:Value} {i j n:Nat} {xs ys:Array Value} {h h' g:Heap}
theorem Off.refl:Off z q u v h h:=fun _ _ _ _ _ _ e=>e
theorem Off.then (A:Off z q u v h h') (B:Off z q u v h' g):Off z q u v h g:=fun c o a b d e x=>B c o a b d e (A c o a b d e x)
theorem Off.byZ (A:Heap.ExtBut z h h'):Off z q u v h h':=fun c o a _ _ _ x=>A c o a x
theorem Off.byQ (A:Heap.ExtBut q h h'):Off z q u v h h':=fun c o _ a _ _ x=>A c o a x
theorem Off.byU (A:Heap.ExtBut u h h'):Off z q u v h h':=fun c o _ _ a _ x=>A c o a x
theorem Off.byV (A:Heap.ExtBut v h h'):Off z q u v h h':=fun c o _ _ _ a x=>A c o a x
theorem Off.new {o:Obj}:Off z q u v h (h.push o):=fun _ _ _ _ _ _ x=>Heap.get?_push_of_some _ x
theorem Zs.atZ {r' k':Value} (D:ZipApart z p q u v l m) (Z:Zs z p q u v l m r k a b i j xs ys h) (A:Heap.ExtBut z h h') (e:ZRec h' z p q r' k'):Zs z p q u v l m r' k' a b i j xs ys h':=
 ⟨e,A _ _ D.TIz Z.its,A _ _ D.TOz Z.own,Z.one.extBut A D.i1z,Z.two.extBut A D.i2z,Z.xl.extBut A D.l1z,Z.yl.extBut A D.l2z⟩
theorem Zs.atQ {a' b':Value} (D:ZipApart z p q u v l m) (Z:Zs z p q u v l m r k a b i j xs ys h) (A:Heap.ExtBut q h h') (e:IsPair h' q a' b'):Zs z p q u v l m r k a' b' i j xs ys h':=
 ⟨A _ _ D.TOz.symm Z.me,A _ _ D.TITO Z.its,e,Z.one.extBut A D.TOi1.symm,Z.two.extBut A D.TOi2.symm,Z.xl.extBut A D.l1TO,Z.yl.extBut A D.l2TO⟩
theorem Zs.atU (D:ZipApart z p q u v l m) (Z:Zs z p q u v l m r k a b i j xs ys h) (A:Heap.ExtBut u h h') (e:h'.IsListIter u l n):Zs z p q u v l m r k a b n j xs ys h':=
 ⟨A _ _ D.i1z.symm Z.me,A _ _ D.TIi1 Z.its,A _ _ D.TOi1 Z.own,e,Z.two.extBut A D.i12.symm,Z.xl.extBut A D.l1i1,Z.yl.extBut A D.l2i1⟩
theorem Zs.atV (D:ZipApart z p q u v l m) (Z:Zs z p q u v l m r k a b i j xs ys h) (A:Heap.ExtBut v h h') (e:h'.IsListIter v m n):Zs z p q u v l m r k a b i n xs ys h':=
 ⟨A _ _ D.i2z.symm Z.me,A _ _ D.TIi2 Z.its,A _ _ D.TOi2 Z.own,Z.one.extBut A D.i12,e,Z.xl.extBut A D.l1i2,Z.yl.extBut A D.l2i2⟩
theorem Zs.new {o:Obj} (Z:Zs z p q u v l m r k a b i j xs ys h):Zs z p q u v l m r k a b i j xs ys (h.push o):=
 ⟨Heap.get?_push_of_some _ Z.me,Heap.get?_push_of_some _ Z.its,Heap.get?_push_of_some _ Z.own,Z.one.at fun _ e=>Heap.get?_push_of_some _ e,Z.two.at fun _ e=>Heap.get?_push_of_some _ e,Z.xl.push _,Z.yl.push _⟩
end
inductive Mem:Value->Prop
 |no:Mem .none
 |was (a:Int) (t:Tok):Mem (.int a t)
section
variable {P:Program} {w:World} {A:Around} {E:Value->Shared->Prop} {s:Shared} {z p q u v l m:Addr} {r k a b x y:Value} {i j:Nat} {xs ys:Array Value}
theorem yC {mark:Bool} {T:Bool->Shared->Prop} (D:ZipApart z p q u v l m) (hm:Mem r) (Z:Zs z p q u v l m r (.bool mark) a b i j xs ys s.heap)
  (yes:T true s) (no:∀h',Heap.ExtBut z s.heap h'->h'.objs.size=s.heap.objs.size->Zs z p q u v l m r (.bool true) a b i j xs ys h'->T false {s with heap:=h'}) :
  wpAny (model P w) A (Builtin.SmallTypes.ownedTupleIsFree (.ref z)) T E s:=by
 have f0:=Z.me
 refine wpAny_bind (wpAny_field f0 rfl (x:=r) rfl ?_)
 cases hm with
 |no=>exact wpAny_pure yes
 |was c t=>
  have alive:wpAny (model P w) A (loadIfAlive c.toNat) (fun o s'=>o=s.heap.get? c.toNat/\s'=s) E s:=fun _ _ _=>⟨rfl,rfl⟩
  refine wpAny_bind (wpAny_mono alive (fun o s' ho=>?_) fun _ _ z=>z)
  rw [ho.2,ho.1]
  cases s.heap.get? c.toNat with
  |none=>exact wpAny_pure yes
  |some o=>
   refine wpAny_bind (wpAny_field f0 rfl (x:=.bool mark) rfl ?_)
   cases mark
   ·exact wpAny_bind (wpAny_setField_rec f0 (show 1<5 by decide) fun h' e B=>wpAny_pure (no h' B.extBut B.1 (Z.atZ D B.extBut e)))
   ·exact wpAny_pure (no _ (fun _ _ _ e=>e) rfl Z)
theorem wQ {T:Value->Shared->Prop} (D:ZipApart z p q u v l m) (Z:Zs z p q u v l m r k a b i j xs ys s.heap) (hx:xs[i]? =some x)
  (go:∀h',Heap.ExtBut u s.heap h'->h'.objs.size=s.heap.objs.size->Zs z p q u v l m r k a b (i+1) j xs ys h'->T x {s with heap:=h'}):wpAny (model P w) A (Builtin.SmallTypes.nextOf (.ref u)) T E s:=
 wpAny_nextOf_list_item Z.one Z.xl hx fun h' e B=>go h' B.extBut B.1 (Z.atU D B.extBut e)
theorem zs_two {T:Value->Shared->Prop} (D:ZipApart z p q u v l m) (Z:Zs z p q u v l m r k a b i j xs ys s.heap) (hy:ys[j]? =some y)
  (go:∀h',Heap.ExtBut v s.heap h'->h'.objs.size=s.heap.objs.size->Zs z p q u v l m r k a b i (j+1) xs ys h'->T y {s with heap:=h'}):wpAny (model P w) A (Builtin.SmallTypes.nextOf (.ref v)) T E s:=
 wpAny_nextOf_list_item Z.two Z.yl hy fun h' e B=>go h' B.extBut B.1 (Z.atV D B.extBut e)
theorem yA {n:Nat} {T:Unit->Shared->Prop} (D:ZipApart z p q u v l m) (Z:Zs z p q u v l m r k a b i j xs ys s.heap) {a' b':Value} (hn:(#[a,b]:Array Value).setIfInBounds n x=#[a',b'])
  (go:∀h',Heap.ExtBut q s.heap h'->h'.objs.size=s.heap.objs.size->Zs z p q u v l m r k a' b' i j xs ys h'->T () {s with heap:=h'}):wpAny (model P w) A (updateSeq q (·.setIfInBounds n x)) T E s:=
 wpAny_updateSeq_pair Z.own fun h' e B=>go h' B.extBut B.1 (Z.atQ D B.extBut (by rw [hn] at e;exact e))
theorem wO {n:Nat} {c:Value} {T:Unit->Shared->Prop} (D:ZipApart z p q u v l m) (Z:Zs z p q u v l m r k a b i j xs ys s.heap) {r' k':Value} (hn:n<5)
  (he:(#[r,k,.bool false,.ref p,.ref q]:Array Value).setIfInBounds n c=#[r',k',.bool false,.ref p,.ref q])
  (go:∀h',Heap.ExtBut z s.heap h'->h'.objs.size=s.heap.objs.size->Zs z p q u v l m r' k' a b i j xs ys h'->T () {s with heap:=h'}):wpAny (model P w) A (setField (.ref z) n c) T E s:=
 wpAny_setField_rec Z.me hn fun h' e B=>go h' B.extBut B.1 (Z.atZ D B.extBut (by rw [he] at e;exact e))
theorem zs_gives {mark:Bool} {T:Value->Shared->Prop} (D:ZipApart z p q u v l m) (hm:Mem r) (Z:Zs z p q u v l m r (.bool mark) a b i j xs ys s.heap) (hx:xs[i]? =some x) (hy:ys[j]? =some y)
  (go:∀h' r' mark' a' b',Mem r'->Zs z p q u v l m r' (.bool mark') a' b' (i+1) (j+1) xs ys h'->IsPair h' s.heap.objs.size x y->Off z q u v s.heap h'->T (.ref s.heap.objs.size) {s with heap:=h'}) :
  wpAny (model P w) A (Builtin.«zip.__next__» ⟨[.ref z],[]⟩) (fun f s'=>∃c,f=.done (.ret c)/\T c s') E s:=by
 have look:∀{n:Nat} {c:Value} {T':Value->Shared->Prop} {s':Shared} {r k a b:Value} {i j:Nat},Zs z p q u v l m r k a b i j xs ys s'.heap->(#[r,k,.bool false,.ref p,.ref q]:Array Value)[n]? =some c->T' c s'->wpAny (model P w) A (field (.ref z) n) T' E s':=
  fun Z e t=>wpAny_field Z.me rfl e t
 refine wpAny_bind (show wpAny _ _ (pure (Value.ref z,([]:List Value))) _ _ _ from wpAny_pure ?_)
 refine wpAny_bind (look Z (n:=2) rfl (wpAny_bind (look Z (n:=3) rfl (wpAny_bind (wpAny_seqItems Z.its rfl ?_)))))
 refine wpAny_bind (yC D hm Z ?_ fun g0 B0 e0 Z0=>?_)
 ·rw [if_pos rfl]
  refine wpAny_bind (wpAny_rule (wpAny_bind (look Z (n:=4) rfl (wpAny_bind (wO D Z (n:=0) (by decide) rfl fun g1 B1 e1 Z1=>?_)))))
  refine wpAny_bind ?_
  simp only [List.zipIdx,List.forIn_cons,List.forIn_nil]
  refine wpAny_bind (wpAny_bind (wpAny_onRaise (wpAny_bind (wQ D Z1 hx fun g2 B2 e2 Z2=>wpAny_pure ?_))))
  refine wpAny_bind (wpAny_seqItems Z2.own rfl (wpAny_bind (yA D Z2 (n:=0) rfl fun g3 B3 e3 Z3=>wpAny_bind (wpAny_letGo (wpAny_pure ?_)))))
  refine wpAny_bind (wpAny_bind (wpAny_onRaise (wpAny_bind (zs_two D Z3 hy fun g4 B4 e4 Z4=>wpAny_pure ?_))))
  refine wpAny_bind (wpAny_seqItems Z4.own rfl (wpAny_bind (yA D Z4 (n:=1) rfl fun g5 B5 e5 Z5=>wpAny_bind (wpAny_letGo (wpAny_pure (wpAny_pure ?_))))))
  refine wpAny_bind (wpAny_seqItems Z5.own rfl (wpAny_bind (wpAny_newTuple ?_)))
  have size:g5.objs.size=s.heap.objs.size:=e5.trans (e4.trans (e3.trans (e2.trans e1)))
  have lt:z<g5.objs.size:=Heap.lt_size Z5.me
  refine wpAny_bind (wpAny_bind (wO D Z5.new (n:=0) (by decide) rfl fun g6 B6 e6 Z6=>wO D Z6 (n:=1) (by decide) rfl fun g7 B7 e7 Z7=>?_))
  refine wpAny_pure (Exists.intro _ ⟨rfl,?_⟩)
  have pair:IsPair g7 g5.objs.size x y:=B7 _ _ (Nat.ne_of_gt lt) (B6 _ _ (Nat.ne_of_gt lt) (Heap.get?_push_size _ rfl))
  have off:Off z q u v s.heap g7:=(Off.byZ B1).then ((Off.byU B2).then ((Off.byQ B3).then ((Off.byV B4).then ((Off.byQ B5).then (Off.new.then ((Off.byZ B6).then (Off.byZ B7)))))))
  show T (.ref g5.objs.size) _
  rw [size] at pair ⊢
  exact go g7 _ _ _ _ (Mem.was _ _) Z7 pair off
 ·rw [if_neg (by decide)]
  refine wpAny_bind ?_
  simp only [List.forIn_toArray,List.forIn_cons,List.forIn_nil]
  refine wpAny_bind (wpAny_bind (wpAny_holding (wpAny_bind (wQ D Z0 hx fun g2 B2 e2 Z2=>wpAny_pure (wpAny_pure ?_)))))
  refine wpAny_bind (wpAny_bind (wpAny_holding (wpAny_bind (zs_two D Z2 hy fun g4 B4 e4 Z4=>wpAny_pure (wpAny_pure (wpAny_pure ?_))))))
  refine wpAny_bind (wpAny_newTuple (hsz:=by show 2<=sizeLine;decide) (wpAny_pure ⟨_,rfl,?_⟩))
  have size:g4.objs.size=s.heap.objs.size:=e4.trans (e2.trans e0)
  have pair:IsPair (g4.push {cls:=.type "tuple",data:=.seq #[x,y]}) g4.objs.size x y:=Heap.get?_push_size _ rfl
  show T (.ref g4.objs.size) _
  rw [size] at pair ⊢
  exact go _ _ _ _ _ hm Z4.new pair ((Off.byZ B0).then ((Off.byU B2).then ((Off.byV B4).then Off.new)))
theorem yB {c:Addr} {T:Unit->Shared->Prop} (me:ZRec s.heap z p q r k) (ho:∃o,s.heap.get? c=some o/\o.cls=.type "StopIteration")
  (go:∀h',Heap.ExtBut z s.heap h'->(∃o,h'.get? c=some o/\o.cls=.type "StopIteration")->T () {s with heap:=h'}):wpAny (model P w) A (setField (.ref z) 0 .none) T E s:=by
 obtain ⟨o,e,t⟩:=ho
 have ne:c≠z:=by
  intro same
  have both:=e.symm.trans (same▸me)
  rw [Option.some.inj both] at t
  exact absurd t (by simp)
 exact wpAny_setField_rec me (show 0<5 by decide) fun h' _ B=>go h' B.extBut ⟨o,B.extBut _ _ ne e,t⟩
theorem zs_ends {mark:Bool} {T:Fin->Shared->Prop} (hh:A.handled=none) (D:ZipApart z p q u v l m) (hm:Mem r) (Z:Zs z p q u v l m r (.bool mark) a b i j xs ys s.heap) (short:xs[i]? =none\/ys[j]? =none)
  (go:∀h' c,Off z q u v s.heap h'->(∃o,h'.get? c=some o/\o.cls=.type "StopIteration")->E (.ref c) {s with heap:=h'}) :
  wpAny (model P w) A (Builtin.«zip.__next__» ⟨[.ref z],[]⟩) T E s:=by
 refine wpAny_bind (show wpAny _ _ (pure (Value.ref z,([]:List Value))) _ _ _ from wpAny_pure ?_)
 refine wpAny_bind (wpAny_field Z.me rfl (i:=2) rfl (wpAny_bind (wpAny_field Z.me rfl (i:=3) rfl (wpAny_bind (wpAny_seqItems Z.its rfl ?_)))))
 refine wpAny_bind (yC D hm Z ?_ fun g0 B0 e0 Z0=>?_)
 ·rw [if_pos rfl]
  refine wpAny_bind (wpAny_rule (wpAny_bind (wpAny_field Z.me rfl (i:=4) rfl (wpAny_bind (wO D Z (n:=0) (by decide) rfl fun g1 B1 e1 Z1=>?_)))))
  refine wpAny_bind ?_
  simp only [List.zipIdx,List.forIn_cons,List.forIn_nil]
  cases hx:xs[i]? with
  |none=>
   refine wpAny_bind (wpAny_bind (wpAny_onRaise (wpAny_bind (wpAny_nextOf_list_end hh Z1.one Z1.xl hx fun g2 c B2 ho=>?_))))
   exact yB (B2 _ _ D.i1z.symm Z1.me) ho fun g3 B3 ho3=>go g3 c ((Off.byZ B1).then ((Off.byU B2).then (Off.byZ B3))) ho3
  |some x=>
   have hy:ys[j]? =none:=short.resolve_left (by rw [hx];exact fun h=>nomatch h)
   refine wpAny_bind (wpAny_bind (wpAny_onRaise (wpAny_bind (wQ D Z1 hx fun g2 B2 e2 Z2=>wpAny_pure ?_))))
   refine wpAny_bind (wpAny_seqItems Z2.own rfl (wpAny_bind (yA D Z2 (n:=0) rfl fun g3 B3 e3 Z3=>wpAny_bind (wpAny_letGo (wpAny_pure ?_)))))
   refine wpAny_bind (wpAny_bind (wpAny_onRaise (wpAny_bind (wpAny_nextOf_list_end hh Z3.two Z3.yl hy fun g4 c B4 ho=>?_))))
   exact yB (B4 _ _ D.i2z.symm Z3.me) ho fun g5 B5 ho5=>go g5 c ((Off.byZ B1).then ((Off.byU B2).then ((Off.byQ B3).then ((Off.byV B4).then (Off.byZ B5))))) ho5
 ·rw [if_neg (by decide)]
  refine wpAny_bind ?_
  simp only [List.forIn_toArray,List.forIn_cons,List.forIn_nil]
  cases hx:xs[i]? with
  |none=>exact wpAny_bind (wpAny_bind (wpAny_holding (wpAny_bind (wpAny_nextOf_list_end hh Z0.one Z0.xl hx fun g2 c B2 ho=>go g2 c ((Off.byZ B0).then (Off.byU B2)) ho))))
  |some x=>
   have hy:ys[j]? =none:=short.resolve_left (by rw [hx];exact fun h=>nomatch h)
   refine wpAny_bind (wpAny_bind (wpAny_holding (wpAny_bind (wQ D Z0 hx fun g2 B2 e2 Z2=>wpAny_pure (wpAny_pure ?_)))))
   exact wpAny_bind (wpAny_bind (wpAny_holding (wpAny_bind (wpAny_nextOf_list_end hh Z2.two Z2.yl hy fun g4 c B4 ho=>go g4 c ((Off.byZ B0).then ((Off.byU B2).then (Off.byV B4))) ho))))
theorem wR {mark:Bool} {T:Option Value->Shared->Prop} (D:ZipApart z p q u v l m) (hm:Mem r) (Z:Zs z p q u v l m r (.bool mark) a b i j xs ys s.heap) (hx:xs[i]? =some x) (hy:ys[j]? =some y)
  (go:∀h' r' mark' a' b',Mem r'->Zs z p q u v l m r' (.bool mark') a' b' (i+1) (j+1) xs ys h'->IsPair h' s.heap.objs.size x y->Off z q u v s.heap h'->T (some (.ref s.heap.objs.size)) {s with heap:=h'}) :
  wpAny (model P w) A (pyNext (.ref z)) T E s:=by
 have ty:s.TypeIs (.ref z) "zip":=⟨_,Z.me,rfl⟩
 have run:=zs_gives (P:=P) (w:=w) (A:=A.in1) (E:=fun _ _=>False) (T:=fun c s'=>T (some c) s') D hm Z hx hy go
 unfold pyNext
 refine wpAny_bind (wpAny_attempt (wpAny_callSpecial?_slot (name:=Str.ofString "__next__") ty F.slot_zip_next ?_))
 refine wpAny_call_entry F.slot_zip_next ty F.entry_zip_next (wpAny_mono run (fun f s' h=>?_) fun _ _ h=>h.elim) (F.args_zip_next_1 _)
 obtain ⟨c,e,h⟩:=h
 exact ⟨c,e,wpAny_pure h⟩
theorem yD {mark:Bool} {T:Option Value->Shared->Prop} (hh:A.handled=none) (D:ZipApart z p q u v l m) (hm:Mem r) (Z:Zs z p q u v l m r (.bool mark) a b i j xs ys s.heap) (short:xs[i]? =none\/ys[j]? =none)
  (go:∀h',Off z q u v s.heap h'->T none {s with heap:=h'}):wpAny (model P w) A (pyNext (.ref z)) T E s:=by
 have ty:s.TypeIs (.ref z) "zip":=⟨_,Z.me,rfl⟩
 unfold pyNext
 refine wpAny_bind (wpAny_attempt (wpAny_callSpecial?_slot (name:=Str.ofString "__next__") ty F.slot_zip_next ?_))
 refine wpAny_call_entry F.slot_zip_next ty F.entry_zip_next (zs_ends hh D hm Z short fun h' c off ⟨o,e,t⟩=>?_) (F.args_zip_next_1 _)
 exact wpAny_bind (wpAny_isInstance (T:="StopIteration") (b:=true) ⟨o,e,t⟩ isSubtype_stop (wpAny_pure (go h' off)))
end
noncomputable def yv (z p q u v l m:Addr) (i:Nat) (h:Heap):Prop:=∃r mark a b,Mem r/\ZRec h z p q r (.bool mark)/\IsPair h p (.ref u) (.ref v)/\IsPair h q a b/\h.IsListIter u l i/\h.IsListIter v m i
theorem tY {P:Program} {w:World} {K:PySem.W.Frag} {nm:Str} {pos:Pos} {z p q u v l m:Addr} (D:ZipApart z p q u v l m):Turn P w K (.Name nm pos) (Itz K l m) [z,p,q,u,v] z (yv z p q u v l m) where
 mem:=List.mem_cons_self
 obj:=fun i h ⟨_,_,_,_,_,me,its,own,⟨o1,e1,_,d1⟩,⟨o2,e2,_,d2⟩⟩ c hc=>by
  simp only [List.mem_cons,List.not_mem_nil,or_false] at hc
  rcases hc with e|e|e|e|e<;>subst e
  ·exact ⟨_,me,fun _ t=>nomatch t⟩
  ·exact ⟨_,its,fun _ t=>nomatch t⟩
  ·exact ⟨_,own,fun _ t=>nomatch t⟩
  ·exact ⟨o1,e1,fun _ t=>by rw [d1] at t;cases t⟩
  ·exact ⟨o2,e2,fun _ t=>by rw [d2] at t;cases t⟩
 keep:=fun i h h' ⟨r,mark,a,b,hm,me,its,own,one,two⟩ kk=>
  ⟨r,mark,a,b,hm,kk z (by simp) _ me,kk p (by simp) _ its,kk q (by simp) _ own,one.at fun o x=>kk u (by simp) o x,two.at fun o x=>kk v (by simp) o x⟩
 item:=by
  rintro X rfl rfl rfl calm i pins s σ H E I hf ⟨r,mark,a,b,hm,me,its,own,one,two⟩ ⟨xs,ys,x,y,hx,hy,gx,gy⟩
  obtain ⟨vs,rx,px,_⟩:=I.list hx
  obtain ⟨ws,ry,py,_⟩:=I.list hy
  obtain ⟨c,hc,rc⟩:=rx.get gx
  obtain ⟨d,hd,rd⟩:=ry.get gy
  refine wR D hm ⟨me,its,own,one,two,px.isList,py.isList⟩ (x:=c) (y:=d) (by simpa using hc) (by simpa using hd) fun h' r' mark' a' b' hm' Z pair off=>⟨_,rfl,wpAny_pure ?_⟩
  have low:∀e∈[z,p,q,u,v],e<s.heap.objs.size:=by
   simp only [List.mem_cons,List.not_mem_nil,or_false]
   rintro e (rfl|rfl|rfl|rfl|rfl)
   ·exact Heap.lt_size me
   ·exact Heap.lt_size its
   ·exact Heap.lt_size own
   ·exact one.elim fun _ t=>Heap.lt_size t.1
   ·exact two.elim fun _ t=>Heap.lt_size t.1
  have I':Inv X pins σ (upd H s.heap.objs.size (.tup [x,y])) {s with heap:=h',toks:=s.toks}:=I.vE (ch:=[z,p,q,u,v]) hf (fun e o he t=>by
    simp only [List.mem_cons,List.not_mem_nil,or_false,not_or] at he
    exact off e o he.1 he.2.2.1 he.2.2.2.1 he.2.2.2.2 t) (Nat.le_refl _) ⟨by show 2<=sizeLine;decide,[c,d],.cons rc (.cons rd .nil),⟨_,pair,rfl,0,rfl⟩⟩
  refine ⟨.ref s.heap.objs.size,_,I',rfl,⟨_,x,y,I.hok.fresh (Nat.le_refl _),rfl,rfl,fun _ t=>by rw [I.pB t hx];exact gx,fun _ t=>by rw [I.pB t hy];exact gy⟩,⟨r',mark',a',b',hm',Z.me,Z.its,Z.own,Z.one,Z.two⟩,fun e he=>?_⟩
  rw [ar (Nat.ne_of_lt (low e he))]
  exact (hf e he).1
 done:=by
  rintro X rfl rfl rfl calm i pins s σ H E I hf ⟨r,mark,a,b,hm,me,its,own,one,two⟩ ⟨xs,ys,hx,hy,short⟩
  obtain ⟨vs,rx,px,_⟩:=I.list hx
  obtain ⟨ws,ry,py,_⟩:=I.list hy
  have nx:=rx.length
  have ny:=ry.length
  refine yD (I.ok.hd calm) D hm ⟨me,its,own,one,two,px.isList,py.isList⟩ (short.imp (fun t=>Array.getElem?_eq_none (by simp;omega)) fun t=>Array.getElem?_eq_none (by simp;omega)) fun h' off=>⟨rfl,I.vF (t':=s.toks) (ch:=[z,p,q,u,v]) hf fun e o he t=>?_⟩
  simp only [List.mem_cons,List.not_mem_nil,or_false,not_or] at he
  exact off e o he.1 he.2.2.1 he.2.2.2.1 he.2.2.2.2 t
 self:=fun A i s Q E ⟨r,mark,a,b,_,me,_⟩ h=>by
  have ty:s.TypeIs (.ref z) "zip":=⟨_,me,rfl⟩
  refine wpAny_pyIter_slot ty F.slot_zip_iter (wpAny_call_entry F.slot_zip_iter ty F.entry_zip_iter ?_ (F.args_zip_iter_1 _))
  refine wpAny_pure (a:=Fin.done (.ret (.ref z))) ?_
  exact ⟨_,rfl,"zip",_,ty,F.slot_zip_next.lookup,h⟩
section
variable {X:Cx} {K:PySem.W.Frag} {W:fm} {a b:Expr} {pos p:Pos} {fa fb:ak->M Dat}
theorem pi_zipN {nm:Str} {q:Pos} {ta tb:TE} (hg:Gl X "zip") (hm:X.mg "zip"=none) (ha:PE X a ta) (hb:PE X b tb) (hs:starEach [a,b] X.env=[(false,eval a X.env),(false,eval b X.env)]) (hs2:starEach [b] X.env=[(false,eval b X.env)]) :
  PI X (.Name nm q) (.Call (.Name "zip" p) [a,b] [] pos) (iZip X.K ta tb):=by
 intro pins s σ H R I h
 have both:PA X [a,b] (oz ta (oz tb tNil)):=aX ha (aX hb eF hs2) (by rw [hs,hs2])
 have args:=both pos pins s σ H (fun vs H1=>match vs with|[x,y]=>∃c d,x=.ref c/\y=.ref d/\(∃xs,SqL X.K H1 c xs)/\(∃ys,SqL X.K H1 d ys)/\R (Itz X.K c d) H1|_=>False) I h
 refine Call_ (mK I hg hm boot_zip (PyProof.Rows.callWith_type1 (thn args fun us s1 ⟨vs,H1,I1,r1,q1⟩=>?_) (by rw [hs,hs2]) (by rw [hs2];rfl)))
 match vs,r1,q1 with
 |[x,y],r1,⟨c,d,ec,ed,⟨xs,hx⟩,⟨ys,hy⟩,go⟩=>
  subst ec ed
  obtain ⟨_,_,rfl,rc,rd⟩:=r1.two
  cases rc
  cases rd
  obtain ⟨vs,rx,px,_⟩:=I1.list hx
  obtain ⟨ws,ry,py,_⟩:=I1.list hy
  have lc:c<s1.heap.objs.size:=px.isList.elim fun _ t=>Heap.lt_size t.1
  have ld:d<s1.heap.objs.size:=py.isList.elim fun _ t=>Heap.lt_size t.1
  refine call_zip_2 px.isList py.isList fun h' me its own one two _ old=>wpAny_pyIter_zip me ?_
  have new:∀e∈[s1.heap.objs.size+4,s1.heap.objs.size+2,s1.heap.objs.size+3,s1.heap.objs.size,s1.heap.objs.size+1],s1.heap.objs.size<=e:=by
   simp only [List.mem_cons,List.not_mem_nil,or_false]
   rintro e (rfl|rfl|rfl|rfl|rfl)<;>omega
  exact ⟨_,_,_,_,H1,rfl,I1.kept (t':=s1.toks) old,tY (zipApart_new lc ld),⟨_,_,_,_,Mem.no,me,its,own,one,two⟩,fun e he=>I1.fpOk (new e he) (I1.hok.fresh (new e he)),go⟩
theorem di_zipN {nm:Str} {q:Pos} (hm:X.mg "zip"=none) (ha:DE K W false X a fa) (hb:DE K W false X b fb) (hg:Gl X "zip":=by rfl) (hs:starEach [a,b] X.env=[(false,eval a X.env),(false,eval b X.env)]:=by rfl) (hs2:starEach [b] X.env=[(false,eval b X.env)]:=by rfl) (hK:X.K=K:=by rfl) :
  DI K W X (.Name nm q) (.Call (.Name "zip" p) [a,b] [] pos) (vo fa fb):=by
 subst hK
 exact (pi_zipN hg hm ha hb hs hs2).imp fun _ _ _=>ri_zip
end
end L2
namespace L2
open PySem PySem.Spec PyProof.Rows
inductive wM:Hp->List (V×V)->List V->Hp->Prop
 |nil {G:Hp}:wM G [] [] G
 |cons {G G':Hp} {T:Addr} {x y:V} {ps:List (V×V)} {vs:List V}:G T=none->wM (upd G T (.tup [x,y])) ps vs G'->wM G ((x,y)::ps) (.ref T::vs) G'
theorem upd_swap {G:Hp} {a b:Addr} {o o':HO} (h:a≠b):upd (upd G a o) b o'=upd (upd G b o') a o:=by
 funext c
 by_cases e:c=a
 ·subst e;rw [ao,ar h,ao]
 ·by_cases e2:c=b
  ·subst e2;rw [ao,ar e,ao]
  ·rw [ar e2,ar e,ar e,ar e2]
theorem nB {G:Hp} {a:Addr} {o o':HO}:upd (upd G a o) a o'=upd G a o':=by
 funext c
 by_cases e:c=a
 ·subst e;rw [ao,ao]
 ·rw [ar e,ar e,ar e]
section
variable {X:Cx} {pins:List (Addr×Obj)} {σ:St} {R:Result->Shared->Prop} {A:Around} {z p q u v l m S:Addr} {res:Value} {xs ys:List V}
theorem zip_loop (hh:A.handled=none) (D:ZipApart z p q u v l m) (hS:S∉[z,p,q,u,v]) :
  ∀(ps:List (V×V)) (i:Nat) (s:Shared) (G:Hp) (acc:List V),(xs.zip ys).drop i=ps->Inv X pins σ (upd G S (.lst acc)) s->G S=none->(∀b∈[z,p,q,u,v],wN X pins (upd G S (.lst acc)) b)->yv z p q u v l m i s.heap ->
   SqL X.K G l xs->SqL X.K G m ys->acc.length+ps.length<=sizeLine ->
   (∀vs G' s',wM G ps vs G'->G' S=none->Inv X pins σ (upd G' S (.lst (acc++vs))) s'->R (.ok (.ret res)) s') ->
   codeAny (model X.prog X.w) A (.builtin "list.extend.loop" ⟨[.ref S,.ref z,res],[]⟩) R s:=by
 intro ps
 induction ps with
 |nil=>
  intro i s G acc hd I hG hf ⟨r,mark,a,b,hm,me,its,own,one,two⟩ hx hy hz fin
  have sm:aU G (upd G S (.lst acc)):=aU.upd hG
  obtain ⟨c,rx,px,_⟩:=I.list (sm.lst hx)
  obtain ⟨d,ry,py,_⟩:=I.list (sm.lst hy)
  have nx:=rx.length
  have ny:=ry.length
  have short:min xs.length ys.length<=i:=by
   have:=congrArg List.length hd
   rw [List.length_drop,List.length_zip,List.length_nil] at this
   omega
  refine codeAny_builtin F.entry_extend_loop ?_
  rw [Around.under_plainId F.plain_extend_loop _]
  refine wpAny_bind (yD (A:=A.in1) hh D hm ⟨me,its,own,one,two,px.isList,py.isList⟩ ?_ fun h' off=>wpAny_pure ?_)
  ·by_cases h:xs.length<=i
   ·exact .inl (Array.getElem?_eq_none (by simp;omega))
   ·exact .inr (Array.getElem?_eq_none (by simp;omega))
  ·have I':Inv X pins σ (upd G S (.lst acc)) {s with heap:=h',toks:=s.toks}:=I.vF (ch:=[z,p,q,u,v]) hf fun e o he t=>by
    simp only [List.mem_cons,List.not_mem_nil,or_false,not_or] at he
    exact off e o he.1 he.2.2.1 he.2.2.2.1 he.2.2.2.2 t
   exact fin [] G _ .nil hG (by rw [List.append_nil];exact I')
 |cons pr ps ih=>
  intro i s G acc hd I hG hf ⟨r,mark,a,b,hm,me,its,own,one,two⟩ hx hy hz fin
  obtain ⟨x,y⟩:=pr
  have sm:aU G (upd G S (.lst acc)):=aU.upd hG
  obtain ⟨vs,rx,px,_⟩:=I.list (sm.lst hx)
  obtain ⟨ws,ry,py,_⟩:=I.list (sm.lst hy)
  have here:(xs.zip ys)[i]? =some (x,y):=by
   have:=congrArg (fun t=>t[0]?) hd
   simpa [List.getElem?_drop] using this
  obtain ⟨gx,gy⟩:=List.getElem?_zip_eq_some.mp here
  obtain ⟨c,hc,rc⟩:=rx.get gx
  obtain ⟨d,hdd,rd⟩:=ry.get gy
  refine codeAny_builtin F.entry_extend_loop ?_
  rw [Around.under_plainId F.plain_extend_loop _]
  refine wpAny_bind (wR (A:=A.in1) D hm ⟨me,its,own,one,two,px.isList,py.isList⟩ (x:=c) (y:=d) (by simpa using hc) (by simpa using hdd) fun h' r' mark' a' b' hm' Z pair off=>?_)
  have low:∀e∈[z,p,q,u,v],e<s.heap.objs.size:=by
   simp only [List.mem_cons,List.not_mem_nil,or_false]
   rintro e (rfl|rfl|rfl|rfl|rfl)
   ·exact Heap.lt_size me
   ·exact Heap.lt_size its
   ·exact Heap.lt_size own
   ·exact one.elim fun _ t=>Heap.lt_size t.1
   ·exact two.elim fun _ t=>Heap.lt_size t.1
  generalize hT:s.heap.objs.size=T at *
  have I1:Inv X pins σ (upd (upd G S (.lst acc)) T (.tup [x,y])) {s with heap:=h',toks:=s.toks}:=I.vE (ch:=[z,p,q,u,v]) hf (fun e o he t=>by
    simp only [List.mem_cons,List.not_mem_nil,or_false,not_or] at he
    exact off e o he.1 he.2.2.1 he.2.2.2.1 he.2.2.2.2 t) (Nat.le_of_eq hT) ⟨by show 2<=sizeLine;decide,[c,d],.cons rc (.cons rd .nil),⟨_,pair,rfl,0,rfl⟩⟩
  have fT:(upd G S (.lst acc)) T=none:=I.hok.fresh (Nat.le_of_eq hT)
  have TS:T≠S:=fun e=>by rw [e,ao] at fT;cases fT
  have gT:G T=none:=by rw [ar TS] at fT;exact fT
  rw [upd_swap TS.symm] at I1
  obtain ⟨_,its1,n1,r1,l1,e1⟩:=I1.lstM ao
  have sz:its1.length=acc.length:=l1.symm
  have le:acc.length+(ps.length+1)<=sizeLine:=hz
  refine wpAny_bind (wpAny_updateSeq e1 rfl (wpAny_pure ⟨plainId_quiet F.plain_extend_loop _,?_⟩) (by rw [List.size_toArray];omega) (by rw [Array.size_push,List.size_toArray];omega))
  have I2:Inv X pins σ (upd (upd (upd G T (.tup [x,y])) S (.lst acc)) S (.lst (acc++[.ref T]))) {s with heap:=h'.update S (Obj.mapSeq (·.push (.ref T))),toks:=s.toks}:=
   I1.lset (its':=its1++[.ref T]) ao e1 (by simp) (r1.append (.cons (show RelV (.ref T) (.ref T) from rfl) .nil)) (by rw [List.length_append,List.length_singleton];omega)
  rw [nB] at I2
  have kk:∀e∈[z,p,q,u,v],∀o,h'.get? e=some o->(h'.update S (Obj.mapSeq (·.push (.ref T)))).get? e=some o:=fun e he o t=>(Heap.get?_update_other _ _ fun w:S=e=>hS (by rw [w];exact he)).trans t
  refine ih (i+1) _ (upd G T (.tup [x,y])) (acc++[.ref T]) ?_ I2 (by rw [ar TS.symm];exact hG) (fun e he=>?_) ⟨r',mark',a',b',hm',kk z (by simp) _ Z.me,kk p (by simp) _ Z.its,kk q (by simp) _ Z.own,Z.one.at fun o t=>kk u (by simp) o t,Z.two.at fun o t=>kk v (by simp) o t⟩
   ((aU.upd gT).lst hx) ((aU.upd gT).lst hy) (by rw [List.length_append,List.length_singleton];omega) fun vs G' s' L g I'=>fin (.ref T::vs) G' s' (.cons gT L) g (by rw [List.append_assoc] at I';exact I')
  ·have:=congrArg List.tail hd
   rw [List.tail_drop,List.tail_cons] at this
   exact this
  ·obtain ⟨h0,h1⟩:=hf e he
   refine ⟨?_,h1⟩
   have:e≠S:=fun w=>hS (w▸he)
   rw [ar this] at h0 ⊢
   rw [ar (Nat.ne_of_lt (low e he))]
   exact h0
theorem xK:typeLookup (.type "zip") "__len__"=pure none:=by rw [typeLookup_type,builtinLookup_eq_fast];kernel_rfl
theorem vq:typeLookup (.type "zip") "__length_hint__"=pure none:=by rw [typeLookup_type,builtinLookup_eq_fast];kernel_rfl
theorem tE {E:Value->Shared->Prop} {Q:Value->Shared->Prop} {s:Shared} {H:Hp} (hh:A.handled=none) (D:ZipApart z p q u v l m) (I:Inv X pins σ H s) (hf:∀b∈[z,p,q,u,v],wN X pins H b)
  (st:yv z p q u v l m 0 s.heap) (hx:SqL X.K H l xs) (hy:SqL X.K H m ys) (hz:(xs.zip ys).length<=sizeLine)
  (fin:∀S vs G' s',H S=none->wM H (xs.zip ys) vs G'->G' S=none->Inv X pins σ (upd G' S (.lst vs)) s'->Q (.ref S) s'):wpAny (model X.prog X.w) A (call (.type "list") [.ref z]) Q E s:=by
 have low:∀e∈[z,p,q,u,v],e<s.heap.objs.size:=by
  obtain ⟨_,_,_,_,_,me,its,own,one,two⟩:=st
  simp only [List.mem_cons,List.not_mem_nil,or_false]
  rintro e (rfl|rfl|rfl|rfl|rfl)
  ·exact Heap.lt_size me
  ·exact Heap.lt_size its
  ·exact Heap.lt_size own
  ·exact one.elim fun _ t=>Heap.lt_size t.1
  ·exact two.elim fun _ t=>Heap.lt_size t.1
 have fresh:H s.heap.objs.size=none:=I.hok.fresh (Nat.le_refl _)
 have I0:Inv X pins σ (upd H s.heap.objs.size (.lst [])) {s with heap:=s.heap.push {cls:=.type "list",data:=.seq #[]},toks:=s.toks}:=I.lnew (its:=[]) .nil (Nat.zero_le _)
 have hS:s.heap.objs.size∉[z,p,q,u,v]:=fun w=>Nat.lt_irrefl _ (low _ w)
 generalize hSe:s.heap.objs.size=S at *
 have turned:=tY (P:=X.prog) (w:=X.w) (K:=X.K) (nm:="x") (pos:=⟨0,0,0,0⟩) D
 have st0:yv z p q u v l m 0 (s.heap.push {cls:=.type "list",data:=.seq #[]}):=turned.keep 0 _ _ st fun b _ o t=>Heap.get?_push_of_some _ t
 refine callType_codes (Q₁:=fun obj s₁=>obj=.ref S/\s₁={s with heap:=s.heap.push {cls:=.type "list",data:=.seq #[]}}) F.called_list (F.typeCall_list_1 _) F.entry_list_init (code_list_new _ ⟨by rw [hSe],rfl⟩) fun obj s₁ h₁=>?_
 obtain ⟨rfl,rfl⟩:=h₁
 obtain ⟨_,its0,n0,_,l0,e0⟩:=I0.lstM ao
 have nil0:its0=[]:=List.length_eq_zero_iff.mp l0.symm
 subst nil0
 refine ⟨⟨_,e0,rfl⟩,F.args_list_init_2 _ _,?_⟩
 refine wpAny_bind (wpAny_bind (wpAny_seqItems e0 rfl (wpAny_pure ?_)))
 refine wpAny_bind (wpAny_updateSeq e0 rfl ?_)
 have I1:=I0.lset (f:=fun _=>#[]) (its':=[]) (ys:=[]) (t':=s.toks) ao e0 rfl .nil (Nat.zero_le _)
 rw [nB] at I1
 have st1:=turned.keep 0 _ ((s.heap.push {cls:=.type "list",data:=.seq #[]}).update S (Obj.mapSeq fun _=>#[])) st0 fun b hb o t=>(Heap.get?_update_other _ _ fun w:S=b=>hS (by rw [w];exact hb)).trans t
 obtain ⟨_,its1,n1,_,l1,e1⟩:=I1.lstM ao
 have nil1:its1=[]:=List.length_eq_zero_iff.mp l1.symm
 subst nil1
 have ty:∀{s':Shared},yv z p q u v l m 0 s'.heap->s'.TypeIs (.ref z) "zip":=fun ⟨_,_,_,_,_,me,_⟩=>⟨_,me,rfl⟩
 have other:Builtin.List.listSameRef (.ref S) (.ref z)=false:=by simpa [Builtin.List.listSameRef] using fun e:S=z=>hS (by rw [e];simp)
 refine wpAny_bind (wpAny_letGo (wpAny_bind (wpAny_typeOf (ty st1) ?_)))
 rw [other,if_neg (by decide)]
 refine wpAny_bind (turned.self _ 0 _ _ _ st1 (wpAny_bind (wpAny_holding ?_)))
 refine wpAny_bind (wpAny_specialOf (ty st1) xK (wpAny_bind (wpAny_specialOf (name:=Str.ofString "__length_hint__") (ty st1) vq (wpAny_pure ?_))))
 rw [Bool.true_or,if_pos rfl]
 refine wpAny_bind (wpAny_rule (wpAny_bind (wpAny_bind (wpAny_updateSeq e1 rfl ?_))))
 have I2:=I1.lset (f:=fun t=>t.push .none) (its':=[.none]) (ys:=[.non]) (t':=s.toks) ao e1 rfl (.cons rfl .nil) (by show 1<=sizeLine;decide)
 rw [nB] at I2
 obtain ⟨_,its2,n2,r2,l2,e2⟩:=I2.lstM ao
 refine wpAny_updateSeq e2 rfl ?_ (by rw [List.size_toArray,<- l2];show 1<=sizeLine;decide) (by rw [Array.size_pop,List.size_toArray,<- l2];show 1-1<=sizeLine+1;decide)
 have one2:∃c,its2=[c]:=by match its2,l2 with|[c],_=>exact ⟨c,rfl⟩
 obtain ⟨c2,one2⟩:=one2
 subst one2
 have I3:=I2.lset (f:=fun t=>t.pop) (its':=[]) (ys:=[]) (t':=s.toks) ao e2 rfl .nil (Nat.zero_le _)
 rw [nB] at I3
 have away:∀{h:Heap} {f:Array Value->Array Value},∀b∈[z,p,q,u,v],∀o,h.get? b=some o->(h.update S (Obj.mapSeq f)).get? b=some o:=fun b hb o t=>(Heap.get?_update_other _ _ fun w:S=b=>hS (by rw [w];exact hb)).trans t
 have st3:=turned.keep 0 _ _ (turned.keep 0 _ _ st1 (away (f:=fun t=>t.push .none))) (away (f:=fun t=>t.pop))
 refine wpAny_pure ⟨plainId_quiet F.plain_extend_loop _,zip_loop (A:=A.in1) hh D hS (xs.zip ys) 0 _ H [] rfl I3 fresh (fun b hb=>?_) st3 hx hy (by simpa using hz) fun vs G' s' L g I'=>⟨rfl,fin S vs G' s' fresh L g I'⟩⟩
 obtain ⟨h0,h1⟩:=hf b hb
 exact ⟨by rw [ar (Nat.ne_of_lt (low b hb))];exact h0,h1⟩
end
section
variable {X:Cx} {K:PySem.W.Frag} {W:fm} {a b:Expr} {pos p p1 pos1:Pos} {fa fb:ak->M Dat}
theorem rB:∀{xs ys:List V} {ds es:List Dat} {vs:List V} {F G G':Hp},wM G (xs.zip ys) vs G'->aU F G->ax K F ds xs->ax K F es ys->∃F',Step F G F' G'/\ax K F' (mF ds es) vs
 |xs,ys,[],es,vs,F,G,G',L,sm,h1,h2=>by
  cases (show xs=[] from h1)
  cases L
  exact ⟨F,Step.refl sm,by simp [mF,ax]⟩
 |xs,ys,d::ds,[],vs,F,G,G',L,sm,h1,h2=>by
  cases (show ys=[] from h2)
  rw [List.zip_nil_right] at L
  cases L
  exact ⟨F,Step.refl sm,by simp [mF,ax]⟩
 |xs,ys,d::ds,e::es,vs,F,G,G',L,sm,h1,h2=>by
  obtain ⟨x,xs,rfl,qx,h1⟩:=h1
  obtain ⟨y,ys,rfl,qy,h2⟩:=h2
  cases L with
  |@cons _ _ T _ _ _ vs gT L=>
   have st:Step F G (upd F T (.tup [x,y])) (upd G T (.tup [x,y])):=Step.lay sm gT
   obtain ⟨F',s',q'⟩:=rB L st.fh (h1.mono st.ff) (h2.mono st.ff)
   refine ⟨F',st.trans s',.ref T,vs,rfl,⟨T,[x,y],rfl,s'.ff.tup (SqT.of ao),x,[y],rfl,(qx.mono st.ff).mono s'.ff,y,[],rfl,(qy.mono st.ff).mono s'.ff,rfl⟩,q'⟩
noncomputable def fLZ (fa fb:ak->M Dat):ak->M Dat:=fun ρ=>(vo fa fb ρ).bind dv
noncomputable def Made (X:Cx) (pins:List (Addr×Obj)) (σ:St) (R:Addr->Addr->Hp->Prop) (t:Value) (s:Shared):Prop:=
 ∃z p q u v l m H,t=.ref z/\ZipApart z p q u v l m/\Inv X pins σ H s/\(∀b∈[z,p,q,u,v],wN X pins H b)/\yv z p q u v l m 0 s.heap/\R l m H
theorem ev_zip {ta tb:TE} (hg:Gl X "zip") (hm:X.mg "zip"=none) (ha:PE X a ta) (hb:PE X b tb) (hs:starEach [a,b] X.env=[(false,eval a X.env),(false,eval b X.env)]) (hs2:starEach [b] X.env=[(false,eval b X.env)])
  {pins:List (Addr×Obj)} {s:Shared} {σ:St} {H:Hp} {R:Addr->Addr->Hp->Prop} (I:Inv X pins σ H s)
  (h:ta σ H fun x H1=>tb σ H1 fun y H2=>∃c d,x=.ref c/\y=.ref d/\(∃xs,SqL X.K H2 c xs)/\(∃ys,SqL X.K H2 d ys)/\R c d H2) :
  wpAny (model X.prog X.w) X.A (eval (.Call (.Name "zip" p) [a,b] [] pos) X.env) (Made X pins σ R) X.xe s:=by
 have both:PA X [a,b] (oz ta (oz tb tNil)):=aX ha (aX hb eF hs2) (by rw [hs,hs2])
 have args:=both pos pins s σ H (fun vs H1=>match vs with|[x,y]=>∃c d,x=.ref c/\y=.ref d/\(∃xs,SqL X.K H1 c xs)/\(∃ys,SqL X.K H1 d ys)/\R c d H1|_=>False) I h
 refine Call_ (mK I hg hm boot_zip (PyProof.Rows.callWith_type1 (thn args fun us s1 ⟨vs,H1,I1,r1,q1⟩=>?_) (by rw [hs,hs2]) (by rw [hs2];rfl)))
 match vs,r1,q1 with
 |[x,y],r1,⟨c,d,ec,ed,⟨xs,hx⟩,⟨ys,hy⟩,go⟩=>
  subst ec ed
  obtain ⟨_,_,rfl,rc,rd⟩:=r1.two
  cases rc
  cases rd
  obtain ⟨vs,rx,px,_⟩:=I1.list hx
  obtain ⟨ws,ry,py,_⟩:=I1.list hy
  have lc:c<s1.heap.objs.size:=px.isList.elim fun _ t=>Heap.lt_size t.1
  have ld:d<s1.heap.objs.size:=py.isList.elim fun _ t=>Heap.lt_size t.1
  refine call_zip_2 px.isList py.isList fun h' me its own one two _ old=>?_
  have new:∀e∈[s1.heap.objs.size+4,s1.heap.objs.size+2,s1.heap.objs.size+3,s1.heap.objs.size,s1.heap.objs.size+1],s1.heap.objs.size<=e:=by
   simp only [List.mem_cons,List.not_mem_nil,or_false]
   rintro e (rfl|rfl|rfl|rfl|rfl)<;>omega
  exact ⟨_,_,_,_,_,c,d,H1,rfl,zipApart_new lc ld,I1.kept (t':=s1.toks) old,fun e he=>I1.fpOk (new e he) (I1.hok.fresh (new e he)),⟨_,_,_,_,Mem.no,me,its,own,one,two⟩,go⟩
theorem de_lzip (hml:X.mg "list"=none) (hm:X.mg "zip"=none) (ha:DE K W false X a fa) (hb:DE K W false X b fb) (hc:X.calm=true:=by rfl) (hgl:Gl X "list":=by rfl) (hg:Gl X "zip":=by rfl) (hs:starEach [a,b] X.env=[(false,eval a X.env),(false,eval b X.env)]:=by rfl) (hs2:starEach [b] X.env=[(false,eval b X.env)]:=by rfl)
  (hst:starEach [.Call (.Name "zip" p1) [a,b] [] pos1] X.env=[(false,eval (.Call (.Name "zip" p1) [a,b] [] pos1) X.env)]:=by rfl) (hK:X.K=K:=by rfl) :
  DE K W true X (.Call (.Name "list" p) [.Call (.Name "zip" p1) [a,b] [] pos1] [] pos) (fLZ fa fb):=by
 subst hK
 intro pins s σ H Q I h
 obtain ⟨F,ρ,r,sm,post⟩:=h
 refine wpAny_Call_Name_kw (mK I hgl hml PyProof.Rows.boot_list ?_ (by decide) (by decide))
 refine PyProof.Rows.callWith_type1 ?_ hst rfl
 rw [hst]
 refine Calls.spliced_cons (thn (ev_zip (R:=fun l m H2=>∃xs ys,SqL X.K H2 l xs/\SqL X.K H2 m ys/\(xs.zip ys).length<=sizeLine/\∀S vs G',H2 S=none->wM H2 (xs.zip ys) vs G'->G' S=none->Q (.ref S) (upd G' S (.lst vs))) hg hm ha hb hs hs2 I ?_) fun t s1 made=>?_)
 ·refine bA r sm (fun e he=>?_) fun d hd v F1 H1 s1 q1=>?_
  ·have z:fLZ fa fb ρ=.error e:=by unfold fLZ vo;rw [he];rfl
   rw [z] at post;exact post
  ·refine bA (r.mono s1.ff) s1.fh (fun e he=>?_) fun d2 hd2 v2 F2 H2 s2 q2=>?_
   ·have z:fLZ fa fb ρ=.error e:=by unfold fLZ vo;rw [hd,au,he];rfl
    rw [z] at post;exact W.mono post s1
   ·have z:fLZ fa fb ρ=((lq d).bind fun ds=>(lq d2).bind fun es=>.ok (mF ds es)).bind dv:=by unfold fLZ vo;rw [hd,au,hd2,au]
    rw [z] at post
    have post:=(post.step s1).step s2
    cases d with
    |lst ds=>
     cases d2 with
     |lst es=>
      obtain ⟨c,xs,e,t,zz⟩:=q1
      obtain ⟨c2,ys,e2,t2,zz2⟩:=q2
      have t':=s2.ff.lst t
      have len:(xs.zip ys).length=(mF ds es).length:=by rw [jX,List.length_zip,zz.length,zz2.length]
      have post:aL X.K W true F2 H2 (dv (mF ds es)) Q:=post
      unfold dv at post
      by_cases hl:(mF ds es).length<=sizeLine
      ·rw [if_pos hl] at post
       refine ⟨c,c2,e,e2,⟨xs,s2.fh.lst t'⟩,⟨ys,s2.fh.lst t2⟩,xs,ys,s2.fh.lst t',s2.fh.lst t2,by rw [len];exact hl,fun S vs G' hS L gS=>?_⟩
       obtain ⟨F',st,q⟩:=rB L s2.fh (zz.mono s2.ff) zz2
       exact post _ F' _ (st.trans (Step.grow st.fh gS)) ⟨S,vs,rfl,ao,st.fh.free gS,hS,q⟩
      ·rw [if_neg hl] at post
       exact (W.ns post).elim
     |_=>exact (W.ns post).elim
    |_=>exact (W.ns post).elim
 ·obtain ⟨z,p,q,u,v,l,m,H2,rfl,D,I2,hf,st,xs,ys,hx,hy,hz,go⟩:=made
  refine wpAny_pure ?_
  exact tE (I.ok.hd hc) D I2 hf st hx hy hz fun S vs G' s' hS L gS I'=>⟨.ref S,_,I',rfl,go S vs G' hS L gS⟩
end
end L2
namespace L2
open PySem PySem.Spec PyProof.Rows
noncomputable def repD:Dat->Dat->M Dat
 |.lst ds,.int k=>if (decide (-(2^63)<=k)&&decide (k<2^63)&&decide (ds.length*k.toNat<=sizeLine))=true then .ok (.lst (List.replicate k.toNat ds).flatten) else stk
 |_,_=>stk
@[simp] theorem e_rep {ds:List Dat} {k:Int} (h0: -9223372036854775808<=k) (h1:k<9223372036854775808) (h2:ds.length*k.toNat<=16777216):repD (.lst ds) (.int k)=.ok (.lst (List.replicate k.toNat ds).flatten):=by
 show (if _ then _ else _)=_
 rw [if_pos];simp only [Bool.and_eq_true,decide_eq_true_eq]
 exact ⟨⟨by omega,by omega⟩,by rw [sizeLine_eq];exact h2⟩
theorem ax.rep {K:PySem.W.Frag} {F:Hp} {ds:List Dat} {xs:List V} (h:ax K F ds xs):∀m:Nat,ax K F (List.replicate m ds).flatten (List.replicate m xs).flatten
 |0=>rfl
 |m+1=>by
  rw [List.replicate_succ,List.replicate_succ,List.flatten_cons,List.flatten_cons]
  exact h.append (ax.rep h m)
section
variable {X:Cx} {K:PySem.W.Frag} {W:fm} {a b:Expr} {pos:Pos} {fa fb:ak->M Dat}
theorem de_rep (ha:DE K W true X a fa) (hb:DE K W false X b fb):DE K W true X (.BinOp a .Mult b pos) (f2 repD fa fb):=by
 refine PE.imp (pe_op op_rep ha hb) fun σ H Q h=>?_
 obtain ⟨F,ρ,r,s,p⟩:=h
 refine bA r s (fun e he=>p.err (by unfold f2;rw [he];rfl)) fun x hx v F1 H1 s1 q1=>?_
 refine bA (r.mono s1.ff) s1.fh (fun e he=>(p.step s1).err (by unfold f2;rw [hx];show (fb ρ).bind _=_;rw [he];rfl)) fun y hy u F2 H2 s2 q2=>?_
 have e:f2 repD fa fb ρ=repD x y:=by unfold f2;rw [hx];show (fb ρ).bind _=_;rw [hy];rfl
 rw [e] at p
 cases x with
 |lst ds=>
  cases y with
  |int k=>
   obtain ⟨l,xs,e1,t1,t2,t3,t4⟩:=q1
   have e2:u=.int k:=q2
   have p':aL K W true F H (if (decide (-(2^63)<=k)&&decide (k<2^63)&&decide (ds.length*k.toNat<=sizeLine))=true then .ok (.lst (List.replicate k.toNat ds).flatten) else stk) Q:=p
   by_cases hc:(decide (-(2^63)<=k)&&decide (k<2^63)&&decide (ds.length*k.toNat<=sizeLine))=true
   ·rw [if_pos hc] at p';simp only [Bool.and_eq_true,decide_eq_true_eq] at hc
    have t4':=t4.mono s2.ff
    refine ⟨l,k,xs,e1,e2,s2.hh l _ t1,hc.1.1,hc.1.2,by rw [t4.length];exact hc.2,fun z hz=>?_⟩
    exact (p'.step (s1.trans s2)).lst s2.fh (t4'.rep k.toNat) hz
   ·rw [if_neg hc] at p';exact p'.stuck
  |_=>exact aL.stuck p
 |_=>exact aL.stuck p
end
end L2
namespace L2
open PySem PySem.Spec PyProof.Rows
structure Owns (K:PySem.W.Frag) (F G H:Hp) (ds:List Dat) (vs:List V):Prop where
 len:vs.length=ds.length
 get:∀(k:Nat) (d:Dat),ds[k]? =some d->∃a xs es,vs[k]? =some (.ref a)/\d=.lst es/\H a=some (.lst xs)/\F a=none/\G a=none/\ax K F es xs
 ap:∀(j k:Nat) (a:Addr),vs[j]? =some (.ref a)->vs[k]? =some (.ref a)->j=k
section
variable {K:PySem.W.Frag} {F G H F' H':Hp} {ds:List Dat} {vs:List V}
theorem Owns.back {G':Hp} (o:Owns K F G H ds vs) (s:aU G' G):Owns K F G' H ds vs where
 len:=o.len
 get:=fun k d e=>by
  obtain ⟨a,xs,es,h1,h2,h3,h4,h5,h6⟩:=o.get k d e
  exact ⟨a,xs,es,h1,h2,h3,h4,s.free h5,h6⟩
 ap:=o.ap
end
noncomputable def rowAt (rs:List Dat) (a:Int):M (Nat×List Dat):=match ixN rs.length a with
 |some j=>(match rs[j]? with
  |some (.lst es)=>.ok (j,es)
  |_=>.error .stuck)
 |none=>.error .stuck
noncomputable def setRow (rs:List Dat) (je:Nat×List Dat) (b:Int) (x:Dat):M (List Dat):=match ixN je.2.length b with
 |some k=>.ok (rs.set je.1 (.lst (je.2.set k x)))
 |none=>.error .stuck
noncomputable def rows3 (i:Nat) (rs:List Dat) (x:Dat) (je:Nat×List Dat) (fB:ak->M Dat) (ρ:ak):M Flo:=(fB (ρ.set i none)).bind fun b=>(asI b).bind fun b=>(setRow rs je b x).bind fun rs'=>.ok (.nx (ρ.set i (some (.lst rs'))))
noncomputable def iP (i:Nat) (rs:List Dat) (x:Dat) (fA fB:ak->M Dat) (ρ:ak):M Flo:=(fA (ρ.set i none)).bind fun a=>(asI a).bind fun a=>(rowAt rs a).bind fun je=>rows3 i rs x je fB ρ
end L2
namespace L2
open PySem PySem.Spec PyProof.Rows
end L2
namespace L2
open PySem PySem.Spec PyProof.Rows
structure Ys (z p q u v l m:Addr) (r k a b:Value) (i j:Nat) (xs ys:Array Value) (h:Heap):Prop where
 me:ZRec h z p q r k
 its:IsPair h p (.ref u) (.ref v)
 own:IsPair h q a b
 one:h.IsTupleIter u l i
 two:h.IsTupleIter v m j
 xl:h.IsTuple l xs
 yl:h.IsTuple m ys
end L2
namespace L2
open PySem PySem.Spec PyProof.Rows
structure RepR (K:PySem.W.Frag) (F0 H0 FB:Hp) (i:Nat) (a:Addr) (ys:List V) (rs:List Dat) (F H:Hp) (σ:St) (ρ:ak):Prop where
 r:Rep K F0 H0 FB [] F H σ ρ
 sl:σ[i]? =some (some (.ref a))
 hp:H a=some (.lst ys)
 fa:F a=none
 ha:H0 a=none
 nm:∀m:Nat,ys[m]?≠some (.ref a)
 ow:Owns K F H0 H rs ys
section
variable {K:PySem.W.Frag} {F0 H0 FB F H F1 H1:Hp} {i:Nat} {a:Addr} {ys:List V} {rs:List Dat} {σ:St} {ρ:ak}
theorem RepR.base {FB':Hp} (h:RepR K F0 H0 FB i a ys rs F H σ ρ) (s:aU FB' FB):RepR K F0 H0 FB' i a ys rs F H σ ρ:=⟨h.r.base s,h.sl,h.hp,h.fa,h.ha,h.nm,h.ow⟩
end
end L2
namespace L2
open PySem PySem.Spec PyProof.Rows
section
variable {κ:Type} [DecidableEq κ]
noncomputable def dropK (kvs:List (κ×V)) (k:κ):List (κ×V):=kvs.filter fun kv=>decide (kv.1≠k)
theorem tU.getD {o:Option V} {u:Option Value} {d:V} {d':Value} (r:tU o u) (rd:RelV d d'):RelV (o.getD d) (u.getD d'):=by
 cases o with
 |none=>cases u with
  |none=>exact rd
  |some _=>exact (show False from r).elim
 |some _=>cases u with
  |none=>exact (show False from r).elim
  |some _=>exact r
theorem KV.drop {kvs:List (κ×V)} {vs:List (κ×Value)} (r:KV kvs vs) (k:κ):KV (dropK kvs k) (without vs k):=by
 unfold KV at r ⊢
 unfold dropK without
 induction r with
 |nil=>exact .nil
 |@cons p q ps qs h t ih=>
  obtain ⟨h1,h2⟩:=h
  rw [List.filter_cons,List.filter_cons]
  by_cases e:p.1=k
  ·have a:¬decide (p.1≠k)=true:=by simp [e]
   have b:¬decide (q.1≠k)=true:=by simp [h1.symm.trans e]
   rw [if_neg a,if_neg b];exact ih
  ·have e':¬q.1=k:=fun z=>e (h1.trans z)
   have a:decide (p.1≠k)=true:=by simp [e]
   have b:decide (q.1≠k)=true:=by simp [e']
   rw [if_pos a,if_pos b];exact .cons ⟨h1,h2⟩ ih
theorem KV.length {kvs:List (κ×V)} {vs:List (κ×Value)} (r:KV kvs vs):kvs.length=vs.length:=Paired.length r
end
noncomputable abbrev KT (H:Hp):List (List Key×V)->List (List Key×Addr×Value)->Prop:=Paired fun p q=>p.1=q.1/\H q.2.1=some (.tup (p.1.map kV))/\RelV p.2 q.2.2
theorem KT.keeps {H H':Hp} {kvs:List (List Key×V)} {xs:List (List Key×Addr×Value)} (r:KT H kvs xs) (ht:∀b ys,H b=some (.tup ys)->H' b=some (.tup ys)):KT H' kvs xs:=
 Paired.mapP r fun _ _ z=>⟨z.1,ht _ _ z.2.1,z.2.2⟩
structure M1 (X:Cx) (o:Expr) (m:Str) (apos:Pos) (e:Expr) (cpos:Pos):Prop where
 base:attributeBase o m X.env (eval o X.env)=eval o X.env
 few:((backTo cpos (starEach [e] X.env)).all (fun x=> !x.1)&&(backToKw cpos (keywordEach [] X.env)).all (fun x=>x.1.isSome)
  &&decide (([e]:List Expr).length+([]:List Keyword).length+(if ([]:List Keyword).isEmpty then 0 else 1)<30))=true
 line:(apos.endLine==cpos.line)=true
 trees:backTo cpos (starEach [e] X.env)=[(false,eval e X.env)]
structure M2 (X:Cx) (o:Expr) (m:Str) (apos:Pos) (e f:Expr) (cpos:Pos):Prop where
 base:attributeBase o m X.env (eval o X.env)=eval o X.env
 few:((backTo cpos (starEach [e,f] X.env)).all (fun x=> !x.1)&&(backToKw cpos (keywordEach [] X.env)).all (fun x=>x.1.isSome)
  &&decide (([e,f]:List Expr).length+([]:List Keyword).length+(if ([]:List Keyword).isEmpty then 0 else 1)<30))=true
 line:(apos.endLine==cpos.line)=true
 trees:backTo cpos (starEach [e,f] X.env)=[(false,eval e X.env),(false,eval f X.env)]
end L2
namespace L2
open PySem PySem.Spec PyProof.Rows
noncomputable def keysI (ks:List Int):List (Key×V):=ks.map fun k=>(Sum.inl k,.bl true)
structure RepK (K:PySem.W.Frag) (F0 H0 FB:Hp) (i:Nat) (a:Addr) (ks:List Int) (F H:Hp) (σ:St) (ρ:ak):Prop where
 r:Rep K F0 H0 FB [] F H σ ρ
 sl:σ[i]? =some (some (.ref a))
 hp:H a=some (.dK (keysI ks))
 fa:F a=none
 ha:H0 a=none
end L2
namespace L2
open PySem PySem.Spec PyProof.Rows
structure ExA (h:Heap) (e:Addr) (C:Value) (dx hd:Option Addr):Prop where
 ob:∃oe vs,h.get? e=some oe/\oe.cls=C/\oe.dict=dx/\oe.data=.fields vs/\vs[1]? =some (hd.elim Value.none Value.ref)
 tb:∀T,hd=some T->T≠e/\∃oT ts,h.get? T=some oT/\oT.data=.fields ts/\ts[3]? =some .none
theorem dictMapF (f:Array Value->Array Value) (o:Obj):(o.mapFields f).dict=o.dict:=by
 obtain ⟨c,d,dt,sl⟩:=o
 cases dt<;>rfl
theorem size3 {l:List Value} (h:3<l.length):3<l.toArray.size:=by rw [List.size_toArray];exact h
section
variable {M:Model} {A:Around} {E:Value->Shared->Prop} {s:Shared}
theorem mkEntry {hv fv lv:Value} {pl:List Value} {Q:Value->Shared->Prop} (hp:IsPlace pl) (h:∀(o:Obj) (ts:Array Value),o.data=.fields ts->3<ts.size->o.isFreed=false->Q (.ref s.heap.objs.size) {s with heap:=s.heap.push o}) :
  wpAny M A (EntryCells.newEntry hv fv .none lv .none pl) Q E s:=by
 unfold EntryCells.newEntry newFields
 refine wpAny_newObj_type (h _ _ rfl (size3 ?_) ?_) (hp.sizeOk5 _ _ _ _ _)
 ·simp
 ·exact Obj.isFreed_of_fields rfl
structure Left (fs:List Addr) (e:Addr) (hd:Option Addr) (h h':Heap):Prop where
 keep:∀b o,h.get? b=some o->b∉fs->b≠e->(∀T,hd=some T->b≠T)->h'.get? b=some o
 slot:∀b o,h.get? b=some o->b∈fs->∃sl,h'.get? b=some {o with slots:=sl}
 size:h.objs.size<=h'.objs.size
theorem entry_at {base:Heap} {env:Env} {outer:List Env} {L e:Addr} {C:Value} {dx:Option Addr} {oe:Obj} {vs:Array Value} {hv:Value} {bn:Bool} {Q:Unit->Shared->Prop}
  (hfr:A.frames=some (env::outer)) (hl:s.heap.FunFrames base (env::outer)) (hf:env.frame=some L) (he:s.heap.get? e=some oe) (hc:oe.cls=C) (hdx:oe.dict=dx) (hd:oe.data=.fields vs) (hs:1<vs.size)
  (h:∀h' T,ExA h' e C dx (some T)->s.heap.objs.size<=T->Left (frs (env::outer)) e none s.heap h'->Q () {s with heap:=h'}) :
  wpAny M A (frameOf env >>= fun a=>entryPlaceOf L bn >>= fun pl=>EntryCells.newEntry hv a .none (rawInt L) .none pl >>= fun b=>setField (.ref e) 1 b) (fun _ s'=>wpAny M A (setFlight (.ref e) none) Q E s') E s:=by
 have nfr:∀b o,b∈frs (env::outer)->s.heap.get? b=some o->∀vs,o.data≠.fields vs:=fun b o hm q=>by
  obtain ⟨_,o',ho',n⟩:=hl.mem hm
  rw [q] at ho'
  cases ho'
  exact n
 have hne:e∉frs (env::outer):=fun hm=>nfr e oe hm he vs hd
 refine wpAny_bind (wpAny_frameOf_fun hfr hl hf fun h1 x1=>?_)
 obtain ⟨z1,z2,z3⟩:=x1
 refine wpAny_bind (wpAny_entryPlaceOf fun pl hp=>?_)
 refine wpAny_bind (mkEntry hp fun o ts ho h3 hfo=>?_)
 have e1:h1.get? e=some oe:=by rw [z2 e hne];exact he
 have n1:h1.objs.size≠e:=fun z=>absurd (Heap.lt_size e1) (by rw [z];exact Nat.lt_irrefl _)
 have e2:(h1.push o).get? e=some oe:=Heap.get?_push_of_some o e1
 have t2:(h1.push o).get? h1.objs.size=some o:=Heap.get?_push_size h1 hfo
 refine wpAny_setField e2 hd hs ?_
 have d3:=Obj.data_mapFields hd (·.setIfInBounds 1 (Value.ref h1.objs.size))
 have e3:=Heap.get?_update_self (h:=h1.push o) (Obj.mapFields (·.setIfInBounds 1 (Value.ref h1.objs.size))) e2 (Obj.isFreed_of_fields d3)
 have t3:((h1.push o).update e (Obj.mapFields (·.setIfInBounds 1 (Value.ref h1.objs.size)))).get? h1.objs.size=some o:=by
  rw [Heap.get?_update_other _ _ (Ne.symm n1)]
  exact t2
 unfold setFlight
 refine wpAny_bind (wpAny_field e3 d3 (x:=.ref h1.objs.size) (by simp [hs]) ?_)
 rw [if_pos (by simp)]
 refine wpAny_setField t3 ho h3 ?_
 have dT:=Obj.data_mapFields ho (·.setIfInBounds 3 ((none:Option Addr).elim Value.none fun f=>rawInt f))
 refine h _ h1.objs.size ⟨⟨_,_,by rw [Heap.get?_update_other _ _ n1];exact e3,by rw [Obj.cls_mapFields];exact hc,by rw [dictMapF];exact hdx,d3,by simp [hs]⟩,fun T hT=>?_⟩ (by rw [z1];exact Nat.le_refl _) ⟨fun b o' q hb hbe _=>?_,fun b o' q hb=>?_,?_⟩
 ·cases hT
  exact ⟨n1,_,_,Heap.get?_update_self _ t3 (Obj.isFreed_of_fields dT),dT,by simp [h3]⟩
 ·have q1:h1.get? b=some o':=by rw [z2 b hb];exact q
  have nb:h1.objs.size≠b:=fun z=>absurd (Heap.lt_size q1) (by rw [z];exact Nat.lt_irrefl _)
  rw [Heap.get?_update_other _ _ nb,Heap.get?_update_other _ _ (Ne.symm hbe)]
  exact Heap.get?_push_of_some o q1
 ·obtain ⟨sl,q1⟩:=z3 b o' q
  have nb:h1.objs.size≠b:=fun z=>absurd (Heap.lt_size q1) (by rw [z];exact Nat.lt_irrefl _)
  have nbe:e≠b:=fun z=>hne (z▸hb)
  refine ⟨sl,?_⟩
  rw [Heap.get?_update_other _ _ nb,Heap.get?_update_other _ _ nbe]
  exact Heap.get?_push_of_some o q1
 ·rw [Heap.size_update,Heap.size_update,Heap.size_push,z1]
  exact Nat.le_succ _
theorem leave2 {base:Heap} {env:Env} {outer:List Env} {L e:Addr} {C:Value} {dx hd:Option Addr} {Q:Unit->Shared->Prop}
  (hfr:A.frames=some (env::outer)) (hl:s.heap.FunFrames base (env::outer)) (hf:env.frame=some L) (x:ExA s.heap e C dx hd)
  (h:∀h' T,ExA h' e C dx (some T)->s.heap.objs.size<=T->Left (frs (env::outer)) e hd s.heap h'->Q () {s with heap:=h'}):wpAny M A (noteFrame (.ref e) env) (fun _ s'=>wpAny M A (setFlight (.ref e) none) Q E s') E s:=by
 obtain ⟨oe,vs,he,hc,hdx,hdt,h1⟩:=x.ob
 have hs:1<vs.size:=(Array.getElem?_eq_some_iff.mp h1).1
 unfold noteFrame
 simp only [hf]
 cases hd with
 |none=>
  refine wpAny_bind (wpAny_field he hdt h1 ?_)
  rw [if_neg (by decide)]
  exact entry_at hfr hl hf he hc hdx hdt hs fun h' T a b c=>h h' T a b c
 |some T=>
  obtain ⟨nTe,oT,ts,hT,hdT,h3⟩:=x.tb T rfl
  have hs3:3<ts.size:=(Array.getElem?_eq_some_iff.mp h3).1
  refine wpAny_bind (wpAny_field he hdt h1 ?_)
  rw [if_pos (by simp)]
  refine wpAny_bind (wpAny_field (x:=.none) hT hdT h3 ?_)
  rw [if_neg (by simp [rawInt])]
  refine wpAny_bind (wpAny_setField hT hdT hs3 ?_)
  have oth:∀b,b≠T->(s.heap.update T (Obj.mapFields (·.setIfInBounds 3 Value.none))).get? b=s.heap.get? b:=fun b hb=>Heap.get?_update_other _ _ (Ne.symm hb)
  have nT:∀b o,s.heap.get? b=some o->(∀vs,o.data≠.fields vs)->b≠T:=fun b o q n z=>by
   subst z
   rw [hT] at q
   cases q
   exact n ts hdT
  refine entry_at hfr (hl.of_keeps fun b o q n=>⟨o,by rw [oth b (nT b o q n)];exact q,rfl⟩) hf (by rw [oth e (Ne.symm nTe)];exact he) hc hdx hdt hs fun h' T' a b c=>?_
  refine h h' T' a (by rw [Heap.size_update] at b;exact b) ⟨fun b' o q hb hbe hbT=>c.keep b' o (by rw [oth b' (hbT T rfl)];exact q) hb hbe (fun _ z=>nomatch z),fun b' o q hb=>?_,?_⟩
  ·obtain ⟨_,o',ho',n⟩:=hl.mem hb
   rw [q] at ho'
   cases ho'
   exact c.slot b' o (by rw [oth b' (nT b' o q n)];exact q) hb
  ·have:=c.size
   rw [Heap.size_update] at this
   exact this
theorem leave_at {base:Heap} {env:Env} {outer:List Env} {L e:Addr} {C:Value} {dx hd:Option Addr} {Q:Unit->Shared->Prop}
  (hfr:A.frames=some (env::outer)) (hl:s.heap.FunFrames base (env::outer)) (hf:env.frame=some L) (x:ExA s.heap e C dx hd)
  (h:∀h' T,ExA h' e C dx (some T)->s.heap.objs.size<=T->Left (frs (env::outer)) e hd s.heap h'->Q () {s with heap:=h'}):wpAny M A (leaving env (.ref e)) Q E s:=by
 unfold leaving
 exact wpAny_bind (leave2 hfr hl hf x h)
end
end L2
namespace L2
open PySem PySem.Spec PyProof.Rows
structure CXs (P:Program) (w:World) (outer:List Env) (H:Hp) (s:Shared) (E:XK) (a T:Addr) (C:Value) (dx:Option Addr) (H':Hp) (s':Shared):Prop where
 ex:ExA s'.heap a C dx (some T)
 na:s.heap.get? a=none
 nT:s.heap.get? T=none
 fa:H' a=none
 fT:H' T=none
 os:s'.os=s.os
 bare:AllBare s'.gens
 un:Un (frs outer) [] H H' s.heap s'.heap
 hok:HOk P w H' s'.heap
 want:E C dx H'
noncomputable def CXd (P:Program) (w:World):CXT:=fun outer H s E e s'=>∃(a T:Addr) (C:Value) (dx:Option Addr) (H':Hp),e=.ref a/\CXs P w outer H s E a T C dx H' s'
theorem get_none {h:Heap} {a:Addr} (z:h.objs.size<=a):h.get? a=none:=by
 cases e:h.get? a with
 |none=>rfl
 |some o=>exact absurd (Heap.lt_size e) (Nat.not_lt.mpr z)
theorem Inv.pq {X:Cx} {pins:List (Addr×Obj)} {σ:St} {H:Hp} {s:Shared} {a:Addr} (I:Inv X pins σ H s) (hx:X.ex=[]) (e:s.heap.get? a=none):X.s₀.heap.get? a=none:=by
 cases q:X.s₀.heap.get? a with
 |none=>rfl
 |some o=>
  obtain ⟨o',z⟩:=I.base.there a o q (by rw [hx];exact fun z=>nomatch z)
  rw [e] at z
  cases z
theorem dR.is {P:Program} {w:World} {H:Hp} {h:Heap} {a:Addr} {o:HO} (x:dR P w H h a o):∃u,h.get? a=some u:=by
 cases o with
 |lst xs=>obtain ⟨_,_,_,_,e⟩:=x;exact ⟨_,e⟩
 |tup xs=>obtain ⟨_,_,_,ob,e,_⟩:=x;exact ⟨_,e⟩
 |dK kvs=>obtain ⟨_,_,_,_,o,_,_,e,_⟩:=x;exact ⟨_,e⟩
 |dT kvs=>obtain ⟨_,_,_,_,o,_,_,e,_⟩:=x;exact ⟨_,e⟩
 |set S n=>obtain ⟨o,_,_,_,e,_⟩:=x;exact ⟨_,e⟩
 |ins C dx fs=>obtain ⟨_,_,_,e,_⟩:=x;exact ⟨_,e⟩
 |own y=>exact x
 |xd fs=>obtain ⟨_,⟨_,_,_,e,_⟩,_⟩:=x;exact ⟨_,e⟩
 |rng lo hi=>obtain ⟨_,_,_,e⟩:=x;exact ⟨_,e⟩
 |frz ob u=>obtain ⟨e,_⟩:=x;exact ⟨_,e⟩
 |tbl ps=>exact ⟨_,show h.get? a=some _ from x⟩
 |met f y=>exact ⟨_,show h.get? a=some _ from x⟩
 |ext φ=>obtain ⟨_,e,_⟩:=x;exact e
section
variable {P:Program} {w:World} {K:PySem.W.Frag} {mg:Str->Option Value} {base:Heap} {N:List Str} {qual:Str} {scope:Scope} {f:Addr} {cd:Value} {A:Around} {outer:List Env} {s:Shared} {H:Hp} {E:XK}
theorem xe_of {pins:List (Addr×Obj)} {σ:St} {H':Hp} {s':Shared} {a:Addr} {C:Value} {dx hd:Option Addr} (J:Inv (yz (CXd P w) P w K mg base N qual scope f cd A outer s H E) pins σ H' s') (x:ExA s'.heap a C dx hd)
  (na:s.heap.get? a=none) (nT:∀T,hd=some T->s.heap.get? T=none/\H' T=none) (fa:H' a=none) (q:E C dx H'):(yz (CXd P w) P w K mg base N qual scope f cd A outer s H E).xe (.ref a) s':=by
 have e0:=J.env0
 have hfs:∀b∈frs (envOfC qual scope s.heap.objs.size f cd::outer),H' b=none:=e0.frf
 have old:∀b o,s.heap.get? b=some o->b≠a/\(∀T,hd=some T->b≠T)/\b<s.heap.objs.size:=fun b o e=>by
  have hb:=Heap.lt_size e
  exact ⟨fun z=>(by subst z;rw [e] at na;cases na),fun T hT z=>(by subst z;have:=(nT _ hT).1;rw [e] at this;cases this),hb⟩
 have infs:∀b,b<s.heap.objs.size->b∈frs (envOfC qual scope s.heap.objs.size f cd::outer)->b∈frs outer:=fun b hb hm=>by
  rcases List.mem_filterMap.mp hm with ⟨v,hv,e⟩
  rcases List.mem_cons.mp hv with z|z
  ·subst z
   have:s.heap.objs.size=b:=by simpa [envOfC] using e
   omega
  ·exact List.mem_filterMap.mpr ⟨v,z,e⟩
 have outfs:∀b,b∈frs outer->b∈frs (envOfC qual scope s.heap.objs.size f cd::outer):=fun b hm=>by
  rcases List.mem_filterMap.mp hm with ⟨v,hv,e⟩
  exact List.mem_filterMap.mpr ⟨v,List.mem_cons_of_mem _ hv,e⟩
 have base':Un (frs outer) [] H H' s.heap s'.heap:=J.base
 show wpAny (model P w) (A.deeper (envOfC qual scope s.heap.objs.size f cd)) (leaving (envOfC qual scope s.heap.objs.size f cd) (.ref a)) (fun _ s''=>CXd P w outer H s E (.ref a) s'') (fun e' s''=>CXd P w outer H s E e' s'') s'
 refine leave_at (base:=base) e0.frames e0.uM rfl x fun h' T x' hT lf=>⟨a,T,C,dx,H',rfl,x',na,get_none (Nat.le_trans (show s.heap.objs.size<=s'.heap.objs.size from J.sz) hT),fa,?_,J.os,J.bare,?_,?_,q⟩
 ·exact J.hok.fresh hT
 ·have vH:∀b o,s.heap.get? b=some o->∀o',s'.heap.get? b=some o'->b∉frs outer->h'.get? b=some o':=fun b o e o' e' hb=>by
   obtain ⟨z1,z2,z3⟩:=old b o e
   exact lf.keep b o' e' (fun z=>hb (infs b z3 z)) z1 z2
  refine ⟨fun b o e n hb hx=>vH b o e o (base'.keep b o e n hb hx) hb,fun b o e n hb hx=>?_,base'.free,fun b o e hx=>?_,base'.tups,base'.frzs,base'.tbls⟩
  ·obtain ⟨sl,e1⟩:=base'.slot b o e n hb hx
   obtain ⟨sl2,e2⟩:=lf.slot b _ e1 (outfs b hb)
   exact ⟨sl2,e2⟩
  ·obtain ⟨o',e1⟩:=base'.there b o e hx
   by_cases hb:b∈frs outer
   ·obtain ⟨sl,e2⟩:=lf.slot b o' e1 (outfs b hb)
    exact ⟨_,e2⟩
   ·exact ⟨o',vH b o e o' e1 hb⟩
 ·intro b o e
  refine (J.hok b o e).vH (fun c u hc e1=>?_) (fun _ z=>z) fun _ _ z=>z
  have hcn:H' c≠none:=by
   rcases hc with z|z
   ·rw [z,e];exact fun z=>nomatch z
   ·rw [z];exact fun z=>nomatch z
  exact lf.keep c u e1 (fun z=>hcn (hfs c z)) (fun z=>hcn (by rw [z];exact fa)) fun T hT z=>hcn (by rw [z];exact (nT T hT).2)
theorem passD:Passes (CXd P w) (yz (CXd P w) P w K mg base N qual scope f cd A outer s H E) E:=by
 rintro pins σ H1 s1 e s' I ⟨a,T,C,dx,H',rfl,z⟩
 have J:=I.call' z.os z.un z.hok z.bare (fun _ h=>nomatch h)
 exact xe_of J z.ex (I.pq rfl z.na) (fun T' hT=>by cases hT;exact ⟨I.pq rfl z.nT,z.fT⟩) z.fa z.want
end
end L2
namespace L2
open PySem PySem.Spec PyProof.Rows
end L2
namespace L2
open PySem PySem.Spec PyProof.Rows
noncomputable def WE (K:PySem.W.Frag) (E:XK):fm where
 p:=fun e F H=>match e with
  |.stuck=>False
  |.exc C fs=>∀F' H',Step F H F' H'->match fs with
   |[]=>E (.ref C) none H'
   |fs=>∀d gs,F' d=some (.xd gs)->oj K F' fs gs->E (.ref C) (some d) H'
 mono:=fun {e F H F' H'} h s=>by
  cases e with
  |stuck=>exact h
  |exc C fs=>exact fun F2 H2 s2=>h F2 H2 (s.trans s2)
 ns:=fun h=>h
noncomputable def noX {α:Type}:M α->M α
 |.ok d=>.ok d
 |.error _=>.error .stuck
@[simp] theorem noX_ok {α:Type} (d:α):noX (.ok d:M α)=.ok d:=id rfl
noncomputable def fNoX {α:Type} (f:ak->M α):ak->M α:=fun ρ=>noX (f ρ)
@[simp] theorem e_fNoX {α:Type} (f:ak->M α) (ρ:ak):fNoX f ρ=noX (f ρ):=id rfl
section
variable {K:PySem.W.Frag} {W:fm} {X:Cx} {own ro:Bool} {OL O O':List Nat}
theorem tj {st:List Stmt} {g:ak->M Flo} (h:DSs K Wno ro X.nox OL O O' st g):DSs K W ro X OL O O' st (fNoX g):=fun F0 H0=>PSs.imp (PSs.nox (h F0 H0)) fun D σ H ⟨FB,F,ρ,r,p⟩=>by
 refine ⟨FB,F,ρ,r,?_⟩
 have p:jU K W ro F0 H0 FB OL O' D (noX (g ρ)):=p
 unfold jU at p ⊢
 cases e:g ρ with
 |ok fl=>
  rw [e] at p
  cases fl<;>exact p
 |error x=>rw [e] at p;exact (W.ns p).elim
end
noncomputable def spX (K:PySem.W.Frag) (ro:Bool) (g:List Dat->M Dat) (n:Nat):Sp:=fun vs H Q E=>∃F ds,aU F H/\ax K F ds vs/\ds.length=n/\aL K (WE K E) ro F H (g ds) Q
section
variable {X:Cx} {K:PySem.W.Frag} {ro:Bool} {x:Str} {e:Expr} {es:List Expr} {fr:ak->M (List Dat)} {p pos:Pos} {E:XK} {CX:CXT}
theorem tw {k nN n:Nat} {fad:Addr} {fd:FuncData} {ps:List Str} {g:ak->M Flo} (F:cD X.prog X.w X.K X.mg X.base CX k fad fd ps (spX K ro (cw nN n g) n)) (hx:Passes CX X E) (hr:l5 k X.A) (hm:X.mg x=some (.ref fad)) (hk:keepIn X.K (.ref fad)=true) (hb:Binds X.K fd ps [])
  (ha:DA K (WE K E) X (e::es) fr) (hg:Gl X x:=by rfl) (hdb:(x==("__debug__":Str))=false:=by decide) (hst:starEach (e::es) X.env=(false,eval e X.env)::starEach es X.env:=by rfl) (hpl:(backTo pos (starEach es X.env)).any (·.1)=false:=by rfl) :
  DE K (WE K E) ro X (.Call (.Name x p) (e::es) [] pos) (fL (cw nN n g) fr):=by
 refine PE.imp (sD F hr hg hm hk hb .nil hx ha hdb hst hpl) fun σ H Q h=>?_
 obtain ⟨F,ρ,r,s,p⟩:=rd_L h
 refine ⟨F,ρ,r,s,?_⟩
 cases e1:fr ρ with
 |error z=>rw [e1] at p;exact p
 |ok ds=>
  rw [e1] at p
  intro vs F' H' st q
  obtain ⟨F1,es1,s1,q1,z⟩:=p vs F' H' st q
  show spX K ro (cw nN n g) n (vs++[]) H' Q E
  rw [List.append_nil]
  by_cases hl:es1.length=n
  ·exact ⟨F1,es1,s1,q1,hl,z⟩
  ·rw [pz hl] at z
   exact aL.stuck z
end
section
variable {P:Program} {w:World} {K:PySem.W.Frag} {mg:Str->Option Value} {base:Heap}
theorem fn_X {x qual:Str} {st:Stmt} {f:Addr} {fd:FuncData} {N ps:List Str} {k:Nat} {O':List Nat} (F:Fun K x qual st f fd) (S:aF N ps (aq st)) (ro:Bool) (g:ak->M Flo)
  (hb:∀(cdv:Value) (A:Around) (outer:List Env) (s:Shared) (H:Hp) (E:XK),l5 k (A.deeper (envOfC qual (aq st) s.heap.objs.size f cdv)) ->
   DSs K (WE K E) ro (yz (CXd P w) P w K mg base N qual (aq st) f cdv A outer s H E) [] [] O' (cv st) g):cD P w K mg base (CXd P w) (k+1) f fd ps (spX K ro (cw N.length ps.length g) ps.length):=by
 obtain ⟨oc,od,kV,doc,pm,an,cdv,ct,osl,rfl,lk,hcd⟩:=F.ex
 refine fn_of lk hcd S (fun vs H Q E ⟨F,ds,s,q,l,p⟩=>by rw [q.length,l]) fun A outer s H vs Q E hr ⟨F1,ds,s1,q,l,p⟩=>⟨_,hb cdv A outer s H E hr F1 H,F1,F1,ds.map some++List.replicate (N.length-ds.length) none,?_,?_⟩
 ·refine ⟨Step.refl s1,aU.refl _,?_,fun i d e _=>u7 q e,(fun i d e h=>nomatch h),(fun i j ds es a h=>nomatch h)⟩
  unfold start
  rw [List.length_append,List.length_append,List.length_map,List.length_map,List.length_replicate,List.length_replicate,q.length]
 ·have e1:cw N.length ps.length g ds=(g (ds.map some++List.replicate (N.length-ds.length) none)).bind fun fl=>match fl with
   |.nx _=>.ok .non
   |.rt d=>.ok d
   |_=>stk:=by
    unfold cw
    exact if_pos l
  rw [e1] at p
  cases e2:g (ds.map some++List.replicate (N.length-ds.length) none) with
  |error z=>rw [e2] at p;exact p
  |ok fl=>
   rw [e2] at p
   cases fl with
   |nx ρ=>exact fun σ F H r=>p .non F H r.st (by cases ro<;>rfl)
   |rt d=>exact fun v F H st q=>p v F H st q
   |bk ρ=>exact aL.stuck p
   |ct ρ=>exact aL.stuck p
end
end L2
namespace L2
open PySem PySem.Spec PyProof.Rows
section
variable {X:Cx} {pins:List (Addr×Obj)} {σ:St} {H:Hp} {s:Shared} {a:Addr} {C:Value} {dx hd:Option Addr}
structure Apart (X:Cx) (pins:List (Addr×Obj)) (H:Hp) (s:Shared) (a:Addr) (hd:Option Addr):Prop where
 na:X.s₀.heap.get? a=none
 fa:H a=none
 pa:∀p∈X.pn++pins,p.1≠a
 nT:∀T,hd=some T->X.s₀.heap.get? T=none/\H T=none/\∀p∈X.pn++pins,p.1≠T
theorem Inv.left {h':Heap} (I:Inv X pins σ H s) (hx:X.ex=[]) (x:ExA s.heap a C dx hd) (ap:Apart X pins H s a hd) (lf:Left (frs X.stack) a hd s.heap h'):Inv X pins σ H {s with heap:=h'}:=by
 have e0:=I.env0
 obtain ⟨oe,vs,he,_,_,hdt,_⟩:=x.ob
 have nof:∀b o,s.heap.get? b=some o->(∀vs,o.data≠.fields vs)->b≠a/\∀T,hd=some T->b≠T:=fun b o e n=>by
  refine ⟨fun z=>?_,fun T hT z=>?_⟩
  ·subst z
   rw [he] at e
   cases e
   exact n vs hdt
  ·subst z
   obtain ⟨_,oT,ts,h1,h2,_⟩:=x.tb _ hT
   rw [h1] at e
   cases e
   exact n ts h2
 have stk:∀b∈frs X.stack,H b=none:=e0.frf
 have any:∀b o,s.heap.get? b=some o->(∀vs,o.data≠.fields vs)->∃sl,h'.get? b=some {o with slots:=sl}:=fun b o e n=>by
  obtain ⟨z1,z2⟩:=nof b o e n
  by_cases hb:b∈frs X.stack
  ·exact lf.slot b o e hb
  ·exact ⟨o.slots,lf.keep b o e hb z1 z2⟩
 have old:∀b o,X.s₀.heap.get? b=some o->b≠a/\∀T,hd=some T->b≠T:=fun b o e=>
  ⟨fun z=>(by subst z;rw [ap.na] at e;cases e),fun T hT z=>(by subst z;rw [(ap.nT _ hT).1] at e;cases e)⟩
 have up:s.heap.UpToSlots h':=any
 have loc0:X.s₀.heap.get? X.env.locals=none:=get_none I.ok.above
 have out:∀b,b≠X.env.locals->b∉X.fs->b∉frs X.stack:=fun b h1 h2 h3=>by
  rcases List.mem_cons.mp (I.rh b h3) with z|z
  ·exact h1 z
  ·exact h2 z
 have cel:∀c v,s.heap.IsCell c v->h'.IsCell c v:=fun c v ⟨o,h1,h2⟩=>by
  obtain ⟨sl,z⟩:=any c o h1 (fun vs q=>by rw [h2] at q;cases q)
  exact ⟨_,z,h2⟩
 refine ⟨I.ok,I.os,I.bare,?_,?_,fun x c e=>?_,I.free,I.freeC,fun p hp=>?_,?_,I.len⟩
 ·have go:∀b o,X.s₀.heap.get? b=some o->∀o',s.heap.get? b=some o'->∃sl,h'.get? b=some {o' with slots:=sl}:=fun b o e o' e'=>by
   obtain ⟨z1,z2⟩:=old b o e
   by_cases hb:b∈frs X.stack
   ·exact lf.slot b o' e' hb
   ·exact ⟨o'.slots,lf.keep b o' e' hb z1 z2⟩
  refine ⟨fun b o e n hb hx'=>?_,fun b o e n hb hx'=>?_,I.base.free,fun b o e hx'=>?_,I.base.tups,I.base.frzs,I.base.tbls⟩
  ·obtain ⟨z1,z2⟩:=old b o e
   exact lf.keep b o (I.base.keep b o e n hb hx') (out b (fun z=>by rw [z,loc0] at e;cases e) hb) z1 z2
  ·obtain ⟨sl,e1⟩:=I.base.slot b o e n hb hx'
   obtain ⟨sl2,e2⟩:=go b o e _ e1
   exact ⟨sl2,e2⟩
  ·obtain ⟨o',e1⟩:=I.base.there b o e hx'
   obtain ⟨sl2,e2⟩:=go b o e _ e1
   exact ⟨_,e2⟩
 ·obtain ⟨m,hn,hl⟩:=I.loc
  refine ⟨m,up.ns hn,fun i x v e1 e2 e3=>?_⟩
  obtain ⟨u,r,lk⟩:=hl i x v e1 e2 e3
  refine ⟨u,r,?_⟩
  rcases lk with z|⟨z,c,c1,c2⟩
  ·exact .inl z
  ·exact .inr ⟨z,c,c1,cel c _ c2⟩
 ·obtain ⟨v,z⟩:=I.cell x c e
  exact ⟨v,cel c v z⟩
 ·obtain ⟨p1,p2,p3,p4,p5⟩:=I.pin p hp
  exact ⟨lf.keep p.1 p.2 p1 (out p.1 p3 p4) (ap.pa p hp) fun T hT=>(ap.nT T hT).2.2 p hp,p2,p3,p4,p5⟩
 ·intro b o e
  refine (I.hok b o e).vH (fun c u hc e1=>?_) (fun _ z=>z) fun _ _ z=>z
  have hcn:H c≠none:=by
   rcases hc with z|z
   ·rw [z,e];exact fun z=>nomatch z
   ·rw [z];exact fun z=>nomatch z
  exact lf.keep c u e1 (fun z=>hcn (stk c z)) (fun z=>hcn (by rw [z];exact ap.fa)) fun T hT z=>hcn (by rw [z];exact (ap.nT T hT).2.1)
end
noncomputable def PEat (X:Cx) (pins:List (Addr×Obj)) (σ:St) (e:Expr) (t:TE):Prop:=∀(s:Shared) (H:Hp) (Q:VK),Inv X pins σ H s->t σ H Q->wpAny (model X.prog X.w) X.A (eval e X.env) (EP X pins σ Q) X.xe s
noncomputable def PSat (X:Cx) (pins:List (Addr×Obj)) (σ:St) (st:Stmt) (t:TS):Prop:=∀(s:Shared) (H:Hp) (D:Ends),Inv X pins σ H s->t D σ H->wpAny (model X.prog X.w) X.A (exec st X.env) (SP X pins D) X.xe s
noncomputable def PSsAt (X:Cx) (pins:List (Addr×Obj)) (σ:St) (st:List Stmt) (t:TS):Prop:=∀(s:Shared) (H:Hp) (D:Ends),Inv X pins σ H s->t D σ H->wpAny (model X.prog X.w) X.A (execs st X.env) (SP X pins D) X.xe s
noncomputable def mE (CX:CXT) (X:Cx) (pins:List (Addr×Obj)) (σ:St) (E:XK):Prop:=∀(H:Hp) (s:Shared) (e:Value) (s':Shared),Inv X pins σ H s->CX X.stack H s E e s'->X.xe e s'
section
variable {X:Cx} {pins:List (Addr×Obj)} {σ:St} {st:Stmt} {t u:TS} {pos:Pos}
theorem at_one (h:PSat X pins σ st t):PSsAt X pins σ [st] t:=fun s H D I q=>by
 refine wpAny_execs_cons (thn (h s H D I q) fun f s1 z=>?_)
 cases f with
 |next=>exact wpAny_execs_nil z
 |_=>exact z
theorem at_set {i:Nat} {x:Str} {e:Expr} {te:TE} {pos':Pos} (hN:X.N.Nodup) (hi:X.N[i]? =some x) (hx:Loc X.env.scope x) (he:PEat X pins σ e te) (hs:swapsWith e (some (.Name x pos')) pos.line X.env=pure false:=by rfl) (hf:X.fn x=true\/X.env.scope.names.lookup x=some .local:=by first|exact .inl rfl|exact .inr rfl|assumption) :
  PSat X pins σ (.Assign [.Name x pos'] e pos) (tAsg te (pZ i)):=fun s H D I q=>
 wpAny_Assign_Name (thn (he s H _ I q) fun v s1 ⟨y,H1,I1,r1,q1⟩=>nE I1 hN hi hx r1 (fun s2 I2=>⟨_,H1,I2,q1⟩) hf) hs
end
section
variable {X:Cx} {pins:List (Addr×Obj)} {σ:St} {CX:CXT} {k:Nat} {f C:Addr} {fd:FuncData} {ps:List Str} {sp:Sp} {dvs:List V} {ds:List Value} {E:XK} {x m:Str} {p pos apos:Pos} {e o:Expr} {es:List Expr} {ta:TE} {t:TA}
theorem at_run {H:Hp} {s:Shared} {Q:VK} {us:List Value} {vs:List V} (F:cD X.prog X.w X.K X.mg X.base CX k f fd ps sp) (hr:l5 k X.A) (hb:Binds X.K fd ps ds) (hd:Vals dvs ds) (hx:mE CX X pins σ E)
  (I:Inv X pins σ H s) (r:Vals vs us) (h:sp (vs++dvs) H Q E):wpAny (model X.prog X.w) X.A (call (.ref f) us) (EP X pins σ Q) X.xe s:=by
 have v2:=r.append hd
 refine wpAny_call (codeAny_mono (F.run _ _ s H ⟨us,[]⟩ _ _ Q E hr I.env0 (hb s us I.kIn (v2.length.symm.trans (F.len _ _ _ _ h))) v2 h) fun z s' hq=>?_)
 cases z with
 |error e=>exact hx H s e s' I hq
 |ok fl=>
  cases fl with
  |ret u=>exact I.after hq
  |_=>exact False.elim hq
theorem at_call (F:cD X.prog X.w X.K X.mg X.base CX k f fd ps sp) (hx:mE CX X pins σ E) (hr:l5 k X.A) (hm:X.mg x=some (.ref f)) (hk:keepIn X.K (.ref f)=true) (hb:Binds X.K fd ps ds) (hd:Vals dvs ds) (ha:PA X (e::es) t) (hg:Gl X x:=by rfl)
  (hdb:(x==("__debug__":Str))=false:=by decide) (he:starEach (e::es) X.env=(false,eval e X.env)::starEach es X.env:=by rfl) (hpl:(backTo pos (starEach es X.env)).any (·.1)=false:=by rfl) :
  PEat X pins σ (.Call (.Name x p) (e::es) [] pos) (tCall sp dvs E t):=fun s H Q I q=>
 wpAny_Call_Name_kw (kn I hg hm (callWith_K (h₀:=X.base) I.ok.mod.kin hk (thn (ha pos pins s σ H _ I q) fun us s1 ⟨vs,H1,I1,r,q1⟩=>⟨I1.kIn,at_run F hr hb hd hx I1 r q1⟩) he hpl) hdb)
end
end L2
namespace L2
open PySem PySem.Spec PyProof.Rows
section
variable {X:Cx} {pins:List (Addr×Obj)} {σ:St} {H:Hp} {s:Shared}
theorem Inv.names {h':Heap} {m:Str->Option Value} {σ':St} (I:Inv X pins σ H s) (hn:h'.Ns X.env.locals m) (hs:Heap.SameBut X.env.locals s.heap h') (hl:σ'.length=X.N.length)
  (hv:∀(i:Nat) (x:Str) (v:V),X.N[i]? =some x->σ'[i]? =some (some v)->Vis X.env.scope x->∃u,RelV v u/\Look X.env s.heap m x u):Inv X pins σ' H {s with heap:=h'}:=by
 have far:∀b o,X.s₀.heap.get? b=some o->b≠X.env.locals:=fun b o e z=>by
  subst z
  exact absurd (Heap.lt_size e) (Nat.not_lt.mpr I.ok.above)
 have cel:∀x c v,X.env.cells.lookup x=some c->s.heap.IsCell c v->h'.IsCell c v:=fun x c v e z=>z.sameBut hs (I.cne x c e)
 refine ⟨I.ok,I.os,I.bare,⟨fun b o e n hb hx=>?_,fun b o e n hb hx=>?_,I.base.free,fun b o e hx=>?_,I.base.tups,I.base.frzs,I.base.tbls⟩,⟨m,hn,fun i x v e1 e2 e3=>?_⟩,fun x c e=>?_,I.free,I.freeC,fun p hp=>?_,fun b o e=>?_,hl⟩
 ·show h'.get? b=_
  rw [hs.2 b (far b o e)];exact I.base.keep b o e n hb hx
 ·obtain ⟨sl,z⟩:=I.base.slot b o e n hb hx
  refine ⟨sl,?_⟩
  show h'.get? b=_
  rw [hs.2 b (far b o e)];exact z
 ·obtain ⟨o',z⟩:=I.base.there b o e hx
  refine ⟨o',?_⟩
  show h'.get? b=_
  rw [hs.2 b (far b o e)];exact z
 ·obtain ⟨u,r,lk⟩:=hv i x v e1 e2 e3
  refine ⟨u,r,?_⟩
  rcases lk with z|⟨z,c,c1,c2⟩
  ·exact .inl z
  ·exact .inr ⟨z,c,c1,cel x c _ c1 c2⟩
 ·obtain ⟨v,z⟩:=I.cell x c e
  exact ⟨v,cel x c v e z⟩
 ·obtain ⟨p1,p2,p3,p4,p5⟩:=I.pin p hp
  refine ⟨?_,p2,p3,p4,p5⟩
  show h'.get? p.1=_
  rw [hs.2 p.1 p3];exact p1
 ·refine (I.hok b o e).vH (fun c u hc e1=>?_) (fun _ z=>z) fun _ _ z=>z
  show h'.get? c=_
  rw [hs.2 c fun z=>?_]
  ·exact e1
  ·rcases hc with y|y
   ·rw [<- y,z,I.free] at e;cases e
   ·rw [z,I.free] at y;cases y
theorem sZ {M:Model} {A:Around} {E:Value->Shared->Prop} {i:Nat} {x:Str} {pos:Pos} {Q:Unit->Shared->Prop} (I:Inv X pins σ H s) (hN:X.N.Nodup) (hi:X.N[i]? =some x) (hk:X.env.scope.names.lookup x=some .local)
  (h:∀s',Inv X pins (σ.set i none) H s'->Q () s'):wpAny M A (do bindName X.env x .none;unbindBehindTheSuite X.env x pos) Q E s:=by
 have hcls:(X.env.scope.kind==.class||(X.env.scope.kind==.module&&X.env.locals != X.env.globals))=false:=by rw [I.ok.kind];rfl
 have hil:i<σ.length:=by rw [I.len];exact (List.getElem?_eq_some_iff.mp hi).1
 refine wpAny_bind (wpAny_bindName (nE I hN hi (.inl hk) (v:=.non) rfl (fun s1 I1=>?_) (.inr hk)))
 unfold unbindBehindTheSuite
 refine wpAny_onRaise ?_
 obtain ⟨m,hn,hl⟩:=id I1.loc
 obtain ⟨u,_,lk⟩:=hl i x .non hi (by rw [List.getElem?_set_self hil]) (.inl hk)
 have hmx:m x=some u:=by
  rcases lk with z|⟨z,_⟩
  ·exact z.2
  ·have hkk:X.env.kindOf x=some .local:=hk
   rw [hkk] at z
   rcases z with z|z<;>cases z
 refine wpAny_unbindName_local hk hn hmx hcls fun h' u' hn' hs=>h _ (I1.names hn' hs (by rw [List.length_set];exact I.len) fun j y v e1 e2 e3=>?_)
 have hij:i≠j:=fun z=>by
  subst z
  rw [List.getElem?_set_self hil] at e2
  cases e2
 rw [List.getElem?_set_ne hij] at e2
 obtain ⟨w,r,lk⟩:=hl j y v e1 (by rw [List.getElem?_set_ne hij];exact e2) e3
 refine ⟨w,r,?_⟩
 rcases lk with ⟨z1,z2⟩|z
 ·have hyx:y≠x:=fun z=>hij (sS hN hi (z▸e1))
  exact .inl ⟨z1,by simp [hyx,z2]⟩
 ·exact .inr z
end
end L2
namespace L2
open PySem PySem.Spec PyProof.Rows
noncomputable def vb (K:PySem.W.Frag) (C:Addr) (bmB:List Value):Prop:=∀h:Heap,K.In h->∃tl N nm qn bs hdct sn sub ab col dd k0 k1 k2 k3 k5 newId,h.get? C=some (excClassObj nm qn C N bs tl hdct sn sub ab col dd k0 k1 k2 k3 k5 newId)/\OwnTail h bmB tl
noncomputable abbrev Cx.hand (X:Cx) (a:Addr) (oe:Obj):Cx:={X with A:=X.A.mark (some (.ref a)),calm:=false,xe:=fun _ _=>False,pn:=(a,oe)::X.pn}
section
variable {X:Cx} {pins:List (Addr×Obj)} {σ:St} {H:Hp} {s:Shared} {a T:Addr} {C:Value} {dx:Option Addr} {oe:Obj}
theorem Inv.hand {vs:Array Value} (I:Inv X pins σ H s) (he:s.heap.get? a=some oe) (hd:oe.data=.fields vs) (na:X.s₀.heap.get? a=none) (fa:H a=none):Inv (X.hand a oe) pins σ H s:=by
 have ok:=I.ok
 refine ⟨⟨ok.mod,ok.kind,ok.glob,ok.blt,ok.above,ok.inj,ok.has,ok.cab,(fun z=>nomatch z),ok.frames,ok.stk,ok.exf,ok.bs,ok.bsz,ok.noex,ok.exfs,ok.uM,ok.frf⟩,I.os,I.bare,I.base,I.loc,I.cell,I.free,I.freeC,fun p hp=>?_,I.hok,I.len⟩
 rcases List.mem_cons.mp (show p∈(a,oe)::(X.pn++pins) from hp) with z|z
 ·subst z
  refine ⟨he,fa,fun z=>?_,fun hm=>?_,fun v z=>?_⟩
  ·obtain ⟨m,⟨o,es,ep,h1,h2,_⟩,_⟩:=I.loc
   have z:a=X.env.locals:=z
   rw [<- z,he] at h1
   cases h1
   rw [hd] at h2
   cases h2
  ·obtain ⟨_,o,h1,_⟩:=ok.uM.mem hm
   have h1:X.s₀.heap.get? a=some o:=h1
   rw [na] at h1
   cases h1
  ·have z:oe.data=.cell v:=z
   rw [hd] at z
   cases z
 ·exact I.pin p z
theorem Inv.wW (J:Inv (X.hand a oe) pins σ H s) (ok:X.Ok):Inv X pins σ H s:=
 ⟨ok,J.os,J.bare,J.base,J.loc,J.cell,J.free,J.freeC,fun p hp=>J.pin p (List.mem_cons_of_mem _ hp),J.hok,J.len⟩
theorem Ad {M:Model} {A:Around} {E:Value->Shared->Prop} {base:Heap} {l:List Env} {Q:Unit->Shared->Prop} (hl:s.heap.FunFrames base l) (x:ExA s.heap a C dx (some T))
  (h:∀h',ExA h' a C dx (some T)->Left (frs l) a (some T) s.heap h'->h'.get? a=s.heap.get? a->Q () {s with heap:=h'}):wpAny M A (setFlight (.ref a) none) Q E s:=by
 obtain ⟨o,vs,he,hc,hdx,hdt,h1⟩:=x.ob
 obtain ⟨nT,oT,ts,hT,hdT,h3⟩:=x.tb T rfl
 have hs3:3<ts.size:=(Array.getElem?_eq_some_iff.mp h3).1
 unfold setFlight
 refine wpAny_bind (wpAny_field he hdt (x:=.ref T) h1 ?_)
 rw [if_pos (by simp)]
 refine wpAny_setField hT hdT hs3 ?_
 have oth:∀b,b≠T->(s.heap.update T (Obj.mapFields (·.setIfInBounds 3 ((none:Option Addr).elim Value.none fun f=>rawInt f)))).get? b=s.heap.get? b:=fun b hb=>Heap.get?_update_other _ _ (Ne.symm hb)
 have dT:=Obj.data_mapFields hdT (·.setIfInBounds 3 ((none:Option Addr).elim Value.none fun f=>rawInt f))
 refine h _ ⟨⟨o,vs,by rw [oth a (Ne.symm nT)];exact he,hc,hdx,hdt,h1⟩,fun T' hT'=>?_⟩ ⟨fun b o' q _ _ hb=>by rw [oth b (hb T rfl)];exact q,fun b o' q hb=>?_,?_⟩ (oth a (Ne.symm nT))
 ·cases hT'
  exact ⟨nT,_,_,Heap.get?_update_self _ hT (Obj.isFreed_of_fields dT),dT,by simp [hs3]⟩
 ·obtain ⟨_,o2,ho2,n⟩:=hl.mem hb
  have hbT:b≠T:=fun z=>by
   subst z
   rw [hT] at ho2
   cases ho2
   exact n ts hdT
  exact ⟨o'.slots,by rw [oth b hbT];exact q⟩
 ·rw [Heap.size_update]
  exact Nat.le_refl _
end
noncomputable def Ends.less (D:Ends) (i:Nat):Ends:={nx:=fun σ H=>D.nx (σ.set i none) H,rt:=D.rt,bk:=fun σ H=>D.bk (σ.set i none) H,ct:=fun σ H=>D.ct (σ.set i none) H}
section
variable {X:Cx} {pins:List (Addr×Obj)} {σ:St} {H:Hp} {s:Shared} {a T C:Addr} {dx:Option Addr} {c n:Str} {i:Nat} {np pos:Pos} {b₀:Stmt} {suite:List Stmt} {ts:TS} {D:Ends} {bmB:List Value}
theorem AQ (I:Inv X pins σ H s) (x:ExA s.heap a (.ref C) dx (some T)) (ap:Apart X pins H s a (some T)) (hex:X.ex=[]) (hC:vb X.K C bmB) (hB:bmB.contains (.type "BaseException")=true)
  (hg:Gl X c) (hm:X.mg c=some (.ref C)) (hN:X.N.Nodup) (hi:X.N[i]? =some n) (hk:X.env.scope.names.lookup n=some .local)
  (hs:∀oe:Obj,oe.cls=.ref C->oe.dict=dx->(∃vs,oe.data=.fields vs)->PSs (X.hand a oe) (b₀::suite) ts) (q:ts (D.less i) (σ.set i (some (.ref a))) H) (hdb:(c==("__debug__":Str))=false:=by decide) :
  wpAny (model X.prog X.w) X.A (handleBy (.ref a) X.env [.ExceptHandler (some (.Name c np)) (some n) (b₀::suite) pos]) (SP X pins D) X.xe s:=by
 obtain ⟨oe,vs,he,hcl,hdx,hdt,h1⟩:=x.ob
 have J:=I.hand he hdt ap.na ap.fa
 refine wpAny_handleBy_cons (codeAny_handlers_test (kn (X:=X.hand a oe) J hg hm ?_ hdb)) (by intro z;cases z)
 obtain ⟨tl,N,nm,qn,bs,hdct,sn,sub,ab,col,dd,k0,k1,k2,k3,k5,newId,o1,o4⟩:=hC _ I.kIn
 have e0:=I.env0
 obtain ⟨hh,gg,d,tk,os⟩:=s
 refine wpAny_excMatches_sub_self o1 he hcl (o4.hasType hB) (codeAny_handlers_suite_as ?_)
 refine Ad (base:=X.base) (l:=X.stack) e0.uM x fun h' x' lf ea=>?_
 have I2:=I.left hex x ap lf
 have he2:h'.get? a=some oe:=by rw [ea];exact he
 have J2:=I2.hand he2 hdt ap.na ap.fa
 refine nE (X:=X.hand a oe) J2 hN hi (.inl hk) (v:=.ref a) rfl (fun s3 J3=>?_) (.inr hk)
 refine wpAny_mono (hs oe hcl hdx ⟨vs,hdt⟩ pins s3 _ H (D.less i) J3 q) (fun f s4 z=>?_) fun _ _ z=>z.elim
 cases f with
 |next=>
  obtain ⟨σ',H',J4,q4⟩:=z
  exact sZ (J4.wW I.ok) hN hi hk fun s5 I5=>⟨_,H',I5,q4⟩
 |brk=>
  obtain ⟨σ',H',J4,q4⟩:=z
  exact sZ (J4.wW I.ok) hN hi hk fun s5 I5=>⟨_,H',I5,q4⟩
 |cont=>
  obtain ⟨σ',H',J4,q4⟩:=z
  exact sZ (J4.wW I.ok) hN hi hk fun s5 I5=>⟨_,H',I5,q4⟩
 |ret u=>
  obtain ⟨v,σ',H',J4,r,q4⟩:=z
  exact sZ (J4.wW I.ok) hN hi hk fun s5 I5=>⟨v,_,H',I5,r,q4⟩
end
end L2
namespace L2
open PySem PySem.Spec PyProof.Rows
noncomputable def EH (i:Nat) (C:Addr) (ts:Addr->Option Addr->TS) (D:Ends) (σ:St):XK:=fun Cv dx H'=>Cv=.ref C/\∀a,H' a=none->ts a dx (D.less i) (σ.set i (some (.ref a))) H'
noncomputable def tTry (tb:XK->TS) (i:Nat) (C:Addr) (ts:Addr->Option Addr->TS):TS:=fun D σ H=>tb (EH i C ts D σ) D σ H
section
variable {X:Cx} {C:Addr} {c n:Str} {i:Nat} {np hpos pos:Pos} {b₀:Stmt} {body suite:List Stmt} {ts:Addr->Option Addr->TS} {tb:XK->TS} {bmB:List Value}
theorem ps_try (hb:∀(pins:List (Addr×Obj)) (σ:St) (E:XK) (xe:Value->Shared->Prop),mE (CXd X.prog X.w) (X.tR xe) pins σ E->PSsAt (X.tR xe) pins σ body (tb E))
  (hs:∀(a:Addr) (oe:Obj),oe.cls=.ref C->(∃vs,oe.data=.fields vs)->PSs (X.hand a oe) (b₀::suite) (ts a oe.dict))
  (hC:vb X.K C bmB) (hB:bmB.contains (.type "BaseException")=true) (hm:X.mg c=some (.ref C)) (hN:X.N.Nodup) (hi:X.N[i]? =some n:=by rfl) (hk:X.env.scope.names.lookup n=some .local:=by rfl)
  (hg:Gl X c:=by rfl) (hex:X.ex=[]:=by rfl) (hstk:X.stack=X.env::X.outer:=by rfl) (hfr:X.env.frame=some X.env.locals:=by rfl) (hdb:(c==("__debug__":Str))=false:=by decide) :
  PS X (.Try body [.ExceptHandler (some (.Name c np)) (some n) (b₀::suite) hpos] [] [] pos) (tTry tb i C ts):=by
 intro pins s σ H D I h
 refine wpAny_Try_except (thn (hb pins σ (EH i C ts D σ) (fun e s₁=>wpAny (model X.prog X.w) X.A (noteFrame e X.env) (fun _ s₂=>wpAny (model X.prog X.w) X.A (setFlight e none) (fun _ s₃=>wpAny (model X.prog X.w) X.A (handleBy e X.env [.ExceptHandler (some (.Name c np)) (some n) (b₀::suite) hpos]) (SP X pins D) X.xe s₃) X.xe s₂) X.xe s₁) ?_ s H D (I.tR _) h) fun f s1 z=>?_)
 ·rintro H1 s1 e s' I1' ⟨a,T,Cv,dx,H',rfl,z⟩
  have I1:=I1'.lD
  obtain ⟨rfl,q⟩:=z.want
  have J:Inv X pins σ H' s':=I1.call' z.os z.un z.hok z.bare (fun _ h=>nomatch h)
  have off:∀b,s1.heap.get? b=none->∀p∈X.pn++pins,p.1≠b:=fun b e p hp w=>by
   have:=(I1.pin p hp).1
   rw [w,e] at this
   cases this
  have ap:Apart X pins H' s' a (some T):=⟨I1.pq hex z.na,z.fa,off a z.na,fun T' hT=>by cases hT;exact ⟨I1.pq hex z.nT,z.fT,off T z.nT⟩⟩
  have e0:=J.env0
  have f1:=e0.frames
  have f2:=e0.uM
  rw [hstk] at f1 f2
  refine leave2 (base:=X.base) f1 f2 hfr z.ex fun h' T2 x' hT lf=>?_
  rw [<- hstk] at lf
  have I2:=J.left hex z.ex ap lf
  have ap2:Apart X pins H' {s' with heap:=h'} a (some T2):=⟨ap.na,ap.fa,ap.pa,fun T' hT'=>by
   cases hT'
   refine ⟨get_none (Nat.le_trans J.sz hT),J.hok.fresh hT,fun p hp w=>?_⟩
   have:=Heap.lt_size (J.pin p hp).1
   rw [w] at this
   exact absurd this (Nat.not_lt.mpr hT)⟩
  exact AQ I2 x' ap2 hex hC hB hg hm hN hi hk (fun oe h1 h2 h3=>by rw [<- h2];exact hs a oe h1 h3) (q a z.fa) hdb
 ·have z:=SP.lD z
  cases f with
  |next=>exact wpAny_execs_nil z
  |_=>exact z
end
end L2
namespace L2
open PySem PySem.Spec PyProof.Rows
end L2
namespace L2
open PySem PySem.Spec PyProof.Rows
section
open PySem.W
variable {prog:Program} {w:World} {A:Around} {E:Value->Shared->Prop} {h:Heap} {g:Array GenState} {d:Drawn} {t:Nat} {os:OsState} {a C:Addr} {oe:Obj} {od:Option Obj} {K:Frag} {bmB:List Value} {B:String}
theorem xcls_by {tk:Tok} {Q:Value->Shared->Prop} (FB:ExcAttrBase B bmB) (kX:K.In h) (I:W.InstAt h a oe C od) (e1:findIn K (.ref C) "__getattribute__"=some (some (.builtin "BaseException.__getattribute__")))
  (e3:findIn K (.ref C) "__getattr__"=some none)
  (hq:∀R:Result->Shared->Prop,R (.ok (.ret (.ref C))) ⟨h,g,d,t,os⟩->codeAny (model prog w) A (.call (.builtin "BaseException.__getattribute__") ⟨[.ref a,.str "__class__" tk],[]⟩) R ⟨h,g,d,t,os⟩) (q:Q (.ref C) ⟨h,g,d,t,os⟩) :
  wpAny (model prog w) A (getAttrBy (.ref a) (.str "__class__" tk) false) Q E ⟨h,g,d,t,os⟩:=by
 have m0:=I.type (M:=model prog w)
 have m1:=looks_findIn (M:=model prog w) kX e1
 have L2:=looks_findIn (M:=model prog w) kX e3
 have b3:=FB.ga.bind (.ref a)
 have nx:(Value.builtin "BaseException.__getattribute__"==Value.builtin "object.__getattribute__")=false:=by decide +kernel
 unfold getAttrBy
 repeat (any_goals (first|assumption|with_reducible refine m0.at ?_|with_reducible refine m1.at ?_|with_reducible refine L2.at ?_|wp_step))
 all_goals (refine hq _ ?_)
 repeat (any_goals (first|wp_step|assumption))
theorem rg {M:Model} {nameV:Value} {Q:Unit->Shared->Prop} (kX:K.In h) (I:W.InstAt h a oe C od) (hb:mroIn K C (.type "BaseException")=some true) (hq:Q () ⟨h,g,d,t,os⟩) :
  wpAny M A (checkBuiltinCall "BaseException.__getattribute__" ⟨[.ref a,nameV],[]⟩) Q E ⟨h,g,d,t,os⟩:=by
 have kd:builtinKind "BaseException.__getattribute__"=some .slot:=by decide +kernel
 have hs:splitId "BaseException.__getattribute__"=some ("BaseException","__getattribute__"):=by decide +kernel
 have m0:=I.type (M:=M)
 have m1:=looks_mroIn (M:=M) kX hb
 have ag:=F.args_bexc_ga (.ref a) nameV
 simp only [checkBuiltinCall,hs,kd]
 refine wpAny_bind ?_
 unfold isInstance
 repeat (first|with_reducible refine m0.at ?_|with_reducible refine m1.at ?_|wp_step)
 exact hq
theorem xO {tk:Tok} {Q:Fin->Shared->Prop} (kX:K.In h) (I:W.InstAt h a oe C od) (e2:findIn K (.ref C) "__class__"=some (some (.builtin "object.__class__"))) (hm:mroIn K C (.type "object")=some true) (hq:Q (.done (.ret (.ref C))) ⟨h,g,d,t,os⟩) :
  wpAny (model prog w) A (Builtin.«object.__getattribute__» ⟨[.ref a,.str "__class__" tk],[]⟩) Q E ⟨h,g,d,t,os⟩:=by
 have tc:Shared.TypeIs ⟨h,g,d,t,os⟩ (.builtin "object.__class__") "getset_descriptor":=F.typeOf_object_class
 have m0:=I.type (M:=model prog w)
 have m1:=looks_findIn (M:=model prog w) kX e2
 have p5:=F.typeOf_object_class
 have p6:=F.slot_gs_get.lookup
 have p7:=F.slot_gs_set.lookup
 repeat (any_goals (first|assumption|with_reducible refine m0.at ?_|with_reducible refine m1.at ?_|wp_step))
 refine W.class_get (s:=⟨h,g,d,t,os⟩) kX I hm ?_
 repeat (any_goals (first|wp_step|assumption))
theorem yF {Q:Option Value->Shared->Prop} (FB:ExcAttrBase B bmB) (kX:K.In h) (I:W.InstAt h a oe C od) (e1:findIn K (.ref C) "__getattribute__"=some (some (.builtin "BaseException.__getattribute__"))) (e2:findIn K (.ref C) "__class__"=some (some (.builtin "object.__class__"))) (e3:findIn K (.ref C) "__getattr__"=some none)
  (hb:mroIn K C (.type "BaseException")=some true) (hm:mroIn K C (.type "object")=some true) (hq:Q (some (.ref C)) ⟨h,g,d,t+1,os⟩):wpAny (model prog w) A (getAttr? (.ref a) "__class__") Q E ⟨h,g,d,t,os⟩:=by
 unfold getAttr? getAttrBy?
 refine wpAny_bind (wpAny_mkText (wpAny_bind (wpAny_attempt (xcls_by FB kX I e1 e3 (fun R hR=>codeAny_call_builtin FB.ga.plain F.entry_bexc_ga (rg kX I hb (xO kX I e2 hm hR))) ?_))))
 exact wpAny_pure hq
structure XIsi (K:Frag) (C:Addr):Prop where
 ga:findIn K (.ref C) "__getattribute__"=some (some (.builtin "BaseException.__getattribute__"))
 cl:findIn K (.ref C) "__class__"=some (some (.builtin "object.__class__"))
 gt:findIn K (.ref C) "__getattr__"=some none
 bs:mroIn K C (.type "BaseException")=some true
 ob:mroIn K C (.type "object")=some true
 is:∃cd,clsIn K C=some cd
theorem pC (FB:ExcAttrBase B bmB) (Z:XIsi K C):KitX K (.ref a) (.ref C) (fun h=>W.InstAt h a oe C od) where
 ty:=fun _ _ _ I=>I.type
 it:=fun _ _ X _=>by
  obtain ⟨cd,hc⟩:=Z.is
  unfold clsIn at hc
  split at hc
  ·next ho=>
   intro A' Q' E' s' k q
   unfold isType loadHead
   refine wpAny_bind (wpAny_loadPart (k C _ (X C _ ho)) ?_)
   exact wpAny_pure q
  ·cases hc
 ne:=fun hh tq d1 is n1 s1 X htp=>by
  obtain ⟨cd,hc⟩:=Z.is
  refine Bool.eq_false_iff.mpr (fun q=>?_)
  have e:C=tq:=Value.ref.inj (beq_iff_eq.mp q)
  subst e
  unfold clsIn at hc
  split at hc
  ·next ho=>
   cases (X C _ ho).symm.trans htp
  ·cases hc
 ca:=fun {_ _ _ _ _ s} X I k=>by
  obtain ⟨h,g,d,t,os⟩:=s
  exact yF FB X I Z.ga Z.cl Z.gt Z.bs Z.ob k
end
theorem sx:∀{ys:List Addr} {its:List Value},Vals (ys.map V.ref) its->its=ys.map Value.ref
 |[],_,.nil=>rfl
 |y::ys,_,.cons r rs=>by rw [sx rs,show _=Value.ref y from r];rfl
section
variable {X:Cx} {C a:Addr} {oe:Obj} {B:String} {bmB:List Value}
theorem AK (FB:ExcAttrBase B bmB) (Z:XIsi X.K C) (hc:oe.cls=.ref C) (hd:∃vs,oe.data=.fields vs) (hn:oe.dict=none):dS (X.hand a oe) (.builtin "isinstance") (fun xs H Q=>∃v b,xs=[.ref a,v] /\
  ((∃c,RelV v c/\(∀u,RelV v u->u=c)/\kitOne X.K (.ref C) c=some b)\/∃(tp:Addr) (ys:List Addr),v=.ref tp/\H tp=some (.tup (ys.map V.ref))/\kitAny X.K (.ref C) (ys.map Value.ref)=some b)/\Q (.bl b) H):=by
 intro pins s σ H xs us Q I r h
 obtain ⟨v,b,rfl,h1,q⟩:=h
 obtain ⟨u,w,rfl,ru,rw'⟩:=r.two
 cases (show u=Value.ref a from ru)
 have pa:=(I.pin (a,oe) (List.mem_cons_self ..)).1
 obtain ⟨vs,hdt⟩:=hd
 have J:PySem.W.InstAt s.heap a oe C none:=⟨pa,hc,by unfold PySem.W.notCls;rw [hdt],by rw [hn];trivial⟩
 rcases h1 with ⟨c,rc,uniq,e⟩|⟨tp,ys,rfl,ht,e⟩
 ·cases uniq w rw'
  exact kia_one (pC FB Z) I.kIn J e (fun z=>nomatch z) fun tk=>⟨.bl b,H,I.tok tk,rfl,q⟩
 ·cases (show w=Value.ref tp from rw')
  obtain ⟨_,its,rv,ob,z1,z2⟩:=(show dR X.prog X.w H s.heap tp (.tup (ys.map V.ref)) from I.hok tp _ ht)
  obtain ⟨z3,n,z4⟩:=z2
  have ei:its=ys.map Value.ref:=sx rv
  subst ei
  obtain ⟨oc,odd,odt,osl⟩:=ob
  have z5:oc=Value.type "tuple":=z3
  have z6:odt=.seq (ys.map Value.ref).toArray n:=z4
  subst z5 z6
  exact PySem.W.kia_tup (pC FB Z) I.kIn J z1 e (fun z=>nomatch z) fun tk=>⟨.bl b,H,I.tok tk,rfl,q⟩
end
end L2
namespace L2
open PySem PySem.Spec PyProof.Rows
noncomputable def tIsiX (i:Nat) (a:Addr) (b:Bool):TE:=fun σ H Q=>σ[i]? =some (some (.ref a))/\Q (.bl b) H
noncomputable def tIsiT (i:Nat) (a:Addr) (ys:List Addr) (b:Bool):TE:=fun σ H Q=>σ[i]? =some (some (.ref a))/\∀p,H p=none->Q (.bl b) (upd H p (.tup (ys.map V.ref)))
section
variable {X:Cx} {C a D:Addr} {oe:Obj} {B:String} {bmB:List Value} {i:Nat} {n x y T:Str} {p p1 p2 pos:Pos} {b:Bool}
theorem pe_isiO (FB:ExcAttrBase B bmB) (Z:XIsi X.K C) (hc:oe.cls=.ref C) (hd:∃vs,oe.data=.fields vs) (hn:oe.dict=none) (hm:X.mg "isinstance"=none) (hD:X.mg y=some (.ref D)) (hb:kitOne X.K (.ref C) (.ref D)=some b)
  (hN:X.N[i]? =some n:=by rfl) (hv:Vis X.env.scope n:=by first|exact Or.inl rfl|exact Or.inr (Or.inl rfl)|exact Or.inr (Or.inr rfl)) (hd1:(n==("__debug__":Str))=false:=by decide) (hd2:(n==("__classdict__":Str))=false:=by decide)
  (hg:Gl (X.hand a oe) "isinstance":=by rfl) (hgD:Gl (X.hand a oe) y:=by rfl) (hd3:(y==("__debug__":Str))=false:=by decide)
  (hst:starEach [.Name n p1,.Name y p2] X.env=[(false,eval (.Name n p1) X.env),(false,eval (.Name y p2) X.env)]:=by rfl) (hst2:starEach [.Name y p2] X.env=[(false,eval (.Name y p2) X.env)]:=by rfl) (hpl:(backTo pos (starEach [.Name y p2] X.env)).any (·.1)=false:=by rfl) :
  PE (X.hand a oe) (.Call (.Name "isinstance" p) [.Name n p1,.Name y p2] [] pos) (tIsiX i a b):=by
 have vD:PE (X.hand a oe) (.Name y p2) (tC (.ref D)):=fun pins s σ H Q I h=>kn I hgD hD ⟨.ref D,H,I,rfl,h⟩ hd3
 refine PE.imp (fO (X:=X.hand a oe) (AK FB Z hc hd hn) hg hm boot_isinstance (aX (pv i hN hv hd1 hd2) (aX vD eF hst2) (by rw [hst,hst2])) (by decide) (by decide) (by rw [hst,hst2]) hpl) fun σ H Q h=>?_
 obtain ⟨e1,q⟩:=h
 exact ⟨.ref a,e1,.ref D,b,rfl,.inl ⟨.ref D,rfl,fun u hu=>hu,hb⟩,q⟩
end
noncomputable def tRefs (ys:List Addr):TA:=fun _ H Q=>Q (ys.map V.ref) H
section
variable {X:Cx} {C a D:Addr} {oe:Obj} {B:String} {bmB:List Value} {i:Nat} {n x y:Str} {T:String} {p p1 p2 pos:Pos} {b:Bool} {ys:List Addr} {es:List Expr}
theorem pe_isiB (FB:ExcAttrBase B bmB) (Z:XIsi X.K C) (hc:oe.cls=.ref C) (hd:∃vs,oe.data=.fields vs) (hn:oe.dict=none) (hm:X.mg "isinstance"=none) (hmT:X.mg y=none) (hvT:bootBuiltins y=some (.type T)) (hb:kitOne X.K (.ref C) (.type T)=some b)
  (hN:X.N[i]? =some n:=by rfl) (hv:Vis X.env.scope n:=by first|exact Or.inl rfl|exact Or.inr (Or.inl rfl)|exact Or.inr (Or.inr rfl)) (hd1:(n==("__debug__":Str))=false:=by decide) (hd2:(n==("__classdict__":Str))=false:=by decide)
  (hg:Gl (X.hand a oe) "isinstance":=by rfl) (hgT:Gl (X.hand a oe) y:=by rfl) (hy:y≠"__name__":=by decide) (hd3:(y==("__debug__":Str))=false:=by decide)
  (hst:starEach [.Name n p1,.Name y p2] X.env=[(false,eval (.Name n p1) X.env),(false,eval (.Name y p2) X.env)]:=by rfl) (hst2:starEach [.Name y p2] X.env=[(false,eval (.Name y p2) X.env)]:=by rfl) (hpl:(backTo pos (starEach [.Name y p2] X.env)).any (·.1)=false:=by rfl) :
  PE (X.hand a oe) (.Call (.Name "isinstance" p) [.Name n p1,.Name y p2] [] pos) (tIsiX i a b):=by
 refine PE.imp (fO (X:=X.hand a oe) (AK FB Z hc hd hn) hg hm boot_isinstance (aX (pv i hN hv hd1 hd2) (aX (zx (X:=X.hand a oe) (pos:=p2) hgT hmT hvT hy hd3) eF hst2) (by rw [hst,hst2])) (by decide) (by decide) (by rw [hst,hst2]) hpl) fun σ H Q h=>?_
 obtain ⟨e1,q⟩:=h
 exact ⟨.ref a,e1,.ty T,b,rfl,.inl ⟨.type T,rfl,fun u hu=>hu,hb⟩,q⟩
theorem pe_isiT {j} (FB:ExcAttrBase B bmB) (Z:XIsi X.K C) (hc:oe.cls=.ref C) (hd:∃vs,oe.data=.fields vs) (hn:oe.dict=none) (hm:X.mg "isinstance"=none) (hT:PA (X.hand a oe) es (tRefs ys)) (hl:ys.length<=sizeLine) (hb:kitAny X.K (.ref C) (ys.map Value.ref)=some b)
  (hN:X.N[i]? =some n:=by rfl) (hv:Vis X.env.scope n:=by first|exact Or.inl rfl|exact Or.inr (Or.inl rfl)|exact Or.inr (Or.inr rfl)) (hd1:(n==("__debug__":Str))=false:=by decide) (hd2:(n==("__classdict__":Str))=false:=by decide)
  (hg:Gl (X.hand a oe) "isinstance":=by rfl)
  (hst:starEach [.Name n p1,.Tuple es j p2] X.env=[(false,eval (.Name n p1) X.env),(false,eval (.Tuple es j p2) X.env)]:=by rfl) (hst2:starEach [.Tuple es j p2] X.env=[(false,eval (.Tuple es j p2) X.env)]:=by rfl) (hpl:(backTo pos (starEach [.Tuple es j p2] X.env)).any (·.1)=false:=by rfl) :
  PE (X.hand a oe) (.Call (.Name "isinstance" p) [.Name n p1,.Tuple es j p2] [] pos) (tIsiT i a ys b):=by
 refine PE.imp (fO (X:=X.hand a oe) (AK FB Z hc hd hn) hg hm boot_isinstance (aX (pv i hN hv hd1 hd2) (aX (zy hT) eF hst2) (by rw [hst,hst2])) (by decide) (by decide) (by rw [hst,hst2]) hpl) fun σ H Q h=>?_
 obtain ⟨e1,q⟩:=h
 exact ⟨.ref a,e1,by rw [List.length_map];exact hl,fun tp htp=>⟨.ref tp,b,rfl,.inr ⟨tp,ys,rfl,ao,hb⟩,q tp htp⟩⟩
end
end L2
namespace L2
open PySem PySem.Spec PyProof.Rows
noncomputable def DEat (K:PySem.W.Frag) (E:XK) (own:Bool) (X:Cx) (pins:List (Addr×Obj)) (σ:St) (e:Expr) (f:ak->M Dat):Prop:=PEat X pins σ e (tD K (WE K E) own f)
noncomputable def DSat (K:PySem.W.Frag) (E:XK) (ro:Bool) (X:Cx) (OL O O':List Nat) (pins:List (Addr×Obj)) (σ:St) (st:List Stmt) (g:ak->M Flo):Prop:=∀F0 H0,PSsAt X pins σ st (tS K (WE K E) ro F0 H0 OL O O' g)
theorem PEat.imp {X:Cx} {pins:List (Addr×Obj)} {σ:St} {e:Expr} {t u:TE} (h:PEat X pins σ e t) (k:∀H Q,u σ H Q->t σ H Q):PEat X pins σ e u:=fun s H Q I q=>h s H Q I (k H Q q)
theorem PSat.imp {X:Cx} {pins:List (Addr×Obj)} {σ:St} {st:Stmt} {t u:TS} (h:PSat X pins σ st t) (k:∀D H,u D σ H->t D σ H):PSat X pins σ st u:=fun s H D I q=>h s H D I (k D H q)
section
variable {X:Cx} {pins:List (Addr×Obj)} {σ:St} {K:PySem.W.Frag} {ro:Bool} {x:Str} {e:Expr} {es:List Expr} {fr:ak->M (List Dat)} {p pos:Pos} {E:XK} {CX:CXT}
theorem dea_call {k nN n:Nat} {fad:Addr} {fd:FuncData} {ps:List Str} {g:ak->M Flo} (F:cD X.prog X.w X.K X.mg X.base CX k fad fd ps (spX K ro (cw nN n g) n)) (hx:mE CX X pins σ E) (hr:l5 k X.A) (hm:X.mg x=some (.ref fad)) (hk:keepIn X.K (.ref fad)=true) (hb:Binds X.K fd ps [])
  (ha:DA K (WE K E) X (e::es) fr) (hg:Gl X x:=by rfl) (hdb:(x==("__debug__":Str))=false:=by decide) (hst:starEach (e::es) X.env=(false,eval e X.env)::starEach es X.env:=by rfl) (hpl:(backTo pos (starEach es X.env)).any (·.1)=false:=by rfl) :
  DEat K E ro X pins σ (.Call (.Name x p) (e::es) [] pos) (fL (cw nN n g) fr):=by
 refine PEat.imp (at_call F hx hr hm hk hb .nil ha hg hdb hst hpl) fun H Q h=>?_
 obtain ⟨F,ρ,r,s,p⟩:=rd_L h
 refine ⟨F,ρ,r,s,?_⟩
 cases e1:fr ρ with
 |error z=>rw [e1] at p;exact p
 |ok ds=>
  rw [e1] at p
  intro vs F' H' st q
  obtain ⟨F1,es1,s1,q1,z⟩:=p vs F' H' st q
  show spX K ro (cw nN n g) n (vs++[]) H' Q E
  rw [List.append_nil]
  by_cases hl:es1.length=n
  ·exact ⟨F1,es1,s1,q1,hl,z⟩
  ·rw [pz hl] at z
   exact aL.stuck z
end
section
variable {X:Cx} {pins:List (Addr×Obj)} {σ:St} {K:PySem.W.Frag} {ro own:Bool} {OL O:List Nat} {E:XK} {e:Expr} {f:ak->M Dat} {pos:Pos}
theorem dsa_set {i:Nat} {x:Str} {pos':Pos} (hN:X.N.Nodup) (h:DEat K E own X pins σ e f) (hi:X.N[i]? =some x:=by rfl) (hx:Loc X.env.scope x:=by first|exact Or.inl rfl|exact Or.inr rfl) (hs:swapsWith e (some (.Name x pos')) pos.line X.env=pure false:=by rfl) (hf:X.fn x=true\/X.env.scope.names.lookup x=some .local:=by first|exact .inl rfl|exact .inr rfl|assumption) :
  DSat K E ro X OL O (aft own i O) pins σ [.Assign [.Name x pos'] e pos] (aI O i f):=fun F0 H0=>at_one (PSat.imp (at_set hN hi hx h hs hf) fun D H z=>vM z)
end
end L2
namespace L2
open PySem PySem.Spec PyProof.Rows
end L2
namespace L2
open PySem PySem.Spec PyProof.Rows
theorem Rep.back {K:PySem.W.Frag} {F0 H0 F1 H1 FB F H:Hp} {O:List Nat} {σ:St} {ρ:ak} (r:Rep K F1 H1 FB O F H σ ρ) (s:Step F0 H0 F1 H1):Rep K F0 H0 FB O F H σ ρ:=
 ⟨s.trans r.st,r.fb,r.len,r.fz,fun i d e h=>let ⟨v,z,q⟩:=r.ow i d e h;⟨v,z,q.back s.hh⟩,r.ap⟩
end L2
namespace L2
open PySem PySem.Spec PyProof.Rows
noncomputable abbrev xArgs (vs:List Value):Obj:={cls:=.type "tuple",data:=.seq vs.toArray}
noncomputable abbrev yG (C t:Addr):Obj:={cls:=.ref C,data:=.fields #[.ref t,.none,.none,.none,.bool false,.none]}
noncomputable abbrev sh (h:Heap) (C:Addr) (vs:List Value):Heap:=(h.push (xArgs vs)).push (yG C h.objs.size)
section
variable {w:World} {prog:Program} {E:Value->Shared->Prop} {A:Around}
variable {h:Heap} {g:Array GenState} {d:Drawn} {t:Nat} {os:OsState}
variable {nm q:Str} {C N fI:Addr} {bs tl bmB us:List Value} {hdct ab:Bool} {sn:List Str} {sub:List Value} {col:Option Bool} {dd:Option Addr} {k0 k1 k2 k3 k5:Option Value} {B newId initId:String} {mN:Str->Option Value} {oI:Obj}
theorem pG {b:Addr} {o:Obj} (e:h.get? b=some o):(sh h C us).get? b=some o:=Heap.get?_push_of_some _ (Heap.get?_push_of_some _ e)
theorem tW:(sh h C us).get? (h.objs.size+1)=some (yG C h.objs.size):=by
 have z:=Heap.get?_push_size (h.push (xArgs us)) (o:=yG C h.objs.size) rfl
 rwa [Heap.size_push] at z
theorem x_type (F:ExcBaseFacts B newId initId bmB) (T:OwnTail h bmB tl) (hC:h.get? C=some (excClassObj nm q C N bs tl hdct sn sub ab col dd k0 k1 k2 k3 k5 newId)) (on:h.Ns N mN) (hi:mN "__init__"=some (.ref fI))
  (ho:h.get? fI=some oI) (hcl:oI.cls=.type "function") (hl:us.length<=sizeLine) {Q:Fin->Shared->Prop}
  (z:wpAny (model prog w) A (call (.ref fI) (.ref (h.objs.size+1)::us)) (fun r s'=>r=.none/\Q (.done (.ret (.ref (h.objs.size+1)))) s') E ⟨sh h C us,g,d,t,os⟩) :
  wpAny (model prog w) A (Builtin.«type.__call__» ⟨.ref C::us,[]⟩) Q E ⟨h,g,d,t,os⟩:=by
 have k:∀b o,h.get? b=some o->(sh h C us).get? b=some o:=fun b o e=>pG e
 have oC:=k _ _ hC
 have me:(Value.ref C::tl).contains (.ref C)=true:=by simp
 have nw:(sh h C us).get? (h.objs.size+1)=some (yG C h.objs.size):=tW
 repeat (first|with_reducible refine wpAny_madeBy_exc hC ?_|with_reducible refine wpAny_loadPart_at hC ?_|wp_step)
 refine codeAny_call_builtin_code (Code.quiet_builtin _ F.quiet) (wpAny_check_new_subT F T hC (codeAny_exc_new_subT F T hC ?_ hl))
 show wpAny _ _ _ _ _ (⟨sh h C us,g,d,t,os⟩:Shared)
 unfold isInstance
 repeat (first|(with_reducible refine wpAny_isSubtype_exc oC ?_;rw [me])|with_reducible refine wpAny_loadPart_at nw ?_|wp_step)
 refine wpAny_typeLookup_tail oC (on.keeps k) (T.keeps k) F.mroIs F.init.lookup ?_
 rw [hi]
 unfold bindSpecial
 refine wpAny_holding (wpAny_bind (wpAny_bind (wpAny_typeOf (T:="function") ⟨_,k _ _ ho,hcl⟩ ?_)))
 rw [if_pos (by decide)]
 refine wpAny_pure (wpAny_bind (thn z fun r s' y=>?_))
 obtain ⟨e,y⟩:=y
 subst e
 wp_walk
 exact y
theorem x_call (F:ExcBaseFacts B newId initId bmB) (T:OwnTail h bmB tl) (hC:h.get? C=some (excClassObj nm q C N bs tl hdct sn sub ab col dd k0 k1 k2 k3 k5 newId)) (on:h.Ns N mN) (hi:mN "__init__"=some (.ref fI))
  (ho:h.get? fI=some oI) (hcl:oI.cls=.type "function") (hl:us.length<=sizeLine) {Q:Value->Shared->Prop}
  (z:wpAny (model prog w) (A.under (.builtin "type.__call__" ⟨.ref C::us,[]⟩)) (call (.ref fI) (.ref (h.objs.size+1)::us)) (fun r s'=>r=.none/\Q (.ref (h.objs.size+1)) s') E ⟨sh h C us,g,d,t,os⟩) :
  wpAny (model prog w) A (call (.ref C) us) Q E ⟨h,g,d,t,os⟩:=by
 have l1:=tc_lookup
 have l2:=tc_bind (.ref C)
 have ty:(⟨h,g,d,t,os⟩:Shared).TypeIs (.ref C) "type":=⟨_,hC,rfl⟩
 refine wpAny_call (codeAny_of_tree ?_);show wpAny _ _ (callAny (.ref C) _) _ _ _
 (repeat (any_goals (first|assumption|with_reducible refine wpAny_loadPart_at hC ?_|wp_step)));exact ⟨rfl,codeAny_call_builtin_at (Code.quiet_builtin _ (by decide +kernel)) entry_typeCall (wpAny_check_type_call_sub hC (x_type F T hC on hi ho hcl hl z))⟩
end
theorem ns_some {K:PySem.W.Frag} {h:Heap} {N:Addr} {m:Str->Option Value} {n:Str} {v:Value} (X:K.In h) (G:h.Ns N m) (e:nsIn K N n=some (some v)):m n=some v:=by
 obtain ⟨o,es,ep,g1,g2,_,g3⟩:=G
 unfold nsIn at e
 cases q:K.lookup N with
 |none=>rw [q] at e;exact nomatch e
 |some ob=>
  have z:=X _ _ q
  rw [g1] at z
  cases z
  obtain ⟨c,d,dt,sl⟩:=o
  cases (show dt=.dict es ep from g2)
  rw [q] at e
  dsimp only at e
  cases f:es.toList.find? (·.key.isStr n) with
  |none=>rw [f] at e;dsimp only at e;split at e<;>cases e
  |some en=>
   rw [f] at e
   cases e
   rw [<- g3]
   unfold nsFind findBy
   rw [<- Array.find?_toList,f]
   rfl
noncomputable def oY (K:PySem.W.Frag) (C:Addr) (bmB:List Value) (newId:String) (f:Addr):Bool:=match K.lookup C with
 |some ⟨.type "type",_,.cls cd,sl⟩=>
   (match cd.mro,sl.toList with
  |.ref C'::tl,[_,_,_,_,some (.builtin n),_]=>(n==newId&&C'==C&& !cd.hasDel)&&(PySem.W.nsOkIn K cd.ns&&PySem.W.tailIn K bmB tl)&&(nsIn K cd.ns "__init__"==some (some (.ref f)))
  |_,_=>false)
 |_=>false
theorem t7 {K:PySem.W.Frag} {h:Heap} {C f:Addr} {bmB:List Value} {newId:String} (X:K.In h) (q:oY K C bmB newId f=true) :
  ∃tl N nm qn bs hdct sn sub ab col dd k0 k1 k2 k3 k5 mN,h.get? C=some (excClassObj nm qn C N bs tl hdct sn sub ab col dd k0 k1 k2 k3 k5 newId)/\h.Ns N mN/\mN "__init__"=some (.ref f)/\OwnTail h bmB tl:=by
 unfold oY at q
 split at q
 next dd cd sl ho=>
  split at q
  next C' tl k0 k1 k2 k3 n k5 hm hs=>
   obtain ⟨c1,c2,mro,c4,c5,c6,c7,c8,c9,c10,del⟩:=cd
   obtain ⟨l⟩:=sl
   simp only [Bool.and_eq_true] at q
   obtain ⟨⟨⟨⟨a2,a1⟩,a3⟩,a5,a4⟩,a6⟩:=q
   have b1:C'=C:=beq_iff_eq.mp a1
   have b2:n=newId:=beq_iff_eq.mp a2
   have b3:del=false:=by cases del<;>first|rfl|cases a3
   have b4:mro=Value.ref C'::tl:=hm
   have b5:l=[k0,k1,k2,k3,some (.builtin n),k5]:=hs
   subst b1 b2 b3 b4 b5
   exact ⟨tl,c4,c1,c5,c2,c6,c7,c8,c9,c10,dd,k0,k1,k2,k3,k5,_,X _ _ ho,.of_isNs (PySem.W.isNs_of_in X a5),ns_some X (.of_isNs (PySem.W.isNs_of_in X a5)) (beq_iff_eq.mp a6),PySem.W.tail_of_in X a4⟩
  next=>cases q
 next=>cases q
theorem xnamed2 {K:PySem.W.Frag} {C f:Addr} {bmB:List Value} {newId:String} (q:oY K C bmB newId f=true):vb K C bmB:=fun _ X=>by
 obtain ⟨tl,N,nm,qn,bs,hdct,sn,sub,ab,col,dd,k0,k1,k2,k3,k5,mN,o1,o2,o3,o4⟩:=t7 X q
 exact ⟨tl,N,nm,qn,bs,hdct,sn,sub,ab,col,dd,k0,k1,k2,k3,k5,newId,o1,o4⟩
end L2
namespace L2
open PySem PySem.Spec PyProof.Rows
noncomputable def pH:List Value->Bool
 |.ref _::r=>pH r
 |[.type a,.type b,.type c,.type d]=>a=="ValueError"&&b=="Exception"&&c=="BaseException"&&d=="object"
 |_=>false
theorem yH (me:Value):∀{l:List Value},pH l=true->refuseLoop me "__setattr__" l=pure ()
 |.ref _::_,e=>by rw [refuseLoop_ref];exact yH me e
 |[.type a,.type b,.type c,.type d],e=>by
  simp only [pH,Bool.and_eq_true,beq_iff_eq] at e
  obtain ⟨⟨⟨rfl,rfl⟩,rfl⟩,rfl⟩:=e
  exact PySem.F.store_ValueError.passes me
theorem ve_obj:∀{l:List Value},pH l=true->l.contains (.type "object")=true
 |.ref _::r,e=>by rw [List.contains_cons,ve_obj (l:=r) e,Bool.or_true]
 |[.type a,.type b,.type c,.type d],e=>by
  simp only [pH,Bool.and_eq_true,beq_iff_eq] at e
  obtain ⟨⟨⟨rfl,rfl⟩,rfl⟩,rfl⟩:=e
  decide +kernel
structure tT (K:PySem.W.Frag) (C:Addr) (f:Str):Prop where
 sa:PySem.W.findIn K (.ref C) "__setattr__"
   =some (some (.builtin "object.__setattr__"))
 no:PySem.W.findIn K (.ref C) f=some none
 cd:((PySem.W.clsIn K C).any fun cd=>pH cd.mro&&cd.hasDict)=true
section
open PySem.W
variable {prog:Program} {w:World} {A:Around} {E:Value->Shared->Prop} {s:Shared} {a C:Addr} {oe:Obj} {od:Option Obj} {K:Frag} {f:Str} {v:Value}
theorem x_open {tk:Tok} {R:Result->Shared->Prop} (X:K.In s.heap) (I:W.InstAt s.heap a oe C od) (Z:tT K C f)
  (z:∀b,wpAny (model prog w) A.in1 (Builtin.ObjectAttr.storeInOwnDict (.ref a) (.ref C) (.str f tk) f v b)
   (fun fin s'=>match fin with|.done y=>R (.ok y) s'|.again c'=>c'.quiet=true/\codeAny (model prog w) A c' R s') (fun e s'=>R (.error e) s') s) :
  codeAny (model prog w) A (.call (.builtin "object.__setattr__") ⟨[.ref a,.str f tk,v],[]⟩) R s:=by
 have SF:=PySem.F.store_object;obtain ⟨cd,hc,ho⟩:=any_some Z.cd
 rw [Bool.and_eq_true] at ho
 have ne:cd.mro.isEmpty=false:=by cases q:cd.mro with|nil=>rw [q] at ho;cases ho.1|cons _ _=>rfl
 have up:Looks (model prog w) s.heap (isInstance (.ref a) (.type "object")) true:=I.type.andThen (looks_mroIn X (by unfold mroIn;rw [hc,Option.bind_some,if_neg (by rw [ne];decide),ve_obj ho.1]))
 refine codeAny_call_builtin SF.slot.plain SF.entry (@check_slot (model prog w) _ _ s "object.__setattr__" "object" "__setattr__" (.ref a) [.str f tk,v] [] _ SF.kind SF.split up (SF.args (.ref a) (.str f tk) v) ?_)
 rw [osa_eq,refuse_eq]
 have hm:Looks (model prog w) s.heap (mroOf (.ref C)) cd.mro:=(looks_clsIn X hc).andThen .now;refine wpAny_bind (wpAny_bind (I.type.here (wpAny_bind (hm.here ?_))))
 rw [yH _ ho.1]
 exact wpAny_pure (wpAny_bind (I.type.here (wpAny_bind ((looks_findIn X Z.no).here (wpAny_bind (wpAny_pure (z _)))))))
theorem x_set1 {vs:Array Value} {Q:Unit->Shared->Prop} (X:K.In s.heap) (Z:tT K C f) (he:s.heap.get? a=some ⟨.ref C,none,.fields vs,#[]⟩)
  (z:∀h',h'.get? a=some ⟨.ref C,some s.heap.objs.size,.fields vs,#[]⟩->h'.Ns1 s.heap.objs.size (fun y=>if y=f then some v else none)->(∀b o,b≠a->s.heap.get? b=some o->h'.get? b=some o)->Q () {s with heap:=h',toks:=s.toks+2}) :
  wpAny (model prog w) A (setAttr (.ref a) f v) Q E s:=by
 have I:W.InstAt s.heap a ⟨.ref C,none,.fields vs,#[]⟩ C none:=⟨he,rfl,rfl,trivial⟩
 refine set_plain X I Z.sa (x_open (s:={s with toks:=s.toks+1}) X I Z fun b=>?_)
 obtain ⟨cd,hc,ho⟩:=any_some Z.cd
 rw [Bool.and_eq_true] at ho
 refine wpAny_bind (wpAny_pure (wpAny_bind (wpAny_bind (wpAny_loadPart he (wpAny_bind (Looks.here (s:={s with toks:=s.toks+1}) (looks_clsIn X hc) ?_))))))
 rw [ho.2]
 have ne:a≠s.heap.objs.size:=Nat.ne_of_lt (Heap.lt_size he)
 have h1:(s.heap.push emptyDict).get? a=some ⟨.ref C,none,.fields vs,#[]⟩:=Heap.get?_push_of_some _ he
 refine wpAny_bind (wpAny_alloc' (wpAny_bind (wpAny_update' h1 (wpAny_pure ?_))))
 have h2:((s.heap.push emptyDict).update a fun o=>{o with dict:=some s.heap.objs.size}).get? s.heap.objs.size=some emptyDict:=by
  rw [Heap.get?_update_other _ _ ne];exact Heap.get?_push_size s.heap rfl
 have h3:((s.heap.push emptyDict).update a fun o=>{o with dict:=some s.heap.objs.size}).get? a=some ⟨.ref C,some s.heap.objs.size,.fields vs,#[]⟩:=Heap.get?_update_self _ h1 rfl
 refine wpAny_bind (wpAny_pure (wpAny_bind (wpAny_nsSet1 (m:=fun _=>none) (Heap.Ns1.of_empty ⟨emptyDict,#[],_,h2,rfl,(fun e he=>absurd he (by simp)),fun _=>rfl⟩) fun h' n1 sb=>?_)))
 obtain ⟨oD,esD,epD,c1,c2,c3⟩:=n1.count (Within.cons f v Within.nil)
 refine wpAny_bind (wpAny_lookBehind c1 (by rw [c2];exact pastItsLine_dict (Nat.le_trans c3 (by rw [List.length_cons,List.length_nil,sizeLine_eq];omega))) (wpAny_pure ?_))
 exact z h' ((sb.2 a ne).trans h3) n1 fun b o hb q=>(sb.2 b (Nat.ne_of_lt (Heap.lt_size q))).trans (by rw [Heap.get?_update_other _ _ (Ne.symm hb)];exact Heap.get?_push_of_some _ q)
theorem x_set2 {vs:Array Value} {dx:Addr} {mA:Str->Option Value} {ns:List Str} {Q:Unit->Shared->Prop} (X:K.In s.heap) (Z:tT K C f) (he:s.heap.get? a=some ⟨.ref C,some dx,.fields vs,#[]⟩) (hd:s.heap.Ns1 dx mA) (hw:Within mA ns) (hl:ns.length<=1000)
  (z:∀h',h'.Ns1 dx (fun y=>if y=f then some v else mA y)->Heap.SameBut dx s.heap h'->Q () {s with heap:=h',toks:=s.toks+2}) :
  wpAny (model prog w) A (setAttr (.ref a) f v) Q E s:=by
 obtain ⟨ob,es,ep,d1,d2⟩:=id hd
 have I:W.InstAt s.heap a ⟨.ref C,some dx,.fields vs,#[]⟩ C (some ob):=⟨he,rfl,rfl,d1⟩
 refine set_plain X I Z.sa (x_open (s:={s with toks:=s.toks+1}) X I Z fun b=>?_)
 obtain ⟨cd,hc,ho⟩:=any_some Z.cd
 rw [Bool.and_eq_true] at ho
 refine wpAny_bind (wpAny_pure (wpAny_bind (wpAny_bind (wpAny_loadPart he (wpAny_bind (Looks.here (s:={s with toks:=s.toks+1}) (looks_clsIn X hc) ?_))))))
 rw [ho.2]
 refine wpAny_pure (a:=some dx) (wpAny_bind (wpAny_pure (wpAny_bind (wpAny_nsSet1 (s:={s with toks:=s.toks+1}) hd fun h' n1 sb=>?_))))
 obtain ⟨oD,esD,epD,c1,c2,c3⟩:=n1.count (Within.cons f v hw)
 refine wpAny_bind (wpAny_lookBehind c1 (by rw [c2];exact pastItsLine_dict (Nat.le_trans c3 (by rw [List.length_cons,sizeLine_eq];omega))) (wpAny_pure ?_))
 exact z h' n1 sb
end
end L2
namespace L2
open PySem PySem.Spec PyProof.Rows
section
open PySem.W
variable {prog:Program} {w:World} {A:Around} {E:Value->Shared->Prop} {s:Shared} {a C:Addr} {oe od:Obj} {K:Frag} {f:Str} {v:Value} {B:String} {bmB:List Value}
theorem tT.hd (Z:tT K C f):hasDictIn K C=true:=by
 obtain ⟨cd,hc,ho⟩:=any_some Z.cd
 rw [Bool.and_eq_true] at ho
 unfold hasDictIn
 rw [hc]
 exact ho.2
theorem x_ga {tk:Tok} {Q:Fin->Shared->Prop} (X:K.In s.heap) (I:W.InstAt s.heap a oe C (some od)) (Y:tT K C f) (hl:lookIn f od=some (some v)) (q:Q (.done (.ret v)) s) :
  wpAny (model prog w) A (Builtin.«object.__getattribute__» ⟨[.ref a,.str f tk],[]⟩) Q E s:=by
 have m0:=I.type (M:=model prog w)
 have m1:=looks_find (M:=model prog w) X I (findObj_own Y.hd Y.no rfl hl)
 unfold Builtin.«object.__getattribute__»;exact wpAny_bind (wpAny_pure (wpAny_bind (wpAny_pure (wpAny_bind (m0.here (wpAny_bind (m1.here (wpAny_pure q))))))))
theorem x_get {ex:Bool} {Q:Value->Shared->Prop} (FB:ExcAttrBase B bmB) (X:K.In s.heap) (I:W.InstAt s.heap a oe C (some od)) (Z:XIsi K C) (Y:tT K C f) (hl:lookIn f od=some (some v)) (hh:handedIn v=true) (q:Q v {s with toks:=s.toks+1}) :
  wpAny (model prog w) A (getAttr (.ref a) f ex) Q E s:=by
 obtain ⟨h,g,d,t,os⟩:=s
 have m0:=I.type (M:=model prog w)
 have m1:=looks_findIn (M:=model prog w) X Z.ga
 have m2:=looks_findIn (M:=model prog w) X Z.gt
 have b3:=FB.ga.bind (.ref a)
 have nx:(Value.builtin "BaseException.__getattribute__"==Value.builtin "object.__getattribute__")=false:=by decide +kernel
 have run:∀{A':Around} (R:Result->Shared->Prop),R (.ok (.ret v)) ⟨h,g,d,t+1,os⟩->codeAny (model prog w) A' (.call (.builtin "BaseException.__getattribute__") ⟨[.ref a,.str f t],[]⟩) R ⟨h,g,d,t+1,os⟩:=fun {A'} R hR=>
  codeAny_call_builtin FB.ga.plain F.entry_bexc_ga (rg X I Z.bs (x_ga (s:=⟨h,g,d,t+1,os⟩) X I Y hl hR))
 have ho:=handedOut_of hh
 unfold getAttr getAttrBy
 refine wpAny_bind (wpAny_mkText ?_);repeat (any_goals (first|assumption|with_reducible refine m0.at ?_|with_reducible refine m1.at ?_|with_reducible refine m2.at ?_|wp_step))
 rw [show (ex&&onTheHeap (Value.builtin "BaseException.__getattribute__"))=false by rw [show onTheHeap (Value.builtin "BaseException.__getattribute__")=false from rfl,Bool.and_false],if_neg Bool.false_ne_true]
 repeat (any_goals (first|wp_step|assumption))
 all_goals (refine run _ ?_)
 repeat (any_goals (first|wp_step|assumption))
 all_goals (first|(rw [ho];exact wpAny_pure q)|exact q)
end
noncomputable def XO (a C:Addr) (dx:Option Addr):HO:=.ext fun h=>∃vs:Array Value,vs[1]? =some .none/\h.get? a=some ⟨.ref C,dx,.fields vs,#[]⟩
noncomputable def XD (d:Addr) (fs:List (Str×V)):HO:=.ext fun h=>∃mA,h.Ns1 d mA/\(∀f,tU (fs.lookup f) (mA f))/\PySem.Within mA (fs.map (·.1))
section
variable {P:Program} {w:World} {H:Hp} {h:Heap} {a C d:Addr} {dx:Option Addr} {fs:List (Str×V)}
theorem xo_ok {vs:Array Value} (h1:vs[1]? =some .none) (e:h.get? a=some ⟨.ref C,dx,.fields vs,#[]⟩):dR P w H h a (XO a C dx):=⟨⟨vs,h1,e⟩,⟨_,e⟩,fun _ _ ⟨vs,q,e⟩ k=>⟨vs,q,k _ e⟩⟩
theorem xd_ok {mA:Str->Option Value} (n:h.Ns1 d mA) (r:∀f,tU (fs.lookup f) (mA f)) (wi:PySem.Within mA (fs.map (·.1))):dR P w H h d (XD d fs):=
 ⟨⟨mA,n,r,wi⟩,(let ⟨o,_,_,e,_⟩:=n;⟨o,e⟩),fun _ _ ⟨m,q,z⟩ k=>⟨m,q.at k,z⟩⟩
theorem yE (x:dR P w H h a (XO a C dx)):∃vs:Array Value,vs[1]? =some .none/\h.get? a=some ⟨.ref C,dx,.fields vs,#[]⟩:=x.1
theorem xd_get (x:dR P w H h d (XD d fs)):∃mA,h.Ns1 d mA/\(∀f,tU (fs.lookup f) (mA f))/\PySem.Within mA (fs.map (·.1)):=x.1
end
section
variable {X:Cx} {pins:List (Addr×Obj)} {σ:St} {H H':Hp} {s:Shared} {h':Heap}
theorem Inv.turn {t':Nat} (I:Inv X pins σ H s) (S:Addr->Prop) (k:∀b o,¬S b->s.heap.get? b=some o->h'.get? b=some o) (same:∀b,¬S b->H' b=H b)
  (mine:∀b,S b->(∃φ,H b=some (.ext φ))\/s.heap.get? b=none) (there:∀b o,S b->s.heap.get? b=some o->∃o',h'.get? b=some o') (new:∀b o,S b->H' b=some o->dR X.prog X.w H' h' b o) :
  Inv X pins σ H' {s with heap:=h',toks:=t'}:=by
 have out:∀b u,H b=some u->(∀φ,u≠.ext φ)->¬S b:=fun b u e n z=>by
  rcases mine b z with ⟨φ,q⟩|q
  ·rw [e] at q;cases q;exact n φ rfl
  ·obtain ⟨o,r⟩:=(I.hok b u e).is
   rw [r] at q;cases q
 have off:∀b o,s.heap.get? b=some o->H b=none->¬S b:=fun b o e n z=>by
  rcases mine b z with ⟨φ,q⟩|q
  ·rw [n] at q;cases q
  ·rw [e] at q;cases q
 refine I.un ⟨fun b o e n _ _=>k b o (off b o e n) e,fun b o e n _ _=>⟨o.slots,k b o (off b o e n) e⟩,fun b o e n _=>by rw [same b (off b o e n)];exact n,fun b o e _=>?_,fun b xs e=>?_,fun b o u e=>?_,fun b ps e=>?_⟩ fun b u e=>?_
 ·by_cases z:S b
  ·exact there b o z e
  ·exact ⟨o,k b o z e⟩
 ·rw [same b (out b _ e fun _ z=>nomatch z)];exact e
 ·rw [same b (out b _ e fun _ z=>nomatch z)];exact e
 ·exact ⟨#[],by rw [same b (out b _ e fun _ z=>nomatch z),Array.append_empty];exact e⟩
 ·by_cases z:S b
  ·exact new b u z e
  ·rw [same b z] at e
   refine (I.hok b u e).vH (fun c v hc q=>k c v ?_ q) (fun c q=>?_) fun c xs q=>?_
   ·rcases hc with rfl|hc
    ·exact z
    ·exact out c _ hc fun _ z=>nomatch z
   ·rw [same c (out c _ q fun _ z=>nomatch z)];exact q
   ·rw [same c (out c _ q fun _ z=>nomatch z)];exact q
end
section
variable {X:Cx} {pins:List (Addr×Obj)} {σ:St} {H:Hp} {s:Shared} {A:Around} {E:Value->Shared->Prop} {a C d:Addr} {f:Str} {y:V} {u:Value}
theorem xset1_ok {Q:Unit->Shared->Prop} (I:Inv X pins σ H s) (e:H a=some (XO a C none)) (Z:tT X.K C f) (ry:RelV y u)
  (z:∀d s',H d=none->d≠a->Inv X pins σ (upd (upd H d (XD d [(f,y)])) a (XO a C (some d))) s'->Q () s'):wpAny (model X.prog X.w) A (setAttr (.ref a) f u) Q E s:=by
 obtain ⟨vs,v1,he⟩:=yE (I.hok a _ e)
 have fr:=I.hok.fresh (Nat.le_refl s.heap.objs.size)
 have ne:s.heap.objs.size≠a:=fun q=>by rw [q,e] at fr;cases fr
 refine x_set1 I.kIn Z he fun h' e1 n1 k=>z s.heap.objs.size _ fr ne ?_
 refine I.turn (fun b=>b=a\/b=s.heap.objs.size) (fun b o nb q=>k b o (fun r=>nb (.inl r)) q) (fun b nb=>by rw [ar fun r=>nb (.inl r),ar fun r=>nb (.inr r)]) (fun b hb=>?_) (fun b o hb q=>?_) fun b o hb q=>?_
 ·rcases hb with rfl|rfl
  ·exact .inl ⟨_,e⟩
  ·exact .inr (get_none (Nat.le_refl _))
 ·rcases hb with rfl|rfl
  ·exact ⟨_,e1⟩
  ·rw [get_none (Nat.le_refl _)] at q;cases q
 ·rcases hb with rfl|rfl
  ·rw [ao] at q;cases q
   exact xo_ok v1 e1
  ·rw [ar ne,ao] at q;cases q
   refine xd_ok n1 (fun g=>?_) fun g hg=>?_
   ·show tU (List.lookup g [(f,y)]) (if g=f then some u else none)
    rw [List.lookup_cons]
    by_cases hf:g=f
    ·rw [if_pos hf,show (g==f)=true from beq_iff_eq.mpr hf];exact ry
    ·rw [if_neg hf,show (g==f)=false from beq_eq_false_iff_ne.mpr hf];trivial
   ·by_cases hf:g=f
    ·exact List.mem_cons.mpr (.inl hf)
    ·exact absurd (show (if g=f then some u else none)=none from if_neg hf) hg
theorem xset2_ok {fs:List (Str×V)} {Q:Unit->Shared->Prop} (I:Inv X pins σ H s) (e:H a=some (XO a C (some d))) (e2:H d=some (XD d fs)) (ne:d≠a) (hl:fs.length<=900) (Z:tT X.K C f) (ry:RelV y u)
  (z:∀s',Inv X pins σ (upd H d (XD d (qE f y fs))) s'->Q () s'):wpAny (model X.prog X.w) A (setAttr (.ref a) f u) Q E s:=by
 obtain ⟨vs,v1,he⟩:=yE (I.hok a _ e)
 obtain ⟨mA,n,r,wi⟩:=xd_get (I.hok d _ e2)
 refine x_set2 I.kIn Z he n wi (by rw [List.length_map];omega) fun h' n1 sb=>z _ ?_
 refine I.turn (fun b=>b=d) (fun b o nb q=>(sb.2 b nb).trans q) (fun b nb=>ar nb) (fun b hb=>by subst hb;exact .inl ⟨_,e2⟩) (fun b o hb q=>by subst hb;obtain ⟨o',_,_,e',_⟩:=n1;exact ⟨o',e'⟩) fun b o hb q=>?_
 subst hb
 rw [ao] at q;cases q
 refine xd_ok n1 (fun g=>?_) fun g hg=>?_
 ·show tU ((qE f y fs).lookup g)
    (if g=f then some u else mA g)
  rw [mY]
  by_cases q:g=f
  ·rw [if_pos q];rw [if_pos q];exact ry
  ·rw [if_neg q];rw [if_neg q];exact r g
 ·by_cases q:g=f
  ·rw [q];exact And.left (lP f y fs)
  ·exact (lP f y fs).2 g (wi g fun y'=>hg ((if_neg q).trans y'))
end
end L2
namespace L2
open PySem PySem.Spec PyProof.Rows
noncomputable def sX1 (C:Addr) (ta tv:TE) (f:Str):TS:=fun D σ H=>tv σ H fun y H1=>ta σ H1 fun x H2=>∃a,x=.ref a/\H2 a=some (XO a C none)/\∀d,H2 d=none->d≠a->D.nx σ (upd (upd H2 d (XD d [(f,y)])) a (XO a C (some d)))
noncomputable def sX2 (C:Addr) (ta tv:TE) (f:Str):TS:=fun D σ H=>tv σ H fun y H1=>ta σ H1 fun x H2=>∃a d fs,x=.ref a/\H2 a=some (XO a C (some d))/\H2 d=some (XD d fs)/\d≠a/\fs.length<=900/\D.nx σ (upd H2 d (XD d (qE f y fs)))
section
variable {X:Cx} {C:Addr} {o value:Expr} {f:Str} {ta tv:TE} {pos pos':Pos}
theorem ps_x1 (ha:PE X o ta) (hv:PE X value tv) (Z:tT X.K C f) (hs:swapsWith value (some (.Attribute o f pos')) pos.line X.env=pure false:=by rfl):PS X (.Assign [.Attribute o f pos'] value pos) (sX1 C ta tv f):=by
 intro pins s σ H D I h
 refine plainObj_wpAny_Assign_Attribute (thn (hv pins s σ H _ I h) fun u s1 ⟨y,H1,I1,ry,q⟩=>thn (ha pins s1 σ H1 _ I1 q) fun ov s2 ⟨x,H2,I2,rx,a,ex,ea,q2⟩=>?_) hs
 subst ex
 cases (show ov=Value.ref a from rx)
 exact xset1_ok I2 ea Z ry fun d s3 h1 h2 I3=>⟨σ,_,I3,q2 d h1 h2⟩
theorem ps_x2 (ha:PE X o ta) (hv:PE X value tv) (Z:tT X.K C f) (hs:swapsWith value (some (.Attribute o f pos')) pos.line X.env=pure false:=by rfl):PS X (.Assign [.Attribute o f pos'] value pos) (sX2 C ta tv f):=by
 intro pins s σ H D I h
 refine plainObj_wpAny_Assign_Attribute (thn (hv pins s σ H _ I h) fun u s1 ⟨y,H1,I1,ry,q⟩=>thn (ha pins s1 σ H1 _ I1 q) fun ov s2 ⟨x,H2,I2,rx,a,d,fs,ex,ea,ed,ne,hl,q2⟩=>?_) hs
 subst ex
 cases (show ov=Value.ref a from rx)
 exact xset2_ok I2 ea ed ne hl Z ry fun s3 I3=>⟨σ,_,I3,q2⟩
end
noncomputable def spX2 (C:Addr) (f1 f2:Str):Sp:=fun vs H Q _=>∃a v1 v2,vs=[.ref a,v1,v2]/\H a=some (XO a C none)/\∀d,H d=none->d≠a->Q .non (upd (upd H d (XD d [(f1,v1),(f2,v2)])) a (XO a C (some d)))
theorem upd_mid {H:Hp} {a d:Addr} {x y z:HO} (h:d≠a):upd (upd (upd H d x) a y) d z=upd (upd H d z) a y:=by
 funext b
 by_cases hd:b=d
 ·subst hd;rw [ao,ar h,ao]
 ·rw [ar hd]
  by_cases ha:b=a
  ·subst ha;rw [ao,ao]
  ·rw [ar ha,ar ha,ar hd,ar hd]
theorem upd_low {H:Hp} {a d:Addr} {x y z:HO}:upd (upd (upd H a x) d y) a z=upd (upd H d y) a z:=by
 funext b
 by_cases ha:b=a
 ·subst ha;rw [ao,ao]
 ·rw [ar ha,ar ha]
  by_cases hd:b=d
  ·subst hd;rw [ao,ao]
  ·rw [ar hd,ar hd,ar ha]
theorem fn_at {K:PySem.W.Frag} {h:Heap} {f:Addr} (X:K.In h) (e:typeIn K (.ref f)=some (.type "function")):∃o,h.get? f=some o/\o.cls=.type "function":=by
 unfold typeIn at e
 cases q:K.lookup f with
 |none=>simp only [q] at e;cases e
 |some o=>
  simp only [q] at e
  exact ⟨o,X _ _ q,by simpa using e⟩
section
variable {X:Cx} {pins:List (Addr×Obj)} {σ:St} {H:Hp} {s:Shared} {k:Nat} {f C:Addr} {fd:FuncData} {ps:List Str} {f1 f2:Str} {us:List Value} {v1 v2:V} {B newId initId:String} {bmB:List Value}
theorem new_x (FB:ExcBaseFacts B newId initId bmB) (hC:oY X.K C bmB newId f=true) (hf:typeIn X.K (.ref f)=some (.type "function")) (F:cD X.prog X.w X.K X.mg X.base CX0 k f fd ps (spX2 C f1 f2)) (hr:l5 (k+1) X.A) (hb:Binds X.K fd ps [])
  (I:Inv X pins σ H s) (r:Vals [v1,v2] us):wpAny (model X.prog X.w) X.A (call (.ref C) us) (fun v s'=>∃a d,v=.ref a/\s.heap.objs.size<=a/\H a=none/\H d=none/\d≠a/\Inv X pins σ (upd (upd H d (XD d [(f1,v1),(f2,v2)])) a (XO a C (some d))) s') X.xe s:=by
 obtain ⟨tl,N,nm,qn,bs,hdct,sn,sub,ab,col,dd,k0,k1,k2,k3,k5,mN,o1,o2,o3,o4⟩:=t7 I.kIn hC
 obtain ⟨oI,i1,i2⟩:=fn_at I.kIn hf
 obtain ⟨hh,gg,dr,tk,os⟩:=s
 have hz:=sizeLine_eq
 have hl:us.length<=sizeLine:=by rw [<- r.length];show 2<=sizeLine;omega
 refine x_call FB o4 o1 o2 o3 i1 i2 hl ?_
 have nw:(sh hh C us).get? (hh.objs.size+1)=some (yG C hh.objs.size):=tW
 have J:Inv X pins σ (upd H (hh.objs.size+1) (XO (hh.objs.size+1) C none)) {(⟨hh,gg,dr,tk,os⟩:Shared) with heap:=sh hh C us,toks:=tk}:=
  I.laid (fun b u q=>pG q) (Nat.le_succ _) (xo_ok (vs:=#[.ref hh.objs.size,.none,.none,.none,.bool false,.none]) rfl nw)
 have fa:H (hh.objs.size+1)=none:=I.hok.fresh (Nat.le_succ _)
 have w:Vals [V.ref (hh.objs.size+1),v1,v2] (Value.ref (hh.objs.size+1)::us++[]):=by rw [List.append_nil];exact .cons rfl r
 have q:spX2 C f1 f2 [V.ref (hh.objs.size+1),v1,v2] (upd H (hh.objs.size+1) (XO (hh.objs.size+1) C none)) (fun v H2=>v=.non/\∃d,H d=none/\d≠hh.objs.size+1/\H2=upd (upd H d (XD d [(f1,v1),(f2,v2)])) (hh.objs.size+1) (XO (hh.objs.size+1) C (some d))) (fun _ _ _=>False):=
  ⟨_,v1,v2,rfl,ao,fun d hd ne=>⟨rfl,d,by rw [ar ne] at hd;exact hd,ne,upd_low⟩⟩
 have n:(Value.ref (hh.objs.size+1)::us++[]).length=ps.length:=w.length.symm.trans (F.len _ _ _ _ q)
 refine wpAny_call (codeAny_mono (F.run _ X.stack _ _ ⟨.ref (hh.objs.size+1)::us,[]⟩ _ _ _ (fun _ _ _=>False) (hr.make C us []) (J.env0.make C us []) (hb _ (.ref (hh.objs.size+1)::us) J.kIn n) w q) fun z s' hq=>?_)
 cases z with
 |error e=>exact (show False from hq).elim
 |ok fl=>
  cases fl with
  |ret u=>
   obtain ⟨v,H',J3,rv,ev,d,h1,h2,h3⟩:=J.after hq
   subst ev h3
   exact ⟨rv,_,d,rfl,Nat.le_succ _,fa,h1,h2,J3⟩
  |_=>exact False.elim hq
end
theorem vv {M:Model} {A:Around} {E:Value->Shared->Prop} {env:Env} {nm q:Str} {C N:Addr} {bs tl:List Value} {hdct:Bool} {sn:List Str} {sub:List Value} {ab:Bool} {col:Option Bool} {dd:Option Addr} {k0 k1 k2 k3 k5:Option Value} {newId:String}
  {s:Shared} {x:Sem Value} {Q:Flow->Shared->Prop} (hB:tl.contains (.type "BaseException")=true) (hh:A.handled=none)
  (z:wpAny M A x (fun v s₁=>∃e oe,v=.ref e/\s₁.heap.get? C=some (excClassObj nm q C N bs tl hdct sn sub ab col dd k0 k1 k2 k3 k5 newId)/\s₁.heap.get? e=some oe/\oe.cls=.ref C/\(∃vs,oe.data=.fields vs/\vs[1]? =some .none)/\E (.ref e) s₁) E s) :
  wpAny M A
    (raiseStmt env (some x) none) Q E s:=by
 have cB:(Value.ref C::tl).contains (.type "BaseException")=true:=by rw [List.contains_cons,hB,Bool.or_true]
 unfold raiseStmt
 refine wpAny_bind (thn z fun v s₁ h₁=>?_)
 obtain ⟨e,oe,rfl,hC,he,hc,⟨vs,hd,hv1⟩,hE⟩:=h₁
 obtain ⟨oc,odi,oda,osl⟩:=oe
 dsimp only at hc hd
 subst hc hd
 obtain ⟨hp,g,d,tk,os⟩:=s₁;repeat (first|(with_reducible refine wpAny_isSubtype_exc hC ?_;rw [cB])|with_reducible refine wpAny_loadPart_at he ?_|with_reducible refine wpAny_loadPart_at hC ?_|wp_step)
 rw [hv1]
 refine wpAny_pure ?_
 rw [if_neg (by decide)]
 exact wpAny_pure (wpAny_raiseNew_none hh hE)
noncomputable def XEq2 (X:Cx) (E:XK) (C:Addr):Prop:=∀(pins:List (Addr×Obj)) (σ:St) (H:Hp) (s':Shared) (a d:Addr),Inv X pins σ H s'->ExA s'.heap a (.ref C) (some d) none->X.s₀.heap.get? a=none->H a=none->E (.ref C) (some d) H->X.xe (.ref a) s'
noncomputable def tRaise2 (t:TA) (C:Addr) (f1 f2:Str) (E:XK):TS:=fun _ σ H=>t σ H fun vs H1=>∃v1 v2,vs=[v1,v2]/\∀d,H1 d=none->E (.ref C) (some d) (upd H1 d (.xd [(f1,v1),(f2,v2)]))
section
variable {X:Cx} {E:XK} {C f:Addr} {x:Str} {e1 e2:Expr} {t:TA} {np cpos pos:Pos} {k:Nat} {fd:FuncData} {ps:List Str} {f1 f2:Str} {B newId initId:String} {bmB:List Value}
theorem zm (FB:ExcBaseFacts B newId initId bmB) (hx:XEq2 X E C) (hC:oY X.K C bmB newId f=true) (hf:typeIn X.K (.ref f)=some (.type "function")) (hk:keepIn X.K (.ref C)=true) (F:cD X.prog X.w X.K X.mg X.base CX0 k f fd ps (spX2 C f1 f2)) (hr:l5 (k+1) X.A) (hb:Binds X.K fd ps [])
  (hm:X.mg x=some (.ref C)) (ha:PA X [e1,e2] t) (hg:Gl X x:=by rfl) (hdb:(x==("__debug__":Str))=false:=by decide) (hst:starEach [e1,e2] X.env=(false,eval e1 X.env)::starEach [e2] X.env:=by rfl) (hpl:(backTo cpos (starEach [e2] X.env)).any (·.1)=false:=by rfl) :
  PS X (.Raise (some (.Call (.Name x np) [e1,e2] [] cpos)) none pos) (tRaise2 t C f1 f2 E):=by
 intro pins s σ H D I h
 obtain ⟨tl,N,nm,qn,bs,hdct,sn,sub,ab,col,dd,k0,k1,k2,k3,k5,mN,o1,o2,o3,o4⟩:=t7 I.mod.kin hC
 rw [arm_exec_Raise]
 refine wpAny_bind (wpAny_standAt (vv (C:=C) (nm:=nm) (q:=qn) (N:=N) (bs:=bs) (tl:=tl) (hdct:=hdct) (sn:=sn) (sub:=sub) (ab:=ab) (col:=col) (dd:=dd) (k0:=k0) (k1:=k1) (k2:=k2) (k3:=k3) (k5:=k5) (newId:=newId) (o4.hasType FB.hasBase) hr.hd (wpAny_bind (thn ?_ fun v s₃ h₃=>wpAny_bind (wpAny_standAt (wpAny_pure h₃))))))
 refine wpAny_Call_Name_kw (kn I hg hm (callWith_K (h₀:=X.base) I.ok.mod.kin hk (thn (ha cpos pins s σ H _ I h) fun us s1 ⟨vs,H1,I1,r,q1⟩=>⟨I1.kIn,?_⟩) hst hpl) hdb)
 obtain ⟨v1,v2,rfl,q1⟩:=q1
 refine thn (new_x FB hC hf F hr hb I1 r) fun v s2 ⟨a,d,ev,hn,fa,fd',ne,J⟩=>?_
 subst ev
 obtain ⟨vs,w1,he⟩:=yE (J.hok a _ ao)
 have dd':upd (upd H1 d (XD d [(f1,v1),(f2,v2)])) a (XO a C (some d)) d=some (XD d [(f1,v1),(f2,v2)]):=by rw [ar ne];exact ao
 have J2:Inv X pins σ (upd H1 d (.xd [(f1,v1),(f2,v2)])) {s2 with heap:=s2.heap,toks:=s2.toks}:=by
  refine J.turn (fun b=>b=a\/b=d) (fun b o _ q=>q) (fun b nb=>?_) (fun b hb=>?_) (fun b o _ q=>⟨o,q⟩) fun b o hb q=>?_
  ·rw [ar fun z=>nb (.inr z),ar fun z=>nb (.inl z),ar fun z=>nb (.inr z)]
  ·rcases hb with rfl|rfl
   ·exact .inl ⟨_,ao⟩
   ·exact .inl ⟨_,dd'⟩
  ·rcases hb with rfl|rfl
   ·rw [ar (Ne.symm ne),fa] at q;cases q
   ·rw [ao] at q;cases q
    obtain ⟨mA,n1,n2,_⟩:=xd_get (J.hok _ _ dd')
    exact ⟨mA,n1,n2⟩
 refine ⟨a,_,rfl,J.bk _ _ o1,he,rfl,⟨vs,rfl,w1⟩,hx pins σ _ s2 a d J2 ⟨⟨_,vs,he,rfl,rfl,rfl,w1⟩,fun T hT=>nomatch hT⟩ (get_none (Nat.le_trans I1.sz hn)) (by rw [ar (Ne.symm ne)];exact fa) (q1 d fd')⟩
end
section
variable {P:Program} {w:World} {K:PySem.W.Frag} {mg:Str->Option Value} {base:Heap} {N:List Str} {qual:Str} {scope:Scope} {f:Addr} {cd:Value} {A:Around} {outer:List Env} {s:Shared} {H:Hp} {E:XK} {C:Addr}
theorem xeqD2:XEq2 (yz (CXd P w) P w K mg base N qual scope f cd A outer s H E) E C:=fun _ _ _ _ _ _ J x na fa q=>xe_of J x na (fun T hT=>nomatch hT) fa q
end
noncomputable def xRes (C:Addr) (f1 f2:Str):List Dat->M Flo
 |[a,b]=>.error (.exc C [(f1,a),(f2,b)])
 |_=>.error .stuck
noncomputable def xW (C:Addr) (f1 f2:Str) (fr:ak->M (List Dat)):ak->M Flo:=fun ρ=>(fr ρ).bind (xRes C f1 f2)
@[simp] theorem e_sExc2 (C:Addr) (f1 f2:Str) (fr:ak->M (List Dat)) (ρ:ak):xW C f1 f2 fr ρ=(fr ρ).bind (xRes C f1 f2):=id rfl
@[simp] theorem e_xRes (C:Addr) (f1 f2:Str) (a b:Dat):xRes C f1 f2 [a,b]=.error (.exc C [(f1,a),(f2,b)]):=id rfl
section
variable {K:PySem.W.Frag} {X:Cx} {ro:Bool} {OL O O':List Nat} {E:XK} {C f:Addr} {x:Str} {e1 e2:Expr} {fr:ak->M (List Dat)} {np cpos pos:Pos} {k:Nat} {fd:FuncData} {ps:List Str} {f1 f2:Str} {B newId initId:String} {bmB:List Value}
theorem Al (FB:ExcBaseFacts B newId initId bmB) (hx:XEq2 X E C) (hC:oY X.K C bmB newId f=true) (hf:typeIn X.K (.ref f)=some (.type "function")) (hk:keepIn X.K (.ref C)=true) (F:cD X.prog X.w X.K X.mg X.base CX0 k f fd ps (spX2 C f1 f2)) (hr:l5 (k+1) X.A) (hb:Binds X.K fd ps [])
  (hm:X.mg x=some (.ref C)) (ha:DA K (WE K E) X [e1,e2] fr) (hg:Gl X x:=by rfl) (hdb:(x==("__debug__":Str))=false:=by decide) (hst:starEach [e1,e2] X.env=(false,eval e1 X.env)::starEach [e2] X.env:=by rfl) (hpl:(backTo cpos (starEach [e2] X.env)).any (·.1)=false:=by rfl) :
  DS K (WE K E) ro X OL O O' (.Raise (some (.Call (.Name x np) [e1,e2] [] cpos)) none pos) (xW C f1 f2 fr):=fun F0 H0=>PS.imp (zm FB hx hC hf hk F hr hb hm ha hg hdb hst hpl) fun D σ H ⟨FB',F,ρ,r,p⟩=>by
 have rf:=r.freeze (O2:=[]) (by simp)
 refine mT r.nJ r.jl (fun e he=>p.ph rf.st (by unfold xW;rw [he];rfl)) fun ds hd vs F1 H1 s1 q=>?_
 have ez:xW C f1 f2 fr ρ=xRes C f1 f2 ds:=by unfold xW;rw [hd];rfl
 rw [ez] at p
 rcases ds with _|⟨a,_|⟨b,_|⟨_,_⟩⟩⟩
 ·exact ((WE K E).ns p).elim
 ·exact ((WE K E).ns p).elim
 rotate_left
 ·exact ((WE K E).ns p).elim
 ·obtain ⟨w1,vs1,rfl,q1,w2,vs2,rfl,q2,hn⟩:=q
  cases (show vs2=[] from hn)
  refine ⟨w1,w2,rfl,fun d hd'=>?_⟩
  have st:=rf.st.trans s1
  have nf:F1 d=none:=s1.fh.free hd'
  have ff:aU F1 (upd F1 d (.xd [(f1,w1),(f2,w2)])):=aU.upd nf
  have st2:Step F1 H1 (upd F1 d (.xd [(f1,w1),(f2,w2)])) (upd H1 d (.xd [(f1,w1),(f2,w2)])):=by
   refine ⟨ff,fun c o e=>by rw [ar (aM e hd')];exact e,fun c o e=>?_,fun c o e=>?_⟩
   ·by_cases hc:c=d
    ·subst hc;rw [ao] at e ⊢;exact e
    ·rw [ar hc] at e ⊢;exact s1.fh c o e
   ·by_cases hc:c=d
    ·subst hc;exact .inr hd'
    ·rw [ar hc] at e;exact .inl e
  exact p _ _ (st.trans st2) d _ ao ⟨w1,_,rfl,cf.mono ff q1,w2,[],rfl,cf.mono ff q2,rfl⟩
end
end L2
namespace L2
open PySem PySem.Spec PyProof.Rows
noncomputable def yR (i:Nat) (a d:Addr) (f:Str):TE:=fun σ H Q=>σ[i]? =some (some (.ref a))/\∃gs v,H d=some (.xd gs)/\gs.lookup f=some v/\Q v H
section
variable {X:Cx} {C a d:Addr} {oe:Obj} {B:String} {bmB:List Value} {i:Nat} {n f:Str} {p1 pos:Pos}
theorem zw (FB:ExcAttrBase B bmB) (Z:XIsi X.K C) (Y:tT X.K C f) (hc:oe.cls=.ref C) (hd:∃vs,oe.data=.fields vs) (hx:oe.dict=some d)
  (hN:X.N[i]? =some n:=by rfl) (hv:Vis X.env.scope n:=by first|exact Or.inl rfl|exact Or.inr (Or.inl rfl)|exact Or.inr (Or.inr rfl)) (hd1:(n==("__debug__":Str))=false:=by decide) (hd2:(n==("__classdict__":Str))=false:=by decide)
  (hb:attributeBase (.Name n p1) f X.env (eval (.Name n p1) X.env)=eval (.Name n p1) X.env:=by rfl):PE (X.hand a oe) (.Attribute (.Name n p1) f pos) (yR i a d f):=by
 intro pins s σ H Q I h
 obtain ⟨e1,gs,v,hg,hl,q⟩:=h
 refine AO (env:=(X.hand a oe).env) hb (thn (pv (X:=X.hand a oe) i hN hv hd1 hd2 pins s σ H (fun x H1=>x=.ref a/\H1=H) I ⟨.ref a,e1,rfl,rfl⟩) fun u s1 ⟨x,H1,I1,rx,ex,eH⟩=>?_)
 subst ex eH
 cases (show u=Value.ref a from rx);have pa:=(I1.pin (a,oe) (List.mem_cons_self ..)).1
 obtain ⟨mA,n1,r⟩:=(show dR X.prog X.w H1 s1.heap d (.xd gs) from I1.hok d _ hg)
 obtain ⟨od,ho,hlk⟩:=uF n1
 obtain ⟨u',hu,ru⟩:=tU.some_of (v:=v) (o:=mA f) (by rw [<- hl];exact r f)
 obtain ⟨vs,hdt⟩:=hd
 have J:PySem.W.InstAt s1.heap a oe C (some od):=⟨pa,hc,by unfold PySem.W.notCls;rw [hdt],by rw [hx];exact ho⟩
 exact x_get FB I1.kIn J Z Y (by rw [hlk,hu]) (uL ru) ⟨v,H1,I1.tok _,ru,q⟩
end
noncomputable def pI (O:List Nat) (C:Addr) (fb:ak->M Flo) (fx:List (Str×Dat)->ak->M ak):ak->M Flo:=fun ρ=>match fb (erase O ρ) with
 |.ok fl=>.ok fl
 |.error (.exc C' (f::fs))=>if C'=C then (fx (f::fs) ρ).bind fun ρ'=>.ok (.nx ρ') else .error .stuck
 |.error _=>.error .stuck
theorem uS {O:List Nat} {C:Addr} {fb:ak->M Flo} {fx:List (Str×Dat)->ak->M ak} {ρ:ak} {fl:Flo} (h:fb (erase O ρ)=.ok fl):pI O C fb fx ρ=.ok fl:=by unfold pI;rw [h]
theorem rL {O:List Nat} {C:Addr} {fb:ak->M Flo} {fx:List (Str×Dat)->ak->M ak} {ρ:ak} {f:Str×Dat} {fs:List (Str×Dat)} (h:fb (erase O ρ)=.error (.exc C (f::fs))):pI O C fb fx ρ=(fx (f::fs) ρ).bind fun ρ'=>.ok (.nx ρ'):=by unfold pI;rw [h];exact if_pos rfl
section
variable {K:PySem.W.Frag} {ro:Bool} {F0 H0:Hp} {OL O:List Nat} {D:Ends} {σ:St} {H:Hp} {C:Addr} {i:Nat} {fb:ak->M Flo} {fx:List (Str×Dat)->ak->M ak} {ts:Addr->Option Addr->TS}
theorem rs_tryF (hS:∀(a d:Addr) (gs:List (Str×V)) (fs:List (Str×Dat)) (FB F H:Hp) (ρ:ak),Rep K F0 H0 FB O F H σ ρ->F d=some (.xd gs)->oj K F fs gs->jU K Wno ro F0 H0 FB OL O D ((fx fs ρ).bind fun ρ'=>.ok (.nx ρ'))->ts a (some d) (D.less i) (σ.set i (some (.ref a))) H)
  (t:tS K Wno ro F0 H0 OL O O (pI O C fb fx) D σ H):tTry (fun E D σ H=>∃F1 H1,tS K (WE K E) ro F1 H1 OL [] O fb D σ H) i C ts D σ H:=by
 obtain ⟨FB,F,ρ,r,p⟩:=t
 have re:=r.nI
 refine ⟨F,H,FB,F,erase O ρ,⟨Step.refl r.st.fh,r.fb,re.len,fun m d e _=>re.sl m d e,(fun m d e h=>nomatch h),(fun m n d1 d2 c h=>nomatch h)⟩,?_⟩
 cases e:fb (erase O ρ) with
 |ok fl=>
  rw [uS e] at p
  cases fl with
  |nx ρ'=>exact fun σ' F' H' r'=>p σ' F' H' (r'.back r.st)
  |rt d=>exact fun v F' H' s' q=>p v F' H' (r.st.trans s') (q.back r.st.hh)
  |bk ρ'=>exact fun σ' F' H' r'=>p σ' F' H' (r'.back r.st)
  |ct ρ'=>exact fun σ' F' H' r'=>p σ' F' H' (r'.back r.st)
 |error x=>
  cases x with
  |stuck=>exact p.stuck (by unfold pI;rw [e])
  |exc C' fs=>
   cases fs with
   |nil=>exact p.stuck (by unfold pI;rw [e])
   |cons f fs=>
    by_cases hc:C'=C
    ·subst hc
     rw [rL e] at p
     exact fun F' H' s' d gs hd df=>⟨rfl,fun a _=>hS a d gs _ FB F' H' ρ (r.step s') hd df p⟩
    ·exact p.stuck (by unfold pI;rw [e];exact if_neg hc)
end
section
variable {X:Cx} {K:PySem.W.Frag} {ro:Bool} {OL O:List Nat} {C:Addr} {c n:Str} {i:Nat} {np hpos pos:Pos} {b₀:Stmt} {body suite:List Stmt} {ts:Addr->Option Addr->TS} {bmB:List Value} {fb:ak->M Flo} {fx:List (Str×Dat)->ak->M ak}
theorem ds_tryF (hb:∀(pins:List (Addr×Obj)) (σ:St) (E:XK) (xe:Value->Shared->Prop),mE (CXd X.prog X.w) (X.tR xe) pins σ E->DSat K E ro (X.tR xe) OL [] O pins σ body fb)
  (hs:∀(a:Addr) (oe:Obj),oe.cls=.ref C->(∃vs,oe.data=.fields vs)->PSs (X.hand a oe) (b₀::suite) (ts a oe.dict))
  (hS:∀(F0 H0:Hp) (D:Ends) (σ:St) (a d:Addr) (gs:List (Str×V)) (fs:List (Str×Dat)) (FB F H:Hp) (ρ:ak),σ.length=X.N.length->Rep K F0 H0 FB O F H σ ρ->F d=some (.xd gs)->oj K F fs gs->jU K Wno ro F0 H0 FB OL O D ((fx fs ρ).bind fun ρ'=>.ok (.nx ρ'))->ts a (some d) (D.less i) (σ.set i (some (.ref a))) H)
  (hC:vb X.K C bmB) (hB:bmB.contains (.type "BaseException")=true) (hm:X.mg c=some (.ref C)) (hN:X.N.Nodup) (hi:X.N[i]? =some n:=by rfl) (hk:X.env.scope.names.lookup n=some .local:=by rfl)
  (hg:Gl X c:=by rfl) (hex:X.ex=[]:=by rfl) (hstk:X.stack=X.env::X.outer:=by rfl) (hfr:X.env.frame=some X.env.locals:=by rfl) (hdb:(c==("__debug__":Str))=false:=by decide) :
  DS K Wno ro X OL O O (.Try body [.ExceptHandler (some (.Name c np)) (some n) (b₀::suite) hpos] [] [] pos) (pI O C fb fx):=fun F0 H0 pins s σ H D I z=>
 ps_try (tb:=fun E D σ H=>∃F1 H1,tS K (WE K E) ro F1 H1 OL [] O fb D σ H) (fun pins σ E xe hp s H D I ⟨F1,H1,q⟩=>hb pins σ E xe hp F1 H1 s H D I q) hs hC hB hm hN hi hk hg hex hstk hfr hdb pins s σ H D I (rs_tryF (fun a d gs fs FB F H ρ r h1 h2 p=>hS F0 H0 D σ a d gs fs FB F H ρ I.len r h1 h2 p) z)
end
noncomputable def wV (i j:Nat) (f1 f2:Str):List (Str×Dat)->ak->M ak:=fun fs ρ=>match fs.lookup f1,fs.lookup f2 with
 |some a,some b=>.ok ((ρ.set j (some (.lst [a,b]))).set i none)
 |_,_=>.error .stuck
section
variable {K:PySem.W.Frag} {ro:Bool} {F0 H0 FB F H:Hp} {OL O:List Nat} {D:Ends} {σ:St} {ρ:ak} {i j:Nat} {a d:Addr} {gs:List (Str×V)} {fs:List (Str×Dat)} {f1 f2:Str}
theorem Rep.told {ds:List Dat} {vs:List V} {l:Addr} (r:Rep K F0 H0 FB O F H σ ρ) (hij:i≠j) (hi:i<σ.length) (hj:j<σ.length) (hiO:i∉O) (hjO:j∉O) (hl:H l=none) (df:ax K F ds vs) :
  Rep K F0 H0 FB O (upd F l (.lst vs)) (upd H l (.lst vs)) (((σ.set i (some (.ref a))).set j (some (.ref l))).set i none) ((ρ.set j (some (.lst ds))).set i none):=by
 have hlF:F l=none:=r.st.fh.free hl
 have ff:aU F (upd F l (.lst vs)):=aU.upd hlF
 have st:Step F H (upd F l (.lst vs)) (upd H l (.lst vs)):=by
  refine ⟨ff,fun c o e=>by rw [ar (aM e hl)];exact e,fun c o e=>?_,fun c o e=>?_⟩
  ·by_cases hc:c=l
   ·subst hc;rw [ao] at e ⊢;exact e
   ·rw [ar hc] at e ⊢;exact r.st.fh c o e
  ·by_cases hc:c=l
   ·subst hc;exact .inr hl
   ·rw [ar hc] at e;exact .inl e
 have r2:=r.step st
 have out:∀m,m≠i->m≠j->(((σ.set i (some (.ref a))).set j (some (.ref l))).set i none)[m]? =σ[m]?:=fun m h1 h2=>by
  rw [List.getElem?_set_ne (Ne.symm h1),List.getElem?_set_ne (Ne.symm h2),List.getElem?_set_ne (Ne.symm h1)]
 have outR:∀m,m≠i->m≠j->((ρ.set j (some (.lst ds))).set i none)[m]? =ρ[m]?:=fun m h1 h2=>by
  rw [List.getElem?_set_ne (Ne.symm h1),List.getElem?_set_ne (Ne.symm h2)]
 have noi:∀dd,((ρ.set j (some (.lst ds))).set i none)[i]?≠some (some dd):=fun dd e=>by
  rw [List.getElem?_set_self (by rw [List.length_set,r.len];exact hi)] at e
  cases e
 refine ⟨r2.st,r2.fb,by simp only [List.length_set];exact r.len,fun m dd e hm=>?_,fun m dd e hm=>?_,fun m n d1 d2 c hm hn e1 e2 e3 e4=>?_⟩
 ·by_cases h1:m=i
  ·subst h1;exact (noi _ e).elim
  ·by_cases h2:m=j
   ·subst h2
    rw [List.getElem?_set_ne (Ne.symm h1),List.getElem?_set_self (by rw [r.len];exact hj)] at e
    cases e
    refine ⟨.ref l,by rw [List.getElem?_set_ne (Ne.symm h1),List.getElem?_set_self (by rw [List.length_set];exact hj)],l,vs,rfl,SqL.of ao,ax.mono ff df⟩
   ·rw [outR m h1 h2] at e
    rw [out m h1 h2]
    exact r2.fz m dd e hm
 ·have h1:m≠i:=fun z=>hiO (z▸hm)
  have h2:m≠j:=fun z=>hjO (z▸hm)
  rw [outR m h1 h2] at e
  rw [out m h1 h2]
  exact r2.ow m dd e hm
 ·have h1:m≠i:=fun z=>hiO (z▸hm)
  have h2:m≠j:=fun z=>hjO (z▸hm)
  have h3:n≠i:=fun z=>hiO (z▸hn)
  have h4:n≠j:=fun z=>hjO (z▸hn)
  rw [outR m h1 h2] at e1
  rw [outR n h3 h4] at e2
  rw [out m h1 h2] at e3
  rw [out n h3 h4] at e4
  exact r2.ap m n d1 d2 c hm hn e1 e2 e3 e4
theorem rs_told2 (r:Rep K F0 H0 FB O F H σ ρ) (hd:F d=some (.xd gs)) (df:oj K F fs gs) (hij:i≠j) (hi:i<σ.length) (hj:j<σ.length) (hiO:i∉O) (hjO:j∉O) (q:jU K Wno ro F0 H0 FB OL O D ((wV i j f1 f2 fs ρ).bind fun ρ'=>.ok (.nx ρ'))) :
  tAsg (tLst (oz (yR i a d f1) (oz (yR i a d f2) tNil))) (pZ j) (D.less i) (σ.set i (some (.ref a))) H:=by
 have hz:=sizeLine_eq
 have hH:H d=some (.xd gs):=r.st.fh d _ hd
 have e1:(σ.set i (some (.ref a)))[i]? =some (some (.ref a)):=by rw [List.getElem?_set_self hi]
 unfold wV at q
 cases h1:fs.lookup f1 with
 |none=>rw [h1] at q;exact (Wno.ns q).elim
 |some x1=>
  cases h2:fs.lookup f2 with
  |none=>rw [h1,h2] at q;exact (Wno.ns q).elim
  |some x2=>
   rw [h1,h2] at q
   obtain ⟨v1,g1,q1⟩:=df.at.1 x1 h1
   obtain ⟨v2,g2,q2⟩:=df.at.1 x2 h2
   refine ⟨e1,gs,v1,hH,g1,e1,gs,v2,hH,g2,by show 2<=sizeLine;omega,fun l hl=>?_⟩
   exact q _ _ _ (r.told hij hi hj hiO hjO hl ⟨v1,_,rfl,q1,v2,_,rfl,q2,rfl⟩)
end
end L2
namespace L2
open PySem PySem.Spec PyProof.Rows
section
variable {K:PySem.W.Frag} {W:fm} {X:Cx} {ro:Bool} {OL O O':List Nat}
theorem ps_nox {st:Stmt} {t:TS} (h:PS X.nox st t):PS X st t:=fun pins s σ H D I z=>wpAny_mono (h pins s σ H D (I.tR _) z) (fun _ _ q=>q.lD) fun _ _ y=>(show False from y).elim
theorem pD {st:Stmt} {g:ak->M Flo} (h:DS K Wno ro X.nox OL O O' st g):DS K W ro X OL O O' st (fNoX g):=fun F0 H0=>PS.imp (ps_nox (h F0 H0)) fun D σ H ⟨FB,F,ρ,r,p⟩=>by
 refine ⟨FB,F,ρ,r,?_⟩
 have p:jU K W ro F0 H0 FB OL O' D (noX (g ρ)):=p
 unfold jU at p ⊢
 cases e:g ρ with
 |ok fl=>
  rw [e] at p
  cases fl<;>exact p
 |error x=>rw [e] at p;exact (W.ns p).elim
end
structure XMk (K:PySem.W.Frag) (mg:Str->Option Value) (x:Str) (C f:Addr):Prop where
 mg:mg x=some (.ref C)
 ex:oY K C [.type "ValueError",.type "Exception",.type "BaseException",.type "object"] "ValueError.__new__" f=true
 fn:typeIn K (.ref f)=some (.type "function")
 kp:keepIn K (.ref C)
   =true
structure XTry (K:PySem.W.Frag) (mg:Str->Option Value) (x:Str) (C:Addr):Prop where
 mg:mg x=some (.ref C)
 nm:vb K C [.type "ValueError",.type "Exception",.type "BaseException",.type "object"]
 isi:XIsi K C
noncomputable def tsTold2 (i j:Nat) (f1 f2:Str) (a:Addr):Option Addr->TS
 |none=>tNever
 |some d=>tAsg (tLst (oz (yR i a d f1) (oz (yR i a d f2) tNil))) (pZ j)
section
variable {X:Cx} {K:PySem.W.Frag} {ro:Bool} {OL O:List Nat} {C:Addr} {c n to f1 f2:Str} {i j:Nat} {np hpos pos p1 p2 p3 p4 p5 p6 p7:Pos} {body:List Stmt} {fb:ak->M Flo}
theorem ds_told2 (hb:∀(pins:List (Addr×Obj)) (σ:St) (E:XK) (xe:Value->Shared->Prop),mE (CXd X.prog X.w) (X.tR xe) pins σ E->DSat K E ro (X.tR xe) OL [] O pins σ body fb)
  (Z:XTry X.K X.mg c C) (a1:tT X.K C f1) (a2:tT X.K C f2) (hN:X.N.Nodup) (hij:i≠j:=by decide) (hiO:i∉O:=by decide) (hjO:j∉O:=by decide) (hi:X.N[i]? =some n:=by rfl) (hj:X.N[j]? =some to:=by rfl) (hk:X.env.scope.names.lookup n=some .local:=by rfl) (hkj:X.env.scope.names.lookup to=some .local:=by rfl)
  (hg:Gl X c:=by rfl) (hex:X.ex=[]:=by rfl) (hstk:X.stack=X.env::X.outer:=by rfl) (hfr:X.env.frame=some X.env.locals:=by rfl) (hdb:(c==("__debug__":Str))=false:=by decide) (hd1:(n==("__debug__":Str))=false:=by decide) (hd2:(n==("__classdict__":Str))=false:=by decide)
  (hb1:attributeBase (.Name n p3) f1 X.env (eval (.Name n p3) X.env)=eval (.Name n p3) X.env:=by rfl) (hb2:attributeBase (.Name n p5) f2 X.env (eval (.Name n p5) X.env)=eval (.Name n p5) X.env:=by rfl)
  (hs1:starEach [.Attribute (.Name n p3) f1 p4,.Attribute (.Name n p5) f2 p6] X.env=(false,eval (.Attribute (.Name n p3) f1 p4) X.env)::starEach [.Attribute (.Name n p5) f2 p6] X.env:=by rfl) (hs2:starEach [.Attribute (.Name n p5) f2 p6] X.env=[(false,eval (.Attribute (.Name n p5) f2 p6) X.env)]:=by rfl)
  (hsw:swapsWith (.List [.Attribute (.Name n p3) f1 p4,.Attribute (.Name n p5) f2 p6] p2) (some (.Name to p1)) p7.line X.env=pure false:=by rfl) :
  DS K Wno ro X OL O O (.Try body [.ExceptHandler (some (.Name c np)) (some n) [.Assign [.Name to p1] (.List [.Attribute (.Name n p3) f1 p4,.Attribute (.Name n p5) f2 p6] p2) p7] hpos] [] [] pos) (pI O C fb (wV i j f1 f2)):=by
 refine ds_tryF (ts:=fun a dx=>tsTold2 i j f1 f2 a dx) hb (fun a oe hc hd=>?_) (fun F0 H0 D σ a d gs fs FB F H ρ hl r h1 h2 p=>rs_told2 r h1 h2 hij ?_ ?_ hiO hjO p) Z.nm (by decide +kernel) Z.mg hN hi hk hg hex hstk hfr hdb
 ·cases hx:oe.dict with
  |none=>exact uh
  |some d=>
   exact pJ (zh (X:=X.hand a oe) hN hj (.inl hkj) (pe_lst (aX (zw F.attrBase_ValueError Z.isi a1 hc hd hx hi (.inl hk) hd1 hd2 hb1) (aX (zw F.attrBase_ValueError Z.isi a2 hc hd hx hi (.inl hk) hd1 hd2 hb2) eF hs2) hs1)) hsw (.inr hkj))
 ·rw [hl];exact (List.getElem?_eq_some_iff.mp hi).1
 ·rw [hl];exact (List.getElem?_eq_some_iff.mp hj).1
end
end L2
namespace L2
open PySem PySem.Spec PyProof.Rows
end L2
namespace L2
open PySem PySem.Spec PyProof.Rows
noncomputable def xn:Dat->M Dat
 |.str _=>.ok (.bl true)
 |.ins _ _=>stk
 |_=>.ok (.bl false)
section
variable {X:Cx} {K:PySem.W.Frag} {W:fm} {own:Bool} {a:Expr} {fa:ak->M Dat} {pos p p2:Pos}
theorem AI (kit:Kit K) (hK:X.K=K:=by rfl):dS X (.builtin "isinstance") (fun xs H Q=>∃v,xs=[v,.ty "str"]/\rD1 K W own xn v H Q):=by
 subst hK
 intro pins s σ H xs us Q I r h;obtain ⟨v,rfl,F,d,s1,q,p⟩:=h
 obtain ⟨u,w,rfl,ru,rw'⟩:=r.two
 cases (show w=Value.type "str" from rw')
 by_cases hi:∃C fs,d=.ins C fs
 ·obtain ⟨C,fs,rfl⟩:=hi
  exact aL.stuck p
 ·refine A1 I s1 q ru kit.lJ kit.jH kit.jD kit.ic kit.lH kit.dq (fun k tk hk=>⟨.bl k,H,I.tok tk,rfl,?_⟩) (fun C fs e=>hi ⟨C,fs,e⟩)
  cases d<;>first|(have hk':k=_:=hk;subst hk';exact aL.bl (own:=own) p s1)|exact absurd ⟨_,_,rfl⟩ hi
theorem de_isi_str (kit:Kit K) (hm:X.mg "isinstance"=none) (hmT:X.mg "str"=none) (ha:DE K W false X a fa) (hK:X.K=K:=by rfl)
  (hg:Gl X "isinstance":=by rfl) (hgT:Gl X "str":=by rfl)
  (hst:starEach [a,.Name "str" p2] X.env=[(false,eval a X.env),(false,eval (.Name "str" p2) X.env)]:=by rfl) (hst2:starEach [.Name "str" p2] X.env=[(false,eval (.Name "str" p2) X.env)]:=by rfl) (hpl:(backTo pos (starEach [.Name "str" p2] X.env)).any (·.1)=false:=by rfl) :
  DE K W own X (.Call (.Name "isinstance" p) [a,.Name "str" p2] [] pos) (f1 xn fa):=uW (AI kit hK) hm hmT (by decide +kernel) ha hg hgT (by decide) (by decide) hst hst2 hpl
end
end L2
namespace L2
open PySem PySem.Spec PyProof.Rows
noncomputable def rIsi (K:PySem.W.Frag) (C a:Addr) (R:Hp->Prop):List V->Hp->VK->Prop:=fun xs H Q=>R H/\∃v b,xs=[.ref a,v] /\
  ((∃c,RelV v c/\(∀u,RelV v u->u=c)/\kitOne K (.ref C) c=some b)\/∃(tp:Addr) (ys:List Addr),v=.ref tp/\H tp=some (.tup (ys.map V.ref))/\kitAny K (.ref C) (ys.map Value.ref)=some b)/\Q (.bl b) H
noncomputable def XDk (d:Addr):Hp->Prop:=fun H=>∃gs,H d=some (.xd gs)
noncomputable def tIsiR (i:Nat) (a:Addr) (R:Hp->Prop) (b:Bool):TE:=fun σ H Q=>σ[i]? =some (some (.ref a))/\R H/\Q (.bl b) H
noncomputable def tIsiTR (i:Nat) (a:Addr) (R:Hp->Prop) (ys:List Addr) (b:Bool):TE:=fun σ H Q=>σ[i]? =some (some (.ref a))/\∀p,H p=none->R (upd H p (.tup (ys.map V.ref)))/\Q (.bl b) (upd H p (.tup (ys.map V.ref)))
section
variable {X:Cx} {C a d D:Addr} {oe:Obj} {B:String} {bmB:List Value} {R:Hp->Prop}
theorem c_isiD (FB:ExcAttrBase B bmB) (Z:XIsi X.K C) (hc:oe.cls=.ref C) (hd:∃vs,oe.data=.fields vs) (hx:oe.dict=some d):dS (X.hand a oe) (.builtin "isinstance") (rIsi X.K C a (XDk d)):=by
 intro pins s σ H xs us Q I r h;obtain ⟨⟨gs,hg⟩,v,b,rfl,h1,q⟩:=h
 obtain ⟨u,w,rfl,ru,rw'⟩:=r.two
 cases (show u=Value.ref a from ru)
 have pa:=(I.pin (a,oe) (List.mem_cons_self ..)).1
 obtain ⟨vs,hdt⟩:=hd
 obtain ⟨mA,⟨od,es,ep,ho,hrest⟩,_⟩:=(show dR X.prog X.w H s.heap d (.xd gs) from I.hok d _ hg)
 have J:PySem.W.InstAt s.heap a oe C (some od):=⟨pa,hc,by unfold PySem.W.notCls;rw [hdt],by rw [hx];exact ho⟩
 rcases h1 with ⟨c,rc,uniq,e⟩|⟨tp,ys,rfl,ht,e⟩
 ·cases uniq w rw'
  exact kia_one (pC FB Z) I.kIn J e (fun z=>nomatch z) fun tk=>⟨.bl b,H,I.tok tk,rfl,q⟩
 ·cases (show w=Value.ref tp from rw')
  obtain ⟨_,its,rv,ob,z1,z2⟩:=(show dR X.prog X.w H s.heap tp (.tup (ys.map V.ref)) from I.hok tp _ ht)
  obtain ⟨z3,n,z4⟩:=z2
  have ei:its=ys.map Value.ref:=sx rv
  subst ei
  obtain ⟨oc,odd,odt,osl⟩:=ob
  have z5:oc=Value.type "tuple":=z3
  have z6:odt=.seq (ys.map Value.ref).toArray n:=z4
  subst z5 z6
  exact PySem.W.kia_tup (pC FB Z) I.kIn J z1 e (fun z=>nomatch z) fun tk=>⟨.bl b,H,I.tok tk,rfl,q⟩
end
section
variable {X:Cx} {C a D:Addr} {oe:Obj} {R:Hp->Prop} {i:Nat} {n y:Str} {T:String} {p p1 p2 pos:Pos} {b:Bool} {ys:List Addr} {es:List Expr}
theorem pe_isO (hcr:dS (X.hand a oe) (.builtin "isinstance") (rIsi X.K C a R)) (hm:X.mg "isinstance"=none) (hD:X.mg y=some (.ref D)) (hb:kitOne X.K (.ref C) (.ref D)=some b)
  (hN:X.N[i]? =some n:=by rfl) (hv:Vis X.env.scope n:=by first|exact Or.inl rfl|exact Or.inr (Or.inl rfl)|exact Or.inr (Or.inr rfl)) (hd1:(n==("__debug__":Str))=false:=by decide) (hd2:(n==("__classdict__":Str))=false:=by decide)
  (hg:Gl (X.hand a oe) "isinstance":=by rfl) (hgD:Gl (X.hand a oe) y:=by rfl) (hd3:(y==("__debug__":Str))=false:=by decide)
  (hst:starEach [.Name n p1,.Name y p2] X.env=[(false,eval (.Name n p1) X.env),(false,eval (.Name y p2) X.env)]:=by rfl) (hst2:starEach [.Name y p2] X.env=[(false,eval (.Name y p2) X.env)]:=by rfl) (hpl:(backTo pos (starEach [.Name y p2] X.env)).any (·.1)=false:=by rfl) :
  PE (X.hand a oe) (.Call (.Name "isinstance" p) [.Name n p1,.Name y p2] [] pos) (tIsiR i a R b):=by
 have vD:PE (X.hand a oe) (.Name y p2) (tC (.ref D)):=fun pins s σ H Q I h=>kn I hgD hD ⟨.ref D,H,I,rfl,h⟩ hd3
 refine PE.imp (fO (X:=X.hand a oe) hcr hg hm boot_isinstance (aX (pv i hN hv hd1 hd2) (aX vD eF hst2) (by rw [hst,hst2])) (by decide) (by decide) (by rw [hst,hst2]) hpl) fun σ H Q h=>?_
 obtain ⟨e1,hR,q⟩:=h
 exact ⟨.ref a,e1,hR,.ref D,b,rfl,.inl ⟨.ref D,rfl,fun u hu=>hu,hb⟩,q⟩
theorem pe_isB (hcr:dS (X.hand a oe) (.builtin "isinstance") (rIsi X.K C a R)) (hm:X.mg "isinstance"=none) (hmT:X.mg y=none) (hvT:bootBuiltins y=some (.type T)) (hb:kitOne X.K (.ref C) (.type T)=some b)
  (hN:X.N[i]? =some n:=by rfl) (hv:Vis X.env.scope n:=by first|exact Or.inl rfl|exact Or.inr (Or.inl rfl)|exact Or.inr (Or.inr rfl)) (hd1:(n==("__debug__":Str))=false:=by decide) (hd2:(n==("__classdict__":Str))=false:=by decide)
  (hg:Gl (X.hand a oe) "isinstance":=by rfl) (hgT:Gl (X.hand a oe) y:=by rfl) (hy:y≠"__name__":=by decide) (hd3:(y==("__debug__":Str))=false:=by decide)
  (hst:starEach [.Name n p1,.Name y p2] X.env=[(false,eval (.Name n p1) X.env),(false,eval (.Name y p2) X.env)]:=by rfl) (hst2:starEach [.Name y p2] X.env=[(false,eval (.Name y p2) X.env)]:=by rfl) (hpl:(backTo pos (starEach [.Name y p2] X.env)).any (·.1)=false:=by rfl) :
  PE (X.hand a oe) (.Call (.Name "isinstance" p) [.Name n p1,.Name y p2] [] pos) (tIsiR i a R b):=by
 refine PE.imp (fO (X:=X.hand a oe) hcr hg hm boot_isinstance (aX (pv i hN hv hd1 hd2) (aX (zx (X:=X.hand a oe) (pos:=p2) hgT hmT hvT hy hd3) eF hst2) (by rw [hst,hst2])) (by decide) (by decide) (by rw [hst,hst2]) hpl) fun σ H Q h=>?_
 obtain ⟨e1,hR,q⟩:=h
 exact ⟨.ref a,e1,hR,.ty T,b,rfl,.inl ⟨.type T,rfl,fun u hu=>hu,hb⟩,q⟩
theorem pe_isT {j} (hcr:dS (X.hand a oe) (.builtin "isinstance") (rIsi X.K C a R)) (hm:X.mg "isinstance"=none) (hT:PA (X.hand a oe) es (tRefs ys)) (hl:ys.length<=sizeLine) (hb:kitAny X.K (.ref C) (ys.map Value.ref)=some b)
  (hN:X.N[i]? =some n:=by rfl) (hv:Vis X.env.scope n:=by first|exact Or.inl rfl|exact Or.inr (Or.inl rfl)|exact Or.inr (Or.inr rfl)) (hd1:(n==("__debug__":Str))=false:=by decide) (hd2:(n==("__classdict__":Str))=false:=by decide)
  (hg:Gl (X.hand a oe) "isinstance":=by rfl)
  (hst:starEach [.Name n p1,.Tuple es j p2] X.env=[(false,eval (.Name n p1) X.env),(false,eval (.Tuple es j p2) X.env)]:=by rfl) (hst2:starEach [.Tuple es j p2] X.env=[(false,eval (.Tuple es j p2) X.env)]:=by rfl) (hpl:(backTo pos (starEach [.Tuple es j p2] X.env)).any (·.1)=false:=by rfl) :
  PE (X.hand a oe) (.Call (.Name "isinstance" p) [.Name n p1,.Tuple es j p2] [] pos) (tIsiTR i a R ys b):=by
 refine PE.imp (fO (X:=X.hand a oe) hcr hg hm boot_isinstance (aX (pv i hN hv hd1 hd2) (aX (zy hT) eF hst2) (by rw [hst,hst2])) (by decide) (by decide) (by rw [hst,hst2]) hpl) fun σ H Q h=>?_
 obtain ⟨e1,q⟩:=h
 exact ⟨.ref a,e1,by rw [List.length_map];exact hl,fun tp htp=>⟨(q tp htp).1,.ref tp,b,rfl,.inr ⟨tp,ys,rfl,ao,hb⟩,(q tp htp).2⟩⟩
end
end L2
namespace L2
open PySem PySem.Spec PyProof.Rows
end L2
namespace L2
open PySem PySem.Spec PyProof.Rows
structure Yd (P:Program) (w:World) (K:PySem.W.Frag) (mg:Str->Option Value) (base:Heap) (CX:CXT) (k:Nat) (x:Str) (st:Stmt) (ps:List Str) (sp:Sp) (f:Addr) (fd:FuncData):Prop where
 d:Def K mg x st ps f fd
 o:cD P w K mg base CX k f fd ps sp
end L2
namespace Ru
open PySem L2 PyProof.Rows
noncomputable def kL (CR CP CN:Addr) (n:Nat):ak->M Flo:=
 sIf (fB (f2 gtD (fL qM (a9 (aa 0) aJ)) (fC (.int 0))))
   (aI [] 2 (f2 ixD (aa 0) (f2 oo (aa 1) (fL qM (a9 (aa 0) aJ)))))
   gb
noncomputable def kC (CR CP CN:Addr) (n:Nat):ak->M Flo:=
 (br (aI [] 2 (aa 1))
  (br (kL CR CP CN n)
  (br (aI [] 3 (f2 oo (f2 qL (f2 lB (f2 lB (aa 2) (f2 qL (f2 qL (fC (.int 7919)) (aa 1)) (aa 1))) (aa 1)) (fC (.int 982451653))) (fC (.int 2305843009213693951))))
  (g9 (f2 mJ (f2 oo (f2 qL (aa 3) (fC (.int 1000003))) (fC (.int 1152921504606846883))) (fC (.int 8)))))))
noncomputable def az (CR CP CN:Addr) (n:Nat):List Dat->M Dat:=cw 4 2 (kC CR CP CN n)
noncomputable def e8 (CR CP CN:Addr) (n:Nat):ak->M Flo:=
 (g9 (f2 ixD (fL dv (a9 (fC (.int 1)) (a9 (fC (.int 1)) (a9 (fC (.int 100)) (a9 (f2 powD (fC (.int 10)) (fC (.int 5))) aJ))))) (f2 oo (fL (az CR CP CN n) (a9 (aa 0) (a9 (fC (.int 99)) aJ))) (fC (.int 4)))))
noncomputable def bP (CR CP CN:Addr) (n:Nat):List Dat->M Dat:=cw 1 1 (e8 CR CP CN n)
noncomputable def i5 (CR CP CN:Addr) (n:Nat):ak->M Flo:=
 (br (aI [4,6] 8 (fL (az CR CP CN n) (a9 (aa 0) (a9 (f2 lB (f2 lB (aa 1) (f2 qL (aa 5) (aa 2))) (aa 7)) aJ))))
  (mH [4,6] 6 (f2 lB (f2 qL (f2 oo (aa 8) (fC (.int 6))) (aa 3)) (f2 oo (f2 mJ (aa 8) (fC (.int 6))) (aa 3)))))
noncomputable def kS (CR CP CN:Addr) (n:Nat):ak->M Flo:=
 (br (aI [4] 6 (fL dv aJ))
  (br (qz [4,6] (mL vN (a9 (aa 2) aJ)) (.nm 7) (i5 CR CP CN n))
  (mH [4] 4 (aa 6))))
noncomputable def nt (CR CP CN:Addr) (n:Nat):ak->M Flo:=
 (br (aI [] 4 (fL dv aJ))
  (br (qz [4] (mL vN (a9 (aa 2) aJ)) (.nm 5) (kS CR CP CN n))
  (g9 (aa 4))))
noncomputable def fE (CR CP CN:Addr) (n:Nat):List Dat->M Dat:=cw 9 4 (nt CR CP CN n)
noncomputable def fH (CR CP CN:Addr) (n:Nat):ak->M Flo:=
 sIf (fB (f2 eqM (f2 oo (fL (az CR CP CN n) (a9 (aa 0) (a9 (fC (.int 1)) aJ))) (fC (.int 2))) (fC (.int 1))))
   (aI [] 3 (fL (fE CR CP CN n) (a9 (aa 0) (a9 (fC (.int 50)) (a9 (aa 2) (a9 (aa 1) aJ))))))
   gb
noncomputable def eN (CR CP CN:Addr) (n:Nat):ak->M Flo:=
 (br (aI [] 2 (f2 lB (fC (.int 1)) (f2 oo (fL (az CR CP CN n) (a9 (aa 0) (a9 (fC (.int 0)) aJ))) (fC (.int 6)))))
  (br (aI [] 3 (fC .non))
  (br (fH CR CP CN n)
  (g9 (fL jK (a9 (fL (fE CR CP CN n) (a9 (aa 0) (a9 (fC (.int 4)) (a9 (aa 2) (a9 (aa 1) aJ))))) (a9 (aa 3) aJ)))))))
noncomputable def bH (CR CP CN:Addr) (n:Nat):List Dat->M Dat:=cw 4 2 (eN CR CP CN n)
noncomputable def dH (CR CP CN:Addr) (n:Nat):ak->M Flo:=
 sIf (fB (f2 eqM (f2 oo (fL (az CR CP CN n) (a9 (aa 0) (a9 (fC (.int 3)) aJ))) (fC (.int 8))) (fC (.int 5))))
   (aI [] 4 (aa 2))
   gb
noncomputable def dJ (CR CP CN:Addr) (n:Nat):ak->M Flo:=
 (br (aI [5] 7 (fL (az CR CP CN n) (a9 (aa 0) (a9 (f2 lB (fC (.int 100)) (aa 6)) aJ))))
  (br (aI [5] 8 (f2 oo (f2 mJ (aa 7) (fC (.int 16))) (f2 qL (f2 qL (fC (.int 25)) (aa 3)) (f2 lB (aa 6) (fC (.int 1))))))
  (br (aI [5] 9 (f2 ixD (fL dv (a9 (f2 powD (fC (.int 10)) (fC (.int 9))) (a9 (f2 qL (f2 qL (fC (.int 100)) (aa 3)) (aa 4)) (a9 (f2 qL (f2 qL (fC (.int 12)) (aa 3)) (aa 4)) (a9 (f2 qL (fC (.int 3)) (aa 3)) aJ))))) (f2 mJ (f2 oo (aa 7) (fC (.int 16))) (fC (.int 5)))))
  (br (aI [5] 10 (fL minD (a9 (f2 powD (fC (.int 10)) (fC (.int 9))) (a9 (f2 lB (aa 8) (aa 9)) aJ))))
  (br (aI [5] 11 (fL minD (a9 (f2 powD (fC (.int 10)) (fC (.int 9))) (a9 (f2 lB (aa 8) (f2 oo (f2 mJ (aa 7) (fC (.int 1000))) (f2 qL (fC (.int 20)) (aa 3)))) aJ))))
  (br (aI [5] 12 (f2 ixD (fL dv (a9 (f2 oo (f2 mJ (aa 7) (fC (.int 7))) (fC (.int 10))) (a9 (f2 oo (f2 mJ (aa 7) (fC (.int 7))) (f2 lB (f2 powD (fC (.int 10)) (fC (.int 9))) (fC (.int 1)))) aJ))) (f2 oo (f2 mJ (aa 7) (fC (.int 3))) (fC (.int 2)))))
  (mH [5] 5 (fL jK (a9 (f2 oo (f2 mJ (aa 7) (fC (.int 11))) (fL qM (a9 (f2 ixD (aa 1) (fC (.int 0))) aJ))) (a9 (aa 8) (a9 (aa 10) (a9 (aa 11) (a9 (aa 12) aJ)))))))))))))
noncomputable def ju (CR CP CN:Addr) (n:Nat):ak->M Flo:=
 (br (aI [] 4 (f2 oo (fL (az CR CP CN n) (a9 (aa 0) (a9 (fC (.int 2)) aJ))) (f2 lB (f2 mJ (aa 2) (fC (.int 4))) (fC (.int 1)))))
  (br (dH CR CP CN n)
  (br (aI [] 5 (fL dv aJ))
  (br (qz [5] (mL vN (a9 (aa 4) aJ)) (.nm 6) (dJ CR CP CN n))
  (g9 (aa 5))))))
noncomputable def cF (CR CP CN:Addr) (n:Nat):List Dat->M Dat:=cw 13 4 (ju CR CP CN n)
noncomputable def eX (CR CP CN:Addr) (n:Nat):ak->M Flo:=
 sIf (fB (f2 eqM (f2 oo (fL (az CR CP CN n) (a9 (aa 0) (a9 (fC (.int 151)) aJ))) (fC (.int 8))) (fC (.int 5))))
   (aI [] 2 (fC (.int 20)))
   gb
noncomputable def iL (CR CP CN:Addr) (n:Nat):ak->M Flo:=
 (br (aI [3] 5 (fL (az CR CP CN n) (a9 (aa 0) (a9 (f2 lB (fC (.int 152)) (aa 4)) aJ))))
  (br (aI [3] 6 (f2 oo (f2 mJ (aa 5) (fC (.int 9))) (f2 qL (fC (.int 150)) (aa 1))))
  (mH [3] 3 (fL jK (a9 (aa 6) (a9 (f2 lB (f2 lB (aa 6) (fC (.int 1))) (f2 qL (f2 oo (aa 5) (fC (.int 9))) (aa 1))) aJ))))))
noncomputable def kD (CR CP CN:Addr) (n:Nat):ak->M Flo:=
 (br (aI [] 2 (f2 oo (fL (az CR CP CN n) (a9 (aa 0) (a9 (fC (.int 150)) aJ))) (fC (.int 5))))
  (br (eX CR CP CN n)
  (br (aI [] 3 (fL dv aJ))
  (br (qz [3] (mL vN (a9 (aa 2) aJ)) (.nm 4) (iL CR CP CN n))
  (g9 (aa 3))))))
noncomputable def da (CR CP CN:Addr) (n:Nat):List Dat->M Dat:=cw 7 2 (kD CR CP CN n)
noncomputable def eh (CR CP CN:Addr) (n:Nat):ak->M Bool:=
 (fB (f2 gtD (fL qM (a9 (aa 3) aJ)) (fC (.int 0))))
noncomputable def i4 (CR CP CN:Addr) (n:Nat):ak->M Flo:=
 (br (oA false 6 (fL (az CR CP CN n) (a9 (aa 0) (a9 (f2 lB (fC (.int 180)) (fL qM (a9 (aa 3) aJ))) aJ))))
  (br (oA false 7 (f2 qL (f2 oo (f2 mJ (aa 6) (fC (.int 64))) (fL minD (a9 (fL qM (a9 (aa 3) aJ)) (a9 (fC (.int 3)) aJ)))) (fL intD (a9 (f2 eqM (f2 oo (aa 6) (fC (.int 4))) (fC (.int 0))) aJ))))
  (br (yY 3 (.tp [8,9]) (aa 7))
  (mH [3,4] 4 (fL jK (a9 (aa 9) (a9 (f2 oo (f2 mJ (aa 6) (fC (.int 4096))) (aa 5)) aJ)))))))
noncomputable def nr (CR CP CN:Addr) (n:Nat):ak->M Flo:=
 (br (aI [] 3 (fL mV (a9 (mi (mL vN (a9 (fL qM (a9 (aa 2) aJ)) aJ)) [none,some 2] (.nm 0) qP (fL jK (a9 (f2 ixD (f2 ixD (aa 1) (aa 0)) (fC (.int 1))) (a9 (aa 0) aJ)))) aJ)))
  (br (aI [3] 4 (fL dv aJ))
  (br (aI [3,4] 5 (f2 yU (fC (.int 2)) (fL intD (a9 (f2 isND (f2 ixD (aa 1) (fC (.int 1))) (fC .non)) aJ))))
  (br (bW (eh CR CP CN n) (i4 CR CP CN n) n)
  (g9 (aa 4))))))
noncomputable def fD (CR CP CN:Addr) (n:Nat):List Dat->M Dat:=cw 10 3 (nr CR CP CN n)
noncomputable def m8 (CR CP CN:Addr) (n:Nat):ak->M Flo:=
 (br (aI [] 2 (fL (bP CR CP CN n) (a9 (aa 0) aJ)))
  (br (aI [] 3 (fL (bH CR CP CN n) (a9 (aa 0) (a9 (aa 2) aJ))))
  (br (aI [] 4 (fL (cF CR CP CN n) (a9 (aa 0) (a9 (aa 3) (a9 (aa 1) (a9 (aa 2) aJ))))))
  (g9 (fL jK (a9 (aa 3) (a9 (aa 4) (a9 (fL (da CR CP CN n) (a9 (aa 0) (a9 (aa 2) aJ))) (a9 (fL (fD CR CP CN n) (a9 (aa 0) (a9 (aa 3) (a9 (aa 4) aJ)))) aJ)))))))))
noncomputable def gm (CR CP CN:Addr) (n:Nat):List Dat->M Dat:=cw 5 2 (m8 CR CP CN n)
noncomputable def kz (CR CP CN:Addr) (n:Nat):ak->M Flo:=
 (g9 (mi (fIt (aa 0)) [none] (.nm 0) qP (fL uG (a9 (aa 0) aJ))))
noncomputable def eI (CR CP CN:Addr) (n:Nat):List Dat->M Dat:=cw 1 1 (kz CR CP CN n)
noncomputable def rT (CR CP CN:Addr) (n:Nat):ak->M Flo:=
 sIf (fOr (vp (rK (f1 nO (aa 0)))) (rK (f1 lT (aa 0))))
   (g9 (fC (.bl false)))
   gb
noncomputable def t5 (CR CP CN:Addr) (n:Nat):ak->M Flo:=
 (br (rT CR CP CN n)
  (g9 (j5 leD leD (fC (.int 0)) (aa 0) (fC (.int 1000000)))))
noncomputable def kl (CR CP CN:Addr) (n:Nat):List Dat->M Dat:=cw 1 1 (t5 CR CP CN n)
noncomputable def m6 (CR CP CN:Addr) (n:Nat):ak->M Flo:=
 (g9 (qQ (f1 gp (aa 0)) (qQ (f2 eqM (fL qM (a9 (aa 0) aJ)) (aa 1)) (fL allD (a9 (mi (fIt (aa 0)) [none] (.nm 0) qP (fL (kl CR CP CN n) (a9 (aa 0) aJ))) aJ)))))
noncomputable def cO (CR CP CN:Addr) (n:Nat):List Dat->M Dat:=cw 2 2 (m6 CR CP CN n)
noncomputable def lu (CR CP CN:Addr) (n:Nat):ak->M Flo:=
 sIf (vp (fB (j5 leD leD (fC (.int 1)) (aa 1) (fC (.int 6)))))
   sStk
   gb
noncomputable def lr (CR CP CN:Addr) (n:Nat):ak->M Flo:=
 sIf (vp (rK (fL allD (a9 (mi (fIt (aa 0)) [none,some 1] (.nm 0) qP (fL (cO CR CP CN n) (a9 (aa 0) (a9 (aa 1) aJ)))) aJ))))
   sStk
   gb
noncomputable def jr (CR CP CN:Addr) (n:Nat):ak->M Flo:=
 (br (aI [] 1 (fL qM (a9 (aa 0) aJ)))
  (br (lu CR CP CN n)
  (br (lr CR CP CN n)
  (g9 (fL (eI CR CP CN n) (a9 (aa 0) aJ))))))
noncomputable def aA (CR CP CN:Addr) (n:Nat):List Dat->M Dat:=cw 2 1 (jr CR CP CN n)
noncomputable def kK (CR CP CN:Addr) (n:Nat):ak->M Flo:=
 sIf (fB (f2 isND (f2 ixD (aa 0) (fC (.int 1))) (fC .non)))
   (g9 (fL (newR CR (aA CR CP CN n)) (a9 (f2 ixD (aa 0) (fC (.int 0))) aJ)))
   gb
noncomputable def kB (CR CP CN:Addr) (n:Nat):ak->M Flo:=
 (br (kK CR CP CN n)
  (g9 (fL (newP CP (aA CR CP CN n)) (a9 (f2 ixD (aa 0) (fC (.int 0))) (a9 (f2 ixD (aa 0) (fC (.int 1))) aJ)))))
noncomputable def cP (CR CP CN:Addr) (n:Nat):List Dat->M Dat:=cw 1 1 (kB CR CP CN n)
noncomputable def cI (CR CP CN:Addr) (n:Nat):ak->M Flo:=
 sIf (fB (j5 leD ltD (aa 3) (aa 1) (aa 4)))
   (br (aI [] 1 (aa 4))
  (aI [] 2 (fC (.bl true))))
   gb
noncomputable def bf (CR CP CN:Addr) (n:Nat):ak->M Flo:=
 (cI CR CP CN n)
noncomputable def bw (CR CP CN:Addr) (n:Nat):ak->M Bool:=
 (rK (aa 2))
noncomputable def cJ (CR CP CN:Addr) (n:Nat):ak->M Flo:=
 (br (aI [] 2 (fC (.bl false)))
  (qz [] (fIt (aa 0)) (.tp [3,4]) (bf CR CP CN n)))
noncomputable def gU (CR CP CN:Addr) (n:Nat):ak->M Flo:=
 (br (aI [] 2 (fC (.bl true)))
  (br (bW (bw CR CP CN n) (cJ CR CP CN n) n)
  (g9 (aa 1))))
noncomputable def cy (CR CP CN:Addr) (n:Nat):List Dat->M Dat:=cw 5 2 (gU CR CP CN n)
noncomputable def jx (CR CP CN:Addr) (n:Nat):ak->M Flo:=
 sIf (fB (f2 eqM (f2 ixD (aa 2) (fC (.int 1))) (f2 ixD (aa 3) (fC (.int 1)))))
   (g9 (f2 ixD (f2 ixD (f2 ixD (aa 0) (fC (.int 0))) (aa 4)) (aa 5)))
   gb
noncomputable def iZ (CR CP CN:Addr) (n:Nat):ak->M Flo:=
 (br (aI [] 4 (f2 ixD (f2 ixD (aa 1) (f2 ixD (aa 2) (fC (.int 0)))) (fC (.int 0))))
  (br (aI [] 5 (f2 ixD (f2 ixD (aa 1) (f2 ixD (aa 3) (fC (.int 0)))) (fC (.int 0))))
  (br (jx CR CP CN n)
  (g9 (f2 ixD (f2 ixD (f2 ixD (aa 0) (fC (.int 1))) (aa 4)) (aa 5))))))
noncomputable def ck (CR CP CN:Addr) (n:Nat):List Dat->M Dat:=cw 6 4 (iZ CR CP CN n)
noncomputable def fQ (CR CP CN:Addr) (n:Nat):ak->M Flo:=
 (oA false 7 (fL maxD (a9 (aa 7) (a9 (f2 lB (f2 ixD (aa 4) (aa 8)) (fL (ck CR CP CN n) (a9 (aa 0) (a9 (aa 1) (a9 (f2 ixD (aa 3) (aa 8)) (a9 (f2 ixD (aa 3) (aa 5)) aJ)))))) aJ))))
noncomputable def jw (CR CP CN:Addr) (n:Nat):ak->M Flo:=
 sIf (fB (f2 gtD (aa 7) (f2 ixD (aa 6) (fC (.int 2)))))
   (g9 (fL jK (a9 (f2 ixD (f2 ixD (aa 3) (aa 5)) (fC (.int 0))) (a9 (aa 7) aJ))))
   gb
noncomputable def fP (CR CP CN:Addr) (n:Nat):ak->M Flo:=
 (br (aI [4] 6 (f2 ixD (aa 1) (f2 ixD (f2 ixD (aa 3) (aa 5)) (fC (.int 0)))))
  (br (aI [4] 7 (f2 ixD (aa 6) (fC (.int 1))))
  (br (qz [4] (mL vN (a9 (aa 5) aJ)) (.nm 8) (fQ CR CP CN n))
  (br (aI [4] 7 (fL (cy CR CP CN n) (a9 (aa 2) (a9 (aa 7) aJ))))
  (br (jw CR CP CN n)
  (mH [4] 4 (aa 7)))))))
noncomputable def iY (CR CP CN:Addr) (n:Nat):ak->M Flo:=
 (br (aI [] 4 (fL dv aJ))
  (br (qz [4] (mL vN (a9 (fL qM (a9 (aa 3) aJ)) aJ)) (.nm 5) (fP CR CP CN n))
  (g9 (aa 4))))
noncomputable def cQ (CR CP CN:Addr) (n:Nat):List Dat->M Dat:=cw 9 4 (iY CR CP CN n)
noncomputable def oN (CR CP CN:Addr) (n:Nat):ak->M Flo:=
 (g9 (mi (fIt (aa 1)) [none,none,some 0] (.tp [0,1]) qP (fL jK (a9 (f2 ixD (f2 ixD (aa 2) (aa 0)) (fC (.int 0))) (a9 (aa 1) aJ)))))
noncomputable def fw (CR CP CN:Addr) (n:Nat):List Dat->M Dat:=cw 2 2 (oN CR CP CN n)
noncomputable def bZ (CR CP CN:Addr) (n:Nat):ak->M Flo:=
 sIf (fAnd (rK (aa 1)) (fB (f2 leD (aa 2) (f2 ixD (f2 ixD (aa 1) (f1 negD (fC (.int 1)))) (fC (.int 1))))))
   (sv 1 (f1 negD (fC (.int 1))) (fL jK (a9 (f2 ixD (f2 ixD (aa 1) (f1 negD (fC (.int 1)))) (fC (.int 0))) (a9 (fL maxD (a9 (aa 3) (a9 (f2 ixD (f2 ixD (aa 1) (f1 negD (fC (.int 1)))) (fC (.int 1))) aJ))) aJ))))
   (mH [1] 1 (fL jK (a9 (aa 2) (a9 (aa 3) aJ))))
noncomputable def bB (CR CP CN:Addr) (n:Nat):ak->M Flo:=
 (bZ CR CP CN n)
noncomputable def eK (CR CP CN:Addr) (n:Nat):ak->M Flo:=
 (br (aI [] 1 (fL dv aJ))
  (br (qz [1] (fIt (fL mV (a9 (aa 0) aJ))) (.tp [2,3]) (bB CR CP CN n))
  (g9 (aa 1))))
noncomputable def aZ (CR CP CN:Addr) (n:Nat):List Dat->M Dat:=cw 4 1 (eK CR CP CN n)
noncomputable def o5 (CR CP CN:Addr) (n:Nat):ak->M Flo:=
 sIf (fB (j5 leD ltD (aa 2) (aa 1) (aa 3)))
   (g9 (aa 3))
   gb
noncomputable def kN (CR CP CN:Addr) (n:Nat):ak->M Flo:=
 (o5 CR CP CN n)
noncomputable def ky (CR CP CN:Addr) (n:Nat):ak->M Flo:=
 (br (qz [] (fIt (fL (aZ CR CP CN n) (a9 (aa 0) aJ))) (.tp [2,3]) (kN CR CP CN n))
  (g9 (aa 1)))
noncomputable def fy (CR CP CN:Addr) (n:Nat):List Dat->M Dat:=cw 4 2 (ky CR CP CN n)
noncomputable def kE (CR CP CN:Addr) (n:Nat):ak->M Flo:=
 (g9 (f2 ixD (f2 ixD (f1 (tH [CR,CP] "gaps") (aa 0)) (f2 ixD (aa 1) (fC (.int 0)))) (f2 ixD (aa 2) (fC (.int 0)))))
noncomputable def b8 (CR CP CN:Addr) (n:Nat):List Dat->M Dat:=cw 3 3 (kE CR CP CN n)
noncomputable def j0 (CR CP CN:Addr) (n:Nat):ak->M Flo:=
 (br (aI [] 3 (fIte (fB (f2 eqM (f2 ixD (aa 1) (fC (.int 1))) (f2 ixD (aa 2) (fC (.int 1))))) (f1 (tH [CR,CP] "gaps") (aa 0)) (f1 (tH [CP] "beside") (aa 0))))
  (g9 (f2 ixD (f2 ixD (aa 3) (f2 ixD (aa 1) (fC (.int 0)))) (f2 ixD (aa 2) (fC (.int 0))))))
noncomputable def bj (CR CP CN:Addr) (n:Nat):List Dat->M Dat:=cw 4 3 (j0 CR CP CN n)
noncomputable def nq (CR CP CN:Addr) (n:Nat):ak->M Flo:=
 (g9 (mi (mL vN (a9 (aa 3) aJ)) [none,some 0,some 1,some 2,some 3] (.nm 0) qP (f2 lB (f2 ixD (aa 3) (aa 0)) (j4 CR CP "apart" (b8 CR CP CN n) (bj CR CP CN n) (aa 1) (a9 (f2 ixD (aa 2) (aa 0)) (a9 (f2 ixD (aa 2) (aa 4)) aJ))))))
noncomputable def iw (CR CP CN:Addr) (n:Nat):List Dat->M Dat:=cw 4 4 (nq CR CP CN n)
noncomputable def mv (CR CP CN:Addr) (n:Nat):ak->M Flo:=
 sIf (fB (f2 gtD (aa 9) (f2 ixD (aa 8) (fC (.int 2)))))
   (xW CN "flight" "time" (a9 (f2 ixD (aa 7) (fC (.int 0))) (a9 (aa 9) aJ)))
   gb
noncomputable def ee (CR CP CN:Addr) (n:Nat):ak->M Flo:=
 (br (fNoX (aI [5] 8 (f2 ixD (aa 1) (f2 ixD (aa 7) (fC (.int 0))))))
  (br (fNoX (oA false 9 (fL (fy CR CP CN n) (a9 (aa 2) (a9 (fL maxD (a9 (f2 lB (fL dv (a9 (f2 ixD (aa 8) (fC (.int 1))) aJ)) (fL (iw CR CP CN n) (a9 (aa 0) (a9 (aa 4) (a9 (aa 5) (a9 (aa 6) aJ)))))) aJ)) aJ)))))
  (br (mv CR CP CN n)
  (fNoX (mH [5] 5 (aa 9))))))
noncomputable def mD (CR CP CN:Addr) (n:Nat):ak->M Flo:=
 (br (fNoX (aI [] 4 (fL (fw CR CP CN n) (a9 (aa 1) (a9 (aa 3) aJ)))))
  (br (fNoX (aI [] 5 (fL dv aJ)))
  (br (qz [5] (uO (aa 3)) (.tp [6,7]) (ee CR CP CN n))
  (fNoX (g9 (aa 5))))))
noncomputable def d9 (CR CP CN:Addr) (n:Nat):List Dat->M Dat:=cw 10 4 (mD CR CP CN n)
noncomputable def o6 (CR CP CN:Addr) (n:Nat):ak->M Flo:=
 sIf (fB (j5 leD ltD (aa 3) (aa 1) (aa 4)))
   (aI [] 2 (f2 yU (aa 3) (fC (.int 1))))
   gb
noncomputable def kQ (CR CP CN:Addr) (n:Nat):ak->M Flo:=
 (o6 CR CP CN n)
noncomputable def nk (CR CP CN:Addr) (n:Nat):ak->M Flo:=
 (br (aI [] 2 (aa 1))
  (br (qz [] (fIt (fL (aZ CR CP CN n) (a9 (aa 0) aJ))) (.tp [3,4]) (kQ CR CP CN n))
  (g9 (fIte (fB (f2 geD (aa 2) (fC (.int 0)))) (aa 2) (fC .non)))))
noncomputable def iu (CR CP CN:Addr) (n:Nat):List Dat->M Dat:=cw 5 2 (nk CR CP CN n)
noncomputable def kO (CR CP CN:Addr) (n:Nat):ak->M Flo:=
 (br (oA true 8 (mi (mL rng2 (a9 (f2 lB (aa 7) (fC (.int 1))) (a9 (aa 6) aJ))) [none,some 0,some 4,some 5,some 7] (.nm 0) qP (f2 yU (f2 ixD (aa 2) (aa 0)) (j4 CR CP "apart" (b8 CR CP CN n) (bj CR CP CN n) (aa 1) (a9 (f2 ixD (aa 3) (aa 4)) (a9 (f2 ixD (aa 3) (aa 0)) aJ))))))
  (sv 4 (aa 7) (fL (iu CR CP CN n) (a9 (aa 2) (a9 (fL minD (a9 (f2 lB (fL dv (a9 (f2 ixD (f2 ixD (aa 1) (f2 ixD (f2 ixD (aa 3) (aa 7)) (fC (.int 0)))) (fC (.int 2))) aJ)) (aa 8)) aJ)) aJ)))))
noncomputable def nj (CR CP CN:Addr) (n:Nat):ak->M Flo:=
 (br (aI [] 4 (fL (d9 CR CP CN n) (a9 (aa 0) (a9 (aa 1) (a9 (aa 2) (a9 (aa 3) aJ))))))
  (fNoX (br (aI [4] 5 (fL (fw CR CP CN n) (a9 (aa 1) (a9 (aa 3) aJ))))
  (br (aI [4] 6 (fL qM (a9 (aa 3) aJ)))
  (br (qz [4] (mL yx (a9 (f2 yU (aa 6) (fC (.int 1))) (a9 (f1 negD (fC (.int 1))) (a9 (f1 negD (fC (.int 1))) aJ)))) (.nm 7) (kO CR CP CN n))
  (g9 (aa 4)))))))
noncomputable def ir (CR CP CN:Addr) (n:Nat):List Dat->M Dat:=cw 9 4 (nj CR CP CN n)
noncomputable def nR (CR CP CN:Addr) (n:Nat):ak->M Flo:=
 (br (aI [] 4 (fL (d9 CR CP CN n) (a9 (aa 0) (a9 (aa 1) (a9 (aa 2) (a9 (aa 3) aJ))))))
  (g9 (fLZ (aa 4) (fL (ir CR CP CN n) (a9 (aa 0) (a9 (aa 1) (a9 (aa 2) (a9 (aa 3) aJ))))))))
noncomputable def eG (CR CP CN:Addr) (n:Nat):List Dat->M Dat:=cw 5 4 (nR CR CP CN n)
noncomputable def i3 (CR CP CN:Addr) (n:Nat):ak->M Flo:=
 pI [5] CN (aI [] 5 (fL (eG CR CP CN n) (a9 (aa 0) (a9 (aa 1) (a9 (aa 2) (a9 (aa 3) aJ)))))) (wV 6 4 "flight" "time")
noncomputable def kJ (CR CP CN:Addr) (n:Nat):ak->M Flo:=
 sIf (fB (f2 neM (aa 4) (fL dv aJ)))
   (vL (fL jK (a9 (f2 ixD (aa 4) (fC (.int 0))) (a9 (f2 ixD (aa 4) (fC (.int 1))) aJ))))
   gb
noncomputable def kA (CR CP CN:Addr) (n:Nat):ak->M Flo:=
 (br (aI [] 4 (fL dv aJ))
  (br (aI [] 5 (fL dv aJ))
  (br (i3 CR CP CN n)
  (br (kJ CR CP CN n)
  (g9 (aa 5))))))
noncomputable def bG (CR CP CN:Addr) (n:Nat):List Dat->M Dat:=cw 7 4 (kA CR CP CN n)
noncomputable def m7 (CR CP CN:Addr) (n:Nat):ak->M Flo:=
 (g9 (qQ (f1 nO (aa 0)) (f1 notD (f1 lT (aa 0)))))
noncomputable def dY (CR CP CN:Addr) (n:Nat):List Dat->M Dat:=cw 1 1 (m7 CR CP CN n)
noncomputable def mQ (CR CP CN:Addr) (n:Nat):ak->M Flo:=
 sIf (fOr (vp (rK (f1 gp (aa 0)))) (fB (f2 neM (aa 0) (aa 1))))
   (g9 (fC (.bl false)))
   gb
noncomputable def mP (CR CP CN:Addr) (n:Nat):ak->M Flo:=
 sIf (fOr (vp (rK (f1 dZ (aa 2)))) (fOr (vp (rK (fL (dY CR CP CN n) (a9 (f2 ixD (aa 2) (fC (.int 0))) aJ)))) (vp (rK (fL (dY CR CP CN n) (a9 (f2 ixD (aa 2) (fC (.int 1))) aJ))))))
   (g9 (fC (.bl false)))
   gb
noncomputable def fS (CR CP CN:Addr) (n:Nat):ak->M Flo:=
 (mP CR CP CN n)
noncomputable def m9 (CR CP CN:Addr) (n:Nat):ak->M Flo:=
 (br (mQ CR CP CN n)
  (br (qz [] (fIt (aa 0)) (.nm 2) (fS CR CP CN n))
  (g9 (fC (.bl true)))))
noncomputable def gn (CR CP CN:Addr) (n:Nat):List Dat->M Dat:=cw 3 2 (m9 CR CP CN n)
noncomputable def dG (CR CP CN:Addr) (n:Nat):ak->M Flo:=
 sIf (fB (j5 leD ltD (aa 3) (aa 1) (aa 4)))
   (br (aI [] 1 (f2 yU (aa 3) (fC (.int 1))))
  (aI [] 2 (fC (.bl true))))
   gb
noncomputable def bx (CR CP CN:Addr) (n:Nat):ak->M Flo:=
 (dG CR CP CN n)
noncomputable def bK (CR CP CN:Addr) (n:Nat):ak->M Bool:=
 (rK (aa 2))
noncomputable def dI (CR CP CN:Addr) (n:Nat):ak->M Flo:=
 (br (aI [] 2 (fC (.bl false)))
  (qz [] (fIt (aa 0)) (.tp [3,4]) (bx CR CP CN n)))
noncomputable def jt (CR CP CN:Addr) (n:Nat):ak->M Flo:=
 (br (aI [] 2 (fC (.bl true)))
  (br (bW (bK CR CP CN n) (dI CR CP CN n) n)
  (g9 (aa 1))))
noncomputable def dw (CR CP CN:Addr) (n:Nat):List Dat->M Dat:=cw 5 2 (jt CR CP CN n)
noncomputable def dc (CR CP CN:Addr) (n:Nat):ak->M Flo:=
 (oA false 6 (fL minD (a9 (aa 6) (a9 (f2 yU (f2 ixD (aa 4) (aa 7)) (fL (ck CR CP CN n) (a9 (aa 0) (a9 (aa 1) (a9 (f2 ixD (aa 3) (aa 5)) (a9 (f2 ixD (aa 3) (aa 7)) aJ)))))) aJ))))
noncomputable def fJ (CR CP CN:Addr) (n:Nat):ak->M Flo:=
 (br (aI [4] 6 (f2 ixD (f2 ixD (aa 1) (f2 ixD (f2 ixD (aa 3) (aa 5)) (fC (.int 0)))) (fC (.int 2))))
  (br (qz [4] (mL rng2 (a9 (f2 lB (aa 5) (fC (.int 1))) (a9 (fL qM (a9 (aa 3) aJ)) aJ))) (.nm 7) (dc CR CP CN n))
  (sv 4 (aa 5) (fL (dw CR CP CN n) (a9 (aa 2) (a9 (aa 6) aJ))))))
noncomputable def iA (CR CP CN:Addr) (n:Nat):ak->M Flo:=
 (br (aI [] 4 (f2 repD (fL dv (a9 (fC (.int 0)) aJ)) (fL qM (a9 (aa 3) aJ))))
  (br (qz [4] (mL yx (a9 (f2 yU (fL qM (a9 (aa 3) aJ)) (fC (.int 1))) (a9 (f1 negD (fC (.int 1))) (a9 (f1 negD (fC (.int 1))) aJ)))) (.nm 5) (fJ CR CP CN n))
  (g9 (aa 4))))
noncomputable def cR (CR CP CN:Addr) (n:Nat):List Dat->M Dat:=cw 8 4 (iA CR CP CN n)
noncomputable def tG (CR CP CN:Addr) (n:Nat):ak->M Flo:=
 sIf (fB (f2 neM (aa 7) (fL dv (a9 (aa 2) (a9 (aa 3) (a9 (aa 4) aJ))))))
   (g9 (fC (.bl false)))
   gb
noncomputable def tF (CR CP CN:Addr) (n:Nat):ak->M Flo:=
 sIf (rK (f1 dZ (aa 6)))
   (g9 (f2 eqM (aa 8) (aa 6)))
   gb
noncomputable def wk (CR CP CN:Addr) (n:Nat):ak->M Flo:=
 sIf (vp (rK (fL (gn CR CP CN n) (a9 (aa 8) (a9 (aa 9) aJ)))))
   (g9 (fC (.bl false)))
   gb
noncomputable def wj (CR CP CN:Addr) (n:Nat):ak->M Flo:=
 sIf (fB (f2 eqM (fL qM (a9 (aa 4) aJ)) (fC (.int 0))))
   (g9 (f2 eqM (fL (bG CR CP CN n) (a9 (aa 5) (a9 (fL dv aJ) (a9 (aa 3) (a9 (fL dv aJ) aJ))))) (fL dv aJ)))
   gb
noncomputable def AH (CR CP CN:Addr) (n:Nat):ak->M Flo:=
 sIf (fOr (vp (rK (f1 gp (aa 18)))) (fOr (fB (f2 neM (fL qM (a9 (aa 18) aJ)) (fL qM (a9 (aa 9) aJ)))) (fB (f2 neM (f2 ixD (aa 18) (aa 10)) (fL jK (a9 (f2 ixD (aa 6) (aa 10)) (a9 (f2 ixD (aa 6) (aa 10)) aJ)))))))
   (g9 (fC (.bl false)))
   gb
noncomputable def Aa (CR CP CN:Addr) (n:Nat):ak->M Flo:=
 (br (uf [] (.tp [1,2,3,4]) (fL (gm CR CP CN n) (a9 (aa 0) (a9 (fC (.int 40)) aJ))))
  (br (aI [] 5 (fL (cP CR CP CN n) (a9 (aa 1) aJ)))
  (br (aI [] 6 (fL (cQ CR CP CN n) (a9 (aa 1) (a9 (aa 2) (a9 (aa 3) (a9 (aa 4) aJ))))))
  (br (aI [] 7 (fL dv (a9 (fL uG (a9 (aa 2) aJ)) (a9 (fL uG (a9 (aa 3) aJ)) (a9 (fL uG (a9 (aa 4) aJ)) aJ)))))
  (br (aI [] 8 (fL (bG CR CP CN n) (a9 (aa 5) (a9 (f2 ixD (aa 7) (fC (.int 0))) (a9 (f2 ixD (aa 7) (fC (.int 1))) (a9 (f2 ixD (aa 7) (fC (.int 2))) aJ))))))
  (br (tG CR CP CN n)
  (br (tF CR CP CN n)
  (br (aI [8] 9 (mi (vo (aa 6) (fL (cR CR CP CN n) (a9 (aa 1) (a9 (aa 2) (a9 (aa 3) (a9 (aa 4) aJ)))))) [none] (.nm 0) qP (aa 0)))
  (br (wk CR CP CN n)
  (br (mH [8] 8 (fL jK (a9 (fC (.int 0)) (a9 (fC (.int 0)) aJ))))
  (br (wj CR CP CN n)
  (br (aI [] 10 (f2 oo (fL (az CR CP CN n) (a9 (aa 0) (a9 (fC (.int 250)) aJ))) (fL qM (a9 (aa 4) aJ))))
  (br (aI [] 11 (f2 ixD (f2 ixD (aa 4) (aa 10)) (fC (.int 0))))
  (br (uf [] (.tp [12,13,14,15,16]) (f2 ixD (aa 2) (aa 11)))
  (br (aI [] 17 (f2 lB (f2 lB (fSl xb (aa 2) pNone (uk (aa 11))) (fL dv (a9 (fL jK (a9 (aa 12) (a9 (aa 13) (a9 (f2 ixD (aa 6) (aa 10)) (a9 (aa 15) (a9 (aa 16) aJ)))))) aJ))) (fSl xb (aa 2) (uk (f2 lB (aa 11) (fC (.int 1)))) pNone)))
  (br (aI [] 18 (fL (bG CR CP CN n) (a9 (aa 5) (a9 (aa 17) (a9 (aa 3) (a9 (aa 4) aJ))))))
  (br (AH CR CP CN n)
  (br (aI [] 19 (mi (mL vN (a9 (fL qM (a9 (aa 9) aJ)) aJ)) [none,some 9,some 18] (.nm 0) (fOr (fB (f2 neM (f2 ixD (f2 ixD (aa 2) (aa 0)) (fC (.int 0))) (f2 ixD (f2 ixD (aa 1) (aa 0)) (fC (.int 0))))) (fB (f2 gtD (f2 ixD (f2 ixD (aa 2) (aa 0)) (fC (.int 1))) (f2 ixD (f2 ixD (aa 1) (aa 0)) (fC (.int 1)))))) (aa 0)))
  (g9 (qQ (f2 eqM (aa 19) (fL dv aJ)) (f2 eqM (fL (bG CR CP CN n) (a9 (aa 5) (a9 (f2 ixD (aa 7) (fC (.int 0))) (a9 (f2 ixD (aa 7) (fC (.int 1))) (a9 (f2 ixD (aa 7) (fC (.int 2))) aJ))))) (aa 9))))))))))))))))))))))
noncomputable def yc (CR CP CN:Addr) (n:Nat):List Dat->M Dat:=cw 20 1 (Aa CR CP CN n)
noncomputable def top (i:Nat):Stmt:=PySem.Challenge.pw_wakeorder_k32_free_times.main.body.getD i (.Pass ⟨0,0,0,0⟩)
noncomputable abbrev bU:Stmt:=top 26
noncomputable abbrev iU:Stmt:=top 35
noncomputable abbrev kf:Stmt:=top 28
noncomputable abbrev eC:Stmt:=top 29
noncomputable abbrev fN:Stmt:=top 32
noncomputable abbrev hW:Stmt:=top 33
noncomputable abbrev kc:Stmt:=top 34
noncomputable abbrev iT:Stmt:=top 36
noncomputable abbrev hV:Stmt:=top 21
noncomputable abbrev pw:Stmt:=top 19
noncomputable abbrev iR:Stmt:=top 20
noncomputable abbrev dn:Stmt:=top 22
noncomputable abbrev ke:Stmt:=top 30
noncomputable abbrev dF:Stmt:=top 37
noncomputable abbrev g8:Stmt:=top 31
noncomputable abbrev iV:Stmt:=top 38
noncomputable abbrev jA:Stmt:=top 10
noncomputable abbrev bN:Stmt:=top 6
noncomputable abbrev k7:Stmt:=top 7
noncomputable abbrev bO:Stmt:=inClass (top 23) 3
noncomputable abbrev cj:Stmt:=inClass (top 24) 2
noncomputable abbrev ka:Stmt:=top 11
noncomputable abbrev jz:Stmt:=top 12
noncomputable abbrev k9:Stmt:=top 8
noncomputable abbrev k8:Stmt:=top 14
noncomputable abbrev nH:Stmt:=top 15
noncomputable abbrev kb:Stmt:=top 41
noncomputable abbrev iS:Stmt:=top 27
noncomputable abbrev iW:Stmt:=top 42
noncomputable abbrev fM:Stmt:=top 39
noncomputable abbrev eD:Stmt:=top 40
noncomputable abbrev xV:Stmt:=top 43
noncomputable abbrev s_nR:Stmt:=inClass (top 23) 0
noncomputable abbrev s_nP:Stmt:=inClass (top 24) 0
noncomputable abbrev vK:Stmt:=inClass (top 4) 0
structure Zs (K:PySem.W.Frag) (mg:Str->Option Value) (CR CP CN:Addr):Prop where
 xCN:XTry K mg "NoTime" CN
 aCN_flight:tT K CN "flight"
 aCN_time:tT K CN "time"
 kR:Kls K mg "Rules" CR
 kP:Kls K mg "Pair" CP
 xt:∀C∈[CR,CP],Cls K C/\lx K C "gaps"
 yk:∀C∈[CP],Cls K C/\lx K C "beside"
 xN:mg "all"=none
 r9:mg "bool"=none
 ib:mg "enumerate"=none
 tV:mg "int"=none
 aV:mg "isinstance"=none
 gZ:mg "len"=none
 ll:mg "list"=none
 vt:mg "max"=none
 sd:mg "min"=none
 cL:mg "range"=none
 mx:mg "sorted"=none
 ot:mg "tuple"=none
 xM:mg "zip"=none
 dz:∃t,mg "GREATEST_GAP"=some (.int 1000000 t)
 gq:∃t,mg "MOST_KINDS"=some (.int 6 t)
 kit:Kit K
theorem sc_nCN:aF ["self","flight","time"] ["self","flight","time"] (aq vK):=⟨rfl,rfl,rfl,by decide +kernel,rfl,by decide +kernel,by decide +kernel⟩
theorem okn_CN {P:Program} {w:World} {K:PySem.W.Frag} {mg:Str->Option Value} {base:Heap} {C f:Addr} {fd:FuncData} (N:Fun K "__init__" "NoTime.__init__" vK f fd) (z1:tT K C "flight") (z2:tT K C "time"):cD P w K mg base CX0 1 f fd ["self","flight","time"] (spX2 C "flight" "time"):=by
 refine N.okX sc_nCN (fun vs H Q E h=>?_) (fun cdv A outer s H vs Q E hr h=>?_)
 ·obtain ⟨a,v1,v2,rfl,_⟩:=h
  rfl
 ·obtain ⟨a,v1,v2,rfl,ha,q⟩:=h
  refine ⟨_,pA (ps_x1 (pv 0) (pv 1) z1) (pJ (ps_x2 (pv 0) (pv 2) z2)),?_⟩
  refine ⟨v1,rfl,_,rfl,a,rfl,ha,fun d hd hne=>⟨v2,rfl,_,rfl,a,d,[("flight",v1)],rfl,ao,by rw [ar hne];exact ao,hne,(by show 1<=900;decide),?_⟩⟩
  rw [upd_mid hne]
  exact q d hd hne
theorem iQ:aF ["_law_script","_law_k","_law_cell","_law_number"] ["_law_script","_law_k"] (aq bU):=⟨rfl,rfl,rfl,by decide +kernel,rfl,by decide +kernel,by decide +kernel⟩
theorem uz {n:Nat} {P:Program} {w:World} {K:PySem.W.Frag} {mg:Str->Option Value} {base:Heap} {CR CP CN:Addr} (Z:Zs K mg CR CP CN) {aO:Addr} {aG:FuncData} (bV:Def K mg "_law_draw" bU ["_law_script","_law_k"] aO aG):cD P w K mg base CX0 1 aO aG ["_law_script","_law_k"] (spF K false (az CR CP CN n) 2):=
 nS (O':=[]) bV.fn iQ false (kC CR CP CN n) fun cdv A outer s H E hr=>
  (ah (av (i:=2) (own:=false) iQ.nd (aj 1))
  (ah (i0 (e9 o_gt (aH kI Z.gZ PySem.boot_len (a8 (aj 0) ai)) ae)
   (aw (av (i:=2) (own:=false) iQ.nd (ay bz (aj 0) (aB gO (aj 1) (aH kI Z.gZ PySem.boot_len (a8 (aj 0) ai))))))
   cZ)
  (ah (av (i:=3) (own:=false) iQ.nd (aB gO (aB lL (aD (aB gQ (aD (aB gQ (aj 2) (aB lL (aB lL ae (aj 1)) (aj 1)))) (aj 1))) ae) ae))
  (aw (aR (aB jJ (aB gO (aB lL (aj 3) ae) ae) ae))))))
theorem su:aF ["_law_script"] ["_law_script"] (aq iU):=⟨rfl,rfl,rfl,by decide +kernel,rfl,by decide +kernel,by decide +kernel⟩
theorem sJ {n:Nat} {P:Program} {w:World} {K:PySem.W.Frag} {mg:Str->Option Value} {base:Heap} {CR CP CN:Addr} (Z:Zs K mg CR CP CN) {aO:Addr} {aG:FuncData} (af:Yd P w K mg base CX0 1 "_law_draw" bU ["_law_script","_law_k"] (spF K false (az CR CP CN n) 2) aO aG) {gH:Addr} {eS:FuncData} (jg:Def K mg "_law_scale" iU ["_law_script"] gH eS):cD P w K mg base CX0 2 gH eS ["_law_script"] (spF K false (bP CR CP CN n) 1):=
 nS (O':=[]) jg.fn su false (e8 CR CP CN n) fun cdv A outer s H E hr=>
  (aw (aR (ay bz (aD (cH (a8 ae (a8 ae (a8 ae (a8 (aB zK ae ae) ai)))))) (aB gO (aC af.o hr af.d.mg af.d.fn.kp af.d.bd (a8 (aj 0) (a8 ae ai))) ae))))
theorem dX:aF ["_law_script","_law_by","_law_kinds","_law_scale_here","_law_rows","_law_one","_law_row","_law_other","_law_number"] ["_law_script","_law_by","_law_kinds","_law_scale_here"] (aq kf):=⟨rfl,rfl,rfl,by decide +kernel,rfl,by decide +kernel,by decide +kernel⟩
theorem uy {n:Nat} {P:Program} {w:World} {K:PySem.W.Frag} {mg:Str->Option Value} {base:Heap} {CR CP CN:Addr} (Z:Zs K mg CR CP CN) {aO:Addr} {aG:FuncData} (af:Yd P w K mg base CX0 1 "_law_draw" bU ["_law_script","_law_k"] (spF K false (az CR CP CN n) 2) aO aG) {iJ:Addr} {gD:FuncData} (lj:Def K mg "_law_gaps" kf ["_law_script","_law_by","_law_kinds","_law_scale_here"] iJ gD):cD P w K mg base CX0 2 iJ gD ["_law_script","_law_by","_law_kinds","_law_scale_here"] (spF K false (fE CR CP CN n) 4):=
 nS (O':=[]) lj.fn dX false (nt CR CP CN n) fun cdv A outer s H E hr=>
  (ah (av (i:=4) (own:=true) dX.nd (cH ai))
  (ah (gY (pt:=.nm 5) (kG Z.cL (a8 (aj 2) ai)) (qT dX.nd)
   (ah (av (i:=6) (own:=true) dX.nd (cH ai))
  (bC (O2:=[4,6]) (ah (gY (pt:=.nm 7) (kG Z.cL (a8 (aj 2) ai)) (qT dX.nd)
   (ah (av (i:=8) (own:=false) dX.nd (aC af.o hr af.d.mg af.d.fn.kp af.d.bd (a8 (aj 0) (a8 (aD (aB gQ (aD (aB gQ (aj 1) (aB lL (aj 5) (aj 2)))) (aj 7))) ai))))
  (aw (kF (i:=6) (aD (aB gQ (aB lL (aB gO (aj 8) ae) (aj 3)) (aB gO (aB jJ (aj 8) ae) (aj 3))))))))
  (bC (O2:=[4]) (aw (kF (i:=4) (aj 6))))))))
  (bC (O2:=[]) (aw (aR (aj 4))))))
theorem dE:aF ["_law_script","_law_scale_here","_law_kinds","_law_beside"] ["_law_script","_law_scale_here"] (aq eC):=⟨rfl,rfl,rfl,by decide +kernel,rfl,by decide +kernel,by decide +kernel⟩
theorem pe {n:Nat} {P:Program} {w:World} {K:PySem.W.Frag} {mg:Str->Option Value} {base:Heap} {CR CP CN:Addr} (Z:Zs K mg CR CP CN) {iJ:Addr} {gD:FuncData} (d6:Yd P w K mg base CX0 2 "_law_gaps" kf ["_law_script","_law_by","_law_kinds","_law_scale_here"] (spF K false (fE CR CP CN n) 4) iJ gD) {aO:Addr} {aG:FuncData} (af:Yd P w K mg base CX0 1 "_law_draw" bU ["_law_script","_law_k"] (spF K false (az CR CP CN n) 2) aO aG) {cV:Addr} {cz:FuncData} (fg:Def K mg "_law_rules_of" eC ["_law_script","_law_scale_here"] cV cz):cD P w K mg base CX0 3 cV cz ["_law_script","_law_scale_here"] (spF K false (bH CR CP CN n) 2):=
 nS (O':=[]) fg.fn dE false (eN CR CP CN n) fun cdv A outer s H E hr=>
  (ah (av (i:=2) (own:=false) dE.nd (aD (aB gQ ae (aB gO (aC af.o (hr.mono (by decide)) af.d.mg af.d.fn.kp af.d.bd (a8 (aj 0) (a8 ae ai))) ae))))
  (ah (av (i:=3) (own:=false) dE.nd xv)
  (ah (i0 (e9 (yy hr.units) (aB gO (aC af.o (hr.mono (by decide)) af.d.mg af.d.fn.kp af.d.bd (a8 (aj 0) (a8 ae ai))) ae) ae)
   (aw (av (i:=3) (own:=false) dE.nd (aC d6.o hr d6.d.mg d6.d.fn.kp d6.d.bd (a8 (aj 0) (a8 ae (a8 (aj 2) (a8 (aj 1) ai)))))))
   cZ)
  (aw (aR (j6 (a8 (aC d6.o hr d6.d.mg d6.d.fn.kp d6.d.bd (a8 (aj 0) (a8 ae (a8 (aj 2) (a8 (aj 1) ai))))) (a8 (aj 3) ai))))))))
theorem aN:aF ["_law_script","_law_rules","_law_most","_law_scale_here","_law_many","_law_flights_here","_law_k","_law_number","_law_first","_law_wide","_law_last","_law_due","_law_price"] ["_law_script","_law_rules","_law_most","_law_scale_here"] (aq fN):=⟨rfl,rfl,rfl,by decide +kernel,rfl,by decide +kernel,by decide +kernel⟩
theorem pN {n:Nat} {P:Program} {w:World} {K:PySem.W.Frag} {mg:Str->Option Value} {base:Heap} {CR CP CN:Addr} (Z:Zs K mg CR CP CN) {aO:Addr} {aG:FuncData} (af:Yd P w K mg base CX0 1 "_law_draw" bU ["_law_script","_law_k"] (spF K false (az CR CP CN n) 2) aO aG) {dD:Addr} {cU:FuncData} (fX:Def K mg "_law_flights" fN ["_law_script","_law_rules","_law_most","_law_scale_here"] dD cU):cD P w K mg base CX0 2 dD cU ["_law_script","_law_rules","_law_most","_law_scale_here"] (spF K false (cF CR CP CN n) 4):=
 nS (O':=[]) fX.fn aN false (ju CR CP CN n) fun cdv A outer s H E hr=>
  (ah (av (i:=4) (own:=false) aN.nd (aB gO (aC af.o hr af.d.mg af.d.fn.kp af.d.bd (a8 (aj 0) (a8 ae ai))) (aD (aB gQ (aB jJ (aj 2) ae) ae))))
  (ah (i0 (e9 (yy hr.units) (aB gO (aC af.o hr af.d.mg af.d.fn.kp af.d.bd (a8 (aj 0) (a8 ae ai))) ae) ae)
   (aw (av (i:=4) (own:=false) aN.nd (aj 2)))
   cZ)
  (ah (av (i:=5) (own:=true) aN.nd (cH ai))
  (ah (gY (pt:=.nm 6) (kG Z.cL (a8 (aj 4) ai)) (qT aN.nd)
   (ah (av (i:=7) (own:=false) aN.nd (aC af.o hr af.d.mg af.d.fn.kp af.d.bd (a8 (aj 0) (a8 (aD (aB gQ ae (aj 6))) ai))))
  (ah (av (i:=8) (own:=false) aN.nd (aB gO (aB jJ (aj 7) ae) (aB lL (aB lL ae (aj 3)) (aD (aB gQ (aj 6) ae)))))
  (ah (av (i:=9) (own:=false) aN.nd (ay bz (aD (cH (a8 (aB zK ae ae) (a8 (aB lL (aB lL ae (aj 3)) (aj 4)) (a8 (aB lL (aB lL ae (aj 3)) (aj 4)) (a8 (aB lL ae (aj 3)) ai)))))) (aB jJ (aB gO (aj 7) ae) ae)))
  (ah (av (i:=10) (own:=false) aN.nd (aH (AG rfl) Z.sd boot_min (a8 (aB zK ae ae) (a8 (aD (aB gQ (aj 8) (aj 9))) ai))))
  (ah (av (i:=11) (own:=false) aN.nd (aH (AG rfl) Z.sd boot_min (a8 (aB zK ae ae) (a8 (aD (aB gQ (aj 8) (aB gO (aB jJ (aj 7) ae) (aB lL ae (aj 3))))) ai))))
  (ah (av (i:=12) (own:=false) aN.nd (ay bz (aD (cH (a8 (aB gO (aB jJ (aj 7) ae) ae) (a8 (aB gO (aB jJ (aj 7) ae) (aD (aB gQ (aB zK ae ae) ae))) ai)))) (aB gO (aB jJ (aj 7) ae) ae)))
  (aw (kF (i:=5) (j6 (a8 (aB gO (aB jJ (aj 7) ae) (aH kI Z.gZ PySem.boot_len (a8 (ay bz (aj 1) ae) ai))) (a8 (aj 8) (a8 (aj 10) (a8 (aj 11) (a8 (aj 12) ai)))))))))))))))
  (bC (O2:=[]) (aw (aR (aj 5))))))))
theorem bT:aF ["_law_script","_law_scale_here","_law_many","_law_closed_here","_law_k","_law_number","_law_start"] ["_law_script","_law_scale_here"] (aq hW):=⟨rfl,rfl,rfl,by decide +kernel,rfl,by decide +kernel,by decide +kernel⟩
theorem qH {n:Nat} {P:Program} {w:World} {K:PySem.W.Frag} {mg:Str->Option Value} {base:Heap} {CR CP CN:Addr} (Z:Zs K mg CR CP CN) {aO:Addr} {aG:FuncData} (af:Yd P w K mg base CX0 1 "_law_draw" bU ["_law_script","_law_k"] (spF K false (az CR CP CN n) 2) aO aG) {eW:Addr} {dB:FuncData} (i9:Def K mg "_law_closed" hW ["_law_script","_law_scale_here"] eW dB):cD P w K mg base CX0 2 eW dB ["_law_script","_law_scale_here"] (spF K false (da CR CP CN n) 2):=
 nS (O':=[]) i9.fn bT false (kD CR CP CN n) fun cdv A outer s H E hr=>
  (ah (av (i:=2) (own:=false) bT.nd (aB gO (aC af.o hr af.d.mg af.d.fn.kp af.d.bd (a8 (aj 0) (a8 ae ai))) ae))
  (ah (i0 (e9 (yy hr.units) (aB gO (aC af.o hr af.d.mg af.d.fn.kp af.d.bd (a8 (aj 0) (a8 ae ai))) ae) ae)
   (aw (av (i:=2) (own:=false) bT.nd ae))
   cZ)
  (ah (av (i:=3) (own:=true) bT.nd (cH ai))
  (ah (gY (pt:=.nm 4) (kG Z.cL (a8 (aj 2) ai)) (qT bT.nd)
   (ah (av (i:=5) (own:=false) bT.nd (aC af.o hr af.d.mg af.d.fn.kp af.d.bd (a8 (aj 0) (a8 (aD (aB gQ ae (aj 4))) ai))))
  (ah (av (i:=6) (own:=false) bT.nd (aB gO (aB jJ (aj 5) ae) (aB lL ae (aj 1))))
  (aw (kF (i:=3) (j6 (a8 (aj 6) (a8 (aD (aB gQ (aD (aB gQ (aj 6) ae)) (aB lL (aB gO (aj 5) ae) (aj 1)))) ai))))))))
  (bC (O2:=[]) (aw (aR (aj 3))))))))
theorem cg:aF ["_law_script","_law_rules","_law_flights_here","_law_left","_law_pairs","_law_strips","_law_number","_law_at","_law_first","_law_k"] ["_law_script","_law_rules","_law_flights_here"] (aq kc):=⟨rfl,rfl,rfl,by decide +kernel,rfl,by decide +kernel,by decide +kernel⟩
theorem uw {n:Nat} {P:Program} {w:World} {K:PySem.W.Frag} {mg:Str->Option Value} {base:Heap} {CR CP CN:Addr} (Z:Zs K mg CR CP CN) {aO:Addr} {aG:FuncData} (af:Yd P w K mg base CX0 1 "_law_draw" bU ["_law_script","_law_k"] (spF K false (az CR CP CN n) 2) aO aG) {iH:Addr} {gB:FuncData} (lg:Def K mg "_law_plan" kc ["_law_script","_law_rules","_law_flights_here"] iH gB):cD P w K mg base CX0 2 iH gB ["_law_script","_law_rules","_law_flights_here"] (spF K false (fD CR CP CN n) 3):=
 nS (O':=[]) lg.fn cg false (nr CR CP CN n) fun cdv A outer s H E hr=>
  (ah (av (i:=3) (own:=true) cg.nd (aH xC Z.mx boot_sorted (a8 (aD (nz ["_law_k","_law_flights_here"] [none,some 2] (kG Z.cL (a8 (aH kI Z.gZ PySem.boot_len (a8 (aj 2) ai)) ai)) (fun _ _ _ _ _=>p8 (by decide +kernel)) (cS rfl) (fun _ _ _ _ _=>ml) (fun _ _ _ _ _=>(j6 (a8 (ay bz (ay bz (aj 1) (aj 0)) ae) (a8 (aj 0) ai)))))) ai)))
  (ah (av (i:=4) (own:=true) cg.nd (cH ai))
  (bC (O2:=[3,4]) (ah (av (i:=5) (own:=false) cg.nd (aB vV ae (jQ c_int Z.tV PyProof.Rows.boot_int (a8 (qf o_isN (ay bz (aj 1) ae) xv) ai))))
  (ah (tm (m:=n) (e9 o_gt (aH kI Z.gZ PySem.boot_len (a8 (aj 3) ai)) ae)
   (ah (q9 (i:=6) (own:=false) cg.nd (aC af.o hr af.d.mg af.d.fn.kp af.d.bd (a8 (aj 0) (a8 (aD (aB gQ ae (aH kI Z.gZ PySem.boot_len (a8 (aj 3) ai)))) ai))))
  (ah (q9 (i:=7) (own:=false) cg.nd (aB lL (aB gO (aB jJ (aj 6) ae) (aH (AG rfl) Z.sd boot_min (a8 (aH kI Z.gZ PySem.boot_len (a8 (aj 3) ai)) (a8 ae ai)))) (jQ c_int Z.tV PyProof.Rows.boot_int (a8 (qf (yy hr.units) (aB gO (aj 6) ae) ae) ai))))
  (ah (ds_popU (i:=3) (qS rfl (bc (i:=8) cg.nd (bc (i:=9) cg.nd jv))) (aj 7))
  (aw (kF (i:=4) (j6 (a8 (aj 9) (a8 (aB gO (aB jJ (aj 6) ae) (aj 5)) ai)))))))))
  (bC (O2:=[]) (aw (aR (aj 4)))))))))
theorem hU:aF ["_law_script","_law_most","_law_scale_here","_law_rules","_law_flights_here"] ["_law_script","_law_most"] (aq iT):=⟨rfl,rfl,rfl,by decide +kernel,rfl,by decide +kernel,by decide +kernel⟩
theorem sI {n:Nat} {P:Program} {w:World} {K:PySem.W.Frag} {mg:Str->Option Value} {base:Heap} {CR CP CN:Addr} (Z:Zs K mg CR CP CN) {gH:Addr} {eS:FuncData} (j9:Yd P w K mg base CX0 2 "_law_scale" iU ["_law_script"] (spF K false (bP CR CP CN n) 1) gH eS) {cV:Addr} {cz:FuncData} (eZ:Yd P w K mg base CX0 3 "_law_rules_of" eC ["_law_script","_law_scale_here"] (spF K false (bH CR CP CN n) 2) cV cz) {dD:Addr} {cU:FuncData} (fV:Yd P w K mg base CX0 2 "_law_flights" fN ["_law_script","_law_rules","_law_most","_law_scale_here"] (spF K false (cF CR CP CN n) 4) dD cU) {eW:Addr} {dB:FuncData} (i7:Yd P w K mg base CX0 2 "_law_closed" hW ["_law_script","_law_scale_here"] (spF K false (da CR CP CN n) 2) eW dB) {iH:Addr} {gB:FuncData} (l3:Yd P w K mg base CX0 2 "_law_plan" kc ["_law_script","_law_rules","_law_flights_here"] (spF K false (fD CR CP CN n) 3) iH gB) {gG:Addr} {eR:FuncData} (jf:Def K mg "_law_state" iT ["_law_script","_law_most"] gG eR):cD P w K mg base CX0 4 gG eR ["_law_script","_law_most"] (spF K false (gm CR CP CN n) 2):=
 nS (O':=[]) jf.fn hU false (m8 CR CP CN n) fun cdv A outer s H E hr=>
  (ah (av (i:=2) (own:=false) hU.nd (aC j9.o (hr.mono (by decide)) j9.d.mg j9.d.fn.kp j9.d.bd (a8 (aj 0) ai)))
  (ah (av (i:=3) (own:=false) hU.nd (aC eZ.o hr eZ.d.mg eZ.d.fn.kp eZ.d.bd (a8 (aj 0) (a8 (aj 2) ai))))
  (ah (av (i:=4) (own:=false) hU.nd (aC fV.o (hr.mono (by decide)) fV.d.mg fV.d.fn.kp fV.d.bd (a8 (aj 0) (a8 (aj 3) (a8 (aj 1) (a8 (aj 2) ai))))))
  (aw (aR (j6 (a8 (aj 3) (a8 (aj 4) (a8 (aC i7.o (hr.mono (by decide)) i7.d.mg i7.d.fn.kp i7.d.bd (a8 (aj 0) (a8 (aj 2) ai))) (a8 (aC l3.o (hr.mono (by decide)) l3.d.mg l3.d.fn.kp l3.d.bd (a8 (aj 0) (a8 (aj 3) (a8 (aj 4) ai)))) ai))))))))))
theorem qC:aF ["rows"] ["rows"] (aq hV):=⟨rfl,rfl,rfl,by decide +kernel,rfl,by decide +kernel,by decide +kernel⟩
theorem qG {n:Nat} {P:Program} {w:World} {K:PySem.W.Frag} {mg:Str->Option Value} {base:Heap} {CR CP CN:Addr} (Z:Zs K mg CR CP CN) {eV:Addr} {dA:FuncData} (i8:Def K mg "copied_rows" hV ["rows"] eV dA):cD P w K mg base CX0 1 eV dA ["rows"] (spF K false (eI CR CP CN n) 1):=
 nS (O':=[]) i8.fn qC false (kz CR CP CN n) fun cdv A outer s H E hr=>
  (aw (aR (aD (nz ["row"] [none] (mM (aj 0)) (fun _ _ _ _ _=>p8 (by decide +kernel)) (cS rfl) (fun _ _ _ _ _=>ml) (fun _ _ _ _ _=>(aD (jQ xD Z.ll PyProof.Rows.boot_list (a8 (aj 0) ai))))))))
theorem yX:aF ["number"] ["number"] (aq pw):=⟨rfl,rfl,rfl,by decide +kernel,rfl,by decide +kernel,by decide +kernel⟩
theorem zG {n:Nat} {P:Program} {w:World} {K:PySem.W.Frag} {mg:Str->Option Value} {base:Heap} {CR CP CN:Addr} (Z:Zs K mg CR CP CN) {nU:Addr} {mf:FuncData} (pF:Def K mg "is_gap" pw ["number"] nU mf):cD P w K mg base CX0 1 nU mf ["number"] (spF K false (kl CR CP CN n) 1):=
 nS (O':=[]) pF.fn yX false (t5 CR CP CN n) fun cdv A outer s H E hr=>
  (ah (i0 (PW.pt (wd (nW (jP (rN Z.kit Z.aV Z.tV (aj 0)))) (uT (jP (qe Z.kit Z.aV Z.r9 (aj 0))))))
   (aw (aR oQ))
   cZ)
  (aw (aR (de_chain o_le o_le ae (aj 0) (Ar Z.dz)))))
theorem sq:aF ["row","kinds"] ["row","kinds"] (aq iR):=⟨rfl,rfl,rfl,by decide +kernel,rfl,by decide +kernel,by decide +kernel⟩
theorem sG {n:Nat} {P:Program} {w:World} {K:PySem.W.Frag} {mg:Str->Option Value} {base:Heap} {CR CP CN:Addr} (Z:Zs K mg CR CP CN) {nU:Addr} {mf:FuncData} (pE:Yd P w K mg base CX0 1 "is_gap" pw ["number"] (spF K false (kl CR CP CN n) 1) nU mf) {gE:Addr} {eP:FuncData} (jc:Def K mg "is_gap_row" iR ["row","kinds"] gE eP):cD P w K mg base CX0 2 gE eP ["row","kinds"] (spF K false (cO CR CP CN n) 2):=
 nS (O':=[]) jc.fn sq false (m6 CR CP CN n) fun cdv A outer s H E hr=>
  (aw (aR (xx (nv Z.kit Z.aV Z.ll (aj 0)) (xx (qf (yy hr.units) (aH kI Z.gZ PySem.boot_len (a8 (aj 0) ai)) (aj 1)) (Aq (aH (c_all rfl) Z.xN boot_all (a8 (aD (nz ["number"] [none] (mM (aj 0)) (fun _ _ _ _ _=>p8 (by decide +kernel)) (cS rfl) (fun _ _ _ _ _=>ml) (fun _ _ _ _ _=>(aC pE.o hr pE.d.mg pE.d.fn.kp pE.d.bd (a8 (aj 0) ai))))) ai)))))))
theorem lG:aF ["rows","kinds"] ["rows"] (aq dn):=⟨rfl,rfl,rfl,by decide +kernel,rfl,by decide +kernel,by decide +kernel⟩
theorem pL {n:Nat} {P:Program} {w:World} {K:PySem.W.Frag} {mg:Str->Option Value} {base:Heap} {CR CP CN:Addr} (Z:Zs K mg CR CP CN) {eV:Addr} {dA:FuncData} (i6:Yd P w K mg base CX0 1 "copied_rows" hV ["rows"] (spF K false (eI CR CP CN n) 1) eV dA) {gE:Addr} {eP:FuncData} (j7:Yd P w K mg base CX0 2 "is_gap_row" iR ["row","kinds"] (spF K false (cO CR CP CN n) 2) gE eP) {bu:Addr} {b9:FuncData} (aE:Def K mg "checked_rows" dn ["rows"] bu b9):cD P w K mg base CX0 3 bu b9 ["rows"] (spF K false (aA CR CP CN n) 1):=
 nS (O':=[]) aE.fn lG false (jr CR CP CN n) fun cdv A outer s H E hr=>
  (ah (av (i:=1) (own:=false) lG.nd (aH kI Z.gZ PySem.boot_len (a8 (aj 0) ai)))
  (ah (i0 (nW (nX o_le o_le ae (aj 1) (Ar Z.gq)))
   (aw ds_stk)
   cZ)
  (ah (i0 (nW (jP (aH (c_all rfl) Z.xN boot_all (a8 (aD (nz ["row","kinds"] [none,some 1] (mM (aj 0)) (fun _ _ _ _ _=>p8 (by decide +kernel)) (cS rfl) (fun _ _ _ _ _=>ml) (fun _ _ _ _ _=>(aC j7.o hr j7.d.mg j7.d.fn.kp j7.d.bd (a8 (aj 0) (a8 (aj 1) ai)))))) ai))))
   (aw ds_stk)
   cZ)
  (aw (aR (aC i6.o (hr.mono (by decide)) i6.d.mg i6.d.fn.kp i6.d.bd (a8 (aj 0) ai)))))))
theorem sc_nR:aF ["self","gaps"] ["self","gaps"] (aq s_nR):=⟨rfl,rfl,rfl,by decide +kernel,rfl,by decide +kernel,by decide +kernel⟩
theorem okn_R {n:Nat} {P:Program} {w:World} {K:PySem.W.Frag} {mg:Str->Option Value} {base:Heap} {CR CP CN:Addr} {C bu f:Addr} {b9 fd:FuncData} (aE:Def K mg "checked_rows" dn ["rows"] bu b9) (OK:cD P w K mg base CX0 3 bu b9 ["rows"] (spF K false (aA CR CP CN n) 1))
  (N:Fun K "__init__" "Rules.__init__" s_nR f fd) (cl:Cls K C) (na:lx K C "gaps"):cD P w K mg base CX0 4 f fd ["self","gaps"] (spI1 K C (aA CR CP CN n)):=by
 refine N.okX sc_nR (fun vs H Q E h=>?_) (fun cdv A outer s H vs Q E hr h=>?_)
 ·obtain ⟨p,dx,v,F,d,rfl,_⟩:=h
  rfl
 ·obtain ⟨p,dx,v,F,d,rfl,hp,hF,s1,qd,q⟩:=h
  refine ⟨_,pJ (ps_fld (pv 0) (sD OK hr (by rfl) aE.mg aE.fn.kp aE.bd .nil vR (aX (pv 1) eF)) rfl),?_⟩
  refine ⟨v,rfl,F,[d],s1,⟨v,[],rfl,qd,rfl⟩,rfl,?_⟩
  skip
  cases hg:aA CR CP CN n [d] with
  |error e=>rw [hg] at q;exact q
  |ok r=>
   rw [hg] at q
   intro u F' H' st qw
   have hF1:F' p=none:=by
    cases hz:F' p with
    |none=>rfl
    |some o=>
     rcases st.nw p o hz with z|z
     ·rw [hF] at z;cases z
     ·rw [hp] at z;cases z
   refine ⟨_,rfl,p,C,dx,[],rfl,st.hh _ _ hp,cl,na,(by show 0<1000;decide),?_⟩
   refine q u F' _ st.ff (fun c o e=>?_) hF1 st.nw (fun c o e hc=>by rw [ar hc];exact st.hh _ _ e) ao qw
   have hc:c≠p:=fun z=>by rw [z,hF1] at e;cases e
   rw [ar hc]
   exact st.fh _ _ e
theorem putGB (a b:V):qE ("beside":Str) b [(("gaps":Str),a)]=[(("gaps":Str),a),(("beside":Str),b)]:=by
 show (if ("gaps":Str)="beside" then _ else (("gaps":Str),a)::qE "beside" b [])=_
 rw [if_neg (by decide +kernel)]
 rfl
theorem sc_nP:aF ["self","gaps","beside"] ["self","gaps","beside"] (aq s_nP):=⟨rfl,rfl,rfl,by decide +kernel,rfl,by decide +kernel,by decide +kernel⟩
theorem okn_P {n:Nat} {P:Program} {w:World} {K:PySem.W.Frag} {mg:Str->Option Value} {base:Heap} {CR CP CN:Addr} {bu f fR:Addr} {b9 fd fdR:FuncData} {mc:Value} (aE:Def K mg "checked_rows" dn ["rows"] bu b9) (OK:cD P w K mg base CX0 3 bu b9 ["rows"] (spF K false (aA CR CP CN n) 1))
  (S:Stat K CR mc "__init__" fR) (bI:Binds K fdR ["self","gaps"] []) (FI:cD P w K mg base CX0 4 fR fdR ["self","gaps"] (spI1 K CP (aA CR CP CN n))) (mR:mg "Rules"=some (.ref CR)) (zl:mg "len"=none)
  (N:Fun K "__init__" "Pair.__init__" s_nP f fd) (cl:Cls K CP) (na:lx K CP "gaps") (nb:lx K CP "beside"):cD P w K mg base CX0 5 f fd ["self","gaps","beside"] (spI2 K CP (aA CR CP CN n)):=by
 refine N.okX sc_nP (fun vs H Q E h=>?_) (fun cdv A outer s H vs Q E hr h=>?_)
 ·obtain ⟨p,dx,v,v2,F,d,d2,rfl,_⟩:=h
  rfl
 ·obtain ⟨p,dx,v,v2,F,d,d2,rfl,hp,hF,s1,qd,qd2,q⟩:=h
  refine ⟨_,pA (zo (pe_cmeth S (by rfl) mR FI hr bI .nil vR (aX (pv 0) (aX (pv 1) eF))))
   (pA (ps_fld (pv 0) (sD OK (hr.mono (by decide)) (by rfl) aE.mg aE.fn.kp aE.bd .nil vR (aX (pv 2) eF)) rfl)
   (pJ (ps_if (zf op_ne (fO mr (by rfl) zl PySem.boot_len (aX (zB (pv 0) rfl) eF)) (fO mr (by rfl) zl PySem.boot_len (aX (zB (pv 0) rfl) eF)) (zL _)) uh zg))),?_⟩
  refine ⟨_,rfl,_,rfl,p,dx,v,F,d,rfl,hp,hF,s1,qd,?_⟩
  cases hg:aA CR CP CN n [d] with
  |error e=>rw [hg] at q;exact q
  |ok r=>
   rw [hg,au] at q
   intro u F1 H1 a1 a2 a3 a4 a5 a6 a7
   refine ⟨v2,rfl,F1,[d2],a2,⟨v2,[],rfl,cf.mono a1 qd2,rfl⟩,rfl,?_⟩
   skip
   cases hg2:aA CR CP CN n [d2] with
   |error e=>rw [hg2] at q;exact False.elim q
   |ok r2=>
    rw [hg2,au] at q
    intro u2 F2 H2 st qw
    by_cases ht:twoL r r2=true
    ·rw [if_pos ht] at q
     have hF2:F2 p=none:=by
      cases hz:F2 p with
      |none=>rfl
      |some o=>
       rcases st.nw p o hz with z|z
       ·rw [a3] at z;cases z
       ·rw [a6] at z;cases z
     refine ⟨_,rfl,p,CP,dx,_,rfl,st.hh _ _ a6,cl,nb,(by show 1<1000;decide),?_⟩
     rw [putGB]
     have s3:aU F2 (upd H2 p (.ins CP dx [("gaps",u),("beside",u2)])):=fun c o e=>by
      have hc:c≠p:=fun z=>by rw [z,hF2] at e;cases e
      rw [ar hc]
      exact st.fh _ _ e
     cases r with
     |lst xs=>
      cases r2 with
      |lst ys=>
       have hl:xs.length=ys.length:=of_decide_eq_true ht
       obtain ⟨g1,xs1,e1,t1,z1⟩:=cf.mono st.ff a7
       obtain ⟨g2,xs2,e2,t2,z2⟩:=id qw
       refine ⟨_,rfl,p,CP,dx,_,_,rfl,ao,cl,nb,rfl,g2,_,by rw [e2],.inl (s3.lst t2),_,rfl,p,CP,dx,_,_,rfl,ao,cl,na,rfl,g1,_,by rw [e1],.inl (s3.lst t1),rfl,_,rfl,?_⟩
       refine iteNS (by rw [z1.length,z2.length,hl]) ?_
       refine q u u2 F2 _ (a1.trans st.ff) s3 hF2 (fun b o e=>?_) (fun c o e hc=>by rw [ar hc];exact st.hh _ _ (a5 c o e hc)) ao (cf.mono st.ff a7) qw
       rcases st.nw b o e with z|z
       ·exact a4 b o z
       ·refine .inr ?_
        cases hz:H b with
        |none=>rfl
        |some o'=>
         by_cases hb:b=p
         ·subst hb;rw [hF2] at e;cases e
         ·rw [a5 b o' hz hb] at z;cases z
      |_=>cases ht
     |_=>cases ht
    ·rw [if_neg ht] at q;exact False.elim q
theorem ue:aF ["_law_rules"] ["_law_rules"] (aq ke):=⟨rfl,rfl,rfl,by decide +kernel,rfl,by decide +kernel,by decide +kernel⟩
theorem ux {n:Nat} {P:Program} {w:World} {K:PySem.W.Frag} {mg:Str->Option Value} {base:Heap} {CR CP CN:Addr} (Z:Zs K mg CR CP CN) {f_nP:Addr} {fd_nP:FuncData} (N_P:Mth K CP "__init__" "Pair.__init__" s_nP ["self","gaps","beside"] f_nP fd_nP) (OKN_P:cD P w K mg base CX0 5 f_nP fd_nP ["self","gaps","beside"] (spI2 K CP (aA CR CP CN n))) {f_nR:Addr} {fd_nR:FuncData} (N_R:Mth K CR "__init__" "Rules.__init__" s_nR ["self","gaps"] f_nR fd_nR) (OKN_R:cD P w K mg base CX0 4 f_nR fd_nR ["self","gaps"] (spI1 K CR (aA CR CP CN n))) {iI:Addr} {gC:FuncData} (lh:Def K mg "_law_made" ke ["_law_rules"] iI gC):cD P w K mg base CX0 7 iI gC ["_law_rules"] (spF K false (cP CR CP CN n) 1):=
 nS (O':=[]) lh.fn ue false (kB CR CP CN n) fun cdv A outer s H E hr=>
  (ah (i0 (e9 o_isN (ay bz (aj 0) ae) xv)
   (aw (aR (de_newR ⟨Z.kR.mks,N_R.mt.at_,N_R.mt.fn,Z.kR.kp⟩ OKN_R (hr.mono (by decide)) Z.kR.mg N_R.bd (a8 (ay bz (aj 0) ae) ai))))
   cZ)
  (aw (aR (de_newP ⟨Z.kP.mks,N_P.mt.at_,N_P.mt.fn,Z.kP.kp⟩ OKN_P hr Z.kP.mg N_P.bd (a8 (ay bz (aj 0) ae) (a8 (ay bz (aj 0) ae) ai))))))
theorem bq:aF ["_law_closed_here","_law_time","_law_moved","_law_start","_law_stop"] ["_law_closed_here","_law_time"] (aq dF):=⟨rfl,rfl,rfl,by decide +kernel,rfl,by decide +kernel,by decide +kernel⟩
theorem oG {n:Nat} {P:Program} {w:World} {K:PySem.W.Frag} {mg:Str->Option Value} {base:Heap} {CR CP CN:Addr} (Z:Zs K mg CR CP CN) {cC:Addr} {cb:FuncData} (dN:Def K mg "_law_open_from" dF ["_law_closed_here","_law_time"] cC cb):cD P w K mg base CX0 1 cC cb ["_law_closed_here","_law_time"] (spF K false (cy CR CP CN n) 2):=
 nS (O':=[]) dN.fn bq false (gU CR CP CN n) fun cdv A outer s H E hr=>
  (ah (av (i:=2) (own:=false) bq.nd oQ)
  (ah (tm (m:=n) (jP (aj 2))
   (ah (av (i:=2) (own:=false) bq.nd oQ)
  (aw (gY (pt:=.tp [3,4]) (mM (aj 0)) (qS rfl (bc (i:=3) bq.nd (bc (i:=4) bq.nd jv)))
   (aw (i0 (nX o_le o_lt (aj 3) (aj 1) (aj 4))
   (ah (av (i:=1) (own:=false) bq.nd (aj 4))
  (aw (av (i:=2) (own:=false) bq.nd oQ)))
   cZ))))))
  (aw (aR (aj 1)))))
theorem jZ:aF ["_law_rules","_law_flights_here","_law_one","_law_other","_law_here","_law_there"] ["_law_rules","_law_flights_here","_law_one","_law_other"] (aq g8):=⟨rfl,rfl,rfl,by decide +kernel,rfl,by decide +kernel,by decide +kernel⟩
theorem sN {n:Nat} {P:Program} {w:World} {K:PySem.W.Frag} {mg:Str->Option Value} {base:Heap} {CR CP CN:Addr} (Z:Zs K mg CR CP CN) {cY:Addr} {cu:FuncData} (gN:Def K mg "_law_apart" g8 ["_law_rules","_law_flights_here","_law_one","_law_other"] cY cu):cD P w K mg base CX0 1 cY cu ["_law_rules","_law_flights_here","_law_one","_law_other"] (spF K false (ck CR CP CN n) 4):=
 nS (O':=[]) gN.fn jZ false (iZ CR CP CN n) fun cdv A outer s H E hr=>
  (ah (av (i:=4) (own:=false) jZ.nd (ay bz (ay bz (aj 1) (ay bz (aj 2) ae)) ae))
  (ah (av (i:=5) (own:=false) jZ.nd (ay bz (ay bz (aj 1) (ay bz (aj 3) ae)) ae))
  (ah (i0 (e9 (yy hr.units) (ay bz (aj 2) ae) (ay bz (aj 3) ae))
   (aw (aR (ay bz (ay bz (ay bz (aj 0) ae) (aj 4)) (aj 5))))
   cZ)
  (aw (aR (ay bz (ay bz (ay bz (aj 0) ae) (aj 4)) (aj 5)))))))
theorem bM:aF ["_law_rules","_law_flights_here","_law_closed_here","_law_plan_here","_law_times","_law_place","_law_flight","_law_time","_law_ahead"] ["_law_rules","_law_flights_here","_law_closed_here","_law_plan_here"] (aq iV):=⟨rfl,rfl,rfl,by decide +kernel,rfl,by decide +kernel,by decide +kernel⟩
theorem sM {n:Nat} {P:Program} {w:World} {K:PySem.W.Frag} {mg:Str->Option Value} {base:Heap} {CR CP CN:Addr} (Z:Zs K mg CR CP CN) {cC:Addr} {cb:FuncData} (dM:Yd P w K mg base CX0 1 "_law_open_from" dF ["_law_closed_here","_law_time"] (spF K false (cy CR CP CN n) 2) cC cb) {cY:Addr} {cu:FuncData} (bR:Yd P w K mg base CX0 1 "_law_apart" g8 ["_law_rules","_law_flights_here","_law_one","_law_other"] (spF K false (ck CR CP CN n) 4) cY cu) {gI:Addr} {eT:FuncData} (jh:Def K mg "_law_least" iV ["_law_rules","_law_flights_here","_law_closed_here","_law_plan_here"] gI eT):cD P w K mg base CX0 2 gI eT ["_law_rules","_law_flights_here","_law_closed_here","_law_plan_here"] (spF K false (cQ CR CP CN n) 4):=
 nS (O':=[]) jh.fn bM false (iY CR CP CN n) fun cdv A outer s H E hr=>
  (ah (av (i:=4) (own:=true) bM.nd (cH ai))
  (ah (gY (pt:=.nm 5) (kG Z.cL (a8 (aH kI Z.gZ PySem.boot_len (a8 (aj 3) ai)) ai)) (qT bM.nd)
   (ah (av (i:=6) (own:=false) bM.nd (ay bz (aj 1) (ay bz (ay bz (aj 3) (aj 5)) ae)))
  (ah (av (i:=7) (own:=false) bM.nd (ay bz (aj 6) ae))
  (ah (gY (pt:=.nm 8) (kG Z.cL (a8 (aj 5) ai)) (qT bM.nd)
   (aw (q9 (i:=7) (own:=false) bM.nd (aH (c_max rfl) Z.vt boot_max (a8 (aj 7) (a8 (aD (aB gQ (ay bz (aj 4) (aj 8)) (aC bR.o hr bR.d.mg bR.d.fn.kp bR.d.bd (a8 (aj 0) (a8 (aj 1) (a8 (ay bz (aj 3) (aj 8)) (a8 (ay bz (aj 3) (aj 5)) ai))))))) ai))))))
  (ah (av (i:=7) (own:=false) bM.nd (aC dM.o hr dM.d.mg dM.d.fn.kp dM.d.bd (a8 (aj 2) (a8 (aj 7) ai))))
  (ah (i0 (e9 o_gt (aj 7) (ay bz (aj 6) ae))
   (bC (O2:=[]) (aw (aR (j6 (a8 (ay bz (ay bz (aj 3) (aj 5)) ae) (a8 (aj 7) ai))))))
   cZ)
  (aw (kF (i:=4) (aj 7)))))))))
  (bC (O2:=[]) (aw (aR (aj 4))))))
theorem vJ:aF ["flights","plan"] ["flights","plan"] (aq jA):=⟨rfl,rfl,rfl,by decide +kernel,rfl,by decide +kernel,by decide +kernel⟩
theorem vU {n:Nat} {P:Program} {w:World} {K:PySem.W.Frag} {mg:Str->Option Value} {base:Heap} {CR CP CN:Addr} (Z:Zs K mg CR CP CN) {fG:Addr} {dQ:FuncData} (jW:Def K mg "spots_of" jA ["flights","plan"] fG dQ):cD P w K mg base CX0 1 fG dQ ["flights","plan"] (spF K false (fw CR CP CN n) 2):=
 nS (O':=[]) jW.fn vJ false (oN CR CP CN n) fun cdv A outer s H E hr=>
  (aw (aR (aD (nz ["flight","strip","flights"] [none,none,some 0] (mM (aj 1)) (fun _ _ _ _ _=>qS rfl (uU (i:=0) (by decide +kernel) (uU (i:=1) (by decide +kernel) jv))) (zU (by decide)) (fun _ _ _ _ _=>ml) (fun _ _ _ _ _=>(j6 (a8 (ay bz (ay bz (aj 2) (aj 0)) ae) (a8 (aj 1) ai))))))))
theorem cn:aF ["closed","joined","start","stop"] ["closed"] (aq bN):=⟨rfl,rfl,rfl,by decide +kernel,rfl,by decide +kernel,by decide +kernel⟩
theorem mX {n:Nat} {P:Program} {w:World} {K:PySem.W.Frag} {mg:Str->Option Value} {base:Heap} {CR CP CN:Addr} (Z:Zs K mg CR CP CN) {ba:Addr} {aT:FuncData} (bS:Def K mg "joined_stretches" bN ["closed"] ba aT):cD P w K mg base CX0 1 ba aT ["closed"] (spF K false (aZ CR CP CN n) 1):=
 nS (O':=[]) bS.fn cn false (eK CR CP CN n) fun cdv A outer s H E hr=>
  (ah (av (i:=1) (own:=true) cn.nd (cH ai))
  (ah (gY (pt:=.tp [2,3]) (mM (aD (aH xC Z.mx boot_sorted (a8 (aj 0) ai)))) (qS rfl (bc (i:=2) cn.nd (bc (i:=3) cn.nd jv)))
   (aw (i0 (PW.pt (dw_and (jP (aj 1)) (dw_and1 (e9 o_le (aj 2) (ay bz (ay bz (aj 1) (uV uB ae)) ae)))))
   (aw (we (i:=1) (j6 (a8 (ay bz (ay bz (aj 1) (uV uB ae)) ae) (a8 (aH (c_max rfl) Z.vt boot_max (a8 (aj 3) (a8 (ay bz (ay bz (aj 1) (uV uB ae)) ae) ai))) ai))) (uV uB ae)))
   (aw (kF (i:=1) (j6 (a8 (aj 2) (a8 (aj 3) ai))))))))
  (bC (O2:=[]) (aw (aR (aj 1))))))
theorem lF:aF ["closed","time","start","stop"] ["closed","time"] (aq k7):=⟨rfl,rfl,rfl,by decide +kernel,rfl,by decide +kernel,by decide +kernel⟩
theorem um {n:Nat} {P:Program} {w:World} {K:PySem.W.Frag} {mg:Str->Option Value} {base:Heap} {CR CP CN:Addr} (Z:Zs K mg CR CP CN) {ba:Addr} {aT:FuncData} (aK:Yd P w K mg base CX0 1 "joined_stretches" bN ["closed"] (spF K false (aZ CR CP CN n) 1) ba aT) {iB:Addr} {gu:FuncData} (l7:Def K mg "next_open" k7 ["closed","time"] iB gu):cD P w K mg base CX0 2 iB gu ["closed","time"] (spF K false (fy CR CP CN n) 2):=
 nS (O':=[]) l7.fn lF false (ky CR CP CN n) fun cdv A outer s H E hr=>
  (ah (gY (pt:=.tp [2,3]) (mM (aC aK.o hr aK.d.mg aK.d.fn.kp aK.d.bd (a8 (aj 0) ai))) (qS rfl (bc (i:=2) lF.nd (bc (i:=3) lF.nd jv)))
   (aw (i0 (nX o_le o_lt (aj 2) (aj 1) (aj 3))
   (aw (aR (aj 3)))
   cZ)))
  (aw (aR (aj 1))))
theorem qD:aF ["self","one","other"] ["self","one","other"] (aq bO):=⟨rfl,rfl,rfl,by decide +kernel,rfl,by decide +kernel,by decide +kernel⟩
theorem qI {n:Nat} {P:Program} {w:World} {K:PySem.W.Frag} {mg:Str->Option Value} {base:Heap} {CR CP CN:Addr} (Z:Zs K mg CR CP CN) {aP:Addr} {bD:FuncData} (ia:Mth K CR "apart" "Rules.apart" bO ["self","one","other"] aP bD):cD P w K mg base CX0 1 aP bD ["self","one","other"] (spF K false (b8 CR CP CN n) 3):=
 nS (O':=[]) ia.fn qD false (kE CR CP CN n) fun cdv A outer s H E hr=>
  (aw (aR (ay bz (ay bz (As (Cs:=[CR,CP]) Z.xt (aj 0)) (ay bz (aj 1) ae)) (ay bz (aj 2) ae))))
theorem nG:aF ["self","one","other","rows"] ["self","one","other"] (aq cj):=⟨rfl,rfl,rfl,by decide +kernel,rfl,by decide +kernel,by decide +kernel⟩
theorem sP {n:Nat} {P:Program} {w:World} {K:PySem.W.Frag} {mg:Str->Option Value} {base:Heap} {CR CP CN:Addr} (Z:Zs K mg CR CP CN) {aW:Addr} {bQ:FuncData} (jj:Mth K CP "apart" "Pair.apart" cj ["self","one","other"] aW bQ):cD P w K mg base CX0 1 aW bQ ["self","one","other"] (spF K false (bj CR CP CN n) 3):=
 nS (O':=[]) jj.fn nG false (j0 CR CP CN n) fun cdv A outer s H E hr=>
  (ah (av (i:=3) (own:=false) nG.nd (de_ite (e9 (yy hr.units) (ay bz (aj 1) ae) (ay bz (aj 2) ae)) (As (Cs:=[CR,CP]) Z.xt (aj 0)) (As (Cs:=[CP]) Z.yk (aj 0))))
  (aw (aR (ay bz (ay bz (aj 3) (ay bz (aj 1) ae)) (ay bz (aj 2) ae)))))
theorem ud:aF ["rules","spots","times","place"] ["rules","spots","times","place"] (aq ka):=⟨rfl,rfl,rfl,by decide +kernel,rfl,by decide +kernel,by decide +kernel⟩
theorem ur {n:Nat} {P:Program} {w:World} {K:PySem.W.Frag} {mg:Str->Option Value} {base:Heap} {CR CP CN:Addr} (Z:Zs K mg CR CP CN) {aP:Addr} {bD:FuncData} (gL:Mth K CR "apart" "Rules.apart" bO ["self","one","other"] aP bD) (cG:cD P w K mg base CX0 1 aP bD ["self","one","other"] (spF K false (b8 CR CP CN n) 3)) {aW:Addr} {bQ:FuncData} (gM:Mth K CP "apart" "Pair.apart" cj ["self","one","other"] aW bQ) (di:cD P w K mg base CX0 1 aW bQ ["self","one","other"] (spF K false (bj CR CP CN n) 3)) {iF:Addr} {gz:FuncData} (la:Def K mg "gap_times" ka ["rules","spots","times","place"] iF gz):cD P w K mg base CX0 2 iF gz ["rules","spots","times","place"] (spF K false (iw CR CP CN n) 4):=
 nS (O':=[]) la.fn ud false (nq CR CP CN n) fun cdv A outer s H E hr=>
  (aw (aR (aD (nz ["ahead","rules","spots","times","place"] [none,some 0,some 1,some 2,some 3] (kG Z.cL (a8 (aj 3) ai)) (fun _ _ _ _ _=>p8 (by decide +kernel)) (cS rfl) (fun _ _ _ _ _=>ml) (fun _ _ _ _ _=>(aD (aB gQ (ay bz (aj 3) (aj 0)) (xw Z.kR.cl gL.mt cG hr gL.bd Z.kP.cl gM.mt di hr gM.bd (aj 1) (a8 (ay bz (aj 2) (aj 0)) (a8 (ay bz (aj 2) (aj 4)) ai))))))))))
theorem dO:aF ["rules","flights","closed","plan","spots","times","place","entry","flight","time"] ["rules","flights","closed","plan"] (aq jz):=⟨rfl,rfl,rfl,by decide +kernel,rfl,by decide +kernel,by decide +kernel⟩
theorem vT {n:Nat} {P:Program} {w:World} {K:PySem.W.Frag} {mg:Str->Option Value} {base:Heap} {CR CP CN:Addr} (Z:Zs K mg CR CP CN) {fG:Addr} {dQ:FuncData} (dh:Yd P w K mg base CX0 1 "spots_of" jA ["flights","plan"] (spF K false (fw CR CP CN n) 2) fG dQ) {iB:Addr} {gu:FuncData} (kU:Yd P w K mg base CX0 2 "next_open" k7 ["closed","time"] (spF K false (fy CR CP CN n) 2) iB gu) {iF:Addr} {gz:FuncData} (kZ:Yd P w K mg base CX0 2 "gap_times" ka ["rules","spots","times","place"] (spF K false (iw CR CP CN n) 4) iF gz) {qO:Addr} {fd_nCN:FuncData} (N_CN:Mth K CN "__init__" "NoTime.__init__" vK ["self","flight","time"] qO fd_nCN) (XCN:XMk K mg "NoTime" CN qO) (B8:cD P w K mg base CX0 1 qO fd_nCN ["self","flight","time"] (spX2 CN "flight" "time")) {fF:Addr} {dP:FuncData} (jV:Def K mg "times_of" jz ["rules","flights","closed","plan"] fF dP):cD P w K mg base (CXd P w) 3 fF dP ["rules","flights","closed","plan"] (spX K true (d9 CR CP CN n) 4):=
 fn_X (O':=[]) jV.fn dO true (mD CR CP CN n) fun cdv A outer s H E hr=>
  (ah (pD (av (i:=4) (own:=false) dO.nd (aC dh.o (hr.mono (by decide)) dh.d.mg dh.d.fn.kp dh.d.bd (a8 (aj 1) (a8 (aj 3) ai)))))
  (ah (pD (av (i:=5) (own:=true) dO.nd (cH ai)))
  (ah (gY (pt:=.tp [6,7]) (di_enum Z.ib (aj 3)) (qS rfl (bc (i:=6) dO.nd (bc (i:=7) dO.nd jv)))
   (ah (pD (av (i:=8) (own:=false) dO.nd (ay bz (aj 1) (ay bz (aj 7) ae))))
  (ah (pD (q9 (i:=9) (own:=false) dO.nd (aC kU.o hr kU.d.mg kU.d.fn.kp kU.d.bd (a8 (aj 2) (a8 (aH (c_max rfl) Z.vt boot_max (a8 (aD (aB gQ (aD (cH (a8 (ay bz (aj 8) ae) ai))) (aC kZ.o hr kZ.d.mg kZ.d.fn.kp kZ.d.bd (a8 (aj 0) (a8 (aj 4) (a8 (aj 5) (a8 (aj 6) ai))))))) ai)) ai)))))
  (ah (i0 (e9 o_gt (aj 9) (ay bz (aj 8) ae))
   (bC (O2:=[]) (aw (Al PySem.F.excBase_ValueError xeqD2 XCN.ex XCN.fn XCN.kp B8 (hr.mono (by decide)) N_CN.bd XCN.mg (a8 (ay bz (aj 7) ae) (a8 (aj 9) ai)))))
   cZ)
  (tj (aw (kF (i:=5) (aj 9))))))) (hp:=PassesOwn.leaving))
  (tj (aw (Ak (i:=5)))))))
theorem fY:aF ["closed","time","found","start","stop"] ["closed","time"] (aq k9):=⟨rfl,rfl,rfl,by decide +kernel,rfl,by decide +kernel,by decide +kernel⟩
theorem uq {n:Nat} {P:Program} {w:World} {K:PySem.W.Frag} {mg:Str->Option Value} {base:Heap} {CR CP CN:Addr} (Z:Zs K mg CR CP CN) {ba:Addr} {aT:FuncData} (aK:Yd P w K mg base CX0 1 "joined_stretches" bN ["closed"] (spF K false (aZ CR CP CN n) 1) ba aT) {iE:Addr} {gw:FuncData} (l9:Def K mg "last_open" k9 ["closed","time"] iE gw):cD P w K mg base CX0 2 iE gw ["closed","time"] (spF K false (iu CR CP CN n) 2):=
 nS (O':=[]) l9.fn fY false (nk CR CP CN n) fun cdv A outer s H E hr=>
  (ah (av (i:=2) (own:=false) fY.nd (aj 1))
  (ah (gY (pt:=.tp [3,4]) (mM (aC aK.o hr aK.d.mg aK.d.fn.kp aK.d.bd (a8 (aj 0) ai))) (qS rfl (bc (i:=3) fY.nd (bc (i:=4) fY.nd jv)))
   (aw (i0 (nX o_le o_lt (aj 3) (aj 1) (aj 4))
   (aw (av (i:=2) (own:=false) fY.nd (aB vV (aj 3) ae)))
   cZ)))
  (aw (aR (de_ite (e9 o_ge (aj 2) ae) (aj 2) xv)))))
theorem dW:aF ["rules","flights","closed","plan","times","spots","many","place","behind"] ["rules","flights","closed","plan"] (aq k8):=⟨rfl,rfl,rfl,by decide +kernel,rfl,by decide +kernel,by decide +kernel⟩
theorem uo {n:Nat} {P:Program} {w:World} {K:PySem.W.Frag} {mg:Str->Option Value} {base:Heap} {CR CP CN:Addr} (Z:Zs K mg CR CP CN) {fF:Addr} {dP:FuncData} (dg:Yd P w K mg base (CXd P w) 3 "times_of" jz ["rules","flights","closed","plan"] (spX K true (d9 CR CP CN n) 4) fF dP) {fG:Addr} {dQ:FuncData} (dh:Yd P w K mg base CX0 1 "spots_of" jA ["flights","plan"] (spF K false (fw CR CP CN n) 2) fG dQ) {iE:Addr} {gw:FuncData} (kY:Yd P w K mg base CX0 2 "last_open" k9 ["closed","time"] (spF K false (iu CR CP CN n) 2) iE gw) {aP:Addr} {bD:FuncData} (gL:Mth K CR "apart" "Rules.apart" bO ["self","one","other"] aP bD) (cG:cD P w K mg base CX0 1 aP bD ["self","one","other"] (spF K false (b8 CR CP CN n) 3)) {aW:Addr} {bQ:FuncData} (gM:Mth K CP "apart" "Pair.apart" cj ["self","one","other"] aW bQ) (di:cD P w K mg base CX0 1 aW bQ ["self","one","other"] (spF K false (bj CR CP CN n) 3)) {iC:Addr} {gv:FuncData} (l8:Def K mg "latest_of" k8 ["rules","flights","closed","plan"] iC gv):cD P w K mg base (CXd P w) 4 iC gv ["rules","flights","closed","plan"] (spX K false (ir CR CP CN n) 4):=
 fn_X (O':=[]) l8.fn dW false (nj CR CP CN n) fun cdv A outer s H E hr=>
  (ah (av (i:=4) (own:=true) dW.nd (tw dg.o passD hr dg.d.mg dg.d.fn.kp dg.d.bd (a8 (aj 0) (a8 (aj 1) (a8 (aj 2) (a8 (aj 3) ai))))))
  (tj (ah (av (i:=5) (own:=false) dW.nd (aC dh.o (hr.mono (by decide)) dh.d.mg dh.d.fn.kp dh.d.bd (a8 (aj 1) (a8 (aj 3) ai))))
  (ah (av (i:=6) (own:=false) dW.nd (aH kI Z.gZ PySem.boot_len (a8 (aj 3) ai)))
  (ah (gY (pt:=.nm 7) (Ao Z.cL (a8 (aB vV (aj 6) ae) (a8 (uV uB ae) (a8 (uV uB ae) ai)))) (qT dW.nd)
   (ah (ds_compA (i:=8) true ["later","rules","times","spots","place"] [none,some 0,some 4,some 5,some 7] dW.nd (Ap Z.cL (a8 (aD (aB gQ (aj 7) ae)) (a8 (aj 6) ai))) (fun _ _ _ _ _=>p8 (by decide +kernel)) (cS rfl) (fun _ _ _ _ _=>ml) (fun _ _ _ _ _=>(aB vV (ay bz (aj 2) (aj 0)) (xw Z.kR.cl gL.mt cG (hr.mono (by decide)) gL.bd Z.kP.cl gM.mt di (hr.mono (by decide)) gM.bd (aj 1) (a8 (ay bz (aj 3) (aj 4)) (a8 (ay bz (aj 3) (aj 0)) ai))))))
  (bC (O2:=[4]) (aw (we (i:=4) (aC kY.o (hr.mono (by decide)) kY.d.mg kY.d.fn.kp kY.d.bd (a8 (aj 2) (a8 (aH (AG rfl) Z.sd boot_min (a8 (aD (aB gQ (aD (cH (a8 (ay bz (ay bz (aj 1) (ay bz (ay bz (aj 3) (aj 7)) ae)) ae) ai))) (aj 8))) ai)) ai))) (aj 7))))))
  (bC (O2:=[]) (aw (aR (aj 4)))))))))
theorem rm:aF ["rules","flights","closed","plan","earliest"] ["rules","flights","closed","plan"] (aq nH):=⟨rfl,rfl,rfl,by decide +kernel,rfl,by decide +kernel,by decide +kernel⟩
theorem xZ {n:Nat} {P:Program} {w:World} {K:PySem.W.Frag} {mg:Str->Option Value} {base:Heap} {CR CP CN:Addr} (Z:Zs K mg CR CP CN) {fF:Addr} {dP:FuncData} (dg:Yd P w K mg base (CXd P w) 3 "times_of" jz ["rules","flights","closed","plan"] (spX K true (d9 CR CP CN n) 4) fF dP) {iC:Addr} {gv:FuncData} (kW:Yd P w K mg base (CXd P w) 4 "latest_of" k8 ["rules","flights","closed","plan"] (spX K false (ir CR CP CN n) 4) iC gv) {mh:Addr} {jN:FuncData} (om:Def K mg "free_of" nH ["rules","flights","closed","plan"] mh jN):cD P w K mg base (CXd P w) 5 mh jN ["rules","flights","closed","plan"] (spX K true (eG CR CP CN n) 4):=
 fn_X (O':=[]) om.fn rm true (nR CR CP CN n) fun cdv A outer s H E hr=>
  (ah (av (i:=4) (own:=false) rm.nd (aD (tw dg.o passD (hr.mono (by decide)) dg.d.mg dg.d.fn.kp dg.d.bd (a8 (aj 0) (a8 (aj 1) (a8 (aj 2) (a8 (aj 3) ai)))))))
  (aw (aR (de_lzip Z.ll Z.xM (aj 4) (tw kW.o passD hr kW.d.mg kW.d.fn.kp kW.d.bd (a8 (aj 0) (a8 (aj 1) (a8 (aj 2) (a8 (aj 3) ai)))))))))
theorem fZ:aF ["_law_made_here","_law_flights_here","_law_closed_here","_law_plan_here","_law_told_here","_law_found","e"] ["_law_made_here","_law_flights_here","_law_closed_here","_law_plan_here"] (aq kb):=⟨rfl,rfl,rfl,by decide +kernel,rfl,by decide +kernel,by decide +kernel⟩
theorem uv {n:Nat} {P:Program} {w:World} {K:PySem.W.Frag} {mg:Str->Option Value} {base:Heap} {CR CP CN:Addr} (Z:Zs K mg CR CP CN) {mh:Addr} {jN:FuncData} (og:Yd P w K mg base (CXd P w) 5 "free_of" nH ["rules","flights","closed","plan"] (spX K true (eG CR CP CN n) 4) mh jN) {iG:Addr} {gA:FuncData} (lb:Def K mg "_law_told" kb ["_law_made_here","_law_flights_here","_law_closed_here","_law_plan_here"] iG gA):cD P w K mg base CX0 6 iG gA ["_law_made_here","_law_flights_here","_law_closed_here","_law_plan_here"] (spF K true (bG CR CP CN n) 4):=
 nS (O':=[]) lb.fn fZ true (kA CR CP CN n) fun cdv A outer s H E hr=>
  (ah (av (i:=4) (own:=false) fZ.nd (aD (cH ai)))
  (ah (av (i:=5) (own:=true) fZ.nd (cH ai))
  (ah (ds_told2 (i:=6) (j:=4) (fun pins σ E xe hp=>(dsa_set (own:=true) fZ.nd (dea_call og.o hp hr og.d.mg og.d.fn.kp og.d.bd (a8 (aj 0) (a8 (aj 1) (a8 (aj 2) (a8 (aj 3) ai))))))) Z.xCN Z.aCN_flight Z.aCN_time fZ.nd)
  (ah (i0 (e9 (o_ne hr.units) (aj 4) (aD (cH ai)))
   (bC (O2:=[]) (aw (ds_retN (j6 (a8 (ay bz (aj 4) ae) (a8 (ay bz (aj 4) ae) ai))))))
   cZ)
  (aw (Ak (i:=5)))))))
theorem sr:aF ["_law_found"] ["_law_found"] (aq iS):=⟨rfl,rfl,rfl,by decide +kernel,rfl,by decide +kernel,by decide +kernel⟩
theorem sH {n:Nat} {P:Program} {w:World} {K:PySem.W.Frag} {mg:Str->Option Value} {base:Heap} {CR CP CN:Addr} (Z:Zs K mg CR CP CN) {gF:Addr} {eQ:FuncData} (jd:Def K mg "_law_whole" iS ["_law_found"] gF eQ):cD P w K mg base CX0 1 gF eQ ["_law_found"] (spF K false (dY CR CP CN n) 1):=
 nS (O':=[]) jd.fn sr false (m7 CR CP CN n) fun cdv A outer s H E hr=>
  (aw (aR (xx (rN Z.kit Z.aV Z.tV (aj 0)) (Aq (de_not (qe Z.kit Z.aV Z.r9 (aj 0)))))))
theorem nF:aF ["_law_found","_law_due","_law_pair"] ["_law_found","_law_due"] (aq iW):=⟨rfl,rfl,rfl,by decide +kernel,rfl,by decide +kernel,by decide +kernel⟩
theorem sO {n:Nat} {P:Program} {w:World} {K:PySem.W.Frag} {mg:Str->Option Value} {base:Heap} {CR CP CN:Addr} (Z:Zs K mg CR CP CN) {gF:Addr} {eQ:FuncData} (cm:Yd P w K mg base CX0 1 "_law_whole" iS ["_law_found"] (spF K false (dY CR CP CN n) 1) gF eQ) {gJ:Addr} {eU:FuncData} (ji:Def K mg "_law_alike" iW ["_law_found","_law_due"] gJ eU):cD P w K mg base CX0 2 gJ eU ["_law_found","_law_due"] (spF K false (gn CR CP CN n) 2):=
 nS (O':=[]) ji.fn nF false (m9 CR CP CN n) fun cdv A outer s H E hr=>
  (ah (i0 (PW.pt (wd (nW (jP (nv Z.kit Z.aV Z.ll (aj 0)))) (uT (e9 (o_ne hr.units) (aj 0) (aj 1)))))
   (aw (aR oQ))
   cZ)
  (ah (gY (pt:=.nm 2) (mM (aj 0)) (qT nF.nd)
   (aw (i0 (PW.pt (wd (nW (jP (p9 Z.kit Z.aV Z.ot (aj 2)))) (wd (nW (jP (aC cm.o hr cm.d.mg cm.d.fn.kp cm.d.bd (a8 (ay bz (aj 2) ae) ai)))) (uT (nW (jP (aC cm.o hr cm.d.mg cm.d.fn.kp cm.d.bd (a8 (ay bz (aj 2) ae) ai))))))))
   (aw (aR oQ))
   cZ)))
  (aw (aR oQ))))
theorem bF:aF ["_law_closed_here","_law_time","_law_moved","_law_start","_law_stop"] ["_law_closed_here","_law_time"] (aq fM):=⟨rfl,rfl,rfl,by decide +kernel,rfl,by decide +kernel,by decide +kernel⟩
theorem pM {n:Nat} {P:Program} {w:World} {K:PySem.W.Frag} {mg:Str->Option Value} {base:Heap} {CR CP CN:Addr} (Z:Zs K mg CR CP CN) {dC:Addr} {cT:FuncData} (fW:Def K mg "_law_open_to" fM ["_law_closed_here","_law_time"] dC cT):cD P w K mg base CX0 1 dC cT ["_law_closed_here","_law_time"] (spF K false (dw CR CP CN n) 2):=
 nS (O':=[]) fW.fn bF false (jt CR CP CN n) fun cdv A outer s H E hr=>
  (ah (av (i:=2) (own:=false) bF.nd oQ)
  (ah (tm (m:=n) (jP (aj 2))
   (ah (av (i:=2) (own:=false) bF.nd oQ)
  (aw (gY (pt:=.tp [3,4]) (mM (aj 0)) (qS rfl (bc (i:=3) bF.nd (bc (i:=4) bF.nd jv)))
   (aw (i0 (nX o_le o_lt (aj 3) (aj 1) (aj 4))
   (ah (av (i:=1) (own:=false) bF.nd (aB vV (aj 3) ae))
  (aw (av (i:=2) (own:=false) bF.nd oQ)))
   cZ))))))
  (aw (aR (aj 1)))))
theorem bL:aF ["_law_rules","_law_flights_here","_law_closed_here","_law_plan_here","_law_times","_law_place","_law_time","_law_behind"] ["_law_rules","_law_flights_here","_law_closed_here","_law_plan_here"] (aq eD):=⟨rfl,rfl,rfl,by decide +kernel,rfl,by decide +kernel,by decide +kernel⟩
theorem pf {n:Nat} {P:Program} {w:World} {K:PySem.W.Frag} {mg:Str->Option Value} {base:Heap} {CR CP CN:Addr} (Z:Zs K mg CR CP CN) {dC:Addr} {cT:FuncData} (fU:Yd P w K mg base CX0 1 "_law_open_to" fM ["_law_closed_here","_law_time"] (spF K false (dw CR CP CN n) 2) dC cT) {cY:Addr} {cu:FuncData} (bR:Yd P w K mg base CX0 1 "_law_apart" g8 ["_law_rules","_law_flights_here","_law_one","_law_other"] (spF K false (ck CR CP CN n) 4) cY cu) {cW:Addr} {cA:FuncData} (fj:Def K mg "_law_greatest" eD ["_law_rules","_law_flights_here","_law_closed_here","_law_plan_here"] cW cA):cD P w K mg base CX0 2 cW cA ["_law_rules","_law_flights_here","_law_closed_here","_law_plan_here"] (spF K false (cR CR CP CN n) 4):=
 nS (O':=[]) fj.fn bL false (iA CR CP CN n) fun cdv A outer s H E hr=>
  (ah (av (i:=4) (own:=true) bL.nd (de_rep (cH (a8 ae ai)) (aH kI Z.gZ PySem.boot_len (a8 (aj 3) ai))))
  (ah (gY (pt:=.nm 5) (Ao Z.cL (a8 (aB vV (aH kI Z.gZ PySem.boot_len (a8 (aj 3) ai)) ae) (a8 (uV uB ae) (a8 (uV uB ae) ai)))) (qT bL.nd)
   (ah (av (i:=6) (own:=false) bL.nd (ay bz (ay bz (aj 1) (ay bz (ay bz (aj 3) (aj 5)) ae)) ae))
  (ah (gY (pt:=.nm 7) (Ap Z.cL (a8 (aD (aB gQ (aj 5) ae)) (a8 (aH kI Z.gZ PySem.boot_len (a8 (aj 3) ai)) ai))) (qT bL.nd)
   (aw (q9 (i:=6) (own:=false) bL.nd (aH (AG rfl) Z.sd boot_min (a8 (aj 6) (a8 (aB vV (ay bz (aj 4) (aj 7)) (aC bR.o hr bR.d.mg bR.d.fn.kp bR.d.bd (a8 (aj 0) (a8 (aj 1) (a8 (ay bz (aj 3) (aj 5)) (a8 (ay bz (aj 3) (aj 7)) ai)))))) ai))))))
  (aw (we (i:=4) (aC fU.o hr fU.d.mg fU.d.fn.kp fU.d.bd (a8 (aj 2) (a8 (aj 6) ai))) (aj 5))))))
  (bC (O2:=[]) (aw (aR (aj 4))))))
theorem dU:aF ["_law_script","_law_rules","_law_flights_here","_law_closed_here","_law_plan_here","_law_made_here","_law_times","_law_handed","_law_found","_law_due","_law_at","_law_k","_law_kind","_law_first","_law_last","_law_late","_law_price","_law_some","_law_pairs","_law_worse"] ["_law_script"] (aq xV):=⟨rfl,rfl,rfl,by decide +kernel,rfl,by decide +kernel,by decide +kernel⟩
theorem ok_law {n:Nat} {P:Program} {w:World} {K:PySem.W.Frag} {mg:Str->Option Value} {base:Heap} {CR CP CN:Addr} (Z:Zs K mg CR CP CN) {gG:Addr} {eR:FuncData} (j8:Yd P w K mg base CX0 4 "_law_state" iT ["_law_script","_law_most"] (spF K false (gm CR CP CN n) 2) gG eR) {iI:Addr} {gC:FuncData} (l4:Yd P w K mg base CX0 7 "_law_made" ke ["_law_rules"] (spF K false (cP CR CP CN n) 1) iI gC) {gI:Addr} {eT:FuncData} (ja:Yd P w K mg base CX0 2 "_law_least" iV ["_law_rules","_law_flights_here","_law_closed_here","_law_plan_here"] (spF K false (cQ CR CP CN n) 4) gI eT) {iG:Addr} {gA:FuncData} (aQ:Yd P w K mg base CX0 6 "_law_told" kb ["_law_made_here","_law_flights_here","_law_closed_here","_law_plan_here"] (spF K true (bG CR CP CN n) 4) iG gA) {gJ:Addr} {eU:FuncData} (jb:Yd P w K mg base CX0 2 "_law_alike" iW ["_law_found","_law_due"] (spF K false (gn CR CP CN n) 2) gJ eU) {aO:Addr} {aG:FuncData} (af:Yd P w K mg base CX0 1 "_law_draw" bU ["_law_script","_law_k"] (spF K false (az CR CP CN n) 2) aO aG) {cW:Addr} {cA:FuncData} (f6:Yd P w K mg base CX0 2 "_law_greatest" eD ["_law_rules","_law_flights_here","_law_closed_here","_law_plan_here"] (spF K false (cR CR CP CN n) 4) cW cA) {yn:Addr} {fd_law:FuncData} (D_law:Def K mg "law" xV ["_law_script"] yn fd_law):cD P w K mg base CX0 8 yn fd_law ["_law_script"] (spF K false (yc CR CP CN n) 1):=
 nS (O':=[]) D_law.fn dU false (Aa CR CP CN n) fun cdv A outer s H E hr=>
  (ah (Aj (aC j8.o (hr.mono (by decide)) j8.d.mg j8.d.fn.kp j8.d.bd (a8 (aj 0) (a8 ae ai))) (qS rfl (bc (i:=1) dU.nd (bc (i:=2) dU.nd (bc (i:=3) dU.nd (bc (i:=4) dU.nd jv))))))
  (ah (av (i:=5) (own:=false) dU.nd (aC l4.o hr l4.d.mg l4.d.fn.kp l4.d.bd (a8 (aj 1) ai)))
  (ah (av (i:=6) (own:=false) dU.nd (aC ja.o (hr.mono (by decide)) ja.d.mg ja.d.fn.kp ja.d.bd (a8 (aj 1) (a8 (aj 2) (a8 (aj 3) (a8 (aj 4) ai))))))
  (ah (av (i:=7) (own:=false) dU.nd (aD (cH (a8 (aD (jQ xD Z.ll PyProof.Rows.boot_list (a8 (aj 2) ai))) (a8 (aD (jQ xD Z.ll PyProof.Rows.boot_list (a8 (aj 3) ai))) (a8 (aD (jQ xD Z.ll PyProof.Rows.boot_list (a8 (aj 4) ai))) ai))))))
  (ah (av (i:=8) (own:=true) dU.nd (aC aQ.o (hr.mono (by decide)) aQ.d.mg aQ.d.fn.kp aQ.d.bd (a8 (aj 5) (a8 (ay bz (aj 7) ae) (a8 (ay bz (aj 7) ae) (a8 (ay bz (aj 7) ae) ai))))))
  (ah (i0 (e9 (o_ne hr.units) (aj 7) (aD (cH (a8 (aj 2) (a8 (aj 3) (a8 (aj 4) ai))))))
   (bC (O2:=[]) (aw (aR oQ)))
   cZ)
  (ah (i0 (jP (p9 Z.kit Z.aV Z.ot (aj 6)))
   (bC (O2:=[]) (aw (aR (qf (yy hr.units) (aj 8) (aj 6)))))
   cZ)
  (ah (av (i:=9) (own:=false) dU.nd (aD (nz ["_law_pair"] [none] (di_zipN Z.xM (aj 6) (aC f6.o (hr.mono (by decide)) f6.d.mg f6.d.fn.kp f6.d.bd (a8 (aj 1) (a8 (aj 2) (a8 (aj 3) (a8 (aj 4) ai)))))) (fun _ _ _ _ _=>p8 (by decide +kernel)) (cS rfl) (fun _ _ _ _ _=>ml) (fun _ _ _ _ _=>(aj 0)))))
  (ah (i0 (nW (jP (aC jb.o (hr.mono (by decide)) jb.d.mg jb.d.fn.kp jb.d.bd (a8 (aj 8) (a8 (aj 9) ai)))))
   (bC (O2:=[]) (aw (aR oQ)))
   cZ)
  (ah (kF (i:=8) (j6 (a8 ae (a8 ae ai))))
  (bC (O2:=[]) (ah (i0 (e9 (yy hr.units) (aH kI Z.gZ PySem.boot_len (a8 (aj 4) ai)) ae)
   (aw (aR (qf (yy hr.units) (aD (aC aQ.o (hr.mono (by decide)) aQ.d.mg aQ.d.fn.kp aQ.d.bd (a8 (aj 5) (a8 (aD (cH ai)) (a8 (aj 3) (a8 (aD (cH ai)) ai)))))) (aD (cH ai)))))
   cZ)
  (ah (av (i:=10) (own:=false) dU.nd (aB gO (aC af.o (hr.mono (by decide)) af.d.mg af.d.fn.kp af.d.bd (a8 (aj 0) (a8 ae ai))) (aH kI Z.gZ PySem.boot_len (a8 (aj 4) ai))))
  (ah (av (i:=11) (own:=false) dU.nd (ay bz (ay bz (aj 4) (aj 10)) ae))
  (ah (Aj (ay bz (aj 2) (aj 11)) (qS rfl (bc (i:=12) dU.nd (bc (i:=13) dU.nd (bc (i:=14) dU.nd (bc (i:=15) dU.nd (bc (i:=16) dU.nd jv)))))))
  (ah (av (i:=17) (own:=false) dU.nd (aD (aB gQ (aD (aB gQ (aD (de_sl x_sl (aj 2) An (Am (aj 11)))) (aD (cH (a8 (j6 (a8 (aj 12) (a8 (aj 13) (a8 (ay bz (aj 6) (aj 10)) (a8 (aj 15) (a8 (aj 16) ai)))))) ai))))) (aD (de_sl x_sl (aj 2) (Am (aD (aB gQ (aj 11) ae))) An)))))
  (ah (av (i:=18) (own:=false) dU.nd (aD (aC aQ.o (hr.mono (by decide)) aQ.d.mg aQ.d.fn.kp aQ.d.bd (a8 (aj 5) (a8 (aj 17) (a8 (aj 3) (a8 (aj 4) ai)))))))
  (ah (i0 (PW.pt (wd (nW (jP (nv Z.kit Z.aV Z.ll (aj 18)))) (wd (e9 (o_ne hr.units) (aH kI Z.gZ PySem.boot_len (a8 (aj 18) ai)) (aH kI Z.gZ PySem.boot_len (a8 (aj 9) ai))) (uT (e9 (o_ne hr.units) (ay bz (aj 18) (aj 10)) (j6 (a8 (ay bz (aj 6) (aj 10)) (a8 (ay bz (aj 6) (aj 10)) ai))))))))
   (aw (aR oQ))
   cZ)
  (ah (ds_compB (i:=19) false ["_law_place","_law_due","_law_pairs"] [none,some 9,some 18] dU.nd (kG Z.cL (a8 (aH kI Z.gZ PySem.boot_len (a8 (aj 9) ai)) ai)) (fun _ _ _ _ _=>p8 (by decide +kernel)) (cS rfl) (fun _ _ _ _ _=>pts_one (PW.pt (wd (e9 (o_ne hr.units) (ay bz (ay bz (aj 2) (aj 0)) ae) (ay bz (ay bz (aj 1) (aj 0)) ae)) (uT (e9 o_gt (ay bz (ay bz (aj 2) (aj 0)) ae) (ay bz (ay bz (aj 1) (aj 0)) ae)))))) (fun _ _ _ _ _=>(aj 0)))
  (aw (aR (xx (qf (yy hr.units) (aj 19) (aD (cH ai))) (Aq (qf (yy hr.units) (aD (aC aQ.o (hr.mono (by decide)) aQ.d.mg aQ.d.fn.kp aQ.d.bd (a8 (aj 5) (a8 (ay bz (aj 7) ae) (a8 (ay bz (aj 7) ae) (a8 (ay bz (aj 7) ae) ai)))))) (aj 9)))))))))))))))))))))))))
noncomputable abbrev cK:=Int×Int
noncomputable def stD (p:cK):Dat:=.tup [.int p.1,.int p.2]
theorem u0:∀cs:List cK,mG (cs.map stD)=.ok (cs.map fun p=>[p.1,p.2])
 |[]=>rfl
 |p::cs=>by simp [mG,tupD,stD,dj,u0 cs]
theorem u9 (cs:List cK) (hl:cs.length<64):∃ss:List cK,mV [.lst (cs.map stD)]=.ok (.lst (ss.map stD))/\ss.Perm cs/\ss.Pairwise (fun p q=>p.1<=q.1):=by
 cases hc:cs with
 |nil=>exact ⟨[],by simp [mV,ua,dj,nM],List.Perm.refl _,List.Pairwise.nil⟩
 |cons p ps=>
  rw [<- hc]
  have hi:∃e,dj (cs.map stD)=.error e:=⟨.stuck,by rw [hc];simp [dj,stD,asI]⟩
  obtain ⟨e,he⟩:=hi
  have hne:((cs.map fun p=>[p.1,p.2]).all fun t=> !t.isEmpty)=true:=by simp
  have es:mV [.lst (cs.map stD)]=.ok (.lst ((nM pQ (cs.map fun p=>[p.1,p.2])).map tupZ)):=by
   simp only [mV,ua,List.length_map,hl,if_true,he,u0,au,hne]
  have hp:=oH (lt:=pQ) (cs.map fun p=>[p.1,p.2])
  have hs:=lS zE (cs.map fun p=>[p.1,p.2])
  generalize nM pQ (cs.map fun p=>[p.1,p.2])=L at *
  let back:List Int->cK:=fun l=>(l.getD 0 0,l.getD 1 0)
  have hL:∀l∈L,∃p:cK,l=[p.1,p.2]:=fun l h=>by
   have:=hp.mem_iff.mp h
   simp only [List.mem_map] at this
   obtain ⟨p,_,e⟩:=this
   exact ⟨p,e.symm⟩
  refine ⟨L.map back,?_,?_,?_⟩
  ·rw [es,List.map_map]
   congr 2
   refine List.map_congr_left fun l h=>?_
   obtain ⟨p,rfl⟩:=hL l h
   rfl
  ·have:=hp.map back
   rw [List.map_map] at this
   have e2:List.map (back∘fun p=>[p.1,p.2]) cs=cs:=by
    rw [List.map_congr_left (g:=id)]
    ·simp
    ·intro p _;rfl
   rwa [e2] at this
  ·rw [List.pairwise_map]
   refine hs.imp_of_mem fun {a b} ha hb h=>?_
   obtain ⟨p,rfl⟩:=hL a ha
   obtain ⟨q,rfl⟩:=hL b hb
   show p.1<=q.1
   simp only [pQ] at h
   by_cases e1:q.1=p.1
   ·omega
   ·rw [if_neg e1] at h
    have:=of_decide_eq_false h
    omega
@[simp] theorem getI_c0 (a:Dat) (l:List Dat):ni (a::l) 0=.ok a:=by
 unfold ni atI ixN
 rw [if_pos (by omega),if_pos (by simp<;>omega)]
 rfl
@[simp] theorem getI_c1 (a b:Dat) (l:List Dat):ni (a::b::l) 1=.ok b:=by
 unfold ni atI ixN
 rw [if_pos (by omega),if_pos (by simp<;>omega)]
 rfl
@[simp] theorem getI_c2 (a b c:Dat) (l:List Dat):ni (a::b::c::l) 2=.ok c:=by
 unfold ni atI ixN
 rw [if_pos (by omega),if_pos (by simp<;>omega)]
 rfl
@[simp] theorem getI_c3 (a b c d:Dat) (l:List Dat):ni (a::b::c::d::l) 3=.ok d:=by
 unfold ni atI ixN
 rw [if_pos (by omega),if_pos (by simp<;>omega)]
 rfl
section
variable (CR CP CN:Addr)
theorem gW (n:Nat) (ns:List Int) (k:Int) (h0:0<=k) (h1:k<1000000):∃x,az CR CP CN n [.lst (ns.map .int),.int k]=.ok (.int x)/\0<=x:=by
 have hk1: -18446744073709551616<7919*k:=by omega
 have hk2:7919*k<18446744073709551616:=by omega
 have hk3: -18446744073709551616<k:=by omega
 have hk4:k<18446744073709551616:=by omega
 by_cases hl:0<ns.length
 ·have hm0:0<=k%(ns.length:Int):=Int.emod_nonneg _ (by omega)
  have hm1:k%(ns.length:Int)<(ns.length:Int):=Int.emod_lt_of_pos _ (by omega)
  have hl':(0:Int)<ns.length:=by omega
  have hne:ns≠[]:=fun e=>by rw [e] at hl;simp at hl
  refine ⟨(ns[(k%(ns.length:Int)).toNat]'(by omega)+7919*k*k+k)*982451653%2305843009213693951*1000003%1152921504606846883/8,?_,?_⟩
  ·simp [az,kC,kL,hl,hne,getI_int hm0 hm1,qR hl',hk1,hk2,hk3,hk4]
  ·exact Int.ediv_nonneg (Int.emod_nonneg _ (by decide)) (by decide)
 ·have hne:ns=[]:=by cases ns with|nil=>rfl|cons a b=>simp at hl
  subst hne
  refine ⟨(k+7919*k*k+k)*982451653%2305843009213693951*1000003%1152921504606846883/8,?_,?_⟩
  ·simp [az,kC,kL,hk1,hk2,hk3,hk4]
  ·exact Int.ediv_nonneg (Int.emod_nonneg _ (by decide)) (by decide)
theorem scale_ok (n:Nat) (ns:List Int):∃s:Int,bP CR CP CN n [.lst (ns.map .int)]=.ok (.int s)/\1<=s/\s<=100000:=by
 obtain ⟨x,e,hx⟩:=gW CR CP CN n ns 99 (by omega) (by omega)
 have h4:x%4=0\/x%4=1\/x%4=2\/x%4=3:=by omega
 rcases h4 with h|h|h|h
 ·exact ⟨1,by simp [bP,e8,e,h],by omega,by omega⟩
 ·exact ⟨1,by simp [bP,e8,e,h],by omega,by omega⟩
 ·exact ⟨100,by simp [bP,e8,e,h],by omega,by omega⟩
 ·exact ⟨100000,by simp [bP,e8,e,h],by omega,by omega⟩
noncomputable def oV (r:List Int):Dat:=.lst (r.map .int)
noncomputable def aS (rows:List (List Int)):Dat:=.lst (rows.map oV)
noncomputable def qv (k:Nat) (r:List Int):Prop:=r.length=k/\∀x∈r,0<=x/\x<=1000000
noncomputable def f9 (k:Nat) (rows:List (List Int)):Prop:=rows.length=k/\∀r∈rows,qv k r
theorem oB {lo:Int} {m i:Nat} {d:Dat} (h:(bg lo m)[i]? =some d):i<m/\d=.int (lo+i):=by
 unfold bg at h
 rw [List.getElem?_map] at h
 obtain ⟨a,h1,h2⟩:=Option.map_eq_some_iff.mp h
 have hi:=(List.getElem?_eq_some_iff.mp h1).1
 rw [List.length_range] at hi
 rw [List.getElem?_range hi] at h1
 cases h1
 exact ⟨hi,h2.symm⟩
theorem fq {m i:Nat} {d:Dat} (h:(bg 0 m)[i]? =some d):i<m/\d=.int i:=by
 obtain ⟨h1,h2⟩:=oB h
 exact ⟨h1,by rw [h2,Int.zero_add]⟩
theorem cE (lo:Int) (m:Nat):(bg lo m).length=m:=by unfold bg;simp
theorem gap_row (n:Nat) (ns:List Int) (b:Int) (k:Nat) (s:Int) (one:Nat) (rows:List Dat) (z7 z8:Option Dat) (hb0:0<=b) (hb1:b<=100) (hk:k<=6) (hs0:1<=s) (hs1:s<=100000) (ho:one<k) :
  ∃(r:List Int) (z7' z8':Option Dat),qv k r/\iO (.nm 7) (i5 CR CP CN n) (bg 0 k) [some (.lst (ns.map .int)),some (.int b),some (.int k),some (.int s),some (.lst rows),some (.int one),some (.lst []),z7,z8]=.ok (.nx [some (.lst (ns.map .int)),some (.int b),some (.int k),some (.int s),some (.lst rows),some (.int one),some (oV r),z7',z8']):=by
 obtain ⟨ρ',e,r,z7',z8',rfl,h1,h2⟩:=eO (p:=.nm 7) (g:=i5 CR CP CN n)
  (fun i ρ=>∃(r:List Int) (z7 z8:Option Dat),ρ=[some (.lst (ns.map .int)),some (.int b),some (.int k),some (.int s),some (.lst rows),some (.int one),some (oV r),z7,z8]/\r.length=i/\∀x∈r,0<=x/\x<=1000000) (bg 0 k) 0 _ ⟨[],z7,z8,rfl,rfl,by simp⟩ (by
  rintro i d ρ hd ⟨r,z7,z8,rfl,hr1,hr2⟩
  obtain ⟨hi,rfl⟩:=fq hd
  have hm:(one:Int)*k<=36:=by
   have:one*k<=6*6:=Nat.mul_le_mul (by omega) hk
   exact_mod_cast this
  have hm0:0<=(one:Int)*k:=Int.mul_nonneg (by omega) (by omega)
  obtain ⟨x,e,hx⟩:=gW CR CP CN n ns (b+(one:Int)*k+(i:Int)) (by omega) (by omega)
  have hs':0<s:=by omega
  have ho1: -18446744073709551616<(one:Int):=by omega
  have ho2:(one:Int)<18446744073709551616:=by omega
  have q1: -18446744073709551616<x%6:=by omega
  have q2:x%6<18446744073709551616:=by omega
  have hl:r.length<16777216:=by omega
  refine ⟨_,by simp;rfl,?_⟩
  refine ⟨_,.inl (by simp [i5,e,qR hs',ho1,ho2,q1,q2,hl,oV];rfl),r++[x%6*s+x/6%s],some (.int (i:Int)),some (.int x),by simp [oV],by simp;omega,fun y hy=>?_⟩
  rcases List.mem_append.mp hy with z|z
  ·exact hr2 y z
  ·simp at z
   subst z
   have a1:0<=x/6%s:=Int.emod_nonneg _ (by omega)
   have a2:x/6%s<s:=Int.emod_lt_of_pos _ hs'
   have a3:0<=x%6*s:=Int.mul_nonneg (by omega) (by omega)
   have a4:x%6*s<=5*100000:=Int.le_trans (Int.mul_le_mul_of_nonneg_right (by omega) (by omega)) (Int.mul_le_mul_of_nonneg_left hs1 (by omega))
   omega)
 rw [Nat.zero_add,cE] at h1
 exact ⟨r,z7',z8',⟨h1,h2⟩,e⟩
theorem A8 (n:Nat) (ns:List Int) (b:Int) (k:Nat) (s:Int) (hb0:0<=b) (hb1:b<=100) (hk:k<=6) (hs0:1<=s) (hs1:s<=100000):∃rows,f9 k rows/\fE CR CP CN n [.lst (ns.map .int),.int b,.int k,.int s]=.ok (aS rows):=by
 have k1: -4611686018427387904<=(k:Int):=by omega
 have k2:(k:Int)<4611686018427387904:=by omega
 obtain ⟨ρ',e,rows,y5,y6,y7,y8,rfl,h1,h2⟩:=eO (p:=.nm 5) (g:=kS CR CP CN n)
  (fun i ρ=>∃(rows:List (List Int)) (z5 z6 z7 z8:Option Dat),ρ=[some (.lst (ns.map .int)),some (.int b),some (.int k),some (.int s),some (aS rows),z5,z6,z7,z8]/\rows.length=i/\∀r∈rows,qv k r) (bg 0 k) 0 [some (.lst (ns.map .int)),some (.int b),some (.int k),some (.int s),some (.lst []),none,none,none,none] ⟨[],none,none,none,none,rfl,rfl,by simp⟩ (by
  rintro i d ρ hd ⟨rows,z5,z6,z7,z8,rfl,hr1,hr2⟩
  obtain ⟨hi,rfl⟩:=fq hd
  obtain ⟨r,z7',z8',hg,e⟩:=gap_row CR CP CN n ns b k s i (rows.map oV) z7 z8 hb0 hb1 hk hs0 hs1 hi
  have hl:rows.length<16777216:=by omega
  refine ⟨_,by simp;rfl,?_⟩
  refine ⟨_,.inl (by simp [kS,aS,k1,k2,e,hl];rfl),rows++[r],some (.int i),some (oV r),z7',z8',by simp [aS],by simp;omega,fun y hy=>?_⟩
  rcases List.mem_append.mp hy with z|z
  ·exact hr2 y z
  ·simp at z;subst z;exact hg)
 rw [Nat.zero_add,cE] at h1
 exact ⟨rows,⟨h1,h2⟩,by simp [fE,nt,k1,k2,e]⟩
theorem rules_ok (n:Nat) (ns:List Int) (s:Int) (hs0:1<=s) (hs1:s<=100000):∃(k:Nat) (rows:List (List Int)) (o:Dat),1<=k/\k<=6/\f9 k rows/\(o=.non\/∃iP,f9 k iP/\o=aS iP)/\bH CR CP CN n [.lst (ns.map .int),.int s]=.ok (.tup [aS rows,o]):=by
 obtain ⟨x,e1,hx⟩:=gW CR CP CN n ns 0 (by omega) (by omega)
 obtain ⟨y,e2,hy⟩:=gW CR CP CN n ns 1 (by omega) (by omega)
 have hk0:0<=x%6:=by omega
 have hk:1+x%6=((1+(x%6).toNat:Nat):Int):=by omega
 obtain ⟨rows,g1,e3⟩:=A8 CR CP CN n ns 4 (1+(x%6).toNat) s (by omega) (by omega) (by omega) hs0 hs1
 obtain ⟨iP,g2,e4⟩:=A8 CR CP CN n ns 50 (1+(x%6).toNat) s (by omega) (by omega) (by omega) hs0 hs1
 rw [<- hk] at e3 e4
 by_cases h:y%2=1
 ·exact ⟨1+(x%6).toNat,rows,aS iP,by omega,by omega,g1,.inr ⟨iP,g2,rfl⟩,by simp [bH,eN,fH,e1,e2,e3,e4,h]⟩
 ·exact ⟨1+(x%6).toNat,rows,.non,by omega,by omega,g1,.inl rfl,by simp [bH,eN,fH,e1,e2,e3,h]⟩
end
section
variable (CR CP CN:Addr)
theorem A2 (n:Nat) (x:Int) (h0:0<=x) (h1:x<=1000000):kl CR CP CN n [.int x]=.ok (.bl true):=by simp [kl,t5,rT,h0,h1]
theorem sW (n:Nat) (k:Nat) (r:List Int) (hk:k<=6) (h:qv k r):cO CR CP CN n [oV r,.int k]=.ok (.bl true):=by
 have hl:r.length<=16777216:=by have:=h.1;omega
 have hk':k<=16777216:=by omega
 have e:bY (.nm 0) qP (fL (kl CR CP CN n) (a9 (aa 0) aJ)) [none] (r.map .int)=.ok ((r.map fun _=>true).map Dat.bl):=by
  have:=jS (p:=.nm 0) (fe:=fL (kl CR CP CN n) (a9 (aa 0) aJ)) (ρ0:=[none]) (fun _=>.bl true) (r.map .int) (fun d hd=>by
   obtain ⟨x,hx,rfl⟩:=List.mem_map.mp hd
   exact ⟨[some (.int x)],by simp,by simp [A2 CR CP CN n x (h.2 x hx).1 (h.2 x hx).2]⟩)
  rw [this,List.map_map,List.map_map]
  rfl
 simp [cO,m6,oV,e,hl,hk',h.1,-List.map_map]
theorem Av (n:Nat) (rows:List (List Int)) (hl:rows.length<=1000):eI CR CP CN n [aS rows]=.ok (aS rows):=by
 have hl2:rows.length<=16777216:=by omega
 have e:bY (.nm 0) qP (fL uG (a9 (aa 0) aJ)) [none] (rows.map oV)=.ok (rows.map oV):=by
  have:=jS (p:=.nm 0) (fe:=fL uG (a9 (aa 0) aJ)) (ρ0:=[none]) id (rows.map oV) (fun d hd=>by
   obtain ⟨x,hx,rfl⟩:=List.mem_map.mp hd
   exact ⟨[some (oV x)],by simp,by simp [oV]⟩)
  rw [this,List.map_id]
 simp [eI,kz,aS,e,hl2]
theorem rS (n:Nat) (k:Nat) (rows:List (List Int)) (h1:1<=k) (h6:k<=6) (h:f9 k rows):aA CR CP CN n [aS rows]=.ok (aS rows):=by
 have hl2:rows.length<=16777216:=by have:=h.1;omega
 have e:bY (.nm 0) qP (fL (cO CR CP CN n) (a9 (aa 0) (a9 (aa 1) aJ))) [none,some (.int rows.length)] (rows.map oV)=.ok ((rows.map fun _=>true).map Dat.bl):=by
  have:=jS (p:=.nm 0) (fe:=fL (cO CR CP CN n) (a9 (aa 0) (a9 (aa 1) aJ))) (ρ0:=[none,some (.int rows.length)]) (fun _=>.bl true) (rows.map oV) (fun d hd=>by
   obtain ⟨x,hx,rfl⟩:=List.mem_map.mp hd
   exact ⟨[some (oV x),some (.int rows.length)],by simp,by simp [h.1,sW CR CP CN n k x h6 (h.2 x hx)]⟩)
  rw [this,List.map_map,List.map_map]
  rfl
 have a1:(1:Int)<=rows.length:=by have:=h.1;omega
 have a2:(rows.length:Int)<=6:=by have:=h.1;omega
 have e3:=Av CR CP CN n rows (by have:=h.1;omega)
 simp only [aS] at e3
 simp [aA,jr,lu,lr,aS,e,e3,hl2,a1,a2,-List.map_map]
noncomputable def bp (rows:List (List Int)):Dat->Dat
 |.non=>.ins CR [("gaps",aS rows)]
 |o=>.ins CP [("gaps",aS rows),("beside",o)]
theorem made_ok (n:Nat) (k:Nat) (rows:List (List Int)) (o:Dat) (h1:1<=k) (h6:k<=6) (h:f9 k rows) (ho:o=.non\/∃iP,f9 k iP/\o=aS iP):cP CR CP CN n [.tup [aS rows,o]]=.ok (bp CR CP rows o):=by
 have e1:=rS CR CP CN n k rows h1 h6 h
 rcases ho with rfl|⟨iP,g2,rfl⟩
 ·simp [cP,kB,kK,newR,e1,bp]
 ·have e2:=rS CR CP CN n k iP h1 h6 g2
  have ht:twoL (aS rows) (aS iP)=true:=by simp [twoL,aS,h.1,g2.1]
  have e3:bp CR CP rows (aS iP)=.ins CP [("gaps",aS rows),("beside",aS iP)]:=rfl
  rw [e3]
  have hr:aS iP=.lst (iP.map oV):=rfl
  simp [cP,kB,kK,newP,e1,e2,ht]
  rw [hr]
  have en:newP CP (aA CR CP CN n) [aS rows,aS iP]=.ok (.ins CP [("gaps",aS rows),("beside",aS iP)]):=by simp [newP,e1,e2,ht]
  simp [<- hr,en]
theorem A9 (rows:List (List Int)) (o:Dat) (ho:o=.non\/∃iP,o=aS iP):tH [CR,CP] "gaps" (bp CR CP rows o)=.ok (aS rows):=by
 have h1:((("gaps":Str)==("gaps":Str))=true):=by decide +kernel
 rcases ho with rfl|⟨iP,rfl⟩
 ·show (if ([CR,CP].contains CR)=true then (match List.lookup ("gaps":Str) [(("gaps":Str),aS rows)] with|some d=>Except.ok d|none=>stk) else stk)=_
  rw [if_pos (by simp),List.lookup_cons,h1]
 ·show (if ([CR,CP].contains CP)=true then (match List.lookup ("gaps":Str) [(("gaps":Str),aS rows),(("beside":Str),aS iP)] with|some d=>Except.ok d|none=>stk) else stk)=_
  rw [if_pos (by simp),List.lookup_cons,h1]
end
structure Fli where
 kind:Int
 first:Int
 last:Int
 due:Int
 price:Int
noncomputable def flD (f:Fli):Dat:=.tup [.int f.kind,.int f.first,.int f.last,.int f.due,.int f.price]
structure rZ (k:Nat) (f:Fli):Prop where
 k0:0<=f.kind
 k1:f.kind<k
 f0:0<=f.first
 f1:f.first<=f.last
 l1:f.last<=1000000000
 d0:0<=f.due
 d1:f.due<=1000000000
 p0:0<=f.price
 p1:f.price<=1000000000
@[simp] theorem flatTop_f (d:Dat):ma false d=md d:=by cases d<;>rfl
@[simp] theorem flatD_int (i:Int):md (.int i)=true:=by rw [md]<;>simp
theorem vY (a b:Int):jm a b<=a/\jm a b<=b/\(jm a b=a\/jm a b=b):=by unfold jm;split<;>omega
section
variable (CR CP CN:Addr)
theorem yj (n:Nat) (ns:List Int) (k:Nat) (rows:List (List Int)) (o:Dat) (most s:Int) (many i:Nat) (fl:List Fli) (z6 z7 z8 z9 z10 z11 z12:Option Dat) (hk:rows.length=k) (hk1:1<=k) (hm:many<=40) (hi:i<many) (hs0:1<=s) (hs1:s<=100000) (hfl:fl.length<=40) :
  ∃(f:Fli) (y7 y8 y9 y10 y11 y12:Option Dat),rZ k f/\dJ CR CP CN n [some (.lst (ns.map .int)),some (.tup [aS rows,o]),some (.int most),some (.int s),some (.int many),some (.lst (fl.map flD)),some (.int i),z7,z8,z9,z10,z11,z12]=.ok (.nx [some (.lst (ns.map .int)),some (.tup [aS rows,o]),some (.int most),some (.int s),some (.int many),some (.lst ((fl++[f]).map flD)),some (.int i),y7,y8,y9,y10,y11,y12]):=by
 obtain ⟨x,e,hx⟩:=gW CR CP CN n ns (100+(i:Int)) (by omega) (by omega)
 have p1:0<25*s*((i:Int)+1):=Int.mul_pos (by omega) (by omega)
 have p2:25*s*((i:Int)+1)<=2500000*40:=Int.le_trans (Int.mul_le_mul_of_nonneg_right (by omega) (by omega)) (Int.mul_le_mul_of_nonneg_left (by omega) (by omega))
 have p3:0<20*s:=by omega
 have f0:0<=x/16%(25*s*((i:Int)+1)):=Int.emod_nonneg _ (by omega)
 have f1:x/16%(25*s*((i:Int)+1))<25*s*((i:Int)+1):=Int.emod_lt_of_pos _ p1
 have d0:0<=x/1000%(20*s):=Int.emod_nonneg _ (by omega)
 have c1: -18446744073709551616<25*s:=by omega
 have c2:25*s<18446744073709551616:=by omega
 have c3: -18446744073709551616<100*s:=by omega
 have c4:100*s<18446744073709551616:=by omega
 have c5: -18446744073709551616<12*s:=by omega
 have c6:12*s<18446744073709551616:=by omega
 have hk2:(0:Int)<rows.length:=by omega
 have hfl2:fl.length<16777216:=by omega
 have hmp:(0:Int)<=many:=by omega
 generalize hF:x/16%(25*s*((i:Int)+1))=F at f0 f1
 generalize hDd:x/1000%(20*s)=dd at d0
 have q4:x%16/5=0\/x%16/5=1\/x%16/5=2\/x%16/5=3:=by omega
 have q2:x/3%2=0\/x/3%2=1:=by omega
 obtain ⟨w,hw0,ew⟩:∃w,0<=w/\ni [.int 1000000000,.int (100*s*many),.int (12*s*many),.int (3*s)] (x%16/5)=.ok (.int w):=by
  rcases q4 with h|h|h|h
  ·exact ⟨1000000000,by omega,by rw [h];simp⟩
  ·exact ⟨100*s*many,Int.mul_nonneg (by omega) (by omega),by rw [h];simp⟩
  ·exact ⟨12*s*many,Int.mul_nonneg (by omega) (by omega),by rw [h];simp⟩
  ·exact ⟨3*s,by omega,by rw [h];simp⟩
 obtain ⟨pr,hp0,hp1,ep⟩:∃w,0<=w/\w<=1000000000/\ni [.int (x/7%10),.int (x/7%1000000001)] (x/3%2)=.ok (.int w):=by
  rcases q2 with h|h
  ·exact ⟨x/7%10,by omega,by omega,by rw [h];simp⟩
  ·exact ⟨x/7%1000000001,by omega,by omega,by rw [h];simp⟩
 have kk0:0<=x/11%(rows.length:Int):=Int.emod_nonneg _ (by omega)
 have kk1:x/11%(rows.length:Int)<rows.length:=Int.emod_lt_of_pos _ hk2
 have m1:=vY 1000000000 (F+w)
 have m2:=vY 1000000000 (F+dd)
 have g1:x/11%(rows.length:Int)<(k:Int):=by omega
 have g2:F<=jm 1000000000 (F+w):=by omega
 have g3:0<=jm 1000000000 (F+dd):=by omega
 refine ⟨⟨x/11%(rows.length:Int),F,jm 1000000000 (F+w),jm 1000000000 (F+dd),pr⟩,some (.int x),some (.int F),some (.int w),some (.int (jm 1000000000 (F+w))),some (.int (jm 1000000000 (F+dd))),some (.int pr),⟨kk0,g1,f0,g2,m1.1,g3,m2.1,hp0,hp1⟩,?_⟩
 simp [dJ,e,c1,c2,c3,c4,c5,c6,qR p1,qR p3,hF,hDd,ew,ep,qR hk2,hfl2,aS,flD]
theorem yi (n:Nat) (ns:List Int) (k:Nat) (rows:List (List Int)) (o:Dat) (most:Nat) (s:Int) (hk:rows.length=k) (hk1:1<=k) (hm:most<=40) (hs0:1<=s) (hs1:s<=100000) :
  ∃fl:List Fli,fl.length<=most/\(∀f∈fl,rZ k f)/\cF CR CP CN n [.lst (ns.map .int),.tup [aS rows,o],.int most,.int s]=.ok (.lst (fl.map flD)):=by
 obtain ⟨x,e1,hx⟩:=gW CR CP CN n ns 2 (by omega) (by omega)
 obtain ⟨y,e2,hy⟩:=gW CR CP CN n ns 3 (by omega) (by omega)
 have hmp:0<(most:Int)/4+1:=by omega
 have a0:0<=x%((most:Int)/4+1):=Int.emod_nonneg _ (by omega)
 have a1:x%((most:Int)/4+1)<(most:Int)/4+1:=Int.emod_lt_of_pos _ hmp
 obtain ⟨many,hmany,em⟩:∃many:Nat,many<=most/\dH CR CP CN n [some (.lst (ns.map .int)),some (.tup [aS rows,o]),some (.int most),some (.int s),some (.int (x%((most:Int)/4+1))),none,none,none,none,none,none,none,none]=.ok (.nx [some (.lst (ns.map .int)),some (.tup [aS rows,o]),some (.int most),some (.int s),some (.int many),none,none,none,none,none,none,none,none]):=by
  by_cases h:y%8=5
  ·exact ⟨most,by omega,by simp [dH,e2,h]⟩
  ·exact ⟨(x%((most:Int)/4+1)).toNat,by omega,by simp [dH,e2,h]<;>omega⟩
 have k1: -4611686018427387904<=(many:Int):=by omega
 have k2:(many:Int)<4611686018427387904:=by omega
 obtain ⟨ρ',e,fl,y6,y7,y8,y9,y10,y11,y12,rfl,h1,h2⟩:=eO (p:=.nm 6) (g:=dJ CR CP CN n)
  (fun i ρ=>∃(fl:List Fli) (z6 z7 z8 z9 z10 z11 z12:Option Dat),ρ=[some (.lst (ns.map .int)),some (.tup [aS rows,o]),some (.int most),some (.int s),some (.int many),some (.lst (fl.map flD)),z6,z7,z8,z9,z10,z11,z12]/\fl.length=i/\∀f∈fl,rZ k f) (bg 0 many) 0 [some (.lst (ns.map .int)),some (.tup [aS rows,o]),some (.int most),some (.int s),some (.int many),some (.lst []),none,none,none,none,none,none,none] ⟨[],none,none,none,none,none,none,none,rfl,rfl,by simp⟩ (by
  rintro i d ρ hd ⟨fl,z6,z7,z8,z9,z10,z11,z12,rfl,hr1,hr2⟩
  obtain ⟨hi,rfl⟩:=fq hd
  obtain ⟨f,y7,y8,y9,y10,y11,y12,hg,e⟩:=yj CR CP CN n ns k rows o most s many i fl z6 z7 z8 z9 z10 z11 z12 hk hk1 (by omega) hi hs0 hs1 (by omega)
  refine ⟨_,by simp<;>rfl,_,.inl e,fl++[f],some (.int i),y7,y8,y9,y10,y11,y12,rfl,by simp;omega,fun y hy=>?_⟩
  rcases List.mem_append.mp hy with z|z
  ·exact hr2 y z
  ·simp at z;subst z;exact hg)
 rw [Nat.zero_add,cE] at h1
 exact ⟨fl,by omega,h2,by simp [cF,ju,e1,qR hmp,em,k1,k2,e]⟩
end
theorem yo {α:Type} {l:List α} {i:Nat} (h:i<l.length):(l[i]::l.eraseIdx i).Perm l:=by
 rw [List.eraseIdx_eq_take_drop_succ]
 have e:l.take i++l[i]::l.drop (i+1)=l:=by rw [List.getElem_cons_drop,List.take_append_drop]
 have:=(List.perm_middle (a:=l[i]) (l₁:=l.take i) (l₂:=l.drop (i+1))).symm
 rw [e] at this
 exact this
theorem t8 (l:List cK) (j:Nat):(l.map stD).eraseIdx j=(l.eraseIdx j).map stD:=by
 rw [List.eraseIdx_eq_take_drop_succ,List.eraseIdx_eq_take_drop_succ]
 simp
theorem popD_st {ls:List cK} {k:Int} (h0:0<=k) (h1:k<ls.length) (hl:ls.length<=16777216):zr (ls.map stD) (.int k)=.ok (stD (ls[k.toNat]'(by omega)),(ls.eraseIdx k.toNat).map stD):=by
 have hj:k.toNat<ls.length:=by omega
 have hn:¬16777216<ls.length:=by omega
 simp [zr,ixN,h0,h1,hj,hn,t8]
section
variable (CR CP CN:Addr)
theorem rO (fl:List Fli):∀ks:List Nat,(∀k∈ks,k<fl.length)->∃cs:List cK,cs.map (·.2)=ks.map (fun k:Nat=>(k:Int))/\bY (.nm 0) qP (fL jK (a9 (f2 ixD (f2 ixD (aa 1) (aa 0)) (fC (.int 1))) (a9 (aa 0) aJ))) [none,some (.lst (fl.map flD))] (ks.map fun k:Nat=>Dat.int (k:Int))=.ok (cs.map stD)
 |[],_=>⟨[],rfl,rfl⟩
 |k::ks,h=>by
  obtain ⟨cs,h1,h2⟩:=rO fl ks fun x hx=>h x (by simp [hx])
  have hk:=h k (by simp)
  have e:ni (fl.map flD) (k:Int)=.ok (flD fl[k]):=by
   rw [iX (by simpa using hk)];simp
  refine ⟨((fl[k]).first,(k:Int))::cs,by simp [h1],?_⟩
  rw [List.map_cons,bY]
  simp [e,flD,h2,stD]
theorem ui (n:Nat) (ns:List Int) (a1 a2:Option Dat) (st:Int) (hs0:1<=st):∀(m:Nat) (left pairs:List cK) (z6 z7 z8 z9:Option Dat),left.length<m->left.length+pairs.length<=1000->(∀p∈pairs,0<=p.2/\p.2<st) ->
  ∃(qs:List cK) (y6 y7 y8 y9:Option Dat),(qs.map (·.1)).Perm (pairs.map (·.1)++left.map (·.2))/\(∀p∈qs,0<=p.2/\p.2<st) /\
   bW (eh CR CP CN n) (i4 CR CP CN n) m [some (.lst (ns.map .int)),a1,a2,some (.lst (left.map stD)),some (.lst (pairs.map stD)),some (.int st),z6,z7,z8,z9]=.ok (.nx [some (.lst (ns.map .int)),a1,a2,some (.lst []),some (.lst (qs.map stD)),some (.int st),y6,y7,y8,y9])
 |0,left,pairs,z6,z7,z8,z9,h,_,_=>by omega
 |m+1,left,pairs,z6,z7,z8,z9,h,hl,hp=>by
  by_cases h0:left.length=0
  ·have:left=[]:=List.length_eq_zero_iff.mp h0
   subst this
   exact ⟨pairs,z6,z7,z8,z9,by simp,hp,by rw [bW];simp [eh]⟩
  ·obtain ⟨x,e,hx⟩:=gW CR CP CN n ns (180+(left.length:Int)) (by omega) (by omega)
   have hpos:0<left.length:=by omega
   have m1:=vY (left.length:Int) 3
   have hmz:0<jm (left.length:Int) 3:=by omega
   have b0:0<=x/64%jm (left.length:Int) 3:=Int.emod_nonneg _ (by omega)
   have b1:x/64%jm (left.length:Int) 3<jm (left.length:Int) 3:=Int.emod_lt_of_pos _ hmz
   obtain ⟨at_,c0,c1,ec⟩:∃at_:Int,0<=at_/\at_<left.length/\qL (.int (x/64%jm (left.length:Int) 3)) (.int (b2z (decide (x%4=0))))=.ok (.int at_):=by
    by_cases hq:x%4=0
    ·exact ⟨x/64%jm (left.length:Int) 3,b0,by omega,by simp [hq,b2z]⟩
    ·exact ⟨0,by omega,by omega,by simp [hq,b2z]⟩
   have ep:=popD_st c0 c1 (by omega)
   have hst:0<st:=by omega
   have r0:0<=x/4096%st:=Int.emod_nonneg _ (by omega)
   have r1:x/4096%st<st:=Int.emod_lt_of_pos _ hst
   have hpl:pairs.length<16777216:=by omega
   have hat:at_.toNat<left.length:=by omega
   generalize hpd:left[at_.toNat]'hat=pd at ep
   have hle:=List.length_eraseIdx_of_lt hat
   obtain ⟨qs,y6,y7,y8,y9,hq1,hq2,hq3⟩:=ui n ns a1 a2 st hs0 m (left.eraseIdx at_.toNat) (pairs++[(pd.2,x/4096%st)]) (some (.int x)) (some (.int at_)) (some (.int pd.1)) (some (.int pd.2)) (by omega) (by simp;omega) (fun p hp'=>by
    rcases List.mem_append.mp hp' with z|z
    ·exact hp p z
    ·simp at z;subst z;exact ⟨r0,r1⟩)
   refine ⟨qs,y6,y7,y8,y9,?_,hq2,?_⟩
   ·refine hq1.trans ?_
    rw [List.map_append,List.append_assoc]
    refine List.Perm.append_left _ ?_
    have:=(yo hat).map (·.2)
    rw [hpd] at this
    simpa using this
   ·rw [bW]
    rw [List.map_append,List.map_cons,List.map_nil] at hq3
    simp only [stD] at hq3 ep
    have ht:eh CR CP CN n [some (.lst (ns.map .int)),a1,a2,some (.lst (left.map stD)),some (.lst (pairs.map stD)),some (.int st),z6,z7,z8,z9]=.ok true:=by simp [eh,hpos]
    have hb:i4 CR CP CN n [some (.lst (ns.map .int)),a1,a2,some (.lst (left.map stD)),some (.lst (pairs.map stD)),some (.int st),z6,z7,z8,z9]=.ok (.nx [some (.lst (ns.map .int)),a1,a2,some (.lst ((left.eraseIdx at_.toNat).map stD)),some (.lst (pairs.map stD++[.tup [.int pd.2,.int (x/4096%st)]])),some (.int st),some (.int x),some (.int at_),some (.int pd.1),some (.int pd.2)]):=by
     simp [i4,e,qR hmz,ec,ep,qR hst,hpl]
    rw [ht,au,if_pos rfl,hb,au]
    exact hq3
end
section
variable (CR CP CN:Addr)
theorem plan_ok (n:Nat) (ns:List Int) (rows:List (List Int)) (o:Dat) (fl:List Fli) (hf:fl.length<=60) (hn:64<=n):∃qs:List cK,(qs.map (·.1)).Perm ((List.range fl.length).map fun k:Nat=>(k:Int))/\(∀p∈qs,0<=p.2/\p.2<2)/\(o=.non->∀p∈qs,p.2=0)/\fD CR CP CN n [.lst (ns.map .int),.tup [aS rows,o],.lst (fl.map flD)]=.ok (.lst (qs.map stD)):=by
 obtain ⟨cs,h1,h2⟩:=rO fl (List.range fl.length) (fun k hk=>List.mem_range.mp hk)
 have hcl:cs.length=fl.length:=by have:=congrArg List.length h1;simpa using this
 obtain ⟨ss,e,hp,_⟩:=u9 cs (by omega)
 obtain ⟨b,hb⟩:∃b,isND o .non=.ok (.bl b):=by cases o<;>exact ⟨_,rfl⟩
 have hs0:1<=(2:Int)-b2z b:=by cases b<;>decide
 have hs1:(2:Int)-b2z b<=2:=by cases b<;>decide
 obtain ⟨qs,y6,y7,y8,y9,q1,q2,q3⟩:=ui CR CP CN n ns (some (.tup [aS rows,o])) (some (.lst (fl.map flD))) (2-b2z b) hs0 n ss [] none none none none (by rw [hp.length_eq];omega) (by rw [hp.length_eq];simp;omega) (by simp)
 refine ⟨qs,?_,fun p hp=>⟨(q2 p hp).1,by have:=(q2 p hp).2;omega⟩,fun hon p hp=>by subst hon;cases hb;have:=q2 p hp;simp [b2z] at this;omega,?_⟩
 ·refine q1.trans ?_
  rw [List.map_nil,List.nil_append,<- h1]
  exact hp.map _
 ·have k1: -4611686018427387904<=(fl.length:Int):=by omega
  have k2:(fl.length:Int)<4611686018427387904:=by omega
  have hl2:fl.length<=16777216:=by omega
  have er:bg 0 fl.length=(List.range fl.length).map fun k:Nat=>Dat.int (k:Int):=by
   unfold bg
   exact List.map_congr_left fun k _=>by rw [Int.zero_add]
  rw [List.map_nil] at q3
  simp [fD,nr,k1,k2,er,h2,e,hb,hl2,q3,-e_isN]
end
noncomputable def vn (fl:List Fli) (i:Int):Fli:=match fl[i.toNat]? with
 |some f=>f
 |none=>⟨0,0,0,0,0⟩
theorem getFl {fl:List Fli} {i:Int} (h0:0<=i) (h1:i<fl.length):ni (fl.map flD) i=.ok (flD (vn fl i))/\vn fl i∈fl:=by
 have hj:i.toNat<fl.length:=by omega
 have e:vn fl i=fl[i.toNat]:=by unfold vn;rw [List.getElem?_eq_getElem hj]
 refine ⟨?_,by rw [e];exact List.getElem_mem hj⟩
 have:=iX (ds:=fl.map flD) (k:=i.toNat) (by simpa using hj)
 rw [show ((i.toNat:Nat):Int)=i by omega] at this
 rw [this,e]
 simp
noncomputable def Cov (cs:List cK) (t:Int):Prop:=∃p∈cs,p.1<=t/\t<p.2
noncomputable def lz (cs:List cK) (t u:Int):Prop:=t<=u/\¬Cov cs u/\∀v,t<=v->v<u->Cov cs v
noncomputable def oi (cs:List cK) (t u:Int):Prop:=u<=t/\¬Cov cs u/\∀v,u<v->v<=t->Cov cs v
theorem lz.uniq {cs:List cK} {t u v:Int} (h:lz cs t u) (k:lz cs t v):u=v:=by
 rcases Int.lt_trichotomy u v with e|e|e
 ·exact absurd (k.2.2 u h.1 e) h.2.1
 ·exact e
 ·exact absurd (h.2.2 v k.1 e) k.2.1
theorem oi.uniq {cs:List cK} {t u v:Int} (h:oi cs t u) (k:oi cs t v):u=v:=by
 rcases Int.lt_trichotomy u v with e|e|e
 ·exact absurd (h.2.2 v e k.1) k.2.1
 ·exact e
 ·exact absurd (k.2.2 u e h.1) h.2.1
theorem qh (t:Int):¬Cov [] t:=fun ⟨_,h,_⟩=>by simp at h
theorem nY {p:cK} {cs:List cK} {t:Int}:Cov (p::cs) t↔(p.1<=t/\t<p.2)\/Cov cs t:=by
 constructor
 ·rintro ⟨q,h,h2⟩
  rcases List.mem_cons.mp h with e|e
  ·subst e;exact .inl h2
  ·exact .inr ⟨q,e,h2⟩
 ·rintro (h|⟨q,h,h2⟩)
  ·exact ⟨p,by simp,h⟩
  ·exact ⟨q,by simp [h],h2⟩
theorem jR {as bs:List cK} {t:Int}:Cov (as++bs) t↔Cov as t\/Cov bs t:=by
 constructor
 ·rintro ⟨q,h,h2⟩
  rcases List.mem_append.mp h with e|e
  ·exact .inl ⟨q,e,h2⟩
  ·exact .inr ⟨q,e,h2⟩
 ·rintro (⟨q,h,h2⟩|⟨q,h,h2⟩)
  ·exact ⟨q,by simp [h],h2⟩
  ·exact ⟨q,by simp [h],h2⟩
theorem cov_perm {as bs:List cK} (h:as.Perm bs) {t:Int}:Cov as t↔Cov bs t:=⟨fun ⟨p,m,q⟩=>⟨p,h.mem_iff.mp m,q⟩,fun ⟨p,m,q⟩=>⟨p,h.mem_iff.mpr m,q⟩⟩
theorem wg {p:cK} {t:Int}:Cov [p] t↔p.1<=t/\t<p.2:=by rw [nY];simp [qh]
theorem mj:∀(ds:List Dat) (k i:Nat) (d:Dat),(jO k ds)[i]? =some d->∃e,ds[i]? =some e/\d=.tup [.int ((k+i:Nat):Int),e]
 |[],k,i,d,h=>by simp [jO] at h
 |a::ds,k,0,d,h=>by simp [jO] at h;exact ⟨a,by simp,by simp [<- h]⟩
 |a::ds,k,i+1,d,h=>by
  simp [jO] at h
  obtain ⟨e,h1,h2⟩:=mj ds (k+1) i d h
  exact ⟨e,by simpa using h1,by rw [h2,show k+1+i=k+(i+1) by omega]⟩
theorem gK:∀(ds:List Dat) (k:Nat),(jO k ds).length=ds.length
 |[],k=>rfl
 |a::ds,k=>by simp [jO,gK ds (k+1)]
noncomputable def tAt (ts:List Int) (i:Nat):Int:=ts.getD i 0
noncomputable def qAt (qs:List cK) (i:Nat):cK:=qs.getD i (0,0)
noncomputable def rwAt (rows:List (List Int)) (i:Int):List Int:=rows.getD i.toNat []
noncomputable def at2 (rows:List (List Int)) (i j:Int):Int:=(rwAt rows i).getD j.toNat 0
noncomputable def apS (rows r2:List (List Int)) (a b:cK):Int:=if a.2=b.2 then at2 rows a.1 b.1 else at2 r2 a.1 b.1
noncomputable def lp (fl:List Fli) (p:cK):cK:=((vn fl p.1).kind,p.2)
structure Wo where
 k:Nat
 rows:List (List Int)
 r2:List (List Int)
 o:Dat
 fl:List Fli
 cs:List cK
 qs:List cK
structure Wo.Good (w:Wo):Prop where
 k1:1<=w.k
 k6:w.k<=6
 rows:f9 w.k w.rows
 o:(w.o=.non/\∀p∈w.qs,p.2=0)\/(w.o=aS w.r2/\f9 w.k w.r2)
 fl:∀f∈w.fl,rZ w.k f
 fll:w.fl.length<=60
 cs:∀p∈w.cs,p.1<p.2
 csl:w.cs.length<=20
 qs:∀p∈w.qs,0<=p.1/\p.1<w.fl.length
 qsl:w.qs.length=w.fl.length
noncomputable def Wo.f (w:Wo) (i:Nat):Fli:=vn w.fl (qAt w.qs i).1
noncomputable def Wo.ap (w:Wo) (j i:Nat):Int:=apS w.rows w.r2 (lp w.fl (qAt w.qs j)) (lp w.fl (qAt w.qs i))
noncomputable def Wo.ruD (w:Wo):Dat:=.tup [aS w.rows,w.o]
noncomputable def Wo.qu (w:Wo) (ts:List Int) (i:Nat):Prop:=((w.f i).first<=tAt ts i/\tAt ts i<=(w.f i).last/\¬Cov w.cs (tAt ts i))/\∀j,j<i->tAt ts j+w.ap j i<=tAt ts i
noncomputable def Wo.Keeps (w:Wo) (ts:List Int):Prop:=∀i,i<w.qs.length->w.qu ts i
theorem getQ {qs:List cK} {i:Nat} (h:i<qs.length):ni (qs.map stD) (i:Int)=.ok (stD (qAt qs i)):=by
 rw [iX (by simpa using h)]
 simp [qAt,h]
theorem jk {qs:List cK} {i:Nat} (h:i<qs.length):qAt qs i∈qs:=by
 have:qAt qs i=qs[i]:=by simp [qAt,h]
 rw [this]
 exact List.getElem_mem h
theorem getT {ts:List Int} {i:Nat} (h:i<ts.length):ni (ts.map .int) (i:Int)=.ok (.int (tAt ts i)):=by
 rw [iX (by simpa using h)]
 simp [tAt,h]
theorem getR {k:Nat} {rows:List (List Int)} (g:f9 k rows) {i:Int} (h0:0<=i) (h1:i<k):ni (rows.map oV) i=.ok (oV (rwAt rows i))/\qv k (rwAt rows i):=by
 have hl:=g.1
 have hj:i.toNat<rows.length:=by omega
 have e:rwAt rows i=rows[i.toNat]:=by simp [rwAt,hj]
 refine ⟨?_,by rw [e];exact g.2 _ (List.getElem_mem hj)⟩
 have:=iX (ds:=rows.map oV) (k:=i.toNat) (by simpa using hj)
 rw [show ((i.toNat:Nat):Int)=i by omega] at this
 rw [this,e]
 simp
theorem getA {k:Nat} {rows:List (List Int)} (g:f9 k rows) {i j:Int} (h0:0<=i) (h1:i<k) (h2:0<=j) (h3:j<k):ni ((rwAt rows i).map .int) j=.ok (.int (at2 rows i j))/\0<=at2 rows i j:=by
 have gr:=(getR g h0 h1).2
 have hl:=gr.1
 have hj:j.toNat<(rwAt rows i).length:=by omega
 have e:at2 rows i j=(rwAt rows i)[j.toNat]:=by simp [at2,hj]
 refine ⟨?_,by rw [e];exact (gr.2 _ (List.getElem_mem hj)).1⟩
 rw [getI_int h2 (by omega),e]
theorem Wo.Good.fAt {w:Wo} (hw:w.Good) {i:Nat} (h:i<w.qs.length):ni (w.fl.map flD) (qAt w.qs i).1=.ok (flD (w.f i))/\rZ w.k (w.f i):=by
 obtain ⟨h0,h1⟩:=hw.qs _ (jk h)
 obtain ⟨e,m⟩:=getFl h0 h1
 exact ⟨e,hw.fl _ m⟩
section
variable (CR CP CN:Addr)
theorem xH (n:Nat) {w:Wo} (hw:w.Good) {j i:Nat} (hj:j<w.qs.length) (hi:i<w.qs.length):ck CR CP CN n [w.ruD,.lst (w.fl.map flD),stD (qAt w.qs j),stD (qAt w.qs i)]=.ok (.int (w.ap j i)):=by
 obtain ⟨ej,gj⟩:=hw.fAt hj
 obtain ⟨ei,gi⟩:=hw.fAt hi
 obtain ⟨r1,_⟩:=getR hw.rows gj.k0 gj.k1
 obtain ⟨r2,_⟩:=getA hw.rows gj.k0 gj.k1 gi.k0 gi.k1
 unfold Wo.f at *
 by_cases hs:(qAt w.qs j).2=(qAt w.qs i).2
 ·simp [ck,iZ,jx,Wo.ruD,stD,ej,ei,flD,hs,aS,r1,oV,r2,Wo.ap,apS,lp]
 ·rcases hw.o with ⟨_,h⟩|⟨ho,h⟩
  ·exact absurd ((h _ (jk hj)).trans (h _ (jk hi)).symm) hs
  ·obtain ⟨r3,_⟩:=getR h gj.k0 gj.k1
   obtain ⟨r4,_⟩:=getA h gj.k0 gj.k1 gi.k0 gi.k1
   simp [ck,iZ,jx,Wo.ruD,stD,ej,ei,flD,hs,ho,aS,r3,oV,r4,Wo.ap,apS,lp]
end
section
variable (CR CP CN:Addr)
theorem Ay (n:Nat) (ns:List Int) (s:Int) (hs0:1<=s) (hs1:s<=100000):∃cs:List cK,cs.length<=20/\(∀p∈cs,0<=p.1/\p.1<p.2)/\da CR CP CN n [.lst (ns.map .int),.int s]=.ok (.lst (cs.map stD)):=by
 obtain ⟨x,e1,hx⟩:=gW CR CP CN n ns 150 (by omega) (by omega)
 obtain ⟨y,e2,hy⟩:=gW CR CP CN n ns 151 (by omega) (by omega)
 obtain ⟨many,hmany,em⟩:∃many:Nat,many<=20/\eX CR CP CN n [some (.lst (ns.map .int)),some (.int s),some (.int (x%5)),none,none,none,none]=.ok (.nx [some (.lst (ns.map .int)),some (.int s),some (.int many),none,none,none,none]):=by
  by_cases h:y%8=5
  ·exact ⟨20,by omega,by simp [eX,e2,h]⟩
  ·exact ⟨(x%5).toNat,by omega,by simp [eX,e2,h]<;>omega⟩
 have k1: -4611686018427387904<=(many:Int):=by omega
 have k2:(many:Int)<4611686018427387904:=by omega
 obtain ⟨ρ',e,cs,y4,y5,y6,rfl,h1,h2⟩:=eO (p:=.nm 4) (g:=iL CR CP CN n)
  (fun i ρ=>∃(cs:List cK) (z4 z5 z6:Option Dat),ρ=[some (.lst (ns.map .int)),some (.int s),some (.int many),some (.lst (cs.map stD)),z4,z5,z6]/\cs.length=i/\∀p∈cs,0<=p.1/\p.1<p.2) (bg 0 many) 0 [some (.lst (ns.map .int)),some (.int s),some (.int many),some (.lst []),none,none,none] ⟨[],none,none,none,rfl,rfl,by simp⟩ (by
  rintro i d ρ hd ⟨cs,z4,z5,z6,rfl,hr1,hr2⟩
  obtain ⟨hi,rfl⟩:=fq hd
  obtain ⟨x,ex,hx⟩:=gW CR CP CN n ns (152+(i:Int)) (by omega) (by omega)
  have p1:0<150*s:=by omega
  have f0:0<=x/9%(150*s):=Int.emod_nonneg _ (by omega)
  have m0:0<=x%9*s:=Int.mul_nonneg (by omega) (by omega)
  have q1: -18446744073709551616<x%9:=by omega
  have q2:x%9<18446744073709551616:=by omega
  have hl:cs.length<16777216:=by omega
  refine ⟨_,by simp<;>rfl,[some (.lst (ns.map .int)),some (.int s),some (.int many),some (.lst ((cs++[(x/9%(150*s),x/9%(150*s)+1+x%9*s)]).map stD)),some (.int i),some (.int x),some (.int (x/9%(150*s)))],.inl ?_,_,_,_,_,rfl,by simp;omega,fun y hy=>?_⟩
  ·simp [iL,ex,qR p1,q1,q2,hl,stD]
  ·rcases List.mem_append.mp hy with z|z
   ·exact hr2 y z
   ·simp at z;subst z;exact ⟨f0,by show x/9%(150*s)<x/9%(150*s)+1+x%9*s;omega⟩)
 rw [Nat.zero_add,cE] at h1
 exact ⟨cs,by omega,h2,by simp [da,kD,e1,em,k1,k2,e]⟩
end
noncomputable def cnt (cs:List cK) (t:Int):Nat:=cs.countP fun p=>decide (t<p.2)
theorem xy {cs:List cK} {t u:Int} (h:t<=u):cnt cs u<=cnt cs t:=by
 unfold cnt
 exact List.countP_mono_left fun p _ hp=>by simp at hp ⊢;omega
theorem cnt_lt:∀{cs:List cK} {p:cK} {t:Int},p∈cs->t<p.2->cnt cs p.2<cnt cs t
 |[],p,t,hp,_=>by simp at hp
 |a::cs,p,t,hp,ht=>by
  have hm:=xy (cs:=cs) (t:=t) (u:=p.2) (by omega)
  unfold cnt at *
  rw [List.countP_cons,List.countP_cons]
  rcases List.mem_cons.mp hp with e|e
  ·subst e
   simp [ht]
   omega
  ·have ih:=cnt_lt (cs:=cs) e ht
   unfold cnt at ih
   by_cases h1:p.2<a.2
   ·have:t<a.2:=by omega
    simp [h1,this];omega
   ·by_cases h2:t<a.2<;>simp [h1,h2]<;>omega
section
variable (CR CP CN:Addr)
theorem vS (n:Nat) (all:List cK) (c:Option Dat):∀(ds:List cK) (t:Int) (m:Bool) (z3 z4:Option Dat),(∀p∈ds,p∈all)->∃(t':Int) (m':Bool) (y3 y4:Option Dat),iO (.tp [3,4]) (bf CR CP CN n) (ds.map stD) [c,some (.int t),some (.bl m),z3,z4]=.ok (.nx [c,some (.int t'),some (.bl m'),y3,y4])/\t<=t'/\(∀v,t<=v->v<t'->Cov all v)/\(m'=false->m=false/\t'=t/\¬Cov ds t)/\(m'=true->m=true\/cnt all t'<cnt all t)
 |[],t,m,z3,z4,_=>⟨t,m,z3,z4,rfl,Int.le_refl _,fun v h1 h2=>by omega,fun h=>⟨h,rfl,qh t⟩,fun h=>.inl h⟩
 |p::ds,t,m,z3,z4,hin=>by
  have hb:eY (.tp [3,4]) (stD p) [c,some (.int t),some (.bl m),z3,z4]=.ok [c,some (.int t),some (.bl m),some (.int p.1),some (.int p.2)]:=by simp [stD]
  by_cases h:p.1<=t/\t<p.2
  ·have hg:bf CR CP CN n [c,some (.int t),some (.bl m),some (.int p.1),some (.int p.2)]=.ok (.nx [c,some (.int p.2),some (.bl true),some (.int p.1),some (.int p.2)]):=by simp [bf,cI,h.1,h.2]
   obtain ⟨t',m',y3,y4,e,h1,h2,h3,h4⟩:=vS n all c ds p.2 true (some (.int p.1)) (some (.int p.2)) fun q hq=>hin q (by simp [hq])
   refine ⟨t',m',y3,y4,?_,by omega,fun v a b=>?_,fun hm=>absurd (h3 hm).1 (by simp),fun _=>.inr ?_⟩
   ·rw [List.map_cons,iO,hb,au,hg];exact e
   ·by_cases hv:v<p.2
    ·exact ⟨p,hin p (by simp),by omega,hv⟩
    ·exact h2 v (by omega) b
   ·exact Nat.lt_of_le_of_lt (xy h1) (cnt_lt (hin p (by simp)) h.2)
  ·have hg:bf CR CP CN n [c,some (.int t),some (.bl m),some (.int p.1),some (.int p.2)]=.ok (.nx [c,some (.int t),some (.bl m),some (.int p.1),some (.int p.2)]):=by
    by_cases h1:p.1<=t
    ·have h2:¬t<p.2:=fun z=>h ⟨h1,z⟩
     simp [bf,cI,h1,h2]
    ·simp [bf,cI,h1]
   obtain ⟨t',m',y3,y4,e,h1,h2,h3,h4⟩:=vS n all c ds t m (some (.int p.1)) (some (.int p.2)) fun q hq=>hin q (by simp [hq])
   refine ⟨t',m',y3,y4,?_,h1,h2,fun hm=>?_,h4⟩
   ·rw [List.map_cons,iO,hb,au,hg];exact e
   ·obtain ⟨a,b,d⟩:=h3 hm
    exact ⟨a,b,fun z=>(nY.mp z).elim h d⟩
theorem rz (n:Nat) (cs:List cK):∀(m:Nat) (t:Int) (z3 z4:Option Dat),cnt cs t+1<m->∃(u:Int) (y3 y4:Option Dat),lz cs t u/\bW (bw CR CP CN n) (cJ CR CP CN n) m [some (.lst (cs.map stD)),some (.int t),some (.bl true),z3,z4]=.ok (.nx [some (.lst (cs.map stD)),some (.int u),some (.bl false),y3,y4])
 |0,t,z3,z4,h=>by omega
 |m+1,t,z3,z4,h=>by
  obtain ⟨t',m',y3,y4,e,h1,h2,h3,h4⟩:=vS CR CP CN n cs (some (.lst (cs.map stD))) cs t false z3 z4 fun q hq=>hq
  have ht:bw CR CP CN n [some (.lst (cs.map stD)),some (.int t),some (.bl true),z3,z4]=.ok true:=by simp [bw]
  have hb:cJ CR CP CN n [some (.lst (cs.map stD)),some (.int t),some (.bl true),z3,z4]=.ok (.nx [some (.lst (cs.map stD)),some (.int t'),some (.bl m'),y3,y4]):=by simp [cJ,e]
  cases m' with
  |false=>
   obtain ⟨_,e2,hn⟩:=h3 rfl
   subst e2
   refine ⟨t',y3,y4,⟨Int.le_refl _,hn,fun v a b=>by omega⟩,?_⟩
   rw [bW,ht,au,if_pos rfl,hb,au]
   have ht2:bw CR CP CN n [some (.lst (cs.map stD)),some (.int t'),some (.bl false),y3,y4]=.ok false:=by simp [bw]
   cases m with
   |zero=>omega
   |succ m=>
    show bW _ _ (m+1) _=_
    rw [bW,ht2,au,if_neg (by simp)]
  |true=>
   rcases h4 rfl with z|z
   ·cases z
   ·obtain ⟨u,w3,w4,hu,e2⟩:=rz n cs m t' y3 y4 (by omega)
    refine ⟨u,w3,w4,⟨Int.le_trans h1 hu.1,hu.2.1,fun v a b=>?_⟩,?_⟩
    ·by_cases hv:v<t'
     ·exact h2 v a hv
     ·exact hu.2.2 v (by omega) b
    ·rw [bW,ht,au,if_pos rfl,hb,au]
     exact e2
theorem from_ok (n:Nat) (cs:List cK) (t:Int) (hl:cs.length<=20) (hn:64<=n):∃u,lz cs t u/\cy CR CP CN n [.lst (cs.map stD),.int t]=.ok (.int u):=by
 have hc:cnt cs t<=cs.length:=List.countP_le_length
 obtain ⟨u,y3,y4,hu,e⟩:=rz CR CP CN n cs n t none none (by omega)
 exact ⟨u,hu,by simp [cy,gU,e]⟩
end
theorem lookA1 (d:Dat):List.lookup ("apart":Str) [(("gaps":Str),d)]=none:=by
 rw [List.lookup_cons,show ((("apart":Str)==("gaps":Str))=false) from by decide +kernel]
 rfl
theorem lookA2 (d e:Dat):List.lookup ("apart":Str) [(("gaps":Str),d),(("beside":Str),e)]=none:=by
 rw [List.lookup_cons,show ((("apart":Str)==("gaps":Str))=false) from by decide +kernel]
 show List.lookup ("apart":Str) [(("beside":Str),e)]=none
 rw [List.lookup_cons,show ((("apart":Str)==("beside":Str))=false) from by decide +kernel]
 rfl
section
variable (CR CP CN:Addr)
theorem AN (rows r2:List (List Int)):tH [CP] "beside" (bp CR CP rows (aS r2))=.ok (aS r2):=by
 have h1:((("beside":Str)==("gaps":Str))=false):=by decide +kernel
 have h2:((("beside":Str)==("beside":Str))=true):=by decide +kernel
 show (if ([CP].contains CP)=true then (match List.lookup ("beside":Str) [(("gaps":Str),aS rows),(("beside":Str),aS r2)] with|some d=>Except.ok d|none=>stk) else stk)=_
 rw [if_pos (by simp),List.lookup_cons,h1]
 show (match List.lookup ("beside":Str) [(("beside":Str),aS r2)] with|some d=>Except.ok d|none=>stk)=_
 rw [List.lookup_cons,h2]
theorem zO (n:Nat) (hne:CR≠CP) {w:Wo} (hw:w.Good) {j i:Nat} (hj:j<w.qs.length) (hi:i<w.qs.length) (fo f1 f2:ak->M Dat) (ρ:ak) (h0:fo ρ=.ok (bp CR CP w.rows w.o)) (h1:f1 ρ=.ok (stD (lp w.fl (qAt w.qs j)))) (h2:f2 ρ=.ok (stD (lp w.fl (qAt w.qs i)))) :
  j4 CR CP "apart" (b8 CR CP CN n) (bj CR CP CN n) fo (a9 f1 (a9 f2 aJ)) ρ=.ok (.int (w.ap j i)):=by
 obtain ⟨ej,gj⟩:=hw.fAt hj
 obtain ⟨ei,gi⟩:=hw.fAt hi
 obtain ⟨r1,_⟩:=getR hw.rows gj.k0 gj.k1
 obtain ⟨r2,_⟩:=getA hw.rows gj.k0 gj.k1 gi.k0 gi.k1
 unfold Wo.f at *
 unfold j4
 rw [h0,au]
 rcases hw.o with ⟨ho,h⟩|⟨ho,h⟩
 ·have hs:(qAt w.qs j).2=(qAt w.qs i).2:=(h _ (jk hj)).trans (h _ (jk hi)).symm
  have hc:isC CR "apart" (bp CR CP w.rows w.o)=true:=by
   rw [ho]
   show ((CR==CR)&&(List.lookup ("apart":Str) [(("gaps":Str),aS w.rows)]).isNone)=true
   rw [lookA1];simp
  have hg:=A9 CR CP w.rows w.o (.inl ho)
  rw [if_pos hc]
  simp [h1,h2,b8,kE,hg,stD,lp,aS,r1,oV,r2,Wo.ap,apS,hs]
 ·have hc:isC CR "apart" (bp CR CP w.rows w.o)=false:=by
   rw [ho]
   show ((CP==CR)&&(List.lookup ("apart":Str) [(("gaps":Str),aS w.rows),(("beside":Str),aS w.r2)]).isNone)=false
   have:(CP==CR)=false:=by simp;exact fun z=>hne z.symm
   rw [this];rfl
  have hc2:isC CP "apart" (bp CR CP w.rows w.o)=true:=by
   rw [ho]
   show ((CP==CP)&&(List.lookup ("apart":Str) [(("gaps":Str),aS w.rows),(("beside":Str),aS w.r2)]).isNone)=true
   rw [lookA2];simp
  have hg:=A9 CR CP w.rows w.o (.inr ⟨_,ho⟩)
  have hb:tH [CP] "beside" (bp CR CP w.rows w.o)=.ok (aS w.r2):=by rw [ho];exact AN CR CP w.rows w.r2
  obtain ⟨r3,_⟩:=getR h gj.k0 gj.k1
  obtain ⟨r4,_⟩:=getA h gj.k0 gj.k1 gi.k0 gi.k1
  rw [if_neg (by rw [hc];simp),if_pos hc2]
  by_cases hs:(qAt w.qs j).2=(qAt w.qs i).2
  ·simp [h1,h2,bj,j0,hg,hb,stD,lp,aS,r1,oV,r2,Wo.ap,apS,hs]
  ·simp [h1,h2,bj,j0,hg,hb,stD,lp,aS,r3,oV,r4,Wo.ap,apS,hs]
theorem sj (n:Nat) {w:Wo} (hw:w.Good):fw CR CP CN n [.lst (w.fl.map flD),.lst (w.qs.map stD)]=.ok (.lst ((w.qs.map (lp w.fl)).map stD)):=by
 have hl:w.qs.length<=16777216:=by have:=hw.qsl;have:=hw.fll;omega
 have e:∀qs:List cK,(∀p∈qs,0<=p.1/\p.1<w.fl.length)->bY (.tp [0,1]) qP (fL jK (a9 (f2 ixD (f2 ixD (aa 2) (aa 0)) (fC (.int 0))) (a9 (aa 1) aJ))) [none,none,some (.lst (w.fl.map flD))] (qs.map stD)=.ok ((qs.map (lp w.fl)).map stD):=by
  intro qs
  induction qs with
  |nil=>intro _;rfl
  |cons p qs ih=>
   intro h
   obtain ⟨h0,h1⟩:=h p (by simp)
   obtain ⟨e,_⟩:=getFl h0 h1
   have ih:=ih fun q hq=>h q (by simp [hq])
   rw [List.map_cons,bY]
   simp [e,flD,ih,lp,stD,-List.map_map]
 simp [fw,oN,hl,e w.qs hw.qs,-List.map_map]
theorem getS {w:Wo} {i:Nat} (h:i<w.qs.length):ni ((w.qs.map (lp w.fl)).map stD) (i:Int)=.ok (stD (lp w.fl (qAt w.qs i))):=by
 rw [iX (by simpa using h)]
 simp [qAt,h]
noncomputable def Wo.gapL (w:Wo) (ts:List Int) (i:Nat):List Int:=(List.range i).map fun j=>tAt ts j+w.ap j i
theorem gap_ok (n:Nat) (hne:CR≠CP) {w:Wo} (hw:w.Good) (ts:List Int) {i:Nat} (hi:i<w.qs.length) (ht:i<=ts.length):iw CR CP CN n [bp CR CP w.rows w.o,.lst ((w.qs.map (lp w.fl)).map stD),.lst (ts.map .int),.int i]=.ok (.lst ((w.gapL ts i).map .int)):=by
 have hq:=hw.qsl
 have hf:=hw.fll
 have k1: -4611686018427387904<=(i:Int):=by omega
 have k2:(i:Int)<4611686018427387904:=by omega
 have hl:(bg 0 i).length<=16777216:=by rw [cE];omega
 have e:bY (.nm 0) qP (f2 lB (f2 ixD (aa 3) (aa 0)) (j4 CR CP "apart" (b8 CR CP CN n) (bj CR CP CN n) (aa 1) (a9 (f2 ixD (aa 2) (aa 0)) (a9 (f2 ixD (aa 2) (aa 4)) aJ)))) [none,some (bp CR CP w.rows w.o),some (.lst ((w.qs.map (lp w.fl)).map stD)),some (.lst (ts.map .int)),some (.int i)] (bg 0 i)=.ok ((w.gapL ts i).map .int):=by
  have:=jS (p:=.nm 0) (fe:=f2 lB (f2 ixD (aa 3) (aa 0)) (j4 CR CP "apart" (b8 CR CP CN n) (bj CR CP CN n) (aa 1) (a9 (f2 ixD (aa 2) (aa 0)) (a9 (f2 ixD (aa 2) (aa 4)) aJ)))) (ρ0:=[none,some (bp CR CP w.rows w.o),some (.lst ((w.qs.map (lp w.fl)).map stD)),some (.lst (ts.map .int)),some (.int i)]) (fun d=>match d with|.int j=>.int (tAt ts j.toNat+w.ap j.toNat i)|d=>d) (bg 0 i) (fun d hd=>by
   obtain ⟨j,hj⟩:=List.getElem?_of_mem hd
   obtain ⟨hj,rfl⟩:=fq hj
   refine ⟨[some (.int j),some (bp CR CP w.rows w.o),some (.lst ((w.qs.map (lp w.fl)).map stD)),some (.lst (ts.map .int)),some (.int i)],by simp,?_⟩
   have em:=zO CR CP CN n hne hw (j:=j) (i:=i) (by omega) hi (aa 1) (f2 ixD (aa 2) (aa 0)) (f2 ixD (aa 2) (aa 4)) [some (.int j),some (bp CR CP w.rows w.o),some (.lst ((w.qs.map (lp w.fl)).map stD)),some (.lst (ts.map .int)),some (.int i)] (by simp) (by simp [getS (w:=w) (i:=j) (by omega),-List.map_map]) (by simp [getS (w:=w) hi,-List.map_map])
   have et:=getT (ts:=ts) (i:=j) (by omega)
   rw [e_2,em]
   simp [et])
  rw [this,Wo.gapL]
  congr 1
  unfold bg
  rw [List.map_map,List.map_map]
  exact List.map_congr_left fun j _=>by simp
 simp [iw,nq,k1,k2,e,hl,-List.map_map]
end
theorem xq {p:Pat} {g:ak->M Flo} (P:Nat->ak->Prop) (R:Dat->Prop):∀(ds:List Dat) (k:Nat) (ρ:ak),P k ρ ->
  (∀(i:Nat) (d:Dat) (ρ:ak),ds[i]? =some d->P (k+i) ρ->∃ρ1,eY p d ρ=.ok ρ1/\((∃ρ2,g ρ1=.ok (.nx ρ2)/\P (k+i+1) ρ2)\/(∃r,g ρ1=.ok (.rt r)/\R r))) ->
  (∃ρ',iO p g ds ρ=.ok (.nx ρ')/\P (k+ds.length) ρ')\/(∃r,iO p g ds ρ=.ok (.rt r)/\R r)
 |[],k,ρ,h,_=>.inl ⟨ρ,rfl,h⟩
 |d::ds,k,ρ,h,st=>by
  obtain ⟨ρ1,e1,h1⟩:=st 0 d ρ rfl h
  rcases h1 with ⟨ρ2,e2,h2⟩|⟨r,e2,hr⟩
  ·have ih:=xq P R ds (k+1) ρ2 h2 fun i d' ρ he hp=>by
    have:=st (i+1) d' ρ (by simpa using he) (by rw [show k+(i+1)=k+1+i by omega];exact hp)
    rw [show k+(i+1)=k+1+i by omega] at this
    exact this
   have e:iO p g (d::ds) ρ=iO p g ds ρ2:=by rw [iO,e1];simp only [au,e2]
   rcases ih with ⟨ρ',e3,h3⟩|⟨r,e3,hr⟩
   ·exact .inl ⟨ρ',by rw [e];exact e3,by rw [show k+(d::ds).length=k+1+ds.length by simp;omega];exact h3⟩
   ·exact .inr ⟨r,by rw [e];exact e3,hr⟩
  ·exact .inr ⟨r,by rw [iO,e1];simp only [au,e2],hr⟩
theorem Ax {p:Pat} {ft:ak->M Bool} {fe:ak->M Dat} {ρ0:ak} (b:Nat->Bool) (f:Nat->Dat) (m:Nat) (h:∀j,j<m->∃ρ,eY p (.int j) ρ0=.ok ρ/\ft ρ=.ok (b j)/\(b j=true->fe ρ=.ok (f j))):bY p ft fe ρ0 (bg 0 m)=.ok (((List.range m).filter b).map f):=by
 have key:∀ks:List Nat,(∀j∈ks,j<m)->bY p ft fe ρ0 (ks.map fun j:Nat=>Dat.int (j:Int))=.ok ((ks.filter b).map f):=by
  intro ks
  induction ks with
  |nil=>intro _;rfl
  |cons j ks ih=>
   intro hk
   obtain ⟨ρ,e1,e2,e3⟩:=h j (hk j (by simp))
   have ih:=ih fun x hx=>hk x (by simp [hx])
   rw [List.map_cons,bY,e1,au,e2,au]
   by_cases hb:b j=true
   ·rw [if_pos hb,e3 hb,au,ih,au,List.filter_cons_of_pos hb]
    rfl
   ·rw [if_neg hb,ih,List.filter_cons_of_neg hb]
 have:=key (List.range m) fun j hj=>List.mem_range.mp hj
 rw [<- this]
 unfold bg
 congr 1
 exact List.map_congr_left fun j _=>by simp
section
variable (CR CP CN:Addr)
theorem getC {cs:List cK} {i:Nat} (h:i<cs.length):ni (cs.map stD) (i:Int)=.ok (.tup [.int (qAt cs i).1,.int (qAt cs i).2]):=getQ h
end
noncomputable def Wo.low (w:Wo) (ts:List Int) (i j:Nat):Int:=(List.range j).foldl (fun t l=>lA t (tAt ts l+w.ap l i)) (w.f i).first
theorem zP (a b:Int):a<=lA a b/\b<=lA a b/\(lA a b=a\/lA a b=b):=by unfold lA;split<;>omega
theorem Wo.nL (w:Wo) (ts:List Int) (i j:Nat):w.low ts i (j+1)=lA (w.low ts i j) (tAt ts j+w.ap j i):=by
 unfold Wo.low
 rw [List.range_succ,List.foldl_append]
 rfl
theorem Wo.uE (w:Wo) (ts:List Int) (i:Nat):∀j,(w.f i).first<=w.low ts i j
 |0=>Int.le_refl _
 |j+1=>by
  have:=w.uE ts i j
  have:=zP (w.low ts i j) (tAt ts j+w.ap j i)
  rw [w.nL]
  omega
theorem Wo.zS (w:Wo) (ts:List Int) (i:Nat):∀j l,l<j->tAt ts l+w.ap l i<=w.low ts i j
 |0,l,h=>by omega
 |j+1,l,h=>by
  have:=zP (w.low ts i j) (tAt ts j+w.ap j i)
  rw [w.nL]
  by_cases e:l=j
  ·subst e;omega
  ·have:=w.zS ts i j l (by omega)
   omega
theorem Wo.lN (w:Wo) {ts us:List Int} (i:Nat):∀j,(∀l,l<j->tAt ts l=tAt us l)->w.low ts i j=w.low us i j
 |0,_=>rfl
 |j+1,h=>by rw [w.nL,w.nL,w.lN i j fun l hl=>h l (by omega),h j (by omega)]
noncomputable def Wo.fK (w:Wo) (ts:List Int) (i:Nat):Prop:=lz w.cs (w.low ts i i) (tAt ts i)/\tAt ts i<=(w.f i).last
noncomputable def Wo.vk (w:Wo) (ts:List Int):Prop:=ts.length=w.qs.length/\∀i,i<w.qs.length->w.fK ts i
theorem vG {ts us:List Int} {i:Nat} (h:i<ts.length):tAt (ts++us) i=tAt ts i:=by
 unfold tAt
 rw [List.getD_eq_getElem?_getD,List.getD_eq_getElem?_getD,List.getElem?_append_left h]
theorem tAt_new (ts us:List Int) (t:Int):tAt (ts++t::us) ts.length=t:=by
 unfold tAt
 rw [List.getD_eq_getElem?_getD,List.getElem?_append_right (Nat.le_refl _)]
 simp
theorem Wo.fK.app {w:Wo} {ts us:List Int} {i:Nat} (h:w.fK ts i) (hi:i<ts.length):w.fK (ts++us) i:=by
 unfold Wo.fK at *
 rw [vG hi,w.lN (us:=ts) i i fun l hl=>vG (by omega)]
 exact h
theorem Wo.fK.keep {w:Wo} {ts:List Int} {i:Nat} (h:w.fK ts i):w.qu ts i:=by
 obtain ⟨⟨h1,h2,h3⟩,h4⟩:=h
 refine ⟨⟨Int.le_trans (w.uE ts i i) h1,h4,h2⟩,fun j hj=>Int.le_trans (w.zS ts i i j hj) h1⟩
theorem Wo.vk.keeps {w:Wo} {ts:List Int} (h:w.vk ts):w.Keeps ts:=fun i hi=>(h.2 i hi).keep
section
variable (CR CP CN:Addr)
theorem low_loop (n:Nat) {w:Wo} (hw:w.Good) (ts:List Int) (i:Nat) (hi:i<w.qs.length) (ht:ts.length=i) (z8:Option Dat):∃y8,iO (.nm 8) (fQ CR CP CN n) (bg 0 i) [some w.ruD,some (.lst (w.fl.map flD)),some (.lst (w.cs.map stD)),some (.lst (w.qs.map stD)),some (.lst (ts.map .int)),some (.int i),some (flD (w.f i)),some (.int (w.f i).first),z8]=.ok (.nx [some w.ruD,some (.lst (w.fl.map flD)),some (.lst (w.cs.map stD)),some (.lst (w.qs.map stD)),some (.lst (ts.map .int)),some (.int i),some (flD (w.f i)),some (.int (w.low ts i i)),y8]):=by
 obtain ⟨ρ',e,y8,rfl⟩:=eO (p:=.nm 8) (g:=fQ CR CP CN n)
  (fun j ρ=>∃(z8:Option Dat),ρ=[some w.ruD,some (.lst (w.fl.map flD)),some (.lst (w.cs.map stD)),some (.lst (w.qs.map stD)),some (.lst (ts.map .int)),some (.int i),some (flD (w.f i)),some (.int (w.low ts i j)),z8]) (bg 0 i) 0 _ ⟨z8,rfl⟩ (by
  rintro j d ρ hd ⟨z8,rfl⟩
  obtain ⟨hj,rfl⟩:=fq hd
  have ea:=xH CR CP CN n hw (j:=j) (i:=i) (by omega) hi
  have etj:=getT (ts:=ts) (i:=j) (by omega)
  have eqj:=getQ (qs:=w.qs) (i:=j) (by omega)
  have eqi:=getQ (qs:=w.qs) (i:=i) (by omega)
  refine ⟨_,by simp<;>rfl,[some w.ruD,some (.lst (w.fl.map flD)),some (.lst (w.cs.map stD)),some (.lst (w.qs.map stD)),some (.lst (ts.map .int)),some (.int i),some (flD (w.f i)),some (.int (w.low ts i (0+j+1))),some (.int j)],.inl ?_,_,rfl⟩
  rw [w.nL,Nat.zero_add]
  simp [fQ,ea,etj,eqj,eqi])
 rw [Nat.zero_add,cE] at e
 exact ⟨y8,e⟩
theorem least_ok (n:Nat) (hn:64<=n) {w:Wo} (hw:w.Good):(∃ts,w.vk ts/\cQ CR CP CN n [w.ruD,.lst (w.fl.map flD),.lst (w.cs.map stD),.lst (w.qs.map stD)]=.ok (.lst (ts.map .int)))\/(∃(i:Nat) (ts:List Int) (t:Int),i<w.qs.length/\ts.length=i/\(∀j,j<i->w.fK ts j)/\lz w.cs (w.low ts i i) t/\(w.f i).last<t/\cQ CR CP CN n [w.ruD,.lst (w.fl.map flD),.lst (w.cs.map stD),.lst (w.qs.map stD)]=.ok (.tup [.int (qAt w.qs i).1,.int t])):=by
 have hq:=hw.qsl
 have hf:=hw.fll
 have hc:=hw.csl
 have k1: -4611686018427387904<=(w.qs.length:Int):=by omega
 have k2:(w.qs.length:Int)<4611686018427387904:=by omega
 rcases xq (p:=.nm 5) (g:=fP CR CP CN n)
  (fun i ρ=>∃(ts:List Int) (z5 z6 z7 z8:Option Dat),ρ=[some w.ruD,some (.lst (w.fl.map flD)),some (.lst (w.cs.map stD)),some (.lst (w.qs.map stD)),some (.lst (ts.map .int)),z5,z6,z7,z8]/\ts.length=i/\∀j,j<i->w.fK ts j) (fun r=>∃(i:Nat) (ts:List Int) (t:Int),i<w.qs.length/\ts.length=i/\(∀j,j<i->w.fK ts j)/\lz w.cs (w.low ts i i) t/\(w.f i).last<t/\r=.tup [.int (qAt w.qs i).1,.int t]) (bg 0 w.qs.length) 0 [some w.ruD,some (.lst (w.fl.map flD)),some (.lst (w.cs.map stD)),some (.lst (w.qs.map stD)),some (.lst []),none,none,none,none] ⟨[],none,none,none,none,rfl,rfl,by simp⟩ (by
  rintro i d ρ hd ⟨ts,z5,z6,z7,z8,rfl,ht,hle⟩
  obtain ⟨hi,rfl⟩:=fq hd
  rw [Nat.zero_add] at ht hle
  refine ⟨[some w.ruD,some (.lst (w.fl.map flD)),some (.lst (w.cs.map stD)),some (.lst (w.qs.map stD)),some (.lst (ts.map .int)),some (.int i),z6,z7,z8],by simp,?_⟩
  have eq:=getC hi
  obtain ⟨ef,gf⟩:=hw.fAt hi
  obtain ⟨y8,el⟩:=low_loop CR CP CN n hw ts i hi ht z8
  obtain ⟨u,hu,eo⟩:=from_ok CR CP CN n w.cs (w.low ts i i) (by omega) hn
  have j1: -4611686018427387904<=(i:Int):=by omega
  have j2:(i:Int)<4611686018427387904:=by omega
  have hl:ts.length<16777216:=by omega
  by_cases hlt:(w.f i).last<u
  ·refine .inr ⟨.tup [.int (qAt w.qs i).1,.int u],?_,i,ts,u,hi,ht,hle,hu,hlt,rfl⟩
   simp only [flD] at ef el
   simp [fP,jw,eq,ef,j1,j2,el,eo,hlt]
  ·refine .inl ⟨[some w.ruD,some (.lst (w.fl.map flD)),some (.lst (w.cs.map stD)),some (.lst (w.qs.map stD)),some (.lst ((ts++[u]).map .int)),some (.int i),some (flD (w.f i)),some (.int u),y8],?_,ts++[u],_,_,_,_,rfl,by simp;omega,fun j hj=>?_⟩
   ·simp only [flD] at ef el ⊢
    simp [fP,jw,eq,ef,j1,j2,el,eo,hlt,hl]
   ·by_cases hji:j=i
    ·subst hji
     unfold Wo.fK
     rw [w.lN (us:=ts) j j fun l hl=>vG (by omega)]
     have:=tAt_new ts [] u
     rw [ht] at this
     rw [this]
     exact ⟨hu,by omega⟩
    ·exact (hle j (by omega)).app (by omega)) with ⟨ρ',e,ts,z5,z6,z7,z8,rfl,h1,h2⟩|⟨r,e,i,ts,t,h1,h2,h3,h4,h5,rfl⟩
 ·rw [Nat.zero_add,cE] at h1 h2
  exact .inl ⟨ts,⟨h1,h2⟩,by simp [cQ,iY,k1,k2,e]⟩
 ·exact .inr ⟨i,ts,t,h1,h2,h3,h4,h5,by simp [cQ,iY,k1,k2,e]⟩
end
noncomputable def rY (js:List cK):Prop:=js.Pairwise (fun p q=>p.2<q.1)/\∀p∈js,p.1<p.2
theorem xk (n:Nat):ixN (n+1) (-1)=some n:=by unfold ixN;simp<;>omega
@[simp] theorem getI_last (ds:List Dat) (d:Dat):ni (ds++[d]) (-1)=.ok d:=by
 unfold ni atI
 rw [List.length_append,List.length_singleton,xk]
 simp
noncomputable def l6 (js done:List cK):Prop:=rY js/\(∀t,Cov js t↔Cov done t)/\js.length<=done.length/\∀j∈js,∃d∈done,d.1=j.1
theorem l6.new {js done:List cK} {p:cK} (h:l6 js done) (hp:p.1<p.2) (hlt:∀x∈js,x.2<p.1):l6 (js++[p]) (done++[p]):=by
 obtain ⟨⟨h1,h2⟩,h3,h4,h5⟩:=h
 refine ⟨⟨?_,?_⟩,?_,by simp;exact h4,?_⟩
 ·rw [List.pairwise_append]
  exact ⟨h1,by simp,fun a ha b hb=>by simp at hb;subst hb;exact hlt a ha⟩
 ·intro x hx
  rcases List.mem_append.mp hx with e|e
  ·exact h2 x e
  ·simp at e;subst e;exact hp
 ·intro t;rw [jR,jR,h3]
 ·intro j hj
  rcases List.mem_append.mp hj with e|e
  ·obtain ⟨d,m,z⟩:=h5 j e;exact ⟨d,by simp [m],z⟩
  ·simp at e;subst e;exact ⟨j,by simp,rfl⟩
theorem l6.more {js0 done:List cK} {q p:cK} (h:l6 (js0++[q]) done) (hp:p.1<p.2) (h1:q.1<=p.1) (h2:p.1<=q.2):l6 (js0++[(q.1,lA p.2 q.2)]) (done++[p]):=by
 obtain ⟨⟨a1,a2⟩,a3,a4,a5⟩:=h
 have hq:q.1<q.2:=a2 q (by simp)
 have hm1:p.2<=lA p.2 q.2:=by unfold lA;split<;>omega
 have hm2:q.2<=lA p.2 q.2:=by unfold lA;split<;>omega
 have hm3:lA p.2 q.2=p.2\/lA p.2 q.2=q.2:=by unfold lA;split<;>omega
 rw [List.pairwise_append] at a1
 refine ⟨⟨?_,?_⟩,?_,by simp at a4 ⊢;omega,?_⟩
 ·rw [List.pairwise_append]
  exact ⟨a1.1,by simp,fun a ha b hb=>by simp at hb;subst hb;exact a1.2.2 a ha q (by simp)⟩
 ·intro x hx
  rcases List.mem_append.mp hx with e|e
  ·exact a2 x (by simp [e])
  ·simp at e;subst e;show q.1<lA p.2 q.2;omega
 ·intro t
  have:=a3 t
  rw [jR,wg] at this
  rw [jR,jR,<- this,wg,wg]
  show Cov js0 t\/q.1<=t/\t<lA p.2 q.2↔_
  constructor
  ·rintro (z|z)
   ·exact .inl (.inl z)
   ·by_cases e:t<q.2
    ·exact .inl (.inr ⟨z.1,e⟩)
    ·exact .inr (by omega)
  ·rintro ((z|z)|z)
   ·exact .inl z
   ·exact .inr (by omega)
   ·exact .inr (by omega)
 ·intro j hj
  rcases List.mem_append.mp hj with e|e
  ·obtain ⟨d,m,z⟩:=a5 j (by simp [e]);exact ⟨d,by simp [m],z⟩
  ·simp at e;subst e
   obtain ⟨d,m,z⟩:=a5 q (by simp)
   exact ⟨d,by simp [m],z⟩
theorem uN {g:ak->M Flo} {c:Option Dat} {t:Int} (r:cK->Dat) (hg:∀p:cK,g [c,some (.int t),some (.int p.1),some (.int p.2)]=if p.1<=t/\t<p.2 then .ok (.rt (r p)) else .ok (.nx [c,some (.int t),some (.int p.1),some (.int p.2)])) :
  ∀(js:List cK) (z1 z2:Option Dat),(∃p∈js,(p.1<=t/\t<p.2)/\iO (.tp [2,3]) g (js.map stD) [c,some (.int t),z1,z2]=.ok (.rt (r p)))\/(¬Cov js t/\∃z1' z2',iO (.tp [2,3]) g (js.map stD) [c,some (.int t),z1,z2]=.ok (.nx [c,some (.int t),z1',z2']))
 |[],z1,z2=>.inr ⟨qh t,z1,z2,rfl⟩
 |p::js,z1,z2=>by
  have hb:eY (.tp [2,3]) (stD p) [c,some (.int t),z1,z2]=.ok [c,some (.int t),some (.int p.1),some (.int p.2)]:=by simp [stD]
  by_cases h:p.1<=t/\t<p.2
  ·refine .inl ⟨p,by simp,h,?_⟩
   rw [List.map_cons,iO,hb,au,hg,if_pos h]
   rfl
  ·have e:iO (.tp [2,3]) g ((p::js).map stD) [c,some (.int t),z1,z2]=iO (.tp [2,3]) g (js.map stD) [c,some (.int t),some (.int p.1),some (.int p.2)]:=by
    rw [List.map_cons,iO,hb,au,hg,if_neg h]
    rfl
   rcases uN r hg js (some (.int p.1)) (some (.int p.2)) with ⟨q,hq,h2,h3⟩|⟨h2,h3⟩
   ·exact .inl ⟨q,by simp [hq],h2,by rw [e];exact h3⟩
   ·refine .inr ⟨fun z=>?_,by rw [e];exact h3⟩
    rcases nY.mp z with z|z
    ·exact h z
    ·exact h2 z
theorem rY.tri:∀{js:List cK},rY js->∀p∈js,∀q∈js,p=q\/p.2<q.1\/q.2<p.1
 |[],_,p,hp,_,_=>by simp at hp
 |a::js,⟨h1,h2⟩,p,hp,q,hq=>by
  rw [List.pairwise_cons] at h1
  rcases List.mem_cons.mp hp with e|e<;>rcases List.mem_cons.mp hq with e2|e2
  ·exact .inl (e.trans e2.symm)
  ·subst e;exact .inr (.inl (h1.1 q e2))
  ·subst e2;exact .inr (.inr (h1.1 p e))
  ·exact rY.tri (js:=js) ⟨h1.2,fun x hx=>h2 x (by simp [hx])⟩ p e q e2
theorem uI {g:ak->M Flo} {c:Option Dat} {t:Int} (hg:∀(p:cK) (f:Int),g [c,some (.int t),some (.int f),some (.int p.1),some (.int p.2)]=.ok (.nx [c,some (.int t),some (.int (if p.1<=t/\t<p.2 then p.1-1 else f)),some (.int p.1),some (.int p.2)])) :
  ∀(js:List cK) (f:Int) (z1 z2:Option Dat),∃f' z1' z2',iO (.tp [3,4]) g (js.map stD) [c,some (.int t),some (.int f),z1,z2]=.ok (.nx [c,some (.int t),some (.int f'),z1',z2'])/\((∃p∈js,(p.1<=t/\t<p.2)/\f'=p.1-1)\/(¬Cov js t/\f'=f))
 |[],f,z1,z2=>⟨f,z1,z2,rfl,.inr ⟨qh t,rfl⟩⟩
 |p::js,f,z1,z2=>by
  have hb:eY (.tp [3,4]) (stD p) [c,some (.int t),some (.int f),z1,z2]=.ok [c,some (.int t),some (.int f),some (.int p.1),some (.int p.2)]:=by simp [stD]
  obtain ⟨f',y1,y2,e,h⟩:=uI hg js (if p.1<=t/\t<p.2 then p.1-1 else f) (some (.int p.1)) (some (.int p.2))
  refine ⟨f',y1,y2,?_,?_⟩
  ·rw [List.map_cons,iO,hb,au,hg];exact e
  ·rcases h with ⟨q,hq,h1,h2⟩|⟨h1,h2⟩
   ·exact .inl ⟨q,by simp [hq],h1,h2⟩
   ·by_cases hp:p.1<=t/\t<p.2
    ·rw [if_pos hp] at h2
     exact .inl ⟨p,by simp,hp,h2⟩
    ·rw [if_neg hp] at h2
     exact .inr ⟨fun z=>(nY.mp z).elim hp h1,h2⟩
section
variable (CR CP CN:Addr)
theorem uJ (n:Nat) (cs:List cK) (hl:cs.length<64) (hs:∀p∈cs,p.1<p.2):∃js:List cK,aZ CR CP CN n [.lst (cs.map stD)]=.ok (.lst (js.map stD))/\rY js/\(∀t,Cov js t↔Cov cs t)/\js.length<=cs.length:=by
 obtain ⟨ss,e,hp,hw⟩:=u9 cs hl
 have hlen:ss.length=cs.length:=hp.length_eq
 have key:=eO (p:=.tp [2,3]) (g:=bB CR CP CN n)
  (fun k ρ=>∃js z1 z2,ρ=[some (.lst (cs.map stD)),some (.lst (js.map stD)),z1,z2]/\l6 js (ss.take k)) (ss.map stD) 0 [some (.lst (cs.map stD)),some (.lst []),none,none] ⟨[],none,none,rfl,⟨by simp [rY],fun t=>Iff.rfl,by simp,by simp⟩⟩ (by
  rintro i d ρ hd ⟨js,z1,z2,rfl,hj⟩
  rw [List.getElem?_map] at hd
  obtain ⟨p,hpi,rfl⟩:=Option.map_eq_some_iff.mp hd
  obtain ⟨hi,hpe⟩:=List.getElem?_eq_some_iff.mp hpi
  have htk:ss.take (0+i+1)=ss.take (0+i)++[p]:=by rw [Nat.zero_add,List.take_succ,hpi];rfl
  have hpp:p.1<p.2:=hs p (hp.mem_iff.mp (List.mem_of_getElem? hpi))
  have hstart:∀j∈js,j.1<=p.1:=fun j hjm=>by
   obtain ⟨d,dm,de⟩:=hj.2.2.2 j hjm
   rw [Nat.zero_add] at dm
   obtain ⟨m,hm,hme⟩:=List.mem_take_iff_getElem.mp dm
   have:=List.pairwise_iff_getElem.mp hw m i (by omega) hi (by omega)
   rw [hme,hpe] at this
   omega
  have hjl:js.length<64:=by
   have:=hj.2.2.1
   rw [List.length_take] at this
   omega
  refine ⟨_,by simp [stD];rfl,?_⟩
  rw [htk]
  rcases List.eq_nil_or_concat js with e0|⟨js0,q,e0⟩
  ·subst e0
   refine ⟨_,.inl (by simp [bB,bZ];rfl),[p],some (.int p.1),some (.int p.2),by simp [stD],by simpa using hj.new hpp (by simp)⟩
  ·rw [List.concat_eq_append] at e0
   subst e0
   by_cases hc:p.1<=q.2
   ·refine ⟨_,.inl (by simp [bB,bZ,stD,hc,md,oX,xk];rfl),js0++[(q.1,lA p.2 q.2)],some (.int p.1),some (.int p.2),?_,hj.more hpp (hstart q (by simp)) hc⟩
    simp [stD]
   ·have hlt:∀x∈js0++[q],x.2<p.1:=fun x hx=>by
     rcases List.mem_append.mp hx with e|e
     ·have h1:=(List.pairwise_append.mp hj.1.1).2.2 x e q (by simp)
      have h2:=hj.1.2 q (by simp)
      omega
     ·simp at e;subst e;omega
    simp at hjl
    have hjl2:js0.length+1<16777216:=by omega
    refine ⟨_,.inl (by simp [bB,bZ,stD,hc,hjl2];rfl),js0++[q]++[p],some (.int p.1),some (.int p.2),by simp [stD],hj.new hpp hlt⟩)
 obtain ⟨ρ',e2,js,z1,z2,rfl,hj⟩:=key
 refine ⟨js,?_,hj.1,fun t=>?_,?_⟩
 ·simp [aZ,eK,e,e2]
 ·rw [hj.2.1 t,Nat.zero_add,List.length_map,List.take_length]
  exact cov_perm hp
 ·have:=hj.2.2.1
  rw [List.length_take,List.length_map] at this
  omega
theorem next_ok (n:Nat) (cs:List cK) (t:Int) (hl:cs.length<64) (hs:∀p∈cs,p.1<p.2):∃u,fy CR CP CN n [.lst (cs.map stD),.int t]=.ok (.int u)/\lz cs t u:=by
 obtain ⟨js,e,hj,hc,_⟩:=uJ CR CP CN n cs hl hs
 rcases uN (g:=kN CR CP CN n) (c:=some (.lst (cs.map stD))) (t:=t) (fun p=>.int p.2) (fun p=>by by_cases h1:p.1<=t<;>by_cases h2:t<p.2<;>simp [kN,o5,h1,h2]) js none none with ⟨p,hp,h,e2⟩|⟨h,z1,z2,e2⟩
 ·refine ⟨p.2,by simp [fy,ky,e,e2],by omega,fun z=>?_,fun v h1 h2=>(hc v).mp ⟨p,hp,by omega,h2⟩⟩
  obtain ⟨q,hq,h3⟩:=(hc _).mpr z
  rcases hj.tri p hp q hq with e|e|e
  ·subst e;omega
  ·omega
  ·have:=hj.2 p hp;omega
 ·exact ⟨t,by simp [fy,ky,e,e2],Int.le_refl _,fun z=>h ((hc t).mpr z),fun v h1 h2=>by omega⟩
end
section
variable (CR CP CN:Addr)
theorem last_ok (n:Nat) (cs:List cK) (t:Int) (hl:cs.length<64) (hs:∀p∈cs,p.1<p.2):∃u,iu CR CP CN n [.lst (cs.map stD),.int t]=.ok (if 0<=u then .int u else .non)/\oi cs t u:=by
 obtain ⟨js,e,hj,hc,_⟩:=uJ CR CP CN n cs hl hs
 obtain ⟨f',z1,z2,e2,h⟩:=uI (g:=kQ CR CP CN n) (c:=some (.lst (cs.map stD))) (t:=t) (fun p f=>by by_cases h1:p.1<=t<;>by_cases h2:t<p.2<;>simp [kQ,o6,h1,h2]) js t none none
 refine ⟨f',?_,?_⟩
 ·by_cases h0:0<=f'<;>simp [iu,nk,e,e2,h0]
 ·rcases h with ⟨p,hp,h1,h2⟩|⟨h1,h2⟩
  ·subst h2
   refine ⟨by omega,fun z=>?_,fun v h3 h4=>(hc v).mp ⟨p,hp,by omega,by omega⟩⟩
   obtain ⟨q,hq,h3⟩:=(hc _).mpr z
   rcases hj.tri p hp q hq with e|e|e
   ·subst e;omega
   ·have:=hj.2 p hp;omega
   ·omega
  ·subst h2
   exact ⟨Int.le_refl _,fun z=>h1 ((hc _).mpr z),fun v h3 h4=>by omega⟩
end
theorem Wo.low_gapL (w:Wo) (ts:List Int) (i:Nat):(w.gapL ts i).foldl lA (w.f i).first=w.low ts i i:=by
 unfold Wo.gapL Wo.low
 rw [List.foldl_map]
theorem x9 {ts:List Int} {m i:Nat} (h:i<m):tAt (ts.take m) i=tAt ts i:=by
 unfold tAt
 rw [List.getD_eq_getElem?_getD,List.getD_eq_getElem?_getD,List.getElem?_take_of_lt h]
theorem u4 {ts:List Int} {i:Nat} (h:i<ts.length):ts.take (i+1)=ts.take i++[tAt ts i]:=by
 rw [List.take_add_one,List.getElem?_eq_getElem h]
 simp [tAt,h]
theorem xr {p:Pat} {g:ak->M Flo} (x:Err) (P:Nat->ak->Prop):∀(ds:List Dat) (k m:Nat) (ρ:ak),P k ρ->m<ds.length ->
  (∀(i:Nat) (d:Dat) (ρ:ak),i<m->ds[i]? =some d->P (k+i) ρ->∃ρ1,eY p d ρ=.ok ρ1/\∃ρ2,g ρ1=.ok (.nx ρ2)/\P (k+i+1) ρ2) ->
  (∀(d:Dat) (ρ:ak),ds[m]? =some d->P (k+m) ρ->∃ρ1,eY p d ρ=.ok ρ1/\g ρ1=.error x)->iO p g ds ρ=.error x
 |[],_,_,_,_,h,_,_=>by simp at h
 |d::ds,k,0,ρ,h,_,_,er=>by
  obtain ⟨ρ1,e1,e2⟩:=er d ρ rfl h
  rw [iO,e1,au,e2]
  rfl
 |d::ds,k,m+1,ρ,h,hm,st,er=>by
  obtain ⟨ρ1,e1,ρ2,e2,h2⟩:=st 0 d ρ (by omega) rfl h
  have ih:=xr (p:=p) (g:=g) x P ds (k+1) m ρ2 h2 (by simpa using hm) (fun i d' ρ hi he hp=>by
   have:=st (i+1) d' ρ (by omega) (by simpa using he) (by rw [show k+(i+1)=k+1+i by omega];exact hp)
   rw [show k+(i+1)+1=k+1+i+1 by omega] at this
   exact this) (fun d' ρ he hp=>er d' ρ (by simpa using he) (by rw [show k+(m+1)=k+1+m by omega];exact hp))
  rw [iO,e1,au,e2]
  exact ih
section
variable (CR CP CN:Addr)
theorem oy (n:Nat) (hne:CR≠CP) {w:Wo} (hw:w.Good) (tk:List Int) {i:Nat} (hi:i<w.qs.length) (htk:tk.length=i) {u:Int} (hu:lz w.cs (w.low tk i i) u) (z8 z9:Option Dat) :
  ee CR CP CN n [some (bp CR CP w.rows w.o),some (.lst (w.fl.map flD)),some (.lst (w.cs.map stD)),some (.lst (w.qs.map stD)),some (.lst ((w.qs.map (lp w.fl)).map stD)),some (.lst (tk.map .int)),some (.int i),some (.tup [.int (qAt w.qs i).1,.int (qAt w.qs i).2]),z8,z9] =
   if (w.f i).last<u then .error (.exc CN [("flight",.int (qAt w.qs i).1),("time",.int u)]) else .ok (.nx [some (bp CR CP w.rows w.o),some (.lst (w.fl.map flD)),some (.lst (w.cs.map stD)),some (.lst (w.qs.map stD)),some (.lst ((w.qs.map (lp w.fl)).map stD)),some (.lst ((tk++[u]).map .int)),some (.int i),some (.tup [.int (qAt w.qs i).1,.int (qAt w.qs i).2]),some (flD (w.f i)),some (.int u)]):=by
 have hq:=hw.qsl
 have hf:=hw.fll
 have hc:=hw.csl
 obtain ⟨ef,gf⟩:=hw.fAt hi
 have eg:=gap_ok CR CP CN n hne hw tk hi (by omega)
 have hgl:(w.gapL tk i).length=i:=by simp [Wo.gapL]
 have eM:maxD [.lst (.int (w.f i).first::(w.gapL tk i).map .int)]=.ok (.int (w.low tk i i)):=by
  show (dj (((w.f i).first::w.gapL tk i).map .int)).bind maxL=_
  rw [nP,au,maxL,w.low_gapL]
 obtain ⟨u',eu,hu'⟩:=next_ok CR CP CN n w.cs (w.low tk i i) (by omega) hw.cs
 have hut:=hu'.uniq hu
 subst hut
 have c1:1+i<=16777216:=by omega
 have c2:i<16777216:=by omega
 by_cases hlt:(w.f i).last<u'
 ·rw [if_pos hlt]
  simp only [flD] at ef ⊢
  simp [ee,mv,ef,eg,hgl,lB,c1,eM,eu,hlt,htk,c2,-e_maxL,-List.map_map]
 ·rw [if_neg hlt]
  simp only [flD] at ef ⊢
  simp [ee,mv,ef,eg,hgl,lB,c1,eM,eu,hlt,htk,c2,-e_maxL,-List.map_map]
theorem wc {qs:List cK} {i:Nat} {d:Dat} (hd:(jO 0 (qs.map stD))[i]? =some d):i<qs.length/\d=.tup [.int i,.tup [.int (qAt qs i).1,.int (qAt qs i).2]]:=by
 obtain ⟨e,h1,rfl⟩:=mj _ _ _ _ hd
 have hi:i<qs.length:=by simpa using (List.getElem?_eq_some_iff.mp h1).1
 refine ⟨hi,?_⟩
 rw [List.getElem?_map,List.getElem?_eq_getElem hi] at h1
 simp at h1
 rw [<- h1];simp [qAt,hi,stD]
theorem x5 (n:Nat) (hne:CR≠CP) {w:Wo} (hw:w.Good) {ts:List Int} (hl:w.vk ts):d9 CR CP CN n [bp CR CP w.rows w.o,.lst (w.fl.map flD),.lst (w.cs.map stD),.lst (w.qs.map stD)]=.ok (.lst (ts.map .int)):=by
 have hq:=hw.qsl
 have hf:=hw.fll
 have es:=sj CR CP CN n hw
 have htl:=hl.1
 obtain ⟨ρ',e,z6,z7,z8,z9,rfl⟩:=eO (p:=.tp [6,7]) (g:=ee CR CP CN n)
  (fun i ρ=>∃(z6 z7 z8 z9:Option Dat),ρ=[some (bp CR CP w.rows w.o),some (.lst (w.fl.map flD)),some (.lst (w.cs.map stD)),some (.lst (w.qs.map stD)),some (.lst ((w.qs.map (lp w.fl)).map stD)),some (.lst ((ts.take i).map .int)),z6,z7,z8,z9]) (jO 0 (w.qs.map stD)) 0 [some (bp CR CP w.rows w.o),some (.lst (w.fl.map flD)),some (.lst (w.cs.map stD)),some (.lst (w.qs.map stD)),some (.lst ((w.qs.map (lp w.fl)).map stD)),some (.lst []),none,none,none,none] ⟨none,none,none,none,rfl⟩ (by
  rintro i d ρ hd ⟨z6,z7,z8,z9,rfl⟩
  obtain ⟨hi,rfl⟩:=wc hd
  obtain ⟨hn,hlast⟩:=hl.2 i hi
  have e:=oy CR CP CN n hne hw (ts.take i) hi (by rw [List.length_take];omega) (u:=tAt ts i) (by rw [w.lN (us:=ts) i i fun l hl=>x9 hl];exact hn) z8 z9
  rw [if_neg (by omega)] at e
  rw [Nat.zero_add,u4 (by omega)]
  exact ⟨_,by simp<;>rfl,_,.inl e,_,_,_,_,rfl⟩)
 rw [Nat.zero_add,gK,List.length_map,<- htl,List.take_length] at e
 simp [d9,mD,es,e,-List.map_map]
theorem yO (n:Nat) (hne:CR≠CP) {w:Wo} (hw:w.Good) {ts:List Int} {i:Nat} {t:Int} (hi:i<w.qs.length) (ht:ts.length=i) (hle:∀j,j<i->w.fK ts j) (hn:lz w.cs (w.low ts i i) t) (hlt:(w.f i).last<t) :
  d9 CR CP CN n [bp CR CP w.rows w.o,.lst (w.fl.map flD),.lst (w.cs.map stD),.lst (w.qs.map stD)]=.error (.exc CN [("flight",.int (qAt w.qs i).1),("time",.int t)]):=by
 have hq:=hw.qsl
 have hf:=hw.fll
 have es:=sj CR CP CN n hw
 have e:=xr (p:=.tp [6,7]) (g:=ee CR CP CN n) (.exc CN [("flight",.int (qAt w.qs i).1),("time",.int t)])
  (fun i ρ=>∃(z6 z7 z8 z9:Option Dat),ρ=[some (bp CR CP w.rows w.o),some (.lst (w.fl.map flD)),some (.lst (w.cs.map stD)),some (.lst (w.qs.map stD)),some (.lst ((w.qs.map (lp w.fl)).map stD)),some (.lst ((ts.take i).map .int)),z6,z7,z8,z9]) (jO 0 (w.qs.map stD)) 0 i [some (bp CR CP w.rows w.o),some (.lst (w.fl.map flD)),some (.lst (w.cs.map stD)),some (.lst (w.qs.map stD)),some (.lst ((w.qs.map (lp w.fl)).map stD)),some (.lst []),none,none,none,none] ⟨none,none,none,none,rfl⟩ (by rw [gK,List.length_map];exact hi) (by
  rintro j d ρ hj hd ⟨z6,z7,z8,z9,rfl⟩
  obtain ⟨hjq,rfl⟩:=wc hd
  obtain ⟨hn,hlast⟩:=hle j hj
  have e:=oy CR CP CN n hne hw (ts.take j) hjq (by rw [List.length_take];omega) (u:=tAt ts j) (by rw [w.lN (us:=ts) j j fun l hl=>x9 hl];exact hn) z8 z9
  rw [if_neg (by omega)] at e
  rw [Nat.zero_add,u4 (by omega)]
  exact ⟨_,by simp<;>rfl,_,e,_,_,_,_,rfl⟩) (by
  rintro d ρ hd ⟨z6,z7,z8,z9,rfl⟩
  obtain ⟨_,rfl⟩:=wc hd
  have e:=oy CR CP CN n hne hw ts hi ht hn z8 z9
  rw [if_pos hlt] at e
  rw [Nat.zero_add,<- ht,List.take_length]
  rw [ht]
  exact ⟨_,by simp<;>rfl,e⟩)
 simp [d9,mD,es,e,-List.map_map]
end
section
variable (CR CP CN:Addr)
theorem world_ok (n:Nat) (hn:64<=n) (ns:List Int) (most:Nat) (hm:most<=40):∃(s:Int) (w:Wo),w.Good/\1<=s/\s<=100000/\w.fl.length<=most/\bP CR CP CN n [.lst (ns.map .int)]=.ok (.int s)/\bH CR CP CN n [.lst (ns.map .int),.int s]=.ok w.ruD/\cP CR CP CN n [w.ruD]=.ok (bp CR CP w.rows w.o)/\cF CR CP CN n [.lst (ns.map .int),w.ruD,.int most,.int s]=.ok (.lst (w.fl.map flD))/\da CR CP CN n [.lst (ns.map .int),.int s]=.ok (.lst (w.cs.map stD))/\fD CR CP CN n [.lst (ns.map .int),w.ruD,.lst (w.fl.map flD)]=.ok (.lst (w.qs.map stD))/\(∀p∈w.cs,0<=p.1)/\(w.qs.map (·.1)).Perm ((List.range w.fl.length).map fun k:Nat=>(k:Int)):=by
 obtain ⟨s,es,hs0,hs1⟩:=scale_ok CR CP CN n ns
 obtain ⟨k,rows,o,hk1,hk6,hr,ho,er⟩:=rules_ok CR CP CN n ns s hs0 hs1
 have em:=made_ok CR CP CN n k rows o hk1 hk6 hr ho
 obtain ⟨fl,hfl1,hfl2,ef⟩:=yi CR CP CN n ns k rows o most s hr.1 hk1 hm hs0 hs1
 obtain ⟨cs,hc1,hc2,ec⟩:=Ay CR CP CN n ns s hs0 hs1
 obtain ⟨qs,hq1,hq2,hq3,eq⟩:=plan_ok CR CP CN n ns rows o fl (by omega) (by omega)
 have hql:qs.length=fl.length:=by have:=hq1.length_eq;simpa using this
 have hqb:∀p∈qs,0<=p.1/\p.1<fl.length:=fun p hp=>by
  have:p.1∈qs.map (·.1):=List.mem_map_of_mem hp
  have:=hq1.mem_iff.mp this
  obtain ⟨j,hj,e⟩:=List.mem_map.mp this
  have:=List.mem_range.mp hj
  omega
 obtain ⟨r2,hor⟩:∃r2,(o=.non/\∀p∈qs,p.2=0)\/(o=aS r2/\f9 k r2):=by
  rcases ho with h|⟨r2,h1,h2⟩
  ·exact ⟨[],.inl ⟨h,hq3 h⟩⟩
  ·exact ⟨r2,.inr ⟨h2,h1⟩⟩
 exact ⟨s,⟨k,rows,r2,o,fl,cs,qs⟩,⟨hk1,hk6,hr,hor,hfl2,by show fl.length<=60;omega,fun p hp=>(hc2 p hp).2,hc1,hqb,hql⟩,hs0,hs1,hfl1,es,er,em,ef,ec,eq,fun p hp=>(hc2 p hp).1,hq1⟩
end
theorem sU (a b:Int):jm a b<=a/\jm a b<=b/\(jm a b=a\/jm a b=b):=by unfold jm;split<;>omega
noncomputable def Wo.high (w:Wo) (ls:List Int) (i j:Nat):Int:=(List.range j).foldl (fun t l=>jm t (tAt ls (i+1+l)-w.ap i (i+1+l))) (w.f i).last
theorem Wo.jM (w:Wo) (ls:List Int) (i j:Nat):w.high ls i (j+1)=jm (w.high ls i j) (tAt ls (i+1+j)-w.ap i (i+1+j)):=by
 unfold Wo.high
 rw [List.range_succ,List.foldl_append]
 rfl
theorem Wo.uK (w:Wo) (ls:List Int) (i:Nat):∀j,w.high ls i j<=(w.f i).last
 |0=>Int.le_refl _
 |j+1=>by
  have:=w.uK ls i j
  have:=sU (w.high ls i j) (tAt ls (i+1+j)-w.ap i (i+1+j))
  rw [w.jM]
  omega
theorem Wo.xo (w:Wo) (ls:List Int) (i:Nat):∀j l,l<j->w.high ls i j<=tAt ls (i+1+l)-w.ap i (i+1+l)
 |0,l,h=>by omega
 |j+1,l,h=>by
  have:=sU (w.high ls i j) (tAt ls (i+1+j)-w.ap i (i+1+j))
  rw [w.jM]
  by_cases e:l=j
  ·subst e;omega
  ·have:=w.xo ls i j l (by omega)
   omega
theorem Wo.zV (w:Wo) (ls:List Int) (i:Nat) (t:Int) (h0:t<=(w.f i).last):∀j,(∀l,l<j->t<=tAt ls (i+1+l)-w.ap i (i+1+l))->t<=w.high ls i j
 |0,_=>h0
 |j+1,h=>by
  have:=sU (w.high ls i j) (tAt ls (i+1+j)-w.ap i (i+1+j))
  have:=w.zV ls i t h0 j fun l hl=>h l (by omega)
  have:=h j (by omega)
  rw [w.jM]
  omega
theorem Wo.rF (w:Wo) {ls us:List Int} (i:Nat):∀j,(∀l,l<j->tAt ls (i+1+l)=tAt us (i+1+l))->w.high ls i j=w.high us i j
 |0,_=>rfl
 |j+1,h=>by rw [w.jM,w.jM,w.rF i j fun l hl=>h l (by omega),h j (by omega)]
noncomputable def Wo.up (w:Wo) (ls:List Int) (i:Nat):Int:=w.high ls i (w.qs.length-(i+1))
noncomputable def Wo.f7 (w:Wo) (ls:List Int) (i:Nat):Prop:=oi w.cs (w.up ls i) (tAt ls i)
noncomputable def Wo.qt (w:Wo) (ts ls:List Int):Prop:=ls.length=w.qs.length/\∀i,i<w.qs.length->w.f7 ls i/\tAt ts i<=tAt ls i
theorem oi.ge {cs:List cK} {t u v:Int} (h:oi cs t u) (hv:v<=t) (hn:¬Cov cs v):v<=u:=Classical.byContradiction fun z=>hn (h.2.2 v (by omega) hv)
theorem Wo.up_gap (w:Wo) (ls:List Int) {i j:Nat} (h:i<j) (hj:j<w.qs.length):w.up ls i<=tAt ls j-w.ap i j:=by
 have:=w.xo ls i (w.qs.length-(i+1)) (j-(i+1)) (by omega)
 rwa [show i+1+(j-(i+1))=j by omega] at this
theorem Wo.le_up (w:Wo) (ls:List Int) (i:Nat) (t:Int) (h0:t<=(w.f i).last) (h:∀j,i<j->j<w.qs.length->t<=tAt ls j-w.ap i j):t<=w.up ls i:=w.zV ls i t h0 _ fun l hl=>h (i+1+l) (by omega) (by omega)
theorem Wo.nC (w:Wo) {ls us:List Int} (i:Nat) (h:∀j,i<j->j<w.qs.length->tAt ls j=tAt us j):w.up ls i=w.up us i:=w.rF i _ fun l hl=>h (i+1+l) (by omega) (by omega)
theorem Wo.qt.keeps {w:Wo} {ts ls:List Int} (hk:w.Keeps ts) (h:w.qt ts ls):w.Keeps ls:=fun i hi=>by
 obtain ⟨h1,h2⟩:=h.2 i hi
 have a1:=(hk i hi).1.1
 have a2:=w.uK ls i (w.qs.length-(i+1))
 have a3:=h1.1
 unfold Wo.up at a3
 refine ⟨⟨by omega,by omega,h1.2.1⟩,fun j hj=>?_⟩
 have b1:=(h.2 j (by omega)).1.1
 have b2:=w.up_gap ls hj hi
 omega
theorem Wo.qt.ge {w:Wo} {ts ls us:List Int} (h:w.qt ts ls) (hu:w.Keeps us):∀(m i:Nat),w.qs.length<=i+m->i<w.qs.length->tAt us i<=tAt ls i
 |0,i,h1,h2=>by omega
 |m+1,i,h1,h2=>by
  obtain ⟨k1,k2⟩:=hu i h2
  refine (h.2 i h2).1.ge (w.le_up ls i _ k1.2.1 fun j hj hjl=>?_) k1.2.2
  have a1:=(hu j hjl).2 i hj
  have a2:=Wo.qt.ge h hu m j (by omega) hjl
  omega
theorem jY {ts:List Int} {i j:Nat} {x:Int} (hi:i<ts.length):tAt (ts.set i x) j=if j=i then x else tAt ts j:=by
 unfold tAt
 rw [List.getD_eq_getElem?_getD,List.getD_eq_getElem?_getD,List.getElem?_set]
 by_cases h:j=i
 ·subst h;simp [hi]
 ·rw [if_neg (fun z=>h z.symm),if_neg h]
section
variable (CR CP CN:Addr)
theorem zW (n:Nat) (hne:CR≠CP) {w:Wo} (hw:w.Good) {ts:List Int} (hl:w.vk ts):∃ls,w.qt ts ls/\ir CR CP CN n [bp CR CP w.rows w.o,.lst (w.fl.map flD),.lst (w.cs.map stD),.lst (w.qs.map stD)]=.ok (.lst (ls.map .int)):=by
 have hq:=hw.qsl
 have hf:=hw.fll
 have hc:=hw.csl
 have es:=sj CR CP CN n hw
 have et:=x5 CR CP CN n hne hw hl
 have htl:=hl.1
 have hk:=hl.keeps
 have hdl:(mm ((w.qs.length:Int)-1) w.qs.length).length=w.qs.length:=by simp [mm]
 obtain ⟨ρ',e,ls,z7,z8,rfl,h1,h2,h3⟩:=eO (p:=.nm 7) (g:=kO CR CP CN n)
  (fun k ρ=>∃(ls:List Int) (z7 z8:Option Dat),ρ=[some (bp CR CP w.rows w.o),some (.lst (w.fl.map flD)),some (.lst (w.cs.map stD)),some (.lst (w.qs.map stD)),some (.lst (ls.map .int)),some (.lst ((w.qs.map (lp w.fl)).map stD)),some (.int w.qs.length),z7,z8]/\ls.length=w.qs.length/\(∀i,i+k<w.qs.length->tAt ls i=tAt ts i)/\(∀i,w.qs.length<=i+k->i<w.qs.length->w.f7 ls i/\tAt ts i<=tAt ls i)) (mm ((w.qs.length:Int)-1) w.qs.length) 0 [some (bp CR CP w.rows w.o),some (.lst (w.fl.map flD)),some (.lst (w.cs.map stD)),some (.lst (w.qs.map stD)),some (.lst (ts.map .int)),some (.lst ((w.qs.map (lp w.fl)).map stD)),some (.int w.qs.length),none,none] ⟨ts,none,none,rfl,htl,fun _ _=>rfl,fun i a b=>by omega⟩ (by
  rintro k d ρ hd ⟨ls,z7,z8,rfl,hll,hlo,hhi⟩
  have hkm:k<w.qs.length:=by rw [<- hdl];exact (List.getElem?_eq_some_iff.mp hd).1
  obtain ⟨p,hp⟩:∃p:Nat,p+k+1=w.qs.length:=⟨w.qs.length-1-k,by omega⟩
  have hde:d=.int (p:Int):=by
   unfold mm at hd
   rw [List.getElem?_map,List.getElem?_range hkm] at hd
   simp at hd
   rw [<- hd]
   congr 1
   omega
  subst hde
  rw [Nat.zero_add] at hlo hhi ⊢
  have hpq:p<w.qs.length:=by omega
  have eq:=getC hpq
  obtain ⟨ef,gf⟩:=hw.fAt hpq
  have ecomp:bY (.nm 0) qP (f2 yU (f2 ixD (aa 2) (aa 0)) (j4 CR CP "apart" (b8 CR CP CN n) (bj CR CP CN n) (aa 1) (a9 (f2 ixD (aa 3) (aa 4)) (a9 (f2 ixD (aa 3) (aa 0)) aJ)))) [none,some (bp CR CP w.rows w.o),some (.lst (ls.map .int)),some (.lst ((w.qs.map (lp w.fl)).map stD)),some (.int p)] (bg ((p:Int)+1) k)=.ok (((List.range k).map fun l=>tAt ls (p+1+l)-w.ap p (p+1+l)).map .int):=by
   have:=jS (p:=.nm 0) (fe:=f2 yU (f2 ixD (aa 2) (aa 0)) (j4 CR CP "apart" (b8 CR CP CN n) (bj CR CP CN n) (aa 1) (a9 (f2 ixD (aa 3) (aa 4)) (a9 (f2 ixD (aa 3) (aa 0)) aJ)))) (ρ0:=[none,some (bp CR CP w.rows w.o),some (.lst (ls.map .int)),some (.lst ((w.qs.map (lp w.fl)).map stD)),some (.int p)]) (fun d=>match d with|.int j=>.int (tAt ls j.toNat-w.ap p j.toNat)|d=>d) (bg ((p:Int)+1) k) (fun d hd=>by
    obtain ⟨l,hl⟩:=List.getElem?_of_mem hd
    obtain ⟨hl,rfl⟩:=oB hl
    have hz:(p:Int)+1+(l:Int)=((p+1+l:Nat):Int):=by omega
    rw [hz]
    refine ⟨[some (.int ((p+1+l:Nat):Int)),some (bp CR CP w.rows w.o),some (.lst (ls.map .int)),some (.lst ((w.qs.map (lp w.fl)).map stD)),some (.int p)],by simp,?_⟩
    have em:=zO CR CP CN n hne hw (j:=p) (i:=p+1+l) hpq (by omega) (aa 1) (f2 ixD (aa 3) (aa 4)) (f2 ixD (aa 3) (aa 0)) [some (.int ((p+1+l:Nat):Int)),some (bp CR CP w.rows w.o),some (.lst (ls.map .int)),some (.lst ((w.qs.map (lp w.fl)).map stD)),some (.int p)] (by simp) (by simp only [e_2,Ah,Ai,au,e_ixL];exact getS hpq) (by simp only [e_2,Ah,Ai,au,e_ixL];exact getS (by omega))
    have et:=getT (ts:=ls) (i:=p+1+l) (by omega)
    rw [e_2,em]
    simp only [e_2,Ah,Ai,au,e_ixL,et,e_subI]
    rfl)
   rw [this]
   congr 1
   unfold bg
   rw [List.map_map,List.map_map]
   refine List.map_congr_left fun l _=>?_
   show Dat.int _=Dat.int _
   rw [show ((p:Int)+1+(l:Int)).toNat=p+1+l by omega]
  have hup:((List.range k).map fun l=>tAt ls (p+1+l)-w.ap p (p+1+l)).foldl jm (w.f p).last=w.up ls p:=by
   unfold Wo.up Wo.high
   rw [List.foldl_map,show w.qs.length-(p+1)=k by omega]
  generalize hbh:((List.range k).map fun l=>tAt ls (p+1+l)-w.ap p (p+1+l))=bh at ecomp hup
  have hbl:bh.length=k:=by rw [<- hbh];simp
  have eM:minD [.lst (.int (w.f p).last::bh.map .int)]=.ok (.int (w.up ls p)):=by
   show (dj (((w.f p).last::bh).map .int)).bind minL=_
   rw [nP,au,minL,hup]
  obtain ⟨u,eu,hu⟩:=last_ok CR CP CN n w.cs (w.up ls p) (by omega) hw.cs
  have hkp:=hk p hpq
  have hge:tAt ts p<=u:=hu.ge (w.le_up ls p _ hkp.1.2.1 fun j hj hjl=>by
   have a1:=(hk j hjl).2 p hj
   have a2:=(hhi j (by omega) hjl).2
   omega) hkp.1.2.2
  have hu0:0<=u:=by
   have:=gf.f0
   have:=hkp.1.1
   omega
  rw [if_pos hu0] at eu
  have c1:1+k<=16777216:=by omega
  have r1: -4611686018427387904<=(p:Int)+1:=by omega
  have r2:(p:Int)+1<4611686018427387904:=by omega
  have r3: -4611686018427387904<=(w.qs.length:Int):=by omega
  have r4:(w.qs.length:Int)<4611686018427387904:=by omega
  have r5:((w.qs.length:Int)-((p:Int)+1)).toNat=k:=by omega
  have r6:(bg ((p:Int)+1) k).length<=16777216:=by rw [cE];omega
  have hix:ixN ls.length (p:Int)=some p:=by
   unfold ixN
   rw [if_pos (by omega),if_pos (by omega)]
   simp
  refine ⟨[some (bp CR CP w.rows w.o),some (.lst (w.fl.map flD)),some (.lst (w.cs.map stD)),some (.lst (w.qs.map stD)),some (.lst (ls.map .int)),some (.lst ((w.qs.map (lp w.fl)).map stD)),some (.int w.qs.length),some (.int p),z8],by simp,[some (bp CR CP w.rows w.o),some (.lst (w.fl.map flD)),some (.lst (w.cs.map stD)),some (.lst (w.qs.map stD)),some (.lst ((ls.set p u).map .int)),some (.lst ((w.qs.map (lp w.fl)).map stD)),some (.int w.qs.length),some (.int p),some (.lst (bh.map .int))],.inl ?_,ls.set p u,_,_,rfl,by simpa using hll,fun i hi=>?_,fun i hi1 hi2=>?_⟩
  ·rw [List.map_set]
   simp only [flD] at ef
   have hfl2:ma true (.lst (bh.map .int))=true:=by simp [ma]
   simp [kO,r1,r2,r3,r4,r5,r6,ecomp,hfl2,eq,ef,lB,hbl,c1,eM,eu,hix,-e_minL,-List.map_map]
  ·rw [jY (by omega),if_neg (by omega)]
   exact hlo i (by omega)
  ·by_cases hip:i=p
   ·subst hip
    unfold Wo.f7
    rw [w.nC (us:=ls) i fun j hj hjl=>by rw [jY (by omega),if_neg (by omega)],jY (by omega),if_pos rfl]
    exact ⟨hu,hge⟩
   ·have:=hhi i (by omega) hi2
    unfold Wo.f7 at this ⊢
    rw [w.nC (us:=ls) i fun j hj hjl=>by rw [jY (by omega),if_neg (by omega)],jY (by omega),if_neg hip]
    exact this)
 rw [Nat.zero_add,hdl] at h2 h3
 have k1: -4611686018427387904<=(w.qs.length:Int)-1:=by omega
 have k2:(w.qs.length:Int)-1<4611686018427387904:=by omega
 have k3:((w.qs.length:Int)-1- -1).toNat=w.qs.length:=by omega
 have k4:((w.qs.length:Int)-1+1).toNat=w.qs.length:=by omega
 refine ⟨ls,⟨h1,fun i hi=>h3 i (by omega) hi⟩,?_⟩
 have e3:yx [.int ((w.qs.length:Int)-1),.int (-1),.int (-1)]=.ok (mm ((w.qs.length:Int)-1) w.qs.length):=by
  rw [xu (by simp only [rj,Bool.and_eq_true,decide_eq_true_eq];exact ⟨by omega,by omega⟩) (by decide),k3]
 simp [ir,nj,et,es,e3,e,-xu,-List.map_map]
end
noncomputable def cnd (cs:List cK) (t:Int):Nat:=cs.countP fun p=>decide (p.1<=t)
theorem xA {cs:List cK} {t u:Int} (h:u<=t):cnd cs u<=cnd cs t:=by
 unfold cnd
 exact List.countP_mono_left fun p _ hp=>by simp at hp ⊢;omega
theorem cnd_lt:∀{cs:List cK} {p:cK} {t:Int},p∈cs->p.1<=t->cnd cs (p.1-1)<cnd cs t
 |[],p,t,hp,_=>by simp at hp
 |a::cs,p,t,hp,ht=>by
  have hm:=xA (cs:=cs) (t:=t) (u:=p.1-1) (by omega)
  unfold cnd at *
  rw [List.countP_cons,List.countP_cons]
  rcases List.mem_cons.mp hp with e|e
  ·subst e
   simp [ht,show ¬(p.1<=p.1-1) by omega]
   omega
  ·have ih:=cnd_lt (cs:=cs) e ht
   unfold cnd at ih
   by_cases h1:a.1<=p.1-1
   ·have:a.1<=t:=by omega
    simp [h1,this];omega
   ·by_cases h2:a.1<=t<;>simp [h1,h2]<;>omega
section
variable (CR CP CN:Addr)
theorem to_in (n:Nat) (all:List cK) (c:Option Dat):∀(ds:List cK) (t:Int) (m:Bool) (z3 z4:Option Dat),(∀p∈ds,p∈all)->∃(t':Int) (m':Bool) (y3 y4:Option Dat),iO (.tp [3,4]) (bx CR CP CN n) (ds.map stD) [c,some (.int t),some (.bl m),z3,z4]=.ok (.nx [c,some (.int t'),some (.bl m'),y3,y4])/\t'<=t/\(∀v,t'<v->v<=t->Cov all v)/\(m'=false->m=false/\t'=t/\¬Cov ds t)/\(m'=true->m=true\/cnd all t'<cnd all t)
 |[],t,m,z3,z4,_=>⟨t,m,z3,z4,rfl,Int.le_refl _,fun v h1 h2=>by omega,fun h=>⟨h,rfl,qh t⟩,fun h=>.inl h⟩
 |p::ds,t,m,z3,z4,hin=>by
  have hb:eY (.tp [3,4]) (stD p) [c,some (.int t),some (.bl m),z3,z4]=.ok [c,some (.int t),some (.bl m),some (.int p.1),some (.int p.2)]:=by simp [stD]
  by_cases h:p.1<=t/\t<p.2
  ·have hg:bx CR CP CN n [c,some (.int t),some (.bl m),some (.int p.1),some (.int p.2)]=.ok (.nx [c,some (.int (p.1-1)),some (.bl true),some (.int p.1),some (.int p.2)]):=by simp [bx,dG,h.1,h.2]
   obtain ⟨t',m',y3,y4,e,h1,h2,h3,h4⟩:=to_in n all c ds (p.1-1) true (some (.int p.1)) (some (.int p.2)) fun q hq=>hin q (by simp [hq])
   refine ⟨t',m',y3,y4,?_,by omega,fun v a b=>?_,fun hm=>absurd (h3 hm).1 (by simp),fun _=>.inr ?_⟩
   ·rw [List.map_cons,iO,hb,au,hg];exact e
   ·by_cases hv:p.1<=v
    ·exact ⟨p,hin p (by simp),hv,by omega⟩
    ·exact h2 v a (by omega)
   ·exact Nat.lt_of_le_of_lt (xA h1) (cnd_lt (hin p (by simp)) h.1)
  ·have hg:bx CR CP CN n [c,some (.int t),some (.bl m),some (.int p.1),some (.int p.2)]=.ok (.nx [c,some (.int t),some (.bl m),some (.int p.1),some (.int p.2)]):=by
    by_cases h1:p.1<=t
    ·have h2:¬t<p.2:=fun z=>h ⟨h1,z⟩
     simp [bx,dG,h1,h2]
    ·simp [bx,dG,h1]
   obtain ⟨t',m',y3,y4,e,h1,h2,h3,h4⟩:=to_in n all c ds t m (some (.int p.1)) (some (.int p.2)) fun q hq=>hin q (by simp [hq])
   refine ⟨t',m',y3,y4,?_,h1,h2,fun hm=>?_,h4⟩
   ·rw [List.map_cons,iO,hb,au,hg];exact e
   ·obtain ⟨a,b,d⟩:=h3 hm
    exact ⟨a,b,fun z=>(nY.mp z).elim h d⟩
theorem wZ (n:Nat) (cs:List cK):∀(m:Nat) (t:Int) (z3 z4:Option Dat),cnd cs t+1<m->∃(u:Int) (y3 y4:Option Dat),oi cs t u/\bW (bK CR CP CN n) (dI CR CP CN n) m [some (.lst (cs.map stD)),some (.int t),some (.bl true),z3,z4]=.ok (.nx [some (.lst (cs.map stD)),some (.int u),some (.bl false),y3,y4])
 |0,t,z3,z4,h=>by omega
 |m+1,t,z3,z4,h=>by
  obtain ⟨t',m',y3,y4,e,h1,h2,h3,h4⟩:=to_in CR CP CN n cs (some (.lst (cs.map stD))) cs t false z3 z4 fun q hq=>hq
  have ht:bK CR CP CN n [some (.lst (cs.map stD)),some (.int t),some (.bl true),z3,z4]=.ok true:=by simp [bK]
  have hb:dI CR CP CN n [some (.lst (cs.map stD)),some (.int t),some (.bl true),z3,z4]=.ok (.nx [some (.lst (cs.map stD)),some (.int t'),some (.bl m'),y3,y4]):=by simp [dI,e]
  cases m' with
  |false=>
   obtain ⟨_,e2,hn⟩:=h3 rfl
   subst e2
   refine ⟨t',y3,y4,⟨Int.le_refl _,hn,fun v a b=>by omega⟩,?_⟩
   rw [bW,ht,au,if_pos rfl,hb,au]
   have ht2:bK CR CP CN n [some (.lst (cs.map stD)),some (.int t'),some (.bl false),y3,y4]=.ok false:=by simp [bK]
   cases m with
   |zero=>omega
   |succ m=>
    show bW _ _ (m+1) _=_
    rw [bW,ht2,au,if_neg (by simp)]
  |true=>
   rcases h4 rfl with z|z
   ·cases z
   ·obtain ⟨u,w3,w4,hu,e2⟩:=wZ n cs m t' y3 y4 (by omega)
    refine ⟨u,w3,w4,⟨Int.le_trans hu.1 h1,hu.2.1,fun v a b=>?_⟩,?_⟩
    ·by_cases hv:t'<v
     ·exact h2 v hv b
     ·exact hu.2.2 v a (by omega)
    ·rw [bW,ht,au,if_pos rfl,hb,au]
     exact e2
theorem to_ok (n:Nat) (cs:List cK) (t:Int) (hl:cs.length<=20) (hn:64<=n):∃u,oi cs t u/\dw CR CP CN n [.lst (cs.map stD),.int t]=.ok (.int u):=by
 have hc:cnd cs t<=cs.length:=List.countP_le_length
 obtain ⟨u,y3,y4,hu,e⟩:=wZ CR CP CN n cs n t none none (by omega)
 exact ⟨u,hu,by simp [dw,jt,e]⟩
end
section
variable (CR CP CN:Addr)
theorem A5 (n:Nat) {w:Wo} (hw:w.Good) (ls:List Int) (i m:Nat) (hi:i+1+m<=w.qs.length) (hl:ls.length=w.qs.length) (z7:Option Dat):∃y7,iO (.nm 7) (dc CR CP CN n) (bg ((i:Int)+1) m) [some w.ruD,some (.lst (w.fl.map flD)),some (.lst (w.cs.map stD)),some (.lst (w.qs.map stD)),some (.lst (ls.map .int)),some (.int i),some (.int (w.f i).last),z7]=.ok (.nx [some w.ruD,some (.lst (w.fl.map flD)),some (.lst (w.cs.map stD)),some (.lst (w.qs.map stD)),some (.lst (ls.map .int)),some (.int i),some (.int (w.high ls i m)),y7]):=by
 obtain ⟨ρ',e,y7,rfl⟩:=eO (p:=.nm 7) (g:=dc CR CP CN n)
  (fun j ρ=>∃(z7:Option Dat),ρ=[some w.ruD,some (.lst (w.fl.map flD)),some (.lst (w.cs.map stD)),some (.lst (w.qs.map stD)),some (.lst (ls.map .int)),some (.int i),some (.int (w.high ls i j)),z7]) (bg ((i:Int)+1) m) 0 _ ⟨z7,rfl⟩ (by
  rintro j d ρ hd ⟨z7,rfl⟩
  obtain ⟨hj,rfl⟩:=oB hd
  rw [Nat.zero_add,w.jM]
  obtain ⟨l,hlj⟩:∃l,l=i+1+j:=⟨_,rfl⟩
  rw [show (i:Int)+1+(j:Int)=(l:Int) by omega,<- hlj]
  have ea:=xH CR CP CN n hw (j:=i) (i:=l) (by omega) (by omega)
  have etj:=getT (ts:=ls) (i:=l) (by omega)
  have eqj:=getQ (qs:=w.qs) (i:=l) (by omega)
  have eqi:=getQ (qs:=w.qs) (i:=i) (by omega)
  refine ⟨[some w.ruD,some (.lst (w.fl.map flD)),some (.lst (w.cs.map stD)),some (.lst (w.qs.map stD)),some (.lst (ls.map .int)),some (.int i),some (.int (w.high ls i j)),some (.int l)],by simp,[some w.ruD,some (.lst (w.fl.map flD)),some (.lst (w.cs.map stD)),some (.lst (w.qs.map stD)),some (.lst (ls.map .int)),some (.int i),some (.int (jm (w.high ls i j) (tAt ls l-w.ap i l))),some (.int l)],.inl ?_,_,rfl⟩
  simp [dc,ea,etj,eqj,eqi])
 rw [Nat.zero_add,cE] at e
 exact ⟨y7,e⟩
theorem w6 (n:Nat) (hn:64<=n) {w:Wo} (hw:w.Good):∃gs:List Int,gs.length=w.qs.length/\(∀i,i<w.qs.length->w.f7 gs i)/\cR CR CP CN n [w.ruD,.lst (w.fl.map flD),.lst (w.cs.map stD),.lst (w.qs.map stD)]=.ok (.lst (gs.map .int)):=by
 have hq:=hw.qsl
 have hf:=hw.fll
 have hc:=hw.csl
 have hdl:(mm ((w.qs.length:Int)-1) w.qs.length).length=w.qs.length:=by simp [mm]
 obtain ⟨ρ',e,ls,z5,z6,z7,rfl,h1,h3⟩:=eO (p:=.nm 5) (g:=fJ CR CP CN n)
  (fun k ρ=>∃(ls:List Int) (z5 z6 z7:Option Dat),ρ=[some w.ruD,some (.lst (w.fl.map flD)),some (.lst (w.cs.map stD)),some (.lst (w.qs.map stD)),some (.lst (ls.map .int)),z5,z6,z7]/\ls.length=w.qs.length/\∀i,w.qs.length<=i+k->i<w.qs.length->w.f7 ls i) (mm ((w.qs.length:Int)-1) w.qs.length) 0 [some w.ruD,some (.lst (w.fl.map flD)),some (.lst (w.cs.map stD)),some (.lst (w.qs.map stD)),some (.lst ((List.replicate w.qs.length (0:Int)).map .int)),none,none,none] ⟨_,none,none,none,rfl,by simp,fun i h1 h2=>by omega⟩ (by
  rintro k d ρ hd ⟨ls,z5,z6,z7,rfl,hll,hhi⟩
  have hkm:k<w.qs.length:=by rw [<- hdl];exact (List.getElem?_eq_some_iff.mp hd).1
  obtain ⟨p,hp⟩:∃p:Nat,p+k+1=w.qs.length:=⟨w.qs.length-1-k,by omega⟩
  have hde:d=.int (p:Int):=by
   unfold mm at hd
   rw [List.getElem?_map,List.getElem?_range hkm] at hd
   simp at hd
   rw [<- hd]
   congr 1
   omega
  subst hde
  rw [Nat.zero_add] at hhi ⊢
  have hpq:p<w.qs.length:=by omega
  have eq:=getC hpq
  obtain ⟨ef,gf⟩:=hw.fAt hpq
  obtain ⟨y7,el⟩:=A5 CR CP CN n hw ls p k (by omega) hll z7
  have hup:w.high ls p k=w.up ls p:=by unfold Wo.up;rw [show w.qs.length-(p+1)=k by omega]
  rw [hup] at el
  obtain ⟨u,hu,eo⟩:=to_ok CR CP CN n w.cs (w.up ls p) (by omega) hn
  have r1: -4611686018427387904<=(p:Int)+1:=by omega
  have r2:(p:Int)+1<4611686018427387904:=by omega
  have r3: -4611686018427387904<=(w.qs.length:Int):=by omega
  have r4:(w.qs.length:Int)<4611686018427387904:=by omega
  have r5:((w.qs.length:Int)-((p:Int)+1)).toNat=k:=by omega
  have hix:ixN ls.length (p:Int)=some p:=by
   unfold ixN
   rw [if_pos (by omega),if_pos (by omega)]
   simp
  refine ⟨[some w.ruD,some (.lst (w.fl.map flD)),some (.lst (w.cs.map stD)),some (.lst (w.qs.map stD)),some (.lst (ls.map .int)),some (.int p),z6,z7],by simp,[some w.ruD,some (.lst (w.fl.map flD)),some (.lst (w.cs.map stD)),some (.lst (w.qs.map stD)),some (.lst ((ls.set p u).map .int)),some (.int p),some (.int (w.up ls p)),y7],.inl ?_,_,_,_,_,rfl,by rw [List.length_set];exact hll,fun i hi1 hi2=>?_⟩
  ·rw [List.map_set]
   simp only [flD] at ef
   simp [fJ,r1,r2,r3,r4,r5,eq,ef,el,eo,hix,-List.map_map]
  ·unfold Wo.f7
   by_cases hip:i=p
   ·subst hip
    rw [w.nC (us:=ls) i fun j hj hjl=>by rw [jY (by omega),if_neg (by omega)],jY (by omega),if_pos rfl]
    exact hu
   ·have:=hhi i (by omega) hi2
    unfold Wo.f7 at this
    rw [w.nC (us:=ls) i fun j hj hjl=>by rw [jY (by omega),if_neg (by omega)],jY (by omega),if_neg hip]
    exact this)
 rw [Nat.zero_add,hdl] at h3
 have k1: -4611686018427387904<=(w.qs.length:Int)-1:=by omega
 have k2:(w.qs.length:Int)-1<4611686018427387904:=by omega
 have k3:((w.qs.length:Int)-1- -1).toNat=w.qs.length:=by omega
 have k4: -9223372036854775808<=(w.qs.length:Int):=by omega
 have k5:(w.qs.length:Int)<9223372036854775808:=by omega
 have k6:w.qs.length<=16777216:=by omega
 refine ⟨ls,h1,fun i hi=>h3 i (by omega) hi,?_⟩
 have e3:yx [.int ((w.qs.length:Int)-1),.int (-1),.int (-1)]=.ok (mm ((w.qs.length:Int)-1) w.qs.length):=by
  rw [xu (by simp only [rj,Bool.and_eq_true,decide_eq_true_eq];exact ⟨by omega,by omega⟩) (by decide),k3]
 have er:repD (.lst [.int 0]) (.int (w.qs.length:Int))=.ok (.lst ((List.replicate w.qs.length (0:Int)).map .int)):=by
  rw [e_rep k4 k5 (by simp;omega)]
  congr 2
  simp
 simp only [List.map_replicate] at e er
 simp [cR,iA,er,e3,e,-xu,-e_rep,-List.map_map]
end
theorem Wo.pS {w:Wo} {ls gs:List Int} (h1:∀i,i<w.qs.length->w.f7 ls i) (h2:∀i,i<w.qs.length->w.f7 gs i):∀(m i:Nat),w.qs.length<=i+m->i<w.qs.length->tAt ls i=tAt gs i
 |0,i,h,hi=>by omega
 |m+1,i,h,hi=>by
  have ih:=Wo.pS h1 h2 m
  have a:=h1 i hi
  have b:=h2 i hi
  unfold Wo.f7 at a b
  rw [w.nC (us:=gs) i fun j hj hjl=>ih j (by omega) hjl] at a
  exact a.uniq b
theorem ext_tAt {ls gs:List Int} (hl:ls.length=gs.length) (h:∀i,i<ls.length->tAt ls i=tAt gs i):ls=gs:=by
 apply List.ext_getElem hl
 intro i h1 h2
 have:=h i h1
 simpa [tAt,h1,h2] using this
noncomputable def Wo.put (w:Wo) (p:Nat) (f:Fli):Wo:=⟨w.k,w.rows,w.r2,w.o,w.fl.set (qAt w.qs p).1.toNat f,w.cs,w.qs⟩
noncomputable def Once (w:Wo):Prop:=∀i j,i<w.qs.length->j<w.qs.length->(qAt w.qs i).1=(qAt w.qs j).1->i=j
theorem once_of {w:Wo} (h:(w.qs.map (·.1)).Perm ((List.range w.fl.length).map fun k:Nat=>(k:Int))):Once w:=by
 have hn:(w.qs.map (·.1)).Nodup:=h.nodup_iff.mpr (List.pairwise_map.mpr (List.nodup_range.imp fun {a b} h z=>h (by omega)))
 have key:∀i j,i<j->j<w.qs.length->(qAt w.qs i).1≠(qAt w.qs j).1:=fun i j hij hj=>by
  have hi:i<w.qs.length:=by omega
  have:=List.pairwise_iff_getElem.mp hn i j (by simpa using hi) (by simpa using hj) hij
  simpa [qAt,hi,hj] using this
 intro i j hi hj e
 rcases Nat.lt_trichotomy i j with z|z|z
 ·exact absurd e (key i j z hj)
 ·exact z
 ·exact absurd e.symm (key j i z hi)
theorem t6 {fl:List Fli} {m:Nat} {x:Fli} {a:Int} (hm:m<fl.length):vn (fl.set m x) a=if a.toNat=m then x else vn fl a:=by
 unfold vn
 rw [List.getElem?_set]
 by_cases h:m=a.toNat
 ·subst h;simp [hm]
 ·rw [if_neg h,if_neg (fun z=>h z.symm)]
section
variable {w:Wo} (hw:w.Good) (ho:Once w) {p:Nat} (hp:p<w.qs.length) {f g:Fli} (hf:f.kind=(w.f p).kind) (hg:g.kind=(w.f p).kind)
include hw hp
theorem zd:(qAt w.qs p).1.toNat<w.fl.length:=by
 have:=hw.qs _ (jk hp)
 omega
theorem put_p:(w.put p f).f p=f:=by
 show vn (w.fl.set _ _) (qAt w.qs p).1=_
 rw [t6 (zd hw hp),if_pos rfl]
include hf
theorem put_kind (a:Int):(vn (w.put p f).fl a).kind=(vn w.fl a).kind:=by
 show (vn (w.fl.set _ _) a).kind=_
 rw [t6 (zd hw hp)]
 split
 ·rename_i h
  rw [hf]
  show (vn w.fl (qAt w.qs p).1).kind=_
  unfold vn
  rw [h]
 ·rfl
theorem ze (j i:Nat):(w.put p f).ap j i=w.ap j i:=by
 have h:∀q,lp (w.put p f).fl q=lp w.fl q:=fun q=>by unfold lp;rw [put_kind hw hp hf]
 show apS w.rows w.r2 (lp (w.put p f).fl (qAt w.qs j)) (lp (w.put p f).fl (qAt w.qs i))=_
 rw [h,h]
 rfl
theorem put_good (gf:rZ w.k f):(w.put p f).Good:=by
 refine ⟨hw.k1,hw.k6,hw.rows,hw.o,fun x hx=>?_,by show (w.fl.set _ _).length<=60;rw [List.length_set];exact hw.fll,hw.cs,hw.csl,fun q hq=>by show _/\_<((w.fl.set _ _).length:Int);rw [List.length_set];exact hw.qs q hq,by show _=(w.fl.set _ _).length;rw [List.length_set];exact hw.qsl⟩
 rcases List.mem_or_eq_of_mem_set hx with h|h
 ·exact hw.fl x h
 ·rw [h];exact gf
include ho
omit hf
theorem put_f {i:Nat} (hi:i<w.qs.length) (hip:i≠p):(w.put p f).f i=w.f i:=by
 show vn (w.fl.set _ _) (qAt w.qs i).1=_
 rw [t6 (zd hw hp),if_neg]
 ·rfl
 ·intro z
  have a:=hw.qs _ (jk hp)
  have b:=hw.qs _ (jk hi)
  exact hip (ho i p hi hp (by omega))
include hf
theorem put_keep {i:Nat} (hi:i<w.qs.length) (hip:i≠p) (xs:List Int):(w.put p f).qu xs i↔w.qu xs i:=by
 unfold Wo.qu
 rw [put_f hw ho hp hi hip]
 simp only [ze hw hp hf]
 rfl
omit ho
theorem zc (xs:List Int):(w.put p f).qu xs p↔(f.first<=tAt xs p/\tAt xs p<=f.last/\¬Cov w.cs (tAt xs p))/\∀j,j<p->tAt xs j+w.ap j p<=tAt xs p:=by
 unfold Wo.qu
 rw [put_p hw hp]
 simp only [ze hw hp hf]
 rfl
end
theorem zH (n:Nat):∀cs:List cK,ki (cs.map stD) (n+1)=true
 |[]=>by simp [ki]
 |p::cs=>by simp [ki,okE,stD,zH n cs]
theorem zI (n:Nat):∀cs:List Fli,ki (cs.map flD) (n+1)=true
 |[]=>by simp [ki]
 |p::cs=>by simp [ki,okE,flD,zI n cs]
theorem Af:∀cs:List cK,oZ (cs.map stD) (cs.map stD)=true
 |[]=>by simp [oZ]
 |p::cs=>by simp [oZ,eqD,stD,Af cs]
theorem Ag:∀cs:List Fli,oZ (cs.map flD) (cs.map flD)=true
 |[]=>by simp [oZ]
 |p::cs=>by simp [oZ,eqD,flD,Ag cs]
theorem ne_three (fl:List Fli) (cs qs:List cK):neM (.lst [.lst (fl.map flD),.lst (cs.map stD),.lst (qs.map stD)]) (.lst [.lst (fl.map flD),.lst (cs.map stD),.lst (qs.map stD)])=.ok (.bl false):=by
 have h:okE (.lst [.lst (fl.map flD),.lst (cs.map stD),.lst (qs.map stD)]) 40=true:=by simp [okE,ki,zI,zH]
 unfold neM
 rw [h]
 simp [eqD,oZ,Ag,Af]
noncomputable def bX (ts ls:List Int):List Dat:=mF (ts.map .int) (ls.map .int)
theorem sE {ts ls:List Int} {i:Nat} (h1:i<ts.length) (h2:i<ls.length):ni (bX ts ls) (i:Int)=.ok (.tup [.int (tAt ts i),.int (tAt ls i)]):=by
 have hlen:i<(bX ts ls).length:=by unfold bX;rw [jX];simp;omega
 rw [iX hlen]
 have:=s9 (ts.map Dat.int) (ls.map Dat.int) i
 have e:(bX ts ls)[i]? =some (.tup [.int (tAt ts i),.int (tAt ls i)]):=by
  unfold bX
  rw [this]
  simp [tAt,h1,h2]
 rw [List.getElem?_eq_getElem hlen] at e
 rw [Option.some.inj e]
theorem filter_nil {α:Type} {p:α->Bool}:∀{l:List α},(∀a∈l,p a=false)->l.filter p=[]
 |[],_=>rfl
 |a::l,h=>by rw [List.filter_cons_of_neg (by rw [h a (by simp)];simp)];exact filter_nil fun b hb=>h b (by simp [hb])
noncomputable def Fli.vm (f:Fli) (t:Int):Fli:=⟨f.kind,f.first,t,f.due,f.price⟩
section
variable {w:Wo} (hw:w.Good) (ho:Once w) {p:Nat} (hp:p<w.qs.length) {ts:List Int} (hl:w.vk ts)
include hw hp hl
theorem yP:(w.put p ((w.f p).vm (tAt ts p))).Good:=by
 have g:=(hw.fAt hp).2
 have k:=(hl.keeps p hp).1
 exact put_good hw hp rfl ⟨g.k0,g.k1,g.f0,k.1,Int.le_trans k.2.1 g.l1,g.d0,g.d1,g.p0,g.p1⟩
include ho
theorem xR:(w.put p ((w.f p).vm (tAt ts p))).vk ts:=by
 refine ⟨hl.1,fun i hi=>?_⟩
 have e1:((w.put p ((w.f p).vm (tAt ts p))).f i).first=(w.f i).first:=by
  by_cases hip:i=p
  ·subst hip;rw [put_p hw hp];rfl
  ·rw [put_f hw ho hp hi hip]
 have e2:(w.put p ((w.f p).vm (tAt ts p))).low ts i i=w.low ts i i:=by
  unfold Wo.low
  rw [e1]
  simp only [ze hw hp (f:=(w.f p).vm (tAt ts p)) rfl]
 obtain ⟨a,b⟩:=hl.2 i hi
 refine ⟨by rw [e2];exact a,?_⟩
 by_cases hip:i=p
 ·subst hip;rw [put_p hw hp];exact Int.le_refl _
 ·rw [put_f hw ho hp hi hip];exact b
theorem yQ {us:List Int} (hk:(w.put p ((w.f p).vm (tAt ts p))).Keeps us):w.Keeps us:=fun i hi=>by
 have:=hk i hi
 by_cases hip:i=p
 ·subst hip
  obtain ⟨⟨a1,a2,a3⟩,a4⟩:=(zc hw hp (f:=(w.f i).vm (tAt ts i)) rfl us).mp this
  have a2:tAt us i<=tAt ts i:=a2
  have k:=(hl.keeps i hp).1
  exact ⟨⟨a1,by omega,a3⟩,a4⟩
 ·exact (put_keep hw ho hp (f:=(w.f p).vm (tAt ts p)) rfl hi hip us).mp this
end
section
variable (CR CP CN:Addr)
theorem yf (n:Nat) (hne:CR≠CP) {w:Wo} (hw:w.Good) {ts:List Int} {i:Nat} {t:Int} (hi:i<w.qs.length) (ht:ts.length=i) (hle:∀j,j<i->w.fK ts j) (hn:lz w.cs (w.low ts i i) t) (hlt:(w.f i).last<t) :
  eG CR CP CN n [bp CR CP w.rows w.o,.lst (w.fl.map flD),.lst (w.cs.map stD),.lst (w.qs.map stD)]=.error (.exc CN [("flight",.int (qAt w.qs i).1),("time",.int t)]):=by
 have et:=yO CR CP CN n hne hw hi ht hle hn hlt
 simp [eG,nR,et]
theorem Ac (n:Nat) (hne:CR≠CP) {w:Wo} (hw:w.Good) {ts:List Int} (hl:w.vk ts):∃ls,w.qt ts ls/\eG CR CP CN n [bp CR CP w.rows w.o,.lst (w.fl.map flD),.lst (w.cs.map stD),.lst (w.qs.map stD)]=.ok (.lst (bX ts ls)):=by
 obtain ⟨ls,hla,ela⟩:=zW CR CP CN n hne hw hl
 have et:=x5 CR CP CN n hne hw hl
 have h1:=hl.1
 have h2:=hla.1
 have hq:=hw.qsl
 have hf:=hw.fll
 refine ⟨ls,hla,?_⟩
 have hz:(mF (ts.map Dat.int) (ls.map Dat.int)).length<=16777216:=by rw [jX];simp;omega
 simp [eG,nR,fLZ,et,ela,hz,bX]
theorem ne_nil2 (a b:Dat) (ha:okE a 39=true) (hb:okE b 39=true):neM (.lst [a,b]) (.lst [])=.ok (.bl true):=by
 unfold neM
 have:okE (.lst [a,b]) 40=true:=by simp [okE,ki,ha,hb]
 rw [this]
 simp [okE,ki,eqD,oZ]
theorem yN (n:Nat) {a b c d:Dat} {ls:List Dat} (e:eG CR CP CN n [a,b,c,d]=.ok (.lst ls)):bG CR CP CN n [a,b,c,d]=.ok (.lst ls):=by
 have enil:neM (.lst []) (.lst [])=.ok (.bl false):=by simp [neM,okE,ki,eqD,oZ]
 have e1:i3 CR CP CN n [some a,some b,some c,some d,some (.lst []),some (.lst []),none]=.ok (.nx [some a,some b,some c,some d,some (.lst []),some (.lst ls),none]):=
  uS (by simp [e])
 simp [bG,kA,e1,kJ,enil,-List.map_map]
theorem told_err (n:Nat) {a b c d:Dat} {f t:Int} (e:eG CR CP CN n [a,b,c,d]=.error (.exc CN [("flight",.int f),("time",.int t)])):bG CR CP CN n [a,b,c,d]=.ok (.tup [.int f,.int t]):=by
 have e1:i3 CR CP CN n [some a,some b,some c,some d,some (.lst []),some (.lst []),none]=.ok (.nx [some a,some b,some c,some d,some (.lst [.int f,.int t]),some (.lst []),none]):=by
  unfold i3
  rw [rL (f:=("flight",.int f)) (fs:=[("time",.int t)]) (by simp [e])]
  rfl
 have en:=ne_nil2 (.int f) (.int t) (by simp [okE]) (by simp [okE])
 simp [bG,kA,e1,kJ,en,isL]
theorem whole_ok (n:Nat) (x:Int):dY CR CP CN n [.int x]=.ok (.bl true):=by simp [dY,m7]
theorem state_ok (n:Nat) (hn:64<=n) (ns:List Int) (most:Nat) (hm:most<=40):∃(w:Wo),w.Good/\w.fl.length<=most/\gm CR CP CN n [.lst (ns.map .int),.int most]=.ok (.tup [w.ruD,.lst (w.fl.map flD),.lst (w.cs.map stD),.lst (w.qs.map stD)])/\cP CR CP CN n [w.ruD]=.ok (bp CR CP w.rows w.o)/\Once w:=by
 obtain ⟨s,w,hw,hs0,hs1,hfl,es,er,em,ef,ec,eq,h0,hp⟩:=world_ok CR CP CN n hn ns most hm
 exact ⟨w,hw,hfl,by simp [gm,m8,es,er,ef,ec,eq],em,once_of hp⟩
theorem uA (n:Nat):∀ts ls:List Int,ki (bX ts ls) (n+1)=true
 |[],_=>by simp [ki,bX,mF]
 |_::_,[]=>by simp [ki,bX,mF]
 |t::ts,l::ls=>by
  have ih:=uA n ts ls
  unfold bX at ih ⊢
  simp [ki,mF,okE,ih]
theorem uR:∀ts ls:List Int,oZ (bX ts ls) (bX ts ls)=true
 |[],_=>by simp [oZ,bX,mF]
 |_::_,[]=>by simp [oZ,bX,mF]
 |t::ts,l::ls=>by
  have ih:=uR ts ls
  unfold bX at ih ⊢
  simp [oZ,mF,eqD,ih]
theorem xi (ts ls:List Int):(bX ts ls).length=min ts.length ls.length:=by unfold bX;rw [jX];simp
theorem Ae (ts ls:List Int):eqM (.lst (bX ts ls)) (.lst (bX ts ls))=.ok (.bl true)/\neM (.lst (bX ts ls)) (.lst (bX ts ls))=.ok (.bl false):=by
 have h:okE (.lst (bX ts ls)) 40=true:=by simp [okE,uA]
 unfold eqM neM
 rw [h]
 simp [eqD,uR]
theorem eq_two (f t:Int):eqM (.tup [.int f,.int t]) (.tup [.int f,.int t])=.ok (.bl true)/\neM (.tup [.int f,.int t]) (.tup [.int f,.int t])=.ok (.bl false):=by
 unfold eqM neM
 simp [okE,ki,eqD,oZ]
theorem alike_ok (n:Nat) (ts ls:List Int):gn CR CP CN n [.lst (bX ts ls),.lst (bX ts ls)]=.ok (.bl true):=by
 have key:∀(ts ls:List Int) (a b z:Option Dat),∃y,iO (.nm 2) (fS CR CP CN n) (bX ts ls) [a,b,z]=.ok (.nx [a,b,y]):=by
  intro ts
  induction ts with
  |nil=>intro ls a b z;exact ⟨z,by simp [bX,mF,iO]⟩
  |cons t ts ih=>
   intro ls a b z
   cases ls with
   |nil=>exact ⟨z,by simp [bX,mF,iO]⟩
   |cons l ls=>
    obtain ⟨y,e⟩:=ih ls a b (some (.tup [.int t,.int l]))
    refine ⟨y,?_⟩
    show iO (.nm 2) _ (.tup [.int t,.int l]::bX ts ls) _=_
    have eb:fS CR CP CN n [a,b,some (.tup [.int t,.int l])]=.ok (.nx [a,b,some (.tup [.int t,.int l])]):=by simp [fS,mP,dZ,whole_ok]
    rw [iO,show eY (.nm 2) (.tup [.int t,.int l]) [a,b,z]=.ok [a,b,some (.tup [.int t,.int l])] by simp,au,eb,au]
    exact e
 obtain ⟨y,e⟩:=key ts ls (some (.lst (bX ts ls))) (some (.lst (bX ts ls))) none
 have:=(Ae ts ls).2
 simp [gn,m9,mQ,gp,this,e]
theorem comp_id:∀ds:List Dat,bY (.nm 0) qP (aa 0) [none] ds=.ok ds
 |[]=>rfl
 |d::ds=>by rw [bY];simp [comp_id ds]
theorem law_true (hne:CR≠CP):∀ns:List Int,ns.length<=63->∃n,yc CR CP CN n [.lst (ns.map .int)]=.ok (.bl true):=by
 intro ns hns
 refine ⟨64,?_⟩
 obtain ⟨w,hw,hfl,es,em,ho⟩:=state_ok CR CP CN 64 (by omega) ns 40 (by omega)
 simp only [Int.cast_ofNat_Int] at es
 have hq:=hw.qsl
 have hf:=hw.fll
 have hc:=hw.csl
 have s1:w.fl.length<=16777216:=by omega
 have s2:w.cs.length<=16777216:=by omega
 have s3:w.qs.length<=16777216:=by omega
 have en3:=ne_three w.fl w.cs w.qs
 rcases least_ok CR CP CN 64 (by omega) hw with ⟨ts,hl,el⟩|⟨i,ts,t,h1,h2,h3,h4,h5,el⟩
 ·obtain ⟨ls,hla,ela⟩:=Ac CR CP CN 64 hne hw hl
  obtain ⟨gs,hg1,hg2,eg⟩:=w6 CR CP CN 64 (by omega) hw
  have hls:=hla.1
  have hts:=hl.1
  have hlg:gs=ls:=(ext_tAt (by omega) fun i hi=>Wo.pS (fun i hi=>(hla.2 i hi).1) hg2 w.qs.length i (by omega) (by omega)).symm
  subst hlg
  have etd:=yN CR CP CN 64 ela
  have hpl:=xi ts gs
  have hpl2:(bX ts gs).length=w.qs.length:=by omega
  have eal:=alike_ok CR CP CN 64 ts gs
  have p1:(bX ts gs).length<=16777216:=by omega
  have p2:(bX ts gs).length<16777216:=by omega
  have ecz:bY (.nm 0) qP (aa 0) [none] (mF (ts.map .int) (gs.map .int))=.ok (bX ts gs):=comp_id _
  have hzl:(mF (ts.map Dat.int) (gs.map Dat.int)).length<=16777216:=p1
  have enil:eqM (.lst []) (.lst [])=.ok (.bl true):=by simp [eqM,okE,ki,eqD,oZ]
  by_cases hz:w.qs.length=0
  ·have hfz:w.fl=[]:=List.eq_nil_of_length_eq_zero (by omega)
   have hqz:w.qs=[]:=List.eq_nil_of_length_eq_zero hz
   have hpz:bX ts gs=[]:=List.eq_nil_of_length_eq_zero (by omega)
   rw [hpz] at etd ecz eal
   rw [hfz,hqz] at etd es el en3 eg
   simp only [List.map_nil] at etd es el en3 eg
   simp [yc,Aa,es,em,el,s2,etd,tG,en3,tF,dZ,eg,vo,ecz,hzl,wk,eal,wj,enil,-List.map_map]
  ·obtain ⟨x,ex,hx⟩:=gW CR CP CN 64 ns 250 (by omega) (by omega)
   have hpos:(0:Int)<(w.qs.length:Int):=by omega
   obtain ⟨p,hpx⟩:∃p:Nat,x%(w.qs.length:Int)=p:=⟨(x%(w.qs.length:Int)).toNat,by have:=Int.emod_nonneg x (show (w.qs.length:Int)≠0 by omega);omega⟩
   have hp:p<w.qs.length:=by have:=Int.emod_lt_of_pos x hpos;omega
   obtain ⟨ef,gf⟩:=hw.fAt hp
   have eq:=getC hp
   obtain ⟨kk,hkk⟩:∃kk:Nat,(qAt w.qs p).1=(kk:Int):=⟨(qAt w.qs p).1.toNat,by have:=(hw.qs _ (jk hp)).1;omega⟩
   have hkl:kk<w.fl.length:=by have:=(hw.qs _ (jk hp)).2;omega
   have hgd:=yP hw hp hl
   have hle:=xR hw ho hp hl
   obtain ⟨ls',hla',ela'⟩:=Ac CR CP CN 64 hne hgd hle
   have etd':=yN CR CP CN 64 ela'
   have hls':ls'.length=w.qs.length:=hla'.1
   have hkb:=yQ hw ho hp hl (hla'.keeps hle.keeps)
   have hge:∀i,i<w.qs.length->tAt ls' i<=tAt gs i:=fun i hi=>hla.ge hkb w.qs.length i (by omega) hi
   have hpt:tAt ls' p=tAt ts p:=by
    have a:=(hla'.2 p hp).2
    have b:=((hla'.keeps hle.keeps) p hp).1.2.1
    rw [put_p hw hp] at b
    have b:tAt ls' p<=tAt ts p:=b
    omega
   have efs:(w.put p ((w.f p).vm (tAt ts p))).fl.map flD=(w.fl.map flD).take kk++flD ((w.f p).vm (tAt ts p))::(w.fl.map flD).drop (kk+1):=by
    show (w.fl.set (qAt w.qs p).1.toNat _).map flD=_
    rw [hkk,Int.toNat_natCast,List.map_set,List.set_eq_take_append_cons_drop,if_pos (by simpa using hkl)]
   have etd2:bG CR CP CN 64 [bp CR CP w.rows w.o,.lst ((w.fl.map flD).take kk++flD ((w.f p).vm (tAt ts p))::(w.fl.map flD).drop (kk+1)),.lst (w.cs.map stD),.lst (w.qs.map stD)]=.ok (.lst (bX ts ls')):=by rw [<- efs];exact etd'
   have egp:=sE (ts:=ts) (ls:=ls') (i:=p) (by omega) (by omega)
   rw [hpt] at egp
   have egt:=getT (ts:=ts) (i:=p) (by omega)
   have hpl':(bX ts ls').length=w.qs.length:=by rw [xi];omega
   have ecomp:=Ax (p:=.nm 0) (ft:=fOr (fB (f2 neM (f2 ixD (f2 ixD (aa 2) (aa 0)) (fC (.int 0))) (f2 ixD (f2 ixD (aa 1) (aa 0)) (fC (.int 0))))) (fB (f2 gtD (f2 ixD (f2 ixD (aa 2) (aa 0)) (fC (.int 1))) (f2 ixD (f2 ixD (aa 1) (aa 0)) (fC (.int 1)))))) (fe:=aa 0) (ρ0:=[none,some (.lst (bX ts gs)),some (.lst (bX ts ls'))]) (fun j=>decide (tAt gs j<tAt ls' j)) (fun j=>.int j) w.qs.length (fun j hj=>by
    refine ⟨[some (.int j),some (.lst (bX ts gs)),some (.lst (bX ts ls'))],by simp,?_,by simp⟩
    have e1:=sE (ts:=ts) (ls:=gs) (i:=j) (by omega) (by omega)
    have e2:=sE (ts:=ts) (ls:=ls') (i:=j) (by omega) (by omega)
    simp [e1,e2])
   rw [filter_nil fun a ha=>by
    have:=hge a (List.mem_range.mp ha)
    simp;omega,List.map_nil] at ecomp
   have u1: -4611686018427387904<=(w.qs.length:Int):=by omega
   have u2:(w.qs.length:Int)<4611686018427387904:=by omega
   have hrl:(bg 0 w.qs.length).length<=16777216:=by rw [cE];omega
   have hz2:¬w.qs=[]:=fun z=>by rw [z] at hz;simp at hz
   have en2:=(eq_two (tAt ts p) (tAt ts p)).2
   have eep:=(Ae ts gs).1
   have c0:min kk w.fl.length=kk:=by omega
   have c1:kk+1<=16777216:=by omega
   have c2:kk+1+(w.fl.length-(kk+1))<=16777216:=by omega
   have z:((kk:Int)+1).toNat=kk+1:=by omega
   have z0:(0:Int)<=(kk:Int)+1:=by omega
   rw [hkk] at ef eq
   have a1:lB (.lst ((w.fl.map flD).take kk)) (.lst [.tup [.int (w.f p).kind,.int (w.f p).first,.int (tAt ts p),.int (w.f p).due,.int (w.f p).price]])=.ok (.lst ((w.fl.map flD).take kk++[flD ((w.f p).vm (tAt ts p))])):=by
    simp [lB,c0,c1,flD,Fli.vm,-List.map_map,-List.map_take]
   have a2:lB (.lst ((w.fl.map flD).take kk++[flD ((w.f p).vm (tAt ts p))])) (.lst (Au (w.fl.map flD) (some ((kk:Int)+1)) none))=.ok (.lst ((w.fl.map flD).take kk++flD ((w.f p).vm (tAt ts p))::(w.fl.map flD).drop (kk+1))):=by
    rw [cut_drop _ z0,z]
    simp [lB,c0,c2,-List.map_map,-List.map_take,-List.map_drop]
   simp only [flD] at ef
   generalize (w.fl.map flD).take kk++flD ((w.f p).vm (tAt ts p))::(w.fl.map flD).drop (kk+1)=fl2 at a2 etd2
   simp [yc,Aa,es,em,el,s1,s2,s3,etd,tG,en3,tF,dZ,eg,vo,ecz,hzl,wk,eal,p1,p2,wj,hz,hz2,ex,qR hpos,hpx,eq,ef,-List.map_map]
   simp [a1,a2,etd2,AH,gp,hpl',hpl2,egp,egt,en2,u1,u2,hrl,ecomp,enil,etd,eep,-List.map_map]
 ·have ela:=yf CR CP CN 64 hne hw h1 h2 h3 h4 h5
  have etd:=told_err CR CP CN 64 ela
  have e2:=(eq_two (qAt w.qs i).1 t).1
  simp [yc,Aa,es,em,el,s1,s2,s3,etd,tG,en3,tF,dZ,e2,-List.map_map]
end
theorem fin_mk {P:Program} {w:World} {K:PySem.W.Frag} {mg:Str->Option Value} {st:Stmt} {ps:List Str} {f:Addr} {fd:FuncData} {k:Nat} (_:Def K mg "law" st ps f fd) (hb:∀(s:Shared) (v:Value),BindsTo s fd ⟨[v],[]⟩ [("_law_script",v)]) (h:∀base:Heap,cD P w K mg base CX0 k f fd ["_law_script"] (xS K)):∃fd:FuncData,(∀(s:Shared) (v:Value),BindsTo s fd ⟨[v],[]⟩ [("_law_script",v)])/\∀base:Heap,K.In base->base.Ns mainGlobals mg->cD P w K mg base CX0 k f fd ["_law_script"] (xS K):=⟨fd,hb,fun base _ _=>h base⟩
theorem all_mk {l:PySem.W.OpenLaw} {w:World} {K:PySem.W.Frag} {h:Heap} {mg:Str->Option Value} {fa CR CP aP aW yn f_nR f_nP CN qO:Addr} {qJ qW sQ tJ od_law an_law od_nR an_nR od_nP an_nP od_nCN an_nCN:Option Addr} {qB so sl_law sl_nR sl_nP sl_nCN:Array (Option Value)} {qK qN qU qF mO qV sR sV tx sy nZ tB oc_law kV_law dc_law pm_law cd_law ct_law oc_nR kV_nR dc_nR pm_nR cd_nR ct_nR oc_nP kV_nP dc_nP pm_nP cd_nP ct_nP oc_nCN kV_nCN dc_nCN pm_nCN cd_nCN ct_nCN:Value} {qA u5:Tok} (KX:K.In h) (G:h.Ns mainGlobals mg) (hfa:mg "law"=some (.ref fa))
  (AL:nsIn K mainGlobals "Rules"=some (some (.ref CR)))
  (wt:PySem.W.plainGet K CR Str.empty=true)
  (wy:PySem.W.hasDictIn K CR=true)
  (wq:plainOver K CR=true)
  (wo:PySem.W.findIn K (.ref CR) "__setattr__"=some (some (.builtin "object.__setattr__")))
  (wu:PySem.W.makesIn K CR=true)
  (wx:keepIn K (.ref CR)=true)
  (wA:PySem.W.findIn K (.ref CR) "__class__"=some (some (.builtin "object.__class__")))
  (wz:PySem.W.mroIn K CR (.type "object")=some true)
  (nK:PySem.W.findIn K (.ref CR) "gaps"=some none)
  (pO:PySem.W.findIn K (.ref CR) "beside"=some none)
  (AM:nsIn K mainGlobals "Pair"=some (some (.ref CP)))
  (wD:PySem.W.plainGet K CP Str.empty=true)
  (wH:PySem.W.hasDictIn K CP=true)
  (wC:plainOver K CP=true)
  (wB:PySem.W.findIn K (.ref CP) "__setattr__"=some (some (.builtin "object.__setattr__")))
  (wF:PySem.W.makesIn K CP=true)
  (wG:keepIn K (.ref CP)=true)
  (wJ:PySem.W.findIn K (.ref CP) "__class__"=some (some (.builtin "object.__class__")))
  (wI:PySem.W.mroIn K CP (.type "object")=some true)
  (lM:PySem.W.findIn K (.ref CP) "gaps"=some none)
  (kj:PySem.W.findIn K (.ref CP) "beside"=some none)
  (o2:specialIn K (.builtin "object.__class__") "__get__"=some (some (.builtin "getset_descriptor.__get__")))
  (o3:takesIn K (.builtin "object.__class__")=some true)
  (x_ne:CR≠CP)
  (nh:∃f fd,Def K mg "_law_draw" bU ["_law_script","_law_k"] f fd)
  (lZ:∃f fd,Def K mg "_law_scale" iU ["_law_script"] f fd)
  (ng:∃f fd,Def K mg "_law_gaps" kf ["_law_script","_law_by","_law_kinds","_law_scale_here"] f fd)
  (iy:∃f fd,Def K mg "_law_rules_of" eC ["_law_script","_law_scale_here"] f fd)
  (jq:∃f fd,Def K mg "_law_flights" fN ["_law_script","_law_rules","_law_most","_law_scale_here"] f fd)
  (kx:∃f fd,Def K mg "_law_closed" hW ["_law_script","_law_scale_here"] f fd)
  (n9:∃f fd,Def K mg "_law_plan" kc ["_law_script","_law_rules","_law_flights_here"] f fd)
  (lY:∃f fd,Def K mg "_law_state" iT ["_law_script","_law_most"] f fd)
  (ku:∃f fd,Def K mg "copied_rows" hV ["rows"] f fd)
  (sY:∃f fd,Def K mg "is_gap" pw ["number"] f fd)
  (lW:∃f fd,Def K mg "is_gap_row" iR ["row","kinds"] f fd)
  (jn:∃f fd,Def K mg "checked_rows" dn ["rows"] f fd)
  (nc:∃f fd,Def K mg "_law_made" ke ["_law_rules"] f fd)
  (gR:∃f fd,Def K mg "_law_open_from" dF ["_law_closed_here","_law_time"] f fd)
  (m4:∃f fd,Def K mg "_law_apart" g8 ["_law_rules","_law_flights_here","_law_one","_law_other"] f fd)
  (m3:∃f fd,Def K mg "_law_least" iV ["_law_rules","_law_flights_here","_law_closed_here","_law_plan_here"] f fd)
  (oK:∃f fd,Def K mg "spots_of" jA ["flights","plan"] f fd)
  (eJ:∃f fd,Def K mg "joined_stretches" bN ["closed"] f fd)
  (mZ:∃f fd,Def K mg "next_open" k7 ["closed","time"] f fd)
  (kT:PySem.W.findIn K (.ref CR) "apart"=some (some (.ref aP)))
  (kr:PySem.W.isFn K (.ref aP)=true)
  (ko:K.lookup aP=some ⟨qK,qJ,.func (fnOf "apart" "Rules.apart" (dk bO) (cv bO) (aq bO) .none qN qU qF qW mO qV),qB⟩)
  (kH:codeIn K mO "Rules.apart"=true)
  (kq:keepIn K (.ref aP)=true)
  (mw:PySem.W.findIn K (.ref CP) "apart"=some (some (.ref aW)))
  (lV:PySem.W.isFn K (.ref aW)=true)
  (lO:K.lookup aW=some ⟨sR,sQ,.func (fnOf "apart" "Pair.apart" (dk cj) (cv cj) (aq cj) .none sV tx sy tJ nZ tB),so⟩)
  (mq:codeIn K nZ "Pair.apart"=true)
  (lQ:keepIn K (.ref aW)=true)
  (n6:∃f fd,Def K mg "gap_times" ka ["rules","spots","times","place"] f fd)
  (oJ:∃f fd,Def K mg "times_of" jz ["rules","flights","closed","plan"] f fd)
  (n5:∃f fd,Def K mg "last_open" k9 ["closed","time"] f fd)
  (n4:∃f fd,Def K mg "latest_of" k8 ["rules","flights","closed","plan"] f fd)
  (pY:∃f fd,Def K mg "free_of" nH ["rules","flights","closed","plan"] f fd)
  (n8:∃f fd,Def K mg "_law_told" kb ["_law_made_here","_law_flights_here","_law_closed_here","_law_plan_here"] f fd)
  (lX:∃f fd,Def K mg "_law_whole" iS ["_law_found"] f fd)
  (m5:∃f fd,Def K mg "_law_alike" iW ["_law_found","_law_due"] f fd)
  (jo:∃f fd,Def K mg "_law_open_to" fM ["_law_closed_here","_law_time"] f fd)
  (iz:∃f fd,Def K mg "_law_greatest" eD ["_law_rules","_law_flights_here","_law_closed_here","_law_plan_here"] f fd)
  (a_law:nsIn K mainGlobals "law"=some (some (.ref yn)))
  (l_law:K.lookup yn=some ⟨oc_law,od_law,.func (fnOf "law" "law" (dk xV) (cv xV) (aq xV) .none kV_law dc_law pm_law an_law cd_law ct_law),sl_law⟩)
  (d_law:codeIn K cd_law "law"=true)
  (k_law:keepIn K (.ref yn)=true)
  (a_nR:PySem.W.findIn K (.ref CR) "__init__"=some (some (.ref f_nR)))
  (i_nR:PySem.W.isFn K (.ref f_nR)=true)
  (l_nR:K.lookup f_nR=some ⟨oc_nR,od_nR,.func (fnOf "__init__" "Rules.__init__" (dk s_nR) (cv s_nR) (aq s_nR) .none kV_nR dc_nR pm_nR an_nR cd_nR ct_nR),sl_nR⟩)
  (d_nR:codeIn K cd_nR "Rules.__init__"=true)
  (k_nR:keepIn K (.ref f_nR)=true)
  (a_nP:PySem.W.findIn K (.ref CP) "__init__"=some (some (.ref f_nP)))
  (i_nP:PySem.W.isFn K (.ref f_nP)=true)
  (l_nP:K.lookup f_nP=some ⟨oc_nP,od_nP,.func (fnOf "__init__" "Pair.__init__" (dk s_nP) (cv s_nP) (aq s_nP) .none kV_nP dc_nP pm_nP an_nP cd_nP ct_nP),sl_nP⟩)
  (d_nP:codeIn K cd_nP "Pair.__init__"=true)
  (k_nP:keepIn K (.ref f_nP)=true)
  (x_s1:specialIn K (.ref CR) "__getattribute__"=some (some (.builtin "type.__getattribute__")))
  (x_s2:PySem.W.readsIn K CR (.type "type")=true)
  (x_s3:PySem.W.findCls K (.ref CR) (.type "type") "__init__"=some (.val (.ref f_nR)))
  (wU:nsIn K mainGlobals "NoTime"=some (some (.ref CN)))
  (a_nCN:PySem.W.findIn K (.ref CN) "__init__"=some (some (.ref qO)))
  (i_nCN:PySem.W.isFn K (.ref qO)=true)
  (l_nCN:K.lookup qO=some ⟨oc_nCN,od_nCN,.func (fnOf "__init__" "NoTime.__init__" (dk vK) (cv vK) (aq vK) .none kV_nCN dc_nCN pm_nCN an_nCN cd_nCN ct_nCN),sl_nCN⟩)
  (d_nCN:codeIn K cd_nCN "NoTime.__init__"=true)
  (k_nCN:keepIn K (.ref qO)=true)
  (sf:oY K CN [.type "ValueError",.type "Exception",.type "BaseException",.type "object"] "ValueError.__new__" qO=true)
  (vx:keepIn K (.ref CN)=true)
  (vA:PySem.W.findIn K (.ref CN) "__getattribute__"=some (some (.builtin "BaseException.__getattribute__")))
  (vB:PySem.W.findIn K (.ref CN) "__class__"=some (some (.builtin "object.__class__")))
  (vz:PySem.W.findIn K (.ref CN) "__getattr__"=some none)
  (vC:PySem.W.mroIn K CN (.type "BaseException")=some true)
  (vw:PySem.W.mroIn K CN (.type "object")=some true)
  (vy:(PySem.W.clsIn K CN).isSome=true)
  (se:PySem.W.findIn K (.ref CN) "__setattr__"=some (some (.builtin "object.__setattr__")))
  (sg:((PySem.W.clsIn K CN).any fun cd=>pH cd.mro&&cd.hasDict)=true)
  (lC:PySem.W.findIn K (.ref CN) "flight"=some none)
  (ou:PySem.W.findIn K (.ref CN) "time"=some none)
  (xN:nsIn K mainGlobals "all"=some none)
  (r9:nsIn K mainGlobals "bool"=some none)
  (ib:nsIn K mainGlobals "enumerate"=some none)
  (tV:nsIn K mainGlobals "int"=some none)
  (aV:nsIn K mainGlobals "isinstance"=some none)
  (gZ:nsIn K mainGlobals "len"=some none)
  (ll:nsIn K mainGlobals "list"=some none)
  (vt:nsIn K mainGlobals "max"=some none)
  (sd:nsIn K mainGlobals "min"=some none)
  (cL:nsIn K mainGlobals "range"=some none)
  (mx:nsIn K mainGlobals "sorted"=some none)
  (ot:nsIn K mainGlobals "tuple"=some none)
  (xM:nsIn K mainGlobals "zip"=some none)
  (dz:nsIn K mainGlobals "GREATEST_GAP"=some (some (.int 1000000 qA)))
  (gq:nsIn K mainGlobals "MOST_KINDS"=some (some (.int 6 u5)))
  (lK:kitOne K (.type "int") (.type "int")=some true)
  (jI:kitOne K (.type "bool") (.type "int")=some true)
  (jE:kitOne K (.type "list") (.type "int")=some false)
  (ie:kitOne K (.type "tuple") (.type "int")=some false)
  (lI:kitOne K (.type "str") (.type "int")=some false)
  (du:kitOne K (.type "NoneType") (.type "int")=some false)
  (jG:kitOne K (.type "int") (.type "bool")=some false)
  (iq:kitOne K (.type "bool") (.type "bool")=some true)
  (ik:kitOne K (.type "list") (.type "bool")=some false)
  (gd:kitOne K (.type "tuple") (.type "bool")=some false)
  (jC:kitOne K (.type "str") (.type "bool")=some false)
  (cN:kitOne K (.type "NoneType") (.type "bool")=some false)
  (jF:kitOne K (.type "int") (.type "list")=some false)
  (ip:kitOne K (.type "bool") (.type "list")=some false)
  (ij:kitOne K (.type "list") (.type "list")=some true)
  (gc:kitOne K (.type "tuple") (.type "list")=some false)
  (jB:kitOne K (.type "str") (.type "list")=some false)
  (cM:kitOne K (.type "NoneType") (.type "list")=some false)
  (il:kitOne K (.type "int") (.type "tuple")=some false)
  (gk:kitOne K (.type "bool") (.type "tuple")=some false)
  (gh:kitOne K (.type "list") (.type "tuple")=some false)
  (eE:kitOne K (.type "tuple") (.type "tuple")=some true)
  (ig:kitOne K (.type "str") (.type "tuple")=some false)
  (cx:kitOne K (.type "NoneType") (.type "tuple")=some false)
  (lJ:kitOne K (.type "int") (.type "str")=some false)
  (jH:kitOne K (.type "bool") (.type "str")=some false)
  (jD:kitOne K (.type "list") (.type "str")=some false)
  (ic:kitOne K (.type "tuple") (.type "str")=some false)
  (lH:kitOne K (.type "str") (.type "str")=some true)
  (dq:kitOne K (.type "NoneType") (.type "str")=some false) :
  ∃fd:FuncData,(∀(s:Shared) (v:Value),BindsTo s fd ⟨[v],[]⟩ [("_law_script",v)])/\∀base:Heap,K.In base->base.Ns mainGlobals mg->cD l.prog w K mg base CX0 8 fa fd ["_law_script"] (xS K):=by
 have e:=hfa.symm.trans (mg_of KX G a_law)
 cases e
 have K_CR:=kls_of (mg:=mg) KX G AL wt wy wq wo wu wx wA o2 o3 wz
 have K_CP:=kls_of (mg:=mg) KX G AM wD wH wC wB wF wG wJ o2 o3 wI
 obtain ⟨aO,aG,bV⟩:=nh
 obtain ⟨gH,eS,jg⟩:=lZ
 obtain ⟨iJ,gD,lj⟩:=ng
 obtain ⟨cV,cz,fg⟩:=iy
 obtain ⟨dD,cU,fX⟩:=jq
 obtain ⟨eW,dB,i9⟩:=kx
 obtain ⟨iH,gB,lg⟩:=n9
 obtain ⟨gG,eR,jf⟩:=lY
 obtain ⟨eV,dA,i8⟩:=ku
 obtain ⟨nU,mf,pF⟩:=sY
 obtain ⟨gE,eP,jc⟩:=lW
 obtain ⟨bu,b9,aE⟩:=jn
 obtain ⟨iI,gC,lh⟩:=nc
 obtain ⟨cC,cb,dN⟩:=gR
 obtain ⟨cY,cu,gN⟩:=m4
 obtain ⟨gI,eT,jh⟩:=m3
 obtain ⟨fG,dQ,jW⟩:=oK
 obtain ⟨ba,aT,bS⟩:=eJ
 obtain ⟨iB,gu,l7⟩:=mZ
 have ia:=uC (C:=CR) (st:=bO) (ps:=["self","one","other"]) kT kr ko kH kq fun _ _ _ _ _ _ us hl=>match us,hl with|[_,_,_],_=>rfl
 have jj:=uC (C:=CP) (st:=cj) (ps:=["self","one","other"]) mw lV lO mq lQ fun _ _ _ _ _ _ us hl=>match us,hl with|[_,_,_],_=>rfl
 obtain ⟨iF,gz,la⟩:=n6
 obtain ⟨fF,dP,jV⟩:=oJ
 obtain ⟨iE,gw,l9⟩:=n5
 obtain ⟨iC,gv,l8⟩:=n4
 obtain ⟨mh,jN,om⟩:=pY
 obtain ⟨iG,gA,lb⟩:=n8
 obtain ⟨gF,eQ,jd⟩:=lX
 obtain ⟨gJ,eU,ji⟩:=m5
 obtain ⟨dC,cT,fW⟩:=jo
 obtain ⟨cW,cA,fj⟩:=iz
 have D_law:=bJ (mg:=mg) (st:=xV) (ps:=["_law_script"]) KX G a_law l_law d_law k_law fun _ _ _ _ _ _ us hl=>match us,hl with|[_],_=>rfl
 have gL:=ia
 have gM:=jj
 have N_R:=uC (C:=CR) (st:=s_nR) (ps:=["self","gaps"]) a_nR i_nR l_nR d_nR k_nR fun _ _ _ _ _ _ us hl=>match us,hl with|[_,_],_=>rfl
 have N_P:=uC (C:=CP) (st:=s_nP) (ps:=["self","gaps","beside"]) a_nP i_nP l_nP d_nP k_nP fun _ _ _ _ _ _ us hl=>match us,hl with|[_,_,_],_=>rfl
 have N_CN:=uC (C:=CN) (st:=vK) (ps:=["self","flight","time"]) a_nCN i_nCN l_nCN d_nCN k_nCN fun _ _ _ _ _ _ us hl=>match us,hl with|[_,_,_],_=>rfl
 have XCN:XMk K mg "NoTime" CN qO:=⟨mg_of KX G wU,sf,beq_iff_eq.mp i_nCN,vx⟩
 have Z:Zs K mg CR CP CN:=⟨⟨mg_of KX G wU,xnamed2 sf,⟨vA,vB,vz,vC,vw,Option.isSome_iff_exists.mp vy⟩⟩,⟨se,lC,sg⟩,⟨se,ou,sg⟩,K_CR,K_CP,(by intro C h;simp only [List.mem_cons,List.not_mem_nil,or_false] at h;exact h.elim (fun e=>by subst e;exact ⟨K_CR.cl,nK⟩) (fun e=>by subst e;exact ⟨K_CP.cl,lM⟩)),(by intro C h;simp only [List.mem_cons,List.not_mem_nil,or_false] at h;subst h;exact ⟨K_CP.cl,kj⟩),mg_none_of KX G xN,mg_none_of KX G r9,mg_none_of KX G ib,mg_none_of KX G tV,mg_none_of KX G aV,mg_none_of KX G gZ,mg_none_of KX G ll,mg_none_of KX G vt,mg_none_of KX G sd,mg_none_of KX G cL,mg_none_of KX G mx,mg_none_of KX G ot,mg_none_of KX G xM,⟨_,mg_of KX G dz⟩,⟨_,mg_of KX G gq⟩,⟨lK,jI,jE,ie,lI,du,jG,iq,ik,gd,jC,cN,jF,ip,ij,gc,jB,cM,il,gk,gh,eE,ig,cx,lJ,jH,jD,ic,lH,dq⟩⟩
 refine fin_mk D_law (fun s v=>.of_eq rfl) fun base=>law_ok (ro:=false) (mlaw:=yc CR CP CN) (fun n=>?_) (law_true CR CP CN x_ne)
 have B8:=okn_CN (P:=l.prog) (w:=w) (base:=base) (mg:=mg) N_CN.fn Z.aCN_flight Z.aCN_time
 have d7:=uz (n:=n) (P:=l.prog) (w:=w) (base:=base) Z bV
 have tN:=sJ (n:=n) (P:=l.prog) (w:=w) (base:=base) Z ⟨bV,d7⟩ jg
 have vj:=uy (n:=n) (P:=l.prog) (w:=w) (base:=base) Z ⟨bV,d7⟩ lj
 have pj:=pe (n:=n) (P:=l.prog) (w:=w) (base:=base) Z ⟨lj,vj⟩ ⟨bV,d7⟩ fg
 have qq:=pN (n:=n) (P:=l.prog) (w:=w) (base:=base) Z ⟨bV,d7⟩ fX
 have qY:=qH (n:=n) (P:=l.prog) (w:=w) (base:=base) Z ⟨bV,d7⟩ i9
 have vh:=uw (n:=n) (P:=l.prog) (w:=w) (base:=base) Z ⟨bV,d7⟩ lg
 have tM:=sI (n:=n) (P:=l.prog) (w:=w) (base:=base) Z ⟨jg,tN⟩ ⟨fg,pj⟩ ⟨fX,qq⟩ ⟨i9,qY⟩ ⟨lg,vh⟩ jf
 have qX:=qG (n:=n) (P:=l.prog) (w:=w) (base:=base) Z i8
 have AZ:=zG (n:=n) (P:=l.prog) (w:=w) (base:=base) Z pF
 have tK:=sG (n:=n) (P:=l.prog) (w:=w) (base:=base) Z ⟨pF,AZ⟩ jc
 have iN:=pL (n:=n) (P:=l.prog) (w:=w) (base:=base) Z ⟨i8,qX⟩ ⟨jc,tK⟩ aE
 have OKN_R:=okn_R (n:=n) (P:=l.prog) (w:=w) (base:=base) (CR:=CR) (CP:=CP) (CN:=CN) (C:=CR) aE iN N_R.fn K_CR.cl nK
 have OKN_RP:=okn_R (n:=n) (P:=l.prog) (w:=w) (base:=base) (CR:=CR) (CP:=CP) (CN:=CN) (C:=CP) aE iN N_R.fn K_CP.cl lM
 have OKN_P:=okn_P (n:=n) (P:=l.prog) (w:=w) (base:=base) (CR:=CR) (CP:=CP) (CN:=CN) aE iN ⟨x_s1,x_s2,x_s3,k_nR⟩ N_R.bd OKN_RP K_CR.mg (mg_none_of KX G gZ) N_P.fn K_CP.cl lM kj
 have vi:=ux (n:=n) (P:=l.prog) (w:=w) (base:=base) Z N_P OKN_P N_R OKN_R lh
 have oU:=oG (n:=n) (P:=l.prog) (w:=w) (base:=base) Z dN
 have oh:=sN (n:=n) (P:=l.prog) (w:=w) (base:=base) Z gN
 have tO:=sM (n:=n) (P:=l.prog) (w:=w) (base:=base) Z ⟨dN,oU⟩ ⟨gN,oh⟩ jh
 have qo:=vU (n:=n) (P:=l.prog) (w:=w) (base:=base) Z jW
 have iM:=mX (n:=n) (P:=l.prog) (w:=w) (base:=base) Z bS
 have vc:=um (n:=n) (P:=l.prog) (w:=w) (base:=base) Z ⟨bS,iM⟩ l7
 have cG:=qI (n:=n) (P:=l.prog) (w:=w) (base:=base) Z ia
 have di:=sP (n:=n) (P:=l.prog) (w:=w) (base:=base) Z jj
 have vf:=ur (n:=n) (P:=l.prog) (w:=w) (base:=base) Z gL cG gM di la
 have qm:=vT (n:=n) (P:=l.prog) (w:=w) (base:=base) Z ⟨jW,qo⟩ ⟨l7,vc⟩ ⟨la,vf⟩ N_CN XCN B8 jV
 have ve:=uq (n:=n) (P:=l.prog) (w:=w) (base:=base) Z ⟨bS,iM⟩ l9
 have vd:=uo (n:=n) (P:=l.prog) (w:=w) (base:=base) Z ⟨jV,qm⟩ ⟨jW,qo⟩ ⟨l9,ve⟩ gL cG gM di l8
 have yw:=xZ (n:=n) (P:=l.prog) (w:=w) (base:=base) Z ⟨jV,qm⟩ ⟨l8,vd⟩ om
 have vg:=uv (n:=n) (P:=l.prog) (w:=w) (base:=base) Z ⟨om,yw⟩ lb
 have tL:=sH (n:=n) (P:=l.prog) (w:=w) (base:=base) Z jd
 have tP:=sO (n:=n) (P:=l.prog) (w:=w) (base:=base) Z ⟨jd,tL⟩ ji
 have qp:=pM (n:=n) (P:=l.prog) (w:=w) (base:=base) Z fW
 have pk:=pf (n:=n) (P:=l.prog) (w:=w) (base:=base) Z ⟨fW,qp⟩ ⟨gN,oh⟩ fj
 have OK_law:=ok_law (n:=n) (P:=l.prog) (w:=w) (base:=base) Z ⟨jf,tM⟩ ⟨lh,vi⟩ ⟨jh,tO⟩ ⟨lb,vg⟩ ⟨ji,tP⟩ ⟨bV,d7⟩ ⟨fj,pk⟩ D_law
 exact OK_law
theorem walk {l:PySem.W.OpenLaw} {q:Program} {loose:List Str} {XP:(Str->Option Value)->Heap->Prop} {YP:World->Heap->Prop} {d:DefRec} {K:Params->PySem.W.Frag} (hn:l.most=some 63) (hdf:d.params.defaults=[])
  (hY:∀(w:World) (h:Heap),YP w h->(K w.params).In h)
  (F:∀(w:World) (mg:Str->Option Value) (fa:Addr) (h:Heap),(K w.params).In h->h.Ns mainGlobals mg->mg d.name=some (.ref fa) ->
   ∃fd:FuncData,(∀(s:Shared) (u:Value),BindsTo s fd ⟨[u],[]⟩ [("_law_script",u)])/\∀base:Heap,(K w.params).In base->base.Ns mainGlobals mg->cD l.prog w (K w.params) mg base CX0 8 fa fd ["_law_script"] (xS (K w.params))) :
  PySem.W.WalkO q loose XP YP l.row.toRowW d [] (fun f vs=>PySem.call f vs):=
 L2.walk_of (n:=63) (k:=8) (x:="_law_script") (CX:=fun _=>CX0) (sp:=fun w=>xS (K w.params)) hn (by decide) hdf ⟨rfl,by decide,by decide⟩ hY F (fun _ _ a ns hl _ hS=>⟨a,ns,rfl,hS,hl,fun _=>rfl⟩) fun _ _ _ _ _ z=>z
end Ru
open PySem PySem.W PyProof.Rows
noncomputable def _root_.PySem.W.Fast.tw17732310205913214595:Nat:=0
noncomputable def _root_.PySem.W.Fast.tw3048490184844424358:Nat:=0
noncomputable def _root_.PySem.W.Fast.tw4858481244644765543:Nat:=0
noncomputable def _root_.PySem.W.Fast.tw2744569697892546550:Nat:=0
noncomputable def _root_.PySem.W.Fast.tw7434635861244352879:Nat:=0
noncomputable def _root_.PySem.W.Fast.tw8426538245113332345:Nat:=0
noncomputable def _root_.PySem.W.Fast.tw3131183718191298649:Nat:=0
noncomputable def _root_.PySem.W.Fast.tw994141828030796391:Nat:=0
noncomputable def _root_.PySem.W.Fast.tw1939459723974689627:Nat:=0
noncomputable def _root_.PySem.W.Fast.tw16286606114715566304:Nat:=0
noncomputable def _root_.PySem.W.Fast.tw8468878977517669221:Nat:=0
noncomputable def _root_.PySem.W.Fast.tw17282582536750180374:Nat:=0
noncomputable def _root_.PySem.W.Fast.tw7158479173416604532:Nat:=0
noncomputable def _root_.PySem.W.Fast.tw13285741277045779267:Nat:=0
noncomputable def _root_.PySem.W.Fast.tw17715116408497071785:Nat:=0
noncomputable def _root_.PySem.W.Fast.tw6759462523087408764:Nat:=0
noncomputable def _root_.PySem.W.Fast.tw1778265867969285946:Nat:=0
noncomputable def _root_.PySem.W.Fast.tw16369868712469166228:Nat:=0
noncomputable def _root_.PySem.W.Fast.tw16515337997813615634:Nat:=0
noncomputable def _root_.PySem.W.Fast.tw3118189614277212286:Nat:=0
noncomputable def _root_.PySem.W.Fast.tw16845683706693997349:Nat:=0
noncomputable def _root_.PySem.W.Fast.tw15024776824015337926:Nat:=0
noncomputable def _root_.PySem.W.Fast.tw17898431792493768519:Nat:=0
noncomputable def _root_.PySem.W.Fast.tw15128622906126957473:Nat:=0
noncomputable def _root_.PySem.W.Fast.tw12267611502483083914:Nat:=0
noncomputable def _root_.PySem.W.Fast.tw4756155327621974150:Nat:=0
noncomputable def _root_.PySem.W.Fast.tw17073487004575414505:Nat:=0
noncomputable def _root_.PySem.W.Fast.tw9162249544573982489:Nat:=0
noncomputable def _root_.PySem.W.Fast.tw2355854872434463007:Nat:=0
noncomputable def _root_.PySem.W.Fast.tw5293481082294960074:Nat:=0
noncomputable def _root_.PySem.W.Fast.tw10179781590465842239:Nat:=0
noncomputable def _root_.PySem.W.Fast.tw15621780193951645650:Nat:=0
noncomputable def _root_.PySem.W.Fast.tw10529367811265600656:Nat:=0
noncomputable def _root_.PySem.W.Fast.tw10647587064197476987:Nat:=0
noncomputable def _root_.PySem.W.Fast.tw13103936242910805718:Nat:=0
noncomputable def _root_.PySem.W.Fast.tw7170101980852215361:Nat:=0
noncomputable def _root_.PySem.W.Fast.tw10420853182714581011:Nat:=0
noncomputable def _root_.PySem.W.Fast.tw14989290270998020485:Nat:=0
noncomputable def _root_.PySem.W.Fast.tw15191064516197524919:Nat:=0
noncomputable def _root_.PySem.W.Fast.tw4152416598934313538:Nat:=0
noncomputable def _root_.PySem.W.Fast.tw1259550490667395159:Nat:=0
noncomputable def _root_.PySem.W.Fast.tw4814768046599663227:Nat:=0
noncomputable def _root_.PySem.W.Fast.tw1097588604388386792:Nat:=0
noncomputable def _root_.PySem.W.Fast.tw18324307549367682156:Nat:=0
noncomputable def _root_.PySem.W.Fast.tw4669153027772561648:Nat:=0
noncomputable def _root_.PySem.W.Fast.tw1912642980172209259:Nat:=0
noncomputable def _root_.PySem.W.Fast.tw15961529412531251321:Nat:=0
noncomputable def _root_.PySem.W.Fast.tw6884146655617391494:Nat:=0
noncomputable def _root_.PySem.W.Fast.tw7589791486049311753:Nat:=0
noncomputable def _root_.PySem.W.Fast.tw17143203580918741990:Nat:=0
noncomputable def _root_.PySem.W.Fast.tw16522037974626700656:Nat:=0
noncomputable def _root_.PySem.W.Fast.tw7909317369686462840:Nat:=0
noncomputable def _root_.PySem.W.Fast.tw12877839643638285934:Nat:=0
noncomputable def _root_.PySem.W.Fast.tw11482241170460454802:Nat:=0
noncomputable def _root_.PySem.W.Fast.tw3855073677554181018:Nat:=0
noncomputable def _root_.PySem.W.Fast.tw18404855605068197538:Nat:=0
noncomputable def _root_.PySem.W.Fast.tw8745206020437394847:Nat:=0
noncomputable def _root_.PySem.W.Fast.tw1850912250688953679:Nat:=0
noncomputable def _root_.PySem.W.Fast.tw7332694553971152891:Nat:=0
noncomputable def _root_.PySem.W.Fast.tw13892746949576847893:Nat:=0
noncomputable def _root_.PySem.W.Fast.tw14492142335319269521:Nat:=0
noncomputable def _root_.PySem.W.Fast.tw4109804573013793788:Nat:=0
noncomputable def _root_.PySem.W.Fast.tw8490673871249782995:Nat:=0
noncomputable def _root_.PySem.W.Fast.tw17470608547195941864:Nat:=0
noncomputable def _root_.PySem.W.Fast.tw12663071310663405581:Nat:=0
noncomputable def _root_.PySem.W.Fast.tw6014286887466778619:Nat:=0
noncomputable def _root_.PySem.W.Fast.tw10010503855990595088:Nat:=0
noncomputable def _root_.PySem.W.Fast.tw3297630035252012512:Nat:=0
noncomputable def _root_.PySem.W.Fast.tw1298490291125273361:Nat:=0
set_option maxRecDepth 100000 in
set_option maxHeartbeats 0 in
theorem PySem.Challenge.cw_wakeorder_k32_free_times_holds : PySem.Challenge.rw_wakeorder_k32_free_times.Holds := by
 w_on;o_law;k_head;(case hw=>w_witness2)
 k_fill
 refine Ru.walk (l:=PySem.Challenge.rw_wakeorder_k32_free_times) rfl rfl (fun w h Y=>PySem.W.kIn_of Y) ?F
 case F=>
  intro w mg fa h KX G hmg
  refine' Ru.all_mk KX G hmg ?AL ?wt ?wy ?wq ?wo ?wu ?wx ?wA ?wz ?nK ?pO ?AM ?wD ?wH ?wC ?wB ?wF ?wG ?wJ ?wI ?lM ?kj ?o2 ?o3 ?x_ne ?nh ?lZ ?ng ?iy ?jq ?kx ?n9 ?lY ?ku ?sY ?lW ?jn ?nc ?gR ?m4 ?m3 ?oK ?eJ ?mZ ?kT ?kr ?ko ?kH ?kq ?mw ?lV ?lO ?mq ?lQ ?n6 ?oJ ?n5 ?n4 ?pY ?n8 ?lX ?m5 ?jo ?iz ?a_law ?l_law ?d_law ?k_law ?a_nR ?i_nR ?l_nR ?d_nR ?k_nR ?a_nP ?i_nP ?l_nP ?d_nP ?k_nP ?x_s1 ?x_s2 ?x_s3 ?wU ?a_nCN ?i_nCN ?l_nCN ?d_nCN ?k_nCN ?sf ?vx ?vA ?vB ?vz ?vC ?vw ?vy ?se ?sg ?lC ?ou ?xN ?r9 ?ib ?tV ?aV ?gZ ?ll ?vt ?sd ?cL ?mx ?ot ?xM ?dz ?gq ?lK ?jI ?jE ?ie ?lI ?du ?jG ?iq ?ik ?gd ?jC ?cN ?jF ?ip ?ij ?gc ?jB ?cM ?il ?gk ?gh ?eE ?ig ?cx ?lJ ?jH ?jD ?ic ?lH ?dq
  (case AL=>k_is)
  (case wt=>k_is)
  (case wy=>k_is)
  (case wq=>k_is)
  (case wo=>k_is)
  (case wu=>k_is)
  (case wx=>k_is)
  (case wA=>k_is)
  (case wz=>k_is)
  (case nK=>k_is)
  (case pO=>k_is)
  (case AM=>k_is)
  (case wD=>k_is)
  (case wH=>k_is)
  (case wC=>k_is)
  (case wB=>k_is)
  (case wF=>k_is)
  (case wG=>k_is)
  (case wJ=>k_is)
  (case wI=>k_is)
  (case lM=>k_is)
  (case kj=>k_is)
  (case o2=>k_is)
  (case o3=>k_is)
  (case x_ne=>first|k_is|kernel_rfl|rfl|decide +kernel)
  (case nh=>exact ⟨_,_,L2.bJ KX G (by k_is) (by k_is) (by k_is) (by k_is) fun _ _ _ _ _ _ us hl=>match us,hl with|[_,_],_=>rfl⟩)
  (case lZ=>exact ⟨_,_,L2.bJ KX G (by k_is) (by k_is) (by k_is) (by k_is) fun _ _ _ _ _ _ us hl=>match us,hl with|[_],_=>rfl⟩)
  (case ng=>exact ⟨_,_,L2.bJ KX G (by k_is) (by k_is) (by k_is) (by k_is) fun _ _ _ _ _ _ us hl=>match us,hl with|[_,_,_,_],_=>rfl⟩)
  (case iy=>exact ⟨_,_,L2.bJ KX G (by k_is) (by k_is) (by k_is) (by k_is) fun _ _ _ _ _ _ us hl=>match us,hl with|[_,_],_=>rfl⟩)
  (case jq=>exact ⟨_,_,L2.bJ KX G (by k_is) (by k_is) (by k_is) (by k_is) fun _ _ _ _ _ _ us hl=>match us,hl with|[_,_,_,_],_=>rfl⟩)
  (case kx=>exact ⟨_,_,L2.bJ KX G (by k_is) (by k_is) (by k_is) (by k_is) fun _ _ _ _ _ _ us hl=>match us,hl with|[_,_],_=>rfl⟩)
  (case n9=>exact ⟨_,_,L2.bJ KX G (by k_is) (by k_is) (by k_is) (by k_is) fun _ _ _ _ _ _ us hl=>match us,hl with|[_,_,_],_=>rfl⟩)
  (case lY=>exact ⟨_,_,L2.bJ KX G (by k_is) (by k_is) (by k_is) (by k_is) fun _ _ _ _ _ _ us hl=>match us,hl with|[_,_],_=>rfl⟩)
  (case ku=>exact ⟨_,_,L2.bJ KX G (by k_is) (by k_is) (by k_is) (by k_is) fun _ _ _ _ _ _ us hl=>match us,hl with|[_],_=>rfl⟩)
  (case sY=>exact ⟨_,_,L2.bJ KX G (by k_is) (by k_is) (by k_is) (by k_is) fun _ _ _ _ _ _ us hl=>match us,hl with|[_],_=>rfl⟩)
  (case lW=>exact ⟨_,_,L2.bJ KX G (by k_is) (by k_is) (by k_is) (by k_is) fun _ _ _ _ _ _ us hl=>match us,hl with|[_,_],_=>rfl⟩)
  (case jn=>exact ⟨_,_,L2.bJ KX G (by k_is) (by k_is) (by k_is) (by k_is) fun _ _ _ _ _ _ us hl=>match us,hl with|[_],_=>rfl⟩)
  (case nc=>exact ⟨_,_,L2.bJ KX G (by k_is) (by k_is) (by k_is) (by k_is) fun _ _ _ _ _ _ us hl=>match us,hl with|[_],_=>rfl⟩)
  (case gR=>exact ⟨_,_,L2.bJ KX G (by k_is) (by k_is) (by k_is) (by k_is) fun _ _ _ _ _ _ us hl=>match us,hl with|[_,_],_=>rfl⟩)
  (case m4=>exact ⟨_,_,L2.bJ KX G (by k_is) (by k_is) (by k_is) (by k_is) fun _ _ _ _ _ _ us hl=>match us,hl with|[_,_,_,_],_=>rfl⟩)
  (case m3=>exact ⟨_,_,L2.bJ KX G (by k_is) (by k_is) (by k_is) (by k_is) fun _ _ _ _ _ _ us hl=>match us,hl with|[_,_,_,_],_=>rfl⟩)
  (case oK=>exact ⟨_,_,L2.bJ KX G (by k_is) (by k_is) (by k_is) (by k_is) fun _ _ _ _ _ _ us hl=>match us,hl with|[_,_],_=>rfl⟩)
  (case eJ=>exact ⟨_,_,L2.bJ KX G (by k_is) (by k_is) (by k_is) (by k_is) fun _ _ _ _ _ _ us hl=>match us,hl with|[_],_=>rfl⟩)
  (case mZ=>exact ⟨_,_,L2.bJ KX G (by k_is) (by k_is) (by k_is) (by k_is) fun _ _ _ _ _ _ us hl=>match us,hl with|[_,_],_=>rfl⟩)
  (case kT=>k_is)
  (case kr=>k_is)
  (case ko=>k_is)
  (case kH=>k_is)
  (case kq=>k_is)
  (case mw=>k_is)
  (case lV=>k_is)
  (case lO=>k_is)
  (case mq=>k_is)
  (case lQ=>k_is)
  (case n6=>exact ⟨_,_,L2.bJ KX G (by k_is) (by k_is) (by k_is) (by k_is) fun _ _ _ _ _ _ us hl=>match us,hl with|[_,_,_,_],_=>rfl⟩)
  (case oJ=>exact ⟨_,_,L2.bJ KX G (by k_is) (by k_is) (by k_is) (by k_is) fun _ _ _ _ _ _ us hl=>match us,hl with|[_,_,_,_],_=>rfl⟩)
  (case n5=>exact ⟨_,_,L2.bJ KX G (by k_is) (by k_is) (by k_is) (by k_is) fun _ _ _ _ _ _ us hl=>match us,hl with|[_,_],_=>rfl⟩)
  (case n4=>exact ⟨_,_,L2.bJ KX G (by k_is) (by k_is) (by k_is) (by k_is) fun _ _ _ _ _ _ us hl=>match us,hl with|[_,_,_,_],_=>rfl⟩)
  (case pY=>exact ⟨_,_,L2.bJ KX G (by k_is) (by k_is) (by k_is) (by k_is) fun _ _ _ _ _ _ us hl=>match us,hl with|[_,_,_,_],_=>rfl⟩)
  (case n8=>exact ⟨_,_,L2.bJ KX G (by k_is) (by k_is) (by k_is) (by k_is) fun _ _ _ _ _ _ us hl=>match us,hl with|[_,_,_,_],_=>rfl⟩)
  (case lX=>exact ⟨_,_,L2.bJ KX G (by k_is) (by k_is) (by k_is) (by k_is) fun _ _ _ _ _ _ us hl=>match us,hl with|[_],_=>rfl⟩)
  (case m5=>exact ⟨_,_,L2.bJ KX G (by k_is) (by k_is) (by k_is) (by k_is) fun _ _ _ _ _ _ us hl=>match us,hl with|[_,_],_=>rfl⟩)
  (case jo=>exact ⟨_,_,L2.bJ KX G (by k_is) (by k_is) (by k_is) (by k_is) fun _ _ _ _ _ _ us hl=>match us,hl with|[_,_],_=>rfl⟩)
  (case iz=>exact ⟨_,_,L2.bJ KX G (by k_is) (by k_is) (by k_is) (by k_is) fun _ _ _ _ _ _ us hl=>match us,hl with|[_,_,_,_],_=>rfl⟩)
  (case a_law=>k_is)
  (case l_law=>k_is)
  (case d_law=>k_is)
  (case k_law=>k_is)
  (case a_nR=>k_is)
  (case i_nR=>k_is)
  (case l_nR=>k_is)
  (case d_nR=>k_is)
  (case k_nR=>k_is)
  (case a_nP=>k_is)
  (case i_nP=>k_is)
  (case l_nP=>k_is)
  (case d_nP=>k_is)
  (case k_nP=>k_is)
  (case x_s1=>first|k_is|kernel_rfl|rfl|decide +kernel)
  (case x_s2=>first|k_is|kernel_rfl|rfl|decide +kernel)
  (case x_s3=>first|k_is|kernel_rfl|rfl|decide +kernel)
  (case wU=>first|k_is|kernel_rfl|rfl|decide +kernel)
  (case a_nCN=>k_is)
  (case i_nCN=>k_is)
  (case l_nCN=>k_is)
  (case d_nCN=>k_is)
  (case k_nCN=>k_is)
  (case sf=>first|k_is|kernel_rfl|rfl|decide +kernel)
  (case vx=>first|k_is|kernel_rfl|rfl|decide +kernel)
  (case vA=>first|k_is|kernel_rfl|rfl|decide +kernel)
  (case vB=>first|k_is|kernel_rfl|rfl|decide +kernel)
  (case vz=>first|k_is|kernel_rfl|rfl|decide +kernel)
  (case vC=>first|k_is|kernel_rfl|rfl|decide +kernel)
  (case vw=>first|k_is|kernel_rfl|rfl|decide +kernel)
  (case vy=>first|k_is|kernel_rfl|rfl|decide +kernel)
  (case se=>first|k_is|kernel_rfl|rfl|decide +kernel)
  (case sg=>first|k_is|kernel_rfl|rfl|decide +kernel)
  (case lC=>first|k_is|kernel_rfl|rfl|decide +kernel)
  (case ou=>first|k_is|kernel_rfl|rfl|decide +kernel)
  (case xN=>k_is)
  (case r9=>k_is)
  (case ib=>k_is)
  (case tV=>k_is)
  (case aV=>k_is)
  (case gZ=>k_is)
  (case ll=>k_is)
  (case vt=>k_is)
  (case sd=>k_is)
  (case cL=>k_is)
  (case mx=>k_is)
  (case ot=>k_is)
  (case xM=>k_is)
  (case dz=>k_is)
  (case gq=>k_is)
  (case lK=>first|k_is|kernel_rfl|rfl|decide +kernel)
  (case jI=>first|k_is|kernel_rfl|rfl|decide +kernel)
  (case jE=>first|k_is|kernel_rfl|rfl|decide +kernel)
  (case ie=>first|k_is|kernel_rfl|rfl|decide +kernel)
  (case lI=>first|k_is|kernel_rfl|rfl|decide +kernel)
  (case du=>first|k_is|kernel_rfl|rfl|decide +kernel)
  (case jG=>first|k_is|kernel_rfl|rfl|decide +kernel)
  (case iq=>first|k_is|kernel_rfl|rfl|decide +kernel)
  (case ik=>first|k_is|kernel_rfl|rfl|decide +kernel)
  (case gd=>first|k_is|kernel_rfl|rfl|decide +kernel)
  (case jC=>first|k_is|kernel_rfl|rfl|decide +kernel)
  (case cN=>first|k_is|kernel_rfl|rfl|decide +kernel)
  (case jF=>first|k_is|kernel_rfl|rfl|decide +kernel)
  (case ip=>first|k_is|kernel_rfl|rfl|decide +kernel)
  (case ij=>first|k_is|kernel_rfl|rfl|decide +kernel)
  (case gc=>first|k_is|kernel_rfl|rfl|decide +kernel)
  (case jB=>first|k_is|kernel_rfl|rfl|decide +kernel)
  (case cM=>first|k_is|kernel_rfl|rfl|decide +kernel)
  (case il=>first|k_is|kernel_rfl|rfl|decide +kernel)
  (case gk=>first|k_is|kernel_rfl|rfl|decide +kernel)
  (case gh=>first|k_is|kernel_rfl|rfl|decide +kernel)
  (case eE=>first|k_is|kernel_rfl|rfl|decide +kernel)
  (case ig=>first|k_is|kernel_rfl|rfl|decide +kernel)
  (case cx=>first|k_is|kernel_rfl|rfl|decide +kernel)
  (case lJ=>first|k_is|kernel_rfl|rfl|decide +kernel)
  (case jH=>first|k_is|kernel_rfl|rfl|decide +kernel)
  (case jD=>first|k_is|kernel_rfl|rfl|decide +kernel)
  (case ic=>first|k_is|kernel_rfl|rfl|decide +kernel)
  (case lH=>first|k_is|kernel_rfl|rfl|decide +kernel)
  (case dq=>first|k_is|kernel_rfl|rfl|decide +kernel)
