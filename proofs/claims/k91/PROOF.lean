import PyProof.Rows.All
import PyProof.Rows.SetFrom
import KE.KRevIter
import PyProof.InstStoreFacts
import PyProof.ExcInit
import PyProof.IsiBase
import PyProof.ExcAttrAll.ValueError
import OpenK.KDescr
import KE.KIsAll
import PyProof.Rows.CatchOwn
import PyProof.RulesTry
import PyProof.RulesAs
import PyProof.RulesDel
import OpenK.KOwn
import PyProof.ExcBaseAll.ValueError
import PyProof.StationsW
import Wide.All
import OpenK.AllK
import Wide.FinOn
import Lean
import PyProof.EqAt
import PyProof.EqKinds
import PyProof.NeKinds
import PyProof.TupleCall
import PySem.Challenge.RW_wakeorder_k91_whole_mirrored
set_option Elab.async false
set_option linter.all false
set_option maxRecDepth 100000
set_option maxHeartbeats 4000000
open PySem.W (lookIn plainOver takerIn specialIn keepIn takesIn kitOne kia_one callWith_K fnOf codeIn nsIn mg_of kitAny mg_none_of)
abbrev Pn:=PySem.W.Frag
abbrev Vp:=List (PySem.Addr×PySem.Obj)
abbrev Mq:=PySem.Value->PySem.Shared->Prop
abbrev Ld:=PySem.Str->Option PySem.Value
namespace L2
open PySem PySem.Spec PyProof.Rows
variable {κ:Type} {a b dx C:Addr} {P prog:Program} {w:World} {h h':Heap} {x name m qual:Str} {e c tg:Expr} {pins:Vp} {s s':Shared} {g':Array GenState} {ch fp:List Addr} {N ps:List Str} {i j k n:Nat} {A:Around} {E:Mq} {u:Value} {Q:Unit->Shared->Prop} {pos pos' p apos:Pos} {K:Pn} {es:List Expr} {g:Int->Int->Int} {body:List Stmt} {op op':CmpOp} {us:List Value} {mA mg:Ld} {pl:Sem Bool} {kw:List (Str×Value)} {outer:List Env} {fd:FuncData} {scope:Scope}
noncomputable abbrev Key:=Sum Int Str
noncomputable def keyIs:Key->Value->Bool
 |.inl k,v=>Value.isInt k v
 |.inr x,v=>Value.isStrOf x v
noncomputable def keyH (w:World):Key->Int
 |.inl k=>hashInt k
 |.inr x=>hashStr w x
theorem dj:∀{k:Key} {v:Value},keyIs k v=true->(∃i t,k=Sum.inl i/\v=Value.int i t)\/(∃x t,k=Sum.inr x/\v=Value.str x t)
 |.inl i,v,h=>by
  obtain ⟨t,e⟩:=Value.isInt_shape (k:=i) (v:=v) h;exact .inl ⟨i,t,rfl,e⟩
 |.inr x,v,h=>by
  obtain ⟨t,e⟩:=Value.isStrOf_shape (x:=x) (v:=v) h;exact .inr ⟨x,t,rfl,e⟩
theorem key_ll (a b:Int):decide ((Sum.inl a:Key)=Sum.inl b)=(a==b):=by
 by_cases e:a=b
 ·subst e;simp
 ·have h:¬(Sum.inl a:Key)=Sum.inl b:=fun q=>e (Sum.inl.inj q);rw [decide_eq_false h];exact (beq_eq_false_iff_ne.mpr e).symm
theorem key_rr (a b:Str):decide ((Sum.inr a:Key)=Sum.inr b)=decide (a=b):=by
 by_cases e:a=b
 ·subst e;simp
 ·have h:¬(Sum.inr a:Key)=Sum.inr b:=fun q=>e (Sum.inr.inj q);rw [decide_eq_false h,decide_eq_false e]
theorem key_lr (a:Int) (b:Str):decide ((Sum.inl a:Key)=Sum.inr b)=false:=decide_eq_false (fun q=>nomatch q)
theorem key_rl (a:Str) (b:Int):decide ((Sum.inr a:Key)=Sum.inl b)=false:=decide_eq_false (fun q=>nomatch q)
noncomputable def Ab (prog:Program) (w:World):PySem.KeyKind prog w Key where
 is:=keyIs
 hash:=keyH w
 inj:=fun v a b ha hb=>by
  rcases dj ha with ⟨i,t,rfl,rfl⟩|⟨x,t,rfl,rfl⟩
  ·rcases dj hb with ⟨j,u,rfl,e⟩|⟨y,u,rfl,e⟩
   ·injection e with e1 _;rw [e1]
   ·exact nomatch e
  ·rcases dj hb with ⟨j,u,rfl,e⟩|⟨y,u,rfl,e⟩
   ·exact nomatch e
   ·injection e with e1 _;rw [e1]
 byValue:=fun k v h=>by
  rcases dj h with ⟨i,t,rfl,rfl⟩|⟨x,t,rfl,rfl⟩<;>rfl
 pyHash:=fun hv h=>by
  rcases dj hv with ⟨i,t,rfl,rfl⟩|⟨x,t,rfl,rfl⟩
  ·exact wpAny_pyHash_int h
  ·exact wpAny_pyHash_str h
 eqBool:=fun hu hv h=>by
  rcases dj hu with ⟨i,t,rfl,rfl⟩|⟨x,t,rfl,rfl⟩
  ·rcases dj hv with ⟨j,u,rfl,rfl⟩|⟨y,u,rfl,rfl⟩
   ·rw [key_ll] at h;exact wpAny_eqBool_int h
   ·rw [key_lr] at h;exact SeqAt.EqAt.int_str i t y u _ _ _ _ h
  ·rcases dj hv with ⟨j,u,rfl,rfl⟩|⟨y,u,rfl,rfl⟩
   ·rw [key_rl] at h;exact SeqAt.EqAt.str_int x t j u _ _ _ _ h
   ·rw [key_rr] at h;exact wpAny_eqBool_str h
 «strs»:=fun k x t v h=>by
  rcases dj h with ⟨i,u,rfl,e⟩|⟨y,u,rfl,e⟩
  ·exact nomatch e
  ·injection e with e1 _
   subst e1;cases v<;>rfl
inductive V where
 |non|bl (b:Bool)|int (i:Int)|str (x:Str)|byt (b:Array UInt8)|flt (b:UInt64)|ref (a:Addr)|ty (n:String)
 deriving DecidableEq
variable {v y:V} {xs vs:List V}
noncomputable def RelV:V->Value->Prop
 |.non,u=>u=Value.none
 |.bl b,u=>u=Value.bool b
 |.int i,u=>∃t,u=Value.int i t
 |.str x,u=>∃t,u=Value.str x t
 |.byt b,u=>∃t,u=Value.bytes b t
 |.flt b,u=>∃t,u=Value.float b t
 |.ref a,u=>u=Value.ref a
 |.ty n,u=>u=Value.type n
noncomputable abbrev Vals:List V->List Value->Prop:=Paired RelV
theorem Vals.length {xs:List V} {us:List Value} (r:Vals xs us):xs.length=us.length:=Paired.length r
theorem Vals.get:∀{xs:List V} {us:List Value} {i:Nat} {x:V},Vals xs us->xs[i]? =some x->∃u,us[i]? =some u/\RelV x u
 |_,_,_,_,.nil,e=>by simp at e
 |_,_,0,_,.cons r _,e=>by simp at e;subst e;exact ⟨_,rfl,r⟩
 |_,_,i+1,x,.cons _ t,e=>by
  obtain ⟨u,h1,h2⟩:=Vals.get (i:=i) (x:=x) t (by simpa using e);exact ⟨u,by simpa using h1,h2⟩
theorem Vals.set {x:V} {u:Value} (r:RelV x u):∀{xs:List V} {us:List Value} (i:Nat),Vals xs us->Vals (xs.set i x) (us.set i u)
 |_,_,_,.nil=>.nil
 |_,_,0,.cons _ t=>.cons r t
 |_,_,i+1,.cons q t=>.cons q (Vals.set r i t)
theorem Vals.append:∀{xs ys:List V} {us ws:List Value},Vals xs us->Vals ys ws->Vals (xs++ys) (us++ws)
 |_,_,_,_,.nil,s=>s
 |_,_,_,_,.cons r t,s=>.cons r (Vals.append t s)
theorem Vals.take:∀{xs:List V} {us:List Value} (n:Nat),Vals xs us->Vals (xs.take n) (us.take n)
 |_,_,0,_=>.nil
 |_,_,_+1,.nil=>.nil
 |_,_,n+1,.cons r t=>.cons r (Vals.take n t)
theorem Vals.drop:∀{xs:List V} {us:List Value} (n:Nat),Vals xs us->Vals (xs.drop n) (us.drop n)
 |_,_,0,r=>r
 |_,_,_+1,.nil=>.nil
 |_,_,n+1,.cons _ t=>Vals.drop n t
noncomputable def zt:Option V->Option Value->Prop
 |some v,some u=>RelV v u
 |none,none=>True
 |_,_=>False
noncomputable def KV:List (κ×V)->List (κ×Value)->Prop:=Paired fun (p:κ×V) (q:κ×Value)=>p.1=q.1/\RelV p.2 q.2
noncomputable def kV:Key->V
 |.inl i=>.int i
 |.inr x=>.str x
inductive HO where
  |lst (xs:List V)
  |tup (xs:List V)
  |dK (kvs:List (Key×V))|dT (kvs:List (List Key×V))
  |set (S:Int->Bool) (n:Nat)
  |ins (C dx:Addr) (fs:List (Str×V))
  |own (x:Addr)
  |xd (fs:List (Str×V))
  |met (f x:Addr)
  |rng (lo hi:Int)
  |frz (o:Obj) (u:HO)
  |tbl (ps:Array Value)
  |ext (φ:Heap->Prop)
variable {o:HO}
noncomputable abbrev Hp:=Addr->Option HO
variable {H H':Hp}
noncomputable def upd (H:Hp) (a:Addr) (o:HO):Hp:=fun b=>if b=a then some o else H b
theorem ar:upd H a o a=some o:=by unfold upd;rw [if_pos rfl]
theorem aw (h:b≠a):upd H a o b=H b:=by unfold upd;rw [if_neg h]
theorem aY (h:H a=some o) (h':H b=none):a≠b:=by
 intro e;subst e;rw [h] at h';cases h'
section
variable (P:Program) (w:World)
noncomputable def fX (H:Hp) (h:Heap) (a:Addr):HO->Prop
 |.lst xs=>xs.length<=sizeLine/\∃(its:List Value) (n:Nat),Vals xs its/\h.get? a=some {cls:=.type "list",data:=.seq its.toArray n}
 |.tup xs=>xs.length<=sizeLine/\∃its:List Value,Vals xs its/\IsTup h a its.toArray
 |.dK kvs=>kvs.length<=sizeLine/\(a==sysModules)=false/\∃vs,KV kvs vs/\h.DictOf (Ab P w) a vs
 |.dT kvs=>kvs.length<=sizeLine/\(a==sysModules)=false/\∃xs:List (List Key×Addr×Value),
   Paired (fun (p:List Key×V) (q:List Key×Addr×Value)=>p.1=q.1/\H q.2.1=some (.tup (p.1.map kV))/\RelV p.2 q.2.2) kvs xs /\
   ∃o es ep,h.get? a=some o/\o.ExactDict/\o.data=.dict es ep/\es.toList=xs.map (entryOfKey (tupleKind (Ab P w)))/\(xs.map (·.1)).Nodup
 |.set S n=>h.SetOf (intKind P w) a S n
 |.ins C dx fs=>H dx=some (.own a)/\fs.length<=1000/\dx≠a/\h.get? a=some (PySem.W.instObj C dx) /\
   ∃mA,h.Ns1 dx mA/\(∀f,zt (fs.lookup f) (mA f))/\PySem.Within mA (fs.map (·.1))
 |.own _=>∃o,h.get? a=some o
 |.xd fs=>∃mA,h.Ns1 a mA/\∀f,zt (fs.lookup f) (mA f)
 |.rng lo hi=>∃t u v,h.get? a=some {cls:=.type "range",data:=.fields #[.int lo t,.int hi u,.int 1 v]}
 |.frz o u=>h.get? a=some o/\fX H h a u
 |.tbl ps=>h.get? a=some {cls:=.none,data:=.fields ps}
 |.met f x=>h.get? a=some (PySem.W.methodObj (.ref f) (.ref x))
 |.ext φ=>φ h/\(∃o,h.get? a=some o)/\∀h1 h2:Heap,φ h1->(∀o,h1.get? a=some o->h2.get? a=some o)->φ h2
noncomputable def HOk (H:Hp) (h:Heap):Prop:=∀a o,H a=some o->fX P w H h a o
end
section
theorem fX.lt (x:fX P w H h a o):a<h.objs.size:=by
 cases o with
 |lst xs=>obtain ⟨_,_,_,_,e⟩:=x;exact Heap.lt_size e
 |tup xs=>obtain ⟨_,_,_,p⟩:=x;exact p.lt
 |dK kvs=>obtain ⟨_,_,_,_,o,_,_,e,_⟩:=x;exact Heap.lt_size e
 |dT kvs=>obtain ⟨_,_,_,_,o,_,_,e,_⟩:=x;exact Heap.lt_size e
 |set S n=>obtain ⟨o,_,_,_,e,_⟩:=x;exact Heap.lt_size e
 |ins C dx fs=>obtain ⟨_,_,_,e,_⟩:=x;exact Heap.lt_size e
 |own y=>obtain ⟨_,e⟩:=x;exact Heap.lt_size e
 |xd fs=>obtain ⟨_,⟨_,_,_,e,_⟩,_⟩:=x;exact Heap.lt_size e
 |rng lo hi=>obtain ⟨_,_,_,e⟩:=x;exact Heap.lt_size e
 |frz ob u=>obtain ⟨e,_⟩:=x;exact Heap.lt_size e
 |tbl ps=>exact Heap.lt_size (show h.get? a=some _ from x)
 |met f y=>exact Heap.lt_size (show h.get? a=some _ from x)
 |ext φ=>obtain ⟨_,⟨_,e⟩,_⟩:=x;exact Heap.lt_size e
theorem Paired.mapP {α β:Type} {F G:α->β->Prop}:∀{l₁:List α} {l₂:List β},Paired F l₁ l₂->(∀a b,F a b->G a b)->Paired G l₁ l₂
 |_,_,.nil,_=>.nil
 |_,_,.cons r t,f=>.cons (f _ _ r) (Paired.mapP t f)
theorem fX.Bf (x:fX P w H h a o) (k:∀b u,(b=a\/H b=some (.own a))->h.get? b=some u->h'.get? b=some u)
  (ho:∀b,H b=some (.own a)->H' b=some (.own a)) (ht:∀b xs,H b=some (.tup xs)->H' b=some (.tup xs)):fX P w H' h' a o:=by
 induction o with
 |lst xs=>obtain ⟨z,its,n,r,e⟩:=x;exact ⟨z,its,n,r,k _ _ (.inl rfl) e⟩
 |tup xs=>obtain ⟨z,its,r,ob,e,c⟩:=x;exact ⟨z,its,r,ob,k _ _ (.inl rfl) e,c⟩
 |dK kvs=>obtain ⟨z,y,vs,r,ob,es,ep,e,c⟩:=x;exact ⟨z,y,vs,r,ob,es,ep,k _ _ (.inl rfl) e,c⟩
 |dT kvs=>
  obtain ⟨z,y,xs,r,ob,es,ep,e,c⟩:=x;exact ⟨z,y,xs,Paired.mapP r fun p q z=>⟨z.1,ht _ _ z.2.1,z.2.2⟩,ob,es,ep,k _ _ (.inl rfl) e,c⟩
 |set S n=>obtain ⟨ob,es,ep,t,e,c⟩:=x;exact ⟨ob,es,ep,t,k _ _ (.inl rfl) e,c⟩
 |ins C dx fs=>
  obtain ⟨d,z,ne,e,mA,⟨od,es,ep,e2,c⟩,r⟩:=x;exact ⟨ho _ d,z,ne,k _ _ (.inl rfl) e,mA,⟨od,es,ep,k _ _ (.inr d) e2,c⟩,r⟩
 |own y=>obtain ⟨ob,e⟩:=x;exact ⟨ob,k _ _ (.inl rfl) e⟩
 |xd fs=>obtain ⟨mA,⟨od,es,ep,e,c⟩,r⟩:=x;exact ⟨mA,⟨od,es,ep,k _ _ (.inl rfl) e,c⟩,r⟩
 |rng lo hi=>obtain ⟨t,u,v,e⟩:=x;exact ⟨t,u,v,k _ _ (.inl rfl) e⟩
 |frz ob u ih=>obtain ⟨e,q⟩:=x;exact ⟨k _ _ (.inl rfl) e,ih q⟩
 |tbl ps=>
  have e:h.get? a=some {cls:=.none,data:=.fields ps}:=x;show h'.get? a=some {cls:=.none,data:=.fields ps};exact k a _ (.inl rfl) e
 |met f y=>
  have e:h.get? a=some (PySem.W.methodObj (.ref f) (.ref y)):=x;show h'.get? a=some (PySem.W.methodObj (.ref f) (.ref y));exact k a _ (.inl rfl) e
 |ext φ=>obtain ⟨p,⟨o,e⟩,st⟩:=x;exact ⟨st _ _ p fun o q=>k _ _ (.inl rfl) q,⟨o,k _ _ (.inl rfl) e⟩,st⟩
theorem HOk.lt (x:HOk P w H h) (e:H a=some o):a<h.objs.size:=(x a o e).lt
theorem HOk.fresh (x:HOk P w H h) (e:h.objs.size<=a):H a=none:=by
 cases q:H a with
 |none=>rfl
 |some u=>exact absurd (Nat.lt_of_lt_of_le (x.lt q) e) (Nat.lt_irrefl _)
theorem HOk.kept (x:HOk P w H h) (k:∀b u,h.get? b=some u->h'.get? b=some u):HOk P w H h':=fun a o e=>
 (x a o e).Bf (fun b u _ q=>k b u q) (fun _ q=>q) fun _ _ q=>q
theorem HOk.laid (x:HOk P w H h) (k:∀b u,h.get? b=some u->h'.get? b=some u) (hp:h.objs.size<=a) (new:fX P w (upd H a o) h' a o):HOk P w (upd H a o) h':=fun b u e=>by
 have hn:=x.fresh hp;by_cases hb:b=a
 ·subst hb;rw [ar] at e;cases e;exact new
 ·rw [aw hb] at e;exact (x b u e).Bf (fun c v _ q=>k c v q) (fun c q=>by rw [aw (aY q hn)];exact q) fun c xs q=>by rw [aw (aY q hn)];exact q
end
noncomputable def Rd (H:Hp) (a:Addr) (u:HO):Prop:=H a=some u\/∃o,H a=some (.frz o u)
theorem Rd.ok {u:HO} (r:Rd H a u) (x:HOk P w H h):fX P w H h a u:=by
 rcases r with r|⟨o,r⟩
 ·exact x a u r
 ·obtain ⟨_,q⟩:=x a _ r;exact q
noncomputable def Mut:Option HO->Prop
 |some (.lst _)=>True
 |some (.dK _)=>True
 |some (.dT _)=>True
 |some (.set _ _)=>True
 |some (.ins _ _ _)=>True
 |some (.ext _)=>True
 |_=>False
section
variable {x e:Addr} {o':HO}
theorem HOk.write (ok:HOk P w H h) (mu:Mut (H x)) (he:e=x\/H e=some (.own x)) (k:∀b u,b≠e->h.get? b=some u->h'.get? b=some u) (heo:∃u,h'.get? e=some u)
  (new:fX P w (upd H x o') h' x o'):HOk P w (upd H x o') h':=fun b u q=>by
 have nown:∀c y,H c=some (.own y)->c≠x:=fun c y r z=>by subst z;rw [r] at mu;exact mu
 have ntup:∀c xs,H c=some (.tup xs)->c≠x:=fun c xs r z=>by subst z;rw [r] at mu;exact mu
 by_cases hb:b=x
 ·subst hb;rw [ar] at q;cases q;exact new
 ·rw [aw hb] at q;by_cases hbe:b=e
  ·have q':H b=some (.own x):=by
    rcases he with z|z
    ·exact absurd (hbe.trans z) hb
    ·rw [hbe];exact z
   rw [q] at q';cases q';obtain ⟨v,hv⟩:=heo;exact ⟨v,by rw [hbe];exact hv⟩
  ·refine (ok b u q).Bf (fun c v hc r=>k c v ?_ r) (fun c r=>by rw [aw (nown c b r)];exact r) fun c xs r=>by rw [aw (ntup c xs r)];exact r
   rcases hc with rfl|hc
   ·exact hbe
   ·rintro rfl;rcases he with z|z
    ·exact nown c b hc z
    ·rw [hc] at z;cases z;exact hb rfl
end
structure Un (fs ex:List Addr) (H H':Hp) (h h':Heap):Prop where
 keep:∀b o,h.get? b=some o->H b=none->b∉fs->b∉ex->h'.get? b=some o
 slot:∀b o,h.get? b=some o->H b=none->b∈fs->b∉ex->∃sl,h'.get? b=some {o with slots:=sl}
 free:∀b o,h.get? b=some o->H b=none->b∉ex->H' b=none
 there:∀b o,h.get? b=some o->b∉ex->∃o',h'.get? b=some o'
 tups:∀b xs,H b=some (.tup xs)->H' b=some (.tup xs)
 frzs:∀b o u,H b=some (.frz o u)->H' b=some (.frz o u)
 tbls:∀b ps,H b=some (.tbl ps)->∃more,H' b=some (.tbl (ps++more))
section
variable {fs ex:List Addr} {H1 H2:Hp} {h1 h2:Heap} {x e:Addr} 
theorem Un.any (u:Un fs ex H H1 h h1) {ob:Obj} (q:h.get? b=some ob) (n:H b=none) (hx:b∉ex):∃sl,h1.get? b=some {ob with slots:=sl}:=by
 by_cases hb:b∈fs
 ·exact u.slot b ob q n hb hx
 ·exact ⟨ob.slots,u.keep b ob q n hb hx⟩
theorem Un.trans (a:Un fs ex H H1 h h1) (b:Un fs ex H1 H2 h1 h2):Un fs ex H H2 h h2 where
 keep:=fun c ob q n hc hx=>b.keep c ob (a.keep c ob q n hc hx) (a.free c ob q n hx) hc hx
 slot:=fun c ob q n hc hx=>by
  obtain ⟨sl,e1⟩:=a.slot c ob q n hc hx;obtain ⟨sl',e2⟩:=b.slot c _ e1 (a.free c ob q n hx) hc hx;exact ⟨sl',e2⟩
 free:=fun c ob q n hx=>by
  obtain ⟨o',e1⟩:=a.there c ob q hx;exact b.free c o' e1 (a.free c ob q n hx) hx
 there:=fun c ob q hx=>by
  obtain ⟨o',e1⟩:=a.there c ob q hx;exact b.there c o' e1 hx
 tups:=fun c xs q=>b.tups c xs (a.tups c xs q)
 frzs:=fun c ob xs q=>b.frzs c ob xs (a.frzs c ob xs q)
 tbls:=fun c ps q=>by
  obtain ⟨m1,e1⟩:=a.tbls c ps q;obtain ⟨m2,e2⟩:=b.tbls c _ e1;exact ⟨m1++m2,by rw [e2,Array.append_assoc]⟩
theorem Un.kept (k:∀b u,h.get? b=some u->h'.get? b=some u):Un fs ex H H h h':=
 ⟨fun b ob q _ _ _=>k b ob q,fun b ob q _ _ _=>⟨ob.slots,k b ob q⟩,fun _ _ _ n _=>n,fun b ob q _=>⟨ob,k b ob q⟩,fun _ _ q=>q,fun _ _ _ q=>q,fun _ ps q=>⟨#[],by rw [q];simp⟩⟩
theorem Un.refl:Un fs ex H H h h:=Un.kept fun _ _ q=>q
theorem Un.laid (k:∀b u,h.get? b=some u->h'.get? b=some u) (hp:h.objs.size<=a) (hn:H a=none):Un fs ex H (upd H a o) h h' where
 keep:=fun b u q _ _ _=>k b u q
 slot:=fun b u q _ _ _=>⟨u.slots,k b u q⟩
 free:=fun b u q n _=>by rw [aw (Nat.ne_of_lt (Nat.lt_of_lt_of_le (Heap.lt_size q) hp))];exact n
 there:=fun b u q _=>⟨u,k b u q⟩
 tups:=fun b xs q=>by rw [aw (aY q hn)];exact q
 frzs:=fun b u xs q=>by rw [aw (aY q hn)];exact q
 tbls:=fun b ps q=>⟨#[],by rw [aw (aY q hn),q];simp⟩
theorem Un.write (mu:Mut (H x)) (he:e=x\/H e=some (.own x)) (k:∀b u,b≠e->h.get? b=some u->h'.get? b=some u) (heo:∃u,h'.get? e=some u):Un fs ex H (upd H x o) h h':=by
 have hx:∀b,H b=none->b≠x:=fun b n z=>by subst z;rw [n] at mu;exact mu
 have hb:∀b,H b=none->b≠e:=fun b n z=>by
  subst z;rcases he with r|r
  ·exact hx b n r
  ·rw [n] at r;cases r
 have hm:∀b u,H b=some u->¬Mut (some u)->b≠x:=fun b u q nm z=>by subst z;rw [q] at mu;exact nm mu
 refine ⟨fun b u q n _ _=>k b u (hb b n) q,fun b u q n _ _=>⟨u.slots,k b u (hb b n) q⟩,fun b u q n _=>by rw [aw (hx b n)];exact n,fun b u q _=>?_,
  fun b xs q=>by rw [aw (hm b _ q fun z=>z)];exact q,fun b u xs q=>by rw [aw (hm b _ q fun z=>z)];exact q,fun b ps q=>⟨#[],by rw [aw (hm b _ q fun z=>z),q];simp⟩⟩
 by_cases hbe:b=e
 ·subst hbe;exact heo
 ·exact ⟨u,k b u hbe q⟩
end
noncomputable def trk (h:Heap) (H:Hp):List Addr:=(List.range h.objs.size).filter fun a=>(H a).isSome
noncomputable def hidT (h:Heap) (H:Hp):Heap:=PySem.W.hideAll h (trk h H)
theorem EK (h:Heap) (H:Hp):(hidT h H).objs.size=h.objs.size:=PySem.W.hideAll_size _ _
theorem hidT_get {o:Obj} (e:h.get? b=some o) (n:H b=none):(hidT h H).get? b=some o:=
 PySem.W.hideAll_get _ e fun hm=>by
  have q:(H b).isSome=true:=(List.mem_filter.mp hm).2;rw [n] at q;simp at q
theorem of_hidT {o:Obj} (e:(hidT h H).get? b=some o):h.get? b=some o/\H b=none:=by
 have e':h.get? b=some o:=PySem.W.of_hideAll (trk h H) e;refine ⟨e',?_⟩
 cases q:H b with
 |none=>rfl
 |some x=>
  have hm:b∈trk h H:=List.mem_filter.mpr ⟨List.mem_range.mpr (Heap.lt_size e'),by simp [q]⟩;have z:(hidT h H).get? b=none:=PySem.W.hideAll_none (trk h H) hm;rw [z] at e;cases e
noncomputable def allNews (g h:Heap) (L:Addr):Vp:=(List.range h.objs.size).filterMap fun a=>if a=L\/(g.get? a).isSome=true then none else (h.get? a).map fun o=>(a,o)
noncomputable def rest (g h:Heap) (L d:Addr):Vp:=(allNews g h L).filter fun p=>decide (p.1≠d)
structure Mod (K:Pn) (mg:Ld) (base:Heap):Prop where
 kin:K.In base
 glob:base.Ns mainGlobals mg
 blt:∃mb,base.Ns builtinsNs mb/\∀x:Str,x≠"__name__"->mb x=bootBuiltins x
 nolimit:base.NoLimit
structure Cx where
 prog:Program
 w:World
 K:Pn
 mg:Ld
 base:Heap
 A:Around
 N:List Str
 s₀:Shared
 H₀:Hp
 env:Env
 outer:List Env
 stack:List Env
 ex:List Addr
 fn:Str->Bool
 calm:Bool
 pn:Vp
 xe:Mq
variable {X:Cx}
noncomputable def frs (l:List Env):List Addr:=l.filterMap (·.frame)
noncomputable abbrev Cx.fs (X:Cx):List Addr:=frs X.outer
noncomputable def Vis (sc:Scope) (x:Str):Prop:=sc.names.lookup x=some .local\/sc.names.lookup x=some .cell\/sc.names.lookup x=some .free
noncomputable def Loc (sc:Scope) (x:Str):Prop:=sc.names.lookup x=some .local\/sc.names.lookup x=some .cell
noncomputable def Look (env:Env) (h:Heap) (m:Ld) (x:Str) (u:Value):Prop:=
 (env.kindOf x=some .local/\m x=some u)\/((env.kindOf x=some .cell\/env.kindOf x=some .free)/\∃c,env.cells.lookup x=some c/\h.IsCell c (some u))
structure Cx.Ok (X:Cx):Prop where
 mod:Mod X.K X.mg X.base
 kind:X.env.scope.kind=.function
 glob:X.env.globals=mainGlobals
 blt:X.env.builtins=builtinsNs
 above:X.s₀.heap.objs.size<=X.env.locals
 inj:∀x y c,X.env.cells.lookup x=some c->X.env.cells.lookup y=some c->x=y
 has:∀x,(X.env.kindOf x=some .cell\/X.env.kindOf x=some .free)->∃c,X.env.cells.lookup x=some c
 cab:∀x c,X.fn x=true->X.env.cells.lookup x=some c->X.s₀.heap.objs.size<=c
 hd:X.calm=true->X.A.handled=none
 frames:X.A.frames=some X.stack
 stk:X.stack=X.outer\/(X.stack=X.env::X.outer/\X.env.frame=some X.env.locals)
 exf:∀b∈X.ex,b≠X.env.locals/\∀x c,X.env.cells.lookup x=some c->c≠b
 bs:∀b o,X.base.get? b=some o->X.s₀.heap.get? b=some o/\X.H₀ b=none
 bsz:X.base.objs.size<=X.s₀.heap.objs.size
 noex:∀b o,X.base.get? b=some o->b∉X.ex
 exfs:∀b∈X.ex,b∉X.fs
 yV:X.s₀.heap.FunFrames X.base X.outer
 frf:∀b∈X.fs,X.H₀ b=none
structure Inv (X:Cx) (pins:Vp) (σ:List (Option V)) (H:Hp) (s:Shared):Prop where
 ok:X.Ok
 os:s.os=X.s₀.os
 bare:AllBare s.gens
 base:Un X.fs X.ex X.H₀ H X.s₀.heap s.heap
 loc:∃m,s.heap.Ns X.env.locals m/\∀(i:Nat) (x:Str) (v:V),X.N[i]? =some x->σ[i]? =some (some v)->Vis X.env.scope x->∃u,RelV v u/\Look X.env s.heap m x u
 cell:∀x c,X.env.cells.lookup x=some c->∃v,s.heap.IsCell c v
 free:H X.env.locals=none
 freeC:∀x c,X.env.cells.lookup x=some c->H c=none
 pin:∀p∈X.pn++pins,s.heap.get? p.1=some p.2/\H p.1=none/\p.1≠X.env.locals/\p.1∉X.fs/\∀v,p.2.data≠.cell v
 hok:HOk X.prog X.w H s.heap
 len:σ.length=X.N.length
section
variable {σ:List (Option V)} 
theorem Cx.Ok.nofr (ok:X.Ok) {o:Obj} (e:X.base.get? b=some o):b∉X.fs:=fun hb=>by
 have:=(ok.yV.mem hb).1;rw [e] at this;cases this
theorem Inv.bs (I:Inv X pins σ H s):∀b o,X.base.get? b=some o->s.heap.get? b=some o/\H b=none:=fun b o e=>
 ⟨I.base.keep b o (I.ok.bs b o e).1 (I.ok.bs b o e).2 (I.ok.nofr e) (I.ok.noex b o e),I.base.free b o (I.ok.bs b o e).1 (I.ok.bs b o e).2 (I.ok.noex b o e)⟩
theorem Inv.bk (I:Inv X pins σ H s):∀b o,X.base.get? b=some o->s.heap.get? b=some o:=fun b o e=>(I.bs b o e).1
theorem Inv.mod (I:Inv X pins σ H s):Mod X.K X.mg X.base:=I.ok.mod
theorem Inv.kIn (I:Inv X pins σ H s):X.K.In s.heap:=I.ok.mod.kin.keeps I.bk
theorem Inv.lt (I:Inv X pins σ H s):X.env.locals<s.heap.objs.size:=let ⟨_,hn,_⟩:=I.loc;hn.lt
theorem Inv.sz (I:Inv X pins σ H s):X.s₀.heap.objs.size<=s.heap.objs.size:=Nat.le_trans I.ok.above (Nat.le_of_lt I.lt)
theorem Inv.nofs (I:Inv X pins σ H s) (h:s.heap.objs.size<=a):a∉X.fs:=fun hb=>by
 obtain ⟨_,o,ho,_⟩:=I.ok.yV.mem hb;exact absurd (Nat.lt_of_lt_of_le (Heap.lt_size ho) (Nat.le_trans I.sz h)) (Nat.lt_irrefl _)
theorem Inv.cne (I:Inv X pins σ H s):∀x c,X.env.cells.lookup x=some c->c≠X.env.locals:=fun x c e z=>by
 obtain ⟨v,o,ho,hd⟩:=I.cell x c e;obtain ⟨m,⟨o',es,ep,ho',hd',_⟩,_⟩:=I.loc;rw [z,ho'] at ho;cases ho;rw [hd'] at hd;cases hd
theorem Inv.yV (I:Inv X pins σ H s):s.heap.FunFrames X.base X.outer:=by
 have all:∀(l:List Env),(∀b∈frs l,b∈X.fs)->X.s₀.heap.FunFrames X.base l->s.heap.FunFrames X.base l:=by
  intro l
  induction l with
  |nil=>intro _ _;trivial
  |cons env r ih=>
   intro hs hl;obtain ⟨hk,⟨L,o,hf,hn,ho,hd⟩,hr⟩:=hl;have hL:L∈X.fs:=hs L (by unfold frs;rw [List.filterMap_cons,hf];exact List.mem_cons_self);obtain ⟨sl,e⟩:=I.base.slot L o ho (I.ok.frf L hL) hL fun z=>I.ok.exfs L z hL;exact ⟨hk,⟨L,_,hf,hn,e,hd⟩,ih (fun b hb=>hs b (by unfold frs;rw [List.filterMap_cons,hf];exact List.mem_cons_of_mem _ hb)) hr⟩
 exact all X.outer (fun _ hb=>hb) I.ok.yV
theorem Inv.stack (I:Inv X pins σ H s):s.heap.FunFrames X.base X.stack:=by
 rcases I.ok.stk with e|⟨e,hf⟩
 ·rw [e];exact I.yV
 ·rw [e];obtain ⟨m,hn,_⟩:=I.loc;refine .cons (by rw [I.ok.kind];decide) hf hn ?_ I.yV;exact Heap.get?_none_of_le (Nat.le_trans I.ok.bsz I.ok.above)
theorem Inv.vB (I:Inv X pins σ H s):∀b∈frs X.stack,b∈X.env.locals::X.fs:=fun b hb=>by
 rcases I.ok.stk with e|⟨e,hf⟩
 ·rw [e] at hb;exact List.mem_cons_of_mem _ hb
 ·rw [e] at hb;unfold frs at hb;rw [List.filterMap_cons,hf] at hb;exact hb
theorem Inv.DC (I:Inv X pins σ H s):∀b∈frs X.stack,H b=none:=fun b hb=>by
 rcases List.mem_cons.mp (I.vB b hb) with e|hb
 ·rw [e];exact I.free
 ·obtain ⟨_,o,ho,_⟩:=I.ok.yV.mem hb;exact I.base.free b o ho (I.ok.frf b hb) fun z=>I.ok.exfs b z hb
theorem Inv.step {t':Nat} {d':Drawn} (I:Inv X pins σ H s)
  (hch:∀b∈ch,(b∈X.ex\/X.s₀.heap.objs.size<=b)/\b≠X.env.locals/\(∀x c,X.env.cells.lookup x=some c->c≠b)/\∀p∈X.pn++pins,p.1≠b)
  (keep:∀b o,b≠X.env.locals->b∉X.fs->b∉ch->s.heap.get? b=some o->H b=none->h'.get? b=some o)
  (slot:∀b o,b≠X.env.locals->b∈X.fs->b∉ch->s.heap.get? b=some o->H b=none->∃sl,h'.get? b=some {o with slots:=sl}) (free:∀b o,b∉ch->s.heap.get? b=some o->H b=none->H' b=none)
  (there:∀b o,b∉ch->s.heap.get? b=some o->∃o',h'.get? b=some o')
  (tups:∀b xs,H b=some (.tup xs)->H' b=some (.tup xs)) (frzs:∀b o u,H b=some (.frz o u)->H' b=some (.frz o u)) (tbls:∀b ps,H b=some (.tbl ps)->∃more,H' b=some (.tbl (ps++more)))
  (ns:∀m,s.heap.Ns X.env.locals m->h'.Ns X.env.locals m) (hok:HOk X.prog X.w H' h') (hg:AllBare g') :
  Inv X pins σ H' {s with heap:=h',gens:=g',drawn:=d',toks:=t'}:=by
 have neL:∀b o,X.s₀.heap.get? b=some o->b≠X.env.locals:=fun b o e=>Nat.ne_of_lt (Nat.lt_of_lt_of_le (Heap.lt_size e) I.ok.above);have neC:∀b o,X.s₀.heap.get? b=some o->b∉X.ex->b∉ch:=fun b o e hx hb=>by
  rcases (hch b hb).1 with z|z
  ·exact hx z
  ·exact absurd (Nat.lt_of_lt_of_le (Heap.lt_size e) z) (Nat.lt_irrefl _)
 have cellK:∀x c,X.env.cells.lookup x=some c->∀v,s.heap.IsCell c v->h'.IsCell c v:=fun x c e v ⟨o,ho,hd⟩=>by
  have nch:c∉ch:=fun z=>(hch c z).2.2.1 x c e rfl;by_cases hc:c∈X.fs
  ·obtain ⟨sl,q⟩:=slot c o (I.cne x c e) hc nch ho (I.freeC x c e);exact ⟨_,q,hd⟩
  ·exact ⟨o,keep c o (I.cne x c e) hc nch ho (I.freeC x c e),hd⟩
 refine ⟨I.ok,I.os,hg,⟨fun b o e n hb hx=>?_,fun b o e n hb hx=>?_,fun b o e n hx=>?_,fun b o e hx=>?_,fun b xs e=>tups b xs (I.base.tups b xs e),fun b o xs e=>frzs b o xs (I.base.frzs b o xs e),fun b ps e=>?_⟩,?_,fun x c e=>?_,?_,fun x c e=>?_,fun p hp=>?_,hok,I.len⟩
 ·exact keep b o (neL b o e) hb (neC b o e hx) (I.base.keep b o e n hb hx) (I.base.free b o e n hx)
 ·obtain ⟨sl,e1⟩:=I.base.slot b o e n hb hx;obtain ⟨sl',e2⟩:=slot b _ (neL b o e) hb (neC b o e hx) e1 (I.base.free b o e n hx);exact ⟨sl',e2⟩
 ·obtain ⟨o',e1⟩:=I.base.there b o e hx;exact free b o' (neC b o e hx) e1 (I.base.free b o e n hx)
 ·obtain ⟨o',e1⟩:=I.base.there b o e hx;exact there b o' (neC b o e hx) e1
 ·obtain ⟨m1,e1⟩:=I.base.tbls b ps e;obtain ⟨m2,e2⟩:=tbls b _ e1;exact ⟨m1++m2,by rw [e2,Array.append_assoc]⟩
 ·obtain ⟨m,hn,hl⟩:=I.loc;refine ⟨m,ns m hn,fun i x v e1 e2 e3=>?_⟩
  obtain ⟨u,r,l⟩:=hl i x v e1 e2 e3;refine ⟨u,r,?_⟩
  rcases l with l|⟨k,c,e,z⟩
  ·exact .inl l
  ·exact .inr ⟨k,c,e,cellK x c e _ z⟩
 ·obtain ⟨v,z⟩:=I.cell x c e;exact ⟨v,cellK x c e v z⟩
 ·obtain ⟨m,⟨o,_,_,ho,_⟩,_⟩:=I.loc;exact free _ o (fun z=>(hch _ z).2.1 rfl) ho I.free
 ·obtain ⟨v,o,ho,hd⟩:=I.cell x c e;exact free c o (fun z=>(hch c z).2.2.1 x c e rfl) ho (I.freeC x c e)
 ·obtain ⟨e,n,ne,nf,d⟩:=I.pin p hp;have nch:p.1∉ch:=fun z=>(hch p.1 z).2.2.2 p hp rfl;exact ⟨keep p.1 p.2 ne nf nch e n,free p.1 p.2 nch e n,ne,nf,d⟩
theorem Inv.un {t':Nat} (I:Inv X pins σ H s) (u:Un X.fs [] H H' s.heap h') (hok:HOk X.prog X.w H' h'):Inv X pins σ H' {s with heap:=h',toks:=t'}:=by
 obtain ⟨m,⟨o,es,ep,ho,r⟩,_⟩:=id I.loc;obtain ⟨sl,hL⟩:=u.any ho I.free (by simp);exact I.step (g':=s.gens) (d':=s.drawn) (ch:=[]) (fun _ z=>nomatch z) (fun b o _ hb _ e n=>u.keep b o e n hb (by simp)) (fun b o _ hb _ e n=>u.slot b o e n hb (by simp)) (fun b o _ e n=>u.free b o e n (by simp)) (fun b o _ e=>u.there b o e (by simp)) u.tups u.frzs u.tbls (fun m' hm=>by
  obtain ⟨o',es',ep',ho',r'⟩:=hm;rw [ho] at ho';cases ho';exact ⟨_,es',ep',hL,r'⟩) hok I.bare
theorem Inv.call {t':Nat} {d':Drawn} (I:Inv X pins σ H s) (u:Un (frs X.stack) ch H H' s.heap h') (hok:HOk X.prog X.w H' h') (hg:AllBare g')
  (hch:∀b∈ch,(b∈X.ex\/X.s₀.heap.objs.size<=b)/\b≠X.env.locals/\(∀x c,X.env.cells.lookup x=some c->c≠b)/\∀p∈X.pn++pins,p.1≠b) :
  Inv X pins σ H' {s with heap:=h',gens:=g',drawn:=d',toks:=t'}:=by
 obtain ⟨m,⟨o,es,ep,ho,r⟩,_⟩:=id I.loc;obtain ⟨sl,hL⟩:=u.any ho I.free fun z=>(hch _ z).2.1 rfl;exact I.step (ch:=ch) hch (fun b o hL hb hc e n=>u.keep b o e n (fun z=>(List.mem_cons.mp (I.vB b z)).elim hL hb) hc) (fun b o _ _ hc e n=>u.any e n hc) (fun b o hc e n=>u.free b o e n hc) (fun b o hc e=>u.there b o e hc) u.tups u.frzs u.tbls (fun m' hm=>by
  obtain ⟨o',es',ep',ho',r'⟩:=hm;rw [ho] at ho';cases ho';exact ⟨_,es',ep',hL,r'⟩) hok hg
theorem Inv.turned {t':Nat} {it:Addr} (I:Inv X pins σ H s) (k:∀b o,b≠it->s.heap.get? b=some o->h'.get? b=some o) (hn:H it=none) (hL:it≠X.env.locals)
  (h1:it∈X.ex\/X.s₀.heap.objs.size<=it) (h2:∀x c,X.env.cells.lookup x=some c->c≠it) (h3:∀p∈X.pn++pins,p.1≠it):Inv X pins σ H {s with heap:=h',toks:=t'}:=by
 have nit:∀b u,H b=some u->b≠it:=fun b u e z=>by rw [z,hn] at e;cases e
 refine I.step (g':=s.gens) (d':=s.drawn) (ch:=[it]) (fun b hb=>?_) (fun b o _ _ hc e _=>k b o (fun z=>hc (by simp [z])) e) (fun b o _ _ hc e _=>⟨o.slots,k b o (fun z=>hc (by simp [z])) e⟩) (fun _ _ _ _ n=>n)
  (fun b o hc e=>⟨o,k b o (fun z=>hc (by simp [z])) e⟩) (fun _ _ e=>e) (fun _ _ _ e=>e) (fun b ps e=>⟨#[],by rw [e];simp⟩) (fun m hm=>?_) (fun b u e=>?_) I.bare
 ·have e:b=it:=by simpa using hb
  subst e;exact ⟨h1,hL,h2,h3⟩
 ·obtain ⟨o,es,ep,ho,r⟩:=hm;exact ⟨o,es,ep,k _ o (Ne.symm hL) ho,r⟩
 ·refine (I.hok b u e).Bf (fun c v hc q=>k c v ?_ q) (fun _ q=>q) fun _ _ q=>q;rcases hc with z|z
  ·rw [z];exact nit b u e
  ·exact nit c _ z
theorem Inv.tok (I:Inv X pins σ H s) (t:Nat):Inv X pins σ H {s with toks:=t}:=I.un (h':=s.heap) (t':=t) Un.refl I.hok
theorem Inv.kept {t':Nat} (I:Inv X pins σ H s) (k:∀b u,s.heap.get? b=some u->h'.get? b=some u):Inv X pins σ H {s with heap:=h',toks:=t'}:=I.un (Un.kept k) (I.hok.kept k)
theorem Inv.laid {a:Addr} {o:HO} {t':Nat} (I:Inv X pins σ H s) (k:∀b u,s.heap.get? b=some u->h'.get? b=some u) (hp:s.heap.objs.size<=a) (new:fX X.prog X.w (upd H a o) h' a o) :
  Inv X pins σ (upd H a o) {s with heap:=h',toks:=t'}:=I.un (Un.laid k hp (I.hok.fresh hp)) (I.hok.laid k hp new)
theorem Inv.write {x e:Addr} {o:HO} {t':Nat} (I:Inv X pins σ H s) (mu:Mut (H x)) (he:e=x\/H e=some (.own x)) (k:∀b u,b≠e->s.heap.get? b=some u->h'.get? b=some u) (heo:∃u,h'.get? e=some u)
  (new:fX X.prog X.w (upd H x o) h' x o):Inv X pins σ (upd H x o) {s with heap:=h',toks:=t'}:=I.un (Un.write mu he k heo) (I.hok.write mu he k heo new)
theorem Inv.weak {σ':List (Option V)} (I:Inv X pins σ H s) (hl:σ'.length=σ.length) (w:∀(i:Nat) v,σ'[i]? =some (some v)->σ[i]? =some (some v)):Inv X pins σ' H s:=
 ⟨I.ok,I.os,I.bare,I.base,let ⟨m,hn,hl'⟩:=I.loc;⟨m,hn,fun i x v e1 e2 e3=>hl' i x v e1 (w i v e2) e3⟩,I.cell,I.free,I.freeC,I.pin,I.hok,hl.trans I.len⟩
theorem Inv.wU {pins':Vp} (I:Inv X pins σ H s) (h:∀p∈pins',s.heap.get? p.1=some p.2/\H p.1=none/\p.1≠X.env.locals/\p.1∉X.fs/\∀v,p.2.data≠.cell v):Inv X pins' σ H s:=
 ⟨I.ok,I.os,I.bare,I.base,I.loc,I.cell,I.free,I.freeC,fun p hp=>(List.mem_append.mp hp).elim (fun z=>I.pin p (List.mem_append_left _ z)) (h p),I.hok,I.len⟩
theorem Bs (hN:N.Nodup) (a:N[i]? =some x) (b:N[j]? =some x):i=j:=by
 obtain ⟨h1,e1⟩:=List.getElem?_eq_some_iff.mp a;obtain ⟨h2,e2⟩:=List.getElem?_eq_some_iff.mp b;exact (List.getElem_inj hN).mp (e1.trans e2.symm)
theorem yf {M:Model} (I:Inv X pins σ H s) (hN:X.N.Nodup) (hi:X.N[i]? =some x) (hx:Loc X.env.scope x) (r:RelV v u)
  (h:∀s',Inv X pins (σ.set i (some v)) H s'->(∃a,Heap.SameBut a s.heap s'.heap/\(a=X.env.locals\/X.env.cells.lookup x=some a))->Q () s') (hf:X.fn x=true\/X.env.scope.names.lookup x=some .local:=by first|exact .inl rfl|exact .inr rfl|assumption):wpAny M A (storeName X.env x u) Q E s:=by
 obtain ⟨m,hn,hl⟩:=id I.loc;have hcls:(X.env.scope.kind==.class||(X.env.scope.kind==.module&&X.env.locals != X.env.globals))=false:=by rw [I.ok.kind];rfl
 have hiσ:i<σ.length:=by rw [I.len];exact (List.getElem?_eq_some_iff.mp hi).1
 have cne:=I.cne;have tracked:∀{a:Addr} {h':Heap},(∃o,s.heap.get? a=some o/\H a=none)->Heap.SameBut a s.heap h'->HOk X.prog X.w H h':=fun {a h'} ha hs b ob e=>by
  obtain ⟨_,_,hfree⟩:=ha;refine (I.hok b ob e).Bf (fun c w' hc q=>(hs.2 c ?_).trans q) (fun _ q=>q) fun _ _ q=>q;rintro rfl;rcases hc with rfl|hc
  ·rw [hfree] at e;cases e
  ·rw [hfree] at hc;cases hc
 rcases hx with hk|hk
 ·refine wpAny_storeName_local hk hn (fun h' hn' hs=>?_) hcls;obtain ⟨oL,_,_,hoL,_⟩:=id hn;refine h _ ⟨I.ok,I.os,I.bare,⟨fun b o e n hb hx=>?_,fun b o e n hb hx=>?_,I.base.free,fun b o e hx=>?_,I.base.tups,I.base.frzs,I.base.tbls⟩,⟨_,hn',fun j y v' e1 e2 e3=>?_⟩,fun y c e=>?_,I.free,I.freeC,fun p hp=>?_,tracked ⟨oL,hoL,I.free⟩ hs,by simpa using I.len⟩ ⟨_,hs,.inl rfl⟩
  ·exact (hs.2 b (Nat.ne_of_lt (Nat.lt_of_lt_of_le (Heap.lt_size e) I.ok.above))).trans (I.base.keep b o e n hb hx)
  ·obtain ⟨sl,e1⟩:=I.base.slot b o e n hb hx;exact ⟨sl,(hs.2 b (Nat.ne_of_lt (Nat.lt_of_lt_of_le (Heap.lt_size e) I.ok.above))).trans e1⟩
  ·obtain ⟨o',e1⟩:=I.base.there b o e hx;exact ⟨o',(hs.2 b (Nat.ne_of_lt (Nat.lt_of_lt_of_le (Heap.lt_size e) I.ok.above))).trans e1⟩
  ·by_cases hj:j=i
   ·subst hj;rw [hi] at e1;cases e1;rw [List.getElem?_set_self hiσ] at e2;cases e2;exact ⟨u,r,.inl ⟨hk,by simp⟩⟩
   ·rw [List.getElem?_set_ne (Ne.symm hj)] at e2;obtain ⟨u',r',q⟩:=hl j y v' e1 e2 e3;refine ⟨u',r',?_⟩
    rcases q with ⟨k,e⟩|⟨k,c,e,z⟩
    ·refine .inl ⟨k,?_⟩;have:y≠x:=fun e=>hj (Bs hN e1 (e▸hi));simp [this,e]
    ·exact .inr ⟨k,c,e,z.sameBut hs (cne y c e)⟩
  ·obtain ⟨w',z⟩:=I.cell y c e;exact ⟨w',z.sameBut hs (cne y c e)⟩
  ·obtain ⟨e,n,ne,nf,d⟩:=I.pin p hp;exact ⟨(hs.2 p.1 ne).trans e,n,ne,nf,d⟩
 ·have hfn:X.fn x=true:=by
   rcases hf with z|z
   ·exact z
   ·rw [z] at hk;cases hk
  obtain ⟨c,hc⟩:=I.ok.has x (.inl hk);obtain ⟨w',z⟩:=I.cell x c hc;refine wpAny_storeName_cell I.ok.kind hk hc z (fun h' hc' hs=>?_);obtain ⟨oc,hoc,hocd⟩:=id z;refine h {s with heap:=h'} ⟨I.ok,I.os,I.bare,⟨fun b o e n hb hx=>?_,fun b o e n hb hx=>?_,I.base.free,fun b o e hx=>?_,I.base.tups,I.base.frzs,I.base.tbls⟩,⟨m,hn.sameBut hs (Ne.symm (cne x c hc)),fun j y v' e1 e2 e3=>?_⟩,fun y c' e=>?_,I.free,I.freeC,fun p hp=>?_,tracked ⟨oc,hoc,I.freeC x c hc⟩ hs,by simpa using I.len⟩ ⟨c,hs,.inr hc⟩
  ·exact (hs.2 b (Nat.ne_of_lt (Nat.lt_of_lt_of_le (Heap.lt_size e) (I.ok.cab x c hfn hc)))).trans (I.base.keep b o e n hb hx)
  ·obtain ⟨sl,e1⟩:=I.base.slot b o e n hb hx;exact ⟨sl,(hs.2 b (Nat.ne_of_lt (Nat.lt_of_lt_of_le (Heap.lt_size e) (I.ok.cab x c hfn hc)))).trans e1⟩
  ·obtain ⟨o',e1⟩:=I.base.there b o e hx;exact ⟨o',(hs.2 b (Nat.ne_of_lt (Nat.lt_of_lt_of_le (Heap.lt_size e) (I.ok.cab x c hfn hc)))).trans e1⟩
  ·by_cases hj:j=i
   ·subst hj;rw [hi] at e1;cases e1;rw [List.getElem?_set_self hiσ] at e2;cases e2;exact ⟨u,r,.inr ⟨.inl hk,c,hc,hc'⟩⟩
   ·rw [List.getElem?_set_ne (Ne.symm hj)] at e2;obtain ⟨u',r',q⟩:=hl j y v' e1 e2 e3;refine ⟨u',r',?_⟩
    rcases q with q|⟨k,c',e,z'⟩
    ·exact .inl q
    ·refine .inr ⟨k,c',e,z'.sameBut hs ?_⟩;rintro rfl;exact hj (Bs hN e1 (I.ok.inj _ _ _ e hc▸hi))
  ·by_cases hcc:c'=c
   ·subst hcc;exact ⟨_,hc'⟩
   ·obtain ⟨w2,z2⟩:=I.cell y c' e;exact ⟨w2,z2.sameBut hs hcc⟩
  ·obtain ⟨e,n,ne,nf,d⟩:=I.pin p hp;refine ⟨(hs.2 p.1 ?_).trans e,n,ne,nf,d⟩
   intro q;rw [q,hoc] at e;have q':oc=p.2:=Option.some.inj e;exact d w' (by rw [<- q'];exact hocd)
theorem wD {M:Model} (I:Inv X pins σ H s) (hN:X.N.Nodup) (hi:X.N[i]? =some x) (hx:Loc X.env.scope x) (r:RelV v u)
  (h:∀s',Inv X pins (σ.set i (some v)) H s'->Q () s') (hf:X.fn x=true\/X.env.scope.names.lookup x=some .local:=by first|exact .inl rfl|exact .inr rfl|assumption):wpAny M A (storeName X.env x u) Q E s:=
 yf I hN hi hx r (fun s' I' _=>h s' I') hf
theorem Inv.call' (I:Inv X pins σ H s) (ho:s'.os=s.os) (u:Un (frs X.stack) ch H H' s.heap s'.heap) (hok:HOk X.prog X.w H' s'.heap) (hg:AllBare s'.gens)
  (hch:∀b∈ch,(b∈X.ex\/X.s₀.heap.objs.size<=b)/\b≠X.env.locals/\(∀x c,X.env.cells.lookup x=some c->c≠b)/\∀p∈X.pn++pins,p.1≠b):Inv X pins σ H' s':=by
 obtain ⟨h',g',d',t',o'⟩:=s';have e:o'=s.os:=ho;subst e;exact I.call (g':=g') (t':=t') (d':=d') u hok hg hch
end
noncomputable abbrev XK:=Value->Option Addr->Hp->Prop
noncomputable abbrev St:=List (Option V)
variable {σ:St}
noncomputable abbrev VK:=V->Hp->Prop
noncomputable abbrev TE:=St->Hp->VK->Prop
variable {ta tb te:TE}
noncomputable abbrev TT:=St->Hp->(Bool->Hp->Prop)->Prop
variable {tc:TT}
noncomputable abbrev TA:=St->Hp->(List V->Hp->Prop)->Prop
variable {t:TA}
structure Ends where
 nx:St->Hp->Prop
 rt:VK
 bk:St->Hp->Prop:=fun _ _=>False
 ct:St->Hp->Prop:=fun _ _=>False
noncomputable abbrev TS:=Ends->St->Hp->Prop
noncomputable def EP (X:Cx) (pins:Vp) (σ:St) (Q:VK) (u:Value) (s':Shared):Prop:=∃v H',Inv X pins σ H' s'/\RelV v u/\Q v H'
noncomputable def TP (X:Cx) (pins:Vp) (σ:St) (Q:Bool->Hp->Prop) (b:Bool) (s':Shared):Prop:=∃H',Inv X pins σ H' s'/\Q b H'
noncomputable def AP (X:Cx) (pins:Vp) (σ:St) (Q:List V->Hp->Prop) (us:List Value) (s':Shared):Prop:=∃vs H',Inv X pins σ H' s'/\Vals vs us/\Q vs H'
noncomputable def SP (X:Cx) (pins:Vp) (D:Ends) (f:Flow) (s':Shared):Prop:=
 match f with
 |.next=>∃σ' H',Inv X pins σ' H' s'/\D.nx σ' H'
 |.brk=>∃σ' H',Inv X pins σ' H' s'/\D.bk σ' H'
 |.cont=>∃σ' H',Inv X pins σ' H' s'/\D.ct σ' H'
 |.ret u=>∃v σ' H',Inv X pins σ' H' s'/\RelV v u/\D.rt v H'
noncomputable def PE (X:Cx) (e:Expr) (t:TE):Prop:=
 ∀(pins:Vp) (s:Shared) (σ:St) (H:Hp) (Q:VK),Inv X pins σ H s->t σ H Q->wpAny (model X.prog X.w) X.A (eval e X.env) (EP X pins σ Q) X.xe s
noncomputable def PT (X:Cx) (e:Expr) (t:TT):Prop:=
 ∀(pins:Vp) (s:Shared) (σ:St) (H:Hp) (Q:Bool->Hp->Prop),Inv X pins σ H s->t σ H Q->wpAny (model X.prog X.w) X.A (isTrue e X.env (eval e X.env)) (TP X pins σ Q) X.xe s
noncomputable def PW (X:Cx) (e:Expr) (t:TT):Prop:=
 ∀(whole:Sem Value) (pins:Vp) (s:Shared) (σ:St) (H:Hp) (Q:Bool->Hp->Prop),Inv X pins σ H s->t σ H Q->wpAny (model X.prog X.w) X.A (isTrue e X.env whole) (TP X pins σ Q) X.xe s
theorem PW.pt {t:TT} (h:PW X e t):PT X e t:=h _
noncomputable def PA (X:Cx) (es:List Expr) (t:TA):Prop:=
 ∀(pos:Pos) (pins:Vp) (s:Shared) (σ:St) (H:Hp) (Q:List V->Hp->Prop),Inv X pins σ H s->t σ H Q->wpAny (model X.prog X.w) X.A (spliced (backTo pos (starEach es X.env))) (AP X pins σ Q) X.xe s
noncomputable def PS (X:Cx) (st:Stmt) (t:TS):Prop:=
 ∀(pins:Vp) (s:Shared) (σ:St) (H:Hp) (D:Ends),Inv X pins σ H s->t D σ H->wpAny (model X.prog X.w) X.A (exec st X.env) (SP X pins D) X.xe s
noncomputable def PSs (X:Cx) (st:List Stmt) (t:TS):Prop:=
 ∀(pins:Vp) (s:Shared) (σ:St) (H:Hp) (D:Ends),Inv X pins σ H s->t D σ H->wpAny (model X.prog X.w) X.A (execs st X.env) (SP X pins D) X.xe s
theorem thn {α:Type} {t:Sem α} {Q Q':α->Shared->Prop} {M:Model} (h:wpAny M A t Q E s) (hQ:∀a s,Q a s->Q' a s):wpAny M A t Q' E s:=wpAny_mono h hQ fun _ _ x=>x
section
noncomputable def tVar (i:Nat):TE:=fun σ H Q=>∃v,σ[i]? =some (some v)/\Q v H
noncomputable def tC (v:V):TE:=fun _ H Q=>Q v H
theorem pe_var (hN:X.N[i]? =some x) (hv:Vis X.env.scope x) (hd:(x==("__debug__":Str))=false:=by decide) (hcd:(x==("__classdict__":Str))=false:=by decide):PE X (.Name x pos) (tVar i):=by
 intro pins s σ H Q I h;obtain ⟨v,e,h⟩:=h;obtain ⟨m,hn,hl⟩:=I.loc;obtain ⟨u,r,l⟩:=hl i x v hN e hv;have fin:EP X pins σ Q u s:=⟨v,H,I,r,h⟩
 rcases l with ⟨hk,hm⟩|⟨hk,c,hc,hcell⟩
 ·exact wpAny_Name (wpAny_loadName_local I.ok.kind hk hn hm fin) hd
 ·rcases hk with hk|hk
  ·exact wpAny_Name (wpAny_loadName_cell I.ok.kind hk hc hcell fin) hd
  ·exact wpAny_Name (wpAny_loadName_free I.ok.kind hk hc hcell fin hcd) hd
theorem pe_int {i j pos}:PE X (.Constant (.int i) j pos) (tC (.int i)):=fun _ _ _ H _ I h=>wpAny_Constant_int ⟨.int i,H,I.tok _,⟨_,rfl⟩,h⟩
theorem pe_bl {b j pos}:PE X (.Constant (.bool b) j pos) (tC (.bl b)):=fun _ _ _ H _ I h=>Constant_bool ⟨.bl b,H,I,rfl,h⟩
theorem pe_non {j pos}:PE X (.Constant .none j pos) (tC .non):=fun _ _ _ H _ I h=>Constant_none ⟨.non,H,I,rfl,h⟩
theorem pe_str {x j pos}:PE X (.Constant (.str x) j pos) (tC (.str x)):=fun _ _ _ H _ I h=>Calls.Constant_str ⟨.str x,H,I.tok _,⟨_,rfl⟩,h⟩
noncomputable def Gl (X:Cx) (x:Str):Prop:=X.env.kindOf x=some .globalImplicit
theorem mT {Q:Mq} (I:Inv X pins σ H s) (hg:Gl X x) (hm:X.mg x=some u) (h:Q u s)
  (hd:(x==("__debug__":Str))=false:=by decide):wpAny (model X.prog X.w) X.A (eval (.Name x pos) X.env) Q E s:=
 Calls.Name_function_global I.ok.kind hg (Calls.loadGlobal_global (by rw [I.ok.glob];exact I.mod.glob.keeps I.bk) hm h) hd
theorem oQ {Q:Mq} (I:Inv X pins σ H s) (hg:Gl X x) (hm:X.mg x=none) (hv:bootBuiltins x=some u) (h:Q u s)
  (hn:x≠"__name__":=by decide) (hd:(x==("__debug__":Str))=false:=by decide):wpAny (model X.prog X.w) X.A (eval (.Name x pos) X.env) Q E s:=by
 obtain ⟨mb,h1,h2⟩:=I.mod.blt;exact Calls.Name_function_global I.ok.kind hg (Calls.loadGlobal_builtin (by rw [I.ok.glob];exact I.mod.glob.keeps I.bk) hm (by rw [I.ok.blt];exact h1.keeps I.bk) ((h2 x hn).trans hv) h) hd
theorem Ec (hg:Gl X x) (hm:X.mg x=some u) (r:RelV v u) (hd:(x==("__debug__":Str))=false:=by decide):PE X (.Name x pos) (tC v):=
 fun _ _ _ H _ I h=>mT I hg hm ⟨v,H,I,r,h⟩ hd
theorem pe_bltn (hg:Gl X x) (hm:X.mg x=none) (hv:bootBuiltins x=some u) (r:RelV v u) (hn:x≠"__name__":=by decide) (hd:(x==("__debug__":Str))=false:=by decide):PE X (.Name x pos) (tC v):=
 fun _ _ _ H _ I h=>oQ I hg hm hv ⟨v,H,I,r,h⟩ hn hd
variable {a b:Expr} 
variable {tA tB':TT} {rest:List Expr}
noncomputable def tAnd (t u:TT):TT:=fun σ H Q=>t σ H fun c H1=>if c=true then u σ H1 Q else Q false H1
noncomputable def tOr (t u:TT):TT:=fun σ H Q=>t σ H fun c H1=>if c=true then Q true H1 else u σ H1 Q
noncomputable def tNot (t:TT):TT:=fun σ H Q=>t σ H fun c H1=>Q (!c) H1
theorem pw_and1 (ha:PT X a tA):PW X (.BoolOp .And [a] pos) tA:=by
 intro wh pins s σ H Q I h;refine isTrue_and (thn (ha pins s σ H Q I h) fun c s1 e=>?_);cases c with
 |true=>exact isTrue_and_nil e
 |false=>exact e
theorem pw_or1 (ha:PT X a tA):PW X (.BoolOp .Or [a] pos) tA:=by
 intro wh pins s σ H Q I h;refine isTrue_or (thn (ha pins s σ H Q I h) fun c s1 e=>?_);cases c with
 |false=>exact isTrue_or_nil e
 |true=>exact e
theorem pw_and (ha:PT X a tA) (hb:PW X (.BoolOp .And (b::rest) pos) tB'):PW X (.BoolOp .And (a::b::rest) pos) (tAnd tA tB'):=by
 intro wh pins s σ H Q I h;refine isTrue_and (thn (ha pins s σ H _ I h) fun c s1 ⟨H1,I1,q1⟩=>?_);cases c with
 |true=>exact hb wh pins s1 σ H1 Q I1 q1
 |false=>exact ⟨H1,I1,q1⟩
theorem pw_or (ha:PT X a tA) (hb:PW X (.BoolOp .Or (b::rest) pos) tB'):PW X (.BoolOp .Or (a::b::rest) pos) (tOr tA tB'):=by
 intro wh pins s σ H Q I h;refine isTrue_or (thn (ha pins s σ H _ I h) fun c s1 ⟨H1,I1,q1⟩=>?_);cases c with
 |true=>exact ⟨H1,I1,q1⟩
 |false=>exact hb wh pins s1 σ H1 Q I1 q1
theorem pt_not (ha:PT X a tA):PT X (.UnaryOp .Not a pos) (tNot tA):=by
 intro pins s σ H Q I h;exact isTrue_not (ha pins s σ H (fun c H1=>Q (!c) H1) I h)
noncomputable def tAndV (ta tb:TE):TE:=fun σ H Q=>ta σ H fun x H1=>∃c,x=.bl c/\if c=true then tb σ H1 Q else Q (.bl false) H1
noncomputable def tNotV (ta:TE):TE:=fun σ H Q=>ta σ H fun x H1=>∃c,x=.bl c/\Q (.bl (!c)) H1
theorem pe_one {op} {t:TE} (h:PE X a t):PE X (.BoolOp op [a] pos) t:=fun pins s σ H Q I hw=>BoolOp_one (h pins s σ H Q I hw)
theorem pe_and (ha:PE X a ta) (hb:PE X (.BoolOp .And (b::rest) pos) tb):PE X (.BoolOp .And (a::b::rest) pos) (tAndV ta tb):=by
 intro pins s σ H Q I h;refine BoolOp_and (thn (ha pins s σ H _ I h) fun v s1 ⟨x,H1,I1,r1,q1⟩=>?_);obtain ⟨c,rfl,q1⟩:=q1;cases r1;refine wpAny_truthy_bool ?_;cases c with
 |true=>exact hb pins s1 σ H1 Q I1 q1
 |false=>exact ⟨.bl false,H1,I1,rfl,q1⟩
theorem pe_not (ha:PE X a ta):PE X (.UnaryOp .Not a pos) (tNotV ta):=by
 intro pins s σ H Q I h;refine UnaryOp_ (thn (ha pins s σ H _ I h) fun v s1 ⟨x,H1,I1,r1,q1⟩=>?_);obtain ⟨c,rfl,q1⟩:=q1;cases r1;exact not_of (wpAny_truthy_bool ⟨.bl (!c),H1,I1,rfl,q1⟩)
noncomputable def tIf (t:TT) (ta tb:TE):TE:=fun σ H Q=>t σ H fun c H1=>if c=true then ta σ H1 Q else tb σ H1 Q
theorem pe_ifExp (hc:PT X c tA) (ha:PE X a ta) (hb:PE X b tb):PE X (.IfExp c a b pos) (tIf tA ta tb):=by
 intro pins s σ H Q I h;refine wpAny_IfExp (thn (hc pins s σ H _ I h) fun d s1 ⟨H1,I1,q1⟩=>?_);cases d with
 |true=>exact ha pins s1 σ H1 Q I1 q1
 |false=>exact hb pins s1 σ H1 Q I1 q1
end
noncomputable def SqL (K:Pn) (H:Hp) (a:Addr) (xs:List V):Prop:=
 Rd H a (.lst xs) \/
  ∃(o:Obj) (its:Array Value) (n:Nat),K.lookup a=some o/\o.cls=.type "list"/\o.dict=none/\o.data=.seq its n/\its.size<=sizeLine/\Vals xs its.toList
noncomputable def SqT (K:Pn) (H:Hp) (a:Addr) (xs:List V):Prop:=
 Rd H a (.tup xs) \/
  ∃(o:Obj) (its:Array Value) (n:Nat),K.lookup a=some o/\o.cls=.type "tuple"/\o.data=.seq its n/\its.size<=sizeLine/\Vals xs its.toList
noncomputable def absV:Value->Option V
 |.none=>some .non
 |.bool b=>some (.bl b)
 |.int i _=>some (.int i)
 |.str x _=>some (.str x)
 |.bytes b _=>some (.byt b)
 |.float b _=>some (.flt b)
 |.ref a=>some (.ref a)
 |.type n=>some (.ty n)
 |_=>none
theorem RelV.abs {x:V} (r:RelV x u):absV u=some x:=by
 cases x with
 |non=>cases r;rfl
 |bl _=>cases r;rfl
 |int _=>obtain ⟨t,rfl⟩:=r;rfl
 |str _=>obtain ⟨t,rfl⟩:=r;rfl
 |byt _=>obtain ⟨t,rfl⟩:=r;rfl
 |flt _=>obtain ⟨t,rfl⟩:=r;rfl
 |ref _=>cases r;rfl
 |ty _=>cases r;rfl
theorem RelV.inj {x y:V} {u:Value} (r:RelV x u) (q:RelV y u):x=y:=Option.some.inj (r.abs.symm.trans q.abs)
theorem Vals.inj:∀{xs ys:List V} {us:List Value},Vals xs us->Vals ys us->xs=ys
 |_,_,_,.nil,.nil=>rfl
 |_,_,_,.cons r t,.cons r' t'=>by rw [r.inj r',Vals.inj t t']
section
variable {ys:List V}
theorem SqL.of (h:H a=some (.lst xs)):SqL K H a xs:=.inl (.inl h)
theorem SqT.of (h:H a=some (.tup xs)):SqT K H a xs:=.inl (.inl h)
theorem Inv.list (I:Inv X pins σ H s) (h:SqL X.K H a xs):∃its:List Value,Vals xs its/\PlainL s.heap a its.toArray/\xs.length<=sizeLine:=by
 rcases h with h|⟨o,its,n,hk,hc,hd,hs,hz,r⟩
 ·obtain ⟨z,its,n,r,e⟩:=h.ok I.hok;exact ⟨its,r,⟨_,n,e,rfl,rfl,rfl⟩,z⟩
 ·refine ⟨its.toList,r,⟨o,n,I.kIn a o hk,hc,hd,by simpa using hs⟩,?_⟩
  have e:=r.length;simp only [Array.length_toList] at e;omega
theorem Inv.tuple (I:Inv X pins σ H s) (h:SqT X.K H a xs):∃its:List Value,Vals xs its/\IsTup s.heap a its.toArray/\xs.length<=sizeLine:=by
 rcases h with h|⟨o,its,n,hk,hc,hs,hz,r⟩
 ·obtain ⟨z,its,r,p⟩:=h.ok I.hok;exact ⟨its,r,p,z⟩
 ·refine ⟨its.toList,r,⟨o,I.kIn a o hk,hc,n,by simpa using hs⟩,?_⟩
  have e:=r.length;simp only [Array.length_toList] at e;omega
theorem Inv.pV (I:Inv X pins σ H s) (h:SqL X.K H a xs) (h':SqL X.K H a ys):xs=ys:=by
 obtain ⟨its,r,⟨o,n,e,_,_,d⟩,_⟩:=I.list h;obtain ⟨its',r',⟨o',n',e',_,_,d'⟩,_⟩:=I.list h';rw [e] at e';cases e';rw [d] at d';injection d' with d1 _
 have:its=its':=by simpa using congrArg Array.toList d1
 subst this;exact r.inj r'
theorem Inv.Dw (I:Inv X pins σ H s) (h:SqT X.K H a xs) (h':SqT X.K H a ys):xs=ys:=by
 obtain ⟨its,r,⟨o,e,_,n,d⟩,_⟩:=I.tuple h;obtain ⟨its',r',⟨o',e',_,n',d'⟩,_⟩:=I.tuple h';rw [e] at e';cases e';rw [d] at d';injection d' with d1 _
 have:its=its':=by simpa using congrArg Array.toList d1
 subst this;exact r.inj r'
end
noncomputable abbrev Cx.xX (X:Cx) (E:Mq):Cx:={X with xe:=E}
noncomputable abbrev Cx.nox (X:Cx):Cx:=X.xX fun _ _=>False
theorem Cx.Ok.xX {X:Cx} (ok:X.Ok) (E:Mq):(X.xX E).Ok:=
 ⟨ok.mod,ok.kind,ok.glob,ok.blt,ok.above,ok.inj,ok.has,ok.cab,ok.hd,ok.frames,ok.stk,ok.exf,ok.bs,ok.bsz,ok.noex,ok.exfs,ok.yV,ok.frf⟩
theorem Cx.Ok.og (ok:(X.xX E).Ok):X.Ok:=
 ⟨ok.mod,ok.kind,ok.glob,ok.blt,ok.above,ok.inj,ok.has,ok.cab,ok.hd,ok.frames,ok.stk,ok.exf,ok.bs,ok.bsz,ok.noex,ok.exfs,ok.yV,ok.frf⟩
section
theorem Inv.xX (I:Inv X pins σ H s) (E:Mq):Inv (X.xX E) pins σ H s:=⟨I.ok.xX E,I.os,I.bare,I.base,I.loc,I.cell,I.free,I.freeC,I.pin,I.hok,I.len⟩
theorem Inv.og (I:Inv (X.xX E) pins σ H s):Inv X pins σ H s:=⟨I.ok.og,I.os,I.bare,I.base,I.loc,I.cell,I.free,I.freeC,I.pin,I.hok,I.len⟩
theorem SP.og {D:Ends} {f:Flow} {s':Shared} (h:SP (X.xX E) pins D f s'):SP X pins D f s':=by
 cases f with
 |next=>obtain ⟨σ',H',I,q⟩:=h;exact ⟨σ',H',I.og,q⟩
 |brk=>obtain ⟨σ',H',I,q⟩:=h;exact ⟨σ',H',I.og,q⟩
 |cont=>obtain ⟨σ',H',I,q⟩:=h;exact ⟨σ',H',I.og,q⟩
 |ret u=>obtain ⟨v,σ',H',I,r,q⟩:=h;exact ⟨v,σ',H',I.og,r,q⟩
theorem PE.nox {e:Expr} {t:TE} (h:PE X.nox e t):PE X e t:=fun pins s σ H Q I hw=>
 wpAny_mono (h pins s σ H Q (I.xX _) hw) (fun _ _ ⟨v,H',I',r,q⟩=>⟨v,H',I'.og,r,q⟩) fun _ _ z=>False.elim z
theorem PSs.nox {st:List Stmt} {t:TS} (h:PSs X.nox st t):PSs X st t:=fun pins s σ H D I hw=>
 wpAny_mono (h pins s σ H D (I.xX _) hw) (fun _ _ q=>q.og) fun _ _ z=>False.elim z
end
section
variable {st:Stmt} {rest:List Stmt} {t u:TS} 
noncomputable def tNext:TS:=fun D σ H=>D.nx σ H
noncomputable def tSeq (t u:TS):TS:=fun D σ H=>t {D with nx:=u D} σ H
theorem DX:PSs X [] tNext:=fun _ _ σ H _ I h=>wpAny_execs_nil ⟨σ,H,I,h⟩
theorem tG (h1:PS X st t) (h2:PSs X rest u):PSs X (st::rest) (tSeq t u):=by
 intro pins s σ H D I h;refine wpAny_execs_cons (thn (h1 pins s σ H {D with nx:=u D} I h) fun f s1 q=>?_);cases f with
 |next=>
  obtain ⟨σ',H',I',q⟩:=q;exact h2 pins s1 σ' H' D I' q
 |ret v=>exact q
 |brk=>exact q
 |cont=>exact q
theorem u3 (h1:PS X st t):PSs X [st] t:=by
 intro pins s σ H D I h;refine wpAny_execs_cons (thn (h1 pins s σ H D I h) fun f s1 q=>?_);cases f with
 |next=>exact wpAny_execs_nil q
 |ret v=>exact q
 |brk=>exact q
 |cont=>exact q
theorem Inv.quiet (I:Inv X pins σ H s):interactive X.env=false:=by simp [interactive,I.ok.kind]
noncomputable def tDrop (te:TE):TS:=fun D σ H=>te σ H fun _ H1=>D.nx σ H1
theorem E1 (he:PE X e te) (hs:swapsWith e none pos.line X.env=pure false:=by rfl):PS X (.Expr e pos) (tDrop te):=by
 intro pins s σ H D I h;exact wpAny_Expr_any (thn (he pins s σ H _ I h) fun v s1 ⟨x,H1,I1,r1,q1⟩=>⟨σ,H1,I1,q1⟩) I.quiet hs
noncomputable def tRet (te:TE):TS:=fun D σ H=>te σ H D.rt
theorem ps_ret (he:PE X e te):PS X (.Return (some e) pos) (tRet te):=by
 intro pins s σ H D I h;exact wpAny_Return_some (thn (he pins s σ H _ I h) fun v s1 ⟨x,H1,I1,r1,q1⟩=>⟨x,σ,H1,I1,r1,q1⟩)
noncomputable def tIfS (c:TT) (t u:TS):TS:=fun D σ H=>c σ H fun b H1=>if b=true then t D σ H1 else u D σ H1
theorem ps_if {a b:List Stmt} (hc:PT X c tc) (ha:PSs X a t) (hb:PSs X b u):PS X (.If c a b pos) (tIfS tc t u):=by
 intro pins s σ H D I h;refine wpAny_If (thn (hc pins s σ H _ I h) fun d s1 ⟨H1,I1,q1⟩=>?_);cases d with
 |true=>exact ha pins s1 σ H1 D I1 q1
 |false=>exact hb pins s1 σ H1 D I1 q1
noncomputable def tNever:TS:=fun _ _ _=>False
theorem DY {sts:List Stmt}:PSs X sts tNever:=fun _ _ _ _ _ _ h=>h.elim
end
noncomputable abbrev TG:=V->St->Hp->(St->Hp->Prop)->Prop
noncomputable abbrev TGs:=List V->St->Hp->(St->Hp->Prop)->Prop
noncomputable def PG (X:Cx) (target:Expr) (t:TG):Prop:=
 ∀(pins:Vp) (s:Shared) (σ:St) (H:Hp) (v:V) (u:Value) (Q:St->Hp->Prop),Inv X pins σ H s->RelV v u->t v σ H Q ->
  wpAny (model X.prog X.w) X.A (assign target X.env u) (fun _ s'=>∃σ' H',Inv X pins σ' H' s'/\Q σ' H') X.xe s
noncomputable def PGs (X:Cx) (ts:List Expr) (t:TGs):Prop:=
 ∀(pins:Vp) (s:Shared) (σ:St) (H:Hp) (vs:List V) (us:List Value) (Q:St->Hp->Prop),Inv X pins σ H s->Vals vs us->t vs σ H Q ->
  wpAny (model X.prog X.w) X.A (assignInOrder ((assignEach ts X.env).map (·.2)) us) (fun _ s'=>∃σ' H',Inv X pins σ' H' s'/\Q σ' H') X.xe s
noncomputable abbrev TSet:=V->V->V->Hp->(Hp->Prop)->Prop
noncomputable def PSet (X:Cx) (t:TSet):Prop:=
 ∀(pins:Vp) (s:Shared) (σ:St) (H:Hp) (o i v:V) (ov iv u:Value) (Q:Hp->Prop),Inv X pins σ H s->RelV o ov->RelV i iv->RelV v u->t o i v H Q ->
  wpAny (model X.prog X.w) X.A (setItem ov iv u) (fun _ s'=>∃H',Inv X pins σ H' s'/\Q H') X.xe s
section
noncomputable def rQ (i:Nat):TG:=fun v σ H Q=>Q (σ.set i (some v)) H
theorem A0 (hN:X.N.Nodup) (hi:X.N[i]? =some x) (hx:Loc X.env.scope x) (hf:X.fn x=true\/X.env.scope.names.lookup x=some .local:=by first|exact .inl rfl|exact .inr rfl|assumption):PG X (.Name x pos) (rQ i):=by
 intro pins s σ H v u Q I r h;exact wpAny_assign_Name (wD I hN hi hx r (fun s' I'=>⟨_,H,I',h⟩) hf)
noncomputable def gNil:TGs:=fun vs σ H Q=>vs=[]/\Q σ H
noncomputable def gCons (t:TG) (u:TGs):TGs:=fun vs σ H Q=>∃v r,vs=v::r/\t v σ H fun σ' H'=>u r σ' H' Q
theorem pgs_nil:PGs X [] gNil:=by
 intro pins s σ H vs us Q I r h;obtain ⟨e,h⟩:=h;subst e;cases r;exact assignInOrder_nil ⟨σ,H,I,h⟩
theorem Bm {t:TG} {u:TGs} (h1:PG X e t) (h2:PGs X es u)
  (hs:(assignEach (e::es) X.env).map (·.2)=assign e X.env::(assignEach es X.env).map (·.2):=by rfl):PGs X (e::es) (gCons t u):=by
 intro pins s σ H vs us Q I r h;obtain ⟨v,vr,e1,h⟩:=h;subst e1;cases r with
 |cons r rr=>
  rw [hs];refine assignInOrder_cons (thn (h1 pins s σ H _ _ _ I r h) fun _ s1 ⟨σ1,H1,I1,q1⟩=>?_);exact h2 pins s1 σ1 H1 _ _ Q I1 rr q1
noncomputable def gTup (K:Pn) (n:Nat) (t:TGs):TG:=fun v σ H Q=>∃a xs,v=.ref a/\SqT K H a xs/\xs.length=n/\t xs σ H Q
theorem pg_tup {t:TGs} (hc:X.calm=true) (h:PGs X es t)
  (hn:(assignEach es X.env).length=n:=by rfl) (hst:(assignEach es X.env).findIdx? (·.1)=none:=by rfl):PG X (.Tuple es k pos) (gTup X.K n t):=by
 intro pins s σ H v u Q I r hw;obtain ⟨a,xs,e1,hq,hl,hw⟩:=hw;subst e1;cases r;obtain ⟨its,rv,ht,hz⟩:=I.tuple hq;refine assign_Tuple_tuple (I.ok.hd hc) ht (by simp [hn,<- hl,rv.length]) hst fun h' hx=>?_;have I1:Inv X pins σ H {s with heap:=h'}:=I.kept (t':=s.toks) fun b o e=>hx b o (Nat.ne_of_lt (Heap.lt_size e)) e;exact h pins _ σ H xs _ Q I1 (by simpa using rv) hw
noncomputable def gSub (to ti:TE) (t:TSet):TG:=fun v σ H Q=>to σ H fun o H1=>ti σ H1 fun i H2=>t o i v H2 fun H3=>Q σ H3
theorem pg_sub {o i:Expr} {to ti:TE} {t:TSet} (ho:PE X o to) (hi:PE X i ti) (hs:PSet X t)
  (ha:∀v,assign (.Subscript o i pos) X.env v=(do
   let ov <- holding [v] (eval o X.env)
   let iv <- holding [v,ov] (eval i X.env)
   standAt pos
   holding [v,ov,iv] (setItem ov iv v)
   release [v,ov,iv] []):=by intro _;rfl):PG X (.Subscript o i pos) (gSub to ti t):=by
 intro pins s σ H v u Q I r h;rw [ha];refine wpAny_bind (wpAny_holding (thn (ho pins s σ H _ I h) fun ov s1 ⟨x,H1,I1,r1,q1⟩=>?_));refine wpAny_bind (wpAny_holding (thn (hi pins s1 σ H1 _ I1 q1) fun iv s2 ⟨y,H2,I2,r2,q2⟩=>?_));refine wpAny_bind (wpAny_standAt (wpAny_bind (wpAny_holding (thn (hs pins s2 σ H2 x y v ov iv u _ I2 r1 r2 r q2) fun _ s3 ⟨H3,I3,q3⟩=>?_))));exact wpAny_release ⟨σ,H3,I3,q3⟩
noncomputable def Cg (te:TE) (g:TG):TS:=fun D σ H=>te σ H fun x H1=>g x σ H1 D.nx
theorem E2 {g:TG} (he:PE X e te) (hg:PG X tg g) (hs:swapsWithSole [tg] e pos.line X.env=pure false:=by rfl) (hw:swappedStores [tg] e X.env=pure none:=by rfl)
  (h1:(assignEach [tg] X.env).map (·.2)=[assign tg X.env]:=by rfl):PS X (.Assign [tg] e pos) (Cg te g):=by
 intro pins s σ H D I h;refine wpAny_Assign_stores (thn (he pins s σ H _ I h) fun v s1 ⟨x,H1,I1,r1,q1⟩=>?_) hs hw;rw [h1];exact thn (hg pins s1 σ H1 x v _ I1 r1 q1) fun _ s2 q=>q
theorem Bk (hN:X.N.Nodup) (hi:X.N[i]? =some x) (hx:Loc X.env.scope x) (he:PE X e te) (hs:swapsWith e (some (.Name x pos')) pos.line X.env=pure false:=by rfl) (hf:X.fn x=true\/X.env.scope.names.lookup x=some .local:=by first|exact .inl rfl|exact .inr rfl|assumption) :
  PS X (.Assign [.Name x pos'] e pos) (Cg te (rQ i)):=by
 intro pins s σ H D I h;refine wpAny_Assign_Name (thn (he pins s σ H _ I h) fun v s1 ⟨y,H1,I1,r1,q1⟩=>?_) hs;exact wD I1 hN hi hx r1 (fun s2 I2=>⟨_,H1,I2,q1⟩) hf
end
section
noncomputable def tWhile (c:TT) (tb:TS):TS:=fun D σ H=>∃W:Nat->St->Hp->Prop,(∃m,W m σ H)/\∀m σ H,W m σ H ->
 c σ H fun b H1=>if b=true then ∃N:St->Hp->Prop,(∀σ' H',N σ' H'->∃m',m'<m/\W m' σ' H')/\tb {D with nx:=N,ct:=N,bk:=D.nx} σ H1 else D.nx σ H1
theorem ps_while {tb:TS} (hp:PassesOwn (model X.prog X.w) X.A X.env X.xe) (hc:PT X c tc) (hb:PSs X body tb):PS X (.While c body [] pos) (tWhile tc tb):=by
 intro pins s σ H D I h;obtain ⟨W,⟨m0,w0⟩,turn⟩:=h;refine wpAny_While (codeAny_whileLoop (fun n s'=>∃σ' H',Inv X pins σ' H' s'/\W n σ' H') ?_ m0 ⟨σ,H,I,w0⟩);rintro n s1 ⟨σ1,H1,I1,w1⟩;refine wpAny_passesOwn hp (thn (hc pins s1 σ1 H1 _ I1 (turn n σ1 H1 w1)) fun b s2 ⟨H2,I2,q2⟩=>?_);cases b with
 |true=>
  obtain ⟨N,hN,q2⟩:=q2;rw [if_pos rfl];refine wpAny_passesOwn hp (thn (hb pins s2 σ1 H2 _ I2 q2) fun f s3 q3=>?_);cases f with
  |next=>
   obtain ⟨σ3,H3,I3,n3⟩:=q3;obtain ⟨m',hm,w3⟩:=hN σ3 H3 n3;exact ⟨m',hm,σ3,H3,I3,w3⟩
  |cont=>
   obtain ⟨σ3,H3,I3,n3⟩:=q3;obtain ⟨m',hm,w3⟩:=hN σ3 H3 n3;exact ⟨m',hm,σ3,H3,I3,w3⟩
  |brk=>exact q3
  |ret v=>exact q3
 |false=>
  rw [if_neg Bool.false_ne_true];exact wpAny_execs_nil ⟨σ1,H2,I2,q2⟩
end
structure It where
 go:Nat->Hp->Prop
 yld:Nat->Hp->V->Hp->Prop
 stop:Nat->Hp->Prop
noncomputable def AX (X:Cx) (pins:Vp) (H:Hp) (b:Addr):Prop:=
 H b=none/\b≠X.env.locals/\b∉X.fs/\(b∈X.ex\/X.s₀.heap.objs.size<=b)/\(∀x c,X.env.cells.lookup x=some c->c≠b)/\∀p∈X.pn++pins,p.1≠b
theorem Inv.fpOk (I:Inv X pins σ H s) (hb:s.heap.objs.size<=b) (hn:H' b=none):AX X pins H' b:=by
 refine ⟨hn,Nat.ne_of_gt (Nat.lt_of_lt_of_le I.lt hb),I.nofs hb,.inr (Nat.le_trans I.sz hb),fun x c e z=>?_,fun p hp z=>?_⟩
 ·obtain ⟨v,q⟩:=I.cell x c e;exact absurd (Nat.lt_of_lt_of_le q.lt (by rw [z];exact hb)) (Nat.lt_irrefl _)
 ·exact absurd (Nat.lt_of_lt_of_le (Heap.lt_size (I.pin p hp).1) (by rw [z];exact hb)) (Nat.lt_irrefl _)
structure Turn (P:Program) (w:World) (K:Pn) (tg:Expr) (J:It) (fp:List Addr) (it:Addr) (tn:Nat->Heap->Prop):Prop where
 mem:it∈fp
 obj:∀i h,tn i h->∀b∈fp,∃o,h.get? b=some o/\∀v,o.data≠.cell v
 keep:∀i h h',tn i h->(∀b∈fp,∀o,h.get? b=some o->h'.get? b=some o)->tn i h'
 item:∀(X:Cx),X.prog=P->X.w=w->X.K=K->X.calm=true->∀(i:Nat) (pins:Vp) (s:Shared) (σ:St) (H:Hp) (E:Mq),Inv X pins σ H s->(∀b∈fp,AX X pins H b)->tn i s.heap->J.go i H ->
  wpAny (model P w) X.A (pyNext (.ref it)) (fun r s1=>∃u,r=some u /\
   wpAny (model P w) X.A (letOwnedTupleGo tg (.ref it) u) (fun _ s2=>∃x H',Inv X pins σ H' s2/\RelV x u/\J.yld i H x H'/\tn (i+1) s2.heap/\∀b∈fp,H' b=none) E s1) E s
 done:∀(X:Cx),X.prog=P->X.w=w->X.K=K->X.calm=true->∀(i:Nat) (pins:Vp) (s:Shared) (σ:St) (H:Hp) (E:Mq),Inv X pins σ H s->(∀b∈fp,AX X pins H b)->tn i s.heap->J.stop i H ->
  wpAny (model P w) X.A (pyNext (.ref it)) (fun r s1=>r=none/\Inv X pins σ H s1) E s
 self:∀(A:Around) (i:Nat) (s:Shared) (Q:Mq) (E:Mq),tn i s.heap->Q (.ref it) s->wpAny (model P w) A (pyIter (.ref it)) Q E s
noncomputable abbrev TI:=St->Hp->(It->Hp->Prop)->Prop
noncomputable def PIE (X:Cx) (pins:Vp) (σ:St) (tg:Expr) (R:It->Hp->Prop) (itv:Value) (s2:Shared):Prop:=
 ∃(it:Addr) (fp:List Addr) (tn:Nat->Heap->Prop) (J:It) (H':Hp),itv=.ref it/\Inv X pins σ H' s2/\Turn X.prog X.w X.K tg J fp it tn/\tn 0 s2.heap/\(∀b∈fp,AX X pins H' b)/\R J H'
noncomputable def PI (X:Cx) (tg iter:Expr) (wi:TI):Prop:=
 ∀(pins:Vp) (s:Shared) (σ:St) (H:Hp) (R:It->Hp->Prop),Inv X pins σ H s->wi σ H R ->
  wpAny (model X.prog X.w) X.A (eval iter X.env) (fun v s1=>wpAny (model X.prog X.w) X.A (pyIter v) (PIE X pins σ tg R) X.xe s1) X.xe s
theorem go_of {M : Model} {A : Around} {E : Value -> Shared -> Prop} {s : Shared} {tg : Expr} {it : Addr} {u : Value} {o : Obj} {n : String} {vs : Array Value} {Q : Unit -> Shared -> Prop} (ho : s.heap.get? it = some o) (hc : o.cls = .type n) (hd : o.data = .fields vs)
    (hn : ["enumerate", "zip", "dict_itemiterator", "dict_reverseitemiterator", "odict_iterator", "itertools.zip_longest", "itertools.pairwise"].contains n = false) (hQ : Q () s) : wpAny M A (letOwnedTupleGo tg (.ref it) u) Q E s := by
  unfold letOwnedTupleGo;cases tg <;> first
    | exact wpAny_pure hQ
    | (cases u <;> first
        | exact wpAny_pure hQ
        | (refine wpAny_bind (wpAny_load ho ?_)
           rw [hc, hd];show wpAny M A (if (["enumerate", "zip", "dict_itemiterator", "dict_reverseitemiterator", "odict_iterator", "itertools.zip_longest", "itertools.pairwise"].contains n && vs[0]? == some (rawInt _)) = true then _ else _) Q E s;rw [if_neg (by intro h; rw [hn, Bool.false_and] at h; cases h)];exact wpAny_pure hQ))
noncomputable def Itl (K:Pn) (a:Addr):It:=
 ⟨fun i H=>∃xs x,SqL K H a xs/\xs[i]? =some x,fun i H x H'=>H'=H/\∀xs,SqL K H a xs->xs[i]? =some x,fun i H=>∃xs,SqL K H a xs/\xs.length<=i⟩
noncomputable def Itt (K:Pn) (a:Addr):It:=
 ⟨fun i H=>∃xs x,SqT K H a xs/\xs[i]? =some x,fun i H x H'=>H'=H/\∀xs,SqT K H a xs->xs[i]? =some x,fun i H=>∃xs,SqT K H a xs/\xs.length<=i⟩
noncomputable def Itr (lo:Int) (n:Nat):It:=⟨fun i _=>i<n,fun i H x H'=>H'=H/\x=.int (lo+i),fun i _=>n<=i⟩
theorem Dt (a it:Addr):Turn P w K tg (Itl K a) [it] it (fun i h=>h.IsListIter it a i) where
 mem:=by simp
 obj:=fun i h st b hb=>by
  have e:b=it:=by simpa using hb
  subst e;obtain ⟨o,e,c,d⟩:=st;exact ⟨o,e,fun v z=>by rw [d] at z;cases z⟩
 keep:=fun i h h' st k=>st.at fun o e=>k it (by simp) o e
 item:=by
  intro X hP hw hK hc i pins s σ H E I hf st hg;subst hP hw hK;obtain ⟨xs,x,hq,hx⟩:=hg;obtain ⟨its,rv,p,hz⟩:=I.list hq;obtain ⟨u,hu,ru⟩:=rv.get hx;obtain ⟨f0,f1,f2,f3,f4,f5⟩:=hf it (by simp);refine wpAny_pyNext_list_item st p.isList (x:=u) (by simpa using hu) fun h' st' sb=>?_;have I1:Inv X pins σ H {s with heap:=h'}:=I.turned (t':=s.toks) (fun b o hb e=>(sb.2 b hb).trans e) f0 f1 f3 f4 f5;obtain ⟨o,e,c,d⟩:=id st';exact ⟨u,rfl,go_of (s:={s with heap:=h'}) e c d (by decide) ⟨x,H,I1,ru,⟨rfl,fun ys hy=>by rw [I.pV hy hq];exact hx⟩,st',fun b hb=>(hf b hb).1⟩⟩
 done:=by
  intro X hP hw hK hc i pins s σ H E I hf st hg;subst hP hw hK;obtain ⟨xs,hq,hx⟩:=hg;obtain ⟨its,rv,p,hz⟩:=I.list hq;obtain ⟨f0,f1,f2,f3,f4,f5⟩:=hf it (by simp);have hl:=rv.length;exact wpAny_pyNext_list_end (I.ok.hd hc) st p.isList (by simp;omega) fun h' eb=>⟨rfl,I.turned (t':=s.toks) (fun b o hb e=>eb b o hb e) f0 f1 f3 f4 f5⟩
 self:=fun _ _ _ _ _ st h=>wpAny_pyIter_listiter st h
theorem Ce (a it:Addr):Turn P w K tg (Itt K a) [it] it (fun i h=>h.IsTupleIter it a i) where
 mem:=by simp
 obj:=fun i h st b hb=>by
  have e:b=it:=by simpa using hb
  subst e;obtain ⟨o,e,c,d⟩:=st;exact ⟨o,e,fun v z=>by rw [d] at z;cases z⟩
 keep:=fun i h h' st k=>st.at fun o e=>k it (by simp) o e
 item:=by
  intro X hP hw hK hc i pins s σ H E I hf st hg;subst hP hw hK;obtain ⟨xs,x,hq,hx⟩:=hg;obtain ⟨its,rv,p,hz⟩:=I.tuple hq;obtain ⟨u,hu,ru⟩:=rv.get hx;obtain ⟨f0,f1,f2,f3,f4,f5⟩:=hf it (by simp);refine wpAny_pyNext_tuple_item st (show s.heap.IsTuple a its.toArray from p) (x:=u) (by simpa using hu) fun h' st' sb=>?_;have I1:Inv X pins σ H {s with heap:=h'}:=I.turned (t':=s.toks) (fun b o hb e=>(sb.2 b hb).trans e) f0 f1 f3 f4 f5;obtain ⟨o,e,c,d⟩:=id st';exact ⟨u,rfl,go_of (s:={s with heap:=h'}) e c d (by decide) ⟨x,H,I1,ru,⟨rfl,fun ys hy=>by rw [I.Dw hy hq];exact hx⟩,st',fun b hb=>(hf b hb).1⟩⟩
 done:=by
  intro X hP hw hK hc i pins s σ H E I hf st hg;subst hP hw hK;obtain ⟨xs,hq,hx⟩:=hg;obtain ⟨its,rv,p,hz⟩:=I.tuple hq;obtain ⟨f0,f1,f2,f3,f4,f5⟩:=hf it (by simp);have hl:=rv.length;exact wpAny_pyNext_tuple_end (I.ok.hd hc) st (show s.heap.IsTuple a its.toArray from p) (by simp;omega) fun h' eb=>⟨rfl,I.turned (t':=s.toks) (fun b o hb e=>eb b o hb e) f0 f1 f3 f4 f5⟩
 self:=fun _ _ _ _ _ st h=>wpAny_pyIter_tupleiter st h
theorem Cf (it:Addr) (lo:Int) (n:Nat):Turn P w K tg (Itr lo n) [it] it (fun i h=>IsRangeIter h it (lo+(i:Nat)*1) ((n:Int)-(i:Nat)) 1) where
 mem:=by simp
 obj:=fun i h st b hb=>by
  have e:b=it:=by simpa using hb
  subst e;exact ⟨_,st,fun v z=>by
   have z':Data.fields _=Data.cell v:=z;cases z'⟩
 keep:=fun i h h' st k=>k it (by simp) _ st
 item:=by
  intro X hP hw hK hc i pins s σ H E I hf st hg;subst hP hw hK;obtain ⟨f0,f1,f2,f3,f4,f5⟩:=hf it (by simp);have W:=Walks.range (prog:=X.prog) (w:=X.w) (I.ok.hd hc) it lo 1 n;refine W.item i s _ _ hg st fun v h' tk hv st' kk=>?_;obtain ⟨t,rfl⟩:=hv;have I1:Inv X pins σ H {s with heap:=h',toks:=tk}:=I.turned (fun b o hb e=>kk b o (by simpa using hb) e) f0 f1 f3 f4 f5;refine ⟨_,rfl,go_of (s:={s with heap:=h',toks:=tk}) (n:="range_iterator") st' rfl rfl (by decide) ⟨.int (lo+i),H,I1,⟨t,?_⟩,⟨rfl,rfl⟩,st',fun b hb=>(hf b hb).1⟩⟩
  rw [Int.mul_one]
 done:=by
  intro X hP hw hK hc i pins s σ H E I hf st hg;subst hP hw hK;obtain ⟨f0,f1,f2,f3,f4,f5⟩:=hf it (by simp);exact wpAny_pyNext_range_end (I.ok.hd hc) st (by have:n<=i:=hg;omega) fun h' eb=>⟨rfl,I.turned (t':=s.toks) (fun b o hb e=>eb b o hb e) f0 f1 f3 f4 f5⟩
 self:=fun _ _ _ _ _ st h=>wpAny_pyIter_rangeiter st h
section
theorem Bj {R:It->Hp->Prop} {lo hi:Int} {t u v:Tok} {tk:Nat} (I:Inv X pins σ H s) (h1: -(2^62)<=lo) (h2:lo<2^62) (h3: -(2^62)<=hi) (h4:hi<2^62)
  (q:R (Itr lo (hi-lo).toNat) H):wpAny (model X.prog X.w) X.A (pyIter (.ref s.heap.objs.size)) (PIE X pins σ tg R) E {s with heap:=s.heap.push {cls:=.type "range",data:=.fields #[.int lo t,.int hi u,.int 1 v]},toks:=tk}:=by
 refine wpAny_pyIter_range (IsRange.new ..) (small_one h1 h2 h3 h4) ?_;have I1:Inv X pins σ H {s with heap:=s.heap.push {cls:=.type "range",data:=.fields #[.int lo t,.int hi u,.int 1 v]},toks:=tk}:=I.kept fun b o e=>Heap.get?_push_of_some _ e;refine ⟨(s.heap.push {cls:=.type "range",data:=.fields #[.int lo t,.int hi u,.int 1 v]}).objs.size,[(s.heap.push {cls:=.type "range",data:=.fields #[.int lo t,.int hi u,.int 1 v]}).objs.size],_,_,H,rfl,
  I1.kept (t':=tk) fun b o e=>Heap.get?_push_of_some _ e,Cf _ lo (hi-lo).toNat,?_,fun b hb=>?_,q⟩
 ·have e1:lo+((0:Nat):Int)*1=lo:=by simp
  have e2:(((hi-lo).toNat:Nat):Int)-((0:Nat):Int)=Builtin.Range.rangeSize lo hi 1:=by rw [rangeSize_one];split<;>omega
  show IsRangeIter _ _ (lo+((0:Nat):Int)*1) ((((hi-lo).toNat:Nat):Int)-((0:Nat):Int)) 1;rw [e1,e2];exact Heap.get?_push_size _ rfl
 ·have e:b=(s.heap.push {cls:=.type "range",data:=.fields #[.int lo t,.int hi u,.int 1 v]}).objs.size:=by simpa using hb
  subst e;exact I1.fpOk (Nat.le_refl _) (I1.hok.fresh (Nat.le_refl _))
noncomputable def iRng1 (ta:TA):TI:=fun σ H R=>ta σ H fun vs H1=>∃j:Int,vs=[.int j]/\ -(2^62)<=j/\j<2^62/\R (Itr 0 j.toNat) H1
noncomputable def iRng2 (ta:TA):TI:=fun σ H R=>ta σ H fun vs H1=>∃i j:Int,vs=[.int i,.int j]/\(-(2^62)<=i/\i<2^62/\ -(2^62)<=j/\j<2^62)/\R (Itr i (j-i).toNat) H1
theorem E8 {a:Expr} {ta:TA} (hg:Gl X "range") (hm:X.mg "range"=none) (ha:PA X [a] ta) (hs:starEach [a] X.env=[(false,eval a X.env)]:=by rfl):PI X tg (.Call (.Name "range" p) [a] [] pos) (iRng1 ta):=by
 intro pins s σ H R I h;refine Call_ (oQ I hg hm boot_range (PyProof.Rows.callWith_type1 (thn (ha pos pins s σ H _ I h) fun us s1 ⟨vs,H1,I1,r1,q1⟩=>?_) hs rfl));obtain ⟨j,e,q1,q2,q⟩:=q1;subst e;cases r1 with
 |cons r rr=>
  cases rr;obtain ⟨t,rfl⟩:=r;exact call_range_1 (Bj I1 (by omega) (by omega) q1 q2 (by simpa using q))
theorem E7 {a b:Expr} {ta:TA} (hg:Gl X "range") (hm:X.mg "range"=none) (ha:PA X [a,b] ta) (hs:starEach [a,b] X.env=[(false,eval a X.env),(false,eval b X.env)]:=by rfl) (hs2:starEach [b] X.env=[(false,eval b X.env)]:=by rfl) :
  PI X tg (.Call (.Name "range" p) [a,b] [] pos) (iRng2 ta):=by
 intro pins s σ H R I h;refine Call_ (oQ I hg hm boot_range (PyProof.Rows.callWith_type1 (thn (ha pos pins s σ H _ I h) fun us s1 ⟨vs,H1,I1,r1,q1⟩=>?_) (by rw [hs,hs2]) (by rw [hs2];rfl)));obtain ⟨i,j,e,⟨q1,q2,q3,q4⟩,q⟩:=q1;subst e;cases r1 with
 |cons r rr=>
  cases rr with
  |cons r' rr=>
   cases rr;obtain ⟨t,rfl⟩:=r;obtain ⟨t',rfl⟩:=r';exact call_range_2 (Bj I1 q1 q2 q3 q4 q)
noncomputable def tFor (wi:TI) (g:TG) (tb:TS):TS:=fun D σ H=>wi σ H fun J H1=>∃W:Nat->Nat->St->Hp->Prop,(∃m,W 0 m σ H1)/\∀i m σ H,W i m σ H ->
 (J.stop i H/\D.nx σ H)\/(J.go i H/\∃N:St->Hp->Prop,(∀σ' H',N σ' H'->∃m',m'<m/\W (i+1) m' σ' H')/\∀x H',J.yld i H x H'->g x σ H' fun σ2 H2=>tb {D with nx:=N,ct:=N,bk:=D.nx} σ2 H2)
noncomputable def yu (fp:List Addr) (h:Heap):Vp:=fp.filterMap fun b=>(h.get? b).map fun o=>(b,o)
theorem pS {o:Obj} (hb:b∈fp) (e:h.get? b=some o):(b,o)∈yu fp h:=List.mem_filterMap.mpr ⟨b,hb,by rw [e];rfl⟩
theorem Em {p:Addr×Obj} (hp:p∈yu fp h):p.1∈fp/\h.get? p.1=some p.2:=by
 obtain ⟨b,hb,e⟩:=List.mem_filterMap.mp hp;cases q:h.get? b with
 |none=>rw [q] at e;cases e
 |some o=>
  rw [q] at e;have e':(b,o)=p:=Option.some.inj e;subst e';exact ⟨hb,q⟩
theorem Inv.pinned (I:Inv X pins σ H s) (hf:∀b∈fp,AX X pins H b) (ho:∀b∈fp,∃o,s.heap.get? b=some o/\∀v,o.data≠.cell v):Inv X (pins++yu fp s.heap) σ H s:=
 I.wU fun p hp=>(List.mem_append.mp hp).elim (fun z=>I.pin p (List.mem_append_right _ z)) fun z=>by
  obtain ⟨hb,e⟩:=Em z;obtain ⟨f0,f1,f2,_⟩:=hf p.1 hb;obtain ⟨o,e',d⟩:=ho p.1 hb;rw [e] at e';cases e';exact ⟨e,f0,f1,f2,d⟩
theorem Inv.wz {pl:Vp} (I:Inv X (pins++pl) σ H s):Inv X pins σ H s:=I.wU fun p hp=>I.pin p (List.mem_append_right _ (List.mem_append_left _ hp))
theorem ps_for {iter:Expr} {wi:TI} {g:TG} {tb:TS} (hp:PassesOwn (model X.prog X.w) X.A X.env X.xe) (hc:X.calm=true) (hi:PI X tg iter wi) (hg:PG X tg g) (hb:PSs X body tb)
  (hs:∀x,foldedSetIterable iter X.env x=pure x:=by intro _;rfl):PS X (.For tg iter body [] pos) (tFor wi g tb):=by
 intro pins s σ H D I h;refine wpAny_For (thn (hi pins s σ H _ I h) fun v s1 h1=>thn h1 fun itv s2 h2=>?_) hs;obtain ⟨it,fp,tn,J,H2,e,I2,T,st2,f2,W,⟨m0,w0⟩,turn⟩:=h2;subst e;have stat:∀{H':Hp},(∀b∈fp,H' b=none)->∀b∈fp,AX X pins H' b:=fun hn b hb=>⟨hn b hb,(f2 b hb).2⟩
 refine codeAny_forLoop_any (fun n s'=>∃i σ' H',Inv X pins σ' H' s'/\tn i s'.heap/\(∀b∈fp,H' b=none)/\W i n σ' H') ?_ m0 ⟨0,σ,H2,I2,st2,fun b hb=>(f2 b hb).1,w0⟩;rintro n s3 ⟨i,σ3,H3,I3,st3,fr3,w3⟩;rcases turn i n σ3 H3 w3 with ⟨stop,qn⟩|⟨go,N,hN,step⟩
 ·refine wpAny_passesOwn hp (thn (T.done X rfl rfl rfl hc i pins s3 σ3 H3 X.xe I3 (stat fr3) st3 stop) fun r s4 ⟨hr,I4⟩=>?_);subst hr;exact wpAny_execs_nil ⟨σ3,H3,I4,qn⟩
 ·refine wpAny_passesOwn hp (thn (T.item X rfl rfl rfl hc i pins s3 σ3 H3 X.xe I3 (stat fr3) st3 go) fun r s4 ⟨u,hr,h4⟩=>?_);subst hr;refine wpAny_passesOwn hp (thn h4 fun _ s5 ⟨x,H5,I5,r5,y5,st5,fr5⟩=>?_);have I5':=I5.pinned (stat fr5) (T.obj _ _ st5);refine wpAny_passesOwn hp (thn (hg _ s5 σ3 H5 x u _ I5' r5 (step x H5 y5)) fun _ s6 ⟨σ6,H6,I6,q6⟩=>?_);refine wpAny_passesOwn hp (thn (hb _ s6 σ6 H6 _ I6 q6) fun f s7 q7=>?_);have again:∀{σ7:St} {H7:Hp},Inv X (pins++yu fp s5.heap) σ7 H7 s7->N σ7 H7->∃m,m<n/\∃i σ' H',Inv X pins σ' H' s7/\tn i s7.heap/\(∀b∈fp,H' b=none)/\W i m σ' H':=fun {σ7 H7} I7 n7=>by
   obtain ⟨m',hm,w7⟩:=hN σ7 H7 n7;refine ⟨m',hm,i+1,σ7,H7,I7.wz,T.keep _ _ _ st5 fun b hb o e=>(I7.pin (b,o) (List.mem_append_right _ (List.mem_append_right _ (pS hb e)))).1,fun b hb=>?_,w7⟩
   obtain ⟨o,e,d⟩:=T.obj _ _ st5 b hb;exact (I7.pin (b,o) (List.mem_append_right _ (List.mem_append_right _ (pS hb e)))).2.1
  cases f with
  |next=>obtain ⟨σ7,H7,I7,n7⟩:=q7;exact again I7 n7
  |cont=>obtain ⟨σ7,H7,I7,n7⟩:=q7;exact again I7 n7
  |brk=>obtain ⟨σ7,H7,I7,q7⟩:=q7;exact ⟨σ7,H7,I7.wz,q7⟩
  |ret v=>obtain ⟨x7,σ7,H7,I7,r7,q7⟩:=q7;exact ⟨x7,σ7,H7,I7.wz,r7,q7⟩
end
noncomputable abbrev R2:=V->V->Hp->VK->Prop
variable {r r':R2}
noncomputable def OpR (X:Cx) (f:Value->Value->Sem Value) (r:R2):Prop:=
 ∀(pins:Vp) (s:Shared) (σ:St) (H:Hp) (x y:V) (v u:Value) (Q:VK),Inv X pins σ H s->RelV x v->RelV y u->r x y H Q ->
  wpAny (model X.prog X.w) X.A (f v u) (EP X pins σ Q) X.xe s
noncomputable def UnR (X:Cx) (f:Value->Sem Value) (r:V->Hp->VK->Prop):Prop:=
 ∀(pins:Vp) (s:Shared) (σ:St) (H:Hp) (x:V) (v:Value) (Q:VK),Inv X pins σ H s->RelV x v->r x H Q ->
  wpAny (model X.prog X.w) X.A (f v) (EP X pins σ Q) X.xe s
noncomputable def dS (X:Cx) (f:Value) (r:List V->Hp->VK->Prop):Prop:=
 ∀(pins:Vp) (s:Shared) (σ:St) (H:Hp) (xs:List V) (us:List Value) (Q:VK),Inv X pins σ H s->Vals xs us->r xs H Q ->
  wpAny (model X.prog X.w) X.A (call f us) (EP X pins σ Q) X.xe s
noncomputable def TruR (X:Cx) (r:V->Hp->(Bool->Hp->Prop)->Prop):Prop:=
 ∀(pins:Vp) (s:Shared) (σ:St) (H:Hp) (x:V) (v:Value) (Q:Bool->Hp->Prop),Inv X pins σ H s->RelV x v->r x H Q ->
  wpAny (model X.prog X.w) X.A (truthy v) (TP X pins σ Q) X.xe s
noncomputable def tOp (r:R2) (ta tb:TE):TE:=fun σ H Q=>ta σ H fun x H1=>tb σ H1 fun y H2=>r x y H2 Q
noncomputable def tUn (r:V->Hp->VK->Prop) (ta:TE):TE:=fun σ H Q=>ta σ H fun x H1=>r x H1 Q
noncomputable def rI (C:Int->Int->Prop) (g:Int->Int->V):R2:=fun x y H Q=>∃i j,x=.int i/\y=.int j/\C i j/\Q (g i j) H
noncomputable def rI0 (g:Int->Int->V):R2:=fun x y H Q=>∃i j,x=.int i/\y=.int j/\Q (g i j) H
noncomputable def rU (g:Int->V):V->Hp->VK->Prop:=fun x H Q=>∃i,x=.int i/\Q (g i) H
section
variable {a b:Expr} 
theorem binT (ha:PE X a ta) (hb:PE X b tb) {R:V->V->Hp->Prop} (I:Inv X pins σ H s)
  (h:ta σ H fun x H1=>tb σ H1 fun y H2=>R x y H2) {Q:Mq} {f:Value->Value->Sem Value}
  (hf:∀v u s2 x y H2,Inv X pins σ H2 s2->RelV x v->RelV y u->R x y H2->wpAny (model X.prog X.w) X.A (f v u) Q X.xe s2) :
  wpAny (model X.prog X.w) X.A (eval a X.env) (fun v s₁=>wpAny (model X.prog X.w) X.A (eval b X.env) (fun u s₂=>wpAny (model X.prog X.w) X.A (f v u) Q X.xe s₂) X.xe s₁) X.xe s:=by
 refine thn (ha pins s σ H _ I h) fun v s1 ⟨x,H1,I1,r1,q1⟩=>?_;refine thn (hb pins s1 σ H1 _ I1 q1) fun u s2 ⟨y,H2,I2,r2,q2⟩=>?_;exact hf v u s2 x y H2 I2 r1 r2 q2
theorem pe_op {op:Operator} (ho:OpR X (binaryOp op) r) (ha:PE X a ta) (hb:PE X b tb):PE X (.BinOp a op b pos) (tOp r ta tb):=by
 intro pins s σ H Q I h;exact wpAny_BinOp (binT ha hb I h fun v u s2 x y H2 I2 rx ry q=>ho pins s2 σ H2 x y v u Q I2 rx ry q)
theorem pe_un {op:UnaryOp} {r:V->Hp->VK->Prop} (ho:UnR X (unaryOp op) r) (ha:PE X a ta):PE X (.UnaryOp op a pos) (tUn r ta):=by
 intro pins s σ H Q I h;exact UnaryOp_ (thn (ha pins s σ H _ I h) fun v s1 ⟨x,H1,I1,r1,q1⟩=>ho pins s1 σ H1 x v Q I1 r1 q1)
theorem opI {f:Value->Value->Sem Value} {C:Int->Int->Prop} 
  (rule:∀(i j:Int) (t u:Tok) (s:Shared) (Q:Mq) (E:Mq),C i j->Q (.int (g i j) s.toks) {s with toks:=s.toks+1}->wpAny (model X.prog X.w) X.A (f (.int i t) (.int j u)) Q E s) :
  OpR X f (rI C fun i j=>.int (g i j)):=by
 intro pins s σ H x y v u Q I rx ry h;obtain ⟨i,j,rfl,rfl,hc,q⟩:=h;obtain ⟨t,rfl⟩:=rx;obtain ⟨t',rfl⟩:=ry;exact rule i j t t' s _ _ hc ⟨.int (g i j),H,I.tok _,⟨_,rfl⟩,q⟩
theorem opI0 {f:Value->Value->Sem Value} 
  (rule:∀(i j:Int) (t u:Tok) (s:Shared) (Q:Mq) (E:Mq),Q (.int (g i j) s.toks) {s with toks:=s.toks+1}->wpAny (model X.prog X.w) X.A (f (.int i t) (.int j u)) Q E s) :
  OpR X f (rI0 fun i j=>.int (g i j)):=by
 intro pins s σ H x y v u Q I rx ry h;obtain ⟨i,j,rfl,rfl,q⟩:=h;obtain ⟨t,rfl⟩:=rx;obtain ⟨t',rfl⟩:=ry;exact rule i j t t' s _ _ ⟨.int (g i j),H,I.tok _,⟨_,rfl⟩,q⟩
theorem opB0 {f:Value->Value->Sem Value} {g:Int->Int->Bool}
  (rule:∀(i j:Int) (t u:Tok) (s:Shared) (Q:Mq) (E:Mq),Q (.bool (g i j)) s->wpAny (model X.prog X.w) X.A (f (.int i t) (.int j u)) Q E s) :
  OpR X f (rI0 fun i j=>.bl (g i j)):=by
 intro pins s σ H x y v u Q I rx ry h;obtain ⟨i,j,rfl,rfl,q⟩:=h;obtain ⟨t,rfl⟩:=rx;obtain ⟨t',rfl⟩:=ry;exact rule i j t t' s _ _ ⟨.bl (g i j),H,I,rfl,q⟩
noncomputable def CPow (i j:Int):Prop:=0<=j/\j<=1000000/\i.natAbs<2^64
noncomputable def CMul (i j:Int):Prop:=(-(2^64)<i/\i<2^64)\/(-(2^64)<j/\j<2^64)
theorem CMul.ok {i j:Int} (h:CMul i j):IntMulOk i j:=by
 rcases h with ⟨h1,h2⟩|⟨h1,h2⟩
 ·exact .of_left (intBits_le_64 h1 h2)
 ·exact .of_right (intBits_le_64 h1 h2)
theorem op_add:OpR X (binaryOp .Add) (rI0 fun i j=>.int (i+j)):=opI0 fun _ _ _ _ _ _ _ q=>add_int q
theorem op_sub:OpR X (binaryOp .Sub) (rI0 fun i j=>.int (i-j)):=opI0 fun _ _ _ _ _ _ _ q=>sub_int q
theorem op_mul:OpR X (binaryOp .Mult) (rI CMul fun i j=>.int (i*j)):=opI fun _ _ _ _ _ _ _ hc q=>mul_int q hc.ok
theorem op_mod:OpR X (binaryOp .Mod) (rI (fun _ j=>0<j) fun i j=>.int (i%j)):=opI fun i j _ _ _ _ _ hc q=>by
 have h1:(0:Int)<j:=hc;exact mod_int' (by omega) (by rw [Int.fmod_eq_emod_of_nonneg i (by omega)];exact q)
theorem op_pow:OpR X (binaryOp .Pow) (rI CPow fun i j=>.int (i^j.toNat)):=opI fun _ _ _ _ _ _ _ hc q=>pow_int_small hc.1 hc.2.1 hc.2.2 q
theorem unI {f:Value->Sem Value} {g:Int->Int}
  (rule:∀(i:Int) (t:Tok) (s:Shared) (Q:Mq) (E:Mq),Q (.int (g i) s.toks) {s with toks:=s.toks+1}->wpAny (model X.prog X.w) X.A (f (.int i t)) Q E s) :
  UnR X f (rU fun i=>.int (g i)):=by
 intro pins s σ H x v Q I rx h;obtain ⟨i,rfl,q⟩:=h;obtain ⟨t,rfl⟩:=rx;exact rule i t s _ _ ⟨.int (g i),H,I.tok _,⟨_,rfl⟩,q⟩
theorem un_neg:UnR X (unaryOp .USub) (rU fun i=>.int (-i)):=unI fun _ _ _ _ _ q=>neg_int q
end
noncomputable def scal:V->V->Bool
 |.non,.non=>true|.non,.int _=>true|.int _,.non=>true|.non,.bl _=>true|.bl _,.non=>true|.non,.str _=>true|.str _,.non=>true
 |.int _,.int _=>true|.bl _,.bl _=>true|.str _,.str _=>true|.byt _,.byt _=>true
 |.int _,.str _=>true|.str _,.int _=>true|.bl _,.str _=>true|.str _,.bl _=>true
 |_,_=>false
noncomputable def rNe:R2:=fun x y H Q=>scal x y=true/\Q (.bl (!decide (x=y))) H
theorem dec_int {i j:Int}:decide (V.int i=V.int j)=(i==j):=by
 rw [Bool.eq_iff_iff];simp
theorem dec_bl {i j:Bool}:decide (V.bl i=V.bl j)=(i==j):=by
 rw [Bool.eq_iff_iff];simp
theorem dec_str {i j:Str}:decide (V.str i=V.str j)=(i==j):=by
 rw [Bool.eq_iff_iff];simp
theorem dec_byt {i j:Array UInt8}:decide (V.byt i=V.byt j)=(i.toList==j.toList):=by
 rw [Bool.eq_iff_iff];cases i;cases j;simp
section
variable {a b:Expr} {tc:TE} 
theorem eV {Q:VK} {k k':Bool} (I:Inv X pins σ H s) (q:Q (.bl k) H) (e:k=k'):EP X pins σ Q (.bool k') s:=by
 subst e;exact ⟨.bl k,H,I,rfl,q⟩
theorem op_ne:OpR X (compareOp .NotEq) rNe:=by
 intro pins s σ H x y v u Q I rx ry h;obtain ⟨hs,q⟩:=h;cases x with
 |non=>
  cases rx;cases y with
  |non=>cases ry;exact PySem.EqNone.ne_none_none (eV I q (by simp))
  |bl j=>cases ry;exact PySem.EqNone.ne_none_bool (eV I q (by simp))
  |int j=>obtain ⟨t',rfl⟩:=ry;exact PySem.EqNone.ne_none_int (eV I q (by simp))
  |str j=>obtain ⟨t',rfl⟩:=ry;exact PySem.EqNone.ne_none_str (eV I q (by simp))
  |_=>exact absurd (show false=true from hs) Bool.false_ne_true
 |bl i=>
  cases rx;cases y with
  |non=>cases ry;exact PySem.EqNone.ne_bool_none (eV I q (by simp))
  |bl j=>cases ry;exact ne_bool (eV I q (congrArg not dec_bl))
  |str j=>obtain ⟨t',rfl⟩:=ry;exact PySem.EqMixed.ne_bool_str (eV I q (by simp))
  |_=>exact absurd (show false=true from hs) Bool.false_ne_true
 |int i=>
  obtain ⟨t,rfl⟩:=rx;cases y with
  |non=>cases ry;exact PySem.EqNone.ne_int_none (eV I q (by simp))
  |int j=>obtain ⟨t',rfl⟩:=ry;exact ne_int (eV I q (congrArg not dec_int))
  |str j=>obtain ⟨t',rfl⟩:=ry;exact PySem.EqMixed.ne_int_str (eV I q (by simp))
  |_=>exact absurd (show false=true from hs) Bool.false_ne_true
 |str i=>
  obtain ⟨t,rfl⟩:=rx;cases y with
  |non=>cases ry;exact PySem.EqNone.ne_str_none (eV I q (by simp))
  |bl j=>cases ry;exact PySem.EqMixed.ne_str_bool (eV I q (by simp))
  |int j=>obtain ⟨t',rfl⟩:=ry;exact PySem.EqMixed.ne_str_int (eV I q (by simp))
  |str j=>obtain ⟨t',rfl⟩:=ry;exact ne_str (eV I q (congrArg not dec_str))
  |_=>exact absurd (show false=true from hs) Bool.false_ne_true
 |byt i=>
  obtain ⟨t,rfl⟩:=rx;cases y with
  |byt j=>obtain ⟨t',rfl⟩:=ry;exact PySem.W.ne_bytes (eV I q (congrArg not dec_byt))
  |_=>exact absurd (show false=true from hs) Bool.false_ne_true
 |_=>cases y<;>exact absurd (show false=true from hs) Bool.false_ne_true
theorem op_lt:OpR X (compareOp .Lt) (rI0 fun i j=>.bl (decide (i<j))):=opB0 fun _ _ _ _ _ _ _ q=>lt_int q
theorem op_le:OpR X (compareOp .LtE) (rI0 fun i j=>.bl (decide (i<=j))):=opB0 fun _ _ _ _ _ _ _ q=>le_int q
theorem op_gt:OpR X (compareOp .Gt) (rI0 fun i j=>.bl (decide (j<i))):=opB0 fun _ _ _ _ _ _ _ q=>gt_int q
theorem op_ge:OpR X (compareOp .GtE) (rI0 fun i j=>.bl (decide (j<=i))):=opB0 fun _ _ _ _ _ _ _ q=>ge_int q
theorem op_isN:OpR X (compareOp .Is) (fun x y H Q=>y=.non/\Q (.bl (decide (x=.non))) H):=by
 intro pins s σ H x y v u Q I rx ry h;obtain ⟨rfl,q⟩:=h;cases ry;refine is_none_gen (eV I q ?_);cases x<;>first
  |(cases rx;rfl)
  |(obtain ⟨t,rfl⟩:=rx;rfl)
noncomputable def isObj:HO->Bool
 |.lst _=>true
 |.ins _ _ _=>true
 |_=>false
theorem OpR.or {f:Value->Value->Sem Value} (h:OpR X f r) (h':OpR X f r'):OpR X f (fun x y H Q=>r x y H Q\/r' x y H Q):=by
 intro pins s σ H x y v u Q I rx ry q;rcases q with q|q
 ·exact h pins s σ H x y v u Q I rx ry q
 ·exact h' pins s σ H x y v u Q I rx ry q
theorem En (b:Expr) (h:op≠.In:=by decide) (h2:op≠.NotIn:=by decide):behindInMarks op b=false:=by
 have e1:(op==CmpOp.In)=false:=by cases op<;>first|rfl|exact absurd rfl h
 have e2:(op==CmpOp.NotIn)=false:=by cases op<;>first|rfl|exact absurd rfl h2
 cases b<;>simp [behindInMarks,e1,e2]
theorem pe_cmpR (ho:OpR X (compareOp op) r) (ha:PE X a ta) (hb:PE X b tb) (hm:behindInMarks op b=false):PE X (.Compare a [op] [b] pos) (tOp r ta tb):=by
 intro pins s σ H Q I h;exact wpAny_Compare1 (binT ha hb I h fun v u s2 x y H2 I2 rx ry q=>ho pins s2 σ H2 x y v u Q I2 rx ry q) hm
noncomputable def tTest (t:TE):TT:=fun σ H Q=>t σ H fun x H'=>∃k,x=.bl k/\Q k H'
theorem DV (ho:OpR X (compareOp op) r) (ha:PE X a ta) (hb:PE X b tb) (hm:behindInMarks op b=false):PT X (.Compare a [op] [b] pos) (tTest (tOp r ta tb)):=by
 intro pins s σ H Q I h;refine wpAny_isTrue_Compare1 (thn (ha pins s σ H _ I h) fun v s1 ⟨x,H1,I1,r1,q1⟩=>thn (hb pins s1 σ H1 _ I1 q1) fun u s2 ⟨y,H2,I2,r2,q2⟩=>
  thn (ho pins s2 σ H2 x y v u _ I2 r1 r2 q2) fun c s3 ⟨z,H3,I3,r3,k,e,q3⟩=>?_) hm
 subst e;cases r3;exact wpAny_truthy_bool ⟨H3,I3,q3⟩
noncomputable def DB (r r':R2) (ta tb tc:TE):TE:=fun σ H Q=>ta σ H fun x H1=>tb σ H1 fun y H2=>r x y H2 fun z H3=>∃k,z=.bl k /\
 (if k=true then tc σ H3 fun w' H4=>r' y w' H4 Q else Q (.bl false) H3)
theorem pe_chain (ho:OpR X (compareOp op) r) (ho':OpR X (compareOp op') r') (ha:PE X a ta) (hb:PE X b tb) (hc:PE X c tc)
  (hm:lastMarks [op,op'] [b,c]=false:=by with_unfolding_all rfl):PE X (.Compare a [op,op'] [b,c] pos) (DB r r' ta tb tc):=by
 intro pins s σ H Q I h;refine Compare_chain (thn (ha pins s σ H _ I h) fun v s1 ⟨x,H1,I1,r1,q1⟩=>chain_link (thn (hb pins s1 σ H1 _ I1 q1) fun u s2 ⟨y,H2,I2,r2,q2⟩=>
  thn (ho pins s2 σ H2 x y v u _ I2 r1 r2 q2) fun d s3 ⟨z,H3,I3,r3,k,e,q3⟩=>?_)) hm
 subst e;cases r3;refine wpAny_truthy_bool ?_;cases k with
 |false=>exact ite_ff ⟨.bl false,H3,I3,rfl,q3⟩
 |true=>exact ite_tt (chain_last (thn (hc pins s3 σ H3 _ I3 q3) fun w' s4 ⟨z',H4,I4,r4,q4⟩=>ho' pins s4 σ H4 y z' u w' Q I4 r2 r4 q4))
theorem pt_chain (ho:OpR X (compareOp op) r) (ho':OpR X (compareOp op') r') (ha:PE X a ta) (hb:PE X b tb) (hc:PE X c tc)
  (hm:lastMarks [op,op'] [b,c]=false:=by with_unfolding_all rfl):PT X (.Compare a [op,op'] [b,c] pos) (tTest (DB r r' ta tb tc)):=by
 intro pins s σ H Q I h;refine isTrue_chain (thn (ha pins s σ H _ I h) fun v s1 ⟨x,H1,I1,r1,q1⟩=>test_link (thn (hb pins s1 σ H1 _ I1 q1) fun u s2 ⟨y,H2,I2,r2,q2⟩=>
  thn (ho pins s2 σ H2 x y v u _ I2 r1 r2 q2) fun d s3 ⟨z,H3,I3,r3,k,e,q3⟩=>?_)) hm
 subst e;cases r3;refine wpAny_truthy_bool ?_;cases k with
 |false=>
  obtain ⟨k',e',q'⟩:=q3;cases e';exact ite_ff ⟨H3,I3,q'⟩
 |true=>
  refine ite_tt (test_last (thn (hc pins s3 σ H3 _ I3 q3) fun w' s4 ⟨z',H4,I4,r4,q4⟩=>thn (ho' pins s4 σ H4 y z' u w' _ I4 r2 r4 q4) fun d' s5 ⟨z2,H5,I5,r5,k2,e2,q5⟩=>?_));subst e2;cases r5;exact wpAny_truthy_bool ⟨H5,I5,q5⟩
noncomputable def TruV (K:Pn) (x:V) (H:Hp) (k:Bool):Prop:=
 match x with
 |.non=>k=false
 |.bl b=>k=b
 |.int i=>k=(i != 0)
 |.str y=>y.length<=sizeLine/\k=((y.length:Int) != 0)
 |.byt y=>y.size<=sizeLine/\k=((y.size:Int) != 0)
 |.ref p=>(∃xs,SqL K H p xs/\k= !xs.isEmpty)\/(∃xs,SqT K H p xs/\k= !xs.isEmpty)\/∃kvs,H p=some (.dK kvs)/\k= !kvs.isEmpty
 |_=>False
theorem CO {kvs:List (κ×V)} {vs:List (κ×Value)} (r:KV kvs vs):(!vs.isEmpty)= !kvs.isEmpty:=by
 cases r<;>rfl
theorem vS {its:List Value} (r:Vals xs its):(!its.toArray.isEmpty)= !xs.isEmpty:=by
 cases r<;>simp
theorem vN:(sizeLine:Nat)<2^63:=by rw [sizeLine_eq];decide
theorem tru_ok:TruR X (fun x H Q=>∃k,TruV X.K x H k/\Q k H):=by
 intro pins s σ H x v Q I rx h;obtain ⟨k,e,q⟩:=h;have hl:=vN;have hs:sizeLine=16777216:=sizeLine_eq;cases x with
 |non=>
  cases rx;have e':k=false:=e;subst e';exact truthy_none ⟨H,I,q⟩
 |bl b=>
  cases rx;have e':k=b:=e;subst e';exact wpAny_truthy_bool ⟨H,I,q⟩
 |int i=>
  obtain ⟨t,rfl⟩:=rx;have e':k=(i != 0):=e;subst e';exact PySem.P.truthy_int ⟨H,I,q⟩
 |str y=>
  obtain ⟨t,rfl⟩:=rx;obtain ⟨hy,e'⟩:y.length<=sizeLine/\k=((y.length:Int) != 0):=e;subst e';exact PySem.P.truthy_str (by omega) ⟨H,I.tok _,q⟩
 |byt y=>
  obtain ⟨t,rfl⟩:=rx;obtain ⟨hy,e'⟩:y.size<=sizeLine/\k=((y.size:Int) != 0):=e;subst e';exact PySem.W.truthy_bytes (by omega) ⟨H,I.tok _,q⟩
 |ref p=>
  cases rx;have e':(∃xs,SqL X.K H p xs/\k= !xs.isEmpty)\/(∃xs,SqT X.K H p xs/\k= !xs.isEmpty)\/∃kvs,H p=some (.dK kvs)/\k= !kvs.isEmpty:=e;rcases e' with ⟨xs,hx,e'⟩|⟨xs,hx,e'⟩|⟨kvs,hx,e'⟩
  ·subst e';obtain ⟨its,r,pl,hz⟩:=I.list hx;have hlen:=r.length;exact wpAny_truthy_list pl.isList (by simp only [List.size_toArray];omega) ⟨H,I.tok _,by rw [vS r];exact q⟩
  ·subst e';obtain ⟨its,r,pl,hz⟩:=I.tuple hx;have hlen:=r.length;exact truthy_tuple pl (by simp only [List.size_toArray];omega) ⟨H,I.tok _,by rw [vS r];exact q⟩
  ·subst e';obtain ⟨hz,hS,vs,r,m⟩:kvs.length<=sizeLine/\(p==sysModules)=false/\∃vs,KV kvs vs/\s.heap.DictOf (Ab X.prog X.w) p vs:=I.hok p _ hx;have hlen:kvs.length=vs.length:=Paired.length r;exact wpAny_truthy_dict hS m (by omega) ⟨H,I.tok _,by rw [CO r];exact q⟩
 |_=>exact (show False from e).elim
theorem pt_truth (ha:PE X a ta) (he:∀whole,isTrue a X.env whole=(do let v <- whole;standAt a.pos;holding [v] (truthy v))) :
  PT X a (fun σ H Q=>ta σ H fun x H'=>∃k,TruV X.K x H' k/\Q k H'):=by
 intro pins s σ H Q I h;exact isTrue_plain (thn (ha pins s σ H _ I h) fun v s1 ⟨x,H1,I1,r1,q1⟩=>tru_ok pins s1 σ H1 x v Q I1 r1 q1) (he _)
theorem Cw:OpR X (binaryOp .Add) (fun x y H Q=>∃i j,x=.str i/\y=.str j/\i.length+j.length<=sizeLine/\Q (.str (i++j)) H):=by
 intro pins s σ H x y v u Q I rx ry h;obtain ⟨i,j,rfl,rfl,hz,q⟩:=h;obtain ⟨t,rfl⟩:=rx;obtain ⟨t',rfl⟩:=ry;exact add_str (fun t' tk=>⟨.str (i++j),H,I.tok _,⟨_,rfl⟩,q⟩) hz
theorem vals1 {x:V} (r:Vals [x] us):∃u,us=[u]/\RelV x u:=by
 cases r with
 |cons r1 r2=>cases r2;exact ⟨_,rfl,r1⟩
theorem vals2 {x:V} (r:Vals [x,y] us):∃u w',us=[u,w']/\RelV x u/\RelV y w':=by
 cases r with
 |cons r1 r2=>
  cases r2 with
  |cons r3 r4=>cases r4;exact ⟨_,_,rfl,r1,r3⟩
theorem Fv (hc:X.calm=true):dS X (.builtin "max") (fun xs H Q=>∃i j,xs=[.int i,.int j]/\Q (.int (if j>i then j else i)) H):=by
 intro pins s σ H xs us Q I r h;obtain ⟨i,j,rfl,q⟩:=h;obtain ⟨u,w',rfl,⟨t,rfl⟩,⟨t',rfl⟩⟩:=vals2 r;refine max_two_ints (I.ok.hd hc) fun h' tk k=>⟨_,H,I.kept k,?_,q⟩
 by_cases hj:j>i
 ·rw [if_pos hj,if_pos hj];exact ⟨_,rfl⟩
 ·rw [if_neg hj,if_neg hj];exact ⟨_,rfl⟩
theorem Ft (hc:X.calm=true):dS X (.builtin "min") (fun xs H Q=>∃i j,xs=[.int i,.int j]/\Q (.int (if j<i then j else i)) H):=by
 intro pins s σ H xs us Q I r h;obtain ⟨i,j,rfl,q⟩:=h;obtain ⟨u,w',rfl,⟨t,rfl⟩,⟨t',rfl⟩⟩:=vals2 r;refine min_two_ints (I.ok.hd hc) fun h' tk k=>⟨_,H,I.kept k,?_,q⟩
 by_cases hj:j<i
 ·rw [if_pos hj,if_pos hj];exact ⟨_,rfl⟩
 ·rw [if_neg hj,if_neg hj];exact ⟨_,rfl⟩
theorem Fw:dS X (.type "int") (fun xs H Q=>(∃i,xs=[.int i]/\Q (.int i) H)\/∃k,xs=[.bl k]/\Q (.int (if k then 1 else 0)) H):=by
 intro pins s σ H xs us Q I r h;rcases h with ⟨i,rfl,q⟩|⟨k,rfl,q⟩
 ·obtain ⟨u,rfl,t,rfl⟩:=vals1 r;exact call_int_int ⟨.int i,H,I,⟨_,rfl⟩,q⟩
 ·obtain ⟨u,rfl,r1⟩:=vals1 r;cases r1;exact call_int_bool ⟨.int (if k then 1 else 0),H,I.tok _,⟨_,rfl⟩,q⟩
end
structure ObjM (h:Heap) (x dx C:Addr) (mA:Ld):Prop where
 obj:h.get? x=some (PySem.W.instObj C dx)
 ns:h.Ns1 dx mA
 ne:dx≠x
theorem Ey (n:h.Ns1 dx mA):∃od,h.get? dx=some od/\∀name,lookIn name od=some (mA name):=by
 obtain ⟨o,es,ep,ho,hd,hk,_,hm⟩:=n;refine ⟨o,ho,fun name=>?_⟩
 have e:=hm name;unfold nsFind findBy at e;rw [<- Array.find?_toList] at e;unfold lookIn;rw [hd];dsimp only;split
 ·rename_i y q;rw [q] at e;exact congrArg some e
 ·rename_i q;rw [q] at e;have a:es.toList.any (·.refKey)=false:=by
   rw [List.any_eq_false];intro y hy;obtain ⟨z,t,hkey⟩:=hk y (Array.mem_toList_iff.mp hy);simp [DictEntry.refKey,hkey]
  have a':¬es.toList.any (·.refKey)=true:=by rw [a];exact Bool.false_ne_true
  rw [if_neg a'];exact congrArg some e
theorem ObjM.look {x:Addr} (I:ObjM h x dx C mA):∃od,PySem.W.InstAt h x (PySem.W.instObj C dx) C (some od)/\∀name,lookIn name od=some (mA name):=
 let ⟨od,ho,hl⟩:=Ey I.ns
 ⟨od,⟨I.obj,rfl,rfl,ho⟩,hl⟩
section
variable {x f:Addr} {v:Value}
theorem get_map {expr:Bool} {Q:Mq} (X:K.In s.heap) (I:ObjM s.heap x dx C mA) (hg:PySem.W.plainGet K C name=true) (hh:PySem.W.hasDictIn K C=true)
  (ha:PySem.W.findIn K (.ref C) name=some none) (hv:mA name=some v) (hv':PySem.W.handedIn v=true) (h:Q v {s with toks:=s.toks+1}) :
  wpAny (model prog w) A (getAttr (.ref x) name expr) Q E s:=by
 obtain ⟨od,J,hl⟩:=I.look;exact PySem.W.get_value X J (PySem.W.plainGet_of hg).1 (PySem.W.findObj_own hh ha rfl (by rw [hl,hv])) hv' h
theorem get_meth {Q:Value×List Value->Shared->Prop} (X:K.In s.heap) (I:ObjM s.heap x dx C mA) (hg:PySem.W.plainGet K C name=true)
  (hf:PySem.W.findIn K (.ref C) name=some (some (.ref f))) (ht:PySem.W.isFn K (.ref f)=true) (hv:mA name=none) (h:Q (.ref f,[.ref x]) s) :
  wpAny (model prog w) A (getMethod (.ref x) name pl) Q E s:=by
 obtain ⟨od,J,hl⟩:=I.look;exact PySem.W.method_fn X J (PySem.W.plainGet_of hg).1 (PySem.W.plainGet_of hg).2 hf (beq_iff_eq.mp ht) (by show (lookIn name od).map (·.isSome)=some false;rw [hl,hv];rfl) h
theorem set_map {ns:List Str} (X:K.In s.heap) (I:ObjM s.heap x dx C mA)
  (hs:PySem.W.findIn K (.ref C) "__setattr__"=some (some (.builtin "object.__setattr__"))) (hp:plainOver K C=true) (ht:takerIn K C name=some none) (hh:PySem.W.hasDictIn K C=true)
  (hw:PySem.Within mA ns) (hsz:ns.length<=sizeLine)
  (h:∀h',ObjM h' x dx C (fun y=>if y=name then some v else mA y)->Heap.SameBut dx s.heap h'->Q () {s with heap:=h',toks:=s.toks+2}) :
  wpAny (model prog w) A (setAttr (.ref x) name v) Q E s:=by
 obtain ⟨od,J,hl⟩:=I.look;refine PySem.W.set_plain X J hs (PySem.W.osa_open (s:={s with toks:=s.toks+1}) (r:=none) X J hp ht fun b=>?_);obtain ⟨cd,hc,hd'⟩:=PySem.W.any_some hh;have hx:s.heap.get? x=some ⟨.ref C,some dx,.plain,#[]⟩:=I.obj;refine wpAny_bind (wpAny_pure (wpAny_bind (wpAny_bind (wpAny_loadPart hx (wpAny_bind (PySem.W.Looks.here (s:={s with toks:=s.toks+1}) (PySem.W.looks_clsIn X hc) ?_))))));rw [hd'];refine wpAny_pure (a:=some dx) (wpAny_bind (wpAny_pure (wpAny_bind ?_)));refine wpAny_nsSet1 (s:={s with toks:=s.toks+1}) I.ns fun h' hn2 hs2=>?_;obtain ⟨oD,esD,epD,hoD,hdD,hcD⟩:=hn2.count (PySem.Within.cons name v hw);refine wpAny_bind (wpAny_lookBehind hoD (by rw [hdD];exact pastItsLine_dict (Nat.le_trans hcD (by rw [List.length_cons];omega))) ?_);exact wpAny_pure (h _ ⟨(hs2.2 _ (Ne.symm I.ne)).trans I.obj,hn2,I.ne⟩ hs2)
theorem make_map {R:Result->Shared->Prop} {vs:List Value} (X:K.In s.heap) (hm:PySem.W.makesIn K C=true)
  (hi:PySem.W.findIn K (.ref C) "__init__"=some (some (.ref f))) (hf:PySem.W.typeIn K (.ref f)=some (.type "function"))
  (h:codeAny (model prog w) (A.under (.builtin "type.__call__" ⟨.ref C::vs,kw⟩)) (.call (.ref f) ⟨.ref (s.heap.objs.size+1)::vs,kw⟩) (PySem.W.InitBack (s.heap.objs.size+1) R)
   {s with heap:=(s.heap.push PySem.W.emptyDict).push (PySem.W.instObj C s.heap.objs.size)}) :
  codeAny (model prog w) A (.call (.ref C) ⟨vs,kw⟩) R s:=by
 obtain ⟨hh,g,d,t,os⟩:=s;exact PySem.W.make_core (PySem.W.makes_of X hm) (PySem.W.looks_findIn X hi) (fun self=>PySem.W.bind_fn X self hf) (.inl rfl) h
end
noncomputable def vb (f:Str) (v:V):List (Str×V)->List (Str×V)
 |[]=>[(f,v)]
 |(g,x)::r=>if g=f then (g,v)::r else (g,x)::vb f v r
theorem qE (f g:Str) (v:V):∀fs:List (Str×V),(vb f v fs).lookup g=if g=f then some v else fs.lookup g
 |[]=>by
  show List.lookup g [(f,v)]=_;by_cases h:g=f
  ·have hb:(g==f)=true:=beq_iff_eq.mpr h;simp only [List.lookup,hb,if_pos h]
  ·have hb:(g==f)=false:=beq_eq_false_iff_ne.mpr h;simp only [List.lookup,hb,if_neg h]
 |(k,x)::r=>by
  have ih:=qE f g v r;rw [show vb f v ((k,x)::r)=(if k=f then (k,v)::r else (k,x)::vb f v r) from rfl];by_cases hk:k=f
  ·rw [if_pos hk];by_cases h:g=k
   ·have hb:(g==k)=true:=beq_iff_eq.mpr h;simp only [List.lookup,hb,if_pos (h.trans hk)]
   ·have hb:(g==k)=false:=beq_eq_false_iff_ne.mpr h;simp only [List.lookup,hb,if_neg (fun e:g=f=>h (e.trans hk.symm))]
  ·rw [if_neg hk];by_cases h:g=k
   ·have hb:(g==k)=true:=beq_iff_eq.mpr h;simp only [List.lookup,hb,if_neg (fun e:g=f=>hk (h.symm.trans e))]
   ·have hb:(g==k)=false:=beq_eq_false_iff_ne.mpr h;simp only [List.lookup,hb];exact ih
theorem oS (f:Str) (v:V):∀fs:List (Str×V),f∈(vb f v fs).map (·.1)/\∀g,g∈fs.map (·.1)->g∈(vb f v fs).map (·.1)
 |[]=>⟨by simp [vb],fun g h=>by simp at h⟩
 |(k,x)::r=>by
  obtain ⟨i1,i2⟩:=oS f v r;rw [show vb f v ((k,x)::r)=(if k=f then (k,v)::r else (k,x)::vb f v r) from rfl];by_cases hk:k=f
  ·rw [if_pos hk];subst hk;exact ⟨by simp,fun g h=>by simpa using h⟩
  ·rw [if_neg hk];refine ⟨?_,fun g h=>?_⟩
   ·rw [List.map_cons];exact List.mem_cons_of_mem _ i1
   ·rw [List.map_cons] at h ⊢;rcases List.mem_cons.mp h with e|e
    ·exact List.mem_cons.mpr (.inl e)
    ·exact List.mem_cons_of_mem _ (i2 g e)
theorem uk (f:Str) (v:V):∀fs:List (Str×V),(vb f v fs).length<=fs.length+1
 |[]=>by simp [vb]
 |(k,x)::r=>by
  have ih:=uk f v r;rw [show vb f v ((k,x)::r)=(if k=f then (k,v)::r else (k,x)::vb f v r) from rfl];by_cases hk:k=f
  ·rw [if_pos hk,List.length_cons,List.length_cons];omega
  ·rw [if_neg hk,List.length_cons,List.length_cons];omega
theorem zt.some_of {o:Option Value} (r:zt (some v) o):∃u,o=some u/\RelV v u:=by
 cases o with
 |none=>exact (show False from r).elim
 |some u=>exact ⟨u,rfl,r⟩
theorem zt.none_of {o:Option Value} (r:zt none o):o=none:=by
 cases o with
 |none=>rfl
 |some u=>exact (show False from r).elim
theorem EM (r:RelV v u):PySem.W.handedIn u=true:=by
 cases v with
 |non=>cases (show u=Value.none from r);rfl
 |bl b=>cases (show u=Value.bool b from r);rfl
 |int i=>obtain ⟨t,e⟩:=(show ∃t,u=Value.int i t from r);cases e;rfl
 |str x=>obtain ⟨t,e⟩:=(show ∃t,u=Value.str x t from r);cases e;rfl
 |byt b=>obtain ⟨t,e⟩:=(show ∃t,u=Value.bytes b t from r);cases e;rfl
 |flt b=>obtain ⟨t,e⟩:=(show ∃t,u=Value.float b t from r);cases e;rfl
 |ref a=>cases (show u=Value.ref a from r);rfl
 |ty n=>cases (show u=Value.type n from r);rfl
section
variable {fs:List (Str×V)}
theorem xm (hok:HOk P w H h) (e:H a=some (.ins C dx fs)):∃mA,ObjM h a dx C mA/\(∀f,zt (fs.lookup f) (mA f))/\PySem.Within mA (fs.map (·.1))/\fs.length<=1000/\H dx=some (.own a):=by
 obtain ⟨d,z,ne,ob,mA,n,r,q⟩:=(show fX P w H h a (.ins C dx fs) from hok a _ e)
 exact ⟨mA,⟨ob,n,ne⟩,r,q,z,d⟩
end
structure Cls (K:Pn) (C:Addr):Prop where
 pg:PySem.W.plainGet K C Str.empty=true
 hd:PySem.W.hasDictIn K C=true
 po:plainOver K C=true
 sa:PySem.W.findIn K (.ref C) "__setattr__"=some (some (.builtin "object.__setattr__"))
theorem Cls.get (c:Cls K C) (f:Str):PySem.W.plainGet K C f=true:=c.pg
noncomputable def oq (K:Pn) (C:Addr) (f:Str):Prop:=PySem.W.findIn K (.ref C) f=some none
theorem oq.taker {f:Str} (n:oq K C f):takerIn K C f=some none:=by
 unfold takerIn;rw [show PySem.W.findIn K (.ref C) f=some none from n];rfl
structure Con (K:Pn) (C:Addr) (f:Str) (v:V) (u:Value):Prop where
 at_:PySem.W.findIn K (.ref C) f=some (some u)
 rel:RelV v u
 get:specialIn K u "__get__"=some none
 cp:PySem.W.copiedNames.contains f=false
structure Meth (K:Pn) (C:Addr) (m:Str) (f:Addr):Prop where
 at_:PySem.W.findIn K (.ref C) m=some (some (.ref f))
 fn:PySem.W.isFn K (.ref f)=true
 kp:keepIn K (.ref f)=true
section
variable {fs:List (Str×V)} {f:Str} 
theorem CQ {b:Bool} {Q:Mq} (I:Inv X pins σ H s) (e:H a=some (.ins C dx fs)) (c:Cls X.K C) (n:oq X.K C f) (l:fs.lookup f=some v)
  (h:∀u s',Inv X pins σ H s'->RelV v u->Q u s'):wpAny (model X.prog X.w) A (getAttr (.ref a) f b) Q E s:=by
 obtain ⟨mA,O,r,_,_,_⟩:=xm I.hok e;obtain ⟨u,hu,ru⟩:=zt.some_of (v:=v) (o:=mA f) (by rw [<- l];exact r f);exact get_map I.kIn O (c.get f) c.hd n hu (EM ru) (h u _ (I.tok _) ru)
theorem vV {g:Addr} {Q:Value×List Value->Shared->Prop} (I:Inv X pins σ H s) (e:H a=some (.ins C dx fs)) (c:Cls X.K C) (k:Meth X.K C m g) (l:fs.lookup m=none)
  (h:Q (.ref g,[.ref a]) s):wpAny (model X.prog X.w) A (getMethod (.ref a) m pl) Q E s:=by
 obtain ⟨mA,O,r,_,_,_⟩:=xm I.hok e;have hn:mA m=none:=zt.none_of (by rw [<- l];exact r m);exact get_meth I.kIn O (c.get m) k.at_ k.fn hn h
theorem Cn (I:Inv X pins σ H s) (e:H a=some (.ins C dx fs)) (c:Cls X.K C) (n:oq X.K C f) (hl:fs.length<1000) (ry:RelV y u)
  (h:∀s',Inv X pins σ (upd H a (.ins C dx (vb f y fs))) s'->Q () s'):wpAny (model X.prog X.w) A (setAttr (.ref a) f u) Q E s:=by
 obtain ⟨mA,O,r,wi,_,ho⟩:=xm I.hok e;have hz:(fs.map (·.1)).length<=sizeLine:=by rw [List.length_map,sizeLine_eq];omega
 refine set_map I.kIn O c.sa c.po n.taker c.hd wi hz fun h' O' sb=>h _ ?_;have hd:∃o,h'.get? dx=some o:=let ⟨o,_,_,e',_⟩:=O'.ns;⟨o,e'⟩;refine I.write (x:=a) (e:=dx) (by rw [e];exact True.intro) (.inr ho) (fun b q hb z=>(sb.2 b hb).trans z) hd ?_;refine ⟨by rw [aw O.ne];exact ho,?_,O.ne,O'.obj,_,O'.ns,fun g=>?_,fun g hg=>?_⟩
 ·have:=uk f y fs;omega
 ·show zt ((vb f y fs).lookup g) (if g=f then some u else mA g);rw [qE];by_cases q:g=f
  ·rw [if_pos q,if_pos q];exact ry
  ·rw [if_neg q,if_neg q];exact r g
 ·by_cases q:g=f
  ·rw [q];exact (oS f y fs).1
  ·refine (oS f y fs).2 g (wi g fun z=>hg ?_);show (if g=f then some u else mA g)=none;rw [if_neg q];exact z
theorem Inv.made (I:Inv X pins σ H s):Inv X pins σ (upd (upd H s.heap.objs.size (.own (s.heap.objs.size+1))) (s.heap.objs.size+1) (.ins C s.heap.objs.size []))
  {s with heap:=(s.heap.push PySem.W.emptyDict).push (PySem.W.instObj C s.heap.objs.size)}:=by
 have e1:(s.heap.push PySem.W.emptyDict).get? s.heap.objs.size=some PySem.W.emptyDict:=Heap.get?_push_size s.heap rfl;have e2:((s.heap.push PySem.W.emptyDict).push (PySem.W.instObj C s.heap.objs.size)).get? (s.heap.objs.size+1)=some (PySem.W.instObj C s.heap.objs.size):=by
  have:=Heap.get?_push_size (s.heap.push PySem.W.emptyDict) (o:=PySem.W.instObj C s.heap.objs.size) rfl
  rwa [Heap.size_push] at this
 have e3:(s.heap.push PySem.W.emptyDict).Ns s.heap.objs.size (fun _=>none):=⟨PySem.W.emptyDict,#[],_,e1,rfl,(fun e he=>absurd he (by simp)),fun _=>rfl⟩
 have I1:=I.laid (a:=s.heap.objs.size) (o:=.own (s.heap.objs.size+1)) (h':=s.heap.push PySem.W.emptyDict) (t':=s.toks) (fun b u q=>Heap.get?_push_of_some _ q) (Nat.le_refl _) ⟨_,e1⟩;refine I1.laid (a:=s.heap.objs.size+1) (o:=.ins C s.heap.objs.size []) (t':=s.toks) (fun b u q=>Heap.get?_push_of_some _ q) (Nat.le_of_eq (Heap.size_push _ _)) ?_;have ne:s.heap.objs.size≠s.heap.objs.size+1:=Nat.ne_of_lt (Nat.lt_succ_self _);refine ⟨by rw [aw ne,ar],Nat.zero_le _,ne,e2,fun _=>none,(Heap.Ns1.of_empty e3).at fun o q=>Heap.get?_push_of_some _ q,fun _=>True.intro,fun y hy=>absurd rfl hy⟩
theorem attr_of {env:Env} {f:Str} {Q:Mq} (hb:attributeBase e f env (eval e env)=eval e env)
  (h:wpAny (model prog w) A (eval e env) (fun o s₁=>wpAny (model prog w) A (getAttr o f true) Q E s₁) E s):wpAny (model prog w) A (eval (.Attribute e f pos) env) Q E s:=
 Attribute_any_ h (by rw [arm_eval_Attribute,hb])
end
noncomputable def tFld (K:Pn) (ta:TE) (f:Str):TE:=fun σ H Q=>ta σ H fun x H1=>∃a C dx fs v,x=.ref a/\H1 a=some (.ins C dx fs)/\Cls K C/\oq K C f/\fs.lookup f=some v/\Q v H1
noncomputable def sFld (K:Pn) (ta tv:TE) (f:Str):TS:=fun D σ H=>tv σ H fun y H1=>ta σ H1 fun x H2=>∃a C dx fs,x=.ref a/\H2 a=some (.ins C dx fs)/\Cls K C/\oq K C f/\fs.length<1000 /\
 D.nx σ (upd H2 a (.ins C dx (vb f y fs)))
section
variable {o value:Expr} {f:Str} {tv:TE}
theorem Ed (he:PE X e ta) (hb:attributeBase e f X.env (eval e X.env)=eval e X.env):PE X (.Attribute e f pos) (tFld X.K ta f):=by
 intro pins s σ H Q I h;refine attr_of hb (thn (he pins s σ H _ I h) fun u s1 ⟨x,H1,I1,rx,a,C,dx,fs,v,ex,ea,c,n,l,q⟩=>?_);subst ex;obtain rfl:u=Value.ref a:=rx;exact CQ I1 ea c n l fun u' s2 I2 ru=>⟨v,H1,I2,ru,q⟩
theorem ps_fld (ha:PE X o ta) (hv:PE X value tv) (hs:swapsWith value (some (.Attribute o f pos')) pos.line X.env=pure false):PS X (.Assign [.Attribute o f pos'] value pos) (sFld X.K ta tv f):=by
 intro pins s σ H D I h;refine plainObj_wpAny_Assign_Attribute (thn (hv pins s σ H _ I h) fun u s1 ⟨y,H1,I1,ry,q⟩=>thn (ha pins s1 σ H1 _ I1 q) fun ov s2 ⟨x,H2,I2,rx,a,C,dx,fs,ex,ea,c,n,l,q2⟩=>?_) hs;subst ex;obtain rfl:ov=Value.ref a:=rx;exact Cn I2 ea c n l ry fun s3 I3=>⟨σ,_,I3,q2⟩
theorem methcall_of {args:List Expr} {Q:Mq} (he:PE X e te) (I:Inv X pins σ H s)
  (h:te σ H fun x H1=>∃a C dx fs g,x=.ref a/\H1 a=some (.ins C dx fs)/\Cls X.K C/\Meth X.K C m g/\fs.lookup m=none /\
   ∀s1,Inv X pins σ H1 s1->wpAny (model X.prog X.w) X.A (callWith pos (.ref g) [.ref a] (backTo pos (starEach args X.env)) (backToKw pos (keywordEach [] X.env))) Q X.xe s1)
  (ht:eval (.Call (.Attribute e m apos) args [] pos) X.env=(do
   let ov <- eval e X.env
   standAt apos.atName
   let (f,first) <- holding [ov] (getMethod ov m pl)
   callWith pos f first (backTo pos (starEach args X.env)) (backToKw pos (keywordEach [] X.env)))) :
  wpAny (model X.prog X.w) X.A (eval (.Call (.Attribute e m apos) args [] pos) X.env) Q X.xe s:=by
 refine PySem.W.methodCall_KW (pl:=pl) (thn (he pins s σ H _ I h) fun u s1 ⟨x,H1,I1,rx,a,C,dx,fs,g,ex,ea,c,k,l,q⟩=>?_) ht;subst ex;obtain rfl:u=Value.ref a:=rx;exact vV I1 ea c k l (q s1 I1)
end
section
variable {Q:Mq} {c:Value} {b:Bool}
inductive AU (K:Pn) (H:Hp):V->Value->Prop where
 |non:AU K H .non (.type "NoneType")
 |bl (x:Bool):AU K H (.bl x) (.type "bool")
 |int (i:Int):AU K H (.int i) (.type "int")
 |str (x:Str):AU K H (.str x) (.type "str")
 |flt (x:UInt64):AU K H (.flt x) (.type "float")
 |lst {a:Addr} {xs:List V} (e:H a=some (.lst xs)):AU K H (.ref a) (.type "list")
 |frz {a:Addr} {o:Obj} {xs:List V} (e:H a=some (.frz o (.lst xs))):AU K H (.ref a) (.type "list")
 |tup {a:Addr} {xs:List V} (e:H a=some (.tup xs)):AU K H (.ref a) (.type "tuple")
 |dK {a:Addr} {kvs:List (Key×V)} (e:H a=some (.dK kvs)):AU K H (.ref a) (.type "dict")
 |dT {a:Addr} {kvs:List (List Key×V)} (e:H a=some (.dT kvs)):AU K H (.ref a) (.type "dict")
 |ins {a C dx:Addr} {fs:List (Str×V)} (e:H a=some (.ins C dx fs)) (cl:Cls K C) (ha:PySem.W.findIn K (.ref C) "__class__"=some (some (.builtin "object.__class__")))
   (hn:specialIn K (.builtin "object.__class__") "__get__"=some (some (.builtin "getset_descriptor.__get__"))) (htk:takesIn K (.builtin "object.__class__")=some true)
   (hm:PySem.W.mroIn K C (.type "object")=some true):AU K H (.ref a) (.ref C)
theorem yS {x:V} {t:Value} (I:Inv X pins σ H s) (rx:RelV x u) (ty:AU X.K H x t) (e:kitOne X.K t c=some b) (h:∀tk,Q (.bool b) {s with toks:=tk}) :
  wpAny (model X.prog X.w) A (call (.builtin "isinstance") [u,c]) Q E s:=by
 cases ty with
 |non=>cases (show u=Value.none from rx);exact kia_one PySem.W.kitx_none I.kIn True.intro e (fun z=>nomatch z) h
 |bl y=>cases (show u=Value.bool y from rx);exact kia_one PySem.W.kitx_bool I.kIn True.intro e (fun z=>nomatch z) h
 |int i=>obtain ⟨t,q⟩:=(show ∃t,u=Value.int i t from rx);cases q;exact kia_one PySem.W.kitx_int I.kIn True.intro e (fun z=>nomatch z) h
 |str y=>obtain ⟨t,q⟩:=(show ∃t,u=Value.str y t from rx);cases q;exact kia_one PySem.W.kitx_str I.kIn True.intro e (fun z=>nomatch z) h
 |flt y=>obtain ⟨t,q⟩:=(show ∃t,u=Value.float y t from rx);cases q;exact kia_one PySem.W.kitx_float I.kIn True.intro e (fun z=>nomatch z) h
 |@lst a xs ea=>
  cases (show u=Value.ref a from rx);obtain ⟨_,_,n,_,h1⟩:=(show fX X.prog X.w H s.heap a (.lst xs) from I.hok a _ ea)
  exact kia_one PySem.W.kitx_list I.kIn ⟨_,h1,rfl⟩ e (fun z=>nomatch z) h
 |@frz a ob xs ea=>
  cases (show u=Value.ref a from rx);obtain ⟨_,_,_,n,_,h1⟩:=(show fX X.prog X.w H s.heap a (.frz ob (.lst xs)) from I.hok a _ ea)
  exact kia_one PySem.W.kitx_list I.kIn ⟨_,h1,rfl⟩ e (fun z=>nomatch z) h
 |@tup a xs ea=>
  cases (show u=Value.ref a from rx);obtain ⟨_,_,_,p⟩:=(show fX X.prog X.w H s.heap a (.tup xs) from I.hok a _ ea)
  obtain ⟨o,h1,h2,_⟩:=p;exact kia_one PySem.W.kitx_tuple I.kIn ⟨o,h1,h2⟩ e (fun z=>nomatch z) h
 |@dK a kvs ea=>
  cases (show u=Value.ref a from rx);obtain ⟨_,_,vs,_,p⟩:=(show fX X.prog X.w H s.heap a (.dK kvs) from I.hok a _ ea)
  obtain ⟨o,es,ep,h1,h2,_⟩:=p;exact kia_one PySem.W.kitx_dict I.kIn ⟨o,h1,h2.1⟩ e (fun z=>nomatch z) h
 |@dT a kvs ea=>
  cases (show u=Value.ref a from rx);obtain ⟨_,_,xs,_,o,es,ep,h1,h2,_⟩:=(show fX X.prog X.w H s.heap a (.dT kvs) from I.hok a _ ea)
  exact kia_one PySem.W.kitx_dict I.kIn ⟨o,h1,h2.1⟩ e (fun z=>nomatch z) h
 |@ins a C dx fs ea cl ha hn htk hm=>
  cases (show u=Value.ref a from rx);obtain ⟨mA,O,_⟩:=xm I.hok ea;obtain ⟨od,J,_⟩:=O.look;exact kia_one (PySem.W.kitx_own (cl.get _) cl.hd ha hn htk hm) I.kIn J e (fun z=>nomatch z) h
end
structure mz (k:Nat) (A:Around):Prop where
 hd:A.handled=none
 dp:A.depth+3*k+5<recursionLimit
 un:A.units+16*k+200<cLine
theorem mz.mono (r:mz k A) (h:j<=k):mz j A:=⟨r.hd,by have:=r.dp;omega,by have:=r.un;omega⟩
theorem mz.deeper {k:Nat} {A:Around} (r:mz (k+1) A) (env:Env):mz k (A.deeper env):=
 ⟨r.hd,by have:=r.dp;show A.depth+1+3*k+5<_;omega,by have:=r.un;show A.units+3+16*k+200<_;omega⟩
theorem CI:(A.under (.builtin "type.__call__" ⟨.ref C::us,kw⟩)).depth=A.depth+1:=by
 first|rfl|simp [Around.under,Code.weight,Code.isCreation,Code.isGuard,Code.isCaller,Code.frames,Code.isFrame,guardIds]
theorem CH:(A.under (.builtin "type.__call__" ⟨.ref C::us,kw⟩)).units=A.units+1:=by
 first|rfl|simp [Around.under,Code.cUnits,Code.frames,Code.isFrame]
theorem mz.make (r:mz (k+1) A) (C:Addr) (us:List Value) (kw:List (Str×Value)):mz k (A.under (.builtin "type.__call__" ⟨.ref C::us,kw⟩)):=
 ⟨r.hd,by have:=r.dp;rw [CI];omega,by have:=r.un;rw [CH];omega⟩
theorem mz.depth {k:Nat} {A:Around} (r:mz k A):A.depth<recursionLimit:=by have:=r.dp;omega
theorem mz.units {k:Nat} {A:Around} (r:mz k A):A.units+64<cLine:=by have:=r.un;omega
noncomputable def tNil:TA:=fun _ H Q=>Q [] H
noncomputable def wC (ta:TE) (tr:TA):TA:=fun σ H Q=>ta σ H fun x H1=>tr σ H1 fun xs H2=>Q (x::xs) H2
section
theorem fg:PA X [] tNil:=fun _ _ _ _ H Q I h=>Calls.spliced_nil ⟨[],H,I,.nil,h⟩
theorem bj (ha:PE X e te) (hr:PA X es t) (hs:starEach (e::es) X.env=(false,eval e X.env)::starEach es X.env:=by rfl):PA X (e::es) (wC te t):=by
 intro pos pins s σ H Q I h;rw [hs];show wpAny _ _ (spliced ((false,eval e X.env)::backTo pos (starEach es X.env))) _ _ s;refine Calls.spliced_cons (thn (ha pins s σ H _ I h) fun u s1 ⟨x,H1,I1,r1,q1⟩=>?_);exact thn (hr pos pins s1 σ H1 _ I1 q1) fun us s2 ⟨xs,H2,I2,r2,q2⟩=>⟨x::xs,H2,I2,.cons r1 r2,q2⟩
noncomputable def tTup (t:TA):TE:=fun σ H Q=>t σ H fun xs H1=>xs.length<=sizeLine/\∀p,H1 p=none->Q (.ref p) (upd H1 p (.tup xs))
noncomputable def tLst (t:TA):TE:=fun σ H Q=>t σ H fun xs H1=>xs.length<=sizeLine/\∀p,H1 p=none->Q (.ref p) (upd H1 p (.lst xs))
theorem Ea {x1} (h:PA X es t):PE X (.Tuple es x1 pos) (tTup t):=by
 intro pins s σ H Q I hq;refine wpAny_Tuple_spliced (thn (h pos pins s σ H _ I hq) fun us s1 ⟨xs,H1,I1,r,z,q⟩=>⟨by rw [<- r.length];exact z,?_⟩);have hf:H1 s1.heap.objs.size=none:=I1.hok.fresh (Nat.le_refl _);refine ⟨.ref s1.heap.objs.size,upd H1 s1.heap.objs.size (.tup xs),I1.laid (t':=s1.toks) (fun b u e=>Heap.get?_push_of_some _ e) (Nat.le_refl _) ?_,rfl,q _ hf⟩
 exact ⟨z,us,r,⟨_,Heap.get?_push_size _ rfl,rfl,_,rfl⟩⟩
theorem pe_lst (h:PA X es t):PE X (.List es pos) (tLst t):=by
 intro pins s σ H Q I hq;refine wpAny_List_spliced (thn (h pos pins s σ H _ I hq) fun us s1 ⟨xs,H1,I1,r,z,q⟩=>⟨by rw [<- r.length];exact z,?_⟩);have hf:H1 s1.heap.objs.size=none:=I1.hok.fresh (Nat.le_refl _);refine ⟨.ref s1.heap.objs.size,upd H1 s1.heap.objs.size (.lst xs),I1.laid (t':=s1.toks) (fun b u e=>Heap.get?_push_of_some _ e) (Nat.le_refl _) ?_,rfl,q _ hf⟩
 exact ⟨z,us,0,r,Heap.get?_push_size _ rfl⟩
end
noncomputable abbrev Sp:=List V->Hp->VK->XK->Prop
variable {sp:Sp}
noncomputable abbrev CXT:=List Env->Hp->Shared->XK->Mq
variable {CX:CXT}
structure Env0 (P:Program) (w:World) (K:Pn) (mg:Ld) (base:Heap) (A:Around) (outer:List Env) (s:Shared) (H:Hp):Prop where
 frames:A.frames=some outer
 mod:Mod K mg base
 bs:∀b o,base.get? b=some o->s.heap.get? b=some o/\H b=none
 bsz:base.objs.size<=s.heap.objs.size
 yV:s.heap.FunFrames base outer
 frf:∀b∈frs outer,H b=none
 hok:HOk P w H s.heap
 bare:AllBare s.gens
noncomputable def CE (outer:List Env) (P:Program) (w:World) (H:Hp) (s:Shared) (Q:VK) (u:Value) (s':Shared):Prop:=
 ∃v H',s'.os=s.os/\AllBare s'.gens/\Un (frs outer) [] H H' s.heap s'.heap/\HOk P w H' s'.heap/\RelV v u/\Q v H'
noncomputable def CR (CX:CXT) (outer:List Env) (P:Program) (w:World) (H:Hp) (s:Shared) (Q:VK) (E:XK) (r:Result) (s':Shared):Prop:=
 match r with
 |.ok (.ret u)=>CE outer P w H s Q u s'
 |.ok _=>False
 |.error e=>CX outer H s E e s'
structure cm (P:Program) (w:World) (K:Pn) (mg:Ld) (base:Heap) (CX:CXT) (k:Nat) (f:Addr) (fd:FuncData) (ps:List Str) (sp:Sp):Prop where
 len:∀vs H Q E,sp vs H Q E->vs.length=ps.length
 run:∀(A:Around) (outer:List Env) (s:Shared) (H:Hp) (args:Args) (us:List Value) (vs:List V) (Q:VK) (E:XK),mz k A->Env0 P w K mg base A outer s H->BindsTo s fd args (ps.zip us)->Vals vs us->sp vs H Q E ->
  codeAny (model P w) A (.call (.ref f) args) (CR CX outer P w H s Q E) s
theorem Env0.make {base:Heap} (e:Env0 P w K mg base A outer s H) (C:Addr) (us:List Value) (kw:List (Str×Value)) :
  Env0 P w K mg base (A.under (.builtin "type.__call__" ⟨.ref C::us,kw⟩)) outer s H:=⟨by first|exact e.frames|(simpa [Around.under,Code.envs,Code.isFrame,pushEnvs] using e.frames),e.mod,e.bs,e.bsz,e.yV,e.frf,e.hok,e.bare⟩
section
theorem Inv.env0 (I:Inv X pins σ H s):Env0 X.prog X.w X.K X.mg X.base X.A X.stack s H:=
 ⟨I.ok.frames,I.ok.mod,I.bs,Nat.le_trans I.ok.bsz I.sz,I.stack,I.DC,I.hok,I.bare⟩
theorem Inv.after {Q:VK} (I:Inv X pins σ H s) (h:CE X.stack X.prog X.w H s Q u s'):EP X pins σ Q u s':=by
 obtain ⟨v,H',os,bare,un,hok,r,q⟩:=h;obtain ⟨hh,g,d,t,os'⟩:=s';obtain rfl:os'=s.os:=os;exact ⟨v,H',I.call (h':=hh) (g':=g) (d':=d) (t':=t) (ch:=[]) un hok bare (fun b z=>absurd z (by simp)),r,q⟩
end
noncomputable def tCall (sp:Sp) (dvs:List V) (E:XK) (t:TA):TE:=fun σ H Q=>t σ H fun vs H1=>sp (vs++dvs) H1 Q E
noncomputable def tMeth (C:Addr) (m:Str) (sp:Sp) (dvs:List V) (E:XK) (ta:TE) (t:TA):TE:=fun σ H Q=>ta σ H fun x H1=>∃a dx fs,x=.ref a/\H1 a=some (.ins C dx fs)/\fs.lookup m=none /\
 t σ H1 fun vs H2=>sp (x::(vs++dvs)) H2 Q E
noncomputable def tMake (C:Addr) (sp:Sp) (dvs:List V) (E:XK) (t:TA):TE:=fun σ H Q=>t σ H fun vs H1=>∀x dx,H1 x=none->H1 dx=none->dx≠x ->
 sp (.ref x::(vs++dvs)) (upd (upd H1 dx (.own x)) x (.ins C dx [])) (fun v H2=>v=.non/\Q (.ref x) H2) E
noncomputable def Binds (K:Pn) (fd:FuncData) (ps:List Str) (ds:List Value):Prop:=
 ∀(s:Shared) (us:List Value),K.In s.heap->(us++ds).length=ps.length->BindsTo s fd ⟨us,[]⟩ (ps.zip (us++ds))
theorem Binds.all (h:∀us:List Value,us.length=ps.length->bindArgs fd ⟨us,[]⟩=pure (ps.zip us)):Binds K fd ps []:=fun s us _ hl=>by
 rw [List.append_nil] at hl ⊢;exact .of_eq (h us hl)
noncomputable def Passes (CX:CXT) (X:Cx) (E:XK):Prop:=∀(pins:Vp) (σ:St) (H:Hp) (s:Shared) (e:Value) (s':Shared),Inv X pins σ H s->CX X.stack H s E e s'->X.xe e s'
section
variable {f:Addr} {dvs:List V} {ds:List Value} {E:XK} {o:Expr} 
theorem DK {Q:VK} (F:cm X.prog X.w X.K X.mg X.base CX k f fd ps sp) (hr:mz k X.A) (hb:Binds X.K fd ps ds) (hd:Vals dvs ds) (hx:Passes CX X E)
  (I:Inv X pins σ H s) (r:Vals vs us) (h:sp (vs++dvs) H Q E):wpAny (model X.prog X.w) X.A (call (.ref f) us) (EP X pins σ Q) X.xe s:=by
 have r2:Vals (vs++dvs) (us++ds):=r.append hd;have hl:(us++ds).length=ps.length:=by rw [<- r2.length];exact F.len _ _ _ _ h
 refine wpAny_call (codeAny_mono (F.run X.A X.stack s H ⟨us,[]⟩ (us++ds) (vs++dvs) Q E hr I.env0 (hb s us I.kIn hl) r2 h) fun r s' hq=>?_);cases r with
 |error e=>exact hx pins σ H s e s' I hq
 |ok fl=>
  cases fl with
  |ret u=>exact I.after hq
  |next=>exact False.elim hq
  |brk=>exact False.elim hq
  |cont=>exact False.elim hq
theorem u5 (F:cm X.prog X.w X.K X.mg X.base CX k f fd ps sp) (hr:mz k X.A) (hg:Gl X x) (hm:X.mg x=some (.ref f)) (hk:keepIn X.K (.ref f)=true) (hb:Binds X.K fd ps ds) (hd:Vals dvs ds) (hx:Passes CX X E)
  (ha:PA X (e::es) t) (hdb:(x==("__debug__":Str))=false:=by decide) (he:starEach (e::es) X.env=(false,eval e X.env)::starEach es X.env:=by rfl) (hpl:(backTo pos (starEach es X.env)).any (·.1)=false:=by rfl) :
  PE X (.Call (.Name x p) (e::es) [] pos) (tCall sp dvs E t):=by
 intro pins s σ H Q I h;refine wpAny_Call_Name_kw (mT I hg hm ?_ hdb);refine callWith_K (h₀:=X.base) I.ok.mod.kin hk (thn (ha pos pins s σ H _ I h) fun us s1 ⟨vs,H1,I1,r,q⟩=>⟨I1.kIn,?_⟩) he hpl;exact DK F hr hb hd hx I1 r q
theorem pe_meth (he:PE X o ta) (c:Cls X.K C) (hm:Meth X.K C m f) (F:cm X.prog X.w X.K X.mg X.base CX k f fd ps sp) (hr:mz k X.A) (hb:Binds X.K fd ps ds) (hd:Vals dvs ds) (hx:Passes CX X E) (ha:PA X (e::es) t)
  (hst:starEach (e::es) X.env=(false,eval e X.env)::starEach es X.env:=by rfl) (hpl:(backTo pos (starEach es X.env)).any (·.1)=false:=by rfl)
  (ht:eval (.Call (.Attribute o m apos) (e::es) [] pos) X.env=(do
   let ov <- eval o X.env
   standAt apos.atName
   let (f,first) <- holding [ov] (getMethod ov m pl)
   callWith pos f first (backTo pos (starEach (e::es) X.env)) (backToKw pos (keywordEach [] X.env))):=by rfl) :
  PE X (.Call (.Attribute o m apos) (e::es) [] pos) (tMeth C m sp dvs E ta t):=by
 intro pins s σ H Q I h;refine PySem.W.methodCall_KW (pl:=pl) (thn (he pins s σ H _ I h) fun u s1 ⟨x,H1,I1,rx,a,dx,fs,ex,ea,l,q⟩=>?_) ht;subst ex;obtain rfl:u=Value.ref a:=rx;refine vV I1 ea c hm l ?_;refine callWith_K (first:=[.ref a]) (h₀:=X.base) I.ok.mod.kin hm.kp (thn (ha pos pins s1 σ H1 _ I1 q) fun us s2 ⟨vs,H2,I2,r,q2⟩=>⟨I2.kIn,?_⟩) hst hpl;exact DK (us:=.ref a::us) (vs:=.ref a::vs) F hr hb hd hx I2 (.cons rfl r) q2
structure Mk (K:Pn) (C f:Addr):Prop where
 makes:PySem.W.makesIn K C=true
 init:PySem.W.findIn K (.ref C) "__init__"=some (some (.ref f))
 fn:PySem.W.isFn K (.ref f)=true
 kp:keepIn K (.ref C)=true
theorem run_make {Q:VK} (M:Mk X.K C f) (F:cm X.prog X.w X.K X.mg X.base CX k f fd ps sp) (hr:mz (k+1) X.A) (hb:Binds X.K fd ps ds) (hd:Vals dvs ds)
  (hx:Passes CX X E) (I:Inv X pins σ H s) (r:Vals vs us)
  (h:∀x dx,H x=none->H dx=none->dx≠x->sp (.ref x::(vs++dvs)) (upd (upd H dx (.own x)) x (.ins C dx [])) (fun v H2=>v=.non/\Q (.ref x) H2) E) :
  wpAny (model X.prog X.w) X.A (call (.ref C) us) (EP X pins σ Q) X.xe s:=by
 have hq:=h (s.heap.objs.size+1) s.heap.objs.size (I.hok.fresh (Nat.le_succ _)) (I.hok.fresh (Nat.le_refl _)) (Nat.ne_of_lt (Nat.lt_succ_self _));have I2:=Inv.made (C:=C) I;have r2:Vals (V.ref (s.heap.objs.size+1)::(vs++dvs)) (Value.ref (s.heap.objs.size+1)::(us++ds)):=.cons rfl (r.append hd);have hl:(Value.ref (s.heap.objs.size+1)::us++ds).length=ps.length:=by
  have e:=r2.length;rw [F.len _ _ _ _ hq] at e;exact e.symm
 refine wpAny_call (make_map (f:=f) I.kIn M.makes M.init (beq_iff_eq.mp M.fn) (codeAny_mono (F.run _ X.stack _ _ ⟨Value.ref (s.heap.objs.size+1)::us,[]⟩ (Value.ref (s.heap.objs.size+1)::(us++ds)) _ _ E (hr.make C us [])
  (I2.env0.make C us []) (hb _ (Value.ref (s.heap.objs.size+1)::us) I2.kIn hl) r2 hq) fun r s' hq'=>?_))
 cases r with
 |error e=>exact hx pins σ _ _ e s' I2 hq'
 |ok fl=>
  cases fl with
  |ret u=>
   obtain ⟨v,H',I3,rv,ev,q3⟩:=I2.after hq';subst ev;exact ⟨rv,⟨V.ref (s.heap.objs.size+1),H',I3,rfl,q3⟩⟩
  |next=>exact False.elim hq'
  |brk=>exact False.elim hq'
  |cont=>exact False.elim hq'
theorem Eb (M:Mk X.K C f) (F:cm X.prog X.w X.K X.mg X.base CX k f fd ps sp) (hr:mz (k+1) X.A) (hg:Gl X x) (hm:X.mg x=some (.ref C)) (hb:Binds X.K fd ps ds) (hd:Vals dvs ds) (hx:Passes CX X E)
  (ha:PA X (e::es) t) (hdb:(x==("__debug__":Str))=false:=by decide) (he:starEach (e::es) X.env=(false,eval e X.env)::starEach es X.env:=by rfl) (hpl:(backTo pos (starEach es X.env)).any (·.1)=false:=by rfl) :
  PE X (.Call (.Name x p) (e::es) [] pos) (tMake C sp dvs E t):=by
 intro pins s σ H Q I h;refine wpAny_Call_Name_kw (mT I hg hm ?_ hdb);refine callWith_K (h₀:=X.base) I.ok.mod.kin M.kp (thn (ha pos pins s σ H _ I h) fun us s1 ⟨vs,H1,I1,r,q⟩=>⟨I1.kIn,?_⟩) he hpl;exact run_make M F hr hb hd hx I1 r q
end
section
variable {ks:List Str}
structure KBinds (K:Pn) (fd:FuncData) (ps ks:List Str) (g:List Value->List Value->List Value) (gV:List V->List V->List V):Prop where
 to:∀(s:Shared) (us ws:List Value),K.In s.heap->(g us ws).length=ps.length->BindsTo s fd ⟨us,ks.zip ws⟩ (ps.zip (g us ws))
 rel:∀{vs:List V} {us:List Value} {zs:List V} {ws:List Value},Vals vs us->Vals zs ws->Vals (gV vs zs) (g us ws)
end
structure aC (N P:List Str) (sc:Scope):Prop where
 kind:sc.kind=.function
 co:sc.isCoroutine=false
 gen:sc.isGenerator=false
 nd:N.Nodup
 pre:N.take P.length=P
 par:∀x∈P,sc.names.lookup x=some .local\/sc.names.lookup x=some .cell
 nofree:∀y∈sc.names,y.2≠.free
theorem zo {kindOf:Str->Option NameKind} {x:Str}:∀{binds:List (Str×Value)} {m:Ld},(∀v,(x,v)∉binds)->bindL kindOf binds m x=m x
 |[],_,_=>rfl
 |(n,v)::r,m,h=>by
  unfold bindL;rw [zo fun w hw=>h w (List.mem_cons_of_mem _ hw)];split
  ·have:x≠n:=by rintro rfl;exact h v List.mem_cons_self
   simp [this]
  ·rfl
theorem zq {kindOf:Str->Option NameKind} {x:Str}:∀{binds:List (Str×Value)} {m:Ld},(∀v,(x,v)∉binds)->bindC kindOf binds m x=m x
 |[],_,_=>rfl
 |(n,v)::r,m,h=>by
  unfold bindC;rw [zq fun w hw=>h w (List.mem_cons_of_mem _ hw)];split
  ·rfl
  ·have:x≠n:=by rintro rfl;exact h v List.mem_cons_self
   simp [this]
theorem zp {kindOf:Str->Option NameKind} {x:Str} {v:Value}:∀{P:List Str} {vs:List Value} {i:Nat} {m:Ld},P.Nodup->P[i]? =some x->vs[i]? =some v->kindOf x=some .local ->
  bindL kindOf (P.zip vs) m x=some v
 |[],_,_,_,_,h,_,_=>by simp at h
 |_::_,[],_,_,_,_,h,_=>by simp at h
 |p::P,w::vs,0,m,nd,h1,h2,hk=>by
  simp at h1 h2;subst h1;subst h2;show bindL kindOf ((p,w)::P.zip vs) m p=_;unfold bindL;rw [zo fun v hv=>(List.nodup_cons.mp nd).1 (List.of_mem_zip hv).1,if_pos hk];simp
 |p::P,w::vs,i+1,m,nd,h1,h2,hk=>by
  show bindL kindOf ((p,w)::P.zip vs) m x=_;unfold bindL;exact zp (i:=i) (List.nodup_cons.mp nd).2 (by simpa using h1) (by simpa using h2) hk
theorem zr {kindOf:Str->Option NameKind} {x:Str} {v:Value}:∀{P:List Str} {vs:List Value} {i:Nat} {m:Ld},P.Nodup->P[i]? =some x->vs[i]? =some v->kindOf x≠some .local ->
  bindC kindOf (P.zip vs) m x=some v
 |[],_,_,_,_,h,_,_=>by simp at h
 |_::_,[],_,_,_,_,h,_=>by simp at h
 |p::P,w::vs,0,m,nd,h1,h2,hk=>by
  simp at h1 h2;subst h1;subst h2;show bindC kindOf ((p,w)::P.zip vs) m p=_;unfold bindC;rw [zq fun v hv=>(List.nodup_cons.mp nd).1 (List.of_mem_zip hv).1,if_neg hk];simp
 |p::P,w::vs,i+1,m,nd,h1,h2,hk=>by
  show bindC kindOf ((p,w)::P.zip vs) m x=_;unfold bindC;exact zr (i:=i) (List.nodup_cons.mp nd).2 (by simpa using h1) (by simpa using h2) hk
noncomputable def start (N:List Str) (vs:List V):St:=vs.map some++List.replicate (N.length-vs.length) none
noncomputable def Dd (CX:CXT) (P:Program) (w:World) (K:Pn) (mg:Ld) (base:Heap) (N:List Str) (qual:Str) (scope:Scope) (f:Addr) (cd:Value) (A:Around) (outer:List Env) (s:Shared) (H:Hp) (E:XK):Cx where
 prog:=P
 w:=w
 K:=K
 mg:=mg
 base:=base
 A:=A.deeper (envOfC qual scope s.heap.objs.size f cd)
 N:=N
 s₀:=s
 H₀:=H
 env:=envOfC qual scope s.heap.objs.size f cd
 outer:=outer
 stack:=envOfC qual scope s.heap.objs.size f cd::outer
 ex:=[]
 calm:=true
 fn:=fun _=>true
 pn:=[]
 xe:=fun e s'=>wpAny (model P w) (A.deeper (envOfC qual scope s.heap.objs.size f cd)) (leaving (envOfC qual scope s.heap.objs.size f cd) e) (fun _ s''=>CX outer H s E e s'') (fun e' s''=>CX outer H s E e' s'') s'
theorem BY {sc:Scope} (h:sc.names.lookup x=some .cell):∃c,(cellsFrom n sc.names []).lookup x=some c:=by
 have q:=PySem.W.cellsFrom_some sc.names n [] (.inl h);exact Option.isSome_iff_exists.mp q
theorem EI {base:Heap} {f:Addr} {cd:Value} {s1:Shared} {E:XK} 
  (S:aC N ps scope) (hd:A.handled=none) (e0:Env0 P w K mg base A outer s H) (hl:vs.length=ps.length) (r:Vals vs us)
  (x:InCallC s s.heap.objs.size (bindL (envOfC qual scope s.heap.objs.size f cd).kindOf (ps.zip us) fun _=>none) (cellsFrom (s.heap.objs.size+1) scope.names []) (bindC (envOfC qual scope s.heap.objs.size f cd).kindOf (ps.zip us) fun _=>none) s1) :
  Inv (Dd CX P w K mg base N qual scope f cd A outer s H E) [] (start N vs) H s1:=by
 have hpl:ps.length<=N.length:=by have:=congrArg List.length S.pre;rw [List.length_take] at this;omega
 obtain ⟨h1,tk,rfl,hk⟩:=x.done;have noA:∀b:Addr,b∉(Dd CX P w K mg base N qual scope f cd A outer s H E).ex:=fun b z=>absurd (show b∈([]:List Addr) from z) (by simp);refine ⟨⟨e0.mod,S.kind,rfl,rfl,Nat.le_refl _,fun y z c h1 h2=>?_,fun y hy=>?_,fun y c _ h=>?_,fun _=>hd,Around.frames_deeper e0.frames,.inr ⟨rfl,rfl⟩,fun b z=>absurd z (noA b),e0.bs,e0.bsz,fun b _ _=>noA b,fun b z=>absurd z (noA b),e0.yV,e0.frf⟩,
  rfl,e0.bare,Un.kept hk,⟨_,x.toInCall.ns,fun i y v h1 h2 h3=>?_⟩,fun y c h=>⟨_,x.cell y c h⟩,e0.hok.fresh (Nat.le_refl _),fun y c h=>?_,fun p hp=>absurd (show p∈([]:Vp) from hp) (by simp),e0.hok.kept hk,?_⟩
 ·exact name_of_addr x.apart (PySem.mem_of_lookup h1) (PySem.mem_of_lookup h2)
 ·have hy:scope.names.lookup y=some .cell\/scope.names.lookup y=some .free:=hy;rcases hy with hy|hy
  ·exact BY hy
  ·exact absurd rfl (S.nofree _ (PySem.mem_of_lookup hy))
 ·exact Nat.le_of_lt (x.above y c (PySem.mem_of_lookup h))
 ·have hi:i<vs.length:=by
   unfold start at h2;by_cases hi:i<vs.length
   ·exact hi
   ·rw [List.getElem?_append_right (by simpa using hi)] at h2;rw [List.getElem?_replicate] at h2;split at h2<;>cases h2
  have ha:vs[i]? =some v:=by
   unfold start at h2;rw [List.getElem?_append_left (by simpa using hi),List.getElem?_map] at h2;cases e:vs[i]? with
   |none=>rw [e] at h2;cases h2
   |some a=>rw [e] at h2;cases h2;rfl
  obtain ⟨u,hu,rv⟩:=r.get ha;have hp:ps[i]? =some y:=by
   rw [<- S.pre,List.getElem?_take_of_lt (by omega)];exact h1
  have ndP:ps.Nodup:=by rw [<- S.pre];exact S.nd.sublist (List.take_sublist _ _)
  refine ⟨u,rv,?_⟩
  rcases S.par y (List.mem_of_getElem? hp) with k|k
  ·exact .inl ⟨k,zp ndP hp hu k⟩
  ·obtain ⟨c,e⟩:=BY (n:=s.heap.objs.size+1) k;refine .inr ⟨.inl k,c,e,?_⟩;have q:=x.cell y c e;rw [zr ndP hp hu (by show scope.names.lookup y≠_;rw [k];decide)] at q;exact q
 ·exact e0.hok.fresh (Nat.le_of_lt (x.above y c (PySem.mem_of_lookup h)))
 ·unfold start;show _=N.length;rw [List.length_append,List.length_map,List.length_replicate];omega
theorem fn_of {base:Heap} {f:Addr} {params:Arguments} {dV kV doc pm cdv ct oc:Value} {an od:Option Addr}
  {osl:Array (Option Value)} (lk:K.lookup f=some ⟨oc,od,.func (fnOf name qual params body scope dV kV doc pm an cdv ct),osl⟩) (hcd:codeIn K cdv qual=true) (S:aC N ps scope)
  (len:∀vs H Q E,sp vs H Q E->vs.length=ps.length)
  (hbody:∀(A:Around) (outer:List Env) (s:Shared) (H:Hp) (vs:List V) (Q:VK) (E:XK),mz k (A.deeper (envOfC qual scope s.heap.objs.size f cdv))->sp vs H Q E ->
   ∃t,PSs (Dd CX P w K mg base N qual scope f cdv A outer s H E) body t/\t {nx:=fun _ H'=>Q .non H',rt:=Q} (start N vs) H) :
  cm P w K mg base CX (k+1) f (fnOf name qual params body scope dV kV doc pm an cdv ct) ps sp:=by
 refine ⟨len,fun A outer s H args us vs Q E hr e0 hb r hsp=>?_⟩
 have hl:=len _ _ _ _ hsp;have KX:K.In s.heap:=e0.mod.kin.keeps fun b o e=>(e0.bs b o e).1;have lim:s.heap.NoLimit:=e0.mod.nolimit.keeps fun b o e=>(e0.bs b o e).1;have hkind:∀y∈ps.zip us,scope.names.lookup y.1=some .local\/(scope.names.lookup y.1=some .cell/\((cellsFrom (s.heap.objs.size+1) scope.names []).lookup y.1).isSome=true):=fun ⟨n,v⟩ hy=>by
  rcases S.par n (List.of_mem_zip hy).1 with q|q
  ·exact .inl q
  ·exact .inr ⟨q,PySem.W.cellsFrom_some _ _ _ (.inl q)⟩
 refine codeAny_call_function hr.depth (KX _ _ lk) rfl S.co S.gen rfl (PySem.W.codeRec_of KX hcd) (hb _ _ _ _ ?_);refine wpAny_newFunctionEnv_cells S.kind hkind fun env he s1 x=>?_;subst he;refine ⟨lim.keeps x.toInCall.keep,codeAny_func ?_⟩
 obtain ⟨t,ht,hq⟩:=hbody A outer s H vs Q E (hr.deeper _) hsp;have I:Inv (Dd CX P w K mg base N qual scope f cdv A outer s H E) [] (start N vs) H s1:=EI S hr.hd e0 hl r x;refine wpAny_mono (ht [] s1 (start N vs) H _ I hq) (fun fl s' hs=>?_) fun e s' hs=>hs;have fin:∀{σ':St} {H':Hp} {v:V} {u:Value},Inv (Dd CX P w K mg base N qual scope f cdv A outer s H E) [] σ' H' s'->RelV v u->Q v H'->CE outer P w H s Q u s':=
  fun {σ' H' v u} J rv q=>⟨v,H',J.os,J.bare,J.base,J.hok,rv,q⟩
 cases fl with
 |ret u=>
  obtain ⟨v,σ',H',J,rv,q⟩:=hs;exact fin J rv q
 |next=>
  obtain ⟨σ',H',J,q⟩:=hs;exact fin (v:=V.non) (u:=Value.none) J rfl q
 |brk=>
  obtain ⟨_,_,_,q⟩:=hs;exact False.elim q
 |cont=>
  obtain ⟨_,_,_,q⟩:=hs;exact False.elim q
section
variable {id T:String} {r:List V->Hp->VK->Prop}
noncomputable def tCB (r:List V->Hp->VK->Prop) (t:TA):TE:=fun σ H Q=>t σ H fun vs H1=>r vs H1 Q
theorem gA (hc:dS X (.builtin id) r) (hg:Gl X x) (hm:X.mg x=none) (hv:bootBuiltins x=some (.builtin id)) (ha:PA X (e::es) t) (hn:x≠"__name__":=by decide) (hdb:(x==("__debug__":Str))=false:=by decide)
  (he:starEach (e::es) X.env=(false,eval e X.env)::starEach es X.env:=by rfl) (hpl:(backTo pos (starEach es X.env)).any (·.1)=false:=by rfl):PE X (.Call (.Name x p) (e::es) [] pos) (tCB r t):=by
 intro pins s σ H Q I h;refine wpAny_Call_Name_kw (oQ I hg hm hv ?_ hn hdb);exact PyProof.Rows.callWith_builtin1 (thn (ha pos pins s σ H _ I h) fun us s1 ⟨vs,H1,I1,r1,q1⟩=>hc pins s1 σ H1 vs us Q I1 r1 q1) he hpl
theorem yv (hc:dS X (.type T) r) (hg:Gl X x) (hm:X.mg x=none) (hv:bootBuiltins x=some (.type T)) (ha:PA X (e::es) t) (hn:x≠"__name__":=by decide) (hdb:(x==("__debug__":Str))=false:=by decide)
  (he:starEach (e::es) X.env=(false,eval e X.env)::starEach es X.env:=by rfl) (hpl:(backTo pos (starEach es X.env)).any (·.1)=false:=by rfl):PE X (.Call (.Name x p) (e::es) [] pos) (tCB r t):=by
 intro pins s σ H Q I h;refine wpAny_Call_Name_kw (oQ I hg hm hv ?_ hn hdb);exact PyProof.Rows.callWith_type1 (thn (ha pos pins s σ H _ I h) fun us s1 ⟨vs,H1,I1,r1,q1⟩=>hc pins s1 σ H1 vs us Q I1 r1 q1) he hpl
end
end L2
namespace HT
open PySem PyProof.Rows
section
open PySem.SeqAt
open PySem.AutoSeq1 (wpAny_loadPart')
open PySem.MeetsSeq PySem.MeetsSeq2 PySem.MeetsSeq3
end
section
variable {prog:Program} {w:World} {A:Around} {E:Mq} {s:Shared}
theorem cat_tup {t b:Addr} {vs ws:List Value} {Q:Mq} (ht:IsTup s.heap t vs.toArray) (hb:IsTup s.heap b ws.toArray) (hv:vs≠[])
  (h1:ws=[]->Q (.ref t) s) (h2:ws≠[]->Q (.ref s.heap.objs.size) {s with heap:=s.heap.push {cls:=.type "tuple",data:=.seq (vs++ws).toArray}})
  (hsz:vs.length+ws.length<=sizeLine):wpAny (model prog w) A (binaryOp .Add (.ref t) (.ref b)) Q E s:=by
 obtain ⟨⟨cls,dd,data,sl⟩,ho,hc,n,hd⟩:=id ht;obtain ⟨⟨cls2,dd2,data2,sl2⟩,ho2,hc2,n2,hd2⟩:=id hb;simp only at hc hd hc2 hd2;subst hc hd hc2 hd2;have e:vs.toArray++ws.toArray=(vs++ws).toArray:=by simp
 by_cases hw:ws=[]
 ·exact concat_meets ⟨_,ho,rfl⟩ ⟨_,ho2,rfl⟩ noFill_tuple_add seq_tuple_add PySem.F.slot_tuple_add PySem.F.entry_tuple_add (PySem.F.args_tuple_add_2 _ _)
   (tuple_addW1 t b vs.toArray ws.toArray n n2 dd dd2 sl sl2 (by simpa using hv) (by simp [hw])) ⟨ho,ho2,h1 hw⟩
 ·refine concat_meets ⟨_,ho,rfl⟩ ⟨_,ho2,rfl⟩ noFill_tuple_add seq_tuple_add PySem.F.slot_tuple_add PySem.F.entry_tuple_add (PySem.F.args_tuple_add_2 _ _)
   (tuple_addW2 t b vs.toArray ws.toArray n n2 dd dd2 sl sl2 (by simpa using hv) (by simpa using hw) (by rw [List.size_toArray,List.size_toArray];exact hsz)) ⟨ho,ho2,?_⟩
  rw [e];exact h2 hw
noncomputable def sIx (n d:Nat):Option Int->Nat
 |none=>d
 |some v=>if v<0 then (v+(n:Int)).toNat else min v.toNat n
theorem sIx_le (n d:Nat) (hd:d<=n) (o:Option Int):sIx n d o<=n:=by
 cases o with
 |none=>exact hd
 |some v=>
  show (if v<0 then (v+(n:Int)).toNat else min v.toNat n)<=n;by_cases hv:v<0
  ·rw [if_pos hv];omega
  ·rw [if_neg hv];exact Nat.min_le_right _ _
theorem Fp (v:Int) (n d:Nat):(if v<0 then max (v+(n:Int)) 0 else min v (n:Int))=((sIx n d (some v):Nat):Int):=by
 show (if v<0 then max (v+(n:Int)) 0 else min v (n:Int))=(((if v<0 then (v+(n:Int)).toNat else min v.toNat n):Nat):Int)
 by_cases hv:v<0
 ·simp only [if_pos hv];omega
 ·simp only [if_neg hv];omega
theorem D4 (lo hi:Option Int) (n:Nat):Builtin.Slice.sliceAdjust lo hi 1 (n:Int)=(((sIx n 0 lo:Nat):Int),((sIx n n hi:Nat):Int)):=by
 have h1:¬((1:Int)<0):=by omega
 unfold Builtin.Slice.sliceAdjust;simp only [h1,if_false];refine Prod.ext ?_ ?_
 ·cases lo with
  |none=>rfl
  |some v=>exact Fp v n 0
 ·cases hi with
  |none=>rfl
  |some v=>exact Fp v n n
theorem Cu (i j:Nat):Builtin.Slice.slicePlaces (i:Int) (j:Int) 1=j-i:=by
 unfold Builtin.Slice.slicePlaces;have h1:(1:Int)>0:=by omega
 simp only [h1,if_true,Int.ediv_one];split<;>omega
theorem vC {v:Value} {o:Option Int} {Q:Option Int->Shared->Prop} (p:IsPart v o) (h:Q o s):wpAny (model prog w) A (Builtin.Slice.slicePartIndex v) Q E s:=by
 cases p with
 |none=>exact slicePart_none h
 |int i t=>exact slicePart_int h
theorem t9 {sl:Addr} {vl vu:Value} {lo hi:Option Int} {n:Nat} {Q:Int×Int×Nat->Shared->Prop} (hs:s.heap.IsSliceOf sl vl vu .none) (pl:IsPart vl lo) (pu:IsPart vu hi)
  (h:Q (((sIx n 0 lo:Nat):Int),1,sIx n n hi-sIx n 0 lo) s):wpAny (model prog w) A (Builtin.Slice.sliceApplied (.ref sl) (pure (n:Int))) Q E s:=by
 obtain ⟨os,hos,hcs,hds⟩:=id hs;unfold Builtin.Slice.sliceApplied Builtin.Slice.sliceFields;refine wpAny_bind (wpAny_bind (wpAny_field hos hds (x:=vl) rfl (wpAny_bind (wpAny_field hos hds (x:=vu) rfl (wpAny_bind (wpAny_field hos hds (x:=.none) rfl (wpAny_pure ?_)))))));refine wpAny_bind (slicePart_none ?_);show wpAny _ _ (if ((1:Int)==0)=true then _ else _) _ _ s;rw [if_neg (by decide)];refine wpAny_bind (vC pl (wpAny_bind (vC pu (wpAny_bind (wpAny_pure ?_)))));show wpAny _ _ (match Builtin.Slice.sliceAdjust lo hi 1 (n:Int) with|(lo,hi)=>pure (lo,(1:Int),Builtin.Slice.slicePlaces lo hi 1)) _ _ s;rw [D4 lo hi n];show wpAny _ _ (pure (((sIx n 0 lo:Nat):Int),(1:Int),Builtin.Slice.slicePlaces ((sIx n 0 lo:Nat):Int) ((sIx n n hi:Nat):Int) 1)) _ _ s;rw [Cu];exact wpAny_pure h
theorem pick_gen (xs:Array Value) (i k:Nat):((List.range k).filterMap fun (m:Nat)=>xs[((i:Int)+(m:Int)*1).toNat]?).toArray=((xs.toList.drop i).take k).toArray:=by
 have e:(fun (m:Nat)=>xs[((i:Int)+(m:Int)*1).toNat]?)=fun m=>xs[i+m]?:=by
  funext m
  have:((i:Int)+(m:Int)*1).toNat=i+m:=by omega
  rw [this]
 rw [e];have:=pick_run xs i k;rw [List.filterMap_map] at this;have e2:((fun x=>xs[x]?)∘fun x=>i+x)=fun m=>xs[i+m]?:=rfl;rw [e2] at this;rw [this]
theorem sF {t sl:Addr} {items:Array Value} {vl vu:Value} {lo hi:Option Int} {Q:Mq} (ht:IsTup s.heap t items) (hs:s.heap.IsSliceOf sl vl vu .none) (pl:IsPart vl lo) (pu:IsPart vu hi)
  (hw:¬(sIx items.size 0 lo=0/\sIx items.size items.size hi=items.size))
  (h:Q (.ref s.heap.objs.size) {s with heap:=s.heap.push {cls:=.type "tuple",data:=.seq ((items.toList.drop (sIx items.size 0 lo)).take (sIx items.size items.size hi-sIx items.size 0 lo)).toArray}})
  (hsz:items.size<=sizeLine):wpAny (model prog w) A (getItem (.ref t) (.ref sl)) Q E s:=by
 have htake:sizeOk (.seq ((items.toList.drop (sIx items.size 0 lo)).take (sIx items.size items.size hi-sIx items.size 0 lo)).toArray):=by
  show ((items.toList.drop (sIx items.size 0 lo)).take (sIx items.size items.size hi-sIx items.size 0 lo)).toArray.size<=sizeLine;rw [List.size_toArray,List.length_take,List.length_drop,Array.length_toList];omega
 have hj:sIx items.size items.size hi<=items.size:=sIx_le _ _ (Nat.le_refl _) hi;obtain ⟨os,hos,hcs,hds⟩:=id hs;have hTs:s.TypeIs (.ref sl) "slice":=⟨os,hos,hcs⟩
 unfold getItem
 try with_reducible refine wpAny_holding ?_
 first|refine wpAny_bind (wpAny_pure ?_)|skip
 refine wpAny_bind (wpAny_sequenceKey ht.typeIs (by decide) ?_);refine wpAny_bind (wpAny_callSpecial?_slot (name:=Str.ofString "__getitem__") ht.typeIs PyProof.Rows.slot_tuple_getitem
  (wpAny_call_entry PyProof.Rows.slot_tuple_getitem ht.typeIs entry_tuple_getitem ?_ (args_tuple_getitem _ _)))
 show wpAny _ _ (Builtin.Tuple.tupleItemsOf (.ref t) >>= _) _ _ s;refine wpAny_bind (tupleItemsOf_ ht ?_);refine wpAny_bind (wpAny_typeOf hTs ?_);rw [if_pos (by decide)];refine wpAny_bind (t9 hs pl pu ?_);have hno:¬((((sIx items.size 0 lo:Nat):Int)==0&&(1:Int)==1&&(sIx items.size items.size hi-sIx items.size 0 lo)==items.size)=true):=by
  intro q;rw [Bool.and_eq_true,Bool.and_eq_true] at q;have q1:((sIx items.size 0 lo:Nat):Int)=0:=eq_of_beq q.1.1;have q2:sIx items.size items.size hi-sIx items.size 0 lo=items.size:=eq_of_beq q.2;exact hw ⟨by omega,by omega⟩
 show wpAny _ _ (if (((sIx items.size 0 lo:Nat):Int)==0&&(1:Int)==1&&(sIx items.size items.size hi-sIx items.size 0 lo)==items.size)=true then _ else _) _ _ s;rw [if_neg hno,pick_gen]
 first
  |exact wpAny_bind (m:=Builtin.Tuple.tupleExact _) (wpAny_newObj_type (wpAny_pure ⟨_,rfl,wpAny_pure h⟩) htake)
  |exact wpAny_bind (m:=Builtin.Tuple.tupleExact _) (wpAny_newObj_type (wpAny_bind (wpAny_pure (wpAny_pure ⟨_,rfl,wpAny_pure h⟩))) htake)
  |exact wpAny_bind (wpAny_bind (m:=Builtin.Tuple.tupleExact _) (wpAny_newObj_type (wpAny_pure (wpAny_pure ⟨_,rfl,wpAny_pure h⟩)) htake))
  |exact wpAny_bind (wpAny_bind (m:=Builtin.Tuple.tupleExact _) (wpAny_newObj_type (wpAny_pure ⟨_,rfl,wpAny_pure h⟩) htake))
end
end HT
namespace L2
open PySem PySem.Spec PyProof.Rows
variable {X:Cx} {e:Expr} {pos:Pos} {r:V->Option Int->Option Int->Hp->VK->Prop} {xs ys:List V} {α:Type} {n:Nat} {i:Int} {pins:Vp} {σ:St} {H:Hp} {s:Shared} {its its':List Value} {T:String}
noncomputable abbrev TO:=St->Hp->(Option Int->Hp->Prop)->Prop
noncomputable def PO (X:Cx) (e:Option Expr) (t:TO):Prop:=
 ∀(pins:Vp) (s:Shared) (σ:St) (H:Hp) (Q:Option Int->Hp->Prop),Inv X pins σ H s->t σ H Q ->
  wpAny (model X.prog X.w) X.A (evalPart e X.env) (fun u s'=>∃o H',Inv X pins σ H' s'/\IsPart u o/\Q o H') X.xe s
noncomputable def tNoPart:TO:=fun _ H Q=>Q none H
noncomputable def tPart (t:TE):TO:=fun σ H Q=>t σ H fun x H1=>∃i,x=.int i/\Q (some i) H1
theorem intsAre_of {ns:List Int}:∀{us:List Value},Vals (ns.map V.int) us->IntsAre us ns:=by
 induction ns with
 |nil=>intro us r;rw [List.map_nil] at r;cases r;exact .nil
 |cons n ns ih=>
  intro us r;rw [List.map_cons] at r;cases r with
  |cons r1 r2=>
   obtain ⟨t,e⟩:=r1;subst e;exact .cons n t (ih r2)
section
variable {te:TE} {lo hi:Option Expr} {tl th:TO} {p2:Pos}
theorem po_none:PO X none tNoPart:=by
 intro pins s σ H Q I h;rw [evalPart_none];exact wpAny_pure ⟨none,H,I,.none,h⟩
theorem po_some (h:PE X e te):PO X (some e) (tPart te):=by
 intro pins s σ H Q I hw;rw [evalPart_some];refine thn (h pins s σ H _ I hw) fun u s1 ⟨x,H1,I1,r1,q1⟩=>?_;obtain ⟨i,rfl,q⟩:=q1;obtain ⟨t,rfl⟩:=r1;exact ⟨some i,H1,I1,.int i t,q⟩
noncomputable def SlR (X:Cx) (r:V->Option Int->Option Int->Hp->VK->Prop):Prop:=
 ∀(pins:Vp) (s:Shared) (σ:St) (H:Hp) (x:V) (v vl vu:Value) (lo hi:Option Int) (sl:Addr) (Q:VK),Inv X pins σ H s->RelV x v->s.heap.IsSliceOf sl vl vu .none->IsPart vl lo->IsPart vu hi->r x lo hi H Q ->
  ∃T id,typeLookup (.type T) "__getitem__"=pure (some (.builtin id))/\s.TypeIs v T/\wpAny (model X.prog X.w) X.A (getItem v (.ref sl)) (EP X pins σ Q) X.xe s
theorem SlR.or {r':V->Option Int->Option Int->Hp->VK->Prop} (h:SlR X r) (h':SlR X r'):SlR X (fun x lo hi H Q=>r x lo hi H Q\/r' x lo hi H Q):=by
 intro pins s σ H x v vl vu lo hi sl Q I rx hs pl pu q;rcases q with q|q
 ·exact h pins s σ H x v vl vu lo hi sl Q I rx hs pl pu q
 ·exact h' pins s σ H x v vl vu lo hi sl Q I rx hs pl pu q
noncomputable def tSl (r:V->Option Int->Option Int->Hp->VK->Prop) (te:TE) (tl th:TO):TE:=fun σ H Q=>te σ H fun x H1=>tl σ H1 fun l H2=>th σ H2 fun u H3=>r x l u H3 Q
theorem pe_slice (hr:SlR X r) (he:PE X e te) (hl:PO X lo tl) (hu:PO X hi th):PE X (.Subscript e (.Slice lo hi none p2) pos) (tSl r te tl th):=by
 intro pins s σ H Q I h;refine Subscript_ (thn (he pins s σ H _ I h) fun v s1 ⟨x,H1,I1,r1,q1⟩=>?_);refine wpAny_Slice (thn (hl pins s1 σ H1 _ I1 q1) fun vl s2 ⟨l,H2,I2,pl,q2⟩=>thn (hu pins s2 σ H2 _ I2 q2) fun vu s3 ⟨u,H3,I3,pu,q3⟩=>?_);rw [evalPart_none];refine wpAny_pure ?_;have I4:Inv X pins σ H3 {s3 with heap:=s3.heap.push {cls:=.type "slice",data:=.fields #[vl,vu,.none]}}:=I3.kept (t':=s3.toks) fun b ob q=>Heap.get?_push_of_some _ q;obtain ⟨T,id,hT,ht,hg⟩:=hr pins {s3 with heap:=s3.heap.push {cls:=.type "slice",data:=.fields #[vl,vu,.none]}} σ H3 x v vl vu l u s3.heap.objs.size Q I4 r1 (Heap.IsSliceOf.new ..) pl pu q3;show wpAny (model X.prog X.w) X.A (subscriptTail e (.Slice lo hi none p2) v (.ref s3.heap.objs.size)) (EP X pins σ Q) X.xe {s3 with heap:=s3.heap.push {cls:=.type "slice",data:=.fields #[vl,vu,.none]}};exact tail_any (ops:=[.ref s3.heap.objs.size,v]) ht hT hg (by with_unfolding_all rfl)
noncomputable def cutV (xs:List V) (lo hi:Option Int):List V:=(xs.drop (HT.sIx xs.length 0 lo)).take (HT.sIx xs.length xs.length hi-HT.sIx xs.length 0 lo)
theorem uN (xs:List V) (lo hi:Option Int):(cutV xs lo hi).length<=xs.length:=by
 unfold cutV;rw [List.length_take,List.length_drop];omega
noncomputable def rSlT (K:Pn):V->Option Int->Option Int->Hp->VK->Prop:=fun x lo hi H Q=>∃a xs,x=.ref a/\SqT K H a xs /\
 ¬(HT.sIx xs.length 0 lo=0/\HT.sIx xs.length xs.length hi=xs.length)/\∀p,H p=none->Q (.ref p) (upd H p (.tup (cutV xs lo hi)))
theorem sl_tup:SlR X (rSlT X.K):=by
 intro pins s σ H x v vl vu lo hi sl Q I rx hs pl pu h;obtain ⟨a,xs,rfl,hx,hw,q⟩:=h;cases rx;obtain ⟨its,r,ht,hz⟩:=I.tuple hx;have hlen:its.toArray.size=xs.length:=by rw [List.size_toArray];exact r.length.symm
 refine ⟨"tuple",_,PyProof.Rows.slot_tuple_getitem.lookup,ht.typeIs,?_⟩
 refine HT.sF ht hs pl pu (by rw [hlen];exact hw) ?_ (by rw [hlen];exact hz);rw [hlen];refine ⟨.ref s.heap.objs.size,_,I.laid (t':=s.toks) (o:=.tup (cutV xs lo hi)) (fun b ob q=>Heap.get?_push_of_some _ q) (Nat.le_refl _) ?_,rfl,q _ (I.hok.fresh (Nat.le_refl _))⟩
 exact ⟨Nat.le_trans (uN xs lo hi) hz,_,(r.drop (HT.sIx xs.length 0 lo)).take (HT.sIx xs.length xs.length hi-HT.sIx xs.length 0 lo),IsTup.new _ _⟩
noncomputable def rCatT (K:Pn):R2:=fun x y H Q=>∃a b xs ys,x=.ref a/\y=.ref b/\SqT K H a xs/\SqT K H b ys/\xs≠[]/\xs.length+ys.length<=sizeLine /\
 (ys=[]->Q (.ref a) H)/\(ys≠[]->∀p,H p=none->Q (.ref p) (upd H p (.tup (xs++ys))))
theorem Vals.Aa {us:List Value} (r:Vals xs us):us=[]↔xs=[]:=by
 cases r with
 |nil=>simp
 |cons _ _=>simp
theorem op_catT:OpR X (binaryOp .Add) (rCatT X.K):=by
 intro pins s σ H x y v u Q I rx ry h;obtain ⟨a,b,xs,ys,rfl,rfl,ha,hb,hx,hz,q1,q2⟩:=h;cases rx;cases ry;obtain ⟨its,r1,p1,_⟩:=I.tuple ha;obtain ⟨its2,r2,p2,_⟩:=I.tuple hb;refine HT.cat_tup p1 p2 (fun z=>hx (r1.Aa.mp z)) (fun z=>⟨.ref a,H,I,rfl,q1 (r2.Aa.mp z)⟩) (fun z=>?_) (by rw [<- r1.length,<- r2.length];exact hz);refine ⟨.ref s.heap.objs.size,_,I.laid (t':=s.toks) (o:=.tup (xs++ys)) (fun b ob q=>Heap.get?_push_of_some _ q) (Nat.le_refl _) ?_,rfl,q2 (fun w=>z (r2.Aa.mpr w)) _ (I.hok.fresh (Nat.le_refl _))⟩
 exact ⟨by rw [List.length_append];exact hz,_,r1.append r2,IsTup.new _ _⟩
end
noncomputable def ixN (n:Nat) (i:Int):Option Nat:=if 0<=i then (if i<n then some i.toNat else none) else if -(n:Int)<=i then some (i+n).toNat else none
noncomputable def atI (xs:List α) (i:Int):Option α:=(ixN xs.length i).bind fun j=>xs[j]?
theorem Ad {j:Nat} (h:ixN n i=some j):seqIndex? i n=some j/\j<n/\ -(n:Int)<=i/\i<n:=by
 unfold ixN at h;by_cases h0:0<=i
 ·rw [if_pos h0] at h;by_cases h1:i<n
  ·rw [if_pos h1] at h;have e:i.toNat=j:=Option.some.inj h;exact ⟨by rw [seqIndex_of h0 h1,e],by omega,by omega,h1⟩
  ·rw [if_neg h1] at h;cases h
 ·rw [if_neg h0] at h;by_cases h1: -(n:Int)<=i
  ·rw [if_pos h1] at h;have e:(i+n).toNat=j:=Option.some.inj h;exact ⟨by rw [seqIndex_neg (by omega) h1,e],by omega,h1,by omega⟩
  ·rw [if_neg h1] at h;cases h
theorem AS {xs:List α} {v:α} (h:atI xs i=some v):∃j,seqIndex? i xs.length=some j/\xs[j]? =some v/\j<xs.length/\ -(xs.length:Int)<=i/\i<xs.length:=by
 unfold atI at h;cases e:ixN xs.length i with
 |none=>rw [e] at h;cases h
 |some j=>
  rw [e] at h;obtain ⟨h1,h2,h3,h4⟩:=Ad e;exact ⟨j,h1,h,h2,h3,h4⟩
noncomputable def FO (b:Expr):Prop:=∀o i,subscripted b false o i=operate [o,i] (getItem o i)
noncomputable def IxR (X:Cx) (r:R2):Prop:=
 ∀(value slice:Expr) (pins:Vp) (s:Shared) (σ:St) (H:Hp) (x y:V) (v u:Value) (Q:VK),Inv X pins σ H s->RelV x v->RelV y u->r x y H Q ->
  subscripted slice false v u=operate [v,u] (getItem v u)->wpAny (model X.prog X.w) X.A (subscriptTail value slice v u) (EP X pins σ Q) X.xe s
noncomputable def MtR (X:Cx) (id:String) (r:V->List V->Hp->VK->Prop):Prop:=
 ∀(pins:Vp) (s:Shared) (σ:St) (H:Hp) (x:V) (xs:List V) (v:Value) (us:List Value) (Q:VK),Inv X pins σ H s->RelV x v->Vals xs us->r x xs H Q ->
  wpAny (model X.prog X.w) X.A (call (.builtin id) (v::us)) (EP X pins σ Q) X.xe s
section
variable {a b:Expr} {ta tb:TE} 
theorem IxR.or {r r':R2} (h:IxR X r) (h':IxR X r'):IxR X (fun x y H Q=>r x y H Q\/r' x y H Q):=by
 intro value slice pins s σ H x y v u Q I rx ry q hs;rcases q with q|q
 ·exact h value slice pins s σ H x y v u Q I rx ry q hs
 ·exact h' value slice pins s σ H x y v u Q I rx ry q hs
theorem pe_ix {r:R2} (hr:IxR X r) (ha:PE X a ta) (hb:PE X b tb) (hs:FO b):PE X (.Subscript a b pos) (tOp r ta tb):=by
 intro pins s σ H Q I h;exact Subscript_ (binT ha hb I h fun v u s2 x y H2 I2 rx ry q=>hr a b pins s2 σ H2 x y v u Q I2 rx ry q (hs _ _))
noncomputable def rIxL (K:Pn):R2:=fun x y H Q=>∃p xs i v,x=.ref p/\y=.int i/\SqL K H p xs/\atI xs i=some v/\Q v H
noncomputable def rIxT (K:Pn):R2:=fun x y H Q=>∃p xs i v,x=.ref p/\y=.int i/\SqT K H p xs/\atI xs i=some v/\Q v H
noncomputable def rIxS:R2:=fun x y H Q=>∃z i c,x=.str z/\y=.int i/\z.length<=sizeLine/\atI z.cps.toList i=some c/\Q (.str ⟨#[c]⟩) H
theorem ix_list:IxR X (rIxL X.K):=by
 intro value slice pins s σ H x y v u Q I rx ry h hs;obtain ⟨p,xs,i,z,rfl,rfl,hq,he,q⟩:=h;cases rx;obtain ⟨t,rfl⟩:=ry;obtain ⟨its,r,pl,hz⟩:=I.list hq;obtain ⟨j,h1,h2,h3,h4,h5⟩:=AS he;obtain ⟨w,ew,rw'⟩:=r.get h2;have hl:=r.length;have hn:=vN;have fin:EP X pins σ Q w s:=⟨z,H,I,rw',q⟩
 by_cases h0:0<=i
 ·have hj:i.toNat=j:=by
   rw [seqIndex_of h0 h5] at h1;exact Option.some.inj h1
  exact item_listR pl.isList h0 (by omega) (by rw [hj];simpa using ew) fin hs
 ·have hj:(i+(its.toArray.size:Int)).toNat=j:=by
   rw [seqIndex_neg (by omega) h4] at h1;rw [List.size_toArray,<- hl];exact Option.some.inj h1
  exact subscriptTail_builtinR (x:=w) pl.isList.typeIs slot_list_getitem.lookup
   (wpAny_getItem_list_neg (Q:=fun r s'=>r=w/\EP X pins σ Q r s') pl.isList (by omega) (by rw [List.size_toArray]<;>omega) (by omega) (by rw [hj];simpa using ew) ⟨rfl,fin⟩) hs
theorem ix_tup:IxR X (rIxT X.K):=by
 intro value slice pins s σ H x y v u Q I rx ry h hs;obtain ⟨p,xs,i,z,rfl,rfl,hq,he,q⟩:=h;cases rx;obtain ⟨t,rfl⟩:=ry;obtain ⟨its,r,pl,hz⟩:=I.tuple hq;obtain ⟨j,h1,h2,h3,h4,h5⟩:=AS he;obtain ⟨w,ew,rw'⟩:=r.get h2;have hl:=r.length;have hn:=vN;have fin:EP X pins σ Q w s:=⟨z,H,I,rw',q⟩
 exact subscriptTail_builtinR (x:=w) pl.typeIs slot_tuple_getitem.lookup
  (getItem_tuple (j:=j) (Q:=fun r s'=>r=w/\EP X pins σ Q r s') pl (by omega) (by omega) (by rw [List.size_toArray,<- hl];exact h1) (by simpa using ew) ⟨rfl,fin⟩) hs
theorem ix_str:IxR X rIxS:=by
 intro value slice pins s σ H x y v u Q I rx ry h hs;obtain ⟨z,i,c,rfl,rfl,hz,he,q⟩:=h;obtain ⟨t,rfl⟩:=rx;obtain ⟨t',rfl⟩:=ry;obtain ⟨j,h1,h2,h3,h4,h5⟩:=AS he;have hl:z.cps.toList.length=z.length:=by simp [Str.length]
 rw [hl] at h1 h4 h5;have hn:=vN;exact tail_any (typeIs_str s z t) slot_str_getitem.lookup (getItem_str (c:=c) (by
  have e1:decide (i< -(2^63:Int))=false:=decide_eq_false (by omega);have e2:decide (i>=2^63)=false:=decide_eq_false (by omega);rw [e1,e2,Bool.or_false]) (by rw [h1];simpa using h2) ⟨.str ⟨#[c]⟩,H,I.tok _,⟨_,rfl⟩,q⟩) hs
noncomputable def rIx (K:Pn):R2:=fun x y H Q=>rIxL K x y H Q\/rIxT K x y H Q\/rIxS x y H Q
theorem ix_seq:IxR X (rIx X.K):=ix_list.or (ix_tup.or ix_str)
theorem CG (its:List Value) (n j:Nat) (u:Value):Obj.mapSeq (·.setIfInBounds j u) {cls:=.type "list",data:=.seq its.toArray n}={cls:=.type "list",data:=.seq (its.set j u).toArray n}:=by
 simp [Obj.mapSeq]
theorem Inv.lst {pins:Vp} {σ:St} {H:Hp} {s:Shared} {p:Addr} {xs:List V} (I:Inv X pins σ H s) (h:H p=some (.lst xs)) :
  ∃(its:List Value) (n:Nat),Vals xs its/\s.heap.get? p=some {cls:=.type "list",data:=.seq its.toArray n}/\xs.length<=sizeLine:=by
 obtain ⟨z,its,n,r,e⟩:=I.hok p _ h;exact ⟨its,n,r,e,z⟩
theorem Inv.lstUpd {p:Addr} {n':Nat} {f:Obj->Obj} (I:Inv X pins σ H s) (h:H p=some (.lst xs))
  (ho:s.heap.get? p=some {cls:=.type "list",data:=.seq its.toArray n}) (hf:f {cls:=.type "list",data:=.seq its.toArray n}={cls:=.type "list",data:=.seq its'.toArray n'}) (r:Vals ys its') (hz:ys.length<=sizeLine) (t:Nat) :
  Inv X pins σ (upd H p (.lst ys)) {s with heap:=s.heap.update p f,toks:=t}:=by
 have e:(s.heap.update p f).get? p=some {cls:=.type "list",data:=.seq its'.toArray n'}:=by
  rw [Heap.get?_update_self f ho (by rw [hf]<;>rfl),hf]
 refine I.write (x:=p) (e:=p) (by rw [h];trivial) (.inl rfl) (fun b u hb q=>(Heap.get?_update_other _ _ (Ne.symm hb)).trans q) ⟨_,e⟩ ?_;exact ⟨hz,its',n',r,e⟩
noncomputable def rSetL:V->V->V->Hp->(Hp->Prop)->Prop:=fun o i v H Q=>∃p xs k j,o=.ref p/\i=.int k/\H p=some (.lst xs)/\ixN xs.length k=some j/\Q (upd H p (.lst (xs.set j v)))
theorem set_list:PSet X rSetL:=by
 intro pins s σ H o i v ov iv u Q I ro ri rv h;obtain ⟨p,xs,k,j,rfl,rfl,hp,hj,q⟩:=h;cases ro;obtain ⟨t,rfl⟩:=ri;obtain ⟨its,n,r,ho,hz⟩:=I.lst hp;obtain ⟨h1,h2,h3,h4⟩:=Ad hj;have hl:=r.length;have hn:=vN;have I':Inv X pins σ (upd H p (.lst (xs.set j v))) {s with heap:=s.heap.update p (Obj.mapSeq (·.setIfInBounds j u))}:=
  I.lstUpd hp ho (CG its n j u) (r.set rv j) (by rw [List.length_set];exact hz) s.toks
 by_cases h0:0<=k
 ·have hk:k.toNat=j:=by
   rw [seqIndex_of h0 h4] at h1;exact Option.some.inj h1
  exact PySem.W.ki_setAt ho h0 (by omega) (by rw [List.size_toArray,<- hl];exact h4) (by rw [hk];exact ⟨_,I',q⟩)
 ·have hk:(k+(its.toArray.size:Int)).toNat=j:=by
   rw [seqIndex_neg (by omega) h3] at h1;rw [List.size_toArray,<- hl];exact Option.some.inj h1
  exact PySem.W.ki_setBack ho (by omega) (by rw [List.size_toArray,<- hl];exact h3) (by omega) (by rw [hk];exact ⟨_,I',q⟩)
theorem yk (lo hi:Option Int) (n:Nat):(sliceBounds lo hi none n).1=((HT.sIx n 0 lo:Nat):Int)/\(sliceBounds lo hi none n).2.1=((HT.sIx n n hi:Nat):Int)/\(sliceBounds lo hi none n).2.2=1:=by
 refine ⟨?_,?_,rfl⟩
 ·cases lo with
  |none=>simp [sliceBounds,HT.sIx]
  |some i=>
   simp only [sliceBounds,HT.sIx,Option.getD_none,show (1:Int)>0 by decide,if_true];by_cases h:i<0
   ·simp only [h,if_true]<;>omega
   ·simp only [h,if_false]<;>omega
 ·cases hi with
  |none=>simp [sliceBounds,HT.sIx]
  |some i=>
   simp only [sliceBounds,HT.sIx,Option.getD_none,show (1:Int)>0 by decide,if_true];by_cases h:i<0
   ·simp only [h,if_true]<;>omega
   ·simp only [h,if_false]<;>omega
theorem wG (its:List Value) (lo hi:Option Int):slicePick its.toArray lo hi none=((its.drop (HT.sIx its.length 0 lo)).take (HT.sIx its.length its.length hi-HT.sIx its.length 0 lo)).toArray:=by
 obtain ⟨h1,h2,h3⟩:=yk lo hi its.toArray.size;unfold slicePick;rw [h1,h2,h3];simp only [sliceRange_one,pick_run,List.size_toArray]<;>rfl
noncomputable def rSlL (K:Pn):V->Option Int->Option Int->Hp->VK->Prop:=fun x lo hi H Q=>∃a xs,x=.ref a/\SqL K H a xs/\∀p,H p=none->Q (.ref p) (upd H p (.lst (cutV xs lo hi)))
theorem sl_list:SlR X (rSlL X.K):=by
 intro pins s σ H x v vl vu lo hi sl Q I rx hs pl pu h;obtain ⟨a,xs,rfl,hx,q⟩:=h;cases rx;obtain ⟨its,r,ht,hz⟩:=I.list hx;have hlen:=r.length;refine ⟨"list",_,slot_list_getitem.lookup,ht.isList.typeIs,?_⟩
 refine wpAny_getItem_list_slice ht.isList hs pl pu .none (by simp) ?_ (by rw [List.size_toArray]<;>omega);rw [wG,<- hlen];refine ⟨.ref s.heap.objs.size,_,I.laid (t':=s.toks) (o:=.lst (cutV xs lo hi)) (fun b ob q=>Heap.get?_push_of_some _ q) (Nat.le_refl _) ?_,rfl,q _ (I.hok.fresh (Nat.le_refl _))⟩
 exact ⟨Nat.le_trans (uN xs lo hi) hz,_,0,(r.drop (HT.sIx xs.length 0 lo)).take (HT.sIx xs.length xs.length hi-HT.sIx xs.length 0 lo),Heap.get?_push_size _ rfl⟩
noncomputable def flatV:V->Bool
 |.non=>true
 |.bl _=>true
 |.int _=>true
 |.str _=>true
 |_=>false
noncomputable def eqV:V->V->Bool
 |.non,.non=>true
 |.bl a,.bl b=>a==b
 |.bl a,.int b=>(if a then 1 else 0)==b
 |.int a,.bl b=>a==(if b then 1 else 0)
 |.int a,.int b=>a==b
 |.str a,.str b=>a==b
 |_,_=>false
theorem pE:dS X (.builtin "len") (fun xs H Q=>∃p ys,xs=[.ref p]/\(SqL X.K H p ys\/SqT X.K H p ys)/\Q (.int ys.length) H):=by
 intro pins s σ H xs us Q I r h;obtain ⟨p,ys,rfl,hq,q⟩:=h;obtain ⟨u,rfl,rx⟩:=vals1 r;cases rx;have hn:=vN;rcases hq with hq|hq
 ·obtain ⟨its,r',pl,hz⟩:=I.list hq;have hlen:=r'.length;exact Calls.call_len_list pl.isList (by simp only [List.size_toArray]<;>omega) ⟨.int ys.length,H,I.tok _,⟨s.toks+1,by rw [List.size_toArray,hlen]⟩,q⟩
 ·obtain ⟨its,r',pl,hz⟩:=I.tuple hq;have hlen:=r'.length;exact len_tuple pl (by simp only [List.size_toArray]<;>omega) ⟨.int ys.length,H,I.tok _,⟨s.toks+1,by rw [List.size_toArray,hlen]⟩,q⟩
theorem dS.or {f:Value} {r r':List V->Hp->VK->Prop} (h:dS X f r) (h':dS X f r'):dS X f (fun xs H Q=>r xs H Q\/r' xs H Q):=by
 intro pins s σ H xs us Q I rs q;rcases q with q|q
 ·exact h pins s σ H xs us Q I rs q
 ·exact h' pins s σ H xs us Q I rs q
theorem zm:dS X (.type "list") (fun xs H Q=>∃p ys,xs=[.ref p]/\(SqL X.K H p ys\/SqT X.K H p ys)/\∀l,H l=none->Q (.ref l) (upd H l (.lst ys))):=by
 intro pins s σ H xs us Q I r h;obtain ⟨p,ys,rfl,hq,q⟩:=h;obtain ⟨u,rfl,rx⟩:=vals1 r;cases rx;have fin:∀(its:List Value),Vals ys its->ys.length<=sizeLine->∀(h':Heap) (c':Nat),(∀b o',s.heap.get? b=some o'->h'.get? b=some o') ->
   h'.get? s.heap.objs.size=some {cls:=.type "list",dict:=none,data:=.seq its.toArray c',slots:=#[]}->EP X pins σ Q (.ref s.heap.objs.size) {s with heap:=h'}:=fun its r' hz h' c' kp e=>
  ⟨.ref s.heap.objs.size,_,I.laid (t':=s.toks) kp (Nat.le_refl _) (show fX X.prog X.w _ h' _ (.lst ys) from ⟨hz,its,c',r',e⟩),rfl,q _ (I.hok.fresh (Nat.le_refl _))⟩
 rcases hq with hq|hq
 ·obtain ⟨its,r',pl,hz⟩:=I.list hq;have hlen:=r'.length;obtain ⟨o,ho,hc,n,hd⟩:=pl.isList;exact call_list_seq p (.inl rfl) ho hc hd (fun h' c' kp e=>fin its r' hz h' c' kp e) (by simp only [List.size_toArray]<;>omega)
 ·obtain ⟨its,r',pl,hz⟩:=I.tuple hq;have hlen:=r'.length;obtain ⟨o,ho,hc,n,hd⟩:=pl;exact call_list_seq p (.inr rfl) ho hc hd (fun h' c' kp e=>fin its r' hz h' c' kp e) (by simp only [List.size_toArray]<;>omega)
noncomputable def tyV (K:Pn) (T:String) (x:V) (H:Hp):Prop:=match x with
 |.str _=>T="str"
 |.int _=>T="int"
 |.ref p=>(T="list"/\∃xs,SqL K H p xs)\/(T="tuple"/\∃o,K.lookup p=some o/\o.cls=.type "tuple"/\o.dict=none) \/
   (T="dict"/\((∃kvs,H p=some (.dK kvs))\/∃kvs,H p=some (.dT kvs)))\/(T="set"/\∃S n,H p=some (.set S n))
 |_=>False
theorem tyV_is {x:V} {v:Value} (I:Inv X pins σ H s) (r:RelV x v) (ty:tyV X.K T x H) :
  s.TypeIs v T/\∀a,v=.ref a->∃ob,s.heap.get? a=some ob/\ob.dict=none:=by
 cases x with
 |str z=>
  obtain ⟨t,rfl⟩:=r;cases (show T="str" from ty);exact ⟨typeIs_str s z t,fun _ e=>nomatch e⟩
 |int i=>
  obtain ⟨t,rfl⟩:=r;cases (show T="int" from ty);exact ⟨typeIs_int s i t,fun _ e=>nomatch e⟩
 |ref p=>
  cases r;rcases ty with ⟨rfl,xs,hq⟩|⟨rfl,o,hk,hc,hd⟩|⟨rfl,hk⟩|⟨rfl,S,n,hk⟩
  ·obtain ⟨its,_,pl,_⟩:=I.list hq;refine ⟨pl.isList.typeIs,fun a e=>?_⟩
   cases e;obtain ⟨o,n,e,c,hd,_⟩:=pl;exact ⟨o,e,hd⟩
  ·refine ⟨⟨o,I.kIn p o hk,hc⟩,fun a e=>?_⟩
   cases e;exact ⟨o,I.kIn _ o hk,hd⟩
  ·have z:∃o,s.heap.get? p=some o/\o.ExactDict:=by
    rcases hk with ⟨kvs,hk⟩|⟨kvs,hk⟩
    ·obtain ⟨_,_,_,_,o,_,_,e,ex,_⟩:=I.hok p _ hk;exact ⟨o,e,ex⟩
    ·obtain ⟨_,_,_,_,o,_,_,e,ex,_⟩:=I.hok p _ hk;exact ⟨o,e,ex⟩
   obtain ⟨o,e,ex⟩:=z;refine ⟨⟨o,e,ex.1⟩,fun a e2=>?_⟩
   cases e2;exact ⟨o,e,ex.2.1⟩
  ·obtain ⟨o,_,_,_,e,ex,_⟩:=I.hok p _ hk;refine ⟨⟨o,e,ex.1⟩,fun a e2=>?_⟩
   cases e2;exact ⟨o,e,ex.2.1⟩
 |_=>exact False.elim ty
noncomputable def tBM (K:Pn) (T:String) (r:V->List V->Hp->VK->Prop) (to:TE) (t:TA):TE:=fun σ H Q=>to σ H fun x H1=>tyV K T x H1/\t σ H1 fun xs H2=>r x xs H2 Q
variable {o:Expr} {es:List Expr} {to:TE} {t:TA} {name:Str} {apos cpos:Pos} {id:String} {r:V->List V->Hp->VK->Prop}
theorem pe_bm (pa:PlainAttrs T) (slot:Slot T name id) (hty:typeOf (.builtin id)=pure (.type "method_descriptor")) (hm:MtR X id r) (ho:PE X o to) (ha:PA X (e::es) t)
  (hbase:attributeBase o name X.env (eval o X.env)=eval o X.env:=by rfl)
  (hfew:((backTo cpos (starEach (e::es) X.env)).all (fun x=> !x.1)&&(backToKw cpos (keywordEach [] X.env)).all (fun x=>x.1.isSome)
   &&decide ((e::es).length+([]:List Keyword).length+(if ([]:List Keyword).isEmpty then 0 else 1)<30))=true:=by rfl)
  (hline:(apos.endLine==cpos.line)=true:=by rfl) (hs:starEach (e::es) X.env=(false,eval e X.env)::starEach es X.env:=by rfl) (hplain:(backTo cpos (starEach es X.env)).any (·.1)=false:=by rfl) :
  PE X (.Call (.Attribute o name apos) (e::es) [] cpos) (tBM X.K T r to t):=by
 intro pins s σ H Q I h;refine wpAny_Call_method_late hbase hfew hline rfl (thn (ho pins s σ H _ I h) fun v s1 ⟨x,H1,I1,r1,ty,q1⟩=>?_);obtain ⟨h1,h2⟩:=tyV_is I1 r1 ty;refine ⟨T,id,pa,slot,hty,h1,h2,?_⟩
 have hA:=ha cpos pins s1 σ H1 _ I1 q1;rw [hs] at hA ⊢;refine Calls.callWith_builtin (by show (false||(backTo cpos (starEach es X.env)).any (·.1))=false;rw [hplain]<;>rfl) (Calls.evalArgs_plain ?_);exact thn hA fun us s2 ⟨vs,H2,I2,r2,q2⟩=>hm pins s2 σ H2 x vs v us Q I2 r1 r2 q2
/- xs.append(e),list.index on a module's tuple .. are MtR facts of 06m -/
end
noncomputable def MtM (X:Cx) (id:String) (r:V->List V->Hp->VK->Prop):Prop:=
 ∀(pins:Vp) (s:Shared) (σ:St) (H:Hp) (x:V) (xs:List V) (v:Value) (us:List Value) (Q:VK),Inv X pins σ H s->RelV x v->Vals xs us->r x xs H Q ->
  wpAny (model X.prog X.w) X.A (call (.builtin id) (v::us)) (EP X pins σ Q) X.xe s
theorem Vals.one:∀{x:V} {us:List Value},Vals [x] us->∃u,us=[u]/\RelV x u
 |_,_,.cons r .nil=>⟨_,rfl,r⟩
theorem Vals.two:∀{x y:V} {us:List Value},Vals [x,y] us->∃u v,us=[u,v]/\RelV x u/\RelV y v
 |_,_,_,.cons r (.cons q .nil)=>⟨_,_,rfl,r,q⟩
theorem Vals.zero:∀{us:List Value},Vals [] us->us=[]
 |_,.nil=>rfl
theorem Vals.eraseIdx:∀{xs:List V} {us:List Value} (i:Nat),Vals xs us->Vals (xs.eraseIdx i) (us.eraseIdx i)
 |_,_,_,.nil=>.nil
 |_,_,0,.cons _ t=>t
 |_,_,i+1,.cons r t=>.cons r (Vals.eraseIdx i t)
theorem Vals.reverse {xs:List V} {us:List Value} (h:Vals xs us):Vals xs.reverse us.reverse:=by
 induction h with
 |nil=>exact .nil
 |cons r t ih=>rw [List.reverse_cons,List.reverse_cons];exact Vals.append ih (.cons r .nil)
theorem Vals.rep {xs:List V} {us:List Value} (h:Vals xs us):∀k:Nat,Vals (List.replicate k xs).flatten (List.replicate k us).flatten
 |0=>.nil
 |k+1=>by
  rw [List.replicate_succ,List.replicate_succ,List.flatten_cons,List.flatten_cons];exact Vals.append h (Vals.rep h k)
theorem yO {α:Type}:∀(l:List α) (i:Nat),(l.eraseIdx i).length<=l.length
 |[],_=>Nat.le_refl _
 |_::_,0=>Nat.le_succ _
 |_::r,i+1=>Nat.succ_le_succ (yO r i)
theorem foldl_rep (its:List Value):∀(k:Nat) (acc:List Value),
  List.foldl (fun x1 x2=>x1++x2) acc.toArray (List.replicate k its.toArray)=(acc++(List.replicate k its).flatten).toArray
 |0,acc=>by simp
 |k+1,acc=>by
  have e:acc.toArray++its.toArray=(acc++its).toArray:=by simp
  have e2:(acc++its)++(List.replicate k its).flatten=acc++(List.replicate (k+1) its).flatten:=by
   rw [List.replicate_succ,List.flatten_cons,List.append_assoc]
  rw [<- e2,<- foldl_rep its k (acc++its),<- e,List.replicate_succ,List.foldl_cons]
section
variable {l:Addr} 
theorem Inv.lset {f:Array Value->Array Value} {t':Nat} (I:Inv X pins σ H s) (hH:H l=some (.lst xs))
  (e:s.heap.get? l=some {cls:=.type "list",data:=.seq its.toArray n}) (hf:f its.toArray=its'.toArray) (hv:Vals ys its') (hz:ys.length<=sizeLine) :
  Inv X pins σ (upd H l (.lst ys)) {s with heap:=s.heap.update l (Obj.mapSeq f),toks:=t'}:=by
 have q:=PySem.IsL.update e f;rw [hf] at q;refine I.write (x:=l) (e:=l) (by rw [hH];exact trivial) (.inl rfl) (fun b' u hb hu=>(Heap.get?_update_other s.heap (Obj.mapSeq f) (Ne.symm hb)).trans hu) ⟨_,q⟩ ?_;exact ⟨hz,its',_,hv,q⟩
theorem Inv.lnew {t':Nat} (I:Inv X pins σ H s) (hv:Vals ys its) (hz:ys.length<=sizeLine) :
  Inv X pins σ (upd H s.heap.objs.size (.lst ys)) {s with heap:=s.heap.push {cls:=.type "list",data:=.seq its.toArray},toks:=t'}:=
 I.laid (fun _ _ q=>Heap.get?_push_of_some _ q) (Nat.le_refl _) ⟨hz,its,0,hv,Heap.get?_push_size _ rfl⟩
theorem Inv.fresh (I:Inv X pins σ H s):H s.heap.objs.size=none:=I.hok.fresh (Nat.le_refl _)
theorem Inv.lstM (I:Inv X pins σ H s) (hH:H l=some (.lst xs)):xs.length<=sizeLine/\∃(its:List Value) (n:Nat),Vals xs its/\xs.length=its.length/\s.heap.get? l=some {cls:=.type "list",data:=.seq its.toArray n}:=by
 obtain ⟨z,its,n,r,e⟩:=I.hok l _ hH;exact ⟨z,its,n,r,r.length,e⟩
theorem notLongL (h:n<=sizeLine):Builtin.List.listTooLong n=false:=by
 unfold Builtin.List.listTooLong;exact decide_eq_false (by omega)
end
section
noncomputable def DN:V->List V->Hp->VK->Prop:=fun x vs H Q=>∃l xs y,x=.ref l/\vs=[y]/\H l=some (.lst xs)/\xs.length<sizeLine/\Q .non (upd H l (.lst (xs++[y])))
theorem Er:MtM X "list.append" DN:=by
 intro pins s σ H x vs v us Q I rx rv h;obtain ⟨l,xs,y,rfl,rfl,hH,hz,q⟩:=h;cases rx;obtain ⟨u,rfl,ru⟩:=rv.one;obtain ⟨z,its,n,r,hl,e⟩:=I.lstM hH;refine call_meets F.slot_list_append ⟨_,e,rfl⟩ F.entry_list_append (F.args_list_append_2 _ _) (PySem.list_append l its.toArray n u (by rw [List.size_toArray];omega)) ⟨e,?_⟩;refine ⟨.non,_,I.lset (its':=its++[u]) hH e (by simp) (r.append (.cons ru .nil)) ?_,rfl,q⟩
 rw [List.length_append,List.length_singleton];omega
noncomputable def rPopAt:V->List V->Hp->VK->Prop:=fun x vs H Q=>∃l xs i k y,x=.ref l/\vs=[.int i]/\H l=some (.lst xs)/\ -(2^63)<=i/\i<2^63/\seqIndex? i xs.length=some k/\xs[k]? =some y/\Q y (upd H l (.lst (xs.eraseIdx k)))
theorem mt_popAt:MtM X "list.pop" rPopAt:=by
 intro pins s σ H x vs v us Q I rx rv h;obtain ⟨l,xs,i,k,y,rfl,rfl,hH,h1,h2,hk,hy,q⟩:=h;cases rx;obtain ⟨u,rfl,ru⟩:=rv.one;obtain ⟨t,rfl⟩:=ru;obtain ⟨z,its,n,r,hl,e⟩:=I.lstM hH;obtain ⟨w,hw,rw'⟩:=r.get hy;refine call_meets F.slot_list_pop ⟨_,e,rfl⟩ F.entry_list_pop (F.args_list_pop_2 _ _)
  (MeetsSeq.list_pop_at l its.toArray n i t k w (fitsIndex_both h1 h2) (by rw [List.size_toArray,<- hl];exact hk) (by rw [<- Array.getElem?_toList];exact hw) (by rw [List.size_toArray];omega)) ⟨e,?_⟩
 refine ⟨y,_,I.lset (its':=its.eraseIdx k) hH e ?_ (r.eraseIdx k) ?_,rw',q⟩
 ·show its.toArray.eraseIdxIfInBounds k=(its.eraseIdx k).toArray;rw [List.eraseIdxIfInBounds_toArray]
 ·have:=yO xs k;omega
noncomputable def rRep:R2:=fun x y H Q=>∃l k xs,x=.ref l/\y=.int k/\H l=some (.lst xs)/\ -(2^63)<=k/\k<2^63/\xs.length*k.toNat<=sizeLine /\
 ∀p,H p=none->Q (.ref p) (upd H p (.lst (List.replicate k.toNat xs).flatten))
theorem len_rep (xs:List α) (k:Nat):(List.replicate k xs).flatten.length=k*xs.length:=by
 induction k with
 |zero=>simp
 |succ k ih=>rw [List.replicate_succ,List.flatten_cons,List.length_append,ih,Nat.succ_mul,Nat.add_comm]
theorem op_rep:OpR X (binaryOp .Mult) rRep:=by
 intro pins s σ H x y v u Q I rx ry h;obtain ⟨l,k,xs,rfl,rfl,hH,h1,h2,hz,q⟩:=h;cases rx;obtain ⟨t,rfl⟩:=ry;obtain ⟨z,its,n,r,hl,e⟩:=I.lstM hH;have hlen:its.toArray.size*k.toNat<=sizeLine:=by rw [List.size_toArray,<- hl];exact hz
 have hcap:¬its.toArray.size*k.toNat>(2^63-1)/8:=by
  have:(sizeLine:Nat)<=(2^63-1)/8:=by decide
  omega
 have hfit:¬(!Builtin.List.listFitsIndex k)=true:=by
  rw [fitsIndex_both h1 h2];exact Bool.false_ne_true
 have hlong:¬Builtin.List.listTooLong (its.toArray.size*k.toNat)=true:=by
  rw [notLongL hlen];exact Bool.false_ne_true
 have hnew:List.foldl (fun x1 x2=>x1++x2) #[] (List.replicate (if its.toArray.isEmpty=true then 0 else k.toNat) its.toArray)=(List.replicate k.toNat its).flatten.toArray:=by
  have f0:∀m:Nat,List.foldl (fun x1 x2=>x1++x2) #[] (List.replicate m its.toArray)=(List.replicate m its).flatten.toArray:=fun m=>by
   have:=foldl_rep its m [];rw [List.nil_append] at this;exact this
  rw [f0];cases its with
  |nil=>simp
  |cons a r'=>rw [if_neg (by simp)]
 refine wpAny_binaryOp_repeat_ref (T:="list") (U:="int") (by decide) ⟨_,e,rfl⟩ (fun s'=>typeIs_int s' k t) noFill_list_mul F.fills_int_mul F.slot_int_rmul repeat_list F.slot_int_index.lookup
  (call_meets F.slot_int_rmul (typeIs_int s k t) F.entry_int_rmul (F.args_int_rmul_2 _ _) (int___rmul___int_list k t l its.toArray n)
   ⟨e,rfl,⟨_,e,rfl⟩,call_meets F.slot_list_mul ⟨_,e,rfl⟩ F.entry_list_mul (F.args_list_mul_2 _ _) (AutoListH.list___mul___list_int_3 l its.toArray n k t hfit hcap hlong) ⟨e,?_⟩⟩)
 rw [hnew];exact ⟨.ref _,_,I.lnew (t':=s.toks) (r.rep k.toNat) (by rw [len_rep,Nat.mul_comm];exact hz),rfl,q _ I.fresh⟩
end
end L2
namespace Att
open PySem PySem.W PySem.Calls PyProof.Rows
theorem uv {P:Params} {h:Heap}:∀(ns:List Int) (vs:List Value),WellAll P h vs (ns.map WData.int)->IntsAre vs ns:=by
 intro ns
 induction ns with
 |nil=>
  intro vs w;rw [List.map_nil] at w;cases w;exact .nil
 |cons n ns ih=>
  intro vs w;rw [List.map_cons] at w;cases w with
  |cons a b=>
   cases a;exact .cons _ _ (ih _ b)
theorem DF {l:OpenLaw} {n:Nat} (hn:l.most=some n) {P:Params} {h:Heap} {args:List WData} {vals:List Value}
  (hpre:l.row.toRowW.claim.pre args=true) (hwl:WellAll P h vals args) :
  ∃a vs ns,vals=[Value.ref a]/\args=[WData.list (ns.map WData.int)]/\h.get? a=some {cls:=.type "list",data:=.seq vs.toArray}/\IntsAre vs ns/\ns.length<=n:=by
 have hsh:WShape.hasAll [] args [.list .int]=true:=(pre_splitW hpre).1;have hc:l.pre.holds [] {args:=args}=true:=(pre_splitW hpre).2;obtain ⟨d,r,rfl,h1,h2⟩:=hasAllW_cons hsh;obtain rfl:=hasAllW_nil h2;obtain ⟨xs,rfl,h3⟩:=hasW_list h1;obtain ⟨ns,rfl⟩:=items_int h3;have hlen:ns.length<=n:=by
  unfold OpenLaw.pre at hc;have h4:(WTm.not (.lt (.lit (.int (n:Int))) (.len (.arg 0)))).holds [] {args:=[.list (ns.map .int)]}=true:=by
   have h4:=(holds_andW hc).1;rw [hn] at h4;exact h4
  have h5:=condW_of h4 (w_not (w_lt w_lit (w_len_list (w_arg rfl))));rw [List.length_map] at h5;refine Nat.le_of_not_lt fun q=>?_;have q':(n:Int)<((ns.length:Nat):Int):=by omega
  first
   |(rw [decide_eq_true q'] at h5;exact absurd h5 (by decide))
   |(simp at h5;omega)
 cases hwl with
 |cons w1 w2=>
  cases w2;cases w1 with
  |list ho hall=>exact ⟨_,_,ns,rfl,rfl,ho,uv ns _ hall,hlen⟩
theorem E3 (l:OpenLaw) (args:List WData):l.row.toRowW.claim.post args (.bool true) args=true:=
 postW_of (r:=l.row.toRowW) (X:=(true==true))
  (show WShape.has [] (.bool true) .bool=true by first|rfl|decide|simp [WShape.has,WShape.arms,WShape.armsAll])
  (show (WTm.eq .res (.lit (.bool true))).value [] {args:=args,res:=some (.bool true),after:=args}=some (.bool (true==true)) from w_eq_bool (w_res rfl) w_lit) rfl
theorem AR {l:OpenLaw} {n:Nat} {q:Program} {loose:List Str} {XP:(Ld)->Heap->Prop} {YP:World->Heap->Prop} {d:DefRec}
  (hn:l.most=some n) (hdf:d.params.defaults=[])
  (call:∀(w:World) (s₀ s₁:Shared) (mg mb:Ld) (fa:Addr) (o:Obj) (pm cd doc:Value) (a:Addr) (vs:List Value) (ns:List Int),
   Ground q loose [] XP w s₀ mg mb s₁.heap->YP w s₁.heap ->
   s₁.heap.get? fa=some o->o.data=.func (docDef d.name d.params d.body d.scope pm cd doc)->s₁.heap.CodeRec cd d.name->mg d.name=some (.ref fa) ->
   s₁.heap.get? a=some {cls:=.type "list",data:=.seq vs.toArray}->IntsAre vs ns->ns.length<=n->s₁.gens=#[] ->
   codeAny (model l.prog w) callerA (.call (.ref fa) ⟨[.ref a],[]⟩) (fun r s'=>r=.ok (.ret (.bool true))/\OldK s₁.heap s'.heap/\s'.os=s₁.os/\AllBare s'.gens) s₁) :
  WalkO q loose XP YP l.row.toRowW d [] (fun f vs=>PySem.call f vs):=by
 intro w s₀ s₁ mg mb G Y fa o pm cd doc dV kV ho hd hcd hD hmg hg args vals as hpre hlay hrd hwl hlo;obtain rfl:dV=.none:=Dflts.none hD hdf;obtain rfl:kV=.none:=Dflts.noKw hD;obtain ⟨a,vs,ns,rfl,rfl,hobj,hints,hlen⟩:=DF hn hpre hwl;refine enter_call (codeAny_mono (call w s₀ s₁ mg mb fa o pm cd doc a vs ns G Y ho (fd_plain hd) hcd hmg hobj hints hlen hg) fun r s' hq=>?_);obtain ⟨rfl,h2,h3,h4⟩:=hq;exact ⟨.inl ⟨.bool true,.bool true,[],rfl,fun _=>rfl,.bool true,E3 l _,fun _=>⟨List.Pairwise.nil,fun _ hm=>(nomatch hm)⟩⟩,h2,h3,h4⟩
section
variable {prog:Program} {w:World} {A:Around} {E:Mq} {s:Shared} {K:Frag}
theorem make_obj {R:Result->Shared->Prop} {C fI:Addr} {rest:List Value} {kw:List (Str×Value)}
  (X:K.In s.heap) (hm:makesIn K C=true) (hi:findIn K (.ref C) "__init__"=some (some (.ref fI))) (hf:isFn K (.ref fI)=true)
  (h:codeAny (model prog w) (A.under (.builtin "type.__call__" ⟨.ref C::rest,kw⟩)) (.call (.ref fI) ⟨.ref (s.heap.objs.size+1)::rest,kw⟩) (InitBack (s.heap.objs.size+1) R)
   {s with heap:=(s.heap.push emptyDict).push (instObj C s.heap.objs.size)}):codeAny (model prog w) A (.call (.ref C) ⟨rest,kw⟩) R s:=by
 obtain ⟨hh,g,d,t,os⟩:=s;exact make_core (makes_of X hm) (looks_findIn X hi) (fun self=>bind_fn X self (beq_iff_eq.mp hf)) (.inl rfl) h
theorem get_field {x C:Addr} {ox:Obj} {es:List DictEntry} {n:Nat} {name:Str} {expr:Bool} {v:Value} {Q:Mq}
  (X:K.In s.heap) (I:PySem.W.InstAt s.heap x ox C (some (dictOf es n))) (hg:plainGet K C name=true) (hh:hasDictIn K C=true) (ha:findIn K (.ref C) name=some none)
  (hl:getL name es=some (some v)) (hv:handedIn v=true) (h:Q v {s with toks:=s.toks+1}):wpAny (model prog w) A (getAttr (.ref x) name expr) Q E s:=
 get_value X I (plainGet_of hg).1 (findObj_own hh ha rfl hl) hv h
end
end Att
namespace L2
open PySem PySem.Spec PyProof.Rows
variable {P prog:Program} {w:World} {K:Pn} {mg mA:Ld} {CX:CXT} {k n j i nN nrem nN2 n2:Nat} {a l L C m fad fI z Cb C1:Addr} {fd fdI:FuncData} {x qual y nm:Str} {sp:Sp} {vs:Array Value} {X:Cx} {st b₀:Stmt} {ps N' N sn:List Str} {oc doc pm cdv ct u r' k' a' b' hv cd:Value} {od an dx hd dd:Option Addr} {osl:Array (Option Value)} {pos spos py p apos r pos' q p2 p1 np cpos hpos:Pos} {A:Around} {B T newId initId:String} {H H1 H2 H' F H0 F' F1 F0 FB G:Hp} {b c elt tg iter e e1 e2:Expr} {scope sc:Scope} {env:Env} {E:Mq} {s s':Shared} {pins:Vp} {σ:St} {ix:List (Option Nat)} {fp ch:List Addr} {h1 h h':Heap} {R:Bool->Hp->Prop} {ifs es elts:List Expr} {tt:TT} {te ta tb:TE} {xs dvs ys:List V} {us its bmB tl sub:List Value} {cs:List (Str×Addr)} {t:TS} {pl:Sem Bool} {v:V} {o o':HO} {Q:Unit->Shared->Prop} {lo hi:Int} {O O2 OL O':List Nat} {ro bn mark hdct ab:Bool} {D:Ends} {α β:Type} {op op':CmpOp} {body suite:List Stmt} {tk:Tok} {key:Nat->Int} {outer:List Env} {oe:Obj} {os:OsState} {col:Option Bool} {k0 k1 k2 k3 k5:Option Value}
theorem xY:∀{vs:List Value} {ns:List Int},IntsAre vs ns->Vals (ns.map V.int) vs
 |_,_,.nil=>.nil
 |_,_,.cons n t h=>.cons ⟨t,rfl⟩ (xY h)
noncomputable def Only (H:Hp):Prop:=∀b,H b=none\/∃o xs,H b=some (.frz o (.lst xs))
theorem law_call {mb:Ld} {fa:Addr} {s₁:Shared} {vs:List Value} {ns:List Int}
  (KX:K.In s₁.heap) (hns:s₁.heap.Ns mainGlobals mg) (hb:s₁.heap.Ns builtinsNs mb) (hbb:∀x:Str,x≠"__name__"->mb x=bootBuiltins x) (hlim:s₁.heap.NoLimit) (hg:s₁.gens=#[])
  (ha:s₁.heap.get? a=some {cls:=.type "list",data:=.seq vs.toArray}) (hi:IntsAre vs ns) (hl:ns.length<=sizeLine) (hr:mz k callerA)
  (F:∀base:Heap,K.In base->base.Ns mainGlobals mg->cm P w K mg base CX k fa fd [x] sp) (hbind:∀(s:Shared) (u:Value),BindsTo s fd ⟨[u],[]⟩ [(x,u)])
  (hsp:∀H:Hp,Only H->SqL K H a (ns.map V.int)->sp [.ref a] H (fun v _=>v=.bl true) fun _ _ _=>False)
  (hCX:∀H e s',CX [] H s₁ (fun _ _ _=>False) e s'->False) :
  codeAny (model P w) callerA (.call (.ref fa) ⟨[.ref a],[]⟩) (fun r s'=>r=.ok (.ret (.bool true))/\OldK s₁.heap s'.heap/\s'.os=s₁.os/\AllBare s'.gens) s₁:=by
 have rv:=xY hi;have lenV:=hi.length;have core:∀H:Hp,Only H->SqL K H a (ns.map V.int)->HOk P w H s₁.heap->(∀b,H b≠none->b=a)->(H a≠none->K.lookup a=none) ->
   codeAny (model P w) callerA (.call (.ref fa) ⟨[.ref a],[]⟩) (fun r s'=>r=.ok (.ret (.bool true))/\OldK s₁.heap s'.heap/\s'.os=s₁.os/\AllBare s'.gens) s₁:=by
  intro H hO hS hok hA hK;have base_of:∀{b:Addr} {o:Obj},s₁.heap.get? b=some o->H b=none->(hidT s₁.heap H).get? b=some o:=fun e n=>hidT_get e n;have noA:∀{b:Addr} {o:Obj} {es:Array DictEntry} {ep:Nat},s₁.heap.get? b=some o->o.data=.dict es ep->H b=none:=fun {b o es ep} e d=>by
   cases q:H b with
   |none=>rfl
   |some u=>
    have e':b=a:=hA b (by rw [q];simp);subst e';rw [ha] at e;cases e;have d':Data.seq vs.toArray _=Data.dict es ep:=d;cases d'
  have nsK:∀{b:Addr} {m:Ld},s₁.heap.Ns b m->(hidT s₁.heap H).Ns b m:=fun {b m} ⟨o,es,ep,e,d,r⟩=>⟨o,es,ep,base_of e (noA e d),d,r⟩
  have hKb:K.In (hidT s₁.heap H):=fun b o e=>base_of (KX b o e) (by
   cases q:H b with
   |none=>rfl
   |some u=>
    have e':b=a:=hA b (by rw [q];simp);subst e';rw [hK (by rw [q];simp)] at e;cases e)
  have hM:Mod K mg (hidT s₁.heap H):=⟨hKb,nsK hns,⟨mb,nsK hb,hbb⟩,let ⟨mc,h1,h2⟩:=hlim;⟨mc,nsK h1,h2⟩⟩
  have e0:Env0 P w K mg (hidT s₁.heap H) callerA [] s₁ H:=⟨rfl,hM,fun b o e=>of_hidT e,Nat.le_of_eq (EK _ _),trivial,fun b hb=>absurd (show b∈([]:List Addr) from hb) (by simp),hok,.of_eq hg⟩
  refine codeAny_mono ((F _ hKb (nsK hns)).run callerA [] s₁ H ⟨[.ref a],[]⟩ [.ref a] [.ref a] _ _ hr e0 (hbind s₁ (.ref a)) (.cons rfl .nil) (hsp H hO hS)) fun r s' h=>?_;cases r with
  |error e=>exact (hCX H e s' h).elim
  |ok fl=>
   cases fl with
   |next=>exact False.elim h
   |brk=>exact False.elim h
   |cont=>exact False.elim h
   |ret u=>
    obtain ⟨v,H',os,bare,un,hok',r',q⟩:=h;have q':v=.bl true:=q;subst q';obtain rfl:u=Value.bool true:=r';refine ⟨rfl,OldK.of_keep fun b o e=>?_,os,bare⟩
    cases q:H b with
    |none=>exact un.keep b o e q (by intro z;exact absurd (show b∈([]:List Addr) from z) (by simp)) (by simp)
    |some u=>
     rcases hO b with z|⟨ob,xs,z⟩
     ·rw [q] at z;cases z
     ·have z2:=un.frzs b ob _ z;obtain ⟨e1,_⟩:=hok b _ z;obtain ⟨e2,_⟩:=hok' b _ z2;rw [e] at e1;cases e1;exact e2
 cases hk:K.lookup a with
 |some o=>
  have e:=KX a o hk;rw [ha] at e;cases e;refine core (fun _=>none) (fun _=>.inl rfl) (.inr ⟨_,vs.toArray,_,hk,rfl,rfl,rfl,by rw [List.size_toArray,lenV];exact hl,by simpa using rv⟩) (fun b u z=>by have z':(none:Option HO)=some u:=z;cases z') (fun b z=>absurd rfl z) fun z=>absurd rfl z
 |none=>
  refine core (fun b=>if b=a then some (.frz {cls:=.type "list",data:=.seq vs.toArray} (.lst (ns.map V.int))) else none) (fun b=>?_) (.inl (.inr ⟨{cls:=.type "list",data:=.seq vs.toArray},if_pos rfl⟩)) (fun b u z=>?_) (fun b z=>?_) fun _=>hk
  ·by_cases hb:b=a
   ·exact .inr ⟨_,_,if_pos hb⟩
   ·exact .inl (if_neg hb)
  ·by_cases hb:b=a
   ·have z':=(if_pos hb).symm.trans z;cases z';subst hb;exact ⟨ha,by rw [List.length_map];exact hl,vs,_,rv,ha⟩
   ·have z':=(if_neg hb).symm.trans z;cases z'
  ·by_cases hb:b=a
   ·exact hb
   ·exact absurd (if_neg hb) z
theorem walk_of {l:PySem.W.OpenLaw} {q:Program} {loose:List Str} {XP:(Ld)->Heap->Prop} {YP:World->Heap->Prop} {d:DefRec} {K:Params->Pn} {CX:World->CXT} {sp:World->Sp} 
  (hn:l.most=some n) (hn2:n<=sizeLine) (hdf:d.params.defaults=[]) (hr:mz k callerA)
  (hY:∀(w:World) (h:Heap),YP w h->(K w.params).In h)
  (F:∀(w:World) (mg:Ld) (fa:Addr) (h:Heap),(K w.params).In h->h.Ns mainGlobals mg->mg d.name=some (.ref fa) ->
   ∃fd:FuncData,(∀(s:Shared) (u:Value),BindsTo s fd ⟨[u],[]⟩ [(x,u)]) /\
    ∀base:Heap,(K w.params).In base->base.Ns mainGlobals mg->cm l.prog w (K w.params) mg base (CX w) k fa fd [x] (sp w))
  (hsp:∀(w:World) (H:Hp) (a:Addr) (ns:List Int),ns.length<=n->Only H->SqL (K w.params) H a (ns.map V.int)->sp w [.ref a] H (fun v _=>v=.bl true) fun _ _ _=>False)
  (hCX:∀(w:World) (H:Hp) (s:Shared) (e:Value) (s':Shared),CX w [] H s (fun _ _ _=>False) e s'->False) :
  PySem.W.WalkO q loose XP YP l.row.toRowW d [] (fun f vs=>PySem.call f vs):=by
 refine Att.AR hn hdf fun w s₀ s₁ mg mb fa o pm cd doc a vs ns G Y ho hd hcd hmg hobj hints hlen hg=>?_;have KX:=hY w _ Y;obtain ⟨fd,hb,hF⟩:=F w mg fa _ KX G.T.g hmg;exact law_call KX G.T.g G.T.b G.T.builtins G.T.nolimit hg hobj hints (Nat.le_trans hlen hn2) hr hF hb (fun H hO hS=>hsp w H a ns hlen hO hS) fun H e s'=>hCX w H s₁ e s'
noncomputable def inClass (s:Stmt) (j:Nat):Stmt:=match s with
 |.ClassDef _ _ _ body _ _ _ _ _ _ _=>body.getD j (.Pass ⟨0,0,0,0⟩)
 |_=>.Pass ⟨0,0,0,0⟩
noncomputable def eW (s:Stmt):Arguments:=match s with
 |.FunctionDef _ a _ _ _ _ _ _ _ _=>a
 |_=>{posonlyargs:=[],args:=[],vararg:=none,kwonlyargs:=[],kw_defaults:=[],kwarg:=none,defaults:=[]}
noncomputable def dq (s:Stmt):List Stmt:=match s with
 |.FunctionDef _ _ b _ _ _ _ _ _ _=>b
 |_=>[]
noncomputable def aq (s:Stmt):Scope:=match s with
 |.FunctionDef _ _ _ _ _ _ sc _ _ _=>sc
 |_=>{kind:=.function,names:=[],isGenerator:=false,isCoroutine:=false}
noncomputable abbrev CX0:CXT:=fun _ _ _ _ _ _=>False
noncomputable abbrev E0:XK:=fun _ _ _=>False
theorem A4:Passes CX0 X E0:=fun _ _ _ _ _ _ _ h=>h.elim
structure Fun (K:Pn) (x qual:Str) (st:Stmt) (f:Addr) (fd:FuncData):Prop where
 ex:∃(oc:Value) (od:Option Addr) (kV doc pm:Value) (an:Option Addr) (cdv ct:Value) (osl:Array (Option Value)),
  fd=fnOf x qual (eW st) (dq st) (aq st) .none kV doc pm an cdv ct/\K.lookup f=some ⟨oc,od,.func fd,osl⟩/\codeIn K cdv qual=true
 kp:keepIn K (.ref f)=true
section
theorem Fun.binds {f:Addr} (F:Fun K x qual st f fd)
  (h:∀(kV doc pm:Value) (an:Option Addr) (cdv ct:Value) (us:List Value),us.length=ps.length->bindArgs (fnOf x qual (eW st) (dq st) (aq st) .none kV doc pm an cdv ct) ⟨us,[]⟩=pure (ps.zip us)):Binds K fd ps []:=by
 obtain ⟨oc,od,kV,doc,pm,an,cdv,ct,osl,rfl,lk,hcd⟩:=F.ex;exact .all (h kV doc pm an cdv ct)
theorem BC {f:Addr} {kV:Value} (l:K.lookup f=some ⟨oc,od,.func (fnOf x qual (eW st) (dq st) (aq st) .none kV doc pm an cdv ct),osl⟩)
  (c:codeIn K cdv qual=true) (k:keepIn K (.ref f)=true):Fun K x qual st f (fnOf x qual (eW st) (dq st) (aq st) .none kV doc pm an cdv ct):=⟨⟨oc,od,kV,doc,pm,an,cdv,ct,osl,rfl,l,c⟩,k⟩
end
section
theorem pv (i:Nat) (hN:X.N[i]? =some x:=by rfl) (hv:Vis X.env.scope x:=by first|exact Or.inl rfl|exact Or.inr (Or.inl rfl)|exact Or.inr (Or.inr rfl)) (hd:(x==("__debug__":Str))=false:=by decide)
  (hcd:(x==("__classdict__":Str))=false:=by decide):PE X (.Name x pos) (tVar i):=pe_var hN hv hd hcd
end
theorem iteF {A B:Prop} (h:B):if false=true then A else B:=by
 rw [if_neg Bool.false_ne_true];exact h
theorem iteNS {c A B:Prop} [Decidable c] (hc:c) (h:B):if (!decide c)=true then A else B:=by
 rw [decide_eq_true hc];exact iteF h
noncomputable def b9 (H H':Hp):Prop:=∀b o,H b=some o->H' b=some o
theorem b9.refl (H:Hp):b9 H H:=fun _ _ h=>h
theorem b9.trans (a:b9 H H1) (b:b9 H1 H2):b9 H H2:=fun c o h=>b c o (a c o h)
theorem b9.free (e:b9 H H') (h:H' l=Option.none):H l=Option.none:=by
 cases q:H l with
 |none=>rfl
 |some o=>
  rw [e l o q] at h;cases h
noncomputable def wa (cells:List (Str×Addr)):List (Str×NameKind)->List (Str×Addr)->List (Str×Addr)
 |[],acc=>acc
 |(x,k)::r,acc=>wa cells r (if (k==NameKind.free)=true then (x,(cells.lookup x).getD 0)::acc else acc)
theorem gt_ne {b c:Addr} (h1:b<a) (h2:a<c):c≠b:=by
 rintro rfl;exact absurd (Nat.lt_trans h1 h2) (Nat.lt_irrefl _)
theorem CJ {b:Addr} (h1:a<n) (h2:n<=b):a≠b:=by
 rintro rfl;exact absurd (Nat.lt_of_lt_of_le h1 h2) (Nat.lt_irrefl _)
theorem w9 {cells:List (Str×Addr)} {x:Str} {c:Addr}:∀(ns:List (Str×NameKind)) (acc:List (Str×Addr)),(wa cells ns acc).lookup x=some c ->
  ((x,NameKind.free)∈ns/\c=(cells.lookup x).getD 0)\/acc.lookup x=some c
 |[],_,h=>.inr h
 |(y,k)::r,acc,h=>by
  unfold wa at h;rcases w9 r _ h with ⟨m,e⟩|q
  ·exact .inl ⟨List.mem_cons_of_mem _ m,e⟩
  ·by_cases hk:(k==NameKind.free)=true
   ·rw [if_pos hk,List.lookup_cons] at q;cases hy:x==y with
    |true=>
     rw [hy] at q;have e1:=eq_of_beq hy;have e2:=eq_of_beq hk;subst e1 e2;exact .inl ⟨List.mem_cons_self,(Option.some.inj q).symm⟩
    |false=>rw [hy] at q;exact .inr q
   ·rw [if_neg hk] at q;exact .inr q
theorem uQ {cells:List (Str×Addr)} {x:Str}:∀(ns:List (Str×NameKind)) (acc:List (Str×Addr)),((x,NameKind.free)∈ns\/(acc.lookup x).isSome=true)->((wa cells ns acc).lookup x).isSome=true
 |[],_,h=>h.elim (fun z=>nomatch z) id
 |(y,k)::r,acc,h=>by
  unfold wa;refine uQ r _ ?_;rcases h with h|h
  ·rcases List.mem_cons.mp h with e|h
   ·cases e;refine .inr ?_;rw [if_pos (by decide),List.lookup_cons];simp
   ·exact .inl h
  ·refine .inr ?_;by_cases hk:(k==NameKind.free)=true
   ·rw [if_pos hk,List.lookup_cons];cases hy:x==y with
    |true=>rfl
    |false=>exact h
   ·rw [if_neg hk];exact h
theorem rm {x:Str} {c:Addr}:∀(ns:List (Str×NameKind)) (n:Nat) (acc:List (Str×Addr)),(cellsFrom n ns acc).lookup x=some c->(n<=c/\(x,NameKind.cell)∈ns)\/acc.lookup x=some c
 |[],_,_,h=>.inr h
 |(y,k)::r,n,acc,h=>by
  unfold cellsFrom at h;by_cases hk:(k==NameKind.cell)=true
  ·rw [if_pos hk] at h;rcases rm r (n+1) _ h with ⟨a,m⟩|q
   ·exact .inl ⟨by omega,List.mem_cons_of_mem _ m⟩
   ·rw [List.lookup_cons] at q;cases hy:x==y with
    |true=>
     rw [hy] at q;have e1:=eq_of_beq hy;have e2:=eq_of_beq hk;have e3:=Option.some.inj q;subst e1 e2 e3;exact .inl ⟨Nat.le_refl _,List.mem_cons_self⟩
    |false=>rw [hy] at q;exact .inr q
  ·rw [if_neg hk] at h;rcases rm r n acc h with ⟨a,m⟩|q
   ·exact .inl ⟨a,List.mem_cons_of_mem _ m⟩
   ·exact .inr q
theorem uR:∀(ns:List (Str×NameKind)) (n:Nat) (acc:List (Str×Addr)),(∀x y c,acc.lookup x=some c->acc.lookup y=some c->x=y)->(∀x c,acc.lookup x=some c->c<n) ->
  ∀x y c,(cellsFrom n ns acc).lookup x=some c->(cellsFrom n ns acc).lookup y=some c->x=y
 |[],_,_,hi,_=>hi
 |(z,k)::r,n,acc,hi,hl=>by
  unfold cellsFrom;by_cases hk:(k==NameKind.cell)=true
  ·rw [if_pos hk];refine uR r (n+1) _ (fun x y c h1 h2=>?_) (fun x c h1=>?_)
   ·rw [List.lookup_cons] at h1 h2;cases hx:x==z with
    |true=>
     rw [hx] at h1;have e1:=Option.some.inj h1;cases hy:y==z with
     |true=>rw [eq_of_beq hx,eq_of_beq hy]
     |false=>
      rw [hy] at h2;have h3:=hl y c h2;rw [<- e1] at h3;exact absurd h3 (Nat.lt_irrefl _)
    |false=>
     rw [hx] at h1;cases hy:y==z with
     |true=>
      rw [hy] at h2;have e2:=Option.some.inj h2;have h3:=hl x c h1;rw [<- e2] at h3;exact absurd h3 (Nat.lt_irrefl _)
     |false=>
      rw [hy] at h2;exact hi x y c h1 h2
   ·rw [List.lookup_cons] at h1;cases hx:x==z with
    |true=>
     rw [hx] at h1;have e1:=Option.some.inj h1;rw [<- e1];exact Nat.lt_succ_self _
    |false=>
     rw [hx] at h1;exact Nat.lt_succ_of_lt (hl x c h1)
  ·rw [if_neg hk];exact uR r n acc hi hl
theorem su {x:Str} {c:Addr}:∀(ns:List (Str×NameKind)) (h:Heap) (acc:List (Str×Addr)),(cellsFrom h.objs.size ns acc).lookup x=some c ->
  acc.lookup x=some c\/(h.objs.size<=c/\(pushCells h ns).IsCell c none)
 |[],_,_,e=>.inl e
 |(y,k)::r,h,acc,e=>by
  unfold cellsFrom at e;unfold pushCells;by_cases hk:(k==NameKind.cell)=true
  ·rw [if_pos hk] at e ⊢;have q:=su (x:=x) (c:=c) r (h.push {cls:=.type "cell",data:=.cell none}) ((y,h.objs.size)::acc) (by rw [Heap.size_push];exact e);rcases q with q|⟨q1,q2⟩
   ·rw [List.lookup_cons] at q;cases hy:x==y with
    |true=>
     rw [hy] at q;have e1:=Option.some.inj q;subst e1;exact .inr ⟨Nat.le_refl _,Heap.IsCell.keeps ⟨_,Heap.get?_push_size _ rfl,rfl⟩ (pushCells_keeps r _)⟩
    |false=>rw [hy] at q;exact .inl q
   ·rw [Heap.size_push] at q1;exact .inr ⟨by omega,q2⟩
  ·rw [if_neg hk] at e ⊢;exact su r h acc e
theorem sI {env:Env} (f:Str×NameKind->List (Str×Addr)->Sem (ForInStep (List (Str×Addr))))
  (hf:∀n k cs,f (n,k) cs=if (k==NameKind.free)=true then (do let a <- cellOf env n;pure (.yield ((n,a)::cs))) else pure (.yield cs)) :
  ∀(ns:List (Str×NameKind)) (acc:List (Str×Addr)),(∀x∈ns,x.2=NameKind.free->∃c,env.cells.lookup x.1=some c)->forIn ns acc f=(pure (wa env.cells ns acc):Sem _)
 |[],acc,_=>by rw [List.forIn_nil];rfl
 |(y,k)::r,acc,hc=>by
  have hr:∀x∈r,x.2=NameKind.free->∃c,env.cells.lookup x.1=some c:=fun x hx=>hc x (List.mem_cons_of_mem _ hx);rw [List.forIn_cons,hf];unfold wa;by_cases hk:(k==NameKind.free)=true
  ·rw [if_pos hk,if_pos hk];obtain ⟨c,e⟩:=hc (y,k) List.mem_cons_self (eq_of_beq hk);have e':env.cells.lookup y=some c:=e;have e2:cellOf env y=pure c:=by unfold cellOf;rw [e']
   rw [e2,e'];exact sI f hf r _ hr
  ·rw [if_neg hk,if_neg hk];exact sI f hf r _ hr
theorem w6 (hc:∀x∈scope.names,x.2=NameKind.free->∃c,env.cells.lookup x.1=some c):closureFor scope env=pure (wa env.cells scope.names []):=by
 simp only [closureFor];rw [sI (env:=env) _ (fun n k cs=>by cases h:(k==NameKind.free)<;>simp [h]) scope.names [] hc];rfl
theorem Ep {M:Model} {gl:Addr} {cl:List (Str×Addr)} {around:Env} {Q:Env->Shared->Prop}
  (hQ:∀h1:Heap,(∀b o,s.heap.get? b=some o->h1.get? b=some o)->h1.Ns s.heap.objs.size (fun _=>none) ->
   (∀x c,(cellsFrom (s.heap.objs.size+1) scope.names cl).lookup x=some c->cl.lookup x=some c\/(s.heap.objs.size<c/\h1.IsCell c none)) ->
   Q {scope:=scope,locals:=s.heap.objs.size,globals:=gl,cells:=cellsFrom (s.heap.objs.size+1) scope.names cl,qual:=qual,func:=none,code:=around.code,frame:=around.frame,builtins:=around.builtins} {s with heap:=h1}) :
  wpAny M A (newFunctionEnv scope gl cl [] qual none .none (some around)) Q E s:=by
 simp only [newFunctionEnv,Option.isSome_some,if_true];refine wpAny_bind (wpAny_alloc ?_);refine wpAny_bind (wpAny_layCells _ (fun name kind cells=>by cases hkc:kind==NameKind.cell<;>simp [hkc]) _ _ _ _ ?_);rw [show ({s with heap:=s.heap.push {cls:=.type "dict",data:=.dict #[]}}:Shared).heap.objs.size=s.heap.objs.size+1 from Heap.size_push ..];rw [List.forIn_nil];refine wpAny_bind (wpAny_pure (wpAny_pure ?_));refine hQ _ (fun b o e=>pushCells_keeps _ _ b o (Heap.get?_push_of_some _ e)) ((Heap.Ns.new s.heap (.type "dict")).keeps (pushCells_keeps _ _)) fun x c e=>?_;have q:=su (x:=x) (c:=c) scope.names (s.heap.push {cls:=.type "dict",data:=.dict #[]}) cl (by rw [Heap.size_push];exact e);rw [Heap.size_push] at q;exact q.imp id fun ⟨a,b⟩=>⟨by omega,b⟩
theorem vG {env:Env} {x:Str}:∀{ns:List (Str×NameKind)},ns.lookup x=some .free ->
  (ns.map fun (n,k)=>if (k==NameKind.free&&env.scope.kind==.function&&env.kindOf n==some .cell) then (n,NameKind.cell) else (n,k)).lookup x=some .cell \/
  (ns.map fun (n,k)=>if (k==NameKind.free&&env.scope.kind==.function&&env.kindOf n==some .cell) then (n,NameKind.cell) else (n,k)).lookup x=some .free
 |[],h=>by simp at h
 |(n,k)::r,h=>by
  have ih:=@vG env x r;rw [List.map_cons];dsimp only;by_cases hc:(k==NameKind.free&&env.scope.kind==.function&&env.kindOf n==some .cell)=true
  ·rw [if_pos hc,List.lookup_cons];cases hx:x==n with
   |true=>exact .inl rfl
   |false=>rw [List.lookup_cons,hx] at h;exact ih h
  ·rw [if_neg hc,List.lookup_cons];cases hx:x==n with
   |true=>
    rw [List.lookup_cons,hx] at h;have e:=Option.some.inj h;subst e;exact .inr rfl
   |false=>rw [List.lookup_cons,hx] at h;exact ih h
theorem vH {env:Env} {x:Str}:∀{ns:List (Str×NameKind)},
  ((ns.map fun (n,k)=>if (k==NameKind.free&&env.scope.kind==.function&&env.kindOf n==some .cell) then (n,NameKind.cell) else (n,k)).lookup x=some .cell \/
  (ns.map fun (n,k)=>if (k==NameKind.free&&env.scope.kind==.function&&env.kindOf n==some .cell) then (n,NameKind.cell) else (n,k)).lookup x=some .free) ->
  ns.lookup x=some .cell\/ns.lookup x=some .free
 |[],h=>by simp at h
 |(n,k)::r,h=>by
  have ih:=@vH env x r;rw [List.map_cons] at h;dsimp only at h;by_cases hc:(k==NameKind.free&&env.scope.kind==.function&&env.kindOf n==some .cell)=true
  ·rw [if_pos hc,List.lookup_cons] at h;rw [List.lookup_cons];cases hx:x==n with
   |true=>
    have:k=NameKind.free:=by
     rw [Bool.and_eq_true,Bool.and_eq_true] at hc;exact eq_of_beq hc.1.1
    subst this;exact .inr rfl
   |false=>rw [hx] at h;exact ih h
  ·rw [if_neg hc,List.lookup_cons] at h;rw [List.lookup_cons];cases hx:x==n with
   |true=>rw [hx] at h;exact h
   |false=>rw [hx] at h;exact ih h
noncomputable def bD (X:Cx) (N':List Str) (sc:Scope) (L:Addr) (cs:List (Str×Addr)) (s:Shared) (H:Hp) (fp:List Addr):Cx:=
 {X with
  N:=N',s₀:=s,H₀:=H,outer:=X.stack,ex:=fp,pn:=[],xe:=fun _ _=>False
  fn:=fun x=> !(sc.names.any fun p=>p.1==x&&p.2==NameKind.free)
  env:={scope:=relabel sc X.env,locals:=L,globals:=X.env.globals,cells:=cs,qual:=X.env.qual,func:=none,code:=X.env.code,frame:=X.env.frame,builtins:=X.env.builtins}}
noncomputable def inS (ix:List (Option Nat)) (σ:St):St:=ix.map fun o=>match o with
 |none=>none
 |some j=>(σ[j]?).join
noncomputable def bV (N:List Str) (osc:Scope) (N':List Str) (sc:Scope) (ix:List (Option Nat)):Bool:=
 decide (ix.length=N'.length) &&
 ((List.range ix.length).all fun i=>match ix[i]? with
  |some (some j)=>(match N'[i]?,N[j]? with
   |some x,some y=>x==y&&sc.names.lookup x==some NameKind.free
   |_,_=>false)
  |_=>true) &&
 (sc.names.all fun p=>(p.2 != NameKind.free||(osc.names.lookup p.1==some NameKind.cell||osc.names.lookup p.1==some NameKind.free))&&(p.2 != NameKind.local||sc.names.lookup p.1==some NameKind.local)) &&
 (sc.names.all fun p=>sc.names.all fun q=> !(p.1==q.1)||p.2==q.2)
section
theorem bV.len (ok:bV X.N X.env.scope N' sc ix=true):ix.length=N'.length:=by
 unfold bV at ok;rw [Bool.and_eq_true,Bool.and_eq_true,Bool.and_eq_true] at ok;exact of_decide_eq_true ok.1.1.1
theorem bV.at (ok:bV X.N X.env.scope N' sc ix=true) {i j:Nat} {x:Str} (h:ix[i]? =some (some j)) (hx:N'[i]? =some x):X.N[j]? =some x/\sc.names.lookup x=some .free:=by
 unfold bV at ok;rw [Bool.and_eq_true,Bool.and_eq_true,Bool.and_eq_true] at ok;have q:=List.all_eq_true.mp ok.1.1.2 i (List.mem_range.mpr (List.getElem?_eq_some_iff.mp h).1);rw [h,hx] at q;dsimp only at q;cases e:X.N[j]? with
 |none=>rw [e] at q;cases q
 |some y=>
  rw [e] at q;dsimp only at q;rw [Bool.and_eq_true] at q;exact ⟨by rw [eq_of_beq q.1],eq_of_beq q.2⟩
theorem bV.fr (ok:bV X.N X.env.scope N' sc ix=true) (h:(x,NameKind.free)∈sc.names):X.env.kindOf x=some .cell\/X.env.kindOf x=some .free:=by
 unfold bV at ok;rw [Bool.and_eq_true,Bool.and_eq_true] at ok;have q:=List.all_eq_true.mp ok.1.2 _ h;rw [Bool.and_eq_true] at q;have q1:=q.1;rw [Bool.or_eq_true] at q1;rcases q1 with z|z
 ·exact absurd z (by simp)
 ·rw [Bool.or_eq_true] at z;exact z.imp (fun e=>eq_of_beq e) fun e=>eq_of_beq e
theorem bV.loc (ok:bV X.N X.env.scope N' sc ix=true):∀x∈sc.names,x.2=NameKind.local->sc.names.lookup x.1=some .local:=fun x hx e=>by
 unfold bV at ok;rw [Bool.and_eq_true,Bool.and_eq_true] at ok;have q:=List.all_eq_true.mp ok.1.2 _ hx;rw [Bool.and_eq_true] at q;have q1:=q.2;rw [Bool.or_eq_true] at q1;rcases q1 with z|z
 ·rw [e] at z;exact absurd z (by decide)
 ·exact eq_of_beq z
theorem bV.apart (ok:bV X.N X.env.scope N' sc ix=true) (h1:(x,NameKind.cell)∈sc.names) (h2:(x,NameKind.free)∈sc.names):False:=by
 unfold bV at ok;rw [Bool.and_eq_true] at ok;have q:=List.all_eq_true.mp (List.all_eq_true.mp ok.2 _ h1) _ h2;simp at q
theorem uO (I:Inv X pins σ H s) (ok:bV X.N X.env.scope N' sc ix=true):∀x∈sc.names,x.2=NameKind.free->∃c,X.env.cells.lookup x.1=some c:=fun x hx e=>by
 obtain ⟨n,k⟩:=x;have e':k=NameKind.free:=e;subst e';exact I.ok.has n (bV.fr ok hx)
theorem Fn (I:Inv X pins σ H s) (ok:bV X.N X.env.scope N' sc ix=true) {c:Addr} (h:(wa X.env.cells sc.names []).lookup x=some c):(x,NameKind.free)∈sc.names/\X.env.cells.lookup x=some c:=by
 rcases w9 _ _ h with ⟨m,e⟩|z
 ·obtain ⟨d,hd⟩:=uO I ok _ m rfl;have hd':X.env.cells.lookup x=some d:=hd;rw [hd'] at e;have e2:c=d:=e;subst e2;exact ⟨m,hd'⟩
 ·simp at z
theorem comp_inv (I:Inv X pins σ H s) (hf:∀b∈fp,AX X pins H b) (hb:∀b∈fp,∃o,s.heap.get? b=some o) (ok:bV X.N X.env.scope N' sc ix=true) (hk:sc.kind=.function) (hL:s.heap.objs.size<=L)
  (kp:∀b o,s.heap.get? b=some o->h1.get? b=some o) (ns:h1.Ns L fun _=>none)
  (hc:∀x c,(cellsFrom (L+1) sc.names (wa X.env.cells sc.names [])).lookup x=some c->(wa X.env.cells sc.names []).lookup x=some c\/(L<c/\h1.IsCell c none)) :
  Inv (bD X N' sc L (cellsFrom (L+1) sc.names (wa X.env.cells sc.names [])) s H fp) [] (inS ix σ) H {s with heap:=h1}:=by
 have cc:∀x c,(wa X.env.cells sc.names []).lookup x=some c->(x,NameKind.free)∈sc.names/\X.env.cells.lookup x=some c/\(∃v,s.heap.IsCell c v)/\c<s.heap.objs.size:=fun x c e=>by
  obtain ⟨m,e'⟩:=Fn I ok e;obtain ⟨v,z⟩:=I.cell x c e';exact ⟨m,e',⟨v,z⟩,z.lt⟩
 have fpl:∀b∈fp,b<s.heap.objs.size:=fun b z=>let ⟨o,e⟩:=hb b z;Heap.lt_size e;have cne:∀b∈fp,∀x c,(cellsFrom (L+1) sc.names (wa X.env.cells sc.names [])).lookup x=some c->c≠b:=fun b z x c e=>by
  have hlt:=fpl b z;rcases hc x c e with q|⟨q,_⟩
  ·exact (hf b z).2.2.2.2.1 x c (cc x c q).2.1
  ·exact gt_ne (Nat.lt_of_lt_of_le hlt hL) q
 have okk:(bD X N' sc L (cellsFrom (L+1) sc.names (wa X.env.cells sc.names [])) s H fp).Ok:=by
  refine ⟨I.ok.mod,hk,I.ok.glob,I.ok.blt,hL,?_,?_,?_,I.ok.hd,I.ok.frames,.inl rfl,?_,I.bs,Nat.le_trans I.ok.bsz I.sz,?_,?_,I.stack,I.DC⟩
  ·refine uR sc.names (L+1) _ (fun x y c e1 e2=>I.ok.inj x y c (cc x c e1).2.1 (cc y c e2).2.1) fun x c e=>?_;exact Nat.lt_succ_of_lt (Nat.lt_of_lt_of_le (cc x c e).2.2.2 hL)
  ·intro x hx;have hx':=vH (env:=X.env) (x:=x) (ns:=sc.names) hx;have q:((cellsFrom (L+1) sc.names (wa X.env.cells sc.names [])).lookup x).isSome=true:=by
    rcases hx' with z|z
    ·exact PySem.W.cellsFrom_some _ _ _ (.inl z)
    ·exact PySem.W.cellsFrom_some _ _ _ (.inr (uQ _ _ (.inl (PySem.mem_of_lookup z))))
   exact Option.isSome_iff_exists.mp q
  ·intro x c hfn e;show s.heap.objs.size<=c;rcases hc x c e with q|⟨q,_⟩
   ·have m:=(cc x c q).1;have hfn':(!(sc.names.any fun p=>p.1==x&&p.2==NameKind.free))=true:=hfn;have z:(sc.names.any fun p=>p.1==x&&p.2==NameKind.free)=true:=List.any_eq_true.mpr ⟨_,m,by simp⟩;rw [z] at hfn';cases hfn'
   ·exact Nat.le_trans hL (Nat.le_of_lt q)
  ·intro b z;have hlt:=fpl b z;exact ⟨Nat.ne_of_lt (Nat.lt_of_lt_of_le hlt hL),cne b z⟩
  ·intro b o e z;rcases (hf b z).2.2.2.1 with q|q
   ·exact I.ok.noex b o e q
   ·exact absurd (Nat.lt_of_lt_of_le (Heap.lt_size e) (Nat.le_trans I.ok.bsz q)) (Nat.lt_irrefl _)
  ·intro b z hs;rcases List.mem_cons.mp (I.vB b hs) with q|q
   ·exact (hf b z).2.1 q
   ·exact (hf b z).2.2.1 q
 refine ⟨okk,rfl,I.bare,Un.kept kp,⟨_,ns,fun i x v h1' h2 h3=>?_⟩,fun x c e=>?_,I.hok.fresh hL,fun x c e=>?_,fun p hp=>absurd hp (by simp [bD]),I.hok.kept kp,?_⟩
 ·have hix:∃j,ix[i]? =some (some j)/\σ[j]? =some (some v):=by
   unfold inS at h2;rw [List.getElem?_map] at h2;cases e:ix[i]? with
   |none=>rw [e] at h2;cases h2
   |some o=>
    rw [e] at h2;cases o with
    |none=>cases h2
    |some j=>
     have h2':(σ[j]?).join=some v:=Option.some.inj h2;refine ⟨j,rfl,?_⟩
     cases e2:σ[j]? with
     |none=>rw [e2] at h2';cases h2'
     |some w=>
      rw [e2] at h2';have h2'':w=some v:=h2';rw [h2'']
  obtain ⟨j,e1,e2⟩:=hix;obtain ⟨e3,e4⟩:=bV.at ok e1 h1';have hfr:=bV.fr ok (PySem.mem_of_lookup e4);obtain ⟨m,hn,hl⟩:=I.loc;obtain ⟨u,r,l⟩:=hl j x v e3 e2 (hfr.elim (fun z=>.inr (.inl z)) fun z=>.inr (.inr z));refine ⟨u,r,.inr ⟨vG (env:=X.env) (x:=x) (ns:=sc.names) e4,?_⟩⟩
  rcases l with ⟨k,_⟩|⟨k,c,e,z⟩
  ·rcases hfr with q|q<;>rw [q] at k<;>cases k
  ·have q1:=uQ (cells:=X.env.cells) sc.names [] (.inl (PySem.mem_of_lookup e4));obtain ⟨c2,q2⟩:=Option.isSome_iff_exists.mp q1;have q3:=(cc x c2 q2).2.1;rw [e] at q3;cases q3;have q4:=PySem.W.cellsFrom_some (x:=x) sc.names (L+1) (wa X.env.cells sc.names []) (.inr q1);obtain ⟨c3,q5⟩:=Option.isSome_iff_exists.mp q4;rcases hc x c3 q5 with q6|⟨q6,q7⟩
   ·rw [q2] at q6;cases q6;exact ⟨c,q5,z.keeps kp⟩
   ·exfalso;rcases rm _ _ _ q5 with ⟨_,m'⟩|q8
    ·exact bV.apart ok m' (PySem.mem_of_lookup e4)
    ·rw [q2] at q8;cases q8;exact absurd (Nat.lt_trans (Nat.lt_of_lt_of_le (cc x c q2).2.2.2 hL) q6) (Nat.lt_irrefl _)
 ·rcases hc x c e with q|⟨_,q⟩
  ·obtain ⟨v,z⟩:=(cc x c q).2.2.1;exact ⟨v,z.keeps kp⟩
  ·exact ⟨_,q⟩
 ·rcases hc x c e with q|⟨q,_⟩
  ·exact I.freeC x c (cc x c q).2.1
  ·exact I.hok.fresh (Nat.le_trans hL (Nat.le_of_lt q))
 ·show (inS ix σ).length=N'.length;unfold inS;rw [List.length_map];exact bV.len ok
end
noncomputable def PTs (X:Cx) (ifs:List Expr) (t:TT):Prop:=
 ∀(pins:Vp) (s:Shared) (σ:St) (H:Hp) (Q:Bool->Hp->Prop),Inv X pins σ H s->t σ H Q ->
  wpAny (model X.prog X.w) X.A (forIn ifs true fun c r=>if r=true then do let ok <- isTrue c X.env (eval c X.env);pure (ForInStep.yield ok) else pure (ForInStep.yield r)) (TP X pins σ Q) X.xe s
noncomputable def tYes:TT:=fun _ H Q=>Q true H
theorem pts_nil:PTs X [] tYes:=fun _ _ _ H _ I h=>wpAny_tests_nil ⟨H,I,h⟩
theorem zi {R:Result->Shared->Prop} {it acc:Value} (J:Nat->Shared->Prop)
  (turn:∀n s,J n s->wpAny (model prog w) A (pyNext it) (fun r s1=>match r with
   |none=>R (.ok .next) s1
   |some v=>wpAny (model prog w) A (letOwnedTupleGo tg it v) (fun _ s1'=>wpAny (model prog w) A (assign tg env v) (fun _ s2=>
     wpAny (model prog w) A (forIn ifs true fun c r=>if r=true then do let ok <- isTrue c env (eval c env);pure (ForInStep.yield ok) else pure (ForInStep.yield r)) (fun ok s3=>
      if ok=true then wpAny (model prog w) A (eval elt env) (fun x s4=>wpAny (model prog w) A (call (.builtin "list.append") [acc,x]) (fun _ s5=>∃m,m<n/\J m s5) (fun _ _=>False) s4) (fun _ _=>False) s3
      else ∃m,m<n/\J m s3) (fun _ _=>False) s2) (fun _ _=>False) s1') (fun _ _=>False) s1) (fun _ _=>False) s)
  (n:Nat) (h:J n s):codeAny (model prog w) A (.compLoop (.ListComp elt [⟨tg,iter,ifs,0⟩] scope pos) 0 it acc env) R s:=by
 refine codeAny_loop rfl J (fun n s hJ=>?_) n h;show wpAny _ A ((compTurn (.ListComp elt [⟨tg,iter,ifs,0⟩] scope pos) 0 it acc env).onRaise (fun x=>do noteFrame x env;theTreesLotGoes x)) _ _ s;refine wpAny_noted ?_;rw [compTurn_list];refine wpAny_bind (wpAny_standAt (wpAny_bind (wpAny_mono (turn n s hJ) (fun r s1 h1=>?_) fun _ _ z=>z.elim)));cases r with
 |none=>exact wpAny_pure h1
 |some v=>
  refine wpAny_bind (wpAny_mono h1 (fun _ s1' h1'=>?_) fun _ _ z=>z.elim);refine wpAny_bind (wpAny_mono h1' (fun _ s2 h2=>wpAny_bind (wpAny_mono h2 (fun ok s3 h3=>?_) fun _ _ z=>z.elim)) fun _ _ z=>z.elim);cases ok with
  |false=>exact wpAny_pure ⟨rfl,h3⟩
  |true=>
   exact wpAny_bind (wpAny_bind (wpAny_mono h3 (fun x s4 h4=>wpAny_bind (wpAny_mono h4 (fun _ s5 h5=>wpAny_pure (wpAny_pure ⟨rfl,h5⟩)) fun _ _ z=>z.elim)) fun _ _ z=>z.elim))
noncomputable def uP (J:It) (ix:List (Option Nat)) (g:TG) (tt:TT) (te:TE) (σ:St) (F:List V->Hp->Prop) (H:Hp):Prop:=
 ∃W:Nat->Nat->List V->Hp->Prop,(∃m,W 0 m [] H)/\∀i m ys H,W i m ys H ->
  (J.stop i H/\ys.length<=sizeLine/\F ys H)\/(J.go i H/\ys.length<=sizeLine/\∃N:List V->Hp->Prop,(∀ys' H',N ys' H'->∃m',m'<m/\W (i+1) m' ys' H') /\
   ∀x H',J.yld i H x H'->g x (inS ix σ) H' fun σ2 H2=>tt σ2 H2 fun b H3=>if b=true then te σ2 H3 fun y H4=>N (ys++[y]) H4 else N ys H3)
section
theorem Inv.slots0 {σ':St} (I:Inv X pins σ' H s) (h:∀(i:Nat) v,(inS ix σ)[i]? =some (some v)->σ'[i]? =some (some v)) (hl:(inS ix σ).length=X.N.length):Inv X pins (inS ix σ) H s:=
 I.weak (by rw [hl,I.len]) h
theorem zh {g:TG} {J:It} {it:Addr} {tn:Nat->Heap->Prop} {F:List V->Hp->Prop} {E:Mq}
  (hc:X.calm=true) (I:Inv X pins σ H s) (T:Turn X.prog X.w X.K tg J fp it tn) (st:tn 0 s.heap) (hf:∀b∈fp,AX X pins H b) (ok:bV X.N X.env.scope N' sc ix=true) (hk:sc.kind=.function)
  (hg:∀L cs s H fp,PG (bD X N' sc L cs s H fp) tg g) (hkeep:∀x σ' H' (Q:St->Hp->Prop),g x σ' H' Q->g x σ' H' fun σ2 H2=>Q σ2 H2/\∀(i:Nat) v,σ'[i]? =some (some v)->(∃j,ix[i]? =some (some j))->σ2[i]? =some (some v))
  (ht:∀L cs s H fp,PTs (bD X N' sc L cs s H fp) ifs tt) (he:∀L cs s H fp,PE (bD X N' sc L cs s H fp) elt te)
  (tr:uP J ix g tt te σ F H) :
  wpAny (model X.prog X.w) X.A (newList []) (fun acc s3=>wpAny (model X.prog X.w) X.A (newFunctionEnv sc X.env.globals (wa X.env.cells sc.names []) [] X.env.qual none .none (some X.env)) (fun cenv s4=>
   codeAny (model X.prog X.w) X.A (.compStart (.ListComp elt [⟨tg,iter,ifs,0⟩] sc pos) 0 (.ref it) acc {cenv with scope:=relabel sc X.env}) (fun r s'=>(∃fl,r=.ok fl) /\
    ∃(p:Addr) (ys:List V) (H2:Hp),acc=.ref p/\Inv X pins σ (upd H2 p (.lst ys)) s'/\H2 p=none/\F ys H2/\(∃m,s'.heap.Ns cenv.locals m)/\(upd H2 p (.lst ys)) cenv.locals=none/\cenv.locals≠X.env.locals /\
     X.s₀.heap.objs.size<=cenv.locals/\(∀x c,X.env.cells.lookup x=some c->c≠cenv.locals)/\∀q∈X.pn++pins,q.1≠cenv.locals) s4) E s3) E s:=by
 obtain ⟨W,⟨m0,w0⟩,turn⟩:=tr;refine wpAny_newObj_type (Ep fun h1 kp ns hcl=>?_);dsimp only at kp ns hcl ⊢;generalize hH2:s.heap.push {cls:=.type "list",dict:=none,data:=.seq ([]:List Value).toArray}=HH at kp ns hcl ⊢;have eL:HH.objs.size=s.heap.objs.size+1:=by rw [<- hH2,Heap.size_push]
 have kp0:∀b o,s.heap.get? b=some o->h1.get? b=some o:=fun b o e=>kp b o (hH2▸Heap.get?_push_of_some _ e);have hD0:h1.PlainList s.heap.objs.size #[]:=⟨_,kp _ _ (hH2▸Heap.get?_push_size _ rfl)⟩
 have fpo:∀b∈fp,∃o,s.heap.get? b=some o:=fun b z=>let ⟨o,e,_⟩:=T.obj 0 _ st b z;⟨o,e⟩;have fpl:∀b∈fp,b<s.heap.objs.size:=fun b z=>let ⟨o,e⟩:=fpo b z;Heap.lt_size e;have sL:s.heap.objs.size<=HH.objs.size:=by rw [eL];exact Nat.le_succ _
 have sL':s.heap.objs.size<HH.objs.size:=by rw [eL];exact Nat.lt_succ_self _
 have I0:=comp_inv (h1:=h1) I hf fpo ok hk sL kp0 ns hcl;generalize hXX:bD X N' sc HH.objs.size (cellsFrom (HH.objs.size+1) sc.names (wa X.env.cells sc.names [])) s H fp=Y at I0;have eY1:Y.prog=X.prog:=by subst hXX;rfl
 have eY2:Y.w=X.w:=by subst hXX;rfl
 have eY3:Y.K=X.K:=by subst hXX;rfl
 have eY4:Y.calm=true:=by subst hXX;exact hc
 have eY5:Y.A=X.A:=by subst hXX;rfl
 have eY6:Y.env={scope:=relabel sc X.env,locals:=HH.objs.size,globals:=X.env.globals,cells:=cellsFrom (HH.objs.size+1) sc.names (wa X.env.cells sc.names []),qual:=X.env.qual,func:=none,code:=X.env.code,frame:=X.env.frame,builtins:=X.env.builtins}:=by subst hXX;rfl
 have eY7:Y.xe=fun _ _=>False:=by subst hXX;rfl
 have eY8:Y.pn=[]:=by subst hXX;rfl
 have eY9:Y.fs=frs X.stack:=by subst hXX;rfl
 have eY10:Y.s₀=s:=by subst hXX;rfl
 have eY11:Y.H₀=H:=by subst hXX;rfl
 have eY12:Y.ex=fp:=by subst hXX;rfl
 have eY13:Y.N=N':=by subst hXX;rfl
 have hgY:PG Y tg g:=by subst hXX;exact hg _ _ _ _ _
 have htY:PTs Y ifs tt:=by subst hXX;exact ht _ _ _ _ _
 have heY:PE Y elt te:=by subst hXX;exact he _ _ _ _ _
 have lenI:(inS ix σ).length=Y.N.length:=by rw [eY13];unfold inS;rw [List.length_map];exact bV.len ok
 have cellN:∀(b:Addr),b<=HH.objs.size->(∀x c,X.env.cells.lookup x=some c->c≠b)->∀x c,Y.env.cells.lookup x=some c->c≠b:=fun b hb hx x c e=>by
  rw [eY6] at e;rcases hcl x c e with q|⟨q,_⟩
  ·exact hx x c (Fn I ok q).2
  ·exact (CJ (Nat.lt_of_le_of_lt hb (Nat.lt_succ_self _)) q).symm
 have oldc:∀x c,X.env.cells.lookup x=some c->c<s.heap.objs.size:=fun x c e=>let ⟨v,z⟩:=I.cell x c e;z.lt;have nfs:∀b,s.heap.objs.size<=b->b∉frs X.stack:=fun b hb z=>by
  rcases List.mem_cons.mp (I.vB b z) with q|q
  ·exact CJ I.lt hb q.symm
  ·exact I.nofs hb q
 have fpY:∀(pp:Vp) (H':Hp),(∀b∈fp,H' b=none)->(∀q∈pp,q.1∉fp)->∀b∈fp,AX Y pp H' b:=fun pp H' hn hq b z=>by
  have hlt:=fpl b z;refine ⟨hn b z,?_,?_,.inl (by rw [eY12];exact z),cellN b (Nat.le_of_lt (Nat.lt_trans hlt sL')) ((hf b z).2.2.2.2.1),fun q hq' e=>?_⟩
  ·rw [eY6];exact CJ hlt sL
  ·rw [eY9];intro hs;rcases List.mem_cons.mp (I.vB b hs) with q|q
   ·exact (hf b z).2.1 q
   ·exact (hf b z).2.2.1 q
  ·rw [eY8] at hq';exact hq q (by simpa using hq') (by rw [e];exact z)
 have Dfp:s.heap.objs.size∉fp:=fun z=>absurd (fpl _ z) (Nat.lt_irrefl _);have Dok:∀(pp:Vp) (H':Hp),H' s.heap.objs.size=none->(∀q∈pp,q.1≠s.heap.objs.size)->AX Y pp H' s.heap.objs.size:=fun pp H' hn hq=>by
  refine ⟨hn,?_,by rw [eY9];exact nfs _ (Nat.le_refl _),.inr (by rw [eY10];exact Nat.le_refl _),cellN _ sL (fun x c e=>Nat.ne_of_lt (oldc x c e)),fun q hq'=>?_⟩
  ·rw [eY6];exact Nat.ne_of_lt sL'
  ·rw [eY8] at hq';exact hq q (by simpa using hq')
 have loop:codeAny (model X.prog X.w) X.A (.compLoop (.ListComp elt [⟨tg,iter,ifs,0⟩] sc pos) 0 (.ref it) (.ref s.heap.objs.size) Y.env) (fun r s'=>(∃fl,r=.ok fl) /\
    ∃(p:Addr) (ys:List V) (H2:Hp),Value.ref s.heap.objs.size=.ref p/\Inv X pins σ (upd H2 p (.lst ys)) s'/\H2 p=none/\F ys H2/\(∃m,s'.heap.Ns HH.objs.size m)/\(upd H2 p (.lst ys)) HH.objs.size=none/\HH.objs.size≠X.env.locals /\
     X.s₀.heap.objs.size<=HH.objs.size/\(∀x c,X.env.cells.lookup x=some c->c≠HH.objs.size)/\∀q∈X.pn++pins,q.1≠HH.objs.size) {s with heap:=h1}:=by
  refine zi (fun n s'=>∃i ys its H',Inv Y [] (inS ix σ) H' s'/\tn i s'.heap/\(∀b∈fp,H' b=none)/\H' s.heap.objs.size=none/\s'.heap.PlainList s.heap.objs.size its/\Vals ys its.toList/\W i n ys H') ?_ m0
   ⟨0,[],#[],H,I0,T.keep _ _ _ st fun b _ o e=>kp0 b o e,fun b z=>(hf b z).1,I.hok.fresh (Nat.le_refl _),hD0,.nil,w0⟩
  rintro n s3 ⟨i,ys,its,H3,I3,st3,fr3,hD3,pl3,vs3,w3⟩;obtain ⟨nD,oD⟩:=pl3;have hpD:∀q∈[((s.heap.objs.size:Addr),({cls:=.type "list",data:=.seq its nD}:Obj))],q.1∉fp:=fun q hq=>by
   have:q=_:=List.mem_singleton.mp hq;rw [this];exact Dfp
  have I3':Inv Y [((s.heap.objs.size:Addr),({cls:=.type "list",data:=.seq its nD}:Obj))] (inS ix σ) H3 s3:=I3.wU fun q hq=>by
   have e:q=_:=List.mem_singleton.mp hq;obtain ⟨d0,d1,d2,_⟩:=Dok [] H3 hD3 (fun _ z=>nomatch z);rw [e];exact ⟨oD,d0,d1,d2,fun v z=>by cases z⟩
  rcases turn i n ys H3 w3 with ⟨stop,ln,qn⟩|⟨go,ln,NN,hNN,step⟩
  ·have h1:=T.done Y eY1 eY2 eY3 eY4 i _ s3 _ H3 (fun _ _=>False) I3' (fpY _ H3 fr3 hpD) st3 stop;rw [eY5] at h1;refine wpAny_mono h1 (fun r s4 ⟨hr,I4⟩=>?_) fun _ _ z=>z;subst hr;obtain ⟨oD4,hD4,_⟩:=I4.pin ((s.heap.objs.size:Addr),({cls:=.type "list",data:=.seq its nD}:Obj)) (by rw [eY8];simp);refine ⟨⟨_,rfl⟩,s.heap.objs.size,ys,H3,rfl,?_,hD3,qn,?_,?_,?_,?_,?_,?_⟩
   ·have ub:Un (frs X.stack) fp H H3 s.heap s4.heap:=by
     have:=I4.base;rw [eY9,eY10,eY11,eY12] at this;exact this
    have hok4:HOk X.prog X.w H3 s4.heap:=by
     have:=I4.hok;rw [eY1,eY2] at this;exact this
    refine I.call' (ch:=fp) (by have:=I4.os;rw [eY10] at this;exact this) ⟨ub.keep,ub.slot,fun b o e nn hx=>?_,ub.there,fun b xs q=>?_,fun b o u q=>?_,fun b ps q=>?_⟩ (fun b u e=>?_) I4.bare (fun b hb=>?_)
    ·rw [aw (Nat.ne_of_lt (Heap.lt_size e))];exact ub.free b o e nn hx
    ·rw [aw (aY (ub.tups b xs q) hD3)];exact ub.tups b xs q
    ·rw [aw (aY (ub.frzs b o u q) hD3)];exact ub.frzs b o u q
    ·obtain ⟨more,z⟩:=ub.tbls b ps q;exact ⟨more,by rw [aw (aY z hD3)];exact z⟩
    ·by_cases hb:b=s.heap.objs.size
     ·subst hb;rw [ar] at e;cases e;exact ⟨ln,its.toList,nD,vs3,by simpa using oD4⟩
     ·rw [aw hb] at e;exact (hok4 b u e).Bf (fun _ _ _ q=>q) (fun c q=>by rw [aw (aY q hD3)];exact q) fun c xs q=>by rw [aw (aY q hD3)];exact q
    ·obtain ⟨f0,f1,f2,f3,f4,f5⟩:=hf b hb;exact ⟨f3,f1,f4,f5⟩
   ·obtain ⟨m,hn,_⟩:=I4.loc;rw [eY6] at hn;exact ⟨m,hn⟩
   ·rw [aw (Nat.ne_of_gt sL')];have:=I4.free;rw [eY6] at this;exact this
   ·exact Nat.ne_of_gt (Nat.lt_trans I.lt sL')
   ·exact Nat.le_trans I.sz sL
   ·exact fun x c e=>CJ (oldc x c e) sL
   ·exact fun q hq=>CJ (Heap.lt_size (I.pin q hq).1) sL
  ·have h1:=T.item Y eY1 eY2 eY3 eY4 i _ s3 _ H3 (fun _ _=>False) I3' (fpY _ H3 fr3 hpD) st3 go;rw [eY5] at h1;refine wpAny_mono h1 (fun r s4 ⟨u,hr,h4⟩=>?_) fun _ _ z=>z;subst hr;refine wpAny_mono h4 (fun _ s5 ⟨x,H5,I5,r5,y5,st5,fr5⟩=>?_) fun _ _ z=>z;have I5':=I5.pinned (fpY _ H5 fr5 hpD) (T.obj _ _ st5);have h5:=hgY _ s5 _ H5 x u _ I5' r5 (hkeep x _ H5 _ (step x H5 y5));rw [eY1,eY2,eY5,eY7] at h5;refine wpAny_mono h5 (fun _ s6 ⟨σ6,H6,I6,q6,k6⟩=>?_) fun _ _ z=>z;have h6:=htY _ s6 σ6 H6 _ I6 q6;rw [eY1,eY2,eY5,eY7] at h6;refine wpAny_mono h6 (fun b s7 ⟨H7,I7,q7⟩=>?_) fun _ _ z=>z;have back:∀{s8:Shared} {H8:Hp},Inv Y ([((s.heap.objs.size:Addr),({cls:=.type "list",data:=.seq its nD}:Obj))]++yu fp s5.heap) σ6 H8 s8->Inv Y [] (inS ix σ) H8 s8/\tn (i+1) s8.heap/\(∀b∈fp,H8 b=none)/\H8 s.heap.objs.size=none/\s8.heap.get? s.heap.objs.size=some {cls:=.type "list",data:=.seq its nD}:=fun {s8 H8} I8=>by
    obtain ⟨a1,a2,_⟩:=I8.pin ((s.heap.objs.size:Addr),({cls:=.type "list",data:=.seq its nD}:Obj)) (by rw [eY8];simp);refine ⟨(I8.wU (pins':=[]) fun _ z=>nomatch z).slots0 (fun k v e=>?_) lenI,T.keep _ _ _ st5 fun b hb o e=>(I8.pin (b,o) (List.mem_append_right _ (List.mem_append_right _ (pS hb e)))).1,fun b hb=>?_,a2,a1⟩
    ·refine k6 k v e ?_;unfold inS at e;rw [List.getElem?_map] at e;cases e2:ix[k]? with
     |none=>rw [e2] at e;cases e
     |some o=>
      cases o with
      |none=>rw [e2] at e;cases e
      |some j=>exact ⟨j,rfl⟩
    ·obtain ⟨o,e,d⟩:=T.obj _ _ st5 b hb;exact (I8.pin (b,o) (List.mem_append_right _ (List.mem_append_right _ (pS hb e)))).2.1
   cases b with
   |false=>
    rw [if_neg Bool.false_ne_true] at q7 ⊢;obtain ⟨m',hm,w7⟩:=hNN _ _ q7;obtain ⟨b1,b2,b3,b4,b5⟩:=back I7;exact ⟨m',hm,i+1,ys,its,H7,b1,b2,b3,b4,⟨nD,b5⟩,vs3,w7⟩
   |true=>
    rw [if_pos rfl] at q7 ⊢;have h7:=heY _ s7 σ6 H7 _ I7 q7;rw [eY1,eY2,eY5,eY7,eY6] at h7;rw [eY6];refine wpAny_mono h7 (fun uu s8 ⟨y,H8,I8,r8,q8⟩=>?_) fun _ _ z=>z;obtain ⟨m',hm,w8⟩:=hNN _ _ q8;obtain ⟨b1,b2,b3,b4,b5⟩:=back I8;have ez:its.size<=sizeLine:=by
     have h1:=vs3.length;have h2:its.toList.length=its.size:=by simp
     omega
    refine wpAny_list_append_plain (hsz:=ez) ⟨nD,b5⟩ fun h9 pl9 sb9=>?_;obtain ⟨d0,d1,d2,d3,d4,d5⟩:=Dok [] H8 b4 (fun _ z=>nomatch z);refine ⟨m',hm,i+1,ys++[y],its.push uu,H8,b1.turned (t':=s8.toks) (fun b o hb e=>(sb9.2 b hb).trans e) d0 d1 d3 d4 d5,T.keep _ _ _ b2 fun b hb o e=>(sb9.2 b ?_).trans e,b3,b4,pl9,?_,w8⟩
    ·exact CJ (fpl b hb) (Nat.le_refl _)
    ·rw [Array.toList_push];exact vs3.append (.cons r8 .nil)
 rw [eY6] at loop;exact codeAny_compStart_list loop (T.self X.A 0 _ _ _ (T.keep _ _ _ st fun b _ o e=>kp0 b o e) loop)
end
noncomputable def tComp (wi:TI) (ix:List (Option Nat)) (g:TG) (tt:TT) (te:TE):TE:=fun σ H Q=>wi σ H fun J H1=>uP J ix g tt te σ (fun ys H2=>∀p,H2 p=none->Q (.ref p) (upd H2 p (.lst ys))) H1
noncomputable def uV (ix:List (Option Nat)) (g:TG):Prop:=∀x σ' H' (Q:St->Hp->Prop),g x σ' H' Q->g x σ' H' fun σ2 H2=>Q σ2 H2/\∀(i:Nat) v,σ'[i]? =some (some v)->(∃j,ix[i]? =some (some j))->σ2[i]? =some (some v)
theorem cP (h:ix[k]? =some none):uV ix (rQ k):=fun x σ' H' Q q=>⟨q,fun i v e ⟨j,hj⟩=>by
 have:k≠i:=by rintro rfl;rw [h] at hj;cases hj
 rw [List.getElem?_set_ne this];exact e⟩
section
variable {wi:TI} {g:TG} 
theorem pe_comp (N':List Str) (ix:List (Option Nat)) (hc:X.calm=true) (hi:PI X tg iter wi) (hg:∀L cs s H fp,PG (bD X N' sc L cs s H fp) tg g) (hl:uV ix g)
  (ht:∀L cs s H fp,PTs (bD X N' sc L cs s H fp) ifs tt) (he:∀L cs s H fp,PE (bD X N' sc L cs s H fp) elt te)
  (ok:bV X.N X.env.scope N' sc ix=true:=by rfl) (hk:sc.kind=.function:=by rfl) (hs:∀x,foldedSetIterable iter X.env x=pure x:=by intro _;rfl) :
  PE X (.ListComp elt [⟨tg,iter,ifs,0⟩] sc pos) (tComp wi ix g tt te):=by
 intro pins s σ H Q I h;rw [eval_ListComp];refine wpAny_comprehension_free (use:=none) rfl hs (w6 (uO I ok)) hk (bV.loc ok) (thn (hi pins s σ H _ I h) fun v s1 h1=>thn h1 fun itv s2 h2=>?_);obtain ⟨it,fp,tn,J,H2,e,I2,T,st2,f2,tr⟩:=h2;subst e;refine thn (zh hc I2 T st2 f2 ok hk hg hl ht he tr) fun acc s3 h3=>thn h3 fun cenv s4 h4=>codeAny_mono h4 fun r s5 hr=>?_;obtain ⟨⟨fl,e1⟩,p,ys,H5,e2,I5,hp,q,⟨m,hn⟩,c0,c1,c2,c3,c4⟩:=hr;subst e1;subst e2;exact ⟨m,hn,fun h' sb=>⟨.ref p,_,I5.turned (t':=s5.toks) (fun b o hb e=>(sb.2 b hb).trans e) c0 c1 (.inr c2) c3 c4,rfl,q p hp⟩⟩
noncomputable def tSetComp (j:Nat) (wi:TI) (ix:List (Option Nat)) (g:TG) (tt:TT) (te:TE):TS:=fun D σ H=>wi σ H fun J H1=>uP J ix g tt te σ (fun ys H2=>∀p,H2 p=none->D.nx (σ.set j (some (.ref p))) (upd H2 p (.lst ys))) H1
theorem vJ (N':List Str) (ix:List (Option Nat)) (hN:X.N.Nodup) (hj:X.N[j]? =some y) (hy:X.env.scope.names.lookup y=some .local) (hc:X.calm=true) (hi:PI X tg iter wi) (hg:∀L cs s H fp,PG (bD X N' sc L cs s H fp) tg g) (hl:uV ix g)
  (ht:∀L cs s H fp,PTs (bD X N' sc L cs s H fp) ifs tt) (he:∀L cs s H fp,PE (bD X N' sc L cs s H fp) elt te)
  (hsw:swapsWith (.ListComp elt [⟨tg,iter,ifs,0⟩] sc pos) (some (.Name y py)) spos.line X.env=pure true:=by rfl)
  (ok:bV X.N X.env.scope N' sc ix=true:=by rfl) (hk:sc.kind=.function:=by rfl) (hs:∀x,foldedSetIterable iter X.env x=pure x:=by intro _;rfl) :
  PS X (.Assign [.Name y py] (.ListComp elt [⟨tg,iter,ifs,0⟩] sc pos) spos) (tSetComp j wi ix g tt te):=by
 intro pins s σ H D I h;rw [exec_Assign_Name_used _ _ _ _ hsw];refine wpAny_bind (wpAny_standAt (wpAny_bind ?_));show wpAny _ X.A (do let _ <- comprehension (.ListComp elt [⟨tg,iter,ifs,0⟩] sc pos) sc X.env _ (newList []) false (eval iter X.env) (some (assign (.Name y py) X.env))) _ _ s;refine wpAny_bind (wpAny_mono (wpAny_comprehension_free (use:=some (assign (.Name y py) X.env)) (Q:=fun _ s'=>SP X pins D .next s') rfl hs (w6 (uO I ok)) hk (bV.loc ok) (thn (hi pins s σ H _ I h) fun v s1 h1=>thn h1 fun itv s2 h2=>?_)) (fun _ s' hq=>wpAny_pure (wpAny_pure hq)) fun _ _ z=>z);obtain ⟨it,fp,tn,J,H2,e,I2,T,st2,f2,tr⟩:=h2;subst e;refine thn (zh hc I2 T st2 f2 ok hk hg hl ht he tr) fun acc s3 h3=>thn h3 fun cenv s4 h4=>codeAny_mono h4 fun r s5 hr=>?_;obtain ⟨⟨fl,e1⟩,p,ys,H5,e2,I5,hp,q,⟨m,hn⟩,c0,c1,c2,c3,c4⟩:=hr;subst e1;subst e2;show wpAny _ X.A (assign (.Name y py) X.env (.ref p)) _ _ s5;refine wpAny_assign_Name (yf (v:=.ref p) I5 hN hj (.inl hy) rfl (fun s6 I6 ⟨a,sb,ha⟩=>?_) (.inr hy));have ea:cenv.locals≠a:=by
  rcases ha with z|z
  ·rw [z];exact c1
  ·exact fun e=>c3 y a z e.symm
 refine ⟨m,hn.sameBut sb ea,fun h' sb'=>?_⟩
 exact ⟨_,_,I6.turned (t':=s6.toks) (fun b o hb e=>(sb'.2 b hb).trans e) c0 c1 (.inr c2) c3 c4,q p hp⟩
end
section
theorem xI:∀{bs:List Bool} {us:List Value},Vals (bs.map V.bl) us->LSm.BoolsAre us bs
 |[],_,.nil=>.nil
 |b::r,_,.cons e t=>by cases e;exact .cons b (xI t)
theorem call_all (hc:X.calm=true):dS X (.builtin "all") (fun xs H Q=>∃(a:Addr) (bs:List Bool),xs=[.ref a]/\SqL X.K H a (bs.map V.bl)/\Q (.bl (bs.all id)) H):=by
 intro pins s σ H xs us Q I r h;obtain ⟨a,bs,rfl,hq,q⟩:=h;obtain ⟨u,rfl,ru⟩:=r.one;cases ru;obtain ⟨its,rv,p,hz⟩:=I.list hq;have hb:=xI rv;have hl:=p.isList;have hlt:a<s.heap.objs.size:=by obtain ⟨_,e,_⟩:=hl;exact Heap.lt_size e
 refine call_all_walk (wpAny_pyIter_list hl ?_);refine ⟨s.heap.objs.size,[s.heap.objs.size,a],[s.heap.objs.size],its.toArray.size,_,_,fun i=>(bs[i]?).getD true,rfl,Walks.list (A:=X.A.in1) (I.ok.hd hc) _ a (Nat.ne_of_lt hlt) its.toArray,
  ⟨⟨_,Heap.get?_push_size _ rfl,rfl,rfl⟩,hl.push _⟩,fun i v s' Q' E' hP hQ=>?_,fun h' tk hk=>?_⟩
 ·obtain ⟨b,e,rfl⟩:=hb.get i v (by simpa using hP);simp only [e,Option.getD_some] at hQ;exact wpAny_truthy_bool hQ
 ·have e:((List.range its.toArray.size).all fun i=>(bs[i]?).getD true)=bs.all id:=by
   rw [List.size_toArray,hb.length];exact LSm.range_all bs
  rw [e];exact ⟨.bl (bs.all id),H,I.kept (LSm.kept_iter hk),rfl,q⟩
theorem call_any (hc:X.calm=true):dS X (.builtin "any") (fun xs H Q=>∃(a:Addr) (bs:List Bool),xs=[.ref a]/\SqL X.K H a (bs.map V.bl)/\Q (.bl (bs.any id)) H):=by
 intro pins s σ H xs us Q I r h;obtain ⟨a,bs,rfl,hq,q⟩:=h;obtain ⟨u,rfl,ru⟩:=r.one;cases ru;obtain ⟨its,rv,p,hz⟩:=I.list hq;have hb:=xI rv;have hl:=p.isList;have hlt:a<s.heap.objs.size:=by obtain ⟨_,e,_⟩:=hl;exact Heap.lt_size e
 refine call_any_walk (wpAny_pyIter_list hl ?_);refine ⟨s.heap.objs.size,[s.heap.objs.size,a],[s.heap.objs.size],its.toArray.size,_,_,fun i=>(bs[i]?).getD false,rfl,Walks.list (A:=X.A.in1) (I.ok.hd hc) _ a (Nat.ne_of_lt hlt) its.toArray,
  ⟨⟨_,Heap.get?_push_size _ rfl,rfl,rfl⟩,hl.push _⟩,fun i v s' Q' E' hP hQ=>?_,fun h' tk hk=>?_⟩
 ·obtain ⟨b,e,rfl⟩:=hb.get i v (by simpa using hP);simp only [e,Option.getD_some] at hQ;exact wpAny_truthy_bool hQ
 ·have e:((List.range its.toArray.size).any fun i=>(bs[i]?).getD false)=bs.any id:=by
   rw [List.size_toArray,hb.length];exact LSm.range_any bs
  rw [e];exact ⟨.bl (bs.any id),H,I.kept (LSm.kept_iter hk),rfl,q⟩
noncomputable def clsV:V->Option Value
 |.ty n=>some (.type n)
 |.ref a=>some (.ref a)
 |_=>none
theorem clsV_is {y:V} {c:Value} (h:clsV y=some c) (r:RelV y u):u=c:=by
 cases y with
 |ty n=>cases r;exact Option.some.inj h
 |ref a=>cases r;exact Option.some.inj h
 |_=>cases h
theorem call_isi:dS X (.builtin "isinstance") (fun xs H Q=>∃x y c t b,xs=[x,y]/\clsV y=some c/\AU X.K H x t/\kitOne X.K t c=some b/\Q (.bl b) H):=by
 intro pins s σ H xs us Q I r h;obtain ⟨x,y,c,t,b,rfl,hc,ty,e,q⟩:=h;obtain ⟨u,v,rfl,ru,rv⟩:=r.two;have ev:=clsV_is hc rv;subst ev;exact yS I ru ty e fun tk=>⟨.bl b,H,I.tok tk,rfl,q⟩
inductive EqV (K:Pn) (H:Hp):Nat->V->V->Bool->Prop where
 |flat {n:Nat} {x y:V} (hx:flatV x=true) (hy:flatV y=true):EqV K H n x y (eqV x y)
 |same {n:Nat} {a:Addr}:EqV K H n (.ref a) (.ref a) true
 |lists {n:Nat} {a b:Addr} {xs ys:List V} {e:Nat->Bool} (ha:SqL K H a xs) (hb:SqL K H b ys) (hl:xs.length=ys.length) (ne:a≠b)
   (he:∀j x y,xs[j]? =some x->ys[j]? =some y->EqV K H n x y (e j)):EqV K H (n+1) (.ref a) (.ref b) ((List.range xs.length).all e)
 |listsL {n:Nat} {a b:Addr} {xs ys:List V} (ha:SqL K H a xs) (hb:SqL K H b ys) (hl:xs.length≠ys.length) (ne:a≠b):EqV K H (n+1) (.ref a) (.ref b) false
 |tups {n:Nat} {a b:Addr} {xs ys:List V} {e:Nat->Bool} (ha:SqT K H a xs) (hb:SqT K H b ys) (ne:a≠b)
   (he:∀j x y,xs[j]? =some x->ys[j]? =some y->EqV K H n x y (e j)):EqV K H (n+1) (.ref a) (.ref b) ((List.range (min xs.length ys.length)).all e&&xs.length==ys.length)
theorem Vals.atA (r:Vals xs us) (h:j<us.toArray.size):∃x,xs[j]? =some x/\RelV x us.toArray[j]:=by
 have hl:=r.length;have hj:j<xs.length:=by rw [hl];simpa using h
 obtain ⟨u,e1,e2⟩:=r.get (i:=j) (x:=xs[j]) (by simp [hj]);refine ⟨xs[j],by simp [hj],?_⟩
 have:us.toArray[j]=u:=by
  have h':j<us.length:=by simpa using h
  rw [List.getElem?_eq_getElem h'] at e1;simpa using Option.some.inj e1
 rw [this];exact e2
end
section
theorem E9 (hg:Gl X x) (hm:X.mg x=none) (hv:bootBuiltins x=some (.type T)) (hn:x≠"__name__":=by decide) (hd:(x==("__debug__":Str))=false:=by decide):PE X (.Name x pos) (tC (.ty T)):=pe_bltn (v:=.ty T) hg hm hv rfl hn hd
theorem pe_gint {n:Int} (hg:Gl X x) (hm:∃t,X.mg x=some (.int n t)) (hd:(x==("__debug__":Str))=false:=by decide):PE X (.Name x pos) (tC (.int n)):=by
 obtain ⟨t,e⟩:=hm;exact Ec (v:=.int n) hg e ⟨t,rfl⟩ hd
end
section
variable {base:Heap} 
theorem Fun.okX {f:Addr} (F:Fun K x qual st f fd) (S:aC N ps (aq st)) (len:∀vs H Q E,sp vs H Q E->vs.length=ps.length)
  (hbody:∀(cdv:Value) (A:Around) (outer:List Env) (s:Shared) (H:Hp) (vs:List V) (Q:VK) (E:XK),mz k (A.deeper (envOfC qual (aq st) s.heap.objs.size f cdv))->sp vs H Q E ->
   ∃t,PSs (Dd CX P w K mg base N qual (aq st) f cdv A outer s H E).nox (dq st) t/\t {nx:=fun _ H'=>Q .non H',rt:=Q} (start N vs) H):cm P w K mg base CX (k+1) f fd ps sp:=by
 obtain ⟨oc,od,kV,doc,pm,an,cdv,ct,osl,rfl,lk,hcd⟩:=F.ex;refine fn_of lk hcd S len fun A outer s H vs Q E hr hsp=>?_;obtain ⟨t,h,q⟩:=hbody cdv A outer s H vs Q E hr hsp;exact ⟨t,h.nox,q⟩
structure Def (K:Pn) (mg:Ld) (x:Str) (st:Stmt) (ps:List Str) (f:Addr) (fd:FuncData):Prop where
 fn:Fun K x x st f fd
 mg:mg x=some (.ref f)
 bd:Binds K fd ps []
theorem bc (KX:K.In h) (G:h.Ns mainGlobals mg) {f:Addr} {kV:Value}
  (a:nsIn K mainGlobals x=some (some (.ref f))) (l:K.lookup f=some ⟨oc,od,.func (fnOf x x (eW st) (dq st) (aq st) .none kV doc pm an cdv ct),osl⟩) (c:codeIn K cdv x=true) (k:keepIn K (.ref f)=true)
  (hb:∀(kV doc pm:Value) (an:Option Addr) (cdv ct:Value) (us:List Value),us.length=ps.length->bindArgs (fnOf x x (eW st) (dq st) (aq st) .none kV doc pm an cdv ct) ⟨us,[]⟩=pure (ps.zip us)) :
  Def K mg x st ps f (fnOf x x (eW st) (dq st) (aq st) .none kV doc pm an cdv ct):=
 ⟨BC l c k,mg_of KX G a,(BC l c k).binds hb⟩
structure Mth (K:Pn) (C:Addr) (x qual:Str) (st:Stmt) (ps:List Str) (f:Addr) (fd:FuncData):Prop where
 fn:Fun K x qual st f fd
 mt:Meth K C x f
 bd:Binds K fd ps []
theorem yL {f:Addr} {kV:Value}
  (a:PySem.W.findIn K (.ref C) x=some (some (.ref f))) (i:PySem.W.isFn K (.ref f)=true) (l:K.lookup f=some ⟨oc,od,.func (fnOf x qual (eW st) (dq st) (aq st) .none kV doc pm an cdv ct),osl⟩) (c:codeIn K cdv qual=true) (k:keepIn K (.ref f)=true)
  (hb:∀(kV doc pm:Value) (an:Option Addr) (cdv ct:Value) (us:List Value),us.length=ps.length->bindArgs (fnOf x qual (eW st) (dq st) (aq st) .none kV doc pm an cdv ct) ⟨us,[]⟩=pure (ps.zip us)) :
  Mth K C x qual st ps f (fnOf x qual (eW st) (dq st) (aq st) .none kV doc pm an cdv ct):=
 ⟨BC l c k,⟨a,i,k⟩,(BC l c k).binds hb⟩
structure Kls (K:Pn) (mg:Ld) (x:Str) (C:Addr):Prop where
 cl:Cls K C
 mg:mg x=some (.ref C)
 mks:PySem.W.makesIn K C=true
 kp:keepIn K (.ref C)=true
 c1:PySem.W.findIn K (.ref C) "__class__"=some (some (.builtin "object.__class__"))
 c2:specialIn K (.builtin "object.__class__") "__get__"=some (some (.builtin "getset_descriptor.__get__"))
 c3:takesIn K (.builtin "object.__class__")=some true
 c4:PySem.W.mroIn K C (.type "object")=some true
theorem Kls.ty {dx:Addr} {fs:List (Str×V)} (k:Kls K mg x C) (e:H a=some (.ins C dx fs)):AU K H (.ref a) (.ref C):=.ins e k.cl k.c1 k.c2 k.c3 k.c4
theorem kls_of (KX:K.In h) (G:h.Ns mainGlobals mg) (a:nsIn K mainGlobals x=some (some (.ref C)))
  (pg:PySem.W.plainGet K C Str.empty=true) (hd:PySem.W.hasDictIn K C=true) (po:plainOver K C=true) (sa:PySem.W.findIn K (.ref C) "__setattr__"=some (some (.builtin "object.__setattr__"))) (mk:PySem.W.makesIn K C=true) (kp:keepIn K (.ref C)=true)
  (c1:PySem.W.findIn K (.ref C) "__class__"=some (some (.builtin "object.__class__"))) (c2:specialIn K (.builtin "object.__class__") "__get__"=some (some (.builtin "getset_descriptor.__get__")))
  (c3:takesIn K (.builtin "object.__class__")=some true) (c4:PySem.W.mroIn K C (.type "object")=some true):Kls K mg x C:=
 ⟨⟨pg,hd,po,sa⟩,mg_of KX G a,mk,kp,c1,c2,c3,c4⟩
end
section
theorem call_isiK (hK:X.K=K:=by rfl):dS X (.builtin "isinstance") (fun xs H Q=>∃x y c t b,xs=[x,y]/\clsV y=some c/\AU K H x t/\kitOne K t c=some b/\Q (.bl b) H):=by subst hK;exact call_isi
theorem pg_c (hN:N'.Nodup) (hi:N'[i]? =some x) (hx:Loc (bD X N' sc L cs s H fp).env.scope x)
  (hf:(bD X N' sc L cs s H fp).fn x=true\/(bD X N' sc L cs s H fp).env.scope.names.lookup x=some .local:=by first|exact .inl rfl|exact .inr rfl|assumption):PG (bD X N' sc L cs s H fp) (.Name x pos) (rQ i):=A0 hN hi hx hf
end
structure Grid (H:Hp) (a:Addr) (as:List Addr) (rows:List (List Int)):Prop where
 top:H a=some (.lst (as.map V.ref))
 len:as.length=rows.length
 row:∀(i:Nat) (b:Addr) (r:List Int),as[i]? =some b->rows[i]? =some r->H b=some (.lst (r.map V.int))
theorem b9.upd {H:Hp} {a:Addr} {o:HO} (h:H a=none):b9 H (upd H a o):=fun b u e=>by rw [aw (aY e h)];exact e
section
variable {f:Addr} {ds:List Value} {E:XK} {m:Str} {t:TA} {mc:Value}
structure Stat (K:Pn) (C:Addr) (mc:Value) (m:Str) (f:Addr):Prop where
 s1:specialIn K (.ref C) "__getattribute__"=some (some (.builtin "type.__getattribute__"))
 s2:PySem.W.readsIn K C mc=true
 s3:PySem.W.findCls K (.ref C) mc m=some (.val (.ref f))
 s4:keepIn K (.ref f)=true
theorem pe_cmeth (S:Stat X.K C mc m f) (hg:Gl X x) (hm:X.mg x=some (.ref C)) (F:cm X.prog X.w X.K X.mg X.base CX k f fd ps sp) (hr:mz k X.A) (hb:Binds X.K fd ps ds) (hd:Vals dvs ds) (hx:Passes CX X E) (ha:PA X (e::es) t)
  (hdb:(x==("__debug__":Str))=false:=by decide)
  (hst:starEach (e::es) X.env=(false,eval e X.env)::starEach es X.env:=by rfl) (hpl:(backTo pos (starEach es X.env)).any (·.1)=false:=by rfl)
  (ht:eval (.Call (.Attribute (.Name x p) m apos) (e::es) [] pos) X.env=(do
   let ov <- eval (.Name x p) X.env
   standAt apos.atName
   let (f,first) <- holding [ov] (getMethod ov m pl)
   callWith pos f first (backTo pos (starEach (e::es) X.env)) (backToKw pos (keywordEach [] X.env))):=by rfl) :
  PE X (.Call (.Attribute (.Name x p) m apos) (e::es) [] pos) (tCall sp dvs E t):=by
 intro pins s σ H Q I h;refine PySem.W.methodCall_KW (pl:=pl) (mT I hg hm ?_ hdb) ht;refine PySem.W.method_cls I.kIn S.s1 (PySem.W.cls_value I.kIn S.s2 S.s3 rfl ?_);refine callWith_K (first:=[]) (h₀:=X.base) I.ok.mod.kin S.s4 (thn (ha pos pins _ σ H _ (I.tok (s.toks+1)) h) fun us s2 ⟨vs,H2,I2,r,q2⟩=>⟨I2.kIn,?_⟩) hst hpl;exact DK (us:=us) (vs:=vs) F hr hb hd hx I2 r q2
end
noncomputable def Keeps (S:Addr->Prop) (H H':Hp):Prop:=∀b o,H b=some o->¬S b->H' b=some o
theorem Keeps.refl (S:Addr->Prop) (H:Hp):Keeps S H H:=fun _ _ e _=>e
theorem Grid.keeps {S:Addr->Prop} {as:List Addr} {rows:List (List Int)} (g:Grid H a as rows) (k:Keeps S H H') (h1:¬S a) (h2:∀x∈as,¬S x):Grid H' a as rows:=
 ⟨k _ _ g.top h1,g.len,fun i b r e1 e2=>k _ _ (g.row i b r e1 e2) (h2 b (List.mem_of_getElem? e1))⟩
section
variable {a:Expr}
theorem b9.tup {a:Addr} (e:b9 H H') (h:SqT K H a xs):SqT K H' a xs:=by
 rcases h with (h|⟨o,h⟩)|h
 ·exact .inl (.inl (e _ _ h))
 ·exact .inl (.inr ⟨o,e _ _ h⟩)
 ·exact .inr h
end
theorem Ba (h:H a=some (.lst xs)):tyV K "list" (.ref a) H:=.inl ⟨rfl,_,SqL.of h⟩
inductive Dat where
 |non|bl (b:Bool)|int (i:Int)|str (x:Str)|tup (ds:List Dat)|lst (ds:List Dat)|ins (C:Addr) (fs:List (Str×Dat))|dic (ks:List (List Int×Dat))
variable {ds:List Dat} {d:Dat}
noncomputable abbrev DRow:=List Int×Addr×V
noncomputable def tHash (ks:List Int):Int:=reduceHash (PySem.Builtin.Tuple.tupleHashOf (ks.map hashInt))
noncomputable def rowE (x:List Int×Addr×Value):DictEntry:=⟨tHash x.1,.ref x.2.1,x.2.2⟩
noncomputable def RowRel (p:DRow) (q:List Int×Addr×Value):Prop:=p.1=q.1/\p.2.1=q.2.1/\RelV p.2.2 q.2.2
noncomputable def DicOk (h:Heap) (a:Addr) (xs:List DRow) (ep:Nat):Prop:=∃vs:List (List Int×Addr×Value),Paired RowRel xs vs/\(a==sysModules)=false/\xs.length<=sizeLine/\(vs.map (·.1)).Nodup/\∃o es,h.get? a=some o/\o.ExactDict/\o.data=.dict es ep/\es.toList=vs.map rowE
noncomputable def DicO (a:Addr) (xs:List DRow) (ep:Nat):HO:=.ext fun h=>DicOk h a xs ep
mutual
noncomputable def bQ (K:Pn) (F:Hp):Dat->V->Prop
 |.non,v=>v=.non
 |.bl b,v=>v=.bl b
 |.int i,v=>v=.int i
 |.str x,v=>v=.str x
 |.tup ds,v=>∃a xs,v=.ref a/\SqT K F a xs/\aA K F ds xs
 |.lst ds,v=>∃a xs,v=.ref a/\SqL K F a xs/\aA K F ds xs
 |.ins C gs,v=>∃a dx fs,v=.ref a/\F a=some (.ins C dx fs)/\uX K F gs fs
 |.dic ks,v=>∃a xs,v=.ref a/\(∃ep,F a=some (DicO a xs ep))/\zF K F ks xs
noncomputable def aA (K:Pn) (F:Hp):List Dat->List V->Prop
 |[],xs=>xs=[]
 |d::ds,xs=>∃v vs,xs=v::vs/\bQ K F d v/\aA K F ds vs
noncomputable def uX (K:Pn) (F:Hp):List (Str×Dat)->List (Str×V)->Prop
 |[],fs=>fs=[]
 |(f,d)::gs,fs=>∃v r,fs=(f,v)::r/\bQ K F d v/\uX K F gs r
noncomputable def zF (K:Pn) (F:Hp):List (List Int×Dat)->List DRow->Prop
 |[],xs=>xs=[]
 |(k,d)::ks,xs=>∃b v r,xs=(k,b,v)::r/\SqT K F b (k.map .int)/\bQ K F d v/\zF K F ks r
end
mutual
noncomputable def kY:Dat->Bool
 |.tup ds=>qh ds
 |.lst _=>false
 |.ins _ _=>false
 |.dic _=>false
 |_=>true
noncomputable def qh:List Dat->Bool
 |[]=>true
 |d::ds=>kY d&&qh ds
end
theorem b9.lst (e:b9 H H') (h:SqL K H a xs):SqL K H' a xs:=by
 rcases h with (h|⟨o,h⟩)|h
 ·exact .inl (.inl (e _ _ h))
 ·exact .inl (.inr ⟨o,e _ _ h⟩)
 ·exact .inr h
mutual
theorem bQ.mono {K:Pn} {F F':Hp} (s:b9 F F'):∀{d:Dat} {v:V},bQ K F d v->bQ K F' d v
 |.non,_,h=>h
 |.bl _,_,h=>h
 |.int _,_,h=>h
 |.str _,_,h=>h
 |.tup _,_,⟨a,xs,e,q,r⟩=>⟨a,xs,e,s.tup q,aA.mono s r⟩
 |.lst _,_,⟨a,xs,e,q,r⟩=>⟨a,xs,e,s.lst q,aA.mono s r⟩
 |.ins _ _,_,⟨a,dx,fs,e,q,r⟩=>⟨a,dx,fs,e,s _ _ q,uX.mono s r⟩
 |.dic _,_,⟨a,xs,e,⟨ep,q⟩,r⟩=>⟨a,xs,e,⟨ep,s _ _ q⟩,zF.mono s r⟩
theorem aA.mono {K:Pn} {F F':Hp} (s:b9 F F'):∀{ds:List Dat} {xs:List V},aA K F ds xs->aA K F' ds xs
 |[],_,h=>h
 |_::_,_,⟨v,vs,e,q,r⟩=>⟨v,vs,e,bQ.mono s q,aA.mono s r⟩
theorem uX.mono {K:Pn} {F F':Hp} (s:b9 F F'):∀{gs:List (Str×Dat)} {fs:List (Str×V)},uX K F gs fs->uX K F' gs fs
 |[],_,h=>h
 |(_,_)::_,_,⟨v,r,e,q,t⟩=>⟨v,r,e,bQ.mono s q,uX.mono s t⟩
theorem zF.mono {K:Pn} {F F':Hp} (s:b9 F F'):∀{ks:List (List Int×Dat)} {xs:List DRow},zF K F ks xs->zF K F' ks xs
 |[],_,h=>h
 |(_,_)::_,_,⟨b,v,r,e,t,q,z⟩=>⟨b,v,r,e,s.tup t,bQ.mono s q,zF.mono s z⟩
end
mutual
theorem bQ.flat {K:Pn} {F F':Hp} (s:∀a xs,SqT K F a xs->SqT K F' a xs):∀{d:Dat} {v:V},kY d=true->bQ K F d v->bQ K F' d v
 |.non,_,_,h=>h
 |.bl _,_,_,h=>h
 |.int _,_,_,h=>h
 |.str _,_,_,h=>h
 |.tup ds,_,f,⟨a,xs,e,q,r⟩=>⟨a,xs,e,s _ _ q,aA.flat s (by simpa [kY] using f) r⟩
 |.lst _,_,f,_=>by simp [kY] at f
 |.ins _ _,_,f,_=>by simp [kY] at f
 |.dic _,_,f,_=>by simp [kY] at f
theorem aA.flat {K:Pn} {F F':Hp} (s:∀a xs,SqT K F a xs->SqT K F' a xs):∀{ds:List Dat} {xs:List V},qh ds=true->aA K F ds xs->aA K F' ds xs
 |[],_,_,h=>h
 |d::ds,_,f,⟨v,vs,e,q,r⟩=>by
  simp only [qh,Bool.and_eq_true] at f;exact ⟨v,vs,e,bQ.flat s f.1 q,aA.flat s f.2 r⟩
end
theorem aA.length {K:Pn} {F:Hp}:∀{ds:List Dat} {xs:List V},aA K F ds xs->xs.length=ds.length
 |[],_,h=>by rw [show _=[] from h];rfl
 |_::_,_,⟨_,_,e,_,r⟩=>by rw [e,List.length_cons,List.length_cons,aA.length r]
theorem aA.get {K:Pn} {F:Hp}:∀{ds:List Dat} {xs:List V} {i:Nat} {d:Dat},aA K F ds xs->ds[i]? =some d->∃v,xs[i]? =some v/\bQ K F d v
 |[],_,_,_,_,e=>by simp at e
 |_::_,_,0,_,⟨v,vs,e,q,_⟩,h=>by
  simp only [List.getElem?_cons_zero,Option.some.injEq] at h;subst h e;exact ⟨v,rfl,q⟩
 |_::_,_,i+1,_,⟨v,vs,e,_,r⟩,h=>by
  subst e;simp only [List.getElem?_cons_succ] at h ⊢;exact aA.get r h
theorem aA.at {K:Pn} {F:Hp} {ds:List Dat} {xs:List V} {i:Nat} {v:V} (r:aA K F ds xs) (h:xs[i]? =some v):∃d,ds[i]? =some d/\bQ K F d v:=by
 have hi:i<ds.length:=by rw [<- r.length];exact (List.getElem?_eq_some_iff.mp h).1
 obtain ⟨w,e,q⟩:=r.get (i:=i) (d:=ds[i]) (by simp [hi]);rw [h] at e;have e':=Option.some.inj e;subst e';exact ⟨ds[i],by simp [hi],q⟩
theorem aA.cons (q:bQ K F d v) (r:aA K F ds xs):aA K F (d::ds) (v::xs):=⟨v,xs,rfl,q,r⟩
theorem aA.append {K:Pn} {F:Hp}:∀{ds es:List Dat} {xs ys:List V},aA K F ds xs->aA K F es ys->aA K F (ds++es) (xs++ys)
 |[],_,_,_,h,r=>by rw [show _=[] from h];exact r
 |_::_,_,_,_,⟨v,vs,e,q,t⟩,r=>by subst e;exact ⟨v,_,rfl,q,aA.append t r⟩
theorem aA.take {K:Pn} {F:Hp}:∀{ds:List Dat} {xs:List V} (n:Nat),aA K F ds xs->aA K F (ds.take n) (xs.take n)
 |_,_,0,_=>rfl
 |[],_,_+1,h=>by rw [show _=[] from h];rfl
 |_::_,_,n+1,⟨v,vs,e,q,r⟩=>by subst e;exact ⟨v,_,rfl,q,aA.take n r⟩
theorem aA.drop {K:Pn} {F:Hp}:∀{ds:List Dat} {xs:List V} (n:Nat),aA K F ds xs->aA K F (ds.drop n) (xs.drop n)
 |_,_,0,h=>h
 |[],_,_+1,h=>by rw [show _=[] from h];rfl
 |_::_,_,n+1,⟨v,vs,e,q,r⟩=>by subst e;exact aA.drop n r
theorem aA.set {K:Pn} {F:Hp} {d:Dat} {v:V} (q:bQ K F d v):∀{ds:List Dat} {xs:List V} (n:Nat),aA K F ds xs->aA K F (ds.set n d) (xs.set n v)
 |[],_,_,h=>by rw [show _=[] from h];rfl
 |_::_,_,0,⟨w,vs,e,_,r⟩=>by subst e;exact ⟨v,_,rfl,q,r⟩
 |_::_,_,n+1,⟨w,vs,e,p,r⟩=>by subst e;exact ⟨w,_,rfl,p,aA.set q n r⟩
theorem aA.eraseIdx {K:Pn} {F:Hp}:∀{ds:List Dat} {xs:List V} (n:Nat),aA K F ds xs->aA K F (ds.eraseIdx n) (xs.eraseIdx n)
 |[],_,_,h=>by rw [show _=[] from h];rfl
 |_::_,_,0,⟨w,vs,e,_,r⟩=>by subst e;exact r
 |_::_,_,n+1,⟨w,vs,e,p,r⟩=>by subst e;exact ⟨w,_,rfl,p,aA.eraseIdx n r⟩
theorem aA.reverse {K:Pn} {F:Hp}:∀{ds:List Dat} {xs:List V},aA K F ds xs->aA K F ds.reverse xs.reverse
 |[],_,h=>by rw [show _=[] from h];rfl
 |_::_,_,⟨w,vs,e,p,r⟩=>by
  subst e;rw [List.reverse_cons,List.reverse_cons];exact aA.append (aA.reverse r) ⟨w,[],rfl,p,rfl⟩
theorem aA.of_get {K:Pn} {F:Hp}:∀{ds:List Dat} {xs:List V},xs.length=ds.length->(∀(i:Nat) d v,ds[i]? =some d->xs[i]? =some v->bQ K F d v)->aA K F ds xs
 |[],[],_,_=>rfl
 |[],_::_,h,_=>by simp at h
 |_::_,[],h,_=>by simp at h
 |d::ds,v::vs,h,q=>⟨v,vs,rfl,q 0 d v rfl rfl,aA.of_get (by simpa using h) fun i e w h1 h2=>q (i+1) e w (by simpa using h1) (by simpa using h2)⟩
structure Step (F H F' H':Hp):Prop where
 ff:b9 F F'
 hh:b9 H H'
 fh:b9 F' H'
 nw:∀b o,F' b=some o->F b=some o\/H b=none
theorem Step.refl {F H:Hp} (s:b9 F H):Step F H F H:=⟨b9.refl _,b9.refl _,s,fun _ _ h=>.inl h⟩
theorem Step.trans {F H F1 H1 F2 H2:Hp} (a:Step F H F1 H1) (b:Step F1 H1 F2 H2):Step F H F2 H2:=
 ⟨a.ff.trans b.ff,a.hh.trans b.hh,b.fh,fun x o h=>(b.nw x o h).elim (fun z=>a.nw x o z) fun z=>.inr (a.hh.free z)⟩
theorem Step.lay {p:Addr} (s:b9 F H) (hp:H p=none):Step F H (upd F p o) (upd H p o):=
 ⟨b9.upd (s.free hp),b9.upd hp,fun b u h=>by
  by_cases e:b=p
  ·subst e;rw [ar] at h ⊢;exact h
  ·rw [aw e] at h ⊢;exact s b u h,fun b u h=>by
  by_cases e:b=p
  ·subst e;exact .inr hp
  ·rw [aw e] at h;exact .inl h⟩
theorem Step.grow {p:Addr} (s:b9 F H) (hp:H p=none):Step F H F (upd H p o):=
 ⟨b9.refl _,b9.upd hp,s.trans (b9.upd hp),fun _ _ h=>.inl h⟩
noncomputable def sR (K:Pn) (F H0 H:Hp):Dat->V->Prop
 |.lst ds,v=>∃a xs,v=.ref a/\H a=some (.lst xs)/\F a=none/\H0 a=none/\aA K F ds xs
 |.dic ks,v=>∃a xs,v=.ref a/\(∃ep,H a=some (DicO a xs ep))/\F a=none/\H0 a=none/\zF K F ks xs
 |d,v=>bQ K F d v
noncomputable def isO:Dat->Bool
 |.lst _=>true
 |.dic _=>true
 |_=>false
noncomputable def isMu:HO->Bool
 |.lst _=>true
 |.ext _=>true
 |_=>false
theorem sR.non (hd:isO d=false):sR K F H0 H d v=bQ K F d v:=by
 cases d<;>first|rfl|cases hd
theorem sR.top (hd:isO d=true) (q:sR K F H0 H d v):∃a o,v=.ref a/\H a=some o/\isMu o=true/\F a=none/\H0 a=none:=by
 cases d with
 |lst ds=>obtain ⟨a,xs,e,p,f,z,_⟩:=q;exact ⟨a,_,e,p,rfl,f,z⟩
 |dic ks=>obtain ⟨a,xs,e,⟨ep,p⟩,f,z,_⟩:=q;exact ⟨a,_,e,p,rfl,f,z⟩
 |_=>cases hd
theorem sR.re (hd:isO d=true) (q:sR K F H0 H d (.ref a)) (ff:b9 F F') (fa:F' a=none) (hh:∀o,H a=some o->H' a=some o):sR K F' H0 H' d (.ref a):=by
 cases d with
 |lst ds=>obtain ⟨b,xs,e,p,f,z,r⟩:=q;cases e;exact ⟨a,xs,rfl,hh _ p,fa,z,r.mono ff⟩
 |dic ks=>obtain ⟨b,xs,e,⟨ep,p⟩,f,z,r⟩:=q;cases e;exact ⟨a,xs,rfl,⟨ep,hh _ p⟩,fa,z,r.mono ff⟩
 |_=>cases hd
theorem sR.give (hd:isO d=true) (q:sR K F H0 H d (.ref a)) (ff:b9 F F') (fa:F' a=H a):bQ K F' d (.ref a):=by
 cases d with
 |lst ds=>obtain ⟨b,xs,e,p,f,z,r⟩:=q;cases e;exact ⟨a,xs,rfl,SqL.of (fa.trans p),r.mono ff⟩
 |dic ks=>obtain ⟨b,xs,e,⟨ep,p⟩,f,z,r⟩:=q;cases e;exact ⟨a,xs,rfl,⟨ep,fa.trans p⟩,r.mono ff⟩
 |_=>cases hd
noncomputable def Val (K:Pn) (own:Bool) (F H0 H:Hp) (d:Dat) (v:V):Prop:=if own=true then sR K F H0 H d v else bQ K F d v
theorem sR.back (s:b9 H0 H1) (h:sR K F H1 H d v):sR K F H0 H d v:=by
 cases d with
 |lst ds=>obtain ⟨a,xs,e,p,q,z,r⟩:=h;exact ⟨a,xs,e,p,q,s.free z,r⟩
 |dic ks=>obtain ⟨a,xs,e,p,q,z,r⟩:=h;exact ⟨a,xs,e,p,q,s.free z,r⟩
 |_=>exact h
theorem Val.back {K:Pn} {own:Bool} {F H0 H1 H:Hp} {d:Dat} {v:V} (s:b9 H0 H1) (h:Val K own F H1 H d v):Val K own F H0 H d v:=by
 cases own with
 |true=>exact sR.back s h
 |false=>exact h
theorem sR.freeze (s:b9 F H) (h:sR K F H0 H d v):∃F',b9 F F'/\b9 F' H/\(∀b o,F' b=some o->F b=some o\/H0 b=none)/\bQ K F' d v:=by
 cases hd:isO d with
 |true=>
  obtain ⟨a,u,e,p,_,q,z⟩:=h.top hd;subst e;refine ⟨upd F a u,b9.upd q,fun b o h=>?_,fun b o h=>?_,h.give hd (b9.upd q) (by rw [ar,p])⟩
  ·by_cases e:b=a
   ·subst e;rw [ar] at h;rw [p,<- h]
   ·rw [aw e] at h;exact s b o h
  ·by_cases e:b=a
   ·subst e;exact .inr z
   ·rw [aw e] at h;exact .inl h
 |false=>rw [sR.non hd] at h;exact ⟨F,b9.refl _,s,fun _ _ z=>.inl z,h⟩
inductive Err where
 |stuck|exc (C:Addr) (fs:List (Str×Dat))
noncomputable abbrev M:=Except Err
variable {g':Dat->Dat->M Dat}
noncomputable abbrev ak:=List (Option Dat)
variable {ρ ρ':ak} {fa fb fc fe fk fo:ak->M Dat} {ft fu:ak->M Bool} {fi:ak->M (List Dat)} {fl:ak->M (Option Int)}
structure i4 where
 p:Err->Hp->Hp->Prop
 mono:∀{e:Err} {F H F' H':Hp},p e F H->Step F H F' H'->p e F' H'
 ns:∀{F H:Hp},p .stuck F H->False
noncomputable def Wno:i4:=⟨fun _ _ _=>False,fun h _=>h,fun h=>h⟩
noncomputable def aI (K:Pn) (W:i4) (own:Bool) (F H:Hp) (r:M Dat) (Q:VK):Prop:=match r with
 |.ok d=>∀v F' H',Step F H F' H'->Val K own F' H H' d v->Q v H'
 |.error e=>W.p e F H
theorem aI.step {W:i4} {own:Bool} {r:M Dat} {Q:VK} (p:aI K W own F H r Q) (s:Step F H F1 H1):aI K W own F1 H1 r Q:=by
 cases r with
 |ok d=>exact fun v F' H' t q=>p v F' H' (s.trans t) (q.back s.hh)
 |error e=>exact W.mono p s
theorem aI.frz {W:i4} {r:M Dat} {Q:VK} (p:aI K W false F H r Q):aI K W true F H r Q:=by
 cases r with
 |ok d=>
  intro v F' H' t q;obtain ⟨F2,s1,s2,n,z⟩:=sR.freeze t.fh q;exact p v F2 H' ⟨t.ff.trans s1,t.hh,s2,fun b o h=>(n b o h).elim (fun z=>t.nw b o z) .inr⟩ z
 |error e=>exact p
structure sQ (K:Pn) (F:Hp) (σ:St) (ρ:ak):Prop where
 len:ρ.length=σ.length
 sl:∀(i:Nat) (d:Dat),ρ[i]? =some (some d)->∃v,σ[i]? =some (some v)/\bQ K F d v
theorem sQ.mono {K:Pn} {F F':Hp} {σ:St} {ρ:ak} (r:sQ K F σ ρ) (s:b9 F F'):sQ K F' σ ρ:=
 ⟨r.len,fun i d e=>let ⟨v,h,q⟩:=r.sl i d e;⟨v,h,q.mono s⟩⟩
theorem sQ.set {K:Pn} {F:Hp} {σ:St} {ρ:ak} {d:Dat} {v:V} (r:sQ K F σ ρ) (q:bQ K F d v) (i:Nat):sQ K F (σ.set i (some v)) (ρ.set i (some d)):=
 ⟨by rw [List.length_set,List.length_set,r.len],fun j e h=>by
  by_cases hij:i=j
  ·subst hij;have hi:i<ρ.length:=by
    have:=(List.getElem?_eq_some_iff.mp h).1;simpa using this
   rw [List.getElem?_set_self hi] at h;cases h;exact ⟨v,by rw [List.getElem?_set_self (by rw [<- r.len];exact hi)],q⟩
  ·rw [List.getElem?_set_ne hij] at h;obtain ⟨w,h1,h2⟩:=r.sl j e h;exact ⟨w,by rw [List.getElem?_set_ne hij];exact h1,h2⟩⟩
noncomputable def tD (K:Pn) (W:i4) (own:Bool) (f:ak->M Dat):TE:=fun σ H Q=>∃F ρ,sQ K F σ ρ/\b9 F H/\aI K W own F H (f ρ) Q
theorem bL {W:i4} {own:Bool} {f:ak->M Dat} {R:VK} (r:sQ K F σ ρ) (s:b9 F H) (hE:∀e,f ρ=.error e->W.p e F H)
  (hO:∀d,f ρ=.ok d->∀v F1 H1,Step F H F1 H1->Val K own F1 H H1 d v->R v H1):tD K W own f σ H R:=by
 refine ⟨F,ρ,r,s,?_⟩
 cases e:f ρ with
 |ok d=>exact hO d e
 |error x=>exact hE x e
noncomputable def tDT (K:Pn) (W:i4) (f:ak->M Bool):TT:=fun σ H Q=>∃F ρ,sQ K F σ ρ/\b9 F H/\(match f ρ with
 |.ok b=>∀F' H',Step F H F' H'->Q b H'
 |.error e=>W.p e F H)
theorem qu {W:i4} {f:ak->M Bool} (r:sQ K F σ ρ) (s:b9 F H) (hE:∀e,f ρ=.error e->W.p e F H)
  (hO:∀b,f ρ=.ok b->∀F1 H1,Step F H F1 H1->R b H1):tDT K W f σ H R:=by
 refine ⟨F,ρ,r,s,?_⟩
 cases e:f ρ with
 |ok d=>exact hO d e
 |error x=>exact hE x e
noncomputable def tDA (K:Pn) (W:i4) (f:ak->M (List Dat)):TA:=fun σ H Q=>∃F ρ,sQ K F σ ρ/\b9 F H/\(match f ρ with
 |.ok ds=>∀vs F' H',Step F H F' H'->aA K F' ds vs->Q vs H'
 |.error e=>W.p e F H)
theorem oz {W:i4} {f:ak->M (List Dat)} {R:List V->Hp->Prop} (r:sQ K F σ ρ) (s:b9 F H) (hE:∀e,f ρ=.error e->W.p e F H)
  (hO:∀ds,f ρ=.ok ds->∀vs F1 H1,Step F H F1 H1->aA K F1 ds vs->R vs H1):tDA K W f σ H R:=by
 refine ⟨F,ρ,r,s,?_⟩
 cases e:f ρ with
 |ok d=>exact hO d e
 |error x=>exact hE x e
noncomputable def af (i:Nat):ak->M Dat:=fun ρ=>match ρ[i]? with
 |some (some d)=>.ok d
 |_=>.error .stuck
noncomputable def fC (d:Dat):ak->M Dat:=fun _=>.ok d
noncomputable def f1 (g:Dat->M Dat) (fa:ak->M Dat):ak->M Dat:=fun ρ=>(fa ρ).bind g
noncomputable def f2 (g:Dat->Dat->M Dat) (fa fb:ak->M Dat):ak->M Dat:=fun ρ=>(fa ρ).bind fun a=>(fb ρ).bind fun b=>g a b
noncomputable def aB:ak->M (List Dat):=fun _=>.ok []
noncomputable def a9 (fa:ak->M Dat) (fr:ak->M (List Dat)):ak->M (List Dat):=fun ρ=>(fa ρ).bind fun a=>(fr ρ).bind fun r=>.ok (a::r)
noncomputable def fL (g:List Dat->M Dat) (fr:ak->M (List Dat)):ak->M Dat:=fun ρ=>(fr ρ).bind g
noncomputable def dZ (ds:List Dat):M Dat:=if ds.length<=sizeLine then .ok (.tup ds) else .error .stuck
noncomputable def dw (ds:List Dat):M Dat:=if ds.length<=sizeLine then .ok (.lst ds) else .error .stuck
noncomputable def fIte (ft:ak->M Bool) (fa fb:ak->M Dat):ak->M Dat:=fun ρ=>(ft ρ).bind fun b=>if b=true then fa ρ else fb ρ
noncomputable def fAnd (ft fu:ak->M Bool):ak->M Bool:=fun ρ=>(ft ρ).bind fun b=>if b=true then fu ρ else .ok false
noncomputable def fOr (ft fu:ak->M Bool):ak->M Bool:=fun ρ=>(ft ρ).bind fun b=>if b=true then .ok true else fu ρ
noncomputable def BJ (ft:ak->M Bool):ak->M Bool:=fun ρ=>(ft ρ).bind fun b=>.ok (!b)
noncomputable def asB:Dat->M Bool
 |.bl b=>.ok b
 |_=>.error .stuck
noncomputable def fB (fa:ak->M Dat):ak->M Bool:=fun ρ=>(fa ρ).bind asB
noncomputable def uF (fa fb:ak->M Dat):ak->M Dat:=fun ρ=>(fa ρ).bind fun a=>(asB a).bind fun b=>if b=true then fb ρ else .ok (.bl false)
noncomputable def notD:Dat->M Dat
 |.bl b=>.ok (.bl (!b))
 |_=>.error .stuck
noncomputable def truD:Dat->M Bool
 |.non=>.ok false
 |.bl b=>.ok b
 |.int i=>.ok (i != 0)
 |.str x=>if x.length<=sizeLine then .ok ((x.length:Int) != 0) else .error .stuck
 |.tup ds=>.ok (!ds.isEmpty)
 |.lst ds=>.ok (!ds.isEmpty)
 |_=>.error .stuck
noncomputable def Ai (fa:ak->M Dat):ak->M Bool:=fun ρ=>(fa ρ).bind truD
noncomputable def jd (g g':Dat->Dat->M Dat) (fa fb fc:ak->M Dat):ak->M Dat:=fun ρ=>(fa ρ).bind fun a=>(fb ρ).bind fun b=>(g a b).bind fun x=>(asB x).bind fun k=>if k=true then (fc ρ).bind fun c=>g' b c else .ok (.bl false)
noncomputable def rD2 (K:Pn) (W:i4) (own:Bool) (g:Dat->Dat->M Dat):R2:=fun x y H Q=>∃F a b,b9 F H/\bQ K F a x/\bQ K F b y/\aI K W own F H (g a b) Q
noncomputable def rD1 (K:Pn) (W:i4) (own:Bool) (g:Dat->M Dat):V->Hp->VK->Prop:=fun x H Q=>∃F a,b9 F H/\bQ K F a x/\aI K W own F H (g a) Q
noncomputable def rDL (K:Pn) (W:i4) (own:Bool) (g:List Dat->M Dat):List V->Hp->VK->Prop:=fun xs H Q=>∃F ds,b9 F H/\aA K F ds xs/\aI K W own F H (g ds) Q
section
variable {W:i4} {own:Bool} {Q:VK} 
theorem rd_var (h:tD K W false (af i) σ H Q):tVar i σ H Q:=by
 obtain ⟨F,ρ,r,s,p⟩:=h;unfold af at p
 match e:ρ[i]? with
 |some (some d)=>
  rw [e] at p;obtain ⟨v,e1,q⟩:=r.sl i d e;exact ⟨v,e1,p v F H (Step.refl s) q⟩
 |some none=>rw [e] at p;exact (W.ns p).elim
 |none=>rw [e] at p;exact (W.ns p).elim
theorem rd_c (hd:∀F,bQ K F d v) (h:tD K W false (fC d) σ H Q):tC v σ H Q:=by
 obtain ⟨F,ρ,r,s,p⟩:=h;exact p v F H (Step.refl s) (hd F)
theorem aI.err {x:M Dat} {e:Err} (p:aI K W own F H x Q) (h:x=.error e):W.p e F H:=by rw [h] at p;exact p
theorem rd_1 {g:Dat->M Dat} (h:tD K W own (f1 g fa) σ H Q):tUn (rD1 K W own g) (tD K W false fa) σ H Q:=by
 obtain ⟨F,ρ,r,s,p⟩:=h;refine bL r s (fun e he=>p.err (by unfold f1;rw [he];rfl)) fun a ha x F1 H1 s1 q1=>?_;refine ⟨F1,a,s1.fh,q1,?_⟩
 have e:f1 g fa ρ=g a:=by unfold f1;rw [ha];rfl
 rw [e] at p;exact p.step s1
theorem rd_2 {g:Dat->Dat->M Dat} (h:tD K W own (f2 g fa fb) σ H Q):tOp (rD2 K W own g) (tD K W false fa) (tD K W false fb) σ H Q:=by
 obtain ⟨F,ρ,r,s,p⟩:=h;refine bL r s (fun e he=>p.err (by unfold f2;rw [he];rfl)) fun a ha x F1 H1 s1 q1=>?_;refine bL (r.mono s1.ff) s1.fh (fun e he=>(p.step s1).err (by unfold f2;rw [ha];show (fb ρ).bind _=_;rw [he];rfl)) fun b hb y F2 H2 s2 q2=>?_;refine ⟨F2,a,b,s2.fh,bQ.mono s2.ff q1,q2,?_⟩
 have e:f2 g fa fb ρ=g a b:=by unfold f2;rw [ha];show (fb ρ).bind _=_;rw [hb];rfl
 rw [e] at p;exact p.step (s1.trans s2)
theorem rd_nil {R:List V->Hp->Prop} (h:tDA K W aB σ H R):tNil σ H R:=by
 obtain ⟨F,ρ,r,s,p⟩:=h;exact p [] F H (Step.refl s) rfl
theorem rd_cons {fr:ak->M (List Dat)} {R:List V->Hp->Prop} (h:tDA K W (a9 fa fr) σ H R):wC (tD K W false fa) (tDA K W fr) σ H R:=by
 obtain ⟨F,ρ,r,s,p⟩:=h;refine bL r s (fun e he=>?_) fun a ha x F1 H1 s1 q1=>oz (r.mono s1.ff) s1.fh (fun e he=>?_) fun ds hd xs F2 H2 s2 q2=>?_
 ·have z:a9 fa fr ρ=.error e:=by unfold a9;rw [he];rfl
  rw [z] at p;exact p
 ·have z:a9 fa fr ρ=.error e:=by unfold a9;rw [ha];show (fr ρ).bind _=_;rw [he];rfl
  rw [z] at p;exact W.mono p s1
 ·have z:a9 fa fr ρ=.ok (a::ds):=by unfold a9;rw [ha];show (fr ρ).bind _=_;rw [hd];rfl
  rw [z] at p;exact p (x::xs) F2 H2 (s1.trans s2) ⟨x,xs,rfl,bQ.mono s2.ff q1,q2⟩
theorem rd_L {g:List Dat->M Dat} {fr:ak->M (List Dat)} (h:tD K W own (fL g fr) σ H Q):tDA K W fr σ H fun xs H1=>rDL K W own g xs H1 Q:=by
 obtain ⟨F,ρ,r,s,p⟩:=h;refine oz r s (fun e he=>p.err (by unfold fL;rw [he];rfl)) fun ds hd xs F1 H1 s1 q1=>⟨F1,ds,s1.fh,q1,?_⟩
 have e:fL g fr ρ=g ds:=by unfold fL;rw [hd];rfl
 rw [e] at p;exact p.step s1
theorem rd_tup {fr:ak->M (List Dat)} (h:tD K W own (fL dZ fr) σ H Q):tTup (tDA K W fr) σ H Q:=by
 obtain ⟨F,ρ,r,s,p⟩:=rd_L h;refine ⟨F,ρ,r,s,?_⟩
 cases e:fr ρ with
 |error x=>rw [e] at p;exact p
 |ok ds=>
  rw [e] at p;intro vs F' H' t q;obtain ⟨F1,es,s1,q1,z⟩:=p vs F' H' t q;unfold dZ at z;by_cases hl:es.length<=sizeLine
  ·rw [if_pos hl] at z;refine ⟨by rw [q1.length];exact hl,fun a ha=>z (.ref a) _ _ (Step.lay s1 ha) ?_⟩
   have:bQ K (upd F1 a (.tup vs)) (.tup es) (.ref a):=⟨a,vs,rfl,SqT.of ar,q1.mono (b9.upd (s1.free ha))⟩
   cases own with
   |true=>exact this
   |false=>exact this
  ·rw [if_neg hl] at z;exact (W.ns z).elim
theorem rd_lst {fr:ak->M (List Dat)} (h:tD K W true (fL dw fr) σ H Q):tLst (tDA K W fr) σ H Q:=by
 obtain ⟨F,ρ,r,s,p⟩:=rd_L h;refine ⟨F,ρ,r,s,?_⟩
 cases e:fr ρ with
 |error x=>rw [e] at p;exact p
 |ok ds=>
  rw [e] at p;intro vs F' H' t q;obtain ⟨F1,es,s1,q1,z⟩:=p vs F' H' t q;unfold dw at z;by_cases hl:es.length<=sizeLine
  ·rw [if_pos hl] at z;exact ⟨by rw [q1.length];exact hl,fun a ha=>z (.ref a) F1 _ (Step.grow s1 ha) ⟨a,vs,rfl,ar,s1.free ha,ha,q1⟩⟩
  ·rw [if_neg hl] at z;exact (W.ns z).elim
theorem rd_ite (h:tD K W own (fIte ft fa fb) σ H Q):tIf (tDT K W ft) (tD K W own fa) (tD K W own fb) σ H Q:=by
 obtain ⟨F,ρ,r,s,p⟩:=h;refine qu r s (fun e he=>p.err (by unfold fIte;rw [he];rfl)) fun b hb F1 H1 s1=>?_;have e:fIte ft fa fb ρ=if b=true then fa ρ else fb ρ:=by unfold fIte;rw [hb];rfl
 rw [e] at p;cases b with
 |true=>exact ⟨F1,ρ,r.mono s1.ff,s1.fh,p.step s1⟩
 |false=>exact ⟨F1,ρ,r.mono s1.ff,s1.fh,p.step s1⟩
theorem Bd {f:ak->M Bool} (r:sQ K F σ ρ) (s1:Step F H F1 H1) (p:match f ρ with
 |.ok b=>∀F' H',Step F H F' H'->R b H'
 |.error e=>W.p e F H):tDT K W f σ H1 R:=by
 refine ⟨F1,ρ,r.mono s1.ff,s1.fh,?_⟩
 cases e:f ρ with
 |ok b=>rw [e] at p;exact fun F' H' t=>p F' H' (s1.trans t)
 |error x=>rw [e] at p;exact W.mono p s1
theorem rd_and (h:tDT K W (fAnd ft fu) σ H R):tAnd (tDT K W ft) (tDT K W fu) σ H R:=by
 obtain ⟨F,ρ,r,s,p⟩:=h;refine qu r s (fun e he=>?_) fun b hb F1 H1 s1=>?_
 ·have z:fAnd ft fu ρ=.error e:=by unfold fAnd;rw [he];rfl
  rw [z] at p;exact p
 ·have z:fAnd ft fu ρ=if b=true then fu ρ else .ok false:=by unfold fAnd;rw [hb];rfl
  rw [z] at p;cases b with
  |true=>exact Bd r s1 p
  |false=>exact p F1 H1 s1
theorem rd_or (h:tDT K W (fOr ft fu) σ H R):tOr (tDT K W ft) (tDT K W fu) σ H R:=by
 obtain ⟨F,ρ,r,s,p⟩:=h;refine qu r s (fun e he=>?_) fun b hb F1 H1 s1=>?_
 ·have z:fOr ft fu ρ=.error e:=by unfold fOr;rw [he];rfl
  rw [z] at p;exact p
 ·have z:fOr ft fu ρ=if b=true then .ok true else fu ρ:=by unfold fOr;rw [hb];rfl
  rw [z] at p;cases b with
  |false=>exact Bd r s1 p
  |true=>exact p F1 H1 s1
theorem rd_not (h:tDT K W (BJ ft) σ H R):tNot (tDT K W ft) σ H R:=by
 obtain ⟨F,ρ,r,s,p⟩:=h;refine qu r s (fun e he=>?_) fun b hb F1 H1 s1=>?_
 ·have z:BJ ft ρ=.error e:=by unfold BJ;rw [he];rfl
  rw [z] at p;exact p
 ·have z:BJ ft ρ=.ok (!b):=by unfold BJ;rw [hb];rfl
  rw [z] at p;exact p F1 H1 s1
theorem rd_B (h:tDT K W (fB fa) σ H R):tTest (tD K W false fa) σ H R:=by
 obtain ⟨F,ρ,r,s,p⟩:=h;refine bL r s (fun e he=>?_) fun a ha x F1 H1 s1 q1=>?_
 ·have z:fB fa ρ=.error e:=by unfold fB;rw [he];rfl
  rw [z] at p;exact p
 ·have z:fB fa ρ=asB a:=by unfold fB;rw [ha];rfl
  rw [z] at p;cases a with
  |bl b=>exact ⟨b,q1,p F1 H1 s1⟩
  |_=>exact (W.ns p).elim
theorem tru_of {a:Dat} {x:V} {b:Bool} (s:b9 F H1) (q:bQ K F a x) (h:truD a=.ok b):TruV K x H1 b:=by
 cases a with
 |non=>rw [show x=.non from q];exact (Except.ok.inj h).symm
 |bl c=>rw [show x=.bl c from q];exact (Except.ok.inj h).symm
 |int i=>rw [show x=.int i from q];exact (Except.ok.inj h).symm
 |str y=>
  rw [show x=.str y from q];have h':(if y.length<=sizeLine then Except.ok ((y.length:Int) != 0) else Except.error Err.stuck)=Except.ok b:=h;by_cases hy:y.length<=sizeLine
  ·rw [if_pos hy] at h';exact ⟨hy,(Except.ok.inj h').symm⟩
  ·rw [if_neg hy] at h';cases h'
 |tup ds=>
  obtain ⟨p,xs,e,t,r⟩:=q;subst e;refine .inr (.inl ⟨xs,s.tup t,?_⟩);rw [<- Except.ok.inj h];cases ds with
  |nil=>rw [show xs=[] from r];rfl
  |cons d ds=>obtain ⟨v,vs,e,_⟩:=r;rw [e];rfl
 |lst ds=>
  obtain ⟨p,xs,e,t,r⟩:=q;subst e;refine .inl ⟨xs,s.lst t,?_⟩;rw [<- Except.ok.inj h];cases ds with
  |nil=>rw [show xs=[] from r];rfl
  |cons d ds=>obtain ⟨v,vs,e,_⟩:=r;rw [e];rfl
 |ins C fs=>cases h
 |dic ks=>cases h
theorem rd_tru (h:tDT K W (Ai fa) σ H R):tD K W false fa σ H fun x H1=>∃k,TruV K x H1 k/\R k H1:=by
 obtain ⟨F,ρ,r,s,p⟩:=h;refine bL r s (fun e he=>?_) fun a ha x F1 H1 s1 q1=>?_
 ·have z:Ai fa ρ=.error e:=by unfold Ai;rw [he];rfl
  rw [z] at p;exact p
 ·have z:Ai fa ρ=truD a:=by unfold Ai;rw [ha];rfl
  rw [z] at p;cases e:truD a with
  |ok b=>rw [e] at p;exact ⟨b,tru_of s1.fh q1 e,p F1 H1 s1⟩
  |error x=>
   rw [e] at p;have:x=.stuck:=by
    cases a with
    |str y=>
     have e':(if y.length<=sizeLine then Except.ok ((y.length:Int) != 0) else Except.error Err.stuck)=Except.error x:=e;by_cases hy:y.length<=sizeLine
     ·rw [if_pos hy] at e';cases e'
     ·rw [if_neg hy] at e';cases e';rfl
    |ins C fs=>cases e;rfl
    |dic ks=>cases e;rfl
    |_=>cases e
   subst this;exact (W.ns p).elim
theorem rd_andV (h:tD K W false (uF fa fb) σ H Q):tAndV (tD K W false fa) (tD K W false fb) σ H Q:=by
 obtain ⟨F,ρ,r,s,p⟩:=h;refine bL r s (fun e he=>p.err (by unfold uF;rw [he];rfl)) fun a ha x F1 H1 s1 q1=>?_;have z:uF fa fb ρ=(asB a).bind fun b=>if b=true then fb ρ else .ok (.bl false):=by unfold uF;rw [ha];rfl
 rw [z] at p;cases a with
 |bl b=>
  refine ⟨b,q1,?_⟩
  cases b with
  |true=>exact ⟨F1,ρ,r.mono s1.ff,s1.fh,aI.step (own:=false) (r:=fb ρ) p s1⟩
  |false=>exact p (.bl false) F1 H1 s1 rfl
 |_=>exact (W.ns p).elim
theorem rd_notV (h:tD K W false (f1 notD fa) σ H Q):tNotV (tD K W false fa) σ H Q:=by
 obtain ⟨F,ρ,r,s,p⟩:=h;refine bL r s (fun e he=>p.err (by unfold f1;rw [he];rfl)) fun a ha x F1 H1 s1 q1=>?_;have z:f1 notD fa ρ=notD a:=by unfold f1;rw [ha];rfl
 rw [z] at p;cases a with
 |bl b=>exact ⟨b,q1,p (.bl (!b)) F1 H1 s1 rfl⟩
 |_=>exact (W.ns p).elim
theorem Bi {g:Dat->Dat->M Dat} (h:tD K W false (jd g g' fa fb fc) σ H Q):DB (rD2 K W false g) (rD2 K W false g') (tD K W false fa) (tD K W false fb) (tD K W false fc) σ H Q:=by
 obtain ⟨F,ρ,r,s,p⟩:=h;refine bL r s (fun e he=>p.err (by unfold jd;rw [he];rfl)) fun a ha x F1 H1 s1 q1=>?_;refine bL (r.mono s1.ff) s1.fh (fun e he=>(p.step s1).err (by unfold jd;rw [ha];show (fb ρ).bind _=_;rw [he];rfl)) fun b hb y F2 H2 s2 q2=>?_;have z:jd g g' fa fb fc ρ=(g a b).bind fun x=>(asB x).bind fun k=>if k=true then (fc ρ).bind fun c=>g' b c else .ok (.bl false):=by unfold jd;rw [ha];show (fb ρ).bind _=_;rw [hb];rfl
 rw [z] at p;refine ⟨F2,a,b,s2.fh,bQ.mono s2.ff q1,q2,?_⟩
 have p2:=p.step (s1.trans s2);cases e:g a b with
 |error x=>rw [e] at p2;exact p2
 |ok d=>
  rw [e] at p2;intro v F3 H3 s3 q3;have p3:aI K W false F3 H3 ((asB d).bind fun k=>if k=true then (fc ρ).bind fun c=>g' b c else .ok (.bl false)) Q:=aI.step p2 s3;cases d with
  |bl k=>
   refine ⟨k,q3,?_⟩
   cases k with
   |false=>exact p3 (.bl false) F3 H3 (Step.refl s3.fh) rfl
   |true=>
    have p4:aI K W false F3 H3 ((fc ρ).bind fun c=>g' b c) Q:=p3;refine bL (r.mono (s1.trans (s2.trans s3)).ff) s3.fh (fun e he=>p4.err (by rw [he];rfl)) fun c hc w F4 H4 s4 q4=>⟨F4,b,c,s4.fh,bQ.mono (s3.trans s4).ff q2,q4,?_⟩
    rw [hc] at p4;exact p4.step s4
  |_=>exact (W.ns p3).elim
end
inductive Pat where
 |nm (i:Nat)|tp (is:List Nat)
noncomputable def oA:List Nat->List Dat->ak->ak
 |i::is,d::ds,ρ=>oA is ds (ρ.set i (some d))
 |_,_,ρ=>ρ
noncomputable def jg:Pat->Dat->ak->M ak
 |.nm i,d,ρ=>.ok (ρ.set i (some d))
 |.tp is,.tup ds,ρ=>if ds.length=is.length then .ok (oA is ds ρ) else .error .stuck
 |.tp _,_,_=>.error .stuck
noncomputable def ll:List Nat->TGs
 |[]=>gNil
 |i::is=>gCons (rQ i) (ll is)
noncomputable def gP (K:Pn):Pat->TG
 |.nm i=>rQ i
 |.tp is=>gTup K is.length (ll is)
theorem vW {K:Pn} {F H:Hp} {R:St->Hp->Prop}:∀{is:List Nat} {ds:List Dat} {vs:List V} {σ:St} {ρ:ak},sQ K F σ ρ->aA K F ds vs->ds.length=is.length->(∀σ',sQ K F σ' (oA is ds ρ)->R σ' H)->ll is vs σ H R
 |[],[],_,σ,ρ,r,q,_,h=>⟨q,h σ r⟩
 |[],_::_,_,_,_,_,_,e,_=>by simp at e
 |_::_,[],_,_,_,_,_,e,_=>by simp at e
 |i::is,d::ds,_,σ,ρ,r,⟨v,vs,e,q,t⟩,l,h=>⟨v,vs,e,vW (r.set q i) t (by simpa using l) h⟩
theorem gP_run {R:St->Hp->Prop} {p:Pat} (r:sQ K F σ ρ) (s:b9 F H) (q:bQ K F d v) (e:jg p d ρ=.ok ρ') (h:∀σ',sQ K F σ' ρ'->R σ' H):gP K p v σ H R:=by
 cases p with
 |nm i=>
  have:=Except.ok.inj e;subst this;exact h _ (r.set q i)
 |tp is=>
  cases d with
  |tup ds=>
   have e':(if ds.length=is.length then Except.ok (oA is ds ρ) else Except.error Err.stuck)=Except.ok ρ':=e;by_cases hl:ds.length=is.length
   ·rw [if_pos hl] at e';have:=Except.ok.inj e';subst this;obtain ⟨a,xs,ev,t,z⟩:=q;exact ⟨a,xs,ev,s.tup t,by rw [z.length,hl],vW r z hl h⟩
   ·rw [if_neg hl] at e';cases e'
  |_=>cases e
theorem rZ {p:Pat} {e:Err} (h:jg p d ρ=.error e):e=.stuck:=by
 cases p with
 |nm i=>cases h
 |tp is=>
  cases d with
  |tup ds=>
   have e':(if ds.length=is.length then Except.ok (oA is ds ρ) else Except.error Err.stuck)=Except.error e:=h;by_cases hl:ds.length=is.length
   ·rw [if_pos hl] at e';cases e'
   ·rw [if_neg hl] at e';cases e';rfl
  |_=>cases h;rfl
structure vz (K:Pn) (F1:Hp) (J:It) (ds:List Dat):Prop where
 go:∀(i:Nat) (F H:Hp),b9 F1 F->b9 F H->i<ds.length->J.go i H
 yl:∀(i:Nat) (F H:Hp) (x:V) (H':Hp) (d:Dat),b9 F1 F->b9 F H->ds[i]? =some d->J.yld i H x H'->∃F',Step F H F' H'/\bQ K F' d x
 st:∀(F H:Hp),b9 F1 F->b9 F H->J.stop ds.length H
noncomputable def iD (K:Pn) (W:i4) (f:ak->M (List Dat)):TI:=fun σ H R=>∃F ρ,sQ K F σ ρ/\b9 F H/\(match f ρ with
 |.ok ds=>∀J F1 H1,Step F H F1 H1->vz K F1 J ds->R J H1
 |.error e=>W.p e F H)
noncomputable def yR:Dat->M (List Dat)
 |.lst ds=>.ok ds
 |.tup ds=>.ok ds
 |_=>.error .stuck
noncomputable def fIt (fa:ak->M Dat):ak->M (List Dat):=fun ρ=>(fa ρ).bind yR
noncomputable def iSeq (K:Pn) (tl:TE):TI:=fun σ H R=>tl σ H fun x H1=>∃a,x=.ref a/\((∃xs,SqL K H1 a xs)/\R (Itl K a) H1\/(∃xs,SqT K H1 a xs)/\R (Itt K a) H1)
theorem ED (t:SqL K F a xs) (z:aA K F ds xs):vz K F (Itl K a) ds where
 go:=fun i F' H' s1 s2 hi=>⟨xs,xs[i]'(by rw [z.length];exact hi),s2.lst (s1.lst t),by simp [z.length,hi]⟩
 yl:=fun i F' H' x H2 d s1 s2 hd hy=>by
  obtain ⟨e,hy⟩:=hy;subst e;obtain ⟨v,e1,q⟩:=z.get hd;have e2:=hy xs (s2.lst (s1.lst t));rw [e1] at e2;cases e2;exact ⟨F',Step.refl s2,q.mono s1⟩
 st:=fun F' H' s1 s2=>⟨xs,s2.lst (s1.lst t),by rw [z.length];exact Nat.le_refl _⟩
theorem iter_tup (t:SqT K F a xs) (z:aA K F ds xs):vz K F (Itt K a) ds where
 go:=fun i F' H' s1 s2 hi=>⟨xs,xs[i]'(by rw [z.length];exact hi),s2.tup (s1.tup t),by simp [z.length,hi]⟩
 yl:=fun i F' H' x H2 d s1 s2 hd hy=>by
  obtain ⟨e,hy⟩:=hy;subst e;obtain ⟨v,e1,q⟩:=z.get hd;have e2:=hy xs (s2.tup (s1.tup t));rw [e1] at e2;cases e2;exact ⟨F',Step.refl s2,q.mono s1⟩
 st:=fun F' H' s1 s2=>⟨xs,s2.tup (s1.tup t),by rw [z.length];exact Nat.le_refl _⟩
noncomputable def aR (lo:Int) (n:Nat):List Dat:=(List.range n).map fun k:Nat=>Dat.int (lo+k)
theorem vQ:vz K F (Itr lo n) (aR lo n) where
 go:=fun i F' H' s1 s2 hi=>by show i<n;simpa [aR] using hi
 yl:=fun i F' H' x H2 d s1 s2 hd hy=>by
  obtain ⟨e,hy⟩:=hy;subst e hy;unfold aR at hd;rw [List.getElem?_map] at hd;have hi:i<n:=by
   have:=(List.getElem?_eq_some_iff.mp (show ((List.range n).map fun k:Nat=>Dat.int (lo+k))[i]? =some d by rw [List.getElem?_map];exact hd)).1;simpa using this
  rw [List.getElem?_range hi] at hd;cases hd;exact ⟨F',Step.refl s2,rfl⟩
 st:=fun F' H' s1 s2=>by show n<=_;simp [aR]
noncomputable def bg (i:Int):Bool:=decide (-(2^62)<=i)&&decide (i<2^62)
noncomputable def sW:List Dat->M (List Dat)
 |[.int j]=>if bg j=true then .ok (aR 0 j.toNat) else .error .stuck
 |_=>.error .stuck
noncomputable def rng2:List Dat->M (List Dat)
 |[.int i,.int j]=>if (bg i&&bg j)=true then .ok (aR i (j-i).toNat) else .error .stuck
 |_=>.error .stuck
noncomputable def my (g:List Dat->M (List Dat)) (fr:ak->M (List Dat)):ak->M (List Dat):=fun ρ=>(fr ρ).bind g
section
variable {W:i4} {Q:VK} 
theorem ri_seq {R:It->Hp->Prop} (h:iD K W (fIt fa) σ H R):iSeq K (tD K W false fa) σ H R:=by
 obtain ⟨F,ρ,r,s,p⟩:=h;refine bL r s (fun e he=>?_) fun a ha x F1 H1 s1 q1=>?_
 ·have z:fIt fa ρ=.error e:=by unfold fIt;rw [he];rfl
  rw [z] at p;exact p
 ·have z:fIt fa ρ=yR a:=by unfold fIt;rw [ha];rfl
  rw [z] at p;cases a with
  |lst ds=>
   obtain ⟨b,xs,e,t,z⟩:=q1;exact ⟨b,e,.inl ⟨⟨xs,s1.fh.lst t⟩,p _ F1 H1 s1 (ED t z)⟩⟩
  |tup ds=>
   obtain ⟨b,xs,e,t,z⟩:=q1;exact ⟨b,e,.inr ⟨⟨xs,s1.fh.tup t⟩,p _ F1 H1 s1 (iter_tup t z)⟩⟩
  |_=>exact (W.ns p).elim
theorem ri_rng1 {fr:ak->M (List Dat)} {R:It->Hp->Prop} (h:iD K W (my sW fr) σ H R):iRng1 (tDA K W fr) σ H R:=by
 obtain ⟨F,ρ,r,s,p⟩:=h;refine oz r s (fun e he=>?_) fun ds hd xs F1 H1 s1 q1=>?_
 ·have z:my sW fr ρ=.error e:=by unfold my;rw [he];rfl
  rw [z] at p;exact p
 ·have z:my sW fr ρ=sW ds:=by unfold my;rw [hd];rfl
  rw [z] at p
  match ds,q1,p with
  |[.int j],⟨v,vs,e,q,t⟩,p=>
   have p':match (if bg j=true then Except.ok (aR 0 j.toNat) else Except.error Err.stuck:M (List Dat)) with
    |.ok ds=>∀J F1 H1,Step F H F1 H1->vz K F1 J ds->R J H1
    |.error e=>W.p e F H:=p
   by_cases hj:bg j=true
   ·rw [if_pos hj] at p';unfold bg at hj;simp only [Bool.and_eq_true,decide_eq_true_eq] at hj;exact ⟨j,by rw [e,show v=.int j from q,show vs=[] from t],hj.1,hj.2,p' _ F1 H1 s1 vQ⟩
   ·rw [if_neg hj] at p';exact (W.ns p').elim
  |[],_,p=>exact (W.ns p).elim
  |.non::_,_,p=>exact (W.ns p).elim
  |.bl _::_,_,p=>exact (W.ns p).elim
  |.str _::_,_,p=>exact (W.ns p).elim
  |.tup _::_,_,p=>exact (W.ns p).elim
  |.lst _::_,_,p=>exact (W.ns p).elim
  |.ins _ _::_,_,p=>exact (W.ns p).elim
  |.dic _::_,_,p=>exact (W.ns p).elim
  |.int _::_::_,_,p=>exact (W.ns p).elim
theorem ri_rng2 {fr:ak->M (List Dat)} {R:It->Hp->Prop} (h:iD K W (my rng2 fr) σ H R):iRng2 (tDA K W fr) σ H R:=by
 obtain ⟨F,ρ,r,s,p⟩:=h;refine oz r s (fun e he=>?_) fun ds hd xs F1 H1 s1 q1=>?_
 ·have z:my rng2 fr ρ=.error e:=by unfold my;rw [he];rfl
  rw [z] at p;exact p
 ·have z:my rng2 fr ρ=rng2 ds:=by unfold my;rw [hd];rfl
  rw [z] at p;by_cases hds:∃i j,ds=[.int i,.int j]
  ·obtain ⟨i,j,rfl⟩:=hds;obtain ⟨v,vs,e,q,v2,vs2,e2,q2,t⟩:=q1;have p':match (if (bg i&&bg j)=true then Except.ok (aR i (j-i).toNat) else Except.error Err.stuck:M (List Dat)) with
    |.ok ds=>∀J F1 H1,Step F H F1 H1->vz K F1 J ds->R J H1
    |.error e=>W.p e F H:=p
   by_cases hj:(bg i&&bg j)=true
   ·rw [if_pos hj] at p';unfold bg at hj;simp only [Bool.and_eq_true,decide_eq_true_eq] at hj;exact ⟨i,j,by rw [e,show v=.int i from q,e2,show v2=.int j from q2,show vs2=[] from t],⟨hj.1.1,hj.1.2,hj.2.1,hj.2.2⟩,p' _ F1 H1 s1 vQ⟩
   ·rw [if_neg hj] at p';exact (W.ns p').elim
  ·have:rng2 ds=.error .stuck:=by
    unfold rng2;split
    ·exact absurd ⟨_,_,rfl⟩ hds
    ·rfl
   rw [this] at p;exact (W.ns p).elim
noncomputable def qe (ix:List (Option Nat)) (ρ:ak):ak:=ix.map fun o=>match o with
 |none=>none
 |some j=>(ρ[j]?).join
noncomputable def bN (p:Pat) (ft:ak->M Bool) (fe:ak->M Dat) (ρ0:ak):List Dat->M (List Dat)
 |[]=>.ok []
 |d::ds=>(jg p d ρ0).bind fun ρ=>(ft ρ).bind fun b=>if b=true then (fe ρ).bind fun y=>(bN p ft fe ρ0 ds).bind fun r=>.ok (y::r) else bN p ft fe ρ0 ds
noncomputable def jn (fi:ak->M (List Dat)) (ix:List (Option Nat)) (p:Pat) (ft:ak->M Bool) (fe:ak->M Dat):ak->M Dat:=fun ρ=>(fi ρ).bind fun ds=>if ds.length<=sizeLine then (bN p ft fe (qe ix ρ) ds).bind fun r=>.ok (.lst r) else .error .stuck
noncomputable def oi:ak->M Bool:=fun _=>.ok true
theorem sQ.inS {F:Hp} {ρ:ak} (r:sQ K F σ ρ) (ix:List (Option Nat)):sQ K F (L2.inS ix σ) (qe ix ρ):=
 ⟨by simp [L2.inS,qe],fun i d e=>by
  unfold qe at e;unfold L2.inS;rw [List.getElem?_map] at e ⊢;cases h:ix[i]? with
  |none=>rw [h] at e;cases e
  |some o=>
   rw [h] at e;cases o with
   |none=>cases e
   |some j=>
    simp only [Option.map_some,Option.some.injEq] at e ⊢;have e1:ρ[j]? =some (some d):=by
     cases z:ρ[j]? with
     |none=>rw [z] at e;cases e
     |some w=>rw [z] at e;simp at e;rw [e]
    obtain ⟨v,h1,h2⟩:=r.sl j d e1;exact ⟨v,by rw [h1];rfl,h2⟩⟩
theorem zW {p:Pat} (h:tD K W true (jn fi ix p ft fe) σ H Q) :
  tComp (iD K W fi) ix (gP K p) (tDT K W ft) (tD K W false fe) σ H Q:=by
 obtain ⟨F,ρ,r,s,q⟩:=h;refine ⟨F,ρ,r,s,?_⟩
 cases hf:fi ρ with
 |error e=>exact q.err (by unfold jn;rw [hf];rfl)
 |ok ds=>
  intro J F1 H1 s1 it;have e0:jn fi ix p ft fe ρ=if ds.length<=sizeLine then (bN p ft fe (qe ix ρ) ds).bind fun r=>.ok (.lst r) else .error .stuck:=by unfold jn;rw [hf];rfl
  rw [e0] at q;by_cases hl:ds.length<=sizeLine
  ·rw [if_pos hl] at q;refine ⟨fun i m ys H2=>m=ds.length-i/\i<=ds.length/\∃F2 yd,Step F1 H1 F2 H2/\aA K F2 yd ys/\yd.length<=i /\
    (match bN p ft fe (qe ix ρ) (ds.drop i) with
     |.ok rr=>bN p ft fe (qe ix ρ) ds=.ok (yd++rr)
     |.error e=>W.p e F H),⟨ds.length,by omega,Nat.zero_le _,F1,[],Step.refl s1.fh,rfl,Nat.zero_le _,?_⟩,?_⟩
   ·rw [List.drop_zero];cases e:bN p ft fe (qe ix ρ) ds with
    |ok rr=>rfl
    |error x=>exact q.err (by rw [e];rfl)
   ·rintro i m ys H2 ⟨rfl,hi,F2,yd,s2,dy,ly,hc⟩;have lys:ys.length<=sizeLine:=by rw [dy.length];omega
    by_cases hlt:i<ds.length
    ·have ed:ds.drop i=ds[i]::ds.drop (i+1):=List.drop_eq_getElem_cons hlt;rw [ed] at hc;refine .inr ⟨it.go i F2 H2 s2.ff s2.fh hlt,lys,fun ys' H'=>(i+1<=ds.length/\∃F2 yd,Step F1 H1 F2 H'/\aA K F2 yd ys'/\yd.length<=i+1 /\
      (match bN p ft fe (qe ix ρ) (ds.drop (i+1)) with
       |.ok rr=>bN p ft fe (qe ix ρ) ds=.ok (yd++rr)
       |.error e=>W.p e F H)),fun ys' H' n=>⟨ds.length-(i+1),by omega,rfl,n⟩,fun x H' y=>?_⟩
     obtain ⟨F3,s3,q3⟩:=it.yl i F2 H2 x H' ds[i] s2.ff s2.fh (by simp [hlt]) y;have r3:sQ K F3 (L2.inS ix σ) (qe ix ρ):=(r.mono (s1.trans (s2.trans s3)).ff).inS ix;have st3:Step F H F3 H':=s1.trans (s2.trans s3);have ec:bN p ft fe (qe ix ρ) (ds[i]::ds.drop (i+1))=(jg p ds[i] (qe ix ρ)).bind fun ρ1=>(ft ρ1).bind fun b=>if b=true then (fe ρ1).bind fun y=>(bN p ft fe (qe ix ρ) (ds.drop (i+1))).bind fun r=>.ok (y::r) else bN p ft fe (qe ix ρ) (ds.drop (i+1)):=by rw [bN]
     rw [ec] at hc;cases hb:jg p ds[i] (qe ix ρ) with
     |error e=>
      rw [hb] at hc;have:=rZ hb;subst this;exact (W.ns hc).elim
     |ok ρ1=>
      rw [hb] at hc;refine gP_run r3 s3.fh q3 hb fun σ2 r4=>?_;have hc1:match ((ft ρ1).bind fun b=>if b=true then (fe ρ1).bind fun y=>(bN p ft fe (qe ix ρ) (ds.drop (i+1))).bind fun r=>.ok (y::r) else bN p ft fe (qe ix ρ) (ds.drop (i+1))) with
       |.ok rr=>bN p ft fe (qe ix ρ) ds=.ok (yd++rr)
       |.error e=>W.p e F H:=hc
      refine qu r4 s3.fh (fun e he=>by rw [he] at hc1;exact W.mono hc1 st3) fun b hb2 F5 H5 s5=>?_;rw [hb2] at hc1;cases b with
      |false=>
       have hc2:match bN p ft fe (qe ix ρ) (ds.drop (i+1)) with
        |.ok rr=>bN p ft fe (qe ix ρ) ds=.ok (yd++rr)
        |.error e=>W.p e F H:=hc1
       exact ⟨hlt,F5,yd,s2.trans (s3.trans s5),dy.mono (s3.trans s5).ff,by omega,hc2⟩
      |true=>
       have hc2:match ((fe ρ1).bind fun y=>(bN p ft fe (qe ix ρ) (ds.drop (i+1))).bind fun r=>.ok (y::r)) with
        |.ok rr=>bN p ft fe (qe ix ρ) ds=.ok (yd++rr)
        |.error e=>W.p e F H:=hc1
       refine bL (r4.mono s5.ff) s5.fh (fun e he=>by rw [he] at hc2;exact W.mono hc2 (st3.trans s5)) fun d hd v F6 H6 s6 q6=>?_;rw [hd] at hc2;refine ⟨hlt,F6,yd++[d],s2.trans (s3.trans (s5.trans s6)),aA.append (dy.mono (s3.trans (s5.trans s6)).ff) ⟨v,[],rfl,q6,rfl⟩,by simp;omega,?_⟩
       have hc3:match ((bN p ft fe (qe ix ρ) (ds.drop (i+1))).bind fun r=>.ok (d::r):M (List Dat)) with
        |.ok rr=>bN p ft fe (qe ix ρ) ds=.ok (yd++rr)
        |.error e=>W.p e F H:=hc2
       cases e7:bN p ft fe (qe ix ρ) (ds.drop (i+1)) with
       |ok rr=>
        rw [e7] at hc3;show _=Except.ok ((yd++[d])++rr);rw [List.append_assoc];exact hc3
       |error x=>rw [e7] at hc3;exact hc3
    ·have:i=ds.length:=by omega
     subst this;rw [List.drop_length] at hc;have hc':bN p ft fe (qe ix ρ) ds=.ok (yd++[]):=hc;rw [List.append_nil] at hc';rw [hc'] at q;refine .inl ⟨it.st F2 H2 s2.ff s2.fh,lys,fun a ha=>?_⟩;have st:Step F H F2 H2:=s1.trans s2;exact q (.ref a) F2 _ (st.trans (Step.grow s2.fh ha)) ⟨a,ys,rfl,ar,s2.fh.free ha,st.hh.free ha,dy⟩
  ·rw [if_neg hl] at q;exact (W.ns q).elim
end
inductive Flo where
 |nx (ρ:ak)|rt (d:Dat)|bk (ρ:ak)|ct (ρ:ak)
variable {g g2:ak->M Flo}
structure Rep (K:Pn) (F0 H0 FB:Hp) (O:List Nat) (F H:Hp) (σ:St) (ρ:ak):Prop where
 st:Step F0 H0 F H
 fb:b9 FB F
 len:ρ.length=σ.length
 fz:∀(i:Nat) (d:Dat),ρ[i]? =some (some d)->i∉O->∃v,σ[i]? =some (some v)/\bQ K F d v
 ow:∀(i:Nat) (d:Dat),ρ[i]? =some (some d)->i∈O->∃v,σ[i]? =some (some v)/\sR K F H0 H d v
 ap:∀(i j:Nat) (d e:Dat) (a:Addr),i∈O->j∈O->(ρ[i]? =some (some d)/\isO d=true)->(ρ[j]? =some (some e)/\isO e=true)->σ[i]? =some (some (.ref a))->σ[j]? =some (some (.ref a))->i=j
noncomputable def sk (O O2:List Nat) (σ:St) (ρ:ak) (b:Addr):Prop:=∃(i:Nat) (d:Dat),i∈O/\i∉O2/\isO d=true/\ρ[i]? =some (some d)/\σ[i]? =some (some (.ref b))
open Classical in
noncomputable def plus (F H:Hp) (A:Addr->Prop):Hp:=fun b=>if A b then H b else F b
open Classical in
noncomputable def minus (F:Hp) (A:Addr->Prop):Hp:=fun b=>if A b then none else F b
theorem zZ {A:Addr->Prop} {b:Addr} (h:A b):plus F H A b=H b:=by unfold plus;rw [if_pos h]
theorem mM {A:Addr->Prop} {b:Addr} (h:¬A b):plus F H A b=F b:=by unfold plus;rw [if_neg h]
theorem xg {A:Addr->Prop} {b:Addr} (h:A b):minus F A b=none:=by unfold minus;rw [if_pos h]
theorem ma {A:Addr->Prop} {b:Addr} (h:¬A b):minus F A b=F b:=by unfold minus;rw [if_neg h]
section
theorem Rep.own (r:Rep K F0 H0 FB O F H σ ρ) {b:Addr} (h:sk O O2 σ ρ b):F b=none/\H0 b=none/\∃o,H b=some o/\isMu o=true:=by
 obtain ⟨i,d,hi,_,hd,e1,e2⟩:=h;obtain ⟨v,e3,q⟩:=r.ow i _ e1 hi;rw [e2] at e3;cases e3;obtain ⟨a,o,e,p,m,f,z⟩:=q.top hd;cases e;exact ⟨f,z,o,p,m⟩
theorem Rep.qA (r:Rep K F0 H0 FB O F H σ ρ):b9 F (plus F H (sk O O2 σ ρ)):=fun b o h=>by
 by_cases hb:sk O O2 σ ρ b
 ·rw [(r.own hb).1] at h;cases h
 ·rw [mM hb];exact h
theorem Rep.mO (r:Rep K F0 H0 FB O F H σ ρ):b9 (plus F H (sk O O2 σ ρ)) H:=fun b o h=>by
 by_cases hb:sk O O2 σ ρ b
 ·rw [zZ hb] at h;exact h
 ·rw [mM hb] at h;exact r.st.fh b o h
theorem Rep.freeze (r:Rep K F0 H0 FB O F H σ ρ) (hs:∀i∈O2,i∈O):Rep K F0 H0 FB O2 (plus F H (sk O O2 σ ρ)) H σ ρ where
 st:=⟨r.st.ff.trans r.qA,r.st.hh,r.mO,fun b o h=>by
  by_cases hb:sk O O2 σ ρ b
  ·exact .inr (r.own hb).2.1
  ·rw [mM hb] at h;exact r.st.nw b o h⟩
 fb:=r.fb.trans r.qA
 len:=r.len
 fz:=fun i d e hi=>by
  by_cases ho:i∈O
  ·obtain ⟨v,e3,q⟩:=r.ow i d e ho;refine ⟨v,e3,?_⟩
   cases hd:isO d with
   |true=>
    obtain ⟨a,_,ev,_⟩:=q.top hd;subst ev;exact q.give hd r.qA (zZ ⟨i,d,ho,hi,hd,e,e3⟩)
   |false=>rw [sR.non hd] at q;exact q.mono r.qA
  ·obtain ⟨v,e3,q⟩:=r.fz i d e ho;exact ⟨v,e3,q.mono r.qA⟩
 ow:=fun i d e hi=>by
  obtain ⟨v,e3,q⟩:=r.ow i d e (hs i hi);refine ⟨v,e3,?_⟩
  cases hd:isO d with
  |true=>
   obtain ⟨a,o,ev,p,_,f,z⟩:=q.top hd;subst ev;refine q.re hd r.qA ?_ fun _ h=>h;have:¬sk O O2 σ ρ a:=fun ⟨j,d',hj,hj2,hd',f1,f2⟩=>by
    have:=r.ap i j d d' a (hs i hi) hj ⟨e,hd⟩ ⟨f1,hd'⟩ e3 f2;subst this;exact hj2 hi
   rw [mM this];exact f
  |false=>rw [sR.non hd] at q ⊢;exact q.mono r.qA
 ap:=fun i j d e a hi hj=>r.ap i j d e a (hs i hi) (hs j hj)
theorem Rep.repE (r:Rep K F0 H0 FB [] F H σ ρ):sQ K F σ ρ:=⟨r.len,fun i d e=>r.fz i d e (by simp)⟩
theorem Rep.sX (r:Rep K F0 H0 FB O F H σ ρ):sQ K (plus F H (sk O [] σ ρ)) σ ρ:=(r.freeze (O2:=[]) (by simp)).repE
noncomputable def erase:List Nat->ak->ak
 |[],ρ=>ρ
 |i::is,ρ=>erase is (ρ.set i none)
theorem yX:∀(O:List Nat) (ρ:ak),(erase O ρ).length=ρ.length
 |[],_=>rfl
 |i::is,ρ=>by rw [erase,yX,List.length_set]
theorem yY:∀(O:List Nat) (ρ:ak) (i:Nat) (d:Dat),(erase O ρ)[i]? =some (some d)->ρ[i]? =some (some d)/\i∉O
 |[],_,_,_,h=>⟨h,by simp⟩
 |j::is,ρ,i,d,h=>by
  obtain ⟨h1,h2⟩:=yY is (ρ.set j none) i d h;by_cases e:j=i
  ·subst e;have hj:j<ρ.length:=by
    have:=(List.getElem?_eq_some_iff.mp h1).1;simpa using this
   rw [List.getElem?_set_self hj] at h1;cases h1
  ·rw [List.getElem?_set_ne e] at h1;exact ⟨h1,by simp [h2];omega⟩
theorem Rep.tF (r:Rep K F0 H0 FB O F H σ ρ):sQ K F σ (erase O ρ):=
 ⟨by rw [yX,r.len],fun i d e=>let ⟨h1,h2⟩:=yY O ρ i d e;r.fz i d h1 h2⟩
theorem Rep.step (r:Rep K F0 H0 FB O F H σ ρ) (s:Step F H F1 H1):Rep K F0 H0 FB O F1 H1 σ ρ where
 st:=r.st.trans s
 fb:=r.fb.trans s.ff
 len:=r.len
 fz:=fun i d e hi=>let ⟨v,e3,q⟩:=r.fz i d e hi;⟨v,e3,q.mono s.ff⟩
 ow:=fun i d e hi=>by
  obtain ⟨v,e3,q⟩:=r.ow i d e hi;refine ⟨v,e3,?_⟩
  cases hd:isO d with
  |true=>
   obtain ⟨a,u,ev,p,_,f,z⟩:=q.top hd;subst ev;refine q.re hd s.ff ?_ (s.hh a);cases e1:F1 a with
   |none=>rfl
   |some o=>
    rcases s.nw a o e1 with h|h
    ·rw [f] at h;cases h
    ·rw [p] at h;cases h
  |false=>rw [sR.non hd] at q ⊢;exact q.mono s.ff
 ap:=r.ap
theorem Rep.qv (r:Rep K F0 H0 FB O F H σ ρ) (s:Step (plus F H (sk O [] σ ρ)) H F1 H1):Rep K F0 H0 FB O (minus F1 (sk O [] σ ρ)) H1 σ ρ:=by
 refine r.step ⟨fun b o h=>?_,s.hh,fun b o h=>?_,fun b o h=>?_⟩
 ·by_cases hb:sk O [] σ ρ b
  ·rw [(r.own hb).1] at h;cases h
  ·rw [ma hb];exact s.ff b o (by rw [mM hb];exact h)
 ·by_cases hb:sk O [] σ ρ b
  ·rw [xg hb] at h;cases h
  ·rw [ma hb] at h;exact s.fh b o h
 ·by_cases hb:sk O [] σ ρ b
  ·rw [xg hb] at h;cases h
  ·rw [ma hb] at h;rcases s.nw b o h with z|z
   ·rw [mM hb] at z;exact .inl z
   ·exact .inr z
theorem Rep.yN (r:Rep K F0 H0 FB O F H σ ρ) (s:Step (plus F H (sk O [] σ ρ)) H F1 H1) (a:Addr) (xs:List V) (h:SqT K F1 a xs):SqT K (minus F1 (sk O [] σ ρ)) a xs:=by
 have key:∀{b:Addr} {o:HO},F1 b=some o->isMu o=false->minus F1 (sk O [] σ ρ) b=some o:=fun {b o} h n=>by
  by_cases hb:sk O [] σ ρ b
  ·obtain ⟨_,_,u,e,m⟩:=r.own hb;have:=s.ff b u (by rw [zZ hb];exact e);rw [h] at this;cases this;rw [n] at m;cases m
  ·rw [ma hb];exact h
 rcases h with (h|⟨o,h⟩)|h
 ·exact .inl (.inl (key h rfl))
 ·exact .inl (.inr ⟨o,key h rfl⟩)
 ·exact .inr h
theorem Rep.set {d:Dat} {v:V} (r:Rep K F0 H0 FB O F H σ ρ) (q:bQ K F d v) (i:Nat):Rep K F0 H0 FB (O.filter (· != i)) F H (σ.set i (some v)) (ρ.set i (some d)) where
 st:=r.st
 fb:=r.fb
 len:=by rw [List.length_set,List.length_set,r.len]
 fz:=fun j e h hj=>by
  by_cases hij:i=j
  ·subst hij;have hi:i<ρ.length:=by
    have:=(List.getElem?_eq_some_iff.mp h).1;simpa using this
   rw [List.getElem?_set_self hi] at h;cases h;exact ⟨v,by rw [List.getElem?_set_self (by rw [<- r.len];exact hi)],q⟩
  ·rw [List.getElem?_set_ne hij] at h;rw [List.getElem?_set_ne hij];exact r.fz j e h fun z=>hj (List.mem_filter.mpr ⟨z,by simpa using Ne.symm hij⟩)
 ow:=fun j e h hj=>by
  obtain ⟨h1,h2⟩:=List.mem_filter.mp hj;have hij:i≠j:=fun z=>by simp [z] at h2
  rw [List.getElem?_set_ne hij] at h ⊢;exact r.ow j e h h1
 ap:=fun j k ds es a hj hk e1 e2 e3 e4=>by
  obtain ⟨j1,j2⟩:=List.mem_filter.mp hj;obtain ⟨k1,k2⟩:=List.mem_filter.mp hk;have hij:i≠j:=fun z=>by simp [z] at j2
  have hik:i≠k:=fun z=>by simp [z] at k2
  rw [List.getElem?_set_ne hij] at e1 e3;rw [List.getElem?_set_ne hik] at e2 e4;exact r.ap j k ds es a j1 k1 e1 e2 e3 e4
theorem Rep.setOwn (r:Rep K F0 H0 FB O F H σ ρ) (q:sR K F H0 H d v) (nw:∀a,v=.ref a->isO d=true->¬sk O [i] σ ρ a):Rep K F0 H0 FB (i::O.filter (· != i)) F H (σ.set i (some v)) (ρ.set i (some d)) where
 st:=r.st
 fb:=r.fb
 len:=by rw [List.length_set,List.length_set,r.len]
 fz:=fun j e h hj=>by
  simp only [List.mem_cons,not_or] at hj;have hij:i≠j:=fun z=>hj.1 z.symm;rw [List.getElem?_set_ne hij] at h ⊢;exact r.fz j e h fun z=>hj.2 (List.mem_filter.mpr ⟨z,by simpa using Ne.symm hij⟩)
 ow:=fun j e h hj=>by
  by_cases hij:i=j
  ·subst hij;have hi:i<ρ.length:=by
    have:=(List.getElem?_eq_some_iff.mp h).1;simpa using this
   rw [List.getElem?_set_self hi] at h;cases h;exact ⟨v,by rw [List.getElem?_set_self (by rw [<- r.len];exact hi)],q⟩
  ·rw [List.getElem?_set_ne hij] at h ⊢;rcases List.mem_cons.mp hj with z|z
   ·exact absurd z.symm hij
   ·exact r.ow j e h (List.mem_filter.mp z).1
 ap:=fun j k ds es a hj hk e1 e2 e3 e4=>by
  have key:∀{k':Nat} {ds' es':Dat},k'∈O->k'≠i->((ρ.set i (some d))[i]? =some (some ds')/\isO ds'=true)->((ρ.set i (some d))[k']? =some (some es')/\isO es'=true)->(σ.set i (some v))[i]? =some (some (.ref a))->(σ.set i (some v))[k']? =some (some (.ref a))->False:=by
   intro k' ds' es' hk' hne f1 f2 f3 f4;have hi:i<ρ.length:=by
    have:=(List.getElem?_eq_some_iff.mp f1.1).1;simpa using this
   rw [List.getElem?_set_self hi] at f1;rw [List.getElem?_set_self (by rw [<- r.len];exact hi)] at f3;rw [List.getElem?_set_ne (Ne.symm hne)] at f2 f4;have z1:v=.ref a:=by simpa using f3
   have z2:d=ds':=by simpa using f1.1
   exact nw a z1 (z2▸f1.2) ⟨k',es',hk',by simpa using hne,f2.2,f2.1,f4⟩
  rcases List.mem_cons.mp hj with zj|zj
  ·rcases List.mem_cons.mp hk with zk|zk
   ·rw [zj,zk]
   ·obtain ⟨k1,k2⟩:=List.mem_filter.mp zk;subst zj;exact (key k1 (by simpa using k2) e1 e2 e3 e4).elim
  ·obtain ⟨j1,j2⟩:=List.mem_filter.mp zj;have hij:i≠j:=fun z=>by simp [z] at j2
   rcases List.mem_cons.mp hk with zk|zk
   ·subst zk;exact (key j1 (Ne.symm hij) e2 e1 e4 e3).elim
   ·obtain ⟨k1,k2⟩:=List.mem_filter.mp zk;have hik:i≠k:=fun z=>by simp [z] at k2
    rw [List.getElem?_set_ne hij] at e1 e3;rw [List.getElem?_set_ne hik] at e2 e4;exact r.ap j k ds es a j1 k1 e1 e2 e3 e4
end
section
theorem Rep.pQ (r:Rep K F0 H0 FB O F H σ ρ) (s:Step (plus F H (sk O [] σ ρ)) H F1 H1):b9 F (minus F1 (sk O [] σ ρ)):=fun b o h=>by
 by_cases hb:sk O [] σ ρ b
 ·rw [(r.own hb).1] at h;cases h
 ·rw [ma hb];exact s.ff b o (by rw [mM hb];exact h)
theorem CV (h:i∉O):O.filter (· != i)=O:=by
 rw [List.filter_eq_self];intro a ha;simp;intro e;exact h (e▸ha)
theorem Rep.set' (r:Rep K F0 H0 FB O F H σ ρ) (q:bQ K F d v) (hi:i∉O):Rep K F0 H0 FB O F H (σ.set i (some v)) (ρ.set i (some d)):=by
 have:=r.set q i;rw [CV hi] at this;exact this
theorem Rep.base {FB':Hp} (r:Rep K F0 H0 FB O F H σ ρ) (s:b9 FB' FB):Rep K F0 H0 FB' O F H σ ρ:=⟨r.st,s.trans r.fb,r.len,r.fz,r.ow,r.ap⟩
theorem Rep.writeO {d':Dat} {u:HO} (r:Rep K F0 H0 FB O F H σ ρ) (hi:i∈O) (e1:ρ[i]? =some (some d)) (hd:isO d=true) (e2:σ[i]? =some (some (.ref a))) (q:F a=none->H0 a=none->sR K F H0 (upd H a u) d' (.ref a)):Rep K F0 H0 FB O F (upd H a u) σ (ρ.set i (some d')):=by
 have ho:F a=none/\H0 a=none/\∃o,H a=some o/\isMu o=true:=r.own (O2:=[]) ⟨i,d,hi,by simp,hd,e1,e2⟩;have hil:i<ρ.length:=(List.getElem?_eq_some_iff.mp e1).1;refine ⟨⟨r.st.ff,fun b o h=>?_,fun b o h=>?_,r.st.nw⟩,r.fb,by rw [List.length_set,r.len],fun j e h hj=>?_,fun j e h hj=>?_,fun j k es fs b hj hk f1 f2 f3 f4=>?_⟩
 ·rw [aw (aY h ho.2.1)];exact r.st.hh b o h
 ·rw [aw (aY h ho.1)];exact r.st.fh b o h
 ·have hij:i≠j:=fun z=>hj (z▸hi);rw [List.getElem?_set_ne hij] at h;exact r.fz j e h hj
 ·by_cases hij:i=j
  ·subst hij;rw [List.getElem?_set_self hil] at h;cases h;exact ⟨.ref a,e2,q ho.1 ho.2.1⟩
  ·rw [List.getElem?_set_ne hij] at h;obtain ⟨v,e3,z⟩:=r.ow j e h hj;refine ⟨v,e3,?_⟩
   cases he:isO e with
   |true=>
    obtain ⟨b,o,ev,p,_,f,_⟩:=z.top he;subst ev;have hab:b≠a:=fun z=>by
     subst z;exact hij (r.ap i j d e b hi hj ⟨e1,hd⟩ ⟨h,he⟩ e2 e3)
    exact z.re he (b9.refl _) f fun o h=>by rw [aw hab];exact h
   |false=>rw [sR.non he] at z ⊢;exact z
 ·have fix:∀{j:Nat} {e:Dat},((ρ.set i (some d'))[j]? =some (some e)/\isO e=true)->∃e',ρ[j]? =some (some e')/\isO e'=true:=fun {j e} f=>by
   by_cases hij:i=j
   ·subst hij;exact ⟨d,e1,hd⟩
   ·rw [List.getElem?_set_ne hij] at f;exact ⟨e,f⟩
  obtain ⟨es',g1⟩:=fix f1;obtain ⟨fs',g2⟩:=fix f2;exact r.ap j k es' fs' b hj hk g1 g2 f3 f4
theorem Rep.write {ds':List Dat} {xs':List V} (r:Rep K F0 H0 FB O F H σ ρ) (hi:i∈O) (e1:ρ[i]? =some (some (.lst ds))) (e2:σ[i]? =some (some (.ref a))) (q:aA K F ds' xs'):Rep K F0 H0 FB O F (upd H a (.lst xs')) σ (ρ.set i (some (.lst ds'))):=
 r.writeO hi e1 rfl e2 fun f z=>⟨a,xs',rfl,ar,f,z,q⟩
noncomputable def Pat.names:Pat->List Nat
 |.nm i=>[i]
 |.tp is=>is
theorem vX {R:St->Hp->Prop}:∀{is:List Nat} {ds:List Dat} {vs:List V} {σ:St} {ρ:ak},Rep K F0 H0 FB O F H σ ρ->(∀i∈is,i∉O)->aA K F ds vs->ds.length=is.length->(∀σ',Rep K F0 H0 FB O F H σ' (oA is ds ρ)->R σ' H)->ll is vs σ H R
 |[],[],_,σ,ρ,r,_,q,_,h=>⟨q,h σ r⟩
 |[],_::_,_,_,_,_,_,_,e,_=>by simp at e
 |_::_,[],_,_,_,_,_,_,e,_=>by simp at e
 |i::is,d::ds,_,σ,ρ,r,n,⟨v,vs,e,q,t⟩,l,h=>⟨v,vs,e,vX (r.set' q (n i (by simp))) (fun j hj=>n j (by simp [hj])) t (by simpa using l) h⟩
theorem ET {R:St->Hp->Prop} {p:Pat} (r:Rep K F0 H0 FB O F H σ ρ) (n:∀i∈p.names,i∉O) (q:bQ K F d v) (e:jg p d ρ=.ok ρ') (h:∀σ',Rep K F0 H0 FB O F H σ' ρ'->R σ' H):gP K p v σ H R:=by
 cases p with
 |nm i=>
  have:=Except.ok.inj e;subst this;exact h _ (r.set' q (n i (by simp [Pat.names])))
 |tp is=>
  cases d with
  |tup ds=>
   have e':(if ds.length=is.length then Except.ok (oA is ds ρ) else Except.error Err.stuck)=Except.ok ρ':=e;by_cases hl:ds.length=is.length
   ·rw [if_pos hl] at e';have:=Except.ok.inj e';subst this;obtain ⟨a,xs,ev,t,z⟩:=q;exact ⟨a,xs,ev,r.st.fh.tup t,by rw [z.length,hl],vX r n z hl h⟩
   ·rw [if_neg hl] at e';cases e'
  |_=>cases e
end
noncomputable def pI (K:Pn) (W:i4) (ro:Bool) (F0 H0 FB:Hp) (OL O':List Nat) (D:Ends) (r:M Flo):Prop:=match r with
 |.ok (.nx ρ)=>∀σ F H,Rep K F0 H0 FB O' F H σ ρ->D.nx σ H
 |.ok (.rt d)=>∀v F H,Step F0 H0 F H->Val K ro F H0 H d v->D.rt v H
 |.ok (.bk ρ)=>∀σ F H,Rep K F0 H0 FB OL F H σ ρ->D.bk σ H
 |.ok (.ct ρ)=>∀σ F H,Rep K F0 H0 FB OL F H σ ρ->D.ct σ H
 |.error e=>W.p e F0 H0
noncomputable def tS (K:Pn) (W:i4) (ro:Bool) (F0 H0:Hp) (OL O O':List Nat) (g:ak->M Flo):TS:=fun D σ H=>∃FB F ρ,Rep K F0 H0 FB O F H σ ρ/\pI K W ro F0 H0 FB OL O' D (g ρ)
noncomputable def f6:ak->M Flo:=fun ρ=>.ok (.nx ρ)
noncomputable def aS (g h:ak->M Flo):ak->M Flo:=fun ρ=>(g ρ).bind fun fl=>match fl with
 |.nx ρ'=>h ρ'
 |fl=>.ok fl
noncomputable def sIf (ft:ak->M Bool) (g h:ak->M Flo):ak->M Flo:=fun ρ=>(ft ρ).bind fun b=>if b=true then g ρ else h ρ
noncomputable def pw:Bool->Dat->Bool
 |true,.lst ds=>qh ds
 |_,d=>kY d
noncomputable def tf (own:Bool) (i:Nat) (f:ak->M Dat):ak->M Flo:=fun ρ=>(f ρ).bind fun d=>if pw own d=true then .ok (.nx (ρ.set i (some d))) else .error .stuck
noncomputable def aD (O:List Nat) (i:Nat) (f:ak->M Dat):ak->M Flo:=fun ρ=>(f (erase O ρ)).bind fun d=>.ok (.nx (ρ.set i (some d)))
noncomputable def wK (O:List Nat) (p:Pat) (f:ak->M Dat):ak->M Flo:=fun ρ=>(f (erase O ρ)).bind fun d=>(jg p d ρ).bind fun ρ'=>.ok (.nx ρ')
noncomputable def kW (ρ:ak) (i:Nat):M (List Dat):=match ρ[i]? with
 |some (some (.lst ds))=>.ok ds
 |_=>.error .stuck
noncomputable def put (ρ:ak) (i:Nat) (ds:List Dat):M Flo:=.ok (.nx (ρ.set i (some (.lst ds))))
noncomputable def kT (O:List Nat) (i:Nat) (f:ak->M Dat):ak->M Flo:=fun ρ=>(kW ρ i).bind fun ds=>(f (erase O ρ)).bind fun d=>if ds.length<sizeLine then put ρ i (ds++[d]) else .error .stuck
noncomputable def asI:Dat->M Int
 |.int i=>.ok i
 |_=>.error .stuck
noncomputable def wM (i:Nat) (fi f:ak->M Dat):ak->M Flo:=fun ρ=>(f ρ).bind fun d=>(kW ρ i).bind fun ds=>(fi ρ).bind fun k=>(asI k).bind fun k=>if kY d=true then (match ixN ds.length k with
 |some j=>put ρ i (ds.set j d)
 |none=>.error .stuck) else .error .stuck
noncomputable def dR (f:ak->M Dat):ak->M Flo:=fun ρ=>(f ρ).bind fun d=>.ok (.rt d)
noncomputable def isL:Dat->Bool
 |.lst _=>true
 |_=>false
noncomputable def nk (p:Pat) (g:ak->M Flo):List Dat->ak->M Flo
 |[],ρ=>.ok (.nx ρ)
 |d::ds,ρ=>(jg p d ρ).bind fun ρ1=>(g ρ1).bind fun fl=>match fl with
  |.nx ρ2=>nk p g ds ρ2
  |.ct ρ2=>nk p g ds ρ2
  |.bk ρ2=>.ok (.nx ρ2)
  |.rt d=>.ok (.rt d)
noncomputable def sV (O:List Nat) (fi:ak->M (List Dat)) (p:Pat) (g:ak->M Flo):ak->M Flo:=fun ρ=>(fi (erase O ρ)).bind fun ds=>nk p g ds ρ
noncomputable def fY (ft:ak->M Bool) (g:ak->M Flo):Nat->ak->M Flo
 |0,_=>.error .stuck
 |n+1,ρ=>(ft ρ).bind fun b=>if b=true then (g ρ).bind fun fl=>match fl with
  |.nx ρ2=>fY ft g n ρ2
  |.ct ρ2=>fY ft g n ρ2
  |.bk ρ2=>.ok (.nx ρ2)
  |.rt d=>.ok (.rt d) else .ok (.nx ρ)
section
variable {W:i4} {own:Bool} {h:ak->M Flo} {f fi:ak->M Dat} 
theorem pI.err {x:M Flo} {e:Err} (p:pI K W ro F0 H0 FB OL O' D x) (h:x=.error e):W.p e F0 H0:=by rw [h] at p;exact p
theorem pI.uG {x:M Flo} {e:Err} (p:pI K W ro F0 H0 FB OL O' D x) (s:Step F0 H0 F H) (h:x=.error e):W.p e F H:=W.mono (p.err h) s
theorem pI.stuck {x:M Flo} {P:Prop} (p:pI K W ro F0 H0 FB OL O' D x) (h:x=.error .stuck):P:=(W.ns (p.err h)).elim
theorem tS.enter (hs:∀i∈O2,i∈O) (t:tS K W ro F0 H0 OL O O' g D σ H):tS K W ro F0 H0 OL O2 O' g D σ H:=by
 obtain ⟨FB,F,ρ,r,p⟩:=t;exact ⟨FB,_,ρ,r.freeze hs,p⟩
theorem rs_next (t:tS K W ro F0 H0 OL O O f6 D σ H):tNext D σ H:=by
 obtain ⟨FB,F,ρ,r,p⟩:=t;exact p σ F H r
theorem rs_seq (t:tS K W ro F0 H0 OL O O2 (aS g h) D σ H):tSeq (tS K W ro F0 H0 OL O O' g) (tS K W ro F0 H0 OL O' O2 h) D σ H:=by
 obtain ⟨FB,F,ρ,r,p⟩:=t;refine ⟨FB,F,ρ,r,?_⟩
 unfold aS at p;cases e:g ρ with
 |error x=>exact p.err (by rw [e];rfl)
 |ok fl=>
  rw [e] at p;cases fl with
  |nx ρ'=>exact fun σ' F' H' r'=>⟨FB,F',ρ',r',p⟩
  |rt d=>exact p
  |bk ρ'=>exact p
  |ct ρ'=>exact p
theorem rs_if (t:tS K W ro F0 H0 OL O O' (sIf ft g h) D σ H):tIfS (tDT K W ft) (tS K W ro F0 H0 OL O O' g) (tS K W ro F0 H0 OL O O' h) D σ H:=by
 obtain ⟨FB,F,ρ,r,p⟩:=t;refine qu r.sX r.mO (fun e he=>p.uG (r.freeze (O2:=[]) (by simp)).st (by unfold sIf;rw [he];rfl)) fun b hb F1 H1 s1=>?_;have z:sIf ft g h ρ=if b=true then g ρ else h ρ:=by unfold sIf;rw [hb];rfl
 rw [z] at p;cases b with
 |true=>exact ⟨FB,_,ρ,r.qv s1,p⟩
 |false=>exact ⟨FB,_,ρ,r.qv s1,p⟩
noncomputable def aft (own:Bool) (i:Nat) (O:List Nat):List Nat:=if own=true then i::O.filter (· != i) else O.filter (· != i)
theorem Rep.bindV (r:Rep K F0 H0 FB O F H σ ρ) (q:Val K own F H2 H d v) (h2:b9 H0 H2) (nw:∀a,sk O [] σ ρ a->∃o,H2 a=some o):Rep K F0 H0 FB (aft own i O) F H (σ.set i (some v)) (ρ.set i (some d)):=by
 cases own with
 |false=>exact r.set q i
 |true=>
  refine r.setOwn (sR.back h2 q) fun a ha hd z=>?_;subst ha;obtain ⟨b,_,e,_,_,_,n⟩:=sR.top hd q;cases e;obtain ⟨j,es,h1,h2,h3,h4,h5⟩:=z;obtain ⟨o,ho⟩:=nw a ⟨j,es,h1,by simp,h3,h4,h5⟩;rw [n] at ho;cases ho
theorem zV (t:tS K W ro F0 H0 OL O (aft own i O) (aD O i f) D σ H):Cg (tD K W own f) (rQ i) D σ H:=by
 obtain ⟨FB,F,ρ,r,p⟩:=t;refine bL r.tF r.st.fh (fun e he=>p.uG r.st (by unfold aD;rw [he];rfl)) fun d hd v F1 H1 s1 q=>?_;have z:aD O i f ρ=.ok (.nx (ρ.set i (some d))):=by unfold aD;rw [hd];rfl
 rw [z] at p;exact p _ F1 H1 ((r.step s1).bindV q r.st.hh fun a ha=>let ⟨_,_,_,e,_⟩:=r.own ha;⟨_,e⟩)
theorem Rep.flatV (r:Rep K F0 H0 FB O F H σ ρ) (s:Step (plus F H (sk O [] σ ρ)) H F1 H1) (q:Val K own F1 H H1 d v) (fl:pw own d=true):Val K own (minus F1 (sk O [] σ ρ)) H H1 d v:=by
 have none_of:∀{a:Addr},F1 a=none->minus F1 (sk O [] σ ρ) a=none:=fun {a} h=>by
  by_cases hb:sk O [] σ ρ a
  ·exact xg hb
  ·rw [ma hb];exact h
 cases own with
 |false=>exact bQ.flat (r.yN s) (by cases d<;>exact fl) q
 |true=>
  cases d with
  |lst ds=>
   obtain ⟨a,xs,e,p,n,z,t⟩:=q;exact ⟨a,xs,e,p,none_of n,z,t.flat (r.yN s) fl⟩
  |non=>exact q
  |bl b=>exact q
  |int i=>exact q
  |str x=>exact q
  |tup ds=>exact bQ.flat (d:=.tup ds) (r.yN s) fl q
  |ins C fs=>exact bQ.flat (d:=.ins C fs) (r.yN s) fl q
  |dic ks=>cases fl
theorem DL (t:tS K W ro F0 H0 OL O (aft own i O) (tf own i f) D σ H):Cg (tD K W own f) (rQ i) D σ H:=by
 obtain ⟨FB,F,ρ,r,p⟩:=t;refine bL r.sX r.mO (fun e he=>p.uG (r.freeze (O2:=[]) (by simp)).st (by unfold tf;rw [he];rfl)) fun d hd v F1 H1 s1 q=>?_;have z:tf own i f ρ=if pw own d=true then .ok (.nx (ρ.set i (some d))) else .error .stuck:=by unfold tf;rw [hd];rfl
 rw [z] at p;by_cases hf:pw own d=true
 ·rw [if_pos hf] at p;exact p _ _ H1 ((r.qv s1).bindV (r.flatV s1 q hf) r.st.hh fun a ha=>let ⟨_,_,_,e,_⟩:=r.own ha;⟨_,e⟩)
 ·rw [if_neg hf] at p;exact p.stuck rfl
theorem rs_unpB {pt:Pat} (n:∀i∈pt.names,i∉O) (t:tS K W ro F0 H0 OL O O (wK O pt f) D σ H):Cg (tD K W false f) (gP K pt) D σ H:=by
 obtain ⟨FB,F,ρ,r,p⟩:=t;refine bL r.tF r.st.fh (fun e he=>p.uG r.st (by unfold wK;rw [he];rfl)) fun d hd v F1 H1 s1 q=>?_;have z:wK O pt f ρ=(jg pt d ρ).bind fun ρ'=>.ok (.nx ρ'):=by unfold wK;rw [hd];rfl
 rw [z] at p;cases e:jg pt d ρ with
 |error x=>
  have:=rZ e;subst this;exact p.stuck (by rw [e];rfl)
 |ok ρ'=>
  rw [e] at p;exact ET (r.step s1) n q e fun σ' r'=>p σ' F1 H1 r'
theorem pT (h:kW ρ i=.ok ds):ρ[i]? =some (some (.lst ds)):=by
 unfold kW at h;split at h
 ·cases h;assumption
 ·cases h
theorem rL {e:Err} (h:kW ρ i=.error e):e=.stuck:=by
 unfold kW at h;split at h
 ·cases h
 ·cases h;rfl
theorem Rep.Eu (r:Rep K F0 H0 FB O F H σ ρ) (hi:i∈O) (e:ρ[i]? =some (some (.lst ds))):∃a xs,σ[i]? =some (some (.ref a))/\H a=some (.lst xs)/\aA K F ds xs:=by
 obtain ⟨v,e3,a,xs,ev,p,_,_,t⟩:=r.ow i _ e hi;subst ev;exact ⟨a,xs,e3,p,t⟩
noncomputable def tApp (K:Pn) (i:Nat) (te:TE):TS:=tDrop (tBM K "list" DN (tVar i) (wC te tNil))
theorem rs_appB (hi:i∈O) (t:tS K W ro F0 H0 OL O O (kT O i f) D σ H):tApp K i (tD K W false f) D σ H:=by
 obtain ⟨FB,F,ρ,r,p⟩:=t;cases hl:kW ρ i with
 |error e=>
  have:=rL hl;subst this;exact p.stuck (by unfold kT;rw [hl];rfl)
 |ok ds=>
  obtain ⟨a,xs,e2,ha,z⟩:=r.Eu hi (pT hl);refine ⟨.ref a,e2,Ba ha,?_⟩
  refine bL r.tF r.st.fh (fun e he=>p.uG r.st (by unfold kT;rw [hl];show (f (erase O ρ)).bind _=_;rw [he];rfl)) fun d hd v F1 H1 s1 q=>?_;have ez:kT O i f ρ=if ds.length<sizeLine then put ρ i (ds++[d]) else .error .stuck:=by unfold kT;rw [hl];show (f (erase O ρ)).bind _=_;rw [hd];rfl
  rw [ez] at p;by_cases hs:ds.length<sizeLine
  ·rw [if_pos hs] at p;exact ⟨a,xs,v,rfl,rfl,s1.hh _ _ ha,by rw [z.length];exact hs,p σ F1 _ ((r.step s1).write hi (pT hl) e2 (aA.append (z.mono s1.ff) ⟨v,[],rfl,q,rfl⟩))⟩
  ·rw [if_neg hs] at p;exact p.stuck rfl
theorem rs_setI (hi:i∈O) (t:tS K W ro F0 H0 OL O O (wM i fi f) D σ H):Cg (tD K W false f) (gSub (tVar i) (tD K W false fi) rSetL) D σ H:=by
 obtain ⟨FB,F,ρ,r,p⟩:=t;refine bL r.sX r.mO (fun e he=>p.uG (r.freeze (O2:=[]) (by simp)).st (by unfold wM;rw [he];rfl)) fun d hd v F1 H1 s1 q=>?_;have ez:wM i fi f ρ=(kW ρ i).bind fun ds=>(fi ρ).bind fun k=>(asI k).bind fun k=>if kY d=true then (match ixN ds.length k with
  |some j=>put ρ i (ds.set j d)
  |none=>.error .stuck) else .error .stuck:=by unfold wM;rw [hd];rfl
 rw [ez] at p;cases hl:kW ρ i with
 |error e=>
  have:=rL hl;subst this;exact p.stuck (by rw [hl];rfl)
 |ok ds=>
  rw [hl] at p;have p:pI K W ro F0 H0 FB OL O D ((fi ρ).bind fun k=>(asI k).bind fun k=>if kY d=true then (match ixN ds.length k with
   |some j=>put ρ i (ds.set j d)
   |none=>.error .stuck) else .error .stuck):=p
  have r1:=r.qv s1;obtain ⟨a,xs,e2,ha,z⟩:=r1.Eu hi (pT hl);refine ⟨.ref a,e2,?_⟩
  refine bL r1.sX r1.mO (fun e he=>p.uG (r1.freeze (O2:=[]) (by simp)).st (by rw [he];rfl)) fun k hk w F2 H2 s2 q2=>?_;rw [hk] at p;cases k with
  |int k=>
   have p:pI K W ro F0 H0 FB OL O D (if kY d=true then (match ixN ds.length k with
    |some j=>put ρ i (ds.set j d)
    |none=>.error .stuck) else .error .stuck):=p
   by_cases hf:kY d=true
   ·rw [if_pos hf] at p;cases hj:ixN ds.length k with
    |none=>rw [hj] at p;exact p.stuck rfl
    |some j=>
     rw [hj] at p;refine ⟨a,xs,k,j,rfl,q2,s2.hh _ _ ha,by rw [z.length];exact hj,?_⟩
     have qd:bQ K (minus F1 (sk O [] σ ρ)) d v:=bQ.flat (r.yN s1) hf q;exact p σ _ _ ((r1.qv s2).write hi (pT hl) e2 (aA.set (qd.mono (r1.pQ s2)) j (z.mono (r1.pQ s2))))
   ·rw [if_neg hf] at p;exact p.stuck rfl
  |_=>exact p.stuck rfl
theorem rs_ret (t:tS K W ro F0 H0 OL O O' (dR f) D σ H):tRet (tD K W ro f) D σ H:=by
 obtain ⟨FB,F,ρ,r,p⟩:=t;have rf:=r.freeze (O2:=[]) (by simp);refine bL r.sX r.mO (fun e he=>p.uG rf.st (by unfold dR;rw [he];rfl)) fun d hd v F1 H1 s1 q=>?_;have z:dR f ρ=.ok (.rt d):=by unfold dR;rw [hd];rfl
 rw [z] at p;exact p v F1 H1 (rf.st.trans s1) (q.back r.st.hh)
theorem rs_retV (hi:i∈O) (t:tS K W true F0 H0 OL O O' (dR (af i)) D σ H):tRet (tVar i) D σ H:=by
 obtain ⟨FB,F,ρ,r,p⟩:=t;unfold dR af at p
 match e:ρ[i]? with
 |some (some d)=>
  rw [e] at p;obtain ⟨v,e3,q⟩:=r.ow i d e hi;exact ⟨v,e3,p v F H r.st q⟩
 |some none=>rw [e] at p;exact p.stuck rfl
 |none=>rw [e] at p;exact p.stuck rfl
theorem rs_for {fs:ak->M (List Dat)} {pt:Pat} (n:∀i∈pt.names,i∉O) (t:tS K W ro F0 H0 OL O O (sV O fs pt g) D σ H):tFor (iD K W fs) (gP K pt) (tS K W ro F0 H0 O O O g) D σ H:=by
 obtain ⟨FB,F,ρ,r,p⟩:=t;refine ⟨F,erase O ρ,r.tF,r.st.fh,?_⟩
 cases e:fs (erase O ρ) with
 |error x=>exact p.uG r.st (by unfold sV;rw [e];rfl)
 |ok ds=>
  have z:sV O fs pt g ρ=nk pt g ds ρ:=by unfold sV;rw [e];rfl
  rw [z] at p;intro J F1 H1 s1 it;refine ⟨fun i m σ H=>∃F ρ,Rep K F0 H0 F1 O F H σ ρ/\i<=ds.length/\m=ds.length-i/\pI K W ro F0 H0 FB OL O D (nk pt g (ds.drop i) ρ),⟨ds.length,F1,ρ,?_,Nat.zero_le _,by omega,by rw [List.drop_zero];exact p⟩,?_⟩
  ·have r1:=r.step s1;exact ⟨r1.st,b9.refl _,r1.len,r1.fz,r1.ow,r1.ap⟩
  ·rintro i m σ2 H2 ⟨F2,ρ2,r2,hi,rfl,p2⟩;by_cases hlt:i<ds.length
   ·have ed:ds.drop i=ds[i]::ds.drop (i+1):=List.drop_eq_getElem_cons hlt;rw [ed] at p2;refine .inr ⟨it.go i F2 H2 r2.fb r2.st.fh hlt,fun σ' H'=>(∃F ρ,Rep K F0 H0 F1 O F H' σ' ρ/\pI K W ro F0 H0 FB OL O D (nk pt g (ds.drop (i+1)) ρ)),fun σ' H' ⟨F,ρ,r,p⟩=>⟨ds.length-(i+1),by omega,F,ρ,r,hlt,rfl,p⟩,fun x H' y=>?_⟩;obtain ⟨F3,s3,q3⟩:=it.yl i F2 H2 x H' ds[i] r2.fb r2.st.fh (by simp [hlt]) y;have ef:nk pt g (ds[i]::ds.drop (i+1)) ρ2=(jg pt ds[i] ρ2).bind fun ρ1=>(g ρ1).bind fun fl=>match fl with
     |.nx ρ2=>nk pt g (ds.drop (i+1)) ρ2
     |.ct ρ2=>nk pt g (ds.drop (i+1)) ρ2
     |.bk ρ2=>.ok (.nx ρ2)
     |.rt d=>.ok (.rt d):=by rw [nk]
    rw [ef] at p2;cases eb:jg pt ds[i] ρ2 with
    |error x=>
     have:=rZ eb;subst this;exact p2.stuck (by rw [eb];rfl)
    |ok ρ3=>
     rw [eb] at p2;have p2:pI K W ro F0 H0 FB OL O D ((g ρ3).bind fun fl=>match fl with
      |.nx ρ2=>nk pt g (ds.drop (i+1)) ρ2
      |.ct ρ2=>nk pt g (ds.drop (i+1)) ρ2
      |.bk ρ2=>.ok (.nx ρ2)
      |.rt d=>.ok (.rt d)):=p2
     refine ET (r2.step s3) n q3 eb fun σ4 r4=>⟨F1,F3,ρ3,r4,?_⟩
     have fb1:b9 FB F1:=(r.step s1).fb;cases eg:g ρ3 with
     |error x=>exact p2.err (by rw [eg];rfl)
     |ok fl=>
      rw [eg] at p2;cases fl with
      |nx ρ5=>exact fun σ' F' H' r'=>⟨F',ρ5,r',p2⟩
      |ct ρ5=>exact fun σ' F' H' r'=>⟨F',ρ5,r',p2⟩
      |bk ρ5=>exact fun σ' F' H' r'=>p2 σ' F' H' (r'.base fb1)
      |rt d=>exact p2
   ·have:i=ds.length:=by omega
    subst this;rw [List.drop_length] at p2;exact .inl ⟨it.st F2 H2 r2.fb r2.st.fh,p2 σ2 F2 H2 (r2.base (r.step s1).fb)⟩
theorem rs_while {m:Nat} (t:tS K W ro F0 H0 OL O O (fY ft g m) D σ H):tWhile (tDT K W ft) (tS K W ro F0 H0 O O O g) D σ H:=by
 refine ⟨fun m σ H=>tS K W ro F0 H0 OL O O (fY ft g m) D σ H,⟨m,t⟩,?_⟩
 rintro m σ H ⟨FB,F,ρ,r,p⟩;cases m with
 |zero=>exact p.stuck rfl
 |succ m=>
  have ez:fY ft g (m+1) ρ=(ft ρ).bind fun b=>if b=true then (g ρ).bind fun fl=>match fl with
   |.nx ρ2=>fY ft g m ρ2
   |.ct ρ2=>fY ft g m ρ2
   |.bk ρ2=>.ok (.nx ρ2)
   |.rt d=>.ok (.rt d) else .ok (.nx ρ):=by rw [fY]
  rw [ez] at p;refine qu r.sX r.mO (fun e he=>p.uG (r.freeze (O2:=[]) (by simp)).st (by rw [he];rfl)) fun b hb F1 H1 s1=>?_;rw [hb] at p;have r1:=r.qv s1;cases b with
  |false=>exact p σ _ H1 r1
  |true=>
   have p:pI K W ro F0 H0 FB OL O D ((g ρ).bind fun fl=>match fl with
    |.nx ρ2=>fY ft g m ρ2
    |.ct ρ2=>fY ft g m ρ2
    |.bk ρ2=>.ok (.nx ρ2)
    |.rt d=>.ok (.rt d)):=p
   refine ⟨fun σ' H'=>tS K W ro F0 H0 OL O O (fY ft g m) D σ' H',fun σ' H' n=>⟨m,Nat.lt_succ_self _,n⟩,FB,_,ρ,r1,?_⟩
   cases eg:g ρ with
   |error x=>exact p.err (by rw [eg];rfl)
   |ok fl=>
    rw [eg] at p;cases fl with
    |nx ρ5=>exact fun σ' F' H' r'=>⟨FB,F',ρ5,r',p⟩
    |ct ρ5=>exact fun σ' F' H' r'=>⟨FB,F',ρ5,r',p⟩
    |bk ρ5=>exact fun σ' F' H' r'=>p σ' F' H' r'
    |rt d=>exact p
end
noncomputable def stk:M α:=.error .stuck
noncomputable def jS:Dat->Dat->M Dat
 |.int i,.int j=>.ok (.int (i+j))
 |.str x,.str y=>if x.length+y.length<=sizeLine then .ok (.str (x++y)) else stk
 |.lst xs,.lst ys=>if xs.length+ys.length<=sizeLine then .ok (.lst (xs++ys)) else stk
 |.tup xs,.tup ys=>if xs.length+ys.length<=sizeLine then .ok (.tup (xs++ys)) else stk
 |_,_=>stk
noncomputable def tZ:Dat->Dat->M Dat
 |.int i,.int j=>.ok (.int (i-j))
 |_,_=>stk
noncomputable def gq (i:Int):Bool:=decide (-(2^64)<i)&&decide (i<2^64)
noncomputable def ug:Dat->Dat->M Dat
 |.int i,.int j=>if (gq i||gq j)=true then .ok (.int (i*j)) else stk
 |_,_=>stk
noncomputable def i5:Dat->Dat->M Dat
 |.int i,.int j=>if (decide (0<j)&&decide (j<18446744073709551616))=true then .ok (.int (i/j)) else stk
 |_,_=>stk
noncomputable def lL:Dat->Dat->M Dat
 |.int i,.int j=>if 0<j then .ok (.int (i%j)) else stk
 |_,_=>stk
noncomputable def rA:Dat->Dat->M Dat
 |.int i,.int j=>if (decide (0<=j)&&decide (j<=1000000)&&decide (i.natAbs<2^64))=true then .ok (.int (i^j.toNat)) else stk
 |_,_=>stk
noncomputable def negD:Dat->M Dat
 |.int i=>.ok (.int (-i))
 |_=>stk
noncomputable def ltD:Dat->Dat->M Dat
 |.int i,.int j=>.ok (.bl (decide (i<j)))
 |_,_=>stk
noncomputable def leD:Dat->Dat->M Dat
 |.int i,.int j=>.ok (.bl (decide (i<=j)))
 |_,_=>stk
noncomputable def gtD:Dat->Dat->M Dat
 |.int i,.int j=>.ok (.bl (decide (j<i)))
 |_,_=>stk
noncomputable def geD:Dat->Dat->M Dat
 |.int i,.int j=>.ok (.bl (decide (j<=i)))
 |_,_=>stk
noncomputable def b2z (b:Bool):Int:=if b then 1 else 0
mutual
noncomputable def eqD:Dat->Dat->Bool
 |.non,.non=>true
 |.bl a,.bl b=>a==b
 |.bl a,.int b=>b2z a==b
 |.int a,.bl b=>a==b2z b
 |.int a,.int b=>a==b
 |.str a,.str b=>a==b
 |.tup xs,.tup ys=>ot xs ys
 |.lst xs,.lst ys=>ot xs ys
 |_,_=>false
noncomputable def ot:List Dat->List Dat->Bool
 |[],[]=>true
 |d::ds,e::es=>eqD d e&&ot ds es
 |_,_=>false
end
mutual
noncomputable def okE:Dat->Nat->Bool
 |.tup ds,n=>(match n with
  |0=>false
  |n+1=>kU ds n)
 |.lst ds,n=>(match n with
  |0=>false
  |n+1=>kU ds n)
 |.ins _ _,_=>false
 |.dic _,_=>false
 |.non,_=>true
 |.bl _,_=>true
 |.int _,_=>true
 |.str _,_=>true
noncomputable def kU:List Dat->Nat->Bool
 |[],_=>true
 |d::ds,n=>okE d n&&kU ds n
end
noncomputable def eqM (a b:Dat):M Dat:=if (okE a 40&&okE b 40)=true then .ok (.bl (eqD a b)) else stk
noncomputable def neM (a b:Dat):M Dat:=if (okE a 40&&okE b 40)=true then .ok (.bl (!eqD a b)) else stk
noncomputable def inM (a b:Dat):M Dat:=(yR b).bind fun ds=>if (okE a 40&&kU ds 40)=true then .ok (.bl (ds.any fun d=>eqD d a)) else stk
noncomputable def D9:Dat->Dat->M Dat
 |.non,.non=>.ok (.bl true)
 |_,.non=>.ok (.bl false)
 |_,_=>stk
noncomputable def mx (ds:List Dat) (i:Int):M Dat:=match atI ds i with
 |some d=>.ok d
 |none=>stk
noncomputable def ixD:Dat->Dat->M Dat
 |.lst ds,.int i=>mx ds i
 |.tup ds,.int i=>mx ds i
 |_,_=>stk
noncomputable def tH:List Dat->M Dat
 |[.lst ds]=>.ok (.int ds.length)
 |[.tup ds]=>.ok (.int ds.length)
 |_=>stk
noncomputable def hU:List Dat->M (List Bool)
 |[]=>.ok []
 |d::ds=>(asB d).bind fun b=>(hU ds).bind fun r=>.ok (b::r)
noncomputable def cV:List Dat->M (List Int)
 |[]=>.ok []
 |d::ds=>(asI d).bind fun b=>(cV ds).bind fun r=>.ok (b::r)
noncomputable def allD:List Dat->M Dat
 |[.lst ds]=>(hU ds).bind fun bs=>.ok (.bl (bs.all id))
 |_=>stk
noncomputable def anyD:List Dat->M Dat
 |[.lst ds]=>(hU ds).bind fun bs=>.ok (.bl (bs.any id))
 |_=>stk
noncomputable def sumD:List Dat->M Dat
 |[.lst ds]=>(cV ds).bind fun is=>.ok (.int is.sum)
 |_=>stk
noncomputable def CK:List Dat->M Dat
 |[.lst ds]=>.ok (.lst ds)
 |[.tup ds]=>.ok (.lst ds)
 |_=>stk
noncomputable def intD:List Dat->M Dat
 |[.int i]=>.ok (.int i)
 |[.bl b]=>.ok (.int (b2z b))
 |_=>stk
noncomputable def kS (i j:Int):Int:=if j>i then j else i
noncomputable def kb (i j:Int):Int:=if j<i then j else i
noncomputable def maxL:List Int->M Dat
 |[]=>stk
 |i::is=>.ok (.int (is.foldl kS i))
noncomputable def minL:List Int->M Dat
 |[]=>stk
 |i::is=>.ok (.int (is.foldl kb i))
noncomputable def maxD:List Dat->M Dat
 |[.int i,.int j]=>.ok (.int (kS i j))
 |[.lst ds]=>(cV ds).bind maxL
 |_=>stk
noncomputable def minD:List Dat->M Dat
 |[.int i,.int j]=>.ok (.int (kb i j))
 |[.lst ds]=>(cV ds).bind minL
 |_=>stk
noncomputable def tK:Dat->M Dat
 |.int _=>.ok (.bl true)
 |.bl _=>.ok (.bl true)
 |.ins _ _=>stk
 |.dic _=>stk
 |_=>.ok (.bl false)
noncomputable def rO:Dat->M Dat
 |.bl _=>.ok (.bl true)
 |.ins _ _=>stk
 |.dic _=>stk
 |_=>.ok (.bl false)
noncomputable def rN:Dat->M Dat
 |.lst _=>.ok (.bl true)
 |.ins _ _=>stk
 |.dic _=>stk
 |_=>.ok (.bl false)
noncomputable def vR:Dat->M Dat
 |.tup _=>.ok (.bl true)
 |.ins _ _=>stk
 |.dic _=>stk
 |_=>.ok (.bl false)
noncomputable def fLR (fr:ak->M (List Dat)):ak->M Dat:=fun ρ=>(fr ρ).bind dw
noncomputable def kZ:Nat->List Dat->List Dat
 |_,[]=>[]
 |k,d::ds=>.tup [.int k,d]::kZ (k+1) ds
noncomputable def oh:Dat->M (List Dat)
 |.lst ds=>.ok ds
 |_=>.error .stuck
noncomputable def vn (fa:ak->M Dat):ak->M (List Dat):=fun ρ=>(fa ρ).bind fun d=>(oh d).bind fun ds=>.ok (kZ 0 ds)
noncomputable def l3:List Dat->List Dat->List Dat
 |d::ds,e::es=>.tup [d,e]::l3 ds es
 |_,_=>[]
noncomputable def BI (fa fb:ak->M Dat):ak->M (List Dat):=fun ρ=>(fa ρ).bind fun a=>(fb ρ).bind fun b=>(oh a).bind fun ds=>(oh b).bind fun es=>.ok (l3 ds es)
noncomputable def cb (nN n:Nat) (g:ak->M Flo) (ds:List Dat):M Dat:=if ds.length=n then (g (ds.map some++List.replicate (nN-ds.length) none)).bind fun fl=>match fl with
 |.nx _=>.ok .non
 |.rt d=>.ok d
 |_=>stk else stk
noncomputable def zY (ds:List Dat) (k:Dat):M (Dat×List Dat):=(asI k).bind fun k=>if sizeLine<ds.length then stk else match ixN ds.length k with
 |some j=>match ds[j]? with
  |some d=>.ok (d,ds.eraseIdx j)
  |none=>stk
 |none=>stk
noncomputable def sPop (i j:Nat) (fk:ak->M Dat):ak->M Flo:=fun ρ=>(kW ρ i).bind fun ds=>(fk ρ).bind fun k=>(zY ds k).bind fun p=>.ok (.nx ((ρ.set i (some (.lst p.2))).set j (some p.1)))
noncomputable def DJ (i:Nat) (pt:Pat) (fk:ak->M Dat):ak->M Flo:=fun ρ=>(kW ρ i).bind fun ds=>(fk ρ).bind fun k=>(zY ds k).bind fun p=>(jg pt p.1 (ρ.set i (some (.lst p.2)))).bind fun ρ'=>.ok (.nx ρ')
@[simp] theorem az {α β:Type} (a:α) (f:α->M β):Except.bind (Except.ok a:M α) f=f a:=id rfl
@[simp] theorem nA {α β:Type} (e:Err) (f:α->M β):Except.bind (Except.error e:M α) f=.error e:=id rfl
@[simp] theorem mi:∀is:List Int,cV (is.map Dat.int)=.ok is
 |[]=>rfl
 |i::is=>by simp [cV,asI,mi is]
@[simp] theorem D2:∀is:List Bool,hU (is.map Dat.bl)=.ok is
 |[]=>rfl
 |i::is=>by simp [hU,asB,D2 is]
@[simp] theorem Ek (n:Nat):∀is:List Int,kU (is.map Dat.int) n=true
 |[]=>by simp [kU]
 |i::is=>by simp [kU,okE,Ek n is]
@[simp] theorem Ah:∀is:List Int,qh (is.map Dat.int)=true
 |[]=>rfl
 |i::is=>by simp [qh,kY,Ah is]
@[simp] theorem EZ:∀is js:List Int,ot (is.map Dat.int) (js.map Dat.int)=decide (is=js)
 |[],[]=>by simp [ot]
 |[],_::_=>by simp [ot]
 |_::_,[]=>by simp [ot]
 |i::is,j::js=>by
  simp only [List.map_cons,ot,eqD,EZ is js,List.cons.injEq];rw [Bool.eq_iff_iff];simp
theorem jD (h:k<ds.length):mx ds (k:Int)=.ok ds[k]:=by
 unfold mx atI ixN;rw [if_pos (by omega),if_pos (by omega)];simp [h]
theorem getI_int {is:List Int} {k:Int} (h0:0<=k) (h:k<is.length):mx (is.map Dat.int) k=.ok (.int (is[k.toNat]'(by omega))):=by
 have hj:k.toNat<(is.map Dat.int).length:=by simp;omega
 have e:k=(k.toNat:Int):=by omega
 have:=jD hj;rw [<- e] at this;rw [this];simp
theorem cz {p:Pat} {g:ak->M Flo} (P:Nat->ak->Prop):∀(ds:List Dat) (k:Nat) (ρ:ak),P k ρ ->
  (∀(i:Nat) (d:Dat) (ρ:ak),ds[i]? =some d->P (k+i) ρ->∃ρ1,jg p d ρ=.ok ρ1/\∃ρ2,(g ρ1=.ok (.nx ρ2)\/g ρ1=.ok (.ct ρ2))/\P (k+i+1) ρ2)->∃ρ',nk p g ds ρ=.ok (.nx ρ')/\P (k+ds.length) ρ'
 |[],k,ρ,h,_=>⟨ρ,rfl,h⟩
 |d::ds,k,ρ,h,st=>by
  obtain ⟨ρ1,e1,ρ2,e2,h2⟩:=st 0 d ρ rfl h;obtain ⟨ρ',e3,h3⟩:=cz P ds (k+1) ρ2 h2 fun i d' ρ he hp=>by
   have:=st (i+1) d' ρ (by simpa using he) (by rw [show k+(i+1)=k+1+i by omega];exact hp);rw [show k+(i+1)+1=k+1+i+1 by omega] at this;exact this
  refine ⟨ρ',?_,by rw [show k+(d::ds).length=k+1+ds.length by simp;omega];exact h3⟩
  rw [nk,e1];rcases e2 with e2|e2
  ·simp only [az,e2];exact e3
  ·simp only [az,e2];exact e3
theorem gZ {p:Pat} {fe:ak->M Dat} {ρ0:ak} (f:Dat->Dat):∀(ds:List Dat),(∀d∈ds,∃ρ,jg p d ρ0=.ok ρ/\fe ρ=.ok (f d))->bN p oi fe ρ0 ds=.ok (ds.map f)
 |[],_=>rfl
 |d::ds,h=>by
  obtain ⟨ρ,e1,e2⟩:=h d (by simp);rw [bN,e1];simp only [az,oi,e2,gZ f ds fun x hx=>h x (by simp [hx])];simp
@[simp] theorem small_def (i:Int):gq i=(decide (-(2^64)<i)&&decide (i<2^64)):=id rfl
@[simp] theorem Ck (i:Int):bg i=(decide (-(2^62)<=i)&&decide (i<2^62)):=id rfl
@[simp] theorem eqDs_nilR (ds:List Dat):ot ds []=ds.isEmpty:=by cases ds<;>rfl
section
variable {fr:ak->M (List Dat)} {h:ak->M Flo}
@[simp] theorem Fb (d:Dat) (r:ak):af 0 (some d::r)=.ok d:=id rfl
@[simp] theorem F9 (i:Nat) (o:Option Dat) (r:ak):af (i+1) (o::r)=af i r:=by simp [af]
@[simp] theorem e_c (d:Dat):fC d ρ=.ok d:=id rfl
@[simp] theorem e_1 (k:Dat->M Dat):f1 k fa ρ=(fa ρ).bind k:=id rfl
@[simp] theorem e_2 (k:Dat->Dat->M Dat):f2 k fa fb ρ=(fa ρ).bind fun a=>(fb ρ).bind fun b=>k a b:=id rfl
@[simp] theorem e_nil:aB ρ=.ok []:=id rfl
@[simp] theorem e_cons:a9 fa fr ρ=(fa ρ).bind fun a=>(fr ρ).bind fun r=>.ok (a::r):=id rfl
@[simp] theorem e_L (k:List Dat->M Dat):fL k fr ρ=(fr ρ).bind k:=id rfl
@[simp] theorem e_ite:fIte ft fa fb ρ=(ft ρ).bind fun b=>if b=true then fa ρ else fb ρ:=id rfl
@[simp] theorem e_and:fAnd ft fu ρ=(ft ρ).bind fun b=>if b=true then fu ρ else .ok false:=id rfl
@[simp] theorem e_or:fOr ft fu ρ=(ft ρ).bind fun b=>if b=true then .ok true else fu ρ:=id rfl
@[simp] theorem e_not:BJ ft ρ=(ft ρ).bind fun b=>.ok (!b):=id rfl
@[simp] theorem e_B:fB fa ρ=(fa ρ).bind asB:=id rfl
@[simp] theorem e_andV:uF fa fb ρ=(fa ρ).bind fun a=>(asB a).bind fun b=>if b=true then fb ρ else .ok (.bl false):=id rfl
@[simp] theorem e_tru:Ai fa ρ=(fa ρ).bind truD:=id rfl
@[simp] theorem e_chain (k k':Dat->Dat->M Dat):jd k k' fa fb fc ρ=(fa ρ).bind fun a=>(fb ρ).bind fun b=>(k a b).bind fun x=>(asB x).bind fun z=>if z=true then (fc ρ).bind fun c=>k' b c else .ok (.bl false):=id rfl
@[simp] theorem e_yes:oi ρ=.ok true:=id rfl
@[simp] theorem e_it:fIt fa ρ=(fa ρ).bind yR:=id rfl
@[simp] theorem e_rng (k:List Dat->M (List Dat)):my k fr ρ=(fr ρ).bind k:=id rfl
@[simp] theorem e_LR:fLR fr ρ=(fr ρ).bind dw:=id rfl
@[simp] theorem e_enum:vn fa ρ=(fa ρ).bind fun d=>(oh d).bind fun ds=>.ok (kZ 0 ds):=id rfl
@[simp] theorem e_zip:BI fa fb ρ=(fa ρ).bind fun a=>(fb ρ).bind fun b=>(oh a).bind fun ds=>(oh b).bind fun es=>.ok (l3 ds es):=id rfl
@[simp] theorem e_comp (fi:ak->M (List Dat)) (ix:List (Option Nat)) (p:Pat):jn fi ix p ft fa ρ=(fi ρ).bind fun ds=>if ds.length<=sizeLine then (bN p ft fa (qe ix ρ) ds).bind fun r=>.ok (.lst r) else .error .stuck:=id rfl
@[simp] theorem e_asB (b:Bool):asB (.bl b)=.ok b:=id rfl
@[simp] theorem e_asI (b:Int):asI (.int b)=.ok b:=id rfl
@[simp] theorem e_itemsL (ds:List Dat):yR (.lst ds)=.ok ds:=id rfl
@[simp] theorem e_itL (ds:List Dat):oh (.lst ds)=.ok ds:=id rfl
@[simp] theorem e_notD (b:Bool):notD (.bl b)=.ok (.bl (!b)):=id rfl
@[simp] theorem e_truB (b:Bool):truD (.bl b)=.ok b:=id rfl
@[simp] theorem e_truL (ds:List Dat):truD (.lst ds)=.ok (!ds.isEmpty):=id rfl
@[simp] theorem e_addI (i j:Int):jS (.int i) (.int j)=.ok (.int (i+j)):=id rfl
@[simp] theorem e_subI (i j:Int):tZ (.int i) (.int j)=.ok (.int (i-j)):=id rfl
@[simp] theorem e_negI (i:Int):negD (.int i)=.ok (.int (-i)):=id rfl
@[simp] theorem e_ltI (i j:Int):ltD (.int i) (.int j)=.ok (.bl (decide (i<j))):=id rfl
@[simp] theorem e_leI (i j:Int):leD (.int i) (.int j)=.ok (.bl (decide (i<=j))):=id rfl
@[simp] theorem e_gtI (i j:Int):gtD (.int i) (.int j)=.ok (.bl (decide (j<i))):=id rfl
@[simp] theorem e_geI (i j:Int):geD (.int i) (.int j)=.ok (.bl (decide (j<=i))):=id rfl
@[simp] theorem e_ixL (ds:List Dat) (i:Int):ixD (.lst ds) (.int i)=mx ds i:=id rfl
@[simp] theorem e_ixT (ds:List Dat) (i:Int):ixD (.tup ds) (.int i)=mx ds i:=id rfl
@[simp] theorem e_lenL (ds:List Dat):tH [.lst ds]=.ok (.int ds.length):=id rfl
@[simp] theorem e_all (ds:List Dat):allD [.lst ds]=(hU ds).bind fun bs=>.ok (.bl (bs.all id)):=id rfl
@[simp] theorem e_any (ds:List Dat):anyD [.lst ds]=(hU ds).bind fun bs=>.ok (.bl (bs.any id)):=id rfl
@[simp] theorem e_sum (ds:List Dat):sumD [.lst ds]=(cV ds).bind fun is=>.ok (.int is.sum):=id rfl
@[simp] theorem e_listL (ds:List Dat):CK [.lst ds]=.ok (.lst ds):=id rfl
@[simp] theorem e_intB (b:Bool):intD [.bl b]=.ok (.int (b2z b)):=id rfl
@[simp] theorem e_max2 (i j:Int):maxD [.int i,.int j]=.ok (.int (kS i j)):=id rfl
@[simp] theorem e_min2 (i j:Int):minD [.int i,.int j]=.ok (.int (kb i j)):=id rfl
@[simp] theorem e_maxL (ds:List Dat):maxD [.lst ds]=(cV ds).bind maxL:=id rfl
@[simp] theorem e_minL (ds:List Dat):minD [.lst ds]=(cV ds).bind minL:=id rfl
@[simp] theorem e_isiBI (i:Int):rO (.int i)=.ok (.bl false):=id rfl
@[simp] theorem e_isiII (i:Int):tK (.int i)=.ok (.bl true):=id rfl
@[simp] theorem e_isiLL (ds:List Dat):rN (.lst ds)=.ok (.bl true):=id rfl
@[simp] theorem e_isN (d:Dat):D9 d .non=.ok (.bl (match d with|.non=>true|_=>false)):=by cases d<;>rfl
@[simp] theorem e_next:f6 ρ=.ok (.nx ρ):=id rfl
@[simp] theorem e_seq:aS g h ρ=(g ρ).bind fun fl=>match fl with
 |.nx ρ'=>h ρ'
 |fl=>.ok fl:=id rfl
@[simp] theorem e_if:sIf ft g h ρ=(ft ρ).bind fun b=>if b=true then g ρ else h ρ:=id rfl
@[simp] theorem e_setB (O:List Nat) (i:Nat):aD O i fa ρ=(fa (erase O ρ)).bind fun d=>.ok (.nx (ρ.set i (some d))):=id rfl
@[simp] theorem e_setA (own:Bool) (i:Nat):tf own i fa ρ=(fa ρ).bind fun d=>if pw own d=true then .ok (.nx (ρ.set i (some d))) else .error .stuck:=id rfl
@[simp] theorem e_ret:dR fa ρ=(fa ρ).bind fun d=>.ok (.rt d):=id rfl
@[simp] theorem e_for (O:List Nat) (fi:ak->M (List Dat)) (p:Pat):sV O fi p g ρ=(fi (erase O ρ)).bind fun ds=>nk p g ds ρ:=id rfl
@[simp] theorem e_unpB (O:List Nat) (p:Pat):wK O p fa ρ=(fa (erase O ρ)).bind fun d=>(jg p d ρ).bind fun ρ'=>.ok (.nx ρ'):=id rfl
@[simp] theorem e_appB (O:List Nat) (i:Nat):kT O i fa ρ=(kW ρ i).bind fun ds=>(fa (erase O ρ)).bind fun d=>if ds.length<sizeLine then put ρ i (ds++[d]) else .error .stuck:=id rfl
@[simp] theorem e_setI (i:Nat):wM i fb fa ρ=(fa ρ).bind fun d=>(kW ρ i).bind fun ds=>(fb ρ).bind fun k=>(asI k).bind fun k=>if kY d=true then (match ixN ds.length k with
 |some j=>put ρ i (ds.set j d)
 |none=>.error .stuck) else .error .stuck:=id rfl
@[simp] theorem e_pop (i j:Nat):sPop i j fa ρ=(kW ρ i).bind fun ds=>(fa ρ).bind fun k=>(zY ds k).bind fun p=>.ok (.nx ((ρ.set i (some (.lst p.2))).set j (some p.1))):=id rfl
@[simp] theorem e_popU (i:Nat) (pt:Pat):DJ i pt fa ρ=(kW ρ i).bind fun ds=>(fa ρ).bind fun k=>(zY ds k).bind fun p=>(jg pt p.1 (ρ.set i (some (.lst p.2)))).bind fun ρ'=>.ok (.nx ρ'):=id rfl
@[simp] theorem e_put (i:Nat) (ds:List Dat):put ρ i ds=.ok (.nx (ρ.set i (some (.lst ds)))):=id rfl
@[simp] theorem e_lst0 (ds:List Dat) (r:ak):kW (some (.lst ds)::r) 0=.ok ds:=id rfl
@[simp] theorem e_lstS (i:Nat) (o:Option Dat) (r:ak):kW (o::r) (i+1)=kW r i:=by simp [kW]
@[simp] theorem e_er0:erase [] ρ=ρ:=id rfl
@[simp] theorem e_erS (i:Nat) (O:List Nat):erase (i::O) ρ=erase O (ρ.set i none):=id rfl
@[simp] theorem e_bnm (i:Nat) (d:Dat):jg (.nm i) d ρ=.ok (ρ.set i (some d)):=id rfl
@[simp] theorem e_btp (is:List Nat) (ds:List Dat):jg (.tp is) (.tup ds) ρ=if ds.length=is.length then .ok (oA is ds ρ) else .error .stuck:=id rfl
@[simp] theorem e_sa0 (ds:List Dat):oA [] ds ρ=ρ:=by cases ds<;>rfl
@[simp] theorem e_saS (i:Nat) (is:List Nat) (d:Dat) (ds:List Dat):oA (i::is) (d::ds) ρ=oA is ds (ρ.set i (some d)):=id rfl
@[simp] theorem e_in0:qe [] ρ=[]:=id rfl
@[simp] theorem e_inN (ix:List (Option Nat)):qe (none::ix) ρ=none::qe ix ρ:=id rfl
@[simp] theorem e_inS (j:Nat) (ix:List (Option Nat)):qe (some j::ix) ρ=(ρ[j]?).join::qe ix ρ:=id rfl
@[simp] theorem e_tup (ds:List Dat):dZ ds=if ds.length<=sizeLine then .ok (.tup ds) else .error .stuck:=id rfl
@[simp] theorem e_lst (ds:List Dat):dw ds=if ds.length<=sizeLine then .ok (.lst ds) else .error .stuck:=id rfl
@[simp] theorem e_line:sizeLine=16777216:=sizeLine_eq
@[simp] theorem e_run (a b:Nat) (ds:List Dat):cb a b g ds=if ds.length=b then (g (ds.map some++List.replicate (a-ds.length) none)).bind fun fl=>match fl with
 |.nx _=>.ok .non
 |.rt d=>.ok d
 |_=>stk else stk:=id rfl
@[simp] theorem e_rng1 {j:Int} (h:bg j=true):sW [.int j]=.ok (aR 0 j.toNat):=by show (if bg j=true then _ else _)=_;rw [if_pos h]
@[simp] theorem e_rng2 {i j:Int} (h:bg i=true) (h2:bg j=true):rng2 [.int i,.int j]=.ok (aR i (j-i).toNat):=by show (if (bg i&&bg j)=true then _ else _)=_;rw [h,h2,Bool.and_true,if_pos rfl]
@[simp] theorem rl {i j:Int} (h:0<j):lL (.int i) (.int j)=.ok (.int (i%j)):=by simp [lL,h]
@[simp] theorem Fc {i j:Int} (h:0<j) (h2:j<18446744073709551616):i5 (.int i) (.int j)=.ok (.int (i/j)):=by simp [i5,h,h2]
@[simp] theorem e_mulR {i j:Int} (h:gq j=true):ug (.int i) (.int j)=.ok (.int (i*j)):=by show (if (gq i||gq j)=true then _ else _)=_;rw [h,Bool.or_true,if_pos rfl]
@[simp] theorem e_mulL {i j:Int} (h:gq i=true):ug (.int i) (.int j)=.ok (.int (i*j)):=by show (if (gq i||gq j)=true then _ else _)=_;rw [h,Bool.true_or,if_pos rfl]
end
section
variable {W:i4} {own:Bool} {a:Expr} {rest:List Expr} {f:ak->M Dat} {fr:ak->M (List Dat)} 
theorem PE.imp {t t':TE} (h:PE X e t) (q:∀σ H Q,t' σ H Q->t σ H Q):PE X e t':=fun pins s σ H Q I z=>h pins s σ H Q I (q σ H Q z)
theorem PT.imp {t t':TT} (h:PT X e t) (q:∀σ H Q,t' σ H Q->t σ H Q):PT X e t':=fun pins s σ H Q I z=>h pins s σ H Q I (q σ H Q z)
theorem PW.imp {t t':TT} (h:PW X e t) (q:∀σ H Q,t' σ H Q->t σ H Q):PW X e t':=fun wh pins s σ H Q I z=>h wh pins s σ H Q I (q σ H Q z)
theorem PA.imp {t t':TA} (h:PA X es t) (q:∀σ H Q,t' σ H Q->t σ H Q):PA X es t':=fun ps pins s σ H Q I z=>h ps pins s σ H Q I (q σ H Q z)
theorem PI.imp {t t':TI} (h:PI X tg e t) (q:∀σ H Q,t' σ H Q->t σ H Q):PI X tg e t':=fun pins s σ H Q I z=>h pins s σ H Q I (q σ H Q z)
theorem PS.imp {t':TS} (h:PS X st t) (q:∀D σ H,t' D σ H->t D σ H):PS X st t':=fun pins s σ H D I z=>h pins s σ H D I (q D σ H z)
theorem PSs.imp {st:List Stmt} {t':TS} (h:PSs X st t) (q:∀D σ H,t' D σ H->t D σ H):PSs X st t':=fun pins s σ H D I z=>h pins s σ H D I (q D σ H z)
noncomputable abbrev DE (K:Pn) (W:i4) (own:Bool) (X:Cx) (e:Expr) (f:ak->M Dat):Prop:=PE X e (tD K W own f)
noncomputable abbrev DT (K:Pn) (W:i4) (X:Cx) (e:Expr) (f:ak->M Bool):Prop:=PT X e (tDT K W f)
noncomputable abbrev DW (K:Pn) (W:i4) (X:Cx) (e:Expr) (f:ak->M Bool):Prop:=PW X e (tDT K W f)
noncomputable abbrev DA (K:Pn) (W:i4) (X:Cx) (es:List Expr) (f:ak->M (List Dat)):Prop:=PA X es (tDA K W f)
noncomputable abbrev DI (K:Pn) (W:i4) (X:Cx) (tg e:Expr) (f:ak->M (List Dat)):Prop:=PI X tg e (iD K W f)
noncomputable abbrev DG (K:Pn) (X:Cx) (tg:Expr) (p:Pat):Prop:=PG X tg (gP K p)
noncomputable abbrev DS (K:Pn) (W:i4) (ro:Bool) (X:Cx) (OL O O':List Nat) (st:Stmt) (g:ak->M Flo):Prop:=∀F0 H0:Hp,PS X st (tS K W ro F0 H0 OL O O' g)
noncomputable abbrev DSs (K:Pn) (W:i4) (ro:Bool) (X:Cx) (OL O O':List Nat) (st:List Stmt) (g:ak->M Flo):Prop:=∀F0 H0:Hp,PSs X st (tS K W ro F0 H0 OL O O' g)
noncomputable abbrev Op2 (K:Pn) (W:i4) (own:Bool) (X:Cx) (o:Value->Value->Sem Value) (g:Dat->Dat->M Dat):Prop:=OpR X o (rD2 K W own g)
noncomputable abbrev uY (K:Pn) (W:i4) (own:Bool) (X:Cx) (v:Value) (g:List Dat->M Dat):Prop:=dS X v (rDL K W own g)
theorem ai (i:Nat) (hN:X.N[i]? =some x:=by rfl) (hv:Vis X.env.scope x:=by first|exact Or.inl rfl|exact Or.inr (Or.inl rfl)|exact Or.inr (Or.inr rfl)) (hd:(x==("__debug__":Str))=false:=by decide)
  (hcd:(x==("__classdict__":Str))=false:=by decide):DE K W false X (.Name x pos) (af i):=(pv i hN hv hd hcd).imp fun _ _ _=>rd_var
theorem aa {i:Int} {j}:DE K W false X (.Constant (.int i) j pos) (fC (.int i)):=pe_int.imp fun _ _ _=>rd_c fun _=>rfl
theorem rS {k:Bool} {j}:DE K W false X (.Constant (.bool k) j pos) (fC (.bl k)):=pe_bl.imp fun _ _ _=>rd_c fun _=>rfl
theorem oj {j}:DE K W false X (.Constant .none j pos) (fC .non):=pe_non.imp fun _ _ _=>rd_c fun _=>rfl
theorem BO {z:Str} {j}:DE K W false X (.Constant (.str z) j pos) (fC (.str z)):=pe_str.imp fun _ _ _=>rd_c fun _=>rfl
theorem Fg {n:Int} (hm:∃t,X.mg x=some (.int n t)) (hg:Gl X x:=by rfl) (hd:(x==("__debug__":Str))=false:=by decide):DE K W false X (.Name x pos) (fC (.int n)):=(pe_gint hg hm hd).imp fun _ _ _=>rd_c fun _=>rfl
theorem aE (h:DE K W true X e f):DE K W false X e f:=PE.imp h fun _ _ _ ⟨F,ρ,r,s,p⟩=>⟨F,ρ,r,s,p.frz⟩
theorem au {op:Operator} {g:Dat->Dat->M Dat} (ho:Op2 K W own X (binaryOp op) g) (ha:DE K W false X a fa) (hb:DE K W false X b fb):DE K W own X (.BinOp a op b pos) (f2 g fa fb):=(pe_op ho ha hb).imp fun _ _ _=>rd_2
theorem Ap {op:UnaryOp} {g:Dat->M Dat} (ho:UnR X (unaryOp op) (rD1 K W own g)) (ha:DE K W false X a fa):DE K W own X (.UnaryOp op a pos) (f1 g fa):=(pe_un ho ha).imp fun _ _ _=>rd_1
theorem ql {g:Dat->Dat->M Dat} (ho:Op2 K W false X (compareOp op) g) (ha:DE K W false X a fa) (hb:DE K W false X b fb) (hm:behindInMarks op b=false:=by first|exact En _|with_unfolding_all rfl):DE K W false X (.Compare a [op] [b] pos) (f2 g fa fb):=
 (pe_cmpR ho ha hb hm).imp fun _ _ _=>rd_2
theorem cG {g:Dat->Dat->M Dat} (ho:Op2 K W false X (compareOp op) g) (ha:DE K W false X a fa) (hb:DE K W false X b fb) (hm:behindInMarks op b=false:=by first|exact En _|with_unfolding_all rfl):DT K W X (.Compare a [op] [b] pos) (fB (f2 g fa fb)):=
 (DV ho ha hb hm).imp fun σ H Q h=>by
  have q:=rd_B h;exact rd_2 (own:=false) q
theorem tQ {g:Dat->Dat->M Dat} (ho:Op2 K W false X (compareOp op) g) (ho':Op2 K W false X (compareOp op') g') (ha:DE K W false X a fa) (hb:DE K W false X b fb) (hc:DE K W false X c fc)
  (hm:lastMarks [op,op'] [b,c]=false:=by with_unfolding_all rfl):DE K W false X (.Compare a [op,op'] [b,c] pos) (jd g g' fa fb fc):=(pe_chain ho ho' ha hb hc hm).imp fun _ _ _=>Bi
theorem tM {g:Dat->Dat->M Dat} (ho:Op2 K W false X (compareOp op) g) (ho':Op2 K W false X (compareOp op') g') (ha:DE K W false X a fa) (hb:DE K W false X b fb) (hc:DE K W false X c fc)
  (hm:lastMarks [op,op'] [b,c]=false:=by with_unfolding_all rfl):DT K W X (.Compare a [op,op'] [b,c] pos) (fB (jd g g' fa fb fc)):=(pt_chain ho ho' ha hb hc hm).imp fun σ H Q h=>by
  have q:=rd_B h;exact Bi q
theorem t5 (ha:DE K W false X a fa) (hK:X.K=K:=by rfl) (he:∀whole,isTrue a X.env whole=(do let v <- whole;standAt a.pos;holding [v] (truthy v)):=by intro _;rfl):DT K W X a (Ai fa):=by
 subst hK;exact (pt_truth ha he).imp fun _ _ _=>rd_tru
theorem uK (ha:DT K W X a ft):DT K W X (.UnaryOp .Not a pos) (BJ ft):=(pt_not ha).imp fun _ _ _=>rd_not
theorem Fe (ha:DT K W X a ft):DW K W X (.BoolOp .And [a] pos) ft:=pw_and1 ha
theorem za (ha:DT K W X a ft):DW K W X (.BoolOp .Or [a] pos) ft:=pw_or1 ha
theorem dw_and (ha:DT K W X a ft) (hb:DW K W X (.BoolOp .And (b::rest) pos) fu):DW K W X (.BoolOp .And (a::b::rest) pos) (fAnd ft fu):=(pw_and ha hb).imp fun _ _ _=>rd_and
theorem Fd (ha:DT K W X a ft) (hb:DW K W X (.BoolOp .Or (b::rest) pos) fu):DW K W X (.BoolOp .Or (a::b::rest) pos) (fOr ft fu):=(pw_or ha hb).imp fun _ _ _=>rd_or
theorem BQ {op} (h:DE K W false X a f):DE K W false X (.BoolOp op [a] pos) f:=pe_one h
theorem zc (ha:DE K W false X a fa) (hb:DE K W false X (.BoolOp .And (b::rest) pos) fb):DE K W false X (.BoolOp .And (a::b::rest) pos) (uF fa fb):=(pe_and ha hb).imp fun _ _ _=>rd_andV
theorem de_not (ha:DE K W false X a fa):DE K W false X (.UnaryOp .Not a pos) (f1 notD fa):=(pe_not ha).imp fun _ _ _=>rd_notV
theorem de_ite (hc:DT K W X c ft) (ha:DE K W own X a fa) (hb:DE K W own X b fb):DE K W own X (.IfExp c a b pos) (fIte ft fa fb):=(pe_ifExp hc ha hb).imp fun _ _ _=>rd_ite
theorem ah:DA K W X [] aB:=fg.imp fun _ _ _=>rd_nil
theorem a8 (ha:DE K W false X e fa) (hr:DA K W X es fr) (hs:starEach (e::es) X.env=(false,eval e X.env)::starEach es X.env:=by rfl):DA K W X (e::es) (a9 fa fr):=(bj ha hr hs).imp fun _ _ _=>rd_cons
theorem da {x1} (h:DA K W X es fr):DE K W own X (.Tuple es x1 pos) (fL dZ fr):=(Ea h).imp fun _ _ _=>rd_tup
theorem eN (h:DA K W X es fr):DE K W true X (.List es pos) (fL dw fr):=(pe_lst h).imp fun _ _ _=>rd_lst
theorem aH {id:String} {g:List Dat->M Dat} (hc:uY K W own X (.builtin id) g) (hm:X.mg x=none) (hv:bootBuiltins x=some (.builtin id)) (ha:DA K W X (e::es) fr) (hg:Gl X x:=by rfl) (hn:x≠"__name__":=by decide) (hdb:(x==("__debug__":Str))=false:=by decide)
  (hst:starEach (e::es) X.env=(false,eval e X.env)::starEach es X.env:=by rfl) (hpl:(backTo pos (starEach es X.env)).any (·.1)=false:=by rfl):DE K W own X (.Call (.Name x p) (e::es) [] pos) (fL g fr):=
 (gA hc hg hm hv ha hn hdb hst hpl).imp fun _ _ _=>rd_L
theorem pC {g:List Dat->M Dat} (hc:uY K W own X (.type T) g) (hm:X.mg x=none) (hv:bootBuiltins x=some (.type T)) (ha:DA K W X (e::es) fr) (hg:Gl X x:=by rfl) (hn:x≠"__name__":=by decide) (hdb:(x==("__debug__":Str))=false:=by decide)
  (hst:starEach (e::es) X.env=(false,eval e X.env)::starEach es X.env:=by rfl) (hpl:(backTo pos (starEach es X.env)).any (·.1)=false:=by rfl):DE K W own X (.Call (.Name x p) (e::es) [] pos) (fL g fr):=
 (yv hc hg hm hv ha hn hdb hst hpl).imp fun _ _ _=>rd_L
theorem ay {g:Dat->Dat->M Dat} (hr:IxR X (rD2 K W own g)) (ha:DE K W false X a fa) (hb:DE K W false X b fb) (hs:FO b:=by exact fun _ _=>rfl):DE K W own X (.Subscript a b pos) (f2 g fa fb):=(pe_ix hr ha hb hs).imp fun _ _ _=>rd_2
theorem sM (hN:X.N.Nodup) (hi:X.N[i]? =some x:=by rfl) (hx:Loc X.env.scope x:=by first|exact Or.inl rfl|exact Or.inr rfl) (hf:X.fn x=true\/X.env.scope.names.lookup x=some .local:=by first|exact .inl rfl|exact .inr rfl|assumption):DG K X (.Name x pos) (.nm i):=A0 hN hi hx hf
theorem jf (hl:DE K W false X e fa) (hK:X.K=K:=by rfl):DI K W X tg e (fIt fa):=by
 subst hK;refine PI.imp (t:=iSeq X.K (tD X.K W false fa)) ?_ fun _ _ _=>ri_seq;intro pins s σ H R I h;refine thn (hl pins s σ H _ I h) fun v s1 ⟨y,H1,I1,r1,q1⟩=>?_;obtain ⟨l,e1,q⟩:=q1;subst e1;cases r1;rcases q with ⟨⟨xs,hq⟩,q⟩|⟨⟨xs,hq⟩,q⟩
 ·obtain ⟨its,rv,p,hz⟩:=I1.list hq;refine wpAny_pyIter_list p.isList ?_;refine ⟨s1.heap.objs.size,[s1.heap.objs.size],_,_,H1,rfl,I1.kept (t':=s1.toks) fun b o e=>Heap.get?_push_of_some _ e,Dt l _,⟨_,Heap.get?_push_size _ rfl,rfl,rfl⟩,fun b hb=>?_,q⟩
  have e:b=s1.heap.objs.size:=by simpa using hb
  subst e;exact I1.fpOk (Nat.le_refl _) (I1.hok.fresh (Nat.le_refl _))
 ·obtain ⟨its,rv,p,hz⟩:=I1.tuple hq;refine wpAny_pyIter_tuple (show s1.heap.IsTuple l its.toArray from p) ?_;refine ⟨s1.heap.objs.size,[s1.heap.objs.size],_,_,H1,rfl,I1.kept (t':=s1.toks) fun b o e=>Heap.get?_push_of_some _ e,Ce l _,⟨_,Heap.get?_push_size _ rfl,rfl,rfl⟩,fun b hb=>?_,q⟩
  have e:b=s1.heap.objs.size:=by simpa using hb
  subst e;exact I1.fpOk (Nat.le_refl _) (I1.hok.fresh (Nat.le_refl _))
theorem gY (hm:X.mg "range"=none) (ha:DA K W X [a] fr) (hg:Gl X "range":=by rfl) (hs:starEach [a] X.env=[(false,eval a X.env)]:=by rfl):DI K W X tg (.Call (.Name "range" p) [a] [] pos) (my sW fr):=(E8 hg hm ha hs).imp fun _ _ _=>ri_rng1
theorem di_rng2 (hm:X.mg "range"=none) (ha:DA K W X [a,b] fr) (hg:Gl X "range":=by rfl) (hs:starEach [a,b] X.env=[(false,eval a X.env),(false,eval b X.env)]:=by rfl) (hs2:starEach [b] X.env=[(false,eval b X.env)]:=by rfl) :
  DI K W X tg (.Call (.Name "range" p) [a,b] [] pos) (my rng2 fr):=(E7 hg hm ha hs hs2).imp fun _ _ _=>ri_rng2
variable {sts:List Stmt} {h:ak->M Flo}
theorem cH:DSs K W ro X OL O O [] f6:=fun _ _=>DX.imp fun _ _ _=>rs_next
theorem ae (h1:DS K W ro X OL O O' st g) (h2:DSs K W ro X OL O' O2 sts h):DSs K W ro X OL O O2 (st::sts) (aS g h):=fun F0 H0=>(tG (h1 F0 H0) (h2 F0 H0)).imp fun _ _ _=>rs_seq
theorem av (h1:DS K W ro X OL O O' st g):DSs K W ro X OL O O' [st] g:=fun F0 H0=>u3 (h1 F0 H0)
theorem bE (h1:DSs K W ro X OL O2 O' sts g) (hs:∀i∈O2,i∈O:=by decide):DSs K W ro X OL O O' sts g:=fun F0 H0=>PSs.imp (h1 F0 H0) fun _ _ _=>tS.enter hs
theorem gm {sa sb:List Stmt} (hc:DT K W X c ft) (ha:DSs K W ro X OL O O' sa g) (hb:DSs K W ro X OL O O' sb h):DS K W ro X OL O O' (.If c sa sb pos) (sIf ft g h):=fun F0 H0=>(ps_if hc (ha F0 H0) (hb F0 H0)).imp fun _ _ _=>rs_if
theorem ao (hN:X.N.Nodup) (he:DE K W own X e f) (hi:X.N[i]? =some x:=by rfl) (hx:Loc X.env.scope x:=by first|exact Or.inl rfl|exact Or.inr rfl) (hs:swapsWith e (some (.Name x pos')) pos.line X.env=pure false:=by rfl) (hf:X.fn x=true\/X.env.scope.names.lookup x=some .local:=by first|exact .inl rfl|exact .inr rfl|assumption) :
  DS K W ro X OL O (aft own i O) (.Assign [.Name x pos'] e pos) (aD O i f):=fun F0 H0=>(Bk hN hi hx he hs hf).imp fun _ _ _=>zV
theorem xw (hN:X.N.Nodup) (he:DE K W own X e f) (hi:X.N[i]? =some x:=by rfl) (hx:Loc X.env.scope x:=by first|exact Or.inl rfl|exact Or.inr rfl) (hs:swapsWith e (some (.Name x pos')) pos.line X.env=pure false:=by rfl) (hf:X.fn x=true\/X.env.scope.names.lookup x=some .local:=by first|exact .inl rfl|exact .inr rfl|assumption) :
  DS K W ro X OL O (aft own i O) (.Assign [.Name x pos'] e pos) (tf own i f):=fun F0 H0=>(Bk hN hi hx he hs hf).imp fun _ _ _=>DL
theorem aK (he:DE K W ro X e f):DS K W ro X OL O O' (.Return (some e) pos) (dR f):=fun F0 H0=>(ps_ret he).imp fun _ _ _=>rs_ret
theorem ds_retV (ho:i∈O:=by decide) (hN:X.N[i]? =some x:=by rfl) (hv:Vis X.env.scope x:=by first|exact Or.inl rfl|exact Or.inr (Or.inl rfl)|exact Or.inr (Or.inr rfl)) (hd:(x==("__debug__":Str))=false:=by decide)
  (hcd:(x==("__classdict__":Str))=false:=by decide):DS K W true X OL O O' (.Return (some (.Name x p)) pos) (dR (af i)):=fun F0 H0=>(ps_ret (pv i hN hv hd hcd)).imp fun _ _ _=>rs_retV ho
theorem gd {fs:ak->M (List Dat)} {pt:Pat} (hi:DI K W X tg iter fs) (hg:DG K X tg pt) (hb:DSs K W ro X O O O body g) (n:∀i∈pt.names,i∉O:=by decide) (hp:PassesOwn (model X.prog X.w) X.A X.env X.xe:=by exact PassesOwn.never) (hc:X.calm=true:=by rfl)
  (hs:∀x,foldedSetIterable iter X.env x=pure x:=by intro _;rfl):DS K W ro X OL O O (.For tg iter body [] pos) (sV O fs pt g):=fun F0 H0=>(ps_for hp hc hi hg (hb F0 H0) hs).imp fun _ _ _=>rs_for n
theorem BM {m:Nat} (hc:DT K W X c ft) (hb:DSs K W ro X O O O body g) (hp:PassesOwn (model X.prog X.w) X.A X.env X.xe:=by exact PassesOwn.never):DS K W ro X OL O O (.While c body [] pos) (fY ft g m):=fun F0 H0=>(ps_while hp hc (hb F0 H0)).imp fun _ _ _=>rs_while
theorem fW (he:DE K W false X e f) (ho:i∈O:=by decide) (hN:X.N[i]? =some x:=by rfl) (hv:Vis X.env.scope x:=by first|exact Or.inl rfl|exact Or.inr (Or.inl rfl)|exact Or.inr (Or.inr rfl)) (hd:(x==("__debug__":Str))=false:=by decide) (hcd:(x==("__classdict__":Str))=false:=by decide) (hK:X.K=K:=by rfl)
  (hst:starEach [e] X.env=[(false,eval e X.env)]:=by rfl) (hbase:attributeBase (.Name x p) "append" X.env (eval (.Name x p) X.env)=eval (.Name x p) X.env:=by rfl) (hfew:((backTo q (starEach [e] X.env)).all (fun x=> !x.1)&&(backToKw q (keywordEach [] X.env)).all (fun x=>x.1.isSome)&&decide ([e].length+([]:List Keyword).length+(if ([]:List Keyword).isEmpty then 0 else 1)<30))=true:=by rfl) (hplain:(backTo q (starEach [] X.env)).any (·.1)=false:=by rfl) (hline:(apos.endLine==q.line)=true:=by rfl) (hsw:swapsWith (.Call (.Attribute (.Name x p) "append" apos) [e] [] q) none pos.line X.env=pure false:=by rfl) :
  DS K W ro X OL O O (.Expr (.Call (.Attribute (.Name x p) "append" apos) [e] [] q) pos) (kT O i f):=fun F0 H0=>by
 subst hK;exact PS.imp (E1 (pe_bm PySem.F.plainAttrs_list PySem.F.slot_list_append PySem.F.type_list_append Er (pv i hN hv hd hcd) (bj he fg hst) hbase hfew hline hst hplain) hsw) fun _ _ _=>rs_appB ho
end
section
variable {W:i4} {own:Bool}
theorem OpR.imp {f:Value->Value->Sem Value} {r r':R2} (h:OpR X f r) (q:∀x y H Q,r' x y H Q->r x y H Q):OpR X f r':=fun pins s σ H x y v u Q I rx ry z=>h pins s σ H x y v u Q I rx ry (q x y H Q z)
theorem UnR.imp {f:Value->Sem Value} {r r':V->Hp->VK->Prop} (h:UnR X f r) (q:∀x H Q,r' x H Q->r x H Q):UnR X f r':=fun pins s σ H x v Q I rx z=>h pins s σ H x v Q I rx (q x H Q z)
theorem dS.imp {f:Value} {r r':List V->Hp->VK->Prop} (h:dS X f r) (q:∀x H Q,r' x H Q->r x H Q):dS X f r':=fun pins s σ H x v Q I rx z=>h pins s σ H x v Q I rx (q x H Q z)
theorem IxR.imp {r r':R2} (h:IxR X r) (q:∀x y H Q,r' x y H Q->r x y H Q):IxR X r':=fun va sl pins s σ H x y v u Q I rx ry z e=>h va sl pins s σ H x y v u Q I rx ry (q x y H Q z) e
theorem aI.stuck {Q:VK} {P:Prop} (p:aI K W own F H (stk) Q):P:=(W.ns p).elim
theorem aI.int {F H:Hp} {Q:VK} {i:Int} (p:aI K W own F H (.ok (.int i)) Q) (s:b9 F H):Q (.int i) H:=p _ F H (Step.refl s) (by cases own<;>rfl)
theorem aI.bl {F H:Hp} {Q:VK} {b:Bool} (p:aI K W own F H (.ok (.bl b)) Q) (s:b9 F H):Q (.bl b) H:=p _ F H (Step.refl s) (by cases own<;>rfl)
theorem aI.str {F H:Hp} {Q:VK} {x:Str} (p:aI K W own F H (.ok (.str x)) Q) (s:b9 F H):Q (.str x) H:=p _ F H (Step.refl s) (by cases own<;>rfl)
theorem aI.tup {F H:Hp} {Q:VK} {ds:List Dat} {xs:List V} {a:Addr} (p:aI K W own F H (.ok (.tup ds)) Q) (s:b9 F H) (q:aA K F ds xs) (ha:H a=none):Q (.ref a) (upd H a (.tup xs)):=
 p _ _ _ (Step.lay s ha) (by
  have:bQ K (upd F a (.tup xs)) (.tup ds) (.ref a):=⟨a,xs,rfl,SqT.of ar,q.mono (b9.upd (s.free ha))⟩
  cases own<;>exact this)
theorem aI.same {Q:VK} (p:aI K W own F H (.ok (.tup ds)) Q) (s:b9 F H) (q:bQ K F (.tup ds) v):Q v H:=p _ F H (Step.refl s) (by cases own<;>exact q)
theorem aI.lst {F H:Hp} {Q:VK} {ds:List Dat} {xs:List V} {a:Addr} (p:aI K W true F H (.ok (.lst ds)) Q) (s:b9 F H) (q:aA K F ds xs) (ha:H a=none):Q (.ref a) (upd H a (.lst xs)):=
 p _ F _ (Step.grow s ha) ⟨a,xs,rfl,ar,s.free ha,ha,q⟩
theorem ju {g:Dat->Dat->M Dat} (hg:∀a b,(∃i j,a=.int i/\b=.int j)\/g a b=stk) {x y:V} {Q:VK} (h:rD2 K W own g x y H Q):∃F i j,b9 F H/\x=.int i/\y=.int j/\aI K W own F H (g (.int i) (.int j)) Q:=by
 obtain ⟨F,a,b,s,qa,qb,p⟩:=h;rcases hg a b with ⟨i,j,rfl,rfl⟩|e
 ·exact ⟨F,i,j,s,qa,qb,p⟩
 ·rw [e] at p;exact p.stuck
theorem rJ:Op2 K W own X (binaryOp .Sub) tZ:=op_sub.imp fun x y H Q h=>by
 obtain ⟨F,i,j,s,e1,e2,p⟩:=ju (fun a b=>by cases a<;>cases b<;>first|exact .inr rfl|exact .inl ⟨_,_,rfl,rfl⟩) h;exact ⟨i,j,e1,e2,p.int s⟩
theorem mP:Op2 K W own X (binaryOp .Mult) ug:=op_mul.imp fun x y H Q h=>by
 obtain ⟨F,i,j,s,e1,e2,p⟩:=ju (fun a b=>by cases a<;>cases b<;>first|exact .inr rfl|exact .inl ⟨_,_,rfl,rfl⟩) h;have p':aI K W own F H (if (gq i||gq j)=true then .ok (.int (i*j)) else stk) Q:=p;by_cases hc:(gq i||gq j)=true
 ·rw [if_pos hc] at p';refine ⟨i,j,e1,e2,?_,p'.int s⟩
  unfold gq at hc;simp only [Bool.or_eq_true,Bool.and_eq_true,decide_eq_true_eq] at hc;exact hc
 ·rw [if_neg hc] at p';exact p'.stuck
theorem Ez {j:Int} (h0:0<j) (h1:j<18446744073709551616):j.natAbs.log2<9000:=by
 have a:j.natAbs<2^64:=by omega
 have b:=(Nat.log2_lt (n:=j.natAbs) (k:=64) (by omega)).mpr a;omega
theorem Eh:OpR X (binaryOp .FloorDiv) (rI (fun _ j=>0<j/\j<18446744073709551616) fun i j=>.int (i/j)):=opI fun i j _ _ _ _ _ hc q=>by
 obtain ⟨c1,c2⟩:=hc;exact floordiv_int (by omega) (by rw [Int.fdiv_eq_ediv_of_nonneg i (by omega)];exact q) (.inl (PyProof.noPylong_of_log2 (Ez c1 c2)))
theorem dv:Op2 K W own X (binaryOp .FloorDiv) i5:=Eh.imp fun x y H Q h=>by
 obtain ⟨F,i,j,s,e1,e2,p⟩:=ju (fun a b=>by cases a<;>cases b<;>first|exact .inr rfl|exact .inl ⟨_,_,rfl,rfl⟩) h;have p':aI K W own F H (if (decide (0<j)&&decide (j<18446744073709551616))=true then .ok (.int (i/j)) else stk) Q:=p;by_cases hc:(decide (0<j)&&decide (j<18446744073709551616))=true
 ·rw [if_pos hc] at p';simp only [Bool.and_eq_true,decide_eq_true_eq] at hc;exact ⟨i,j,e1,e2,hc,p'.int s⟩
 ·rw [if_neg hc] at p';exact p'.stuck
theorem d6:Op2 K W own X (binaryOp .Mod) lL:=op_mod.imp fun x y H Q h=>by
 obtain ⟨F,i,j,s,e1,e2,p⟩:=ju (fun a b=>by cases a<;>cases b<;>first|exact .inr rfl|exact .inl ⟨_,_,rfl,rfl⟩) h;have p':aI K W own F H (if 0<j then .ok (.int (i%j)) else stk) Q:=p;by_cases hc:0<j
 ·rw [if_pos hc] at p';exact ⟨i,j,e1,e2,hc,p'.int s⟩
 ·rw [if_neg hc] at p';exact p'.stuck
theorem ka:Op2 K W own X (binaryOp .Pow) rA:=op_pow.imp fun x y H Q h=>by
 obtain ⟨F,i,j,s,e1,e2,p⟩:=ju (fun a b=>by cases a<;>cases b<;>first|exact .inr rfl|exact .inl ⟨_,_,rfl,rfl⟩) h;have p':aI K W own F H (if (decide (0<=j)&&decide (j<=1000000)&&decide (i.natAbs<2^64))=true then .ok (.int (i^j.toNat)) else stk) Q:=p;by_cases hc:(decide (0<=j)&&decide (j<=1000000)&&decide (i.natAbs<2^64))=true
 ·rw [if_pos hc] at p';simp only [Bool.and_eq_true,decide_eq_true_eq] at hc;exact ⟨i,j,e1,e2,⟨hc.1.1,hc.1.2,hc.2⟩,p'.int s⟩
 ·rw [if_neg hc] at p';exact p'.stuck
theorem A8:UnR X (unaryOp .USub) (rD1 K W own negD):=un_neg.imp fun x H Q h=>by
 obtain ⟨F,a,s,qa,p⟩:=h;cases a with
 |int i=>exact ⟨i,qa,aI.int (own:=own) p s⟩
 |_=>exact aI.stuck p
theorem o_lt:Op2 K W own X (compareOp .Lt) ltD:=op_lt.imp fun x y H Q h=>by
 obtain ⟨F,i,j,s,e1,e2,p⟩:=ju (fun a b=>by cases a<;>cases b<;>first|exact .inr rfl|exact .inl ⟨_,_,rfl,rfl⟩) h;exact ⟨i,j,e1,e2,p.bl s⟩
theorem Br:Op2 K W own X (compareOp .LtE) leD:=op_le.imp fun x y H Q h=>by
 obtain ⟨F,i,j,s,e1,e2,p⟩:=ju (fun a b=>by cases a<;>cases b<;>first|exact .inr rfl|exact .inl ⟨_,_,rfl,rfl⟩) h;exact ⟨i,j,e1,e2,p.bl s⟩
theorem o_gt:Op2 K W own X (compareOp .Gt) gtD:=op_gt.imp fun x y H Q h=>by
 obtain ⟨F,i,j,s,e1,e2,p⟩:=ju (fun a b=>by cases a<;>cases b<;>first|exact .inr rfl|exact .inl ⟨_,_,rfl,rfl⟩) h;exact ⟨i,j,e1,e2,p.bl s⟩
theorem o_ge:Op2 K W own X (compareOp .GtE) geD:=op_ge.imp fun x y H Q h=>by
 obtain ⟨F,i,j,s,e1,e2,p⟩:=ju (fun a b=>by cases a<;>cases b<;>first|exact .inr rfl|exact .inl ⟨_,_,rfl,rfl⟩) h;exact ⟨i,j,e1,e2,p.bl s⟩
theorem op_catL:OpR X (binaryOp .Add) (fun x y H Q=>∃l b xs zs,x=.ref l/\y=.ref b/\SqL X.K H l xs/\SqL X.K H b zs/\xs.length+zs.length<=sizeLine/\∀p,H p=none->Q (.ref p) (upd H p (.lst (xs++zs)))):=by
 intro pins s σ H x y v u Q I rx ry h;obtain ⟨l,b,xs,zs,rfl,rfl,hH,hB,hz,q⟩:=h;cases rx;cases ry;obtain ⟨its,r,p1,hl⟩:=I.list hH;obtain ⟨its2,r2,p2,hl2⟩:=I.list hB;have z1:=r.length;have z2:=r2.length;obtain ⟨⟨cls,dd,data,sl⟩,ho,hc,n,hd⟩:=id p1.isList;obtain ⟨⟨cls2,dd2,data2,sl2⟩,ho2,hc2,n2,hd2⟩:=id p2.isList;simp only at hc hd hc2 hd2;subst hc hd hc2 hd2;refine concat_meets ⟨_,ho,rfl⟩ ⟨_,ho2,rfl⟩ noFill_list_add seq_list_add PySem.F.slot_list_add PySem.F.entry_list_add (PySem.F.args_list_add_2 _ _) (list_addW l b its.toArray its2.toArray n n2 dd dd2 sl sl2 (by simp only [List.size_toArray];omega)) ⟨ho,ho2,?_⟩;have ea:its.toArray++its2.toArray=(its++its2).toArray:=by simp
 rw [ea];exact ⟨.ref _,_,I.lnew (t':=s.toks) (r.append r2) (by rw [List.length_append];omega),rfl,q _ I.fresh⟩
theorem op_cat3:OpR X (binaryOp .Add) (fun x y H Q=>∃a b xs ys,x=.ref a/\y=.ref b/\SqT X.K H a xs/\SqT X.K H b ys/\xs.length+ys.length<=sizeLine/\(xs=[]->Q (.ref b) H)/\(ys=[]->Q (.ref a) H)/\∀p,H p=none->Q (.ref p) (upd H p (.tup (xs++ys)))):=by
 intro pins s σ H x y v u Q I rx ry h;obtain ⟨a,b,xs,ys,rfl,rfl,ha,hb,hz,q1,q2,q3⟩:=h;by_cases hx:xs=[]
 ·subst hx;cases rx;cases ry;obtain ⟨its,r1,p1,_⟩:=I.tuple ha;obtain ⟨its2,r2,p2,_⟩:=I.tuple hb;cases r1;obtain ⟨⟨cls,dd,data,sl⟩,ho,hc,n,hd⟩:=id p1;obtain ⟨⟨cls2,dd2,data2,sl2⟩,ho2,hc2,n2,hd2⟩:=id p2;simp only at hc hd hc2 hd2;subst hc hd hc2 hd2;exact concat_meets ⟨_,ho,rfl⟩ ⟨_,ho2,rfl⟩ noFill_tuple_add seq_tuple_add PySem.F.slot_tuple_add PySem.F.entry_tuple_add (PySem.F.args_tuple_add_2 _ _)
   (tuple_addW0 a b #[] its2.toArray n n2 dd dd2 sl sl2 rfl) ⟨ho,ho2,⟨.ref b,H,I,rfl,q1 rfl⟩⟩
 ·exact op_catT pins s σ H _ _ v u Q I rx ry ⟨a,b,xs,ys,rfl,rfl,ha,hb,hx,hz,fun e=>q2 e,fun _ p hp=>q3 p hp⟩
theorem dG (hK:X.K=K:=by rfl):Op2 K W true X (binaryOp .Add) jS:=by
 subst hK;refine (op_add.or (Cw.or (op_catL.or op_cat3))).imp fun x y H Q h=>?_;obtain ⟨F,a,b,s,qa,qb,p⟩:=h;cases a with
 |int i=>
  cases b with
  |int j=>exact .inl ⟨i,j,qa,qb,p.int s⟩
  |_=>exact aI.stuck p
 |str z=>
  cases b with
  |str w=>
   have p':aI X.K W true F H (if z.length+w.length<=sizeLine then .ok (.str (z++w)) else stk) Q:=p;by_cases hc:z.length+w.length<=sizeLine
   ·rw [if_pos hc] at p';exact .inr (.inl ⟨z,w,qa,qb,hc,p'.str s⟩)
   ·rw [if_neg hc] at p';exact p'.stuck
  |_=>exact aI.stuck p
 |lst ds=>
  cases b with
  |lst es=>
   obtain ⟨a,xs,e1,t1,r1⟩:=qa;obtain ⟨b,ys,e2,t2,r2⟩:=qb;have p':aI X.K W true F H (if ds.length+es.length<=sizeLine then .ok (.lst (ds++es)) else stk) Q:=p;by_cases hc:ds.length+es.length<=sizeLine
   ·rw [if_pos hc] at p';exact .inr (.inr (.inl ⟨a,b,xs,ys,e1,e2,s.lst t1,s.lst t2,by rw [r1.length,r2.length];exact hc,fun l hl=>p'.lst s (r1.append r2) hl⟩))
   ·rw [if_neg hc] at p';exact p'.stuck
  |_=>exact aI.stuck p
 |tup ds=>
  cases b with
  |tup es=>
   obtain ⟨a,xs,e1,t1,r1⟩:=qa;obtain ⟨b,ys,e2,t2,r2⟩:=qb;have p':aI X.K W true F H (if ds.length+es.length<=sizeLine then .ok (.tup (ds++es)) else stk) Q:=p;by_cases hc:ds.length+es.length<=sizeLine
   ·rw [if_pos hc] at p';refine .inr (.inr (.inr ⟨a,b,xs,ys,e1,e2,s.tup t1,s.tup t2,by rw [r1.length,r2.length];exact hc,fun e=>?_,fun e=>?_,fun l hl=>p'.tup s (r1.append r2) hl⟩))
    ·have z:ds=[]:=by have:=r1.length;rw [e] at this;exact List.length_eq_zero_iff.mp this.symm
     subst z;exact p'.same s ⟨b,ys,rfl,t2,r2⟩
    ·have z:es=[]:=by have:=r2.length;rw [e] at this;exact List.length_eq_zero_iff.mp this.symm
     subst z;rw [List.append_nil] at p';exact p'.same s ⟨a,xs,rfl,t1,r1⟩
   ·rw [if_neg hc] at p';exact p'.stuck
  |_=>exact aI.stuck p
 |_=>exact aI.stuck p
theorem A9:Op2 K W own X (compareOp .Is) D9:=op_isN.imp fun x y H Q h=>by
 obtain ⟨F,a,b,s,qa,qb,p⟩:=h;have key:∀{k:Bool},D9 a b=.ok (.bl k)->b=.non->(decide (x=V.non)=k)->y=V.non/\Q (.bl (decide (x=V.non))) H:=fun {k} e1 e2 e3=>by
  subst e2;rw [e1] at p;rw [e3];exact ⟨qb,p.bl s⟩
 cases b with
 |non=>
  cases a with
  |non=>exact key rfl rfl (by rw [show x=.non from qa];rfl)
  |bl k=>exact key rfl rfl (by rw [show x=.bl k from qa];rfl)
  |int k=>exact key rfl rfl (by rw [show x=.int k from qa];rfl)
  |str k=>exact key rfl rfl (by rw [show x=.str k from qa];rfl)
  |tup ds=>obtain ⟨l,xs,e,_⟩:=qa;exact key rfl rfl (by rw [e];rfl)
  |lst ds=>obtain ⟨l,xs,e,_⟩:=qa;exact key rfl rfl (by rw [e];rfl)
  |ins C fs=>obtain ⟨l,dx,xs,e,_⟩:=qa;exact key rfl rfl (by rw [e];rfl)
  |dic ks=>obtain ⟨l,xs,e,_⟩:=qa;exact key rfl rfl (by rw [e];rfl)
 |_=>cases a<;>exact aI.stuck p
theorem EN {Q:VK} {i:Int} (p:aI K W false F H (mx ds i) Q) (s:b9 F H) (r:aA K F ds xs):∃v,atI xs i=some v/\Q v H:=by
 unfold mx at p;cases e:atI ds i with
 |none=>rw [e] at p;exact aI.stuck p
 |some d=>
  rw [e] at p;unfold atI at e;cases hj:ixN ds.length i with
  |none=>rw [hj] at e;cases e
  |some j=>
   rw [hj] at e;obtain ⟨v,e1,q⟩:=r.get (show ds[j]? =some d from e);refine ⟨v,?_,p v F H (Step.refl s) q⟩
   unfold atI;rw [r.length,hj];exact e1
theorem bf (hK:X.K=K:=by rfl):IxR X (rD2 K W false ixD):=by
 subst hK;refine ix_seq.imp fun x y H Q h=>?_;obtain ⟨F,a,b,s,qa,qb,p⟩:=h;cases a with
 |lst ds=>
  cases b with
  |int i=>
   obtain ⟨a,xs,e1,t1,r1⟩:=qa;obtain ⟨v,e2,q⟩:=EN p s r1;exact .inl ⟨a,xs,i,v,e1,qb,s.lst t1,e2,q⟩
  |_=>exact aI.stuck p
 |tup ds=>
  cases b with
  |int i=>
   obtain ⟨a,xs,e1,t1,r1⟩:=qa;obtain ⟨v,e2,q⟩:=EN p s r1;exact .inr (.inl ⟨a,xs,i,v,e1,qb,s.tup t1,e2,q⟩)
  |_=>exact aI.stuck p
 |_=>exact aI.stuck p
theorem lU (hK:X.K=K:=by rfl):uY K W own X (.builtin "len") tH:=by
 subst hK;refine pE.imp fun xs H Q h=>?_;obtain ⟨F,ds,s,q,p⟩:=h
 match ds,q,p with
 |[.lst es],⟨v,vs,e,⟨a,ys,e1,t,r⟩,e2⟩,p=>
  refine ⟨a,ys,by rw [e,e1,show vs=[] from e2],.inl (s.lst t),?_⟩
  rw [r.length];exact aI.int (own:=own) p s
 |[.tup es],⟨v,vs,e,⟨a,ys,e1,t,r⟩,e2⟩,p=>
  refine ⟨a,ys,by rw [e,e1,show vs=[] from e2],.inr (s.tup t),?_⟩
  rw [r.length];exact aI.int (own:=own) p s
 |[],_,p=>exact aI.stuck p
 |[.non],_,p=>exact aI.stuck p
 |[.bl _],_,p=>exact aI.stuck p
 |[.int _],_,p=>exact aI.stuck p
 |[.str _],_,p=>exact aI.stuck p
 |[.ins _ _],_,p=>exact aI.stuck p
 |[.dic _],_,p=>exact aI.stuck p
 |.non::_::_,_,p=>exact aI.stuck p
 |.bl _::_::_,_,p=>exact aI.stuck p
 |.int _::_::_,_,p=>exact aI.stuck p
 |.str _::_::_,_,p=>exact aI.stuck p
 |.ins _ _::_::_,_,p=>exact aI.stuck p
 |.dic _::_::_,_,p=>exact aI.stuck p
 |.lst _::_::_,_,p=>exact aI.stuck p
 |.tup _::_::_,_,p=>exact aI.stuck p
end
section
variable {W:i4} {own:Bool}
theorem u6 {g:List Dat->M Dat} (hg:∀ds,(∃d,ds=[d])\/g ds=stk) {Q:VK} (h:rDL K W own g xs H Q):∃F d x,b9 F H/\xs=[x]/\bQ K F d x/\aI K W own F H (g [d]) Q:=by
 obtain ⟨F,ds,s,q,p⟩:=h;rcases hg ds with ⟨d,rfl⟩|e
 ·obtain ⟨v,vs,e,q1,e2⟩:=q;exact ⟨F,d,v,s,by rw [e,show vs=[] from e2],q1,p⟩
 ·rw [e] at p;exact p.stuck
theorem Dq {g:List Dat->M Dat} (hg:∀ds,(∃d,ds=[d])\/(∃d e,ds=[d,e])\/g ds=stk) {Q:VK} (h:rDL K W own g xs H Q):(∃F d x,b9 F H/\xs=[x]/\bQ K F d x/\aI K W own F H (g [d]) Q)\/∃F d e x y,b9 F H/\xs=[x,y]/\bQ K F d x/\bQ K F e y/\aI K W own F H (g [d,e]) Q:=by
 obtain ⟨F,ds,s,q,p⟩:=h;rcases hg ds with ⟨d,rfl⟩|⟨d,e,rfl⟩|e
 ·obtain ⟨v,vs,e,q1,e2⟩:=q;exact .inl ⟨F,d,v,s,by rw [e,show vs=[] from e2],q1,p⟩
 ·obtain ⟨v,vs,e1,q1,w,ws,e2,q2,e3⟩:=q;exact .inr ⟨F,d,e,v,w,s,by rw [e1,e2,show ws=[] from e3],q1,q2,p⟩
 ·rw [e] at p;exact p.stuck
theorem sN {F:Hp}:∀{ds:List Dat} {xs:List V} {bs:List Bool},aA K F ds xs->hU ds=.ok bs->xs=bs.map V.bl
 |[],_,_,q,e=>by cases e;exact q
 |d::ds,_,bs,⟨v,vs,e1,q,r⟩,e=>by
  cases d with
  |bl b=>
   cases e2:hU ds with
   |error x=>simp only [hU,asB,az,e2,nA] at e;cases e
   |ok cs=>
    simp only [hU,asB,az,e2] at e;cases e;rw [e1,show v=.bl b from q,sN r e2];rfl
  |_=>cases e
theorem sO:∀{ds:List Dat} {e:Err},hU ds=.error e->e=.stuck
 |[],_,h=>by cases h
 |d::ds,e,h=>by
  cases d with
  |bl b=>
   cases e2:hU ds with
   |error x=>simp only [hU,asB,az,e2,nA] at h;cases h;exact sO e2
   |ok cs=>simp only [hU,asB,az,e2] at h;cases h
  |_=>cases h;rfl
theorem ki {F:Hp}:∀{ds:List Dat} {xs:List V} {bs:List Int},aA K F ds xs->cV ds=.ok bs->xs=bs.map V.int
 |[],_,_,q,e=>by cases e;exact q
 |d::ds,_,bs,⟨v,vs,e1,q,r⟩,e=>by
  cases d with
  |int b=>
   cases e2:cV ds with
   |error x=>simp only [cV,asI,az,e2,nA] at e;cases e
   |ok cs=>
    simp only [cV,asI,az,e2] at e;cases e;rw [e1,show v=.int b from q,ki r e2];rfl
  |_=>cases e
theorem mj:∀{ds:List Dat} {e:Err},cV ds=.error e->e=.stuck
 |[],_,h=>by cases h
 |d::ds,e,h=>by
  cases d with
  |int b=>
   cases e2:cV ds with
   |error x=>simp only [cV,asI,az,e2,nA] at h;cases h;exact mj e2
   |ok cs=>simp only [cV,asI,az,e2] at h;cases h
  |_=>cases h;rfl
theorem c_all (hc:X.calm=true) (hK:X.K=K:=by rfl):uY K W own X (.builtin "all") allD:=by
 subst hK;refine (call_all hc).imp fun xs H Q h=>?_;obtain ⟨F,d,x,s,e,q,p⟩:=u6 (fun ds=>by match ds with|[d]=>exact .inl ⟨d,rfl⟩|[]=>exact .inr rfl|a::b::c=>exact .inr (by cases a<;>rfl)) h;cases d with
 |lst ds=>
  obtain ⟨a,ys,e1,t,r⟩:=q;have p':aI X.K W own F H ((hU ds).bind fun bs=>.ok (.bl (bs.all id))) Q:=p;cases eb:hU ds with
  |error z=>rw [eb] at p';have:=sO eb;subst this;exact aI.stuck p'
  |ok bs=>
   rw [eb] at p';refine ⟨a,bs,by rw [e,e1],?_,aI.bl (own:=own) p' s⟩
   rw [<- sN r eb];exact s.lst t
 |_=>exact aI.stuck p
theorem c_any (hc:X.calm=true) (hK:X.K=K:=by rfl):uY K W own X (.builtin "any") anyD:=by
 subst hK;refine (call_any hc).imp fun xs H Q h=>?_;obtain ⟨F,d,x,s,e,q,p⟩:=u6 (fun ds=>by match ds with|[d]=>exact .inl ⟨d,rfl⟩|[]=>exact .inr rfl|a::b::c=>exact .inr (by cases a<;>rfl)) h;cases d with
 |lst ds=>
  obtain ⟨a,ys,e1,t,r⟩:=q;have p':aI X.K W own F H ((hU ds).bind fun bs=>.ok (.bl (bs.any id))) Q:=p;cases eb:hU ds with
  |error z=>rw [eb] at p';have:=sO eb;subst this;exact aI.stuck p'
  |ok bs=>
   rw [eb] at p';refine ⟨a,bs,by rw [e,e1],?_,aI.bl (own:=own) p' s⟩
   rw [<- sN r eb];exact s.lst t
 |_=>exact aI.stuck p
theorem c_list (hK:X.K=K:=by rfl):uY K W true X (.type "list") CK:=by
 subst hK;refine zm.imp fun xs H Q h=>?_;obtain ⟨F,d,x,s,e,q,p⟩:=u6 (fun ds=>by match ds with|[d]=>exact .inl ⟨d,rfl⟩|[]=>exact .inr rfl|a::b::c=>exact .inr (by cases a<;>rfl)) h;cases d with
 |lst ds=>
  obtain ⟨a,ys,e1,t,r⟩:=q;exact ⟨a,ys,by rw [e,e1],.inl (s.lst t),fun l hl=>aI.lst p s r hl⟩
 |tup ds=>
  obtain ⟨a,ys,e1,t,r⟩:=q;exact ⟨a,ys,by rw [e,e1],.inr (s.tup t),fun l hl=>aI.lst p s r hl⟩
 |_=>exact aI.stuck p
theorem c_int:uY K W own X (.type "int") intD:=Fw.imp fun xs H Q h=>by
 obtain ⟨F,d,x,s,e,q,p⟩:=u6 (fun ds=>by match ds with|[d]=>exact .inl ⟨d,rfl⟩|[]=>exact .inr rfl|a::b::c=>exact .inr (by cases a<;>rfl)) h;cases d with
 |int i=>exact .inl ⟨i,by rw [e,show x=.int i from q],aI.int (own:=own) p s⟩
 |bl b=>exact .inr ⟨b,by rw [e,show x=.bl b from q],aI.int (own:=own) p s⟩
 |_=>exact aI.stuck p
theorem fold_max:∀(is:List Int) (i:Int),(is.foldl kS i=i\/is.foldl kS i∈is)/\i<=is.foldl kS i/\∀a∈is,a<=is.foldl kS i
 |[],i=>⟨.inl rfl,Int.le_refl _,fun _ h=>nomatch h⟩
 |j::is,i=>by
  obtain ⟨h1,h2,h3⟩:=fold_max is (kS i j);have z:(kS i j=i\/kS i j=j)/\i<=kS i j/\j<=kS i j:=by unfold kS;split<;>(refine ⟨?_,?_,?_⟩<;>first|exact .inl rfl|exact .inr rfl|omega)
  rw [List.foldl_cons];refine ⟨?_,Int.le_trans z.2.1 h2,fun a ha=>?_⟩
  ·rcases h1 with h1|h1
   ·rw [h1];rcases z.1 with z|z
    ·exact .inl z
    ·exact .inr (by rw [z];exact List.mem_cons_self)
   ·exact .inr (List.mem_cons_of_mem _ h1)
  ·rcases List.mem_cons.mp ha with e|e
   ·rw [e];exact Int.le_trans z.2.2 h2
   ·exact h3 a e
theorem fold_min:∀(is:List Int) (i:Int),(is.foldl kb i=i\/is.foldl kb i∈is)/\is.foldl kb i<=i/\∀a∈is,is.foldl kb i<=a
 |[],i=>⟨.inl rfl,Int.le_refl _,fun _ h=>nomatch h⟩
 |j::is,i=>by
  obtain ⟨h1,h2,h3⟩:=fold_min is (kb i j);have z:(kb i j=i\/kb i j=j)/\kb i j<=i/\kb i j<=j:=by unfold kb;split<;>(refine ⟨?_,?_,?_⟩<;>first|exact .inl rfl|exact .inr rfl|omega)
  rw [List.foldl_cons];refine ⟨?_,Int.le_trans h2 z.2.1,fun a ha=>?_⟩
  ·rcases h1 with h1|h1
   ·rw [h1];rcases z.1 with z|z
    ·exact .inl z
    ·exact .inr (by rw [z];exact List.mem_cons_self)
   ·exact .inr (List.mem_cons_of_mem _ h1)
  ·rcases List.mem_cons.mp ha with e|e
   ·rw [e];exact Int.le_trans h2 z.2.2
   ·exact h3 a e
theorem Ag {is:List Int} {i m:Int} (h1:m∈i::is) (h2:∀a∈i::is,a<=m):is.foldl kS i=m:=by
 obtain ⟨g1,g2,g3⟩:=fold_max is i;have a1:is.foldl kS i<=m:=by
  rcases g1 with g|g
  ·rw [g];exact h2 i List.mem_cons_self
  ·exact h2 _ (List.mem_cons_of_mem _ g)
 have a2:m<=is.foldl kS i:=by
  rcases List.mem_cons.mp h1 with e|e
  ·rw [e];exact g2
  ·exact g3 m e
 omega
theorem Af {is:List Int} {i m:Int} (h1:m∈i::is) (h2:∀a∈i::is,m<=a):is.foldl kb i=m:=by
 obtain ⟨g1,g2,g3⟩:=fold_min is i;have a1:m<=is.foldl kb i:=by
  rcases g1 with g|g
  ·rw [g];exact h2 i List.mem_cons_self
  ·exact h2 _ (List.mem_cons_of_mem _ g)
 have a2:is.foldl kb i<=m:=by
  rcases List.mem_cons.mp h1 with e|e
  ·rw [e];exact g2
  ·exact g3 m e
 omega
theorem Fu (hc:X.calm=true):dS X (.builtin "max") (fun xs H Q=>∃a i is,xs=[.ref a]/\SqL X.K H a ((i::is).map V.int)/\Q (.int (is.foldl kS i)) H):=by
 intro pins s σ H xs us Q I r h;obtain ⟨a,i,is,rfl,hq,q⟩:=h;obtain ⟨u,rfl,ru⟩:=r.one;cases ru;obtain ⟨its,rv,p,hz⟩:=I.list hq;have hi:=intsAre_of rv;obtain ⟨xs,e⟩:=hi.allInts.items;have hns:i::is=xs.toList.map (·.1):=by rw [<- hi.numsOf,<- nums_intItems,<- e]
 have hsz:0<xs.size:=by
  have h3:=congrArg List.length hns;simp at h3;omega
 have hl:=p.isList;rw [e] at hl;refine max_intList (I.ok.hd hc) hl hsz fun v h' tk hv hk=>?_;obtain ⟨t,rfl⟩:=intItems_at hv;obtain ⟨h1,h2⟩:=argBest_gt (numAt xs) (xs.size-1);refine ⟨.int _,H,I.kept hk,⟨t,rfl⟩,?_⟩
 have:=Ag (is:=is) (i:=i) (m:=numAt xs (argBest (fun i j=>decide (numAt xs i>numAt xs j)) (xs.size-1))) (by
   rw [hns,numAt_eq];exact getD_mem (by rw [List.length_map,Array.length_toList];omega)) (fun a ha=>by
   rw [hns] at ha;obtain ⟨j,hj,rfl⟩:=mem_getD ha;rw [List.length_map,Array.length_toList] at hj;rw [<- numAt_eq];exact h2 j (by omega))
 rw [<- this];exact q
theorem Fs (hc:X.calm=true):dS X (.builtin "min") (fun xs H Q=>∃a i is,xs=[.ref a]/\SqL X.K H a ((i::is).map V.int)/\Q (.int (is.foldl kb i)) H):=by
 intro pins s σ H xs us Q I r h;obtain ⟨a,i,is,rfl,hq,q⟩:=h;obtain ⟨u,rfl,ru⟩:=r.one;cases ru;obtain ⟨its,rv,p,hz⟩:=I.list hq;have hi:=intsAre_of rv;obtain ⟨xs,e⟩:=hi.allInts.items;have hns:i::is=xs.toList.map (·.1):=by rw [<- hi.numsOf,<- nums_intItems,<- e]
 have hsz:0<xs.size:=by
  have h3:=congrArg List.length hns;simp at h3;omega
 have hl:=p.isList;rw [e] at hl;refine min_intList (I.ok.hd hc) hl hsz fun v h' tk hv hk=>?_;obtain ⟨t,rfl⟩:=intItems_at hv;obtain ⟨h1,h2⟩:=argBest_lt (numAt xs) (xs.size-1);refine ⟨.int _,H,I.kept hk,⟨t,rfl⟩,?_⟩
 have:=Af (is:=is) (i:=i) (m:=numAt xs (argBest (fun i j=>decide (numAt xs i<numAt xs j)) (xs.size-1))) (by
   rw [hns,numAt_eq];exact getD_mem (by rw [List.length_map,Array.length_toList];omega)) (fun a ha=>by
   rw [hns] at ha;obtain ⟨j,hj,rfl⟩:=mem_getD ha;rw [List.length_map,Array.length_toList] at hj;rw [<- numAt_eq];exact h2 j (by omega))
 rw [<- this];exact q
theorem Fy (hc:X.calm=true) (hK:X.K=K:=by rfl):uY K W own X (.builtin "max") maxD:=by
 subst hK;refine ((Fv hc).or (Fu hc)).imp fun xs H Q h=>?_;rcases Dq (fun ds=>by match ds with|[d]=>exact .inl ⟨d,rfl⟩|[d,e]=>exact .inr (.inl ⟨d,e,rfl⟩)|[]=>exact .inr (.inr rfl)|a::b::c::d=>exact .inr (.inr (by cases a<;>cases b<;>rfl))) h with ⟨F,d,x,s,e,q,p⟩|⟨F,d,d2,x,y,s,e,q,q2,p⟩
 ·cases d with
  |lst ds=>
   obtain ⟨a,ys,e1,t,r⟩:=q;have p':aI X.K W own F H ((cV ds).bind maxL) Q:=p;cases eb:cV ds with
   |error z=>rw [eb] at p';have:=mj eb;subst this;exact aI.stuck p'
   |ok is=>
    rw [eb] at p';cases is with
    |nil=>exact aI.stuck p'
    |cons i is=>
     refine .inr ⟨a,i,is,by rw [e,e1],?_,aI.int (own:=own) p' s⟩;rw [<- ki r eb];exact s.lst t
  |_=>exact aI.stuck p
 ·cases d with
  |int i=>
   cases d2 with
   |int j=>exact .inl ⟨i,j,by rw [e,show x=.int i from q,show y=.int j from q2],aI.int (own:=own) p s⟩
   |_=>exact aI.stuck p
  |_=>cases d2<;>exact aI.stuck p
theorem Fx (hc:X.calm=true) (hK:X.K=K:=by rfl):uY K W own X (.builtin "min") minD:=by
 subst hK;refine ((Ft hc).or (Fs hc)).imp fun xs H Q h=>?_;rcases Dq (fun ds=>by match ds with|[d]=>exact .inl ⟨d,rfl⟩|[d,e]=>exact .inr (.inl ⟨d,e,rfl⟩)|[]=>exact .inr (.inr rfl)|a::b::c::d=>exact .inr (.inr (by cases a<;>cases b<;>rfl))) h with ⟨F,d,x,s,e,q,p⟩|⟨F,d,d2,x,y,s,e,q,q2,p⟩
 ·cases d with
  |lst ds=>
   obtain ⟨a,ys,e1,t,r⟩:=q;have p':aI X.K W own F H ((cV ds).bind minL) Q:=p;cases eb:cV ds with
   |error z=>rw [eb] at p';have:=mj eb;subst this;exact aI.stuck p'
   |ok is=>
    rw [eb] at p';cases is with
    |nil=>exact aI.stuck p'
    |cons i is=>
     refine .inr ⟨a,i,is,by rw [e,e1],?_,aI.int (own:=own) p' s⟩;rw [<- ki r eb];exact s.lst t
  |_=>exact aI.stuck p
 ·cases d with
  |int i=>
   cases d2 with
   |int j=>exact .inl ⟨i,j,by rw [e,show x=.int i from q,show y=.int j from q2],aI.int (own:=own) p s⟩
   |_=>exact aI.stuck p
  |_=>cases d2<;>exact aI.stuck p
end
section
theorem SqL.inj {pins:Vp} {σ:St} {H:Hp} {s:Shared} {a:Addr} {xs ys:List V} (I:Inv X pins σ H s) (h:SqL X.K H a xs) (h':SqL X.K H a ys):xs=ys:=by
 obtain ⟨i1,r1,p1,_⟩:=I.list h;obtain ⟨i2,r2,p2,_⟩:=I.list h';obtain ⟨o,n,e,_,_,d⟩:=p1;obtain ⟨o',n',e',_,_,d'⟩:=p2;rw [e] at e';cases e';rw [d] at d';injection d' with d1 _
 have:i1=i2:=by simpa using congrArg Array.toList d1
 subst this;exact r1.inj r2
theorem SqT.inj {pins:Vp} {σ:St} {H:Hp} {s:Shared} {a:Addr} {xs ys:List V} (I:Inv X pins σ H s) (h:SqT X.K H a xs) (h':SqT X.K H a ys):xs=ys:=by
 obtain ⟨i1,r1,p1,_⟩:=I.tuple h;obtain ⟨i2,r2,p2,_⟩:=I.tuple h';obtain ⟨o,e,_,n,d⟩:=p1;obtain ⟨o',e',_,n',d'⟩:=p2;rw [e] at e';cases e';rw [d] at d';injection d' with d1 _
 have:i1=i2:=by simpa using congrArg Array.toList d1
 subst this;exact r1.inj r2
theorem aA.all_eq {F:Hp} (e:Nat->Bool):∀{ds es:List Dat},ds.length=es.length->(∀(j:Nat) a b,ds[j]? =some a->es[j]? =some b->e j=eqD a b)->(List.range ds.length).all e=ot ds es:=by
 intro ds
 induction ds generalizing e with
 |nil=>intro es h _;cases es with
  |nil=>rfl
  |cons _ _=>simp at h
 |cons d ds ih=>
  intro es h q;cases es with
  |nil=>simp at h
  |cons b es=>
   rw [List.length_cons,List.range_succ_eq_map,List.all_cons,List.all_map,ot];rw [q 0 d b rfl rfl]
   congr 1
   exact ih (e∘Nat.succ) (by simpa using h) fun j x y hx hy=>q (j+1) x y (by simpa using hx) (by simpa using hy)
theorem tL:∀{ds es:List Dat},ds.length≠es.length->ot ds es=false
 |[],[],h=>absurd rfl h
 |[],_::_,_=>rfl
 |_::_,[],_=>rfl
 |d::ds,e::es,h=>by
  rw [ot,tL (ds:=ds) (es:=es) (fun z=>h (by simp [z])),Bool.and_false]
theorem BK (e:Nat->Bool):∀{ds es:List Dat},(∀(j:Nat) a b,ds[j]? =some a->es[j]? =some b->e j=eqD a b)->((List.range (min ds.length es.length)).all e&&ds.length==es.length)=ot ds es:=by
 intro ds es q;by_cases hl:ds.length=es.length
 ·have e1:min ds.length es.length=ds.length:=by omega
  rw [e1,aA.all_eq (F:=fun _=>none) e hl q,hl,beq_self_eq_true,Bool.and_true]
 ·rw [tL hl];have:(ds.length==es.length)=false:=by simpa using hl
  rw [this,Bool.and_false]
mutual
theorem BL:∀{d:Dat} {n:Nat},okE d n=true->eqD d d=true
 |.non,_,_=>rfl
 |.bl b,_,_=>by simp [eqD]
 |.int i,_,_=>by simp [eqD]
 |.str x,_,_=>by simp [eqD]
 |.tup ds,0,h=>by simp [okE] at h
 |.tup ds,n+1,h=>by simp only [okE] at h;simp only [eqD];exact uJ h
 |.lst ds,0,h=>by simp [okE] at h
 |.lst ds,n+1,h=>by simp only [okE] at h;simp only [eqD];exact uJ h
 |.ins _ _,_,h=>by simp [okE] at h
 |.dic _,_,h=>by simp [okE] at h
theorem uJ:∀{ds:List Dat} {n:Nat},kU ds n=true->ot ds ds=true
 |[],_,_=>rfl
 |d::ds,n,h=>by
  simp only [kU,Bool.and_eq_true] at h;simp only [ot,BL h.1,uJ h.2,Bool.and_self]
end
theorem xb:∀{ds:List Dat} {n i:Nat} {d:Dat},kU ds n=true->ds[i]? =some d->okE d n=true
 |[],_,_,_,_,h=>by simp at h
 |_::_,_,0,_,h,e=>by
  simp only [kU,Bool.and_eq_true] at h;simp at e;rw [<- e];exact h.1
 |_::_,_,i+1,_,h,e=>by
  simp only [kU,Bool.and_eq_true] at h;exact xb h.2 (by simpa using e)
end
noncomputable def qf (ds es:List Dat) (j:Nat):Bool:=match ds[j]?,es[j]? with
 |some a,some b=>eqD a b
 |_,_=>true
inductive Sh (s:Shared):Dat->Value->Prop
 |non:Sh s .non .none
 |bl (b:Bool):Sh s (.bl b) (.bool b)
 |int (i:Int) (t:Nat):Sh s (.int i) (.int i t)
 |str (x:Str) (t:Nat):Sh s (.str x) (.str x t)
 |tup {ds:List Dat} {l:Addr} {is:Array Value} (p:s.heap.IsTuple l is):Sh s (.tup ds) (.ref l)
 |lst {ds:List Dat} {l:Addr} {is:Array Value} (p:s.heap.IsList l is):Sh s (.lst ds) (.ref l)
noncomputable def sq:Dat->Dat->Bool
 |.tup _,.tup _=>true
 |.lst _,.lst _=>true
 |_,_=>false
theorem yh {a b:Dat} (h:sq a b=true):(∃ds es,a=.tup ds/\b=.tup es)\/∃ds es,a=.lst ds/\b=.lst es:=by
 unfold sq at h;split at h
 ·exact .inl ⟨_,_,rfl,rfl⟩
 ·exact .inr ⟨_,_,rfl,rfl⟩
 ·cases h
theorem eqAt_U {a b:Dat} {v:Value} (ha:Sh s a u) (hb:Sh s b v) (hu:A.units<cLine):sq a b=true\/SeqAt.EqAt A s u v (eqD a b):=match ha,hb with
 |.non,.non=>.inr (.same _)
 |.non,.bl b=>.inr (.none_bool b)
 |.non,.int b t2=>.inr (.none_int b t2)
 |.non,.str b t2=>.inr (.none_str b t2)
 |.non,.tup q=>.inr (.none_tuple q hu)
 |.non,.lst q=>.inr (.none_list q hu)
 |.bl a,.non=>.inr (.bool_none a)
 |.bl a,.bl b=>.inr (.bool_bool a b)
 |.bl a,.int b t2=>.inr (.bool_int a b t2)
 |.bl a,.str b t2=>.inr (.bool_str a b t2)
 |.bl a,.tup q=>.inr (.bool_tuple a q hu)
 |.bl a,.lst q=>.inr (.bool_list a q hu)
 |.int a t,.non=>.inr (.int_none a t)
 |.int a t,.bl b=>.inr (.int_bool a t b)
 |.int a t,.int b t2=>.inr (.int_int a t b t2)
 |.int a t,.str b t2=>.inr (.int_str a t b t2)
 |.int a t,.tup q=>.inr (.int_tuple a t q hu)
 |.int a t,.lst q=>.inr (.int_list a t q hu)
 |.str a t,.non=>.inr (.str_none a t)
 |.str a t,.bl b=>.inr (.str_bool a t b)
 |.str a t,.int b t2=>.inr (.str_int a t b t2)
 |.str a t,.str b t2=>.inr (.str_str a t b t2)
 |.str a t,.tup q=>.inr (.str_tuple a t q hu)
 |.str a t,.lst q=>.inr (.str_list a t q hu)
 |.tup p,.non=>.inr (.tuple_none p hu)
 |.tup p,.bl b=>.inr (.tuple_bool b p hu)
 |.tup p,.int b t2=>.inr (.tuple_int b t2 p hu)
 |.tup p,.str b t2=>.inr (.tuple_str b t2 p hu)
 |.tup _,.tup _=>.inl rfl
 |.tup p,.lst q=>.inr (.tuple_list p q hu)
 |.lst p,.non=>.inr (.list_none p hu)
 |.lst p,.bl b=>.inr (.list_bool b p hu)
 |.lst p,.int b t2=>.inr (.list_int b t2 p hu)
 |.lst p,.str b t2=>.inr (.list_str b t2 p hu)
 |.lst p,.tup q=>.inr (.list_tuple p q hu)
 |.lst _,.lst _=>.inl rfl
theorem rcAt_U {a b:Dat} {v:Value} (ha:Sh s a u) (hb:Sh s b v) (hu:A.units<cLine):sq a b=true\/SeqAt.RcAt A s u v (eqD a b):=match ha,hb with
 |.non,.non=>.inr (.none_none)
 |.non,.bl b=>.inr (.none_bool b)
 |.non,.int b t2=>.inr (.none_int b t2)
 |.non,.str b t2=>.inr (.none_str b t2)
 |.non,.tup q=>.inr (.none_tuple q hu)
 |.non,.lst q=>.inr (.none_list q hu)
 |.bl a,.non=>.inr (.bool_none a)
 |.bl a,.bl b=>.inr (.bool_bool a b)
 |.bl a,.int b t2=>.inr (.bool_int a b t2)
 |.bl a,.str b t2=>.inr (.bool_str a b t2)
 |.bl a,.tup q=>.inr (.bool_tuple a q hu)
 |.bl a,.lst q=>.inr (.bool_list a q hu)
 |.int a t,.non=>.inr (.int_none a t)
 |.int a t,.bl b=>.inr (.int_bool a t b)
 |.int a t,.int b t2=>.inr (.int_int a t b t2)
 |.int a t,.str b t2=>.inr (.int_str a t b t2)
 |.int a t,.tup q=>.inr (.int_tuple a t q hu)
 |.int a t,.lst q=>.inr (.int_list a t q hu)
 |.str a t,.non=>.inr (.str_none a t)
 |.str a t,.bl b=>.inr (.str_bool a t b)
 |.str a t,.int b t2=>.inr (.str_int a t b t2)
 |.str a t,.str b t2=>.inr (.str_str a t b t2)
 |.str a t,.tup q=>.inr (.str_tuple a t q hu)
 |.str a t,.lst q=>.inr (.str_list a t q hu)
 |.tup p,.non=>.inr (.tuple_none p hu)
 |.tup p,.bl b=>.inr (.tuple_bool b p hu)
 |.tup p,.int b t2=>.inr (.tuple_int b t2 p hu)
 |.tup p,.str b t2=>.inr (.tuple_str b t2 p hu)
 |.tup _,.tup _=>.inl rfl
 |.tup p,.lst q=>.inr (.tuple_list p q hu)
 |.lst p,.non=>.inr (.list_none p hu)
 |.lst p,.bl b=>.inr (.list_bool b p hu)
 |.lst p,.int b t2=>.inr (.list_int b t2 p hu)
 |.lst p,.str b t2=>.inr (.list_str b t2 p hu)
 |.lst p,.tup q=>.inr (.list_tuple p q hu)
 |.lst _,.lst _=>.inl rfl
theorem rcNeAt_U {a b:Dat} {v:Value} (ha:Sh s a u) (hb:Sh s b v) (hu:A.units<cLine):sq a b=true\/SeqAt.RcNeAt A s u v (!eqD a b):=match ha,hb with
 |.non,.non=>.inr (.none_none)
 |.non,.bl b=>.inr (.none_bool b)
 |.non,.int b t2=>.inr (.none_int b t2)
 |.non,.str b t2=>.inr (.none_str b t2)
 |.non,.tup q=>.inr (.none_tuple q hu)
 |.non,.lst q=>.inr (.none_list q hu)
 |.bl a,.non=>.inr (.bool_none a)
 |.bl a,.bl b=>.inr (.bool_bool a b)
 |.bl a,.int b t2=>.inr (.bool_int a b t2)
 |.bl a,.str b t2=>.inr (.bool_str a b t2)
 |.bl a,.tup q=>.inr (.bool_tuple a q hu)
 |.bl a,.lst q=>.inr (.bool_list a q hu)
 |.int a t,.non=>.inr (.int_none a t)
 |.int a t,.bl b=>.inr (.int_bool a t b)
 |.int a t,.int b t2=>.inr (.int_int a t b t2)
 |.int a t,.str b t2=>.inr (.int_str a t b t2)
 |.int a t,.tup q=>.inr (.int_tuple a t q hu)
 |.int a t,.lst q=>.inr (.int_list a t q hu)
 |.str a t,.non=>.inr (.str_none a t)
 |.str a t,.bl b=>.inr (.str_bool a t b)
 |.str a t,.int b t2=>.inr (.str_int a t b t2)
 |.str a t,.str b t2=>.inr (.str_str a t b t2)
 |.str a t,.tup q=>.inr (.str_tuple a t q hu)
 |.str a t,.lst q=>.inr (.str_list a t q hu)
 |.tup p,.non=>.inr (.tuple_none p hu)
 |.tup p,.bl b=>.inr (.tuple_bool b p hu)
 |.tup p,.int b t2=>.inr (.tuple_int b t2 p hu)
 |.tup p,.str b t2=>.inr (.tuple_str b t2 p hu)
 |.tup _,.tup _=>.inl rfl
 |.tup p,.lst q=>.inr (.tuple_list p q hu)
 |.lst p,.non=>.inr (.list_none p hu)
 |.lst p,.bl b=>.inr (.list_bool b p hu)
 |.lst p,.int b t2=>.inr (.list_int b t2 p hu)
 |.lst p,.str b t2=>.inr (.list_str b t2 p hu)
 |.lst p,.tup q=>.inr (.list_tuple p q hu)
 |.lst _,.lst _=>.inl rfl
section
theorem ym (I:Inv X pins σ H s) (hF:b9 F H) {x:V} (o:okE d n=true) (q:bQ X.K F d x) (r:RelV x u):Sh s d u:=by
 cases d with
 |non=>cases (show x=.non from q);cases r;exact .non
 |bl b=>cases (show x=.bl b from q);cases r;exact .bl b
 |int i=>cases (show x=.int i from q);obtain ⟨t,rfl⟩:=r;exact .int i t
 |str y=>cases (show x=.str y from q);obtain ⟨t,rfl⟩:=r;exact .str y t
 |tup ds=>
  obtain ⟨l,xs,e,t,_⟩:=q;subst e;cases r;obtain ⟨is,_,p,_⟩:=I.tuple (hF.tup t);exact .tup (show s.heap.IsTuple l is.toArray from p)
 |lst ds=>
  obtain ⟨l,xs,e,t,_⟩:=q;subst e;cases r;obtain ⟨is,_,p,_⟩:=I.list (hF.lst t);exact .lst p.isList
 |_=>simp [okE] at o
theorem uM {n:Nat} (ih:∀(d e:Dat) {v:V},bQ X.K F d v->bQ X.K F e v->okE d n=true->okE e n=true->d=e):∀(ds es:List Dat) {xs:List V},aA X.K F ds xs->aA X.K F es xs->kU ds n=true->kU es n=true->ds=es
 |[],[],_,_,_,_,_=>rfl
 |[],_::_,_,q,⟨_,_,e,_⟩,_,_=>by rw [show _=[] from q] at e;cases e
 |_::_,[],_,⟨_,_,e,_⟩,q,_,_=>by rw [show _=[] from q] at e;cases e
 |d::ds,e::es,_,⟨v,vs,e1,q1,r1⟩,⟨w,ws,e2,q2,r2⟩,o1,o2=>by
  rw [e1] at e2;cases e2;simp only [kU,Bool.and_eq_true] at o1 o2;rw [ih d e q1 q2 o1.1 o2.1,uM ih ds es r1 r2 o1.2 o2.2]
theorem tP {e:Dat} (hd:sq d d=false) (q:bQ X.K F d v) (r:bQ X.K F e v) (o1:okE d n=true) (o2:okE e n=true):d=e:=by
 cases d<;>first|(cases hd;done)|(simp [okE] at o1;done)|(simp only [bQ] at q;subst q)
 all_goals cases e<;>first|(simp [okE] at o2;done)|(simp only [bQ] at r;first|(obtain ⟨_,_,z,_⟩:=r;cases z;done)|(cases r<;>rfl))
theorem xA (I:Inv X pins σ H s) (hF:b9 F H):∀(n:Nat) (d e:Dat) {v:V},bQ X.K F d v->bQ X.K F e v->okE d n=true->okE e n=true->d=e
 |n,.tup ds,e,v,⟨l,xs,e1,h1,r1⟩,r,o1,o2=>by
  subst e1;cases n with
  |zero=>simp [okE] at o1
  |succ n=>
   cases e with
   |tup es=>
    obtain ⟨l2,ys,e2,h2,r2⟩:=r;cases e2;cases SqT.inj I (hF.tup h1) (hF.tup h2);rw [uM (xA I hF n) _ _ r1 r2 (by simpa only [okE] using o1) (by simpa only [okE] using o2)]
   |lst es=>
    obtain ⟨l2,ys,e2,h2,r2⟩:=r;cases e2;obtain ⟨i1,_,p1,_⟩:=I.list (hF.lst h2);obtain ⟨i2,_,p2,_⟩:=I.tuple (hF.tup h1);exact absurd rfl (SeqAt.ne_of_list_tuple p1.isList (show s.heap.IsTuple l i2.toArray from p2))
   |_=>first|(simp [okE] at o2;done)|(simp only [bQ] at r;cases r)
 |n,.lst ds,e,v,⟨l,xs,e1,h1,r1⟩,r,o1,o2=>by
  subst e1;cases n with
  |zero=>simp [okE] at o1
  |succ n=>
   cases e with
   |lst es=>
    obtain ⟨l2,ys,e2,h2,r2⟩:=r;cases e2;cases SqL.inj I (hF.lst h1) (hF.lst h2);rw [uM (xA I hF n) _ _ r1 r2 (by simpa only [okE] using o1) (by simpa only [okE] using o2)]
   |tup es=>
    obtain ⟨l2,ys,e2,h2,r2⟩:=r;cases e2;obtain ⟨i1,_,p1,_⟩:=I.list (hF.lst h1);obtain ⟨i2,_,p2,_⟩:=I.tuple (hF.tup h2);exact absurd rfl (SeqAt.ne_of_list_tuple p1.isList (show s.heap.IsTuple l i2.toArray from p2))
   |_=>first|(simp [okE] at o2;done)|(simp only [bQ] at r;cases r)
 |_,.non,_,_,q,r,o1,o2=>tP rfl q r o1 o2
 |_,.bl _,_,_,q,r,o1,o2=>tP rfl q r o1 o2
 |_,.int _,_,_,q,r,o1,o2=>tP rfl q r o1 o2
 |_,.str _,_,_,q,r,o1,o2=>tP rfl q r o1 o2
 |_,.ins _ _,_,_,_,_,o1,_=>by simp [okE] at o1
 |_,.dic _,_,_,_,_,o1,_=>by simp [okE] at o1
termination_by n=>n
theorem rcAt_S {a b:Dat} {x y:V} {v:Value} (I:Inv X pins σ H s) (hF:b9 F H) (hs:sq a b=true) (qa:bQ X.K F a x) (qb:bQ X.K F b y) (ra:RelV x u) (rb:RelV y v) (hu:A.units<cLine)
  (ih:∀(ds es:List Dat) (j:Nat) (d1 d2:Dat) (x y:V) (u v:Value),(a=.tup ds/\b=.tup es\/a=.lst ds/\b=.lst es)->ds[j]? =some d1->es[j]? =some d2->bQ X.K F d1 x->bQ X.K F d2 y->RelV x u->RelV y v->SeqAt.EqAt A.in1 s u v (eqD d1 d2)):SeqAt.RcAt A s u v (eqD a b):=by
 rcases yh hs with ⟨ds,es,rfl,rfl⟩|⟨ds,es,rfl,rfl⟩
 ·skip;obtain ⟨l1,xs,e1,h1,r1⟩:=qa;subst e1;cases ra;obtain ⟨is,w1,p1,_⟩:=I.tuple (hF.tup h1);obtain ⟨l2,ys,e2,h2,r2⟩:=qb;subst e2;cases rb;obtain ⟨js,w2,p2,_⟩:=I.tuple (hF.tup h2);have z1:=w1.length;have z2:=w2.length;have y1:=r1.length;have y2:=r2.length;have q:=SeqAt.RcAt.tuples (A:=A) (e:=qf ds es) (show s.heap.IsTuple l1 is.toArray from p1) (show s.heap.IsTuple l2 js.toArray from p2) hu (fun j h1 h2=>by
   obtain ⟨x',f1,g1⟩:=w1.atA h1;obtain ⟨y',f2,g2⟩:=w2.atA h2;obtain ⟨d1,k1,m1⟩:=r1.at f1;obtain ⟨d2,k2,m2⟩:=r2.at f2;rw [show qf ds es j=eqD d1 d2 by simp only [qf,k1,k2]];exact ih ds es j d1 d2 x' y' _ _ (.inl ⟨rfl,rfl⟩) k1 k2 m1 m2 g1 g2)
  rw [show is.toArray.size=ds.length by simp;omega,show js.toArray.size=es.length by simp;omega,BK _ (fun j a b h1 h2=>by simp only [qf,h1,h2])] at q;exact q
 ·skip;obtain ⟨l1,xs,e1,h1,r1⟩:=qa;subst e1;cases ra;obtain ⟨is,w1,p1,_⟩:=I.list (hF.lst h1);obtain ⟨l2,ys,e2,h2,r2⟩:=qb;subst e2;cases rb;obtain ⟨js,w2,p2,_⟩:=I.list (hF.lst h2);have z1:=w1.length;have z2:=w2.length;have y1:=r1.length;have y2:=r2.length;by_cases hl:ds.length=es.length
  ·have q:=SeqAt.RcAt.lists (A:=A) (e:=qf ds es) p1.isList p2.isList (by simp;omega) hu (fun j h1 h2=>by
   obtain ⟨x',f1,g1⟩:=w1.atA h1;obtain ⟨y',f2,g2⟩:=w2.atA h2;obtain ⟨d1,k1,m1⟩:=r1.at f1;obtain ⟨d2,k2,m2⟩:=r2.at f2;rw [show qf ds es j=eqD d1 d2 by simp only [qf,k1,k2]];exact ih ds es j d1 d2 x' y' _ _ (.inr ⟨rfl,rfl⟩) k1 k2 m1 m2 g1 g2)
   rw [show is.toArray.size=ds.length by simp;omega,aA.all_eq (F:=F) _ hl (fun j a b h1 h2=>by simp only [qf,h1,h2])] at q;exact q
  ·rw [show eqD (.lst ds) (.lst es)=false from tL hl];exact SeqAt.RcAt.lists_lengths (A:=A) p1.isList p2.isList (by simp;omega) hu
theorem rcNeAt_S {a b:Dat} {x y:V} {v:Value} (I:Inv X pins σ H s) (hF:b9 F H) (hs:sq a b=true) (qa:bQ X.K F a x) (qb:bQ X.K F b y) (ra:RelV x u) (rb:RelV y v) (hu:A.units<cLine)
  (ih:∀(ds es:List Dat) (j:Nat) (d1 d2:Dat) (x y:V) (u v:Value),(a=.tup ds/\b=.tup es\/a=.lst ds/\b=.lst es)->ds[j]? =some d1->es[j]? =some d2->bQ X.K F d1 x->bQ X.K F d2 y->RelV x u->RelV y v->SeqAt.EqAt A.in1 s u v (eqD d1 d2)):SeqAt.RcNeAt A s u v (!eqD a b):=by
 rcases yh hs with ⟨ds,es,rfl,rfl⟩|⟨ds,es,rfl,rfl⟩
 ·skip;obtain ⟨l1,xs,e1,h1,r1⟩:=qa;subst e1;cases ra;obtain ⟨is,w1,p1,_⟩:=I.tuple (hF.tup h1);obtain ⟨l2,ys,e2,h2,r2⟩:=qb;subst e2;cases rb;obtain ⟨js,w2,p2,_⟩:=I.tuple (hF.tup h2);have z1:=w1.length;have z2:=w2.length;have y1:=r1.length;have y2:=r2.length;have q:=SeqAt.RcNeAt.tuples (A:=A) (e:=qf ds es) (show s.heap.IsTuple l1 is.toArray from p1) (show s.heap.IsTuple l2 js.toArray from p2) hu (fun j h1 h2=>by
   obtain ⟨x',f1,g1⟩:=w1.atA h1;obtain ⟨y',f2,g2⟩:=w2.atA h2;obtain ⟨d1,k1,m1⟩:=r1.at f1;obtain ⟨d2,k2,m2⟩:=r2.at f2;rw [show qf ds es j=eqD d1 d2 by simp only [qf,k1,k2]];exact ih ds es j d1 d2 x' y' _ _ (.inl ⟨rfl,rfl⟩) k1 k2 m1 m2 g1 g2)
  rw [show is.toArray.size=ds.length by simp;omega,show js.toArray.size=es.length by simp;omega,BK _ (fun j a b h1 h2=>by simp only [qf,h1,h2])] at q;exact q
 ·skip;obtain ⟨l1,xs,e1,h1,r1⟩:=qa;subst e1;cases ra;obtain ⟨is,w1,p1,_⟩:=I.list (hF.lst h1);obtain ⟨l2,ys,e2,h2,r2⟩:=qb;subst e2;cases rb;obtain ⟨js,w2,p2,_⟩:=I.list (hF.lst h2);have z1:=w1.length;have z2:=w2.length;have y1:=r1.length;have y2:=r2.length;by_cases hl:ds.length=es.length
  ·have q:=SeqAt.RcNeAt.lists (A:=A) (e:=qf ds es) p1.isList p2.isList (by simp;omega) hu (fun j h1 h2=>by
   obtain ⟨x',f1,g1⟩:=w1.atA h1;obtain ⟨y',f2,g2⟩:=w2.atA h2;obtain ⟨d1,k1,m1⟩:=r1.at f1;obtain ⟨d2,k2,m2⟩:=r2.at f2;rw [show qf ds es j=eqD d1 d2 by simp only [qf,k1,k2]];exact ih ds es j d1 d2 x' y' _ _ (.inr ⟨rfl,rfl⟩) k1 k2 m1 m2 g1 g2)
   rw [show is.toArray.size=ds.length by simp;omega,aA.all_eq (F:=F) _ hl (fun j a b h1 h2=>by simp only [qf,h1,h2])] at q;exact q
  ·rw [show eqD (.lst ds) (.lst es)=false from tL hl];exact SeqAt.RcNeAt.lists_lengths (A:=A) p1.isList p2.isList (by simp;omega) hu
theorem ok_sub {a b d1 d2:Dat} {es:List Dat} (oa:okE a n=true) (ob:okE b n=true) (h:a=.tup ds/\b=.tup es\/a=.lst ds/\b=.lst es) (k1:ds[j]? =some d1) (k2:es[j]? =some d2):∃m,n=m+1/\okE d1 m=true/\okE d2 m=true:=by
 cases n with
 |zero=>rcases h with ⟨rfl,rfl⟩|⟨rfl,rfl⟩<;>simp [okE] at oa
 |succ m=>exact ⟨m,rfl,by rcases h with ⟨rfl,rfl⟩|⟨rfl,rfl⟩<;>simp only [okE] at oa ob<;>exact ⟨xb oa k1,xb ob k2⟩⟩
theorem eqAt_N (I:Inv X pins σ H s) (hF:b9 F H):∀(n:Nat) (a b:Dat) {x y:V} {u v:Value} {A:Around},okE a n=true->okE b n=true->bQ X.K F a x->bQ X.K F b y->RelV x u->RelV y v->A.units+n<cLine->SeqAt.EqAt A s u v (eqD a b):=by
 intro n
 induction n with
 |zero=>
  intro a b x y u v A oa ob qa qb ra rb hu;refine (eqAt_U (ym I hF oa qa ra) (ym I hF ob qb rb) (by omega)).resolve_left fun h=>?_;rcases yh h with ⟨ds,es,rfl,rfl⟩|⟨ds,es,rfl,rfl⟩<;>simp [okE] at oa
 |succ n ih=>
  intro a b x y u v A oa ob qa qb ra rb hu;rcases eqAt_U (A:=A) (ym I hF oa qa ra) (ym I hF ob qb rb) (by omega) with h|h
  ·by_cases hab:x=y
   ·subst hab;cases (show a=b from xA I hF (n+1) a b qa qb oa ob);rw [BL oa];rcases yh h with ⟨ds,es,rfl,_⟩|⟨ds,es,rfl,_⟩<;>(obtain ⟨l1,xs,e1,_⟩:=qa;subst e1;cases ra;cases rb;exact SeqAt.EqAt.same _)
   ·have q:=rcAt_S (A:=A) I hF h qa qb ra rb (by omega) fun ds es j d1 d2 x' y' u' v' hs k1 k2 m1 m2 g1 g2=>by
     obtain ⟨m,e,o1,o2⟩:=ok_sub oa ob hs k1 k2;cases e;exact ih d1 d2 o1 o2 m1 m2 g1 g2 (by show A.units+1+n<cLine;omega)
    rcases yh h with ⟨ds,es,rfl,rfl⟩|⟨ds,es,rfl,rfl⟩<;>(obtain ⟨l1,xs,e1,_⟩:=qa;obtain ⟨l2,ys,e2,_⟩:=qb;subst e1;subst e2;cases ra;cases rb;exact SeqAt.EqAt.of_refs (fun z=>hab (by rw [z])) q)
  ·exact h
theorem F8 (I:Inv X pins σ H s) (hF:b9 F H) (a b:Dat) {x y:V} {v:Value} (oa:okE a n=true) (ob:okE b n=true) (qa:bQ X.K F a x) (qb:bQ X.K F b y) (ra:RelV x u) (rb:RelV y v) (hu:A.units+n<cLine):SeqAt.EqAt A s u v (eqD a b):=eqAt_N I hF n a b oa ob qa qb ra rb hu
theorem eqAt_I (I:Inv X pins σ H s) (hF:b9 F H) {a b:Dat} (oa:okE a n=true) (ob:okE b n=true) (hu:A.units+n<cLine) (ds es:List Dat) (j:Nat) (d1 d2:Dat) (x y:V) (u v:Value) (hs:a=.tup ds/\b=.tup es\/a=.lst ds/\b=.lst es) (k1:ds[j]? =some d1) (k2:es[j]? =some d2) (m1:bQ X.K F d1 x) (m2:bQ X.K F d2 y) (g1:RelV x u) (g2:RelV y v):SeqAt.EqAt A.in1 s u v (eqD d1 d2):=by
 obtain ⟨m,rfl,o1,o2⟩:=ok_sub oa ob hs k1 k2;exact F8 I hF d1 d2 o1 o2 m1 m2 g1 g2 (by show A.units+1+m<cLine;omega)
theorem rcAt_D (I:Inv X pins σ H s) (hF:b9 F H) (a b:Dat) {x y:V} {v:Value} (oa:okE a n=true) (ob:okE b n=true) (qa:bQ X.K F a x) (qb:bQ X.K F b y) (ra:RelV x u) (rb:RelV y v) (hu:A.units+n<cLine):SeqAt.RcAt A s u v (eqD a b):=
 (rcAt_U (ym I hF oa qa ra) (ym I hF ob qb rb) (by omega)).elim (fun h=>rcAt_S I hF h qa qb ra rb (by omega) (eqAt_I I hF oa ob hu)) id
theorem rcNeAt_D (I:Inv X pins σ H s) (hF:b9 F H) (a b:Dat) {x y:V} {v:Value} (oa:okE a n=true) (ob:okE b n=true) (qa:bQ X.K F a x) (qb:bQ X.K F b y) (ra:RelV x u) (rb:RelV y v) (hu:A.units+n<cLine):SeqAt.RcNeAt A s u v (!eqD a b):=
 (rcNeAt_U (ym I hF oa qa ra) (ym I hF ob qb rb) (by omega)).elim (fun h=>rcNeAt_S I hF h qa qb ra rb (by omega) (eqAt_I I hF oa ob hu)) id
end
section
variable {W:i4} {own:Bool}
theorem aI.blS {Q:VK} {b:Bool} (p:aI K W own F H (.ok (.bl b)) Q) (s1:b9 F H) (I:Inv X pins σ H s):EP X pins σ Q (.bool b) s:=⟨.bl b,H,I,rfl,p.bl s1⟩
theorem CC (hu:X.A.units+64<cLine) (hK:X.K=K:=by rfl):Op2 K W own X (compareOp .Eq) eqM:=by
 subst hK;intro pins s σ H x y v u Q I rx ry h;obtain ⟨F,a,b,s1,qa,qb,p⟩:=h;unfold eqM at p;by_cases hc:(okE a 40&&okE b 40)=true
 ·rw [if_pos hc] at p;simp only [Bool.and_eq_true] at hc;exact rcAt_D I s1 a b hc.1 hc.2 qa qb rx ry (by omega) _ _ _ _ (p.blS s1 I)
 ·rw [if_neg hc] at p;exact p.stuck
theorem o_ne (hu:X.A.units+64<cLine) (hK:X.K=K:=by rfl):Op2 K W own X (compareOp .NotEq) neM:=by
 subst hK;intro pins s σ H x y v u Q I rx ry h;obtain ⟨F,a,b,s1,qa,qb,p⟩:=h;unfold neM at p;by_cases hc:(okE a 40&&okE b 40)=true
 ·rw [if_pos hc] at p;simp only [Bool.and_eq_true] at hc;exact rcNeAt_D I s1 a b hc.1 hc.2 qa qb rx ry (by omega) _ _ _ _ (p.blS s1 I)
 ·rw [if_neg hc] at p;exact p.stuck
end
section
theorem Inv.wA {t':Nat} {T:Addr} (I:Inv X pins σ H s) (hf:∀b∈ch,AX X pins H b) (k:∀b o,b∉ch->s.heap.get? b=some o->h'.get? b=some o) (hT:s.heap.objs.size<=T)
  (new:xs.length<=sizeLine/\∃its:List Value,Vals xs its/\IsTup h' T its.toArray):Inv X pins σ (upd H T (.tup xs)) {s with heap:=h',toks:=t'}:=by
 have hTn:H T=none:=I.hok.fresh hT;have nit:∀b u,H b=some u->b∉ch:=fun b u e z=>by rw [(hf b z).1] at e;cases e
 have old:∀{b:Addr} {o:Obj},s.heap.get? b=some o->b≠T:=fun {b o} e=>Nat.ne_of_lt (Nat.lt_of_lt_of_le (Heap.lt_size e) hT);refine I.step (g':=s.gens) (d':=s.drawn) (ch:=ch) (fun b hb=>?_) (fun b o _ _ hc e _=>k b o hc e) (fun b o _ _ hc e _=>⟨o.slots,k b o hc e⟩) (fun b o _ e n=>by rw [aw (old e)];exact n)
  (fun b o hc e=>⟨o,k b o hc e⟩) (fun b ys e=>by rw [aw (aY e hTn)];exact e) (fun b o u e=>by rw [aw (aY e hTn)];exact e) (fun b ps e=>⟨#[],by rw [aw (aY e hTn),e];simp⟩) (fun m hm=>?_) (fun b u e=>?_) I.bare
 ·obtain ⟨f0,f1,f2,f3,f4,f5⟩:=hf b hb;exact ⟨f3,f1,f4,f5⟩
 ·obtain ⟨o,es,ep,ho,r⟩:=hm;exact ⟨o,es,ep,k _ o (fun z=>(hf _ z).2.1 rfl) ho,r⟩
 ·by_cases hb:b=T
  ·subst hb;rw [ar] at e;cases e;exact new
  ·rw [aw hb] at e;refine (I.hok b u e).Bf (fun c v hc q=>k c v ?_ q) (fun c q=>?_) fun c ys q=>?_
   ·rcases hc with z|z
    ·rw [z];exact nit b u e
    ·exact nit c _ z
   ·rw [aw (aY q hTn)];exact q
   ·rw [aw (aY q hTn)];exact q
theorem Inv.wB {t':Nat} (I:Inv X pins σ H s) (hf:∀b∈ch,AX X pins H b) (k:∀b o,b∉ch->s.heap.get? b=some o->h'.get? b=some o):Inv X pins σ H {s with heap:=h',toks:=t'}:=by
 have nit:∀b u,H b=some u->b∉ch:=fun b u e z=>by rw [(hf b z).1] at e;cases e
 refine I.step (g':=s.gens) (d':=s.drawn) (ch:=ch) (fun b hb=>?_) (fun b o _ _ hc e _=>k b o hc e) (fun b o _ _ hc e _=>⟨o.slots,k b o hc e⟩) (fun b o _ e n=>n)
  (fun b o hc e=>⟨o,k b o hc e⟩) (fun b ys e=>e) (fun b o u e=>e) (fun b ps e=>⟨#[],by rw [e];simp⟩) (fun m hm=>?_) (fun b u e=>?_) I.bare
 ·obtain ⟨f0,f1,f2,f3,f4,f5⟩:=hf b hb;exact ⟨f3,f1,f4,f5⟩
 ·obtain ⟨o,es,ep,ho,r⟩:=hm;exact ⟨o,es,ep,k _ o (fun z=>(hf _ z).2.1 rfl) ho,r⟩
 ·refine (I.hok b u e).Bf (fun c v hc q=>k c v ?_ q) (fun _ q=>q) fun _ _ q=>q;rcases hc with z|z
  ·rw [z];exact nit b u e
  ·exact nit c _ z
end
noncomputable def Ite (K:Pn) (a:Addr):It:=
 ⟨fun i H=>∃xs x,SqL K H a xs/\xs[i]? =some x,fun i H x H'=>∃T y,H T=none/\x=.ref T/\H'=upd H T (.tup [.int i,y])/\∀xs,SqL K H a xs->xs[i]? =some y,fun i H=>∃xs,SqL K H a xs/\xs.length<=i⟩
theorem Du (a e it:Addr) (hei:e≠it):Turn P w K (.Tuple elts k pos) (Ite K a) [e,it] e (fun i h=>(∃old,IsEnum h e it i old)/\h.IsListIter it a i) where
 mem:=by simp
 obj:=fun i h st b hb=>by
  obtain ⟨⟨old,he⟩,o,e1,c,d⟩:=st;rcases List.mem_cons.mp hb with rfl|hb
  ·exact ⟨_,he,fun v z=>by cases z⟩
  ·have:b=it:=by simpa using hb
   subst this;exact ⟨o,e1,fun v z=>by rw [d] at z;cases z⟩
 keep:=fun i h h' st kk=>by
  obtain ⟨⟨old,he⟩,hit⟩:=st;exact ⟨⟨old,kk e (by simp) _ he⟩,hit.at fun o x=>kk it (by simp) o x⟩
 item:=by
  intro X hP hw hK hc i pins s σ H E I hf st hg;subst hP hw hK;obtain ⟨⟨old,he⟩,hit⟩:=st;obtain ⟨xs,x,hq,hx⟩:=hg;obtain ⟨its,rv,p,hz⟩:=I.list hq;obtain ⟨u,hu,ru⟩:=rv.get hx;refine wpAny_pyNext_enum_item he hit p.isList (x:=u) (by simpa using hu) hei fun h1 ho hit1 hT hsz hk=>?_;refine ⟨_,rfl,wpAny_letOwnedTupleGo_enum ho fun h2 he2 hs2=>?_⟩
  have hlt:e<s.heap.objs.size:=Heap.lt_size he;have hTe:s.heap.objs.size≠e:=Nat.ne_of_gt hlt;have I1:Inv X pins σ (upd H s.heap.objs.size (.tup [.int i,x])) {s with heap:=h2,toks:=s.toks+1}:=I.wA (ch:=[e,it]) hf (fun b o hb q=>by
    have h3:=hk b o (fun z=>hb (by simp [z])) (fun z=>hb (by simp [z])) q;exact (hs2.2 b (fun z=>hb (by simp [z]))).trans h3) (Nat.le_refl _) ⟨by show 2<=sizeLine;decide,[.int i s.toks,u],.cons ⟨_,rfl⟩ (.cons ru .nil),⟨_,(hs2.2 _ hTe).trans hT,rfl,0,rfl⟩⟩
  refine ⟨.ref s.heap.objs.size,_,I1,rfl,⟨s.heap.objs.size,x,I.hok.fresh (Nat.le_refl _),rfl,rfl,fun ys hy=>by rw [I.pV hy hq];exact hx⟩,⟨⟨u,by simpa using he2⟩,hit1.at fun o y=>(hs2.2 it hei.symm).trans y⟩,fun b hb=>?_⟩
  have hbn:=(hf b hb).1;have:b≠s.heap.objs.size:=by
   rcases List.mem_cons.mp hb with rfl|hb
   ·exact hTe.symm
   ·have:b=it:=by simpa using hb
    subst this;obtain ⟨o,e1,_⟩:=hit;exact Nat.ne_of_lt (Heap.lt_size e1)
  rw [aw this];exact hbn
 done:=by
  intro X hP hw hK hc i pins s σ H E I hf st hg;subst hP hw hK;obtain ⟨⟨old,he⟩,hit⟩:=st;obtain ⟨xs,hq,hx⟩:=hg;obtain ⟨its,rv,p,hz⟩:=I.list hq;have hl:=rv.length;exact wpAny_pyNext_enum_end (I.ok.hd hc) he hit p.isList (Array.getElem?_eq_none (by simp;omega)) fun h2 eb=>⟨rfl,I.wB (t':=s.toks) (ch:=[e,it]) hf fun b o hb q=>eb b o (fun z=>hb (by simp [z])) q⟩
 self:=fun _ _ _ _ _ st h=>by
  obtain ⟨⟨old,he⟩,_⟩:=st;exact wpAny_pyIter_enum he h
theorem kG:∀(ds:List Dat) (k i:Nat),(kZ k ds)[i]? =(ds[i]?).map fun d=>.tup [.int ((k+i:Nat):Int),d]
 |[],k,i=>by simp [kZ]
 |d::ds,k,0=>by simp [kZ]
 |d::ds,k,i+1=>by
  rw [kZ,List.getElem?_cons_succ,kG ds (k+1) i,List.getElem?_cons_succ];rw [show k+1+i=k+(i+1) by omega]
theorem fG:∀(ds:List Dat) (k:Nat),(kZ k ds).length=ds.length
 |[],_=>rfl
 |d::ds,k=>by rw [kZ,List.length_cons,fG ds,List.length_cons]
theorem EE (t:SqL K F a xs) (z:aA K F ds xs):vz K F (Ite K a) (kZ 0 ds) where
 go:=fun i F' H' s1 s2 hi=>⟨xs,xs[i]'(by rw [z.length];rw [fG] at hi;exact hi),s2.lst (s1.lst t),by rw [fG] at hi;simp [z.length,hi]⟩
 yl:=fun i F' H' x H2 d s1 s2 hd hy=>by
  obtain ⟨T,y,hT,ex,eH,hy⟩:=hy;subst ex eH;rw [kG] at hd;cases hds:ds[i]? with
  |none=>rw [hds] at hd;cases hd
  |some d'=>
   rw [hds] at hd;simp at hd;subst hd;obtain ⟨v,e1,q⟩:=z.get hds;have e2:=hy xs (s2.lst (s1.lst t));rw [e1] at e2;cases e2;refine ⟨upd F' T (.tup [.int i,y]),Step.lay s2 hT,T,_,rfl,SqT.of ar,?_⟩
   exact ⟨.int i,[y],rfl,rfl,y,[],rfl,(q.mono s1).mono (b9.upd (s2.free hT)),rfl⟩
 st:=fun F' H' s1 s2=>⟨xs,s2.lst (s1.lst t),by rw [z.length,fG];exact Nat.le_refl _⟩
section
variable {W:i4} {own:Bool} {a:Expr} {f:ak->M Dat} {fr:ak->M (List Dat)} 
noncomputable def iEnum (K:Pn) (tl:TE):TI:=fun σ H R=>tl σ H fun x H1=>∃a,x=.ref a/\(∃xs,SqL K H1 a xs)/\R (Ite K a) H1
theorem pi_enum {tl:TE} (hg:Gl X "enumerate") (hm:X.mg "enumerate"=none) (hl:PE X a tl) (hs:starEach [a] X.env=[(false,eval a X.env)]:=by rfl) :
  PI X (.Tuple elts k q) (.Call (.Name "enumerate" p) [a] [] pos) (iEnum X.K tl):=by
 intro pins s σ H R I h;have ha:PA X [a] (wC tl tNil):=bj hl fg hs;refine Call_ (oQ I hg hm boot_enumerate (PyProof.Rows.callWith_type1 (thn (ha pos pins s σ H (fun vs H1=>match vs with
  |[x]=>∃a,x=.ref a/\(∃xs,SqL X.K H1 a xs)/\R (Ite X.K a) H1
  |_=>False) I h) fun us s1 ⟨vs,H1,I1,r1,q1⟩=>?_) hs rfl))
 match vs,r1,q1 with
 |[x],r1,⟨l,e1,⟨xs,hq⟩,q⟩=>
  subst e1;obtain ⟨u,rfl,ru⟩:=r1.one;cases ru;obtain ⟨its,rv,pl,hz⟩:=I1.list hq;refine call_enumerate_list pl.isList fun h2 he hit hsz hk=>?_;have I2:Inv X pins σ H1 {s1 with heap:=h2}:=I1.kept (t':=s1.toks) hk;refine wpAny_pyIter_enum he ?_;refine ⟨s1.heap.objs.size+1,[s1.heap.objs.size+1,s1.heap.objs.size],_,_,H1,rfl,I2,Du l _ _ (Nat.succ_ne_self _),⟨⟨_,he⟩,hit⟩,fun b hb=>?_,q⟩
  have hb2:s1.heap.objs.size<=b:=by
   rcases List.mem_cons.mp hb with rfl|hb
   ·exact Nat.le_succ _
   ·have:b=s1.heap.objs.size:=by simpa using hb
    exact Nat.le_of_eq this.symm
  exact I1.fpOk hb2 (I1.hok.fresh hb2)
theorem ri_enum {R:It->Hp->Prop} (h:iD K W (vn fa) σ H R):iEnum K (tD K W false fa) σ H R:=by
 obtain ⟨F,ρ,r,s,p⟩:=h;refine bL r s (fun e he=>?_) fun d hd v F1 H1 s1 q1=>?_
 ·have z:vn fa ρ=.error e:=by unfold vn;rw [he];rfl
  rw [z] at p;exact p
 ·have z:vn fa ρ=(oh d).bind fun ds=>.ok (kZ 0 ds):=by unfold vn;rw [hd];rfl
  rw [z] at p;cases d with
  |lst ds=>
   obtain ⟨b,xs,e,t,z⟩:=q1;exact ⟨b,e,⟨xs,s1.fh.lst t⟩,p _ F1 H1 s1 (EE t z)⟩
  |_=>exact (W.ns p).elim
theorem An (hm:X.mg "enumerate"=none) (hl:DE K W false X a fa) (hg:Gl X "enumerate":=by rfl) (hs:starEach [a] X.env=[(false,eval a X.env)]:=by rfl) (hK:X.K=K:=by rfl) :
  DI K W X (.Tuple elts k q) (.Call (.Name "enumerate" p) [a] [] pos) (vn fa):=by
 subst hK;exact (pi_enum hg hm hl hs).imp fun _ _ _=>ri_enum
theorem eK:PTs X [] (tDT K W oi):=fun pins s σ H Q I h=>pts_nil pins s σ H Q I (by
 obtain ⟨F,ρ,r,s1,q⟩:=h;exact q F H (Step.refl s1))
theorem dH:PGs X [] (ll []):=pgs_nil
theorem aT {is:List Nat} (hN:X.N.Nodup) (h2:PGs X es (ll is)) (hi:X.N[i]? =some x:=by rfl) (hx:Loc X.env.scope x:=by first|exact Or.inl rfl|exact Or.inr rfl) (hf:X.fn x=true\/X.env.scope.names.lookup x=some .local:=by first|exact .inl rfl|exact .inr rfl|assumption)
  (hs:(assignEach (.Name x p::es) X.env).map (·.2)=assign (.Name x p) X.env::(assignEach es X.env).map (·.2):=by rfl):PGs X (.Name x p::es) (ll (i::is)):=Bm (A0 hN hi hx hf) h2 hs
theorem ou {is:List Nat} (hc:X.calm=true) (h:PGs X es (ll is)) (hn:(assignEach es X.env).length=is.length:=by rfl) (hst:(assignEach es X.env).findIdx? (·.1)=none:=by rfl) (hK:X.K=K:=by rfl):DG K X (.Tuple es k pos) (.tp is):=by
 subst hK;exact pg_tup hc h hn hst
theorem sY {ix:List (Option Nat)}:∀{is:List Nat},(∀i∈is,ix[i]? =some none)->∀vs σ' H' (Q:St->Hp->Prop),ll is vs σ' H' Q->ll is vs σ' H' fun σ2 H2=>Q σ2 H2/\∀(i:Nat) v,σ'[i]? =some (some v)->(∃j,ix[i]? =some (some j))->σ2[i]? =some (some v)
 |[],_,vs,σ',H',Q,⟨e,q⟩=>⟨e,q,fun _ _ h _=>h⟩
 |i::is,hs,vs,σ',H',Q,⟨v,r,e,q⟩=>by
  refine ⟨v,r,e,?_⟩
  have:=sY (ix:=ix) (is:=is) (fun j hj=>hs j (by simp [hj])) r (σ'.set i (some v)) H' Q q;have mono:∀{is:List Nat} {vs:List V} {σ1:St} {H1:Hp} {Q Q':St->Hp->Prop},(∀σ2 H2,Q σ2 H2->Q' σ2 H2)->ll is vs σ1 H1 Q->ll is vs σ1 H1 Q':=by
   intro is
   induction is with
   |nil=>rintro vs σ1 H1 Q Q' m ⟨e,q⟩;exact ⟨e,m _ _ q⟩
   |cons i is ih=>rintro vs σ1 H1 Q Q' m ⟨v,r,e,q⟩;exact ⟨v,r,e,ih m q⟩
  refine mono (fun σ2 H2 ⟨q1,q2⟩=>⟨q1,fun j w h ⟨l,hl⟩=>q2 j w ?_ ⟨l,hl⟩⟩) this;have:i≠j:=by rintro rfl;rw [hs i (by simp)] at hl;cases hl
  rw [List.getElem?_set_ne this];exact h
theorem kh {is:List Nat} (h:∀i∈is,ix[i]? =some none):uV ix (gP K (.tp is)):=fun x σ' H' Q ⟨a,xs,e,t,l,q⟩=>⟨a,xs,e,t,l,sY h xs σ' H' Q q⟩
theorem qk (hN:N'.Nodup) (hi:N'[i]? =some x:=by rfl) (hx:Loc (bD X N' sc L cs s H fp).env.scope x:=by first|exact Or.inl rfl|exact Or.inr rfl)
  (hf:(bD X N' sc L cs s H fp).fn x=true\/(bD X N' sc L cs s H fp).env.scope.names.lookup x=some .local:=by first|exact .inl rfl|exact .inr rfl|assumption):DG K (bD X N' sc L cs s H fp) (.Name x pos) (.nm i):=pg_c hN hi hx hf
variable {pt:Pat} 
theorem jq (N':List Str) (ix:List (Option Nat)) (hi:DI K W X tg iter fi) (hg:∀L cs s H fp,DG K (bD X N' sc L cs s H fp) tg pt) (hl:uV ix (gP K pt))
  (ht:∀L cs s H fp,PTs (bD X N' sc L cs s H fp) ifs (tDT K W ft)) (he:∀L cs s H fp,DE K W false (bD X N' sc L cs s H fp) elt fe) (hc:X.calm=true:=by rfl)
  (ok:bV X.N X.env.scope N' sc ix=true:=by rfl) (hk:sc.kind=.function:=by rfl) (hs:∀x,foldedSetIterable iter X.env x=pure x:=by intro _;rfl) :
  DE K W true X (.ListComp elt [⟨tg,iter,ifs,0⟩] sc pos) (jn fi ix pt ft fe):=(pe_comp N' ix hc hi hg hl ht he ok hk hs).imp fun _ _ _=>zW
theorem tD_fr {Q:VK} (h:tD K W own f σ H Q):tD K W true f σ H Q:=by
 cases own with
 |true=>exact h
 |false=>obtain ⟨F,ρ,r,s,p⟩:=h;exact ⟨F,ρ,r,s,p.frz⟩
theorem tO (own:Bool) (N':List Str) (ix:List (Option Nat)) (hN:X.N.Nodup) (hi:DI K W X tg iter fi) (hg:∀L cs s H fp,DG K (bD X N' sc L cs s H fp) tg pt) (hl:uV ix (gP K pt))
  (ht:∀L cs s H fp,PTs (bD X N' sc L cs s H fp) ifs (tDT K W ft)) (he:∀L cs s H fp,DE K W false (bD X N' sc L cs s H fp) elt fe) (hj:X.N[i]? =some x:=by rfl) (hy:X.env.scope.names.lookup x=some .local:=by rfl) (hc:X.calm=true:=by rfl)
  (hsw:swapsWith (.ListComp elt [⟨tg,iter,ifs,0⟩] sc pos) (some (.Name x py)) spos.line X.env=pure true:=by rfl)
  (ok:bV X.N X.env.scope N' sc ix=true:=by rfl) (hk:sc.kind=.function:=by rfl) (hs:∀x,foldedSetIterable iter X.env x=pure x:=by intro _;rfl) :
  DS K W ro X OL O (aft own i O) (.Assign [.Name x py] (.ListComp elt [⟨tg,iter,ifs,0⟩] sc pos) spos) (aD O i (jn fi ix pt ft fe)):=fun F0 H0=>
 (vJ N' ix hN hj hy hc hi hg hl ht he hsw ok hk hs).imp fun D σ H t=>zW (tD_fr (zV t))
theorem ds_compA (own:Bool) (N':List Str) (ix:List (Option Nat)) (hN:X.N.Nodup) (hi:DI K W X tg iter fi) (hg:∀L cs s H fp,DG K (bD X N' sc L cs s H fp) tg pt) (hl:uV ix (gP K pt))
  (ht:∀L cs s H fp,PTs (bD X N' sc L cs s H fp) ifs (tDT K W ft)) (he:∀L cs s H fp,DE K W false (bD X N' sc L cs s H fp) elt fe) (hj:X.N[i]? =some x:=by rfl) (hy:X.env.scope.names.lookup x=some .local:=by rfl) (hc:X.calm=true:=by rfl)
  (hsw:swapsWith (.ListComp elt [⟨tg,iter,ifs,0⟩] sc pos) (some (.Name x py)) spos.line X.env=pure true:=by rfl)
  (ok:bV X.N X.env.scope N' sc ix=true:=by rfl) (hk:sc.kind=.function:=by rfl) (hs:∀x,foldedSetIterable iter X.env x=pure x:=by intro _;rfl) :
  DS K W ro X OL O (aft own i O) (.Assign [.Name x py] (.ListComp elt [⟨tg,iter,ifs,0⟩] sc pos) spos) (tf own i (jn fi ix pt ft fe)):=fun F0 H0=>
 (vJ N' ix hN hj hy hc hi hg hl ht he hsw ok hk hs).imp fun D σ H t=>zW (tD_fr (DL t))
theorem Am (he:DE K W false X e f) (hk:DE K W false X b fk) (ho:i∈O:=by decide) (hN:X.N[i]? =some x:=by rfl) (hv:Vis X.env.scope x:=by first|exact Or.inl rfl|exact Or.inr (Or.inl rfl)|exact Or.inr (Or.inr rfl)) (hd:(x==("__debug__":Str))=false:=by decide) (hcd:(x==("__classdict__":Str))=false:=by decide)
  (ha:∀v,assign (.Subscript (.Name x p) b q) X.env v=(do
   let ov <- holding [v] (eval (.Name x p) X.env)
   let iv <- holding [v,ov] (eval b X.env)
   standAt q
   holding [v,ov,iv] (setItem ov iv v)
   release [v,ov,iv] []):=by intro _;rfl) (hs:swapsWithSole [.Subscript (.Name x p) b q] e r.line X.env=pure false:=by rfl) (hw:swappedStores [.Subscript (.Name x p) b q] e X.env=pure none:=by rfl)
  (h1:(assignEach [.Subscript (.Name x p) b q] X.env).map (·.2)=[assign (.Subscript (.Name x p) b q) X.env]:=by rfl) :
  DS K W ro X OL O O (.Assign [.Subscript (.Name x p) b q] e r) (wM i fk f):=fun F0 H0=>(E2 he (pg_sub (pv i hN hv hd hcd) hk set_list ha) hs hw h1).imp fun _ _ _=>rs_setI ho
theorem Al {pt:Pat} (he:DE K W false X e f) (hg:DG K X tg pt) (n:∀i∈pt.names,i∉O:=by decide) (hs:swapsWithSole [tg] e pos.line X.env=pure false:=by rfl) (hw:swappedStores [tg] e X.env=pure none:=by rfl)
  (h1:(assignEach [tg] X.env).map (·.2)=[assign tg X.env]:=by rfl):DS K W ro X OL O O (.Assign [tg] e pos) (wK O pt f):=fun F0 H0=>(E2 he hg hs hw h1).imp fun _ _ _=>rs_unpB n
noncomputable def spF (K:Pn) (ro:Bool) (g:List Dat->M Dat) (n:Nat):Sp:=fun vs H Q _=>∃F ds,b9 F H/\aA K F ds vs/\ds.length=n/\aI K Wno ro F H (g ds) Q
theorem rH (h:ds.length≠n):cb nN n g ds=stk:=by unfold cb;rw [if_neg h]
theorem ax (F:cm X.prog X.w X.K X.mg X.base CX0 k fad fd ps (spF K ro (cb nN n g) n)) (hr:mz k X.A) (hm:X.mg x=some (.ref fad)) (hk:keepIn X.K (.ref fad)=true) (hb:Binds X.K fd ps [])
  (ha:DA K Wno X (e::es) fr) (hg:Gl X x:=by rfl) (hdb:(x==("__debug__":Str))=false:=by decide) (hst:starEach (e::es) X.env=(false,eval e X.env)::starEach es X.env:=by rfl) (hpl:(backTo pos (starEach es X.env)).any (·.1)=false:=by rfl) :
  DE K Wno ro X (.Call (.Name x p) (e::es) [] pos) (fL (cb nN n g) fr):=by
 refine PE.imp (u5 F hr hg hm hk hb .nil A4 ha hdb hst hpl) fun σ H Q h=>?_;obtain ⟨F,ρ,r,s,p⟩:=rd_L h;refine ⟨F,ρ,r,s,?_⟩
 cases e1:fr ρ with
 |error z=>rw [e1] at p;exact p
 |ok ds=>
  rw [e1] at p;intro vs F' H' st q;obtain ⟨F1,es1,s1,q1,z⟩:=p vs F' H' st q;show spF K ro (cb nN n g) n (vs++[]) H' Q E0;rw [List.append_nil];by_cases hl:es1.length=n
  ·exact ⟨F1,es1,s1,q1,hl,z⟩
  ·rw [rH hl] at z;exact aI.stuck z
end
section
variable {base:Heap}
theorem yg {vs:List V} (q:aA K F ds vs) (h:(ds.map some++List.replicate (N.length-ds.length) none)[i]? =some (some d)):∃v,(start N vs)[i]? =some (some v)/\bQ K F d v:=by
 have hi:i<ds.length:=by
  by_cases hi:i<ds.length
  ·exact hi
  ·rw [List.getElem?_append_right (by simpa using hi),List.getElem?_replicate] at h;split at h<;>cases h
 rw [List.getElem?_append_left (by simpa using hi),List.getElem?_map] at h;cases e:ds[i]? with
 |none=>rw [e] at h;cases h
 |some d'=>
  rw [e] at h;cases h;obtain ⟨v,e1,q1⟩:=q.get e;refine ⟨v,?_,q1⟩
  unfold start;rw [List.getElem?_append_left (by rw [List.length_map,q.length];exact hi),List.getElem?_map,e1];rfl
theorem lT {f:Addr} (F:Fun K x qual st f fd) (S:aC N ps (aq st)) (ro:Bool) (g:ak->M Flo)
  (hb:∀(cdv:Value) (A:Around) (outer:List Env) (s:Shared) (H:Hp) (E:XK),mz k (A.deeper (envOfC qual (aq st) s.heap.objs.size f cdv)) ->
   DSs K Wno ro (Dd CX0 P w K mg base N qual (aq st) f cdv A outer s H E).nox [] [] O' (dq st) g):cm P w K mg base CX0 (k+1) f fd ps (spF K ro (cb N.length ps.length g) ps.length):=by
 have hpl:ps.length<=N.length:=by have:=congrArg List.length S.pre;rw [List.length_take] at this;omega
 refine F.okX S (fun vs H Q E ⟨F,ds,s,q,l,p⟩=>by rw [q.length,l]) fun cdv A outer s H vs Q E hr ⟨F1,ds,s1,q,l,p⟩=>⟨_,hb cdv A outer s H E hr F1 H,F1,F1,ds.map some++List.replicate (N.length-ds.length) none,?_,?_⟩
 ·refine ⟨Step.refl s1,b9.refl _,?_,fun i d e _=>yg q e,(fun i d e h=>nomatch h),(fun i j ds es a h=>nomatch h)⟩
  unfold start;rw [List.length_append,List.length_append,List.length_map,List.length_map,List.length_replicate,List.length_replicate,q.length]
 ·have e1:cb N.length ps.length g ds=(g (ds.map some++List.replicate (N.length-ds.length) none)).bind fun fl=>match fl with
   |.nx _=>.ok .non
   |.rt d=>.ok d
   |_=>stk:=by
    unfold cb;exact if_pos l
  rw [e1] at p;cases e2:g (ds.map some++List.replicate (N.length-ds.length) none) with
  |error z=>rw [e2] at p;exact p
  |ok fl=>
   rw [e2] at p;cases fl with
   |nx ρ=>exact fun σ F H r=>p .non F H r.st (by cases ro<;>rfl)
   |rt d=>exact fun v F H st q=>p v F H st q
   |bk ρ=>exact aI.stuck p
   |ct ρ=>exact aI.stuck p
noncomputable def Ci (K:Pn):Sp:=fun vs H Q _=>∃(a:Addr) (ns:List Int),vs=[.ref a]/\SqL K H a (ns.map V.int)/\ns.length<=63/\∀H',Q (.bl true) H'
theorem vZ {F:Hp}:∀is:List Int,aA K F (is.map Dat.int) (is.map V.int)
 |[]=>rfl
 |i::is=>⟨.int i,is.map V.int,rfl,rfl,vZ is⟩
theorem law_ok {f:Addr} {mlaw:Nat->List Dat->M Dat} (F:∀n,cm P w K mg base CX0 k f fd [x] (spF K ro (mlaw n) 1)) (h:∀ns:List Int,ns.length<=63->∃n,mlaw n [.lst (ns.map .int)]=.ok (.bl true)):cm P w K mg base CX0 k f fd [x] (Ci K):=by
 refine ⟨fun vs H Q E ⟨a,ns,e,_⟩=>by rw [e];rfl,fun A outer s H args us vs Q E hr he hb hv ⟨a,ns,e,hq,hl,q⟩=>?_⟩
 obtain ⟨n,hn⟩:=h ns hl;refine (F n).run A outer s H args us vs Q E hr he hb hv ⟨H,[.lst (ns.map .int)],b9.refl _,⟨.ref a,[],e,⟨a,_,rfl,hq,vZ ns⟩,rfl⟩,rfl,?_⟩;rw [hn];intro v F' H' st z;have:v=.bl true:=by cases ro<;>exact z
 rw [this];exact q H'
end
structure Kit (K:Pn):Prop where
 oN:kitOne K (.type "int") (.type "int")=some true
 m9:kitOne K (.type "bool") (.type "int")=some true
 m5:kitOne K (.type "list") (.type "int")=some false
 jW:kitOne K (.type "tuple") (.type "int")=some false
 oK:kitOne K (.type "str") (.type "int")=some false
 f9:kitOne K (.type "NoneType") (.type "int")=some false
 m7:kitOne K (.type "int") (.type "bool")=some false
 k9:kitOne K (.type "bool") (.type "bool")=some true
 jZ:kitOne K (.type "list") (.type "bool")=some false
 iN:kitOne K (.type "tuple") (.type "bool")=some false
 lZ:kitOne K (.type "str") (.type "bool")=some false
 dY:kitOne K (.type "NoneType") (.type "bool")=some false
 m6:kitOne K (.type "int") (.type "list")=some false
 k8:kitOne K (.type "bool") (.type "list")=some false
 jY:kitOne K (.type "list") (.type "list")=some true
 iM:kitOne K (.type "tuple") (.type "list")=some false
 lY:kitOne K (.type "str") (.type "list")=some false
 dX:kitOne K (.type "NoneType") (.type "list")=some false
 k7:kitOne K (.type "int") (.type "tuple")=some false
 iP:kitOne K (.type "bool") (.type "tuple")=some false
 iO:kitOne K (.type "list") (.type "tuple")=some false
 gz:kitOne K (.type "tuple") (.type "tuple")=some true
 jX:kitOne K (.type "str") (.type "tuple")=some false
 du:kitOne K (.type "NoneType") (.type "tuple")=some false
 oM:kitOne K (.type "int") (.type "str")=some false
 m8:kitOne K (.type "bool") (.type "str")=some false
 m4:kitOne K (.type "list") (.type "str")=some false
 jV:kitOne K (.type "tuple") (.type "str")=some false
 oJ:kitOne K (.type "str") (.type "str")=some true
 f7:kitOne K (.type "NoneType") (.type "str")=some false
section
variable {W:i4} {own:Bool} {a:Expr} {fr:ak->M (List Dat)}
theorem EG {x:V} {bi bb bl bt bs:Bool} {Q:Mq} (I:Inv X pins σ H s) (hF:b9 F H) (q:bQ X.K F d x) (r:RelV x u)
  (hi:kitOne X.K (.type "int") (.type T)=some bi) (hb:kitOne X.K (.type "bool") (.type T)=some bb) (hl:kitOne X.K (.type "list") (.type T)=some bl) (ht:kitOne X.K (.type "tuple") (.type T)=some bt)
  (hs:kitOne X.K (.type "str") (.type T)=some bs) (hn:kitOne X.K (.type "NoneType") (.type T)=some bn)
  (h:∀k tk,(match d with|.int _=>k=bi|.bl _=>k=bb|.lst _=>k=bl|.tup _=>k=bt|.str _=>k=bs|.non=>k=bn|.ins _ _=>False|.dic _=>False)->Q (.bool k) {s with toks:=tk}) (no:∀C fs,d≠.ins C fs) (nd:∀ks,d≠.dic ks) :
  wpAny (model X.prog X.w) X.A (call (.builtin "isinstance") [u,.type T]) Q X.xe s:=by
 cases d with
 |non=>cases (show x=.non from q);cases r;exact kia_one PySem.W.kitx_none I.kIn True.intro hn (fun z=>nomatch z) fun tk=>h _ tk rfl
 |bl y=>cases (show x=.bl y from q);cases r;exact kia_one PySem.W.kitx_bool I.kIn True.intro hb (fun z=>nomatch z) fun tk=>h _ tk rfl
 |int i=>cases (show x=.int i from q);obtain ⟨t,rfl⟩:=r;exact kia_one PySem.W.kitx_int I.kIn True.intro hi (fun z=>nomatch z) fun tk=>h _ tk rfl
 |str y=>cases (show x=.str y from q);obtain ⟨t,rfl⟩:=r;exact kia_one PySem.W.kitx_str I.kIn True.intro hs (fun z=>nomatch z) fun tk=>h _ tk rfl
 |lst ds=>
  obtain ⟨l,xs,e,t,_⟩:=q;subst e;cases r;obtain ⟨its,_,pl,_⟩:=I.list (hF.lst t);obtain ⟨o,h1,h2,_⟩:=pl.isList;exact kia_one PySem.W.kitx_list I.kIn ⟨o,h1,h2⟩ hl (fun z=>nomatch z) fun tk=>h _ tk rfl
 |tup ds=>
  obtain ⟨l,xs,e,t,_⟩:=q;subst e;cases r;obtain ⟨its,_,pl,_⟩:=I.tuple (hF.tup t);obtain ⟨o,h1,h2,_⟩:=pl;exact kia_one PySem.W.kitx_tuple I.kIn ⟨o,h1,h2⟩ ht (fun z=>nomatch z) fun tk=>h _ tk rfl
 |ins C fs=>exact absurd rfl (no C fs)
 |dic ks=>exact absurd rfl (nd ks)
theorem zb {g:Dat->M Dat} (hc:dS X (.builtin "isinstance") (fun xs H Q=>∃v,xs=[v,.ty T]/\rD1 K W own g v H Q)) (hm:X.mg "isinstance"=none) (hmT:X.mg y=none) (hvT:bootBuiltins y=some (.type T)) (ha:DE K W false X a fa)
  (hg:Gl X "isinstance":=by rfl) (hgT:Gl X y:=by rfl) (hn:y≠"__name__":=by decide) (hd:(y==("__debug__":Str))=false:=by decide)
  (hst:starEach [a,.Name y p2] X.env=[(false,eval a X.env),(false,eval (.Name y p2) X.env)]:=by rfl) (hst2:starEach [.Name y p2] X.env=[(false,eval (.Name y p2) X.env)]:=by rfl) (hpl:(backTo pos (starEach [.Name y p2] X.env)).any (·.1)=false:=by rfl) :
  DE K W own X (.Call (.Name "isinstance" p) [a,.Name y p2] [] pos) (f1 g fa):=
 (gA hc hg hm boot_isinstance (bj ha (bj (E9 (pos:=p2) hgT hmT hvT hn hd) fg hst2) (by rw [hst,hst2])) (by decide) (by decide) (by rw [hst,hst2]) hpl).imp fun σ H Q h=>by
  obtain ⟨F,ρ,r,s,q⟩:=rd_1 h;refine ⟨F,ρ,r,s,?_⟩
  cases e1:fa ρ with
  |error z=>rw [e1] at q;exact q
  |ok d=>rw [e1] at q;exact fun v F' H' st z=>⟨v,rfl,q v F' H' st z⟩
theorem FC (kit:Kit K) (hK:X.K=K:=by rfl):dS X (.builtin "isinstance") (fun xs H Q=>∃v,xs=[v,.ty "int"]/\rD1 K W own tK v H Q):=by
 subst hK;intro pins s σ H xs us Q I r h;obtain ⟨v,rfl,F,d,s1,q,p⟩:=h;obtain ⟨u,w,rfl,ru,rw'⟩:=r.two;cases (show w=Value.type "int" from rw');by_cases hi:(∃C fs,d=.ins C fs)\/∃ks,d=.dic ks
 ·rcases hi with ⟨C,fs,rfl⟩|⟨ks,rfl⟩<;>exact aI.stuck p
 ·refine EG I s1 q ru kit.oN kit.m9 kit.m5 kit.jW kit.oK kit.f9 (fun k tk hk=>⟨.bl k,H,I.tok tk,rfl,?_⟩) (fun C fs e=>hi (.inl ⟨C,fs,e⟩)) (fun ks e=>hi (.inr ⟨ks,e⟩));cases d<;>first|(have hk':k=_:=hk;subst hk';exact aI.bl (own:=own) p s1)|exact absurd (.inl ⟨_,_,rfl⟩) hi|exact absurd (.inr ⟨_,rfl⟩) hi
theorem CZ (kit:Kit K) (hm:X.mg "isinstance"=none) (hmT:X.mg "int"=none) (ha:DE K W false X a fa) (hK:X.K=K:=by rfl)
  (hg:Gl X "isinstance":=by rfl) (hgT:Gl X "int":=by rfl)
  (hst:starEach [a,.Name "int" p2] X.env=[(false,eval a X.env),(false,eval (.Name "int" p2) X.env)]:=by rfl) (hst2:starEach [.Name "int" p2] X.env=[(false,eval (.Name "int" p2) X.env)]:=by rfl) (hpl:(backTo pos (starEach [.Name "int" p2] X.env)).any (·.1)=false:=by rfl) :
  DE K W own X (.Call (.Name "isinstance" p) [a,.Name "int" p2] [] pos) (f1 tK fa):=zb (FC kit hK) hm hmT (by decide +kernel) ha hg hgT (by decide) (by decide) hst hst2 hpl
theorem D1 (kit:Kit K) (hK:X.K=K:=by rfl):dS X (.builtin "isinstance") (fun xs H Q=>∃v,xs=[v,.ty "bool"]/\rD1 K W own rO v H Q):=by
 subst hK;intro pins s σ H xs us Q I r h;obtain ⟨v,rfl,F,d,s1,q,p⟩:=h;obtain ⟨u,w,rfl,ru,rw'⟩:=r.two;cases (show w=Value.type "bool" from rw');by_cases hi:(∃C fs,d=.ins C fs)\/∃ks,d=.dic ks
 ·rcases hi with ⟨C,fs,rfl⟩|⟨ks,rfl⟩<;>exact aI.stuck p
 ·refine EG I s1 q ru kit.m7 kit.k9 kit.jZ kit.iN kit.lZ kit.dY (fun k tk hk=>⟨.bl k,H,I.tok tk,rfl,?_⟩) (fun C fs e=>hi (.inl ⟨C,fs,e⟩)) (fun ks e=>hi (.inr ⟨ks,e⟩));cases d<;>first|(have hk':k=_:=hk;subst hk';exact aI.bl (own:=own) p s1)|exact absurd (.inl ⟨_,_,rfl⟩) hi|exact absurd (.inr ⟨_,rfl⟩) hi
theorem Ar (kit:Kit K) (hm:X.mg "isinstance"=none) (hmT:X.mg "bool"=none) (ha:DE K W false X a fa) (hK:X.K=K:=by rfl)
  (hg:Gl X "isinstance":=by rfl) (hgT:Gl X "bool":=by rfl)
  (hst:starEach [a,.Name "bool" p2] X.env=[(false,eval a X.env),(false,eval (.Name "bool" p2) X.env)]:=by rfl) (hst2:starEach [.Name "bool" p2] X.env=[(false,eval (.Name "bool" p2) X.env)]:=by rfl) (hpl:(backTo pos (starEach [.Name "bool" p2] X.env)).any (·.1)=false:=by rfl) :
  DE K W own X (.Call (.Name "isinstance" p) [a,.Name "bool" p2] [] pos) (f1 rO fa):=zb (D1 kit hK) hm hmT (by decide +kernel) ha hg hgT (by decide) (by decide) hst hst2 hpl
theorem D0 (kit:Kit K) (hK:X.K=K:=by rfl):dS X (.builtin "isinstance") (fun xs H Q=>∃v,xs=[v,.ty "list"]/\rD1 K W own rN v H Q):=by
 subst hK;intro pins s σ H xs us Q I r h;obtain ⟨v,rfl,F,d,s1,q,p⟩:=h;obtain ⟨u,w,rfl,ru,rw'⟩:=r.two;cases (show w=Value.type "list" from rw');by_cases hi:(∃C fs,d=.ins C fs)\/∃ks,d=.dic ks
 ·rcases hi with ⟨C,fs,rfl⟩|⟨ks,rfl⟩<;>exact aI.stuck p
 ·refine EG I s1 q ru kit.m6 kit.k8 kit.jY kit.iM kit.lY kit.dX (fun k tk hk=>⟨.bl k,H,I.tok tk,rfl,?_⟩) (fun C fs e=>hi (.inl ⟨C,fs,e⟩)) (fun ks e=>hi (.inr ⟨ks,e⟩));cases d<;>first|(have hk':k=_:=hk;subst hk';exact aI.bl (own:=own) p s1)|exact absurd (.inl ⟨_,_,rfl⟩) hi|exact absurd (.inr ⟨_,rfl⟩) hi
theorem Aq (kit:Kit K) (hm:X.mg "isinstance"=none) (hmT:X.mg "list"=none) (ha:DE K W false X a fa) (hK:X.K=K:=by rfl)
  (hg:Gl X "isinstance":=by rfl) (hgT:Gl X "list":=by rfl)
  (hst:starEach [a,.Name "list" p2] X.env=[(false,eval a X.env),(false,eval (.Name "list" p2) X.env)]:=by rfl) (hst2:starEach [.Name "list" p2] X.env=[(false,eval (.Name "list" p2) X.env)]:=by rfl) (hpl:(backTo pos (starEach [.Name "list" p2] X.env)).any (·.1)=false:=by rfl) :
  DE K W own X (.Call (.Name "isinstance" p) [a,.Name "list" p2] [] pos) (f1 rN fa):=zb (D0 kit hK) hm hmT (by decide +kernel) ha hg hgT (by decide) (by decide) hst hst2 hpl
theorem Ax (kit:Kit K) (hK:X.K=K:=by rfl):dS X (.builtin "isinstance") (fun xs H Q=>∃v,xs=[v,.ty "tuple"]/\rD1 K W own vR v H Q):=by
 subst hK;intro pins s σ H xs us Q I r h;obtain ⟨v,rfl,F,d,s1,q,p⟩:=h;obtain ⟨u,w,rfl,ru,rw'⟩:=r.two;cases (show w=Value.type "tuple" from rw');by_cases hi:(∃C fs,d=.ins C fs)\/∃ks,d=.dic ks
 ·rcases hi with ⟨C,fs,rfl⟩|⟨ks,rfl⟩<;>exact aI.stuck p
 ·refine EG I s1 q ru kit.k7 kit.iP kit.iO kit.gz kit.jX kit.du (fun k tk hk=>⟨.bl k,H,I.tok tk,rfl,?_⟩) (fun C fs e=>hi (.inl ⟨C,fs,e⟩)) (fun ks e=>hi (.inr ⟨ks,e⟩));cases d<;>first|(have hk':k=_:=hk;subst hk';exact aI.bl (own:=own) p s1)|exact absurd (.inl ⟨_,_,rfl⟩) hi|exact absurd (.inr ⟨_,rfl⟩) hi
theorem de_isi_tuple (kit:Kit K) (hm:X.mg "isinstance"=none) (hmT:X.mg "tuple"=none) (ha:DE K W false X a fa) (hK:X.K=K:=by rfl)
  (hg:Gl X "isinstance":=by rfl) (hgT:Gl X "tuple":=by rfl)
  (hst:starEach [a,.Name "tuple" p2] X.env=[(false,eval a X.env),(false,eval (.Name "tuple" p2) X.env)]:=by rfl) (hst2:starEach [.Name "tuple" p2] X.env=[(false,eval (.Name "tuple" p2) X.env)]:=by rfl) (hpl:(backTo pos (starEach [.Name "tuple" p2] X.env)).any (·.1)=false:=by rfl) :
  DE K W own X (.Call (.Name "isinstance" p) [a,.Name "tuple" p2] [] pos) (f1 vR fa):=zb (Ax kit hK) hm hmT (by decide +kernel) ha hg hgT (by decide) (by decide) hst hst2 hpl
noncomputable def tRng (ta:TA) (lo hi:List V->Option Int):TE:=fun σ H Q=>ta σ H fun vs H1=>∃i j,lo vs=some i/\hi vs=some j/\(-(2^62)<=i/\i<2^62/\ -(2^62)<=j/\j<2^62)/\∀r,H1 r=none->Q (.ref r) (upd H1 r (.rng i j))
noncomputable def lo1:List V->Option Int
 |[.int _]=>some 0
 |_=>none
noncomputable def hi1:List V->Option Int
 |[.int j]=>some j
 |_=>none
theorem rng_laid {t u v:Tok} {tk:Nat} (I:Inv X pins σ H s):Inv X pins σ (upd H s.heap.objs.size (.rng lo hi)) {s with heap:=s.heap.push {cls:=.type "range",data:=.fields #[.int lo t,.int hi u,.int 1 v]},toks:=tk}:=
 I.laid (fun b o e=>Heap.get?_push_of_some _ e) (Nat.le_refl _) ⟨t,u,v,Heap.get?_push_size _ rfl⟩
theorem pe_rng1 {ta:TA} (hg:Gl X "range") (hm:X.mg "range"=none) (ha:PA X [a] ta) (hs:starEach [a] X.env=[(false,eval a X.env)]:=by rfl):PE X (.Call (.Name "range" p) [a] [] pos) (tRng ta lo1 hi1):=by
 intro pins s σ H Q I h;refine Call_ (oQ I hg hm boot_range (PyProof.Rows.callWith_type1 (thn (ha pos pins s σ H _ I h) fun us s1 ⟨vs,H1,I1,r1,q1⟩=>?_) hs rfl));obtain ⟨i,j,e1,e2,hb,q⟩:=q1
 match vs,r1,e1,e2 with
 |[.int k],r1,e1,e2=>
  cases e1;cases e2;obtain ⟨u,rfl,t,rfl⟩:=r1.one;exact call_range_1 ⟨.ref _,_,rng_laid I1,rfl,q _ I1.fresh⟩
theorem Vals.of_get:∀{xs:List V} {us:List Value},xs.length=us.length->(∀(i:Nat) v u,xs[i]? =some v->us[i]? =some u->RelV v u)->Vals xs us
 |[],[],_,_=>.nil
 |[],_::_,h,_=>by simp at h
 |_::_,[],h,_=>by simp at h
 |x::xs,u::us,h,q=>.cons (q 0 x u rfl rfl) (Vals.of_get (by simpa using h) fun i v w h1 h2=>q (i+1) v w (by simpa using h1) (by simpa using h2))
theorem CM:∀{n:Nat} {acc:List Value},acc.length=n->(∀(i:Nat) v,acc[i]? =some v->∃t,v=.int (lo+i) t)->Vals ((List.range n).map fun k:Nat=>V.int (lo+k)) acc:=by
 intro n acc hl h;refine Vals.of_get (by simp [hl]) fun i v u e1 e2=>?_;obtain ⟨t,rfl⟩:=h i u e2;have hi:i<n:=by
  have:=(List.getElem?_eq_some_iff.mp e1).1;simpa using this
 rw [List.getElem?_map,List.getElem?_range hi] at e1;cases e1;exact ⟨t,rfl⟩
theorem xH (hc:X.calm=true):dS X (.type "list") (fun xs H Q=>∃r lo hi,xs=[.ref r]/\H r=some (.rng lo hi)/\(-(2^62)<=lo/\lo<2^62/\ -(2^62)<=hi/\hi<2^62)/\(hi-lo).toNat<=sizeLine/\∀l,H l=none->Q (.ref l) (upd H l (.lst ((List.range (hi-lo).toNat).map fun k:Nat=>V.int (lo+k))))):=by
 intro pins s σ H xs us Q I rr h;obtain ⟨r,lo,hi,rfl,hH,⟨b1,b2,b3,b4⟩,hz,q⟩:=h;obtain ⟨u,rfl,ru⟩:=rr.one;cases ru;obtain ⟨t,u,v,e⟩:=(show ∃t u v,s.heap.get? r=some {cls:=.type "range",data:=.fields #[.int lo t,.int hi u,.int 1 v]} from I.hok r _ hH)
 refine call_list_range (n:=(hi-lo).toNat) (I.ok.hd hc) e (small_one b1 b2 b3 b4) (by rw [rangeSize_one];split<;>omega) (by rw [sizeLine_eq] at hz;omega) fun h' tk acc' c' kp e2 it=>?_;have hv:Vals ((List.range (hi-lo).toNat).map fun k:Nat=>V.int (lo+k)) acc'.toList:=CM (by rw [Array.length_toList];exact it.1) fun i v hi=>by
  obtain ⟨t,e⟩:=it.2 i v (by simpa using hi);exact ⟨t,by rw [e,Int.mul_one]⟩
 exact ⟨.ref _,_,I.laid (t':=tk) kp (Nat.le_refl _) (show fX X.prog X.w _ h' _ (.lst _) from ⟨by simpa using hz,acc'.toList,c',hv,by simpa using e2⟩),rfl,q _ I.fresh⟩
theorem Ao (lo:Int) (n:Nat):aA K F (aR lo n) ((List.range n).map fun k:Nat=>V.int (lo+k)):=by
 refine aA.of_get (by simp [aR]) fun i d v h1 h2=>?_;have hi:i<n:=by
  have:=(List.getElem?_eq_some_iff.mp h2).1;simpa using this
 unfold aR at h1;rw [List.getElem?_map,List.getElem?_range hi] at h1 h2;cases h1;cases h2;rfl
theorem lrng_end {Q:VK} {i j:Int} {r:Addr} (p:aI K W true F H1 (dw (aR i (j-i).toNat)) Q) (s:b9 F H1) (hr:H1 r=none) :
  (j-i).toNat<=sizeLine/\∀l,upd H1 r (.rng i j) l=none->Q (.ref l) (upd (upd H1 r (.rng i j)) l (.lst ((List.range (j-i).toNat).map fun k:Nat=>V.int (i+k)))):=by
 unfold dw at p;by_cases hl:(aR i (j-i).toNat).length<=sizeLine
 ·rw [if_pos hl] at p;refine ⟨by simpa [aR] using hl,fun l hl2=>?_⟩
  have s2:Step F H1 F (upd H1 r (.rng i j)):=Step.grow s hr;have e:H1 l=none:=s2.hh.free hl2;exact p _ F _ (s2.trans (Step.grow s2.fh hl2)) ⟨l,_,rfl,ar,s.free e,e,Ao i _⟩
 ·rw [if_neg hl] at p;exact (W.ns p).elim
theorem de_lrng1 {q1 q2:Pos} (hml:X.mg "list"=none) (hm:X.mg "range"=none) (ha:DA K W X [a] fr) (hc:X.calm=true:=by rfl) (hg:Gl X "range":=by rfl) (hgl:Gl X "list":=by rfl) (hs:starEach [a] X.env=[(false,eval a X.env)]:=by rfl)
  (hst:starEach [.Call (.Name "range" q1) [a] [] q2] X.env=[(false,eval (.Call (.Name "range" q1) [a] [] q2) X.env)]:=by rfl):DE K W true X (.Call (.Name "list" p) [.Call (.Name "range" q1) [a] [] q2] [] pos) (fLR (my sW fr)):=by
 refine PE.imp (yv (xH hc) hgl hml PyProof.Rows.boot_list (bj (pe_rng1 hg hm ha hs) fg hst) (by decide) (by decide) hst rfl) fun σ H Q h=>?_;obtain ⟨F,ρ,r,s,p⟩:=h;refine oz r s (fun e he=>p.err (by unfold fLR my;rw [he];rfl)) fun ds hd xs F1 H1 s1 q1=>?_;have e1:fLR (my sW fr) ρ=(sW ds).bind dw:=by unfold fLR my;rw [hd];rfl
 rw [e1] at p;have p1:=p.step s1;by_cases hds:∃j,ds=[.int j]
 ·obtain ⟨j,rfl⟩:=hds;obtain ⟨v,vs,e2,q2,e3⟩:=q1;have p2:aI K W true F1 H1 ((if bg j=true then Except.ok (aR 0 j.toNat) else Except.error Err.stuck:M (List Dat)).bind dw) Q:=p1;by_cases hj:bg j=true
  ·rw [if_pos hj] at p2;unfold bg at hj;simp only [Bool.and_eq_true,decide_eq_true_eq] at hj;have e4:xs=[.int j]:=by rw [e2,show v=.int j from q2,show vs=[] from e3]
   subst e4;refine ⟨0,j,rfl,rfl,⟨by decide,by decide,hj.1,hj.2⟩,fun r2 hr2=>?_⟩
   have p3:aI K W true F1 H1 (dw (aR 0 (j-0).toNat)) Q:=by rw [Int.sub_zero];exact p2
   obtain ⟨z1,z2⟩:=lrng_end p3 s1.fh hr2;exact ⟨r2,0,j,rfl,ar,⟨by decide,by decide,hj.1,hj.2⟩,z1,z2⟩
  ·rw [if_neg hj] at p2;exact (W.ns p2).elim
 ·have:sW ds=.error .stuck:=by
   unfold sW;split
   ·exact absurd ⟨_,rfl⟩ hds
   ·rfl
  rw [this] at p1;exact (W.ns p1).elim
end
section
variable {W:i4} {h:ak->M Flo} 
theorem popD_ok {k:Dat} {es:List Dat} (h:zY ds k=.ok (d,es)):∃i j,k=.int i/\ds.length<=sizeLine/\ixN ds.length i=some j/\ds[j]? =some d/\es=ds.eraseIdx j:=by
 unfold zY at h;cases k with
 |int i=>
  simp only [asI,az] at h;split at h
  ·cases h
  ·rename_i hs;cases hj:ixN ds.length i with
   |none=>rw [hj] at h;cases h
   |some j=>
    rw [hj] at h;simp only at h;cases hd:ds[j]? with
    |none=>rw [hd] at h;cases h
    |some d'=>
     rw [hd] at h;cases h;exact ⟨i,j,rfl,by omega,hj,hd,rfl⟩
 |_=>cases h
theorem Bl {k:Dat} {e:Err} (h:zY ds k=.error e):e=.stuck:=by
 unfold zY at h;cases k with
 |int i=>
  simp only [asI,az] at h;split at h
  ·cases h;rfl
  ·cases hj:ixN ds.length i with
   |none=>rw [hj] at h;cases h;rfl
   |some j=>
    rw [hj] at h;simp only at h;cases hd:ds[j]? with
    |none=>rw [hd] at h;cases h;rfl
    |some d'=>rw [hd] at h;cases h
 |_=>cases h;rfl
noncomputable def tPopE (K:Pn) (i:Nat) (tk:TE):TE:=tBM K "list" rPopAt (tVar i) (wC tk tNil)
theorem E4 {R:VK} (r:Rep K F0 H0 FB O F H σ ρ) (hi:i∈O) (hl:kW ρ i=.ok ds) (hE:∀e,fk ρ=.error e->W.p e F0 H0)
  (hO:∀k,fk ρ=.ok k->(∀e,zY ds k=.error e->False)/\∀d es,zY ds k=.ok (d,es)->∀v F1 H1,Rep K F0 H0 FB O F1 H1 σ (ρ.set i (some (.lst es)))->bQ K F1 d v->R v H1):tPopE K i (tD K W false fk) σ H R:=by
 obtain ⟨a,xs,e2,ha,z⟩:=r.Eu hi (pT hl);refine ⟨.ref a,e2,Ba ha,?_⟩
 refine bL r.sX r.mO (fun e he=>W.mono (hE e he) (r.freeze (O2:=[]) (by simp)).st) fun k hk w F1 H1 s1 q=>?_;obtain ⟨h1,h2⟩:=hO k hk;cases hp:zY ds k with
 |error e=>exact (h1 e hp).elim
 |ok de=>
  obtain ⟨d,es⟩:=de;obtain ⟨m,j,rfl,hz,hj,hd,rfl⟩:=popD_ok hp;obtain ⟨x1,x2,x3,x4⟩:=Ad hj;obtain ⟨y,e3,qy⟩:=z.get hd;have hs:=sizeLine_eq;refine ⟨a,xs,m,j,y,rfl,by rw [show w=.int m from q],s1.hh _ _ ha,by omega,by omega,by rw [z.length];exact x1,e3,?_⟩
  exact h2 d _ hp y _ _ ((r.qv s1).write hi (pT hl) e2 (aA.eraseIdx j (z.mono (r.pQ s1)))) (qy.mono (r.pQ s1))
theorem rs_popU {pt:Pat} (hi:i∈O) (n:∀i∈pt.names,i∉O) (t:tS K W ro F0 H0 OL O O (DJ i pt fk) D σ H):Cg (tPopE K i (tD K W false fk)) (gP K pt) D σ H:=by
 obtain ⟨FB,F,ρ,r,p⟩:=t;unfold DJ at p;cases hl:kW ρ i with
 |error e=>have:=rL hl;subst this;exact p.stuck (by rw [hl];rfl)
 |ok ds=>
  rw [hl,az] at p;refine E4 r hi hl (fun e he=>p.err (by rw [he];rfl)) fun k hk=>?_;rw [hk,az] at p;refine ⟨fun e he=>by have:=Bl he;subst this;exact p.stuck (by rw [he];rfl),fun d es2 hp v F1 H1 r1 q=>?_⟩
  rw [hp,az] at p;cases e:jg pt d (ρ.set i (some (.lst es2))) with
  |error x=>have:=rZ e;subst this;exact p.stuck (by simp only [e];rfl)
  |ok ρ'=>
   simp only [e,az] at p;exact ET r1 n q e fun σ' r'=>p σ' F1 H1 r'
theorem rs_pop (hi:i∈O) (hj:j∉O) (t:tS K W ro F0 H0 OL O O (sPop i j fk) D σ H):Cg (tPopE K i (tD K W false fk)) (rQ j) D σ H:=by
 obtain ⟨FB,F,ρ,r,p⟩:=t;unfold sPop at p;cases hl:kW ρ i with
 |error e=>have:=rL hl;subst this;exact p.stuck (by rw [hl];rfl)
 |ok ds=>
  rw [hl,az] at p;refine E4 r hi hl (fun e he=>p.err (by rw [he];rfl)) fun k hk=>?_;rw [hk,az] at p;refine ⟨fun e he=>by have:=Bl he;subst this;exact p.stuck (by rw [he];rfl),fun d es2 hp v F1 H1 r1 q=>?_⟩
  rw [hp,az] at p;exact p _ F1 H1 (r1.set' q hj)
end
section
variable {W:i4} {t:Pos} 
theorem pe_pop {tk:TE} (hk:PE X e tk) (hN:X.N[j]? =some y) (hv:Vis X.env.scope y) (hd:(y==("__debug__":Str))=false) (hcd:(y==("__classdict__":Str))=false)
  (hst:starEach [e] X.env=[(false,eval e X.env)]) (hbase:attributeBase (.Name y p) "pop" X.env (eval (.Name y p) X.env)=eval (.Name y p) X.env) (hfew:((backTo q (starEach [e] X.env)).all (fun x=> !x.1)&&(backToKw q (keywordEach [] X.env)).all (fun x=>x.1.isSome)&&decide ([e].length+([]:List Keyword).length+(if ([]:List Keyword).isEmpty then 0 else 1)<30))=true) (hplain:(backTo q (starEach [] X.env)).any (·.1)=false) (hline:(t.endLine==q.line)=true) :
  PE X (.Call (.Attribute (.Name y p) "pop" t) [e] [] q) (tPopE X.K j tk):=pe_bm PySem.F.plainAttrs_list PySem.F.slot_list_pop PySem.F.type_list_pop mt_popAt (pv j hN hv hd hcd) (bj hk fg hst) hbase hfew hline hst hplain
theorem ds_popU {pt:Pat} (hg:DG K X tg pt) (hk:DE K W false X e fk) (ho:i∈O:=by decide) (n:∀i∈pt.names,i∉O:=by decide) (hN:X.N[i]? =some y:=by rfl) (hv:Vis X.env.scope y:=by first|exact Or.inl rfl|exact Or.inr (Or.inl rfl)|exact Or.inr (Or.inr rfl)) (hd:(y==("__debug__":Str))=false:=by decide) (hcd:(y==("__classdict__":Str))=false:=by decide) (hK:X.K=K:=by rfl)
  (hst:starEach [e] X.env=[(false,eval e X.env)]:=by rfl) (hbase:attributeBase (.Name y p) "pop" X.env (eval (.Name y p) X.env)=eval (.Name y p) X.env:=by rfl) (hfew:((backTo q (starEach [e] X.env)).all (fun x=> !x.1)&&(backToKw q (keywordEach [] X.env)).all (fun x=>x.1.isSome)&&decide ([e].length+([]:List Keyword).length+(if ([]:List Keyword).isEmpty then 0 else 1)<30))=true:=by rfl) (hplain:(backTo q (starEach [] X.env)).any (·.1)=false:=by rfl) (hline:(t.endLine==q.line)=true:=by rfl) (hs:swapsWithSole [tg] (.Call (.Attribute (.Name y p) "pop" t) [e] [] q) pos.line X.env=pure false:=by rfl) (hw:swappedStores [tg] (.Call (.Attribute (.Name y p) "pop" t) [e] [] q) X.env=pure none:=by rfl)
  (h1:(assignEach [tg] X.env).map (·.2)=[assign tg X.env]:=by rfl):DS K W ro X OL O O (.Assign [tg] (.Call (.Attribute (.Name y p) "pop" t) [e] [] q) pos) (DJ i pt fk):=fun F0 H0=>by
 subst hK;exact (E2 (pe_pop hk hN hv hd hcd hst hbase hfew hplain hline) hg hs hw h1).imp fun _ _ _=>rs_popU ho n
theorem ds_pop (hNd:X.N.Nodup) (hk:DE K W false X e fk) (ho:i∈O:=by decide) (hjo:j∉O:=by decide) (hN:X.N[i]? =some y:=by rfl) (hv:Vis X.env.scope y:=by first|exact Or.inl rfl|exact Or.inr (Or.inl rfl)|exact Or.inr (Or.inr rfl)) (hd:(y==("__debug__":Str))=false:=by decide) (hcd:(y==("__classdict__":Str))=false:=by decide) (hj:X.N[j]? =some x:=by rfl) (hx:Loc X.env.scope x:=by first|exact Or.inl rfl|exact Or.inr rfl) (hf:X.fn x=true\/X.env.scope.names.lookup x=some .local:=by first|exact .inl rfl|exact .inr rfl|assumption) (hK:X.K=K:=by rfl)
  (hst:starEach [e] X.env=[(false,eval e X.env)]:=by rfl) (hbase:attributeBase (.Name y p) "pop" X.env (eval (.Name y p) X.env)=eval (.Name y p) X.env:=by rfl) (hfew:((backTo q (starEach [e] X.env)).all (fun x=> !x.1)&&(backToKw q (keywordEach [] X.env)).all (fun x=>x.1.isSome)&&decide ([e].length+([]:List Keyword).length+(if ([]:List Keyword).isEmpty then 0 else 1)<30))=true:=by rfl) (hplain:(backTo q (starEach [] X.env)).any (·.1)=false:=by rfl) (hline:(t.endLine==q.line)=true:=by rfl) (hs:swapsWith (.Call (.Attribute (.Name y p) "pop" t) [e] [] q) (some (.Name x p2)) pos.line X.env=pure false:=by rfl):DS K W ro X OL O O (.Assign [.Name x p2] (.Call (.Attribute (.Name y p) "pop" t) [e] [] q) pos) (sPop i j fk):=fun F0 H0=>by
 subst hK;exact (Bk hNd hj hx (pe_pop hk hN hv hd hcd hst hbase hfew hplain hline) hs hf).imp fun _ _ _=>rs_pop ho hjo
end
section
theorem cI {is:List Nat} (hN:N'.Nodup) (h2:PGs (bD X N' sc L cs s H fp) es (ll is)) (hi:N'[i]? =some x:=by rfl) (hx:Loc (bD X N' sc L cs s H fp).env.scope x:=by first|exact Or.inl rfl|exact Or.inr rfl)
  (hf:(bD X N' sc L cs s H fp).fn x=true\/(bD X N' sc L cs s H fp).env.scope.names.lookup x=some .local:=by first|exact .inl rfl|exact .inr rfl|assumption)
  (hs:(assignEach (.Name x p::es) (bD X N' sc L cs s H fp).env).map (·.2)=assign (.Name x p) (bD X N' sc L cs s H fp).env::(assignEach es (bD X N' sc L cs s H fp).env).map (·.2):=by rfl):PGs (bD X N' sc L cs s H fp) (.Name x p::es) (ll (i::is)):=Bm (pg_c hN hi hx hf) h2 hs
end
open PySem.W in
noncomputable def gp {α:Type} (lt:Nat->Nat->Bool):KasT α->α
 |.ret a=>a
 |.ask i j k=>gp lt (k (lt i j))
section
open PySem.W
variable {lt:Nat->Nat->Bool}
theorem lX (f:α->KasT β):∀t:KasT α,gp lt (t.bind f)=gp lt (f (gp lt t))
 |.ret _=>rfl
 |.ask i j k=>lX f (k (lt i j))
variable {p:Array Nat}
noncomputable def kAt (key:Nat->Int) (p:Array Nat) (i:Nat):Int:=key (p.getD i 0)
noncomputable def Up (key:Nat->Int) (p:Array Nat) (k:Nat):Prop:=∀i j,i<=j->j<k->kAt key p i<=kAt key p j
noncomputable def Down (key:Nat->Int) (p:Array Nat) (k:Nat):Prop:=∀i j,i<=j->j<k->kAt key p j<=kAt key p i
theorem oV {p q:Array Nat} (h:p[i]? =q[j]?):kAt key p i=kAt key q j:=by
 unfold kAt;rw [Array.getD_eq_getD_getElem?,Array.getD_eq_getD_getElem?,h]
theorem ur (hj:j<=p.size) (k:Nat):kAt key (kas_rev p i j) k=if i<=k/\k<j then kAt key p (i+j-1-k) else kAt key p k:=by
 have e:=getElem?_mirror_all (i:=i) hj k;unfold kas_rev;split
 ·rename_i h;rw [if_pos h] at e;exact oV e
 ·rename_i h;rw [if_neg h] at e;exact oV e
theorem kAt_bub {src d:Nat} (hs:src<p.size) (hd:d<=src) (k:Nat):kAt key (bubble p src d) k=if k=src-d then kAt key p src else if src-d<k/\k<=src then kAt key p (k-1) else kAt key p k:=by
 have e:=getElem?_bubble hs d hd k;split
 ·rename_i h;rw [if_pos h] at e;exact oV e
 ·rename_i h;rw [if_neg h] at e;split
  ·rename_i h2;rw [if_pos h2] at e;exact oV e
  ·rename_i h2;rw [if_neg h2] at e;exact oV e
theorem mL:(kas_rev p i j).size=p.size:=mirror_size _ _ _ _
theorem jC:(kas_rev p i j).Perm p:=mirror_perm _ _ _ _
noncomputable def ltK (key:Nat->Int) (i j:Nat):Bool:=decide (key i<key j)
theorem FK (p:Array Nat):∀(f n:Nat),1<=n->Up key p n->n<=gp (ltK key) (kas_asc p f n)/\gp (ltK key) (kas_asc p f n)<=n+f/\Up key p (gp (ltK key) (kas_asc p f n)) /\
  (gp (ltK key) (kas_asc p f n)<n+f->kAt key p (gp (ltK key) (kas_asc p f n))<kAt key p (gp (ltK key) (kas_asc p f n)-1))
 |0,n,h1,h=>⟨Nat.le_refl _,Nat.le_refl _,h,fun z=>absurd z (Nat.lt_irrefl _)⟩
 |f+1,n,h1,h=>by
  have e:gp (ltK key) (kas_asc p (f+1) n)=if kAt key p n<kAt key p (n-1) then n else gp (ltK key) (kas_asc p f (n+1)):=by
   show gp (ltK key) (if ltK key (p.getD n 0) (p.getD (n-1) 0)=true then KasT.ret n else kas_asc p f (n+1))=_;by_cases hc:kAt key p n<kAt key p (n-1)
   ·rw [if_pos (show ltK key (p.getD n 0) (p.getD (n-1) 0)=true from decide_eq_true hc),if_pos hc];rfl
   ·rw [if_neg (show ¬ltK key (p.getD n 0) (p.getD (n-1) 0)=true from fun z=>hc (of_decide_eq_true z)),if_neg hc]
  rw [e];by_cases hc:kAt key p n<kAt key p (n-1)
  ·rw [if_pos hc];exact ⟨Nat.le_refl _,by omega,h,fun _=>hc⟩
  ·rw [if_neg hc];obtain ⟨a1,a2,a3,a4⟩:=FK p f (n+1) (by omega) (fun i j hij hj=>by
    by_cases hjn:j<n
    ·exact h i j hij hjn
    ·have:j=n:=by omega
     subst this;by_cases hin:i=j
     ·rw [hin];exact Int.le_refl _
     ·have:=h i (j-1) (by omega) (by omega);omega)
   exact ⟨by omega,by omega,a3,fun z=>a4 (by omega)⟩
noncomputable def Alike (key:Nat->Int) (p:Array Nat) (n q:Nat):Prop:=∀i,n-(q+1)<=i->i<n->kAt key p i=kAt key p (n-1)
theorem FL:Alike key p (n+1) 0:=fun i h1 h2=>by rw [show i=n+1-1 by omega]
theorem yq {q:Nat} (hn:n<=p.size) (ha:Alike key p n q) (hq:q+1<=n) (k:Nat):kAt key (kas_rev p (n-(q+1)) n) k=kAt key p k:=by
 rw [ur hn];split
 ·rename_i h;rw [ha _ (by omega) (by omega),ha k h.1 h.2]
 ·rfl
theorem xy:∀(f:Nat) (p:Array Nat) (n q:Nat),1<=n->q+1<=n->n+f<=p.size->Down key p n->Alike key p n q->∀p' n' q',gp (ltK key) (kas_desc f p n q)=(p',n',q') ->
  p'.Perm p/\p'.size=p.size/\n<=n'/\n'<=n+f/\q'+1<=n'/\Down key p' n'/\Alike key p' n' q'
 |0,p,n,q,h1,hq,hz,hd,ha,p',n',q',e=>by
  cases e;exact ⟨Array.Perm.refl _,rfl,Nat.le_refl _,Nat.le_refl _,hq,hd,ha⟩
 |f+1,p,n,q,h1,hq,hz,hd,ha,p',n',q',e=>by
  have e0:gp (ltK key) (kas_desc (f+1) p n q)=if kAt key p n<kAt key p (n-1) then (if q>0 then gp (ltK key) (kas_desc f (kas_rev p (n-(q+1)) n) (n+1) 0) else gp (ltK key) (kas_desc f p (n+1) 0))
    else if kAt key p (n-1)<kAt key p n then (p,n,q) else gp (ltK key) (kas_desc f p (n+1) (q+1)):=by
   show gp (ltK key) (if ltK key (p.getD n 0) (p.getD (n-1) 0)=true then (if q>0 then kas_desc f (kas_rev p (n-(q+1)) n) (n+1) 0 else kas_desc f p (n+1) 0)
    else KasT.ask (p.getD (n-1) 0) (p.getD n 0) fun d=>if d=true then .ret (p,n,q) else kas_desc f p (n+1) (q+1))=_
   by_cases hc:kAt key p n<kAt key p (n-1)
   ·rw [if_pos (show ltK key (p.getD n 0) (p.getD (n-1) 0)=true from decide_eq_true hc),if_pos hc];by_cases hq0:q>0
    ·rw [if_pos hq0,if_pos hq0]
    ·rw [if_neg hq0,if_neg hq0]
   ·rw [if_neg (show ¬ltK key (p.getD n 0) (p.getD (n-1) 0)=true from fun z=>hc (of_decide_eq_true z)),if_neg hc];show gp (ltK key) (if ltK key (p.getD (n-1) 0) (p.getD n 0)=true then KasT.ret (p,n,q) else kas_desc f p (n+1) (q+1))=_;by_cases hc2:kAt key p (n-1)<kAt key p n
    ·rw [if_pos (show ltK key (p.getD (n-1) 0) (p.getD n 0)=true from decide_eq_true hc2),if_pos hc2];rfl
    ·rw [if_neg (show ¬ltK key (p.getD (n-1) 0) (p.getD n 0)=true from fun z=>hc2 (of_decide_eq_true z)),if_neg hc2]
  rw [e0] at e;have down1:∀{r:Array Nat},(∀k,kAt key r k=kAt key p k)->kAt key p n<=kAt key p (n-1)->Down key r (n+1):=fun {r} hr hle i j hij hj=>by
   rw [hr,hr];by_cases hjn:j<n
   ·exact hd i j hij hjn
   ·have:j=n:=by omega
    subst this;by_cases hin:i=j
    ·rw [hin];exact Int.le_refl _
    ·have:=hd i (j-1) (by omega) (by omega);omega
  by_cases hc:kAt key p n<kAt key p (n-1)
  ·rw [if_pos hc] at e;by_cases hq0:q>0
   ·rw [if_pos hq0] at e;have hr:=yq (key:=key) (p:=p) (n:=n) (q:=q) (by omega) ha hq;obtain ⟨b1,b2,b3,b4,b5,b6,b7⟩:=xy f _ (n+1) 0 (by omega) (by omega) (by rw [mL];omega) (down1 hr (by omega)) FL p' n' q' e;exact ⟨b1.trans jC,by rw [b2,mL],by omega,by omega,b5,b6,b7⟩
   ·rw [if_neg hq0] at e;obtain ⟨b1,b2,b3,b4,b5,b6,b7⟩:=xy f _ (n+1) 0 (by omega) (by omega) (by omega) (down1 (fun _=>rfl) (by omega)) FL p' n' q' e;exact ⟨b1,b2,by omega,by omega,b5,b6,b7⟩
  ·rw [if_neg hc] at e;by_cases hc2:kAt key p (n-1)<kAt key p n
   ·rw [if_pos hc2] at e;cases e;exact ⟨Array.Perm.refl _,rfl,Nat.le_refl _,by omega,hq,hd,ha⟩
   ·rw [if_neg hc2] at e;obtain ⟨b1,b2,b3,b4,b5,b6,b7⟩:=xy f _ (n+1) (q+1) (by omega) (by omega) (by omega) (down1 (fun _=>rfl) (by omega)) (fun i h1 h2=>by
     show kAt key p i=kAt key p (n+1-1);rw [Nat.add_sub_cancel];by_cases hin:i=n
     ·rw [hin]
     ·have:=ha i (by omega) (by omega);omega) p' n' q' e
    exact ⟨b1,b2,by omega,by omega,b5,b6,b7⟩
theorem Bc (h1:1<=n) (hn:n<=nrem) (hz:nrem<=p.size) (hd:Down key p n):∀m p',gp (ltK key) (kas_tail3 n nrem p)=(m,p')->p'.Perm p/\p'.size=p.size/\1<=m/\m<=nrem/\Up key p' m:=by
 intro m p' e;unfold kas_tail3 at e;rw [lX] at e;cases e;have hu:Up key (kas_rev p 0 n) n:=fun i j hij hj=>by
  rw [ur (by omega),ur (by omega),if_pos ⟨Nat.zero_le _,by omega⟩,if_pos ⟨Nat.zero_le _,by omega⟩];exact hd _ _ (by omega) (by omega)
 obtain ⟨a1,a2,a3,_⟩:=FK (key:=key) (kas_rev p 0 n) (nrem-n) n h1 hu;exact ⟨jC,mL,by omega,by omega,a3⟩
theorem uL (h1:1<=n) (hn:n+1<=nrem) (hz:nrem<=p.size) (hall:∀i,i<n->kAt key p i=kAt key p (n-1)) (hlt:kAt key p n<kAt key p (n-1)):∀m p',gp (ltK key) (kas_descPart n nrem p)=(m,p')->p'.Perm p/\p'.size=p.size/\1<=m/\m<=nrem/\Up key p' m:=by
 intro m p' e;unfold kas_descPart at e;rw [lX] at e;obtain ⟨r,n2,q2⟩:∃r n2 q2,gp (ltK key) (kas_desc (nrem-(n+1)) p (n+1) 0)=(r,n2,q2):=⟨_,_,_,rfl⟩
 obtain ⟨q2,er⟩:=q2;rw [er] at e;obtain ⟨b1,b2,b3,b4,b5,b6,b7⟩:=xy (key:=key) (nrem-(n+1)) p (n+1) 0 (by omega) (by omega) (by omega) (fun i j hij hj=>by
  by_cases hjn:j<n
  ·rw [hall i (by omega),hall j hjn];exact Int.le_refl _
  ·have:j=n:=by omega
   subst this;by_cases hin:i=j
   ·rw [hin];exact Int.le_refl _
   ·rw [hall i (by omega)];omega) FL r n2 q2 er
 by_cases hq:q2>0
 ·simp only [if_pos hq] at e;have hr:=yq (key:=key) (p:=r) (n:=n2) (q:=q2) (by omega) b7 b5;obtain ⟨c1,c2,c3,c4,c5⟩:=Bc (key:=key) (p:=kas_rev r (n2-(q2+1)) n2) (n:=n2) (nrem:=nrem) (by omega) (by omega) (by rw [mL];omega) (fun i j hij hj=>by rw [hr,hr];exact b6 i j hij hj) m p' e;exact ⟨c1.trans (jC.trans b1),by rw [c2,mL,b2],c3,c4,c5⟩
 ·simp only [if_neg hq] at e;obtain ⟨c1,c2,c3,c4,c5⟩:=Bc (key:=key) (p:=r) (n:=n2) (nrem:=nrem) (by omega) (by omega) (by omega) b6 m p' e;exact ⟨c1.trans b1,by rw [c2,b2],c3,c4,c5⟩
theorem count_ok (h1:1<=nrem) (hz:nrem<=p.size):∀m p',gp (ltK key) (kas_count nrem p)=(m,p')->p'.Perm p/\p'.size=p.size/\1<=m/\m<=nrem/\Up key p' m:=by
 intro m p' e;unfold kas_count at e;rw [lX] at e;obtain ⟨a1,a2,a3,a4⟩:=FK (key:=key) p (nrem-1) 1 (Nat.le_refl _) (fun i j hij hj=>by rw [show i=j by omega];exact Int.le_refl _);obtain ⟨n,en⟩:∃n,gp (ltK key) (kas_asc p (nrem-1) 1)=n:=⟨_,rfl⟩
 rw [en] at e a1 a2 a3 a4;by_cases hn:(n==nrem)=true
 ·simp only [if_pos hn] at e;cases e;exact ⟨Array.Perm.refl _,rfl,a1,by omega,a3⟩
 ·simp only [if_neg hn] at e;have hn':n≠nrem:=fun z=>hn (by simp [z]);have hlt:=a4 (by omega);by_cases h2:n>1
  ·simp only [if_pos h2] at e;have e':gp (ltK key) (if ltK key (p.getD 0 0) (p.getD (n-1) 0)=true then KasT.ret (n,p) else kas_descPart n nrem (kas_rev p 0 n))=(m,p'):=e;by_cases hc:kAt key p 0<kAt key p (n-1)
   ·rw [if_pos (show ltK key (p.getD 0 0) (p.getD (n-1) 0)=true from decide_eq_true hc)] at e';cases e';exact ⟨Array.Perm.refl _,rfl,a1,by omega,a3⟩
   ·rw [if_neg (show ¬ltK key (p.getD 0 0) (p.getD (n-1) 0)=true from fun z=>hc (of_decide_eq_true z))] at e';have all:∀i,i<n->kAt key p i=kAt key p (n-1):=fun i hi=>by
     have x1:=a3 0 i (by omega) hi;have x2:=a3 i (n-1) (by omega) (by omega);omega
    have hr:∀i,i<n->kAt key (kas_rev p 0 n) i=kAt key p (n-1):=fun i hi=>by
     rw [ur (by omega),if_pos ⟨Nat.zero_le _,hi⟩];exact all _ (by omega)
    obtain ⟨c1,c2,c3,c4,c5⟩:=uL (key:=key) (p:=kas_rev p 0 n) (n:=n) (nrem:=nrem) a1 (by omega) (by rw [mL];omega) (fun i hi=>by rw [hr i hi,hr (n-1) (by omega)]) (by
     rw [hr (n-1) (by omega),ur (by omega),if_neg (by omega)];exact hlt) m p' e'
    exact ⟨c1.trans jC,by rw [c2,mL],c3,c4,c5⟩
  ·simp only [if_neg h2] at e;have:n=1:=by omega
   subst this;exact uL (key:=key) (Nat.le_refl _) (by omega) hz (fun i hi=>by rw [show i=1-1 by omega]) hlt m p' e
theorem wR {k:Nat} (hu:Up key p k):∀(f l r:Nat),r<=k->r-l<=f->l<=r->(∀i,i<l->kAt key p i<=kAt key p k)->(∀i,r<=i->i<k->kAt key p k<kAt key p i) ->
  gp (ltK key) (kas_place p k f l r)<=k/\(∀i,i<gp (ltK key) (kas_place p k f l r)->kAt key p i<=kAt key p k)/\∀i,gp (ltK key) (kas_place p k f l r)<=i->i<k->kAt key p k<kAt key p i
 |0,l,r,hr,hf,hlr,h1,h2=>by
  have:l=r:=by omega
  subst this;exact ⟨hr,h1,h2⟩
 |f+1,l,r,hr,hf,hlr,h1,h2=>by
  by_cases hge:l>=r
  ·have:l=r:=by omega
   subst this;have e:gp (ltK key) (kas_place p k (f+1) l l)=l:=by
    show gp (ltK key) (if l>=l then KasT.ret l else _)=l;rw [if_pos hge];rfl
   rw [e];exact ⟨hr,h1,h2⟩
  ·have e:gp (ltK key) (kas_place p k (f+1) l r)=if kAt key p k<kAt key p ((l+r)/2) then gp (ltK key) (kas_place p k f l ((l+r)/2)) else gp (ltK key) (kas_place p k f ((l+r)/2+1) r):=by
    show gp (ltK key) (if l>=r then KasT.ret l else .ask (p.getD k 0) (p.getD ((l+r)/2) 0) fun c=>if c=true then kas_place p k f l ((l+r)/2) else kas_place p k f ((l+r)/2+1) r)=_;rw [if_neg hge];show gp (ltK key) (if ltK key (p.getD k 0) (p.getD ((l+r)/2) 0)=true then kas_place p k f l ((l+r)/2) else kas_place p k f ((l+r)/2+1) r)=_;by_cases hc:kAt key p k<kAt key p ((l+r)/2)
    ·rw [if_pos (show ltK key (p.getD k 0) (p.getD ((l+r)/2) 0)=true from decide_eq_true hc),if_pos hc]
    ·rw [if_neg (show ¬ltK key (p.getD k 0) (p.getD ((l+r)/2) 0)=true from fun z=>hc (of_decide_eq_true z)),if_neg hc]
   rw [e];by_cases hc:kAt key p k<kAt key p ((l+r)/2)
   ·rw [if_pos hc];exact wR hu f l ((l+r)/2) (by omega) (by omega) (by omega) h1 fun i hi hik=>by
     have:=hu ((l+r)/2) i hi hik;omega
   ·rw [if_neg hc];exact wR hu f ((l+r)/2+1) r hr (by omega) (by omega) (fun i hi=>by
     have:=hu i ((l+r)/2) (by omega) (by omega);omega) h2
theorem bin_ok:∀(f:Nat) (p:Array Nat) (k:Nat),k+f<=p.size->Up key p k->(gp (ltK key) (kas_bin f p k)).Perm p/\Up key (gp (ltK key) (kas_bin f p k)) (k+f)
 |0,p,k,hz,hu=>⟨Array.Perm.refl _,hu⟩
 |f+1,p,k,hz,hu=>by
  have e:gp (ltK key) (kas_bin (f+1) p k)=gp (ltK key) (kas_bin f (bubble p k (k-gp (ltK key) (kas_place p k k 0 k))) (k+1)):=by
   show gp (ltK key) ((kas_place p k k 0 k).bind fun l=>kas_bin f (bubble p k (k-l)) (k+1))=_;rw [lX]
  rw [e];obtain ⟨a1,a2,a3⟩:=wR hu k 0 k (Nat.le_refl _) (by omega) (Nat.zero_le _) (fun i hi=>absurd hi (Nat.not_lt_zero _)) (fun i h1 h2=>by omega);obtain ⟨l,el⟩:∃l,gp (ltK key) (kas_place p k k 0 k)=l:=⟨_,rfl⟩
  rw [el] at a1 a2 a3 ⊢;have hb:=kAt_bub (key:=key) (p:=p) (src:=k) (d:=k-l) (by omega) (by omega);obtain ⟨c1,c2⟩:=bin_ok f (bubble p k (k-l)) (k+1) (by rw [bubble_size];omega) (fun i j hij hj=>by
   have e1:k-(k-l)=l:=by omega
   rw [hb,hb,e1];by_cases hi:i=l
   ·rw [if_pos hi];by_cases hj2:j=l
    ·rw [if_pos hj2];exact Int.le_refl _
    ·rw [if_neg hj2,if_pos (by omega)];have:=a3 (j-1) (by omega) (by omega);omega
   ·rw [if_neg hi];by_cases hj2:j=l
    ·rw [if_pos hj2,if_neg (by omega)];exact a2 i (by omega)
    ·rw [if_neg hj2];by_cases hi2:l<i/\i<=k
     ·rw [if_pos hi2,if_pos (by omega)];exact hu _ _ (by omega) (by omega)
     ·rw [if_neg hi2];by_cases hj3:l<j/\j<=k
      ·rw [if_pos hj3];exact hu _ _ (by omega) (by omega)
      ·rw [if_neg hj3];exact hu _ _ (by omega) (by omega))
  exact ⟨c1.trans (bubble_perm _ _ _),by rw [show k+(f+1)=k+1+f by omega];exact c2⟩
theorem zR (h1:1<=n):(gp (ltK key) (kas_sort n)).toList.Perm (List.range n)/\Up key (gp (ltK key) (kas_sort n)) n:=by
 unfold kas_sort;rw [lX];obtain ⟨m,p',er⟩:∃m p',gp (ltK key) (kas_count n (List.toArray (List.range n)))=(m,p'):=⟨_,_,rfl⟩
 rw [er];obtain ⟨b1,b2,b3,b4,b5⟩:=count_ok (key:=key) (p:=List.toArray (List.range n)) h1 (by simp) m p' er;have hsz:p'.size=n:=by rw [b2];simp
 by_cases hm:m<n
 ·simp only [if_pos hm];have em:max m 1=m:=by omega
  rw [em];obtain ⟨c1,c2⟩:=bin_ok (key:=key) (n-m) p' m (by omega) b5;refine ⟨?_,by rw [show m+(n-m)=n by omega] at c2;exact c2⟩
  have:=Array.perm_iff_toList_perm.mp (c1.trans b1);simpa using this
 ·simp only [if_neg hm];have:m=n:=by omega
  subst this;refine ⟨?_,b5⟩
  have:=Array.perm_iff_toList_perm.mp b1;show p'.toList.Perm _;simpa using this
end
section
open PySem.W
noncomputable def C5 (n:Nat) (R:α->Prop):KasT α->Prop
 |.ret a=>R a
 |.ask i j k=>i<n/\j<n/\∀b,C5 n R (k b)
theorem mr {R:α->Prop} {S:β->Prop} {f:α->KasT β} (hf:∀a,R a->C5 n S (f a)):∀t:KasT α,C5 n R t->C5 n S (t.bind f)
 |.ret a,h=>hf a h
 |.ask i j k,h=>⟨h.1,h.2.1,fun b=>mr hf (k b) (h.2.2 b)⟩
theorem vP {lt:Nat->Nat->Bool} {R:α->Prop} {cmp:Nat->Nat->(Bool->Shared->Prop)->Shared->Prop} {s:Shared} (ha:∀i j (C:Bool->Shared->Prop),i<n->j<n->C (lt i j) s->cmp i j C s) {Q:α->Shared->Prop}:∀t:KasT α,C5 n R t->Q (gp lt t) s->t.kasWp cmp Q s
 |.ret _,_,h=>h
 |.ask i j k,r,h=>ha i j _ r.1 r.2.1 (vP ha (k (lt i j)) (r.2.2 _) h)
noncomputable def InB (n:Nat) (p:Array Nat):Prop:=∀x,p.getD x 0<n
theorem pW {p q:Array Nat} (h0:0<n) (hp:InB n p) (h:q.Perm p):InB n q:=fun x=>by
 rw [Array.getD_eq_getD_getElem?];cases e:q[x]? with
 |none=>exact h0
 |some v=>
  have hv:v∈q.toList:=by
   rw [<- Array.getElem?_toList] at e;exact List.mem_of_getElem? e
  have hv2:v∈p.toList:=(Array.perm_iff_toList_perm.mp h).mem_iff.mp hv;obtain ⟨y,hy,ey⟩:=List.getElem_of_mem hv2;have:=hp y;rw [Array.getD_eq_getD_getElem?,<- Array.getElem?_toList,List.getElem?_eq_getElem hy,ey] at this;exact this
variable {p:Array Nat}
theorem xK (hp:InB n p):∀f m,C5 n (fun _=>True) (kas_asc p f m)
 |0,_=>trivial
 |f+1,m=>⟨hp _,hp _,fun b=>by
  (try dsimp only)
  split
  ·trivial
  ·exact xK hp f (m+1)⟩
theorem sd (h0:0<n):∀(f:Nat) (p:Array Nat) (m q:Nat),InB n p->C5 n (fun r=>InB n r.1) (kas_desc f p m q)
 |0,p,_,_,hp=>hp
 |f+1,p,m,q,hp=>⟨hp _,hp _,fun b=>by
  (try dsimp only)
  split
  ·split
   ·exact sd h0 f _ _ _ (pW h0 hp jC)
   ·exact sd h0 f _ _ _ hp
  ·refine ⟨hp _,hp _,fun c=>?_⟩
   (try dsimp only)
   split
   ·exact hp
   ·exact sd h0 f _ _ _ hp⟩
theorem wd (h0:0<n) (hp:InB n p) (m r:Nat):C5 n (fun r=>InB n r.2) (kas_tail3 m r p):=by
 unfold kas_tail3;refine mr (n:=n) (R:=fun _=>True) (f:=fun k=>KasT.ret (k,kas_rev p 0 m)) (fun a _=>?_) _ (xK (pW h0 hp jC) _ _);exact pW h0 hp jC
theorem s9 (h0:0<n) (hp:InB n p) (m r:Nat):C5 n (fun r=>InB n r.2) (kas_descPart m r p):=by
 refine mr (R:=fun r=>InB n r.1) (fun a ha=>?_) _ (sd h0 _ _ _ _ hp)
 (try dsimp only)
 split
 ·exact wd h0 (pW h0 ha jC) _ _
 ·exact wd h0 ha _ _
theorem D3 (h0:0<n) (hp:InB n p) (r:Nat):C5 n (fun r=>InB n r.2) (kas_count r p):=by
 refine mr (R:=fun _=>True) (fun a _=>?_) _ (xK hp _ _)
 (try dsimp only)
 split
 ·exact hp
 ·split
  ·refine ⟨hp _,hp _,fun b=>?_⟩
   (try dsimp only)
   split
   ·exact hp
   ·exact s9 h0 (pW h0 hp jC) _ _
  ·exact s9 h0 hp _ _
theorem sP (hp:InB n p) (k:Nat):∀f l r,C5 n (fun _=>True) (kas_place p k f l r)
 |0,_,_=>trivial
 |f+1,l,r=>by
  show C5 n (fun _=>True) (if l>=r then KasT.ret l else _);split
  ·trivial
  ·refine ⟨hp _,hp _,fun b=>?_⟩
   (try dsimp only)
   split
   ·exact sP hp k f _ _
   ·exact sP hp k f _ _
theorem C4 (h0:0<n):∀(f:Nat) (p:Array Nat) (k:Nat),InB n p->C5 n (fun _=>True) (kas_bin f p k)
 |0,_,_,_=>trivial
 |f+1,p,k,hp=>mr (R:=fun _=>True) (fun l _=>C4 h0 f _ _ (pW h0 hp (bubble_perm _ _ _))) _ (sP hp k _ _ _)
theorem FJ (h0:0<n):C5 n (fun _=>True) (kas_sort n):=by
 refine mr (R:=fun r=>InB n r.2) (fun a ha=>?_) _ (D3 h0 (fun x=>?_) _)
 ·(try dsimp only)
  split
  ·exact C4 h0 _ _ _ ha
  ·trivial
 ·rw [Array.getD_eq_getD_getElem?];simp only [List.getElem?_toArray];cases e:(List.range n)[x]? with
  |none=>exact h0
  |some v=>exact List.mem_range.mp (List.mem_of_getElem? e)
end
section
open PySem.W
noncomputable def sv (key:Nat->Int) (vs:List Value):List Value:=if vs.length<2 then vs else (gp (ltK key) (kas_sort vs.length)).toList.map fun i=>vs.getD i Value.none
noncomputable def Asks (prog:Program) (w:World) (A:Around) (key:Nat->Int) (vs:List Value) (s':Shared):Prop:=
 wpAny (model prog w) A (keyKind' vs.toArray) (fun κ s2=>s2=s'/\∀i j (C:Bool->Shared->Prop),i<vs.length->j<vs.length->C (ltK key i j) s'->kas_ask prog w A κ vs i j C s') (fun _ _=>False) s'
theorem Ew {vs:List Value} {P:PySem.Fin->Shared->Prop} (ho:s.heap.get? a=some (seqObj "list" vs.toArray n)) (h64:vs.length<64)
  (hk:2<=vs.length->∀h1:Heap,(∀b o,b≠a->s.heap.get? b=some o->h1.get? b=some o)->Asks prog w A key vs {s with heap:=h1})
  (h:∀(h':Heap) (c:Nat),(∀b o,b≠a->s.heap.get? b=some o->h'.get? b=some o)->h'.get? a=some (seqObj "list" (sv key vs).toArray c)->P (.done (.ret .none)) {s with heap:=h'}) :
  wpAny (model prog w) A (Builtin.«list.sort» ⟨[.ref a],[]⟩) P E s:=by
 have hlt:a<s.heap.objs.size:=Heap.lt_size ho;have hline:=sizeLine_eq;obtain ⟨e1,ho1⟩:∃e1,(s.heap.update a (Obj.mapSeq fun _=>(#[]:Array Value))).get? a=some (seqObj "list" #[] e1):=⟨_,get?_update_seq ho fun _=>#[]⟩
 rw [list_sort_plain];refine wpAny_bind (listItems_at ho rfl (wpAny_bind (listUpdate_at ho rfl (wpAny_bind (seqEpoch_at ho1 rfl (wpAny_bind (wpAny_newTuple (wpAny_bind (wpAny_newList (wpAny_holding ?_) (Nat.zero_le _))) (by show vs.length<=_;omega))))) (by rw [List.size_toArray];omega) (Nat.zero_le _))));have hkeep:∀b o,b≠a->s.heap.get? b=some o->(((s.heap.update a (Obj.mapSeq fun _=>(#[]:Array Value))).push (seqObj "tuple" vs.toArray 0)).push (seqObj "list" #[] 0)).get? b=some o:=fun b o hb q=>
  Heap.get?_push_of_some _ (Heap.get?_push_of_some _ ((Heap.get?_update_other _ _ (Ne.symm hb)).trans q))
 have ho6:(((s.heap.update a (Obj.mapSeq fun _=>(#[]:Array Value))).push (seqObj "tuple" vs.toArray 0)).push (seqObj "list" #[] 0)).get? a=some (seqObj "list" #[] e1):=Heap.get?_push_of_some _ (Heap.get?_push_of_some _ ho1);show wpAny (model prog w) A _ P E {s with heap:=((s.heap.update a (Obj.mapSeq fun _=>(#[]:Array Value))).push (seqObj "tuple" vs.toArray 0)).push (seqObj "list" #[] 0)};dsimp only;have fin:∀(out:List Value),out=sv key vs->P (.done (.ret .none)) {s with heap:=(((s.heap.update a (Obj.mapSeq fun _=>(#[]:Array Value))).push (seqObj "tuple" vs.toArray 0)).push (seqObj "list" #[] 0)).update a (Obj.mapSeq fun _=>out.toArray)}:=fun out eo=>by
  subst eo;exact h _ _ (fun b o hb q=>(Heap.get?_update_other _ _ (Ne.symm hb)).trans (hkeep b o hb q)) (get?_update_seq ho6 fun _=>(sv key vs).toArray)
 by_cases h2:vs.toArray.size<2
 ·rw [if_pos h2,if_pos h2];refine wpAny_bind (wpAny_pure ?_);rw [StateT.run_pure];refine wpAny_bind (wpAny_pure ?_);dsimp only;have h2':vs.length<2:=by simpa using h2
  have eo:(arrOf (SortSt.mk' general' (vs.toArray.zip vs.toArray) #[] 7 none)).map (·.2)=vs.toArray:=by
   show (vs.toArray.zip vs.toArray).map (·.2)=vs.toArray;apply Array.toList_inj.mp;simp only [Array.toList_map,Array.toList_zip];exact List.map_snd_zip (Nat.le_refl _)
  rw [eo];refine wpAny_bind (seqEpoch_at ho6 rfl (wpAny_bind (listUpdate_at ho6 rfl ?_ (Nat.zero_le _) (by show vs.length<=_;omega))));have e3:failedOf (SortSt.mk' general' (vs.toArray.zip vs.toArray) #[] 7 none)=none:=rfl;simp only [e3,bne_self_eq_false,Bool.false_eq_true,if_false];exact wpAny_pure (fin vs (by unfold sv;rw [if_pos h2']))
 ·rw [if_neg h2,if_neg h2];have h2':2<=vs.length:=by rw [List.size_toArray] at h2;omega
  refine wpAny_bind (wpAny_mono (hk h2' _ hkeep) (fun κ s0 ⟨es,ask⟩=>?_) fun _ _ x=>x.elim);subst es;refine wpAny_bind (wpAny_mono (kat_run (ks:=vs) (vs:=vs) (Q:=fun st' s'=>s'={s with heap:=((s.heap.update a (Obj.mapSeq fun _=>(#[]:Array Value))).push (seqObj "tuple" vs.toArray 0)).push (seqObj "list" #[] 0)}/\(arrOf st').map (·.2)=(sv key vs).toArray/\failedOf st'=none)
   (G:=fun p s'=>s'={s with heap:=((s.heap.update a (Obj.mapSeq fun _=>(#[]:Array Value))).push (seqObj "tuple" vs.toArray 0)).push (seqObj "list" #[] 0)}/\p=gp (ltK key) (kas_sort vs.length)) rfl h2' h64 (fun p st' s' _ har hf hg=>⟨hg.1,?_,hf⟩) (vP (n:=vs.length) (R:=fun _=>True) (fun i j C hi hj hc=>ask i j C hi hj hc) _ (FJ (by omega)) ⟨rfl,rfl⟩)) (fun r s' hr=>?_) fun _ _ x=>x)
  ·rw [kat_snds rfl har,hg.2];unfold sv;rw [if_neg (by omega)]
  ·obtain ⟨⟨⟩,st'⟩:=r;obtain ⟨es,eo,ef⟩:=hr;have es:s'=_:=es;subst es;have eo:(arrOf st').map (·.2)=(sv key vs).toArray:=eo;have ef:failedOf st'=none:=ef;dsimp only;rw [eo];have hol:(sv key vs).length=vs.length:=by
    unfold sv;split
    ·rfl
    ·rw [List.length_map,(zR (key:=key) (n:=vs.length) (by omega)).1.length_eq,List.length_range]
   refine wpAny_bind (seqEpoch_at ho6 rfl (wpAny_bind (listUpdate_at ho6 rfl ?_ (Nat.zero_le _) (by show (sv key vs).length<=_;omega))));simp only [ef,bne_self_eq_false,Bool.false_eq_true,if_false];exact wpAny_pure (fin _ rfl)
theorem Cj {vs:List Value} {Q:Mq} (hl:s.heap.IsList l vs.toArray) (h64:vs.length<64)
  (hk:2<=vs.length->∀h1:Heap,(∀b o,s.heap.get? b=some o->h1.get? b=some o)->Asks prog w A.in1.in1 key vs {s with heap:=h1})
  (h:∀(h':Heap) (D:Addr) (c:Nat),s.heap.objs.size<=D->(∀b o,s.heap.get? b=some o->h'.get? b=some o)->h'.get? D=some (seqObj "list" (sv key vs).toArray c)->Q (.ref D) {s with heap:=h'}) :
  wpAny (model prog w) A (call (.builtin "sorted") [.ref l]) Q E s:=by
 have hline:=sizeLine_eq;refine Calls.call_function_entry kind_sorted plain_sorted entry_sorted (args_sorted1 _) ?_;unfold Builtin.«sorted»;refine wpAny_bind (m:=checkCount "sorted" 1 1 _) (wpAny_pure (wpAny_bind (collect_list hl (wpAny_bind (wpAny_newList ?_ (by omega))) (by omega))));have hz:((s.heap.push (seqObj "list" #[] 0)).update s.heap.objs.size (Obj.mapSeq (·++vs.toArray))).objs.size=s.heap.objs.size+1:=by rw [Heap.size_update,size_push']
 have hD:(((s.heap.push (seqObj "list" #[] 0)).update s.heap.objs.size (Obj.mapSeq (·++vs.toArray))).push (seqObj "list" vs.toArray 0)).get? (s.heap.objs.size+1)=some (seqObj "list" vs.toArray 0):=by rw [<- hz];exact Heap.get?_push_size _ rfl
 have hkeep:∀b o,s.heap.get? b=some o->(((s.heap.push (seqObj "list" #[] 0)).update s.heap.objs.size (Obj.mapSeq (·++vs.toArray))).push (seqObj "list" vs.toArray 0)).get? b=some o:=fun b o q=>
  Heap.get?_push_of_some _ ((Heap.get?_update_other _ _ (Nat.ne_of_gt (Heap.lt_size q))).trans (Heap.get?_push_of_some _ q))
 show wpAny _ _ _ _ _ {s with heap:=((s.heap.push (seqObj "list" #[] 0)).update s.heap.objs.size (Obj.mapSeq (·++vs.toArray))).push (seqObj "list" vs.toArray 0)};rw [hz];have hnD:∀b o,s.heap.get? b=some o->b≠s.heap.objs.size+1:=fun b o q=>Nat.ne_of_lt (Nat.lt_succ_of_lt (Heap.lt_size q));refine wpAny_bind (wpAny_holding (wpAny_call_entry slot_list_sort ⟨_,hD,rfl⟩ entry_list_sort (Ew hD h64 (fun h2 h1 hk1=>hk h2 h1 fun b o q=>hk1 b o (hnD b o q) (hkeep b o q)) fun h' c k' e'=>⟨_,rfl,?_⟩) (args_list_sort _)));exact wpAny_pure ⟨_,rfl,h h' _ c (Nat.le_succ _) (fun b o q=>k' b o (hnD b o q) (hkeep b o q)) e'⟩
end
noncomputable def insL {α:Type} (lt:α->α->Bool) (x:α):List α->List α
 |[]=>[x]
 |y::ys=>if lt y x=true then y::insL lt x ys else x::y::ys
noncomputable def rM {α:Type} (lt:α->α->Bool):List α->List α
 |[]=>[]
 |x::xs=>insL lt x (rM lt xs)
noncomputable def ltZ (a b:Int):Bool:=decide (a<b)
noncomputable def uj:List Int->List Int->Bool
 |[],[]=>false
 |[],_::_=>true
 |_::_,[]=>false
 |a::as,b::bs=>if a=b then uj as bs else decide (a<b)
noncomputable def tupZ (t:List Int):Dat:=.tup (t.map .int)
noncomputable def tupD:Dat->M (List Int)
 |.tup ds=>cV ds
 |_=>stk
noncomputable def qc:List Dat->M (List (List Int))
 |[]=>.ok []
 |d::ds=>(tupD d).bind fun t=>(qc ds).bind fun r=>.ok (t::r)
noncomputable def yj (ds:List Dat):M Dat:=if ds.length<64 then (match cV ds with
 |.ok is=>.ok (.lst ((rM ltZ is).map .int))
 |.error _=>(qc ds).bind fun ts=>if (ts.all fun t=> !t.isEmpty)=true then .ok (.lst ((rM uj ts).map tupZ)) else stk) else stk
noncomputable def qz:List Dat->M Dat
 |[.lst ds]=>yj ds
 |_=>stk
section
variable {lt:α->α->Bool}
structure Ord (lt:α->α->Bool):Prop where
 irr:∀a,lt a a=false
 tr:∀a b c,lt a b=true->lt b c=true->lt a c=true
 tot:∀a b,lt a b=false->lt b a=false->a=b
theorem ordZ:Ord ltZ:=⟨fun a=>by simp [ltZ],fun a b c h1 h2=>by simp [ltZ] at *;omega,fun a b h1 h2=>by simp [ltZ] at *;omega⟩
theorem Ef:Ord uj:=by
 refine ⟨fun a=>?_,fun a b c=>?_,fun a b=>?_⟩
 ·induction a with
  |nil=>rfl
  |cons x xs ih=>simp [uj,ih]
 ·induction a generalizing b c with
  |nil=>
   cases b with
   |nil=>intro h;simp [uj] at h
   |cons y ys=>
    intro _ h2;cases c with
    |nil=>simp [uj] at h2
    |cons z zs=>rfl
  |cons x xs ih=>
   intro h1 h2;cases b with
   |nil=>simp [uj] at h1
   |cons y ys=>
    cases c with
    |nil=>simp [uj] at h2
    |cons z zs=>
     simp only [uj] at h1 h2 ⊢;by_cases e1:x=y
     ·subst e1;rw [if_pos rfl] at h1;by_cases e2:x=z
      ·rw [if_pos e2] at h2 ⊢;exact ih _ _ h1 h2
      ·rw [if_neg e2] at h2 ⊢;exact h2
     ·rw [if_neg e1] at h1;have h1':x<y:=of_decide_eq_true h1;by_cases e2:y=z
      ·subst e2;rw [if_neg e1];exact h1
      ·rw [if_neg e2] at h2;have h2':y<z:=of_decide_eq_true h2;rw [if_neg (by omega)];exact decide_eq_true (by omega)
 ·induction a generalizing b with
  |nil=>
   cases b with
   |nil=>intros;rfl
   |cons y ys=>intro h;simp [uj] at h
  |cons x xs ih=>
   cases b with
   |nil=>intro _ h;simp [uj] at h
   |cons y ys=>
    intro h1 h2;simp only [uj] at h1 h2;by_cases e1:x=y
    ·subst e1;rw [if_pos rfl] at h1 h2;rw [ih _ h1 h2]
    ·rw [if_neg e1] at h1;rw [if_neg (fun z=>e1 z.symm)] at h2;have h1':=of_decide_eq_false h1;have h2':=of_decide_eq_false h2;omega
theorem ux (x:α):∀l:List α,(insL lt x l).Perm (x::l)
 |[]=>List.Perm.refl _
 |y::ys=>by
  rw [insL];split
  ·exact ((ux x ys).cons y).trans (List.Perm.swap x y ys)
  ·exact List.Perm.refl _
theorem sA:∀l:List α,(rM lt l).Perm l
 |[]=>List.Perm.refl _
 |x::xs=>(ux x _).trans ((sA xs).cons x)
theorem Ord.le_trans (o:Ord lt) {a b c:α} (h1:lt b a=false) (h2:lt c b=false):lt c a=false:=by
 cases h:lt c a with
 |false=>rfl
 |true=>
  cases h3:lt b c with
  |true=>rw [o.tr b c a h3 h] at h1;cases h1
  |false=>
   have:=o.tot c b h2 h3;subst this;rw [h] at h1;cases h1
theorem Ord.asym (o:Ord lt) {a b:α} (h:lt a b=true):lt b a=false:=by
 cases h2:lt b a with
 |false=>rfl
 |true=>have:=o.tr a b a h h2;rw [o.irr] at this;cases this
theorem uw (o:Ord lt) (x:α):∀l:List α,l.Pairwise (fun a b=>lt b a=false)->(insL lt x l).Pairwise (fun a b=>lt b a=false)
 |[],_=>by simp [insL]
 |y::ys,h=>by
  rw [insL];rw [List.pairwise_cons] at h;split
  ·rename_i hc;rw [List.pairwise_cons];refine ⟨fun b hb=>?_,uw o x ys h.2⟩
   rcases List.mem_cons.mp ((ux x ys).mem_iff.mp hb) with e|e
   ·rw [e];exact o.asym hc
   ·exact h.1 b e
  ·rename_i hc;have hc':lt y x=false:=by simpa using hc
   rw [List.pairwise_cons,List.pairwise_cons];refine ⟨fun b hb=>?_,h⟩
   rcases List.mem_cons.mp hb with e|e
   ·rw [e];exact hc'
   ·exact o.le_trans hc' (h.1 b e)
theorem oW (o:Ord lt):∀l:List α,(rM lt l).Pairwise (fun a b=>lt b a=false)
 |[]=>List.Pairwise.nil
 |x::xs=>uw o x _ (oW o xs)
theorem u4 (o:Ord lt):∀{l m:List α},l.Perm m->l.Pairwise (fun a b=>lt b a=false)->m.Pairwise (fun a b=>lt b a=false)->l=m
 |[],m,h,_,_=>(List.Perm.nil_eq h)
 |a::l,m,h,h1,h2=>by
  cases m with
  |nil=>exact absurd h.symm (by simp)
  |cons b m=>
   rw [List.pairwise_cons] at h1 h2;have e:a=b:=by
    rcases List.mem_cons.mp (h.mem_iff.mp List.mem_cons_self) with e|e
    ·exact e
    ·rcases List.mem_cons.mp (h.mem_iff.mpr List.mem_cons_self) with e2|e2
     ·exact e2.symm
     ·exact o.tot a b (h2.1 a e) (h1.1 b e2)
   subst e;rw [u4 o (List.Perm.cons_inv h) h1.2 h2.2]
end
section
open PySem.W
variable {lt:α->α->Bool}
theorem getD_get {l:List α} {d:α} (h:i<l.length):l.getD i d=l[i]:=by simp [h]
noncomputable def rk (lt:α->α->Bool) (zs:List α) (d:α) (i:Nat):Int:=((zs.filter fun z=>lt z (zs.getD i d)).length:Int)
theorem filter_lt {p q:α->Bool} (h:∀z,p z=true->q z=true):∀l:List α,(l.filter p).length<=(l.filter q).length/\((∃z∈l,p z=false/\q z=true)->(l.filter p).length<(l.filter q).length)
 |[]=>⟨Nat.le_refl _,fun ⟨_,h,_⟩=>nomatch h⟩
 |x::xs=>by
  obtain ⟨i1,i2⟩:=filter_lt h xs;cases hp:p x with
  |true=>
   have hq:=h x hp;rw [List.filter_cons_of_pos hp,List.filter_cons_of_pos hq];refine ⟨by simp;exact i1,fun ⟨z,hz,e1,e2⟩=>?_⟩
   rcases List.mem_cons.mp hz with e|e
   ·rw [e,hp] at e1;cases e1
   ·have:=i2 ⟨z,e,e1,e2⟩;simp;exact this
  |false=>
   rw [List.filter_cons_of_neg (by simp [hp])];cases hq:q x with
   |true=>
    rw [List.filter_cons_of_pos hq];exact ⟨by simp;omega,fun _=>by simp;omega⟩
   |false=>
    rw [List.filter_cons_of_neg (by simp [hq])];refine ⟨i1,fun ⟨z,hz,e1,e2⟩=>?_⟩
    rcases List.mem_cons.mp hz with e|e
    ·rw [e,hq] at e2;cases e2
    ·exact i2 ⟨z,e,e1,e2⟩
theorem rk_lt (o:Ord lt) {zs:List α} {d:α} (hi:i<zs.length) (hj:j<zs.length):ltK (rk lt zs d) i j=lt (zs.getD i d) (zs.getD j d):=by
 unfold ltK rk;have gi:zs.getD i d∈zs:=by rw [getD_get hi];exact List.getElem_mem hi
 have gj:zs.getD j d∈zs:=by rw [getD_get hj];exact List.getElem_mem hj
 cases h:lt (zs.getD i d) (zs.getD j d) with
 |true=>
  refine decide_eq_true ?_;have:=(filter_lt (p:=fun z=>lt z (zs.getD i d)) (q:=fun z=>lt z (zs.getD j d)) (fun z hz=>o.tr _ _ _ hz h) zs).2 ⟨_,gi,o.irr _,h⟩;omega
 |false=>
  refine decide_eq_false ?_;have:=(filter_lt (p:=fun z=>lt z (zs.getD j d)) (q:=fun z=>lt z (zs.getD i d)) (fun z hz=>by
   cases h3:lt z (zs.getD i d) with
   |true=>rfl
   |false=>
    have e:=o.le_trans h h3;rw [hz] at e;cases e) zs).1
  omega
theorem Ee (o:Ord lt) (zs:List α) (d:α) (h2:2<=zs.length):(gp (ltK (rk lt zs d)) (kas_sort zs.length)).toList.map (fun i=>zs.getD i d)=rM lt zs:=by
 obtain ⟨h1,hu⟩:=zR (key:=rk lt zs d) (n:=zs.length) (by omega);refine u4 o ?_ ?_ (oW o zs)
 ·refine (h1.map _).trans ?_;have:(List.range zs.length).map (fun i=>zs.getD i d)=zs:=by
   apply List.ext_getElem
   ·simp
   ·intro i h3 h4;simp [h4]
  rw [this];exact (sA zs).symm
 ·rw [List.pairwise_map,List.pairwise_iff_getElem];intro i j hi hj hij;have hn:(gp (ltK (rk lt zs d)) (kas_sort zs.length)).toList.length=zs.length:=by rw [h1.length_eq,List.length_range]
  have inr:∀k (hk:k<(gp (ltK (rk lt zs d)) (kas_sort zs.length)).toList.length),(gp (ltK (rk lt zs d)) (kas_sort zs.length)).toList[k]<zs.length:=fun k hk=>List.mem_range.mp (h1.mem_iff.mp (List.getElem_mem hk));have:=hu i j (by omega) (by omega);unfold kAt at this;have g:∀k (hk:k<(gp (ltK (rk lt zs d)) (kas_sort zs.length)).toList.length),(gp (ltK (rk lt zs d)) (kas_sort zs.length)).getD k 0=(gp (ltK (rk lt zs d)) (kas_sort zs.length)).toList[k]:=fun k hk=>by
   rw [Array.getD_eq_getD_getElem?,<- Array.getElem?_toList,List.getElem?_eq_getElem hk];rfl
  rw [g i hi,g j hj] at this;rw [<- rk_lt o (inr j hj) (inr i hi)];exact decide_eq_false (by omega)
theorem Ae:∀{zs:List α},zs.length<2->rM lt zs=zs
 |[],_=>rfl
 |[x],_=>rfl
 |_::_::_,h=>by simp at h;omega
variable {W:i4}
theorem vals_map (r:Vals xs us) (ps:List Nat) (hp:∀i∈ps,i<xs.length):Vals (ps.map fun i=>xs.getD i .non) (ps.map fun i=>us.getD i .none):=by
 refine Vals.of_get (by simp) fun k v u h1 h2=>?_;rw [List.getElem?_map] at h1 h2;cases e:ps[k]? with
 |none=>rw [e] at h1;cases h1
 |some i=>
  rw [e] at h1 h2;simp only [Option.map_some,Option.some.injEq] at h1 h2;have hi:=hp i (List.mem_of_getElem? e);have hl:=r.length;obtain ⟨u',e1,q⟩:=r.get (i:=i) (x:=xs[i]) (by simp [hi]);rw [getD_get hi] at h1;rw [List.getD_eq_getElem?_getD,e1] at h2;rw [<- h1,<- h2];exact q
theorem Bg (o:Ord lt) {Q:VK} {zs:List α} {d0:α} {enc:α->Dat} (I:Inv X pins σ H s) (hF:b9 F H) (t:SqL X.K F a xs) (r:aA X.K F (zs.map enc) xs) (h64:zs.length<64)
  (hk:∀its:List Value,Vals xs its->2<=its.length->∀h1:Heap,(∀b o,s.heap.get? b=some o->h1.get? b=some o)->Asks X.prog X.w X.A.in1.in1 (rk lt zs d0) its {s with heap:=h1})
  (p:aI X.K W true F H (.ok (.lst ((rM lt zs).map enc))) Q):wpAny (model X.prog X.w) X.A (call (.builtin "sorted") [.ref a]) (EP X pins σ Q) X.xe s:=by
 obtain ⟨its,rv,pl,hz⟩:=I.list (hF.lst t);have l1:=rv.length;have l2:=r.length;rw [List.length_map] at l2;refine Cj (key:=rk lt zs d0) pl.isList (by omega) (fun h2 h1 kp=>hk its rv h2 h1 kp) fun h' D c hD kp e=>?_;have key:∃ys,ys.length<=sizeLine/\Vals ys (sv (rk lt zs d0) its)/\aA X.K F ((rM lt zs).map enc) ys:=by
  unfold sv;by_cases h2:its.length<2
  ·rw [if_pos h2,Ae (by omega)];exact ⟨xs,hz,rv,r⟩
  ·rw [if_neg h2,show its.length=zs.length by omega];obtain ⟨h1,_⟩:=zR (key:=rk lt zs d0) (n:=zs.length) (by omega);have inr:∀i∈(gp (ltK (rk lt zs d0)) (kas_sort zs.length)).toList,i<xs.length:=fun i hi=>by
    have:=List.mem_range.mp (h1.mem_iff.mp hi);omega
   refine ⟨(gp (ltK (rk lt zs d0)) (kas_sort zs.length)).toList.map fun i=>xs.getD i .non,?_,vals_map rv _ inr,?_⟩
   ·rw [List.length_map,h1.length_eq,List.length_range];omega
   ·rw [<- Ee o zs d0 (by omega),List.map_map];refine aA.of_get (by simp) fun k dd v g1 g2=>?_;rw [List.getElem?_map] at g1 g2;cases ek:(gp (ltK (rk lt zs d0)) (kas_sort zs.length)).toList[k]? with
    |none=>rw [ek] at g1;cases g1
    |some i=>
     rw [ek] at g1 g2;simp only [Option.map_some,Option.some.injEq,Function.comp] at g1 g2;have hi:=inr i (List.mem_of_getElem? ek);obtain ⟨w,e1,q⟩:=r.get (i:=i) (d:=enc (zs[i]'(by omega))) (by simp [show i<zs.length by omega]);rw [getD_get (show i<zs.length by omega)] at g1;rw [List.getD_eq_getElem?_getD,e1] at g2;rw [<- g1,<- g2];exact q
 obtain ⟨ys,hy1,hy2,hy3⟩:=key;have I1:Inv X pins σ (upd H D (.lst ys)) {s with heap:=h'}:=I.laid (t':=s.toks) kp hD (show fX X.prog X.w _ h' D (.lst ys) from ⟨hy1,_,c,hy2,e⟩);exact ⟨.ref D,_,I1,rfl,p.lst hF hy3 (I.hok.fresh hD)⟩
theorem rk_ints (is:List Int) (i j:Nat) (hi:i<is.length) (hj:j<is.length):ltK (rk ltZ is 0) i j=decide (is.getD i 0<is.getD j 0):=rk_lt ordZ hi hj
theorem FH {is:List Int} (hi:IntsAre its is) (h2:2<=its.length):Asks prog w A (rk ltZ is 0) its s':=by
 have hl:=hi.length;obtain ⟨v1,v2,rest,rfl⟩:∃v1 v2 rest,its=v1::v2::rest:=by
  match its,h2 with
  |v1::v2::rest,_=>exact ⟨v1,v2,rest,rfl⟩
 unfold Asks;rw [keyKind_ints hi];refine wpAny_pure ⟨rfl,fun i j C h1 h2 hc=>?_⟩;unfold kas_ask;obtain ⟨t1,e1⟩:=ints_at hi i h1;obtain ⟨t2,e2⟩:=ints_at hi j h2;rw [e1,e2];rw [rk_ints is i j (by omega) (by omega)] at hc;exact kat_lt_int hc
where
 ints_at {vs:List Value} {ns:List Int} (h:IntsAre vs ns) (i:Nat) (hi:i<vs.length):∃t,vs.getD i Value.none=.int (ns.getD i 0) t:=by
  induction h generalizing i with
  |nil=>simp at hi
  |cons n t r ih=>
   cases i with
   |zero=>exact ⟨t,rfl⟩
   |succ i=>obtain ⟨t',e⟩:=ih i (by simpa using hi);exact ⟨t',by simpa using e⟩
noncomputable def lexF (f:Bool):List Int->List Int->Bool
 |a::as,b::bs=>if a=b then lexF f as bs else decide (a<b)
 |_,_=>f
theorem Bw:∀as bs:List Int,lexF (decide (as.length<bs.length)) as bs=uj as bs
 |[],[]=>rfl
 |[],_::_=>by simp [lexF,uj]
 |_::_,[]=>by simp [lexF,uj]
 |a::as,b::bs=>by
  have:=Bw as bs;simp only [lexF,uj,List.length_cons,Nat.add_lt_add_iff_right];rw [this]
theorem uq {prog:Program} {w:World} {A:Around} {s':Shared} {f:Bool} {Q:Bool->Shared->Prop}:∀{us vs:List Value} {as bs:List Int} (i:Nat),IntsAre us as->IntsAre vs bs->Q (lexF f as bs) s'->KatLex prog w A true f Q (us.zip vs) i s'
 |_,_,_,bs,_,.nil,_,h=>kat_nil (by cases bs<;>exact h)
 |_,_,_,_,_,.cons a t r,.nil,h=>kat_nil h
 |_,_,_,_,i,.cons a t r,.cons b u r',h=>by
  show KatLex prog w A true f Q ((.int a t,.int b u)::(_:List (Value×Value))) i s';refine kat_cons (SeqAt.EqAt.int_int a t b u _ _ _ _ ?_);by_cases e:a=b
  ·rw [show (a==b)=true by simpa using e];rw [lexF,if_pos e] at h;exact kat_yes (uq (i+1) r r' h)
  ·rw [show (a==b)=false by simpa using e];rw [lexF,if_neg e] at h;refine kat_no ?_;cases hb:(true&&i==0) with
   |true=>exact oneLt_int h
   |false=>exact kat_one _ _ (lt_int h)
theorem FG {ts:List (List Int)} (I:Inv X pins σ H s) (hF:b9 F H) (r:aA X.K F (ts.map tupZ) xs) (hne:(ts.all fun t=> !t.isEmpty)=true) (rv:Vals xs its) (h2:2<=its.length)
  (kp:∀b o,s.heap.get? b=some o->h1.get? b=some o):Asks X.prog X.w A (rk uj ts []) its {s with heap:=h1}:=by
 have l1:=rv.length;have l2:=r.length;rw [List.length_map] at l2;have at_:∀i,i<its.length->∃(l:Addr) (ob:Obj) (us:List Value) (n:Nat),its.getD i Value.none=.ref l/\h1.get? l=some ob/\ob.cls=.type "tuple"/\ob.data=.seq us.toArray n/\IntsAre us (ts.getD i []):=fun i hi=>by
  obtain ⟨v,e1,l,ys,e2,tq,rr⟩:=r.get (i:=i) (d:=tupZ (ts[i]'(by omega))) (by simp [show i<ts.length by omega]);subst e2;obtain ⟨u,e3,ru⟩:=rv.get e1;cases ru;obtain ⟨us,ru,pl,_⟩:=I.tuple (hF.tup tq);obtain ⟨ob,h3,h4,n,h5⟩:=pl;have e4:ys=(ts[i]'(by omega)).map V.int:=ki rr (mi _);rw [e4] at ru;exact ⟨l,ob,us,n,by rw [List.getD_eq_getElem?_getD,e3];rfl,kp _ _ h3,h4,h5,by rw [getD_get (show i<ts.length by omega)];exact intsAre_of ru⟩
 have tups:∀(k:Nat),k<=its.length->∃fs,KatTups h1 (its.drop (its.length-k)) fs/\fs.length=k/\∀v∈fs,∃i t,v=Value.int i t:=by
  intro k
  induction k with
  |zero=>intro _;exact ⟨[],by rw [Nat.sub_zero,List.drop_length];exact KatTups.nil,rfl,fun _ h=>nomatch h⟩
  |succ k ih=>
   intro hk;obtain ⟨fs,q1,q2,q3⟩:=ih (by omega);have hi:its.length-(k+1)<its.length:=by omega
   obtain ⟨l,ob,us,n,e1,e2,e3,e4,e5⟩:=at_ _ hi;have hn:(ts.getD (its.length-(k+1)) [])≠[]:=by
    rw [getD_get (show its.length-(k+1)<ts.length by omega)];have:=List.all_eq_true.mp hne _ (List.getElem_mem (show its.length-(k+1)<ts.length by omega));simpa using this
   obtain ⟨z,ez⟩:∃z,ts.getD (its.length-(k+1)) []=z:=⟨_,rfl⟩
   rw [ez] at e5 hn;obtain ⟨f,fr,ef,hf⟩:∃f fr,us=f::fr/\∃i t,f=Value.int i t:=by
    cases e5 with
    |nil=>exact absurd rfl hn
    |cons m t r=>exact ⟨_,_,rfl,_,_,rfl⟩
   refine ⟨f::fs,?_,by simp [q2],fun v hv=>?_⟩
   ·rw [List.drop_eq_getElem_cons hi];rw [show its.length-(k+1)+1=its.length-k by omega];rw [getD_get hi] at e1;rw [e1];exact KatTups.cons e2 e3 e4 (by rw [ef];rfl) q1
   ·rcases List.mem_cons.mp hv with e|e
    ·rw [e];exact hf
    ·exact q3 v e
 obtain ⟨fs,q1,q2,q3⟩:=tups its.length (Nat.le_refl _);rw [Nat.sub_self,List.drop_zero] at q1;unfold Asks;refine kat_kind (s:={s with heap:=h1}) (T:=.type "int") q1 (by omega) (fun v hv=>?_) rfl ⟨rfl,fun i j C hi hj hc=>?_⟩
 ·obtain ⟨i,t,e⟩:=q3 v hv;rw [e];exact Looks.of_pure rfl
 ·unfold kas_ask;obtain ⟨x1,o1,us,n1,e1,g1,_,d1,a1⟩:=at_ i hi;obtain ⟨x2,o2,vs,n2,e2,g2,_,d2,a2⟩:=at_ j hj;rw [e1,e2];rw [rk_lt Ef (show i<ts.length by omega) (show j<ts.length by omega)] at hc;refine kat_lt (s:={s with heap:=h1}) g1 d1 g2 d2 (uq 0 a1 a2 ?_);rw [List.size_toArray,List.size_toArray,a1.length,a2.length,Bw];exact hc
theorem Bb {F:Hp} {t:List Int} (h:tupD d=.ok t):d=tupZ t:=by
 cases d with
 |tup ds=>
  have:∀{ds:List Dat} {t:List Int},cV ds=.ok t->ds=t.map .int:=by
   intro ds
   induction ds with
   |nil=>intro t h;cases h;rfl
   |cons d ds ih=>
    intro t h;cases d with
    |int i=>
     cases e:cV ds with
     |error x=>simp only [cV,asI,az,e,nA] at h;cases h
     |ok r=>
      simp only [cV,asI,az,e] at h;cases h;rw [ih e];rfl
    |_=>cases h
  unfold tupZ;rw [this h]
 |_=>cases h
theorem EJ:∀{ds:List Dat} {t:List Int},cV ds=.ok t->ds=t.map .int:=fun {ds t} h=>by
 have:=Bb (F:=fun _=>none) (d:=.tup ds) (t:=t) h;unfold tupZ at this;injection this
theorem y0:∀{ds:List Dat} {ts:List (List Int)},qc ds=.ok ts->ds=ts.map tupZ
 |[],_,h=>by cases h;rfl
 |d::ds,ts,h=>by
  cases e:tupD d with
  |error x=>simp only [qc,e,nA] at h;cases h
  |ok t=>
   cases e2:qc ds with
   |error x=>simp only [qc,e,az,e2,nA] at h;cases h
   |ok r=>
    simp only [qc,e,az,e2] at h;cases h;rw [Bb (F:=fun _=>none) e,y0 e2];rfl
theorem yb:∀{ds:List Dat} {e:Err},qc ds=.error e->e=.stuck
 |[],_,h=>by cases h
 |d::ds,e,h=>by
  cases e1:tupD d with
  |error x=>
   simp only [qc,e1,nA] at h;cases h;cases d with
   |tup ds=>exact mj e1
   |_=>cases e1;rfl
  |ok t=>
   cases e2:qc ds with
   |error x=>simp only [qc,e1,az,e2,nA] at h;cases h;exact yb e2
   |ok r=>simp only [qc,e1,az,e2] at h;cases h
theorem BZ (hK:X.K=K:=by rfl):uY K W true X (.builtin "sorted") qz:=by
 subst hK;intro pins s σ H xs us Q I rr h;obtain ⟨F,d,x,s1,e,q,p⟩:=u6 (fun ds=>by match ds with|[d]=>exact .inl ⟨d,rfl⟩|[]=>exact .inr rfl|a::b::c=>exact .inr (by cases a<;>rfl)) h;subst e;obtain ⟨u,rfl,ru⟩:=rr.one;cases d with
 |lst ds=>
  obtain ⟨a,ys,e1,t,r⟩:=q;subst e1;cases ru;have p':aI X.K W true F H (yj ds) Q:=p;unfold yj at p';by_cases h64:ds.length<64
  ·rw [if_pos h64] at p';cases ei:cV ds with
   |ok is=>
    rw [ei] at p';have ed:=EJ ei;subst ed;refine Bg ordZ (d0:=0) I s1 t r (by simpa using h64) (fun its rv h2 h1 kp=>?_) p';have e2:ys=is.map V.int:=ki r ei;subst e2;exact FH (intsAre_of rv) h2
   |error z=>
    rw [ei] at p';have p2:aI X.K W true F H ((qc ds).bind fun ts=>if (ts.all fun t=> !t.isEmpty)=true then .ok (.lst ((rM uj ts).map tupZ)) else stk) Q:=p';cases et:qc ds with
    |error z2=>rw [et] at p2;have:=yb et;subst this;exact aI.stuck p2
    |ok ts=>
     rw [et] at p2;have ed:=y0 et;subst ed;have p3:aI X.K W true F H (if (ts.all fun t=> !t.isEmpty)=true then .ok (.lst ((rM uj ts).map tupZ)) else stk) Q:=p2;by_cases hne:(ts.all fun t=> !t.isEmpty)=true
     ·rw [if_pos hne] at p3;exact Bg Ef (d0:=[]) I s1 t r (by simpa using h64) (fun its rv h2 h1 kp=>FG I s1 r hne rv h2 kp) p3
     ·rw [if_neg hne] at p3;exact aI.stuck p3
  ·rw [if_neg h64] at p';exact aI.stuck p'
 |_=>exact aI.stuck p
end
noncomputable def cX (n d:Nat):Option Int->Nat
 |none=>d
 |some v=>if v<0 then (v+(n:Int)).toNat else min v.toNat n
noncomputable def xD (xs:List α) (lo hi:Option Int):List α:=(xs.drop (cX xs.length 0 lo)).take (cX xs.length xs.length hi-cX xs.length 0 lo)
noncomputable def Bh:Dat->Option Int->Option Int->M Dat
 |.lst ds,lo,hi=>.ok (.lst (xD ds lo hi))
 |.tup ds,lo,hi=>if (decide (cX ds.length 0 lo=0)&&decide (cX ds.length ds.length hi=ds.length))=true then stk else .ok (.tup (xD ds lo hi))
 |_,_,_=>stk
noncomputable def pNone:ak->M (Option Int):=fun _=>.ok none
noncomputable def wW (f:ak->M Dat):ak->M (Option Int):=fun ρ=>(f ρ).bind fun d=>(asI d).bind fun i=>.ok (some i)
noncomputable def fSl (g:Dat->Option Int->Option Int->M Dat) (fa:ak->M Dat) (fl fu:ak->M (Option Int)):ak->M Dat:=fun ρ=>(fa ρ).bind fun a=>(fl ρ).bind fun l=>(fu ρ).bind fun u=>g a l u
noncomputable def notBD:Dat->Dat->M Dat
 |.bl a,.bl b=>.ok (.bl (a != b))
 |.non,.bl _=>.ok (.bl true)
 |.int _,.bl _=>.ok (.bl true)
 |.str _,.bl _=>.ok (.bl true)
 |.lst _,.bl _=>.ok (.bl true)
 |.tup _,.bl _=>.ok (.bl true)
 |_,_=>stk
section
variable {W:i4} {own:Bool} {a d:Expr} {lo hi:Option Expr} {t u:Pos} {f:ak->M Dat} {fu:ak->M (Option Int)}
noncomputable def tDO (K:Pn) (W:i4) (f:ak->M (Option Int)):TO:=fun σ H Q=>∃F ρ,sQ K F σ ρ/\b9 F H/\(match f ρ with
 |.ok o=>∀F' H',Step F H F' H'->Q o H'
 |.error e=>W.p e F H)
theorem Dz {R:Option Int->Hp->Prop} (r:sQ K F σ ρ) (s:b9 F H) (hE:∀e,fl ρ=.error e->W.p e F H) (hO:∀o,fl ρ=.ok o->∀F1 H1,Step F H F1 H1->R o H1):tDO K W fl σ H R:=by
 refine ⟨F,ρ,r,s,?_⟩
 cases e:fl ρ with
 |ok d=>exact hO d e
 |error x=>exact hE x e
noncomputable abbrev DP (K:Pn) (W:i4) (X:Cx) (e:Option Expr) (f:ak->M (Option Int)):Prop:=PO X e (tDO K W f)
theorem PO.imp {t t':TO} (h:PO X lo t) (q:∀σ H Q,t' σ H Q->t σ H Q):PO X lo t':=fun pins s σ H Q I z=>h pins s σ H Q I (q σ H Q z)
theorem dp_none:DP K W X none pNone:=po_none.imp fun σ H Q ⟨F,ρ,r,s,p⟩=>p F H (Step.refl s)
theorem xx (h:DE K W false X e f):DP K W X (some e) (wW f):=(po_some h).imp fun σ H Q ⟨F,ρ,r,s,p⟩=>by
 refine bL r s (fun e he=>?_) fun d hd v F1 H1 s1 q1=>?_
 ·have z:wW f ρ=.error e:=by unfold wW;rw [he];rfl
  rw [z] at p;exact p
 ·have z:wW f ρ=(asI d).bind fun i=>.ok (some i):=by unfold wW;rw [hd];rfl
  rw [z] at p;cases d with
  |int i=>exact ⟨i,q1,p F1 H1 s1⟩
  |_=>exact (W.ns p).elim
noncomputable def rDS (K:Pn) (W:i4) (own:Bool) (g:Dat->Option Int->Option Int->M Dat):V->Option Int->Option Int->Hp->VK->Prop:=fun x lo hi H Q=>∃F a,b9 F H/\bQ K F a x/\aI K W own F H (g a lo hi) Q
theorem rd_sl {g:Dat->Option Int->Option Int->M Dat} {Q:VK} (h:tD K W own (fSl g fa fl fu) σ H Q):tSl (rDS K W own g) (tD K W false fa) (tDO K W fl) (tDO K W fu) σ H Q:=by
 obtain ⟨F,ρ,r,s,p⟩:=h;refine bL r s (fun e he=>p.err (by unfold fSl;rw [he];rfl)) fun a ha x F1 H1 s1 q1=>?_;refine Dz (r.mono s1.ff) s1.fh (fun e he=>(p.step s1).err (by unfold fSl;rw [ha];show (fl ρ).bind _=_;rw [he];rfl)) fun l hl F2 H2 s2=>?_;refine Dz ((r.mono s1.ff).mono s2.ff) s2.fh (fun e he=>(p.step (s1.trans s2)).err (by unfold fSl;rw [ha];show (fl ρ).bind _=_;rw [hl];show (fu ρ).bind _=_;rw [he];rfl)) fun u hu F3 H3 s3=>?_;refine ⟨F3,a,s3.fh,bQ.mono (s2.trans s3).ff q1,?_⟩
 have e:fSl g fa fl fu ρ=g a l u:=by unfold fSl;rw [ha];show (fl ρ).bind _=_;rw [hl];show (fu ρ).bind _=_;rw [hu];rfl
 rw [e] at p;exact p.step ((s1.trans s2).trans s3)
theorem de_sl {g:Dat->Option Int->Option Int->M Dat} (hr:SlR X (rDS K W own g)) (ha:DE K W false X a fa) (hl:DP K W X lo fl) (hu:DP K W X hi fu):DE K W own X (.Subscript a (.Slice lo hi none p2) pos) (fSl g fa fl fu):=(pe_slice hr ha hl hu).imp fun _ _ _=>rd_sl
theorem C3 (n d:Nat) (o:Option Int):cX n d o=HT.sIx n d o:=by cases o<;>rfl
theorem aA.cut {l u:Option Int} (h:aA K F ds xs):aA K F (xD ds l u) (cutV xs l u):=by
 unfold xD cutV;rw [C3,C3,h.length];exact aA.take _ (aA.drop _ h)
theorem x_sl (hK:X.K=K:=by rfl):SlR X (rDS K W true Bh):=by
 subst hK;intro pins s σ H x v vl vu lo hi sl Q I rx hs pl pu h;refine (SlR.or sl_list sl_tup) pins s σ H x v vl vu lo hi sl Q I rx hs pl pu ?_;obtain ⟨F,a,s1,qa,p⟩:=h;cases a with
 |lst ds=>
  obtain ⟨l,xs,e,t,z⟩:=qa;exact .inl ⟨l,xs,e,s1.lst t,fun r hr=>aI.lst p s1 z.cut hr⟩
 |tup ds=>
  obtain ⟨l,xs,e,t,z⟩:=qa;have p':aI X.K W true F H (if (decide (cX ds.length 0 lo=0)&&decide (cX ds.length ds.length hi=ds.length))=true then stk else .ok (.tup (xD ds lo hi))) Q:=p;by_cases hc:(decide (cX ds.length 0 lo=0)&&decide (cX ds.length ds.length hi=ds.length))=true
  ·rw [if_pos hc] at p';exact p'.stuck
  ·rw [if_neg hc] at p';refine .inr ⟨l,xs,e,s1.tup t,fun hw=>hc ?_,fun r hr=>aI.tup p' s1 z.cut hr⟩;rw [C3,C3,<- z.length];simp only [Bool.and_eq_true,decide_eq_true_eq];exact hw
 |_=>exact aI.stuck p
theorem o_notB:Op2 K W own X (compareOp .IsNot) notBD:=by
 intro pins s σ H x y v u Q I rx ry h;obtain ⟨F,a,b,s1,qa,qb,p⟩:=h;cases b with
 |bl k=>
  cases (show y=.bl k from qb);cases ry;cases a with
  |bl j=>cases (show x=.bl j from qa);cases rx;exact isnot_bool (eV I (aI.bl p s1) rfl)
  |non=>cases (show x=.non from qa);cases rx;exact wpAny_pure (eV I (aI.bl p s1) rfl)
  |int j=>cases (show x=.int j from qa);obtain ⟨t,rfl⟩:=rx;exact wpAny_pure (eV I (aI.bl p s1) rfl)
  |str j=>cases (show x=.str j from qa);obtain ⟨t,rfl⟩:=rx;exact wpAny_pure (eV I (aI.bl p s1) rfl)
  |lst ds=>obtain ⟨l,xs,e,_⟩:=qa;subst e;cases rx;exact wpAny_pure (eV I (aI.bl p s1) rfl)
  |tup ds=>obtain ⟨l,xs,e,_⟩:=qa;subst e;cases rx;exact wpAny_pure (eV I (aI.bl p s1) rfl)
  |ins C fs=>exact aI.stuck p
  |dic ks=>exact aI.stuck p
 |_=>cases a<;>exact aI.stuck p
end
section
variable {fu:ak->M (Option Int)}
@[simp] theorem e_pNone:pNone ρ=.ok none:=id rfl
@[simp] theorem e_pSome:wW fa ρ=(fa ρ).bind fun d=>(asI d).bind fun i=>.ok (some i):=id rfl
@[simp] theorem e_slF (k:Dat->Option Int->Option Int->M Dat):fSl k fa fl fu ρ=(fa ρ).bind fun a=>(fl ρ).bind fun l=>(fu ρ).bind fun u=>k a l u:=id rfl
@[simp] theorem e_sliceL (ds:List Dat) (lo hi:Option Int):Bh (.lst ds) lo hi=.ok (.lst (xD ds lo hi)):=id rfl
@[simp] theorem e_pow {i j:Int} (h0:0<=j) (h1:j<=1000000) (h2:i.natAbs<2^64):rA (.int i) (.int j)=.ok (.int (i^j.toNat)):=by
 show (if (decide (0<=j)&&decide (j<=1000000)&&decide (i.natAbs<2^64))=true then _ else _)=_;rw [if_pos (by simp only [Bool.and_eq_true,decide_eq_true_eq];exact ⟨⟨h0,h1⟩,h2⟩)]
@[simp] theorem e_eqII (i j:Int):eqM (.int i) (.int j)=.ok (.bl (decide (i=j))):=by
 show Except.ok (Dat.bl (i==j))=_;rw [show (i==j)=decide (i=j) from rfl]
@[simp] theorem cut_take {α:Type} (xs:List α) {j:Int} (h:0<=j):xD xs none (some j)=xs.take j.toNat:=by
 unfold xD cX;simp only [if_neg (show ¬j<0 by omega),List.drop_zero,Nat.sub_zero];rcases Nat.le_total j.toNat xs.length with h1|h1
 ·rw [Nat.min_eq_left h1]
 ·rw [Nat.min_eq_right h1,List.take_length,List.take_of_length_le h1]
end
noncomputable def DM:Dat->M Dat
 |.lst ds=>.ok (.lst ds.reverse)
 |_=>stk
section
variable {W:i4} {a d:Expr} {tp:TO} {p3 p4 t:Pos} {f:ak->M Dat}
theorem BF {α:Type}:∀l:List α,(List.range l.length).filterMap (fun k=>l[k]?)=l
 |[]=>rfl
 |a::l=>by
  rw [List.length_cons,List.range_succ_eq_map,List.filterMap_cons,List.filterMap_map];simp only [List.getElem?_cons_zero]
  congr 1
  exact BF l
theorem BG {α β:Type} {f g:α->Option β}:∀{l:List α},(∀a∈l,f a=g a)->l.filterMap f=l.filterMap g
 |[],_=>rfl
 |a::l,h=>by rw [List.filterMap_cons,List.filterMap_cons,h a (by simp),BG fun x hx=>h x (by simp [hx])]
theorem wF (its:List Value):slicePick its.toArray none none (some (-1))=its.reverse.toArray:=by
 unfold slicePick sliceBounds sliceRange;simp only [Option.getD_some,List.size_toArray]
 congr 1
 have hc:(if ((its.length:Int)-1)> -1 then ((its.length:Int)-1- -1- -1-1)/(- -1) else 0).toNat=its.length:=by
  by_cases h:((its.length:Int)-1)> -1
  ·rw [if_pos h,show (- -1:Int)=1 by decide,Int.ediv_one];omega
  ·rw [if_neg h];omega
 simp only [show ¬((-1:Int)>0) by decide,if_false,hc,List.filterMap_map];have e:=BF its.reverse;rw [List.length_reverse] at e;refine Eq.trans ?_ e;refine BG fun k hk=>?_;have hk:=List.mem_range.mp hk;show its.toArray[_]? =_;rw [List.getElem?_toArray,List.getElem?_reverse hk]
 congr 1
 show ((its.length:Int)-1+ -1*(k:Int)).toNat=_;omega
noncomputable def tRv (r:V->Hp->VK->Prop) (te:TE) (tp:TO):TE:=fun σ H Q=>te σ H fun x H1=>tp σ H1 fun o H2=>o=some (-1)/\r x H2 Q
noncomputable def rRevL (K:Pn):V->Hp->VK->Prop:=fun x H Q=>∃a xs,x=.ref a/\SqL K H a xs/\∀p,H p=none->Q (.ref p) (upd H p (.lst xs.reverse))
theorem pe_rev (he:PE X e te) (hp:PO X (some d) tp):PE X (.Subscript e (.Slice none none (some d) p2) pos) (tRv (rRevL X.K) te tp):=by
 intro pins s σ H Q I h;refine Subscript_ (thn (he pins s σ H _ I h) fun v s1 ⟨x,H1,I1,r1,q1⟩=>?_);refine wpAny_Slice ?_;rw [evalPart_none];refine wpAny_pure (wpAny_pure (thn (hp pins s1 σ H1 _ I1 q1) fun vp s3 ⟨o,H3,I3,pp,q3⟩=>?_));obtain ⟨rfl,l,xs,rfl,hx,q⟩:=q3;cases r1;have I4:Inv X pins σ H3 {s3 with heap:=s3.heap.push {cls:=.type "slice",data:=.fields #[.none,.none,vp]}}:=I3.kept (t':=s3.toks) fun b ob q=>Heap.get?_push_of_some _ q;obtain ⟨its,r,ht,hz⟩:=I4.list hx;have hlen:=r.length;have hg:wpAny (model X.prog X.w) X.A (getItem (.ref l) (.ref s3.heap.objs.size)) (EP X pins σ Q) X.xe {s3 with heap:=s3.heap.push {cls:=.type "slice",data:=.fields #[.none,.none,vp]}}:=by
  refine wpAny_getItem_list_slice ht.isList (Heap.IsSliceOf.new ..) .none .none pp (by decide) ?_ (by rw [List.size_toArray]<;>omega);rw [wF];refine ⟨.ref (s3.heap.push {cls:=.type "slice",data:=.fields #[.none,.none,vp]}).objs.size,_,I4.laid (t':=s3.toks) (o:=.lst xs.reverse) (fun b ob q=>Heap.get?_push_of_some _ q) (Nat.le_refl _) ?_,rfl,q _ (I4.hok.fresh (Nat.le_refl _))⟩
  exact ⟨by rw [List.length_reverse];exact hz,_,0,r.reverse,Heap.get?_push_size _ rfl⟩
 show wpAny (model X.prog X.w) X.A (subscriptTail e (.Slice none none (some d) p2) (.ref l) (.ref s3.heap.objs.size)) (EP X pins σ Q) X.xe {s3 with heap:=s3.heap.push {cls:=.type "slice",data:=.fields #[.none,.none,vp]}};exact tail_any (ops:=[.ref l,.ref s3.heap.objs.size]) ht.isList.typeIs slot_list_getitem.lookup hg (by with_unfolding_all rfl)
theorem BP {j} (ha:DE K W false X a fa) (hK:X.K=K:=by rfl):DE K W true X (.Subscript a (.Slice none none (some (.UnaryOp .USub (.Constant (.int 1) j p3) p4)) p2) pos) (f1 DM fa):=by
 subst hK;refine PE.imp (pe_rev ha (xx (K:=X.K) (W:=W) (Ap A8 aa))) fun σ H Q h=>?_;obtain ⟨F,ρ,r,s,p⟩:=h;refine bL r s (fun e he=>p.err (by unfold f1;rw [he];rfl)) fun a ha x F1 H1 s1 q1=>?_;refine ⟨F1,ρ,r.mono s1.ff,s1.fh,?_⟩
 show ∀F' H',Step F1 H1 F' H'->_;intro F2 H2 s2;refine ⟨rfl,?_⟩
 have e:f1 DM fa ρ=DM a:=by unfold f1;rw [ha];rfl
 rw [e] at p;have p:=p.step (s1.trans s2);cases a with
 |lst ds=>
  obtain ⟨l,xs,e,t,z⟩:=q1;exact ⟨l,xs,e,s2.fh.lst (s2.ff.lst t),fun r hr=>aI.lst p s2.fh (aA.reverse (z.mono s2.ff)) hr⟩
 |_=>exact aI.stuck p
end
noncomputable def xJ (Cs:List Addr) (x:Str):Dat->M Dat
 |.ins C fs=>if Cs.contains C=true then (match fs.lookup x with
  |some d=>.ok d
  |none=>stk) else stk
 |_=>stk
noncomputable def isC (C:Addr) (m:Str):Dat->Bool
 |.ins D fs=>(D==C)&&(fs.lookup m).isNone
 |_=>false
noncomputable def sJ (C:Addr) (m:Str) (g:List Dat->M Dat) (fo:ak->M Dat) (fr:ak->M (List Dat)):ak->M Dat:=fun ρ=>(fo ρ).bind fun o=>if isC C m o=true then (fr ρ).bind fun as=>g (o::as) else stk
noncomputable def lp (C C2:Addr) (m:Str) (g g2:List Dat->M Dat) (fo:ak->M Dat) (fr:ak->M (List Dat)):ak->M Dat:=fun ρ=>(fo ρ).bind fun o=>if isC C m o=true then (fr ρ).bind fun as=>g (o::as) else if isC C2 m o=true then (fr ρ).bind fun as=>g2 (o::as) else stk
noncomputable def newR (C:Addr) (g:List Dat->M Dat):List Dat->M Dat
 |[d]=>(g [d]).bind fun r=>.ok (.ins C [("gaps",r)])
 |_=>stk
noncomputable def twoL:Dat->Dat->Bool
 |.lst xs,.lst ys=>decide (xs.length=ys.length)
 |_,_=>false
noncomputable def newP (C:Addr) (g:List Dat->M Dat):List Dat->M Dat
 |[d,e]=>(g [d]).bind fun r=>(g [e]).bind fun r2=>if twoL r r2=true then .ok (.ins C [("gaps",r),("beside",r2)]) else stk
 |_=>stk
noncomputable def sStk:ak->M Flo:=fun _=>stk
section
variable {W:i4} {own:Bool} {o a d:Expr} {m:Str} {f:ak->M Dat} {fr:ak->M (List Dat)} {C2:Addr} {Cs:List Addr}
theorem BN:DS K W ro X OL O O' st sStk:=fun F0 H0 pins s σ H D I h=>by
 obtain ⟨FB,F,ρ,r,p⟩:=h;exact p.stuck rfl
theorem uX.at {F:Hp} {x:Str}:∀{gs:List (Str×Dat)} {fs:List (Str×V)},uX K F gs fs->(∀d,gs.lookup x=some d->∃v,fs.lookup x=some v/\bQ K F d v)/\(gs.lookup x=none->fs.lookup x=none)
 |[],fs,h=>by cases (show fs=[] from h);exact ⟨fun d h=>by simp at h,fun _=>rfl⟩
 |(g,d)::gs,fs,h=>by
  obtain ⟨v,r,rfl,h1,h2⟩:=h;have ih:=uX.at (x:=x) h2;rw [List.lookup_cons,List.lookup_cons];cases e:x==g with
  |true=>exact ⟨fun d' h'=>by cases h';exact ⟨v,rfl,h1⟩,fun h'=>by cases h'⟩
  |false=>exact ih
theorem Fh (hC:∀C∈Cs,Cls K C/\oq K C y) (he:DE K W false X e fa) (hb:attributeBase e y X.env (eval e X.env)=eval e X.env:=by rfl) (hK:X.K=K:=by rfl):DE K W false X (.Attribute e y pos) (f1 (xJ Cs y) fa):=by
 subst hK;refine (Ed he hb).imp fun σ H Q h=>?_;obtain ⟨F,ρ,r,s,p⟩:=h;refine bL r s (fun e he=>p.err (by unfold f1;rw [he];rfl)) fun a ha x F1 H1 s1 q1=>?_;have ez:f1 (xJ Cs y) fa ρ=xJ Cs y a:=by unfold f1;rw [ha];rfl
 rw [ez] at p;cases a with
 |ins C gs=>
  obtain ⟨l,dx,fs,e1,ea,df⟩:=q1;have p':aI X.K W false F H (if Cs.contains C=true then (match gs.lookup y with
   |some d=>.ok d
   |none=>stk) else stk) Q:=p
  by_cases hc:Cs.contains C=true
  ·rw [if_pos hc] at p';obtain ⟨h1,h2⟩:=hC C (by simpa using hc);cases hl:gs.lookup y with
   |none=>rw [hl] at p';exact aI.stuck p'
   |some d=>
    rw [hl] at p';obtain ⟨v,hv,hd⟩:=df.at.1 d hl;exact ⟨l,C,dx,fs,v,e1,s1.fh _ _ ea,h1,h2,hv,(p'.step s1) v F1 H1 (Step.refl s1.fh) hd⟩
  ·rw [if_neg hc] at p';exact aI.stuck p'
 |_=>exact aI.stuck p
theorem PE.or {t1 t2:TE} (h1:PE X e t1) (h2:PE X e t2):PE X e (fun σ H Q=>t1 σ H Q\/t2 σ H Q):=fun pins s σ H Q I h=>h.elim (h1 pins s σ H Q I) (h2 pins s σ H Q I)
theorem rd_meth {Q:VK} (h:tD K Wno ro (sJ C m (cb nN n g) fo fr) σ H Q):tMeth C m (spF K ro (cb nN n g) n) [] E0 (tD K Wno false fo) (tDA K Wno fr) σ H Q:=by
 obtain ⟨F,ρ,r,s,p⟩:=h;refine bL r s (fun e he=>p.err (by unfold sJ;rw [he];rfl)) fun o ho x F1 H1 s1 q1=>?_;have ez:sJ C m (cb nN n g) fo fr ρ=if isC C m o=true then (fr ρ).bind fun as=>cb nN n g (o::as) else stk:=by unfold sJ;rw [ho];rfl
 rw [ez] at p;by_cases hc:isC C m o=true
 ·rw [if_pos hc] at p;cases o with
  |ins D gs=>
   obtain ⟨l,dx,fs,e1,ea,df⟩:=id q1;have hc':((D==C)&&(gs.lookup m).isNone)=true:=hc;rw [Bool.and_eq_true] at hc';obtain ⟨hD,hn⟩:=hc';have hD:D=C:=by simpa using hD
   subst hD;refine ⟨l,dx,fs,e1,s1.fh _ _ ea,df.at.2 (by simpa using hn),?_⟩
   have p:=p.step s1;refine oz (r.mono s1.ff) s1.fh (fun e he=>p.err (by rw [he];rfl)) fun as has vs F2 H2 s2 qs=>?_;rw [has] at p;have p:aI K Wno ro F1 H1 (cb nN n g (.ins D gs::as)) Q:=p;have p:=p.step s2;show spF K ro (cb nN n g) n (x::(vs++[])) H2 Q E0;rw [List.append_nil];by_cases hl:(Dat.ins D gs::as).length=n
   ·exact ⟨F2,.ins D gs::as,s2.fh,⟨x,vs,rfl,bQ.mono s2.ff q1,qs⟩,hl,p⟩
   ·rw [rH hl] at p;exact aI.stuck p
  |_=>cases hc
 ·rw [if_neg hc] at p;exact aI.stuck p
theorem rd_meth2 {Q:VK} (h:tD K Wno ro (lp C C2 m (cb nN n g) (cb nN2 n2 g2) fo fr) σ H Q) :
  tD K Wno ro (sJ C m (cb nN n g) fo fr) σ H Q\/tD K Wno ro (sJ C2 m (cb nN2 n2 g2) fo fr) σ H Q:=by
 obtain ⟨F,ρ,r,s,p⟩:=h;cases ho:fo ρ with
 |error e=>
  refine .inl ⟨F,ρ,r,s,?_⟩;have e1:lp C C2 m (cb nN n g) (cb nN2 n2 g2) fo fr ρ=.error e:=by unfold lp;rw [ho];rfl
  have e2:sJ C m (cb nN n g) fo fr ρ=.error e:=by unfold sJ;rw [ho];rfl
  rw [e1] at p;rw [e2];exact p
 |ok o=>
  have e1:lp C C2 m (cb nN n g) (cb nN2 n2 g2) fo fr ρ=if isC C m o=true then (fr ρ).bind fun as=>cb nN n g (o::as) else if isC C2 m o=true then (fr ρ).bind fun as=>cb nN2 n2 g2 (o::as) else stk:=by unfold lp;rw [ho];rfl
  have e2:sJ C m (cb nN n g) fo fr ρ=if isC C m o=true then (fr ρ).bind fun as=>cb nN n g (o::as) else stk:=by unfold sJ;rw [ho];rfl
  have e3:sJ C2 m (cb nN2 n2 g2) fo fr ρ=if isC C2 m o=true then (fr ρ).bind fun as=>cb nN2 n2 g2 (o::as) else stk:=by unfold sJ;rw [ho];rfl
  rw [e1] at p;by_cases hc:isC C m o=true
  ·rw [if_pos hc] at p e2;exact .inl ⟨F,ρ,r,s,by rw [e2];exact p⟩
  ·rw [if_neg hc] at p;exact .inr ⟨F,ρ,r,s,by rw [e3];exact p⟩
noncomputable def MethEq (X:Cx) (o:Expr) (m:Str) (apos:Pos) (es:List Expr) (pos:Pos) (pl:Sem Bool):Prop:=eval (.Call (.Attribute o m apos) es [] pos) X.env=(do let ov <- eval o X.env;standAt apos.atName;let (f,first) <- holding [ov] (getMethod ov m pl);callWith pos f first (backTo pos (starEach es X.env)) (backToKw pos (keywordEach [] X.env)))
section
variable {fad2:Addr} {fd2:FuncData} 
theorem Bn (c:Cls X.K C) (M:Meth X.K C m fad) (F:cm X.prog X.w X.K X.mg X.base CX0 k fad fd ps (spF X.K ro (cb nN n g) n)) (hr:mz k X.A) (hb:Binds X.K fd ps []) (ho:DE X.K Wno false X o fo) (ha:DA X.K Wno X (e::es) fr)
  (hst:starEach (e::es) X.env=(false,eval e X.env)::starEach es X.env) (hpl:(backTo pos (starEach es X.env)).any (·.1)=false) (ht:MethEq X o m apos (e::es) pos pl):DE X.K Wno ro X (.Call (.Attribute o m apos) (e::es) [] pos) (sJ C m (cb nN n g) fo fr):=
 (pe_meth (pl:=pl) ho c M F hr hb .nil A4 ha hst hpl ht).imp fun _ _ _=>rd_meth
theorem BR {k2:Nat} {ps2:List Str} (c:Cls K C) (M:Meth K C m fad) (F:cm X.prog X.w X.K X.mg X.base CX0 k fad fd ps (spF K ro (cb nN n g) n)) (hr:mz k X.A) (hb:Binds X.K fd ps [])
  (c2:Cls K C2) (M2:Meth K C2 m fad2) (F2:cm X.prog X.w X.K X.mg X.base CX0 k2 fad2 fd2 ps2 (spF K ro (cb nN2 n2 g2) n2)) (hr2:mz k2 X.A) (hb2:Binds X.K fd2 ps2 []) (ho:DE K Wno false X o fo) (ha:DA K Wno X (e::es) fr)
  (hK:X.K=K:=by rfl) (hst:starEach (e::es) X.env=(false,eval e X.env)::starEach es X.env:=by rfl) (hpl:(backTo pos (starEach es X.env)).any (·.1)=false:=by rfl) (ht:MethEq X o m apos (e::es) pos pl:=by rfl) :
  DE K Wno ro X (.Call (.Attribute o m apos) (e::es) [] pos) (lp C C2 m (cb nN n g) (cb nN2 n2 g2) fo fr):=by
 subst hK;exact (PE.or (Bn c M F hr hb ho ha hst hpl ht) (Bn c2 M2 F2 hr2 hb2 ho ha hst hpl ht)).imp fun _ _ _=>rd_meth2
end
noncomputable def spI1 (K:Pn) (C:Addr) (g:List Dat->M Dat):Sp:=fun vs H Q _=>∃p dx v F d,vs=[.ref p,v]/\H p=some (.ins C dx [])/\F p=none/\b9 F H/\bQ K F d v/\(match g [d] with
 |.ok r=>∀w F' H',b9 F F'->b9 F' H'->F' p=none->(∀b o,F' b=some o->F b=some o\/H b=none)->(∀c o,H c=some o->c≠p->H' c=some o)->H' p=some (.ins C dx [("gaps",w)])->bQ K F' r w->Q .non H'
 |.error e=>Wno.p e F H)
noncomputable def spI2 (K:Pn) (C:Addr) (g:List Dat->M Dat):Sp:=fun vs H Q _=>∃p dx v v2 F d d2,vs=[.ref p,v,v2]/\H p=some (.ins C dx [])/\F p=none/\b9 F H/\bQ K F d v/\bQ K F d2 v2/\(match (g [d]).bind fun r=>(g [d2]).bind fun r2=>if twoL r r2=true then .ok (r,r2) else stk with
 |.ok (r,r2)=>∀w w2 F' H',b9 F F'->b9 F' H'->F' p=none->(∀b o,F' b=some o->F b=some o\/H b=none)->(∀c o,H c=some o->c≠p->H' c=some o)->H' p=some (.ins C dx [("gaps",w),("beside",w2)])->bQ K F' r w->bQ K F' r2 w2->Q .non H'
 |.error e=>Wno.p e F H)
theorem Step.born {x dx:Addr} {fs:List (Str×V)} (s:b9 F H) (hx:H x=none) (hdx:H dx=none) (hne:dx≠x) (h1:b9 F F') (h2:b9 F' H') (h3:F' x=none) (h4:∀b o,F' b=some o->F b=some o\/upd (upd H dx (.own x)) x (.ins C dx []) b=none)
  (h5:∀c o,upd (upd H dx (.own x)) x (.ins C dx []) c=some o->c≠x->H' c=some o) (h6:H' x=some (.ins C dx fs)):Step F H (upd F' x (.ins C dx fs)) H' where
 ff:=h1.trans (b9.upd h3)
 hh:=fun c o e=>by
  have hc:c≠x:=fun h=>by rw [h,hx] at e;cases e
  have hd:c≠dx:=fun h=>by rw [h,hdx] at e;cases e
  exact h5 c o (by rw [aw hc,aw hd];exact e) hc
 fh:=fun c o e=>by
  by_cases hc:c=x
  ·subst hc;rw [ar] at e;rw [h6];exact e
  ·rw [aw hc] at e;exact h2 _ _ e
 nw:=fun c o e=>by
  by_cases hc:c=x
  ·subst hc;exact .inr hx
  ·rw [aw hc] at e;rcases h4 c o e with z|z
   ·exact .inl z
   ·refine .inr ?_;by_cases hd:c=dx
    ·subst hd;exact hdx
    ·rw [aw hc,aw hd] at z;exact z
theorem de_newR {g:List Dat->M Dat} (Mk':Mk X.K C fI) (FI:cm X.prog X.w X.K X.mg X.base CX0 k fI fdI ps (spI1 K C g)) (hr:mz (k+1) X.A) (hm:X.mg x=some (.ref C)) (hb:Binds X.K fdI ps [])
  (ha:DA K Wno X [e] fr) (hg:Gl X x:=by rfl) (hdb:(x==("__debug__":Str))=false:=by decide) (hst:starEach [e] X.env=(false,eval e X.env)::starEach [] X.env:=by rfl) (hpl:(backTo pos (starEach [] X.env)).any (·.1)=false:=by rfl) :
  DE K Wno false X (.Call (.Name x p) [e] [] pos) (fL (newR C g) fr):=by
 refine PE.imp (Eb Mk' FI hr hg hm hb .nil A4 ha hdb hst hpl) fun σ H Q h=>?_;obtain ⟨F,ρ,r,s,p⟩:=rd_L h;refine ⟨F,ρ,r,s,?_⟩
 cases e1:fr ρ with
 |error z=>rw [e1] at p;exact p
 |ok ds=>
  rw [e1] at p;intro vs F1 H1 st q;obtain ⟨F2,es1,s1,q1,z⟩:=p vs F1 H1 st q;rcases es1 with _|⟨d,_|⟨_,_⟩⟩
  ·exact aI.stuck z
  rotate_left
  ·exact aI.stuck z
  ·obtain ⟨v,vs',rfl,qd,hn⟩:=q1;cases (show vs'=[] from hn);intro x dx hx hdx hne;refine ⟨x,dx,v,F2,d,rfl,ar,s1.free hx,fun c o e=>?_,qd,?_⟩
   ·have hc:c≠x:=fun h=>by rw [h,s1.free hx] at e;cases e
    have hd:c≠dx:=fun h=>by rw [h,s1.free hdx] at e;cases e
    rw [aw hc,aw hd];exact s1 _ _ e
   ·have z:aI K Wno false F2 H1 ((g [d]).bind fun r=>.ok (.ins C [("gaps",r)])) Q:=z;cases hgd:g [d] with
    |error e=>rw [hgd] at z;exact False.elim z
    |ok r=>
     rw [hgd] at z;intro w F' H' h1 h2 h3 h4 h5 h6 h7;refine ⟨rfl,z (.ref x) (upd F' x (.ins C dx [("gaps",w)])) H' (Step.born s1 hx hdx hne h1 h2 h3 h4 h5 h6) ?_⟩
     exact ⟨x,dx,_,rfl,ar,w,[],rfl,bQ.mono (b9.upd h3) h7,rfl⟩
theorem de_newP {g:List Dat->M Dat} (Mk':Mk X.K C fI) (FI:cm X.prog X.w X.K X.mg X.base CX0 k fI fdI ps (spI2 K C g)) (hr:mz (k+1) X.A) (hm:X.mg x=some (.ref C)) (hb:Binds X.K fdI ps [])
  (ha:DA K Wno X [e,a] fr) (hg:Gl X x:=by rfl) (hdb:(x==("__debug__":Str))=false:=by decide) (hst:starEach [e,a] X.env=(false,eval e X.env)::starEach [a] X.env:=by rfl) (hpl:(backTo pos (starEach [a] X.env)).any (·.1)=false:=by rfl) :
  DE K Wno false X (.Call (.Name x p) [e,a] [] pos) (fL (newP C g) fr):=by
 refine PE.imp (Eb Mk' FI hr hg hm hb .nil A4 ha hdb hst hpl) fun σ H Q h=>?_;obtain ⟨F,ρ,r,s,p⟩:=rd_L h;refine ⟨F,ρ,r,s,?_⟩
 cases e1:fr ρ with
 |error z=>rw [e1] at p;exact p
 |ok ds=>
  rw [e1] at p;intro vs F1 H1 st q;obtain ⟨F2,es1,s1,q1,z⟩:=p vs F1 H1 st q;rcases es1 with _|⟨d,_|⟨d2,_|⟨_,_⟩⟩⟩
  ·exact aI.stuck z
  ·exact aI.stuck z
  rotate_left
  ·exact aI.stuck z
  ·obtain ⟨v,vs',rfl,qd,v2,vs2,rfl,qd2,hn⟩:=q1;cases (show vs2=[] from hn);intro x dx hx hdx hne;refine ⟨x,dx,v,v2,F2,d,d2,rfl,ar,s1.free hx,fun c o e=>?_,qd,qd2,?_⟩
   ·have hc:c≠x:=fun h=>by rw [h,s1.free hx] at e;cases e
    have hd:c≠dx:=fun h=>by rw [h,s1.free hdx] at e;cases e
    rw [aw hc,aw hd];exact s1 _ _ e
   ·have z:aI K Wno false F2 H1 ((g [d]).bind fun r=>(g [d2]).bind fun r2=>if twoL r r2=true then .ok (.ins C [("gaps",r),("beside",r2)]) else stk) Q:=z;cases hgd:g [d] with
    |error e=>rw [hgd] at z;exact False.elim z
    |ok r=>
     rw [hgd,az] at z;cases hgd2:g [d2] with
     |error e=>rw [hgd2] at z;exact False.elim z
     |ok r2=>
      rw [hgd2,az] at z;by_cases ht:twoL r r2=true
      ·rw [if_pos ht] at z;rw [az,az,if_pos ht];intro w w2 F' H' h1 h2 h3 h4 h5 h6 h7 h8;refine ⟨rfl,z (.ref x) (upd F' x (.ins C dx [("gaps",w),("beside",w2)])) H' (Step.born s1 hx hdx hne h1 h2 h3 h4 h5 h6) ?_⟩
       exact ⟨x,dx,_,rfl,ar,w,_,rfl,bQ.mono (b9.upd h3) h7,w2,[],rfl,bQ.mono (b9.upd h3) h8,rfl⟩
      ·rw [if_neg ht] at z;exact aI.stuck z
end
section
variable {W:i4} {own:Bool}
theorem Fq (hc:X.calm=true):dS X (.builtin "sum") (fun xs H Q=>∃(a:Addr) (is:List Int),xs=[.ref a]/\SqL X.K H a (is.map V.int)/\Q (.int is.sum) H):=by
 intro pins s σ H xs us Q I r h;obtain ⟨a,is,rfl,hq,q⟩:=h;obtain ⟨u,rfl,ru⟩:=r.one;cases ru;obtain ⟨its,rv,p,hz⟩:=I.list hq;have hi:=intsAre_of rv;obtain ⟨xs,e⟩:=hi.allInts.items;have hns:is=xs.toList.map (·.1):=by rw [<- hi.numsOf,<- nums_intItems,<- e]
 have hl:=p.isList;rw [e] at hl;refine call_sum_walkAnyS (iter_intList hl fun s₂ e2 st hfp hlI=>?_);subst e2;refine ⟨_,_,_,_,_,_,_,numAt xs,rfl,(Walks.list (A:=X.A.in1) (I.ok.hd hc) _ a hlI (intItems xs)).toS,st,hfp,(fun _ _=>intItems_at),fun s' t' hm=>?_⟩
 obtain ⟨h',g',d',tk',os'⟩:=s';have e1:=hm.gens;have e2:=hm.drawn;have e3:=hm.os;have e4:=hm.heap;simp only at e1 e2 e3;subst e1 e2 e3;have hk:=old_kept (s:=s) (l:=a) (h':=h') fun b o hb e=>e4 b o hb e;refine ⟨.int _,H,I.kept (t':=tk') hk,⟨t',rfl⟩,?_⟩
 have es:preSum (numAt xs) (intItems xs).size=is.sum:=by
  rw [preSum_eq,hns,List.take_of_length_le (by simp [intItems])]
 rw [es];exact q
theorem c_sum (hc:X.calm=true) (hK:X.K=K:=by rfl):uY K W own X (.builtin "sum") sumD:=by
 subst hK;refine (Fq hc).imp fun xs H Q h=>?_;obtain ⟨F,ds,s,q,p⟩:=h;rcases ds with _|⟨d,_|⟨_,_⟩⟩
 ·exact aI.stuck p
 ·obtain ⟨v,vs,rfl,qd,hn⟩:=q;cases (show vs=[] from hn);cases d with
  |lst ds=>
   obtain ⟨a,xs,e,t,z⟩:=qd;have p':aI X.K W own F H ((cV ds).bind fun is=>.ok (.int is.sum)) Q:=p;cases hi:cV ds with
   |error e=>rw [hi] at p';have:=mj hi;subst this;exact aI.stuck p'
   |ok is=>
    rw [hi] at p';have hx:xs=is.map V.int:=ki z hi;subst hx;exact ⟨a,is,by rw [e],s.lst t,aI.int p' s⟩
  |_=>exact aI.stuck p
 ·cases d<;>exact aI.stuck p
end
noncomputable def Itz (K:Pn) (a b:Addr):It:=
 ⟨fun i H=>∃xs ys x y,SqL K H a xs/\SqL K H b ys/\xs[i]? =some x/\ys[i]? =some y,fun i H v H'=>∃T x y,H T=none/\v=.ref T/\H'=upd H T (.tup [x,y])/\(∀xs,SqL K H a xs->xs[i]? =some x)/\∀ys,SqL K H b ys->ys[i]? =some y,fun i H=>∃xs ys,SqL K H a xs/\SqL K H b ys/\(xs.length<=i\/ys.length<=i)⟩
theorem turn_zip {TI TO i1 i2 l1 l2:Addr} (D:ZipApart z TI TO i1 i2 l1 l2) :
  Turn P w K (.Tuple elts k pos) (Itz K l1 l2) [z,TI,TO,i1,i2] z (fun i h=>IsZip h z TI TO .none/\IsPair h TI (.ref i1) (.ref i2)/\(∃a b,IsPair h TO a b)/\h.IsListIter i1 l1 i/\h.IsListIter i2 l2 i) where
 mem:=by simp
 obj:=fun i h st b hb=>by
  obtain ⟨hz,hTI,⟨a,c,hTO⟩,⟨o1,e1,c1,d1⟩,⟨o2,e2,c2,d2⟩⟩:=st;simp only [List.mem_cons,List.not_mem_nil,or_false] at hb;rcases hb with rfl|rfl|rfl|rfl|rfl
  ·exact ⟨_,hz,fun v q=>by cases q⟩
  ·exact ⟨_,hTI,fun v q=>by cases q⟩
  ·exact ⟨_,hTO,fun v q=>by cases q⟩
  ·exact ⟨o1,e1,fun v q=>by rw [d1] at q;cases q⟩
  ·exact ⟨o2,e2,fun v q=>by rw [d2] at q;cases q⟩
 keep:=fun i h h' st kk=>by
  obtain ⟨hz,hTI,⟨a,c,hTO⟩,h1,h2⟩:=st;exact ⟨kk z (by simp) _ hz,kk TI (by simp) _ hTI,⟨a,c,kk TO (by simp) _ hTO⟩,h1.at fun o x=>kk i1 (by simp) o x,h2.at fun o x=>kk i2 (by simp) o x⟩
 item:=by
  intro X hP hw hK hc i pins s σ H E I hf st hg;subst hP hw hK;obtain ⟨hz,hTI,⟨a,c,hTO⟩,h1,h2⟩:=st;obtain ⟨xs,ys,x,y,hx,hy,gx,gy⟩:=hg;obtain ⟨its,rv,p,_⟩:=I.list hx;obtain ⟨its2,rv2,p2,_⟩:=I.list hy;obtain ⟨u,hu,ru⟩:=rv.get gx;obtain ⟨u2,hu2,ru2⟩:=rv2.get gy;refine wpAny_pyNext_zip_item D hz hTI hTO h1 h2 p.isList p2.isList (x:=u) (y:=u2) (by simpa using hu) (by simpa using hu2) fun h' a1 a2 a3 a4 a5 a6 a7=>?_;refine ⟨_,rfl,wpAny_letOwnedTupleGo_zip a1 fun h2' b1 b2=>?_⟩
  have lz:z<s.heap.objs.size:=Heap.lt_size hz;have lTI:TI<s.heap.objs.size:=Heap.lt_size hTI;have lTO:TO<s.heap.objs.size:=Heap.lt_size hTO;have li1:i1<s.heap.objs.size:=by obtain ⟨o,e,_⟩:=h1;exact Heap.lt_size e
  have li2:i2<s.heap.objs.size:=by obtain ⟨o,e,_⟩:=h2;exact Heap.lt_size e
  have I1:Inv X pins σ (upd H s.heap.objs.size (.tup [x,y])) {s with heap:=h2',toks:=s.toks}:=I.wA (ch:=[z,TI,TO,i1,i2]) hf (fun b o hb q=>by
    simp only [List.mem_cons,List.not_mem_nil,or_false,not_or] at hb;exact (b2.2 b hb.1).trans (a7 b o hb.1 hb.2.2.1 hb.2.2.2.1 hb.2.2.2.2 q)) (Nat.le_refl _) ⟨by show 2<=sizeLine;decide,[u,u2],.cons ru (.cons ru2 .nil),⟨_,(b2.2 _ (Nat.ne_of_gt lz)).trans a5,rfl,0,rfl⟩⟩
  refine ⟨.ref s.heap.objs.size,_,I1,rfl,⟨s.heap.objs.size,x,y,I.hok.fresh (Nat.le_refl _),rfl,rfl,fun zs hq=>by rw [I.pV hq hx];exact gx,fun zs hq=>by rw [I.pV hq hy];exact gy⟩,
   ⟨b1,(b2.2 _ D.TIz).trans (a7 TI _ D.TIz D.TITO D.TIi1 D.TIi2 hTI),⟨_,_,(b2.2 _ D.TOz).trans a2⟩,a3.at fun o q=>(b2.2 _ D.i1z).trans q,a4.at fun o q=>(b2.2 _ D.i2z).trans q⟩,fun b hb=>?_⟩
  have hbn:=(hf b hb).1;have:b≠s.heap.objs.size:=by
   simp only [List.mem_cons,List.not_mem_nil,or_false] at hb;rcases hb with rfl|rfl|rfl|rfl|rfl<;>exact Nat.ne_of_lt (by assumption)
  rw [aw this];exact hbn
 done:=by
  intro X hP hw hK hc i pins s σ H E I hf st hg;subst hP hw hK;obtain ⟨hz,hTI,⟨a,c,hTO⟩,h1,h2⟩:=st;obtain ⟨xs,ys,hx,hy,hend⟩:=hg;obtain ⟨its,rv,p,_⟩:=I.list hx;obtain ⟨its2,rv2,p2,_⟩:=I.list hy;have e1:=rv.length;have e2:=rv2.length;refine wpAny_pyNext_zip_end (I.ok.hd hc) D hz hTI hTO h1 h2 p.isList p2.isList ?_ fun h' hk=>⟨rfl,I.wB (t':=s.toks) (ch:=[z,TI,TO,i1,i2]) hf fun b o hb q=>?_⟩
  ·rcases hend with z|z
   ·exact .inl (Array.getElem?_eq_none (by simp;omega))
   ·exact .inr (Array.getElem?_eq_none (by simp;omega))
  ·simp only [List.mem_cons,List.not_mem_nil,or_false,not_or] at hb;exact hk b o hb.1 hb.2.2.1 hb.2.2.2.1 hb.2.2.2.2 q
 self:=fun _ _ _ _ _ st h=>wpAny_pyIter_zip st.1 h
theorem wk:∀(ds es:List Dat) (i:Nat),(l3 ds es)[i]? =(ds[i]?).bind fun d=>(es[i]?).map fun e=>.tup [d,e]
 |[],es,i=>by simp [l3]
 |d::ds,[],i=>by cases h:(d::ds)[i]?<;>simp [l3]
 |d::ds,e::es,0=>by simp [l3]
 |d::ds,e::es,i+1=>by rw [l3,List.getElem?_cons_succ,wk ds es i,List.getElem?_cons_succ,List.getElem?_cons_succ]
theorem jt:∀(ds es:List Dat),(l3 ds es).length=min ds.length es.length
 |[],es=>by simp [l3]
 |d::ds,[]=>by simp [l3]
 |d::ds,e::es=>by rw [l3,List.length_cons,jt ds es,List.length_cons,List.length_cons];omega
theorem iter_zip {b:Addr} {es:List Dat} (t:SqL K F a xs) (z:aA K F ds xs) (t2:SqL K F b ys) (z2:aA K F es ys):vz K F (Itz K a b) (l3 ds es) where
 go:=fun i F' H' s1 s2 hi=>by
  rw [jt] at hi;exact ⟨xs,ys,xs[i]'(by rw [z.length];omega),ys[i]'(by rw [z2.length];omega),s2.lst (s1.lst t),s2.lst (s1.lst t2),List.getElem?_eq_getElem _,List.getElem?_eq_getElem _⟩
 yl:=fun i F' H' x H2 d s1 s2 hd hy=>by
  obtain ⟨T,x1,y1,hT,ex,eH,h1,h2⟩:=hy;subst ex eH;rw [wk] at hd;cases hds:ds[i]? with
  |none=>rw [hds] at hd;cases hd
  |some d1=>
   cases hes:es[i]? with
   |none=>rw [hds,hes] at hd;cases hd
   |some d2=>
    rw [hds,hes] at hd;simp at hd;subst hd;obtain ⟨v,e1,q⟩:=z.get hds;obtain ⟨v2,e2,q2⟩:=z2.get hes;have e3:=h1 xs (s2.lst (s1.lst t));have e4:=h2 ys (s2.lst (s1.lst t2));rw [e1] at e3;rw [e2] at e4;cases e3;cases e4;refine ⟨upd F' T (.tup [x1,y1]),Step.lay s2 hT,T,_,rfl,SqT.of ar,?_⟩
    exact ⟨x1,[y1],rfl,(q.mono s1).mono (b9.upd (s2.free hT)),y1,[],rfl,(q2.mono s1).mono (b9.upd (s2.free hT)),rfl⟩
 st:=fun F' H' s1 s2=>⟨xs,ys,s2.lst (s1.lst t),s2.lst (s1.lst t2),by rw [z.length,z2.length,jt];omega⟩
section
variable {W:i4} {a:Expr} 
noncomputable def iZip (K:Pn) (ta tb:TE):TI:=fun σ H R=>ta σ H fun x H1=>tb σ H1 fun y H2=>∃a b,x=.ref a/\y=.ref b/\(∃xs,SqL K H2 a xs)/\(∃ys,SqL K H2 b ys)/\R (Itz K a b) H2
theorem pi_zip (hg:Gl X "zip") (hm:X.mg "zip"=none) (ha:PE X a ta) (hb:PE X b tb) (hs:starEach [a,b] X.env=[(false,eval a X.env),(false,eval b X.env)]) (hs2:starEach [b] X.env=[(false,eval b X.env)]) :
  PI X (.Tuple elts k q) (.Call (.Name "zip" p) [a,b] [] pos) (iZip X.K ta tb):=by
 intro pins s σ H R I h;have hA:PA X [a,b] (wC ta (wC tb tNil)):=bj ha (bj hb fg hs2) (by rw [hs,hs2]);refine Call_ (oQ I hg hm boot_zip (PyProof.Rows.callWith_type1 (thn (hA pos pins s σ H (fun vs H1=>match vs with
  |[x,y]=>∃a b,x=.ref a/\y=.ref b/\(∃xs,SqL X.K H1 a xs)/\(∃ys,SqL X.K H1 b ys)/\R (Itz X.K a b) H1
  |_=>False) I h) fun us s1 ⟨vs,H1,I1,r1,q1⟩=>?_) (by rw [hs,hs2]) (by rw [hs2];rfl)))
 match vs,r1,q1 with
 |[x,y],r1,⟨l,l2,e1,e2,⟨xs,hq⟩,⟨ys,hq2⟩,q⟩=>
  subst e1 e2;obtain ⟨u,u2,rfl,ru,ru2⟩:=r1.two;cases ru;cases ru2;obtain ⟨its,rv,pl,_⟩:=I1.list hq;obtain ⟨its2,rv2,pl2,_⟩:=I1.list hq2;have a1:l<s1.heap.objs.size:=by obtain ⟨_,e,_⟩:=pl.isList;exact Heap.lt_size e
  have a2:l2<s1.heap.objs.size:=by obtain ⟨_,e,_⟩:=pl2.isList;exact Heap.lt_size e
  refine call_zip_2 pl.isList pl2.isList fun h' hz hTI hTO hi1 hi2 hsz hk=>?_;have I2:Inv X pins σ H1 {s1 with heap:=h'}:=I1.kept (t':=s1.toks) hk;refine wpAny_pyIter_zip hz ?_;refine ⟨s1.heap.objs.size+4,[s1.heap.objs.size+4,s1.heap.objs.size+2,s1.heap.objs.size+3,s1.heap.objs.size,s1.heap.objs.size+1],_,_,H1,rfl,I2,turn_zip (zipApart_new a1 a2),⟨hz,hTI,⟨_,_,hTO⟩,hi1,hi2⟩,fun b hb=>?_,q⟩
  have hb2:s1.heap.objs.size<=b:=by
   simp only [List.mem_cons,List.not_mem_nil,or_false] at hb;rcases hb with rfl|rfl|rfl|rfl|rfl
   ·exact Nat.le_add_right _ 4
   ·exact Nat.le_add_right _ 2
   ·exact Nat.le_add_right _ 3
   ·exact Nat.le_refl _
   ·exact Nat.le_add_right _ 1
  exact I1.fpOk hb2 (I1.hok.fresh hb2)
theorem ri_zip {R:It->Hp->Prop} (h:iD K W (BI fa fb) σ H R):iZip K (tD K W false fa) (tD K W false fb) σ H R:=by
 obtain ⟨F,ρ,r,s,p⟩:=h;refine bL r s (fun e he=>?_) fun d hd v F1 H1 s1 q1=>?_
 ·have z:BI fa fb ρ=.error e:=by unfold BI;rw [he];rfl
  rw [z] at p;exact p
 ·refine bL (r.mono s1.ff) s1.fh (fun e he=>?_) fun d2 hd2 v2 F2 H2 s2 q2=>?_
  ·have z:BI fa fb ρ=.error e:=by unfold BI;rw [hd,az,he];rfl
   rw [z] at p;exact W.mono p s1
  ·have z:BI fa fb ρ=(oh d).bind fun ds=>(oh d2).bind fun es=>.ok (l3 ds es):=by unfold BI;rw [hd,az,hd2,az]
   rw [z] at p;cases d with
   |lst ds=>
    cases d2 with
    |lst es=>
     obtain ⟨b,xs,e,t,zz⟩:=q1;obtain ⟨b2,ys,e2,t2,zz2⟩:=q2;have t':=s2.ff.lst t;exact ⟨b,b2,e,e2,⟨xs,s2.fh.lst t'⟩,⟨ys,s2.fh.lst t2⟩,p _ F2 H2 (s1.trans s2) (iter_zip t' (zz.mono s2.ff) t2 zz2)⟩
    |_=>exact (W.ns p).elim
   |_=>exact (W.ns p).elim
theorem di_zip (hm:X.mg "zip"=none) (ha:DE K W false X a fa) (hb:DE K W false X b fb) (hg:Gl X "zip":=by rfl) (hs:starEach [a,b] X.env=[(false,eval a X.env),(false,eval b X.env)]:=by rfl) (hs2:starEach [b] X.env=[(false,eval b X.env)]:=by rfl) (hK:X.K=K:=by rfl) :
  DI K W X (.Tuple elts k q) (.Call (.Name "zip" p) [a,b] [] pos) (BI fa fb):=by
 subst hK;exact (pi_zip hg hm ha hb hs hs2).imp fun _ _ _=>ri_zip
end
noncomputable def Itd (hi:Int) (n:Nat):It:=⟨fun i _=>i<n,fun i H x H'=>H'=H/\x=.int (hi-i),fun i _=>n<=i⟩
theorem Dv (it:Addr) (lo:Int) (n:Nat):Turn P w K tg (Itd lo n) [it] it (fun i h=>IsRangeIter h it (lo+(i:Nat)*(-1)) ((n:Int)-(i:Nat)) (-1)) where
 mem:=by simp
 obj:=fun i h st b hb=>by
  have e:b=it:=by simpa using hb
  subst e;exact ⟨_,st,fun v z=>by
   have z':Data.fields _=Data.cell v:=z;cases z'⟩
 keep:=fun i h h' st k=>k it (by simp) _ st
 item:=by
  intro X hP hw hK hc i pins s σ H E I hf st hg;subst hP hw hK;obtain ⟨f0,f1,f2,f3,f4,f5⟩:=hf it (by simp);have W:=Walks.range (prog:=X.prog) (w:=X.w) (I.ok.hd hc) it lo (-1) n;refine W.item i s _ _ hg st fun v h' tk hv st' kk=>?_;obtain ⟨t,rfl⟩:=hv;have I1:Inv X pins σ H {s with heap:=h',toks:=tk}:=I.turned (fun b o hb e=>kk b o (by simpa using hb) e) f0 f1 f3 f4 f5;refine ⟨_,rfl,go_of (s:={s with heap:=h',toks:=tk}) (n:="range_iterator") st' rfl rfl (by decide) ⟨.int (lo-i),H,I1,⟨t,?_⟩,⟨rfl,rfl⟩,st',fun b hb=>(hf b hb).1⟩⟩
  rw [show lo+(i:Int)*(-1)=lo-i by omega]
 done:=by
  intro X hP hw hK hc i pins s σ H E I hf st hg;subst hP hw hK;obtain ⟨f0,f1,f2,f3,f4,f5⟩:=hf it (by simp);exact wpAny_pyNext_range_end (I.ok.hd hc) st (by have:n<=i:=hg;omega) fun h' eb=>⟨rfl,I.turned (t':=s.toks) (fun b o hb e=>eb b o hb e) f0 f1 f3 f4 f5⟩
 self:=fun _ _ _ _ _ st h=>wpAny_pyIter_rangeiter st h
theorem rangeSize_down (a b:Int):Builtin.Range.rangeSize a b (-1)=if b<a then a-b else 0:=by
 unfold Builtin.Range.rangeSize;simp only [show ¬(-1:Int)>0 by decide,if_false];by_cases h:b<a
 ·rw [if_pos h,if_pos h];simp
 ·rw [if_neg h,if_neg h]
theorem small_down {a b:Int} (ha: -(2^62)<=a) (ha':a<2^62) (hb: -(2^62)<=b) (hb':b<2^62):Builtin.Range.small a b (-1)=true:=by
 unfold Builtin.Range.small;rw [rangeSize_down];simp only [Builtin.Range.rangeFitsLong,Bool.and_eq_true,Bool.or_eq_true,decide_eq_true_eq,beq_iff_eq,show ¬(-1:Int)>0 by decide,if_false];split<;>omega
section
theorem down_it {R:It->Hp->Prop} {t u v:Tok} {tk:Nat} (I:Inv X pins σ H s) (h1: -(2^62)<=hi) (h2:hi<2^62) (h3: -(2^62)<=lo) (h4:lo<2^62)
  (q:R (Itd hi (hi-lo).toNat) H):wpAny (model X.prog X.w) X.A (pyIter (.ref s.heap.objs.size)) (PIE X pins σ tg R) E {s with heap:=s.heap.push {cls:=.type "range",data:=.fields #[.int hi t,.int lo u,.int (-1) v]},toks:=tk}:=by
 refine wpAny_pyIter_range (IsRange.new ..) (small_down h1 h2 h3 h4) ?_;have I1:Inv X pins σ H {s with heap:=s.heap.push {cls:=.type "range",data:=.fields #[.int hi t,.int lo u,.int (-1) v]},toks:=tk}:=I.kept fun b o e=>Heap.get?_push_of_some _ e;refine ⟨(s.heap.push {cls:=.type "range",data:=.fields #[.int hi t,.int lo u,.int (-1) v]}).objs.size,[(s.heap.push {cls:=.type "range",data:=.fields #[.int hi t,.int lo u,.int (-1) v]}).objs.size],_,_,H,rfl,
  I1.kept (t':=tk) fun b o e=>Heap.get?_push_of_some _ e,Dv _ hi (hi-lo).toNat,?_,fun b hb=>?_,q⟩
 ·have e1:hi+((0:Nat):Int)*(-1)=hi:=by simp
  have e2:(((hi-lo).toNat:Nat):Int)-((0:Nat):Int)=Builtin.Range.rangeSize hi lo (-1):=by rw [rangeSize_down];split<;>omega
  show IsRangeIter _ _ (hi+((0:Nat):Int)*(-1)) ((((hi-lo).toNat:Nat):Int)-((0:Nat):Int)) (-1);rw [e1,e2];exact Heap.get?_push_size _ rfl
 ·have e:b=(s.heap.push {cls:=.type "range",data:=.fields #[.int hi t,.int lo u,.int (-1) v]}).objs.size:=by simpa using hb
  subst e;exact I1.fpOk (Nat.le_refl _) (I1.hok.fresh (Nat.le_refl _))
noncomputable def iRng3 (ta:TA):TI:=fun σ H R=>ta σ H fun vs H1=>∃i j:Int,vs=[.int i,.int j,.int (-1)]/\(-(2^62)<=i/\i<2^62/\ -(2^62)<=j/\j<2^62)/\R (Itd i (i-j).toNat) H1
theorem E6 {a:Expr} {ta:TA} (hg:Gl X "range") (hm:X.mg "range"=none) (ha:PA X [a,b,c] ta) (hs:starEach [a,b,c] X.env=[(false,eval a X.env),(false,eval b X.env),(false,eval c X.env)]:=by rfl) (hs2:starEach [b,c] X.env=[(false,eval b X.env),(false,eval c X.env)]:=by rfl) :
  PI X tg (.Call (.Name "range" p) [a,b,c] [] pos) (iRng3 ta):=by
 intro pins s σ H R I h;refine Call_ (oQ I hg hm boot_range (PyProof.Rows.callWith_type1 (thn (ha pos pins s σ H _ I h) fun us s1 ⟨vs,H1,I1,r1,q1⟩=>?_) (by rw [hs,hs2]) (by rw [hs2];rfl)));obtain ⟨i,j,e,⟨q1,q2,q3,q4⟩,q⟩:=q1;subst e;cases r1 with
 |cons r rr=>
  cases rr with
  |cons r' rr=>
   cases rr with
   |cons r'' rr=>
    cases rr;obtain ⟨t,rfl⟩:=r;obtain ⟨t',rfl⟩:=r';obtain ⟨t'',rfl⟩:=r'';exact call_range_3 (by decide) (down_it I1 q1 q2 q3 q4 q) (Or.inl (PyProof.noPylong_small (by decide)))
end
noncomputable def tu (hi:Int) (n:Nat):List Dat:=(List.range n).map fun k:Nat=>Dat.int (hi-k)
theorem EF:vz K F (Itd hi n) (tu hi n) where
 go:=fun i F' H' s1 s2 hi=>by show i<n;simpa [tu] using hi
 yl:=fun i F' H' x H2 d s1 s2 hd hy=>by
  obtain ⟨e,hy⟩:=hy;subst e hy;unfold tu at hd;rw [List.getElem?_map] at hd;have hi:i<n:=by
   have:=(List.getElem?_eq_some_iff.mp (show ((List.range n).map fun k:Nat=>Dat.int (hi-k))[i]? =some d by rw [List.getElem?_map];exact hd)).1;simpa using this
  rw [List.getElem?_range hi] at hd;cases hd;exact ⟨F',Step.refl s2,rfl⟩
 st:=fun F' H' s1 s2=>by show n<=_;simp [tu]
noncomputable def rng3:List Dat->M (List Dat)
 |[.int i,.int j,.int c]=>if (decide (c= -1)&&bg i&&bg j)=true then .ok (tu i (i-j).toNat) else .error .stuck
 |_=>.error .stuck
section
variable {W:i4} 
theorem ri_rng3 {fr:ak->M (List Dat)} {R:It->Hp->Prop} (h:iD K W (my rng3 fr) σ H R):iRng3 (tDA K W fr) σ H R:=by
 obtain ⟨F,ρ,r,s,p⟩:=h;refine oz r s (fun e he=>?_) fun ds hd xs F1 H1 s1 q1=>?_
 ·have z:my rng3 fr ρ=.error e:=by unfold my;rw [he];rfl
  rw [z] at p;exact p
 ·have z:my rng3 fr ρ=rng3 ds:=by unfold my;rw [hd];rfl
  rw [z] at p;by_cases hds:∃i j c,ds=[.int i,.int j,.int c]
  ·obtain ⟨i,j,c,rfl⟩:=hds;obtain ⟨v,vs,e,q,v2,vs2,e2,q2,v3,vs3,e3,q3,t⟩:=q1;have p':match (if (decide (c= -1)&&bg i&&bg j)=true then Except.ok (tu i (i-j).toNat) else Except.error Err.stuck:M (List Dat)) with
    |.ok ds=>∀J F1 H1,Step F H F1 H1->vz K F1 J ds->R J H1
    |.error e=>W.p e F H:=p
   by_cases hj:(decide (c= -1)&&bg i&&bg j)=true
   ·rw [if_pos hj] at p';unfold bg at hj;simp only [Bool.and_eq_true,decide_eq_true_eq] at hj;obtain ⟨⟨hc,hi⟩,hj⟩:=hj;subst hc;exact ⟨i,j,by rw [e,show v=.int i from q,e2,show v2=.int j from q2,e3,show v3=.int (-1) from q3,show vs3=[] from t],⟨hi.1,hi.2,hj.1,hj.2⟩,p' _ F1 H1 s1 EF⟩
   ·rw [if_neg hj] at p';exact (W.ns p').elim
  ·have:rng3 ds=.error .stuck:=by
    unfold rng3;split
    ·exact absurd ⟨_,_,_,rfl⟩ hds
    ·rfl
   rw [this] at p;exact (W.ns p).elim
end
section
variable {W:i4} {a:Expr} {fr:ak->M (List Dat)}
theorem di_rng3 (hm:X.mg "range"=none) (ha:DA K W X [a,b,c] fr) (hg:Gl X "range":=by rfl) (hs:starEach [a,b,c] X.env=[(false,eval a X.env),(false,eval b X.env),(false,eval c X.env)]:=by rfl) (hs2:starEach [b,c] X.env=[(false,eval b X.env),(false,eval c X.env)]:=by rfl) :
  DI K W X tg (.Call (.Name "range" p) [a,b,c] [] pos) (my rng3 fr):=(E6 hg hm ha hs hs2).imp fun _ _ _=>ri_rng3
end
section
@[simp] theorem e_rng3 {i j:Int} (h:bg i=true) (h2:bg j=true):rng3 [.int i,.int j,.int (-1)]=.ok (tu i (i-j).toNat):=by show (if (decide ((-1:Int)= -1)&&bg i&&bg j)=true then _ else _)=_;rw [h,h2];rfl
end
theorem Bq {n:Nat}:∀{ds:List Dat} {d:Dat},kU ds n=true->d∈ds->okE d n=true
 |[],d,_,h=>by simp at h
 |a::ds,d,h,hd=>by
  unfold kU at h;simp only [Bool.and_eq_true] at h;rcases List.mem_cons.mp hd with e|e
  ·rw [e];exact h.1
  ·exact Bq h.2 e
section
variable {W:i4} {own:Bool}
open Classical in
theorem has_D (I:Inv X pins σ H s) (hF:b9 F H) {a:Dat} {x:V} (od:kU ds 40=true) (oa:okE a 40=true) (qs:aA X.K F ds xs) (rv:Vals xs its) (qa:bQ X.K F a x) (ra:RelV x u) (hu:A.units+40<cLine) :
  ∃e:Value->Bool,(∀y,y∈its.toArray->SeqAt.EqAt A s y u (e y))/\its.toArray.any e=ds.any fun d=>eqD d a:=by
 have each:∀(i:Nat) (y:Value),its[i]? =some y->∃d,ds[i]? =some d/\SeqAt.EqAt A s y u (eqD d a):=fun i y hy=>by
  have hi:i<its.length:=(List.getElem?_eq_some_iff.mp hy).1;have h1:i<xs.length:=by rw [rv.length];exact hi
  have h2:i<ds.length:=by rw [<- qs.length];exact h1
  obtain ⟨v,e1,q1⟩:=qs.get (List.getElem?_eq_getElem h2);obtain ⟨w,e2,r2⟩:=rv.get e1;rw [hy] at e2;cases e2;exact ⟨_,List.getElem?_eq_getElem h2,F8 I hF _ a (Bq od (List.getElem_mem h2)) oa q1 qa r2 ra hu⟩
 refine ⟨fun y=>decide (∃(i:Nat) (d:Dat),its[i]? =some y/\ds[i]? =some d/\eqD d a=true),fun y hy=>?_,?_⟩
 ·by_cases h:∃(i:Nat) (d:Dat),its[i]? =some y/\ds[i]? =some d/\eqD d a=true
  ·obtain ⟨i,d,h1,h2,h3⟩:=h;obtain ⟨d',h4,h5⟩:=each i y h1;rw [h2] at h4;cases h4;rw [h3] at h5;have:decide (∃(i:Nat) (d:Dat),its[i]? =some y/\ds[i]? =some d/\eqD d a=true)=true:=decide_eq_true ⟨i,d,h1,h2,h3⟩;show SeqAt.EqAt A s y u (decide _);rw [this];exact h5
  ·have hm:y∈its:=by simpa using hy
   obtain ⟨i,hi⟩:=List.getElem?_of_mem hm;obtain ⟨d,h4,h5⟩:=each i y hi;have h6:eqD d a=false:=by
    cases hq:eqD d a with
    |false=>rfl
    |true=>exact absurd ⟨i,d,hi,h4,hq⟩ h
   rw [h6] at h5;show SeqAt.EqAt A s y u (decide _);rw [decide_eq_false h];exact h5
 ·rw [Bool.eq_iff_iff];simp only [List.any_toArray,List.any_eq_true,decide_eq_true_eq];constructor
  ·rintro ⟨y,hy,i,d,h1,h2,h3⟩;exact ⟨d,List.mem_of_getElem? h2,h3⟩
  ·rintro ⟨d,hd,h3⟩;obtain ⟨i,hi⟩:=List.getElem?_of_mem hd;have h2:i<ds.length:=(List.getElem?_eq_some_iff.mp hi).1;have h4:i<its.length:=by rw [<- rv.length,qs.length];exact h2
   exact ⟨its[i],List.getElem_mem h4,i,d,List.getElem?_eq_getElem h4,hi,h3⟩
theorem o_in (hu:X.A.units+64<cLine) (hK:X.K=K:=by rfl):Op2 K W own X (compareOp .In) inM:=by
 subst hK;intro pins s σ H x y v u Q I rx ry h;obtain ⟨F,a,b,s1,qa,qb,p⟩:=h;have hu1:X.A.in1.units+40<cLine:=by show X.A.units+1+40<cLine;omega
 cases b with
 |lst ds=>
  obtain ⟨l,xs,e,t,z⟩:=qb;subst e;cases ry;have p':aI X.K W own F H (if (okE a 40&&kU ds 40)=true then .ok (.bl (ds.any fun d=>eqD d a)) else stk) Q:=p;by_cases hc:(okE a 40&&kU ds 40)=true
  ·rw [if_pos hc] at p';simp only [Bool.and_eq_true] at hc;obtain ⟨its,rv,pl,_⟩:=I.list (s1.lst t);obtain ⟨e,he,ha⟩:=has_D (A:=X.A.in1) I s1 hc.2 hc.1 z rv qa rx hu1;refine SeqAt.in_listAt e pl.isList he ?_;rw [ha];exact p'.blS s1 I
  ·rw [if_neg hc] at p';exact p'.stuck
 |tup ds=>
  obtain ⟨l,xs,e,t,z⟩:=qb;subst e;cases ry;have p':aI X.K W own F H (if (okE a 40&&kU ds 40)=true then .ok (.bl (ds.any fun d=>eqD d a)) else stk) Q:=p;by_cases hc:(okE a 40&&kU ds 40)=true
  ·rw [if_pos hc] at p';simp only [Bool.and_eq_true] at hc;obtain ⟨its,rv,pl,_⟩:=I.tuple (s1.tup t);obtain ⟨e,he,ha⟩:=has_D (A:=X.A.in1) I s1 hc.2 hc.1 z rv qa rx hu1;refine SeqAt.in_tupleAt e (show s.heap.IsTuple l its.toArray from pl) he ?_;rw [ha];exact p'.blS s1 I
  ·rw [if_neg hc] at p';exact p'.stuck
 |_=>exact aI.stuck p
end
noncomputable abbrev ZRec (h:Heap) (z p q:Addr) (m k:Value):Prop:=h.get? z=some {cls:=.type "zip",dict:=none,data:=.fields #[m,k,.bool false,.ref p,.ref q],slots:=#[]}
structure Zs (z p q u v l m:Addr) (r k a b:Value) (i j:Nat) (xs ys:Array Value) (h:Heap):Prop where
 me:ZRec h z p q r k
 its:IsPair h p (.ref u) (.ref v)
 own:IsPair h q a b
 one:h.IsListIter u l i
 two:h.IsListIter v m j
 xl:h.IsList l xs
 yl:h.IsList m ys
noncomputable def Off (z q u v:Addr) (h h':Heap):Prop:=∀c o,c≠z->c≠q->c≠u->c≠v->h.get? c=some o->h'.get? c=some o
section
variable {p q u v:Addr} {r k a b:Value} {xs ys:Array Value} {g:Heap}
theorem Off.refl:Off z q u v h h:=fun _ _ _ _ _ _ e=>e
theorem Off.then (A:Off z q u v h h') (B:Off z q u v h' g):Off z q u v h g:=fun c o a b d e x=>B c o a b d e (A c o a b d e x)
theorem Off.byZ (A:Heap.ExtBut z h h'):Off z q u v h h':=fun c o a _ _ _ x=>A c o a x
theorem Off.byQ (A:Heap.ExtBut q h h'):Off z q u v h h':=fun c o _ a _ _ x=>A c o a x
theorem Off.byU (A:Heap.ExtBut u h h'):Off z q u v h h':=fun c o _ _ a _ x=>A c o a x
theorem Off.byV (A:Heap.ExtBut v h h'):Off z q u v h h':=fun c o _ _ _ a x=>A c o a x
theorem Off.new {o:Obj}:Off z q u v h (h.push o):=fun _ _ _ _ _ _ x=>Heap.get?_push_of_some _ x
theorem Zs.atZ (D:ZipApart z p q u v l m) (Z:Zs z p q u v l m r k a b i j xs ys h) (A:Heap.ExtBut z h h') (e:ZRec h' z p q r' k'):Zs z p q u v l m r' k' a b i j xs ys h':=
 ⟨e,A _ _ D.TIz Z.its,A _ _ D.TOz Z.own,Z.one.extBut A D.i1z,Z.two.extBut A D.i2z,Z.xl.extBut A D.l1z,Z.yl.extBut A D.l2z⟩
theorem Zs.atQ (D:ZipApart z p q u v l m) (Z:Zs z p q u v l m r k a b i j xs ys h) (A:Heap.ExtBut q h h') (e:IsPair h' q a' b'):Zs z p q u v l m r k a' b' i j xs ys h':=
 ⟨A _ _ D.TOz.symm Z.me,A _ _ D.TITO Z.its,e,Z.one.extBut A D.TOi1.symm,Z.two.extBut A D.TOi2.symm,Z.xl.extBut A D.l1TO,Z.yl.extBut A D.l2TO⟩
theorem Zs.atU (D:ZipApart z p q u v l m) (Z:Zs z p q u v l m r k a b i j xs ys h) (A:Heap.ExtBut u h h') (e:h'.IsListIter u l n):Zs z p q u v l m r k a b n j xs ys h':=
 ⟨A _ _ D.i1z.symm Z.me,A _ _ D.TIi1 Z.its,A _ _ D.TOi1 Z.own,e,Z.two.extBut A D.i12.symm,Z.xl.extBut A D.l1i1,Z.yl.extBut A D.l2i1⟩
theorem Zs.atV (D:ZipApart z p q u v l m) (Z:Zs z p q u v l m r k a b i j xs ys h) (A:Heap.ExtBut v h h') (e:h'.IsListIter v m n):Zs z p q u v l m r k a b i n xs ys h':=
 ⟨A _ _ D.i2z.symm Z.me,A _ _ D.TIi2 Z.its,A _ _ D.TOi2 Z.own,Z.one.extBut A D.i12,e,Z.xl.extBut A D.l1i2,Z.yl.extBut A D.l2i2⟩
theorem Zs.new {o:Obj} (Z:Zs z p q u v l m r k a b i j xs ys h):Zs z p q u v l m r k a b i j xs ys (h.push o):=
 ⟨Heap.get?_push_of_some _ Z.me,Heap.get?_push_of_some _ Z.its,Heap.get?_push_of_some _ Z.own,Z.one.at fun _ e=>Heap.get?_push_of_some _ e,Z.two.at fun _ e=>Heap.get?_push_of_some _ e,Z.xl.push _,Z.yl.push _⟩
end
inductive Mem:Value->Prop
 |no:Mem .none
 |was (a:Int) (t:Tok):Mem (.int a t)
section
variable {p q u v:Addr} {r k a b x y:Value} {xs ys:Array Value}
theorem Dg {T:Bool->Shared->Prop} (D:ZipApart z p q u v l m) (hm:Mem r) (Z:Zs z p q u v l m r (.bool mark) a b i j xs ys s.heap)
  (yes:T true s) (no:∀h',Heap.ExtBut z s.heap h'->h'.objs.size=s.heap.objs.size->Zs z p q u v l m r (.bool true) a b i j xs ys h'->T false {s with heap:=h'}) :
  wpAny (model P w) A (Builtin.SmallTypes.ownedTupleIsFree (.ref z)) T E s:=by
 have f0:=Z.me;refine wpAny_bind (wpAny_field f0 rfl (x:=r) rfl ?_);cases hm with
 |no=>exact wpAny_pure yes
 |was c t=>
  have alive:wpAny (model P w) A (loadIfAlive c.toNat) (fun o s'=>o=s.heap.get? c.toNat/\s'=s) E s:=fun _ _ _=>⟨rfl,rfl⟩
  refine wpAny_bind (wpAny_mono alive (fun o s' ho=>?_) fun _ _ z=>z);rw [ho.2,ho.1];cases s.heap.get? c.toNat with
  |none=>exact wpAny_pure yes
  |some o=>
   refine wpAny_bind (wpAny_field f0 rfl (x:=.bool mark) rfl ?_);cases mark
   ·exact wpAny_bind (wpAny_setField_rec f0 (show 1<5 by decide) fun h' e B=>wpAny_pure (no h' B.extBut B.1 (Z.atZ D B.extBut e)))
   ·exact wpAny_pure (no _ (fun _ _ _ e=>e) rfl Z)
theorem AZ {T:Mq} (D:ZipApart z p q u v l m) (Z:Zs z p q u v l m r k a b i j xs ys s.heap) (hx:xs[i]? =some x)
  (go:∀h',Heap.ExtBut u s.heap h'->h'.objs.size=s.heap.objs.size->Zs z p q u v l m r k a b (i+1) j xs ys h'->T x {s with heap:=h'}):wpAny (model P w) A (Builtin.SmallTypes.nextOf (.ref u)) T E s:=
 wpAny_nextOf_list_item Z.one Z.xl hx fun h' e B=>go h' B.extBut B.1 (Z.atU D B.extBut e)
theorem zs_two {T:Mq} (D:ZipApart z p q u v l m) (Z:Zs z p q u v l m r k a b i j xs ys s.heap) (hy:ys[j]? =some y)
  (go:∀h',Heap.ExtBut v s.heap h'->h'.objs.size=s.heap.objs.size->Zs z p q u v l m r k a b i (j+1) xs ys h'->T y {s with heap:=h'}):wpAny (model P w) A (Builtin.SmallTypes.nextOf (.ref v)) T E s:=
 wpAny_nextOf_list_item Z.two Z.yl hy fun h' e B=>go h' B.extBut B.1 (Z.atV D B.extBut e)
theorem De {T:Unit->Shared->Prop} (D:ZipApart z p q u v l m) (Z:Zs z p q u v l m r k a b i j xs ys s.heap) (hn:(#[a,b]:Array Value).setIfInBounds n x=#[a',b'])
  (go:∀h',Heap.ExtBut q s.heap h'->h'.objs.size=s.heap.objs.size->Zs z p q u v l m r k a' b' i j xs ys h'->T () {s with heap:=h'}):wpAny (model P w) A (updateSeq q (·.setIfInBounds n x)) T E s:=
 wpAny_updateSeq_pair Z.own fun h' e B=>go h' B.extBut B.1 (Z.atQ D B.extBut (by rw [hn] at e;exact e))
theorem AY {c:Value} {T:Unit->Shared->Prop} (D:ZipApart z p q u v l m) (Z:Zs z p q u v l m r k a b i j xs ys s.heap) (hn:n<5)
  (he:(#[r,k,.bool false,.ref p,.ref q]:Array Value).setIfInBounds n c=#[r',k',.bool false,.ref p,.ref q])
  (go:∀h',Heap.ExtBut z s.heap h'->h'.objs.size=s.heap.objs.size->Zs z p q u v l m r' k' a b i j xs ys h'->T () {s with heap:=h'}):wpAny (model P w) A (setField (.ref z) n c) T E s:=
 wpAny_setField_rec Z.me hn fun h' e B=>go h' B.extBut B.1 (Z.atZ D B.extBut (by rw [he] at e;exact e))
theorem zs_gives {T:Mq} (D:ZipApart z p q u v l m) (hm:Mem r) (Z:Zs z p q u v l m r (.bool mark) a b i j xs ys s.heap) (hx:xs[i]? =some x) (hy:ys[j]? =some y)
  (go:∀h' r' mark' a' b',Mem r'->Zs z p q u v l m r' (.bool mark') a' b' (i+1) (j+1) xs ys h'->IsPair h' s.heap.objs.size x y->Off z q u v s.heap h'->T (.ref s.heap.objs.size) {s with heap:=h'}) :
  wpAny (model P w) A (Builtin.«zip.__next__» ⟨[.ref z],[]⟩) (fun f s'=>∃c,f=.done (.ret c)/\T c s') E s:=by
 have look:∀{n:Nat} {c:Value} {T':Mq} {s':Shared} {r k a b:Value} {i j:Nat},Zs z p q u v l m r k a b i j xs ys s'.heap->(#[r,k,.bool false,.ref p,.ref q]:Array Value)[n]? =some c->T' c s'->wpAny (model P w) A (field (.ref z) n) T' E s':=
  fun Z e t=>wpAny_field Z.me rfl e t
 refine wpAny_bind (show wpAny _ _ (pure (Value.ref z,([]:List Value))) _ _ _ from wpAny_pure ?_);refine wpAny_bind (look Z (n:=2) rfl (wpAny_bind (look Z (n:=3) rfl (wpAny_bind (wpAny_seqItems Z.its rfl ?_)))));refine wpAny_bind (Dg D hm Z ?_ fun g0 B0 e0 Z0=>?_)
 ·rw [if_pos rfl];refine wpAny_bind (wpAny_rule (wpAny_bind (look Z (n:=4) rfl (wpAny_bind (AY D Z (n:=0) (by decide) rfl fun g1 B1 e1 Z1=>?_)))));refine wpAny_bind ?_;simp only [List.zipIdx,List.forIn_cons,List.forIn_nil];refine wpAny_bind (wpAny_bind (wpAny_onRaise (wpAny_bind (AZ D Z1 hx fun g2 B2 e2 Z2=>wpAny_pure ?_))));refine wpAny_bind (wpAny_seqItems Z2.own rfl (wpAny_bind (De D Z2 (n:=0) rfl fun g3 B3 e3 Z3=>wpAny_bind (wpAny_letGo (wpAny_pure ?_)))));refine wpAny_bind (wpAny_bind (wpAny_onRaise (wpAny_bind (zs_two D Z3 hy fun g4 B4 e4 Z4=>wpAny_pure ?_))));refine wpAny_bind (wpAny_seqItems Z4.own rfl (wpAny_bind (De D Z4 (n:=1) rfl fun g5 B5 e5 Z5=>wpAny_bind (wpAny_letGo (wpAny_pure (wpAny_pure ?_))))));refine wpAny_bind (wpAny_seqItems Z5.own rfl (wpAny_bind (wpAny_newTuple ?_)));have size:g5.objs.size=s.heap.objs.size:=e5.trans (e4.trans (e3.trans (e2.trans e1)));have lt:z<g5.objs.size:=Heap.lt_size Z5.me;refine wpAny_bind (wpAny_bind (AY D Z5.new (n:=0) (by decide) rfl fun g6 B6 e6 Z6=>AY D Z6 (n:=1) (by decide) rfl fun g7 B7 e7 Z7=>?_));refine wpAny_pure (Exists.intro _ ⟨rfl,?_⟩);have pair:IsPair g7 g5.objs.size x y:=B7 _ _ (Nat.ne_of_gt lt) (B6 _ _ (Nat.ne_of_gt lt) (Heap.get?_push_size _ rfl));have off:Off z q u v s.heap g7:=(Off.byZ B1).then ((Off.byU B2).then ((Off.byQ B3).then ((Off.byV B4).then ((Off.byQ B5).then (Off.new.then ((Off.byZ B6).then (Off.byZ B7)))))))
  show T (.ref g5.objs.size) _;rw [size] at pair ⊢;exact go g7 _ _ _ _ (Mem.was _ _) Z7 pair off
 ·rw [if_neg (by decide)];refine wpAny_bind ?_;simp only [List.forIn_toArray,List.forIn_cons,List.forIn_nil];refine wpAny_bind (wpAny_bind (wpAny_holding (wpAny_bind (AZ D Z0 hx fun g2 B2 e2 Z2=>wpAny_pure (wpAny_pure ?_)))));refine wpAny_bind (wpAny_bind (wpAny_holding (wpAny_bind (zs_two D Z2 hy fun g4 B4 e4 Z4=>wpAny_pure (wpAny_pure (wpAny_pure ?_))))));refine wpAny_bind (wpAny_newTuple (hsz:=by show 2<=sizeLine;decide) (wpAny_pure ⟨_,rfl,?_⟩));have size:g4.objs.size=s.heap.objs.size:=e4.trans (e2.trans e0);have pair:IsPair (g4.push {cls:=.type "tuple",data:=.seq #[x,y]}) g4.objs.size x y:=Heap.get?_push_size _ rfl;show T (.ref g4.objs.size) _;rw [size] at pair ⊢;exact go _ _ _ _ _ hm Z4.new pair ((Off.byZ B0).then ((Off.byU B2).then ((Off.byV B4).then Off.new)))
theorem Df {c:Addr} {T:Unit->Shared->Prop} (me:ZRec s.heap z p q r k) (ho:∃o,s.heap.get? c=some o/\o.cls=.type "StopIteration")
  (go:∀h',Heap.ExtBut z s.heap h'->(∃o,h'.get? c=some o/\o.cls=.type "StopIteration")->T () {s with heap:=h'}):wpAny (model P w) A (setField (.ref z) 0 .none) T E s:=by
 obtain ⟨o,e,t⟩:=ho;have ne:c≠z:=by
  intro same;have both:=e.symm.trans (same▸me);rw [Option.some.inj both] at t;exact absurd t (by simp)
 exact wpAny_setField_rec me (show 0<5 by decide) fun h' _ B=>go h' B.extBut ⟨o,B.extBut _ _ ne e,t⟩
theorem zs_ends {T:Fin->Shared->Prop} (hh:A.handled=none) (D:ZipApart z p q u v l m) (hm:Mem r) (Z:Zs z p q u v l m r (.bool mark) a b i j xs ys s.heap) (short:xs[i]? =none\/ys[j]? =none)
  (go:∀h' c,Off z q u v s.heap h'->(∃o,h'.get? c=some o/\o.cls=.type "StopIteration")->E (.ref c) {s with heap:=h'}) :
  wpAny (model P w) A (Builtin.«zip.__next__» ⟨[.ref z],[]⟩) T E s:=by
 refine wpAny_bind (show wpAny _ _ (pure (Value.ref z,([]:List Value))) _ _ _ from wpAny_pure ?_);refine wpAny_bind (wpAny_field Z.me rfl (i:=2) rfl (wpAny_bind (wpAny_field Z.me rfl (i:=3) rfl (wpAny_bind (wpAny_seqItems Z.its rfl ?_)))));refine wpAny_bind (Dg D hm Z ?_ fun g0 B0 e0 Z0=>?_)
 ·rw [if_pos rfl];refine wpAny_bind (wpAny_rule (wpAny_bind (wpAny_field Z.me rfl (i:=4) rfl (wpAny_bind (AY D Z (n:=0) (by decide) rfl fun g1 B1 e1 Z1=>?_)))));refine wpAny_bind ?_;simp only [List.zipIdx,List.forIn_cons,List.forIn_nil];cases hx:xs[i]? with
  |none=>
   refine wpAny_bind (wpAny_bind (wpAny_onRaise (wpAny_bind (wpAny_nextOf_list_end hh Z1.one Z1.xl hx fun g2 c B2 ho=>?_))));exact Df (B2 _ _ D.i1z.symm Z1.me) ho fun g3 B3 ho3=>go g3 c ((Off.byZ B1).then ((Off.byU B2).then (Off.byZ B3))) ho3
  |some x=>
   have hy:ys[j]? =none:=short.resolve_left (by rw [hx];exact fun h=>nomatch h);refine wpAny_bind (wpAny_bind (wpAny_onRaise (wpAny_bind (AZ D Z1 hx fun g2 B2 e2 Z2=>wpAny_pure ?_))));refine wpAny_bind (wpAny_seqItems Z2.own rfl (wpAny_bind (De D Z2 (n:=0) rfl fun g3 B3 e3 Z3=>wpAny_bind (wpAny_letGo (wpAny_pure ?_)))));refine wpAny_bind (wpAny_bind (wpAny_onRaise (wpAny_bind (wpAny_nextOf_list_end hh Z3.two Z3.yl hy fun g4 c B4 ho=>?_))));exact Df (B4 _ _ D.i2z.symm Z3.me) ho fun g5 B5 ho5=>go g5 c ((Off.byZ B1).then ((Off.byU B2).then ((Off.byQ B3).then ((Off.byV B4).then (Off.byZ B5))))) ho5
 ·rw [if_neg (by decide)];refine wpAny_bind ?_;simp only [List.forIn_toArray,List.forIn_cons,List.forIn_nil];cases hx:xs[i]? with
  |none=>exact wpAny_bind (wpAny_bind (wpAny_holding (wpAny_bind (wpAny_nextOf_list_end hh Z0.one Z0.xl hx fun g2 c B2 ho=>go g2 c ((Off.byZ B0).then (Off.byU B2)) ho))))
  |some x=>
   have hy:ys[j]? =none:=short.resolve_left (by rw [hx];exact fun h=>nomatch h);refine wpAny_bind (wpAny_bind (wpAny_holding (wpAny_bind (AZ D Z0 hx fun g2 B2 e2 Z2=>wpAny_pure (wpAny_pure ?_)))));exact wpAny_bind (wpAny_bind (wpAny_holding (wpAny_bind (wpAny_nextOf_list_end hh Z2.two Z2.yl hy fun g4 c B4 ho=>go g4 c ((Off.byZ B0).then ((Off.byU B2).then (Off.byV B4))) ho))))
theorem B8 {T:Option Value->Shared->Prop} (D:ZipApart z p q u v l m) (hm:Mem r) (Z:Zs z p q u v l m r (.bool mark) a b i j xs ys s.heap) (hx:xs[i]? =some x) (hy:ys[j]? =some y)
  (go:∀h' r' mark' a' b',Mem r'->Zs z p q u v l m r' (.bool mark') a' b' (i+1) (j+1) xs ys h'->IsPair h' s.heap.objs.size x y->Off z q u v s.heap h'->T (some (.ref s.heap.objs.size)) {s with heap:=h'}) :
  wpAny (model P w) A (pyNext (.ref z)) T E s:=by
 have ty:s.TypeIs (.ref z) "zip":=⟨_,Z.me,rfl⟩
 have run:=zs_gives (P:=P) (w:=w) (A:=A.in1) (E:=fun _ _=>False) (T:=fun c s'=>T (some c) s') D hm Z hx hy go;unfold pyNext;refine wpAny_bind (wpAny_attempt (wpAny_callSpecial?_slot (name:=Str.ofString "__next__") ty F.slot_zip_next ?_));refine wpAny_call_entry F.slot_zip_next ty F.entry_zip_next (wpAny_mono run (fun f s' h=>?_) fun _ _ h=>h.elim) (F.args_zip_next_1 _);obtain ⟨c,e,h⟩:=h;exact ⟨c,e,wpAny_pure h⟩
theorem Dh {T:Option Value->Shared->Prop} (hh:A.handled=none) (D:ZipApart z p q u v l m) (hm:Mem r) (Z:Zs z p q u v l m r (.bool mark) a b i j xs ys s.heap) (short:xs[i]? =none\/ys[j]? =none)
  (go:∀h',Off z q u v s.heap h'->T none {s with heap:=h'}):wpAny (model P w) A (pyNext (.ref z)) T E s:=by
 have ty:s.TypeIs (.ref z) "zip":=⟨_,Z.me,rfl⟩
 unfold pyNext;refine wpAny_bind (wpAny_attempt (wpAny_callSpecial?_slot (name:=Str.ofString "__next__") ty F.slot_zip_next ?_));refine wpAny_call_entry F.slot_zip_next ty F.entry_zip_next (zs_ends hh D hm Z short fun h' c off ⟨o,e,t⟩=>?_) (F.args_zip_next_1 _);exact wpAny_bind (wpAny_isInstance (T:="StopIteration") (b:=true) ⟨o,e,t⟩ isSubtype_stop (wpAny_pure (go h' off)))
end
noncomputable def D5 (z p q u v l m:Addr) (i:Nat) (h:Heap):Prop:=∃r mark a b,Mem r/\ZRec h z p q r (.bool mark)/\IsPair h p (.ref u) (.ref v)/\IsPair h q a b/\h.IsListIter u l i/\h.IsListIter v m i
theorem Ds {p q u v:Addr} (D:ZipApart z p q u v l m):Turn P w K (.Name nm pos) (Itz K l m) [z,p,q,u,v] z (D5 z p q u v l m) where
 mem:=List.mem_cons_self
 obj:=fun i h ⟨_,_,_,_,_,me,its,own,⟨o1,e1,_,d1⟩,⟨o2,e2,_,d2⟩⟩ c hc=>by
  simp only [List.mem_cons,List.not_mem_nil,or_false] at hc;rcases hc with e|e|e|e|e<;>subst e
  ·exact ⟨_,me,fun _ t=>nomatch t⟩
  ·exact ⟨_,its,fun _ t=>nomatch t⟩
  ·exact ⟨_,own,fun _ t=>nomatch t⟩
  ·exact ⟨o1,e1,fun _ t=>by rw [d1] at t;cases t⟩
  ·exact ⟨o2,e2,fun _ t=>by rw [d2] at t;cases t⟩
 keep:=fun i h h' ⟨r,mark,a,b,hm,me,its,own,one,two⟩ kk=>
  ⟨r,mark,a,b,hm,kk z (by simp) _ me,kk p (by simp) _ its,kk q (by simp) _ own,one.at fun o x=>kk u (by simp) o x,two.at fun o x=>kk v (by simp) o x⟩
 item:=by
  rintro X rfl rfl rfl calm i pins s σ H E I hf ⟨r,mark,a,b,hm,me,its,own,one,two⟩ ⟨xs,ys,x,y,hx,hy,gx,gy⟩;obtain ⟨vs,rx,px,_⟩:=I.list hx;obtain ⟨ws,ry,py,_⟩:=I.list hy;obtain ⟨c,hc,rc⟩:=rx.get gx;obtain ⟨d,hd,rd⟩:=ry.get gy;refine B8 D hm ⟨me,its,own,one,two,px.isList,py.isList⟩ (x:=c) (y:=d) (by simpa using hc) (by simpa using hd) fun h' r' mark' a' b' hm' Z pair off=>⟨_,rfl,wpAny_pure ?_⟩
  have low:∀e∈[z,p,q,u,v],e<s.heap.objs.size:=by
   simp only [List.mem_cons,List.not_mem_nil,or_false];rintro e (rfl|rfl|rfl|rfl|rfl)
   ·exact Heap.lt_size me
   ·exact Heap.lt_size its
   ·exact Heap.lt_size own
   ·exact one.elim fun _ t=>Heap.lt_size t.1
   ·exact two.elim fun _ t=>Heap.lt_size t.1
  have I':Inv X pins σ (upd H s.heap.objs.size (.tup [x,y])) {s with heap:=h',toks:=s.toks}:=I.wA (ch:=[z,p,q,u,v]) hf (fun e o he t=>by
    simp only [List.mem_cons,List.not_mem_nil,or_false,not_or] at he;exact off e o he.1 he.2.2.1 he.2.2.2.1 he.2.2.2.2 t) (Nat.le_refl _) ⟨by show 2<=sizeLine;decide,[c,d],.cons rc (.cons rd .nil),⟨_,pair,rfl,0,rfl⟩⟩
  refine ⟨.ref s.heap.objs.size,_,I',rfl,⟨_,x,y,I.hok.fresh (Nat.le_refl _),rfl,rfl,fun _ t=>by rw [I.pV t hx];exact gx,fun _ t=>by rw [I.pV t hy];exact gy⟩,⟨r',mark',a',b',hm',Z.me,Z.its,Z.own,Z.one,Z.two⟩,fun e he=>?_⟩
  rw [aw (Nat.ne_of_lt (low e he))];exact (hf e he).1
 done:=by
  rintro X rfl rfl rfl calm i pins s σ H E I hf ⟨r,mark,a,b,hm,me,its,own,one,two⟩ ⟨xs,ys,hx,hy,short⟩;obtain ⟨vs,rx,px,_⟩:=I.list hx;obtain ⟨ws,ry,py,_⟩:=I.list hy;have nx:=rx.length;have ny:=ry.length;refine Dh (I.ok.hd calm) D hm ⟨me,its,own,one,two,px.isList,py.isList⟩ (short.imp (fun t=>Array.getElem?_eq_none (by simp;omega)) fun t=>Array.getElem?_eq_none (by simp;omega)) fun h' off=>⟨rfl,I.wB (t':=s.toks) (ch:=[z,p,q,u,v]) hf fun e o he t=>?_⟩
  simp only [List.mem_cons,List.not_mem_nil,or_false,not_or] at he;exact off e o he.1 he.2.2.1 he.2.2.2.1 he.2.2.2.2 t
 self:=fun A i s Q E ⟨r,mark,a,b,_,me,_⟩ h=>by
  have ty:s.TypeIs (.ref z) "zip":=⟨_,me,rfl⟩
  refine wpAny_pyIter_slot ty F.slot_zip_iter (wpAny_call_entry F.slot_zip_iter ty F.entry_zip_iter ?_ (F.args_zip_iter_1 _));refine wpAny_pure (a:=Fin.done (.ret (.ref z))) ?_;exact ⟨_,rfl,"zip",_,ty,F.slot_zip_next.lookup,h⟩
inductive AW:Hp->List (V×V)->List V->Hp->Prop
 |nil {G:Hp}:AW G [] [] G
 |cons {G G':Hp} {T:Addr} {x y:V} {ps:List (V×V)} {vs:List V}:G T=none->AW (upd G T (.tup [x,y])) ps vs G'->AW G ((x,y)::ps) (.ref T::vs) G'
theorem upd_swap {b:Addr} (h:a≠b):upd (upd G a o) b o'=upd (upd G b o') a o:=by
 funext c
 by_cases e:c=a
 ·subst e;rw [ar,aw h,ar]
 ·by_cases e2:c=b
  ·subst e2;rw [ar,aw e,ar]
  ·rw [aw e2,aw e,aw e,aw e2]
theorem rC:upd (upd G a o) a o'=upd G a o':=by
 funext c
 by_cases e:c=a
 ·subst e;rw [ar,ar]
 ·rw [aw e,aw e,aw e]
section
variable {R:Result->Shared->Prop} {p q u v S:Addr} {res:Value} 
theorem zip_loop (hh:A.handled=none) (D:ZipApart z p q u v l m) (hS:S∉[z,p,q,u,v]) :
  ∀(ps:List (V×V)) (i:Nat) (s:Shared) (G:Hp) (acc:List V),(xs.zip ys).drop i=ps->Inv X pins σ (upd G S (.lst acc)) s->G S=none->(∀b∈[z,p,q,u,v],AX X pins (upd G S (.lst acc)) b)->D5 z p q u v l m i s.heap ->
   SqL X.K G l xs->SqL X.K G m ys->acc.length+ps.length<=sizeLine ->
   (∀vs G' s',AW G ps vs G'->G' S=none->Inv X pins σ (upd G' S (.lst (acc++vs))) s'->R (.ok (.ret res)) s') ->
   codeAny (model X.prog X.w) A (.builtin "list.extend.loop" ⟨[.ref S,.ref z,res],[]⟩) R s:=by
 intro ps
 induction ps with
 |nil=>
  intro i s G acc hd I hG hf ⟨r,mark,a,b,hm,me,its,own,one,two⟩ hx hy hz fin;have sm:b9 G (upd G S (.lst acc)):=b9.upd hG;obtain ⟨c,rx,px,_⟩:=I.list (sm.lst hx);obtain ⟨d,ry,py,_⟩:=I.list (sm.lst hy);have nx:=rx.length;have ny:=ry.length;have short:min xs.length ys.length<=i:=by
   have:=congrArg List.length hd;rw [List.length_drop,List.length_zip,List.length_nil] at this;omega
  refine codeAny_builtin F.entry_extend_loop ?_;rw [Around.under_plainId F.plain_extend_loop _];refine wpAny_bind (Dh (A:=A.in1) hh D hm ⟨me,its,own,one,two,px.isList,py.isList⟩ ?_ fun h' off=>wpAny_pure ?_)
  ·by_cases h:xs.length<=i
   ·exact .inl (Array.getElem?_eq_none (by simp;omega))
   ·exact .inr (Array.getElem?_eq_none (by simp;omega))
  ·have I':Inv X pins σ (upd G S (.lst acc)) {s with heap:=h',toks:=s.toks}:=I.wB (ch:=[z,p,q,u,v]) hf fun e o he t=>by
    simp only [List.mem_cons,List.not_mem_nil,or_false,not_or] at he;exact off e o he.1 he.2.2.1 he.2.2.2.1 he.2.2.2.2 t
   exact fin [] G _ .nil hG (by rw [List.append_nil];exact I')
 |cons pr ps ih=>
  intro i s G acc hd I hG hf ⟨r,mark,a,b,hm,me,its,own,one,two⟩ hx hy hz fin;obtain ⟨x,y⟩:=pr;have sm:b9 G (upd G S (.lst acc)):=b9.upd hG;obtain ⟨vs,rx,px,_⟩:=I.list (sm.lst hx);obtain ⟨ws,ry,py,_⟩:=I.list (sm.lst hy);have here:(xs.zip ys)[i]? =some (x,y):=by
   have:=congrArg (fun t=>t[0]?) hd;simpa [List.getElem?_drop] using this
  obtain ⟨gx,gy⟩:=List.getElem?_zip_eq_some.mp here;obtain ⟨c,hc,rc⟩:=rx.get gx;obtain ⟨d,hdd,rd⟩:=ry.get gy;refine codeAny_builtin F.entry_extend_loop ?_;rw [Around.under_plainId F.plain_extend_loop _];refine wpAny_bind (B8 (A:=A.in1) D hm ⟨me,its,own,one,two,px.isList,py.isList⟩ (x:=c) (y:=d) (by simpa using hc) (by simpa using hdd) fun h' r' mark' a' b' hm' Z pair off=>?_);have low:∀e∈[z,p,q,u,v],e<s.heap.objs.size:=by
   simp only [List.mem_cons,List.not_mem_nil,or_false];rintro e (rfl|rfl|rfl|rfl|rfl)
   ·exact Heap.lt_size me
   ·exact Heap.lt_size its
   ·exact Heap.lt_size own
   ·exact one.elim fun _ t=>Heap.lt_size t.1
   ·exact two.elim fun _ t=>Heap.lt_size t.1
  generalize hT:s.heap.objs.size=T at *;have I1:Inv X pins σ (upd (upd G S (.lst acc)) T (.tup [x,y])) {s with heap:=h',toks:=s.toks}:=I.wA (ch:=[z,p,q,u,v]) hf (fun e o he t=>by
    simp only [List.mem_cons,List.not_mem_nil,or_false,not_or] at he;exact off e o he.1 he.2.2.1 he.2.2.2.1 he.2.2.2.2 t) (Nat.le_of_eq hT) ⟨by show 2<=sizeLine;decide,[c,d],.cons rc (.cons rd .nil),⟨_,pair,rfl,0,rfl⟩⟩
  have fT:(upd G S (.lst acc)) T=none:=I.hok.fresh (Nat.le_of_eq hT);have TS:T≠S:=fun e=>by rw [e,ar] at fT;cases fT
  have gT:G T=none:=by rw [aw TS] at fT;exact fT
  rw [upd_swap TS.symm] at I1;obtain ⟨_,its1,n1,r1,l1,e1⟩:=I1.lstM ar;have sz:its1.length=acc.length:=l1.symm;have le:acc.length+(ps.length+1)<=sizeLine:=hz;refine wpAny_bind (wpAny_updateSeq e1 rfl (wpAny_pure ⟨plainId_quiet F.plain_extend_loop _,?_⟩) (by rw [List.size_toArray];omega) (by rw [Array.size_push,List.size_toArray];omega));have I2:Inv X pins σ (upd (upd (upd G T (.tup [x,y])) S (.lst acc)) S (.lst (acc++[.ref T]))) {s with heap:=h'.update S (Obj.mapSeq (·.push (.ref T))),toks:=s.toks}:=
   I1.lset (its':=its1++[.ref T]) ar e1 (by simp) (r1.append (.cons (show RelV (.ref T) (.ref T) from rfl) .nil)) (by rw [List.length_append,List.length_singleton];omega)
  rw [rC] at I2;have kk:∀e∈[z,p,q,u,v],∀o,h'.get? e=some o->(h'.update S (Obj.mapSeq (·.push (.ref T)))).get? e=some o:=fun e he o t=>(Heap.get?_update_other _ _ fun w:S=e=>hS (by rw [w];exact he)).trans t;refine ih (i+1) _ (upd G T (.tup [x,y])) (acc++[.ref T]) ?_ I2 (by rw [aw TS.symm];exact hG) (fun e he=>?_) ⟨r',mark',a',b',hm',kk z (by simp) _ Z.me,kk p (by simp) _ Z.its,kk q (by simp) _ Z.own,Z.one.at fun o t=>kk u (by simp) o t,Z.two.at fun o t=>kk v (by simp) o t⟩
   ((b9.upd gT).lst hx) ((b9.upd gT).lst hy) (by rw [List.length_append,List.length_singleton];omega) fun vs G' s' L g I'=>fin (.ref T::vs) G' s' (.cons gT L) g (by rw [List.append_assoc] at I';exact I')
  ·have:=congrArg List.tail hd;rw [List.tail_drop,List.tail_cons] at this;exact this
  ·obtain ⟨h0,h1⟩:=hf e he;refine ⟨?_,h1⟩
   have:e≠S:=fun w=>hS (w▸he);rw [aw this] at h0 ⊢;rw [aw (Nat.ne_of_lt (low e he))];exact h0
theorem C6:typeLookup (.type "zip") "__len__"=pure none:=by rw [typeLookup_type,builtinLookup_eq_fast];kernel_rfl
theorem zG:typeLookup (.type "zip") "__length_hint__"=pure none:=by rw [typeLookup_type,builtinLookup_eq_fast];kernel_rfl
theorem xG {Q:Mq} (hh:A.handled=none) (D:ZipApart z p q u v l m) (I:Inv X pins σ H s) (hf:∀b∈[z,p,q,u,v],AX X pins H b)
  (st:D5 z p q u v l m 0 s.heap) (hx:SqL X.K H l xs) (hy:SqL X.K H m ys) (hz:(xs.zip ys).length<=sizeLine)
  (fin:∀S vs G' s',H S=none->AW H (xs.zip ys) vs G'->G' S=none->Inv X pins σ (upd G' S (.lst vs)) s'->Q (.ref S) s'):wpAny (model X.prog X.w) A (call (.type "list") [.ref z]) Q E s:=by
 have low:∀e∈[z,p,q,u,v],e<s.heap.objs.size:=by
  obtain ⟨_,_,_,_,_,me,its,own,one,two⟩:=st;simp only [List.mem_cons,List.not_mem_nil,or_false];rintro e (rfl|rfl|rfl|rfl|rfl)
  ·exact Heap.lt_size me
  ·exact Heap.lt_size its
  ·exact Heap.lt_size own
  ·exact one.elim fun _ t=>Heap.lt_size t.1
  ·exact two.elim fun _ t=>Heap.lt_size t.1
 have fresh:H s.heap.objs.size=none:=I.hok.fresh (Nat.le_refl _);have I0:Inv X pins σ (upd H s.heap.objs.size (.lst [])) {s with heap:=s.heap.push {cls:=.type "list",data:=.seq #[]},toks:=s.toks}:=I.lnew (its:=[]) .nil (Nat.zero_le _);have hS:s.heap.objs.size∉[z,p,q,u,v]:=fun w=>Nat.lt_irrefl _ (low _ w);generalize hSe:s.heap.objs.size=S at *;have turned:=Ds (P:=X.prog) (w:=X.w) (K:=X.K) (nm:="x") (pos:=⟨0,0,0,0⟩) D;have st0:D5 z p q u v l m 0 (s.heap.push {cls:=.type "list",data:=.seq #[]}):=turned.keep 0 _ _ st fun b _ o t=>Heap.get?_push_of_some _ t;refine callType_codes (Q₁:=fun obj s₁=>obj=.ref S/\s₁={s with heap:=s.heap.push {cls:=.type "list",data:=.seq #[]}}) F.called_list (F.typeCall_list_1 _) F.entry_list_init (code_list_new _ ⟨by rw [hSe],rfl⟩) fun obj s₁ h₁=>?_;obtain ⟨rfl,rfl⟩:=h₁;obtain ⟨_,its0,n0,_,l0,e0⟩:=I0.lstM ar;have nil0:its0=[]:=List.length_eq_zero_iff.mp l0.symm;subst nil0;refine ⟨⟨_,e0,rfl⟩,F.args_list_init_2 _ _,?_⟩
 refine wpAny_bind (wpAny_bind (wpAny_seqItems e0 rfl (wpAny_pure ?_)));refine wpAny_bind (wpAny_updateSeq e0 rfl ?_);have I1:=I0.lset (f:=fun _=>#[]) (its':=[]) (ys:=[]) (t':=s.toks) ar e0 rfl .nil (Nat.zero_le _);rw [rC] at I1;have st1:=turned.keep 0 _ ((s.heap.push {cls:=.type "list",data:=.seq #[]}).update S (Obj.mapSeq fun _=>#[])) st0 fun b hb o t=>(Heap.get?_update_other _ _ fun w:S=b=>hS (by rw [w];exact hb)).trans t;obtain ⟨_,its1,n1,_,l1,e1⟩:=I1.lstM ar;have nil1:its1=[]:=List.length_eq_zero_iff.mp l1.symm;subst nil1;have ty:∀{s':Shared},D5 z p q u v l m 0 s'.heap->s'.TypeIs (.ref z) "zip":=fun ⟨_,_,_,_,_,me,_⟩=>⟨_,me,rfl⟩
 have other:Builtin.List.listSameRef (.ref S) (.ref z)=false:=by simpa [Builtin.List.listSameRef] using fun e:S=z=>hS (by rw [e];simp)
 refine wpAny_bind (wpAny_letGo (wpAny_bind (wpAny_typeOf (ty st1) ?_)));rw [other,if_neg (by decide)];refine wpAny_bind (turned.self _ 0 _ _ _ st1 (wpAny_bind (wpAny_holding ?_)));refine wpAny_bind (wpAny_specialOf (ty st1) C6 (wpAny_bind (wpAny_specialOf (name:=Str.ofString "__length_hint__") (ty st1) zG (wpAny_pure ?_))));rw [Bool.true_or,if_pos rfl];refine wpAny_bind (wpAny_rule (wpAny_bind (wpAny_bind (wpAny_updateSeq e1 rfl ?_))));have I2:=I1.lset (f:=fun t=>t.push .none) (its':=[.none]) (ys:=[.non]) (t':=s.toks) ar e1 rfl (.cons rfl .nil) (by show 1<=sizeLine;decide);rw [rC] at I2;obtain ⟨_,its2,n2,r2,l2,e2⟩:=I2.lstM ar;refine wpAny_updateSeq e2 rfl ?_ (by rw [List.size_toArray,<- l2];show 1<=sizeLine;decide) (by rw [Array.size_pop,List.size_toArray,<- l2];show 1-1<=sizeLine+1;decide);have one2:∃c,its2=[c]:=by match its2,l2 with|[c],_=>exact ⟨c,rfl⟩
 obtain ⟨c2,one2⟩:=one2;subst one2;have I3:=I2.lset (f:=fun t=>t.pop) (its':=[]) (ys:=[]) (t':=s.toks) ar e2 rfl .nil (Nat.zero_le _);rw [rC] at I3;have away:∀{h:Heap} {f:Array Value->Array Value},∀b∈[z,p,q,u,v],∀o,h.get? b=some o->(h.update S (Obj.mapSeq f)).get? b=some o:=fun b hb o t=>(Heap.get?_update_other _ _ fun w:S=b=>hS (by rw [w];exact hb)).trans t;have st3:=turned.keep 0 _ _ (turned.keep 0 _ _ st1 (away (f:=fun t=>t.push .none))) (away (f:=fun t=>t.pop));refine wpAny_pure ⟨plainId_quiet F.plain_extend_loop _,zip_loop (A:=A.in1) hh D hS (xs.zip ys) 0 _ H [] rfl I3 fresh (fun b hb=>?_) st3 hx hy (by simpa using hz) fun vs G' s' L g I'=>⟨rfl,fin S vs G' s' fresh L g I'⟩⟩;obtain ⟨h0,h1⟩:=hf b hb;exact ⟨by rw [aw (Nat.ne_of_lt (low b hb))];exact h0,h1⟩
end
section
variable {W:i4} {a:Expr} {pos1:Pos} 
theorem vO:∀{xs ys:List V} {ds es:List Dat} {vs:List V} {F G G':Hp},AW G (xs.zip ys) vs G'->b9 F G->aA K F ds xs->aA K F es ys->∃F',Step F G F' G'/\aA K F' (l3 ds es) vs
 |xs,ys,[],es,vs,F,G,G',L,sm,h1,h2=>by
  cases (show xs=[] from h1);cases L;exact ⟨F,Step.refl sm,by simp [l3,aA]⟩
 |xs,ys,d::ds,[],vs,F,G,G',L,sm,h1,h2=>by
  cases (show ys=[] from h2);rw [List.zip_nil_right] at L;cases L;exact ⟨F,Step.refl sm,by simp [l3,aA]⟩
 |xs,ys,d::ds,e::es,vs,F,G,G',L,sm,h1,h2=>by
  obtain ⟨x,xs,rfl,qx,h1⟩:=h1;obtain ⟨y,ys,rfl,qy,h2⟩:=h2;cases L with
  |@cons _ _ T _ _ _ vs gT L=>
   have st:Step F G (upd F T (.tup [x,y])) (upd G T (.tup [x,y])):=Step.lay sm gT;obtain ⟨F',s',q'⟩:=vO L st.fh (h1.mono st.ff) (h2.mono st.ff);refine ⟨F',st.trans s',.ref T,vs,rfl,⟨T,[x,y],rfl,s'.ff.tup (SqT.of ar),x,[y],rfl,(qx.mono st.ff).mono s'.ff,y,[],rfl,(qy.mono st.ff).mono s'.ff,rfl⟩,q'⟩
noncomputable def fLZ (fa fb:ak->M Dat):ak->M Dat:=fun ρ=>(BI fa fb ρ).bind dw
noncomputable def Made (X:Cx) (pins:Vp) (σ:St) (R:Addr->Addr->Hp->Prop) (t:Value) (s:Shared):Prop:=
 ∃z p q u v l m H,t=.ref z/\ZipApart z p q u v l m/\Inv X pins σ H s/\(∀b∈[z,p,q,u,v],AX X pins H b)/\D5 z p q u v l m 0 s.heap/\R l m H
theorem ev_zip (hg:Gl X "zip") (hm:X.mg "zip"=none) (ha:PE X a ta) (hb:PE X b tb) (hs:starEach [a,b] X.env=[(false,eval a X.env),(false,eval b X.env)]) (hs2:starEach [b] X.env=[(false,eval b X.env)])
  {R:Addr->Addr->Hp->Prop} (I:Inv X pins σ H s)
  (h:ta σ H fun x H1=>tb σ H1 fun y H2=>∃c d,x=.ref c/\y=.ref d/\(∃xs,SqL X.K H2 c xs)/\(∃ys,SqL X.K H2 d ys)/\R c d H2) :
  wpAny (model X.prog X.w) X.A (eval (.Call (.Name "zip" p) [a,b] [] pos) X.env) (Made X pins σ R) X.xe s:=by
 have both:PA X [a,b] (wC ta (wC tb tNil)):=bj ha (bj hb fg hs2) (by rw [hs,hs2]);have args:=both pos pins s σ H (fun vs H1=>match vs with|[x,y]=>∃c d,x=.ref c/\y=.ref d/\(∃xs,SqL X.K H1 c xs)/\(∃ys,SqL X.K H1 d ys)/\R c d H1|_=>False) I h;refine Call_ (oQ I hg hm boot_zip (PyProof.Rows.callWith_type1 (thn args fun us s1 ⟨vs,H1,I1,r1,q1⟩=>?_) (by rw [hs,hs2]) (by rw [hs2];rfl)))
 match vs,r1,q1 with
 |[x,y],r1,⟨c,d,ec,ed,⟨xs,hx⟩,⟨ys,hy⟩,go⟩=>
  subst ec ed;obtain ⟨_,_,rfl,rc,rd⟩:=r1.two;cases rc;cases rd;obtain ⟨vs,rx,px,_⟩:=I1.list hx;obtain ⟨ws,ry,py,_⟩:=I1.list hy;have lc:c<s1.heap.objs.size:=px.isList.elim fun _ t=>Heap.lt_size t.1;have ld:d<s1.heap.objs.size:=py.isList.elim fun _ t=>Heap.lt_size t.1;refine call_zip_2 px.isList py.isList fun h' me its own one two _ old=>?_;have new:∀e∈[s1.heap.objs.size+4,s1.heap.objs.size+2,s1.heap.objs.size+3,s1.heap.objs.size,s1.heap.objs.size+1],s1.heap.objs.size<=e:=by
   simp only [List.mem_cons,List.not_mem_nil,or_false];rintro e (rfl|rfl|rfl|rfl|rfl)<;>omega
  exact ⟨_,_,_,_,_,c,d,H1,rfl,zipApart_new lc ld,I1.kept (t':=s1.toks) old,fun e he=>I1.fpOk (new e he) (I1.hok.fresh (new e he)),⟨_,_,_,_,Mem.no,me,its,own,one,two⟩,go⟩
theorem de_lzip (hml:X.mg "list"=none) (hm:X.mg "zip"=none) (ha:DE K W false X a fa) (hb:DE K W false X b fb) (hc:X.calm=true:=by rfl) (hgl:Gl X "list":=by rfl) (hg:Gl X "zip":=by rfl) (hs:starEach [a,b] X.env=[(false,eval a X.env),(false,eval b X.env)]:=by rfl) (hs2:starEach [b] X.env=[(false,eval b X.env)]:=by rfl)
  (hst:starEach [.Call (.Name "zip" p1) [a,b] [] pos1] X.env=[(false,eval (.Call (.Name "zip" p1) [a,b] [] pos1) X.env)]:=by rfl) (hK:X.K=K:=by rfl) :
  DE K W true X (.Call (.Name "list" p) [.Call (.Name "zip" p1) [a,b] [] pos1] [] pos) (fLZ fa fb):=by
 subst hK;intro pins s σ H Q I h;obtain ⟨F,ρ,r,sm,post⟩:=h;refine wpAny_Call_Name_kw (oQ I hgl hml PyProof.Rows.boot_list ?_ (by decide) (by decide));refine PyProof.Rows.callWith_type1 ?_ hst rfl;rw [hst];refine Calls.spliced_cons (thn (ev_zip (R:=fun l m H2=>∃xs ys,SqL X.K H2 l xs/\SqL X.K H2 m ys/\(xs.zip ys).length<=sizeLine/\∀S vs G',H2 S=none->AW H2 (xs.zip ys) vs G'->G' S=none->Q (.ref S) (upd G' S (.lst vs))) hg hm ha hb hs hs2 I ?_) fun t s1 made=>?_)
 ·refine bL r sm (fun e he=>?_) fun d hd v F1 H1 s1 q1=>?_
  ·have z:fLZ fa fb ρ=.error e:=by unfold fLZ BI;rw [he];rfl
   rw [z] at post;exact post
  ·refine bL (r.mono s1.ff) s1.fh (fun e he=>?_) fun d2 hd2 v2 F2 H2 s2 q2=>?_
   ·have z:fLZ fa fb ρ=.error e:=by unfold fLZ BI;rw [hd,az,he];rfl
    rw [z] at post;exact W.mono post s1
   ·have z:fLZ fa fb ρ=((oh d).bind fun ds=>(oh d2).bind fun es=>.ok (l3 ds es)).bind dw:=by unfold fLZ BI;rw [hd,az,hd2,az]
    rw [z] at post;have post:=(post.step s1).step s2;cases d with
    |lst ds=>
     cases d2 with
     |lst es=>
      obtain ⟨c,xs,e,t,zz⟩:=q1;obtain ⟨c2,ys,e2,t2,zz2⟩:=q2;have t':=s2.ff.lst t;have len:(xs.zip ys).length=(l3 ds es).length:=by rw [jt,List.length_zip,zz.length,zz2.length]
      have post:aI X.K W true F2 H2 (dw (l3 ds es)) Q:=post;unfold dw at post;by_cases hl:(l3 ds es).length<=sizeLine
      ·rw [if_pos hl] at post;refine ⟨c,c2,e,e2,⟨xs,s2.fh.lst t'⟩,⟨ys,s2.fh.lst t2⟩,xs,ys,s2.fh.lst t',s2.fh.lst t2,by rw [len];exact hl,fun S vs G' hS L gS=>?_⟩
       obtain ⟨F',st,q⟩:=vO L s2.fh (zz.mono s2.ff) zz2;exact post _ F' _ (st.trans (Step.grow st.fh gS)) ⟨S,vs,rfl,ar,st.fh.free gS,hS,q⟩
      ·rw [if_neg hl] at post;exact (W.ns post).elim
     |_=>exact (W.ns post).elim
    |_=>exact (W.ns post).elim
 ·obtain ⟨z,p,q,u,v,l,m,H2,rfl,D,I2,hf,st,xs,ys,hx,hy,hz,go⟩:=made;refine wpAny_pure ?_;exact xG (I.ok.hd hc) D I2 hf st hx hy hz fun S vs G' s' hS L gS I'=>⟨.ref S,_,I',rfl,go S vs G' hS L gS⟩
end
noncomputable def repD:Dat->Dat->M Dat
 |.lst ds,.int k=>if (decide (-(2^63)<=k)&&decide (k<2^63)&&decide (ds.length*k.toNat<=sizeLine))=true then .ok (.lst (List.replicate k.toNat ds).flatten) else stk
 |_,_=>stk
@[simp] theorem e_rep {ds:List Dat} {k:Int} (h0: -9223372036854775808<=k) (h1:k<9223372036854775808) (h2:ds.length*k.toNat<=16777216):repD (.lst ds) (.int k)=.ok (.lst (List.replicate k.toNat ds).flatten):=by
 show (if _ then _ else _)=_;rw [if_pos];simp only [Bool.and_eq_true,decide_eq_true_eq];exact ⟨⟨by omega,by omega⟩,by rw [sizeLine_eq];exact h2⟩
theorem aA.rep {K:Pn} {F:Hp} {ds:List Dat} {xs:List V} (h:aA K F ds xs):∀m:Nat,aA K F (List.replicate m ds).flatten (List.replicate m xs).flatten
 |0=>rfl
 |m+1=>by
  rw [List.replicate_succ,List.replicate_succ,List.flatten_cons,List.flatten_cons];exact h.append (aA.rep h m)
section
variable {W:i4} {a:Expr} 
theorem de_rep (ha:DE K W true X a fa) (hb:DE K W false X b fb):DE K W true X (.BinOp a .Mult b pos) (f2 repD fa fb):=by
 refine PE.imp (pe_op op_rep ha hb) fun σ H Q h=>?_;obtain ⟨F,ρ,r,s,p⟩:=h;refine bL r s (fun e he=>p.err (by unfold f2;rw [he];rfl)) fun x hx v F1 H1 s1 q1=>?_;refine bL (r.mono s1.ff) s1.fh (fun e he=>(p.step s1).err (by unfold f2;rw [hx];show (fb ρ).bind _=_;rw [he];rfl)) fun y hy u F2 H2 s2 q2=>?_;have e:f2 repD fa fb ρ=repD x y:=by unfold f2;rw [hx];show (fb ρ).bind _=_;rw [hy];rfl
 rw [e] at p;cases x with
 |lst ds=>
  cases y with
  |int k=>
   obtain ⟨l,xs,e1,t1,t2,t3,t4⟩:=q1;have e2:u=.int k:=q2;have p':aI K W true F H (if (decide (-(2^63)<=k)&&decide (k<2^63)&&decide (ds.length*k.toNat<=sizeLine))=true then .ok (.lst (List.replicate k.toNat ds).flatten) else stk) Q:=p;by_cases hc:(decide (-(2^63)<=k)&&decide (k<2^63)&&decide (ds.length*k.toNat<=sizeLine))=true
   ·rw [if_pos hc] at p';simp only [Bool.and_eq_true,decide_eq_true_eq] at hc;have t4':=t4.mono s2.ff;refine ⟨l,k,xs,e1,e2,s2.hh l _ t1,hc.1.1,hc.1.2,by rw [t4.length];exact hc.2,fun z hz=>?_⟩
    exact (p'.step (s1.trans s2)).lst s2.fh (t4'.rep k.toNat) hz
   ·rw [if_neg hc] at p';exact p'.stuck
  |_=>exact aI.stuck p
 |_=>exact aI.stuck p
end
structure Owns (K:Pn) (F G H:Hp) (ds:List Dat) (vs:List V):Prop where
 len:vs.length=ds.length
 get:∀(k:Nat) (d:Dat),ds[k]? =some d->∃a xs es,vs[k]? =some (.ref a)/\d=.lst es/\H a=some (.lst xs)/\F a=none/\G a=none/\aA K F es xs
 ap:∀(j k:Nat) (a:Addr),vs[j]? =some (.ref a)->vs[k]? =some (.ref a)->j=k
section
variable {vs:List V}
theorem Owns.back {G':Hp} (o:Owns K F G H ds vs) (s:b9 G' G):Owns K F G' H ds vs where
 len:=o.len
 get:=fun k d e=>by
  obtain ⟨a,xs,es,h1,h2,h3,h4,h5,h6⟩:=o.get k d e;exact ⟨a,xs,es,h1,h2,h3,h4,s.free h5,h6⟩
 ap:=o.ap
end
noncomputable def rowAt (rs:List Dat) (a:Int):M (Nat×List Dat):=match ixN rs.length a with
 |some j=>(match rs[j]? with
  |some (.lst es)=>.ok (j,es)
  |_=>.error .stuck)
 |none=>.error .stuck
noncomputable def setRow (rs:List Dat) (je:Nat×List Dat) (b:Int) (x:Dat):M (List Dat):=match ixN je.2.length b with
 |some k=>.ok (rs.set je.1 (.lst (je.2.set k x)))
 |none=>.error .stuck
noncomputable def rows3 (i:Nat) (rs:List Dat) (x:Dat) (je:Nat×List Dat) (fB:ak->M Dat) (ρ:ak):M Flo:=(fB (ρ.set i none)).bind fun b=>(asI b).bind fun b=>(setRow rs je b x).bind fun rs'=>.ok (.nx (ρ.set i (some (.lst rs'))))
noncomputable def i9 (i:Nat) (rs:List Dat) (x:Dat) (fA fB:ak->M Dat) (ρ:ak):M Flo:=(fA (ρ.set i none)).bind fun a=>(asI a).bind fun a=>(rowAt rs a).bind fun je=>rows3 i rs x je fB ρ
structure Ys (z p q u v l m:Addr) (r k a b:Value) (i j:Nat) (xs ys:Array Value) (h:Heap):Prop where
 me:ZRec h z p q r k
 its:IsPair h p (.ref u) (.ref v)
 own:IsPair h q a b
 one:h.IsTupleIter u l i
 two:h.IsTupleIter v m j
 xl:h.IsTuple l xs
 yl:h.IsTuple m ys
structure RepR (K:Pn) (F0 H0 FB:Hp) (i:Nat) (a:Addr) (ys:List V) (rs:List Dat) (F H:Hp) (σ:St) (ρ:ak):Prop where
 r:Rep K F0 H0 FB [] F H σ ρ
 sl:σ[i]? =some (some (.ref a))
 hp:H a=some (.lst ys)
 fa:F a=none
 ha:H0 a=none
 nm:∀m:Nat,ys[m]?≠some (.ref a)
 ow:Owns K F H0 H rs ys
section
variable {rs:List Dat} 
theorem RepR.base {FB':Hp} (h:RepR K F0 H0 FB i a ys rs F H σ ρ) (s:b9 FB' FB):RepR K F0 H0 FB' i a ys rs F H σ ρ:=⟨h.r.base s,h.sl,h.hp,h.fa,h.ha,h.nm,h.ow⟩
end
section
variable {κ:Type} [DecidableEq κ]
noncomputable def dropK (kvs:List (κ×V)) (k:κ):List (κ×V):=kvs.filter fun kv=>decide (kv.1≠k)
theorem zt.getD {o:Option V} {u:Option Value} {d:V} {d':Value} (r:zt o u) (rd:RelV d d'):RelV (o.getD d) (u.getD d'):=by
 cases o with
 |none=>cases u with
  |none=>exact rd
  |some _=>exact (show False from r).elim
 |some _=>cases u with
  |none=>exact (show False from r).elim
  |some _=>exact r
theorem KV.drop {kvs:List (κ×V)} {vs:List (κ×Value)} (r:KV kvs vs) (k:κ):KV (dropK kvs k) (without vs k):=by
 unfold KV at r ⊢;unfold dropK without
 induction r with
 |nil=>exact .nil
 |@cons p q ps qs h t ih=>
  obtain ⟨h1,h2⟩:=h;rw [List.filter_cons,List.filter_cons];by_cases e:p.1=k
  ·have a:¬decide (p.1≠k)=true:=by simp [e]
   have b:¬decide (q.1≠k)=true:=by simp [h1.symm.trans e]
   rw [if_neg a,if_neg b];exact ih
  ·have e':¬q.1=k:=fun z=>e (h1.trans z);have a:decide (p.1≠k)=true:=by simp [e]
   have b:decide (q.1≠k)=true:=by simp [e']
   rw [if_pos a,if_pos b];exact .cons ⟨h1,h2⟩ ih
theorem KV.length {kvs:List (κ×V)} {vs:List (κ×Value)} (r:KV kvs vs):kvs.length=vs.length:=Paired.length r
end
noncomputable abbrev KT (H:Hp):List (List Key×V)->List (List Key×Addr×Value)->Prop:=Paired fun p q=>p.1=q.1/\H q.2.1=some (.tup (p.1.map kV))/\RelV p.2 q.2.2
theorem KT.keeps {kvs:List (List Key×V)} {xs:List (List Key×Addr×Value)} (r:KT H kvs xs) (ht:∀b ys,H b=some (.tup ys)->H' b=some (.tup ys)):KT H' kvs xs:=
 Paired.mapP r fun _ _ z=>⟨z.1,ht _ _ z.2.1,z.2.2⟩
structure M1 (X:Cx) (o:Expr) (m:Str) (apos:Pos) (e:Expr) (cpos:Pos):Prop where
 base:attributeBase o m X.env (eval o X.env)=eval o X.env
 few:((backTo cpos (starEach [e] X.env)).all (fun x=> !x.1)&&(backToKw cpos (keywordEach [] X.env)).all (fun x=>x.1.isSome)
  &&decide (([e]:List Expr).length+([]:List Keyword).length+(if ([]:List Keyword).isEmpty then 0 else 1)<30))=true
 line:(apos.endLine==cpos.line)=true
 trees:backTo cpos (starEach [e] X.env)=[(false,eval e X.env)]
structure M2 (X:Cx) (o:Expr) (m:Str) (apos:Pos) (e f:Expr) (cpos:Pos):Prop where
 base:attributeBase o m X.env (eval o X.env)=eval o X.env
 few:((backTo cpos (starEach [e,f] X.env)).all (fun x=> !x.1)&&(backToKw cpos (keywordEach [] X.env)).all (fun x=>x.1.isSome)
  &&decide (([e,f]:List Expr).length+([]:List Keyword).length+(if ([]:List Keyword).isEmpty then 0 else 1)<30))=true
 line:(apos.endLine==cpos.line)=true
 trees:backTo cpos (starEach [e,f] X.env)=[(false,eval e X.env),(false,eval f X.env)]
noncomputable def keysI (ks:List Int):List (Key×V):=ks.map fun k=>(Sum.inl k,.bl true)
structure RepK (K:Pn) (F0 H0 FB:Hp) (i:Nat) (a:Addr) (ks:List Int) (F H:Hp) (σ:St) (ρ:ak):Prop where
 r:Rep K F0 H0 FB [] F H σ ρ
 sl:σ[i]? =some (some (.ref a))
 hp:H a=some (.dK (keysI ks))
 fa:F a=none
 ha:H0 a=none
structure ExA (h:Heap) (e:Addr) (C:Value) (dx hd:Option Addr):Prop where
 ob:∃oe vs,h.get? e=some oe/\oe.cls=C/\oe.dict=dx/\oe.data=.fields vs/\vs[1]? =some (hd.elim Value.none Value.ref)
 tb:∀T,hd=some T->T≠e/\∃oT ts,h.get? T=some oT/\oT.data=.fields ts/\ts[3]? =some .none
theorem dictMapF (f:Array Value->Array Value) (o:Obj):(o.mapFields f).dict=o.dict:=by
 obtain ⟨c,d,dt,sl⟩:=o;cases dt<;>rfl
theorem size3 {l:List Value} (h:3<l.length):3<l.toArray.size:=by rw [List.size_toArray];exact h
section
variable {M:Model} 
theorem mkEntry {fv lv:Value} {pl:List Value} {Q:Mq} (hp:IsPlace pl) (h:∀(o:Obj) (ts:Array Value),o.data=.fields ts->3<ts.size->o.isFreed=false->Q (.ref s.heap.objs.size) {s with heap:=s.heap.push o}) :
  wpAny M A (EntryCells.newEntry hv fv .none lv .none pl) Q E s:=by
 unfold EntryCells.newEntry newFields;refine wpAny_newObj_type (h _ _ rfl (size3 ?_) ?_) (hp.sizeOk5 _ _ _ _ _)
 ·simp
 ·exact Obj.isFreed_of_fields rfl
structure Left (fs:List Addr) (e:Addr) (hd:Option Addr) (h h':Heap):Prop where
 keep:∀b o,h.get? b=some o->b∉fs->b≠e->(∀T,hd=some T->b≠T)->h'.get? b=some o
 slot:∀b o,h.get? b=some o->b∈fs->∃sl,h'.get? b=some {o with slots:=sl}
 size:h.objs.size<=h'.objs.size
theorem entry_at {base:Heap} {e:Addr} {C:Value} 
  (hfr:A.frames=some (env::outer)) (hl:s.heap.FunFrames base (env::outer)) (hf:env.frame=some L) (he:s.heap.get? e=some oe) (hc:oe.cls=C) (hdx:oe.dict=dx) (hd:oe.data=.fields vs) (hs:1<vs.size)
  (h:∀h' T,ExA h' e C dx (some T)->s.heap.objs.size<=T->Left (frs (env::outer)) e none s.heap h'->Q () {s with heap:=h'}) :
  wpAny M A (frameOf env >>= fun a=>entryPlaceOf L bn >>= fun pl=>EntryCells.newEntry hv a .none (rawInt L) .none pl >>= fun b=>setField (.ref e) 1 b) (fun _ s'=>wpAny M A (setFlight (.ref e) none) Q E s') E s:=by
 have nfr:∀b o,b∈frs (env::outer)->s.heap.get? b=some o->∀vs,o.data≠.fields vs:=fun b o hm q=>by
  obtain ⟨_,o',ho',n⟩:=hl.mem hm;rw [q] at ho';cases ho';exact n
 have hne:e∉frs (env::outer):=fun hm=>nfr e oe hm he vs hd;refine wpAny_bind (wpAny_frameOf_fun hfr hl hf fun h1 x1=>?_);obtain ⟨z1,z2,z3⟩:=x1;refine wpAny_bind (wpAny_entryPlaceOf fun pl hp=>?_);refine wpAny_bind (mkEntry hp fun o ts ho h3 hfo=>?_);have e1:h1.get? e=some oe:=by rw [z2 e hne];exact he
 have n1:h1.objs.size≠e:=fun z=>absurd (Heap.lt_size e1) (by rw [z];exact Nat.lt_irrefl _);have e2:(h1.push o).get? e=some oe:=Heap.get?_push_of_some o e1;have t2:(h1.push o).get? h1.objs.size=some o:=Heap.get?_push_size h1 hfo;refine wpAny_setField e2 hd hs ?_;have d3:=Obj.data_mapFields hd (·.setIfInBounds 1 (Value.ref h1.objs.size));have e3:=Heap.get?_update_self (h:=h1.push o) (Obj.mapFields (·.setIfInBounds 1 (Value.ref h1.objs.size))) e2 (Obj.isFreed_of_fields d3);have t3:((h1.push o).update e (Obj.mapFields (·.setIfInBounds 1 (Value.ref h1.objs.size)))).get? h1.objs.size=some o:=by
  rw [Heap.get?_update_other _ _ (Ne.symm n1)];exact t2
 unfold setFlight;refine wpAny_bind (wpAny_field e3 d3 (x:=.ref h1.objs.size) (by simp [hs]) ?_);rw [if_pos (by simp)];refine wpAny_setField t3 ho h3 ?_;have dT:=Obj.data_mapFields ho (·.setIfInBounds 3 ((none:Option Addr).elim Value.none fun f=>rawInt f));refine h _ h1.objs.size ⟨⟨_,_,by rw [Heap.get?_update_other _ _ n1];exact e3,by rw [Obj.cls_mapFields];exact hc,by rw [dictMapF];exact hdx,d3,by simp [hs]⟩,fun T hT=>?_⟩ (by rw [z1];exact Nat.le_refl _) ⟨fun b o' q hb hbe _=>?_,fun b o' q hb=>?_,?_⟩
 ·cases hT;exact ⟨n1,_,_,Heap.get?_update_self _ t3 (Obj.isFreed_of_fields dT),dT,by simp [h3]⟩
 ·have q1:h1.get? b=some o':=by rw [z2 b hb];exact q
  have nb:h1.objs.size≠b:=fun z=>absurd (Heap.lt_size q1) (by rw [z];exact Nat.lt_irrefl _);rw [Heap.get?_update_other _ _ nb,Heap.get?_update_other _ _ (Ne.symm hbe)];exact Heap.get?_push_of_some o q1
 ·obtain ⟨sl,q1⟩:=z3 b o' q;have nb:h1.objs.size≠b:=fun z=>absurd (Heap.lt_size q1) (by rw [z];exact Nat.lt_irrefl _);have nbe:e≠b:=fun z=>hne (z▸hb);refine ⟨sl,?_⟩
  rw [Heap.get?_update_other _ _ nb,Heap.get?_update_other _ _ nbe];exact Heap.get?_push_of_some o q1
 ·rw [Heap.size_update,Heap.size_update,Heap.size_push,z1];exact Nat.le_succ _
theorem leave2 {base:Heap} {e:Addr} {C:Value} 
  (hfr:A.frames=some (env::outer)) (hl:s.heap.FunFrames base (env::outer)) (hf:env.frame=some L) (x:ExA s.heap e C dx hd)
  (h:∀h' T,ExA h' e C dx (some T)->s.heap.objs.size<=T->Left (frs (env::outer)) e hd s.heap h'->Q () {s with heap:=h'}):wpAny M A (noteFrame (.ref e) env) (fun _ s'=>wpAny M A (setFlight (.ref e) none) Q E s') E s:=by
 obtain ⟨oe,vs,he,hc,hdx,hdt,h1⟩:=x.ob;have hs:1<vs.size:=(Array.getElem?_eq_some_iff.mp h1).1;unfold noteFrame;simp only [hf];cases hd with
 |none=>
  refine wpAny_bind (wpAny_field he hdt h1 ?_);rw [if_neg (by decide)];exact entry_at hfr hl hf he hc hdx hdt hs fun h' T a b c=>h h' T a b c
 |some T=>
  obtain ⟨nTe,oT,ts,hT,hdT,h3⟩:=x.tb T rfl;have hs3:3<ts.size:=(Array.getElem?_eq_some_iff.mp h3).1;refine wpAny_bind (wpAny_field he hdt h1 ?_);rw [if_pos (by simp)];refine wpAny_bind (wpAny_field (x:=.none) hT hdT h3 ?_);rw [if_neg (by simp [rawInt])];refine wpAny_bind (wpAny_setField hT hdT hs3 ?_);have oth:∀b,b≠T->(s.heap.update T (Obj.mapFields (·.setIfInBounds 3 Value.none))).get? b=s.heap.get? b:=fun b hb=>Heap.get?_update_other _ _ (Ne.symm hb);have nT:∀b o,s.heap.get? b=some o->(∀vs,o.data≠.fields vs)->b≠T:=fun b o q n z=>by
   subst z;rw [hT] at q;cases q;exact n ts hdT
  refine entry_at hfr (hl.of_keeps fun b o q n=>⟨o,by rw [oth b (nT b o q n)];exact q,rfl⟩) hf (by rw [oth e (Ne.symm nTe)];exact he) hc hdx hdt hs fun h' T' a b c=>?_;refine h h' T' a (by rw [Heap.size_update] at b;exact b) ⟨fun b' o q hb hbe hbT=>c.keep b' o (by rw [oth b' (hbT T rfl)];exact q) hb hbe (fun _ z=>nomatch z),fun b' o q hb=>?_,?_⟩
  ·obtain ⟨_,o',ho',n⟩:=hl.mem hb;rw [q] at ho';cases ho';exact c.slot b' o (by rw [oth b' (nT b' o q n)];exact q) hb
  ·have:=c.size;rw [Heap.size_update] at this;exact this
theorem leave_at {base:Heap} {e:Addr} {C:Value} 
  (hfr:A.frames=some (env::outer)) (hl:s.heap.FunFrames base (env::outer)) (hf:env.frame=some L) (x:ExA s.heap e C dx hd)
  (h:∀h' T,ExA h' e C dx (some T)->s.heap.objs.size<=T->Left (frs (env::outer)) e hd s.heap h'->Q () {s with heap:=h'}):wpAny M A (leaving env (.ref e)) Q E s:=by
 unfold leaving;exact wpAny_bind (leave2 hfr hl hf x h)
end
structure CXs (P:Program) (w:World) (outer:List Env) (H:Hp) (s:Shared) (E:XK) (a T:Addr) (C:Value) (dx:Option Addr) (H':Hp) (s':Shared):Prop where
 ex:ExA s'.heap a C dx (some T)
 na:s.heap.get? a=none
 nT:s.heap.get? T=none
 fa:H' a=none
 fT:H' T=none
 os:s'.os=s.os
 bare:AllBare s'.gens
 un:Un (frs outer) [] H H' s.heap s'.heap
 hok:HOk P w H' s'.heap
 want:E C dx H'
noncomputable def CXd (P:Program) (w:World):CXT:=fun outer H s E e s'=>∃(a T:Addr) (C:Value) (dx:Option Addr) (H':Hp),e=.ref a/\CXs P w outer H s E a T C dx H' s'
theorem get_none (z:h.objs.size<=a):h.get? a=none:=by
 cases e:h.get? a with
 |none=>rfl
 |some o=>exact absurd (Heap.lt_size e) (Nat.not_lt.mpr z)
theorem Inv.tB (I:Inv X pins σ H s) (hx:X.ex=[]) (e:s.heap.get? a=none):X.s₀.heap.get? a=none:=by
 cases q:X.s₀.heap.get? a with
 |none=>rfl
 |some o=>
  obtain ⟨o',z⟩:=I.base.there a o q (by rw [hx];exact fun z=>nomatch z);rw [e] at z;cases z
theorem fX.is (x:fX P w H h a o):∃u,h.get? a=some u:=by
 cases o with
 |lst xs=>obtain ⟨_,_,_,_,e⟩:=x;exact ⟨_,e⟩
 |tup xs=>obtain ⟨_,_,_,ob,e,_⟩:=x;exact ⟨_,e⟩
 |dK kvs=>obtain ⟨_,_,_,_,o,_,_,e,_⟩:=x;exact ⟨_,e⟩
 |dT kvs=>obtain ⟨_,_,_,_,o,_,_,e,_⟩:=x;exact ⟨_,e⟩
 |set S n=>obtain ⟨o,_,_,_,e,_⟩:=x;exact ⟨_,e⟩
 |ins C dx fs=>obtain ⟨_,_,_,e,_⟩:=x;exact ⟨_,e⟩
 |own y=>exact x
 |xd fs=>obtain ⟨_,⟨_,_,_,e,_⟩,_⟩:=x;exact ⟨_,e⟩
 |rng lo hi=>obtain ⟨_,_,_,e⟩:=x;exact ⟨_,e⟩
 |frz ob u=>obtain ⟨e,_⟩:=x;exact ⟨_,e⟩
 |tbl ps=>exact ⟨_,show h.get? a=some _ from x⟩
 |met f y=>exact ⟨_,show h.get? a=some _ from x⟩
 |ext φ=>obtain ⟨_,e,_⟩:=x;exact e
section
variable {base:Heap} {f:Addr} {E:XK}
theorem xe_of {C:Value} (J:Inv (Dd (CXd P w) P w K mg base N qual scope f cd A outer s H E) pins σ H' s') (x:ExA s'.heap a C dx hd)
  (na:s.heap.get? a=none) (nT:∀T,hd=some T->s.heap.get? T=none/\H' T=none) (fa:H' a=none) (q:E C dx H'):(Dd (CXd P w) P w K mg base N qual scope f cd A outer s H E).xe (.ref a) s':=by
 have e0:=J.env0;have hfs:∀b∈frs (envOfC qual scope s.heap.objs.size f cd::outer),H' b=none:=e0.frf;have old:∀b o,s.heap.get? b=some o->b≠a/\(∀T,hd=some T->b≠T)/\b<s.heap.objs.size:=fun b o e=>by
  have hb:=Heap.lt_size e;exact ⟨fun z=>(by subst z;rw [e] at na;cases na),fun T hT z=>(by subst z;have:=(nT _ hT).1;rw [e] at this;cases this),hb⟩
 have infs:∀b,b<s.heap.objs.size->b∈frs (envOfC qual scope s.heap.objs.size f cd::outer)->b∈frs outer:=fun b hb hm=>by
  rcases List.mem_filterMap.mp hm with ⟨v,hv,e⟩
  rcases List.mem_cons.mp hv with z|z
  ·subst z;have:s.heap.objs.size=b:=by simpa [envOfC] using e
   omega
  ·exact List.mem_filterMap.mpr ⟨v,z,e⟩
 have outfs:∀b,b∈frs outer->b∈frs (envOfC qual scope s.heap.objs.size f cd::outer):=fun b hm=>by
  rcases List.mem_filterMap.mp hm with ⟨v,hv,e⟩
  exact List.mem_filterMap.mpr ⟨v,List.mem_cons_of_mem _ hv,e⟩
 have base':Un (frs outer) [] H H' s.heap s'.heap:=J.base;show wpAny (model P w) (A.deeper (envOfC qual scope s.heap.objs.size f cd)) (leaving (envOfC qual scope s.heap.objs.size f cd) (.ref a)) (fun _ s''=>CXd P w outer H s E (.ref a) s'') (fun e' s''=>CXd P w outer H s E e' s'') s';refine leave_at (base:=base) e0.frames e0.yV rfl x fun h' T x' hT lf=>⟨a,T,C,dx,H',rfl,x',na,get_none (Nat.le_trans (show s.heap.objs.size<=s'.heap.objs.size from J.sz) hT),fa,?_,J.os,J.bare,?_,?_,q⟩
 ·exact J.hok.fresh hT
 ·have Bf:∀b o,s.heap.get? b=some o->∀o',s'.heap.get? b=some o'->b∉frs outer->h'.get? b=some o':=fun b o e o' e' hb=>by
   obtain ⟨z1,z2,z3⟩:=old b o e;exact lf.keep b o' e' (fun z=>hb (infs b z3 z)) z1 z2
  refine ⟨fun b o e n hb hx=>Bf b o e o (base'.keep b o e n hb hx) hb,fun b o e n hb hx=>?_,base'.free,fun b o e hx=>?_,base'.tups,base'.frzs,base'.tbls⟩
  ·obtain ⟨sl,e1⟩:=base'.slot b o e n hb hx;obtain ⟨sl2,e2⟩:=lf.slot b _ e1 (outfs b hb);exact ⟨sl2,e2⟩
  ·obtain ⟨o',e1⟩:=base'.there b o e hx;by_cases hb:b∈frs outer
   ·obtain ⟨sl,e2⟩:=lf.slot b o' e1 (outfs b hb);exact ⟨_,e2⟩
   ·exact ⟨o',Bf b o e o' e1 hb⟩
 ·intro b o e;refine (J.hok b o e).Bf (fun c u hc e1=>?_) (fun _ z=>z) fun _ _ z=>z;have hcn:H' c≠none:=by
   rcases hc with z|z
   ·rw [z,e];exact fun z=>nomatch z
   ·rw [z];exact fun z=>nomatch z
  exact lf.keep c u e1 (fun z=>hcn (hfs c z)) (fun z=>hcn (by rw [z];exact fa)) fun T hT z=>hcn (by rw [z];exact (nT T hT).2)
theorem passD:Passes (CXd P w) (Dd (CXd P w) P w K mg base N qual scope f cd A outer s H E) E:=by
 rintro pins σ H1 s1 e s' I ⟨a,T,C,dx,H',rfl,z⟩;have J:=I.call' z.os z.un z.hok z.bare (fun _ h=>nomatch h);exact xe_of J z.ex (I.tB rfl z.na) (fun T' hT=>by cases hT;exact ⟨I.tB rfl z.nT,z.fT⟩) z.fa z.want
end
noncomputable def WE (K:Pn) (E:XK):i4 where
 p:=fun e F H=>match e with
  |.stuck=>False
  |.exc C fs=>∀F' H',Step F H F' H'->match fs with
   |[]=>E (.ref C) none H'
   |fs=>∀d gs,F' d=some (.xd gs)->uX K F' fs gs->E (.ref C) (some d) H'
 mono:=fun {e F H F' H'} h s=>by
  cases e with
  |stuck=>exact h
  |exc C fs=>exact fun F2 H2 s2=>h F2 H2 (s.trans s2)
 ns:=fun h=>h
noncomputable def noX {α:Type}:M α->M α
 |.ok d=>.ok d
 |.error _=>.error .stuck
@[simp] theorem noX_ok {α:Type} (d:α):noX (.ok d:M α)=.ok d:=id rfl
noncomputable def Dc {α:Type} (f:ak->M α):ak->M α:=fun ρ=>noX (f ρ)
@[simp] theorem e_fNoX {α:Type} (f:ak->M α) (ρ:ak):Dc f ρ=noX (f ρ):=id rfl
section
variable {W:i4} {own:Bool} 
theorem de_lift {f:ak->M Dat} (h:DE K Wno own X.nox e f):DE K W own X e (Dc f):=PE.imp (PE.nox h) fun σ H Q ⟨F,ρ,r,s,p⟩=>by
 refine ⟨F,ρ,r,s,?_⟩
 have p:aI K W own F H (noX (f ρ)) Q:=p;cases e:f ρ with
 |ok d=>rw [e] at p;exact p
 |error x=>rw [e] at p;exact (W.ns p).elim
theorem xv {st:List Stmt} (h:DSs K Wno ro X.nox OL O O' st g):DSs K W ro X OL O O' st (Dc g):=fun F0 H0=>PSs.imp (PSs.nox (h F0 H0)) fun D σ H ⟨FB,F,ρ,r,p⟩=>by
 refine ⟨FB,F,ρ,r,?_⟩
 have p:pI K W ro F0 H0 FB OL O' D (noX (g ρ)):=p;unfold pI at p ⊢;cases e:g ρ with
 |ok fl=>
  rw [e] at p;cases fl<;>exact p
 |error x=>rw [e] at p;exact (W.ns p).elim
end
noncomputable def spX (K:Pn) (ro:Bool) (g:List Dat->M Dat) (n:Nat):Sp:=fun vs H Q E=>∃F ds,b9 F H/\aA K F ds vs/\ds.length=n/\aI K (WE K E) ro F H (g ds) Q
section
variable {fr:ak->M (List Dat)} {E:XK} 
theorem xB (F:cm X.prog X.w X.K X.mg X.base CX k fad fd ps (spX K ro (cb nN n g) n)) (hx:Passes CX X E) (hr:mz k X.A) (hm:X.mg x=some (.ref fad)) (hk:keepIn X.K (.ref fad)=true) (hb:Binds X.K fd ps [])
  (ha:DA K (WE K E) X (e::es) fr) (hg:Gl X x:=by rfl) (hdb:(x==("__debug__":Str))=false:=by decide) (hst:starEach (e::es) X.env=(false,eval e X.env)::starEach es X.env:=by rfl) (hpl:(backTo pos (starEach es X.env)).any (·.1)=false:=by rfl) :
  DE K (WE K E) ro X (.Call (.Name x p) (e::es) [] pos) (fL (cb nN n g) fr):=by
 refine PE.imp (u5 F hr hg hm hk hb .nil hx ha hdb hst hpl) fun σ H Q h=>?_;obtain ⟨F,ρ,r,s,p⟩:=rd_L h;refine ⟨F,ρ,r,s,?_⟩
 cases e1:fr ρ with
 |error z=>rw [e1] at p;exact p
 |ok ds=>
  rw [e1] at p;intro vs F' H' st q;obtain ⟨F1,es1,s1,q1,z⟩:=p vs F' H' st q;show spX K ro (cb nN n g) n (vs++[]) H' Q E;rw [List.append_nil];by_cases hl:es1.length=n
  ·exact ⟨F1,es1,s1,q1,hl,z⟩
  ·rw [rH hl] at z;exact aI.stuck z
end
section
variable {base:Heap}
theorem fn_X {f:Addr} (F:Fun K x qual st f fd) (S:aC N ps (aq st)) (ro:Bool) (g:ak->M Flo)
  (hb:∀(cdv:Value) (A:Around) (outer:List Env) (s:Shared) (H:Hp) (E:XK),mz k (A.deeper (envOfC qual (aq st) s.heap.objs.size f cdv)) ->
   DSs K (WE K E) ro (Dd (CXd P w) P w K mg base N qual (aq st) f cdv A outer s H E) [] [] O' (dq st) g):cm P w K mg base (CXd P w) (k+1) f fd ps (spX K ro (cb N.length ps.length g) ps.length):=by
 obtain ⟨oc,od,kV,doc,pm,an,cdv,ct,osl,rfl,lk,hcd⟩:=F.ex;refine fn_of lk hcd S (fun vs H Q E ⟨F,ds,s,q,l,p⟩=>by rw [q.length,l]) fun A outer s H vs Q E hr ⟨F1,ds,s1,q,l,p⟩=>⟨_,hb cdv A outer s H E hr F1 H,F1,F1,ds.map some++List.replicate (N.length-ds.length) none,?_,?_⟩
 ·refine ⟨Step.refl s1,b9.refl _,?_,fun i d e _=>yg q e,(fun i d e h=>nomatch h),(fun i j ds es a h=>nomatch h)⟩
  unfold start;rw [List.length_append,List.length_append,List.length_map,List.length_map,List.length_replicate,List.length_replicate,q.length]
 ·have e1:cb N.length ps.length g ds=(g (ds.map some++List.replicate (N.length-ds.length) none)).bind fun fl=>match fl with
   |.nx _=>.ok .non
   |.rt d=>.ok d
   |_=>stk:=by
    unfold cb;exact if_pos l
  rw [e1] at p;cases e2:g (ds.map some++List.replicate (N.length-ds.length) none) with
  |error z=>rw [e2] at p;exact p
  |ok fl=>
   rw [e2] at p;cases fl with
   |nx ρ=>exact fun σ F H r=>p .non F H r.st (by cases ro<;>rfl)
   |rt d=>exact fun v F H st q=>p v F H st q
   |bk ρ=>exact aI.stuck p
   |ct ρ=>exact aI.stuck p
end
section
variable {C:Value} 
structure Apart (X:Cx) (pins:Vp) (H:Hp) (s:Shared) (a:Addr) (hd:Option Addr):Prop where
 na:X.s₀.heap.get? a=none
 fa:H a=none
 pa:∀p∈X.pn++pins,p.1≠a
 nT:∀T,hd=some T->X.s₀.heap.get? T=none/\H T=none/\∀p∈X.pn++pins,p.1≠T
theorem Inv.left (I:Inv X pins σ H s) (hx:X.ex=[]) (x:ExA s.heap a C dx hd) (ap:Apart X pins H s a hd) (lf:Left (frs X.stack) a hd s.heap h'):Inv X pins σ H {s with heap:=h'}:=by
 have e0:=I.env0;obtain ⟨oe,vs,he,_,_,hdt,_⟩:=x.ob;have nof:∀b o,s.heap.get? b=some o->(∀vs,o.data≠.fields vs)->b≠a/\∀T,hd=some T->b≠T:=fun b o e n=>by
  refine ⟨fun z=>?_,fun T hT z=>?_⟩
  ·subst z;rw [he] at e;cases e;exact n vs hdt
  ·subst z;obtain ⟨_,oT,ts,h1,h2,_⟩:=x.tb _ hT;rw [h1] at e;cases e;exact n ts h2
 have stk:∀b∈frs X.stack,H b=none:=e0.frf;have any:∀b o,s.heap.get? b=some o->(∀vs,o.data≠.fields vs)->∃sl,h'.get? b=some {o with slots:=sl}:=fun b o e n=>by
  obtain ⟨z1,z2⟩:=nof b o e n;by_cases hb:b∈frs X.stack
  ·exact lf.slot b o e hb
  ·exact ⟨o.slots,lf.keep b o e hb z1 z2⟩
 have old:∀b o,X.s₀.heap.get? b=some o->b≠a/\∀T,hd=some T->b≠T:=fun b o e=>
  ⟨fun z=>(by subst z;rw [ap.na] at e;cases e),fun T hT z=>(by subst z;rw [(ap.nT _ hT).1] at e;cases e)⟩
 have up:s.heap.UpToSlots h':=any;have loc0:X.s₀.heap.get? X.env.locals=none:=get_none I.ok.above;have out:∀b,b≠X.env.locals->b∉X.fs->b∉frs X.stack:=fun b h1 h2 h3=>by
  rcases List.mem_cons.mp (I.vB b h3) with z|z
  ·exact h1 z
  ·exact h2 z
 have cel:∀c v,s.heap.IsCell c v->h'.IsCell c v:=fun c v ⟨o,h1,h2⟩=>by
  obtain ⟨sl,z⟩:=any c o h1 (fun vs q=>by rw [h2] at q;cases q);exact ⟨_,z,h2⟩
 refine ⟨I.ok,I.os,I.bare,?_,?_,fun x c e=>?_,I.free,I.freeC,fun p hp=>?_,?_,I.len⟩
 ·have go:∀b o,X.s₀.heap.get? b=some o->∀o',s.heap.get? b=some o'->∃sl,h'.get? b=some {o' with slots:=sl}:=fun b o e o' e'=>by
   obtain ⟨z1,z2⟩:=old b o e;by_cases hb:b∈frs X.stack
   ·exact lf.slot b o' e' hb
   ·exact ⟨o'.slots,lf.keep b o' e' hb z1 z2⟩
  refine ⟨fun b o e n hb hx'=>?_,fun b o e n hb hx'=>?_,I.base.free,fun b o e hx'=>?_,I.base.tups,I.base.frzs,I.base.tbls⟩
  ·obtain ⟨z1,z2⟩:=old b o e;exact lf.keep b o (I.base.keep b o e n hb hx') (out b (fun z=>by rw [z,loc0] at e;cases e) hb) z1 z2
  ·obtain ⟨sl,e1⟩:=I.base.slot b o e n hb hx';obtain ⟨sl2,e2⟩:=go b o e _ e1;exact ⟨sl2,e2⟩
  ·obtain ⟨o',e1⟩:=I.base.there b o e hx';obtain ⟨sl2,e2⟩:=go b o e _ e1;exact ⟨_,e2⟩
 ·obtain ⟨m,hn,hl⟩:=I.loc;refine ⟨m,up.ns hn,fun i x v e1 e2 e3=>?_⟩
  obtain ⟨u,r,lk⟩:=hl i x v e1 e2 e3;refine ⟨u,r,?_⟩
  rcases lk with z|⟨z,c,c1,c2⟩
  ·exact .inl z
  ·exact .inr ⟨z,c,c1,cel c _ c2⟩
 ·obtain ⟨v,z⟩:=I.cell x c e;exact ⟨v,cel c v z⟩
 ·obtain ⟨p1,p2,p3,p4,p5⟩:=I.pin p hp;exact ⟨lf.keep p.1 p.2 p1 (out p.1 p3 p4) (ap.pa p hp) fun T hT=>(ap.nT T hT).2.2 p hp,p2,p3,p4,p5⟩
 ·intro b o e;refine (I.hok b o e).Bf (fun c u hc e1=>?_) (fun _ z=>z) fun _ _ z=>z;have hcn:H c≠none:=by
   rcases hc with z|z
   ·rw [z,e];exact fun z=>nomatch z
   ·rw [z];exact fun z=>nomatch z
  exact lf.keep c u e1 (fun z=>hcn (stk c z)) (fun z=>hcn (by rw [z];exact ap.fa)) fun T hT z=>hcn (by rw [z];exact (ap.nT T hT).2.1)
end
noncomputable def PEat (X:Cx) (pins:Vp) (σ:St) (e:Expr) (t:TE):Prop:=∀(s:Shared) (H:Hp) (Q:VK),Inv X pins σ H s->t σ H Q->wpAny (model X.prog X.w) X.A (eval e X.env) (EP X pins σ Q) X.xe s
noncomputable def PSat (X:Cx) (pins:Vp) (σ:St) (st:Stmt) (t:TS):Prop:=∀(s:Shared) (H:Hp) (D:Ends),Inv X pins σ H s->t D σ H->wpAny (model X.prog X.w) X.A (exec st X.env) (SP X pins D) X.xe s
noncomputable def PSsAt (X:Cx) (pins:Vp) (σ:St) (st:List Stmt) (t:TS):Prop:=∀(s:Shared) (H:Hp) (D:Ends),Inv X pins σ H s->t D σ H->wpAny (model X.prog X.w) X.A (execs st X.env) (SP X pins D) X.xe s
noncomputable def sf (CX:CXT) (X:Cx) (pins:Vp) (σ:St) (E:XK):Prop:=∀(H:Hp) (s:Shared) (e:Value) (s':Shared),Inv X pins σ H s->CX X.stack H s E e s'->X.xe e s'
section
theorem at_one (h:PSat X pins σ st t):PSsAt X pins σ [st] t:=fun s H D I q=>by
 refine wpAny_execs_cons (thn (h s H D I q) fun f s1 z=>?_);cases f with
 |next=>exact wpAny_execs_nil z
 |_=>exact z
theorem at_set (hN:X.N.Nodup) (hi:X.N[i]? =some x) (hx:Loc X.env.scope x) (he:PEat X pins σ e te) (hs:swapsWith e (some (.Name x pos')) pos.line X.env=pure false:=by rfl) (hf:X.fn x=true\/X.env.scope.names.lookup x=some .local:=by first|exact .inl rfl|exact .inr rfl|assumption) :
  PSat X pins σ (.Assign [.Name x pos'] e pos) (Cg te (rQ i)):=fun s H D I q=>
 wpAny_Assign_Name (thn (he s H _ I q) fun v s1 ⟨y,H1,I1,r1,q1⟩=>wD I1 hN hi hx r1 (fun s2 I2=>⟨_,H1,I2,q1⟩) hf) hs
end
section
variable {f:Addr} {ds:List Value} {E:XK} {t:TA}
theorem at_run {Q:VK} {vs:List V} (F:cm X.prog X.w X.K X.mg X.base CX k f fd ps sp) (hr:mz k X.A) (hb:Binds X.K fd ps ds) (hd:Vals dvs ds) (hx:sf CX X pins σ E)
  (I:Inv X pins σ H s) (r:Vals vs us) (h:sp (vs++dvs) H Q E):wpAny (model X.prog X.w) X.A (call (.ref f) us) (EP X pins σ Q) X.xe s:=by
 have v2:=r.append hd;refine wpAny_call (codeAny_mono (F.run _ _ s H ⟨us,[]⟩ _ _ Q E hr I.env0 (hb s us I.kIn (v2.length.symm.trans (F.len _ _ _ _ h))) v2 h) fun z s' hq=>?_);cases z with
 |error e=>exact hx H s e s' I hq
 |ok fl=>
  cases fl with
  |ret u=>exact I.after hq
  |_=>exact False.elim hq
theorem at_call (F:cm X.prog X.w X.K X.mg X.base CX k f fd ps sp) (hx:sf CX X pins σ E) (hr:mz k X.A) (hm:X.mg x=some (.ref f)) (hk:keepIn X.K (.ref f)=true) (hb:Binds X.K fd ps ds) (hd:Vals dvs ds) (ha:PA X (e::es) t) (hg:Gl X x:=by rfl)
  (hdb:(x==("__debug__":Str))=false:=by decide) (he:starEach (e::es) X.env=(false,eval e X.env)::starEach es X.env:=by rfl) (hpl:(backTo pos (starEach es X.env)).any (·.1)=false:=by rfl) :
  PEat X pins σ (.Call (.Name x p) (e::es) [] pos) (tCall sp dvs E t):=fun s H Q I q=>
 wpAny_Call_Name_kw (mT I hg hm (callWith_K (h₀:=X.base) I.ok.mod.kin hk (thn (ha pos pins s σ H _ I q) fun us s1 ⟨vs,H1,I1,r,q1⟩=>⟨I1.kIn,at_run F hr hb hd hx I1 r q1⟩) he hpl) hdb)
end
noncomputable def XNamed (K:Pn) (C:Addr) (bmB:List Value):Prop:=∀h:Heap,K.In h->∃tl N nm qn bs hdct sn sub ab col dd k0 k1 k2 k3 k5 newId,h.get? C=some (excClassObj nm qn C N bs tl hdct sn sub ab col dd k0 k1 k2 k3 k5 newId)/\OwnTail h bmB tl
noncomputable abbrev Cx.hand (X:Cx) (a:Addr) (oe:Obj):Cx:={X with A:=X.A.mark (some (.ref a)),calm:=false,xe:=fun _ _=>False,pn:=(a,oe)::X.pn}
section
variable {T:Addr} {C:Value} 
theorem Inv.hand {vs:Array Value} (I:Inv X pins σ H s) (he:s.heap.get? a=some oe) (hd:oe.data=.fields vs) (na:X.s₀.heap.get? a=none) (fa:H a=none):Inv (X.hand a oe) pins σ H s:=by
 have ok:=I.ok;refine ⟨⟨ok.mod,ok.kind,ok.glob,ok.blt,ok.above,ok.inj,ok.has,ok.cab,(fun z=>nomatch z),ok.frames,ok.stk,ok.exf,ok.bs,ok.bsz,ok.noex,ok.exfs,ok.yV,ok.frf⟩,I.os,I.bare,I.base,I.loc,I.cell,I.free,I.freeC,fun p hp=>?_,I.hok,I.len⟩
 rcases List.mem_cons.mp (show p∈(a,oe)::(X.pn++pins) from hp) with z|z
 ·subst z;refine ⟨he,fa,fun z=>?_,fun hm=>?_,fun v z=>?_⟩
  ·obtain ⟨m,⟨o,es,ep,h1,h2,_⟩,_⟩:=I.loc;have z:a=X.env.locals:=z;rw [<- z,he] at h1;cases h1;rw [hd] at h2;cases h2
  ·obtain ⟨_,o,h1,_⟩:=ok.yV.mem hm;have h1:X.s₀.heap.get? a=some o:=h1;rw [na] at h1;cases h1
  ·have z:oe.data=.cell v:=z;rw [hd] at z;cases z
 ·exact I.pin p z
theorem Inv.unhand (J:Inv (X.hand a oe) pins σ H s) (ok:X.Ok):Inv X pins σ H s:=
 ⟨ok,J.os,J.bare,J.base,J.loc,J.cell,J.free,J.freeC,fun p hp=>J.pin p (List.mem_cons_of_mem _ hp),J.hok,J.len⟩
theorem EW {M:Model} {base:Heap} {l:List Env} (hl:s.heap.FunFrames base l) (x:ExA s.heap a C dx (some T))
  (h:∀h',ExA h' a C dx (some T)->Left (frs l) a (some T) s.heap h'->h'.get? a=s.heap.get? a->Q () {s with heap:=h'}):wpAny M A (setFlight (.ref a) none) Q E s:=by
 obtain ⟨o,vs,he,hc,hdx,hdt,h1⟩:=x.ob;obtain ⟨nT,oT,ts,hT,hdT,h3⟩:=x.tb T rfl;have hs3:3<ts.size:=(Array.getElem?_eq_some_iff.mp h3).1;unfold setFlight;refine wpAny_bind (wpAny_field he hdt (x:=.ref T) h1 ?_);rw [if_pos (by simp)];refine wpAny_setField hT hdT hs3 ?_;have oth:∀b,b≠T->(s.heap.update T (Obj.mapFields (·.setIfInBounds 3 ((none:Option Addr).elim Value.none fun f=>rawInt f)))).get? b=s.heap.get? b:=fun b hb=>Heap.get?_update_other _ _ (Ne.symm hb);have dT:=Obj.data_mapFields hdT (·.setIfInBounds 3 ((none:Option Addr).elim Value.none fun f=>rawInt f));refine h _ ⟨⟨o,vs,by rw [oth a (Ne.symm nT)];exact he,hc,hdx,hdt,h1⟩,fun T' hT'=>?_⟩ ⟨fun b o' q _ _ hb=>by rw [oth b (hb T rfl)];exact q,fun b o' q hb=>?_,?_⟩ (oth a (Ne.symm nT))
 ·cases hT';exact ⟨nT,_,_,Heap.get?_update_self _ hT (Obj.isFreed_of_fields dT),dT,by simp [hs3]⟩
 ·obtain ⟨_,o2,ho2,n⟩:=hl.mem hb;have hbT:b≠T:=fun z=>by
   subst z;rw [hT] at ho2;cases ho2;exact n ts hdT
  exact ⟨o'.slots,by rw [oth b hbT];exact q⟩
 ·rw [Heap.size_update];exact Nat.le_refl _
end
section
open PySem.W
variable {g:Array GenState} {d:Drawn} {t:Nat} {od:Option Obj} {K:Frag} 
theorem xcls_by {Q:Mq} (FB:ExcAttrBase B bmB) (kX:K.In h) (I:W.InstAt h a oe C od) (e1:findIn K (.ref C) "__getattribute__"=some (some (.builtin "BaseException.__getattribute__")))
  (e3:findIn K (.ref C) "__getattr__"=some none)
  (hq:∀R:Result->Shared->Prop,R (.ok (.ret (.ref C))) ⟨h,g,d,t,os⟩->codeAny (model prog w) A (.call (.builtin "BaseException.__getattribute__") ⟨[.ref a,.str "__class__" tk],[]⟩) R ⟨h,g,d,t,os⟩) (q:Q (.ref C) ⟨h,g,d,t,os⟩) :
  wpAny (model prog w) A (getAttrBy (.ref a) (.str "__class__" tk) false) Q E ⟨h,g,d,t,os⟩:=by
 have m0:=I.type (M:=model prog w);have m1:=looks_findIn (M:=model prog w) kX e1;have L2:=looks_findIn (M:=model prog w) kX e3;have b3:=FB.ga.bind (.ref a);have nx:(Value.builtin "BaseException.__getattribute__"==Value.builtin "object.__getattribute__")=false:=by decide +kernel
 unfold getAttrBy
 repeat (any_goals (first|assumption|with_reducible refine m0.at ?_|with_reducible refine m1.at ?_|with_reducible refine L2.at ?_|wp_step))
 all_goals (refine hq _ ?_)
 repeat (any_goals (first|wp_step|assumption))
theorem Cc {M:Model} {nameV:Value} (kX:K.In h) (I:W.InstAt h a oe C od) (hb:mroIn K C (.type "BaseException")=some true) (hq:Q () ⟨h,g,d,t,os⟩) :
  wpAny M A (checkBuiltinCall "BaseException.__getattribute__" ⟨[.ref a,nameV],[]⟩) Q E ⟨h,g,d,t,os⟩:=by
 have kd:builtinKind "BaseException.__getattribute__"=some .slot:=by decide +kernel
 have hs:splitId "BaseException.__getattribute__"=some ("BaseException","__getattribute__"):=by decide +kernel
 have m0:=I.type (M:=M);have m1:=looks_mroIn (M:=M) kX hb;have ag:=F.args_bexc_ga (.ref a) nameV;simp only [checkBuiltinCall,hs,kd];refine wpAny_bind ?_;unfold isInstance
 repeat (first|with_reducible refine m0.at ?_|with_reducible refine m1.at ?_|wp_step)
 exact hq
theorem Ca {Q:Fin->Shared->Prop} (kX:K.In h) (I:W.InstAt h a oe C od) (e2:findIn K (.ref C) "__class__"=some (some (.builtin "object.__class__"))) (hm:mroIn K C (.type "object")=some true) (hq:Q (.done (.ret (.ref C))) ⟨h,g,d,t,os⟩) :
  wpAny (model prog w) A (Builtin.«object.__getattribute__» ⟨[.ref a,.str "__class__" tk],[]⟩) Q E ⟨h,g,d,t,os⟩:=by
 have tc:Shared.TypeIs ⟨h,g,d,t,os⟩ (.builtin "object.__class__") "getset_descriptor":=F.typeOf_object_class;have m0:=I.type (M:=model prog w);have m1:=looks_findIn (M:=model prog w) kX e2;have p5:=F.typeOf_object_class;have p6:=F.slot_gs_get.lookup;have p7:=F.slot_gs_set.lookup
 repeat (any_goals (first|assumption|with_reducible refine m0.at ?_|with_reducible refine m1.at ?_|wp_step))
 refine W.class_get (s:=⟨h,g,d,t,os⟩) kX I hm ?_
 repeat (any_goals (first|wp_step|assumption))
theorem Dl {Q:Option Value->Shared->Prop} (FB:ExcAttrBase B bmB) (kX:K.In h) (I:W.InstAt h a oe C od) (e1:findIn K (.ref C) "__getattribute__"=some (some (.builtin "BaseException.__getattribute__"))) (e2:findIn K (.ref C) "__class__"=some (some (.builtin "object.__class__"))) (e3:findIn K (.ref C) "__getattr__"=some none)
  (hb:mroIn K C (.type "BaseException")=some true) (hm:mroIn K C (.type "object")=some true) (hq:Q (some (.ref C)) ⟨h,g,d,t+1,os⟩):wpAny (model prog w) A (getAttr? (.ref a) "__class__") Q E ⟨h,g,d,t,os⟩:=by
 unfold getAttr? getAttrBy?;refine wpAny_bind (wpAny_mkText (wpAny_bind (wpAny_attempt (xcls_by FB kX I e1 e3 (fun R hR=>codeAny_call_builtin FB.ga.plain F.entry_bexc_ga (Cc kX I hb (Ca kX I e2 hm hR))) ?_))));exact wpAny_pure hq
structure XIsi (K:Frag) (C:Addr):Prop where
 ga:findIn K (.ref C) "__getattribute__"=some (some (.builtin "BaseException.__getattribute__"))
 cl:findIn K (.ref C) "__class__"=some (some (.builtin "object.__class__"))
 gt:findIn K (.ref C) "__getattr__"=some none
 bs:mroIn K C (.type "BaseException")=some true
 ob:mroIn K C (.type "object")=some true
 is:∃cd,clsIn K C=some cd
theorem tJ (FB:ExcAttrBase B bmB) (Z:XIsi K C):KitX K (.ref a) (.ref C) (fun h=>W.InstAt h a oe C od) where
 ty:=fun _ _ _ I=>I.type
 it:=fun _ _ X _=>by
  obtain ⟨cd,hc⟩:=Z.is;unfold clsIn at hc;split at hc
  ·next ho=>
   intro A' Q' E' s' k q;unfold isType loadHead;refine wpAny_bind (wpAny_loadPart (k C _ (X C _ ho)) ?_);exact wpAny_pure q
  ·cases hc
 ne:=fun hh tq d1 is n1 s1 X htp=>by
  obtain ⟨cd,hc⟩:=Z.is;refine Bool.eq_false_iff.mpr (fun q=>?_);have e:C=tq:=Value.ref.inj (beq_iff_eq.mp q);subst e;unfold clsIn at hc;split at hc
  ·next ho=>
   cases (X C _ ho).symm.trans htp
  ·cases hc
 ca:=fun {_ _ _ _ _ s} X I k=>by
  obtain ⟨h,g,d,t,os⟩:=s;exact Dl FB X I Z.ga Z.cl Z.gt Z.bs Z.ob k
end
theorem wN:∀{ys:List Addr} {its:List Value},Vals (ys.map V.ref) its->its=ys.map Value.ref
 |[],_,.nil=>rfl
 |y::ys,_,.cons r rs=>by rw [wN rs,show _=Value.ref y from r];rfl
section
theorem C0 (FB:ExcAttrBase B bmB) (Z:XIsi X.K C) (hc:oe.cls=.ref C) (hd:∃vs,oe.data=.fields vs) (hn:oe.dict=none):dS (X.hand a oe) (.builtin "isinstance") (fun xs H Q=>∃v b,xs=[.ref a,v] /\
  ((∃c,RelV v c/\(∀u,RelV v u->u=c)/\kitOne X.K (.ref C) c=some b)\/∃(tp:Addr) (ys:List Addr),v=.ref tp/\H tp=some (.tup (ys.map V.ref))/\kitAny X.K (.ref C) (ys.map Value.ref)=some b)/\Q (.bl b) H):=by
 intro pins s σ H xs us Q I r h;obtain ⟨v,b,rfl,h1,q⟩:=h;obtain ⟨u,w,rfl,ru,rw'⟩:=r.two;cases (show u=Value.ref a from ru);have pa:=(I.pin (a,oe) (List.mem_cons_self ..)).1;obtain ⟨vs,hdt⟩:=hd;have J:PySem.W.InstAt s.heap a oe C none:=⟨pa,hc,by unfold PySem.W.notCls;rw [hdt],by rw [hn];trivial⟩
 rcases h1 with ⟨c,rc,uniq,e⟩|⟨tp,ys,rfl,ht,e⟩
 ·cases uniq w rw';exact kia_one (tJ FB Z) I.kIn J e (fun z=>nomatch z) fun tk=>⟨.bl b,H,I.tok tk,rfl,q⟩
 ·cases (show w=Value.ref tp from rw');obtain ⟨_,its,rv,ob,z1,z2⟩:=(show fX X.prog X.w H s.heap tp (.tup (ys.map V.ref)) from I.hok tp _ ht)
  obtain ⟨z3,n,z4⟩:=z2;have ei:its=ys.map Value.ref:=wN rv;subst ei;obtain ⟨oc,odd,odt,osl⟩:=ob;have z5:oc=Value.type "tuple":=z3;have z6:odt=.seq (ys.map Value.ref).toArray n:=z4;subst z5 z6;exact PySem.W.kia_tup (tJ FB Z) I.kIn J z1 e (fun z=>nomatch z) fun tk=>⟨.bl b,H,I.tok tk,rfl,q⟩
end
noncomputable def tIsiX (i:Nat) (a:Addr) (b:Bool):TE:=fun σ H Q=>σ[i]? =some (some (.ref a))/\Q (.bl b) H
noncomputable def tIsiT (i:Nat) (a:Addr) (ys:List Addr) (b:Bool):TE:=fun σ H Q=>σ[i]? =some (some (.ref a))/\∀p,H p=none->Q (.bl b) (upd H p (.tup (ys.map V.ref)))
section
variable {D:Addr} {n:Str} {b:Bool}
theorem pe_isiO (FB:ExcAttrBase B bmB) (Z:XIsi X.K C) (hc:oe.cls=.ref C) (hd:∃vs,oe.data=.fields vs) (hn:oe.dict=none) (hm:X.mg "isinstance"=none) (hD:X.mg y=some (.ref D)) (hb:kitOne X.K (.ref C) (.ref D)=some b)
  (hN:X.N[i]? =some n:=by rfl) (hv:Vis X.env.scope n:=by first|exact Or.inl rfl|exact Or.inr (Or.inl rfl)|exact Or.inr (Or.inr rfl)) (hd1:(n==("__debug__":Str))=false:=by decide) (hd2:(n==("__classdict__":Str))=false:=by decide)
  (hg:Gl (X.hand a oe) "isinstance":=by rfl) (hgD:Gl (X.hand a oe) y:=by rfl) (hd3:(y==("__debug__":Str))=false:=by decide)
  (hst:starEach [.Name n p1,.Name y p2] X.env=[(false,eval (.Name n p1) X.env),(false,eval (.Name y p2) X.env)]:=by rfl) (hst2:starEach [.Name y p2] X.env=[(false,eval (.Name y p2) X.env)]:=by rfl) (hpl:(backTo pos (starEach [.Name y p2] X.env)).any (·.1)=false:=by rfl) :
  PE (X.hand a oe) (.Call (.Name "isinstance" p) [.Name n p1,.Name y p2] [] pos) (tIsiX i a b):=by
 have vD:PE (X.hand a oe) (.Name y p2) (tC (.ref D)):=fun pins s σ H Q I h=>mT I hgD hD ⟨.ref D,H,I,rfl,h⟩ hd3;refine PE.imp (gA (X:=X.hand a oe) (C0 FB Z hc hd hn) hg hm boot_isinstance (bj (pv i hN hv hd1 hd2) (bj vD fg hst2) (by rw [hst,hst2])) (by decide) (by decide) (by rw [hst,hst2]) hpl) fun σ H Q h=>?_;obtain ⟨e1,q⟩:=h;exact ⟨.ref a,e1,.ref D,b,rfl,.inl ⟨.ref D,rfl,fun u hu=>hu,hb⟩,q⟩
end
noncomputable def tRefs (ys:List Addr):TA:=fun _ H Q=>Q (ys.map V.ref) H
section
variable {n:Str} {b:Bool} {ys:List Addr} 
theorem pe_isiB (FB:ExcAttrBase B bmB) (Z:XIsi X.K C) (hc:oe.cls=.ref C) (hd:∃vs,oe.data=.fields vs) (hn:oe.dict=none) (hm:X.mg "isinstance"=none) (hmT:X.mg y=none) (hvT:bootBuiltins y=some (.type T)) (hb:kitOne X.K (.ref C) (.type T)=some b)
  (hN:X.N[i]? =some n:=by rfl) (hv:Vis X.env.scope n:=by first|exact Or.inl rfl|exact Or.inr (Or.inl rfl)|exact Or.inr (Or.inr rfl)) (hd1:(n==("__debug__":Str))=false:=by decide) (hd2:(n==("__classdict__":Str))=false:=by decide)
  (hg:Gl (X.hand a oe) "isinstance":=by rfl) (hgT:Gl (X.hand a oe) y:=by rfl) (hy:y≠"__name__":=by decide) (hd3:(y==("__debug__":Str))=false:=by decide)
  (hst:starEach [.Name n p1,.Name y p2] X.env=[(false,eval (.Name n p1) X.env),(false,eval (.Name y p2) X.env)]:=by rfl) (hst2:starEach [.Name y p2] X.env=[(false,eval (.Name y p2) X.env)]:=by rfl) (hpl:(backTo pos (starEach [.Name y p2] X.env)).any (·.1)=false:=by rfl) :
  PE (X.hand a oe) (.Call (.Name "isinstance" p) [.Name n p1,.Name y p2] [] pos) (tIsiX i a b):=by
 refine PE.imp (gA (X:=X.hand a oe) (C0 FB Z hc hd hn) hg hm boot_isinstance (bj (pv i hN hv hd1 hd2) (bj (E9 (X:=X.hand a oe) (pos:=p2) hgT hmT hvT hy hd3) fg hst2) (by rw [hst,hst2])) (by decide) (by decide) (by rw [hst,hst2]) hpl) fun σ H Q h=>?_;obtain ⟨e1,q⟩:=h;exact ⟨.ref a,e1,.ty T,b,rfl,.inl ⟨.type T,rfl,fun u hu=>hu,hb⟩,q⟩
theorem pe_isiT {j} (FB:ExcAttrBase B bmB) (Z:XIsi X.K C) (hc:oe.cls=.ref C) (hd:∃vs,oe.data=.fields vs) (hn:oe.dict=none) (hm:X.mg "isinstance"=none) (hT:PA (X.hand a oe) es (tRefs ys)) (hl:ys.length<=sizeLine) (hb:kitAny X.K (.ref C) (ys.map Value.ref)=some b)
  (hN:X.N[i]? =some n:=by rfl) (hv:Vis X.env.scope n:=by first|exact Or.inl rfl|exact Or.inr (Or.inl rfl)|exact Or.inr (Or.inr rfl)) (hd1:(n==("__debug__":Str))=false:=by decide) (hd2:(n==("__classdict__":Str))=false:=by decide)
  (hg:Gl (X.hand a oe) "isinstance":=by rfl)
  (hst:starEach [.Name n p1,.Tuple es j p2] X.env=[(false,eval (.Name n p1) X.env),(false,eval (.Tuple es j p2) X.env)]:=by rfl) (hst2:starEach [.Tuple es j p2] X.env=[(false,eval (.Tuple es j p2) X.env)]:=by rfl) (hpl:(backTo pos (starEach [.Tuple es j p2] X.env)).any (·.1)=false:=by rfl) :
  PE (X.hand a oe) (.Call (.Name "isinstance" p) [.Name n p1,.Tuple es j p2] [] pos) (tIsiT i a ys b):=by
 refine PE.imp (gA (X:=X.hand a oe) (C0 FB Z hc hd hn) hg hm boot_isinstance (bj (pv i hN hv hd1 hd2) (bj (Ea hT) fg hst2) (by rw [hst,hst2])) (by decide) (by decide) (by rw [hst,hst2]) hpl) fun σ H Q h=>?_;obtain ⟨e1,q⟩:=h;exact ⟨.ref a,e1,by rw [List.length_map];exact hl,fun tp htp=>⟨.ref tp,b,rfl,.inr ⟨tp,ys,rfl,ar,hb⟩,q tp htp⟩⟩
end
noncomputable def DEat (K:Pn) (E:XK) (own:Bool) (X:Cx) (pins:Vp) (σ:St) (e:Expr) (f:ak->M Dat):Prop:=PEat X pins σ e (tD K (WE K E) own f)
noncomputable def DSat (K:Pn) (E:XK) (ro:Bool) (X:Cx) (OL O O':List Nat) (pins:Vp) (σ:St) (st:List Stmt) (g:ak->M Flo):Prop:=∀F0 H0,PSsAt X pins σ st (tS K (WE K E) ro F0 H0 OL O O' g)
theorem PEat.imp {t u:TE} (h:PEat X pins σ e t) (k:∀H Q,u σ H Q->t σ H Q):PEat X pins σ e u:=fun s H Q I q=>h s H Q I (k H Q q)
theorem PSat.imp {u:TS} (h:PSat X pins σ st t) (k:∀D H,u D σ H->t D σ H):PSat X pins σ st u:=fun s H D I q=>h s H D I (k D H q)
section
variable {fr:ak->M (List Dat)} {E:XK} 
theorem dea_call (F:cm X.prog X.w X.K X.mg X.base CX k fad fd ps (spX K ro (cb nN n g) n)) (hx:sf CX X pins σ E) (hr:mz k X.A) (hm:X.mg x=some (.ref fad)) (hk:keepIn X.K (.ref fad)=true) (hb:Binds X.K fd ps [])
  (ha:DA K (WE K E) X (e::es) fr) (hg:Gl X x:=by rfl) (hdb:(x==("__debug__":Str))=false:=by decide) (hst:starEach (e::es) X.env=(false,eval e X.env)::starEach es X.env:=by rfl) (hpl:(backTo pos (starEach es X.env)).any (·.1)=false:=by rfl) :
  DEat K E ro X pins σ (.Call (.Name x p) (e::es) [] pos) (fL (cb nN n g) fr):=by
 refine PEat.imp (at_call F hx hr hm hk hb .nil ha hg hdb hst hpl) fun H Q h=>?_;obtain ⟨F,ρ,r,s,p⟩:=rd_L h;refine ⟨F,ρ,r,s,?_⟩
 cases e1:fr ρ with
 |error z=>rw [e1] at p;exact p
 |ok ds=>
  rw [e1] at p;intro vs F' H' st q;obtain ⟨F1,es1,s1,q1,z⟩:=p vs F' H' st q;show spX K ro (cb nN n g) n (vs++[]) H' Q E;rw [List.append_nil];by_cases hl:es1.length=n
  ·exact ⟨F1,es1,s1,q1,hl,z⟩
  ·rw [rH hl] at z;exact aI.stuck z
end
section
variable {own:Bool} {E:XK} {f:ak->M Dat} 
theorem dsa_set (hN:X.N.Nodup) (h:DEat K E own X pins σ e f) (hi:X.N[i]? =some x:=by rfl) (hx:Loc X.env.scope x:=by first|exact Or.inl rfl|exact Or.inr rfl) (hs:swapsWith e (some (.Name x pos')) pos.line X.env=pure false:=by rfl) (hf:X.fn x=true\/X.env.scope.names.lookup x=some .local:=by first|exact .inl rfl|exact .inr rfl|assumption) :
  DSat K E ro X OL O (aft own i O) pins σ [.Assign [.Name x pos'] e pos] (aD O i f):=fun F0 H0=>at_one (PSat.imp (at_set hN hi hx h hs hf) fun D H z=>zV z)
end
theorem Rep.back {K:Pn} {F0 H0 F1 H1 FB F H:Hp} {O:List Nat} {σ:St} {ρ:ak} (r:Rep K F1 H1 FB O F H σ ρ) (s:Step F0 H0 F1 H1):Rep K F0 H0 FB O F H σ ρ:=
 ⟨s.trans r.st,r.fb,r.len,r.fz,fun i d e h=>let ⟨v,z,q⟩:=r.ow i d e h;⟨v,z,q.back s.hh⟩,r.ap⟩
noncomputable abbrev xArgs (vs:List Value):Obj:={cls:=.type "tuple",data:=.seq vs.toArray}
noncomputable abbrev Dm (C t:Addr):Obj:={cls:=.ref C,data:=.fields #[.ref t,.none,.none,.none,.bool false,.none]}
noncomputable abbrev wy (h:Heap) (C:Addr) (vs:List Value):Heap:=(h.push (xArgs vs)).push (Dm C h.objs.size)
section
variable {g:Array GenState} {d:Drawn} {t:Nat} 
variable {q:Str} {N:Addr} {bs:List Value} {mN:Ld} {oI:Obj}
theorem tV {b:Addr} {o:Obj} (e:h.get? b=some o):(wy h C us).get? b=some o:=Heap.get?_push_of_some _ (Heap.get?_push_of_some _ e)
theorem xW:(wy h C us).get? (h.objs.size+1)=some (Dm C h.objs.size):=by
 have z:=Heap.get?_push_size (h.push (xArgs us)) (o:=Dm C h.objs.size) rfl
 rwa [Heap.size_push] at z
theorem x_type (F:ExcBaseFacts B newId initId bmB) (T:OwnTail h bmB tl) (hC:h.get? C=some (excClassObj nm q C N bs tl hdct sn sub ab col dd k0 k1 k2 k3 k5 newId)) (on:h.Ns N mN) (hi:mN "__init__"=some (.ref fI))
  (ho:h.get? fI=some oI) (hcl:oI.cls=.type "function") (hl:us.length<=sizeLine) {Q:Fin->Shared->Prop}
  (z:wpAny (model prog w) A (call (.ref fI) (.ref (h.objs.size+1)::us)) (fun r s'=>r=.none/\Q (.done (.ret (.ref (h.objs.size+1)))) s') E ⟨wy h C us,g,d,t,os⟩) :
  wpAny (model prog w) A (Builtin.«type.__call__» ⟨.ref C::us,[]⟩) Q E ⟨h,g,d,t,os⟩:=by
 have k:∀b o,h.get? b=some o->(wy h C us).get? b=some o:=fun b o e=>tV e;have oC:=k _ _ hC;have me:(Value.ref C::tl).contains (.ref C)=true:=by simp
 have nw:(wy h C us).get? (h.objs.size+1)=some (Dm C h.objs.size):=xW
 repeat (first|with_reducible refine wpAny_madeBy_exc hC ?_|with_reducible refine wpAny_loadPart_at hC ?_|wp_step)
 refine codeAny_call_builtin_code (Code.quiet_builtin _ F.quiet) (wpAny_check_new_subT F T hC (codeAny_exc_new_subT F T hC ?_ hl));show wpAny _ _ _ _ _ (⟨wy h C us,g,d,t,os⟩:Shared);unfold isInstance
 repeat (first|(with_reducible refine wpAny_isSubtype_exc oC ?_;rw [me])|with_reducible refine wpAny_loadPart_at nw ?_|wp_step)
 refine wpAny_typeLookup_tail oC (on.keeps k) (T.keeps k) F.mroIs F.init.lookup ?_;rw [hi];unfold bindSpecial;refine wpAny_holding (wpAny_bind (wpAny_bind (wpAny_typeOf (T:="function") ⟨_,k _ _ ho,hcl⟩ ?_)));rw [if_pos (by decide)];refine wpAny_pure (wpAny_bind (thn z fun r s' y=>?_));obtain ⟨e,y⟩:=y;subst e
 wp_walk
 exact y
theorem x_call (F:ExcBaseFacts B newId initId bmB) (T:OwnTail h bmB tl) (hC:h.get? C=some (excClassObj nm q C N bs tl hdct sn sub ab col dd k0 k1 k2 k3 k5 newId)) (on:h.Ns N mN) (hi:mN "__init__"=some (.ref fI))
  (ho:h.get? fI=some oI) (hcl:oI.cls=.type "function") (hl:us.length<=sizeLine) {Q:Mq}
  (z:wpAny (model prog w) (A.under (.builtin "type.__call__" ⟨.ref C::us,[]⟩)) (call (.ref fI) (.ref (h.objs.size+1)::us)) (fun r s'=>r=.none/\Q (.ref (h.objs.size+1)) s') E ⟨wy h C us,g,d,t,os⟩) :
  wpAny (model prog w) A (call (.ref C) us) Q E ⟨h,g,d,t,os⟩:=by
 have l1:=tc_lookup;have l2:=tc_bind (.ref C);have ty:(⟨h,g,d,t,os⟩:Shared).TypeIs (.ref C) "type":=⟨_,hC,rfl⟩
 refine wpAny_call (codeAny_of_tree ?_);show wpAny _ _ (callAny (.ref C) _) _ _ _
 (repeat (any_goals (first|assumption|with_reducible refine wpAny_loadPart_at hC ?_|wp_step)));exact ⟨rfl,codeAny_call_builtin_at (Code.quiet_builtin _ (by decide +kernel)) entry_typeCall (wpAny_check_type_call_sub hC (x_type F T hC on hi ho hcl hl z))⟩
end
theorem ns_some {N:Addr} {m:Ld} {n:Str} {v:Value} (X:K.In h) (G:h.Ns N m) (e:nsIn K N n=some (some v)):m n=some v:=by
 obtain ⟨o,es,ep,g1,g2,_,g3⟩:=G;unfold nsIn at e;cases q:K.lookup N with
 |none=>rw [q] at e;exact nomatch e
 |some ob=>
  have z:=X _ _ q;rw [g1] at z;cases z;obtain ⟨c,d,dt,sl⟩:=o;cases (show dt=.dict es ep from g2);rw [q] at e;dsimp only at e;cases f:es.toList.find? (·.key.isStr n) with
  |none=>rw [f] at e;dsimp only at e;split at e<;>cases e
  |some en=>
   rw [f] at e;cases e;rw [<- g3];unfold nsFind findBy;rw [<- Array.find?_toList,f];rfl
noncomputable def sZ (K:Pn) (C:Addr) (bmB:List Value) (newId:String) (f:Addr):Bool:=match K.lookup C with
 |some ⟨.type "type",_,.cls cd,sl⟩=>
   (match cd.mro,sl.toList with
  |.ref C'::tl,[_,_,_,_,some (.builtin n),_]=>(n==newId&&C'==C&& !cd.hasDel)&&(PySem.W.nsOkIn K cd.ns&&PySem.W.tailIn K bmB tl)&&(nsIn K cd.ns "__init__"==some (some (.ref f)))
  |_,_=>false)
 |_=>false
theorem xr {f:Addr} (X:K.In h) (q:sZ K C bmB newId f=true) :
  ∃tl N nm qn bs hdct sn sub ab col dd k0 k1 k2 k3 k5 mN,h.get? C=some (excClassObj nm qn C N bs tl hdct sn sub ab col dd k0 k1 k2 k3 k5 newId)/\h.Ns N mN/\mN "__init__"=some (.ref f)/\OwnTail h bmB tl:=by
 unfold sZ at q;split at q
 next dd cd sl ho=>
  split at q
  next C' tl k0 k1 k2 k3 n k5 hm hs=>
   obtain ⟨c1,c2,mro,c4,c5,c6,c7,c8,c9,c10,del⟩:=cd;obtain ⟨l⟩:=sl;simp only [Bool.and_eq_true] at q;obtain ⟨⟨⟨⟨a2,a1⟩,a3⟩,a5,a4⟩,a6⟩:=q;have b1:C'=C:=beq_iff_eq.mp a1;have b2:n=newId:=beq_iff_eq.mp a2;have b3:del=false:=by cases del<;>first|rfl|cases a3
   have b4:mro=Value.ref C'::tl:=hm;have b5:l=[k0,k1,k2,k3,some (.builtin n),k5]:=hs;subst b1 b2 b3 b4 b5;exact ⟨tl,c4,c1,c5,c2,c6,c7,c8,c9,c10,dd,k0,k1,k2,k3,k5,_,X _ _ ho,.of_isNs (PySem.W.isNs_of_in X a5),ns_some X (.of_isNs (PySem.W.isNs_of_in X a5)) (beq_iff_eq.mp a6),PySem.W.tail_of_in X a4⟩
  next=>cases q
 next=>cases q
theorem xnamed2 {f:Addr} (q:sZ K C bmB newId f=true):XNamed K C bmB:=fun _ X=>by
 obtain ⟨tl,N,nm,qn,bs,hdct,sn,sub,ab,col,dd,k0,k1,k2,k3,k5,mN,o1,o2,o3,o4⟩:=xr X q;exact ⟨tl,N,nm,qn,bs,hdct,sn,sub,ab,col,dd,k0,k1,k2,k3,k5,newId,o1,o4⟩
noncomputable def tW:List Value->Bool
 |.ref _::r=>tW r
 |[.type a,.type b,.type c,.type d]=>a=="ValueError"&&b=="Exception"&&c=="BaseException"&&d=="object"
 |_=>false
theorem Dp (me:Value):∀{l:List Value},tW l=true->refuseLoop me "__setattr__" l=pure ()
 |.ref _::_,e=>by rw [refuseLoop_ref];exact Dp me e
 |[.type a,.type b,.type c,.type d],e=>by
  simp only [tW,Bool.and_eq_true,beq_iff_eq] at e;obtain ⟨⟨⟨rfl,rfl⟩,rfl⟩,rfl⟩:=e;exact PySem.F.store_ValueError.passes me
theorem ve_obj:∀{l:List Value},tW l=true->l.contains (.type "object")=true
 |.ref _::r,e=>by rw [List.contains_cons,ve_obj (l:=r) e,Bool.or_true]
 |[.type a,.type b,.type c,.type d],e=>by
  simp only [tW,Bool.and_eq_true,beq_iff_eq] at e;obtain ⟨⟨⟨rfl,rfl⟩,rfl⟩,rfl⟩:=e;decide +kernel
structure FN (K:Pn) (C:Addr) (f:Str):Prop where
 sa:PySem.W.findIn K (.ref C) "__setattr__"
   =some (some (.builtin "object.__setattr__"))
 no:PySem.W.findIn K (.ref C) f=some none
 cd:((PySem.W.clsIn K C).any fun cd=>tW cd.mro&&cd.hasDict)=true
section
open PySem.W
variable {od:Option Obj} {K:Frag} {f:Str} {v:Value}
theorem x_open {R:Result->Shared->Prop} (X:K.In s.heap) (I:W.InstAt s.heap a oe C od) (Z:FN K C f)
  (z:∀b,wpAny (model prog w) A.in1 (Builtin.ObjectAttr.storeInOwnDict (.ref a) (.ref C) (.str f tk) f v b)
   (fun fin s'=>match fin with|.done y=>R (.ok y) s'|.again c'=>c'.quiet=true/\codeAny (model prog w) A c' R s') (fun e s'=>R (.error e) s') s) :
  codeAny (model prog w) A (.call (.builtin "object.__setattr__") ⟨[.ref a,.str f tk,v],[]⟩) R s:=by
 have SF:=PySem.F.store_object;obtain ⟨cd,hc,ho⟩:=any_some Z.cd;rw [Bool.and_eq_true] at ho;have ne:cd.mro.isEmpty=false:=by cases q:cd.mro with|nil=>rw [q] at ho;cases ho.1|cons _ _=>rfl
 have up:Looks (model prog w) s.heap (isInstance (.ref a) (.type "object")) true:=I.type.andThen (looks_mroIn X (by unfold mroIn;rw [hc,Option.bind_some,if_neg (by rw [ne];decide),ve_obj ho.1]));refine codeAny_call_builtin SF.slot.plain SF.entry (@check_slot (model prog w) _ _ s "object.__setattr__" "object" "__setattr__" (.ref a) [.str f tk,v] [] _ SF.kind SF.split up (SF.args (.ref a) (.str f tk) v) ?_);rw [osa_eq,refuse_eq];have hm:Looks (model prog w) s.heap (mroOf (.ref C)) cd.mro:=(looks_clsIn X hc).andThen .now;refine wpAny_bind (wpAny_bind (I.type.here (wpAny_bind (hm.here ?_))));rw [Dp _ ho.1];exact wpAny_pure (wpAny_bind (I.type.here (wpAny_bind ((looks_findIn X Z.no).here (wpAny_bind (wpAny_pure (z _)))))))
theorem x_set1 (X:K.In s.heap) (Z:FN K C f) (he:s.heap.get? a=some ⟨.ref C,none,.fields vs,#[]⟩)
  (z:∀h',h'.get? a=some ⟨.ref C,some s.heap.objs.size,.fields vs,#[]⟩->h'.Ns1 s.heap.objs.size (fun y=>if y=f then some v else none)->(∀b o,b≠a->s.heap.get? b=some o->h'.get? b=some o)->Q () {s with heap:=h',toks:=s.toks+2}) :
  wpAny (model prog w) A (setAttr (.ref a) f v) Q E s:=by
 have I:W.InstAt s.heap a ⟨.ref C,none,.fields vs,#[]⟩ C none:=⟨he,rfl,rfl,trivial⟩
 refine set_plain X I Z.sa (x_open (s:={s with toks:=s.toks+1}) X I Z fun b=>?_);obtain ⟨cd,hc,ho⟩:=any_some Z.cd;rw [Bool.and_eq_true] at ho;refine wpAny_bind (wpAny_pure (wpAny_bind (wpAny_bind (wpAny_loadPart he (wpAny_bind (Looks.here (s:={s with toks:=s.toks+1}) (looks_clsIn X hc) ?_))))));rw [ho.2];have ne:a≠s.heap.objs.size:=Nat.ne_of_lt (Heap.lt_size he);have h1:(s.heap.push emptyDict).get? a=some ⟨.ref C,none,.fields vs,#[]⟩:=Heap.get?_push_of_some _ he;refine wpAny_bind (wpAny_alloc' (wpAny_bind (wpAny_update' h1 (wpAny_pure ?_))));have h2:((s.heap.push emptyDict).update a fun o=>{o with dict:=some s.heap.objs.size}).get? s.heap.objs.size=some emptyDict:=by
  rw [Heap.get?_update_other _ _ ne];exact Heap.get?_push_size s.heap rfl
 have h3:((s.heap.push emptyDict).update a fun o=>{o with dict:=some s.heap.objs.size}).get? a=some ⟨.ref C,some s.heap.objs.size,.fields vs,#[]⟩:=Heap.get?_update_self _ h1 rfl;refine wpAny_bind (wpAny_pure (wpAny_bind (wpAny_nsSet1 (m:=fun _=>none) (Heap.Ns1.of_empty ⟨emptyDict,#[],_,h2,rfl,(fun e he=>absurd he (by simp)),fun _=>rfl⟩) fun h' n1 sb=>?_)));obtain ⟨oD,esD,epD,c1,c2,c3⟩:=n1.count (Within.cons f v Within.nil);refine wpAny_bind (wpAny_lookBehind c1 (by rw [c2];exact pastItsLine_dict (Nat.le_trans c3 (by rw [List.length_cons,List.length_nil,sizeLine_eq];omega))) (wpAny_pure ?_));exact z h' ((sb.2 a ne).trans h3) n1 fun b o hb q=>(sb.2 b (Nat.ne_of_lt (Heap.lt_size q))).trans (by rw [Heap.get?_update_other _ _ (Ne.symm hb)];exact Heap.get?_push_of_some _ q)
theorem x_set2 {dx:Addr} {ns:List Str} (X:K.In s.heap) (Z:FN K C f) (he:s.heap.get? a=some ⟨.ref C,some dx,.fields vs,#[]⟩) (hd:s.heap.Ns1 dx mA) (hw:Within mA ns) (hl:ns.length<=1000)
  (z:∀h',h'.Ns1 dx (fun y=>if y=f then some v else mA y)->Heap.SameBut dx s.heap h'->Q () {s with heap:=h',toks:=s.toks+2}) :
  wpAny (model prog w) A (setAttr (.ref a) f v) Q E s:=by
 obtain ⟨ob,es,ep,d1,d2⟩:=id hd;have I:W.InstAt s.heap a ⟨.ref C,some dx,.fields vs,#[]⟩ C (some ob):=⟨he,rfl,rfl,d1⟩
 refine set_plain X I Z.sa (x_open (s:={s with toks:=s.toks+1}) X I Z fun b=>?_);obtain ⟨cd,hc,ho⟩:=any_some Z.cd;rw [Bool.and_eq_true] at ho;refine wpAny_bind (wpAny_pure (wpAny_bind (wpAny_bind (wpAny_loadPart he (wpAny_bind (Looks.here (s:={s with toks:=s.toks+1}) (looks_clsIn X hc) ?_))))));rw [ho.2];refine wpAny_pure (a:=some dx) (wpAny_bind (wpAny_pure (wpAny_bind (wpAny_nsSet1 (s:={s with toks:=s.toks+1}) hd fun h' n1 sb=>?_))));obtain ⟨oD,esD,epD,c1,c2,c3⟩:=n1.count (Within.cons f v hw);refine wpAny_bind (wpAny_lookBehind c1 (by rw [c2];exact pastItsLine_dict (Nat.le_trans c3 (by rw [List.length_cons,sizeLine_eq];omega))) (wpAny_pure ?_));exact z h' n1 sb
end
section
open PySem.W
end
noncomputable def XO (a C:Addr) (dx:Option Addr):HO:=.ext fun h=>∃vs:Array Value,vs[1]? =some .none/\h.get? a=some ⟨.ref C,dx,.fields vs,#[]⟩
noncomputable def XD (d:Addr) (fs:List (Str×V)):HO:=.ext fun h=>∃mA,h.Ns1 d mA/\(∀f,zt (fs.lookup f) (mA f))/\PySem.Within mA (fs.map (·.1))
section
variable {d:Addr} {fs:List (Str×V)}
theorem xo_ok (h1:vs[1]? =some .none) (e:h.get? a=some ⟨.ref C,dx,.fields vs,#[]⟩):fX P w H h a (XO a C dx):=⟨⟨vs,h1,e⟩,⟨_,e⟩,fun _ _ ⟨vs,q,e⟩ k=>⟨vs,q,k _ e⟩⟩
theorem xd_ok (n:h.Ns1 d mA) (r:∀f,zt (fs.lookup f) (mA f)) (wi:PySem.Within mA (fs.map (·.1))):fX P w H h d (XD d fs):=
 ⟨⟨mA,n,r,wi⟩,(let ⟨o,_,_,e,_⟩:=n;⟨o,e⟩),fun _ _ ⟨m,q,z⟩ k=>⟨m,q.at k,z⟩⟩
theorem Dk (x:fX P w H h a (XO a C dx)):∃vs:Array Value,vs[1]? =some .none/\h.get? a=some ⟨.ref C,dx,.fields vs,#[]⟩:=x.1
theorem xd_get (x:fX P w H h d (XD d fs)):∃mA,h.Ns1 d mA/\(∀f,zt (fs.lookup f) (mA f))/\PySem.Within mA (fs.map (·.1)):=x.1
end
section
theorem Inv.turn {t':Nat} (I:Inv X pins σ H s) (S:Addr->Prop) (k:∀b o,¬S b->s.heap.get? b=some o->h'.get? b=some o) (same:∀b,¬S b->H' b=H b)
  (mine:∀b,S b->(∃φ,H b=some (.ext φ))\/s.heap.get? b=none) (there:∀b o,S b->s.heap.get? b=some o->∃o',h'.get? b=some o') (new:∀b o,S b->H' b=some o->fX X.prog X.w H' h' b o) :
  Inv X pins σ H' {s with heap:=h',toks:=t'}:=by
 have out:∀b u,H b=some u->(∀φ,u≠.ext φ)->¬S b:=fun b u e n z=>by
  rcases mine b z with ⟨φ,q⟩|q
  ·rw [e] at q;cases q;exact n φ rfl
  ·obtain ⟨o,r⟩:=(I.hok b u e).is;rw [r] at q;cases q
 have off:∀b o,s.heap.get? b=some o->H b=none->¬S b:=fun b o e n z=>by
  rcases mine b z with ⟨φ,q⟩|q
  ·rw [n] at q;cases q
  ·rw [e] at q;cases q
 refine I.un ⟨fun b o e n _ _=>k b o (off b o e n) e,fun b o e n _ _=>⟨o.slots,k b o (off b o e n) e⟩,fun b o e n _=>by rw [same b (off b o e n)];exact n,fun b o e _=>?_,fun b xs e=>?_,fun b o u e=>?_,fun b ps e=>?_⟩ fun b u e=>?_
 ·by_cases z:S b
  ·exact there b o z e
  ·exact ⟨o,k b o z e⟩
 ·rw [same b (out b _ e fun _ z=>nomatch z)];exact e
 ·rw [same b (out b _ e fun _ z=>nomatch z)];exact e
 ·exact ⟨#[],by rw [same b (out b _ e fun _ z=>nomatch z),Array.append_empty];exact e⟩
 ·by_cases z:S b
  ·exact new b u z e
  ·rw [same b z] at e;refine (I.hok b u e).Bf (fun c v hc q=>k c v ?_ q) (fun c q=>?_) fun c xs q=>?_
   ·rcases hc with rfl|hc
    ·exact z
    ·exact out c _ hc fun _ z=>nomatch z
   ·rw [same c (out c _ q fun _ z=>nomatch z)];exact q
   ·rw [same c (out c _ q fun _ z=>nomatch z)];exact q
end
section
variable {d:Addr} {f:Str} {y:V} 
theorem xset1_ok (I:Inv X pins σ H s) (e:H a=some (XO a C none)) (Z:FN X.K C f) (ry:RelV y u)
  (z:∀d s',H d=none->d≠a->Inv X pins σ (upd (upd H d (XD d [(f,y)])) a (XO a C (some d))) s'->Q () s'):wpAny (model X.prog X.w) A (setAttr (.ref a) f u) Q E s:=by
 obtain ⟨vs,v1,he⟩:=Dk (I.hok a _ e);have fr:=I.hok.fresh (Nat.le_refl s.heap.objs.size);have ne:s.heap.objs.size≠a:=fun q=>by rw [q,e] at fr;cases fr
 refine x_set1 I.kIn Z he fun h' e1 n1 k=>z s.heap.objs.size _ fr ne ?_;refine I.turn (fun b=>b=a\/b=s.heap.objs.size) (fun b o nb q=>k b o (fun r=>nb (.inl r)) q) (fun b nb=>by rw [aw fun r=>nb (.inl r),aw fun r=>nb (.inr r)]) (fun b hb=>?_) (fun b o hb q=>?_) fun b o hb q=>?_
 ·rcases hb with rfl|rfl
  ·exact .inl ⟨_,e⟩
  ·exact .inr (get_none (Nat.le_refl _))
 ·rcases hb with rfl|rfl
  ·exact ⟨_,e1⟩
  ·rw [get_none (Nat.le_refl _)] at q;cases q
 ·rcases hb with rfl|rfl
  ·rw [ar] at q;cases q;exact xo_ok v1 e1
  ·rw [aw ne,ar] at q;cases q;refine xd_ok n1 (fun g=>?_) fun g hg=>?_
   ·show zt (List.lookup g [(f,y)]) (if g=f then some u else none);rw [List.lookup_cons];by_cases hf:g=f
    ·rw [if_pos hf,show (g==f)=true from beq_iff_eq.mpr hf];exact ry
    ·rw [if_neg hf,show (g==f)=false from beq_eq_false_iff_ne.mpr hf];trivial
   ·by_cases hf:g=f
    ·exact List.mem_cons.mpr (.inl hf)
    ·exact absurd (show (if g=f then some u else none)=none from if_neg hf) hg
theorem xset2_ok {fs:List (Str×V)} (I:Inv X pins σ H s) (e:H a=some (XO a C (some d))) (e2:H d=some (XD d fs)) (ne:d≠a) (hl:fs.length<=900) (Z:FN X.K C f) (ry:RelV y u)
  (z:∀s',Inv X pins σ (upd H d (XD d (vb f y fs))) s'->Q () s'):wpAny (model X.prog X.w) A (setAttr (.ref a) f u) Q E s:=by
 obtain ⟨vs,v1,he⟩:=Dk (I.hok a _ e);obtain ⟨mA,n,r,wi⟩:=xd_get (I.hok d _ e2);refine x_set2 I.kIn Z he n wi (by rw [List.length_map];omega) fun h' n1 sb=>z _ ?_;refine I.turn (fun b=>b=d) (fun b o nb q=>(sb.2 b nb).trans q) (fun b nb=>aw nb) (fun b hb=>by subst hb;exact .inl ⟨_,e2⟩) (fun b o hb q=>by subst hb;obtain ⟨o',_,_,e',_⟩:=n1;exact ⟨o',e'⟩) fun b o hb q=>?_;subst hb;rw [ar] at q;cases q;refine xd_ok n1 (fun g=>?_) fun g hg=>?_
 ·show zt ((vb f y fs).lookup g)
    (if g=f then some u else mA g)
  rw [qE];by_cases q:g=f
  ·rw [if_pos q];rw [if_pos q];exact ry
  ·rw [if_neg q];rw [if_neg q];exact r g
 ·by_cases q:g=f
  ·rw [q];exact And.left (oS f y fs)
  ·exact (oS f y fs).2 g (wi g fun y'=>hg ((if_neg q).trans y'))
end
noncomputable def sX1 (C:Addr) (ta tv:TE) (f:Str):TS:=fun D σ H=>tv σ H fun y H1=>ta σ H1 fun x H2=>∃a,x=.ref a/\H2 a=some (XO a C none)/\∀d,H2 d=none->d≠a->D.nx σ (upd (upd H2 d (XD d [(f,y)])) a (XO a C (some d)))
noncomputable def sX2 (C:Addr) (ta tv:TE) (f:Str):TS:=fun D σ H=>tv σ H fun y H1=>ta σ H1 fun x H2=>∃a d fs,x=.ref a/\H2 a=some (XO a C (some d))/\H2 d=some (XD d fs)/\d≠a/\fs.length<=900/\D.nx σ (upd H2 d (XD d (vb f y fs)))
section
variable {o value:Expr} {f:Str} {tv:TE} 
theorem ps_x1 (ha:PE X o ta) (hv:PE X value tv) (Z:FN X.K C f) (hs:swapsWith value (some (.Attribute o f pos')) pos.line X.env=pure false:=by rfl):PS X (.Assign [.Attribute o f pos'] value pos) (sX1 C ta tv f):=by
 intro pins s σ H D I h;refine plainObj_wpAny_Assign_Attribute (thn (hv pins s σ H _ I h) fun u s1 ⟨y,H1,I1,ry,q⟩=>thn (ha pins s1 σ H1 _ I1 q) fun ov s2 ⟨x,H2,I2,rx,a,ex,ea,q2⟩=>?_) hs;subst ex;cases (show ov=Value.ref a from rx);exact xset1_ok I2 ea Z ry fun d s3 h1 h2 I3=>⟨σ,_,I3,q2 d h1 h2⟩
theorem ps_x2 (ha:PE X o ta) (hv:PE X value tv) (Z:FN X.K C f) (hs:swapsWith value (some (.Attribute o f pos')) pos.line X.env=pure false:=by rfl):PS X (.Assign [.Attribute o f pos'] value pos) (sX2 C ta tv f):=by
 intro pins s σ H D I h;refine plainObj_wpAny_Assign_Attribute (thn (hv pins s σ H _ I h) fun u s1 ⟨y,H1,I1,ry,q⟩=>thn (ha pins s1 σ H1 _ I1 q) fun ov s2 ⟨x,H2,I2,rx,a,d,fs,ex,ea,ed,ne,hl,q2⟩=>?_) hs;subst ex;cases (show ov=Value.ref a from rx);exact xset2_ok I2 ea ed ne hl Z ry fun s3 I3=>⟨σ,_,I3,q2⟩
end
noncomputable def spX2 (C:Addr) (f1 f2:Str):Sp:=fun vs H Q _=>∃a v1 v2,vs=[.ref a,v1,v2]/\H a=some (XO a C none)/\∀d,H d=none->d≠a->Q .non (upd (upd H d (XD d [(f1,v1),(f2,v2)])) a (XO a C (some d)))
theorem upd_mid {d:Addr} {x y z:HO} (h:d≠a):upd (upd (upd H d x) a y) d z=upd (upd H d z) a y:=by
 funext b
 by_cases hd:b=d
 ·subst hd;rw [ar,aw h,ar]
 ·rw [aw hd];by_cases ha:b=a
  ·subst ha;rw [ar,ar]
  ·rw [aw ha,aw ha,aw hd,aw hd]
theorem upd_low {d:Addr} {x y z:HO}:upd (upd (upd H a x) d y) a z=upd (upd H d y) a z:=by
 funext b
 by_cases ha:b=a
 ·subst ha;rw [ar,ar]
 ·rw [aw ha,aw ha];by_cases hd:b=d
  ·subst hd;rw [ar,ar]
  ·rw [aw hd,aw hd,aw ha]
theorem fn_at {f:Addr} (X:K.In h) (e:PySem.W.typeIn K (.ref f)=some (.type "function")):∃o,h.get? f=some o/\o.cls=.type "function":=by
 unfold PySem.W.typeIn at e;cases q:K.lookup f with
 |none=>simp only [q] at e;cases e
 |some o=>
  simp only [q] at e;exact ⟨o,X _ _ q,by simpa using e⟩
section
variable {f:Addr} {f1 f2:Str} {v1 v2:V} 
theorem new_x (FB:ExcBaseFacts B newId initId bmB) (hC:sZ X.K C bmB newId f=true) (hf:PySem.W.typeIn X.K (.ref f)=some (.type "function")) (F:cm X.prog X.w X.K X.mg X.base CX0 k f fd ps (spX2 C f1 f2)) (hr:mz (k+1) X.A) (hb:Binds X.K fd ps [])
  (I:Inv X pins σ H s) (r:Vals [v1,v2] us):wpAny (model X.prog X.w) X.A (call (.ref C) us) (fun v s'=>∃a d,v=.ref a/\s.heap.objs.size<=a/\H a=none/\H d=none/\d≠a/\Inv X pins σ (upd (upd H d (XD d [(f1,v1),(f2,v2)])) a (XO a C (some d))) s') X.xe s:=by
 obtain ⟨tl,N,nm,qn,bs,hdct,sn,sub,ab,col,dd,k0,k1,k2,k3,k5,mN,o1,o2,o3,o4⟩:=xr I.kIn hC;obtain ⟨oI,i1,i2⟩:=fn_at I.kIn hf;obtain ⟨hh,gg,dr,tk,os⟩:=s;have hz:=sizeLine_eq;have hl:us.length<=sizeLine:=by rw [<- r.length];show 2<=sizeLine;omega
 refine x_call FB o4 o1 o2 o3 i1 i2 hl ?_;have nw:(wy hh C us).get? (hh.objs.size+1)=some (Dm C hh.objs.size):=xW;have J:Inv X pins σ (upd H (hh.objs.size+1) (XO (hh.objs.size+1) C none)) {(⟨hh,gg,dr,tk,os⟩:Shared) with heap:=wy hh C us,toks:=tk}:=
  I.laid (fun b u q=>tV q) (Nat.le_succ _) (xo_ok (vs:=#[.ref hh.objs.size,.none,.none,.none,.bool false,.none]) rfl nw)
 have fa:H (hh.objs.size+1)=none:=I.hok.fresh (Nat.le_succ _);have w:Vals [V.ref (hh.objs.size+1),v1,v2] (Value.ref (hh.objs.size+1)::us++[]):=by rw [List.append_nil];exact .cons rfl r
 have q:spX2 C f1 f2 [V.ref (hh.objs.size+1),v1,v2] (upd H (hh.objs.size+1) (XO (hh.objs.size+1) C none)) (fun v H2=>v=.non/\∃d,H d=none/\d≠hh.objs.size+1/\H2=upd (upd H d (XD d [(f1,v1),(f2,v2)])) (hh.objs.size+1) (XO (hh.objs.size+1) C (some d))) (fun _ _ _=>False):=
  ⟨_,v1,v2,rfl,ar,fun d hd ne=>⟨rfl,d,by rw [aw ne] at hd;exact hd,ne,upd_low⟩⟩
 have n:(Value.ref (hh.objs.size+1)::us++[]).length=ps.length:=w.length.symm.trans (F.len _ _ _ _ q);refine wpAny_call (codeAny_mono (F.run _ X.stack _ _ ⟨.ref (hh.objs.size+1)::us,[]⟩ _ _ _ (fun _ _ _=>False) (hr.make C us []) (J.env0.make C us []) (hb _ (.ref (hh.objs.size+1)::us) J.kIn n) w q) fun z s' hq=>?_);cases z with
 |error e=>exact (show False from hq).elim
 |ok fl=>
  cases fl with
  |ret u=>
   obtain ⟨v,H',J3,rv,ev,d,h1,h2,h3⟩:=J.after hq;subst ev h3;exact ⟨rv,_,d,rfl,Nat.le_succ _,fa,h1,h2,J3⟩
  |_=>exact False.elim hq
end
theorem zI {M:Model} {q:Str} {N:Addr} {bs:List Value} 
  {x:Sem Value} {Q:Flow->Shared->Prop} (hB:tl.contains (.type "BaseException")=true) (hh:A.handled=none)
  (z:wpAny M A x (fun v s₁=>∃e oe,v=.ref e/\s₁.heap.get? C=some (excClassObj nm q C N bs tl hdct sn sub ab col dd k0 k1 k2 k3 k5 newId)/\s₁.heap.get? e=some oe/\oe.cls=.ref C/\(∃vs,oe.data=.fields vs/\vs[1]? =some .none)/\E (.ref e) s₁) E s) :
  wpAny M A
    (raiseStmt env (some x) none) Q E s:=by
 have cB:(Value.ref C::tl).contains (.type "BaseException")=true:=by rw [List.contains_cons,hB,Bool.or_true]
 unfold raiseStmt;refine wpAny_bind (thn z fun v s₁ h₁=>?_);obtain ⟨e,oe,rfl,hC,he,hc,⟨vs,hd,hv1⟩,hE⟩:=h₁;obtain ⟨oc,odi,oda,osl⟩:=oe;dsimp only at hc hd;subst hc hd;obtain ⟨hp,g,d,tk,os⟩:=s₁;repeat (first|(with_reducible refine wpAny_isSubtype_exc hC ?_;rw [cB])|with_reducible refine wpAny_loadPart_at he ?_|with_reducible refine wpAny_loadPart_at hC ?_|wp_step)
 rw [hv1];refine wpAny_pure ?_;rw [if_neg (by decide)];exact wpAny_pure (wpAny_raiseNew_none hh hE)
noncomputable def XEq2 (X:Cx) (E:XK) (C:Addr):Prop:=∀(pins:Vp) (σ:St) (H:Hp) (s':Shared) (a d:Addr),Inv X pins σ H s'->ExA s'.heap a (.ref C) (some d) none->X.s₀.heap.get? a=none->H a=none->E (.ref C) (some d) H->X.xe (.ref a) s'
noncomputable def tRaise2 (t:TA) (C:Addr) (f1 f2:Str) (E:XK):TS:=fun _ σ H=>t σ H fun vs H1=>∃v1 v2,vs=[v1,v2]/\∀d,H1 d=none->E (.ref C) (some d) (upd H1 d (.xd [(f1,v1),(f2,v2)]))
section
variable {E:XK} {f:Addr} {t:TA} {f1 f2:Str} 
theorem DZ (FB:ExcBaseFacts B newId initId bmB) (hx:XEq2 X E C) (hC:sZ X.K C bmB newId f=true) (hf:PySem.W.typeIn X.K (.ref f)=some (.type "function")) (hk:keepIn X.K (.ref C)=true) (F:cm X.prog X.w X.K X.mg X.base CX0 k f fd ps (spX2 C f1 f2)) (hr:mz (k+1) X.A) (hb:Binds X.K fd ps [])
  (hm:X.mg x=some (.ref C)) (ha:PA X [e1,e2] t) (hg:Gl X x:=by rfl) (hdb:(x==("__debug__":Str))=false:=by decide) (hst:starEach [e1,e2] X.env=(false,eval e1 X.env)::starEach [e2] X.env:=by rfl) (hpl:(backTo cpos (starEach [e2] X.env)).any (·.1)=false:=by rfl) :
  PS X (.Raise (some (.Call (.Name x np) [e1,e2] [] cpos)) none pos) (tRaise2 t C f1 f2 E):=by
 intro pins s σ H D I h;obtain ⟨tl,N,nm,qn,bs,hdct,sn,sub,ab,col,dd,k0,k1,k2,k3,k5,mN,o1,o2,o3,o4⟩:=xr I.mod.kin hC;rw [arm_exec_Raise];refine wpAny_bind (wpAny_standAt (zI (C:=C) (nm:=nm) (q:=qn) (N:=N) (bs:=bs) (tl:=tl) (hdct:=hdct) (sn:=sn) (sub:=sub) (ab:=ab) (col:=col) (dd:=dd) (k0:=k0) (k1:=k1) (k2:=k2) (k3:=k3) (k5:=k5) (newId:=newId) (o4.hasType FB.hasBase) hr.hd (wpAny_bind (thn ?_ fun v s₃ h₃=>wpAny_bind (wpAny_standAt (wpAny_pure h₃))))));refine wpAny_Call_Name_kw (mT I hg hm (callWith_K (h₀:=X.base) I.ok.mod.kin hk (thn (ha cpos pins s σ H _ I h) fun us s1 ⟨vs,H1,I1,r,q1⟩=>⟨I1.kIn,?_⟩) hst hpl) hdb);obtain ⟨v1,v2,rfl,q1⟩:=q1;refine thn (new_x FB hC hf F hr hb I1 r) fun v s2 ⟨a,d,ev,hn,fa,fd',ne,J⟩=>?_;subst ev;obtain ⟨vs,w1,he⟩:=Dk (J.hok a _ ar);have dd':upd (upd H1 d (XD d [(f1,v1),(f2,v2)])) a (XO a C (some d)) d=some (XD d [(f1,v1),(f2,v2)]):=by rw [aw ne];exact ar
 have J2:Inv X pins σ (upd H1 d (.xd [(f1,v1),(f2,v2)])) {s2 with heap:=s2.heap,toks:=s2.toks}:=by
  refine J.turn (fun b=>b=a\/b=d) (fun b o _ q=>q) (fun b nb=>?_) (fun b hb=>?_) (fun b o _ q=>⟨o,q⟩) fun b o hb q=>?_
  ·rw [aw fun z=>nb (.inr z),aw fun z=>nb (.inl z),aw fun z=>nb (.inr z)]
  ·rcases hb with rfl|rfl
   ·exact .inl ⟨_,ar⟩
   ·exact .inl ⟨_,dd'⟩
  ·rcases hb with rfl|rfl
   ·rw [aw (Ne.symm ne),fa] at q;cases q
   ·rw [ar] at q;cases q;obtain ⟨mA,n1,n2,_⟩:=xd_get (J.hok _ _ dd');exact ⟨mA,n1,n2⟩
 refine ⟨a,_,rfl,J.bk _ _ o1,he,rfl,⟨vs,rfl,w1⟩,hx pins σ _ s2 a d J2 ⟨⟨_,vs,he,rfl,rfl,rfl,w1⟩,fun T hT=>nomatch hT⟩ (get_none (Nat.le_trans I1.sz hn)) (by rw [aw (Ne.symm ne)];exact fa) (q1 d fd')⟩
end
section
variable {base:Heap} {f:Addr} {E:XK} 
theorem xeqD2:XEq2 (Dd (CXd P w) P w K mg base N qual scope f cd A outer s H E) E C:=fun _ _ _ _ _ _ J x na fa q=>xe_of J x na (fun T hT=>nomatch hT) fa q
end
noncomputable def xRes (C:Addr) (f1 f2:Str):List Dat->M Flo
 |[a,b]=>.error (.exc C [(f1,a),(f2,b)])
 |_=>.error .stuck
noncomputable def Cr (C:Addr) (f1 f2:Str) (fr:ak->M (List Dat)):ak->M Flo:=fun ρ=>(fr ρ).bind (xRes C f1 f2)
@[simp] theorem e_sExc2 (C:Addr) (f1 f2:Str) (fr:ak->M (List Dat)) (ρ:ak):Cr C f1 f2 fr ρ=(fr ρ).bind (xRes C f1 f2):=id rfl
@[simp] theorem e_xRes (C:Addr) (f1 f2:Str) (a b:Dat):xRes C f1 f2 [a,b]=.error (.exc C [(f1,a),(f2,b)]):=id rfl
section
variable {E:XK} {f:Addr} {fr:ak->M (List Dat)} {f1 f2:Str} 
theorem Ff (FB:ExcBaseFacts B newId initId bmB) (hx:XEq2 X E C) (hC:sZ X.K C bmB newId f=true) (hf:PySem.W.typeIn X.K (.ref f)=some (.type "function")) (hk:keepIn X.K (.ref C)=true) (F:cm X.prog X.w X.K X.mg X.base CX0 k f fd ps (spX2 C f1 f2)) (hr:mz (k+1) X.A) (hb:Binds X.K fd ps [])
  (hm:X.mg x=some (.ref C)) (ha:DA K (WE K E) X [e1,e2] fr) (hg:Gl X x:=by rfl) (hdb:(x==("__debug__":Str))=false:=by decide) (hst:starEach [e1,e2] X.env=(false,eval e1 X.env)::starEach [e2] X.env:=by rfl) (hpl:(backTo cpos (starEach [e2] X.env)).any (·.1)=false:=by rfl) :
  DS K (WE K E) ro X OL O O' (.Raise (some (.Call (.Name x np) [e1,e2] [] cpos)) none pos) (Cr C f1 f2 fr):=fun F0 H0=>PS.imp (DZ FB hx hC hf hk F hr hb hm ha hg hdb hst hpl) fun D σ H ⟨FB',F,ρ,r,p⟩=>by
 have rf:=r.freeze (O2:=[]) (by simp);refine oz r.sX r.mO (fun e he=>p.uG rf.st (by unfold Cr;rw [he];rfl)) fun ds hd vs F1 H1 s1 q=>?_;have ez:Cr C f1 f2 fr ρ=xRes C f1 f2 ds:=by unfold Cr;rw [hd];rfl
 rw [ez] at p;rcases ds with _|⟨a,_|⟨b,_|⟨_,_⟩⟩⟩
 ·exact ((WE K E).ns p).elim
 ·exact ((WE K E).ns p).elim
 rotate_left
 ·exact ((WE K E).ns p).elim
 ·obtain ⟨w1,vs1,rfl,q1,w2,vs2,rfl,q2,hn⟩:=q;cases (show vs2=[] from hn);refine ⟨w1,w2,rfl,fun d hd'=>?_⟩
  have st:=rf.st.trans s1;have nf:F1 d=none:=s1.fh.free hd';have ff:b9 F1 (upd F1 d (.xd [(f1,w1),(f2,w2)])):=b9.upd nf;have st2:Step F1 H1 (upd F1 d (.xd [(f1,w1),(f2,w2)])) (upd H1 d (.xd [(f1,w1),(f2,w2)])):=by
   refine ⟨ff,fun c o e=>by rw [aw (aY e hd')];exact e,fun c o e=>?_,fun c o e=>?_⟩
   ·by_cases hc:c=d
    ·subst hc;rw [ar] at e ⊢;exact e
    ·rw [aw hc] at e ⊢;exact s1.fh c o e
   ·by_cases hc:c=d
    ·subst hc;exact .inr hd'
    ·rw [aw hc] at e;exact .inl e
  exact p _ _ (st.trans st2) d _ ar ⟨w1,_,rfl,bQ.mono ff q1,w2,[],rfl,bQ.mono ff q2,rfl⟩
end
section
variable {fr:ak->M (List Dat)} {W:i4}
noncomputable def noM (g:List Dat->M Dat):List Dat->M Dat:=fun ds=>noX (g ds)
@[simp] theorem e_noM (g:List Dat->M Dat) (ds:List Dat):noM g ds=noX (g ds):=id rfl
theorem passN:Passes (CXd X.prog X.w) X (fun _ _ _=>False):=by
 rintro pins σ H1 s1 e s' I ⟨a,T,C,dx,H',rfl,z⟩;exact z.want.elim
theorem nq (F:cm X.prog X.w X.K X.mg X.base (CXd X.prog X.w) k fad fd ps (spX K ro (cb nN n g) n)) (hr:mz k X.A) (hm:X.mg x=some (.ref fad)) (hk:keepIn X.K (.ref fad)=true) (hb:Binds X.K fd ps [])
  (ha:DA K W X (e::es) fr) (hg:Gl X x:=by rfl) (hdb:(x==("__debug__":Str))=false:=by decide) (hst:starEach (e::es) X.env=(false,eval e X.env)::starEach es X.env:=by rfl) (hpl:(backTo pos (starEach es X.env)).any (·.1)=false:=by rfl) :
  DE K W ro X (.Call (.Name x p) (e::es) [] pos) (fL (noM (cb nN n g)) fr):=by
 refine PE.imp (u5 F hr hg hm hk hb .nil passN ha hdb hst hpl) fun σ H Q h=>?_;obtain ⟨F,ρ,r,s,p⟩:=rd_L h;refine ⟨F,ρ,r,s,?_⟩
 cases e1:fr ρ with
 |error z=>rw [e1] at p;exact p
 |ok ds=>
  rw [e1] at p;intro vs F' H' st q;obtain ⟨F1,es1,s1,q1,z⟩:=p vs F' H' st q;show spX K ro (cb nN n g) n (vs++[]) H' Q (fun _ _ _=>False);rw [List.append_nil];have z:aI K W ro F1 H' (noX (cb nN n g es1)) Q:=z;by_cases hl:es1.length=n
  ·refine ⟨F1,es1,s1,q1,hl,?_⟩
   cases hr':cb nN n g es1 with
   |ok d=>rw [hr'] at z;exact z
   |error x=>rw [hr'] at z;exact (W.ns z).elim
  ·rw [rH hl] at z;exact (W.ns z).elim
end
section
variable {W:i4} 
theorem ps_nox (h:PS X.nox st t):PS X st t:=fun pins s σ H D I z=>wpAny_mono (h pins s σ H D (I.xX _) z) (fun _ _ q=>q.og) fun _ _ y=>(show False from y).elim
theorem tN (h:DS K Wno ro X.nox OL O O' st g):DS K W ro X OL O O' st (Dc g):=fun F0 H0=>PS.imp (ps_nox (h F0 H0)) fun D σ H ⟨FB,F,ρ,r,p⟩=>by
 refine ⟨FB,F,ρ,r,?_⟩
 have p:pI K W ro F0 H0 FB OL O' D (noX (g ρ)):=p;unfold pI at p ⊢;cases e:g ρ with
 |ok fl=>
  rw [e] at p;cases fl<;>exact p
 |error x=>rw [e] at p;exact (W.ns p).elim
end
structure XMk (K:Pn) (mg:Ld) (x:Str) (C f:Addr):Prop where
 mg:mg x=some (.ref C)
 ex:sZ K C [.type "ValueError",.type "Exception",.type "BaseException",.type "object"] "ValueError.__new__" f=true
 fn:PySem.W.typeIn K (.ref f)=some (.type "function")
 kp:keepIn K (.ref C)
   =true
structure XTry (K:Pn) (mg:Ld) (x:Str) (C:Addr):Prop where
 mg:mg x=some (.ref C)
 nm:XNamed K C [.type "ValueError",.type "Exception",.type "BaseException",.type "object"]
 isi:XIsi K C
noncomputable def yT (xs:List Int) (k:Int):Option Nat:=xs.findIdx? (·==k)
noncomputable def vT:Dat->Dat->M Dat
 |.lst ds,.int k=>(cV ds).bind fun xs=>match yT xs k with
  |some j=>.ok (.int j)
  |none=>stk
 |_,_=>stk
@[simp] theorem e_index (ds:List Dat) (k:Int):vT (.lst ds) (.int k)=(cV ds).bind fun xs=>match yT xs k with
  |some j=>.ok (.int j)
  |none=>stk:=id rfl
noncomputable def uE (fo fe:ak->M Dat):ak->M Dat:=fun ρ=>(fo ρ).bind fun a=>if isL a=true then (fe ρ).bind fun b=>vT a b else stk
@[simp] theorem e_fIndex (fo fe:ak->M Dat) (ρ:ak):uE fo fe ρ=(fo ρ).bind fun a=>if isL a=true then (fe ρ).bind fun b=>vT a b else stk:=id rfl
noncomputable def rIndex (K:Pn):V->List V->Hp->VK->Prop:=fun x vs H Q=>∃l is k j,x=.ref l/\vs=[.int k]/\SqL K H l (is.map V.int)/\yT is k=some j/\Q (.int j) H
noncomputable def isK (k:Int):Value->Bool
 |.int i _=>i==k
 |_=>false
section
variable {W:i4}
theorem vA:∀{is:List Int} {us:List Value},Vals (is.map V.int) us->∀(m:Nat) (i:Int),is[m]? =some i->∃t,us[m]? =some (.int i t)
 |[],_,_,m,i,h=>by simp at h
 |a::is,_,.cons r rs,0,i,h=>by
  obtain ⟨t,e⟩:=(show ∃t,_=Value.int a t from r)
  simp at h;subst h e;exact ⟨t,rfl⟩
 |a::is,_,.cons r rs,m+1,i,h=>by simpa using vA rs m i (by simpa using h)
theorem mt_index (hu:X.A.units+64<cLine):MtR X "list.index" (rIndex X.K):=by
 intro pins s σ H x vs v us Q I rx rv h;obtain ⟨l,is,k,j,rfl,rfl,hS,hj,q⟩:=h;cases rx;obtain ⟨u,rfl,ru⟩:=rv.one;obtain ⟨its,r,pl,hz⟩:=I.list hS;obtain ⟨o,n,e,hcls,hdict,hdata⟩:=id pl;obtain ⟨t,rfl⟩:=(show ∃t,u=Value.int k t from ru)
 obtain ⟨hjl,hit,hno⟩:=List.findIdx?_eq_some_iff_getElem.mp hj;have hlen:is.length=its.length:=by rw [<- r.length,List.length_map]
 have at':∀m (hm:m<its.length),∃t,its[m]=.int (is[m]'(by omega)) t:=fun m hm=>by
  obtain ⟨t,ht⟩:=vA r m (is[m]'(by omega)) (List.getElem?_eq_getElem _);rw [List.getElem?_eq_getElem hm] at ht;exact ⟨t,Option.some.inj ht⟩
 obtain ⟨oc,odd,odt,osl⟩:=o;have hsz:=sizeLine_eq;refine call_meets PySem.F.slot_list_index ⟨_,e,hcls⟩ PySem.F.entry_list_index (PySem.F.args_list_index_2 _ _) (SeqAt.list_indexAt l its.toArray n odd osl (.int k t) (isK k) j (by rw [List.size_toArray];omega) (by have:=hz;rw [List.length_map] at this;omega) ?_ ?_) ⟨?_,fun y hy=>?_,?_⟩
 ·obtain ⟨t',e'⟩:=at' j (by omega);rw [List.getElem_toArray,e'];exact hit
 ·intro m hm hmj;rw [List.size_toArray] at hm;obtain ⟨t',e'⟩:=at' m hm;rw [List.getElem_toArray,e'];have:=hno m hmj;simpa [isK] using this
 ·rw [e];cases (show oc=.type "list" from hcls);cases (show odt=.seq its.toArray n from hdata);rfl
 ·have hm:y∈its:=by simpa using hy
  obtain ⟨m,hml,rfl⟩:=List.getElem_of_mem hm;obtain ⟨t',e'⟩:=at' m hml;rw [e'];have z:=F8 (F:=H) (x:=.int (is[m]'(by omega))) (y:=.int k) (A:=X.A.in1) I (b9.refl H) (.int (is[m]'(by omega))) (.int k) (by simp [okE]) (by simp [okE]) rfl rfl ⟨t',rfl⟩ ⟨t,rfl⟩ (by show X.A.units+1+40<cLine;omega);have e2:eqD (.int (is[m]'(by omega))) (.int k)=isK k (.int (is[m]'(by omega)) t'):=by
   simp [eqD,isK]
  rw [e2] at z;exact z
 ·exact ⟨.int j,H,I.tok _,⟨_,rfl⟩,q⟩
variable {o:Expr} 
theorem BS (hu:X.A.units+64<cLine) (ho:DE K W false X o fo) (he:DE K W false X e fe) (hK:X.K=K:=by rfl) (hbase:attributeBase o "index" X.env (eval o X.env)=eval o X.env:=by rfl)
  (hfew:((backTo cpos (starEach [e] X.env)).all (fun x=> !x.1)&&(backToKw cpos (keywordEach [] X.env)).all (fun x=>x.1.isSome)
   &&decide ([e].length+([]:List Keyword).length+(if ([]:List Keyword).isEmpty then 0 else 1)<30))=true:=by rfl)
  (hline:(apos.endLine==cpos.line)=true:=by rfl) (hs:starEach [e] X.env=(false,eval e X.env)::starEach [] X.env:=by rfl) (hplain:(backTo cpos (starEach [] X.env)).any (·.1)=false:=by rfl) :
  DE K W false X (.Call (.Attribute o "index" apos) [e] [] cpos) (uE fo fe):=by
 subst hK;refine PE.imp (pe_bm PySem.F.plainAttrs_list PySem.F.slot_list_index PySem.F.type_list_index (mt_index hu) ho (bj he fg (by rw [hs])) hbase hfew hline hs hplain) fun σ H Q h=>?_;obtain ⟨F,ρ,r,s,p⟩:=h;refine bL r s (fun e he=>p.err (by unfold uE;rw [he];rfl)) fun a ha x F1 H1 s1 q1=>?_;have ez:uE fo fe ρ=if isL a=true then (fe ρ).bind fun b=>vT a b else stk:=by unfold uE;rw [ha];rfl
 rw [ez] at p;have p:=p.step s1;cases a with
 |lst ds=>
  have p:aI X.K W false F1 H1 ((fe ρ).bind fun b=>vT (.lst ds) b) Q:=p;obtain ⟨l,xs,ex,t,z⟩:=id q1;subst ex;refine ⟨.inl ⟨rfl,_,s1.fh.lst t⟩,?_⟩
  refine bL (r.mono s1.ff) s1.fh (fun e he=>p.err (by rw [he];rfl)) fun b hb y F2 H2 s2 q2=>?_;rw [hb] at p;have p:aI X.K W false F1 H1 (vT (.lst ds) b) Q:=p;have p:=p.step s2;cases b with
  |int k=>
   have p:aI X.K W false F2 H2 ((cV ds).bind fun xs=>match yT xs k with
    |some j=>.ok (.int j)
    |none=>stk) Q:=p
   cases hi:cV ds with
   |error e=>rw [hi] at p;rw [mj hi] at p;exact aI.stuck p
   |ok is=>
    rw [hi] at p;have p:aI X.K W false F2 H2 (match yT is k with
     |some j=>.ok (.int j)
     |none=>stk) Q:=p
    have hx:=ki z hi;subst hx;cases hj:yT is k with
    |none=>rw [hj] at p;exact aI.stuck p
    |some j=>
     rw [hj] at p;cases (show y=V.int k from q2);exact ⟨l,is,k,j,rfl,rfl,s2.fh.lst (s2.ff.lst t),hj,p (.int j) F2 H2 (Step.refl s2.fh) rfl⟩
  |_=>exact aI.stuck p
 |_=>exact aI.stuck p
end
noncomputable def Bz:Dat->M Dat
 |.str _=>.ok (.bl true)
 |.ins _ _=>stk
 |.dic _=>stk
 |_=>.ok (.bl false)
section
variable {W:i4} {own:Bool} {a:Expr} 
theorem FA (kit:Kit K) (hK:X.K=K:=by rfl):dS X (.builtin "isinstance") (fun xs H Q=>∃v,xs=[v,.ty "str"]/\rD1 K W own Bz v H Q):=by
 subst hK;intro pins s σ H xs us Q I r h;obtain ⟨v,rfl,F,d,s1,q,p⟩:=h;obtain ⟨u,w,rfl,ru,rw'⟩:=r.two;cases (show w=Value.type "str" from rw');by_cases hi:(∃C fs,d=.ins C fs)\/∃ks,d=.dic ks
 ·rcases hi with ⟨C,fs,rfl⟩|⟨ks,rfl⟩<;>exact aI.stuck p
 ·refine EG I s1 q ru kit.oM kit.m8 kit.m4 kit.jV kit.oJ kit.f7 (fun k tk hk=>⟨.bl k,H,I.tok tk,rfl,?_⟩) (fun C fs e=>hi (.inl ⟨C,fs,e⟩)) (fun ks e=>hi (.inr ⟨ks,e⟩));cases d<;>first|(have hk':k=_:=hk;subst hk';exact aI.bl (own:=own) p s1)|exact absurd (.inl ⟨_,_,rfl⟩) hi|exact absurd (.inr ⟨_,rfl⟩) hi
theorem de_isi_str (kit:Kit K) (hm:X.mg "isinstance"=none) (hmT:X.mg "str"=none) (ha:DE K W false X a fa) (hK:X.K=K:=by rfl)
  (hg:Gl X "isinstance":=by rfl) (hgT:Gl X "str":=by rfl)
  (hst:starEach [a,.Name "str" p2] X.env=[(false,eval a X.env),(false,eval (.Name "str" p2) X.env)]:=by rfl) (hst2:starEach [.Name "str" p2] X.env=[(false,eval (.Name "str" p2) X.env)]:=by rfl) (hpl:(backTo pos (starEach [.Name "str" p2] X.env)).any (·.1)=false:=by rfl) :
  DE K W own X (.Call (.Name "isinstance" p) [a,.Name "str" p2] [] pos) (f1 Bz fa):=zb (FA kit hK) hm hmT (by decide +kernel) ha hg hgT (by decide) (by decide) hst hst2 hpl
end
noncomputable def rIsi (K:Pn) (C a:Addr) (R:Hp->Prop):List V->Hp->VK->Prop:=fun xs H Q=>R H/\∃v b,xs=[.ref a,v] /\
  ((∃c,RelV v c/\(∀u,RelV v u->u=c)/\kitOne K (.ref C) c=some b)\/∃(tp:Addr) (ys:List Addr),v=.ref tp/\H tp=some (.tup (ys.map V.ref))/\kitAny K (.ref C) (ys.map Value.ref)=some b)/\Q (.bl b) H
noncomputable def XDk (d:Addr):Hp->Prop:=fun H=>∃gs,H d=some (.xd gs)
noncomputable def tIsiR (i:Nat) (a:Addr) (R:Hp->Prop) (b:Bool):TE:=fun σ H Q=>σ[i]? =some (some (.ref a))/\R H/\Q (.bl b) H
noncomputable def tIsiTR (i:Nat) (a:Addr) (R:Hp->Prop) (ys:List Addr) (b:Bool):TE:=fun σ H Q=>σ[i]? =some (some (.ref a))/\∀p,H p=none->R (upd H p (.tup (ys.map V.ref)))/\Q (.bl b) (upd H p (.tup (ys.map V.ref)))
section
variable {d:Addr} 
theorem c_isiD (FB:ExcAttrBase B bmB) (Z:XIsi X.K C) (hc:oe.cls=.ref C) (hd:∃vs,oe.data=.fields vs) (hx:oe.dict=some d):dS (X.hand a oe) (.builtin "isinstance") (rIsi X.K C a (XDk d)):=by
 intro pins s σ H xs us Q I r h;obtain ⟨⟨gs,hg⟩,v,b,rfl,h1,q⟩:=h;obtain ⟨u,w,rfl,ru,rw'⟩:=r.two;cases (show u=Value.ref a from ru);have pa:=(I.pin (a,oe) (List.mem_cons_self ..)).1;obtain ⟨vs,hdt⟩:=hd;obtain ⟨mA,⟨od,es,ep,ho,hrest⟩,_⟩:=(show fX X.prog X.w H s.heap d (.xd gs) from I.hok d _ hg)
 have J:PySem.W.InstAt s.heap a oe C (some od):=⟨pa,hc,by unfold PySem.W.notCls;rw [hdt],by rw [hx];exact ho⟩
 rcases h1 with ⟨c,rc,uniq,e⟩|⟨tp,ys,rfl,ht,e⟩
 ·cases uniq w rw';exact kia_one (tJ FB Z) I.kIn J e (fun z=>nomatch z) fun tk=>⟨.bl b,H,I.tok tk,rfl,q⟩
 ·cases (show w=Value.ref tp from rw');obtain ⟨_,its,rv,ob,z1,z2⟩:=(show fX X.prog X.w H s.heap tp (.tup (ys.map V.ref)) from I.hok tp _ ht)
  obtain ⟨z3,n,z4⟩:=z2;have ei:its=ys.map Value.ref:=wN rv;subst ei;obtain ⟨oc,odd,odt,osl⟩:=ob;have z5:oc=Value.type "tuple":=z3;have z6:odt=.seq (ys.map Value.ref).toArray n:=z4;subst z5 z6;exact PySem.W.kia_tup (tJ FB Z) I.kIn J z1 e (fun z=>nomatch z) fun tk=>⟨.bl b,H,I.tok tk,rfl,q⟩
end
section
variable {D:Addr} {R:Hp->Prop} {n:Str} {b:Bool} {ys:List Addr} 
theorem pe_isO (hcr:dS (X.hand a oe) (.builtin "isinstance") (rIsi X.K C a R)) (hm:X.mg "isinstance"=none) (hD:X.mg y=some (.ref D)) (hb:kitOne X.K (.ref C) (.ref D)=some b)
  (hN:X.N[i]? =some n:=by rfl) (hv:Vis X.env.scope n:=by first|exact Or.inl rfl|exact Or.inr (Or.inl rfl)|exact Or.inr (Or.inr rfl)) (hd1:(n==("__debug__":Str))=false:=by decide) (hd2:(n==("__classdict__":Str))=false:=by decide)
  (hg:Gl (X.hand a oe) "isinstance":=by rfl) (hgD:Gl (X.hand a oe) y:=by rfl) (hd3:(y==("__debug__":Str))=false:=by decide)
  (hst:starEach [.Name n p1,.Name y p2] X.env=[(false,eval (.Name n p1) X.env),(false,eval (.Name y p2) X.env)]:=by rfl) (hst2:starEach [.Name y p2] X.env=[(false,eval (.Name y p2) X.env)]:=by rfl) (hpl:(backTo pos (starEach [.Name y p2] X.env)).any (·.1)=false:=by rfl) :
  PE (X.hand a oe) (.Call (.Name "isinstance" p) [.Name n p1,.Name y p2] [] pos) (tIsiR i a R b):=by
 have vD:PE (X.hand a oe) (.Name y p2) (tC (.ref D)):=fun pins s σ H Q I h=>mT I hgD hD ⟨.ref D,H,I,rfl,h⟩ hd3;refine PE.imp (gA (X:=X.hand a oe) hcr hg hm boot_isinstance (bj (pv i hN hv hd1 hd2) (bj vD fg hst2) (by rw [hst,hst2])) (by decide) (by decide) (by rw [hst,hst2]) hpl) fun σ H Q h=>?_;obtain ⟨e1,hR,q⟩:=h;exact ⟨.ref a,e1,hR,.ref D,b,rfl,.inl ⟨.ref D,rfl,fun u hu=>hu,hb⟩,q⟩
theorem pe_isB (hcr:dS (X.hand a oe) (.builtin "isinstance") (rIsi X.K C a R)) (hm:X.mg "isinstance"=none) (hmT:X.mg y=none) (hvT:bootBuiltins y=some (.type T)) (hb:kitOne X.K (.ref C) (.type T)=some b)
  (hN:X.N[i]? =some n:=by rfl) (hv:Vis X.env.scope n:=by first|exact Or.inl rfl|exact Or.inr (Or.inl rfl)|exact Or.inr (Or.inr rfl)) (hd1:(n==("__debug__":Str))=false:=by decide) (hd2:(n==("__classdict__":Str))=false:=by decide)
  (hg:Gl (X.hand a oe) "isinstance":=by rfl) (hgT:Gl (X.hand a oe) y:=by rfl) (hy:y≠"__name__":=by decide) (hd3:(y==("__debug__":Str))=false:=by decide)
  (hst:starEach [.Name n p1,.Name y p2] X.env=[(false,eval (.Name n p1) X.env),(false,eval (.Name y p2) X.env)]:=by rfl) (hst2:starEach [.Name y p2] X.env=[(false,eval (.Name y p2) X.env)]:=by rfl) (hpl:(backTo pos (starEach [.Name y p2] X.env)).any (·.1)=false:=by rfl) :
  PE (X.hand a oe) (.Call (.Name "isinstance" p) [.Name n p1,.Name y p2] [] pos) (tIsiR i a R b):=by
 refine PE.imp (gA (X:=X.hand a oe) hcr hg hm boot_isinstance (bj (pv i hN hv hd1 hd2) (bj (E9 (X:=X.hand a oe) (pos:=p2) hgT hmT hvT hy hd3) fg hst2) (by rw [hst,hst2])) (by decide) (by decide) (by rw [hst,hst2]) hpl) fun σ H Q h=>?_;obtain ⟨e1,hR,q⟩:=h;exact ⟨.ref a,e1,hR,.ty T,b,rfl,.inl ⟨.type T,rfl,fun u hu=>hu,hb⟩,q⟩
theorem pe_isT {j} (hcr:dS (X.hand a oe) (.builtin "isinstance") (rIsi X.K C a R)) (hm:X.mg "isinstance"=none) (hT:PA (X.hand a oe) es (tRefs ys)) (hl:ys.length<=sizeLine) (hb:kitAny X.K (.ref C) (ys.map Value.ref)=some b)
  (hN:X.N[i]? =some n:=by rfl) (hv:Vis X.env.scope n:=by first|exact Or.inl rfl|exact Or.inr (Or.inl rfl)|exact Or.inr (Or.inr rfl)) (hd1:(n==("__debug__":Str))=false:=by decide) (hd2:(n==("__classdict__":Str))=false:=by decide)
  (hg:Gl (X.hand a oe) "isinstance":=by rfl)
  (hst:starEach [.Name n p1,.Tuple es j p2] X.env=[(false,eval (.Name n p1) X.env),(false,eval (.Tuple es j p2) X.env)]:=by rfl) (hst2:starEach [.Tuple es j p2] X.env=[(false,eval (.Tuple es j p2) X.env)]:=by rfl) (hpl:(backTo pos (starEach [.Tuple es j p2] X.env)).any (·.1)=false:=by rfl) :
  PE (X.hand a oe) (.Call (.Name "isinstance" p) [.Name n p1,.Tuple es j p2] [] pos) (tIsiTR i a R ys b):=by
 refine PE.imp (gA (X:=X.hand a oe) hcr hg hm boot_isinstance (bj (pv i hN hv hd1 hd2) (bj (Ea hT) fg hst2) (by rw [hst,hst2])) (by decide) (by decide) (by rw [hst,hst2]) hpl) fun σ H Q h=>?_;obtain ⟨e1,q⟩:=h;exact ⟨.ref a,e1,by rw [List.length_map];exact hl,fun tp htp=>⟨(q tp htp).1,.ref tp,b,rfl,.inr ⟨tp,ys,rfl,ar,hb⟩,(q tp htp).2⟩⟩
end
structure Yd (P:Program) (w:World) (K:Pn) (mg:Ld) (base:Heap) (CX:CXT) (k:Nat) (x:Str) (st:Stmt) (ps:List Str) (sp:Sp) (f:Addr) (fd:FuncData):Prop where
 d:Def K mg x st ps f fd
 o:cm P w K mg base CX k f fd ps sp
section
open PySem.W
end
structure XUnder (K:Pn) (C Cb:Addr):Prop where
 sub:PySem.W.mroIn K C (.ref Cb)=some true
 isi:XIsi K C
structure D6 (K:Pn) (mg:Ld) (x:Str) (Cb:Addr):Prop where
 mg:mg x=some (.ref Cb)
 ty:PySem.W.typeIn K (.ref Cb)=some (.type "type")
 bs:PySem.W.mroIn K Cb (.type "BaseException")=some true
noncomputable def XR:Option Addr->Hp->Prop
 |none=>fun _=>True
 |some d=>XDk d
section
theorem c_isiA (FB:ExcAttrBase B bmB) (Z:XIsi X.K C) (hc:oe.cls=.ref C) (hd:∃vs,oe.data=.fields vs):dS (X.hand a oe) (.builtin "isinstance") (rIsi X.K C a (XR oe.dict)):=by
 cases hx:oe.dict with
 |none=>exact fun pins s σ H xs us Q I r h=>C0 FB Z hc hd hx pins s σ H xs us Q I r h.2
 |some d=>exact c_isiD FB Z hc hd hx
end
structure XTell (K:Pn) (C:Addr) (A1 A2 A3:Addr) (T:String) (ys:List Addr) (bs:List Bool):Prop where
 ex:∃b1 b2 b3 b4 b5,bs=[b1,b2,b3,b4,b5]/\kitOne K (.ref C) (.ref A1)=some b1/\kitOne K (.ref C) (.ref A2)=some b2/\kitOne K (.ref C) (.ref A3)=some b3/\kitOne K (.ref C) (.type T)=some b4/\kitAny K (.ref C) (ys.map Value.ref)=some b5
structure XTxt (K:Pn) (mg:Ld) (x:Str) (C:Addr):Prop where
 mg:mg x=some (.ref C)
 ex:PySem.W.excIn K C [.type "ValueError",.type "Exception",.type "BaseException",.type "object"] "ValueError.__new__"=true
section
open PySem.W
variable {M:Model} {g:Array GenState} {d:Drawn} {t:Nat} {K:Frag}
theorem x_match {b:Bool} {Q:Bool->Shared->Prop} (kX:K.In h) (he:h.get? a=some oe) (hc:oe.cls=.ref C) (hT:typeIn K (.ref Cb)=some (.type "type")) (hB:mroIn K Cb (.type "BaseException")=some true) (hS:mroIn K C (.ref Cb)=some b) (hq:Q b ⟨h,g,d,t,os⟩) :
  wpAny M A (excMatches (.ref a) (.ref Cb)) Q E ⟨h,g,d,t,os⟩:=by
 have f:=tc_notTuple;have m1:=looks_mroIn (M:=M) kX hB;have m2:=looks_mroIn (M:=M) kX hS;have m3:=looks_typeIn (M:=M) kX hT;obtain ⟨ob,hb,hcb⟩:∃ob,h.get? Cb=some ob/\ob.cls=.type "type":=by
  unfold typeIn at hT;cases q:K.lookup Cb with
  |none=>simp only [q] at hT;cases hT
  |some o=>simp only [q] at hT;exact ⟨o,kX _ _ q,by simpa using hT⟩
 have cl:∃cd,ob.data=.cls cd:=by
  unfold mroIn clsIn at hB;cases q:K.lookup Cb with
  |none=>simp only [q] at hB;cases hB
  |some o=>
   have:=kX _ _ q;rw [hb] at this;cases this;simp only [q] at hB;split at hB
   ·next z=>cases z;exact ⟨_,rfl⟩
   ·cases hB
 obtain ⟨cd,hcd⟩:=cl;obtain ⟨oc,od,odt,osl⟩:=ob;dsimp only at hcb hcd;subst hcb hcd;unfold excMatches;cases b<;>(repeat (first|(with_reducible refine wpAny_loadPart_at he ?_;rw [hc])|with_reducible refine wpAny_loadPart_at hb ?_|with_reducible refine m1.at ?_|with_reducible refine m2.at ?_|with_reducible refine m3.at ?_|wp_step))<;>exact hq
end
section
variable {T:Addr} {c:Str} {ts:TS} {rest:List ExceptHandler}
theorem at_bare (I:Inv X pins σ H s) (x:ExA s.heap a (.ref C) dx (some T)) (ap:Apart X pins H s a (some T)) (hex:X.ex=[]) (hC:PySem.W.mroIn X.K C (.ref Cb)=some true) (hB:D6 X.K X.mg c Cb) (hg:Gl X c)
  (hs:∀oe:Obj,PSs (X.hand a oe) (b₀::suite) ts) (q:ts D σ H) (hdb:(c==("__debug__":Str))=false:=by decide) :
  wpAny (model X.prog X.w) X.A (handleBy (.ref a) X.env (.ExceptHandler (some (.Name c np)) none (b₀::suite) pos::rest)) (SP X pins D) X.xe s:=by
 obtain ⟨oe,vs,he,hcl,hdx,hdt,h1⟩:=x.ob;have J:=I.hand he hdt ap.na ap.fa;refine wpAny_handleBy_cons (codeAny_handlers_test (mT (X:=X.hand a oe) J hg hB.mg ?_ hdb)) (by intro z;cases z);have e0:=I.env0;have kX:=I.kIn;obtain ⟨hh,gg,d,tk,os⟩:=s;refine x_match kX he hcl hB.ty hB.bs hC (codeAny_handlers_suite (EW (base:=X.base) (l:=X.stack) e0.yV x fun h' x' lf ea=>?_));have I2:=I.left hex x ap lf;have J2:=I2.hand (by rw [ea];exact he) hdt ap.na ap.fa;refine wpAny_mono (hs oe pins _ _ H D J2 q) (fun f s4 z=>?_) fun _ _ z=>z.elim;cases f with
 |ret u=>
  obtain ⟨v,σ',H',J4,r,q4⟩:=z;exact ⟨v,σ',H',J4.unhand I.ok,r,q4⟩
 |_=>
  obtain ⟨σ',H',J4,q4⟩:=z;exact ⟨σ',H',J4.unhand I.ok,q4⟩
end
structure XTwo (K:Pn) (mg:Ld) (c1 c2:Str) (C1 C2:Addr):Prop where
 b1:D6 K mg c1 C1
 b2:D6 K mg c2 C2
 isi:XIsi K C1
 s1:PySem.W.mroIn K C1 (.ref C1)=some true
 s2:PySem.W.mroIn K C2 (.ref C2)=some true
 no:PySem.W.mroIn K C2 (.ref C1)=some false
section
variable {fb:ak->M Flo}
theorem Rep.putN (r:Rep K F0 H0 FB [] F H σ ρ) (j:Nat) (h:bQ K F d v):Rep K F0 H0 FB [] F H (σ.set j (some v)) (ρ.set j (some d)):=by
 refine ⟨r.st,r.fb,by simp only [List.length_set];exact r.len,fun m d' e _=>?_,(fun m d e h=>nomatch h),(fun m n d1 d2 c h=>nomatch h)⟩
 by_cases hm:j=m
 ·subst hm;by_cases hl:j<ρ.length
  ·rw [List.getElem?_set_self hl] at e;cases e;exact ⟨v,by rw [List.getElem?_set_self (by have:=r.len;omega)],h⟩
  ·rw [List.getElem?_eq_none (by rw [List.length_set];omega)] at e;cases e
 ·rw [List.getElem?_set_ne hm] at e ⊢;exact r.fz m d' e (by simp)
end
section
open PySem.SetTable
end
section
open PySem
end
section
open PySem
end
section
open PySem
end
section
open PySem
end
section
open PySem
end
section
open PySem
end
section
open PySem
end
section
open PySem.W
end
structure Abt (p:Addr) (F H F' H':Hp):Prop where
 ff:b9 F F'
 fh:b9 F' H'
 fp:F' p=none
 nw:∀b o,F' b=some o->F b=some o\/H b=none
 hh:∀c o,H c=some o->c≠p->H' c=some o
section
end
noncomputable def isiC (tb:List (Addr×Bool)):Dat->M Dat
 |.ins C _=>match tb.lookup C with
  |some b=>.ok (.bl b)
  |none=>stk
 |_=>stk
section
variable {W:i4} {own:Bool} {a:Expr} {D:Addr} {tb:List (Addr×Bool)}
theorem c_isiC (hT:∀C b,tb.lookup C=some b->(∃x,Kls K X.mg x C)/\kitOne K (.ref C) (.ref D)=some b) (hK:X.K=K:=by rfl):dS X (.builtin "isinstance") (fun xs H Q=>∃v,xs=[v,.ref D]/\rD1 K W own (isiC tb) v H Q):=by
 subst hK;intro pins s σ H xs us Q I r h;obtain ⟨v,rfl,F,d,s1,q,p⟩:=h;obtain ⟨u,w,rfl,ru,rw'⟩:=r.two;cases (show w=Value.ref D from rw');cases d with
 |ins C fs=>
  cases hl:tb.lookup C with
  |none=>
   have p:aI X.K W own F H (match tb.lookup C with
    |some b=>.ok (.bl b)
    |none=>stk) Q:=p
   rw [hl] at p;exact aI.stuck p
  |some b=>
   have p:aI X.K W own F H (match tb.lookup C with
    |some b=>.ok (.bl b)
    |none=>stk) Q:=p
   rw [hl] at p;obtain ⟨⟨x,hk⟩,hb⟩:=hT C b hl;obtain ⟨l,dx,gs,e1,ea,df⟩:=q;subst e1;exact yS I ru (hk.ty (s1 _ _ ea)) hb fun tk=>⟨.bl b,H,I.tok tk,rfl,aI.bl (own:=own) p s1⟩
 |_=>exact aI.stuck p
theorem de_isiC (hT:∀C b,tb.lookup C=some b->(∃x,Kls K X.mg x C)/\kitOne K (.ref C) (.ref D)=some b) (hm:X.mg "isinstance"=none) (hD:X.mg y=some (.ref D)) (ha:DE K W false X a fa) (hK:X.K=K:=by rfl)
  (hg:Gl X "isinstance":=by rfl) (hgT:Gl X y:=by rfl) (hd:(y==("__debug__":Str))=false:=by decide)
  (hst:starEach [a,.Name y p2] X.env=[(false,eval a X.env),(false,eval (.Name y p2) X.env)]:=by rfl) (hst2:starEach [.Name y p2] X.env=[(false,eval (.Name y p2) X.env)]:=by rfl) (hpl:(backTo pos (starEach [.Name y p2] X.env)).any (·.1)=false:=by rfl) :
  DE K W own X (.Call (.Name "isinstance" p) [a,.Name y p2] [] pos) (f1 (isiC tb) fa):=
 (gA (c_isiC hT hK) hg hm boot_isinstance (bj ha (bj (Ec (v:=.ref D) (pos:=p2) hgT hD rfl hd) fg hst2) (by rw [hst,hst2])) (by decide) (by decide) (by rw [hst,hst2]) hpl).imp fun σ H Q h=>by
  obtain ⟨F,ρ,r,s,q⟩:=rd_1 h;refine ⟨F,ρ,r,s,?_⟩
  cases e1:fa ρ with
  |error z=>rw [e1] at q;exact q
  |ok d=>rw [e1] at q;exact fun v F' H' st z=>⟨v,rfl,q v F' H' st z⟩
end
noncomputable def EHN (C:Addr) (t2:TS) (D:Ends) (σ:St):XK:=fun Cv _ H'=>Cv=.ref C/\t2 D σ H'
section
variable {c:Str} {t2:TS} {tb:XK->TS}
theorem ps_bare (hb:∀(pins:Vp) (σ:St) (E:XK) (xe:Mq),sf (CXd X.prog X.w) (X.xX xe) pins σ E->PSsAt (X.xX xe) pins σ body (tb E))
  (hs:∀(a:Addr) (oe:Obj),PSs (X.hand a oe) (b₀::suite) t2) (Z:D6 X.K X.mg c C) (hS:PySem.W.mroIn X.K C (.ref C)=some true)
  (hg:Gl X c:=by rfl) (hex:X.ex=[]:=by rfl) (hstk:X.stack=X.env::X.outer:=by rfl) (hfr:X.env.frame=some X.env.locals:=by rfl) (hdb:(c==("__debug__":Str))=false:=by decide) :
  PS X (.Try body [.ExceptHandler (some (.Name c np)) none (b₀::suite) hpos] [] [] pos) (fun D σ H=>tb (EHN C t2 D σ) D σ H):=by
 intro pins s σ H D I h;refine wpAny_Try_except (thn (hb pins σ (EHN C t2 D σ) (fun e s₁=>wpAny (model X.prog X.w) X.A (noteFrame e X.env) (fun _ s₂=>wpAny (model X.prog X.w) X.A (setFlight e none) (fun _ s₃=>wpAny (model X.prog X.w) X.A (handleBy e X.env [.ExceptHandler (some (.Name c np)) none (b₀::suite) hpos]) (SP X pins D) X.xe s₃) X.xe s₂) X.xe s₁) ?_ s H D (I.xX _) h) fun f s1 z=>?_)
 ·rintro H1 s1 e s' I1' ⟨a,T,Cv,dx,H',rfl,z⟩;have I1:=I1'.og;have J:Inv X pins σ H' s':=I1.call' z.os z.un z.hok z.bare (fun _ h=>nomatch h);have off:∀b,s1.heap.get? b=none->∀p∈X.pn++pins,p.1≠b:=fun b e p hp w=>by
   have:=(I1.pin p hp).1;rw [w,e] at this;cases this
  have ap:Apart X pins H' s' a (some T):=⟨I1.tB hex z.na,z.fa,off a z.na,fun T' hT=>by cases hT;exact ⟨I1.tB hex z.nT,z.fT,off T z.nT⟩⟩
  have e0:=J.env0;have f1:=e0.frames;have f2:=e0.yV;rw [hstk] at f1 f2;refine leave2 (base:=X.base) f1 f2 hfr z.ex fun h' T2 x' hT lf=>?_;rw [<- hstk] at lf;have I2:=J.left hex z.ex ap lf;have ap2:Apart X pins H' {s' with heap:=h'} a (some T2):=⟨ap.na,ap.fa,ap.pa,fun T' hT'=>by
   cases hT';refine ⟨get_none (Nat.le_trans J.sz hT),J.hok.fresh hT,fun p hp w=>?_⟩
   have:=Heap.lt_size (J.pin p hp).1;rw [w] at this;exact absurd this (Nat.not_lt.mpr hT)⟩
  obtain ⟨ec,q⟩:=z.want;subst ec;exact at_bare I2 x' ap2 hex hS Z hg (hs a) q hdb
 ·have z:=SP.og z;cases f with
  |next=>exact wpAny_execs_nil z
  |_=>exact z
end
noncomputable def wL (j:Nat) (C1:Addr) (fb:ak->M Flo):ak->M Flo:=fun ρ=>match fb ρ with
 |.ok fl=>.ok fl
 |.error (.exc C _)=>if C=C1 then .ok (.nx (ρ.set j (some .non))) else .error .stuck
 |.error _=>.error .stuck
theorem z0 {fb:ak->M Flo} {fl:Flo} (h:fb ρ=.ok fl):wL j C1 fb ρ=.ok fl:=by unfold wL;rw [h]
theorem vY {fb:ak->M Flo} {fs:List (Str×Dat)} (h:fb ρ=.error (.exc C1 fs)):wL j C1 fb ρ=.ok (.nx (ρ.set j (some .non))):=by unfold wL;rw [h];exact if_pos rfl
section
variable {fb:ak->M Flo}
theorem rs_bare (t:tS K Wno ro F0 H0 OL [] [] (wL j C1 fb) D σ H):∃F1 H1,tS K (WE K (EHN C1 (Cg (tC .non) (rQ j)) D σ)) ro F1 H1 OL [] [] fb D σ H:=by
 obtain ⟨FB,F,ρ,r,p⟩:=t;refine ⟨F,H,FB,F,ρ,⟨Step.refl r.st.fh,r.fb,r.len,r.fz,(fun m d e h=>nomatch h),(fun m n d1 d2 c h=>nomatch h)⟩,?_⟩
 cases e:fb ρ with
 |ok fl=>
  rw [z0 e] at p;cases fl with
  |rt d=>exact fun v F' H' s' q=>p v F' H' (r.st.trans s') (q.back r.st.hh)
  |_ ρ'=>exact fun σ' F' H' r'=>p σ' F' H' (r'.back r.st)
 |error x=>
  cases x with
  |stuck=>exact p.stuck (by unfold wL;rw [e])
  |exc C fs=>
   by_cases h2:C=C1
   ·subst h2;rw [vY e] at p;have fin:∀F' H',Step F H F' H'->Cg (tC .non) (rQ j) D σ H':=fun F' H' s'=>p _ F' H' ((r.step s').putN (v:=.non) (d:=.non) j rfl);cases fs with
    |nil=>exact fun F' H' s'=>⟨rfl,fin F' H' s'⟩
    |cons f fs=>exact fun F' H' s' d gs hd df=>⟨rfl,fin F' H' s'⟩
   ·exact p.stuck (by unfold wL;rw [e];dsimp only;rw [if_neg h2])
end
section
variable {c:Str} {fb:ak->M Flo}
theorem ds_bare (hb:∀(pins:Vp) (σ:St) (E:XK) (xe:Mq),sf (CXd X.prog X.w) (X.xX xe) pins σ E->DSat K E ro (X.xX xe) OL [] [] pins σ body fb)
  (hs:∀(a:Addr) (oe:Obj),PSs (X.hand a oe) (b₀::suite) (Cg (tC .non) (rQ j))) (Z:D6 X.K X.mg c C) (hS:PySem.W.mroIn X.K C (.ref C)=some true)
  (hg:Gl X c:=by rfl) (hex:X.ex=[]:=by rfl) (hstk:X.stack=X.env::X.outer:=by rfl) (hfr:X.env.frame=some X.env.locals:=by rfl) (hdb:(c==("__debug__":Str))=false:=by decide) :
  DS K Wno ro X OL [] [] (.Try body [.ExceptHandler (some (.Name c np)) none (b₀::suite) hpos] [] [] pos) (wL j C fb):=fun F0 H0 pins s σ H D I z=>
 ps_bare (tb:=fun E D σ H=>∃F1 H1,tS K (WE K E) ro F1 H1 OL [] [] fb D σ H) (t2:=Cg (tC .non) (rQ j)) (fun pins σ E xe hp s H D I ⟨F1,H1,q⟩=>hb pins σ E xe hp F1 H1 s H D I q) hs Z hS hg hex hstk hfr hdb pins s σ H D I (rs_bare z)
end
end L2
namespace Ru
open PySem L2 PyProof.Rows
variable {P:Program} {w:World} {K:Pn} {mg:Ld} {C CP CN aX jc kE eI fF cF kA cE dC kF gX kB ja gW eJ cY bA kr aZ bu dk vm bZ kx fU kz gU rR j9 bK f_nP f_nR dn fE fV pA kq ku pB jb gR mn ky j7 fD j8 kC kD CW:Addr} {fd aQ gQ j5 dA eF ck iZ cj cW j6 fy j0 gN fx dB cg bp iW bU cD cA bG iY eC ip fw pz gM bz cC eE eG ml iV iX mm gO fq ko il gK eD gL j3 j4:FuncData} {n m i k p j:Nat} {d:Dat} {α:Type} {t u v:Int} {ts us ls:List Int} {rows:List (List Int)} {l:PySem.W.OpenLaw}
noncomputable def nz (CR CP CN:Addr) (n:Nat):ak->M Flo:=
 sIf (fB (f2 gtD (fL tH (a9 (af 0) aB)) (fC (.int 0))))
   (aD [] 2 (f2 ixD (af 0) (f2 lL (af 1) (fL tH (a9 (af 0) aB)))))
   f6
noncomputable def nh (CR CP CN:Addr) (n:Nat):ak->M Flo:=
 (aS (aD [] 2 (af 1))
  (aS (nz CR CP CN n)
  (aS (aD [] 3 (f2 lL (f2 ug (f2 jS (f2 jS (af 2) (f2 ug (f2 ug (fC (.int 7919)) (af 1)) (af 1))) (af 1)) (fC (.int 982451653))) (fC (.int 2305843009213693951))))
  (dR (f2 i5 (f2 lL (f2 ug (af 3) (fC (.int 1000003))) (fC (.int 1152921504606846883))) (fC (.int 8)))))))
noncomputable def aJ (CR CP CN:Addr) (n:Nat):List Dat->M Dat:=cb 4 2 (nh CR CP CN n)
noncomputable def gc (CR CP CN:Addr) (n:Nat):ak->M Flo:=
 (dR (f2 ixD (fL dw (a9 (fC (.int 1)) (a9 (fC (.int 1)) (a9 (fC (.int 100)) (a9 (f2 rA (fC (.int 10)) (fC (.int 5))) aB))))) (f2 lL (fL (aJ CR CP CN n) (a9 (af 0) (a9 (fC (.int 99)) aB))) (fC (.int 4)))))
noncomputable def cx (CR CP CN:Addr) (n:Nat):List Dat->M Dat:=cb 1 1 (gc CR CP CN n)
noncomputable def jJ (CR CP CN:Addr) (n:Nat):ak->M Flo:=
 (aS (aD [4,6] 8 (fL (aJ CR CP CN n) (a9 (af 0) (a9 (f2 jS (f2 jS (af 1) (f2 ug (af 5) (af 2))) (af 7)) aB))))
  (kT [4,6] 6 (f2 jS (f2 ug (f2 lL (af 8) (fC (.int 6))) (af 3)) (f2 lL (f2 i5 (af 8) (fC (.int 6))) (af 3)))))
noncomputable def nI (CR CP CN:Addr) (n:Nat):ak->M Flo:=
 (aS (aD [4] 6 (fL dw aB))
  (aS (sV [4,6] (my sW (a9 (af 2) aB)) (.nm 7) (jJ CR CP CN n))
  (kT [4] 4 (af 6))))
noncomputable def rh (CR CP CN:Addr) (n:Nat):ak->M Flo:=
 (aS (aD [] 4 (fL dw aB))
  (aS (sV [4] (my sW (a9 (af 2) aB)) (.nm 5) (nI CR CP CN n))
  (dR (af 4))))
noncomputable def ij (CR CP CN:Addr) (n:Nat):List Dat->M Dat:=cb 9 4 (rh CR CP CN n)
noncomputable def iq (CR CP CN:Addr) (n:Nat):ak->M Flo:=
 sIf (fB (f2 eqM (f2 lL (fL (aJ CR CP CN n) (a9 (af 0) (a9 (fC (.int 1)) aB))) (fC (.int 2))) (fC (.int 1))))
   (aD [] 3 (fL (ij CR CP CN n) (a9 (af 0) (a9 (fC (.int 50)) (a9 (af 2) (a9 (af 1) aB))))))
   f6
noncomputable def gH (CR CP CN:Addr) (n:Nat):ak->M Flo:=
 (aS (aD [] 2 (f2 jS (fC (.int 1)) (f2 lL (fL (aJ CR CP CN n) (a9 (af 0) (a9 (fC (.int 0)) aB))) (fC (.int 6)))))
  (aS (aD [] 3 (fC .non))
  (aS (iq CR CP CN n)
  (dR (fL dZ (a9 (fL (ij CR CP CN n) (a9 (af 0) (a9 (fC (.int 4)) (a9 (af 2) (a9 (af 1) aB))))) (a9 (af 3) aB)))))))
noncomputable def cf (CR CP CN:Addr) (n:Nat):List Dat->M Dat:=cb 4 2 (gH CR CP CN n)
noncomputable def fM (CR CP CN:Addr) (n:Nat):ak->M Flo:=
 sIf (fB (f2 eqM (f2 lL (fL (aJ CR CP CN n) (a9 (af 0) (a9 (fC (.int 3)) aB))) (fC (.int 8))) (fC (.int 5))))
   (aD [] 4 (af 2))
   f6
noncomputable def fN (CR CP CN:Addr) (n:Nat):ak->M Flo:=
 (aS (aD [5] 7 (fL (aJ CR CP CN n) (a9 (af 0) (a9 (f2 jS (fC (.int 100)) (af 6)) aB))))
  (aS (aD [5] 8 (f2 lL (f2 i5 (af 7) (fC (.int 16))) (f2 ug (f2 ug (fC (.int 25)) (af 3)) (f2 jS (af 6) (fC (.int 1))))))
  (aS (aD [5] 9 (f2 ixD (fL dw (a9 (f2 rA (fC (.int 10)) (fC (.int 9))) (a9 (f2 ug (f2 ug (fC (.int 100)) (af 3)) (af 4)) (a9 (f2 ug (f2 ug (fC (.int 12)) (af 3)) (af 4)) (a9 (f2 ug (fC (.int 3)) (af 3)) aB))))) (f2 i5 (f2 lL (af 7) (fC (.int 16))) (fC (.int 5)))))
  (aS (aD [5] 10 (fL minD (a9 (f2 rA (fC (.int 10)) (fC (.int 9))) (a9 (f2 jS (af 8) (af 9)) aB))))
  (aS (aD [5] 11 (fL minD (a9 (f2 rA (fC (.int 10)) (fC (.int 9))) (a9 (f2 jS (af 8) (f2 lL (f2 i5 (af 7) (fC (.int 1000))) (f2 ug (fC (.int 20)) (af 3)))) aB))))
  (aS (aD [5] 12 (f2 ixD (fL dw (a9 (f2 lL (f2 i5 (af 7) (fC (.int 7))) (fC (.int 10))) (a9 (f2 lL (f2 i5 (af 7) (fC (.int 7))) (f2 jS (f2 rA (fC (.int 10)) (fC (.int 9))) (fC (.int 1)))) aB))) (f2 lL (f2 i5 (af 7) (fC (.int 3))) (fC (.int 2)))))
  (kT [5] 5 (fL dZ (a9 (f2 lL (f2 i5 (af 7) (fC (.int 11))) (fL tH (a9 (f2 ixD (af 1) (fC (.int 0))) aB))) (a9 (af 8) (a9 (af 10) (a9 (af 11) (a9 (af 12) aB)))))))))))))
noncomputable def lS (CR CP CN:Addr) (n:Nat):ak->M Flo:=
 (aS (aD [] 4 (f2 lL (fL (aJ CR CP CN n) (a9 (af 0) (a9 (fC (.int 2)) aB))) (f2 jS (f2 i5 (af 2) (fC (.int 4))) (fC (.int 1)))))
  (aS (fM CR CP CN n)
  (aS (aD [] 5 (fL dw aB))
  (aS (sV [5] (my sW (a9 (af 4) aB)) (.nm 6) (fN CR CP CN n))
  (dR (af 5))))))
noncomputable def dE (CR CP CN:Addr) (n:Nat):List Dat->M Dat:=cb 13 4 (lS CR CP CN n)
noncomputable def eY (CR CP CN:Addr) (n:Nat):ak->M Flo:=
 (aS (aD [2] 4 (f2 lL (af 0) (f2 rA (fC (.int 10)) (fC (.int 9)))))
  (aS (aD [2] 0 (f2 i5 (af 0) (f2 rA (fC (.int 10)) (fC (.int 9)))))
  (aS (kT [2] 2 (fL dZ (a9 (af 4) (a9 (f2 jS (f2 jS (af 4) (fC (.int 1))) (f2 lL (af 0) (f2 tZ (f2 rA (fC (.int 10)) (fC (.int 9))) (af 4)))) aB))))
  (aD [2] 0 (f2 i5 (af 0) (f2 rA (fC (.int 10)) (fC (.int 9))))))))
noncomputable def gJ (CR CP CN:Addr) (n:Nat):ak->M Flo:=
 (aS (aD [] 2 (fL dw aB))
  (aS (sV [2] (my sW (a9 (af 1) aB)) (.nm 3) (eY CR CP CN n))
  (dR (af 2))))
noncomputable def cy (CR CP CN:Addr) (n:Nat):List Dat->M Dat:=cb 5 2 (gJ CR CP CN n)
noncomputable def jG (CR CP CN:Addr) (n:Nat):ak->M Flo:=
 (aS (kT [2,4] 4 (f2 lL (af 0) (f2 jS (f2 rA (fC (.int 10)) (fC (.int 6))) (fC (.int 1)))))
  (aD [2,4] 0 (f2 i5 (af 0) (f2 jS (f2 rA (fC (.int 10)) (fC (.int 6))) (fC (.int 1))))))
noncomputable def nG (CR CP CN:Addr) (n:Nat):ak->M Flo:=
 (aS (aD [2] 4 (fL dw aB))
  (aS (sV [2,4] (my sW (a9 (af 1) aB)) (.nm 5) (jG CR CP CN n))
  (kT [2] 2 (af 4))))
noncomputable def r9 (CR CP CN:Addr) (n:Nat):ak->M Flo:=
 (aS (aD [] 2 (fL dw aB))
  (aS (sV [2] (my sW (a9 (af 1) aB)) (.nm 3) (nG CR CP CN n))
  (dR (af 2))))
noncomputable def ic (CR CP CN:Addr) (n:Nat):List Dat->M Dat:=cb 6 2 (r9 CR CP CN n)
noncomputable def eX (CR CP CN:Addr) (n:Nat):ak->M Flo:=
 (aS (kT [3] 3 (f2 lL (af 0) (f2 jS (f2 rA (fC (.int 10)) (fC (.int 9))) (fC (.int 1)))))
  (aD [3] 0 (f2 i5 (af 0) (f2 jS (f2 rA (fC (.int 10)) (fC (.int 9))) (fC (.int 1))))))
noncomputable def gI (CR CP CN:Addr) (n:Nat):ak->M Flo:=
 (aS (aD [] 2 (f2 lL (af 0) (af 1)))
  (aS (aD [] 3 (fL dw aB))
  (aS (aD [3] 0 (f2 i5 (af 0) (af 1)))
  (aS (sV [3] (my sW (a9 (fC (.int 4)) aB)) (.nm 4) (eX CR CP CN n))
  (aS (aD [] 5 (f2 ixD (af 3) (fC (.int 0))))
  (dR (fL dZ (a9 (af 2) (a9 (af 5) (a9 (f2 jS (af 5) (f2 lL (f2 ixD (af 3) (fC (.int 1))) (f2 jS (f2 tZ (f2 rA (fC (.int 10)) (fC (.int 9))) (af 5)) (fC (.int 1))))) (a9 (f2 ixD (af 3) (fC (.int 2))) (a9 (f2 ixD (af 3) (fC (.int 3))) aB))))))))))))
noncomputable def bP (CR CP CN:Addr) (n:Nat):List Dat->M Dat:=cb 6 2 (gI CR CP CN n)
noncomputable def cq (CR CP CN:Addr) (n:Nat):ak->M Bool:=
 (fB (f2 gtD (fL tH (a9 (af 3) aB)) (fC (.int 0))))
noncomputable def dM (CR CP CN:Addr) (n:Nat):ak->M Flo:=
 (aS (sPop 3 5 (f2 lL (af 0) (fL tH (a9 (af 3) aB))))
  (aS (tf false 0 (f2 i5 (af 0) (f2 jS (fL tH (a9 (af 3) aB)) (fC (.int 1)))))
  (aS (kT [3,4] 4 (fL dZ (a9 (af 5) (a9 (f2 lL (af 0) (af 2)) aB))))
  (aD [3,4] 0 (f2 i5 (af 0) (af 2))))))
noncomputable def jm (CR CP CN:Addr) (n:Nat):ak->M Flo:=
 (aS (aD [] 3 (fLR (my sW (a9 (af 1) aB))))
  (aS (aD [3] 4 (fL dw aB))
  (aS (fY (cq CR CP CN n) (dM CR CP CN n) n)
  (dR (af 4)))))
noncomputable def dz (CR CP CN:Addr) (n:Nat):List Dat->M Dat:=cb 6 3 (jm CR CP CN n)
noncomputable def nv (CR CP CN:Addr) (n:Nat):ak->M Flo:=
 sIf (fB (f2 eqM (af 4) (fC (.int 2))))
   (aD [] 5 (fL (ic CR CP CN n) (a9 (f2 ixD (af 2) (fC (.int 2))) (a9 (af 3) aB))))
   f6
noncomputable def ng (CR CP CN:Addr) (n:Nat):ak->M Flo:=
 (aS (aD [] 2 (f2 jS (fSl Bh (af 0) pNone (wW (fC (.int 5)))) (f2 repD (fL dw (a9 (fC (.int 0)) aB)) (fC (.int 5)))))
  (aS (aD [] 3 (f2 jS (fC (.int 1)) (f2 lL (f2 i5 (f2 ixD (af 2) (fC (.int 0))) (fC (.int 2))) (fC (.int 6)))))
  (aS (aD [] 4 (f2 jS (fC (.int 1)) (f2 lL (f2 i5 (f2 ixD (af 2) (fC (.int 0))) (fC (.int 12))) (fC (.int 2)))))
  (aS (aD [] 5 (fC .non))
  (aS (nv CR CP CN n)
  (aS (aD [] 6 (jn (fIt (fSl Bh (af 0) (wW (fC (.int 5))) (wW (f2 jS (fC (.int 5)) (af 1))))) [none,some 3] (.nm 0) oi (fL (bP CR CP CN n) (a9 (af 0) (a9 (af 1) aB)))))
  (aS (aD [] 7 (fL (cy CR CP CN n) (a9 (f2 ixD (af 2) (fC (.int 3))) (a9 (f2 lL (f2 i5 (f2 ixD (af 2) (fC (.int 0))) (fC (.int 24))) (fC (.int 21))) aB))))
  (dR (fL dZ (a9 (fL dZ (a9 (fL (ic CR CP CN n) (a9 (f2 ixD (af 2) (fC (.int 1))) (a9 (af 3) aB))) (a9 (af 5) aB))) (a9 (af 6) (a9 (af 7) (a9 (fL (dz CR CP CN n) (a9 (f2 ixD (af 2) (fC (.int 4))) (a9 (fL tH (a9 (af 6) aB)) (a9 (af 4) aB)))) aB)))))))))))))
noncomputable def ik (CR CP CN:Addr) (n:Nat):List Dat->M Dat:=cb 8 2 (ng CR CP CN n)
noncomputable def hI (CR CP CN:Addr) (n:Nat):ak->M Flo:=
 sIf (fB (f2 eqM (f2 lL (fL (aJ CR CP CN n) (a9 (af 0) (a9 (fC (.int 151)) aB))) (fC (.int 8))) (fC (.int 5))))
   (aD [] 2 (fC (.int 20)))
   f6
noncomputable def kJ (CR CP CN:Addr) (n:Nat):ak->M Flo:=
 (aS (aD [3] 5 (fL (aJ CR CP CN n) (a9 (af 0) (a9 (f2 jS (fC (.int 152)) (af 4)) aB))))
  (aS (aD [3] 6 (f2 lL (f2 i5 (af 5) (fC (.int 9))) (f2 ug (fC (.int 150)) (af 1))))
  (kT [3] 3 (fL dZ (a9 (af 6) (a9 (f2 jS (f2 jS (af 6) (fC (.int 1))) (f2 ug (f2 lL (af 5) (fC (.int 9))) (af 1))) aB))))))
noncomputable def ni (CR CP CN:Addr) (n:Nat):ak->M Flo:=
 (aS (aD [] 2 (f2 lL (fL (aJ CR CP CN n) (a9 (af 0) (a9 (fC (.int 150)) aB))) (fC (.int 5))))
  (aS (hI CR CP CN n)
  (aS (aD [] 3 (fL dw aB))
  (aS (sV [3] (my sW (a9 (af 2) aB)) (.nm 4) (kJ CR CP CN n))
  (dR (af 3))))))
noncomputable def eT (CR CP CN:Addr) (n:Nat):List Dat->M Dat:=cb 7 2 (ni CR CP CN n)
noncomputable def gn (CR CP CN:Addr) (n:Nat):ak->M Bool:=
 (fB (f2 gtD (fL tH (a9 (af 3) aB)) (fC (.int 0))))
noncomputable def jH (CR CP CN:Addr) (n:Nat):ak->M Flo:=
 (aS (tf false 6 (fL (aJ CR CP CN n) (a9 (af 0) (a9 (f2 jS (fC (.int 180)) (fL tH (a9 (af 3) aB))) aB))))
  (aS (tf false 7 (f2 ug (f2 lL (f2 i5 (af 6) (fC (.int 64))) (fL minD (a9 (fL tH (a9 (af 3) aB)) (a9 (fC (.int 3)) aB)))) (fL intD (a9 (f2 eqM (f2 lL (af 6) (fC (.int 4))) (fC (.int 0))) aB))))
  (aS (DJ 3 (.tp [8,9]) (af 7))
  (kT [3,4] 4 (fL dZ (a9 (af 9) (a9 (f2 lL (f2 i5 (af 6) (fC (.int 4096))) (af 5)) aB)))))))
noncomputable def rg (CR CP CN:Addr) (n:Nat):ak->M Flo:=
 (aS (aD [] 3 (fL qz (a9 (jn (my sW (a9 (fL tH (a9 (af 2) aB)) aB)) [none,some 2] (.nm 0) oi (fL dZ (a9 (f2 ixD (f2 ixD (af 1) (af 0)) (fC (.int 1))) (a9 (af 0) aB)))) aB)))
  (aS (aD [3] 4 (fL dw aB))
  (aS (aD [3,4] 5 (f2 tZ (fC (.int 2)) (fL intD (a9 (f2 D9 (f2 ixD (af 1) (fC (.int 1))) (fC .non)) aB))))
  (aS (fY (gn CR CP CN n) (jH CR CP CN n) n)
  (dR (af 4))))))
noncomputable def ie (CR CP CN:Addr) (n:Nat):List Dat->M Dat:=cb 10 3 (rg CR CP CN n)
noncomputable def iC (CR CP CN:Addr) (n:Nat):ak->M Flo:=
 sIf (fAnd (fB (f2 gtD (fL tH (a9 (af 0) aB)) (fC (.int 0)))) (fB (f2 eqM (f2 lL (f2 ixD (af 0) (fC (.int 0))) (fC (.int 2))) (fC (.int 1)))))
   (dR (fL (ik CR CP CN n) (a9 (af 0) (a9 (af 1) aB))))
   f6
noncomputable def iT (CR CP CN:Addr) (n:Nat):ak->M Flo:=
 (aS (iC CR CP CN n)
  (aS (aD [] 2 (fL (cx CR CP CN n) (a9 (af 0) aB)))
  (aS (aD [] 3 (fL (cf CR CP CN n) (a9 (af 0) (a9 (af 2) aB))))
  (aS (aD [] 4 (fL (dE CR CP CN n) (a9 (af 0) (a9 (af 3) (a9 (af 1) (a9 (af 2) aB))))))
  (dR (fL dZ (a9 (af 3) (a9 (af 4) (a9 (fL (eT CR CP CN n) (a9 (af 0) (a9 (af 2) aB))) (a9 (fL (ie CR CP CN n) (a9 (af 0) (a9 (af 3) (a9 (af 4) aB)))) aB))))))))))
noncomputable def eh (CR CP CN:Addr) (n:Nat):List Dat->M Dat:=cb 5 2 (iT CR CP CN n)
noncomputable def kH (CR CP CN:Addr) (n:Nat):ak->M Flo:=
 sIf (fB (f2 D9 (af 0) (fC .non)))
   (dR (fC .non))
   f6
noncomputable def hV (CR CP CN:Addr) (n:Nat):ak->M Flo:=
 (kT [1] 1 (jn (fIt (af 0)) [none,some 2] (.nm 0) oi (f2 ixD (af 0) (af 1))))
noncomputable def jE (CR CP CN:Addr) (n:Nat):ak->M Flo:=
 (aS (kH CR CP CN n)
  (aS (aD [] 1 (fL dw aB))
  (aS (sV [1] (my sW (a9 (fL tH (a9 (af 0) aB)) aB)) (.nm 2) (hV CR CP CN n))
  (dR (af 1)))))
noncomputable def bS (CR CP CN:Addr) (n:Nat):List Dat->M Dat:=cb 3 1 (jE CR CP CN n)
noncomputable def cZ (CR CP CN:Addr) (n:Nat):ak->M Flo:=
 (kT [5] 5 (fL dZ (a9 (af 6) (a9 (f2 tZ (f2 rA (fC (.int 10)) (fC (.int 9))) (af 8)) (a9 (f2 tZ (f2 rA (fC (.int 10)) (fC (.int 9))) (af 7)) (a9 (af 9) (a9 (af 10) aB)))))))
noncomputable def kn (CR CP CN:Addr) (n:Nat):ak->M Flo:=
 (aS (wK [] (.tp [1,2,3,4]) (af 0))
  (aS (aD [] 5 (fL dw aB))
  (aS (sV [5] (fIt (af 2)) (.tp [6,7,8,9,10]) (cZ CR CP CN n))
  (aS (aD [] 11 (jn (fIt (af 3)) [none,none] (.tp [0,1]) oi (fL dZ (a9 (f2 jS (f2 tZ (f2 rA (fC (.int 10)) (fC (.int 9))) (af 1)) (fC (.int 1))) (a9 (f2 jS (f2 tZ (f2 rA (fC (.int 10)) (fC (.int 9))) (af 0)) (fC (.int 1))) aB)))))
  (dR (fL dZ (a9 (fL dZ (a9 (fL (bS CR CP CN n) (a9 (f2 ixD (af 1) (fC (.int 0))) aB)) (a9 (fL (bS CR CP CN n) (a9 (f2 ixD (af 1) (fC (.int 1))) aB)) aB))) (a9 (af 5) (a9 (af 11) (a9 (f1 DM (af 4)) aB))))))))))
noncomputable def cU (CR CP CN:Addr) (n:Nat):List Dat->M Dat:=cb 12 1 (kn CR CP CN n)
noncomputable def sG (CR CP CN:Addr) (n:Nat):ak->M Flo:=
 (dR (jn (fIt (af 1)) [none,none,some 0] (.tp [0,1]) oi (fL dZ (a9 (f2 ixD (f2 ixD (af 2) (af 0)) (fC (.int 0))) (a9 (af 1) aB)))))
noncomputable def cS (CR CP CN:Addr) (n:Nat):List Dat->M Dat:=cb 2 2 (sG CR CP CN n)
noncomputable def cR (CR CP CN:Addr) (n:Nat):ak->M Flo:=
 sIf (fAnd (Ai (af 1)) (fB (f2 leD (af 2) (f2 ixD (f2 ixD (af 1) (f1 negD (fC (.int 1)))) (fC (.int 1))))))
   (wM 1 (f1 negD (fC (.int 1))) (fL dZ (a9 (f2 ixD (f2 ixD (af 1) (f1 negD (fC (.int 1)))) (fC (.int 0))) (a9 (fL maxD (a9 (af 3) (a9 (f2 ixD (f2 ixD (af 1) (f1 negD (fC (.int 1)))) (fC (.int 1))) aB))) aB))))
   (kT [1] 1 (fL dZ (a9 (af 2) (a9 (af 3) aB))))
noncomputable def bR (CR CP CN:Addr) (n:Nat):ak->M Flo:=
 (cR CR CP CN n)
noncomputable def gG (CR CP CN:Addr) (n:Nat):ak->M Flo:=
 (aS (aD [] 1 (fL dw aB))
  (aS (sV [1] (fIt (fL qz (a9 (af 0) aB))) (.tp [2,3]) (bR CR CP CN n))
  (dR (af 1))))
noncomputable def bw (CR CP CN:Addr) (n:Nat):List Dat->M Dat:=cb 4 1 (gG CR CP CN n)
noncomputable def rV (CR CP CN:Addr) (n:Nat):ak->M Flo:=
 sIf (fB (jd leD ltD (af 2) (af 1) (af 3)))
   (dR (af 3))
   f6
noncomputable def nC (CR CP CN:Addr) (n:Nat):ak->M Flo:=
 (rV CR CP CN n)
noncomputable def n5 (CR CP CN:Addr) (n:Nat):ak->M Flo:=
 (aS (sV [] (fIt (fL (bw CR CP CN n) (a9 (af 0) aB))) (.tp [2,3]) (nC CR CP CN n))
  (dR (af 1)))
noncomputable def ia (CR CP CN:Addr) (n:Nat):List Dat->M Dat:=cb 4 2 (n5 CR CP CN n)
noncomputable def nj (CR CP CN:Addr) (n:Nat):ak->M Flo:=
 (dR (f2 ixD (f2 ixD (f1 (xJ [CR,CP] "gaps") (af 0)) (f2 ixD (af 1) (fC (.int 0)))) (f2 ixD (af 2) (fC (.int 0)))))
noncomputable def bx (CR CP CN:Addr) (n:Nat):List Dat->M Dat:=cb 3 3 (nj CR CP CN n)
noncomputable def lj (CR CP CN:Addr) (n:Nat):ak->M Flo:=
 (aS (aD [] 3 (fIte (fB (f2 eqM (f2 ixD (af 1) (fC (.int 1))) (f2 ixD (af 2) (fC (.int 1))))) (f1 (xJ [CR,CP] "gaps") (af 0)) (f1 (xJ [CP] "beside") (af 0))))
  (dR (f2 ixD (f2 ixD (af 3) (f2 ixD (af 1) (fC (.int 0)))) (f2 ixD (af 2) (fC (.int 0))))))
noncomputable def bC (CR CP CN:Addr) (n:Nat):List Dat->M Dat:=cb 4 3 (lj CR CP CN n)
noncomputable def qZ (CR CP CN:Addr) (n:Nat):ak->M Flo:=
 (dR (jn (my sW (a9 (af 3) aB)) [none,some 0,some 1,some 2,some 3] (.nm 0) oi (f2 jS (f2 ixD (af 3) (af 0)) (lp CR CP "apart" (bx CR CP CN n) (bC CR CP CN n) (af 1) (a9 (f2 ixD (af 2) (af 0)) (a9 (f2 ixD (af 2) (af 4)) aB))))))
noncomputable def di (CR CP CN:Addr) (n:Nat):List Dat->M Dat:=cb 4 4 (qZ CR CP CN n)
noncomputable def pF (CR CP CN:Addr) (n:Nat):ak->M Flo:=
 sIf (fB (f2 gtD (af 9) (f2 ixD (af 8) (fC (.int 2)))))
   (Cr CN "flight" "time" (a9 (f2 ixD (af 7) (fC (.int 0))) (a9 (af 9) aB)))
   f6
noncomputable def gh (CR CP CN:Addr) (n:Nat):ak->M Flo:=
 (aS (Dc (aD [5] 8 (f2 ixD (af 1) (f2 ixD (af 7) (fC (.int 0))))))
  (aS (Dc (tf false 9 (fL (ia CR CP CN n) (a9 (af 2) (a9 (fL maxD (a9 (f2 jS (fL dw (a9 (f2 ixD (af 8) (fC (.int 1))) aB)) (fL (di CR CP CN n) (a9 (af 0) (a9 (af 4) (a9 (af 5) (a9 (af 6) aB)))))) aB)) aB)))))
  (aS (pF CR CP CN n)
  (Dc (kT [5] 5 (af 9))))))
noncomputable def pX (CR CP CN:Addr) (n:Nat):ak->M Flo:=
 (aS (Dc (aD [] 4 (fL (cS CR CP CN n) (a9 (af 1) (a9 (af 3) aB)))))
  (aS (Dc (aD [] 5 (fL dw aB)))
  (aS (sV [5] (vn (af 3)) (.tp [6,7]) (gh CR CP CN n))
  (Dc (dR (af 5))))))
noncomputable def br (CR CP CN:Addr) (n:Nat):List Dat->M Dat:=cb 10 4 (pX CR CP CN n)
noncomputable def rW (CR CP CN:Addr) (n:Nat):ak->M Flo:=
 sIf (fB (jd leD ltD (af 3) (af 1) (af 4)))
   (aD [] 2 (f2 tZ (af 3) (fC (.int 1))))
   f6
noncomputable def nF (CR CP CN:Addr) (n:Nat):ak->M Flo:=
 (rW CR CP CN n)
noncomputable def qY (CR CP CN:Addr) (n:Nat):ak->M Flo:=
 (aS (aD [] 2 (af 1))
  (aS (sV [] (fIt (fL (bw CR CP CN n) (a9 (af 0) aB))) (.tp [3,4]) (nF CR CP CN n))
  (dR (fIte (fB (f2 geD (af 2) (fC (.int 0)))) (af 2) (fC .non)))))
noncomputable def kf (CR CP CN:Addr) (n:Nat):List Dat->M Dat:=cb 5 2 (qY CR CP CN n)
noncomputable def nE (CR CP CN:Addr) (n:Nat):ak->M Flo:=
 (aS (tf true 8 (jn (my rng2 (a9 (f2 jS (af 7) (fC (.int 1))) (a9 (af 6) aB))) [none,some 0,some 4,some 5,some 7] (.nm 0) oi (f2 tZ (f2 ixD (af 2) (af 0)) (lp CR CP "apart" (bx CR CP CN n) (bC CR CP CN n) (af 1) (a9 (f2 ixD (af 3) (af 4)) (a9 (f2 ixD (af 3) (af 0)) aB))))))
  (wM 4 (af 7) (fL (kf CR CP CN n) (a9 (af 2) (a9 (fL minD (a9 (f2 jS (fL dw (a9 (f2 ixD (f2 ixD (af 1) (f2 ixD (f2 ixD (af 3) (af 7)) (fC (.int 0)))) (fC (.int 2))) aB)) (af 8)) aB)) aB)))))
noncomputable def qW (CR CP CN:Addr) (n:Nat):ak->M Flo:=
 (aS (aD [] 4 (fL (br CR CP CN n) (a9 (af 0) (a9 (af 1) (a9 (af 2) (a9 (af 3) aB))))))
  (Dc (aS (aD [4] 5 (fL (cS CR CP CN n) (a9 (af 1) (a9 (af 3) aB))))
  (aS (aD [4] 6 (fL tH (a9 (af 3) aB)))
  (aS (sV [4] (my rng3 (a9 (f2 tZ (af 6) (fC (.int 1))) (a9 (f1 negD (fC (.int 1))) (a9 (f1 negD (fC (.int 1))) aB)))) (.nm 7) (nE CR CP CN n))
  (dR (af 4)))))))
noncomputable def e8 (CR CP CN:Addr) (n:Nat):List Dat->M Dat:=cb 9 4 (qW CR CP CN n)
noncomputable def rP (CR CP CN:Addr) (n:Nat):ak->M Flo:=
 (aS (aD [] 4 (fL (br CR CP CN n) (a9 (af 0) (a9 (af 1) (a9 (af 2) (a9 (af 3) aB))))))
  (dR (fLZ (af 4) (fL (e8 CR CP CN n) (a9 (af 0) (a9 (af 1) (a9 (af 2) (a9 (af 3) aB))))))))
noncomputable def cT (CR CP CN:Addr) (n:Nat):List Dat->M Dat:=cb 5 4 (rP CR CP CN n)
noncomputable def n8 (CR CP CN:Addr) (n:Nat):ak->M Flo:=
 (dR (jn (fIt (af 0)) [none] (.nm 0) oi (fL CK (a9 (af 0) aB))))
noncomputable def gC (CR CP CN:Addr) (n:Nat):List Dat->M Dat:=cb 1 1 (n8 CR CP CN n)
noncomputable def wc (CR CP CN:Addr) (n:Nat):ak->M Flo:=
 sIf (fOr (BJ (Ai (f1 tK (af 0)))) (Ai (f1 rO (af 0))))
   (dR (fC (.bl false)))
   f6
noncomputable def xo (CR CP CN:Addr) (n:Nat):ak->M Flo:=
 (aS (wc CR CP CN n)
  (dR (jd leD leD (fC (.int 0)) (af 0) (fC (.int 1000000)))))
noncomputable def mS (CR CP CN:Addr) (n:Nat):List Dat->M Dat:=cb 1 1 (xo CR CP CN n)
noncomputable def pk (CR CP CN:Addr) (n:Nat):ak->M Flo:=
 (dR (uF (f1 rN (af 0)) (uF (f2 eqM (fL tH (a9 (af 0) aB)) (af 1)) (fL allD (a9 (jn (fIt (af 0)) [none] (.nm 0) oi (fL (mS CR CP CN n) (a9 (af 0) aB))) aB)))))
noncomputable def ee (CR CP CN:Addr) (n:Nat):List Dat->M Dat:=cb 2 2 (pk CR CP CN n)
noncomputable def oo (CR CP CN:Addr) (n:Nat):ak->M Flo:=
 sIf (BJ (fB (jd leD leD (fC (.int 1)) (af 1) (fC (.int 6)))))
   sStk
   f6
noncomputable def om (CR CP CN:Addr) (n:Nat):ak->M Flo:=
 sIf (BJ (Ai (fL allD (a9 (jn (fIt (af 0)) [none,some 1] (.nm 0) oi (fL (ee CR CP CN n) (a9 (af 0) (a9 (af 1) aB)))) aB))))
   sStk
   f6
noncomputable def lR (CR CP CN:Addr) (n:Nat):ak->M Flo:=
 (aS (aD [] 1 (fL tH (a9 (af 0) aB)))
  (aS (oo CR CP CN n)
  (aS (om CR CP CN n)
  (dR (fL (gC CR CP CN n) (a9 (af 0) aB))))))
noncomputable def aL (CR CP CN:Addr) (n:Nat):List Dat->M Dat:=cb 2 1 (lR CR CP CN n)
noncomputable def nu (CR CP CN:Addr) (n:Nat):ak->M Flo:=
 sIf (fB (f2 D9 (f2 ixD (af 0) (fC (.int 1))) (fC .non)))
   (dR (fL (newR CR (aL CR CP CN n)) (a9 (f2 ixD (af 0) (fC (.int 0))) aB)))
   f6
noncomputable def n9 (CR CP CN:Addr) (n:Nat):ak->M Flo:=
 (aS (nu CR CP CN n)
  (dR (fL (newP CP (aL CR CP CN n)) (a9 (f2 ixD (af 0) (fC (.int 0))) (a9 (f2 ixD (af 0) (fC (.int 1))) aB)))))
noncomputable def ba (CR CP CN:Addr) (n:Nat):List Dat->M Dat:=cb 1 1 (n9 CR CP CN n)
noncomputable def dD (CR CP CN:Addr) (n:Nat):ak->M Flo:=
 wL 1 CN (aD [] 1 (fL (cT CR CP CN n) (a9 (Dc (fL (ba CR CP CN n) (a9 (f2 ixD (af 0) (fC (.int 0))) aB))) (a9 (f2 ixD (af 0) (fC (.int 1))) (a9 (f2 ixD (af 0) (fC (.int 2))) (a9 (f2 ixD (af 0) (fC (.int 3))) aB))))))
noncomputable def iB (CR CP CN:Addr) (n:Nat):ak->M Flo:=
 (aS (aD [] 1 (fC .non))
  (aS (dD CR CP CN n)
  (dR (af 1))))
noncomputable def bT (CR CP CN:Addr) (n:Nat):List Dat->M Dat:=cb 2 1 (iB CR CP CN n)
noncomputable def rj (CR CP CN:Addr) (n:Nat):ak->M Flo:=
 (dR (jn (fIt (f1 DM (af 0))) [none] (.nm 0) oi (f2 tZ (f2 rA (fC (.int 10)) (fC (.int 9))) (af 0))))
noncomputable def eB (CR CP CN:Addr) (n:Nat):List Dat->M Dat:=cb 1 1 (rj CR CP CN n)
noncomputable def nt (CR CP CN:Addr) (n:Nat):ak->M Flo:=
 sIf (fB (f2 eqM (af 3) (f2 ixD (af 0) (fC (.int 1)))))
   (dR (fL dZ (a9 (fC (.str "first")) aB)))
   f6
noncomputable def rn (CR CP CN:Addr) (n:Nat):ak->M Flo:=
 sIf (fB (f2 inM (af 3) (af 2)))
   (dR (fL dZ (a9 (fC (.str "gap")) (a9 (uE (af 2) (af 3)) aB))))
   f6
noncomputable def pj (CR CP CN:Addr) (n:Nat):ak->M Flo:=
 (aS (nt CR CP CN n)
  (aS (rn CR CP CN n)
  (aS (aD [] 4 (jn (fIt (af 1)) [none,none] (.tp [0,1]) oi (af 1)))
  (dR (fL dZ (a9 (fC (.str "closed")) (a9 (uE (af 4) (af 3)) aB)))))))
noncomputable def ke (CR CP CN:Addr) (n:Nat):List Dat->M Dat:=cb 5 4 (pj CR CP CN n)
noncomputable def nB (CR CP CN:Addr) (n:Nat):ak->M Flo:=
 (aS (aD [6] 9 (fL (di CR CP CN n) (a9 (af 0) (a9 (af 5) (a9 (af 4) (a9 (af 7) aB))))))
  (kT [6] 6 (fL (ke CR CP CN n) (a9 (f2 ixD (af 1) (f2 ixD (f2 ixD (af 3) (af 7)) (fC (.int 0)))) (a9 (af 2) (a9 (af 9) (a9 (af 8) aB)))))))
noncomputable def qV (CR CP CN:Addr) (n:Nat):ak->M Flo:=
 (aS (aD [] 4 (fL (noM (br CR CP CN n)) (a9 (af 0) (a9 (af 1) (a9 (af 2) (a9 (af 3) aB))))))
  (aS (aD [] 5 (fL (cS CR CP CN n) (a9 (af 1) (a9 (af 3) aB))))
  (aS (aD [] 6 (fL dw aB))
  (aS (sV [6] (vn (af 4)) (.tp [7,8]) (nB CR CP CN n))
  (dR (af 6))))))
noncomputable def kc (CR CP CN:Addr) (n:Nat):List Dat->M Dat:=cb 10 4 (qV CR CP CN n)
noncomputable def qX (CR CP CN:Addr) (n:Nat):ak->M Flo:=
 (aS (aD [] 2 (f2 ixD (af 0) (fC (.int 3))))
  (aS (aD [] 3 (f2 ixD (af 0) (fC (.int 4))))
  (dR (f2 ug (af 3) (fL maxD (a9 (fC (.int 0)) (a9 (f2 tZ (af 1) (af 2)) aB)))))))
noncomputable def ib (CR CP CN:Addr) (n:Nat):List Dat->M Dat:=cb 4 2 (qX CR CP CN n)
noncomputable def uD (CR CP CN:Addr) (n:Nat):ak->M Flo:=
 (dR (fL sumD (a9 (jn (BI (af 1) (af 2)) [none,none,some 0] (.tp [0,1]) oi (fL (ib CR CP CN n) (a9 (f2 ixD (af 2) (f2 ixD (af 0) (fC (.int 0)))) (a9 (af 1) aB)))) aB)))
noncomputable def mf (CR CP CN:Addr) (n:Nat):List Dat->M Dat:=cb 3 3 (uD CR CP CN n)
noncomputable def qt (CR CP CN:Addr) (n:Nat):ak->M Flo:=
 sIf (fB (f2 neM (af 5) (fL (eB CR CP CN n) (a9 (fL (noM (br CR CP CN n)) (a9 (af 3) (a9 (f2 ixD (af 1) (fC (.int 1))) (a9 (f2 ixD (af 1) (fC (.int 2))) (a9 (f2 ixD (af 1) (fC (.int 3))) aB))))) aB))))
   (dR (fC (.bl false)))
   f6
noncomputable def qr (CR CP CN:Addr) (n:Nat):ak->M Flo:=
 sIf (fB (f2 neM (af 4) (fL (eB CR CP CN n) (a9 (fL (noM (e8 CR CP CN n)) (a9 (af 3) (a9 (f2 ixD (af 1) (fC (.int 1))) (a9 (f2 ixD (af 1) (fC (.int 2))) (a9 (f2 ixD (af 1) (fC (.int 3))) aB))))) aB))))
   (dR (fC (.bl false)))
   f6
noncomputable def qq (CR CP CN:Addr) (n:Nat):ak->M Flo:=
 sIf (fB (f2 neM (f2 eqM (f2 ixD (af 6) (af 7)) (fL dZ (a9 (fC (.str "first")) aB))) (f2 eqM (f2 ixD (af 5) (af 7)) (f2 ixD (af 8) (fC (.int 2))))))
   (dR (fC (.bl false)))
   f6
noncomputable def iE (CR CP CN:Addr) (n:Nat):ak->M Flo:=
 (aS (aD [] 8 (f2 ixD (f2 ixD (af 0) (fC (.int 1))) (f2 ixD (f2 ixD (f2 ixD (af 0) (fC (.int 3))) (af 7)) (fC (.int 0)))))
  (qq CR CP CN n))
noncomputable def pq (CR CP CN:Addr) (n:Nat):ak->M Flo:=
 (aS (aD [] 2 (fL (ba CR CP CN n) (a9 (f2 ixD (af 0) (fC (.int 0))) aB)))
  (aS (aD [] 3 (fL (ba CR CP CN n) (a9 (f2 ixD (af 1) (fC (.int 0))) aB)))
  (aS (aD [] 4 (fL (noM (br CR CP CN n)) (a9 (af 2) (a9 (f2 ixD (af 0) (fC (.int 1))) (a9 (f2 ixD (af 0) (fC (.int 2))) (a9 (f2 ixD (af 0) (fC (.int 3))) aB))))))
  (aS (aD [] 5 (fL (noM (e8 CR CP CN n)) (a9 (af 2) (a9 (f2 ixD (af 0) (fC (.int 1))) (a9 (f2 ixD (af 0) (fC (.int 2))) (a9 (f2 ixD (af 0) (fC (.int 3))) aB))))))
  (aS (qt CR CP CN n)
  (aS (qr CR CP CN n)
  (aS (aD [] 6 (f1 DM (fL (kc CR CP CN n) (a9 (af 3) (a9 (f2 ixD (af 1) (fC (.int 1))) (a9 (f2 ixD (af 1) (fC (.int 2))) (a9 (f2 ixD (af 1) (fC (.int 3))) aB)))))))
  (aS (sV [] (my sW (a9 (fL tH (a9 (af 4) aB)) aB)) (.nm 7) (iE CR CP CN n))
  (dR (f2 leD (fL (mf CR CP CN n) (a9 (f2 ixD (af 0) (fC (.int 1))) (a9 (f2 ixD (af 0) (fC (.int 3))) (a9 (af 4) aB)))) (fL (mf CR CP CN n) (a9 (f2 ixD (af 0) (fC (.int 1))) (a9 (f2 ixD (af 0) (fC (.int 3))) (a9 (af 5) aB))))))))))))))
noncomputable def iS (CR CP CN:Addr) (n:Nat):List Dat->M Dat:=cb 9 2 (pq CR CP CN n)
noncomputable def n6 (CR CP CN:Addr) (n:Nat):ak->M Flo:=
 (dR (fL dZ (a9 (f2 ixD (af 0) (fC (.int 0))) (a9 (af 1) (a9 (f2 ixD (af 0) (fC (.int 2))) (a9 (f2 ixD (af 0) (fC (.int 3))) (a9 (f2 ixD (af 0) (fC (.int 4))) aB)))))))
noncomputable def gB (CR CP CN:Addr) (n:Nat):List Dat->M Dat:=cb 2 2 (n6 CR CP CN n)
noncomputable def sH (CR CP CN:Addr) (n:Nat):ak->M Flo:=
 (dR (jd leD ltD (fC (.int 0)) (af 1) (fL tH (a9 (af 0) aB))))
noncomputable def md (CR CP CN:Addr) (n:Nat):List Dat->M Dat:=cb 2 2 (sH CR CP CN n)
noncomputable def uC (CR CP CN:Addr) (n:Nat):ak->M Flo:=
 (dR (f1 notD (fL anyD (a9 (jn (fIt (af 0)) [none,none,some 1] (.tp [0,1]) oi (jd leD ltD (af 0) (af 2) (af 1))) aB))))
noncomputable def kg (CR CP CN:Addr) (n:Nat):List Dat->M Dat:=cb 2 2 (uC CR CP CN n)
noncomputable def qp (CR CP CN:Addr) (n:Nat):ak->M Flo:=
 sIf (BJ (Ai (fL (md CR CP CN n) (a9 (af 1) (a9 (af 4) aB)))))
   sStk
   f6
noncomputable def qo (CR CP CN:Addr) (n:Nat):ak->M Flo:=
 sIf (fOr (BJ (fB (jd leD leD (f2 ixD (af 6) (fC (.int 0))) (af 5) (f2 ixD (af 6) (fC (.int 1)))))) (BJ (Ai (fL (kg CR CP CN n) (a9 (af 2) (a9 (af 5) aB))))))
   sStk
   f6
noncomputable def ph (CR CP CN:Addr) (n:Nat):ak->M Flo:=
 (aS (qp CR CP CN n)
  (aS (aD [] 6 (f2 ixD (fL (noM (cT CR CP CN n)) (a9 (af 0) (a9 (af 1) (a9 (af 2) (a9 (af 3) aB))))) (af 4)))
  (aS (qo CR CP CN n)
  (aS (aD [] 7 (f2 ixD (f2 ixD (af 3) (af 4)) (fC (.int 0))))
  (aS (aD [] 8 (fL CK (a9 (af 1) aB)))
  (aS (wM 8 (af 7) (fL (gB CR CP CN n) (a9 (f2 ixD (af 1) (af 7)) (a9 (af 5) aB))))
  (dR (fL (noM (br CR CP CN n)) (a9 (af 0) (a9 (af 8) (a9 (af 2) (a9 (af 3) aB))))))))))))
noncomputable def iR (CR CP CN:Addr) (n:Nat):List Dat->M Dat:=cb 9 6 (ph CR CP CN n)
noncomputable def lQ (CR CP CN:Addr) (n:Nat):ak->M Flo:=
 (dR (uF (jd leD leD (f2 ixD (af 0) (fC (.int 1))) (af 2) (f2 ixD (af 0) (fC (.int 2)))) (fL (kg CR CP CN n) (a9 (af 1) (a9 (af 2) aB)))))
noncomputable def fj (CR CP CN:Addr) (n:Nat):List Dat->M Dat:=cb 3 3 (lQ CR CP CN n)
noncomputable def lV (CR CP CN:Addr) (n:Nat):ak->M Flo:=
 sIf (BJ (Ai (fL (fj CR CP CN n) (a9 (f2 ixD (af 1) (f2 ixD (f2 ixD (af 3) (af 6)) (fC (.int 0)))) (a9 (af 2) (a9 (af 7) aB))))))
   (dR (fC (.bl false)))
   f6
noncomputable def fH (CR CP CN:Addr) (n:Nat):ak->M Flo:=
 sIf (Ai (fL anyD (a9 (jn (fIt (fL (di CR CP CN n) (a9 (af 0) (a9 (af 5) (a9 (af 4) (a9 (af 6) aB)))))) [none,some 7] (.nm 0) oi (f2 ltD (af 1) (af 0))) aB)))
   (dR (fC (.bl false)))
   f6
noncomputable def lW (CR CP CN:Addr) (n:Nat):ak->M Flo:=
 (aS (lV CR CP CN n)
  (fH CR CP CN n))
noncomputable def lh (CR CP CN:Addr) (n:Nat):ak->M Flo:=
 (aS (aD [] 5 (fL (cS CR CP CN n) (a9 (af 1) (a9 (af 3) aB))))
  (aS (sV [] (vn (af 4)) (.tp [6,7]) (lW CR CP CN n))
  (dR (fC (.bl true)))))
noncomputable def e9 (CR CP CN:Addr) (n:Nat):List Dat->M Dat:=cb 8 5 (lh CR CP CN n)
noncomputable def jF (CR CP CN:Addr) (n:Nat):ak->M Flo:=
 sIf (fOr (fB (f2 eqM (fL tH (a9 (af 0) aB)) (fC (.int 0)))) (fB (f2 eqM (f2 lL (f2 ixD (af 0) (fC (.int 0))) (fC (.int 2))) (fC (.int 0)))))
   (dR (fL (aJ CR CP CN n) (a9 (af 0) (a9 (f2 jS (fC (.int 250)) (af 1)) aB))))
   f6
noncomputable def nH (CR CP CN:Addr) (n:Nat):ak->M Flo:=
 (aD [] 2 (f2 i5 (af 2) (f2 rA (fC (.int 10)) (fC (.int 18)))))
noncomputable def km (CR CP CN:Addr) (n:Nat):ak->M Flo:=
 (aS (jF CR CP CN n)
  (aS (aD [] 2 (f2 i5 (f2 ixD (af 0) (fC (.int 0))) (fC (.int 504))))
  (aS (sV [] (my sW (a9 (af 1) aB)) (.nm 3) (nH CR CP CN n))
  (dR (f2 lL (af 2) (f2 rA (fC (.int 10)) (fC (.int 18))))))))
noncomputable def eA (CR CP CN:Addr) (n:Nat):List Dat->M Dat:=cb 4 2 (km CR CP CN n)
noncomputable def rY (CR CP CN:Addr) (n:Nat):ak->M Flo:=
 sIf (fB (f2 neM (f2 ixD (af 11) (af 7)) (af 10)))
   (dR (fC (.bl false)))
   f6
noncomputable def rX (CR CP CN:Addr) (n:Nat):ak->M Flo:=
 sIf (fOr (fB (f2 notBD (af 12) (fC (.bl true)))) (fB (f2 notBD (af 13) (fC (.bl true)))))
   (dR (fC (.bl false)))
   f6
noncomputable def jI (CR CP CN:Addr) (n:Nat):ak->M Flo:=
 (aS (aD [] 7 (f2 lL (fL (eA CR CP CN n) (a9 (af 0) (a9 (af 6) aB))) (fL tH (a9 (af 3) aB))))
  (aS (wK [] (.tp [8,9]) (f2 ixD (af 3) (af 7)))
  (aS (aD [] 10 (f2 ixD (fL dw (a9 (af 8) (a9 (af 9) aB))) (f2 lL (fL (eA CR CP CN n) (a9 (af 0) (a9 (f2 jS (fC (.int 10)) (af 6)) aB))) (fC (.int 2)))))
  (aS (aD [] 11 (fL (iR CR CP CN n) (a9 (af 4) (a9 (f2 ixD (af 1) (fC (.int 1))) (a9 (f2 ixD (af 1) (fC (.int 2))) (a9 (f2 ixD (af 1) (fC (.int 3))) (a9 (af 7) (a9 (af 10) aB))))))))
  (aS (rY CR CP CN n)
  (aS (aD [] 12 (fL (e9 CR CP CN n) (a9 (af 4) (a9 (f2 ixD (af 1) (fC (.int 1))) (a9 (f2 ixD (af 1) (fC (.int 2))) (a9 (f2 ixD (af 1) (fC (.int 3))) (a9 (af 11) aB)))))))
  (aS (aD [] 13 (fL (e9 CR CP CN n) (a9 (af 5) (a9 (f2 ixD (af 2) (fC (.int 1))) (a9 (f2 ixD (af 2) (fC (.int 2))) (a9 (f2 ixD (af 2) (fC (.int 3))) (a9 (fL (eB CR CP CN n) (a9 (af 11) aB)) aB)))))))
  (rX CR CP CN n))))))))
noncomputable def nc (CR CP CN:Addr) (n:Nat):ak->M Flo:=
 (aS (aD [] 4 (fL (ba CR CP CN n) (a9 (f2 ixD (af 1) (fC (.int 0))) aB)))
  (aS (aD [] 5 (fL (ba CR CP CN n) (a9 (f2 ixD (af 2) (fC (.int 0))) aB)))
  (aS (sV [] (my sW (a9 (f2 ug (fL minD (a9 (fL tH (a9 (af 0) aB)) (a9 (fC (.int 5)) aB))) (fL intD (a9 (f2 neM (af 3) (fL dw aB)) aB))) aB)) (.nm 6) (jI CR CP CN n))
  (dR (fC (.bl true))))))
noncomputable def ig (CR CP CN:Addr) (n:Nat):List Dat->M Dat:=cb 14 4 (nc CR CP CN n)
noncomputable def Aw (CR CP CN:Addr) (n:Nat):ak->M Flo:=
 sIf (fB (f2 neM (fL (cU CR CP CN n) (a9 (af 6) aB)) (af 5)))
   (dR (fC (.bl false)))
   f6
noncomputable def Av (CR CP CN:Addr) (n:Nat):ak->M Flo:=
 sIf (fOr (fB (f2 D9 (af 7) (fC .non))) (fB (f2 D9 (af 8) (fC .non))))
   (dR (uF (f2 D9 (af 7) (fC .non)) (f2 D9 (af 8) (fC .non))))
   f6
noncomputable def Fz (CR CP CN:Addr) (n:Nat):ak->M Flo:=
 sIf (fB (f2 neM (f1 DM (af 8)) (jn (fIt (af 7)) [none,none] (.tp [0,1]) oi (fL dZ (a9 (f2 tZ (f2 rA (fC (.int 10)) (fC (.int 9))) (af 1)) (a9 (f2 tZ (f2 rA (fC (.int 10)) (fC (.int 9))) (af 0)) aB))))))
   (dR (fC (.bl false)))
   f6
noncomputable def g_law (CR CP CN:Addr) (n:Nat):ak->M Flo:=
 (aS (wK [] (.tp [1,2,3,4]) (fL (eh CR CP CN n) (a9 (af 0) (a9 (fC (.int 24)) aB))))
  (aS (aD [] 3 (jn (fIt (af 3)) [none,none] (.tp [0,1]) oi (fL dZ (a9 (fL maxD (a9 (af 0) (a9 (fC (.int 1)) aB))) (a9 (fL maxD (a9 (af 1) (a9 (fC (.int 2)) aB))) aB)))))
  (aS (aD [] 5 (fL dZ (a9 (af 1) (a9 (af 2) (a9 (af 3) (a9 (af 4) aB))))))
  (aS (aD [] 6 (fL (cU CR CP CN n) (a9 (af 5) aB)))
  (aS (Aw CR CP CN n)
  (aS (aD [] 7 (fL (bT CR CP CN n) (a9 (af 5) aB)))
  (aS (aD [] 8 (fL (bT CR CP CN n) (a9 (af 6) aB)))
  (aS (Av CR CP CN n)
  (aS (Fz CR CP CN n)
  (dR (uF (fL (iS CR CP CN n) (a9 (af 5) (a9 (af 6) aB))) (fL (ig CR CP CN n) (a9 (af 0) (a9 (af 5) (a9 (af 6) (a9 (af 7) aB))))))))))))))))
noncomputable def Et (CR CP CN:Addr) (n:Nat):List Dat->M Dat:=cb 9 1 (g_law CR CP CN n)
noncomputable def top (i:Nat):Stmt:=PySem.Challenge.pw_wakeorder_k91_whole_mirrored.main.body.getD i (.Pass ⟨0,0,0,0⟩)
noncomputable abbrev cO:Stmt:=top 40
noncomputable abbrev lb:Stmt:=top 47
noncomputable abbrev mJ:Stmt:=top 41
noncomputable abbrev gv:Stmt:=top 42
noncomputable abbrev iA:Stmt:=top 44
noncomputable abbrev dJ:Stmt:=top 49
noncomputable abbrev mF:Stmt:=top 48
noncomputable abbrev dI:Stmt:=top 50
noncomputable abbrev fK:Stmt:=top 51
noncomputable abbrev mK:Stmt:=top 52
noncomputable abbrev jB:Stmt:=top 45
noncomputable abbrev mG:Stmt:=top 46
noncomputable abbrev l9:Stmt:=top 54
noncomputable abbrev jA:Stmt:=top 55
noncomputable abbrev gw:Stmt:=top 56
noncomputable abbrev i6:Stmt:=top 15
noncomputable abbrev cv:Stmt:=top 8
noncomputable abbrev mC:Stmt:=top 10
noncomputable abbrev cw:Stmt:=inClass (top 37) 3
noncomputable abbrev d9:Stmt:=inClass (top 38) 2
noncomputable abbrev i7:Stmt:=top 16
noncomputable abbrev gb:Stmt:=top 19
noncomputable abbrev mE:Stmt:=top 11
noncomputable abbrev jT:Stmt:=top 23
noncomputable abbrev oH:Stmt:=top 24
noncomputable abbrev jz:Stmt:=top 35
noncomputable abbrev tE:Stmt:=top 33
noncomputable abbrev l8:Stmt:=top 34
noncomputable abbrev eZ:Stmt:=top 36
noncomputable abbrev i8:Stmt:=top 43
noncomputable abbrev iz:Stmt:=top 58
noncomputable abbrev jU:Stmt:=top 57
noncomputable abbrev rF:Stmt:=top 20
noncomputable abbrev mB:Stmt:=top 21
noncomputable abbrev mD:Stmt:=top 28
noncomputable abbrev rG:Stmt:=top 29
noncomputable abbrev la:Stmt:=top 59
noncomputable abbrev jy:Stmt:=top 25
noncomputable abbrev pR:Stmt:=top 13
noncomputable abbrev oG:Stmt:=top 9
noncomputable abbrev l6:Stmt:=top 26
noncomputable abbrev iy:Stmt:=top 17
noncomputable abbrev l7:Stmt:=top 18
noncomputable abbrev mH:Stmt:=top 53
noncomputable abbrev mI:Stmt:=top 60
noncomputable abbrev Cq:Stmt:=top 61
noncomputable abbrev s_nR:Stmt:=inClass (top 37) 0
noncomputable abbrev s_nP:Stmt:=inClass (top 38) 0
noncomputable abbrev zU:Stmt:=inClass (top 4) 0
structure Zs (K:Pn) (mg:Ld) (CR CP CN:Addr):Prop where
 ks_CN:PySem.W.mroIn K CN (.ref CN)=some true
 xb_CN:D6 K mg "NoTime" CN
 xCN:XTry K mg "NoTime" CN
 aCN_flight:FN K CN "flight"
 aCN_time:FN K CN "time"
 kR:Kls K mg "Rules" CR
 kP:Kls K mg "Pair" CP
 BH:∀C∈[CR,CP],Cls K C/\oq K C "gaps"
 CU:∀C∈[CP],Cls K C/\oq K C "beside"
 C9:mg "all"=none
 C8:mg "any"=none
 xU:mg "bool"=none
 fQ:mg "enumerate"=none
 xT:mg "int"=none
 dU:mg "isinstance"=none
 iK:mg "len"=none
 rB:mg "list"=none
 wo:mg "max"=none
 wm:mg "min"=none
 cM:mg "range"=none
 pO:mg "sorted"=none
 Dj:mg "sum"=none
 C7:mg "zip"=none
 fm:∃t,mg "GREATEST_GAP"=some (.int 1000000 t)
 iU:∃t,mg "MOST_KINDS"=some (.int 6 t)
 kit:Kit K
theorem sc_nCN:aC ["self","flight","time"] ["self","flight","time"] (aq zU):=⟨rfl,rfl,rfl,by decide +kernel,rfl,by decide +kernel,by decide +kernel⟩
theorem okn_CN {base:Heap} {f:Addr} (N:Fun K "__init__" "NoTime.__init__" zU f fd) (z1:FN K C "flight") (z2:FN K C "time"):cm P w K mg base CX0 1 f fd ["self","flight","time"] (spX2 C "flight" "time"):=by
 refine N.okX sc_nCN (fun vs H Q E h=>?_) (fun cdv A outer s H vs Q E hr h=>?_)
 ·obtain ⟨a,v1,v2,rfl,_⟩:=h;rfl
 ·obtain ⟨a,v1,v2,rfl,ha,q⟩:=h;refine ⟨_,tG (ps_x1 (pv 0) (pv 1) z1) (u3 (ps_x2 (pv 0) (pv 2) z2)),?_⟩
  refine ⟨v1,rfl,_,rfl,a,rfl,ha,fun d hd hne=>⟨v2,rfl,_,rfl,a,d,[("flight",v1)],rfl,ar,by rw [aw hne];exact ar,hne,(by show 1<=900;decide),?_⟩⟩
  rw [upd_mid hne];exact q d hd hne
theorem l5:aC ["_law_script","_law_k","_law_cell","_law_number"] ["_law_script","_law_k"] (aq cO):=⟨rfl,rfl,rfl,by decide +kernel,rfl,by decide +kernel,by decide +kernel⟩
theorem yJ {base:Heap} {CR:Addr} (Z:Zs K mg CR CP CN) (cQ:Def K mg "_law_draw" cO ["_law_script","_law_k"] aX aQ):cm P w K mg base CX0 1 aX aQ ["_law_script","_law_k"] (spF K false (aJ CR CP CN n) 2):=
 lT (O':=[]) cQ.fn l5 false (nh CR CP CN n) fun cdv A outer s H E hr=>
  (ae (ao (i:=2) (own:=false) l5.nd (ai 1))
  (ae (gm (cG o_gt (aH lU Z.iK PySem.boot_len (a8 (ai 0) ah)) aa)
   (av (ao (i:=2) (own:=false) l5.nd (ay bf (ai 0) (au d6 (ai 1) (aH lU Z.iK PySem.boot_len (a8 (ai 0) ah))))))
   cH)
  (ae (ao (i:=3) (own:=false) l5.nd (au d6 (au mP (aE (au dG (aE (au dG (ai 2) (au mP (au mP aa (ai 1)) (ai 1)))) (ai 1))) aa) aa))
  (av (aK (au dv (au d6 (au mP (ai 3) aa) aa) aa))))))
theorem wJ:aC ["_law_script"] ["_law_script"] (aq lb):=⟨rfl,rfl,rfl,by decide +kernel,rfl,by decide +kernel,by decide +kernel⟩
theorem x8 {base:Heap} {CR:Addr} (Z:Zs K mg CR CP CN) (aj:Yd P w K mg base CX0 1 "_law_draw" cO ["_law_script","_law_k"] (spF K false (aJ CR CP CN n) 2) aX aQ) (lH:Def K mg "_law_scale" lb ["_law_script"] jc gQ):cm P w K mg base CX0 2 jc gQ ["_law_script"] (spF K false (cx CR CP CN n) 1):=
 lT (O':=[]) lH.fn wJ false (gc CR CP CN n) fun cdv A outer s H E hr=>
  (av (aK (ay bf (aE (eN (a8 aa (a8 aa (a8 aa (a8 (au ka aa aa) ah)))))) (au d6 (ax aj.o hr aj.d.mg aj.d.fn.kp aj.d.bd (a8 (ai 0) (a8 aa ah))) aa))))
theorem g9:aC ["_law_script","_law_by","_law_kinds","_law_scale_here","_law_rows_here","_law_one","_law_row","_law_other","_law_number"] ["_law_script","_law_by","_law_kinds","_law_scale_here"] (aq mJ):=⟨rfl,rfl,rfl,by decide +kernel,rfl,by decide +kernel,by decide +kernel⟩
theorem yH {base:Heap} {CR:Addr} (Z:Zs K mg CR CP CN) (aj:Yd P w K mg base CX0 1 "_law_draw" cO ["_law_script","_law_k"] (spF K false (aJ CR CP CN n) 2) aX aQ) (o8:Def K mg "_law_gaps" mJ ["_law_script","_law_by","_law_kinds","_law_scale_here"] kE j5):cm P w K mg base CX0 2 kE j5 ["_law_script","_law_by","_law_kinds","_law_scale_here"] (spF K false (ij CR CP CN n) 4):=
 lT (O':=[]) o8.fn g9 false (rh CR CP CN n) fun cdv A outer s H E hr=>
  (ae (ao (i:=4) (own:=true) g9.nd (eN ah))
  (ae (gd (pt:=.nm 5) (gY Z.cM (a8 (ai 2) ah)) (sM g9.nd)
   (ae (ao (i:=6) (own:=true) g9.nd (eN ah))
  (bE (O2:=[4,6]) (ae (gd (pt:=.nm 7) (gY Z.cM (a8 (ai 2) ah)) (sM g9.nd)
   (ae (ao (i:=8) (own:=false) g9.nd (ax aj.o hr aj.d.mg aj.d.fn.kp aj.d.bd (a8 (ai 0) (a8 (aE (au dG (aE (au dG (ai 1) (au mP (ai 5) (ai 2)))) (ai 7))) ah))))
  (av (fW (i:=6) (aE (au dG (au mP (au d6 (ai 8) aa) (ai 3)) (au d6 (au dv (ai 8) aa) (ai 3))))))))
  (bE (O2:=[4]) (av (fW (i:=4) (ai 6))))))))
  (bE (O2:=[]) (av (aK (ai 4))))))
theorem fJ:aC ["_law_script","_law_scale_here","_law_kinds","_law_beside"] ["_law_script","_law_scale_here"] (aq gv):=⟨rfl,rfl,rfl,by decide +kernel,rfl,by decide +kernel,by decide +kernel⟩
theorem tj {base:Heap} {CR:Addr} (Z:Zs K mg CR CP CN) (eQ:Yd P w K mg base CX0 2 "_law_gaps" mJ ["_law_script","_law_by","_law_kinds","_law_scale_here"] (spF K false (ij CR CP CN n) 4) kE j5) (aj:Yd P w K mg base CX0 1 "_law_draw" cO ["_law_script","_law_k"] (spF K false (aJ CR CP CN n) 2) aX aQ) (i0:Def K mg "_law_rules_of" gv ["_law_script","_law_scale_here"] eI dA):cm P w K mg base CX0 3 eI dA ["_law_script","_law_scale_here"] (spF K false (cf CR CP CN n) 2):=
 lT (O':=[]) i0.fn fJ false (gH CR CP CN n) fun cdv A outer s H E hr=>
  (ae (ao (i:=2) (own:=false) fJ.nd (aE (au dG aa (au d6 (ax aj.o (hr.mono (by decide)) aj.d.mg aj.d.fn.kp aj.d.bd (a8 (ai 0) (a8 aa ah))) aa))))
  (ae (ao (i:=3) (own:=false) fJ.nd oj)
  (ae (gm (cG (CC hr.units) (au d6 (ax aj.o (hr.mono (by decide)) aj.d.mg aj.d.fn.kp aj.d.bd (a8 (ai 0) (a8 aa ah))) aa) aa)
   (av (ao (i:=3) (own:=false) fJ.nd (ax eQ.o hr eQ.d.mg eQ.d.fn.kp eQ.d.bd (a8 (ai 0) (a8 aa (a8 (ai 2) (a8 (ai 1) ah)))))))
   cH)
  (av (aK (da (a8 (ax eQ.o hr eQ.d.mg eQ.d.fn.kp eQ.d.bd (a8 (ai 0) (a8 aa (a8 (ai 2) (a8 (ai 1) ah))))) (a8 (ai 3) ah))))))))
theorem aW:aC ["_law_script","_law_rules","_law_most","_law_scale_here","_law_many","_law_flights_here","_law_k","_law_number","_law_first","_law_wide","_law_last","_law_due","_law_price"] ["_law_script","_law_rules","_law_most","_law_scale_here"] (aq iA):=⟨rfl,rfl,rfl,by decide +kernel,rfl,by decide +kernel,by decide +kernel⟩
theorem uc {base:Heap} {CR:Addr} (Z:Zs K mg CR CP CN) (aj:Yd P w K mg base CX0 1 "_law_draw" cO ["_law_script","_law_k"] (spF K false (aJ CR CP CN n) 2) aX aQ) (iJ:Def K mg "_law_flights" iA ["_law_script","_law_rules","_law_most","_law_scale_here"] fF eF):cm P w K mg base CX0 2 fF eF ["_law_script","_law_rules","_law_most","_law_scale_here"] (spF K false (dE CR CP CN n) 4):=
 lT (O':=[]) iJ.fn aW false (lS CR CP CN n) fun cdv A outer s H E hr=>
  (ae (ao (i:=4) (own:=false) aW.nd (au d6 (ax aj.o hr aj.d.mg aj.d.fn.kp aj.d.bd (a8 (ai 0) (a8 aa ah))) (aE (au dG (au dv (ai 2) aa) aa))))
  (ae (gm (cG (CC hr.units) (au d6 (ax aj.o hr aj.d.mg aj.d.fn.kp aj.d.bd (a8 (ai 0) (a8 aa ah))) aa) aa)
   (av (ao (i:=4) (own:=false) aW.nd (ai 2)))
   cH)
  (ae (ao (i:=5) (own:=true) aW.nd (eN ah))
  (ae (gd (pt:=.nm 6) (gY Z.cM (a8 (ai 4) ah)) (sM aW.nd)
   (ae (ao (i:=7) (own:=false) aW.nd (ax aj.o hr aj.d.mg aj.d.fn.kp aj.d.bd (a8 (ai 0) (a8 (aE (au dG aa (ai 6))) ah))))
  (ae (ao (i:=8) (own:=false) aW.nd (au d6 (au dv (ai 7) aa) (au mP (au mP aa (ai 3)) (aE (au dG (ai 6) aa)))))
  (ae (ao (i:=9) (own:=false) aW.nd (ay bf (aE (eN (a8 (au ka aa aa) (a8 (au mP (au mP aa (ai 3)) (ai 4)) (a8 (au mP (au mP aa (ai 3)) (ai 4)) (a8 (au mP aa (ai 3)) ah)))))) (au dv (au d6 (ai 7) aa) aa)))
  (ae (ao (i:=10) (own:=false) aW.nd (aH (Fx rfl) Z.wm boot_min (a8 (au ka aa aa) (a8 (aE (au dG (ai 8) (ai 9))) ah))))
  (ae (ao (i:=11) (own:=false) aW.nd (aH (Fx rfl) Z.wm boot_min (a8 (au ka aa aa) (a8 (aE (au dG (ai 8) (au d6 (au dv (ai 7) aa) (au mP aa (ai 3))))) ah))))
  (ae (ao (i:=12) (own:=false) aW.nd (ay bf (aE (eN (a8 (au d6 (au dv (ai 7) aa) aa) (a8 (au d6 (au dv (ai 7) aa) (aE (au dG (au ka aa aa) aa))) ah)))) (au d6 (au dv (ai 7) aa) aa)))
  (av (fW (i:=5) (da (a8 (au d6 (au dv (ai 7) aa) (aH lU Z.iK PySem.boot_len (a8 (ay bf (ai 1) aa) ah))) (a8 (ai 8) (a8 (ai 10) (a8 (ai 11) (a8 (ai 12) ah)))))))))))))))
  (bE (O2:=[]) (av (aK (ai 5))))))))
theorem bF:aC ["_law_cell","_law_many","_law_closed_here","_law_k","_law_start"] ["_law_cell","_law_many"] (aq dJ):=⟨rfl,rfl,rfl,by decide +kernel,rfl,by decide +kernel,by decide +kernel⟩
theorem qD {base:Heap} {CR:Addr} (Z:Zs K mg CR CP CN) (dQ:Def K mg "_law_free_closed" dJ ["_law_cell","_law_many"] cF ck):cm P w K mg base CX0 1 cF ck ["_law_cell","_law_many"] (spF K false (cy CR CP CN n) 2):=
 lT (O':=[]) dQ.fn bF false (gJ CR CP CN n) fun cdv A outer s H E hr=>
  (ae (ao (i:=2) (own:=true) bF.nd (eN ah))
  (ae (gd (pt:=.nm 3) (gY Z.cM (a8 (ai 1) ah)) (sM bF.nd)
   (ae (ao (i:=4) (own:=false) bF.nd (au d6 (ai 0) (au ka aa aa)))
  (ae (ao (i:=0) (own:=false) bF.nd (au dv (ai 0) (au ka aa aa)))
  (ae (fW (i:=2) (da (a8 (ai 4) (a8 (aE (au dG (aE (au dG (ai 4) aa)) (au d6 (ai 0) (au rJ (au ka aa aa) (ai 4))))) ah))))
  (av (ao (i:=0) (own:=false) bF.nd (au dv (ai 0) (au ka aa aa))))))))
  (bE (O2:=[]) (av (aK (ai 2))))))
theorem g8:aC ["_law_cell","_law_kinds","_law_rows_here","_law_one","_law_row","_law_other"] ["_law_cell","_law_kinds"] (aq mF):=⟨rfl,rfl,rfl,by decide +kernel,rfl,by decide +kernel,by decide +kernel⟩
theorem yC {base:Heap} {CR:Addr} (Z:Zs K mg CR CP CN) (nZ:Def K mg "_law_rows" mF ["_law_cell","_law_kinds"] kA iZ):cm P w K mg base CX0 1 kA iZ ["_law_cell","_law_kinds"] (spF K false (ic CR CP CN n) 2):=
 lT (O':=[]) nZ.fn g8 false (r9 CR CP CN n) fun cdv A outer s H E hr=>
  (ae (ao (i:=2) (own:=true) g8.nd (eN ah))
  (ae (gd (pt:=.nm 3) (gY Z.cM (a8 (ai 1) ah)) (sM g8.nd)
   (ae (ao (i:=4) (own:=true) g8.nd (eN ah))
  (bE (O2:=[2,4]) (ae (gd (pt:=.nm 5) (gY Z.cM (a8 (ai 1) ah)) (sM g8.nd)
   (ae (fW (i:=4) (au d6 (ai 0) (aE (au dG (au ka aa aa) aa))))
  (av (ao (i:=0) (own:=false) g8.nd (au dv (ai 0) (aE (au dG (au ka aa aa) aa)))))))
  (bE (O2:=[2]) (av (fW (i:=2) (ai 4))))))))
  (bE (O2:=[]) (av (aK (ai 2))))))
theorem bo:aC ["_law_cell","_law_kinds","_law_kind","_law_numbers","_law_k","_law_first"] ["_law_cell","_law_kinds"] (aq dI):=⟨rfl,rfl,rfl,by decide +kernel,rfl,by decide +kernel,by decide +kernel⟩
theorem qC {base:Heap} {CR:Addr} (Z:Zs K mg CR CP CN) (dP:Def K mg "_law_free_flight" dI ["_law_cell","_law_kinds"] cE cj):cm P w K mg base CX0 1 cE cj ["_law_cell","_law_kinds"] (spF K false (bP CR CP CN n) 2):=
 lT (O':=[]) dP.fn bo false (gI CR CP CN n) fun cdv A outer s H E hr=>
  (ae (ao (i:=2) (own:=false) bo.nd (au d6 (ai 0) (ai 1)))
  (ae (ao (i:=3) (own:=true) bo.nd (eN ah))
  (ae (ao (i:=0) (own:=false) bo.nd (au dv (ai 0) (ai 1)))
  (ae (gd (pt:=.nm 4) (gY Z.cM (a8 aa ah)) (sM bo.nd)
   (ae (fW (i:=3) (au d6 (ai 0) (aE (au dG (au ka aa aa) aa))))
  (av (ao (i:=0) (own:=false) bo.nd (au dv (ai 0) (aE (au dG (au ka aa aa) aa)))))))
  (bE (O2:=[]) (ae (ao (i:=5) (own:=false) bo.nd (ay bf (ai 3) aa))
  (av (aK (da (a8 (ai 2) (a8 (ai 5) (a8 (aE (au dG (ai 5) (au d6 (ay bf (ai 3) aa) (aE (au dG (au rJ (au ka aa aa) (ai 5)) aa))))) (a8 (ay bf (ai 3) aa) (a8 (ay bf (ai 3) aa) ah))))))))))))))
theorem bX:aC ["_law_cell","_law_many","_law_strips","_law_left","_law_pairs","_law_flight"] ["_law_cell","_law_many","_law_strips"] (aq fK):=⟨rfl,rfl,rfl,by decide +kernel,rfl,by decide +kernel,by decide +kernel⟩
theorem sx {base:Heap} {CR:Addr} (Z:Zs K mg CR CP CN) (fP:Def K mg "_law_free_plan" fK ["_law_cell","_law_many","_law_strips"] dC cW):cm P w K mg base CX0 1 dC cW ["_law_cell","_law_many","_law_strips"] (spF K false (dz CR CP CN n) 3):=
 lT (O':=[]) fP.fn bX false (jm CR CP CN n) fun cdv A outer s H E hr=>
  (ae (ao (i:=3) (own:=true) bX.nd (de_lrng1 Z.rB Z.cM (a8 (ai 1) ah)))
  (ae (ao (i:=4) (own:=true) bX.nd (eN ah))
  (bE (O2:=[3,4]) (ae (BM (m:=n) (cG o_gt (aH lU Z.iK PySem.boot_len (a8 (ai 3) ah)) aa)
   (ae (ds_pop (i:=3) (j:=5) bX.nd (au d6 (ai 0) (aH lU Z.iK PySem.boot_len (a8 (ai 3) ah))))
  (ae (xw (i:=0) (own:=false) bX.nd (au dv (ai 0) (aE (au dG (aH lU Z.iK PySem.boot_len (a8 (ai 3) ah)) aa))))
  (ae (fW (i:=4) (da (a8 (ai 5) (a8 (au d6 (ai 0) (ai 2)) ah))))
  (av (ao (i:=0) (own:=false) bX.nd (au dv (ai 0) (ai 2))))))))
  (bE (O2:=[]) (av (aK (ai 4))))))))
theorem d8:aC ["_law_script","_law_most","_law_cells","_law_kinds","_law_strips","_law_beside","_law_flights_here","_law_closed_here"] ["_law_script","_law_most"] (aq mK):=⟨rfl,rfl,rfl,by decide +kernel,rfl,by decide +kernel,by decide +kernel⟩
theorem yI {base:Heap} {CR:Addr} (Z:Zs K mg CR CP CN) (dO:Yd P w K mg base CX0 1 "_law_free_closed" dJ ["_law_cell","_law_many"] (spF K false (cy CR CP CN n) 2) cF ck) (eO:Yd P w K mg base CX0 1 "_law_rows" mF ["_law_cell","_law_kinds"] (spF K false (ic CR CP CN n) 2) kA iZ) (dN:Yd P w K mg base CX0 1 "_law_free_flight" dI ["_law_cell","_law_kinds"] (spF K false (bP CR CP CN n) 2) cE cj) (fO:Yd P w K mg base CX0 1 "_law_free_plan" fK ["_law_cell","_law_many","_law_strips"] (spF K false (dz CR CP CN n) 3) dC cW) (o9:Def K mg "_law_free" mK ["_law_script","_law_most"] kF j6):cm P w K mg base CX0 2 kF j6 ["_law_script","_law_most"] (spF K false (ik CR CP CN n) 2):=
 lT (O':=[]) o9.fn d8 false (ng CR CP CN n) fun cdv A outer s H E hr=>
  (ae (ao (i:=2) (own:=false) d8.nd (aE (au dG (aE (de_sl x_sl (ai 0) dp_none (xx aa))) (aE (de_rep (eN (a8 aa ah)) aa)))))
  (ae (ao (i:=3) (own:=false) d8.nd (aE (au dG aa (au d6 (au dv (ay bf (ai 2) aa) aa) aa))))
  (ae (ao (i:=4) (own:=false) d8.nd (aE (au dG aa (au d6 (au dv (ay bf (ai 2) aa) aa) aa))))
  (ae (ao (i:=5) (own:=false) d8.nd oj)
  (ae (gm (cG (CC hr.units) (ai 4) aa)
   (av (ao (i:=5) (own:=false) d8.nd (ax eO.o hr eO.d.mg eO.d.fn.kp eO.d.bd (a8 (ay bf (ai 2) aa) (a8 (ai 3) ah)))))
   cH)
  (ae (tO (i:=6) false ["_law_cell","_law_kinds"] [none,some 3] d8.nd (jf (aE (de_sl x_sl (ai 0) (xx aa) (xx (aE (au dG aa (ai 1))))))) (fun _ _ _ _ _=>qk (by decide +kernel)) (cP rfl) (fun _ _ _ _ _=>eK) (fun _ _ _ _ _=>(ax dN.o hr dN.d.mg dN.d.fn.kp dN.d.bd (a8 (ai 0) (a8 (ai 1) ah)))))
  (ae (ao (i:=7) (own:=false) d8.nd (ax dO.o hr dO.d.mg dO.d.fn.kp dO.d.bd (a8 (ay bf (ai 2) aa) (a8 (au d6 (au dv (ay bf (ai 2) aa) aa) aa) ah))))
  (av (aK (da (a8 (da (a8 (ax eO.o hr eO.d.mg eO.d.fn.kp eO.d.bd (a8 (ay bf (ai 2) aa) (a8 (ai 3) ah))) (a8 (ai 5) ah))) (a8 (ai 6) (a8 (ai 7) (a8 (ax fO.o hr fO.d.mg fO.d.fn.kp fO.d.bd (a8 (ay bf (ai 2) aa) (a8 (aH lU Z.iK PySem.boot_len (a8 (ai 6) ah)) (a8 (ai 4) ah)))) ah))))))))))))))
theorem cN:aC ["_law_script","_law_scale_here","_law_many","_law_closed_here","_law_k","_law_number","_law_start"] ["_law_script","_law_scale_here"] (aq jB):=⟨rfl,rfl,rfl,by decide +kernel,rfl,by decide +kernel,by decide +kernel⟩
theorem vg {base:Heap} {CR:Addr} (Z:Zs K mg CR CP CN) (aj:Yd P w K mg base CX0 1 "_law_draw" cO ["_law_script","_law_k"] (spF K false (aJ CR CP CN n) 2) aX aQ) (jQ:Def K mg "_law_closed" jB ["_law_script","_law_scale_here"] gX fy):cm P w K mg base CX0 2 gX fy ["_law_script","_law_scale_here"] (spF K false (eT CR CP CN n) 2):=
 lT (O':=[]) jQ.fn cN false (ni CR CP CN n) fun cdv A outer s H E hr=>
  (ae (ao (i:=2) (own:=false) cN.nd (au d6 (ax aj.o hr aj.d.mg aj.d.fn.kp aj.d.bd (a8 (ai 0) (a8 aa ah))) aa))
  (ae (gm (cG (CC hr.units) (au d6 (ax aj.o hr aj.d.mg aj.d.fn.kp aj.d.bd (a8 (ai 0) (a8 aa ah))) aa) aa)
   (av (ao (i:=2) (own:=false) cN.nd aa))
   cH)
  (ae (ao (i:=3) (own:=true) cN.nd (eN ah))
  (ae (gd (pt:=.nm 4) (gY Z.cM (a8 (ai 2) ah)) (sM cN.nd)
   (ae (ao (i:=5) (own:=false) cN.nd (ax aj.o hr aj.d.mg aj.d.fn.kp aj.d.bd (a8 (ai 0) (a8 (aE (au dG aa (ai 4))) ah))))
  (ae (ao (i:=6) (own:=false) cN.nd (au d6 (au dv (ai 5) aa) (au mP aa (ai 1))))
  (av (fW (i:=3) (da (a8 (ai 6) (a8 (aE (au dG (aE (au dG (ai 6) aa)) (au mP (au d6 (ai 5) aa) (ai 1)))) ah))))))))
  (bE (O2:=[]) (av (aK (ai 3))))))))
theorem d7:aC ["_law_script","_law_rules","_law_flights_here","_law_left","_law_pairs","_law_strips","_law_number","_law_at","_law_first","_law_k"] ["_law_script","_law_rules","_law_flights_here"] (aq mG):=⟨rfl,rfl,rfl,by decide +kernel,rfl,by decide +kernel,by decide +kernel⟩
theorem yD {base:Heap} {CR:Addr} (Z:Zs K mg CR CP CN) (aj:Yd P w K mg base CX0 1 "_law_draw" cO ["_law_script","_law_k"] (spF K false (aJ CR CP CN n) 2) aX aQ) (o5:Def K mg "_law_plan" mG ["_law_script","_law_rules","_law_flights_here"] kB j0):cm P w K mg base CX0 2 kB j0 ["_law_script","_law_rules","_law_flights_here"] (spF K false (ie CR CP CN n) 3):=
 lT (O':=[]) o5.fn d7 false (rg CR CP CN n) fun cdv A outer s H E hr=>
  (ae (ao (i:=3) (own:=true) d7.nd (aH BZ Z.pO boot_sorted (a8 (aE (jq ["_law_k","_law_flights_here"] [none,some 2] (gY Z.cM (a8 (aH lU Z.iK PySem.boot_len (a8 (ai 2) ah)) ah)) (fun _ _ _ _ _=>qk (by decide +kernel)) (cP rfl) (fun _ _ _ _ _=>eK) (fun _ _ _ _ _=>(da (a8 (ay bf (ay bf (ai 1) (ai 0)) aa) (a8 (ai 0) ah)))))) ah)))
  (ae (ao (i:=4) (own:=true) d7.nd (eN ah))
  (bE (O2:=[3,4]) (ae (ao (i:=5) (own:=false) d7.nd (au rJ aa (pC c_int Z.xT PyProof.Rows.boot_int (a8 (ql A9 (ay bf (ai 1) aa) oj) ah))))
  (ae (BM (m:=n) (cG o_gt (aH lU Z.iK PySem.boot_len (a8 (ai 3) ah)) aa)
   (ae (xw (i:=6) (own:=false) d7.nd (ax aj.o hr aj.d.mg aj.d.fn.kp aj.d.bd (a8 (ai 0) (a8 (aE (au dG aa (aH lU Z.iK PySem.boot_len (a8 (ai 3) ah)))) ah))))
  (ae (xw (i:=7) (own:=false) d7.nd (au mP (au d6 (au dv (ai 6) aa) (aH (Fx rfl) Z.wm boot_min (a8 (aH lU Z.iK PySem.boot_len (a8 (ai 3) ah)) (a8 aa ah)))) (pC c_int Z.xT PyProof.Rows.boot_int (a8 (ql (CC hr.units) (au d6 (ai 6) aa) aa) ah))))
  (ae (ds_popU (i:=3) (ou rfl (aT (i:=8) d7.nd (aT (i:=9) d7.nd dH))) (ai 7))
  (av (fW (i:=4) (da (a8 (ai 9) (a8 (au d6 (au dv (ai 6) aa) (ai 5)) ah)))))))))
  (bE (O2:=[]) (av (aK (ai 4)))))))))
theorem jx:aC ["_law_script","_law_most","_law_scale_here","_law_rules","_law_flights_here"] ["_law_script","_law_most"] (aq l9):=⟨rfl,rfl,rfl,by decide +kernel,rfl,by decide +kernel,by decide +kernel⟩
theorem x5 {base:Heap} {CR:Addr} (Z:Zs K mg CR CP CN) (lA:Yd P w K mg base CX0 2 "_law_scale" lb ["_law_script"] (spF K false (cx CR CP CN n) 1) jc gQ) (hZ:Yd P w K mg base CX0 3 "_law_rules_of" gv ["_law_script","_law_scale_here"] (spF K false (cf CR CP CN n) 2) eI dA) (iG:Yd P w K mg base CX0 2 "_law_flights" iA ["_law_script","_law_rules","_law_most","_law_scale_here"] (spF K false (dE CR CP CN n) 4) fF eF) (nR:Yd P w K mg base CX0 2 "_law_free" mK ["_law_script","_law_most"] (spF K false (ik CR CP CN n) 2) kF j6) (jM:Yd P w K mg base CX0 2 "_law_closed" jB ["_law_script","_law_scale_here"] (spF K false (eT CR CP CN n) 2) gX fy) (nP:Yd P w K mg base CX0 2 "_law_plan" mG ["_law_script","_law_rules","_law_flights_here"] (spF K false (ie CR CP CN n) 3) kB j0) (lF:Def K mg "_law_state" l9 ["_law_script","_law_most"] ja gN):cm P w K mg base CX0 4 ja gN ["_law_script","_law_most"] (spF K false (eh CR CP CN n) 2):=
 lT (O':=[]) lF.fn jx false (iT CR CP CN n) fun cdv A outer s H E hr=>
  (ae (gm (PW.pt (dw_and (cG o_gt (aH lU Z.iK PySem.boot_len (a8 (ai 0) ah)) aa) (Fe (cG (CC hr.units) (au d6 (ay bf (ai 0) aa) aa) aa))))
   (av (aK (ax nR.o (hr.mono (by decide)) nR.d.mg nR.d.fn.kp nR.d.bd (a8 (ai 0) (a8 (ai 1) ah)))))
   cH)
  (ae (ao (i:=2) (own:=false) jx.nd (ax lA.o (hr.mono (by decide)) lA.d.mg lA.d.fn.kp lA.d.bd (a8 (ai 0) ah)))
  (ae (ao (i:=3) (own:=false) jx.nd (ax hZ.o hr hZ.d.mg hZ.d.fn.kp hZ.d.bd (a8 (ai 0) (a8 (ai 2) ah))))
  (ae (ao (i:=4) (own:=false) jx.nd (ax iG.o (hr.mono (by decide)) iG.d.mg iG.d.fn.kp iG.d.bd (a8 (ai 0) (a8 (ai 3) (a8 (ai 1) (a8 (ai 2) ah))))))
  (av (aK (da (a8 (ai 3) (a8 (ai 4) (a8 (ax jM.o (hr.mono (by decide)) jM.d.mg jM.d.fn.kp jM.d.bd (a8 (ai 0) (a8 (ai 2) ah))) (a8 (ax nP.o (hr.mono (by decide)) nP.d.mg nP.d.fn.kp nP.d.bd (a8 (ai 0) (a8 (ai 3) (a8 (ai 4) ah)))) ah)))))))))))
theorem lJ:aC ["_law_rows_here","_law_turned_here","_law_one"] ["_law_rows_here"] (aq jA):=⟨rfl,rfl,rfl,by decide +kernel,rfl,by decide +kernel,by decide +kernel⟩
theorem vf {base:Heap} {CR:Addr} (Z:Zs K mg CR CP CN) (jP:Def K mg "_law_turned" jA ["_law_rows_here"] gW fx):cm P w K mg base CX0 1 gW fx ["_law_rows_here"] (spF K false (bS CR CP CN n) 1):=
 lT (O':=[]) jP.fn lJ false (jE CR CP CN n) fun cdv A outer s H E hr=>
  (ae (gm (cG A9 (ai 0) oj)
   (av (aK oj))
   cH)
  (ae (ao (i:=1) (own:=true) lJ.nd (eN ah))
  (ae (gd (pt:=.nm 2) (gY Z.cM (a8 (aH lU Z.iK PySem.boot_len (a8 (ai 0) ah)) ah)) (sM lJ.nd)
   (av (fW (i:=1) (aE (jq ["_law_row","_law_one"] [none,some 2] (jf (ai 0)) (fun _ _ _ _ _=>qk (by decide +kernel)) (cP rfl) (fun _ _ _ _ _=>eK) (fun _ _ _ _ _=>(ay bf (ai 0) (ai 1))))))))
  (bE (O2:=[]) (av (aK (ai 1)))))))
theorem aO:aC ["_law_state_here","_law_rules","_law_flights_here","_law_closed_here","_law_plan_here","_law_some","_law_kind","_law_first","_law_last","_law_due","_law_price","_law_back_here"] ["_law_state_here"] (aq gw):=⟨rfl,rfl,rfl,by decide +kernel,rfl,by decide +kernel,by decide +kernel⟩
theorem tm {base:Heap} {CR:Addr} (Z:Zs K mg CR CP CN) (cJ:Yd P w K mg base CX0 1 "_law_turned" jA ["_law_rows_here"] (spF K false (bS CR CP CN n) 1) gW fx) (i3:Def K mg "_law_mirrored" gw ["_law_state_here"] eJ dB):cm P w K mg base CX0 2 eJ dB ["_law_state_here"] (spF K false (cU CR CP CN n) 1):=
 lT (O':=[]) i3.fn aO false (kn CR CP CN n) fun cdv A outer s H E hr=>
  (ae (Al (ai 0) (ou rfl (aT (i:=1) aO.nd (aT (i:=2) aO.nd (aT (i:=3) aO.nd (aT (i:=4) aO.nd dH))))))
  (ae (ao (i:=5) (own:=true) aO.nd (eN ah))
  (ae (gd (pt:=.tp [6,7,8,9,10]) (jf (ai 2)) (ou rfl (aT (i:=6) aO.nd (aT (i:=7) aO.nd (aT (i:=8) aO.nd (aT (i:=9) aO.nd (aT (i:=10) aO.nd dH))))))
   (av (fW (i:=5) (da (a8 (ai 6) (a8 (au rJ (au ka aa aa) (ai 8)) (a8 (au rJ (au ka aa aa) (ai 7)) (a8 (ai 9) (a8 (ai 10) ah)))))))))
  (bE (O2:=[]) (ae (tO (i:=11) false ["_law_start","_law_stop"] [none,none] aO.nd (jf (ai 3)) (fun _ _ _ _ _=>ou rfl (cI (i:=0) (by decide +kernel) (cI (i:=1) (by decide +kernel) dH))) (kh (by decide)) (fun _ _ _ _ _=>eK) (fun _ _ _ _ _=>(da (a8 (aE (au dG (au rJ (au ka aa aa) (ai 1)) aa)) (a8 (aE (au dG (au rJ (au ka aa aa) (ai 0)) aa)) ah)))))
  (av (aK (da (a8 (da (a8 (ax cJ.o hr cJ.d.mg cJ.d.fn.kp cJ.d.bd (a8 (ay bf (ai 1) aa) ah)) (a8 (ax cJ.o hr cJ.d.mg cJ.d.fn.kp cJ.d.bd (a8 (ay bf (ai 1) aa) ah)) ah))) (a8 (ai 5) (a8 (ai 11) (a8 (aE (BP (ai 4))) ah))))))))))))
theorem zS:aC ["flights","plan"] ["flights","plan"] (aq i6):=⟨rfl,rfl,rfl,by decide +kernel,rfl,by decide +kernel,by decide +kernel⟩
theorem A6 {base:Heap} {CR:Addr} (Z:Zs K mg CR CP CN) (ir:Def K mg "spots_of" i6 ["flights","plan"] cY cg):cm P w K mg base CX0 1 cY cg ["flights","plan"] (spF K false (cS CR CP CN n) 2):=
 lT (O':=[]) ir.fn zS false (sG CR CP CN n) fun cdv A outer s H E hr=>
  (av (aK (aE (jq ["flight","strip","flights"] [none,none,some 0] (jf (ai 1)) (fun _ _ _ _ _=>ou rfl (cI (i:=0) (by decide +kernel) (cI (i:=1) (by decide +kernel) dH))) (kh (by decide)) (fun _ _ _ _ _=>eK) (fun _ _ _ _ _=>(da (a8 (ay bf (ay bf (ai 2) (ai 0)) aa) (a8 (ai 1) ah))))))))
theorem dh:aC ["closed","joined","start","stop"] ["closed"] (aq cv):=⟨rfl,rfl,rfl,by decide +kernel,rfl,by decide +kernel,by decide +kernel⟩
theorem qB {base:Heap} {CR:Addr} (Z:Zs K mg CR CP CN) (cL:Def K mg "joined_stretches" cv ["closed"] bA bp):cm P w K mg base CX0 1 bA bp ["closed"] (spF K false (bw CR CP CN n) 1):=
 lT (O':=[]) cL.fn dh false (gG CR CP CN n) fun cdv A outer s H E hr=>
  (ae (ao (i:=1) (own:=true) dh.nd (eN ah))
  (ae (gd (pt:=.tp [2,3]) (jf (aE (aH BZ Z.pO boot_sorted (a8 (ai 0) ah)))) (ou rfl (aT (i:=2) dh.nd (aT (i:=3) dh.nd dH)))
   (av (gm (PW.pt (dw_and (t5 (ai 1)) (Fe (cG Br (ai 2) (ay bf (ay bf (ai 1) (Ap A8 aa)) aa)))))
   (av (Am (i:=1) (da (a8 (ay bf (ay bf (ai 1) (Ap A8 aa)) aa) (a8 (aH (Fy rfl) Z.wo boot_max (a8 (ai 3) (a8 (ay bf (ay bf (ai 1) (Ap A8 aa)) aa) ah))) ah))) (Ap A8 aa)))
   (av (fW (i:=1) (da (a8 (ai 2) (a8 (ai 3) ah))))))))
  (bE (O2:=[]) (av (aK (ai 1))))))
theorem oB:aC ["closed","time","start","stop"] ["closed","time"] (aq mC):=⟨rfl,rfl,rfl,by decide +kernel,rfl,by decide +kernel,by decide +kernel⟩
theorem yx {base:Heap} {CR:Addr} (Z:Zs K mg CR CP CN) (aU:Yd P w K mg base CX0 1 "joined_stretches" cv ["closed"] (spF K false (bw CR CP CN n) 1) bA bp) (nW:Def K mg "next_open" mC ["closed","time"] kr iW):cm P w K mg base CX0 2 kr iW ["closed","time"] (spF K false (ia CR CP CN n) 2):=
 lT (O':=[]) nW.fn oB false (n5 CR CP CN n) fun cdv A outer s H E hr=>
  (ae (gd (pt:=.tp [2,3]) (jf (ax aU.o hr aU.d.mg aU.d.fn.kp aU.d.bd (a8 (ai 0) ah))) (ou rfl (aT (i:=2) oB.nd (aT (i:=3) oB.nd dH)))
   (av (gm (tM Br o_lt (ai 2) (ai 1) (ai 3))
   (av (aK (ai 3)))
   cH)))
  (av (aK (ai 1))))
theorem v9:aC ["self","one","other"] ["self","one","other"] (aq cw):=⟨rfl,rfl,rfl,by decide +kernel,rfl,by decide +kernel,by decide +kernel⟩
theorem vh {base:Heap} {CR:Addr} (Z:Zs K mg CR CP CN) (jR:Mth K CR "apart" "Rules.apart" cw ["self","one","other"] aZ bU):cm P w K mg base CX0 1 aZ bU ["self","one","other"] (spF K false (bx CR CP CN n) 3):=
 lT (O':=[]) jR.fn v9 false (nj CR CP CN n) fun cdv A outer s H E hr=>
  (av (aK (ay bf (ay bf (Fh (Cs:=[CR,CP]) Z.BH (ai 0)) (ay bf (ai 1) aa)) (ay bf (ai 2) aa))))
theorem rE:aC ["self","one","other","rows"] ["self","one","other"] (aq d9):=⟨rfl,rfl,rfl,by decide +kernel,rfl,by decide +kernel,by decide +kernel⟩
theorem x9 {base:Heap} {CR:Addr} (Z:Zs K mg CR CP CN) (lI:Mth K CP "apart" "Pair.apart" d9 ["self","one","other"] bu cD):cm P w K mg base CX0 1 bu cD ["self","one","other"] (spF K false (bC CR CP CN n) 3):=
 lT (O':=[]) lI.fn rE false (lj CR CP CN n) fun cdv A outer s H E hr=>
  (ae (ao (i:=3) (own:=false) rE.nd (de_ite (cG (CC hr.units) (ay bf (ai 1) aa) (ay bf (ai 2) aa)) (Fh (Cs:=[CR,CP]) Z.BH (ai 0)) (Fh (Cs:=[CP]) Z.CU (ai 0))))
  (av (aK (ay bf (ay bf (ai 3) (ay bf (ai 1) aa)) (ay bf (ai 2) aa)))))
theorem yn:aC ["rules","spots","times","place"] ["rules","spots","times","place"] (aq i7):=⟨rfl,rfl,rfl,by decide +kernel,rfl,by decide +kernel,by decide +kernel⟩
theorem yB {base:Heap} {CR:Addr} (Z:Zs K mg CR CP CN) (ji:Mth K CR "apart" "Rules.apart" cw ["self","one","other"] aZ bU) (dF:cm P w K mg base CX0 1 aZ bU ["self","one","other"] (spF K false (bx CR CP CN n) 3)) (jj:Mth K CP "apart" "Pair.apart" d9 ["self","one","other"] bu cD) (eU:cm P w K mg base CX0 1 bu cD ["self","one","other"] (spF K false (bC CR CP CN n) 3)) (iu:Def K mg "gap_times" i7 ["rules","spots","times","place"] dk cA):cm P w K mg base CX0 2 dk cA ["rules","spots","times","place"] (spF K false (di CR CP CN n) 4):=
 lT (O':=[]) iu.fn yn false (qZ CR CP CN n) fun cdv A outer s H E hr=>
  (av (aK (aE (jq ["ahead","rules","spots","times","place"] [none,some 0,some 1,some 2,some 3] (gY Z.cM (a8 (ai 3) ah)) (fun _ _ _ _ _=>qk (by decide +kernel)) (cP rfl) (fun _ _ _ _ _=>eK) (fun _ _ _ _ _=>(aE (au dG (ay bf (ai 3) (ai 0)) (BR Z.kR.cl ji.mt dF hr ji.bd Z.kP.cl jj.mt eU hr jj.bd (ai 1) (a8 (ay bf (ai 2) (ai 0)) (a8 (ay bf (ai 2) (ai 4)) ah))))))))))
theorem fS:aC ["rules","flights","closed","plan","spots","times","place","entry","flight","time"] ["rules","flights","closed","plan"] (aq gb):=⟨rfl,rfl,rfl,by decide +kernel,rfl,by decide +kernel,by decide +kernel⟩
theorem A5 {base:Heap} {CR:Addr} (Z:Zs K mg CR CP CN) (b8:Yd P w K mg base CX0 1 "spots_of" i6 ["flights","plan"] (spF K false (cS CR CP CN n) 2) cY cg) (nL:Yd P w K mg base CX0 2 "next_open" mC ["closed","time"] (spF K false (ia CR CP CN n) 2) kr iW) (bB:Yd P w K mg base CX0 2 "gap_times" i7 ["rules","spots","times","place"] (spF K false (di CR CP CN n) 4) dk cA) {fd_nCN:FuncData} (N_CN:Mth K CN "__init__" "NoTime.__init__" zU ["self","flight","time"] vm fd_nCN) (XCN:XMk K mg "NoTime" CN vm) (FQ:cm P w K mg base CX0 1 vm fd_nCN ["self","flight","time"] (spX2 CN "flight" "time")) (gk:Def K mg "times_of" gb ["rules","flights","closed","plan"] bZ bG):cm P w K mg base (CXd P w) 3 bZ bG ["rules","flights","closed","plan"] (spX K true (br CR CP CN n) 4):=
 fn_X (O':=[]) gk.fn fS true (pX CR CP CN n) fun cdv A outer s H E hr=>
  (ae (tN (ao (i:=4) (own:=false) fS.nd (ax b8.o (hr.mono (by decide)) b8.d.mg b8.d.fn.kp b8.d.bd (a8 (ai 1) (a8 (ai 3) ah)))))
  (ae (tN (ao (i:=5) (own:=true) fS.nd (eN ah)))
  (ae (gd (pt:=.tp [6,7]) (An Z.fQ (ai 3)) (ou rfl (aT (i:=6) fS.nd (aT (i:=7) fS.nd dH)))
   (ae (tN (ao (i:=8) (own:=false) fS.nd (ay bf (ai 1) (ay bf (ai 7) aa))))
  (ae (tN (xw (i:=9) (own:=false) fS.nd (ax nL.o hr nL.d.mg nL.d.fn.kp nL.d.bd (a8 (ai 2) (a8 (aH (Fy rfl) Z.wo boot_max (a8 (aE (au dG (aE (eN (a8 (ay bf (ai 8) aa) ah))) (ax bB.o hr bB.d.mg bB.d.fn.kp bB.d.bd (a8 (ai 0) (a8 (ai 4) (a8 (ai 5) (a8 (ai 6) ah))))))) ah)) ah)))))
  (ae (gm (cG o_gt (ai 9) (ay bf (ai 8) aa))
   (bE (O2:=[]) (av (Ff PySem.F.excBase_ValueError xeqD2 XCN.ex XCN.fn XCN.kp FQ (hr.mono (by decide)) N_CN.bd XCN.mg (a8 (ay bf (ai 7) aa) (a8 (ai 9) ah)))))
   cH)
  (xv (av (fW (i:=5) (ai 9))))))) (hp:=PassesOwn.leaving))
  (xv (av (ds_retV (i:=5)))))))
theorem iL:aC ["closed","time","found","start","stop"] ["closed","time"] (aq mE):=⟨rfl,rfl,rfl,by decide +kernel,rfl,by decide +kernel,by decide +kernel⟩
theorem yA {base:Heap} {CR:Addr} (Z:Zs K mg CR CP CN) (aU:Yd P w K mg base CX0 1 "joined_stretches" cv ["closed"] (spF K false (bw CR CP CN n) 1) bA bp) (nY:Def K mg "last_open" mE ["closed","time"] kx iY):cm P w K mg base CX0 2 kx iY ["closed","time"] (spF K false (kf CR CP CN n) 2):=
 lT (O':=[]) nY.fn iL false (qY CR CP CN n) fun cdv A outer s H E hr=>
  (ae (ao (i:=2) (own:=false) iL.nd (ai 1))
  (ae (gd (pt:=.tp [3,4]) (jf (ax aU.o hr aU.d.mg aU.d.fn.kp aU.d.bd (a8 (ai 0) ah))) (ou rfl (aT (i:=3) iL.nd (aT (i:=4) iL.nd dH)))
   (av (gm (tM Br o_lt (ai 3) (ai 1) (ai 4))
   (av (ao (i:=2) (own:=false) iL.nd (au rJ (ai 3) aa)))
   cH)))
  (av (aK (de_ite (cG o_ge (ai 2) aa) (ai 2) oj)))))
theorem fZ:aC ["rules","flights","closed","plan","times","spots","many","place","behind"] ["rules","flights","closed","plan"] (aq jT):=⟨rfl,rfl,rfl,by decide +kernel,rfl,by decide +kernel,by decide +kernel⟩
theorem yy {base:Heap} {CR:Addr} (Z:Zs K mg CR CP CN) (aG:Yd P w K mg base (CXd P w) 3 "times_of" gb ["rules","flights","closed","plan"] (spX K true (br CR CP CN n) 4) bZ bG) (b8:Yd P w K mg base CX0 1 "spots_of" i6 ["flights","plan"] (spF K false (cS CR CP CN n) 2) cY cg) (nO:Yd P w K mg base CX0 2 "last_open" mE ["closed","time"] (spF K false (kf CR CP CN n) 2) kx iY) (ji:Mth K CR "apart" "Rules.apart" cw ["self","one","other"] aZ bU) (dF:cm P w K mg base CX0 1 aZ bU ["self","one","other"] (spF K false (bx CR CP CN n) 3)) (jj:Mth K CP "apart" "Pair.apart" d9 ["self","one","other"] bu cD) (eU:cm P w K mg base CX0 1 bu cD ["self","one","other"] (spF K false (bC CR CP CN n) 3)) (kO:Def K mg "latest_of" jT ["rules","flights","closed","plan"] fU eC):cm P w K mg base (CXd P w) 4 fU eC ["rules","flights","closed","plan"] (spX K false (e8 CR CP CN n) 4):=
 fn_X (O':=[]) kO.fn fZ false (qW CR CP CN n) fun cdv A outer s H E hr=>
  (ae (ao (i:=4) (own:=true) fZ.nd (xB aG.o passD hr aG.d.mg aG.d.fn.kp aG.d.bd (a8 (ai 0) (a8 (ai 1) (a8 (ai 2) (a8 (ai 3) ah))))))
  (xv (ae (ao (i:=5) (own:=false) fZ.nd (ax b8.o (hr.mono (by decide)) b8.d.mg b8.d.fn.kp b8.d.bd (a8 (ai 1) (a8 (ai 3) ah))))
  (ae (ao (i:=6) (own:=false) fZ.nd (aH lU Z.iK PySem.boot_len (a8 (ai 3) ah)))
  (ae (gd (pt:=.nm 7) (di_rng3 Z.cM (a8 (au rJ (ai 6) aa) (a8 (Ap A8 aa) (a8 (Ap A8 aa) ah)))) (sM fZ.nd)
   (ae (ds_compA (i:=8) true ["later","rules","times","spots","place"] [none,some 0,some 4,some 5,some 7] fZ.nd (di_rng2 Z.cM (a8 (aE (au dG (ai 7) aa)) (a8 (ai 6) ah))) (fun _ _ _ _ _=>qk (by decide +kernel)) (cP rfl) (fun _ _ _ _ _=>eK) (fun _ _ _ _ _=>(au rJ (ay bf (ai 2) (ai 0)) (BR Z.kR.cl ji.mt dF (hr.mono (by decide)) ji.bd Z.kP.cl jj.mt eU (hr.mono (by decide)) jj.bd (ai 1) (a8 (ay bf (ai 3) (ai 4)) (a8 (ay bf (ai 3) (ai 0)) ah))))))
  (bE (O2:=[4]) (av (Am (i:=4) (ax nO.o (hr.mono (by decide)) nO.d.mg nO.d.fn.kp nO.d.bd (a8 (ai 2) (a8 (aH (Fx rfl) Z.wm boot_min (a8 (aE (au dG (aE (eN (a8 (ay bf (ay bf (ai 1) (ay bf (ay bf (ai 3) (ai 7)) aa)) aa) ah))) (ai 8))) ah)) ah))) (ai 7))))))
  (bE (O2:=[]) (av (aK (ai 4)))))))))
theorem vF:aC ["rules","flights","closed","plan","earliest"] ["rules","flights","closed","plan"] (aq oH):=⟨rfl,rfl,rfl,by decide +kernel,rfl,by decide +kernel,by decide +kernel⟩
theorem CA {base:Heap} {CR:Addr} (Z:Zs K mg CR CP CN) (aG:Yd P w K mg base (CXd P w) 3 "times_of" gb ["rules","flights","closed","plan"] (spX K true (br CR CP CN n) 4) bZ bG) (bH:Yd P w K mg base (CXd P w) 4 "latest_of" jT ["rules","flights","closed","plan"] (spX K false (e8 CR CP CN n) 4) fU eC) (pN:Def K mg "free_of" oH ["rules","flights","closed","plan"] kz ip):cm P w K mg base (CXd P w) 5 kz ip ["rules","flights","closed","plan"] (spX K false (cT CR CP CN n) 4):=
 fn_X (O':=[]) pN.fn vF false (rP CR CP CN n) fun cdv A outer s H E hr=>
  (ae (ao (i:=4) (own:=false) vF.nd (aE (xB aG.o passD (hr.mono (by decide)) aG.d.mg aG.d.fn.kp aG.d.bd (a8 (ai 0) (a8 (ai 1) (a8 (ai 2) (a8 (ai 3) ah)))))))
  (av (aK (aE (de_lzip Z.rB Z.C7 (ai 4) (xB bH.o passD hr bH.d.mg bH.d.fn.kp bH.d.bd (a8 (ai 0) (a8 (ai 1) (a8 (ai 2) (a8 (ai 3) ah))))))))))
theorem v8:aC ["rows"] ["rows"] (aq jz):=⟨rfl,rfl,rfl,by decide +kernel,rfl,by decide +kernel,by decide +kernel⟩
theorem ve {base:Heap} {CR:Addr} (Z:Zs K mg CR CP CN) (jO:Def K mg "copied_rows" jz ["rows"] gU fw):cm P w K mg base CX0 1 gU fw ["rows"] (spF K false (gC CR CP CN n) 1):=
 lT (O':=[]) jO.fn v8 false (n8 CR CP CN n) fun cdv A outer s H E hr=>
  (av (aK (aE (jq ["row"] [none] (jf (ai 0)) (fun _ _ _ _ _=>qk (by decide +kernel)) (cP rfl) (fun _ _ _ _ _=>eK) (fun _ _ _ _ _=>(aE (pC c_list Z.rB PyProof.Rows.boot_list (a8 (ai 0) ah))))))))
theorem DH:aC ["number"] ["number"] (aq tE):=⟨rfl,rfl,rfl,by decide +kernel,rfl,by decide +kernel,by decide +kernel⟩
theorem Ei {base:Heap} {CR:Addr} (Z:Zs K mg CR CP CN) (tU:Def K mg "is_gap" tE ["number"] rR pz):cm P w K mg base CX0 1 rR pz ["number"] (spF K false (mS CR CP CN n) 1):=
 lT (O':=[]) tU.fn DH false (xo CR CP CN n) fun cdv A outer s H E hr=>
  (ae (gm (PW.pt (Fd (uK (t5 (CZ Z.kit Z.dU Z.xT (ai 0)))) (za (t5 (Ar Z.kit Z.dU Z.xU (ai 0))))))
   (av (aK rS))
   cH)
  (av (aK (tQ Br Br aa (ai 0) (Fg Z.fm)))))
theorem wI:aC ["row","kinds"] ["row","kinds"] (aq l8):=⟨rfl,rfl,rfl,by decide +kernel,rfl,by decide +kernel,by decide +kernel⟩
theorem wZ {base:Heap} {CR:Addr} (Z:Zs K mg CR CP CN) (tR:Yd P w K mg base CX0 1 "is_gap" tE ["number"] (spF K false (mS CR CP CN n) 1) rR pz) (lE:Def K mg "is_gap_row" l8 ["row","kinds"] j9 gM):cm P w K mg base CX0 2 j9 gM ["row","kinds"] (spF K false (ee CR CP CN n) 2):=
 lT (O':=[]) lE.fn wI false (pk CR CP CN n) fun cdv A outer s H E hr=>
  (av (aK (zc (Aq Z.kit Z.dU Z.rB (ai 0)) (zc (ql (CC hr.units) (aH lU Z.iK PySem.boot_len (a8 (ai 0) ah)) (ai 1)) (BQ (aH (c_all rfl) Z.C9 boot_all (a8 (aE (jq ["number"] [none] (jf (ai 0)) (fun _ _ _ _ _=>qk (by decide +kernel)) (cP rfl) (fun _ _ _ _ _=>eK) (fun _ _ _ _ _=>(ax tR.o hr tR.d.mg tR.d.fn.kp tR.d.bd (a8 (ai 0) ah))))) ah)))))))
theorem oF:aC ["rows","kinds"] ["rows"] (aq eZ):=⟨rfl,rfl,rfl,by decide +kernel,rfl,by decide +kernel,by decide +kernel⟩
theorem u9 {base:Heap} {CR:Addr} (Z:Zs K mg CR CP CN) (jL:Yd P w K mg base CX0 1 "copied_rows" jz ["rows"] (spF K false (gC CR CP CN n) 1) gU fw) (lr:Yd P w K mg base CX0 2 "is_gap_row" l8 ["row","kinds"] (spF K false (ee CR CP CN n) 2) j9 gM) (aP:Def K mg "checked_rows" eZ ["rows"] bK bz):cm P w K mg base CX0 3 bK bz ["rows"] (spF K false (aL CR CP CN n) 1):=
 lT (O':=[]) aP.fn oF false (lR CR CP CN n) fun cdv A outer s H E hr=>
  (ae (ao (i:=1) (own:=false) oF.nd (aH lU Z.iK PySem.boot_len (a8 (ai 0) ah)))
  (ae (gm (uK (tM Br Br aa (ai 1) (Fg Z.iU)))
   (av BN)
   cH)
  (ae (gm (uK (t5 (aH (c_all rfl) Z.C9 boot_all (a8 (aE (jq ["row","kinds"] [none,some 1] (jf (ai 0)) (fun _ _ _ _ _=>qk (by decide +kernel)) (cP rfl) (fun _ _ _ _ _=>eK) (fun _ _ _ _ _=>(ax lr.o hr lr.d.mg lr.d.fn.kp lr.d.bd (a8 (ai 0) (a8 (ai 1) ah)))))) ah))))
   (av BN)
   cH)
  (av (aK (ax jL.o (hr.mono (by decide)) jL.d.mg jL.d.fn.kp jL.d.bd (a8 (ai 0) ah)))))))
theorem sc_nR:aC ["self","gaps"] ["self","gaps"] (aq s_nR):=⟨rfl,rfl,rfl,by decide +kernel,rfl,by decide +kernel,by decide +kernel⟩
theorem okn_R {base:Heap} {CR:Addr} {f:Addr} (aP:Def K mg "checked_rows" eZ ["rows"] bK bz) (OK:cm P w K mg base CX0 3 bK bz ["rows"] (spF K false (aL CR CP CN n) 1))
  (N:Fun K "__init__" "Rules.__init__" s_nR f fd) (cl:Cls K C) (na:oq K C "gaps"):cm P w K mg base CX0 4 f fd ["self","gaps"] (spI1 K C (aL CR CP CN n)):=by
 refine N.okX sc_nR (fun vs H Q E h=>?_) (fun cdv A outer s H vs Q E hr h=>?_)
 ·obtain ⟨p,dx,v,F,d,rfl,_⟩:=h;rfl
 ·obtain ⟨p,dx,v,F,d,rfl,hp,hF,s1,qd,q⟩:=h;refine ⟨_,u3 (ps_fld (pv 0) (u5 OK hr (by rfl) aP.mg aP.fn.kp aP.bd .nil A4 (bj (pv 1) fg)) rfl),?_⟩
  refine ⟨v,rfl,F,[d],s1,⟨v,[],rfl,qd,rfl⟩,rfl,?_⟩
  skip;cases hg:aL CR CP CN n [d] with
  |error e=>rw [hg] at q;exact q
  |ok r=>
   rw [hg] at q;intro u F' H' st qw;have hF1:F' p=none:=by
    cases hz:F' p with
    |none=>rfl
    |some o=>
     rcases st.nw p o hz with z|z
     ·rw [hF] at z;cases z
     ·rw [hp] at z;cases z
   refine ⟨_,rfl,p,C,dx,[],rfl,st.hh _ _ hp,cl,na,(by show 0<1000;decide),?_⟩
   refine q u F' _ st.ff (fun c o e=>?_) hF1 st.nw (fun c o e hc=>by rw [aw hc];exact st.hh _ _ e) ar qw;have hc:c≠p:=fun z=>by rw [z,hF1] at e;cases e
   rw [aw hc];exact st.fh _ _ e
theorem putGB (a b:V):vb ("beside":Str) b [(("gaps":Str),a)]=[(("gaps":Str),a),(("beside":Str),b)]:=by
 show (if ("gaps":Str)="beside" then _ else (("gaps":Str),a)::vb "beside" b [])=_;rw [if_neg (by decide +kernel)];rfl
theorem sc_nP:aC ["self","gaps","beside"] ["self","gaps","beside"] (aq s_nP):=⟨rfl,rfl,rfl,by decide +kernel,rfl,by decide +kernel,by decide +kernel⟩
theorem okn_P {base:Heap} {CR:Addr} {f fR:Addr} {fdR:FuncData} {mc:Value} (aP:Def K mg "checked_rows" eZ ["rows"] bK bz) (OK:cm P w K mg base CX0 3 bK bz ["rows"] (spF K false (aL CR CP CN n) 1))
  (S:Stat K CR mc "__init__" fR) (bI:Binds K fdR ["self","gaps"] []) (FI:cm P w K mg base CX0 4 fR fdR ["self","gaps"] (spI1 K CP (aL CR CP CN n))) (mR:mg "Rules"=some (.ref CR)) (zl:mg "len"=none)
  (N:Fun K "__init__" "Pair.__init__" s_nP f fd) (cl:Cls K CP) (na:oq K CP "gaps") (nb:oq K CP "beside"):cm P w K mg base CX0 5 f fd ["self","gaps","beside"] (spI2 K CP (aL CR CP CN n)):=by
 refine N.okX sc_nP (fun vs H Q E h=>?_) (fun cdv A outer s H vs Q E hr h=>?_)
 ·obtain ⟨p,dx,v,v2,F,d,d2,rfl,_⟩:=h;rfl
 ·obtain ⟨p,dx,v,v2,F,d,d2,rfl,hp,hF,s1,qd,qd2,q⟩:=h;refine ⟨_,tG (E1 (pe_cmeth S (by rfl) mR FI hr bI .nil A4 (bj (pv 0) (bj (pv 1) fg))))
   (tG (ps_fld (pv 0) (u5 OK (hr.mono (by decide)) (by rfl) aP.mg aP.fn.kp aP.bd .nil A4 (bj (pv 2) fg)) rfl)
   (u3 (ps_if (DV op_ne (gA pE (by rfl) zl PySem.boot_len (bj (Ed (pv 0) rfl) fg)) (gA pE (by rfl) zl PySem.boot_len (bj (Ed (pv 0) rfl) fg)) (En _)) DY DX))),?_⟩
  refine ⟨_,rfl,_,rfl,p,dx,v,F,d,rfl,hp,hF,s1,qd,?_⟩
  cases hg:aL CR CP CN n [d] with
  |error e=>rw [hg] at q;exact q
  |ok r=>
   rw [hg,az] at q;intro u F1 H1 a1 a2 a3 a4 a5 a6 a7;refine ⟨v2,rfl,F1,[d2],a2,⟨v2,[],rfl,bQ.mono a1 qd2,rfl⟩,rfl,?_⟩
   skip;cases hg2:aL CR CP CN n [d2] with
   |error e=>rw [hg2] at q;exact False.elim q
   |ok r2=>
    rw [hg2,az] at q;intro u2 F2 H2 st qw;by_cases ht:twoL r r2=true
    ·rw [if_pos ht] at q;have hF2:F2 p=none:=by
      cases hz:F2 p with
      |none=>rfl
      |some o=>
       rcases st.nw p o hz with z|z
       ·rw [a3] at z;cases z
       ·rw [a6] at z;cases z
     refine ⟨_,rfl,p,CP,dx,_,rfl,st.hh _ _ a6,cl,nb,(by show 1<1000;decide),?_⟩
     rw [putGB];have s3:b9 F2 (upd H2 p (.ins CP dx [("gaps",u),("beside",u2)])):=fun c o e=>by
      have hc:c≠p:=fun z=>by rw [z,hF2] at e;cases e
      rw [aw hc];exact st.fh _ _ e
     cases r with
     |lst xs=>
      cases r2 with
      |lst ys=>
       have hl:xs.length=ys.length:=of_decide_eq_true ht;obtain ⟨g1,xs1,e1,t1,z1⟩:=bQ.mono st.ff a7;obtain ⟨g2,xs2,e2,t2,z2⟩:=id qw;refine ⟨_,rfl,p,CP,dx,_,_,rfl,ar,cl,nb,rfl,g2,_,by rw [e2],.inl (s3.lst t2),_,rfl,p,CP,dx,_,_,rfl,ar,cl,na,rfl,g1,_,by rw [e1],.inl (s3.lst t1),rfl,_,rfl,?_⟩
       refine iteNS (by rw [z1.length,z2.length,hl]) ?_;refine q u u2 F2 _ (a1.trans st.ff) s3 hF2 (fun b o e=>?_) (fun c o e hc=>by rw [aw hc];exact st.hh _ _ (a5 c o e hc)) ar (bQ.mono st.ff a7) qw;rcases st.nw b o e with z|z
       ·exact a4 b o z
       ·refine .inr ?_;cases hz:H b with
        |none=>rfl
        |some o'=>
         by_cases hb:b=p
         ·subst hb;rw [hF2] at e;cases e
         ·rw [a5 b o' hz hb] at z;cases z
      |_=>cases ht
     |_=>cases ht
    ·rw [if_neg ht] at q;exact False.elim q
theorem yo:aC ["_law_rules"] ["_law_rules"] (aq i8):=⟨rfl,rfl,rfl,by decide +kernel,rfl,by decide +kernel,by decide +kernel⟩
theorem yF {base:Heap} {CR:Addr} (Z:Zs K mg CR CP CN) {fd_nP:FuncData} (N_P:Mth K CP "__init__" "Pair.__init__" s_nP ["self","gaps","beside"] f_nP fd_nP) (OKN_P:cm P w K mg base CX0 5 f_nP fd_nP ["self","gaps","beside"] (spI2 K CP (aL CR CP CN n))) {fd_nR:FuncData} (N_R:Mth K CR "__init__" "Rules.__init__" s_nR ["self","gaps"] f_nR fd_nR) (OKN_R:cm P w K mg base CX0 4 f_nR fd_nR ["self","gaps"] (spI1 K CR (aL CR CP CN n))) (iw:Def K mg "_law_made" i8 ["_law_rules"] dn cC):cm P w K mg base CX0 7 dn cC ["_law_rules"] (spF K false (ba CR CP CN n) 1):=
 lT (O':=[]) iw.fn yo false (n9 CR CP CN n) fun cdv A outer s H E hr=>
  (ae (gm (cG A9 (ay bf (ai 0) aa) oj)
   (av (aK (de_newR ⟨Z.kR.mks,N_R.mt.at_,N_R.mt.fn,Z.kR.kp⟩ OKN_R (hr.mono (by decide)) Z.kR.mg N_R.bd (a8 (ay bf (ai 0) aa) ah))))
   cH)
  (av (aK (de_newP ⟨Z.kP.mks,N_P.mt.at_,N_P.mt.fn,Z.kP.kp⟩ OKN_P hr Z.kP.mg N_P.bd (a8 (ay bf (ai 0) aa) (a8 (ay bf (ai 0) aa) ah))))))
theorem gu:aC ["_law_state_here","_law_told"] ["_law_state_here"] (aq iz):=⟨rfl,rfl,rfl,by decide +kernel,rfl,by decide +kernel,by decide +kernel⟩
theorem ua {base:Heap} {CR:Addr} (Z:Zs K mg CR CP CN) (hX:Yd P w K mg base (CXd P w) 5 "free_of" oH ["rules","flights","closed","plan"] (spX K false (cT CR CP CN n) 4) kz ip) (aN:Yd P w K mg base CX0 7 "_law_made" i8 ["_law_rules"] (spF K false (ba CR CP CN n) 1) dn cC) (iI:Def K mg "_law_windows" iz ["_law_state_here"] fE eE):cm P w K mg base CX0 8 fE eE ["_law_state_here"] (spF K false (bT CR CP CN n) 1):=
 lT (O':=[]) iI.fn gu false (iB CR CP CN n) fun cdv A outer s H E hr=>
  (ae (ao (i:=1) (own:=false) gu.nd oj)
  (ae (ds_bare (j:=1) (fun pins σ E xe hp=>(dsa_set (own:=false) gu.nd (dea_call hX.o hp (hr.mono (by decide)) hX.d.mg hX.d.fn.kp hX.d.bd (a8 (de_lift (ax aN.o hr aN.d.mg aN.d.fn.kp aN.d.bd (a8 (ay bf (ai 0) aa) ah))) (a8 (ay bf (ai 0) aa) (a8 (ay bf (ai 0) aa) (a8 (ay bf (ai 0) aa) ah))))))) (fun a oe=>u3 (Bk gu.nd rfl (.inl rfl) pe_non)) Z.xb_CN Z.ks_CN)
  (av (aK (ai 1)))))
theorem yp:aC ["_law_times"] ["_law_times"] (aq jU):=⟨rfl,rfl,rfl,by decide +kernel,rfl,by decide +kernel,by decide +kernel⟩
theorem yK {base:Heap} {CR:Addr} (Z:Zs K mg CR CP CN) (kQ:Def K mg "_law_back" jU ["_law_times"] fV eG):cm P w K mg base CX0 1 fV eG ["_law_times"] (spF K false (eB CR CP CN n) 1):=
 lT (O':=[]) kQ.fn yp false (rj CR CP CN n) fun cdv A outer s H E hr=>
  (av (aK (aE (jq ["_law_time"] [none] (jf (aE (BP (ai 0)))) (fun _ _ _ _ _=>qk (by decide +kernel)) (cP rfl) (fun _ _ _ _ _=>eK) (fun _ _ _ _ _=>(au rJ (au ka aa aa) (ai 0)))))))
theorem vE:aC ["flight","closed","gaps","time","stops"] ["flight","closed","gaps","time"] (aq rF):=⟨rfl,rfl,rfl,by decide +kernel,rfl,by decide +kernel,by decide +kernel⟩
theorem Cy {base:Heap} {CR:Addr} (Z:Zs K mg CR CP CN) (sh:Def K mg "push_of" rF ["flight","closed","gaps","time"] pA ml):cm P w K mg base CX0 1 pA ml ["flight","closed","gaps","time"] (spF K false (ke CR CP CN n) 4):=
 lT (O':=[]) sh.fn vE false (pj CR CP CN n) fun cdv A outer s H E hr=>
  (ae (gm (cG (CC hr.units) (ai 3) (ay bf (ai 0) aa))
   (av (aK (da (a8 BO ah))))
   cH)
  (ae (gm (cG (o_in hr.units) (ai 3) (ai 2))
   (av (aK (da (a8 BO (a8 (BS hr.units (ai 2) (ai 3)) ah)))))
   cH)
  (ae (tO (i:=4) false ["start","stop"] [none,none] vE.nd (jf (ai 1)) (fun _ _ _ _ _=>ou rfl (cI (i:=0) (by decide +kernel) (cI (i:=1) (by decide +kernel) dH))) (kh (by decide)) (fun _ _ _ _ _=>eK) (fun _ _ _ _ _=>(ai 1)))
  (av (aK (da (a8 BO (a8 (BS hr.units (ai 4) (ai 3)) ah))))))))
theorem dW:aC ["rules","flights","closed","plan","times","spots","pushes","place","time","gaps"] ["rules","flights","closed","plan"] (aq mB):=⟨rfl,rfl,rfl,by decide +kernel,rfl,by decide +kernel,by decide +kernel⟩
theorem yw {base:Heap} {CR:Addr} (Z:Zs K mg CR CP CN) (aG:Yd P w K mg base (CXd P w) 3 "times_of" gb ["rules","flights","closed","plan"] (spX K true (br CR CP CN n) 4) bZ bG) (b8:Yd P w K mg base CX0 1 "spots_of" i6 ["flights","plan"] (spF K false (cS CR CP CN n) 2) cY cg) (bB:Yd P w K mg base CX0 2 "gap_times" i7 ["rules","spots","times","place"] (spF K false (di CR CP CN n) 4) dk cA) (se:Yd P w K mg base CX0 1 "push_of" rF ["flight","closed","gaps","time"] (spF K false (ke CR CP CN n) 4) pA ml) (nV:Def K mg "pushes_of" mB ["rules","flights","closed","plan"] kq iV):cm P w K mg base CX0 4 kq iV ["rules","flights","closed","plan"] (spF K false (kc CR CP CN n) 4):=
 lT (O':=[]) nV.fn dW false (qV CR CP CN n) fun cdv A outer s H E hr=>
  (ae (ao (i:=4) (own:=false) dW.nd (aE (nq aG.o hr aG.d.mg aG.d.fn.kp aG.d.bd (a8 (ai 0) (a8 (ai 1) (a8 (ai 2) (a8 (ai 3) ah)))))))
  (ae (ao (i:=5) (own:=false) dW.nd (ax b8.o (hr.mono (by decide)) b8.d.mg b8.d.fn.kp b8.d.bd (a8 (ai 1) (a8 (ai 3) ah))))
  (ae (ao (i:=6) (own:=true) dW.nd (eN ah))
  (ae (gd (pt:=.tp [7,8]) (An Z.fQ (ai 4)) (ou rfl (aT (i:=7) dW.nd (aT (i:=8) dW.nd dH)))
   (ae (ao (i:=9) (own:=false) dW.nd (ax bB.o (hr.mono (by decide)) bB.d.mg bB.d.fn.kp bB.d.bd (a8 (ai 0) (a8 (ai 5) (a8 (ai 4) (a8 (ai 7) ah))))))
  (av (fW (i:=6) (ax se.o (hr.mono (by decide)) se.d.mg se.d.fn.kp se.d.bd (a8 (ay bf (ai 1) (ay bf (ay bf (ai 3) (ai 7)) aa)) (a8 (ai 2) (a8 (ai 9) (a8 (ai 8) ah)))))))))
  (bE (O2:=[]) (av (aK (ai 6))))))))
theorem oE:aC ["flight","time","due","price"] ["flight","time"] (aq mD):=⟨rfl,rfl,rfl,by decide +kernel,rfl,by decide +kernel,by decide +kernel⟩
theorem yz {base:Heap} {CR:Addr} (Z:Zs K mg CR CP CN) (nX:Def K mg "late_cost" mD ["flight","time"] ku iX):cm P w K mg base CX0 1 ku iX ["flight","time"] (spF K false (ib CR CP CN n) 2):=
 lT (O':=[]) nX.fn oE false (qX CR CP CN n) fun cdv A outer s H E hr=>
  (ae (ao (i:=2) (own:=false) oE.nd (ay bf (ai 0) aa))
  (ae (ao (i:=3) (own:=false) oE.nd (ay bf (ai 0) aa))
  (av (aK (au mP (ai 3) (aH (Fy rfl) Z.wo boot_max (a8 aa (a8 (au rJ (ai 1) (ai 2)) ah))))))))
theorem Cp:aC ["flights","plan","times"] ["flights","plan","times"] (aq rG):=⟨rfl,rfl,rfl,by decide +kernel,rfl,by decide +kernel,by decide +kernel⟩
theorem CB {base:Heap} {CR:Addr} (Z:Zs K mg CR CP CN) (nM:Yd P w K mg base CX0 1 "late_cost" mD ["flight","time"] (spF K false (ib CR CP CN n) 2) ku iX) (si:Def K mg "cost_of" rG ["flights","plan","times"] pB mm):cm P w K mg base CX0 2 pB mm ["flights","plan","times"] (spF K false (mf CR CP CN n) 3):=
 lT (O':=[]) si.fn Cp false (uD CR CP CN n) fun cdv A outer s H E hr=>
  (av (aK (aH (c_sum rfl) Z.Dj boot_sum (a8 (aE (jq ["entry","time","flights"] [none,none,some 0] (di_zip Z.C7 (ai 1) (ai 2)) (fun _ _ _ _ _=>ou rfl (cI (i:=0) (by decide +kernel) (cI (i:=1) (by decide +kernel) dH))) (kh (by decide)) (fun _ _ _ _ _=>eK) (fun _ _ _ _ _=>(ax nM.o hr nM.d.mg nM.d.fn.kp nM.d.bd (a8 (ay bf (ai 2) (ay bf (ai 0) aa)) (a8 (ai 1) ah)))))) ah))))
theorem cu:aC ["_law_state_here","_law_other","_law_here","_law_there","_law_first","_law_last","_law_pushes","_law_place","_law_flight"] ["_law_state_here","_law_other"] (aq la):=⟨rfl,rfl,rfl,by decide +kernel,rfl,by decide +kernel,by decide +kernel⟩
theorem x6 {base:Heap} {CR:Addr} (Z:Zs K mg CR CP CN) (aN:Yd P w K mg base CX0 7 "_law_made" i8 ["_law_rules"] (spF K false (ba CR CP CN n) 1) dn cC) (aG:Yd P w K mg base (CXd P w) 3 "times_of" gb ["rules","flights","closed","plan"] (spX K true (br CR CP CN n) 4) bZ bG) (bH:Yd P w K mg base (CXd P w) 4 "latest_of" jT ["rules","flights","closed","plan"] (spX K false (e8 CR CP CN n) 4) fU eC) (bJ:Yd P w K mg base CX0 1 "_law_back" jU ["_law_times"] (spF K false (eB CR CP CN n) 1) fV eG) (nK:Yd P w K mg base CX0 4 "pushes_of" mB ["rules","flights","closed","plan"] (spF K false (kc CR CP CN n) 4) kq iV) (jh:Yd P w K mg base CX0 2 "cost_of" rG ["flights","plan","times"] (spF K false (mf CR CP CN n) 3) pB mm) (lG:Def K mg "_law_sides" la ["_law_state_here","_law_other"] jb gO):cm P w K mg base CX0 8 jb gO ["_law_state_here","_law_other"] (spF K false (iS CR CP CN n) 2):=
 lT (O':=[]) lG.fn cu false (pq CR CP CN n) fun cdv A outer s H E hr=>
  (ae (ao (i:=2) (own:=false) cu.nd (ax aN.o hr aN.d.mg aN.d.fn.kp aN.d.bd (a8 (ay bf (ai 0) aa) ah)))
  (ae (ao (i:=3) (own:=false) cu.nd (ax aN.o hr aN.d.mg aN.d.fn.kp aN.d.bd (a8 (ay bf (ai 1) aa) ah)))
  (ae (ao (i:=4) (own:=false) cu.nd (aE (nq aG.o (hr.mono (by decide)) aG.d.mg aG.d.fn.kp aG.d.bd (a8 (ai 2) (a8 (ay bf (ai 0) aa) (a8 (ay bf (ai 0) aa) (a8 (ay bf (ai 0) aa) ah)))))))
  (ae (ao (i:=5) (own:=false) cu.nd (nq bH.o (hr.mono (by decide)) bH.d.mg bH.d.fn.kp bH.d.bd (a8 (ai 2) (a8 (ay bf (ai 0) aa) (a8 (ay bf (ai 0) aa) (a8 (ay bf (ai 0) aa) ah))))))
  (ae (gm (cG (o_ne hr.units) (ai 5) (ax bJ.o (hr.mono (by decide)) bJ.d.mg bJ.d.fn.kp bJ.d.bd (a8 (aE (nq aG.o (hr.mono (by decide)) aG.d.mg aG.d.fn.kp aG.d.bd (a8 (ai 3) (a8 (ay bf (ai 1) aa) (a8 (ay bf (ai 1) aa) (a8 (ay bf (ai 1) aa) ah)))))) ah)))
   (av (aK rS))
   cH)
  (ae (gm (cG (o_ne hr.units) (ai 4) (ax bJ.o (hr.mono (by decide)) bJ.d.mg bJ.d.fn.kp bJ.d.bd (a8 (nq bH.o (hr.mono (by decide)) bH.d.mg bH.d.fn.kp bH.d.bd (a8 (ai 3) (a8 (ay bf (ai 1) aa) (a8 (ay bf (ai 1) aa) (a8 (ay bf (ai 1) aa) ah))))) ah)))
   (av (aK rS))
   cH)
  (ae (ao (i:=6) (own:=false) cu.nd (aE (BP (ax nK.o (hr.mono (by decide)) nK.d.mg nK.d.fn.kp nK.d.bd (a8 (ai 3) (a8 (ay bf (ai 1) aa) (a8 (ay bf (ai 1) aa) (a8 (ay bf (ai 1) aa) ah))))))))
  (ae (gd (pt:=.nm 7) (gY Z.cM (a8 (aH lU Z.iK PySem.boot_len (a8 (ai 4) ah)) ah)) (sM cu.nd)
   (ae (ao (i:=8) (own:=false) cu.nd (ay bf (ay bf (ai 0) aa) (ay bf (ay bf (ay bf (ai 0) aa) (ai 7)) aa)))
  (av (gm (cG (o_ne hr.units) (ql (CC hr.units) (ay bf (ai 6) (ai 7)) (da (a8 BO ah))) (ql (CC hr.units) (ay bf (ai 5) (ai 7)) (ay bf (ai 8) aa)))
   (av (aK rS))
   cH))))
  (av (aK (ql Br (ax jh.o (hr.mono (by decide)) jh.d.mg jh.d.fn.kp jh.d.bd (a8 (ay bf (ai 0) aa) (a8 (ay bf (ai 0) aa) (a8 (ai 4) ah)))) (ax jh.o (hr.mono (by decide)) jh.d.mg jh.d.fn.kp jh.d.bd (a8 (ay bf (ai 0) aa) (a8 (ay bf (ai 0) aa) (a8 (ai 5) ah)))))))))))))))
theorem v7:aC ["flight","time"] ["flight","time"] (aq jy):=⟨rfl,rfl,rfl,by decide +kernel,rfl,by decide +kernel,by decide +kernel⟩
theorem vd {base:Heap} {CR:Addr} (Z:Zs K mg CR CP CN) (jN:Def K mg "flight_from" jy ["flight","time"] gR fq):cm P w K mg base CX0 1 gR fq ["flight","time"] (spF K false (gB CR CP CN n) 2):=
 lT (O':=[]) jN.fn v7 false (n6 CR CP CN n) fun cdv A outer s H E hr=>
  (av (aK (da (a8 (ay bf (ai 0) aa) (a8 (ai 1) (a8 (ay bf (ai 0) aa) (a8 (ay bf (ai 0) aa) (a8 (ay bf (ai 0) aa) ah))))))))
theorem zT:aC ["flights","place"] ["flights","place"] (aq pR):=⟨rfl,rfl,rfl,by decide +kernel,rfl,by decide +kernel,by decide +kernel⟩
theorem A7 {base:Heap} {CR:Addr} (Z:Zs K mg CR CP CN) (q9:Def K mg "is_place" pR ["flights","place"] mn ko):cm P w K mg base CX0 1 mn ko ["flights","place"] (spF K false (md CR CP CN n) 2):=
 lT (O':=[]) q9.fn zT false (sH CR CP CN n) fun cdv A outer s H E hr=>
  (av (aK (tQ Br o_lt aa (ai 1) (aH lU Z.iK PySem.boot_len (a8 (ai 0) ah)))))
theorem Co:aC ["closed","time"] ["closed","time"] (aq oG):=⟨rfl,rfl,rfl,by decide +kernel,rfl,by decide +kernel,by decide +kernel⟩
theorem Cz {base:Heap} {CR:Addr} (Z:Zs K mg CR CP CN) (pM:Def K mg "is_open" oG ["closed","time"] ky il):cm P w K mg base CX0 1 ky il ["closed","time"] (spF K false (kg CR CP CN n) 2):=
 lT (O':=[]) pM.fn Co false (uC CR CP CN n) fun cdv A outer s H E hr=>
  (av (aK (de_not (aH (c_any rfl) Z.C8 boot_any (a8 (aE (jq ["start","stop","time"] [none,none,some 1] (jf (ai 0)) (fun _ _ _ _ _=>ou rfl (cI (i:=0) (by decide +kernel) (cI (i:=1) (by decide +kernel) dH))) (kh (by decide)) (fun _ _ _ _ _=>eK) (fun _ _ _ _ _=>(tQ Br o_lt (ai 0) (ai 2) (ai 1))))) ah)))))
theorem jv:aC ["rules","flights","closed","plan","place","time","free","number","changed"] ["rules","flights","closed","plan","place","time"] (aq l6):=⟨rfl,rfl,rfl,by decide +kernel,rfl,by decide +kernel,by decide +kernel⟩
theorem wX {base:Heap} {CR:Addr} (Z:Zs K mg CR CP CN) (jK:Yd P w K mg base CX0 1 "flight_from" jy ["flight","time"] (spF K false (gB CR CP CN n) 2) gR fq) (aG:Yd P w K mg base (CXd P w) 3 "times_of" gb ["rules","flights","closed","plan"] (spX K true (br CR CP CN n) 4) bZ bG) (pZ:Yd P w K mg base CX0 1 "is_place" pR ["flights","place"] (spF K false (md CR CP CN n) 2) mn ko) (hX:Yd P w K mg base (CXd P w) 5 "free_of" oH ["rules","flights","closed","plan"] (spX K false (cT CR CP CN n) 4) kz ip) (hW:Yd P w K mg base CX0 1 "is_open" oG ["closed","time"] (spF K false (kg CR CP CN n) 2) ky il) (lC:Def K mg "times_with" l6 ["rules","flights","closed","plan","place","time"] j7 gK):cm P w K mg base CX0 6 j7 gK ["rules","flights","closed","plan","place","time"] (spF K false (iR CR CP CN n) 6):=
 lT (O':=[]) lC.fn jv false (ph CR CP CN n) fun cdv A outer s H E hr=>
  (ae (gm (uK (t5 (ax pZ.o (hr.mono (by decide)) pZ.d.mg pZ.d.fn.kp pZ.d.bd (a8 (ai 1) (a8 (ai 4) ah)))))
   (av BN)
   cH)
  (ae (ao (i:=6) (own:=false) jv.nd (ay bf (nq hX.o hr hX.d.mg hX.d.fn.kp hX.d.bd (a8 (ai 0) (a8 (ai 1) (a8 (ai 2) (a8 (ai 3) ah))))) (ai 4)))
  (ae (gm (PW.pt (Fd (uK (tM Br Br (ay bf (ai 6) aa) (ai 5) (ay bf (ai 6) aa))) (za (uK (t5 (ax hW.o (hr.mono (by decide)) hW.d.mg hW.d.fn.kp hW.d.bd (a8 (ai 2) (a8 (ai 5) ah))))))))
   (av BN)
   cH)
  (ae (ao (i:=7) (own:=false) jv.nd (ay bf (ay bf (ai 3) (ai 4)) aa))
  (ae (ao (i:=8) (own:=true) jv.nd (pC c_list Z.rB PyProof.Rows.boot_list (a8 (ai 1) ah)))
  (ae (Am (i:=8) (ax jK.o (hr.mono (by decide)) jK.d.mg jK.d.fn.kp jK.d.bd (a8 (ay bf (ai 1) (ai 7)) (a8 (ai 5) ah))) (ai 7))
  (bE (O2:=[]) (av (aK (aE (nq aG.o (hr.mono (by decide)) aG.d.mg aG.d.fn.kp aG.d.bd (a8 (ai 0) (a8 (ai 8) (a8 (ai 2) (a8 (ai 3) ah)))))))))))))))
theorem u0:aC ["flight","closed","time"] ["flight","closed","time"] (aq iy):=⟨rfl,rfl,rfl,by decide +kernel,rfl,by decide +kernel,by decide +kernel⟩
theorem u7 {base:Heap} {CR:Addr} (Z:Zs K mg CR CP CN) (hW:Yd P w K mg base CX0 1 "is_open" oG ["closed","time"] (spF K false (kg CR CP CN n) 2) ky il) (iH:Def K mg "keeps_window" iy ["flight","closed","time"] fD eD):cm P w K mg base CX0 2 fD eD ["flight","closed","time"] (spF K false (fj CR CP CN n) 3):=
 lT (O':=[]) iH.fn u0 false (lQ CR CP CN n) fun cdv A outer s H E hr=>
  (av (aK (zc (tQ Br Br (ay bf (ai 0) aa) (ai 2) (ay bf (ai 0) aa)) (BQ (ax hW.o hr hW.d.mg hW.d.fn.kp hW.d.bd (a8 (ai 1) (a8 (ai 2) ah)))))))
theorem jw:aC ["rules","flights","closed","plan","times","spots","place","time"] ["rules","flights","closed","plan","times"] (aq l7):=⟨rfl,rfl,rfl,by decide +kernel,rfl,by decide +kernel,by decide +kernel⟩
theorem wY {base:Heap} {CR:Addr} (Z:Zs K mg CR CP CN) (b8:Yd P w K mg base CX0 1 "spots_of" i6 ["flights","plan"] (spF K false (cS CR CP CN n) 2) cY cg) (iF:Yd P w K mg base CX0 2 "keeps_window" iy ["flight","closed","time"] (spF K false (fj CR CP CN n) 3) fD eD) (bB:Yd P w K mg base CX0 2 "gap_times" i7 ["rules","spots","times","place"] (spF K false (di CR CP CN n) 4) dk cA) (lD:Def K mg "keeps_plan" l7 ["rules","flights","closed","plan","times"] j8 gL):cm P w K mg base CX0 3 j8 gL ["rules","flights","closed","plan","times"] (spF K false (e9 CR CP CN n) 5):=
 lT (O':=[]) lD.fn jw false (lh CR CP CN n) fun cdv A outer s H E hr=>
  (ae (ao (i:=5) (own:=false) jw.nd (ax b8.o (hr.mono (by decide)) b8.d.mg b8.d.fn.kp b8.d.bd (a8 (ai 1) (a8 (ai 3) ah))))
  (ae (gd (pt:=.tp [6,7]) (An Z.fQ (ai 4)) (ou rfl (aT (i:=6) jw.nd (aT (i:=7) jw.nd dH)))
   (ae (gm (uK (t5 (ax iF.o hr iF.d.mg iF.d.fn.kp iF.d.bd (a8 (ay bf (ai 1) (ay bf (ay bf (ai 3) (ai 6)) aa)) (a8 (ai 2) (a8 (ai 7) ah))))))
   (av (aK rS))
   cH)
  (av (gm (t5 (aH (c_any rfl) Z.C8 boot_any (a8 (aE (jq ["least","time"] [none,some 7] (jf (ax bB.o hr bB.d.mg bB.d.fn.kp bB.d.bd (a8 (ai 0) (a8 (ai 5) (a8 (ai 4) (a8 (ai 6) ah)))))) (fun _ _ _ _ _=>qk (by decide +kernel)) (cP rfl) (fun _ _ _ _ _=>eK) (fun _ _ _ _ _=>(ql o_lt (ai 1) (ai 0))))) ah)))
   (av (aK rS))
   cH))))
  (av (aK rS))))
theorem l4:aC ["_law_script","_law_k","_law_cell","_law_j"] ["_law_script","_law_k"] (aq mH):=⟨rfl,rfl,rfl,by decide +kernel,rfl,by decide +kernel,by decide +kernel⟩
theorem yE {base:Heap} {CR:Addr} (Z:Zs K mg CR CP CN) (aj:Yd P w K mg base CX0 1 "_law_draw" cO ["_law_script","_law_k"] (spF K false (aJ CR CP CN n) 2) aX aQ) (o6:Def K mg "_law_pick" mH ["_law_script","_law_k"] kC j3):cm P w K mg base CX0 2 kC j3 ["_law_script","_law_k"] (spF K false (eA CR CP CN n) 2):=
 lT (O':=[]) o6.fn l4 false (km CR CP CN n) fun cdv A outer s H E hr=>
  (ae (gm (PW.pt (Fd (cG (CC hr.units) (aH lU Z.iK PySem.boot_len (a8 (ai 0) ah)) aa) (za (cG (CC hr.units) (au d6 (ay bf (ai 0) aa) aa) aa))))
   (av (aK (ax aj.o hr aj.d.mg aj.d.fn.kp aj.d.bd (a8 (ai 0) (a8 (aE (au dG aa (ai 1))) ah)))))
   cH)
  (ae (ao (i:=2) (own:=false) l4.nd (au dv (ay bf (ai 0) aa) aa))
  (ae (gd (pt:=.nm 3) (gY Z.cM (a8 (ai 1) ah)) (sM l4.nd)
   (av (ao (i:=2) (own:=false) l4.nd (au dv (ai 2) (au ka aa aa)))))
  (av (aK (au d6 (ai 2) (au ka aa aa)))))))
theorem bM:aC ["_law_script","_law_state_here","_law_other","_law_pairs","_law_here","_law_there","_law_k","_law_place","_law_low","_law_high","_law_time","_law_found","_law_kept","_law_back_here"] ["_law_script","_law_state_here","_law_other","_law_pairs"] (aq mI):=⟨rfl,rfl,rfl,by decide +kernel,rfl,by decide +kernel,by decide +kernel⟩
theorem yG {base:Heap} {CR:Addr} (Z:Zs K mg CR CP CN) (aN:Yd P w K mg base CX0 7 "_law_made" i8 ["_law_rules"] (spF K false (ba CR CP CN n) 1) dn cC) (lq:Yd P w K mg base CX0 6 "times_with" l6 ["rules","flights","closed","plan","place","time"] (spF K false (iR CR CP CN n) 6) j7 gK) (dc:Yd P w K mg base CX0 3 "keeps_plan" l7 ["rules","flights","closed","plan","times"] (spF K false (e9 CR CP CN n) 5) j8 gL) (eP:Yd P w K mg base CX0 2 "_law_pick" mH ["_law_script","_law_k"] (spF K false (eA CR CP CN n) 2) kC j3) (bJ:Yd P w K mg base CX0 1 "_law_back" jU ["_law_times"] (spF K false (eB CR CP CN n) 1) fV eG) (o7:Def K mg "_law_held" mI ["_law_script","_law_state_here","_law_other","_law_pairs"] kD j4):cm P w K mg base CX0 8 kD j4 ["_law_script","_law_state_here","_law_other","_law_pairs"] (spF K false (ig CR CP CN n) 4):=
 lT (O':=[]) o7.fn bM false (nc CR CP CN n) fun cdv A outer s H E hr=>
  (ae (ao (i:=4) (own:=false) bM.nd (ax aN.o hr aN.d.mg aN.d.fn.kp aN.d.bd (a8 (ay bf (ai 1) aa) ah)))
  (ae (ao (i:=5) (own:=false) bM.nd (ax aN.o hr aN.d.mg aN.d.fn.kp aN.d.bd (a8 (ay bf (ai 2) aa) ah)))
  (ae (gd (pt:=.nm 6) (gY Z.cM (a8 (au mP (aH (Fx rfl) Z.wm boot_min (a8 (aH lU Z.iK PySem.boot_len (a8 (ai 0) ah)) (a8 aa ah))) (pC c_int Z.xT PyProof.Rows.boot_int (a8 (ql (o_ne hr.units) (ai 3) (aE (eN ah))) ah))) ah)) (sM bM.nd)
   (ae (ao (i:=7) (own:=false) bM.nd (au d6 (ax eP.o (hr.mono (by decide)) eP.d.mg eP.d.fn.kp eP.d.bd (a8 (ai 0) (a8 (ai 6) ah))) (aH lU Z.iK PySem.boot_len (a8 (ai 3) ah))))
  (ae (Al (ay bf (ai 3) (ai 7)) (ou rfl (aT (i:=8) bM.nd (aT (i:=9) bM.nd dH))))
  (ae (ao (i:=10) (own:=false) bM.nd (ay bf (aE (eN (a8 (ai 8) (a8 (ai 9) ah)))) (au d6 (ax eP.o (hr.mono (by decide)) eP.d.mg eP.d.fn.kp eP.d.bd (a8 (ai 0) (a8 (aE (au dG aa (ai 6))) ah))) aa)))
  (ae (ao (i:=11) (own:=false) bM.nd (ax lq.o (hr.mono (by decide)) lq.d.mg lq.d.fn.kp lq.d.bd (a8 (ai 4) (a8 (ay bf (ai 1) aa) (a8 (ay bf (ai 1) aa) (a8 (ay bf (ai 1) aa) (a8 (ai 7) (a8 (ai 10) ah))))))))
  (ae (gm (cG (o_ne hr.units) (ay bf (ai 11) (ai 7)) (ai 10))
   (av (aK rS))
   cH)
  (ae (ao (i:=12) (own:=false) bM.nd (ax dc.o (hr.mono (by decide)) dc.d.mg dc.d.fn.kp dc.d.bd (a8 (ai 4) (a8 (ay bf (ai 1) aa) (a8 (ay bf (ai 1) aa) (a8 (ay bf (ai 1) aa) (a8 (ai 11) ah)))))))
  (ae (ao (i:=13) (own:=false) bM.nd (ax dc.o (hr.mono (by decide)) dc.d.mg dc.d.fn.kp dc.d.bd (a8 (ai 5) (a8 (ay bf (ai 2) aa) (a8 (ay bf (ai 2) aa) (a8 (ay bf (ai 2) aa) (a8 (ax bJ.o (hr.mono (by decide)) bJ.d.mg bJ.d.fn.kp bJ.d.bd (a8 (ai 11) ah)) ah)))))))
  (av (gm (PW.pt (Fd (cG o_notB (ai 12) rS) (za (cG o_notB (ai 13) rS))))
   (av (aK rS))
   cH))))))))))
  (av (aK rS)))))
theorem qg:aC ["_law_script","_law_rules","_law_flights_here","_law_closed_here","_law_plan_here","_law_state_here","_law_other","_law_pairs","_law_back_here"] ["_law_script"] (aq Cq):=⟨rfl,rfl,rfl,by decide +kernel,rfl,by decide +kernel,by decide +kernel⟩
theorem ok_law {base:Heap} {CR:Addr} (Z:Zs K mg CR CP CN) (lu:Yd P w K mg base CX0 4 "_law_state" l9 ["_law_script","_law_most"] (spF K false (eh CR CP CN n) 2) ja gN) (bO:Yd P w K mg base CX0 2 "_law_mirrored" gw ["_law_state_here"] (spF K false (cU CR CP CN n) 1) eJ dB) (bW:Yd P w K mg base CX0 8 "_law_windows" iz ["_law_state_here"] (spF K false (bT CR CP CN n) 1) fE eE) (lx:Yd P w K mg base CX0 8 "_law_sides" la ["_law_state_here","_law_other"] (spF K false (iS CR CP CN n) 2) jb gO) (nQ:Yd P w K mg base CX0 8 "_law_held" mI ["_law_script","_law_state_here","_law_other","_law_pairs"] (spF K false (ig CR CP CN n) 4) kD j4) {fd_law:FuncData} (D_law:Def K mg "law" Cq ["_law_script"] CW fd_law):cm P w K mg base CX0 9 CW fd_law ["_law_script"] (spF K false (Et CR CP CN n) 1):=
 lT (O':=[]) D_law.fn qg false (g_law CR CP CN n) fun cdv A outer s H E hr=>
  (ae (Al (ax lu.o (hr.mono (by decide)) lu.d.mg lu.d.fn.kp lu.d.bd (a8 (ai 0) (a8 aa ah))) (ou rfl (aT (i:=1) qg.nd (aT (i:=2) qg.nd (aT (i:=3) qg.nd (aT (i:=4) qg.nd dH))))))
  (ae (tO (i:=3) false ["_law_start","_law_stop"] [none,none] qg.nd (jf (ai 3)) (fun _ _ _ _ _=>ou rfl (cI (i:=0) (by decide +kernel) (cI (i:=1) (by decide +kernel) dH))) (kh (by decide)) (fun _ _ _ _ _=>eK) (fun _ _ _ _ _=>(da (a8 (aH (Fy rfl) Z.wo boot_max (a8 (ai 0) (a8 aa ah))) (a8 (aH (Fy rfl) Z.wo boot_max (a8 (ai 1) (a8 aa ah))) ah)))))
  (ae (ao (i:=5) (own:=false) qg.nd (da (a8 (ai 1) (a8 (ai 2) (a8 (ai 3) (a8 (ai 4) ah))))))
  (ae (ao (i:=6) (own:=false) qg.nd (ax bO.o (hr.mono (by decide)) bO.d.mg bO.d.fn.kp bO.d.bd (a8 (ai 5) ah)))
  (ae (gm (cG (o_ne hr.units) (ax bO.o (hr.mono (by decide)) bO.d.mg bO.d.fn.kp bO.d.bd (a8 (ai 6) ah)) (ai 5))
   (av (aK rS))
   cH)
  (ae (ao (i:=7) (own:=false) qg.nd (ax bW.o hr bW.d.mg bW.d.fn.kp bW.d.bd (a8 (ai 5) ah)))
  (ae (ao (i:=8) (own:=false) qg.nd (ax bW.o hr bW.d.mg bW.d.fn.kp bW.d.bd (a8 (ai 6) ah)))
  (ae (gm (PW.pt (Fd (cG A9 (ai 7) oj) (za (cG A9 (ai 8) oj))))
   (av (aK (zc (ql A9 (ai 7) oj) (BQ (ql A9 (ai 8) oj)))))
   cH)
  (ae (gm (cG (o_ne hr.units) (aE (BP (ai 8))) (aE (jq ["_law_low","_law_high"] [none,none] (jf (ai 7)) (fun _ _ _ _ _=>ou rfl (cI (i:=0) (by decide +kernel) (cI (i:=1) (by decide +kernel) dH))) (kh (by decide)) (fun _ _ _ _ _=>eK) (fun _ _ _ _ _=>(da (a8 (au rJ (au ka aa aa) (ai 1)) (a8 (au rJ (au ka aa aa) (ai 0)) ah)))))))
   (av (aK rS))
   cH)
  (av (aK (zc (ax lx.o hr lx.d.mg lx.d.fn.kp lx.d.bd (a8 (ai 5) (a8 (ai 6) ah))) (BQ (ax nQ.o hr nQ.d.mg nQ.d.fn.kp nQ.d.bd (a8 (ai 0) (a8 (ai 5) (a8 (ai 6) (a8 (ai 7) ah))))))))))))))))))
noncomputable abbrev dg:=Int×Int
variable {cs as qs done:List dg}
noncomputable def stD (p:dg):Dat:=.tup [.int p.1,.int p.2]
theorem ya:∀cs:List dg,qc (cs.map stD)=.ok (cs.map fun p=>[p.1,p.2])
 |[]=>rfl
 |p::cs=>by simp [qc,tupD,stD,cV,ya cs]
theorem yi (cs:List dg) (hl:cs.length<64):∃ss:List dg,qz [.lst (cs.map stD)]=.ok (.lst (ss.map stD))/\ss.Perm cs/\ss.Pairwise (fun p q=>p.1<=q.1):=by
 cases hc:cs with
 |nil=>exact ⟨[],by simp [qz,yj,cV,rM],List.Perm.refl _,List.Pairwise.nil⟩
 |cons p ps=>
  rw [<- hc];have hi:∃e,cV (cs.map stD)=.error e:=⟨.stuck,by rw [hc];simp [cV,stD,asI]⟩
  obtain ⟨e,he⟩:=hi;have hne:((cs.map fun p=>[p.1,p.2]).all fun t=> !t.isEmpty)=true:=by simp
  have es:qz [.lst (cs.map stD)]=.ok (.lst ((rM uj (cs.map fun p=>[p.1,p.2])).map tupZ)):=by
   simp only [qz,yj,List.length_map,hl,if_true,he,ya,az,hne]
  have hp:=sA (lt:=uj) (cs.map fun p=>[p.1,p.2]);have hs:=oW Ef (cs.map fun p=>[p.1,p.2]);generalize rM uj (cs.map fun p=>[p.1,p.2])=L at *
  let back:List Int->dg:=fun l=>(l.getD 0 0,l.getD 1 0)
  have hL:∀l∈L,∃p:dg,l=[p.1,p.2]:=fun l h=>by
   have:=hp.mem_iff.mp h;simp only [List.mem_map] at this;obtain ⟨p,_,e⟩:=this;exact ⟨p,e.symm⟩
  refine ⟨L.map back,?_,?_,?_⟩
  ·rw [es,List.map_map]
   congr 2
   refine List.map_congr_left fun l h=>?_;obtain ⟨p,rfl⟩:=hL l h;rfl
  ·have:=hp.map back;rw [List.map_map] at this;have e2:List.map (back∘fun p=>[p.1,p.2]) cs=cs:=by
    rw [List.map_congr_left (g:=id)]
    ·simp
    ·intro p _;rfl
   rwa [e2] at this
  ·rw [List.pairwise_map];refine hs.imp_of_mem fun {a b} ha hb h=>?_;obtain ⟨p,rfl⟩:=hL a ha;obtain ⟨q,rfl⟩:=hL b hb;show p.1<=q.1;simp only [uj] at h;by_cases e1:q.1=p.1
   ·omega
   ·rw [if_neg e1] at h;have:=of_decide_eq_false h;omega
@[simp] theorem getI_c0 (a:Dat) (l:List Dat):mx (a::l) 0=.ok a:=by
 unfold mx atI ixN;rw [if_pos (by omega),if_pos (by simp<;>omega)];rfl
@[simp] theorem getI_c1 (a b:Dat) (l:List Dat):mx (a::b::l) 1=.ok b:=by
 unfold mx atI ixN;rw [if_pos (by omega),if_pos (by simp<;>omega)];rfl
@[simp] theorem getI_c2 (a b c:Dat) (l:List Dat):mx (a::b::c::l) 2=.ok c:=by
 unfold mx atI ixN;rw [if_pos (by omega),if_pos (by simp<;>omega)];rfl
@[simp] theorem getI_c3 (a b c d:Dat) (l:List Dat):mx (a::b::c::d::l) 3=.ok d:=by
 unfold mx atI ixN;rw [if_pos (by omega),if_pos (by simp<;>omega)];rfl
@[simp] theorem getI_c4 (a b c d e:Dat) (l:List Dat):mx (a::b::c::d::e::l) 4=.ok e:=by
 unfold mx atI ixN;rw [if_pos (by omega),if_pos (by simp<;>omega)];rfl
section
variable (CR CP CN:Addr)
theorem jo (n:Nat) (ns:List Int) (k:Int) (h0:0<=k) (h1:k<1000000):∃x,aJ CR CP CN n [.lst (ns.map .int),.int k]=.ok (.int x)/\0<=x:=by
 have hk1: -18446744073709551616<7919*k:=by omega
 have hk2:7919*k<18446744073709551616:=by omega
 have hk3: -18446744073709551616<k:=by omega
 have hk4:k<18446744073709551616:=by omega
 by_cases hl:0<ns.length
 ·have hm0:0<=k%(ns.length:Int):=Int.emod_nonneg _ (by omega);have hm1:k%(ns.length:Int)<(ns.length:Int):=Int.emod_lt_of_pos _ (by omega);have hl':(0:Int)<ns.length:=by omega
  have hne:ns≠[]:=fun e=>by rw [e] at hl;simp at hl
  refine ⟨(ns[(k%(ns.length:Int)).toNat]'(by omega)+7919*k*k+k)*982451653%2305843009213693951*1000003%1152921504606846883/8,?_,?_⟩
  ·simp [aJ,nh,nz,hl,hne,getI_int hm0 hm1,rl hl',hk1,hk2,hk3,hk4]
  ·exact Int.ediv_nonneg (Int.emod_nonneg _ (by decide)) (by decide)
 ·have hne:ns=[]:=by cases ns with|nil=>rfl|cons a b=>simp at hl
  subst hne;refine ⟨(k+7919*k*k+k)*982451653%2305843009213693951*1000003%1152921504606846883/8,?_,?_⟩
  ·simp [aJ,nh,nz,hk1,hk2,hk3,hk4]
  ·exact Int.ediv_nonneg (Int.emod_nonneg _ (by decide)) (by decide)
theorem scale_ok (n:Nat) (ns:List Int):∃s:Int,cx CR CP CN n [.lst (ns.map .int)]=.ok (.int s)/\1<=s/\s<=100000:=by
 obtain ⟨x,e,hx⟩:=jo CR CP CN n ns 99 (by omega) (by omega);have h4:x%4=0\/x%4=1\/x%4=2\/x%4=3:=by omega
 rcases h4 with h|h|h|h
 ·exact ⟨1,by simp [cx,gc,e,h],by omega,by omega⟩
 ·exact ⟨1,by simp [cx,gc,e,h],by omega,by omega⟩
 ·exact ⟨100,by simp [cx,gc,e,h],by omega,by omega⟩
 ·exact ⟨100000,by simp [cx,gc,e,h],by omega,by omega⟩
noncomputable def mw (r:List Int):Dat:=.lst (r.map .int)
noncomputable def aM (rows:List (List Int)):Dat:=.lst (rows.map mw)
noncomputable def rz (k:Nat) (r:List Int):Prop:=r.length=k/\∀x∈r,0<=x/\x<=1000000
noncomputable def cK (k:Nat) (rows:List (List Int)):Prop:=rows.length=k/\∀r∈rows,rz k r
theorem vI {lo:Int} (h:(aR lo m)[i]? =some d):i<m/\d=.int (lo+i):=by
 unfold aR at h;rw [List.getElem?_map] at h;obtain ⟨a,h1,h2⟩:=Option.map_eq_some_iff.mp h;have hi:=(List.getElem?_eq_some_iff.mp h1).1;rw [List.length_range] at hi;rw [List.getElem?_range hi] at h1;cases h1;exact ⟨hi,h2.symm⟩
theorem bY (h:(aR 0 m)[i]? =some d):i<m/\d=.int i:=by
 obtain ⟨h1,h2⟩:=vI h;exact ⟨h1,by rw [h2,Int.zero_add]⟩
theorem cn (lo:Int) (m:Nat):(aR lo m).length=m:=by unfold aR;simp
theorem gap_row (n:Nat) (ns:List Int) (b:Int) (k:Nat) (s:Int) (one:Nat) (rows:List Dat) (z7 z8:Option Dat) (hb0:0<=b) (hb1:b<=100) (hk:k<=6) (hs0:1<=s) (hs1:s<=100000) (ho:one<k) :
  ∃(r:List Int) (z7' z8':Option Dat),rz k r/\nk (.nm 7) (jJ CR CP CN n) (aR 0 k) [some (.lst (ns.map .int)),some (.int b),some (.int k),some (.int s),some (.lst rows),some (.int one),some (.lst []),z7,z8]=.ok (.nx [some (.lst (ns.map .int)),some (.int b),some (.int k),some (.int s),some (.lst rows),some (.int one),some (mw r),z7',z8']):=by
 obtain ⟨ρ',e,r,z7',z8',rfl,h1,h2⟩:=cz (p:=.nm 7) (g:=jJ CR CP CN n)
  (fun i ρ=>∃(r:List Int) (z7 z8:Option Dat),ρ=[some (.lst (ns.map .int)),some (.int b),some (.int k),some (.int s),some (.lst rows),some (.int one),some (mw r),z7,z8]/\r.length=i/\∀x∈r,0<=x/\x<=1000000) (aR 0 k) 0 _ ⟨[],z7,z8,rfl,rfl,by simp⟩ (by
  rintro i d ρ hd ⟨r,z7,z8,rfl,hr1,hr2⟩;obtain ⟨hi,rfl⟩:=bY hd;have hm:(one:Int)*k<=36:=by
   have:one*k<=6*6:=Nat.mul_le_mul (by omega) hk
   exact_mod_cast this
  have hm0:0<=(one:Int)*k:=Int.mul_nonneg (by omega) (by omega);obtain ⟨x,e,hx⟩:=jo CR CP CN n ns (b+(one:Int)*k+(i:Int)) (by omega) (by omega);have hs':0<s:=by omega
  have ho1: -18446744073709551616<(one:Int):=by omega
  have ho2:(one:Int)<18446744073709551616:=by omega
  have q1: -18446744073709551616<x%6:=by omega
  have q2:x%6<18446744073709551616:=by omega
  have hl:r.length<16777216:=by omega
  refine ⟨_,by simp;rfl,?_⟩
  refine ⟨_,.inl (by simp [jJ,e,rl hs',ho1,ho2,q1,q2,hl,mw];rfl),r++[x%6*s+x/6%s],some (.int (i:Int)),some (.int x),by simp [mw],by simp;omega,fun y hy=>?_⟩
  rcases List.mem_append.mp hy with z|z
  ·exact hr2 y z
  ·simp at z;subst z;have a1:0<=x/6%s:=Int.emod_nonneg _ (by omega);have a2:x/6%s<s:=Int.emod_lt_of_pos _ hs';have a3:0<=x%6*s:=Int.mul_nonneg (by omega) (by omega);have a4:x%6*s<=5*100000:=Int.le_trans (Int.mul_le_mul_of_nonneg_right (by omega) (by omega)) (Int.mul_le_mul_of_nonneg_left hs1 (by omega));omega)
 rw [Nat.zero_add,cn] at h1;exact ⟨r,z7',z8',⟨h1,h2⟩,e⟩
theorem EO (n:Nat) (ns:List Int) (b:Int) (k:Nat) (s:Int) (hb0:0<=b) (hb1:b<=100) (hk:k<=6) (hs0:1<=s) (hs1:s<=100000):∃rows,cK k rows/\ij CR CP CN n [.lst (ns.map .int),.int b,.int k,.int s]=.ok (aM rows):=by
 have k1: -4611686018427387904<=(k:Int):=by omega
 have k2:(k:Int)<4611686018427387904:=by omega
 obtain ⟨ρ',e,rows,y5,y6,y7,y8,rfl,h1,h2⟩:=cz (p:=.nm 5) (g:=nI CR CP CN n)
  (fun i ρ=>∃(rows:List (List Int)) (z5 z6 z7 z8:Option Dat),ρ=[some (.lst (ns.map .int)),some (.int b),some (.int k),some (.int s),some (aM rows),z5,z6,z7,z8]/\rows.length=i/\∀r∈rows,rz k r) (aR 0 k) 0 [some (.lst (ns.map .int)),some (.int b),some (.int k),some (.int s),some (.lst []),none,none,none,none] ⟨[],none,none,none,none,rfl,rfl,by simp⟩ (by
  rintro i d ρ hd ⟨rows,z5,z6,z7,z8,rfl,hr1,hr2⟩;obtain ⟨hi,rfl⟩:=bY hd;obtain ⟨r,z7',z8',hg,e⟩:=gap_row CR CP CN n ns b k s i (rows.map mw) z7 z8 hb0 hb1 hk hs0 hs1 hi;have hl:rows.length<16777216:=by omega
  refine ⟨_,by simp;rfl,?_⟩
  refine ⟨_,.inl (by simp [nI,aM,k1,k2,e,hl];rfl),rows++[r],some (.int i),some (mw r),z7',z8',by simp [aM],by simp;omega,fun y hy=>?_⟩
  rcases List.mem_append.mp hy with z|z
  ·exact hr2 y z
  ·simp at z;subst z;exact hg)
 rw [Nat.zero_add,cn] at h1;exact ⟨rows,⟨h1,h2⟩,by simp [ij,rh,k1,k2,e]⟩
theorem rules_ok (n:Nat) (ns:List Int) (s:Int) (hs0:1<=s) (hs1:s<=100000):∃(k:Nat) (rows:List (List Int)) (o:Dat),1<=k/\k<=6/\cK k rows/\(o=.non\/∃i9,cK k i9/\o=aM i9)/\cf CR CP CN n [.lst (ns.map .int),.int s]=.ok (.tup [aM rows,o]):=by
 obtain ⟨x,e1,hx⟩:=jo CR CP CN n ns 0 (by omega) (by omega);obtain ⟨y,e2,hy⟩:=jo CR CP CN n ns 1 (by omega) (by omega);have hk0:0<=x%6:=by omega
 have hk:1+x%6=((1+(x%6).toNat:Nat):Int):=by omega
 obtain ⟨rows,g1,e3⟩:=EO CR CP CN n ns 4 (1+(x%6).toNat) s (by omega) (by omega) (by omega) hs0 hs1;obtain ⟨i9,g2,e4⟩:=EO CR CP CN n ns 50 (1+(x%6).toNat) s (by omega) (by omega) (by omega) hs0 hs1;rw [<- hk] at e3 e4;by_cases h:y%2=1
 ·exact ⟨1+(x%6).toNat,rows,aM i9,by omega,by omega,g1,.inr ⟨i9,g2,rfl⟩,by simp [cf,gH,iq,e1,e2,e3,e4,h]⟩
 ·exact ⟨1+(x%6).toNat,rows,.non,by omega,by omega,g1,.inl rfl,by simp [cf,gH,iq,e1,e2,e3,h]⟩
end
section
variable (CR CP CN:Addr)
theorem EH (n:Nat) (x:Int) (h0:0<=x) (h1:x<=1000000):mS CR CP CN n [.int x]=.ok (.bl true):=by simp [mS,xo,wc,h0,h1]
theorem xk (n:Nat) (k:Nat) (r:List Int) (hk:k<=6) (h:rz k r):ee CR CP CN n [mw r,.int k]=.ok (.bl true):=by
 have hl:r.length<=16777216:=by have:=h.1;omega
 have hk':k<=16777216:=by omega
 have e:bN (.nm 0) oi (fL (mS CR CP CN n) (a9 (af 0) aB)) [none] (r.map .int)=.ok ((r.map fun _=>true).map Dat.bl):=by
  have:=gZ (p:=.nm 0) (fe:=fL (mS CR CP CN n) (a9 (af 0) aB)) (ρ0:=[none]) (fun _=>.bl true) (r.map .int) (fun d hd=>by
   obtain ⟨x,hx,rfl⟩:=List.mem_map.mp hd;exact ⟨[some (.int x)],by simp,by simp [EH CR CP CN n x (h.2 x hx).1 (h.2 x hx).2]⟩)
  rw [this,List.map_map,List.map_map];rfl
 simp [ee,pk,mw,e,hl,hk',h.1,-List.map_map]
theorem Fm (n:Nat) (rows:List (List Int)) (hl:rows.length<=1000):gC CR CP CN n [aM rows]=.ok (aM rows):=by
 have hl2:rows.length<=16777216:=by omega
 have e:bN (.nm 0) oi (fL CK (a9 (af 0) aB)) [none] (rows.map mw)=.ok (rows.map mw):=by
  have:=gZ (p:=.nm 0) (fe:=fL CK (a9 (af 0) aB)) (ρ0:=[none]) id (rows.map mw) (fun d hd=>by
   obtain ⟨x,hx,rfl⟩:=List.mem_map.mp hd;exact ⟨[some (mw x)],by simp,by simp [mw]⟩)
  rw [this,List.map_id]
 simp [gC,n8,aM,e,hl2]
theorem wb (n:Nat) (k:Nat) (rows:List (List Int)) (h1:1<=k) (h6:k<=6) (h:cK k rows):aL CR CP CN n [aM rows]=.ok (aM rows):=by
 have hl2:rows.length<=16777216:=by have:=h.1;omega
 have e:bN (.nm 0) oi (fL (ee CR CP CN n) (a9 (af 0) (a9 (af 1) aB))) [none,some (.int rows.length)] (rows.map mw)=.ok ((rows.map fun _=>true).map Dat.bl):=by
  have:=gZ (p:=.nm 0) (fe:=fL (ee CR CP CN n) (a9 (af 0) (a9 (af 1) aB))) (ρ0:=[none,some (.int rows.length)]) (fun _=>.bl true) (rows.map mw) (fun d hd=>by
   obtain ⟨x,hx,rfl⟩:=List.mem_map.mp hd;exact ⟨[some (mw x),some (.int rows.length)],by simp,by simp [h.1,xk CR CP CN n k x h6 (h.2 x hx)]⟩)
  rw [this,List.map_map,List.map_map];rfl
 have a1:(1:Int)<=rows.length:=by have:=h.1;omega
 have a2:(rows.length:Int)<=6:=by have:=h.1;omega
 have e3:=Fm CR CP CN n rows (by have:=h.1;omega);simp only [aM] at e3;simp [aL,lR,oo,om,aM,e,e3,hl2,a1,a2,-List.map_map]
noncomputable def aF (rows:List (List Int)):Dat->Dat
 |.non=>.ins CR [("gaps",aM rows)]
 |o=>.ins CP [("gaps",aM rows),("beside",o)]
theorem xi (n:Nat) (k:Nat) (rows:List (List Int)) (o:Dat) (h1:1<=k) (h6:k<=6) (h:cK k rows) (ho:o=.non\/∃i9,cK k i9/\o=aM i9):ba CR CP CN n [.tup [aM rows,o]]=.ok (aF CR CP rows o):=by
 have e1:=wb CR CP CN n k rows h1 h6 h;rcases ho with rfl|⟨i9,g2,rfl⟩
 ·simp [ba,n9,nu,newR,e1,aF]
 ·have e2:=wb CR CP CN n k i9 h1 h6 g2;have ht:twoL (aM rows) (aM i9)=true:=by simp [twoL,aM,h.1,g2.1]
  have e3:aF CR CP rows (aM i9)=.ins CP [("gaps",aM rows),("beside",aM i9)]:=rfl;rw [e3];have hr:aM i9=.lst (i9.map mw):=rfl;simp [ba,n9,nu,newP,e1,e2,ht];rw [hr];have en:newP CP (aL CR CP CN n) [aM rows,aM i9]=.ok (.ins CP [("gaps",aM rows),("beside",aM i9)]):=by simp [newP,e1,e2,ht]
  simp [<- hr,en]
theorem ER (rows:List (List Int)) (o:Dat) (ho:o=.non\/∃i9,o=aM i9):xJ [CR,CP] "gaps" (aF CR CP rows o)=.ok (aM rows):=by
 have h1:((("gaps":Str)==("gaps":Str))=true):=by decide +kernel
 rcases ho with rfl|⟨i9,rfl⟩
 ·show (if ([CR,CP].contains CR)=true then (match List.lookup ("gaps":Str) [(("gaps":Str),aM rows)] with|some d=>Except.ok d|none=>stk) else stk)=_;rw [if_pos (by simp),List.lookup_cons,h1]
 ·show (if ([CR,CP].contains CP)=true then (match List.lookup ("gaps":Str) [(("gaps":Str),aM rows),(("beside":Str),aM i9)] with|some d=>Except.ok d|none=>stk) else stk)=_;rw [if_pos (by simp),List.lookup_cons,h1]
end
structure Fli where
 kind:Int
 first:Int
 last:Int
 due:Int
 price:Int
variable {fl:List Fli} {g:Fli}
noncomputable def flD (f:Fli):Dat:=.tup [.int f.kind,.int f.first,.int f.last,.int f.due,.int f.price]
structure pL (k:Nat) (f:Fli):Prop where
 k0:0<=f.kind
 k1:f.kind<k
 f0:0<=f.first
 f1:f.first<=f.last
 l1:f.last<=1000000000
 d0:0<=f.due
 d1:f.due<=1000000000
 p0:0<=f.price
 p1:f.price<=1000000000
@[simp] theorem flatTop_f (d:Dat):pw false d=kY d:=by cases d<;>rfl
@[simp] theorem flatD_int (i:Int):kY (.int i)=true:=by rw [kY]<;>simp
theorem Ac (a b:Int):kb a b<=a/\kb a b<=b/\(kb a b=a\/kb a b=b):=by unfold kb;split<;>omega
section
variable (CR CP CN:Addr)
theorem CT (n:Nat) (ns:List Int) (k:Nat) (rows:List (List Int)) (o:Dat) (most s:Int) (many i:Nat) (fl:List Fli) (z6 z7 z8 z9 z10 z11 z12:Option Dat) (hk:rows.length=k) (hk1:1<=k) (hm:many<=40) (hi:i<many) (hs0:1<=s) (hs1:s<=100000) (hfl:fl.length<=40) :
  ∃(f:Fli) (y7 y8 y9 y10 y11 y12:Option Dat),pL k f/\fN CR CP CN n [some (.lst (ns.map .int)),some (.tup [aM rows,o]),some (.int most),some (.int s),some (.int many),some (.lst (fl.map flD)),some (.int i),z7,z8,z9,z10,z11,z12]=.ok (.nx [some (.lst (ns.map .int)),some (.tup [aM rows,o]),some (.int most),some (.int s),some (.int many),some (.lst ((fl++[f]).map flD)),some (.int i),y7,y8,y9,y10,y11,y12]):=by
 obtain ⟨x,e,hx⟩:=jo CR CP CN n ns (100+(i:Int)) (by omega) (by omega);have p1:0<25*s*((i:Int)+1):=Int.mul_pos (by omega) (by omega);have p2:25*s*((i:Int)+1)<=2500000*40:=Int.le_trans (Int.mul_le_mul_of_nonneg_right (by omega) (by omega)) (Int.mul_le_mul_of_nonneg_left (by omega) (by omega));have p3:0<20*s:=by omega
 have f0:0<=x/16%(25*s*((i:Int)+1)):=Int.emod_nonneg _ (by omega);have f1:x/16%(25*s*((i:Int)+1))<25*s*((i:Int)+1):=Int.emod_lt_of_pos _ p1;have d0:0<=x/1000%(20*s):=Int.emod_nonneg _ (by omega);have c1: -18446744073709551616<25*s:=by omega
 have c2:25*s<18446744073709551616:=by omega
 have c3: -18446744073709551616<100*s:=by omega
 have c4:100*s<18446744073709551616:=by omega
 have c5: -18446744073709551616<12*s:=by omega
 have c6:12*s<18446744073709551616:=by omega
 have hk2:(0:Int)<rows.length:=by omega
 have hfl2:fl.length<16777216:=by omega
 have hmp:(0:Int)<=many:=by omega
 generalize hF:x/16%(25*s*((i:Int)+1))=F at f0 f1;generalize hDd:x/1000%(20*s)=dd at d0;have q4:x%16/5=0\/x%16/5=1\/x%16/5=2\/x%16/5=3:=by omega
 have q2:x/3%2=0\/x/3%2=1:=by omega
 obtain ⟨w,hw0,ew⟩:∃w,0<=w/\mx [.int 1000000000,.int (100*s*many),.int (12*s*many),.int (3*s)] (x%16/5)=.ok (.int w):=by
  rcases q4 with h|h|h|h
  ·exact ⟨1000000000,by omega,by rw [h];simp⟩
  ·exact ⟨100*s*many,Int.mul_nonneg (by omega) (by omega),by rw [h];simp⟩
  ·exact ⟨12*s*many,Int.mul_nonneg (by omega) (by omega),by rw [h];simp⟩
  ·exact ⟨3*s,by omega,by rw [h];simp⟩
 obtain ⟨pr,hp0,hp1,ep⟩:∃w,0<=w/\w<=1000000000/\mx [.int (x/7%10),.int (x/7%1000000001)] (x/3%2)=.ok (.int w):=by
  rcases q2 with h|h
  ·exact ⟨x/7%10,by omega,by omega,by rw [h];simp⟩
  ·exact ⟨x/7%1000000001,by omega,by omega,by rw [h];simp⟩
 have kk0:0<=x/11%(rows.length:Int):=Int.emod_nonneg _ (by omega);have kk1:x/11%(rows.length:Int)<rows.length:=Int.emod_lt_of_pos _ hk2;have m1:=Ac 1000000000 (F+w);have m2:=Ac 1000000000 (F+dd);have g1:x/11%(rows.length:Int)<(k:Int):=by omega
 have g2:F<=kb 1000000000 (F+w):=by omega
 have g3:0<=kb 1000000000 (F+dd):=by omega
 refine ⟨⟨x/11%(rows.length:Int),F,kb 1000000000 (F+w),kb 1000000000 (F+dd),pr⟩,some (.int x),some (.int F),some (.int w),some (.int (kb 1000000000 (F+w))),some (.int (kb 1000000000 (F+dd))),some (.int pr),⟨kk0,g1,f0,g2,m1.1,g3,m2.1,hp0,hp1⟩,?_⟩
 simp [fN,e,c1,c2,c3,c4,c5,c6,rl p1,rl p3,hF,hDd,ew,ep,rl hk2,hfl2,aM,flD]
theorem CS (n:Nat) (ns:List Int) (k:Nat) (rows:List (List Int)) (o:Dat) (most:Nat) (s:Int) (hk:rows.length=k) (hk1:1<=k) (hm:most<=40) (hs0:1<=s) (hs1:s<=100000) :
  ∃fl:List Fli,fl.length<=most/\(∀f∈fl,pL k f)/\dE CR CP CN n [.lst (ns.map .int),.tup [aM rows,o],.int most,.int s]=.ok (.lst (fl.map flD)):=by
 obtain ⟨x,e1,hx⟩:=jo CR CP CN n ns 2 (by omega) (by omega);obtain ⟨y,e2,hy⟩:=jo CR CP CN n ns 3 (by omega) (by omega);have hmp:0<(most:Int)/4+1:=by omega
 have a0:0<=x%((most:Int)/4+1):=Int.emod_nonneg _ (by omega);have a1:x%((most:Int)/4+1)<(most:Int)/4+1:=Int.emod_lt_of_pos _ hmp;obtain ⟨many,hmany,em⟩:∃many:Nat,many<=most/\fM CR CP CN n [some (.lst (ns.map .int)),some (.tup [aM rows,o]),some (.int most),some (.int s),some (.int (x%((most:Int)/4+1))),none,none,none,none,none,none,none,none]=.ok (.nx [some (.lst (ns.map .int)),some (.tup [aM rows,o]),some (.int most),some (.int s),some (.int many),none,none,none,none,none,none,none,none]):=by
  by_cases h:y%8=5
  ·exact ⟨most,by omega,by simp [fM,e2,h]⟩
  ·exact ⟨(x%((most:Int)/4+1)).toNat,by omega,by simp [fM,e2,h]<;>omega⟩
 have k1: -4611686018427387904<=(many:Int):=by omega
 have k2:(many:Int)<4611686018427387904:=by omega
 obtain ⟨ρ',e,fl,y6,y7,y8,y9,y10,y11,y12,rfl,h1,h2⟩:=cz (p:=.nm 6) (g:=fN CR CP CN n)
  (fun i ρ=>∃(fl:List Fli) (z6 z7 z8 z9 z10 z11 z12:Option Dat),ρ=[some (.lst (ns.map .int)),some (.tup [aM rows,o]),some (.int most),some (.int s),some (.int many),some (.lst (fl.map flD)),z6,z7,z8,z9,z10,z11,z12]/\fl.length=i/\∀f∈fl,pL k f) (aR 0 many) 0 [some (.lst (ns.map .int)),some (.tup [aM rows,o]),some (.int most),some (.int s),some (.int many),some (.lst []),none,none,none,none,none,none,none] ⟨[],none,none,none,none,none,none,none,rfl,rfl,by simp⟩ (by
  rintro i d ρ hd ⟨fl,z6,z7,z8,z9,z10,z11,z12,rfl,hr1,hr2⟩;obtain ⟨hi,rfl⟩:=bY hd;obtain ⟨f,y7,y8,y9,y10,y11,y12,hg,e⟩:=CT CR CP CN n ns k rows o most s many i fl z6 z7 z8 z9 z10 z11 z12 hk hk1 (by omega) hi hs0 hs1 (by omega);refine ⟨_,by simp<;>rfl,_,.inl e,fl++[f],some (.int i),y7,y8,y9,y10,y11,y12,rfl,by simp;omega,fun y hy=>?_⟩
  rcases List.mem_append.mp hy with z|z
  ·exact hr2 y z
  ·simp at z;subst z;exact hg)
 rw [Nat.zero_add,cn] at h1;exact ⟨fl,by omega,h2,by simp [dE,lS,e1,rl hmp,em,k1,k2,e]⟩
end
theorem CY {l:List α} (h:i<l.length):(l[i]::l.eraseIdx i).Perm l:=by
 rw [List.eraseIdx_eq_take_drop_succ];have e:l.take i++l[i]::l.drop (i+1)=l:=by rw [List.getElem_cons_drop,List.take_append_drop]
 have:=(List.perm_middle (a:=l[i]) (l₁:=l.take i) (l₂:=l.drop (i+1))).symm;rw [e] at this;exact this
theorem xt (l:List dg) (j:Nat):(l.map stD).eraseIdx j=(l.eraseIdx j).map stD:=by
 rw [List.eraseIdx_eq_take_drop_succ,List.eraseIdx_eq_take_drop_succ];simp
theorem popD_st {ls:List dg} {k:Int} (h0:0<=k) (h1:k<ls.length) (hl:ls.length<=16777216):zY (ls.map stD) (.int k)=.ok (stD (ls[k.toNat]'(by omega)),(ls.eraseIdx k.toNat).map stD):=by
 have hj:k.toNat<ls.length:=by omega
 have hn:¬16777216<ls.length:=by omega
 simp [zY,ixN,h0,h1,hj,hn,xt]
section
variable (CR CP CN:Addr)
theorem w5 (fl:List Fli):∀ks:List Nat,(∀k∈ks,k<fl.length)->∃cs:List dg,cs.map (·.2)=ks.map (fun k:Nat=>(k:Int))/\bN (.nm 0) oi (fL dZ (a9 (f2 ixD (f2 ixD (af 1) (af 0)) (fC (.int 1))) (a9 (af 0) aB))) [none,some (.lst (fl.map flD))] (ks.map fun k:Nat=>Dat.int (k:Int))=.ok (cs.map stD)
 |[],_=>⟨[],rfl,rfl⟩
 |k::ks,h=>by
  obtain ⟨cs,h1,h2⟩:=w5 fl ks fun x hx=>h x (by simp [hx]);have hk:=h k (by simp);have e:mx (fl.map flD) (k:Int)=.ok (flD fl[k]):=by
   rw [jD (by simpa using hk)];simp
  refine ⟨((fl[k]).first,(k:Int))::cs,by simp [h1],?_⟩
  rw [List.map_cons,bN];simp [e,flD,h2,stD]
theorem yt (n:Nat) (ns:List Int) (a1 a2:Option Dat) (st:Int) (hs0:1<=st):∀(m:Nat) (left pairs:List dg) (z6 z7 z8 z9:Option Dat),left.length<m->left.length+pairs.length<=1000->(∀p∈pairs,0<=p.2/\p.2<st) ->
  ∃(qs:List dg) (y6 y7 y8 y9:Option Dat),(qs.map (·.1)).Perm (pairs.map (·.1)++left.map (·.2))/\(∀p∈qs,0<=p.2/\p.2<st) /\
   fY (gn CR CP CN n) (jH CR CP CN n) m [some (.lst (ns.map .int)),a1,a2,some (.lst (left.map stD)),some (.lst (pairs.map stD)),some (.int st),z6,z7,z8,z9]=.ok (.nx [some (.lst (ns.map .int)),a1,a2,some (.lst []),some (.lst (qs.map stD)),some (.int st),y6,y7,y8,y9])
 |0,left,pairs,z6,z7,z8,z9,h,_,_=>by omega
 |m+1,left,pairs,z6,z7,z8,z9,h,hl,hp=>by
  by_cases h0:left.length=0
  ·have:left=[]:=List.length_eq_zero_iff.mp h0;subst this;exact ⟨pairs,z6,z7,z8,z9,by simp,hp,by rw [fY];simp [gn]⟩
  ·obtain ⟨x,e,hx⟩:=jo CR CP CN n ns (180+(left.length:Int)) (by omega) (by omega);have hpos:0<left.length:=by omega
   have m1:=Ac (left.length:Int) 3;have hmz:0<kb (left.length:Int) 3:=by omega
   have b0:0<=x/64%kb (left.length:Int) 3:=Int.emod_nonneg _ (by omega);have b1:x/64%kb (left.length:Int) 3<kb (left.length:Int) 3:=Int.emod_lt_of_pos _ hmz;obtain ⟨at_,c0,c1,ec⟩:∃at_:Int,0<=at_/\at_<left.length/\ug (.int (x/64%kb (left.length:Int) 3)) (.int (b2z (decide (x%4=0))))=.ok (.int at_):=by
    by_cases hq:x%4=0
    ·exact ⟨x/64%kb (left.length:Int) 3,b0,by omega,by simp [hq,b2z]⟩
    ·exact ⟨0,by omega,by omega,by simp [hq,b2z]⟩
   have ep:=popD_st c0 c1 (by omega);have hst:0<st:=by omega
   have r0:0<=x/4096%st:=Int.emod_nonneg _ (by omega);have r1:x/4096%st<st:=Int.emod_lt_of_pos _ hst;have hpl:pairs.length<16777216:=by omega
   have hat:at_.toNat<left.length:=by omega
   generalize hpd:left[at_.toNat]'hat=pd at ep;have hle:=List.length_eraseIdx_of_lt hat;obtain ⟨qs,y6,y7,y8,y9,hq1,hq2,hq3⟩:=yt n ns a1 a2 st hs0 m (left.eraseIdx at_.toNat) (pairs++[(pd.2,x/4096%st)]) (some (.int x)) (some (.int at_)) (some (.int pd.1)) (some (.int pd.2)) (by omega) (by simp;omega) (fun p hp'=>by
    rcases List.mem_append.mp hp' with z|z
    ·exact hp p z
    ·simp at z;subst z;exact ⟨r0,r1⟩)
   refine ⟨qs,y6,y7,y8,y9,?_,hq2,?_⟩
   ·refine hq1.trans ?_;rw [List.map_append,List.append_assoc];refine List.Perm.append_left _ ?_;have:=(CY hat).map (·.2);rw [hpd] at this;simpa using this
   ·rw [fY];rw [List.map_append,List.map_cons,List.map_nil] at hq3;simp only [stD] at hq3 ep;have ht:gn CR CP CN n [some (.lst (ns.map .int)),a1,a2,some (.lst (left.map stD)),some (.lst (pairs.map stD)),some (.int st),z6,z7,z8,z9]=.ok true:=by simp [gn,hpos]
    have hb:jH CR CP CN n [some (.lst (ns.map .int)),a1,a2,some (.lst (left.map stD)),some (.lst (pairs.map stD)),some (.int st),z6,z7,z8,z9]=.ok (.nx [some (.lst (ns.map .int)),a1,a2,some (.lst ((left.eraseIdx at_.toNat).map stD)),some (.lst (pairs.map stD++[.tup [.int pd.2,.int (x/4096%st)]])),some (.int st),some (.int x),some (.int at_),some (.int pd.1),some (.int pd.2)]):=by
     simp [jH,e,rl hmz,ec,ep,rl hst,hpl]
    rw [ht,az,if_pos rfl,hb,az];exact hq3
end
section
variable (CR CP CN:Addr)
theorem plan_ok (n:Nat) (ns:List Int) (rows:List (List Int)) (o:Dat) (fl:List Fli) (hf:fl.length<=60) (hn:64<=n):∃qs:List dg,(qs.map (·.1)).Perm ((List.range fl.length).map fun k:Nat=>(k:Int))/\(∀p∈qs,0<=p.2/\p.2<2)/\(o=.non->∀p∈qs,p.2=0)/\ie CR CP CN n [.lst (ns.map .int),.tup [aM rows,o],.lst (fl.map flD)]=.ok (.lst (qs.map stD)):=by
 obtain ⟨cs,h1,h2⟩:=w5 fl (List.range fl.length) (fun k hk=>List.mem_range.mp hk);have hcl:cs.length=fl.length:=by have:=congrArg List.length h1;simpa using this
 obtain ⟨ss,e,hp,_⟩:=yi cs (by omega);obtain ⟨b,hb⟩:∃b,D9 o .non=.ok (.bl b):=by cases o<;>exact ⟨_,rfl⟩
 have hs0:1<=(2:Int)-b2z b:=by cases b<;>decide
 have hs1:(2:Int)-b2z b<=2:=by cases b<;>decide
 obtain ⟨qs,y6,y7,y8,y9,q1,q2,q3⟩:=yt CR CP CN n ns (some (.tup [aM rows,o])) (some (.lst (fl.map flD))) (2-b2z b) hs0 n ss [] none none none none (by rw [hp.length_eq];omega) (by rw [hp.length_eq];simp;omega) (by simp);refine ⟨qs,?_,fun p hp=>⟨(q2 p hp).1,by have:=(q2 p hp).2;omega⟩,fun hon p hp=>by subst hon;cases hb;have:=q2 p hp;simp [b2z] at this;omega,?_⟩
 ·refine q1.trans ?_;rw [List.map_nil,List.nil_append,<- h1];exact hp.map _
 ·have k1: -4611686018427387904<=(fl.length:Int):=by omega
  have k2:(fl.length:Int)<4611686018427387904:=by omega
  have hl2:fl.length<=16777216:=by omega
  have er:aR 0 fl.length=(List.range fl.length).map fun k:Nat=>Dat.int (k:Int):=by
   unfold aR;exact List.map_congr_left fun k _=>by rw [Int.zero_add]
  rw [List.map_nil] at q3;simp [ie,rg,k1,k2,er,h2,e,hb,hl2,q3,-e_isN]
end
noncomputable def sj (fl:List Fli) (i:Int):Fli:=match fl[i.toNat]? with
 |some f=>f
 |none=>⟨0,0,0,0,0⟩
theorem getFl {i:Int} (h0:0<=i) (h1:i<fl.length):mx (fl.map flD) i=.ok (flD (sj fl i))/\sj fl i∈fl:=by
 have hj:i.toNat<fl.length:=by omega
 have e:sj fl i=fl[i.toNat]:=by unfold sj;rw [List.getElem?_eq_getElem hj]
 refine ⟨?_,by rw [e];exact List.getElem_mem hj⟩
 have:=jD (ds:=fl.map flD) (k:=i.toNat) (by simpa using hj);rw [show ((i.toNat:Nat):Int)=i by omega] at this;rw [this,e];simp
noncomputable def Cov (cs:List dg) (t:Int):Prop:=∃p∈cs,p.1<=t/\t<p.2
noncomputable def mv (cs:List dg) (t u:Int):Prop:=t<=u/\¬Cov cs u/\∀v,t<=v->v<u->Cov cs v
noncomputable def uW (cs:List dg) (t u:Int):Prop:=u<=t/\¬Cov cs u/\∀v,u<v->v<=t->Cov cs v
theorem mv.uniq (h:mv cs t u) (k:mv cs t v):u=v:=by
 rcases Int.lt_trichotomy u v with e|e|e
 ·exact absurd (k.2.2 u h.1 e) h.2.1
 ·exact e
 ·exact absurd (h.2.2 v k.1 e) k.2.1
theorem uW.uniq (h:uW cs t u) (k:uW cs t v):u=v:=by
 rcases Int.lt_trichotomy u v with e|e|e
 ·exact absurd (h.2.2 v e k.1) k.2.1
 ·exact e
 ·exact absurd (k.2.2 u e h.1) h.2.1
theorem Au (t:Int):¬Cov [] t:=fun ⟨_,h,_⟩=>by simp at h
theorem xF {p:dg} :Cov (p::cs) t↔(p.1<=t/\t<p.2)\/Cov cs t:=by
 constructor
 ·rintro ⟨q,h,h2⟩;rcases List.mem_cons.mp h with e|e
  ·subst e;exact .inl h2
  ·exact .inr ⟨q,e,h2⟩
 ·rintro (h|⟨q,h,h2⟩)
  ·exact ⟨p,by simp,h⟩
  ·exact ⟨q,by simp [h],h2⟩
theorem mq {bs:List dg} :Cov (as++bs) t↔Cov as t\/Cov bs t:=by
 constructor
 ·rintro ⟨q,h,h2⟩;rcases List.mem_append.mp h with e|e
  ·exact .inl ⟨q,e,h2⟩
  ·exact .inr ⟨q,e,h2⟩
 ·rintro (⟨q,h,h2⟩|⟨q,h,h2⟩)
  ·exact ⟨q,by simp [h],h2⟩
  ·exact ⟨q,by simp [h],h2⟩
theorem cov_perm {bs:List dg} (h:as.Perm bs) :Cov as t↔Cov bs t:=⟨fun ⟨p,m,q⟩=>⟨p,h.mem_iff.mp m,q⟩,fun ⟨p,m,q⟩=>⟨p,h.mem_iff.mpr m,q⟩⟩
theorem As {p:dg} :Cov [p] t↔p.1<=t/\t<p.2:=by rw [xF];simp [Au]
noncomputable def covB (cs:List dg) (t:Int):Bool:=cs.any fun p=>decide (p.1<=t)&&decide (t<p.2)
theorem BU:covB cs t=true↔Cov cs t:=by
 unfold covB Cov;simp
theorem BE {p:Pat} {g:ak->M Flo} (r:Dat) (P:Nat->ak->Prop) (B:Nat->Prop):∀(ds:List Dat) (k:Nat) (ρ:ak),P k ρ ->
  (∀(i:Nat) (d:Dat) (ρ:ak),ds[i]? =some d->P (k+i) ρ->∃ρ1,jg p d ρ=.ok ρ1/\((B (k+i)/\∃ρ2,g ρ1=.ok (.nx ρ2)/\P (k+i+1) ρ2)\/(¬B (k+i)/\g ρ1=.ok (.rt r)))) ->
  ((∀i,i<ds.length->B (k+i))/\∃ρ',nk p g ds ρ=.ok (.nx ρ')/\P (k+ds.length) ρ')\/((∃i,i<ds.length/\¬B (k+i))/\nk p g ds ρ=.ok (.rt r))
 |[],k,ρ,h,_=>.inl ⟨by simp,ρ,rfl,h⟩
 |d::ds,k,ρ,h,st=>by
  obtain ⟨ρ1,e1,h1⟩:=st 0 d ρ rfl h;rcases h1 with ⟨hb,ρ2,e2,h2⟩|⟨hb,e2⟩
  ·have ih:=BE r P B ds (k+1) ρ2 h2 fun i d' ρ he hp=>by
    have:=st (i+1) d' ρ (by simpa using he) (by rw [show k+(i+1)=k+1+i by omega];exact hp);rw [show k+(i+1)=k+1+i by omega] at this;exact this
   have e:nk p g (d::ds) ρ=nk p g ds ρ2:=by rw [nk,e1];simp only [az,e2]
   rcases ih with ⟨a,ρ',e3,h3⟩|⟨⟨i,hi,hbi⟩,e3⟩
   ·refine .inl ⟨fun i hi=>?_,ρ',by rw [e];exact e3,by rw [show k+(d::ds).length=k+1+ds.length by simp;omega];exact h3⟩;cases i with
    |zero=>exact hb
    |succ i=>rw [show k+(i+1)=k+1+i by omega];exact a i (by simpa using hi)
   ·exact .inr ⟨⟨i+1,by simpa using hi,by rw [show k+(i+1)=k+1+i by omega];exact hbi⟩,by rw [e];exact e3⟩
  ·exact .inr ⟨⟨0,by simp,hb⟩,by rw [nk,e1];simp only [az,e2]⟩
theorem kG:∀(ds:List Dat) (k i:Nat) (d:Dat),(kZ k ds)[i]? =some d->∃e,ds[i]? =some e/\d=.tup [.int ((k+i:Nat):Int),e]
 |[],k,i,d,h=>by simp [kZ] at h
 |a::ds,k,0,d,h=>by simp [kZ] at h;exact ⟨a,by simp,by simp [<- h]⟩
 |a::ds,k,i+1,d,h=>by
  simp [kZ] at h;obtain ⟨e,h1,h2⟩:=kG ds (k+1) i d h;exact ⟨e,by simpa using h1,by rw [h2,show k+1+i=k+(i+1) by omega]⟩
theorem fG:∀(ds:List Dat) (k:Nat),(kZ k ds).length=ds.length
 |[],k=>rfl
 |a::ds,k=>by simp [kZ,fG ds (k+1)]
noncomputable def tAt (ts:List Int) (i:Nat):Int:=ts.getD i 0
noncomputable def qAt (qs:List dg) (i:Nat):dg:=qs.getD i (0,0)
noncomputable def rwAt (rows:List (List Int)) (i:Int):List Int:=rows.getD i.toNat []
noncomputable def at2 (rows:List (List Int)) (i j:Int):Int:=(rwAt rows i).getD j.toNat 0
noncomputable def apS (rows r2:List (List Int)) (a b:dg):Int:=if a.2=b.2 then at2 rows a.1 b.1 else at2 r2 a.1 b.1
noncomputable def jr (fl:List Fli) (p:dg):dg:=((sj fl p.1).kind,p.2)
structure Wo where
 k:Nat
 rows:List (List Int)
 r2:List (List Int)
 o:Dat
 fl:List Fli
 cs:List dg
 qs:List dg
structure Wo.Good (w:Wo):Prop where
 k1:1<=w.k
 k6:w.k<=6
 rows:cK w.k w.rows
 o:(w.o=.non/\∀p∈w.qs,p.2=0)\/(w.o=aM w.r2/\cK w.k w.r2)
 fl:∀f∈w.fl,pL w.k f
 fll:w.fl.length<=60
 cs:∀p∈w.cs,p.1<p.2
 csl:w.cs.length<=20
 qs:∀p∈w.qs,0<=p.1/\p.1<w.fl.length
 qsl:w.qs.length=w.fl.length
noncomputable def Wo.f (w:Wo) (i:Nat):Fli:=sj w.fl (qAt w.qs i).1
noncomputable def Wo.ap (w:Wo) (j i:Nat):Int:=apS w.rows w.r2 (jr w.fl (qAt w.qs j)) (jr w.fl (qAt w.qs i))
noncomputable def Wo.ruD (w:Wo):Dat:=.tup [aM w.rows,w.o]
noncomputable def Wo.sg (w:Wo) (ts:List Int) (i:Nat):Prop:=((w.f i).first<=tAt ts i/\tAt ts i<=(w.f i).last/\¬Cov w.cs (tAt ts i))/\∀j,j<i->tAt ts j+w.ap j i<=tAt ts i
noncomputable def Wo.Keeps (w:Wo) (ts:List Int):Prop:=∀i,i<w.qs.length->w.sg ts i
theorem getQ (h:i<qs.length):mx (qs.map stD) (i:Int)=.ok (stD (qAt qs i)):=by
 rw [jD (by simpa using h)];simp [qAt,h]
theorem jk (h:i<qs.length):qAt qs i∈qs:=by
 have:qAt qs i=qs[i]:=by simp [qAt,h]
 rw [this];exact List.getElem_mem h
theorem getT (h:i<ts.length):mx (ts.map .int) (i:Int)=.ok (.int (tAt ts i)):=by
 rw [jD (by simpa using h)];simp [tAt,h]
theorem getR (g:cK k rows) {i:Int} (h0:0<=i) (h1:i<k):mx (rows.map mw) i=.ok (mw (rwAt rows i))/\rz k (rwAt rows i):=by
 have hl:=g.1;have hj:i.toNat<rows.length:=by omega
 have e:rwAt rows i=rows[i.toNat]:=by simp [rwAt,hj]
 refine ⟨?_,by rw [e];exact g.2 _ (List.getElem_mem hj)⟩
 have:=jD (ds:=rows.map mw) (k:=i.toNat) (by simpa using hj);rw [show ((i.toNat:Nat):Int)=i by omega] at this;rw [this,e];simp
theorem getA (g:cK k rows) {i j:Int} (h0:0<=i) (h1:i<k) (h2:0<=j) (h3:j<k):mx ((rwAt rows i).map .int) j=.ok (.int (at2 rows i j))/\0<=at2 rows i j:=by
 have gr:=(getR g h0 h1).2;have hl:=gr.1;have hj:j.toNat<(rwAt rows i).length:=by omega
 have e:at2 rows i j=(rwAt rows i)[j.toNat]:=by simp [at2,hj]
 refine ⟨?_,by rw [e];exact (gr.2 _ (List.getElem_mem hj)).1⟩
 rw [getI_int h2 (by omega),e]
theorem Wo.Good.fAt {w:Wo} (hw:w.Good) (h:i<w.qs.length):mx (w.fl.map flD) (qAt w.qs i).1=.ok (flD (w.f i))/\pL w.k (w.f i):=by
 obtain ⟨h0,h1⟩:=hw.qs _ (jk h);obtain ⟨e,m⟩:=getFl h0 h1;exact ⟨e,hw.fl _ m⟩
section
variable (CR CP CN:Addr)
theorem Fo (n:Nat) (ns:List Int) (s:Int) (hs0:1<=s) (hs1:s<=100000):∃cs:List dg,cs.length<=20/\(∀p∈cs,0<=p.1/\p.1<p.2)/\eT CR CP CN n [.lst (ns.map .int),.int s]=.ok (.lst (cs.map stD)):=by
 obtain ⟨x,e1,hx⟩:=jo CR CP CN n ns 150 (by omega) (by omega);obtain ⟨y,e2,hy⟩:=jo CR CP CN n ns 151 (by omega) (by omega);obtain ⟨many,hmany,em⟩:∃many:Nat,many<=20/\hI CR CP CN n [some (.lst (ns.map .int)),some (.int s),some (.int (x%5)),none,none,none,none]=.ok (.nx [some (.lst (ns.map .int)),some (.int s),some (.int many),none,none,none,none]):=by
  by_cases h:y%8=5
  ·exact ⟨20,by omega,by simp [hI,e2,h]⟩
  ·exact ⟨(x%5).toNat,by omega,by simp [hI,e2,h]<;>omega⟩
 have k1: -4611686018427387904<=(many:Int):=by omega
 have k2:(many:Int)<4611686018427387904:=by omega
 obtain ⟨ρ',e,cs,y4,y5,y6,rfl,h1,h2⟩:=cz (p:=.nm 4) (g:=kJ CR CP CN n)
  (fun i ρ=>∃(cs:List dg) (z4 z5 z6:Option Dat),ρ=[some (.lst (ns.map .int)),some (.int s),some (.int many),some (.lst (cs.map stD)),z4,z5,z6]/\cs.length=i/\∀p∈cs,0<=p.1/\p.1<p.2) (aR 0 many) 0 [some (.lst (ns.map .int)),some (.int s),some (.int many),some (.lst []),none,none,none] ⟨[],none,none,none,rfl,rfl,by simp⟩ (by
  rintro i d ρ hd ⟨cs,z4,z5,z6,rfl,hr1,hr2⟩;obtain ⟨hi,rfl⟩:=bY hd;obtain ⟨x,ex,hx⟩:=jo CR CP CN n ns (152+(i:Int)) (by omega) (by omega);have p1:0<150*s:=by omega
  have f0:0<=x/9%(150*s):=Int.emod_nonneg _ (by omega);have m0:0<=x%9*s:=Int.mul_nonneg (by omega) (by omega);have q1: -18446744073709551616<x%9:=by omega
  have q2:x%9<18446744073709551616:=by omega
  have hl:cs.length<16777216:=by omega
  refine ⟨_,by simp<;>rfl,[some (.lst (ns.map .int)),some (.int s),some (.int many),some (.lst ((cs++[(x/9%(150*s),x/9%(150*s)+1+x%9*s)]).map stD)),some (.int i),some (.int x),some (.int (x/9%(150*s)))],.inl ?_,_,_,_,_,rfl,by simp;omega,fun y hy=>?_⟩
  ·simp [kJ,ex,rl p1,q1,q2,hl,stD]
  ·rcases List.mem_append.mp hy with z|z
   ·exact hr2 y z
   ·simp at z;subst z;exact ⟨f0,by show x/9%(150*s)<x/9%(150*s)+1+x%9*s;omega⟩)
 rw [Nat.zero_add,cn] at h1;exact ⟨cs,by omega,h2,by simp [eT,ni,e1,em,k1,k2,e]⟩
end
theorem lookA1 (d:Dat):List.lookup ("apart":Str) [(("gaps":Str),d)]=none:=by
 rw [List.lookup_cons,show ((("apart":Str)==("gaps":Str))=false) from by decide +kernel];rfl
theorem lookA2 (d e:Dat):List.lookup ("apart":Str) [(("gaps":Str),d),(("beside":Str),e)]=none:=by
 rw [List.lookup_cons,show ((("apart":Str)==("gaps":Str))=false) from by decide +kernel];show List.lookup ("apart":Str) [(("beside":Str),e)]=none;rw [List.lookup_cons,show ((("apart":Str)==("beside":Str))=false) from by decide +kernel];rfl
section
variable (CR CP CN:Addr)
theorem FF (rows r2:List (List Int)):xJ [CP] "beside" (aF CR CP rows (aM r2))=.ok (aM r2):=by
 have h1:((("beside":Str)==("gaps":Str))=false):=by decide +kernel
 have h2:((("beside":Str)==("beside":Str))=true):=by decide +kernel
 show (if ([CP].contains CP)=true then (match List.lookup ("beside":Str) [(("gaps":Str),aM rows),(("beside":Str),aM r2)] with|some d=>Except.ok d|none=>stk) else stk)=_;rw [if_pos (by simp),List.lookup_cons,h1];show (match List.lookup ("beside":Str) [(("beside":Str),aM r2)] with|some d=>Except.ok d|none=>stk)=_;rw [List.lookup_cons,h2]
theorem Es (n:Nat) (hne:CR≠CP) {w:Wo} (hw:w.Good) (hj:j<w.qs.length) (hi:i<w.qs.length) (fo f1 f2:ak->M Dat) (ρ:ak) (h0:fo ρ=.ok (aF CR CP w.rows w.o)) (h1:f1 ρ=.ok (stD (jr w.fl (qAt w.qs j)))) (h2:f2 ρ=.ok (stD (jr w.fl (qAt w.qs i)))) :
  lp CR CP "apart" (bx CR CP CN n) (bC CR CP CN n) fo (a9 f1 (a9 f2 aB)) ρ=.ok (.int (w.ap j i)):=by
 obtain ⟨ej,gj⟩:=hw.fAt hj;obtain ⟨ei,gi⟩:=hw.fAt hi;obtain ⟨r1,_⟩:=getR hw.rows gj.k0 gj.k1;obtain ⟨r2,_⟩:=getA hw.rows gj.k0 gj.k1 gi.k0 gi.k1;unfold Wo.f at *;unfold lp;rw [h0,az];rcases hw.o with ⟨ho,h⟩|⟨ho,h⟩
 ·have hs:(qAt w.qs j).2=(qAt w.qs i).2:=(h _ (jk hj)).trans (h _ (jk hi)).symm;have hc:isC CR "apart" (aF CR CP w.rows w.o)=true:=by
   rw [ho];show ((CR==CR)&&(List.lookup ("apart":Str) [(("gaps":Str),aM w.rows)]).isNone)=true;rw [lookA1];simp
  have hg:=ER CR CP w.rows w.o (.inl ho);rw [if_pos hc];simp [h1,h2,bx,nj,hg,stD,jr,aM,r1,mw,r2,Wo.ap,apS,hs]
 ·have hc:isC CR "apart" (aF CR CP w.rows w.o)=false:=by
   rw [ho];show ((CP==CR)&&(List.lookup ("apart":Str) [(("gaps":Str),aM w.rows),(("beside":Str),aM w.r2)]).isNone)=false;have:(CP==CR)=false:=by simp;exact fun z=>hne z.symm
   rw [this];rfl
  have hc2:isC CP "apart" (aF CR CP w.rows w.o)=true:=by
   rw [ho];show ((CP==CP)&&(List.lookup ("apart":Str) [(("gaps":Str),aM w.rows),(("beside":Str),aM w.r2)]).isNone)=true;rw [lookA2];simp
  have hg:=ER CR CP w.rows w.o (.inr ⟨_,ho⟩);have hb:xJ [CP] "beside" (aF CR CP w.rows w.o)=.ok (aM w.r2):=by rw [ho];exact FF CR CP w.rows w.r2
  obtain ⟨r3,_⟩:=getR h gj.k0 gj.k1;obtain ⟨r4,_⟩:=getA h gj.k0 gj.k1 gi.k0 gi.k1;rw [if_neg (by rw [hc];simp),if_pos hc2];by_cases hs:(qAt w.qs j).2=(qAt w.qs i).2
  ·simp [h1,h2,bC,lj,hg,hb,stD,jr,aM,r1,mw,r2,Wo.ap,apS,hs]
  ·simp [h1,h2,bC,lj,hg,hb,stD,jr,aM,r3,mw,r4,Wo.ap,apS,hs]
theorem rD (n:Nat) {w:Wo} (hw:w.Good):cS CR CP CN n [.lst (w.fl.map flD),.lst (w.qs.map stD)]=.ok (.lst ((w.qs.map (jr w.fl)).map stD)):=by
 have hl:w.qs.length<=16777216:=by have:=hw.qsl;have:=hw.fll;omega
 have e:∀qs:List dg,(∀p∈qs,0<=p.1/\p.1<w.fl.length)->bN (.tp [0,1]) oi (fL dZ (a9 (f2 ixD (f2 ixD (af 2) (af 0)) (fC (.int 0))) (a9 (af 1) aB))) [none,none,some (.lst (w.fl.map flD))] (qs.map stD)=.ok ((qs.map (jr w.fl)).map stD):=by
  intro qs
  induction qs with
  |nil=>intro _;rfl
  |cons p qs ih=>
   intro h;obtain ⟨h0,h1⟩:=h p (by simp);obtain ⟨e,_⟩:=getFl h0 h1;have ih:=ih fun q hq=>h q (by simp [hq]);rw [List.map_cons,bN];simp [e,flD,ih,jr,stD,-List.map_map]
 simp [cS,sG,hl,e w.qs hw.qs,-List.map_map]
theorem getS {w:Wo} (h:i<w.qs.length):mx ((w.qs.map (jr w.fl)).map stD) (i:Int)=.ok (stD (jr w.fl (qAt w.qs i))):=by
 rw [jD (by simpa using h)];simp [qAt,h]
noncomputable def Wo.qU (w:Wo) (ts:List Int) (i:Nat):List Int:=(List.range i).map fun j=>tAt ts j+w.ap j i
theorem ES (n:Nat) (hne:CR≠CP) {w:Wo} (hw:w.Good) (ts:List Int) (hi:i<w.qs.length) (ht:i<=ts.length):di CR CP CN n [aF CR CP w.rows w.o,.lst ((w.qs.map (jr w.fl)).map stD),.lst (ts.map .int),.int i]=.ok (.lst ((w.qU ts i).map .int)):=by
 have hq:=hw.qsl;have hf:=hw.fll;have k1: -4611686018427387904<=(i:Int):=by omega
 have k2:(i:Int)<4611686018427387904:=by omega
 have hl:(aR 0 i).length<=16777216:=by rw [cn];omega
 have e:bN (.nm 0) oi (f2 jS (f2 ixD (af 3) (af 0)) (lp CR CP "apart" (bx CR CP CN n) (bC CR CP CN n) (af 1) (a9 (f2 ixD (af 2) (af 0)) (a9 (f2 ixD (af 2) (af 4)) aB)))) [none,some (aF CR CP w.rows w.o),some (.lst ((w.qs.map (jr w.fl)).map stD)),some (.lst (ts.map .int)),some (.int i)] (aR 0 i)=.ok ((w.qU ts i).map .int):=by
  have:=gZ (p:=.nm 0) (fe:=f2 jS (f2 ixD (af 3) (af 0)) (lp CR CP "apart" (bx CR CP CN n) (bC CR CP CN n) (af 1) (a9 (f2 ixD (af 2) (af 0)) (a9 (f2 ixD (af 2) (af 4)) aB)))) (ρ0:=[none,some (aF CR CP w.rows w.o),some (.lst ((w.qs.map (jr w.fl)).map stD)),some (.lst (ts.map .int)),some (.int i)]) (fun d=>match d with|.int j=>.int (tAt ts j.toNat+w.ap j.toNat i)|d=>d) (aR 0 i) (fun d hd=>by
   obtain ⟨j,hj⟩:=List.getElem?_of_mem hd;obtain ⟨hj,rfl⟩:=bY hj;refine ⟨[some (.int j),some (aF CR CP w.rows w.o),some (.lst ((w.qs.map (jr w.fl)).map stD)),some (.lst (ts.map .int)),some (.int i)],by simp,?_⟩
   have em:=Es CR CP CN n hne hw (j:=j) (i:=i) (by omega) hi (af 1) (f2 ixD (af 2) (af 0)) (f2 ixD (af 2) (af 4)) [some (.int j),some (aF CR CP w.rows w.o),some (.lst ((w.qs.map (jr w.fl)).map stD)),some (.lst (ts.map .int)),some (.int i)] (by simp) (by simp [getS (w:=w) (i:=j) (by omega),-List.map_map]) (by simp [getS (w:=w) hi,-List.map_map]);have et:=getT (ts:=ts) (i:=j) (by omega);rw [e_2,em];simp [et])
  rw [this,Wo.qU]
  congr 1
  unfold aR;rw [List.map_map,List.map_map];exact List.map_congr_left fun j _=>by simp
 simp [di,qZ,k1,k2,e,hl,-List.map_map]
theorem Cd (f:Fli) (cs:List dg) (t:Int):(decide (f.first<=t)&&decide (t<=f.last)&& !covB cs t)=true↔f.first<=t/\t<=f.last/\¬Cov cs t:=by
 rw [<- BU];simp [and_assoc]
theorem any_lt (xs:List Int) (t:Int) (h:xs.length<=16777216):∀(ρ:ak),bN (.nm 0) oi (f2 ltD (af 1) (af 0)) [none,some (.int t)] (xs.map .int)=.ok ((xs.map fun x=>decide (t<x)).map Dat.bl):=by
 intro _;rw [gZ (fun d=>match d with|.int a=>.bl (decide (t<a))|d=>d)]
 ·rw [List.map_map,List.map_map];rfl
 ·intro d hd;obtain ⟨p,_,rfl⟩:=List.mem_map.mp hd;exact ⟨[some (.int p),some (.int t)],by simp,by simp⟩
end
section
variable (CR CP CN:Addr)
theorem getC (h:i<cs.length):mx (cs.map stD) (i:Int)=.ok (.tup [.int (qAt cs i).1,.int (qAt cs i).2]):=getQ h
end
noncomputable def Wo.low (w:Wo) (ts:List Int) (i j:Nat):Int:=(List.range j).foldl (fun t l=>kS t (tAt ts l+w.ap l i)) (w.f i).first
theorem sy (a b:Int):a<=kS a b/\b<=kS a b/\(kS a b=a\/kS a b=b):=by unfold kS;split<;>omega
theorem Wo.pU (w:Wo) (ts:List Int) (i j:Nat):w.low ts i (j+1)=kS (w.low ts i j) (tAt ts j+w.ap j i):=by
 unfold Wo.low;rw [List.range_succ,List.foldl_append];rfl
theorem Wo.ui (w:Wo) (ts:List Int) (i:Nat):∀j,(w.f i).first<=w.low ts i j
 |0=>Int.le_refl _
 |j+1=>by
  have:=w.ui ts i j;have:=sy (w.low ts i j) (tAt ts j+w.ap j i);rw [w.pU];omega
theorem Wo.Ex (w:Wo) (ts:List Int) (i:Nat):∀j l,l<j->tAt ts l+w.ap l i<=w.low ts i j
 |0,l,h=>by omega
 |j+1,l,h=>by
  have:=sy (w.low ts i j) (tAt ts j+w.ap j i);rw [w.pU];by_cases e:l=j
  ·subst e;omega
  ·have:=w.Ex ts i j l (by omega);omega
theorem Wo.Bv (w:Wo) (ts:List Int) (i:Nat) (t:Int) (h0:(w.f i).first<=t):∀j,(∀l,l<j->tAt ts l+w.ap l i<=t)->w.low ts i j<=t
 |0,_=>h0
 |j+1,h=>by
  have:=sy (w.low ts i j) (tAt ts j+w.ap j i);have:=w.Bv ts i t h0 j fun l hl=>h l (by omega);have:=h j (by omega);rw [w.pU];omega
theorem Wo.oP (w:Wo) {ts us:List Int} (i:Nat):∀j,(∀l,l<j->tAt ts l=tAt us l)->w.low ts i j=w.low us i j
 |0,_=>rfl
 |j+1,h=>by rw [w.pU,w.pU,w.oP i j fun l hl=>h l (by omega),h j (by omega)]
noncomputable def Wo.eS (w:Wo) (ts:List Int) (i:Nat):Prop:=mv w.cs (w.low ts i i) (tAt ts i)/\tAt ts i<=(w.f i).last
noncomputable def Wo.kN (w:Wo) (ts:List Int):Prop:=ts.length=w.qs.length/\∀i,i<w.qs.length->w.eS ts i
theorem zQ (h:i<ts.length):tAt (ts++us) i=tAt ts i:=by
 unfold tAt;rw [List.getD_eq_getElem?_getD,List.getD_eq_getElem?_getD,List.getElem?_append_left h]
theorem tAt_new (ts us:List Int) (t:Int):tAt (ts++t::us) ts.length=t:=by
 unfold tAt;rw [List.getD_eq_getElem?_getD,List.getElem?_append_right (Nat.le_refl _)];simp
theorem Wo.eS.app {w:Wo} (h:w.eS ts i) (hi:i<ts.length):w.eS (ts++us) i:=by
 unfold Wo.eS at *;rw [zQ hi,w.oP (us:=ts) i i fun l hl=>zQ (by omega)];exact h
theorem Wo.eS.keep {w:Wo} (h:w.eS ts i):w.sg ts i:=by
 obtain ⟨⟨h1,h2,h3⟩,h4⟩:=h;refine ⟨⟨Int.le_trans (w.ui ts i i) h1,h4,h2⟩,fun j hj=>Int.le_trans (w.Ex ts i i j hj) h1⟩
theorem Wo.kN.keeps {w:Wo} (h:w.kN ts):w.Keeps ts:=fun i hi=>(h.2 i hi).keep
noncomputable def wj (js:List dg):Prop:=js.Pairwise (fun p q=>p.2<q.1)/\∀p∈js,p.1<p.2
theorem By (n:Nat):ixN (n+1) (-1)=some n:=by unfold ixN;simp<;>omega
@[simp] theorem getI_last (ds:List Dat) (d:Dat):mx (ds++[d]) (-1)=.ok d:=by
 unfold mx atI;rw [List.length_append,List.length_singleton,By];simp
noncomputable def nU (js done:List dg):Prop:=wj js/\(∀t,Cov js t↔Cov done t)/\js.length<=done.length/\∀j∈js,∃d∈done,d.1=j.1
theorem nU.new {js:List dg} {p:dg} (h:nU js done) (hp:p.1<p.2) (hlt:∀x∈js,x.2<p.1):nU (js++[p]) (done++[p]):=by
 obtain ⟨⟨h1,h2⟩,h3,h4,h5⟩:=h;refine ⟨⟨?_,?_⟩,?_,by simp;exact h4,?_⟩
 ·rw [List.pairwise_append];exact ⟨h1,by simp,fun a ha b hb=>by simp at hb;subst hb;exact hlt a ha⟩
 ·intro x hx;rcases List.mem_append.mp hx with e|e
  ·exact h2 x e
  ·simp at e;subst e;exact hp
 ·intro t;rw [mq,mq,h3]
 ·intro j hj;rcases List.mem_append.mp hj with e|e
  ·obtain ⟨d,m,z⟩:=h5 j e;exact ⟨d,by simp [m],z⟩
  ·simp at e;subst e;exact ⟨j,by simp,rfl⟩
theorem nU.more {js0:List dg} {q p:dg} (h:nU (js0++[q]) done) (hp:p.1<p.2) (h1:q.1<=p.1) (h2:p.1<=q.2):nU (js0++[(q.1,kS p.2 q.2)]) (done++[p]):=by
 obtain ⟨⟨a1,a2⟩,a3,a4,a5⟩:=h;have hq:q.1<q.2:=a2 q (by simp);have hm1:p.2<=kS p.2 q.2:=by unfold kS;split<;>omega
 have hm2:q.2<=kS p.2 q.2:=by unfold kS;split<;>omega
 have hm3:kS p.2 q.2=p.2\/kS p.2 q.2=q.2:=by unfold kS;split<;>omega
 rw [List.pairwise_append] at a1;refine ⟨⟨?_,?_⟩,?_,by simp at a4 ⊢;omega,?_⟩
 ·rw [List.pairwise_append];exact ⟨a1.1,by simp,fun a ha b hb=>by simp at hb;subst hb;exact a1.2.2 a ha q (by simp)⟩
 ·intro x hx;rcases List.mem_append.mp hx with e|e
  ·exact a2 x (by simp [e])
  ·simp at e;subst e;show q.1<kS p.2 q.2;omega
 ·intro t;have:=a3 t;rw [mq,As] at this;rw [mq,mq,<- this,As,As];show Cov js0 t\/q.1<=t/\t<kS p.2 q.2↔_;constructor
  ·rintro (z|z)
   ·exact .inl (.inl z)
   ·by_cases e:t<q.2
    ·exact .inl (.inr ⟨z.1,e⟩)
    ·exact .inr (by omega)
  ·rintro ((z|z)|z)
   ·exact .inl z
   ·exact .inr (by omega)
   ·exact .inr (by omega)
 ·intro j hj;rcases List.mem_append.mp hj with e|e
  ·obtain ⟨d,m,z⟩:=a5 j (by simp [e]);exact ⟨d,by simp [m],z⟩
  ·simp at e;subst e;obtain ⟨d,m,z⟩:=a5 q (by simp);exact ⟨d,by simp [m],z⟩
theorem yW {g:ak->M Flo} {c:Option Dat} {t:Int} (r:dg->Dat) (hg:∀p:dg,g [c,some (.int t),some (.int p.1),some (.int p.2)]=if p.1<=t/\t<p.2 then .ok (.rt (r p)) else .ok (.nx [c,some (.int t),some (.int p.1),some (.int p.2)])) :
  ∀(js:List dg) (z1 z2:Option Dat),(∃p∈js,(p.1<=t/\t<p.2)/\nk (.tp [2,3]) g (js.map stD) [c,some (.int t),z1,z2]=.ok (.rt (r p)))\/(¬Cov js t/\∃z1' z2',nk (.tp [2,3]) g (js.map stD) [c,some (.int t),z1,z2]=.ok (.nx [c,some (.int t),z1',z2']))
 |[],z1,z2=>.inr ⟨Au t,z1,z2,rfl⟩
 |p::js,z1,z2=>by
  have hb:jg (.tp [2,3]) (stD p) [c,some (.int t),z1,z2]=.ok [c,some (.int t),some (.int p.1),some (.int p.2)]:=by simp [stD]
  by_cases h:p.1<=t/\t<p.2
  ·refine .inl ⟨p,by simp,h,?_⟩;rw [List.map_cons,nk,hb,az,hg,if_pos h];rfl
  ·have e:nk (.tp [2,3]) g ((p::js).map stD) [c,some (.int t),z1,z2]=nk (.tp [2,3]) g (js.map stD) [c,some (.int t),some (.int p.1),some (.int p.2)]:=by
    rw [List.map_cons,nk,hb,az,hg,if_neg h];rfl
   rcases yW r hg js (some (.int p.1)) (some (.int p.2)) with ⟨q,hq,h2,h3⟩|⟨h2,h3⟩
   ·exact .inl ⟨q,by simp [hq],h2,by rw [e];exact h3⟩
   ·refine .inr ⟨fun z=>?_,by rw [e];exact h3⟩;rcases xF.mp z with z|z
    ·exact h z
    ·exact h2 z
theorem wj.tri:∀{js:List dg},wj js->∀p∈js,∀q∈js,p=q\/p.2<q.1\/q.2<p.1
 |[],_,p,hp,_,_=>by simp at hp
 |a::js,⟨h1,h2⟩,p,hp,q,hq=>by
  rw [List.pairwise_cons] at h1;rcases List.mem_cons.mp hp with e|e<;>rcases List.mem_cons.mp hq with e2|e2
  ·exact .inl (e.trans e2.symm)
  ·subst e;exact .inr (.inl (h1.1 q e2))
  ·subst e2;exact .inr (.inr (h1.1 p e))
  ·exact wj.tri (js:=js) ⟨h1.2,fun x hx=>h2 x (by simp [hx])⟩ p e q e2
theorem yP {g:ak->M Flo} {c:Option Dat} {t:Int} (hg:∀(p:dg) (f:Int),g [c,some (.int t),some (.int f),some (.int p.1),some (.int p.2)]=.ok (.nx [c,some (.int t),some (.int (if p.1<=t/\t<p.2 then p.1-1 else f)),some (.int p.1),some (.int p.2)])) :
  ∀(js:List dg) (f:Int) (z1 z2:Option Dat),∃f' z1' z2',nk (.tp [3,4]) g (js.map stD) [c,some (.int t),some (.int f),z1,z2]=.ok (.nx [c,some (.int t),some (.int f'),z1',z2'])/\((∃p∈js,(p.1<=t/\t<p.2)/\f'=p.1-1)\/(¬Cov js t/\f'=f))
 |[],f,z1,z2=>⟨f,z1,z2,rfl,.inr ⟨Au t,rfl⟩⟩
 |p::js,f,z1,z2=>by
  have hb:jg (.tp [3,4]) (stD p) [c,some (.int t),some (.int f),z1,z2]=.ok [c,some (.int t),some (.int f),some (.int p.1),some (.int p.2)]:=by simp [stD]
  obtain ⟨f',y1,y2,e,h⟩:=yP hg js (if p.1<=t/\t<p.2 then p.1-1 else f) (some (.int p.1)) (some (.int p.2));refine ⟨f',y1,y2,?_,?_⟩
  ·rw [List.map_cons,nk,hb,az,hg];exact e
  ·rcases h with ⟨q,hq,h1,h2⟩|⟨h1,h2⟩
   ·exact .inl ⟨q,by simp [hq],h1,h2⟩
   ·by_cases hp:p.1<=t/\t<p.2
    ·rw [if_pos hp] at h2;exact .inl ⟨p,by simp,hp,h2⟩
    ·rw [if_neg hp] at h2;exact .inr ⟨fun z=>(xF.mp z).elim hp h1,h2⟩
section
variable (CR CP CN:Addr)
theorem yQ (n:Nat) (cs:List dg) (hl:cs.length<64) (hs:∀p∈cs,p.1<p.2):∃js:List dg,bw CR CP CN n [.lst (cs.map stD)]=.ok (.lst (js.map stD))/\wj js/\(∀t,Cov js t↔Cov cs t)/\js.length<=cs.length:=by
 obtain ⟨ss,e,hp,hw⟩:=yi cs hl;have hlen:ss.length=cs.length:=hp.length_eq;have key:=cz (p:=.tp [2,3]) (g:=bR CR CP CN n)
  (fun k ρ=>∃js z1 z2,ρ=[some (.lst (cs.map stD)),some (.lst (js.map stD)),z1,z2]/\nU js (ss.take k)) (ss.map stD) 0 [some (.lst (cs.map stD)),some (.lst []),none,none] ⟨[],none,none,rfl,⟨by simp [wj],fun t=>Iff.rfl,by simp,by simp⟩⟩ (by
  rintro i d ρ hd ⟨js,z1,z2,rfl,hj⟩;rw [List.getElem?_map] at hd;obtain ⟨p,hpi,rfl⟩:=Option.map_eq_some_iff.mp hd;obtain ⟨hi,hpe⟩:=List.getElem?_eq_some_iff.mp hpi;have htk:ss.take (0+i+1)=ss.take (0+i)++[p]:=by rw [Nat.zero_add,List.take_succ,hpi];rfl
  have hpp:p.1<p.2:=hs p (hp.mem_iff.mp (List.mem_of_getElem? hpi));have hstart:∀j∈js,j.1<=p.1:=fun j hjm=>by
   obtain ⟨d,dm,de⟩:=hj.2.2.2 j hjm;rw [Nat.zero_add] at dm;obtain ⟨m,hm,hme⟩:=List.mem_take_iff_getElem.mp dm;have:=List.pairwise_iff_getElem.mp hw m i (by omega) hi (by omega);rw [hme,hpe] at this;omega
  have hjl:js.length<64:=by
   have:=hj.2.2.1;rw [List.length_take] at this;omega
  refine ⟨_,by simp [stD];rfl,?_⟩
  rw [htk];rcases List.eq_nil_or_concat js with e0|⟨js0,q,e0⟩
  ·subst e0;refine ⟨_,.inl (by simp [bR,cR];rfl),[p],some (.int p.1),some (.int p.2),by simp [stD],by simpa using hj.new hpp (by simp)⟩
  ·rw [List.concat_eq_append] at e0;subst e0;by_cases hc:p.1<=q.2
   ·refine ⟨_,.inl (by simp [bR,cR,stD,hc,kY,qh,By];rfl),js0++[(q.1,kS p.2 q.2)],some (.int p.1),some (.int p.2),?_,hj.more hpp (hstart q (by simp)) hc⟩
    simp [stD]
   ·have hlt:∀x∈js0++[q],x.2<p.1:=fun x hx=>by
     rcases List.mem_append.mp hx with e|e
     ·have h1:=(List.pairwise_append.mp hj.1.1).2.2 x e q (by simp);have h2:=hj.1.2 q (by simp);omega
     ·simp at e;subst e;omega
    simp at hjl;have hjl2:js0.length+1<16777216:=by omega
    refine ⟨_,.inl (by simp [bR,cR,stD,hc,hjl2];rfl),js0++[q]++[p],some (.int p.1),some (.int p.2),by simp [stD],hj.new hpp hlt⟩)
 obtain ⟨ρ',e2,js,z1,z2,rfl,hj⟩:=key;refine ⟨js,?_,hj.1,fun t=>?_,?_⟩
 ·simp [bw,gG,e,e2]
 ·rw [hj.2.1 t,Nat.zero_add,List.length_map,List.take_length];exact cov_perm hp
 ·have:=hj.2.2.1;rw [List.length_take,List.length_map] at this;omega
theorem Eo (n:Nat) (cs:List dg) (t:Int) (hl:cs.length<64) (hs:∀p∈cs,p.1<p.2):∃u,ia CR CP CN n [.lst (cs.map stD),.int t]=.ok (.int u)/\mv cs t u:=by
 obtain ⟨js,e,hj,hc,_⟩:=yQ CR CP CN n cs hl hs;rcases yW (g:=nC CR CP CN n) (c:=some (.lst (cs.map stD))) (t:=t) (fun p=>.int p.2) (fun p=>by by_cases h1:p.1<=t<;>by_cases h2:t<p.2<;>simp [nC,rV,h1,h2]) js none none with ⟨p,hp,h,e2⟩|⟨h,z1,z2,e2⟩
 ·refine ⟨p.2,by simp [ia,n5,e,e2],by omega,fun z=>?_,fun v h1 h2=>(hc v).mp ⟨p,hp,by omega,h2⟩⟩
  obtain ⟨q,hq,h3⟩:=(hc _).mpr z;rcases hj.tri p hp q hq with e|e|e
  ·subst e;omega
  ·omega
  ·have:=hj.2 p hp;omega
 ·exact ⟨t,by simp [ia,n5,e,e2],Int.le_refl _,fun z=>h ((hc t).mpr z),fun v h1 h2=>by omega⟩
end
section
variable (CR CP CN:Addr)
theorem last_ok (n:Nat) (cs:List dg) (t:Int) (hl:cs.length<64) (hs:∀p∈cs,p.1<p.2):∃u,kf CR CP CN n [.lst (cs.map stD),.int t]=.ok (if 0<=u then .int u else .non)/\uW cs t u:=by
 obtain ⟨js,e,hj,hc,_⟩:=yQ CR CP CN n cs hl hs;obtain ⟨f',z1,z2,e2,h⟩:=yP (g:=nF CR CP CN n) (c:=some (.lst (cs.map stD))) (t:=t) (fun p f=>by by_cases h1:p.1<=t<;>by_cases h2:t<p.2<;>simp [nF,rW,h1,h2]) js t none none;refine ⟨f',?_,?_⟩
 ·by_cases h0:0<=f'<;>simp [kf,qY,e,e2,h0]
 ·rcases h with ⟨p,hp,h1,h2⟩|⟨h1,h2⟩
  ·subst h2;refine ⟨by omega,fun z=>?_,fun v h3 h4=>(hc v).mp ⟨p,hp,by omega,by omega⟩⟩
   obtain ⟨q,hq,h3⟩:=(hc _).mpr z;rcases hj.tri p hp q hq with e|e|e
   ·subst e;omega
   ·have:=hj.2 p hp;omega
   ·omega
  ·subst h2;exact ⟨Int.le_refl _,fun z=>h1 ((hc _).mpr z),fun v h3 h4=>by omega⟩
end
theorem Wo.low_gapL (w:Wo) (ts:List Int) (i:Nat):(w.qU ts i).foldl kS (w.f i).first=w.low ts i i:=by
 unfold Wo.qU Wo.low;rw [List.foldl_map]
theorem Be (h:i<m):tAt (ts.take m) i=tAt ts i:=by
 unfold tAt;rw [List.getD_eq_getElem?_getD,List.getD_eq_getElem?_getD,List.getElem?_take_of_lt h]
theorem yc (h:i<ts.length):ts.take (i+1)=ts.take i++[tAt ts i]:=by
 rw [List.take_add_one,List.getElem?_eq_getElem h];simp [tAt,h]
theorem BD {p:Pat} {g:ak->M Flo} (x:Err) (P:Nat->ak->Prop):∀(ds:List Dat) (k m:Nat) (ρ:ak),P k ρ->m<ds.length ->
  (∀(i:Nat) (d:Dat) (ρ:ak),i<m->ds[i]? =some d->P (k+i) ρ->∃ρ1,jg p d ρ=.ok ρ1/\∃ρ2,g ρ1=.ok (.nx ρ2)/\P (k+i+1) ρ2) ->
  (∀(d:Dat) (ρ:ak),ds[m]? =some d->P (k+m) ρ->∃ρ1,jg p d ρ=.ok ρ1/\g ρ1=.error x)->nk p g ds ρ=.error x
 |[],_,_,_,_,h,_,_=>by simp at h
 |d::ds,k,0,ρ,h,_,_,er=>by
  obtain ⟨ρ1,e1,e2⟩:=er d ρ rfl h;rw [nk,e1,az,e2];rfl
 |d::ds,k,m+1,ρ,h,hm,st,er=>by
  obtain ⟨ρ1,e1,ρ2,e2,h2⟩:=st 0 d ρ (by omega) rfl h;have ih:=BD (p:=p) (g:=g) x P ds (k+1) m ρ2 h2 (by simpa using hm) (fun i d' ρ hi he hp=>by
   have:=st (i+1) d' ρ (by omega) (by simpa using he) (by rw [show k+(i+1)=k+1+i by omega];exact hp);rw [show k+(i+1)+1=k+1+i+1 by omega] at this;exact this) (fun d' ρ he hp=>er d' ρ (by simpa using he) (by rw [show k+(m+1)=k+1+m by omega];exact hp))
  rw [nk,e1,az,e2];exact ih
section
variable (CR CP CN:Addr)
theorem sr (n:Nat) (hne:CR≠CP) {w:Wo} (hw:w.Good) (tk:List Int) (hi:i<w.qs.length) (htk:tk.length=i) (hu:mv w.cs (w.low tk i i) u) (z8 z9:Option Dat) :
  gh CR CP CN n [some (aF CR CP w.rows w.o),some (.lst (w.fl.map flD)),some (.lst (w.cs.map stD)),some (.lst (w.qs.map stD)),some (.lst ((w.qs.map (jr w.fl)).map stD)),some (.lst (tk.map .int)),some (.int i),some (.tup [.int (qAt w.qs i).1,.int (qAt w.qs i).2]),z8,z9] =
   if (w.f i).last<u then .error (.exc CN [("flight",.int (qAt w.qs i).1),("time",.int u)]) else .ok (.nx [some (aF CR CP w.rows w.o),some (.lst (w.fl.map flD)),some (.lst (w.cs.map stD)),some (.lst (w.qs.map stD)),some (.lst ((w.qs.map (jr w.fl)).map stD)),some (.lst ((tk++[u]).map .int)),some (.int i),some (.tup [.int (qAt w.qs i).1,.int (qAt w.qs i).2]),some (flD (w.f i)),some (.int u)]):=by
 have hq:=hw.qsl;have hf:=hw.fll;have hc:=hw.csl;obtain ⟨ef,gf⟩:=hw.fAt hi;have eg:=ES CR CP CN n hne hw tk hi (by omega);have hgl:(w.qU tk i).length=i:=by simp [Wo.qU]
 have eM:maxD [.lst (.int (w.f i).first::(w.qU tk i).map .int)]=.ok (.int (w.low tk i i)):=by
  show (cV (((w.f i).first::w.qU tk i).map .int)).bind maxL=_;rw [mi,az,maxL,w.low_gapL]
 obtain ⟨u',eu,hu'⟩:=Eo CR CP CN n w.cs (w.low tk i i) (by omega) hw.cs;have hut:=hu'.uniq hu;subst hut;have c1:1+i<=16777216:=by omega
 have c2:i<16777216:=by omega
 by_cases hlt:(w.f i).last<u'
 ·rw [if_pos hlt];simp only [flD] at ef ⊢;simp [gh,pF,ef,eg,hgl,jS,c1,eM,eu,hlt,htk,c2,-e_maxL,-List.map_map]
 ·rw [if_neg hlt];simp only [flD] at ef ⊢;simp [gh,pF,ef,eg,hgl,jS,c1,eM,eu,hlt,htk,c2,-e_maxL,-List.map_map]
theorem Ak (hd:(kZ 0 (qs.map stD))[i]? =some d):i<qs.length/\d=.tup [.int i,.tup [.int (qAt qs i).1,.int (qAt qs i).2]]:=by
 obtain ⟨e,h1,rfl⟩:=kG _ _ _ _ hd;have hi:i<qs.length:=by simpa using (List.getElem?_eq_some_iff.mp h1).1
 refine ⟨hi,?_⟩
 rw [List.getElem?_map,List.getElem?_eq_getElem hi] at h1;simp at h1;rw [<- h1];simp [qAt,hi,stD]
theorem pP (n:Nat) (hne:CR≠CP) {w:Wo} (hw:w.Good) (hl:w.kN ts):br CR CP CN n [aF CR CP w.rows w.o,.lst (w.fl.map flD),.lst (w.cs.map stD),.lst (w.qs.map stD)]=.ok (.lst (ts.map .int)):=by
 have hq:=hw.qsl;have hf:=hw.fll;have es:=rD CR CP CN n hw;have htl:=hl.1;obtain ⟨ρ',e,z6,z7,z8,z9,rfl⟩:=cz (p:=.tp [6,7]) (g:=gh CR CP CN n)
  (fun i ρ=>∃(z6 z7 z8 z9:Option Dat),ρ=[some (aF CR CP w.rows w.o),some (.lst (w.fl.map flD)),some (.lst (w.cs.map stD)),some (.lst (w.qs.map stD)),some (.lst ((w.qs.map (jr w.fl)).map stD)),some (.lst ((ts.take i).map .int)),z6,z7,z8,z9]) (kZ 0 (w.qs.map stD)) 0 [some (aF CR CP w.rows w.o),some (.lst (w.fl.map flD)),some (.lst (w.cs.map stD)),some (.lst (w.qs.map stD)),some (.lst ((w.qs.map (jr w.fl)).map stD)),some (.lst []),none,none,none,none] ⟨none,none,none,none,rfl⟩ (by
  rintro i d ρ hd ⟨z6,z7,z8,z9,rfl⟩;obtain ⟨hi,rfl⟩:=Ak hd;obtain ⟨hn,hlast⟩:=hl.2 i hi;have e:=sr CR CP CN n hne hw (ts.take i) hi (by rw [List.length_take];omega) (u:=tAt ts i) (by rw [w.oP (us:=ts) i i fun l hl=>Be hl];exact hn) z8 z9;rw [if_neg (by omega)] at e;rw [Nat.zero_add,yc (by omega)];exact ⟨_,by simp<;>rfl,_,.inl e,_,_,_,_,rfl⟩)
 rw [Nat.zero_add,fG,List.length_map,<- htl,List.take_length] at e;simp [br,pX,es,e,-List.map_map]
theorem Dy (n:Nat) (hne:CR≠CP) {w:Wo} (hw:w.Good) (hi:i<w.qs.length) (ht:ts.length=i) (hle:∀j,j<i->w.eS ts j) (hn:mv w.cs (w.low ts i i) t) (hlt:(w.f i).last<t) :
  br CR CP CN n [aF CR CP w.rows w.o,.lst (w.fl.map flD),.lst (w.cs.map stD),.lst (w.qs.map stD)]=.error (.exc CN [("flight",.int (qAt w.qs i).1),("time",.int t)]):=by
 have hq:=hw.qsl;have hf:=hw.fll;have es:=rD CR CP CN n hw;have e:=BD (p:=.tp [6,7]) (g:=gh CR CP CN n) (.exc CN [("flight",.int (qAt w.qs i).1),("time",.int t)])
  (fun i ρ=>∃(z6 z7 z8 z9:Option Dat),ρ=[some (aF CR CP w.rows w.o),some (.lst (w.fl.map flD)),some (.lst (w.cs.map stD)),some (.lst (w.qs.map stD)),some (.lst ((w.qs.map (jr w.fl)).map stD)),some (.lst ((ts.take i).map .int)),z6,z7,z8,z9]) (kZ 0 (w.qs.map stD)) 0 i [some (aF CR CP w.rows w.o),some (.lst (w.fl.map flD)),some (.lst (w.cs.map stD)),some (.lst (w.qs.map stD)),some (.lst ((w.qs.map (jr w.fl)).map stD)),some (.lst []),none,none,none,none] ⟨none,none,none,none,rfl⟩ (by rw [fG,List.length_map];exact hi) (by
  rintro j d ρ hj hd ⟨z6,z7,z8,z9,rfl⟩;obtain ⟨hjq,rfl⟩:=Ak hd;obtain ⟨hn,hlast⟩:=hle j hj;have e:=sr CR CP CN n hne hw (ts.take j) hjq (by rw [List.length_take];omega) (u:=tAt ts j) (by rw [w.oP (us:=ts) j j fun l hl=>Be hl];exact hn) z8 z9;rw [if_neg (by omega)] at e;rw [Nat.zero_add,yc (by omega)];exact ⟨_,by simp<;>rfl,_,e,_,_,_,_,rfl⟩) (by
  rintro d ρ hd ⟨z6,z7,z8,z9,rfl⟩;obtain ⟨_,rfl⟩:=Ak hd;have e:=sr CR CP CN n hne hw ts hi ht hn z8 z9;rw [if_pos hlt] at e;rw [Nat.zero_add,<- ht,List.take_length];rw [ht];exact ⟨_,by simp<;>rfl,e⟩)
 simp [br,pX,es,e,-List.map_map]
end
section
variable (CR CP CN:Addr)
theorem world_ok (n:Nat) (hn:64<=n) (ns:List Int) (most:Nat) (hm:most<=40):∃(s:Int) (w:Wo),w.Good/\1<=s/\s<=100000/\w.fl.length<=most/\cx CR CP CN n [.lst (ns.map .int)]=.ok (.int s)/\cf CR CP CN n [.lst (ns.map .int),.int s]=.ok w.ruD/\ba CR CP CN n [w.ruD]=.ok (aF CR CP w.rows w.o)/\dE CR CP CN n [.lst (ns.map .int),w.ruD,.int most,.int s]=.ok (.lst (w.fl.map flD))/\eT CR CP CN n [.lst (ns.map .int),.int s]=.ok (.lst (w.cs.map stD))/\ie CR CP CN n [.lst (ns.map .int),w.ruD,.lst (w.fl.map flD)]=.ok (.lst (w.qs.map stD))/\(∀p∈w.cs,0<=p.1)/\(w.qs.map (·.1)).Perm ((List.range w.fl.length).map fun k:Nat=>(k:Int)):=by
 obtain ⟨s,es,hs0,hs1⟩:=scale_ok CR CP CN n ns;obtain ⟨k,rows,o,hk1,hk6,hr,ho,er⟩:=rules_ok CR CP CN n ns s hs0 hs1;have em:=xi CR CP CN n k rows o hk1 hk6 hr ho;obtain ⟨fl,hfl1,hfl2,ef⟩:=CS CR CP CN n ns k rows o most s hr.1 hk1 hm hs0 hs1;obtain ⟨cs,hc1,hc2,ec⟩:=Fo CR CP CN n ns s hs0 hs1;obtain ⟨qs,hq1,hq2,hq3,eq⟩:=plan_ok CR CP CN n ns rows o fl (by omega) (by omega);have hql:qs.length=fl.length:=by have:=hq1.length_eq;simpa using this
 have hqb:∀p∈qs,0<=p.1/\p.1<fl.length:=fun p hp=>by
  have:p.1∈qs.map (·.1):=List.mem_map_of_mem hp;have:=hq1.mem_iff.mp this;obtain ⟨j,hj,e⟩:=List.mem_map.mp this;have:=List.mem_range.mp hj;omega
 obtain ⟨r2,hor⟩:∃r2,(o=.non/\∀p∈qs,p.2=0)\/(o=aM r2/\cK k r2):=by
  rcases ho with h|⟨r2,h1,h2⟩
  ·exact ⟨[],.inl ⟨h,hq3 h⟩⟩
  ·exact ⟨r2,.inr ⟨h2,h1⟩⟩
 exact ⟨s,⟨k,rows,r2,o,fl,cs,qs⟩,⟨hk1,hk6,hr,hor,hfl2,by show fl.length<=60;omega,fun p hp=>(hc2 p hp).2,hc1,hqb,hql⟩,hs0,hs1,hfl1,es,er,em,ef,ec,eq,fun p hp=>(hc2 p hp).1,hq1⟩
end
theorem xh (a b:Int):kb a b<=a/\kb a b<=b/\(kb a b=a\/kb a b=b):=by unfold kb;split<;>omega
noncomputable def Wo.high (w:Wo) (ls:List Int) (i j:Nat):Int:=(List.range j).foldl (fun t l=>kb t (tAt ls (i+1+l)-w.ap i (i+1+l))) (w.f i).last
theorem Wo.oY (w:Wo) (ls:List Int) (i j:Nat):w.high ls i (j+1)=kb (w.high ls i j) (tAt ls (i+1+j)-w.ap i (i+1+j)):=by
 unfold Wo.high;rw [List.range_succ,List.foldl_append];rfl
theorem Wo.yU (w:Wo) (ls:List Int) (i:Nat):∀j,w.high ls i j<=(w.f i).last
 |0=>Int.le_refl _
 |j+1=>by
  have:=w.yU ls i j;have:=xh (w.high ls i j) (tAt ls (i+1+j)-w.ap i (i+1+j));rw [w.oY];omega
theorem Wo.BB (w:Wo) (ls:List Int) (i:Nat):∀j l,l<j->w.high ls i j<=tAt ls (i+1+l)-w.ap i (i+1+l)
 |0,l,h=>by omega
 |j+1,l,h=>by
  have:=xh (w.high ls i j) (tAt ls (i+1+j)-w.ap i (i+1+j));rw [w.oY];by_cases e:l=j
  ·subst e;omega
  ·have:=w.BB ls i j l (by omega);omega
theorem Wo.EA (w:Wo) (ls:List Int) (i:Nat) (t:Int) (h0:t<=(w.f i).last):∀j,(∀l,l<j->t<=tAt ls (i+1+l)-w.ap i (i+1+l))->t<=w.high ls i j
 |0,_=>h0
 |j+1,h=>by
  have:=xh (w.high ls i j) (tAt ls (i+1+j)-w.ap i (i+1+j));have:=w.EA ls i t h0 j fun l hl=>h l (by omega);have:=h j (by omega);rw [w.oY];omega
theorem Wo.vU (w:Wo) {ls us:List Int} (i:Nat):∀j,(∀l,l<j->tAt ls (i+1+l)=tAt us (i+1+l))->w.high ls i j=w.high us i j
 |0,_=>rfl
 |j+1,h=>by rw [w.oY,w.oY,w.vU i j fun l hl=>h l (by omega),h j (by omega)]
noncomputable def Wo.up (w:Wo) (ls:List Int) (i:Nat):Int:=w.high ls i (w.qs.length-(i+1))
noncomputable def Wo.tT (w:Wo) (ls:List Int) (i:Nat):Prop:=uW w.cs (w.up ls i) (tAt ls i)
noncomputable def Wo.lB (w:Wo) (ts ls:List Int):Prop:=ls.length=w.qs.length/\∀i,i<w.qs.length->w.tT ls i/\tAt ts i<=tAt ls i
theorem uW.ge (h:uW cs t u) (hv:v<=t) (hn:¬Cov cs v):v<=u:=Classical.byContradiction fun z=>hn (h.2.2 v (by omega) hv)
theorem Wo.up_gap (w:Wo) (ls:List Int) (h:i<j) (hj:j<w.qs.length):w.up ls i<=tAt ls j-w.ap i j:=by
 have:=w.BB ls i (w.qs.length-(i+1)) (j-(i+1)) (by omega)
 rwa [show i+1+(j-(i+1))=j by omega] at this
theorem Wo.le_up (w:Wo) (ls:List Int) (i:Nat) (t:Int) (h0:t<=(w.f i).last) (h:∀j,i<j->j<w.qs.length->t<=tAt ls j-w.ap i j):t<=w.up ls i:=w.EA ls i t h0 _ fun l hl=>h (i+1+l) (by omega) (by omega)
theorem Wo.B9 (w:Wo) (i:Nat) (h:∀j,i<j->j<w.qs.length->tAt ls j=tAt us j):w.up ls i=w.up us i:=w.vU i _ fun l hl=>h (i+1+l) (by omega) (by omega)
theorem Wo.lB.keeps {w:Wo} (hk:w.Keeps ts) (h:w.lB ts ls):w.Keeps ls:=fun i hi=>by
 obtain ⟨h1,h2⟩:=h.2 i hi;have a1:=(hk i hi).1.1;have a2:=w.yU ls i (w.qs.length-(i+1));have a3:=h1.1;unfold Wo.up at a3;refine ⟨⟨by omega,by omega,h1.2.1⟩,fun j hj=>?_⟩
 have b1:=(h.2 j (by omega)).1.1;have b2:=w.up_gap ls hj hi;omega
theorem Wo.lB.ge {w:Wo} {ts ls us:List Int} (h:w.lB ts ls) (hu:w.Keeps us):∀(m i:Nat),w.qs.length<=i+m->i<w.qs.length->tAt us i<=tAt ls i
 |0,i,h1,h2=>by omega
 |m+1,i,h1,h2=>by
  obtain ⟨k1,k2⟩:=hu i h2;refine (h.2 i h2).1.ge (w.le_up ls i _ k1.2.1 fun j hj hjl=>?_) k1.2.2;have a1:=(hu j hjl).2 i hj;have a2:=Wo.lB.ge h hu m j (by omega) hjl;omega
theorem tY {x:Int} (hi:i<ts.length):tAt (ts.set i x) j=if j=i then x else tAt ts j:=by
 unfold tAt;rw [List.getD_eq_getElem?_getD,List.getD_eq_getElem?_getD,List.getElem?_set];by_cases h:j=i
 ·subst h;simp [hi]
 ·rw [if_neg (fun z=>h z.symm),if_neg h]
section
variable (CR CP CN:Addr)
theorem um (n:Nat) (hne:CR≠CP) {w:Wo} (hw:w.Good) (hl:w.kN ts):∃ls,w.lB ts ls/\e8 CR CP CN n [aF CR CP w.rows w.o,.lst (w.fl.map flD),.lst (w.cs.map stD),.lst (w.qs.map stD)]=.ok (.lst (ls.map .int)):=by
 have hq:=hw.qsl;have hf:=hw.fll;have hc:=hw.csl;have es:=rD CR CP CN n hw;have et:=pP CR CP CN n hne hw hl;have htl:=hl.1;have hk:=hl.keeps;have hdl:(tu ((w.qs.length:Int)-1) w.qs.length).length=w.qs.length:=by simp [tu]
 obtain ⟨ρ',e,ls,z7,z8,rfl,h1,h2,h3⟩:=cz (p:=.nm 7) (g:=nE CR CP CN n)
  (fun k ρ=>∃(ls:List Int) (z7 z8:Option Dat),ρ=[some (aF CR CP w.rows w.o),some (.lst (w.fl.map flD)),some (.lst (w.cs.map stD)),some (.lst (w.qs.map stD)),some (.lst (ls.map .int)),some (.lst ((w.qs.map (jr w.fl)).map stD)),some (.int w.qs.length),z7,z8]/\ls.length=w.qs.length/\(∀i,i+k<w.qs.length->tAt ls i=tAt ts i)/\(∀i,w.qs.length<=i+k->i<w.qs.length->w.tT ls i/\tAt ts i<=tAt ls i)) (tu ((w.qs.length:Int)-1) w.qs.length) 0 [some (aF CR CP w.rows w.o),some (.lst (w.fl.map flD)),some (.lst (w.cs.map stD)),some (.lst (w.qs.map stD)),some (.lst (ts.map .int)),some (.lst ((w.qs.map (jr w.fl)).map stD)),some (.int w.qs.length),none,none] ⟨ts,none,none,rfl,htl,fun _ _=>rfl,fun i a b=>by omega⟩ (by
  rintro k d ρ hd ⟨ls,z7,z8,rfl,hll,hlo,hhi⟩;have hkm:k<w.qs.length:=by rw [<- hdl];exact (List.getElem?_eq_some_iff.mp hd).1
  obtain ⟨p,hp⟩:∃p:Nat,p+k+1=w.qs.length:=⟨w.qs.length-1-k,by omega⟩
  have hde:d=.int (p:Int):=by
   unfold tu at hd;rw [List.getElem?_map,List.getElem?_range hkm] at hd;simp at hd;rw [<- hd]
   congr 1
   omega
  subst hde;rw [Nat.zero_add] at hlo hhi ⊢;have hpq:p<w.qs.length:=by omega
  have eq:=getC hpq;obtain ⟨ef,gf⟩:=hw.fAt hpq;have ecomp:bN (.nm 0) oi (f2 tZ (f2 ixD (af 2) (af 0)) (lp CR CP "apart" (bx CR CP CN n) (bC CR CP CN n) (af 1) (a9 (f2 ixD (af 3) (af 4)) (a9 (f2 ixD (af 3) (af 0)) aB)))) [none,some (aF CR CP w.rows w.o),some (.lst (ls.map .int)),some (.lst ((w.qs.map (jr w.fl)).map stD)),some (.int p)] (aR ((p:Int)+1) k)=.ok (((List.range k).map fun l=>tAt ls (p+1+l)-w.ap p (p+1+l)).map .int):=by
   have:=gZ (p:=.nm 0) (fe:=f2 tZ (f2 ixD (af 2) (af 0)) (lp CR CP "apart" (bx CR CP CN n) (bC CR CP CN n) (af 1) (a9 (f2 ixD (af 3) (af 4)) (a9 (f2 ixD (af 3) (af 0)) aB)))) (ρ0:=[none,some (aF CR CP w.rows w.o),some (.lst (ls.map .int)),some (.lst ((w.qs.map (jr w.fl)).map stD)),some (.int p)]) (fun d=>match d with|.int j=>.int (tAt ls j.toNat-w.ap p j.toNat)|d=>d) (aR ((p:Int)+1) k) (fun d hd=>by
    obtain ⟨l,hl⟩:=List.getElem?_of_mem hd;obtain ⟨hl,rfl⟩:=vI hl;have hz:(p:Int)+1+(l:Int)=((p+1+l:Nat):Int):=by omega
    rw [hz];refine ⟨[some (.int ((p+1+l:Nat):Int)),some (aF CR CP w.rows w.o),some (.lst (ls.map .int)),some (.lst ((w.qs.map (jr w.fl)).map stD)),some (.int p)],by simp,?_⟩
    have em:=Es CR CP CN n hne hw (j:=p) (i:=p+1+l) hpq (by omega) (af 1) (f2 ixD (af 3) (af 4)) (f2 ixD (af 3) (af 0)) [some (.int ((p+1+l:Nat):Int)),some (aF CR CP w.rows w.o),some (.lst (ls.map .int)),some (.lst ((w.qs.map (jr w.fl)).map stD)),some (.int p)] (by simp) (by simp only [e_2,F9,Fb,az,e_ixL];exact getS hpq) (by simp only [e_2,F9,Fb,az,e_ixL];exact getS (by omega));have et:=getT (ts:=ls) (i:=p+1+l) (by omega);rw [e_2,em];simp only [e_2,F9,Fb,az,e_ixL,et,e_subI];rfl)
   rw [this]
   congr 1
   unfold aR;rw [List.map_map,List.map_map];refine List.map_congr_left fun l _=>?_;show Dat.int _=Dat.int _;rw [show ((p:Int)+1+(l:Int)).toNat=p+1+l by omega]
  have hup:((List.range k).map fun l=>tAt ls (p+1+l)-w.ap p (p+1+l)).foldl kb (w.f p).last=w.up ls p:=by
   unfold Wo.up Wo.high;rw [List.foldl_map,show w.qs.length-(p+1)=k by omega]
  generalize hbh:((List.range k).map fun l=>tAt ls (p+1+l)-w.ap p (p+1+l))=bh at ecomp hup;have hbl:bh.length=k:=by rw [<- hbh];simp
  have eM:minD [.lst (.int (w.f p).last::bh.map .int)]=.ok (.int (w.up ls p)):=by
   show (cV (((w.f p).last::bh).map .int)).bind minL=_;rw [mi,az,minL,hup]
  obtain ⟨u,eu,hu⟩:=last_ok CR CP CN n w.cs (w.up ls p) (by omega) hw.cs;have hkp:=hk p hpq;have hge:tAt ts p<=u:=hu.ge (w.le_up ls p _ hkp.1.2.1 fun j hj hjl=>by
   have a1:=(hk j hjl).2 p hj;have a2:=(hhi j (by omega) hjl).2;omega) hkp.1.2.2
  have hu0:0<=u:=by
   have:=gf.f0;have:=hkp.1.1;omega
  rw [if_pos hu0] at eu;have c1:1+k<=16777216:=by omega
  have r1: -4611686018427387904<=(p:Int)+1:=by omega
  have r2:(p:Int)+1<4611686018427387904:=by omega
  have r3: -4611686018427387904<=(w.qs.length:Int):=by omega
  have r4:(w.qs.length:Int)<4611686018427387904:=by omega
  have r5:((w.qs.length:Int)-((p:Int)+1)).toNat=k:=by omega
  have r6:(aR ((p:Int)+1) k).length<=16777216:=by rw [cn];omega
  have hix:ixN ls.length (p:Int)=some p:=by
   unfold ixN;rw [if_pos (by omega),if_pos (by omega)];simp
  refine ⟨[some (aF CR CP w.rows w.o),some (.lst (w.fl.map flD)),some (.lst (w.cs.map stD)),some (.lst (w.qs.map stD)),some (.lst (ls.map .int)),some (.lst ((w.qs.map (jr w.fl)).map stD)),some (.int w.qs.length),some (.int p),z8],by simp,[some (aF CR CP w.rows w.o),some (.lst (w.fl.map flD)),some (.lst (w.cs.map stD)),some (.lst (w.qs.map stD)),some (.lst ((ls.set p u).map .int)),some (.lst ((w.qs.map (jr w.fl)).map stD)),some (.int w.qs.length),some (.int p),some (.lst (bh.map .int))],.inl ?_,ls.set p u,_,_,rfl,by simpa using hll,fun i hi=>?_,fun i hi1 hi2=>?_⟩
  ·rw [List.map_set];simp only [flD] at ef;have hfl2:pw true (.lst (bh.map .int))=true:=by simp [pw]
   simp [nE,r1,r2,r3,r4,r5,r6,ecomp,hfl2,eq,ef,jS,hbl,c1,eM,eu,hix,-e_minL,-List.map_map]
  ·rw [tY (by omega),if_neg (by omega)];exact hlo i (by omega)
  ·by_cases hip:i=p
   ·subst hip;unfold Wo.tT;rw [w.B9 (us:=ls) i fun j hj hjl=>by rw [tY (by omega),if_neg (by omega)],tY (by omega),if_pos rfl];exact ⟨hu,hge⟩
   ·have:=hhi i (by omega) hi2;unfold Wo.tT at this ⊢;rw [w.B9 (us:=ls) i fun j hj hjl=>by rw [tY (by omega),if_neg (by omega)],tY (by omega),if_neg hip];exact this)
 rw [Nat.zero_add,hdl] at h2 h3;have k1: -4611686018427387904<=(w.qs.length:Int)-1:=by omega
 have k2:(w.qs.length:Int)-1<4611686018427387904:=by omega
 have k3:((w.qs.length:Int)-1- -1).toNat=w.qs.length:=by omega
 have k4:((w.qs.length:Int)-1+1).toNat=w.qs.length:=by omega
 refine ⟨ls,⟨h1,fun i hi=>h3 i (by omega) hi⟩,?_⟩
 have e3:rng3 [.int ((w.qs.length:Int)-1),.int (-1),.int (-1)]=.ok (tu ((w.qs.length:Int)-1) w.qs.length):=by
  rw [e_rng3 (by simp only [Ck,Bool.and_eq_true,decide_eq_true_eq];exact ⟨by omega,by omega⟩) (by decide),k3]
 simp [e8,qW,et,es,e3,e,-e_rng3,-List.map_map]
end
theorem mv.le (h:mv cs t u) (hv:t<=v) (hn:¬Cov cs v):u<=v:=Classical.byContradiction fun z=>hn (h.2.2 v hv (by omega))
theorem Wo.least_le {w:Wo} {ts ls:List Int} {i:Nat} (hk:∀j,j<i->w.sg ls j) (ht:∀j,j<i->w.eS ts j):∀(m j:Nat),j<=m->j<i->tAt ts j<=tAt ls j
 |m,j,hjm,hj=>by
  obtain ⟨⟨k1,k2,k3⟩,k4⟩:=hk j hj;refine (ht j hj).1.le (w.Bv ts j _ k1 j fun l hl=>?_) k3;have a:=k4 l hl;cases m with
  |zero=>omega
  |succ m=>
   have:=Wo.least_le hk ht m l (by omega) (by omega);omega
theorem Wo.never {w:Wo} (hk:w.Keeps ls) (hi:i<w.qs.length) (ht:∀j,j<i->w.eS ts j) (hn:mv w.cs (w.low ts i i) t):t<=(w.f i).last:=by
 obtain ⟨⟨k1,k2,k3⟩,k4⟩:=hk i hi;have:=hn.le (w.Bv ts i _ k1 i fun l hl=>by
  have a:=k4 l hl;have:=Wo.least_le (fun j hj=>hk j (by omega)) ht l l (Nat.le_refl _) hl;omega) k3
 omega
noncomputable def Fli.uo (f:Fli) (t:Int):Fli:=⟨f.kind,t,f.last,f.due,f.price⟩
theorem Fli.mh (f:Fli) (t:Int):(f.uo t).kind=f.kind:=rfl
noncomputable def Wo.put (w:Wo) (p:Nat) (f:Fli):Wo:=⟨w.k,w.rows,w.r2,w.o,w.fl.set (qAt w.qs p).1.toNat f,w.cs,w.qs⟩
noncomputable def Once (w:Wo):Prop:=∀i j,i<w.qs.length->j<w.qs.length->(qAt w.qs i).1=(qAt w.qs j).1->i=j
theorem once_of {w:Wo} (h:(w.qs.map (·.1)).Perm ((List.range w.fl.length).map fun k:Nat=>(k:Int))):Once w:=by
 have hn:(w.qs.map (·.1)).Nodup:=h.nodup_iff.mpr (List.pairwise_map.mpr (List.nodup_range.imp fun {a b} h z=>h (by omega)));have key:∀i j,i<j->j<w.qs.length->(qAt w.qs i).1≠(qAt w.qs j).1:=fun i j hij hj=>by
  have hi:i<w.qs.length:=by omega
  have:=List.pairwise_iff_getElem.mp hn i j (by simpa using hi) (by simpa using hj) hij;simpa [qAt,hi,hj] using this
 intro i j hi hj e;rcases Nat.lt_trichotomy i j with z|z|z
 ·exact absurd e (key i j z hj)
 ·exact z
 ·exact absurd e.symm (key j i z hi)
theorem xp {x:Fli} {a:Int} (hm:m<fl.length):sj (fl.set m x) a=if a.toNat=m then x else sj fl a:=by
 unfold sj;rw [List.getElem?_set];by_cases h:m=a.toNat
 ·subst h;simp [hm]
 ·rw [if_neg h,if_neg (fun z=>h z.symm)]
section
variable {w:Wo} (hw:w.Good) (ho:Once w) (hp:p<w.qs.length) {f:Fli} (hf:f.kind=(w.f p).kind) (hg:g.kind=(w.f p).kind)
include hw hp
theorem DO:(qAt w.qs p).1.toNat<w.fl.length:=by
 have:=hw.qs _ (jk hp);omega
theorem put_p:(w.put p f).f p=f:=by
 show sj (w.fl.set _ _) (qAt w.qs p).1=_;rw [xp (DO hw hp),if_pos rfl]
include hf
theorem put_kind (a:Int):(sj (w.put p f).fl a).kind=(sj w.fl a).kind:=by
 show (sj (w.fl.set _ _) a).kind=_;rw [xp (DO hw hp)];split
 ·rename_i h;rw [hf];show (sj w.fl (qAt w.qs p).1).kind=_;unfold sj;rw [h]
 ·rfl
theorem DQ (j i:Nat):(w.put p f).ap j i=w.ap j i:=by
 have h:∀q,jr (w.put p f).fl q=jr w.fl q:=fun q=>by unfold jr;rw [put_kind hw hp hf]
 show apS w.rows w.r2 (jr (w.put p f).fl (qAt w.qs j)) (jr (w.put p f).fl (qAt w.qs i))=_;rw [h,h];rfl
theorem put_good (gf:pL w.k f):(w.put p f).Good:=by
 refine ⟨hw.k1,hw.k6,hw.rows,hw.o,fun x hx=>?_,by show (w.fl.set _ _).length<=60;rw [List.length_set];exact hw.fll,hw.cs,hw.csl,fun q hq=>by show _/\_<((w.fl.set _ _).length:Int);rw [List.length_set];exact hw.qs q hq,by show _=(w.fl.set _ _).length;rw [List.length_set];exact hw.qsl⟩
 rcases List.mem_or_eq_of_mem_set hx with h|h
 ·exact hw.fl x h
 ·rw [h];exact gf
include ho
omit hf
theorem put_f (hi:i<w.qs.length) (hip:i≠p):(w.put p f).f i=w.f i:=by
 show sj (w.fl.set _ _) (qAt w.qs i).1=_;rw [xp (DO hw hp),if_neg]
 ·rfl
 ·intro z;have a:=hw.qs _ (jk hp);have b:=hw.qs _ (jk hi);exact hip (ho i p hi hp (by omega))
include hf
theorem wO (hi:i<w.qs.length) (hip:i≠p) (xs:List Int):(w.put p f).sg xs i↔w.sg xs i:=by
 unfold Wo.sg;rw [put_f hw ho hp hi hip];simp only [DQ hw hp hf];rfl
omit ho
theorem yr (xs:List Int):(w.put p f).sg xs p↔(f.first<=tAt xs p/\tAt xs p<=f.last/\¬Cov w.cs (tAt xs p))/\∀j,j<p->tAt xs j+w.ap j p<=tAt xs p:=by
 unfold Wo.sg;rw [put_p hw hp];simp only [DQ hw hp hf];rfl
end
theorem Ej (n:Nat):∀cs:List dg,kU (cs.map stD) (n+1)=true
 |[]=>by simp [kU]
 |p::cs=>by simp [kU,okE,stD,Ej n cs]
theorem El (n:Nat):∀cs:List Fli,kU (cs.map flD) (n+1)=true
 |[]=>by simp [kU]
 |p::cs=>by simp [kU,okE,flD,El n cs]
theorem EY:∀cs:List dg,ot (cs.map stD) (cs.map stD)=true
 |[]=>by simp [ot]
 |p::cs=>by simp [ot,eqD,stD,EY cs]
theorem F7:∀cs:List Fli,ot (cs.map flD) (cs.map flD)=true
 |[]=>by simp [ot]
 |p::cs=>by simp [ot,eqD,flD,F7 cs]
theorem xa (n:Nat):∀ts:List Int,kU (ts.map .int) (n+1)=true
 |[]=>by simp [kU]
 |p::cs=>by simp [kU,okE,xa n cs]
theorem Aj:∀cs:List Int,ot (cs.map .int) (cs.map .int)=true
 |[]=>by simp [ot]
 |p::cs=>by simp [ot,eqD,Aj cs]
theorem Bt (ts:List Int):neM (.lst (ts.map .int)) (.lst (ts.map .int))=.ok (.bl false):=by
 have h:okE (.lst (ts.map .int)) 40=true:=by simp [okE,xa]
 unfold neM;rw [h];simp [eqD,Aj]
noncomputable def bq (ts ls:List Int):List Dat:=l3 (ts.map .int) (ls.map .int)
theorem Bp (h1:i<ts.length) (h2:i<ls.length):mx (bq ts ls) (i:Int)=.ok (.tup [.int (tAt ts i),.int (tAt ls i)]):=by
 have hlen:i<(bq ts ls).length:=by unfold bq;rw [jt];simp;omega
 rw [jD hlen];have:=wk (ts.map Dat.int) (ls.map Dat.int) i;have e:(bq ts ls)[i]? =some (.tup [.int (tAt ts i),.int (tAt ls i)]):=by
  unfold bq;rw [this];simp [tAt,h1,h2]
 rw [List.getElem?_eq_getElem hlen] at e;rw [Option.some.inj e]
section
variable {w:Wo} (hw:w.Good) (ho:Once w) (hp:p<w.qs.length) (hl:w.kN ts)
include hw hp hl
include ho
end
section
variable (CR CP CN:Addr)
theorem EU (n:Nat) (hne:CR≠CP) {w:Wo} (hw:w.Good) (hl:w.kN ts):∃ls,w.lB ts ls/\cT CR CP CN n [aF CR CP w.rows w.o,.lst (w.fl.map flD),.lst (w.cs.map stD),.lst (w.qs.map stD)]=.ok (.lst (bq ts ls)):=by
 obtain ⟨ls,hla,ela⟩:=um CR CP CN n hne hw hl;have et:=pP CR CP CN n hne hw hl;have h1:=hl.1;have h2:=hla.1;have hq:=hw.qsl;have hf:=hw.fll;refine ⟨ls,hla,?_⟩
 have hz:(l3 (ts.map Dat.int) (ls.map Dat.int)).length<=16777216:=by rw [jt];simp;omega
 simp [cT,rP,fLZ,et,ela,hz,bq]
theorem ue (n:Nat):∀ts ls:List Int,kU (bq ts ls) (n+1)=true
 |[],_=>by simp [kU,bq,l3]
 |_::_,[]=>by simp [kU,bq,l3]
 |t::ts,l::ls=>by
  have ih:=ue n ts ls;unfold bq at ih ⊢;simp [kU,l3,okE,ih]
theorem yZ:∀ts ls:List Int,ot (bq ts ls) (bq ts ls)=true
 |[],_=>by simp [ot,bq,l3]
 |_::_,[]=>by simp [ot,bq,l3]
 |t::ts,l::ls=>by
  have ih:=yZ ts ls;unfold bq at ih ⊢;simp [ot,l3,eqD,ih]
end
section
variable (CR CP CN:Addr)
theorem Eg (n:Nat) (cs:List dg) (t:Int) (hl:cs.length<64):kg CR CP CN n [.lst (cs.map stD),.int t]=.ok (.bl (!covB cs t)):=by
 have hl2:cs.length<=16777216:=by omega
 have e:bN (.tp [0,1]) oi (jd leD ltD (af 0) (af 2) (af 1)) [none,none,some (.int t)] (cs.map stD)=.ok ((cs.map fun p=>decide (p.1<=t)&&decide (t<p.2)).map Dat.bl):=by
  rw [gZ (fun d=>match d with|.tup [.int a,.int b]=>.bl (decide (a<=t)&&decide (t<b))|d=>d)]
  ·rw [List.map_map,List.map_map];rfl
  ·intro d hd;obtain ⟨p,_,rfl⟩:=List.mem_map.mp hd;refine ⟨[some (.int p.1),some (.int p.2),some (.int t)],by simp [stD],?_⟩
   by_cases h1:p.1<=t<;>simp [stD,h1]
 simp [kg,uC,e,hl2,-List.map_map];unfold covB;simp
theorem Dn (n:Nat) (f:Fli) (cs:List dg) (t:Int) (hl:cs.length<64):fj CR CP CN n [flD f,.lst (cs.map stD),.int t]=.ok (.bl (decide (f.first<=t)&&decide (t<=f.last)&& !covB cs t)):=by
 have e:=Eg CR CP CN n cs t hl;by_cases h1:f.first<=t<;>by_cases h2:t<=f.last<;>simp [fj,lQ,flD,e,h1,h2]
theorem Bx (n:Nat) (hne:CR≠CP) {w:Wo} (hw:w.Good) (ts:List Int) (ht:ts.length=w.qs.length):∃b,e9 CR CP CN n [aF CR CP w.rows w.o,.lst (w.fl.map flD),.lst (w.cs.map stD),.lst (w.qs.map stD),.lst (ts.map .int)]=.ok (.bl b)/\(b=true↔w.Keeps ts):=by
 have hq:=hw.qsl;have hf:=hw.fll;have hc:=hw.csl;have es:=rD CR CP CN n hw;have key:=BE (p:=.tp [6,7]) (g:=lW CR CP CN n) (.bl false)
  (fun i ρ=>∃(z6 z7:Option Dat),ρ=[some (aF CR CP w.rows w.o),some (.lst (w.fl.map flD)),some (.lst (w.cs.map stD)),some (.lst (w.qs.map stD)),some (.lst (ts.map .int)),some (.lst ((w.qs.map (jr w.fl)).map stD)),z6,z7]) (fun i=>w.sg ts i) (kZ 0 (ts.map .int)) 0 [some (aF CR CP w.rows w.o),some (.lst (w.fl.map flD)),some (.lst (w.cs.map stD)),some (.lst (w.qs.map stD)),some (.lst (ts.map .int)),some (.lst ((w.qs.map (jr w.fl)).map stD)),none,none] ⟨none,none,rfl⟩ (by
  rintro i d ρ hd ⟨z6,z7,rfl⟩;obtain ⟨e,h1,rfl⟩:=kG _ _ _ _ hd;have hi:i<ts.length:=by simpa using (List.getElem?_eq_some_iff.mp h1).1
  have hiq:i<w.qs.length:=by omega
  have he:e=.int (tAt ts i):=by
   rw [List.getElem?_map,List.getElem?_eq_getElem hi] at h1;simp at h1;rw [<- h1];simp [tAt,hi]
  subst he;rw [Nat.zero_add];refine ⟨[some (aF CR CP w.rows w.o),some (.lst (w.fl.map flD)),some (.lst (w.cs.map stD)),some (.lst (w.qs.map stD)),some (.lst (ts.map .int)),some (.lst ((w.qs.map (jr w.fl)).map stD)),some (.int i),some (.int (tAt ts i))],by simp,?_⟩
  have eq:=getQ hiq;obtain ⟨ef,gf⟩:=hw.fAt hiq;have ew:=Dn CR CP CN n (w.f i) w.cs (tAt ts i) (by omega);have eg:=ES CR CP CN n hne hw ts hiq (by omega);have hgl:(w.qU ts i).length=i:=by simp [Wo.qU]
  have ea:=any_lt (w.qU ts i) (tAt ts i) (by omega) [];have hw1:=Cd (w.f i) w.cs (tAt ts i);generalize hB:(decide ((w.f i).first<=tAt ts i)&&decide (tAt ts i<=(w.f i).last)&& !covB w.cs (tAt ts i))=B at ew hw1;have hgi:i<=16777216:=by omega
  have c1:lV CR CP CN n [some (aF CR CP w.rows w.o),some (.lst (w.fl.map flD)),some (.lst (w.cs.map stD)),some (.lst (w.qs.map stD)),some (.lst (ts.map .int)),some (.lst ((w.qs.map (jr w.fl)).map stD)),some (.int i),some (.int (tAt ts i))]=if B=true then .ok (.nx [some (aF CR CP w.rows w.o),some (.lst (w.fl.map flD)),some (.lst (w.cs.map stD)),some (.lst (w.qs.map stD)),some (.lst (ts.map .int)),some (.lst ((w.qs.map (jr w.fl)).map stD)),some (.int i),some (.int (tAt ts i))]) else .ok (.rt (.bl false)):=by
   simp only [stD] at eq;cases B<;>simp [lV,eq,ef,ew,stD]
  have c2:fH CR CP CN n [some (aF CR CP w.rows w.o),some (.lst (w.fl.map flD)),some (.lst (w.cs.map stD)),some (.lst (w.qs.map stD)),some (.lst (ts.map .int)),some (.lst ((w.qs.map (jr w.fl)).map stD)),some (.int i),some (.int (tAt ts i))]=if ((w.qU ts i).map fun x=>decide (tAt ts i<x)).any id=true then .ok (.rt (.bl false)) else .ok (.nx [some (aF CR CP w.rows w.o),some (.lst (w.fl.map flD)),some (.lst (w.cs.map stD)),some (.lst (w.qs.map stD)),some (.lst (ts.map .int)),some (.lst ((w.qs.map (jr w.fl)).map stD)),some (.int i),some (.int (tAt ts i))]):=by
   simp [fH,eg,ea,hgl,hgi,-List.map_map,-List.any_map,-List.any_eq_true]
  have hany:(((w.qU ts i).map fun x=>decide (tAt ts i<x)).any id=true)↔¬∀j,j<i->tAt ts j+w.ap j i<=tAt ts i:=by
   constructor
   ·intro h hall;simp [Wo.qU] at h;obtain ⟨j,hj,hlt⟩:=h;have:=hall j hj;omega
   ·intro h;simp [Wo.qU];refine Classical.byContradiction fun hn=>h fun j hj=>?_;refine Classical.byContradiction fun hz=>hn ⟨j,hj,by omega⟩
  unfold lW;rw [e_seq,c1];by_cases hb:B=true
  ·rw [if_pos hb,az];show _\/(_/\fH CR CP CN n _=_)
   rw [c2];by_cases ha:((w.qU ts i).map fun x=>decide (tAt ts i<x)).any id=true
   ·exact .inr ⟨fun z=>(hany.mp ha) z.2,by rw [if_pos ha]⟩
   ·refine .inl ⟨⟨hw1.mp hb,Classical.byContradiction fun z=>ha (hany.mpr z)⟩,_,?_,some (.int i),some (.int (tAt ts i)),rfl⟩;show fH CR CP CN n _=_;rw [c2,if_neg ha]
  ·rw [if_neg hb,az];exact .inr ⟨fun z=>hb (hw1.mpr z.1),rfl⟩)
 rw [fG,List.length_map,ht] at key;rcases key with ⟨h1,ρ',e,z6,z7,rfl⟩|⟨⟨i,hi,h1⟩,e⟩
 ·exact ⟨true,by simp [e9,lh,es,e,-List.map_map],by simp only [true_iff];intro i hi;have:=h1 i hi;rwa [Nat.zero_add] at this⟩
 ·exact ⟨false,by simp [e9,lh,es,e,-List.map_map],by simp only [Bool.false_eq_true,false_iff];intro z;rw [Nat.zero_add] at h1;exact h1 (z i hi)⟩
end
noncomputable def uo (f:Fli) (t:Int):Int:=f.price*kS 0 (t-f.due)
noncomputable def zd (fl:List Fli):List dg->List Int->List Int
 |p::qs,t::ts=>uo (sj fl p.1) t::zd fl qs ts
 |_,_=>[]
section
variable (CR CP CN:Addr)
theorem late_ok (n:Nat) (f:Fli) (t:Int) (h0:0<=f.price) (h1:f.price<=1000000000):ib CR CP CN n [flD f,.int t]=.ok (.int (uo f t)):=by
 have c1: -18446744073709551616<f.price:=by omega
 have c2:f.price<18446744073709551616:=by omega
 simp [ib,qX,flD,c1,c2,uo]
theorem zg (n:Nat) (k:Nat) (fl:List Fli) (hfl:∀f∈fl,pL k f):∀(qs:List dg) (ts:List Int),(∀p∈qs,0<=p.1/\p.1<fl.length)->bN (.tp [0,1]) oi (fL (ib CR CP CN n) (a9 (f2 ixD (af 2) (f2 ixD (af 0) (fC (.int 0)))) (a9 (af 1) aB))) [none,none,some (.lst (fl.map flD))] (l3 (qs.map stD) (ts.map .int))=.ok ((zd fl qs ts).map .int)
 |[],ts,_=>by rw [List.map_nil,l3.eq_def];rfl
 |p::qs,[],_=>by rw [List.map_nil,List.map_cons,l3.eq_def];rfl
 |p::qs,t::ts,h=>by
  obtain ⟨hp0,hp1⟩:=h p (by simp);obtain ⟨e,hm⟩:=getFl hp0 hp1;have g:=hfl _ hm;have el:=late_ok CR CP CN n (sj fl p.1) t g.p0 g.p1;have ih:=zg n k fl hfl qs ts fun q hq=>h q (by simp [hq]);rw [List.map_cons,List.map_cons,l3,bN];simp [stD,e,el,ih,zd]
theorem Di:∀(ds es:List Dat),(l3 ds es).length<=ds.length
 |[],_=>by rw [l3.eq_def];simp
 |_::_,[]=>by rw [l3.eq_def];simp
 |d::ds,e::es=>by rw [l3,List.length_cons,List.length_cons];have:=Di ds es;omega
theorem Fl (n:Nat) (k:Nat) (fl:List Fli) (hfl:∀f∈fl,pL k f) (qs:List dg) (ts:List Int) (h:∀p∈qs,0<=p.1/\p.1<fl.length) (hl:qs.length<=1000):mf CR CP CN n [.lst (fl.map flD),.lst (qs.map stD),.lst (ts.map .int)]=.ok (.int (zd fl qs ts).sum):=by
 have hz:=Di (qs.map stD) (ts.map .int);rw [List.length_map] at hz;have hz2:(l3 (qs.map stD) (ts.map .int)).length<=16777216:=by omega
 simp [mf,uD,hz2,zg CR CP CN n k fl hfl qs ts h]
end
theorem w4 (k:Nat) (fl:List Fli) (hfl:∀f∈fl,pL k f):∀(qs:List dg) (ts us:List Int),(∀p∈qs,0<=p.1/\p.1<fl.length)->ts.length=qs.length->us.length=qs.length->(∀i,i<qs.length->tAt ts i<=tAt us i)->(zd fl qs ts).sum<=(zd fl qs us).sum
 |[],_,_,_,_,_,_=>by simp [zd]
 |p::qs,[],_,_,h,_,_=>by simp at h
 |p::qs,_::_,[],_,_,h,_=>by simp at h
 |p::qs,t::ts,u::us,hq,h1,h2,h=>by
  obtain ⟨hp0,hp1⟩:=hq p (by simp);have g:=hfl _ (getFl hp0 hp1).2;have ih:=w4 k fl hfl qs ts us (fun q hq'=>hq q (by simp [hq'])) (by simpa using h1) (by simpa using h2) fun i hi=>by
   have:=h (i+1) (by simpa using hi);simpa [tAt] using this
  have h0:=h 0 (by simp);have h0':t<=u:=by simpa [tAt] using h0
  have hl:uo (sj fl p.1) t<=uo (sj fl p.1) u:=by
   unfold uo;refine Int.mul_le_mul_of_nonneg_left ?_ g.p0;unfold kS;split<;>split<;>omega
  simp [zd];omega
section
variable {w:Wo} (hw:w.Good) (ho:Once w) (hp:p<w.qs.length) {f:Fli} (hf:f.kind=(w.f p).kind) (hg:g.kind=(w.f p).kind)
include hw hp
include hf
include ho
omit hf
include hf
omit ho
end
section
variable {w:Wo} (hw:w.Good) (ho:Once w) (hp:p<w.qs.length) (t:Int)
include hw hp
theorem EB (h0:0<=t) (h1:t<=(w.f p).last):(w.put p ((w.f p).uo t)).Good:=by
 have g:=(hw.fAt hp).2;exact put_good hw hp rfl ⟨g.k0,g.k1,h0,h1,g.l1,g.d0,g.d1,g.p0,g.p1⟩
include ho
theorem CL (hk:w.Keeps ls) (h2:t<=tAt ls p):(w.put p ((w.f p).uo t)).Keeps ls:=fun i hi=>by
 by_cases hip:i=p
 ·subst hip;have:=hk i hi;exact (yr hw hp (Fli.mh _ t) ls).mpr ⟨⟨h2,this.1.2⟩,this.2⟩
 ·exact (wO hw ho hp (Fli.mh _ t) hi hip ls).mpr (hk i hi)
theorem EC (h0:(w.f p).first<=t) (hk:(w.put p ((w.f p).uo t)).Keeps us):w.Keeps us:=fun i hi=>by
 have:=hk i hi;by_cases hip:i=p
 ·subst hip;obtain ⟨⟨a1,a2,a3⟩,a4⟩:=(yr hw hp (Fli.mh _ t) us).mp this;have a1:t<=tAt us i:=a1;exact ⟨⟨by omega,a2,a3⟩,a4⟩
 ·exact (wO hw ho hp (Fli.mh _ t) hi hip us).mp this
theorem late_all (hl:w.kN ts) (hla:w.lB ts ls) (h1:tAt ts p<=t) (hn:¬Cov w.cs t) (hu:(w.put p ((w.f p).uo t)).kN us):tAt us p=t/\w.Keeps us/\∀i,i<w.qs.length->tAt ts i<=tAt us i/\tAt us i<=tAt ls i:=by
 have hkt:=hl.keeps;have hf:(w.f p).first<=t:=by have:=(hkt p hp).1.1;omega
 have hku:=EC hw ho hp t hf hu.keeps;refine ⟨?_,hku,fun i hi=>⟨Wo.least_le (i:=w.qs.length) (fun j hj=>hku j hj) (fun j hj=>hl.2 j hj) i i (Nat.le_refl _) hi,hla.ge hku w.qs.length i (by omega) hi⟩⟩
 have hb:∀j,j<p->tAt us j<=tAt ts j:=fun j hj=>Wo.least_le (w:=w.put p ((w.f p).uo t)) (i:=p) (fun l hl=>(wO hw ho hp (Fli.mh _ t) (by omega) (by omega) ts).mpr (hkt l (by omega))) (fun l hl=>hu.2 l (show l<w.qs.length by omega)) j j (Nat.le_refl _) hj;obtain ⟨hn2,_⟩:=hu.2 p hp;have a1:tAt us p<=t:=hn2.le ((w.put p ((w.f p).uo t)).Bv us p t (by rw [put_p hw hp];exact Int.le_refl _) p fun l hl=>by
  rw [DQ hw hp (Fli.mh _ t)];have:=hb l hl;have:=(hkt p hp).2 l hl;omega) hn
 have a2:=(w.put p ((w.f p).uo t)).ui us p p;rw [put_p hw hp] at a2;have a3:t<=(w.put p ((w.f p).uo t)).low us p p:=a2;have:=hn2.1;omega
end
section
variable (CR CP CN:Addr)
theorem EV (n:Nat) (f:Fli) (t:Int):gB CR CP CN n [flD f,.int t]=.ok (flD (f.uo t)):=by
 simp [gB,n6,flD,Fli.uo]
theorem with_ok (n:Nat) (hne:CR≠CP) {w:Wo} (hw:w.Good) (hl:w.kN ts) (hp:p<w.qs.length) (t:Int) (hla:w.lB ts ls) (ef:cT CR CP CN n [aF CR CP w.rows w.o,.lst (w.fl.map flD),.lst (w.cs.map stD),.lst (w.qs.map stD)]=.ok (.lst (bq ts ls))) (h1:tAt ts p<=t) (h2:t<=tAt ls p) (hn:covB w.cs t=false) (hg:(w.put p ((w.f p).uo t)).Good) (hu:(w.put p ((w.f p).uo t)).kN us):iR CR CP CN n [aF CR CP w.rows w.o,.lst (w.fl.map flD),.lst (w.cs.map stD),.lst (w.qs.map stD),.int p,.int t]=.ok (.lst (us.map .int)):=by
 have hq:=hw.qsl;have hf:=hw.fll;have hc:=hw.csl;have l1:=hl.1;have l2:=hla.1;have ep:md CR CP CN n [.lst (w.fl.map flD),.int p]=.ok (.bl true):=by
  have:(p:Int)<w.fl.length:=by omega
  have h0:(0:Int)<=p:=by omega
  simp [md,sH,this,h0]
 have eo:=Eg CR CP CN n w.cs t (by omega);rw [hn] at eo;have eg:=Bp (ts:=ts) (ls:=ls) (i:=p) (by omega) (by omega);have eq:=getC hp;obtain ⟨h3,h4⟩:=hw.qs _ (jk hp);obtain ⟨ek,_⟩:=hw.fAt hp;have el:=EV CR CP CN n (w.f p) t;have ew:=pP CR CP CN n hne hg hu;have hix:ixN w.fl.length (qAt w.qs p).1=some (qAt w.qs p).1.toNat:=by
  unfold ixN;rw [if_pos h3,if_pos (by omega)]
 have hls:w.fl.length<=16777216:=by omega
 have hfla:kY (flD ((w.f p).uo t))=true:=by simp [flD,kY,qh]
 have ew':br CR CP CN n [aF CR CP w.rows w.o,.lst ((w.fl.map flD).set (qAt w.qs p).1.toNat (flD ((w.f p).uo t))),.lst (w.cs.map stD),.lst (w.qs.map stD)]=.ok (.lst (us.map .int)):=by
  rw [<- List.map_set];exact ew
 generalize flD ((w.f p).uo t)=fd at *;generalize hkk:(qAt w.qs p).1=kk at *;simp [iR,ph,qp,qo,ep,ef,eg,h1,h2,eo,eq,hls,ek,el,hix,hfla,ew']
end
theorem xu (l:List Int) (j:Nat):(l.map Dat.int).eraseIdx j=(l.eraseIdx j).map Dat.int:=by
 rw [List.eraseIdx_eq_take_drop_succ,List.eraseIdx_eq_take_drop_succ];simp
theorem popD_in {k:Int} (h0:0<=k) (h1:k<ls.length) (hl:ls.length<=16777216):zY (ls.map .int) (.int k)=.ok (.int (ls[k.toNat]'(by omega)),(ls.eraseIdx k.toNat).map .int):=by
 have hj:k.toNat<ls.length:=by omega
 have hn:¬16777216<ls.length:=by omega
 simp [zY,ixN,h0,h1,hj,hn,xu]
theorem uH:∀{ls:List Int} {j:Nat} (h:j<ls.length),(ls[j]::ls.eraseIdx j).Perm ls
 |a::ls,0,h=>by simp
 |a::ls,j+1,h=>by
  have:=uH (ls:=ls) (j:=j) (by simpa using h);simp only [List.getElem_cons_succ,List.eraseIdx_cons_succ];exact (List.Perm.swap _ _ _).trans (this.cons a)
section
variable (CR CP CN:Addr)
theorem rowF (n:Nat) (k:Nat) (hk:k<=6) (c:Int) (rows:List Dat) (z3 z5:Option Dat):∃(r:List Int) (c':Int) (y5:Option Dat),rz k r/\nk (.nm 5) (jG CR CP CN n) (aR 0 k) [some (.int c),some (.int k),some (.lst rows),z3,some (.lst []),z5]=.ok (.nx [some (.int c'),some (.int k),some (.lst rows),z3,some (mw r),y5]):=by
 obtain ⟨ρ',e,r,c',y5,rfl,h1,h2⟩:=cz (p:=.nm 5) (g:=jG CR CP CN n)
  (fun i ρ=>∃(r:List Int) (c:Int) (z5:Option Dat),ρ=[some (.int c),some (.int k),some (.lst rows),z3,some (mw r),z5]/\r.length=i/\∀x∈r,0<=x/\x<=1000000) (aR 0 k) 0 _ ⟨[],c,z5,rfl,rfl,by simp⟩ (by
  rintro i d ρ hd ⟨r,c,z5,rfl,hr1,hr2⟩;obtain ⟨hi,rfl⟩:=bY hd;have hl:r.length<16777216:=by omega
  refine ⟨[some (.int c),some (.int k),some (.lst rows),z3,some (mw r),some (.int i)],by simp,[some (.int (c/1000001)),some (.int k),some (.lst rows),z3,some (mw (r++[c%1000001])),some (.int i)],.inl ?_,r++[c%1000001],c/1000001,some (.int i),rfl,by simp;omega,fun y hy=>?_⟩
  ·simp [jG,hl,mw]
  ·rcases List.mem_append.mp hy with z|z
   ·exact hr2 y z
   ·simp at z;subst z;omega)
 rw [Nat.zero_add,cn] at h1;exact ⟨r,c',y5,⟨h1,h2⟩,e⟩
theorem rowsF (n:Nat) (k:Nat) (hk:k<=6) (c:Int):∃rows,cK k rows/\ic CR CP CN n [.int c,.int k]=.ok (aM rows):=by
 have k1: -4611686018427387904<=(k:Int):=by omega
 have k2:(k:Int)<4611686018427387904:=by omega
 obtain ⟨ρ',e,rows,c',y3,y4,y5,rfl,h1,h2⟩:=cz (p:=.nm 3) (g:=nG CR CP CN n)
  (fun i ρ=>∃(rows:List (List Int)) (c:Int) (z3 z4 z5:Option Dat),ρ=[some (.int c),some (.int k),some (aM rows),z3,z4,z5]/\rows.length=i/\∀r∈rows,rz k r) (aR 0 k) 0 [some (.int c),some (.int k),some (.lst []),none,none,none] ⟨[],c,none,none,none,rfl,rfl,by simp⟩ (by
  rintro i d ρ hd ⟨rows,c,z3,z4,z5,rfl,hr1,hr2⟩;obtain ⟨hi,rfl⟩:=bY hd;obtain ⟨r,c',y5,hr,er⟩:=rowF CR CP CN n k hk c (rows.map mw) (some (.int i)) z5;have hl:rows.length<16777216:=by omega
  refine ⟨[some (.int c),some (.int k),some (aM rows),some (.int i),z4,z5],by simp,[some (.int c'),some (.int k),some (aM (rows++[r])),some (.int i),some (mw r),y5],.inl ?_,rows++[r],c',some (.int i),some (mw r),y5,rfl,by simp;omega,fun y hy=>?_⟩
  ·simp [nG,k1,k2,aM,er,hl]
  ·rcases List.mem_append.mp hy with z|z
   ·exact hr2 y z
   ·simp at z;subst z;exact hr)
 rw [Nat.zero_add,cn] at h1;exact ⟨rows,⟨h1,h2⟩,by simp [ic,r9,k1,k2,e]⟩
theorem closedF (n:Nat) (c:Int) (many:Nat) (hm:many<=20):∃cs:List dg,cs.length<=20/\(∀p∈cs,p.1<p.2)/\cy CR CP CN n [.int c,.int many]=.ok (.lst (cs.map stD)):=by
 have k1: -4611686018427387904<=(many:Int):=by omega
 have k2:(many:Int)<4611686018427387904:=by omega
 obtain ⟨ρ',e,cs,c',y3,y4,rfl,h1,h2⟩:=cz (p:=.nm 3) (g:=eY CR CP CN n)
  (fun i ρ=>∃(cs:List dg) (c:Int) (z3 z4:Option Dat),ρ=[some (.int c),some (.int many),some (.lst (cs.map stD)),z3,z4]/\cs.length=i/\∀p∈cs,p.1<p.2) (aR 0 many) 0 [some (.int c),some (.int many),some (.lst []),none,none] ⟨[],c,none,none,rfl,rfl,by simp⟩ (by
  rintro i d ρ hd ⟨cs,c,z3,z4,rfl,hr1,hr2⟩;obtain ⟨hi,rfl⟩:=bY hd;have hl:cs.length<16777216:=by omega
  have p1:0<1000000000-c%1000000000:=by omega
  have m0:0<=c/1000000000%(1000000000-c%1000000000):=Int.emod_nonneg _ (by omega);refine ⟨[some (.int c),some (.int many),some (.lst (cs.map stD)),some (.int i),z4],by simp,[some (.int (c/1000000000/1000000000)),some (.int many),some (.lst ((cs++[(c%1000000000,c%1000000000+1+c/1000000000%(1000000000-c%1000000000))]).map stD)),some (.int i),some (.int (c%1000000000))],.inl ?_,_,_,_,_,rfl,by simp;omega,fun y hy=>?_⟩
  ·simp [eY,rl p1,hl,stD]
  ·rcases List.mem_append.mp hy with z|z
   ·exact hr2 y z
   ·simp at z;subst z;show c%1000000000<c%1000000000+1+c/1000000000%(1000000000-c%1000000000);omega)
 rw [Nat.zero_add,cn] at h1;exact ⟨cs,by omega,h2,by simp [cy,gJ,k1,k2,e]⟩
theorem flightF (n:Nat) (c:Int) (k:Nat) (hk1:1<=k) (hk6:k<=6):∃f:Fli,pL k f/\bP CR CP CN n [.int c,.int k]=.ok (flD f):=by
 have hk:(0:Int)<k:=by omega
 have hk9:(k:Int)<18446744073709551616:=by omega
 obtain ⟨ρ',e,xs,c',y4,rfl,h1,h2⟩:=cz (p:=.nm 4) (g:=eX CR CP CN n)
  (fun i ρ=>∃(xs:List Int) (c':Int) (z4:Option Dat),ρ=[some (.int c'),some (.int k),some (.int (c%k)),some (.lst (xs.map .int)),z4,none]/\xs.length=i/\∀x∈xs,0<=x/\x<=1000000000) (aR 0 4) 0 [some (.int (c/k)),some (.int k),some (.int (c%k)),some (.lst []),none,none] ⟨[],c/k,none,rfl,rfl,by simp⟩ (by
  rintro i d ρ hd ⟨xs,c',z4,rfl,hr1,hr2⟩;obtain ⟨hi,rfl⟩:=bY hd;have hl:xs.length<16777216:=by omega
  refine ⟨[some (.int c'),some (.int k),some (.int (c%k)),some (.lst (xs.map .int)),some (.int i),none],by simp,[some (.int (c'/1000000001)),some (.int k),some (.int (c%k)),some (.lst ((xs++[c'%1000000001]).map .int)),some (.int i),none],.inl ?_,_,_,_,rfl,by simp;omega,fun y hy=>?_⟩
  ·simp [eX,hl]
  ·rcases List.mem_append.mp hy with z|z
   ·exact hr2 y z
   ·simp at z;subst z;omega)
 rw [Nat.zero_add,cn] at h1
 match xs,h1 with
 |[x0,x1,x2,x3],_=>
  have b0:=h2 x0 (by simp);have b1:=h2 x1 (by simp);have b2:=h2 x2 (by simp);have b3:=h2 x3 (by simp);have p1:0<1000000000-x0+1:=by omega
  have m0:0<=x1%(1000000000-x0+1):=Int.emod_nonneg _ (by omega);have m1:x1%(1000000000-x0+1)<1000000000-x0+1:=Int.emod_lt_of_pos _ p1;have q0:0<=c%(k:Int):=Int.emod_nonneg _ (by omega);have q1:c%(k:Int)<k:=Int.emod_lt_of_pos _ hk;refine ⟨⟨c%k,x0,x0+x1%(1000000000-x0+1),x2,x3⟩,⟨q0,q1,b0.1,by show x0<=x0+x1%(1000000000-x0+1);omega,by show x0+x1%(1000000000-x0+1)<=1000000000;omega,b2.1,b2.2,b3.1,b3.2⟩,?_⟩
  simp only [List.map_cons,List.map_nil] at e;simp [bP,gI,rl hk,Fc hk hk9,e,rl p1,flD]
theorem vK (n:Nat) (a1:Option Dat) (st:Int) (hs0:1<=st) (hs2:st<=2):∀(m:Nat) (c:Int) (left:List Int) (pairs:List dg) (z5:Option Dat),left.length<m->left.length+pairs.length<=1000->(∀p∈pairs,0<=p.2/\p.2<st) ->
  ∃(qs:List dg) (c':Int) (y5:Option Dat),(qs.map (·.1)).Perm (pairs.map (·.1)++left)/\(∀p∈qs,0<=p.2/\p.2<st) /\
   fY (cq CR CP CN n) (dM CR CP CN n) m [some (.int c),a1,some (.int st),some (.lst (left.map .int)),some (.lst (pairs.map stD)),z5]=.ok (.nx [some (.int c'),a1,some (.int st),some (.lst []),some (.lst (qs.map stD)),y5])
 |0,c,left,pairs,z5,h,_,_=>by omega
 |m+1,c,left,pairs,z5,h,hl,hp=>by
  by_cases h0:left.length=0
  ·have:left=[]:=List.length_eq_zero_iff.mp h0;subst this;exact ⟨pairs,c,z5,by simp,hp,by rw [fY];simp [cq]⟩
  ·have hpos:0<left.length:=by omega
   have hpos2:(0:Int)<left.length:=by omega
   have c0:0<=c%(left.length:Int):=Int.emod_nonneg _ (by omega);have c1:c%(left.length:Int)<left.length:=Int.emod_lt_of_pos _ hpos2;have ep:=popD_in c0 c1 (by omega);have hst:0<st:=by omega
   have hst9:st<18446744073709551616:=by omega
   have hat:(c%(left.length:Int)).toNat<left.length:=by omega
   have hle:=List.length_eraseIdx_of_lt hat;generalize hpd:left[(c%(left.length:Int)).toNat]'hat=pd at ep;have hperm:=uH hat;rw [hpd] at hperm;generalize hlf:left.eraseIdx (c%(left.length:Int)).toNat=lf at ep hle hperm;have hp2:(0:Int)<(lf.length:Int)+1:=by omega
   have hp9:(lf.length:Int)+1<18446744073709551616:=by omega
   have r0:0<=c/((lf.length:Int)+1)%st:=Int.emod_nonneg _ (by omega);have r1:c/((lf.length:Int)+1)%st<st:=Int.emod_lt_of_pos _ hst;have hpl:pairs.length<16777216:=by omega
   obtain ⟨qs,c',y5,hq1,hq2,hq3⟩:=vK n a1 st hs0 hs2 m (c/((lf.length:Int)+1)/st) lf (pairs++[(pd,c/((lf.length:Int)+1)%st)]) (some (.int pd)) (by omega) (by simp;omega) (fun p hp'=>by
    rcases List.mem_append.mp hp' with z|z
    ·exact hp p z
    ·simp at z;subst z;exact ⟨r0,r1⟩)
   refine ⟨qs,c',y5,?_,hq2,?_⟩
   ·refine hq1.trans ?_;rw [List.map_append,List.append_assoc];exact List.Perm.append_left _ hperm
   ·rw [fY];rw [List.map_append,List.map_cons,List.map_nil] at hq3;simp only [stD] at hq3;have ht:cq CR CP CN n [some (.int c),a1,some (.int st),some (.lst (left.map .int)),some (.lst (pairs.map stD)),z5]=.ok true:=by simp [cq,hpos]
    have hb:dM CR CP CN n [some (.int c),a1,some (.int st),some (.lst (left.map .int)),some (.lst (pairs.map stD)),z5]=.ok (.nx [some (.int (c/((lf.length:Int)+1)/st)),a1,some (.int st),some (.lst (lf.map .int)),some (.lst (pairs.map stD++[.tup [.int pd,.int (c/((lf.length:Int)+1)%st)]])),some (.int pd)]):=by
     simp [dM,rl hpos2,ep,Fc hp2 hp9,rl hst,Fc hst hst9,hpl]
    rw [ht,az,if_pos rfl,hb,az];exact hq3
theorem planF (n:Nat) (hn:64<=n) (c:Int) (many:Nat) (hm:many<=60) (st:Int) (hs0:1<=st) (hs2:st<=2):∃qs:List dg,(qs.map (·.1)).Perm ((List.range many).map fun k:Nat=>(k:Int))/\(∀p∈qs,0<=p.2/\p.2<st)/\dz CR CP CN n [.int c,.int many,.int st]=.ok (.lst (qs.map stD)):=by
 have k1: -4611686018427387904<=(many:Int):=by omega
 have k2:(many:Int)<4611686018427387904:=by omega
 have hl2:(aR 0 many).length<=16777216:=by rw [cn];omega
 obtain ⟨qs,c',y5,h1,h2,h3⟩:=vK CR CP CN n (some (.int many)) st hs0 hs2 n c ((List.range many).map fun k:Nat=>(k:Int)) [] none (by simp;omega) (by simp;omega) (by simp);have er:aR 0 many=((List.range many).map fun k:Nat=>(k:Int)).map Dat.int:=by
  unfold aR;rw [List.map_map];exact List.map_congr_left fun k _=>by simp
 refine ⟨qs,by simpa using h1,h2,?_⟩
 rw [List.map_nil] at h3;rw [er] at hl2;generalize ((List.range many).map fun k:Nat=>(k:Int))=L at *;rw [List.length_map] at hl2;simp [dz,jm,k1,k2,er,hl2,h3]
end
section
variable (CR CP CN:Addr)
theorem Fi (ns:List Int) (lo hi:Option Int):xD (ns.map Dat.int) lo hi=(xD ns lo hi).map Dat.int:=by
 unfold xD;simp
theorem cut_len (xs:List α) (lo hi:Option Int):(xD xs lo hi).length<=xs.length:=by
 unfold xD;simp;omega
theorem compF (n:Nat) (k:Nat) (hk1:1<=k) (hk6:k<=6):∀xs:List Int,∃fl:List Fli,fl.length=xs.length/\(∀f∈fl,pL k f)/\bN (.nm 0) oi (fL (bP CR CP CN n) (a9 (af 0) (a9 (af 1) aB))) [none,some (.int k)] (xs.map .int)=.ok (fl.map flD)
 |[]=>⟨[],rfl,by simp,rfl⟩
 |x::xs=>by
  obtain ⟨fl,h1,h2,h3⟩:=compF n k hk1 hk6 xs;obtain ⟨f,hf,ef⟩:=flightF CR CP CN n x k hk1 hk6;refine ⟨f::fl,by simp [h1],fun g hg=>?_,?_⟩
  ·rcases List.mem_cons.mp hg with z|z
   ·subst z;exact hf
   ·exact h2 g z
  ·rw [List.map_cons,bN];simp [ef,h3]
theorem freeW (n:Nat) (hn:64<=n) (ns:List Int) (hns:ns.length<=63):∃(w:Wo),w.Good/\ik CR CP CN n [.lst (ns.map .int),.int 24]=.ok (.tup [w.ruD,.lst (w.fl.map flD),.lst (w.cs.map stD),.lst (w.qs.map stD)])/\ba CR CP CN n [w.ruD]=.ok (aF CR CP w.rows w.o)/\(w.qs.map (·.1)).Perm ((List.range w.fl.length).map fun k:Nat=>(k:Int)):=by
 have hcl:5<=(ns.take 5++[0,0,0,0,0]).length:=by simp
 have hc10:(ns.take 5).length+5<=16777216:=by simp;omega
 have ec:jS (.lst ((ns.map Dat.int).take 5)) (.lst [.int 0,.int 0,.int 0,.int 0,.int 0])=.ok (.lst ((ns.take 5++[0,0,0,0,0]).map .int)):=by
  have hm:min 5 ns.length+5<=16777216:=by omega
  simp [jS,hm]
 have er5:(List.replicate 5 [Dat.int 0]).flatten=[.int 0,.int 0,.int 0,.int 0,.int 0]:=rfl;generalize ns.take 5++[0,0,0,0,0]=cells at *;have g0:mx (cells.map .int) 0=.ok (.int (tAt cells 0)):=getT (i:=0) (by omega);have g1:mx (cells.map .int) 1=.ok (.int (tAt cells 1)):=getT (i:=1) (by omega);have g2:mx (cells.map .int) 2=.ok (.int (tAt cells 2)):=getT (i:=2) (by omega);have g3:mx (cells.map .int) 3=.ok (.int (tAt cells 3)):=getT (i:=3) (by omega);have g4:mx (cells.map .int) 4=.ok (.int (tAt cells 4)):=getT (i:=4) (by omega);obtain ⟨k,hk⟩:∃k:Nat,1+tAt cells 0/2%6=k:=⟨(1+tAt cells 0/2%6).toNat,by omega⟩
 have hk1:1<=k:=by omega
 have hk6:k<=6:=by omega
 obtain ⟨many,hm⟩:∃m:Nat,tAt cells 0/24%21=m:=⟨(tAt cells 0/24%21).toNat,by omega⟩
 obtain ⟨rows,gr,er⟩:=rowsF CR CP CN n k (by omega) (tAt cells 1);obtain ⟨i9,gr2,er2⟩:=rowsF CR CP CN n k (by omega) (tAt cells 2);obtain ⟨cs,hc1,hc2,ecs⟩:=closedF CR CP CN n (tAt cells 3) many (by omega);obtain ⟨fl,hf1,hf2,hf3⟩:=compF CR CP CN n k (by omega) (by omega) (xD ns (some 5) (some 29));have hcut:=cut_len ns (some 5) (some 29);have hflen:fl.length<=60:=by
  have:(xD ns (some 5) (some 29)).length<=24:=by unfold xD cX;simp;omega
  omega
 have hl2:(xD ns (some 5) (some 29)).length<=16777216:=by omega
 rw [<- Fi] at hf3;have st2:1+tAt cells 0/12%2=1\/1+tAt cells 0/12%2=2:=by omega
 obtain ⟨qs,hq1,hq2,eq⟩:=planF CR CP CN n hn (tAt cells 4) fl.length hflen (1+tAt cells 0/12%2) (by omega) (by omega);have hql:qs.length=fl.length:=by have:=hq1.length_eq;simpa using this
 have hqb:∀p∈qs,0<=p.1/\p.1<fl.length:=fun p hp=>by
  have:p.1∈qs.map (·.1):=List.mem_map_of_mem hp;have:=hq1.mem_iff.mp this;obtain ⟨j,hj,e⟩:=List.mem_map.mp this;have:=List.mem_range.mp hj;omega
 have hl3:(xD (ns.map Dat.int) (some 5) (some 29)).length<=16777216:=by rw [Fi,List.length_map];exact hl2
 generalize hcutd:xD (ns.map Dat.int) (some 5) (some 29)=cut at hf3 hl3;rcases st2 with h|h
 ·rw [h] at eq hq2;have hne:¬(1+tAt cells 0/12%2=2):=by omega
  refine ⟨⟨k,rows,[],.non,fl,cs,qs⟩,⟨hk1,hk6,gr,.inl ⟨rfl,fun p hp=>?_⟩,hf2,hflen,hc2,hc1,hqb,hql⟩,?_,xi CR CP CN n k rows .non (by omega) (by omega) gr (.inl rfl),hq1⟩
  ·have:=hq2 p hp;omega
  ·simp [ik,ng,nv,er5,ec,g0,g1,g2,g3,g4,hk,hm,h,er,ecs,hcutd,hf3,hl3,eq,Wo.ruD]
 ·rw [h] at eq hq2;refine ⟨⟨k,rows,i9,aM i9,fl,cs,qs⟩,⟨hk1,hk6,gr,.inr ⟨rfl,gr2⟩,hf2,hflen,hc2,hc1,hqb,hql⟩,?_,xi CR CP CN n k rows (aM i9) (by omega) (by omega) gr (.inr ⟨i9,gr2,rfl⟩),hq1⟩
  simp [ik,ng,nv,er5,ec,g0,g1,g2,g3,g4,hk,hm,h,er,er2,ecs,hcutd,hf3,hl3,eq,Wo.ruD]
theorem state_ok (n:Nat) (hn:64<=n) (ns:List Int) (hns:ns.length<=63):∃(w:Wo),w.Good/\eh CR CP CN n [.lst (ns.map .int),.int 24]=.ok (.tup [w.ruD,.lst (w.fl.map flD),.lst (w.cs.map stD),.lst (w.qs.map stD)])/\ba CR CP CN n [w.ruD]=.ok (aF CR CP w.rows w.o)/\(w.qs.map (·.1)).Perm ((List.range w.fl.length).map fun k:Nat=>(k:Int)):=by
 obtain ⟨s,w,hw,hs0,hs1,hfl,es,er,em,ef,ec,eq,h0,hp⟩:=world_ok CR CP CN n hn ns 24 (by omega);simp only [Int.cast_ofNat_Int] at ef;obtain ⟨v,hv,ev,emv,hpv⟩:=freeW CR CP CN n hn ns hns;cases ns with
 |nil=>
  simp only [List.map_nil] at *;exact ⟨w,hw,by simp [eh,iT,iC,es,er,ef,ec,eq],em,hp⟩
 |cons a rest=>
  have hz:(0:Int)<(rest.length:Int)+1:=by omega
  by_cases h1:a%2=1
  ·refine ⟨v,hv,?_,emv,hpv⟩
   simp only [List.map_cons] at *;simp [eh,iT,iC,hz,h1,ev]
  ·refine ⟨w,hw,?_,em,hp⟩
   simp only [List.map_cons] at *;simp [eh,iT,iC,hz,h1,es,er,ef,ec,eq]
theorem E5 (n:Nat) (ns:List Int) (k:Nat) (hk:k<=100):∃x:Int,0<=x/\eA CR CP CN n [.lst (ns.map .int),.int k]=.ok (.int x):=by
 obtain ⟨y,ey,hy⟩:=jo CR CP CN n ns (250+(k:Int)) (by omega) (by omega);by_cases h0:ns.length=0
 ·have:ns=[]:=List.length_eq_zero_iff.mp h0;subst this;exact ⟨y,hy,by simp only [List.map_nil] at ey;simp [eA,km,jF,ey]⟩
 ·obtain ⟨a,rest,rfl⟩:∃a rest,ns=a::rest:=by
   cases ns with
   |nil=>simp at h0
   |cons a r=>exact ⟨a,r,rfl⟩
  by_cases h1:a%2=0
  ·refine ⟨y,hy,?_⟩
   simp only [List.map_cons] at ey;have hz:¬((rest.length:Int)+1=0):=by omega
   simp [eA,km,jF,ey,h1,hz]
  ·have k1: -4611686018427387904<=(k:Int):=by omega
   have k2:(k:Int)<4611686018427387904:=by omega
   obtain ⟨ρ',e,c,y3,rfl⟩:=cz (p:=.nm 3) (g:=nH CR CP CN n)
    (fun i ρ=>∃(c:Int) (z3:Option Dat),ρ=[some (.lst (.int a::rest.map .int)),some (.int k),some (.int c),z3]) (aR 0 k) 0 [some (.lst (.int a::rest.map .int)),some (.int k),some (.int (a/504)),none] ⟨a/504,none,rfl⟩ (by
    rintro i d ρ hd ⟨c,z3,rfl⟩;obtain ⟨hi,rfl⟩:=bY hd;exact ⟨[some (.lst (.int a::rest.map .int)),some (.int k),some (.int c),some (.int i)],by simp,[some (.lst (.int a::rest.map .int)),some (.int k),some (.int (c/1000000000000000000)),some (.int i)],.inl (by simp [nH]),_,_,rfl⟩)
   refine ⟨c%1000000000000000000,Int.emod_nonneg _ (by decide),?_⟩
   have hz:¬((rest.length:Int)+1=0):=by omega
   simp [eA,km,jF,h1,hz,k1,k2,e]
end
theorem Wo.low_in (w:Wo) (ts:List Int) (i:Nat):∀j,w.low ts i j=(w.f i).first\/∃l,l<j/\w.low ts i j=tAt ts l+w.ap l i
 |0=>.inl rfl
 |j+1=>by
  rw [w.pU];obtain ⟨_,_,h⟩:=sy (w.low ts i j) (tAt ts j+w.ap j i);rcases h with h|h
  ·rw [h];rcases w.low_in ts i j with z|⟨l,h1,h2⟩
   ·exact .inl z
   ·exact .inr ⟨l,by omega,h2⟩
  ·exact .inr ⟨j,by omega,h⟩
theorem mv.stop (h:mv cs t u) (hne:t≠u):∃p∈cs,p.2=u:=by
 obtain ⟨p,hp,h1,h2⟩:=h.2.2 (u-1) (by have:=h.1;omega) (by omega);refine ⟨p,hp,?_⟩
 have:¬(p.1<=u/\u<p.2):=fun z=>h.2.1 ⟨p,hp,z⟩;omega
theorem BA {xs:List Int} {k:Int} (h:yT xs k=none):k∉xs:=fun hm=>by
 have:=List.findIdx?_eq_none_iff.mp h k hm;simp at this
theorem gapL_len (w:Wo) (ts:List Int) (i:Nat):(w.qU ts i).length=i:=by simp [Wo.qU]
theorem gapL_at (w:Wo) (ts:List Int) {l:Nat} (h:l<i):tAt (w.qU ts i) l=tAt ts l+w.ap l i:=by
 unfold tAt;rw [List.getD_eq_getElem?_getD];simp [Wo.qU,h,tAt]
noncomputable def lK (w:Wo) (ts:List Int) (i:Nat):Dat:=if tAt ts i=(w.f i).first then .tup [.str "first"] else match yT (w.qU ts i) (tAt ts i) with
 |some j=>.tup [.str "gap",.int j]
 |none=>match yT (w.cs.map (·.2)) (tAt ts i) with
  |some j=>.tup [.str "closed",.int j]
  |none=>.non
theorem u1 {w:Wo} (hl:w.eS ts i) (h1:tAt ts i≠(w.f i).first) (h2:yT (w.qU ts i) (tAt ts i)=none):∃j,yT (w.cs.map (·.2)) (tAt ts i)=some j:=by
 cases h:yT (w.cs.map (·.2)) (tAt ts i) with
 |some j=>exact ⟨j,rfl⟩
 |none=>
  exfalso;by_cases e:w.low ts i i=tAt ts i
  ·rcases w.low_in ts i i with z|⟨l,h3,h4⟩
   ·exact h1 (by omega)
   ·refine BA h2 ?_;have hg:=gapL_at w ts h3;have hlen:=gapL_len w ts i;have:tAt (w.qU ts i) l∈w.qU ts i:=by
     unfold tAt;rw [List.getD_eq_getElem?_getD,List.getElem?_eq_getElem (by omega)];exact List.getElem_mem _
    rw [hg] at this;rw [<- e,h4];exact this
  ·obtain ⟨p,hp,hp2⟩:=hl.1.stop e;exact BA h (by rw [<- hp2];exact List.mem_map_of_mem hp)
theorem DU {w:Wo} (hl:w.eS ts i):lK w ts i=.tup [.str "first"]\/(∃j:Nat,lK w ts i=.tup [.str "gap",.int j])\/∃j:Nat,lK w ts i=.tup [.str "closed",.int j]:=by
 unfold lK;by_cases h:tAt ts i=(w.f i).first
 ·rw [if_pos h];exact .inl rfl
 ·rw [if_neg h];cases h2:yT (w.qU ts i) (tAt ts i) with
  |some j=>exact .inr (.inl ⟨j,rfl⟩)
  |none=>
   obtain ⟨j,e⟩:=u1 hl h h2;rw [e];exact .inr (.inr ⟨j,rfl⟩)
theorem in_ints (xs:List Int) (k:Int):inM (.int k) (.lst (xs.map .int))=.ok (.bl (yT xs k).isSome):=by
 have h:(okE (.int k) 40&&kU (xs.map .int) 40)=true:=by simp [okE,xa]
 show (if (okE (.int k) 40&&kU (xs.map .int) 40)=true then _ else _)=_;rw [if_pos h]
 congr 2
 unfold yT;rw [List.findIdx?_isSome,List.any_map]
 congr 1
section
variable (CR CP CN:Addr)
theorem push_ok (n:Nat) {w:Wo} (hw:w.Good) (hi:i<w.qs.length) (hl:w.eS ts i):ke CR CP CN n [flD (w.f i),.lst (w.cs.map stD),.lst ((w.qU ts i).map .int),.int (tAt ts i)]=.ok (lK w ts i):=by
 have hc:=hw.csl;have ei:=in_ints (w.qU ts i) (tAt ts i);unfold lK;by_cases h:tAt ts i=(w.f i).first
 ·rw [if_pos h];simp [ke,pj,nt,flD,h]
 ·rw [if_neg h];cases h2:yT (w.qU ts i) (tAt ts i) with
  |some j=>
   rw [h2] at ei;simp [ke,pj,nt,rn,flD,h,ei,isL,mi,h2]
  |none=>
   rw [h2] at ei;obtain ⟨j,e⟩:=u1 hl h h2;have ec:bN (.tp [0,1]) oi (af 1) [none,none] (w.cs.map stD)=.ok ((w.cs.map (·.2)).map .int):=by
    have:=gZ (p:=.tp [0,1]) (fe:=af 1) (ρ0:=[none,none]) (fun d=>match d with|.tup [_,x]=>x|_=>.non) (w.cs.map stD) (fun d hd=>by
     obtain ⟨p,_,rfl⟩:=List.mem_map.mp hd;exact ⟨[some (.int p.1),some (.int p.2)],by simp [stD],by simp [stD]⟩)
    rw [this,List.map_map,List.map_map];rfl
   have s2:w.cs.length<=16777216:=by omega
   rw [e];simp [ke,pj,nt,rn,flD,h,ei,isL,ec,mi,e,s2,-List.map_map]
theorem EX {w:Wo} (hl:w.eS ts i):kY (lK w ts i)=true:=by
 rcases DU hl with h|⟨j,h⟩|⟨j,h⟩<;>rw [h]<;>simp [kY,qh]
theorem DR (n:Nat) (hne:CR≠CP) {w:Wo} (hw:w.Good) (hl:w.kN ts):kc CR CP CN n [aF CR CP w.rows w.o,.lst (w.fl.map flD),.lst (w.cs.map stD),.lst (w.qs.map stD)]=.ok (.lst ((List.range w.qs.length).map (lK w ts))):=by
 have hq:=hw.qsl;have hf:=hw.fll;have es:=rD CR CP CN n hw;have et:=pP CR CP CN n hne hw hl;have htl:=hl.1;obtain ⟨ρ',e,z7,z8,z9,rfl⟩:=cz (p:=.tp [7,8]) (g:=nB CR CP CN n)
  (fun i ρ=>∃(z7 z8 z9:Option Dat),ρ=[some (aF CR CP w.rows w.o),some (.lst (w.fl.map flD)),some (.lst (w.cs.map stD)),some (.lst (w.qs.map stD)),some (.lst (ts.map .int)),some (.lst ((w.qs.map (jr w.fl)).map stD)),some (.lst ((List.range i).map (lK w ts))),z7,z8,z9]) (kZ 0 (ts.map .int)) 0 [some (aF CR CP w.rows w.o),some (.lst (w.fl.map flD)),some (.lst (w.cs.map stD)),some (.lst (w.qs.map stD)),some (.lst (ts.map .int)),some (.lst ((w.qs.map (jr w.fl)).map stD)),some (.lst []),none,none,none] ⟨none,none,none,rfl⟩ (by
  rintro i d ρ hd ⟨z7,z8,z9,rfl⟩;obtain ⟨e,h1,rfl⟩:=kG _ _ _ _ hd;have hi:i<ts.length:=by simpa using (List.getElem?_eq_some_iff.mp h1).1
  have he:e=.int (tAt ts i):=by
   rw [List.getElem?_map,List.getElem?_eq_getElem hi] at h1;simp at h1;rw [<- h1];simp [tAt,hi]
  subst he;rw [Nat.zero_add];have hiq:i<w.qs.length:=by omega
  obtain ⟨ef,gf⟩:=hw.fAt hiq;have eq:=getC hiq;have eg:=ES CR CP CN n hne hw ts hiq (by omega);have ep:=push_ok CR CP CN n hw hiq (hl.2 i hiq);have hfl:=EX (hl.2 i hiq);have hsz:((List.range i).map (lK w ts)).length<16777216:=by simp;omega
  rw [List.range_succ,List.map_append];generalize (List.range i).map (lK w ts)=acc at hsz ⊢;refine ⟨[some (aF CR CP w.rows w.o),some (.lst (w.fl.map flD)),some (.lst (w.cs.map stD)),some (.lst (w.qs.map stD)),some (.lst (ts.map .int)),some (.lst ((w.qs.map (jr w.fl)).map stD)),some (.lst acc),some (.int i),some (.int (tAt ts i)),z9],by simp,[some (aF CR CP w.rows w.o),some (.lst (w.fl.map flD)),some (.lst (w.cs.map stD)),some (.lst (w.qs.map stD)),some (.lst (ts.map .int)),some (.lst ((w.qs.map (jr w.fl)).map stD)),some (.lst (acc++[lK w ts i])),some (.int i),some (.int (tAt ts i)),some (.lst ((w.qU ts i).map .int))],.inl ?_,_,_,_,rfl⟩
  simp [nB,eg,eq,ef,ep,hsz,hfl,-List.map_map])
 rw [Nat.zero_add,fG,List.length_map,htl] at e;simp [kc,qV,et,es,e,-List.map_map]
end
noncomputable def flip (x:Int):Int:=1000000000-x
noncomputable def Fli.mir (f:Fli):Fli:=⟨f.kind,1000000000-f.last,1000000000-f.first,f.due,f.price⟩
noncomputable def t8 (p:dg):dg:=(1000000000-p.2+1,1000000000-p.1+1)
noncomputable def tr (k:Nat) (rows:List (List Int)):List (List Int):=(List.range k).map fun j=>rows.map fun r=>r.getD j 0
noncomputable def trO (k:Nat) (r2:List (List Int)):Dat->Dat
 |.non=>.non
 |_=>aM (tr k r2)
noncomputable def Wo.mir (w:Wo):Wo:=⟨w.k,tr w.k w.rows,tr w.k w.r2,trO w.k w.r2 w.o,w.fl.map Fli.mir,w.cs.map t8,w.qs.reverse⟩
noncomputable def back (ts:List Int):List Int:=(ts.map flip).reverse
theorem Dx (h:cK k rows):cK k (tr k rows):=by
 refine ⟨by simp [tr],fun r hr=>?_⟩
 obtain ⟨j,hj,rfl⟩:=List.mem_map.mp hr;have hj:=List.mem_range.mp hj;refine ⟨by rw [List.length_map];exact h.1,fun x hx=>?_⟩
 obtain ⟨q,hq,rfl⟩:=List.mem_map.mp hx;obtain ⟨l,g⟩:=h.2 q hq;have:q.getD j 0=q[j]:=by simp [List.getD_eq_getElem?_getD,l,hj]
 rw [this];exact g _ (List.getElem_mem _)
theorem at2_tr (h:cK k rows) {i j:Int} (hi:0<=i/\i<k) (hj:0<=j/\j<k):at2 (tr k rows) i j=at2 rows j i:=by
 have hi':i.toNat<k:=by omega
 have hj':j.toNat<rows.length:=by rw [h.1];omega
 unfold at2 rwAt tr;simp [List.getD_eq_getElem?_getD,hi',hj']
theorem xq (fl:List Fli) {i:Int} (h0:0<=i) (h1:i<fl.length):sj (fl.map Fli.mir) i=(sj fl i).mir:=by
 have hj:i.toNat<fl.length:=by omega
 unfold sj;rw [List.getElem?_map,List.getElem?_eq_getElem hj];rfl
theorem zX (h:i<qs.length):qAt qs.reverse i=qAt qs (qs.length-1-i):=by
 unfold qAt;rw [List.getD_eq_getElem?_getD,List.getD_eq_getElem?_getD,List.getElem?_reverse h]
theorem pY (ts:List Int):(back ts).length=ts.length:=by simp [back]
theorem kI (h:i<ts.length):tAt (back ts) i=flip (tAt ts (ts.length-1-i)):=by
 have h2:ts.length-1-i<ts.length:=by omega
 unfold tAt back;rw [List.getD_eq_getElem?_getD,List.getD_eq_getElem?_getD,List.getElem?_reverse (by simpa using h),List.length_map,List.getElem?_map,List.getElem?_eq_getElem h2];rfl
theorem pG (ts:List Int):back (back ts)=ts:=by
 unfold back;rw [List.map_reverse,List.reverse_reverse,List.map_map];have:(flip∘flip)=id:=by funext x;simp [flip];omega
 rw [this,List.map_id]
theorem Fj:Cov (cs.map t8) t↔Cov cs (flip t):=by
 constructor
 ·rintro ⟨p,hp,h1,h2⟩;obtain ⟨q,hq,rfl⟩:=List.mem_map.mp hp;refine ⟨q,hq,?_⟩
  unfold t8 at h1 h2;unfold flip;dsimp only at h1 h2;omega
 ·rintro ⟨q,hq,h1,h2⟩;refine ⟨t8 q,List.mem_map_of_mem hq,?_⟩
  unfold t8;unfold flip at h1 h2;dsimp only;omega
section
variable {w:Wo} (hw:w.Good)
include hw
theorem mir_f (hi:i<w.qs.length):w.mir.f i=(w.f (w.qs.length-1-i)).mir:=by
 have hq:=hw.qs _ (jk (show w.qs.length-1-i<w.qs.length by omega));show sj (w.fl.map Fli.mir) (qAt w.qs.reverse i).1=_;rw [zX hi,xq w.fl hq.1 hq.2];rfl
theorem lg:w.mir.Good:=by
 refine ⟨hw.k1,hw.k6,Dx hw.rows,?_,fun f hf=>?_,by show (w.fl.map Fli.mir).length<=60;rw [List.length_map];exact hw.fll,fun p hp=>?_,by show (w.cs.map t8).length<=20;rw [List.length_map];exact hw.csl,fun p hp=>?_,by show w.qs.reverse.length=(w.fl.map Fli.mir).length;rw [List.length_reverse,List.length_map];exact hw.qsl⟩
 ·rcases hw.o with ⟨h1,h2⟩|⟨h1,h2⟩
  ·exact .inl ⟨by show trO w.k w.r2 w.o=.non;rw [h1];rfl,fun p hp=>h2 p (List.mem_reverse.mp hp)⟩
  ·exact .inr ⟨by show trO w.k w.r2 w.o=aM (tr w.k w.r2);rw [h1];rfl,Dx h2⟩
 ·obtain ⟨g,hg,rfl⟩:=List.mem_map.mp hf;have z:=hw.fl g hg;have z1:=z.f0;have z2:=z.f1;have z3:=z.l1;exact ⟨z.k0,z.k1,by show 0<=1000000000-g.last;omega,by show 1000000000-g.last<=1000000000-g.first;omega,by show 1000000000-g.first<=1000000000;omega,z.d0,z.d1,z.p0,z.p1⟩
 ·obtain ⟨q,hq,rfl⟩:=List.mem_map.mp hp;have:=hw.cs q hq;show 1000000000-q.2+1<1000000000-q.1+1;omega
 ·have:=hw.qs p (List.mem_reverse.mp hp);show 0<=p.1/\p.1<((w.fl.map Fli.mir).length:Int);rw [List.length_map];exact this
theorem mir_ap (hj:j<w.qs.length) (hi:i<w.qs.length):w.mir.ap j i=w.ap (w.qs.length-1-i) (w.qs.length-1-j):=by
 have hj2:w.qs.length-1-j<w.qs.length:=by omega
 have hi2:w.qs.length-1-i<w.qs.length:=by omega
 have qj:=hw.qs _ (jk hj2);have qi:=hw.qs _ (jk hi2);obtain ⟨_,gj⟩:=hw.fAt hj2;obtain ⟨_,gi⟩:=hw.fAt hi2;unfold Wo.f at gj gi;show apS (tr w.k w.rows) (tr w.k w.r2) (jr (w.fl.map Fli.mir) (qAt w.qs.reverse j)) (jr (w.fl.map Fli.mir) (qAt w.qs.reverse i))=_;rw [zX hj,zX hi];unfold Wo.ap apS jr;dsimp only;rw [xq w.fl qj.1 qj.2,xq w.fl qi.1 qi.2];show (if (qAt w.qs (w.qs.length-1-j)).2=(qAt w.qs (w.qs.length-1-i)).2 then at2 (tr w.k w.rows) (sj w.fl (qAt w.qs (w.qs.length-1-j)).1).kind (sj w.fl (qAt w.qs (w.qs.length-1-i)).1).kind else at2 (tr w.k w.r2) (sj w.fl (qAt w.qs (w.qs.length-1-j)).1).kind (sj w.fl (qAt w.qs (w.qs.length-1-i)).1).kind)=_;by_cases hs:(qAt w.qs (w.qs.length-1-j)).2=(qAt w.qs (w.qs.length-1-i)).2
 ·rw [if_pos hs,if_pos hs.symm,at2_tr hw.rows ⟨gj.k0,gj.k1⟩ ⟨gi.k0,gi.k1⟩]
 ·rw [if_neg hs,if_neg (fun z=>hs z.symm)];rcases hw.o with ⟨_,h2⟩|⟨_,h2⟩
  ·exact absurd ((h2 _ (jk hj2)).trans (h2 _ (jk hi2)).symm) hs
  ·exact at2_tr h2 ⟨gj.k0,gj.k1⟩ ⟨gi.k0,gi.k1⟩
theorem iQ (hl:ts.length=w.qs.length):w.mir.Keeps (back ts)↔w.Keeps ts:=by
 have hlen:w.mir.qs.length=w.qs.length:=List.length_reverse ..;constructor
 ·intro h i hi;have hi2:w.qs.length-1-i<w.qs.length:=by omega
  obtain ⟨⟨k1,k2,k3⟩,_⟩:=h (w.qs.length-1-i) (by rw [hlen];exact hi2);rw [mir_f hw hi2,kI (by omega)] at k1 k2;rw [kI (by omega)] at k3;rw [show ts.length-1-(w.qs.length-1-i)=i by omega] at k1 k2 k3;rw [show w.qs.length-1-(w.qs.length-1-i)=i by omega] at k1 k2;simp only [Fli.mir,flip] at k1 k2;refine ⟨⟨by omega,by omega,fun z=>k3 (Fj.mpr ?_)⟩,fun j hj=>?_⟩
  ·rw [show flip (flip (tAt ts i))=tAt ts i by unfold flip;omega];exact z
  ·obtain ⟨_,k4⟩:=h (w.qs.length-1-j) (by rw [hlen];omega);have:=k4 (w.qs.length-1-i) (by omega);rw [mir_ap hw hi2 (by omega),kI (by omega),kI (by omega),show ts.length-1-(w.qs.length-1-i)=i by omega,show ts.length-1-(w.qs.length-1-j)=j by omega,show w.qs.length-1-(w.qs.length-1-j)=j by omega,show w.qs.length-1-(w.qs.length-1-i)=i by omega] at this;simp only [flip] at this;omega
 ·intro h i hi;rw [hlen] at hi;have hi2:w.qs.length-1-i<w.qs.length:=by omega
  obtain ⟨⟨k1,k2,k3⟩,k4⟩:=h (w.qs.length-1-i) hi2;refine ⟨?_,fun j hj=>?_⟩
  ·rw [mir_f hw hi,kI (by omega),show ts.length-1-i=w.qs.length-1-i by omega];refine ⟨by show 1000000000-(w.f (w.qs.length-1-i)).last<=flip _;unfold flip;omega,by show flip _<=1000000000-(w.f (w.qs.length-1-i)).first;unfold flip;omega,fun z=>k3 ?_⟩
   have:=Fj.mp z;rw [show flip (flip (tAt ts (w.qs.length-1-i)))=tAt ts (w.qs.length-1-i) by unfold flip;omega] at this;exact this
  ·rw [mir_ap hw (by omega) hi,kI (by omega),kI (by omega),show ts.length-1-i=w.qs.length-1-i by omega,show ts.length-1-j=w.qs.length-1-j by omega];have:=(h (w.qs.length-1-j) (by omega)).2 (w.qs.length-1-i) (by omega);unfold flip;omega
end
theorem ext_t (hl:ts.length=ls.length) (h:∀i,i<ts.length->tAt ts i=tAt ls i):ts=ls:=by
 apply List.ext_getElem hl;intro i h1 h2;have:=h i h1;simpa [tAt,h1,h2] using this
theorem yM {w:Wo} (hw:w.Good) (hl:w.kN ts) (hla:w.lB ts ls) (hu:w.mir.kN us):us=back ls:=by
 have hq:w.mir.qs.length=w.qs.length:=List.length_reverse ..;have hul:=hu.1;have hll:=hla.1;have hk:=hla.keeps hl.keeps;have h1:=(iQ hw hll).mpr hk;have h2:w.Keeps (back us):=by
  refine (iQ hw (by rw [pY];omega)).mp ?_;rw [pG];exact hu.keeps
 refine ext_t (by rw [pY];omega) fun i hi=>?_;have a:=Wo.least_le (i:=w.mir.qs.length) h1 hu.2 i i (Nat.le_refl _) (by omega);have b:=hla.ge h2 w.qs.length (w.qs.length-1-i) (by omega) (by omega);rw [kI (by omega)] at b;rw [kI (by omega)] at a ⊢;rw [show us.length-1-(w.qs.length-1-i)=i by omega] at b;rw [show ls.length-1-i=w.qs.length-1-i by omega] at a ⊢;unfold flip at *;omega
theorem vL {w:Wo} (hw:w.Good) {ks:List Int} (hl:w.kN ts) (hu:w.mir.kN us) (hla:w.mir.lB us ks):ks=back ts:=by
 have hq:w.mir.qs.length=w.qs.length:=List.length_reverse ..;have hul:=hu.1;have htl:=hl.1;have hkl:=hla.1;have h1:=(iQ hw htl).mpr hl.keeps;have hk:=hla.keeps hu.keeps;have h2:w.Keeps (back ks):=by
  refine (iQ hw (by rw [pY];omega)).mp ?_;rw [pG];exact hk
 refine ext_t (by rw [pY];omega) fun i hi=>?_;have a:=hla.ge h1 w.mir.qs.length i (by omega) (by omega);have b:=Wo.least_le (i:=w.qs.length) h2 hl.2 (w.qs.length-1-i) (w.qs.length-1-i) (Nat.le_refl _) (by omega);rw [kI (by omega)] at a b ⊢;rw [show ks.length-1-(w.qs.length-1-i)=i by omega] at b;rw [show ts.length-1-i=w.qs.length-1-i by omega] at a ⊢;unfold flip at *;omega
theorem tX (CR CP CN:Addr) (n:Nat) {w:Wo} (hw:w.Good):∀i,i<=w.qs.length->(∃ts:List Int,ts.length=i/\∀j,j<i->w.eS ts j)\/∃(i':Nat) (ts:List Int) (t:Int),i'<w.qs.length/\ts.length=i'/\(∀j,j<i'->w.eS ts j)/\mv w.cs (w.low ts i' i') t/\(w.f i').last<t
 |0,_=>.inl ⟨[],rfl,fun j h=>by omega⟩
 |i+1,h=>by
  rcases tX CR CP CN n hw i (by omega) with ⟨ts,h1,h2⟩|z
  ·obtain ⟨u,_,hu⟩:=Eo CR CP CN n w.cs (w.low ts i i) (by have:=hw.csl;omega) hw.cs;by_cases hlt:(w.f i).last<u
   ·exact .inr ⟨i,ts,u,by omega,h1,h2,hu,hlt⟩
   ·refine .inl ⟨ts++[u],by simp [h1],fun j hj=>?_⟩;by_cases hji:j<i
    ·exact (h2 j hji).app (by omega)
    ·have e:j=i:=by omega
     subst e;have et:tAt (ts++[u]) j=u:=by rw [<- h1];exact tAt_new ts [] u
     refine ⟨?_,by rw [et];omega⟩
     rw [et,w.oP (us:=ts) j j fun l hl=>zQ (by omega)];exact hu
  ·exact .inr z
theorem tI (CR CP CN:Addr) (n:Nat) {w:Wo} (hw:w.Good) (hk:w.Keeps us):∃ts,w.kN ts/\∀i,i<w.qs.length->tAt ts i<=tAt us i:=by
 rcases tX CR CP CN n hw w.qs.length (Nat.le_refl _) with ⟨ts,h1,h2⟩|⟨i,ts,t,hi,h1,h2,h3,h4⟩
 ·exact ⟨ts,⟨h1,h2⟩,fun i hi=>Wo.least_le (i:=w.qs.length) hk h2 i i (Nat.le_refl _) hi⟩
 ·have:=Wo.never hk hi h2 h3;omega
theorem ud (n:Nat):∀rs:List (List Int),kU (rs.map mw) (n+2)=true
 |[]=>by simp [kU]
 |r::rs=>by
  have:=xa n r;simp [kU,okE,mw,this,ud n rs]
theorem uI:∀rs:List (List Int),ot (rs.map mw) (rs.map mw)=true
 |[]=>by simp [ot]
 |r::rs=>by simp [ot,eqD,mw,Aj r,uI rs]
theorem tr_tr (h:cK k rows):tr k (tr k rows)=rows:=by
 refine List.ext_getElem (by simp [tr,h.1]) fun i h1 h2=>?_;have hr:=(h.2 _ (List.getElem_mem h2)).1;have hi:i<k:=by rw [<- h.1];exact h2
 refine List.ext_getElem (by simp [tr,hr]) fun j g1 g2=>?_;have hj:j<k:=by omega
 simp [tr,List.getD_eq_getElem?_getD,hi,hj,h2,List.getElem?_eq_getElem g2]
theorem CD (fl:List Fli):(fl.map Fli.mir).map Fli.mir=fl:=by
 rw [List.map_map]
 conv=>rhs;rw [<- List.map_id fl]
 refine List.map_congr_left fun f _=>?_;cases f;simp [Fli.mir,Function.comp];omega
theorem CF (cs:List dg):(cs.map t8).map t8=cs:=by
 rw [List.map_map]
 conv=>rhs;rw [<- List.map_id cs]
 refine List.map_congr_left fun p _=>?_;obtain ⟨a,b⟩:=p;simp [t8,Function.comp];omega
noncomputable def aV (w:Wo):Dat:=.tup [w.ruD,.lst (w.fl.map flD),.lst (w.cs.map stD),.lst (w.qs.map stD)]
theorem DD {w:Wo} (hw:w.Good):aV w.mir.mir=aV w:=by
 unfold aV Wo.mir Wo.ruD;dsimp only;rw [tr_tr hw.rows,CD,CF,List.reverse_reverse]
 congr 3
 rcases hw.o with ⟨h1,_⟩|⟨h1,h2⟩
 ·rw [h1];rfl
 ·rw [h1];show [aM w.rows,aM (tr w.k (tr w.k w.r2))]=_;rw [tr_tr h2]
theorem ne_state {w:Wo} (hw:w.Good):neM (aV w) (aV w)=.ok (.bl false):=by
 have ho:okE w.o 38=true/\eqD w.o w.o=true:=by
  rcases hw.o with ⟨h1,_⟩|⟨h1,_⟩
  ·rw [h1];exact ⟨by simp [okE],by simp [eqD]⟩
  ·rw [h1];exact ⟨by simp only [aM,okE];exact ud 35 _,by simp only [aM,eqD];exact uI _⟩
 have hok:okE (aV w) 40=true:=by
  simp [aV,Wo.ruD,aM,okE,kU,ud 35,ho.1,El 37,Ej 37]
 unfold neM;rw [hok];simp [aV,Wo.ruD,aM,eqD,ot,uI,ho.2,F7,EY]
section
variable (CR CP CN:Addr)
theorem zf:∀xs:List Int,bN (.nm 0) oi (f2 tZ (f2 rA (fC (.int 10)) (fC (.int 9))) (af 0)) [none] (xs.map .int)=.ok ((xs.map flip).map .int)
 |[]=>rfl
 |x::xs=>by
  have ih:=zf xs;rw [List.map_cons,bN];simp [ih,flip,-List.map_map]
theorem AQ (n:Nat) (ts:List Int) (h:ts.length<=1000):eB CR CP CN n [.lst (ts.map .int)]=.ok (.lst ((back ts).map .int)):=by
 have e:=zf ts.reverse;rw [List.map_reverse] at e;have s1:ts.length<=16777216:=by omega
 have eb:ts.reverse.map flip=back ts:=by unfold back;rw [List.map_reverse]
 rw [eb] at e;simp [eB,rj,DM,e,s1]
theorem BX {k j:Nat} (hj:j<k):∀rows:List (List Int),(∀r∈rows,r.length=k)->bN (.nm 0) oi (f2 ixD (af 0) (af 1)) [none,some (.int (j:Int))] (rows.map mw)=.ok ((rows.map fun r=>r.getD j 0).map .int)
 |[],_=>rfl
 |r::rows,h=>by
  have ih:=BX hj rows fun x hx=>h x (by simp [hx]);have hl:=h r (by simp);have e:=getI_int (is:=r) (k:=(j:Int)) (by omega) (by omega);have e2:r[(j:Int).toNat]'(by omega)=r.getD j 0:=by simp [List.getD_eq_getElem?_getD,hl,hj]
  rw [e2] at e;rw [List.map_cons,bN];simp only [List.map_cons];simp [mw,e] at ih ⊢;simp [ih]
theorem xZ (n:Nat) (hk:k<=6) (h:cK k rows):bS CR CP CN n [aM rows]=.ok (aM (tr k rows)):=by
 have hl:=h.1;have e0:kH CR CP CN n [some (aM rows),none,none]=.ok (.nx [some (aM rows),none,none]):=rfl;have k1: -4611686018427387904<=(k:Int):=by omega
 have k2:(k:Int)<4611686018427387904:=by omega
 have s1:rows.length<=16777216:=by omega
 obtain ⟨ρ',e,z2,rfl⟩:=cz (p:=.nm 2) (g:=hV CR CP CN n)
  (fun i ρ=>∃(z2:Option Dat),ρ=[some (aM rows),some (aM ((tr k rows).take i)),z2]) (aR 0 k) 0 [some (aM rows),some (.lst []),none] ⟨none,rfl⟩ (by
  rintro i d ρ hd ⟨z2,rfl⟩;obtain ⟨hi,rfl⟩:=bY hd;have ec:=BX hi rows fun r hr=>(h.2 r hr).1;have ht:(tr k rows).take (i+1)=(tr k rows).take i++[rows.map fun r=>r.getD i 0]:=by
   rw [List.take_add_one];simp [tr,hi]
  have hlt:((tr k rows).take i).length<16777216:=by rw [List.length_take];simp [tr];omega
  simp only [Nat.zero_add];refine ⟨_,rfl,_,.inl (?_:hV CR CP CN n [some (aM rows),some (aM ((tr k rows).take i)),some (.int (i:Int))]=.ok (.nx [some (aM rows),some (aM ((tr k rows).take (i+1))),some (.int (i:Int))])),_,rfl⟩
  rw [ht];generalize (tr k rows).take i=acc at hlt;simp [hV,aM,ec,s1,hlt,mw,-List.map_map])
 rw [Nat.zero_add,cn,List.take_of_length_le (by simp [tr])] at e;have hlen:tH [aM rows]=.ok (.int k):=by simp [aM,hl]
 simp [bS,jE,e0,hlen,k1,k2,e]
theorem Dr (n:Nat):bS CR CP CN n [.non]=.ok .non:=by simp [bS,jE,kH,D9]
theorem turned_o (n:Nat) {w:Wo} (hw:w.Good):bS CR CP CN n [w.o]=.ok (trO w.k w.r2 w.o):=by
 rcases hw.o with ⟨h1,_⟩|⟨h1,h2⟩
 ·rw [h1];exact Dr CR CP CN n
 ·rw [h1];exact xZ CR CP CN n hw.k6 h2
theorem Bu (n:Nat) (a0 a1 a2 a3 a4 a11:Option Dat):∀(fl acc:List Fli) (z6 z7 z8 z9 z10:Option Dat),acc.length+fl.length<=1000->∃y6 y7 y8 y9 y10,nk (.tp [6,7,8,9,10]) (cZ CR CP CN n) (fl.map flD) [a0,a1,a2,a3,a4,some (.lst (acc.map flD)),z6,z7,z8,z9,z10,a11]=.ok (.nx [a0,a1,a2,a3,a4,some (.lst ((acc++fl.map Fli.mir).map flD)),y6,y7,y8,y9,y10,a11])
 |[],acc,z6,z7,z8,z9,z10,_=>⟨z6,z7,z8,z9,z10,by simp [nk]⟩
 |f::fl,acc,z6,z7,z8,z9,z10,hl=>by
  simp only [List.length_cons] at hl;obtain ⟨y6,y7,y8,y9,y10,ih⟩:=Bu n a0 a1 a2 a3 a4 a11 fl (acc++[f.mir]) (some (.int f.kind)) (some (.int f.first)) (some (.int f.last)) (some (.int f.due)) (some (.int f.price)) (by simp;omega);have hs:acc.length<16777216:=by omega
  have eb:cZ CR CP CN n [a0,a1,a2,a3,a4,some (.lst (acc.map flD)),some (.int f.kind),some (.int f.first),some (.int f.last),some (.int f.due),some (.int f.price),a11]=.ok (.nx [a0,a1,a2,a3,a4,some (.lst ((acc++[f.mir]).map flD)),some (.int f.kind),some (.int f.first),some (.int f.last),some (.int f.due),some (.int f.price),a11]):=by
   simp [cZ,hs,flD,Fli.mir]
  refine ⟨y6,y7,y8,y9,y10,?_⟩
  rw [List.map_cons,nk,show jg (.tp [6,7,8,9,10]) (flD f) [a0,a1,a2,a3,a4,some (.lst (acc.map flD)),z6,z7,z8,z9,z10,a11]=.ok [a0,a1,a2,a3,a4,some (.lst (acc.map flD)),some (.int f.kind),some (.int f.first),some (.int f.last),some (.int f.due),some (.int f.price),a11] from rfl,az,eb];show nk (.tp [6,7,8,9,10]) (cZ CR CP CN n) (fl.map flD) _=_;rw [ih,List.map_cons,List.append_assoc];rfl
theorem BV:∀cs:List dg,bN (.tp [0,1]) oi (fL dZ (a9 (f2 jS (f2 tZ (f2 rA (fC (.int 10)) (fC (.int 9))) (af 1)) (fC (.int 1))) (a9 (f2 jS (f2 tZ (f2 rA (fC (.int 10)) (fC (.int 9))) (af 0)) (fC (.int 1))) aB))) [none,none] (cs.map stD)=.ok ((cs.map t8).map stD)
 |[]=>rfl
 |p::cs=>by
  have ih:=BV cs;rw [List.map_cons,bN];simp [stD,t8] at ih ⊢;simp [ih]
theorem uh (n:Nat) {w:Wo} (hw:w.Good):cU CR CP CN n [aV w]=.ok (aV w.mir):=by
 have hf:=hw.fll;have hc:=hw.csl;obtain ⟨y6,y7,y8,y9,y10,el⟩:=Bu CR CP CN n (some (aV w)) (some w.ruD) (some (.lst (w.fl.map flD))) (some (.lst (w.cs.map stD))) (some (.lst (w.qs.map stD))) none w.fl [] none none none none none (by simp;omega);have ec:=BV w.cs;have t1:=xZ CR CP CN n hw.k6 hw.rows;have t2:=turned_o CR CP CN n hw;have s1:w.cs.length<=16777216:=by omega
 simp only [List.nil_append,List.map_nil] at el;have er:(w.qs.map stD).reverse=w.qs.reverse.map stD:=by rw [List.map_reverse]
 have e2:aV w.mir=.tup [.tup [aM (tr w.k w.rows),trO w.k w.r2 w.o],.lst ((w.fl.map Fli.mir).map flD),.lst ((w.cs.map t8).map stD),.lst (w.qs.map stD).reverse]:=by rw [er];rfl
 rw [e2];unfold aV Wo.ruD at el;unfold aV Wo.ruD;simp [cU,kn,el,ec,s1,t1,t2,DM,-List.map_map,-List.map_reverse]
theorem vM (n:Nat) {w:Wo} (hw:w.Good):ba CR CP CN n [w.ruD]=.ok (aF CR CP w.rows w.o):=xi CR CP CN n w.k w.rows w.o hw.k1 hw.k6 hw.rows (by
 rcases hw.o with ⟨h,_⟩|⟨h,g⟩
 ·exact .inl h
 ·exact .inr ⟨_,g,h⟩)
theorem sT (n:Nat) (hne:CR≠CP) {w:Wo} (hw:w.Good) (ef:cT CR CP CN n [aF CR CP w.rows w.o,.lst (w.fl.map flD),.lst (w.cs.map stD),.lst (w.qs.map stD)]=.ok (.lst (bq ts ls))):bT CR CP CN n [aV w]=.ok (.lst (bq ts ls)):=by
 have em:=vM CR CP CN n hw;have e1:dD CR CP CN n [some (aV w),some .non]=.ok (.nx [some (aV w),some (.lst (bq ts ls))]):=by
  unfold dD;rw [z0 (fl:=.nx [some (aV w),some (.lst (bq ts ls))]) (by simp [aV,em,ef])]
 simp [bT,iB,e1]
theorem sU (n:Nat) (hne:CR≠CP) {w:Wo} (hw:w.Good) (hno:¬∃ts,w.kN ts):bT CR CP CN n [aV w]=.ok .non:=by
 have em:=vM CR CP CN n hw;rcases tX CR CP CN n hw w.qs.length (Nat.le_refl _) with ⟨ts,h1,h2⟩|⟨i,ts,t,hi,h1,h2,h3,h4⟩
 ·exact absurd ⟨ts,h1,h2⟩ hno
 ·have et:=Dy CR CP CN n hne hw hi h1 h2 h3 h4;have ef:cT CR CP CN n [aF CR CP w.rows w.o,.lst (w.fl.map flD),.lst (w.cs.map stD),.lst (w.qs.map stD)]=.error (.exc CN [("flight",.int (qAt w.qs i).1),("time",.int t)]):=by simp [cT,rP,et]
  have e1:dD CR CP CN n [some (aV w),some .non]=.ok (.nx [some (aV w),some .non]):=by
   unfold dD;rw [vY (fs:=[("flight",.int (qAt w.qs i).1),("time",.int t)]) (by simp [aV,em,ef])];rfl
  simp [bT,iB,e1]
end
theorem Ct {w:Wo} (hl:w.eS ts i):eqM (lK w ts i) (.tup [.str "first"])=.ok (.bl (decide (tAt ts i=(w.f i).first))):=by
 by_cases h1:tAt ts i=(w.f i).first
 ·rw [decide_eq_true h1];unfold lK;rw [if_pos h1];simp [eqM,okE,kU,eqD,ot]
 ·rw [decide_eq_false h1];rcases DU hl with h|⟨j,h⟩|⟨j,h⟩
  ·exfalso;unfold lK at h;rw [if_neg h1] at h;cases h2:yT (w.qU ts i) (tAt ts i) with
   |some k=>rw [h2] at h;simp at h
   |none=>
    obtain ⟨j,e⟩:=u1 hl h1 h2;rw [h2] at h;simp only [e] at h;simp at h
  ·rw [h];simp [eqM,okE,kU,eqD,ot]
  ·rw [h];simp [eqM,okE,kU,eqD,ot]
theorem get_rev {f:Nat->Dat} {N:Nat} (h:p<N):mx (((List.range N).map f).reverse) (p:Int)=.ok (f (N-1-p)):=by
 rw [jD (by simpa using h)];simp
section
variable (CR CP CN:Addr)
theorem Cm (n:Nat) {w:Wo} (hw:w.Good) (hla:w.lB ts ls) (hu:w.mir.kN us) (hus:us=back ls) (hp:p<w.qs.length) (a1 a2 a3 a4 z8:Option Dat):∃y8,
  iE CR CP CN n [some (aV w),a1,a2,a3,a4,some (.lst (ls.map .int)),some (.lst ((List.range w.qs.length).map (lK w.mir us)).reverse),some (.int (p:Int)),z8]=.ok (.nx [some (aV w),a1,a2,a3,a4,some (.lst (ls.map .int)),some (.lst ((List.range w.qs.length).map (lK w.mir us)).reverse),some (.int (p:Int)),y8]):=by
 have hq:w.mir.qs.length=w.qs.length:=List.length_reverse ..;have hll:=hla.1;obtain ⟨ef,_⟩:=hw.fAt hp;have eq:=getQ hp;have g1:=get_rev (f:=lK w.mir us) hp;have g2:=Ct (hu.2 (w.qs.length-1-p) (by omega));have g3:=getT (ts:=ls) (i:=p) (by omega);have hb:decide (tAt us (w.qs.length-1-p)=(w.mir.f (w.qs.length-1-p)).first)=decide (tAt ls p=(w.f p).last):=by
  rw [mir_f hw (by omega),hus,kI (by omega),show ls.length-1-(w.qs.length-1-p)=p by omega,show w.qs.length-1-(w.qs.length-1-p)=p by omega]
  congr 1
  simp only [flip,Fli.mir];exact propext ⟨fun z=>by omega,fun z=>by omega⟩
 rw [hb] at g2;have g4:eqM (.int (tAt ls p)) (.int (w.f p).last)=.ok (.bl (decide (tAt ls p=(w.f p).last))):=by
  simp [eqM,okE,eqD];rfl
 have g5:∀b:Bool,neM (.bl b) (.bl b)=.ok (.bl false):=fun b=>by cases b<;>simp [neM,okE,eqD]
 simp only [stD,flD] at eq ef;refine ⟨some (flD (w.f p)),?_⟩
 generalize ((List.range w.qs.length).map (lK w.mir us)).reverse=ps at g1;generalize decide (tAt ls p=(w.f p).last)=bb at g2 g4;simp [iE,aV,eq,ef,qq,g1,g2,g3,g4,g5,flD]
theorem sides_ok (n:Nat) (hne:CR≠CP) {w:Wo} (hw:w.Good) (hl:w.kN ts):iS CR CP CN n [aV w,aV w.mir]=.ok (.bl true):=by
 have hq:w.mir.qs.length=w.qs.length:=List.length_reverse ..;have hqf:=hw.qsl;have hf:=hw.fll;have hm:=lg hw;have em:=vM CR CP CN n hw;have em2:=vM CR CP CN n hm;have et:=pP CR CP CN n hne hw hl;obtain ⟨ls,hla,ela⟩:=um CR CP CN n hne hw hl;have hll:=hla.1;have htl:=hl.1;have hkl:=hla.keeps hl.keeps;obtain ⟨us,hu,_⟩:=tI CR CP CN n hm ((iQ hw hll).mpr hkl);have hus:=yM hw hl hla hu;have et2:=pP CR CP CN n hne hm hu;obtain ⟨ks,hka,eka⟩:=um CR CP CN n hne hm hu;have hks:=vL hw hl hu hka;have hul:=hu.1;have hkl2:=hka.1;have b1:=AQ CR CP CN n us (by omega);have b2:=AQ CR CP CN n ks (by omega);rw [hus,pG] at b1;rw [hks,pG] at b2;rw [hus] at et2;rw [hks] at eka;have n1:=Bt ls;have n2:=Bt ts;have ep:=DR CR CP CN n hne hm hu;rw [hq] at ep;obtain ⟨ρ',e,z7,z8,rfl⟩:=cz (p:=.nm 7) (g:=iE CR CP CN n)
  (fun i ρ=>∃(z7 z8:Option Dat),ρ=[some (aV w),some (aV w.mir),some (aF CR CP w.rows w.o),some (aF CR CP w.mir.rows w.mir.o),some (.lst (ts.map .int)),some (.lst (ls.map .int)),some (.lst ((List.range w.qs.length).map (lK w.mir us)).reverse),z7,z8]) (aR 0 ts.length) 0 _ ⟨none,none,rfl⟩ (by
  rintro i d ρ hd ⟨z7,z8,rfl⟩;obtain ⟨hi,rfl⟩:=bY hd;obtain ⟨y8,et⟩:=Cm CR CP CN n hw hla hu hus (p:=i) (by omega) (some (aV w.mir)) (some (aF CR CP w.rows w.o)) (some (aF CR CP w.mir.rows w.mir.o)) (some (.lst (ts.map .int))) z8;exact ⟨_,rfl,_,.inl et,_,_,rfl⟩)
 have c1:=Fl CR CP CN n w.k w.fl hw.fl w.qs ts hw.qs (by omega);have c2:=Fl CR CP CN n w.k w.fl hw.fl w.qs ls hw.qs (by omega);have hmo:=w4 w.k w.fl hw.fl w.qs ts ls hw.qs htl hll fun i hi=>(hla.2 i hi).2;have k1: -4611686018427387904<=(ts.length:Int):=by omega
 have k2:(ts.length:Int)<4611686018427387904:=by omega
 generalize (List.range w.qs.length).map (lK w.mir us)=ps at ep e;simp only [aV] at e ⊢;simp [iS,pq,em,em2,et,ela,qt,et2,b1,n1,qr,eka,b2,n2,ep,DM,k1,k2,e,c1,c2,hmo]
theorem EL (n:Nat) (hne:CR≠CP) {w:Wo} (hw:w.Good) (hon:Once w) (hl:w.kN ts) (hla:w.lB ts ls) (ef:cT CR CP CN n [aF CR CP w.rows w.o,.lst (w.fl.map flD),.lst (w.cs.map stD),.lst (w.qs.map stD)]=.ok (.lst (bq ts ls))) (hp0:0<w.qs.length) (ns:List Int) (k:Nat) (hk:k<=50) (z7 z8 z9 z10 z11 z12 z13:Option Dat):∃y7 y8 y9 y10 y11 y12 y13,
  jI CR CP CN n [some (.lst (ns.map .int)),some (aV w),some (aV w.mir),some (.lst (bq ts ls)),some (aF CR CP w.rows w.o),some (aF CR CP w.mir.rows w.mir.o),some (.int (k:Int)),z7,z8,z9,z10,z11,z12,z13]=.ok (.nx [some (.lst (ns.map .int)),some (aV w),some (aV w.mir),some (.lst (bq ts ls)),some (aF CR CP w.rows w.o),some (aF CR CP w.mir.rows w.mir.o),some (.int (k:Int)),y7,y8,y9,y10,y11,y12,y13]):=by
 have hqf:=hw.qsl;have hf:=hw.fll;have hll:=hla.1;have htl:=hl.1;have hm:=lg hw;have hkl:=hla.keeps hl.keeps;have hkt:=hl.keeps;obtain ⟨x,hx,ex⟩:=E5 CR CP CN n ns k (by omega);obtain ⟨y,hy,ey⟩:=E5 CR CP CN n ns (10+k) (by omega);rw [show ((10+k:Nat):Int)=10+(k:Int) by omega] at ey;have hpl:(bq ts ls).length=w.qs.length:=by unfold bq;rw [jt];simp;omega
 have hp':(0:Int)<w.qs.length:=by omega
 obtain ⟨p,hp,ep⟩:∃p:Nat,p<w.qs.length/\x%(w.qs.length:Int)=p:=⟨(x%(w.qs.length:Int)).toNat,by have:=Int.emod_lt_of_pos x hp';have:=Int.emod_nonneg x (show (w.qs.length:Int)≠0 by omega);omega,by have:=Int.emod_nonneg x (show (w.qs.length:Int)≠0 by omega);omega⟩
 have eg:=Bp (ts:=ts) (ls:=ls) (i:=p) (by omega) (by omega);have hle:=(hla.2 p hp).2;have gf:=(hw.fAt hp).2.f0;have k1:=(hkt p hp).1;have k2:=(hkl p hp).1;obtain ⟨t,e10,ht1,ht2,hnc⟩:∃t:Int,mx [.int (tAt ts p),.int (tAt ls p)] (y%2)=.ok (.int t)/\tAt ts p<=t/\t<=tAt ls p/\¬Cov w.cs t:=by
  have h2:y%2=0\/y%2=1:=by omega
  rcases h2 with h|h
  ·exact ⟨tAt ts p,by rw [h];simp,Int.le_refl _,hle,k1.2.2⟩
  ·exact ⟨tAt ls p,by rw [h];simp,hle,Int.le_refl _,k2.2.2⟩
 have hcv:covB w.cs t=false:=by
  cases h:covB w.cs t with
  |false=>rfl
  |true=>exact absurd (BU.mp h) hnc
 have hg1:=EB hw hp t (by omega) (by omega);have hkc:=CL hw hon hp t hkl ht2;obtain ⟨us,hu,_⟩:=tI CR CP CN n hg1 hkc;obtain ⟨b1,b2,_⟩:=late_all hw hon hp t hl hla ht1 hnc hu;have ewi:=with_ok CR CP CN n hne hw hl hp t hla ef ht1 ht2 hcv hg1 hu;have hul:us.length=w.qs.length:=hu.1;have gt:=getT (ts:=us) (i:=p) (by omega);rw [b1] at gt;obtain ⟨c,ec,hc⟩:=Bx CR CP CN n hne hw us hul;rw [hc.mpr b2] at ec;have hq:w.mir.qs.length=w.qs.length:=List.length_reverse ..;obtain ⟨d,ed,hd⟩:=Bx CR CP CN n hne hm (back us) (by rw [pY];omega);rw [hd.mpr ((iQ hw hul).mpr b2)] at ed;have eb:=AQ CR CP CN n us (by omega);have nn:neM (.int t) (.int t)=.ok (.bl false):=by simp [neM,okE,eqD]
 refine ⟨some (.int p),some (.int (tAt ts p)),some (.int (tAt ls p)),some (.int t),some (.lst (us.map .int)),some (.bl true),some (.bl true),?_⟩
 simp only [aV];simp [jI,ex,hpl,rl hp',ep,eg,ey,e10,ewi,rY,gt,nn,ec,eb,ed,rX,notBD]
theorem held_ok (n:Nat) (hne:CR≠CP) {w:Wo} (hw:w.Good) (hon:Once w) (hl:w.kN ts) (hla:w.lB ts ls) (ef:cT CR CP CN n [aF CR CP w.rows w.o,.lst (w.fl.map flD),.lst (w.cs.map stD),.lst (w.qs.map stD)]=.ok (.lst (bq ts ls))) (ns:List Int) (hns:ns.length<=63) :
  ig CR CP CN n [.lst (ns.map .int),aV w,aV w.mir,.lst (bq ts ls)]=.ok (.bl true):=by
 have hqf:=hw.qsl;have hf:=hw.fll;have hll:=hla.1;have htl:=hl.1;have em:=vM CR CP CN n hw;have em2:=vM CR CP CN n (lg hw);have hpl:(bq ts ls).length=w.qs.length:=by unfold bq;rw [jt];simp;omega
 have hn:neM (.lst (bq ts ls)) (.lst [])=.ok (.bl !(bq ts ls).isEmpty):=by
  unfold neM;rw [if_pos (by simp only [okE,kU,Bool.and_true];exact ue 38 ts ls)];cases bq ts ls<;>simp [eqD,ot]
 have hmz:0<=kb (ns.length:Int) 5/\kb (ns.length:Int) 5<=5:=by unfold kb;split<;>omega
 by_cases hp:0<w.qs.length
 ·have he:(bq ts ls).isEmpty=false:=by
   cases h:bq ts ls with
   |nil=>rw [h] at hpl;simp at hpl;omega
   |cons a b=>rfl
  rw [he] at hn;obtain ⟨m,hm,emz⟩:∃m:Nat,m<=5/\kb (ns.length:Int) 5=m:=⟨(kb (ns.length:Int) 5).toNat,by omega,by omega⟩
  obtain ⟨ρ',e,_⟩:=cz (p:=.nm 6) (g:=jI CR CP CN n)
   (fun i ρ=>∃(z6 z7 z8 z9 z10 z11 z12 z13:Option Dat),ρ=[some (.lst (ns.map .int)),some (aV w),some (aV w.mir),some (.lst (bq ts ls)),some (aF CR CP w.rows w.o),some (aF CR CP w.mir.rows w.mir.o),z6,z7,z8,z9,z10,z11,z12,z13]) (aR 0 m) 0 _ ⟨none,none,none,none,none,none,none,none,rfl⟩ (by
   rintro i d ρ hd ⟨z6,z7,z8,z9,z10,z11,z12,z13,rfl⟩;obtain ⟨hi,rfl⟩:=bY hd;obtain ⟨y7,y8,y9,y10,y11,y12,y13,et⟩:=EL CR CP CN n hne hw hon hl hla ef hp ns i (by omega) z7 z8 z9 z10 z11 z12 z13;exact ⟨_,rfl,_,.inl et,_,_,_,_,_,_,_,_,rfl⟩)
  have k1: -4611686018427387904<=(m:Int):=by omega
  have k2:(m:Int)<4611686018427387904:=by omega
  simp only [aV] at e ⊢;simp [ig,nc,em,em2,emz,hn,b2z,k1,k2,e]
 ·have he:bq ts ls=[]:=by
   cases h:bq ts ls with
   |nil=>rfl
   |cons a b=>rw [h] at hpl;simp at hpl;omega
  rw [he] at hn ⊢;simp only [aV];simp [ig,nc,em,em2,hn,b2z,aR,nk]
theorem BW:∀cs:List dg,bN (.tp [0,1]) oi (fL dZ (a9 (fL maxD (a9 (af 0) (a9 (fC (.int 1)) aB))) (a9 (fL maxD (a9 (af 1) (a9 (fC (.int 2)) aB))) aB))) [none,none] (cs.map stD)=.ok ((cs.map fun p=>((kS p.1 1,kS p.2 2):dg)).map stD)
 |[]=>rfl
 |p::cs=>by
  have ih:=BW cs;rw [List.map_cons,bN];simp [stD] at ih ⊢;simp [ih]
theorem ze:∀ts ls:List Int,ts.length=ls.length->bN (.tp [0,1]) oi (fL dZ (a9 (f2 tZ (f2 rA (fC (.int 10)) (fC (.int 9))) (af 1)) (a9 (f2 tZ (f2 rA (fC (.int 10)) (fC (.int 9))) (af 0)) aB))) [none,none] (bq ts ls)=.ok (bq (ls.map flip) (ts.map flip))
 |[],[],_=>rfl
 |[],_::_,h=>by simp at h
 |_::_,[],h=>by simp at h
 |t::ts,l::ls,h=>by
  have ih:=ze ts ls (by simpa using h);have e1:bq (t::ts) (l::ls)=.tup [.int t,.int l]::bq ts ls:=by simp [bq,l3]
  have e2:bq ((l::ls).map flip) ((t::ts).map flip)=.tup [.int (flip l),.int (flip t)]::bq (ls.map flip) (ts.map flip):=by simp [bq,l3]
  rw [e1,e2,bN];simp [ih,flip]
theorem wV:∀as bs:List Int,bq as bs=(as.zip bs).map fun p=>Dat.tup [.int p.1,.int p.2]
 |[],bs=>by simp [bq,l3]
 |a::as,[]=>by simp [bq,l3]
 |a::as,b::bs=>by
  have:=wV as bs;simp only [bq] at this ⊢;simp [l3,this]
theorem Bo:∀as bs:List Int,as.length=bs.length->bq as.reverse bs.reverse=(bq as bs).reverse
 |[],[],_=>rfl
 |[],_::_,h=>by simp at h
 |_::_,[],h=>by simp at h
 |a::as,b::bs,h=>by
  have hl:as.length=bs.length:=by simpa using h
  have ih:=Bo as bs hl;rw [wV] at ih;rw [List.reverse_cons,List.reverse_cons,wV,List.zip_append (by simpa using hl),List.map_append,ih];simp [bq,l3]
theorem law_true (hne:CR≠CP):∀ns:List Int,ns.length<=63->∃n,Et CR CP CN n [.lst (ns.map .int)]=.ok (.bl true):=by
 intro ns hns;refine ⟨64,?_⟩
 obtain ⟨w0,hw0,es,_,hperm⟩:=state_ok CR CP CN 64 (Nat.le_refl _) ns hns;obtain ⟨w,ew⟩:∃w:Wo,w=⟨w0.k,w0.rows,w0.r2,w0.o,w0.fl,w0.cs.map fun p=>(kS p.1 1,kS p.2 2),w0.qs⟩:=⟨_,rfl⟩
 have hw:w.Good:=by
  subst ew;refine ⟨hw0.k1,hw0.k6,hw0.rows,hw0.o,hw0.fl,hw0.fll,fun p hp=>?_,by rw [List.length_map];exact hw0.csl,hw0.qs,hw0.qsl⟩
  obtain ⟨q,hq,rfl⟩:=List.mem_map.mp hp;have:=hw0.cs q hq;have m1:=sy q.1 1;have m2:=sy q.2 2;show kS q.1 1<kS q.2 2;omega
 have hon:Once w:=once_of (by subst ew;exact hperm);have hc0:=hw0.csl;have ec:=BW w0.cs;have s1:w0.cs.length<=16777216:=by omega
 have hst:Dat.tup [w0.ruD,.lst (w0.fl.map flD),.lst ((w0.cs.map fun p=>((kS p.1 1,kS p.2 2):dg)).map stD),.lst (w0.qs.map stD)]=aV w:=by subst ew;rfl
 have em:=uh CR CP CN 64 hw;have em2:=uh CR CP CN 64 (lg hw);rw [DD hw] at em2;have hnst:=ne_state hw;have hq:w.mir.qs.length=w.qs.length:=List.length_reverse ..;have hqf:=hw.qsl;have hf:=hw.fll;by_cases hex:∃ts,w.kN ts
 ·obtain ⟨ts,hl⟩:=hex;obtain ⟨ls,hla,ef⟩:=EU CR CP CN 64 hne hw hl;have hkl:=hla.keeps hl.keeps;have hll:=hla.1;have htl:=hl.1;obtain ⟨us,hu,_⟩:=tI CR CP CN 64 (lg hw) ((iQ hw hll).mpr hkl);obtain ⟨ks,hka,ef2⟩:=EU CR CP CN 64 hne (lg hw) hu;have hus:=yM hw hl hla hu;have hks:=vL hw hl hu hka;have w1:=sT CR CP CN 64 hne hw ef;have w2:=sT CR CP CN 64 hne (lg hw) ef2;rw [hus,hks] at w2;have hsd:=sides_ok CR CP CN 64 hne hw hl;have hh:=held_ok CR CP CN 64 hne hw hon hl hla ef ns hns;have cp:=ze ts ls (by omega);have pr:(bq (back ls) (back ts)).reverse=bq (ls.map flip) (ts.map flip):=by
   unfold back;rw [Bo _ _ (by simp;omega),List.reverse_reverse]
  have npp:∀as bs:List Int,neM (.lst (bq as bs)) (.lst (bq as bs))=.ok (.bl false):=fun as bs=>by
   unfold neM;rw [if_pos (by simp only [okE];rw [ue 38];rfl)];simp [eqD,yZ]
  have npp:=npp (ls.map flip) (ts.map flip);have hpl:(bq ts ls).length<=16777216:=by unfold bq;rw [jt];simp;omega
  generalize bq (ls.map flip) (ts.map flip)=PF at *;generalize bq (back ls) (back ts)=PB at *;generalize bq ts ls=PT at *;generalize aV w.mir=SM at *;generalize aV w=S at *;simp [Et,g_law,es,ec,s1,hst,em,Aw,em2,hnst,w1,w2,Av,Fz,DM,pr,cp,hpl,npp,hsd,hh,-List.map_map]
 ·have hno2:¬∃ts,w.mir.kN ts:=fun ⟨us,hu⟩=>by
   have hul:=hu.1;have hk:w.Keeps (back us):=(iQ hw (by rw [pY];omega)).mp (by rw [pG];exact hu.keeps);obtain ⟨ts,ht,_⟩:=tI CR CP CN 64 hw hk;exact hex ⟨ts,ht⟩
  have w1:=sU CR CP CN 64 hne hw hex;have w2:=sU CR CP CN 64 hne (lg hw) hno2;generalize aV w.mir=SM at *;generalize aV w=S at *;simp [Et,g_law,es,ec,s1,hst,em,Aw,em2,hnst,w1,w2,Av,-List.map_map]
end
theorem fin_mk {st:Stmt} {ps:List Str} {f:Addr} (_:Def K mg "law" st ps f fd) (hb:∀(s:Shared) (v:Value),BindsTo s fd ⟨[v],[]⟩ [("_law_script",v)]) (h:∀base:Heap,cm P w K mg base CX0 k f fd ["_law_script"] (Ci K)):∃fd:FuncData,(∀(s:Shared) (v:Value),BindsTo s fd ⟨[v],[]⟩ [("_law_script",v)])/\∀base:Heap,K.In base->base.Ns mainGlobals mg->cm P w K mg base CX0 k f fd ["_law_script"] (Ci K):=⟨fd,hb,fun base _ _=>h base⟩
theorem all_mk {h:Heap} {fa CR:Addr} {vi vt xc xM od_law an_law od_nR an_nR od_nP an_nP od_nCN an_nCN:Option Addr} {v5 wH sl_law sl_nR sl_nP sl_nCN:Array (Option Value)} {vj vk vo vc qm vq xf xj xC wQ rT xE oc_law kV_law dc_law pm_law cd_law ct_law oc_nR kV_nR dc_nR pm_nR cd_nR ct_nR oc_nP kV_nP dc_nP pm_nP cd_nP ct_nP oc_nCN kV_nCN dc_nCN pm_nCN cd_nCN ct_nCN:Value} {uZ ye:Tok} (KX:K.In h) (G:h.Ns mainGlobals mg) (hfa:mg "law"=some (.ref fa))
  (FD:nsIn K mainGlobals "Rules"=some (some (.ref CR)))
  (AA:PySem.W.plainGet K CR Str.empty=true)
  (AE:PySem.W.hasDictIn K CR=true)
  (Az:plainOver K CR=true)
  (Ay:PySem.W.findIn K (.ref CR) "__setattr__"=some (some (.builtin "object.__setattr__")))
  (AB:PySem.W.makesIn K CR=true)
  (AD:keepIn K (.ref CR)=true)
  (AG:PySem.W.findIn K (.ref CR) "__class__"=some (some (.builtin "object.__class__")))
  (AF:PySem.W.mroIn K CR (.type "object")=some true)
  (rK:PySem.W.findIn K (.ref CR) "gaps"=some none)
  (uf:PySem.W.findIn K (.ref CR) "beside"=some none)
  (FE:nsIn K mainGlobals "Pair"=some (some (.ref CP)))
  (AJ:PySem.W.plainGet K CP Str.empty=true)
  (AM:PySem.W.hasDictIn K CP=true)
  (AI:plainOver K CP=true)
  (AH:PySem.W.findIn K (.ref CP) "__setattr__"=some (some (.builtin "object.__setattr__")))
  (AK:PySem.W.makesIn K CP=true)
  (AL:keepIn K (.ref CP)=true)
  (AO:PySem.W.findIn K (.ref CP) "__class__"=some (some (.builtin "object.__class__")))
  (AN:PySem.W.mroIn K CP (.type "object")=some true)
  (oO:PySem.W.findIn K (.ref CP) "gaps"=some none)
  (mQ:PySem.W.findIn K (.ref CP) "beside"=some none)
  (o2:specialIn K (.builtin "object.__class__") "__get__"=some (some (.builtin "getset_descriptor.__get__")))
  (o3:takesIn K (.builtin "object.__class__")=some true)
  (x_ne:CR≠CP)
  (qS:∃f fd,Def K mg "_law_draw" cO ["_law_script","_law_k"] f fd)
  (pf:∃f fd,Def K mg "_law_scale" lb ["_law_script"] f fd)
  (qQ:∃f fd,Def K mg "_law_gaps" mJ ["_law_script","_law_by","_law_kinds","_law_scale_here"] f fd)
  (kj:∃f fd,Def K mg "_law_rules_of" gv ["_law_script","_law_scale_here"] f fd)
  (lP:∃f fd,Def K mg "_law_flights" iA ["_law_script","_law_rules","_law_most","_law_scale_here"] f fd)
  (gF:∃f fd,Def K mg "_law_free_closed" dJ ["_law_cell","_law_many"] f fd)
  (qL:∃f fd,Def K mg "_law_rows" mF ["_law_cell","_law_kinds"] f fd)
  (gE:∃f fd,Def K mg "_law_free_flight" dI ["_law_cell","_law_kinds"] f fd)
  (jl:∃f fd,Def K mg "_law_free_plan" fK ["_law_cell","_law_many","_law_strips"] f fd)
  (qR:∃f fd,Def K mg "_law_free" mK ["_law_script","_law_most"] f fd)
  (n4:∃f fd,Def K mg "_law_closed" jB ["_law_script","_law_scale_here"] f fd)
  (qM:∃f fd,Def K mg "_law_plan" mG ["_law_script","_law_rules","_law_flights_here"] f fd)
  (pb:∃f fd,Def K mg "_law_state" l9 ["_law_script","_law_most"] f fd)
  (mZ:∃f fd,Def K mg "_law_turned" jA ["_law_rows_here"] f fd)
  (kl:∃f fd,Def K mg "_law_mirrored" gw ["_law_state_here"] f fd)
  (sD:∃f fd,Def K mg "spots_of" i6 ["flights","plan"] f fd)
  (gD:∃f fd,Def K mg "joined_stretches" cv ["closed"] f fd)
  (qG:∃f fd,Def K mg "next_open" mC ["closed","time"] f fd)
  (nJ:PySem.W.findIn K (.ref CR) "apart"=some (some (.ref aZ)))
  (mW:PySem.W.isFn K (.ref aZ)=true)
  (mU:K.lookup aZ=some ⟨vj,vi,.func (fnOf "apart" "Rules.apart" (eW cw) (dq cw) (aq cw) .none vk vo vc vt qm vq),v5⟩)
  (nr:codeIn K qm "Rules.apart"=true)
  (mV:keepIn K (.ref aZ)=true)
  (pH:PySem.W.findIn K (.ref CP) "apart"=some (some (.ref bu)))
  (oX:PySem.W.isFn K (.ref bu)=true)
  (oR:K.lookup bu=some ⟨xf,xc,.func (fnOf "apart" "Pair.apart" (eW d9) (dq d9) (aq d9) .none xj xC wQ xM rT xE),wH⟩)
  (pD:codeIn K rT "Pair.apart"=true)
  (oU:keepIn K (.ref bu)=true)
  (qK:∃f fd,Def K mg "gap_times" i7 ["rules","spots","times","place"] f fd)
  (sC:∃f fd,Def K mg "times_of" gb ["rules","flights","closed","plan"] f fd)
  (qJ:∃f fd,Def K mg "last_open" mE ["closed","time"] f fd)
  (qH:∃f fd,Def K mg "latest_of" jT ["rules","flights","closed","plan"] f fd)
  (uA:∃f fd,Def K mg "free_of" oH ["rules","flights","closed","plan"] f fd)
  (mY:∃f fd,Def K mg "copied_rows" jz ["rows"] f fd)
  (xn:∃f fd,Def K mg "is_gap" tE ["number"] f fd)
  (p9:∃f fd,Def K mg "is_gap_row" l8 ["row","kinds"] f fd)
  (lN:∃f fd,Def K mg "checked_rows" eZ ["rows"] f fd)
  (qO:∃f fd,Def K mg "_law_made" i8 ["_law_rules"] f fd)
  (lO:∃f fd,Def K mg "_law_windows" iz ["_law_state_here"] f fd)
  (qT:∃f fd,Def K mg "_law_back" jU ["_law_times"] f fd)
  (uy:∃f fd,Def K mg "push_of" rF ["flight","closed","gaps","time"] f fd)
  (qF:∃f fd,Def K mg "pushes_of" mB ["rules","flights","closed","plan"] f fd)
  (qI:∃f fd,Def K mg "late_cost" mD ["flight","time"] f fd)
  (uB:∃f fd,Def K mg "cost_of" rG ["flights","plan","times"] f fd)
  (pe:∃f fd,Def K mg "_law_sides" la ["_law_state_here","_law_other"] f fd)
  (mX:∃f fd,Def K mg "flight_from" jy ["flight","time"] f fd)
  (sE:∃f fd,Def K mg "is_place" pR ["flights","place"] f fd)
  (uz:∃f fd,Def K mg "is_open" oG ["closed","time"] f fd)
  (oZ:∃f fd,Def K mg "times_with" l6 ["rules","flights","closed","plan","place","time"] f fd)
  (lM:∃f fd,Def K mg "keeps_window" iy ["flight","closed","time"] f fd)
  (p8:∃f fd,Def K mg "keeps_plan" l7 ["rules","flights","closed","plan","times"] f fd)
  (qN:∃f fd,Def K mg "_law_pick" mH ["_law_script","_law_k"] f fd)
  (qP:∃f fd,Def K mg "_law_held" mI ["_law_script","_law_state_here","_law_other","_law_pairs"] f fd)
  (a_law:nsIn K mainGlobals "law"=some (some (.ref CW)))
  (l_law:K.lookup CW=some ⟨oc_law,od_law,.func (fnOf "law" "law" (eW Cq) (dq Cq) (aq Cq) .none kV_law dc_law pm_law an_law cd_law ct_law),sl_law⟩)
  (d_law:codeIn K cd_law "law"=true)
  (k_law:keepIn K (.ref CW)=true)
  (a_nR:PySem.W.findIn K (.ref CR) "__init__"=some (some (.ref f_nR)))
  (i_nR:PySem.W.isFn K (.ref f_nR)=true)
  (l_nR:K.lookup f_nR=some ⟨oc_nR,od_nR,.func (fnOf "__init__" "Rules.__init__" (eW s_nR) (dq s_nR) (aq s_nR) .none kV_nR dc_nR pm_nR an_nR cd_nR ct_nR),sl_nR⟩)
  (d_nR:codeIn K cd_nR "Rules.__init__"=true)
  (k_nR:keepIn K (.ref f_nR)=true)
  (a_nP:PySem.W.findIn K (.ref CP) "__init__"=some (some (.ref f_nP)))
  (i_nP:PySem.W.isFn K (.ref f_nP)=true)
  (l_nP:K.lookup f_nP=some ⟨oc_nP,od_nP,.func (fnOf "__init__" "Pair.__init__" (eW s_nP) (dq s_nP) (aq s_nP) .none kV_nP dc_nP pm_nP an_nP cd_nP ct_nP),sl_nP⟩)
  (d_nP:codeIn K cd_nP "Pair.__init__"=true)
  (k_nP:keepIn K (.ref f_nP)=true)
  (x_s1:specialIn K (.ref CR) "__getattribute__"=some (some (.builtin "type.__getattribute__")))
  (x_s2:PySem.W.readsIn K CR (.type "type")=true)
  (x_s3:PySem.W.findCls K (.ref CR) (.type "type") "__init__"=some (.val (.ref f_nR)))
  (xV:nsIn K mainGlobals "NoTime"=some (some (.ref CN)))
  (a_nCN:PySem.W.findIn K (.ref CN) "__init__"=some (some (.ref vm)))
  (i_nCN:PySem.W.isFn K (.ref vm)=true)
  (l_nCN:K.lookup vm=some ⟨oc_nCN,od_nCN,.func (fnOf "__init__" "NoTime.__init__" (eW zU) (dq zU) (aq zU) .none kV_nCN dc_nCN pm_nCN an_nCN cd_nCN ct_nCN),sl_nCN⟩)
  (d_nCN:codeIn K cd_nCN "NoTime.__init__"=true)
  (k_nCN:keepIn K (.ref vm)=true)
  (wt:sZ K CN [.type "ValueError",.type "Exception",.type "BaseException",.type "object"] "ValueError.__new__" vm=true)
  (zL:keepIn K (.ref CN)=true)
  (zO:PySem.W.findIn K (.ref CN) "__getattribute__"=some (some (.builtin "BaseException.__getattribute__")))
  (zP:PySem.W.findIn K (.ref CN) "__class__"=some (some (.builtin "object.__class__")))
  (zN:PySem.W.findIn K (.ref CN) "__getattr__"=some none)
  (wx:PySem.W.mroIn K CN (.type "BaseException")=some true)
  (zK:PySem.W.mroIn K CN (.type "object")=some true)
  (zM:(PySem.W.clsIn K CN).isSome=true)
  (wq:PySem.W.findIn K (.ref CN) "__setattr__"=some (some (.builtin "object.__setattr__")))
  (wu:((PySem.W.clsIn K CN).any fun cd=>tW cd.mro&&cd.hasDict)=true)
  (oy:PySem.W.findIn K (.ref CN) "flight"=some none)
  (so:PySem.W.findIn K (.ref CN) "time"=some none)
  (zJ:PySem.W.mroIn K CN (.ref CN)=some true)
  (zH:PySem.W.typeIn K (.ref CN)=some (.type "type"))
  (C9:nsIn K mainGlobals "all"=some none)
  (C8:nsIn K mainGlobals "any"=some none)
  (xU:nsIn K mainGlobals "bool"=some none)
  (fQ:nsIn K mainGlobals "enumerate"=some none)
  (xT:nsIn K mainGlobals "int"=some none)
  (dU:nsIn K mainGlobals "isinstance"=some none)
  (iK:nsIn K mainGlobals "len"=some none)
  (rB:nsIn K mainGlobals "list"=some none)
  (wo:nsIn K mainGlobals "max"=some none)
  (wm:nsIn K mainGlobals "min"=some none)
  (cM:nsIn K mainGlobals "range"=some none)
  (pO:nsIn K mainGlobals "sorted"=some none)
  (Dj:nsIn K mainGlobals "sum"=some none)
  (C7:nsIn K mainGlobals "zip"=some none)
  (fm:nsIn K mainGlobals "GREATEST_GAP"=some (some (.int 1000000 uZ)))
  (iU:nsIn K mainGlobals "MOST_KINDS"=some (some (.int 6 ye)))
  (oN:kitOne K (.type "int") (.type "int")=some true)
  (m9:kitOne K (.type "bool") (.type "int")=some true)
  (m5:kitOne K (.type "list") (.type "int")=some false)
  (jW:kitOne K (.type "tuple") (.type "int")=some false)
  (oK:kitOne K (.type "str") (.type "int")=some false)
  (f9:kitOne K (.type "NoneType") (.type "int")=some false)
  (m7:kitOne K (.type "int") (.type "bool")=some false)
  (k9:kitOne K (.type "bool") (.type "bool")=some true)
  (jZ:kitOne K (.type "list") (.type "bool")=some false)
  (iN:kitOne K (.type "tuple") (.type "bool")=some false)
  (lZ:kitOne K (.type "str") (.type "bool")=some false)
  (dY:kitOne K (.type "NoneType") (.type "bool")=some false)
  (m6:kitOne K (.type "int") (.type "list")=some false)
  (k8:kitOne K (.type "bool") (.type "list")=some false)
  (jY:kitOne K (.type "list") (.type "list")=some true)
  (iM:kitOne K (.type "tuple") (.type "list")=some false)
  (lY:kitOne K (.type "str") (.type "list")=some false)
  (dX:kitOne K (.type "NoneType") (.type "list")=some false)
  (k7:kitOne K (.type "int") (.type "tuple")=some false)
  (iP:kitOne K (.type "bool") (.type "tuple")=some false)
  (iO:kitOne K (.type "list") (.type "tuple")=some false)
  (gz:kitOne K (.type "tuple") (.type "tuple")=some true)
  (jX:kitOne K (.type "str") (.type "tuple")=some false)
  (du:kitOne K (.type "NoneType") (.type "tuple")=some false)
  (oM:kitOne K (.type "int") (.type "str")=some false)
  (m8:kitOne K (.type "bool") (.type "str")=some false)
  (m4:kitOne K (.type "list") (.type "str")=some false)
  (jV:kitOne K (.type "tuple") (.type "str")=some false)
  (oJ:kitOne K (.type "str") (.type "str")=some true)
  (f7:kitOne K (.type "NoneType") (.type "str")=some false) :
  ∃fd:FuncData,(∀(s:Shared) (v:Value),BindsTo s fd ⟨[v],[]⟩ [("_law_script",v)])/\∀base:Heap,K.In base->base.Ns mainGlobals mg->cm l.prog w K mg base CX0 9 fa fd ["_law_script"] (Ci K):=by
 have e:=hfa.symm.trans (mg_of KX G a_law);cases e;have K_CR:=kls_of (mg:=mg) KX G FD AA AE Az Ay AB AD AG o2 o3 AF;have K_CP:=kls_of (mg:=mg) KX G FE AJ AM AI AH AK AL AO o2 o3 AN;obtain ⟨aX,aQ,cQ⟩:=qS;obtain ⟨jc,gQ,lH⟩:=pf;obtain ⟨kE,j5,o8⟩:=qQ;obtain ⟨eI,dA,i0⟩:=kj;obtain ⟨fF,eF,iJ⟩:=lP;obtain ⟨cF,ck,dQ⟩:=gF;obtain ⟨kA,iZ,nZ⟩:=qL;obtain ⟨cE,cj,dP⟩:=gE;obtain ⟨dC,cW,fP⟩:=jl;obtain ⟨kF,j6,o9⟩:=qR;obtain ⟨gX,fy,jQ⟩:=n4;obtain ⟨kB,j0,o5⟩:=qM;obtain ⟨ja,gN,lF⟩:=pb;obtain ⟨gW,fx,jP⟩:=mZ;obtain ⟨eJ,dB,i3⟩:=kl;obtain ⟨cY,cg,ir⟩:=sD;obtain ⟨bA,bp,cL⟩:=gD;obtain ⟨kr,iW,nW⟩:=qG;have jR:=yL (C:=CR) (st:=cw) (ps:=["self","one","other"]) nJ mW mU nr mV fun _ _ _ _ _ _ us hl=>match us,hl with|[_,_,_],_=>rfl
 have lI:=yL (C:=CP) (st:=d9) (ps:=["self","one","other"]) pH oX oR pD oU fun _ _ _ _ _ _ us hl=>match us,hl with|[_,_,_],_=>rfl
 obtain ⟨dk,cA,iu⟩:=qK;obtain ⟨bZ,bG,gk⟩:=sC;obtain ⟨kx,iY,nY⟩:=qJ;obtain ⟨fU,eC,kO⟩:=qH;obtain ⟨kz,ip,pN⟩:=uA;obtain ⟨gU,fw,jO⟩:=mY;obtain ⟨rR,pz,tU⟩:=xn;obtain ⟨j9,gM,lE⟩:=p9;obtain ⟨bK,bz,aP⟩:=lN;obtain ⟨dn,cC,iw⟩:=qO;obtain ⟨fE,eE,iI⟩:=lO;obtain ⟨fV,eG,kQ⟩:=qT;obtain ⟨pA,ml,sh⟩:=uy;obtain ⟨kq,iV,nV⟩:=qF;obtain ⟨ku,iX,nX⟩:=qI;obtain ⟨pB,mm,si⟩:=uB;obtain ⟨jb,gO,lG⟩:=pe;obtain ⟨gR,fq,jN⟩:=mX;obtain ⟨mn,ko,q9⟩:=sE;obtain ⟨ky,il,pM⟩:=uz;obtain ⟨j7,gK,lC⟩:=oZ;obtain ⟨fD,eD,iH⟩:=lM;obtain ⟨j8,gL,lD⟩:=p8;obtain ⟨kC,j3,o6⟩:=qN;obtain ⟨kD,j4,o7⟩:=qP;have D_law:=bc (mg:=mg) (st:=Cq) (ps:=["_law_script"]) KX G a_law l_law d_law k_law fun _ _ _ _ _ _ us hl=>match us,hl with|[_],_=>rfl
 have ji:=jR;have jj:=lI;have N_R:=yL (C:=CR) (st:=s_nR) (ps:=["self","gaps"]) a_nR i_nR l_nR d_nR k_nR fun _ _ _ _ _ _ us hl=>match us,hl with|[_,_],_=>rfl
 have N_P:=yL (C:=CP) (st:=s_nP) (ps:=["self","gaps","beside"]) a_nP i_nP l_nP d_nP k_nP fun _ _ _ _ _ _ us hl=>match us,hl with|[_,_,_],_=>rfl
 have N_CN:=yL (C:=CN) (st:=zU) (ps:=["self","flight","time"]) a_nCN i_nCN l_nCN d_nCN k_nCN fun _ _ _ _ _ _ us hl=>match us,hl with|[_,_,_],_=>rfl
 have XCN:XMk K mg "NoTime" CN vm:=⟨mg_of KX G xV,wt,beq_iff_eq.mp i_nCN,zL⟩
 have Z:Zs K mg CR CP CN:=⟨zJ,⟨mg_of KX G xV,zH,wx⟩,⟨mg_of KX G xV,xnamed2 wt,⟨zO,zP,zN,wx,zK,Option.isSome_iff_exists.mp zM⟩⟩,⟨wq,oy,wu⟩,⟨wq,so,wu⟩,K_CR,K_CP,(by intro C h;simp only [List.mem_cons,List.not_mem_nil,or_false] at h;exact h.elim (fun e=>by subst e;exact ⟨K_CR.cl,rK⟩) (fun e=>by subst e;exact ⟨K_CP.cl,oO⟩)),(by intro C h;simp only [List.mem_cons,List.not_mem_nil,or_false] at h;subst h;exact ⟨K_CP.cl,mQ⟩),mg_none_of KX G C9,mg_none_of KX G C8,mg_none_of KX G xU,mg_none_of KX G fQ,mg_none_of KX G xT,mg_none_of KX G dU,mg_none_of KX G iK,mg_none_of KX G rB,mg_none_of KX G wo,mg_none_of KX G wm,mg_none_of KX G cM,mg_none_of KX G pO,mg_none_of KX G Dj,mg_none_of KX G C7,⟨_,mg_of KX G fm⟩,⟨_,mg_of KX G iU⟩,⟨oN,m9,m5,jW,oK,f9,m7,k9,jZ,iN,lZ,dY,m6,k8,jY,iM,lY,dX,k7,iP,iO,gz,jX,du,oM,m8,m4,jV,oJ,f7⟩⟩
 refine fin_mk D_law (fun s v=>.of_eq rfl) fun base=>law_ok (ro:=false) (mlaw:=Et CR CP CN) (fun n=>?_) (law_true CR CP CN x_ne);have FQ:=okn_CN (P:=l.prog) (w:=w) (base:=base) (mg:=mg) N_CN.fn Z.aCN_flight Z.aCN_time;have eR:=yJ (n:=n) (P:=l.prog) (w:=w) (base:=base) Z cQ;have xS:=x8 (n:=n) (P:=l.prog) (w:=w) (base:=base) Z ⟨cQ,eR⟩ lH;have zD:=yH (n:=n) (P:=l.prog) (w:=w) (base:=base) Z ⟨cQ,eR⟩ o8;have tw:=tj (n:=n) (P:=l.prog) (w:=w) (base:=base) Z ⟨o8,zD⟩ ⟨cQ,eR⟩ i0;have uU:=uc (n:=n) (P:=l.prog) (w:=w) (base:=base) Z ⟨cQ,eR⟩ iJ;have rq:=qD (n:=n) (P:=l.prog) (w:=w) (base:=base) Z dQ;have zy:=yC (n:=n) (P:=l.prog) (w:=w) (base:=base) Z nZ;have rp:=qC (n:=n) (P:=l.prog) (w:=w) (base:=base) Z dP;have sS:=sx (n:=n) (P:=l.prog) (w:=w) (base:=base) Z fP;have zE:=yI (n:=n) (P:=l.prog) (w:=w) (base:=base) Z ⟨dQ,rq⟩ ⟨nZ,zy⟩ ⟨dP,rp⟩ ⟨fP,sS⟩ o9;have vy:=vg (n:=n) (P:=l.prog) (w:=w) (base:=base) Z ⟨cQ,eR⟩ jQ;have zA:=yD (n:=n) (P:=l.prog) (w:=w) (base:=base) Z ⟨cQ,eR⟩ o5;have xQ:=x5 (n:=n) (P:=l.prog) (w:=w) (base:=base) Z ⟨lH,xS⟩ ⟨i0,tw⟩ ⟨iJ,uU⟩ ⟨o9,zE⟩ ⟨jQ,vy⟩ ⟨o5,zA⟩ lF;have vx:=vf (n:=n) (P:=l.prog) (w:=w) (base:=base) Z jP;have tx:=tm (n:=n) (P:=l.prog) (w:=w) (base:=base) Z ⟨jP,vx⟩ i3;have nS:=A6 (n:=n) (P:=l.prog) (w:=w) (base:=base) Z ir;have kL:=qB (n:=n) (P:=l.prog) (w:=w) (base:=base) Z cL;have zv:=yx (n:=n) (P:=l.prog) (w:=w) (base:=base) Z ⟨cL,kL⟩ nW;have dF:=vh (n:=n) (P:=l.prog) (w:=w) (base:=base) Z jR;have eU:=x9 (n:=n) (P:=l.prog) (w:=w) (base:=base) Z lI;have pJ:=yB (n:=n) (P:=l.prog) (w:=w) (base:=base) Z ji dF jj eU iu;have kK:=A5 (n:=n) (P:=l.prog) (w:=w) (base:=base) Z ⟨ir,nS⟩ ⟨nW,zv⟩ ⟨iu,pJ⟩ N_CN XCN FQ gk;have zx:=yA (n:=n) (P:=l.prog) (w:=w) (base:=base) Z ⟨cL,kL⟩ nY;have t6:=yy (n:=n) (P:=l.prog) (w:=w) (base:=base) Z ⟨gk,kK⟩ ⟨ir,nS⟩ ⟨nY,zx⟩ ji dF jj eU kO;have wg:=CA (n:=n) (P:=l.prog) (w:=w) (base:=base) Z ⟨gk,kK⟩ ⟨kO,t6⟩ pN;have vw:=ve (n:=n) (P:=l.prog) (w:=w) (base:=base) Z jO;have FP:=Ei (n:=n) (P:=l.prog) (w:=w) (base:=base) Z tU;have xP:=wZ (n:=n) (P:=l.prog) (w:=w) (base:=base) Z ⟨tU,FP⟩ lE;have kM:=u9 (n:=n) (P:=l.prog) (w:=w) (base:=base) Z ⟨jO,vw⟩ ⟨lE,xP⟩ aP;have OKN_R:=okn_R (n:=n) (P:=l.prog) (w:=w) (base:=base) (CR:=CR) (CP:=CP) (CN:=CN) (C:=CR) aP kM N_R.fn K_CR.cl rK;have OKN_RP:=okn_R (n:=n) (P:=l.prog) (w:=w) (base:=base) (CR:=CR) (CP:=CP) (CN:=CN) (C:=CP) aP kM N_R.fn K_CP.cl oO;have OKN_P:=okn_P (n:=n) (P:=l.prog) (w:=w) (base:=base) (CR:=CR) (CP:=CP) (CN:=CN) aP kM ⟨x_s1,x_s2,x_s3,k_nR⟩ N_R.bd OKN_RP K_CR.mg (mg_none_of KX G iK) N_P.fn K_CP.cl oO mQ;have pK:=yF (n:=n) (P:=l.prog) (w:=w) (base:=base) Z N_P OKN_P N_R OKN_R iw;have uT:=ua (n:=n) (P:=l.prog) (w:=w) (base:=base) Z ⟨pN,wg⟩ ⟨iw,pK⟩ iI;have t7:=yK (n:=n) (P:=l.prog) (w:=w) (base:=base) Z kQ;have D7:=Cy (n:=n) (P:=l.prog) (w:=w) (base:=base) Z sh;have zu:=yw (n:=n) (P:=l.prog) (w:=w) (base:=base) Z ⟨gk,kK⟩ ⟨ir,nS⟩ ⟨iu,pJ⟩ ⟨sh,D7⟩ nV;have zw:=yz (n:=n) (P:=l.prog) (w:=w) (base:=base) Z nX;have D8:=CB (n:=n) (P:=l.prog) (w:=w) (base:=base) Z ⟨nX,zw⟩ si;have xR:=x6 (n:=n) (P:=l.prog) (w:=w) (base:=base) Z ⟨iw,pK⟩ ⟨gk,kK⟩ ⟨kO,t6⟩ ⟨kQ,t7⟩ ⟨nV,zu⟩ ⟨si,D8⟩ lG;have vv:=vd (n:=n) (P:=l.prog) (w:=w) (base:=base) Z jN;have AV:=A7 (n:=n) (P:=l.prog) (w:=w) (base:=base) Z q9;have we:=Cz (n:=n) (P:=l.prog) (w:=w) (base:=base) Z pM;have xN:=wX (n:=n) (P:=l.prog) (w:=w) (base:=base) Z ⟨jN,vv⟩ ⟨gk,kK⟩ ⟨q9,AV⟩ ⟨pN,wg⟩ ⟨pM,we⟩ lC;have uS:=u7 (n:=n) (P:=l.prog) (w:=w) (base:=base) Z ⟨pM,we⟩ iH;have xO:=wY (n:=n) (P:=l.prog) (w:=w) (base:=base) Z ⟨ir,nS⟩ ⟨iH,uS⟩ ⟨iu,pJ⟩ lD;have zB:=yE (n:=n) (P:=l.prog) (w:=w) (base:=base) Z ⟨cQ,eR⟩ o6;have zC:=yG (n:=n) (P:=l.prog) (w:=w) (base:=base) Z ⟨iw,pK⟩ ⟨lC,xN⟩ ⟨lD,xO⟩ ⟨o6,zB⟩ ⟨kQ,t7⟩ o7;have OK_law:=ok_law (n:=n) (P:=l.prog) (w:=w) (base:=base) Z ⟨lF,xQ⟩ ⟨i3,tx⟩ ⟨iI,uT⟩ ⟨lG,xR⟩ ⟨o7,zC⟩ D_law;exact OK_law
theorem walk {q:Program} {loose:List Str} {XP:(Ld)->Heap->Prop} {YP:World->Heap->Prop} {d:DefRec} {K:Params->Pn} (hn:l.most=some 63) (hdf:d.params.defaults=[])
  (hY:∀(w:World) (h:Heap),YP w h->(K w.params).In h)
  (F:∀(w:World) (mg:Ld) (fa:Addr) (h:Heap),(K w.params).In h->h.Ns mainGlobals mg->mg d.name=some (.ref fa) ->
   ∃fd:FuncData,(∀(s:Shared) (u:Value),BindsTo s fd ⟨[u],[]⟩ [("_law_script",u)])/\∀base:Heap,(K w.params).In base->base.Ns mainGlobals mg->cm l.prog w (K w.params) mg base CX0 9 fa fd ["_law_script"] (Ci (K w.params))) :
  PySem.W.WalkO q loose XP YP l.row.toRowW d [] (fun f vs=>PySem.call f vs):=
 L2.walk_of (n:=63) (k:=9) (x:="_law_script") (CX:=fun _=>CX0) (sp:=fun w=>Ci (K w.params)) hn (by decide) hdf ⟨rfl,by decide,by decide⟩ hY F (fun _ _ a ns hl _ hS=>⟨a,ns,rfl,hS,hl,fun _=>rfl⟩) fun _ _ _ _ _ z=>z
end Ru
open PySem PySem.W PyProof.Rows
namespace PySem.W.Fast
theorem tw964485976026270636:True:=⟨⟩
theorem tw15280554995043808167:True:=⟨⟩
theorem tw14625493953169004794:True:=⟨⟩
theorem tw6255506541239548753:True:=⟨⟩
theorem tw4764729788336928197:True:=⟨⟩
theorem tw13392066956648123504:True:=⟨⟩
theorem tw2218170824620500748:True:=⟨⟩
theorem tw5608458234345250300:True:=⟨⟩
theorem tw15992346127774926821:True:=⟨⟩
theorem tw5387402349810414594:True:=⟨⟩
theorem tw16217364419494065637:True:=⟨⟩
theorem tw17887485936932246191:True:=⟨⟩
theorem tw12028364198592893367:True:=⟨⟩
theorem tw6661267471478022960:True:=⟨⟩
theorem tw5971544643393838117:True:=⟨⟩
theorem tw189142411891985204:True:=⟨⟩
theorem tw9854089007475185398:True:=⟨⟩
theorem tw260750768331547414:True:=⟨⟩
theorem tw6387991370520163066:True:=⟨⟩
theorem tw9419073558499573838:True:=⟨⟩
theorem tw4328291069557138552:True:=⟨⟩
theorem tw2677331520273638573:True:=⟨⟩
theorem tw4545684231708523358:True:=⟨⟩
theorem tw10613950360241948839:True:=⟨⟩
theorem tw16392991075126640457:True:=⟨⟩
theorem tw1045384876240983783:True:=⟨⟩
theorem tw6487061146850294474:True:=⟨⟩
theorem tw5498211712752256310:True:=⟨⟩
theorem tw17500537144274630321:True:=⟨⟩
theorem tw10720632395090993567:True:=⟨⟩
theorem tw13935738885758720857:True:=⟨⟩
theorem tw1540011342829614756:True:=⟨⟩
theorem tw13713112426616736661:True:=⟨⟩
theorem tw15942496423990576445:True:=⟨⟩
theorem tw1996063941346464814:True:=⟨⟩
theorem tw10581328043000360027:True:=⟨⟩
theorem tw8577391585461630163:True:=⟨⟩
theorem tw10327896759490477220:True:=⟨⟩
theorem tw15235647505056679334:True:=⟨⟩
theorem tw15787513602982588741:True:=⟨⟩
theorem tw2723889393924375246:True:=⟨⟩
theorem tw11633055500649664397:True:=⟨⟩
theorem tw5399571420182409106:True:=⟨⟩
theorem tw5214574144031955520:True:=⟨⟩
theorem tw6200610436512684560:True:=⟨⟩
theorem tw13748047877820138279:True:=⟨⟩
theorem tw2321434342222487525:True:=⟨⟩
theorem tw13280676457906514041:True:=⟨⟩
theorem tw6746800563974202010:True:=⟨⟩
theorem tw17343235264694578797:True:=⟨⟩
theorem tw8590524603735868269:True:=⟨⟩
theorem tw8848614948350386021:True:=⟨⟩
theorem tw4719604822309409672:True:=⟨⟩
theorem tw16612042448599792720:True:=⟨⟩
theorem tw1394437466853750689:True:=⟨⟩
theorem tw5396911391216012608:True:=⟨⟩
theorem tw9032477700378401568:True:=⟨⟩
theorem tw5039116344228932457:True:=⟨⟩
theorem tw17436647870319939852:True:=⟨⟩
theorem tw18001589741349542119:True:=⟨⟩
theorem tw2728160887404012100:True:=⟨⟩
theorem tw16923587123897736621:True:=⟨⟩
theorem tw478359779435551373:True:=⟨⟩
theorem tw8146362403719691105:True:=⟨⟩
theorem tw9984069890069068658:True:=⟨⟩
theorem tw6511597458245944703:True:=⟨⟩
theorem tw9731595490115820683:True:=⟨⟩
theorem tw12978482894676803963:True:=⟨⟩
theorem tw3373432588668363983:True:=⟨⟩
theorem tw11677219355528248695:True:=⟨⟩
theorem tw933464439981477474:True:=⟨⟩
theorem tw14912212134202852480:True:=⟨⟩
theorem tw8914536734580827366:True:=⟨⟩
theorem tw5441755958148243120:True:=⟨⟩
theorem tw2795743887683405871:True:=⟨⟩
theorem tw9771005952505965346:True:=⟨⟩
theorem tw13062211679236867488:True:=⟨⟩
theorem tw254643261438966877:True:=⟨⟩
theorem tw3059727836137799299:True:=⟨⟩
theorem tw6623272861371556713:True:=⟨⟩
theorem tw17175540720160158073:True:=⟨⟩
theorem tw918639496385242063:True:=⟨⟩
theorem tw2316286102940170294:True:=⟨⟩
theorem tw3133342514535198251:True:=⟨⟩
theorem tw11367704560233316133:True:=⟨⟩
theorem tw7105611066472736740:True:=⟨⟩
theorem tw13250636378805295367:True:=⟨⟩
theorem tw7290774681298830843:True:=⟨⟩
theorem tw128175335114700495:True:=⟨⟩
theorem tw16329409367401223219:True:=⟨⟩
theorem tw18031811918389508306:True:=⟨⟩
theorem tw4838629152071992119:True:=⟨⟩
theorem tw2221349418525514563:True:=⟨⟩
theorem tw3885190496883575133:True:=⟨⟩
theorem tw2554246108360656515:True:=⟨⟩
theorem tw5985957844316633608:True:=⟨⟩
end PySem.W.Fast
set_option maxRecDepth 100000 in
set_option maxHeartbeats 0 in
theorem PySem.Challenge.cw_wakeorder_k91_whole_mirrored_holds : PySem.Challenge.rw_wakeorder_k91_whole_mirrored.Holds := by
 w_on;o_law;k_head;(case hw=>w_witness2)
 k_fill
 refine Ru.walk (l:=PySem.Challenge.rw_wakeorder_k91_whole_mirrored) rfl rfl (fun w h Y=>PySem.W.kIn_of Y) ?F
 case F=>
  intro w mg fa h KX G hmg;refine' Ru.all_mk KX G hmg ?FD ?AA ?AE ?Az ?Ay ?AB ?AD ?AG ?AF ?rK ?uf ?FE ?AJ ?AM ?AI ?AH ?AK ?AL ?AO ?AN ?oO ?mQ ?o2 ?o3 ?x_ne ?qS ?pf ?qQ ?kj ?lP ?gF ?qL ?gE ?jl ?qR ?n4 ?qM ?pb ?mZ ?kl ?sD ?gD ?qG ?nJ ?mW ?mU ?nr ?mV ?pH ?oX ?oR ?pD ?oU ?qK ?sC ?qJ ?qH ?uA ?mY ?xn ?p9 ?lN ?qO ?lO ?qT ?uy ?qF ?qI ?uB ?pe ?mX ?sE ?uz ?oZ ?lM ?p8 ?qN ?qP ?a_law ?l_law ?d_law ?k_law ?a_nR ?i_nR ?l_nR ?d_nR ?k_nR ?a_nP ?i_nP ?l_nP ?d_nP ?k_nP ?x_s1 ?x_s2 ?x_s3 ?xV ?a_nCN ?i_nCN ?l_nCN ?d_nCN ?k_nCN ?wt ?zL ?zO ?zP ?zN ?wx ?zK ?zM ?wq ?wu ?oy ?so ?zJ ?zH ?C9 ?C8 ?xU ?fQ ?xT ?dU ?iK ?rB ?wo ?wm ?cM ?pO ?Dj ?C7 ?fm ?iU ?oN ?m9 ?m5 ?jW ?oK ?f9 ?m7 ?k9 ?jZ ?iN ?lZ ?dY ?m6 ?k8 ?jY ?iM ?lY ?dX ?k7 ?iP ?iO ?gz ?jX ?du ?oM ?m8 ?m4 ?jV ?oJ ?f7
  (case FD|AA|AE|Az|Ay|AB|AD|AG|AF|rK|uf|FE|AJ|AM|AI|AH|AK|AL|AO|AN|oO|mQ|o2|o3=>k_is)
  (case x_ne=>first|k_is|kernel_rfl|rfl|decide +kernel)
  (case nJ|mW|mU|nr|mV|pH|oX|oR|pD|oU|a_law|l_law|d_law|k_law|a_nR|i_nR|l_nR|d_nR|k_nR|a_nP|i_nP|l_nP|d_nP|k_nP=>k_is)
  (case x_s1|x_s2|x_s3|xV=>first|k_is|kernel_rfl|rfl|decide +kernel)
  (case a_nCN|i_nCN|l_nCN|d_nCN|k_nCN=>k_is)
  (case wt|zL|zO|zP|zN|wx|zK|zM|wq|wu|oy|so|zJ|zH=>first|k_is|kernel_rfl|rfl|decide +kernel)
  (case C9|C8|xU|fQ|xT|dU|iK|rB|wo|wm|cM|pO|Dj|C7|fm|iU=>k_is)
  (case oN|m9|m5|jW|oK|f9|m7|k9|jZ|iN|lZ|dY|m6|k8|jY|iM|lY|dX|k7|iP|iO|gz|jX|du|oM|m8|m4|jV|oJ|f7=>first|k_is|kernel_rfl|rfl|decide +kernel)
  (case qS|kj|gF|qL|gE|qR|n4|pb|sD|qG|qJ|p9|qI|pe|mX|sE|uz|qN=>exact ⟨_,_,L2.bc KX G (by k_is) (by k_is) (by k_is) (by k_is) fun _ _ _ _ _ _ us hl=>match us,hl with|[_,_],_=>rfl⟩)
  (case pf|mZ|kl|gD|mY|xn|lN|qO|lO|qT=>exact ⟨_,_,L2.bc KX G (by k_is) (by k_is) (by k_is) (by k_is) fun _ _ _ _ _ _ us hl=>match us,hl with|[_],_=>rfl⟩)
  (case qQ|lP|qK|sC|qH|uA|uy|qF|qP=>exact ⟨_,_,L2.bc KX G (by k_is) (by k_is) (by k_is) (by k_is) fun _ _ _ _ _ _ us hl=>match us,hl with|[_,_,_,_],_=>rfl⟩)
  (case jl|qM|uB|lM=>exact ⟨_,_,L2.bc KX G (by k_is) (by k_is) (by k_is) (by k_is) fun _ _ _ _ _ _ us hl=>match us,hl with|[_,_,_],_=>rfl⟩)
  (case oZ=>exact ⟨_,_,L2.bc KX G (by k_is) (by k_is) (by k_is) (by k_is) fun _ _ _ _ _ _ us hl=>match us,hl with|[_,_,_,_,_,_],_=>rfl⟩)
  (case p8=>exact ⟨_,_,L2.bc KX G (by k_is) (by k_is) (by k_is) (by k_is) fun _ _ _ _ _ _ us hl=>match us,hl with|[_,_,_,_,_],_=>rfl⟩)
