import PyProof.Rows.All
import PyProof.StrBlockI
import PyProof.StrBlock2
import PyProof.Draws
import PyProof.EnumMake
import PyProof.Rows.StrNews
import KE.KIntText
import PyProof.PureStr
import PyProof.MeetsStr2
import PyProof.Rows.StrItems
import PyProof.StrLawsChain
import PyProof.StrLawsTight
import PyProof.StrLawsIn
import PyProof.StrWalks
import PyProof.FactsAll.str_7
import PyProof.FactsAll.list_1
import PyProof.FitsReplace
import PyProof.FactsAll.str_5
import PyProof.FString
import PyProof.StrLawsJoin
import PyProof.MeetsStr
import KE.KDictSum
import PyProof.Rows.RuleC_int
import PyProof.FactsAll.tuple_1
import KE.KEqDict
import PyProof.Rows.TupTab
import PyProof.AttrMissSeq
import KE.KDictOf
import KE.KPairComp
import PyProof.DictWalks
import PyProof.DictValues
import PyProof.DictItems
import PyProof.Rows.SetFrom
import KE.KRevIter
import PyProof.InstStoreFacts
import PyProof.ExcInit
import PyProof.IsiBase
import PyProof.ExcAttrAll.ValueError
import OpenK.KDescr
import KE.KIsAll
import PyProof.Rows.CatchOwn
import PyProof.RulesTry
import PyProof.RulesAs
import PyProof.RulesDel
import OpenK.KOwn
import PyProof.ExcBaseAll.ValueError
import PyProof.StationsW
import Wide.All
import OpenK.AllK
import Wide.FinOn
import Lean
import PyProof.EqAt
import PyProof.EqKinds
import PyProof.NeKinds
import PyProof.TupleCall
import PySem.Challenge.RW_wakeorder_k70_sheets_read
set_option Elab.async false
set_option linter.all false
set_option maxRecDepth 100000
set_option maxHeartbeats 4000000
open PySem.W (lookIn plainGet hasDictIn findIn isFn plainOver takerIn makesIn keepIn specialIn takesIn mroIn kitOne kia_one callWith_K fnOf codeIn nsIn mg_of)
abbrev Fg:=PySem.W.Frag
abbrev Pn:=List (PySem.Addr×PySem.Obj)
abbrev Vp:=PySem.Value->PySem.Shared->Prop
abbrev Mq:=PySem.Str->Option PySem.Value
namespace L2
open PySem PySem.Spec PyProof.Rows
variable {κ:Type} {a b dx C:Addr} {P prog:Program} {w:World} {h h':Heap} {x name m qual:Str} {e c tg:Expr} {pins:Pn} {s s':Shared} {g':Array GenState} {ch fp:List Addr} {N ps:List Str} {i j k n:Nat} {A:Around} {E:Vp} {u:Value} {Q:Unit->Shared->Prop} {pos pos' p:Pos} {op op':CmpOp} {K:Fg} {es:List Expr} {g:Int->Int->Int} {body:List Stmt} {f:Value->Value->Sem Value} {us:List Value} {mA mg:Mq} {pl:Sem Bool} {kw:List (Str×Value)} {outer:List Env} {fd:FuncData} {scope:Scope}
noncomputable abbrev Key:=Sum Int Str
noncomputable def keyIs:Key->Value->Bool
 |.inl k,v=>Value.isInt k v
 |.inr x,v=>Value.isStrOf x v
noncomputable def keyH (w:World):Key->Int
 |.inl k=>hashInt k
 |.inr x=>hashStr w x
theorem cg:∀{k:Key} {v:Value},keyIs k v=true->(∃i t,k=Sum.inl i/\v=Value.int i t)\/(∃x t,k=Sum.inr x/\v=Value.str x t)
 |.inl i,v,h=>by
  obtain ⟨t,e⟩:=Value.isInt_shape (k:=i) (v:=v) h;exact .inl ⟨i,t,rfl,e⟩
 |.inr x,v,h=>by
  obtain ⟨t,e⟩:=Value.isStrOf_shape (x:=x) (v:=v) h;exact .inr ⟨x,t,rfl,e⟩
theorem key_ll (a b:Int):decide ((Sum.inl a:Key)=Sum.inl b)=(a==b):=by
 by_cases e:a=b
 ·subst e;simp
 ·have h:¬(Sum.inl a:Key)=Sum.inl b:=fun q=>e (Sum.inl.inj q);rw [decide_eq_false h];exact (beq_eq_false_iff_ne.mpr e).symm
theorem key_rr (a b:Str):decide ((Sum.inr a:Key)=Sum.inr b)=decide (a=b):=by
 by_cases e:a=b
 ·subst e;simp
 ·have h:¬(Sum.inr a:Key)=Sum.inr b:=fun q=>e (Sum.inr.inj q);rw [decide_eq_false h,decide_eq_false e]
theorem key_lr (a:Int) (b:Str):decide ((Sum.inl a:Key)=Sum.inr b)=false:=decide_eq_false (fun q=>nomatch q)
theorem key_rl (a:Str) (b:Int):decide ((Sum.inr a:Key)=Sum.inl b)=false:=decide_eq_false (fun q=>nomatch q)
noncomputable def w4 (prog:Program) (w:World):PySem.KeyKind prog w Key where
 is:=keyIs
 hash:=keyH w
 inj:=fun v a b ha hb=>by
  rcases cg ha with ⟨i,t,rfl,rfl⟩|⟨x,t,rfl,rfl⟩
  ·rcases cg hb with ⟨j,u,rfl,e⟩|⟨y,u,rfl,e⟩
   ·injection e with e1 _;rw [e1]
   ·exact nomatch e
  ·rcases cg hb with ⟨j,u,rfl,e⟩|⟨y,u,rfl,e⟩
   ·exact nomatch e
   ·injection e with e1 _;rw [e1]
 byValue:=fun k v h=>by
  rcases cg h with ⟨i,t,rfl,rfl⟩|⟨x,t,rfl,rfl⟩<;>rfl
 pyHash:=fun hv h=>by
  rcases cg hv with ⟨i,t,rfl,rfl⟩|⟨x,t,rfl,rfl⟩
  ·exact wpAny_pyHash_int h
  ·exact wpAny_pyHash_str h
 eqBool:=fun hu hv h=>by
  rcases cg hu with ⟨i,t,rfl,rfl⟩|⟨x,t,rfl,rfl⟩
  ·rcases cg hv with ⟨j,u,rfl,rfl⟩|⟨y,u,rfl,rfl⟩
   ·rw [key_ll] at h;exact wpAny_eqBool_int h
   ·rw [key_lr] at h;exact SeqAt.EqAt.int_str i t y u _ _ _ _ h
  ·rcases cg hv with ⟨j,u,rfl,rfl⟩|⟨y,u,rfl,rfl⟩
   ·rw [key_rl] at h;exact SeqAt.EqAt.str_int x t j u _ _ _ _ h
   ·rw [key_rr] at h;exact wpAny_eqBool_str h
 «strs»:=fun k x t v h=>by
  rcases cg h with ⟨i,u,rfl,e⟩|⟨y,u,rfl,e⟩
  ·exact nomatch e
  ·injection e with e1 _
   subst e1;cases v<;>rfl
inductive V where
 |non|bl (b:Bool)|int (i:Int)|str (x:Str)|byt (b:Array UInt8)|flt (b:UInt64)|ref (a:Addr)|ty (n:String)
 deriving DecidableEq
variable {v:V} {xs vs:List V}
noncomputable def RelV:V->Value->Prop
 |.non,u=>u=Value.none
 |.bl b,u=>u=Value.bool b
 |.int i,u=>∃t,u=Value.int i t
 |.str x,u=>∃t,u=Value.str x t
 |.byt b,u=>∃t,u=Value.bytes b t
 |.flt b,u=>∃t,u=Value.float b t
 |.ref a,u=>u=Value.ref a
 |.ty n,u=>u=Value.type n
noncomputable abbrev Vals:List V->List Value->Prop:=Paired RelV
theorem Vals.length {xs:List V} {us:List Value} (r:Vals xs us):xs.length=us.length:=Paired.length r
theorem Vals.get:∀{xs:List V} {us:List Value} {i:Nat} {x:V},Vals xs us->xs[i]? =some x->∃u,us[i]? =some u/\RelV x u
 |_,_,_,_,.nil,e=>by simp at e
 |_,_,0,_,.cons r _,e=>by simp at e;subst e;exact ⟨_,rfl,r⟩
 |_,_,i+1,x,.cons _ t,e=>by
  obtain ⟨u,h1,h2⟩:=Vals.get (i:=i) (x:=x) t (by simpa using e);exact ⟨u,by simpa using h1,h2⟩
theorem Vals.append:∀{xs ys:List V} {us ws:List Value},Vals xs us->Vals ys ws->Vals (xs++ys) (us++ws)
 |_,_,_,_,.nil,s=>s
 |_,_,_,_,.cons r t,s=>.cons r (Vals.append t s)
theorem Vals.take:∀{xs:List V} {us:List Value} (n:Nat),Vals xs us->Vals (xs.take n) (us.take n)
 |_,_,0,_=>.nil
 |_,_,_+1,.nil=>.nil
 |_,_,n+1,.cons r t=>.cons r (Vals.take n t)
theorem Vals.drop:∀{xs:List V} {us:List Value} (n:Nat),Vals xs us->Vals (xs.drop n) (us.drop n)
 |_,_,0,r=>r
 |_,_,_+1,.nil=>.nil
 |_,_,n+1,.cons _ t=>Vals.drop n t
noncomputable def wY:Option V->Option Value->Prop
 |some v,some u=>RelV v u
 |none,none=>True
 |_,_=>False
noncomputable def KV:List (κ×V)->List (κ×Value)->Prop:=Paired fun (p:κ×V) (q:κ×Value)=>p.1=q.1/\RelV p.2 q.2
noncomputable def kV:Key->V
 |.inl i=>.int i
 |.inr x=>.str x
inductive HO where
  |lst (xs:List V)
  |tup (xs:List V)
  |dK (kvs:List (Key×V))|dT (kvs:List (List Key×V))
  |set (S:Int->Bool) (n:Nat)
  |ins (C dx:Addr) (fs:List (Str×V))
  |own (x:Addr)
  |xd (fs:List (Str×V))
  |met (f x:Addr)
  |rng (lo hi:Int)
  |frz (o:Obj) (u:HO)
  |tbl (ps:Array Value)
  |ext (φ:Heap->Prop)
variable {o:HO}
noncomputable abbrev Hp:=Addr->Option HO
variable {H H':Hp}
noncomputable def upd (H:Hp) (a:Addr) (o:HO):Hp:=fun b=>if b=a then some o else H b
theorem ay:upd H a o a=some o:=by unfold upd;rw [if_pos rfl]
theorem au (h:b≠a):upd H a o b=H b:=by unfold upd;rw [if_neg h]
theorem aR (h:H a=some o) (h':H b=none):a≠b:=by
 intro e;subst e;rw [h] at h';cases h'
section
variable (P:Program) (w:World)
noncomputable def gn (H:Hp) (h:Heap) (a:Addr):HO->Prop
 |.lst xs=>xs.length<=sizeLine/\∃(its:List Value) (n:Nat),Vals xs its/\h.get? a=some {cls:=.type "list",data:=.seq its.toArray n}
 |.tup xs=>xs.length<=sizeLine/\∃its:List Value,Vals xs its/\IsTup h a its.toArray
 |.dK kvs=>kvs.length<=sizeLine/\(a==sysModules)=false/\∃vs,KV kvs vs/\h.DictOf (w4 P w) a vs
 |.dT kvs=>kvs.length<=sizeLine/\(a==sysModules)=false/\∃xs:List (List Key×Addr×Value),
   Paired (fun (p:List Key×V) (q:List Key×Addr×Value)=>p.1=q.1/\H q.2.1=some (.tup (p.1.map kV))/\RelV p.2 q.2.2) kvs xs /\
   ∃o es ep,h.get? a=some o/\o.ExactDict/\o.data=.dict es ep/\es.toList=xs.map (entryOfKey (tupleKind (w4 P w)))/\(xs.map (·.1)).Nodup
 |.set S n=>h.SetOf (intKind P w) a S n
 |.ins C dx fs=>H dx=some (.own a)/\fs.length<=1000/\dx≠a/\h.get? a=some (PySem.W.instObj C dx) /\
   ∃mA,h.Ns1 dx mA/\(∀f,wY (fs.lookup f) (mA f))/\PySem.Within mA (fs.map (·.1))
 |.own _=>∃o,h.get? a=some o
 |.xd fs=>∃mA,h.Ns1 a mA/\∀f,wY (fs.lookup f) (mA f)
 |.rng lo hi=>∃t u v,h.get? a=some {cls:=.type "range",data:=.fields #[.int lo t,.int hi u,.int 1 v]}
 |.frz o u=>h.get? a=some o/\gn H h a u
 |.tbl ps=>h.get? a=some {cls:=.none,data:=.fields ps}
 |.met f x=>h.get? a=some (PySem.W.methodObj (.ref f) (.ref x))
 |.ext φ=>φ h/\(∃o,h.get? a=some o)/\∀h1 h2:Heap,φ h1->(∀o,h1.get? a=some o->h2.get? a=some o)->φ h2
noncomputable def HOk (H:Hp) (h:Heap):Prop:=∀a o,H a=some o->gn P w H h a o
end
section
theorem gn.lt (x:gn P w H h a o):a<h.objs.size:=by
 cases o with
 |lst xs=>obtain ⟨_,_,_,_,e⟩:=x;exact Heap.lt_size e
 |tup xs=>obtain ⟨_,_,_,p⟩:=x;exact p.lt
 |dK kvs=>obtain ⟨_,_,_,_,o,_,_,e,_⟩:=x;exact Heap.lt_size e
 |dT kvs=>obtain ⟨_,_,_,_,o,_,_,e,_⟩:=x;exact Heap.lt_size e
 |set S n=>obtain ⟨o,_,_,_,e,_⟩:=x;exact Heap.lt_size e
 |ins C dx fs=>obtain ⟨_,_,_,e,_⟩:=x;exact Heap.lt_size e
 |own y=>obtain ⟨_,e⟩:=x;exact Heap.lt_size e
 |xd fs=>obtain ⟨_,⟨_,_,_,e,_⟩,_⟩:=x;exact Heap.lt_size e
 |rng lo hi=>obtain ⟨_,_,_,e⟩:=x;exact Heap.lt_size e
 |frz ob u=>obtain ⟨e,_⟩:=x;exact Heap.lt_size e
 |tbl ps=>exact Heap.lt_size (show h.get? a=some _ from x)
 |met f y=>exact Heap.lt_size (show h.get? a=some _ from x)
 |ext φ=>obtain ⟨_,⟨_,e⟩,_⟩:=x;exact Heap.lt_size e
theorem Paired.mapP {α β:Type} {F G:α->β->Prop}:∀{l₁:List α} {l₂:List β},Paired F l₁ l₂->(∀a b,F a b->G a b)->Paired G l₁ l₂
 |_,_,.nil,_=>.nil
 |_,_,.cons r t,f=>.cons (f _ _ r) (Paired.mapP t f)
theorem gn.stay (x:gn P w H h a o) (k:∀b u,(b=a\/H b=some (.own a))->h.get? b=some u->h'.get? b=some u)
  (ho:∀b,H b=some (.own a)->H' b=some (.own a)) (ht:∀b xs,H b=some (.tup xs)->H' b=some (.tup xs)):gn P w H' h' a o:=by
 induction o with
 |lst xs=>obtain ⟨z,its,n,r,e⟩:=x;exact ⟨z,its,n,r,k _ _ (.inl rfl) e⟩
 |tup xs=>obtain ⟨z,its,r,ob,e,c⟩:=x;exact ⟨z,its,r,ob,k _ _ (.inl rfl) e,c⟩
 |dK kvs=>obtain ⟨z,y,vs,r,ob,es,ep,e,c⟩:=x;exact ⟨z,y,vs,r,ob,es,ep,k _ _ (.inl rfl) e,c⟩
 |dT kvs=>
  obtain ⟨z,y,xs,r,ob,es,ep,e,c⟩:=x;exact ⟨z,y,xs,Paired.mapP r fun p q z=>⟨z.1,ht _ _ z.2.1,z.2.2⟩,ob,es,ep,k _ _ (.inl rfl) e,c⟩
 |set S n=>obtain ⟨ob,es,ep,t,e,c⟩:=x;exact ⟨ob,es,ep,t,k _ _ (.inl rfl) e,c⟩
 |ins C dx fs=>
  obtain ⟨d,z,ne,e,mA,⟨od,es,ep,e2,c⟩,r⟩:=x;exact ⟨ho _ d,z,ne,k _ _ (.inl rfl) e,mA,⟨od,es,ep,k _ _ (.inr d) e2,c⟩,r⟩
 |own y=>obtain ⟨ob,e⟩:=x;exact ⟨ob,k _ _ (.inl rfl) e⟩
 |xd fs=>obtain ⟨mA,⟨od,es,ep,e,c⟩,r⟩:=x;exact ⟨mA,⟨od,es,ep,k _ _ (.inl rfl) e,c⟩,r⟩
 |rng lo hi=>obtain ⟨t,u,v,e⟩:=x;exact ⟨t,u,v,k _ _ (.inl rfl) e⟩
 |frz ob u ih=>obtain ⟨e,q⟩:=x;exact ⟨k _ _ (.inl rfl) e,ih q⟩
 |tbl ps=>
  have e:h.get? a=some {cls:=.none,data:=.fields ps}:=x;show h'.get? a=some {cls:=.none,data:=.fields ps};exact k a _ (.inl rfl) e
 |met f y=>
  have e:h.get? a=some (PySem.W.methodObj (.ref f) (.ref y)):=x;show h'.get? a=some (PySem.W.methodObj (.ref f) (.ref y));exact k a _ (.inl rfl) e
 |ext φ=>obtain ⟨p,⟨o,e⟩,st⟩:=x;exact ⟨st _ _ p fun o q=>k _ _ (.inl rfl) q,⟨o,k _ _ (.inl rfl) e⟩,st⟩
theorem HOk.lt (x:HOk P w H h) (e:H a=some o):a<h.objs.size:=(x a o e).lt
theorem HOk.fresh (x:HOk P w H h) (e:h.objs.size<=a):H a=none:=by
 cases q:H a with
 |none=>rfl
 |some u=>exact absurd (Nat.lt_of_lt_of_le (x.lt q) e) (Nat.lt_irrefl _)
theorem HOk.kept (x:HOk P w H h) (k:∀b u,h.get? b=some u->h'.get? b=some u):HOk P w H h':=fun a o e=>
 (x a o e).stay (fun b u _ q=>k b u q) (fun _ q=>q) fun _ _ q=>q
theorem HOk.laid (x:HOk P w H h) (k:∀b u,h.get? b=some u->h'.get? b=some u) (hp:h.objs.size<=a) (new:gn P w (upd H a o) h' a o):HOk P w (upd H a o) h':=fun b u e=>by
 have hn:=x.fresh hp;by_cases hb:b=a
 ·subst hb;rw [ay] at e;cases e;exact new
 ·rw [au hb] at e;exact (x b u e).stay (fun c v _ q=>k c v q) (fun c q=>by rw [au (aR q hn)];exact q) fun c xs q=>by rw [au (aR q hn)];exact q
end
noncomputable def Rd (H:Hp) (a:Addr) (u:HO):Prop:=H a=some u\/∃o,H a=some (.frz o u)
theorem Rd.ok {u:HO} (r:Rd H a u) (x:HOk P w H h):gn P w H h a u:=by
 rcases r with r|⟨o,r⟩
 ·exact x a u r
 ·obtain ⟨_,q⟩:=x a _ r;exact q
noncomputable def Mut:Option HO->Prop
 |some (.lst _)=>True
 |some (.dK _)=>True
 |some (.dT _)=>True
 |some (.set _ _)=>True
 |some (.ins _ _ _)=>True
 |some (.ext _)=>True
 |_=>False
section
variable {x e:Addr} {o':HO}
theorem HOk.write (ok:HOk P w H h) (mu:Mut (H x)) (he:e=x\/H e=some (.own x)) (k:∀b u,b≠e->h.get? b=some u->h'.get? b=some u) (heo:∃u,h'.get? e=some u)
  (new:gn P w (upd H x o') h' x o'):HOk P w (upd H x o') h':=fun b u q=>by
 have nown:∀c y,H c=some (.own y)->c≠x:=fun c y r z=>by subst z;rw [r] at mu;exact mu
 have ntup:∀c xs,H c=some (.tup xs)->c≠x:=fun c xs r z=>by subst z;rw [r] at mu;exact mu
 by_cases hb:b=x
 ·subst hb;rw [ay] at q;cases q;exact new
 ·rw [au hb] at q;by_cases hbe:b=e
  ·have q':H b=some (.own x):=by
    rcases he with z|z
    ·exact absurd (hbe.trans z) hb
    ·rw [hbe];exact z
   rw [q] at q';cases q';obtain ⟨v,hv⟩:=heo;exact ⟨v,by rw [hbe];exact hv⟩
  ·refine (ok b u q).stay (fun c v hc r=>k c v ?_ r) (fun c r=>by rw [au (nown c b r)];exact r) fun c xs r=>by rw [au (ntup c xs r)];exact r
   rcases hc with rfl|hc
   ·exact hbe
   ·rintro rfl;rcases he with z|z
    ·exact nown c b hc z
    ·rw [hc] at z;cases z;exact hb rfl
end
structure Un (fs ex:List Addr) (H H':Hp) (h h':Heap):Prop where
 keep:∀b o,h.get? b=some o->H b=none->b∉fs->b∉ex->h'.get? b=some o
 slot:∀b o,h.get? b=some o->H b=none->b∈fs->b∉ex->∃sl,h'.get? b=some {o with slots:=sl}
 free:∀b o,h.get? b=some o->H b=none->b∉ex->H' b=none
 there:∀b o,h.get? b=some o->b∉ex->∃o',h'.get? b=some o'
 tups:∀b xs,H b=some (.tup xs)->H' b=some (.tup xs)
 frzs:∀b o u,H b=some (.frz o u)->H' b=some (.frz o u)
 tbls:∀b ps,H b=some (.tbl ps)->∃more,H' b=some (.tbl (ps++more))
section
variable {fs ex:List Addr} {H1 H2:Hp} {h1 h2:Heap} {x e:Addr} 
theorem Un.any (u:Un fs ex H H1 h h1) {ob:Obj} (q:h.get? b=some ob) (n:H b=none) (hx:b∉ex):∃sl,h1.get? b=some {ob with slots:=sl}:=by
 by_cases hb:b∈fs
 ·exact u.slot b ob q n hb hx
 ·exact ⟨ob.slots,u.keep b ob q n hb hx⟩
theorem Un.trans (a:Un fs ex H H1 h h1) (b:Un fs ex H1 H2 h1 h2):Un fs ex H H2 h h2 where
 keep:=fun c ob q n hc hx=>b.keep c ob (a.keep c ob q n hc hx) (a.free c ob q n hx) hc hx
 slot:=fun c ob q n hc hx=>by
  obtain ⟨sl,e1⟩:=a.slot c ob q n hc hx;obtain ⟨sl',e2⟩:=b.slot c _ e1 (a.free c ob q n hx) hc hx;exact ⟨sl',e2⟩
 free:=fun c ob q n hx=>by
  obtain ⟨o',e1⟩:=a.there c ob q hx;exact b.free c o' e1 (a.free c ob q n hx) hx
 there:=fun c ob q hx=>by
  obtain ⟨o',e1⟩:=a.there c ob q hx;exact b.there c o' e1 hx
 tups:=fun c xs q=>b.tups c xs (a.tups c xs q)
 frzs:=fun c ob xs q=>b.frzs c ob xs (a.frzs c ob xs q)
 tbls:=fun c ps q=>by
  obtain ⟨m1,e1⟩:=a.tbls c ps q;obtain ⟨m2,e2⟩:=b.tbls c _ e1;exact ⟨m1++m2,by rw [e2,Array.append_assoc]⟩
theorem Un.kept (k:∀b u,h.get? b=some u->h'.get? b=some u):Un fs ex H H h h':=
 ⟨fun b ob q _ _ _=>k b ob q,fun b ob q _ _ _=>⟨ob.slots,k b ob q⟩,fun _ _ _ n _=>n,fun b ob q _=>⟨ob,k b ob q⟩,fun _ _ q=>q,fun _ _ _ q=>q,fun _ ps q=>⟨#[],by rw [q];simp⟩⟩
theorem Un.refl:Un fs ex H H h h:=Un.kept fun _ _ q=>q
theorem Un.laid (k:∀b u,h.get? b=some u->h'.get? b=some u) (hp:h.objs.size<=a) (hn:H a=none):Un fs ex H (upd H a o) h h' where
 keep:=fun b u q _ _ _=>k b u q
 slot:=fun b u q _ _ _=>⟨u.slots,k b u q⟩
 free:=fun b u q n _=>by rw [au (Nat.ne_of_lt (Nat.lt_of_lt_of_le (Heap.lt_size q) hp))];exact n
 there:=fun b u q _=>⟨u,k b u q⟩
 tups:=fun b xs q=>by rw [au (aR q hn)];exact q
 frzs:=fun b u xs q=>by rw [au (aR q hn)];exact q
 tbls:=fun b ps q=>⟨#[],by rw [au (aR q hn),q];simp⟩
theorem Un.write (mu:Mut (H x)) (he:e=x\/H e=some (.own x)) (k:∀b u,b≠e->h.get? b=some u->h'.get? b=some u) (heo:∃u,h'.get? e=some u):Un fs ex H (upd H x o) h h':=by
 have hx:∀b,H b=none->b≠x:=fun b n z=>by subst z;rw [n] at mu;exact mu
 have hb:∀b,H b=none->b≠e:=fun b n z=>by
  subst z;rcases he with r|r
  ·exact hx b n r
  ·rw [n] at r;cases r
 have hm:∀b u,H b=some u->¬Mut (some u)->b≠x:=fun b u q nm z=>by subst z;rw [q] at mu;exact nm mu
 refine ⟨fun b u q n _ _=>k b u (hb b n) q,fun b u q n _ _=>⟨u.slots,k b u (hb b n) q⟩,fun b u q n _=>by rw [au (hx b n)];exact n,fun b u q _=>?_,
  fun b xs q=>by rw [au (hm b _ q fun z=>z)];exact q,fun b u xs q=>by rw [au (hm b _ q fun z=>z)];exact q,fun b ps q=>⟨#[],by rw [au (hm b _ q fun z=>z),q];simp⟩⟩
 by_cases hbe:b=e
 ·subst hbe;exact heo
 ·exact ⟨u,k b u hbe q⟩
end
noncomputable def trk (h:Heap) (H:Hp):List Addr:=(List.range h.objs.size).filter fun a=>(H a).isSome
noncomputable def hidT (h:Heap) (H:Hp):Heap:=PySem.W.hideAll h (trk h H)
theorem AY (h:Heap) (H:Hp):(hidT h H).objs.size=h.objs.size:=PySem.W.hideAll_size _ _
theorem hidT_get {o:Obj} (e:h.get? b=some o) (n:H b=none):(hidT h H).get? b=some o:=
 PySem.W.hideAll_get _ e fun hm=>by
  have q:(H b).isSome=true:=(List.mem_filter.mp hm).2;rw [n] at q;simp at q
theorem of_hidT {o:Obj} (e:(hidT h H).get? b=some o):h.get? b=some o/\H b=none:=by
 have e':h.get? b=some o:=PySem.W.of_hideAll (trk h H) e;refine ⟨e',?_⟩
 cases q:H b with
 |none=>rfl
 |some x=>
  have hm:b∈trk h H:=List.mem_filter.mpr ⟨List.mem_range.mpr (Heap.lt_size e'),by simp [q]⟩;have z:(hidT h H).get? b=none:=PySem.W.hideAll_none (trk h H) hm;rw [z] at e;cases e
noncomputable def allNews (g h:Heap) (L:Addr):Pn:=(List.range h.objs.size).filterMap fun a=>if a=L\/(g.get? a).isSome=true then none else (h.get? a).map fun o=>(a,o)
noncomputable def rest (g h:Heap) (L d:Addr):Pn:=(allNews g h L).filter fun p=>decide (p.1≠d)
structure Mod (K:Fg) (mg:Mq) (base:Heap):Prop where
 kin:K.In base
 glob:base.Ns mainGlobals mg
 blt:∃mb,base.Ns builtinsNs mb/\∀x:Str,x≠"__name__"->mb x=bootBuiltins x
 nolimit:base.NoLimit
structure Cx where
 prog:Program
 w:World
 K:Fg
 mg:Mq
 base:Heap
 A:Around
 N:List Str
 s₀:Shared
 H₀:Hp
 env:Env
 outer:List Env
 stack:List Env
 ex:List Addr
 fn:Str->Bool
 calm:Bool
 pn:Pn
 xe:Vp
variable {X:Cx}
noncomputable def frs (l:List Env):List Addr:=l.filterMap (·.frame)
noncomputable abbrev Cx.fs (X:Cx):List Addr:=frs X.outer
noncomputable def Vis (sc:Scope) (x:Str):Prop:=sc.names.lookup x=some .local\/sc.names.lookup x=some .cell\/sc.names.lookup x=some .free
noncomputable def Loc (sc:Scope) (x:Str):Prop:=sc.names.lookup x=some .local\/sc.names.lookup x=some .cell
noncomputable def Look (env:Env) (h:Heap) (m:Mq) (x:Str) (u:Value):Prop:=
 (env.kindOf x=some .local/\m x=some u)\/((env.kindOf x=some .cell\/env.kindOf x=some .free)/\∃c,env.cells.lookup x=some c/\h.IsCell c (some u))
structure Cx.Ok (X:Cx):Prop where
 mod:Mod X.K X.mg X.base
 kind:X.env.scope.kind=.function
 glob:X.env.globals=mainGlobals
 blt:X.env.builtins=builtinsNs
 above:X.s₀.heap.objs.size<=X.env.locals
 inj:∀x y c,X.env.cells.lookup x=some c->X.env.cells.lookup y=some c->x=y
 has:∀x,(X.env.kindOf x=some .cell\/X.env.kindOf x=some .free)->∃c,X.env.cells.lookup x=some c
 cab:∀x c,X.fn x=true->X.env.cells.lookup x=some c->X.s₀.heap.objs.size<=c
 hd:X.calm=true->X.A.handled=none
 frames:X.A.frames=some X.stack
 stk:X.stack=X.outer\/(X.stack=X.env::X.outer/\X.env.frame=some X.env.locals)
 exf:∀b∈X.ex,b≠X.env.locals/\∀x c,X.env.cells.lookup x=some c->c≠b
 bs:∀b o,X.base.get? b=some o->X.s₀.heap.get? b=some o/\X.H₀ b=none
 bsz:X.base.objs.size<=X.s₀.heap.objs.size
 noex:∀b o,X.base.get? b=some o->b∉X.ex
 exfs:∀b∈X.ex,b∉X.fs
 zy:X.s₀.heap.FunFrames X.base X.outer
 frf:∀b∈X.fs,X.H₀ b=none
structure Inv (X:Cx) (pins:Pn) (σ:List (Option V)) (H:Hp) (s:Shared):Prop where
 ok:X.Ok
 os:s.os=X.s₀.os
 bare:AllBare s.gens
 base:Un X.fs X.ex X.H₀ H X.s₀.heap s.heap
 loc:∃m,s.heap.Ns X.env.locals m/\∀(i:Nat) (x:Str) (v:V),X.N[i]? =some x->σ[i]? =some (some v)->Vis X.env.scope x->∃u,RelV v u/\Look X.env s.heap m x u
 cell:∀x c,X.env.cells.lookup x=some c->∃v,s.heap.IsCell c v
 free:H X.env.locals=none
 freeC:∀x c,X.env.cells.lookup x=some c->H c=none
 pin:∀p∈X.pn++pins,s.heap.get? p.1=some p.2/\H p.1=none/\p.1≠X.env.locals/\p.1∉X.fs/\∀v,p.2.data≠.cell v
 hok:HOk X.prog X.w H s.heap
 len:σ.length=X.N.length
section
variable {σ:List (Option V)} 
theorem Cx.Ok.nofr (ok:X.Ok) {o:Obj} (e:X.base.get? b=some o):b∉X.fs:=fun hb=>by
 have:=(ok.zy.mem hb).1;rw [e] at this;cases this
theorem Inv.bs (I:Inv X pins σ H s):∀b o,X.base.get? b=some o->s.heap.get? b=some o/\H b=none:=fun b o e=>
 ⟨I.base.keep b o (I.ok.bs b o e).1 (I.ok.bs b o e).2 (I.ok.nofr e) (I.ok.noex b o e),I.base.free b o (I.ok.bs b o e).1 (I.ok.bs b o e).2 (I.ok.noex b o e)⟩
theorem Inv.bk (I:Inv X pins σ H s):∀b o,X.base.get? b=some o->s.heap.get? b=some o:=fun b o e=>(I.bs b o e).1
theorem Inv.mod (I:Inv X pins σ H s):Mod X.K X.mg X.base:=I.ok.mod
theorem Inv.kIn (I:Inv X pins σ H s):X.K.In s.heap:=I.ok.mod.kin.keeps I.bk
theorem Inv.lt (I:Inv X pins σ H s):X.env.locals<s.heap.objs.size:=let ⟨_,hn,_⟩:=I.loc;hn.lt
theorem Inv.sz (I:Inv X pins σ H s):X.s₀.heap.objs.size<=s.heap.objs.size:=Nat.le_trans I.ok.above (Nat.le_of_lt I.lt)
theorem Inv.nofs (I:Inv X pins σ H s) (h:s.heap.objs.size<=a):a∉X.fs:=fun hb=>by
 obtain ⟨_,o,ho,_⟩:=I.ok.zy.mem hb;exact absurd (Nat.lt_of_lt_of_le (Heap.lt_size ho) (Nat.le_trans I.sz h)) (Nat.lt_irrefl _)
theorem Inv.cne (I:Inv X pins σ H s):∀x c,X.env.cells.lookup x=some c->c≠X.env.locals:=fun x c e z=>by
 obtain ⟨v,o,ho,hd⟩:=I.cell x c e;obtain ⟨m,⟨o',es,ep,ho',hd',_⟩,_⟩:=I.loc;rw [z,ho'] at ho;cases ho;rw [hd'] at hd;cases hd
theorem Inv.zy (I:Inv X pins σ H s):s.heap.FunFrames X.base X.outer:=by
 have all:∀(l:List Env),(∀b∈frs l,b∈X.fs)->X.s₀.heap.FunFrames X.base l->s.heap.FunFrames X.base l:=by
  intro l
  induction l with
  |nil=>intro _ _;trivial
  |cons env r ih=>
   intro hs hl;obtain ⟨hk,⟨L,o,hf,hn,ho,hd⟩,hr⟩:=hl;have hL:L∈X.fs:=hs L (by unfold frs;rw [List.filterMap_cons,hf];exact List.mem_cons_self);obtain ⟨sl,e⟩:=I.base.slot L o ho (I.ok.frf L hL) hL fun z=>I.ok.exfs L z hL;exact ⟨hk,⟨L,_,hf,hn,e,hd⟩,ih (fun b hb=>hs b (by unfold frs;rw [List.filterMap_cons,hf];exact List.mem_cons_of_mem _ hb)) hr⟩
 exact all X.outer (fun _ hb=>hb) I.ok.zy
theorem Inv.stack (I:Inv X pins σ H s):s.heap.FunFrames X.base X.stack:=by
 rcases I.ok.stk with e|⟨e,hf⟩
 ·rw [e];exact I.zy
 ·rw [e];obtain ⟨m,hn,_⟩:=I.loc;refine .cons (by rw [I.ok.kind];decide) hf hn ?_ I.zy;exact Heap.get?_none_of_le (Nat.le_trans I.ok.bsz I.ok.above)
theorem Inv.tw (I:Inv X pins σ H s):∀b∈frs X.stack,b∈X.env.locals::X.fs:=fun b hb=>by
 rcases I.ok.stk with e|⟨e,hf⟩
 ·rw [e] at hb;exact List.mem_cons_of_mem _ hb
 ·rw [e] at hb;unfold frs at hb;rw [List.filterMap_cons,hf] at hb;exact hb
theorem Inv.zO (I:Inv X pins σ H s):∀b∈frs X.stack,H b=none:=fun b hb=>by
 rcases List.mem_cons.mp (I.tw b hb) with e|hb
 ·rw [e];exact I.free
 ·obtain ⟨_,o,ho,_⟩:=I.ok.zy.mem hb;exact I.base.free b o ho (I.ok.frf b hb) fun z=>I.ok.exfs b z hb
theorem Inv.step {t':Nat} {d':Drawn} (I:Inv X pins σ H s)
  (hch:∀b∈ch,(b∈X.ex\/X.s₀.heap.objs.size<=b)/\b≠X.env.locals/\(∀x c,X.env.cells.lookup x=some c->c≠b)/\∀p∈X.pn++pins,p.1≠b)
  (keep:∀b o,b≠X.env.locals->b∉X.fs->b∉ch->s.heap.get? b=some o->H b=none->h'.get? b=some o)
  (slot:∀b o,b≠X.env.locals->b∈X.fs->b∉ch->s.heap.get? b=some o->H b=none->∃sl,h'.get? b=some {o with slots:=sl}) (free:∀b o,b∉ch->s.heap.get? b=some o->H b=none->H' b=none)
  (there:∀b o,b∉ch->s.heap.get? b=some o->∃o',h'.get? b=some o')
  (tups:∀b xs,H b=some (.tup xs)->H' b=some (.tup xs)) (frzs:∀b o u,H b=some (.frz o u)->H' b=some (.frz o u)) (tbls:∀b ps,H b=some (.tbl ps)->∃more,H' b=some (.tbl (ps++more)))
  (ns:∀m,s.heap.Ns X.env.locals m->h'.Ns X.env.locals m) (hok:HOk X.prog X.w H' h') (hg:AllBare g') :
  Inv X pins σ H' {s with heap:=h',gens:=g',drawn:=d',toks:=t'}:=by
 have neL:∀b o,X.s₀.heap.get? b=some o->b≠X.env.locals:=fun b o e=>Nat.ne_of_lt (Nat.lt_of_lt_of_le (Heap.lt_size e) I.ok.above);have neC:∀b o,X.s₀.heap.get? b=some o->b∉X.ex->b∉ch:=fun b o e hx hb=>by
  rcases (hch b hb).1 with z|z
  ·exact hx z
  ·exact absurd (Nat.lt_of_lt_of_le (Heap.lt_size e) z) (Nat.lt_irrefl _)
 have cellK:∀x c,X.env.cells.lookup x=some c->∀v,s.heap.IsCell c v->h'.IsCell c v:=fun x c e v ⟨o,ho,hd⟩=>by
  have nch:c∉ch:=fun z=>(hch c z).2.2.1 x c e rfl;by_cases hc:c∈X.fs
  ·obtain ⟨sl,q⟩:=slot c o (I.cne x c e) hc nch ho (I.freeC x c e);exact ⟨_,q,hd⟩
  ·exact ⟨o,keep c o (I.cne x c e) hc nch ho (I.freeC x c e),hd⟩
 refine ⟨I.ok,I.os,hg,⟨fun b o e n hb hx=>?_,fun b o e n hb hx=>?_,fun b o e n hx=>?_,fun b o e hx=>?_,fun b xs e=>tups b xs (I.base.tups b xs e),fun b o xs e=>frzs b o xs (I.base.frzs b o xs e),fun b ps e=>?_⟩,?_,fun x c e=>?_,?_,fun x c e=>?_,fun p hp=>?_,hok,I.len⟩
 ·exact keep b o (neL b o e) hb (neC b o e hx) (I.base.keep b o e n hb hx) (I.base.free b o e n hx)
 ·obtain ⟨sl,e1⟩:=I.base.slot b o e n hb hx;obtain ⟨sl',e2⟩:=slot b _ (neL b o e) hb (neC b o e hx) e1 (I.base.free b o e n hx);exact ⟨sl',e2⟩
 ·obtain ⟨o',e1⟩:=I.base.there b o e hx;exact free b o' (neC b o e hx) e1 (I.base.free b o e n hx)
 ·obtain ⟨o',e1⟩:=I.base.there b o e hx;exact there b o' (neC b o e hx) e1
 ·obtain ⟨m1,e1⟩:=I.base.tbls b ps e;obtain ⟨m2,e2⟩:=tbls b _ e1;exact ⟨m1++m2,by rw [e2,Array.append_assoc]⟩
 ·obtain ⟨m,hn,hl⟩:=I.loc;refine ⟨m,ns m hn,fun i x v e1 e2 e3=>?_⟩
  obtain ⟨u,r,l⟩:=hl i x v e1 e2 e3;refine ⟨u,r,?_⟩
  rcases l with l|⟨k,c,e,z⟩
  ·exact .inl l
  ·exact .inr ⟨k,c,e,cellK x c e _ z⟩
 ·obtain ⟨v,z⟩:=I.cell x c e;exact ⟨v,cellK x c e v z⟩
 ·obtain ⟨m,⟨o,_,_,ho,_⟩,_⟩:=I.loc;exact free _ o (fun z=>(hch _ z).2.1 rfl) ho I.free
 ·obtain ⟨v,o,ho,hd⟩:=I.cell x c e;exact free c o (fun z=>(hch c z).2.2.1 x c e rfl) ho (I.freeC x c e)
 ·obtain ⟨e,n,ne,nf,d⟩:=I.pin p hp;have nch:p.1∉ch:=fun z=>(hch p.1 z).2.2.2 p hp rfl;exact ⟨keep p.1 p.2 ne nf nch e n,free p.1 p.2 nch e n,ne,nf,d⟩
theorem Inv.un {t':Nat} (I:Inv X pins σ H s) (u:Un X.fs [] H H' s.heap h') (hok:HOk X.prog X.w H' h'):Inv X pins σ H' {s with heap:=h',toks:=t'}:=by
 obtain ⟨m,⟨o,es,ep,ho,r⟩,_⟩:=id I.loc;obtain ⟨sl,hL⟩:=u.any ho I.free (by simp);exact I.step (g':=s.gens) (d':=s.drawn) (ch:=[]) (fun _ z=>nomatch z) (fun b o _ hb _ e n=>u.keep b o e n hb (by simp)) (fun b o _ hb _ e n=>u.slot b o e n hb (by simp)) (fun b o _ e n=>u.free b o e n (by simp)) (fun b o _ e=>u.there b o e (by simp)) u.tups u.frzs u.tbls (fun m' hm=>by
  obtain ⟨o',es',ep',ho',r'⟩:=hm;rw [ho] at ho';cases ho';exact ⟨_,es',ep',hL,r'⟩) hok I.bare
theorem Inv.call {t':Nat} {d':Drawn} (I:Inv X pins σ H s) (u:Un (frs X.stack) ch H H' s.heap h') (hok:HOk X.prog X.w H' h') (hg:AllBare g')
  (hch:∀b∈ch,(b∈X.ex\/X.s₀.heap.objs.size<=b)/\b≠X.env.locals/\(∀x c,X.env.cells.lookup x=some c->c≠b)/\∀p∈X.pn++pins,p.1≠b) :
  Inv X pins σ H' {s with heap:=h',gens:=g',drawn:=d',toks:=t'}:=by
 obtain ⟨m,⟨o,es,ep,ho,r⟩,_⟩:=id I.loc;obtain ⟨sl,hL⟩:=u.any ho I.free fun z=>(hch _ z).2.1 rfl;exact I.step (ch:=ch) hch (fun b o hL hb hc e n=>u.keep b o e n (fun z=>(List.mem_cons.mp (I.tw b z)).elim hL hb) hc) (fun b o _ _ hc e n=>u.any e n hc) (fun b o hc e n=>u.free b o e n hc) (fun b o hc e=>u.there b o e hc) u.tups u.frzs u.tbls (fun m' hm=>by
  obtain ⟨o',es',ep',ho',r'⟩:=hm;rw [ho] at ho';cases ho';exact ⟨_,es',ep',hL,r'⟩) hok hg
theorem Inv.turned {t':Nat} {it:Addr} (I:Inv X pins σ H s) (k:∀b o,b≠it->s.heap.get? b=some o->h'.get? b=some o) (hn:H it=none) (hL:it≠X.env.locals)
  (h1:it∈X.ex\/X.s₀.heap.objs.size<=it) (h2:∀x c,X.env.cells.lookup x=some c->c≠it) (h3:∀p∈X.pn++pins,p.1≠it):Inv X pins σ H {s with heap:=h',toks:=t'}:=by
 have nit:∀b u,H b=some u->b≠it:=fun b u e z=>by rw [z,hn] at e;cases e
 refine I.step (g':=s.gens) (d':=s.drawn) (ch:=[it]) (fun b hb=>?_) (fun b o _ _ hc e _=>k b o (fun z=>hc (by simp [z])) e) (fun b o _ _ hc e _=>⟨o.slots,k b o (fun z=>hc (by simp [z])) e⟩) (fun _ _ _ _ n=>n)
  (fun b o hc e=>⟨o,k b o (fun z=>hc (by simp [z])) e⟩) (fun _ _ e=>e) (fun _ _ _ e=>e) (fun b ps e=>⟨#[],by rw [e];simp⟩) (fun m hm=>?_) (fun b u e=>?_) I.bare
 ·have e:b=it:=by simpa using hb
  subst e;exact ⟨h1,hL,h2,h3⟩
 ·obtain ⟨o,es,ep,ho,r⟩:=hm;exact ⟨o,es,ep,k _ o (Ne.symm hL) ho,r⟩
 ·refine (I.hok b u e).stay (fun c v hc q=>k c v ?_ q) (fun _ q=>q) fun _ _ q=>q;rcases hc with z|z
  ·rw [z];exact nit b u e
  ·exact nit c _ z
theorem Inv.tok (I:Inv X pins σ H s) (t:Nat):Inv X pins σ H {s with toks:=t}:=I.un (h':=s.heap) (t':=t) Un.refl I.hok
theorem Inv.kept {t':Nat} (I:Inv X pins σ H s) (k:∀b u,s.heap.get? b=some u->h'.get? b=some u):Inv X pins σ H {s with heap:=h',toks:=t'}:=I.un (Un.kept k) (I.hok.kept k)
theorem Inv.laid {a:Addr} {o:HO} {t':Nat} (I:Inv X pins σ H s) (k:∀b u,s.heap.get? b=some u->h'.get? b=some u) (hp:s.heap.objs.size<=a) (new:gn X.prog X.w (upd H a o) h' a o) :
  Inv X pins σ (upd H a o) {s with heap:=h',toks:=t'}:=I.un (Un.laid k hp (I.hok.fresh hp)) (I.hok.laid k hp new)
theorem Inv.write {x e:Addr} {o:HO} {t':Nat} (I:Inv X pins σ H s) (mu:Mut (H x)) (he:e=x\/H e=some (.own x)) (k:∀b u,b≠e->s.heap.get? b=some u->h'.get? b=some u) (heo:∃u,h'.get? e=some u)
  (new:gn X.prog X.w (upd H x o) h' x o):Inv X pins σ (upd H x o) {s with heap:=h',toks:=t'}:=I.un (Un.write mu he k heo) (I.hok.write mu he k heo new)
theorem Inv.weak {σ':List (Option V)} (I:Inv X pins σ H s) (hl:σ'.length=σ.length) (w:∀(i:Nat) v,σ'[i]? =some (some v)->σ[i]? =some (some v)):Inv X pins σ' H s:=
 ⟨I.ok,I.os,I.bare,I.base,let ⟨m,hn,hl'⟩:=I.loc;⟨m,hn,fun i x v e1 e2 e3=>hl' i x v e1 (w i v e2) e3⟩,I.cell,I.free,I.freeC,I.pin,I.hok,hl.trans I.len⟩
theorem Inv.rV {pins':Pn} (I:Inv X pins σ H s) (h:∀p∈pins',s.heap.get? p.1=some p.2/\H p.1=none/\p.1≠X.env.locals/\p.1∉X.fs/\∀v,p.2.data≠.cell v):Inv X pins' σ H s:=
 ⟨I.ok,I.os,I.bare,I.base,I.loc,I.cell,I.free,I.freeC,fun p hp=>(List.mem_append.mp hp).elim (fun z=>I.pin p (List.mem_append_left _ z)) (h p),I.hok,I.len⟩
theorem xA (hN:N.Nodup) (a:N[i]? =some x) (b:N[j]? =some x):i=j:=by
 obtain ⟨h1,e1⟩:=List.getElem?_eq_some_iff.mp a;obtain ⟨h2,e2⟩:=List.getElem?_eq_some_iff.mp b;exact (List.getElem_inj hN).mp (e1.trans e2.symm)
theorem tu {M:Model} (I:Inv X pins σ H s) (hN:X.N.Nodup) (hi:X.N[i]? =some x) (hx:Loc X.env.scope x) (r:RelV v u)
  (h:∀s',Inv X pins (σ.set i (some v)) H s'->(∃a,Heap.SameBut a s.heap s'.heap/\(a=X.env.locals\/X.env.cells.lookup x=some a))->Q () s') (hf:X.fn x=true\/X.env.scope.names.lookup x=some .local:=by first|exact .inl rfl|exact .inr rfl|assumption):wpAny M A (storeName X.env x u) Q E s:=by
 obtain ⟨m,hn,hl⟩:=id I.loc;have hcls:(X.env.scope.kind==.class||(X.env.scope.kind==.module&&X.env.locals != X.env.globals))=false:=by rw [I.ok.kind];rfl
 have hiσ:i<σ.length:=by rw [I.len];exact (List.getElem?_eq_some_iff.mp hi).1
 have cne:=I.cne;have tracked:∀{a:Addr} {h':Heap},(∃o,s.heap.get? a=some o/\H a=none)->Heap.SameBut a s.heap h'->HOk X.prog X.w H h':=fun {a h'} ha hs b ob e=>by
  obtain ⟨_,_,hfree⟩:=ha;refine (I.hok b ob e).stay (fun c w' hc q=>(hs.2 c ?_).trans q) (fun _ q=>q) fun _ _ q=>q;rintro rfl;rcases hc with rfl|hc
  ·rw [hfree] at e;cases e
  ·rw [hfree] at hc;cases hc
 rcases hx with hk|hk
 ·refine wpAny_storeName_local hk hn (fun h' hn' hs=>?_) hcls;obtain ⟨oL,_,_,hoL,_⟩:=id hn;refine h _ ⟨I.ok,I.os,I.bare,⟨fun b o e n hb hx=>?_,fun b o e n hb hx=>?_,I.base.free,fun b o e hx=>?_,I.base.tups,I.base.frzs,I.base.tbls⟩,⟨_,hn',fun j y v' e1 e2 e3=>?_⟩,fun y c e=>?_,I.free,I.freeC,fun p hp=>?_,tracked ⟨oL,hoL,I.free⟩ hs,by simpa using I.len⟩ ⟨_,hs,.inl rfl⟩
  ·exact (hs.2 b (Nat.ne_of_lt (Nat.lt_of_lt_of_le (Heap.lt_size e) I.ok.above))).trans (I.base.keep b o e n hb hx)
  ·obtain ⟨sl,e1⟩:=I.base.slot b o e n hb hx;exact ⟨sl,(hs.2 b (Nat.ne_of_lt (Nat.lt_of_lt_of_le (Heap.lt_size e) I.ok.above))).trans e1⟩
  ·obtain ⟨o',e1⟩:=I.base.there b o e hx;exact ⟨o',(hs.2 b (Nat.ne_of_lt (Nat.lt_of_lt_of_le (Heap.lt_size e) I.ok.above))).trans e1⟩
  ·by_cases hj:j=i
   ·subst hj;rw [hi] at e1;cases e1;rw [List.getElem?_set_self hiσ] at e2;cases e2;exact ⟨u,r,.inl ⟨hk,by simp⟩⟩
   ·rw [List.getElem?_set_ne (Ne.symm hj)] at e2;obtain ⟨u',r',q⟩:=hl j y v' e1 e2 e3;refine ⟨u',r',?_⟩
    rcases q with ⟨k,e⟩|⟨k,c,e,z⟩
    ·refine .inl ⟨k,?_⟩;have:y≠x:=fun e=>hj (xA hN e1 (e▸hi));simp [this,e]
    ·exact .inr ⟨k,c,e,z.sameBut hs (cne y c e)⟩
  ·obtain ⟨w',z⟩:=I.cell y c e;exact ⟨w',z.sameBut hs (cne y c e)⟩
  ·obtain ⟨e,n,ne,nf,d⟩:=I.pin p hp;exact ⟨(hs.2 p.1 ne).trans e,n,ne,nf,d⟩
 ·have hfn:X.fn x=true:=by
   rcases hf with z|z
   ·exact z
   ·rw [z] at hk;cases hk
  obtain ⟨c,hc⟩:=I.ok.has x (.inl hk);obtain ⟨w',z⟩:=I.cell x c hc;refine wpAny_storeName_cell I.ok.kind hk hc z (fun h' hc' hs=>?_);obtain ⟨oc,hoc,hocd⟩:=id z;refine h {s with heap:=h'} ⟨I.ok,I.os,I.bare,⟨fun b o e n hb hx=>?_,fun b o e n hb hx=>?_,I.base.free,fun b o e hx=>?_,I.base.tups,I.base.frzs,I.base.tbls⟩,⟨m,hn.sameBut hs (Ne.symm (cne x c hc)),fun j y v' e1 e2 e3=>?_⟩,fun y c' e=>?_,I.free,I.freeC,fun p hp=>?_,tracked ⟨oc,hoc,I.freeC x c hc⟩ hs,by simpa using I.len⟩ ⟨c,hs,.inr hc⟩
  ·exact (hs.2 b (Nat.ne_of_lt (Nat.lt_of_lt_of_le (Heap.lt_size e) (I.ok.cab x c hfn hc)))).trans (I.base.keep b o e n hb hx)
  ·obtain ⟨sl,e1⟩:=I.base.slot b o e n hb hx;exact ⟨sl,(hs.2 b (Nat.ne_of_lt (Nat.lt_of_lt_of_le (Heap.lt_size e) (I.ok.cab x c hfn hc)))).trans e1⟩
  ·obtain ⟨o',e1⟩:=I.base.there b o e hx;exact ⟨o',(hs.2 b (Nat.ne_of_lt (Nat.lt_of_lt_of_le (Heap.lt_size e) (I.ok.cab x c hfn hc)))).trans e1⟩
  ·by_cases hj:j=i
   ·subst hj;rw [hi] at e1;cases e1;rw [List.getElem?_set_self hiσ] at e2;cases e2;exact ⟨u,r,.inr ⟨.inl hk,c,hc,hc'⟩⟩
   ·rw [List.getElem?_set_ne (Ne.symm hj)] at e2;obtain ⟨u',r',q⟩:=hl j y v' e1 e2 e3;refine ⟨u',r',?_⟩
    rcases q with q|⟨k,c',e,z'⟩
    ·exact .inl q
    ·refine .inr ⟨k,c',e,z'.sameBut hs ?_⟩;rintro rfl;exact hj (xA hN e1 (I.ok.inj _ _ _ e hc▸hi))
  ·by_cases hcc:c'=c
   ·subst hcc;exact ⟨_,hc'⟩
   ·obtain ⟨w2,z2⟩:=I.cell y c' e;exact ⟨w2,z2.sameBut hs hcc⟩
  ·obtain ⟨e,n,ne,nf,d⟩:=I.pin p hp;refine ⟨(hs.2 p.1 ?_).trans e,n,ne,nf,d⟩
   intro q;rw [q,hoc] at e;have q':oc=p.2:=Option.some.inj e;exact d w' (by rw [<- q'];exact hocd)
theorem xh {M:Model} (I:Inv X pins σ H s) (hN:X.N.Nodup) (hi:X.N[i]? =some x) (hx:Loc X.env.scope x) (r:RelV v u)
  (h:∀s',Inv X pins (σ.set i (some v)) H s'->Q () s') (hf:X.fn x=true\/X.env.scope.names.lookup x=some .local:=by first|exact .inl rfl|exact .inr rfl|assumption):wpAny M A (storeName X.env x u) Q E s:=
 tu I hN hi hx r (fun s' I' _=>h s' I') hf
theorem Inv.call' (I:Inv X pins σ H s) (ho:s'.os=s.os) (u:Un (frs X.stack) ch H H' s.heap s'.heap) (hok:HOk X.prog X.w H' s'.heap) (hg:AllBare s'.gens)
  (hch:∀b∈ch,(b∈X.ex\/X.s₀.heap.objs.size<=b)/\b≠X.env.locals/\(∀x c,X.env.cells.lookup x=some c->c≠b)/\∀p∈X.pn++pins,p.1≠b):Inv X pins σ H' s':=by
 obtain ⟨h',g',d',t',o'⟩:=s';have e:o'=s.os:=ho;subst e;exact I.call (g':=g') (t':=t') (d':=d') u hok hg hch
end
noncomputable abbrev XK:=Value->Option Addr->Hp->Prop
noncomputable abbrev St:=List (Option V)
variable {σ:St}
noncomputable abbrev VK:=V->Hp->Prop
noncomputable abbrev TE:=St->Hp->VK->Prop
variable {ta tb te:TE}
noncomputable abbrev TT:=St->Hp->(Bool->Hp->Prop)->Prop
variable {tc:TT}
noncomputable abbrev TA:=St->Hp->(List V->Hp->Prop)->Prop
variable {t:TA}
structure Ends where
 nx:St->Hp->Prop
 rt:VK
 bk:St->Hp->Prop:=fun _ _=>False
 ct:St->Hp->Prop:=fun _ _=>False
noncomputable abbrev TS:=Ends->St->Hp->Prop
noncomputable def EP (X:Cx) (pins:Pn) (σ:St) (Q:VK) (u:Value) (s':Shared):Prop:=∃v H',Inv X pins σ H' s'/\RelV v u/\Q v H'
noncomputable def TP (X:Cx) (pins:Pn) (σ:St) (Q:Bool->Hp->Prop) (b:Bool) (s':Shared):Prop:=∃H',Inv X pins σ H' s'/\Q b H'
noncomputable def AP (X:Cx) (pins:Pn) (σ:St) (Q:List V->Hp->Prop) (us:List Value) (s':Shared):Prop:=∃vs H',Inv X pins σ H' s'/\Vals vs us/\Q vs H'
noncomputable def SP (X:Cx) (pins:Pn) (D:Ends) (f:Flow) (s':Shared):Prop:=
 match f with
 |.next=>∃σ' H',Inv X pins σ' H' s'/\D.nx σ' H'
 |.brk=>∃σ' H',Inv X pins σ' H' s'/\D.bk σ' H'
 |.cont=>∃σ' H',Inv X pins σ' H' s'/\D.ct σ' H'
 |.ret u=>∃v σ' H',Inv X pins σ' H' s'/\RelV v u/\D.rt v H'
noncomputable def PE (X:Cx) (e:Expr) (t:TE):Prop:=
 ∀(pins:Pn) (s:Shared) (σ:St) (H:Hp) (Q:VK),Inv X pins σ H s->t σ H Q->wpAny (model X.prog X.w) X.A (eval e X.env) (EP X pins σ Q) X.xe s
noncomputable def PT (X:Cx) (e:Expr) (t:TT):Prop:=
 ∀(pins:Pn) (s:Shared) (σ:St) (H:Hp) (Q:Bool->Hp->Prop),Inv X pins σ H s->t σ H Q->wpAny (model X.prog X.w) X.A (isTrue e X.env (eval e X.env)) (TP X pins σ Q) X.xe s
noncomputable def PW (X:Cx) (e:Expr) (t:TT):Prop:=
 ∀(whole:Sem Value) (pins:Pn) (s:Shared) (σ:St) (H:Hp) (Q:Bool->Hp->Prop),Inv X pins σ H s->t σ H Q->wpAny (model X.prog X.w) X.A (isTrue e X.env whole) (TP X pins σ Q) X.xe s
theorem PW.pt {t:TT} (h:PW X e t):PT X e t:=h _
noncomputable def PA (X:Cx) (es:List Expr) (t:TA):Prop:=
 ∀(pos:Pos) (pins:Pn) (s:Shared) (σ:St) (H:Hp) (Q:List V->Hp->Prop),Inv X pins σ H s->t σ H Q->wpAny (model X.prog X.w) X.A (spliced (backTo pos (starEach es X.env))) (AP X pins σ Q) X.xe s
noncomputable def PS (X:Cx) (st:Stmt) (t:TS):Prop:=
 ∀(pins:Pn) (s:Shared) (σ:St) (H:Hp) (D:Ends),Inv X pins σ H s->t D σ H->wpAny (model X.prog X.w) X.A (exec st X.env) (SP X pins D) X.xe s
noncomputable def PSs (X:Cx) (st:List Stmt) (t:TS):Prop:=
 ∀(pins:Pn) (s:Shared) (σ:St) (H:Hp) (D:Ends),Inv X pins σ H s->t D σ H->wpAny (model X.prog X.w) X.A (execs st X.env) (SP X pins D) X.xe s
theorem thn {α:Type} {t:Sem α} {Q Q':α->Shared->Prop} {M:Model} (h:wpAny M A t Q E s) (hQ:∀a s,Q a s->Q' a s):wpAny M A t Q' E s:=wpAny_mono h hQ fun _ _ x=>x
section
noncomputable def bS (i:Nat):TE:=fun σ H Q=>∃v,σ[i]? =some (some v)/\Q v H
noncomputable def tC (v:V):TE:=fun _ H Q=>Q v H
theorem pe_var (hN:X.N[i]? =some x) (hv:Vis X.env.scope x) (hd:(x==("__debug__":Str))=false:=by decide) (hcd:(x==("__classdict__":Str))=false:=by decide):PE X (.Name x pos) (bS i):=by
 intro pins s σ H Q I h;obtain ⟨v,e,h⟩:=h;obtain ⟨m,hn,hl⟩:=I.loc;obtain ⟨u,r,l⟩:=hl i x v hN e hv;have fin:EP X pins σ Q u s:=⟨v,H,I,r,h⟩
 rcases l with ⟨hk,hm⟩|⟨hk,c,hc,hcell⟩
 ·exact wpAny_Name (wpAny_loadName_local I.ok.kind hk hn hm fin) hd
 ·rcases hk with hk|hk
  ·exact wpAny_Name (wpAny_loadName_cell I.ok.kind hk hc hcell fin) hd
  ·exact wpAny_Name (wpAny_loadName_free I.ok.kind hk hc hcell fin hcd) hd
theorem Ak {i j pos}:PE X (.Constant (.int i) j pos) (tC (.int i)):=fun _ _ _ H _ I h=>wpAny_Constant_int ⟨.int i,H,I.tok _,⟨_,rfl⟩,h⟩
theorem rW {b j pos}:PE X (.Constant (.bool b) j pos) (tC (.bl b)):=fun _ _ _ H _ I h=>Constant_bool ⟨.bl b,H,I,rfl,h⟩
theorem pe_non {j pos}:PE X (.Constant .none j pos) (tC .non):=fun _ _ _ H _ I h=>Constant_none ⟨.non,H,I,rfl,h⟩
theorem pe_str {x j pos}:PE X (.Constant (.str x) j pos) (tC (.str x)):=fun _ _ _ H _ I h=>Calls.Constant_str ⟨.str x,H,I.tok _,⟨_,rfl⟩,h⟩
noncomputable def Gl (X:Cx) (x:Str):Prop:=X.env.kindOf x=some .globalImplicit
theorem om {Q:Vp} (I:Inv X pins σ H s) (hg:Gl X x) (hm:X.mg x=some u) (h:Q u s)
  (hd:(x==("__debug__":Str))=false:=by decide):wpAny (model X.prog X.w) X.A (eval (.Name x pos) X.env) Q E s:=
 Calls.Name_function_global I.ok.kind hg (Calls.loadGlobal_global (by rw [I.ok.glob];exact I.mod.glob.keeps I.bk) hm h) hd
theorem qI {Q:Vp} (I:Inv X pins σ H s) (hg:Gl X x) (hm:X.mg x=none) (hv:bootBuiltins x=some u) (h:Q u s)
  (hn:x≠"__name__":=by decide) (hd:(x==("__debug__":Str))=false:=by decide):wpAny (model X.prog X.w) X.A (eval (.Name x pos) X.env) Q E s:=by
 obtain ⟨mb,h1,h2⟩:=I.mod.blt;exact Calls.Name_function_global I.ok.kind hg (Calls.loadGlobal_builtin (by rw [I.ok.glob];exact I.mod.glob.keeps I.bk) hm (by rw [I.ok.blt];exact h1.keeps I.bk) ((h2 x hn).trans hv) h) hd
theorem vQ (hg:Gl X x) (hm:X.mg x=some u) (r:RelV v u) (hd:(x==("__debug__":Str))=false:=by decide):PE X (.Name x pos) (tC v):=
 fun _ _ _ H _ I h=>om I hg hm ⟨v,H,I,r,h⟩ hd
theorem pe_bltn (hg:Gl X x) (hm:X.mg x=none) (hv:bootBuiltins x=some u) (r:RelV v u) (hn:x≠"__name__":=by decide) (hd:(x==("__debug__":Str))=false:=by decide):PE X (.Name x pos) (tC v):=
 fun _ _ _ H _ I h=>qI I hg hm hv ⟨v,H,I,r,h⟩ hn hd
variable {a b:Expr} 
noncomputable def PC (X:Cx) (op:CmpOp) (a b:Expr) (t:TE):Prop:=
 ∀(pins:Pn) (s:Shared) (σ:St) (H:Hp) (Q:VK),Inv X pins σ H s->t σ H Q ->
  wpAny (model X.prog X.w) X.A (eval a X.env) (fun v s₁=>wpAny (model X.prog X.w) X.A (eval b X.env) (fun u s₂=>wpAny (model X.prog X.w) X.A (compareOp op v u) (EP X pins σ Q) X.xe s₂) X.xe s₁) X.xe s
theorem nobehind (b:Expr) (h:op≠.In) (h2:op≠.NotIn):behindInMarks op b=false:=by
 have e1:(op==CmpOp.In)=false:=by cases op<;>first|rfl|exact absurd rfl h
 have e2:(op==CmpOp.NotIn)=false:=by cases op<;>first|rfl|exact absurd rfl h2
 cases b<;>simp [behindInMarks,e1,e2]
noncomputable def tIsN (ta:TE):TE:=fun σ H Q=>ta σ H fun x H1=>Q (.bl (decide (x=.non))) H1
theorem RelV.none_iff {x:V} {v:Value} (r:RelV x v):(v==Value.none)=decide (x=.non):=by
 cases x with
 |non=>cases r;rfl
 |bl _=>cases r;rfl
 |int _=>obtain ⟨t,rfl⟩:=r;rfl
 |str _=>obtain ⟨t,rfl⟩:=r;rfl
 |byt _=>obtain ⟨t,rfl⟩:=r;rfl
 |flt _=>obtain ⟨t,rfl⟩:=r;rfl
 |ref _=>cases r;rfl
 |ty _=>cases r;rfl
theorem pc_isN {j pos'} (ha:PE X a ta):PC X .Is a (.Constant .none j pos') (tIsN ta):=by
 intro pins s σ H Q I h;refine thn (ha pins s σ H _ I h) fun v s1 ⟨x,H1,I1,r1,q1⟩=>?_;exact Constant_none (is_none_gen ⟨.bl _,H1,I1,by rw [r1.none_iff];rfl,q1⟩)
noncomputable def tB (t:TE):TT:=fun σ H Q=>t σ H fun x H1=>∃c,x=.bl c/\Q c H1
theorem pt_cmp {t:TE} (h:PC X op a b t) (h1:behindInMarks op b=false:=by first|exact nobehind _ (by decide) (by decide)|rfl):PT X (.Compare a [op] [b] pos) (tB t):=by
 intro pins s σ H Q I hw;refine wpAny_isTrue_Compare1 (thn (h pins s σ H _ I hw) fun v s1 h1=>thn h1 fun u s2 h2=>thn h2 fun c s3 ⟨x,H1,I1,r1,q1⟩=>?_) h1;obtain ⟨d,rfl,q⟩:=q1;cases r1;exact wpAny_truthy_bool ⟨H1,I1,q⟩
variable {tA tB':TT} {rest:List Expr}
noncomputable def tAnd (t u:TT):TT:=fun σ H Q=>t σ H fun c H1=>if c=true then u σ H1 Q else Q false H1
noncomputable def tOr (t u:TT):TT:=fun σ H Q=>t σ H fun c H1=>if c=true then Q true H1 else u σ H1 Q
noncomputable def tNot (t:TT):TT:=fun σ H Q=>t σ H fun c H1=>Q (!c) H1
theorem pw_and1 (ha:PT X a tA):PW X (.BoolOp .And [a] pos) tA:=by
 intro wh pins s σ H Q I h;refine isTrue_and (thn (ha pins s σ H Q I h) fun c s1 e=>?_);cases c with
 |true=>exact isTrue_and_nil e
 |false=>exact e
theorem pw_or1 (ha:PT X a tA):PW X (.BoolOp .Or [a] pos) tA:=by
 intro wh pins s σ H Q I h;refine isTrue_or (thn (ha pins s σ H Q I h) fun c s1 e=>?_);cases c with
 |false=>exact isTrue_or_nil e
 |true=>exact e
theorem pw_and (ha:PT X a tA) (hb:PW X (.BoolOp .And (b::rest) pos) tB'):PW X (.BoolOp .And (a::b::rest) pos) (tAnd tA tB'):=by
 intro wh pins s σ H Q I h;refine isTrue_and (thn (ha pins s σ H _ I h) fun c s1 ⟨H1,I1,q1⟩=>?_);cases c with
 |true=>exact hb wh pins s1 σ H1 Q I1 q1
 |false=>exact ⟨H1,I1,q1⟩
theorem pw_or (ha:PT X a tA) (hb:PW X (.BoolOp .Or (b::rest) pos) tB'):PW X (.BoolOp .Or (a::b::rest) pos) (tOr tA tB'):=by
 intro wh pins s σ H Q I h;refine isTrue_or (thn (ha pins s σ H _ I h) fun c s1 ⟨H1,I1,q1⟩=>?_);cases c with
 |true=>exact ⟨H1,I1,q1⟩
 |false=>exact hb wh pins s1 σ H1 Q I1 q1
theorem Af (ha:PT X a tA):PT X (.UnaryOp .Not a pos) (tNot tA):=by
 intro pins s σ H Q I h;exact isTrue_not (ha pins s σ H (fun c H1=>Q (!c) H1) I h)
noncomputable def tAndV (ta tb:TE):TE:=fun σ H Q=>ta σ H fun x H1=>∃c,x=.bl c/\if c=true then tb σ H1 Q else Q (.bl false) H1
noncomputable def tOrV (ta tb:TE):TE:=fun σ H Q=>ta σ H fun x H1=>∃c,x=.bl c/\if c=true then Q (.bl true) H1 else tb σ H1 Q
noncomputable def tNotV (ta:TE):TE:=fun σ H Q=>ta σ H fun x H1=>∃c,x=.bl c/\Q (.bl (!c)) H1
theorem pe_one {op} {t:TE} (h:PE X a t):PE X (.BoolOp op [a] pos) t:=fun pins s σ H Q I hw=>BoolOp_one (h pins s σ H Q I hw)
theorem pe_and (ha:PE X a ta) (hb:PE X (.BoolOp .And (b::rest) pos) tb):PE X (.BoolOp .And (a::b::rest) pos) (tAndV ta tb):=by
 intro pins s σ H Q I h;refine BoolOp_and (thn (ha pins s σ H _ I h) fun v s1 ⟨x,H1,I1,r1,q1⟩=>?_);obtain ⟨c,rfl,q1⟩:=q1;cases r1;refine wpAny_truthy_bool ?_;cases c with
 |true=>exact hb pins s1 σ H1 Q I1 q1
 |false=>exact ⟨.bl false,H1,I1,rfl,q1⟩
theorem pe_or (ha:PE X a ta) (hb:PE X (.BoolOp .Or (b::rest) pos) tb):PE X (.BoolOp .Or (a::b::rest) pos) (tOrV ta tb):=by
 intro pins s σ H Q I h;refine BoolOp_or (thn (ha pins s σ H _ I h) fun v s1 ⟨x,H1,I1,r1,q1⟩=>?_);obtain ⟨c,rfl,q1⟩:=q1;cases r1;refine wpAny_truthy_bool ?_;cases c with
 |false=>exact hb pins s1 σ H1 Q I1 q1
 |true=>exact ⟨.bl true,H1,I1,rfl,q1⟩
theorem pe_not (ha:PE X a ta):PE X (.UnaryOp .Not a pos) (tNotV ta):=by
 intro pins s σ H Q I h;refine UnaryOp_ (thn (ha pins s σ H _ I h) fun v s1 ⟨x,H1,I1,r1,q1⟩=>?_);obtain ⟨c,rfl,q1⟩:=q1;cases r1;exact not_of (wpAny_truthy_bool ⟨.bl (!c),H1,I1,rfl,q1⟩)
noncomputable def tIf (t:TT) (ta tb:TE):TE:=fun σ H Q=>t σ H fun c H1=>if c=true then ta σ H1 Q else tb σ H1 Q
theorem pe_ifExp (hc:PT X c tA) (ha:PE X a ta) (hb:PE X b tb):PE X (.IfExp c a b pos) (tIf tA ta tb):=by
 intro pins s σ H Q I h;refine wpAny_IfExp (thn (hc pins s σ H _ I h) fun d s1 ⟨H1,I1,q1⟩=>?_);cases d with
 |true=>exact ha pins s1 σ H1 Q I1 q1
 |false=>exact hb pins s1 σ H1 Q I1 q1
end
noncomputable def SqL (K:Fg) (H:Hp) (a:Addr) (xs:List V):Prop:=
 Rd H a (.lst xs) \/
  ∃(o:Obj) (its:Array Value) (n:Nat),K.lookup a=some o/\o.cls=.type "list"/\o.dict=none/\o.data=.seq its n/\its.size<=sizeLine/\Vals xs its.toList
noncomputable def SqT (K:Fg) (H:Hp) (a:Addr) (xs:List V):Prop:=
 Rd H a (.tup xs) \/
  ∃(o:Obj) (its:Array Value) (n:Nat),K.lookup a=some o/\o.cls=.type "tuple"/\o.data=.seq its n/\its.size<=sizeLine/\Vals xs its.toList
noncomputable def absV:Value->Option V
 |.none=>some .non
 |.bool b=>some (.bl b)
 |.int i _=>some (.int i)
 |.str x _=>some (.str x)
 |.bytes b _=>some (.byt b)
 |.float b _=>some (.flt b)
 |.ref a=>some (.ref a)
 |.type n=>some (.ty n)
 |_=>none
theorem RelV.abs {x:V} (r:RelV x u):absV u=some x:=by
 cases x with
 |non=>cases r;rfl
 |bl _=>cases r;rfl
 |int _=>obtain ⟨t,rfl⟩:=r;rfl
 |str _=>obtain ⟨t,rfl⟩:=r;rfl
 |byt _=>obtain ⟨t,rfl⟩:=r;rfl
 |flt _=>obtain ⟨t,rfl⟩:=r;rfl
 |ref _=>cases r;rfl
 |ty _=>cases r;rfl
theorem RelV.inj {x y:V} {u:Value} (r:RelV x u) (q:RelV y u):x=y:=Option.some.inj (r.abs.symm.trans q.abs)
theorem Vals.inj:∀{xs ys:List V} {us:List Value},Vals xs us->Vals ys us->xs=ys
 |_,_,_,.nil,.nil=>rfl
 |_,_,_,.cons r t,.cons r' t'=>by rw [r.inj r',Vals.inj t t']
section
variable {ys:List V}
theorem SqL.of (h:H a=some (.lst xs)):SqL K H a xs:=.inl (.inl h)
theorem SqT.of (h:H a=some (.tup xs)):SqT K H a xs:=.inl (.inl h)
theorem Inv.list (I:Inv X pins σ H s) (h:SqL X.K H a xs):∃its:List Value,Vals xs its/\PlainL s.heap a its.toArray/\xs.length<=sizeLine:=by
 rcases h with h|⟨o,its,n,hk,hc,hd,hs,hz,r⟩
 ·obtain ⟨z,its,n,r,e⟩:=h.ok I.hok;exact ⟨its,r,⟨_,n,e,rfl,rfl,rfl⟩,z⟩
 ·refine ⟨its.toList,r,⟨o,n,I.kIn a o hk,hc,hd,by simpa using hs⟩,?_⟩
  have e:=r.length;simp only [Array.length_toList] at e;omega
theorem Inv.tuple (I:Inv X pins σ H s) (h:SqT X.K H a xs):∃its:List Value,Vals xs its/\IsTup s.heap a its.toArray/\xs.length<=sizeLine:=by
 rcases h with h|⟨o,its,n,hk,hc,hs,hz,r⟩
 ·obtain ⟨z,its,r,p⟩:=h.ok I.hok;exact ⟨its,r,p,z⟩
 ·refine ⟨its.toList,r,⟨o,I.kIn a o hk,hc,n,by simpa using hs⟩,?_⟩
  have e:=r.length;simp only [Array.length_toList] at e;omega
theorem Inv.mY (I:Inv X pins σ H s) (h:SqL X.K H a xs) (h':SqL X.K H a ys):xs=ys:=by
 obtain ⟨its,r,⟨o,n,e,_,_,d⟩,_⟩:=I.list h;obtain ⟨its',r',⟨o',n',e',_,_,d'⟩,_⟩:=I.list h';rw [e] at e';cases e';rw [d] at d';injection d' with d1 _
 have:its=its':=by simpa using congrArg Array.toList d1
 subst this;exact r.inj r'
theorem Inv.zG (I:Inv X pins σ H s) (h:SqT X.K H a xs) (h':SqT X.K H a ys):xs=ys:=by
 obtain ⟨its,r,⟨o,e,_,n,d⟩,_⟩:=I.tuple h;obtain ⟨its',r',⟨o',e',_,n',d'⟩,_⟩:=I.tuple h';rw [e] at e';cases e';rw [d] at d';injection d' with d1 _
 have:its=its':=by simpa using congrArg Array.toList d1
 subst this;exact r.inj r'
end
noncomputable abbrev Cx.wish (X:Cx) (E:Vp):Cx:={X with xe:=E}
noncomputable abbrev Cx.nox (X:Cx):Cx:=X.wish fun _ _=>False
theorem Cx.Ok.wish {X:Cx} (ok:X.Ok) (E:Vp):(X.wish E).Ok:=
 ⟨ok.mod,ok.kind,ok.glob,ok.blt,ok.above,ok.inj,ok.has,ok.cab,ok.hd,ok.frames,ok.stk,ok.exf,ok.bs,ok.bsz,ok.noex,ok.exfs,ok.zy,ok.frf⟩
theorem Cx.Ok.mj (ok:(X.wish E).Ok):X.Ok:=
 ⟨ok.mod,ok.kind,ok.glob,ok.blt,ok.above,ok.inj,ok.has,ok.cab,ok.hd,ok.frames,ok.stk,ok.exf,ok.bs,ok.bsz,ok.noex,ok.exfs,ok.zy,ok.frf⟩
section
theorem Inv.wish (I:Inv X pins σ H s) (E:Vp):Inv (X.wish E) pins σ H s:=⟨I.ok.wish E,I.os,I.bare,I.base,I.loc,I.cell,I.free,I.freeC,I.pin,I.hok,I.len⟩
theorem Inv.mj (I:Inv (X.wish E) pins σ H s):Inv X pins σ H s:=⟨I.ok.mj,I.os,I.bare,I.base,I.loc,I.cell,I.free,I.freeC,I.pin,I.hok,I.len⟩
theorem SP.mj {D:Ends} {f:Flow} {s':Shared} (h:SP (X.wish E) pins D f s'):SP X pins D f s':=by
 cases f with
 |next=>obtain ⟨σ',H',I,q⟩:=h;exact ⟨σ',H',I.mj,q⟩
 |brk=>obtain ⟨σ',H',I,q⟩:=h;exact ⟨σ',H',I.mj,q⟩
 |cont=>obtain ⟨σ',H',I,q⟩:=h;exact ⟨σ',H',I.mj,q⟩
 |ret u=>obtain ⟨v,σ',H',I,r,q⟩:=h;exact ⟨v,σ',H',I.mj,r,q⟩
theorem PSs.nox {st:List Stmt} {t:TS} (h:PSs X.nox st t):PSs X st t:=fun pins s σ H D I hw=>
 wpAny_mono (h pins s σ H D (I.wish _) hw) (fun _ _ q=>q.mj) fun _ _ z=>False.elim z
end
section
variable {st:Stmt} {rest:List Stmt} {t u:TS} 
noncomputable def iH:TS:=fun D σ H=>D.nx σ H
noncomputable def fT (t u:TS):TS:=fun D σ H=>t {D with nx:=u D} σ H
theorem dZ:PSs X [] iH:=fun _ _ σ H _ I h=>wpAny_execs_nil ⟨σ,H,I,h⟩
theorem aG (h1:PS X st t) (h2:PSs X rest u):PSs X (st::rest) (fT t u):=by
 intro pins s σ H D I h;refine wpAny_execs_cons (thn (h1 pins s σ H {D with nx:=u D} I h) fun f s1 q=>?_);cases f with
 |next=>
  obtain ⟨σ',H',I',q⟩:=q;exact h2 pins s1 σ' H' D I' q
 |ret v=>exact q
 |brk=>exact q
 |cont=>exact q
theorem bM (h1:PS X st t):PSs X [st] t:=by
 intro pins s σ H D I h;refine wpAny_execs_cons (thn (h1 pins s σ H D I h) fun f s1 q=>?_);cases f with
 |next=>exact wpAny_execs_nil q
 |ret v=>exact q
 |brk=>exact q
 |cont=>exact q
theorem Inv.quiet (I:Inv X pins σ H s):interactive X.env=false:=by simp [interactive,I.ok.kind]
noncomputable def jo (te:TE):TS:=fun D σ H=>te σ H fun _ H1=>D.nx σ H1
theorem gL (he:PE X e te) (hs:swapsWith e none pos.line X.env=pure false:=by rfl):PS X (.Expr e pos) (jo te):=by
 intro pins s σ H D I h;exact wpAny_Expr_any (thn (he pins s σ H _ I h) fun v s1 ⟨x,H1,I1,r1,q1⟩=>⟨σ,H1,I1,q1⟩) I.quiet hs
noncomputable def tm (te:TE):TS:=fun D σ H=>te σ H D.rt
theorem fX (he:PE X e te):PS X (.Return (some e) pos) (tm te):=by
 intro pins s σ H D I h;exact wpAny_Return_some (thn (he pins s σ H _ I h) fun v s1 ⟨x,H1,I1,r1,q1⟩=>⟨x,σ,H1,I1,r1,q1⟩)
noncomputable def rB (c:TT) (t u:TS):TS:=fun D σ H=>c σ H fun b H1=>if b=true then t D σ H1 else u D σ H1
theorem lC {a b:List Stmt} (hc:PT X c tc) (ha:PSs X a t) (hb:PSs X b u):PS X (.If c a b pos) (rB tc t u):=by
 intro pins s σ H D I h;refine wpAny_If (thn (hc pins s σ H _ I h) fun d s1 ⟨H1,I1,q1⟩=>?_);cases d with
 |true=>exact ha pins s1 σ H1 D I1 q1
 |false=>exact hb pins s1 σ H1 D I1 q1
noncomputable def tNever:TS:=fun _ _ _=>False
theorem u7 {sts:List Stmt}:PSs X sts tNever:=fun _ _ _ _ _ _ h=>h.elim
end
noncomputable abbrev TG:=V->St->Hp->(St->Hp->Prop)->Prop
noncomputable abbrev TGs:=List V->St->Hp->(St->Hp->Prop)->Prop
noncomputable def PG (X:Cx) (target:Expr) (t:TG):Prop:=
 ∀(pins:Pn) (s:Shared) (σ:St) (H:Hp) (v:V) (u:Value) (Q:St->Hp->Prop),Inv X pins σ H s->RelV v u->t v σ H Q ->
  wpAny (model X.prog X.w) X.A (assign target X.env u) (fun _ s'=>∃σ' H',Inv X pins σ' H' s'/\Q σ' H') X.xe s
noncomputable def PGs (X:Cx) (ts:List Expr) (t:TGs):Prop:=
 ∀(pins:Pn) (s:Shared) (σ:St) (H:Hp) (vs:List V) (us:List Value) (Q:St->Hp->Prop),Inv X pins σ H s->Vals vs us->t vs σ H Q ->
  wpAny (model X.prog X.w) X.A (assignInOrder ((assignEach ts X.env).map (·.2)) us) (fun _ s'=>∃σ' H',Inv X pins σ' H' s'/\Q σ' H') X.xe s
section
noncomputable def gN (i:Nat):TG:=fun v σ H Q=>Q (σ.set i (some v)) H
theorem lE (hN:X.N.Nodup) (hi:X.N[i]? =some x) (hx:Loc X.env.scope x) (hf:X.fn x=true\/X.env.scope.names.lookup x=some .local:=by first|exact .inl rfl|exact .inr rfl|assumption):PG X (.Name x pos) (gN i):=by
 intro pins s σ H v u Q I r h;exact wpAny_assign_Name (xh I hN hi hx r (fun s' I'=>⟨_,H,I',h⟩) hf)
noncomputable def gNil:TGs:=fun vs σ H Q=>vs=[]/\Q σ H
noncomputable def yW (t:TG) (u:TGs):TGs:=fun vs σ H Q=>∃v r,vs=v::r/\t v σ H fun σ' H'=>u r σ' H' Q
theorem Aj:PGs X [] gNil:=by
 intro pins s σ H vs us Q I r h;obtain ⟨e,h⟩:=h;subst e;cases r;exact assignInOrder_nil ⟨σ,H,I,h⟩
theorem mX {t:TG} {u:TGs} (h1:PG X e t) (h2:PGs X es u)
  (hs:(assignEach (e::es) X.env).map (·.2)=assign e X.env::(assignEach es X.env).map (·.2):=by rfl):PGs X (e::es) (yW t u):=by
 intro pins s σ H vs us Q I r h;obtain ⟨v,vr,e1,h⟩:=h;subst e1;cases r with
 |cons r rr=>
  rw [hs];refine assignInOrder_cons (thn (h1 pins s σ H _ _ _ I r h) fun _ s1 ⟨σ1,H1,I1,q1⟩=>?_);exact h2 pins s1 σ1 H1 _ _ Q I1 rr q1
noncomputable def gTup (K:Fg) (n:Nat) (t:TGs):TG:=fun v σ H Q=>∃a xs,v=.ref a/\SqT K H a xs/\xs.length=n/\t xs σ H Q
theorem pg_tup {t:TGs} (hc:X.calm=true) (h:PGs X es t)
  (hn:(assignEach es X.env).length=n:=by rfl) (hst:(assignEach es X.env).findIdx? (·.1)=none:=by rfl):PG X (.Tuple es k pos) (gTup X.K n t):=by
 intro pins s σ H v u Q I r hw;obtain ⟨a,xs,e1,hq,hl,hw⟩:=hw;subst e1;cases r;obtain ⟨its,rv,ht,hz⟩:=I.tuple hq;refine assign_Tuple_tuple (I.ok.hd hc) ht (by simp [hn,<- hl,rv.length]) hst fun h' hx=>?_;have I1:Inv X pins σ H {s with heap:=h'}:=I.kept (t':=s.toks) fun b o e=>hx b o (Nat.ne_of_lt (Heap.lt_size e)) e;exact h pins _ σ H xs _ Q I1 (by simpa using rv) hw
noncomputable def xg (te:TE) (g:TG):TS:=fun D σ H=>te σ H fun x H1=>g x σ H1 D.nx
theorem ps_asg {g:TG} (he:PE X e te) (hg:PG X tg g) (hs:swapsWithSole [tg] e pos.line X.env=pure false:=by rfl) (hw:swappedStores [tg] e X.env=pure none:=by rfl)
  (h1:(assignEach [tg] X.env).map (·.2)=[assign tg X.env]:=by rfl):PS X (.Assign [tg] e pos) (xg te g):=by
 intro pins s σ H D I h;refine wpAny_Assign_stores (thn (he pins s σ H _ I h) fun v s1 ⟨x,H1,I1,r1,q1⟩=>?_) hs hw;rw [h1];exact thn (hg pins s1 σ H1 x v _ I1 r1 q1) fun _ s2 q=>q
theorem ua (hN:X.N.Nodup) (hi:X.N[i]? =some x) (hx:Loc X.env.scope x) (he:PE X e te) (hs:swapsWith e (some (.Name x pos')) pos.line X.env=pure false:=by rfl) (hf:X.fn x=true\/X.env.scope.names.lookup x=some .local:=by first|exact .inl rfl|exact .inr rfl|assumption) :
  PS X (.Assign [.Name x pos'] e pos) (xg te (gN i)):=by
 intro pins s σ H D I h;refine wpAny_Assign_Name (thn (he pins s σ H _ I h) fun v s1 ⟨y,H1,I1,r1,q1⟩=>?_) hs;exact xh I1 hN hi hx r1 (fun s2 I2=>⟨_,H1,I2,q1⟩) hf
end
section
noncomputable def zJ (c:TT) (tb:TS):TS:=fun D σ H=>∃W:Nat->St->Hp->Prop,(∃m,W m σ H)/\∀m σ H,W m σ H ->
 c σ H fun b H1=>if b=true then ∃N:St->Hp->Prop,(∀σ' H',N σ' H'->∃m',m'<m/\W m' σ' H')/\tb {D with nx:=N,ct:=N,bk:=D.nx} σ H1 else D.nx σ H1
theorem ps_while {tb:TS} (hp:PassesOwn (model X.prog X.w) X.A X.env X.xe) (hc:PT X c tc) (hb:PSs X body tb):PS X (.While c body [] pos) (zJ tc tb):=by
 intro pins s σ H D I h;obtain ⟨W,⟨m0,w0⟩,turn⟩:=h;refine wpAny_While (codeAny_whileLoop (fun n s'=>∃σ' H',Inv X pins σ' H' s'/\W n σ' H') ?_ m0 ⟨σ,H,I,w0⟩);rintro n s1 ⟨σ1,H1,I1,w1⟩;refine wpAny_passesOwn hp (thn (hc pins s1 σ1 H1 _ I1 (turn n σ1 H1 w1)) fun b s2 ⟨H2,I2,q2⟩=>?_);cases b with
 |true=>
  obtain ⟨N,hN,q2⟩:=q2;rw [if_pos rfl];refine wpAny_passesOwn hp (thn (hb pins s2 σ1 H2 _ I2 q2) fun f s3 q3=>?_);cases f with
  |next=>
   obtain ⟨σ3,H3,I3,n3⟩:=q3;obtain ⟨m',hm,w3⟩:=hN σ3 H3 n3;exact ⟨m',hm,σ3,H3,I3,w3⟩
  |cont=>
   obtain ⟨σ3,H3,I3,n3⟩:=q3;obtain ⟨m',hm,w3⟩:=hN σ3 H3 n3;exact ⟨m',hm,σ3,H3,I3,w3⟩
  |brk=>exact q3
  |ret v=>exact q3
 |false=>
  rw [if_neg Bool.false_ne_true];exact wpAny_execs_nil ⟨σ1,H2,I2,q2⟩
end
structure It where
 go:Nat->Hp->Prop
 yld:Nat->Hp->V->Hp->Prop
 stop:Nat->Hp->Prop
noncomputable def zA (X:Cx) (pins:Pn) (H:Hp) (b:Addr):Prop:=
 H b=none/\b≠X.env.locals/\b∉X.fs/\(b∈X.ex\/X.s₀.heap.objs.size<=b)/\(∀x c,X.env.cells.lookup x=some c->c≠b)/\∀p∈X.pn++pins,p.1≠b
theorem Inv.fpOk (I:Inv X pins σ H s) (hb:s.heap.objs.size<=b) (hn:H' b=none):zA X pins H' b:=by
 refine ⟨hn,Nat.ne_of_gt (Nat.lt_of_lt_of_le I.lt hb),I.nofs hb,.inr (Nat.le_trans I.sz hb),fun x c e z=>?_,fun p hp z=>?_⟩
 ·obtain ⟨v,q⟩:=I.cell x c e;exact absurd (Nat.lt_of_lt_of_le q.lt (by rw [z];exact hb)) (Nat.lt_irrefl _)
 ·exact absurd (Nat.lt_of_lt_of_le (Heap.lt_size (I.pin p hp).1) (by rw [z];exact hb)) (Nat.lt_irrefl _)
structure Turn (P:Program) (w:World) (K:Fg) (tg:Expr) (J:It) (fp:List Addr) (it:Addr) (tn:Nat->Heap->Prop):Prop where
 mem:it∈fp
 obj:∀i h,tn i h->∀b∈fp,∃o,h.get? b=some o/\∀v,o.data≠.cell v
 keep:∀i h h',tn i h->(∀b∈fp,∀o,h.get? b=some o->h'.get? b=some o)->tn i h'
 item:∀(X:Cx),X.prog=P->X.w=w->X.K=K->X.calm=true->∀(i:Nat) (pins:Pn) (s:Shared) (σ:St) (H:Hp) (E:Vp),Inv X pins σ H s->(∀b∈fp,zA X pins H b)->tn i s.heap->J.go i H ->
  wpAny (model P w) X.A (pyNext (.ref it)) (fun r s1=>∃u,r=some u /\
   wpAny (model P w) X.A (letOwnedTupleGo tg (.ref it) u) (fun _ s2=>∃x H',Inv X pins σ H' s2/\RelV x u/\J.yld i H x H'/\tn (i+1) s2.heap/\∀b∈fp,H' b=none) E s1) E s
 done:∀(X:Cx),X.prog=P->X.w=w->X.K=K->X.calm=true->∀(i:Nat) (pins:Pn) (s:Shared) (σ:St) (H:Hp) (E:Vp),Inv X pins σ H s->(∀b∈fp,zA X pins H b)->tn i s.heap->J.stop i H ->
  wpAny (model P w) X.A (pyNext (.ref it)) (fun r s1=>r=none/\Inv X pins σ H s1) E s
 self:∀(A:Around) (i:Nat) (s:Shared) (Q:Vp) (E:Vp),tn i s.heap->Q (.ref it) s->wpAny (model P w) A (pyIter (.ref it)) Q E s
noncomputable abbrev TI:=St->Hp->(It->Hp->Prop)->Prop
noncomputable def PIE (X:Cx) (pins:Pn) (σ:St) (tg:Expr) (R:It->Hp->Prop) (itv:Value) (s2:Shared):Prop:=
 ∃(it:Addr) (fp:List Addr) (tn:Nat->Heap->Prop) (J:It) (H':Hp),itv=.ref it/\Inv X pins σ H' s2/\Turn X.prog X.w X.K tg J fp it tn/\tn 0 s2.heap/\(∀b∈fp,zA X pins H' b)/\R J H'
noncomputable def PI (X:Cx) (tg iter:Expr) (wi:TI):Prop:=
 ∀(pins:Pn) (s:Shared) (σ:St) (H:Hp) (R:It->Hp->Prop),Inv X pins σ H s->wi σ H R ->
  wpAny (model X.prog X.w) X.A (eval iter X.env) (fun v s1=>wpAny (model X.prog X.w) X.A (pyIter v) (PIE X pins σ tg R) X.xe s1) X.xe s
theorem go_of {M : Model} {A : Around} {E : Value -> Shared -> Prop} {s : Shared} {tg : Expr} {it : Addr} {u : Value} {o : Obj} {n : String} {vs : Array Value} {Q : Unit -> Shared -> Prop} (ho : s.heap.get? it = some o) (hc : o.cls = .type n) (hd : o.data = .fields vs)
    (hn : ["enumerate", "zip", "dict_itemiterator", "dict_reverseitemiterator", "odict_iterator", "itertools.zip_longest", "itertools.pairwise"].contains n = false) (hQ : Q () s) : wpAny M A (letOwnedTupleGo tg (.ref it) u) Q E s := by
  unfold letOwnedTupleGo;cases tg <;> first
    | exact wpAny_pure hQ
    | (cases u <;> first
        | exact wpAny_pure hQ
        | (refine wpAny_bind (wpAny_load ho ?_)
           rw [hc, hd];show wpAny M A (if (["enumerate", "zip", "dict_itemiterator", "dict_reverseitemiterator", "odict_iterator", "itertools.zip_longest", "itertools.pairwise"].contains n && vs[0]? == some (rawInt _)) = true then _ else _) Q E s;rw [if_neg (by intro h; rw [hn, Bool.false_and] at h; cases h)];exact wpAny_pure hQ))
noncomputable def Itl (K:Fg) (a:Addr):It:=
 ⟨fun i H=>∃xs x,SqL K H a xs/\xs[i]? =some x,fun i H x H'=>H'=H/\∀xs,SqL K H a xs->xs[i]? =some x,fun i H=>∃xs,SqL K H a xs/\xs.length<=i⟩
noncomputable def Itt (K:Fg) (a:Addr):It:=
 ⟨fun i H=>∃xs x,SqT K H a xs/\xs[i]? =some x,fun i H x H'=>H'=H/\∀xs,SqT K H a xs->xs[i]? =some x,fun i H=>∃xs,SqT K H a xs/\xs.length<=i⟩
noncomputable def Itr (lo:Int) (n:Nat):It:=⟨fun i _=>i<n,fun i H x H'=>H'=H/\x=.int (lo+i),fun i _=>n<=i⟩
theorem zF (a it:Addr):Turn P w K tg (Itl K a) [it] it (fun i h=>h.IsListIter it a i) where
 mem:=by simp
 obj:=fun i h st b hb=>by
  have e:b=it:=by simpa using hb
  subst e;obtain ⟨o,e,c,d⟩:=st;exact ⟨o,e,fun v z=>by rw [d] at z;cases z⟩
 keep:=fun i h h' st k=>st.at fun o e=>k it (by simp) o e
 item:=by
  intro X hP hw hK hc i pins s σ H E I hf st hg;subst hP hw hK;obtain ⟨xs,x,hq,hx⟩:=hg;obtain ⟨its,rv,p,hz⟩:=I.list hq;obtain ⟨u,hu,ru⟩:=rv.get hx;obtain ⟨f0,f1,f2,f3,f4,f5⟩:=hf it (by simp);refine wpAny_pyNext_list_item st p.isList (x:=u) (by simpa using hu) fun h' st' sb=>?_;have I1:Inv X pins σ H {s with heap:=h'}:=I.turned (t':=s.toks) (fun b o hb e=>(sb.2 b hb).trans e) f0 f1 f3 f4 f5;obtain ⟨o,e,c,d⟩:=id st';exact ⟨u,rfl,go_of (s:={s with heap:=h'}) e c d (by decide) ⟨x,H,I1,ru,⟨rfl,fun ys hy=>by rw [I.mY hy hq];exact hx⟩,st',fun b hb=>(hf b hb).1⟩⟩
 done:=by
  intro X hP hw hK hc i pins s σ H E I hf st hg;subst hP hw hK;obtain ⟨xs,hq,hx⟩:=hg;obtain ⟨its,rv,p,hz⟩:=I.list hq;obtain ⟨f0,f1,f2,f3,f4,f5⟩:=hf it (by simp);have hl:=rv.length;exact wpAny_pyNext_list_end (I.ok.hd hc) st p.isList (by simp;omega) fun h' eb=>⟨rfl,I.turned (t':=s.toks) (fun b o hb e=>eb b o hb e) f0 f1 f3 f4 f5⟩
 self:=fun _ _ _ _ _ st h=>wpAny_pyIter_listiter st h
theorem yn (a it:Addr):Turn P w K tg (Itt K a) [it] it (fun i h=>h.IsTupleIter it a i) where
 mem:=by simp
 obj:=fun i h st b hb=>by
  have e:b=it:=by simpa using hb
  subst e;obtain ⟨o,e,c,d⟩:=st;exact ⟨o,e,fun v z=>by rw [d] at z;cases z⟩
 keep:=fun i h h' st k=>st.at fun o e=>k it (by simp) o e
 item:=by
  intro X hP hw hK hc i pins s σ H E I hf st hg;subst hP hw hK;obtain ⟨xs,x,hq,hx⟩:=hg;obtain ⟨its,rv,p,hz⟩:=I.tuple hq;obtain ⟨u,hu,ru⟩:=rv.get hx;obtain ⟨f0,f1,f2,f3,f4,f5⟩:=hf it (by simp);refine wpAny_pyNext_tuple_item st (show s.heap.IsTuple a its.toArray from p) (x:=u) (by simpa using hu) fun h' st' sb=>?_;have I1:Inv X pins σ H {s with heap:=h'}:=I.turned (t':=s.toks) (fun b o hb e=>(sb.2 b hb).trans e) f0 f1 f3 f4 f5;obtain ⟨o,e,c,d⟩:=id st';exact ⟨u,rfl,go_of (s:={s with heap:=h'}) e c d (by decide) ⟨x,H,I1,ru,⟨rfl,fun ys hy=>by rw [I.zG hy hq];exact hx⟩,st',fun b hb=>(hf b hb).1⟩⟩
 done:=by
  intro X hP hw hK hc i pins s σ H E I hf st hg;subst hP hw hK;obtain ⟨xs,hq,hx⟩:=hg;obtain ⟨its,rv,p,hz⟩:=I.tuple hq;obtain ⟨f0,f1,f2,f3,f4,f5⟩:=hf it (by simp);have hl:=rv.length;exact wpAny_pyNext_tuple_end (I.ok.hd hc) st (show s.heap.IsTuple a its.toArray from p) (by simp;omega) fun h' eb=>⟨rfl,I.turned (t':=s.toks) (fun b o hb e=>eb b o hb e) f0 f1 f3 f4 f5⟩
 self:=fun _ _ _ _ _ st h=>wpAny_pyIter_tupleiter st h
theorem yo (it:Addr) (lo:Int) (n:Nat):Turn P w K tg (Itr lo n) [it] it (fun i h=>IsRangeIter h it (lo+(i:Nat)*1) ((n:Int)-(i:Nat)) 1) where
 mem:=by simp
 obj:=fun i h st b hb=>by
  have e:b=it:=by simpa using hb
  subst e;exact ⟨_,st,fun v z=>by
   have z':Data.fields _=Data.cell v:=z;cases z'⟩
 keep:=fun i h h' st k=>k it (by simp) _ st
 item:=by
  intro X hP hw hK hc i pins s σ H E I hf st hg;subst hP hw hK;obtain ⟨f0,f1,f2,f3,f4,f5⟩:=hf it (by simp);have W:=Walks.range (prog:=X.prog) (w:=X.w) (I.ok.hd hc) it lo 1 n;refine W.item i s _ _ hg st fun v h' tk hv st' kk=>?_;obtain ⟨t,rfl⟩:=hv;have I1:Inv X pins σ H {s with heap:=h',toks:=tk}:=I.turned (fun b o hb e=>kk b o (by simpa using hb) e) f0 f1 f3 f4 f5;refine ⟨_,rfl,go_of (s:={s with heap:=h',toks:=tk}) (n:="range_iterator") st' rfl rfl (by decide) ⟨.int (lo+i),H,I1,⟨t,?_⟩,⟨rfl,rfl⟩,st',fun b hb=>(hf b hb).1⟩⟩
  rw [Int.mul_one]
 done:=by
  intro X hP hw hK hc i pins s σ H E I hf st hg;subst hP hw hK;obtain ⟨f0,f1,f2,f3,f4,f5⟩:=hf it (by simp);exact wpAny_pyNext_range_end (I.ok.hd hc) st (by have:n<=i:=hg;omega) fun h' eb=>⟨rfl,I.turned (t':=s.toks) (fun b o hb e=>eb b o hb e) f0 f1 f3 f4 f5⟩
 self:=fun _ _ _ _ _ st h=>wpAny_pyIter_rangeiter st h
section
theorem range_it {R:It->Hp->Prop} {lo hi:Int} {t u v:Tok} {tk:Nat} (I:Inv X pins σ H s) (h1: -(2^62)<=lo) (h2:lo<2^62) (h3: -(2^62)<=hi) (h4:hi<2^62)
  (q:R (Itr lo (hi-lo).toNat) H):wpAny (model X.prog X.w) X.A (pyIter (.ref s.heap.objs.size)) (PIE X pins σ tg R) E {s with heap:=s.heap.push {cls:=.type "range",data:=.fields #[.int lo t,.int hi u,.int 1 v]},toks:=tk}:=by
 refine wpAny_pyIter_range (IsRange.new ..) (small_one h1 h2 h3 h4) ?_;have I1:Inv X pins σ H {s with heap:=s.heap.push {cls:=.type "range",data:=.fields #[.int lo t,.int hi u,.int 1 v]},toks:=tk}:=I.kept fun b o e=>Heap.get?_push_of_some _ e;refine ⟨(s.heap.push {cls:=.type "range",data:=.fields #[.int lo t,.int hi u,.int 1 v]}).objs.size,[(s.heap.push {cls:=.type "range",data:=.fields #[.int lo t,.int hi u,.int 1 v]}).objs.size],_,_,H,rfl,
  I1.kept (t':=tk) fun b o e=>Heap.get?_push_of_some _ e,yo _ lo (hi-lo).toNat,?_,fun b hb=>?_,q⟩
 ·have e1:lo+((0:Nat):Int)*1=lo:=by simp
  have e2:(((hi-lo).toNat:Nat):Int)-((0:Nat):Int)=Builtin.Range.rangeSize lo hi 1:=by rw [rangeSize_one];split<;>omega
  show IsRangeIter _ _ (lo+((0:Nat):Int)*1) ((((hi-lo).toNat:Nat):Int)-((0:Nat):Int)) 1;rw [e1,e2];exact Heap.get?_push_size _ rfl
 ·have e:b=(s.heap.push {cls:=.type "range",data:=.fields #[.int lo t,.int hi u,.int 1 v]}).objs.size:=by simpa using hb
  subst e;exact I1.fpOk (Nat.le_refl _) (I1.hok.fresh (Nat.le_refl _))
noncomputable def iRng1 (ta:TA):TI:=fun σ H R=>ta σ H fun vs H1=>∃j:Int,vs=[.int j]/\ -(2^62)<=j/\j<2^62/\R (Itr 0 j.toNat) H1
theorem Ai {a:Expr} {ta:TA} (hg:Gl X "range") (hm:X.mg "range"=none) (ha:PA X [a] ta) (hs:starEach [a] X.env=[(false,eval a X.env)]:=by rfl):PI X tg (.Call (.Name "range" p) [a] [] pos) (iRng1 ta):=by
 intro pins s σ H R I h;refine Call_ (qI I hg hm boot_range (PyProof.Rows.callWith_type1 (thn (ha pos pins s σ H _ I h) fun us s1 ⟨vs,H1,I1,r1,q1⟩=>?_) hs rfl));obtain ⟨j,e,q1,q2,q⟩:=q1;subst e;cases r1 with
 |cons r rr=>
  cases rr;obtain ⟨t,rfl⟩:=r;exact call_range_1 (range_it I1 (by omega) (by omega) q1 q2 (by simpa using q))
noncomputable def tFor (wi:TI) (g:TG) (tb:TS):TS:=fun D σ H=>wi σ H fun J H1=>∃W:Nat->Nat->St->Hp->Prop,(∃m,W 0 m σ H1)/\∀i m σ H,W i m σ H ->
 (J.stop i H/\D.nx σ H)\/(J.go i H/\∃N:St->Hp->Prop,(∀σ' H',N σ' H'->∃m',m'<m/\W (i+1) m' σ' H')/\∀x H',J.yld i H x H'->g x σ H' fun σ2 H2=>tb {D with nx:=N,ct:=N,bk:=D.nx} σ2 H2)
noncomputable def uc (fp:List Addr) (h:Heap):Pn:=fp.filterMap fun b=>(h.get? b).map fun o=>(b,o)
theorem ji {o:Obj} (hb:b∈fp) (e:h.get? b=some o):(b,o)∈uc fp h:=List.mem_filterMap.mpr ⟨b,hb,by rw [e];rfl⟩
theorem Aq {p:Addr×Obj} (hp:p∈uc fp h):p.1∈fp/\h.get? p.1=some p.2:=by
 obtain ⟨b,hb,e⟩:=List.mem_filterMap.mp hp;cases q:h.get? b with
 |none=>rw [q] at e;cases e
 |some o=>
  rw [q] at e;have e':(b,o)=p:=Option.some.inj e;subst e';exact ⟨hb,q⟩
theorem Inv.pinned (I:Inv X pins σ H s) (hf:∀b∈fp,zA X pins H b) (ho:∀b∈fp,∃o,s.heap.get? b=some o/\∀v,o.data≠.cell v):Inv X (pins++uc fp s.heap) σ H s:=
 I.rV fun p hp=>(List.mem_append.mp hp).elim (fun z=>I.pin p (List.mem_append_right _ z)) fun z=>by
  obtain ⟨hb,e⟩:=Aq z;obtain ⟨f0,f1,f2,_⟩:=hf p.1 hb;obtain ⟨o,e',d⟩:=ho p.1 hb;rw [e] at e';cases e';exact ⟨e,f0,f1,f2,d⟩
theorem Inv.rA {pl:Pn} (I:Inv X (pins++pl) σ H s):Inv X pins σ H s:=I.rV fun p hp=>I.pin p (List.mem_append_right _ (List.mem_append_left _ hp))
theorem ps_for {iter:Expr} {wi:TI} {g:TG} {tb:TS} (hp:PassesOwn (model X.prog X.w) X.A X.env X.xe) (hc:X.calm=true) (hi:PI X tg iter wi) (hg:PG X tg g) (hb:PSs X body tb)
  (hs:∀x,foldedSetIterable iter X.env x=pure x:=by intro _;rfl):PS X (.For tg iter body [] pos) (tFor wi g tb):=by
 intro pins s σ H D I h;refine wpAny_For (thn (hi pins s σ H _ I h) fun v s1 h1=>thn h1 fun itv s2 h2=>?_) hs;obtain ⟨it,fp,tn,J,H2,e,I2,T,st2,f2,W,⟨m0,w0⟩,turn⟩:=h2;subst e;have stat:∀{H':Hp},(∀b∈fp,H' b=none)->∀b∈fp,zA X pins H' b:=fun hn b hb=>⟨hn b hb,(f2 b hb).2⟩
 refine codeAny_forLoop_any (fun n s'=>∃i σ' H',Inv X pins σ' H' s'/\tn i s'.heap/\(∀b∈fp,H' b=none)/\W i n σ' H') ?_ m0 ⟨0,σ,H2,I2,st2,fun b hb=>(f2 b hb).1,w0⟩;rintro n s3 ⟨i,σ3,H3,I3,st3,fr3,w3⟩;rcases turn i n σ3 H3 w3 with ⟨stop,qn⟩|⟨go,N,hN,step⟩
 ·refine wpAny_passesOwn hp (thn (T.done X rfl rfl rfl hc i pins s3 σ3 H3 X.xe I3 (stat fr3) st3 stop) fun r s4 ⟨hr,I4⟩=>?_);subst hr;exact wpAny_execs_nil ⟨σ3,H3,I4,qn⟩
 ·refine wpAny_passesOwn hp (thn (T.item X rfl rfl rfl hc i pins s3 σ3 H3 X.xe I3 (stat fr3) st3 go) fun r s4 ⟨u,hr,h4⟩=>?_);subst hr;refine wpAny_passesOwn hp (thn h4 fun _ s5 ⟨x,H5,I5,r5,y5,st5,fr5⟩=>?_);have I5':=I5.pinned (stat fr5) (T.obj _ _ st5);refine wpAny_passesOwn hp (thn (hg _ s5 σ3 H5 x u _ I5' r5 (step x H5 y5)) fun _ s6 ⟨σ6,H6,I6,q6⟩=>?_);refine wpAny_passesOwn hp (thn (hb _ s6 σ6 H6 _ I6 q6) fun f s7 q7=>?_);have again:∀{σ7:St} {H7:Hp},Inv X (pins++uc fp s5.heap) σ7 H7 s7->N σ7 H7->∃m,m<n/\∃i σ' H',Inv X pins σ' H' s7/\tn i s7.heap/\(∀b∈fp,H' b=none)/\W i m σ' H':=fun {σ7 H7} I7 n7=>by
   obtain ⟨m',hm,w7⟩:=hN σ7 H7 n7;refine ⟨m',hm,i+1,σ7,H7,I7.rA,T.keep _ _ _ st5 fun b hb o e=>(I7.pin (b,o) (List.mem_append_right _ (List.mem_append_right _ (ji hb e)))).1,fun b hb=>?_,w7⟩
   obtain ⟨o,e,d⟩:=T.obj _ _ st5 b hb;exact (I7.pin (b,o) (List.mem_append_right _ (List.mem_append_right _ (ji hb e)))).2.1
  cases f with
  |next=>obtain ⟨σ7,H7,I7,n7⟩:=q7;exact again I7 n7
  |cont=>obtain ⟨σ7,H7,I7,n7⟩:=q7;exact again I7 n7
  |brk=>obtain ⟨σ7,H7,I7,q7⟩:=q7;exact ⟨σ7,H7,I7.rA,q7⟩
  |ret v=>obtain ⟨x7,σ7,H7,I7,r7,q7⟩:=q7;exact ⟨x7,σ7,H7,I7.rA,r7,q7⟩
end
noncomputable abbrev R2:=V->V->Hp->VK->Prop
variable {r r':R2}
noncomputable def OpR (X:Cx) (f:Value->Value->Sem Value) (r:R2):Prop:=
 ∀(pins:Pn) (s:Shared) (σ:St) (H:Hp) (x y:V) (v u:Value) (Q:VK),Inv X pins σ H s->RelV x v->RelV y u->r x y H Q ->
  wpAny (model X.prog X.w) X.A (f v u) (EP X pins σ Q) X.xe s
noncomputable def iq (X:Cx) (f:Value) (r:List V->Hp->VK->Prop):Prop:=
 ∀(pins:Pn) (s:Shared) (σ:St) (H:Hp) (xs:List V) (us:List Value) (Q:VK),Inv X pins σ H s->Vals xs us->r xs H Q ->
  wpAny (model X.prog X.w) X.A (call f us) (EP X pins σ Q) X.xe s
noncomputable def TruR (X:Cx) (r:V->Hp->(Bool->Hp->Prop)->Prop):Prop:=
 ∀(pins:Pn) (s:Shared) (σ:St) (H:Hp) (x:V) (v:Value) (Q:Bool->Hp->Prop),Inv X pins σ H s->RelV x v->r x H Q ->
  wpAny (model X.prog X.w) X.A (truthy v) (TP X pins σ Q) X.xe s
noncomputable def tOp (r:R2) (ta tb:TE):TE:=fun σ H Q=>ta σ H fun x H1=>tb σ H1 fun y H2=>r x y H2 Q
noncomputable def tUn (r:V->Hp->VK->Prop) (ta:TE):TE:=fun σ H Q=>ta σ H fun x H1=>r x H1 Q
noncomputable def rI (C:Int->Int->Prop) (g:Int->Int->V):R2:=fun x y H Q=>∃i j,x=.int i/\y=.int j/\C i j/\Q (g i j) H
noncomputable def rI0 (g:Int->Int->V):R2:=fun x y H Q=>∃i j,x=.int i/\y=.int j/\Q (g i j) H
section
variable {a b:Expr} 
theorem binT (ha:PE X a ta) (hb:PE X b tb) {R:V->V->Hp->Prop} (I:Inv X pins σ H s)
  (h:ta σ H fun x H1=>tb σ H1 fun y H2=>R x y H2) {Q:Vp} 
  (hf:∀v u s2 x y H2,Inv X pins σ H2 s2->RelV x v->RelV y u->R x y H2->wpAny (model X.prog X.w) X.A (f v u) Q X.xe s2) :
  wpAny (model X.prog X.w) X.A (eval a X.env) (fun v s₁=>wpAny (model X.prog X.w) X.A (eval b X.env) (fun u s₂=>wpAny (model X.prog X.w) X.A (f v u) Q X.xe s₂) X.xe s₁) X.xe s:=by
 refine thn (ha pins s σ H _ I h) fun v s1 ⟨x,H1,I1,r1,q1⟩=>?_;refine thn (hb pins s1 σ H1 _ I1 q1) fun u s2 ⟨y,H2,I2,r2,q2⟩=>?_;exact hf v u s2 x y H2 I2 r1 r2 q2
theorem pe_op {op:Operator} (ho:OpR X (binaryOp op) r) (ha:PE X a ta) (hb:PE X b tb):PE X (.BinOp a op b pos) (tOp r ta tb):=by
 intro pins s σ H Q I h;exact wpAny_BinOp (binT ha hb I h fun v u s2 x y H2 I2 rx ry q=>ho pins s2 σ H2 x y v u Q I2 rx ry q)
theorem opI {C:Int->Int->Prop} 
  (rule:∀(i j:Int) (t u:Tok) (s:Shared) (Q:Vp) (E:Vp),C i j->Q (.int (g i j) s.toks) {s with toks:=s.toks+1}->wpAny (model X.prog X.w) X.A (f (.int i t) (.int j u)) Q E s) :
  OpR X f (rI C fun i j=>.int (g i j)):=by
 intro pins s σ H x y v u Q I rx ry h;obtain ⟨i,j,rfl,rfl,hc,q⟩:=h;obtain ⟨t,rfl⟩:=rx;obtain ⟨t',rfl⟩:=ry;exact rule i j t t' s _ _ hc ⟨.int (g i j),H,I.tok _,⟨_,rfl⟩,q⟩
theorem opI0 
  (rule:∀(i j:Int) (t u:Tok) (s:Shared) (Q:Vp) (E:Vp),Q (.int (g i j) s.toks) {s with toks:=s.toks+1}->wpAny (model X.prog X.w) X.A (f (.int i t) (.int j u)) Q E s) :
  OpR X f (rI0 fun i j=>.int (g i j)):=by
 intro pins s σ H x y v u Q I rx ry h;obtain ⟨i,j,rfl,rfl,q⟩:=h;obtain ⟨t,rfl⟩:=rx;obtain ⟨t',rfl⟩:=ry;exact rule i j t t' s _ _ ⟨.int (g i j),H,I.tok _,⟨_,rfl⟩,q⟩
theorem opB0 {g:Int->Int->Bool}
  (rule:∀(i j:Int) (t u:Tok) (s:Shared) (Q:Vp) (E:Vp),Q (.bool (g i j)) s->wpAny (model X.prog X.w) X.A (f (.int i t) (.int j u)) Q E s) :
  OpR X f (rI0 fun i j=>.bl (g i j)):=by
 intro pins s σ H x y v u Q I rx ry h;obtain ⟨i,j,rfl,rfl,q⟩:=h;obtain ⟨t,rfl⟩:=rx;obtain ⟨t',rfl⟩:=ry;exact rule i j t t' s _ _ ⟨.bl (g i j),H,I,rfl,q⟩
noncomputable def CPow (i j:Int):Prop:=0<=j/\j<=1000000/\i.natAbs<2^64
noncomputable def CMul (i j:Int):Prop:=(-(2^64)<i/\i<2^64)\/(-(2^64)<j/\j<2^64)
theorem CMul.ok {i j:Int} (h:CMul i j):IntMulOk i j:=by
 rcases h with ⟨h1,h2⟩|⟨h1,h2⟩
 ·exact .of_left (intBits_le_64 h1 h2)
 ·exact .of_right (intBits_le_64 h1 h2)
theorem op_add:OpR X (binaryOp .Add) (rI0 fun i j=>.int (i+j)):=opI0 fun _ _ _ _ _ _ _ q=>add_int q
theorem op_sub:OpR X (binaryOp .Sub) (rI0 fun i j=>.int (i-j)):=opI0 fun _ _ _ _ _ _ _ q=>sub_int q
theorem op_mul:OpR X (binaryOp .Mult) (rI CMul fun i j=>.int (i*j)):=opI fun _ _ _ _ _ _ _ hc q=>mul_int q hc.ok
theorem op_mod:OpR X (binaryOp .Mod) (rI (fun _ j=>0<j) fun i j=>.int (i%j)):=opI fun i j _ _ _ _ _ hc q=>by
 have h1:(0:Int)<j:=hc;exact mod_int' (by omega) (by rw [Int.fmod_eq_emod_of_nonneg i (by omega)];exact q)
theorem op_pow:OpR X (binaryOp .Pow) (rI CPow fun i j=>.int (i^j.toNat)):=opI fun _ _ _ _ _ _ _ hc q=>pow_int_small hc.1 hc.2.1 hc.2.2 q
end
noncomputable def scal:V->V->Bool
 |.non,.non=>true|.non,.int _=>true|.int _,.non=>true|.non,.bl _=>true|.bl _,.non=>true|.non,.str _=>true|.str _,.non=>true
 |.int _,.int _=>true|.bl _,.bl _=>true|.str _,.str _=>true|.byt _,.byt _=>true
 |.int _,.str _=>true|.str _,.int _=>true|.bl _,.str _=>true|.str _,.bl _=>true
 |_,_=>false
noncomputable def rNe:R2:=fun x y H Q=>scal x y=true/\Q (.bl (!decide (x=y))) H
theorem dec_int {i j:Int}:decide (V.int i=V.int j)=(i==j):=by
 rw [Bool.eq_iff_iff];simp
theorem dec_bl {i j:Bool}:decide (V.bl i=V.bl j)=(i==j):=by
 rw [Bool.eq_iff_iff];simp
theorem dec_str {i j:Str}:decide (V.str i=V.str j)=(i==j):=by
 rw [Bool.eq_iff_iff];simp
theorem dec_byt {i j:Array UInt8}:decide (V.byt i=V.byt j)=(i.toList==j.toList):=by
 rw [Bool.eq_iff_iff];cases i;cases j;simp
section
variable {a b:Expr} {tc:TE} 
theorem dI {Q:VK} {k k':Bool} (I:Inv X pins σ H s) (q:Q (.bl k) H) (e:k=k'):EP X pins σ Q (.bool k') s:=by
 subst e;exact ⟨.bl k,H,I,rfl,q⟩
theorem op_ne:OpR X (compareOp .NotEq) rNe:=by
 intro pins s σ H x y v u Q I rx ry h;obtain ⟨hs,q⟩:=h;cases x with
 |non=>
  cases rx;cases y with
  |non=>cases ry;exact PySem.EqNone.ne_none_none (dI I q (by simp))
  |bl j=>cases ry;exact PySem.EqNone.ne_none_bool (dI I q (by simp))
  |int j=>obtain ⟨t',rfl⟩:=ry;exact PySem.EqNone.ne_none_int (dI I q (by simp))
  |str j=>obtain ⟨t',rfl⟩:=ry;exact PySem.EqNone.ne_none_str (dI I q (by simp))
  |_=>exact absurd (show false=true from hs) Bool.false_ne_true
 |bl i=>
  cases rx;cases y with
  |non=>cases ry;exact PySem.EqNone.ne_bool_none (dI I q (by simp))
  |bl j=>cases ry;exact ne_bool (dI I q (congrArg not dec_bl))
  |str j=>obtain ⟨t',rfl⟩:=ry;exact PySem.EqMixed.ne_bool_str (dI I q (by simp))
  |_=>exact absurd (show false=true from hs) Bool.false_ne_true
 |int i=>
  obtain ⟨t,rfl⟩:=rx;cases y with
  |non=>cases ry;exact PySem.EqNone.ne_int_none (dI I q (by simp))
  |int j=>obtain ⟨t',rfl⟩:=ry;exact ne_int (dI I q (congrArg not dec_int))
  |str j=>obtain ⟨t',rfl⟩:=ry;exact PySem.EqMixed.ne_int_str (dI I q (by simp))
  |_=>exact absurd (show false=true from hs) Bool.false_ne_true
 |str i=>
  obtain ⟨t,rfl⟩:=rx;cases y with
  |non=>cases ry;exact PySem.EqNone.ne_str_none (dI I q (by simp))
  |bl j=>cases ry;exact PySem.EqMixed.ne_str_bool (dI I q (by simp))
  |int j=>obtain ⟨t',rfl⟩:=ry;exact PySem.EqMixed.ne_str_int (dI I q (by simp))
  |str j=>obtain ⟨t',rfl⟩:=ry;exact ne_str (dI I q (congrArg not dec_str))
  |_=>exact absurd (show false=true from hs) Bool.false_ne_true
 |byt i=>
  obtain ⟨t,rfl⟩:=rx;cases y with
  |byt j=>obtain ⟨t',rfl⟩:=ry;exact PySem.W.ne_bytes (dI I q (congrArg not dec_byt))
  |_=>exact absurd (show false=true from hs) Bool.false_ne_true
 |_=>cases y<;>exact absurd (show false=true from hs) Bool.false_ne_true
theorem op_lt:OpR X (compareOp .Lt) (rI0 fun i j=>.bl (decide (i<j))):=opB0 fun _ _ _ _ _ _ _ q=>lt_int q
theorem op_le:OpR X (compareOp .LtE) (rI0 fun i j=>.bl (decide (i<=j))):=opB0 fun _ _ _ _ _ _ _ q=>le_int q
theorem op_gt:OpR X (compareOp .Gt) (rI0 fun i j=>.bl (decide (j<i))):=opB0 fun _ _ _ _ _ _ _ q=>gt_int q
theorem op_ge:OpR X (compareOp .GtE) (rI0 fun i j=>.bl (decide (j<=i))):=opB0 fun _ _ _ _ _ _ _ q=>ge_int q
theorem An:OpR X (compareOp .In) (fun x y H Q=>∃i j,x=.str i/\y=.str j/\Q (.bl (!(Builtin.Str.occurrences j i 0 j.length 1).isEmpty)) H):=by
 intro pins s σ H x y v u Q I rx ry h;obtain ⟨i,j,rfl,rfl,q⟩:=h;obtain ⟨t,rfl⟩:=rx;obtain ⟨t',rfl⟩:=ry;exact in_str (dI I q rfl)
theorem op_isN:OpR X (compareOp .Is) (fun x y H Q=>y=.non/\Q (.bl (decide (x=.non))) H):=by
 intro pins s σ H x y v u Q I rx ry h;obtain ⟨rfl,q⟩:=h;cases ry;refine is_none_gen (dI I q ?_);cases x<;>first
  |(cases rx;rfl)
  |(obtain ⟨t,rfl⟩:=rx;rfl)
theorem op_notN:OpR X (compareOp .IsNot) (fun x y H Q=>y=.non/\Q (.bl (!decide (x=.non))) H):=by
 intro pins s σ H x y v u Q I rx ry h;obtain ⟨rfl,q⟩:=h;cases ry;refine isnot_none_gen (dI I q ?_);cases x<;>first
  |(cases rx;rfl)
  |(obtain ⟨t,rfl⟩:=rx;rfl)
theorem uf:OpR X (compareOp .NotIn) (fun x y H Q=>∃i j,x=.str i/\y=.str j/\Q (.bl (!(!(Builtin.Str.occurrences j i 0 j.length 1).isEmpty))) H):=by
 intro pins s σ H x y v u Q I rx ry h;obtain ⟨i,j,rfl,rfl,q⟩:=h;obtain ⟨t,rfl⟩:=rx;obtain ⟨t',rfl⟩:=ry;exact notIn_str (dI I q rfl)
theorem OpR.or (h:OpR X f r) (h':OpR X f r'):OpR X f (fun x y H Q=>r x y H Q\/r' x y H Q):=by
 intro pins s σ H x y v u Q I rx ry q;rcases q with q|q
 ·exact h pins s σ H x y v u Q I rx ry q
 ·exact h' pins s σ H x y v u Q I rx ry q
theorem As (b:Expr) (h:op≠.In:=by decide) (h2:op≠.NotIn:=by decide):behindInMarks op b=false:=by
 have e1:(op==CmpOp.In)=false:=by cases op<;>first|rfl|exact absurd rfl h
 have e2:(op==CmpOp.NotIn)=false:=by cases op<;>first|rfl|exact absurd rfl h2
 cases b<;>simp [behindInMarks,e1,e2]
theorem pe_cmpR (ho:OpR X (compareOp op) r) (ha:PE X a ta) (hb:PE X b tb) (hm:behindInMarks op b=false):PE X (.Compare a [op] [b] pos) (tOp r ta tb):=by
 intro pins s σ H Q I h;exact wpAny_Compare1 (binT ha hb I h fun v u s2 x y H2 I2 rx ry q=>ho pins s2 σ H2 x y v u Q I2 rx ry q) hm
noncomputable def tTest (t:TE):TT:=fun σ H Q=>t σ H fun x H'=>∃k,x=.bl k/\Q k H'
theorem Ag (ho:OpR X (compareOp op) r) (ha:PE X a ta) (hb:PE X b tb) (hm:behindInMarks op b=false):PT X (.Compare a [op] [b] pos) (tTest (tOp r ta tb)):=by
 intro pins s σ H Q I h;refine wpAny_isTrue_Compare1 (thn (ha pins s σ H _ I h) fun v s1 ⟨x,H1,I1,r1,q1⟩=>thn (hb pins s1 σ H1 _ I1 q1) fun u s2 ⟨y,H2,I2,r2,q2⟩=>
  thn (ho pins s2 σ H2 x y v u _ I2 r1 r2 q2) fun c s3 ⟨z,H3,I3,r3,k,e,q3⟩=>?_) hm
 subst e;cases r3;exact wpAny_truthy_bool ⟨H3,I3,q3⟩
noncomputable def zN (r r':R2) (ta tb tc:TE):TE:=fun σ H Q=>ta σ H fun x H1=>tb σ H1 fun y H2=>r x y H2 fun z H3=>∃k,z=.bl k /\
 (if k=true then tc σ H3 fun w' H4=>r' y w' H4 Q else Q (.bl false) H3)
theorem pe_chain (ho:OpR X (compareOp op) r) (ho':OpR X (compareOp op') r') (ha:PE X a ta) (hb:PE X b tb) (hc:PE X c tc)
  (hm:lastMarks [op,op'] [b,c]=false:=by with_unfolding_all rfl):PE X (.Compare a [op,op'] [b,c] pos) (zN r r' ta tb tc):=by
 intro pins s σ H Q I h;refine Compare_chain (thn (ha pins s σ H _ I h) fun v s1 ⟨x,H1,I1,r1,q1⟩=>chain_link (thn (hb pins s1 σ H1 _ I1 q1) fun u s2 ⟨y,H2,I2,r2,q2⟩=>
  thn (ho pins s2 σ H2 x y v u _ I2 r1 r2 q2) fun d s3 ⟨z,H3,I3,r3,k,e,q3⟩=>?_)) hm
 subst e;cases r3;refine wpAny_truthy_bool ?_;cases k with
 |false=>exact ite_ff ⟨.bl false,H3,I3,rfl,q3⟩
 |true=>exact ite_tt (chain_last (thn (hc pins s3 σ H3 _ I3 q3) fun w' s4 ⟨z',H4,I4,r4,q4⟩=>ho' pins s4 σ H4 y z' u w' Q I4 r2 r4 q4))
theorem pt_chain (ho:OpR X (compareOp op) r) (ho':OpR X (compareOp op') r') (ha:PE X a ta) (hb:PE X b tb) (hc:PE X c tc)
  (hm:lastMarks [op,op'] [b,c]=false:=by with_unfolding_all rfl):PT X (.Compare a [op,op'] [b,c] pos) (tTest (zN r r' ta tb tc)):=by
 intro pins s σ H Q I h;refine isTrue_chain (thn (ha pins s σ H _ I h) fun v s1 ⟨x,H1,I1,r1,q1⟩=>test_link (thn (hb pins s1 σ H1 _ I1 q1) fun u s2 ⟨y,H2,I2,r2,q2⟩=>
  thn (ho pins s2 σ H2 x y v u _ I2 r1 r2 q2) fun d s3 ⟨z,H3,I3,r3,k,e,q3⟩=>?_)) hm
 subst e;cases r3;refine wpAny_truthy_bool ?_;cases k with
 |false=>
  obtain ⟨k',e',q'⟩:=q3;cases e';exact ite_ff ⟨H3,I3,q'⟩
 |true=>
  refine ite_tt (test_last (thn (hc pins s3 σ H3 _ I3 q3) fun w' s4 ⟨z',H4,I4,r4,q4⟩=>thn (ho' pins s4 σ H4 y z' u w' _ I4 r2 r4 q4) fun d' s5 ⟨z2,H5,I5,r5,k2,e2,q5⟩=>?_));subst e2;cases r5;exact wpAny_truthy_bool ⟨H5,I5,q5⟩
noncomputable def TruV (K:Fg) (x:V) (H:Hp) (k:Bool):Prop:=
 match x with
 |.non=>k=false
 |.bl b=>k=b
 |.int i=>k=(i != 0)
 |.str y=>y.length<=sizeLine/\k=((y.length:Int) != 0)
 |.byt y=>y.size<=sizeLine/\k=((y.size:Int) != 0)
 |.ref p=>(∃xs,SqL K H p xs/\k= !xs.isEmpty)\/(∃xs,SqT K H p xs/\k= !xs.isEmpty)\/∃kvs,H p=some (.dK kvs)/\k= !kvs.isEmpty
 |_=>False
theorem yT {kvs:List (κ×V)} {vs:List (κ×Value)} (r:KV kvs vs):(!vs.isEmpty)= !kvs.isEmpty:=by
 cases r<;>rfl
theorem qO {its:List Value} (r:Vals xs its):(!its.toArray.isEmpty)= !xs.isEmpty:=by
 cases r<;>simp
theorem qH:(sizeLine:Nat)<2^63:=by rw [sizeLine_eq];decide
theorem tru_ok:TruR X (fun x H Q=>∃k,TruV X.K x H k/\Q k H):=by
 intro pins s σ H x v Q I rx h;obtain ⟨k,e,q⟩:=h;have hl:=qH;have hs:sizeLine=16777216:=sizeLine_eq;cases x with
 |non=>
  cases rx;have e':k=false:=e;subst e';exact truthy_none ⟨H,I,q⟩
 |bl b=>
  cases rx;have e':k=b:=e;subst e';exact wpAny_truthy_bool ⟨H,I,q⟩
 |int i=>
  obtain ⟨t,rfl⟩:=rx;have e':k=(i != 0):=e;subst e';exact PySem.P.truthy_int ⟨H,I,q⟩
 |str y=>
  obtain ⟨t,rfl⟩:=rx;obtain ⟨hy,e'⟩:y.length<=sizeLine/\k=((y.length:Int) != 0):=e;subst e';exact PySem.P.truthy_str (by omega) ⟨H,I.tok _,q⟩
 |byt y=>
  obtain ⟨t,rfl⟩:=rx;obtain ⟨hy,e'⟩:y.size<=sizeLine/\k=((y.size:Int) != 0):=e;subst e';exact PySem.W.truthy_bytes (by omega) ⟨H,I.tok _,q⟩
 |ref p=>
  cases rx;have e':(∃xs,SqL X.K H p xs/\k= !xs.isEmpty)\/(∃xs,SqT X.K H p xs/\k= !xs.isEmpty)\/∃kvs,H p=some (.dK kvs)/\k= !kvs.isEmpty:=e;rcases e' with ⟨xs,hx,e'⟩|⟨xs,hx,e'⟩|⟨kvs,hx,e'⟩
  ·subst e';obtain ⟨its,r,pl,hz⟩:=I.list hx;have hlen:=r.length;exact wpAny_truthy_list pl.isList (by simp only [List.size_toArray];omega) ⟨H,I.tok _,by rw [qO r];exact q⟩
  ·subst e';obtain ⟨its,r,pl,hz⟩:=I.tuple hx;have hlen:=r.length;exact truthy_tuple pl (by simp only [List.size_toArray];omega) ⟨H,I.tok _,by rw [qO r];exact q⟩
  ·subst e';obtain ⟨hz,hS,vs,r,m⟩:kvs.length<=sizeLine/\(p==sysModules)=false/\∃vs,KV kvs vs/\s.heap.DictOf (w4 X.prog X.w) p vs:=I.hok p _ hx;have hlen:kvs.length=vs.length:=Paired.length r;exact wpAny_truthy_dict hS m (by omega) ⟨H,I.tok _,by rw [yT r];exact q⟩
 |_=>exact (show False from e).elim
theorem rR (ha:PE X a ta) (he:∀whole,isTrue a X.env whole=(do let v <- whole;standAt a.pos;holding [v] (truthy v))) :
  PT X a (fun σ H Q=>ta σ H fun x H'=>∃k,TruV X.K x H' k/\Q k H'):=by
 intro pins s σ H Q I h;exact isTrue_plain (thn (ha pins s σ H _ I h) fun v s1 ⟨x,H1,I1,r1,q1⟩=>tru_ok pins s1 σ H1 x v Q I1 r1 q1) (he _)
theorem yL:OpR X (binaryOp .Add) (fun x y H Q=>∃i j,x=.str i/\y=.str j/\i.length+j.length<=sizeLine/\Q (.str (i++j)) H):=by
 intro pins s σ H x y v u Q I rx ry h;obtain ⟨i,j,rfl,rfl,hz,q⟩:=h;obtain ⟨t,rfl⟩:=rx;obtain ⟨t',rfl⟩:=ry;exact add_str (fun t' tk=>⟨.str (i++j),H,I.tok _,⟨_,rfl⟩,q⟩) hz
theorem vals1 {x:V} (r:Vals [x] us):∃u,us=[u]/\RelV x u:=by
 cases r with
 |cons r1 r2=>cases r2;exact ⟨_,rfl,r1⟩
theorem By:iq X (.type "int") (fun xs H Q=>(∃i,xs=[.int i]/\Q (.int i) H)\/∃k,xs=[.bl k]/\Q (.int (if k then 1 else 0)) H):=by
 intro pins s σ H xs us Q I r h;rcases h with ⟨i,rfl,q⟩|⟨k,rfl,q⟩
 ·obtain ⟨u,rfl,t,rfl⟩:=vals1 r;exact call_int_int ⟨.int i,H,I,⟨_,rfl⟩,q⟩
 ·obtain ⟨u,rfl,r1⟩:=vals1 r;cases r1;exact call_int_bool ⟨.int (if k then 1 else 0),H,I.tok _,⟨_,rfl⟩,q⟩
theorem uY:iq X (.type "str") (fun xs H Q=>∃i,xs=[.int i]/\i.natAbs.log2<1920/\Q (.str (toString i)) H):=by
 intro pins s σ H xs us Q I r h;obtain ⟨i,rfl,hz,q⟩:=h;obtain ⟨u,rfl,t,rfl⟩:=vals1 r;exact PySem.P.str_of_int hz ⟨.str _,H,I.tok _,⟨_,rfl⟩,q⟩
end
structure ObjM (h:Heap) (x dx C:Addr) (mA:Mq):Prop where
 obj:h.get? x=some (PySem.W.instObj C dx)
 ns:h.Ns1 dx mA
 ne:dx≠x
theorem AF (n:h.Ns1 dx mA):∃od,h.get? dx=some od/\∀name,lookIn name od=some (mA name):=by
 obtain ⟨o,es,ep,ho,hd,hk,_,hm⟩:=n;refine ⟨o,ho,fun name=>?_⟩
 have e:=hm name;unfold nsFind findBy at e;rw [<- Array.find?_toList] at e;unfold lookIn;rw [hd];dsimp only;split
 ·rename_i y q;rw [q] at e;exact congrArg some e
 ·rename_i q;rw [q] at e;have a:es.toList.any (·.refKey)=false:=by
   rw [List.any_eq_false];intro y hy;obtain ⟨z,t,hkey⟩:=hk y (Array.mem_toList_iff.mp hy);simp [DictEntry.refKey,hkey]
  have a':¬es.toList.any (·.refKey)=true:=by rw [a];exact Bool.false_ne_true
  rw [if_neg a'];exact congrArg some e
theorem ObjM.look {x:Addr} (I:ObjM h x dx C mA):∃od,PySem.W.InstAt h x (PySem.W.instObj C dx) C (some od)/\∀name,lookIn name od=some (mA name):=
 let ⟨od,ho,hl⟩:=AF I.ns
 ⟨od,⟨I.obj,rfl,rfl,ho⟩,hl⟩
section
variable {x f:Addr} {v:Value}
theorem get_map {expr:Bool} {Q:Vp} (X:K.In s.heap) (I:ObjM s.heap x dx C mA) (hg:plainGet K C name=true) (hh:hasDictIn K C=true)
  (ha:findIn K (.ref C) name=some none) (hv:mA name=some v) (hv':PySem.W.handedIn v=true) (h:Q v {s with toks:=s.toks+1}) :
  wpAny (model prog w) A (getAttr (.ref x) name expr) Q E s:=by
 obtain ⟨od,J,hl⟩:=I.look;exact PySem.W.get_value X J (PySem.W.plainGet_of hg).1 (PySem.W.findObj_own hh ha rfl (by rw [hl,hv])) hv' h
theorem get_meth {Q:Value×List Value->Shared->Prop} (X:K.In s.heap) (I:ObjM s.heap x dx C mA) (hg:plainGet K C name=true)
  (hf:findIn K (.ref C) name=some (some (.ref f))) (ht:isFn K (.ref f)=true) (hv:mA name=none) (h:Q (.ref f,[.ref x]) s) :
  wpAny (model prog w) A (getMethod (.ref x) name pl) Q E s:=by
 obtain ⟨od,J,hl⟩:=I.look;exact PySem.W.method_fn X J (PySem.W.plainGet_of hg).1 (PySem.W.plainGet_of hg).2 hf (beq_iff_eq.mp ht) (by show (lookIn name od).map (·.isSome)=some false;rw [hl,hv];rfl) h
theorem set_map {ns:List Str} (X:K.In s.heap) (I:ObjM s.heap x dx C mA)
  (hs:findIn K (.ref C) "__setattr__"=some (some (.builtin "object.__setattr__"))) (hp:plainOver K C=true) (ht:takerIn K C name=some none) (hh:hasDictIn K C=true)
  (hw:PySem.Within mA ns) (hsz:ns.length<=sizeLine)
  (h:∀h',ObjM h' x dx C (fun y=>if y=name then some v else mA y)->Heap.SameBut dx s.heap h'->Q () {s with heap:=h',toks:=s.toks+2}) :
  wpAny (model prog w) A (setAttr (.ref x) name v) Q E s:=by
 obtain ⟨od,J,hl⟩:=I.look;refine PySem.W.set_plain X J hs (PySem.W.osa_open (s:={s with toks:=s.toks+1}) (r:=none) X J hp ht fun b=>?_);obtain ⟨cd,hc,hd'⟩:=PySem.W.any_some hh;have hx:s.heap.get? x=some ⟨.ref C,some dx,.plain,#[]⟩:=I.obj;refine wpAny_bind (wpAny_pure (wpAny_bind (wpAny_bind (wpAny_loadPart hx (wpAny_bind (PySem.W.Looks.here (s:={s with toks:=s.toks+1}) (PySem.W.looks_clsIn X hc) ?_))))));rw [hd'];refine wpAny_pure (a:=some dx) (wpAny_bind (wpAny_pure (wpAny_bind ?_)));refine wpAny_nsSet1 (s:={s with toks:=s.toks+1}) I.ns fun h' hn2 hs2=>?_;obtain ⟨oD,esD,epD,hoD,hdD,hcD⟩:=hn2.count (PySem.Within.cons name v hw);refine wpAny_bind (wpAny_lookBehind hoD (by rw [hdD];exact pastItsLine_dict (Nat.le_trans hcD (by rw [List.length_cons];omega))) ?_);exact wpAny_pure (h _ ⟨(hs2.2 _ (Ne.symm I.ne)).trans I.obj,hn2,I.ne⟩ hs2)
theorem make_map {R:Result->Shared->Prop} {vs:List Value} (X:K.In s.heap) (hm:makesIn K C=true)
  (hi:findIn K (.ref C) "__init__"=some (some (.ref f))) (hf:PySem.W.typeIn K (.ref f)=some (.type "function"))
  (h:codeAny (model prog w) (A.under (.builtin "type.__call__" ⟨.ref C::vs,kw⟩)) (.call (.ref f) ⟨.ref (s.heap.objs.size+1)::vs,kw⟩) (PySem.W.InitBack (s.heap.objs.size+1) R)
   {s with heap:=(s.heap.push PySem.W.emptyDict).push (PySem.W.instObj C s.heap.objs.size)}) :
  codeAny (model prog w) A (.call (.ref C) ⟨vs,kw⟩) R s:=by
 obtain ⟨hh,g,d,t,os⟩:=s;exact PySem.W.make_core (PySem.W.makes_of X hm) (PySem.W.looks_findIn X hi) (fun self=>PySem.W.bind_fn X self hf) (.inl rfl) h
end
noncomputable def qC (f:Str) (v:V):List (Str×V)->List (Str×V)
 |[]=>[(f,v)]
 |(g,x)::r=>if g=f then (g,v)::r else (g,x)::qC f v r
theorem oi (f g:Str) (v:V):∀fs:List (Str×V),(qC f v fs).lookup g=if g=f then some v else fs.lookup g
 |[]=>by
  show List.lookup g [(f,v)]=_;by_cases h:g=f
  ·have hb:(g==f)=true:=beq_iff_eq.mpr h;simp only [List.lookup,hb,if_pos h]
  ·have hb:(g==f)=false:=beq_eq_false_iff_ne.mpr h;simp only [List.lookup,hb,if_neg h]
 |(k,x)::r=>by
  have ih:=oi f g v r;rw [show qC f v ((k,x)::r)=(if k=f then (k,v)::r else (k,x)::qC f v r) from rfl];by_cases hk:k=f
  ·rw [if_pos hk];by_cases h:g=k
   ·have hb:(g==k)=true:=beq_iff_eq.mpr h;simp only [List.lookup,hb,if_pos (h.trans hk)]
   ·have hb:(g==k)=false:=beq_eq_false_iff_ne.mpr h;simp only [List.lookup,hb,if_neg (fun e:g=f=>h (e.trans hk.symm))]
  ·rw [if_neg hk];by_cases h:g=k
   ·have hb:(g==k)=true:=beq_iff_eq.mpr h;simp only [List.lookup,hb,if_neg (fun e:g=f=>hk (h.symm.trans e))]
   ·have hb:(g==k)=false:=beq_eq_false_iff_ne.mpr h;simp only [List.lookup,hb];exact ih
theorem oq (f:Str) (v:V):∀fs:List (Str×V),f∈(qC f v fs).map (·.1)/\∀g,g∈fs.map (·.1)->g∈(qC f v fs).map (·.1)
 |[]=>⟨by simp [qC],fun g h=>by simp at h⟩
 |(k,x)::r=>by
  obtain ⟨i1,i2⟩:=oq f v r;rw [show qC f v ((k,x)::r)=(if k=f then (k,v)::r else (k,x)::qC f v r) from rfl];by_cases hk:k=f
  ·rw [if_pos hk];subst hk;exact ⟨by simp,fun g h=>by simpa using h⟩
  ·rw [if_neg hk];refine ⟨?_,fun g h=>?_⟩
   ·rw [List.map_cons];exact List.mem_cons_of_mem _ i1
   ·rw [List.map_cons] at h ⊢;rcases List.mem_cons.mp h with e|e
    ·exact List.mem_cons.mpr (.inl e)
    ·exact List.mem_cons_of_mem _ (i2 g e)
theorem oj (f:Str) (v:V):∀fs:List (Str×V),(qC f v fs).length<=fs.length+1
 |[]=>by simp [qC]
 |(k,x)::r=>by
  have ih:=oj f v r;rw [show qC f v ((k,x)::r)=(if k=f then (k,v)::r else (k,x)::qC f v r) from rfl];by_cases hk:k=f
  ·rw [if_pos hk,List.length_cons,List.length_cons];omega
  ·rw [if_neg hk,List.length_cons,List.length_cons];omega
theorem wY.some_of {o:Option Value} (r:wY (some v) o):∃u,o=some u/\RelV v u:=by
 cases o with
 |none=>exact (show False from r).elim
 |some u=>exact ⟨u,rfl,r⟩
theorem wY.none_of {o:Option Value} (r:wY none o):o=none:=by
 cases o with
 |none=>rfl
 |some u=>exact (show False from r).elim
theorem AZ (r:RelV v u):PySem.W.handedIn u=true:=by
 cases v with
 |non=>cases (show u=Value.none from r);rfl
 |bl b=>cases (show u=Value.bool b from r);rfl
 |int i=>obtain ⟨t,e⟩:=(show ∃t,u=Value.int i t from r);cases e;rfl
 |str x=>obtain ⟨t,e⟩:=(show ∃t,u=Value.str x t from r);cases e;rfl
 |byt b=>obtain ⟨t,e⟩:=(show ∃t,u=Value.bytes b t from r);cases e;rfl
 |flt b=>obtain ⟨t,e⟩:=(show ∃t,u=Value.float b t from r);cases e;rfl
 |ref a=>cases (show u=Value.ref a from r);rfl
 |ty n=>cases (show u=Value.type n from r);rfl
section
variable {fs:List (Str×V)}
theorem sA (hok:HOk P w H h) (e:H a=some (.ins C dx fs)):∃mA,ObjM h a dx C mA/\(∀f,wY (fs.lookup f) (mA f))/\PySem.Within mA (fs.map (·.1))/\fs.length<=1000/\H dx=some (.own a):=by
 obtain ⟨d,z,ne,ob,mA,n,r,q⟩:=(show gn P w H h a (.ins C dx fs) from hok a _ e)
 exact ⟨mA,⟨ob,n,ne⟩,r,q,z,d⟩
end
structure Cls (K:Fg) (C:Addr):Prop where
 pg:plainGet K C Str.empty=true
 hd:hasDictIn K C=true
 po:plainOver K C=true
 sa:findIn K (.ref C) "__setattr__"=some (some (.builtin "object.__setattr__"))
theorem Cls.get (c:Cls K C) (f:Str):plainGet K C f=true:=c.pg
noncomputable def aV (K:Fg) (C:Addr) (f:Str):Prop:=findIn K (.ref C) f=some none
theorem aV.taker {f:Str} (n:aV K C f):takerIn K C f=some none:=by
 unfold takerIn;rw [show findIn K (.ref C) f=some none from n];rfl
structure Meth (K:Fg) (C:Addr) (m:Str) (f:Addr):Prop where
 at_:findIn K (.ref C) m=some (some (.ref f))
 fn:isFn K (.ref f)=true
 kp:keepIn K (.ref f)=true
section
variable {fs:List (Str×V)} {f:Str} 
theorem yV {b:Bool} {Q:Vp} (I:Inv X pins σ H s) (e:H a=some (.ins C dx fs)) (c:Cls X.K C) (n:aV X.K C f) (l:fs.lookup f=some v)
  (h:∀u s',Inv X pins σ H s'->RelV v u->Q u s'):wpAny (model X.prog X.w) A (getAttr (.ref a) f b) Q E s:=by
 obtain ⟨mA,O,r,_,_,_⟩:=sA I.hok e;obtain ⟨u,hu,ru⟩:=wY.some_of (v:=v) (o:=mA f) (by rw [<- l];exact r f);exact get_map I.kIn O (c.get f) c.hd n hu (AZ ru) (h u _ (I.tok _) ru)
theorem yU {g:Addr} {Q:Value×List Value->Shared->Prop} (I:Inv X pins σ H s) (e:H a=some (.ins C dx fs)) (c:Cls X.K C) (k:Meth X.K C m g) (l:fs.lookup m=none)
  (h:Q (.ref g,[.ref a]) s):wpAny (model X.prog X.w) A (getMethod (.ref a) m pl) Q E s:=by
 obtain ⟨mA,O,r,_,_,_⟩:=sA I.hok e;have hn:mA m=none:=wY.none_of (by rw [<- l];exact r m);exact get_meth I.kIn O (c.get m) k.at_ k.fn hn h
theorem yt {y:V} (I:Inv X pins σ H s) (e:H a=some (.ins C dx fs)) (c:Cls X.K C) (n:aV X.K C f) (hl:fs.length<1000) (ry:RelV y u)
  (h:∀s',Inv X pins σ (upd H a (.ins C dx (qC f y fs))) s'->Q () s'):wpAny (model X.prog X.w) A (setAttr (.ref a) f u) Q E s:=by
 obtain ⟨mA,O,r,wi,_,ho⟩:=sA I.hok e;have hz:(fs.map (·.1)).length<=sizeLine:=by rw [List.length_map,sizeLine_eq];omega
 refine set_map I.kIn O c.sa c.po n.taker c.hd wi hz fun h' O' sb=>h _ ?_;have hd:∃o,h'.get? dx=some o:=let ⟨o,_,_,e',_⟩:=O'.ns;⟨o,e'⟩;refine I.write (x:=a) (e:=dx) (by rw [e];exact True.intro) (.inr ho) (fun b q hb z=>(sb.2 b hb).trans z) hd ?_;refine ⟨by rw [au O.ne];exact ho,?_,O.ne,O'.obj,_,O'.ns,fun g=>?_,fun g hg=>?_⟩
 ·have:=oj f y fs;omega
 ·show wY ((qC f y fs).lookup g) (if g=f then some u else mA g);rw [oi];by_cases q:g=f
  ·rw [if_pos q,if_pos q];exact ry
  ·rw [if_neg q,if_neg q];exact r g
 ·by_cases q:g=f
  ·rw [q];exact (oq f y fs).1
  ·refine (oq f y fs).2 g (wi g fun z=>hg ?_);show (if g=f then some u else mA g)=none;rw [if_neg q];exact z
theorem Inv.made (I:Inv X pins σ H s):Inv X pins σ (upd (upd H s.heap.objs.size (.own (s.heap.objs.size+1))) (s.heap.objs.size+1) (.ins C s.heap.objs.size []))
  {s with heap:=(s.heap.push PySem.W.emptyDict).push (PySem.W.instObj C s.heap.objs.size)}:=by
 have e1:(s.heap.push PySem.W.emptyDict).get? s.heap.objs.size=some PySem.W.emptyDict:=Heap.get?_push_size s.heap rfl;have e2:((s.heap.push PySem.W.emptyDict).push (PySem.W.instObj C s.heap.objs.size)).get? (s.heap.objs.size+1)=some (PySem.W.instObj C s.heap.objs.size):=by
  have:=Heap.get?_push_size (s.heap.push PySem.W.emptyDict) (o:=PySem.W.instObj C s.heap.objs.size) rfl
  rwa [Heap.size_push] at this
 have e3:(s.heap.push PySem.W.emptyDict).Ns s.heap.objs.size (fun _=>none):=⟨PySem.W.emptyDict,#[],_,e1,rfl,(fun e he=>absurd he (by simp)),fun _=>rfl⟩
 have I1:=I.laid (a:=s.heap.objs.size) (o:=.own (s.heap.objs.size+1)) (h':=s.heap.push PySem.W.emptyDict) (t':=s.toks) (fun b u q=>Heap.get?_push_of_some _ q) (Nat.le_refl _) ⟨_,e1⟩;refine I1.laid (a:=s.heap.objs.size+1) (o:=.ins C s.heap.objs.size []) (t':=s.toks) (fun b u q=>Heap.get?_push_of_some _ q) (Nat.le_of_eq (Heap.size_push _ _)) ?_;have ne:s.heap.objs.size≠s.heap.objs.size+1:=Nat.ne_of_lt (Nat.lt_succ_self _);refine ⟨by rw [au ne,ay],Nat.zero_le _,ne,e2,fun _=>none,(Heap.Ns1.of_empty e3).at fun o q=>Heap.get?_push_of_some _ q,fun _=>True.intro,fun y hy=>absurd rfl hy⟩
theorem attr_of {env:Env} {f:Str} {Q:Vp} (hb:attributeBase e f env (eval e env)=eval e env)
  (h:wpAny (model prog w) A (eval e env) (fun o s₁=>wpAny (model prog w) A (getAttr o f true) Q E s₁) E s):wpAny (model prog w) A (eval (.Attribute e f pos) env) Q E s:=
 Attribute_any_ h (by rw [arm_eval_Attribute,hb])
end
noncomputable def mM (K:Fg) (ta:TE) (f:Str):TE:=fun σ H Q=>ta σ H fun x H1=>∃a C dx fs v,x=.ref a/\H1 a=some (.ins C dx fs)/\Cls K C/\aV K C f/\fs.lookup f=some v/\Q v H1
noncomputable def xk (K:Fg) (ta tv:TE) (f:Str):TS:=fun D σ H=>tv σ H fun y H1=>ta σ H1 fun x H2=>∃a C dx fs,x=.ref a/\H2 a=some (.ins C dx fs)/\Cls K C/\aV K C f/\fs.length<1000 /\
 D.nx σ (upd H2 a (.ins C dx (qC f y fs)))
section
variable {o value:Expr} {f:Str} {tv:TE}
theorem dQ (he:PE X e ta) (hb:attributeBase e f X.env (eval e X.env)=eval e X.env):PE X (.Attribute e f pos) (mM X.K ta f):=by
 intro pins s σ H Q I h;refine attr_of hb (thn (he pins s σ H _ I h) fun u s1 ⟨x,H1,I1,rx,a,C,dx,fs,v,ex,ea,c,n,l,q⟩=>?_);subst ex;obtain rfl:u=Value.ref a:=rx;exact yV I1 ea c n l fun u' s2 I2 ru=>⟨v,H1,I2,ru,q⟩
theorem gA (ha:PE X o ta) (hv:PE X value tv) (hs:swapsWith value (some (.Attribute o f pos')) pos.line X.env=pure false):PS X (.Assign [.Attribute o f pos'] value pos) (xk X.K ta tv f):=by
 intro pins s σ H D I h;refine plainObj_wpAny_Assign_Attribute (thn (hv pins s σ H _ I h) fun u s1 ⟨y,H1,I1,ry,q⟩=>thn (ha pins s1 σ H1 _ I1 q) fun ov s2 ⟨x,H2,I2,rx,a,C,dx,fs,ex,ea,c,n,l,q2⟩=>?_) hs;subst ex;obtain rfl:ov=Value.ref a:=rx;exact yt I2 ea c n l ry fun s3 I3=>⟨σ,_,I3,q2⟩
end
section
variable {Q:Vp} {c:Value} {b:Bool}
inductive zv (K:Fg) (H:Hp):V->Value->Prop where
 |non:zv K H .non (.type "NoneType")
 |bl (x:Bool):zv K H (.bl x) (.type "bool")
 |int (i:Int):zv K H (.int i) (.type "int")
 |str (x:Str):zv K H (.str x) (.type "str")
 |flt (x:UInt64):zv K H (.flt x) (.type "float")
 |lst {a:Addr} {xs:List V} (e:H a=some (.lst xs)):zv K H (.ref a) (.type "list")
 |frz {a:Addr} {o:Obj} {xs:List V} (e:H a=some (.frz o (.lst xs))):zv K H (.ref a) (.type "list")
 |tup {a:Addr} {xs:List V} (e:H a=some (.tup xs)):zv K H (.ref a) (.type "tuple")
 |dK {a:Addr} {kvs:List (Key×V)} (e:H a=some (.dK kvs)):zv K H (.ref a) (.type "dict")
 |dT {a:Addr} {kvs:List (List Key×V)} (e:H a=some (.dT kvs)):zv K H (.ref a) (.type "dict")
 |ins {a C dx:Addr} {fs:List (Str×V)} (e:H a=some (.ins C dx fs)) (cl:Cls K C) (ha:findIn K (.ref C) "__class__"=some (some (.builtin "object.__class__")))
   (hn:specialIn K (.builtin "object.__class__") "__get__"=some (some (.builtin "getset_descriptor.__get__"))) (htk:takesIn K (.builtin "object.__class__")=some true)
   (hm:mroIn K C (.type "object")=some true):zv K H (.ref a) (.ref C)
theorem AR {x:V} {t:Value} (I:Inv X pins σ H s) (rx:RelV x u) (ty:zv X.K H x t) (e:kitOne X.K t c=some b) (h:∀tk,Q (.bool b) {s with toks:=tk}) :
  wpAny (model X.prog X.w) A (call (.builtin "isinstance") [u,c]) Q E s:=by
 cases ty with
 |non=>cases (show u=Value.none from rx);exact kia_one PySem.W.kitx_none I.kIn True.intro e (fun z=>nomatch z) h
 |bl y=>cases (show u=Value.bool y from rx);exact kia_one PySem.W.kitx_bool I.kIn True.intro e (fun z=>nomatch z) h
 |int i=>obtain ⟨t,q⟩:=(show ∃t,u=Value.int i t from rx);cases q;exact kia_one PySem.W.kitx_int I.kIn True.intro e (fun z=>nomatch z) h
 |str y=>obtain ⟨t,q⟩:=(show ∃t,u=Value.str y t from rx);cases q;exact kia_one PySem.W.kitx_str I.kIn True.intro e (fun z=>nomatch z) h
 |flt y=>obtain ⟨t,q⟩:=(show ∃t,u=Value.float y t from rx);cases q;exact kia_one PySem.W.kitx_float I.kIn True.intro e (fun z=>nomatch z) h
 |@lst a xs ea=>
  cases (show u=Value.ref a from rx);obtain ⟨_,_,n,_,h1⟩:=(show gn X.prog X.w H s.heap a (.lst xs) from I.hok a _ ea)
  exact kia_one PySem.W.kitx_list I.kIn ⟨_,h1,rfl⟩ e (fun z=>nomatch z) h
 |@frz a ob xs ea=>
  cases (show u=Value.ref a from rx);obtain ⟨_,_,_,n,_,h1⟩:=(show gn X.prog X.w H s.heap a (.frz ob (.lst xs)) from I.hok a _ ea)
  exact kia_one PySem.W.kitx_list I.kIn ⟨_,h1,rfl⟩ e (fun z=>nomatch z) h
 |@tup a xs ea=>
  cases (show u=Value.ref a from rx);obtain ⟨_,_,_,p⟩:=(show gn X.prog X.w H s.heap a (.tup xs) from I.hok a _ ea)
  obtain ⟨o,h1,h2,_⟩:=p;exact kia_one PySem.W.kitx_tuple I.kIn ⟨o,h1,h2⟩ e (fun z=>nomatch z) h
 |@dK a kvs ea=>
  cases (show u=Value.ref a from rx);obtain ⟨_,_,vs,_,p⟩:=(show gn X.prog X.w H s.heap a (.dK kvs) from I.hok a _ ea)
  obtain ⟨o,es,ep,h1,h2,_⟩:=p;exact kia_one PySem.W.kitx_dict I.kIn ⟨o,h1,h2.1⟩ e (fun z=>nomatch z) h
 |@dT a kvs ea=>
  cases (show u=Value.ref a from rx);obtain ⟨_,_,xs,_,o,es,ep,h1,h2,_⟩:=(show gn X.prog X.w H s.heap a (.dT kvs) from I.hok a _ ea)
  exact kia_one PySem.W.kitx_dict I.kIn ⟨o,h1,h2.1⟩ e (fun z=>nomatch z) h
 |@ins a C dx fs ea cl ha hn htk hm=>
  cases (show u=Value.ref a from rx);obtain ⟨mA,O,_⟩:=sA I.hok ea;obtain ⟨od,J,_⟩:=O.look;exact kia_one (PySem.W.kitx_own (cl.get _) cl.hd ha hn htk hm) I.kIn J e (fun z=>nomatch z) h
end
structure ip (k:Nat) (A:Around):Prop where
 hd:A.handled=none
 dp:A.depth+3*k+5<recursionLimit
 un:A.units+16*k+200<cLine
theorem ip.mono (r:ip k A) (h:j<=k):ip j A:=⟨r.hd,by have:=r.dp;omega,by have:=r.un;omega⟩
theorem ip.deeper {k:Nat} {A:Around} (r:ip (k+1) A) (env:Env):ip k (A.deeper env):=
 ⟨r.hd,by have:=r.dp;show A.depth+1+3*k+5<_;omega,by have:=r.un;show A.units+3+16*k+200<_;omega⟩
theorem yP:(A.under (.builtin "type.__call__" ⟨.ref C::us,kw⟩)).depth=A.depth+1:=by
 first|rfl|simp [Around.under,Code.weight,Code.isCreation,Code.isGuard,Code.isCaller,Code.frames,Code.isFrame,guardIds]
theorem yO:(A.under (.builtin "type.__call__" ⟨.ref C::us,kw⟩)).units=A.units+1:=by
 first|rfl|simp [Around.under,Code.cUnits,Code.frames,Code.isFrame]
theorem ip.make (r:ip (k+1) A) (C:Addr) (us:List Value) (kw:List (Str×Value)):ip k (A.under (.builtin "type.__call__" ⟨.ref C::us,kw⟩)):=
 ⟨r.hd,by have:=r.dp;rw [yP];omega,by have:=r.un;rw [yO];omega⟩
theorem ip.depth {k:Nat} {A:Around} (r:ip k A):A.depth<recursionLimit:=by have:=r.dp;omega
theorem ip.units {k:Nat} {A:Around} (r:ip k A):A.units+64<cLine:=by have:=r.un;omega
noncomputable def fU:TA:=fun _ H Q=>Q [] H
noncomputable def aX (ta:TE) (tr:TA):TA:=fun σ H Q=>ta σ H fun x H1=>tr σ H1 fun xs H2=>Q (x::xs) H2
section
theorem aY:PA X [] fU:=fun _ _ _ _ H Q I h=>Calls.spliced_nil ⟨[],H,I,.nil,h⟩
theorem aA (ha:PE X e te) (hr:PA X es t) (hs:starEach (e::es) X.env=(false,eval e X.env)::starEach es X.env:=by rfl):PA X (e::es) (aX te t):=by
 intro pos pins s σ H Q I h;rw [hs];show wpAny _ _ (spliced ((false,eval e X.env)::backTo pos (starEach es X.env))) _ _ s;refine Calls.spliced_cons (thn (ha pins s σ H _ I h) fun u s1 ⟨x,H1,I1,r1,q1⟩=>?_);exact thn (hr pos pins s1 σ H1 _ I1 q1) fun us s2 ⟨xs,H2,I2,r2,q2⟩=>⟨x::xs,H2,I2,.cons r1 r2,q2⟩
noncomputable def tTup (t:TA):TE:=fun σ H Q=>t σ H fun xs H1=>xs.length<=sizeLine/\∀p,H1 p=none->Q (.ref p) (upd H1 p (.tup xs))
noncomputable def tLst (t:TA):TE:=fun σ H Q=>t σ H fun xs H1=>xs.length<=sizeLine/\∀p,H1 p=none->Q (.ref p) (upd H1 p (.lst xs))
theorem pe_tup {x1} (h:PA X es t):PE X (.Tuple es x1 pos) (tTup t):=by
 intro pins s σ H Q I hq;refine wpAny_Tuple_spliced (thn (h pos pins s σ H _ I hq) fun us s1 ⟨xs,H1,I1,r,z,q⟩=>⟨by rw [<- r.length];exact z,?_⟩);have hf:H1 s1.heap.objs.size=none:=I1.hok.fresh (Nat.le_refl _);refine ⟨.ref s1.heap.objs.size,upd H1 s1.heap.objs.size (.tup xs),I1.laid (t':=s1.toks) (fun b u e=>Heap.get?_push_of_some _ e) (Nat.le_refl _) ?_,rfl,q _ hf⟩
 exact ⟨z,us,r,⟨_,Heap.get?_push_size _ rfl,rfl,_,rfl⟩⟩
theorem ud (h:PA X es t):PE X (.List es pos) (tLst t):=by
 intro pins s σ H Q I hq;refine wpAny_List_spliced (thn (h pos pins s σ H _ I hq) fun us s1 ⟨xs,H1,I1,r,z,q⟩=>⟨by rw [<- r.length];exact z,?_⟩);have hf:H1 s1.heap.objs.size=none:=I1.hok.fresh (Nat.le_refl _);refine ⟨.ref s1.heap.objs.size,upd H1 s1.heap.objs.size (.lst xs),I1.laid (t':=s1.toks) (fun b u e=>Heap.get?_push_of_some _ e) (Nat.le_refl _) ?_,rfl,q _ hf⟩
 exact ⟨z,us,0,r,Heap.get?_push_size _ rfl⟩
end
noncomputable abbrev Sp:=List V->Hp->VK->XK->Prop
variable {sp:Sp}
noncomputable abbrev CXT:=List Env->Hp->Shared->XK->Vp
variable {CX:CXT}
structure Env0 (P:Program) (w:World) (K:Fg) (mg:Mq) (base:Heap) (A:Around) (outer:List Env) (s:Shared) (H:Hp):Prop where
 frames:A.frames=some outer
 mod:Mod K mg base
 bs:∀b o,base.get? b=some o->s.heap.get? b=some o/\H b=none
 bsz:base.objs.size<=s.heap.objs.size
 zy:s.heap.FunFrames base outer
 frf:∀b∈frs outer,H b=none
 hok:HOk P w H s.heap
 bare:AllBare s.gens
noncomputable def CE (outer:List Env) (P:Program) (w:World) (H:Hp) (s:Shared) (Q:VK) (u:Value) (s':Shared):Prop:=
 ∃v H',s'.os=s.os/\AllBare s'.gens/\Un (frs outer) [] H H' s.heap s'.heap/\HOk P w H' s'.heap/\RelV v u/\Q v H'
noncomputable def CR (CX:CXT) (outer:List Env) (P:Program) (w:World) (H:Hp) (s:Shared) (Q:VK) (E:XK) (r:Result) (s':Shared):Prop:=
 match r with
 |.ok (.ret u)=>CE outer P w H s Q u s'
 |.ok _=>False
 |.error e=>CX outer H s E e s'
structure iJ (P:Program) (w:World) (K:Fg) (mg:Mq) (base:Heap) (CX:CXT) (k:Nat) (f:Addr) (fd:FuncData) (ps:List Str) (sp:Sp):Prop where
 len:∀vs H Q E,sp vs H Q E->vs.length=ps.length
 run:∀(A:Around) (outer:List Env) (s:Shared) (H:Hp) (args:Args) (us:List Value) (vs:List V) (Q:VK) (E:XK),ip k A->Env0 P w K mg base A outer s H->BindsTo s fd args (ps.zip us)->Vals vs us->sp vs H Q E ->
  codeAny (model P w) A (.call (.ref f) args) (CR CX outer P w H s Q E) s
theorem Env0.make {base:Heap} (e:Env0 P w K mg base A outer s H) (C:Addr) (us:List Value) (kw:List (Str×Value)) :
  Env0 P w K mg base (A.under (.builtin "type.__call__" ⟨.ref C::us,kw⟩)) outer s H:=⟨by first|exact e.frames|(simpa [Around.under,Code.envs,Code.isFrame,pushEnvs] using e.frames),e.mod,e.bs,e.bsz,e.zy,e.frf,e.hok,e.bare⟩
section
theorem Inv.env0 (I:Inv X pins σ H s):Env0 X.prog X.w X.K X.mg X.base X.A X.stack s H:=
 ⟨I.ok.frames,I.ok.mod,I.bs,Nat.le_trans I.ok.bsz I.sz,I.stack,I.zO,I.hok,I.bare⟩
theorem Inv.after {Q:VK} (I:Inv X pins σ H s) (h:CE X.stack X.prog X.w H s Q u s'):EP X pins σ Q u s':=by
 obtain ⟨v,H',os,bare,un,hok,r,q⟩:=h;obtain ⟨hh,g,d,t,os'⟩:=s';obtain rfl:os'=s.os:=os;exact ⟨v,H',I.call (h':=hh) (g':=g) (d':=d) (t':=t) (ch:=[]) un hok bare (fun b z=>absurd z (by simp)),r,q⟩
end
noncomputable def gr (sp:Sp) (dvs:List V) (E:XK) (t:TA):TE:=fun σ H Q=>t σ H fun vs H1=>sp (vs++dvs) H1 Q E
noncomputable def tMeth (C:Addr) (m:Str) (sp:Sp) (dvs:List V) (E:XK) (ta:TE) (t:TA):TE:=fun σ H Q=>ta σ H fun x H1=>∃a dx fs,x=.ref a/\H1 a=some (.ins C dx fs)/\fs.lookup m=none /\
 t σ H1 fun vs H2=>sp (x::(vs++dvs)) H2 Q E
noncomputable def tMake (C:Addr) (sp:Sp) (dvs:List V) (E:XK) (t:TA):TE:=fun σ H Q=>t σ H fun vs H1=>∀x dx,H1 x=none->H1 dx=none->dx≠x ->
 sp (.ref x::(vs++dvs)) (upd (upd H1 dx (.own x)) x (.ins C dx [])) (fun v H2=>v=.non/\Q (.ref x) H2) E
noncomputable def Binds (K:Fg) (fd:FuncData) (ps:List Str) (ds:List Value):Prop:=
 ∀(s:Shared) (us:List Value),K.In s.heap->(us++ds).length=ps.length->BindsTo s fd ⟨us,[]⟩ (ps.zip (us++ds))
theorem Binds.all (h:∀us:List Value,us.length=ps.length->bindArgs fd ⟨us,[]⟩=pure (ps.zip us)):Binds K fd ps []:=fun s us _ hl=>by
 rw [List.append_nil] at hl ⊢;exact .of_eq (h us hl)
noncomputable def Passes (CX:CXT) (X:Cx) (E:XK):Prop:=∀(pins:Pn) (σ:St) (H:Hp) (s:Shared) (e:Value) (s':Shared),Inv X pins σ H s->CX X.stack H s E e s'->X.xe e s'
section
variable {f:Addr} {dvs:List V} {ds:List Value} {E:XK} {apos:Pos} {o:Expr} 
theorem zZ {Q:VK} (F:iJ X.prog X.w X.K X.mg X.base CX k f fd ps sp) (hr:ip k X.A) (hb:Binds X.K fd ps ds) (hd:Vals dvs ds) (hx:Passes CX X E)
  (I:Inv X pins σ H s) (r:Vals vs us) (h:sp (vs++dvs) H Q E):wpAny (model X.prog X.w) X.A (call (.ref f) us) (EP X pins σ Q) X.xe s:=by
 have r2:Vals (vs++dvs) (us++ds):=r.append hd;have hl:(us++ds).length=ps.length:=by rw [<- r2.length];exact F.len _ _ _ _ h
 refine wpAny_call (codeAny_mono (F.run X.A X.stack s H ⟨us,[]⟩ (us++ds) (vs++dvs) Q E hr I.env0 (hb s us I.kIn hl) r2 h) fun r s' hq=>?_);cases r with
 |error e=>exact hx pins σ H s e s' I hq
 |ok fl=>
  cases fl with
  |ret u=>exact I.after hq
  |next=>exact False.elim hq
  |brk=>exact False.elim hq
  |cont=>exact False.elim hq
theorem nW (F:iJ X.prog X.w X.K X.mg X.base CX k f fd ps sp) (hr:ip k X.A) (hg:Gl X x) (hm:X.mg x=some (.ref f)) (hk:keepIn X.K (.ref f)=true) (hb:Binds X.K fd ps ds) (hd:Vals dvs ds) (hx:Passes CX X E)
  (ha:PA X (e::es) t) (hdb:(x==("__debug__":Str))=false:=by decide) (he:starEach (e::es) X.env=(false,eval e X.env)::starEach es X.env:=by rfl) (hpl:(backTo pos (starEach es X.env)).any (·.1)=false:=by rfl) :
  PE X (.Call (.Name x p) (e::es) [] pos) (gr sp dvs E t):=by
 intro pins s σ H Q I h;refine wpAny_Call_Name_kw (om I hg hm ?_ hdb);refine callWith_K (h₀:=X.base) I.ok.mod.kin hk (thn (ha pos pins s σ H _ I h) fun us s1 ⟨vs,H1,I1,r,q⟩=>⟨I1.kIn,?_⟩) he hpl;exact zZ F hr hb hd hx I1 r q
theorem pe_meth0 (he:PE X o ta) (c:Cls X.K C) (hm:Meth X.K C m f) (F:iJ X.prog X.w X.K X.mg X.base CX k f fd ps sp) (hr:ip k X.A) (hb:Binds X.K fd ps ds) (hd:Vals dvs ds) (hx:Passes CX X E)
  (ht:eval (.Call (.Attribute o m apos) [] [] pos) X.env=(do
   let ov <- eval o X.env
   standAt apos.atName
   let (f,first) <- holding [ov] (getMethod ov m pl)
   callWith pos f first (backTo pos (starEach [] X.env)) (backToKw pos (keywordEach [] X.env))):=by rfl) :
  PE X (.Call (.Attribute o m apos) [] [] pos) (tMeth C m sp dvs E ta fU):=by
 intro pins s σ H Q I h;refine PySem.W.methodCall_KW (pl:=pl) (thn (he pins s σ H _ I h) fun u s1 ⟨x,H1,I1,rx,a,dx,fs,ex,ea,l,q⟩=>?_) ht;subst ex;obtain rfl:u=Value.ref a:=rx;refine yU I1 ea c hm l ?_;exact PySem.W.callWith_K0 (first:=[.ref a]) I1.kIn hm.kp (zZ (us:=[.ref a]) (vs:=[.ref a]) F hr hb hd hx I1 (.cons rfl .nil) q)
structure Mk (K:Fg) (C f:Addr):Prop where
 makes:makesIn K C=true
 init:findIn K (.ref C) "__init__"=some (some (.ref f))
 fn:isFn K (.ref f)=true
 kp:keepIn K (.ref C)=true
theorem xm {Q:VK} (M:Mk X.K C f) (F:iJ X.prog X.w X.K X.mg X.base CX k f fd ps sp) (hr:ip (k+1) X.A) (hb:Binds X.K fd ps ds) (hd:Vals dvs ds)
  (hx:Passes CX X E) (I:Inv X pins σ H s) (r:Vals vs us)
  (h:∀x dx,H x=none->H dx=none->dx≠x->sp (.ref x::(vs++dvs)) (upd (upd H dx (.own x)) x (.ins C dx [])) (fun v H2=>v=.non/\Q (.ref x) H2) E) :
  wpAny (model X.prog X.w) X.A (call (.ref C) us) (EP X pins σ Q) X.xe s:=by
 have hq:=h (s.heap.objs.size+1) s.heap.objs.size (I.hok.fresh (Nat.le_succ _)) (I.hok.fresh (Nat.le_refl _)) (Nat.ne_of_lt (Nat.lt_succ_self _));have I2:=Inv.made (C:=C) I;have r2:Vals (V.ref (s.heap.objs.size+1)::(vs++dvs)) (Value.ref (s.heap.objs.size+1)::(us++ds)):=.cons rfl (r.append hd);have hl:(Value.ref (s.heap.objs.size+1)::us++ds).length=ps.length:=by
  have e:=r2.length;rw [F.len _ _ _ _ hq] at e;exact e.symm
 refine wpAny_call (make_map (f:=f) I.kIn M.makes M.init (beq_iff_eq.mp M.fn) (codeAny_mono (F.run _ X.stack _ _ ⟨Value.ref (s.heap.objs.size+1)::us,[]⟩ (Value.ref (s.heap.objs.size+1)::(us++ds)) _ _ E (hr.make C us [])
  (I2.env0.make C us []) (hb _ (Value.ref (s.heap.objs.size+1)::us) I2.kIn hl) r2 hq) fun r s' hq'=>?_))
 cases r with
 |error e=>exact hx pins σ _ _ e s' I2 hq'
 |ok fl=>
  cases fl with
  |ret u=>
   obtain ⟨v,H',I3,rv,ev,q3⟩:=I2.after hq';subst ev;exact ⟨rv,⟨V.ref (s.heap.objs.size+1),H',I3,rfl,q3⟩⟩
  |next=>exact False.elim hq'
  |brk=>exact False.elim hq'
  |cont=>exact False.elim hq'
theorem vP (M:Mk X.K C f) (F:iJ X.prog X.w X.K X.mg X.base CX k f fd ps sp) (hr:ip (k+1) X.A) (hg:Gl X x) (hm:X.mg x=some (.ref C)) (hb:Binds X.K fd ps ds) (hd:Vals dvs ds) (hx:Passes CX X E)
  (ha:PA X (e::es) t) (hdb:(x==("__debug__":Str))=false:=by decide) (he:starEach (e::es) X.env=(false,eval e X.env)::starEach es X.env:=by rfl) (hpl:(backTo pos (starEach es X.env)).any (·.1)=false:=by rfl) :
  PE X (.Call (.Name x p) (e::es) [] pos) (tMake C sp dvs E t):=by
 intro pins s σ H Q I h;refine wpAny_Call_Name_kw (om I hg hm ?_ hdb);refine callWith_K (h₀:=X.base) I.ok.mod.kin M.kp (thn (ha pos pins s σ H _ I h) fun us s1 ⟨vs,H1,I1,r,q⟩=>⟨I1.kIn,?_⟩) he hpl;exact xm M F hr hb hd hx I1 r q
theorem pe_make0 (M:Mk X.K C f) (F:iJ X.prog X.w X.K X.mg X.base CX k f fd ps sp) (hr:ip (k+1) X.A) (hg:Gl X x) (hm:X.mg x=some (.ref C)) (hb:Binds X.K fd ps ds) (hd:Vals dvs ds) (hx:Passes CX X E)
  (hdb:(x==("__debug__":Str))=false:=by decide):PE X (.Call (.Name x p) [] [] pos) (tMake C sp dvs E fU):=by
 intro pins s σ H Q I h;refine wpAny_Call_Name_kw (om I hg hm ?_ hdb);exact PySem.W.callWith_K0 I.kIn M.kp (xm (us:=[]) M F hr hb hd hx I .nil h)
end
structure gQ (N P:List Str) (sc:Scope):Prop where
 kind:sc.kind=.function
 co:sc.isCoroutine=false
 gen:sc.isGenerator=false
 nd:N.Nodup
 pre:N.take P.length=P
 par:∀x∈P,sc.names.lookup x=some .local\/sc.names.lookup x=some .cell
 nofree:∀y∈sc.names,y.2≠.free
theorem v7 {kindOf:Str->Option NameKind} {x:Str}:∀{binds:List (Str×Value)} {m:Mq},(∀v,(x,v)∉binds)->bindL kindOf binds m x=m x
 |[],_,_=>rfl
 |(n,v)::r,m,h=>by
  unfold bindL;rw [v7 fun w hw=>h w (List.mem_cons_of_mem _ hw)];split
  ·have:x≠n:=by rintro rfl;exact h v List.mem_cons_self
   simp [this]
  ·rfl
theorem v9 {kindOf:Str->Option NameKind} {x:Str}:∀{binds:List (Str×Value)} {m:Mq},(∀v,(x,v)∉binds)->bindC kindOf binds m x=m x
 |[],_,_=>rfl
 |(n,v)::r,m,h=>by
  unfold bindC;rw [v9 fun w hw=>h w (List.mem_cons_of_mem _ hw)];split
  ·rfl
  ·have:x≠n:=by rintro rfl;exact h v List.mem_cons_self
   simp [this]
theorem v8 {kindOf:Str->Option NameKind} {x:Str} {v:Value}:∀{P:List Str} {vs:List Value} {i:Nat} {m:Mq},P.Nodup->P[i]? =some x->vs[i]? =some v->kindOf x=some .local ->
  bindL kindOf (P.zip vs) m x=some v
 |[],_,_,_,_,h,_,_=>by simp at h
 |_::_,[],_,_,_,_,h,_=>by simp at h
 |p::P,w::vs,0,m,nd,h1,h2,hk=>by
  simp at h1 h2;subst h1;subst h2;show bindL kindOf ((p,w)::P.zip vs) m p=_;unfold bindL;rw [v7 fun v hv=>(List.nodup_cons.mp nd).1 (List.of_mem_zip hv).1,if_pos hk];simp
 |p::P,w::vs,i+1,m,nd,h1,h2,hk=>by
  show bindL kindOf ((p,w)::P.zip vs) m x=_;unfold bindL;exact v8 (i:=i) (List.nodup_cons.mp nd).2 (by simpa using h1) (by simpa using h2) hk
theorem vb {kindOf:Str->Option NameKind} {x:Str} {v:Value}:∀{P:List Str} {vs:List Value} {i:Nat} {m:Mq},P.Nodup->P[i]? =some x->vs[i]? =some v->kindOf x≠some .local ->
  bindC kindOf (P.zip vs) m x=some v
 |[],_,_,_,_,h,_,_=>by simp at h
 |_::_,[],_,_,_,_,h,_=>by simp at h
 |p::P,w::vs,0,m,nd,h1,h2,hk=>by
  simp at h1 h2;subst h1;subst h2;show bindC kindOf ((p,w)::P.zip vs) m p=_;unfold bindC;rw [v9 fun v hv=>(List.nodup_cons.mp nd).1 (List.of_mem_zip hv).1,if_neg hk];simp
 |p::P,w::vs,i+1,m,nd,h1,h2,hk=>by
  show bindC kindOf ((p,w)::P.zip vs) m x=_;unfold bindC;exact vb (i:=i) (List.nodup_cons.mp nd).2 (by simpa using h1) (by simpa using h2) hk
noncomputable def start (N:List Str) (vs:List V):St:=vs.map some++List.replicate (N.length-vs.length) none
noncomputable def cxOf (CX:CXT) (P:Program) (w:World) (K:Fg) (mg:Mq) (base:Heap) (N:List Str) (qual:Str) (scope:Scope) (f:Addr) (cd:Value) (A:Around) (outer:List Env) (s:Shared) (H:Hp) (E:XK):Cx where
 prog:=P
 w:=w
 K:=K
 mg:=mg
 base:=base
 A:=A.deeper (envOfC qual scope s.heap.objs.size f cd)
 N:=N
 s₀:=s
 H₀:=H
 env:=envOfC qual scope s.heap.objs.size f cd
 outer:=outer
 stack:=envOfC qual scope s.heap.objs.size f cd::outer
 ex:=[]
 calm:=true
 fn:=fun _=>true
 pn:=[]
 xe:=fun e s'=>wpAny (model P w) (A.deeper (envOfC qual scope s.heap.objs.size f cd)) (leaving (envOfC qual scope s.heap.objs.size f cd) e) (fun _ s''=>CX outer H s E e s'') (fun e' s''=>CX outer H s E e' s'') s'
theorem xY {sc:Scope} (h:sc.names.lookup x=some .cell):∃c,(cellsFrom n sc.names []).lookup x=some c:=by
 have q:=PySem.W.cellsFrom_some sc.names n [] (.inl h);exact Option.isSome_iff_exists.mp q
theorem AU {base:Heap} {f:Addr} {cd:Value} {s1:Shared} {E:XK} 
  (S:gQ N ps scope) (hd:A.handled=none) (e0:Env0 P w K mg base A outer s H) (hl:vs.length=ps.length) (r:Vals vs us)
  (x:InCallC s s.heap.objs.size (bindL (envOfC qual scope s.heap.objs.size f cd).kindOf (ps.zip us) fun _=>none) (cellsFrom (s.heap.objs.size+1) scope.names []) (bindC (envOfC qual scope s.heap.objs.size f cd).kindOf (ps.zip us) fun _=>none) s1) :
  Inv (cxOf CX P w K mg base N qual scope f cd A outer s H E) [] (start N vs) H s1:=by
 have hpl:ps.length<=N.length:=by have:=congrArg List.length S.pre;rw [List.length_take] at this;omega
 obtain ⟨h1,tk,rfl,hk⟩:=x.done;have noA:∀b:Addr,b∉(cxOf CX P w K mg base N qual scope f cd A outer s H E).ex:=fun b z=>absurd (show b∈([]:List Addr) from z) (by simp);refine ⟨⟨e0.mod,S.kind,rfl,rfl,Nat.le_refl _,fun y z c h1 h2=>?_,fun y hy=>?_,fun y c _ h=>?_,fun _=>hd,Around.frames_deeper e0.frames,.inr ⟨rfl,rfl⟩,fun b z=>absurd z (noA b),e0.bs,e0.bsz,fun b _ _=>noA b,fun b z=>absurd z (noA b),e0.zy,e0.frf⟩,
  rfl,e0.bare,Un.kept hk,⟨_,x.toInCall.ns,fun i y v h1 h2 h3=>?_⟩,fun y c h=>⟨_,x.cell y c h⟩,e0.hok.fresh (Nat.le_refl _),fun y c h=>?_,fun p hp=>absurd (show p∈([]:Pn) from hp) (by simp),e0.hok.kept hk,?_⟩
 ·exact name_of_addr x.apart (PySem.mem_of_lookup h1) (PySem.mem_of_lookup h2)
 ·have hy:scope.names.lookup y=some .cell\/scope.names.lookup y=some .free:=hy;rcases hy with hy|hy
  ·exact xY hy
  ·exact absurd rfl (S.nofree _ (PySem.mem_of_lookup hy))
 ·exact Nat.le_of_lt (x.above y c (PySem.mem_of_lookup h))
 ·have hi:i<vs.length:=by
   unfold start at h2;by_cases hi:i<vs.length
   ·exact hi
   ·rw [List.getElem?_append_right (by simpa using hi)] at h2;rw [List.getElem?_replicate] at h2;split at h2<;>cases h2
  have ha:vs[i]? =some v:=by
   unfold start at h2;rw [List.getElem?_append_left (by simpa using hi),List.getElem?_map] at h2;cases e:vs[i]? with
   |none=>rw [e] at h2;cases h2
   |some a=>rw [e] at h2;cases h2;rfl
  obtain ⟨u,hu,rv⟩:=r.get ha;have hp:ps[i]? =some y:=by
   rw [<- S.pre,List.getElem?_take_of_lt (by omega)];exact h1
  have ndP:ps.Nodup:=by rw [<- S.pre];exact S.nd.sublist (List.take_sublist _ _)
  refine ⟨u,rv,?_⟩
  rcases S.par y (List.mem_of_getElem? hp) with k|k
  ·exact .inl ⟨k,v8 ndP hp hu k⟩
  ·obtain ⟨c,e⟩:=xY (n:=s.heap.objs.size+1) k;refine .inr ⟨.inl k,c,e,?_⟩;have q:=x.cell y c e;rw [vb ndP hp hu (by show scope.names.lookup y≠_;rw [k];decide)] at q;exact q
 ·exact e0.hok.fresh (Nat.le_of_lt (x.above y c (PySem.mem_of_lookup h)))
 ·unfold start;show _=N.length;rw [List.length_append,List.length_map,List.length_replicate];omega
theorem fn_of {base:Heap} {f:Addr} {params:Arguments} {dV kV doc pm cdv ct oc:Value} {an od:Option Addr}
  {osl:Array (Option Value)} (lk:K.lookup f=some ⟨oc,od,.func (fnOf name qual params body scope dV kV doc pm an cdv ct),osl⟩) (hcd:codeIn K cdv qual=true) (S:gQ N ps scope)
  (len:∀vs H Q E,sp vs H Q E->vs.length=ps.length)
  (hbody:∀(A:Around) (outer:List Env) (s:Shared) (H:Hp) (vs:List V) (Q:VK) (E:XK),ip k (A.deeper (envOfC qual scope s.heap.objs.size f cdv))->sp vs H Q E ->
   ∃t,PSs (cxOf CX P w K mg base N qual scope f cdv A outer s H E) body t/\t {nx:=fun _ H'=>Q .non H',rt:=Q} (start N vs) H) :
  iJ P w K mg base CX (k+1) f (fnOf name qual params body scope dV kV doc pm an cdv ct) ps sp:=by
 refine ⟨len,fun A outer s H args us vs Q E hr e0 hb r hsp=>?_⟩
 have hl:=len _ _ _ _ hsp;have KX:K.In s.heap:=e0.mod.kin.keeps fun b o e=>(e0.bs b o e).1;have lim:s.heap.NoLimit:=e0.mod.nolimit.keeps fun b o e=>(e0.bs b o e).1;have hkind:∀y∈ps.zip us,scope.names.lookup y.1=some .local\/(scope.names.lookup y.1=some .cell/\((cellsFrom (s.heap.objs.size+1) scope.names []).lookup y.1).isSome=true):=fun ⟨n,v⟩ hy=>by
  rcases S.par n (List.of_mem_zip hy).1 with q|q
  ·exact .inl q
  ·exact .inr ⟨q,PySem.W.cellsFrom_some _ _ _ (.inl q)⟩
 refine codeAny_call_function hr.depth (KX _ _ lk) rfl S.co S.gen rfl (PySem.W.codeRec_of KX hcd) (hb _ _ _ _ ?_);refine wpAny_newFunctionEnv_cells S.kind hkind fun env he s1 x=>?_;subst he;refine ⟨lim.keeps x.toInCall.keep,codeAny_func ?_⟩
 obtain ⟨t,ht,hq⟩:=hbody A outer s H vs Q E (hr.deeper _) hsp;have I:Inv (cxOf CX P w K mg base N qual scope f cdv A outer s H E) [] (start N vs) H s1:=AU S hr.hd e0 hl r x;refine wpAny_mono (ht [] s1 (start N vs) H _ I hq) (fun fl s' hs=>?_) fun e s' hs=>hs;have fin:∀{σ':St} {H':Hp} {v:V} {u:Value},Inv (cxOf CX P w K mg base N qual scope f cdv A outer s H E) [] σ' H' s'->RelV v u->Q v H'->CE outer P w H s Q u s':=
  fun {σ' H' v u} J rv q=>⟨v,H',J.os,J.bare,J.base,J.hok,rv,q⟩
 cases fl with
 |ret u=>
  obtain ⟨v,σ',H',J,rv,q⟩:=hs;exact fin J rv q
 |next=>
  obtain ⟨σ',H',J,q⟩:=hs;exact fin (v:=V.non) (u:=Value.none) J rfl q
 |brk=>
  obtain ⟨_,_,_,q⟩:=hs;exact False.elim q
 |cont=>
  obtain ⟨_,_,_,q⟩:=hs;exact False.elim q
section
variable {id T:String} {r:List V->Hp->VK->Prop}
noncomputable def tCB (r:List V->Hp->VK->Prop) (t:TA):TE:=fun σ H Q=>t σ H fun vs H1=>r vs H1 Q
theorem ki (hc:iq X (.builtin id) r) (hg:Gl X x) (hm:X.mg x=none) (hv:bootBuiltins x=some (.builtin id)) (ha:PA X (e::es) t) (hn:x≠"__name__":=by decide) (hdb:(x==("__debug__":Str))=false:=by decide)
  (he:starEach (e::es) X.env=(false,eval e X.env)::starEach es X.env:=by rfl) (hpl:(backTo pos (starEach es X.env)).any (·.1)=false:=by rfl):PE X (.Call (.Name x p) (e::es) [] pos) (tCB r t):=by
 intro pins s σ H Q I h;refine wpAny_Call_Name_kw (qI I hg hm hv ?_ hn hdb);exact PyProof.Rows.callWith_builtin1 (thn (ha pos pins s σ H _ I h) fun us s1 ⟨vs,H1,I1,r1,q1⟩=>hc pins s1 σ H1 vs us Q I1 r1 q1) he hpl
theorem iM (hc:iq X (.type T) r) (hg:Gl X x) (hm:X.mg x=none) (hv:bootBuiltins x=some (.type T)) (ha:PA X (e::es) t) (hn:x≠"__name__":=by decide) (hdb:(x==("__debug__":Str))=false:=by decide)
  (he:starEach (e::es) X.env=(false,eval e X.env)::starEach es X.env:=by rfl) (hpl:(backTo pos (starEach es X.env)).any (·.1)=false:=by rfl):PE X (.Call (.Name x p) (e::es) [] pos) (tCB r t):=by
 intro pins s σ H Q I h;refine wpAny_Call_Name_kw (qI I hg hm hv ?_ hn hdb);exact PyProof.Rows.callWith_type1 (thn (ha pos pins s σ H _ I h) fun us s1 ⟨vs,H1,I1,r1,q1⟩=>hc pins s1 σ H1 vs us Q I1 r1 q1) he hpl
end
end L2
namespace HT
open PySem PyProof.Rows
section
open PySem.SeqAt
open PySem.AutoSeq1 (wpAny_loadPart')
open PySem.MeetsSeq PySem.MeetsSeq2 PySem.MeetsSeq3
end
section
variable {prog:Program} {w:World} {A:Around} {E:Vp} {s:Shared}
theorem cat_tup {t b:Addr} {vs ws:List Value} {Q:Vp} (ht:IsTup s.heap t vs.toArray) (hb:IsTup s.heap b ws.toArray) (hv:vs≠[])
  (h1:ws=[]->Q (.ref t) s) (h2:ws≠[]->Q (.ref s.heap.objs.size) {s with heap:=s.heap.push {cls:=.type "tuple",data:=.seq (vs++ws).toArray}})
  (hsz:vs.length+ws.length<=sizeLine):wpAny (model prog w) A (binaryOp .Add (.ref t) (.ref b)) Q E s:=by
 obtain ⟨⟨cls,dd,data,sl⟩,ho,hc,n,hd⟩:=id ht;obtain ⟨⟨cls2,dd2,data2,sl2⟩,ho2,hc2,n2,hd2⟩:=id hb;simp only at hc hd hc2 hd2;subst hc hd hc2 hd2;have e:vs.toArray++ws.toArray=(vs++ws).toArray:=by simp
 by_cases hw:ws=[]
 ·exact concat_meets ⟨_,ho,rfl⟩ ⟨_,ho2,rfl⟩ noFill_tuple_add seq_tuple_add PySem.F.slot_tuple_add PySem.F.entry_tuple_add (PySem.F.args_tuple_add_2 _ _)
   (tuple_addW1 t b vs.toArray ws.toArray n n2 dd dd2 sl sl2 (by simpa using hv) (by simp [hw])) ⟨ho,ho2,h1 hw⟩
 ·refine concat_meets ⟨_,ho,rfl⟩ ⟨_,ho2,rfl⟩ noFill_tuple_add seq_tuple_add PySem.F.slot_tuple_add PySem.F.entry_tuple_add (PySem.F.args_tuple_add_2 _ _)
   (tuple_addW2 t b vs.toArray ws.toArray n n2 dd dd2 sl sl2 (by simpa using hv) (by simpa using hw) (by rw [List.size_toArray,List.size_toArray];exact hsz)) ⟨ho,ho2,?_⟩
  rw [e];exact h2 hw
noncomputable def sIx (n d:Nat):Option Int->Nat
 |none=>d
 |some v=>if v<0 then (v+(n:Int)).toNat else min v.toNat n
theorem sIx_le (n d:Nat) (hd:d<=n) (o:Option Int):sIx n d o<=n:=by
 cases o with
 |none=>exact hd
 |some v=>
  show (if v<0 then (v+(n:Int)).toNat else min v.toNat n)<=n;by_cases hv:v<0
  ·rw [if_pos hv];omega
  ·rw [if_neg hv];exact Nat.min_le_right _ _
theorem Bv (v:Int) (n d:Nat):(if v<0 then max (v+(n:Int)) 0 else min v (n:Int))=((sIx n d (some v):Nat):Int):=by
 show (if v<0 then max (v+(n:Int)) 0 else min v (n:Int))=(((if v<0 then (v+(n:Int)).toNat else min v.toNat n):Nat):Int)
 by_cases hv:v<0
 ·simp only [if_pos hv];omega
 ·simp only [if_neg hv];omega
theorem zu (lo hi:Option Int) (n:Nat):Builtin.Slice.sliceAdjust lo hi 1 (n:Int)=(((sIx n 0 lo:Nat):Int),((sIx n n hi:Nat):Int)):=by
 have h1:¬((1:Int)<0):=by omega
 unfold Builtin.Slice.sliceAdjust;simp only [h1,if_false];refine Prod.ext ?_ ?_
 ·cases lo with
  |none=>rfl
  |some v=>exact Bv v n 0
 ·cases hi with
  |none=>rfl
  |some v=>exact Bv v n n
theorem yK (i j:Nat):Builtin.Slice.slicePlaces (i:Int) (j:Int) 1=j-i:=by
 unfold Builtin.Slice.slicePlaces;have h1:(1:Int)>0:=by omega
 simp only [h1,if_true,Int.ediv_one];split<;>omega
theorem qz {v:Value} {o:Option Int} {Q:Option Int->Shared->Prop} (p:IsPart v o) (h:Q o s):wpAny (model prog w) A (Builtin.Slice.slicePartIndex v) Q E s:=by
 cases p with
 |none=>exact slicePart_none h
 |int i t=>exact slicePart_int h
theorem mN {sl:Addr} {vl vu:Value} {lo hi:Option Int} {n:Nat} {Q:Int×Int×Nat->Shared->Prop} (hs:s.heap.IsSliceOf sl vl vu .none) (pl:IsPart vl lo) (pu:IsPart vu hi)
  (h:Q (((sIx n 0 lo:Nat):Int),1,sIx n n hi-sIx n 0 lo) s):wpAny (model prog w) A (Builtin.Slice.sliceApplied (.ref sl) (pure (n:Int))) Q E s:=by
 obtain ⟨os,hos,hcs,hds⟩:=id hs;unfold Builtin.Slice.sliceApplied Builtin.Slice.sliceFields;refine wpAny_bind (wpAny_bind (wpAny_field hos hds (x:=vl) rfl (wpAny_bind (wpAny_field hos hds (x:=vu) rfl (wpAny_bind (wpAny_field hos hds (x:=.none) rfl (wpAny_pure ?_)))))));refine wpAny_bind (slicePart_none ?_);show wpAny _ _ (if ((1:Int)==0)=true then _ else _) _ _ s;rw [if_neg (by decide)];refine wpAny_bind (qz pl (wpAny_bind (qz pu (wpAny_bind (wpAny_pure ?_)))));show wpAny _ _ (match Builtin.Slice.sliceAdjust lo hi 1 (n:Int) with|(lo,hi)=>pure (lo,(1:Int),Builtin.Slice.slicePlaces lo hi 1)) _ _ s;rw [zu lo hi n];show wpAny _ _ (pure (((sIx n 0 lo:Nat):Int),(1:Int),Builtin.Slice.slicePlaces ((sIx n 0 lo:Nat):Int) ((sIx n n hi:Nat):Int) 1)) _ _ s;rw [yK];exact wpAny_pure h
theorem pick_gen (xs:Array Value) (i k:Nat):((List.range k).filterMap fun (m:Nat)=>xs[((i:Int)+(m:Int)*1).toNat]?).toArray=((xs.toList.drop i).take k).toArray:=by
 have e:(fun (m:Nat)=>xs[((i:Int)+(m:Int)*1).toNat]?)=fun m=>xs[i+m]?:=by
  funext m
  have:((i:Int)+(m:Int)*1).toNat=i+m:=by omega
  rw [this]
 rw [e];have:=pick_run xs i k;rw [List.filterMap_map] at this;have e2:((fun x=>xs[x]?)∘fun x=>i+x)=fun m=>xs[i+m]?:=rfl;rw [e2] at this;rw [this]
theorem lP {t sl:Addr} {items:Array Value} {vl vu:Value} {lo hi:Option Int} {Q:Vp} (ht:IsTup s.heap t items) (hs:s.heap.IsSliceOf sl vl vu .none) (pl:IsPart vl lo) (pu:IsPart vu hi)
  (hw:¬(sIx items.size 0 lo=0/\sIx items.size items.size hi=items.size))
  (h:Q (.ref s.heap.objs.size) {s with heap:=s.heap.push {cls:=.type "tuple",data:=.seq ((items.toList.drop (sIx items.size 0 lo)).take (sIx items.size items.size hi-sIx items.size 0 lo)).toArray}})
  (hsz:items.size<=sizeLine):wpAny (model prog w) A (getItem (.ref t) (.ref sl)) Q E s:=by
 have htake:sizeOk (.seq ((items.toList.drop (sIx items.size 0 lo)).take (sIx items.size items.size hi-sIx items.size 0 lo)).toArray):=by
  show ((items.toList.drop (sIx items.size 0 lo)).take (sIx items.size items.size hi-sIx items.size 0 lo)).toArray.size<=sizeLine;rw [List.size_toArray,List.length_take,List.length_drop,Array.length_toList];omega
 have hj:sIx items.size items.size hi<=items.size:=sIx_le _ _ (Nat.le_refl _) hi;obtain ⟨os,hos,hcs,hds⟩:=id hs;have hTs:s.TypeIs (.ref sl) "slice":=⟨os,hos,hcs⟩
 unfold getItem
 try with_reducible refine wpAny_holding ?_
 first|refine wpAny_bind (wpAny_pure ?_)|skip
 refine wpAny_bind (wpAny_sequenceKey ht.typeIs (by decide) ?_);refine wpAny_bind (wpAny_callSpecial?_slot (name:=Str.ofString "__getitem__") ht.typeIs PyProof.Rows.slot_tuple_getitem
  (wpAny_call_entry PyProof.Rows.slot_tuple_getitem ht.typeIs entry_tuple_getitem ?_ (args_tuple_getitem _ _)))
 show wpAny _ _ (Builtin.Tuple.tupleItemsOf (.ref t) >>= _) _ _ s;refine wpAny_bind (tupleItemsOf_ ht ?_);refine wpAny_bind (wpAny_typeOf hTs ?_);rw [if_pos (by decide)];refine wpAny_bind (mN hs pl pu ?_);have hno:¬((((sIx items.size 0 lo:Nat):Int)==0&&(1:Int)==1&&(sIx items.size items.size hi-sIx items.size 0 lo)==items.size)=true):=by
  intro q;rw [Bool.and_eq_true,Bool.and_eq_true] at q;have q1:((sIx items.size 0 lo:Nat):Int)=0:=eq_of_beq q.1.1;have q2:sIx items.size items.size hi-sIx items.size 0 lo=items.size:=eq_of_beq q.2;exact hw ⟨by omega,by omega⟩
 show wpAny _ _ (if (((sIx items.size 0 lo:Nat):Int)==0&&(1:Int)==1&&(sIx items.size items.size hi-sIx items.size 0 lo)==items.size)=true then _ else _) _ _ s;rw [if_neg hno,pick_gen]
 first
  |exact wpAny_bind (m:=Builtin.Tuple.tupleExact _) (wpAny_newObj_type (wpAny_pure ⟨_,rfl,wpAny_pure h⟩) htake)
  |exact wpAny_bind (m:=Builtin.Tuple.tupleExact _) (wpAny_newObj_type (wpAny_bind (wpAny_pure (wpAny_pure ⟨_,rfl,wpAny_pure h⟩))) htake)
  |exact wpAny_bind (wpAny_bind (m:=Builtin.Tuple.tupleExact _) (wpAny_newObj_type (wpAny_pure (wpAny_pure ⟨_,rfl,wpAny_pure h⟩)) htake))
  |exact wpAny_bind (wpAny_bind (m:=Builtin.Tuple.tupleExact _) (wpAny_newObj_type (wpAny_pure ⟨_,rfl,wpAny_pure h⟩) htake))
end
end HT
namespace L2
open PySem PySem.Spec PyProof.Rows
variable {X:Cx} {e:Expr} {pos:Pos} {r:V->Option Int->Option Int->Hp->VK->Prop} {xs:List V} {α:Type} {n:Nat} {i:Int} {pins:Pn} {σ:St} {H:Hp} {s:Shared} {T:String} {its:List Value}
noncomputable abbrev TO:=St->Hp->(Option Int->Hp->Prop)->Prop
noncomputable def PO (X:Cx) (e:Option Expr) (t:TO):Prop:=
 ∀(pins:Pn) (s:Shared) (σ:St) (H:Hp) (Q:Option Int->Hp->Prop),Inv X pins σ H s->t σ H Q ->
  wpAny (model X.prog X.w) X.A (evalPart e X.env) (fun u s'=>∃o H',Inv X pins σ H' s'/\IsPart u o/\Q o H') X.xe s
noncomputable def tNoPart:TO:=fun _ H Q=>Q none H
noncomputable def tPart (t:TE):TO:=fun σ H Q=>t σ H fun x H1=>∃i,x=.int i/\Q (some i) H1
theorem intsAre_of {ns:List Int}:∀{us:List Value},Vals (ns.map V.int) us->IntsAre us ns:=by
 induction ns with
 |nil=>intro us r;rw [List.map_nil] at r;cases r;exact .nil
 |cons n ns ih=>
  intro us r;rw [List.map_cons] at r;cases r with
  |cons r1 r2=>
   obtain ⟨t,e⟩:=r1;subst e;exact .cons n t (ih r2)
section
variable {te:TE} {lo hi:Option Expr} {tl th:TO} {p2:Pos}
theorem po_none:PO X none tNoPart:=by
 intro pins s σ H Q I h;rw [evalPart_none];exact wpAny_pure ⟨none,H,I,.none,h⟩
theorem po_some (h:PE X e te):PO X (some e) (tPart te):=by
 intro pins s σ H Q I hw;rw [evalPart_some];refine thn (h pins s σ H _ I hw) fun u s1 ⟨x,H1,I1,r1,q1⟩=>?_;obtain ⟨i,rfl,q⟩:=q1;obtain ⟨t,rfl⟩:=r1;exact ⟨some i,H1,I1,.int i t,q⟩
noncomputable def SlR (X:Cx) (r:V->Option Int->Option Int->Hp->VK->Prop):Prop:=
 ∀(pins:Pn) (s:Shared) (σ:St) (H:Hp) (x:V) (v vl vu:Value) (lo hi:Option Int) (sl:Addr) (Q:VK),Inv X pins σ H s->RelV x v->s.heap.IsSliceOf sl vl vu .none->IsPart vl lo->IsPart vu hi->r x lo hi H Q ->
  ∃T id,typeLookup (.type T) "__getitem__"=pure (some (.builtin id))/\s.TypeIs v T/\wpAny (model X.prog X.w) X.A (getItem v (.ref sl)) (EP X pins σ Q) X.xe s
theorem SlR.or {r':V->Option Int->Option Int->Hp->VK->Prop} (h:SlR X r) (h':SlR X r'):SlR X (fun x lo hi H Q=>r x lo hi H Q\/r' x lo hi H Q):=by
 intro pins s σ H x v vl vu lo hi sl Q I rx hs pl pu q;rcases q with q|q
 ·exact h pins s σ H x v vl vu lo hi sl Q I rx hs pl pu q
 ·exact h' pins s σ H x v vl vu lo hi sl Q I rx hs pl pu q
noncomputable def tSl (r:V->Option Int->Option Int->Hp->VK->Prop) (te:TE) (tl th:TO):TE:=fun σ H Q=>te σ H fun x H1=>tl σ H1 fun l H2=>th σ H2 fun u H3=>r x l u H3 Q
theorem pe_slice (hr:SlR X r) (he:PE X e te) (hl:PO X lo tl) (hu:PO X hi th):PE X (.Subscript e (.Slice lo hi none p2) pos) (tSl r te tl th):=by
 intro pins s σ H Q I h;refine Subscript_ (thn (he pins s σ H _ I h) fun v s1 ⟨x,H1,I1,r1,q1⟩=>?_);refine wpAny_Slice (thn (hl pins s1 σ H1 _ I1 q1) fun vl s2 ⟨l,H2,I2,pl,q2⟩=>thn (hu pins s2 σ H2 _ I2 q2) fun vu s3 ⟨u,H3,I3,pu,q3⟩=>?_);rw [evalPart_none];refine wpAny_pure ?_;have I4:Inv X pins σ H3 {s3 with heap:=s3.heap.push {cls:=.type "slice",data:=.fields #[vl,vu,.none]}}:=I3.kept (t':=s3.toks) fun b ob q=>Heap.get?_push_of_some _ q;obtain ⟨T,id,hT,ht,hg⟩:=hr pins {s3 with heap:=s3.heap.push {cls:=.type "slice",data:=.fields #[vl,vu,.none]}} σ H3 x v vl vu l u s3.heap.objs.size Q I4 r1 (Heap.IsSliceOf.new ..) pl pu q3;show wpAny (model X.prog X.w) X.A (subscriptTail e (.Slice lo hi none p2) v (.ref s3.heap.objs.size)) (EP X pins σ Q) X.xe {s3 with heap:=s3.heap.push {cls:=.type "slice",data:=.fields #[vl,vu,.none]}};exact tail_any (ops:=[.ref s3.heap.objs.size,v]) ht hT hg (by with_unfolding_all rfl)
noncomputable def cutV (xs:List V) (lo hi:Option Int):List V:=(xs.drop (HT.sIx xs.length 0 lo)).take (HT.sIx xs.length xs.length hi-HT.sIx xs.length 0 lo)
theorem pH (xs:List V) (lo hi:Option Int):(cutV xs lo hi).length<=xs.length:=by
 unfold cutV;rw [List.length_take,List.length_drop];omega
noncomputable def rSlT (K:Fg):V->Option Int->Option Int->Hp->VK->Prop:=fun x lo hi H Q=>∃a xs,x=.ref a/\SqT K H a xs /\
 ¬(HT.sIx xs.length 0 lo=0/\HT.sIx xs.length xs.length hi=xs.length)/\∀p,H p=none->Q (.ref p) (upd H p (.tup (cutV xs lo hi)))
theorem sl_tup:SlR X (rSlT X.K):=by
 intro pins s σ H x v vl vu lo hi sl Q I rx hs pl pu h;obtain ⟨a,xs,rfl,hx,hw,q⟩:=h;cases rx;obtain ⟨its,r,ht,hz⟩:=I.tuple hx;have hlen:its.toArray.size=xs.length:=by rw [List.size_toArray];exact r.length.symm
 refine ⟨"tuple",_,PyProof.Rows.slot_tuple_getitem.lookup,ht.typeIs,?_⟩
 refine HT.lP ht hs pl pu (by rw [hlen];exact hw) ?_ (by rw [hlen];exact hz);rw [hlen];refine ⟨.ref s.heap.objs.size,_,I.laid (t':=s.toks) (o:=.tup (cutV xs lo hi)) (fun b ob q=>Heap.get?_push_of_some _ q) (Nat.le_refl _) ?_,rfl,q _ (I.hok.fresh (Nat.le_refl _))⟩
 exact ⟨Nat.le_trans (pH xs lo hi) hz,_,(r.drop (HT.sIx xs.length 0 lo)).take (HT.sIx xs.length xs.length hi-HT.sIx xs.length 0 lo),IsTup.new _ _⟩
noncomputable def rCatT (K:Fg):R2:=fun x y H Q=>∃a b xs ys,x=.ref a/\y=.ref b/\SqT K H a xs/\SqT K H b ys/\xs≠[]/\xs.length+ys.length<=sizeLine /\
 (ys=[]->Q (.ref a) H)/\(ys≠[]->∀p,H p=none->Q (.ref p) (upd H p (.tup (xs++ys))))
theorem Vals.vX {us:List Value} (r:Vals xs us):us=[]↔xs=[]:=by
 cases r with
 |nil=>simp
 |cons _ _=>simp
theorem op_catT:OpR X (binaryOp .Add) (rCatT X.K):=by
 intro pins s σ H x y v u Q I rx ry h;obtain ⟨a,b,xs,ys,rfl,rfl,ha,hb,hx,hz,q1,q2⟩:=h;cases rx;cases ry;obtain ⟨its,r1,p1,_⟩:=I.tuple ha;obtain ⟨its2,r2,p2,_⟩:=I.tuple hb;refine HT.cat_tup p1 p2 (fun z=>hx (r1.vX.mp z)) (fun z=>⟨.ref a,H,I,rfl,q1 (r2.vX.mp z)⟩) (fun z=>?_) (by rw [<- r1.length,<- r2.length];exact hz);refine ⟨.ref s.heap.objs.size,_,I.laid (t':=s.toks) (o:=.tup (xs++ys)) (fun b ob q=>Heap.get?_push_of_some _ q) (Nat.le_refl _) ?_,rfl,q2 (fun w=>z (r2.vX.mpr w)) _ (I.hok.fresh (Nat.le_refl _))⟩
 exact ⟨by rw [List.length_append];exact hz,_,r1.append r2,IsTup.new _ _⟩
end
noncomputable def ixN (n:Nat) (i:Int):Option Nat:=if 0<=i then (if i<n then some i.toNat else none) else if -(n:Int)<=i then some (i+n).toNat else none
noncomputable def atI (xs:List α) (i:Int):Option α:=(ixN xs.length i).bind fun j=>xs[j]?
theorem we {j:Nat} (h:ixN n i=some j):seqIndex? i n=some j/\j<n/\ -(n:Int)<=i/\i<n:=by
 unfold ixN at h;by_cases h0:0<=i
 ·rw [if_pos h0] at h;by_cases h1:i<n
  ·rw [if_pos h1] at h;have e:i.toNat=j:=Option.some.inj h;exact ⟨by rw [seqIndex_of h0 h1,e],by omega,by omega,h1⟩
  ·rw [if_neg h1] at h;cases h
 ·rw [if_neg h0] at h;by_cases h1: -(n:Int)<=i
  ·rw [if_pos h1] at h;have e:(i+n).toNat=j:=Option.some.inj h;exact ⟨by rw [seqIndex_neg (by omega) h1,e],by omega,h1,by omega⟩
  ·rw [if_neg h1] at h;cases h
theorem wW {xs:List α} {v:α} (h:atI xs i=some v):∃j,seqIndex? i xs.length=some j/\xs[j]? =some v/\j<xs.length/\ -(xs.length:Int)<=i/\i<xs.length:=by
 unfold atI at h;cases e:ixN xs.length i with
 |none=>rw [e] at h;cases h
 |some j=>
  rw [e] at h;obtain ⟨h1,h2,h3,h4⟩:=we e;exact ⟨j,h1,h,h2,h3,h4⟩
noncomputable def BG (b:Expr):Prop:=∀o i,subscripted b false o i=operate [o,i] (getItem o i)
noncomputable def IxR (X:Cx) (r:R2):Prop:=
 ∀(value slice:Expr) (pins:Pn) (s:Shared) (σ:St) (H:Hp) (x y:V) (v u:Value) (Q:VK),Inv X pins σ H s->RelV x v->RelV y u->r x y H Q ->
  subscripted slice false v u=operate [v,u] (getItem v u)->wpAny (model X.prog X.w) X.A (subscriptTail value slice v u) (EP X pins σ Q) X.xe s
noncomputable def MtR (X:Cx) (id:String) (r:V->List V->Hp->VK->Prop):Prop:=
 ∀(pins:Pn) (s:Shared) (σ:St) (H:Hp) (x:V) (xs:List V) (v:Value) (us:List Value) (Q:VK),Inv X pins σ H s->RelV x v->Vals xs us->r x xs H Q ->
  wpAny (model X.prog X.w) X.A (call (.builtin id) (v::us)) (EP X pins σ Q) X.xe s
section
variable {a b:Expr} {ta tb:TE} 
theorem IxR.or {r r':R2} (h:IxR X r) (h':IxR X r'):IxR X (fun x y H Q=>r x y H Q\/r' x y H Q):=by
 intro value slice pins s σ H x y v u Q I rx ry q hs;rcases q with q|q
 ·exact h value slice pins s σ H x y v u Q I rx ry q hs
 ·exact h' value slice pins s σ H x y v u Q I rx ry q hs
theorem pe_ix {r:R2} (hr:IxR X r) (ha:PE X a ta) (hb:PE X b tb) (hs:BG b):PE X (.Subscript a b pos) (tOp r ta tb):=by
 intro pins s σ H Q I h;exact Subscript_ (binT ha hb I h fun v u s2 x y H2 I2 rx ry q=>hr a b pins s2 σ H2 x y v u Q I2 rx ry q (hs _ _))
noncomputable def rIxL (K:Fg):R2:=fun x y H Q=>∃p xs i v,x=.ref p/\y=.int i/\SqL K H p xs/\atI xs i=some v/\Q v H
noncomputable def rIxT (K:Fg):R2:=fun x y H Q=>∃p xs i v,x=.ref p/\y=.int i/\SqT K H p xs/\atI xs i=some v/\Q v H
noncomputable def rIxS:R2:=fun x y H Q=>∃z i c,x=.str z/\y=.int i/\z.length<=sizeLine/\atI z.cps.toList i=some c/\Q (.str ⟨#[c]⟩) H
theorem ix_list:IxR X (rIxL X.K):=by
 intro value slice pins s σ H x y v u Q I rx ry h hs;obtain ⟨p,xs,i,z,rfl,rfl,hq,he,q⟩:=h;cases rx;obtain ⟨t,rfl⟩:=ry;obtain ⟨its,r,pl,hz⟩:=I.list hq;obtain ⟨j,h1,h2,h3,h4,h5⟩:=wW he;obtain ⟨w,ew,rw'⟩:=r.get h2;have hl:=r.length;have hn:=qH;have fin:EP X pins σ Q w s:=⟨z,H,I,rw',q⟩
 by_cases h0:0<=i
 ·have hj:i.toNat=j:=by
   rw [seqIndex_of h0 h5] at h1;exact Option.some.inj h1
  exact item_listR pl.isList h0 (by omega) (by rw [hj];simpa using ew) fin hs
 ·have hj:(i+(its.toArray.size:Int)).toNat=j:=by
   rw [seqIndex_neg (by omega) h4] at h1;rw [List.size_toArray,<- hl];exact Option.some.inj h1
  exact subscriptTail_builtinR (x:=w) pl.isList.typeIs slot_list_getitem.lookup
   (wpAny_getItem_list_neg (Q:=fun r s'=>r=w/\EP X pins σ Q r s') pl.isList (by omega) (by rw [List.size_toArray]<;>omega) (by omega) (by rw [hj];simpa using ew) ⟨rfl,fin⟩) hs
theorem ix_tup:IxR X (rIxT X.K):=by
 intro value slice pins s σ H x y v u Q I rx ry h hs;obtain ⟨p,xs,i,z,rfl,rfl,hq,he,q⟩:=h;cases rx;obtain ⟨t,rfl⟩:=ry;obtain ⟨its,r,pl,hz⟩:=I.tuple hq;obtain ⟨j,h1,h2,h3,h4,h5⟩:=wW he;obtain ⟨w,ew,rw'⟩:=r.get h2;have hl:=r.length;have hn:=qH;have fin:EP X pins σ Q w s:=⟨z,H,I,rw',q⟩
 exact subscriptTail_builtinR (x:=w) pl.typeIs slot_tuple_getitem.lookup
  (getItem_tuple (j:=j) (Q:=fun r s'=>r=w/\EP X pins σ Q r s') pl (by omega) (by omega) (by rw [List.size_toArray,<- hl];exact h1) (by simpa using ew) ⟨rfl,fin⟩) hs
theorem ix_str:IxR X rIxS:=by
 intro value slice pins s σ H x y v u Q I rx ry h hs;obtain ⟨z,i,c,rfl,rfl,hz,he,q⟩:=h;obtain ⟨t,rfl⟩:=rx;obtain ⟨t',rfl⟩:=ry;obtain ⟨j,h1,h2,h3,h4,h5⟩:=wW he;have hl:z.cps.toList.length=z.length:=by simp [Str.length]
 rw [hl] at h1 h4 h5;have hn:=qH;exact tail_any (typeIs_str s z t) slot_str_getitem.lookup (getItem_str (c:=c) (by
  have e1:decide (i< -(2^63:Int))=false:=decide_eq_false (by omega);have e2:decide (i>=2^63)=false:=decide_eq_false (by omega);rw [e1,e2,Bool.or_false]) (by rw [h1];simpa using h2) ⟨.str ⟨#[c]⟩,H,I.tok _,⟨_,rfl⟩,q⟩) hs
noncomputable def rIx (K:Fg):R2:=fun x y H Q=>rIxL K x y H Q\/rIxT K x y H Q\/rIxS x y H Q
theorem ix_seq:IxR X (rIx X.K):=ix_list.or (ix_tup.or ix_str)
theorem tH (lo hi:Option Int) (n:Nat):(sliceBounds lo hi none n).1=((HT.sIx n 0 lo:Nat):Int)/\(sliceBounds lo hi none n).2.1=((HT.sIx n n hi:Nat):Int)/\(sliceBounds lo hi none n).2.2=1:=by
 refine ⟨?_,?_,rfl⟩
 ·cases lo with
  |none=>simp [sliceBounds,HT.sIx]
  |some i=>
   simp only [sliceBounds,HT.sIx,Option.getD_none,show (1:Int)>0 by decide,if_true];by_cases h:i<0
   ·simp only [h,if_true]<;>omega
   ·simp only [h,if_false]<;>omega
 ·cases hi with
  |none=>simp [sliceBounds,HT.sIx]
  |some i=>
   simp only [sliceBounds,HT.sIx,Option.getD_none,show (1:Int)>0 by decide,if_true];by_cases h:i<0
   ·simp only [h,if_true]<;>omega
   ·simp only [h,if_false]<;>omega
theorem rH (its:List Value) (lo hi:Option Int):slicePick its.toArray lo hi none=((its.drop (HT.sIx its.length 0 lo)).take (HT.sIx its.length its.length hi-HT.sIx its.length 0 lo)).toArray:=by
 obtain ⟨h1,h2,h3⟩:=tH lo hi its.toArray.size;unfold slicePick;rw [h1,h2,h3];simp only [sliceRange_one,pick_run,List.size_toArray]<;>rfl
noncomputable def rSlL (K:Fg):V->Option Int->Option Int->Hp->VK->Prop:=fun x lo hi H Q=>∃a xs,x=.ref a/\SqL K H a xs/\∀p,H p=none->Q (.ref p) (upd H p (.lst (cutV xs lo hi)))
theorem sl_list:SlR X (rSlL X.K):=by
 intro pins s σ H x v vl vu lo hi sl Q I rx hs pl pu h;obtain ⟨a,xs,rfl,hx,q⟩:=h;cases rx;obtain ⟨its,r,ht,hz⟩:=I.list hx;have hlen:=r.length;refine ⟨"list",_,slot_list_getitem.lookup,ht.isList.typeIs,?_⟩
 refine wpAny_getItem_list_slice ht.isList hs pl pu .none (by simp) ?_ (by rw [List.size_toArray]<;>omega);rw [rH,<- hlen];refine ⟨.ref s.heap.objs.size,_,I.laid (t':=s.toks) (o:=.lst (cutV xs lo hi)) (fun b ob q=>Heap.get?_push_of_some _ q) (Nat.le_refl _) ?_,rfl,q _ (I.hok.fresh (Nat.le_refl _))⟩
 exact ⟨Nat.le_trans (pH xs lo hi) hz,_,0,(r.drop (HT.sIx xs.length 0 lo)).take (HT.sIx xs.length xs.length hi-HT.sIx xs.length 0 lo),Heap.get?_push_size _ rfl⟩
noncomputable def flatV:V->Bool
 |.non=>true
 |.bl _=>true
 |.int _=>true
 |.str _=>true
 |_=>false
theorem j5:iq X (.builtin "len") (fun xs H Q=>∃p ys,xs=[.ref p]/\(SqL X.K H p ys\/SqT X.K H p ys)/\Q (.int ys.length) H):=by
 intro pins s σ H xs us Q I r h;obtain ⟨p,ys,rfl,hq,q⟩:=h;obtain ⟨u,rfl,rx⟩:=vals1 r;cases rx;have hn:=qH;rcases hq with hq|hq
 ·obtain ⟨its,r',pl,hz⟩:=I.list hq;have hlen:=r'.length;exact Calls.call_len_list pl.isList (by simp only [List.size_toArray]<;>omega) ⟨.int ys.length,H,I.tok _,⟨s.toks+1,by rw [List.size_toArray,hlen]⟩,q⟩
 ·obtain ⟨its,r',pl,hz⟩:=I.tuple hq;have hlen:=r'.length;exact len_tuple pl (by simp only [List.size_toArray]<;>omega) ⟨.int ys.length,H,I.tok _,⟨s.toks+1,by rw [List.size_toArray,hlen]⟩,q⟩
theorem uZ:iq X (.builtin "len") (fun xs H Q=>∃z,xs=[.str z]/\z.length<=sizeLine/\Q (.int z.length) H):=by
 intro pins s σ H xs us Q I r h;obtain ⟨z,rfl,hz,q⟩:=h;obtain ⟨u,rfl,t,rfl⟩:=vals1 r;have hn:=qH;exact len_str (by omega) ⟨.int z.length,H,I.tok _,⟨_,rfl⟩,q⟩
theorem eQ:iq X (.type "list") (fun xs H Q=>∃p ys,xs=[.ref p]/\(SqL X.K H p ys\/SqT X.K H p ys)/\∀l,H l=none->Q (.ref l) (upd H l (.lst ys))):=by
 intro pins s σ H xs us Q I r h;obtain ⟨p,ys,rfl,hq,q⟩:=h;obtain ⟨u,rfl,rx⟩:=vals1 r;cases rx;have fin:∀(its:List Value),Vals ys its->ys.length<=sizeLine->∀(h':Heap) (c':Nat),(∀b o',s.heap.get? b=some o'->h'.get? b=some o') ->
   h'.get? s.heap.objs.size=some {cls:=.type "list",dict:=none,data:=.seq its.toArray c',slots:=#[]}->EP X pins σ Q (.ref s.heap.objs.size) {s with heap:=h'}:=fun its r' hz h' c' kp e=>
  ⟨.ref s.heap.objs.size,_,I.laid (t':=s.toks) kp (Nat.le_refl _) (show gn X.prog X.w _ h' _ (.lst ys) from ⟨hz,its,c',r',e⟩),rfl,q _ (I.hok.fresh (Nat.le_refl _))⟩
 rcases hq with hq|hq
 ·obtain ⟨its,r',pl,hz⟩:=I.list hq;have hlen:=r'.length;obtain ⟨o,ho,hc,n,hd⟩:=pl.isList;exact call_list_seq p (.inl rfl) ho hc hd (fun h' c' kp e=>fin its r' hz h' c' kp e) (by simp only [List.size_toArray]<;>omega)
 ·obtain ⟨its,r',pl,hz⟩:=I.tuple hq;have hlen:=r'.length;obtain ⟨o,ho,hc,n,hd⟩:=pl;exact call_list_seq p (.inr rfl) ho hc hd (fun h' c' kp e=>fin its r' hz h' c' kp e) (by simp only [List.size_toArray]<;>omega)
noncomputable def tyV (K:Fg) (T:String) (x:V) (H:Hp):Prop:=match x with
 |.str _=>T="str"
 |.int _=>T="int"
 |.ref p=>(T="list"/\∃xs,SqL K H p xs)\/(T="tuple"/\∃o,K.lookup p=some o/\o.cls=.type "tuple"/\o.dict=none) \/
   (T="dict"/\((∃kvs,H p=some (.dK kvs))\/∃kvs,H p=some (.dT kvs)))\/(T="set"/\∃S n,H p=some (.set S n))
 |_=>False
theorem tyV_is {x:V} {v:Value} (I:Inv X pins σ H s) (r:RelV x v) (ty:tyV X.K T x H) :
  s.TypeIs v T/\∀a,v=.ref a->∃ob,s.heap.get? a=some ob/\ob.dict=none:=by
 cases x with
 |str z=>
  obtain ⟨t,rfl⟩:=r;cases (show T="str" from ty);exact ⟨typeIs_str s z t,fun _ e=>nomatch e⟩
 |int i=>
  obtain ⟨t,rfl⟩:=r;cases (show T="int" from ty);exact ⟨typeIs_int s i t,fun _ e=>nomatch e⟩
 |ref p=>
  cases r;rcases ty with ⟨rfl,xs,hq⟩|⟨rfl,o,hk,hc,hd⟩|⟨rfl,hk⟩|⟨rfl,S,n,hk⟩
  ·obtain ⟨its,_,pl,_⟩:=I.list hq;refine ⟨pl.isList.typeIs,fun a e=>?_⟩
   cases e;obtain ⟨o,n,e,c,hd,_⟩:=pl;exact ⟨o,e,hd⟩
  ·refine ⟨⟨o,I.kIn p o hk,hc⟩,fun a e=>?_⟩
   cases e;exact ⟨o,I.kIn _ o hk,hd⟩
  ·have z:∃o,s.heap.get? p=some o/\o.ExactDict:=by
    rcases hk with ⟨kvs,hk⟩|⟨kvs,hk⟩
    ·obtain ⟨_,_,_,_,o,_,_,e,ex,_⟩:=I.hok p _ hk;exact ⟨o,e,ex⟩
    ·obtain ⟨_,_,_,_,o,_,_,e,ex,_⟩:=I.hok p _ hk;exact ⟨o,e,ex⟩
   obtain ⟨o,e,ex⟩:=z;refine ⟨⟨o,e,ex.1⟩,fun a e2=>?_⟩
   cases e2;exact ⟨o,e,ex.2.1⟩
  ·obtain ⟨o,_,_,_,e,ex,_⟩:=I.hok p _ hk;refine ⟨⟨o,e,ex.1⟩,fun a e2=>?_⟩
   cases e2;exact ⟨o,e,ex.2.1⟩
 |_=>exact False.elim ty
noncomputable def tBM0 (K:Fg) (T:String) (r:V->List V->Hp->VK->Prop) (to:TE):TE:=fun σ H Q=>to σ H fun x H1=>tyV K T x H1/\r x [] H1 Q
noncomputable def tBM (K:Fg) (T:String) (r:V->List V->Hp->VK->Prop) (to:TE) (t:TA):TE:=fun σ H Q=>to σ H fun x H1=>tyV K T x H1/\t σ H1 fun xs H2=>r x xs H2 Q
variable {o:Expr} {es:List Expr} {to:TE} {t:TA} {name:Str} {apos cpos:Pos} {id:String} {r:V->List V->Hp->VK->Prop}
theorem pe_bm0 (pa:PlainAttrs T) (slot:Slot T name id) (hty:typeOf (.builtin id)=pure (.type "method_descriptor")) (hm:MtR X id r) (ho:PE X o to)
  (hbase:attributeBase o name X.env (eval o X.env)=eval o X.env:=by rfl) (hline:(apos.endLine==cpos.line)=true:=by rfl):PE X (.Call (.Attribute o name apos) [] [] cpos) (tBM0 X.K T r to):=by
 intro pins s σ H Q I h;refine wpAny_Call_method0_late hbase hline (thn (ho pins s σ H _ I h) fun v s1 ⟨x,H1,I1,r1,ty,q1⟩=>?_);obtain ⟨h1,h2⟩:=tyV_is I1 r1 ty;exact ⟨T,id,pa,slot,hty,h1,h2,Calls.callWith_builtin rfl (PySem.evalArgs_none (hm pins s1 σ H1 x [] v [] Q I1 r1 .nil q1))⟩
theorem qc (pa:PlainAttrs T) (slot:Slot T name id) (hty:typeOf (.builtin id)=pure (.type "method_descriptor")) (hm:MtR X id r) (ho:PE X o to) (ha:PA X (e::es) t)
  (hbase:attributeBase o name X.env (eval o X.env)=eval o X.env:=by rfl)
  (hfew:((backTo cpos (starEach (e::es) X.env)).all (fun x=> !x.1)&&(backToKw cpos (keywordEach [] X.env)).all (fun x=>x.1.isSome)
   &&decide ((e::es).length+([]:List Keyword).length+(if ([]:List Keyword).isEmpty then 0 else 1)<30))=true:=by rfl)
  (hline:(apos.endLine==cpos.line)=true:=by rfl) (hs:starEach (e::es) X.env=(false,eval e X.env)::starEach es X.env:=by rfl) (hplain:(backTo cpos (starEach es X.env)).any (·.1)=false:=by rfl) :
  PE X (.Call (.Attribute o name apos) (e::es) [] cpos) (tBM X.K T r to t):=by
 intro pins s σ H Q I h;refine wpAny_Call_method_late hbase hfew hline rfl (thn (ho pins s σ H _ I h) fun v s1 ⟨x,H1,I1,r1,ty,q1⟩=>?_);obtain ⟨h1,h2⟩:=tyV_is I1 r1 ty;refine ⟨T,id,pa,slot,hty,h1,h2,?_⟩
 have hA:=ha cpos pins s1 σ H1 _ I1 q1;rw [hs] at hA ⊢;refine Calls.callWith_builtin (by show (false||(backTo cpos (starEach es X.env)).any (·.1))=false;rw [hplain]<;>rfl) (Calls.evalArgs_plain ?_);exact thn hA fun us s2 ⟨vs,H2,I2,r2,q2⟩=>hm pins s2 σ H2 x vs v us Q I2 r1 r2 q2
/- xs.append(e),list.index on a module's tuple .. are MtR facts of 06m -/
end
noncomputable def MtM (X:Cx) (id:String) (r:V->List V->Hp->VK->Prop):Prop:=
 ∀(pins:Pn) (s:Shared) (σ:St) (H:Hp) (x:V) (xs:List V) (v:Value) (us:List Value) (Q:VK),Inv X pins σ H s->RelV x v->Vals xs us->r x xs H Q ->
  wpAny (model X.prog X.w) X.A (call (.builtin id) (v::us)) (EP X pins σ Q) X.xe s
theorem Vals.one:∀{x:V} {us:List Value},Vals [x] us->∃u,us=[u]/\RelV x u
 |_,_,.cons r .nil=>⟨_,rfl,r⟩
theorem Vals.two:∀{x y:V} {us:List Value},Vals [x,y] us->∃u v,us=[u,v]/\RelV x u/\RelV y v
 |_,_,_,.cons r (.cons q .nil)=>⟨_,_,rfl,r,q⟩
theorem Vals.zero:∀{us:List Value},Vals [] us->us=[]
 |_,.nil=>rfl
theorem Vals.dropLast {xs:List V} {us:List Value} (h:Vals xs us):Vals xs.dropLast us.dropLast:=by
 induction h with
 |nil=>exact .nil
 |cons r t ih=>
  cases t with
  |nil=>exact .nil
  |cons q t'=>exact .cons r ih
theorem Vals.eraseIdx:∀{xs:List V} {us:List Value} (i:Nat),Vals xs us->Vals (xs.eraseIdx i) (us.eraseIdx i)
 |_,_,_,.nil=>.nil
 |_,_,0,.cons _ t=>t
 |_,_,i+1,.cons r t=>.cons r (Vals.eraseIdx i t)
theorem ur {α:Type}:∀(l:List α) (i:Nat),(l.eraseIdx i).length<=l.length
 |[],_=>Nat.le_refl _
 |_::_,0=>Nat.le_succ _
 |_::r,i+1=>Nat.succ_le_succ (ur r i)
section
variable {l:Addr} {ys:List V}
theorem Inv.lset {its':List Value} {f:Array Value->Array Value} {t':Nat} (I:Inv X pins σ H s) (hH:H l=some (.lst xs))
  (e:s.heap.get? l=some {cls:=.type "list",data:=.seq its.toArray n}) (hf:f its.toArray=its'.toArray) (hv:Vals ys its') (hz:ys.length<=sizeLine) :
  Inv X pins σ (upd H l (.lst ys)) {s with heap:=s.heap.update l (Obj.mapSeq f),toks:=t'}:=by
 have q:=PySem.IsL.update e f;rw [hf] at q;refine I.write (x:=l) (e:=l) (by rw [hH];exact trivial) (.inl rfl) (fun b' u hb hu=>(Heap.get?_update_other s.heap (Obj.mapSeq f) (Ne.symm hb)).trans hu) ⟨_,q⟩ ?_;exact ⟨hz,its',_,hv,q⟩
theorem Inv.lnew {t':Nat} (I:Inv X pins σ H s) (hv:Vals ys its) (hz:ys.length<=sizeLine) :
  Inv X pins σ (upd H s.heap.objs.size (.lst ys)) {s with heap:=s.heap.push {cls:=.type "list",data:=.seq its.toArray},toks:=t'}:=
 I.laid (fun _ _ q=>Heap.get?_push_of_some _ q) (Nat.le_refl _) ⟨hz,its,0,hv,Heap.get?_push_size _ rfl⟩
theorem Inv.fresh (I:Inv X pins σ H s):H s.heap.objs.size=none:=I.hok.fresh (Nat.le_refl _)
theorem Inv.lstM (I:Inv X pins σ H s) (hH:H l=some (.lst xs)):xs.length<=sizeLine/\∃(its:List Value) (n:Nat),Vals xs its/\xs.length=its.length/\s.heap.get? l=some {cls:=.type "list",data:=.seq its.toArray n}:=by
 obtain ⟨z,its,n,r,e⟩:=I.hok l _ hH;exact ⟨z,its,n,r,r.length,e⟩
theorem notLongL (h:n<=sizeLine):Builtin.List.listTooLong n=false:=by
 unfold Builtin.List.listTooLong;exact decide_eq_false (by omega)
end
section
noncomputable def jL:V->List V->Hp->VK->Prop:=fun x vs H Q=>∃l xs y,x=.ref l/\vs=[y]/\H l=some (.lst xs)/\xs.length<sizeLine/\Q .non (upd H l (.lst (xs++[y])))
theorem iP:MtM X "list.append" jL:=by
 intro pins s σ H x vs v us Q I rx rv h;obtain ⟨l,xs,y,rfl,rfl,hH,hz,q⟩:=h;cases rx;obtain ⟨u,rfl,ru⟩:=rv.one;obtain ⟨z,its,n,r,hl,e⟩:=I.lstM hH;refine call_meets F.slot_list_append ⟨_,e,rfl⟩ F.entry_list_append (F.args_list_append_2 _ _) (PySem.list_append l its.toArray n u (by rw [List.size_toArray];omega)) ⟨e,?_⟩;refine ⟨.non,_,I.lset (its':=its++[u]) hH e (by simp) (r.append (.cons ru .nil)) ?_,rfl,q⟩
 rw [List.length_append,List.length_singleton];omega
noncomputable def Aa:V->List V->Hp->VK->Prop:=fun x vs H Q=>∃l b xs zs,x=.ref l/\vs=[.ref b]/\H l=some (.lst xs)/\H b=some (.lst zs)/\xs.length+zs.length<=sizeLine/\Q .non (upd H l (.lst (xs++zs)))
theorem AB:MtM X "list.extend" Aa:=by
 intro pins s σ H x vs v us Q I rx rv h;obtain ⟨l,b,xs,zs,rfl,rfl,hH,hB,hz,q⟩:=h;cases rx;obtain ⟨u,rfl,ru⟩:=rv.one;cases ru;obtain ⟨z,its,n,r,hl,e⟩:=I.lstM hH;obtain ⟨z2,its2,n2,r2,hl2,e2⟩:=I.lstM hB;have hsz:its.toArray.size+its2.toArray.size<=sizeLine:=by rw [List.size_toArray,List.size_toArray];omega
 have hlong:¬(!its.toArray.isEmpty&&Builtin.List.listTooLong (its.toArray.size+its2.toArray.size))=true:=by
  rw [notLongL hsz,Bool.and_false];exact Bool.false_ne_true
 refine call_meets F.slot_list_extend ⟨_,e,rfl⟩ F.entry_list_extend (F.args_list_extend_2 _ _)
  (AutoSeq1.list_extend_list_list_0 l its.toArray n b its2.toArray n2 hlong (by rw [List.size_toArray];omega) (by omega)) ⟨e,e2,?_⟩
 refine ⟨.non,_,I.lset (its':=its++its2) hH e (by simp) (r.append r2) ?_,rfl,q⟩
 rw [List.length_append];omega
noncomputable def A9:V->List V->Hp->VK->Prop:=fun x vs H Q=>∃l xs i k y,x=.ref l/\vs=[.int i]/\H l=some (.lst xs)/\ -(2^63)<=i/\i<2^63/\seqIndex? i xs.length=some k/\xs[k]? =some y/\Q y (upd H l (.lst (xs.eraseIdx k)))
theorem xC:MtM X "list.pop" A9:=by
 intro pins s σ H x vs v us Q I rx rv h;obtain ⟨l,xs,i,k,y,rfl,rfl,hH,h1,h2,hk,hy,q⟩:=h;cases rx;obtain ⟨u,rfl,ru⟩:=rv.one;obtain ⟨t,rfl⟩:=ru;obtain ⟨z,its,n,r,hl,e⟩:=I.lstM hH;obtain ⟨w,hw,rw'⟩:=r.get hy;refine call_meets F.slot_list_pop ⟨_,e,rfl⟩ F.entry_list_pop (F.args_list_pop_2 _ _)
  (MeetsSeq.list_pop_at l its.toArray n i t k w (fitsIndex_both h1 h2) (by rw [List.size_toArray,<- hl];exact hk) (by rw [<- Array.getElem?_toList];exact hw) (by rw [List.size_toArray];omega)) ⟨e,?_⟩
 refine ⟨y,_,I.lset (its':=its.eraseIdx k) hH e ?_ (r.eraseIdx k) ?_,rw',q⟩
 ·show its.toArray.eraseIdxIfInBounds k=(its.eraseIdx k).toArray;rw [List.eraseIdxIfInBounds_toArray]
 ·have:=ur xs k;omega
noncomputable def u0:V->List V->Hp->VK->Prop:=fun x vs H Q=>∃l xs,x=.ref l/\vs=[]/\H l=some (.lst xs)/\Q .non (upd H l (.lst []))
theorem xD:MtM X "list.clear" u0:=by
 intro pins s σ H x vs v us Q I rx rv h;obtain ⟨l,xs,rfl,rfl,hH,q⟩:=h;cases rx;have hus:=rv.zero;subst hus;obtain ⟨z,its,n,r,hl,e⟩:=I.lstM hH;refine call_meets F.slot_list_clear ⟨_,e,rfl⟩ F.entry_list_clear (F.args_list_clear_1 _) (AutoSeq1.list_clear_list_0 l its.toArray n (by rw [List.size_toArray];omega)) ⟨e,?_⟩;exact ⟨.non,_,I.lset (its':=[]) (ys:=[]) hH e rfl .nil (Nat.zero_le _),rfl,q⟩
end
end L2
namespace Att
open PySem PySem.W PySem.Calls PyProof.Rows
theorem oE {P:Params} {h:Heap}:∀(ns:List Int) (vs:List Value),WellAll P h vs (ns.map WData.int)->IntsAre vs ns:=by
 intro ns
 induction ns with
 |nil=>
  intro vs w;rw [List.map_nil] at w;cases w;exact .nil
 |cons n ns ih=>
  intro vs w;rw [List.map_cons] at w;cases w with
  |cons a b=>
   cases a;exact .cons _ _ (ih _ b)
theorem zT {l:OpenLaw} {n:Nat} (hn:l.most=some n) {P:Params} {h:Heap} {args:List WData} {vals:List Value}
  (hpre:l.row.toRowW.claim.pre args=true) (hwl:WellAll P h vals args) :
  ∃a vs ns,vals=[Value.ref a]/\args=[WData.list (ns.map WData.int)]/\h.get? a=some {cls:=.type "list",data:=.seq vs.toArray}/\IntsAre vs ns/\ns.length<=n:=by
 have hsh:WShape.hasAll [] args [.list .int]=true:=(pre_splitW hpre).1;have hc:l.pre.holds [] {args:=args}=true:=(pre_splitW hpre).2;obtain ⟨d,r,rfl,h1,h2⟩:=hasAllW_cons hsh;obtain rfl:=hasAllW_nil h2;obtain ⟨xs,rfl,h3⟩:=hasW_list h1;obtain ⟨ns,rfl⟩:=items_int h3;have hlen:ns.length<=n:=by
  unfold OpenLaw.pre at hc;have h4:(WTm.not (.lt (.lit (.int (n:Int))) (.len (.arg 0)))).holds [] {args:=[.list (ns.map .int)]}=true:=by
   have h4:=(holds_andW hc).1;rw [hn] at h4;exact h4
  have h5:=condW_of h4 (w_not (w_lt w_lit (w_len_list (w_arg rfl))));rw [List.length_map] at h5;refine Nat.le_of_not_lt fun q=>?_;have q':(n:Int)<((ns.length:Nat):Int):=by omega
  first
   |(rw [decide_eq_true q'] at h5;exact absurd h5 (by decide))
   |(simp at h5;omega)
 cases hwl with
 |cons w1 w2=>
  cases w2;cases w1 with
  |list ho hall=>exact ⟨_,_,ns,rfl,rfl,ho,oE ns _ hall,hlen⟩
theorem Ah (l:OpenLaw) (args:List WData):l.row.toRowW.claim.post args (.bool true) args=true:=
 postW_of (r:=l.row.toRowW) (X:=(true==true))
  (show WShape.has [] (.bool true) .bool=true by first|rfl|decide|simp [WShape.has,WShape.arms,WShape.armsAll])
  (show (WTm.eq .res (.lit (.bool true))).value [] {args:=args,res:=some (.bool true),after:=args}=some (.bool (true==true)) from w_eq_bool (w_res rfl) w_lit) rfl
theorem wV {l:OpenLaw} {n:Nat} {q:Program} {loose:List Str} {XP:(Mq)->Heap->Prop} {YP:World->Heap->Prop} {d:DefRec}
  (hn:l.most=some n) (hdf:d.params.defaults=[])
  (call:∀(w:World) (s₀ s₁:Shared) (mg mb:Mq) (fa:Addr) (o:Obj) (pm cd doc:Value) (a:Addr) (vs:List Value) (ns:List Int),
   Ground q loose [] XP w s₀ mg mb s₁.heap->YP w s₁.heap ->
   s₁.heap.get? fa=some o->o.data=.func (docDef d.name d.params d.body d.scope pm cd doc)->s₁.heap.CodeRec cd d.name->mg d.name=some (.ref fa) ->
   s₁.heap.get? a=some {cls:=.type "list",data:=.seq vs.toArray}->IntsAre vs ns->ns.length<=n->s₁.gens=#[] ->
   codeAny (model l.prog w) callerA (.call (.ref fa) ⟨[.ref a],[]⟩) (fun r s'=>r=.ok (.ret (.bool true))/\OldK s₁.heap s'.heap/\s'.os=s₁.os/\AllBare s'.gens) s₁) :
  WalkO q loose XP YP l.row.toRowW d [] (fun f vs=>PySem.call f vs):=by
 intro w s₀ s₁ mg mb G Y fa o pm cd doc dV kV ho hd hcd hD hmg hg args vals as hpre hlay hrd hwl hlo;obtain rfl:dV=.none:=Dflts.none hD hdf;obtain rfl:kV=.none:=Dflts.noKw hD;obtain ⟨a,vs,ns,rfl,rfl,hobj,hints,hlen⟩:=zT hn hpre hwl;refine enter_call (codeAny_mono (call w s₀ s₁ mg mb fa o pm cd doc a vs ns G Y ho (fd_plain hd) hcd hmg hobj hints hlen hg) fun r s' hq=>?_);obtain ⟨rfl,h2,h3,h4⟩:=hq;exact ⟨.inl ⟨.bool true,.bool true,[],rfl,fun _=>rfl,.bool true,Ah l _,fun _=>⟨List.Pairwise.nil,fun _ hm=>(nomatch hm)⟩⟩,h2,h3,h4⟩
end Att
namespace L2
open PySem PySem.Spec PyProof.Rows
variable {P prog:Program} {w:World} {K:Fg} {CX:CXT} {k n j i nN nrem nN2 n2 ep ep' lo di ni ri ir il ia:Nat} {a f l b c L it C dx fad C2 fI C1 ar al:Addr} {fd fdI:FuncData} {x qual y m z:Str} {sp:Sp} {vs xs ys:List V} {X:Cx} {st:Stmt} {ps N' N:List Str} {oc doc pm cdv ct mc u:Value} {od an:Option Addr} {osl:Array (Option Value)} {pos spos py p apos pos' q p2 p3 cpos:Pos} {A:Around} {B:Prop} {H H1 H2 H' F F' H0 F1 F0 FB G G' Hc:Hp} {scope sc:Scope} {env:Env} {E E' E1 E2 E3:XK} {s:Shared} {pins:Pn} {σ σ':St} {ix:List (Option Nat)} {fp ch:List Addr} {h1 h h':Heap} {elt tg iter e e1 e2 e3 e4 e5:Expr} {ifs es elts:List Expr} {tt:TT} {te ta tb tc td:TE} {us its:List Value} {T:String} {cs:List (Str×Addr)} {pl:Sem Bool} {v vw:V} {o:HO} {Q:VK} {R:Bool->Hp->Prop} {O O2 OL O' is out:List Nat} {ro b1:Bool} {α β:Type} {op op' op'':CmpOp} {sts body:List Stmt} {r':R2} {κ:SortKind}
theorem sY:∀{vs:List Value} {ns:List Int},IntsAre vs ns->Vals (ns.map V.int) vs
 |_,_,.nil=>.nil
 |_,_,.cons n t h=>.cons ⟨t,rfl⟩ (sY h)
noncomputable def Only (H:Hp):Prop:=∀b,H b=none\/∃o xs,H b=some (.frz o (.lst xs))
theorem law_call {mg mb:Mq} {fa:Addr} {s₁:Shared} {vs:List Value} {ns:List Int}
  (KX:K.In s₁.heap) (hns:s₁.heap.Ns mainGlobals mg) (hb:s₁.heap.Ns builtinsNs mb) (hbb:∀x:Str,x≠"__name__"->mb x=bootBuiltins x) (hlim:s₁.heap.NoLimit) (hg:s₁.gens=#[])
  (ha:s₁.heap.get? a=some {cls:=.type "list",data:=.seq vs.toArray}) (hi:IntsAre vs ns) (hl:ns.length<=sizeLine) (hr:ip k callerA)
  (F:∀base:Heap,K.In base->base.Ns mainGlobals mg->iJ P w K mg base CX k fa fd [x] sp) (hbind:∀(s:Shared) (u:Value),BindsTo s fd ⟨[u],[]⟩ [(x,u)])
  (hsp:∀H:Hp,Only H->SqL K H a (ns.map V.int)->sp [.ref a] H (fun v _=>v=.bl true) fun _ _ _=>False)
  (hCX:∀H e s',CX [] H s₁ (fun _ _ _=>False) e s'->False) :
  codeAny (model P w) callerA (.call (.ref fa) ⟨[.ref a],[]⟩) (fun r s'=>r=.ok (.ret (.bool true))/\OldK s₁.heap s'.heap/\s'.os=s₁.os/\AllBare s'.gens) s₁:=by
 have rv:=sY hi;have lenV:=hi.length;have core:∀H:Hp,Only H->SqL K H a (ns.map V.int)->HOk P w H s₁.heap->(∀b,H b≠none->b=a)->(H a≠none->K.lookup a=none) ->
   codeAny (model P w) callerA (.call (.ref fa) ⟨[.ref a],[]⟩) (fun r s'=>r=.ok (.ret (.bool true))/\OldK s₁.heap s'.heap/\s'.os=s₁.os/\AllBare s'.gens) s₁:=by
  intro H hO hS hok hA hK;have base_of:∀{b:Addr} {o:Obj},s₁.heap.get? b=some o->H b=none->(hidT s₁.heap H).get? b=some o:=fun e n=>hidT_get e n;have noA:∀{b:Addr} {o:Obj} {es:Array DictEntry} {ep:Nat},s₁.heap.get? b=some o->o.data=.dict es ep->H b=none:=fun {b o es ep} e d=>by
   cases q:H b with
   |none=>rfl
   |some u=>
    have e':b=a:=hA b (by rw [q];simp);subst e';rw [ha] at e;cases e;have d':Data.seq vs.toArray _=Data.dict es ep:=d;cases d'
  have nsK:∀{b:Addr} {m:Mq},s₁.heap.Ns b m->(hidT s₁.heap H).Ns b m:=fun {b m} ⟨o,es,ep,e,d,r⟩=>⟨o,es,ep,base_of e (noA e d),d,r⟩
  have hKb:K.In (hidT s₁.heap H):=fun b o e=>base_of (KX b o e) (by
   cases q:H b with
   |none=>rfl
   |some u=>
    have e':b=a:=hA b (by rw [q];simp);subst e';rw [hK (by rw [q];simp)] at e;cases e)
  have hM:Mod K mg (hidT s₁.heap H):=⟨hKb,nsK hns,⟨mb,nsK hb,hbb⟩,let ⟨mc,h1,h2⟩:=hlim;⟨mc,nsK h1,h2⟩⟩
  have e0:Env0 P w K mg (hidT s₁.heap H) callerA [] s₁ H:=⟨rfl,hM,fun b o e=>of_hidT e,Nat.le_of_eq (AY _ _),trivial,fun b hb=>absurd (show b∈([]:List Addr) from hb) (by simp),hok,.of_eq hg⟩
  refine codeAny_mono ((F _ hKb (nsK hns)).run callerA [] s₁ H ⟨[.ref a],[]⟩ [.ref a] [.ref a] _ _ hr e0 (hbind s₁ (.ref a)) (.cons rfl .nil) (hsp H hO hS)) fun r s' h=>?_;cases r with
  |error e=>exact (hCX H e s' h).elim
  |ok fl=>
   cases fl with
   |next=>exact False.elim h
   |brk=>exact False.elim h
   |cont=>exact False.elim h
   |ret u=>
    obtain ⟨v,H',os,bare,un,hok',r',q⟩:=h;have q':v=.bl true:=q;subst q';obtain rfl:u=Value.bool true:=r';refine ⟨rfl,OldK.of_keep fun b o e=>?_,os,bare⟩
    cases q:H b with
    |none=>exact un.keep b o e q (by intro z;exact absurd (show b∈([]:List Addr) from z) (by simp)) (by simp)
    |some u=>
     rcases hO b with z|⟨ob,xs,z⟩
     ·rw [q] at z;cases z
     ·have z2:=un.frzs b ob _ z;obtain ⟨e1,_⟩:=hok b _ z;obtain ⟨e2,_⟩:=hok' b _ z2;rw [e] at e1;cases e1;exact e2
 cases hk:K.lookup a with
 |some o=>
  have e:=KX a o hk;rw [ha] at e;cases e;refine core (fun _=>none) (fun _=>.inl rfl) (.inr ⟨_,vs.toArray,_,hk,rfl,rfl,rfl,by rw [List.size_toArray,lenV];exact hl,by simpa using rv⟩) (fun b u z=>by have z':(none:Option HO)=some u:=z;cases z') (fun b z=>absurd rfl z) fun z=>absurd rfl z
 |none=>
  refine core (fun b=>if b=a then some (.frz {cls:=.type "list",data:=.seq vs.toArray} (.lst (ns.map V.int))) else none) (fun b=>?_) (.inl (.inr ⟨{cls:=.type "list",data:=.seq vs.toArray},if_pos rfl⟩)) (fun b u z=>?_) (fun b z=>?_) fun _=>hk
  ·by_cases hb:b=a
   ·exact .inr ⟨_,_,if_pos hb⟩
   ·exact .inl (if_neg hb)
  ·by_cases hb:b=a
   ·have z':=(if_pos hb).symm.trans z;cases z';subst hb;exact ⟨ha,by rw [List.length_map];exact hl,vs,_,rv,ha⟩
   ·have z':=(if_neg hb).symm.trans z;cases z'
  ·by_cases hb:b=a
   ·exact hb
   ·exact absurd (if_neg hb) z
theorem walk_of {l:PySem.W.OpenLaw} {q:Program} {loose:List Str} {XP:(Mq)->Heap->Prop} {YP:World->Heap->Prop} {d:DefRec} {K:Params->Fg} {CX:World->CXT} {sp:World->Sp} 
  (hn:l.most=some n) (hn2:n<=sizeLine) (hdf:d.params.defaults=[]) (hr:ip k callerA)
  (hY:∀(w:World) (h:Heap),YP w h->(K w.params).In h)
  (F:∀(w:World) (mg:Mq) (fa:Addr) (h:Heap),(K w.params).In h->h.Ns mainGlobals mg->mg d.name=some (.ref fa) ->
   ∃fd:FuncData,(∀(s:Shared) (u:Value),BindsTo s fd ⟨[u],[]⟩ [(x,u)]) /\
    ∀base:Heap,(K w.params).In base->base.Ns mainGlobals mg->iJ l.prog w (K w.params) mg base (CX w) k fa fd [x] (sp w))
  (hsp:∀(w:World) (H:Hp) (a:Addr) (ns:List Int),ns.length<=n->Only H->SqL (K w.params) H a (ns.map V.int)->sp w [.ref a] H (fun v _=>v=.bl true) fun _ _ _=>False)
  (hCX:∀(w:World) (H:Hp) (s:Shared) (e:Value) (s':Shared),CX w [] H s (fun _ _ _=>False) e s'->False) :
  PySem.W.WalkO q loose XP YP l.row.toRowW d [] (fun f vs=>PySem.call f vs):=by
 refine Att.wV hn hdf fun w s₀ s₁ mg mb fa o pm cd doc a vs ns G Y ho hd hcd hmg hobj hints hlen hg=>?_;have KX:=hY w _ Y;obtain ⟨fd,hb,hF⟩:=F w mg fa _ KX G.T.g hmg;exact law_call KX G.T.g G.T.b G.T.builtins G.T.nolimit hg hobj hints (Nat.le_trans hlen hn2) hr hF hb (fun H hO hS=>hsp w H a ns hlen hO hS) fun H e s'=>hCX w H s₁ e s'
noncomputable def inClass (s:Stmt) (j:Nat):Stmt:=match s with
 |.ClassDef _ _ _ body _ _ _ _ _ _ _=>body.getD j (.Pass ⟨0,0,0,0⟩)
 |_=>.Pass ⟨0,0,0,0⟩
noncomputable def cV (s:Stmt):Arguments:=match s with
 |.FunctionDef _ a _ _ _ _ _ _ _ _=>a
 |_=>{posonlyargs:=[],args:=[],vararg:=none,kwonlyargs:=[],kw_defaults:=[],kwarg:=none,defaults:=[]}
noncomputable def bP (s:Stmt):List Stmt:=match s with
 |.FunctionDef _ _ b _ _ _ _ _ _ _=>b
 |_=>[]
noncomputable def aJ (s:Stmt):Scope:=match s with
 |.FunctionDef _ _ _ _ _ _ sc _ _ _=>sc
 |_=>{kind:=.function,names:=[],isGenerator:=false,isCoroutine:=false}
noncomputable abbrev CX0:CXT:=fun _ _ _ _ _ _=>False
noncomputable abbrev E0:XK:=fun _ _ _=>False
theorem nX:Passes CX0 X E0:=fun _ _ _ _ _ _ _ h=>h.elim
structure Fun (K:Fg) (x qual:Str) (st:Stmt) (f:Addr) (fd:FuncData):Prop where
 ex:∃(oc:Value) (od:Option Addr) (kV doc pm:Value) (an:Option Addr) (cdv ct:Value) (osl:Array (Option Value)),
  fd=fnOf x qual (cV st) (bP st) (aJ st) .none kV doc pm an cdv ct/\K.lookup f=some ⟨oc,od,.func fd,osl⟩/\codeIn K cdv qual=true
 kp:keepIn K (.ref f)=true
section
theorem Fun.binds (F:Fun K x qual st f fd)
  (h:∀(kV doc pm:Value) (an:Option Addr) (cdv ct:Value) (us:List Value),us.length=ps.length->bindArgs (fnOf x qual (cV st) (bP st) (aJ st) .none kV doc pm an cdv ct) ⟨us,[]⟩=pure (ps.zip us)):Binds K fd ps []:=by
 obtain ⟨oc,od,kV,doc,pm,an,cdv,ct,osl,rfl,lk,hcd⟩:=F.ex;exact .all (h kV doc pm an cdv ct)
theorem xO {kV:Value} (l:K.lookup f=some ⟨oc,od,.func (fnOf x qual (cV st) (bP st) (aJ st) .none kV doc pm an cdv ct),osl⟩)
  (c:codeIn K cdv qual=true) (k:keepIn K (.ref f)=true):Fun K x qual st f (fnOf x qual (cV st) (bP st) (aJ st) .none kV doc pm an cdv ct):=⟨⟨oc,od,kV,doc,pm,an,cdv,ct,osl,rfl,l,c⟩,k⟩
end
section
theorem pv (i:Nat) (hN:X.N[i]? =some x:=by rfl) (hv:Vis X.env.scope x:=by first|exact Or.inl rfl|exact Or.inr (Or.inl rfl)|exact Or.inr (Or.inr rfl)) (hd:(x==("__debug__":Str))=false:=by decide)
  (hcd:(x==("__classdict__":Str))=false:=by decide):PE X (.Name x pos) (bS i):=pe_var hN hv hd hcd
end
theorem iteF {A:Prop} (h:B):if false=true then A else B:=by
 rw [if_neg Bool.false_ne_true];exact h
theorem iteNS {c A:Prop} [Decidable c] (hc:c) (h:B):if (!decide c)=true then A else B:=by
 rw [decide_eq_true hc];exact iteF h
noncomputable def aN (H H':Hp):Prop:=∀b o,H b=some o->H' b=some o
theorem aN.refl (H:Hp):aN H H:=fun _ _ h=>h
theorem aN.trans (a:aN H H1) (b:aN H1 H2):aN H H2:=fun c o h=>b c o (a c o h)
theorem aN.free (e:aN H H') (h:H' l=Option.none):H l=Option.none:=by
 cases q:H l with
 |none=>rfl
 |some o=>
  rw [e l o q] at h;cases h
noncomputable def rg (cells:List (Str×Addr)):List (Str×NameKind)->List (Str×Addr)->List (Str×Addr)
 |[],acc=>acc
 |(x,k)::r,acc=>rg cells r (if (k==NameKind.free)=true then (x,(cells.lookup x).getD 0)::acc else acc)
theorem gt_ne (h1:b<a) (h2:a<c):c≠b:=by
 rintro rfl;exact absurd (Nat.lt_trans h1 h2) (Nat.lt_irrefl _)
theorem yQ (h1:a<n) (h2:n<=b):a≠b:=by
 rintro rfl;exact absurd (Nat.lt_of_lt_of_le h1 h2) (Nat.lt_irrefl _)
theorem r9 {cells:List (Str×Addr)} {x:Str} {c:Addr}:∀(ns:List (Str×NameKind)) (acc:List (Str×Addr)),(rg cells ns acc).lookup x=some c ->
  ((x,NameKind.free)∈ns/\c=(cells.lookup x).getD 0)\/acc.lookup x=some c
 |[],_,h=>.inr h
 |(y,k)::r,acc,h=>by
  unfold rg at h;rcases r9 r _ h with ⟨m,e⟩|q
  ·exact .inl ⟨List.mem_cons_of_mem _ m,e⟩
  ·by_cases hk:(k==NameKind.free)=true
   ·rw [if_pos hk,List.lookup_cons] at q;cases hy:x==y with
    |true=>
     rw [hy] at q;have e1:=eq_of_beq hy;have e2:=eq_of_beq hk;subst e1 e2;exact .inl ⟨List.mem_cons_self,(Option.some.inj q).symm⟩
    |false=>rw [hy] at q;exact .inr q
   ·rw [if_neg hk] at q;exact .inr q
theorem pL {cells:List (Str×Addr)} {x:Str}:∀(ns:List (Str×NameKind)) (acc:List (Str×Addr)),((x,NameKind.free)∈ns\/(acc.lookup x).isSome=true)->((rg cells ns acc).lookup x).isSome=true
 |[],_,h=>h.elim (fun z=>nomatch z) id
 |(y,k)::r,acc,h=>by
  unfold rg;refine pL r _ ?_;rcases h with h|h
  ·rcases List.mem_cons.mp h with e|h
   ·cases e;refine .inr ?_;rw [if_pos (by decide),List.lookup_cons];simp
   ·exact .inl h
  ·refine .inr ?_;by_cases hk:(k==NameKind.free)=true
   ·rw [if_pos hk,List.lookup_cons];cases hy:x==y with
    |true=>rfl
    |false=>exact h
   ·rw [if_neg hk];exact h
theorem jU {x:Str} {c:Addr}:∀(ns:List (Str×NameKind)) (n:Nat) (acc:List (Str×Addr)),(cellsFrom n ns acc).lookup x=some c->(n<=c/\(x,NameKind.cell)∈ns)\/acc.lookup x=some c
 |[],_,_,h=>.inr h
 |(y,k)::r,n,acc,h=>by
  unfold cellsFrom at h;by_cases hk:(k==NameKind.cell)=true
  ·rw [if_pos hk] at h;rcases jU r (n+1) _ h with ⟨a,m⟩|q
   ·exact .inl ⟨by omega,List.mem_cons_of_mem _ m⟩
   ·rw [List.lookup_cons] at q;cases hy:x==y with
    |true=>
     rw [hy] at q;have e1:=eq_of_beq hy;have e2:=eq_of_beq hk;have e3:=Option.some.inj q;subst e1 e2 e3;exact .inl ⟨Nat.le_refl _,List.mem_cons_self⟩
    |false=>rw [hy] at q;exact .inr q
  ·rw [if_neg hk] at h;rcases jU r n acc h with ⟨a,m⟩|q
   ·exact .inl ⟨a,List.mem_cons_of_mem _ m⟩
   ·exact .inr q
theorem pN:∀(ns:List (Str×NameKind)) (n:Nat) (acc:List (Str×Addr)),(∀x y c,acc.lookup x=some c->acc.lookup y=some c->x=y)->(∀x c,acc.lookup x=some c->c<n) ->
  ∀x y c,(cellsFrom n ns acc).lookup x=some c->(cellsFrom n ns acc).lookup y=some c->x=y
 |[],_,_,hi,_=>hi
 |(z,k)::r,n,acc,hi,hl=>by
  unfold cellsFrom;by_cases hk:(k==NameKind.cell)=true
  ·rw [if_pos hk];refine pN r (n+1) _ (fun x y c h1 h2=>?_) (fun x c h1=>?_)
   ·rw [List.lookup_cons] at h1 h2;cases hx:x==z with
    |true=>
     rw [hx] at h1;have e1:=Option.some.inj h1;cases hy:y==z with
     |true=>rw [eq_of_beq hx,eq_of_beq hy]
     |false=>
      rw [hy] at h2;have h3:=hl y c h2;rw [<- e1] at h3;exact absurd h3 (Nat.lt_irrefl _)
    |false=>
     rw [hx] at h1;cases hy:y==z with
     |true=>
      rw [hy] at h2;have e2:=Option.some.inj h2;have h3:=hl x c h1;rw [<- e2] at h3;exact absurd h3 (Nat.lt_irrefl _)
     |false=>
      rw [hy] at h2;exact hi x y c h1 h2
   ·rw [List.lookup_cons] at h1;cases hx:x==z with
    |true=>
     rw [hx] at h1;have e1:=Option.some.inj h1;rw [<- e1];exact Nat.lt_succ_self _
    |false=>
     rw [hx] at h1;exact Nat.lt_succ_of_lt (hl x c h1)
  ·rw [if_neg hk];exact pN r n acc hi hl
theorem lB {x:Str} {c:Addr}:∀(ns:List (Str×NameKind)) (h:Heap) (acc:List (Str×Addr)),(cellsFrom h.objs.size ns acc).lookup x=some c ->
  acc.lookup x=some c\/(h.objs.size<=c/\(pushCells h ns).IsCell c none)
 |[],_,_,e=>.inl e
 |(y,k)::r,h,acc,e=>by
  unfold cellsFrom at e;unfold pushCells;by_cases hk:(k==NameKind.cell)=true
  ·rw [if_pos hk] at e ⊢;have q:=lB (x:=x) (c:=c) r (h.push {cls:=.type "cell",data:=.cell none}) ((y,h.objs.size)::acc) (by rw [Heap.size_push];exact e);rcases q with q|⟨q1,q2⟩
   ·rw [List.lookup_cons] at q;cases hy:x==y with
    |true=>
     rw [hy] at q;have e1:=Option.some.inj q;subst e1;exact .inr ⟨Nat.le_refl _,Heap.IsCell.keeps ⟨_,Heap.get?_push_size _ rfl,rfl⟩ (pushCells_keeps r _)⟩
    |false=>rw [hy] at q;exact .inl q
   ·rw [Heap.size_push] at q1;exact .inr ⟨by omega,q2⟩
  ·rw [if_neg hk] at e ⊢;exact lB r h acc e
theorem lU {env:Env} (f:Str×NameKind->List (Str×Addr)->Sem (ForInStep (List (Str×Addr))))
  (hf:∀n k cs,f (n,k) cs=if (k==NameKind.free)=true then (do let a <- cellOf env n;pure (.yield ((n,a)::cs))) else pure (.yield cs)) :
  ∀(ns:List (Str×NameKind)) (acc:List (Str×Addr)),(∀x∈ns,x.2=NameKind.free->∃c,env.cells.lookup x.1=some c)->forIn ns acc f=(pure (rg env.cells ns acc):Sem _)
 |[],acc,_=>by rw [List.forIn_nil];rfl
 |(y,k)::r,acc,hc=>by
  have hr:∀x∈r,x.2=NameKind.free->∃c,env.cells.lookup x.1=some c:=fun x hx=>hc x (List.mem_cons_of_mem _ hx);rw [List.forIn_cons,hf];unfold rg;by_cases hk:(k==NameKind.free)=true
  ·rw [if_pos hk,if_pos hk];obtain ⟨c,e⟩:=hc (y,k) List.mem_cons_self (eq_of_beq hk);have e':env.cells.lookup y=some c:=e;have e2:cellOf env y=pure c:=by unfold cellOf;rw [e']
   rw [e2,e'];exact lU f hf r _ hr
  ·rw [if_neg hk,if_neg hk];exact lU f hf r _ hr
theorem qZ (hc:∀x∈scope.names,x.2=NameKind.free->∃c,env.cells.lookup x.1=some c):closureFor scope env=pure (rg env.cells scope.names []):=by
 simp only [closureFor];rw [lU (env:=env) _ (fun n k cs=>by cases h:(k==NameKind.free)<;>simp [h]) scope.names [] hc];rfl
theorem Ax {M:Model} {E:Vp} {gl:Addr} {cl:List (Str×Addr)} {around:Env} {Q:Env->Shared->Prop}
  (hQ:∀h1:Heap,(∀b o,s.heap.get? b=some o->h1.get? b=some o)->h1.Ns s.heap.objs.size (fun _=>none) ->
   (∀x c,(cellsFrom (s.heap.objs.size+1) scope.names cl).lookup x=some c->cl.lookup x=some c\/(s.heap.objs.size<c/\h1.IsCell c none)) ->
   Q {scope:=scope,locals:=s.heap.objs.size,globals:=gl,cells:=cellsFrom (s.heap.objs.size+1) scope.names cl,qual:=qual,func:=none,code:=around.code,frame:=around.frame,builtins:=around.builtins} {s with heap:=h1}) :
  wpAny M A (newFunctionEnv scope gl cl [] qual none .none (some around)) Q E s:=by
 simp only [newFunctionEnv,Option.isSome_some,if_true];refine wpAny_bind (wpAny_alloc ?_);refine wpAny_bind (wpAny_layCells _ (fun name kind cells=>by cases hkc:kind==NameKind.cell<;>simp [hkc]) _ _ _ _ ?_);rw [show ({s with heap:=s.heap.push {cls:=.type "dict",data:=.dict #[]}}:Shared).heap.objs.size=s.heap.objs.size+1 from Heap.size_push ..];rw [List.forIn_nil];refine wpAny_bind (wpAny_pure (wpAny_pure ?_));refine hQ _ (fun b o e=>pushCells_keeps _ _ b o (Heap.get?_push_of_some _ e)) ((Heap.Ns.new s.heap (.type "dict")).keeps (pushCells_keeps _ _)) fun x c e=>?_;have q:=lB (x:=x) (c:=c) scope.names (s.heap.push {cls:=.type "dict",data:=.dict #[]}) cl (by rw [Heap.size_push];exact e);rw [Heap.size_push] at q;exact q.imp id fun ⟨a,b⟩=>⟨by omega,b⟩
theorem qA {env:Env} {x:Str}:∀{ns:List (Str×NameKind)},ns.lookup x=some .free ->
  (ns.map fun (n,k)=>if (k==NameKind.free&&env.scope.kind==.function&&env.kindOf n==some .cell) then (n,NameKind.cell) else (n,k)).lookup x=some .cell \/
  (ns.map fun (n,k)=>if (k==NameKind.free&&env.scope.kind==.function&&env.kindOf n==some .cell) then (n,NameKind.cell) else (n,k)).lookup x=some .free
 |[],h=>by simp at h
 |(n,k)::r,h=>by
  have ih:=@qA env x r;rw [List.map_cons];dsimp only;by_cases hc:(k==NameKind.free&&env.scope.kind==.function&&env.kindOf n==some .cell)=true
  ·rw [if_pos hc,List.lookup_cons];cases hx:x==n with
   |true=>exact .inl rfl
   |false=>rw [List.lookup_cons,hx] at h;exact ih h
  ·rw [if_neg hc,List.lookup_cons];cases hx:x==n with
   |true=>
    rw [List.lookup_cons,hx] at h;have e:=Option.some.inj h;subst e;exact .inr rfl
   |false=>rw [List.lookup_cons,hx] at h;exact ih h
theorem qB {env:Env} {x:Str}:∀{ns:List (Str×NameKind)},
  ((ns.map fun (n,k)=>if (k==NameKind.free&&env.scope.kind==.function&&env.kindOf n==some .cell) then (n,NameKind.cell) else (n,k)).lookup x=some .cell \/
  (ns.map fun (n,k)=>if (k==NameKind.free&&env.scope.kind==.function&&env.kindOf n==some .cell) then (n,NameKind.cell) else (n,k)).lookup x=some .free) ->
  ns.lookup x=some .cell\/ns.lookup x=some .free
 |[],h=>by simp at h
 |(n,k)::r,h=>by
  have ih:=@qB env x r;rw [List.map_cons] at h;dsimp only at h;by_cases hc:(k==NameKind.free&&env.scope.kind==.function&&env.kindOf n==some .cell)=true
  ·rw [if_pos hc,List.lookup_cons] at h;rw [List.lookup_cons];cases hx:x==n with
   |true=>
    have:k=NameKind.free:=by
     rw [Bool.and_eq_true,Bool.and_eq_true] at hc;exact eq_of_beq hc.1.1
    subst this;exact .inr rfl
   |false=>rw [hx] at h;exact ih h
  ·rw [if_neg hc,List.lookup_cons] at h;rw [List.lookup_cons];cases hx:x==n with
   |true=>rw [hx] at h;exact h
   |false=>rw [hx] at h;exact ih h
noncomputable def ba (X:Cx) (N':List Str) (sc:Scope) (L:Addr) (cs:List (Str×Addr)) (s:Shared) (H:Hp) (fp:List Addr):Cx:=
 {X with
  N:=N',s₀:=s,H₀:=H,outer:=X.stack,ex:=fp,pn:=[],xe:=fun _ _=>False
  fn:=fun x=> !(sc.names.any fun p=>p.1==x&&p.2==NameKind.free)
  env:={scope:=relabel sc X.env,locals:=L,globals:=X.env.globals,cells:=cs,qual:=X.env.qual,func:=none,code:=X.env.code,frame:=X.env.frame,builtins:=X.env.builtins}}
noncomputable def inS (ix:List (Option Nat)) (σ:St):St:=ix.map fun o=>match o with
 |none=>none
 |some j=>(σ[j]?).join
noncomputable def br (N:List Str) (osc:Scope) (N':List Str) (sc:Scope) (ix:List (Option Nat)):Bool:=
 decide (ix.length=N'.length) &&
 ((List.range ix.length).all fun i=>match ix[i]? with
  |some (some j)=>(match N'[i]?,N[j]? with
   |some x,some y=>x==y&&sc.names.lookup x==some NameKind.free
   |_,_=>false)
  |_=>true) &&
 (sc.names.all fun p=>(p.2 != NameKind.free||(osc.names.lookup p.1==some NameKind.cell||osc.names.lookup p.1==some NameKind.free))&&(p.2 != NameKind.local||sc.names.lookup p.1==some NameKind.local)) &&
 (sc.names.all fun p=>sc.names.all fun q=> !(p.1==q.1)||p.2==q.2)
section
theorem br.len (ok:br X.N X.env.scope N' sc ix=true):ix.length=N'.length:=by
 unfold br at ok;rw [Bool.and_eq_true,Bool.and_eq_true,Bool.and_eq_true] at ok;exact of_decide_eq_true ok.1.1.1
theorem br.at (ok:br X.N X.env.scope N' sc ix=true) {i j:Nat} {x:Str} (h:ix[i]? =some (some j)) (hx:N'[i]? =some x):X.N[j]? =some x/\sc.names.lookup x=some .free:=by
 unfold br at ok;rw [Bool.and_eq_true,Bool.and_eq_true,Bool.and_eq_true] at ok;have q:=List.all_eq_true.mp ok.1.1.2 i (List.mem_range.mpr (List.getElem?_eq_some_iff.mp h).1);rw [h,hx] at q;dsimp only at q;cases e:X.N[j]? with
 |none=>rw [e] at q;cases q
 |some y=>
  rw [e] at q;dsimp only at q;rw [Bool.and_eq_true] at q;exact ⟨by rw [eq_of_beq q.1],eq_of_beq q.2⟩
theorem br.fr (ok:br X.N X.env.scope N' sc ix=true) (h:(x,NameKind.free)∈sc.names):X.env.kindOf x=some .cell\/X.env.kindOf x=some .free:=by
 unfold br at ok;rw [Bool.and_eq_true,Bool.and_eq_true] at ok;have q:=List.all_eq_true.mp ok.1.2 _ h;rw [Bool.and_eq_true] at q;have q1:=q.1;rw [Bool.or_eq_true] at q1;rcases q1 with z|z
 ·exact absurd z (by simp)
 ·rw [Bool.or_eq_true] at z;exact z.imp (fun e=>eq_of_beq e) fun e=>eq_of_beq e
theorem br.loc (ok:br X.N X.env.scope N' sc ix=true):∀x∈sc.names,x.2=NameKind.local->sc.names.lookup x.1=some .local:=fun x hx e=>by
 unfold br at ok;rw [Bool.and_eq_true,Bool.and_eq_true] at ok;have q:=List.all_eq_true.mp ok.1.2 _ hx;rw [Bool.and_eq_true] at q;have q1:=q.2;rw [Bool.or_eq_true] at q1;rcases q1 with z|z
 ·rw [e] at z;exact absurd z (by decide)
 ·exact eq_of_beq z
theorem br.apart (ok:br X.N X.env.scope N' sc ix=true) (h1:(x,NameKind.cell)∈sc.names) (h2:(x,NameKind.free)∈sc.names):False:=by
 unfold br at ok;rw [Bool.and_eq_true] at ok;have q:=List.all_eq_true.mp (List.all_eq_true.mp ok.2 _ h1) _ h2;simp at q
theorem pJ (I:Inv X pins σ H s) (ok:br X.N X.env.scope N' sc ix=true):∀x∈sc.names,x.2=NameKind.free->∃c,X.env.cells.lookup x.1=some c:=fun x hx e=>by
 obtain ⟨n,k⟩:=x;have e':k=NameKind.free:=e;subst e';exact I.ok.has n (br.fr ok hx)
theorem Bu (I:Inv X pins σ H s) (ok:br X.N X.env.scope N' sc ix=true) (h:(rg X.env.cells sc.names []).lookup x=some c):(x,NameKind.free)∈sc.names/\X.env.cells.lookup x=some c:=by
 rcases r9 _ _ h with ⟨m,e⟩|z
 ·obtain ⟨d,hd⟩:=pJ I ok _ m rfl;have hd':X.env.cells.lookup x=some d:=hd;rw [hd'] at e;have e2:c=d:=e;subst e2;exact ⟨m,hd'⟩
 ·simp at z
theorem comp_inv (I:Inv X pins σ H s) (hf:∀b∈fp,zA X pins H b) (hb:∀b∈fp,∃o,s.heap.get? b=some o) (ok:br X.N X.env.scope N' sc ix=true) (hk:sc.kind=.function) (hL:s.heap.objs.size<=L)
  (kp:∀b o,s.heap.get? b=some o->h1.get? b=some o) (ns:h1.Ns L fun _=>none)
  (hc:∀x c,(cellsFrom (L+1) sc.names (rg X.env.cells sc.names [])).lookup x=some c->(rg X.env.cells sc.names []).lookup x=some c\/(L<c/\h1.IsCell c none)) :
  Inv (ba X N' sc L (cellsFrom (L+1) sc.names (rg X.env.cells sc.names [])) s H fp) [] (inS ix σ) H {s with heap:=h1}:=by
 have cc:∀x c,(rg X.env.cells sc.names []).lookup x=some c->(x,NameKind.free)∈sc.names/\X.env.cells.lookup x=some c/\(∃v,s.heap.IsCell c v)/\c<s.heap.objs.size:=fun x c e=>by
  obtain ⟨m,e'⟩:=Bu I ok e;obtain ⟨v,z⟩:=I.cell x c e';exact ⟨m,e',⟨v,z⟩,z.lt⟩
 have fpl:∀b∈fp,b<s.heap.objs.size:=fun b z=>let ⟨o,e⟩:=hb b z;Heap.lt_size e;have cne:∀b∈fp,∀x c,(cellsFrom (L+1) sc.names (rg X.env.cells sc.names [])).lookup x=some c->c≠b:=fun b z x c e=>by
  have hlt:=fpl b z;rcases hc x c e with q|⟨q,_⟩
  ·exact (hf b z).2.2.2.2.1 x c (cc x c q).2.1
  ·exact gt_ne (Nat.lt_of_lt_of_le hlt hL) q
 have okk:(ba X N' sc L (cellsFrom (L+1) sc.names (rg X.env.cells sc.names [])) s H fp).Ok:=by
  refine ⟨I.ok.mod,hk,I.ok.glob,I.ok.blt,hL,?_,?_,?_,I.ok.hd,I.ok.frames,.inl rfl,?_,I.bs,Nat.le_trans I.ok.bsz I.sz,?_,?_,I.stack,I.zO⟩
  ·refine pN sc.names (L+1) _ (fun x y c e1 e2=>I.ok.inj x y c (cc x c e1).2.1 (cc y c e2).2.1) fun x c e=>?_;exact Nat.lt_succ_of_lt (Nat.lt_of_lt_of_le (cc x c e).2.2.2 hL)
  ·intro x hx;have hx':=qB (env:=X.env) (x:=x) (ns:=sc.names) hx;have q:((cellsFrom (L+1) sc.names (rg X.env.cells sc.names [])).lookup x).isSome=true:=by
    rcases hx' with z|z
    ·exact PySem.W.cellsFrom_some _ _ _ (.inl z)
    ·exact PySem.W.cellsFrom_some _ _ _ (.inr (pL _ _ (.inl (PySem.mem_of_lookup z))))
   exact Option.isSome_iff_exists.mp q
  ·intro x c hfn e;show s.heap.objs.size<=c;rcases hc x c e with q|⟨q,_⟩
   ·have m:=(cc x c q).1;have hfn':(!(sc.names.any fun p=>p.1==x&&p.2==NameKind.free))=true:=hfn;have z:(sc.names.any fun p=>p.1==x&&p.2==NameKind.free)=true:=List.any_eq_true.mpr ⟨_,m,by simp⟩;rw [z] at hfn';cases hfn'
   ·exact Nat.le_trans hL (Nat.le_of_lt q)
  ·intro b z;have hlt:=fpl b z;exact ⟨Nat.ne_of_lt (Nat.lt_of_lt_of_le hlt hL),cne b z⟩
  ·intro b o e z;rcases (hf b z).2.2.2.1 with q|q
   ·exact I.ok.noex b o e q
   ·exact absurd (Nat.lt_of_lt_of_le (Heap.lt_size e) (Nat.le_trans I.ok.bsz q)) (Nat.lt_irrefl _)
  ·intro b z hs;rcases List.mem_cons.mp (I.tw b hs) with q|q
   ·exact (hf b z).2.1 q
   ·exact (hf b z).2.2.1 q
 refine ⟨okk,rfl,I.bare,Un.kept kp,⟨_,ns,fun i x v h1' h2 h3=>?_⟩,fun x c e=>?_,I.hok.fresh hL,fun x c e=>?_,fun p hp=>absurd hp (by simp [ba]),I.hok.kept kp,?_⟩
 ·have hix:∃j,ix[i]? =some (some j)/\σ[j]? =some (some v):=by
   unfold inS at h2;rw [List.getElem?_map] at h2;cases e:ix[i]? with
   |none=>rw [e] at h2;cases h2
   |some o=>
    rw [e] at h2;cases o with
    |none=>cases h2
    |some j=>
     have h2':(σ[j]?).join=some v:=Option.some.inj h2;refine ⟨j,rfl,?_⟩
     cases e2:σ[j]? with
     |none=>rw [e2] at h2';cases h2'
     |some w=>
      rw [e2] at h2';have h2'':w=some v:=h2';rw [h2'']
  obtain ⟨j,e1,e2⟩:=hix;obtain ⟨e3,e4⟩:=br.at ok e1 h1';have hfr:=br.fr ok (PySem.mem_of_lookup e4);obtain ⟨m,hn,hl⟩:=I.loc;obtain ⟨u,r,l⟩:=hl j x v e3 e2 (hfr.elim (fun z=>.inr (.inl z)) fun z=>.inr (.inr z));refine ⟨u,r,.inr ⟨qA (env:=X.env) (x:=x) (ns:=sc.names) e4,?_⟩⟩
  rcases l with ⟨k,_⟩|⟨k,c,e,z⟩
  ·rcases hfr with q|q<;>rw [q] at k<;>cases k
  ·have q1:=pL (cells:=X.env.cells) sc.names [] (.inl (PySem.mem_of_lookup e4));obtain ⟨c2,q2⟩:=Option.isSome_iff_exists.mp q1;have q3:=(cc x c2 q2).2.1;rw [e] at q3;cases q3;have q4:=PySem.W.cellsFrom_some (x:=x) sc.names (L+1) (rg X.env.cells sc.names []) (.inr q1);obtain ⟨c3,q5⟩:=Option.isSome_iff_exists.mp q4;rcases hc x c3 q5 with q6|⟨q6,q7⟩
   ·rw [q2] at q6;cases q6;exact ⟨c,q5,z.keeps kp⟩
   ·exfalso;rcases jU _ _ _ q5 with ⟨_,m'⟩|q8
    ·exact br.apart ok m' (PySem.mem_of_lookup e4)
    ·rw [q2] at q8;cases q8;exact absurd (Nat.lt_trans (Nat.lt_of_lt_of_le (cc x c q2).2.2.2 hL) q6) (Nat.lt_irrefl _)
 ·rcases hc x c e with q|⟨_,q⟩
  ·obtain ⟨v,z⟩:=(cc x c q).2.2.1;exact ⟨v,z.keeps kp⟩
  ·exact ⟨_,q⟩
 ·rcases hc x c e with q|⟨q,_⟩
  ·exact I.freeC x c (cc x c q).2.1
  ·exact I.hok.fresh (Nat.le_trans hL (Nat.le_of_lt q))
 ·show (inS ix σ).length=N'.length;unfold inS;rw [List.length_map];exact br.len ok
end
noncomputable def PTs (X:Cx) (ifs:List Expr) (t:TT):Prop:=
 ∀(pins:Pn) (s:Shared) (σ:St) (H:Hp) (Q:Bool->Hp->Prop),Inv X pins σ H s->t σ H Q ->
  wpAny (model X.prog X.w) X.A (forIn ifs true fun c r=>if r=true then do let ok <- isTrue c X.env (eval c X.env);pure (ForInStep.yield ok) else pure (ForInStep.yield r)) (TP X pins σ Q) X.xe s
noncomputable def tYes:TT:=fun _ H Q=>Q true H
theorem pts_nil:PTs X [] tYes:=fun _ _ _ H _ I h=>wpAny_tests_nil ⟨H,I,h⟩
theorem Ae {c:Expr} {t:TT} (h:PT X c t):PTs X [c] t:=fun pins s σ H Q I q=>wpAny_tests_one (h pins s σ H Q I q)
theorem uW {R:Result->Shared->Prop} {it acc:Value} (J:Nat->Shared->Prop)
  (turn:∀n s,J n s->wpAny (model prog w) A (pyNext it) (fun r s1=>match r with
   |none=>R (.ok .next) s1
   |some v=>wpAny (model prog w) A (letOwnedTupleGo tg it v) (fun _ s1'=>wpAny (model prog w) A (assign tg env v) (fun _ s2=>
     wpAny (model prog w) A (forIn ifs true fun c r=>if r=true then do let ok <- isTrue c env (eval c env);pure (ForInStep.yield ok) else pure (ForInStep.yield r)) (fun ok s3=>
      if ok=true then wpAny (model prog w) A (eval elt env) (fun x s4=>wpAny (model prog w) A (call (.builtin "list.append") [acc,x]) (fun _ s5=>∃m,m<n/\J m s5) (fun _ _=>False) s4) (fun _ _=>False) s3
      else ∃m,m<n/\J m s3) (fun _ _=>False) s2) (fun _ _=>False) s1') (fun _ _=>False) s1) (fun _ _=>False) s)
  (n:Nat) (h:J n s):codeAny (model prog w) A (.compLoop (.ListComp elt [⟨tg,iter,ifs,0⟩] scope pos) 0 it acc env) R s:=by
 refine codeAny_loop rfl J (fun n s hJ=>?_) n h;show wpAny _ A ((compTurn (.ListComp elt [⟨tg,iter,ifs,0⟩] scope pos) 0 it acc env).onRaise (fun x=>do noteFrame x env;theTreesLotGoes x)) _ _ s;refine wpAny_noted ?_;rw [compTurn_list];refine wpAny_bind (wpAny_standAt (wpAny_bind (wpAny_mono (turn n s hJ) (fun r s1 h1=>?_) fun _ _ z=>z.elim)));cases r with
 |none=>exact wpAny_pure h1
 |some v=>
  refine wpAny_bind (wpAny_mono h1 (fun _ s1' h1'=>?_) fun _ _ z=>z.elim);refine wpAny_bind (wpAny_mono h1' (fun _ s2 h2=>wpAny_bind (wpAny_mono h2 (fun ok s3 h3=>?_) fun _ _ z=>z.elim)) fun _ _ z=>z.elim);cases ok with
  |false=>exact wpAny_pure ⟨rfl,h3⟩
  |true=>
   exact wpAny_bind (wpAny_bind (wpAny_mono h3 (fun x s4 h4=>wpAny_bind (wpAny_mono h4 (fun _ s5 h5=>wpAny_pure (wpAny_pure ⟨rfl,h5⟩)) fun _ _ z=>z.elim)) fun _ _ z=>z.elim))
noncomputable def kU (J:It) (ix:List (Option Nat)) (g:TG) (tt:TT) (te:TE) (σ:St) (F:List V->Hp->Prop) (H:Hp):Prop:=
 ∃W:Nat->Nat->List V->Hp->Prop,(∃m,W 0 m [] H)/\∀i m ys H,W i m ys H ->
  (J.stop i H/\ys.length<=sizeLine/\F ys H)\/(J.go i H/\ys.length<=sizeLine/\∃N:List V->Hp->Prop,(∀ys' H',N ys' H'->∃m',m'<m/\W (i+1) m' ys' H') /\
   ∀x H',J.yld i H x H'->g x (inS ix σ) H' fun σ2 H2=>tt σ2 H2 fun b H3=>if b=true then te σ2 H3 fun y H4=>N (ys++[y]) H4 else N ys H3)
section
theorem Inv.slots0 (I:Inv X pins σ' H s) (h:∀(i:Nat) v,(inS ix σ)[i]? =some (some v)->σ'[i]? =some (some v)) (hl:(inS ix σ).length=X.N.length):Inv X pins (inS ix σ) H s:=
 I.weak (by rw [hl,I.len]) h
theorem uV {g:TG} {J:It} {tn:Nat->Heap->Prop} {F:List V->Hp->Prop} {E:Vp}
  (hc:X.calm=true) (I:Inv X pins σ H s) (T:Turn X.prog X.w X.K tg J fp it tn) (st:tn 0 s.heap) (hf:∀b∈fp,zA X pins H b) (ok:br X.N X.env.scope N' sc ix=true) (hk:sc.kind=.function)
  (hg:∀L cs s H fp,PG (ba X N' sc L cs s H fp) tg g) (hkeep:∀x σ' H' (Q:St->Hp->Prop),g x σ' H' Q->g x σ' H' fun σ2 H2=>Q σ2 H2/\∀(i:Nat) v,σ'[i]? =some (some v)->(∃j,ix[i]? =some (some j))->σ2[i]? =some (some v))
  (ht:∀L cs s H fp,PTs (ba X N' sc L cs s H fp) ifs tt) (he:∀L cs s H fp,PE (ba X N' sc L cs s H fp) elt te)
  (tr:kU J ix g tt te σ F H) :
  wpAny (model X.prog X.w) X.A (newList []) (fun acc s3=>wpAny (model X.prog X.w) X.A (newFunctionEnv sc X.env.globals (rg X.env.cells sc.names []) [] X.env.qual none .none (some X.env)) (fun cenv s4=>
   codeAny (model X.prog X.w) X.A (.compStart (.ListComp elt [⟨tg,iter,ifs,0⟩] sc pos) 0 (.ref it) acc {cenv with scope:=relabel sc X.env}) (fun r s'=>(∃fl,r=.ok fl) /\
    ∃(p:Addr) (ys:List V) (H2:Hp),acc=.ref p/\Inv X pins σ (upd H2 p (.lst ys)) s'/\H2 p=none/\F ys H2/\(∃m,s'.heap.Ns cenv.locals m)/\(upd H2 p (.lst ys)) cenv.locals=none/\cenv.locals≠X.env.locals /\
     X.s₀.heap.objs.size<=cenv.locals/\(∀x c,X.env.cells.lookup x=some c->c≠cenv.locals)/\∀q∈X.pn++pins,q.1≠cenv.locals) s4) E s3) E s:=by
 obtain ⟨W,⟨m0,w0⟩,turn⟩:=tr;refine wpAny_newObj_type (Ax fun h1 kp ns hcl=>?_);dsimp only at kp ns hcl ⊢;generalize hH2:s.heap.push {cls:=.type "list",dict:=none,data:=.seq ([]:List Value).toArray}=HH at kp ns hcl ⊢;have eL:HH.objs.size=s.heap.objs.size+1:=by rw [<- hH2,Heap.size_push]
 have kp0:∀b o,s.heap.get? b=some o->h1.get? b=some o:=fun b o e=>kp b o (hH2▸Heap.get?_push_of_some _ e);have hD0:h1.PlainList s.heap.objs.size #[]:=⟨_,kp _ _ (hH2▸Heap.get?_push_size _ rfl)⟩
 have fpo:∀b∈fp,∃o,s.heap.get? b=some o:=fun b z=>let ⟨o,e,_⟩:=T.obj 0 _ st b z;⟨o,e⟩;have fpl:∀b∈fp,b<s.heap.objs.size:=fun b z=>let ⟨o,e⟩:=fpo b z;Heap.lt_size e;have sL:s.heap.objs.size<=HH.objs.size:=by rw [eL];exact Nat.le_succ _
 have sL':s.heap.objs.size<HH.objs.size:=by rw [eL];exact Nat.lt_succ_self _
 have I0:=comp_inv (h1:=h1) I hf fpo ok hk sL kp0 ns hcl;generalize hXX:ba X N' sc HH.objs.size (cellsFrom (HH.objs.size+1) sc.names (rg X.env.cells sc.names [])) s H fp=Y at I0;have eY1:Y.prog=X.prog:=by subst hXX;rfl
 have eY2:Y.w=X.w:=by subst hXX;rfl
 have eY3:Y.K=X.K:=by subst hXX;rfl
 have eY4:Y.calm=true:=by subst hXX;exact hc
 have eY5:Y.A=X.A:=by subst hXX;rfl
 have eY6:Y.env={scope:=relabel sc X.env,locals:=HH.objs.size,globals:=X.env.globals,cells:=cellsFrom (HH.objs.size+1) sc.names (rg X.env.cells sc.names []),qual:=X.env.qual,func:=none,code:=X.env.code,frame:=X.env.frame,builtins:=X.env.builtins}:=by subst hXX;rfl
 have eY7:Y.xe=fun _ _=>False:=by subst hXX;rfl
 have eY8:Y.pn=[]:=by subst hXX;rfl
 have eY9:Y.fs=frs X.stack:=by subst hXX;rfl
 have eY10:Y.s₀=s:=by subst hXX;rfl
 have eY11:Y.H₀=H:=by subst hXX;rfl
 have eY12:Y.ex=fp:=by subst hXX;rfl
 have eY13:Y.N=N':=by subst hXX;rfl
 have hgY:PG Y tg g:=by subst hXX;exact hg _ _ _ _ _
 have htY:PTs Y ifs tt:=by subst hXX;exact ht _ _ _ _ _
 have heY:PE Y elt te:=by subst hXX;exact he _ _ _ _ _
 have lenI:(inS ix σ).length=Y.N.length:=by rw [eY13];unfold inS;rw [List.length_map];exact br.len ok
 have cellN:∀(b:Addr),b<=HH.objs.size->(∀x c,X.env.cells.lookup x=some c->c≠b)->∀x c,Y.env.cells.lookup x=some c->c≠b:=fun b hb hx x c e=>by
  rw [eY6] at e;rcases hcl x c e with q|⟨q,_⟩
  ·exact hx x c (Bu I ok q).2
  ·exact (yQ (Nat.lt_of_le_of_lt hb (Nat.lt_succ_self _)) q).symm
 have oldc:∀x c,X.env.cells.lookup x=some c->c<s.heap.objs.size:=fun x c e=>let ⟨v,z⟩:=I.cell x c e;z.lt;have nfs:∀b,s.heap.objs.size<=b->b∉frs X.stack:=fun b hb z=>by
  rcases List.mem_cons.mp (I.tw b z) with q|q
  ·exact yQ I.lt hb q.symm
  ·exact I.nofs hb q
 have fpY:∀(pp:Pn) (H':Hp),(∀b∈fp,H' b=none)->(∀q∈pp,q.1∉fp)->∀b∈fp,zA Y pp H' b:=fun pp H' hn hq b z=>by
  have hlt:=fpl b z;refine ⟨hn b z,?_,?_,.inl (by rw [eY12];exact z),cellN b (Nat.le_of_lt (Nat.lt_trans hlt sL')) ((hf b z).2.2.2.2.1),fun q hq' e=>?_⟩
  ·rw [eY6];exact yQ hlt sL
  ·rw [eY9];intro hs;rcases List.mem_cons.mp (I.tw b hs) with q|q
   ·exact (hf b z).2.1 q
   ·exact (hf b z).2.2.1 q
  ·rw [eY8] at hq';exact hq q (by simpa using hq') (by rw [e];exact z)
 have Dfp:s.heap.objs.size∉fp:=fun z=>absurd (fpl _ z) (Nat.lt_irrefl _);have Dok:∀(pp:Pn) (H':Hp),H' s.heap.objs.size=none->(∀q∈pp,q.1≠s.heap.objs.size)->zA Y pp H' s.heap.objs.size:=fun pp H' hn hq=>by
  refine ⟨hn,?_,by rw [eY9];exact nfs _ (Nat.le_refl _),.inr (by rw [eY10];exact Nat.le_refl _),cellN _ sL (fun x c e=>Nat.ne_of_lt (oldc x c e)),fun q hq'=>?_⟩
  ·rw [eY6];exact Nat.ne_of_lt sL'
  ·rw [eY8] at hq';exact hq q (by simpa using hq')
 have loop:codeAny (model X.prog X.w) X.A (.compLoop (.ListComp elt [⟨tg,iter,ifs,0⟩] sc pos) 0 (.ref it) (.ref s.heap.objs.size) Y.env) (fun r s'=>(∃fl,r=.ok fl) /\
    ∃(p:Addr) (ys:List V) (H2:Hp),Value.ref s.heap.objs.size=.ref p/\Inv X pins σ (upd H2 p (.lst ys)) s'/\H2 p=none/\F ys H2/\(∃m,s'.heap.Ns HH.objs.size m)/\(upd H2 p (.lst ys)) HH.objs.size=none/\HH.objs.size≠X.env.locals /\
     X.s₀.heap.objs.size<=HH.objs.size/\(∀x c,X.env.cells.lookup x=some c->c≠HH.objs.size)/\∀q∈X.pn++pins,q.1≠HH.objs.size) {s with heap:=h1}:=by
  refine uW (fun n s'=>∃i ys its H',Inv Y [] (inS ix σ) H' s'/\tn i s'.heap/\(∀b∈fp,H' b=none)/\H' s.heap.objs.size=none/\s'.heap.PlainList s.heap.objs.size its/\Vals ys its.toList/\W i n ys H') ?_ m0
   ⟨0,[],#[],H,I0,T.keep _ _ _ st fun b _ o e=>kp0 b o e,fun b z=>(hf b z).1,I.hok.fresh (Nat.le_refl _),hD0,.nil,w0⟩
  rintro n s3 ⟨i,ys,its,H3,I3,st3,fr3,hD3,pl3,vs3,w3⟩;obtain ⟨nD,oD⟩:=pl3;have hpD:∀q∈[((s.heap.objs.size:Addr),({cls:=.type "list",data:=.seq its nD}:Obj))],q.1∉fp:=fun q hq=>by
   have:q=_:=List.mem_singleton.mp hq;rw [this];exact Dfp
  have I3':Inv Y [((s.heap.objs.size:Addr),({cls:=.type "list",data:=.seq its nD}:Obj))] (inS ix σ) H3 s3:=I3.rV fun q hq=>by
   have e:q=_:=List.mem_singleton.mp hq;obtain ⟨d0,d1,d2,_⟩:=Dok [] H3 hD3 (fun _ z=>nomatch z);rw [e];exact ⟨oD,d0,d1,d2,fun v z=>by cases z⟩
  rcases turn i n ys H3 w3 with ⟨stop,ln,qn⟩|⟨go,ln,NN,hNN,step⟩
  ·have h1:=T.done Y eY1 eY2 eY3 eY4 i _ s3 _ H3 (fun _ _=>False) I3' (fpY _ H3 fr3 hpD) st3 stop;rw [eY5] at h1;refine wpAny_mono h1 (fun r s4 ⟨hr,I4⟩=>?_) fun _ _ z=>z;subst hr;obtain ⟨oD4,hD4,_⟩:=I4.pin ((s.heap.objs.size:Addr),({cls:=.type "list",data:=.seq its nD}:Obj)) (by rw [eY8];simp);refine ⟨⟨_,rfl⟩,s.heap.objs.size,ys,H3,rfl,?_,hD3,qn,?_,?_,?_,?_,?_,?_⟩
   ·have ub:Un (frs X.stack) fp H H3 s.heap s4.heap:=by
     have:=I4.base;rw [eY9,eY10,eY11,eY12] at this;exact this
    have hok4:HOk X.prog X.w H3 s4.heap:=by
     have:=I4.hok;rw [eY1,eY2] at this;exact this
    refine I.call' (ch:=fp) (by have:=I4.os;rw [eY10] at this;exact this) ⟨ub.keep,ub.slot,fun b o e nn hx=>?_,ub.there,fun b xs q=>?_,fun b o u q=>?_,fun b ps q=>?_⟩ (fun b u e=>?_) I4.bare (fun b hb=>?_)
    ·rw [au (Nat.ne_of_lt (Heap.lt_size e))];exact ub.free b o e nn hx
    ·rw [au (aR (ub.tups b xs q) hD3)];exact ub.tups b xs q
    ·rw [au (aR (ub.frzs b o u q) hD3)];exact ub.frzs b o u q
    ·obtain ⟨more,z⟩:=ub.tbls b ps q;exact ⟨more,by rw [au (aR z hD3)];exact z⟩
    ·by_cases hb:b=s.heap.objs.size
     ·subst hb;rw [ay] at e;cases e;exact ⟨ln,its.toList,nD,vs3,by simpa using oD4⟩
     ·rw [au hb] at e;exact (hok4 b u e).stay (fun _ _ _ q=>q) (fun c q=>by rw [au (aR q hD3)];exact q) fun c xs q=>by rw [au (aR q hD3)];exact q
    ·obtain ⟨f0,f1,f2,f3,f4,f5⟩:=hf b hb;exact ⟨f3,f1,f4,f5⟩
   ·obtain ⟨m,hn,_⟩:=I4.loc;rw [eY6] at hn;exact ⟨m,hn⟩
   ·rw [au (Nat.ne_of_gt sL')];have:=I4.free;rw [eY6] at this;exact this
   ·exact Nat.ne_of_gt (Nat.lt_trans I.lt sL')
   ·exact Nat.le_trans I.sz sL
   ·exact fun x c e=>yQ (oldc x c e) sL
   ·exact fun q hq=>yQ (Heap.lt_size (I.pin q hq).1) sL
  ·have h1:=T.item Y eY1 eY2 eY3 eY4 i _ s3 _ H3 (fun _ _=>False) I3' (fpY _ H3 fr3 hpD) st3 go;rw [eY5] at h1;refine wpAny_mono h1 (fun r s4 ⟨u,hr,h4⟩=>?_) fun _ _ z=>z;subst hr;refine wpAny_mono h4 (fun _ s5 ⟨x,H5,I5,r5,y5,st5,fr5⟩=>?_) fun _ _ z=>z;have I5':=I5.pinned (fpY _ H5 fr5 hpD) (T.obj _ _ st5);have h5:=hgY _ s5 _ H5 x u _ I5' r5 (hkeep x _ H5 _ (step x H5 y5));rw [eY1,eY2,eY5,eY7] at h5;refine wpAny_mono h5 (fun _ s6 ⟨σ6,H6,I6,q6,k6⟩=>?_) fun _ _ z=>z;have h6:=htY _ s6 σ6 H6 _ I6 q6;rw [eY1,eY2,eY5,eY7] at h6;refine wpAny_mono h6 (fun b s7 ⟨H7,I7,q7⟩=>?_) fun _ _ z=>z;have back:∀{s8:Shared} {H8:Hp},Inv Y ([((s.heap.objs.size:Addr),({cls:=.type "list",data:=.seq its nD}:Obj))]++uc fp s5.heap) σ6 H8 s8->Inv Y [] (inS ix σ) H8 s8/\tn (i+1) s8.heap/\(∀b∈fp,H8 b=none)/\H8 s.heap.objs.size=none/\s8.heap.get? s.heap.objs.size=some {cls:=.type "list",data:=.seq its nD}:=fun {s8 H8} I8=>by
    obtain ⟨a1,a2,_⟩:=I8.pin ((s.heap.objs.size:Addr),({cls:=.type "list",data:=.seq its nD}:Obj)) (by rw [eY8];simp);refine ⟨(I8.rV (pins':=[]) fun _ z=>nomatch z).slots0 (fun k v e=>?_) lenI,T.keep _ _ _ st5 fun b hb o e=>(I8.pin (b,o) (List.mem_append_right _ (List.mem_append_right _ (ji hb e)))).1,fun b hb=>?_,a2,a1⟩
    ·refine k6 k v e ?_;unfold inS at e;rw [List.getElem?_map] at e;cases e2:ix[k]? with
     |none=>rw [e2] at e;cases e
     |some o=>
      cases o with
      |none=>rw [e2] at e;cases e
      |some j=>exact ⟨j,rfl⟩
    ·obtain ⟨o,e,d⟩:=T.obj _ _ st5 b hb;exact (I8.pin (b,o) (List.mem_append_right _ (List.mem_append_right _ (ji hb e)))).2.1
   cases b with
   |false=>
    rw [if_neg Bool.false_ne_true] at q7 ⊢;obtain ⟨m',hm,w7⟩:=hNN _ _ q7;obtain ⟨b1,b2,b3,b4,b5⟩:=back I7;exact ⟨m',hm,i+1,ys,its,H7,b1,b2,b3,b4,⟨nD,b5⟩,vs3,w7⟩
   |true=>
    rw [if_pos rfl] at q7 ⊢;have h7:=heY _ s7 σ6 H7 _ I7 q7;rw [eY1,eY2,eY5,eY7,eY6] at h7;rw [eY6];refine wpAny_mono h7 (fun uu s8 ⟨y,H8,I8,r8,q8⟩=>?_) fun _ _ z=>z;obtain ⟨m',hm,w8⟩:=hNN _ _ q8;obtain ⟨b1,b2,b3,b4,b5⟩:=back I8;have ez:its.size<=sizeLine:=by
     have h1:=vs3.length;have h2:its.toList.length=its.size:=by simp
     omega
    refine wpAny_list_append_plain (hsz:=ez) ⟨nD,b5⟩ fun h9 pl9 sb9=>?_;obtain ⟨d0,d1,d2,d3,d4,d5⟩:=Dok [] H8 b4 (fun _ z=>nomatch z);refine ⟨m',hm,i+1,ys++[y],its.push uu,H8,b1.turned (t':=s8.toks) (fun b o hb e=>(sb9.2 b hb).trans e) d0 d1 d3 d4 d5,T.keep _ _ _ b2 fun b hb o e=>(sb9.2 b ?_).trans e,b3,b4,pl9,?_,w8⟩
    ·exact yQ (fpl b hb) (Nat.le_refl _)
    ·rw [Array.toList_push];exact vs3.append (.cons r8 .nil)
 rw [eY6] at loop;exact codeAny_compStart_list loop (T.self X.A 0 _ _ _ (T.keep _ _ _ st fun b _ o e=>kp0 b o e) loop)
end
noncomputable def tComp (wi:TI) (ix:List (Option Nat)) (g:TG) (tt:TT) (te:TE):TE:=fun σ H Q=>wi σ H fun J H1=>kU J ix g tt te σ (fun ys H2=>∀p,H2 p=none->Q (.ref p) (upd H2 p (.lst ys))) H1
noncomputable def pO (ix:List (Option Nat)) (g:TG):Prop:=∀x σ' H' (Q:St->Hp->Prop),g x σ' H' Q->g x σ' H' fun σ2 H2=>Q σ2 H2/\∀(i:Nat) v,σ'[i]? =some (some v)->(∃j,ix[i]? =some (some j))->σ2[i]? =some (some v)
theorem aI (h:ix[k]? =some none):pO ix (gN k):=fun x σ' H' Q q=>⟨q,fun i v e ⟨j,hj⟩=>by
 have:k≠i:=by rintro rfl;rw [h] at hj;cases hj
 rw [List.getElem?_set_ne this];exact e⟩
section
variable {wi:TI} {g:TG} 
theorem pe_comp (N':List Str) (ix:List (Option Nat)) (hc:X.calm=true) (hi:PI X tg iter wi) (hg:∀L cs s H fp,PG (ba X N' sc L cs s H fp) tg g) (hl:pO ix g)
  (ht:∀L cs s H fp,PTs (ba X N' sc L cs s H fp) ifs tt) (he:∀L cs s H fp,PE (ba X N' sc L cs s H fp) elt te)
  (ok:br X.N X.env.scope N' sc ix=true:=by rfl) (hk:sc.kind=.function:=by rfl) (hs:∀x,foldedSetIterable iter X.env x=pure x:=by intro _;rfl) :
  PE X (.ListComp elt [⟨tg,iter,ifs,0⟩] sc pos) (tComp wi ix g tt te):=by
 intro pins s σ H Q I h;rw [eval_ListComp];refine wpAny_comprehension_free (use:=none) rfl hs (qZ (pJ I ok)) hk (br.loc ok) (thn (hi pins s σ H _ I h) fun v s1 h1=>thn h1 fun itv s2 h2=>?_);obtain ⟨it,fp,tn,J,H2,e,I2,T,st2,f2,tr⟩:=h2;subst e;refine thn (uV hc I2 T st2 f2 ok hk hg hl ht he tr) fun acc s3 h3=>thn h3 fun cenv s4 h4=>codeAny_mono h4 fun r s5 hr=>?_;obtain ⟨⟨fl,e1⟩,p,ys,H5,e2,I5,hp,q,⟨m,hn⟩,c0,c1,c2,c3,c4⟩:=hr;subst e1;subst e2;exact ⟨m,hn,fun h' sb=>⟨.ref p,_,I5.turned (t':=s5.toks) (fun b o hb e=>(sb.2 b hb).trans e) c0 c1 (.inr c2) c3 c4,rfl,q p hp⟩⟩
noncomputable def xc (j:Nat) (wi:TI) (ix:List (Option Nat)) (g:TG) (tt:TT) (te:TE):TS:=fun D σ H=>wi σ H fun J H1=>kU J ix g tt te σ (fun ys H2=>∀p,H2 p=none->D.nx (σ.set j (some (.ref p))) (upd H2 p (.lst ys))) H1
theorem qD (N':List Str) (ix:List (Option Nat)) (hN:X.N.Nodup) (hj:X.N[j]? =some y) (hy:X.env.scope.names.lookup y=some .local) (hc:X.calm=true) (hi:PI X tg iter wi) (hg:∀L cs s H fp,PG (ba X N' sc L cs s H fp) tg g) (hl:pO ix g)
  (ht:∀L cs s H fp,PTs (ba X N' sc L cs s H fp) ifs tt) (he:∀L cs s H fp,PE (ba X N' sc L cs s H fp) elt te)
  (hsw:swapsWith (.ListComp elt [⟨tg,iter,ifs,0⟩] sc pos) (some (.Name y py)) spos.line X.env=pure true:=by rfl)
  (ok:br X.N X.env.scope N' sc ix=true:=by rfl) (hk:sc.kind=.function:=by rfl) (hs:∀x,foldedSetIterable iter X.env x=pure x:=by intro _;rfl) :
  PS X (.Assign [.Name y py] (.ListComp elt [⟨tg,iter,ifs,0⟩] sc pos) spos) (xc j wi ix g tt te):=by
 intro pins s σ H D I h;rw [exec_Assign_Name_used _ _ _ _ hsw];refine wpAny_bind (wpAny_standAt (wpAny_bind ?_));show wpAny _ X.A (do let _ <- comprehension (.ListComp elt [⟨tg,iter,ifs,0⟩] sc pos) sc X.env _ (newList []) false (eval iter X.env) (some (assign (.Name y py) X.env))) _ _ s;refine wpAny_bind (wpAny_mono (wpAny_comprehension_free (use:=some (assign (.Name y py) X.env)) (Q:=fun _ s'=>SP X pins D .next s') rfl hs (qZ (pJ I ok)) hk (br.loc ok) (thn (hi pins s σ H _ I h) fun v s1 h1=>thn h1 fun itv s2 h2=>?_)) (fun _ s' hq=>wpAny_pure (wpAny_pure hq)) fun _ _ z=>z);obtain ⟨it,fp,tn,J,H2,e,I2,T,st2,f2,tr⟩:=h2;subst e;refine thn (uV hc I2 T st2 f2 ok hk hg hl ht he tr) fun acc s3 h3=>thn h3 fun cenv s4 h4=>codeAny_mono h4 fun r s5 hr=>?_;obtain ⟨⟨fl,e1⟩,p,ys,H5,e2,I5,hp,q,⟨m,hn⟩,c0,c1,c2,c3,c4⟩:=hr;subst e1;subst e2;show wpAny _ X.A (assign (.Name y py) X.env (.ref p)) _ _ s5;refine wpAny_assign_Name (tu (v:=.ref p) I5 hN hj (.inl hy) rfl (fun s6 I6 ⟨a,sb,ha⟩=>?_) (.inr hy));have ea:cenv.locals≠a:=by
  rcases ha with z|z
  ·rw [z];exact c1
  ·exact fun e=>c3 y a z e.symm
 refine ⟨m,hn.sameBut sb ea,fun h' sb'=>?_⟩
 exact ⟨_,_,I6.turned (t':=s6.toks) (fun b o hb e=>(sb'.2 b hb).trans e) c0 c1 (.inr c2) c3 c4,q p hp⟩
end
section
theorem yc:∀{bs:List Bool} {us:List Value},Vals (bs.map V.bl) us->LSm.BoolsAre us bs
 |[],_,.nil=>.nil
 |b::r,_,.cons e t=>by cases e;exact .cons b (yc t)
theorem call_all (hc:X.calm=true):iq X (.builtin "all") (fun xs H Q=>∃(a:Addr) (bs:List Bool),xs=[.ref a]/\SqL X.K H a (bs.map V.bl)/\Q (.bl (bs.all id)) H):=by
 intro pins s σ H xs us Q I r h;obtain ⟨a,bs,rfl,hq,q⟩:=h;obtain ⟨u,rfl,ru⟩:=r.one;cases ru;obtain ⟨its,rv,p,hz⟩:=I.list hq;have hb:=yc rv;have hl:=p.isList;have hlt:a<s.heap.objs.size:=by obtain ⟨_,e,_⟩:=hl;exact Heap.lt_size e
 refine call_all_walk (wpAny_pyIter_list hl ?_);refine ⟨s.heap.objs.size,[s.heap.objs.size,a],[s.heap.objs.size],its.toArray.size,_,_,fun i=>(bs[i]?).getD true,rfl,Walks.list (A:=X.A.in1) (I.ok.hd hc) _ a (Nat.ne_of_lt hlt) its.toArray,
  ⟨⟨_,Heap.get?_push_size _ rfl,rfl,rfl⟩,hl.push _⟩,fun i v s' Q' E' hP hQ=>?_,fun h' tk hk=>?_⟩
 ·obtain ⟨b,e,rfl⟩:=hb.get i v (by simpa using hP);simp only [e,Option.getD_some] at hQ;exact wpAny_truthy_bool hQ
 ·have e:((List.range its.toArray.size).all fun i=>(bs[i]?).getD true)=bs.all id:=by
   rw [List.size_toArray,hb.length];exact LSm.range_all bs
  rw [e];exact ⟨.bl (bs.all id),H,I.kept (LSm.kept_iter hk),rfl,q⟩
theorem Vals.atA (r:Vals xs us) (h:j<us.toArray.size):∃x,xs[j]? =some x/\RelV x us.toArray[j]:=by
 have hl:=r.length;have hj:j<xs.length:=by rw [hl];simpa using h
 obtain ⟨u,e1,e2⟩:=r.get (i:=j) (x:=xs[j]) (by simp [hj]);refine ⟨xs[j],by simp [hj],?_⟩
 have:us.toArray[j]=u:=by
  have h':j<us.length:=by simpa using h
  rw [List.getElem?_eq_getElem h'] at e1;simpa using Option.some.inj e1
 rw [this];exact e2
end
section
theorem pe_tyN (hg:Gl X x) (hm:X.mg x=none) (hv:bootBuiltins x=some (.type T)) (hn:x≠"__name__":=by decide) (hd:(x==("__debug__":Str))=false:=by decide):PE X (.Name x pos) (tC (.ty T)):=pe_bltn (v:=.ty T) hg hm hv rfl hn hd
theorem pe_gint {n:Int} (hg:Gl X x) (hm:∃t,X.mg x=some (.int n t)) (hd:(x==("__debug__":Str))=false:=by decide):PE X (.Name x pos) (tC (.int n)):=by
 obtain ⟨t,e⟩:=hm;exact vQ (v:=.int n) hg e ⟨t,rfl⟩ hd
end
section
variable {mg:Mq} {base:Heap} 
theorem Fun.okX (F:Fun K x qual st f fd) (S:gQ N ps (aJ st)) (len:∀vs H Q E,sp vs H Q E->vs.length=ps.length)
  (hbody:∀(cdv:Value) (A:Around) (outer:List Env) (s:Shared) (H:Hp) (vs:List V) (Q:VK) (E:XK),ip k (A.deeper (envOfC qual (aJ st) s.heap.objs.size f cdv))->sp vs H Q E ->
   ∃t,PSs (cxOf CX P w K mg base N qual (aJ st) f cdv A outer s H E).nox (bP st) t/\t {nx:=fun _ H'=>Q .non H',rt:=Q} (start N vs) H):iJ P w K mg base CX (k+1) f fd ps sp:=by
 obtain ⟨oc,od,kV,doc,pm,an,cdv,ct,osl,rfl,lk,hcd⟩:=F.ex;refine fn_of lk hcd S len fun A outer s H vs Q E hr hsp=>?_;obtain ⟨t,h,q⟩:=hbody cdv A outer s H vs Q E hr hsp;exact ⟨t,h.nox,q⟩
structure Def (K:Fg) (mg:Mq) (x:Str) (st:Stmt) (ps:List Str) (f:Addr) (fd:FuncData):Prop where
 fn:Fun K x x st f fd
 mg:mg x=some (.ref f)
 bd:Binds K fd ps []
theorem def_of (KX:K.In h) (G:h.Ns mainGlobals mg) {kV:Value}
  (a:nsIn K mainGlobals x=some (some (.ref f))) (l:K.lookup f=some ⟨oc,od,.func (fnOf x x (cV st) (bP st) (aJ st) .none kV doc pm an cdv ct),osl⟩) (c:codeIn K cdv x=true) (k:keepIn K (.ref f)=true)
  (hb:∀(kV doc pm:Value) (an:Option Addr) (cdv ct:Value) (us:List Value),us.length=ps.length->bindArgs (fnOf x x (cV st) (bP st) (aJ st) .none kV doc pm an cdv ct) ⟨us,[]⟩=pure (ps.zip us)) :
  Def K mg x st ps f (fnOf x x (cV st) (bP st) (aJ st) .none kV doc pm an cdv ct):=
 ⟨xO l c k,mg_of KX G a,(xO l c k).binds hb⟩
structure Mth (K:Fg) (C:Addr) (x qual:Str) (st:Stmt) (ps:List Str) (f:Addr) (fd:FuncData):Prop where
 fn:Fun K x qual st f fd
 mt:Meth K C x f
 bd:Binds K fd ps []
theorem mth_of {kV:Value}
  (a:findIn K (.ref C) x=some (some (.ref f))) (i:isFn K (.ref f)=true) (l:K.lookup f=some ⟨oc,od,.func (fnOf x qual (cV st) (bP st) (aJ st) .none kV doc pm an cdv ct),osl⟩) (c:codeIn K cdv qual=true) (k:keepIn K (.ref f)=true)
  (hb:∀(kV doc pm:Value) (an:Option Addr) (cdv ct:Value) (us:List Value),us.length=ps.length->bindArgs (fnOf x qual (cV st) (bP st) (aJ st) .none kV doc pm an cdv ct) ⟨us,[]⟩=pure (ps.zip us)) :
  Mth K C x qual st ps f (fnOf x qual (cV st) (bP st) (aJ st) .none kV doc pm an cdv ct):=
 ⟨xO l c k,⟨a,i,k⟩,(xO l c k).binds hb⟩
structure Kls (K:Fg) (mg:Mq) (x:Str) (C:Addr):Prop where
 cl:Cls K C
 mg:mg x=some (.ref C)
 mks:makesIn K C=true
 kp:keepIn K (.ref C)=true
 c1:findIn K (.ref C) "__class__"=some (some (.builtin "object.__class__"))
 c2:specialIn K (.builtin "object.__class__") "__get__"=some (some (.builtin "getset_descriptor.__get__"))
 c3:takesIn K (.builtin "object.__class__")=some true
 c4:mroIn K C (.type "object")=some true
theorem Kls.ty {fs:List (Str×V)} (k:Kls K mg x C) (e:H a=some (.ins C dx fs)):zv K H (.ref a) (.ref C):=.ins e k.cl k.c1 k.c2 k.c3 k.c4
theorem kls_of (KX:K.In h) (G:h.Ns mainGlobals mg) (a:nsIn K mainGlobals x=some (some (.ref C)))
  (pg:plainGet K C Str.empty=true) (hd:hasDictIn K C=true) (po:plainOver K C=true) (sa:findIn K (.ref C) "__setattr__"=some (some (.builtin "object.__setattr__"))) (mk:makesIn K C=true) (kp:keepIn K (.ref C)=true)
  (c1:findIn K (.ref C) "__class__"=some (some (.builtin "object.__class__"))) (c2:specialIn K (.builtin "object.__class__") "__get__"=some (some (.builtin "getset_descriptor.__get__")))
  (c3:takesIn K (.builtin "object.__class__")=some true) (c4:mroIn K C (.type "object")=some true):Kls K mg x C:=
 ⟨⟨pg,hd,po,sa⟩,mg_of KX G a,mk,kp,c1,c2,c3,c4⟩
end
section
theorem pg_c (hN:N'.Nodup) (hi:N'[i]? =some x) (hx:Loc (ba X N' sc L cs s H fp).env.scope x)
  (hf:(ba X N' sc L cs s H fp).fn x=true\/(ba X N' sc L cs s H fp).env.scope.names.lookup x=some .local:=by first|exact .inl rfl|exact .inr rfl|assumption):PG (ba X N' sc L cs s H fp) (.Name x pos) (gN i):=lE hN hi hx hf
end
theorem aN.upd {H:Hp} {a:Addr} {o:HO} (h:H a=none):aN H (upd H a o):=fun b u e=>by rw [au (aR e h)];exact e
section
variable {dvs:List V} {ds:List Value} {t:TA} 
structure Stat (K:Fg) (C:Addr) (mc:Value) (m:Str) (f:Addr):Prop where
 s1:specialIn K (.ref C) "__getattribute__"=some (some (.builtin "type.__getattribute__"))
 s2:PySem.W.readsIn K C mc=true
 s3:PySem.W.findCls K (.ref C) mc m=some (.val (.ref f))
 s4:keepIn K (.ref f)=true
theorem pe_cmeth (S:Stat X.K C mc m f) (hg:Gl X x) (hm:X.mg x=some (.ref C)) (F:iJ X.prog X.w X.K X.mg X.base CX k f fd ps sp) (hr:ip k X.A) (hb:Binds X.K fd ps ds) (hd:Vals dvs ds) (hx:Passes CX X E) (ha:PA X (e::es) t)
  (hdb:(x==("__debug__":Str))=false:=by decide)
  (hst:starEach (e::es) X.env=(false,eval e X.env)::starEach es X.env:=by rfl) (hpl:(backTo pos (starEach es X.env)).any (·.1)=false:=by rfl)
  (ht:eval (.Call (.Attribute (.Name x p) m apos) (e::es) [] pos) X.env=(do
   let ov <- eval (.Name x p) X.env
   standAt apos.atName
   let (f,first) <- holding [ov] (getMethod ov m pl)
   callWith pos f first (backTo pos (starEach (e::es) X.env)) (backToKw pos (keywordEach [] X.env))):=by rfl) :
  PE X (.Call (.Attribute (.Name x p) m apos) (e::es) [] pos) (gr sp dvs E t):=by
 intro pins s σ H Q I h;refine PySem.W.methodCall_KW (pl:=pl) (om I hg hm ?_ hdb) ht;refine PySem.W.method_cls I.kIn S.s1 (PySem.W.cls_value I.kIn S.s2 S.s3 rfl ?_);refine callWith_K (first:=[]) (h₀:=X.base) I.ok.mod.kin S.s4 (thn (ha pos pins _ σ H _ (I.tok (s.toks+1)) h) fun us s2 ⟨vs,H2,I2,r,q2⟩=>⟨I2.kIn,?_⟩) hst hpl;exact zZ (us:=us) (vs:=vs) F hr hb hd hx I2 r q2
end
section
variable {a:Expr} 
noncomputable def zM (r r' r'':R2) (ta tb tc td:TE):TE:=fun σ H Q=>ta σ H fun x H1=>tb σ H1 fun y H2=>r x y H2 fun z H3=>∃k,z=.bl k /\
 (if k=true then tc σ H3 fun x' H4=>r' y x' H4 fun z' H5=>∃k',z'=.bl k'/\(if k'=true then td σ H5 fun y' H6=>r'' x' y' H6 Q else Q (.bl false) H5) else Q (.bl false) H3)
theorem aN.tup {a:Addr} (e:aN H H') (h:SqT K H a xs):SqT K H' a xs:=by
 rcases h with (h|⟨o,h⟩)|h
 ·exact .inl (.inl (e _ _ h))
 ·exact .inl (.inr ⟨o,e _ _ h⟩)
 ·exact .inr h
end
theorem eE (h:H a=some (.lst xs)):tyV K "list" (.ref a) H:=.inl ⟨rfl,_,SqL.of h⟩
inductive Dat where
 |non|bl (b:Bool)|int (i:Int)|str (x:Str)|tup (ds:List Dat)|lst (ds:List Dat)|ins (C:Addr) (fs:List (Str×Dat))|dic (ks:List (List Int×Dat))|dil (ks:List (Int×List (List Int)))
variable {t d d':Dat} {ds ds':List Dat} {r:Bool×List Dat} {ks:List (List Int×Dat)}
noncomputable abbrev ll:=List Int×Addr×V
noncomputable def tHash (ks:List Int):Int:=reduceHash (PySem.Builtin.Tuple.tupleHashOf (ks.map hashInt))
noncomputable def rowE (x:List Int×Addr×Value):DictEntry:=⟨tHash x.1,.ref x.2.1,x.2.2⟩
noncomputable def lb (p:ll) (q:List Int×Addr×Value):Prop:=p.1=q.1/\p.2.1=q.2.1/\RelV p.2.2 q.2.2
noncomputable def mh (h:Heap) (a:Addr) (xs:List ll) (ep:Nat):Prop:=∃vs:List (List Int×Addr×Value),Paired lb xs vs/\(a==sysModules)=false/\xs.length<=sizeLine/\(vs.map (·.1)).Nodup/\∃o es,h.get? a=some o/\o.ExactDict/\o.data=.dict es ep/\es.toList=vs.map rowE
noncomputable def vd (a:Addr) (xs:List ll) (ep:Nat):HO:=.ext fun h=>mh h a xs ep
noncomputable abbrev LK:=Int×List (List Int)
noncomputable def lHash (k:LK):Int:=reduceHash (PySem.Builtin.Tuple.tupleHashOf [hashInt k.1,reduceHash (PySem.Builtin.Tuple.tupleHashOf (k.2.map tHash))])
noncomputable def rowL (x:LK×Addr):DictEntry:=⟨lHash x.1,.ref x.2,.bool true⟩
noncomputable def DilOk (h:Heap) (a:Addr) (xs:List (LK×Addr)) (ep:Nat):Prop:=(a==sysModules)=false/\xs.length<=sizeLine/\(xs.map (·.1)).Nodup/\∃o es,h.get? a=some o/\o.ExactDict/\o.data=.dict es ep/\es.toList=xs.map rowL
noncomputable def DilO (a:Addr) (xs:List (LK×Addr)) (ep:Nat):HO:=.ext fun h=>DilOk h a xs ep
noncomputable def LabAt (K:Fg) (F:Hp) (b:Addr) (k:LK):Prop:=∃(r:Addr) (bs:List Addr),SqT K F b [V.int k.1,V.ref r]/\SqT K F r (bs.map V.ref)/\bs.length=k.2.length/\∀(j:Nat) (row:List Int) (c:Addr),k.2[j]? =some row->bs[j]? =some c->SqT K F c (row.map V.int)
noncomputable def zw (K:Fg) (F:Hp) (ks:List LK) (xs:List (LK×Addr)):Prop:=xs.map (·.1)=ks/\∀x∈xs,LabAt K F x.2 x.1
mutual
noncomputable def aQ (K:Fg) (F:Hp):Dat->V->Prop
 |.non,v=>v=.non
 |.bl b,v=>v=.bl b
 |.int i,v=>v=.int i
 |.str x,v=>v=.str x
 |.tup ds,v=>∃a xs,v=.ref a/\SqT K F a xs/\az K F ds xs
 |.lst ds,v=>∃a xs,v=.ref a/\SqL K F a xs/\az K F ds xs
 |.ins C gs,v=>∃a dx fs,v=.ref a/\F a=some (.ins C dx fs)/\jf K F gs fs
 |.dic ks,v=>∃a xs,v=.ref a/\(∃ep,F a=some (vd a xs ep))/\cB K F ks xs
 |.dil ks,v=>∃a xs,v=.ref a/\(∃ep,F a=some (DilO a xs ep))/\zw K F ks xs
noncomputable def az (K:Fg) (F:Hp):List Dat->List V->Prop
 |[],xs=>xs=[]
 |d::ds,xs=>∃v vs,xs=v::vs/\aQ K F d v/\az K F ds vs
noncomputable def jf (K:Fg) (F:Hp):List (Str×Dat)->List (Str×V)->Prop
 |[],fs=>fs=[]
 |(f,d)::gs,fs=>∃v r,fs=(f,v)::r/\aQ K F d v/\jf K F gs r
noncomputable def cB (K:Fg) (F:Hp):List (List Int×Dat)->List ll->Prop
 |[],xs=>xs=[]
 |(k,d)::ks,xs=>∃b v r,xs=(k,b,v)::r/\SqT K F b (k.map .int)/\aQ K F d v/\cB K F ks r
end
mutual
noncomputable def jv:Dat->Bool
 |.tup ds=>oZ ds
 |.lst _=>false
 |.ins _ _=>false
 |.dic _=>false
 |.dil _=>false
 |_=>true
noncomputable def oZ:List Dat->Bool
 |[]=>true
 |d::ds=>jv d&&oZ ds
end
theorem aN.lst (e:aN H H') (h:SqL K H a xs):SqL K H' a xs:=by
 rcases h with (h|⟨o,h⟩)|h
 ·exact .inl (.inl (e _ _ h))
 ·exact .inl (.inr ⟨o,e _ _ h⟩)
 ·exact .inr h
theorem LabAt.mono (s:aN F F') {k:LK} (h:LabAt K F b k):LabAt K F' b k:=
 let ⟨r,bs,t1,t2,l,t3⟩:=h;⟨r,bs,s.tup t1,s.tup t2,l,fun j row c e1 e2=>s.tup (t3 j row c e1 e2)⟩
theorem zw.mono {K:Fg} {F F':Hp} (s:aN F F') {ks:List LK} {xs:List (LK×Addr)} (h:zw K F ks xs):zw K F' ks xs:=⟨h.1,fun x hx=>(h.2 x hx).mono s⟩
mutual
theorem aQ.mono {K:Fg} {F F':Hp} (s:aN F F'):∀{d:Dat} {v:V},aQ K F d v->aQ K F' d v
 |.non,_,h=>h
 |.bl _,_,h=>h
 |.int _,_,h=>h
 |.str _,_,h=>h
 |.tup _,_,⟨a,xs,e,q,r⟩=>⟨a,xs,e,s.tup q,az.mono s r⟩
 |.lst _,_,⟨a,xs,e,q,r⟩=>⟨a,xs,e,s.lst q,az.mono s r⟩
 |.ins _ _,_,⟨a,dx,fs,e,q,r⟩=>⟨a,dx,fs,e,s _ _ q,jf.mono s r⟩
 |.dic _,_,⟨a,xs,e,⟨ep,q⟩,r⟩=>⟨a,xs,e,⟨ep,s _ _ q⟩,cB.mono s r⟩
 |.dil _,_,⟨a,xs,e,⟨ep,q⟩,r⟩=>⟨a,xs,e,⟨ep,s _ _ q⟩,zw.mono s r⟩
theorem az.mono {K:Fg} {F F':Hp} (s:aN F F'):∀{ds:List Dat} {xs:List V},az K F ds xs->az K F' ds xs
 |[],_,h=>h
 |_::_,_,⟨v,vs,e,q,r⟩=>⟨v,vs,e,aQ.mono s q,az.mono s r⟩
theorem jf.mono {K:Fg} {F F':Hp} (s:aN F F'):∀{gs:List (Str×Dat)} {fs:List (Str×V)},jf K F gs fs->jf K F' gs fs
 |[],_,h=>h
 |(_,_)::_,_,⟨v,r,e,q,t⟩=>⟨v,r,e,aQ.mono s q,jf.mono s t⟩
theorem cB.mono {K:Fg} {F F':Hp} (s:aN F F'):∀{ks:List (List Int×Dat)} {xs:List ll},cB K F ks xs->cB K F' ks xs
 |[],_,h=>h
 |(_,_)::_,_,⟨b,v,r,e,t,q,z⟩=>⟨b,v,r,e,s.tup t,aQ.mono s q,cB.mono s z⟩
end
mutual
theorem aQ.flat {K:Fg} {F F':Hp} (s:∀a xs,SqT K F a xs->SqT K F' a xs):∀{d:Dat} {v:V},jv d=true->aQ K F d v->aQ K F' d v
 |.non,_,_,h=>h
 |.bl _,_,_,h=>h
 |.int _,_,_,h=>h
 |.str _,_,_,h=>h
 |.tup ds,_,f,⟨a,xs,e,q,r⟩=>⟨a,xs,e,s _ _ q,az.flat s (by simpa [jv] using f) r⟩
 |.lst _,_,f,_=>by simp [jv] at f
 |.ins _ _,_,f,_=>by simp [jv] at f
 |.dic _,_,f,_=>by simp [jv] at f
 |.dil _,_,f,_=>by simp [jv] at f
theorem az.flat {K:Fg} {F F':Hp} (s:∀a xs,SqT K F a xs->SqT K F' a xs):∀{ds:List Dat} {xs:List V},oZ ds=true->az K F ds xs->az K F' ds xs
 |[],_,_,h=>h
 |d::ds,_,f,⟨v,vs,e,q,r⟩=>by
  simp only [oZ,Bool.and_eq_true] at f;exact ⟨v,vs,e,aQ.flat s f.1 q,az.flat s f.2 r⟩
end
theorem az.length {K:Fg} {F:Hp}:∀{ds:List Dat} {xs:List V},az K F ds xs->xs.length=ds.length
 |[],_,h=>by rw [show _=[] from h];rfl
 |_::_,_,⟨_,_,e,_,r⟩=>by rw [e,List.length_cons,List.length_cons,az.length r]
theorem az.get {K:Fg} {F:Hp}:∀{ds:List Dat} {xs:List V} {i:Nat} {d:Dat},az K F ds xs->ds[i]? =some d->∃v,xs[i]? =some v/\aQ K F d v
 |[],_,_,_,_,e=>by simp at e
 |_::_,_,0,_,⟨v,vs,e,q,_⟩,h=>by
  simp only [List.getElem?_cons_zero,Option.some.injEq] at h;subst h e;exact ⟨v,rfl,q⟩
 |_::_,_,i+1,_,⟨v,vs,e,_,r⟩,h=>by
  subst e;simp only [List.getElem?_cons_succ] at h ⊢;exact az.get r h
theorem az.at {K:Fg} {F:Hp} {ds:List Dat} {xs:List V} {i:Nat} {v:V} (r:az K F ds xs) (h:xs[i]? =some v):∃d,ds[i]? =some d/\aQ K F d v:=by
 have hi:i<ds.length:=by rw [<- r.length];exact (List.getElem?_eq_some_iff.mp h).1
 obtain ⟨w,e,q⟩:=r.get (i:=i) (d:=ds[i]) (by simp [hi]);rw [h] at e;have e':=Option.some.inj e;subst e';exact ⟨ds[i],by simp [hi],q⟩
theorem az.nil:az K F [] []:=rfl
theorem az.cons (q:aQ K F d v) (r:az K F ds xs):az K F (d::ds) (v::xs):=⟨v,xs,rfl,q,r⟩
theorem az.append {K:Fg} {F:Hp}:∀{ds es:List Dat} {xs ys:List V},az K F ds xs->az K F es ys->az K F (ds++es) (xs++ys)
 |[],_,_,_,h,r=>by rw [show _=[] from h];exact r
 |_::_,_,_,_,⟨v,vs,e,q,t⟩,r=>by subst e;exact ⟨v,_,rfl,q,az.append t r⟩
theorem az.take {K:Fg} {F:Hp}:∀{ds:List Dat} {xs:List V} (n:Nat),az K F ds xs->az K F (ds.take n) (xs.take n)
 |_,_,0,_=>rfl
 |[],_,_+1,h=>by rw [show _=[] from h];rfl
 |_::_,_,n+1,⟨v,vs,e,q,r⟩=>by subst e;exact ⟨v,_,rfl,q,az.take n r⟩
theorem az.drop {K:Fg} {F:Hp}:∀{ds:List Dat} {xs:List V} (n:Nat),az K F ds xs->az K F (ds.drop n) (xs.drop n)
 |_,_,0,h=>h
 |[],_,_+1,h=>by rw [show _=[] from h];rfl
 |_::_,_,n+1,⟨v,vs,e,q,r⟩=>by subst e;exact az.drop n r
theorem az.eraseIdx {K:Fg} {F:Hp}:∀{ds:List Dat} {xs:List V} (n:Nat),az K F ds xs->az K F (ds.eraseIdx n) (xs.eraseIdx n)
 |[],_,_,h=>by rw [show _=[] from h];rfl
 |_::_,_,0,⟨w,vs,e,_,r⟩=>by subst e;exact r
 |_::_,_,n+1,⟨w,vs,e,p,r⟩=>by subst e;exact ⟨w,_,rfl,p,az.eraseIdx n r⟩
theorem az.of_get {K:Fg} {F:Hp}:∀{ds:List Dat} {xs:List V},xs.length=ds.length->(∀(i:Nat) d v,ds[i]? =some d->xs[i]? =some v->aQ K F d v)->az K F ds xs
 |[],[],_,_=>rfl
 |[],_::_,h,_=>by simp at h
 |_::_,[],h,_=>by simp at h
 |d::ds,v::vs,h,q=>⟨v,vs,rfl,q 0 d v rfl rfl,az.of_get (by simpa using h) fun i e w h1 h2=>q (i+1) e w (by simpa using h1) (by simpa using h2)⟩
structure Step (F H F' H':Hp):Prop where
 ff:aN F F'
 hh:aN H H'
 fh:aN F' H'
 nw:∀b o,F' b=some o->F b=some o\/H b=none
theorem Step.refl {F H:Hp} (s:aN F H):Step F H F H:=⟨aN.refl _,aN.refl _,s,fun _ _ h=>.inl h⟩
theorem Step.trans {F H F1 H1 F2 H2:Hp} (a:Step F H F1 H1) (b:Step F1 H1 F2 H2):Step F H F2 H2:=
 ⟨a.ff.trans b.ff,a.hh.trans b.hh,b.fh,fun x o h=>(b.nw x o h).elim (fun z=>a.nw x o z) fun z=>.inr (a.hh.free z)⟩
theorem Step.lay {p:Addr} (s:aN F H) (hp:H p=none):Step F H (upd F p o) (upd H p o):=
 ⟨aN.upd (s.free hp),aN.upd hp,fun b u h=>by
  by_cases e:b=p
  ·subst e;rw [ay] at h ⊢;exact h
  ·rw [au e] at h ⊢;exact s b u h,fun b u h=>by
  by_cases e:b=p
  ·subst e;exact .inr hp
  ·rw [au e] at h;exact .inl h⟩
theorem Step.grow {p:Addr} (s:aN F H) (hp:H p=none):Step F H F (upd H p o):=
 ⟨aN.refl _,aN.upd hp,s.trans (aN.upd hp),fun _ _ h=>.inl h⟩
theorem Step.same (s:aN F H) (h:aN H H'):Step F H F H':=⟨aN.refl _,h,s.trans h,fun _ _ z=>.inl z⟩
noncomputable def k7 (K:Fg) (F H0 H:Hp):Dat->V->Prop
 |.lst ds,v=>∃a xs,v=.ref a/\H a=some (.lst xs)/\F a=none/\H0 a=none/\az K F ds xs
 |.dic ks,v=>∃a xs,v=.ref a/\(∃ep,H a=some (vd a xs ep))/\F a=none/\H0 a=none/\cB K F ks xs
 |.dil ks,v=>∃a xs,v=.ref a/\(∃ep,H a=some (DilO a xs ep))/\F a=none/\H0 a=none/\zw K F ks xs
 |d,v=>aQ K F d v
noncomputable def isO:Dat->Bool
 |.lst _=>true
 |.dic _=>true
 |.dil _=>true
 |_=>false
noncomputable def isMu:HO->Bool
 |.lst _=>true
 |.ext _=>true
 |_=>false
theorem k7.non (hd:isO d=false):k7 K F H0 H d v=aQ K F d v:=by
 cases d<;>first|rfl|cases hd
theorem k7.top (hd:isO d=true) (q:k7 K F H0 H d v):∃a o,v=.ref a/\H a=some o/\isMu o=true/\F a=none/\H0 a=none:=by
 cases d with
 |lst ds=>obtain ⟨a,xs,e,p,f,z,_⟩:=q;exact ⟨a,_,e,p,rfl,f,z⟩
 |dic ks=>obtain ⟨a,xs,e,⟨ep,p⟩,f,z,_⟩:=q;exact ⟨a,_,e,p,rfl,f,z⟩
 |dil ks=>obtain ⟨a,xs,e,⟨ep,p⟩,f,z,_⟩:=q;exact ⟨a,_,e,p,rfl,f,z⟩
 |_=>cases hd
theorem k7.re (hd:isO d=true) (q:k7 K F H0 H d (.ref a)) (ff:aN F F') (fa:F' a=none) (hh:∀o,H a=some o->H' a=some o):k7 K F' H0 H' d (.ref a):=by
 cases d with
 |lst ds=>obtain ⟨b,xs,e,p,f,z,r⟩:=q;cases e;exact ⟨a,xs,rfl,hh _ p,fa,z,r.mono ff⟩
 |dic ks=>obtain ⟨b,xs,e,⟨ep,p⟩,f,z,r⟩:=q;cases e;exact ⟨a,xs,rfl,⟨ep,hh _ p⟩,fa,z,r.mono ff⟩
 |dil ks=>obtain ⟨b,xs,e,⟨ep,p⟩,f,z,r⟩:=q;cases e;exact ⟨a,xs,rfl,⟨ep,hh _ p⟩,fa,z,r.mono ff⟩
 |_=>cases hd
theorem k7.give (hd:isO d=true) (q:k7 K F H0 H d (.ref a)) (ff:aN F F') (fa:F' a=H a):aQ K F' d (.ref a):=by
 cases d with
 |lst ds=>obtain ⟨b,xs,e,p,f,z,r⟩:=q;cases e;exact ⟨a,xs,rfl,SqL.of (fa.trans p),r.mono ff⟩
 |dic ks=>obtain ⟨b,xs,e,⟨ep,p⟩,f,z,r⟩:=q;cases e;exact ⟨a,xs,rfl,⟨ep,fa.trans p⟩,r.mono ff⟩
 |dil ks=>obtain ⟨b,xs,e,⟨ep,p⟩,f,z,r⟩:=q;cases e;exact ⟨a,xs,rfl,⟨ep,fa.trans p⟩,r.mono ff⟩
 |_=>cases hd
noncomputable def Val (K:Fg) (own:Bool) (F H0 H:Hp) (d:Dat) (v:V):Prop:=if own=true then k7 K F H0 H d v else aQ K F d v
theorem k7.back (s:aN H0 H1) (h:k7 K F H1 H d v):k7 K F H0 H d v:=by
 cases d with
 |lst ds=>obtain ⟨a,xs,e,p,q,z,r⟩:=h;exact ⟨a,xs,e,p,q,s.free z,r⟩
 |dic ks=>obtain ⟨a,xs,e,p,q,z,r⟩:=h;exact ⟨a,xs,e,p,q,s.free z,r⟩
 |dil ks=>obtain ⟨a,xs,e,p,q,z,r⟩:=h;exact ⟨a,xs,e,p,q,s.free z,r⟩
 |_=>exact h
theorem Val.back {K:Fg} {own:Bool} {F H0 H1 H:Hp} {d:Dat} {v:V} (s:aN H0 H1) (h:Val K own F H1 H d v):Val K own F H0 H d v:=by
 cases own with
 |true=>exact k7.back s h
 |false=>exact h
theorem k7.freeze (s:aN F H) (h:k7 K F H0 H d v):∃F',aN F F'/\aN F' H/\(∀b o,F' b=some o->F b=some o\/H0 b=none)/\aQ K F' d v:=by
 cases hd:isO d with
 |true=>
  obtain ⟨a,u,e,p,_,q,z⟩:=h.top hd;subst e;refine ⟨upd F a u,aN.upd q,fun b o h=>?_,fun b o h=>?_,h.give hd (aN.upd q) (by rw [ay,p])⟩
  ·by_cases e:b=a
   ·subst e;rw [ay] at h;rw [p,<- h]
   ·rw [au e] at h;exact s b o h
  ·by_cases e:b=a
   ·subst e;exact .inr z
   ·rw [au e] at h;exact .inl h
 |false=>rw [k7.non hd] at h;exact ⟨F,aN.refl _,s,fun _ _ z=>.inl z,h⟩
inductive Err where
 |stuck|exc (C:Addr) (fs:List (Str×Dat))
noncomputable abbrev M:=Except Err
variable {mg mk mf mw:List Dat->M Dat} {g' g'':Dat->Dat->M Dat} {mr:List Dat->List Dat->M (Bool×List Dat)}
noncomputable abbrev ai:=List (Option Dat)
variable {ρ ρ':ai} {fa fb fc fe fo fk fx f3 f4 f5 fv:ai->M Dat} {ft fu t1 t2:ai->M Bool} {fi:ai->M (List Dat)} {fl:ai->M (Option Int)}
structure du where
 p:Err->Hp->Hp->Prop
 mono:∀{e:Err} {F H F' H':Hp},p e F H->Step F H F' H'->p e F' H'
 ns:∀{F H:Hp},p .stuck F H->False
noncomputable def Wno:du:=⟨fun _ _ _=>False,fun h _=>h,fun h=>h⟩
noncomputable def aC (K:Fg) (W:du) (own:Bool) (F H:Hp) (r:M Dat) (Q:VK):Prop:=match r with
 |.ok d=>∀v F' H',Step F H F' H'->Val K own F' H H' d v->Q v H'
 |.error e=>W.p e F H
theorem aC.step {W:du} {own:Bool} {r:M Dat} (p:aC K W own F H r Q) (s:Step F H F1 H1):aC K W own F1 H1 r Q:=by
 cases r with
 |ok d=>exact fun v F' H' t q=>p v F' H' (s.trans t) (q.back s.hh)
 |error e=>exact W.mono p s
theorem aC.frz {W:du} {r:M Dat} (p:aC K W false F H r Q):aC K W true F H r Q:=by
 cases r with
 |ok d=>
  intro v F' H' t q;obtain ⟨F2,s1,s2,n,z⟩:=k7.freeze t.fh q;exact p v F2 H' ⟨t.ff.trans s1,t.hh,s2,fun b o h=>(n b o h).elim (fun z=>t.nw b o z) .inr⟩ z
 |error e=>exact p
structure dP (K:Fg) (F:Hp) (σ:St) (ρ:ai):Prop where
 len:ρ.length=σ.length
 sl:∀(i:Nat) (d:Dat),ρ[i]? =some (some d)->∃v,σ[i]? =some (some v)/\aQ K F d v
theorem dP.mono {K:Fg} {F F':Hp} {σ:St} {ρ:ai} (r:dP K F σ ρ) (s:aN F F'):dP K F' σ ρ:=
 ⟨r.len,fun i d e=>let ⟨v,h,q⟩:=r.sl i d e;⟨v,h,q.mono s⟩⟩
theorem dP.set {K:Fg} {F:Hp} {σ:St} {ρ:ai} {d:Dat} {v:V} (r:dP K F σ ρ) (q:aQ K F d v) (i:Nat):dP K F (σ.set i (some v)) (ρ.set i (some d)):=
 ⟨by rw [List.length_set,List.length_set,r.len],fun j e h=>by
  by_cases hij:i=j
  ·subst hij;have hi:i<ρ.length:=by
    have:=(List.getElem?_eq_some_iff.mp h).1;simpa using this
   rw [List.getElem?_set_self hi] at h;cases h;exact ⟨v,by rw [List.getElem?_set_self (by rw [<- r.len];exact hi)],q⟩
  ·rw [List.getElem?_set_ne hij] at h;obtain ⟨w,h1,h2⟩:=r.sl j e h;exact ⟨w,by rw [List.getElem?_set_ne hij];exact h1,h2⟩⟩
noncomputable def tD (K:Fg) (W:du) (own:Bool) (f:ai->M Dat):TE:=fun σ H Q=>∃F ρ,dP K F σ ρ/\aN F H/\aC K W own F H (f ρ) Q
theorem aT {W:du} {own:Bool} {f:ai->M Dat} {R:VK} (r:dP K F σ ρ) (s:aN F H) (hE:∀e,f ρ=.error e->W.p e F H)
  (hO:∀d,f ρ=.ok d->∀v F1 H1,Step F H F1 H1->Val K own F1 H H1 d v->R v H1):tD K W own f σ H R:=by
 refine ⟨F,ρ,r,s,?_⟩
 cases e:f ρ with
 |ok d=>exact hO d e
 |error x=>exact hE x e
noncomputable def tDT (K:Fg) (W:du) (f:ai->M Bool):TT:=fun σ H Q=>∃F ρ,dP K F σ ρ/\aN F H/\(match f ρ with
 |.ok b=>∀F' H',Step F H F' H'->Q b H'
 |.error e=>W.p e F H)
theorem fV {W:du} {f:ai->M Bool} (r:dP K F σ ρ) (s:aN F H) (hE:∀e,f ρ=.error e->W.p e F H)
  (hO:∀b,f ρ=.ok b->∀F1 H1,Step F H F1 H1->R b H1):tDT K W f σ H R:=by
 refine ⟨F,ρ,r,s,?_⟩
 cases e:f ρ with
 |ok d=>exact hO d e
 |error x=>exact hE x e
noncomputable def tDA (K:Fg) (W:du) (f:ai->M (List Dat)):TA:=fun σ H Q=>∃F ρ,dP K F σ ρ/\aN F H/\(match f ρ with
 |.ok ds=>∀vs F' H',Step F H F' H'->az K F' ds vs->Q vs H'
 |.error e=>W.p e F H)
theorem rC {W:du} {f:ai->M (List Dat)} {R:List V->Hp->Prop} (r:dP K F σ ρ) (s:aN F H) (hE:∀e,f ρ=.error e->W.p e F H)
  (hO:∀ds,f ρ=.ok ds->∀vs F1 H1,Step F H F1 H1->az K F1 ds vs->R vs H1):tDA K W f σ H R:=by
 refine ⟨F,ρ,r,s,?_⟩
 cases e:f ρ with
 |ok d=>exact hO d e
 |error x=>exact hE x e
noncomputable def ah (i:Nat):ai->M Dat:=fun ρ=>match ρ[i]? with
 |some (some d)=>.ok d
 |_=>.error .stuck
noncomputable def fC (d:Dat):ai->M Dat:=fun _=>.ok d
noncomputable def f1 (g:Dat->M Dat) (fa:ai->M Dat):ai->M Dat:=fun ρ=>(fa ρ).bind g
noncomputable def f2 (g:Dat->Dat->M Dat) (fa fb:ai->M Dat):ai->M Dat:=fun ρ=>(fa ρ).bind fun a=>(fb ρ).bind fun b=>g a b
noncomputable def aB:ai->M (List Dat):=fun _=>.ok []
noncomputable def aa (fa:ai->M Dat) (fr:ai->M (List Dat)):ai->M (List Dat):=fun ρ=>(fa ρ).bind fun a=>(fr ρ).bind fun r=>.ok (a::r)
noncomputable def fL (g:List Dat->M Dat) (fr:ai->M (List Dat)):ai->M Dat:=fun ρ=>(fr ρ).bind g
noncomputable def iQ (ds:List Dat):M Dat:=if ds.length<=sizeLine then .ok (.tup ds) else .error .stuck
noncomputable def cw (ds:List Dat):M Dat:=if ds.length<=sizeLine then .ok (.lst ds) else .error .stuck
noncomputable def fIte (ft:ai->M Bool) (fa fb:ai->M Dat):ai->M Dat:=fun ρ=>(ft ρ).bind fun b=>if b=true then fa ρ else fb ρ
noncomputable def Bc (ft fu:ai->M Bool):ai->M Bool:=fun ρ=>(ft ρ).bind fun b=>if b=true then fu ρ else .ok false
noncomputable def fOr (ft fu:ai->M Bool):ai->M Bool:=fun ρ=>(ft ρ).bind fun b=>if b=true then .ok true else fu ρ
noncomputable def sC (ft:ai->M Bool):ai->M Bool:=fun ρ=>(ft ρ).bind fun b=>.ok (!b)
noncomputable def asB:Dat->M Bool
 |.bl b=>.ok b
 |_=>.error .stuck
noncomputable def fB (fa:ai->M Dat):ai->M Bool:=fun ρ=>(fa ρ).bind asB
noncomputable def lY (fa fb:ai->M Dat):ai->M Dat:=fun ρ=>(fa ρ).bind fun a=>(asB a).bind fun b=>if b=true then fb ρ else .ok (.bl false)
noncomputable def Bb (fa fb:ai->M Dat):ai->M Dat:=fun ρ=>(fa ρ).bind fun a=>(asB a).bind fun b=>if b=true then .ok (.bl true) else fb ρ
noncomputable def notD:Dat->M Dat
 |.bl b=>.ok (.bl (!b))
 |_=>.error .stuck
noncomputable def truD:Dat->M Bool
 |.non=>.ok false
 |.bl b=>.ok b
 |.int i=>.ok (i != 0)
 |.str x=>if x.length<=sizeLine then .ok ((x.length:Int) != 0) else .error .stuck
 |.tup ds=>.ok (!ds.isEmpty)
 |.lst ds=>.ok (!ds.isEmpty)
 |_=>.error .stuck
noncomputable def lg (fa:ai->M Dat):ai->M Bool:=fun ρ=>(fa ρ).bind truD
noncomputable def iB (g g':Dat->Dat->M Dat) (fa fb fc:ai->M Dat):ai->M Dat:=fun ρ=>(fa ρ).bind fun a=>(fb ρ).bind fun b=>(g a b).bind fun x=>(asB x).bind fun k=>if k=true then (fc ρ).bind fun c=>g' b c else .ok (.bl false)
noncomputable def rD2 (K:Fg) (W:du) (own:Bool) (g:Dat->Dat->M Dat):R2:=fun x y H Q=>∃F a b,aN F H/\aQ K F a x/\aQ K F b y/\aC K W own F H (g a b) Q
noncomputable def rD1 (K:Fg) (W:du) (own:Bool) (g:Dat->M Dat):V->Hp->VK->Prop:=fun x H Q=>∃F a,aN F H/\aQ K F a x/\aC K W own F H (g a) Q
noncomputable def rDL (K:Fg) (W:du) (own:Bool) (g:List Dat->M Dat):List V->Hp->VK->Prop:=fun xs H Q=>∃F ds,aN F H/\az K F ds xs/\aC K W own F H (g ds) Q
section
variable {W:du} {own:Bool} 
theorem rd_var (h:tD K W false (ah i) σ H Q):bS i σ H Q:=by
 obtain ⟨F,ρ,r,s,p⟩:=h;unfold ah at p
 match e:ρ[i]? with
 |some (some d)=>
  rw [e] at p;obtain ⟨v,e1,q⟩:=r.sl i d e;exact ⟨v,e1,p v F H (Step.refl s) q⟩
 |some none=>rw [e] at p;exact (W.ns p).elim
 |none=>rw [e] at p;exact (W.ns p).elim
theorem rd_c (hd:∀F,aQ K F d v) (h:tD K W false (fC d) σ H Q):tC v σ H Q:=by
 obtain ⟨F,ρ,r,s,p⟩:=h;exact p v F H (Step.refl s) (hd F)
theorem aC.err {x:M Dat} {e:Err} (p:aC K W own F H x Q) (h:x=.error e):W.p e F H:=by rw [h] at p;exact p
theorem rd_1 {g:Dat->M Dat} (h:tD K W own (f1 g fa) σ H Q):tUn (rD1 K W own g) (tD K W false fa) σ H Q:=by
 obtain ⟨F,ρ,r,s,p⟩:=h;refine aT r s (fun e he=>p.err (by unfold f1;rw [he];rfl)) fun a ha x F1 H1 s1 q1=>?_;refine ⟨F1,a,s1.fh,q1,?_⟩
 have e:f1 g fa ρ=g a:=by unfold f1;rw [ha];rfl
 rw [e] at p;exact p.step s1
theorem rd_2 {g:Dat->Dat->M Dat} (h:tD K W own (f2 g fa fb) σ H Q):tOp (rD2 K W own g) (tD K W false fa) (tD K W false fb) σ H Q:=by
 obtain ⟨F,ρ,r,s,p⟩:=h;refine aT r s (fun e he=>p.err (by unfold f2;rw [he];rfl)) fun a ha x F1 H1 s1 q1=>?_;refine aT (r.mono s1.ff) s1.fh (fun e he=>(p.step s1).err (by unfold f2;rw [ha];show (fb ρ).bind _=_;rw [he];rfl)) fun b hb y F2 H2 s2 q2=>?_;refine ⟨F2,a,b,s2.fh,aQ.mono s2.ff q1,q2,?_⟩
 have e:f2 g fa fb ρ=g a b:=by unfold f2;rw [ha];show (fb ρ).bind _=_;rw [hb];rfl
 rw [e] at p;exact p.step (s1.trans s2)
theorem rd_nil {R:List V->Hp->Prop} (h:tDA K W aB σ H R):fU σ H R:=by
 obtain ⟨F,ρ,r,s,p⟩:=h;exact p [] F H (Step.refl s) rfl
theorem rd_cons {fr:ai->M (List Dat)} {R:List V->Hp->Prop} (h:tDA K W (aa fa fr) σ H R):aX (tD K W false fa) (tDA K W fr) σ H R:=by
 obtain ⟨F,ρ,r,s,p⟩:=h;refine aT r s (fun e he=>?_) fun a ha x F1 H1 s1 q1=>rC (r.mono s1.ff) s1.fh (fun e he=>?_) fun ds hd xs F2 H2 s2 q2=>?_
 ·have z:aa fa fr ρ=.error e:=by unfold aa;rw [he];rfl
  rw [z] at p;exact p
 ·have z:aa fa fr ρ=.error e:=by unfold aa;rw [ha];show (fr ρ).bind _=_;rw [he];rfl
  rw [z] at p;exact W.mono p s1
 ·have z:aa fa fr ρ=.ok (a::ds):=by unfold aa;rw [ha];show (fr ρ).bind _=_;rw [hd];rfl
  rw [z] at p;exact p (x::xs) F2 H2 (s1.trans s2) ⟨x,xs,rfl,aQ.mono s2.ff q1,q2⟩
theorem rd_L {g:List Dat->M Dat} {fr:ai->M (List Dat)} (h:tD K W own (fL g fr) σ H Q):tDA K W fr σ H fun xs H1=>rDL K W own g xs H1 Q:=by
 obtain ⟨F,ρ,r,s,p⟩:=h;refine rC r s (fun e he=>p.err (by unfold fL;rw [he];rfl)) fun ds hd xs F1 H1 s1 q1=>⟨F1,ds,s1.fh,q1,?_⟩
 have e:fL g fr ρ=g ds:=by unfold fL;rw [hd];rfl
 rw [e] at p;exact p.step s1
theorem rd_tup {fr:ai->M (List Dat)} (h:tD K W own (fL iQ fr) σ H Q):tTup (tDA K W fr) σ H Q:=by
 obtain ⟨F,ρ,r,s,p⟩:=rd_L h;refine ⟨F,ρ,r,s,?_⟩
 cases e:fr ρ with
 |error x=>rw [e] at p;exact p
 |ok ds=>
  rw [e] at p;intro vs F' H' t q;obtain ⟨F1,es,s1,q1,z⟩:=p vs F' H' t q;unfold iQ at z;by_cases hl:es.length<=sizeLine
  ·rw [if_pos hl] at z;refine ⟨by rw [q1.length];exact hl,fun a ha=>z (.ref a) _ _ (Step.lay s1 ha) ?_⟩
   have:aQ K (upd F1 a (.tup vs)) (.tup es) (.ref a):=⟨a,vs,rfl,SqT.of ay,q1.mono (aN.upd (s1.free ha))⟩
   cases own with
   |true=>exact this
   |false=>exact this
  ·rw [if_neg hl] at z;exact (W.ns z).elim
theorem rd_lst {fr:ai->M (List Dat)} (h:tD K W true (fL cw fr) σ H Q):tLst (tDA K W fr) σ H Q:=by
 obtain ⟨F,ρ,r,s,p⟩:=rd_L h;refine ⟨F,ρ,r,s,?_⟩
 cases e:fr ρ with
 |error x=>rw [e] at p;exact p
 |ok ds=>
  rw [e] at p;intro vs F' H' t q;obtain ⟨F1,es,s1,q1,z⟩:=p vs F' H' t q;unfold cw at z;by_cases hl:es.length<=sizeLine
  ·rw [if_pos hl] at z;exact ⟨by rw [q1.length];exact hl,fun a ha=>z (.ref a) F1 _ (Step.grow s1 ha) ⟨a,vs,rfl,ay,s1.free ha,ha,q1⟩⟩
  ·rw [if_neg hl] at z;exact (W.ns z).elim
theorem rd_ite (h:tD K W own (fIte ft fa fb) σ H Q):tIf (tDT K W ft) (tD K W own fa) (tD K W own fb) σ H Q:=by
 obtain ⟨F,ρ,r,s,p⟩:=h;refine fV r s (fun e he=>p.err (by unfold fIte;rw [he];rfl)) fun b hb F1 H1 s1=>?_;have e:fIte ft fa fb ρ=if b=true then fa ρ else fb ρ:=by unfold fIte;rw [hb];rfl
 rw [e] at p;cases b with
 |true=>exact ⟨F1,ρ,r.mono s1.ff,s1.fh,p.step s1⟩
 |false=>exact ⟨F1,ρ,r.mono s1.ff,s1.fh,p.step s1⟩
theorem xf {f:ai->M Bool} (r:dP K F σ ρ) (s1:Step F H F1 H1) (p:match f ρ with
 |.ok b=>∀F' H',Step F H F' H'->R b H'
 |.error e=>W.p e F H):tDT K W f σ H1 R:=by
 refine ⟨F1,ρ,r.mono s1.ff,s1.fh,?_⟩
 cases e:f ρ with
 |ok b=>rw [e] at p;exact fun F' H' t=>p F' H' (s1.trans t)
 |error x=>rw [e] at p;exact W.mono p s1
theorem rd_and (h:tDT K W (Bc ft fu) σ H R):tAnd (tDT K W ft) (tDT K W fu) σ H R:=by
 obtain ⟨F,ρ,r,s,p⟩:=h;refine fV r s (fun e he=>?_) fun b hb F1 H1 s1=>?_
 ·have z:Bc ft fu ρ=.error e:=by unfold Bc;rw [he];rfl
  rw [z] at p;exact p
 ·have z:Bc ft fu ρ=if b=true then fu ρ else .ok false:=by unfold Bc;rw [hb];rfl
  rw [z] at p;cases b with
  |true=>exact xf r s1 p
  |false=>exact p F1 H1 s1
theorem rd_or (h:tDT K W (fOr ft fu) σ H R):tOr (tDT K W ft) (tDT K W fu) σ H R:=by
 obtain ⟨F,ρ,r,s,p⟩:=h;refine fV r s (fun e he=>?_) fun b hb F1 H1 s1=>?_
 ·have z:fOr ft fu ρ=.error e:=by unfold fOr;rw [he];rfl
  rw [z] at p;exact p
 ·have z:fOr ft fu ρ=if b=true then .ok true else fu ρ:=by unfold fOr;rw [hb];rfl
  rw [z] at p;cases b with
  |false=>exact xf r s1 p
  |true=>exact p F1 H1 s1
theorem rd_not (h:tDT K W (sC ft) σ H R):tNot (tDT K W ft) σ H R:=by
 obtain ⟨F,ρ,r,s,p⟩:=h;refine fV r s (fun e he=>?_) fun b hb F1 H1 s1=>?_
 ·have z:sC ft ρ=.error e:=by unfold sC;rw [he];rfl
  rw [z] at p;exact p
 ·have z:sC ft ρ=.ok (!b):=by unfold sC;rw [hb];rfl
  rw [z] at p;exact p F1 H1 s1
theorem rd_B (h:tDT K W (fB fa) σ H R):tTest (tD K W false fa) σ H R:=by
 obtain ⟨F,ρ,r,s,p⟩:=h;refine aT r s (fun e he=>?_) fun a ha x F1 H1 s1 q1=>?_
 ·have z:fB fa ρ=.error e:=by unfold fB;rw [he];rfl
  rw [z] at p;exact p
 ·have z:fB fa ρ=asB a:=by unfold fB;rw [ha];rfl
  rw [z] at p;cases a with
  |bl b=>exact ⟨b,q1,p F1 H1 s1⟩
  |_=>exact (W.ns p).elim
theorem tru_of {a:Dat} {x:V} {b:Bool} (s:aN F H1) (q:aQ K F a x) (h:truD a=.ok b):TruV K x H1 b:=by
 cases a with
 |non=>rw [show x=.non from q];exact (Except.ok.inj h).symm
 |bl c=>rw [show x=.bl c from q];exact (Except.ok.inj h).symm
 |int i=>rw [show x=.int i from q];exact (Except.ok.inj h).symm
 |str y=>
  rw [show x=.str y from q];have h':(if y.length<=sizeLine then Except.ok ((y.length:Int) != 0) else Except.error Err.stuck)=Except.ok b:=h;by_cases hy:y.length<=sizeLine
  ·rw [if_pos hy] at h';exact ⟨hy,(Except.ok.inj h').symm⟩
  ·rw [if_neg hy] at h';cases h'
 |tup ds=>
  obtain ⟨p,xs,e,t,r⟩:=q;subst e;refine .inr (.inl ⟨xs,s.tup t,?_⟩);rw [<- Except.ok.inj h];cases ds with
  |nil=>rw [show xs=[] from r];rfl
  |cons d ds=>obtain ⟨v,vs,e,_⟩:=r;rw [e];rfl
 |lst ds=>
  obtain ⟨p,xs,e,t,r⟩:=q;subst e;refine .inl ⟨xs,s.lst t,?_⟩;rw [<- Except.ok.inj h];cases ds with
  |nil=>rw [show xs=[] from r];rfl
  |cons d ds=>obtain ⟨v,vs,e,_⟩:=r;rw [e];rfl
 |ins C fs=>cases h
 |dic ks=>cases h
 |dil ks=>cases h
theorem rd_tru (h:tDT K W (lg fa) σ H R):tD K W false fa σ H fun x H1=>∃k,TruV K x H1 k/\R k H1:=by
 obtain ⟨F,ρ,r,s,p⟩:=h;refine aT r s (fun e he=>?_) fun a ha x F1 H1 s1 q1=>?_
 ·have z:lg fa ρ=.error e:=by unfold lg;rw [he];rfl
  rw [z] at p;exact p
 ·have z:lg fa ρ=truD a:=by unfold lg;rw [ha];rfl
  rw [z] at p;cases e:truD a with
  |ok b=>rw [e] at p;exact ⟨b,tru_of s1.fh q1 e,p F1 H1 s1⟩
  |error x=>
   rw [e] at p;have:x=.stuck:=by
    cases a with
    |str y=>
     have e':(if y.length<=sizeLine then Except.ok ((y.length:Int) != 0) else Except.error Err.stuck)=Except.error x:=e;by_cases hy:y.length<=sizeLine
     ·rw [if_pos hy] at e';cases e'
     ·rw [if_neg hy] at e';cases e';rfl
    |ins C fs=>cases e;rfl
    |dic ks=>cases e;rfl
    |dil ks=>cases e;rfl
    |_=>cases e
   subst this;exact (W.ns p).elim
theorem rd_andV (h:tD K W false (lY fa fb) σ H Q):tAndV (tD K W false fa) (tD K W false fb) σ H Q:=by
 obtain ⟨F,ρ,r,s,p⟩:=h;refine aT r s (fun e he=>p.err (by unfold lY;rw [he];rfl)) fun a ha x F1 H1 s1 q1=>?_;have z:lY fa fb ρ=(asB a).bind fun b=>if b=true then fb ρ else .ok (.bl false):=by unfold lY;rw [ha];rfl
 rw [z] at p;cases a with
 |bl b=>
  refine ⟨b,q1,?_⟩
  cases b with
  |true=>exact ⟨F1,ρ,r.mono s1.ff,s1.fh,aC.step (own:=false) (r:=fb ρ) p s1⟩
  |false=>exact p (.bl false) F1 H1 s1 rfl
 |_=>exact (W.ns p).elim
theorem rd_orV (h:tD K W false (Bb fa fb) σ H Q):tOrV (tD K W false fa) (tD K W false fb) σ H Q:=by
 obtain ⟨F,ρ,r,s,p⟩:=h;refine aT r s (fun e he=>p.err (by unfold Bb;rw [he];rfl)) fun a ha x F1 H1 s1 q1=>?_;have z:Bb fa fb ρ=(asB a).bind fun b=>if b=true then .ok (.bl true) else fb ρ:=by unfold Bb;rw [ha];rfl
 rw [z] at p;cases a with
 |bl b=>
  refine ⟨b,q1,?_⟩
  cases b with
  |false=>exact ⟨F1,ρ,r.mono s1.ff,s1.fh,aC.step (own:=false) (r:=fb ρ) p s1⟩
  |true=>exact p (.bl true) F1 H1 s1 rfl
 |_=>exact (W.ns p).elim
theorem rd_notV (h:tD K W false (f1 notD fa) σ H Q):tNotV (tD K W false fa) σ H Q:=by
 obtain ⟨F,ρ,r,s,p⟩:=h;refine aT r s (fun e he=>p.err (by unfold f1;rw [he];rfl)) fun a ha x F1 H1 s1 q1=>?_;have z:f1 notD fa ρ=notD a:=by unfold f1;rw [ha];rfl
 rw [z] at p;cases a with
 |bl b=>exact ⟨b,q1,p (.bl (!b)) F1 H1 s1 rfl⟩
 |_=>exact (W.ns p).elim
theorem xr {g:Dat->Dat->M Dat} (h:tD K W false (iB g g' fa fb fc) σ H Q):zN (rD2 K W false g) (rD2 K W false g') (tD K W false fa) (tD K W false fb) (tD K W false fc) σ H Q:=by
 obtain ⟨F,ρ,r,s,p⟩:=h;refine aT r s (fun e he=>p.err (by unfold iB;rw [he];rfl)) fun a ha x F1 H1 s1 q1=>?_;refine aT (r.mono s1.ff) s1.fh (fun e he=>(p.step s1).err (by unfold iB;rw [ha];show (fb ρ).bind _=_;rw [he];rfl)) fun b hb y F2 H2 s2 q2=>?_;have z:iB g g' fa fb fc ρ=(g a b).bind fun x=>(asB x).bind fun k=>if k=true then (fc ρ).bind fun c=>g' b c else .ok (.bl false):=by unfold iB;rw [ha];show (fb ρ).bind _=_;rw [hb];rfl
 rw [z] at p;refine ⟨F2,a,b,s2.fh,aQ.mono s2.ff q1,q2,?_⟩
 have p2:=p.step (s1.trans s2);cases e:g a b with
 |error x=>rw [e] at p2;exact p2
 |ok d=>
  rw [e] at p2;intro v F3 H3 s3 q3;have p3:aC K W false F3 H3 ((asB d).bind fun k=>if k=true then (fc ρ).bind fun c=>g' b c else .ok (.bl false)) Q:=aC.step p2 s3;cases d with
  |bl k=>
   refine ⟨k,q3,?_⟩
   cases k with
   |false=>exact p3 (.bl false) F3 H3 (Step.refl s3.fh) rfl
   |true=>
    have p4:aC K W false F3 H3 ((fc ρ).bind fun c=>g' b c) Q:=p3;refine aT (r.mono (s1.trans (s2.trans s3)).ff) s3.fh (fun e he=>p4.err (by rw [he];rfl)) fun c hc w F4 H4 s4 q4=>⟨F4,b,c,s4.fh,aQ.mono (s3.trans s4).ff q2,q4,?_⟩
    rw [hc] at p4;exact p4.step s4
  |_=>exact (W.ns p3).elim
end
inductive Pat where
 |nm (i:Nat)|tp (is:List Nat)
noncomputable def iL:List Nat->List Dat->ai->ai
 |i::is,d::ds,ρ=>iL is ds (ρ.set i (some d))
 |_,_,ρ=>ρ
noncomputable def gz:Pat->Dat->ai->M ai
 |.nm i,d,ρ=>.ok (ρ.set i (some d))
 |.tp is,.tup ds,ρ=>if ds.length=is.length then .ok (iL is ds ρ) else .error .stuck
 |.tp _,_,_=>.error .stuck
noncomputable def gI:List Nat->TGs
 |[]=>gNil
 |i::is=>yW (gN i) (gI is)
noncomputable def gP (K:Fg):Pat->TG
 |.nm i=>gN i
 |.tp is=>gTup K is.length (gI is)
theorem qS {K:Fg} {F H:Hp} {R:St->Hp->Prop}:∀{is:List Nat} {ds:List Dat} {vs:List V} {σ:St} {ρ:ai},dP K F σ ρ->az K F ds vs->ds.length=is.length->(∀σ',dP K F σ' (iL is ds ρ)->R σ' H)->gI is vs σ H R
 |[],[],_,σ,ρ,r,q,_,h=>⟨q,h σ r⟩
 |[],_::_,_,_,_,_,_,e,_=>by simp at e
 |_::_,[],_,_,_,_,_,e,_=>by simp at e
 |i::is,d::ds,_,σ,ρ,r,⟨v,vs,e,q,t⟩,l,h=>⟨v,vs,e,qS (r.set q i) t (by simpa using l) h⟩
theorem gP_run {R:St->Hp->Prop} {p:Pat} (r:dP K F σ ρ) (s:aN F H) (q:aQ K F d v) (e:gz p d ρ=.ok ρ') (h:∀σ',dP K F σ' ρ'->R σ' H):gP K p v σ H R:=by
 cases p with
 |nm i=>
  have:=Except.ok.inj e;subst this;exact h _ (r.set q i)
 |tp is=>
  cases d with
  |tup ds=>
   have e':(if ds.length=is.length then Except.ok (iL is ds ρ) else Except.error Err.stuck)=Except.ok ρ':=e;by_cases hl:ds.length=is.length
   ·rw [if_pos hl] at e';have:=Except.ok.inj e';subst this;obtain ⟨a,xs,ev,t,z⟩:=q;exact ⟨a,xs,ev,s.tup t,by rw [z.length,hl],qS r z hl h⟩
   ·rw [if_neg hl] at e';cases e'
  |_=>cases e
theorem kZ {p:Pat} {e:Err} (h:gz p d ρ=.error e):e=.stuck:=by
 cases p with
 |nm i=>cases h
 |tp is=>
  cases d with
  |tup ds=>
   have e':(if ds.length=is.length then Except.ok (iL is ds ρ) else Except.error Err.stuck)=Except.error e:=h;by_cases hl:ds.length=is.length
   ·rw [if_pos hl] at e';cases e'
   ·rw [if_neg hl] at e';cases e';rfl
  |_=>cases h;rfl
structure vc (K:Fg) (F1:Hp) (J:It) (ds:List Dat):Prop where
 go:∀(i:Nat) (F H:Hp),aN F1 F->aN F H->i<ds.length->J.go i H
 yl:∀(i:Nat) (F H:Hp) (x:V) (H':Hp) (d:Dat),aN F1 F->aN F H->ds[i]? =some d->J.yld i H x H'->∃F',Step F H F' H'/\aQ K F' d x
 st:∀(F H:Hp),aN F1 F->aN F H->J.stop ds.length H
noncomputable def iD (K:Fg) (W:du) (f:ai->M (List Dat)):TI:=fun σ H R=>∃F ρ,dP K F σ ρ/\aN F H/\(match f ρ with
 |.ok ds=>∀J F1 H1,Step F H F1 H1->vc K F1 J ds->R J H1
 |.error e=>W.p e F H)
noncomputable def g8:Dat->M (List Dat)
 |.lst ds=>.ok ds
 |.tup ds=>.ok ds
 |_=>.error .stuck
noncomputable def fIt (fa:ai->M Dat):ai->M (List Dat):=fun ρ=>(fa ρ).bind g8
noncomputable def iSeq (K:Fg) (tl:TE):TI:=fun σ H R=>tl σ H fun x H1=>∃a,x=.ref a/\((∃xs,SqL K H1 a xs)/\R (Itl K a) H1\/(∃xs,SqT K H1 a xs)/\R (Itt K a) H1)
theorem AQ (t:SqL K F a xs) (z:az K F ds xs):vc K F (Itl K a) ds where
 go:=fun i F' H' s1 s2 hi=>⟨xs,xs[i]'(by rw [z.length];exact hi),s2.lst (s1.lst t),by simp [z.length,hi]⟩
 yl:=fun i F' H' x H2 d s1 s2 hd hy=>by
  obtain ⟨e,hy⟩:=hy;subst e;obtain ⟨v,e1,q⟩:=z.get hd;have e2:=hy xs (s2.lst (s1.lst t));rw [e1] at e2;cases e2;exact ⟨F',Step.refl s2,q.mono s1⟩
 st:=fun F' H' s1 s2=>⟨xs,s2.lst (s1.lst t),by rw [z.length];exact Nat.le_refl _⟩
theorem iter_tup (t:SqT K F a xs) (z:az K F ds xs):vc K F (Itt K a) ds where
 go:=fun i F' H' s1 s2 hi=>⟨xs,xs[i]'(by rw [z.length];exact hi),s2.tup (s1.tup t),by simp [z.length,hi]⟩
 yl:=fun i F' H' x H2 d s1 s2 hd hy=>by
  obtain ⟨e,hy⟩:=hy;subst e;obtain ⟨v,e1,q⟩:=z.get hd;have e2:=hy xs (s2.tup (s1.tup t));rw [e1] at e2;cases e2;exact ⟨F',Step.refl s2,q.mono s1⟩
 st:=fun F' H' s1 s2=>⟨xs,s2.tup (s1.tup t),by rw [z.length];exact Nat.le_refl _⟩
noncomputable def bz (lo:Int) (n:Nat):List Dat:=(List.range n).map fun k:Nat=>Dat.int (lo+k)
theorem yS {lo:Int} :vc K F (Itr lo n) (bz lo n) where
 go:=fun i F' H' s1 s2 hi=>by show i<n;simpa [bz] using hi
 yl:=fun i F' H' x H2 d s1 s2 hd hy=>by
  obtain ⟨e,hy⟩:=hy;subst e hy;unfold bz at hd;rw [List.getElem?_map] at hd;have hi:i<n:=by
   have:=(List.getElem?_eq_some_iff.mp (show ((List.range n).map fun k:Nat=>Dat.int (lo+k))[i]? =some d by rw [List.getElem?_map];exact hd)).1;simpa using this
  rw [List.getElem?_range hi] at hd;cases hd;exact ⟨F',Step.refl s2,rfl⟩
 st:=fun F' H' s1 s2=>by show n<=_;simp [bz]
noncomputable def jI (i:Int):Bool:=decide (-(2^62)<=i)&&decide (i<2^62)
noncomputable def tY:List Dat->M (List Dat)
 |[.int j]=>if jI j=true then .ok (bz 0 j.toNat) else .error .stuck
 |_=>.error .stuck
noncomputable def sV (g:List Dat->M (List Dat)) (fr:ai->M (List Dat)):ai->M (List Dat):=fun ρ=>(fr ρ).bind g
section
variable {W:du} 
theorem ri_seq {R:It->Hp->Prop} (h:iD K W (fIt fa) σ H R):iSeq K (tD K W false fa) σ H R:=by
 obtain ⟨F,ρ,r,s,p⟩:=h;refine aT r s (fun e he=>?_) fun a ha x F1 H1 s1 q1=>?_
 ·have z:fIt fa ρ=.error e:=by unfold fIt;rw [he];rfl
  rw [z] at p;exact p
 ·have z:fIt fa ρ=g8 a:=by unfold fIt;rw [ha];rfl
  rw [z] at p;cases a with
  |lst ds=>
   obtain ⟨b,xs,e,t,z⟩:=q1;exact ⟨b,e,.inl ⟨⟨xs,s1.fh.lst t⟩,p _ F1 H1 s1 (AQ t z)⟩⟩
  |tup ds=>
   obtain ⟨b,xs,e,t,z⟩:=q1;exact ⟨b,e,.inr ⟨⟨xs,s1.fh.tup t⟩,p _ F1 H1 s1 (iter_tup t z)⟩⟩
  |_=>exact (W.ns p).elim
theorem ri_rng1 {fr:ai->M (List Dat)} {R:It->Hp->Prop} (h:iD K W (sV tY fr) σ H R):iRng1 (tDA K W fr) σ H R:=by
 obtain ⟨F,ρ,r,s,p⟩:=h;refine rC r s (fun e he=>?_) fun ds hd xs F1 H1 s1 q1=>?_
 ·have z:sV tY fr ρ=.error e:=by unfold sV;rw [he];rfl
  rw [z] at p;exact p
 ·have z:sV tY fr ρ=tY ds:=by unfold sV;rw [hd];rfl
  rw [z] at p
  match ds,q1,p with
  |[.int j],⟨v,vs,e,q,t⟩,p=>
   have p':match (if jI j=true then Except.ok (bz 0 j.toNat) else Except.error Err.stuck:M (List Dat)) with
    |.ok ds=>∀J F1 H1,Step F H F1 H1->vc K F1 J ds->R J H1
    |.error e=>W.p e F H:=p
   by_cases hj:jI j=true
   ·rw [if_pos hj] at p';unfold jI at hj;simp only [Bool.and_eq_true,decide_eq_true_eq] at hj;exact ⟨j,by rw [e,show v=.int j from q,show vs=[] from t],hj.1,hj.2,p' _ F1 H1 s1 yS⟩
   ·rw [if_neg hj] at p';exact (W.ns p').elim
  |[],_,p=>exact (W.ns p).elim
  |.non::_,_,p=>exact (W.ns p).elim
  |.bl _::_,_,p=>exact (W.ns p).elim
  |.str _::_,_,p=>exact (W.ns p).elim
  |.tup _::_,_,p=>exact (W.ns p).elim
  |.lst _::_,_,p=>exact (W.ns p).elim
  |.ins _ _::_,_,p=>exact (W.ns p).elim
  |.dic _::_,_,p=>exact (W.ns p).elim
  |.dil _::_,_,p=>exact (W.ns p).elim
  |.int _::_::_,_,p=>exact (W.ns p).elim
noncomputable def dR (ix:List (Option Nat)) (ρ:ai):ai:=ix.map fun o=>match o with
 |none=>none
 |some j=>(ρ[j]?).join
noncomputable def aL (p:Pat) (ft:ai->M Bool) (fe:ai->M Dat) (ρ0:ai):List Dat->M (List Dat)
 |[]=>.ok []
 |d::ds=>(gz p d ρ0).bind fun ρ=>(ft ρ).bind fun b=>if b=true then (fe ρ).bind fun y=>(aL p ft fe ρ0 ds).bind fun r=>.ok (y::r) else aL p ft fe ρ0 ds
noncomputable def bY (fi:ai->M (List Dat)) (ix:List (Option Nat)) (p:Pat) (ft:ai->M Bool) (fe:ai->M Dat):ai->M Dat:=fun ρ=>(fi ρ).bind fun ds=>if ds.length<=sizeLine then (aL p ft fe (dR ix ρ) ds).bind fun r=>.ok (.lst r) else .error .stuck
noncomputable def gd:ai->M Bool:=fun _=>.ok true
theorem dP.inS {F:Hp} {ρ:ai} (r:dP K F σ ρ) (ix:List (Option Nat)):dP K F (L2.inS ix σ) (dR ix ρ):=
 ⟨by simp [L2.inS,dR],fun i d e=>by
  unfold dR at e;unfold L2.inS;rw [List.getElem?_map] at e ⊢;cases h:ix[i]? with
  |none=>rw [h] at e;cases e
  |some o=>
   rw [h] at e;cases o with
   |none=>cases e
   |some j=>
    simp only [Option.map_some,Option.some.injEq] at e ⊢;have e1:ρ[j]? =some (some d):=by
     cases z:ρ[j]? with
     |none=>rw [z] at e;cases e
     |some w=>rw [z] at e;simp at e;rw [e]
    obtain ⟨v,h1,h2⟩:=r.sl j d e1;exact ⟨v,by rw [h1];rfl,h2⟩⟩
theorem A7 {p:Pat} (h:tD K W true (bY fi ix p ft fe) σ H Q) :
  tComp (iD K W fi) ix (gP K p) (tDT K W ft) (tD K W false fe) σ H Q:=by
 obtain ⟨F,ρ,r,s,q⟩:=h;refine ⟨F,ρ,r,s,?_⟩
 cases hf:fi ρ with
 |error e=>exact q.err (by unfold bY;rw [hf];rfl)
 |ok ds=>
  intro J F1 H1 s1 it;have e0:bY fi ix p ft fe ρ=if ds.length<=sizeLine then (aL p ft fe (dR ix ρ) ds).bind fun r=>.ok (.lst r) else .error .stuck:=by unfold bY;rw [hf];rfl
  rw [e0] at q;by_cases hl:ds.length<=sizeLine
  ·rw [if_pos hl] at q;refine ⟨fun i m ys H2=>m=ds.length-i/\i<=ds.length/\∃F2 yd,Step F1 H1 F2 H2/\az K F2 yd ys/\yd.length<=i /\
    (match aL p ft fe (dR ix ρ) (ds.drop i) with
     |.ok rr=>aL p ft fe (dR ix ρ) ds=.ok (yd++rr)
     |.error e=>W.p e F H),⟨ds.length,by omega,Nat.zero_le _,F1,[],Step.refl s1.fh,rfl,Nat.zero_le _,?_⟩,?_⟩
   ·rw [List.drop_zero];cases e:aL p ft fe (dR ix ρ) ds with
    |ok rr=>rfl
    |error x=>exact q.err (by rw [e];rfl)
   ·rintro i m ys H2 ⟨rfl,hi,F2,yd,s2,dy,ly,hc⟩;have lys:ys.length<=sizeLine:=by rw [dy.length];omega
    by_cases hlt:i<ds.length
    ·have ed:ds.drop i=ds[i]::ds.drop (i+1):=List.drop_eq_getElem_cons hlt;rw [ed] at hc;refine .inr ⟨it.go i F2 H2 s2.ff s2.fh hlt,lys,fun ys' H'=>(i+1<=ds.length/\∃F2 yd,Step F1 H1 F2 H'/\az K F2 yd ys'/\yd.length<=i+1 /\
      (match aL p ft fe (dR ix ρ) (ds.drop (i+1)) with
       |.ok rr=>aL p ft fe (dR ix ρ) ds=.ok (yd++rr)
       |.error e=>W.p e F H)),fun ys' H' n=>⟨ds.length-(i+1),by omega,rfl,n⟩,fun x H' y=>?_⟩
     obtain ⟨F3,s3,q3⟩:=it.yl i F2 H2 x H' ds[i] s2.ff s2.fh (by simp [hlt]) y;have r3:dP K F3 (L2.inS ix σ) (dR ix ρ):=(r.mono (s1.trans (s2.trans s3)).ff).inS ix;have st3:Step F H F3 H':=s1.trans (s2.trans s3);have ec:aL p ft fe (dR ix ρ) (ds[i]::ds.drop (i+1))=(gz p ds[i] (dR ix ρ)).bind fun ρ1=>(ft ρ1).bind fun b=>if b=true then (fe ρ1).bind fun y=>(aL p ft fe (dR ix ρ) (ds.drop (i+1))).bind fun r=>.ok (y::r) else aL p ft fe (dR ix ρ) (ds.drop (i+1)):=by rw [aL]
     rw [ec] at hc;cases hb:gz p ds[i] (dR ix ρ) with
     |error e=>
      rw [hb] at hc;have:=kZ hb;subst this;exact (W.ns hc).elim
     |ok ρ1=>
      rw [hb] at hc;refine gP_run r3 s3.fh q3 hb fun σ2 r4=>?_;have hc1:match ((ft ρ1).bind fun b=>if b=true then (fe ρ1).bind fun y=>(aL p ft fe (dR ix ρ) (ds.drop (i+1))).bind fun r=>.ok (y::r) else aL p ft fe (dR ix ρ) (ds.drop (i+1))) with
       |.ok rr=>aL p ft fe (dR ix ρ) ds=.ok (yd++rr)
       |.error e=>W.p e F H:=hc
      refine fV r4 s3.fh (fun e he=>by rw [he] at hc1;exact W.mono hc1 st3) fun b hb2 F5 H5 s5=>?_;rw [hb2] at hc1;cases b with
      |false=>
       have hc2:match aL p ft fe (dR ix ρ) (ds.drop (i+1)) with
        |.ok rr=>aL p ft fe (dR ix ρ) ds=.ok (yd++rr)
        |.error e=>W.p e F H:=hc1
       exact ⟨hlt,F5,yd,s2.trans (s3.trans s5),dy.mono (s3.trans s5).ff,by omega,hc2⟩
      |true=>
       have hc2:match ((fe ρ1).bind fun y=>(aL p ft fe (dR ix ρ) (ds.drop (i+1))).bind fun r=>.ok (y::r)) with
        |.ok rr=>aL p ft fe (dR ix ρ) ds=.ok (yd++rr)
        |.error e=>W.p e F H:=hc1
       refine aT (r4.mono s5.ff) s5.fh (fun e he=>by rw [he] at hc2;exact W.mono hc2 (st3.trans s5)) fun d hd v F6 H6 s6 q6=>?_;rw [hd] at hc2;refine ⟨hlt,F6,yd++[d],s2.trans (s3.trans (s5.trans s6)),az.append (dy.mono (s3.trans (s5.trans s6)).ff) ⟨v,[],rfl,q6,rfl⟩,by simp;omega,?_⟩
       have hc3:match ((aL p ft fe (dR ix ρ) (ds.drop (i+1))).bind fun r=>.ok (d::r):M (List Dat)) with
        |.ok rr=>aL p ft fe (dR ix ρ) ds=.ok (yd++rr)
        |.error e=>W.p e F H:=hc2
       cases e7:aL p ft fe (dR ix ρ) (ds.drop (i+1)) with
       |ok rr=>
        rw [e7] at hc3;show _=Except.ok ((yd++[d])++rr);rw [List.append_assoc];exact hc3
       |error x=>rw [e7] at hc3;exact hc3
    ·have:i=ds.length:=by omega
     subst this;rw [List.drop_length] at hc;have hc':aL p ft fe (dR ix ρ) ds=.ok (yd++[]):=hc;rw [List.append_nil] at hc';rw [hc'] at q;refine .inl ⟨it.st F2 H2 s2.ff s2.fh,lys,fun a ha=>?_⟩;have st:Step F H F2 H2:=s1.trans s2;exact q (.ref a) F2 _ (st.trans (Step.grow s2.fh ha)) ⟨a,ys,rfl,ay,s2.fh.free ha,st.hh.free ha,dy⟩
  ·rw [if_neg hl] at q;exact (W.ns q).elim
end
inductive Flo where
 |nx (ρ:ai)|rt (d:Dat)|bk (ρ:ai)|ct (ρ:ai)
variable {g g2:ai->M Flo}
structure Rep (K:Fg) (F0 H0 FB:Hp) (O:List Nat) (F H:Hp) (σ:St) (ρ:ai):Prop where
 st:Step F0 H0 F H
 fb:aN FB F
 len:ρ.length=σ.length
 fz:∀(i:Nat) (d:Dat),ρ[i]? =some (some d)->i∉O->∃v,σ[i]? =some (some v)/\aQ K F d v
 ow:∀(i:Nat) (d:Dat),ρ[i]? =some (some d)->i∈O->∃v,σ[i]? =some (some v)/\k7 K F H0 H d v
 ap:∀(i j:Nat) (d e:Dat) (a:Addr),i∈O->j∈O->(ρ[i]? =some (some d)/\isO d=true)->(ρ[j]? =some (some e)/\isO e=true)->σ[i]? =some (some (.ref a))->σ[j]? =some (some (.ref a))->i=j
noncomputable def nq (O O2:List Nat) (σ:St) (ρ:ai) (b:Addr):Prop:=∃(i:Nat) (d:Dat),i∈O/\i∉O2/\isO d=true/\ρ[i]? =some (some d)/\σ[i]? =some (some (.ref b))
open Classical in
noncomputable def plus (F H:Hp) (A:Addr->Prop):Hp:=fun b=>if A b then H b else F b
open Classical in
noncomputable def minus (F:Hp) (A:Addr->Prop):Hp:=fun b=>if A b then none else F b
theorem ee {A:Addr->Prop} (h:A b):plus F H A b=H b:=by unfold plus;rw [if_pos h]
theorem c6 {A:Addr->Prop} (h:¬A b):plus F H A b=F b:=by unfold plus;rw [if_neg h]
theorem ko {A:Addr->Prop} (h:A b):minus F A b=none:=by unfold minus;rw [if_pos h]
theorem dG {A:Addr->Prop} (h:¬A b):minus F A b=F b:=by unfold minus;rw [if_neg h]
section
theorem Rep.own (r:Rep K F0 H0 FB O F H σ ρ) (h:nq O O2 σ ρ b):F b=none/\H0 b=none/\∃o,H b=some o/\isMu o=true:=by
 obtain ⟨i,d,hi,_,hd,e1,e2⟩:=h;obtain ⟨v,e3,q⟩:=r.ow i _ e1 hi;rw [e2] at e3;cases e3;obtain ⟨a,o,e,p,m,f,z⟩:=q.top hd;cases e;exact ⟨f,z,o,p,m⟩
theorem Rep.jM (r:Rep K F0 H0 FB O F H σ ρ):aN F (plus F H (nq O O2 σ ρ)):=fun b o h=>by
 by_cases hb:nq O O2 σ ρ b
 ·rw [(r.own hb).1] at h;cases h
 ·rw [c6 hb];exact h
theorem Rep.rT (r:Rep K F0 H0 FB O F H σ ρ):aN (plus F H (nq O O2 σ ρ)) H:=fun b o h=>by
 by_cases hb:nq O O2 σ ρ b
 ·rw [ee hb] at h;exact h
 ·rw [c6 hb] at h;exact r.st.fh b o h
theorem Rep.freeze (r:Rep K F0 H0 FB O F H σ ρ) (hs:∀i∈O2,i∈O):Rep K F0 H0 FB O2 (plus F H (nq O O2 σ ρ)) H σ ρ where
 st:=⟨r.st.ff.trans r.jM,r.st.hh,r.rT,fun b o h=>by
  by_cases hb:nq O O2 σ ρ b
  ·exact .inr (r.own hb).2.1
  ·rw [c6 hb] at h;exact r.st.nw b o h⟩
 fb:=r.fb.trans r.jM
 len:=r.len
 fz:=fun i d e hi=>by
  by_cases ho:i∈O
  ·obtain ⟨v,e3,q⟩:=r.ow i d e ho;refine ⟨v,e3,?_⟩
   cases hd:isO d with
   |true=>
    obtain ⟨a,_,ev,_⟩:=q.top hd;subst ev;exact q.give hd r.jM (ee ⟨i,d,ho,hi,hd,e,e3⟩)
   |false=>rw [k7.non hd] at q;exact q.mono r.jM
  ·obtain ⟨v,e3,q⟩:=r.fz i d e ho;exact ⟨v,e3,q.mono r.jM⟩
 ow:=fun i d e hi=>by
  obtain ⟨v,e3,q⟩:=r.ow i d e (hs i hi);refine ⟨v,e3,?_⟩
  cases hd:isO d with
  |true=>
   obtain ⟨a,o,ev,p,_,f,z⟩:=q.top hd;subst ev;refine q.re hd r.jM ?_ fun _ h=>h;have:¬nq O O2 σ ρ a:=fun ⟨j,d',hj,hj2,hd',f1,f2⟩=>by
    have:=r.ap i j d d' a (hs i hi) hj ⟨e,hd⟩ ⟨f1,hd'⟩ e3 f2;subst this;exact hj2 hi
   rw [c6 this];exact f
  |false=>rw [k7.non hd] at q ⊢;exact q.mono r.jM
 ap:=fun i j d e a hi hj=>r.ap i j d e a (hs i hi) (hs j hj)
theorem Rep.repE (r:Rep K F0 H0 FB [] F H σ ρ):dP K F σ ρ:=⟨r.len,fun i d e=>r.fz i d e (by simp)⟩
theorem Rep.A6 (r:Rep K F0 H0 FB O F H σ ρ):dP K (plus F H (nq O [] σ ρ)) σ ρ:=(r.freeze (O2:=[]) (by simp)).repE
noncomputable def erase:List Nat->ai->ai
 |[],ρ=>ρ
 |i::is,ρ=>erase is (ρ.set i none)
theorem uH:∀(O:List Nat) (ρ:ai),(erase O ρ).length=ρ.length
 |[],_=>rfl
 |i::is,ρ=>by rw [erase,uH,List.length_set]
theorem uI:∀(O:List Nat) (ρ:ai) (i:Nat) (d:Dat),(erase O ρ)[i]? =some (some d)->ρ[i]? =some (some d)/\i∉O
 |[],_,_,_,h=>⟨h,by simp⟩
 |j::is,ρ,i,d,h=>by
  obtain ⟨h1,h2⟩:=uI is (ρ.set j none) i d h;by_cases e:j=i
  ·subst e;have hj:j<ρ.length:=by
    have:=(List.getElem?_eq_some_iff.mp h1).1;simpa using this
   rw [List.getElem?_set_self hj] at h1;cases h1
  ·rw [List.getElem?_set_ne e] at h1;exact ⟨h1,by simp [h2];omega⟩
theorem Rep.jh (r:Rep K F0 H0 FB O F H σ ρ):dP K F σ (erase O ρ):=
 ⟨by rw [uH,r.len],fun i d e=>let ⟨h1,h2⟩:=uI O ρ i d e;r.fz i d h1 h2⟩
theorem Rep.step (r:Rep K F0 H0 FB O F H σ ρ) (s:Step F H F1 H1):Rep K F0 H0 FB O F1 H1 σ ρ where
 st:=r.st.trans s
 fb:=r.fb.trans s.ff
 len:=r.len
 fz:=fun i d e hi=>let ⟨v,e3,q⟩:=r.fz i d e hi;⟨v,e3,q.mono s.ff⟩
 ow:=fun i d e hi=>by
  obtain ⟨v,e3,q⟩:=r.ow i d e hi;refine ⟨v,e3,?_⟩
  cases hd:isO d with
  |true=>
   obtain ⟨a,u,ev,p,_,f,z⟩:=q.top hd;subst ev;refine q.re hd s.ff ?_ (s.hh a);cases e1:F1 a with
   |none=>rfl
   |some o=>
    rcases s.nw a o e1 with h|h
    ·rw [f] at h;cases h
    ·rw [p] at h;cases h
  |false=>rw [k7.non hd] at q ⊢;exact q.mono s.ff
 ap:=r.ap
theorem Rep.vk (r:Rep K F0 H0 FB O F H σ ρ) (s:Step (plus F H (nq O [] σ ρ)) H F1 H1):Rep K F0 H0 FB O (minus F1 (nq O [] σ ρ)) H1 σ ρ:=by
 refine r.step ⟨fun b o h=>?_,s.hh,fun b o h=>?_,fun b o h=>?_⟩
 ·by_cases hb:nq O [] σ ρ b
  ·rw [(r.own hb).1] at h;cases h
  ·rw [dG hb];exact s.ff b o (by rw [c6 hb];exact h)
 ·by_cases hb:nq O [] σ ρ b
  ·rw [ko hb] at h;cases h
  ·rw [dG hb] at h;exact s.fh b o h
 ·by_cases hb:nq O [] σ ρ b
  ·rw [ko hb] at h;cases h
  ·rw [dG hb] at h;rcases s.nw b o h with z|z
   ·rw [c6 hb] at z;exact .inl z
   ·exact .inr z
theorem Rep.xE (r:Rep K F0 H0 FB O F H σ ρ) (s:Step (plus F H (nq O [] σ ρ)) H F1 H1) (a:Addr) (xs:List V) (h:SqT K F1 a xs):SqT K (minus F1 (nq O [] σ ρ)) a xs:=by
 have key:∀{b:Addr} {o:HO},F1 b=some o->isMu o=false->minus F1 (nq O [] σ ρ) b=some o:=fun {b o} h n=>by
  by_cases hb:nq O [] σ ρ b
  ·obtain ⟨_,_,u,e,m⟩:=r.own hb;have:=s.ff b u (by rw [ee hb];exact e);rw [h] at this;cases this;rw [n] at m;cases m
  ·rw [dG hb];exact h
 rcases h with (h|⟨o,h⟩)|h
 ·exact .inl (.inl (key h rfl))
 ·exact .inl (.inr ⟨o,key h rfl⟩)
 ·exact .inr h
theorem Rep.set {d:Dat} {v:V} (r:Rep K F0 H0 FB O F H σ ρ) (q:aQ K F d v) (i:Nat):Rep K F0 H0 FB (O.filter (· != i)) F H (σ.set i (some v)) (ρ.set i (some d)) where
 st:=r.st
 fb:=r.fb
 len:=by rw [List.length_set,List.length_set,r.len]
 fz:=fun j e h hj=>by
  by_cases hij:i=j
  ·subst hij;have hi:i<ρ.length:=by
    have:=(List.getElem?_eq_some_iff.mp h).1;simpa using this
   rw [List.getElem?_set_self hi] at h;cases h;exact ⟨v,by rw [List.getElem?_set_self (by rw [<- r.len];exact hi)],q⟩
  ·rw [List.getElem?_set_ne hij] at h;rw [List.getElem?_set_ne hij];exact r.fz j e h fun z=>hj (List.mem_filter.mpr ⟨z,by simpa using Ne.symm hij⟩)
 ow:=fun j e h hj=>by
  obtain ⟨h1,h2⟩:=List.mem_filter.mp hj;have hij:i≠j:=fun z=>by simp [z] at h2
  rw [List.getElem?_set_ne hij] at h ⊢;exact r.ow j e h h1
 ap:=fun j k ds es a hj hk e1 e2 e3 e4=>by
  obtain ⟨j1,j2⟩:=List.mem_filter.mp hj;obtain ⟨k1,k2⟩:=List.mem_filter.mp hk;have hij:i≠j:=fun z=>by simp [z] at j2
  have hik:i≠k:=fun z=>by simp [z] at k2
  rw [List.getElem?_set_ne hij] at e1 e3;rw [List.getElem?_set_ne hik] at e2 e4;exact r.ap j k ds es a j1 k1 e1 e2 e3 e4
theorem Rep.setOwn (r:Rep K F0 H0 FB O F H σ ρ) (q:k7 K F H0 H d v) (nw:∀a,v=.ref a->isO d=true->¬nq O [i] σ ρ a):Rep K F0 H0 FB (i::O.filter (· != i)) F H (σ.set i (some v)) (ρ.set i (some d)) where
 st:=r.st
 fb:=r.fb
 len:=by rw [List.length_set,List.length_set,r.len]
 fz:=fun j e h hj=>by
  simp only [List.mem_cons,not_or] at hj;have hij:i≠j:=fun z=>hj.1 z.symm;rw [List.getElem?_set_ne hij] at h ⊢;exact r.fz j e h fun z=>hj.2 (List.mem_filter.mpr ⟨z,by simpa using Ne.symm hij⟩)
 ow:=fun j e h hj=>by
  by_cases hij:i=j
  ·subst hij;have hi:i<ρ.length:=by
    have:=(List.getElem?_eq_some_iff.mp h).1;simpa using this
   rw [List.getElem?_set_self hi] at h;cases h;exact ⟨v,by rw [List.getElem?_set_self (by rw [<- r.len];exact hi)],q⟩
  ·rw [List.getElem?_set_ne hij] at h ⊢;rcases List.mem_cons.mp hj with z|z
   ·exact absurd z.symm hij
   ·exact r.ow j e h (List.mem_filter.mp z).1
 ap:=fun j k ds es a hj hk e1 e2 e3 e4=>by
  have key:∀{k':Nat} {ds' es':Dat},k'∈O->k'≠i->((ρ.set i (some d))[i]? =some (some ds')/\isO ds'=true)->((ρ.set i (some d))[k']? =some (some es')/\isO es'=true)->(σ.set i (some v))[i]? =some (some (.ref a))->(σ.set i (some v))[k']? =some (some (.ref a))->False:=by
   intro k' ds' es' hk' hne f1 f2 f3 f4;have hi:i<ρ.length:=by
    have:=(List.getElem?_eq_some_iff.mp f1.1).1;simpa using this
   rw [List.getElem?_set_self hi] at f1;rw [List.getElem?_set_self (by rw [<- r.len];exact hi)] at f3;rw [List.getElem?_set_ne (Ne.symm hne)] at f2 f4;have z1:v=.ref a:=by simpa using f3
   have z2:d=ds':=by simpa using f1.1
   exact nw a z1 (z2▸f1.2) ⟨k',es',hk',by simpa using hne,f2.2,f2.1,f4⟩
  rcases List.mem_cons.mp hj with zj|zj
  ·rcases List.mem_cons.mp hk with zk|zk
   ·rw [zj,zk]
   ·obtain ⟨k1,k2⟩:=List.mem_filter.mp zk;subst zj;exact (key k1 (by simpa using k2) e1 e2 e3 e4).elim
  ·obtain ⟨j1,j2⟩:=List.mem_filter.mp zj;have hij:i≠j:=fun z=>by simp [z] at j2
   rcases List.mem_cons.mp hk with zk|zk
   ·subst zk;exact (key j1 (Ne.symm hij) e2 e1 e4 e3).elim
   ·obtain ⟨k1,k2⟩:=List.mem_filter.mp zk;have hik:i≠k:=fun z=>by simp [z] at k2
    rw [List.getElem?_set_ne hij] at e1 e3;rw [List.getElem?_set_ne hik] at e2 e4;exact r.ap j k ds es a j1 k1 e1 e2 e3 e4
end
section
theorem yX (h:i∉O):O.filter (· != i)=O:=by
 rw [List.filter_eq_self];intro a ha;simp;intro e;exact h (e▸ha)
theorem Rep.set' (r:Rep K F0 H0 FB O F H σ ρ) (q:aQ K F d v) (hi:i∉O):Rep K F0 H0 FB O F H (σ.set i (some v)) (ρ.set i (some d)):=by
 have:=r.set q i;rw [yX hi] at this;exact this
theorem Rep.base {FB':Hp} (r:Rep K F0 H0 FB O F H σ ρ) (s:aN FB' FB):Rep K F0 H0 FB' O F H σ ρ:=⟨r.st,s.trans r.fb,r.len,r.fz,r.ow,r.ap⟩
theorem Rep.writeO {u:HO} (r:Rep K F0 H0 FB O F H σ ρ) (hi:i∈O) (e1:ρ[i]? =some (some d)) (hd:isO d=true) (e2:σ[i]? =some (some (.ref a))) (q:F a=none->H0 a=none->k7 K F H0 (upd H a u) d' (.ref a)):Rep K F0 H0 FB O F (upd H a u) σ (ρ.set i (some d')):=by
 have ho:F a=none/\H0 a=none/\∃o,H a=some o/\isMu o=true:=r.own (O2:=[]) ⟨i,d,hi,by simp,hd,e1,e2⟩;have hil:i<ρ.length:=(List.getElem?_eq_some_iff.mp e1).1;refine ⟨⟨r.st.ff,fun b o h=>?_,fun b o h=>?_,r.st.nw⟩,r.fb,by rw [List.length_set,r.len],fun j e h hj=>?_,fun j e h hj=>?_,fun j k es fs b hj hk f1 f2 f3 f4=>?_⟩
 ·rw [au (aR h ho.2.1)];exact r.st.hh b o h
 ·rw [au (aR h ho.1)];exact r.st.fh b o h
 ·have hij:i≠j:=fun z=>hj (z▸hi);rw [List.getElem?_set_ne hij] at h;exact r.fz j e h hj
 ·by_cases hij:i=j
  ·subst hij;rw [List.getElem?_set_self hil] at h;cases h;exact ⟨.ref a,e2,q ho.1 ho.2.1⟩
  ·rw [List.getElem?_set_ne hij] at h;obtain ⟨v,e3,z⟩:=r.ow j e h hj;refine ⟨v,e3,?_⟩
   cases he:isO e with
   |true=>
    obtain ⟨b,o,ev,p,_,f,_⟩:=z.top he;subst ev;have hab:b≠a:=fun z=>by
     subst z;exact hij (r.ap i j d e b hi hj ⟨e1,hd⟩ ⟨h,he⟩ e2 e3)
    exact z.re he (aN.refl _) f fun o h=>by rw [au hab];exact h
   |false=>rw [k7.non he] at z ⊢;exact z
 ·have fix:∀{j:Nat} {e:Dat},((ρ.set i (some d'))[j]? =some (some e)/\isO e=true)->∃e',ρ[j]? =some (some e')/\isO e'=true:=fun {j e} f=>by
   by_cases hij:i=j
   ·subst hij;exact ⟨d,e1,hd⟩
   ·rw [List.getElem?_set_ne hij] at f;exact ⟨e,f⟩
  obtain ⟨es',g1⟩:=fix f1;obtain ⟨fs',g2⟩:=fix f2;exact r.ap j k es' fs' b hj hk g1 g2 f3 f4
theorem Rep.write {xs':List V} (r:Rep K F0 H0 FB O F H σ ρ) (hi:i∈O) (e1:ρ[i]? =some (some (.lst ds))) (e2:σ[i]? =some (some (.ref a))) (q:az K F ds' xs'):Rep K F0 H0 FB O F (upd H a (.lst xs')) σ (ρ.set i (some (.lst ds'))):=
 r.writeO hi e1 rfl e2 fun f z=>⟨a,xs',rfl,ay,f,z,q⟩
noncomputable def Pat.names:Pat->List Nat
 |.nm i=>[i]
 |.tp is=>is
theorem qT {R:St->Hp->Prop}:∀{is:List Nat} {ds:List Dat} {vs:List V} {σ:St} {ρ:ai},Rep K F0 H0 FB O F H σ ρ->(∀i∈is,i∉O)->az K F ds vs->ds.length=is.length->(∀σ',Rep K F0 H0 FB O F H σ' (iL is ds ρ)->R σ' H)->gI is vs σ H R
 |[],[],_,σ,ρ,r,_,q,_,h=>⟨q,h σ r⟩
 |[],_::_,_,_,_,_,_,_,e,_=>by simp at e
 |_::_,[],_,_,_,_,_,_,e,_=>by simp at e
 |i::is,d::ds,_,σ,ρ,r,n,⟨v,vs,e,q,t⟩,l,h=>⟨v,vs,e,qT (r.set' q (n i (by simp))) (fun j hj=>n j (by simp [hj])) t (by simpa using l) h⟩
theorem gP_rep {R:St->Hp->Prop} {p:Pat} (r:Rep K F0 H0 FB O F H σ ρ) (n:∀i∈p.names,i∉O) (q:aQ K F d v) (e:gz p d ρ=.ok ρ') (h:∀σ',Rep K F0 H0 FB O F H σ' ρ'->R σ' H):gP K p v σ H R:=by
 cases p with
 |nm i=>
  have:=Except.ok.inj e;subst this;exact h _ (r.set' q (n i (by simp [Pat.names])))
 |tp is=>
  cases d with
  |tup ds=>
   have e':(if ds.length=is.length then Except.ok (iL is ds ρ) else Except.error Err.stuck)=Except.ok ρ':=e;by_cases hl:ds.length=is.length
   ·rw [if_pos hl] at e';have:=Except.ok.inj e';subst this;obtain ⟨a,xs,ev,t,z⟩:=q;exact ⟨a,xs,ev,r.st.fh.tup t,by rw [z.length,hl],qT r n z hl h⟩
   ·rw [if_neg hl] at e';cases e'
  |_=>cases e
end
noncomputable def jx (K:Fg) (W:du) (ro:Bool) (F0 H0 FB:Hp) (OL O':List Nat) (D:Ends) (r:M Flo):Prop:=match r with
 |.ok (.nx ρ)=>∀σ F H,Rep K F0 H0 FB O' F H σ ρ->D.nx σ H
 |.ok (.rt d)=>∀v F H,Step F0 H0 F H->Val K ro F H0 H d v->D.rt v H
 |.ok (.bk ρ)=>∀σ F H,Rep K F0 H0 FB OL F H σ ρ->D.bk σ H
 |.ok (.ct ρ)=>∀σ F H,Rep K F0 H0 FB OL F H σ ρ->D.ct σ H
 |.error e=>W.p e F0 H0
noncomputable def tS (K:Fg) (W:du) (ro:Bool) (F0 H0:Hp) (OL O O':List Nat) (g:ai->M Flo):TS:=fun D σ H=>∃FB F ρ,Rep K F0 H0 FB O F H σ ρ/\jx K W ro F0 H0 FB OL O' D (g ρ)
noncomputable def cL:ai->M Flo:=fun ρ=>.ok (.nx ρ)
noncomputable def bg (g h:ai->M Flo):ai->M Flo:=fun ρ=>(g ρ).bind fun fl=>match fl with
 |.nx ρ'=>h ρ'
 |fl=>.ok fl
noncomputable def sIf (ft:ai->M Bool) (g h:ai->M Flo):ai->M Flo:=fun ρ=>(ft ρ).bind fun b=>if b=true then g ρ else h ρ
noncomputable def lX:Bool->Dat->Bool
 |true,.lst ds=>oZ ds
 |_,d=>jv d
noncomputable def vF (own:Bool) (i:Nat) (f:ai->M Dat):ai->M Flo:=fun ρ=>(f ρ).bind fun d=>if lX own d=true then .ok (.nx (ρ.set i (some d))) else .error .stuck
noncomputable def aW (O:List Nat) (i:Nat) (f:ai->M Dat):ai->M Flo:=fun ρ=>(f (erase O ρ)).bind fun d=>.ok (.nx (ρ.set i (some d)))
noncomputable def tU (O:List Nat) (p:Pat) (f:ai->M Dat):ai->M Flo:=fun ρ=>(f (erase O ρ)).bind fun d=>(gz p d ρ).bind fun ρ'=>.ok (.nx ρ')
noncomputable def ju (ρ:ai) (i:Nat):M (List Dat):=match ρ[i]? with
 |some (some (.lst ds))=>.ok ds
 |_=>.error .stuck
noncomputable def put (ρ:ai) (i:Nat) (ds:List Dat):M Flo:=.ok (.nx (ρ.set i (some (.lst ds))))
noncomputable def fW (O:List Nat) (i:Nat) (f:ai->M Dat):ai->M Flo:=fun ρ=>(ju ρ i).bind fun ds=>(f (erase O ρ)).bind fun d=>if ds.length<sizeLine then put ρ i (ds++[d]) else .error .stuck
noncomputable def asI:Dat->M Int
 |.int i=>.ok i
 |_=>.error .stuck
noncomputable def cF (f:ai->M Dat):ai->M Flo:=fun ρ=>(f ρ).bind fun d=>.ok (.rt d)
noncomputable def isL:Dat->Bool
 |.lst _=>true
 |_=>false
noncomputable def gw (p:Pat) (g:ai->M Flo):List Dat->ai->M Flo
 |[],ρ=>.ok (.nx ρ)
 |d::ds,ρ=>(gz p d ρ).bind fun ρ1=>(g ρ1).bind fun fl=>match fl with
  |.nx ρ2=>gw p g ds ρ2
  |.ct ρ2=>gw p g ds ρ2
  |.bk ρ2=>.ok (.nx ρ2)
  |.rt d=>.ok (.rt d)
noncomputable def pZ (O:List Nat) (fi:ai->M (List Dat)) (p:Pat) (g:ai->M Flo):ai->M Flo:=fun ρ=>(fi (erase O ρ)).bind fun ds=>gw p g ds ρ
section
variable {W:du} {own:Bool} {D:Ends} {h:ai->M Flo} {f:ai->M Dat} 
theorem jx.err {x:M Flo} {e:Err} (p:jx K W ro F0 H0 FB OL O' D x) (h:x=.error e):W.p e F0 H0:=by rw [h] at p;exact p
theorem jx.uG {x:M Flo} {e:Err} (p:jx K W ro F0 H0 FB OL O' D x) (s:Step F0 H0 F H) (h:x=.error e):W.p e F H:=W.mono (p.err h) s
theorem jx.stuck {x:M Flo} {P:Prop} (p:jx K W ro F0 H0 FB OL O' D x) (h:x=.error .stuck):P:=(W.ns (p.err h)).elim
theorem tS.enter (hs:∀i∈O2,i∈O) (t:tS K W ro F0 H0 OL O O' g D σ H):tS K W ro F0 H0 OL O2 O' g D σ H:=by
 obtain ⟨FB,F,ρ,r,p⟩:=t;exact ⟨FB,_,ρ,r.freeze hs,p⟩
theorem rs_next (t:tS K W ro F0 H0 OL O O cL D σ H):iH D σ H:=by
 obtain ⟨FB,F,ρ,r,p⟩:=t;exact p σ F H r
theorem rs_seq (t:tS K W ro F0 H0 OL O O2 (bg g h) D σ H):fT (tS K W ro F0 H0 OL O O' g) (tS K W ro F0 H0 OL O' O2 h) D σ H:=by
 obtain ⟨FB,F,ρ,r,p⟩:=t;refine ⟨FB,F,ρ,r,?_⟩
 unfold bg at p;cases e:g ρ with
 |error x=>exact p.err (by rw [e];rfl)
 |ok fl=>
  rw [e] at p;cases fl with
  |nx ρ'=>exact fun σ' F' H' r'=>⟨FB,F',ρ',r',p⟩
  |rt d=>exact p
  |bk ρ'=>exact p
  |ct ρ'=>exact p
theorem rs_if (t:tS K W ro F0 H0 OL O O' (sIf ft g h) D σ H):rB (tDT K W ft) (tS K W ro F0 H0 OL O O' g) (tS K W ro F0 H0 OL O O' h) D σ H:=by
 obtain ⟨FB,F,ρ,r,p⟩:=t;refine fV r.A6 r.rT (fun e he=>p.uG (r.freeze (O2:=[]) (by simp)).st (by unfold sIf;rw [he];rfl)) fun b hb F1 H1 s1=>?_;have z:sIf ft g h ρ=if b=true then g ρ else h ρ:=by unfold sIf;rw [hb];rfl
 rw [z] at p;cases b with
 |true=>exact ⟨FB,_,ρ,r.vk s1,p⟩
 |false=>exact ⟨FB,_,ρ,r.vk s1,p⟩
noncomputable def aft (own:Bool) (i:Nat) (O:List Nat):List Nat:=if own=true then i::O.filter (· != i) else O.filter (· != i)
theorem Rep.bindV (r:Rep K F0 H0 FB O F H σ ρ) (q:Val K own F H2 H d v) (h2:aN H0 H2) (nw:∀a,nq O [] σ ρ a->∃o,H2 a=some o):Rep K F0 H0 FB (aft own i O) F H (σ.set i (some v)) (ρ.set i (some d)):=by
 cases own with
 |false=>exact r.set q i
 |true=>
  refine r.setOwn (k7.back h2 q) fun a ha hd z=>?_;subst ha;obtain ⟨b,_,e,_,_,_,n⟩:=k7.top hd q;cases e;obtain ⟨j,es,h1,h2,h3,h4,h5⟩:=z;obtain ⟨o,ho⟩:=nw a ⟨j,es,h1,by simp,h3,h4,h5⟩;rw [n] at ho;cases ho
theorem A2 (t:tS K W ro F0 H0 OL O (aft own i O) (aW O i f) D σ H):xg (tD K W own f) (gN i) D σ H:=by
 obtain ⟨FB,F,ρ,r,p⟩:=t;refine aT r.jh r.st.fh (fun e he=>p.uG r.st (by unfold aW;rw [he];rfl)) fun d hd v F1 H1 s1 q=>?_;have z:aW O i f ρ=.ok (.nx (ρ.set i (some d))):=by unfold aW;rw [hd];rfl
 rw [z] at p;exact p _ F1 H1 ((r.step s1).bindV q r.st.hh fun a ha=>let ⟨_,_,_,e,_⟩:=r.own ha;⟨_,e⟩)
theorem Rep.flatV (r:Rep K F0 H0 FB O F H σ ρ) (s:Step (plus F H (nq O [] σ ρ)) H F1 H1) (q:Val K own F1 H H1 d v) (fl:lX own d=true):Val K own (minus F1 (nq O [] σ ρ)) H H1 d v:=by
 have none_of:∀{a:Addr},F1 a=none->minus F1 (nq O [] σ ρ) a=none:=fun {a} h=>by
  by_cases hb:nq O [] σ ρ a
  ·exact ko hb
  ·rw [dG hb];exact h
 cases own with
 |false=>exact aQ.flat (r.xE s) (by cases d<;>exact fl) q
 |true=>
  cases d with
  |lst ds=>
   obtain ⟨a,xs,e,p,n,z,t⟩:=q;exact ⟨a,xs,e,p,none_of n,z,t.flat (r.xE s) fl⟩
  |non=>exact q
  |bl b=>exact q
  |int i=>exact q
  |str x=>exact q
  |tup ds=>exact aQ.flat (d:=.tup ds) (r.xE s) fl q
  |ins C fs=>exact aQ.flat (d:=.ins C fs) (r.xE s) fl q
  |dic ks=>cases fl
  |dil ks=>cases fl
theorem rs_setA (t:tS K W ro F0 H0 OL O (aft own i O) (vF own i f) D σ H):xg (tD K W own f) (gN i) D σ H:=by
 obtain ⟨FB,F,ρ,r,p⟩:=t;refine aT r.A6 r.rT (fun e he=>p.uG (r.freeze (O2:=[]) (by simp)).st (by unfold vF;rw [he];rfl)) fun d hd v F1 H1 s1 q=>?_;have z:vF own i f ρ=if lX own d=true then .ok (.nx (ρ.set i (some d))) else .error .stuck:=by unfold vF;rw [hd];rfl
 rw [z] at p;by_cases hf:lX own d=true
 ·rw [if_pos hf] at p;exact p _ _ H1 ((r.vk s1).bindV (r.flatV s1 q hf) r.st.hh fun a ha=>let ⟨_,_,_,e,_⟩:=r.own ha;⟨_,e⟩)
 ·rw [if_neg hf] at p;exact p.stuck rfl
theorem rs_unpB {pt:Pat} (n:∀i∈pt.names,i∉O) (t:tS K W ro F0 H0 OL O O (tU O pt f) D σ H):xg (tD K W false f) (gP K pt) D σ H:=by
 obtain ⟨FB,F,ρ,r,p⟩:=t;refine aT r.jh r.st.fh (fun e he=>p.uG r.st (by unfold tU;rw [he];rfl)) fun d hd v F1 H1 s1 q=>?_;have z:tU O pt f ρ=(gz pt d ρ).bind fun ρ'=>.ok (.nx ρ'):=by unfold tU;rw [hd];rfl
 rw [z] at p;cases e:gz pt d ρ with
 |error x=>
  have:=kZ e;subst this;exact p.stuck (by rw [e];rfl)
 |ok ρ'=>
  rw [e] at p;exact gP_rep (r.step s1) n q e fun σ' r'=>p σ' F1 H1 r'
theorem kq (h:ju ρ i=.ok ds):ρ[i]? =some (some (.lst ds)):=by
 unfold ju at h;split at h
 ·cases h;assumption
 ·cases h
theorem oh {e:Err} (h:ju ρ i=.error e):e=.stuck:=by
 unfold ju at h;split at h
 ·cases h
 ·cases h;rfl
theorem Rep.lstOwn (r:Rep K F0 H0 FB O F H σ ρ) (hi:i∈O) (e:ρ[i]? =some (some (.lst ds))):∃a xs,σ[i]? =some (some (.ref a))/\H a=some (.lst xs)/\az K F ds xs:=by
 obtain ⟨v,e3,a,xs,ev,p,_,_,t⟩:=r.ow i _ e hi;subst ev;exact ⟨a,xs,e3,p,t⟩
noncomputable def tApp (K:Fg) (i:Nat) (te:TE):TS:=jo (tBM K "list" jL (bS i) (aX te fU))
theorem rs_appB (hi:i∈O) (t:tS K W ro F0 H0 OL O O (fW O i f) D σ H):tApp K i (tD K W false f) D σ H:=by
 obtain ⟨FB,F,ρ,r,p⟩:=t;cases hl:ju ρ i with
 |error e=>
  have:=oh hl;subst this;exact p.stuck (by unfold fW;rw [hl];rfl)
 |ok ds=>
  obtain ⟨a,xs,e2,ha,z⟩:=r.lstOwn hi (kq hl);refine ⟨.ref a,e2,eE ha,?_⟩
  refine aT r.jh r.st.fh (fun e he=>p.uG r.st (by unfold fW;rw [hl];show (f (erase O ρ)).bind _=_;rw [he];rfl)) fun d hd v F1 H1 s1 q=>?_;have ez:fW O i f ρ=if ds.length<sizeLine then put ρ i (ds++[d]) else .error .stuck:=by unfold fW;rw [hl];show (f (erase O ρ)).bind _=_;rw [hd];rfl
  rw [ez] at p;by_cases hs:ds.length<sizeLine
  ·rw [if_pos hs] at p;exact ⟨a,xs,v,rfl,rfl,s1.hh _ _ ha,by rw [z.length];exact hs,p σ F1 _ ((r.step s1).write hi (kq hl) e2 (az.append (z.mono s1.ff) ⟨v,[],rfl,q,rfl⟩))⟩
  ·rw [if_neg hs] at p;exact p.stuck rfl
theorem rs_ret (t:tS K W ro F0 H0 OL O O' (cF f) D σ H):tm (tD K W ro f) D σ H:=by
 obtain ⟨FB,F,ρ,r,p⟩:=t;have rf:=r.freeze (O2:=[]) (by simp);refine aT r.A6 r.rT (fun e he=>p.uG rf.st (by unfold cF;rw [he];rfl)) fun d hd v F1 H1 s1 q=>?_;have z:cF f ρ=.ok (.rt d):=by unfold cF;rw [hd];rfl
 rw [z] at p;exact p v F1 H1 (rf.st.trans s1) (q.back r.st.hh)
theorem rs_retV (hi:i∈O) (t:tS K W true F0 H0 OL O O' (cF (ah i)) D σ H):tm (bS i) D σ H:=by
 obtain ⟨FB,F,ρ,r,p⟩:=t;unfold cF ah at p
 match e:ρ[i]? with
 |some (some d)=>
  rw [e] at p;obtain ⟨v,e3,q⟩:=r.ow i d e hi;exact ⟨v,e3,p v F H r.st q⟩
 |some none=>rw [e] at p;exact p.stuck rfl
 |none=>rw [e] at p;exact p.stuck rfl
theorem rs_for {fs:ai->M (List Dat)} {pt:Pat} (n:∀i∈pt.names,i∉O) (t:tS K W ro F0 H0 OL O O (pZ O fs pt g) D σ H):tFor (iD K W fs) (gP K pt) (tS K W ro F0 H0 O O O g) D σ H:=by
 obtain ⟨FB,F,ρ,r,p⟩:=t;refine ⟨F,erase O ρ,r.jh,r.st.fh,?_⟩
 cases e:fs (erase O ρ) with
 |error x=>exact p.uG r.st (by unfold pZ;rw [e];rfl)
 |ok ds=>
  have z:pZ O fs pt g ρ=gw pt g ds ρ:=by unfold pZ;rw [e];rfl
  rw [z] at p;intro J F1 H1 s1 it;refine ⟨fun i m σ H=>∃F ρ,Rep K F0 H0 F1 O F H σ ρ/\i<=ds.length/\m=ds.length-i/\jx K W ro F0 H0 FB OL O D (gw pt g (ds.drop i) ρ),⟨ds.length,F1,ρ,?_,Nat.zero_le _,by omega,by rw [List.drop_zero];exact p⟩,?_⟩
  ·have r1:=r.step s1;exact ⟨r1.st,aN.refl _,r1.len,r1.fz,r1.ow,r1.ap⟩
  ·rintro i m σ2 H2 ⟨F2,ρ2,r2,hi,rfl,p2⟩;by_cases hlt:i<ds.length
   ·have ed:ds.drop i=ds[i]::ds.drop (i+1):=List.drop_eq_getElem_cons hlt;rw [ed] at p2;refine .inr ⟨it.go i F2 H2 r2.fb r2.st.fh hlt,fun σ' H'=>(∃F ρ,Rep K F0 H0 F1 O F H' σ' ρ/\jx K W ro F0 H0 FB OL O D (gw pt g (ds.drop (i+1)) ρ)),fun σ' H' ⟨F,ρ,r,p⟩=>⟨ds.length-(i+1),by omega,F,ρ,r,hlt,rfl,p⟩,fun x H' y=>?_⟩;obtain ⟨F3,s3,q3⟩:=it.yl i F2 H2 x H' ds[i] r2.fb r2.st.fh (by simp [hlt]) y;have ef:gw pt g (ds[i]::ds.drop (i+1)) ρ2=(gz pt ds[i] ρ2).bind fun ρ1=>(g ρ1).bind fun fl=>match fl with
     |.nx ρ2=>gw pt g (ds.drop (i+1)) ρ2
     |.ct ρ2=>gw pt g (ds.drop (i+1)) ρ2
     |.bk ρ2=>.ok (.nx ρ2)
     |.rt d=>.ok (.rt d):=by rw [gw]
    rw [ef] at p2;cases eb:gz pt ds[i] ρ2 with
    |error x=>
     have:=kZ eb;subst this;exact p2.stuck (by rw [eb];rfl)
    |ok ρ3=>
     rw [eb] at p2;have p2:jx K W ro F0 H0 FB OL O D ((g ρ3).bind fun fl=>match fl with
      |.nx ρ2=>gw pt g (ds.drop (i+1)) ρ2
      |.ct ρ2=>gw pt g (ds.drop (i+1)) ρ2
      |.bk ρ2=>.ok (.nx ρ2)
      |.rt d=>.ok (.rt d)):=p2
     refine gP_rep (r2.step s3) n q3 eb fun σ4 r4=>⟨F1,F3,ρ3,r4,?_⟩
     have fb1:aN FB F1:=(r.step s1).fb;cases eg:g ρ3 with
     |error x=>exact p2.err (by rw [eg];rfl)
     |ok fl=>
      rw [eg] at p2;cases fl with
      |nx ρ5=>exact fun σ' F' H' r'=>⟨F',ρ5,r',p2⟩
      |ct ρ5=>exact fun σ' F' H' r'=>⟨F',ρ5,r',p2⟩
      |bk ρ5=>exact fun σ' F' H' r'=>p2 σ' F' H' (r'.base fb1)
      |rt d=>exact p2
   ·have:i=ds.length:=by omega
    subst this;rw [List.drop_length] at p2;exact .inl ⟨it.st F2 H2 r2.fb r2.st.fh,p2 σ2 F2 H2 (r2.base (r.step s1).fb)⟩
end
noncomputable def stk:M α:=.error .stuck
noncomputable def cn:Dat->Dat->M Dat
 |.int i,.int j=>.ok (.int (i+j))
 |.str x,.str y=>if x.length+y.length<=sizeLine then .ok (.str (x++y)) else stk
 |.lst xs,.lst ys=>if xs.length+ys.length<=sizeLine then .ok (.lst (xs++ys)) else stk
 |.tup xs,.tup ys=>if xs.length+ys.length<=sizeLine then .ok (.tup (xs++ys)) else stk
 |_,_=>stk
noncomputable def subD:Dat->Dat->M Dat
 |.int i,.int j=>.ok (.int (i-j))
 |_,_=>stk
noncomputable def dB (i:Int):Bool:=decide (-(2^64)<i)&&decide (i<2^64)
noncomputable def si:Dat->Dat->M Dat
 |.int i,.int j=>if (dB i||dB j)=true then .ok (.int (i*j)) else stk
 |_,_=>stk
noncomputable def cT:Dat->Dat->M Dat
 |.int i,.int j=>if (decide (0<j)&&decide (j<18446744073709551616))=true then .ok (.int (i/j)) else stk
 |_,_=>stk
noncomputable def gu:Dat->Dat->M Dat
 |.int i,.int j=>if 0<j then .ok (.int (i%j)) else stk
 |_,_=>stk
noncomputable def powD:Dat->Dat->M Dat
 |.int i,.int j=>if (decide (0<=j)&&decide (j<=1000000)&&decide (i.natAbs<2^64))=true then .ok (.int (i^j.toNat)) else stk
 |_,_=>stk
noncomputable def ltD:Dat->Dat->M Dat
 |.int i,.int j=>.ok (.bl (decide (i<j)))
 |_,_=>stk
noncomputable def leD:Dat->Dat->M Dat
 |.int i,.int j=>.ok (.bl (decide (i<=j)))
 |_,_=>stk
noncomputable def gtD:Dat->Dat->M Dat
 |.int i,.int j=>.ok (.bl (decide (j<i)))
 |_,_=>stk
noncomputable def geD:Dat->Dat->M Dat
 |.int i,.int j=>.ok (.bl (decide (j<=i)))
 |_,_=>stk
noncomputable def b2z (b:Bool):Int:=if b then 1 else 0
mutual
noncomputable def eqD:Dat->Dat->Bool
 |.non,.non=>true
 |.bl a,.bl b=>a==b
 |.bl a,.int b=>b2z a==b
 |.int a,.bl b=>a==b2z b
 |.int a,.int b=>a==b
 |.str a,.str b=>a==b
 |.tup xs,.tup ys=>eqDs xs ys
 |.lst xs,.lst ys=>eqDs xs ys
 |_,_=>false
noncomputable def eqDs:List Dat->List Dat->Bool
 |[],[]=>true
 |d::ds,e::es=>eqD d e&&eqDs ds es
 |_,_=>false
end
mutual
noncomputable def okE:Dat->Nat->Bool
 |.tup ds,n=>(match n with
  |0=>false
  |n+1=>jt ds n)
 |.lst ds,n=>(match n with
  |0=>false
  |n+1=>jt ds n)
 |.ins _ _,_=>false
 |.dic _,_=>false
 |.dil _,_=>false
 |.non,_=>true
 |.bl _,_=>true
 |.int _,_=>true
 |.str _,_=>true
noncomputable def jt:List Dat->Nat->Bool
 |[],_=>true
 |d::ds,n=>okE d n&&jt ds n
end
noncomputable def eqM (a b:Dat):M Dat:=if (okE a 40&&okE b 40)=true then .ok (.bl (eqD a b)) else stk
noncomputable def neM (a b:Dat):M Dat:=if (okE a 40&&okE b 40)=true then .ok (.bl (!eqD a b)) else stk
noncomputable def inM (a b:Dat):M Dat:=(g8 b).bind fun ds=>if (okE a 40&&jt ds 40)=true then .ok (.bl (ds.any fun d=>eqD d a)) else stk
noncomputable def iy (a b:Dat):M Dat:=(g8 b).bind fun ds=>if (okE a 40&&jt ds 40)=true then .ok (.bl (!ds.any fun d=>eqD d a)) else stk
noncomputable def isND:Dat->Dat->M Dat
 |.non,.non=>.ok (.bl true)
 |_,.non=>.ok (.bl false)
 |_,_=>stk
noncomputable def vV:Dat->Dat->M Dat
 |.non,.non=>.ok (.bl false)
 |_,.non=>.ok (.bl true)
 |_,_=>stk
noncomputable def f9 (ds:List Dat) (i:Int):M Dat:=match atI ds i with
 |some d=>.ok d
 |none=>stk
noncomputable def ixD:Dat->Dat->M Dat
 |.lst ds,.int i=>f9 ds i
 |.tup ds,.int i=>f9 ds i
 |_,_=>stk
noncomputable def ku:List Dat->M Dat
 |[.lst ds]=>.ok (.int ds.length)
 |[.tup ds]=>.ok (.int ds.length)
 |_=>stk
noncomputable def gm:List Dat->M (List Bool)
 |[]=>.ok []
 |d::ds=>(asB d).bind fun b=>(gm ds).bind fun r=>.ok (b::r)
noncomputable def gv:List Dat->M (List Int)
 |[]=>.ok []
 |d::ds=>(asI d).bind fun b=>(gv ds).bind fun r=>.ok (b::r)
noncomputable def allD:List Dat->M Dat
 |[.lst ds]=>(gm ds).bind fun bs=>.ok (.bl (bs.all id))
 |_=>stk
noncomputable def kr:List Dat->M Dat
 |[.lst ds]=>.ok (.lst ds)
 |[.tup ds]=>.ok (.lst ds)
 |_=>stk
noncomputable def intD:List Dat->M Dat
 |[.int i]=>.ok (.int i)
 |[.bl b]=>.ok (.int (b2z b))
 |_=>stk
noncomputable def kz:Dat->M Dat
 |.int _=>.ok (.bl true)
 |.bl _=>.ok (.bl true)
 |.ins _ _=>stk
 |.dic _=>stk
 |.dil _=>stk
 |_=>.ok (.bl false)
noncomputable def iV:Dat->M Dat
 |.bl _=>.ok (.bl true)
 |.ins _ _=>stk
 |.dic _=>stk
 |.dil _=>stk
 |_=>.ok (.bl false)
noncomputable def iU:Dat->M Dat
 |.lst _=>.ok (.bl true)
 |.ins _ _=>stk
 |.dic _=>stk
 |.dil _=>stk
 |_=>.ok (.bl false)
noncomputable def jl:Dat->M Dat
 |.tup _=>.ok (.bl true)
 |.ins _ _=>stk
 |.dic _=>stk
 |.dil _=>stk
 |_=>.ok (.bl false)
noncomputable def jC:Dat->M (List Dat)
 |.lst ds=>.ok ds
 |_=>.error .stuck
noncomputable def mi:List Dat->List Dat->List Dat
 |d::ds,e::es=>.tup [d,e]::mi ds es
 |_,_=>[]
noncomputable def yY (fa fb:ai->M Dat):ai->M (List Dat):=fun ρ=>(fa ρ).bind fun a=>(fb ρ).bind fun b=>(jC a).bind fun ds=>(jC b).bind fun es=>.ok (mi ds es)
noncomputable def bU (nN n:Nat) (g:ai->M Flo) (ds:List Dat):M Dat:=if ds.length=n then (g (ds.map some++List.replicate (nN-ds.length) none)).bind fun fl=>match fl with
 |.nx _=>.ok .non
 |.rt d=>.ok d
 |_=>stk else stk
@[simp] theorem aq {α β:Type} (a:α) (f:α->M β):Except.bind (Except.ok a:M α) f=f a:=id rfl
@[simp] theorem ik {α β:Type} (e:Err) (f:α->M β):Except.bind (Except.error e:M α) f=.error e:=id rfl
@[simp] theorem uA:∀is:List Int,gv (is.map Dat.int)=.ok is
 |[]=>rfl
 |i::is=>by simp [gv,asI,uA is]
@[simp] theorem zq:∀is:List Bool,gm (is.map Dat.bl)=.ok is
 |[]=>rfl
 |i::is=>by simp [gm,asB,zq is]
theorem mZ (h:k<ds.length):f9 ds (k:Int)=.ok ds[k]:=by
 unfold f9 atI ixN;rw [if_pos (by omega),if_pos (by omega)];simp [h]
theorem getI_int {is:List Int} {k:Int} (h0:0<=k) (h:k<is.length):f9 (is.map Dat.int) k=.ok (.int (is[k.toNat]'(by omega))):=by
 have hj:k.toNat<(is.map Dat.int).length:=by simp;omega
 have e:k=(k.toNat:Int):=by omega
 have:=mZ hj;rw [<- e] at this;rw [this];simp
theorem i9 {p:Pat} {g:ai->M Flo} (P:Nat->ai->Prop):∀(ds:List Dat) (k:Nat) (ρ:ai),P k ρ ->
  (∀(i:Nat) (d:Dat) (ρ:ai),ds[i]? =some d->P (k+i) ρ->∃ρ1,gz p d ρ=.ok ρ1/\∃ρ2,(g ρ1=.ok (.nx ρ2)\/g ρ1=.ok (.ct ρ2))/\P (k+i+1) ρ2)->∃ρ',gw p g ds ρ=.ok (.nx ρ')/\P (k+ds.length) ρ'
 |[],k,ρ,h,_=>⟨ρ,rfl,h⟩
 |d::ds,k,ρ,h,st=>by
  obtain ⟨ρ1,e1,ρ2,e2,h2⟩:=st 0 d ρ rfl h;obtain ⟨ρ',e3,h3⟩:=i9 P ds (k+1) ρ2 h2 fun i d' ρ he hp=>by
   have:=st (i+1) d' ρ (by simpa using he) (by rw [show k+(i+1)=k+1+i by omega];exact hp);rw [show k+(i+1)+1=k+1+i+1 by omega] at this;exact this
  refine ⟨ρ',?_,by rw [show k+(d::ds).length=k+1+ds.length by simp;omega];exact h3⟩
  rw [gw,e1];rcases e2 with e2|e2
  ·simp only [aq,e2];exact e3
  ·simp only [aq,e2];exact e3
theorem kW {p:Pat} {fe:ai->M Dat} {ρ0:ai} (f:Dat->Dat):∀(ds:List Dat),(∀d∈ds,∃ρ,gz p d ρ0=.ok ρ/\fe ρ=.ok (f d))->aL p gd fe ρ0 ds=.ok (ds.map f)
 |[],_=>rfl
 |d::ds,h=>by
  obtain ⟨ρ,e1,e2⟩:=h d (by simp);rw [aL,e1];simp only [aq,gd,e2,kW f ds fun x hx=>h x (by simp [hx])];simp
@[simp] theorem small_def (i:Int):dB i=(decide (-(2^64)<i)&&decide (i<2^64)):=id rfl
@[simp] theorem small_def2 (i:Int):jI i=(decide (-(2^62)<=i)&&decide (i<2^62)):=id rfl
section
variable {fr:ai->M (List Dat)} {h:ai->M Flo}
@[simp] theorem e_var0 (d:Dat) (r:ai):ah 0 (some d::r)=.ok d:=id rfl
@[simp] theorem e_varS (i:Nat) (o:Option Dat) (r:ai):ah (i+1) (o::r)=ah i r:=by simp [ah]
@[simp] theorem e_c (d:Dat):fC d ρ=.ok d:=id rfl
@[simp] theorem e_1 (k:Dat->M Dat):f1 k fa ρ=(fa ρ).bind k:=id rfl
@[simp] theorem e_2 (k:Dat->Dat->M Dat):f2 k fa fb ρ=(fa ρ).bind fun a=>(fb ρ).bind fun b=>k a b:=id rfl
@[simp] theorem e_nil:aB ρ=.ok []:=id rfl
@[simp] theorem e_cons:aa fa fr ρ=(fa ρ).bind fun a=>(fr ρ).bind fun r=>.ok (a::r):=id rfl
@[simp] theorem e_L (k:List Dat->M Dat):fL k fr ρ=(fr ρ).bind k:=id rfl
@[simp] theorem e_ite:fIte ft fa fb ρ=(ft ρ).bind fun b=>if b=true then fa ρ else fb ρ:=id rfl
@[simp] theorem e_and:Bc ft fu ρ=(ft ρ).bind fun b=>if b=true then fu ρ else .ok false:=id rfl
@[simp] theorem e_or:fOr ft fu ρ=(ft ρ).bind fun b=>if b=true then .ok true else fu ρ:=id rfl
@[simp] theorem e_not:sC ft ρ=(ft ρ).bind fun b=>.ok (!b):=id rfl
@[simp] theorem e_B:fB fa ρ=(fa ρ).bind asB:=id rfl
@[simp] theorem e_andV:lY fa fb ρ=(fa ρ).bind fun a=>(asB a).bind fun b=>if b=true then fb ρ else .ok (.bl false):=id rfl
@[simp] theorem e_orV:Bb fa fb ρ=(fa ρ).bind fun a=>(asB a).bind fun b=>if b=true then .ok (.bl true) else fb ρ:=id rfl
@[simp] theorem e_tru:lg fa ρ=(fa ρ).bind truD:=id rfl
@[simp] theorem e_chain (k k':Dat->Dat->M Dat):iB k k' fa fb fc ρ=(fa ρ).bind fun a=>(fb ρ).bind fun b=>(k a b).bind fun x=>(asB x).bind fun z=>if z=true then (fc ρ).bind fun c=>k' b c else .ok (.bl false):=id rfl
@[simp] theorem e_yes:gd ρ=.ok true:=id rfl
@[simp] theorem e_it:fIt fa ρ=(fa ρ).bind g8:=id rfl
@[simp] theorem e_rng (k:List Dat->M (List Dat)):sV k fr ρ=(fr ρ).bind k:=id rfl
@[simp] theorem e_zip:yY fa fb ρ=(fa ρ).bind fun a=>(fb ρ).bind fun b=>(jC a).bind fun ds=>(jC b).bind fun es=>.ok (mi ds es):=id rfl
@[simp] theorem e_comp (fi:ai->M (List Dat)) (ix:List (Option Nat)) (p:Pat):bY fi ix p ft fa ρ=(fi ρ).bind fun ds=>if ds.length<=sizeLine then (aL p ft fa (dR ix ρ) ds).bind fun r=>.ok (.lst r) else .error .stuck:=id rfl
@[simp] theorem e_asB (b:Bool):asB (.bl b)=.ok b:=id rfl
@[simp] theorem e_asI (b:Int):asI (.int b)=.ok b:=id rfl
@[simp] theorem e_itemsL (ds:List Dat):g8 (.lst ds)=.ok ds:=id rfl
@[simp] theorem e_itemsT (ds:List Dat):g8 (.tup ds)=.ok ds:=id rfl
@[simp] theorem e_notD (b:Bool):notD (.bl b)=.ok (.bl (!b)):=id rfl
@[simp] theorem e_truB (b:Bool):truD (.bl b)=.ok b:=id rfl
@[simp] theorem e_addI (i j:Int):cn (.int i) (.int j)=.ok (.int (i+j)):=id rfl
@[simp] theorem e_subI (i j:Int):subD (.int i) (.int j)=.ok (.int (i-j)):=id rfl
@[simp] theorem e_ltI (i j:Int):ltD (.int i) (.int j)=.ok (.bl (decide (i<j))):=id rfl
@[simp] theorem e_leI (i j:Int):leD (.int i) (.int j)=.ok (.bl (decide (i<=j))):=id rfl
@[simp] theorem e_gtI (i j:Int):gtD (.int i) (.int j)=.ok (.bl (decide (j<i))):=id rfl
@[simp] theorem e_geI (i j:Int):geD (.int i) (.int j)=.ok (.bl (decide (j<=i))):=id rfl
@[simp] theorem e_ixL (ds:List Dat) (i:Int):ixD (.lst ds) (.int i)=f9 ds i:=id rfl
@[simp] theorem e_ixT (ds:List Dat) (i:Int):ixD (.tup ds) (.int i)=f9 ds i:=id rfl
@[simp] theorem e_lenL (ds:List Dat):ku [.lst ds]=.ok (.int ds.length):=id rfl
@[simp] theorem e_lenT (ds:List Dat):ku [.tup ds]=.ok (.int ds.length):=id rfl
@[simp] theorem e_all (ds:List Dat):allD [.lst ds]=(gm ds).bind fun bs=>.ok (.bl (bs.all id)):=id rfl
@[simp] theorem e_listL (ds:List Dat):kr [.lst ds]=.ok (.lst ds):=id rfl
@[simp] theorem e_intB (b:Bool):intD [.bl b]=.ok (.int (b2z b)):=id rfl
@[simp] theorem e_isiBI (i:Int):iV (.int i)=.ok (.bl false):=id rfl
@[simp] theorem e_isiII (i:Int):kz (.int i)=.ok (.bl true):=id rfl
@[simp] theorem e_isiLL (ds:List Dat):iU (.lst ds)=.ok (.bl true):=id rfl
@[simp] theorem e_isiTT (ds:List Dat):jl (.tup ds)=.ok (.bl true):=id rfl
@[simp] theorem e_isN (d:Dat):isND d .non=.ok (.bl (match d with|.non=>true|_=>false)):=by cases d<;>rfl
@[simp] theorem e_notN (d:Dat):vV d .non=.ok (.bl (match d with|.non=>false|_=>true)):=by cases d<;>rfl
@[simp] theorem e_next:cL ρ=.ok (.nx ρ):=id rfl
@[simp] theorem e_seq:bg g h ρ=(g ρ).bind fun fl=>match fl with
 |.nx ρ'=>h ρ'
 |fl=>.ok fl:=id rfl
@[simp] theorem e_if:sIf ft g h ρ=(ft ρ).bind fun b=>if b=true then g ρ else h ρ:=id rfl
@[simp] theorem e_setB (O:List Nat) (i:Nat):aW O i fa ρ=(fa (erase O ρ)).bind fun d=>.ok (.nx (ρ.set i (some d))):=id rfl
@[simp] theorem e_setA (own:Bool) (i:Nat):vF own i fa ρ=(fa ρ).bind fun d=>if lX own d=true then .ok (.nx (ρ.set i (some d))) else .error .stuck:=id rfl
@[simp] theorem e_ret:cF fa ρ=(fa ρ).bind fun d=>.ok (.rt d):=id rfl
@[simp] theorem e_for (O:List Nat) (fi:ai->M (List Dat)) (p:Pat):pZ O fi p g ρ=(fi (erase O ρ)).bind fun ds=>gw p g ds ρ:=id rfl
@[simp] theorem e_unpB (O:List Nat) (p:Pat):tU O p fa ρ=(fa (erase O ρ)).bind fun d=>(gz p d ρ).bind fun ρ'=>.ok (.nx ρ'):=id rfl
@[simp] theorem e_appB (O:List Nat) (i:Nat):fW O i fa ρ=(ju ρ i).bind fun ds=>(fa (erase O ρ)).bind fun d=>if ds.length<sizeLine then put ρ i (ds++[d]) else .error .stuck:=id rfl
@[simp] theorem e_put (i:Nat) (ds:List Dat):put ρ i ds=.ok (.nx (ρ.set i (some (.lst ds)))):=id rfl
@[simp] theorem e_lst0 (ds:List Dat) (r:ai):ju (some (.lst ds)::r) 0=.ok ds:=id rfl
@[simp] theorem e_lstS (i:Nat) (o:Option Dat) (r:ai):ju (o::r) (i+1)=ju r i:=by simp [ju]
@[simp] theorem e_er0:erase [] ρ=ρ:=id rfl
@[simp] theorem e_erS (i:Nat) (O:List Nat):erase (i::O) ρ=erase O (ρ.set i none):=id rfl
@[simp] theorem Be (i:Nat) (d:Dat):gz (.nm i) d ρ=.ok (ρ.set i (some d)):=id rfl
@[simp] theorem e_btp (is:List Nat) (ds:List Dat):gz (.tp is) (.tup ds) ρ=if ds.length=is.length then .ok (iL is ds ρ) else .error .stuck:=id rfl
@[simp] theorem e_sa0 (ds:List Dat):iL [] ds ρ=ρ:=by cases ds<;>rfl
@[simp] theorem e_saS (i:Nat) (is:List Nat) (d:Dat) (ds:List Dat):iL (i::is) (d::ds) ρ=iL is ds (ρ.set i (some d)):=id rfl
@[simp] theorem e_in0:dR [] ρ=[]:=id rfl
@[simp] theorem e_inN (ix:List (Option Nat)):dR (none::ix) ρ=none::dR ix ρ:=id rfl
@[simp] theorem e_inS (j:Nat) (ix:List (Option Nat)):dR (some j::ix) ρ=(ρ[j]?).join::dR ix ρ:=id rfl
@[simp] theorem e_tup (ds:List Dat):iQ ds=if ds.length<=sizeLine then .ok (.tup ds) else .error .stuck:=id rfl
@[simp] theorem e_lst (ds:List Dat):cw ds=if ds.length<=sizeLine then .ok (.lst ds) else .error .stuck:=id rfl
@[simp] theorem e_line:sizeLine=16777216:=sizeLine_eq
@[simp] theorem e_run (a b:Nat) (ds:List Dat):bU a b g ds=if ds.length=b then (g (ds.map some++List.replicate (a-ds.length) none)).bind fun fl=>match fl with
 |.nx _=>.ok .non
 |.rt d=>.ok d
 |_=>stk else stk:=id rfl
@[simp] theorem e_rng1 {j:Int} (h:jI j=true):tY [.int j]=.ok (bz 0 j.toNat):=by show (if jI j=true then _ else _)=_;rw [if_pos h]
@[simp] theorem e_mod {i j:Int} (h:0<j):gu (.int i) (.int j)=.ok (.int (i%j)):=by simp [gu,h]
@[simp] theorem e_fdiv {i j:Int} (h:0<j) (h2:j<18446744073709551616):cT (.int i) (.int j)=.ok (.int (i/j)):=by simp [cT,h,h2]
@[simp] theorem e_mulR {i j:Int} (h:dB j=true):si (.int i) (.int j)=.ok (.int (i*j)):=by show (if (dB i||dB j)=true then _ else _)=_;rw [h,Bool.or_true,if_pos rfl]
@[simp] theorem e_mulL {i j:Int} (h:dB i=true):si (.int i) (.int j)=.ok (.int (i*j)):=by show (if (dB i||dB j)=true then _ else _)=_;rw [h,Bool.true_or,if_pos rfl]
end
section
variable {W:du} {own:Bool} {a b c:Expr} {rest:List Expr} {f:ai->M Dat} {fr:ai->M (List Dat)} 
theorem PE.imp {t t':TE} (h:PE X e t) (q:∀σ H Q,t' σ H Q->t σ H Q):PE X e t':=fun pins s σ H Q I z=>h pins s σ H Q I (q σ H Q z)
theorem PT.imp {t t':TT} (h:PT X e t) (q:∀σ H Q,t' σ H Q->t σ H Q):PT X e t':=fun pins s σ H Q I z=>h pins s σ H Q I (q σ H Q z)
theorem PW.imp {t t':TT} (h:PW X e t) (q:∀σ H Q,t' σ H Q->t σ H Q):PW X e t':=fun wh pins s σ H Q I z=>h wh pins s σ H Q I (q σ H Q z)
theorem PA.imp {t t':TA} (h:PA X es t) (q:∀σ H Q,t' σ H Q->t σ H Q):PA X es t':=fun ps pins s σ H Q I z=>h ps pins s σ H Q I (q σ H Q z)
theorem PI.imp {t t':TI} (h:PI X tg e t) (q:∀σ H Q,t' σ H Q->t σ H Q):PI X tg e t':=fun pins s σ H Q I z=>h pins s σ H Q I (q σ H Q z)
theorem PS.imp {t t':TS} (h:PS X st t) (q:∀D σ H,t' D σ H->t D σ H):PS X st t':=fun pins s σ H D I z=>h pins s σ H D I (q D σ H z)
theorem PSs.imp {st:List Stmt} {t t':TS} (h:PSs X st t) (q:∀D σ H,t' D σ H->t D σ H):PSs X st t':=fun pins s σ H D I z=>h pins s σ H D I (q D σ H z)
noncomputable abbrev DE (K:Fg) (W:du) (own:Bool) (X:Cx) (e:Expr) (f:ai->M Dat):Prop:=PE X e (tD K W own f)
noncomputable abbrev DT (K:Fg) (W:du) (X:Cx) (e:Expr) (f:ai->M Bool):Prop:=PT X e (tDT K W f)
noncomputable abbrev DW (K:Fg) (W:du) (X:Cx) (e:Expr) (f:ai->M Bool):Prop:=PW X e (tDT K W f)
noncomputable abbrev DA (K:Fg) (W:du) (X:Cx) (es:List Expr) (f:ai->M (List Dat)):Prop:=PA X es (tDA K W f)
noncomputable abbrev DI (K:Fg) (W:du) (X:Cx) (tg e:Expr) (f:ai->M (List Dat)):Prop:=PI X tg e (iD K W f)
noncomputable abbrev DG (K:Fg) (X:Cx) (tg:Expr) (p:Pat):Prop:=PG X tg (gP K p)
noncomputable abbrev DS (K:Fg) (W:du) (ro:Bool) (X:Cx) (OL O O':List Nat) (st:Stmt) (g:ai->M Flo):Prop:=∀F0 H0:Hp,PS X st (tS K W ro F0 H0 OL O O' g)
noncomputable abbrev DSs (K:Fg) (W:du) (ro:Bool) (X:Cx) (OL O O':List Nat) (st:List Stmt) (g:ai->M Flo):Prop:=∀F0 H0:Hp,PSs X st (tS K W ro F0 H0 OL O O' g)
noncomputable abbrev Op2 (K:Fg) (W:du) (own:Bool) (X:Cx) (o:Value->Value->Sem Value) (g:Dat->Dat->M Dat):Prop:=OpR X o (rD2 K W own g)
noncomputable abbrev qu (K:Fg) (W:du) (own:Bool) (X:Cx) (v:Value) (g:List Dat->M Dat):Prop:=iq X v (rDL K W own g)
theorem ao (i:Nat) (hN:X.N[i]? =some x:=by rfl) (hv:Vis X.env.scope x:=by first|exact Or.inl rfl|exact Or.inr (Or.inl rfl)|exact Or.inr (Or.inr rfl)) (hd:(x==("__debug__":Str))=false:=by decide)
  (hcd:(x==("__classdict__":Str))=false:=by decide):DE K W false X (.Name x pos) (ah i):=(pv i hN hv hd hcd).imp fun _ _ _=>rd_var
theorem ae {i:Int} {j}:DE K W false X (.Constant (.int i) j pos) (fC (.int i)):=Ak.imp fun _ _ _=>rd_c fun _=>rfl
theorem ql {k:Bool} {j}:DE K W false X (.Constant (.bool k) j pos) (fC (.bl k)):=rW.imp fun _ _ _=>rd_c fun _=>rfl
theorem dU {j}:DE K W false X (.Constant .none j pos) (fC .non):=pe_non.imp fun _ _ _=>rd_c fun _=>rfl
theorem aP {j}:DE K W false X (.Constant (.str z) j pos) (fC (.str z)):=pe_str.imp fun _ _ _=>rd_c fun _=>rfl
theorem ib {n:Int} (hm:∃t,X.mg x=some (.int n t)) (hg:Gl X x:=by rfl) (hd:(x==("__debug__":Str))=false:=by decide):DE K W false X (.Name x pos) (fC (.int n)):=(pe_gint hg hm hd).imp fun _ _ _=>rd_c fun _=>rfl
theorem ax (h:DE K W true X e f):DE K W false X e f:=PE.imp h fun _ _ _ ⟨F,ρ,r,s,p⟩=>⟨F,ρ,r,s,p.frz⟩
theorem av {op:Operator} {g:Dat->Dat->M Dat} (ho:Op2 K W own X (binaryOp op) g) (ha:DE K W false X a fa) (hb:DE K W false X b fb):DE K W own X (.BinOp a op b pos) (f2 g fa fb):=(pe_op ho ha hb).imp fun _ _ _=>rd_2
theorem jG {g:Dat->Dat->M Dat} (ho:Op2 K W false X (compareOp op) g) (ha:DE K W false X a fa) (hb:DE K W false X b fb) (hm:behindInMarks op b=false:=by first|exact As _|with_unfolding_all rfl):DE K W false X (.Compare a [op] [b] pos) (f2 g fa fb):=
 (pe_cmpR ho ha hb hm).imp fun _ _ _=>rd_2
theorem aU {g:Dat->Dat->M Dat} (ho:Op2 K W false X (compareOp op) g) (ha:DE K W false X a fa) (hb:DE K W false X b fb) (hm:behindInMarks op b=false:=by first|exact As _|with_unfolding_all rfl):DT K W X (.Compare a [op] [b] pos) (fB (f2 g fa fb)):=
 (Ag ho ha hb hm).imp fun σ H Q h=>by
  have q:=rd_B h;exact rd_2 (own:=false) q
theorem xX {g:Dat->Dat->M Dat} (ho:Op2 K W false X (compareOp op) g) (ho':Op2 K W false X (compareOp op') g') (ha:DE K W false X a fa) (hb:DE K W false X b fb) (hc:DE K W false X c fc)
  (hm:lastMarks [op,op'] [b,c]=false:=by with_unfolding_all rfl):DE K W false X (.Compare a [op,op'] [b,c] pos) (iB g g' fa fb fc):=(pe_chain ho ho' ha hb hc hm).imp fun _ _ _=>xr
theorem dt_chain {g:Dat->Dat->M Dat} (ho:Op2 K W false X (compareOp op) g) (ho':Op2 K W false X (compareOp op') g') (ha:DE K W false X a fa) (hb:DE K W false X b fb) (hc:DE K W false X c fc)
  (hm:lastMarks [op,op'] [b,c]=false:=by with_unfolding_all rfl):DT K W X (.Compare a [op,op'] [b,c] pos) (fB (iB g g' fa fb fc)):=(pt_chain ho ho' ha hb hc hm).imp fun σ H Q h=>by
  have q:=rd_B h;exact xr q
theorem dS (ha:DE K W false X a fa) (hK:X.K=K:=by rfl) (he:∀whole,isTrue a X.env whole=(do let v <- whole;standAt a.pos;holding [v] (truthy v)):=by intro _;rfl):DT K W X a (lg fa):=by
 subst hK;exact (rR ha he).imp fun _ _ _=>rd_tru
theorem iC (ha:DT K W X a ft):DT K W X (.UnaryOp .Not a pos) (sC ft):=(Af ha).imp fun _ _ _=>rd_not
theorem wq (ha:DT K W X a ft):DW K W X (.BoolOp .And [a] pos) ft:=pw_and1 ha
theorem gJ (ha:DT K W X a ft):DW K W X (.BoolOp .Or [a] pos) ft:=pw_or1 ha
theorem Bf (ha:DT K W X a ft) (hb:DW K W X (.BoolOp .And (b::rest) pos) fu):DW K W X (.BoolOp .And (a::b::rest) pos) (Bc ft fu):=(pw_and ha hb).imp fun _ _ _=>rd_and
theorem j3 (ha:DT K W X a ft) (hb:DW K W X (.BoolOp .Or (b::rest) pos) fu):DW K W X (.BoolOp .Or (a::b::rest) pos) (fOr ft fu):=(pw_or ha hb).imp fun _ _ _=>rd_or
theorem qX {op} (h:DE K W false X a f):DE K W false X (.BoolOp op [a] pos) f:=pe_one h
theorem uN (ha:DE K W false X a fa) (hb:DE K W false X (.BoolOp .And (b::rest) pos) fb):DE K W false X (.BoolOp .And (a::b::rest) pos) (lY fa fb):=(pe_and ha hb).imp fun _ _ _=>rd_andV
theorem de_or (ha:DE K W false X a fa) (hb:DE K W false X (.BoolOp .Or (b::rest) pos) fb):DE K W false X (.BoolOp .Or (a::b::rest) pos) (Bb fa fb):=(pe_or ha hb).imp fun _ _ _=>rd_orV
theorem de_not (ha:DE K W false X a fa):DE K W false X (.UnaryOp .Not a pos) (f1 notD fa):=(pe_not ha).imp fun _ _ _=>rd_notV
theorem xV (hc:DT K W X c ft) (ha:DE K W own X a fa) (hb:DE K W own X b fb):DE K W own X (.IfExp c a b pos) (fIte ft fa fb):=(pe_ifExp hc ha hb).imp fun _ _ _=>rd_ite
theorem cS:DA K W X [] aB:=aY.imp fun _ _ _=>rd_nil
theorem bX (ha:DE K W false X e fa) (hr:DA K W X es fr) (hs:starEach (e::es) X.env=(false,eval e X.env)::starEach es X.env:=by rfl):DA K W X (e::es) (aa fa fr):=(aA ha hr hs).imp fun _ _ _=>rd_cons
theorem kQ {x1} (h:DA K W X es fr):DE K W own X (.Tuple es x1 pos) (fL iQ fr):=(pe_tup h).imp fun _ _ _=>rd_tup
theorem bZ (h:DA K W X es fr):DE K W true X (.List es pos) (fL cw fr):=(ud h).imp fun _ _ _=>rd_lst
theorem aF {id:String} {g:List Dat->M Dat} (hc:qu K W own X (.builtin id) g) (hm:X.mg x=none) (hv:bootBuiltins x=some (.builtin id)) (ha:DA K W X (e::es) fr) (hg:Gl X x:=by rfl) (hn:x≠"__name__":=by decide) (hdb:(x==("__debug__":Str))=false:=by decide)
  (hst:starEach (e::es) X.env=(false,eval e X.env)::starEach es X.env:=by rfl) (hpl:(backTo pos (starEach es X.env)).any (·.1)=false:=by rfl):DE K W own X (.Call (.Name x p) (e::es) [] pos) (fL g fr):=
 (ki hc hg hm hv ha hn hdb hst hpl).imp fun _ _ _=>rd_L
theorem d8 {g:List Dat->M Dat} (hc:qu K W own X (.type T) g) (hm:X.mg x=none) (hv:bootBuiltins x=some (.type T)) (ha:DA K W X (e::es) fr) (hg:Gl X x:=by rfl) (hn:x≠"__name__":=by decide) (hdb:(x==("__debug__":Str))=false:=by decide)
  (hst:starEach (e::es) X.env=(false,eval e X.env)::starEach es X.env:=by rfl) (hpl:(backTo pos (starEach es X.env)).any (·.1)=false:=by rfl):DE K W own X (.Call (.Name x p) (e::es) [] pos) (fL g fr):=
 (iM hc hg hm hv ha hn hdb hst hpl).imp fun _ _ _=>rd_L
theorem aZ {g:Dat->Dat->M Dat} (hr:IxR X (rD2 K W own g)) (ha:DE K W false X a fa) (hb:DE K W false X b fb) (hs:BG b:=by exact fun _ _=>rfl):DE K W own X (.Subscript a b pos) (f2 g fa fb):=(pe_ix hr ha hb hs).imp fun _ _ _=>rd_2
theorem pf (hN:X.N.Nodup) (hi:X.N[i]? =some x:=by rfl) (hx:Loc X.env.scope x:=by first|exact Or.inl rfl|exact Or.inr rfl) (hf:X.fn x=true\/X.env.scope.names.lookup x=some .local:=by first|exact .inl rfl|exact .inr rfl|assumption):DG K X (.Name x pos) (.nm i):=lE hN hi hx hf
theorem d6 (hl:DE K W false X e fa) (hK:X.K=K:=by rfl):DI K W X tg e (fIt fa):=by
 subst hK;refine PI.imp (t:=iSeq X.K (tD X.K W false fa)) ?_ fun _ _ _=>ri_seq;intro pins s σ H R I h;refine thn (hl pins s σ H _ I h) fun v s1 ⟨y,H1,I1,r1,q1⟩=>?_;obtain ⟨l,e1,q⟩:=q1;subst e1;cases r1;rcases q with ⟨⟨xs,hq⟩,q⟩|⟨⟨xs,hq⟩,q⟩
 ·obtain ⟨its,rv,p,hz⟩:=I1.list hq;refine wpAny_pyIter_list p.isList ?_;refine ⟨s1.heap.objs.size,[s1.heap.objs.size],_,_,H1,rfl,I1.kept (t':=s1.toks) fun b o e=>Heap.get?_push_of_some _ e,zF l _,⟨_,Heap.get?_push_size _ rfl,rfl,rfl⟩,fun b hb=>?_,q⟩
  have e:b=s1.heap.objs.size:=by simpa using hb
  subst e;exact I1.fpOk (Nat.le_refl _) (I1.hok.fresh (Nat.le_refl _))
 ·obtain ⟨its,rv,p,hz⟩:=I1.tuple hq;refine wpAny_pyIter_tuple (show s1.heap.IsTuple l its.toArray from p) ?_;refine ⟨s1.heap.objs.size,[s1.heap.objs.size],_,_,H1,rfl,I1.kept (t':=s1.toks) fun b o e=>Heap.get?_push_of_some _ e,yn l _,⟨_,Heap.get?_push_size _ rfl,rfl,rfl⟩,fun b hb=>?_,q⟩
  have e:b=s1.heap.objs.size:=by simpa using hb
  subst e;exact I1.fpOk (Nat.le_refl _) (I1.hok.fresh (Nat.le_refl _))
theorem gg (hm:X.mg "range"=none) (ha:DA K W X [a] fr) (hg:Gl X "range":=by rfl) (hs:starEach [a] X.env=[(false,eval a X.env)]:=by rfl):DI K W X tg (.Call (.Name "range" p) [a] [] pos) (sV tY fr):=(Ai hg hm ha hs).imp fun _ _ _=>ri_rng1
variable {h:ai->M Flo}
theorem bC:DSs K W ro X OL O O [] cL:=fun _ _=>dZ.imp fun _ _ _=>rs_next
theorem aj (h1:DS K W ro X OL O O' st g) (h2:DSs K W ro X OL O' O2 sts h):DSs K W ro X OL O O2 (st::sts) (bg g h):=fun F0 H0=>(aG (h1 F0 H0) (h2 F0 H0)).imp fun _ _ _=>rs_seq
theorem aw (h1:DS K W ro X OL O O' st g):DSs K W ro X OL O O' [st] g:=fun F0 H0=>bM (h1 F0 H0)
theorem ck (h1:DSs K W ro X OL O2 O' sts g) (hs:∀i∈O2,i∈O:=by decide):DSs K W ro X OL O O' sts g:=fun F0 H0=>PSs.imp (h1 F0 H0) fun _ _ _=>tS.enter hs
theorem de {sa sb:List Stmt} (hc:DT K W X c ft) (ha:DSs K W ro X OL O O' sa g) (hb:DSs K W ro X OL O O' sb h):DS K W ro X OL O O' (.If c sa sb pos) (sIf ft g h):=fun F0 H0=>(lC hc (ha F0 H0) (hb F0 H0)).imp fun _ _ _=>rs_if
theorem Bi (hN:X.N.Nodup) (he:DE K W own X e f) (hi:X.N[i]? =some x:=by rfl) (hx:Loc X.env.scope x:=by first|exact Or.inl rfl|exact Or.inr rfl) (hs:swapsWith e (some (.Name x pos')) pos.line X.env=pure false:=by rfl) (hf:X.fn x=true\/X.env.scope.names.lookup x=some .local:=by first|exact .inl rfl|exact .inr rfl|assumption) :
  DS K W ro X OL O (aft own i O) (.Assign [.Name x pos'] e pos) (aW O i f):=fun F0 H0=>(ua hN hi hx he hs hf).imp fun _ _ _=>A2
theorem ds_setA (hN:X.N.Nodup) (he:DE K W own X e f) (hi:X.N[i]? =some x:=by rfl) (hx:Loc X.env.scope x:=by first|exact Or.inl rfl|exact Or.inr rfl) (hs:swapsWith e (some (.Name x pos')) pos.line X.env=pure false:=by rfl) (hf:X.fn x=true\/X.env.scope.names.lookup x=some .local:=by first|exact .inl rfl|exact .inr rfl|assumption) :
  DS K W ro X OL O (aft own i O) (.Assign [.Name x pos'] e pos) (vF own i f):=fun F0 H0=>(ua hN hi hx he hs hf).imp fun _ _ _=>rs_setA
theorem aH (he:DE K W ro X e f):DS K W ro X OL O O' (.Return (some e) pos) (cF f):=fun F0 H0=>(fX he).imp fun _ _ _=>rs_ret
theorem ds_retV (ho:i∈O:=by decide) (hN:X.N[i]? =some x:=by rfl) (hv:Vis X.env.scope x:=by first|exact Or.inl rfl|exact Or.inr (Or.inl rfl)|exact Or.inr (Or.inr rfl)) (hd:(x==("__debug__":Str))=false:=by decide)
  (hcd:(x==("__classdict__":Str))=false:=by decide):DS K W true X OL O O' (.Return (some (.Name x p)) pos) (cF (ah i)):=fun F0 H0=>(fX (pv i hN hv hd hcd)).imp fun _ _ _=>rs_retV ho
theorem gf {fs:ai->M (List Dat)} {pt:Pat} (hi:DI K W X tg iter fs) (hg:DG K X tg pt) (hb:DSs K W ro X O O O body g) (n:∀i∈pt.names,i∉O:=by decide) (hp:PassesOwn (model X.prog X.w) X.A X.env X.xe:=by exact PassesOwn.never) (hc:X.calm=true:=by rfl)
  (hs:∀x,foldedSetIterable iter X.env x=pure x:=by intro _;rfl):DS K W ro X OL O O (.For tg iter body [] pos) (pZ O fs pt g):=fun F0 H0=>(ps_for hp hc hi hg (hb F0 H0) hs).imp fun _ _ _=>rs_for n
theorem cU (he:DE K W false X e f) (ho:i∈O:=by decide) (hN:X.N[i]? =some x:=by rfl) (hv:Vis X.env.scope x:=by first|exact Or.inl rfl|exact Or.inr (Or.inl rfl)|exact Or.inr (Or.inr rfl)) (hd:(x==("__debug__":Str))=false:=by decide) (hcd:(x==("__classdict__":Str))=false:=by decide) (hK:X.K=K:=by rfl)
  (hst:starEach [e] X.env=[(false,eval e X.env)]:=by rfl) (hbase:attributeBase (.Name x p) "append" X.env (eval (.Name x p) X.env)=eval (.Name x p) X.env:=by rfl) (hfew:((backTo q (starEach [e] X.env)).all (fun x=> !x.1)&&(backToKw q (keywordEach [] X.env)).all (fun x=>x.1.isSome)&&decide ([e].length+([]:List Keyword).length+(if ([]:List Keyword).isEmpty then 0 else 1)<30))=true:=by rfl) (hplain:(backTo q (starEach [] X.env)).any (·.1)=false:=by rfl) (hline:(apos.endLine==q.line)=true:=by rfl) (hsw:swapsWith (.Call (.Attribute (.Name x p) "append" apos) [e] [] q) none pos.line X.env=pure false:=by rfl) :
  DS K W ro X OL O O (.Expr (.Call (.Attribute (.Name x p) "append" apos) [e] [] q) pos) (fW O i f):=fun F0 H0=>by
 subst hK;exact PS.imp (gL (qc PySem.F.plainAttrs_list PySem.F.slot_list_append PySem.F.type_list_append iP (pv i hN hv hd hcd) (aA he aY hst) hbase hfew hline hst hplain) hsw) fun _ _ _=>rs_appB ho
end
section
variable {W:du} {own:Bool}
theorem OpR.imp {f:Value->Value->Sem Value} {r:R2} (h:OpR X f r) (q:∀x y H Q,r' x y H Q->r x y H Q):OpR X f r':=fun pins s σ H x y v u Q I rx ry z=>h pins s σ H x y v u Q I rx ry (q x y H Q z)
theorem iq.imp {f:Value} {r r':List V->Hp->VK->Prop} (h:iq X f r) (q:∀x H Q,r' x H Q->r x H Q):iq X f r':=fun pins s σ H x v Q I rx z=>h pins s σ H x v Q I rx (q x H Q z)
theorem IxR.imp {r:R2} (h:IxR X r) (q:∀x y H Q,r' x y H Q->r x y H Q):IxR X r':=fun va sl pins s σ H x y v u Q I rx ry z e=>h va sl pins s σ H x y v u Q I rx ry (q x y H Q z) e
theorem aC.stuck {P:Prop} (p:aC K W own F H (stk) Q):P:=(W.ns p).elim
theorem aC.int {F H:Hp} {Q:VK} {i:Int} (p:aC K W own F H (.ok (.int i)) Q) (s:aN F H):Q (.int i) H:=p _ F H (Step.refl s) (by cases own<;>rfl)
theorem aC.bl {F H:Hp} {Q:VK} {b:Bool} (p:aC K W own F H (.ok (.bl b)) Q) (s:aN F H):Q (.bl b) H:=p _ F H (Step.refl s) (by cases own<;>rfl)
theorem aC.str {F H:Hp} {Q:VK} {x:Str} (p:aC K W own F H (.ok (.str x)) Q) (s:aN F H):Q (.str x) H:=p _ F H (Step.refl s) (by cases own<;>rfl)
theorem aC.tup {F H:Hp} {Q:VK} {ds:List Dat} {xs:List V} {a:Addr} (p:aC K W own F H (.ok (.tup ds)) Q) (s:aN F H) (q:az K F ds xs) (ha:H a=none):Q (.ref a) (upd H a (.tup xs)):=
 p _ _ _ (Step.lay s ha) (by
  have:aQ K (upd F a (.tup xs)) (.tup ds) (.ref a):=⟨a,xs,rfl,SqT.of ay,q.mono (aN.upd (s.free ha))⟩
  cases own<;>exact this)
theorem aC.same (p:aC K W own F H (.ok (.tup ds)) Q) (s:aN F H) (q:aQ K F (.tup ds) v):Q v H:=p _ F H (Step.refl s) (by cases own<;>exact q)
theorem aC.lst {F H:Hp} {Q:VK} {ds:List Dat} {xs:List V} {a:Addr} (p:aC K W true F H (.ok (.lst ds)) Q) (s:aN F H) (q:az K F ds xs) (ha:H a=none):Q (.ref a) (upd H a (.lst xs)):=
 p _ F _ (Step.grow s ha) ⟨a,xs,rfl,ay,s.free ha,ha,q⟩
theorem fg {g:Dat->Dat->M Dat} (hg:∀a b,(∃i j,a=.int i/\b=.int j)\/g a b=stk) {x y:V} (h:rD2 K W own g x y H Q):∃F i j,aN F H/\x=.int i/\y=.int j/\aC K W own F H (g (.int i) (.int j)) Q:=by
 obtain ⟨F,a,b,s,qa,qb,p⟩:=h;rcases hg a b with ⟨i,j,rfl,rfl⟩|e
 ·exact ⟨F,i,j,s,qa,qb,p⟩
 ·rw [e] at p;exact p.stuck
theorem o_sub:Op2 K W own X (binaryOp .Sub) subD:=op_sub.imp fun x y H Q h=>by
 obtain ⟨F,i,j,s,e1,e2,p⟩:=fg (fun a b=>by cases a<;>cases b<;>first|exact .inr rfl|exact .inl ⟨_,_,rfl,rfl⟩) h;exact ⟨i,j,e1,e2,p.int s⟩
theorem jP:Op2 K W own X (binaryOp .Mult) si:=op_mul.imp fun x y H Q h=>by
 obtain ⟨F,i,j,s,e1,e2,p⟩:=fg (fun a b=>by cases a<;>cases b<;>first|exact .inr rfl|exact .inl ⟨_,_,rfl,rfl⟩) h;have p':aC K W own F H (if (dB i||dB j)=true then .ok (.int (i*j)) else stk) Q:=p;by_cases hc:(dB i||dB j)=true
 ·rw [if_pos hc] at p';refine ⟨i,j,e1,e2,?_,p'.int s⟩
  unfold dB at hc;simp only [Bool.or_eq_true,Bool.and_eq_true,decide_eq_true_eq] at hc;exact hc
 ·rw [if_neg hc] at p';exact p'.stuck
theorem AG {j:Int} (h0:0<j) (h1:j<18446744073709551616):j.natAbs.log2<9000:=by
 have a:j.natAbs<2^64:=by omega
 have b:=(Nat.log2_lt (n:=j.natAbs) (k:=64) (by omega)).mpr a;omega
theorem Ao:OpR X (binaryOp .FloorDiv) (rI (fun _ j=>0<j/\j<18446744073709551616) fun i j=>.int (i/j)):=opI fun i j _ _ _ _ _ hc q=>by
 obtain ⟨c1,c2⟩:=hc;exact floordiv_int (by omega) (by rw [Int.fdiv_eq_ediv_of_nonneg i (by omega)];exact q) (.inl (PyProof.noPylong_of_log2 (AG c1 c2)))
theorem bG:Op2 K W own X (binaryOp .FloorDiv) cT:=Ao.imp fun x y H Q h=>by
 obtain ⟨F,i,j,s,e1,e2,p⟩:=fg (fun a b=>by cases a<;>cases b<;>first|exact .inr rfl|exact .inl ⟨_,_,rfl,rfl⟩) h;have p':aC K W own F H (if (decide (0<j)&&decide (j<18446744073709551616))=true then .ok (.int (i/j)) else stk) Q:=p;by_cases hc:(decide (0<j)&&decide (j<18446744073709551616))=true
 ·rw [if_pos hc] at p';simp only [Bool.and_eq_true,decide_eq_true_eq] at hc;exact ⟨i,j,e1,e2,hc,p'.int s⟩
 ·rw [if_neg hc] at p';exact p'.stuck
theorem bR:Op2 K W own X (binaryOp .Mod) gu:=op_mod.imp fun x y H Q h=>by
 obtain ⟨F,i,j,s,e1,e2,p⟩:=fg (fun a b=>by cases a<;>cases b<;>first|exact .inr rfl|exact .inl ⟨_,_,rfl,rfl⟩) h;have p':aC K W own F H (if 0<j then .ok (.int (i%j)) else stk) Q:=p;by_cases hc:0<j
 ·rw [if_pos hc] at p';exact ⟨i,j,e1,e2,hc,p'.int s⟩
 ·rw [if_neg hc] at p';exact p'.stuck
theorem o_pow:Op2 K W own X (binaryOp .Pow) powD:=op_pow.imp fun x y H Q h=>by
 obtain ⟨F,i,j,s,e1,e2,p⟩:=fg (fun a b=>by cases a<;>cases b<;>first|exact .inr rfl|exact .inl ⟨_,_,rfl,rfl⟩) h;have p':aC K W own F H (if (decide (0<=j)&&decide (j<=1000000)&&decide (i.natAbs<2^64))=true then .ok (.int (i^j.toNat)) else stk) Q:=p;by_cases hc:(decide (0<=j)&&decide (j<=1000000)&&decide (i.natAbs<2^64))=true
 ·rw [if_pos hc] at p';simp only [Bool.and_eq_true,decide_eq_true_eq] at hc;exact ⟨i,j,e1,e2,⟨hc.1.1,hc.1.2,hc.2⟩,p'.int s⟩
 ·rw [if_neg hc] at p';exact p'.stuck
theorem o_lt:Op2 K W own X (compareOp .Lt) ltD:=op_lt.imp fun x y H Q h=>by
 obtain ⟨F,i,j,s,e1,e2,p⟩:=fg (fun a b=>by cases a<;>cases b<;>first|exact .inr rfl|exact .inl ⟨_,_,rfl,rfl⟩) h;exact ⟨i,j,e1,e2,p.bl s⟩
theorem o_le:Op2 K W own X (compareOp .LtE) leD:=op_le.imp fun x y H Q h=>by
 obtain ⟨F,i,j,s,e1,e2,p⟩:=fg (fun a b=>by cases a<;>cases b<;>first|exact .inr rfl|exact .inl ⟨_,_,rfl,rfl⟩) h;exact ⟨i,j,e1,e2,p.bl s⟩
theorem o_gt:Op2 K W own X (compareOp .Gt) gtD:=op_gt.imp fun x y H Q h=>by
 obtain ⟨F,i,j,s,e1,e2,p⟩:=fg (fun a b=>by cases a<;>cases b<;>first|exact .inr rfl|exact .inl ⟨_,_,rfl,rfl⟩) h;exact ⟨i,j,e1,e2,p.bl s⟩
theorem o_ge:Op2 K W own X (compareOp .GtE) geD:=op_ge.imp fun x y H Q h=>by
 obtain ⟨F,i,j,s,e1,e2,p⟩:=fg (fun a b=>by cases a<;>cases b<;>first|exact .inr rfl|exact .inl ⟨_,_,rfl,rfl⟩) h;exact ⟨i,j,e1,e2,p.bl s⟩
theorem op_catL:OpR X (binaryOp .Add) (fun x y H Q=>∃l b xs zs,x=.ref l/\y=.ref b/\SqL X.K H l xs/\SqL X.K H b zs/\xs.length+zs.length<=sizeLine/\∀p,H p=none->Q (.ref p) (upd H p (.lst (xs++zs)))):=by
 intro pins s σ H x y v u Q I rx ry h;obtain ⟨l,b,xs,zs,rfl,rfl,hH,hB,hz,q⟩:=h;cases rx;cases ry;obtain ⟨its,r,p1,hl⟩:=I.list hH;obtain ⟨its2,r2,p2,hl2⟩:=I.list hB;have z1:=r.length;have z2:=r2.length;obtain ⟨⟨cls,dd,data,sl⟩,ho,hc,n,hd⟩:=id p1.isList;obtain ⟨⟨cls2,dd2,data2,sl2⟩,ho2,hc2,n2,hd2⟩:=id p2.isList;simp only at hc hd hc2 hd2;subst hc hd hc2 hd2;refine concat_meets ⟨_,ho,rfl⟩ ⟨_,ho2,rfl⟩ noFill_list_add seq_list_add PySem.F.slot_list_add PySem.F.entry_list_add (PySem.F.args_list_add_2 _ _) (list_addW l b its.toArray its2.toArray n n2 dd dd2 sl sl2 (by simp only [List.size_toArray];omega)) ⟨ho,ho2,?_⟩;have ea:its.toArray++its2.toArray=(its++its2).toArray:=by simp
 rw [ea];exact ⟨.ref _,_,I.lnew (t':=s.toks) (r.append r2) (by rw [List.length_append];omega),rfl,q _ I.fresh⟩
theorem op_cat3:OpR X (binaryOp .Add) (fun x y H Q=>∃a b xs ys,x=.ref a/\y=.ref b/\SqT X.K H a xs/\SqT X.K H b ys/\xs.length+ys.length<=sizeLine/\(xs=[]->Q (.ref b) H)/\(ys=[]->Q (.ref a) H)/\∀p,H p=none->Q (.ref p) (upd H p (.tup (xs++ys)))):=by
 intro pins s σ H x y v u Q I rx ry h;obtain ⟨a,b,xs,ys,rfl,rfl,ha,hb,hz,q1,q2,q3⟩:=h;by_cases hx:xs=[]
 ·subst hx;cases rx;cases ry;obtain ⟨its,r1,p1,_⟩:=I.tuple ha;obtain ⟨its2,r2,p2,_⟩:=I.tuple hb;cases r1;obtain ⟨⟨cls,dd,data,sl⟩,ho,hc,n,hd⟩:=id p1;obtain ⟨⟨cls2,dd2,data2,sl2⟩,ho2,hc2,n2,hd2⟩:=id p2;simp only at hc hd hc2 hd2;subst hc hd hc2 hd2;exact concat_meets ⟨_,ho,rfl⟩ ⟨_,ho2,rfl⟩ noFill_tuple_add seq_tuple_add PySem.F.slot_tuple_add PySem.F.entry_tuple_add (PySem.F.args_tuple_add_2 _ _)
   (tuple_addW0 a b #[] its2.toArray n n2 dd dd2 sl sl2 rfl) ⟨ho,ho2,⟨.ref b,H,I,rfl,q1 rfl⟩⟩
 ·exact op_catT pins s σ H _ _ v u Q I rx ry ⟨a,b,xs,ys,rfl,rfl,ha,hb,hx,hz,fun e=>q2 e,fun _ p hp=>q3 p hp⟩
theorem bA (hK:X.K=K:=by rfl):Op2 K W true X (binaryOp .Add) cn:=by
 subst hK;refine (op_add.or (yL.or (op_catL.or op_cat3))).imp fun x y H Q h=>?_;obtain ⟨F,a,b,s,qa,qb,p⟩:=h;cases a with
 |int i=>
  cases b with
  |int j=>exact .inl ⟨i,j,qa,qb,p.int s⟩
  |_=>exact aC.stuck p
 |str z=>
  cases b with
  |str w=>
   have p':aC X.K W true F H (if z.length+w.length<=sizeLine then .ok (.str (z++w)) else stk) Q:=p;by_cases hc:z.length+w.length<=sizeLine
   ·rw [if_pos hc] at p';exact .inr (.inl ⟨z,w,qa,qb,hc,p'.str s⟩)
   ·rw [if_neg hc] at p';exact p'.stuck
  |_=>exact aC.stuck p
 |lst ds=>
  cases b with
  |lst es=>
   obtain ⟨a,xs,e1,t1,r1⟩:=qa;obtain ⟨b,ys,e2,t2,r2⟩:=qb;have p':aC X.K W true F H (if ds.length+es.length<=sizeLine then .ok (.lst (ds++es)) else stk) Q:=p;by_cases hc:ds.length+es.length<=sizeLine
   ·rw [if_pos hc] at p';exact .inr (.inr (.inl ⟨a,b,xs,ys,e1,e2,s.lst t1,s.lst t2,by rw [r1.length,r2.length];exact hc,fun l hl=>p'.lst s (r1.append r2) hl⟩))
   ·rw [if_neg hc] at p';exact p'.stuck
  |_=>exact aC.stuck p
 |tup ds=>
  cases b with
  |tup es=>
   obtain ⟨a,xs,e1,t1,r1⟩:=qa;obtain ⟨b,ys,e2,t2,r2⟩:=qb;have p':aC X.K W true F H (if ds.length+es.length<=sizeLine then .ok (.tup (ds++es)) else stk) Q:=p;by_cases hc:ds.length+es.length<=sizeLine
   ·rw [if_pos hc] at p';refine .inr (.inr (.inr ⟨a,b,xs,ys,e1,e2,s.tup t1,s.tup t2,by rw [r1.length,r2.length];exact hc,fun e=>?_,fun e=>?_,fun l hl=>p'.tup s (r1.append r2) hl⟩))
    ·have z:ds=[]:=by have:=r1.length;rw [e] at this;exact List.length_eq_zero_iff.mp this.symm
     subst z;exact p'.same s ⟨b,ys,rfl,t2,r2⟩
    ·have z:es=[]:=by have:=r2.length;rw [e] at this;exact List.length_eq_zero_iff.mp this.symm
     subst z;rw [List.append_nil] at p';exact p'.same s ⟨a,xs,rfl,t1,r1⟩
   ·rw [if_neg hc] at p';exact p'.stuck
  |_=>exact aC.stuck p
 |_=>exact aC.stuck p
theorem o_isN:Op2 K W own X (compareOp .Is) isND:=op_isN.imp fun x y H Q h=>by
 obtain ⟨F,a,b,s,qa,qb,p⟩:=h;have key:∀{k:Bool},isND a b=.ok (.bl k)->b=.non->(decide (x=V.non)=k)->y=V.non/\Q (.bl (decide (x=V.non))) H:=fun {k} e1 e2 e3=>by
  subst e2;rw [e1] at p;rw [e3];exact ⟨qb,p.bl s⟩
 cases b with
 |non=>
  cases a with
  |non=>exact key rfl rfl (by rw [show x=.non from qa];rfl)
  |bl k=>exact key rfl rfl (by rw [show x=.bl k from qa];rfl)
  |int k=>exact key rfl rfl (by rw [show x=.int k from qa];rfl)
  |str k=>exact key rfl rfl (by rw [show x=.str k from qa];rfl)
  |tup ds=>obtain ⟨l,xs,e,_⟩:=qa;exact key rfl rfl (by rw [e];rfl)
  |lst ds=>obtain ⟨l,xs,e,_⟩:=qa;exact key rfl rfl (by rw [e];rfl)
  |ins C fs=>obtain ⟨l,dx,xs,e,_⟩:=qa;exact key rfl rfl (by rw [e];rfl)
  |dic ks=>obtain ⟨l,xs,e,_⟩:=qa;exact key rfl rfl (by rw [e];rfl)
  |dil ks=>obtain ⟨l,xs,e,_⟩:=qa;exact key rfl rfl (by rw [e];rfl)
 |_=>cases a<;>exact aC.stuck p
theorem o_notN:Op2 K W own X (compareOp .IsNot) vV:=op_notN.imp fun x y H Q h=>by
 obtain ⟨F,a,b,s,qa,qb,p⟩:=h;have key:∀{k:Bool},vV a b=.ok (.bl k)->b=.non->((!decide (x=V.non))=k)->y=V.non/\Q (.bl (!decide (x=V.non))) H:=fun {k} e1 e2 e3=>by
  subst e2;rw [e1] at p;rw [e3];exact ⟨qb,p.bl s⟩
 cases b with
 |non=>
  cases a with
  |non=>exact key rfl rfl (by rw [show x=.non from qa];rfl)
  |bl k=>exact key rfl rfl (by rw [show x=.bl k from qa];rfl)
  |int k=>exact key rfl rfl (by rw [show x=.int k from qa];rfl)
  |str k=>exact key rfl rfl (by rw [show x=.str k from qa];rfl)
  |tup ds=>obtain ⟨l,xs,e,_⟩:=qa;exact key rfl rfl (by rw [e];rfl)
  |lst ds=>obtain ⟨l,xs,e,_⟩:=qa;exact key rfl rfl (by rw [e];rfl)
  |ins C fs=>obtain ⟨l,dx,xs,e,_⟩:=qa;exact key rfl rfl (by rw [e];rfl)
  |dic ks=>obtain ⟨l,xs,e,_⟩:=qa;exact key rfl rfl (by rw [e];rfl)
  |dil ks=>obtain ⟨l,xs,e,_⟩:=qa;exact key rfl rfl (by rw [e];rfl)
 |_=>cases a<;>exact aC.stuck p
theorem B1 {i:Int} (p:aC K W false F H (f9 ds i) Q) (s:aN F H) (r:az K F ds xs):∃v,atI xs i=some v/\Q v H:=by
 unfold f9 at p;cases e:atI ds i with
 |none=>rw [e] at p;exact aC.stuck p
 |some d=>
  rw [e] at p;unfold atI at e;cases hj:ixN ds.length i with
  |none=>rw [hj] at e;cases e
  |some j=>
   rw [hj] at e;obtain ⟨v,e1,q⟩:=r.get (show ds[j]? =some d from e);refine ⟨v,?_,p v F H (Step.refl s) q⟩
   unfold atI;rw [r.length,hj];exact e1
theorem eW (hK:X.K=K:=by rfl):IxR X (rD2 K W false ixD):=by
 subst hK;refine ix_seq.imp fun x y H Q h=>?_;obtain ⟨F,a,b,s,qa,qb,p⟩:=h;cases a with
 |lst ds=>
  cases b with
  |int i=>
   obtain ⟨a,xs,e1,t1,r1⟩:=qa;obtain ⟨v,e2,q⟩:=B1 p s r1;exact .inl ⟨a,xs,i,v,e1,qb,s.lst t1,e2,q⟩
  |_=>exact aC.stuck p
 |tup ds=>
  cases b with
  |int i=>
   obtain ⟨a,xs,e1,t1,r1⟩:=qa;obtain ⟨v,e2,q⟩:=B1 p s r1;exact .inr (.inl ⟨a,xs,i,v,e1,qb,s.tup t1,e2,q⟩)
  |_=>exact aC.stuck p
 |_=>exact aC.stuck p
theorem eY (hK:X.K=K:=by rfl):qu K W own X (.builtin "len") ku:=by
 subst hK;refine j5.imp fun xs H Q h=>?_;obtain ⟨F,ds,s,q,p⟩:=h
 match ds,q,p with
 |[.lst es],⟨v,vs,e,⟨a,ys,e1,t,r⟩,e2⟩,p=>
  refine ⟨a,ys,by rw [e,e1,show vs=[] from e2],.inl (s.lst t),?_⟩
  rw [r.length];exact aC.int (own:=own) p s
 |[.tup es],⟨v,vs,e,⟨a,ys,e1,t,r⟩,e2⟩,p=>
  refine ⟨a,ys,by rw [e,e1,show vs=[] from e2],.inr (s.tup t),?_⟩
  rw [r.length];exact aC.int (own:=own) p s
 |[],_,p=>exact aC.stuck p
 |[.non],_,p=>exact aC.stuck p
 |[.bl _],_,p=>exact aC.stuck p
 |[.int _],_,p=>exact aC.stuck p
 |[.str _],_,p=>exact aC.stuck p
 |[.ins _ _],_,p=>exact aC.stuck p
 |[.dic _],_,p=>exact aC.stuck p
 |[.dil _],_,p=>exact aC.stuck p
 |.non::_::_,_,p=>exact aC.stuck p
 |.bl _::_::_,_,p=>exact aC.stuck p
 |.int _::_::_,_,p=>exact aC.stuck p
 |.str _::_::_,_,p=>exact aC.stuck p
 |.ins _ _::_::_,_,p=>exact aC.stuck p
 |.dic _::_::_,_,p=>exact aC.stuck p
 |.dil _::_::_,_,p=>exact aC.stuck p
 |.lst _::_::_,_,p=>exact aC.stuck p
 |.tup _::_::_,_,p=>exact aC.stuck p
end
section
variable {W:du} {own:Bool}
theorem jN {g:List Dat->M Dat} (hg:∀ds,(∃d,ds=[d])\/g ds=stk) (h:rDL K W own g xs H Q):∃F d x,aN F H/\xs=[x]/\aQ K F d x/\aC K W own F H (g [d]) Q:=by
 obtain ⟨F,ds,s,q,p⟩:=h;rcases hg ds with ⟨d,rfl⟩|e
 ·obtain ⟨v,vs,e,q1,e2⟩:=q;exact ⟨F,d,v,s,by rw [e,show vs=[] from e2],q1,p⟩
 ·rw [e] at p;exact p.stuck
theorem rj {F:Hp}:∀{ds:List Dat} {xs:List V} {bs:List Bool},az K F ds xs->gm ds=.ok bs->xs=bs.map V.bl
 |[],_,_,q,e=>by cases e;exact q
 |d::ds,_,bs,⟨v,vs,e1,q,r⟩,e=>by
  cases d with
  |bl b=>
   cases e2:gm ds with
   |error x=>simp only [gm,asB,aq,e2,ik] at e;cases e
   |ok cs=>
    simp only [gm,asB,aq,e2] at e;cases e;rw [e1,show v=.bl b from q,rj r e2];rfl
  |_=>cases e
theorem rm:∀{ds:List Dat} {e:Err},gm ds=.error e->e=.stuck
 |[],_,h=>by cases h
 |d::ds,e,h=>by
  cases d with
  |bl b=>
   cases e2:gm ds with
   |error x=>simp only [gm,asB,aq,e2,ik] at h;cases h;exact rm e2
   |ok cs=>simp only [gm,asB,aq,e2] at h;cases h
  |_=>cases h;rfl
theorem kA {F:Hp}:∀{ds:List Dat} {xs:List V} {bs:List Int},az K F ds xs->gv ds=.ok bs->xs=bs.map V.int
 |[],_,_,q,e=>by cases e;exact q
 |d::ds,_,bs,⟨v,vs,e1,q,r⟩,e=>by
  cases d with
  |int b=>
   cases e2:gv ds with
   |error x=>simp only [gv,asI,aq,e2,ik] at e;cases e
   |ok cs=>
    simp only [gv,asI,aq,e2] at e;cases e;rw [e1,show v=.int b from q,kA r e2];rfl
  |_=>cases e
theorem oF:∀{ds:List Dat} {e:Err},gv ds=.error e->e=.stuck
 |[],_,h=>by cases h
 |d::ds,e,h=>by
  cases d with
  |int b=>
   cases e2:gv ds with
   |error x=>simp only [gv,asI,aq,e2,ik] at h;cases h;exact oF e2
   |ok cs=>simp only [gv,asI,aq,e2] at h;cases h
  |_=>cases h;rfl
theorem wQ (hc:X.calm=true) (hK:X.K=K:=by rfl):qu K W own X (.builtin "all") allD:=by
 subst hK;refine (call_all hc).imp fun xs H Q h=>?_;obtain ⟨F,d,x,s,e,q,p⟩:=jN (fun ds=>by match ds with|[d]=>exact .inl ⟨d,rfl⟩|[]=>exact .inr rfl|a::b::c=>exact .inr (by cases a<;>rfl)) h;cases d with
 |lst ds=>
  obtain ⟨a,ys,e1,t,r⟩:=q;have p':aC X.K W own F H ((gm ds).bind fun bs=>.ok (.bl (bs.all id))) Q:=p;cases eb:gm ds with
  |error z=>rw [eb] at p';have:=rm eb;subst this;exact aC.stuck p'
  |ok bs=>
   rw [eb] at p';refine ⟨a,bs,by rw [e,e1],?_,aC.bl (own:=own) p' s⟩
   rw [<- rj r eb];exact s.lst t
 |_=>exact aC.stuck p
theorem c_list (hK:X.K=K:=by rfl):qu K W true X (.type "list") kr:=by
 subst hK;refine eQ.imp fun xs H Q h=>?_;obtain ⟨F,d,x,s,e,q,p⟩:=jN (fun ds=>by match ds with|[d]=>exact .inl ⟨d,rfl⟩|[]=>exact .inr rfl|a::b::c=>exact .inr (by cases a<;>rfl)) h;cases d with
 |lst ds=>
  obtain ⟨a,ys,e1,t,r⟩:=q;exact ⟨a,ys,by rw [e,e1],.inl (s.lst t),fun l hl=>aC.lst p s r hl⟩
 |tup ds=>
  obtain ⟨a,ys,e1,t,r⟩:=q;exact ⟨a,ys,by rw [e,e1],.inr (s.tup t),fun l hl=>aC.lst p s r hl⟩
 |_=>exact aC.stuck p
theorem c_int:qu K W own X (.type "int") intD:=By.imp fun xs H Q h=>by
 obtain ⟨F,d,x,s,e,q,p⟩:=jN (fun ds=>by match ds with|[d]=>exact .inl ⟨d,rfl⟩|[]=>exact .inr rfl|a::b::c=>exact .inr (by cases a<;>rfl)) h;cases d with
 |int i=>exact .inl ⟨i,by rw [e,show x=.int i from q],aC.int (own:=own) p s⟩
 |bl b=>exact .inr ⟨b,by rw [e,show x=.bl b from q],aC.int (own:=own) p s⟩
 |_=>exact aC.stuck p
end
section
theorem SqL.inj {pins:Pn} {σ:St} {H:Hp} {s:Shared} {a:Addr} {xs ys:List V} (I:Inv X pins σ H s) (h:SqL X.K H a xs) (h':SqL X.K H a ys):xs=ys:=by
 obtain ⟨i1,r1,p1,_⟩:=I.list h;obtain ⟨i2,r2,p2,_⟩:=I.list h';obtain ⟨o,n,e,_,_,d⟩:=p1;obtain ⟨o',n',e',_,_,d'⟩:=p2;rw [e] at e';cases e';rw [d] at d';injection d' with d1 _
 have:i1=i2:=by simpa using congrArg Array.toList d1
 subst this;exact r1.inj r2
theorem SqT.inj {pins:Pn} {σ:St} {H:Hp} {s:Shared} {a:Addr} {xs ys:List V} (I:Inv X pins σ H s) (h:SqT X.K H a xs) (h':SqT X.K H a ys):xs=ys:=by
 obtain ⟨i1,r1,p1,_⟩:=I.tuple h;obtain ⟨i2,r2,p2,_⟩:=I.tuple h';obtain ⟨o,e,_,n,d⟩:=p1;obtain ⟨o',e',_,n',d'⟩:=p2;rw [e] at e';cases e';rw [d] at d';injection d' with d1 _
 have:i1=i2:=by simpa using congrArg Array.toList d1
 subst this;exact r1.inj r2
theorem az.all_eq {F:Hp} (e:Nat->Bool):∀{ds es:List Dat},ds.length=es.length->(∀(j:Nat) a b,ds[j]? =some a->es[j]? =some b->e j=eqD a b)->(List.range ds.length).all e=eqDs ds es:=by
 intro ds
 induction ds generalizing e with
 |nil=>intro es h _;cases es with
  |nil=>rfl
  |cons _ _=>simp at h
 |cons d ds ih=>
  intro es h q;cases es with
  |nil=>simp at h
  |cons b es=>
   rw [List.length_cons,List.range_succ_eq_map,List.all_cons,List.all_map,eqDs];rw [q 0 d b rfl rfl]
   congr 1
   exact ih (e∘Nat.succ) (by simpa using h) fun j x y hx hy=>q (j+1) x y (by simpa using hx) (by simpa using hy)
theorem n6:∀{ds es:List Dat},ds.length≠es.length->eqDs ds es=false
 |[],[],h=>absurd rfl h
 |[],_::_,_=>rfl
 |_::_,[],_=>rfl
 |d::ds,e::es,h=>by
  rw [eqDs,n6 (ds:=ds) (es:=es) (fun z=>h (by simp [z])),Bool.and_false]
theorem xR (e:Nat->Bool):∀{ds es:List Dat},(∀(j:Nat) a b,ds[j]? =some a->es[j]? =some b->e j=eqD a b)->((List.range (min ds.length es.length)).all e&&ds.length==es.length)=eqDs ds es:=by
 intro ds es q;by_cases hl:ds.length=es.length
 ·have e1:min ds.length es.length=ds.length:=by omega
  rw [e1,az.all_eq (F:=fun _=>none) e hl q,hl,beq_self_eq_true,Bool.and_true]
 ·rw [n6 hl];have:(ds.length==es.length)=false:=by simpa using hl
  rw [this,Bool.and_false]
mutual
theorem n8:∀{d:Dat} {n:Nat},okE d n=true->eqD d d=true
 |.non,_,_=>rfl
 |.bl b,_,_=>by simp [eqD]
 |.int i,_,_=>by simp [eqD]
 |.str x,_,_=>by simp [eqD]
 |.tup ds,0,h=>by simp [okE] at h
 |.tup ds,n+1,h=>by simp only [okE] at h;simp only [eqD];exact pe h
 |.lst ds,0,h=>by simp [okE] at h
 |.lst ds,n+1,h=>by simp only [okE] at h;simp only [eqD];exact pe h
 |.ins _ _,_,h=>by simp [okE] at h
 |.dic _,_,h=>by simp [okE] at h
 |.dil _,_,h=>by simp [okE] at h
theorem pe:∀{ds:List Dat} {n:Nat},jt ds n=true->eqDs ds ds=true
 |[],_,_=>rfl
 |d::ds,n,h=>by
  simp only [jt,Bool.and_eq_true] at h;simp only [eqDs,n8 h.1,pe h.2,Bool.and_self]
end
theorem se:∀{ds:List Dat} {n i:Nat} {d:Dat},jt ds n=true->ds[i]? =some d->okE d n=true
 |[],_,_,_,_,h=>by simp at h
 |_::_,_,0,_,h,e=>by
  simp only [jt,Bool.and_eq_true] at h;simp at e;rw [<- e];exact h.1
 |_::_,_,i+1,_,h,e=>by
  simp only [jt,Bool.and_eq_true] at h;exact se h.2 (by simpa using e)
end
noncomputable def jw (ds es:List Dat) (j:Nat):Bool:=match ds[j]?,es[j]? with
 |some a,some b=>eqD a b
 |_,_=>true
inductive Sh (s:Shared):Dat->Value->Prop
 |non:Sh s .non .none
 |bl (b:Bool):Sh s (.bl b) (.bool b)
 |int (i:Int) (t:Nat):Sh s (.int i) (.int i t)
 |str (x:Str) (t:Nat):Sh s (.str x) (.str x t)
 |tup {ds:List Dat} {l:Addr} {is:Array Value} (p:s.heap.IsTuple l is):Sh s (.tup ds) (.ref l)
 |lst {ds:List Dat} {l:Addr} {is:Array Value} (p:s.heap.IsList l is):Sh s (.lst ds) (.ref l)
noncomputable def sq:Dat->Dat->Bool
 |.tup _,.tup _=>true
 |.lst _,.lst _=>true
 |_,_=>false
theorem tE {a b:Dat} (h:sq a b=true):(∃ds es,a=.tup ds/\b=.tup es)\/∃ds es,a=.lst ds/\b=.lst es:=by
 unfold sq at h;split at h
 ·exact .inl ⟨_,_,rfl,rfl⟩
 ·exact .inr ⟨_,_,rfl,rfl⟩
 ·cases h
theorem eqAt_U {a b:Dat} {v:Value} (ha:Sh s a u) (hb:Sh s b v) (hu:A.units<cLine):sq a b=true\/SeqAt.EqAt A s u v (eqD a b):=match ha,hb with
 |.non,.non=>.inr (.same _)
 |.non,.bl b=>.inr (.none_bool b)
 |.non,.int b t2=>.inr (.none_int b t2)
 |.non,.str b t2=>.inr (.none_str b t2)
 |.non,.tup q=>.inr (.none_tuple q hu)
 |.non,.lst q=>.inr (.none_list q hu)
 |.bl a,.non=>.inr (.bool_none a)
 |.bl a,.bl b=>.inr (.bool_bool a b)
 |.bl a,.int b t2=>.inr (.bool_int a b t2)
 |.bl a,.str b t2=>.inr (.bool_str a b t2)
 |.bl a,.tup q=>.inr (.bool_tuple a q hu)
 |.bl a,.lst q=>.inr (.bool_list a q hu)
 |.int a t,.non=>.inr (.int_none a t)
 |.int a t,.bl b=>.inr (.int_bool a t b)
 |.int a t,.int b t2=>.inr (.int_int a t b t2)
 |.int a t,.str b t2=>.inr (.int_str a t b t2)
 |.int a t,.tup q=>.inr (.int_tuple a t q hu)
 |.int a t,.lst q=>.inr (.int_list a t q hu)
 |.str a t,.non=>.inr (.str_none a t)
 |.str a t,.bl b=>.inr (.str_bool a t b)
 |.str a t,.int b t2=>.inr (.str_int a t b t2)
 |.str a t,.str b t2=>.inr (.str_str a t b t2)
 |.str a t,.tup q=>.inr (.str_tuple a t q hu)
 |.str a t,.lst q=>.inr (.str_list a t q hu)
 |.tup p,.non=>.inr (.tuple_none p hu)
 |.tup p,.bl b=>.inr (.tuple_bool b p hu)
 |.tup p,.int b t2=>.inr (.tuple_int b t2 p hu)
 |.tup p,.str b t2=>.inr (.tuple_str b t2 p hu)
 |.tup _,.tup _=>.inl rfl
 |.tup p,.lst q=>.inr (.tuple_list p q hu)
 |.lst p,.non=>.inr (.list_none p hu)
 |.lst p,.bl b=>.inr (.list_bool b p hu)
 |.lst p,.int b t2=>.inr (.list_int b t2 p hu)
 |.lst p,.str b t2=>.inr (.list_str b t2 p hu)
 |.lst p,.tup q=>.inr (.list_tuple p q hu)
 |.lst _,.lst _=>.inl rfl
theorem rcAt_U {a b:Dat} {v:Value} (ha:Sh s a u) (hb:Sh s b v) (hu:A.units<cLine):sq a b=true\/SeqAt.RcAt A s u v (eqD a b):=match ha,hb with
 |.non,.non=>.inr (.none_none)
 |.non,.bl b=>.inr (.none_bool b)
 |.non,.int b t2=>.inr (.none_int b t2)
 |.non,.str b t2=>.inr (.none_str b t2)
 |.non,.tup q=>.inr (.none_tuple q hu)
 |.non,.lst q=>.inr (.none_list q hu)
 |.bl a,.non=>.inr (.bool_none a)
 |.bl a,.bl b=>.inr (.bool_bool a b)
 |.bl a,.int b t2=>.inr (.bool_int a b t2)
 |.bl a,.str b t2=>.inr (.bool_str a b t2)
 |.bl a,.tup q=>.inr (.bool_tuple a q hu)
 |.bl a,.lst q=>.inr (.bool_list a q hu)
 |.int a t,.non=>.inr (.int_none a t)
 |.int a t,.bl b=>.inr (.int_bool a t b)
 |.int a t,.int b t2=>.inr (.int_int a t b t2)
 |.int a t,.str b t2=>.inr (.int_str a t b t2)
 |.int a t,.tup q=>.inr (.int_tuple a t q hu)
 |.int a t,.lst q=>.inr (.int_list a t q hu)
 |.str a t,.non=>.inr (.str_none a t)
 |.str a t,.bl b=>.inr (.str_bool a t b)
 |.str a t,.int b t2=>.inr (.str_int a t b t2)
 |.str a t,.str b t2=>.inr (.str_str a t b t2)
 |.str a t,.tup q=>.inr (.str_tuple a t q hu)
 |.str a t,.lst q=>.inr (.str_list a t q hu)
 |.tup p,.non=>.inr (.tuple_none p hu)
 |.tup p,.bl b=>.inr (.tuple_bool b p hu)
 |.tup p,.int b t2=>.inr (.tuple_int b t2 p hu)
 |.tup p,.str b t2=>.inr (.tuple_str b t2 p hu)
 |.tup _,.tup _=>.inl rfl
 |.tup p,.lst q=>.inr (.tuple_list p q hu)
 |.lst p,.non=>.inr (.list_none p hu)
 |.lst p,.bl b=>.inr (.list_bool b p hu)
 |.lst p,.int b t2=>.inr (.list_int b t2 p hu)
 |.lst p,.str b t2=>.inr (.list_str b t2 p hu)
 |.lst p,.tup q=>.inr (.list_tuple p q hu)
 |.lst _,.lst _=>.inl rfl
theorem rcNeAt_U {a b:Dat} {v:Value} (ha:Sh s a u) (hb:Sh s b v) (hu:A.units<cLine):sq a b=true\/SeqAt.RcNeAt A s u v (!eqD a b):=match ha,hb with
 |.non,.non=>.inr (.none_none)
 |.non,.bl b=>.inr (.none_bool b)
 |.non,.int b t2=>.inr (.none_int b t2)
 |.non,.str b t2=>.inr (.none_str b t2)
 |.non,.tup q=>.inr (.none_tuple q hu)
 |.non,.lst q=>.inr (.none_list q hu)
 |.bl a,.non=>.inr (.bool_none a)
 |.bl a,.bl b=>.inr (.bool_bool a b)
 |.bl a,.int b t2=>.inr (.bool_int a b t2)
 |.bl a,.str b t2=>.inr (.bool_str a b t2)
 |.bl a,.tup q=>.inr (.bool_tuple a q hu)
 |.bl a,.lst q=>.inr (.bool_list a q hu)
 |.int a t,.non=>.inr (.int_none a t)
 |.int a t,.bl b=>.inr (.int_bool a t b)
 |.int a t,.int b t2=>.inr (.int_int a t b t2)
 |.int a t,.str b t2=>.inr (.int_str a t b t2)
 |.int a t,.tup q=>.inr (.int_tuple a t q hu)
 |.int a t,.lst q=>.inr (.int_list a t q hu)
 |.str a t,.non=>.inr (.str_none a t)
 |.str a t,.bl b=>.inr (.str_bool a t b)
 |.str a t,.int b t2=>.inr (.str_int a t b t2)
 |.str a t,.str b t2=>.inr (.str_str a t b t2)
 |.str a t,.tup q=>.inr (.str_tuple a t q hu)
 |.str a t,.lst q=>.inr (.str_list a t q hu)
 |.tup p,.non=>.inr (.tuple_none p hu)
 |.tup p,.bl b=>.inr (.tuple_bool b p hu)
 |.tup p,.int b t2=>.inr (.tuple_int b t2 p hu)
 |.tup p,.str b t2=>.inr (.tuple_str b t2 p hu)
 |.tup _,.tup _=>.inl rfl
 |.tup p,.lst q=>.inr (.tuple_list p q hu)
 |.lst p,.non=>.inr (.list_none p hu)
 |.lst p,.bl b=>.inr (.list_bool b p hu)
 |.lst p,.int b t2=>.inr (.list_int b t2 p hu)
 |.lst p,.str b t2=>.inr (.list_str b t2 p hu)
 |.lst p,.tup q=>.inr (.list_tuple p q hu)
 |.lst _,.lst _=>.inl rfl
section
theorem tI (I:Inv X pins σ H s) (hF:aN F H) {x:V} (o:okE d n=true) (q:aQ X.K F d x) (r:RelV x u):Sh s d u:=by
 cases d with
 |non=>cases (show x=.non from q);cases r;exact .non
 |bl b=>cases (show x=.bl b from q);cases r;exact .bl b
 |int i=>cases (show x=.int i from q);obtain ⟨t,rfl⟩:=r;exact .int i t
 |str y=>cases (show x=.str y from q);obtain ⟨t,rfl⟩:=r;exact .str y t
 |tup ds=>
  obtain ⟨l,xs,e,t,_⟩:=q;subst e;cases r;obtain ⟨is,_,p,_⟩:=I.tuple (hF.tup t);exact .tup (show s.heap.IsTuple l is.toArray from p)
 |lst ds=>
  obtain ⟨l,xs,e,t,_⟩:=q;subst e;cases r;obtain ⟨is,_,p,_⟩:=I.list (hF.lst t);exact .lst p.isList
 |_=>simp [okE] at o
theorem pj {n:Nat} (ih:∀(d e:Dat) {v:V},aQ X.K F d v->aQ X.K F e v->okE d n=true->okE e n=true->d=e):∀(ds es:List Dat) {xs:List V},az X.K F ds xs->az X.K F es xs->jt ds n=true->jt es n=true->ds=es
 |[],[],_,_,_,_,_=>rfl
 |[],_::_,_,q,⟨_,_,e,_⟩,_,_=>by rw [show _=[] from q] at e;cases e
 |_::_,[],_,⟨_,_,e,_⟩,q,_,_=>by rw [show _=[] from q] at e;cases e
 |d::ds,e::es,_,⟨v,vs,e1,q1,r1⟩,⟨w,ws,e2,q2,r2⟩,o1,o2=>by
  rw [e1] at e2;cases e2;simp only [jt,Bool.and_eq_true] at o1 o2;rw [ih d e q1 q2 o1.1 o2.1,pj ih ds es r1 r2 o1.2 o2.2]
theorem nh {e:Dat} (hd:sq d d=false) (q:aQ X.K F d v) (r:aQ X.K F e v) (o1:okE d n=true) (o2:okE e n=true):d=e:=by
 cases d<;>first|(cases hd;done)|(simp [okE] at o1;done)|(simp only [aQ] at q;subst q)
 all_goals cases e<;>first|(simp [okE] at o2;done)|(simp only [aQ] at r;first|(obtain ⟨_,_,z,_⟩:=r;cases z;done)|(cases r<;>rfl))
theorem sE (I:Inv X pins σ H s) (hF:aN F H):∀(n:Nat) (d e:Dat) {v:V},aQ X.K F d v->aQ X.K F e v->okE d n=true->okE e n=true->d=e
 |n,.tup ds,e,v,⟨l,xs,e1,h1,r1⟩,r,o1,o2=>by
  subst e1;cases n with
  |zero=>simp [okE] at o1
  |succ n=>
   cases e with
   |tup es=>
    obtain ⟨l2,ys,e2,h2,r2⟩:=r;cases e2;cases SqT.inj I (hF.tup h1) (hF.tup h2);rw [pj (sE I hF n) _ _ r1 r2 (by simpa only [okE] using o1) (by simpa only [okE] using o2)]
   |lst es=>
    obtain ⟨l2,ys,e2,h2,r2⟩:=r;cases e2;obtain ⟨i1,_,p1,_⟩:=I.list (hF.lst h2);obtain ⟨i2,_,p2,_⟩:=I.tuple (hF.tup h1);exact absurd rfl (SeqAt.ne_of_list_tuple p1.isList (show s.heap.IsTuple l i2.toArray from p2))
   |_=>first|(simp [okE] at o2;done)|(simp only [aQ] at r;cases r)
 |n,.lst ds,e,v,⟨l,xs,e1,h1,r1⟩,r,o1,o2=>by
  subst e1;cases n with
  |zero=>simp [okE] at o1
  |succ n=>
   cases e with
   |lst es=>
    obtain ⟨l2,ys,e2,h2,r2⟩:=r;cases e2;cases SqL.inj I (hF.lst h1) (hF.lst h2);rw [pj (sE I hF n) _ _ r1 r2 (by simpa only [okE] using o1) (by simpa only [okE] using o2)]
   |tup es=>
    obtain ⟨l2,ys,e2,h2,r2⟩:=r;cases e2;obtain ⟨i1,_,p1,_⟩:=I.list (hF.lst h1);obtain ⟨i2,_,p2,_⟩:=I.tuple (hF.tup h2);exact absurd rfl (SeqAt.ne_of_list_tuple p1.isList (show s.heap.IsTuple l i2.toArray from p2))
   |_=>first|(simp [okE] at o2;done)|(simp only [aQ] at r;cases r)
 |_,.non,_,_,q,r,o1,o2=>nh rfl q r o1 o2
 |_,.bl _,_,_,q,r,o1,o2=>nh rfl q r o1 o2
 |_,.int _,_,_,q,r,o1,o2=>nh rfl q r o1 o2
 |_,.str _,_,_,q,r,o1,o2=>nh rfl q r o1 o2
 |_,.ins _ _,_,_,_,_,o1,_=>by simp [okE] at o1
 |_,.dic _,_,_,_,_,o1,_=>by simp [okE] at o1
 |_,.dil _,_,_,_,_,o1,_=>by simp [okE] at o1
termination_by n=>n
theorem rcAt_S {a b:Dat} {x y:V} {v:Value} (I:Inv X pins σ H s) (hF:aN F H) (hs:sq a b=true) (qa:aQ X.K F a x) (qb:aQ X.K F b y) (ra:RelV x u) (rb:RelV y v) (hu:A.units<cLine)
  (ih:∀(ds es:List Dat) (j:Nat) (d1 d2:Dat) (x y:V) (u v:Value),(a=.tup ds/\b=.tup es\/a=.lst ds/\b=.lst es)->ds[j]? =some d1->es[j]? =some d2->aQ X.K F d1 x->aQ X.K F d2 y->RelV x u->RelV y v->SeqAt.EqAt A.in1 s u v (eqD d1 d2)):SeqAt.RcAt A s u v (eqD a b):=by
 rcases tE hs with ⟨ds,es,rfl,rfl⟩|⟨ds,es,rfl,rfl⟩
 ·skip;obtain ⟨l1,xs,e1,h1,r1⟩:=qa;subst e1;cases ra;obtain ⟨is,w1,p1,_⟩:=I.tuple (hF.tup h1);obtain ⟨l2,ys,e2,h2,r2⟩:=qb;subst e2;cases rb;obtain ⟨js,w2,p2,_⟩:=I.tuple (hF.tup h2);have z1:=w1.length;have z2:=w2.length;have y1:=r1.length;have y2:=r2.length;have q:=SeqAt.RcAt.tuples (A:=A) (e:=jw ds es) (show s.heap.IsTuple l1 is.toArray from p1) (show s.heap.IsTuple l2 js.toArray from p2) hu (fun j h1 h2=>by
   obtain ⟨x',f1,g1⟩:=w1.atA h1;obtain ⟨y',f2,g2⟩:=w2.atA h2;obtain ⟨d1,k1,m1⟩:=r1.at f1;obtain ⟨d2,k2,m2⟩:=r2.at f2;rw [show jw ds es j=eqD d1 d2 by simp only [jw,k1,k2]];exact ih ds es j d1 d2 x' y' _ _ (.inl ⟨rfl,rfl⟩) k1 k2 m1 m2 g1 g2)
  rw [show is.toArray.size=ds.length by simp;omega,show js.toArray.size=es.length by simp;omega,xR _ (fun j a b h1 h2=>by simp only [jw,h1,h2])] at q;exact q
 ·skip;obtain ⟨l1,xs,e1,h1,r1⟩:=qa;subst e1;cases ra;obtain ⟨is,w1,p1,_⟩:=I.list (hF.lst h1);obtain ⟨l2,ys,e2,h2,r2⟩:=qb;subst e2;cases rb;obtain ⟨js,w2,p2,_⟩:=I.list (hF.lst h2);have z1:=w1.length;have z2:=w2.length;have y1:=r1.length;have y2:=r2.length;by_cases hl:ds.length=es.length
  ·have q:=SeqAt.RcAt.lists (A:=A) (e:=jw ds es) p1.isList p2.isList (by simp;omega) hu (fun j h1 h2=>by
   obtain ⟨x',f1,g1⟩:=w1.atA h1;obtain ⟨y',f2,g2⟩:=w2.atA h2;obtain ⟨d1,k1,m1⟩:=r1.at f1;obtain ⟨d2,k2,m2⟩:=r2.at f2;rw [show jw ds es j=eqD d1 d2 by simp only [jw,k1,k2]];exact ih ds es j d1 d2 x' y' _ _ (.inr ⟨rfl,rfl⟩) k1 k2 m1 m2 g1 g2)
   rw [show is.toArray.size=ds.length by simp;omega,az.all_eq (F:=F) _ hl (fun j a b h1 h2=>by simp only [jw,h1,h2])] at q;exact q
  ·rw [show eqD (.lst ds) (.lst es)=false from n6 hl];exact SeqAt.RcAt.lists_lengths (A:=A) p1.isList p2.isList (by simp;omega) hu
theorem rcNeAt_S {a b:Dat} {x y:V} {v:Value} (I:Inv X pins σ H s) (hF:aN F H) (hs:sq a b=true) (qa:aQ X.K F a x) (qb:aQ X.K F b y) (ra:RelV x u) (rb:RelV y v) (hu:A.units<cLine)
  (ih:∀(ds es:List Dat) (j:Nat) (d1 d2:Dat) (x y:V) (u v:Value),(a=.tup ds/\b=.tup es\/a=.lst ds/\b=.lst es)->ds[j]? =some d1->es[j]? =some d2->aQ X.K F d1 x->aQ X.K F d2 y->RelV x u->RelV y v->SeqAt.EqAt A.in1 s u v (eqD d1 d2)):SeqAt.RcNeAt A s u v (!eqD a b):=by
 rcases tE hs with ⟨ds,es,rfl,rfl⟩|⟨ds,es,rfl,rfl⟩
 ·skip;obtain ⟨l1,xs,e1,h1,r1⟩:=qa;subst e1;cases ra;obtain ⟨is,w1,p1,_⟩:=I.tuple (hF.tup h1);obtain ⟨l2,ys,e2,h2,r2⟩:=qb;subst e2;cases rb;obtain ⟨js,w2,p2,_⟩:=I.tuple (hF.tup h2);have z1:=w1.length;have z2:=w2.length;have y1:=r1.length;have y2:=r2.length;have q:=SeqAt.RcNeAt.tuples (A:=A) (e:=jw ds es) (show s.heap.IsTuple l1 is.toArray from p1) (show s.heap.IsTuple l2 js.toArray from p2) hu (fun j h1 h2=>by
   obtain ⟨x',f1,g1⟩:=w1.atA h1;obtain ⟨y',f2,g2⟩:=w2.atA h2;obtain ⟨d1,k1,m1⟩:=r1.at f1;obtain ⟨d2,k2,m2⟩:=r2.at f2;rw [show jw ds es j=eqD d1 d2 by simp only [jw,k1,k2]];exact ih ds es j d1 d2 x' y' _ _ (.inl ⟨rfl,rfl⟩) k1 k2 m1 m2 g1 g2)
  rw [show is.toArray.size=ds.length by simp;omega,show js.toArray.size=es.length by simp;omega,xR _ (fun j a b h1 h2=>by simp only [jw,h1,h2])] at q;exact q
 ·skip;obtain ⟨l1,xs,e1,h1,r1⟩:=qa;subst e1;cases ra;obtain ⟨is,w1,p1,_⟩:=I.list (hF.lst h1);obtain ⟨l2,ys,e2,h2,r2⟩:=qb;subst e2;cases rb;obtain ⟨js,w2,p2,_⟩:=I.list (hF.lst h2);have z1:=w1.length;have z2:=w2.length;have y1:=r1.length;have y2:=r2.length;by_cases hl:ds.length=es.length
  ·have q:=SeqAt.RcNeAt.lists (A:=A) (e:=jw ds es) p1.isList p2.isList (by simp;omega) hu (fun j h1 h2=>by
   obtain ⟨x',f1,g1⟩:=w1.atA h1;obtain ⟨y',f2,g2⟩:=w2.atA h2;obtain ⟨d1,k1,m1⟩:=r1.at f1;obtain ⟨d2,k2,m2⟩:=r2.at f2;rw [show jw ds es j=eqD d1 d2 by simp only [jw,k1,k2]];exact ih ds es j d1 d2 x' y' _ _ (.inr ⟨rfl,rfl⟩) k1 k2 m1 m2 g1 g2)
   rw [show is.toArray.size=ds.length by simp;omega,az.all_eq (F:=F) _ hl (fun j a b h1 h2=>by simp only [jw,h1,h2])] at q;exact q
  ·rw [show eqD (.lst ds) (.lst es)=false from n6 hl];exact SeqAt.RcNeAt.lists_lengths (A:=A) p1.isList p2.isList (by simp;omega) hu
theorem ok_sub {a b d1 d2:Dat} {es:List Dat} (oa:okE a n=true) (ob:okE b n=true) (h:a=.tup ds/\b=.tup es\/a=.lst ds/\b=.lst es) (k1:ds[j]? =some d1) (k2:es[j]? =some d2):∃m,n=m+1/\okE d1 m=true/\okE d2 m=true:=by
 cases n with
 |zero=>rcases h with ⟨rfl,rfl⟩|⟨rfl,rfl⟩<;>simp [okE] at oa
 |succ m=>exact ⟨m,rfl,by rcases h with ⟨rfl,rfl⟩|⟨rfl,rfl⟩<;>simp only [okE] at oa ob<;>exact ⟨se oa k1,se ob k2⟩⟩
theorem eqAt_N (I:Inv X pins σ H s) (hF:aN F H):∀(n:Nat) (a b:Dat) {x y:V} {u v:Value} {A:Around},okE a n=true->okE b n=true->aQ X.K F a x->aQ X.K F b y->RelV x u->RelV y v->A.units+n<cLine->SeqAt.EqAt A s u v (eqD a b):=by
 intro n
 induction n with
 |zero=>
  intro a b x y u v A oa ob qa qb ra rb hu;refine (eqAt_U (tI I hF oa qa ra) (tI I hF ob qb rb) (by omega)).resolve_left fun h=>?_;rcases tE h with ⟨ds,es,rfl,rfl⟩|⟨ds,es,rfl,rfl⟩<;>simp [okE] at oa
 |succ n ih=>
  intro a b x y u v A oa ob qa qb ra rb hu;rcases eqAt_U (A:=A) (tI I hF oa qa ra) (tI I hF ob qb rb) (by omega) with h|h
  ·by_cases hab:x=y
   ·subst hab;cases (show a=b from sE I hF (n+1) a b qa qb oa ob);rw [n8 oa];rcases tE h with ⟨ds,es,rfl,_⟩|⟨ds,es,rfl,_⟩<;>(obtain ⟨l1,xs,e1,_⟩:=qa;subst e1;cases ra;cases rb;exact SeqAt.EqAt.same _)
   ·have q:=rcAt_S (A:=A) I hF h qa qb ra rb (by omega) fun ds es j d1 d2 x' y' u' v' hs k1 k2 m1 m2 g1 g2=>by
     obtain ⟨m,e,o1,o2⟩:=ok_sub oa ob hs k1 k2;cases e;exact ih d1 d2 o1 o2 m1 m2 g1 g2 (by show A.units+1+n<cLine;omega)
    rcases tE h with ⟨ds,es,rfl,rfl⟩|⟨ds,es,rfl,rfl⟩<;>(obtain ⟨l1,xs,e1,_⟩:=qa;obtain ⟨l2,ys,e2,_⟩:=qb;subst e1;subst e2;cases ra;cases rb;exact SeqAt.EqAt.of_refs (fun z=>hab (by rw [z])) q)
  ·exact h
theorem Bd (I:Inv X pins σ H s) (hF:aN F H) (a b:Dat) {x y:V} {v:Value} (oa:okE a n=true) (ob:okE b n=true) (qa:aQ X.K F a x) (qb:aQ X.K F b y) (ra:RelV x u) (rb:RelV y v) (hu:A.units+n<cLine):SeqAt.EqAt A s u v (eqD a b):=eqAt_N I hF n a b oa ob qa qb ra rb hu
theorem eqAt_I (I:Inv X pins σ H s) (hF:aN F H) {a b:Dat} (oa:okE a n=true) (ob:okE b n=true) (hu:A.units+n<cLine) (ds es:List Dat) (j:Nat) (d1 d2:Dat) (x y:V) (u v:Value) (hs:a=.tup ds/\b=.tup es\/a=.lst ds/\b=.lst es) (k1:ds[j]? =some d1) (k2:es[j]? =some d2) (m1:aQ X.K F d1 x) (m2:aQ X.K F d2 y) (g1:RelV x u) (g2:RelV y v):SeqAt.EqAt A.in1 s u v (eqD d1 d2):=by
 obtain ⟨m,rfl,o1,o2⟩:=ok_sub oa ob hs k1 k2;exact Bd I hF d1 d2 o1 o2 m1 m2 g1 g2 (by show A.units+1+m<cLine;omega)
theorem rcAt_D (I:Inv X pins σ H s) (hF:aN F H) (a b:Dat) {x y:V} {v:Value} (oa:okE a n=true) (ob:okE b n=true) (qa:aQ X.K F a x) (qb:aQ X.K F b y) (ra:RelV x u) (rb:RelV y v) (hu:A.units+n<cLine):SeqAt.RcAt A s u v (eqD a b):=
 (rcAt_U (tI I hF oa qa ra) (tI I hF ob qb rb) (by omega)).elim (fun h=>rcAt_S I hF h qa qb ra rb (by omega) (eqAt_I I hF oa ob hu)) id
theorem rcNeAt_D (I:Inv X pins σ H s) (hF:aN F H) (a b:Dat) {x y:V} {v:Value} (oa:okE a n=true) (ob:okE b n=true) (qa:aQ X.K F a x) (qb:aQ X.K F b y) (ra:RelV x u) (rb:RelV y v) (hu:A.units+n<cLine):SeqAt.RcNeAt A s u v (!eqD a b):=
 (rcNeAt_U (tI I hF oa qa ra) (tI I hF ob qb rb) (by omega)).elim (fun h=>rcNeAt_S I hF h qa qb ra rb (by omega) (eqAt_I I hF oa ob hu)) id
end
section
variable {W:du} {own:Bool}
theorem aC.blS {b:Bool} (p:aC K W own F H (.ok (.bl b)) Q) (s1:aN F H) (I:Inv X pins σ H s):EP X pins σ Q (.bool b) s:=⟨.bl b,H,I,rfl,p.bl s1⟩
theorem uo (hu:X.A.units+64<cLine) (hK:X.K=K:=by rfl):Op2 K W own X (compareOp .Eq) eqM:=by
 subst hK;intro pins s σ H x y v u Q I rx ry h;obtain ⟨F,a,b,s1,qa,qb,p⟩:=h;unfold eqM at p;by_cases hc:(okE a 40&&okE b 40)=true
 ·rw [if_pos hc] at p;simp only [Bool.and_eq_true] at hc;exact rcAt_D I s1 a b hc.1 hc.2 qa qb rx ry (by omega) _ _ _ _ (p.blS s1 I)
 ·rw [if_neg hc] at p;exact p.stuck
theorem xv (hu:X.A.units+64<cLine) (hK:X.K=K:=by rfl):Op2 K W own X (compareOp .NotEq) neM:=by
 subst hK;intro pins s σ H x y v u Q I rx ry h;obtain ⟨F,a,b,s1,qa,qb,p⟩:=h;unfold neM at p;by_cases hc:(okE a 40&&okE b 40)=true
 ·rw [if_pos hc] at p;simp only [Bool.and_eq_true] at hc;exact rcNeAt_D I s1 a b hc.1 hc.2 qa qb rx ry (by omega) _ _ _ _ (p.blS s1 I)
 ·rw [if_neg hc] at p;exact p.stuck
end
section
theorem Inv.zD {t':Nat} {T:Addr} (I:Inv X pins σ H s) (hf:∀b∈ch,zA X pins H b) (k:∀b o,b∉ch->s.heap.get? b=some o->h'.get? b=some o) (hT:s.heap.objs.size<=T)
  (new:xs.length<=sizeLine/\∃its:List Value,Vals xs its/\IsTup h' T its.toArray):Inv X pins σ (upd H T (.tup xs)) {s with heap:=h',toks:=t'}:=by
 have hTn:H T=none:=I.hok.fresh hT;have nit:∀b u,H b=some u->b∉ch:=fun b u e z=>by rw [(hf b z).1] at e;cases e
 have old:∀{b:Addr} {o:Obj},s.heap.get? b=some o->b≠T:=fun {b o} e=>Nat.ne_of_lt (Nat.lt_of_lt_of_le (Heap.lt_size e) hT);refine I.step (g':=s.gens) (d':=s.drawn) (ch:=ch) (fun b hb=>?_) (fun b o _ _ hc e _=>k b o hc e) (fun b o _ _ hc e _=>⟨o.slots,k b o hc e⟩) (fun b o _ e n=>by rw [au (old e)];exact n)
  (fun b o hc e=>⟨o,k b o hc e⟩) (fun b ys e=>by rw [au (aR e hTn)];exact e) (fun b o u e=>by rw [au (aR e hTn)];exact e) (fun b ps e=>⟨#[],by rw [au (aR e hTn),e];simp⟩) (fun m hm=>?_) (fun b u e=>?_) I.bare
 ·obtain ⟨f0,f1,f2,f3,f4,f5⟩:=hf b hb;exact ⟨f3,f1,f4,f5⟩
 ·obtain ⟨o,es,ep,ho,r⟩:=hm;exact ⟨o,es,ep,k _ o (fun z=>(hf _ z).2.1 rfl) ho,r⟩
 ·by_cases hb:b=T
  ·subst hb;rw [ay] at e;cases e;exact new
  ·rw [au hb] at e;refine (I.hok b u e).stay (fun c v hc q=>k c v ?_ q) (fun c q=>?_) fun c ys q=>?_
   ·rcases hc with z|z
    ·rw [z];exact nit b u e
    ·exact nit c _ z
   ·rw [au (aR q hTn)];exact q
   ·rw [au (aR q hTn)];exact q
theorem Inv.zE {t':Nat} (I:Inv X pins σ H s) (hf:∀b∈ch,zA X pins H b) (k:∀b o,b∉ch->s.heap.get? b=some o->h'.get? b=some o):Inv X pins σ H {s with heap:=h',toks:=t'}:=by
 have nit:∀b u,H b=some u->b∉ch:=fun b u e z=>by rw [(hf b z).1] at e;cases e
 refine I.step (g':=s.gens) (d':=s.drawn) (ch:=ch) (fun b hb=>?_) (fun b o _ _ hc e _=>k b o hc e) (fun b o _ _ hc e _=>⟨o.slots,k b o hc e⟩) (fun b o _ e n=>n)
  (fun b o hc e=>⟨o,k b o hc e⟩) (fun b ys e=>e) (fun b o u e=>e) (fun b ps e=>⟨#[],by rw [e];simp⟩) (fun m hm=>?_) (fun b u e=>?_) I.bare
 ·obtain ⟨f0,f1,f2,f3,f4,f5⟩:=hf b hb;exact ⟨f3,f1,f4,f5⟩
 ·obtain ⟨o,es,ep,ho,r⟩:=hm;exact ⟨o,es,ep,k _ o (fun z=>(hf _ z).2.1 rfl) ho,r⟩
 ·refine (I.hok b u e).stay (fun c v hc q=>k c v ?_ q) (fun _ q=>q) fun _ _ q=>q;rcases hc with z|z
  ·rw [z];exact nit b u e
  ·exact nit c _ z
end
section
variable {W:du} {own:Bool} {a:Expr} {f:ai->M Dat} {fr:ai->M (List Dat)} 
theorem bO:PTs X [] (tDT K W gd):=fun pins s σ H Q I h=>pts_nil pins s σ H Q I (by
 obtain ⟨F,ρ,r,s1,q⟩:=h;exact q F H (Step.refl s1))
theorem j4:PGs X [] (gI []):=Aj
theorem bj (hN:X.N.Nodup) (h2:PGs X es (gI is)) (hi:X.N[i]? =some x:=by rfl) (hx:Loc X.env.scope x:=by first|exact Or.inl rfl|exact Or.inr rfl) (hf:X.fn x=true\/X.env.scope.names.lookup x=some .local:=by first|exact .inl rfl|exact .inr rfl|assumption)
  (hs:(assignEach (.Name x p::es) X.env).map (·.2)=assign (.Name x p) X.env::(assignEach es X.env).map (·.2):=by rfl):PGs X (.Name x p::es) (gI (i::is)):=mX (lE hN hi hx hf) h2 hs
theorem uJ (hc:X.calm=true) (h:PGs X es (gI is)) (hn:(assignEach es X.env).length=is.length:=by rfl) (hst:(assignEach es X.env).findIdx? (·.1)=none:=by rfl) (hK:X.K=K:=by rfl):DG K X (.Tuple es k pos) (.tp is):=by
 subst hK;exact pg_tup hc h hn hst
theorem mx {ix:List (Option Nat)}:∀{is:List Nat},(∀i∈is,ix[i]? =some none)->∀vs σ' H' (Q:St->Hp->Prop),gI is vs σ' H' Q->gI is vs σ' H' fun σ2 H2=>Q σ2 H2/\∀(i:Nat) v,σ'[i]? =some (some v)->(∃j,ix[i]? =some (some j))->σ2[i]? =some (some v)
 |[],_,vs,σ',H',Q,⟨e,q⟩=>⟨e,q,fun _ _ h _=>h⟩
 |i::is,hs,vs,σ',H',Q,⟨v,r,e,q⟩=>by
  refine ⟨v,r,e,?_⟩
  have:=mx (ix:=ix) (is:=is) (fun j hj=>hs j (by simp [hj])) r (σ'.set i (some v)) H' Q q;have mono:∀{is:List Nat} {vs:List V} {σ1:St} {H1:Hp} {Q Q':St->Hp->Prop},(∀σ2 H2,Q σ2 H2->Q' σ2 H2)->gI is vs σ1 H1 Q->gI is vs σ1 H1 Q':=by
   intro is
   induction is with
   |nil=>rintro vs σ1 H1 Q Q' m ⟨e,q⟩;exact ⟨e,m _ _ q⟩
   |cons i is ih=>rintro vs σ1 H1 Q Q' m ⟨v,r,e,q⟩;exact ⟨v,r,e,ih m q⟩
  refine mono (fun σ2 H2 ⟨q1,q2⟩=>⟨q1,fun j w h ⟨l,hl⟩=>q2 j w ?_ ⟨l,hl⟩⟩) this;have:i≠j:=by rintro rfl;rw [hs i (by simp)] at hl;cases hl
  rw [List.getElem?_set_ne this];exact h
theorem uv (h:∀i∈is,ix[i]? =some none):pO ix (gP K (.tp is)):=fun x σ' H' Q ⟨a,xs,e,t,l,q⟩=>⟨a,xs,e,t,l,mx h xs σ' H' Q q⟩
theorem d7 (hN:N'.Nodup) (hi:N'[i]? =some x:=by rfl) (hx:Loc (ba X N' sc L cs s H fp).env.scope x:=by first|exact Or.inl rfl|exact Or.inr rfl)
  (hf:(ba X N' sc L cs s H fp).fn x=true\/(ba X N' sc L cs s H fp).env.scope.names.lookup x=some .local:=by first|exact .inl rfl|exact .inr rfl|assumption):DG K (ba X N' sc L cs s H fp) (.Name x pos) (.nm i):=pg_c hN hi hx hf
variable {pt:Pat} 
theorem cA (N':List Str) (ix:List (Option Nat)) (hi:DI K W X tg iter fi) (hg:∀L cs s H fp,DG K (ba X N' sc L cs s H fp) tg pt) (hl:pO ix (gP K pt))
  (ht:∀L cs s H fp,PTs (ba X N' sc L cs s H fp) ifs (tDT K W ft)) (he:∀L cs s H fp,DE K W false (ba X N' sc L cs s H fp) elt fe) (hc:X.calm=true:=by rfl)
  (ok:br X.N X.env.scope N' sc ix=true:=by rfl) (hk:sc.kind=.function:=by rfl) (hs:∀x,foldedSetIterable iter X.env x=pure x:=by intro _;rfl) :
  DE K W true X (.ListComp elt [⟨tg,iter,ifs,0⟩] sc pos) (bY fi ix pt ft fe):=(pe_comp N' ix hc hi hg hl ht he ok hk hs).imp fun _ _ _=>A7
theorem tD_fr (h:tD K W own f σ H Q):tD K W true f σ H Q:=by
 cases own with
 |true=>exact h
 |false=>obtain ⟨F,ρ,r,s,p⟩:=h;exact ⟨F,ρ,r,s,p.frz⟩
theorem n9 (own:Bool) (N':List Str) (ix:List (Option Nat)) (hN:X.N.Nodup) (hi:DI K W X tg iter fi) (hg:∀L cs s H fp,DG K (ba X N' sc L cs s H fp) tg pt) (hl:pO ix (gP K pt))
  (ht:∀L cs s H fp,PTs (ba X N' sc L cs s H fp) ifs (tDT K W ft)) (he:∀L cs s H fp,DE K W false (ba X N' sc L cs s H fp) elt fe) (hj:X.N[i]? =some x:=by rfl) (hy:X.env.scope.names.lookup x=some .local:=by rfl) (hc:X.calm=true:=by rfl)
  (hsw:swapsWith (.ListComp elt [⟨tg,iter,ifs,0⟩] sc pos) (some (.Name x py)) spos.line X.env=pure true:=by rfl)
  (ok:br X.N X.env.scope N' sc ix=true:=by rfl) (hk:sc.kind=.function:=by rfl) (hs:∀x,foldedSetIterable iter X.env x=pure x:=by intro _;rfl) :
  DS K W ro X OL O (aft own i O) (.Assign [.Name x py] (.ListComp elt [⟨tg,iter,ifs,0⟩] sc pos) spos) (aW O i (bY fi ix pt ft fe)):=fun F0 H0=>
 (qD N' ix hN hj hy hc hi hg hl ht he hsw ok hk hs).imp fun D σ H t=>A7 (tD_fr (A2 t))
theorem Bg {pt:Pat} (he:DE K W false X e f) (hg:DG K X tg pt) (n:∀i∈pt.names,i∉O:=by decide) (hs:swapsWithSole [tg] e pos.line X.env=pure false:=by rfl) (hw:swappedStores [tg] e X.env=pure none:=by rfl)
  (h1:(assignEach [tg] X.env).map (·.2)=[assign tg X.env]:=by rfl):DS K W ro X OL O O (.Assign [tg] e pos) (tU O pt f):=fun F0 H0=>(ps_asg he hg hs hw h1).imp fun _ _ _=>rs_unpB n
noncomputable def spF (K:Fg) (ro:Bool) (g:List Dat->M Dat) (n:Nat):Sp:=fun vs H Q _=>∃F ds,aN F H/\az K F ds vs/\ds.length=n/\aC K Wno ro F H (g ds) Q
theorem xn (h:ds.length≠n):bU nN n g ds=stk:=by unfold bU;rw [if_neg h]
theorem de_call (F:iJ X.prog X.w X.K X.mg X.base CX0 k fad fd ps (spF K ro (bU nN n g) n)) (hr:ip k X.A) (hm:X.mg x=some (.ref fad)) (hk:keepIn X.K (.ref fad)=true) (hb:Binds X.K fd ps [])
  (ha:DA K Wno X (e::es) fr) (hg:Gl X x:=by rfl) (hdb:(x==("__debug__":Str))=false:=by decide) (hst:starEach (e::es) X.env=(false,eval e X.env)::starEach es X.env:=by rfl) (hpl:(backTo pos (starEach es X.env)).any (·.1)=false:=by rfl) :
  DE K Wno ro X (.Call (.Name x p) (e::es) [] pos) (fL (bU nN n g) fr):=by
 refine PE.imp (nW F hr hg hm hk hb .nil nX ha hdb hst hpl) fun σ H Q h=>?_;obtain ⟨F,ρ,r,s,p⟩:=rd_L h;refine ⟨F,ρ,r,s,?_⟩
 cases e1:fr ρ with
 |error z=>rw [e1] at p;exact p
 |ok ds=>
  rw [e1] at p;intro vs F' H' st q;obtain ⟨F1,es1,s1,q1,z⟩:=p vs F' H' st q;show spF K ro (bU nN n g) n (vs++[]) H' Q E0;rw [List.append_nil];by_cases hl:es1.length=n
  ·exact ⟨F1,es1,s1,q1,hl,z⟩
  ·rw [xn hl] at z;exact aC.stuck z
end
section
variable {mg:Mq} {base:Heap}
theorem zP (q:az K F ds vs) (h:(ds.map some++List.replicate (N.length-ds.length) none)[i]? =some (some d)):∃v,(start N vs)[i]? =some (some v)/\aQ K F d v:=by
 have hi:i<ds.length:=by
  by_cases hi:i<ds.length
  ·exact hi
  ·rw [List.getElem?_append_right (by simpa using hi),List.getElem?_replicate] at h;split at h<;>cases h
 rw [List.getElem?_append_left (by simpa using hi),List.getElem?_map] at h;cases e:ds[i]? with
 |none=>rw [e] at h;cases h
 |some d'=>
  rw [e] at h;cases h;obtain ⟨v,e1,q1⟩:=q.get e;refine ⟨v,?_,q1⟩
  unfold start;rw [List.getElem?_append_left (by rw [List.length_map,q.length];exact hi),List.getElem?_map,e1];rfl
theorem fn_D (F:Fun K x qual st f fd) (S:gQ N ps (aJ st)) (ro:Bool) (g:ai->M Flo)
  (hb:∀(cdv:Value) (A:Around) (outer:List Env) (s:Shared) (H:Hp) (E:XK),ip k (A.deeper (envOfC qual (aJ st) s.heap.objs.size f cdv)) ->
   DSs K Wno ro (cxOf CX0 P w K mg base N qual (aJ st) f cdv A outer s H E).nox [] [] O' (bP st) g):iJ P w K mg base CX0 (k+1) f fd ps (spF K ro (bU N.length ps.length g) ps.length):=by
 have hpl:ps.length<=N.length:=by have:=congrArg List.length S.pre;rw [List.length_take] at this;omega
 refine F.okX S (fun vs H Q E ⟨F,ds,s,q,l,p⟩=>by rw [q.length,l]) fun cdv A outer s H vs Q E hr ⟨F1,ds,s1,q,l,p⟩=>⟨_,hb cdv A outer s H E hr F1 H,F1,F1,ds.map some++List.replicate (N.length-ds.length) none,?_,?_⟩
 ·refine ⟨Step.refl s1,aN.refl _,?_,fun i d e _=>zP q e,(fun i d e h=>nomatch h),(fun i j ds es a h=>nomatch h)⟩
  unfold start;rw [List.length_append,List.length_append,List.length_map,List.length_map,List.length_replicate,List.length_replicate,q.length]
 ·have e1:bU N.length ps.length g ds=(g (ds.map some++List.replicate (N.length-ds.length) none)).bind fun fl=>match fl with
   |.nx _=>.ok .non
   |.rt d=>.ok d
   |_=>stk:=by
    unfold bU;exact if_pos l
  rw [e1] at p;cases e2:g (ds.map some++List.replicate (N.length-ds.length) none) with
  |error z=>rw [e2] at p;exact p
  |ok fl=>
   rw [e2] at p;cases fl with
   |nx ρ=>exact fun σ F H r=>p .non F H r.st (by cases ro<;>rfl)
   |rt d=>exact fun v F H st q=>p v F H st q
   |bk ρ=>exact aC.stuck p
   |ct ρ=>exact aC.stuck p
noncomputable def spLaw (K:Fg):Sp:=fun vs H Q _=>∃(a:Addr) (ns:List Int),vs=[.ref a]/\SqL K H a (ns.map V.int)/\ns.length<=63/\∀H',Q (.bl true) H'
theorem qW {F:Hp}:∀is:List Int,az K F (is.map Dat.int) (is.map V.int)
 |[]=>rfl
 |i::is=>⟨.int i,is.map V.int,rfl,rfl,qW is⟩
theorem law_ok {mlaw:Nat->List Dat->M Dat} (F:∀n,iJ P w K mg base CX0 k f fd [x] (spF K ro (mlaw n) 1)) (h:∀ns:List Int,ns.length<=63->∃n,mlaw n [.lst (ns.map .int)]=.ok (.bl true)):iJ P w K mg base CX0 k f fd [x] (spLaw K):=by
 refine ⟨fun vs H Q E ⟨a,ns,e,_⟩=>by rw [e];rfl,fun A outer s H args us vs Q E hr he hb hv ⟨a,ns,e,hq,hl,q⟩=>?_⟩
 obtain ⟨n,hn⟩:=h ns hl;refine (F n).run A outer s H args us vs Q E hr he hb hv ⟨H,[.lst (ns.map .int)],aN.refl _,⟨.ref a,[],e,⟨a,_,rfl,hq,qW ns⟩,rfl⟩,rfl,?_⟩;rw [hn];intro v F' H' st z;have:v=.bl true:=by cases ro<;>exact z
 rw [this];exact q H'
end
structure Kit (K:Fg):Prop where
 Ac:kitOne K (.type "int") (.type "int")=some true
 yJ:kitOne K (.type "bool") (.type "int")=some true
 yG:kitOne K (.type "list") (.type "int")=some false
 vH:kitOne K (.type "tuple") (.type "int")=some false
 Ab:kitOne K (.type "str") (.type "int")=some false
 q9:kitOne K (.type "NoneType") (.type "int")=some false
 yI:kitOne K (.type "int") (.type "bool")=some false
 vN:kitOne K (.type "bool") (.type "bool")=some true
 vK:kitOne K (.type "list") (.type "bool")=some false
 u4:kitOne K (.type "tuple") (.type "bool")=some false
 yF:kitOne K (.type "str") (.type "bool")=some false
 nQ:kitOne K (.type "NoneType") (.type "bool")=some false
 yH:kitOne K (.type "int") (.type "list")=some false
 vM:kitOne K (.type "bool") (.type "list")=some false
 vJ:kitOne K (.type "list") (.type "list")=some true
 u3:kitOne K (.type "tuple") (.type "list")=some false
 yE:kitOne K (.type "str") (.type "list")=some false
 nP:kitOne K (.type "NoneType") (.type "list")=some false
 vL:kitOne K (.type "int") (.type "tuple")=some false
 u6:kitOne K (.type "bool") (.type "tuple")=some false
 u5:kitOne K (.type "list") (.type "tuple")=some false
 rQ:kitOne K (.type "tuple") (.type "tuple")=some true
 vI:kitOne K (.type "str") (.type "tuple")=some false
 mO:kitOne K (.type "NoneType") (.type "tuple")=some false
 q_int_str:kitOne K (.type "int") (.type "str")=some false
 q_bool_str:kitOne K (.type "bool") (.type "str")=some false
 q_list_str:kitOne K (.type "list") (.type "str")=some false
 q_tuple_str:kitOne K (.type "tuple") (.type "str")=some false
 q_str_str:kitOne K (.type "str") (.type "str")=some true
 q_NoneType_str:kitOne K (.type "NoneType") (.type "str")=some false
section
variable {W:du} {own:Bool} {a:Expr} 
theorem isi_D {x:V} {bi bb bl bt bs bn:Bool} {Q:Vp} (I:Inv X pins σ H s) (hF:aN F H) (q:aQ X.K F d x) (r:RelV x u)
  (hi:kitOne X.K (.type "int") (.type T)=some bi) (hb:kitOne X.K (.type "bool") (.type T)=some bb) (hl:kitOne X.K (.type "list") (.type T)=some bl) (ht:kitOne X.K (.type "tuple") (.type T)=some bt)
  (hs:kitOne X.K (.type "str") (.type T)=some bs) (hn:kitOne X.K (.type "NoneType") (.type T)=some bn)
  (h:∀k tk,(match d with|.int _=>k=bi|.bl _=>k=bb|.lst _=>k=bl|.tup _=>k=bt|.str _=>k=bs|.non=>k=bn|.ins _ _=>False|.dic _=>False|.dil _=>False)->Q (.bool k) {s with toks:=tk}) (no:∀C fs,d≠.ins C fs) (nd:∀ks,d≠.dic ks) (nl:∀ks,d≠.dil ks) :
  wpAny (model X.prog X.w) X.A (call (.builtin "isinstance") [u,.type T]) Q X.xe s:=by
 cases d with
 |non=>cases (show x=.non from q);cases r;exact kia_one PySem.W.kitx_none I.kIn True.intro hn (fun z=>nomatch z) fun tk=>h _ tk rfl
 |bl y=>cases (show x=.bl y from q);cases r;exact kia_one PySem.W.kitx_bool I.kIn True.intro hb (fun z=>nomatch z) fun tk=>h _ tk rfl
 |int i=>cases (show x=.int i from q);obtain ⟨t,rfl⟩:=r;exact kia_one PySem.W.kitx_int I.kIn True.intro hi (fun z=>nomatch z) fun tk=>h _ tk rfl
 |str y=>cases (show x=.str y from q);obtain ⟨t,rfl⟩:=r;exact kia_one PySem.W.kitx_str I.kIn True.intro hs (fun z=>nomatch z) fun tk=>h _ tk rfl
 |lst ds=>
  obtain ⟨l,xs,e,t,_⟩:=q;subst e;cases r;obtain ⟨its,_,pl,_⟩:=I.list (hF.lst t);obtain ⟨o,h1,h2,_⟩:=pl.isList;exact kia_one PySem.W.kitx_list I.kIn ⟨o,h1,h2⟩ hl (fun z=>nomatch z) fun tk=>h _ tk rfl
 |tup ds=>
  obtain ⟨l,xs,e,t,_⟩:=q;subst e;cases r;obtain ⟨its,_,pl,_⟩:=I.tuple (hF.tup t);obtain ⟨o,h1,h2,_⟩:=pl;exact kia_one PySem.W.kitx_tuple I.kIn ⟨o,h1,h2⟩ ht (fun z=>nomatch z) fun tk=>h _ tk rfl
 |ins C fs=>exact absurd rfl (no C fs)
 |dic ks=>exact absurd rfl (nd ks)
 |dil ks=>exact absurd rfl (nl ks)
theorem xW {g:Dat->M Dat} (hc:iq X (.builtin "isinstance") (fun xs H Q=>∃v,xs=[v,.ty T]/\rD1 K W own g v H Q)) (hm:X.mg "isinstance"=none) (hmT:X.mg y=none) (hvT:bootBuiltins y=some (.type T)) (ha:DE K W false X a fa)
  (hg:Gl X "isinstance":=by rfl) (hgT:Gl X y:=by rfl) (hn:y≠"__name__":=by decide) (hd:(y==("__debug__":Str))=false:=by decide)
  (hst:starEach [a,.Name y p2] X.env=[(false,eval a X.env),(false,eval (.Name y p2) X.env)]:=by rfl) (hst2:starEach [.Name y p2] X.env=[(false,eval (.Name y p2) X.env)]:=by rfl) (hpl:(backTo pos (starEach [.Name y p2] X.env)).any (·.1)=false:=by rfl) :
  DE K W own X (.Call (.Name "isinstance" p) [a,.Name y p2] [] pos) (f1 g fa):=
 (ki hc hg hm boot_isinstance (aA ha (aA (pe_tyN (pos:=p2) hgT hmT hvT hn hd) aY hst2) (by rw [hst,hst2])) (by decide) (by decide) (by rw [hst,hst2]) hpl).imp fun σ H Q h=>by
  obtain ⟨F,ρ,r,s,q⟩:=rd_1 h;refine ⟨F,ρ,r,s,?_⟩
  cases e1:fa ρ with
  |error z=>rw [e1] at q;exact q
  |ok d=>rw [e1] at q;exact fun v F' H' st z=>⟨v,rfl,q v F' H' st z⟩
theorem BA (kit:Kit K) (hK:X.K=K:=by rfl):iq X (.builtin "isinstance") (fun xs H Q=>∃v,xs=[v,.ty "int"]/\rD1 K W own kz v H Q):=by
 subst hK;intro pins s σ H xs us Q I r h;obtain ⟨v,rfl,F,d,s1,q,p⟩:=h;obtain ⟨u,w,rfl,ru,rw'⟩:=r.two;cases (show w=Value.type "int" from rw');by_cases hi:(∃C fs,d=.ins C fs)\/(∃ks,d=.dic ks)\/∃ks,d=.dil ks
 ·rcases hi with ⟨C,fs,rfl⟩|⟨ks,rfl⟩|⟨ks,rfl⟩<;>exact aC.stuck p
 ·refine isi_D I s1 q ru kit.Ac kit.yJ kit.yG kit.vH kit.Ab kit.q9 (fun k tk hk=>⟨.bl k,H,I.tok tk,rfl,?_⟩) (fun C fs e=>hi (.inl ⟨C,fs,e⟩)) (fun ks e=>hi (.inr (.inl ⟨ks,e⟩))) (fun ks e=>hi (.inr (.inr ⟨ks,e⟩)));cases d<;>first|(have hk':k=_:=hk;subst hk';exact aC.bl (own:=own) p s1)|exact absurd (.inl ⟨_,_,rfl⟩) hi|exact absurd (.inr (.inl ⟨_,rfl⟩)) hi|exact absurd (.inr (.inr ⟨_,rfl⟩)) hi
theorem qY (kit:Kit K) (hm:X.mg "isinstance"=none) (hmT:X.mg "int"=none) (ha:DE K W false X a fa) (hK:X.K=K:=by rfl)
  (hg:Gl X "isinstance":=by rfl) (hgT:Gl X "int":=by rfl)
  (hst:starEach [a,.Name "int" p2] X.env=[(false,eval a X.env),(false,eval (.Name "int" p2) X.env)]:=by rfl) (hst2:starEach [.Name "int" p2] X.env=[(false,eval (.Name "int" p2) X.env)]:=by rfl) (hpl:(backTo pos (starEach [.Name "int" p2] X.env)).any (·.1)=false:=by rfl) :
  DE K W own X (.Call (.Name "isinstance" p) [a,.Name "int" p2] [] pos) (f1 kz fa):=xW (BA kit hK) hm hmT (by decide +kernel) ha hg hgT (by decide) (by decide) hst hst2 hpl
theorem zp (kit:Kit K) (hK:X.K=K:=by rfl):iq X (.builtin "isinstance") (fun xs H Q=>∃v,xs=[v,.ty "bool"]/\rD1 K W own iV v H Q):=by
 subst hK;intro pins s σ H xs us Q I r h;obtain ⟨v,rfl,F,d,s1,q,p⟩:=h;obtain ⟨u,w,rfl,ru,rw'⟩:=r.two;cases (show w=Value.type "bool" from rw');by_cases hi:(∃C fs,d=.ins C fs)\/(∃ks,d=.dic ks)\/∃ks,d=.dil ks
 ·rcases hi with ⟨C,fs,rfl⟩|⟨ks,rfl⟩|⟨ks,rfl⟩<;>exact aC.stuck p
 ·refine isi_D I s1 q ru kit.yI kit.vN kit.vK kit.u4 kit.yF kit.nQ (fun k tk hk=>⟨.bl k,H,I.tok tk,rfl,?_⟩) (fun C fs e=>hi (.inl ⟨C,fs,e⟩)) (fun ks e=>hi (.inr (.inl ⟨ks,e⟩))) (fun ks e=>hi (.inr (.inr ⟨ks,e⟩)));cases d<;>first|(have hk':k=_:=hk;subst hk';exact aC.bl (own:=own) p s1)|exact absurd (.inl ⟨_,_,rfl⟩) hi|exact absurd (.inr (.inl ⟨_,rfl⟩)) hi|exact absurd (.inr (.inr ⟨_,rfl⟩)) hi
theorem px (kit:Kit K) (hm:X.mg "isinstance"=none) (hmT:X.mg "bool"=none) (ha:DE K W false X a fa) (hK:X.K=K:=by rfl)
  (hg:Gl X "isinstance":=by rfl) (hgT:Gl X "bool":=by rfl)
  (hst:starEach [a,.Name "bool" p2] X.env=[(false,eval a X.env),(false,eval (.Name "bool" p2) X.env)]:=by rfl) (hst2:starEach [.Name "bool" p2] X.env=[(false,eval (.Name "bool" p2) X.env)]:=by rfl) (hpl:(backTo pos (starEach [.Name "bool" p2] X.env)).any (·.1)=false:=by rfl) :
  DE K W own X (.Call (.Name "isinstance" p) [a,.Name "bool" p2] [] pos) (f1 iV fa):=xW (zp kit hK) hm hmT (by decide +kernel) ha hg hgT (by decide) (by decide) hst hst2 hpl
theorem zo (kit:Kit K) (hK:X.K=K:=by rfl):iq X (.builtin "isinstance") (fun xs H Q=>∃v,xs=[v,.ty "list"]/\rD1 K W own iU v H Q):=by
 subst hK;intro pins s σ H xs us Q I r h;obtain ⟨v,rfl,F,d,s1,q,p⟩:=h;obtain ⟨u,w,rfl,ru,rw'⟩:=r.two;cases (show w=Value.type "list" from rw');by_cases hi:(∃C fs,d=.ins C fs)\/(∃ks,d=.dic ks)\/∃ks,d=.dil ks
 ·rcases hi with ⟨C,fs,rfl⟩|⟨ks,rfl⟩|⟨ks,rfl⟩<;>exact aC.stuck p
 ·refine isi_D I s1 q ru kit.yH kit.vM kit.vJ kit.u3 kit.yE kit.nP (fun k tk hk=>⟨.bl k,H,I.tok tk,rfl,?_⟩) (fun C fs e=>hi (.inl ⟨C,fs,e⟩)) (fun ks e=>hi (.inr (.inl ⟨ks,e⟩))) (fun ks e=>hi (.inr (.inr ⟨ks,e⟩)));cases d<;>first|(have hk':k=_:=hk;subst hk';exact aC.bl (own:=own) p s1)|exact absurd (.inl ⟨_,_,rfl⟩) hi|exact absurd (.inr (.inl ⟨_,rfl⟩)) hi|exact absurd (.inr (.inr ⟨_,rfl⟩)) hi
theorem pq (kit:Kit K) (hm:X.mg "isinstance"=none) (hmT:X.mg "list"=none) (ha:DE K W false X a fa) (hK:X.K=K:=by rfl)
  (hg:Gl X "isinstance":=by rfl) (hgT:Gl X "list":=by rfl)
  (hst:starEach [a,.Name "list" p2] X.env=[(false,eval a X.env),(false,eval (.Name "list" p2) X.env)]:=by rfl) (hst2:starEach [.Name "list" p2] X.env=[(false,eval (.Name "list" p2) X.env)]:=by rfl) (hpl:(backTo pos (starEach [.Name "list" p2] X.env)).any (·.1)=false:=by rfl) :
  DE K W own X (.Call (.Name "isinstance" p) [a,.Name "list" p2] [] pos) (f1 iU fa):=xW (zo kit hK) hm hmT (by decide +kernel) ha hg hgT (by decide) (by decide) hst hst2 hpl
theorem wO (kit:Kit K) (hK:X.K=K:=by rfl):iq X (.builtin "isinstance") (fun xs H Q=>∃v,xs=[v,.ty "tuple"]/\rD1 K W own jl v H Q):=by
 subst hK;intro pins s σ H xs us Q I r h;obtain ⟨v,rfl,F,d,s1,q,p⟩:=h;obtain ⟨u,w,rfl,ru,rw'⟩:=r.two;cases (show w=Value.type "tuple" from rw');by_cases hi:(∃C fs,d=.ins C fs)\/(∃ks,d=.dic ks)\/∃ks,d=.dil ks
 ·rcases hi with ⟨C,fs,rfl⟩|⟨ks,rfl⟩|⟨ks,rfl⟩<;>exact aC.stuck p
 ·refine isi_D I s1 q ru kit.vL kit.u6 kit.u5 kit.rQ kit.vI kit.mO (fun k tk hk=>⟨.bl k,H,I.tok tk,rfl,?_⟩) (fun C fs e=>hi (.inl ⟨C,fs,e⟩)) (fun ks e=>hi (.inr (.inl ⟨ks,e⟩))) (fun ks e=>hi (.inr (.inr ⟨ks,e⟩)));cases d<;>first|(have hk':k=_:=hk;subst hk';exact aC.bl (own:=own) p s1)|exact absurd (.inl ⟨_,_,rfl⟩) hi|exact absurd (.inr (.inl ⟨_,rfl⟩)) hi|exact absurd (.inr (.inr ⟨_,rfl⟩)) hi
theorem uM (kit:Kit K) (hm:X.mg "isinstance"=none) (hmT:X.mg "tuple"=none) (ha:DE K W false X a fa) (hK:X.K=K:=by rfl)
  (hg:Gl X "isinstance":=by rfl) (hgT:Gl X "tuple":=by rfl)
  (hst:starEach [a,.Name "tuple" p2] X.env=[(false,eval a X.env),(false,eval (.Name "tuple" p2) X.env)]:=by rfl) (hst2:starEach [.Name "tuple" p2] X.env=[(false,eval (.Name "tuple" p2) X.env)]:=by rfl) (hpl:(backTo pos (starEach [.Name "tuple" p2] X.env)).any (·.1)=false:=by rfl) :
  DE K W own X (.Call (.Name "isinstance" p) [a,.Name "tuple" p2] [] pos) (f1 jl fa):=xW (wO kit hK) hm hmT (by decide +kernel) ha hg hgT (by decide) (by decide) hst hst2 hpl
theorem Vals.of_get:∀{xs:List V} {us:List Value},xs.length=us.length->(∀(i:Nat) v u,xs[i]? =some v->us[i]? =some u->RelV v u)->Vals xs us
 |[],[],_,_=>.nil
 |[],_::_,h,_=>by simp at h
 |_::_,[],h,_=>by simp at h
 |x::xs,u::us,h,q=>.cons (q 0 x u rfl rfl) (Vals.of_get (by simpa using h) fun i v w h1 h2=>q (i+1) v w (by simpa using h1) (by simpa using h2))
end
section
variable {W:du}
noncomputable def zK (K:Fg) (i:Nat) (tk:TE):TE:=tBM K "list" A9 (bS i) (aX tk fU)
end
section
variable {t:Pos}
theorem pe_pop {tk:TE} (hk:PE X e tk) (hN:X.N[j]? =some y) (hv:Vis X.env.scope y) (hd:(y==("__debug__":Str))=false) (hcd:(y==("__classdict__":Str))=false)
  (hst:starEach [e] X.env=[(false,eval e X.env)]) (hbase:attributeBase (.Name y p) "pop" X.env (eval (.Name y p) X.env)=eval (.Name y p) X.env) (hfew:((backTo q (starEach [e] X.env)).all (fun x=> !x.1)&&(backToKw q (keywordEach [] X.env)).all (fun x=>x.1.isSome)&&decide ([e].length+([]:List Keyword).length+(if ([]:List Keyword).isEmpty then 0 else 1)<30))=true) (hplain:(backTo q (starEach [] X.env)).any (·.1)=false) (hline:(t.endLine==q.line)=true) :
  PE X (.Call (.Attribute (.Name y p) "pop" t) [e] [] q) (zK X.K j tk):=qc PySem.F.plainAttrs_list PySem.F.slot_list_pop PySem.F.type_list_pop xC (pv j hN hv hd hcd) (aA hk aY hst) hbase hfew hline hst hplain
end
section
theorem kO (hN:N'.Nodup) (h2:PGs (ba X N' sc L cs s H fp) es (gI is)) (hi:N'[i]? =some x:=by rfl) (hx:Loc (ba X N' sc L cs s H fp).env.scope x:=by first|exact Or.inl rfl|exact Or.inr rfl)
  (hf:(ba X N' sc L cs s H fp).fn x=true\/(ba X N' sc L cs s H fp).env.scope.names.lookup x=some .local:=by first|exact .inl rfl|exact .inr rfl|assumption)
  (hs:(assignEach (.Name x p::es) (ba X N' sc L cs s H fp).env).map (·.2)=assign (.Name x p) (ba X N' sc L cs s H fp).env::(assignEach es (ba X N' sc L cs s H fp).env).map (·.2):=by rfl):PGs (ba X N' sc L cs s H fp) (.Name x p::es) (gI (i::is)):=mX (pg_c hN hi hx hf) h2 hs
end
open PySem.W in
noncomputable def dA {α:Type} (lt:Nat->Nat->Bool):KasT α->α
 |.ret a=>a
 |.ask i j k=>dA lt (k (lt i j))
section
open PySem.W
variable {lt:Nat->Nat->Bool}
theorem gR (f:α->KasT β):∀t:KasT α,dA lt (t.bind f)=dA lt (f (dA lt t))
 |.ret _=>rfl
 |.ask i j k=>gR f (k (lt i j))
variable {key:Nat->Int} {p:Array Nat}
noncomputable def kAt (key:Nat->Int) (p:Array Nat) (i:Nat):Int:=key (p.getD i 0)
noncomputable def Up (key:Nat->Int) (p:Array Nat) (k:Nat):Prop:=∀i j,i<=j->j<k->kAt key p i<=kAt key p j
noncomputable def Down (key:Nat->Int) (p:Array Nat) (k:Nat):Prop:=∀i j,i<=j->j<k->kAt key p j<=kAt key p i
theorem iT {p q:Array Nat} (h:p[i]? =q[j]?):kAt key p i=kAt key q j:=by
 unfold kAt;rw [Array.getD_eq_getD_getElem?,Array.getD_eq_getD_getElem?,h]
theorem ou (hj:j<=p.size) (k:Nat):kAt key (kas_rev p i j) k=if i<=k/\k<j then kAt key p (i+j-1-k) else kAt key p k:=by
 have e:=getElem?_mirror_all (i:=i) hj k;unfold kas_rev;split
 ·rename_i h;rw [if_pos h] at e;exact iT e
 ·rename_i h;rw [if_neg h] at e;exact iT e
theorem kAt_bub {src d:Nat} (hs:src<p.size) (hd:d<=src) (k:Nat):kAt key (bubble p src d) k=if k=src-d then kAt key p src else if src-d<k/\k<=src then kAt key p (k-1) else kAt key p k:=by
 have e:=getElem?_bubble hs d hd k;split
 ·rename_i h;rw [if_pos h] at e;exact iT e
 ·rename_i h;rw [if_neg h] at e;split
  ·rename_i h2;rw [if_pos h2] at e;exact iT e
  ·rename_i h2;rw [if_neg h2] at e;exact iT e
theorem hI:(kas_rev p i j).size=p.size:=mirror_size _ _ _ _
theorem fj:(kas_rev p i j).Perm p:=mirror_perm _ _ _ _
noncomputable def ltK (key:Nat->Int) (i j:Nat):Bool:=decide (key i<key j)
theorem BE (p:Array Nat):∀(f n:Nat),1<=n->Up key p n->n<=dA (ltK key) (kas_asc p f n)/\dA (ltK key) (kas_asc p f n)<=n+f/\Up key p (dA (ltK key) (kas_asc p f n)) /\
  (dA (ltK key) (kas_asc p f n)<n+f->kAt key p (dA (ltK key) (kas_asc p f n))<kAt key p (dA (ltK key) (kas_asc p f n)-1))
 |0,n,h1,h=>⟨Nat.le_refl _,Nat.le_refl _,h,fun z=>absurd z (Nat.lt_irrefl _)⟩
 |f+1,n,h1,h=>by
  have e:dA (ltK key) (kas_asc p (f+1) n)=if kAt key p n<kAt key p (n-1) then n else dA (ltK key) (kas_asc p f (n+1)):=by
   show dA (ltK key) (if ltK key (p.getD n 0) (p.getD (n-1) 0)=true then KasT.ret n else kas_asc p f (n+1))=_;by_cases hc:kAt key p n<kAt key p (n-1)
   ·rw [if_pos (show ltK key (p.getD n 0) (p.getD (n-1) 0)=true from decide_eq_true hc),if_pos hc];rfl
   ·rw [if_neg (show ¬ltK key (p.getD n 0) (p.getD (n-1) 0)=true from fun z=>hc (of_decide_eq_true z)),if_neg hc]
  rw [e];by_cases hc:kAt key p n<kAt key p (n-1)
  ·rw [if_pos hc];exact ⟨Nat.le_refl _,by omega,h,fun _=>hc⟩
  ·rw [if_neg hc];obtain ⟨a1,a2,a3,a4⟩:=BE p f (n+1) (by omega) (fun i j hij hj=>by
    by_cases hjn:j<n
    ·exact h i j hij hjn
    ·have:j=n:=by omega
     subst this;by_cases hin:i=j
     ·rw [hin];exact Int.le_refl _
     ·have:=h i (j-1) (by omega) (by omega);omega)
   exact ⟨by omega,by omega,a3,fun z=>a4 (by omega)⟩
noncomputable def Alike (key:Nat->Int) (p:Array Nat) (n q:Nat):Prop:=∀i,n-(q+1)<=i->i<n->kAt key p i=kAt key p (n-1)
theorem BF:Alike key p (n+1) 0:=fun i h1 h2=>by rw [show i=n+1-1 by omega]
theorem tZ {q:Nat} (hn:n<=p.size) (ha:Alike key p n q) (hq:q+1<=n) (k:Nat):kAt key (kas_rev p (n-(q+1)) n) k=kAt key p k:=by
 rw [ou hn];split
 ·rename_i h;rw [ha _ (by omega) (by omega),ha k h.1 h.2]
 ·rfl
theorem sD:∀(f:Nat) (p:Array Nat) (n q:Nat),1<=n->q+1<=n->n+f<=p.size->Down key p n->Alike key p n q->∀p' n' q',dA (ltK key) (kas_desc f p n q)=(p',n',q') ->
  p'.Perm p/\p'.size=p.size/\n<=n'/\n'<=n+f/\q'+1<=n'/\Down key p' n'/\Alike key p' n' q'
 |0,p,n,q,h1,hq,hz,hd,ha,p',n',q',e=>by
  cases e;exact ⟨Array.Perm.refl _,rfl,Nat.le_refl _,Nat.le_refl _,hq,hd,ha⟩
 |f+1,p,n,q,h1,hq,hz,hd,ha,p',n',q',e=>by
  have e0:dA (ltK key) (kas_desc (f+1) p n q)=if kAt key p n<kAt key p (n-1) then (if q>0 then dA (ltK key) (kas_desc f (kas_rev p (n-(q+1)) n) (n+1) 0) else dA (ltK key) (kas_desc f p (n+1) 0))
    else if kAt key p (n-1)<kAt key p n then (p,n,q) else dA (ltK key) (kas_desc f p (n+1) (q+1)):=by
   show dA (ltK key) (if ltK key (p.getD n 0) (p.getD (n-1) 0)=true then (if q>0 then kas_desc f (kas_rev p (n-(q+1)) n) (n+1) 0 else kas_desc f p (n+1) 0)
    else KasT.ask (p.getD (n-1) 0) (p.getD n 0) fun d=>if d=true then .ret (p,n,q) else kas_desc f p (n+1) (q+1))=_
   by_cases hc:kAt key p n<kAt key p (n-1)
   ·rw [if_pos (show ltK key (p.getD n 0) (p.getD (n-1) 0)=true from decide_eq_true hc),if_pos hc];by_cases hq0:q>0
    ·rw [if_pos hq0,if_pos hq0]
    ·rw [if_neg hq0,if_neg hq0]
   ·rw [if_neg (show ¬ltK key (p.getD n 0) (p.getD (n-1) 0)=true from fun z=>hc (of_decide_eq_true z)),if_neg hc];show dA (ltK key) (if ltK key (p.getD (n-1) 0) (p.getD n 0)=true then KasT.ret (p,n,q) else kas_desc f p (n+1) (q+1))=_;by_cases hc2:kAt key p (n-1)<kAt key p n
    ·rw [if_pos (show ltK key (p.getD (n-1) 0) (p.getD n 0)=true from decide_eq_true hc2),if_pos hc2];rfl
    ·rw [if_neg (show ¬ltK key (p.getD (n-1) 0) (p.getD n 0)=true from fun z=>hc2 (of_decide_eq_true z)),if_neg hc2]
  rw [e0] at e;have down1:∀{r:Array Nat},(∀k,kAt key r k=kAt key p k)->kAt key p n<=kAt key p (n-1)->Down key r (n+1):=fun {r} hr hle i j hij hj=>by
   rw [hr,hr];by_cases hjn:j<n
   ·exact hd i j hij hjn
   ·have:j=n:=by omega
    subst this;by_cases hin:i=j
    ·rw [hin];exact Int.le_refl _
    ·have:=hd i (j-1) (by omega) (by omega);omega
  by_cases hc:kAt key p n<kAt key p (n-1)
  ·rw [if_pos hc] at e;by_cases hq0:q>0
   ·rw [if_pos hq0] at e;have hr:=tZ (key:=key) (p:=p) (n:=n) (q:=q) (by omega) ha hq;obtain ⟨b1,b2,b3,b4,b5,b6,b7⟩:=sD f _ (n+1) 0 (by omega) (by omega) (by rw [hI];omega) (down1 hr (by omega)) BF p' n' q' e;exact ⟨b1.trans fj,by rw [b2,hI],by omega,by omega,b5,b6,b7⟩
   ·rw [if_neg hq0] at e;obtain ⟨b1,b2,b3,b4,b5,b6,b7⟩:=sD f _ (n+1) 0 (by omega) (by omega) (by omega) (down1 (fun _=>rfl) (by omega)) BF p' n' q' e;exact ⟨b1,b2,by omega,by omega,b5,b6,b7⟩
  ·rw [if_neg hc] at e;by_cases hc2:kAt key p (n-1)<kAt key p n
   ·rw [if_pos hc2] at e;cases e;exact ⟨Array.Perm.refl _,rfl,Nat.le_refl _,by omega,hq,hd,ha⟩
   ·rw [if_neg hc2] at e;obtain ⟨b1,b2,b3,b4,b5,b6,b7⟩:=sD f _ (n+1) (q+1) (by omega) (by omega) (by omega) (down1 (fun _=>rfl) (by omega)) (fun i h1 h2=>by
     show kAt key p i=kAt key p (n+1-1);rw [Nat.add_sub_cancel];by_cases hin:i=n
     ·rw [hin]
     ·have:=ha i (by omega) (by omega);omega) p' n' q' e
    exact ⟨b1,b2,by omega,by omega,b5,b6,b7⟩
theorem xb (h1:1<=n) (hn:n<=nrem) (hz:nrem<=p.size) (hd:Down key p n):∀m p',dA (ltK key) (kas_tail3 n nrem p)=(m,p')->p'.Perm p/\p'.size=p.size/\1<=m/\m<=nrem/\Up key p' m:=by
 intro m p' e;unfold kas_tail3 at e;rw [gR] at e;cases e;have hu:Up key (kas_rev p 0 n) n:=fun i j hij hj=>by
  rw [ou (by omega),ou (by omega),if_pos ⟨Nat.zero_le _,by omega⟩,if_pos ⟨Nat.zero_le _,by omega⟩];exact hd _ _ (by omega) (by omega)
 obtain ⟨a1,a2,a3,_⟩:=BE (key:=key) (kas_rev p 0 n) (nrem-n) n h1 hu;exact ⟨fj,hI,by omega,by omega,a3⟩
theorem ph (h1:1<=n) (hn:n+1<=nrem) (hz:nrem<=p.size) (hall:∀i,i<n->kAt key p i=kAt key p (n-1)) (hlt:kAt key p n<kAt key p (n-1)):∀m p',dA (ltK key) (kas_descPart n nrem p)=(m,p')->p'.Perm p/\p'.size=p.size/\1<=m/\m<=nrem/\Up key p' m:=by
 intro m p' e;unfold kas_descPart at e;rw [gR] at e;obtain ⟨r,n2,q2⟩:∃r n2 q2,dA (ltK key) (kas_desc (nrem-(n+1)) p (n+1) 0)=(r,n2,q2):=⟨_,_,_,rfl⟩
 obtain ⟨q2,er⟩:=q2;rw [er] at e;obtain ⟨b1,b2,b3,b4,b5,b6,b7⟩:=sD (key:=key) (nrem-(n+1)) p (n+1) 0 (by omega) (by omega) (by omega) (fun i j hij hj=>by
  by_cases hjn:j<n
  ·rw [hall i (by omega),hall j hjn];exact Int.le_refl _
  ·have:j=n:=by omega
   subst this;by_cases hin:i=j
   ·rw [hin];exact Int.le_refl _
   ·rw [hall i (by omega)];omega) BF r n2 q2 er
 by_cases hq:q2>0
 ·simp only [if_pos hq] at e;have hr:=tZ (key:=key) (p:=r) (n:=n2) (q:=q2) (by omega) b7 b5;obtain ⟨c1,c2,c3,c4,c5⟩:=xb (key:=key) (p:=kas_rev r (n2-(q2+1)) n2) (n:=n2) (nrem:=nrem) (by omega) (by omega) (by rw [hI];omega) (fun i j hij hj=>by rw [hr,hr];exact b6 i j hij hj) m p' e;exact ⟨c1.trans (fj.trans b1),by rw [c2,hI,b2],c3,c4,c5⟩
 ·simp only [if_neg hq] at e;obtain ⟨c1,c2,c3,c4,c5⟩:=xb (key:=key) (p:=r) (n:=n2) (nrem:=nrem) (by omega) (by omega) (by omega) b6 m p' e;exact ⟨c1.trans b1,by rw [c2,b2],c3,c4,c5⟩
theorem count_ok (h1:1<=nrem) (hz:nrem<=p.size):∀m p',dA (ltK key) (kas_count nrem p)=(m,p')->p'.Perm p/\p'.size=p.size/\1<=m/\m<=nrem/\Up key p' m:=by
 intro m p' e;unfold kas_count at e;rw [gR] at e;obtain ⟨a1,a2,a3,a4⟩:=BE (key:=key) p (nrem-1) 1 (Nat.le_refl _) (fun i j hij hj=>by rw [show i=j by omega];exact Int.le_refl _);obtain ⟨n,en⟩:∃n,dA (ltK key) (kas_asc p (nrem-1) 1)=n:=⟨_,rfl⟩
 rw [en] at e a1 a2 a3 a4;by_cases hn:(n==nrem)=true
 ·simp only [if_pos hn] at e;cases e;exact ⟨Array.Perm.refl _,rfl,a1,by omega,a3⟩
 ·simp only [if_neg hn] at e;have hn':n≠nrem:=fun z=>hn (by simp [z]);have hlt:=a4 (by omega);by_cases h2:n>1
  ·simp only [if_pos h2] at e;have e':dA (ltK key) (if ltK key (p.getD 0 0) (p.getD (n-1) 0)=true then KasT.ret (n,p) else kas_descPart n nrem (kas_rev p 0 n))=(m,p'):=e;by_cases hc:kAt key p 0<kAt key p (n-1)
   ·rw [if_pos (show ltK key (p.getD 0 0) (p.getD (n-1) 0)=true from decide_eq_true hc)] at e';cases e';exact ⟨Array.Perm.refl _,rfl,a1,by omega,a3⟩
   ·rw [if_neg (show ¬ltK key (p.getD 0 0) (p.getD (n-1) 0)=true from fun z=>hc (of_decide_eq_true z))] at e';have all:∀i,i<n->kAt key p i=kAt key p (n-1):=fun i hi=>by
     have x1:=a3 0 i (by omega) hi;have x2:=a3 i (n-1) (by omega) (by omega);omega
    have hr:∀i,i<n->kAt key (kas_rev p 0 n) i=kAt key p (n-1):=fun i hi=>by
     rw [ou (by omega),if_pos ⟨Nat.zero_le _,hi⟩];exact all _ (by omega)
    obtain ⟨c1,c2,c3,c4,c5⟩:=ph (key:=key) (p:=kas_rev p 0 n) (n:=n) (nrem:=nrem) a1 (by omega) (by rw [hI];omega) (fun i hi=>by rw [hr i hi,hr (n-1) (by omega)]) (by
     rw [hr (n-1) (by omega),ou (by omega),if_neg (by omega)];exact hlt) m p' e'
    exact ⟨c1.trans fj,by rw [c2,hI],c3,c4,c5⟩
  ·simp only [if_neg h2] at e;have:n=1:=by omega
   subst this;exact ph (key:=key) (Nat.le_refl _) (by omega) hz (fun i hi=>by rw [show i=1-1 by omega]) hlt m p' e
theorem rU {k:Nat} (hu:Up key p k):∀(f l r:Nat),r<=k->r-l<=f->l<=r->(∀i,i<l->kAt key p i<=kAt key p k)->(∀i,r<=i->i<k->kAt key p k<kAt key p i) ->
  dA (ltK key) (kas_place p k f l r)<=k/\(∀i,i<dA (ltK key) (kas_place p k f l r)->kAt key p i<=kAt key p k)/\∀i,dA (ltK key) (kas_place p k f l r)<=i->i<k->kAt key p k<kAt key p i
 |0,l,r,hr,hf,hlr,h1,h2=>by
  have:l=r:=by omega
  subst this;exact ⟨hr,h1,h2⟩
 |f+1,l,r,hr,hf,hlr,h1,h2=>by
  by_cases hge:l>=r
  ·have:l=r:=by omega
   subst this;have e:dA (ltK key) (kas_place p k (f+1) l l)=l:=by
    show dA (ltK key) (if l>=l then KasT.ret l else _)=l;rw [if_pos hge];rfl
   rw [e];exact ⟨hr,h1,h2⟩
  ·have e:dA (ltK key) (kas_place p k (f+1) l r)=if kAt key p k<kAt key p ((l+r)/2) then dA (ltK key) (kas_place p k f l ((l+r)/2)) else dA (ltK key) (kas_place p k f ((l+r)/2+1) r):=by
    show dA (ltK key) (if l>=r then KasT.ret l else .ask (p.getD k 0) (p.getD ((l+r)/2) 0) fun c=>if c=true then kas_place p k f l ((l+r)/2) else kas_place p k f ((l+r)/2+1) r)=_;rw [if_neg hge];show dA (ltK key) (if ltK key (p.getD k 0) (p.getD ((l+r)/2) 0)=true then kas_place p k f l ((l+r)/2) else kas_place p k f ((l+r)/2+1) r)=_;by_cases hc:kAt key p k<kAt key p ((l+r)/2)
    ·rw [if_pos (show ltK key (p.getD k 0) (p.getD ((l+r)/2) 0)=true from decide_eq_true hc),if_pos hc]
    ·rw [if_neg (show ¬ltK key (p.getD k 0) (p.getD ((l+r)/2) 0)=true from fun z=>hc (of_decide_eq_true z)),if_neg hc]
   rw [e];by_cases hc:kAt key p k<kAt key p ((l+r)/2)
   ·rw [if_pos hc];exact rU hu f l ((l+r)/2) (by omega) (by omega) (by omega) h1 fun i hi hik=>by
     have:=hu ((l+r)/2) i hi hik;omega
   ·rw [if_neg hc];exact rU hu f ((l+r)/2+1) r hr (by omega) (by omega) (fun i hi=>by
     have:=hu i ((l+r)/2) (by omega) (by omega);omega) h2
theorem bin_ok:∀(f:Nat) (p:Array Nat) (k:Nat),k+f<=p.size->Up key p k->(dA (ltK key) (kas_bin f p k)).Perm p/\Up key (dA (ltK key) (kas_bin f p k)) (k+f)
 |0,p,k,hz,hu=>⟨Array.Perm.refl _,hu⟩
 |f+1,p,k,hz,hu=>by
  have e:dA (ltK key) (kas_bin (f+1) p k)=dA (ltK key) (kas_bin f (bubble p k (k-dA (ltK key) (kas_place p k k 0 k))) (k+1)):=by
   show dA (ltK key) ((kas_place p k k 0 k).bind fun l=>kas_bin f (bubble p k (k-l)) (k+1))=_;rw [gR]
  rw [e];obtain ⟨a1,a2,a3⟩:=rU hu k 0 k (Nat.le_refl _) (by omega) (Nat.zero_le _) (fun i hi=>absurd hi (Nat.not_lt_zero _)) (fun i h1 h2=>by omega);obtain ⟨l,el⟩:∃l,dA (ltK key) (kas_place p k k 0 k)=l:=⟨_,rfl⟩
  rw [el] at a1 a2 a3 ⊢;have hb:=kAt_bub (key:=key) (p:=p) (src:=k) (d:=k-l) (by omega) (by omega);obtain ⟨c1,c2⟩:=bin_ok f (bubble p k (k-l)) (k+1) (by rw [bubble_size];omega) (fun i j hij hj=>by
   have e1:k-(k-l)=l:=by omega
   rw [hb,hb,e1];by_cases hi:i=l
   ·rw [if_pos hi];by_cases hj2:j=l
    ·rw [if_pos hj2];exact Int.le_refl _
    ·rw [if_neg hj2,if_pos (by omega)];have:=a3 (j-1) (by omega) (by omega);omega
   ·rw [if_neg hi];by_cases hj2:j=l
    ·rw [if_pos hj2,if_neg (by omega)];exact a2 i (by omega)
    ·rw [if_neg hj2];by_cases hi2:l<i/\i<=k
     ·rw [if_pos hi2,if_pos (by omega)];exact hu _ _ (by omega) (by omega)
     ·rw [if_neg hi2];by_cases hj3:l<j/\j<=k
      ·rw [if_pos hj3];exact hu _ _ (by omega) (by omega)
      ·rw [if_neg hj3];exact hu _ _ (by omega) (by omega))
  exact ⟨c1.trans (bubble_perm _ _ _),by rw [show k+(f+1)=k+1+f by omega];exact c2⟩
theorem vn (h1:1<=n):(dA (ltK key) (kas_sort n)).toList.Perm (List.range n)/\Up key (dA (ltK key) (kas_sort n)) n:=by
 unfold kas_sort;rw [gR];obtain ⟨m,p',er⟩:∃m p',dA (ltK key) (kas_count n (List.toArray (List.range n)))=(m,p'):=⟨_,_,rfl⟩
 rw [er];obtain ⟨b1,b2,b3,b4,b5⟩:=count_ok (key:=key) (p:=List.toArray (List.range n)) h1 (by simp) m p' er;have hsz:p'.size=n:=by rw [b2];simp
 by_cases hm:m<n
 ·simp only [if_pos hm];have em:max m 1=m:=by omega
  rw [em];obtain ⟨c1,c2⟩:=bin_ok (key:=key) (n-m) p' m (by omega) b5;refine ⟨?_,by rw [show m+(n-m)=n by omega] at c2;exact c2⟩
  have:=Array.perm_iff_toList_perm.mp (c1.trans b1);simpa using this
 ·simp only [if_neg hm];have:m=n:=by omega
  subst this;refine ⟨?_,b5⟩
  have:=Array.perm_iff_toList_perm.mp b1;show p'.toList.Perm _;simpa using this
end
section
open PySem.W
noncomputable def yh (n:Nat) (R:α->Prop):KasT α->Prop
 |.ret a=>R a
 |.ask i j k=>i<n/\j<n/\∀b,yh n R (k b)
theorem gY {R:α->Prop} {S:β->Prop} {f:α->KasT β} (hf:∀a,R a->yh n S (f a)):∀t:KasT α,yh n R t->yh n S (t.bind f)
 |.ret a,h=>hf a h
 |.ask i j k,h=>⟨h.1,h.2.1,fun b=>gY hf (k b) (h.2.2 b)⟩
theorem qJ {lt:Nat->Nat->Bool} {R:α->Prop} {cmp:Nat->Nat->(Bool->Shared->Prop)->Shared->Prop} {s:Shared} (ha:∀i j (C:Bool->Shared->Prop),i<n->j<n->C (lt i j) s->cmp i j C s) {Q:α->Shared->Prop}:∀t:KasT α,yh n R t->Q (dA lt t) s->t.kasWp cmp Q s
 |.ret _,_,h=>h
 |.ask i j k,r,h=>ha i j _ r.1 r.2.1 (qJ ha (k (lt i j)) (r.2.2 _) h)
noncomputable def InB (n:Nat) (p:Array Nat):Prop:=∀x,p.getD x 0<n
theorem jm {p q:Array Nat} (h0:0<n) (hp:InB n p) (h:q.Perm p):InB n q:=fun x=>by
 rw [Array.getD_eq_getD_getElem?];cases e:q[x]? with
 |none=>exact h0
 |some v=>
  have hv:v∈q.toList:=by
   rw [<- Array.getElem?_toList] at e;exact List.mem_of_getElem? e
  have hv2:v∈p.toList:=(Array.perm_iff_toList_perm.mp h).mem_iff.mp hv;obtain ⟨y,hy,ey⟩:=List.getElem_of_mem hv2;have:=hp y;rw [Array.getD_eq_getD_getElem?,<- Array.getElem?_toList,List.getElem?_eq_getElem hy,ey] at this;exact this
variable {p:Array Nat}
theorem sS (hp:InB n p):∀f m,yh n (fun _=>True) (kas_asc p f m)
 |0,_=>trivial
 |f+1,m=>⟨hp _,hp _,fun b=>by
  (try dsimp only)
  split
  ·trivial
  ·exact sS hp f (m+1)⟩
theorem l9 (h0:0<n):∀(f:Nat) (p:Array Nat) (m q:Nat),InB n p->yh n (fun r=>InB n r.1) (kas_desc f p m q)
 |0,p,_,_,hp=>hp
 |f+1,p,m,q,hp=>⟨hp _,hp _,fun b=>by
  (try dsimp only)
  split
  ·split
   ·exact l9 h0 f _ _ _ (jm h0 hp fj)
   ·exact l9 h0 f _ _ _ hp
  ·refine ⟨hp _,hp _,fun c=>?_⟩
   (try dsimp only)
   split
   ·exact hp
   ·exact l9 h0 f _ _ _ hp⟩
theorem rn (h0:0<n) (hp:InB n p) (m r:Nat):yh n (fun r=>InB n r.2) (kas_tail3 m r p):=by
 unfold kas_tail3;refine gY (n:=n) (R:=fun _=>True) (f:=fun k=>KasT.ret (k,kas_rev p 0 m)) (fun a _=>?_) _ (sS (jm h0 hp fj) _ _);exact jm h0 hp fj
theorem l7 (h0:0<n) (hp:InB n p) (m r:Nat):yh n (fun r=>InB n r.2) (kas_descPart m r p):=by
 refine gY (R:=fun r=>InB n r.1) (fun a ha=>?_) _ (l9 h0 _ _ _ _ hp)
 (try dsimp only)
 split
 ·exact rn h0 (jm h0 ha fj) _ _
 ·exact rn h0 ha _ _
theorem zr (h0:0<n) (hp:InB n p) (r:Nat):yh n (fun r=>InB n r.2) (kas_count r p):=by
 refine gY (R:=fun _=>True) (fun a _=>?_) _ (sS hp _ _)
 (try dsimp only)
 split
 ·exact hp
 ·split
  ·refine ⟨hp _,hp _,fun b=>?_⟩
   (try dsimp only)
   split
   ·exact hp
   ·exact l7 h0 (jm h0 hp fj) _ _
  ·exact l7 h0 hp _ _
theorem md (hp:InB n p) (k:Nat):∀f l r,yh n (fun _=>True) (kas_place p k f l r)
 |0,_,_=>trivial
 |f+1,l,r=>by
  show yh n (fun _=>True) (if l>=r then KasT.ret l else _);split
  ·trivial
  ·refine ⟨hp _,hp _,fun b=>?_⟩
   (try dsimp only)
   split
   ·exact md hp k f _ _
   ·exact md hp k f _ _
theorem yg (h0:0<n):∀(f:Nat) (p:Array Nat) (k:Nat),InB n p->yh n (fun _=>True) (kas_bin f p k)
 |0,_,_,_=>trivial
 |f+1,p,k,hp=>gY (R:=fun _=>True) (fun l _=>yg h0 f _ _ (jm h0 hp (bubble_perm _ _ _))) _ (md hp k _ _ _)
theorem BD (h0:0<n):yh n (fun _=>True) (kas_sort n):=by
 refine gY (R:=fun r=>InB n r.2) (fun a ha=>?_) _ (zr h0 (fun x=>?_) _)
 ·(try dsimp only)
  split
  ·exact yg h0 _ _ _ ha
  ·trivial
 ·rw [Array.getD_eq_getD_getElem?];simp only [List.getElem?_toArray];cases e:(List.range n)[x]? with
  |none=>exact h0
  |some v=>exact List.mem_range.mp (List.mem_of_getElem? e)
end
section
open PySem.W
variable {E:Vp} {key:Nat->Int}
noncomputable def lI (key:Nat->Int) (vs:List Value):List Value:=if vs.length<2 then vs else (dA (ltK key) (kas_sort vs.length)).toList.map fun i=>vs.getD i Value.none
noncomputable def Asks (prog:Program) (w:World) (A:Around) (key:Nat->Int) (vs:List Value) (s':Shared):Prop:=
 wpAny (model prog w) A (keyKind' vs.toArray) (fun κ s2=>s2=s'/\∀i j (C:Bool->Shared->Prop),i<vs.length->j<vs.length->C (ltK key i j) s'->kas_ask prog w A κ vs i j C s') (fun _ _=>False) s'
theorem AD {vs:List Value} {P:PySem.Fin->Shared->Prop} (ho:s.heap.get? a=some (seqObj "list" vs.toArray n)) (h64:vs.length<64)
  (hk:2<=vs.length->∀h1:Heap,(∀b o,b≠a->s.heap.get? b=some o->h1.get? b=some o)->Asks prog w A key vs {s with heap:=h1})
  (h:∀(h':Heap) (c:Nat),(∀b o,b≠a->s.heap.get? b=some o->h'.get? b=some o)->h'.get? a=some (seqObj "list" (lI key vs).toArray c)->P (.done (.ret .none)) {s with heap:=h'}) :
  wpAny (model prog w) A (Builtin.«list.sort» ⟨[.ref a],[]⟩) P E s:=by
 have hlt:a<s.heap.objs.size:=Heap.lt_size ho;have hline:=sizeLine_eq;obtain ⟨e1,ho1⟩:∃e1,(s.heap.update a (Obj.mapSeq fun _=>(#[]:Array Value))).get? a=some (seqObj "list" #[] e1):=⟨_,get?_update_seq ho fun _=>#[]⟩
 rw [list_sort_plain];refine wpAny_bind (listItems_at ho rfl (wpAny_bind (listUpdate_at ho rfl (wpAny_bind (seqEpoch_at ho1 rfl (wpAny_bind (wpAny_newTuple (wpAny_bind (wpAny_newList (wpAny_holding ?_) (Nat.zero_le _))) (by show vs.length<=_;omega))))) (by rw [List.size_toArray];omega) (Nat.zero_le _))));have hkeep:∀b o,b≠a->s.heap.get? b=some o->(((s.heap.update a (Obj.mapSeq fun _=>(#[]:Array Value))).push (seqObj "tuple" vs.toArray 0)).push (seqObj "list" #[] 0)).get? b=some o:=fun b o hb q=>
  Heap.get?_push_of_some _ (Heap.get?_push_of_some _ ((Heap.get?_update_other _ _ (Ne.symm hb)).trans q))
 have ho6:(((s.heap.update a (Obj.mapSeq fun _=>(#[]:Array Value))).push (seqObj "tuple" vs.toArray 0)).push (seqObj "list" #[] 0)).get? a=some (seqObj "list" #[] e1):=Heap.get?_push_of_some _ (Heap.get?_push_of_some _ ho1);show wpAny (model prog w) A _ P E {s with heap:=((s.heap.update a (Obj.mapSeq fun _=>(#[]:Array Value))).push (seqObj "tuple" vs.toArray 0)).push (seqObj "list" #[] 0)};dsimp only;have fin:∀(out:List Value),out=lI key vs->P (.done (.ret .none)) {s with heap:=(((s.heap.update a (Obj.mapSeq fun _=>(#[]:Array Value))).push (seqObj "tuple" vs.toArray 0)).push (seqObj "list" #[] 0)).update a (Obj.mapSeq fun _=>out.toArray)}:=fun out eo=>by
  subst eo;exact h _ _ (fun b o hb q=>(Heap.get?_update_other _ _ (Ne.symm hb)).trans (hkeep b o hb q)) (get?_update_seq ho6 fun _=>(lI key vs).toArray)
 by_cases h2:vs.toArray.size<2
 ·rw [if_pos h2,if_pos h2];refine wpAny_bind (wpAny_pure ?_);rw [StateT.run_pure];refine wpAny_bind (wpAny_pure ?_);dsimp only;have h2':vs.length<2:=by simpa using h2
  have eo:(arrOf (SortSt.mk' general' (vs.toArray.zip vs.toArray) #[] 7 none)).map (·.2)=vs.toArray:=by
   show (vs.toArray.zip vs.toArray).map (·.2)=vs.toArray;apply Array.toList_inj.mp;simp only [Array.toList_map,Array.toList_zip];exact List.map_snd_zip (Nat.le_refl _)
  rw [eo];refine wpAny_bind (seqEpoch_at ho6 rfl (wpAny_bind (listUpdate_at ho6 rfl ?_ (Nat.zero_le _) (by show vs.length<=_;omega))));have e3:failedOf (SortSt.mk' general' (vs.toArray.zip vs.toArray) #[] 7 none)=none:=rfl;simp only [e3,bne_self_eq_false,Bool.false_eq_true,if_false];exact wpAny_pure (fin vs (by unfold lI;rw [if_pos h2']))
 ·rw [if_neg h2,if_neg h2];have h2':2<=vs.length:=by rw [List.size_toArray] at h2;omega
  refine wpAny_bind (wpAny_mono (hk h2' _ hkeep) (fun κ s0 ⟨es,ask⟩=>?_) fun _ _ x=>x.elim);subst es;refine wpAny_bind (wpAny_mono (kat_run (ks:=vs) (vs:=vs) (Q:=fun st' s'=>s'={s with heap:=((s.heap.update a (Obj.mapSeq fun _=>(#[]:Array Value))).push (seqObj "tuple" vs.toArray 0)).push (seqObj "list" #[] 0)}/\(arrOf st').map (·.2)=(lI key vs).toArray/\failedOf st'=none)
   (G:=fun p s'=>s'={s with heap:=((s.heap.update a (Obj.mapSeq fun _=>(#[]:Array Value))).push (seqObj "tuple" vs.toArray 0)).push (seqObj "list" #[] 0)}/\p=dA (ltK key) (kas_sort vs.length)) rfl h2' h64 (fun p st' s' _ har hf hg=>⟨hg.1,?_,hf⟩) (qJ (n:=vs.length) (R:=fun _=>True) (fun i j C hi hj hc=>ask i j C hi hj hc) _ (BD (by omega)) ⟨rfl,rfl⟩)) (fun r s' hr=>?_) fun _ _ x=>x)
  ·rw [kat_snds rfl har,hg.2];unfold lI;rw [if_neg (by omega)]
  ·obtain ⟨⟨⟩,st'⟩:=r;obtain ⟨es,eo,ef⟩:=hr;have es:s'=_:=es;subst es;have eo:(arrOf st').map (·.2)=(lI key vs).toArray:=eo;have ef:failedOf st'=none:=ef;dsimp only;rw [eo];have hol:(lI key vs).length=vs.length:=by
    unfold lI;split
    ·rfl
    ·rw [List.length_map,(vn (key:=key) (n:=vs.length) (by omega)).1.length_eq,List.length_range]
   refine wpAny_bind (seqEpoch_at ho6 rfl (wpAny_bind (listUpdate_at ho6 rfl ?_ (Nat.zero_le _) (by show (lI key vs).length<=_;omega))));simp only [ef,bne_self_eq_false,Bool.false_eq_true,if_false];exact wpAny_pure (fin _ rfl)
theorem yr {vs:List Value} {Q:Vp} (hl:s.heap.IsList l vs.toArray) (h64:vs.length<64)
  (hk:2<=vs.length->∀h1:Heap,(∀b o,s.heap.get? b=some o->h1.get? b=some o)->Asks prog w A.in1.in1 key vs {s with heap:=h1})
  (h:∀(h':Heap) (D:Addr) (c:Nat),s.heap.objs.size<=D->(∀b o,s.heap.get? b=some o->h'.get? b=some o)->h'.get? D=some (seqObj "list" (lI key vs).toArray c)->Q (.ref D) {s with heap:=h'}) :
  wpAny (model prog w) A (call (.builtin "sorted") [.ref l]) Q E s:=by
 have hline:=sizeLine_eq;refine Calls.call_function_entry kind_sorted plain_sorted entry_sorted (args_sorted1 _) ?_;unfold Builtin.«sorted»;refine wpAny_bind (m:=checkCount "sorted" 1 1 _) (wpAny_pure (wpAny_bind (collect_list hl (wpAny_bind (wpAny_newList ?_ (by omega))) (by omega))));have hz:((s.heap.push (seqObj "list" #[] 0)).update s.heap.objs.size (Obj.mapSeq (·++vs.toArray))).objs.size=s.heap.objs.size+1:=by rw [Heap.size_update,size_push']
 have hD:(((s.heap.push (seqObj "list" #[] 0)).update s.heap.objs.size (Obj.mapSeq (·++vs.toArray))).push (seqObj "list" vs.toArray 0)).get? (s.heap.objs.size+1)=some (seqObj "list" vs.toArray 0):=by rw [<- hz];exact Heap.get?_push_size _ rfl
 have hkeep:∀b o,s.heap.get? b=some o->(((s.heap.push (seqObj "list" #[] 0)).update s.heap.objs.size (Obj.mapSeq (·++vs.toArray))).push (seqObj "list" vs.toArray 0)).get? b=some o:=fun b o q=>
  Heap.get?_push_of_some _ ((Heap.get?_update_other _ _ (Nat.ne_of_gt (Heap.lt_size q))).trans (Heap.get?_push_of_some _ q))
 show wpAny _ _ _ _ _ {s with heap:=((s.heap.push (seqObj "list" #[] 0)).update s.heap.objs.size (Obj.mapSeq (·++vs.toArray))).push (seqObj "list" vs.toArray 0)};rw [hz];have hnD:∀b o,s.heap.get? b=some o->b≠s.heap.objs.size+1:=fun b o q=>Nat.ne_of_lt (Nat.lt_succ_of_lt (Heap.lt_size q));refine wpAny_bind (wpAny_holding (wpAny_call_entry slot_list_sort ⟨_,hD,rfl⟩ entry_list_sort (AD hD h64 (fun h2 h1 hk1=>hk h2 h1 fun b o q=>hk1 b o (hnD b o q) (hkeep b o q)) fun h' c k' e'=>⟨_,rfl,?_⟩) (args_list_sort _)));exact wpAny_pure ⟨_,rfl,h h' _ c (Nat.le_succ _) (fun b o q=>k' b o (hnD b o q) (hkeep b o q)) e'⟩
end
noncomputable def insL {α:Type} (lt:α->α->Bool) (x:α):List α->List α
 |[]=>[x]
 |y::ys=>if lt y x=true then y::insL lt x ys else x::y::ys
noncomputable def lN {α:Type} (lt:α->α->Bool):List α->List α
 |[]=>[]
 |x::xs=>insL lt x (lN lt xs)
noncomputable def ltZ (a b:Int):Bool:=decide (a<b)
noncomputable def sr:List Int->List Int->Bool
 |[],[]=>false
 |[],_::_=>true
 |_::_,[]=>false
 |a::as,b::bs=>if a=b then sr as bs else decide (a<b)
noncomputable def nA (t:List Int):Dat:=.tup (t.map .int)
noncomputable def tupD:Dat->M (List Int)
 |.tup ds=>gv ds
 |_=>stk
noncomputable def k8:List Dat->M (List (List Int))
 |[]=>.ok []
 |d::ds=>(tupD d).bind fun t=>(k8 ds).bind fun r=>.ok (t::r)
noncomputable def tF (ds:List Dat):M Dat:=if ds.length<64 then (match gv ds with
 |.ok is=>.ok (.lst ((lN ltZ is).map .int))
 |.error _=>(k8 ds).bind fun ts=>if (ts.all fun t=> !t.isEmpty)=true then .ok (.lst ((lN sr ts).map nA)) else stk) else stk
noncomputable def lu:List Dat->M Dat
 |[.lst ds]=>tF ds
 |_=>stk
section
variable {lt:α->α->Bool}
structure Ord (lt:α->α->Bool):Prop where
 irr:∀a,lt a a=false
 tr:∀a b c,lt a b=true->lt b c=true->lt a c=true
 tot:∀a b,lt a b=false->lt b a=false->a=b
theorem ordZ:Ord ltZ:=⟨fun a=>by simp [ltZ],fun a b c h1 h2=>by simp [ltZ] at *;omega,fun a b h1 h2=>by simp [ltZ] at *;omega⟩
theorem ordLex:Ord sr:=by
 refine ⟨fun a=>?_,fun a b c=>?_,fun a b=>?_⟩
 ·induction a with
  |nil=>rfl
  |cons x xs ih=>simp [sr,ih]
 ·induction a generalizing b c with
  |nil=>
   cases b with
   |nil=>intro h;simp [sr] at h
   |cons y ys=>
    intro _ h2;cases c with
    |nil=>simp [sr] at h2
    |cons z zs=>rfl
  |cons x xs ih=>
   intro h1 h2;cases b with
   |nil=>simp [sr] at h1
   |cons y ys=>
    cases c with
    |nil=>simp [sr] at h2
    |cons z zs=>
     simp only [sr] at h1 h2 ⊢;by_cases e1:x=y
     ·subst e1;rw [if_pos rfl] at h1;by_cases e2:x=z
      ·rw [if_pos e2] at h2 ⊢;exact ih _ _ h1 h2
      ·rw [if_neg e2] at h2 ⊢;exact h2
     ·rw [if_neg e1] at h1;have h1':x<y:=of_decide_eq_true h1;by_cases e2:y=z
      ·subst e2;rw [if_neg e1];exact h1
      ·rw [if_neg e2] at h2;have h2':y<z:=of_decide_eq_true h2;rw [if_neg (by omega)];exact decide_eq_true (by omega)
 ·induction a generalizing b with
  |nil=>
   cases b with
   |nil=>intros;rfl
   |cons y ys=>intro h;simp [sr] at h
  |cons x xs ih=>
   cases b with
   |nil=>intro _ h;simp [sr] at h
   |cons y ys=>
    intro h1 h2;simp only [sr] at h1 h2;by_cases e1:x=y
    ·subst e1;rw [if_pos rfl] at h1 h2;rw [ih _ h1 h2]
    ·rw [if_neg e1] at h1;rw [if_neg (fun z=>e1 z.symm)] at h2;have h1':=of_decide_eq_false h1;have h2':=of_decide_eq_false h2;omega
theorem oH (x:α):∀l:List α,(insL lt x l).Perm (x::l)
 |[]=>List.Perm.refl _
 |y::ys=>by
  rw [insL];split
  ·exact ((oH x ys).cons y).trans (List.Perm.swap x y ys)
  ·exact List.Perm.refl _
theorem qM:∀l:List α,(lN lt l).Perm l
 |[]=>List.Perm.refl _
 |x::xs=>(oH x _).trans ((qM xs).cons x)
theorem Ord.le_trans (o:Ord lt) {a b c:α} (h1:lt b a=false) (h2:lt c b=false):lt c a=false:=by
 cases h:lt c a with
 |false=>rfl
 |true=>
  cases h3:lt b c with
  |true=>rw [o.tr b c a h3 h] at h1;cases h1
  |false=>
   have:=o.tot c b h2 h3;subst this;rw [h] at h1;cases h1
theorem Ord.asym (o:Ord lt) {a b:α} (h:lt a b=true):lt b a=false:=by
 cases h2:lt b a with
 |false=>rfl
 |true=>have:=o.tr a b a h h2;rw [o.irr] at this;cases this
theorem oG (o:Ord lt) (x:α):∀l:List α,l.Pairwise (fun a b=>lt b a=false)->(insL lt x l).Pairwise (fun a b=>lt b a=false)
 |[],_=>by simp [insL]
 |y::ys,h=>by
  rw [insL];rw [List.pairwise_cons] at h;split
  ·rename_i hc;rw [List.pairwise_cons];refine ⟨fun b hb=>?_,oG o x ys h.2⟩
   rcases List.mem_cons.mp ((oH x ys).mem_iff.mp hb) with e|e
   ·rw [e];exact o.asym hc
   ·exact h.1 b e
  ·rename_i hc;have hc':lt y x=false:=by simpa using hc
   rw [List.pairwise_cons,List.pairwise_cons];refine ⟨fun b hb=>?_,h⟩
   rcases List.mem_cons.mp hb with e|e
   ·rw [e];exact hc'
   ·exact o.le_trans hc' (h.1 b e)
theorem my (o:Ord lt):∀l:List α,(lN lt l).Pairwise (fun a b=>lt b a=false)
 |[]=>List.Pairwise.nil
 |x::xs=>oG o x _ (my o xs)
theorem nU (o:Ord lt):∀{l m:List α},l.Perm m->l.Pairwise (fun a b=>lt b a=false)->m.Pairwise (fun a b=>lt b a=false)->l=m
 |[],m,h,_,_=>(List.Perm.nil_eq h)
 |a::l,m,h,h1,h2=>by
  cases m with
  |nil=>exact absurd h.symm (by simp)
  |cons b m=>
   rw [List.pairwise_cons] at h1 h2;have e:a=b:=by
    rcases List.mem_cons.mp (h.mem_iff.mp List.mem_cons_self) with e|e
    ·exact e
    ·rcases List.mem_cons.mp (h.mem_iff.mpr List.mem_cons_self) with e2|e2
     ·exact e2.symm
     ·exact o.tot a b (h2.1 a e) (h1.1 b e2)
   subst e;rw [nU o (List.Perm.cons_inv h) h1.2 h2.2]
end
section
open PySem.W
variable {lt:α->α->Bool}
theorem getD_get {l:List α} {d:α} (h:i<l.length):l.getD i d=l[i]:=by simp [h]
noncomputable def rk (lt:α->α->Bool) (zs:List α) (d:α) (i:Nat):Int:=((zs.filter fun z=>lt z (zs.getD i d)).length:Int)
theorem filter_lt {p q:α->Bool} (h:∀z,p z=true->q z=true):∀l:List α,(l.filter p).length<=(l.filter q).length/\((∃z∈l,p z=false/\q z=true)->(l.filter p).length<(l.filter q).length)
 |[]=>⟨Nat.le_refl _,fun ⟨_,h,_⟩=>nomatch h⟩
 |x::xs=>by
  obtain ⟨i1,i2⟩:=filter_lt h xs;cases hp:p x with
  |true=>
   have hq:=h x hp;rw [List.filter_cons_of_pos hp,List.filter_cons_of_pos hq];refine ⟨by simp;exact i1,fun ⟨z,hz,e1,e2⟩=>?_⟩
   rcases List.mem_cons.mp hz with e|e
   ·rw [e,hp] at e1;cases e1
   ·have:=i2 ⟨z,e,e1,e2⟩;simp;exact this
  |false=>
   rw [List.filter_cons_of_neg (by simp [hp])];cases hq:q x with
   |true=>
    rw [List.filter_cons_of_pos hq];exact ⟨by simp;omega,fun _=>by simp;omega⟩
   |false=>
    rw [List.filter_cons_of_neg (by simp [hq])];refine ⟨i1,fun ⟨z,hz,e1,e2⟩=>?_⟩
    rcases List.mem_cons.mp hz with e|e
    ·rw [e,hq] at e2;cases e2
    ·exact i2 ⟨z,e,e1,e2⟩
theorem rk_lt (o:Ord lt) {zs:List α} {d:α} (hi:i<zs.length) (hj:j<zs.length):ltK (rk lt zs d) i j=lt (zs.getD i d) (zs.getD j d):=by
 unfold ltK rk;have gi:zs.getD i d∈zs:=by rw [getD_get hi];exact List.getElem_mem hi
 have gj:zs.getD j d∈zs:=by rw [getD_get hj];exact List.getElem_mem hj
 cases h:lt (zs.getD i d) (zs.getD j d) with
 |true=>
  refine decide_eq_true ?_;have:=(filter_lt (p:=fun z=>lt z (zs.getD i d)) (q:=fun z=>lt z (zs.getD j d)) (fun z hz=>o.tr _ _ _ hz h) zs).2 ⟨_,gi,o.irr _,h⟩;omega
 |false=>
  refine decide_eq_false ?_;have:=(filter_lt (p:=fun z=>lt z (zs.getD j d)) (q:=fun z=>lt z (zs.getD i d)) (fun z hz=>by
   cases h3:lt z (zs.getD i d) with
   |true=>rfl
   |false=>
    have e:=o.le_trans h h3;rw [hz] at e;cases e) zs).1
  omega
theorem Am (o:Ord lt) (zs:List α) (d:α) (h2:2<=zs.length):(dA (ltK (rk lt zs d)) (kas_sort zs.length)).toList.map (fun i=>zs.getD i d)=lN lt zs:=by
 obtain ⟨h1,hu⟩:=vn (key:=rk lt zs d) (n:=zs.length) (by omega);refine nU o ?_ ?_ (my o zs)
 ·refine (h1.map _).trans ?_;have:(List.range zs.length).map (fun i=>zs.getD i d)=zs:=by
   apply List.ext_getElem
   ·simp
   ·intro i h3 h4;simp [h4]
  rw [this];exact (qM zs).symm
 ·rw [List.pairwise_map,List.pairwise_iff_getElem];intro i j hi hj hij;have hn:(dA (ltK (rk lt zs d)) (kas_sort zs.length)).toList.length=zs.length:=by rw [h1.length_eq,List.length_range]
  have inr:∀k (hk:k<(dA (ltK (rk lt zs d)) (kas_sort zs.length)).toList.length),(dA (ltK (rk lt zs d)) (kas_sort zs.length)).toList[k]<zs.length:=fun k hk=>List.mem_range.mp (h1.mem_iff.mp (List.getElem_mem hk));have:=hu i j (by omega) (by omega);unfold kAt at this;have g:∀k (hk:k<(dA (ltK (rk lt zs d)) (kas_sort zs.length)).toList.length),(dA (ltK (rk lt zs d)) (kas_sort zs.length)).getD k 0=(dA (ltK (rk lt zs d)) (kas_sort zs.length)).toList[k]:=fun k hk=>by
   rw [Array.getD_eq_getD_getElem?,<- Array.getElem?_toList,List.getElem?_eq_getElem hk];rfl
  rw [g i hi,g j hj] at this;rw [<- rk_lt o (inr j hj) (inr i hi)];exact decide_eq_false (by omega)
theorem wg:∀{zs:List α},zs.length<2->lN lt zs=zs
 |[],_=>rfl
 |[x],_=>rfl
 |_::_::_,h=>by simp at h;omega
variable {W:du}
theorem vals_map (r:Vals xs us) (ps:List Nat) (hp:∀i∈ps,i<xs.length):Vals (ps.map fun i=>xs.getD i .non) (ps.map fun i=>us.getD i .none):=by
 refine Vals.of_get (by simp) fun k v u h1 h2=>?_;rw [List.getElem?_map] at h1 h2;cases e:ps[k]? with
 |none=>rw [e] at h1;cases h1
 |some i=>
  rw [e] at h1 h2;simp only [Option.map_some,Option.some.injEq] at h1 h2;have hi:=hp i (List.mem_of_getElem? e);have hl:=r.length;obtain ⟨u',e1,q⟩:=r.get (i:=i) (x:=xs[i]) (by simp [hi]);rw [getD_get hi] at h1;rw [List.getD_eq_getElem?_getD,e1] at h2;rw [<- h1,<- h2];exact q
theorem xi (o:Ord lt) {zs:List α} {d0:α} {enc:α->Dat} (I:Inv X pins σ H s) (hF:aN F H) (t:SqL X.K F a xs) (r:az X.K F (zs.map enc) xs) (h64:zs.length<64)
  (hk:∀its:List Value,Vals xs its->2<=its.length->∀h1:Heap,(∀b o,s.heap.get? b=some o->h1.get? b=some o)->Asks X.prog X.w X.A.in1.in1 (rk lt zs d0) its {s with heap:=h1})
  (p:aC X.K W true F H (.ok (.lst ((lN lt zs).map enc))) Q):wpAny (model X.prog X.w) X.A (call (.builtin "sorted") [.ref a]) (EP X pins σ Q) X.xe s:=by
 obtain ⟨its,rv,pl,hz⟩:=I.list (hF.lst t);have l1:=rv.length;have l2:=r.length;rw [List.length_map] at l2;refine yr (key:=rk lt zs d0) pl.isList (by omega) (fun h2 h1 kp=>hk its rv h2 h1 kp) fun h' D c hD kp e=>?_;have key:∃ys,ys.length<=sizeLine/\Vals ys (lI (rk lt zs d0) its)/\az X.K F ((lN lt zs).map enc) ys:=by
  unfold lI;by_cases h2:its.length<2
  ·rw [if_pos h2,wg (by omega)];exact ⟨xs,hz,rv,r⟩
  ·rw [if_neg h2,show its.length=zs.length by omega];obtain ⟨h1,_⟩:=vn (key:=rk lt zs d0) (n:=zs.length) (by omega);have inr:∀i∈(dA (ltK (rk lt zs d0)) (kas_sort zs.length)).toList,i<xs.length:=fun i hi=>by
    have:=List.mem_range.mp (h1.mem_iff.mp hi);omega
   refine ⟨(dA (ltK (rk lt zs d0)) (kas_sort zs.length)).toList.map fun i=>xs.getD i .non,?_,vals_map rv _ inr,?_⟩
   ·rw [List.length_map,h1.length_eq,List.length_range];omega
   ·rw [<- Am o zs d0 (by omega),List.map_map];refine az.of_get (by simp) fun k dd v g1 g2=>?_;rw [List.getElem?_map] at g1 g2;cases ek:(dA (ltK (rk lt zs d0)) (kas_sort zs.length)).toList[k]? with
    |none=>rw [ek] at g1;cases g1
    |some i=>
     rw [ek] at g1 g2;simp only [Option.map_some,Option.some.injEq,Function.comp] at g1 g2;have hi:=inr i (List.mem_of_getElem? ek);obtain ⟨w,e1,q⟩:=r.get (i:=i) (d:=enc (zs[i]'(by omega))) (by simp [show i<zs.length by omega]);rw [getD_get (show i<zs.length by omega)] at g1;rw [List.getD_eq_getElem?_getD,e1] at g2;rw [<- g1,<- g2];exact q
 obtain ⟨ys,hy1,hy2,hy3⟩:=key;have I1:Inv X pins σ (upd H D (.lst ys)) {s with heap:=h'}:=I.laid (t':=s.toks) kp hD (show gn X.prog X.w _ h' D (.lst ys) from ⟨hy1,_,c,hy2,e⟩);exact ⟨.ref D,_,I1,rfl,p.lst hF hy3 (I.hok.fresh hD)⟩
theorem rk_ints (is:List Int) (i j:Nat) (hi:i<is.length) (hj:j<is.length):ltK (rk ltZ is 0) i j=decide (is.getD i 0<is.getD j 0):=rk_lt ordZ hi hj
theorem BC {s':Shared} {is:List Int} (hi:IntsAre its is) (h2:2<=its.length):Asks prog w A (rk ltZ is 0) its s':=by
 have hl:=hi.length;obtain ⟨v1,v2,rest,rfl⟩:∃v1 v2 rest,its=v1::v2::rest:=by
  match its,h2 with
  |v1::v2::rest,_=>exact ⟨v1,v2,rest,rfl⟩
 unfold Asks;rw [keyKind_ints hi];refine wpAny_pure ⟨rfl,fun i j C h1 h2 hc=>?_⟩;unfold kas_ask;obtain ⟨t1,e1⟩:=ints_at hi i h1;obtain ⟨t2,e2⟩:=ints_at hi j h2;rw [e1,e2];rw [rk_ints is i j (by omega) (by omega)] at hc;exact kat_lt_int hc
where
 ints_at {vs:List Value} {ns:List Int} (h:IntsAre vs ns) (i:Nat) (hi:i<vs.length):∃t,vs.getD i Value.none=.int (ns.getD i 0) t:=by
  induction h generalizing i with
  |nil=>simp at hi
  |cons n t r ih=>
   cases i with
   |zero=>exact ⟨t,rfl⟩
   |succ i=>obtain ⟨t',e⟩:=ih i (by simpa using hi);exact ⟨t',by simpa using e⟩
noncomputable def lexF (f:Bool):List Int->List Int->Bool
 |a::as,b::bs=>if a=b then lexF f as bs else decide (a<b)
 |_,_=>f
theorem xH:∀as bs:List Int,lexF (decide (as.length<bs.length)) as bs=sr as bs
 |[],[]=>rfl
 |[],_::_=>by simp [lexF,sr]
 |_::_,[]=>by simp [lexF,sr]
 |a::as,b::bs=>by
  have:=xH as bs;simp only [lexF,sr,List.length_cons,Nat.add_lt_add_iff_right];rw [this]
theorem ot {prog:Program} {w:World} {A:Around} {s':Shared} {f:Bool} {Q:Bool->Shared->Prop}:∀{us vs:List Value} {as bs:List Int} (i:Nat),IntsAre us as->IntsAre vs bs->Q (lexF f as bs) s'->KatLex prog w A true f Q (us.zip vs) i s'
 |_,_,_,bs,_,.nil,_,h=>kat_nil (by cases bs<;>exact h)
 |_,_,_,_,_,.cons a t r,.nil,h=>kat_nil h
 |_,_,_,_,i,.cons a t r,.cons b u r',h=>by
  show KatLex prog w A true f Q ((.int a t,.int b u)::(_:List (Value×Value))) i s';refine kat_cons (SeqAt.EqAt.int_int a t b u _ _ _ _ ?_);by_cases e:a=b
  ·rw [show (a==b)=true by simpa using e];rw [lexF,if_pos e] at h;exact kat_yes (ot (i+1) r r' h)
  ·rw [show (a==b)=false by simpa using e];rw [lexF,if_neg e] at h;refine kat_no ?_;cases hb:(true&&i==0) with
   |true=>exact oneLt_int h
   |false=>exact kat_one _ _ (lt_int h)
theorem BB {ts:List (List Int)} (I:Inv X pins σ H s) (hF:aN F H) (r:az X.K F (ts.map nA) xs) (hne:(ts.all fun t=> !t.isEmpty)=true) (rv:Vals xs its) (h2:2<=its.length)
  (kp:∀b o,s.heap.get? b=some o->h1.get? b=some o):Asks X.prog X.w A (rk sr ts []) its {s with heap:=h1}:=by
 have l1:=rv.length;have l2:=r.length;rw [List.length_map] at l2;have at_:∀i,i<its.length->∃(l:Addr) (ob:Obj) (us:List Value) (n:Nat),its.getD i Value.none=.ref l/\h1.get? l=some ob/\ob.cls=.type "tuple"/\ob.data=.seq us.toArray n/\IntsAre us (ts.getD i []):=fun i hi=>by
  obtain ⟨v,e1,l,ys,e2,tq,rr⟩:=r.get (i:=i) (d:=nA (ts[i]'(by omega))) (by simp [show i<ts.length by omega]);subst e2;obtain ⟨u,e3,ru⟩:=rv.get e1;cases ru;obtain ⟨us,ru,pl,_⟩:=I.tuple (hF.tup tq);obtain ⟨ob,h3,h4,n,h5⟩:=pl;have e4:ys=(ts[i]'(by omega)).map V.int:=kA rr (uA _);rw [e4] at ru;exact ⟨l,ob,us,n,by rw [List.getD_eq_getElem?_getD,e3];rfl,kp _ _ h3,h4,h5,by rw [getD_get (show i<ts.length by omega)];exact intsAre_of ru⟩
 have tups:∀(k:Nat),k<=its.length->∃fs,KatTups h1 (its.drop (its.length-k)) fs/\fs.length=k/\∀v∈fs,∃i t,v=Value.int i t:=by
  intro k
  induction k with
  |zero=>intro _;exact ⟨[],by rw [Nat.sub_zero,List.drop_length];exact KatTups.nil,rfl,fun _ h=>nomatch h⟩
  |succ k ih=>
   intro hk;obtain ⟨fs,q1,q2,q3⟩:=ih (by omega);have hi:its.length-(k+1)<its.length:=by omega
   obtain ⟨l,ob,us,n,e1,e2,e3,e4,e5⟩:=at_ _ hi;have hn:(ts.getD (its.length-(k+1)) [])≠[]:=by
    rw [getD_get (show its.length-(k+1)<ts.length by omega)];have:=List.all_eq_true.mp hne _ (List.getElem_mem (show its.length-(k+1)<ts.length by omega));simpa using this
   obtain ⟨z,ez⟩:∃z,ts.getD (its.length-(k+1)) []=z:=⟨_,rfl⟩
   rw [ez] at e5 hn;obtain ⟨f,fr,ef,hf⟩:∃f fr,us=f::fr/\∃i t,f=Value.int i t:=by
    cases e5 with
    |nil=>exact absurd rfl hn
    |cons m t r=>exact ⟨_,_,rfl,_,_,rfl⟩
   refine ⟨f::fs,?_,by simp [q2],fun v hv=>?_⟩
   ·rw [List.drop_eq_getElem_cons hi];rw [show its.length-(k+1)+1=its.length-k by omega];rw [getD_get hi] at e1;rw [e1];exact KatTups.cons e2 e3 e4 (by rw [ef];rfl) q1
   ·rcases List.mem_cons.mp hv with e|e
    ·rw [e];exact hf
    ·exact q3 v e
 obtain ⟨fs,q1,q2,q3⟩:=tups its.length (Nat.le_refl _);rw [Nat.sub_self,List.drop_zero] at q1;unfold Asks;refine kat_kind (s:={s with heap:=h1}) (T:=.type "int") q1 (by omega) (fun v hv=>?_) rfl ⟨rfl,fun i j C hi hj hc=>?_⟩
 ·obtain ⟨i,t,e⟩:=q3 v hv;rw [e];exact Looks.of_pure rfl
 ·unfold kas_ask;obtain ⟨x1,o1,us,n1,e1,g1,_,d1,a1⟩:=at_ i hi;obtain ⟨x2,o2,vs,n2,e2,g2,_,d2,a2⟩:=at_ j hj;rw [e1,e2];rw [rk_lt ordLex (show i<ts.length by omega) (show j<ts.length by omega)] at hc;refine kat_lt (s:={s with heap:=h1}) g1 d1 g2 d2 (ot 0 a1 a2 ?_);rw [List.size_toArray,List.size_toArray,a1.length,a2.length,xH];exact hc
theorem xa {F:Hp} {t:List Int} (h:tupD d=.ok t):d=nA t:=by
 cases d with
 |tup ds=>
  have:∀{ds:List Dat} {t:List Int},gv ds=.ok t->ds=t.map .int:=by
   intro ds
   induction ds with
   |nil=>intro t h;cases h;rfl
   |cons d ds ih=>
    intro t h;cases d with
    |int i=>
     cases e:gv ds with
     |error x=>simp only [gv,asI,aq,e,ik] at h;cases h
     |ok r=>
      simp only [gv,asI,aq,e] at h;cases h;rw [ih e];rfl
    |_=>cases h
  unfold nA;rw [this h]
 |_=>cases h
theorem AV:∀{ds:List Dat} {t:List Int},gv ds=.ok t->ds=t.map .int:=fun {ds t} h=>by
 have:=xa (F:=fun _=>none) (d:=.tup ds) (t:=t) h;unfold nA at this;injection this
theorem t7:∀{ds:List Dat} {ts:List (List Int)},k8 ds=.ok ts->ds=ts.map nA
 |[],_,h=>by cases h;rfl
 |d::ds,ts,h=>by
  cases e:tupD d with
  |error x=>simp only [k8,e,ik] at h;cases h
  |ok t=>
   cases e2:k8 ds with
   |error x=>simp only [k8,e,aq,e2,ik] at h;cases h
   |ok r=>
    simp only [k8,e,aq,e2] at h;cases h;rw [xa (F:=fun _=>none) e,t7 e2];rfl
theorem t8:∀{ds:List Dat} {e:Err},k8 ds=.error e->e=.stuck
 |[],_,h=>by cases h
 |d::ds,e,h=>by
  cases e1:tupD d with
  |error x=>
   simp only [k8,e1,ik] at h;cases h;cases d with
   |tup ds=>exact oF e1
   |_=>cases e1;rfl
  |ok t=>
   cases e2:k8 ds with
   |error x=>simp only [k8,e1,aq,e2,ik] at h;cases h;exact t8 e2
   |ok r=>simp only [k8,e1,aq,e2] at h;cases h
theorem ya (hK:X.K=K:=by rfl):qu K W true X (.builtin "sorted") lu:=by
 subst hK;intro pins s σ H xs us Q I rr h;obtain ⟨F,d,x,s1,e,q,p⟩:=jN (fun ds=>by match ds with|[d]=>exact .inl ⟨d,rfl⟩|[]=>exact .inr rfl|a::b::c=>exact .inr (by cases a<;>rfl)) h;subst e;obtain ⟨u,rfl,ru⟩:=rr.one;cases d with
 |lst ds=>
  obtain ⟨a,ys,e1,t,r⟩:=q;subst e1;cases ru;have p':aC X.K W true F H (tF ds) Q:=p;unfold tF at p';by_cases h64:ds.length<64
  ·rw [if_pos h64] at p';cases ei:gv ds with
   |ok is=>
    rw [ei] at p';have ed:=AV ei;subst ed;refine xi ordZ (d0:=0) I s1 t r (by simpa using h64) (fun its rv h2 h1 kp=>?_) p';have e2:ys=is.map V.int:=kA r ei;subst e2;exact BC (intsAre_of rv) h2
   |error z=>
    rw [ei] at p';have p2:aC X.K W true F H ((k8 ds).bind fun ts=>if (ts.all fun t=> !t.isEmpty)=true then .ok (.lst ((lN sr ts).map nA)) else stk) Q:=p';cases et:k8 ds with
    |error z2=>rw [et] at p2;have:=t8 et;subst this;exact aC.stuck p2
    |ok ts=>
     rw [et] at p2;have ed:=t7 et;subst ed;have p3:aC X.K W true F H (if (ts.all fun t=> !t.isEmpty)=true then .ok (.lst ((lN sr ts).map nA)) else stk) Q:=p2;by_cases hne:(ts.all fun t=> !t.isEmpty)=true
     ·rw [if_pos hne] at p3;exact xi ordLex (d0:=[]) I s1 t r (by simpa using h64) (fun its rv h2 h1 kp=>BB I s1 r hne rv h2 kp) p3
     ·rw [if_neg hne] at p3;exact aC.stuck p3
  ·rw [if_neg h64] at p';exact aC.stuck p'
 |_=>exact aC.stuck p
end
noncomputable def cX (n d:Nat):Option Int->Nat
 |none=>d
 |some v=>if v<0 then (v+(n:Int)).toNat else min v.toNat n
noncomputable def cutL (xs:List α) (lo hi:Option Int):List α:=(xs.drop (cX xs.length 0 lo)).take (cX xs.length xs.length hi-cX xs.length 0 lo)
noncomputable def gT:Dat->Option Int->Option Int->M Dat
 |.lst ds,lo,hi=>.ok (.lst (cutL ds lo hi))
 |.tup ds,lo,hi=>if (decide (cX ds.length 0 lo=0)&&decide (cX ds.length ds.length hi=ds.length))=true then stk else .ok (.tup (cutL ds lo hi))
 |_,_,_=>stk
noncomputable def ue:ai->M (Option Int):=fun _=>.ok none
noncomputable def mP (f:ai->M Dat):ai->M (Option Int):=fun ρ=>(f ρ).bind fun d=>(asI d).bind fun i=>.ok (some i)
noncomputable def fSl (g:Dat->Option Int->Option Int->M Dat) (fa:ai->M Dat) (fl fu:ai->M (Option Int)):ai->M Dat:=fun ρ=>(fa ρ).bind fun a=>(fl ρ).bind fun l=>(fu ρ).bind fun u=>g a l u
noncomputable def extD (ρ:ai) (i:Nat) (ds:List Dat):Dat->M Flo
 |.lst es=>if ds.length+es.length<=sizeLine then put ρ i (ds++es) else stk
 |_=>stk
noncomputable def zY (O:List Nat) (i:Nat) (f:ai->M Dat):ai->M Flo:=fun ρ=>(ju ρ i).bind fun ds=>(f (erase O ρ)).bind fun d=>extD ρ i ds d
noncomputable def iZ (g g' g'':Dat->Dat->M Dat) (fa fb fc fd':ai->M Dat):ai->M Dat:=fun ρ=>(fa ρ).bind fun a=>(fb ρ).bind fun b=>(g a b).bind fun x=>(asB x).bind fun k=>if k=true then (fc ρ).bind fun c=>(g' b c).bind fun y=>(asB y).bind fun l=>if l=true then (fd' ρ).bind fun d=>g'' c d else .ok (.bl false) else .ok (.bl false)
section
variable {W:du} {own:Bool} {a b c d:Expr} {lo hi:Option Expr} {r t u:Pos} {f fd':ai->M Dat} {fu:ai->M (Option Int)} 
noncomputable def tDO (K:Fg) (W:du) (f:ai->M (Option Int)):TO:=fun σ H Q=>∃F ρ,dP K F σ ρ/\aN F H/\(match f ρ with
 |.ok o=>∀F' H',Step F H F' H'->Q o H'
 |.error e=>W.p e F H)
theorem zL {R:Option Int->Hp->Prop} (r:dP K F σ ρ) (s:aN F H) (hE:∀e,fl ρ=.error e->W.p e F H) (hO:∀o,fl ρ=.ok o->∀F1 H1,Step F H F1 H1->R o H1):tDO K W fl σ H R:=by
 refine ⟨F,ρ,r,s,?_⟩
 cases e:fl ρ with
 |ok d=>exact hO d e
 |error x=>exact hE x e
noncomputable abbrev DP (K:Fg) (W:du) (X:Cx) (e:Option Expr) (f:ai->M (Option Int)):Prop:=PO X e (tDO K W f)
theorem PO.imp {t t':TO} (h:PO X lo t) (q:∀σ H Q,t' σ H Q->t σ H Q):PO X lo t':=fun pins s σ H Q I z=>h pins s σ H Q I (q σ H Q z)
theorem m8:DP K W X none ue:=po_none.imp fun σ H Q ⟨F,ρ,r,s,p⟩=>p F H (Step.refl s)
theorem m7 (h:DE K W false X e f):DP K W X (some e) (mP f):=(po_some h).imp fun σ H Q ⟨F,ρ,r,s,p⟩=>by
 refine aT r s (fun e he=>?_) fun d hd v F1 H1 s1 q1=>?_
 ·have z:mP f ρ=.error e:=by unfold mP;rw [he];rfl
  rw [z] at p;exact p
 ·have z:mP f ρ=(asI d).bind fun i=>.ok (some i):=by unfold mP;rw [hd];rfl
  rw [z] at p;cases d with
  |int i=>exact ⟨i,q1,p F1 H1 s1⟩
  |_=>exact (W.ns p).elim
noncomputable def rDS (K:Fg) (W:du) (own:Bool) (g:Dat->Option Int->Option Int->M Dat):V->Option Int->Option Int->Hp->VK->Prop:=fun x lo hi H Q=>∃F a,aN F H/\aQ K F a x/\aC K W own F H (g a lo hi) Q
theorem rd_sl {g:Dat->Option Int->Option Int->M Dat} (h:tD K W own (fSl g fa fl fu) σ H Q):tSl (rDS K W own g) (tD K W false fa) (tDO K W fl) (tDO K W fu) σ H Q:=by
 obtain ⟨F,ρ,r,s,p⟩:=h;refine aT r s (fun e he=>p.err (by unfold fSl;rw [he];rfl)) fun a ha x F1 H1 s1 q1=>?_;refine zL (r.mono s1.ff) s1.fh (fun e he=>(p.step s1).err (by unfold fSl;rw [ha];show (fl ρ).bind _=_;rw [he];rfl)) fun l hl F2 H2 s2=>?_;refine zL ((r.mono s1.ff).mono s2.ff) s2.fh (fun e he=>(p.step (s1.trans s2)).err (by unfold fSl;rw [ha];show (fl ρ).bind _=_;rw [hl];show (fu ρ).bind _=_;rw [he];rfl)) fun u hu F3 H3 s3=>?_;refine ⟨F3,a,s3.fh,aQ.mono (s2.trans s3).ff q1,?_⟩
 have e:fSl g fa fl fu ρ=g a l u:=by unfold fSl;rw [ha];show (fl ρ).bind _=_;rw [hl];show (fu ρ).bind _=_;rw [hu];rfl
 rw [e] at p;exact p.step ((s1.trans s2).trans s3)
theorem za {g:Dat->Option Int->Option Int->M Dat} (hr:SlR X (rDS K W own g)) (ha:DE K W false X a fa) (hl:DP K W X lo fl) (hu:DP K W X hi fu):DE K W own X (.Subscript a (.Slice lo hi none p2) pos) (fSl g fa fl fu):=(pe_slice hr ha hl hu).imp fun _ _ _=>rd_sl
theorem yb (n d:Nat) (o:Option Int):cX n d o=HT.sIx n d o:=by cases o<;>rfl
theorem az.cut {l u:Option Int} (h:az K F ds xs):az K F (cutL ds l u) (cutV xs l u):=by
 unfold cutL cutV;rw [yb,yb,h.length];exact az.take _ (az.drop _ h)
theorem x_sl (hK:X.K=K:=by rfl):SlR X (rDS K W true gT):=by
 subst hK;intro pins s σ H x v vl vu lo hi sl Q I rx hs pl pu h;refine (SlR.or sl_list sl_tup) pins s σ H x v vl vu lo hi sl Q I rx hs pl pu ?_;obtain ⟨F,a,s1,qa,p⟩:=h;cases a with
 |lst ds=>
  obtain ⟨l,xs,e,t,z⟩:=qa;exact .inl ⟨l,xs,e,s1.lst t,fun r hr=>aC.lst p s1 z.cut hr⟩
 |tup ds=>
  obtain ⟨l,xs,e,t,z⟩:=qa;have p':aC X.K W true F H (if (decide (cX ds.length 0 lo=0)&&decide (cX ds.length ds.length hi=ds.length))=true then stk else .ok (.tup (cutL ds lo hi))) Q:=p;by_cases hc:(decide (cX ds.length 0 lo=0)&&decide (cX ds.length ds.length hi=ds.length))=true
  ·rw [if_pos hc] at p';exact p'.stuck
  ·rw [if_neg hc] at p';refine .inr ⟨l,xs,e,s1.tup t,fun hw=>hc ?_,fun r hr=>aC.tup p' s1 z.cut hr⟩;rw [yb,yb,<- z.length];simp only [Bool.and_eq_true,decide_eq_true_eq];exact hw
 |_=>exact aC.stuck p
theorem rs_ext {D:Ends} (hi:i∈O) (t:tS K W ro F0 H0 OL O O (zY O i f) D σ H):jo (tBM K "list" Aa (bS i) (aX (tD K W true f) fU)) D σ H:=by
 obtain ⟨FB,F,ρ,r,p⟩:=t;cases hl:ju ρ i with
 |error e=>
  have:=oh hl;subst this;exact p.stuck (by unfold zY;rw [hl];rfl)
 |ok ds=>
  obtain ⟨a,xs,e2,ha,z⟩:=r.lstOwn hi (kq hl);refine ⟨.ref a,e2,eE ha,?_⟩
  refine aT r.jh r.st.fh (fun e he=>p.uG r.st (by unfold zY;rw [hl];show (f (erase O ρ)).bind _=_;rw [he];rfl)) fun d hd v F1 H1 s1 q=>?_;have ez:zY O i f ρ=extD ρ i ds d:=by unfold zY;rw [hl];show (f (erase O ρ)).bind _=_;rw [hd];rfl
  rw [ez] at p;cases d with
  |lst es=>
   obtain ⟨b,zs,e3,hb,_,_,zz⟩:=q;by_cases hs:ds.length+es.length<=sizeLine
   ·have ep:extD ρ i ds (.lst es)=put ρ i (ds++es):=if_pos hs;rw [ep] at p;exact ⟨a,b,xs,zs,rfl,by rw [e3],s1.hh _ _ ha,hb,by rw [z.length,zz.length];exact hs,p σ F1 _ ((r.step s1).write hi (kq hl) e2 (az.append (z.mono s1.ff) zz))⟩
   ·exact p.stuck (if_neg hs)
  |_=>exact p.stuck rfl
theorem xS (he:DE K W true X e f) (ho:i∈O:=by decide) (hN:X.N[i]? =some x:=by rfl) (hv:Vis X.env.scope x:=by first|exact Or.inl rfl|exact Or.inr (Or.inl rfl)|exact Or.inr (Or.inr rfl)) (hd:(x==("__debug__":Str))=false:=by decide) (hcd:(x==("__classdict__":Str))=false:=by decide) (hK:X.K=K:=by rfl)
  (hst:starEach [e] X.env=[(false,eval e X.env)]:=by rfl) (hbase:attributeBase (.Name x p) "extend" X.env (eval (.Name x p) X.env)=eval (.Name x p) X.env:=by rfl) (hfew:((backTo q (starEach [e] X.env)).all (fun x=> !x.1)&&(backToKw q (keywordEach [] X.env)).all (fun x=>x.1.isSome)&&decide ([e].length+([]:List Keyword).length+(if ([]:List Keyword).isEmpty then 0 else 1)<30))=true:=by rfl) (hplain:(backTo q (starEach [] X.env)).any (·.1)=false:=by rfl) (hline:(apos.endLine==q.line)=true:=by rfl) (hsw:swapsWith (.Call (.Attribute (.Name x p) "extend" apos) [e] [] q) none pos.line X.env=pure false:=by rfl) :
  DS K W ro X OL O O (.Expr (.Call (.Attribute (.Name x p) "extend" apos) [e] [] q) pos) (zY O i f):=fun F0 H0=>by
 subst hK;exact PS.imp (gL (qc PySem.F.plainAttrs_list PySem.F.slot_list_extend PySem.F.type_list_extend AB (pv i hN hv hd hcd) (aA he aY hst) hbase hfew hline hst hplain) hsw) fun _ _ _=>rs_ext ho
theorem Al {r r'':R2} (ho:OpR X (compareOp op) r) (ho':OpR X (compareOp op') r') (ho'':OpR X (compareOp op'') r'') (ha:PE X a ta) (hb:PE X b tb) (hc:PE X c tc) (hd:PE X d td)
  (hm:lastMarks [op,op',op''] [b,c,d]=false:=by with_unfolding_all rfl):PE X (.Compare a [op,op',op''] [b,c,d] pos) (zM r r' r'' ta tb tc td):=by
 intro pins s σ H Q I h;refine Compare_chain (thn (ha pins s σ H _ I h) fun v s1 ⟨x,H1,I1,r1,q1⟩=>chain_link (thn (hb pins s1 σ H1 _ I1 q1) fun u s2 ⟨y,H2,I2,r2,q2⟩=>
  thn (ho pins s2 σ H2 x y v u _ I2 r1 r2 q2) fun d s3 ⟨z,H3,I3,r3,k,e,q3⟩=>?_)) hm
 subst e;cases r3;refine wpAny_truthy_bool ?_;cases k with
 |false=>exact ite_ff ⟨.bl false,H3,I3,rfl,q3⟩
 |true=>
  refine ite_tt (chain_link (thn (hc pins s3 σ H3 _ I3 q3) fun w' s4 ⟨z',H4,I4,r4,q4⟩=>thn (ho' pins s4 σ H4 y z' u w' _ I4 r2 r4 q4) fun d' s5 ⟨z2,H5,I5,r5,k2,e2,q5⟩=>?_));subst e2;cases r5;refine wpAny_truthy_bool ?_;cases k2 with
  |false=>exact ite_ff ⟨.bl false,H5,I5,rfl,q5⟩
  |true=>exact ite_tt (chain_last (thn (hd pins s5 σ H5 _ I5 q5) fun w2 s6 ⟨z3,H6,I6,r6,q6⟩=>ho'' pins s6 σ H6 z' z3 w' w2 Q I6 r4 r6 q6))
theorem A8 {g:Dat->Dat->M Dat} (h:tD K W false (iZ g g' g'' fa fb fc fd') σ H Q):zM (rD2 K W false g) (rD2 K W false g') (rD2 K W false g'') (tD K W false fa) (tD K W false fb) (tD K W false fc) (tD K W false fd') σ H Q:=by
 obtain ⟨F,ρ,r,s,p⟩:=h;refine aT r s (fun e he=>p.err (by unfold iZ;rw [he];rfl)) fun a ha x F1 H1 s1 q1=>?_;refine aT (r.mono s1.ff) s1.fh (fun e he=>(p.step s1).err (by unfold iZ;rw [ha];show (fb ρ).bind _=_;rw [he];rfl)) fun b hb y F2 H2 s2 q2=>?_;have z:iZ g g' g'' fa fb fc fd' ρ=(g a b).bind fun x=>(asB x).bind fun k=>if k=true then (fc ρ).bind fun c=>(g' b c).bind fun y=>(asB y).bind fun l=>if l=true then (fd' ρ).bind fun d=>g'' c d else .ok (.bl false) else .ok (.bl false):=by unfold iZ;rw [ha];show (fb ρ).bind _=_;rw [hb];rfl
 rw [z] at p;refine ⟨F2,a,b,s2.fh,aQ.mono s2.ff q1,q2,?_⟩
 have p2:=p.step (s1.trans s2);have rr:=(r.mono s1.ff).mono s2.ff;cases e:g a b with
 |error x=>rw [e] at p2;exact p2
 |ok w=>
  rw [e] at p2;cases w with
  |bl k=>
   intro v F3 H3 s3 qv;cases (show v=.bl k from qv);have p3:=p2.step s3;refine ⟨k,rfl,?_⟩
   cases k with
   |false=>exact aC.bl p3 s3.fh
   |true=>
    have p3:aC K W false F3 H3 ((fc ρ).bind fun c=>(g' b c).bind fun y=>(asB y).bind fun l=>if l=true then (fd' ρ).bind fun d=>g'' c d else .ok (.bl false)) Q:=p3;refine aT (rr.mono s3.ff) s3.fh (fun e he=>p3.err (by rw [he];rfl)) fun c hc w F4 H4 s4 q4=>?_;have p4:=p3.step s4;rw [hc] at p4;have p4:aC K W false F4 H4 ((g' b c).bind fun y=>(asB y).bind fun l=>if l=true then (fd' ρ).bind fun d=>g'' c d else .ok (.bl false)) Q:=p4;refine ⟨F4,b,c,s4.fh,aQ.mono (s3.trans s4).ff q2,q4,?_⟩
    cases e4:g' b c with
    |error x=>rw [e4] at p4;exact p4
    |ok w2=>
     rw [e4] at p4;cases w2 with
     |bl l=>
      intro v5 F5 H5 s5 qv5;cases (show v5=.bl l from qv5);have p5:=p4.step s5;refine ⟨l,rfl,?_⟩
      cases l with
      |false=>exact aC.bl p5 s5.fh
      |true=>
       have p5:aC K W false F5 H5 ((fd' ρ).bind fun d=>g'' c d) Q:=p5;refine aT (((rr.mono s3.ff).mono s4.ff).mono s5.ff) s5.fh (fun e he=>p5.err (by rw [he];rfl)) fun d hd w6 F6 H6 s6 q6=>?_;have p6:=p5.step s6;rw [hd] at p6;exact ⟨F6,c,d,s6.fh,aQ.mono (s5.trans s6).ff q4,q6,p6⟩
     |_=>exact (W.ns p4).elim
  |_=>exact (W.ns p2).elim
theorem Bo {g:Dat->Dat->M Dat} (ho:Op2 K W false X (compareOp op) g) (ho':Op2 K W false X (compareOp op') g') (ho'':Op2 K W false X (compareOp op'') g'') (ha:DE K W false X a fa) (hb:DE K W false X b fb) (hc:DE K W false X c fc) (hd:DE K W false X d fd')
  (hm:lastMarks [op,op',op''] [b,c,d]=false:=by with_unfolding_all rfl):DE K W false X (.Compare a [op,op',op''] [b,c,d] pos) (iZ g g' g'' fa fb fc fd'):=(Al ho ho' ho'' ha hb hc hd hm).imp fun _ _ _=>A8
end
section
variable {fu:ai->M (Option Int)}
@[simp] theorem e_pNone:ue ρ=.ok none:=id rfl
@[simp] theorem e_pSome:mP fa ρ=(fa ρ).bind fun d=>(asI d).bind fun i=>.ok (some i):=id rfl
@[simp] theorem e_slF (k:Dat->Option Int->Option Int->M Dat):fSl k fa fl fu ρ=(fa ρ).bind fun a=>(fl ρ).bind fun l=>(fu ρ).bind fun u=>k a l u:=id rfl
@[simp] theorem e_extD (i:Nat) (ds es:List Dat):extD ρ i ds (.lst es)=if ds.length+es.length<=sizeLine then put ρ i (ds++es) else stk:=id rfl
@[simp] theorem e_ext (O:List Nat) (i:Nat):zY O i fa ρ=(ju ρ i).bind fun ds=>(fa (erase O ρ)).bind fun d=>extD ρ i ds d:=id rfl
@[simp] theorem e_pow {i j:Int} (h0:0<=j) (h1:j<=1000000) (h2:i.natAbs<2^64):powD (.int i) (.int j)=.ok (.int (i^j.toNat)):=by
 show (if (decide (0<=j)&&decide (j<=1000000)&&decide (i.natAbs<2^64))=true then _ else _)=_;rw [if_pos (by simp only [Bool.and_eq_true,decide_eq_true_eq];exact ⟨⟨h0,h1⟩,h2⟩)]
@[simp] theorem e_eqII (i j:Int):eqM (.int i) (.int j)=.ok (.bl (decide (i=j))):=by
 show Except.ok (Dat.bl (i==j))=_;rw [show (i==j)=decide (i=j) from rfl]
@[simp] theorem e_neII (i j:Int):neM (.int i) (.int j)=.ok (.bl (!decide (i=j))):=by
 show Except.ok (Dat.bl (!(i==j)))=_;rw [show (i==j)=decide (i=j) from rfl]
end
noncomputable def bE (Cs:List Addr) (x:Str):Dat->M Dat
 |.ins C fs=>if Cs.contains C=true then (match fs.lookup x with
  |some d=>.ok d
  |none=>stk) else stk
 |_=>stk
noncomputable def isC (C:Addr) (m:Str):Dat->Bool
 |.ins D fs=>(D==C)&&(fs.lookup m).isNone
 |_=>false
noncomputable def iI (C:Addr) (m:Str) (g:List Dat->M Dat) (fo:ai->M Dat) (fr:ai->M (List Dat)):ai->M Dat:=fun ρ=>(fo ρ).bind fun o=>if isC C m o=true then (fr ρ).bind fun as=>g (o::as) else stk
noncomputable def gW (C C2:Addr) (m:Str) (g g2:List Dat->M Dat) (fo:ai->M Dat) (fr:ai->M (List Dat)):ai->M Dat:=fun ρ=>(fo ρ).bind fun o=>if isC C m o=true then (fr ρ).bind fun as=>g (o::as) else if isC C2 m o=true then (fr ρ).bind fun as=>g2 (o::as) else stk
noncomputable def newR (C:Addr) (g:List Dat->M Dat):List Dat->M Dat
 |[d]=>(g [d]).bind fun r=>.ok (.ins C [("gaps",r)])
 |_=>stk
noncomputable def twoL:Dat->Dat->Bool
 |.lst xs,.lst ys=>decide (xs.length=ys.length)
 |_,_=>false
noncomputable def newP (C:Addr) (g:List Dat->M Dat):List Dat->M Dat
 |[d,e]=>(g [d]).bind fun r=>(g [e]).bind fun r2=>if twoL r r2=true then .ok (.ins C [("gaps",r),("beside",r2)]) else stk
 |_=>stk
noncomputable def sStk:ai->M Flo:=fun _=>stk
section
variable {W:du} {own:Bool} {o a b c d:Expr} {f:ai->M Dat} {fr:ai->M (List Dat)} {Cs:List Addr}
theorem Bh:DS K W ro X OL O O' st sStk:=fun F0 H0 pins s σ H D I h=>by
 obtain ⟨FB,F,ρ,r,p⟩:=h;exact p.stuck rfl
theorem jf.at {F:Hp} {x:Str}:∀{gs:List (Str×Dat)} {fs:List (Str×V)},jf K F gs fs->(∀d,gs.lookup x=some d->∃v,fs.lookup x=some v/\aQ K F d v)/\(gs.lookup x=none->fs.lookup x=none)
 |[],fs,h=>by cases (show fs=[] from h);exact ⟨fun d h=>by simp at h,fun _=>rfl⟩
 |(g,d)::gs,fs,h=>by
  obtain ⟨v,r,rfl,h1,h2⟩:=h;have ih:=jf.at (x:=x) h2;rw [List.lookup_cons,List.lookup_cons];cases e:x==g with
  |true=>exact ⟨fun d' h'=>by cases h';exact ⟨v,rfl,h1⟩,fun h'=>by cases h'⟩
  |false=>exact ih
theorem dJ (hC:∀C∈Cs,Cls K C/\aV K C y) (he:DE K W false X e fa) (hb:attributeBase e y X.env (eval e X.env)=eval e X.env:=by rfl) (hK:X.K=K:=by rfl):DE K W false X (.Attribute e y pos) (f1 (bE Cs y) fa):=by
 subst hK;refine (dQ he hb).imp fun σ H Q h=>?_;obtain ⟨F,ρ,r,s,p⟩:=h;refine aT r s (fun e he=>p.err (by unfold f1;rw [he];rfl)) fun a ha x F1 H1 s1 q1=>?_;have ez:f1 (bE Cs y) fa ρ=bE Cs y a:=by unfold f1;rw [ha];rfl
 rw [ez] at p;cases a with
 |ins C gs=>
  obtain ⟨l,dx,fs,e1,ea,df⟩:=q1;have p':aC X.K W false F H (if Cs.contains C=true then (match gs.lookup y with
   |some d=>.ok d
   |none=>stk) else stk) Q:=p
  by_cases hc:Cs.contains C=true
  ·rw [if_pos hc] at p';obtain ⟨h1,h2⟩:=hC C (by simpa using hc);cases hl:gs.lookup y with
   |none=>rw [hl] at p';exact aC.stuck p'
   |some d=>
    rw [hl] at p';obtain ⟨v,hv,hd⟩:=df.at.1 d hl;exact ⟨l,C,dx,fs,v,e1,s1.fh _ _ ea,h1,h2,hv,(p'.step s1) v F1 H1 (Step.refl s1.fh) hd⟩
  ·rw [if_neg hc] at p';exact aC.stuck p'
 |_=>exact aC.stuck p
theorem PE.or {t1 t2:TE} (h1:PE X e t1) (h2:PE X e t2):PE X e (fun σ H Q=>t1 σ H Q\/t2 σ H Q):=fun pins s σ H Q I h=>h.elim (h1 pins s σ H Q I) (h2 pins s σ H Q I)
theorem rd_meth (h:tD K Wno ro (iI C m (bU nN n g) fo fr) σ H Q):tMeth C m (spF K ro (bU nN n g) n) [] E0 (tD K Wno false fo) (tDA K Wno fr) σ H Q:=by
 obtain ⟨F,ρ,r,s,p⟩:=h;refine aT r s (fun e he=>p.err (by unfold iI;rw [he];rfl)) fun o ho x F1 H1 s1 q1=>?_;have ez:iI C m (bU nN n g) fo fr ρ=if isC C m o=true then (fr ρ).bind fun as=>bU nN n g (o::as) else stk:=by unfold iI;rw [ho];rfl
 rw [ez] at p;by_cases hc:isC C m o=true
 ·rw [if_pos hc] at p;cases o with
  |ins D gs=>
   obtain ⟨l,dx,fs,e1,ea,df⟩:=id q1;have hc':((D==C)&&(gs.lookup m).isNone)=true:=hc;rw [Bool.and_eq_true] at hc';obtain ⟨hD,hn⟩:=hc';have hD:D=C:=by simpa using hD
   subst hD;refine ⟨l,dx,fs,e1,s1.fh _ _ ea,df.at.2 (by simpa using hn),?_⟩
   have p:=p.step s1;refine rC (r.mono s1.ff) s1.fh (fun e he=>p.err (by rw [he];rfl)) fun as has vs F2 H2 s2 qs=>?_;rw [has] at p;have p:aC K Wno ro F1 H1 (bU nN n g (.ins D gs::as)) Q:=p;have p:=p.step s2;show spF K ro (bU nN n g) n (x::(vs++[])) H2 Q E0;rw [List.append_nil];by_cases hl:(Dat.ins D gs::as).length=n
   ·exact ⟨F2,.ins D gs::as,s2.fh,⟨x,vs,rfl,aQ.mono s2.ff q1,qs⟩,hl,p⟩
   ·rw [xn hl] at p;exact aC.stuck p
  |_=>cases hc
 ·rw [if_neg hc] at p;exact aC.stuck p
theorem rd_meth2 (h:tD K Wno ro (gW C C2 m (bU nN n g) (bU nN2 n2 g2) fo fr) σ H Q) :
  tD K Wno ro (iI C m (bU nN n g) fo fr) σ H Q\/tD K Wno ro (iI C2 m (bU nN2 n2 g2) fo fr) σ H Q:=by
 obtain ⟨F,ρ,r,s,p⟩:=h;cases ho:fo ρ with
 |error e=>
  refine .inl ⟨F,ρ,r,s,?_⟩;have e1:gW C C2 m (bU nN n g) (bU nN2 n2 g2) fo fr ρ=.error e:=by unfold gW;rw [ho];rfl
  have e2:iI C m (bU nN n g) fo fr ρ=.error e:=by unfold iI;rw [ho];rfl
  rw [e1] at p;rw [e2];exact p
 |ok o=>
  have e1:gW C C2 m (bU nN n g) (bU nN2 n2 g2) fo fr ρ=if isC C m o=true then (fr ρ).bind fun as=>bU nN n g (o::as) else if isC C2 m o=true then (fr ρ).bind fun as=>bU nN2 n2 g2 (o::as) else stk:=by unfold gW;rw [ho];rfl
  have e2:iI C m (bU nN n g) fo fr ρ=if isC C m o=true then (fr ρ).bind fun as=>bU nN n g (o::as) else stk:=by unfold iI;rw [ho];rfl
  have e3:iI C2 m (bU nN2 n2 g2) fo fr ρ=if isC C2 m o=true then (fr ρ).bind fun as=>bU nN2 n2 g2 (o::as) else stk:=by unfold iI;rw [ho];rfl
  rw [e1] at p;by_cases hc:isC C m o=true
  ·rw [if_pos hc] at p e2;exact .inl ⟨F,ρ,r,s,by rw [e2];exact p⟩
  ·rw [if_neg hc] at p;exact .inr ⟨F,ρ,r,s,by rw [e3];exact p⟩
noncomputable def BH (X:Cx) (o:Expr) (m:Str) (apos:Pos) (es:List Expr) (pos:Pos) (pl:Sem Bool):Prop:=eval (.Call (.Attribute o m apos) es [] pos) X.env=(do let ov <- eval o X.env;standAt apos.atName;let (f,first) <- holding [ov] (getMethod ov m pl);callWith pos f first (backTo pos (starEach es X.env)) (backToKw pos (keywordEach [] X.env)))
section
variable {fad2:Addr} {fd2:FuncData} 
theorem nV (c:Cls X.K C) (M:Meth X.K C m fad) (F:iJ X.prog X.w X.K X.mg X.base CX0 k fad fd ps (spF X.K ro (bU nN n g) n)) (hr:ip k X.A) (hb:Binds X.K fd ps []) (ho:DE X.K Wno false X o fo)
  (ht:BH X o m apos [] pos pl):DE X.K Wno ro X (.Call (.Attribute o m apos) [] [] pos) (iI C m (bU nN n g) fo aB):=
 (pe_meth0 (pl:=pl) ho c M F hr hb .nil nX ht).imp fun σ H Q h=>by
  obtain ⟨F,ρ,r,s,z⟩:=rd_meth h;refine ⟨F,ρ,r,s,?_⟩
  cases e1:fo ρ with
  |error z'=>rw [e1] at z;exact z
  |ok od=>
   rw [e1] at z;intro v F' H' st q;obtain ⟨l,dx,fs,h1,h2,h3,h4⟩:=z v F' H' st q;exact ⟨l,dx,fs,h1,h2,h3,rd_nil h4⟩
theorem uL (c:Cls K C) (M:Meth K C m fad) (F:iJ X.prog X.w X.K X.mg X.base CX0 k fad fd ps (spF K ro (bU nN n g) n)) (hr:ip k X.A) (hb:Binds X.K fd ps []) (ho:DE K Wno false X o fo)
  (hK:X.K=K:=by rfl) (ht:BH X o m apos [] pos pl:=by rfl):DE K Wno ro X (.Call (.Attribute o m apos) [] [] pos) (iI C m (bU nN n g) fo aB):=by
 subst hK;exact nV c M F hr hb ho ht
theorem pk {k2:Nat} {ps2:List Str} (c:Cls K C) (M:Meth K C m fad) (F:iJ X.prog X.w X.K X.mg X.base CX0 k fad fd ps (spF K ro (bU nN n g) n)) (hr:ip k X.A) (hb:Binds X.K fd ps [])
  (c2:Cls K C2) (M2:Meth K C2 m fad2) (F2:iJ X.prog X.w X.K X.mg X.base CX0 k2 fad2 fd2 ps2 (spF K ro (bU nN2 n2 g2) n2)) (hr2:ip k2 X.A) (hb2:Binds X.K fd2 ps2 []) (ho:DE K Wno false X o fo)
  (hK:X.K=K:=by rfl) (ht:BH X o m apos [] pos pl:=by rfl) :
  DE K Wno ro X (.Call (.Attribute o m apos) [] [] pos) (gW C C2 m (bU nN n g) (bU nN2 n2 g2) fo aB):=by
 subst hK;exact (PE.or (nV c M F hr hb ho ht) (nV c2 M2 F2 hr2 hb2 ho ht)).imp fun _ _ _=>rd_meth2
end
noncomputable def spI1 (K:Fg) (C:Addr) (g:List Dat->M Dat):Sp:=fun vs H Q _=>∃p dx v F d,vs=[.ref p,v]/\H p=some (.ins C dx [])/\F p=none/\aN F H/\aQ K F d v/\(match g [d] with
 |.ok r=>∀w F' H',aN F F'->aN F' H'->F' p=none->(∀b o,F' b=some o->F b=some o\/H b=none)->(∀c o,H c=some o->c≠p->H' c=some o)->H' p=some (.ins C dx [("gaps",w)])->aQ K F' r w->Q .non H'
 |.error e=>Wno.p e F H)
noncomputable def spI2 (K:Fg) (C:Addr) (g:List Dat->M Dat):Sp:=fun vs H Q _=>∃p dx v v2 F d d2,vs=[.ref p,v,v2]/\H p=some (.ins C dx [])/\F p=none/\aN F H/\aQ K F d v/\aQ K F d2 v2/\(match (g [d]).bind fun r=>(g [d2]).bind fun r2=>if twoL r r2=true then .ok (r,r2) else stk with
 |.ok (r,r2)=>∀w w2 F' H',aN F F'->aN F' H'->F' p=none->(∀b o,F' b=some o->F b=some o\/H b=none)->(∀c o,H c=some o->c≠p->H' c=some o)->H' p=some (.ins C dx [("gaps",w),("beside",w2)])->aQ K F' r w->aQ K F' r2 w2->Q .non H'
 |.error e=>Wno.p e F H)
theorem Step.born {x:Addr} {fs:List (Str×V)} (s:aN F H) (hx:H x=none) (hdx:H dx=none) (hne:dx≠x) (h1:aN F F') (h2:aN F' H') (h3:F' x=none) (h4:∀b o,F' b=some o->F b=some o\/upd (upd H dx (.own x)) x (.ins C dx []) b=none)
  (h5:∀c o,upd (upd H dx (.own x)) x (.ins C dx []) c=some o->c≠x->H' c=some o) (h6:H' x=some (.ins C dx fs)):Step F H (upd F' x (.ins C dx fs)) H' where
 ff:=h1.trans (aN.upd h3)
 hh:=fun c o e=>by
  have hc:c≠x:=fun h=>by rw [h,hx] at e;cases e
  have hd:c≠dx:=fun h=>by rw [h,hdx] at e;cases e
  exact h5 c o (by rw [au hc,au hd];exact e) hc
 fh:=fun c o e=>by
  by_cases hc:c=x
  ·subst hc;rw [ay] at e;rw [h6];exact e
  ·rw [au hc] at e;exact h2 _ _ e
 nw:=fun c o e=>by
  by_cases hc:c=x
  ·subst hc;exact .inr hx
  ·rw [au hc] at e;rcases h4 c o e with z|z
   ·exact .inl z
   ·refine .inr ?_;by_cases hd:c=dx
    ·subst hd;exact hdx
    ·rw [au hc,au hd] at z;exact z
theorem de_newR {g:List Dat->M Dat} (Mk':Mk X.K C fI) (FI:iJ X.prog X.w X.K X.mg X.base CX0 k fI fdI ps (spI1 K C g)) (hr:ip (k+1) X.A) (hm:X.mg x=some (.ref C)) (hb:Binds X.K fdI ps [])
  (ha:DA K Wno X [e] fr) (hg:Gl X x:=by rfl) (hdb:(x==("__debug__":Str))=false:=by decide) (hst:starEach [e] X.env=(false,eval e X.env)::starEach [] X.env:=by rfl) (hpl:(backTo pos (starEach [] X.env)).any (·.1)=false:=by rfl) :
  DE K Wno false X (.Call (.Name x p) [e] [] pos) (fL (newR C g) fr):=by
 refine PE.imp (vP Mk' FI hr hg hm hb .nil nX ha hdb hst hpl) fun σ H Q h=>?_;obtain ⟨F,ρ,r,s,p⟩:=rd_L h;refine ⟨F,ρ,r,s,?_⟩
 cases e1:fr ρ with
 |error z=>rw [e1] at p;exact p
 |ok ds=>
  rw [e1] at p;intro vs F1 H1 st q;obtain ⟨F2,es1,s1,q1,z⟩:=p vs F1 H1 st q;rcases es1 with _|⟨d,_|⟨_,_⟩⟩
  ·exact aC.stuck z
  rotate_left
  ·exact aC.stuck z
  ·obtain ⟨v,vs',rfl,qd,hn⟩:=q1;cases (show vs'=[] from hn);intro x dx hx hdx hne;refine ⟨x,dx,v,F2,d,rfl,ay,s1.free hx,fun c o e=>?_,qd,?_⟩
   ·have hc:c≠x:=fun h=>by rw [h,s1.free hx] at e;cases e
    have hd:c≠dx:=fun h=>by rw [h,s1.free hdx] at e;cases e
    rw [au hc,au hd];exact s1 _ _ e
   ·have z:aC K Wno false F2 H1 ((g [d]).bind fun r=>.ok (.ins C [("gaps",r)])) Q:=z;cases hgd:g [d] with
    |error e=>rw [hgd] at z;exact False.elim z
    |ok r=>
     rw [hgd] at z;intro w F' H' h1 h2 h3 h4 h5 h6 h7;refine ⟨rfl,z (.ref x) (upd F' x (.ins C dx [("gaps",w)])) H' (Step.born s1 hx hdx hne h1 h2 h3 h4 h5 h6) ?_⟩
     exact ⟨x,dx,_,rfl,ay,w,[],rfl,aQ.mono (aN.upd h3) h7,rfl⟩
theorem de_newP {g:List Dat->M Dat} (Mk':Mk X.K C fI) (FI:iJ X.prog X.w X.K X.mg X.base CX0 k fI fdI ps (spI2 K C g)) (hr:ip (k+1) X.A) (hm:X.mg x=some (.ref C)) (hb:Binds X.K fdI ps [])
  (ha:DA K Wno X [e,a] fr) (hg:Gl X x:=by rfl) (hdb:(x==("__debug__":Str))=false:=by decide) (hst:starEach [e,a] X.env=(false,eval e X.env)::starEach [a] X.env:=by rfl) (hpl:(backTo pos (starEach [a] X.env)).any (·.1)=false:=by rfl) :
  DE K Wno false X (.Call (.Name x p) [e,a] [] pos) (fL (newP C g) fr):=by
 refine PE.imp (vP Mk' FI hr hg hm hb .nil nX ha hdb hst hpl) fun σ H Q h=>?_;obtain ⟨F,ρ,r,s,p⟩:=rd_L h;refine ⟨F,ρ,r,s,?_⟩
 cases e1:fr ρ with
 |error z=>rw [e1] at p;exact p
 |ok ds=>
  rw [e1] at p;intro vs F1 H1 st q;obtain ⟨F2,es1,s1,q1,z⟩:=p vs F1 H1 st q;rcases es1 with _|⟨d,_|⟨d2,_|⟨_,_⟩⟩⟩
  ·exact aC.stuck z
  ·exact aC.stuck z
  rotate_left
  ·exact aC.stuck z
  ·obtain ⟨v,vs',rfl,qd,v2,vs2,rfl,qd2,hn⟩:=q1;cases (show vs2=[] from hn);intro x dx hx hdx hne;refine ⟨x,dx,v,v2,F2,d,d2,rfl,ay,s1.free hx,fun c o e=>?_,qd,qd2,?_⟩
   ·have hc:c≠x:=fun h=>by rw [h,s1.free hx] at e;cases e
    have hd:c≠dx:=fun h=>by rw [h,s1.free hdx] at e;cases e
    rw [au hc,au hd];exact s1 _ _ e
   ·have z:aC K Wno false F2 H1 ((g [d]).bind fun r=>(g [d2]).bind fun r2=>if twoL r r2=true then .ok (.ins C [("gaps",r),("beside",r2)]) else stk) Q:=z;cases hgd:g [d] with
    |error e=>rw [hgd] at z;exact False.elim z
    |ok r=>
     rw [hgd,aq] at z;cases hgd2:g [d2] with
     |error e=>rw [hgd2] at z;exact False.elim z
     |ok r2=>
      rw [hgd2,aq] at z;by_cases ht:twoL r r2=true
      ·rw [if_pos ht] at z;rw [aq,aq,if_pos ht];intro w w2 F' H' h1 h2 h3 h4 h5 h6 h7 h8;refine ⟨rfl,z (.ref x) (upd F' x (.ins C dx [("gaps",w),("beside",w2)])) H' (Step.born s1 hx hdx hne h1 h2 h3 h4 h5 h6) ?_⟩
       exact ⟨x,dx,_,rfl,ay,w,_,rfl,aQ.mono (aN.upd h3) h7,w2,[],rfl,aQ.mono (aN.upd h3) h8,rfl⟩
      ·rw [if_neg ht] at z;exact aC.stuck z
end
noncomputable def Itz (K:Fg) (a b:Addr):It:=
 ⟨fun i H=>∃xs ys x y,SqL K H a xs/\SqL K H b ys/\xs[i]? =some x/\ys[i]? =some y,fun i H v H'=>∃T x y,H T=none/\v=.ref T/\H'=upd H T (.tup [x,y])/\(∀xs,SqL K H a xs->xs[i]? =some x)/\∀ys,SqL K H b ys->ys[i]? =some y,fun i H=>∃xs ys,SqL K H a xs/\SqL K H b ys/\(xs.length<=i\/ys.length<=i)⟩
theorem turn_zip {z TI TO i1 i2 l1 l2:Addr} (D:ZipApart z TI TO i1 i2 l1 l2) :
  Turn P w K (.Tuple elts k pos) (Itz K l1 l2) [z,TI,TO,i1,i2] z (fun i h=>IsZip h z TI TO .none/\IsPair h TI (.ref i1) (.ref i2)/\(∃a b,IsPair h TO a b)/\h.IsListIter i1 l1 i/\h.IsListIter i2 l2 i) where
 mem:=by simp
 obj:=fun i h st b hb=>by
  obtain ⟨hz,hTI,⟨a,c,hTO⟩,⟨o1,e1,c1,d1⟩,⟨o2,e2,c2,d2⟩⟩:=st;simp only [List.mem_cons,List.not_mem_nil,or_false] at hb;rcases hb with rfl|rfl|rfl|rfl|rfl
  ·exact ⟨_,hz,fun v q=>by cases q⟩
  ·exact ⟨_,hTI,fun v q=>by cases q⟩
  ·exact ⟨_,hTO,fun v q=>by cases q⟩
  ·exact ⟨o1,e1,fun v q=>by rw [d1] at q;cases q⟩
  ·exact ⟨o2,e2,fun v q=>by rw [d2] at q;cases q⟩
 keep:=fun i h h' st kk=>by
  obtain ⟨hz,hTI,⟨a,c,hTO⟩,h1,h2⟩:=st;exact ⟨kk z (by simp) _ hz,kk TI (by simp) _ hTI,⟨a,c,kk TO (by simp) _ hTO⟩,h1.at fun o x=>kk i1 (by simp) o x,h2.at fun o x=>kk i2 (by simp) o x⟩
 item:=by
  intro X hP hw hK hc i pins s σ H E I hf st hg;subst hP hw hK;obtain ⟨hz,hTI,⟨a,c,hTO⟩,h1,h2⟩:=st;obtain ⟨xs,ys,x,y,hx,hy,gx,gy⟩:=hg;obtain ⟨its,rv,p,_⟩:=I.list hx;obtain ⟨its2,rv2,p2,_⟩:=I.list hy;obtain ⟨u,hu,ru⟩:=rv.get gx;obtain ⟨u2,hu2,ru2⟩:=rv2.get gy;refine wpAny_pyNext_zip_item D hz hTI hTO h1 h2 p.isList p2.isList (x:=u) (y:=u2) (by simpa using hu) (by simpa using hu2) fun h' a1 a2 a3 a4 a5 a6 a7=>?_;refine ⟨_,rfl,wpAny_letOwnedTupleGo_zip a1 fun h2' b1 b2=>?_⟩
  have lz:z<s.heap.objs.size:=Heap.lt_size hz;have lTI:TI<s.heap.objs.size:=Heap.lt_size hTI;have lTO:TO<s.heap.objs.size:=Heap.lt_size hTO;have li1:i1<s.heap.objs.size:=by obtain ⟨o,e,_⟩:=h1;exact Heap.lt_size e
  have li2:i2<s.heap.objs.size:=by obtain ⟨o,e,_⟩:=h2;exact Heap.lt_size e
  have I1:Inv X pins σ (upd H s.heap.objs.size (.tup [x,y])) {s with heap:=h2',toks:=s.toks}:=I.zD (ch:=[z,TI,TO,i1,i2]) hf (fun b o hb q=>by
    simp only [List.mem_cons,List.not_mem_nil,or_false,not_or] at hb;exact (b2.2 b hb.1).trans (a7 b o hb.1 hb.2.2.1 hb.2.2.2.1 hb.2.2.2.2 q)) (Nat.le_refl _) ⟨by show 2<=sizeLine;decide,[u,u2],.cons ru (.cons ru2 .nil),⟨_,(b2.2 _ (Nat.ne_of_gt lz)).trans a5,rfl,0,rfl⟩⟩
  refine ⟨.ref s.heap.objs.size,_,I1,rfl,⟨s.heap.objs.size,x,y,I.hok.fresh (Nat.le_refl _),rfl,rfl,fun zs hq=>by rw [I.mY hq hx];exact gx,fun zs hq=>by rw [I.mY hq hy];exact gy⟩,
   ⟨b1,(b2.2 _ D.TIz).trans (a7 TI _ D.TIz D.TITO D.TIi1 D.TIi2 hTI),⟨_,_,(b2.2 _ D.TOz).trans a2⟩,a3.at fun o q=>(b2.2 _ D.i1z).trans q,a4.at fun o q=>(b2.2 _ D.i2z).trans q⟩,fun b hb=>?_⟩
  have hbn:=(hf b hb).1;have:b≠s.heap.objs.size:=by
   simp only [List.mem_cons,List.not_mem_nil,or_false] at hb;rcases hb with rfl|rfl|rfl|rfl|rfl<;>exact Nat.ne_of_lt (by assumption)
  rw [au this];exact hbn
 done:=by
  intro X hP hw hK hc i pins s σ H E I hf st hg;subst hP hw hK;obtain ⟨hz,hTI,⟨a,c,hTO⟩,h1,h2⟩:=st;obtain ⟨xs,ys,hx,hy,hend⟩:=hg;obtain ⟨its,rv,p,_⟩:=I.list hx;obtain ⟨its2,rv2,p2,_⟩:=I.list hy;have e1:=rv.length;have e2:=rv2.length;refine wpAny_pyNext_zip_end (I.ok.hd hc) D hz hTI hTO h1 h2 p.isList p2.isList ?_ fun h' hk=>⟨rfl,I.zE (t':=s.toks) (ch:=[z,TI,TO,i1,i2]) hf fun b o hb q=>?_⟩
  ·rcases hend with z|z
   ·exact .inl (Array.getElem?_eq_none (by simp;omega))
   ·exact .inr (Array.getElem?_eq_none (by simp;omega))
  ·simp only [List.mem_cons,List.not_mem_nil,or_false,not_or] at hb;exact hk b o hb.1 hb.2.2.1 hb.2.2.2.1 hb.2.2.2.2 q
 self:=fun _ _ _ _ _ st h=>wpAny_pyIter_zip st.1 h
theorem wZ:∀(ds es:List Dat) (i:Nat),(mi ds es)[i]? =(ds[i]?).bind fun d=>(es[i]?).map fun e=>.tup [d,e]
 |[],es,i=>by simp [mi]
 |d::ds,[],i=>by cases h:(d::ds)[i]?<;>simp [mi]
 |d::ds,e::es,0=>by simp [mi]
 |d::ds,e::es,i+1=>by rw [mi,List.getElem?_cons_succ,wZ ds es i,List.getElem?_cons_succ,List.getElem?_cons_succ]
theorem rq:∀(ds es:List Dat),(mi ds es).length=min ds.length es.length
 |[],es=>by simp [mi]
 |d::ds,[]=>by simp [mi]
 |d::ds,e::es=>by rw [mi,List.length_cons,rq ds es,List.length_cons,List.length_cons];omega
theorem iter_zip {es:List Dat} (t:SqL K F a xs) (z:az K F ds xs) (t2:SqL K F b ys) (z2:az K F es ys):vc K F (Itz K a b) (mi ds es) where
 go:=fun i F' H' s1 s2 hi=>by
  rw [rq] at hi;exact ⟨xs,ys,xs[i]'(by rw [z.length];omega),ys[i]'(by rw [z2.length];omega),s2.lst (s1.lst t),s2.lst (s1.lst t2),List.getElem?_eq_getElem _,List.getElem?_eq_getElem _⟩
 yl:=fun i F' H' x H2 d s1 s2 hd hy=>by
  obtain ⟨T,x1,y1,hT,ex,eH,h1,h2⟩:=hy;subst ex eH;rw [wZ] at hd;cases hds:ds[i]? with
  |none=>rw [hds] at hd;cases hd
  |some d1=>
   cases hes:es[i]? with
   |none=>rw [hds,hes] at hd;cases hd
   |some d2=>
    rw [hds,hes] at hd;simp at hd;subst hd;obtain ⟨v,e1,q⟩:=z.get hds;obtain ⟨v2,e2,q2⟩:=z2.get hes;have e3:=h1 xs (s2.lst (s1.lst t));have e4:=h2 ys (s2.lst (s1.lst t2));rw [e1] at e3;rw [e2] at e4;cases e3;cases e4;refine ⟨upd F' T (.tup [x1,y1]),Step.lay s2 hT,T,_,rfl,SqT.of ay,?_⟩
    exact ⟨x1,[y1],rfl,(q.mono s1).mono (aN.upd (s2.free hT)),y1,[],rfl,(q2.mono s1).mono (aN.upd (s2.free hT)),rfl⟩
 st:=fun F' H' s1 s2=>⟨xs,ys,s2.lst (s1.lst t),s2.lst (s1.lst t2),by rw [z.length,z2.length,rq];omega⟩
section
variable {W:du} {a b:Expr} 
noncomputable def iZip (K:Fg) (ta tb:TE):TI:=fun σ H R=>ta σ H fun x H1=>tb σ H1 fun y H2=>∃a b,x=.ref a/\y=.ref b/\(∃xs,SqL K H2 a xs)/\(∃ys,SqL K H2 b ys)/\R (Itz K a b) H2
theorem pi_zip (hg:Gl X "zip") (hm:X.mg "zip"=none) (ha:PE X a ta) (hb:PE X b tb) (hs:starEach [a,b] X.env=[(false,eval a X.env),(false,eval b X.env)]) (hs2:starEach [b] X.env=[(false,eval b X.env)]) :
  PI X (.Tuple elts k q) (.Call (.Name "zip" p) [a,b] [] pos) (iZip X.K ta tb):=by
 intro pins s σ H R I h;have hA:PA X [a,b] (aX ta (aX tb fU)):=aA ha (aA hb aY hs2) (by rw [hs,hs2]);refine Call_ (qI I hg hm boot_zip (PyProof.Rows.callWith_type1 (thn (hA pos pins s σ H (fun vs H1=>match vs with
  |[x,y]=>∃a b,x=.ref a/\y=.ref b/\(∃xs,SqL X.K H1 a xs)/\(∃ys,SqL X.K H1 b ys)/\R (Itz X.K a b) H1
  |_=>False) I h) fun us s1 ⟨vs,H1,I1,r1,q1⟩=>?_) (by rw [hs,hs2]) (by rw [hs2];rfl)))
 match vs,r1,q1 with
 |[x,y],r1,⟨l,l2,e1,e2,⟨xs,hq⟩,⟨ys,hq2⟩,q⟩=>
  subst e1 e2;obtain ⟨u,u2,rfl,ru,ru2⟩:=r1.two;cases ru;cases ru2;obtain ⟨its,rv,pl,_⟩:=I1.list hq;obtain ⟨its2,rv2,pl2,_⟩:=I1.list hq2;have a1:l<s1.heap.objs.size:=by obtain ⟨_,e,_⟩:=pl.isList;exact Heap.lt_size e
  have a2:l2<s1.heap.objs.size:=by obtain ⟨_,e,_⟩:=pl2.isList;exact Heap.lt_size e
  refine call_zip_2 pl.isList pl2.isList fun h' hz hTI hTO hi1 hi2 hsz hk=>?_;have I2:Inv X pins σ H1 {s1 with heap:=h'}:=I1.kept (t':=s1.toks) hk;refine wpAny_pyIter_zip hz ?_;refine ⟨s1.heap.objs.size+4,[s1.heap.objs.size+4,s1.heap.objs.size+2,s1.heap.objs.size+3,s1.heap.objs.size,s1.heap.objs.size+1],_,_,H1,rfl,I2,turn_zip (zipApart_new a1 a2),⟨hz,hTI,⟨_,_,hTO⟩,hi1,hi2⟩,fun b hb=>?_,q⟩
  have hb2:s1.heap.objs.size<=b:=by
   simp only [List.mem_cons,List.not_mem_nil,or_false] at hb;rcases hb with rfl|rfl|rfl|rfl|rfl
   ·exact Nat.le_add_right _ 4
   ·exact Nat.le_add_right _ 2
   ·exact Nat.le_add_right _ 3
   ·exact Nat.le_refl _
   ·exact Nat.le_add_right _ 1
  exact I1.fpOk hb2 (I1.hok.fresh hb2)
theorem ri_zip {R:It->Hp->Prop} (h:iD K W (yY fa fb) σ H R):iZip K (tD K W false fa) (tD K W false fb) σ H R:=by
 obtain ⟨F,ρ,r,s,p⟩:=h;refine aT r s (fun e he=>?_) fun d hd v F1 H1 s1 q1=>?_
 ·have z:yY fa fb ρ=.error e:=by unfold yY;rw [he];rfl
  rw [z] at p;exact p
 ·refine aT (r.mono s1.ff) s1.fh (fun e he=>?_) fun d2 hd2 v2 F2 H2 s2 q2=>?_
  ·have z:yY fa fb ρ=.error e:=by unfold yY;rw [hd,aq,he];rfl
   rw [z] at p;exact W.mono p s1
  ·have z:yY fa fb ρ=(jC d).bind fun ds=>(jC d2).bind fun es=>.ok (mi ds es):=by unfold yY;rw [hd,aq,hd2,aq]
   rw [z] at p;cases d with
   |lst ds=>
    cases d2 with
    |lst es=>
     obtain ⟨b,xs,e,t,zz⟩:=q1;obtain ⟨b2,ys,e2,t2,zz2⟩:=q2;have t':=s2.ff.lst t;exact ⟨b,b2,e,e2,⟨xs,s2.fh.lst t'⟩,⟨ys,s2.fh.lst t2⟩,p _ F2 H2 (s1.trans s2) (iter_zip t' (zz.mono s2.ff) t2 zz2)⟩
    |_=>exact (W.ns p).elim
   |_=>exact (W.ns p).elim
theorem xU (hm:X.mg "zip"=none) (ha:DE K W false X a fa) (hb:DE K W false X b fb) (hg:Gl X "zip":=by rfl) (hs:starEach [a,b] X.env=[(false,eval a X.env),(false,eval b X.env)]:=by rfl) (hs2:starEach [b] X.env=[(false,eval b X.env)]:=by rfl) (hK:X.K=K:=by rfl) :
  DI K W X (.Tuple elts k q) (.Call (.Name "zip" p) [a,b] [] pos) (yY fa fb):=by
 subst hK;exact (pi_zip hg hm ha hb hs hs2).imp fun _ _ _=>ri_zip
end
theorem xt {n:Nat}:∀{ds:List Dat} {d:Dat},jt ds n=true->d∈ds->okE d n=true
 |[],d,_,h=>by simp at h
 |a::ds,d,h,hd=>by
  unfold jt at h;simp only [Bool.and_eq_true] at h;rcases List.mem_cons.mp hd with e|e
  ·rw [e];exact h.1
  ·exact xt h.2 e
section
variable {W:du} {own:Bool}
open Classical in
theorem has_D (I:Inv X pins σ H s) (hF:aN F H) {a:Dat} {x:V} (od:jt ds 40=true) (oa:okE a 40=true) (qs:az X.K F ds xs) (rv:Vals xs its) (qa:aQ X.K F a x) (ra:RelV x u) (hu:A.units+40<cLine) :
  ∃e:Value->Bool,(∀y,y∈its.toArray->SeqAt.EqAt A s y u (e y))/\its.toArray.any e=ds.any fun d=>eqD d a:=by
 have each:∀(i:Nat) (y:Value),its[i]? =some y->∃d,ds[i]? =some d/\SeqAt.EqAt A s y u (eqD d a):=fun i y hy=>by
  have hi:i<its.length:=(List.getElem?_eq_some_iff.mp hy).1;have h1:i<xs.length:=by rw [rv.length];exact hi
  have h2:i<ds.length:=by rw [<- qs.length];exact h1
  obtain ⟨v,e1,q1⟩:=qs.get (List.getElem?_eq_getElem h2);obtain ⟨w,e2,r2⟩:=rv.get e1;rw [hy] at e2;cases e2;exact ⟨_,List.getElem?_eq_getElem h2,Bd I hF _ a (xt od (List.getElem_mem h2)) oa q1 qa r2 ra hu⟩
 refine ⟨fun y=>decide (∃(i:Nat) (d:Dat),its[i]? =some y/\ds[i]? =some d/\eqD d a=true),fun y hy=>?_,?_⟩
 ·by_cases h:∃(i:Nat) (d:Dat),its[i]? =some y/\ds[i]? =some d/\eqD d a=true
  ·obtain ⟨i,d,h1,h2,h3⟩:=h;obtain ⟨d',h4,h5⟩:=each i y h1;rw [h2] at h4;cases h4;rw [h3] at h5;have:decide (∃(i:Nat) (d:Dat),its[i]? =some y/\ds[i]? =some d/\eqD d a=true)=true:=decide_eq_true ⟨i,d,h1,h2,h3⟩;show SeqAt.EqAt A s y u (decide _);rw [this];exact h5
  ·have hm:y∈its:=by simpa using hy
   obtain ⟨i,hi⟩:=List.getElem?_of_mem hm;obtain ⟨d,h4,h5⟩:=each i y hi;have h6:eqD d a=false:=by
    cases hq:eqD d a with
    |false=>rfl
    |true=>exact absurd ⟨i,d,hi,h4,hq⟩ h
   rw [h6] at h5;show SeqAt.EqAt A s y u (decide _);rw [decide_eq_false h];exact h5
 ·rw [Bool.eq_iff_iff];simp only [List.any_toArray,List.any_eq_true,decide_eq_true_eq];constructor
  ·rintro ⟨y,hy,i,d,h1,h2,h3⟩;exact ⟨d,List.mem_of_getElem? h2,h3⟩
  ·rintro ⟨d,hd,h3⟩;obtain ⟨i,hi⟩:=List.getElem?_of_mem hd;have h2:i<ds.length:=(List.getElem?_eq_some_iff.mp hi).1;have h4:i<its.length:=by rw [<- rv.length,qs.length];exact h2
   exact ⟨its[i],List.getElem_mem h4,i,d,List.getElem?_eq_getElem h4,hi,h3⟩
theorem o_in (hu:X.A.units+64<cLine) (hK:X.K=K:=by rfl):Op2 K W own X (compareOp .In) inM:=by
 subst hK;intro pins s σ H x y v u Q I rx ry h;obtain ⟨F,a,b,s1,qa,qb,p⟩:=h;have hu1:X.A.in1.units+40<cLine:=by show X.A.units+1+40<cLine;omega
 cases b with
 |lst ds=>
  obtain ⟨l,xs,e,t,z⟩:=qb;subst e;cases ry;have p':aC X.K W own F H (if (okE a 40&&jt ds 40)=true then .ok (.bl (ds.any fun d=>eqD d a)) else stk) Q:=p;by_cases hc:(okE a 40&&jt ds 40)=true
  ·rw [if_pos hc] at p';simp only [Bool.and_eq_true] at hc;obtain ⟨its,rv,pl,_⟩:=I.list (s1.lst t);obtain ⟨e,he,ha⟩:=has_D (A:=X.A.in1) I s1 hc.2 hc.1 z rv qa rx hu1;refine SeqAt.in_listAt e pl.isList he ?_;rw [ha];exact p'.blS s1 I
  ·rw [if_neg hc] at p';exact p'.stuck
 |tup ds=>
  obtain ⟨l,xs,e,t,z⟩:=qb;subst e;cases ry;have p':aC X.K W own F H (if (okE a 40&&jt ds 40)=true then .ok (.bl (ds.any fun d=>eqD d a)) else stk) Q:=p;by_cases hc:(okE a 40&&jt ds 40)=true
  ·rw [if_pos hc] at p';simp only [Bool.and_eq_true] at hc;obtain ⟨its,rv,pl,_⟩:=I.tuple (s1.tup t);obtain ⟨e,he,ha⟩:=has_D (A:=X.A.in1) I s1 hc.2 hc.1 z rv qa rx hu1;refine SeqAt.in_tupleAt e (show s.heap.IsTuple l its.toArray from pl) he ?_;rw [ha];exact p'.blS s1 I
  ·rw [if_neg hc] at p';exact p'.stuck
 |_=>exact aC.stuck p
theorem og (hu:X.A.units+64<cLine) (hK:X.K=K:=by rfl):Op2 K W own X (compareOp .NotIn) iy:=by
 subst hK;intro pins s σ H x y v u Q I rx ry h;obtain ⟨F,a,b,s1,qa,qb,p⟩:=h;have hu1:X.A.in1.units+40<cLine:=by show X.A.units+1+40<cLine;omega
 cases b with
 |lst ds=>
  obtain ⟨l,xs,e,t,z⟩:=qb;subst e;cases ry;have p':aC X.K W own F H (if (okE a 40&&jt ds 40)=true then .ok (.bl (!ds.any fun d=>eqD d a)) else stk) Q:=p;by_cases hc:(okE a 40&&jt ds 40)=true
  ·rw [if_pos hc] at p';simp only [Bool.and_eq_true] at hc;obtain ⟨its,rv,pl,_⟩:=I.list (s1.lst t);obtain ⟨e,he,ha⟩:=has_D (A:=X.A.in1) I s1 hc.2 hc.1 z rv qa rx hu1;refine SeqAt.notIn_listAt e pl.isList he ?_;rw [ha];exact p'.blS s1 I
  ·rw [if_neg hc] at p';exact p'.stuck
 |tup ds=>
  obtain ⟨l,xs,e,t,z⟩:=qb;subst e;cases ry;have p':aC X.K W own F H (if (okE a 40&&jt ds 40)=true then .ok (.bl (!ds.any fun d=>eqD d a)) else stk) Q:=p;by_cases hc:(okE a 40&&jt ds 40)=true
  ·rw [if_pos hc] at p';simp only [Bool.and_eq_true] at hc;obtain ⟨its,rv,pl,_⟩:=I.tuple (s1.tup t);obtain ⟨e,he,ha⟩:=has_D (A:=X.A.in1) I s1 hc.2 hc.1 z rv qa rx hu1;refine SeqAt.notIn_tupleAt e (show s.heap.IsTuple l its.toArray from pl) he ?_;rw [ha];exact p'.blS s1 I
  ·rw [if_neg hc] at p';exact p'.stuck
 |_=>exact aC.stuck p
end
noncomputable abbrev ZRec (h:Heap) (z p q:Addr) (m k:Value):Prop:=h.get? z=some {cls:=.type "zip",dict:=none,data:=.fields #[m,k,.bool false,.ref p,.ref q],slots:=#[]}
structure Zs (z p q u v l m:Addr) (r k a b:Value) (i j:Nat) (xs ys:Array Value) (h:Heap):Prop where
 me:ZRec h z p q r k
 its:IsPair h p (.ref u) (.ref v)
 own:IsPair h q a b
 one:h.IsListIter u l i
 two:h.IsListIter v m j
 xl:h.IsList l xs
 yl:h.IsList m ys
noncomputable def Off (z q u v:Addr) (h h':Heap):Prop:=∀c o,c≠z->c≠q->c≠u->c≠v->h.get? c=some o->h'.get? c=some o
section
variable {z q u v:Addr} {a b:Value} {g:Heap}
theorem Off.then (A:Off z q u v h h') (B:Off z q u v h' g):Off z q u v h g:=fun c o a b d e x=>B c o a b d e (A c o a b d e x)
end
theorem Step.stays (s:Step F H F' H') (n:F a=none) (h:H a=some o):F' a=none:=by
 cases e:F' a with
 |none=>rfl
 |some u=>
  rcases s.nw a u e with z|z
  ·rw [n] at z;cases z
  ·rw [h] at z;cases z
structure lh (K:Fg) (F G H:Hp) (ds:List Dat) (vs:List V):Prop where
 len:vs.length=ds.length
 get:∀(k:Nat) (d:Dat),ds[k]? =some d->∃a xs es,vs[k]? =some (.ref a)/\d=.lst es/\H a=some (.lst xs)/\F a=none/\G a=none/\az K F es xs
 ap:∀(j k:Nat) (a:Addr),vs[j]? =some (.ref a)->vs[k]? =some (.ref a)->j=k
section
theorem lh.nil:lh K F G H [] []:=⟨rfl,fun k d e=>by simp at e,fun j k a e=>by simp at e⟩
theorem lh.step (o:lh K F G H ds vs) (s:Step F H F' H'):lh K F' G H' ds vs where
 len:=o.len
 get:=fun k d e=>by
  obtain ⟨a,xs,es,h1,h2,h3,h4,h5,h6⟩:=o.get k d e;exact ⟨a,xs,es,h1,h2,s.hh _ _ h3,s.stays h4 h3,h5,h6.mono s.ff⟩
 ap:=o.ap
theorem lh.back (o:lh K F G H ds vs) (s:aN G' G):lh K F G' H ds vs where
 len:=o.len
 get:=fun k d e=>by
  obtain ⟨a,xs,es,h1,h2,h3,h4,h5,h6⟩:=o.get k d e;exact ⟨a,xs,es,h1,h2,h3,h4,s.free h5,h6⟩
 ap:=o.ap
theorem lh.at (o:lh K F G H ds vs) {k:Nat} {a:Addr} (h:vs[k]? =some (.ref a)):∃xs es,ds[k]? =some (.lst es)/\H a=some (.lst xs)/\F a=none/\G a=none/\az K F es xs:=by
 have hk:k<ds.length:=by rw [<- o.len];exact (List.getElem?_eq_some_iff.mp h).1
 obtain ⟨b,xs,es,h1,h2,h3,h4,h5,h6⟩:=o.get k ds[k] (by simp [hk]);rw [h] at h1;cases h1;exact ⟨xs,es,by rw [<- h2];simp [hk],h3,h4,h5,h6⟩
theorem lh.add (o:lh K F G H ds vs) {es:List Dat} (new:∀k:Nat,vs[k]?≠some (.ref a)) (h3:H a=some (.lst xs)) (h4:F a=none) (h5:G a=none) (h6:az K F es xs):lh K F G H (ds++[.lst es]) (vs++[.ref a]) where
 len:=by simp [o.len]
 get:=fun k d e=>by
  rcases Nat.lt_trichotomy k ds.length with z|z|z
  ·rw [List.getElem?_append_left z] at e;obtain ⟨b,ys,fs,g1,g2⟩:=o.get k d e;exact ⟨b,ys,fs,by rw [List.getElem?_append_left (by rw [o.len];exact z)];exact g1,g2⟩
  ·subst z;simp at e;refine ⟨a,xs,es,?_,e.symm,h3,h4,h5,h6⟩
   rw [<- o.len];simp
  ·have:=(List.getElem?_eq_some_iff.mp e).1;simp at this;omega
 ap:=fun j k b e1 e2=>by
  have key:∀m,(vs++[V.ref a])[m]? =some (.ref b)->(m<vs.length/\vs[m]? =some (.ref b))\/(m=vs.length/\b=a):=fun m e=>by
   rcases Nat.lt_trichotomy m vs.length with z|z|z
   ·rw [List.getElem?_append_left z] at e;exact .inl ⟨z,e⟩
   ·subst z;simp at e;exact .inr ⟨rfl,e.symm⟩
   ·have:=(List.getElem?_eq_some_iff.mp e).1;simp at this;omega
  rcases key j e1 with ⟨_,u1⟩|⟨u1,u2⟩<;>rcases key k e2 with ⟨_,w1⟩|⟨w1,w2⟩
  ·exact o.ap j k b u1 w1
  ·subst w2;exact absurd u1 (new j)
  ·subst u2;exact absurd w1 (new k)
  ·omega
end
section
variable {W:du} 
theorem rd_turns {p:Pat} {R:List V->Hp->Prop} (r:dP K F σ ρ) (s:aN F H) (hL:∀ρ d,fe ρ=.ok d->∃es,d=.lst es) (hE:∀e,bY fi ix p ft fe ρ=.error e->W.p e F H)
  (hO:∀rs,bY fi ix p ft fe ρ=.ok (.lst rs)->∀ys F2 H2,Step F H F2 H2->lh K F2 H H2 rs ys->R ys H2):iD K W fi σ H fun J H1=>kU J ix (gP K p) (tDT K W ft) (tD K W true fe) σ R H1:=by
 refine ⟨F,ρ,r,s,?_⟩
 cases hf:fi ρ with
 |error e=>exact hE e (by unfold bY;rw [hf];rfl)
 |ok ds=>
  intro J F1 H1 s1 it;have e0:bY fi ix p ft fe ρ=if ds.length<=sizeLine then (aL p ft fe (dR ix ρ) ds).bind fun r=>.ok (.lst r) else .error .stuck:=by unfold bY;rw [hf];rfl
  by_cases hl:ds.length<=sizeLine
  ·rw [if_pos hl] at e0;rw [e0] at hE hO;refine ⟨fun i m ys H2=>m=ds.length-i/\i<=ds.length/\∃F2 yd,Step F1 H1 F2 H2/\lh K F2 H1 H2 yd ys/\yd.length<=i /\
    (match aL p ft fe (dR ix ρ) (ds.drop i) with
     |.ok rr=>aL p ft fe (dR ix ρ) ds=.ok (yd++rr)
     |.error e=>W.p e F H),⟨ds.length,by omega,Nat.zero_le _,F1,[],Step.refl s1.fh,lh.nil,Nat.zero_le _,?_⟩,?_⟩
   ·rw [List.drop_zero];cases e:aL p ft fe (dR ix ρ) ds with
    |ok rr=>rfl
    |error x=>exact hE x (by rw [e];rfl)
   ·rintro i m ys H2 ⟨rfl,hi,F2,yd,s2,dy,ly,hc⟩;have lys:ys.length<=sizeLine:=by rw [dy.len];omega
    by_cases hlt:i<ds.length
    ·have ed:ds.drop i=ds[i]::ds.drop (i+1):=List.drop_eq_getElem_cons hlt;rw [ed] at hc;refine .inr ⟨it.go i F2 H2 s2.ff s2.fh hlt,lys,fun ys' H'=>(i+1<=ds.length/\∃F2 yd,Step F1 H1 F2 H'/\lh K F2 H1 H' yd ys'/\yd.length<=i+1 /\
      (match aL p ft fe (dR ix ρ) (ds.drop (i+1)) with
       |.ok rr=>aL p ft fe (dR ix ρ) ds=.ok (yd++rr)
       |.error e=>W.p e F H)),fun ys' H' n=>⟨ds.length-(i+1),by omega,rfl,n⟩,fun x H' y=>?_⟩
     obtain ⟨F3,s3,q3⟩:=it.yl i F2 H2 x H' ds[i] s2.ff s2.fh (by simp [hlt]) y;have r3:dP K F3 (L2.inS ix σ) (dR ix ρ):=(r.mono (s1.trans (s2.trans s3)).ff).inS ix;have st3:Step F H F3 H':=s1.trans (s2.trans s3);have ec:aL p ft fe (dR ix ρ) (ds[i]::ds.drop (i+1))=(gz p ds[i] (dR ix ρ)).bind fun ρ1=>(ft ρ1).bind fun b=>if b=true then (fe ρ1).bind fun y=>(aL p ft fe (dR ix ρ) (ds.drop (i+1))).bind fun r=>.ok (y::r) else aL p ft fe (dR ix ρ) (ds.drop (i+1)):=by rw [aL]
     rw [ec] at hc;cases hb:gz p ds[i] (dR ix ρ) with
     |error e=>
      rw [hb] at hc;have:=kZ hb;subst this;exact (W.ns hc).elim
     |ok ρ1=>
      rw [hb] at hc;refine gP_run r3 s3.fh q3 hb fun σ2 r4=>?_;have hc1:match ((ft ρ1).bind fun b=>if b=true then (fe ρ1).bind fun y=>(aL p ft fe (dR ix ρ) (ds.drop (i+1))).bind fun r=>.ok (y::r) else aL p ft fe (dR ix ρ) (ds.drop (i+1))) with
       |.ok rr=>aL p ft fe (dR ix ρ) ds=.ok (yd++rr)
       |.error e=>W.p e F H:=hc
      refine fV r4 s3.fh (fun e he=>by rw [he] at hc1;exact W.mono hc1 st3) fun b hb2 F5 H5 s5=>?_;rw [hb2] at hc1;cases b with
      |false=>
       have hc2:match aL p ft fe (dR ix ρ) (ds.drop (i+1)) with
        |.ok rr=>aL p ft fe (dR ix ρ) ds=.ok (yd++rr)
        |.error e=>W.p e F H:=hc1
       exact ⟨hlt,F5,yd,s2.trans (s3.trans s5),dy.step (s3.trans s5),by omega,hc2⟩
      |true=>
       have hc2:match ((fe ρ1).bind fun y=>(aL p ft fe (dR ix ρ) (ds.drop (i+1))).bind fun r=>.ok (y::r)) with
        |.ok rr=>aL p ft fe (dR ix ρ) ds=.ok (yd++rr)
        |.error e=>W.p e F H:=hc1
       refine aT (r4.mono s5.ff) s5.fh (fun e he=>by rw [he] at hc2;exact W.mono hc2 (st3.trans s5)) fun d hd v F6 H6 s6 q6=>?_;rw [hd] at hc2;obtain ⟨es,rfl⟩:=hL _ _ hd;obtain ⟨a,xs,ev,g1,g2,g3,g4⟩:=q6;subst ev;have d5:=dy.step (s3.trans s5);refine ⟨hlt,F6,yd++[.lst es],s2.trans (s3.trans (s5.trans s6)),(d5.step s6).add (fun k hk=>?_) g1 g2 ((s2.trans (s3.trans s5)).hh.free g3) g4,by simp;omega,?_⟩
       ·obtain ⟨_,_,_,z,_⟩:=d5.at hk;rw [g3] at z;cases z
       ·have hc3:match ((aL p ft fe (dR ix ρ) (ds.drop (i+1))).bind fun r=>.ok (Dat.lst es::r):M (List Dat)) with
         |.ok rr=>aL p ft fe (dR ix ρ) ds=.ok (yd++rr)
         |.error e=>W.p e F H:=hc2
        cases e7:aL p ft fe (dR ix ρ) (ds.drop (i+1)) with
        |ok rr=>
         rw [e7] at hc3;show _=Except.ok ((yd++[Dat.lst es])++rr);rw [List.append_assoc];exact hc3
        |error x=>rw [e7] at hc3;exact hc3
    ·have:i=ds.length:=by omega
     subst this;rw [List.drop_length] at hc;have hc':aL p ft fe (dR ix ρ) ds=.ok (yd++[]):=hc;rw [List.append_nil] at hc';exact .inl ⟨it.st F2 H2 s2.ff s2.fh,lys,hO yd (by rw [hc'];rfl) ys F2 H2 (s1.trans s2) (dy.back s1.hh)⟩
  ·rw [if_neg hl] at e0;exact (W.ns (hE .stuck e0)).elim
end
noncomputable def lstOf:Dat->M (List Dat)
 |.lst ds=>.ok ds
 |_=>.error .stuck
noncomputable def rowAt (rs:List Dat) (a:Int):M (Nat×List Dat):=match ixN rs.length a with
 |some j=>(match rs[j]? with
  |some (.lst es)=>.ok (j,es)
  |_=>.error .stuck)
 |none=>.error .stuck
noncomputable def setRow (rs:List Dat) (je:Nat×List Dat) (b:Int) (x:Dat):M (List Dat):=match ixN je.2.length b with
 |some k=>.ok (rs.set je.1 (.lst (je.2.set k x)))
 |none=>.error .stuck
noncomputable def rows3 (i:Nat) (rs:List Dat) (x:Dat) (je:Nat×List Dat) (fB:ai->M Dat) (ρ:ai):M Flo:=(fB (ρ.set i none)).bind fun b=>(asI b).bind fun b=>(setRow rs je b x).bind fun rs'=>.ok (.nx (ρ.set i (some (.lst rs'))))
noncomputable def rows2 (i:Nat) (rs:List Dat) (x:Dat) (fA fB:ai->M Dat) (ρ:ai):M Flo:=(fA (ρ.set i none)).bind fun a=>(asI a).bind fun a=>(rowAt rs a).bind fun je=>rows3 i rs x je fB ρ
theorem AH {fr:ai->M (List Dat)}:∀ρ d,fL kr fr ρ=.ok d->∃es,d=.lst es:=fun ρ d h=>by
 unfold fL at h;cases e:fr ρ with
 |error x=>rw [e] at h;cases h
 |ok ds=>
  rw [e] at h;have h:kr ds=.ok d:=h;unfold kr at h;split at h
  all_goals first
   |(cases h;done)
   |(split at h<;>first|(cases h;done)|(cases h;exact ⟨_,rfl⟩))
   |(cases h;exact ⟨_,rfl⟩)
structure RepR (K:Fg) (F0 H0 FB:Hp) (i:Nat) (a:Addr) (ys:List V) (rs:List Dat) (F H:Hp) (σ:St) (ρ:ai):Prop where
 r:Rep K F0 H0 FB [] F H σ ρ
 sl:σ[i]? =some (some (.ref a))
 hp:H a=some (.lst ys)
 fa:F a=none
 ha:H0 a=none
 nm:∀m:Nat,ys[m]?≠some (.ref a)
 ow:lh K F H0 H rs ys
section
variable {rs:List Dat} 
theorem RepR.step (h:RepR K F0 H0 FB i a ys rs F H σ ρ) (s:Step F H F1 H1):RepR K F0 H0 FB i a ys rs F1 H1 σ ρ:=
 ⟨h.r.step s,h.sl,s.hh _ _ h.hp,s.stays h.fa h.hp,h.ha,h.nm,h.ow.step s⟩
theorem RepR.base {FB':Hp} (h:RepR K F0 H0 FB i a ys rs F H σ ρ) (s:aN FB' FB):RepR K F0 H0 FB' i a ys rs F H σ ρ:=⟨h.r.base s,h.sl,h.hp,h.fa,h.ha,h.nm,h.ow⟩
end
section
variable {κ:Type} [DecidableEq κ]
noncomputable def dropK (kvs:List (κ×V)) (k:κ):List (κ×V):=kvs.filter fun kv=>decide (kv.1≠k)
theorem wY.AS {o:Option V} {u:Option Value} (r:wY o u):o.isSome=u.isSome:=by
 cases o with
 |none=>cases u with
  |none=>rfl
  |some _=>exact (show False from r).elim
 |some _=>cases u with
  |none=>exact (show False from r).elim
  |some _=>rfl
theorem wY.getD {o:Option V} {u:Option Value} {d:V} {d':Value} (r:wY o u) (rd:RelV d d'):RelV (o.getD d) (u.getD d'):=by
 cases o with
 |none=>cases u with
  |none=>exact rd
  |some _=>exact (show False from r).elim
 |some _=>cases u with
  |none=>exact (show False from r).elim
  |some _=>exact r
theorem KV.drop {kvs:List (κ×V)} {vs:List (κ×Value)} (r:KV kvs vs) (k:κ):KV (dropK kvs k) (without vs k):=by
 unfold KV at r ⊢;unfold dropK without
 induction r with
 |nil=>exact .nil
 |@cons p q ps qs h t ih=>
  obtain ⟨h1,h2⟩:=h;rw [List.filter_cons,List.filter_cons];by_cases e:p.1=k
  ·have a:¬decide (p.1≠k)=true:=by simp [e]
   have b:¬decide (q.1≠k)=true:=by simp [h1.symm.trans e]
   rw [if_neg a,if_neg b];exact ih
  ·have e':¬q.1=k:=fun z=>e (h1.trans z);have a:decide (p.1≠k)=true:=by simp [e]
   have b:decide (q.1≠k)=true:=by simp [e']
   rw [if_pos a,if_pos b];exact .cons ⟨h1,h2⟩ ih
theorem KV.length {kvs:List (κ×V)} {vs:List (κ×Value)} (r:KV kvs vs):kvs.length=vs.length:=Paired.length r
end
section
theorem Inv.big (I:Inv X pins σ H s):sysModules<s.heap.objs.size:=by
 have h:mainGlobals<s.heap.objs.size:=(I.mod.glob.keeps I.bk).lt;exact Nat.lt_trans (by decide) h
end
structure M2 (X:Cx) (o:Expr) (m:Str) (apos:Pos) (e f:Expr) (cpos:Pos):Prop where
 base:attributeBase o m X.env (eval o X.env)=eval o X.env
 few:((backTo cpos (starEach [e,f] X.env)).all (fun x=> !x.1)&&(backToKw cpos (keywordEach [] X.env)).all (fun x=>x.1.isSome)
  &&decide (([e,f]:List Expr).length+([]:List Keyword).length+(if ([]:List Keyword).isEmpty then 0 else 1)<30))=true
 line:(apos.endLine==cpos.line)=true
 trees:backTo cpos (starEach [e,f] X.env)=[(false,eval e X.env),(false,eval f X.env)]
noncomputable def keysI (ks:List Int):List (Key×V):=ks.map fun k=>(Sum.inl k,.bl true)
structure RepK (K:Fg) (F0 H0 FB:Hp) (i:Nat) (a:Addr) (ks:List Int) (F H:Hp) (σ:St) (ρ:ai):Prop where
 r:Rep K F0 H0 FB [] F H σ ρ
 sl:σ[i]? =some (some (.ref a))
 hp:H a=some (.dK (keysI ks))
 fa:F a=none
 ha:H0 a=none
section
variable {ks:List Int} 
theorem RepK.step (h:RepK K F0 H0 FB i a ks F H σ ρ) (s:Step F H F1 H1):RepK K F0 H0 FB i a ks F1 H1 σ ρ:=
 ⟨h.r.step s,h.sl,s.hh _ _ h.hp,s.stays h.fa h.hp,h.ha⟩
end
section
variable {hd:Option Addr}
structure Apart (X:Cx) (pins:Pn) (H:Hp) (s:Shared) (a:Addr) (hd:Option Addr):Prop where
 na:X.s₀.heap.get? a=none
 fa:H a=none
 pa:∀p∈X.pn++pins,p.1≠a
 nT:∀T,hd=some T->X.s₀.heap.get? T=none/\H T=none/\∀p∈X.pn++pins,p.1≠T
end
section
theorem Inv.names {m:Mq} (I:Inv X pins σ H s) (hn:h'.Ns X.env.locals m) (hs:Heap.SameBut X.env.locals s.heap h') (hl:σ'.length=X.N.length)
  (hv:∀(i:Nat) (x:Str) (v:V),X.N[i]? =some x->σ'[i]? =some (some v)->Vis X.env.scope x->∃u,RelV v u/\Look X.env s.heap m x u):Inv X pins σ' H {s with heap:=h'}:=by
 have far:∀b o,X.s₀.heap.get? b=some o->b≠X.env.locals:=fun b o e z=>by
  subst z;exact absurd (Heap.lt_size e) (Nat.not_lt.mpr I.ok.above)
 have cel:∀x c v,X.env.cells.lookup x=some c->s.heap.IsCell c v->h'.IsCell c v:=fun x c v e z=>z.sameBut hs (I.cne x c e);refine ⟨I.ok,I.os,I.bare,⟨fun b o e n hb hx=>?_,fun b o e n hb hx=>?_,I.base.free,fun b o e hx=>?_,I.base.tups,I.base.frzs,I.base.tbls⟩,⟨m,hn,fun i x v e1 e2 e3=>?_⟩,fun x c e=>?_,I.free,I.freeC,fun p hp=>?_,fun b o e=>?_,hl⟩
 ·show h'.get? b=_;rw [hs.2 b (far b o e)];exact I.base.keep b o e n hb hx
 ·obtain ⟨sl,z⟩:=I.base.slot b o e n hb hx;refine ⟨sl,?_⟩
  show h'.get? b=_;rw [hs.2 b (far b o e)];exact z
 ·obtain ⟨o',z⟩:=I.base.there b o e hx;refine ⟨o',?_⟩
  show h'.get? b=_;rw [hs.2 b (far b o e)];exact z
 ·obtain ⟨u,r,lk⟩:=hv i x v e1 e2 e3;refine ⟨u,r,?_⟩
  rcases lk with z|⟨z,c,c1,c2⟩
  ·exact .inl z
  ·exact .inr ⟨z,c,c1,cel x c _ c1 c2⟩
 ·obtain ⟨v,z⟩:=I.cell x c e;exact ⟨v,cel x c v e z⟩
 ·obtain ⟨p1,p2,p3,p4,p5⟩:=I.pin p hp;refine ⟨?_,p2,p3,p4,p5⟩
  show h'.get? p.1=_;rw [hs.2 p.1 p3];exact p1
 ·refine (I.hok b o e).stay (fun c u hc e1=>?_) (fun _ z=>z) fun _ _ z=>z;show h'.get? c=_;rw [hs.2 c fun z=>?_]
  ·exact e1
  ·rcases hc with y|y
   ·rw [<- y,z,I.free] at e;cases e
   ·rw [z,I.free] at y;cases y
end
section
open PySem.W
end
section
open PySem.W
end
section
open PySem.W
end
structure Yd (P:Program) (w:World) (K:Fg) (mg:Mq) (base:Heap) (CX:CXT) (k:Nat) (x:Str) (st:Stmt) (ps:List Str) (sp:Sp) (f:Addr) (fd:FuncData):Prop where
 d:Def K mg x st ps f fd
 o:iJ P w K mg base CX k f fd ps sp
section
open PySem.W
end
section
open PySem.W
end
section
open PySem.SetTable
end
section
open PySem
end
section
open PySem
end
section
open PySem
end
section
open PySem
end
section
open PySem
end
section
open PySem
end
section
open PySem
end
section
open PySem.W
end
structure Abt (p:Addr) (F H F' H':Hp):Prop where
 ff:aN F F'
 fh:aN F' H'
 fp:F' p=none
 nw:∀b o,F' b=some o->F b=some o\/H b=none
 hh:∀c o,H c=some o->c≠p->H' c=some o
theorem Abt.step {x:Addr} (hx:H x=none) (hdx:H dx=none) (z:Abt x F (upd (upd H dx (.own x)) x (.ins C dx [])) F' H'):Step F H F' H' where
 ff:=z.ff
 hh:=fun c o e=>by
  have hc:c≠x:=fun h=>by rw [h,hx] at e;cases e
  have hd:c≠dx:=fun h=>by rw [h,hdx] at e;cases e
  exact z.hh c o (by rw [au hc,au hd];exact e) hc
 fh:=z.fh
 nw:=fun c o e=>by
  rcases z.nw c o e with q|q
  ·exact .inl q
  ·refine .inr ?_;by_cases hc:c=x
   ·subst hc;exact hx
   ·by_cases hd:c=dx
    ·subst hd;exact hdx
    ·rw [au hc,au hd] at q;exact q
noncomputable def isiC (tb:List (Addr×Bool)):Dat->M Dat
 |.ins C _=>match tb.lookup C with
  |some b=>.ok (.bl b)
  |none=>stk
 |_=>stk
section
variable {W:du} {own:Bool} {a:Expr} {D:Addr} {tb:List (Addr×Bool)}
theorem c_isiC (hT:∀C b,tb.lookup C=some b->(∃x,Kls K X.mg x C)/\kitOne K (.ref C) (.ref D)=some b) (hK:X.K=K:=by rfl):iq X (.builtin "isinstance") (fun xs H Q=>∃v,xs=[v,.ref D]/\rD1 K W own (isiC tb) v H Q):=by
 subst hK;intro pins s σ H xs us Q I r h;obtain ⟨v,rfl,F,d,s1,q,p⟩:=h;obtain ⟨u,w,rfl,ru,rw'⟩:=r.two;cases (show w=Value.ref D from rw');cases d with
 |ins C fs=>
  cases hl:tb.lookup C with
  |none=>
   have p:aC X.K W own F H (match tb.lookup C with
    |some b=>.ok (.bl b)
    |none=>stk) Q:=p
   rw [hl] at p;exact aC.stuck p
  |some b=>
   have p:aC X.K W own F H (match tb.lookup C with
    |some b=>.ok (.bl b)
    |none=>stk) Q:=p
   rw [hl] at p;obtain ⟨⟨x,hk⟩,hb⟩:=hT C b hl;obtain ⟨l,dx,gs,e1,ea,df⟩:=q;subst e1;exact AR I ru (hk.ty (s1 _ _ ea)) hb fun tk=>⟨.bl b,H,I.tok tk,rfl,aC.bl (own:=own) p s1⟩
 |_=>exact aC.stuck p
theorem Bn (hT:∀C b,tb.lookup C=some b->(∃x,Kls K X.mg x C)/\kitOne K (.ref C) (.ref D)=some b) (hm:X.mg "isinstance"=none) (hD:X.mg y=some (.ref D)) (ha:DE K W false X a fa) (hK:X.K=K:=by rfl)
  (hg:Gl X "isinstance":=by rfl) (hgT:Gl X y:=by rfl) (hd:(y==("__debug__":Str))=false:=by decide)
  (hst:starEach [a,.Name y p2] X.env=[(false,eval a X.env),(false,eval (.Name y p2) X.env)]:=by rfl) (hst2:starEach [.Name y p2] X.env=[(false,eval (.Name y p2) X.env)]:=by rfl) (hpl:(backTo pos (starEach [.Name y p2] X.env)).any (·.1)=false:=by rfl) :
  DE K W own X (.Call (.Name "isinstance" p) [a,.Name y p2] [] pos) (f1 (isiC tb) fa):=
 (ki (c_isiC hT hK) hg hm boot_isinstance (aA ha (aA (vQ (v:=.ref D) (pos:=p2) hgT hD rfl hd) aY hst2) (by rw [hst,hst2])) (by decide) (by decide) (by rw [hst,hst2]) hpl).imp fun σ H Q h=>by
  obtain ⟨F,ρ,r,s,q⟩:=rd_1 h;refine ⟨F,ρ,r,s,?_⟩
  cases e1:fa ρ with
  |error z=>rw [e1] at q;exact q
  |ok d=>rw [e1] at q;exact fun v F' H' st z=>⟨v,rfl,q v F' H' st z⟩
theorem isi2 {P:Addr->Bool->Prop} {b2:Bool} (h1:P C1 b1) (h2:P C2 b2):∀C b,List.lookup C [(C1,b1),(C2,b2)]=some b->P C b:=fun C b h=>by
 rw [List.lookup_cons] at h;cases e:C==C1 with
 |true=>
  rw [e] at h;cases h;rw [beq_iff_eq.mp e];exact h1
 |false=>
  rw [e] at h;have h:List.lookup C [(C2,b2)]=some b:=h;rw [List.lookup_cons] at h;cases e2:C==C2 with
  |true=>
   rw [e2] at h;cases h;rw [beq_iff_eq.mp e2];exact h2
  |false=>rw [e2] at h;cases h
end
noncomputable abbrev tKind (P:Program) (w:World):HeapKind P w (List Int):=tupleKind (intKind P w)
theorem ti {P:Program} {w:World}:∀{k:List Int} {us:List Value},Vals (k.map V.int) us->ItemsAre (intKind P w) k us
 |[],_,.nil=>.nil
 |i::k,_,.cons r t=>by
  obtain ⟨t',rfl⟩:=(show ∃t,_=Value.int i t from r)
  exact .cons (by simp [intKind,Value.isInt]) (ti t)
theorem mh.at {xs:List ll} (z:mh h a xs ep) (e:∀o,h.get? a=some o->h'.get? a=some o):mh h' a xs ep:=
 let ⟨vs,r,hd,hl,hn,o,es,h1,h2⟩:=z;⟨vs,r,hd,hl,hn,o,es,e o h1,h2⟩
theorem Bk {xs:List ll} (z:mh h a xs ep):gn P w H h a (vd a xs ep):=
 ⟨z,let ⟨_,_,_,_,_,o,_,e,_⟩:=z;⟨o,e⟩,fun _ _ z e=>z.at e⟩
noncomputable def pP (K:Fg) (H:Hp) (xs:List ll):Prop:=∀x∈xs,SqT K H x.2.1 (x.1.map V.int)
theorem pP.mono {xs:List ll} (z:pP K H xs) (s:aN H H'):pP K H' xs:=fun x hx=>s.tup (z x hx)
theorem cB.key {K:Fg} {F:Hp}:∀{ks:List (List Int×Dat)} {xs:List ll},cB K F ks xs->pP K F xs
 |[],_,h,x,hx=>by rw [show _=[] from h] at hx;cases hx
 |(k,d)::ks,_,⟨b,v,r,e,t,q,z⟩,x,hx=>by
  subst e;rcases List.mem_cons.mp hx with rfl|hx
  ·exact t
  ·exact cB.key z x hx
theorem cB.length {K:Fg} {F:Hp}:∀{ks:List (List Int×Dat)} {xs:List ll},cB K F ks xs->xs.length=ks.length
 |[],_,h=>by rw [show _=[] from h];rfl
 |(k,d)::ks,_,⟨b,v,r,e,t,q,z⟩=>by rw [e,List.length_cons,List.length_cons,cB.length z]
noncomputable def vf (ks:List (List Int×Dat)) (k:List Int):Option Dat:=(ks.find? fun p=>decide (p.1=k)).map (·.2)
noncomputable def B0 (xs:List ll) (k:List Int):Option V:=(xs.find? fun p=>decide (p.1=k)).map (·.2.2)
noncomputable def jq (ks:List (List Int×Dat)) (k:List Int) (d:Dat):List (List Int×Dat):=if (vf ks k).isSome=true then ks.map (fun p=>if p.1=k then (p.1,d) else p) else ks++[(k,d)]
noncomputable def putR (xs:List ll) (k:List Int) (b:Addr) (v:V):List ll:=if (B0 xs k).isSome=true then xs.map (fun x=>if x.1=k then (x.1,x.2.1,v) else x) else xs++[(k,b,v)]
theorem w9 (xs:List ll) (k:List Int) (b:Addr) (v:V):(putR xs k b v).length<=xs.length+1:=by
 unfold putR;split
 ·rw [List.length_map];omega
 ·rw [List.length_append];exact Nat.le_refl _
theorem rP {k:List Int}:∀{xs:List ll} {vs:List (List Int×Addr×Value)},Paired lb xs vs->wY (B0 xs k) ((atKey vs k).map (·.2))
 |_,_,.nil=>True.intro
 |x::xs,q::vs,.cons h t=>by
  obtain ⟨h1,h2,h3⟩:=h;by_cases e:x.1=k
  ·have e':q.1=k:=h1.symm.trans e;simp only [B0,atKey,List.find?_cons,e,e',decide_true,Option.map_some];exact h3
  ·have e':¬q.1=k:=fun z=>e (h1.trans z);have:=rP (k:=k) t;simpa only [B0,atKey,List.find?_cons,e,e',decide_false] using this
theorem cB.at {K:Fg} {F:Hp} {k:List Int}:∀{ks:List (List Int×Dat)} {xs:List ll},cB K F ks xs->(vf ks k=none/\B0 xs k=none)\/∃d v,vf ks k=some d/\B0 xs k=some v/\aQ K F d v
 |[],_,h=>by rw [show _=[] from h];exact .inl ⟨rfl,rfl⟩
 |(k',d)::ks,_,⟨b,v,r,e,t,q,z⟩=>by
  subst e;by_cases e:k'=k
  ·exact .inr ⟨d,v,by simp [vf,e],by simp [B0,e],q⟩
  ·have:=cB.at (k:=k) z;simpa only [vf,B0,List.find?_cons,e,decide_false] using this
theorem cB.isSome {K:Fg} {F:Hp} {k:List Int} {ks:List (List Int×Dat)} {xs:List ll} (z:cB K F ks xs):(B0 xs k).isSome=(vf ks k).isSome:=by
 rcases z.at (k:=k) with ⟨e1,e2⟩|⟨d,v,e1,e2,_⟩<;>rw [e1,e2]<;>rfl
theorem cB.repl {K:Fg} {F:Hp} {k:List Int} {d:Dat} {v:V} (q:aQ K F d v):∀{ks:List (List Int×Dat)} {xs:List ll},cB K F ks xs->cB K F (ks.map fun p=>if p.1=k then (p.1,d) else p) (xs.map fun x=>if x.1=k then (x.1,x.2.1,v) else x)
 |[],_,h=>by rw [show _=[] from h];rfl
 |(k',d')::ks,_,⟨b,v',r,e,t,q',z⟩=>by
  subst e;rw [List.map_cons,List.map_cons];by_cases e:k'=k
  ·rw [if_pos e,if_pos e];exact ⟨b,v,_,rfl,t,q,cB.repl q z⟩
  ·rw [if_neg e,if_neg e];exact ⟨b,v',_,rfl,t,q',cB.repl q z⟩
theorem cB.snoc {K:Fg} {F:Hp} {k:List Int} {b:Addr} {d:Dat} {v:V} (t:SqT K F b (k.map V.int)) (q:aQ K F d v):∀{ks:List (List Int×Dat)} {xs:List ll},cB K F ks xs->cB K F (ks++[(k,d)]) (xs++[(k,b,v)])
 |[],_,h=>by rw [show _=[] from h];exact ⟨b,v,[],rfl,t,q,rfl⟩
 |(k',d')::ks,_,⟨b',v',r,e,t',q',z⟩=>by subst e;exact ⟨b',v',_,rfl,t',q',cB.snoc t q z⟩
theorem cB.put {k:List Int} {xs:List ll} (z:cB K F ks xs) (t:SqT K F b (k.map V.int)) (q:aQ K F d v):cB K F (jq ks k d) (putR xs k b v):=by
 unfold jq putR;rw [z.isSome];by_cases h:(vf ks k).isSome=true
 ·rw [if_pos h,if_pos h];exact z.repl q
 ·rw [if_neg h,if_neg h];exact z.snoc t q
theorem tW {k:List Int} {v:V} {u:Value} (ru:RelV v u):∀{xs:List ll} {vs:List (List Int×Addr×Value)},Paired lb xs vs->Paired lb (xs.map fun x=>if x.1=k then (x.1,x.2.1,v) else x) (vs.map (putAt k u))
 |_,_,.nil=>.nil
 |x::xs,q::vs,.cons h t=>by
  rw [List.map_cons,List.map_cons];refine .cons ?_ (tW ru t);obtain ⟨h1,h2,h3⟩:=h;unfold putAt;by_cases e:x.1=k
  ·rw [if_pos e,if_pos (h1.symm.trans e)];exact ⟨h1,h2,ru⟩
  ·rw [if_neg e,if_neg (fun z=>e (h1.trans z))];exact ⟨h1,h2,h3⟩
theorem rows_put {k:List Int} (ru:RelV v u) {xs:List ll} {vs:List (List Int×Addr×Value)} (r:Paired lb xs vs):Paired lb (putR xs k b v) (storedH vs k b u):=by
 have e:(B0 xs k).isSome=(atKey vs k).isSome:=by rw [(rP r).AS,Option.isSome_map]
 unfold putR storedH;rw [e];by_cases h:(atKey vs k).isSome=true
 ·rw [if_pos h,if_pos h];exact tW ru r
 ·rw [if_neg h,if_neg h];exact Paired.snoc r ⟨rfl,rfl,ru⟩
theorem xp:∀{xs:List ll} {vs:List (List Int×Addr×Value)},Paired lb xs vs->∀q∈vs,∃x∈xs,x.1=q.1/\x.2.1=q.2.1
 |_,_,.nil,_,h=>nomatch h
 |x::xs,q::vs,.cons h t,y,hy=>by
  rcases List.mem_cons.mp hy with rfl|hy
  ·exact ⟨x,by simp,h.1,h.2.1⟩
  ·obtain ⟨x',h1,h2⟩:=xp t y hy;exact ⟨x',by simp [h1],h2⟩
section
variable {xs:List ll} {k:List Int}
theorem vj (I:Inv X pins σ H s) (h:SqT X.K H b (k.map V.int)):(tKind X.prog X.w).is s.heap k b:=by
 obtain ⟨its,r,⟨o,h1,h2,n,h3⟩,_⟩:=I.tuple h;exact ⟨o,its.toArray,n,h1,h2,h3,by simpa using ti r⟩
theorem xT (I:Inv X pins σ H s) (e:H a=some (vd a xs ep)):mh s.heap a xs ep:=(show mh s.heap a xs ep/\_ from I.hok a _ e).1
theorem dic_at (I:Inv X pins σ H s) (e:H a=some (vd a xs ep)) (z:pP X.K H xs):∃vs,Paired lb xs vs/\(a==sysModules)=false/\xs.length<=sizeLine/\s.heap.DictOfH (tKind X.prog X.w) a vs:=by
 obtain ⟨vs,r,hd,hl,hn,o,es,h1,h2,h3,h4⟩:=xT I e;refine ⟨vs,r,hd,hl,o,es,ep,h1,h2,h3,h4,fun q hq=>?_,hn⟩
 obtain ⟨x,hx,e1,e2⟩:=xp r q hq;rw [<- e1,<- e2];exact vj I (z x hx)
theorem dic_ty (I:Inv X pins σ H s) (e:H a=some (vd a xs ep)):s.TypeIs (.ref a) "dict"/\(∀b,Value.ref a=.ref b->∃ob,s.heap.get? b=some ob/\ob.dict=none):=by
 obtain ⟨_,_,_,_,_,o,_,h1,h2,_⟩:=xT I e;exact ⟨⟨o,h1,h2.1⟩,fun c q=>by cases q;exact ⟨o,h1,h2.2.1⟩⟩
theorem dicOk_of {vs:List (List Int×Addr×Value)} (dd:h.DictOfH (tKind P w) a vs) (r:Paired lb xs vs) (hd:(a==sysModules)=false) (hl:xs.length<=sizeLine):∃ep,mh h a xs ep:=by
 obtain ⟨o,es,ep,h1,h2,h3,h4,_,h5⟩:=dd;exact ⟨ep,vs,r,hd,hl,h5,o,es,h1,h2,h3,h4⟩
end
noncomputable def sPut (K:Fg) (td ty tv:TE):TS:=fun D σ H=>tv σ H fun v H1=>td σ H1 fun x H2=>ty σ H2 fun y H3=>∃a b k xs ep,x=.ref a/\y=.ref b/\H3 a=some (vd a xs ep)/\pP K H3 xs/\SqT K H3 b (k.map V.int)/\xs.length<sizeLine/\∀ep',D.nx σ (upd H3 a (vd a (putR xs k b v) ep'))
noncomputable def tGet2 (K:Fg) (td ty tx:TE):TE:=fun σ H Q=>td σ H fun x H1=>∃a xs ep,x=.ref a/\H1 a=some (vd a xs ep)/\ty σ H1 fun y H2=>tx σ H2 fun z H3=>∃b k,y=.ref b/\H3 a=some (vd a xs ep)/\pP K H3 xs/\SqT K H3 b (k.map V.int)/\Q ((B0 xs k).getD z) H3
noncomputable def tNewK:TE:=fun _ H Q=>∀p,H p=none->Q (.ref p) (upd H p (vd p [] 0))
section
variable {o i f value:Expr} {ty tv tx:TE}
theorem Bm (h:Heap) (hb:sysModules<h.objs.size):mh (h.push {cls:=.type "dict",data:=.dict #[]}) h.objs.size [] 0:=
 ⟨[],.nil,beq_eq_false_iff_ne.mpr (Ne.symm (Nat.ne_of_lt hb)),Nat.zero_le _,List.nodup_nil,_,#[],Heap.get?_push_size _ rfl,⟨rfl,rfl,rfl⟩,rfl,rfl⟩
theorem vO:PE X (.Dict [] [] pos) tNewK:=fun pins s σ H Q I h=>
 wpAny_Dict_empty ⟨.ref s.heap.objs.size,_,I.laid (a:=s.heap.objs.size) (o:=vd s.heap.objs.size [] 0) (t':=s.toks) (fun _ _ q=>Heap.get?_push_of_some _ q) (Nat.le_refl _) (Bk (Bm s.heap I.big)),rfl,h _ (I.hok.fresh (Nat.le_refl _))⟩
theorem Inv.dic {xs ys:List ll} {t':Nat} (I:Inv X pins σ H s) (e:H a=some (vd a xs ep)) (hs:Heap.SameBut a s.heap h') (z:mh h' a ys ep'):Inv X pins σ (upd H a (vd a ys ep')) {s with heap:=h',toks:=t'}:=
 I.write (x:=a) (e:=a) (by rw [e];exact True.intro) (.inl rfl) (fun c q hc w=>(hs.2 c hc).trans w) (let ⟨_,_,_,_,_,o,_,w,_⟩:=z;⟨o,w⟩) (Bk z)
theorem ps_put (hu:X.A.units+1<cLine) (ho:PE X o td) (hi:PE X i ty) (hv:PE X value tv) (hs:swapsWith value (some (.Subscript o i pos')) pos.line X.env=pure false):PS X (.Assign [.Subscript o i pos'] value pos) (sPut X.K td ty tv):=by
 intro pins s σ H D I h;refine wpAny_Assign_Subscript (thn (hv pins s σ H _ I h) fun r s1 ⟨v,H1,I1,rv,q1⟩=>thn (ho pins s1 σ H1 _ I1 q1) fun u s2 ⟨x,H2,I2,rx,q2⟩=>thn (hi pins s2 σ H2 _ I2 q2) fun iv s3 ⟨y,H3,I3,ry,a,b,k,xs,ep,ex,ey,ea,hk,t,hl,q3⟩=>?_) hs;subst ex ey;cases (show u=Value.ref a from rx);cases (show iv=Value.ref b from ry);obtain ⟨vs,r0,hd,hz,dd⟩:=dic_at I3 ea hk;have hz':vs.length<=sizeLine:=by rw [<- Paired.length r0];exact hz
 refine wpAny_setItem_heap (hsz:=hz') (tupleKind_room_in1 hu) (vj I3 t) dd fun h' dd' hs'=>?_;obtain ⟨ep',z⟩:=dicOk_of dd' (rows_put rv r0) hd (by have:=w9 xs k b v;omega);exact ⟨σ,_,I3.dic ea hs' z,q3 ep'⟩
theorem pe_get2 (hu:X.A.units+1<cLine) (ho:PE X o td) (he:PE X e ty) (hf:PE X f tx) (m:M2 X o "get" apos e f cpos):PE X (.Call (.Attribute o "get" apos) [e,f] [] cpos) (tGet2 X.K td ty tx):=by
 intro pins s σ H Q I h;refine wpAny_Call_method m.base m.few m.line PySem.F.plainAttrs_dict PySem.F.slot_dict_get PySem.F.type_dict_get (thn (ho pins s σ H _ I h) fun u s1 ⟨x,H1,I1,rx,a,xs,ep,ex,ea,q1⟩=>?_);subst ex;cases (show u=Value.ref a from rx);obtain ⟨t1,t2⟩:=dic_ty I1 ea;refine ⟨t1,t2,?_⟩
 rw [m.trees];refine Calls.callWith_builtin rfl (Calls.evalArgs_plain (Calls.spliced_cons (thn (he pins s1 σ H1 _ I1 q1) fun iv s2 ⟨y,H2,I2,ry,q2⟩=>
  Calls.spliced_cons (thn (hf pins s2 σ H2 _ I2 q2) fun fv s3 ⟨z,H3,I3,rz,b,k,ey,ea3,hk,t,q3⟩=>Calls.spliced_nil ?_))))
 subst ey;cases (show iv=Value.ref b from ry);obtain ⟨vs,r0,hd,hz,dd⟩:=dic_at I3 ea3 hk;exact call_meetsIn PySem.F.slot_dict_get dd.typeIs PySem.F.entry_dict_get (PySem.F.args_dict_get_3 _ _ _) (meetsH_dict_get_default (tKind X.prog X.w) a b hd fv) ⟨tupleKind_room_in1 hu,k,vs,vj I3 t,dd,_,H3,I3.tok _,(rP r0).getD rz,q3⟩
end
noncomputable def keyD:Dat->M (List Int)
 |.tup ds=>gv ds
 |_=>stk
noncomputable def isDic:Dat->Bool
 |.dic _=>true
 |_=>false
noncomputable def B2:Dat->Dat->Dat->M Dat
 |.dic ks,kd,x=>(keyD kd).bind fun k=>.ok ((vf ks k).getD x)
 |_,_,_=>stk
noncomputable def uF (fd fk fx:ai->M Dat):ai->M Dat:=fun ρ=>(fd ρ).bind fun d=>if isDic d=true then (fk ρ).bind fun k=>(fx ρ).bind fun x=>B2 d k x else stk
theorem keyD_err {e:Err} (h:keyD d=.error e):e=.stuck:=by
 cases d with
 |tup ds=>exact oF h
 |_=>cases h;rfl
theorem keyD_at {k:List Int} (h:keyD d=.ok k) (q:aQ K F d v):∃b,v=.ref b/\SqT K F b (k.map V.int):=by
 cases d with
 |tup ds=>
  obtain ⟨b,xs,e,t,z⟩:=q;have:=kA z h;subst this;exact ⟨b,e,t⟩
 |_=>cases h
section
variable {W:du} {fd:ai->M Dat} 
theorem rd_getD (h:tD K W false (uF fd fk fx) σ H Q):tGet2 K (tD K W false fd) (tD K W false fk) (tD K W false fx) σ H Q:=by
 obtain ⟨F,ρ,r,s,p⟩:=h;refine aT r s (fun e he=>p.err (by unfold uF;rw [he];rfl)) fun d hd x F1 H1 s1 q1=>?_;have ez:uF fd fk fx ρ=if isDic d=true then (fk ρ).bind fun k=>(fx ρ).bind fun x=>B2 d k x else stk:=by unfold uF;rw [hd];rfl
 rw [ez] at p;cases d with
 |dic ks=>
  have p:aC K W false F H ((fk ρ).bind fun k=>(fx ρ).bind fun x=>B2 (.dic ks) k x) Q:=p;obtain ⟨a,xs,e,⟨ep,ha⟩,z⟩:=q1;refine ⟨a,xs,ep,e,s1.fh _ _ ha,?_⟩
  refine aT (r.mono s1.ff) s1.fh (fun e he=>(p.step s1).err (by rw [he];rfl)) fun kd hk y F2 H2 s2 q2=>?_;rw [hk] at p;have p:aC K W false F H ((fx ρ).bind fun x=>B2 (.dic ks) kd x) Q:=p;have s12:=s1.trans s2;refine aT (r.mono s12.ff) s12.fh (fun e he=>(p.step s12).err (by rw [he];rfl)) fun c hc w F3 H3 s3 q3=>?_;rw [hc] at p;have p:aC K W false F H ((keyD kd).bind fun k=>.ok ((vf ks k).getD c)) Q:=p;cases hkk:keyD kd with
  |error e=>
   rw [hkk] at p;have:=keyD_err hkk;subst this;exact aC.stuck p
  |ok k=>
   rw [hkk] at p;obtain ⟨b,rfl,t⟩:=keyD_at hkk q2;have s123:=s12.trans s3;have z3:=(z.mono s2.ff).mono s3.ff;refine ⟨b,k,rfl,s3.hh _ _ (s2.hh _ _ (s1.fh _ _ ha)),z3.key.mono s3.fh,s3.fh.tup (s3.ff.tup t),p _ F3 H3 s123 ?_⟩
   show aQ K F3 _ _;rcases z3.at (k:=k) with ⟨e1,e2⟩|⟨d,v,e1,e2,q⟩
   ·rw [e1,e2];exact q3
   ·rw [e1,e2];exact q
 |_=>exact aC.stuck p
end
section
variable {W:du} {o ek ex:Expr} {fd:ai->M Dat} 
theorem de_newK:DE K W true X (.Dict [] [] pos) (fC (.dic [])):=vO.imp fun σ H Q h=>by
 obtain ⟨F,ρ,r,s,q⟩:=h;exact fun a ha=>q (.ref a) F _ (Step.grow s ha) ⟨a,[],rfl,⟨0,ay⟩,s.free ha,ha,rfl⟩
theorem de_getD (hu:X.A.units+64<cLine) (ho:DE K W false X o fd) (he:DE K W false X ek fk) (hf:DE K W false X ex fx) (hK:X.K=K:=by rfl)
  (hb:attributeBase o "get" X.env (eval o X.env)=eval o X.env:=by rfl)
  (hw:((backTo cpos (starEach [ek,ex] X.env)).all (fun x=> !x.1)&&(backToKw cpos (keywordEach [] X.env)).all (fun x=>x.1.isSome)&&decide (([ek,ex]:List Expr).length+([]:List Keyword).length+(if ([]:List Keyword).isEmpty then 0 else 1)<30))=true:=by rfl)
  (hl:(apos.endLine==cpos.line)=true:=by rfl) (ht:backTo cpos (starEach [ek,ex] X.env)=[(false,eval ek X.env),(false,eval ex X.env)]:=by rfl):DE K W false X (.Call (.Attribute o "get" apos) [ek,ex] [] cpos) (uF fd fk fx):=by
 subst hK;exact (pe_get2 (by omega) ho he hf ⟨hb,hw,hl,ht⟩).imp fun _ _ _=>rd_getD
end
section
open PySem
end
section
open PySem
end
section
open PySem
end
section
theorem Bl (z:mh h l [] ep):(l==sysModules)=false/\h.DictOf (intKind P w) l []:=by
 obtain ⟨vs,r,hd,hl,hn,o,es,h1,h2,h3,h4⟩:=z;cases r;obtain ⟨es⟩:=es;cases (show es=[] from h4);exact ⟨hd,o,_,ep,h1,h2,h3,fun i hi=>absurd hi (by simp),.nil,.nil⟩
end
section
open PySem.W hiding kindOf
end
section
open PySem.W hiding kindOf
variable {key:Nat->Int}
noncomputable def Srt (key:Nat->Int) (l:List Nat):Prop:=l.Pairwise fun x y=>key x<=key y
structure MI (key:Nat->Int) (all out xs ys:List Nat):Prop where
 perm:(out++(xs++ys)).Perm all
 so:Srt key out
 sx:Srt key xs
 sy:Srt key ys
 ox:∀x∈out,∀y∈xs,key x<=key y
 oy:∀x∈out,∀y∈ys,key x<=key y
theorem MI.left {all u xs ys:List Nat} (h:MI key all out (u++xs) ys) (hu:∀a∈u,∀y∈ys,key a<=key y):MI key all (out++u) xs ys:=by
 obtain ⟨h1,h2,h3,h4,h5,h6⟩:=h;unfold Srt at *;rw [List.pairwise_append] at h3;refine ⟨by rw [List.append_assoc,<- List.append_assoc u];exact h1,?_,h3.2.1,h4,fun x hx y hy=>?_,fun x hx y hy=>?_⟩
 ·exact List.pairwise_append.mpr ⟨h2,h3.1,fun x hx y hy=>h5 x hx y (List.mem_append_left _ hy)⟩
 ·rcases List.mem_append.mp hx with e|e
  ·exact h5 x e y (List.mem_append_right _ hy)
  ·exact h3.2.2 x e y hy
 ·rcases List.mem_append.mp hx with e|e
  ·exact h6 x e y hy
  ·exact hu x e y hy
theorem MI.right {all u xs ys:List Nat} (h:MI key all out xs (u++ys)) (hu:∀a∈u,∀y∈xs,key a<=key y):MI key all (out++u) xs ys:=by
 obtain ⟨h1,h2,h3,h4,h5,h6⟩:=h;unfold Srt at *;rw [List.pairwise_append] at h4;refine ⟨?_,?_,h3,h4.2.1,fun x hx y hy=>?_,fun x hx y hy=>?_⟩
 ·refine List.Perm.trans ?_ h1;rw [List.append_assoc];refine List.Perm.append_left _ ?_;rw [<- List.append_assoc,<- List.append_assoc];exact List.Perm.append_right _ List.perm_append_comm
 ·exact List.pairwise_append.mpr ⟨h2,h4.1,fun x hx y hy=>h6 x hx y (List.mem_append_left _ hy)⟩
 ·rcases List.mem_append.mp hx with e|e
  ·exact h5 x e y hy
  ·exact hu x e y hy
 ·rcases List.mem_append.mp hx with e|e
  ·exact h6 x e y (List.mem_append_right _ hy)
  ·exact h4.2.2 x e y hy
theorem MI.done {all xs ys:List Nat} (h:MI key all out xs ys) (hu:∀a∈xs,∀y∈ys,key a<=key y):(out++xs++ys).Perm all/\Srt key (out++xs++ys):=by
 have h1:=MI.left (xs:=[]) (u:=xs) (by rw [List.append_nil];exact h) hu;have h2:=MI.right (ys:=[]) (u:=ys) (by rw [List.append_nil];exact h1) (fun _ _ _ hy=>absurd hy List.not_mem_nil);exact ⟨by have:=h2.perm;simpa using this,h2.so⟩
noncomputable def rp (st st':SortSt):Prop:=∃g,st'=SortSt.mk' (kindOf st) (arrOf st) (pendingOf st) g (failedOf st)
theorem rp.trans {a b c:SortSt} (h:rp a b) (k:rp b c):rp a c:=by
 obtain ⟨g,rfl⟩:=h;obtain ⟨g',rfl⟩:=k;exact ⟨g',rfl⟩
theorem rp.kind {a b:SortSt} (h:rp a b):kindOf b=kindOf a:=by obtain ⟨g,rfl⟩:=h;rfl
end
section
open PySem.W hiding kindOf
end
section
open PySem.W hiding kindOf
end
section
open PySem.W hiding kindOf
variable {f:Nat->Keyed} 
structure SS (κ:SortKind) (f:Nat->Keyed) (n:Nat) (st:SortSt) (p:List Nat):Prop where
 kind:kindOf st=κ
 ok:failedOf st=none
 arr:arrOf st=(p.map f).toArray
 perm:p.Perm (List.range n)
end
section
open PySem.W hiding kindOf
variable {key:Nat->Int}
noncomputable def kG (key:Nat->Int) (p:List Nat) (i:Nat):Int:=key (p.getD i 0)
noncomputable def Sg (key:Nat->Int) (p:List Nat) (lo hi:Nat):Prop:=∀i j,lo<=i->i<=j->j<hi->kG key p i<=kG key p j
noncomputable def Dg (key:Nat->Int) (p:List Nat) (lo hi:Nat):Prop:=∀i j,lo<=i->i<=j->j<hi->kG key p j<=kG key p i
noncomputable def Fx (lo:Nat) (p p':List Nat):Prop:=∀i,i<lo->p'.getD i 0=p.getD i 0
theorem Fx.trans {lo:Nat} {p q r:List Nat} (h:Fx lo p q) (k:Fx lo q r):Fx lo p r:=fun i hi=>(k i hi).trans (h i hi)
theorem Sg.step {p:List Nat} {m:Nat} (h:Sg key p lo (lo+m)) (h1:1<=m) (hl:¬kG key p (lo+m)<kG key p (lo+m-1)):Sg key p lo (lo+(m+1)):=fun i j hi hij hj=>by
 by_cases hjx:j<lo+m
 ·exact h i j hi hij hjx
 ·have ej:j=lo+m:=by omega
  subst ej;by_cases hi':i=lo+m
  ·subst hi';exact Int.le_refl _
  ·have:=h i (lo+m-1) hi (by omega) (by omega);omega
theorem Dg.step {p:List Nat} {m:Nat} (h:Dg key p lo (lo+m)) (h1:1<=m) (hl:kG key p (lo+m)<=kG key p (lo+m-1)):Dg key p lo (lo+(m+1)):=fun i j hi hij hj=>by
 by_cases hjx:j<lo+m
 ·exact h i j hi hij hjx
 ·have ej:j=lo+m:=by omega
  subst ej;by_cases hi':i=lo+m
  ·subst hi';exact Int.le_refl _
  ·have:=h i (lo+m-1) hi (by omega) (by omega);omega
end
section
open PySem.W hiding kindOf
end
section
open PySem.W hiding kindOf
variable {f:Nat->Keyed} {key:Nat->Int} 
noncomputable def mkP:Nat->List (List Nat×Nat)->List (Nat×Nat×Nat)
 |_,[]=>[]
 |a,(l,w)::r=>(a,l.length,w)::mkP (a+l.length) r
noncomputable def flt (gs:List (List Nat×Nat)):List Nat:=(gs.map Prod.fst).flatten
theorem flt_cons (g:List Nat×Nat) (y:List (List Nat×Nat)):flt (g::y)=g.1++flt y:=by simp [flt]
theorem vZ:∀(x:List (List Nat×Nat)) (a:Nat) (y:List (List Nat×Nat)),mkP a (x++y)=mkP a x++mkP (a+(flt x).length) y
 |[],a,y=>by simp [mkP,flt]
 |(l,w)::x,a,y=>by
  show (a,l.length,w)::mkP (a+l.length) (x++y)=(a,l.length,w)::(mkP (a+l.length) x++_)
  rw [vZ x,flt_cons,List.length_append,Nat.add_assoc]
theorem vY:∀(x:List (List Nat×Nat)) (a:Nat),(mkP a x).length=x.length
 |[],_=>rfl
 |(l,w)::x,a=>by simp [mkP,vY x]
structure RI (κ:SortKind) (f:Nat->Keyed) (key:Nat->Int) (n:Nat) (st:SortSt) (gs:List (List Nat×Nat)) (rest:List Nat):Prop where
 ss:SS κ f n st (flt gs++rest)
 pd:pendingOf st=(mkP 0 gs).toArray
 ok:∀g∈gs,Srt key g.1/\0<g.1.length
theorem RI.size {st:SortSt} {gs:List (List Nat×Nat)} {rest:List Nat} (h:RI κ f key n st gs rest):(pendingOf st).size=gs.length:=by rw [h.pd];simp [vY]
noncomputable def rePw (pw:Nat):Nat×Nat×Nat->Nat×Nat×Nat
 |(s,l,_)=>(s,l,pw)
theorem RI.last {st:SortSt} {gs:List (List Nat×Nat)} {rest:List Nat} {pw:Nat} (h:RI κ f key n st gs rest):∃gs',gs'.length=gs.length/\flt gs'=flt gs/\RI κ f key n (setPending st ((pendingOf st).modify ((pendingOf st).size-1) (rePw pw))) gs' rest:=by
 by_cases e:gs=[]
 ·subst e;refine ⟨[],rfl,rfl,⟨h.ss.kind,h.ss.ok,h.ss.arr,h.ss.perm⟩,?_,h.ok⟩
  show (pendingOf st).modify ((pendingOf st).size-1) (rePw pw)=_;rw [h.pd];rfl
 ·obtain ⟨pre,b,eb⟩:∃pre b,gs=pre++[b]:=⟨gs.dropLast,gs.getLast e,(List.dropLast_concat_getLast e).symm⟩
  subst eb;obtain ⟨b,wb⟩:=b;have ef:flt (pre++[(b,pw)])=flt (pre++[(b,wb)]):=by simp [flt]
  refine ⟨pre++[(b,pw)],by simp,ef,⟨h.ss.kind,h.ss.ok,?_,?_⟩,?_,fun g hg=>?_⟩
  ·rw [ef];exact h.ss.arr
  ·rw [ef];exact h.ss.perm
  ·show (pendingOf st).modify ((pendingOf st).size-1) (rePw pw)=_;rw [h.size,h.pd,vZ,vZ];have lp:=vY pre 0;apply Array.ext_getElem?;intro i;rw [Array.getElem?_modify];simp only [List.length_append,List.length_singleton,Nat.add_sub_cancel,List.getElem?_toArray,mkP];by_cases c:pre.length=i
   ·subst c;rw [if_pos rfl,<- lp,List.getElem?_append_right (Nat.le_refl _),List.getElem?_append_right (Nat.le_refl _),Nat.sub_self];rfl
   ·rw [if_neg c];rcases Nat.lt_or_ge i pre.length with d|d
    ·rw [List.getElem?_append_left (by omega),List.getElem?_append_left (by omega)]
    ·rw [List.getElem?_eq_none (by simp;omega),List.getElem?_eq_none (by simp;omega)]
  ·rcases List.mem_append.mp hg with e|e
   ·exact h.ok g (List.mem_append_left _ e)
   ·have:=List.mem_singleton.mp e;subst this;exact h.ok (b,wb) (by simp)
end
section
open PySem.W hiding kindOf
end
section
open PySem.W hiding kindOf
end
section
open PySem SetTable
end
section
open PySem
end
section
open PySem
end
section
open PySem
end
section
open PySem SetTable
end
section
open PySem.W
end
section
open PySem
end
section
open PySem
variable {κ μ:Type} [DecidableEq κ] [DecidableEq μ]
end
section
open PySem
end
section
open PySem.W
end
section
open PySem PySem.W
end
section
open PySem PySem.W
end
mutual
noncomputable def nS:Dat->Bool
 |.tup ds=>nR ds
 |.lst ds=>nR ds
 |.ins _ _=>false
 |.dic _=>false
 |.dil _=>false
 |_=>true
noncomputable def nR:List Dat->Bool
 |[]=>true
 |d::ds=>nS d&&nR ds
end
mutual
theorem aQ.plain {K:Fg} {F F':Hp} (s:∀a xs,SqT K F a xs->SqT K F' a xs) (t:∀a xs,SqL K F a xs->SqL K F' a xs):∀{d:Dat} {v:V},nS d=true->aQ K F d v->aQ K F' d v
 |.non,_,_,h=>h
 |.bl _,_,_,h=>h
 |.int _,_,_,h=>h
 |.str _,_,_,h=>h
 |.tup ds,_,f,⟨a,xs,e,q,r⟩=>⟨a,xs,e,s _ _ q,az.plain s t (by simpa [nS] using f) r⟩
 |.lst ds,_,f,⟨a,xs,e,q,r⟩=>⟨a,xs,e,t _ _ q,az.plain s t (by simpa [nS] using f) r⟩
 |.ins _ _,_,f,_=>by simp [nS] at f
 |.dic _,_,f,_=>by simp [nS] at f
 |.dil _,_,f,_=>by simp [nS] at f
theorem az.plain {K:Fg} {F F':Hp} (s:∀a xs,SqT K F a xs->SqT K F' a xs) (t:∀a xs,SqL K F a xs->SqL K F' a xs):∀{ds:List Dat} {xs:List V},nR ds=true->az K F ds xs->az K F' ds xs
 |[],_,_,h=>h
 |d::ds,_,f,⟨v,vs,e,q,r⟩=>by
  simp only [nR,Bool.and_eq_true] at f;exact ⟨v,vs,e,aQ.plain s t f.1 q,az.plain s t f.2 r⟩
end
section
open PySem PySem.W
end
structure B7 where
 f:Addr
 c:Value
 A:Around
 o:List Env
 s:Shared
 H:Hp
 E:XK
section
variable {mg:Mq} {base:Heap} {q:Str} 
noncomputable def YO (_:∃f fd,Def K mg x st ps f fd) (P:Program) (w:World) (base:Heap) (k:Nat) (ro:Bool) (m:List Dat->M Dat):Prop:=∃f fd,Yd P w K mg base CX0 k x st ps (spF K ro m ps.length) f fd
noncomputable def YM (_:∃f fd,Mth K C x q st ps f fd) (P:Program) (w:World) (mg:Mq) (base:Heap) (k:Nat) (ro:Bool) (m:List Dat->M Dat):Prop:=∃f fd,Mth K C x q st ps f fd/\iJ P w K mg base CX0 k f fd ps (spF K ro m ps.length)
theorem fY (N:List Str) {h:∃f fd,Def K mg x st ps f fd}
  (hb:∀z:B7,N.Nodup->ip k (z.A.deeper (envOfC x (aJ st) z.s.heap.objs.size z.f z.c))->DSs K Wno ro (cxOf CX0 P w K mg base N x (aJ st) z.f z.c z.A z.o z.s z.H z.E).nox [] [] [] (bP st) g)
  (S:gQ N ps (aJ st):=by exact ⟨rfl,rfl,rfl,by decide +kernel,rfl,by decide +kernel,by decide +kernel⟩):YO h P w base (k+1) ro (bU N.length ps.length g):=
 let ⟨f,fd,D⟩:=h
 ⟨f,fd,D,fn_D D.fn S ro g fun c A o s H E hr=>hb ⟨f,c,A,o,s,H,E⟩ S.nd hr⟩
theorem fM (N:List Str) {h:∃f fd,Mth K C x q st ps f fd}
  (hb:∀z:B7,N.Nodup->ip k (z.A.deeper (envOfC q (aJ st) z.s.heap.objs.size z.f z.c))->DSs K Wno ro (cxOf CX0 P w K mg base N q (aJ st) z.f z.c z.A z.o z.s z.H z.E).nox [] [] [] (bP st) g)
  (S:gQ N ps (aJ st):=by exact ⟨rfl,rfl,rfl,by decide +kernel,rfl,by decide +kernel,by decide +kernel⟩):YM h P w mg base (k+1) ro (bU N.length ps.length g):=
 let ⟨f,fd,D⟩:=h
 ⟨f,fd,D,fn_D D.fn S ro g fun c A o s H E hr=>hb ⟨f,c,A,o,s,H,E⟩ S.nd hr⟩
end
section
variable {W:du} {a b d:Expr} {f:ai->M Dat} {fr:ai->M (List Dat)}
theorem dY (Y:∃f fd,Yd X.prog X.w X.K X.mg X.base CX0 k x st ps (spF K ro (bU nN n g) n) f fd) (hr:ip j X.A)
  (ha:DA K Wno X (e::es) fr) (hj:k<=j:=by decide) (hg:Gl X x:=by rfl) (hdb:(x==("__debug__":Str))=false:=by decide) (hst:starEach (e::es) X.env=(false,eval e X.env)::starEach es X.env:=by rfl) (hpl:(backTo pos (starEach es X.env)).any (·.1)=false:=by rfl) :
  DE K Wno ro X (.Call (.Name x p) (e::es) [] pos) (fL (bU nN n g) fr):=let ⟨_,_,Y⟩:=Y;de_call Y.o (hr.mono hj) Y.d.mg Y.d.fn.kp Y.d.bd ha hg hdb hst hpl
theorem da1 (ha:DE K W false X a fa) (hs:starEach [a] X.env=[(false,eval a X.env)]:=by rfl):DA K W X [a] (aa fa aB):=bX ha cS hs
theorem da2 (ha:DE K W false X a fa) (hb:DE K W false X b fb) (hs:starEach [a,b] X.env=[(false,eval a X.env),(false,eval b X.env)]:=by rfl) (hs':starEach [b] X.env=[(false,eval b X.env)]:=by rfl):DA K W X [a,b] (aa fa (aa fb aB)):=bX ha (da1 hb hs') (by rw [hs,hs'])
theorem da3 {f1 f2:ai->M Dat} (h1:DE K W false X e1 f1) (h2:DE K W false X e2 f2) (h3:DE K W false X e3 f3) (s1:starEach [e1,e2,e3] X.env=(false,eval e1 X.env)::starEach [e2,e3] X.env:=by rfl) (s2:starEach [e2,e3] X.env=(false,eval e2 X.env)::starEach [e3] X.env:=by rfl) (s3:starEach [e3] X.env=(false,eval e3 X.env)::starEach [] X.env:=by rfl):DA K W X [e1,e2,e3] (aa f1 (aa f2 (aa f3 aB))):=(bX h1 (bX h2 (bX h3 cS s3) s2) s1)
theorem da4 {f1 f2:ai->M Dat} (h1:DE K W false X e1 f1) (h2:DE K W false X e2 f2) (h3:DE K W false X e3 f3) (h4:DE K W false X e4 f4) (s1:starEach [e1,e2,e3,e4] X.env=(false,eval e1 X.env)::starEach [e2,e3,e4] X.env:=by rfl) (s2:starEach [e2,e3,e4] X.env=(false,eval e2 X.env)::starEach [e3,e4] X.env:=by rfl) (s3:starEach [e3,e4] X.env=(false,eval e3 X.env)::starEach [e4] X.env:=by rfl) (s4:starEach [e4] X.env=(false,eval e4 X.env)::starEach [] X.env:=by rfl):DA K W X [e1,e2,e3,e4] (aa f1 (aa f2 (aa f3 (aa f4 aB)))):=(bX h1 (bX h2 (bX h3 (bX h4 cS s4) s3) s2) s1)
theorem da5 {f1 f2:ai->M Dat} (h1:DE K W false X e1 f1) (h2:DE K W false X e2 f2) (h3:DE K W false X e3 f3) (h4:DE K W false X e4 f4) (h5:DE K W false X e5 f5) (s1:starEach [e1,e2,e3,e4,e5] X.env=(false,eval e1 X.env)::starEach [e2,e3,e4,e5] X.env:=by rfl) (s2:starEach [e2,e3,e4,e5] X.env=(false,eval e2 X.env)::starEach [e3,e4,e5] X.env:=by rfl) (s3:starEach [e3,e4,e5] X.env=(false,eval e3 X.env)::starEach [e4,e5] X.env:=by rfl) (s4:starEach [e4,e5] X.env=(false,eval e4 X.env)::starEach [e5] X.env:=by rfl) (s5:starEach [e5] X.env=(false,eval e5 X.env)::starEach [] X.env:=by rfl):DA K W X [e1,e2,e3,e4,e5] (aa f1 (aa f2 (aa f3 (aa f4 (aa f5 aB))))):=(bX h1 (bX h2 (bX h3 (bX h4 (bX h5 cS s5) s4) s3) s2) s1)
theorem da6 {e6:Expr} {f1 f2 f6:ai->M Dat} (h1:DE K W false X e1 f1) (h2:DE K W false X e2 f2) (h3:DE K W false X e3 f3) (h4:DE K W false X e4 f4) (h5:DE K W false X e5 f5) (h6:DE K W false X e6 f6) (s1:starEach [e1,e2,e3,e4,e5,e6] X.env=(false,eval e1 X.env)::starEach [e2,e3,e4,e5,e6] X.env:=by rfl) (s2:starEach [e2,e3,e4,e5,e6] X.env=(false,eval e2 X.env)::starEach [e3,e4,e5,e6] X.env:=by rfl) (s3:starEach [e3,e4,e5,e6] X.env=(false,eval e3 X.env)::starEach [e4,e5,e6] X.env:=by rfl) (s4:starEach [e4,e5,e6] X.env=(false,eval e4 X.env)::starEach [e5,e6] X.env:=by rfl) (s5:starEach [e5,e6] X.env=(false,eval e5 X.env)::starEach [e6] X.env:=by rfl) (s6:starEach [e6] X.env=(false,eval e6 X.env)::starEach [] X.env:=by rfl):DA K W X [e1,e2,e3,e4,e5,e6] (aa f1 (aa f2 (aa f3 (aa f4 (aa f5 (aa f6 aB)))))):=(bX h1 (bX h2 (bX h3 (bX h4 (bX h5 (bX h6 cS s6) s5) s4) s3) s2) s1)
theorem cj (hN:X.N.Nodup) (he:DE K W false X e f) (hi:X.N[i]? =some x:=by rfl) (hx:Loc X.env.scope x:=by first|exact Or.inl rfl|exact Or.inr rfl) (hs:swapsWith e (some (.Name x pos')) pos.line X.env=pure false:=by rfl) (hf:X.fn x=true\/X.env.scope.names.lookup x=some .local:=by first|exact .inl rfl|exact .inr rfl|assumption) :
  DS K W ro X OL O (aft false i O) (.Assign [.Name x pos'] e pos) (aW O i f):=Bi hN he hi hx hs hf
theorem lZ (hN:X.N.Nodup) (he:DE K W true X e f) (hi:X.N[i]? =some x:=by rfl) (hx:Loc X.env.scope x:=by first|exact Or.inl rfl|exact Or.inr rfl) (hs:swapsWith e (some (.Name x pos')) pos.line X.env=pure false:=by rfl) (hf:X.fn x=true\/X.env.scope.names.lookup x=some .local:=by first|exact .inl rfl|exact .inr rfl|assumption) :
  DS K W ro X OL O (aft true i O) (.Assign [.Name x pos'] e pos) (aW O i f):=Bi hN he hi hx hs hf
end
section
variable {mg:Mq} {q:Str} {kV:Value}
theorem dF (KX:K.In h) (G:h.Ns mainGlobals mg) (a:nsIn K mainGlobals x=some (some (.ref f)):=by k_is) (l:K.lookup f=some ⟨oc,od,.func (fnOf x x (cV st) (bP st) (aJ st) .none kV doc pm an cdv ct),osl⟩:=by k_is) (c:codeIn K cdv x=true:=by k_is) (k:keepIn K (.ref f)=true:=by k_is)
  (hb:∀(kV doc pm:Value) (an:Option Addr) (cdv ct:Value) (us:List Value),us.length=ps.length->bindArgs (fnOf x x (cV st) (bP st) (aJ st) .none kV doc pm an cdv ct) ⟨us,[]⟩=pure (ps.zip us):=by
   intro _ _ _ _ _ _ us hl;rcases us with _|⟨_,_|⟨_,_|⟨_,_|⟨_,_|⟨_,_|⟨_,_|⟨_,us⟩⟩⟩⟩⟩⟩⟩<;>first|(simp at hl;done)|rfl):∃f fd,Def K mg x st ps f fd:=⟨_,_,def_of KX G a l c k hb⟩
theorem mF (a:findIn K (.ref C) x=some (some (.ref f)):=by k_is) (i:isFn K (.ref f)=true:=by k_is) (l:K.lookup f=some ⟨oc,od,.func (fnOf x q (cV st) (bP st) (aJ st) .none kV doc pm an cdv ct),osl⟩:=by k_is) (c:codeIn K cdv q=true:=by k_is) (k:keepIn K (.ref f)=true:=by k_is)
  (hb:∀(kV doc pm:Value) (an:Option Addr) (cdv ct:Value) (us:List Value),us.length=ps.length->bindArgs (fnOf x q (cV st) (bP st) (aJ st) .none kV doc pm an cdv ct) ⟨us,[]⟩=pure (ps.zip us):=by
   intro _ _ _ _ _ _ us hl;rcases us with _|⟨_,_|⟨_,_|⟨_,_|⟨_,_|⟨_,_|⟨_,_|⟨_,us⟩⟩⟩⟩⟩⟩⟩<;>first|(simp at hl;done)|rfl):∃f fd,Mth K C x q st ps f fd:=⟨_,_,mth_of a i l c k hb⟩
theorem kF (KX:K.In h) (G:h.Ns mainGlobals mg) (a:nsIn K mainGlobals x=some (some (.ref C)):=by k_is) (pg:plainGet K C Str.empty=true:=by k_is) (hd:hasDictIn K C=true:=by k_is) (po:plainOver K C=true:=by k_is)
  (sa:findIn K (.ref C) "__setattr__"=some (some (.builtin "object.__setattr__")):=by k_is) (mk:makesIn K C=true:=by k_is) (kp:keepIn K (.ref C)=true:=by k_is)
  (c1:findIn K (.ref C) "__class__"=some (some (.builtin "object.__class__")):=by k_is) (c2:specialIn K (.builtin "object.__class__") "__get__"=some (some (.builtin "getset_descriptor.__get__")):=by k_is)
  (c3:takesIn K (.builtin "object.__class__")=some true:=by k_is) (c4:mroIn K C (.type "object")=some true:=by k_is):Kls K mg x C:=kls_of KX G a pg hd po sa mk kp c1 c2 c3 c4
theorem lF (KX:K.In h) (G:h.Ns mainGlobals mg) (a:nsIn K mainGlobals x=some (some (.ref f)):=by k_is) (l:K.lookup f=some ⟨oc,od,.func (fnOf x x (cV st) (bP st) (aJ st) .none kV doc pm an cdv ct),osl⟩:=by k_is) (c:codeIn K cdv x=true:=by k_is) (k:keepIn K (.ref f)=true:=by k_is)
  (hb:∀(kV doc pm:Value) (an:Option Addr) (cdv ct:Value) (v:Value),bindArgs (fnOf x x (cV st) (bP st) (aJ st) .none kV doc pm an cdv ct) ⟨[v],[]⟩=pure [(y,v)]:=by intros;rfl):∃f fd,Def K mg x st [y] f fd/\∀(s:Shared) (v:Value),BindsTo s fd ⟨[v],[]⟩ [(y,v)]:=
 ⟨_,_,def_of KX G a l c k fun _ _ _ _ _ _ us hl=>match us,hl with|[_],_=>hb ..,fun _ _=>.of_eq (hb ..)⟩
theorem Fun.uniq {fd':FuncData} (a:Fun K x q st f fd) (b:Fun K x q st f fd'):fd=fd':=by
 obtain ⟨oc,od,kV,doc,pm,an,cdv,ct,osl,rfl,lk,_⟩:=a.ex;obtain ⟨oc',od',kV',doc',pm',an',cdv',ct',osl',rfl,lk',_⟩:=b.ex;have e:=lk.symm.trans lk';cases e;rfl
theorem rS (N:∃f fd,Mth K C x q st ps f fd) (a:findIn K (.ref C) x=some (some (.ref f)):=by k_is) (s1:specialIn K (.ref C) "__getattribute__"=some (some (.builtin "type.__getattribute__")):=by first|k_is|kernel_rfl) (s2:PySem.W.readsIn K C mc=true:=by first|k_is|kernel_rfl)
  (s3:PySem.W.findCls K (.ref C) mc x=some (.val (.ref f)):=by first|k_is|kernel_rfl) (s4:keepIn K (.ref f)=true:=by k_is):∃f fd,Mth K C x q st ps f fd/\Stat K C mc x f:=by
 obtain ⟨f',fd,M⟩:=N;have e:=M.mt.1.symm.trans a;cases e;exact ⟨_,fd,M,s1,s2,s3,s4⟩
end
noncomputable def gS:List Dat->M (List Str)
 |[]=>.ok []
 |.str x::ds=>(gS ds).bind fun r=>.ok (x::r)
 |_::_=>stk
@[simp] theorem e_strs0:gS []=.ok []:=id rfl
@[simp] theorem e_strs1 (x:Str) (ds:List Dat):gS (.str x::ds)=(gS ds).bind fun r=>.ok (x::r):=id rfl
noncomputable def isS:Dat->Bool
 |.str _=>true
 |_=>false
noncomputable def qh:Dat->Dat->M Dat
 |.str sep,.lst ds=>(gS ds).bind fun xs=>if (xs.map (·.length)).sum+xs.length*sep.length<=sizeLine then .ok (.str (Str.join sep xs)) else stk
 |_,_=>stk
@[simp] theorem wo (sep:Str) (ds:List Dat):qh (.str sep) (.lst ds)=(gS ds).bind fun xs=>if (xs.map (·.length)).sum+xs.length*sep.length<=sizeLine then .ok (.str (Str.join sep xs)) else stk:=id rfl
noncomputable def fSM (g:Dat->Dat->M Dat) (fo fe:ai->M Dat):ai->M Dat:=fun ρ=>(fo ρ).bind fun a=>if isS a=true then (fe ρ).bind fun b=>g a b else stk
@[simp] theorem e_fSM (g:Dat->Dat->M Dat) (fo fe:ai->M Dat) (ρ:ai):fSM g fo fe ρ=(fo ρ).bind fun a=>if isS a=true then (fe ρ).bind fun b=>g a b else stk:=id rfl
@[simp] theorem e_isS (x:Str):isS (.str x)=true:=id rfl
noncomputable def rSM (K:Fg) (W:du) (own:Bool) (g:Dat->Dat->M Dat):V->List V->Hp->VK->Prop:=fun x vs H Q=>∃F z b y,aN F H/\x=.str z/\vs=[y]/\aQ K F b y/\aC K W own F H (g (.str z) b) Q
theorem qK {M:Model} {A:Around} {E:Vp} {Q R:Str->Shared->Prop}:∀{ps:List (Sem Value)} {acc:Str} {s:Shared},Joins M A E ps acc Q s->(∀z s,Q z s->R z s)->Joins M A E ps acc R s
 |[],acc,s,h,k=>k _ _ h
 |x::ps,acc,s,h,k=>wpAny_mono h (fun v s1 ⟨y,t,e,l,q⟩=>⟨y,t,e,l,qK q k⟩) fun _ _ z=>z
section
variable {W:du} {own:Bool} {o:Expr} {name:Str} {id:String} {g:Dat->Dat->M Dat}
theorem uK (hm:MtR X id (rSM X.K W own g)) (slot:Slot "str" name id) (hty:typeOf (.builtin id)=pure (.type "method_descriptor")) (ho:DE K W false X o fo) (he:DE K W false X e fe) (hK:X.K=K:=by rfl) (hbase:attributeBase o name X.env (eval o X.env)=eval o X.env:=by rfl)
  (hfew:((backTo cpos (starEach [e] X.env)).all (fun x=> !x.1)&&(backToKw cpos (keywordEach [] X.env)).all (fun x=>x.1.isSome)&&decide ([e].length+([]:List Keyword).length+(if ([]:List Keyword).isEmpty then 0 else 1)<30))=true:=by rfl)
  (hline:(apos.endLine==cpos.line)=true:=by rfl) (hs:starEach [e] X.env=(false,eval e X.env)::starEach [] X.env:=by rfl) (hplain:(backTo cpos (starEach [] X.env)).any (·.1)=false:=by rfl) :
  DE K W own X (.Call (.Attribute o name apos) [e] [] cpos) (fSM g fo fe):=by
 subst hK;refine PE.imp (qc PySem.F.plainAttrs_str slot hty hm ho (aA he aY (by rw [hs])) hbase hfew hline hs hplain) fun σ H Q h=>?_;obtain ⟨F,ρ,r,s,p⟩:=h;refine aT r s (fun e he=>p.err (by unfold fSM;rw [he];rfl)) fun a ha x F1 H1 s1 q1=>?_;have ez:fSM g fo fe ρ=if isS a=true then (fe ρ).bind fun b=>g a b else stk:=by unfold fSM;rw [ha];rfl
 rw [ez] at p;have p:=p.step s1;cases a with
 |str z=>
  have p:aC X.K W own F1 H1 ((fe ρ).bind fun b=>g (.str z) b) Q:=p;cases (show x=V.str z from q1);refine ⟨rfl,?_⟩
  refine aT (r.mono s1.ff) s1.fh (fun e he=>p.err (by rw [he];rfl)) fun b hb y F2 H2 s2 q2=>?_;rw [hb] at p;exact ⟨F2,z,b,y,s2.fh,rfl,rfl,q2,p.step s2⟩
 |_=>exact aC.stuck p
theorem nG {F:Hp}:∀{ds:List Dat} {xs:List V} {ss:List Str},az K F ds xs->gS ds=.ok ss->xs=ss.map V.str
 |[],_,_,q,e=>by cases e;exact q
 |d::ds,_,ss,⟨v,vs,e1,q,r⟩,e=>by
  cases d with
  |str z=>
   cases e2:gS ds with
   |error x=>rw [gS,e2] at e;cases e
   |ok r2=>
    rw [gS,e2] at e;cases e;rw [e1,nG r e2,show v=.str z from q];rfl
  |_=>cases e
theorem nH:∀{ds:List Dat} {e:Err},gS ds=.error e->e=.stuck
 |[],_,h=>by cases h
 |d::ds,e,h=>by
  cases d with
  |str z=>
   cases e2:gS ds with
   |error x=>rw [gS,e2] at h;cases h;exact nH e2
   |ok r2=>rw [gS,e2] at h;cases h
  |_=>cases h;rfl
theorem nu:∀{ss:List Str} {us:List Value},Vals (ss.map V.str) us->∃l:List (Str×Tok),us=strValues l/\l.map (·.1)=ss
 |[],_,.nil=>⟨[],rfl,rfl⟩
 |x::ss,_,.cons r rs=>by
  obtain ⟨t,rfl⟩:=(show ∃t,_=Value.str x t from r)
  obtain ⟨l,rfl,e⟩:=nu rs;exact ⟨(x,t)::l,rfl,by rw [List.map_cons,e]⟩
theorem sm:MtR X "str.join" (rSM X.K W own qh):=by
 intro pins s σ H x vs v us Q I rx rv h;obtain ⟨F,sep,b,y,sF,rfl,rfl,qb,p⟩:=h;obtain ⟨u,rfl,ru⟩:=rv.one;obtain ⟨t,rfl⟩:=(show ∃t,v=Value.str sep t from rx)
 cases b with
 |lst ds=>
  obtain ⟨l,xs,rfl,q,z⟩:=qb;cases ru;cases e1:gS ds with
  |error e=>rw [qh,e1] at p;rw [nH e1] at p;exact aC.stuck p
  |ok ss=>
   rw [qh,e1] at p;have p:aC X.K W own F H (if (ss.map (·.length)).sum+ss.length*sep.length<=sizeLine then .ok (.str (Str.join sep ss)) else stk) Q:=p;have hx:=nG z e1;subst hx;obtain ⟨its,r,pl,hz⟩:=I.list (sF.lst q);obtain ⟨L,rfl,rfl⟩:=nu r;by_cases hl:((L.map (·.1)).map (·.length)).sum+(L.map (·.1)).length*sep.length<=sizeLine
   ·rw [if_pos hl] at p;have hq:=p.str sF;refine call_meets PySem.F.slot_str_join (typeIs_str _ _ _) PySem.F.entry_str_join (PySem.F.args_str_join_2 _ _) (meets_str_join_list sep t l L (by rw [StrLaws.joinTotal];exact decide_eq_false (Nat.not_lt.mpr hl))) ⟨pl.isList,?_⟩;have hg:(Builtin.Str.glued sep (L.map (·.1))).length<=sizeLine:=by
     rw [size_glued];have:=Nat.mul_le_mul_right sep.length (Nat.sub_le (L.map (·.1)).length 1);omega
    have e:=StrLaws.glued_eq_join sep (L.map (·.1))
    match L,hq,hg,e with
    |[],hq,hg,e=>exact ⟨hg,.str _,H,I.tok _,⟨_,rfl⟩,by rw [e];exact hq⟩
    |[p],hq,_,_=>exact ⟨.str _,H,I,⟨_,rfl⟩,hq⟩
    |p1::p2::L,hq,hg,e=>exact ⟨hg,.str _,H,I.tok _,⟨_,rfl⟩,by rw [e];exact hq⟩
   ·rw [if_neg hl] at p;exact aC.stuck p
 |_=>exact aC.stuck p
noncomputable def aK (i:Int):Str:=toString i
noncomputable def strD:List Dat->M Dat
 |[.int i]=>if i.natAbs.log2<1920 then .ok (.str (aK i)) else stk
 |_=>stk
@[simp] theorem e_strD (i:Int):strD [.int i]=if i.natAbs.log2<1920 then .ok (.str (aK i)) else stk:=id rfl
theorem zm:qu K W own X (.type "str") strD:=uY.imp fun xs H Q h=>by
 obtain ⟨F,d,x,s,e,q,p⟩:=jN (fun ds=>by match ds with|[d]=>exact .inl ⟨d,rfl⟩|[]=>exact .inr rfl|a::b::c=>exact .inr (by cases a<;>rfl)) h;cases d with
 |int i=>
  have p:aC K W own F H (if i.natAbs.log2<1920 then .ok (.str (aK i)) else stk) Q:=p;by_cases hl:i.natAbs.log2<1920
  ·rw [if_pos hl] at p;exact ⟨i,by rw [e,show x=.int i from q],hl,p.str s⟩
  ·rw [if_neg hl] at p;exact aC.stuck p
 |_=>exact aC.stuck p
noncomputable def zx:Dat->Dat->M Dat
 |.str z,.int i=>if z.length<=sizeLine then (match atI z.cps.toList i with
  |some c=>.ok (.str ⟨#[c]⟩)
  |none=>stk) else stk
 |_,_=>stk
theorem sX:IxR X (rD2 K W own zx):=ix_str.imp fun x y H Q h=>by
 obtain ⟨F,a,b,s,qa,qb,p⟩:=h;cases a with
 |str z=>cases b with
  |int i=>
   have p:aC K W own F H (if z.length<=sizeLine then (match atI z.cps.toList i with
    |some c=>.ok (.str ⟨#[c]⟩)
    |none=>stk) else stk) Q:=p
   by_cases hl:z.length<=sizeLine
   ·rw [if_pos hl] at p;cases hc:atI z.cps.toList i with
    |none=>rw [hc] at p;exact aC.stuck p
    |some c=>rw [hc] at p;exact ⟨z,i,c,qa,qb,hl,hc,p.str s⟩
   ·rw [if_neg hl] at p;exact aC.stuck p
  |_=>exact aC.stuck p
 |_=>exact aC.stuck p
noncomputable def lV:Dat->M Dat
 |.int i=>if i.natAbs.log2<1920 then .ok (.str (aK i)) else stk
 |.str z=>if z.length<=sizeLine then .ok (.str z) else stk
 |_=>stk
@[simp] theorem e_fmtI (i:Int):lV (.int i)=if i.natAbs.log2<1920 then .ok (.str (aK i)) else stk:=id rfl
@[simp] theorem e_fmtS (z:Str):lV (.str z)=if z.length<=sizeLine then .ok (.str z) else stk:=id rfl
theorem pA (he:DE K W false X e fe):DE K W own X (.FormattedValue e (-1) none pos) (f1 lV fe):=by
 intro pins s σ H Q I h;obtain ⟨F,ρ,r,sF,p⟩:=h;refine wpAny_FormattedValue_plain (thn (he pins s σ H (fun v H1=>∃a F1,fe ρ=.ok a/\Step F H F1 H1/\aQ K F1 a v) I (aT r sF (fun e he=>p.err (by show (fe ρ).bind lV=_;rw [he];rfl)) fun a ha v F1 H1 s1 q1=>⟨a,F1,ha,s1,q1⟩)) fun v s1 ⟨x,H1,I1,r1,a,F1,ha,st,q⟩=>?_);have p:aC K W own F H (lV a) Q:=by
  have p:aC K W own F H ((fe ρ).bind lV) Q:=p;rw [ha] at p;exact p
 have p:=p.step st;cases a with
 |int i=>
  have p:aC K W own F1 H1 (if i.natAbs.log2<1920 then .ok (.str (aK i)) else stk) Q:=p;cases (show x=V.int i from q);obtain ⟨t,rfl⟩:=(show ∃t,v=Value.int i t from r1)
  by_cases hl:i.natAbs.log2<1920
  ·rw [if_pos hl] at p;exact wpAny_formatField_int hl ⟨.str (aK i),H1,(I1.tok _).tok _,⟨_,rfl⟩,p.str st.fh⟩
  ·rw [if_neg hl] at p;exact aC.stuck p
 |str z=>
  have p:aC K W own F1 H1 (if z.length<=sizeLine then .ok (.str z) else stk) Q:=p;cases (show x=V.str z from q);obtain ⟨t,rfl⟩:=(show ∃t,v=Value.str z t from r1)
  by_cases hl:z.length<=sizeLine
  ·rw [if_pos hl] at p;have hq:=p.str st.fh;exact wpAny_formatField_str ⟨.str z,H1,I1,⟨_,rfl⟩,hq⟩ ⟨.str z,H1,I1.tok _,⟨_,rfl⟩,hq⟩ hl
  ·rw [if_neg hl] at p;exact aC.stuck p
 |_=>exact aC.stuck p
noncomputable def mS (fs:List (ai->M Dat)) (ρ:ai):Str->M Str:=match fs with
 |[]=>fun acc=>.ok acc
 |f::fs=>fun acc=>(f ρ).bind fun d=>match d with
  |.str z=>if (acc++z).length<=sizeLine then mS fs ρ (acc++z) else stk
  |_=>stk
noncomputable def fJ (fs:List (ai->M Dat)):ai->M Dat:=fun ρ=>(mS fs ρ Str.empty).bind fun z=>.ok (.str z)
noncomputable def tJ (K:Fg) (W:du) (fs:List (ai->M Dat)) (acc:Str) (σ:St) (H:Hp) (Q:Str->Hp->Prop):Prop:=∃F ρ,dP K F σ ρ/\aN F H/\(match mS fs ρ acc with
 |.ok z=>∀F' H',Step F H F' H'->Q z H'
 |.error e=>W.p e F H)
noncomputable def DJ (K:Fg) (W:du) (X:Cx) (es:List Expr) (fs:List (ai->M Dat)):Prop:=∀(pins:Pn) (s:Shared) (σ:St) (H:Hp) (acc:Str) (Q:Str->Hp->Prop),acc.length<=sizeLine->Inv X pins σ H s->tJ K W fs acc σ H Q ->
 Joins (model X.prog X.w) X.A X.xe (evalEach es X.env) acc (fun out s1=>out.length<=sizeLine/\∃H1,Inv X pins σ H1 s1/\Q out H1) s
theorem Bj (hs:evalEach [] X.env=[]:=by rfl):DJ K W X [] []:=fun pins s σ H acc Q ha I ⟨F,ρ,r,sF,p⟩=>by rw [hs];exact ⟨ha,H,I,p F H (Step.refl sF)⟩
theorem eC {fs:List (ai->M Dat)} (he:DE K W false X e fe) (hr:DJ K W X es fs) (hs:evalEach (e::es) X.env=eval e X.env::evalEach es X.env:=by rfl):DJ K W X (e::es) (fe::fs):=fun pins s σ H acc Q ha I ⟨F,ρ,r,sF,p⟩=>by
 rw [hs];have p:(match (fe ρ).bind (fun d=>match d with
  |.str z=>if (acc++z).length<=sizeLine then mS fs ρ (acc++z) else stk
  |_=>stk) with
  |.ok z=>∀F' H',Step F H F' H'->Q z H'
  |.error e=>W.p e F H):=p
 refine thn (he pins s σ H (fun v H1=>∃a F1,fe ρ=.ok a/\Step F H F1 H1/\aQ K F1 a v) I (aT r sF (fun e he=>by rw [he] at p;exact p) fun a ha v F1 H1 s1 q1=>⟨a,F1,ha,s1,q1⟩)) fun v s1 ⟨x,H1,I1,r1,a,F1,ea,st,q⟩=>?_;rw [ea] at p;cases a with
 |str z=>
  cases (show x=V.str z from q);obtain ⟨t,rfl⟩:=(show ∃t,v=Value.str z t from r1)
  have p:(match (if (acc++z).length<=sizeLine then mS fs ρ (acc++z) else stk) with
   |.ok z=>∀F' H',Step F H F' H'->Q z H'
   |.error e=>W.p e F H):=p
  by_cases hl:(acc++z).length<=sizeLine
  ·rw [if_pos hl] at p;refine ⟨z,t,rfl,hl,hr pins s1 σ H1 (acc++z) Q hl I1 ⟨F1,ρ,r.mono st.ff,st.fh,?_⟩⟩
   cases e1:mS fs ρ (acc++z) with
   |ok y=>rw [e1] at p;exact fun F' H' s'=>p F' H' (st.trans s')
   |error e=>rw [e1] at p;exact W.mono p st
  ·rw [if_neg hl] at p;exact (W.ns p).elim
 |_=>exact (W.ns p).elim
theorem wt {fs:List (ai->M Dat)} (h:DJ K W X (e1::e2::es) fs):DE K W own X (.JoinedStr (e1::e2::es) pos) (fJ fs):=by
 intro pins s σ H Q I ⟨F,ρ,r,sF,p⟩;have p:aC K W own F H ((mS fs ρ Str.empty).bind fun z=>.ok (.str z)) Q:=p;refine wpAny_JoinedStr ?_;refine qK (h pins s σ H Str.empty (fun z H1=>Q (.str z) H1) (by decide) I ⟨F,ρ,r,sF,?_⟩) fun out s1 ⟨hl,H1,I1,q⟩=>⟨hl,.str out,H1,I1.tok _,⟨_,rfl⟩,q⟩
 cases e1:mS fs ρ Str.empty with
 |ok z=>rw [e1] at p;exact fun F' H' s'=>(p.step s').str s'.fh
 |error e=>rw [e1] at p;exact p
end
noncomputable def newS (C:Addr) (g:List Dat->M Dat):List Dat->M Dat
 |[.lst d0,dr,.lst d1,.lst d2,.lst d3]=>(g [.lst d0,dr,.lst d1,.lst d2,.lst d3]).bind fun t=>match t with
  |.str z=>.ok (.ins C [("kinds",.lst d0),("rules",dr),("names",.lst d1),("flights",.lst d2),("closed",.lst d3),("text",.str z)])
  |_=>stk
 |_=>stk
noncomputable def spIS (K:Fg) (C:Addr) (g:List Dat->M Dat):Sp:=fun vs H Q _=>∃(p dx b0 b1 b2 b3:Addr) (vr:V) (y0 y1 y2 y3:List V) (F:Hp) (d0 d1 d2 d3:List Dat) (dr:Dat) (z:Str),
 vs=[.ref p,.ref b0,vr,.ref b1,.ref b2,.ref b3]/\H p=some (.ins C dx [])/\F p=none/\aN F H/\(SqL K F b0 y0/\az K F d0 y0)/\aQ K F dr vr/\(SqL K F b1 y1/\az K F d1 y1)/\(SqL K F b2 y2/\az K F d2 y2)/\(SqL K F b3 y3/\az K F d3 y3) /\
 g [.lst d0,dr,.lst d1,.lst d2,.lst d3]=.ok (.str z)/\∀(l0 l1 l2 l3:Addr) (H':Hp),(∀c o,H c=some o->c≠p->H' c=some o)->H l0=none->H l1=none->H l2=none->H l3=none->H' l0=some (.lst y0)->H' l1=some (.lst y1)->H' l2=some (.lst y2)->H' l3=some (.lst y3) ->
  H' p=some (.ins C dx [("kinds",.ref l0),("rules",vr),("names",.ref l1),("flights",.ref l2),("closed",.ref l3),("text",.str z)])->Q .non H'
theorem Step.own (s:Step F H F1 H1) (h0:H l=none) (h1:H1 l=some o):Step F H (upd F1 l o) H1 where
 ff:=fun b u e=>by
  by_cases hb:b=l
  ·subst hb;rw [ay,<- h1,s.fh _ _ (s.ff _ _ e)]
  ·rw [au hb];exact s.ff _ _ e
 hh:=s.hh
 fh:=fun b u e=>by
  by_cases hb:b=l
  ·subst hb;rw [ay] at e;rw [h1];exact e
  ·rw [au hb] at e;exact s.fh _ _ e
 nw:=fun b u e=>by
  by_cases hb:b=l
  ·subst hb;exact .inr h0
  ·rw [au hb] at e;exact s.nw _ _ e
theorem Step.nY (s:Step F H F1 H1) (h1:H1 l=some o):aN F1 (upd F1 l o):=fun b u e=>by
 by_cases hb:b=l
 ·subst hb;rw [ay,<- h1,s.fh _ _ e]
 ·rw [au hb];exact e
theorem born_S {x m0 m1 m2 m3:Addr} {vr:V} {y0 y1 y2 y3:List V} {d0 d1 d2 d3:List Dat} {dr:Dat} {t:Str} (s1:aN F H1) (hx:H1 x=none) (hdx:H1 dx=none) (c0:az K F d0 y0) (qr:aQ K F dr vr) (c1:az K F d1 y1) (c2:az K F d2 y2) (c3:az K F d3 y3)
  (k0:∀c o,upd (upd H1 dx (.own x)) x (.ins C dx []) c=some o->c≠x->H' c=some o) (n0:upd (upd H1 dx (.own x)) x (.ins C dx []) m0=none) (n1:upd (upd H1 dx (.own x)) x (.ins C dx []) m1=none) (n2:upd (upd H1 dx (.own x)) x (.ins C dx []) m2=none) (n3:upd (upd H1 dx (.own x)) x (.ins C dx []) m3=none)
  (k1:H' m0=some (.lst y0)) (k2:H' m1=some (.lst y1)) (k3:H' m2=some (.lst y2)) (k4:H' m3=some (.lst y3)) (k5:H' x=some (.ins C dx [("kinds",.ref m0),("rules",vr),("names",.ref m1),("flights",.ref m2),("closed",.ref m3),("text",.str t)])) :
  ∃G,Step F H1 G H'/\aQ K G (.ins C [("kinds",.lst d0),("rules",dr),("names",.lst d1),("flights",.lst d2),("closed",.lst d3),("text",.str t)]) (.ref x):=by
 have old:∀{c:Addr},upd (upd H1 dx (.own x)) x (.ins C dx []) c=none->H1 c=none:=fun {c} h=>by
  cases hc:H1 c with
  |none=>rfl
  |some o=>
   have h1:c≠x:=fun h=>by rw [h,hx] at hc;cases hc
   have h2:c≠dx:=fun h=>by rw [h,hdx] at hc;cases hc
   rw [au h1,au h2,hc] at h;cases h
 have g1:aN H1 H':=fun c o e=>by
  have h1:c≠x:=fun h=>by rw [h,hx] at e;cases e
  have h2:c≠dx:=fun h=>by rw [h,hdx] at e;cases e
  exact k0 c o (by rw [au h1,au h2];exact e) h1
 have S0:Step F H1 F H':=⟨aN.refl _,g1,s1.trans g1,fun _ _ h=>.inl h⟩
 have S1:=S0.own (old n0) k1;have S2:=S1.own (old n1) k2;have S3:=S2.own (old n2) k3;have S4:=S3.own (old n3) k4;have S5:=S4.own hx k5;have at5:∀{l:Addr} {o:HO},upd (upd (upd (upd F m0 (.lst y0)) m1 (.lst y1)) m2 (.lst y2)) m3 (.lst y3) l=some o->upd (upd (upd (upd (upd F m0 (.lst y0)) m1 (.lst y1)) m2 (.lst y2)) m3 (.lst y3)) x (.ins C dx [("kinds",.ref m0),("rules",vr),("names",.ref m1),("flights",.ref m2),("closed",.ref m3),("text",.str t)]) l=some o:=fun {l o} h=>S4.nY k5 l o h;have r0:=at5 (S3.nY k4 _ _ (S2.nY k3 _ _ (S1.nY k2 m0 _ ay)));have r1:=at5 (S3.nY k4 _ _ (S2.nY k3 m1 _ ay));have r2:=at5 (S3.nY k4 m2 _ ay);have r3:=at5 (l:=m3) ay;exact ⟨_,S5,x,dx,_,rfl,ay,_,_,rfl,⟨m0,y0,rfl,SqL.of r0,az.mono S5.ff c0⟩,_,_,rfl,aQ.mono S5.ff qr,_,_,rfl,⟨m1,y1,rfl,SqL.of r1,az.mono S5.ff c1⟩,_,_,rfl,⟨m2,y2,rfl,SqL.of r2,az.mono S5.ff c2⟩,_,_,rfl,⟨m3,y3,rfl,SqL.of r3,az.mono S5.ff c3⟩,_,_,rfl,rfl,rfl⟩
section
variable {e0:Expr} {fr:ai->M (List Dat)}
theorem de_newS {g:List Dat->M Dat} (Mk':Mk X.K C fI) (FI:iJ X.prog X.w X.K X.mg X.base CX0 k fI fdI ps (spIS K C g)) (hr:ip (k+1) X.A) (hm:X.mg x=some (.ref C)) (hb:Binds X.K fdI ps [])
  (ha:DA K Wno X [e0,e1,e2,e3,e4] fr) (hg:Gl X x:=by rfl) (hdb:(x==("__debug__":Str))=false:=by decide) (hst:starEach [e0,e1,e2,e3,e4] X.env=(false,eval e0 X.env)::starEach [e1,e2,e3,e4] X.env:=by rfl) (hpl:(backTo pos (starEach [e1,e2,e3,e4] X.env)).any (·.1)=false:=by rfl) :
  DE K Wno false X (.Call (.Name x p) [e0,e1,e2,e3,e4] [] pos) (fL (newS C g) fr):=by
 refine PE.imp (vP Mk' FI hr hg hm hb .nil nX ha hdb hst hpl) fun σ H Q h=>?_;obtain ⟨F,ρ,r,s,p⟩:=rd_L h;refine ⟨F,ρ,r,s,?_⟩
 cases e1:fr ρ with
 |error z=>rw [e1] at p;exact p
 |ok ds=>
  rw [e1] at p;intro vs F1 H1 st q;obtain ⟨F2,es1,s1,q1,z⟩:=p vs F1 H1 st q;unfold newS at z;split at z
  ·rename_i d0 dr d1 d2 d3;obtain ⟨_,_,rfl,⟨b0,y0,rfl,l0,c0⟩,vr,_,rfl,qr,_,_,rfl,⟨b1,y1,rfl,l1,c1⟩,_,_,rfl,⟨b2,y2,rfl,l2,c2⟩,_,_,rfl,⟨b3,y3,rfl,l3,c3⟩,hn⟩:=q1;cases hn;have z:aC K Wno false F2 H1 ((g [.lst d0,dr,.lst d1,.lst d2,.lst d3]).bind fun t=>match t with
    |.str z=>.ok (.ins C [("kinds",.lst d0),("rules",dr),("names",.lst d1),("flights",.lst d2),("closed",.lst d3),("text",.str z)])
    |_=>stk) Q:=z
   cases hgd:g [.lst d0,dr,.lst d1,.lst d2,.lst d3] with
   |error e=>rw [hgd] at z;exact False.elim z
   |ok t=>
    rw [hgd] at z;cases t with
    |str t=>
     intro x dx hx hdx hne;refine ⟨x,dx,b0,b1,b2,b3,vr,y0,y1,y2,y3,F2,d0,d1,d2,d3,dr,t,rfl,ay,s1.free hx,fun c o e=>?_,⟨l0,c0⟩,qr,⟨l1,c1⟩,⟨l2,c2⟩,⟨l3,c3⟩,hgd,?_⟩
     ·have hc:c≠x:=fun h=>by rw [h,s1.free hx] at e;cases e
      have hd:c≠dx:=fun h=>by rw [h,s1.free hdx] at e;cases e
      rw [au hc,au hd];exact s1 _ _ e
     ·intro m0 m1 m2 m3 H' k0 n0 n1 n2 n3 k1 k2 k3 k4 k5;obtain ⟨G,S,q⟩:=born_S s1 hx hdx c0 qr c1 c2 c3 k0 n0 n1 n2 n3 k1 k2 k3 k4 k5;exact ⟨rfl,z (.ref x) G H' S q⟩
    |_=>exact aC.stuck z
  ·exact aC.stuck z
end
noncomputable def RLst (K:Fg):List V->Hp->VK->Prop:=fun xs H Q=>∃p ys,xs=[.ref p]/\(SqL K H p ys\/SqT K H p ys)/\∀l,H l=none->Q (.ref l) (upd H l (.lst ys))
theorem kh (f:Str) (v:V):∀fs:List (Str×V),f∉fs.map (·.1)->qC f v fs=fs++[(f,v)]
 |[],_=>rfl
 |(g,x)::r,h=>by
  have h1:¬g=f:=fun e=>h (by simp [e]);have h2:f∉r.map (·.1):=fun e=>h (by simp at e ⊢;exact .inr e);show (if g=f then _ else _)=_;rw [if_neg h1,kh f v r h2];rfl
structure Cu (F H Hc:Hp) (p C dx:Addr) (fs:List (Str×V)):Prop where
 f0:F p=none
 sf:aN F Hc
 kp:∀c o,H c=some o->c≠p->Hc c=some o
 ob:Hc p=some (.ins C dx fs)
section
variable {p:Addr} {fs:List (Str×V)} {f:Str} {D:Ends} 
theorem Cu.put (c:Cu F H Hc p C dx fs) (f:Str) (v:V):Cu F H (upd Hc p (.ins C dx (fs++[(f,v)]))) p C dx (fs++[(f,v)]) where
 f0:=c.f0
 sf:=fun b u e=>by
  have:b≠p:=fun z=>by rw [z,c.f0] at e;cases e
  rw [au this];exact c.sf _ _ e
 kp:=fun b o e hb=>by rw [au hb];exact c.kp b o e hb
 ob:=ay
theorem Cu.lay (c:Cu F H Hc p C dx fs) (hl:Hc l=none):Cu F H (upd Hc l o) p C dx fs where
 f0:=c.f0
 sf:=fun b u e=>by
  have:b≠l:=fun z=>by rw [z,c.sf.free hl] at e;cases e
  rw [au this];exact c.sf _ _ e
 kp:=fun b u e hb=>by
  have h1:=c.kp b u e hb;have:b≠l:=fun z=>by rw [z,hl] at h1;cases h1
  rw [au this];exact h1
 ob:=by
  have:p≠l:=fun z=>by have h:=c.ob;rw [z,hl] at h;cases h
  rw [au this];exact c.ob
theorem Cu.new (c:Cu F H Hc p C dx fs) (hl:Hc l=none):H l=none:=by
 cases h:H l with
 |none=>rfl
 |some o=>
  have:l≠p:=fun z=>by have h:=c.ob;rw [<- z,hl] at h;cases h
  rw [c.kp l o h this] at hl;cases hl
theorem Cu.list (c:Cu F H Hc p C dx fs) (cl:Cls K C) (na:aV K C f) (hn:f∉fs.map (·.1)) (hf:fs.length<1000) (h0:σ[0]? =some (some (.ref p))) {y:List V} (hi:σ[i]? =some (some (.ref b))) (q:SqL K F b y)
  (next:∀l Hn,H l=none->Cu F H Hn p C dx (fs++[(f,.ref l)])->Hn l=some (.lst y)->(∀m o,Hc m=some o->m≠p->Hn m=some o)->D.nx σ Hn):xk K (bS 0) (tCB (RLst K) (aX (bS i) fU)) f D σ Hc:=by
 refine ⟨.ref b,hi,b,y,rfl,.inl (c.sf.lst q),fun l hl=>⟨.ref p,h0,p,C,dx,fs,rfl,(c.lay hl).ob,cl,na,hf,?_⟩⟩
 rw [kh f _ fs hn];have hlp:l≠p:=fun z=>by have h:=c.ob;rw [<- z,hl] at h;cases h
 refine next l _ (c.new hl) ((c.lay hl).put f (.ref l)) (by rw [au hlp,ay]) fun m o e hm=>?_
 have:m≠l:=fun z=>by rw [z,hl] at e;cases e
 rw [au hm,au this];exact e
end
theorem rs_initS {g:List Dat->M Dat} (cl:Cls K C) (na:∀y∈(["kinds","rules","names","flights","closed","text"]:List Str),aV K C y) (h:spIS K C g vs H Q E) :
  fT (xk K (bS 0) (tCB (RLst K) (aX (bS 1) fU)) "kinds") (fT (xk K (bS 0) (bS 2) "rules") (fT (xk K (bS 0) (tCB (RLst K) (aX (bS 3) fU)) "names") (fT (xk K (bS 0) (tCB (RLst K) (aX (bS 4) fU)) "flights")
   (fT (xk K (bS 0) (tCB (RLst K) (aX (bS 5) fU)) "closed") (xk K (bS 0) (gr (spF K false g 5) [] E' (aX (bS 1) (aX (bS 2) (aX (bS 3) (aX (bS 4) (aX (bS 5) fU)))))) "text")))))
   {nx:=fun _ H'=>Q .non H',rt:=Q} (start ["self","kinds","rules","names","flights","closed"] vs) H:=by
 obtain ⟨p,dx,b0,b1,b2,b3,vr,y0,y1,y2,y3,F,d0,d1,d2,d3,dr,z,rfl,hp,hF,sF,⟨q0,c0⟩,qr,⟨q1,c1⟩,⟨q2,c2⟩,⟨q3,c3⟩,hz,q⟩:=h;have C0:Cu F H H p C dx []:=⟨hF,sF,fun _ _ e _=>e,hp⟩
 refine C0.list cl (na _ (by simp)) (by simp) (by decide) rfl rfl q0 fun l0 H1 n0 C1 a0 k1=>?_;refine ⟨vr,rfl,.ref p,rfl,p,C,dx,_,rfl,C1.ob,cl,na _ (by simp),by simp,?_⟩
 rw [kh _ vr _ (by show ("rules":Str)∉(["kinds"]:List Str);decide +kernel)];have C2:=C1.put "rules" vr;have e0:∀{l:Addr},H l=none->l≠p:=fun {l} h z=>by rw [z,hp] at h;cases h
 have k2:∀m o,H1 m=some o->m≠p->upd H1 p (.ins C dx ((([]:List (Str×V))++[(("kinds":Str),V.ref l0)])++[(("rules":Str),vr)])) m=some o:=fun m o e hm=>by rw [au hm];exact e
 refine C2.list cl (na _ (by simp)) (by show ("names":Str)∉(["kinds","rules"]:List Str);decide +kernel) (by simp) rfl rfl q1 fun l1 H3 n1 C3 a1 k3=>?_;refine C3.list cl (na _ (by simp)) (by show ("flights":Str)∉(["kinds","rules","names"]:List Str);decide +kernel) (by simp) rfl rfl q2 fun l2 H4 n2 C4 a2 k4=>?_;refine C4.list cl (na _ (by simp)) (by show ("closed":Str)∉(["kinds","rules","names","flights"]:List Str);decide +kernel) (by simp) rfl rfl q3 fun l3 H5 n3 C5 a3 k5=>?_;refine ⟨.ref b0,rfl,vr,rfl,.ref b1,rfl,.ref b2,rfl,.ref b3,rfl,F,[.lst d0,dr,.lst d1,.lst d2,.lst d3],C5.sf,⟨_,_,rfl,⟨b0,y0,rfl,q0,c0⟩,_,_,rfl,qr,_,_,rfl,⟨b1,y1,rfl,q1,c1⟩,_,_,rfl,⟨b2,y2,rfl,q2,c2⟩,_,_,rfl,⟨b3,y3,rfl,q3,c3⟩,rfl⟩,rfl,?_⟩
 rw [hz];intro v F' H' st hv;cases (show v=.str z from hv);refine ⟨.ref p,rfl,p,C,dx,_,rfl,st.hh _ _ C5.ob,cl,na _ (by simp),by simp,?_⟩
 rw [kh _ _ _ (by show ("text":Str)∉(["kinds","rules","names","flights","closed"]:List Str);decide +kernel)];have all:∀m o,H5 m=some o->m≠p->upd H' p (.ins C dx (((((([]:List (Str×V))++[(("kinds":Str),V.ref l0)])++[(("rules":Str),vr)])++[(("names":Str),V.ref l1)])++[(("flights":Str),V.ref l2)])++[(("closed":Str),V.ref l3)]++[(("text":Str),V.str z)])) m=some o:=fun m o e hm=>by rw [au hm];exact st.hh _ _ e
 exact q l0 l1 l2 l3 _ (fun c o e hc=>all c o (C5.kp c o e hc) hc) n0 n1 n2 n3 (all _ _ (k5 _ _ (k4 _ _ (k3 _ _ (k2 _ _ a0 (e0 n0)) (e0 n0)) (e0 n0)) (e0 n0)) (e0 n0)) (all _ _ (k5 _ _ (k4 _ _ a1 (e0 n1)) (e0 n1)) (e0 n1)) (all _ _ (k5 _ _ a2 (e0 n2)) (e0 n2)) (all _ _ a3 (e0 n3)) ay
theorem isi1 {P:Addr->Bool->Prop} (h1:P C1 b1):∀C b,List.lookup C [(C1,b1)]=some b->P C b:=fun C b h=>by
 rw [List.lookup_cons] at h;cases e:C==C1 with
 |true=>
  rw [e] at h;cases h;rw [beq_iff_eq.mp e];exact h1
 |false=>rw [e] at h;cases h
structure Lent (K:Fg) (H0 G H:Hp) (hh:Addr) (bs:List Addr) (ys:List (List V)) (ds:List (List Dat)):Prop where
 sg:aN G H
 s0:aN H0 H
 top:H hh=some (.lst (bs.map .ref))
 gh:G hh=none
 h0:H0 hh=none
 nt:hh∉bs
 own:∀(j:Nat) (b:Addr),bs[j]? =some b->G b=none/\H0 b=none/\∃y d,ys[j]? =some y/\ds[j]? =some d/\H b=some (.lst y)/\az K G d y
section
variable {hh:Addr} {bs:List Addr} {ys:List (List V)} {ds:List (List Dat)}
theorem Lent.step (l:Lent K H0 G H hh bs ys ds) (s:Step G H G' H'):Lent K H0 G' H' hh bs ys ds where
 sg:=s.fh
 s0:=l.s0.trans s.hh
 top:=s.hh _ _ l.top
 gh:=by
  cases e:G' hh with
  |none=>rfl
  |some o=>
   rcases s.nw _ _ e with z|z
   ·rw [l.gh] at z;cases z
   ·rw [l.top] at z;cases z
 h0:=l.h0
 nt:=l.nt
 own:=fun j b e=>by
  obtain ⟨h1,h2,y,d,h3,h4,h5,h6⟩:=l.own j b e;refine ⟨?_,h2,y,d,h3,h4,s.hh _ _ h5,az.mono s.ff h6⟩
  cases e:G' b with
  |none=>rfl
  |some o=>
   rcases s.nw _ _ e with z|z
   ·rw [h1] at z;cases z
   ·rw [h5] at z;cases z
open Classical in
end
section
theorem dP.hide (r:dP K F σ ρ) (i:Nat) (v:Option V):dP K F (σ.set i v) (ρ.set i none):=
 ⟨by rw [List.length_set,List.length_set,r.len],fun j d e=>by
  by_cases hij:i=j
  ·subst hij;by_cases hi:i<ρ.length
   ·rw [List.getElem?_set_self hi] at e;cases e
   ·rw [List.getElem?_eq_none (by rw [List.length_set];omega)] at e;cases e
  ·rw [List.getElem?_set_ne hij] at e;obtain ⟨v,h1,h2⟩:=r.sl j d e;exact ⟨v,by rw [List.getElem?_set_ne hij];exact h1,h2⟩⟩
theorem dP.tell (r:dP K F σ ρ) (e:σ[i]? =some (some v)) (q:aQ K F d v):dP K F σ (ρ.set i (some d)):=
 ⟨by rw [List.length_set,r.len],fun j d' e'=>by
  by_cases hij:i=j
  ·subst hij;by_cases hi:i<ρ.length
   ·rw [List.getElem?_set_self hi] at e';cases e';exact ⟨v,e,q⟩
   ·rw [List.getElem?_eq_none (by rw [List.length_set];omega)] at e';cases e'
  ·rw [List.getElem?_set_ne hij] at e';exact r.sl j d' e'⟩
theorem dP.but (r:dP K F σ ρ) (hl:σ'.length=σ.length) (h:∀j,j≠i->σ'[j]? =σ[j]?):dP K F σ' (ρ.set i none):=
 ⟨by rw [List.length_set,r.len,hl],fun j d e=>by
  by_cases hij:i=j
  ·subst hij;by_cases hi:i<ρ.length
   ·rw [List.getElem?_set_self hi] at e;cases e
   ·rw [List.getElem?_eq_none (by rw [List.length_set];omega)] at e;cases e
  ·rw [List.getElem?_set_ne hij] at e;obtain ⟨v,h1,h2⟩:=r.sl j d e;exact ⟨v,by rw [h j (Ne.symm hij)];exact h1,h2⟩⟩
end
noncomputable def unF:HO->HO
 |.frz _ u=>u
 |o=>o
open Classical in
noncomputable def pU (H H1:Hp):Hp:=fun b=>if H b=none then (H1 b).map unF else H1 b
noncomputable def tThaw (t:TE):TE:=fun σ H Q=>t σ H fun v H1=>Q v (pU H H1)
theorem k9 (h:H1 b=none):pU H H1 b=none:=by unfold pU;rw [h];split<;>rfl
theorem mU (h:H b=some o):pU H H1 b=H1 b:=by unfold pU;rw [if_neg (by rw [h];exact fun z=>nomatch z)]
theorem mV (h:H b=none):pU H H1 b=(H1 b).map unF:=by unfold pU;rw [if_pos h]
theorem nE (h:H1 b=some o) (n:unF o=o):pU H H1 b=some o:=by
 unfold pU;rw [h];split
 ·show some (unF o)=some o;rw [n]
 ·rfl
theorem Inv.pU {X:Cx} {pins:Pn} {σ:List (Option V)} {H H1:Hp} {s s1:Shared} (I:Inv X pins σ H s) (J:Inv X pins σ H1 s1):Inv X pins σ (pU H H1) s1 where
 ok:=J.ok
 os:=J.os
 bare:=J.bare
 base:=⟨J.base.keep,J.base.slot,fun b o e n x=>k9 (J.base.free b o e n x),J.base.there,fun b xs e=>nE (J.base.tups b xs e) rfl,fun b o u e=>by rw [mU (I.base.frzs b o u e)];exact J.base.frzs b o u e,fun b ps e=>by
  obtain ⟨m,q⟩:=J.base.tbls b ps e;exact ⟨m,nE q rfl⟩⟩
 loc:=J.loc
 cell:=J.cell
 free:=k9 J.free
 freeC:=fun x c e=>k9 (J.freeC x c e)
 pin:=fun p hp=>let ⟨a,b,c⟩:=J.pin p hp;⟨a,k9 b,c⟩
 hok:=fun b o e=>by
  have st:∀u,gn X.prog X.w H1 s1.heap b u->gn X.prog X.w (L2.pU H H1) s1.heap b u:=fun u z=>z.stay (fun _ _ _ q=>q) (fun c q=>nE q rfl) fun c xs q=>nE q rfl;cases hb:H b with
  |some u=>rw [mU hb] at e;exact st _ (J.hok b o e)
  |none=>
   rw [mV hb] at e;cases h1:H1 b with
   |none=>rw [h1] at e;cases e
   |some u=>
    rw [h1] at e;cases e;have z:=J.hok b u h1;cases u with
    |frz ob v=>exact st _ z.2
    |_=>exact st _ z
 len:=J.len
noncomputable def Au (K:Fg):Bool:=K.all fun p=> !(p.2.cls==.type "list")
section
theorem xB (h:Au K=true) {o:Obj} (e:K.lookup a=some o) (c:o.cls=.type "list"):False:=by
 have key:∀L:Pn,L.lookup a=some o->(L.all fun p=> !(p.2.cls==.type "list"))=true->False:=by
  intro L
  induction L with
  |nil=>intro e;cases e
  |cons p L ih=>
   obtain ⟨b,u⟩:=p;intro e h;rw [List.all_cons,Bool.and_eq_true] at h;rw [List.lookup_cons] at e;cases hb:a==b with
   |true=>
    rw [hb] at e;cases e;have:=h.1;rw [c] at this;exact absurd this (by decide)
   |false=>rw [hb] at e;exact ih e h.2
 exact key K e h
theorem SqL.pU (hn:Au K=true) {G H H1:Hp} {b:Addr} {y:List V} (s:aN G H1) (n:H b=none) (q:SqL K G b y):pU H H1 b=some (.lst y):=by
 rcases q with (q|⟨o,q⟩)|⟨o,_,_,e,c,_⟩
 ·exact nE (s _ _ q) rfl
 ·rw [mV n,s _ _ q];rfl
 ·exact (xB hn e c).elim
end
section
theorem Rep.ofE (r:dP K F σ ρ) (st:Step F0 H0 F H) (fb:aN FB F):Rep K F0 H0 FB [] F H σ ρ:=
 ⟨st,fb,r.len,fun i d e _=>r.sl i d e,(fun _ _ _ h=>nomatch h),(fun _ _ _ _ _ h=>nomatch h)⟩
end
section
variable {t:TE}
theorem pe_thaw (h:PE X e t):PE X e (tThaw t):=fun pins s σ H Q I z=>thn (h pins s σ H _ I z) fun v s1 ⟨y,H1,I1,r1,q1⟩=>⟨y,pU H H1,I.pU I1,r1,q1⟩
end
noncomputable def nI:Dat->Dat->M Dat
 |.str x,.str y=>if (decide (y.length=1)&&decide (x.length+2<=sizeLine))=true then .ok (.lst ((Txt.split x y).map .str)) else stk
 |_,_=>stk
@[simp] theorem e_splitD (x y:Str):nI (.str x) (.str y)=if (decide (y.length=1)&&decide (x.length+2<=sizeLine))=true then .ok (.lst ((Txt.split x y).map .str)) else stk:=id rfl
noncomputable def lr:Dat->Dat->M Dat
 |.str x,.str y=>.ok (.bl (Txt.startswith x y))
 |_,_=>stk
@[simp] theorem e_startsD (x y:Str):lr (.str x) (.str y)=.ok (.bl (Txt.startswith x y)):=id rfl
noncomputable def xj:Dat->M (List Dat)
 |.str x=>.ok (x.cps.toList.map fun c=>.str ⟨#[c]⟩)
 |_=>.error .stuck
noncomputable def fItS (fa:ai->M Dat):ai->M (List Dat):=fun ρ=>(fa ρ).bind xj
@[simp] theorem e_fItS (fa:ai->M Dat) (ρ:ai):fItS fa ρ=(fa ρ).bind xj:=id rfl
@[simp] theorem e_signsD (x:Str):xj (.str x)=.ok (x.cps.toList.map fun c=>.str ⟨#[c]⟩):=id rfl
noncomputable def inSD:Dat->Dat->M Dat
 |.str a,.str b=>.ok (.bl (!(Builtin.Str.occurrences b a 0 b.length 1).isEmpty))
 |_,_=>stk
noncomputable def vW:Dat->Dat->M Dat
 |.str a,.str b=>.ok (.bl (!(!(Builtin.Str.occurrences b a 0 b.length 1).isEmpty)))
 |_,_=>stk
@[simp] theorem e_inSD (c:Nat) (b:Str):inSD (.str ⟨#[c]⟩) (.str b)=.ok (.bl (decide (c∈b.cps.toList))):=by
 show Except.ok (Dat.bl (!(Builtin.Str.occurrences b ⟨#[c]⟩ 0 b.length 1).isEmpty))=_;rw [StrLaws.found_one]
@[simp] theorem e_notInSD (c:Nat) (b:Str):vW (.str ⟨#[c]⟩) (.str b)=.ok (.bl (!decide (c∈b.cps.toList))):=by
 show Except.ok (Dat.bl (!(!(Builtin.Str.occurrences b ⟨#[c]⟩ 0 b.length 1).isEmpty)))=_;rw [StrLaws.found_one]
noncomputable def intSD:List Dat->M Dat
 |[.str x]=>if x.length<=640 then (match PySem.intText? x with
  |some n=>.ok (.int n)
  |none=>stk) else stk
 |_=>stk
@[simp] theorem e_intSD (x:Str):intSD [.str x]=if x.length<=640 then (match PySem.intText? x with
  |some n=>.ok (.int n)
  |none=>stk) else stk:=id rfl
noncomputable def AK:List Dat->M Dat
 |[.str z]=>if z.length<=sizeLine then .ok (.int z.length) else stk
 |_=>stk
@[simp] theorem e_lenSD (z:Str):AK [.str z]=if z.length<=sizeLine then .ok (.int z.length) else stk:=id rfl
noncomputable def Its (x:Str):It:=⟨fun i _=>i<x.cps.size,fun i H v H'=>H'=H/\∃c,x.cps[i]? =some c/\v=.str ⟨#[c]⟩,fun i _=>i=x.cps.size⟩
theorem turn_str {nm:String} (hn:nm="str_ascii_iterator"\/nm="str_iterator") (x:Str) (t:Tok) (it:Addr):Turn P w K tg (Its x) [it] it (fun i h=>h.IsStrIter it nm x t i):=by
 have W:∀A:Around,A.handled=none->Walks P w A it [it] [it] x.cps.size (SignAt x) (fun i h=>h.IsStrIter it nm x t i):=fun A hA=>by
  rcases hn with rfl|rfl
  ·exact Walks.strAscii hA it x t
  ·exact Walks.strWide hA it x t
 have nn:["enumerate","zip","dict_itemiterator","dict_reverseitemiterator","odict_iterator","itertools.zip_longest","itertools.pairwise"].contains nm=false:=by rcases hn with rfl|rfl<;>decide
 refine ⟨by simp,fun i h st b hb=>?_,fun i h h' st k=>?_,?_,?_,fun A i s Q E st h=>?_⟩
 ·obtain rfl:b=it:=by simpa using hb
  obtain ⟨o,e,c,d⟩:=st;exact ⟨o,e,fun v z=>by rw [d] at z;cases z⟩
 ·obtain ⟨o,e,r⟩:=st;exact ⟨o,k it (by simp) o e,r⟩
 ·intro X hP hw hK hc i pins s σ H E I hf st hg;subst hP hw hK;obtain ⟨f0,f1,_,f3,f4,f5⟩:=hf it (by simp);refine (W X.A (I.ok.hd hc)).item i s _ _ hg st fun v h' tk ⟨c,u,hx,ev⟩ st' kp=>?_;have I1:Inv X pins σ H {s with heap:=h',toks:=tk}:=I.turned (fun b o hb e=>kp b o (by simpa using hb) e) f0 f1 f3 f4 f5;obtain ⟨o,e,cl,d⟩:=id st';exact ⟨v,rfl,go_of (s:={s with heap:=h',toks:=tk}) e cl d nn ⟨.str ⟨#[c]⟩,H,I1,⟨u,ev⟩,⟨rfl,c,hx,rfl⟩,st',fun b hb=>(hf b hb).1⟩⟩
 ·intro X hP hw hK hc i pins s σ H E I hf st hg;subst hP hw hK;obtain ⟨f0,f1,_,f3,f4,f5⟩:=hf it (by simp);have hg:i=x.cps.size:=hg;subst hg;exact (W X.A (I.ok.hd hc)).done s _ _ st fun h' tk kp=>⟨rfl,I.turned (fun b o hb e=>kp b o (by simpa using hb) e) f0 f1 f3 f4 f5⟩
 ·rcases hn with rfl|rfl
  ·exact wpAny_pyIter_striter_ascii st h
  ·exact wpAny_pyIter_striter_wide st h
theorem iter_str (x:Str):vc K F (Its x) (x.cps.toList.map fun c=>.str ⟨#[c]⟩) where
 go:=fun i F' H' _ _ hi=>by show i<x.cps.size;simpa using hi
 yl:=fun i F' H' v H2 d s1 s2 hd hy=>by
  obtain ⟨rfl,c,hc,rfl⟩:=hy;have hc':x.cps.toList[i]? =some c:=by simpa using hc
  rw [List.getElem?_map,hc'] at hd;cases hd;exact ⟨F',Step.refl s2,rfl⟩
 st:=fun F' H' _ _=>by show _=_;simp
section
variable {W:du} {own:Bool} 
theorem di_str (hl:DE K W false X e fa) (hK:X.K=K:=by rfl):DI K W X tg e (fItS fa):=by
 subst hK;intro pins s σ H R I ⟨F,ρ,r,sF,p⟩;have p:(match (fa ρ).bind xj with
  |.ok ds=>∀J F1 H1,Step F H F1 H1->vc X.K F1 J ds->R J H1
  |.error e=>W.p e F H):=p
 refine thn (hl pins s σ H (fun v H1=>∃a F1,fa ρ=.ok a/\Step F H F1 H1/\aQ X.K F1 a v) I (aT r sF (fun e he=>by rw [he] at p;exact p) fun a ha v F1 H1 s1 q1=>⟨a,F1,ha,s1,q1⟩)) fun v s1 ⟨y,H1,I1,r1,a,F1,ea,st,q⟩=>?_;rw [ea] at p;cases a with
 |str z=>
  cases (show y=V.str z from q);obtain ⟨t,rfl⟩:=(show ∃t,v=Value.str z t from r1)
  have fin:∀nm,(nm="str_ascii_iterator"\/nm="str_iterator")->PIE X pins σ tg R (.ref s1.heap.objs.size) {s1 with heap:=s1.heap.push {cls:=.type nm,data:=.fields #[.str z t,.int 0 0]}}:=fun nm hn=>by
   refine ⟨s1.heap.objs.size,[s1.heap.objs.size],_,_,H1,rfl,I1.kept (t':=s1.toks) fun b o e=>Heap.get?_push_of_some _ e,turn_str hn z t _,⟨_,Heap.get?_push_size _ rfl,rfl,rfl⟩,fun b hb=>?_,p (Its z) F1 H1 st (iter_str z)⟩
   obtain rfl:b=s1.heap.objs.size:=by simpa using hb
   exact I1.fpOk (Nat.le_refl _) (I1.hok.fresh (Nat.le_refl _))
  cases ha:z.cps.all (·<128)
  ·exact wpAny_pyIter_wide ha (fin _ (.inr rfl))
  ·exact wpAny_pyIter_ascii ha (fin _ (.inl rfl))
 |_=>exact (W.ns p).elim
theorem sj:MtR X "str.split" (rSM X.K W true nI):=by
 intro pins s σ H x vs v us Q I rx rv h;obtain ⟨F,z,b,y,sF,rfl,rfl,qb,p⟩:=h;obtain ⟨u,rfl,ru⟩:=rv.one;obtain ⟨t,rfl⟩:=(show ∃t,v=Value.str z t from rx)
 cases b with
 |str y'=>
  cases (show y=V.str y' from qb);obtain ⟨t2,rfl⟩:=(show ∃t,u=Value.str y' t from ru)
  have p:aC X.K W true F H (if (decide (y'.length=1)&&decide (z.length+2<=sizeLine))=true then .ok (.lst ((Txt.split z y').map .str)) else stk) Q:=p;by_cases hc:(decide (y'.length=1)&&decide (z.length+2<=sizeLine))=true
  ·rw [if_pos hc] at p;rw [Bool.and_eq_true,decide_eq_true_eq,decide_eq_true_eq] at hc;have le:=split_le z y';have dsp:∀l:List Str,az X.K F (l.map .str) (l.map V.str):=fun l=>by
    induction l with
    |nil=>rfl
    |cons a l ih=>exact ⟨.str a,_,rfl,rfl,ih⟩
   have vs:∀l:List (Str×Tok),Vals ((l.map (·.1)).map V.str) (strValues l):=fun l=>by
    induction l with
    |nil=>exact .nil
    |cons a l ih=>exact .cons ⟨a.2,rfl⟩ ih
   have fin:∀(l:List (Str×Tok)) (k:Nat),l.map (·.1)=Txt.split z y'->EP X pins σ Q (.ref s.heap.objs.size) {s with toks:=k,heap:=s.heap.push {cls:=.type "list",data:=.seq (strValues l).toArray}}:=fun l k hl=>by
    have hlen:((Txt.split z y').map V.str).length<=sizeLine:=by rw [List.length_map];omega
    refine ⟨.ref s.heap.objs.size,_,I.laid (t':=k) (o:=.lst ((Txt.split z y').map V.str)) (fun _ _ q=>Heap.get?_push_of_some _ q) (Nat.le_refl _) ⟨hlen,strValues l,0,by rw [<- hl];exact vs l,Heap.get?_push_size _ rfl⟩,rfl,?_⟩
    have hf:=I.hok.fresh (Nat.le_refl s.heap.objs.size);exact p (.ref s.heap.objs.size) F _ (Step.grow sF hf) ⟨_,_,rfl,ay,sF.free hf,hf,dsp _⟩
   have hy:(y'.length==0)=false:=by rw [hc.1];rfl
   have hn:(Builtin.Str.partsBetween z (Builtin.Str.occurrences z y' 0 z.length (z.length+1)) y'.length).length<=sizeLine:=by
    have:=StrLaws.occ_length_le z y' 0 z.length (z.length+1);rw [length_partsBetween];omega
   have go:∀{S:PySem.Spec},Meets (Builtin.«str.split» ⟨[.str z t,.str y' t2],[]⟩) S->S X.A (wants (EP X pins σ Q) X.xe) s->wpAny (model X.prog X.w) X.A (call (.builtin "str.split") [.str z t,.str y' t2]) (EP X pins σ Q) X.xe s:=fun m hS=>call_meets PySem.F.slot_str_split (typeIs_str _ _ _) PySem.F.entry_str_split (PySem.F.args_str_split_2 _ _) m hS;cases h1:(decide (z.length<y'.length)||decide (Builtin.Str.strKind z<Builtin.Str.strKind y'))
   ·cases hf:(Builtin.Str.occurrences z y' 0 z.length (z.length+1)).isEmpty
    ·refine go (meets_str_split_sep z y' t t2 h1 hy hf (by omega) hn) ?_;show wants _ _ _ {s with toks:=_,heap:=s.heap.push {cls:=.type "list",data:=.seq (strsFrom s.toks (Builtin.Str.partsBetween z (Builtin.Str.occurrences z y' 0 z.length (z.length+1)) y'.length)).toArray}};rw [strsFrom_eq];exact fin (numbered s.toks _) _ ((numbered_texts _ _).trans ((if_neg (by rw [h1];decide)).trans (if_neg (by rw [hf];decide))).symm)
    ·exact go (meets_str_split_not_found z y' t t2 h1 hy hf) (fin [(z,t)] s.toks ((if_neg (by rw [h1];decide)).trans (if_pos hf)).symm)
   ·exact go (meets_str_split_cannot_occur z y' t t2 h1) (fin [(z,t)] s.toks (if_pos h1).symm)
  ·rw [if_neg hc] at p;exact aC.stuck p
 |_=>exact aC.stuck p
theorem Az:MtR X "str.startswith" (rSM X.K W own lr):=by
 intro pins s σ H x vs v us Q I rx rv h;obtain ⟨F,z,b,y,sF,rfl,rfl,qb,p⟩:=h;obtain ⟨u,rfl,ru⟩:=rv.one;obtain ⟨t,rfl⟩:=(show ∃t,v=Value.str z t from rx)
 cases b with
 |str y'=>
  cases (show y=V.str y' from qb);obtain ⟨t2,rfl⟩:=(show ∃t,u=Value.str y' t from ru)
  have p:aC X.K W own F H (.ok (.bl (Txt.startswith z y'))) Q:=p;exact call_gives PySem.F.slot_str_startswith (typeIs_str _ _ _) PySem.F.entry_str_startswith (PySem.F.args_str_startswith_2 _ _) (gives_str_startswith z y' t t2) ⟨.bl _,H,I,rfl,p (.bl _) F H (Step.refl sF) (by cases own<;>rfl)⟩
 |_=>exact aC.stuck p
theorem o_inS:Op2 K W own X (compareOp .In) inSD:=OpR.imp An fun x y H Q ⟨F,a,b,s,qa,qb,p⟩=>by
 cases a with
 |str i=>cases b with
  |str j=>
   have p:aC K W own F H (.ok (.bl (!(Builtin.Str.occurrences j i 0 j.length 1).isEmpty))) Q:=p;exact ⟨i,j,qa,qb,p (.bl _) F H (Step.refl s) (by cases own<;>rfl)⟩
  |_=>exact aC.stuck p
 |_=>exact aC.stuck p
theorem o_notInS:Op2 K W own X (compareOp .NotIn) vW:=OpR.imp uf fun x y H Q ⟨F,a,b,s,qa,qb,p⟩=>by
 cases a with
 |str i=>cases b with
  |str j=>
   have p:aC K W own F H (.ok (.bl (!(!(Builtin.Str.occurrences j i 0 j.length 1).isEmpty)))) Q:=p;exact ⟨i,j,qa,qb,p (.bl _) F H (Step.refl s) (by cases own<;>rfl)⟩
  |_=>exact aC.stuck p
 |_=>exact aC.stuck p
theorem Bz:qu K W own X (.builtin "len") AK:=uZ.imp fun xs H Q h=>by
 obtain ⟨F,d,x,s,e,q,p⟩:=jN (fun ds=>by match ds with|[d]=>exact .inl ⟨d,rfl⟩|[]=>exact .inr rfl|a::b::c=>exact .inr (by cases a<;>rfl)) h;cases d with
 |str z=>
  have p:aC K W own F H (if z.length<=sizeLine then .ok (.int z.length) else stk) Q:=p;by_cases hl:z.length<=sizeLine
  ·rw [if_pos hl] at p;exact ⟨z,by rw [e,show x=.str z from q],hl,p (.int _) F H (Step.refl s) (by cases own<;>rfl)⟩
  ·rw [if_neg hl] at p;exact aC.stuck p
 |_=>exact aC.stuck p
theorem Bx:iq X (.type "int") (fun xs H Q=>∃z n,xs=[.str z]/\z.length<=640/\PySem.intText? z=some n/\Q (.int n) H):=by
 intro pins s σ H xs us Q I r ⟨z,n,e,hl,hn,q⟩;subst e;obtain ⟨u,rfl,ru⟩:=vals1 r;obtain ⟨t,rfl⟩:=(show ∃t,u=Value.str z t from ru)
 exact PySem.W.KIN.call_text hn hl ⟨.int n,H,I.tok _,⟨_,rfl⟩,q⟩
theorem c_intS:qu K W own X (.type "int") intSD:=Bx.imp fun xs H Q h=>by
 obtain ⟨F,d,x,s,e,q,p⟩:=jN (fun ds=>by match ds with|[d]=>exact .inl ⟨d,rfl⟩|[]=>exact .inr rfl|a::b::c=>exact .inr (by cases a<;>rfl)) h;cases d with
 |str z=>
  have p:aC K W own F H (if z.length<=640 then (match PySem.intText? z with
   |some n=>.ok (.int n)
   |none=>stk) else stk) Q:=p
  by_cases hl:z.length<=640
  ·rw [if_pos hl] at p;cases hn:PySem.intText? z with
   |none=>rw [hn] at p;exact aC.stuck p
   |some n=>rw [hn] at p;exact ⟨z,n,by rw [e,show x=.str z from q],hl,hn,p (.int _) F H (Step.refl s) (by cases own<;>rfl)⟩
  ·rw [if_neg hl] at p;exact aC.stuck p
 |_=>exact aC.stuck p
theorem sH (hm:∃t,X.mg x=some (.str z t)) (hg:Gl X x:=by rfl) (hd:(x==("__debug__":Str))=false:=by decide):DE K W false X (.Name x pos) (fC (.str z)):=by
 obtain ⟨t,e⟩:=hm;exact (vQ (v:=.str z) hg e ⟨t,rfl⟩ hd).imp fun _ _ _=>rd_c fun _=>rfl
end
noncomputable def idxS (xs:List Str) (k:Str):Option Nat:=xs.findIdx? (·==k)
noncomputable def lO:Dat->Dat->M Dat
 |.lst ds,.str k=>(gS ds).bind fun xs=>match idxS xs k with
  |some j=>.ok (.int j)
  |none=>stk
 |_,_=>stk
@[simp] theorem e_indexS (ds:List Dat) (k:Str):lO (.lst ds) (.str k)=(gS ds).bind fun xs=>match idxS xs k with
  |some j=>.ok (.int j)
  |none=>stk:=id rfl
noncomputable def iY (fo fe:ai->M Dat):ai->M Dat:=fun ρ=>(fo ρ).bind fun a=>if isL a=true then (fe ρ).bind fun b=>lO a b else stk
@[simp] theorem e_fIndexS (fo fe:ai->M Dat) (ρ:ai):iY fo fe ρ=(fo ρ).bind fun a=>if isL a=true then (fe ρ).bind fun b=>lO a b else stk:=id rfl
noncomputable def rIndexS (K:Fg):V->List V->Hp->VK->Prop:=fun x vs H Q=>∃l is k j,x=.ref l/\vs=[.str k]/\SqL K H l (is.map V.str)/\idxS is k=some j/\Q (.int j) H
noncomputable def isKS (k:Str):Value->Bool
 |.str i _=>i==k
 |_=>false
section
variable {W:du}
theorem AA (hu:X.A.units+64<cLine):MtR X "list.index" (rIndexS X.K):=by
 intro pins s σ H x vs v us Q I rx rv ⟨l,is,k,j,ex,ev,hS,hj,q⟩;subst ex ev;cases rx;obtain ⟨u,rfl,ru⟩:=rv.one;obtain ⟨its,r,pl,hz⟩:=I.list hS;obtain ⟨⟨oc,odd,odt,osl⟩,n,e,hcls,hdict,hdata⟩:=id pl;obtain ⟨t,rfl⟩:=(show ∃t,u=Value.str k t from ru)
 obtain ⟨hjl,hit,hno⟩:=List.findIdx?_eq_some_iff_getElem.mp hj;obtain ⟨L,rfl,rfl⟩:=nu r;have hsz:=sizeLine_eq;have hlen:(strValues L).length=L.length:=by unfold strValues;rw [List.length_map]
 have at':∀m (hm:m<(strValues L).length),(strValues L)[m]=.str ((L.map (·.1))[m]'(by rw [List.length_map];omega)) (L[m]'(by omega)).2:=fun m hm=>by simp [strValues]
 rw [List.length_map] at hjl;refine call_meets PySem.F.slot_list_index ⟨_,e,hcls⟩ PySem.F.entry_list_index (PySem.F.args_list_index_2 _ _) (SeqAt.list_indexAt l (strValues L).toArray n odd osl (.str k t) (isKS k) j (by rw [List.size_toArray];omega) (by have:=hz;rw [List.length_map,List.length_map] at this;omega) ?_ ?_) ⟨?_,fun y hy=>?_,⟨.int j,H,I.tok _,⟨_,rfl⟩,q⟩⟩
 ·rw [List.getElem_toArray,at' j (by omega)];exact hit
 ·intro m hm hmj;rw [List.size_toArray] at hm;rw [List.getElem_toArray,at' m hm];simpa [isKS] using hno m hmj
 ·rw [e];cases (show oc=.type "list" from hcls);cases (show odt=.seq (strValues L).toArray n from hdata);rfl
 ·obtain ⟨m,hml,rfl⟩:=List.getElem_of_mem (show y∈strValues L by simpa using hy);rw [at' m hml];generalize (L.map (·.1))[m]'(by rw [List.length_map];omega)=z;have w:=Bd (F:=H) (x:=.str z) (y:=.str k) (A:=X.A.in1) I (aN.refl H) (.str z) (.str k) rfl rfl rfl rfl ⟨(L[m]'(by omega)).2,rfl⟩ ⟨t,rfl⟩ (by show X.A.units+1+40<cLine;omega);have e2:eqD (.str z) (.str k)=isKS k (.str z (L[m]'(by omega)).2):=by simp [eqD,isKS]
  rw [e2] at w;exact w
variable {o:Expr} 
theorem pz (hu:X.A.units+64<cLine) (ho:DE K W false X o fo) (he:DE K W false X e fe) (hK:X.K=K:=by rfl) (hbase:attributeBase o "index" X.env (eval o X.env)=eval o X.env:=by rfl)
  (hfew:((backTo cpos (starEach [e] X.env)).all (fun x=> !x.1)&&(backToKw cpos (keywordEach [] X.env)).all (fun x=>x.1.isSome)&&decide ([e].length+([]:List Keyword).length+(if ([]:List Keyword).isEmpty then 0 else 1)<30))=true:=by rfl)
  (hline:(apos.endLine==cpos.line)=true:=by rfl) (hs:starEach [e] X.env=(false,eval e X.env)::starEach [] X.env:=by rfl) (hplain:(backTo cpos (starEach [] X.env)).any (·.1)=false:=by rfl) :
  DE K W false X (.Call (.Attribute o "index" apos) [e] [] cpos) (iY fo fe):=by
 subst hK;refine PE.imp (qc PySem.F.plainAttrs_list PySem.F.slot_list_index PySem.F.type_list_index (AA hu) ho (aA he aY (by rw [hs])) hbase hfew hline hs hplain) fun σ H Q ⟨F,ρ,r,s,p⟩=>?_;refine aT r s (fun e he=>p.err (by unfold iY;rw [he];rfl)) fun a ha x F1 H1 s1 q1=>?_;rw [show iY fo fe ρ=if isL a=true then (fe ρ).bind fun b=>lO a b else stk by unfold iY;rw [ha];rfl] at p;have p:=p.step s1;cases a with
 |lst ds=>
  have p:aC X.K W false F1 H1 ((fe ρ).bind fun b=>lO (.lst ds) b) Q:=p;obtain ⟨l,xs,rfl,t,z⟩:=id q1;refine ⟨.inl ⟨rfl,_,s1.fh.lst t⟩,aT (r.mono s1.ff) s1.fh (fun e he=>p.err (by rw [he];rfl)) fun b hb y F2 H2 s2 q2=>?_⟩
  rw [hb] at p;have p:aC X.K W false F1 H1 (lO (.lst ds) b) Q:=p;have p:=p.step s2;cases b with
  |str k=>
   have p:aC X.K W false F2 H2 ((gS ds).bind fun xs=>match idxS xs k with
    |some j=>.ok (.int j)
    |none=>stk) Q:=p
   cases hi:gS ds with
   |error e=>rw [hi] at p;rw [nH hi] at p;exact aC.stuck p
   |ok is=>
    rw [hi] at p;have p:aC X.K W false F2 H2 (match idxS is k with
     |some j=>.ok (.int j)
     |none=>stk) Q:=p
    have hx:=nG z hi;subst hx;cases hj:idxS is k with
    |none=>rw [hj] at p;exact aC.stuck p
    |some j=>
     rw [hj] at p;cases (show y=V.str k from q2);exact ⟨l,is,k,j,rfl,rfl,s2.fh.lst (s2.ff.lst t),hj,p (.int j) F2 H2 (Step.refl s2.fh) rfl⟩
  |_=>exact aC.stuck p
 |_=>exact aC.stuck p
end
noncomputable abbrev k1 (t:Tok):List (Str×Value):=[(Str.ofString "start",.int 1 t)]
theorem lst_it (h:Heap) (l:Addr):(h.push {cls:=.type "list_iterator",data:=.fields #[.ref l,.int 0 0]}).objs.size=h.objs.size+1:=Heap.size_push ..
theorem Aw (l:Addr) (items:Array Value) (n:Nat) (t:Tok) (dct:Option Addr) (sl:Array (Option Value)) :
  Meets (Builtin.«enumerate.__new__» ⟨[.type "enumerate",.ref l],k1 t⟩) (fun _ R s=>s.heap.get? l=some {cls:=.type "list",dict:=dct,data:=.seq items n,slots:=sl} /\
   R (.ok (.ret (.ref (s.heap.objs.size+1)))) {s with heap:=(s.heap.push {cls:=.type "list_iterator",data:=.fields #[.ref l,.int 0 0]}).push {cls:=.type "enumerate",data:=.fields #[.none,.bool false,.ref s.heap.objs.size,rawInt 1,.none,.none]}}):=
 Meets.of_wp fun P w A R s ⟨hl,h⟩=>by
  obtain ⟨hp,g,d,tk,os⟩:=s;rw [<- lst_it hp l] at h;have z:=sub_enumerate;have hL:Heap.IsList (Shared.heap ⟨hp,g,d,tk,os⟩) l items:=⟨_,hl,rfl,n,rfl⟩
  wp_walk using AutoSeq1.wpAny_loadPart' hl
  refine wpAny_stack_any fun st=>wpAny_pure ?_;split
  ·rename_i c _ _ _ _ _;cases (c==Value.type "enumerate")<;>(wp_walk using AutoSeq1.wpAny_loadPart' hl,wpAny_pyIter_list hL)<;>exact ⟨_,rfl,h⟩
  ·wp_walk using AutoSeq1.wpAny_loadPart' hl,wpAny_pyIter_list hL
   exact ⟨_,rfl,h⟩
theorem ini_k1 {self a:Value} {t:Tok} (hl:typeLookup (.type "enumerate") "__init__"=pure (some (.builtin "object.__init__"))) (hm:Bind.madeBy (.type "enumerate")=pure (some "enumerate.__new__")) :
  Meets (Builtin.«object.__init__» ⟨[self,a],k1 t⟩) (fun _ R s=>s.TypeIs self "enumerate"/\R (.ok (.ret .none)) s):=Meets.of_wp fun P w A R s ⟨hT,hq⟩=>by
 have ne:(some "enumerate.__new__" != some "object.__new__")=true:=by decide
 repeat (any_goals (first|assumption|wp_step))
 exact ⟨_,rfl,hq⟩
section
variable {E:Vp} {Q:Vp}
theorem zi {items:Array Value} {t:Tok} (hL:s.heap.IsList l items)
  (h:∀h',IsEnum h' (s.heap.objs.size+1) s.heap.objs.size 1 .none->h'.IsListIter s.heap.objs.size l 0->(∀b o,s.heap.get? b=some o->h'.get? b=some o)->Q (.ref (s.heap.objs.size+1)) {s with heap:=h'}) :
  wpAny (model prog w) A (call (.type "enumerate") [.ref l] (k1 t)) Q E s:=by
 obtain ⟨⟨c,dct,dt,sl⟩,hl,hc,n,hd⟩:=hL;cases (show c=.type "list" from hc);cases (show dt=.seq items n from hd);have ft:=F.called_enumerate;obtain ⟨c,tl,hmro⟩:=ft.mro;have hmade:=ft.made;have hsub:=ft.sub;have h1:=ft.notType;have h2:=ft.canCreate;have hct:checkTypeCall "enumerate" ⟨[.ref l],k1 t⟩=pure ():=by kernel_rfl
 have hcn:checkBuiltinCall "enumerate.__new__" ⟨[.type "enumerate",.ref l],k1 t⟩=pure ():=by kernel_rfl
 have hok:∀obj,argsOk "object.__init__" ⟨[obj,.ref l],k1 t⟩:=fun obj=>by unfold argsOk;kernel_rfl
 have hz:=lst_it s.heap l;have he:IsEnum ((s.heap.push {cls:=.type "list_iterator",data:=.fields #[.ref l,.int 0 0]}).push {cls:=.type "enumerate",data:=.fields #[.none,.bool false,.ref s.heap.objs.size,rawInt 1,.none,.none]}) (s.heap.objs.size+1) s.heap.objs.size 1 .none:=by
  rw [<- hz];exact Heap.get?_push_size _ rfl
 refine wpAny_call (codeAny_of_tree (show wpAny _ _ (callAny (.type "enumerate") _) _ _ _ from wpAny_pure ⟨Code.quiet_builtin _ (by decide +kernel),codeAny_builtin F.entry_type_call ?_⟩));rw [Around.under_plain (weight_type_call_type "enumerate" [.ref l] (k1 t)) (units_type_call_type "enumerate" [.ref l] (k1 t))]
 repeat (any_goals (first|assumption|wp_step))
 refine codeAny_mono (codeAny_call_builtin ft.plain F.entry_enumerate_new (wpAny_of_eq hcn (Aw l items n t dct sl prog w A.in1 (wants (fun v s1=>v=.ref (s.heap.objs.size+1)/\s1={s with heap:=(s.heap.push {cls:=.type "list_iterator",data:=.fields #[.ref l,.int 0 0]}).push {cls:=.type "enumerate",data:=.fields #[.none,.bool false,.ref s.heap.objs.size,rawInt 1,.none,.none]}}) E) s ⟨hl,rfl,rfl⟩))) fun r s₁ hr=>?_
 match r,hr with
 |.error e,hr=>exact hr
 |.ok (.ret obj),hr=>
  obtain ⟨rfl,rfl⟩:=hr;have hli:=ft.init.lookup;have hbi:=ft.init.bind (.ref (s.heap.objs.size+1))
  repeat (any_goals (first|assumption|wp_step))
  refine codeAny_mono (codeAny_call_builtin ft.init.plain F.entry_object_init (ft.init.check _ _ _ _ _ _ _ _ ⟨_,he,rfl⟩ (hok _) (ini_k1 hli hmade prog w A.in1 (wants (fun r s2=>r=.none/\s2=_) E) _ ⟨⟨_,he,rfl⟩,rfl,rfl⟩))) fun r₂ s₂ hr₂=>?_
  match r₂,hr₂ with
  |.error e,hr₂=>exact hr₂
  |.ok (.ret r),hr₂=>
   obtain ⟨rfl,rfl⟩:=hr₂
   repeat (any_goals (first|assumption|wp_step))
   exact h _ he ⟨_,Heap.get?_push_of_some _ (Heap.get?_push_size _ rfl),rfl,rfl⟩ fun b o x=>Heap.get?_push_of_some _ (Heap.get?_push_of_some _ x)
end
theorem draws1 (hh:A.handled=none) (hli:l≠it) (items:Array Value):Draws prog w A it [it,l] (items.size+1) (fun k v=>∃j,k=j+1/\items[j]? =some v) (fun k h=>∃j,k=j+1/\h.IsListIter it l j/\h.IsList l items) where
 live:=fun i h ⟨j,_,⟨o,e,_⟩,_⟩=>⟨o,e⟩
 frame:=fun i h h' ⟨j,e,⟨o,a1,a2⟩,⟨o2,b1,b2⟩⟩ k=>⟨j,e,⟨o,k it (by simp) _ a1,a2⟩,⟨o2,k l (by simp) _ b1,b2⟩⟩
 item:=fun i s Q E hi ⟨j,e,a,b⟩ hQ=>by
  subst e;have hj:j<items.size:=by omega
  refine wpAny_nextOf_list_item a b (x:=items[j]) (by simp [hj]) fun h' a' sb=>hQ _ h' s.toks ⟨j,rfl,by simp [hj]⟩ ⟨j+1,rfl,a',?_⟩ sb;obtain ⟨o2,b1,b2⟩:=b;exact ⟨o2,(sb.2 l hli).trans b1,b2⟩
 done:=fun s Q E ⟨j,e,a,b⟩ hE=>by
  have hj:j=items.size:=by omega
  subst hj;exact wpAny_nextOf_list_end hh a b (by simp) hE
noncomputable def Ite1 (K:Fg) (a:Addr):It:=
 ⟨fun i H=>∃xs x,SqL K H a xs/\xs[i]? =some x,fun i H x H'=>∃T y,H T=none/\x=.ref T/\H'=upd H T (.tup [.int (i+1:Nat),y])/\∀xs,SqL K H a xs->xs[i]? =some y,fun i H=>∃xs,SqL K H a xs/\xs.length=i⟩
theorem yp (a e it:Addr) (hei:e≠it):Turn P w K (.Tuple elts k pos) (Ite1 K a) [e,it] e (fun i h=>(∃old,IsEnum h e it (i+1:Nat) old)/\h.IsListIter it a i):=by
 have apart:∀{i:Nat} {h:Heap} {old:Value} {its:Array Value},IsEnum h e it (i+1:Nat) old->h.IsListIter it a i->h.IsList a its->a≠it/\e∉[it,a]:=fun {i h old its} he hit ⟨ol,h1,hc,_⟩=>by
  obtain ⟨o,h2,hc2,_⟩:=hit;refine ⟨fun z=>?_,fun z=>?_⟩
  ·subst z;rw [h1] at h2;cases h2;rw [hc] at hc2;exact absurd hc2 (by decide)
  ·simp only [List.mem_cons,List.not_mem_nil,or_false] at z;rcases z with z|z
   ·exact hei z
   ·subst z;rw [he] at h1;cases h1;exact absurd (show Value.type "enumerate"=Value.type "list" from hc) (by decide)
 refine ⟨by simp,fun i h ⟨⟨old,he⟩,o,e1,c,d⟩ b hb=>?_,fun i h h' ⟨⟨old,he⟩,hit⟩ kk=>⟨⟨old,kk e (by simp) _ he⟩,hit.at fun o x=>kk it (by simp) o x⟩,?_,?_,fun _ _ _ _ _ ⟨⟨old,he⟩,_⟩ h=>wpAny_pyIter_enum he h⟩
 ·rcases List.mem_cons.mp hb with rfl|hb
  ·exact ⟨_,he,fun v z=>by cases z⟩
  ·obtain rfl:b=it:=by simpa using hb
   exact ⟨o,e1,fun v z=>by rw [d] at z;cases z⟩
 ·intro X hP hw hK hc i pins s σ H E I hf ⟨⟨old,he⟩,hit⟩ ⟨xs,x,hq,hx⟩;subst hP hw hK;obtain ⟨its,rv,p,hz⟩:=I.list hq;obtain ⟨u,hu,ru⟩:=rv.get hx;obtain ⟨n1,n2⟩:=apart he hit p.isList;have hil:i<its.length:=(List.getElem?_eq_some_iff.mp hu).1;refine wpAny_pyNext_enum_itemD (i:=i+1) (draws1 (A:=X.A.in1) (I.ok.hd hc) n1 its.toArray) he ⟨i,rfl,hit,p.isList⟩ (by simp;omega) hei n2 fun v h1 tk ⟨j,ej,hP⟩ ho ⟨j2,ej2,hit1,_⟩ hT hsz hk=>?_;obtain rfl:j=i:=by omega
  obtain rfl:j2=j+1:=by omega
  obtain rfl:v=u:=by rw [List.getElem?_toArray,hu] at hP;exact (Option.some.inj hP).symm
  refine ⟨_,rfl,wpAny_letOwnedTupleGo_enum ho fun h2 he2 hs2=>?_⟩
  have hlt:e<s.heap.objs.size:=Heap.lt_size he;have hTe:s.heap.objs.size≠e:=Nat.ne_of_gt hlt;have I1:Inv X pins σ (upd H s.heap.objs.size (.tup [.int (j+1:Nat),x])) {s with heap:=h2,toks:=tk+1}:=I.zD (ch:=[e,it]) hf (fun b o hb q=>by
    have h3:=hk b o (fun z=>hb (by simp [z])) (fun z=>hb (by simp [z])) q;exact (hs2.2 b (fun z=>hb (by simp [z]))).trans h3) (Nat.le_refl _) ⟨by show 2<=sizeLine;decide,[.int (j+1:Nat) tk,v],.cons ⟨_,rfl⟩ (.cons ru .nil),⟨_,(hs2.2 _ hTe).trans hT,rfl,0,rfl⟩⟩
  refine ⟨.ref s.heap.objs.size,_,I1,rfl,⟨s.heap.objs.size,x,I.hok.fresh (Nat.le_refl _),rfl,rfl,fun ys hy=>by rw [I.mY hy hq];exact hx⟩,⟨⟨v,by simpa using he2⟩,hit1.at fun o y=>(hs2.2 it hei.symm).trans y⟩,fun b hb=>?_⟩
  have:b≠s.heap.objs.size:=by
   rcases List.mem_cons.mp hb with rfl|hb
   ·exact hTe.symm
   ·obtain rfl:b=it:=by simpa using hb
    obtain ⟨o,e1,_⟩:=hit;exact Nat.ne_of_lt (Heap.lt_size e1)
  rw [au this];exact (hf b hb).1
 ·intro X hP hw hK hc i pins s σ H E I hf ⟨⟨old,he⟩,hit⟩ ⟨xs,hq,hx⟩;subst hP hw hK;obtain ⟨its,rv,p,hz⟩:=I.list hq;obtain ⟨n1,n2⟩:=apart he hit p.isList;have hl:=rv.length;refine wpAny_pyNext_enum_endD (draws1 (A:=X.A.in1) (I.ok.hd hc) n1 its.toArray) he ⟨i,by simp;omega,hit,p.isList⟩ fun h2 eb=>⟨rfl,I.zE (t':=s.toks) (ch:=[e,it]) hf fun b o hb q=>eb b o (fun z=>hb (by simp [z])) q⟩
section
variable {W:du} {a:Expr} 
theorem v3 {M:Model} {E:Vp} {kws:List Keyword} {Q:Vp}
  (h:wpAny M A (spliced (backTo pos (starEach [e] env))) (fun vs s₁=>wpAny M A (evalAll ((backToKw pos (keywordEach kws env)).map (·.2))) (fun kvs s₂=>wpAny M A (call (.type T) vs (((backToKw pos (keywordEach kws env)).filterMap (·.1)).zip kvs)) Q E s₂) E s₁) E s)
  (he:starEach [e] env=[(false,eval e env)]) (hall:(backToKw pos (keywordEach kws env)).all (·.1.isSome)=true) (hkw:(backToKw pos (keywordEach kws env)).any (·.1.isNone)=false) :
  wpAny M A (callWith pos (.type T) [] (backTo pos (starEach [e] env)) (backToKw pos (keywordEach kws env))) Q E s:=by
 have hp:(backTo pos (starEach [e] env)).any (·.1)=false:=by rw [he];rfl
 have hb:∃x,backTo pos (starEach [e] env)=[(false,x)]:=by rw [he];exact ⟨_,rfl⟩
 obtain ⟨x,hb⟩:=hb;unfold callWith;refine wpAny_bind (wpAny_holding (wpAny_mono (Q:=fun a s₁=>wpAny M A (call (.type T) ([]++a.pos) a.kw) Q E s₁) ?_ (fun a s₁ h₁=>wpAny_bind (wpAny_standAt ?_)) fun _ _ z=>z))
 ·rw [hb] at h ⊢;exact PyProof.Rows.evalArgs_kwB hall h
 ·rw [hp,hkw];exact wpAny_bind (wpAny_pure (wpAny_bind (wpAny_mono h₁ (fun r s₂ hr=>wpAny_bind (wpAny_holding (wpAny_point (wpAny_pure hr)))) fun _ _ z=>z)))
noncomputable def AX (K:Fg) (tl:TE):TI:=fun σ H R=>tl σ H fun x H1=>∃a,x=.ref a/\(∃xs,SqL K H1 a xs)/\R (Ite1 K a) H1
theorem pi_enum1 {kp cp:Pos} {j} {tl:TE} (hg:Gl X "enumerate") (hm:X.mg "enumerate"=none) (hl:PE X a tl) (hs:starEach [a] X.env=[(false,eval a X.env)]:=by rfl) :
  PI X (.Tuple elts k q) (.Call (.Name "enumerate" p) [a] [⟨some (Str.ofString "start"),.Constant (.int 1) j cp,kp⟩] pos) (AX X.K tl):=by
 intro pins s σ H R I h;have ha:PA X [a] (aX tl fU):=aA hl aY hs;refine wpAny_Call_Name_kw (qI I hg hm boot_enumerate ?_);refine v3 (thn (ha pos pins s σ H (fun vs H1=>match vs with
  |[x]=>∃a,x=.ref a/\(∃xs,SqL X.K H1 a xs)/\R (Ite1 X.K a) H1
  |_=>False) I h) fun us s1 ⟨vs,H1,I1,r1,q1⟩=>?_) hs rfl rfl
 match vs,r1,q1 with
 |[x],r1,⟨l,e1,⟨xs,hq⟩,q⟩=>
  subst e1;obtain ⟨u,rfl,ru⟩:=r1.one;cases ru;refine kws_cons (thn (Ak (X:=X) (i:=1) (j:=j) (pos:=cp) pins s1 σ H1 (fun v H2=>v=.int 1/\H2=H1) I1 ⟨rfl,rfl⟩) fun w s2 ⟨y,H2,I2,r2,e2,e3⟩=>kws_nil ?_);subst e2 e3;obtain ⟨t,rfl⟩:=(show ∃t,w=Value.int 1 t from r2)
  obtain ⟨its,rv,pl,hz⟩:=I2.list hq;refine zi pl.isList fun h2 he hit hk=>?_;have I3:Inv X pins σ H2 {s2 with heap:=h2}:=I2.kept (t':=s2.toks) hk;refine wpAny_pyIter_enum he ⟨s2.heap.objs.size+1,[s2.heap.objs.size+1,s2.heap.objs.size],_,_,H2,rfl,I3,yp l _ _ (Nat.succ_ne_self _),⟨⟨_,he⟩,hit⟩,fun b hb=>?_,q⟩;have hb2:s2.heap.objs.size<=b:=by
   rcases List.mem_cons.mp hb with rfl|hb
   ·exact Nat.le_succ _
   ·obtain rfl:b=s2.heap.objs.size:=by simpa using hb
    exact Nat.le_refl _
  exact I2.fpOk hb2 (I2.hok.fresh hb2)
end
structure Cells (K:Fg) (F H:Hp) (xs:List Addr) (ds:List Dat):Prop where
 fh:aN F H
 nd:xs.Nodup
 len:xs.length=ds.length
 own:∀(j:Nat) (x:Addr) (d:Dat),xs[j]? =some x->ds[j]? =some d->isO d=true/\k7 K F (fun _=>none) H d (.ref x)
structure wX (xs:List Addr) (F H F' H':Hp):Prop where
 ff:aN F F'
 hh:∀b o,b∉xs->H b=some o->H' b=some o
 fh:aN F' H'
 nw:∀b o,F' b=some o->F b=some o\/H b=none
section
variable {xs:List Addr} 
theorem Step.toC (s:Step F H F' H'):wX xs F H F' H':=⟨s.ff,fun b o _ h=>s.hh b o h,s.fh,s.nw⟩
theorem wX.trans {F2 H2:Hp} (a:wX xs F H F' H') (b:wX xs F' H' F2 H2) (hx:∀x∈xs,∃o,H' x=some o):wX xs F H F2 H2:=
 ⟨a.ff.trans b.ff,fun c o n h=>b.hh c o n (a.hh c o n h),b.fh,fun c o h=>(b.nw c o h).elim (fun z=>a.nw c o z) fun z=>.inr (by
  cases e:H c with
  |none=>rfl
  |some u=>
   by_cases hc:c∈xs
   ·obtain ⟨o',ho⟩:=hx c hc;rw [ho] at z;cases z
   ·rw [a.hh c u hc e] at z;cases z)⟩
theorem Cells.at (c:Cells K F H xs ds) {x:Addr} (hx:x∈xs):F x=none/\∃o,H x=some o/\isMu o=true:=by
 obtain ⟨j,hj,rfl⟩:=List.getElem_of_mem hx;have hd:j<ds.length:=by rw [<- c.len];exact hj
 obtain ⟨h1,h2⟩:=c.own j xs[j] ds[j] (List.getElem?_eq_getElem hj) (List.getElem?_eq_getElem hd);obtain ⟨a,o,e,p,m,f,_⟩:=h2.top h1;cases e;exact ⟨f,o,p,m⟩
theorem Cells.step (c:Cells K F H xs ds) (s:Step F H F' H'):Cells K F' H' xs ds:=⟨s.fh,c.nd,c.len,fun j x d e1 e2=>by
 obtain ⟨h1,h2⟩:=c.own j x d e1 e2;obtain ⟨a,o,e,p,_,f,_⟩:=h2.top h1;cases e;exact ⟨h1,h2.re h1 s.ff (s.stays f p) fun o h=>s.hh _ _ h⟩⟩
theorem Cells.ff (c:Cells K F H xs ds):aN F (plus F H (·∈xs)):=fun b o h=>by
 by_cases hb:b∈xs
 ·rw [(c.at hb).1] at h;cases h
 ·rw [c6 hb];exact h
theorem Cells.zh (c:Cells K F H xs ds):aN (plus F H (·∈xs)) H:=fun b o h=>by
 by_cases hb:b∈xs
 ·rw [ee hb] at h;exact h
 ·rw [c6 hb] at h;exact c.fh b o h
theorem Cells.deep (c:Cells K F H xs ds) {x:Addr} (e1:xs[j]? =some x) (e2:ds[j]? =some d):aQ K (plus F H (·∈xs)) d (.ref x):=by
 obtain ⟨h1,h2⟩:=c.own j x d e1 e2;exact h2.give h1 c.ff (ee (List.mem_of_getElem? e1))
theorem Cells.back (c:Cells K F H xs ds) (s:Step (plus F H (·∈xs)) H F' H'):Step F H (minus F' (·∈xs)) H':=by
 refine ⟨fun b o h=>?_,s.hh,fun b o h=>?_,fun b o h=>?_⟩
 ·by_cases hb:b∈xs
  ·rw [(c.at hb).1] at h;cases h
  ·rw [dG hb];exact s.ff b o (by rw [c6 hb];exact h)
 ·by_cases hb:b∈xs
  ·rw [ko hb] at h;cases h
  ·rw [dG hb] at h;exact s.fh b o h
 ·by_cases hb:b∈xs
  ·rw [ko hb] at h;cases h
  ·rw [dG hb] at h;exact (s.nw b o h).elim (fun z=>by rw [c6 hb] at z;exact .inl z) .inr
theorem Cells.flat (c:Cells K F H xs ds) (s:Step (plus F H (·∈xs)) H F' H') {d:Dat} {v:V} (f:jv d=true) (q:aQ K F' d v):aQ K (minus F' (·∈xs)) d v:=by
 have key:∀{b:Addr} {o:HO},F' b=some o->isMu o=false->minus F' (·∈xs) b=some o:=fun {b o} h n=>by
  by_cases hb:b∈xs
  ·obtain ⟨_,u,e,m⟩:=c.at hb;have:=s.ff b u (by rw [ee hb];exact e);rw [h] at this;cases this;rw [n] at m;cases m
  ·rw [dG hb];exact h
 refine q.flat (fun a ys h=>?_) f;rcases h with (h|⟨o,h⟩)|h
 ·exact .inl (.inl (key h rfl))
 ·exact .inl (.inr ⟨o,key h rfl⟩)
 ·exact .inr h
theorem Cells.put (c:Cells K F H xs ds) {x:Addr} {u:HO} (e:xs[j]? =some x) (hd:isO d'=true) (q:F x=none->k7 K F (fun _=>none) (upd H x u) d' (.ref x)):Cells K F (upd H x u) xs (ds.set j d') where
 fh:=fun b o h=>by
  have:b≠x:=fun z=>by rw [z,(c.at (List.mem_of_getElem? e)).1] at h;cases h
  rw [au this];exact c.fh b o h
 nd:=c.nd
 len:=by rw [List.length_set,c.len]
 own:=fun i y d e1 e2=>by
  by_cases hij:j=i
  ·subst hij;rw [e] at e1;cases e1;have hj:j<ds.length:=by have:=(List.getElem?_eq_some_iff.mp e2).1;simpa using this
   rw [List.getElem?_set_self hj] at e2;cases e2;exact ⟨hd,q (c.at (List.mem_of_getElem? e)).1⟩
  ·rw [List.getElem?_set_ne hij] at e2;obtain ⟨h1,h2⟩:=c.own i y d e1 e2;have hyx:y≠x:=fun z=>hij ((List.getElem?_inj (List.getElem?_eq_some_iff.mp e).1 c.nd).mp (by rw [e,e1,z]));obtain ⟨a,o,ea,p,_,f,_⟩:=h2.top h1;cases ea;exact ⟨h1,h2.re h1 (aN.refl _) f fun o h=>by rw [au hyx];exact h⟩
theorem Cells.lst (c:Cells K F H xs ds) {j:Nat} {x:Addr} {es:List Dat} (e1:xs[j]? =some x) (e2:ds[j]? =some (.lst es)):∃ys,H x=some (.lst ys)/\az K F es ys:=by
 obtain ⟨a,ys,ea,p,_,_,q⟩:=(c.own j x _ e1 e2).2;cases ea;exact ⟨ys,p,q⟩
theorem Cells.dic (c:Cells K F H xs ds) {j:Nat} {x:Addr} {ks:List (List Int×Dat)} (e1:xs[j]? =some x) (e2:ds[j]? =some (.dic ks)):∃rs ep,H x=some (vd x rs ep)/\cB K F ks rs:=by
 obtain ⟨a,rs,ea,⟨ep,p⟩,_,_,q⟩:=(c.own j x _ e1 e2).2;cases ea;exact ⟨rs,ep,p,q⟩
theorem Cells.app (c:Cells K F H xs ds) {x:Addr} {es:List Dat} (e1:xs[j]? =some x) (p:H x=some (.lst ys)) (q:az K F es ys) (qd:aQ K F d v):Cells K F (upd H x (.lst (ys++[v]))) xs (ds.set j (.lst (es++[d]))):=
 c.put e1 rfl fun f=>⟨x,_,rfl,ay,f,rfl,q.append ⟨v,[],rfl,qd,rfl⟩⟩
theorem Cells.updC (c:Cells K F H xs ds) {x:Addr} (u:HO) (hx:x∈xs):wX xs F H F (upd H x u):=
 ⟨aN.refl _,fun b o n h=>by rw [au (fun z=>n (by rw [z];exact hx))];exact h,fun b o h=>by
  have:b≠x:=fun z=>by rw [z,(c.at hx).1] at h;cases h
  rw [au this];exact c.fh b o h,fun _ _ h=>.inl h⟩
end
noncomputable def dM (xs:List Addr):List (Str×V):=(["kinds","gaps","beside","names","flights","closed"]:List Str).zip (xs.map V.ref)
structure Dr (K:Fg) (C:Addr) (F H:Hp) (p dx:Addr) (xs:List Addr) (ds:List Dat):Prop where
 c:Cells K F H xs ds
 ob:H p=some (.ins C dx (dM xs))
 fp:F p=none
 np:p∉xs
section
variable {p:Addr} {xs:List Addr} 
theorem Dr.step (d:Dr K C F H p dx xs ds) (s:Step F H F' H'):Dr K C F' H' p dx xs ds:=⟨d.c.step s,s.hh _ _ d.ob,s.stays d.fp d.ob,d.np⟩
theorem Dr.put (d:Dr K C F H p dx xs ds) {x:Addr} {u:HO} (hx:x∈xs) (c:Cells K F (upd H x u) xs ds'):Dr K C F (upd H x u) p dx xs ds':=
 ⟨c,by rw [au (fun z=>d.np (by rw [z];exact hx))];exact d.ob,d.fp,d.np⟩
end
noncomputable def ka:Sp:=fun vs H Q _=>∃a v,vs=[.ref a,v]/\(v=.non->Q (.bl false) H)/\(v≠.non->∃ys,H a=some (.lst ys)/\ys.length<sizeLine/\Q (.bl true) (upd H a (.lst (ys++[v]))))
theorem rs_told (h:ka vs H Q E) :
  fT (rB (tB (tIsN (bS 1))) (tm (tC (.bl false))) iH) (fT (jo (tBM K "list" jL (bS 0) (aX (bS 1) fU))) (tm (tC (.bl true)))) {nx:=fun _ H'=>Q .non H',rt:=Q} (start ["kept","told"] vs) H:=by
 obtain ⟨a,v,rfl,h1,h2⟩:=h;refine ⟨v,rfl,_,rfl,?_⟩
 by_cases hv:v=.non
 ·rw [decide_eq_true hv];exact h1 hv
 ·obtain ⟨ys,ha,hl,h2⟩:=h2 hv;rw [decide_eq_false hv];exact ⟨.ref a,rfl,eE ha,v,rfl,a,ys,v,rfl,rfl,ha,hl,h2⟩
noncomputable def vm (K:Fg) (mg:List Dat->M Dat):Sp:=fun vs H Q _=>∃(k g:Addr) (vw:V) (F:Hp) (xs:List Addr) (ds:List Dat) (jk jg:Nat) (dk dw:Dat) (ks:List (List Int×Dat)),vs=[.ref k,.ref g,vw]/\Cells K F H xs ds/\xs[jk]? =some k/\ds[jk]? =some dk/\xs[jg]? =some g/\ds[jg]? =some (.dic ks)/\aQ K F dw vw /\
 ((mg [dk,dw]=.ok .non/\∀F' H',Step F H F' H'->Q (.bl false) H')\/∃i j v:Int,mg [dk,dw]=.ok (.tup [.int i,.int j,.int v])/\ks.length<sizeLine/\∀F' H' u,Step F H F' H'->Cells K F' (upd H' g u) xs (ds.set jg (.dic (jq ks [i,j] (.int v))))->Q (.bl true) (upd H' g u))
noncomputable abbrev fk3:ai->M Dat:=fL iQ (aa (f2 ixD (ah 3) (fC (.int 0))) (aa (f2 ixD (ah 3) (fC (.int 1))) aB))
noncomputable abbrev fv3:ai->M Dat:=f2 ixD (ah 3) (fC (.int 2))
theorem dP.only (e:σ[i]? =some (some v)) (q:aQ K F d v):dP K F σ ((List.replicate σ.length none).set i (some d)):=
 ⟨by rw [List.length_set,List.length_replicate],fun j d' h=>by
  by_cases hij:i=j
  ·subst hij;rw [List.getElem?_set_self (by rw [List.length_replicate];exact (List.getElem?_eq_some_iff.mp e).1)] at h;cases h;exact ⟨v,e,q⟩
  ·rw [List.getElem?_set_ne hij,List.getElem?_replicate] at h;split at h<;>cases h⟩
theorem rs_gap (h:vm K mg vs H Q E) :
  fT (xg (gr (spF K false mg 2) [] E' (aX (bS 0) (aX (bS 2) fU))) (gN 3)) (fT (rB (tB (tIsN (bS 3))) (tm (tC (.bl false))) iH) (fT (sPut K (bS 1) (tD K Wno false fk3) (tD K Wno false fv3)) (tm (tC (.bl true))))) {nx:=fun _ H'=>Q .non H',rt:=Q} (start ["kinds","gaps","words","told"] vs) H:=by
 obtain ⟨k,g,vw,F,xs,ds,jk,jg,dk,dw,ks,rfl,c,ek,hk,eg,hd,qw,h⟩:=h;refine ⟨.ref k,rfl,vw,rfl,plus F H (·∈xs),[dk,dw],c.zh,⟨_,_,rfl,c.deep ek hk,vw,_,rfl,qw.mono c.ff,rfl⟩,rfl,?_⟩
 rcases h with ⟨e,h⟩|⟨i,j,v,e,hl,h⟩
 ·rw [e];intro w F1 H1 s1 q1;cases (show w=V.non from q1);exact ⟨.non,rfl,_,rfl,h _ H1 (c.back s1)⟩
 ·rw [e];intro w F1 H1 s0 q1;have s1:=c.back s0;have qt:aQ K (minus F1 (·∈xs)) (.tup [.int i,.int j,.int v]) w:=c.flat s0 rfl q1;obtain ⟨b,ys,rfl,_⟩:=id qt;refine ⟨.ref b,rfl,_,rfl,?_⟩
  have r1:dP K (minus F1 (·∈xs)) ([some (.ref k),some (.ref g),some vw,some (.ref b)]:St) [none,none,none,some (.tup [.int i,.int j,.int v])]:=dP.only (i:=3) rfl qt;refine ⟨_,_,r1,s1.fh,?_⟩
  show aC K Wno false _ H1 (.ok (.int v)) _;intro w2 F2 H2 s2 q2;cases (show w2=V.int v from q2);refine ⟨.ref g,rfl,F2,_,r1.mono s2.ff,s2.fh,?_⟩
  have et:fk3 [none,none,none,some (.tup [.int i,.int j,.int v])]=.ok (.tup [.int i,.int j]):=by
   show iQ [.int i,.int j]=_;unfold iQ;rw [if_pos (by rw [sizeLine_eq];show 2<=16777216;decide)]
  rw [et];intro w3 F3 H3 s3 q3;obtain ⟨b3,ys3,rfl,t3,_,_,rfl,e4,_,_,rfl,e5,e6⟩:=(show aQ K F3 (.tup [.int i,.int j]) w3 from q3)
  cases e4;cases e5;cases e6;have st:=(s1.trans s2).trans s3;have c3:=c.step st;obtain ⟨rs,ep,hg,qr⟩:=c3.dic eg hd;exact ⟨g,b3,[i,j],rs,ep,rfl,rfl,hg,qr.key.mono st.fh,st.fh.tup t3,by rw [qr.length];exact hl,fun ep'=>h F3 H3 _ st (c3.put eg rfl fun f=>⟨g,_,rfl,⟨ep',ay⟩,f,rfl,qr.put (k:=[i,j]) t3 rfl⟩)⟩
noncomputable def tTr (K:Fg) (ta:TE):TT:=fun σ H Q=>ta σ H fun x H'=>∃k,TruV K x H' k/\Q k H'
noncomputable def vg (j:Nat) (ds:List Dat) (t:Dat):M (Bool×List Dat):=match t with
 |.non=>.ok (false,ds)
 |t=>match ds[j]? with
  |some (.lst es)=>if (jv t&&decide (es.length<sizeLine))=true then .ok (true,ds.set j (.lst (es++[t]))) else stk
  |_=>stk
noncomputable def putC (j:Nat) (ds:List Dat) (t:Dat):M (Bool×List Dat):=match t with
 |.non=>.ok (false,ds)
 |.tup [.int a,.int b,.int v]=>match ds[j]? with
  |some (.dic ks)=>if ks.length<sizeLine then .ok (true,ds.set j (.dic (jq ks [a,b] (.int v)))) else stk
  |_=>stk
 |_=>stk
noncomputable def qx (mf:List Dat->M Dat) (ds ws:List Dat):M (Bool×List Dat):=match ds with
 |[.lst dk,.dic dg,.dic db,.lst dn,.lst df,.lst dc]=>(mf [.lst dk,.lst dn,.lst ws]).bind fun t=>(vg 4 ds t).bind fun r=>if r.1=true then (ixD (.lst ws) (.int 1)).bind fun nm=>match nm with
  |.non=>stk
  |nm=>vg 3 r.2 nm
  else .ok r
 |_=>stk
noncomputable def lq (t1 t2 t3 t4 t5:ai->M Bool) (t6:ai->M Dat) (mk mg ms mf:List Dat->M Dat) (ds ws:List Dat):M (Bool×List Dat):=match ds with
 |[.lst dk,.dic dg,.dic db,.lst dn,.lst df,.lst dc]=>
  (t1 [none,some (.lst ws)]).bind fun b=>if b=true then .ok (true,ds) else
  (t2 [none,some (.lst ws)]).bind fun b=>if b=true then (mk [.lst dk,.lst ws]).bind (vg 0 ds) else
  (t3 [none,some (.lst ws)]).bind fun b=>if b=true then (mg [.lst dk,.lst ws]).bind (putC 1 ds) else
  (t4 [none,some (.lst ws)]).bind fun b=>if b=true then (mg [.lst dk,.lst ws]).bind (putC 2 ds) else
  (t5 [none,some (.lst ws)]).bind fun b=>if b=true then (ms [.lst dc,.lst ws]).bind (vg 5 ds) else
  (t6 [none,some (.lst ws)]).bind fun d=>match d with
   |.bl true=>qx mf ds ws
   |.bl false=>.ok (false,ds)
   |_=>stk
 |_=>stk
theorem bind_eq {x:M α} {f:α->M β} {r:β} (h:x.bind f=.ok r):∃a,x=.ok a/\f a=.ok r:=by
 cases x with
 |error e=>cases h
 |ok a=>exact ⟨a,rfl,h⟩
theorem aQ.nn (q:aQ K F t v):v=.non↔t=.non:=by
 cases t with
 |non=>exact ⟨fun _=>rfl,fun _=>q⟩
 |bl b=>cases (show v=.bl b from q);exact ⟨fun h=>(nomatch h),fun h=>(nomatch h)⟩
 |int b=>cases (show v=.int b from q);exact ⟨fun h=>(nomatch h),fun h=>(nomatch h)⟩
 |str b=>cases (show v=.str b from q);exact ⟨fun h=>(nomatch h),fun h=>(nomatch h)⟩
 |tup _=>obtain ⟨a,_,rfl,_⟩:=q;exact ⟨fun h=>(nomatch h),fun h=>(nomatch h)⟩
 |lst _=>obtain ⟨a,_,rfl,_⟩:=q;exact ⟨fun h=>(nomatch h),fun h=>(nomatch h)⟩
 |ins _ _=>obtain ⟨a,_,_,rfl,_⟩:=q;exact ⟨fun h=>(nomatch h),fun h=>(nomatch h)⟩
 |dic _=>obtain ⟨a,_,rfl,_⟩:=q;exact ⟨fun h=>(nomatch h),fun h=>(nomatch h)⟩
 |dil _=>obtain ⟨a,_,rfl,_⟩:=q;exact ⟨fun h=>(nomatch h),fun h=>(nomatch h)⟩
theorem la (n:t≠.non) (h:vg j ds t=.ok r):∃es,ds[j]? =some (.lst es)/\jv t=true/\es.length<sizeLine/\r=(true,ds.set j (.lst (es++[t]))):=by
 have h:(match ds[j]? with
  |some (.lst es)=>if (jv t&&decide (es.length<sizeLine))=true then .ok (true,ds.set j (.lst (es++[t]))) else stk
  |_=>stk:M (Bool×List Dat))=.ok r:=by
  cases t<;>first|exact absurd rfl n|exact h
 split at h
 ·rename_i es he;split at h
  ·rename_i hc;rw [Bool.and_eq_true,decide_eq_true_eq] at hc;cases h;exact ⟨es,he,hc.1,hc.2,rfl⟩
  ·cases h
 ·cases h
theorem dF0 {k g n:Addr}:(dM [k,g,b,n,f,c]).lookup ("kinds":Str)=some (V.ref k):=by with_unfolding_all rfl
theorem dF1 {k g n:Addr}:(dM [k,g,b,n,f,c]).lookup ("gaps":Str)=some (V.ref g):=by with_unfolding_all rfl
theorem dF2 {k g n:Addr}:(dM [k,g,b,n,f,c]).lookup ("beside":Str)=some (V.ref b):=by with_unfolding_all rfl
theorem dF3 {k g n:Addr}:(dM [k,g,b,n,f,c]).lookup ("names":Str)=some (V.ref n):=by with_unfolding_all rfl
theorem dF4 {k g n:Addr}:(dM [k,g,b,n,f,c]).lookup ("flights":Str)=some (V.ref f):=by with_unfolding_all rfl
theorem dF5 {k g n:Addr}:(dM [k,g,b,n,f,c]).lookup ("closed":Str)=some (V.ref c):=by with_unfolding_all rfl
section
variable {p:Addr} {xs:List Addr} 
noncomputable def BJ (K:Fg) (C:Addr) (F H:Hp) (p dx:Addr) (xs:List Addr) (r:Bool×List Dat) (Q:VK):Prop:=∀F' H',wX xs F H F' H'->Dr K C F' H' p dx xs r.2->Q (.bl r.1) H'
theorem Dr.ex (d:Dr K C F H p dx xs ds):∀x∈xs,∃o,H x=some o:=fun _ hx=>let ⟨_,o,h,_⟩:=d.c.at hx;⟨o,h⟩
theorem BJ.step {r:Bool×List Dat} (f:BJ K C F H p dx xs r Q) (d:Dr K C F H p dx xs ds) (s:Step F H F' H'):BJ K C F' H' p dx xs r Q:=fun F2 H2 s2 d2=>f F2 H2 (s.toC.trans s2 (d.step s).ex) d2
theorem Dr.tell (d:Dr K C F H p dx xs ds) {x:Addr} (E:XK) (ex:xs[j]? =some x) (q:aQ K F t v) (e:vg j ds t=.ok r) (fin:BJ K C F H p dx xs r Q):ka [.ref x,v] H Q E:=by
 refine ⟨x,v,rfl,fun hv=>?_,fun hv=>?_⟩
 ·cases q.nn.mp hv;cases e;exact fin F H ⟨aN.refl _,fun _ _ _ h=>h,d.c.fh,fun _ _ h=>.inl h⟩ d
 ·obtain ⟨es,he,f,hl,rfl⟩:=la (fun z=>hv (q.nn.mpr z)) e;obtain ⟨ys,hx,qs⟩:=d.c.lst ex he;have hm:=List.mem_of_getElem? ex;exact ⟨ys,hx,by rw [qs.length];exact hl,fin F _ (d.c.updC _ hm) (d.put hm (d.c.app ex hx qs q))⟩
variable {ws:List Dat} 
theorem Dr.len6 {dk dn df dc:List Dat} {dg db:List (List Int×Dat)} (d:Dr K C F H p dx xs [.lst dk,.dic dg,.dic db,.lst dn,.lst df,.lst dc]):∃k g b n f c,xs=[k,g,b,n,f,c]:=by
 have:=d.c.len
 match xs,this with
 |[k,g,b,n,f,c],_=>exact ⟨k,g,b,n,f,c,rfl⟩
theorem xo {fx fy:Str} {jy:Nat} {x y:Addr} {dy:Dat} (d:Dr K C F H p dx xs ds) (cl:Cls K C) (nx:aV K C fx) (ny:aV K C fy) (h0:σ[0]? =some (some (.ref p))) (h1:σ[1]? =some (some vw)) (qw:aQ K F (.lst ws) vw)
  (lx:(dM xs).lookup fx=some (.ref x)) (ly:(dM xs).lookup fy=some (.ref y)) (ex:xs[j]? =some x) (ey:xs[jy]? =some y) (hy:ds[jy]? =some dy) (e:(mk [dy,.lst ws]).bind (vg j ds)=.ok r) (fin:BJ K C F H p dx xs r Q) :
  gr ka [] E1 (aX (mM K (bS 0) fx) (aX (gr (spF K false mk 2) [] E2 (aX (mM K (bS 0) fy) (aX (bS 1) fU))) fU)) σ H Q:=by
 obtain ⟨t,et,e⟩:=bind_eq e;refine ⟨.ref p,h0,p,C,dx,_,_,rfl,d.ob,cl,nx,lx,?_⟩
 refine ⟨.ref p,h0,p,C,dx,_,_,rfl,d.ob,cl,ny,ly,?_⟩
 refine ⟨vw,h1,plus F H (·∈xs),[dy,.lst ws],d.c.zh,⟨_,_,rfl,d.c.deep ey hy,_,_,rfl,qw.mono d.c.ff,rfl⟩,rfl,?_⟩
 rw [et];intro v F1 H1 s1 q1;have S:=d.c.back s1;have q2:aQ K (minus F1 (·∈xs)) t v:=d.c.flat s1 (by
  by_cases hn:t=.non
  ·rw [hn];rfl
  ·exact (la hn e).choose_spec.2.1) q1
 exact (d.step S).tell E1 ex q2 e (fin.step d S)
theorem rs_putD2 {fx:Str} {x k:Addr} {dk:Dat} (d:Dr K C F H p dx xs ds) (cl:Cls K C) (nx:aV K C fx) (nk:aV K C "kinds") (h0:σ[0]? =some (some (.ref p))) (h1:σ[1]? =some (some vw)) (qw:aQ K F (.lst ws) vw)
  (lk:(dM xs).lookup ("kinds":Str)=some (V.ref k)) (lx:(dM xs).lookup fx=some (.ref x)) (ek:xs[0]? =some k) (hk:ds[0]? =some dk) (ex:xs[j]? =some x) (hd:ds[j]? =some (.dic ks)) (e:(mg [dk,.lst ws]).bind (putC j ds)=.ok r) (fin:BJ K C F H p dx xs r Q) :
  gr (vm K mg) [] E1 (aX (mM K (bS 0) "kinds") (aX (mM K (bS 0) fx) (aX (bS 1) fU))) σ H Q:=by
 obtain ⟨t,et,e⟩:=bind_eq e;refine ⟨.ref p,h0,p,C,dx,_,_,rfl,d.ob,cl,nk,lk,?_⟩
 refine ⟨.ref p,h0,p,C,dx,_,_,rfl,d.ob,cl,nx,lx,?_⟩
 refine ⟨vw,h1,k,x,vw,F,xs,ds,0,j,dk,.lst ws,ks,rfl,d.c,ek,hk,ex,hd,qw,?_⟩
 have hm:=List.mem_of_getElem? ex;cases t with
 |non=>
  cases e;exact .inl ⟨et,fun F1 H1 s=>fin _ H1 s.toC (d.step s)⟩
 |tup l=>
  unfold putC at e;split at e
  ·rename_i hh;cases hh
  ·rename_i a b v hh;cases hh;rw [hd] at e;dsimp only at e;split at e
   rotate_left
   ·cases e
   rename_i hs;cases e;exact .inr ⟨a,b,v,et,hs,fun F1 H1 u S c'=>fin _ _ (S.toC.trans ((d.step S).c.updC u hm) (d.step S).ex) ((d.step S).put hm c')⟩
  ·cases e
 |_=>cases e
noncomputable def rG (K:Fg) (C:Addr) (mr:List Dat->List Dat->M (Bool×List Dat)):Sp:=fun vs H Q _=>∃(p dx:Addr) (xs:List Addr) (F:Hp) (ds ws:List Dat) (vw:V) (r:Bool×List Dat),vs=[.ref p,vw]/\Dr K C F H p dx xs ds/\aQ K F (.lst ws) vw/\mr ds ws=.ok r/\BJ K C F H p dx xs r Q
theorem A3 (cl:Cls K C) (na:∀y∈(["kinds","gaps","beside","names","flights","closed"]:List Str),aV K C y) (h:rG K C (qx mf) vs H Q E) :
  fT (rB (tNot (tTr K (gr ka [] E1 (aX (mM K (bS 0) "flights") (aX (gr (spF K false mf 3) [] E2 (aX (mM K (bS 0) "kinds") (aX (mM K (bS 0) "names") (aX (bS 1) fU)))) fU))))) (tm (tC (.bl false))) iH)
   (fT (jo (tBM K "list" jL (mM K (bS 0) "names") (aX (tD K Wno false (f2 ixD (ah 1) (fC (.int 1)))) fU))) (tm (tC (.bl true)))) {nx:=fun _ H'=>Q .non H',rt:=Q} (start ["draft","words"] vs) H:=by
 obtain ⟨p,dx,xs,F,ds,ws,vw,r,rfl,d,qw,e,fin⟩:=h;unfold qx at e;split at e
 rotate_left
 ·cases e
 rename_i dk dg db dn df dc;obtain ⟨k,g,b,n,f,c,rfl⟩:=d.len6;obtain ⟨t,et,e⟩:=bind_eq e;obtain ⟨r1,e1,e⟩:=bind_eq e;refine ⟨.ref p,rfl,p,C,dx,_,_,rfl,d.ob,cl,(na _ (by simp)),dF4,?_⟩
 refine ⟨.ref p,rfl,p,C,dx,_,_,rfl,d.ob,cl,(na _ (by simp)),dF0,?_⟩
 refine ⟨.ref p,rfl,p,C,dx,_,_,rfl,d.ob,cl,(na _ (by simp)),dF3,?_⟩
 refine ⟨vw,rfl,plus F H (·∈[k,g,b,n,f,c]),[.lst dk,.lst dn,.lst ws],d.c.zh,⟨_,_,rfl,d.c.deep (j:=0) rfl rfl,_,_,rfl,d.c.deep (j:=3) rfl rfl,_,_,rfl,qw.mono d.c.ff,rfl⟩,rfl,?_⟩
 rw [et];intro v F1 H1 s1 q1;have S:=d.c.back s1;have q2:aQ K (minus F1 (·∈[k,g,b,n,f,c])) t v:=d.c.flat s1 (by
  by_cases hn:t=.non
  ·rw [hn];rfl
  ·exact (la hn e1).choose_spec.2.1) q1
 have d1:=d.step S;unfold fU;dsimp only [];show ka [V.ref f,v] H1 _ E1;refine d1.tell E1 (j:=4) rfl q2 e1 (fun F2 H2 S2 d2=>?_);refine ⟨r1.1,rfl,?_⟩
 cases hr:r1.1 with
 |false=>
  rw [hr,if_neg (by decide)] at e;cases e;have:=fin F2 H2 (S.toC.trans S2 d1.ex) d2;rw [hr] at this;exact this
 |true=>
  rw [hr,if_pos rfl] at e;obtain ⟨nm,en,e⟩:=bind_eq e;have hnm:nm≠.non:=fun z=>by rw [z] at e;cases e
  have e:vg 3 r1.2 nm=.ok r:=by cases nm<;>first|exact absurd rfl hnm|exact e
  obtain ⟨es3,he3,fl3,hl3,rfl⟩:=la hnm e;obtain ⟨ys,hn,qs⟩:=d2.c.lst (j:=3) (x:=n) rfl he3;refine ⟨.ref p,rfl,p,C,dx,_,_,rfl,d2.ob,cl,(na _ (by simp)),dF3,?_⟩
  have qw2:=(qw.mono S.ff).mono S2.ff;refine ⟨eE hn,F2,[none,some (.lst ws)],dP.only (σ:=[some (.ref p),some vw]) (i:=1) rfl qw2,d2.c.fh,?_⟩
  rw [show f2 ixD (ah 1) (fC (.int 1)) [none,some (.lst ws)]=.ok nm from en];intro w F3 H3 s3 q3;have d3:=d2.step s3;have hm:n∈[k,g,b,n,f,c]:=by simp
  refine ⟨n,ys,w,rfl,rfl,s3.hh _ _ hn,by rw [qs.length];exact hl3,?_⟩
  exact fin F3 _ (((S.toC.trans S2 d1.ex).trans s3.toC d2.ex).trans (d3.c.updC _ hm) d3.ex) (d3.put hm (d3.c.app (j:=3) rfl (s3.hh _ _ hn) (qs.mono s3.ff) q3))
end
section
variable {p:Addr} {xs:List Addr} {ms:List Dat->M Dat} {ws:List Dat} {E4 E5 E6 E7:XK} 
theorem Dr.ask (d:Dr K C F H p dx xs ds) (qw:aQ K F (.lst ws) vw) {t:ai->M Bool} {f:Bool->M (Bool×List Dat)} (e:(t [none,some (.lst ws)]).bind f=.ok r) (fin:BJ K C F H p dx xs r Q) {T U:TS} {D:Ends}
  (yes:∀F1 H1,Dr K C F1 H1 p dx xs ds->aQ K F1 (.lst ws) vw->BJ K C F1 H1 p dx xs r Q->f true=.ok r->T D [some (.ref p),some vw] H1)
  (no:∀F1 H1,Dr K C F1 H1 p dx xs ds->aQ K F1 (.lst ws) vw->BJ K C F1 H1 p dx xs r Q->f false=.ok r->U D [some (.ref p),some vw] H1):rB (tDT K Wno t) T U D [some (.ref p),some vw] H:=by
 obtain ⟨b,eb,e⟩:=bind_eq e;refine fV (dP.only (σ:=[some (.ref p),some vw]) (i:=1) rfl qw) d.c.fh (fun e' h=>?_) fun b' hb F1 H1 s1=>?_
 ·have h:t [none,some (.lst ws)]=.error e':=h;rw [eb] at h;cases h
 ·have hb:t [none,some (.lst ws)]=.ok b':=hb;rw [eb] at hb;cases hb;cases b with
  |true=>exact yes F1 H1 (d.step s1) (qw.mono s1.ff) (fin.step d s1) e
  |false=>exact no F1 H1 (d.step s1) (qw.mono s1.ff) (fin.step d s1) e
theorem rs_row {t3 t4 t5:ai->M Bool} {t6:ai->M Dat} (cl:Cls K C) (na:∀y∈(["kinds","gaps","beside","names","flights","closed"]:List Str),aV K C y) (h:rG K C (lq t1 t2 t3 t4 t5 t6 mk mg ms mf) vs H Q E) :
  fT (rB (tDT K Wno t1) (tm (tC (.bl true))) iH)
  (fT (rB (tDT K Wno t2) (tm (gr ka [] E1 (aX (mM K (bS 0) "kinds") (aX (gr (spF K false mk 2) [] E2 (aX (mM K (bS 0) "kinds") (aX (bS 1) fU))) fU)))) iH)
  (fT (rB (tDT K Wno t3) (tm (gr (vm K mg) [] E3 (aX (mM K (bS 0) "kinds") (aX (mM K (bS 0) "gaps") (aX (bS 1) fU))))) iH)
  (fT (rB (tDT K Wno t4) (tm (gr (vm K mg) [] E4 (aX (mM K (bS 0) "kinds") (aX (mM K (bS 0) "beside") (aX (bS 1) fU))))) iH)
  (fT (rB (tDT K Wno t5) (tm (gr ka [] E5 (aX (mM K (bS 0) "closed") (aX (gr (spF K false ms 2) [] E6 (aX (mM K (bS 0) "closed") (aX (bS 1) fU))) fU)))) iH)
   (tm (tAndV (tD K Wno false t6) (gr (rG K C (qx mf)) [] E7 (aX (bS 0) (aX (bS 1) fU))))))))) {nx:=fun _ H'=>Q .non H',rt:=Q} (start ["draft","words"] vs) H:=by
 obtain ⟨p,dx,xs,F,ds,ws,vw,r,rfl,d,qw,e,fin⟩:=h;unfold lq at e;split at e
 rotate_left
 ·cases e
 rename_i dk dg db dn df dc;obtain ⟨k,g,b,n,f,c,rfl⟩:=d.len6;refine d.ask qw e fin (fun F1 H1 d q fin e=>?_) (fun F1 H1 d q fin e=>?_)
 ·cases e;exact fin F1 H1 ⟨aN.refl _,fun _ _ _ h=>h,d.c.fh,fun _ _ h=>.inl h⟩ d
 refine d.ask q e fin (fun F1 H1 d q fin e=>?_) (fun F1 H1 d q fin e=>?_)
 ·exact xo d cl (na _ (by simp)) (na _ (by simp)) rfl rfl q dF0 dF0 (j:=0) rfl (jy:=0) rfl rfl e fin
 have gp:∀{j:Nat} {fx:Str} {x:Addr} {ks:List (List Int×Dat)} {E':XK} {F1 H1:Hp},Dr K C F1 H1 p dx [k,g,b,n,f,c] [.lst dk,.dic dg,.dic db,.lst dn,.lst df,.lst dc]->aQ K F1 (.lst ws) vw->BJ K C F1 H1 p dx [k,g,b,n,f,c] r Q->(mg [.lst dk,.lst ws]).bind (putC j [.lst dk,.dic dg,.dic db,.lst dn,.lst df,.lst dc])=.ok r->aV K C fx->(dM [k,g,b,n,f,c]).lookup fx=some (V.ref x)->[k,g,b,n,f,c][j]? =some x->([.lst dk,.dic dg,.dic db,.lst dn,.lst df,.lst dc]:List Dat)[j]? =some (.dic ks) ->
   gr (vm K mg) [] E' (aX (mM K (bS 0) "kinds") (aX (mM K (bS 0) fx) (aX (bS 1) fU))) [some (.ref p),some vw] H1 Q:=fun {j fx x ks E' F1 H1} d q fin e nx lx ex hd=>rs_putD2 d cl nx (na _ (by simp)) rfl rfl q dF0 lx rfl rfl ex hd e fin
 refine d.ask q e fin (fun F1 H1 d q fin e=>?_) (fun F1 H1 d q fin e=>?_)
 ·exact gp (j:=1) d q fin e (na _ (by simp)) dF1 rfl rfl
 refine d.ask q e fin (fun F1 H1 d q fin e=>?_) (fun F1 H1 d q fin e=>?_)
 ·exact gp (j:=2) d q fin e (na _ (by simp)) dF2 rfl rfl
 refine d.ask q e fin (fun F1 H1 d q fin e=>?_) (fun F1 H1 d q fin e=>?_)
 ·exact xo d cl (na _ (by simp)) (na _ (by simp)) rfl rfl q dF5 dF5 (j:=5) rfl (jy:=5) rfl rfl e fin
 obtain ⟨dd,ed,e⟩:=bind_eq e;refine aT (dP.only (σ:=[some (.ref p),some vw]) (i:=1) rfl q) d.c.fh (fun e' h=>?_) fun d' hd v F1 H1 s1 q1=>?_
 ·have h:t6 [none,some (.lst ws)]=.error e':=h;rw [ed] at h;cases h
 ·have hd:t6 [none,some (.lst ws)]=.ok d':=hd;rw [ed] at hd;cases hd
  match dd,e,q1 with
  |.bl true,e,q1=>
   cases (show v=V.bl true from q1);exact ⟨true,rfl,.ref p,rfl,vw,rfl,p,dx,_,F1,_,ws,vw,r,rfl,d.step s1,q.mono s1.ff,e,fin.step d s1⟩
  |.bl false,e,q1=>
   cases (show v=V.bl false from q1);cases e;exact ⟨false,rfl,fin F1 H1 s1.toC (d.step s1)⟩
end
noncomputable def spID (C:Addr):Sp:=fun vs H Q _=>∃(p dx:Addr),vs=[.ref p]/\H p=some (.ins C dx [])/\∀(k g b n f c:Addr) (H':Hp),(∀m o,H m=some o->m≠p->H' m=some o)->(∀x∈[k,g,b,n,f,c],H x=none)->[k,g,b,n,f,c].Nodup ->
 H' k=some (.lst [])->H' g=some (vd g [] 0)->H' b=some (vd b [] 0)->H' n=some (.lst [])->H' f=some (.lst [])->H' c=some (.lst [])->H' p=some (.ins C dx (dM [k,g,b,n,f,c]))->Q .non H'
section
variable {p:Addr} {fs:List (Str×V)} {f:Str} {D:Ends} 
theorem Cu.cell (c:Cu F H Hc p C dx fs) (cl:Cls K C) (na:aV K C f) (hn:f∉fs.map (·.1)) (hf:fs.length<1000) (h0:σ[0]? =some (some (.ref p))) (hl:Hc l=none)
  (next:∀Hn,Cu F H Hn p C dx (fs++[(f,.ref l)])->H l=none->Hn l=some o->(∀m u,Hc m=some u->m≠p->Hn m=some u)->D.nx σ Hn):(bS 0) σ (upd Hc l o) fun x H2=>∃a C dx fs,x=.ref a/\H2 a=some (.ins C dx fs)/\Cls K C/\aV K C f/\fs.length<1000/\D.nx σ (upd H2 a (.ins C dx (qC f (.ref l) fs))):=by
 refine ⟨.ref p,h0,p,C,dx,fs,rfl,(c.lay hl).ob,cl,na,hf,?_⟩
 rw [kh f _ fs hn];have hlp:l≠p:=fun z=>by have h:=c.ob;rw [<- z,hl] at h;cases h
 refine next _ ((c.lay hl).put f (.ref l)) (c.new hl) (by rw [au hlp,ay]) fun m u e hm=>?_
 have:m≠l:=fun z=>by rw [z,hl] at e;cases e
 rw [au hm,au this];exact e
end
theorem rs_initD (cl:Cls K C) (na:∀y∈(["kinds","gaps","beside","names","flights","closed"]:List Str),aV K C y) (h:spID C vs H Q E) :
  fT (xk K (bS 0) (tLst fU) "kinds") (fT (xk K (bS 0) tNewK "gaps") (fT (xk K (bS 0) tNewK "beside") (fT (xk K (bS 0) (tLst fU) "names") (fT (xk K (bS 0) (tLst fU) "flights") (xk K (bS 0) (tLst fU) "closed"))))) {nx:=fun _ H'=>Q .non H',rt:=Q} (start ["self"] vs) H:=by
 obtain ⟨p,dx,rfl,hp,q⟩:=h;have C0:Cu (fun _=>none) H H p C dx []:=⟨rfl,fun _ _ h=>(nomatch h),fun _ _ e _=>e,hp⟩
 have z0:(0:Nat)<=sizeLine:=Nat.zero_le _;refine ⟨z0,fun k nk=>C0.cell cl (na _ (by simp)) (by simp) (by simp) rfl nk fun H1 C1 o1 a1 k1=>?_⟩
 refine fun g ng=>C1.cell cl (na _ (by simp)) (by show ("gaps":Str)∉(["kinds"]:List Str);decide +kernel) (by simp) rfl ng fun H2 C2 o2 a2 k2=>?_;refine fun b nb=>C2.cell cl (na _ (by simp)) (by show ("beside":Str)∉(["kinds","gaps"]:List Str);decide +kernel) (by simp) rfl nb fun H3 C3 o3 a3 k3=>?_;refine ⟨z0,fun n nn=>C3.cell cl (na _ (by simp)) (by show ("names":Str)∉(["kinds","gaps","beside"]:List Str);decide +kernel) (by simp) rfl nn fun H4 C4 o4 a4 k4=>?_⟩
 refine ⟨z0,fun f nf=>C4.cell cl (na _ (by simp)) (by show ("flights":Str)∉(["kinds","gaps","beside","names"]:List Str);decide +kernel) (by simp) rfl nf fun H5 C5 o5 a5 k5=>?_⟩
 refine ⟨z0,fun c nc=>C5.cell cl (na _ (by simp)) (by show ("closed":Str)∉(["kinds","gaps","beside","names","flights"]:List Str);decide +kernel) (by simp) rfl nc fun H6 C6 o6 a6 k6=>?_⟩
 have np:∀{x:Addr},H x=none->x≠p:=fun {x} h z=>by rw [z,hp] at h;cases h
 have b1:=k2 _ _ a1 (np o1);have b2:=k3 _ _ b1 (np o1);have b3:=k4 _ _ b2 (np o1);have b4:=k5 _ _ b3 (np o1);have g2:=k3 _ _ a2 (np o2);have g3:=k4 _ _ g2 (np o2);have g4:=k5 _ _ g3 (np o2);have c3:=k4 _ _ a3 (np o3);have c4:=k5 _ _ c3 (np o3);have d4:=k5 _ _ a4 (np o4);have ne:∀{x y:Addr} {Hh:Hp} {o:HO},Hh x=some o->Hh y=none->x≠y:=fun {x y Hh o} h1 h2 z=>by rw [z,h2] at h1;cases h1
 refine q k g b n f c H6 C6.kp (fun x hx=>?_) ?_ (k6 _ _ b4 (np o1)) (k6 _ _ g4 (np o2)) (k6 _ _ c4 (np o3)) (k6 _ _ d4 (np o4)) (k6 _ _ a5 (np o5)) a6 C6.ob
 ·simp only [List.mem_cons,List.not_mem_nil,or_false] at hx;rcases hx with rfl|rfl|rfl|rfl|rfl|rfl<;>assumption
 ·simp only [List.nodup_cons,List.mem_cons,List.not_mem_nil,or_false,not_or,not_false_eq_true,List.nodup_nil,and_true];exact ⟨⟨ne a1 ng,ne b1 nb,ne b2 nn,ne b3 nf,ne b4 nc⟩,⟨ne a2 nb,ne g2 nn,ne g3 nf,ne g4 nc⟩,⟨ne a3 nn,ne c3 nf,ne c4 nc⟩,⟨ne a4 nf,ne d4 nc⟩,ne a5 nc⟩
noncomputable def tX (mr:List Dat->List Dat->M (Bool×List Dat)) (mw:List Dat->M Dat):Nat->List Dat->List Dat->M (List Dat)
 |_,[],ds=>.ok ds
 |k,row::rows,ds=>(mw [row]).bind fun w=>match w with
  |.lst ws=>(mr ds ws).bind fun r=>if r.1=true then tX mr mw (k+1) rows r.2 else stk
  |_=>stk
noncomputable def drD (C:Addr) (ds:List Dat):Dat:=.ins C ((["kinds","gaps","beside","names","flights","closed"]:List Str).zip ds)
noncomputable def ds0:List Dat:=[.lst [],.dic [],.dic [],.lst [],.lst [],.lst []]
noncomputable def tV (C:Addr) (mr:List Dat->List Dat->M (Bool×List Dat)) (mw:List Dat->M Dat) (di ni ri:Nat) (fs:ai->M Dat) (g:ai->M Flo):ai->M Flo:=fun ρ=>if (decide (di<ρ.length)&&decide (ni<ρ.length)&&decide (ri<ρ.length))=true then (fs (ρ.set di none)).bind fun d=>match d with
 |.lst rows=>(tX mr mw 1 rows ds0).bind fun ds=>g ((((ρ.set di none).set ni none).set ri none).set di (some (drD C ds)))
 |_=>stk
 else stk
section
variable {p:Addr} {xs:List Addr} 
theorem Dr.frz (d:Dr K C F H p dx xs ds) (l6:xs.length=6) (st:Step F0 H0 F H) (h0:∀x∈p::xs,H0 x=none):∃G,Step F0 H0 G H/\aN F G/\aQ K G (drD C ds) (.ref p):=by
 have inA:∀b,(b=p\/b∈xs)->F b=none:=fun b h=>h.elim (fun z=>by rw [z];exact d.fp) fun z=>(d.c.at z).1;have ff:aN F (plus F H fun b=>b=p\/b∈xs):=fun b o h=>by
  by_cases hb:b=p\/b∈xs
  ·rw [inA b hb] at h;cases h
  ·rw [c6 hb];exact h
 refine ⟨plus F H fun b=>b=p\/b∈xs,⟨st.ff.trans ff,st.hh,fun b o h=>?_,fun b o h=>?_⟩,ff,p,dx,dM xs,rfl,by rw [ee (.inl rfl)];exact d.ob,?_⟩
 ·by_cases hb:b=p\/b∈xs
  ·rw [ee hb] at h;exact h
  ·rw [c6 hb] at h;exact st.fh b o h
 ·by_cases hb:b=p\/b∈xs
  ·exact .inr (h0 b (hb.elim (fun z=>by rw [z];exact List.mem_cons_self ..) fun z=>List.mem_cons_of_mem _ z))
  ·rw [c6 hb] at h;exact st.nw b o h
 ·have:∀(ns:List Str) (ys:List Addr) (es:List Dat),ys.length=es.length->(∀(j:Nat) y e,ys[j]? =some y->es[j]? =some e->aQ K (plus F H fun b=>b=p\/b∈xs) e (.ref y))->jf K (plus F H fun b=>b=p\/b∈xs) (ns.zip es) (ns.zip (ys.map V.ref)):=by
   intro ns
   induction ns with
   |nil=>intro _ _ _ _;rfl
   |cons a ns ih=>
    intro ys es hl q
    match ys,es,hl with
    |[],[],_=>rfl
    |y::ys,e::es,hl=>exact ⟨.ref y,_,rfl,q 0 y e rfl rfl,ih ys es (by simpa using hl) fun j y' e' h1 h2=>q (j+1) y' e' (by simpa using h1) (by simpa using h2)⟩
  refine this _ xs ds d.c.len fun j y e h1 h2=>?_;obtain ⟨o1,o2⟩:=d.c.own j y e h1 h2;exact o2.give o1 ff (ee (.inr (List.mem_of_getElem? h1)))
variable {fs:ai->M Dat} {D:Ends} {tx:TS}
theorem rs_draft (hdn:di≠ni) (hdr:di≠ri) (hnr:ni≠ri) (t:tS K Wno false F0 H0 OL [] O' (tV C mr mw di ni ri fs g) D σ H) :
  fT (xg (tMake C (spID C) [] E1 fU) (gN di)) (fT (tFor (AX K (tD K Wno false fs)) (gTup K 2 (yW (gN ni) (yW (gN ri) gNil)))
   (rB (tNot (tTr K (gr (rG K C mr) [] E2 (aX (bS di) (aX (gr (spF K false mw 1) [] E3 (aX (bS ri) fU)) fU))))) tx iH)) (tS K Wno false F0 H0 OL [] O' g)) D σ H:=by
 obtain ⟨FB,F,ρ,r,q⟩:=t;unfold tV at q;split at q
 rotate_left
 ·exact q.stuck rfl
 rename_i hc;simp only [Bool.and_eq_true,decide_eq_true_eq] at hc;obtain ⟨⟨hd,hn⟩,hr⟩:=hc;have rE:=r.repE;have ls:=rE.len;intro p dx hp hdx hne;refine ⟨p,dx,rfl,ay,fun k g b n f c H1 kp new nd ak ag ab an af ac ap=>⟨rfl,?_⟩⟩
 have old:∀{m:Addr},upd (upd H dx (.own p)) p (.ins C dx []) m=none->H m=none:=fun {m} h=>by
  cases hm:H m with
  |none=>rfl
  |some o=>
   have h1:m≠p:=fun z=>by rw [z,hp] at hm;cases hm
   have h2:m≠dx:=fun z=>by rw [z,hdx] at hm;cases hm
   rw [au h1,au h2,hm] at h;cases h
 have s1:aN H H1:=fun m o e=>by
  have h1:m≠p:=fun z=>by rw [z,hp] at e;cases e
  have h2:m≠dx:=fun z=>by rw [z,hdx] at e;cases e
  exact kp m o (by rw [au h1,au h2];exact e) h1
 have S1:Step F H F H1:=Step.same r.st.fh s1;have hx:∀x∈p::[k,g,b,n,f,c],H x=none:=fun x hx=>(List.mem_cons.mp hx).elim (fun z=>by rw [z];exact hp) fun z=>old (new x z);have h0:∀x∈p::[k,g,b,n,f,c],H0 x=none:=fun x h=>r.st.hh.free (hx x h);have cell:∀(j:Nat) (x:Addr) (d:Dat),[k,g,b,n,f,c][j]? =some x->ds0[j]? =some d->isO d=true/\k7 K F (fun _=>none) H1 d (.ref x):=fun j x d e1 e2=>by
  have fx:F x=none:=r.st.fh.free (hx x (List.mem_cons_of_mem _ (List.mem_of_getElem? e1)))
  match j,e1,e2 with
  |0,e1,e2=>cases e1;cases e2;exact ⟨rfl,_,[],rfl,ak,fx,rfl,rfl⟩
  |1,e1,e2=>cases e1;cases e2;exact ⟨rfl,_,[],rfl,⟨0,ag⟩,fx,rfl,rfl⟩
  |2,e1,e2=>cases e1;cases e2;exact ⟨rfl,_,[],rfl,⟨0,ab⟩,fx,rfl,rfl⟩
  |3,e1,e2=>cases e1;cases e2;exact ⟨rfl,_,[],rfl,an,fx,rfl,rfl⟩
  |4,e1,e2=>cases e1;cases e2;exact ⟨rfl,_,[],rfl,af,fx,rfl,rfl⟩
  |5,e1,e2=>cases e1;cases e2;exact ⟨rfl,_,[],rfl,ac,fx,rfl,rfl⟩
  |j+6,e1,_=>simp at e1
 have d1:Dr K C F H1 p dx [k,g,b,n,f,c] ds0:=⟨⟨S1.fh,nd,rfl,cell⟩,ap,r.st.fh.free hp,fun z=>by
  have:=new p z;rw [ay] at this;cases this⟩
 have hs1:(σ.set di (some (.ref p)))[di]? =some (some (.ref p)):=List.getElem?_set_self (by rw [<- ls];exact hd);refine aT (rE.hide di (some (.ref p))) S1.fh (fun e he=>by rw [he] at q;exact q) fun dl hdl v F2 H2 s2 q2=>?_;rw [hdl] at q;simp only [aq] at q;cases dl with
 |lst rows=>
  dsimp only at q;obtain ⟨a,ys,rfl,sq,qs⟩:=(show aQ K F2 (.lst rows) v from q2)
  refine ⟨a,rfl,⟨ys,s2.fh.lst sq⟩,?_⟩
  cases hR:tX mr mw 1 rows ds0 with
  |error e=>rw [hR] at q;exact False.elim q
  |ok dz=>
  rw [hR] at q;simp only [aq] at q;have W1:=(r.st.trans S1).trans s2;refine ⟨fun i m σ' H'=>m+i=rows.length/\σ'.length=σ.length/\(∀j,j≠ni->j≠ri->σ'[j]? =(σ.set di (some (.ref p)))[j]?)/\∃F' ds',aN F2 F'/\Step F0 H0 F' H'/\Dr K C F' H' p dx [k,g,b,n,f,c] ds'/\tX mr mw (i+1) (rows.drop i) ds'=.ok dz,
   ⟨rows.length,rfl,List.length_set,fun _ _ _=>rfl,F2,ds0,aN.refl _,W1,d1.step s2,hR⟩,fun i m σ' H' ⟨e1,e2,e3,F',ds',sf,st,d,eR⟩=>?_⟩
  have sqH:SqL K H' a ys:=st.fh.lst (sf.lst sq);by_cases hm:m=0
  ·refine .inl ⟨⟨ys,sqH,by rw [qs.length];omega⟩,?_⟩;rw [List.drop_eq_nil_of_le (by omega)] at eR;cases eR;obtain ⟨G,sG,fG,qG⟩:=d.frz rfl st h0;refine ⟨FB,G,_,Rep.ofE (F:=G) ?_ sG (r.fb.trans ((S1.ff.trans s2.ff).trans (sf.trans fG))),q⟩
   have a1:=(rE.mono ((S1.ff.trans s2.ff).trans (sf.trans fG))).hide di (some (.ref p));have a2:dP K G σ' (((ρ.set di none).set ni none).set ri none):=⟨by rw [List.length_set,List.length_set,List.length_set,e2,ls],fun j d' h=>by
    have hj1:ri≠j:=fun z=>by rw [z,List.getElem?_set_self'] at h;cases hh:((ρ.set di none).set ni none)[j]?<;>rw [hh] at h<;>cases h
    rw [List.getElem?_set_ne hj1] at h;have hj2:ni≠j:=fun z=>by rw [z,List.getElem?_set_self'] at h;cases hh:(ρ.set di none)[j]?<;>rw [hh] at h<;>cases h
    rw [List.getElem?_set_ne hj2] at h;obtain ⟨v,h1,h2⟩:=a1.sl j d' h;exact ⟨v,by rw [e3 j (Ne.symm hj2) (Ne.symm hj1)];exact h1,h2⟩⟩
   exact a2.tell (v:=.ref p) (by rw [e3 di hdn hdr];exact hs1) qG
  ·have hi:i<rows.length:=by omega
   have hiy:i<ys.length:=by rw [qs.length];exact hi
   refine .inr ⟨⟨ys,ys[i],sqH,by simp [hiy]⟩,_,fun σ2 H2 z=>⟨m-1,by omega,z⟩,fun x H3 ⟨T,y,hT,ex,eH,hy⟩=>?_⟩;subst ex eH;have ey:=hy ys sqH;rw [List.getElem?_eq_getElem hiy] at ey;cases ey;obtain ⟨y',hy',qy⟩:=qs.get (i:=i) (d:=rows[i]) (by simp [hi]);rw [List.getElem?_eq_getElem hiy] at hy';cases hy';have sT:Step F' H' F' (upd H' T (.tup [.int (i+1:Nat),ys[i]])):=Step.grow st.fh hT;have dT:=d.step sT;rw [List.drop_eq_getElem_cons hi] at eR;obtain ⟨w,ew,eR⟩:=bind_eq eR;refine ⟨T,_,rfl,SqT.of ay,rfl,_,_,rfl,_,_,rfl,rfl,?_⟩
   have hσd:((σ'.set ni (some (.int (i+1:Nat)))).set ri (some ys[i]))[di]? =some (some (.ref p)):=by
    rw [List.getElem?_set_ne (Ne.symm hdr),List.getElem?_set_ne (Ne.symm hdn),e3 di hdn hdr];exact hs1
   have hσr:((σ'.set ni (some (.int (i+1:Nat)))).set ri (some ys[i]))[ri]? =some (some ys[i]):=List.getElem?_set_self (by rw [List.length_set,e2,<- ls];exact hr);refine ⟨.ref p,hσd,ys[i],hσr,F',[rows[i]],sT.fh,⟨_,_,rfl,qy.mono sf,rfl⟩,rfl,?_⟩
   rw [ew];intro w' F4 H4 s4 q4;cases w with
   |lst ws=>
    obtain ⟨rr,er,eR⟩:=bind_eq eR;have d4:=dT.step s4;unfold fU;dsimp only [];show rG K C mr [V.ref p,w'] H4 _ E2;refine ⟨p,dx,_,F4,ds',ws,w',rr,rfl,d4,q4,er,fun F5 H5 s5 d5=>⟨rr.1,rfl,?_⟩⟩
    cases hb:rr.1 with
    |true=>
     rw [hb,if_pos rfl] at eR;have st5:Step F0 H0 F5 H5:=by
      have z:=(st.trans sT).trans s4;exact ⟨z.ff.trans s5.ff,fun b' o h=>s5.hh b' o (fun hm=>by rw [h0 b' (List.mem_cons_of_mem _ hm)] at h;cases h) (z.hh b' o h),s5.fh,fun b' o h=>(s5.nw b' o h).elim (fun u=>z.nw b' o u) fun u=>.inr (z.hh.free u)⟩
     exact ⟨by omega,by rw [List.length_set,List.length_set];exact e2,fun j h1 h2=>by rw [List.getElem?_set_ne (Ne.symm h2),List.getElem?_set_ne (Ne.symm h1)];exact e3 j h1 h2,F5,rr.2,(sf.trans s4.ff).trans s5.ff,st5,d5,eR⟩
    |false=>rw [hb,if_neg (by decide)] at eR;cases eR
   |_=>cases eR
 |_=>exact q.stuck rfl
end
section
theorem ds_draft {st1 st2:Stmt} {fs:ai->M Dat} {tx:TS}
  (p1:PS X st1 (xg (tMake C (spID C) [] E1 fU) (gN di))) (p2:PS X st2 (tFor (AX K (tD K Wno false fs)) (gTup K 2 (yW (gN ni) (yW (gN ri) gNil))) (rB (tNot (tTr K (gr (rG K C mr) [] E2 (aX (bS di) (aX (gr (spF K false mw 1) [] E3 (aX (bS ri) fU)) fU))))) tx iH))) (h:DSs K Wno false X OL [] O' sts g)
  (hdn:di≠ni:=by decide) (hdr:di≠ri:=by decide) (hnr:ni≠ri:=by decide):DSs K Wno false X OL [] O' (st1::st2::sts) (tV C mr mw di ni ri fs g):=fun F0 H0=>PSs.imp (aG p1 (aG p2 (h F0 H0))) fun _ _ _=>rs_draft hdn hdr hnr
end
noncomputable def eqE:Dat->Dat->M Dat
 |.dic ks,.dic []=>.ok (.bl ks.isEmpty)
 |a,b=>eqM a b
@[simp] theorem e_eqE (ks:List (List Int×Dat)):eqE (.dic ks) (.dic [])=.ok (.bl ks.isEmpty):=id rfl
theorem eq_dicE {E:Vp} {Q:Vp} {xs:List ll} (da:mh s.heap a xs ep) (db:mh s.heap b [] ep') (hu:A.units<cLine) (h:Q (.bool xs.isEmpty) s):wpAny (model prog w) A (compareOp .Eq (.ref a) (.ref b)) Q E s:=by
 cases xs with
 |nil=>
  obtain ⟨n1,d1⟩:=Bl (P:=prog) (w:=w) da;obtain ⟨n2,d2⟩:=Bl (P:=prog) (w:=w) db;exact PySem.W.keq_eq n1 n2 d1 d2 hu (fun _=>.nil) h
 |cons x xs=>
  obtain ⟨vs,rv,na,_,_,oa,es,h1,h2,h3,h4⟩:=da;obtain ⟨us,ru,nb,_,_,ob,fs,g1,g2,g3,g4⟩:=db;have ta:s.TypeIs (.ref a) "dict":=⟨oa,h1,h2.1⟩
  have tb:s.TypeIs (.ref b) "dict":=⟨ob,g1,g2.1⟩
  have hes:es.size≠fs.size:=by
   have e1:es.size=vs.length:=by rw [<- Array.length_toList,h4,List.length_map]
   have e2:fs.size=us.length:=by rw [<- Array.length_toList,g4,List.length_map]
   have e3:=rv.length;have e4:=ru.length;rw [e1,e2,<- e3,<- e4];simp
  refine wpAny_richCompare_same_room (op:=.Eq) ta tb PySem.F.slot_dict_eq (wpAny_call_entry PySem.F.slot_dict_eq ta PySem.F.entry_dict_eq ?_ (PySem.F.args_dict_eq_2 _ _)) hu;refine (show wpAny _ _ (Builtin.Dict.dictSlotArgs "__eq__" ⟨[.ref a,.ref b],[]⟩ >>= _) _ _ s from wpAny_bind (by
   unfold Builtin.Dict.dictSlotArgs;refine wpAny_bind (wpAny_notOrdered_dict ta (show wpAny _ _ (pure (Value.ref a,Value.ref b)) _ _ s from wpAny_pure (wpAny_bind (wpAny_isInstance (T:="dict") tb PySem.F.sub_dict_dict ?_))));simp only [Bool.not_true,Bool.false_eq_true,if_false];refine wpAny_bind (wpAny_pure (wpAny_bind (wpAny_pure (wpAny_bind ?_))));unfold Builtin.Dict.samePairs Builtin.Dict.showsAll;rw [if_neg (by rw [na];decide),if_neg (by rw [nb];decide)];refine wpAny_bind (wpAny_pure (wpAny_bind (wpAny_pure (wpAny_bind (wpAny_dictEntries h1 h3 (wpAny_bind (wpAny_dictEntries g1 g3 ?_)))))));rw [if_pos (by simpa using hes)];refine wpAny_bind (wpAny_rule (wpAny_pure (wpAny_pure ⟨_,rfl,(fun x=>nomatch x),?_⟩)));simpa using h))
section
variable {W:du} {own:Bool}
theorem o_eqE (hu:X.A.units+64<cLine) (hK:X.K=K:=by rfl):Op2 K W own X (compareOp .Eq) eqE:=by
 intro pins s σ H x y v u Q I rx ry h;obtain ⟨F,a,b,s1,qa,qb,p⟩:=h;by_cases ht:∃ks,a=.dic ks/\b=.dic []
 ·obtain ⟨ks,rfl,rfl⟩:=ht;obtain ⟨l1,xs,rfl,⟨ep1,h1⟩,r1⟩:=qa;obtain ⟨l2,ys,rfl,⟨ep2,h2⟩,r2⟩:=qb;cases rx;cases ry;cases (show ys=[] from r2);have e:xs.isEmpty=ks.isEmpty:=by
   have:=r1.length;cases xs<;>cases ks<;>simp_all
  refine eq_dicE (xT I (s1 _ _ h1)) (xT I (s1 _ _ h2)) (by omega) ⟨.bl _,H,I,rfl,?_⟩;rw [e];exact p (.bl _) F H (Step.refl s1) (by cases own<;>rfl)
 ·have e:eqE a b=eqM a b:=by
   unfold eqE;split
   ·rename_i ks;exact absurd ⟨ks,rfl,rfl⟩ ht
   ·rfl
  rw [e] at p;exact uo hu hK pins s σ H x y v u Q I rx ry ⟨F,a,b,s1,qa,qb,p⟩
end
section
variable {mg:Mq} {base:Heap} 
noncomputable def YR (_:∃f fd,Def K mg x st ps f fd) (P:Program) (w:World) (base:Heap) (k:Nat) (sp:Sp):Prop:=∃f fd,Yd P w K mg base CX0 k x st ps sp f fd
theorem fR (N:List Str) {h:∃f fd,Def K mg x st ps f fd} (len:∀vs H Q E,sp vs H Q E->vs.length=ps.length)
  (hb:∀z:B7,N.Nodup->ip k (z.A.deeper (envOfC x (aJ st) z.s.heap.objs.size z.f z.c))->∀(vs:List V) (Q:VK),sp vs z.H Q z.E->∃t,PSs (cxOf CX0 P w K mg base N x (aJ st) z.f z.c z.A z.o z.s z.H z.E).nox (bP st) t/\t {nx:=fun _ H'=>Q .non H',rt:=Q} (start N vs) z.H)
  (S:gQ N ps (aJ st):=by exact ⟨rfl,rfl,rfl,by decide +kernel,rfl,by decide +kernel,by decide +kernel⟩):YR h P w base (k+1) sp:=
 let ⟨f,fd,D⟩:=h
 ⟨f,fd,D,D.fn.okX S len fun c A o s H vs Q E hr h=>hb ⟨f,c,A,o,s,H,E⟩ S.nd hr vs Q h⟩
end
section
variable {t:TA} 
theorem pY (Y:∃f fd,Yd X.prog X.w X.K X.mg X.base CX0 k x st ps sp f fd) (hr:ip j X.A) (ha:PA X (e::es) t) (hj:k<=j:=by decide) (hg:Gl X x:=by rfl) (hdb:(x==("__debug__":Str))=false:=by decide)
  (hst:starEach (e::es) X.env=(false,eval e X.env)::starEach es X.env:=by rfl) (hpl:(backTo pos (starEach es X.env)).any (·.1)=false:=by rfl):PE X (.Call (.Name x p) (e::es) [] pos) (gr sp [] E0 t):=let ⟨_,_,Y⟩:=Y;nW Y.o (hr.mono hj) hg Y.d.mg Y.d.fn.kp Y.d.bd .nil nX ha hdb hst hpl
theorem hU (h:n+64<cLine):n+1<cLine:=by omega
end
theorem len_told (h:ka vs H Q E):vs.length=2:=by obtain ⟨_,_,rfl,_⟩:=h;rfl
theorem len_gap (h:vm K mg vs H Q E):vs.length=3:=by obtain ⟨_,_,_,_,_,_,_,_,_,_,_,rfl,_⟩:=h;rfl
theorem AI (h:rG K C mr vs H Q E):vs.length=2:=by obtain ⟨_,_,_,_,_,_,_,_,rfl,_⟩:=h;rfl
theorem len_ID (h:spID C vs H Q E):vs.length=1:=by obtain ⟨_,_,rfl,_⟩:=h;rfl
noncomputable def Ay:Dat->Dat->M Dat
 |.str z,.int n=>if z.length<=1000/\ -1000<=n/\n<=1000 then .ok (.str (Txt.mul z n)) else stk
 |_,_=>stk
@[simp] theorem e_mulSD (z:Str) (n:Int):Ay (.str z) (.int n)=if z.length<=1000/\ -1000<=n/\n<=1000 then .ok (.str (Txt.mul z n)) else stk:=id rfl
noncomputable def vo:Dat->Option Int->Option Int->M Dat
 |.str z,lo,hi=>if z.length<=sizeLine then .ok (.str (Txt.slice z lo hi)) else stk
 |_,_,_=>stk
@[simp] theorem e_sliceSD (z:Str) (lo hi:Option Int):vo (.str z) lo hi=if z.length<=sizeLine then .ok (.str (Txt.slice z lo hi)) else stk:=id rfl
section
variable {W:du} {own:Bool}
theorem mul_okS {n:Int} (h:z.length<=1000/\ -1000<=n/\n<=1000):MulOk z n:=by
 obtain ⟨h1,h2,h3⟩:=h;refine ⟨?_,fun hn _=>?_,fun hn _=>?_⟩
 ·rw [Bool.or_eq_false_iff];exact ⟨decide_eq_false (by omega),decide_eq_false (by omega)⟩
 ·have:(z.length:Int)<=(2^63-1)/n:=by
   refine (Int.le_ediv_iff_mul_le (by omega)).mpr ?_;have a:(z.length:Int)*n<=1000*1000:=Int.mul_le_mul (by omega) (by omega) (by omega) (by omega);omega
  omega
 ·have a:z.length*n.toNat<=1000*1000:=Nat.mul_le_mul h1 (by omega);exact decide_eq_false (by rw [sizeLine_eq];omega)
theorem Ar:Op2 K W own X (binaryOp .Mult) Ay:=by
 intro pins s σ H x y v u Q I rx ry h;obtain ⟨F,a,b,s1,qa,qb,p⟩:=h;cases a with
 |str z=>cases b with
  |int n=>
   have p:aC K W own F H (if z.length<=1000/\ -1000<=n/\n<=1000 then .ok (.str (Txt.mul z n)) else stk) Q:=p;cases (show x=V.str z from qa);cases (show y=V.int n from qb);obtain ⟨t,rfl⟩:=(show ∃t,v=Value.str z t from rx)
   obtain ⟨t',rfl⟩:=(show ∃t,u=Value.int n t from ry)
   by_cases hc:z.length<=1000/\ -1000<=n/\n<=1000
   ·rw [if_pos hc] at p;exact SB.mul (mul_okS hc) fun t1 k=>⟨.str (Txt.mul z n),H,I.tok _,⟨_,rfl⟩,p.str s1⟩
   ·rw [if_neg hc] at p;exact aC.stuck p
  |_=>exact aC.stuck p
 |_=>exact aC.stuck p
theorem x_slS:SlR X (rDS K W own vo):=by
 intro pins s σ H x v vl vu lo hi sl Q I rx hs pl pu h;obtain ⟨F,a,s1,qa,p⟩:=h;cases a with
 |str z=>
  have p:aC K W own F H (if z.length<=sizeLine then .ok (.str (Txt.slice z lo hi)) else stk) Q:=p;cases (show x=V.str z from qa);obtain ⟨t,rfl⟩:=(show ∃t,v=Value.str z t from rx)
  by_cases hc:z.length<=sizeLine
  ·rw [if_pos hc] at p;obtain ⟨l,el,ml⟩:∃l,vl=partValue l/\lo=l.map (·.1):=by
    cases pl with
    |none=>exact ⟨none,rfl,rfl⟩
    |int i t=>exact ⟨some (i,t),rfl,rfl⟩
   obtain ⟨r,er,mr⟩:∃l,vu=partValue l/\hi=l.map (·.1):=by
    cases pu with
    |none=>exact ⟨none,rfl,rfl⟩
    |int i t=>exact ⟨some (i,t),rfl,rfl⟩
   subst el er ml mr;refine ⟨"str",_,PySem.F.slot_str_getitem.lookup,typeIs_str _ _ _,wpAny_getItem_str_slice (l:=l) (u:=r) (st:=none) hs rfl (post_val_or_str ⟨Nat.le_trans (Txt.slice_le z _ _) hc,fun t' k=>?_⟩)⟩
   exact ⟨.str _,H,I.tok _,⟨_,rfl⟩,p.str s1⟩
  ·rw [if_neg hc] at p;exact aC.stuck p
 |_=>exact aC.stuck p
end
section
theorem lh.upd {c:Addr} {u:HO} (o:lh K F G H ds vs) (n:∀k:Nat,vs[k]?≠some (.ref c)):lh K F G (L2.upd H c u) ds vs:=⟨o.len,fun k d e=>by
 obtain ⟨a,xs,es,h1,h2,h3,h4⟩:=o.get k d e;exact ⟨a,xs,es,h1,h2,by rw [au (fun z=>n k (by rw [<- z];exact h1))];exact h3,h4⟩,o.ap⟩
theorem lh.write {es:List Dat} (o:lh K F G H ds vs) (hj:vs[j]? =some (.ref b)) (q:az K F es xs):lh K F G (L2.upd H b (.lst xs)) (ds.set j (.lst es)) vs:=by
 obtain ⟨xs0,es0,e0,hb,fb,h0b,_⟩:=o.at hj;refine ⟨by rw [List.length_set];exact o.len,fun k d e=>?_,o.ap⟩
 by_cases hk:j=k
 ·subst hk;rw [List.getElem?_set_self (List.getElem?_eq_some_iff.mp e0).1] at e;cases e;exact ⟨b,xs,es,hj,rfl,ay,fb,h0b,q⟩
 ·rw [List.getElem?_set_ne hk] at e;obtain ⟨c,ws,fs,k1,k2,k3,k4⟩:=o.get k d e;have ncb:c≠b:=fun z=>hk (o.ap j k b hj (by rw [<- z];exact k1));exact ⟨c,ws,fs,k1,k2,by rw [au ncb];exact k3,k4⟩
theorem n5 (l:List α) (j k:Nat):(l.eraseIdx j)[k]? =l[if k<j then k else k+1]?:=by
 rw [List.getElem?_eraseIdx];split<;>rfl
theorem lh.erase (o:lh K F G H ds vs) (j:Nat):lh K F G H (ds.eraseIdx j) (vs.eraseIdx j):=by
 refine ⟨by rw [List.length_eraseIdx,List.length_eraseIdx,o.len],fun k d e=>?_,fun i k a e1 e2=>?_⟩
 ·rw [n5] at e ⊢;exact o.get _ d e
 ·rw [n5] at e1 e2;have:=o.ap _ _ a e1 e2;split at this<;>split at this<;>omega
end
structure mK (K:Fg) (F0 H0 F:Hp) (ar al:Addr) (H:Hp) (xs ys:List V) (out rs:List Dat):Prop where
 st:Step F0 H0 F H
 hr:H ar=some (.lst xs)
 fr:F ar=none/\H0 ar=none
 hl:H al=some (.lst ys)
 fl:F al=none/\H0 al=none
 na:ar≠al
 nl:∀m:Nat,ys[m]?≠some (.ref al)
 nr:∀m:Nat,ys[m]?≠some (.ref ar)
 ow:lh K F H0 H rs ys
 dq:az K F out xs
noncomputable def mixA (ar al:Addr) (ys:List V) (c:Addr):Prop:=c=ar\/c=al\/∃m:Nat,ys[m]? =some (.ref c)
section
variable {out rs:List Dat}
theorem mK.same (h:mK K F0 H0 F ar al H xs ys out rs) (s:aN H H'):mK K F0 H0 F ar al H' xs ys out rs:=
 have t:=Step.same h.st.fh s
 ⟨h.st.trans t,s _ _ h.hr,h.fr,s _ _ h.hl,h.fl,h.na,h.nl,h.nr,h.ow.step t,h.dq⟩
theorem Step.put {u:HO} (s:Step F0 H0 F H) (f:F c=none/\H0 c=none):Step F0 H0 F (upd H c u):=
 ⟨s.ff,fun b o e=>by rw [au (aR e f.2)];exact s.hh b o e,fun b o e=>by rw [au (aR e f.1)];exact s.fh b o e,s.nw⟩
theorem mK.app (h:mK K F0 H0 F ar al H xs ys out rs) {x:Dat} (q:aQ K F x v):mK K F0 H0 F ar al (upd H ar (.lst (xs++[v]))) (xs++[v]) ys (out++[x]) rs:=
 ⟨h.st.put h.fr,ay,h.fr,by rw [au (Ne.symm h.na)];exact h.hl,h.fl,h.na,h.nl,h.nr,h.ow.upd h.nr,h.dq.append (.cons q .nil)⟩
theorem mK.pop (h:mK K F0 H0 F ar al H xs ys out rs) {es:List Dat} {ws:List V} (hj:ys[j]? =some (.ref b)) (q:az K F es ws):mK K F0 H0 F ar al (upd H b (.lst ws)) xs ys out (rs.set j (.lst es)):=by
 obtain ⟨_,_,_,_,fb,h0b,_⟩:=h.ow.at hj;have n1:ar≠b:=fun z=>h.nr j (by rw [z];exact hj);have n2:al≠b:=fun z=>h.nl j (by rw [z];exact hj);exact ⟨h.st.put ⟨fb,h0b⟩,by rw [au n1];exact h.hr,h.fr,by rw [au n2];exact h.hl,h.fl,h.na,h.nl,h.nr,h.ow.write hj q,h.dq⟩
theorem mK.drop (h:mK K F0 H0 F ar al H xs ys out rs) (j:Nat):mK K F0 H0 F ar al (upd H al (.lst (ys.eraseIdx j))) xs (ys.eraseIdx j) out (rs.eraseIdx j):=
 ⟨h.st.put h.fl,by rw [au h.na];exact h.hr,h.fr,ay,h.fl,h.na,fun m e=>h.nl _ (by rw [n5] at e;exact e),fun m e=>h.nr _ (by rw [n5] at e;exact e),(h.ow.upd h.nl).erase j,h.dq⟩
theorem mK.none (h:mK K F0 H0 F ar al H xs ys out rs) {c:Addr} (hc:mixA ar al ys c):F c=none:=by
 rcases hc with rfl|rfl|⟨m,e⟩
 ·exact h.fr.1
 ·exact h.fl.1
 ·obtain ⟨_,_,_,_,z,_⟩:=h.ow.at e;exact z
theorem mK.ff (h:mK K F0 H0 F ar al H xs ys out rs):aN F (plus F H (mixA ar al ys)):=fun c o z=>by
 by_cases hc:mixA ar al ys c
 ·rw [h.none hc] at z;cases z
 ·rw [c6 hc];exact z
theorem mK.fh (h:mK K F0 H0 F ar al H xs ys out rs):aN (plus F H (mixA ar al ys)) H:=fun c o z=>by
 by_cases hc:mixA ar al ys c
 ·rw [ee hc] at z;exact z
 ·rw [c6 hc] at z;exact h.st.fh c o z
theorem mK.dr (h:mK K F0 H0 F ar al H xs ys out rs):aQ K (plus F H (mixA ar al ys)) (.lst out) (.ref ar):=⟨ar,xs,rfl,SqL.of (by rw [ee (.inl rfl)];exact h.hr),h.dq.mono h.ff⟩
theorem mK.dl (h:mK K F0 H0 F ar al H xs ys out rs):aQ K (plus F H (mixA ar al ys)) (.lst rs) (.ref al):=by
 refine ⟨al,ys,rfl,SqL.of (by rw [ee (.inr (.inl rfl))];exact h.hl),az.of_get h.ow.len fun m d u e1 e2=>?_⟩
 obtain ⟨c,ws,fs,k1,k2,k3,k4,k5,k6⟩:=h.ow.get m d e1;rw [k1] at e2;cases e2;subst k2;exact ⟨c,ws,rfl,SqL.of (by rw [ee (.inr (.inr ⟨m,k1⟩))];exact k3),k6.mono h.ff⟩
end
noncomputable def jH (ir il:Nat) (ρ:ai) (out rs:List Dat):ai:=(ρ.set ir (some (.lst out))).set il (some (.lst rs))
noncomputable def ve (ir il ia:Nat) (fc:ai->M Bool) (fa:ai->M Dat) (t2:ai->M Bool) (ρ:ai):Nat->List Dat->List Dat->M (List Dat)
 |0,_,_=>stk
 |n+1,out,rs=>(fc (jH ir il ρ out rs)).bind fun b=>if b=true then
   (fa (jH ir il ρ out rs)).bind fun d=>(asI d).bind fun k=>(rowAt rs k).bind fun je=>match je.2 with
    |x::es=>if out.length<sizeLine/\rs.length<=sizeLine then
      (t2 ((jH ir il ρ (out++[x]) (rs.set je.1 (.lst es))).set ia (some (.int k)))).bind fun b2=>
       ve ir il ia fc fa t2 ρ n (out++[x]) (if b2=true then (rs.set je.1 (.lst es)).eraseIdx je.1 else rs.set je.1 (.lst es))
     else stk
    |[]=>stk
  else .ok out
noncomputable def eX (ir il ia:Nat) (ρ:ai):ai:=((ρ.set ir none).set il none).set ia none
noncomputable def sMix (n ir il ia:Nat) (fl:ai->M Dat) (fc:ai->M Bool) (fa:ai->M Dat) (t2:ai->M Bool) (g:ai->M Flo):ai->M Flo:=fun ρ=>
 if (decide (ir<ρ.length)&&decide (il<ρ.length)&&decide (ia<ρ.length))=true then (ju ρ ir).bind fun out=>(fl (ρ.set ir none)).bind fun d=>(lstOf d).bind fun rs=>(ve ir il ia fc fa t2 (eX ir il ia ρ) n out rs).bind fun out'=>g ((eX ir il ia ρ).set ir (some (.lst out'))) else stk
noncomputable abbrev tTake (K:Fg) (ir il ia:Nat):TS:=jo (tBM K "list" jL (bS ir) (aX (tBM K "list" A9 (tOp (rIx K) (bS il) (bS ia)) (aX (tC (.int 0)) fU)) fU))
section
variable {D:Ends} {out rs:List Dat} {fc:ai->M Bool} 
theorem yA (h1:ir≠il) (h2:ia≠ir) (h3:ia≠il) (m:mK K F0 H0 F ar al H xs ys out rs) (r:dP K F σ (eX ir il ia ρ)) (er:σ[ir]? =some (some (.ref ar))) (el:σ[il]? =some (some (.ref al))) (hi:ia<σ.length) (hr:ir<σ.length) (fb:aN FB F)
  (p:jx K Wno ro F0 H0 FB OL O' D ((ve ir il ia fc fa t2 (eX ir il ia ρ) n out rs).bind fun out'=>g ((eX ir il ia ρ).set ir (some (.lst out'))))) :
  fT (zJ (tDT K Wno fc) (fT (xg (tD K Wno false fa) (gN ia)) (fT (tTake K ir il ia) (rB (tDT K Wno t2) (jo (zK K il (bS ia))) iH)))) (tS K Wno ro F0 H0 OL [ir] O' g) D σ H:=by
 have hb:∀{σ':St},σ'.length=σ.length->(∀j,j≠ia->σ'[j]? =σ[j]?)->dP K F σ' (eX ir il ia ρ):=fun {σ'} l k=>by
  have:=r.but (i:=ia) l k
  rwa [show (eX ir il ia ρ).set ia none=eX ir il ia ρ by unfold eX;rw [List.set_set]] at this
 refine ⟨fun n σ' H=>∃xs ys out rs,mK K F0 H0 F ar al H xs ys out rs/\σ'.length=σ.length/\(∀j,j≠ia->σ'[j]? =σ[j]?)/\jx K Wno ro F0 H0 FB OL O' D ((ve ir il ia fc fa t2 (eX ir il ia ρ) n out rs).bind fun out'=>g ((eX ir il ia ρ).set ir (some (.lst out')))),⟨n,xs,ys,out,rs,m,rfl,fun _ _=>rfl,p⟩,?_⟩
 rintro n σ1 H ⟨xs,ys,out,rs,m,l1,k1,p⟩;have e1:σ1[ir]? =some (some (.ref ar)):=by rw [k1 ir (Ne.symm h2)];exact er
 have e2:σ1[il]? =some (some (.ref al)):=by rw [k1 il (Ne.symm h3)];exact el
 have told:∀{σ':St} {H:Hp} {xs ys:List V} {out rs:List Dat},mK K F0 H0 F ar al H xs ys out rs->σ'.length=σ.length->(∀j,j≠ia->σ'[j]? =σ[j]?)->dP K (plus F H (mixA ar al ys)) σ' (jH ir il (eX ir il ia ρ) out rs):=fun {σ' H xs ys out rs} m l k=>
  (((hb l k).mono m.ff).tell (i:=ir) (by rw [k ir (Ne.symm h2)];exact er) m.dr).tell (i:=il) (by rw [k il (Ne.symm h3)];exact el) m.dl
 cases n with
 |zero=>exact p.stuck rfl
 |succ n=>
 have t1:=told m l1 k1;refine fV t1 m.fh (fun e he=>by rw [ve,he] at p;exact p) fun b hbv F3 H3 s3=>?_;rw [ve,hbv] at p;have p:jx K Wno ro F0 H0 FB OL O' D ((if b=true then (fa (jH ir il (eX ir il ia ρ) out rs)).bind (fun d=>(asI d).bind fun k=>(rowAt rs k).bind fun je=>match je.2 with
    |x::es=>if out.length<sizeLine/\rs.length<=sizeLine then
      (t2 ((jH ir il (eX ir il ia ρ) (out++[x]) (rs.set je.1 (.lst es))).set ia (some (.int k)))).bind fun b2=>
       ve ir il ia fc fa t2 (eX ir il ia ρ) n (out++[x]) (if b2=true then (rs.set je.1 (.lst es)).eraseIdx je.1 else rs.set je.1 (.lst es))
     else stk
    |[]=>stk) else .ok out).bind fun out'=>g ((eX ir il ia ρ).set ir (some (.lst out')))):=p
 have m3:=m.same s3.hh;cases b with
 |false=>
  rw [if_neg (by decide)] at p;rw [if_neg (by decide)];have rr:=hb l1 k1;refine ⟨FB,F,_,⟨m3.st,fb,by rw [List.length_set];exact rr.len,fun i d e hn=>?_,fun i d e hm=>?_,fun i j d e a hi hj _ _ _ _=>?_⟩,p⟩
  ·have hni:ir≠i:=fun z=>hn (by simp [z]);rw [List.getElem?_set_ne hni] at e;exact rr.sl i d e
  ·have:=List.mem_singleton.mp hm;subst this;rw [List.getElem?_set_self (by rw [rr.len,l1];exact hr)] at e;cases e;exact ⟨.ref ar,e1,ar,xs,rfl,m3.hr,m3.fr.1,m3.fr.2,m3.dq⟩
  ·rw [List.mem_singleton.mp hi,List.mem_singleton.mp hj]
 |true=>
  rw [if_pos rfl] at p;rw [if_pos rfl];refine ⟨_,fun σ' H' z=>⟨n,Nat.lt_succ_self n,z⟩,?_⟩
  refine aT (told m3 l1 k1) m3.fh (fun e he=>by rw [he] at p;exact p) fun d hd v F4 H4 s4 q4=>?_;rw [hd,aq] at p;have m4:=m3.same s4.hh;cases d with
  |int k=>
   have p:jx K Wno ro F0 H0 FB OL O' D (((rowAt rs k).bind fun je=>match je.2 with
    |x::es=>if out.length<sizeLine/\rs.length<=sizeLine then
      (t2 ((jH ir il (eX ir il ia ρ) (out++[x]) (rs.set je.1 (.lst es))).set ia (some (.int k)))).bind fun b2=>
       ve ir il ia fc fa t2 (eX ir il ia ρ) n (out++[x]) (if b2=true then (rs.set je.1 (.lst es)).eraseIdx je.1 else rs.set je.1 (.lst es))
     else stk
    |[]=>stk).bind fun out'=>g ((eX ir il ia ρ).set ir (some (.lst out')))):=p
   have q4:v=.int k:=q4;subst q4;cases hj:ixN rs.length k with
   |none=>exact p.stuck (by unfold rowAt;rw [hj];rfl)
   |some j=>
    obtain ⟨x1,hjl,x3,x4⟩:=we hj;obtain ⟨b,ws,es0,g1,g2,g3,g4,g5,g6⟩:=m4.ow.get j rs[j] (by simp [hjl]);have erj:rs[j]? =some (.lst es0):=by rw [<- g2];simp [hjl]
    have e3:rowAt rs k=.ok (j,es0):=by unfold rowAt;rw [hj];show (match rs[j]? with|some (.lst es)=>Except.ok (j,es)|_=>Except.error Err.stuck)=_;rw [erj]
    rw [e3,aq] at p;cases es0 with
    |nil=>exact p.stuck rfl
    |cons x es=>
     have p:jx K Wno ro F0 H0 FB OL O' D ((if out.length<sizeLine/\rs.length<=sizeLine then
      (t2 ((jH ir il (eX ir il ia ρ) (out++[x]) (rs.set j (.lst es))).set ia (some (.int k)))).bind fun b2=>
       ve ir il ia fc fa t2 (eX ir il ia ρ) n (out++[x]) (if b2=true then (rs.set j (.lst es)).eraseIdx j else rs.set j (.lst es))
      else stk).bind fun out'=>g ((eX ir il ia ρ).set ir (some (.lst out')))):=p
     by_cases hc:out.length<sizeLine/\rs.length<=sizeLine
     rotate_left
     ·rw [if_neg hc] at p;exact p.stuck rfl
     rw [if_pos hc] at p;obtain ⟨y,ws',rfl,qy,qw⟩:=g6;have l5:(σ1.set ia (some (V.int k))).length=σ.length:=by rw [List.length_set];exact l1
     have k5:∀j,j≠ia->(σ1.set ia (some (V.int k)))[j]? =σ[j]?:=fun j hj=>by rw [List.getElem?_set_ne (Ne.symm hj)];exact k1 j hj
     have ei:(σ1.set ia (some (V.int k)))[ia]? =some (some (.int k)):=List.getElem?_set_self (by rw [l1];exact hi);have e1':(σ1.set ia (some (V.int k)))[ir]? =some (some (.ref ar)):=by rw [k5 ir (Ne.symm h2)];exact er
     have e2':(σ1.set ia (some (V.int k)))[il]? =some (some (.ref al)):=by rw [k5 il (Ne.symm h3)];exact el
     have hs:=sizeLine_eq;have m5:=(m4.pop g1 qw).app qy;refine ⟨.ref ar,e1',eE m4.hr,.ref al,e2',.int k,ei,.inl ⟨al,ys,k,.ref b,rfl,rfl,SqL.of m4.hl,?_,?_⟩⟩
     ·unfold atI;rw [m4.ow.len,hj];exact g1
     refine ⟨eE g3,b,y::ws',0,0,y,rfl,rfl,g3,by decide,by decide,(we (i:=0) (j:=0) (by unfold ixN;simp)).1,rfl,?_⟩
     refine ⟨ar,xs,y,rfl,rfl,(m4.pop g1 qw).hr,by rw [m4.dq.length];exact hc.1,?_⟩
     have rr:=(told m5 l5 k5).tell (i:=ia) (d:=.int k) ei rfl;refine fV rr m5.fh (fun e he=>by rw [he] at p;exact p) fun b2 hb2 F6 H6 s6=>?_;rw [hb2,aq] at p;have m6:=m5.same s6.hh;cases b2 with
     |false=>
      rw [if_neg (by decide)] at p;rw [if_neg (by decide)];exact ⟨_,_,_,_,m6,l5,k5,p⟩
     |true=>
      rw [if_pos rfl] at p;rw [if_pos rfl];refine ⟨.ref al,e2',eE m6.hl,.int k,ei,al,ys,k,j,.ref b,rfl,rfl,m6.hl,by omega,by omega,by rw [m4.ow.len];exact x1,g1,?_⟩
      exact ⟨_,_,_,_,m6.drop j,l5,k5,p⟩
  |_=>exact p.stuck rfl
end
section
variable {D:Ends} {fc:ai->M Bool} 
theorem rs_mix {p:Pat} (hL:∀ρ d,fe ρ=.ok d->∃es,d=.lst es) (h1:ir≠il) (h2:ia≠ir) (h3:ia≠il) (t:tS K Wno ro F0 H0 OL [ir] O' (sMix n ir il ia (bY fi ix p ft fe) fc fa t2 g) D σ H) :
  fT (xc il (iD K Wno fi) ix (gP K p) (tDT K Wno ft) (tD K Wno true fe)) (fT (zJ (tDT K Wno fc) (fT (xg (tD K Wno false fa) (gN ia)) (fT (tTake K ir il ia) (rB (tDT K Wno t2) (jo (zK K il (bS ia))) iH)))) (tS K Wno ro F0 H0 OL [ir] O' g)) D σ H:=by
 obtain ⟨FB,F,ρ,r,q⟩:=t;unfold sMix at q;by_cases hc:(decide (ir<ρ.length)&&decide (il<ρ.length)&&decide (ia<ρ.length))=true
 rotate_left
 ·rw [if_neg hc] at q;exact q.stuck rfl
 rw [if_pos hc] at q;simp only [Bool.and_eq_true,decide_eq_true_eq] at hc;obtain ⟨⟨c1,c2⟩,c3⟩:=hc;rw [r.len] at c1 c2 c3;cases hl:ju ρ ir with
 |error e=>have:=oh hl;subst this;exact q.stuck (by rw [hl];rfl)
 |ok out=>
 rw [hl,aq] at q;obtain ⟨v,er,ar,xs,ev,hr,fr,h0r,dq⟩:=r.ow ir _ (kq hl) (by simp);subst ev;have rE:dP K F σ (ρ.set ir none):=r.jh;refine rd_turns rE r.st.fh hL (fun e he=>by rw [he] at q;exact q) fun rs hrs ys F2 H2 s2 ow al ha=>?_;rw [hrs,aq] at q;have q:jx K Wno ro F0 H0 FB OL O' D ((ve ir il ia fc fa t2 (eX ir il ia ρ) n out rs).bind fun out'=>g ((eX ir il ia ρ).set ir (some (.lst out')))):=q;have sg:Step F2 H2 F2 (upd H2 al (.lst ys)):=Step.grow s2.fh ha;have st2:=s2.trans sg;have hr2:=s2.hh _ _ hr;have na:ar≠al:=fun z=>by rw [z,ha] at hr2;cases hr2
 have m:mK K F0 H0 F2 ar al (upd H2 al (.lst ys)) xs ys out rs:={
  st:=r.st.trans st2,hr:=sg.hh _ _ hr2,fr:=⟨s2.stays fr hr,h0r⟩,hl:=ay,fl:=⟨s2.fh.free ha,r.st.hh.free (s2.hh.free ha)⟩,na:=na
  nl:=fun k z=>by obtain ⟨_,_,_,w,_⟩:=ow.at z;rw [ha] at w;cases w
  nr:=fun k z=>by obtain ⟨_,_,_,_,_,w,_⟩:=ow.at z;rw [hr] at w;cases w
  ow:=(ow.step sg).back r.st.hh,dq:=dq.mono st2.ff}
 have r3:dP K F2 (σ.set il (some (.ref al))) (eX ir il ia ρ):=by
  have a:=(rE.mono st2.ff).hide il (some (.ref al));have b:=a.but (i:=ia) (σ':=σ.set il (some (.ref al))) rfl fun _ _=>rfl;exact b
 exact yA h1 h2 h3 m r3 (by rw [List.getElem?_set_ne (Ne.symm h1)];exact er) (List.getElem?_set_self c2) (by rw [List.length_set];exact c3) (by rw [List.length_set];exact c1) (r.fb.trans st2.ff) q
end
section
variable {c ea:Expr} {p0:Pat} {fc:ai->M Bool} {wpos:Pos} 
theorem ds_mix (n:Nat) (N':List Str) (ix:List (Option Nat)) (hN:X.N.Nodup) (hi:DI K Wno X tg iter fi) (hg:∀L cs s H fp,DG K (ba X N' sc L cs s H fp) tg p0) (hl:pO ix (gP K p0))
  (ht:∀L cs s H fp,PTs (ba X N' sc L cs s H fp) ifs (tDT K Wno ft)) (he:∀L cs s H fp,DE K Wno true (ba X N' sc L cs s H fp) elt fe) (hL:∀ρ d,fe ρ=.ok d->∃es,d=.lst es)
  (hc:DT K Wno X c fc) (hb:PSs X body (fT (xg (tD K Wno false fa) (gN ia)) (fT (tTake K ir il ia) (rB (tDT K Wno t2) (jo (zK K il (bS ia))) iH)))) (hr:DSs K Wno ro X OL [ir] O' sts g)
  (h1:ir≠il:=by decide) (h2:ia≠ir:=by decide) (h3:ia≠il:=by decide) (hp:PassesOwn (model X.prog X.w) X.A X.env X.xe:=by exact PassesOwn.never)
  (hj:X.N[il]? =some x:=by rfl) (hy:X.env.scope.names.lookup x=some .local:=by rfl) (hcm:X.calm=true:=by rfl)
  (hsw:swapsWith (.ListComp elt [⟨tg,iter,ifs,0⟩] sc pos) (some (.Name x py)) spos.line X.env=pure true:=by rfl)
  (ok:br X.N X.env.scope N' sc ix=true:=by rfl) (hk:sc.kind=.function:=by rfl) (hs:∀x,foldedSetIterable iter X.env x=pure x:=by intro _;rfl) :
  DSs K Wno ro X OL [ir] O' (.Assign [.Name x py] (.ListComp elt [⟨tg,iter,ifs,0⟩] sc pos) spos::.While c body [] wpos::sts) (sMix n ir il ia (bY fi ix p0 ft fe) fc fa t2 g):=
 fun F0 H0=>PSs.imp (aG (qD N' ix hN hj hy hcm hi hg hl ht he hsw ok hk hs) (aG (ps_while hp hc hb) (hr F0 H0))) fun _ _ _=>rs_mix hL h1 h2 h3
theorem pb_mix {p1 p4 p5 p6 p7 p8 p9 q1 q2 q3 q4 q5 q6 q7 q8:Pos} {j0} (hN:X.N.Nodup) (ha:DE K Wno false X ea fa) (ht:DT K Wno X e2 t2) (hK:X.K=K:=by rfl)
  (hx:X.N[ir]? =some x:=by rfl) (hy:X.N[il]? =some y:=by rfl) (hz:X.N[ia]? =some z:=by rfl)
  (vx:Vis X.env.scope x:=by first|exact Or.inl rfl|exact Or.inr (Or.inl rfl)|exact Or.inr (Or.inr rfl)) (vy:Vis X.env.scope y:=by first|exact Or.inl rfl|exact Or.inr (Or.inl rfl)|exact Or.inr (Or.inr rfl)) (vz:Vis X.env.scope z:=by first|exact Or.inl rfl|exact Or.inr (Or.inl rfl)|exact Or.inr (Or.inr rfl))
  (dx:(x==("__debug__":Str))=false:=by decide) (cx:(x==("__classdict__":Str))=false:=by decide) (dy:(y==("__debug__":Str))=false:=by decide) (cy:(y==("__classdict__":Str))=false:=by decide) (dz:(z==("__debug__":Str))=false:=by decide) (cz:(z==("__classdict__":Str))=false:=by decide)
  (lz:Loc X.env.scope z:=by first|exact Or.inl rfl|exact Or.inr rfl) (fz:X.fn z=true\/X.env.scope.names.lookup z=some .local:=by first|exact .inl rfl|exact .inr rfl|assumption)
  (hs1:swapsWithSole [.Name z p1] ea p2.line X.env=pure false:=by rfl) (hw1:swappedStores [.Name z p1] ea X.env=pure none:=by rfl) (ha1:(assignEach [.Name z p1] X.env).map (·.2)=[assign (.Name z p1) X.env]:=by rfl)
  (hst:starEach [.Constant (.int 0) j0 p5] X.env=[(false,eval (.Constant (.int 0) j0 p5) X.env)]:=by rfl) (hbase:attributeBase (.Subscript (.Name y p3) (.Name z p4) p6) "pop" X.env (eval (.Subscript (.Name y p3) (.Name z p4) p6) X.env)=eval (.Subscript (.Name y p3) (.Name z p4) p6) X.env:=by rfl)
  (hfew:((backTo p7 (starEach [.Constant (.int 0) j0 p5] X.env)).all (fun x=> !x.1)&&(backToKw p7 (keywordEach [] X.env)).all (fun x=>x.1.isSome)&&decide ([Expr.Constant (.int 0) j0 p5].length+([]:List Keyword).length+(if ([]:List Keyword).isEmpty then 0 else 1)<30))=true:=by rfl) (hplain:(backTo p7 (starEach [] X.env)).any (·.1)=false:=by rfl) (hline:(p8.endLine==p7.line)=true:=by rfl)
  (hst2:starEach [.Call (.Attribute (.Subscript (.Name y p3) (.Name z p4) p6) "pop" p8) [.Constant (.int 0) j0 p5] [] p7] X.env=[(false,eval (.Call (.Attribute (.Subscript (.Name y p3) (.Name z p4) p6) "pop" p8) [.Constant (.int 0) j0 p5] [] p7) X.env)]:=by rfl) (hbase2:attributeBase (.Name x p9) "append" X.env (eval (.Name x p9) X.env)=eval (.Name x p9) X.env:=by rfl)
  (hfew2:((backTo q1 (starEach [.Call (.Attribute (.Subscript (.Name y p3) (.Name z p4) p6) "pop" p8) [.Constant (.int 0) j0 p5] [] p7] X.env)).all (fun x=> !x.1)&&(backToKw q1 (keywordEach [] X.env)).all (fun x=>x.1.isSome)&&decide ([Expr.Call (.Attribute (.Subscript (.Name y p3) (.Name z p4) p6) "pop" p8) [.Constant (.int 0) j0 p5] [] p7].length+([]:List Keyword).length+(if ([]:List Keyword).isEmpty then 0 else 1)<30))=true:=by rfl) (hplain2:(backTo q1 (starEach [] X.env)).any (·.1)=false:=by rfl) (hline2:(q2.endLine==q1.line)=true:=by rfl)
  (hsw:swapsWith (.Call (.Attribute (.Name x p9) "append" q2) [.Call (.Attribute (.Subscript (.Name y p3) (.Name z p4) p6) "pop" p8) [.Constant (.int 0) j0 p5] [] p7] [] q1) none q3.line X.env=pure false:=by rfl)
  (hst3:starEach [.Name z q4] X.env=[(false,eval (.Name z q4) X.env)]:=by rfl) (hbase3:attributeBase (.Name y q5) "pop" X.env (eval (.Name y q5) X.env)=eval (.Name y q5) X.env:=by rfl) (hfew3:((backTo q6 (starEach [.Name z q4] X.env)).all (fun x=> !x.1)&&(backToKw q6 (keywordEach [] X.env)).all (fun x=>x.1.isSome)&&decide ([Expr.Name z q4].length+([]:List Keyword).length+(if ([]:List Keyword).isEmpty then 0 else 1)<30))=true:=by rfl) (hplain3:(backTo q6 (starEach [] X.env)).any (·.1)=false:=by rfl) (hline3:(q7.endLine==q6.line)=true:=by rfl) (hsw3:swapsWith (.Call (.Attribute (.Name y q5) "pop" q7) [.Name z q4] [] q6) none q8.line X.env=pure false:=by rfl) {pb:Pos} :
  PSs X [.Assign [.Name z p1] ea p2,.Expr (.Call (.Attribute (.Name x p9) "append" q2) [.Call (.Attribute (.Subscript (.Name y p3) (.Name z p4) p6) "pop" p8) [.Constant (.int 0) j0 p5] [] p7] [] q1) q3,.If e2 [.Expr (.Call (.Attribute (.Name y q5) "pop" q7) [.Name z q4] [] q6) q8] [] pb]
   (fT (xg (tD K Wno false fa) (gN ia)) (fT (tTake K ir il ia) (rB (tDT K Wno t2) (jo (zK K il (bS ia))) iH))):=by
 subst hK;exact aG (ps_asg ha (lE hN hz lz fz) hs1 hw1 ha1) (aG (gL (qc PySem.F.plainAttrs_list PySem.F.slot_list_append PySem.F.type_list_append iP (pv ir hx vx dx cx) (aA (qc PySem.F.plainAttrs_list PySem.F.slot_list_pop PySem.F.type_list_pop xC (pe_ix ix_seq (pv il hy vy dy cy) (pv ia hz vz dz cz) fun _ _=>rfl) (aA Ak aY hst) hbase hfew hline hst hplain) aY hst2) hbase2 hfew2 hline2 hst2 hplain2) hsw) (bM (lC ht (bM (gL (pe_pop (pv ia hz vz dz cz) hy vy dy cy hst3 hbase3 hfew3 hplain3 hline3) hsw3)) dZ)))
end
section
noncomputable def Th (F F':Hp):Prop:=∀b o,F b=some o->F' b=some (unF o)
theorem Th.tup (s:Th F F') (h:SqT K F a xs):SqT K F' a xs:=by
 rcases h with (h|⟨o,h⟩)|h
 ·exact .inl (.inl (s _ _ h))
 ·exact .inl (.inl (s _ _ h))
 ·exact .inr h
theorem Th.lst (s:Th F F') (h:SqL K F a xs):SqL K F' a xs:=by
 rcases h with (h|⟨o,h⟩)|h
 ·exact .inl (.inl (s _ _ h))
 ·exact .inl (.inl (s _ _ h))
 ·exact .inr h
mutual
theorem aQ.th (s:Th F F'):∀{d:Dat} {v:V},aQ K F d v->aQ K F' d v
 |.non,_,h=>h
 |.bl _,_,h=>h
 |.int _,_,h=>h
 |.str _,_,h=>h
 |.tup _,_,⟨a,xs,e,q,r⟩=>⟨a,xs,e,s.tup q,az.th s r⟩
 |.lst _,_,⟨a,xs,e,q,r⟩=>⟨a,xs,e,s.lst q,az.th s r⟩
 |.ins _ _,_,⟨a,dx,fs,e,q,r⟩=>⟨a,dx,fs,e,s _ _ q,jf.th s r⟩
 |.dic _,_,⟨a,xs,e,⟨ep,q⟩,r⟩=>⟨a,xs,e,⟨ep,s _ _ q⟩,cB.th s r⟩
 |.dil _,_,⟨a,xs,e,⟨ep,q⟩,r,z⟩=>⟨a,xs,e,⟨ep,s _ _ q⟩,r,fun x hx=>let ⟨r,bs,t1,t2,l,t3⟩:=z x hx;⟨r,bs,s.tup t1,s.tup t2,l,fun j row c e1 e2=>s.tup (t3 j row c e1 e2)⟩⟩
theorem az.th (s:Th F F'):∀{ds:List Dat} {xs:List V},az K F ds xs->az K F' ds xs
 |[],_,h=>h
 |_::_,_,⟨v,vs,e,q,r⟩=>⟨v,vs,e,aQ.th s q,az.th s r⟩
theorem jf.th (s:Th F F'):∀{gs:List (Str×Dat)} {fs:List (Str×V)},jf K F gs fs->jf K F' gs fs
 |[],_,h=>h
 |(_,_)::_,_,⟨v,r,e,q,t⟩=>⟨v,r,e,aQ.th s q,jf.th s t⟩
theorem cB.th (s:Th F F'):∀{ks:List (List Int×Dat)} {xs:List ll},cB K F ks xs->cB K F' ks xs
 |[],_,h=>h
 |(_,_)::_,_,⟨b,v,r,e,t,q,z⟩=>⟨b,v,r,e,s.tup t,aQ.th s q,cB.th s z⟩
end
end
noncomputable def bare2:Option Dat->Option Dat
 |some (.int i)=>some (.int i)
 |some (.str z)=>some (.str z)
 |_=>none
noncomputable def sZ (ρ:ai):ai:=ρ.map bare2
theorem dP.txt (r:dP K F σ ρ) (G:Hp):dP K G σ (sZ ρ):=
 ⟨by unfold sZ;rw [List.length_map,r.len],fun i d e=>by
  unfold sZ at e;rw [List.getElem?_map] at e;cases h:ρ[i]? with
  |none=>rw [h] at e;cases e
  |some o=>
   rw [h] at e;cases o with
   |none=>cases e
   |some z=>
    cases z with
    |int k=>
     cases e;obtain ⟨v,h1,h2⟩:=r.sl i _ h;exact ⟨v,h1,h2⟩
    |str k=>
     cases e;obtain ⟨v,h1,h2⟩:=r.sl i _ h;exact ⟨v,h1,h2⟩
    |_=>cases e⟩
open Classical in
noncomputable def wU (F G H:Hp):Hp:=fun b=>if H b=none then (G b).map unF else F b
noncomputable def isLs:Option Dat->Bool
 |some (.lst ds)=>decide (ds.length<sizeLine)
 |_=>false
noncomputable def vG (C:Addr) (x y z:Str) (h:Nat) (fe:ai->M Dat) (t1:ai->M Bool) (fv:ai->M Dat) (g:ai->M Flo):ai->M Flo:=fun ρ=>(fe (sZ ρ)).bind fun d=>match d with
 |.ins C' fs=>if (decide (C'=C)&&decide (h<ρ.length)&&isLs (fs.lookup x)&&isLs (fs.lookup y)&&isLs (fs.lookup z))=true then
   (t1 (ρ.set h (some (.ins C' fs)))).bind fun b=>if b=true then .ok (.rt (.bl false)) else (fv (ρ.set h none)).bind fun _=>g (ρ.set h none)
  else stk
 |_=>stk
structure Bent (F0 H0 F:Hp) (p C dx:Addr) (fs:List (Str×V)) (bk bf be:Addr) (H:Hp):Prop where
 st:Step F0 H0 F H
 ob:H p=some (.ins C dx fs)
 k:∃y,H bk=some (.lst y)
 f:∃y,H bf=some (.lst y)
 e:∃y,H be=some (.lst y)/\y.length<sizeLine
 nk:F bk=none/\H0 bk=none
 nf:F bf=none/\H0 bf=none
 ne:F be=none/\H0 be=none
section
variable {p:Addr} {fs:List (Str×V)} {bk bf be:Addr}
theorem Bent.same (b:Bent F0 H0 F p C dx fs bk bf be H) (s:aN H H'):Bent F0 H0 F p C dx fs bk bf be H':=
 ⟨b.st.trans (Step.same b.st.fh s),s _ _ b.ob,b.k.imp fun _ h=>s _ _ h,b.f.imp fun _ h=>s _ _ h,b.e.imp fun _ h=>⟨s _ _ h.1,h.2⟩,b.nk,b.nf,b.ne⟩
theorem Bent.put (b:Bent F0 H0 F p C dx fs bk bf be H) {c:Addr} (hc:∃y,H c=some (.lst y)) (n:F c=none/\H0 c=none):Bent F0 H0 F p C dx fs bk bf be (upd H c (.lst [])):=by
 obtain ⟨y,hy⟩:=hc;have pc:p≠c:=fun z=>by rw [<- z,b.ob] at hy;cases hy
 have go:∀x:Addr,(∃y,H x=some (.lst y))->∃y,upd H c (.lst []) x=some (.lst y):=fun x ⟨y,h⟩=>by
  by_cases z:x=c
  ·rw [z,ay];exact ⟨_,rfl⟩
  ·rw [au z];exact ⟨y,h⟩
 refine ⟨b.st.put n,by rw [au pc];exact b.ob,go _ b.k,go _ b.f,?_,b.nk,b.nf,b.ne⟩
 obtain ⟨y,h1,h2⟩:=b.e;by_cases z:be=c
 ·rw [z,ay];exact ⟨[],rfl,by rw [sizeLine_eq];decide⟩
 ·rw [au z];exact ⟨y,h1,h2⟩
end
section
variable {D:Ends} {h:Nat} 
theorem oC {gs:List (Str×Dat)} {fs:List (Str×V)} (q:jf K G gs fs) (l:isLs (gs.lookup x)=true):∃b y,fs.lookup x=some (.ref b)/\SqL K G b y/\y.length<sizeLine:=by
 cases e:gs.lookup x with
 |none=>rw [e] at l;cases l
 |some d=>
  rw [e] at l;obtain ⟨v,h1,h2⟩:=(q.at).1 d e;cases d with
  |lst ds=>
   obtain ⟨a,y,rfl,h3,h4⟩:=h2;exact ⟨a,y,h1,h3,by rw [h4.length];exact of_decide_eq_true l⟩
  |_=>cases l
theorem rs_bent (hK:Au K=true) (cl:Cls K C) (nx:aV K C x) (ny:aV K C y) (nz:aV K C z) (t:tS K Wno false F0 H0 OL [] O' (vG C x y z h fe t1 fv g) D σ H) :
  fT (xg (tThaw (tD K Wno false fe)) (gN h)) (fT (rB (tDT K Wno t1) (tm (tC (.bl false))) iH) (fT (jo (tBM0 K "list" u0 (mM K (bS h) x))) (fT (jo (tBM0 K "list" u0 (mM K (bS h) y)))
   (fT (jo (tBM K "list" jL (mM K (bS h) z) (aX (tD K Wno false fv) fU))) (tS K Wno false F0 H0 OL [] O' g))))) D σ H:=by
 obtain ⟨FB,F,ρ,r,p⟩:=t;have rE:=r.repE;refine aT (rE.txt fun _=>none) (fun _ _ z=>nomatch z) (fun e he=>by unfold vG at p;rw [he] at p;exact p) fun d hd v G H1 s1 q1=>?_;unfold vG at p;rw [hd] at p;simp only [aq] at p;split at p
 rotate_left
 ·exact p.stuck rfl
 rename_i C' gs;split at p
 rotate_left
 ·exact p.stuck rfl
 rename_i hc;simp only [Bool.and_eq_true,decide_eq_true_eq] at hc;obtain ⟨⟨⟨⟨rfl,hl⟩,lx⟩,ly⟩,lz⟩:=hc;have q1:aQ K G (.ins C' gs) v:=q1;obtain ⟨pa,dx,fs,rfl,ob,df⟩:=id q1;obtain ⟨bk,yk,fk,sk,_⟩:=oC df lx;obtain ⟨bf,yf,ff,sf,_⟩:=oC df ly;obtain ⟨be,ye,fz,sz,le⟩:=oC df lz;have nwG:∀{b:Addr} {o:HO},G b=some o->H b=none:=fun {b o} q=>(s1.nw _ _ q).elim (fun z=>nomatch z) id;have nwL:∀{b:Addr} {y:List V},SqL K G b y->H b=none:=fun {b y} q=>by
  rcases q with (q|⟨o,q⟩)|⟨o,_,_,e,c,_⟩
  ·exact nwG q
  ·exact nwG q
  ·exact (xB hK e c).elim
 have th:∀{b:Addr} {y:List V},SqL K G b y->pU H H1 b=some (.lst y):=fun q=>SqL.pU hK s1.fh (nwL q) q;have st:Step F H F (pU H H1):=Step.same r.st.fh fun b o e=>by rw [mU e];exact s1.hh _ _ e
 have new:∀{b:Addr},H b=none->F b=none/\H0 b=none:=fun e=>⟨r.st.fh.free e,r.st.hh.free e⟩
 have B:Bent F0 H0 F pa C' dx fs bk bf be (pU H H1):=⟨r.st.trans st,by rw [mV (nwG ob),s1.fh _ _ ob];rfl,⟨_,th sk⟩,⟨_,th sf⟩,⟨_,th sz,le⟩,new (nwL sk),new (nwL sf),new (nwL sz)⟩
 have f1:aN F (wU F G H):=fun b o e=>by unfold wU;rw [if_neg (by rw [r.st.fh _ _ e];exact fun z=>nomatch z)];exact e
 have f2:Th G (wU F G H):=fun b o e=>by unfold wU;rw [if_pos (nwG e),e];rfl
 have f3:aN (wU F G H) (pU H H1):=fun b o e=>by
  unfold wU at e;by_cases hb:H b=none
  ·rw [if_pos hb] at e;rw [mV hb];cases hg:G b with
   |none=>rw [hg] at e;cases e
   |some u=>rw [hg] at e;rw [s1.fh _ _ hg];exact e
  ·rw [if_neg hb] at e;rw [mU (r.st.fh _ _ e)];exact s1.hh _ _ (r.st.fh _ _ e)
 have hs:h<σ.length:=by rw [<- rE.len];exact hl
 have hh:(σ.set h (some (.ref pa)))[h]? =some (some (.ref pa)):=List.getElem?_set_self hs;have rx:dP K (wU F G H) (σ.set h (some (.ref pa))) (ρ.set h (some (.ins C' gs))):=(rE.mono f1).set (q1.th f2) h;refine fV rx f3 (fun e he=>by rw [he] at p;exact p) fun b hb F3 H3 t3=>?_;rw [hb,aq] at p;have B3:=B.same t3.hh;cases b with
 |true=>rw [if_pos rfl] at p;exact p (.bl false) F H3 B3.st rfl
 |false=>
 rw [if_neg (by decide)] at p;obtain ⟨y1,k1⟩:=B3.k;have B4:=B3.put B3.k B3.nk;obtain ⟨y2,k2⟩:=B4.f;have B5:=B4.put B4.f B4.nf;obtain ⟨y3,k3,l3⟩:=B5.e;have r5:dP K F (σ.set h (some (.ref pa))) (ρ.set h none):=rE.hide h (some (.ref pa));refine ⟨.ref pa,hh,pa,C',dx,fs,.ref bk,rfl,B3.ob,cl,nx,fk,eE k1,bk,y1,rfl,rfl,k1,?_⟩
 refine ⟨.ref pa,hh,pa,C',dx,fs,.ref bf,rfl,B4.ob,cl,ny,ff,eE k2,bf,y2,rfl,rfl,k2,?_⟩
 refine ⟨.ref pa,hh,pa,C',dx,fs,.ref be,rfl,B5.ob,cl,nz,fz,eE k3,?_⟩
 refine aT r5 B5.st.fh (fun e he=>by rw [he] at p;exact p) fun d hd v F6 H6 s6 q6=>?_;rw [hd,aq] at p;refine ⟨be,y3,v,rfl,rfl,s6.hh _ _ k3,l3,FB,F6,_,Rep.ofE (r5.mono s6.ff) ((B5.st.trans s6).put ⟨s6.stays B5.ne.1 k3,B5.ne.2⟩) (r.fb.trans s6.ff),p⟩
end
section
variable {h:Nat} 
theorem ds_bent (hK:Au K=true) (cl:Cls K C) (nx:aV K C x) (ny:aV K C y) (nz:aV K C z)
  (p:∀F0 H0,PSs X sts (fT (xg (tThaw (tD K Wno false fe)) (gN h)) (fT (rB (tDT K Wno t1) (tm (tC (.bl false))) iH) (fT (jo (tBM0 K "list" u0 (mM K (bS h) x))) (fT (jo (tBM0 K "list" u0 (mM K (bS h) y)))
   (fT (jo (tBM K "list" jL (mM K (bS h) z) (aX (tD K Wno false fv) fU))) (tS K Wno false F0 H0 OL [] O' g))))))):DSs K Wno false X OL [] O' sts (vG C x y z h fe t1 fv g):=fun F0 H0=>PSs.imp (p F0 H0) fun _ _ _=>rs_bent hK cl nx ny nz
end
end L2
namespace Ru
open PySem L2 PyProof.Rows
variable {mg:Mq} {x z o nm a b:Str} {ps ks r xs:List Str} {n m i k c j:Nat} {P:Program} {CP CS CD C cZ:Addr} {fd cJ:FuncData} {d:Dat} {g:Int} {rows r2:List (List Int)} {G:List (List Int×Dat)} {t:Nat->Nat->Int} {q:List Nat} {β:Type} {ds:List Dat}
noncomputable def gk (CR CP CS CD:Addr) (n:Nat):ai->M Flo:=
 sIf (fB (f2 gtD (fL ku (aa (ah 2) aB)) (fC (.int 0))))
   (aW [] 3 (f2 gu (f2 ixD (ah 2) (f2 gu (ah 1) (fL ku (aa (ah 2) aB)))) (f2 powD (fC (.int 10)) (fC (.int 24)))))
   cL
noncomputable def i8 (CR CP CS CD:Addr) (n:Nat):ai->M Flo:=
 (bg (aW [] 2 (fSl gT (ah 0) ue (mP (fC (.int 63)))))
  (bg (aW [] 3 (f2 cn (f2 si (fC (.int 13)) (ah 1)) (fC (.int 5))))
  (bg (gk CR CP CS CD n)
  (bg (aW [] 4 (f2 gu (f2 si (f2 cn (f2 cn (ah 3) (f2 si (f2 si (ah 1) (ah 1)) (fC (.int 7919)))) (fL ku (aa (ah 2) aB))) (fC (.int 48271))) (fC (.int 2305843009213693951))))
  (cF (f2 gu (f2 cn (f2 si (ah 4) (fC (.int 1442695040888963407))) (fC (.int 4321))) (fC (.int 2305843009213693921))))))))
noncomputable def aO (CR CP CS CD:Addr) (n:Nat):List Dat->M Dat:=bU 5 2 (i8 CR CP CS CD n)
noncomputable def fH (CR CP CS CD:Addr) (n:Nat):ai->M Flo:=
 (bg (aW [] 0 (f2 cn (f2 cn (f2 si (ah 0) (ah 0)) (f2 si (fC (.int 48271)) (ah 0))) (ah 4)))
  (bg (aW [] 0 (f2 gu (ah 0) (fC (.int 2305843009213693951))))
  (aW [] 3 (f2 cn (ah 3) (f2 zx (f2 cn (ah 2) (fC (.str "0123456789"))) (f2 gu (f2 cT (ah 0) (fC (.int 64))) (fC (.int 36))))))))
noncomputable def oP (CR CP CS CD:Addr) (n:Nat):ai->M Flo:=
 (bg (aW [] 2 (fC (.str "abcdefghijklmnopqrstuvwxyz")))
  (bg (aW [] 3 (f2 cn (f2 zx (ah 2) (f2 gu (ah 0) (fC (.int 26)))) (f2 zx (ah 2) (f2 gu (ah 1) (fC (.int 26))))))
  (bg (pZ [] (sV tY (aa (f2 gu (f2 cT (ah 0) (fC (.int 32))) (fC (.int 6))) aB)) (.nm 4) (fH CR CP CS CD n))
  (cF (ah 3)))))
noncomputable def i4 (CR CP CS CD:Addr) (n:Nat):List Dat->M Dat:=bU 5 2 (oP CR CP CS CD n)
noncomputable def eZ (CR CP CS CD:Addr) (n:Nat):ai->M Flo:=
 sIf (fB (f2 ltD (ah 1) (fL ku (aa (ah 0) aB))))
   (cF (f2 gu (f2 ixD (ah 0) (ah 1)) (f2 powD (fC (.int 10)) (fC (.int 24)))))
   cL
noncomputable def gM (CR CP CS CD:Addr) (n:Nat):ai->M Flo:=
 (bg (eZ CR CP CS CD n)
  (cF (fC (.int 0))))
noncomputable def bq (CR CP CS CD:Addr) (n:Nat):List Dat->M Dat:=bU 2 2 (gM CR CP CS CD n)
noncomputable def bT (CR CP CS CD:Addr) (n:Nat):ai->M Flo:=
 (bg (aW [] 0 (f2 cn (f2 cn (f2 si (ah 0) (ah 0)) (f2 si (fC (.int 48271)) (ah 0))) (ah 3)))
  (bg (aW [] 0 (f2 gu (ah 0) (fC (.int 2305843009213693951))))
  (aW [] 2 (f2 cn (ah 2) (f2 zx (fC (.str "abcdefghijklmnopqrstuvwxyz0123456789")) (f2 gu (f2 cT (ah 0) (fC (.int 64))) (fC (.int 36))))))))
noncomputable def gE (CR CP CS CD:Addr) (n:Nat):ai->M Flo:=
 (bg (aW [] 2 (f2 cn (f2 zx (fC (.str "abcdefghijklmnopqrstuvwxyz")) (f2 gu (ah 1) (fC (.int 26)))) (f2 zx (fC (.str "0123456789")) (f2 cT (ah 1) (fC (.int 26))))))
  (bg (pZ [] (sV tY (aa (f2 gu (f2 cT (ah 0) (fC (.int 32))) (fC (.int 7))) aB)) (.nm 3) (bT CR CP CS CD n))
  (cF (ah 2))))
noncomputable def cC (CR CP CS CD:Addr) (n:Nat):List Dat->M Dat:=bU 4 2 (gE CR CP CS CD n)
noncomputable def qR (CR CP CS CD:Addr) (n:Nat):ai->M Flo:=
 (cF (f2 ixD (fL cw (aa (f2 gu (f2 cT (ah 0) (fC (.int 16))) (fC (.int 7))) (aa (f2 gu (f2 cT (ah 0) (fC (.int 16))) (f2 cn (f2 powD (fC (.int 10)) (fC (.int 6))) (fC (.int 1)))) (aa (fC (.int 0)) (aa (f2 gu (f2 cT (ah 0) (fC (.int 16))) (fC (.int 100))) aB))))) (f2 gu (ah 0) (fC (.int 4)))))
noncomputable def eA (CR CP CS CD:Addr) (n:Nat):List Dat->M Dat:=bU 1 1 (qR CR CP CS CD n)
noncomputable def oN (CR CP CS CD:Addr) (n:Nat):ai->M Flo:=
 (cF (f2 ixD (fL cw (aa (f2 gu (f2 cT (ah 0) (fC (.int 16))) (fC (.int 60))) (aa (f2 gu (f2 cT (ah 0) (fC (.int 16))) (f2 cn (f2 powD (fC (.int 10)) (fC (.int 9))) (fC (.int 1)))) (aa (f2 gu (f2 cT (ah 0) (fC (.int 16))) (fC (.int 1000))) aB)))) (f2 gu (ah 0) (fC (.int 3)))))
noncomputable def cb (CR CP CS CD:Addr) (n:Nat):List Dat->M Dat:=bU 1 1 (oN CR CP CS CD n)
noncomputable def fP (CR CP CS CD:Addr) (n:Nat):ai->M Flo:=
 (fW [1] 1 (fL (i4 CR CP CS CD n) (aa (fL (aO CR CP CS CD n) (aa (ah 0) (aa (ah 2) aB))) (aa (ah 2) aB))))
noncomputable def fO (CR CP CS CD:Addr) (n:Nat):ai->M Flo:=
 (bg (aW [3,4] 5 (bY (sV tY (aa (fL ku (aa (ah 1) aB)) aB)) [none,some 0,some 1,some 2] (.nm 0) gd (fL (aO CR CP CS CD n) (aa (ah 1) (aa (f2 cn (f2 cn (fC (.int 7)) (f2 si (ah 3) (fL ku (aa (ah 2) aB)))) (ah 0)) aB)))))
  (bg (fW [3,4] 3 (bY (fIt (ah 5)) [none] (.nm 0) gd (fL (eA CR CP CS CD n) (aa (ah 0) aB))))
  (fW [3,4] 4 (bY (fIt (ah 5)) [none] (.nm 0) gd (fL (eA CR CP CS CD n) (aa (f2 cT (ah 0) (fC (.int 64))) aB))))))
noncomputable def fw (CR CP CS CD:Addr) (n:Nat):ai->M Flo:=
 sIf (fB (f2 eqM (f2 gu (fL (bq CR CP CS CD n) (aa (ah 0) (aa (fC (.int 2)) aB))) (fC (.int 2))) (fC (.int 0))))
   (aW [] 4 (fC .non))
   cL
noncomputable def fq (CR CP CS CD:Addr) (n:Nat):ai->M Flo:=
 sIf (fB (f2 eqM (f2 gu (f2 cT (fL (bq CR CP CS CD n) (aa (ah 0) (aa (fC (.int 1)) aB))) (fC (.int 64))) (fC (.int 8))) (fC (.int 5))))
   (aW [6,7] 8 (fC (.int 40)))
   cL
noncomputable def fN (CR CP CS CD:Addr) (n:Nat):ai->M Flo:=
 (bg (aW [6,7] 9 (fL (aO CR CP CS CD n) (aa (ah 0) (aa (f2 cn (fC (.int 50)) (ah 2)) aB))))
  (bg (aW [6,7] 10 (fL lu (aa (fL cw (aa (fL (cb CR CP CS CD n) (aa (ah 9) aB)) (aa (fL (cb CR CP CS CD n) (aa (f2 cT (ah 9) (fC (.int 4096))) aB)) aB))) aB)))
  (bg (fW [6,7] 6 (fL (cC CR CP CS CD n) (aa (f2 cT (ah 9) (fC (.int 8))) (aa (ah 2) aB))))
  (fW [6,7] 7 (fL iQ (aa (f2 gu (ah 9) (fL ku (aa (ah 1) aB))) (aa (f2 ixD (ah 10) (fC (.int 0))) (aa (f2 ixD (ah 10) (fC (.int 1))) (aa (fL (cb CR CP CS CD n) (aa (f2 cT (ah 9) (fC (.int 9))) aB)) (aa (fL (cb CR CP CS CD n) (aa (f2 cT (ah 9) (fC (.int 27))) aB)) aB))))))))))
noncomputable def fK (CR CP CS CD:Addr) (n:Nat):ai->M Flo:=
 (bg (aW [11] 10 (fL lu (aa (fL cw (aa (fL (cb CR CP CS CD n) (aa (fL (aO CR CP CS CD n) (aa (ah 0) (aa (f2 cn (fC (.int 101)) (ah 2)) aB))) aB)) (aa (fL (cb CR CP CS CD n) (aa (fL (aO CR CP CS CD n) (aa (ah 0) (aa (f2 cn (fC (.int 107)) (ah 2)) aB))) aB)) aB))) aB)))
  (fW [11] 11 (fL iQ (aa (f2 cT (f2 ixD (ah 10) (fC (.int 0))) (fC (.int 2))) (aa (f2 cn (f2 cT (f2 ixD (ah 10) (fC (.int 1))) (fC (.int 2))) (fC (.int 1))) aB)))))
noncomputable def oR (CR CP CS CD:Addr) (n:Nat):ai->M Flo:=
 (bg (aW [] 1 (fL cw aB))
  (bg (pZ [1] (sV tY (aa (f2 cn (fC (.int 1)) (f2 gu (f2 gu (f2 si (fL (bq CR CP CS CD n) (aa (ah 0) (aa (fC (.int 0)) aB))) (fC (.int 16807))) (fC (.int 2147483647))) (fC (.int 6)))) aB)) (.nm 2) (fP CR CP CS CD n))
  (bg (aW [] 3 (fL cw aB))
  (bg (aW [3] 4 (fL cw aB))
  (bg (pZ [3,4] (sV tY (aa (fL ku (aa (ah 1) aB)) aB)) (.nm 2) (fO CR CP CS CD n))
  (bg (fw CR CP CS CD n)
  (bg (aW [] 6 (fL cw aB))
  (bg (aW [6] 7 (fL cw aB))
  (bg (aW [6,7] 8 (f2 gu (f2 gu (f2 si (fL (bq CR CP CS CD n) (aa (ah 0) (aa (fC (.int 1)) aB))) (fC (.int 39373))) (fC (.int 2147483629))) (fC (.int 9))))
  (bg (fq CR CP CS CD n)
  (bg (pZ [6,7] (sV tY (aa (ah 8) aB)) (.nm 2) (fN CR CP CS CD n))
  (bg (aW [] 11 (fL cw aB))
  (bg (pZ [11] (sV tY (aa (f2 gu (f2 cT (fL (aO CR CP CS CD n) (aa (ah 0) (aa (fC (.int 100)) aB))) (fC (.int 64))) (fC (.int 4))) aB)) (.nm 2) (fK CR CP CS CD n))
  (cF (fL iQ (aa (ah 1) (aa (ah 3) (aa (ah 4) (aa (ah 6) (aa (ah 7) (aa (ah 11) aB)))))))))))))))))))))
noncomputable def i5 (CR CP CS CD:Addr) (n:Nat):List Dat->M Dat:=bU 12 1 (oR CR CP CS CD n)
noncomputable def cO (CR CP CS CD:Addr) (n:Nat):ai->M Flo:=
 sIf (fB (f2 eqM (f2 gu (ah 8) (fC (.int 4))) (fC (.int 1))))
   (fW [5] 5 (f2 cn (ah 9) (fL strD (aa (f2 gu (f2 cT (ah 8) (fC (.int 8))) (fC (.int 1000))) aB))))
   cL
noncomputable def bx (CR CP CS CD:Addr) (n:Nat):ai->M Flo:=
 sIf (fOr (fB (f2 gtD (f2 ixD (f2 ixD (ah 2) (ah 6)) (ah 7)) (fC (.int 0)))) (fOr (fB (f2 ltD (f2 gu (ah 8) (fC (.int 4))) (fC (.int 3)))) (fB (f2 eqM (ah 0) (fC (.str "beside"))))))
   (fW [5] 5 (f2 cn (ah 9) (fL strD (aa (f2 ixD (f2 ixD (ah 2) (ah 6)) (ah 7)) aB))))
   cL
noncomputable def cR (CR CP CS CD:Addr) (n:Nat):ai->M Flo:=
 (bg (aW [5] 8 (fL (aO CR CP CS CD n) (aa (ah 3) (aa (f2 cn (f2 cn (ah 4) (f2 si (ah 6) (fL ku (aa (ah 1) aB)))) (ah 7)) aB))))
  (bg (aW [5] 9 (f2 cn (f2 cn (f2 cn (f2 cn (f2 cn (ah 0) (fC (.str " "))) (f2 ixD (ah 1) (ah 6))) (fC (.str " "))) (f2 ixD (ah 1) (ah 7))) (fC (.str " "))))
  (bg (cO CR CP CS CD n)
  (bx CR CP CS CD n))))
noncomputable def cQ (CR CP CS CD:Addr) (n:Nat):ai->M Flo:=
 (pZ [5] (sV tY (aa (fL ku (aa (ah 1) aB)) aB)) (.nm 7) (cR CR CP CS CD n))
noncomputable def iX (CR CP CS CD:Addr) (n:Nat):ai->M Flo:=
 (bg (aW [] 5 (fL cw aB))
  (bg (pZ [5] (sV tY (aa (fL ku (aa (ah 1) aB)) aB)) (.nm 6) (cQ CR CP CS CD n))
  (cF (ah 5))))
noncomputable def bB (CR CP CS CD:Addr) (n:Nat):List Dat->M Dat:=bU 10 5 (iX CR CP CS CD n)
noncomputable def bp (CR CP CS CD:Addr) (n:Nat):ai->M Bool:=
 (fB (f2 neM (ah 4) (fL cw aB)))
noncomputable def bN (CR CP CS CD:Addr) (n:Nat):ai->M Dat:=
 (f2 gu (f2 cT (fL (aO CR CP CS CD n) (aa (ah 1) (aa (f2 cn (ah 2) (fL ku (aa (ah 3) aB))) aB))) (fC (.int 8))) (fL ku (aa (ah 4) aB)))
noncomputable def bL (CR CP CS CD:Addr) (n:Nat):ai->M Bool:=
 (fB (f2 eqM (f2 ixD (ah 4) (ah 5)) (fL cw aB)))
noncomputable def mG (CR CP CS CD:Addr) (n:Nat):ai->M Flo:=
 (bg (aW [] 3 (fL cw aB))
  (sMix 400 3 4 5 (bY (fIt (ah 0)) [none] (.nm 0) (fB (f2 neM (ah 0) (fL cw aB))) (fL kr (aa (ah 0) aB))) (bp CR CP CS CD n) (bN CR CP CS CD n) (bL CR CP CS CD n)
  (cF (ah 3))))
noncomputable def eO (CR CP CS CD:Addr) (n:Nat):List Dat->M Dat:=bU 6 3 (mG CR CP CS CD n)
noncomputable def eK (CR CP CS CD:Addr) (n:Nat):ai->M Flo:=
 (bg (aW [] 5 (f2 cn (fC (.int 1)) (f2 si (f2 gu (f2 cT (ah 1) (fC (.int 32))) (fC (.int 3))) (f2 gu (f2 cT (ah 1) (fC (.int 4))) (fC (.int 2))))))
  (bg (aW [] 3 (f2 cn (f2 cn (ah 3) (ah 4)) (f2 Ay (fC (.str " ")) (ah 5))))
  (aW [] 1 (f2 cT (ah 1) (fC (.int 2))))))
noncomputable def mH (CR CP CS CD:Addr) (n:Nat):ai->M Flo:=
 (bg (aW [] 2 (fSM nI (ah 0) (fC (.str " "))))
  (bg (aW [] 3 (f2 Ay (fC (.str " ")) (f2 si (f2 gu (f2 cT (ah 1) (fC (.int 8))) (fC (.int 3))) (f2 gu (ah 1) (fC (.int 2))))))
  (bg (pZ [] (fIt (ah 2)) (.nm 4) (eK CR CP CS CD n))
  (cF (fSl vo (ah 3) ue (mP (f2 subD (fL AK (aa (ah 3) aB)) (f2 gu (ah 1) (fC (.int 2))))))))))
noncomputable def eP (CR CP CS CD:Addr) (n:Nat):List Dat->M Dat:=bU 6 2 (mH CR CP CS CD n)
noncomputable def fm (CR CP CS CD:Addr) (n:Nat):ai->M Flo:=
 sIf (fB (f2 vV (ah 4) (fC .non)))
   (fW [8] 8 (fL (bB CR CP CS CD n) (aa (fC (.str "beside")) (aa (ah 2) (aa (ah 4) (aa (ah 1) (aa (fC (.int 160)) aB)))))))
   cL
noncomputable def fF (CR CP CS CD:Addr) (n:Nat):ai->M Flo:=
 (fW [8,9] 9 (f2 cn (f2 cn (f2 cn (fC (.str "closed ")) (fL strD (aa (ah 10) aB))) (fC (.str " "))) (fL strD (aa (ah 11) aB))))
noncomputable def fE (CR CP CS CD:Addr) (n:Nat):ai->M Flo:=
 (bg (aW [8,9] 14 (bY (fIt (fSl gT (ah 13) (mP (fC (.int 1))) ue)) [none] (.nm 0) gd (fL strD (aa (ah 0) aB))))
  (fW [8,9] 9 (fSM qh (fC (.str " ")) (f2 cn (fL cw (aa (fC (.str "flight")) (aa (ah 12) (aa (f2 ixD (ah 2) (f2 ixD (ah 13) (fC (.int 0)))) aB)))) (ah 14)))))
noncomputable def ij (CR CP CS CD:Addr) (n:Nat):ai->M Flo:=
 sIf (fB (f2 eqM (f2 gu (ah 17) (fC (.int 8))) (fC (.int 1))))
   (bg (aW [9] 18 (fL cw (aa (fC (.str "")) (aa (fC (.str "   ")) (aa (fC (.str "#")) (aa (fC (.str " # kind zz")) (aa (fC (.str "#kind")) (aa (fC (.str "# flight a")) aB))))))))
  (fW [9] 9 (f2 ixD (ah 18) (f2 gu (f2 cT (ah 17) (fC (.int 8))) (fC (.int 6))))))
   cL
noncomputable def cP (CR CP CS CD:Addr) (n:Nat):ai->M Flo:=
 (bg (vF false 17 (fL (aO CR CP CS CD n) (aa (ah 1) (aa (f2 cn (fC (.int 300)) (fL ku (aa (ah 9) aB))) aB))))
  (bg (ij CR CP CS CD n)
  (fW [9] 9 (fL (eP CR CP CS CD n) (aa (ah 16) (aa (f2 cT (ah 17) (fC (.int 64))) aB))))))
noncomputable def oO (CR CP CS CD:Addr) (n:Nat):ai->M Flo:=
 (bg (tU [] (.tp [2,3,4,5,6,7]) (ah 0))
  (bg (aW [] 8 (fL cw (aa (fL (bB CR CP CS CD n) (aa (fC (.str "gap")) (aa (ah 2) (aa (ah 3) (aa (ah 1) (aa (fC (.int 120)) aB)))))) aB)))
  (bg (fm CR CP CS CD n)
  (bg (aW [8] 9 (fL cw aB))
  (bg (pZ [8,9] (fIt (ah 7)) (.tp [10,11]) (fF CR CP CS CD n))
  (bg (fW [8] 8 (ah 9))
  (bg (aW [8] 9 (fL cw aB))
  (bg (pZ [8,9] (yY (ah 5) (ah 6)) (.tp [12,13]) (fE CR CP CS CD n))
  (bg (fW [8] 8 (ah 9))
  (bg (aW [] 9 (fL cw aB))
  (bg (aW [9] 15 (f2 cn (bY (fIt (ah 2)) [none] (.nm 0) gd (f2 cn (fC (.str "kind ")) (ah 0))) (fL (eO CR CP CS CD n) (aa (ah 8) (aa (ah 1) (aa (fC (.int 200)) aB))))))
  (bg (pZ [9] (fIt (ah 15)) (.nm 16) (cP CR CP CS CD n))
  (cF (f2 cn (fSM qh (fC (.str "\n")) (ah 9)) (f2 Ay (fC (.str "\n")) (f2 gu (f2 cT (fL (aO CR CP CS CD n) (aa (ah 1) (aa (fC (.int 299)) aB))) (fC (.int 8))) (fC (.int 3))))))))))))))))))
noncomputable def i3 (CR CP CS CD:Addr) (n:Nat):List Dat->M Dat:=bU 19 2 (oO CR CP CS CD n)
noncomputable def gO (CR CP CS CD:Addr) (n:Nat):ai->M Flo:=
 sIf (fB (f2 geD (ah 8) (ah 3)))
   (fW [4] 4 (fJ [(f1 lV (ah 0)),(fC (.str " ")),(f1 lV (ah 5)),(fC (.str " ")),(f1 lV (ah 7)),(fC (.str " ")),(f1 lV (ah 8))]))
   cL
noncomputable def cv (CR CP CS CD:Addr) (n:Nat):ai->M Flo:=
 (gO CR CP CS CD n)
noncomputable def eJ (CR CP CS CD:Addr) (n:Nat):ai->M Flo:=
 (pZ [4] (yY (ah 1) (ah 6)) (.tp [7,8]) (cv CR CP CS CD n))
noncomputable def mB (CR CP CS CD:Addr) (n:Nat):ai->M Flo:=
 (bg (aW [] 4 (fL cw aB))
  (bg (pZ [4] (yY (ah 1) (ah 2)) (.tp [5,6]) (eJ CR CP CS CD n))
  (cF (ah 4))))
noncomputable def eM (CR CP CS CD:Addr) (n:Nat):List Dat->M Dat:=bU 9 4 (mB CR CP CS CD n)
noncomputable def kK (CR CP CS CD:Addr) (n:Nat):ai->M Flo:=
 (cF (bY (fIt (ah 0)) [none] (.nm 0) gd (fL kr (aa (ah 0) aB))))
noncomputable def cN (CR CP CS CD:Addr) (n:Nat):List Dat->M Dat:=bU 1 1 (kK CR CP CS CD n)
noncomputable def iz (CR CP CS CD:Addr) (n:Nat):ai->M Flo:=
 (cF (fL (cN CR CP CS CD n) (aa (f1 (bE [CR,CP] "gaps") (ah 0)) aB)))
noncomputable def aS (CR CP CS CD:Addr) (n:Nat):List Dat->M Dat:=bU 1 1 (iz CR CP CS CD n)
noncomputable def jE (CR CP CS CD:Addr) (n:Nat):ai->M Flo:=
 (bg (aW [] 3 (f2 cn (fL cw (aa (fC (.str "flight")) (aa (ah 1) (aa (f2 ixD (ah 0) (f2 ixD (ah 2) (fC (.int 0)))) aB)))) (bY (fIt (fSl gT (ah 2) (mP (fC (.int 1))) ue)) [none] (.nm 0) gd (fL strD (aa (ah 0) aB)))))
  (cF (fSM qh (fC (.str " ")) (ah 3))))
noncomputable def cu (CR CP CS CD:Addr) (n:Nat):List Dat->M Dat:=bU 4 3 (jE CR CP CS CD n)
noncomputable def gH (CR CP CS CD:Addr) (n:Nat):ai->M Flo:=
 (cF (fL (cN CR CP CS CD n) (aa (f1 (bE [CP] "beside") (ah 0)) aB)))
noncomputable def bh (CR CP CS CD:Addr) (n:Nat):List Dat->M Dat:=bU 1 1 (gH CR CP CS CD n)
noncomputable def ic (CR CP CS CD:Addr) (n:Nat):ai->M Flo:=
 sIf (lg (f1 (isiC [(CR,false),(CP,true)]) (ah 1)))
   (zY [5] 5 (fL (eM CR CP CS CD n) (aa (fC (.str "beside")) (aa (ah 0) (aa (iI CP "beside_rows" (bh CR CP CS CD n) (ah 1) aB) (aa (fC (.int 0)) aB))))))
   cL
noncomputable def uB (CR CP CS CD:Addr) (n:Nat):ai->M Flo:=
 (bg (aW [] 5 (bY (fIt (ah 0)) [none] (.nm 0) gd (fJ [(fC (.str "kind ")),(f1 lV (ah 0))])))
  (bg (zY [5] 5 (fL (eM CR CP CS CD n) (aa (fC (.str "gap")) (aa (ah 0) (aa (gW CR CP "gap_rows" (aS CR CP CS CD n) (aS CR CP CS CD n) (ah 1) aB) (aa (fC (.int 1)) aB))))))
  (bg (ic CR CP CS CD n)
  (bg (zY [5] 5 (bY (fIt (ah 4)) [none,none] (.tp [0,1]) gd (fJ [(fC (.str "closed ")),(f1 lV (ah 0)),(fC (.str " ")),(f1 lV (ah 1))])))
  (bg (zY [5] 5 (bY (yY (ah 2) (ah 3)) [none,none,some 0] (.tp [0,1]) gd (fL (cu CR CP CS CD n) (aa (ah 2) (aa (ah 0) (aa (ah 1) aB))))))
  (cF (fSM qh (fC (.str "")) (bY (fIt (ah 5)) [none] (.nm 0) gd (f2 cn (ah 0) (fC (.str "\n")))))))))))
noncomputable def cY (CR CP CS CD:Addr) (n:Nat):List Dat->M Dat:=bU 6 5 (uB CR CP CS CD n)
noncomputable def uD (CR CP CS CD:Addr) (n:Nat):ai->M Flo:=
 (cF (bY (sV tY (aa (ah 2) aB)) [none,some 0,some 1] (.nm 0) gd (uF (ah 1) (fL iQ (aa (ah 2) (aa (ah 0) aB))) (fC (.int 0)))))
noncomputable def iS (CR CP CS CD:Addr) (n:Nat):List Dat->M Dat:=bU 3 3 (uD CR CP CS CD n)
noncomputable def oM (CR CP CS CD:Addr) (n:Nat):ai->M Flo:=
 (cF (bY (sV tY (aa (ah 1) aB)) [none,some 0,some 1] (.nm 0) gd (fL (iS CR CP CS CD n) (aa (ah 1) (aa (ah 0) (aa (ah 2) aB))))))
noncomputable def fZ (CR CP CS CD:Addr) (n:Nat):List Dat->M Dat:=bU 2 2 (oM CR CP CS CD n)
noncomputable def rh (CR CP CS CD:Addr) (n:Nat):ai->M Flo:=
 sIf (fOr (sC (lg (f1 kz (ah 0)))) (lg (f1 iV (ah 0))))
   (cF (fC (.bl false)))
   cL
noncomputable def xN (CR CP CS CD:Addr) (n:Nat):ai->M Flo:=
 (bg (rh CR CP CS CD n)
  (cF (iB leD leD (fC (.int 0)) (ah 0) (fC (.int 1000000)))))
noncomputable def hZ (CR CP CS CD:Addr) (n:Nat):List Dat->M Dat:=bU 1 1 (xN CR CP CS CD n)
noncomputable def mD (CR CP CS CD:Addr) (n:Nat):ai->M Flo:=
 (cF (lY (f1 iU (ah 0)) (lY (f2 eqM (fL ku (aa (ah 0) aB)) (ah 1)) (fL allD (aa (bY (fIt (ah 0)) [none] (.nm 0) gd (fL (hZ CR CP CS CD n) (aa (ah 0) aB))) aB)))))
noncomputable def dm (CR CP CS CD:Addr) (n:Nat):List Dat->M Dat:=bU 2 2 (mD CR CP CS CD n)
noncomputable def iG (CR CP CS CD:Addr) (n:Nat):ai->M Flo:=
 sIf (sC (fB (iB leD leD (fC (.int 1)) (ah 1) (fC (.int 6)))))
   sStk
   cL
noncomputable def iF (CR CP CS CD:Addr) (n:Nat):ai->M Flo:=
 sIf (sC (lg (fL allD (aa (bY (fIt (ah 0)) [none,some 1] (.nm 0) gd (fL (dm CR CP CS CD n) (aa (ah 0) (aa (ah 1) aB)))) aB))))
   sStk
   cL
noncomputable def jF (CR CP CS CD:Addr) (n:Nat):ai->M Flo:=
 (bg (aW [] 1 (fL ku (aa (ah 0) aB)))
  (bg (iG CR CP CS CD n)
  (bg (iF CR CP CS CD n)
  (cF (fL (cN CR CP CS CD n) (aa (ah 0) aB))))))
noncomputable def aD (CR CP CS CD:Addr) (n:Nat):List Dat->M Dat:=bU 2 1 (jF CR CP CS CD n)
noncomputable def eD (CR CP CS CD:Addr) (n:Nat):ai->M Flo:=
 sIf (fB (f2 eqE (f1 (bE [CD] "beside") (ah 0)) (fC (.dic []))))
   (cF (fL (newR CR (aD CR CP CS CD n)) (aa (ah 2) aB)))
   cL
noncomputable def gb (CR CP CS CD:Addr) (n:Nat):ai->M Flo:=
 (bg (aW [] 1 (fL ku (aa (f1 (bE [CD] "kinds") (ah 0)) aB)))
  (bg (aW [] 2 (fL (fZ CR CP CS CD n) (aa (f1 (bE [CD] "gaps") (ah 0)) (aa (ah 1) aB))))
  (bg (eD CR CP CS CD n)
  (cF (fL (newP CP (aD CR CP CS CD n)) (aa (ah 2) (aa (fL (fZ CR CP CS CD n) (aa (f1 (bE [CD] "beside") (ah 0)) (aa (ah 1) aB))) aB)))))))
noncomputable def bW (CR CP CS CD:Addr) (n:Nat):List Dat->M Dat:=bU 3 1 (gb CR CP CS CD n)
noncomputable def ig (CR CP CS CD:Addr) (n:Nat):ai->M Flo:=
 sIf (fOr (fB (f2 gtD (fL AK (aa (ah 0) aB)) (fC (.int 10)))) (sC (lg (fL allD (aa (bY (fItS (ah 0)) [none] (.nm 0) gd (f2 inSD (ah 0) (fC (.str "0123456789")))) aB)))))
   (cF (fC .non))
   cL
noncomputable def ie (CR CP CS CD:Addr) (n:Nat):ai->M Flo:=
 sIf (Bc (fB (f2 eqM (f2 zx (ah 0) (fC (.int 0))) (fC (.str "0")))) (fB (f2 neM (ah 0) (fC (.str "0")))))
   (cF (fC .non))
   cL
noncomputable def oJ (CR CP CS CD:Addr) (n:Nat):ai->M Flo:=
 (bg (ig CR CP CS CD n)
  (bg (ie CR CP CS CD n)
  (cF (fL intSD (aa (ah 0) aB)))))
noncomputable def cH (CR CP CS CD:Addr) (n:Nat):List Dat->M Dat:=bU 1 1 (oJ CR CP CS CD n)
noncomputable def mJ (CR CP CS CD:Addr) (n:Nat):ai->M Flo:=
 sIf (fOr (fB (f2 neM (fL ku (aa (ah 1) aB)) (fC (.int 4)))) (fOr (fB (f2 iy (f2 ixD (ah 1) (fC (.int 1))) (ah 0))) (fB (f2 iy (f2 ixD (ah 1) (fC (.int 2))) (ah 0)))))
   (cF (fC .non))
   cL
noncomputable def qQ (CR CP CS CD:Addr) (n:Nat):ai->M Flo:=
 (bg (mJ CR CP CS CD n)
  (bg (aW [] 2 (fL (cH CR CP CS CD n) (aa (f2 ixD (ah 1) (fC (.int 3))) aB)))
  (cF (fIte (lg (fL (hZ CR CP CS CD n) (aa (ah 2) aB))) (fL iQ (aa (iY (ah 0) (f2 ixD (ah 1) (fC (.int 1)))) (aa (iY (ah 0) (f2 ixD (ah 1) (fC (.int 2)))) (aa (ah 2) aB)))) (fC .non)))))
noncomputable def cM (CR CP CS CD:Addr) (n:Nat):List Dat->M Dat:=bU 3 2 (qQ CR CP CS CD n)
noncomputable def kJ (CR CP CS CD:Addr) (n:Nat):ai->M Flo:=
 (cF (iB leD leD (fC (.int 0)) (ah 0) (fC (.int 1000000000))))
noncomputable def dH (CR CP CS CD:Addr) (n:Nat):List Dat->M Dat:=bU 1 1 (kJ CR CP CS CD n)
noncomputable def g9 (CR CP CS CD:Addr) (n:Nat):ai->M Flo:=
 (bg (aW [] 1 (f2 ixD (ah 0) (fC (.int 1))))
  (bg (aW [] 2 (f2 ixD (ah 0) (fC (.int 2))))
  (cF (lY (f2 leD (ah 1) (ah 2)) (fL allD (aa (bY (fIt (fSl gT (ah 0) (mP (fC (.int 1))) ue)) [none] (.nm 0) gd (fL (dH CR CP CS CD n) (aa (ah 0) aB))) aB))))))
noncomputable def c8 (CR CP CS CD:Addr) (n:Nat):List Dat->M Dat:=bU 3 1 (g9 CR CP CS CD n)
noncomputable def jV (CR CP CS CD:Addr) (n:Nat):ai->M Flo:=
 sIf (fOr (fB (f2 gtD (fL AK (aa (ah 0) aB)) (fC (.int 8)))) (fB (f2 vW (f2 zx (ah 0) (fC (.int 0))) (fC (.str "abcdefghijklmnopqrstuvwxyz")))))
   (cF (fC (.bl false)))
   cL
noncomputable def uC (CR CP CS CD:Addr) (n:Nat):ai->M Flo:=
 (bg (jV CR CP CS CD n)
  (cF (fL allD (aa (bY (fItS (ah 0)) [none] (.nm 0) gd (Bb (f2 inSD (ah 0) (fC (.str "abcdefghijklmnopqrstuvwxyz"))) (f2 inSD (ah 0) (fC (.str "0123456789"))))) aB))))
noncomputable def iR (CR CP CS CD:Addr) (n:Nat):List Dat->M Dat:=bU 1 1 (uC CR CP CS CD n)
noncomputable def j8 (CR CP CS CD:Addr) (n:Nat):ai->M Flo:=
 sIf (fOr (fB (f2 neM (fL ku (aa (ah 2) aB)) (fC (.int 7)))) (fOr (fB (f2 geD (fL ku (aa (ah 1) aB)) (fC (.int 40)))) (fB (f2 iy (f2 ixD (ah 2) (fC (.int 2))) (ah 0)))))
   (cF (fC .non))
   cL
noncomputable def j7 (CR CP CS CD:Addr) (n:Nat):ai->M Flo:=
 sIf (fOr (sC (lg (fL (iR CR CP CS CD n) (aa (f2 ixD (ah 2) (fC (.int 1))) aB)))) (fB (f2 inM (f2 ixD (ah 2) (fC (.int 1))) (ah 1))))
   (cF (fC .non))
   cL
noncomputable def j6 (CR CP CS CD:Addr) (n:Nat):ai->M Flo:=
 sIf (fB (f2 inM (fC .non) (ah 3)))
   (cF (fC .non))
   cL
noncomputable def kI (CR CP CS CD:Addr) (n:Nat):ai->M Flo:=
 (bg (j8 CR CP CS CD n)
  (bg (j7 CR CP CS CD n)
  (bg (aW [] 3 (bY (fIt (fSl gT (ah 2) (mP (fC (.int 3))) ue)) [none] (.nm 0) gd (fL (cH CR CP CS CD n) (aa (ah 0) aB))))
  (bg (j6 CR CP CS CD n)
  (bg (aW [] 4 (fL iQ (aa (iY (ah 0) (f2 ixD (ah 2) (fC (.int 2)))) (aa (f2 ixD (ah 3) (fC (.int 0))) (aa (f2 ixD (ah 3) (fC (.int 1))) (aa (f2 ixD (ah 3) (fC (.int 2))) (aa (f2 ixD (ah 3) (fC (.int 3))) aB)))))))
  (cF (fIte (lg (fL (c8 CR CP CS CD n) (aa (ah 4) aB))) (ah 4) (fC .non))))))))
noncomputable def c7 (CR CP CS CD:Addr) (n:Nat):List Dat->M Dat:=bU 5 3 (kI CR CP CS CD n)
noncomputable def kY (CR CP CS CD:Addr) (n:Nat):ai->M Flo:=
 sIf (fOr (fB (f2 neM (fL ku (aa (ah 1) aB)) (fC (.int 2)))) (fB (f2 geD (fL ku (aa (ah 0) aB)) (fC (.int 6)))))
   (cF (fC .non))
   cL
noncomputable def oI (CR CP CS CD:Addr) (n:Nat):ai->M Flo:=
 (bg (kY CR CP CS CD n)
  (cF (fIte (Bc (lg (fL (iR CR CP CS CD n) (aa (f2 ixD (ah 1) (fC (.int 1))) aB))) (fB (f2 iy (f2 ixD (ah 1) (fC (.int 1))) (ah 0)))) (f2 ixD (ah 1) (fC (.int 1))) (fC .non))))
noncomputable def eh (CR CP CS CD:Addr) (n:Nat):List Dat->M Dat:=bU 2 2 (oI CR CP CS CD n)
noncomputable def mC (CR CP CS CD:Addr) (n:Nat):ai->M Flo:=
 (cF (iZ leD ltD leD (fC (.int 0)) (f2 ixD (ah 0) (fC (.int 0))) (f2 ixD (ah 0) (fC (.int 1))) (fC (.int 1000000000))))
noncomputable def eN (CR CP CS CD:Addr) (n:Nat):List Dat->M Dat:=bU 1 1 (mC CR CP CS CD n)
noncomputable def oK (CR CP CS CD:Addr) (n:Nat):ai->M Flo:=
 (cF (lY (f2 leD (fL ku (aa (ah 0) aB)) (fC (.int 20))) (fL allD (aa (bY (fIt (ah 0)) [none] (.nm 0) gd (fL (eN CR CP CS CD n) (aa (ah 0) aB))) aB))))
noncomputable def i0 (CR CP CS CD:Addr) (n:Nat):List Dat->M Dat:=bU 1 1 (oK CR CP CS CD n)
noncomputable def iE (CR CP CS CD:Addr) (n:Nat):ai->M Flo:=
 sIf (fB (f2 neM (fL ku (aa (ah 1) aB)) (fC (.int 3))))
   (cF (fC .non))
   cL
noncomputable def jD (CR CP CS CD:Addr) (n:Nat):ai->M Flo:=
 (bg (iE CR CP CS CD n)
  (bg (aW [] 2 (fL iQ (aa (fL (cH CR CP CS CD n) (aa (f2 ixD (ah 1) (fC (.int 1))) aB)) (aa (fL (cH CR CP CS CD n) (aa (f2 ixD (ah 1) (fC (.int 2))) aB)) aB))))
  (cF (fIte (Bc (fB (f2 iy (fC .non) (ah 2))) (lg (fL (i0 CR CP CS CD n) (aa (f2 cn (ah 0) (fL cw (aa (ah 2) aB))) aB)))) (ah 2) (fC .non)))))
noncomputable def cq (CR CP CS CD:Addr) (n:Nat):List Dat->M Dat:=bU 3 2 (jD CR CP CS CD n)
noncomputable def aM (CR CP CS CD:Addr) (n:Nat):List Dat->List Dat->M (Bool×List Dat):=
 lq (fOr (fB (f2 eqM (ah 1) (fL cw aB))) (lg (fSM lr (f2 ixD (ah 1) (fC (.int 0))) (fC (.str "#")))))
  (fB (f2 eqM (f2 ixD (ah 1) (fC (.int 0))) (fC (.str "kind"))))
  (fB (f2 eqM (f2 ixD (ah 1) (fC (.int 0))) (fC (.str "gap"))))
  (fB (f2 eqM (f2 ixD (ah 1) (fC (.int 0))) (fC (.str "beside"))))
  (fB (f2 eqM (f2 ixD (ah 1) (fC (.int 0))) (fC (.str "closed")))) (f2 eqM (f2 ixD (ah 1) (fC (.int 0))) (fC (.str "flight")))
  (eh CR CP CS CD n) (cM CR CP CS CD n) (cq CR CP CS CD n) (c7 CR CP CS CD n)
noncomputable def lQ (CR CP CS CD:Addr) (n:Nat):ai->M Flo:=
 (cF (bY (fIt (fSM nI (ah 0) (fC (.str " ")))) [none] (.nm 0) (fB (f2 neM (ah 0) (fC (.str "")))) (ah 0)))
noncomputable def bV (CR CP CS CD:Addr) (n:Nat):List Dat->M Dat:=bU 1 1 (lQ CR CP CS CD n)
noncomputable def eI (CR CP CS CD:Addr) (n:Nat):ai->M Flo:=
 sIf (fB (f2 eqM (f1 (bE [CD] "kinds") (ah 1)) (fL cw aB)))
   sStk
   cL
noncomputable def iW (CR CP CS CD:Addr) (n:Nat):ai->M Flo:=
 (tV CD (aM CR CP CS CD n) (bV CR CP CS CD n) 1 2 3 (fSM nI (ah 0) (fC (.str "\n")))
  (bg (eI CR CP CS CD n)
  (cF (fL (newS CS (cY CR CP CS CD n)) (aa (f1 (bE [CD] "kinds") (ah 1)) (aa (fL (bW CR CP CS CD n) (aa (ah 1) aB)) (aa (f1 (bE [CD] "names") (ah 1)) (aa (f1 (bE [CD] "flights") (ah 1)) (aa (f1 (bE [CD] "closed") (ah 1)) aB)))))))))
noncomputable def bH (CR CP CS CD:Addr) (n:Nat):List Dat->M Dat:=bU 4 1 (iW CR CP CS CD n)
noncomputable def mE (CR CP CS CD:Addr) (n:Nat):ai->M Flo:=
 (cF (lY (f1 kz (ah 0)) (f1 notD (f1 iV (ah 0)))))
noncomputable def gD (CR CP CS CD:Addr) (n:Nat):List Dat->M Dat:=bU 1 1 (mE CR CP CS CD n)
noncomputable def jb (CR CP CS CD:Addr) (n:Nat):ai->M Flo:=
 sIf (fOr (sC (lg (f1 iU (ah 0)))) (fB (f2 neM (ah 0) (ah 1))))
   (cF (fC (.bl false)))
   cL
noncomputable def ja (CR CP CS CD:Addr) (n:Nat):ai->M Flo:=
 sIf (fOr (sC (lg (f1 jl (ah 3)))) (fB (f2 neM (fL ku (aa (ah 3) aB)) (ah 2))))
   (cF (fC (.bl false)))
   cL
noncomputable def j9 (CR CP CS CD:Addr) (n:Nat):ai->M Flo:=
 sIf (sC (lg (fL allD (aa (bY (fIt (ah 3)) [none] (.nm 0) gd (fL (gD CR CP CS CD n) (aa (ah 0) aB))) aB))))
   (cF (fC (.bl false)))
   cL
noncomputable def dO (CR CP CS CD:Addr) (n:Nat):ai->M Flo:=
 (bg (ja CR CP CS CD n)
  (j9 CR CP CS CD n))
noncomputable def kL (CR CP CS CD:Addr) (n:Nat):ai->M Flo:=
 (bg (jb CR CP CS CD n)
  (bg (pZ [] (fIt (ah 0)) (.nm 3) (dO CR CP CS CD n))
  (cF (fC (.bl true)))))
noncomputable def c9 (CR CP CS CD:Addr) (n:Nat):List Dat->M Dat:=bU 4 3 (kL CR CP CS CD n)
noncomputable def gc (CR CP CS CD:Addr) (n:Nat):ai->M Flo:=
 (cF (fC (.int 1)))
noncomputable def cf (CR CP CS CD:Addr) (n:Nat):List Dat->M Dat:=bU 1 1 (gc CR CP CS CD n)
noncomputable def gF (CR CP CS CD:Addr) (n:Nat):ai->M Flo:=
 (cF (fC (.int 2)))
noncomputable def cE (CR CP CS CD:Addr) (n:Nat):List Dat->M Dat:=bU 1 1 (gF CR CP CS CD n)
noncomputable def jZ (CR CP CS CD:Addr) (n:Nat):ai->M Flo:=
 sIf (sC (lg (f1 (isiC [(CS,true)]) (ah 0))))
   (cF (fC (.bl false)))
   cL
noncomputable def jY (CR CP CS CD:Addr) (n:Nat):ai->M Flo:=
 sIf (fOr (fB (f2 neM (f1 (bE [CS] "kinds") (ah 0)) (ah 2))) (fB (f2 neM (f1 (bE [CS] "names") (ah 0)) (ah 5))))
   (cF (fC (.bl false)))
   cL
noncomputable def jX (CR CP CS CD:Addr) (n:Nat):ai->M Flo:=
 sIf (fOr (sC (lg (fL (c9 CR CP CS CD n) (aa (f1 (bE [CS] "flights") (ah 0)) (aa (ah 6) (aa (fC (.int 5)) aB)))))) (sC (lg (fL (c9 CR CP CS CD n) (aa (f1 (bE [CS] "closed") (ah 0)) (aa (ah 7) (aa (fC (.int 2)) aB)))))))
   (cF (fC (.bl false)))
   cL
noncomputable def jW (CR CP CS CD:Addr) (n:Nat):ai->M Flo:=
 sIf (fOr (fB (f2 neM (gW CR CP "gap_rows" (aS CR CP CS CD n) (aS CR CP CS CD n) (f1 (bE [CS] "rules") (ah 0)) aB) (ah 3))) (fB (f2 neM (gW CR CP "many_strips" (cf CR CP CS CD n) (cE CR CP CS CD n) (f1 (bE [CS] "rules") (ah 0)) aB) (f2 cn (fC (.int 1)) (fL intD (aa (f2 vV (ah 4) (fC .non)) aB))))))
   (cF (fC (.bl false)))
   cL
noncomputable def oQ (CR CP CS CD:Addr) (n:Nat):ai->M Flo:=
 (bg (tU [] (.tp [2,3,4,5,6,7]) (ah 1))
  (bg (jZ CR CP CS CD n)
  (bg (jY CR CP CS CD n)
  (bg (jX CR CP CS CD n)
  (bg (jW CR CP CS CD n)
  (cF (Bb (f2 isND (ah 4) (fC .non)) (f2 eqM (iI CP "beside_rows" (bh CR CP CS CD n) (f1 (bE [CS] "rules") (ah 0)) aB) (ah 4)))))))))
noncomputable def g7 (CR CP CS CD:Addr) (n:Nat):List Dat->M Dat:=bU 8 2 (oQ CR CP CS CD n)
noncomputable def nF (CR CP CS CD:Addr) (n:Nat):ai->M Bool:=
 (sC (lg (fL (g7 CR CP CS CD n) (aa (ah 3) (aa (ah 1) aB)))))
noncomputable def g_law (CR CP CS CD:Addr) (n:Nat):ai->M Flo:=
 (bg (aW [] 1 (fL (i5 CR CP CS CD n) (aa (ah 0) aB)))
  (bg (aW [] 2 (fL (i3 CR CP CS CD n) (aa (ah 1) (aa (ah 0) aB))))
  (vG CS "kinds" "flights" "closed" 3 (fL (bH CR CP CS CD n) (aa (ah 2) aB)) (nF CR CP CS CD n) (fL iQ (aa (fC (.int 0)) (aa (fC (.int 1)) aB)))
  (cF (fL (g7 CR CP CS CD n) (aa (fL (bH CR CP CS CD n) (aa (ah 2) aB)) (aa (ah 1) aB)))))))
noncomputable def m_law (CR CP CS CD:Addr) (n:Nat):List Dat->M Dat:=bU 4 1 (g_law CR CP CS CD n)
noncomputable def top (i:Nat):Stmt:=PySem.Challenge.pw_wakeorder_k70_sheets_read.main.body.getD i (.Pass ⟨0,0,0,0⟩)
noncomputable abbrev rO:Stmt:=top 52
noncomputable abbrev vD:Stmt:=top 53
noncomputable abbrev pX:Stmt:=top 51
noncomputable abbrev ke:Stmt:=top 54
noncomputable abbrev yz:Stmt:=top 55
noncomputable abbrev vB:Stmt:=top 56
noncomputable abbrev vE:Stmt:=top 57
noncomputable abbrev nL:Stmt:=top 61
noncomputable abbrev tQ:Stmt:=top 62
noncomputable abbrev tT:Stmt:=top 63
noncomputable abbrev vC:Stmt:=top 64
noncomputable abbrev tL:Stmt:=top 37
noncomputable abbrev rM:Stmt:=top 20
noncomputable abbrev iu:Stmt:=inClass (top 22) 4
noncomputable abbrev pW:Stmt:=top 38
noncomputable abbrev kg:Stmt:=inClass (top 23) 3
noncomputable abbrev tK:Stmt:=top 39
noncomputable abbrev zW:Stmt:=top 46
noncomputable abbrev vA:Stmt:=top 47
noncomputable abbrev s_is_gap:Stmt:=top 18
noncomputable abbrev tO:Stmt:=top 19
noncomputable abbrev gK:Stmt:=top 21
noncomputable abbrev nK:Stmt:=top 48
noncomputable abbrev vq:Stmt:=top 42
noncomputable abbrev vt:Stmt:=top 31
noncomputable abbrev yw:Stmt:=top 33
noncomputable abbrev yy:Stmt:=top 43
noncomputable abbrev rL:Stmt:=top 8
noncomputable abbrev jJ:Stmt:=top 9
noncomputable abbrev zV:Stmt:=top 30
noncomputable abbrev rJ:Stmt:=top 35
noncomputable abbrev rK:Stmt:=top 44
noncomputable abbrev vp:Stmt:=top 32
noncomputable abbrev tN:Stmt:=top 13
noncomputable abbrev vv:Stmt:=top 14
noncomputable abbrev pV:Stmt:=top 34
noncomputable abbrev yx:Stmt:=top 45
noncomputable abbrev yv:Stmt:=top 29
noncomputable abbrev tM:Stmt:=top 49
noncomputable abbrev tP:Stmt:=top 58
noncomputable abbrev rN:Stmt:=top 59
noncomputable abbrev jK:Stmt:=inClass (top 22) 2
noncomputable abbrev kf:Stmt:=inClass (top 23) 1
noncomputable abbrev zX:Stmt:=top 60
noncomputable abbrev s_law:Stmt:=top 65
noncomputable abbrev s_nR:Stmt:=inClass (top 22) 0
noncomputable abbrev s_nP:Stmt:=inClass (top 23) 0
noncomputable abbrev s_nS:Stmt:=inClass (top 40) 0
noncomputable abbrev s_nD:Stmt:=inClass (top 41) 0
structure Zs (K:Fg) (mg:Mq) (CR CP CS CD:Addr):Prop where
 kR:Kls K mg "Rules" CR
 kP:Kls K mg "Pair" CP
 kS:Kls K mg "Sheet" CS
 kD:Kls K mg "Draft" CD
 ki_CR_CP:kitOne K (.ref CR) (.ref CP)=some false
 ki_CP_CP:kitOne K (.ref CP) (.ref CP)=some true
 ki_CS_CS:kitOne K (.ref CS) (.ref CS)=some true
 kN:∀C∈[CR,CP],Cls K C/\aV K C "gaps"
 qV:∀C∈[CP],Cls K C/\aV K C "beside"
 qU:∀C∈[CS],Cls K C/\aV K C "closed"
 oX:∀C∈[CS],Cls K C/\aV K C "flights"
 oW:∀C∈[CS],Cls K C/\aV K C "kinds"
 B9:∀C∈[CS],Cls K C/\aV K C "names"
 oV:∀C∈[CS],Cls K C/\aV K C "rules"
 naS:∀y∈(["kinds","rules","names","flights","closed","text"]:List Str),aV K CS y
 vi:mg "all"=none
 z_bool:mg "bool"=none
 vh:mg "enumerate"=none
 z_int:mg "int"=none
 bF:mg "isinstance"=none
 dv:mg "len"=none
 sW:mg "list"=none
 fQ:mg "range"=none
 x9:mg "sorted"=none
 yi:mg "str"=none
 z_tuple:mg "tuple"=none
 z_zip:mg "zip"=none
 qk:∃t,mg "GREATEST_GAP"=some (.int 1000000 t)
 lR:∃t,mg "GREATEST_NUMBER"=some (.int 1000000000 t)
 oS:∃t,mg "GREATEST_STOP"=some (.int 1000000000 t)
 qj:∃t,mg "MOST_FIGURES"=some (.int 10 t)
 qi:∃t,mg "MOST_FLIGHTS"=some (.int 40 t)
 mI:∃t,mg "MOST_KINDS"=some (.int 6 t)
 uE:∃t,mg "MOST_SIGNS"=some (.int 8 t)
 mT:∃t,mg "MOST_STRETCHES"=some (.int 20 t)
 kit:Kit K
 x_nl:Au K=true
 gs_FIGURES:∃t,mg "FIGURES"=some (.str "0123456789" t)
 gs_LETTERS:∃t,mg "LETTERS"=some (.str "abcdefghijklmnopqrstuvwxyz" t)
 n_D:∃f fd,Mth K CD "__init__" "Draft.__init__" s_nD ["self"] f fd
 naD:∀y∈(["kinds","gaps","beside","names","flights","closed"]:List Str),aV K CD y
 fldD_beside:∀C∈[CD],Cls K C/\aV K C "beside"
 fldD_closed:∀C∈[CD],Cls K C/\aV K C "closed"
 fldD_flights:∀C∈[CD],Cls K C/\aV K C "flights"
 fldD_gaps:∀C∈[CD],Cls K C/\aV K C "gaps"
 fldD_kinds:∀C∈[CD],Cls K C/\aV K C "kinds"
 fldD_names:∀C∈[CD],Cls K C/\aV K C "names"
 wx:∃f fd,Def K mg "take_told" vq ["kept","told"] f fd
 ze:∃f fd,Def K mg "take_gap" yy ["kinds","gaps","words"] f fd
 sJ:∃f fd,Def K mg "take_flight" rK ["draft","words"] f fd
 zd:∃f fd,Def K mg "take_row" yx ["draft","words"] f fd
 sP:∃f fd,Def K mg "_law_number" rO ["_law_script","_law_k"] f fd
 wI:∃f fd,Def K mg "_law_name" vD ["_law_number_here","_law_k"] f fd
 qq:∃f fd,Def K mg "_law_cell_at" pX ["_law_script","_law_k"] f fd
 kT:∃f fd,Def K mg "_law_flight_name" ke ["_law_number_here","_law_k"] f fd
 zg:∃f fd,Def K mg "_law_gap" yz ["_law_number_here"] f fd
 wD:∃f fd,Def K mg "_law_time" vB ["_law_number_here"] f fd
 wJ:∃f fd,Def K mg "_law_data" vE ["_law_script"] f fd
 pE:∃f fd,Def K mg "_law_gap_rows" nL ["_law_word","_law_kinds","_law_rows","_law_script","_law_start"] f fd
 uT:∃f fd,Def K mg "_law_mixed" tQ ["_law_sorts","_law_script","_law_start"] f fd
 uU:∃f fd,Def K mg "_law_loose" tT ["_law_row","_law_number_here"] f fd
 wH:∃f fd,Def K mg "_law_text" vC ["_law_data_here","_law_script"] f fd
 uO:∃f fd,Def K mg "shown_gaps" tL ["word","kinds","rows","least"] f fd
 sN:∃f fd,Def K mg "copied_rows" rM ["rows"] f fd
 qo:∃f fd,Def K mg "shown_flight" pW ["kinds","name","flight"] f fd
 Bp:∃f fd,Def K mg "text_of" tK ["kinds","rules","names","flights","closed"] f fd
 Br:∃f fd,Def K mg "gap_row" zW ["gaps","kind","many"] f fd
 wA:∃f fd,Def K mg "gap_table" vA ["gaps","many"] f fd
 d_is_gap:∃f fd,Def K mg "is_gap" s_is_gap ["number"] f fd
 uR:∃f fd,Def K mg "is_gap_row" tO ["row","kinds"] f fd
 qp:∃f fd,Def K mg "checked_rows" gK ["rows"] f fd
 pD:∃f fd,Def K mg "drafted_rules" nK ["draft"] f fd
 wy:∃f fd,Def K mg "number_of" vt ["word"] f fd
 zc:∃f fd,Def K mg "told_gap" yw ["kinds","words"] f fd
 sM:∃f fd,Def K mg "is_in_range" rL ["number"] f fd
 jT:∃f fd,Def K mg "has_right_numbers" jJ ["flight"] f fd
 Bq:∃f fd,Def K mg "is_name" zV ["word"] f fd
 sI:∃f fd,Def K mg "told_flight" rJ ["kinds","names","words"] f fd
 wu:∃f fd,Def K mg "told_kind" vp ["kinds","words"] f fd
 uQ:∃f fd,Def K mg "is_stretch" tN ["stretch"] f fd
 wz:∃f fd,Def K mg "is_closed" vv ["closed"] f fd
 qm:∃f fd,Def K mg "told_stretch" pV ["closed","words"] f fd
 zb:∃f fd,Def K mg "words_of" yv ["row"] f fd
 uP:∃f fd,Def K mg "read_sheet" tM ["text"] f fd
 uS:∃f fd,Def K mg "_law_whole" tP ["_law_found"] f fd
 sO:∃f fd,Def K mg "_law_tuples" rN ["_law_found","_law_due","_law_long"] f fd
 Bt:∃f fd,Def K mg "_law_is" zX ["_law_sheet","_law_data_here"] f fd
 d_law:∃f fd,Def K mg "law" s_law ["_law_script"] f fd/\∀(s:Shared) (v:Value),BindsTo s fd ⟨[v],[]⟩ [("_law_script",v)]
 m_M_R_gap_rows:∃f fd,Mth K CR "gap_rows" "Rules.gap_rows" iu ["self"] f fd
 m_M_P_gap_rows:∃f fd,Mth K CP "gap_rows" "Rules.gap_rows" iu ["self"] f fd
 m_M_P_beside_rows:∃f fd,Mth K CP "beside_rows" "Pair.beside_rows" kg ["self"] f fd
 m_M_R_many_strips:∃f fd,Mth K CR "many_strips" "Rules.many_strips" jK ["self"] f fd
 m_M_P_many_strips:∃f fd,Mth K CP "many_strips" "Pair.many_strips" kf ["self"] f fd
 n_P:∃f fd,Mth K CP "__init__" "Pair.__init__" s_nP ["self","gaps","beside"] f fd
 n_R:∃f fd,Mth K CR "__init__" "Rules.__init__" s_nR ["self","gaps"] f fd/\Stat K CR (.type "type") "__init__" f
 n_S:∃f fd,Mth K CS "__init__" "Sheet.__init__" s_nS ["self","kinds","rules","names","flights","closed"] f fd
 ne:CR≠CP
noncomputable abbrev Zq (_:Nat) (_:Program) (_:World) (_:Heap):=Zs
theorem law_d {K:Fg} {st:Stmt} {q:FuncData->Prop} (h:∃f fd,Def K mg x st ps f fd/\q fd):∃f fd,Def K mg x st ps f fd:=let ⟨f,fd,D,_⟩:=h;⟨f,fd,D⟩
theorem putGB (a b:V):qC ("beside":Str) b [(("gaps":Str),a)]=[(("gaps":Str),a),(("beside":Str),b)]:=by
 show (if ("gaps":Str)="beside" then _ else (("gaps":Str),a)::qC "beside" b [])=_;rw [if_neg (by decide +kernel)];rfl
section
variable {w:World} {base:Heap} {K:Fg} {CR:Addr} (Z:Zq n P w base K mg CR CP CS CD)
include Z
theorem b8:YO Z.sP P w base 1 false (aO CR CP CS CD n):=
 fY ["_law_script","_law_k","_law_cells","_law_cell","_law_number_here"] fun z nd hr=>(aj (cj nd (ax (za x_sl (ao 0) m8 (m7 ae)))) (aj (cj nd (ax (av bA (av jP ae (ao 1)) ae))) (aj (de (aU o_gt (aF eY Z.dv PySem.boot_len (da1 (ao 2))) ae) (aw (cj nd (av bR (aZ eW (ao 2) (av bR (ao 1) (aF eY Z.dv PySem.boot_len (da1 (ao 2))))) (av o_pow ae ae)))) bC) (aj (cj nd (av bR (av jP (ax (av bA (ax (av bA (ao 3) (av jP (av jP (ao 1) (ao 1)) ae))) (aF eY Z.dv PySem.boot_len (da1 (ao 2))))) ae) ae)) (aw (aH (av bR (ax (av bA (av jP (ao 4) ae) ae)) ae)))))))
theorem uk:YO Z.wI P w base 1 false (i4 CR CP CS CD n):=
 fY ["_law_number_here","_law_k","_law_letters","_law_name_here","_law_j"] fun z nd hr=>(aj (cj nd aP) (aj (cj nd (ax (av bA (aZ sX (ao 2) (av bR (ao 0) ae)) (aZ sX (ao 2) (av bR (ao 1) ae))))) (aj (gf (pt:=.nm 4) (gg Z.fQ (da1 (av bR (av bG (ao 0) ae) ae))) (pf nd) (aj (cj nd (ax (av bA (ax (av bA (av jP (ao 0) (ao 0)) (av jP ae (ao 0)))) (ao 4)))) (aj (cj nd (av bR (ao 0) ae)) (aw (cj nd (ax (av bA (ao 3) (aZ sX (ax (av bA (ao 2) aP)) (av bR (av bG (ao 0) ae) ae))))))))) (aw (aH (ao 3))))))
theorem dD:YO Z.qq P w base 1 false (bq CR CP CS CD n):=
 fY ["_law_script","_law_k"] fun z nd hr=>(aj (de (aU o_lt (ao 1) (aF eY Z.dv PySem.boot_len (da1 (ao 0)))) (aw (aH (av bR (aZ eW (ao 0) (ao 1)) (av o_pow ae ae)))) bC) (aw (aH ae)))
theorem jO:YO Z.kT P w base 1 false (cC CR CP CS CD n):=
 fY ["_law_number_here","_law_k","_law_name_here","_law_j"] fun z nd hr=>(aj (cj nd (ax (av bA (aZ sX aP (av bR (ao 1) ae)) (aZ sX aP (av bG (ao 1) ae))))) (aj (gf (pt:=.nm 3) (gg Z.fQ (da1 (av bR (av bG (ao 0) ae) ae))) (pf nd) (aj (cj nd (ax (av bA (ax (av bA (av jP (ao 0) (ao 0)) (av jP ae (ao 0)))) (ao 3)))) (aj (cj nd (av bR (ao 0) ae)) (aw (cj nd (ax (av bA (ao 2) (aZ sX aP (av bR (av bG (ao 0) ae) ae))))))))) (aw (aH (ao 2)))))
theorem o9:YO Z.zg P w base 1 false (eA CR CP CS CD n):=
 fY ["_law_number_here"] fun z nd hr=>(aw (aH (aZ eW (ax (bZ (da4 (av bR (av bG (ao 0) ae) ae) (av bR (av bG (ao 0) ae) (ax (av bA (av o_pow ae ae) ae))) ae (av bR (av bG (ao 0) ae) ae)))) (av bR (ao 0) ae))))
theorem dj:YO Z.wD P w base 1 false (cb CR CP CS CD n):=
 fY ["_law_number_here"] fun z nd hr=>(aw (aH (aZ eW (ax (bZ (da3 (av bR (av bG (ao 0) ae) ae) (av bR (av bG (ao 0) ae) (ax (av bA (av o_pow ae ae) ae))) (av bR (av bG (ao 0) ae) ae)))) (av bR (ao 0) ae))))
theorem um:YO Z.wJ P w base 2 false (i5 CR CP CS CD n):=
 fY ["_law_script","_law_kinds","_law_k","_law_gaps","_law_beside","_law_row","_law_names","_law_flights","_law_many","_law_number_here","_law_times","_law_closed"] fun z nd hr=>(aj (lZ nd (bZ cS)) (aj (gf (pt:=.nm 2) (gg Z.fQ (da1 (ax (av bA ae (av bR (av bR (av jP (dY (dD Z) hr (da2 (ao 0) ae)) ae) ae) ae))))) (pf nd) (aw (cU (i:=1) (dY (uk Z) hr (da2 (dY (b8 Z) hr (da2 (ao 0) (ao 2))) (ao 2)))))) (ck (O2:=[]) (aj (lZ nd (bZ cS)) (aj (lZ nd (bZ cS)) (ck (O2:=[3,4]) (aj (gf (pt:=.nm 2) (gg Z.fQ (da1 (aF eY Z.dv PySem.boot_len (da1 (ao 1))))) (pf nd) (aj (n9 (i:=5) false ["_law_j","_law_script","_law_kinds","_law_k"] [none,some 0,some 1,some 2] nd (gg Z.fQ (da1 (aF eY Z.dv PySem.boot_len (da1 (ao 1))))) (fun _ _ _ _ _=>d7 (by decide +kernel)) (aI rfl) (fun _ _ _ _ _=>bO) (fun _ _ _ _ _=>(dY (b8 Z) hr (da2 (ao 1) (ax (av bA (ax (av bA ae (av jP (ao 3) (aF eY Z.dv PySem.boot_len (da1 (ao 2)))))) (ao 0))))))) (aj (cU (i:=3) (ax (cA ["_law_number_here"] [none] (d6 (ao 5)) (fun _ _ _ _ _=>d7 (by decide +kernel)) (aI rfl) (fun _ _ _ _ _=>bO) (fun _ _ _ _ _=>(dY (o9 Z) hr (da1 (ao 0))))))) (aw (cU (i:=4) (ax (cA ["_law_number_here"] [none] (d6 (ao 5)) (fun _ _ _ _ _=>d7 (by decide +kernel)) (aI rfl) (fun _ _ _ _ _=>bO) (fun _ _ _ _ _=>(dY (o9 Z) hr (da1 (av bG (ao 0) ae))))))))))) (ck (O2:=[]) (aj (de (aU (uo hr.units) (av bR (dY (dD Z) hr (da2 (ao 0) ae)) ae) ae) (aw (cj nd dU)) bC) (aj (lZ nd (bZ cS)) (aj (lZ nd (bZ cS)) (ck (O2:=[6,7]) (aj (cj nd (av bR (av bR (av jP (dY (dD Z) hr (da2 (ao 0) ae)) ae) ae) ae)) (aj (de (aU (uo hr.units) (av bR (av bG (dY (dD Z) hr (da2 (ao 0) ae)) ae) ae) ae) (aw (cj nd ae)) bC) (aj (gf (pt:=.nm 2) (gg Z.fQ (da1 (ao 8))) (pf nd) (aj (cj nd (dY (b8 Z) hr (da2 (ao 0) (ax (av bA ae (ao 2)))))) (aj (cj nd (ax (aF ya Z.x9 boot_sorted (da1 (ax (bZ (da2 (dY (dj Z) hr (da1 (ao 9))) (dY (dj Z) hr (da1 (av bG (ao 9) ae)))))))))) (aj (cU (i:=6) (dY (jO Z) hr (da2 (av bG (ao 9) ae) (ao 2)))) (aw (cU (i:=7) (kQ (da5 (av bR (ao 9) (aF eY Z.dv PySem.boot_len (da1 (ao 1)))) (aZ eW (ao 10) ae) (aZ eW (ao 10) ae) (dY (dj Z) hr (da1 (av bG (ao 9) ae))) (dY (dj Z) hr (da1 (av bG (ao 9) ae))))))))))) (ck (O2:=[]) (aj (lZ nd (bZ cS)) (aj (gf (pt:=.nm 2) (gg Z.fQ (da1 (av bR (av bG (dY (b8 Z) hr (da2 (ao 0) ae)) ae) ae))) (pf nd) (aj (cj nd (ax (aF ya Z.x9 boot_sorted (da1 (ax (bZ (da2 (dY (dj Z) hr (da1 (dY (b8 Z) hr (da2 (ao 0) (ax (av bA ae (ao 2))))))) (dY (dj Z) hr (da1 (dY (b8 Z) hr (da2 (ao 0) (ax (av bA ae (ao 2)))))))))))))) (aw (cU (i:=11) (kQ (da2 (av bG (aZ eW (ao 10) ae) ae) (ax (av bA (av bG (aZ eW (ao 10) ae) ae) ae)))))))) (ck (O2:=[]) (aw (aH (kQ (da6 (ao 1) (ao 3) (ao 4) (ao 6) (ao 7) (ao 11))))))))))))))))))))))))
theorem iw:YO Z.pE P w base 2 false (bB CR CP CS CD n):=
 fY ["_law_word","_law_kinds","_law_rows","_law_script","_law_start","_law_told","_law_k","_law_j","_law_number_here","_law_head"] fun z nd hr=>(aj (lZ nd (bZ cS)) (aj (gf (pt:=.nm 6) (gg Z.fQ (da1 (aF eY Z.dv PySem.boot_len (da1 (ao 1))))) (pf nd) (aw (gf (pt:=.nm 7) (gg Z.fQ (da1 (aF eY Z.dv PySem.boot_len (da1 (ao 1))))) (pf nd) (aj (cj nd (dY (b8 Z) hr (da2 (ao 3) (ax (av bA (ax (av bA (ao 4) (av jP (ao 6) (aF eY Z.dv PySem.boot_len (da1 (ao 1)))))) (ao 7)))))) (aj (cj nd (ax (av bA (ax (av bA (ax (av bA (ax (av bA (ax (av bA (ao 0) aP)) (aZ eW (ao 1) (ao 6)))) aP)) (aZ eW (ao 1) (ao 7)))) aP))) (aj (de (aU (uo hr.units) (av bR (ao 8) ae) ae) (aw (cU (i:=5) (ax (av bA (ao 9) (d8 zm Z.yi PyProof.Rows.boot_str (da1 (av bR (av bG (ao 8) ae) ae))))))) bC) (aw (de (PW.pt (j3 (aU o_gt (aZ eW (aZ eW (ao 2) (ao 6)) (ao 7)) ae) (j3 (aU o_lt (av bR (ao 8) ae) ae) (gJ (aU (uo hr.units) (ao 0) aP))))) (aw (cU (i:=5) (ax (av bA (ao 9) (d8 zm Z.yi PyProof.Rows.boot_str (da1 (aZ eW (aZ eW (ao 2) (ao 6)) (ao 7)))))))) bC)))))))) (ck (O2:=[]) (aw (aH (ao 5))))))
theorem s9:YO Z.uT P w base 2 false (eO CR CP CS CD n):=
 fY ["_law_sorts","_law_script","_law_start","_law_rows","_law_left","_law_at"] fun z nd hr=>(aj (lZ nd (bZ cS)) (ds_mix (ir:=3) (il:=4) (ia:=5) 400 ["_law_sort"] [none] nd (d6 (ao 0)) (fun _ _ _ _ _=>d7 (by decide +kernel)) (aI rfl) (fun _ _ _ _ _=>Ae (aU (xv hr.units) (ao 0) (ax (bZ cS)))) (fun _ _ _ _ _=>(d8 c_list Z.sW PyProof.Rows.boot_list (da1 (ao 0)))) AH (aU (xv hr.units) (ao 4) (ax (bZ cS))) (by refine pb_mix nd ?_ ?_;exact (av bR (av bG (dY (b8 Z) hr (da2 (ao 1) (ax (av bA (ao 2) (aF eY Z.dv PySem.boot_len (da1 (ao 3))))))) ae) (aF eY Z.dv PySem.boot_len (da1 (ao 4))));exact (aU (uo hr.units) (aZ eW (ao 4) (ao 5)) (ax (bZ cS)))) (ck (O2:=[]) (aw (aH (ao 3))))))
theorem sd:YO Z.uU P w base 1 false (eP CR CP CS CD n):=
 fY ["_law_row","_law_number_here","_law_words","_law_text_here","_law_word","_law_blanks"] fun z nd hr=>(aj (cj nd (ax (uK sj PySem.F.slot_str_split PySem.F.type_str_split (ao 0) aP))) (aj (cj nd (av Ar aP (av jP (av bR (av bG (ao 1) ae) ae) (av bR (ao 1) ae)))) (aj (gf (pt:=.nm 4) (d6 (ao 2)) (pf nd) (aj (cj nd (ax (av bA ae (av jP (av bR (av bG (ao 1) ae) ae) (av bR (av bG (ao 1) ae) ae))))) (aj (cj nd (ax (av bA (ax (av bA (ao 3) (ao 4))) (av Ar aP (ao 5))))) (aw (cj nd (av bG (ao 1) ae)))))) (aw (aH (za x_slS (ao 3) m8 (m7 (av o_sub (aF Bz Z.dv PySem.boot_len (da1 (ao 3))) (av bR (ao 1) ae)))))))))
theorem uj:YO Z.wH P w base 3 false (i3 CR CP CS CD n):=
 fY ["_law_data_here","_law_script","_law_kinds","_law_gaps","_law_beside","_law_names","_law_flights","_law_closed","_law_sorts","_law_rows","_law_start","_law_stop","_law_name_here","_law_flight","_law_numbers","_law_some","_law_row","_law_number_here","_law_odd"] fun z nd hr=>(aj (Bg (ao 0) (uJ rfl (bj (i:=2) nd (bj (i:=3) nd (bj (i:=4) nd (bj (i:=5) nd (bj (i:=6) nd (bj (i:=7) nd j4)))))))) (aj (lZ nd (bZ (da1 (dY (iw Z) hr (da5 aP (ao 2) (ao 3) (ao 1) ae))))) (aj (de (aU o_notN (ao 4) dU) (aw (cU (i:=8) (dY (iw Z) hr (da5 aP (ao 2) (ao 4) (ao 1) ae)))) bC) (aj (lZ nd (bZ cS)) (ck (O2:=[8,9]) (aj (gf (pt:=.tp [10,11]) (d6 (ao 7)) (uJ rfl (bj (i:=10) nd (bj (i:=11) nd j4))) (aw (cU (i:=9) (ax (av bA (ax (av bA (ax (av bA aP (d8 zm Z.yi PyProof.Rows.boot_str (da1 (ao 10))))) aP)) (d8 zm Z.yi PyProof.Rows.boot_str (da1 (ao 11)))))))) (ck (O2:=[8]) (aj (cU (i:=8) (ao 9)) (aj (lZ nd (bZ cS)) (ck (O2:=[8,9]) (aj (gf (pt:=.tp [12,13]) (xU Z.z_zip (ao 5) (ao 6)) (uJ rfl (bj (i:=12) nd (bj (i:=13) nd j4))) (aj (n9 (i:=14) false ["_law_number_here"] [none] nd (d6 (ax (za x_sl (ao 13) (m7 ae) m8))) (fun _ _ _ _ _=>d7 (by decide +kernel)) (aI rfl) (fun _ _ _ _ _=>bO) (fun _ _ _ _ _=>(d8 zm Z.yi PyProof.Rows.boot_str (da1 (ao 0))))) (aw (cU (i:=9) (uK sm PySem.F.slot_str_join PySem.F.type_str_join aP (ax (av bA (ax (bZ (da3 aP (ao 12) (aZ eW (ao 2) (aZ eW (ao 13) ae))))) (ao 14)))))))) (ck (O2:=[8]) (aj (cU (i:=8) (ao 9)) (ck (O2:=[]) (aj (lZ nd (bZ cS)) (aj (cj nd (ax (av bA (ax (cA ["_law_kind"] [none] (d6 (ao 2)) (fun _ _ _ _ _=>d7 (by decide +kernel)) (aI rfl) (fun _ _ _ _ _=>bO) (fun _ _ _ _ _=>(ax (av bA aP (ao 0)))))) (dY (s9 Z) hr (da3 (ao 8) (ao 1) ae))))) (aj (gf (pt:=.nm 16) (d6 (ao 15)) (pf nd) (aj (ds_setA (i:=17) (own:=false) nd (dY (b8 Z) hr (da2 (ao 1) (ax (av bA ae (aF eY Z.dv PySem.boot_len (da1 (ao 9)))))))) (aj (de (aU (uo hr.units) (av bR (ao 17) ae) ae) (aj (cj nd (ax (bZ (da6 aP aP aP aP aP aP)))) (aw (cU (i:=9) (aZ eW (ao 18) (av bR (av bG (ao 17) ae) ae))))) bC) (aw (cU (i:=9) (dY (sd Z) hr (da2 (ao 16) (av bG (ao 17) ae)))))))) (ck (O2:=[]) (aw (aH (ax (av bA (uK sm PySem.F.slot_str_join PySem.F.type_str_join aP (ao 9)) (av Ar aP (av bR (av bG (dY (b8 Z) hr (da2 (ao 1) ae)) ae) ae))))))))))))))))))))))))
theorem kj:YO Z.uO P w base 1 true (eM CR CP CS CD n):=
 fY ["word","kinds","rows","least","shown","kind","row","other","gap"] fun z nd hr=>(aj (lZ nd (bZ cS)) (aj (gf (pt:=.tp [5,6]) (xU Z.z_zip (ao 1) (ao 2)) (uJ rfl (bj (i:=5) nd (bj (i:=6) nd j4))) (aw (gf (pt:=.tp [7,8]) (xU Z.z_zip (ao 1) (ao 6)) (uJ rfl (bj (i:=7) nd (bj (i:=8) nd j4))) (aw (de (aU o_ge (ao 8) (ao 3)) (aw (cU (i:=4) (wt (eC (pA (ao 0)) (eC aP (eC (pA (ao 5)) (eC aP (eC (pA (ao 7)) (eC aP (eC (pA (ao 8)) Bj)))))))))) bC))))) (aw (ds_retV (i:=4)))))
theorem eF:YO Z.sN P w base 1 false (cN CR CP CS CD n):=
 fY ["rows"] fun z nd hr=>(aw (aH (ax (cA ["row"] [none] (d6 (ao 0)) (fun _ _ _ _ _=>d7 (by decide +kernel)) (aI rfl) (fun _ _ _ _ _=>bO) (fun _ _ _ _ _=>(ax (d8 c_list Z.sW PyProof.Rows.boot_list (da1 (ao 0)))))))))
theorem jA:YM Z.m_M_R_gap_rows P w mg base 2 false (aS CR CP CS CD n):=
 fM ["self"] fun z nd hr=>(aw (aH (dY (eF Z) hr (da1 (dJ (Cs:=[CR,CP]) Z.kN (ao 0))))))
theorem jB:YM Z.m_M_P_gap_rows P w mg base 2 false (aS CR CP CS CD n):=
 fM ["self"] fun z nd hr=>(aw (aH (dY (eF Z) hr (da1 (dJ (Cs:=[CR,CP]) Z.kN (ao 0))))))
theorem o8:YO Z.qo P w base 1 false (cu CR CP CS CD n):=
 fY ["kinds","name","flight","words"] fun z nd hr=>(aj (cj nd (ax (av bA (ax (bZ (da3 aP (ao 1) (aZ eW (ao 0) (aZ eW (ao 2) ae))))) (ax (cA ["number"] [none] (d6 (ax (za x_sl (ao 2) (m7 ae) m8))) (fun _ _ _ _ _=>d7 (by decide +kernel)) (aI rfl) (fun _ _ _ _ _=>bO) (fun _ _ _ _ _=>(d8 zm Z.yi PyProof.Rows.boot_str (da1 (ao 0))))))))) (aw (aH (uK sm PySem.F.slot_str_join PySem.F.type_str_join aP (ao 3)))))
theorem gU:YM Z.m_M_P_beside_rows P w mg base 2 false (bh CR CP CS CD n):=
 fM ["self"] fun z nd hr=>(aw (aH (dY (eF Z) hr (da1 (dJ (Cs:=[CP]) Z.qV (ao 0))))))
theorem yM:YO Z.Bp P w base 3 false (cY CR CP CS CD n):=
 fY ["kinds","rules","names","flights","closed","rows"] fun z nd hr=>let ⟨_,_,cK,OKM_P_beside_rows⟩:=gU Z;let ⟨_,_,eV,OKM_P_gap_rows⟩:=jB Z;let ⟨_,_,eU,OKM_R_gap_rows⟩:=jA Z;(aj (n9 (i:=5) true ["name"] [none] nd (d6 (ao 0)) (fun _ _ _ _ _=>d7 (by decide +kernel)) (aI rfl) (fun _ _ _ _ _=>bO) (fun _ _ _ _ _=>(wt (eC aP (eC (pA (ao 0)) Bj))))) (aj (xS (i:=5) (dY (kj Z) hr (da4 aP (ao 0) (pk Z.kR.cl eU.mt OKM_R_gap_rows hr eU.bd Z.kP.cl eV.mt OKM_P_gap_rows hr eV.bd (ao 1)) ae))) (aj (de (dS (Bn (tb:=[(CR,false),(CP,true)]) (isi2 ⟨⟨_,Z.kR⟩,Z.ki_CR_CP⟩ ⟨⟨_,Z.kP⟩,Z.ki_CP_CP⟩) Z.bF Z.kP.mg (ao 1))) (aw (xS (i:=5) (dY (kj Z) hr (da4 aP (ao 0) (uL Z.kP.cl cK.mt OKM_P_beside_rows hr cK.bd (ao 1)) ae)))) bC) (aj (xS (i:=5) (cA ["start","stop"] [none,none] (d6 (ao 4)) (fun _ _ _ _ _=>uJ rfl (kO (i:=0) (by decide +kernel) (kO (i:=1) (by decide +kernel) j4))) (uv (by decide)) (fun _ _ _ _ _=>bO) (fun _ _ _ _ _=>(wt (eC aP (eC (pA (ao 0)) (eC aP (eC (pA (ao 1)) Bj)))))))) (aj (xS (i:=5) (cA ["name","flight","kinds"] [none,none,some 0] (xU Z.z_zip (ao 2) (ao 3)) (fun _ _ _ _ _=>uJ rfl (kO (i:=0) (by decide +kernel) (kO (i:=1) (by decide +kernel) j4))) (uv (by decide)) (fun _ _ _ _ _=>bO) (fun _ _ _ _ _=>(dY (o8 Z) hr (da3 (ao 2) (ao 0) (ao 1)))))) (ck (O2:=[]) (aw (aH (uK sm PySem.F.slot_str_join PySem.F.type_str_join aP (ax (cA ["row"] [none] (d6 (ao 5)) (fun _ _ _ _ _=>d7 (by decide +kernel)) (aI rfl) (fun _ _ _ _ _=>bO) (fun _ _ _ _ _=>(ax (av bA (ao 0) aP))))))))))))))
end
theorem sc_nS:gQ ["self","kinds","rules","names","flights","closed"] ["self","kinds","rules","names","flights","closed"] (aJ s_nS):=⟨rfl,rfl,rfl,by decide +kernel,rfl,by decide +kernel,by decide +kernel⟩
theorem okn_S {w:World} {K:Fg} {base:Heap} {CR:Addr} {f_t f:Addr} {fd_t:FuncData} (D:Def K mg "text_of" tK ["kinds","rules","names","flights","closed"] f_t fd_t) (OK:iJ P w K mg base CX0 3 f_t fd_t ["kinds","rules","names","flights","closed"] (spF K false (cY CR CP CS CD n) 5)) (N:Fun K "__init__" "Sheet.__init__" s_nS f fd) (cl:Cls K C)
  (na:∀y∈(["kinds","rules","names","flights","closed","text"]:List Str),aV K C y) (zl:mg "list"=none):iJ P w K mg base CX0 4 f fd ["self","kinds","rules","names","flights","closed"] (spIS K C (cY CR CP CS CD n)):=
 N.okX sc_nS (fun vs H Q E h=>by obtain ⟨_,_,_,_,_,_,_,_,_,_,_,_,_,_,_,_,_,_,rfl,_⟩:=h;rfl) fun cdv A outer s H vs Q E hr h=>
  ⟨_,aG (gA (pv 0) (iM eQ rfl zl PyProof.Rows.boot_list (aA (pv 1) aY)) rfl) (aG (gA (pv 0) (pv 2) rfl) (aG (gA (pv 0) (iM eQ rfl zl PyProof.Rows.boot_list (aA (pv 3) aY)) rfl) (aG (gA (pv 0) (iM eQ rfl zl PyProof.Rows.boot_list (aA (pv 4) aY)) rfl)
   (aG (gA (pv 0) (iM eQ rfl zl PyProof.Rows.boot_list (aA (pv 5) aY)) rfl) (bM (gA (pv 0) (nW OK hr (by rfl) D.mg D.fn.kp D.bd .nil nX (aA (pv 1) (aA (pv 2) (aA (pv 3) (aA (pv 4) (aA (pv 5) aY)))))) rfl)))))),rs_initS cl na h⟩
section
variable {w:World} {base:Heap} {K:Fg} {CR:Addr} (Z:Zq n P w base K mg CR CP CS CD)
include Z
theorem yN:YO Z.Br P w base 1 false (iS CR CP CS CD n):=
 fY ["gaps","kind","many"] fun z nd hr=>(aw (aH (ax (cA ["other","gaps","kind"] [none,some 0,some 1] (gg Z.fQ (da1 (ao 2))) (fun _ _ _ _ _=>d7 (by decide +kernel)) (aI rfl) (fun _ _ _ _ _=>bO) (fun _ _ _ _ _=>(de_getD hr.units (ao 1) (kQ (da2 (ao 2) (ao 0))) ae))))))
theorem mv:YO Z.wA P w base 2 false (fZ CR CP CS CD n):=
 fY ["gaps","many"] fun z nd hr=>(aw (aH (ax (cA ["kind","gaps","many"] [none,some 0,some 1] (gg Z.fQ (da1 (ao 1))) (fun _ _ _ _ _=>d7 (by decide +kernel)) (aI rfl) (fun _ _ _ _ _=>bO) (fun _ _ _ _ _=>(dY (yN Z) hr (da3 (ao 1) (ao 0) (ao 2))))))))
theorem uh:YO Z.d_is_gap P w base 1 false (hZ CR CP CS CD n):=
 fY ["number"] fun z nd hr=>(aj (de (PW.pt (j3 (iC (dS (qY Z.kit Z.bF Z.z_int (ao 0)))) (gJ (dS (px Z.kit Z.bF Z.z_bool (ao 0)))))) (aw (aH ql)) bC) (aw (aH (xX o_le o_le ae (ao 0) (ib Z.qk)))))
theorem rY:YO Z.uR P w base 2 false (dm CR CP CS CD n):=
 fY ["row","kinds"] fun z nd hr=>(aw (aH (uN (pq Z.kit Z.bF Z.sW (ao 0)) (uN (jG (uo hr.units) (aF eY Z.dv PySem.boot_len (da1 (ao 0))) (ao 1)) (qX (aF (wQ rfl) Z.vi boot_all (da1 (ax (cA ["number"] [none] (d6 (ao 0)) (fun _ _ _ _ _=>d7 (by decide +kernel)) (aI rfl) (fun _ _ _ _ _=>bO) (fun _ _ _ _ _=>(dY (uh Z) hr (da1 (ao 0)))))))))))))
theorem iO:YO Z.qp P w base 3 false (aD CR CP CS CD n):=
 fY ["rows","kinds"] fun z nd hr=>(aj (cj nd (aF eY Z.dv PySem.boot_len (da1 (ao 0)))) (aj (de (iC (dt_chain o_le o_le ae (ao 1) (ib Z.mI))) (aw Bh) bC) (aj (de (iC (dS (aF (wQ rfl) Z.vi boot_all (da1 (ax (cA ["row","kinds"] [none,some 1] (d6 (ao 0)) (fun _ _ _ _ _=>d7 (by decide +kernel)) (aI rfl) (fun _ _ _ _ _=>bO) (fun _ _ _ _ _=>(dY (rY Z) hr (da2 (ao 0) (ao 1)))))))))) (aw Bh) bC) (aw (aH (dY (eF Z) hr (da1 (ao 0))))))))
end
theorem sc_nR:gQ ["self","gaps"] ["self","gaps"] (aJ s_nR):=⟨rfl,rfl,rfl,by decide +kernel,rfl,by decide +kernel,by decide +kernel⟩
theorem okn_R {w:World} {K:Fg} {base:Heap} {CR:Addr} {f:Addr} (bQ:Def K mg "checked_rows" gK ["rows"] cZ cJ) (OK:iJ P w K mg base CX0 3 cZ cJ ["rows"] (spF K false (aD CR CP CS CD n) 1))
  (N:Fun K "__init__" "Rules.__init__" s_nR f fd) (cl:Cls K C) (na:aV K C "gaps"):iJ P w K mg base CX0 4 f fd ["self","gaps"] (spI1 K C (aD CR CP CS CD n)):=by
 refine N.okX sc_nR (fun vs H Q E h=>?_) (fun cdv A outer s H vs Q E hr h=>?_)
 ·obtain ⟨p,dx,v,F,d,rfl,_⟩:=h;rfl
 ·obtain ⟨p,dx,v,F,d,rfl,hp,hF,s1,qd,q⟩:=h;refine ⟨_,bM (gA (pv 0) (nW OK hr (by rfl) bQ.mg bQ.fn.kp bQ.bd .nil nX (aA (pv 1) aY)) rfl),?_⟩
  refine ⟨v,rfl,F,[d],s1,⟨v,[],rfl,qd,rfl⟩,rfl,?_⟩
  skip;cases hg:aD CR CP CS CD n [d] with
  |error e=>rw [hg] at q;exact q
  |ok r=>
   rw [hg] at q;intro u F' H' st qw;have hF1:F' p=none:=by
    cases hz:F' p with
    |none=>rfl
    |some o=>
     rcases st.nw p o hz with z|z
     ·rw [hF] at z;cases z
     ·rw [hp] at z;cases z
   refine ⟨_,rfl,p,C,dx,[],rfl,st.hh _ _ hp,cl,na,(by show 0<1000;decide),?_⟩
   refine q u F' _ st.ff (fun c o e=>?_) hF1 st.nw (fun c o e hc=>by rw [au hc];exact st.hh _ _ e) ay qw;have hc:c≠p:=fun z=>by rw [z,hF1] at e;cases e
   rw [au hc];exact st.fh _ _ e
theorem sc_nP:gQ ["self","gaps","beside"] ["self","gaps","beside"] (aJ s_nP):=⟨rfl,rfl,rfl,by decide +kernel,rfl,by decide +kernel,by decide +kernel⟩
theorem okn_P {w:World} {K:Fg} {base:Heap} {CR:Addr} {f fR:Addr} {fdR:FuncData} {mc:Value} (bQ:Def K mg "checked_rows" gK ["rows"] cZ cJ) (OK:iJ P w K mg base CX0 3 cZ cJ ["rows"] (spF K false (aD CR CP CS CD n) 1))
  (S:Stat K CR mc "__init__" fR) (bI:Binds K fdR ["self","gaps"] []) (FI:iJ P w K mg base CX0 4 fR fdR ["self","gaps"] (spI1 K CP (aD CR CP CS CD n))) (mR:mg "Rules"=some (.ref CR)) (zl:mg "len"=none)
  (N:Fun K "__init__" "Pair.__init__" s_nP f fd) (cl:Cls K CP) (na:aV K CP "gaps") (nb:aV K CP "beside"):iJ P w K mg base CX0 5 f fd ["self","gaps","beside"] (spI2 K CP (aD CR CP CS CD n)):=by
 refine N.okX sc_nP (fun vs H Q E h=>?_) (fun cdv A outer s H vs Q E hr h=>?_)
 ·obtain ⟨p,dx,v,v2,F,d,d2,rfl,_⟩:=h;rfl
 ·obtain ⟨p,dx,v,v2,F,d,d2,rfl,hp,hF,s1,qd,qd2,q⟩:=h;refine ⟨_,aG (gL (pe_cmeth S (by rfl) mR FI hr bI .nil nX (aA (pv 0) (aA (pv 1) aY))))
   (aG (gA (pv 0) (nW OK (hr.mono (by decide)) (by rfl) bQ.mg bQ.fn.kp bQ.bd .nil nX (aA (pv 2) aY)) rfl)
   (bM (lC (Ag op_ne (ki j5 (by rfl) zl PySem.boot_len (aA (dQ (pv 0) rfl) aY)) (ki j5 (by rfl) zl PySem.boot_len (aA (dQ (pv 0) rfl) aY)) (As _)) u7 dZ))),?_⟩
  refine ⟨_,rfl,_,rfl,p,dx,v,F,d,rfl,hp,hF,s1,qd,?_⟩
  cases hg:aD CR CP CS CD n [d] with
  |error e=>rw [hg] at q;exact q
  |ok r=>
   rw [hg,aq] at q;intro u F1 H1 a1 a2 a3 a4 a5 a6 a7;refine ⟨v2,rfl,F1,[d2],a2,⟨v2,[],rfl,aQ.mono a1 qd2,rfl⟩,rfl,?_⟩
   skip;cases hg2:aD CR CP CS CD n [d2] with
   |error e=>rw [hg2] at q;exact False.elim q
   |ok r2=>
    rw [hg2,aq] at q;intro u2 F2 H2 st qw;by_cases ht:twoL r r2=true
    ·rw [if_pos ht] at q;have hF2:F2 p=none:=by
      cases hz:F2 p with
      |none=>rfl
      |some o=>
       rcases st.nw p o hz with z|z
       ·rw [a3] at z;cases z
       ·rw [a6] at z;cases z
     refine ⟨_,rfl,p,CP,dx,_,rfl,st.hh _ _ a6,cl,nb,(by show 1<1000;decide),?_⟩
     rw [putGB];have s3:aN F2 (upd H2 p (.ins CP dx [("gaps",u),("beside",u2)])):=fun c o e=>by
      have hc:c≠p:=fun z=>by rw [z,hF2] at e;cases e
      rw [au hc];exact st.fh _ _ e
     cases r with
     |lst xs=>
      cases r2 with
      |lst ys=>
       have hl:xs.length=ys.length:=of_decide_eq_true ht;obtain ⟨g1,xs1,e1,t1,z1⟩:=aQ.mono st.ff a7;obtain ⟨g2,xs2,e2,t2,z2⟩:=id qw;refine ⟨_,rfl,p,CP,dx,_,_,rfl,ay,cl,nb,rfl,g2,_,by rw [e2],.inl (s3.lst t2),_,rfl,p,CP,dx,_,_,rfl,ay,cl,na,rfl,g1,_,by rw [e1],.inl (s3.lst t1),rfl,_,rfl,?_⟩
       refine iteNS (by rw [z1.length,z2.length,hl]) ?_;refine q u u2 F2 _ (a1.trans st.ff) s3 hF2 (fun b o e=>?_) (fun c o e hc=>by rw [au hc];exact st.hh _ _ (a5 c o e hc)) ay (aQ.mono st.ff a7) qw;rcases st.nw b o e with z|z
       ·exact a4 b o z
       ·refine .inr ?_;cases hz:H b with
        |none=>rfl
        |some o'=>
         by_cases hb:b=p
         ·subst hb;rw [hF2] at e;cases e
         ·rw [a5 b o' hz hb] at z;cases z
      |_=>cases ht
     |_=>cases ht
    ·rw [if_neg ht] at q;exact False.elim q
section
variable {w:World} {base:Heap} {K:Fg} {CR:Addr} (Z:Zq n P w base K mg CR CP CS CD)
include Z
theorem on_P:∃f fd,Mth K CP "__init__" "Pair.__init__" s_nP ["self","gaps","beside"] f fd/\iJ P w K mg base CX0 5 f fd ["self","gaps","beside"] (spI2 K CP (aD CR CP CS CD n)):=
 let ⟨_,_,Y⟩:=iO Z;let ⟨_,_,N,S⟩:=Z.n_R;let ⟨_,_,M⟩:=Z.n_P;⟨_,_,M,okn_P Y.d Y.o S N.bd (okn_R (C:=CP) Y.d Y.o N.fn Z.kP.cl (Z.kN CP (by simp)).2) Z.kR.mg Z.dv M.fn Z.kP.cl (Z.kN CP (by simp)).2 (Z.qV CP (by simp)).2⟩
theorem on_R:∃f fd,Mth K CR "__init__" "Rules.__init__" s_nR ["self","gaps"] f fd/\iJ P w K mg base CX0 4 f fd ["self","gaps"] (spI1 K CR (aD CR CP CS CD n)):=
 let ⟨_,_,Y⟩:=iO Z;let ⟨_,_,N,_⟩:=Z.n_R;⟨_,_,N,okn_R Y.d Y.o N.fn Z.kR.cl (Z.kN CR (by simp)).2⟩
theorem mQ:YO Z.pD P w base 7 false (bW CR CP CS CD n):=
 fY ["draft","many","gaps"] fun z nd hr=>let ⟨_,_,N_P,OKN_P⟩:=on_P Z;let ⟨_,_,N_R,OKN_R⟩:=on_R Z;(aj (cj nd (aF eY Z.dv PySem.boot_len (da1 (dJ (Cs:=[CD]) Z.fldD_kinds (ao 0))))) (aj (cj nd (dY (mv Z) hr (da2 (dJ (Cs:=[CD]) Z.fldD_gaps (ao 0)) (ao 1)))) (aj (de (aU (o_eqE hr.units) (dJ (Cs:=[CD]) Z.fldD_beside (ao 0)) (ax de_newK)) (aw (aH (de_newR ⟨Z.kR.mks,N_R.mt.at_,N_R.mt.fn,Z.kR.kp⟩ OKN_R (hr.mono (by decide)) Z.kR.mg N_R.bd (da1 (ao 2))))) bC) (aw (aH (de_newP ⟨Z.kP.mks,N_P.mt.at_,N_P.mt.fn,Z.kP.kp⟩ OKN_P hr Z.kP.mg N_P.bd (da2 (ao 2) (dY (mv Z) hr (da2 (dJ (Cs:=[CD]) Z.fldD_beside (ao 0)) (ao 1))))))))))
theorem iN:YR Z.wx P w base 1 ka:=
 fR ["kept","told"] (fun _ _ _ _=>len_told) fun z nd hr vs Q h=>⟨_,(aG (lC (pt_cmp (pc_isN (pv 1))) (bM (fX rW)) dZ) (aG (gL (qc PySem.F.plainAttrs_list PySem.F.slot_list_append PySem.F.type_list_append iP (pv 0) (aA (pv 1) aY))) (bM (fX rW)))),rs_told h⟩
theorem gC:YO Z.wy P w base 1 false (cH CR CP CS CD n):=
 fY ["word"] fun z nd hr=>(aj (de (PW.pt (j3 (aU o_gt (aF Bz Z.dv PySem.boot_len (da1 (ao 0))) (ib Z.qj)) (gJ (iC (dS (aF (wQ rfl) Z.vi boot_all (da1 (ax (cA ["sign"] [none] (di_str (ao 0)) (fun _ _ _ _ _=>d7 (by decide +kernel)) (aI rfl) (fun _ _ _ _ _=>bO) (fun _ _ _ _ _=>(jG o_inS (ao 0) (sH Z.gs_FIGURES)))))))))))) (aw (aH dU)) bC) (aj (de (PW.pt (Bf (aU (uo hr.units) (aZ sX (ao 0) ae) aP) (wq (aU (xv hr.units) (ao 0) aP)))) (aw (aH dU)) bC) (aw (aH (d8 c_intS Z.z_int PyProof.Rows.boot_int (da1 (ao 0)))))))
theorem vS:YO Z.zc P w base 2 false (cM CR CP CS CD n):=
 fY ["kinds","words","gap"] fun z nd hr=>(aj (de (PW.pt (j3 (aU (xv hr.units) (aF eY Z.dv PySem.boot_len (da1 (ao 1))) ae) (j3 (aU (og hr.units) (aZ eW (ao 1) ae) (ao 0)) (gJ (aU (og hr.units) (aZ eW (ao 1) ae) (ao 0)))))) (aw (aH dU)) bC) (aj (cj nd (dY (gC Z) hr (da1 (aZ eW (ao 1) ae)))) (aw (aH (xV (dS (dY (uh Z) hr (da1 (ao 2)))) (kQ (da3 (pz hr.units (ao 0) (aZ eW (ao 1) ae)) (pz hr.units (ao 0) (aZ eW (ao 1) ae)) (ao 2))) dU)))))
theorem o7:YR Z.ze P w base 3 (vm K (cM CR CP CS CD n)):=
 fR ["kinds","gaps","words","told"] (fun _ _ _ _=>len_gap) fun z nd hr vs Q h=>⟨_,(aG (ua (i:=3) nd rfl (.inl rfl) (pY (vS Z) hr (aA (pv 0) (aA (pv 2) aY)))) (aG (lC (pt_cmp (pc_isN (pv 3))) (bM (fX rW)) dZ) (aG (ps_put (hU hr.units) (pv 1) (kQ (da2 (aZ eW (ao 3) ae) (aZ eW (ao 3) ae))) (aZ eW (ao 3) ae) rfl) (bM (fX rW))))),rs_gap h⟩
theorem qg:YO Z.sM P w base 1 false (dH CR CP CS CD n):=
 fY ["number"] fun z nd hr=>(aw (aH (xX o_le o_le ae (ao 0) (ib Z.lR))))
theorem jr:YO Z.jT P w base 2 false (c8 CR CP CS CD n):=
 fY ["flight","first","last"] fun z nd hr=>(aj (cj nd (aZ eW (ao 0) ae)) (aj (cj nd (aZ eW (ao 0) ae)) (aw (aH (uN (jG o_le (ao 1) (ao 2)) (qX (aF (wQ rfl) Z.vi boot_all (da1 (ax (cA ["number"] [none] (d6 (ax (za x_sl (ao 0) (m7 ae) m8))) (fun _ _ _ _ _=>d7 (by decide +kernel)) (aI rfl) (fun _ _ _ _ _=>bO) (fun _ _ _ _ _=>(dY (qg Z) hr (da1 (ao 0))))))))))))))
theorem qE:YO Z.Bq P w base 1 false (iR CR CP CS CD n):=
 fY ["word"] fun z nd hr=>(aj (de (PW.pt (j3 (aU o_gt (aF Bz Z.dv PySem.boot_len (da1 (ao 0))) (ib Z.uE)) (gJ (aU o_notInS (aZ sX (ao 0) ae) (sH Z.gs_LETTERS))))) (aw (aH ql)) bC) (aw (aH (aF (wQ rfl) Z.vi boot_all (da1 (ax (cA ["sign"] [none] (di_str (ao 0)) (fun _ _ _ _ _=>d7 (by decide +kernel)) (aI rfl) (fun _ _ _ _ _=>bO) (fun _ _ _ _ _=>(de_or (jG o_inS (ao 0) (sH Z.gs_LETTERS)) (qX (jG o_inS (ao 0) (sH Z.gs_FIGURES))))))))))))
theorem qe:YO Z.sI P w base 3 false (c7 CR CP CS CD n):=
 fY ["kinds","names","words","numbers","flight"] fun z nd hr=>(aj (de (PW.pt (j3 (aU (xv hr.units) (aF eY Z.dv PySem.boot_len (da1 (ao 2))) ae) (j3 (aU o_ge (aF eY Z.dv PySem.boot_len (da1 (ao 1))) (ib Z.qi)) (gJ (aU (og hr.units) (aZ eW (ao 2) ae) (ao 0)))))) (aw (aH dU)) bC) (aj (de (PW.pt (j3 (iC (dS (dY (qE Z) hr (da1 (aZ eW (ao 2) ae))))) (gJ (aU (o_in hr.units) (aZ eW (ao 2) ae) (ao 1))))) (aw (aH dU)) bC) (aj (n9 (i:=3) false ["word"] [none] nd (d6 (ax (za x_sl (ao 2) (m7 ae) m8))) (fun _ _ _ _ _=>d7 (by decide +kernel)) (aI rfl) (fun _ _ _ _ _=>bO) (fun _ _ _ _ _=>(dY (gC Z) hr (da1 (ao 0))))) (aj (de (aU (o_in hr.units) dU (ao 3)) (aw (aH dU)) bC) (aj (cj nd (kQ (da5 (pz hr.units (ao 0) (aZ eW (ao 2) ae)) (aZ eW (ao 3) ae) (aZ eW (ao 3) ae) (aZ eW (ao 3) ae) (aZ eW (ao 3) ae)))) (aw (aH (xV (dS (dY (jr Z) hr (da1 (ao 4)))) (ao 4) dU))))))))
theorem qf:YR Z.sJ P w base 4 (rG K CD (qx (c7 CR CP CS CD n))):=
 fR ["draft","words"] (fun _ _ _ _=>AI) fun z nd hr vs Q h=>⟨_,(aG (lC (Af (rR (pY (iN Z) hr (aA (dQ (pv 0) rfl) (aA (pY (qe Z) hr (aA (dQ (pv 0) rfl) (aA (dQ (pv 0) rfl) (aA (pv 1) aY)))) aY))) (fun _=>rfl))) (bM (fX rW)) dZ) (aG (gL (qc PySem.F.plainAttrs_list PySem.F.slot_list_append PySem.F.type_list_append iP (dQ (pv 0) rfl) (aA (aZ eW (ao 1) ae) aY))) (bM (fX rW)))),A3 Z.kD.cl Z.naD h⟩
theorem ug:YO Z.wu P w base 2 false (eh CR CP CS CD n):=
 fY ["kinds","words"] fun z nd hr=>(aj (de (PW.pt (j3 (aU (xv hr.units) (aF eY Z.dv PySem.boot_len (da1 (ao 1))) ae) (gJ (aU o_ge (aF eY Z.dv PySem.boot_len (da1 (ao 0))) (ib Z.mI))))) (aw (aH dU)) bC) (aw (aH (xV (PW.pt (Bf (dS (dY (qE Z) hr (da1 (aZ eW (ao 1) ae)))) (wq (aU (og hr.units) (aZ eW (ao 1) ae) (ao 0))))) (aZ eW (ao 1) ae) dU))))
theorem rX:YO Z.uQ P w base 1 false (eN CR CP CS CD n):=
 fY ["stretch"] fun z nd hr=>(aw (aH (Bo o_le o_lt o_le ae (aZ eW (ao 0) ae) (aZ eW (ao 0) ae) (ib Z.oS))))
theorem ui:YO Z.wz P w base 2 false (i0 CR CP CS CD n):=
 fY ["closed"] fun z nd hr=>(aw (aH (uN (jG o_le (aF eY Z.dv PySem.boot_len (da1 (ao 0))) (ib Z.mT)) (qX (aF (wQ rfl) Z.vi boot_all (da1 (ax (cA ["stretch"] [none] (d6 (ao 0)) (fun _ _ _ _ _=>d7 (by decide +kernel)) (aI rfl) (fun _ _ _ _ _=>bO) (fun _ _ _ _ _=>(dY (rX Z) hr (da1 (ao 0))))))))))))
theorem nZ:YO Z.qm P w base 3 false (cq CR CP CS CD n):=
 fY ["closed","words","stretch"] fun z nd hr=>(aj (de (aU (xv hr.units) (aF eY Z.dv PySem.boot_len (da1 (ao 1))) ae) (aw (aH dU)) bC) (aj (cj nd (kQ (da2 (dY (gC Z) hr (da1 (aZ eW (ao 1) ae))) (dY (gC Z) hr (da1 (aZ eW (ao 1) ae)))))) (aw (aH (xV (PW.pt (Bf (aU (og hr.units) dU (ao 2)) (wq (dS (dY (ui Z) hr (da1 (ax (av bA (ao 0) (ax (bZ (da1 (ao 2)))))))))))) (ao 2) dU)))))
theorem vT:YR Z.zd P w base 5 (rG K CD (aM CR CP CS CD n)):=
 fR ["draft","words"] (fun _ _ _ _=>AI) fun z nd hr vs Q h=>⟨_,(aG (lC (PW.pt (j3 (aU (uo hr.units) (ao 1) (ax (bZ cS))) (gJ (dS (uK Az PySem.F.slot_str_startswith PySem.F.type_str_startswith (aZ eW (ao 1) ae) aP))))) (bM (fX rW)) dZ) (aG (lC (aU (uo hr.units) (aZ eW (ao 1) ae) aP) (bM (fX (pY (iN Z) hr (aA (dQ (pv 0) rfl) (aA (pY (ug Z) hr (aA (dQ (pv 0) rfl) (aA (pv 1) aY))) aY))))) dZ) (aG (lC (aU (uo hr.units) (aZ eW (ao 1) ae) aP) (bM (fX (pY (o7 Z) hr (aA (dQ (pv 0) rfl) (aA (dQ (pv 0) rfl) (aA (pv 1) aY)))))) dZ) (aG (lC (aU (uo hr.units) (aZ eW (ao 1) ae) aP) (bM (fX (pY (o7 Z) hr (aA (dQ (pv 0) rfl) (aA (dQ (pv 0) rfl) (aA (pv 1) aY)))))) dZ) (aG (lC (aU (uo hr.units) (aZ eW (ao 1) ae) aP) (bM (fX (pY (iN Z) hr (aA (dQ (pv 0) rfl) (aA (pY (nZ Z) hr (aA (dQ (pv 0) rfl) (aA (pv 1) aY))) aY))))) dZ) (bM (fX (pe_and (jG (uo hr.units) (aZ eW (ao 1) ae) aP) (pe_one (pY (qf Z) hr (aA (pv 0) (aA (pv 1) aY)))))))))))),rs_row Z.kD.cl Z.naD h⟩
theorem vR:YO Z.zb P w base 1 false (bV CR CP CS CD n):=
 fY ["row"] fun z nd hr=>(aw (aH (ax (cA ["word"] [none] (d6 (ax (uK sj PySem.F.slot_str_split PySem.F.type_str_split (ao 0) aP))) (fun _ _ _ _ _=>d7 (by decide +kernel)) (aI rfl) (fun _ _ _ _ _=>Ae (aU (xv hr.units) (ao 0) aP)) (fun _ _ _ _ _=>(ao 0))))))
theorem on_D:∃f fd,Mth K CD "__init__" "Draft.__init__" s_nD ["self"] f fd/\iJ P w K mg base CX0 1 f fd ["self"] (spID CD):=
 let ⟨f,fd,N⟩:=Z.n_D;⟨f,fd,N,N.fn.okX (N:=["self"]) (by exact ⟨rfl,rfl,rfl,by decide +kernel,rfl,by decide +kernel,by decide +kernel⟩) (fun _ _ _ _=>len_ID) fun c A o s H vs Q E hr h=>⟨_,aG (gA (pv 0) (ud aY) rfl) (aG (gA (pv 0) vO rfl) (aG (gA (pv 0) vO rfl) (aG (gA (pv 0) (ud aY) rfl) (aG (gA (pv 0) (ud aY) rfl) (bM (gA (pv 0) (ud aY) rfl)))))),rs_initD Z.kD.cl Z.naD h⟩⟩
theorem on_S:∃f fd,Mth K CS "__init__" "Sheet.__init__" s_nS ["self","kinds","rules","names","flights","closed"] f fd/\iJ P w K mg base CX0 4 f fd ["self","kinds","rules","names","flights","closed"] (spIS K CS (cY CR CP CS CD n)):=
 let ⟨_,_,Y⟩:=yM Z;let ⟨_,_,N⟩:=Z.n_S;⟨_,_,N,okn_S Y.d Y.o N.fn Z.kS.cl Z.naS Z.sW⟩
theorem km:YO Z.uP P w base 8 false (bH CR CP CS CD n):=
 fY ["text","draft","number","row"] fun z nd hr=>let ⟨_,_,N_D,OKN_D⟩:=on_D Z;let ⟨_,_,N_S,OKN_S⟩:=on_S Z;(ds_draft (ua (i:=1) nd rfl (.inl rfl) (pe_make0 ⟨Z.kD.mks,N_D.mt.at_,N_D.mt.fn,Z.kD.kp⟩ OKN_D (hr.mono (by decide)) rfl Z.kD.mg N_D.bd .nil nX)) (ps_for PassesOwn.never rfl (pi_enum1 rfl Z.vh (ax (uK sj PySem.F.slot_str_split PySem.F.type_str_split (ao 0) aP))) (pg_tup rfl (mX (lE (i:=2) nd rfl (.inl rfl)) (mX (lE (i:=3) nd rfl (.inl rfl)) Aj))) (bM (lC (Af (rR (pY (vT Z) hr (aA (pv 1) (aA (pY (vR Z) hr (aA (pv 3) aY)) aY))) (fun _=>rfl))) u7 dZ))) (aj (de (aU (uo hr.units) (dJ (Cs:=[CD]) Z.fldD_kinds (ao 1)) (ax (bZ cS))) (aw Bh) bC) (aw (aH (de_newS ⟨Z.kS.mks,N_S.mt.at_,N_S.mt.fn,Z.kS.kp⟩ OKN_S (hr.mono (by decide)) Z.kS.mg N_S.bd (da5 (dJ (Cs:=[CD]) Z.fldD_kinds (ao 1)) (dY (mQ Z) hr (da1 (ao 1))) (dJ (Cs:=[CD]) Z.fldD_names (ao 1)) (dJ (Cs:=[CD]) Z.fldD_flights (ao 1)) (dJ (Cs:=[CD]) Z.fldD_closed (ao 1))))))))
theorem rZ:YO Z.uS P w base 1 false (gD CR CP CS CD n):=
 fY ["_law_found"] fun z nd hr=>(aw (aH (uN (qY Z.kit Z.bF Z.z_int (ao 0)) (qX (de_not (px Z.kit Z.bF Z.z_bool (ao 0)))))))
theorem jz:YO Z.sO P w base 2 false (c9 CR CP CS CD n):=
 fY ["_law_found","_law_due","_law_long","_law_one"] fun z nd hr=>(aj (de (PW.pt (j3 (iC (dS (pq Z.kit Z.bF Z.sW (ao 0)))) (gJ (aU (xv hr.units) (ao 0) (ao 1))))) (aw (aH ql)) bC) (aj (gf (pt:=.nm 3) (d6 (ao 0)) (pf nd) (aj (de (PW.pt (j3 (iC (dS (uM Z.kit Z.bF Z.z_tuple (ao 3)))) (gJ (aU (xv hr.units) (aF eY Z.dv PySem.boot_len (da1 (ao 3))) (ao 2))))) (aw (aH ql)) bC) (aw (de (iC (dS (aF (wQ rfl) Z.vi boot_all (da1 (ax (cA ["_law_number_here"] [none] (d6 (ao 3)) (fun _ _ _ _ _=>d7 (by decide +kernel)) (aI rfl) (fun _ _ _ _ _=>bO) (fun _ _ _ _ _=>(dY (rZ Z) hr (da1 (ao 0)))))))))) (aw (aH ql)) bC)))) (aw (aH ql))))
theorem lK:YM Z.m_M_R_many_strips P w mg base 1 false (cf CR CP CS CD n):=
 fM ["self"] fun z nd hr=>(aw (aH ae))
theorem lM:YM Z.m_M_P_many_strips P w mg base 1 false (cE CR CP CS CD n):=
 fM ["self"] fun z nd hr=>(aw (aH ae))
theorem qF:YO Z.Bt P w base 3 false (g7 CR CP CS CD n):=
 fY ["_law_sheet","_law_data_here","_law_kinds","_law_gaps","_law_beside","_law_names","_law_flights","_law_closed"] fun z nd hr=>let ⟨_,_,cK,OKM_P_beside_rows⟩:=gU Z;let ⟨_,_,eV,OKM_P_gap_rows⟩:=jB Z;let ⟨_,_,jd,OKM_P_many_strips⟩:=lM Z;let ⟨_,_,eU,OKM_R_gap_rows⟩:=jA Z;let ⟨_,_,jc,OKM_R_many_strips⟩:=lK Z;(aj (Bg (ao 1) (uJ rfl (bj (i:=2) nd (bj (i:=3) nd (bj (i:=4) nd (bj (i:=5) nd (bj (i:=6) nd (bj (i:=7) nd j4)))))))) (aj (de (iC (dS (Bn (tb:=[(CS,true)]) (isi1 ⟨⟨_,Z.kS⟩,Z.ki_CS_CS⟩) Z.bF Z.kS.mg (ao 0)))) (aw (aH ql)) bC) (aj (de (PW.pt (j3 (aU (xv hr.units) (dJ (Cs:=[CS]) Z.oW (ao 0)) (ao 2)) (gJ (aU (xv hr.units) (dJ (Cs:=[CS]) Z.B9 (ao 0)) (ao 5))))) (aw (aH ql)) bC) (aj (de (PW.pt (j3 (iC (dS (dY (jz Z) hr (da3 (dJ (Cs:=[CS]) Z.oX (ao 0)) (ao 6) ae)))) (gJ (iC (dS (dY (jz Z) hr (da3 (dJ (Cs:=[CS]) Z.qU (ao 0)) (ao 7) ae))))))) (aw (aH ql)) bC) (aj (de (PW.pt (j3 (aU (xv hr.units) (pk Z.kR.cl eU.mt OKM_R_gap_rows hr eU.bd Z.kP.cl eV.mt OKM_P_gap_rows hr eV.bd (dJ (Cs:=[CS]) Z.oV (ao 0))) (ao 3)) (gJ (aU (xv hr.units) (pk Z.kR.cl jc.mt OKM_R_many_strips (hr.mono (by decide)) jc.bd Z.kP.cl jd.mt OKM_P_many_strips (hr.mono (by decide)) jd.bd (dJ (Cs:=[CS]) Z.oV (ao 0))) (ax (av bA ae (d8 c_int Z.z_int PyProof.Rows.boot_int (da1 (jG o_notN (ao 4) dU))))))))) (aw (aH ql)) bC) (aw (aH (de_or (jG o_isN (ao 4) dU) (qX (jG (uo hr.units) (uL Z.kP.cl cK.mt OKM_P_beside_rows hr cK.bd (dJ (Cs:=[CS]) Z.oV (ao 0))) (ao 4)))))))))))
theorem ok_law:YO (law_d Z.d_law) P w base 9 false (m_law CR CP CS CD n):=
 fY ["_law_script","_law_data_here","_law_text_here","_law_sheet"] fun z nd hr=>(aj (cj nd (dY (um Z) hr (da1 (ao 0)))) (aj (cj nd (dY (uj Z) hr (da2 (ao 1) (ao 0)))) (by refine ds_bent Z.x_nl (Z.oW CS (.head _)).1 (Z.oW CS (.head _)).2 (Z.oX CS (.head _)).2 (Z.qU CS (.head _)).2 ?_;intro F0 H0;refine (aG (ua (i:=3) nd rfl (.inl rfl) (pe_thaw ?_)) (aG (lC ?_ (bM (fX rW)) dZ) (aG (gL (pe_bm0 PySem.F.plainAttrs_list PySem.F.slot_list_clear PySem.F.type_list_clear xD (dQ (pv 3) rfl))) (aG (gL (pe_bm0 PySem.F.plainAttrs_list PySem.F.slot_list_clear PySem.F.type_list_clear xD (dQ (pv 3) rfl))) (aG (gL (qc PySem.F.plainAttrs_list PySem.F.slot_list_append PySem.F.type_list_append iP (dQ (pv 3) rfl) (aA ?_ aY))) (?_:PSs _ _ _))))));exact (dY (km Z) hr (da1 (ao 2)));exact (iC (dS (dY (qF Z) hr (da2 (ao 3) (ao 1)))));exact (kQ (da2 ae ae));refine (?_:DSs _ _ _ _ _ _ _ _ _) F0 H0;exact (aw (aH (dY (qF Z) hr (da2 (dY (km Z) hr (da1 (ao 2))) (ao 1))))))))
end
noncomputable abbrev pQ:=Int×Int
variable {p:pQ} {cs:List pQ}
noncomputable def stD (p:pQ):Dat:=.tup [.int p.1,.int p.2]
@[simp] theorem getI_c0 (a:Dat) (l:List Dat):f9 (a::l) 0=.ok a:=by
 unfold f9 atI ixN;rw [if_pos (by omega),if_pos (by simp<;>omega)];rfl
@[simp] theorem getI_c1 (a b:Dat) (l:List Dat):f9 (a::b::l) 1=.ok b:=by
 unfold f9 atI ixN;rw [if_pos (by omega),if_pos (by simp<;>omega)];rfl
@[simp] theorem getI_c2 (a b c:Dat) (l:List Dat):f9 (a::b::c::l) 2=.ok c:=by
 unfold f9 atI ixN;rw [if_pos (by omega),if_pos (by simp<;>omega)];rfl
@[simp] theorem getI_c3 (a b c d:Dat) (l:List Dat):f9 (a::b::c::d::l) 3=.ok d:=by
 unfold f9 atI ixN;rw [if_pos (by omega),if_pos (by simp<;>omega)];rfl
section
variable (CR CP CS CD:Addr)
noncomputable def mq (r:List Int):Dat:=.lst (r.map .int)
noncomputable def aE (rows:List (List Int)):Dat:=.lst (rows.map mq)
noncomputable def sU (k:Nat) (r:List Int):Prop:=r.length=k/\∀x∈r,0<=x/\x<=1000000
noncomputable def bK (k:Nat) (rows:List (List Int)):Prop:=rows.length=k/\∀r∈rows,sU k r
theorem yD {lo:Int} (h:(bz lo m)[i]? =some d):i<m/\d=.int (lo+i):=by
 unfold bz at h;rw [List.getElem?_map] at h;obtain ⟨a,h1,h2⟩:=Option.map_eq_some_iff.mp h;have hi:=(List.getElem?_eq_some_iff.mp h1).1;rw [List.length_range] at hi;rw [List.getElem?_range hi] at h1;cases h1;exact ⟨hi,h2.symm⟩
theorem dX (h:(bz 0 m)[i]? =some d):i<m/\d=.int i:=by
 obtain ⟨h1,h2⟩:=yD h;exact ⟨h1,by rw [h2,Int.zero_add]⟩
theorem dh (lo:Int) (m:Nat):(bz lo m).length=m:=by unfold bz;simp
end
section
variable (CR CP CS CD:Addr)
theorem uy (n:Nat) (x:Int) (h0:0<=x) (h1:x<=1000000):hZ CR CP CS CD n [.int x]=.ok (.bl true):=by simp [hZ,xN,rh,h0,h1]
theorem sv (n:Nat) (k:Nat) (r:List Int) (hk:k<=6) (h:sU k r):dm CR CP CS CD n [mq r,.int k]=.ok (.bl true):=by
 have hl:r.length<=16777216:=by have:=h.1;omega
 have hk':k<=16777216:=by omega
 have e:aL (.nm 0) gd (fL (hZ CR CP CS CD n) (aa (ah 0) aB)) [none] (r.map .int)=.ok ((r.map fun _=>true).map Dat.bl):=by
  have:=kW (p:=.nm 0) (fe:=fL (hZ CR CP CS CD n) (aa (ah 0) aB)) (ρ0:=[none]) (fun _=>.bl true) (r.map .int) (fun d hd=>by
   obtain ⟨x,hx,rfl⟩:=List.mem_map.mp hd;exact ⟨[some (.int x)],by simp,by simp [uy CR CP CS CD n x (h.2 x hx).1 (h.2 x hx).2]⟩)
  rw [this,List.map_map,List.map_map];rfl
 simp [dm,mD,mq,e,hl,hk',h.1,-List.map_map]
theorem pI (n:Nat) (rows:List (List Int)) (hl:rows.length<=1000):cN CR CP CS CD n [aE rows]=.ok (aE rows):=by
 have hl2:rows.length<=16777216:=by omega
 have e:aL (.nm 0) gd (fL kr (aa (ah 0) aB)) [none] (rows.map mq)=.ok (rows.map mq):=by
  have:=kW (p:=.nm 0) (fe:=fL kr (aa (ah 0) aB)) (ρ0:=[none]) id (rows.map mq) (fun d hd=>by
   obtain ⟨x,hx,rfl⟩:=List.mem_map.mp hd;exact ⟨[some (mq x)],by simp,by simp [mq]⟩)
  rw [this,List.map_id]
 simp [cN,kK,aE,e,hl2]
theorem m9 (n:Nat) (k:Nat) (rows:List (List Int)) (h1:1<=k) (h6:k<=6) (h:bK k rows):aD CR CP CS CD n [aE rows]=.ok (aE rows):=by
 have hl2:rows.length<=16777216:=by have:=h.1;omega
 have e:aL (.nm 0) gd (fL (dm CR CP CS CD n) (aa (ah 0) (aa (ah 1) aB))) [none,some (.int rows.length)] (rows.map mq)=.ok ((rows.map fun _=>true).map Dat.bl):=by
  have:=kW (p:=.nm 0) (fe:=fL (dm CR CP CS CD n) (aa (ah 0) (aa (ah 1) aB))) (ρ0:=[none,some (.int rows.length)]) (fun _=>.bl true) (rows.map mq) (fun d hd=>by
   obtain ⟨x,hx,rfl⟩:=List.mem_map.mp hd;exact ⟨[some (mq x),some (.int rows.length)],by simp,by simp [h.1,sv CR CP CS CD n k x h6 (h.2 x hx)]⟩)
  rw [this,List.map_map,List.map_map];rfl
 have a1:(1:Int)<=rows.length:=by have:=h.1;omega
 have a2:(rows.length:Int)<=6:=by have:=h.1;omega
 have e3:=pI CR CP CS CD n rows (by have:=h.1;omega);simp only [aE] at e3;simp [aD,jF,iG,iF,aE,e,e3,hl2,a1,a2,-List.map_map]
noncomputable def mn (rows:List (List Int)):Dat->Dat
 |.non=>.ins CR [("gaps",aE rows)]
 |o=>.ins CP [("gaps",aE rows),("beside",o)]
theorem gaps_at (rows:List (List Int)) (o:Dat) (ho:o=.non\/∃rows2,o=aE rows2):bE [CR,CP] "gaps" (mn CR CP rows o)=.ok (aE rows):=by
 have h1:((("gaps":Str)==("gaps":Str))=true):=by decide +kernel
 rcases ho with rfl|⟨rows2,rfl⟩
 ·show (if ([CR,CP].contains CR)=true then (match List.lookup ("gaps":Str) [(("gaps":Str),aE rows)] with|some d=>Except.ok d|none=>stk) else stk)=_;rw [if_pos (by simp),List.lookup_cons,h1]
 ·show (if ([CR,CP].contains CP)=true then (match List.lookup ("gaps":Str) [(("gaps":Str),aE rows),(("beside":Str),aE rows2)] with|some d=>Except.ok d|none=>stk) else stk)=_;rw [if_pos (by simp),List.lookup_cons,h1]
end
structure Fli where
 kind:Int
 first:Int
 last:Int
 due:Int
 price:Int
variable {f:Fli}
noncomputable def flD (f:Fli):Dat:=.tup [.int f.kind,.int f.first,.int f.last,.int f.due,.int f.price]structure GoodFl (k:Nat) (f:Fli):Prop where
 k0:0<=f.kind
 k1:f.kind<k
 f0:0<=f.first
 f1:f.first<=f.last
 l1:f.last<=1000000000
 d0:0<=f.due
 d1:f.due<=1000000000
 p0:0<=f.price
 p1:f.price<=1000000000
theorem d9 {α:Type} {p:Pat} {fe:ai->M Dat} {ρ0:ai} (g f:α->Dat):∀(L:List α),(∀x∈L,∃ρ,gz p (g x) ρ0=.ok ρ/\fe ρ=.ok (f x))->aL p gd fe ρ0 (L.map g)=.ok (L.map f)
 |[],_=>rfl
 |d::ds,h=>by
  obtain ⟨ρ,e1,e2⟩:=h d (by simp);rw [List.map_cons,aL,e1];simp only [aq,gd,e2,d9 g f ds fun x hx=>h x (by simp [hx])];simp
theorem nO (lo:Int) (m:Nat):bz lo (m+1)=.int lo::bz (lo+1) m:=by
 unfold bz;rw [List.range_succ_eq_map,List.map_cons,List.map_map]
 congr 1
 ·simp
 ·refine List.map_congr_left fun k _=>?_;simp only [Function.comp]
  congr 1
  omega
theorem bu (a b c:Str):a++b++c=a++(b++c):=by
 show (⟨(a.cps++b.cps)++c.cps⟩:Str)=⟨a.cps++(b.cps++c.cps)⟩
 rw [Array.append_assoc]
theorem dC (a:Str):a++(Str.empty:Str)=a:=by
 show (⟨a.cps++#[]⟩:Str)=a;simp
theorem gZ (a:Str):(Str.empty:Str)++a=a:=by
 show (⟨#[]++a.cps⟩:Str)=a;simp
theorem gq (a b:Str):(a++b).length=a.length+b.length:=strLen_append a b
noncomputable def cat:List Str->Str
 |[]=>Str.empty
 |x::xs=>x++cat xs
theorem ma:∀a b:List Str,cat (a++b)=cat a++cat b
 |[],b=>by rw [List.nil_append];exact (gZ _).symm
 |x::a,b=>by rw [List.cons_append,cat,cat,ma a b,bu]
theorem Bw:∀xs:List Str,(cat xs).length=(xs.map (·.length)).sum
 |[]=>rfl
 |x::xs=>by rw [cat,gq,Bw xs,List.map_cons,List.sum_cons]
theorem xI:∀xs:List Str,Str.join "" xs=cat xs
 |[]=>rfl
 |[x]=>by rw [cat,cat,dC];rfl
 |x::y::xs=>by
  rw [cat,<- xI (y::xs)];show x++Str.ofString ""++Str.join "" (y::xs)=_;rw [show (Str.ofString "":Str)=Str.empty by decide +kernel,dC]
theorem lenLe (xs:List Str) (B:Nat) (h:∀x∈xs,x.length<=B):(xs.map (·.length)).sum<=xs.length*B:=StrLaws.sumLen_le xs h
theorem str_len {i:Int} (h:i.natAbs<10^10):(aK i).length<=11:=by
 unfold aK;rw [PySem.ofString_length];exact int_text_length_le10 (k:=10) (by decide) h
theorem dW {i:Int} (h:i.natAbs<10^10):i.natAbs.log2<1920:=by
 by_cases h0:i.natAbs=0
 ·rw [h0];decide
 ·exact (Nat.log2_lt h0).mpr (Nat.lt_of_lt_of_le h (Nat.le_trans (show 10^10<=2^34 by decide) (Nat.pow_le_pow_right (by decide) (by decide))))
noncomputable def SP:Str:=" "
noncomputable def NLs:Str:="\n"
noncomputable def cI (k:Str):Str:="kind "++k
noncomputable def gV (w k o:Str) (g:Int):Str:=w++SP++k++SP++o++SP++aK g
noncomputable def dN (p:pQ):Str:="closed "++aK p.1++SP++aK p.2
noncomputable def kAt (ks:List Str) (i:Int):Str:=ks.getD i.toNat ""
noncomputable def bJ (ks:List Str) (p:Str×Fli):Str:="flight"++SP++p.1++SP++kAt ks p.2.kind++SP++aK p.2.first++SP++aK p.2.last++SP++aK p.2.due++SP++aK p.2.price
noncomputable def bc (w:Str) (least:Int) (k:Str):List Str->List Int->List Str
 |o::ks,g::r=>(if least<=g then [gV w k o g] else [])++bc w least k ks r
 |_,_=>[]
noncomputable def bo (w:Str) (least:Int) (ks:List Str):List Str->List (List Int)->List Str
 |k::l,r::rows=>bc w least k ks r++bo w least ks l rows
 |_,_=>[]
noncomputable def sQ (ks:List Str):Option (List (List Int))->List Str
 |some r2=>bo "beside" 0 ks ks r2
 |none=>[]
noncomputable def rowsOf (ks:List Str) (rows:List (List Int)) (o:Option (List (List Int))) (ns:List (Str×Fli)) (cs:List pQ):List Str:=
 ks.map cI++bo "gap" 1 ks ks rows++sQ ks o++cs.map dN++ns.map (bJ ks)
noncomputable def textOf (rs:List Str):Str:=cat (rs.map (·++NLs))
theorem oz (ρ:ai) (acc:Str):mS [] ρ acc=.ok acc:=rfl
theorem bw (f:ai->M Dat) (fs:List (ai->M Dat)) (ρ:ai) (acc z:Str) (h:f ρ=.ok (.str z)) (hl:acc.length+z.length<=16777216):mS (f::fs) ρ acc=mS fs ρ (acc++z):=by
 have hl':(acc++z).length<=sizeLine:=by rw [gq,sizeLine_eq];exact hl
 show (f ρ).bind _=_;rw [h];show (if (acc++z).length<=sizeLine then mS fs ρ (acc++z) else stk)=_;rw [if_pos hl']
theorem fmt_s (h:z.length<=16777216):lV (.str z)=.ok (.str z):=by
 rw [e_fmtS,sizeLine_eq,if_pos h]
theorem fmt_i {i:Int} (h:i.natAbs<10^10):lV (.int i)=.ok (.str (aK i)):=by
 rw [e_fmtI,if_pos (dW h)]
theorem AL (ks:List Str) (hk:∀k∈ks,k.length<=100):aL (.nm 0) gd (fJ [(fC (.str "kind ")),(f1 lV (ah 0))]) [none] (ks.map .str)=.ok ((ks.map cI).map .str):=by
 rw [List.map_map];refine d9 _ _ ks fun k hk'=>⟨[some (.str k)],rfl,?_⟩
 have h:=hk k hk';have e5:(Str.ofString "kind ").length=5:=by decide +kernel
 unfold fJ;rw [bw _ _ _ _ (Str.ofString "kind ") rfl (by rw [e5];show 0+5<=_;decide),gZ,bw _ _ _ _ k (by show (lV (.str k))=_;exact fmt_s (by omega)) (by rw [e5];omega),oz];rfl
theorem xK {w k:Str} (ρ:ai) (hw:w.length<=100) (hk:k.length<=100) (ho:o.length<=100) (hg:g.natAbs<10^10) (e0:ah 0 ρ=.ok (.str w)) (e5:ah 5 ρ=.ok (.str k)) (e7:ah 7 ρ=.ok (.str o)) (e8:ah 8 ρ=.ok (.int g)) :
  fJ [(f1 lV (ah 0)),(fC (.str " ")),(f1 lV (ah 5)),(fC (.str " ")),(f1 lV (ah 7)),(fC (.str " ")),(f1 lV (ah 8))] ρ=.ok (.str (gV w k o g))/\(gV w k o g).length<=400:=by
 have el:(Str.ofString " ").length=1:=by decide +kernel
 have es:=str_len hg;have f0:f1 lV (ah 0) ρ=.ok (.str w):=by unfold f1;rw [e0];exact fmt_s (by omega)
 have f5:f1 lV (ah 5) ρ=.ok (.str k):=by unfold f1;rw [e5];exact fmt_s (by omega)
 have f7:f1 lV (ah 7) ρ=.ok (.str o):=by unfold f1;rw [e7];exact fmt_s (by omega)
 have f8:f1 lV (ah 8) ρ=.ok (.str (aK g)):=by unfold f1;rw [e8];exact fmt_i hg
 have z0:Str.empty.length=0:=rfl;refine ⟨?_,by unfold gV SP;simp only [gq,el];omega⟩
 unfold fJ;rw [bw _ _ _ _ w f0 (by omega),gZ,bw _ _ _ _ (Str.ofString " ") rfl (by omega),bw _ _ _ _ k f5 (by simp only [gq,el];omega),bw _ _ _ _ (Str.ofString " ") rfl (by simp only [gq,el];omega),bw _ _ _ _ o f7 (by simp only [gq,el];omega),bw _ _ _ _ (Str.ofString " ") rfl (by simp only [gq,el];omega),bw _ _ _ _ (aK g) f8 (by simp only [gq,el];omega),oz];rfl
section
variable (CR CP CS CD:Addr)
theorem wj (n:Nat) {w k:Str} (hw:w.length<=100) (hk:k.length<=100) (least:Int) (a1 a2 a6:Option Dat):∀(os:List Str) (r:List Int) (acc:List Str) (z7 z8:Option Dat),(∀o∈os,o.length<=100)->(∀g∈r,g.natAbs<10^10)->acc.length+os.length<=10000->∃y7 y8,
  gw (.tp [7,8]) (cv CR CP CS CD n) (mi (os.map .str) (r.map .int)) [some (.str w),a1,a2,some (.int least),some (.lst (acc.map .str)),some (.str k),a6,z7,z8]=.ok (.nx [some (.str w),a1,a2,some (.int least),some (.lst ((acc++bc w least k os r).map .str)),some (.str k),a6,y7,y8])
 |[],r,acc,z7,z8,_,_,_=>⟨z7,z8,by simp [mi,gw,bc]⟩
 |o::os,[],acc,z7,z8,_,_,_=>⟨z7,z8,by simp [mi,gw,bc]⟩
 |o::os,g::r,acc,z7,z8,ho,hr,hl=>by
  obtain ⟨e1,e2⟩:=xK (w:=w) (k:=k) (o:=o) (g:=g) [some (.str w),a1,a2,some (.int least),some (.lst (acc.map .str)),some (.str k),a6,some (.str o),some (.int g)] hw hk (ho o (by simp)) (hr g (by simp)) rfl rfl rfl rfl;have hacc:acc.length<16777216:=by simp at hl;omega
  have e1':=xK (w:=w) (k:=k) (o:=o) (g:=g) [some (.str w),a1,a2,some (.int least),none,some (.str k),a6,some (.str o),some (.int g)] hw hk (ho o (by simp)) (hr g (by simp)) rfl rfl rfl rfl;by_cases hg:least<=g
  ·have eb:cv CR CP CS CD n [some (.str w),a1,a2,some (.int least),some (.lst (acc.map .str)),some (.str k),a6,some (.str o),some (.int g)]=.ok (.nx [some (.str w),a1,a2,some (.int least),some (.lst ((acc++[gV w k o g]).map .str)),some (.str k),a6,some (.str o),some (.int g)]):=by
    simp [cv,gO,hg,e1'.1,e1,hacc]
   obtain ⟨y7,y8,ih⟩:=wj n hw hk least a1 a2 a6 os r (acc++[gV w k o g]) (some (.str o)) (some (.int g)) (fun x hx=>ho x (by simp [hx])) (fun x hx=>hr x (by simp [hx])) (by simp at hl ⊢;omega);refine ⟨y7,y8,?_⟩
   rw [bc,if_pos hg,<- List.append_assoc,<- ih];simp [mi,gw,eb]
  ·have eb:cv CR CP CS CD n [some (.str w),a1,a2,some (.int least),some (.lst (acc.map .str)),some (.str k),a6,some (.str o),some (.int g)]=.ok (.nx [some (.str w),a1,a2,some (.int least),some (.lst (acc.map .str)),some (.str k),a6,some (.str o),some (.int g)]):=by
    simp [cv,gO,hg]
   obtain ⟨y7,y8,ih⟩:=wj n hw hk least a1 a2 a6 os r acc (some (.str o)) (some (.int g)) (fun x hx=>ho x (by simp [hx])) (fun x hx=>hr x (by simp [hx])) (by simp at hl ⊢;omega);refine ⟨y7,y8,?_⟩
   rw [bc,if_neg hg,List.nil_append,<- ih];simp [mi,gw,eb]
theorem i7 (w:Str) (least:Int) (k:Str):∀(os:List Str) (r:List Int),(bc w least k os r).length<=os.length
 |[],_=>by simp [bc]
 |_::_,[]=>by simp [bc]
 |o::os,g::r=>by
  rw [bc,List.length_append,List.length_cons];have:=i7 w least k os r;split<;>simp<;>omega
theorem xJ (n:Nat) {w:Str} (hw:w.length<=100) (ks:List Str) (hks:∀k∈ks,k.length<=100) (hm:ks.length<=6) (least:Int) (a2:Option Dat):∀(l:List Str) (rows:List (List Int)) (acc:List Str) (z5 z6 z7 z8:Option Dat),(∀k∈l,k.length<=100)->(∀r∈rows,∀g∈r,g.natAbs<10^10)->acc.length+6*l.length<=9000->∃y5 y6 y7 y8,
  gw (.tp [5,6]) (eJ CR CP CS CD n) (mi (l.map .str) (rows.map mq)) [some (.str w),some (.lst (ks.map .str)),a2,some (.int least),some (.lst (acc.map .str)),z5,z6,z7,z8]=.ok (.nx [some (.str w),some (.lst (ks.map .str)),a2,some (.int least),some (.lst ((acc++bo w least ks l rows).map .str)),y5,y6,y7,y8])
 |[],rows,acc,z5,z6,z7,z8,_,_,_=>⟨z5,z6,z7,z8,by simp [mi,gw,bo]⟩
 |k::l,[],acc,z5,z6,z7,z8,_,_,_=>⟨z5,z6,z7,z8,by simp [mi,gw,bo]⟩
 |k::l,r::rows,acc,z5,z6,z7,z8,hl,hr,ha=>by
  obtain ⟨y7,y8,e⟩:=wj CR CP CS CD n hw (hl k (by simp)) least (some (.lst (ks.map .str))) a2 (some (mq r)) ks r acc z7 z8 hks (hr r (by simp)) (by simp at ha;omega);have hlen:=i7 w least k ks r;have eb:eJ CR CP CS CD n [some (.str w),some (.lst (ks.map .str)),a2,some (.int least),some (.lst (acc.map .str)),some (.str k),some (mq r),z7,z8]=.ok (.nx [some (.str w),some (.lst (ks.map .str)),a2,some (.int least),some (.lst ((acc++bc w least k ks r).map .str)),some (.str k),some (mq r),y7,y8]):=by
   unfold eJ;rw [<- e];simp [mq,jC]
  obtain ⟨x5,x6,x7,x8,ih⟩:=xJ n hw ks hks hm least a2 l rows (acc++bc w least k ks r) (some (.str k)) (some (mq r)) y7 y8 (fun x hx=>hl x (by simp [hx])) (fun x hx=>hr x (by simp [hx])) (by simp at ha ⊢;omega);refine ⟨x5,x6,x7,x8,?_⟩
  rw [bo,<- List.append_assoc,<- ih];simp [mi,gw,eb]
theorem kb (n:Nat) {w:Str} (hw:w.length<=100) (ks:List Str) (hks:∀k∈ks,k.length<=100) (hm:ks.length<=6) (least:Int) (rows:List (List Int)) (hr:∀r∈rows,∀g∈r,g.natAbs<10^10) :
  eM CR CP CS CD n [.str w,.lst (ks.map .str),aE rows,.int least]=.ok (.lst ((bo w least ks ks rows).map .str)):=by
 obtain ⟨y5,y6,y7,y8,e⟩:=xJ CR CP CS CD n hw ks hks hm least (some (aE rows)) ks rows [] none none none none hks hr (by simp;omega);simp only [List.map_nil,List.nil_append] at e;simp [eM,mB,aE,jC] at e ⊢;simp [e]
end
theorem sget {i:Int} (h0:0<=i) (h1:i<ks.length):f9 (ks.map .str) i=.ok (.str (kAt ks i))/\kAt ks i∈ks:=by
 obtain ⟨j,rfl⟩:∃j:Nat,i=j:=⟨i.toNat,by omega⟩
 have hj:j<ks.length:=by omega
 have e:kAt ks (j:Int)=ks[j]:=by unfold kAt;simp [hj]
 refine ⟨?_,by rw [e];exact List.getElem_mem hj⟩
 rw [e];unfold f9 atI ixN;rw [if_pos (by omega),if_pos (by simp<;>omega)];simp [hj]
structure BFl (k:Nat) (f:Fli):Prop where
 k0:0<=f.kind
 k1:f.kind<k
 a:f.first.natAbs<10^10
 b:f.last.natAbs<10^10
 c:f.due.natAbs<10^10
 d:f.price.natAbs<10^10
theorem kM (hn:nm.length<=100) (hks:∀k∈ks,k.length<=100) (hf:BFl ks.length f):(bJ ks (nm,f)).length<=400:=by
 have el:(Str.ofString " ").length=1:=by decide +kernel
 have ef:(Str.ofString "flight").length=6:=by decide +kernel
 have h1:=str_len hf.a;have h2:=str_len hf.b;have h3:=str_len hf.c;have h4:=str_len hf.d;have h5:=hks _ (sget hf.k0 hf.k1).2;unfold bJ SP;simp only [gq,el,ef];omega
section
variable (CR CP CS CD:Addr)
theorem nJ (n:Nat) (hm:ks.length<=6) (hn:nm.length<=100) (hks:∀k∈ks,k.length<=100) (hf:BFl ks.length f):cu CR CP CS CD n [.lst (ks.map .str),.str nm,flD f]=.ok (.str (bJ ks (nm,f))):=by
 have el:(Str.ofString " ").length=1:=by decide +kernel
 have ef:(Str.ofString "flight").length=6:=by decide +kernel
 have h1:=str_len hf.a;have h2:=str_len hf.b;have h3:=str_len hf.c;have h4:=str_len hf.d;obtain ⟨e0,hmem⟩:=sget hf.k0 hf.k1;have h5:=hks _ hmem;have l1:=dW hf.a;have l2:=dW hf.b;have l3:=dW hf.c;have l4:=dW hf.d;have ej:Str.join (Str.ofString " ") [Str.ofString "flight",nm,kAt ks f.kind,aK f.first,aK f.last,aK f.due,aK f.price]=bJ ks (nm,f):=by
  unfold bJ SP;simp only [Str.join,bu]
 have hs:6+(nm.length+((kAt ks f.kind).length+((aK f.first).length+((aK f.last).length+((aK f.due).length+((aK f.price).length+0))))))+7*1<=16777216:=by omega
 have esl:gT (.tup [.int f.kind,.int f.first,.int f.last,.int f.due,.int f.price]) (some 1) none=.ok (.tup [.int f.first,.int f.last,.int f.due,.int f.price]):=rfl;have ec:aL (.nm 0) gd (fL strD (aa (ah 0) aB)) [none] [.int f.first,.int f.last,.int f.due,.int f.price]=.ok [.str (aK f.first),.str (aK f.last),.str (aK f.due),.str (aK f.price)]:=by simp [aL,l1,l2,l3,l4]
 have ea:cn (.lst [.str (Str.ofString "flight"),.str nm,.str (kAt ks f.kind)]) (.lst [.str (aK f.first),.str (aK f.last),.str (aK f.due),.str (aK f.price)])=.ok (.lst [.str (Str.ofString "flight"),.str nm,.str (kAt ks f.kind),.str (aK f.first),.str (aK f.last),.str (aK f.due),.str (aK f.price)]):=by
  simp [cn,sizeLine_eq]
 simp [cu,jE,flD,e0,esl,ec,ea,ej,el,ef];rw [if_pos]
 ·rfl
 ·omega
end
theorem wL (cs:List pQ) (h:∀p∈cs,p.1.natAbs<10^10/\p.2.natAbs<10^10):aL (.tp [0,1]) gd (fJ [(fC (.str "closed ")),(f1 lV (ah 0)),(fC (.str " ")),(f1 lV (ah 1))]) [none,none] (cs.map stD)=.ok ((cs.map dN).map .str):=by
 rw [List.map_map];refine d9 _ _ cs fun p hp=>⟨[some (.int p.1),some (.int p.2)],rfl,?_⟩
 obtain ⟨h1,h2⟩:=h p hp;have e1:(Str.ofString "closed ").length=7:=by decide +kernel
 have e2:(Str.ofString " ").length=1:=by decide +kernel
 have l1:=str_len h1;have l2:=str_len h2;have z0:Str.empty.length=0:=rfl;unfold fJ;rw [bw _ _ _ _ (Str.ofString "closed ") rfl (by omega),gZ,bw _ _ _ _ (aK p.1) (fmt_i h1) (by omega),bw _ _ _ _ (Str.ofString " ") rfl (by simp only [gq];omega),bw _ _ _ _ (aK p.2) (fmt_i h2) (by simp only [gq];omega),oz];rfl
theorem kX (h:p.1.natAbs<10^10/\p.2.natAbs<10^10):(dN p).length<=400:=by
 have e1:(Str.ofString "closed ").length=7:=by decide +kernel
 have e2:(Str.ofString " ").length=1:=by decide +kernel
 have l1:=str_len h.1;have l2:=str_len h.2;unfold dN SP;simp only [gq];omega
theorem oo {k:Str} (h:k.length<=100):(cI k).length<=400:=by
 have e1:(Str.ofString "kind ").length=5:=by decide +kernel
 unfold cI;simp only [gq];omega
theorem qP {w k:Str} (hw:w.length<=100) (hk:k.length<=100) (ho:o.length<=100) (hg:g.natAbs<10^10):(gV w k o g).length<=400:=by
 have el:(Str.ofString " ").length=1:=by decide +kernel
 have es:=str_len hg;unfold gV SP;simp only [gq,el];omega
theorem kH {w:Str} {least:Int} {k:Str} (hw:w.length<=100) (hk:k.length<=100):∀(os:List Str) (r:List Int),(∀o∈os,o.length<=100)->(∀g∈r,g.natAbs<10^10)->∀x∈bc w least k os r,x.length<=400
 |[],_,_,_,x,h=>by simp [bc] at h
 |_::_,[],_,_,x,h=>by simp [bc] at h
 |o::os,g::r,ho,hr,x,h=>by
  rw [bc,List.mem_append] at h;rcases h with h|h
  ·split at h
   ·rw [List.mem_singleton] at h;rw [h];exact qP hw hk (ho o (by simp)) (hr g (by simp))
   ·cases h
  ·exact kH hw hk os r (fun y hy=>ho y (by simp [hy])) (fun y hy=>hr y (by simp [hy])) x h
theorem jR {w:Str} {least:Int} {ks:List Str} (hw:w.length<=100) (hks:∀k∈ks,k.length<=100):∀(l:List Str) (rows:List (List Int)),(∀k∈l,k.length<=100)->(∀r∈rows,∀g∈r,g.natAbs<10^10)->∀x∈bo w least ks l rows,x.length<=400
 |[],_,_,_,x,h=>by simp [bo] at h
 |_::_,[],_,_,x,h=>by simp [bo] at h
 |k::l,r::rows,hl,hr,x,h=>by
  rw [bo,List.mem_append] at h;rcases h with h|h
  ·exact kH hw (hl k (by simp)) ks r hks (hr r (by simp)) x h
  ·exact jR hw hks l rows (fun y hy=>hl y (by simp [hy])) (fun y hy=>hr y (by simp [hy])) x h
theorem jS (w:Str) (least:Int) (ks:List Str):∀(l:List Str) (rows:List (List Int)),(bo w least ks l rows).length<=l.length*ks.length
 |[],_=>by simp [bo]
 |_::_,[]=>by simp [bo]
 |k::l,r::rows=>by
  rw [bo,List.length_append,List.length_cons,Nat.succ_mul];have h1:=i7 w least k ks r;have h2:=jS w least ks l rows;omega
structure Sht where
 ks:List Str
 rows:List (List Int)
 o:Option (List (List Int))
 nf:List (Str×Fli)
 cs:List pQ
variable {w:Sht}
structure Sht.Good (w:Sht):Prop where
 k1:1<=w.ks.length
 k6:w.ks.length<=6
 kl:∀k∈w.ks,k.length<=100
 rows:bK w.ks.length w.rows
 o:∀r2,w.o=some r2->bK w.ks.length r2
 nm:w.nf.length<=40
 nl:∀p∈w.nf,p.1.length<=100/\BFl w.ks.length p.2
 cm:w.cs.length<=20
 cl:∀p∈w.cs,p.1.natAbs<10^10/\p.2.natAbs<10^10
noncomputable def Sht.kD (w:Sht):Dat:=.lst (w.ks.map .str)
noncomputable def Sht.bD (w:Sht):Dat:=match w.o with
 |some r2=>aE r2
 |none=>.non
noncomputable def Sht.nD (w:Sht):Dat:=.lst ((w.nf.map (·.1)).map .str)
noncomputable def Sht.fD (w:Sht):Dat:=.lst ((w.nf.map (·.2)).map flD)
noncomputable def Sht.cD (w:Sht):Dat:=.lst (w.cs.map stD)
noncomputable def Sht.D (w:Sht):Dat:=.tup [w.kD,aE w.rows,w.bD,w.nD,w.fD,w.cD]
noncomputable def Sht.rs (w:Sht):List Str:=rowsOf w.ks w.rows w.o w.nf w.cs
noncomputable def Sht.tx (w:Sht):Str:=textOf w.rs
theorem bK.nat (h:bK k rows):∀r∈rows,∀g∈r,g.natAbs<10^10:=fun r hr g hg=>by
 have:=(h.2 r hr).2 g hg;have e:(10:Nat)^10=10000000000:=by decide
 omega
theorem lgap:(Str.ofString "gap").length<=100:=by decide +kernel
theorem lbes:(Str.ofString "beside").length<=100:=by decide +kernel
theorem Sht.Good.A4 (h:w.Good):∀x∈w.rs,x.length<=400:=fun x hx=>by
 unfold Sht.rs rowsOf at hx;simp only [List.mem_append] at hx;rcases hx with (((hx|hx)|hx)|hx)|hx
 ·obtain ⟨k,hk,rfl⟩:=List.mem_map.mp hx;exact oo (h.kl k hk)
 ·exact jR lgap h.kl w.ks w.rows h.kl h.rows.nat x hx
 ·cases ho:w.o with
  |none=>rw [ho] at hx;cases (show x∈([]:List Str) from hx)
  |some r2=>rw [ho] at hx;exact jR lbes h.kl w.ks r2 h.kl (h.o r2 ho).nat x hx
 ·obtain ⟨p,hp,rfl⟩:=List.mem_map.mp hx;exact kX (h.cl p hp)
 ·obtain ⟨p,hp,rfl⟩:=List.mem_map.mp hx;exact kM (h.nl p hp).1 h.kl (h.nl p hp).2
theorem Sht.Good.rs_len (h:w.Good):w.rs.length<=200:=by
 unfold Sht.rs rowsOf;simp only [List.length_append,List.length_map];have h1:=jS "gap" 1 w.ks w.ks w.rows;have h2:(sQ w.ks w.o).length<=w.ks.length*w.ks.length:=by
  cases w.o with
  |none=>simp [sQ]
  |some r2=>exact jS _ _ _ _ _
 have h3:=h.k6;have h4:=Nat.mul_le_mul h3 h3;have h5:=h.nm;have h6:=h.cm;omega
theorem iK:∀xs:List Str,gS (xs.map .str)=.ok xs
 |[]=>rfl
 |x::xs=>by rw [List.map_cons,e_strs1,iK xs];rfl
theorem Av:NLs.length=1:=by decide +kernel
theorem nl_comp (rs:List Str) (h:∀r∈rs,r.length<=400):aL (.nm 0) gd (f2 cn (ah 0) (fC (.str "\n"))) [none] (rs.map .str)=.ok ((rs.map (·++NLs)).map .str):=by
 rw [List.map_map];refine d9 _ _ rs fun r hr=>⟨[some (.str r)],rfl,?_⟩
 have h1:=h r hr;have h2:r.length+(Str.ofString "\n").length<=sizeLine:=by
  have:(Str.ofString "\n").length=1:=Av;rw [sizeLine_eq];omega
 show cn (.str r) (.str "\n")=_;unfold cn;simp only;rw [if_pos h2];rfl
theorem zB:∀nf:List (Str×Fli),mi ((nf.map (·.1)).map .str) ((nf.map (·.2)).map flD)=nf.map fun p=>Dat.tup [.str p.1,flD p.2]
 |[]=>rfl
 |p::nf=>by simp only [List.map_cons,mi,zB nf]
section
variable (CR CP CS CD:Addr)
theorem fl_comp (n:Nat) (hm:ks.length<=6) (hks:∀k∈ks,k.length<=100) (nf:List (Str×Fli)) (h:∀p∈nf,p.1.length<=100/\BFl ks.length p.2) :
  aL (.tp [0,1]) gd (fL (cu CR CP CS CD n) (aa (ah 2) (aa (ah 0) (aa (ah 1) aB)))) [none,none,some (.lst (ks.map .str))] (nf.map fun p=>Dat.tup [.str p.1,flD p.2])=.ok ((nf.map (bJ ks)).map .str):=by
 rw [List.map_map];refine d9 _ _ nf fun p hp=>⟨[some (.str p.1),some (flD p.2),some (.lst (ks.map .str))],rfl,?_⟩
 obtain ⟨h1,h2⟩:=h p hp;have e:=nJ CR CP CS CD n hm h1 hks h2;show (cu CR CP CS CD n [.lst (ks.map .str),.str p.1,flD p.2])=_;rw [e];rfl
theorem bes_at (rows r2:List (List Int)):bE [CP] "beside" (mn CR CP rows (aE r2))=.ok (aE r2):=by
 have h1:((("beside":Str)==("gaps":Str))=false):=by decide +kernel
 have h2:((("beside":Str)==("beside":Str))=true):=by decide +kernel
 show (if ([CP].contains CP)=true then (match List.lookup ("beside":Str) [(("gaps":Str),aE rows),(("beside":Str),aE r2)] with|some d=>Except.ok d|none=>stk) else stk)=_;rw [if_pos (by simp),List.lookup_cons,h1,List.lookup_cons,h2]
noncomputable def Sht.ru (w:Sht):Dat:=mn CR CP w.rows w.bD
theorem Sht.bD_or (w:Sht):w.bD=.non\/∃r2,w.bD=aE r2:=by
 unfold Sht.bD;cases w.o with
 |none=>exact .inl rfl
 |some r2=>exact .inr ⟨r2,rfl⟩
theorem wk (n:Nat) (h:w.Good):aS CR CP CS CD n [w.ru CR CP]=.ok (aE w.rows):=by
 have e1:=gaps_at CR CP w.rows w.bD w.bD_or;have e2:=pI CR CP CS CD n w.rows (by have:=h.rows.1;have:=h.k6;omega);simp [aS,iz,Sht.ru,e1,e2]
theorem wR (n:Nat) (h:w.Good) (ho:w.o=some r2):bh CR CP CS CD n [w.ru CR CP]=.ok (aE r2):=by
 have e2:=pI CR CP CS CD n r2 (by have:=(h.o r2 ho).1;have:=h.k6;omega);have eb:w.bD=aE r2:=by unfold Sht.bD;rw [ho]
 have e1:=bes_at CR CP w.rows r2;simp [bh,gH,Sht.ru,eb,e1,e2]
end
section
variable (CR CP CS CD:Addr)
theorem A1 (hne:CR≠CP) (w:Sht) (m:Str) (h1:(m==("gaps":Str))=false) (h2:(m==("beside":Str))=false) (g g2:List Dat->M Dat) (fo:ai->M Dat) (ρ:ai) (e:fo ρ=.ok (w.ru CR CP)) :
  gW CR CP m g g2 fo aB ρ=if w.o.isSome=true then g2 [w.ru CR CP] else g [w.ru CR CP]:=by
 unfold gW;rw [e];unfold Sht.ru Sht.bD;have hcp:(CP==CR)=false:=by simp;exact fun z=>hne z.symm
 cases w.o with
 |none=>
  show (if isC CR m (.ins CR [("gaps",aE w.rows)])=true then _ else _)=_;have:isC CR m (.ins CR [("gaps",aE w.rows)])=true:=by
   show ((CR==CR)&&(List.lookup m [(("gaps":Str),aE w.rows)]).isNone)=true;rw [List.lookup_cons,h1];simp
  rw [if_pos this];rfl
 |some r2=>
  show (if isC CR m (.ins CP [("gaps",aE w.rows),("beside",aE r2)])=true then _ else if isC CP m (.ins CP [("gaps",aE w.rows),("beside",aE r2)])=true then _ else _)=_;have z1:isC CR m (.ins CP [("gaps",aE w.rows),("beside",aE r2)])=false:=by
   show ((CP==CR)&&_)=false;rw [hcp];rfl
  have z2:isC CP m (.ins CP [("gaps",aE w.rows),("beside",aE r2)])=true:=by
   show ((CP==CP)&&(List.lookup m [(("gaps":Str),aE w.rows),(("beside":Str),aE r2)]).isNone)=true;rw [List.lookup_cons,h1,List.lookup_cons,h2];simp
  rw [z1,if_neg (by decide),if_pos z2];rfl
theorem ru_gap (hne:CR≠CP) (n:Nat) (h:w.Good) (fo:ai->M Dat) (ρ:ai) (e:fo ρ=.ok (w.ru CR CP)):gW CR CP "gap_rows" (aS CR CP CS CD n) (aS CR CP CS CD n) fo aB ρ=.ok (aE w.rows):=by
 rw [A1 CR CP hne w "gap_rows" (by decide +kernel) (by decide +kernel) _ _ fo ρ e,wk CR CP CS CD n h];split<;>rfl
theorem A0 (hne:CR≠CP) (n:Nat) (fo:ai->M Dat) (ρ:ai) (e:fo ρ=.ok (w.ru CR CP)):gW CR CP "many_strips" (cf CR CP CS CD n) (cE CR CP CS CD n) fo aB ρ=.ok (.int (if w.o.isSome=true then 2 else 1)):=by
 rw [A1 CR CP hne w "many_strips" (by decide +kernel) (by decide +kernel) _ _ fo ρ e];split<;>simp [cE,gF,cf,gc]
theorem ru_bes (n:Nat) (h:w.Good) (ho:w.o=some r2) (fo:ai->M Dat) (ρ:ai) (e:fo ρ=.ok (w.ru CR CP)):iI CP "beside_rows" (bh CR CP CS CD n) fo aB ρ=.ok (aE r2):=by
 have eb:=wR CR CP CS CD n h ho;unfold iI;rw [e];have er:w.ru CR CP=.ins CP [("gaps",aE w.rows),("beside",aE r2)]:=by unfold Sht.ru Sht.bD;rw [ho];rfl
 have z2:isC CP "beside_rows" (w.ru CR CP)=true:=by
  rw [er];show ((CP==CP)&&(List.lookup ("beside_rows":Str) [(("gaps":Str),aE w.rows),(("beside":Str),aE r2)]).isNone)=true;rw [List.lookup_cons,show (("beside_rows":Str)==("gaps":Str))=false by decide +kernel,List.lookup_cons,show (("beside_rows":Str)==("beside":Str))=false by decide +kernel];simp
 show (if isC CP "beside_rows" (w.ru CR CP)=true then _ else _)=_;rw [if_pos z2];exact eb
theorem ru_isi (hne:CR≠CP) (w:Sht):isiC [(CR,false),(CP,true)] (w.ru CR CP)=.ok (.bl w.o.isSome):=by
 unfold Sht.ru Sht.bD;have hcp:(CP==CR)=false:=by simp;exact fun z=>hne z.symm
 cases w.o with
 |none=>
  show (match List.lookup CR [(CR,false),(CP,true)] with|some b=>Except.ok (Dat.bl b)|none=>stk)=_;rw [List.lookup_cons,show (CR==CR)=true by simp];rfl
 |some r2=>
  show (match List.lookup CP [(CR,false),(CP,true)] with|some b=>Except.ok (Dat.bl b)|none=>stk)=_;rw [List.lookup_cons,hcp,List.lookup_cons,show (CP==CP)=true by simp];rfl
theorem text_ok (hne:CR≠CP) (n:Nat) (h:w.Good):cY CR CP CS CD n [w.kD,w.ru CR CP,w.nD,w.fD,w.cD]=.ok (.str w.tx):=by
 have e1:=AL w.ks h.kl;have e2:=ru_gap CR CP CS CD hne n h (ah 1) [some w.kD,some (w.ru CR CP),some w.nD,some w.fD,some w.cD,none] rfl;have e3:=kb CR CP CS CD n lgap w.ks h.kl h.k6 1 w.rows h.rows.nat;have e4:=ru_isi CR CP hne w;have e5:=wL w.cs h.cl;have e6:=fl_comp CR CP CS CD n h.k6 h.kl w.nf h.nl;have e7:=nl_comp w.rs h.A4;have hrs:=h.rs_len;have l1:w.ks.length<=16777216:=by have:=h.k6;omega
 have l2:w.cs.length<=16777216:=by have:=h.cm;omega
 have l3:w.nf.length<=16777216:=by have:=h.nm;omega
 have l4:w.rs.length<=16777216:=by omega
 obtain ⟨B,hB⟩:∃B,sQ w.ks w.o=B:=⟨_,rfl⟩
 have hsum:w.ks.length+(bo "gap" 1 w.ks w.ks w.rows).length+B.length+w.cs.length+w.nf.length<=200:=by
  have:=h.rs_len;unfold Sht.rs rowsOf at this;simp only [List.length_append,List.length_map,hB] at this;exact this
 have e8:∀acc:List Str,acc.length<=200->ic CR CP CS CD n [some w.kD,some (w.ru CR CP),some w.nD,some w.fD,some w.cD,some (.lst (acc.map .str))]=.ok (.nx [some w.kD,some (w.ru CR CP),some w.nD,some w.fD,some w.cD,some (.lst ((acc++B).map .str))]):=fun acc hacc=>by
  cases ho:w.o with
  |none=>
   rw [ho] at e4 hB;have hB:B=[]:=hB.symm;simp [ic,e4,hB]
  |some r2=>
   have e9:=ru_bes CR CP CS CD n h ho (ah 1) [some w.kD,some (w.ru CR CP),some w.nD,some w.fD,some w.cD,none] rfl;have e10:=kb CR CP CS CD n lbes w.ks h.kl h.k6 0 r2 (h.o r2 ho).nat;rw [ho] at e4 hB;have hB:bo "beside" 0 w.ks w.ks r2=B:=hB;rw [hB] at e10;have hle:acc.length+B.length<=16777216:=by omega
   simp [ic,e4,e9,Sht.kD,e10,hle] at e9 ⊢
 have er:w.ks.map cI++bo "gap" 1 w.ks w.ks w.rows++B++w.cs.map dN++w.nf.map (bJ w.ks)=w.rs:=by rw [<- hB];rfl
 have b1:w.ks.length+(bo "gap" 1 w.ks w.ks w.rows).length<=16777216:=by omega
 have b2:w.ks.length+((bo "gap" 1 w.ks w.ks w.rows).length+B.length)+w.cs.length<=16777216:=by omega
 have b3:w.ks.length+((bo "gap" 1 w.ks w.ks w.rows).length+(B.length+w.cs.length))+w.nf.length<=16777216:=by omega
 have e8':=e8 (w.ks.map cI++bo "gap" 1 w.ks w.ks w.rows) (by simp;omega);have hj:((w.rs.map (·++NLs)).map (·.length)).sum<=16777216:=by
  have:=lenLe (w.rs.map (·++NLs)) 401 (fun x hx=>by
   obtain ⟨y,hy,rfl⟩:=List.mem_map.mp hx;have:=h.A4 y hy;rw [gq,Av];omega)
  rw [List.length_map] at this;omega
 have ez:(Str.ofString "").length=0:=by decide +kernel
 have es:=iK (w.rs.map (·++NLs));have ec:=xI (w.rs.map (·++NLs));have z:=zB w.nf;have em:List.map Dat.str (List.map cI w.ks)++(List.map Dat.str (bo "gap" 1 w.ks w.ks w.rows)++(List.map Dat.str B++(List.map Dat.str (List.map dN w.cs)++List.map Dat.str (List.map (bJ w.ks) w.nf))))=w.rs.map .str:=by
  rw [<- er];simp only [List.map_append,List.append_assoc]
 rw [<- er] at l4;simp only [Sht.kD,Sht.nD,Sht.fD,Sht.cD,List.map_append,List.append_assoc] at e2 e8' ⊢;simp only [List.length_append,List.length_map,Nat.add_assoc] at l4;simp [cY,uB,e1,l1,e2,e3,b1,e8',e5,l2,b2,z,e6,l3,b3,jC,l4,-List.map_map];rw [em,e7];have hj':((w.rs.map (·++NLs)).map (·.length)).sum+(w.rs.map (·++NLs)).length*(Str.ofString "").length<=16777216:=by rw [ez,Nat.mul_zero];exact hj
 simp only [aq,wo,es,sizeLine_eq,if_pos hj',ec];rfl
end
theorem yu (h:a.length+b.length<=16777216):cn (.str a) (.str b)=.ok (.str (a++b)):=by
 unfold cn;simp only;rw [if_pos (by rw [sizeLine_eq];exact h)]
theorem joinG (k o:Str) (g:Int) (w:Str):Str.join (Str.ofString " ") [w,k,o,aK g]=gV w k o g:=by
 unfold gV SP;simp only [Str.join,bu]
theorem rowAt' (h:i<rows.length):f9 (rows.map mq) (i:Int)=.ok (mq rows[i]):=by
 unfold f9 atI ixN;rw [if_pos (by omega),if_pos (by simp<;>omega)];simp [h]
theorem intAt' {r:List Int} (h:i<r.length):f9 (r.map .int) (i:Int)=.ok (.int r[i]):=by
 unfold f9 atI ixN;rw [if_pos (by omega),if_pos (by simp<;>omega)];simp [h]
theorem strAt' (h:i<r.length):f9 (r.map .str) (i:Int)=.ok (.str r[i]):=by
 unfold f9 atI ixN;rw [if_pos (by omega),if_pos (by simp<;>omega)];simp [h]
theorem dE {α:Type} (f:α->Dat) (n:Nat) (h:∀x,okE (f x) n=true):∀L:List α,jt (L.map f) n=true
 |[]=>rfl
 |x::L=>by simp [jt,h x,dE f n h L]
theorem hG (h:okE d 40=true):neM d d=.ok (.bl false):=by
 unfold neM;rw [h];simp [n8 h]
theorem zU (h:okE d 40=true):eqM d d=.ok (.bl true):=by
 unfold eqM;rw [h];simp [n8 h]
theorem okE_tz (x:List Int) (n:Nat):okE (nA x) (n+1)=true:=by
 unfold nA;simp only [okE];exact dE _ _ (fun _=>by simp [okE]) x
theorem okE_lt (xs:List (List Int)) (n:Nat):okE (.lst (xs.map nA)) (n+2)=true:=by
 simp only [okE];exact dE _ _ (fun x=>okE_tz x n) xs
theorem Ap (rows:List (List Int)) (n:Nat):okE (aE rows) (n+2)=true:=by
 unfold aE;simp only [okE];refine dE _ _ (fun r=>?_) rows;unfold mq;simp only [okE];exact dE _ _ (fun _=>by simp [okE]) r
theorem xu (xs:List Str) (n:Nat):okE (.lst (xs.map .str)) (n+1)=true:=by
 simp only [okE];exact dE _ _ (fun _=>by simp [okE]) xs
noncomputable def flZ (f:Fli):List Int:=[f.kind,f.first,f.last,f.due,f.price]
noncomputable def stZ (p:pQ):List Int:=[p.1,p.2]
theorem flD_map (l:List Fli):l.map flD=(l.map flZ).map nA:=by rw [List.map_map];rfl
theorem stD_map (l:List pQ):l.map stD=(l.map stZ).map nA:=by rw [List.map_map];rfl
section
variable (CR CP CS CD:Addr)
theorem ym (n:Nat) (x:List Int):aL (.nm 0) gd (fL (gD CR CP CS CD n) (aa (ah 0) aB)) [none] (x.map .int)=.ok ((x.map fun _=>true).map Dat.bl):=by
 rw [List.map_map];refine d9 _ _ x fun i _=>⟨[some (.int i)],rfl,?_⟩
 simp [gD,mE]
theorem nv (n:Nat) (L:Nat) (hL:L<=100) (a0 a1:Option Dat):∀(xs:List (List Int)) (z3:Option Dat),(∀x∈xs,x.length=L)->∃y3,gw (.nm 3) (dO CR CP CS CD n) (xs.map nA) [a0,a1,some (.int L),z3]=.ok (.nx [a0,a1,some (.int L),y3])
 |[],z3,_=>⟨z3,rfl⟩
 |x::xs,z3,h=>by
  have hx:=h x (by simp);have hl:x.length<=16777216:=by omega
  have hl2:L<=16777216:=by omega
  have ec:=ym CR CP CS CD n x;have en:neM (.int (L:Int)) (.int (L:Int))=.ok (.bl false):=hG rfl;have ea:(x.map fun _=>true).all id=true:=by simp
  have eb:dO CR CP CS CD n [a0,a1,some (.int L),some (nA x)]=.ok (.nx [a0,a1,some (.int L),some (nA x)]):=by
   simp [dO,ja,j9,nA,hx,hl2,ec,ea,-List.map_map]
  obtain ⟨y3,ih⟩:=nv n L hL a0 a1 xs (some (nA x)) fun y hy=>h y (by simp [hy]);refine ⟨y3,?_⟩
  rw [<- ih];simp [gw,eb]
theorem t9 (n:Nat) (L:Nat) (hL:L<=100) (xs:List (List Int)) (h:∀x∈xs,x.length=L):c9 CR CP CS CD n [.lst (xs.map nA),.lst (xs.map nA),.int L]=.ok (.bl true):=by
 have en:=hG (okE_lt xs 38);obtain ⟨y3,e⟩:=nv CR CP CS CD n L hL (some (.lst (xs.map nA))) (some (.lst (xs.map nA))) xs none h;simp [c9,kL,jb,en,e]
noncomputable def Sht.obj (w:Sht):Dat:=.ins CS [("kinds",w.kD),("rules",w.ru CR CP),("names",w.nD),("flights",w.fD),("closed",w.cD),("text",.str w.tx)]
theorem obj_at (w:Sht):bE [CS] "kinds" (w.obj CR CP CS)=.ok w.kD/\bE [CS] "rules" (w.obj CR CP CS)=.ok (w.ru CR CP)/\bE [CS] "names" (w.obj CR CP CS)=.ok w.nD/\bE [CS] "flights" (w.obj CR CP CS)=.ok w.fD/\bE [CS] "closed" (w.obj CR CP CS)=.ok w.cD/\bE [CS] "text" (w.obj CR CP CS)=.ok (.str w.tx):=by
 have ne:∀a b:Str,a≠b->(a==b)=false:=fun a b h=>by simp [h]
 have key:∀(y:Str) (d:Dat),List.lookup y [(("kinds":Str),w.kD),(("rules":Str),w.ru CR CP),(("names":Str),w.nD),(("flights":Str),w.fD),(("closed":Str),w.cD),(("text":Str),.str w.tx)]=some d->bE [CS] y (w.obj CR CP CS)=.ok d:=fun y d h=>by
  show (if ([CS].contains CS)=true then (match List.lookup y [(("kinds":Str),w.kD),(("rules":Str),w.ru CR CP),(("names":Str),w.nD),(("flights":Str),w.fD),(("closed":Str),w.cD),(("text":Str),Dat.str w.tx)] with|some d=>Except.ok d|none=>stk) else stk)=_;rw [if_pos (by simp),h]
 have e1:(("rules":Str)==("kinds":Str))=false:=by decide +kernel
 have e2:(("names":Str)==("kinds":Str))=false:=by decide +kernel
 have e3:(("names":Str)==("rules":Str))=false:=by decide +kernel
 have e4:(("flights":Str)==("kinds":Str))=false:=by decide +kernel
 have e5:(("flights":Str)==("rules":Str))=false:=by decide +kernel
 have e6:(("flights":Str)==("names":Str))=false:=by decide +kernel
 have e7:(("closed":Str)==("kinds":Str))=false:=by decide +kernel
 have e8:(("closed":Str)==("rules":Str))=false:=by decide +kernel
 have e9:(("closed":Str)==("names":Str))=false:=by decide +kernel
 have e10:(("closed":Str)==("flights":Str))=false:=by decide +kernel
 have e11:(("text":Str)==("kinds":Str))=false:=by decide +kernel
 have e12:(("text":Str)==("rules":Str))=false:=by decide +kernel
 have e13:(("text":Str)==("names":Str))=false:=by decide +kernel
 have e14:(("text":Str)==("flights":Str))=false:=by decide +kernel
 have e15:(("text":Str)==("closed":Str))=false:=by decide +kernel
 refine ⟨key _ _ ?_,key _ _ ?_,key _ _ ?_,key _ _ ?_,key _ _ ?_,key _ _ ?_⟩<;>simp only [List.lookup_cons,beq_self_eq_true,e1,e2,e3,e4,e5,e6,e7,e8,e9,e10,e11,e12,e13,e14,e15]
theorem obj_isi (w:Sht):isiC [(CS,true)] (w.obj CR CP CS)=.ok (.bl true):=by
 show (match List.lookup CS [(CS,true)] with|some b=>Except.ok (Dat.bl b)|none=>stk)=_;rw [List.lookup_cons,show (CS==CS)=true by simp]
theorem is_ok (hne:CR≠CP) (n:Nat) (h:w.Good):g7 CR CP CS CD n [w.obj CR CP CS,w.D]=.ok (.bl true):=by
 obtain ⟨a1,a2,a3,a4,a5,a6⟩:=obj_at CR CP CS w;have ei:=obj_isi CR CP CS w;have n1:neM w.kD w.kD=.ok (.bl false):=hG (xu _ 39);have n2:neM w.nD w.nD=.ok (.bl false):=hG (xu _ 39);have n3:neM (aE w.rows) (aE w.rows)=.ok (.bl false):=hG (Ap _ 38);have t1:c9 CR CP CS CD n [w.fD,w.fD,.int 5]=.ok (.bl true):=by
  unfold Sht.fD;rw [flD_map];exact t9 CR CP CS CD n 5 (by decide) _ fun x hx=>by obtain ⟨f,_,rfl⟩:=List.mem_map.mp hx;rfl
 have t2:c9 CR CP CS CD n [w.cD,w.cD,.int 2]=.ok (.bl true):=by
  unfold Sht.cD;rw [stD_map];exact t9 CR CP CS CD n 2 (by decide) _ fun x hx=>by obtain ⟨f,_,rfl⟩:=List.mem_map.mp hx;rfl
 generalize hE:([some (w.obj CR CP CS),some w.D,some w.kD,some (aE w.rows),some w.bD,some w.nD,some w.fD,some w.cD]:ai)=E;have er:f1 (bE [CS] "rules") (ah 0) E=.ok (w.ru CR CP):=by rw [<- hE];exact a2
 have g1:=ru_gap CR CP CS CD hne n h (f1 (bE [CS] "rules") (ah 0)) E er;have g2:=A0 CR CP CS CD hne n (w:=w) (f1 (bE [CS] "rules") (ah 0)) E er;subst hE;cases ho:w.o with
 |none=>
  have eb:w.bD=.non:=by unfold Sht.bD;rw [ho]
  rw [eb] at g1 g2;rw [ho] at g2;simp only [Sht.D,eb] at g1 g2 ⊢;simp [g7,oQ,jZ,jY,jX,jW,ei,a1,a3,n1,n2,a4,a5,t1,t2,g1,n3,g2,b2z]
 |some r2=>
  have eb:w.bD=aE r2:=by unfold Sht.bD;rw [ho]
  have g3:=ru_bes CR CP CS CD n h ho (f1 (bE [CS] "rules") (ah 0)) _ er;have q:=zU (Ap r2 38);have en:vV (aE r2) .non=.ok (.bl true):=rfl;have en2:isND (aE r2) .non=.ok (.bl false):=rfl;rw [eb] at g1 g2 g3;rw [ho] at g2;simp only [Sht.D,eb,aE] at g1 g2 g3 n3 q ⊢;simp [g7,oQ,jZ,jY,jX,jW,ei,a1,a3,n1,n2,a4,a5,t1,t2,g1,n3,g2,g3,q,b2z]
end
theorem take63 {ns:List Int} (h:ns.length<=63):gT (.lst (ns.map .int)) none (some 63)=.ok (.lst (ns.map .int)):=by
 show Except.ok (Dat.lst (cutL (ns.map Dat.int) none (some 63)))=_
 congr 2
 unfold cutL cX;rw [List.drop_zero,List.take_of_length_le];simp;omega
theorem pick3 (A B C s:Int) (hs:s=0\/s=1\/s=2):∃a,(a=A\/a=B\/a=C)/\f9 [.int A,.int B,.int C] s=.ok (.int a):=by
 rcases hs with rfl|rfl|rfl
 ·exact ⟨A,.inl rfl,by simp⟩
 ·exact ⟨B,.inr (.inl rfl),by simp⟩
 ·exact ⟨C,.inr (.inr rfl),by simp⟩
theorem pick4 (A B C D s:Int) (hs:s=0\/s=1\/s=2\/s=3):∃a,(a=A\/a=B\/a=C\/a=D)/\f9 [.int A,.int B,.int C,.int D] s=.ok (.int a):=by
 rcases hs with rfl|rfl|rfl|rfl
 ·exact ⟨A,.inl rfl,by simp⟩
 ·exact ⟨B,.inr (.inl rfl),by simp⟩
 ·exact ⟨C,.inr (.inr (.inl rfl)),by simp⟩
 ·exact ⟨D,.inr (.inr (.inr rfl)),by simp⟩
noncomputable def LT:Str:="abcdefghijklmnopqrstuvwxyz"
noncomputable def DG:Str:="0123456789"
noncomputable def LD:Str:="abcdefghijklmnopqrstuvwxyz0123456789"
theorem BI:LT.length=26:=by decide +kernel
theorem DG_len:DG.length=10:=by decide +kernel
theorem LD_len:LD.length=36:=by decide +kernel
section
variable (CR CP CS CD:Addr)
theorem wN (n:Nat) (ns:List Int) (j:Nat):∃x,bq CR CP CS CD n [.lst (ns.map .int),.int j]=.ok (.int x)/\0<=x:=by
 by_cases h:j<ns.length
 ·refine ⟨ns[j]%1000000000000000000000000,?_,Int.emod_nonneg _ (by decide)⟩
  have e:=mZ (ds:=ns.map Dat.int) (k:=j) (by simpa using h);simp [bq,gM,eZ,h,e]
 ·exact ⟨0,by simp [bq,gM,eZ,h],by omega⟩
theorem xw (y:Int):0<=(y*1442695040888963407+4321)%2305843009213693921/\(y*1442695040888963407+4321)%2305843009213693921<2305843009213693921:=⟨Int.emod_nonneg _ (by decide),Int.emod_lt_of_pos _ (by decide)⟩
theorem cW (n:Nat) (ns:List Int) (hns:ns.length<=63) (k:Int) (h0:0<=k) (h1:k<1000000):∃x,aO CR CP CS CD n [.lst (ns.map .int),.int k]=.ok (.int x)/\0<=x/\x<2305843009213693921:=by
 have hk3: -18446744073709551616<k:=by omega
 have hk4:k<18446744073709551616:=by omega
 have et:=take63 hns;by_cases hl:0<ns.length
 ·have hm0:0<=k%(ns.length:Int):=Int.emod_nonneg _ (by omega);have hm1:k%(ns.length:Int)<(ns.length:Int):=Int.emod_lt_of_pos _ (by omega);have hl':(0:Int)<ns.length:=by omega
  have hne:ns≠[]:=fun e=>by rw [e] at hl;simp at hl
  refine ⟨_,?_,xw ((ns[(k%(ns.length:Int)).toNat]'(by omega)%1000000000000000000000000+k*k*7919+ns.length)*48271%2305843009213693951)⟩
  simp [aO,i8,gk,et,hl,hne,getI_int hm0 hm1,e_mod hl',hk3,hk4]
 ·have hne:ns=[]:=by cases ns with|nil=>rfl|cons a b=>simp at hl
  subst hne;refine ⟨_,?_,xw ((13*k+5+k*k*7919+0)*48271%2305843009213693951)⟩
  simp only [List.map_nil] at et;simp [aO,i8,gk,et,hk3,hk4]
theorem gap1 (n:Nat) (x:Int):∃g,eA CR CP CS CD n [.int x]=.ok (.int g)/\0<=g/\g<=1000000:=by
 obtain ⟨a,ha,ea⟩:=pick4 (x/16%7) (x/16%1000001) 0 (x/16%100) (x%4) (by omega);exact ⟨a,by simp [eA,qR,ea],by omega,by omega⟩
theorem yq (n:Nat) (x:Int):∃g,cb CR CP CS CD n [.int x]=.ok (.int g)/\0<=g/\g<=1000000000:=by
 obtain ⟨a,ha,ea⟩:=pick3 (x/16%60) (x/16%1000000001) (x/16%1000) (x%3) (by omega);exact ⟨a,by simp [cb,oN,ea],by omega,by omega⟩
end
theorem nj {p:Pat} {fe:ai->M Dat} {ρ0:ai} (P:Int->Prop):∀ds:List Dat,(∀d∈ds,∃ρ y,gz p d ρ0=.ok ρ/\fe ρ=.ok (.int y)/\P y)->∃ys:List Int,ys.length=ds.length/\(∀y∈ys,P y)/\aL p gd fe ρ0 ds=.ok (ys.map .int)
 |[],_=>⟨[],rfl,by simp,rfl⟩
 |d::ds,h=>by
  obtain ⟨ρ,y,e1,e2,hy⟩:=h d (by simp);obtain ⟨ys,hl,hp,e⟩:=nj P ds fun x hx=>h x (by simp [hx]);refine ⟨y::ys,by simp [hl],fun z hz=>?_,?_⟩
  ·rcases List.mem_cons.mp hz with rfl|hz
   ·exact hy
   ·exact hp z hz
  ·simp [aL,gd,e1,e2,e]
section
variable (CR CP CS CD:Addr)
theorem mem_range (h:d∈bz 0 k):∃j:Nat,j<k/\d=.int j:=by
 obtain ⟨i,hi⟩:=List.mem_iff_getElem?.mp h;obtain ⟨h1,h2⟩:=dX hi;exact ⟨_,h1,h2⟩
theorem data2 (n:Nat) (ns:List Int) (hns:ns.length<=63) (ks:List Str) (hk:ks.length<=6) (z2:Option Dat):∃(rows r2:List (List Int)) (y2 y5:Option Dat),bK ks.length rows/\bK ks.length r2/\gw (.nm 2) (fO CR CP CS CD n) (bz 0 ks.length) [some (.lst (ns.map .int)),some (.lst (ks.map .str)),z2,some (.lst []),some (.lst []),none,none,none,none,none,none,none]=.ok (.nx [some (.lst (ns.map .int)),some (.lst (ks.map .str)),y2,some (aE rows),some (aE r2),y5,none,none,none,none,none,none]):=by
 obtain ⟨ρ',e,rows,r2,y2,y5,rfl,h1,h2,h3,h4⟩:=i9 (p:=.nm 2) (g:=fO CR CP CS CD n)
  (fun i ρ=>∃(rows r2:List (List Int)) (z2 z5:Option Dat),ρ=[some (.lst (ns.map .int)),some (.lst (ks.map .str)),z2,some (aE rows),some (aE r2),z5,none,none,none,none,none,none]/\rows.length=i/\r2.length=i/\(∀x∈rows,sU ks.length x)/\∀x∈r2,sU ks.length x) (bz 0 ks.length) 0 _ ⟨[],[],z2,none,rfl,rfl,rfl,by simp,by simp⟩ (by
  rintro i d ρ hd ⟨rows,r2,z2,z5,rfl,hr1,hr2,hr3,hr4⟩;obtain ⟨hi,rfl⟩:=dX hd;have hm:(i:Int)*ks.length<=36:=by
   have:i*ks.length<=6*6:=Nat.mul_le_mul (by omega) hk
   exact_mod_cast this
  have hm0:0<=(i:Int)*ks.length:=Int.mul_nonneg (by omega) (by omega);have hl0:ks.length<=16777216:=by omega
  have i1: -18446744073709551616<(i:Int):=by omega
  have i2:(i:Int)<18446744073709551616:=by omega
  obtain ⟨xs,hxl,hx,ex⟩:=nj (p:=.nm 0) (fe:=fL (aO CR CP CS CD n) (aa (ah 1) (aa (f2 cn (f2 cn (fC (.int 7)) (f2 si (ah 3) (fL ku (aa (ah 2) aB)))) (ah 0)) aB))) (ρ0:=[none,some (.lst (ns.map .int)),some (.lst (ks.map .str)),some (.int (i:Int))]) (fun _=>True) (bz 0 ks.length) (fun d hd=>by
   obtain ⟨j,hj,rfl⟩:=mem_range hd;obtain ⟨x,ex,x0,x1⟩:=cW CR CP CS CD n ns hns (7+(i:Int)*ks.length+(j:Int)) (by omega) (by omega);exact ⟨_,x,rfl,by simp [ex,i1,i2,hl0],trivial⟩)
  obtain ⟨g1,hg1,hq1,e1⟩:=nj (p:=.nm 0) (fe:=fL (eA CR CP CS CD n) (aa (ah 0) aB)) (ρ0:=[none]) (fun y=>0<=y/\y<=1000000) (xs.map .int) (fun d hd=>by
   obtain ⟨x,_,rfl⟩:=List.mem_map.mp hd;obtain ⟨g,eg,q⟩:=gap1 CR CP CS CD n x;exact ⟨_,g,rfl,by simp [eg],q⟩)
  obtain ⟨g2,hg2,hq2,e2⟩:=nj (p:=.nm 0) (fe:=fL (eA CR CP CS CD n) (aa (f2 cT (ah 0) (fC (.int 64))) aB)) (ρ0:=[none]) (fun y=>0<=y/\y<=1000000) (xs.map .int) (fun d hd=>by
   obtain ⟨x,_,rfl⟩:=List.mem_map.mp hd;obtain ⟨g,eg,q⟩:=gap1 CR CP CS CD n (x/64);exact ⟨_,g,rfl,by simp [eg],q⟩)
  rw [dh] at hxl;rw [List.length_map] at hg1 hg2;have hl1:rows.length<16777216:=by omega
  have hl2:r2.length<16777216:=by omega
  have hl3:xs.length<=16777216:=by omega
  have k1: -4611686018427387904<=(ks.length:Int):=by omega
  have k2:(ks.length:Int)<4611686018427387904:=by omega
  refine ⟨_,by simp;rfl,?_⟩
  refine ⟨_,.inl (by simp [fO,aE,hl0,k1,k2,ex,e1,e2,hl1,hl2,hl3,dh];rfl),rows++[g1],r2++[g2],some (.int i),some (.lst (xs.map .int)),by simp [aE,mq],by simp;omega,by simp;omega,fun y hy=>?_,fun y hy=>?_⟩
  ·rcases List.mem_append.mp hy with z|z
   ·exact hr3 y z
   ·simp at z;subst z;exact ⟨by omega,hq1⟩
  ·rcases List.mem_append.mp hy with z|z
   ·exact hr4 y z
   ·simp at z;subst z;exact ⟨by omega,hq2⟩)
 rw [Nat.zero_add,dh] at h1 h2;exact ⟨rows,r2,y2,y5,⟨h1,h3⟩,⟨h2,h4⟩,e⟩
end
section
variable (CR CP CS CD:Addr)
theorem new1 (n:Nat) (h1:1<=k) (h6:k<=6) (hr:bK k rows):newR CR (aD CR CP CS CD n) [aE rows]=.ok (mn CR CP rows .non):=by
 have e:=m9 CR CP CS CD n k rows h1 h6 hr;simp [newR,e,mn]
theorem new2 (n:Nat) (h1:1<=k) (h6:k<=6) (hr:bK k rows) (hr2:bK k r2):newP CP (aD CR CP CS CD n) [aE rows,aE r2]=.ok (mn CR CP rows (aE r2)):=by
 have e1:=m9 CR CP CS CD n k rows h1 h6 hr;have e2:=m9 CR CP CS CD n k r2 h1 h6 hr2;have ht:twoL (aE rows) (aE r2)=true:=by simp [twoL,aE,hr.1,hr2.1]
 simp only [newP,e1,e2,aq,ht,if_true];rfl
end
noncomputable def jn (c:Nat):List (List Nat)->List Nat
 |[]=>[]
 |[x]=>x
 |x::y::r=>x++c::jn c (y::r)
theorem jn_uniq (c:Nat):∀(ps qs:List (List Nat)),ps≠[]->qs≠[]->(∀p∈ps,c∉p)->(∀q∈qs,c∉q)->jn c ps=jn c qs->ps=qs:=by
 have key:∀(x y a b:List Nat),c∉x->c∉y->x++c::a=y++c::b->x=y/\a=b:=by
  intro x
  induction x with
  |nil=>
   intro y a b _ hy h;cases y with
   |nil=>exact ⟨rfl,by simpa using h⟩
   |cons z y=>exact absurd (by simp at h;simp [h.1]) hy
  |cons z x ih=>
   intro y a b hx hy h;cases y with
   |nil=>exact absurd (by simp at h;simp [h.1]) hx
   |cons z' y=>
    simp only [List.cons_append,List.cons.injEq] at h;obtain ⟨h1,h2⟩:=ih y a b (fun m=>hx (by simp [m])) (fun m=>hy (by simp [m])) h.2;exact ⟨by rw [h.1,h1],h2⟩
 have mem:∀{x a:List Nat},c∈x++c::a:=by intro x a;simp
 intro ps
 induction ps with
 |nil=>intro qs h;exact absurd rfl h
 |cons x ps ih=>
  intro qs _ hq hp hq2 h;cases ps with
  |nil=>
   match qs,hq with
   |[y],_=>exact congrArg (fun z=>[z]) h
   |y::y2::qs,_=>exact absurd (by rw [show x=_ from h];exact mem) (hp x (by simp))
  |cons x2 ps=>
   match qs,hq with
   |[y],_=>exact absurd (by rw [show y=_ from h.symm];exact mem) (hq2 y (by simp))
   |y::y2::qs,_=>
    obtain ⟨h1,h2⟩:=key x y _ _ (hp x (by simp)) (hq2 y (by simp)) h;rw [h1,ih (y2::qs) (by simp) (by simp) (fun p m=>hp p (by simp [m])) (fun q m=>hq2 q (by simp [m])) h2]
theorem join_one (sep a:Str):Str.join sep [a]=a:=rfl
theorem jj (sep a b:Str) (r:List Str):Str.join sep (a::b::r)=a++sep++Str.join sep (b::r):=rfl
theorem wc (c:Nat):∀xs:List Str,(Str.join ⟨#[c]⟩ xs).cps.toList=jn c (xs.map fun x=>x.cps.toList)
 |[]=>rfl
 |[x]=>rfl
 |x::y::r=>by
  rw [jj];show ((x.cps++#[c])++(Str.join ⟨#[c]⟩ (y::r)).cps).toList=_;rw [Array.toList_append,Array.toList_append,wc c (y::r)];simp [jn]
theorem str_ext (h:a.cps.toList=b.cps.toList):a=b:=by
 obtain ⟨⟨a⟩⟩:=a;obtain ⟨⟨b⟩⟩:=b;cases (show a=b from h);rfl
noncomputable def free (c:Nat) (x:Str):Prop:=c∉x.cps.toList
theorem rF (c:Nat) (ps:List Str) (hn:ps≠[]) (h:∀p∈ps,free c p):Txt.split (Str.join ⟨#[c]⟩ ps) ⟨#[c]⟩=ps:=by
 have h1:=StrLaws.join_split (Str.join ⟨#[c]⟩ ps) ⟨#[c]⟩;have h2:=StrLaws.split_free (Str.join ⟨#[c]⟩ ps) c;have h3:=split_pos (Str.join ⟨#[c]⟩ ps) ⟨#[c]⟩;generalize Txt.split (Str.join ⟨#[c]⟩ ps) ⟨#[c]⟩=qs at h1 h2 h3;have h4:jn c (qs.map fun x=>x.cps.toList)=jn c (ps.map fun x=>x.cps.toList):=by rw [<- wc,<- wc,h1]
 have h5:=jn_uniq c _ _ (by intro z;rw [List.map_eq_nil_iff] at z;rw [z] at h3;simp at h3) (by simpa using hn) (fun p hp=>by
  obtain ⟨x,hx,rfl⟩:=List.mem_map.mp hp;exact h2 x hx) (fun p hp=>by
  obtain ⟨x,hx,rfl⟩:=List.mem_map.mp hp;exact h x hx) h4
 have inj:∀(l m:List Str),(l.map fun x=>x.cps.toList)=(m.map fun x=>x.cps.toList)->l=m:=by
  intro l
  induction l with
  |nil=>intro m h;cases m with
   |nil=>rfl
   |cons _ _=>simp at h
  |cons a l ih=>intro m h;cases m with
   |nil=>simp at h
   |cons b m=>
    simp only [List.map_cons,List.cons.injEq] at h;rw [str_ext h.1,ih m h.2]
 exact inj _ _ h5
theorem NLs_is:NLs=⟨#[10]⟩:=by decide +kernel
theorem SP_is:SP=⟨#[32]⟩:=by decide +kernel
noncomputable def AE (c:Nat):Prop:=(97<=c/\c<=122)\/(48<=c/\c<=57)
structure Wd (x:Str):Prop where
 ne:x.cps.toList≠[]
 sg:∀c∈x.cps.toList,AE c
theorem Wd.free {x:Str} (h:Wd x) {c:Nat} (hc:¬AE c):Ru.free c x:=fun m=>hc (h.sg c m)
theorem xP (ha:Ru.free c a) (hb:Ru.free c b):Ru.free c (a++b):=by
 intro m;have:c∈(a.cps++b.cps).toList:=m;rw [Array.toList_append,List.mem_append] at this;exact this.elim ha hb
theorem oT {c d:Nat} (hcd:c≠d):∀ps:List Str,(∀p∈ps,Ru.free c p)->Ru.free c (Str.join ⟨#[d]⟩ ps)
 |[],_=>by intro m;exact absurd (show c∈([]:List Nat) from m) (by simp)
 |[x],h=>h x (by simp)
 |x::y::r,h=>by
  rw [jj];exact xP (xP (h x (by simp)) fun m=>hcd (by simpa using (show c∈[d] from m))) (oT hcd (y::r) fun p m=>h p (by simp [m]))
theorem ky (m:Nat):(aK (m:Int)).cps.toList=(Nat.toDigits 10 m).map Char.toNat:=PySem.W.KIN.signs_num m
theorem oB {i:Int} (h0:0<=i):∀c∈(aK i).cps.toList,48<=c/\c<=57:=by
 obtain ⟨m,rfl⟩:=Int.eq_ofNat_of_zero_le h0;intro c hc;rw [ky] at hc;obtain ⟨ch,hch,e⟩:=List.mem_map.mp hc;have r:=PyProof.Rows.digit_range (Nat.isDigit_of_mem_toDigits (by decide) (by decide) hch);rw [<- e];exact r
theorem itoa_ne {i:Int} (h0:0<=i):(aK i).cps.toList≠[]:=by
 obtain ⟨m,rfl⟩:=Int.eq_ofNat_of_zero_le h0;rw [ky];intro e;have h:=Nat.toDigits_ne_nil (n:=m) (b:=10);exact h (List.map_eq_nil_iff.mp e)
theorem jQ {i:Int} (h0:0<=i):Wd (aK i):=⟨itoa_ne h0,fun c hc=>.inr (oB h0 c hc)⟩
theorem dig_head:∀m:Nat,0<m->∃c r,Nat.toDigits 10 m=c::r/\c≠'0':=by
 intro m
 induction m using Nat.strongRecOn with
 |_ m ih=>
  intro hm;by_cases h:m<10
  ·refine ⟨_,[],Nat.toDigits_of_lt_base h,?_⟩
   have:∀d:Nat,d<10->0<d->Nat.digitChar d≠'0':=by decide
   exact this m h hm
  ·have t:Nat.toDigits 10 (m/10)++Nat.toDigits 10 (m%10)=Nat.toDigits 10 (10*(m/10)+m%10):=Nat.toDigits_append_toDigits (by decide) (by omega) (Nat.mod_lt m (by decide));rw [Nat.div_add_mod] at t;obtain ⟨c,r,e,hc⟩:=ih (m/10) (by omega) (by omega);exact ⟨c,r++Nat.toDigits 10 (m%10),by rw [<- t,e];rfl,hc⟩
theorem AO {i:Int} (h0:0<=i):∃c r,(aK i).cps.toList=c::r/\(c=48->i=0):=by
 obtain ⟨m,rfl⟩:=Int.eq_ofNat_of_zero_le h0;by_cases hm:m=0
 ·subst hm;exact ⟨48,[],by rw [ky];decide,fun _=>rfl⟩
 ·obtain ⟨c,r,e,hc⟩:=dig_head m (by omega);refine ⟨c.toNat,r.map Char.toNat,by rw [ky,e];rfl,fun z=>absurd ?_ hc⟩
  exact Char.toNat_inj.mp (by rw [z];decide)
theorem AN:aK 0=("0":Str):=by decide +kernel
theorem FIG_list:(Str.ofString "0123456789").cps.toList=[48,49,50,51,52,53,54,55,56,57]:=by decide +kernel
theorem LET_list:(Str.ofString "abcdefghijklmnopqrstuvwxyz").cps.toList=[97,98,99,100,101,102,103,104,105,106,107,108,109,110,111,112,113,114,115,116,117,118,119,120,121,122]:=by decide +kernel
theorem Ba (c:Nat):c∈(Str.ofString "0123456789").cps.toList↔48<=c/\c<=57:=by
 rw [FIG_list];simp only [List.mem_cons,List.not_mem_nil,or_false];omega
theorem w5 (c:Nat):c∈(Str.ofString "abcdefghijklmnopqrstuvwxyz").cps.toList↔97<=c/\c<=122:=by
 rw [LET_list];simp only [List.mem_cons,List.not_mem_nil,or_false];omega
theorem ix0 {r:List Nat} (e:z.cps.toList=c::r) (hl:z.length<=100):zx (.str z) (.int 0)=.ok (.str ⟨#[c]⟩):=by
 show (if z.length<=sizeLine then _ else _)=_;rw [if_pos (by rw [sizeLine_eq];omega),e];have:atI (c::r) (0:Int)=some c:=by unfold atI ixN;simp
 rw [this]
theorem one_eq (c:Nat) (s:Str) (d:Nat) (hs:s=⟨#[d]⟩):eqM (.str ⟨#[c]⟩) (.str s)=.ok (.bl (decide (c=d))):=by
 subst hs;by_cases h:c=d
 ·subst h;simp [eqM,okE,eqD]
 ·have:(⟨#[c]⟩:Str)≠⟨#[d]⟩:=fun z=>h (by injection z with z;injection z with z;injection z);simp [eqM,okE,eqD,h]
theorem all_true:∀l:List Dat,(∀d∈l,d=.bl true)->allD [.lst l]=.ok (.bl true):=by
 intro l h;have:l=(l.map fun _=>true).map Dat.bl:=by
  rw [List.map_map]
  conv=>lhs;rw [<- List.map_id l]
  exact List.map_congr_left fun d hd=>h d hd
 rw [this];simp [-List.map_map]
section
variable (CR CP CS CD:Addr)
theorem cG (n:Nat) {i:Int} (h0:0<=i) (h1:i<10^10):cH CR CP CS CD n [.str (aK i)]=.ok (.int i):=by
 have hl:(aK i).length<=10:=PySem.W.KT.len_num h0 h1;have hl2:(aK i).length<=16777216:=by omega
 have hl3:(aK i).length<=640:=by omega
 have hr:PySem.intText? (aK i)=some i:=PySem.W.KIN.num_reads h0 h1;obtain ⟨c,r,e,hc⟩:=AO h0;have hx:=ix0 e (by omega);have hsz:(aK i).cps.size<=16777216:=hl2;have cm:aL (.nm 0) gd (f2 inSD (ah 0) (fC (.str "0123456789"))) [none] ((aK i).cps.toList.map fun c=>.str ⟨#[c]⟩)=.ok ((aK i).cps.toList.map fun _=>Dat.bl true):=
  d9 _ _ _ fun c hm=>⟨[some (.str ⟨#[c]⟩)],by simp,by simp [(Ba c).mpr (oB h0 c hm)]⟩
 have al:=all_true ((aK i).cps.toList.map fun _=>Dat.bl true) (by simp);have hgt:¬(10:Int)<((aK i).length:Int):=by omega
 have z0:(Str.ofString "0")=⟨#[48]⟩:=by decide +kernel
 have e1:=one_eq c (Str.ofString "0") 48 z0;have t2:Bc (fB (f2 eqM (f2 zx (ah 0) (fC (.int 0))) (fC (.str "0")))) (fB (f2 neM (ah 0) (fC (.str "0")))) [some (.str (aK i))]=.ok false:=by
  by_cases hc0:c=48
  ·have hi:=hc hc0;subst hi;have:neM (.str (aK 0)) (.str "0")=.ok (.bl false):=by rw [AN];exact hG rfl
   have e2:eqM (.str ⟨#[c]⟩) (.str "0")=.ok (.bl true):=by rw [e1];simp [hc0]
   simp [hx,e2,this]
  ·have e2:eqM (.str ⟨#[c]⟩) (.str "0")=.ok (.bl false):=by rw [e1];simp [hc0]
   simp [hx,e2]
 have c1:ig CR CP CS CD n [some (.str (aK i))]=.ok (.nx [some (.str (aK i))]):=by
  simp [ig,hl2,gtD,hgt,cm,hsz,al]
 have c2:ie CR CP CS CD n [some (.str (aK i))]=.ok (.nx [some (.str (aK i))]):=by
  unfold ie;rw [e_if,t2];simp
 simp [cH,oJ,c1,c2,hl3,hr]
structure Nm (x:Str):Prop where
 wd:Wd x
 l8:x.length<=8
 hd:∃c r,x.cps.toList=c::r/\97<=c/\c<=122
theorem qN (n:Nat) (h:Nm x):iR CR CP CS CD n [.str x]=.ok (.bl true):=by
 have hl2:x.length<=16777216:=by have:=h.l8;omega
 have hgt:¬(8:Int)<(x.length:Int):=by have:=h.l8;omega
 obtain ⟨c,r,e,hc⟩:=h.hd;have hx:=ix0 e (by have:=h.l8;omega);have hsz:x.cps.size<=16777216:=hl2;have cm:aL (.nm 0) gd (Bb (f2 inSD (ah 0) (fC (.str "abcdefghijklmnopqrstuvwxyz"))) (f2 inSD (ah 0) (fC (.str "0123456789")))) [none] (x.cps.toList.map fun c=>.str ⟨#[c]⟩)=.ok (x.cps.toList.map fun _=>Dat.bl true):=
  d9 _ _ _ fun c hm=>⟨[some (.str ⟨#[c]⟩)],by simp,by
   rcases h.wd.sg c hm with z|z
   ·simp [Bb,(w5 c).mpr z]
   ·have:c∉(Str.ofString "abcdefghijklmnopqrstuvwxyz").cps.toList:=fun m=>by have:=(w5 c).mp m;omega
    simp [Bb,this,(Ba c).mpr z]⟩
 have al:=all_true (x.cps.toList.map fun _=>Dat.bl true) (by simp);have c1:jV CR CP CS CD n [some (.str x)]=.ok (.nx [some (.str x)]):=by
  simp [jV,hl2,gtD,hgt,hx,(w5 c).mpr hc]
 simp [iR,uC,c1,cm,hsz,al]
theorem yj (n:Nat):bV CR CP CS CD n [.str ""]=.ok (.lst []):=by
 have hs:Txt.split (Str.ofString "") " "=[Str.ofString ""]:=by decide +kernel
 have l1:(Str.ofString " ").length=1:=by decide +kernel
 have l2:(Str.ofString "").length+2<=16777216:=by decide +kernel
 have e:neM (.str "") (.str "")=.ok (.bl false):=hG rfl;have cm:aL (.nm 0) (fB (f2 neM (ah 0) (fC (.str "")))) (ah 0) [none] [.str ""]=.ok []:=by
  rw [aL];simp [e,aL]
 simp [bV,lQ,hs,l1,l2,cm,g8]
end
theorem memS (k:Str) (ks:List Str):((ks.map Dat.str).any fun d=>eqD d (.str k))=decide (k∈ks):=by
 rw [Bool.eq_iff_iff];simp only [List.any_eq_true,List.mem_map,decide_eq_true_eq];constructor
 ·rintro ⟨d,⟨s,hs,rfl⟩,h⟩;have:s=k:=by simpa [eqD] using h
  rw [<- this];exact hs
 ·intro h;exact ⟨.str k,⟨k,h,rfl⟩,by simp [eqD]⟩
theorem inS (k:Str) (ks:List Str):inM (.str k) (.lst (ks.map .str))=.ok (.bl (decide (k∈ks))):=by
 have h2:jt (ks.map Dat.str) 40=true:=dE _ _ (fun _=>rfl) ks;show (if (okE (.str k) 40&&jt (ks.map Dat.str) 40)=true then Except.ok (Dat.bl ((ks.map Dat.str).any fun d=>eqD d (.str k))) else stk)=_;rw [if_pos (by rw [h2];rfl),memS]
theorem xx (k:Str) (ks:List Str):iy (.str k) (.lst (ks.map .str))=.ok (.bl (!decide (k∈ks))):=by
 have h2:jt (ks.map Dat.str) 40=true:=dE _ _ (fun _=>rfl) ks;show (if (okE (.str k) 40&&jt (ks.map Dat.str) 40)=true then Except.ok (Dat.bl (!((ks.map Dat.str).any fun d=>eqD d (.str k)))) else stk)=_;rw [if_pos (by rw [h2];rfl),memS]
theorem AW (hn:ks.Nodup) (hi:i<ks.length):idxS ks ks[i]=some i:=by
 refine List.findIdx?_eq_some_iff_getElem.mpr ⟨hi,by simp,fun j hj=>?_⟩;have hne:ks[j]≠ks[i]:=fun z=>by
  have:=(List.getElem?_inj (show j<ks.length by omega) hn (j:=i)).mp (by rw [List.getElem?_eq_getElem (by omega),List.getElem?_eq_getElem hi,z]);omega
 simpa using hne
theorem sh (a b:Int) (h:a=b):neM (.int a) (.int b)=.ok (.bl false):=by subst h;exact hG rfl
section
variable (CR CP CS CD:Addr)
theorem tf (n:Nat) {w k:Str} (h6:ks.length<6) (hk:Nm k) (hn:k∉ks):eh CR CP CS CD n [.lst (ks.map .str),.lst [.str w,.str k]]=.ok (.str k):=by
 have e1:=qN CR CP CS CD n hk;have e2:iy (.str k) (.lst (ks.map .str))=.ok (.bl true):=by rw [xx];simp [hn]
 have e3:=sh 2 2 rfl;have e4:¬(6:Int)<=(ks.length:Int):=by omega
 have g1:f9 [.str w,.str k] 1=.ok (.str k):=rfl;simp [eh,oI,kY,e1,e2,e3,e4,g1]
theorem nC (n:Nat) (hn:ks.Nodup) {w:Str} (hi:i<ks.length) (hj:j<ks.length) (h0:0<=g) (h1:g<=1000000):cM CR CP CS CD n [.lst (ks.map .str),.lst [.str w,.str ks[i],.str ks[j],.str (aK g)]]=.ok (.tup [.int i,.int j,.int g]):=by
 have e1:=cG CR CP CS CD n h0 (by omega);have e2:=uy CR CP CS CD n g h0 h1;have e3:=sh 4 4 rfl;have m1:iy (.str ks[i]) (.lst (ks.map .str))=.ok (.bl false):=by rw [xx];simp
 have m2:iy (.str ks[j]) (.lst (ks.map .str))=.ok (.bl false):=by rw [xx];simp
 have x1:=AW hn hi;have x2:=AW hn hj;have g1:f9 [.str w,.str ks[i],.str ks[j],.str (aK g)] 1=.ok (.str ks[i]):=rfl;have g2:f9 [.str w,.str ks[i],.str ks[j],.str (aK g)] 2=.ok (.str ks[j]):=rfl;have g3:f9 [.str w,.str ks[i],.str ks[j],.str (aK g)] 3=.ok (.str (aK g)):=rfl;simp [cM,qQ,mJ,e1,e2,e3,m1,m2,x1,x2,g1,g2,g3,iK,isL]
noncomputable def St1 (p:pQ):Prop:=0<=p.1/\p.1<p.2/\p.2<=1000000000
theorem su (n:Nat) (h:St1 p):eN CR CP CS CD n [stD p]=.ok (.bl true):=by
 obtain ⟨h0,h1,h2⟩:=h;have g0:f9 [.int p.1,.int p.2] 0=.ok (.int p.1):=rfl;have g1:f9 [.int p.1,.int p.2] 1=.ok (.int p.2):=rfl;simp [eN,mC,iZ,stD,g0,g1,h0,h1,h2]
theorem uz (n:Nat) (hl:cs.length<=20) (h:∀p∈cs,St1 p):i0 CR CP CS CD n [.lst (cs.map stD)]=.ok (.bl true):=by
 have cm:aL (.nm 0) gd (fL (eN CR CP CS CD n) (aa (ah 0) aB)) [none] (cs.map stD)=.ok (cs.map fun _=>Dat.bl true):=d9 _ _ _ fun p hp=>⟨[some (stD p)],by simp,by simp [su CR CP CS CD n (h p hp)]⟩
 have al:=all_true (cs.map fun _=>Dat.bl true) fun d hd=>by obtain ⟨_,_,rfl⟩:=List.mem_map.mp hd;rfl
 have h1:(cs.length:Int)<=20:=by omega
 have h2:cs.length<=16777216:=by omega
 simp [i0,oK,h1,h2,cm,g8,al,lY]
theorem nB (n:Nat) {w:Str} (hl:cs.length<20) (h:∀p∈cs,St1 p) (hp:St1 p):cq CR CP CS CD n [.lst (cs.map stD),.lst [.str w,.str (aK p.1),.str (aK p.2)]]=.ok (stD p):=by
 obtain ⟨h0,h1,h2⟩:=hp;have e1:=cG CR CP CS CD n (i:=p.1) h0 (by omega);have e2:=cG CR CP CS CD n (i:=p.2) (by omega) (by omega);have e3:=sh 3 3 rfl;have ec:=uz CR CP CS CD n (cs:=cs++[p]) (by simp;omega) fun q hq=>(List.mem_append.mp hq).elim (h q) fun z=>by rw [List.mem_singleton.mp z];exact ⟨h0,h1,h2⟩
 have ea:cn (.lst (cs.map stD)) (.lst [.tup [.int p.1,.int p.2]])=.ok (.lst ((cs++[p]).map stD)):=by
  have:cs.length+1<=16777216:=by omega
  simp [cn,stD,this]
 have g1:f9 [.str w,.str (aK p.1),.str (aK p.2)] 1=.ok (.str (aK p.1)):=rfl;have g2:f9 [.str w,.str (aK p.1),.str (aK p.2)] 2=.ok (.str (aK p.2)):=rfl;have nn:iy .non (.tup [.int p.1,.int p.2])=.ok (.bl true):=rfl;simp [cq,jD,iE,e1,e2,e3,g1,g2,nn,ea,ec,-List.map_append];rfl
structure Fl1 (k:Nat) (f:Fli):Prop where
 k0:0<=f.kind
 k1:f.kind<k
 a:0<=f.first
 b:f.first<=f.last
 c:f.last<=1000000000
 d:0<=f.due/\f.due<=1000000000
 e:0<=f.price/\f.price<=1000000000
theorem i6 (n:Nat) {x:Int} (h:0<=x/\x<=1000000000):dH CR CP CS CD n [.int x]=.ok (.bl true):=by
 simp [dH,kJ,iB,h.1,h.2]
theorem right_ok (n:Nat) (h:Fl1 k f):c8 CR CP CS CD n [flD f]=.ok (.bl true):=by
 have g1:f9 [.int f.kind,.int f.first,.int f.last,.int f.due,.int f.price] 1=.ok (.int f.first):=rfl;have g2:f9 [.int f.kind,.int f.first,.int f.last,.int f.due,.int f.price] 2=.ok (.int f.last):=rfl;have es:gT (.tup [.int f.kind,.int f.first,.int f.last,.int f.due,.int f.price]) (some 1) none=.ok (.tup [.int f.first,.int f.last,.int f.due,.int f.price]):=by simp [gT,cutL,cX]
 have r1:=i6 CR CP CS CD n (x:=f.first) ⟨h.a,by have:=h.b;have:=h.c;omega⟩;have r2:=i6 CR CP CS CD n (x:=f.last) ⟨by have:=h.a;have:=h.b;omega,h.c⟩;have r3:=i6 CR CP CS CD n (x:=f.due) h.d;have r4:=i6 CR CP CS CD n (x:=f.price) h.e;have hb:=h.b;have cm:aL (.nm 0) gd (fL (dH CR CP CS CD n) (aa (ah 0) aB)) [none] [.int f.first,.int f.last,.int f.due,.int f.price]=.ok [.bl true,.bl true,.bl true,.bl true]:=by simp [aL,r1,r2,r3,r4]
 have al:=all_true [.bl true,.bl true,.bl true,.bl true] (by simp);simp [c8,g9,flD,g1,g2,es,cm,al,hb,lY,g8]
theorem pT (n:Nat) {ns:List Str} (hn:ks.Nodup) {w:Str} (h:Fl1 ks.length f) (h4:ns.length<40) (hm:Nm nm) (hx:nm∉ns) :
  c7 CR CP CS CD n [.lst (ks.map .str),.lst (ns.map .str),.lst [.str w,.str nm,.str (kAt ks f.kind),.str (aK f.first),.str (aK f.last),.str (aK f.due),.str (aK f.price)]]=.ok (flD f):=by
 have hk:f.kind.toNat<ks.length:=by have:=h.k0;have:=h.k1;omega
 have ek:kAt ks f.kind=ks[f.kind.toNat]:=by unfold kAt;simp [hk]
 have ei:((f.kind.toNat:Nat):Int)=f.kind:=by have:=h.k0;omega
 have x1:=AW hn hk;have e3:=sh 7 7 rfl;have e4:¬(40:Int)<=(ns.length:Int):=by omega
 have m1:iy (.str ks[f.kind.toNat]) (.lst (ks.map .str))=.ok (.bl false):=by rw [xx];simp
 have m2:inM (.str nm) (.lst (ns.map .str))=.ok (.bl false):=by rw [inS];simp [hx]
 have e5:=qN CR CP CS CD n hm;have hb:=h.b;have hc:=h.c;have ha:=h.a;have n1:=cG CR CP CS CD n (i:=f.first) h.a (by omega);have n2:=cG CR CP CS CD n (i:=f.last) (by omega) (by omega);have n3:=cG CR CP CS CD n (i:=f.due) h.d.1 (by have:=h.d.2;omega);have n4:=cG CR CP CS CD n (i:=f.price) h.e.1 (by have:=h.e.2;omega);rw [ek];generalize hW:([.str w,.str nm,.str ks[f.kind.toNat],.str (aK f.first),.str (aK f.last),.str (aK f.due),.str (aK f.price)]:List Dat)=W;have lW:W.length=7:=by rw [<- hW];rfl
 have g1:f9 W 1=.ok (.str nm):=by rw [<- hW];rfl
 have g2:f9 W 2=.ok (.str ks[f.kind.toNat]):=by rw [<- hW];rfl
 have es:gT (.lst W) (some 3) none=.ok (.lst [.str (aK f.first),.str (aK f.last),.str (aK f.due),.str (aK f.price)]):=by rw [<- hW];simp [gT,cutL,cX]
 have cm:aL (.nm 0) gd (fL (cH CR CP CS CD n) (aa (ah 0) aB)) [none] [.str (aK f.first),.str (aK f.last),.str (aK f.due),.str (aK f.price)]=.ok [.int f.first,.int f.last,.int f.due,.int f.price]:=by simp [aL,n1,n2,n3,n4]
 have nn:inM .non (.lst [.int f.first,.int f.last,.int f.due,.int f.price])=.ok (.bl false):=rfl;have q0:f9 [.int f.first,.int f.last,.int f.due,.int f.price] 0=.ok (.int f.first):=rfl;have q1:f9 [.int f.first,.int f.last,.int f.due,.int f.price] 1=.ok (.int f.last):=rfl;have q2:f9 [.int f.first,.int f.last,.int f.due,.int f.price] 2=.ok (.int f.due):=rfl;have q3:f9 [.int f.first,.int f.last,.int f.due,.int f.price] 3=.ok (.int f.price):=rfl;have rr:=right_ok CR CP CS CD n h;unfold flD at rr ⊢;simp [c7,kI,j8,j7,j6,lW,e3,e4,g1,g2,m1,m2,e5,es,cm,nn,q0,q1,q2,q3,x1,ei,rr,iK,isL,g8]
end
structure DSt where
 ks:List Str
 G:List (List Int×Dat)
 B:List (List Int×Dat)
 nf:List (Str×Fli)
 cs:List pQ
variable {s s1 s2 s':DSt}
noncomputable def DSt.D (s:DSt):List Dat:=[.lst (s.ks.map .str),.dic s.G,.dic s.B,.lst ((s.nf.map (·.1)).map .str),.lst ((s.nf.map (·.2)).map flD),.lst (s.cs.map stD)]
section
variable {w:Str} 
theorem vU (l:List Str) (n:Nat):jt (l.map Dat.str) n=true:=dE _ _ (fun _=>rfl) l
theorem get0:f9 ((w::r).map Dat.str) 0=.ok (.str w):=by
 have:=mZ (ds:=(w::r).map Dat.str) (k:=0) (by simp);rw [show ((0:Nat):Int)=0 from rfl] at this;rw [this];rfl
theorem t1_ok (hw:Txt.startswith w "#"=false):(fOr (fB (f2 eqM (ah 1) (fL cw aB))) (lg (fSM lr (f2 ixD (ah 1) (fC (.int 0))) (fC (.str "#"))))) [none,some (.lst ((w::r).map .str))]=.ok false:=by
 have g0:f9 ((w::r).map Dat.str) 0=.ok (.str w):=get0;have e:eqM (.lst ((w::r).map Dat.str)) (.lst [])=.ok (.bl false):=by
  have h1:okE (.lst ((w::r).map Dat.str)) 40=true:=vU (w::r) 39;show (if (okE (.lst ((w::r).map Dat.str)) 40&&okE (.lst []) 40)=true then _ else _)=_;rw [if_pos (by rw [h1];rfl)];rfl
 simp [e,g0,hw,-List.map_cons]
theorem t6_ok (x:Str):(f2 eqM (f2 ixD (ah 1) (fC (.int 0))) (fC (.str x))) [none,some (.lst ((w::r).map .str))]=.ok (.bl (decide (w=x))):=by
 have g0:f9 ((w::r).map Dat.str) 0=.ok (.str w):=get0;have e:eqM (.str w) (.str x)=.ok (.bl (decide (w=x))):=by
  by_cases h:w=x
  ·subst h;simp [eqM,okE,eqD]
  ·simp [eqM,okE,eqD,h]
 simp [g0,e,-List.map_cons]
theorem tw_ok (x:Str):(fB (f2 eqM (f2 ixD (ah 1) (fC (.int 0))) (fC (.str x)))) [none,some (.lst ((w::r).map .str))]=.ok (decide (w=x)):=by
 show ((f2 eqM (f2 ixD (ah 1) (fC (.int 0))) (fC (.str x))) [none,some (.lst ((w::r).map .str))]).bind asB=_;rw [t6_ok];rfl
end
noncomputable def wK:Str:="kind"
noncomputable def wG:Str:="gap"
noncomputable def wB:Str:="beside"
noncomputable def wC:Str:="closed"
noncomputable def wF:Str:="flight"
theorem w_ne:Txt.startswith wK "#"=false/\Txt.startswith wG "#"=false/\Txt.startswith wB "#"=false/\Txt.startswith wC "#"=false/\Txt.startswith wF "#"=false:=by decide +kernel
theorem pR:wG≠wK/\wB≠wK/\wB≠wG/\wC≠wK/\wC≠wG/\wC≠wB/\wF≠wK/\wF≠wG/\wF≠wB/\wF≠wC:=by decide +kernel
section
variable (CR CP CS CD:Addr)
theorem nM (n:Nat) (s:DSt) (w:Str) (r:List Str) (hw:Txt.startswith w "#"=false):aM CR CP CS CD n s.D ((w::r).map .str) =
  if w=wK then (eh CR CP CS CD n [.lst (s.ks.map .str),.lst ((w::r).map .str)]).bind (vg 0 s.D) else
  if w=wG then (cM CR CP CS CD n [.lst (s.ks.map .str),.lst ((w::r).map .str)]).bind (putC 1 s.D) else
  if w=wB then (cM CR CP CS CD n [.lst (s.ks.map .str),.lst ((w::r).map .str)]).bind (putC 2 s.D) else
  if w=wC then (cq CR CP CS CD n [.lst (s.cs.map stD),.lst ((w::r).map .str)]).bind (vg 5 s.D) else
  if w=wF then qx (c7 CR CP CS CD n) s.D ((w::r).map .str) else .ok (false,s.D):=by
 unfold aM lq;show ((fOr _ _ _).bind _)=_;rw [t1_ok hw,aq,if_neg (by decide),tw_ok,aq,tw_ok,aq,tw_ok,aq,tw_ok,aq,t6_ok,aq];simp only [decide_eq_true_eq];show (if w=wK then _ else if w=wG then _ else if w=wB then _ else if w=wC then _ else _)=_;by_cases h1:w=wK
 ·rw [if_pos h1,if_pos h1]
 rw [if_neg h1,if_neg h1];by_cases h2:w=wG
 ·rw [if_pos h2,if_pos h2]
 rw [if_neg h2,if_neg h2];by_cases h3:w=wB
 ·rw [if_pos h3,if_pos h3]
 rw [if_neg h3,if_neg h3];by_cases h4:w=wC
 ·rw [if_pos h4,if_pos h4]
 rw [if_neg h4,if_neg h4];by_cases h5:w=wF
 ·rw [if_pos h5,show decide (w=Str.ofString "flight")=true from decide_eq_true h5]
 ·rw [if_neg h5,show decide (w=Str.ofString "flight")=false from decide_eq_false h5]
theorem row_kind (n:Nat) (s:DSt) {k:Str} (h6:s.ks.length<6) (hk:Nm k) (hn:k∉s.ks):aM CR CP CS CD n s.D ([wK,k].map .str)=.ok (true,{s with ks:=s.ks++[k]}.D):=by
 rw [nM CR CP CS CD n s wK [k] w_ne.1,if_pos rfl];have e:=tf CR CP CS CD n (w:=wK) h6 hk hn;show (eh CR CP CS CD n [.lst (s.ks.map .str),.lst [.str wK,.str k]]).bind _=_;rw [e,aq];have hl:s.ks.length<16777216:=by omega
 simp [vg,DSt.D,jv,hl]
theorem row_gap (n:Nat) (s:DSt) (hn:s.ks.Nodup) (hi:i<s.ks.length) (hj:j<s.ks.length) (h0:0<=g) (h1:g<=1000000) (hl:s.G.length<10000):aM CR CP CS CD n s.D ([wG,s.ks[i],s.ks[j],aK g].map .str)=.ok (true,{s with G:=jq s.G [(i:Int),(j:Int)] (.int g)}.D):=by
 rw [nM CR CP CS CD n s wG _ w_ne.2.1,if_neg pR.1,if_pos rfl];have e:=nC CR CP CS CD n hn (w:=wG) hi hj h0 h1;show (cM CR CP CS CD n [.lst (s.ks.map .str),.lst [.str wG,.str s.ks[i],.str s.ks[j],.str (aK g)]]).bind _=_;rw [e,aq];have hl:s.G.length<16777216:=by omega
 simp [putC,DSt.D,hl]
theorem row_bes (n:Nat) (s:DSt) (hn:s.ks.Nodup) (hi:i<s.ks.length) (hj:j<s.ks.length) (h0:0<=g) (h1:g<=1000000) (hl:s.B.length<10000):aM CR CP CS CD n s.D ([wB,s.ks[i],s.ks[j],aK g].map .str)=.ok (true,{s with B:=jq s.B [(i:Int),(j:Int)] (.int g)}.D):=by
 rw [nM CR CP CS CD n s wB _ w_ne.2.2.1,if_neg pR.2.1,if_neg pR.2.2.1,if_pos rfl];have e:=nC CR CP CS CD n hn (w:=wB) hi hj h0 h1;show (cM CR CP CS CD n [.lst (s.ks.map .str),.lst [.str wB,.str s.ks[i],.str s.ks[j],.str (aK g)]]).bind _=_;rw [e,aq];have hl:s.B.length<16777216:=by omega
 simp [putC,DSt.D,hl]
theorem yC (n:Nat) (s:DSt) (hl:s.cs.length<20) (h:∀p∈s.cs,St1 p) (hp:St1 p):aM CR CP CS CD n s.D ([wC,aK p.1,aK p.2].map .str)=.ok (true,{s with cs:=s.cs++[p]}.D):=by
 rw [nM CR CP CS CD n s wC _ w_ne.2.2.2.1,if_neg pR.2.2.2.1,if_neg pR.2.2.2.2.1,if_neg pR.2.2.2.2.2.1,if_pos rfl];have e:=nB CR CP CS CD n (w:=wC) hl h hp;show (cq CR CP CS CD n [.lst (s.cs.map stD),.lst [.str wC,.str (aK p.1),.str (aK p.2)]]).bind _=_;rw [e,aq];have hl:s.cs.length<16777216:=by omega
 simp [vg,DSt.D,jv,oZ,stD,hl]
theorem yB (n:Nat) (s:DSt) (hn:s.ks.Nodup) (h:Fl1 s.ks.length f) (h4:s.nf.length<40) (hm:Nm nm) (hx:nm∉s.nf.map (·.1)):aM CR CP CS CD n s.D ([wF,nm,kAt s.ks f.kind,aK f.first,aK f.last,aK f.due,aK f.price].map .str)=.ok (true,{s with nf:=s.nf++[(nm,f)]}.D):=by
 rw [nM CR CP CS CD n s wF _ w_ne.2.2.2.2,if_neg pR.2.2.2.2.2.2.1,if_neg pR.2.2.2.2.2.2.2.1,if_neg pR.2.2.2.2.2.2.2.2.1,if_neg pR.2.2.2.2.2.2.2.2.2,if_pos rfl];have e:=pT CR CP CS CD n (ns:=s.nf.map (·.1)) hn (w:=wF) h (by simpa using h4) hm hx;show (c7 CR CP CS CD n [.lst (s.ks.map .str),.lst ((s.nf.map (·.1)).map .str),.lst [.str wF,.str nm,.str (kAt s.ks f.kind),.str (aK f.first),.str (aK f.last),.str (aK f.due),.str (aK f.price)]]).bind _=_;rw [e,aq];have hl:s.nf.length<16777216:=by omega
 have g1:f9 [.str wF,.str nm,.str (kAt s.ks f.kind),.str (aK f.first),.str (aK f.last),.str (aK f.due),.str (aK f.price)] 1=.ok (.str nm):=rfl;have a1:vg 4 s.D (flD f)=.ok (true,[.lst (s.ks.map .str),.dic s.G,.dic s.B,.lst ((s.nf.map (·.1)).map .str),.lst ((s.nf.map (·.2)).map flD++[flD f]),.lst (s.cs.map stD)]):=by
  simp [vg,DSt.D,jv,oZ,flD,hl]
 show (vg 4 s.D (flD f)).bind _=_;rw [a1,aq];simp only [if_true];rw [show ixD (.lst ([wF,nm,kAt s.ks f.kind,aK f.first,aK f.last,aK f.due,aK f.price].map Dat.str)) (.int 1)=.ok (.str nm) from rfl,aq];simp [vg,DSt.D,jv,hl]
theorem xq (n:Nat) (s:DSt):aM CR CP CS CD n s.D []=.ok (true,s.D):=by
 have e:eqM (.lst []) (.lst [])=.ok (.bl true):=rfl;have t:(fOr (fB (f2 eqM (ah 1) (fL cw aB))) (lg (fSM lr (f2 ixD (ah 1) (fC (.int 0))) (fC (.str "#"))))) [none,some (.lst [])]=.ok true:=by simp [e]
 unfold aM lq;show ((fOr _ _ _).bind _)=_;rw [t];rfl
end
theorem xQ {k':List Int} (f:List Int×Dat->List Int×Dat) (hf:∀p,(f p).1=p.1):∀G:List (List Int×Dat),((G.map f).find? fun p=>decide (p.1=k'))=(G.find? fun p=>decide (p.1=k')).map f
 |[]=>rfl
 |p::G=>by
  rw [List.map_cons,List.find?_cons,List.find?_cons,hf p];by_cases h:p.1=k'
  ·simp [h]
  ·simp [h,xQ f hf G]
theorem getK_put (G:List (List Int×Dat)) (k:List Int) (v:Dat) (k':List Int):vf (jq G k v) k'=if k=k' then some v else vf G k':=by
 unfold jq;by_cases h:(vf G k).isSome=true
 ·rw [if_pos h];unfold vf at h ⊢;rw [xQ _ (fun p=>by by_cases e:p.1=k<;>simp [e])];by_cases e:k=k'
  ·subst e;rw [if_pos rfl];cases hh:G.find? fun p=>decide (p.1=k) with
   |none=>rw [hh] at h;cases h
   |some p=>
    have:=List.find?_some hh;simp at this;simp [this]
  ·rw [if_neg e];cases hh:G.find? fun p=>decide (p.1=k') with
   |none=>rfl
   |some p=>
    have:=List.find?_some hh;simp at this;have:p.1≠k:=fun z=>e (z.symm.trans this);simp [this]
 ·rw [if_neg h];unfold vf at h ⊢;rw [List.find?_append];by_cases e:k=k'
  ·subst e;rw [if_pos rfl];cases hh:G.find? fun p=>decide (p.1=k) with
   |none=>simp
   |some p=>rw [hh] at h;exact absurd rfl h
  ·rw [if_neg e];have:([(k,v)].find? fun p=>decide (p.1=k'))=none:=by simp [e]
   rw [this];simp
theorem Ad (G:List (List Int×Dat)) (k:List Int) (v:Dat):(jq G k v).length<=G.length+1/\jq G k v≠[]:=by
 unfold jq;split
 ·rename_i h;refine ⟨by simp,fun z=>?_⟩
  rw [List.map_eq_nil_iff] at z;rw [z] at h;cases h
 ·simp
noncomputable def Tb (k:Nat) (G:List (List Int×Dat)) (t:Nat->Nat->Int):Prop:=∀a c,a<k->c<k->(vf G [(a:Int),(c:Int)]).getD (.int 0)=.int (t a c)
theorem Tb.put (h:Tb k G t) (i j:Nat) (g:Int):Tb k (jq G [(i:Int),(j:Int)] (.int g)) fun a c=>if a=i/\c=j then g else t a c:=fun a c ha hc=>by
 rw [getK_put];show _=Dat.int (if a=i/\c=j then g else t a c);by_cases e:a=i/\c=j
 ·rw [if_pos (by rw [e.1,e.2]),if_pos e];rfl
 ·rw [if_neg (fun z=>e (by simp at z;omega)),if_neg e];exact h a c ha hc
theorem Tb.eq {t':Nat->Nat->Int} (h:Tb k G t) (e:∀a c,a<k->c<k->t a c=t' a c):Tb k G t':=fun a c ha hc=>by rw [<- e a c ha hc];exact h a c ha hc
structure RowT (x:Str) (ws:List Str):Prop where
 e:x=Str.join SP ws
 ne:ws≠[]
 wd:∀w∈ws,Wd w
 l1:x.length<=10000
 l2:ws.length<=100
theorem RowT.free {x:Str} {ws:List Str} (h:RowT x ws):Ru.free 10 x:=by
 rw [h.e,SP_is];exact oT (by decide) ws fun p hp=>(h.wd p hp).free (by unfold AE;omega)
noncomputable def DSt.tab (b:Bool) (s:DSt):List (List Int×Dat):=match b with
 |false=>s.G
 |true=>s.B
noncomputable def DSt.setT (b:Bool) (s:DSt) (X:List (List Int×Dat)):DSt:=match b with
 |false=>{s with G:=X}
 |true=>{s with B:=X}
theorem DSt.set_ks (b:Bool) (s:DSt) (X:List (List Int×Dat)):(s.setT b X).ks=s.ks:=by cases b<;>rfl
noncomputable def wT:Bool->Str
 |false=>wG
 |true=>wB
section
variable (CR CP CS CD:Addr)
structure Tk (n:Nat) (s:DSt) (rs:List Str) (s':DSt):Prop where
 go:∀(k:Nat) (rest:List Dat),tX (aM CR CP CS CD n) (bV CR CP CS CD n) k (rs.map .str++rest) s.D=tX (aM CR CP CS CD n) (bV CR CP CS CD n) (k+rs.length) rest s'.D
 fr:∀r∈rs,free 10 r
theorem Tk.nil (n:Nat) (s:DSt):Tk CR CP CS CD n s [] s:=⟨fun _ _=>rfl,by simp⟩
variable {CR CP CS CD:Addr}
theorem Tk.app {a b:List Str} (h1:Tk CR CP CS CD n s a s1) (h2:Tk CR CP CS CD n s1 b s2):Tk CR CP CS CD n s (a++b) s2:=
 ⟨fun k rest=>by rw [List.map_append,List.append_assoc,h1.go,h2.go,List.length_append,Nat.add_assoc],fun r hr=>(List.mem_append.mp hr).elim (h1.fr r) (h2.fr r)⟩
theorem Tk.cons {rs:List Str} (h1:Tk CR CP CS CD n s [x] s1) (h2:Tk CR CP CS CD n s1 rs s2):Tk CR CP CS CD n s (x::rs) s2:=Tk.app h1 h2
theorem wd_w:Wd wK/\Wd wG/\Wd wB/\Wd wC/\Wd wF:=by
 have:∀x:Str,x.cps.toList≠[]->(x.cps.toList.all fun c=>decide (97<=c/\c<=122))=true->Wd x:=fun x h1 h2=>⟨h1,fun c hc=>.inl (of_decide_eq_true (List.all_eq_true.mp h2 c hc))⟩
 exact ⟨this _ (by decide +kernel) (by decide +kernel),this _ (by decide +kernel) (by decide +kernel),this _ (by decide +kernel) (by decide +kernel),this _ (by decide +kernel) (by decide +kernel),this _ (by decide +kernel) (by decide +kernel)⟩
theorem Nm.wa (h:Nm x):x.length<=100:=by have:=h.l8;omega
theorem AM {k:Str} (h:Nm k):RowT (cI k) [wK,k]:=by
 refine ⟨?_,by simp,fun w hw=>?_,?_,by simp⟩
 ·unfold cI;rw [show (Str.ofString "kind ")=wK++SP by decide +kernel];rfl
 ·simp only [List.mem_cons,List.not_mem_nil,or_false] at hw;rcases hw with rfl|rfl
  ·exact wd_w.1
  ·exact h.wd
 ·have:=oo h.wa;omega
theorem gapRow_T {w:Str} (hw:Wd w) (lw:w.length<=100) (ha:Nm a) (hb:Nm b) (h0:0<=g) (h1:g<=1000000):RowT (gV w a b g) [w,a,b,aK g]:=by
 refine ⟨?_,by simp,fun x hx=>?_,?_,by simp⟩
 ·exact (joinG a b g w).symm
 ·simp only [List.mem_cons,List.not_mem_nil,or_false] at hx;rcases hx with rfl|rfl|rfl|rfl
  ·exact hw
  ·exact ha.wd
  ·exact hb.wd
  ·exact jQ h0
 ·have:=qP lw ha.wa hb.wa (g:=g) (by omega);omega
theorem wT_ok (b:Bool):Wd (wT b)/\(wT b).length<=100:=by
 cases b
 ·exact ⟨wd_w.2.1,lgap⟩
 ·exact ⟨wd_w.2.2.1,lbes⟩
theorem row_T (n:Nat) (b:Bool) (s:DSt) (hn:s.ks.Nodup) (hi:i<s.ks.length) (hj:j<s.ks.length) (h0:0<=g) (h1:g<=1000000) (hl:(s.tab b).length<10000):aM CR CP CS CD n s.D ([wT b,s.ks[i],s.ks[j],aK g].map .str)=.ok (true,(s.setT b (jq (s.tab b) [(i:Int),(j:Int)] (.int g))).D):=by
 cases b
 ·exact row_gap CR CP CS CD n s hn hi hj h0 h1 hl
 ·exact row_bes CR CP CS CD n s hn hi hj h0 h1 hl
noncomputable def A5 (r:List Int) (c:Nat):Int:=r.getD c 0
end
section
theorem wM (h:St1 p):RowT (dN p) [wC,aK p.1,aK p.2]:=by
 obtain ⟨h0,h1,h2⟩:=h;refine ⟨?_,by simp,fun w hw=>?_,?_,by simp⟩
 ·unfold dN;rw [show (Str.ofString "closed ")=wC++SP by decide +kernel,bu,bu];simp only [jj,join_one,bu]
 ·simp only [List.mem_cons,List.not_mem_nil,or_false] at hw;rcases hw with rfl|rfl|rfl
  ·exact wd_w.2.2.2.1
  ·exact jQ h0
  ·exact jQ (by omega)
 ·have:=kX (p:=p) ⟨by omega,by omega⟩;omega
theorem Fl1.bfl (h:Fl1 k f):BFl k f:=by
 obtain ⟨k0,k1,a,b,c,d,e⟩:=h;constructor<;>omega
theorem wm (hk:∀k∈ks,Nm k) (hm:Nm nm) (h:Fl1 ks.length f):RowT (bJ ks (nm,f)) [wF,nm,kAt ks f.kind,aK f.first,aK f.last,aK f.due,aK f.price]:=by
 have hb:=h.bfl;obtain ⟨k0,k1,a,b,c,d,e⟩:=h;have hka:kAt ks f.kind∈ks:=(sget k0 k1).2;refine ⟨?_,by simp,fun w hw=>?_,?_,by simp⟩
 ·unfold bJ;simp only [jj,join_one,bu];rfl
 ·simp only [List.mem_cons,List.not_mem_nil,or_false] at hw;rcases hw with rfl|rfl|rfl|rfl|rfl|rfl|rfl
  ·exact wd_w.2.2.2.2
  ·exact hm.wd
  ·exact (hk _ hka).wd
  ·exact jQ a
  ·exact jQ (by omega)
  ·exact jQ d.1
  ·exact jQ e.1
 ·have:=kM hm.wa (fun k hk'=>(hk k hk').wa) hb;omega
end
noncomputable def tabL (k:Nat) (t:Nat->Nat->Int):List (List Int):=(List.range k).map fun i=>(List.range k).map fun j=>t i j
theorem rangeD (k:Nat):bz 0 k=(List.range k).map fun i:Nat=>Dat.int (i:Int):=by
 unfold bz;refine List.map_congr_left fun i _=>?_;simp
theorem tj (h:bK k rows):tabL k (fun a c=>A5 (rows.getD a []) c)=rows:=by
 refine List.ext_getElem (by simp [tabL,h.1]) fun i h1 h2=>?_;have hr:=h.2 rows[i] (List.getElem_mem h2);refine List.ext_getElem (by simp [tabL,hr.1]) fun j h3 h4=>?_;simp [tabL,A5,h2,h4]
section
variable (CR CP CS CD:Addr)
theorem mz (n:Nat) (hk:k<=6) (h:Tb k G t):fZ CR CP CS CD n [.dic G,.int k]=.ok (aE (tabL k t)):=by
 have k1:(-4611686018427387904:Int)<=(k:Int):=by omega
 have k2:(k:Int)<4611686018427387904:=by omega
 have k3:((k:Int)).toNat=k:=by omega
 have hkl:k<=16777216:=by omega
 have row:∀i,i<k->iS CR CP CS CD n [.dic G,.int (i:Nat),.int k]=.ok (mq ((List.range k).map fun j=>t i j)):=fun i hi=>by
  have cm:aL (.nm 0) gd (uF (ah 1) (fL iQ (aa (ah 2) (aa (ah 0) aB))) (fC (.int 0))) [none,some (.dic G),some (.int (i:Nat))] ((List.range k).map fun j:Nat=>Dat.int (j:Int))=.ok ((List.range k).map fun j=>Dat.int (t i j)):=
   d9 _ _ _ fun j hj=>⟨[some (.int (j:Int)),some (.dic G),some (.int (i:Nat))],by simp,by
    have:=h i j hi (List.mem_range.mp hj);have kd:keyD (.tup [.int (i:Nat),.int (j:Nat)])=.ok [(i:Int),(j:Int)]:=rfl;simp [uF,isDic,B2,kd,this]⟩
  simp [iS,uD,k1,k2,k3,rangeD,hkl,cm];simp [mq]
 have cm:aL (.nm 0) gd (fL (iS CR CP CS CD n) (aa (ah 1) (aa (ah 0) (aa (ah 2) aB)))) [none,some (.dic G),some (.int k)] ((List.range k).map fun j:Nat=>Dat.int (j:Int))=.ok ((List.range k).map fun i=>mq ((List.range k).map fun j=>t i j)):=
  d9 _ _ _ fun i hi=>⟨[some (.int (i:Int)),some (.dic G),some (.int k)],by simp,by simp [row i (List.mem_range.mp hi)]⟩
 simp [fZ,oM,k1,k2,k3,rangeD,hkl,cm];simp [aE,tabL]
end
structure Sht.SG (w:Sht):Prop where
 k1:1<=w.ks.length
 k6:w.ks.length<=6
 kn:∀k∈w.ks,Nm k
 kd:w.ks.Nodup
 rows:bK w.ks.length w.rows
 o:∀r2,w.o=some r2->bK w.ks.length r2
 nm:w.nf.length<=40
 nn:∀p∈w.nf,Nm p.1/\Fl1 w.ks.length p.2
 nd:(w.nf.map (·.1)).Nodup
 cm:w.cs.length<=20
 cl:∀p∈w.cs,St1 p
theorem Sht.SG.good (h:w.SG):w.Good:=⟨h.k1,h.k6,fun k hk=>(h.kn k hk).wa,h.rows,h.o,h.nm,fun p hp=>⟨(h.nn p hp).1.wa,(h.nn p hp).2.bfl⟩,h.cm,fun p hp=>by
 obtain ⟨a,b,c⟩:=h.cl p hp;omega⟩
noncomputable def s0:DSt:=⟨[],[],[],[],[]⟩
noncomputable abbrev tR (rows:List (List Int)):Nat->Nat->Int:=fun a c=>A5 (rows.getD a []) c
structure Desc (s:DSt) (w:Sht):Prop where
 ks:s.ks=w.ks
 nf:s.nf=w.nf
 cs:s.cs=w.cs
 g:Tb w.ks.length s.G (tR w.rows)
 b0:w.o=none->s.B=[]
 b1:∀r2,w.o=some r2->s.B≠[]/\Tb w.ks.length s.B (tR r2)
section
variable {CR:Addr}
theorem tk_empty (n:Nat) (s:DSt):Tk CR CP CS CD n s [("":Str)] s:=by
 refine ⟨fun k rest=>?_,fun r hr=>by rw [List.mem_singleton.mp hr];exact fun m=>absurd m (by decide +kernel)⟩
 show (bV CR CP CS CD n [.str ""]).bind _=_;rw [yj,aq];show (aM CR CP CS CD n s.D []).bind _=_;rw [xq,aq];rfl
theorem dr_at (s:DSt):bE [CD] "kinds" (drD CD s.D)=.ok (.lst (s.ks.map .str))/\bE [CD] "gaps" (drD CD s.D)=.ok (.dic s.G)/\bE [CD] "beside" (drD CD s.D)=.ok (.dic s.B)/\bE [CD] "names" (drD CD s.D)=.ok (.lst ((s.nf.map (·.1)).map .str))/\bE [CD] "flights" (drD CD s.D)=.ok (.lst ((s.nf.map (·.2)).map flD))/\bE [CD] "closed" (drD CD s.D)=.ok (.lst (s.cs.map stD)):=by
 have key:∀(y:Str) (d:Dat),((["kinds","gaps","beside","names","flights","closed"]:List Str).zip s.D).lookup y=some d->bE [CD] y (drD CD s.D)=.ok d:=fun y d h=>by
  show (if ([CD].contains CD)=true then (match ((["kinds","gaps","beside","names","flights","closed"]:List Str).zip s.D).lookup y with|some d=>Except.ok d|none=>stk) else stk)=_;rw [if_pos (by simp),h]
 exact ⟨key _ _ (by with_unfolding_all rfl),key _ _ (by with_unfolding_all rfl),key _ _ (by with_unfolding_all rfl),key _ _ (by with_unfolding_all rfl),key _ _ (by with_unfolding_all rfl),key _ _ (by with_unfolding_all rfl)⟩
theorem yZ (n:Nat) (h:w.SG) (d:Desc s w):bW CR CP CS CD n [drD CD s.D]=.ok (w.ru CR CP):=by
 obtain ⟨a1,a2,a3,_,_,_⟩:=dr_at (CD:=CD) s;have t1:=mz CR CP CS CD n h.k6 d.g;rw [tj h.rows] at t1;have lk:s.ks.length=w.ks.length:=by rw [d.ks]
 rw [d.ks] at a1;cases ho:w.o with
 |none=>
  have hb:=d.b0 ho;have e1:=new1 CR CP CS CD n h.k1 h.k6 h.rows;have er:w.ru CR CP=mn CR CP w.rows .non:=by unfold Sht.ru Sht.bD;rw [ho]
  rw [er];rw [hb] at a3;simp [bW,gb,eD,a1,a2,a3,t1,e1]
 |some r2=>
  obtain ⟨hb,tb⟩:=d.b1 r2 ho;have t2:=mz CR CP CS CD n h.k6 tb;rw [tj (h.o r2 ho)] at t2;have e1:=new2 CR CP CS CD n h.k1 h.k6 h.rows (h.o r2 ho);have er:w.ru CR CP=mn CR CP w.rows (aE r2):=by unfold Sht.ru Sht.bD;rw [ho]
  rw [er];have hb2:s.B.isEmpty=false:=by cases hB:s.B with
   |nil=>exact absurd hB hb
   |cons _ _=>rfl
  simp [bW,gb,eD,a1,a2,a3,t1,t2,e1,hb2]
theorem read_gen (hne:CR≠CP) (n:Nat) (h:w.SG) (d:Desc s w) {rs:List Str} (hr:rs≠[]) (t:Tk CR CP CS CD n s0 rs s) (hl:(Str.join NLs rs).length<=1000000):bH CR CP CS CD n [.str (Str.join NLs rs)]=.ok (w.obj CR CP CS):=by
 obtain ⟨a1,a2,a3,a4,a5,a6⟩:=dr_at (CD:=CD) s;have hs:Txt.split (Str.join NLs rs) "\n"=rs:=by
  rw [show (Str.ofString "\n")=(⟨#[10]⟩:Str) by decide +kernel,NLs_is];exact rF 10 rs hr t.fr
 have l1:(Str.ofString "\n").length=1:=by decide +kernel
 have l2:(Str.join NLs rs).length+2<=16777216:=by omega
 have g:=t.go 1 [];rw [List.append_nil] at g;have g:tX (aM CR CP CS CD n) (bV CR CP CS CD n) 1 (rs.map .str) ds0=.ok s.D:=g;have er:=yZ (CR:=CR) (CP:=CP) (CS:=CS) (CD:=CD) n h d;have et:=text_ok CR CP CS CD hne n h.good;rw [d.ks] at a1;rw [d.nf] at a4 a5;rw [d.cs] at a6;have hk:eqM (.lst (w.ks.map .str)) (.lst [])=.ok (.bl false):=by
  cases hks:w.ks with
  |nil=>have:=h.k1;rw [hks] at this;simp at this
  |cons k ks=>
   have h1:okE (.lst ((k::ks).map Dat.str)) 40=true:=vU (k::ks) 39;show (if (okE (.lst ((k::ks).map Dat.str)) 40&&okE (.lst []) 40)=true then _ else _)=_;rw [if_pos (by rw [h1];rfl)];rfl
 have hf:(fSM nI (ah 0) (fC (.str "\n"))) [some (.str (Str.join NLs rs)),none,none,none]=.ok (.lst (rs.map .str)):=by
  simp [hs,l1,l2]
 have c1:eI CR CP CS CD n [some (.str (Str.join NLs rs)),some (drD CD s.D),none,none]=.ok (.nx [some (.str (Str.join NLs rs)),some (drD CD s.D),none,none]):=by
  simp [eI,a1,hk]
 have fin:(bg (eI CR CP CS CD n) (cF (fL (newS CS (cY CR CP CS CD n)) (aa (f1 (bE [CD] "kinds") (ah 1)) (aa (fL (bW CR CP CS CD n) (aa (ah 1) aB)) (aa (f1 (bE [CD] "names") (ah 1)) (aa (f1 (bE [CD] "flights") (ah 1)) (aa (f1 (bE [CD] "closed") (ah 1)) aB)))))))) [some (.str (Str.join NLs rs)),some (drD CD s.D),none,none]=.ok (.rt (w.obj CR CP CS)):=by
  have en:newS CS (cY CR CP CS CD n) [.lst (w.ks.map .str),w.ru CR CP,.lst ((w.nf.map (·.1)).map .str),.lst ((w.nf.map (·.2)).map flD),.lst (w.cs.map stD)]=.ok (w.obj CR CP CS):=by
   show (cY CR CP CS CD n [w.kD,w.ru CR CP,w.nD,w.fD,w.cD]).bind _=_;rw [et];rfl
  rw [e_seq,c1];simp [a1,a4,a5,a6,er,en,-List.map_map]
 have all:iW CR CP CS CD n [some (.str (Str.join NLs rs)),none,none,none]=.ok (.rt (w.obj CR CP CS)):=by
  unfold iW tV;refine (if_pos (show (decide (1<4)&&decide (2<4)&&decide (3<4))=true from rfl)).trans ?_;show ((fSM nI (ah 0) (fC (.str "\n"))) [some (.str (Str.join NLs rs)),none,none,none]).bind _=_;rw [hf,aq];show (tX _ _ 1 (rs.map .str) ds0).bind _=_;rw [g,aq];exact fin
 unfold bH;rw [e_run];simp [all]
end
noncomputable def lowA (q:List Nat):Prop:=∀c∈q,AE c
theorem qL {i:Int} (h0:0<=i) (h:z.cps.toList[i.toNat]? =some c) (hz:z.length<=100):zx (.str z) (.int i)=.ok (.str ⟨#[c]⟩):=by
 have hs:z.length<=sizeLine:=Nat.le_trans hz (by decide);have hl:=(List.getElem?_eq_some_iff.mp h).1;have ea:atI z.cps.toList i=some c:=by
  unfold atI ixN;rw [if_pos (show 0<=i from h0),if_pos (by omega)];exact h
 show (if z.length<=sizeLine then (match atI z.cps.toList i with
  |some c=>Except.ok (Dat.str ⟨#[c]⟩)
  |none=>stk) else stk)=_
 rw [if_pos hs,ea]
theorem LT_at:∀i,i<26->LT.cps.toList[i]? =some (97+i):=by decide +kernel
theorem DG_at:∀i,i<10->DG.cps.toList[i]? =some (48+i):=by decide +kernel
theorem LD_at:∀i,i<36->LD.cps.toList[i]? =some (if i<26 then 97+i else 22+i):=by decide +kernel
theorem LD_is:LT++DG=LD:=by decide +kernel
theorem low_at (h:i<36):∃c,LD.cps.toList[i]? =some c/\AE c:=⟨_,LD_at i h,by unfold AE;split<;>omega⟩
theorem mW (T:Str) (c:Nat):(T++(⟨#[c]⟩:Str)).cps.toList=T.cps.toList++[c]:=by
 show (T.cps++#[c]).toList=_;simp
theorem AJ (T:Str):T.length=T.cps.toList.length:=rfl
theorem Nm.of {s:Str} {d:Nat} (e:s.cps.toList=c::d::q) (hc:97<=c/\c<=122) (hd:AE d) (hq:lowA q) (l:q.length<=6):Nm s:=by
 refine ⟨⟨by rw [e];simp,fun x hx=>?_⟩,by rw [AJ,e];simp;omega,c,d::q,e,hc⟩
 rw [e] at hx;rcases List.mem_cons.mp hx with rfl|hx
 ·exact .inl hc
 ·rcases List.mem_cons.mp hx with rfl|hx
  ·exact hd
  ·exact hq x hx
theorem uq (hc:AE c) (hq:lowA q):lowA (c::q):=fun x hx=>by
 rcases List.mem_cons.mp hx with rfl|hx
 ·exact hc
 ·exact hq x hx
theorem sort2b (a b:Int):∃c d:Int,c<=d/\((c=a/\d=b)\/(c=b/\d=a))/\lu [.lst [.int a,.int b]]=.ok (.lst [.int c,.int d]):=by
 by_cases h:ltZ b a=true
 ·exact ⟨b,a,by simp [ltZ] at h;omega,.inr ⟨rfl,rfl⟩,by simp [lu,tF,gv,lN,insL,h]⟩
 ·exact ⟨a,b,by simp [ltZ] at h;omega,.inl ⟨rfl,rfl⟩,by simp [lu,tF,gv,lN,insL,h]⟩
section
variable (CR CP CS CD:Addr)
theorem nloop (n:Nat) (a1:Option Dat):∀(r:Nat) (j x:Int) (T:Str) (z4:Option Dat),0<=x->x<2305843009213693951->T.length+r<=90->∃(x':Int) (T':Str) (y4:Option Dat) (q:List Nat),(T'.cps.toList=T.cps.toList++q/\q.length=r/\lowA q)/\gw (.nm 4) (fH CR CP CS CD n) (bz j r) [some (.int x),a1,some (.str LT),some (.str T),z4]=.ok (.nx [some (.int x'),a1,some (.str LT),some (.str T'),y4])
 |0,j,x,T,z4,_,_,h=>⟨x,T,z4,[],⟨by simp,rfl,fun _ h=>(nomatch h)⟩,rfl⟩
 |r+1,j,x,T,z4,h0,h1,hT=>by
  have hl:=BI;have hd:=DG_len;have hx1: -18446744073709551616<x:=by omega
  have hx2:x<18446744073709551616:=by omega
  obtain ⟨c,hc,hlow⟩:=low_at (i:=((x*x+48271*x+j)%2305843009213693951/64%36).toNat) (by omega);have ec:=qL (z:=LD) (i:=(x*x+48271*x+j)%2305843009213693951/64%36) (by omega) hc (by rw [LD_len];omega);have hc1:(⟨#[c]⟩:Str).length=1:=rfl;have hs:(T++(⟨#[c]⟩:Str)).length+r<=90:=by rw [gq];omega
  have h3:LT.length+DG.length<=16777216:=by omega
  have h4:T.length+(⟨#[c]⟩:Str).length<=16777216:=by omega
  obtain ⟨x',T',y4,q,⟨q1,q2,q3⟩,e⟩:=nloop n a1 r (j+1) ((x*x+48271*x+j)%2305843009213693951) (T++(⟨#[c]⟩:Str)) (some (.int j)) (Int.emod_nonneg _ (by decide)) (Int.emod_lt_of_pos _ (by decide)) hs;refine ⟨x',T',y4,c::q,⟨by rw [q1,mW];simp,by simp [q2],uq hlow q3⟩,?_⟩
  have hb:fH CR CP CS CD n [some (.int x),a1,some (.str LT),some (.str T),some (.int j)]=.ok (.nx [some (.int ((x*x+48271*x+j)%2305843009213693951)),a1,some (.str LT),some (.str (T++(⟨#[c]⟩:Str))),some (.int j)]):=by
   have ed:(Str.ofString "0123456789")=DG:=rfl;simp [fH,ed,cn,h3,h4,hx1,hx2,ec,sizeLine,LD_is]
  rw [nO,gw,Be,aq];simp only [List.set_cons_succ,List.set_cons_zero];rw [hb,aq];exact e
theorem name2 (n:Nat) (x:Int) (k:Nat) (hk:k<26) (h0:0<=x) (h1:x<2305843009213693951):∃(s:Str) (c:Nat) (q:List Nat),(s.cps.toList=c::(97+k)::q/\Nm s)/\i4 CR CP CS CD n [.int x,.int k]=.ok (.str s):=by
 have hl:=BI;have ec:=qL (z:=LT) (i:=x%26) (by omega) (LT_at _ (by omega)) (by omega);have ek:(k:Int)%26=k:=by omega
 have ed:=qL (z:=LT) (i:=(k:Int)) (by omega) (LT_at _ (by omega)) (by omega);rw [show ((k:Int)).toNat=k from Int.toNat_natCast k] at ed;obtain ⟨r,hr,er⟩:∃r:Nat,r<=5/\(x/32%6:Int)=r:=⟨(x/32%6).toNat,by omega,by omega⟩
 have r1: -4611686018427387904<=(r:Int):=by omega
 have r2:(r:Int)<4611686018427387904:=by omega
 obtain ⟨c,hc,hc0⟩:∃c,97+(x%26).toNat=c/\(97<=c/\c<=122):=⟨_,rfl,by omega,by omega⟩
 rw [hc] at ec;have h3:(⟨#[c]⟩:Str).length+(⟨#[97+k]⟩:Str).length<=16777216:=by show 1+1<=_;omega
 obtain ⟨x',T',y4,q,⟨q1,q2,q3⟩,e⟩:=nloop CR CP CS CD n (some (.int k)) r 0 x ((⟨#[c]⟩:Str)++(⟨#[97+k]⟩:Str)) none h0 h1 (by rw [gq];show 1+1+r<=90;omega);rw [mW] at q1;have q1:T'.cps.toList=c::(97+k)::q:=q1;refine ⟨T',c,q,⟨q1,Nm.of q1 hc0 (.inl (by omega)) q3 (by omega)⟩,?_⟩
 have el:(Str.ofString "abcdefghijklmnopqrstuvwxyz")=LT:=rfl;simp [i4,oP,el,ec,ek,ed,cn,h3,er,r1,r2,e,sizeLine]
theorem floop (n:Nat) (a1:Option Dat):∀(r:Nat) (j x:Int) (T:Str) (z4:Option Dat),0<=x->x<2305843009213693951->T.length+r<=90->∃(x':Int) (T':Str) (y4:Option Dat) (q:List Nat),(T'.cps.toList=T.cps.toList++q/\q.length=r/\lowA q)/\gw (.nm 3) (bT CR CP CS CD n) (bz j r) [some (.int x),a1,some (.str T),z4]=.ok (.nx [some (.int x'),a1,some (.str T'),y4])
 |0,j,x,T,z4,_,_,h=>⟨x,T,z4,[],⟨by simp,rfl,fun _ h=>(nomatch h)⟩,rfl⟩
 |r+1,j,x,T,z4,h0,h1,hT=>by
  have hx1: -18446744073709551616<x:=by omega
  have hx2:x<18446744073709551616:=by omega
  obtain ⟨c,hc,hlow⟩:=low_at (i:=((x*x+48271*x+j)%2305843009213693951/64%36).toNat) (by omega);have ec:=qL (z:=LD) (i:=(x*x+48271*x+j)%2305843009213693951/64%36) (by omega) hc (by rw [LD_len];omega);have hc1:(⟨#[c]⟩:Str).length=1:=rfl;have hs:(T++(⟨#[c]⟩:Str)).length+r<=90:=by rw [gq];omega
  have h4:T.length+(⟨#[c]⟩:Str).length<=16777216:=by omega
  obtain ⟨x',T',y4,q,⟨q1,q2,q3⟩,e⟩:=floop n a1 r (j+1) ((x*x+48271*x+j)%2305843009213693951) (T++(⟨#[c]⟩:Str)) (some (.int j)) (Int.emod_nonneg _ (by decide)) (Int.emod_lt_of_pos _ (by decide)) hs;refine ⟨x',T',y4,c::q,⟨by rw [q1,mW];simp,by simp [q2],uq hlow q3⟩,?_⟩
  have hb:bT CR CP CS CD n [some (.int x),a1,some (.str T),some (.int j)]=.ok (.nx [some (.int ((x*x+48271*x+j)%2305843009213693951)),a1,some (.str (T++(⟨#[c]⟩:Str))),some (.int j)]):=by
   have ed:(Str.ofString "abcdefghijklmnopqrstuvwxyz0123456789")=LD:=rfl;simp [bT,ed,cn,h4,hx1,hx2,ec,sizeLine]
  rw [nO,gw,Be,aq];simp only [List.set_cons_succ,List.set_cons_zero];rw [hb,aq];exact e
theorem fname2 (n:Nat) (x:Int) (k:Nat) (hk:k<260) (h0:0<=x) (h1:x<2305843009213693951):∃(s:Str) (q:List Nat),(s.cps.toList=(97+k%26)::(48+k/26)::q/\Nm s)/\cC CR CP CS CD n [.int x,.int k]=.ok (.str s):=by
 have hl:=BI;have hg:=DG_len;have ec:=qL (z:=LT) (i:=(k:Int)%26) (by omega) (LT_at _ (by omega)) (by omega);have ed:=qL (z:=DG) (i:=(k:Int)/26) (by omega) (DG_at _ (by omega)) (by omega);rw [show ((k:Int)%26).toNat=k%26 by omega] at ec;rw [show ((k:Int)/26).toNat=k/26 by omega] at ed;obtain ⟨r,hr,er⟩:∃r:Nat,r<=6/\(x/32%7:Int)=r:=⟨(x/32%7).toNat,by omega,by omega⟩
 have r1: -4611686018427387904<=(r:Int):=by omega
 have r2:(r:Int)<4611686018427387904:=by omega
 have h3:(⟨#[97+k%26]⟩:Str).length+(⟨#[48+k/26]⟩:Str).length<=16777216:=by show 1+1<=_;omega
 obtain ⟨x',T',y4,q,⟨q1,q2,q3⟩,e⟩:=floop CR CP CS CD n (some (.int k)) r 0 x ((⟨#[97+k%26]⟩:Str)++(⟨#[48+k/26]⟩:Str)) none h0 h1 (by rw [gq];show 1+1+r<=90;omega);rw [mW] at q1;have q1:T'.cps.toList=(97+k%26)::(48+k/26)::q:=q1;refine ⟨T',q,⟨q1,Nm.of q1 (by omega) (.inr (by omega)) q3 (by omega)⟩,?_⟩
 have el:(Str.ofString "abcdefghijklmnopqrstuvwxyz")=LT:=rfl;have eg:(Str.ofString "0123456789")=DG:=rfl;simp [cC,gE,el,eg,ec,ed,cn,h3,er,r1,r2,e,sizeLine]
end
noncomputable def kKey (s:Str):Nat:=s.cps.toList.getD 1 0-97
noncomputable def fKey (s:Str):Nat:=(s.cps.toList.getD 0 0-97)+26*(s.cps.toList.getD 1 0-48)
theorem xy {α:Type} {l:List α} (f:α->Nat) (h:l.map f=List.range m):l.Nodup:=by
 have:(l.map f).Nodup:=by rw [h];exact List.nodup_range
 exact List.Pairwise.of_map f (fun a b hab e=>hab (by rw [e])) this
section
variable (CR CP CS CD:Addr)
theorem dat1 (n:Nat) (ns:List Int) (hns:ns.length<=63) (k:Nat) (hk:k<=6):∃(ks:List Str) (z2:Option Dat),ks.length=k/\ks.map kKey=List.range k/\(∀x∈ks,Nm x)/\gw (.nm 2) (fP CR CP CS CD n) (bz 0 k) [some (.lst (ns.map .int)),some (.lst []),none,none,none,none,none,none,none,none,none,none]=.ok (.nx [some (.lst (ns.map .int)),some (.lst (ks.map .str)),z2,none,none,none,none,none,none,none,none,none]):=by
 obtain ⟨ρ',e,ks,z2,rfl,h1,h3,h2⟩:=i9 (p:=.nm 2) (g:=fP CR CP CS CD n)
  (fun i ρ=>∃(ks:List Str) (z2:Option Dat),ρ=[some (.lst (ns.map .int)),some (.lst (ks.map .str)),z2,none,none,none,none,none,none,none,none,none]/\ks.length=i/\ks.map kKey=List.range i/\∀x∈ks,Nm x) (bz 0 k) 0 _ ⟨[],none,rfl,rfl,rfl,by simp⟩ (by
  rintro i d ρ hd ⟨ks,z2,rfl,hr1,hr3,hr2⟩;obtain ⟨hi,rfl⟩:=dX hd;obtain ⟨x,ex,x0,x1⟩:=cW CR CP CS CD n ns hns (i:Int) (by omega) (by omega);obtain ⟨s,c,q,⟨hs,hm⟩,es⟩:=name2 CR CP CS CD n x i (by omega) x0 (by omega);have hl:ks.length<16777216:=by omega
  have hk:kKey s=i:=by unfold kKey;rw [hs];show 97+i-97=i;omega
  refine ⟨_,by simp;rfl,?_⟩
  refine ⟨_,.inl (by simp [fP,ex,es,hl];rfl),ks++[s],some (.int i),by simp,by simp;omega,by rw [List.map_append,hr3,List.range_succ];simp [hk],fun y hy=>?_⟩
  rcases List.mem_append.mp hy with z|z
  ·exact hr2 y z
  ·simp at z;subst z;exact hm)
 rw [Nat.zero_add,dh] at h1 h3;exact ⟨ks,z2,h1,h3,h2,e⟩
theorem dat5 (n:Nat) (ns:List Int) (hns:ns.length<=63) (ks:List Str) (hk1:1<=ks.length) (hk:ks.length<=6) (m:Nat) (hm:m<=40) (z2 a3 a4 a5 a8:Option Dat):∃(nf:List (Str×Fli)) (y2 y9 y10:Option Dat),nf.length=m/\(nf.map (·.1)).map fKey=List.range m/\(∀p∈nf,Nm p.1/\Fl1 ks.length p.2)/\gw (.nm 2) (fN CR CP CS CD n) (bz 0 m) [some (.lst (ns.map .int)),some (.lst (ks.map .str)),z2,a3,a4,a5,some (.lst []),some (.lst []),a8,none,none,none]=.ok (.nx [some (.lst (ns.map .int)),some (.lst (ks.map .str)),y2,a3,a4,a5,some (.lst ((nf.map (·.1)).map .str)),some (.lst ((nf.map (·.2)).map flD)),a8,y9,y10,none]):=by
 obtain ⟨ρ',e,nf,y2,y9,y10,rfl,h1,h3,h2⟩:=i9 (p:=.nm 2) (g:=fN CR CP CS CD n)
  (fun i ρ=>∃(nf:List (Str×Fli)) (z2 z9 z10:Option Dat),ρ=[some (.lst (ns.map .int)),some (.lst (ks.map .str)),z2,a3,a4,a5,some (.lst ((nf.map (·.1)).map .str)),some (.lst ((nf.map (·.2)).map flD)),a8,z9,z10,none]/\nf.length=i/\(nf.map (·.1)).map fKey=List.range i/\∀p∈nf,Nm p.1/\Fl1 ks.length p.2) (bz 0 m) 0 _ ⟨[],z2,none,none,rfl,rfl,rfl,by simp⟩ (by
  rintro i d ρ hd ⟨nf,z2,z9,z10,rfl,hr1,hr3,hr2⟩;obtain ⟨hi,rfl⟩:=dX hd;obtain ⟨x,ex,x0,x1⟩:=cW CR CP CS CD n ns hns (50+(i:Int)) (by omega) (by omega);obtain ⟨a,ea,ha0,ha1⟩:=yq CR CP CS CD n x;obtain ⟨b,eb,hb0,hb1⟩:=yq CR CP CS CD n (x/4096);obtain ⟨c,ec,hc0,hc1⟩:=yq CR CP CS CD n (x/9);obtain ⟨d,ed,hd0,hd1⟩:=yq CR CP CS CD n (x/27);obtain ⟨u,v,hle,huv,es⟩:=sort2b a b;obtain ⟨s,q,⟨hs,hnm⟩,ef⟩:=fname2 CR CP CS CD n (x/8) i (by omega) (by omega) (by omega);have hl:nf.length<16777216:=by omega
  have hl0:ks.length<=16777216:=by omega
  have hk2:(0:Int)<ks.length:=by omega
  have kk0:0<=x%(ks.length:Int):=Int.emod_nonneg _ (by omega);have kk1:x%(ks.length:Int)<ks.length:=Int.emod_lt_of_pos _ hk2;have hk:fKey s=i:=by unfold fKey;rw [hs];show (97+i%26-97)+26*(48+i/26-48)=i;omega
  have fl:Fl1 ks.length ⟨x%(ks.length:Int),u,v,c,d⟩:=by constructor<;>show _<;>dsimp only<;>first|assumption|omega
  refine ⟨_,by simp;rfl,?_⟩
  refine ⟨_,.inl (by simp [fN,ex,ea,eb,ec,ed,es,ef,hl,hl0,e_mod hk2,-List.map_map];rfl),nf++[(s,⟨x%(ks.length:Int),u,v,c,d⟩)],some (.int i),some (.int x),some (.lst [.int u,.int v]),by simp [flD],by simp;omega,by rw [List.map_append,List.map_append,hr3,List.range_succ];simp [hk],fun y hy=>?_⟩
  rcases List.mem_append.mp hy with z|z
  ·exact hr2 y z
  ·simp at z;subst z;exact ⟨hnm,fl⟩)
 rw [Nat.zero_add,dh] at h1 h3;exact ⟨nf,y2,y9,y10,h1,h3,h2,e⟩
theorem dat6 (n:Nat) (ns:List Int) (hns:ns.length<=63) (m:Nat) (hm:m<=3) (a1 z2 a3 a4 a5 a6 a7 a8 a9 z10:Option Dat):∃(cs:List pQ) (y2 y10:Option Dat),cs.length=m/\(∀p∈cs,St1 p)/\gw (.nm 2) (fK CR CP CS CD n) (bz 0 m) [some (.lst (ns.map .int)),a1,z2,a3,a4,a5,a6,a7,a8,a9,z10,some (.lst [])]=.ok (.nx [some (.lst (ns.map .int)),a1,y2,a3,a4,a5,a6,a7,a8,a9,y10,some (.lst (cs.map stD))]):=by
 obtain ⟨ρ',e,cs,y2,y10,rfl,h1,h2⟩:=i9 (p:=.nm 2) (g:=fK CR CP CS CD n)
  (fun i ρ=>∃(cs:List pQ) (z2 z10:Option Dat),ρ=[some (.lst (ns.map .int)),a1,z2,a3,a4,a5,a6,a7,a8,a9,z10,some (.lst (cs.map stD))]/\cs.length=i/\∀p∈cs,St1 p) (bz 0 m) 0 _ ⟨[],z2,z10,rfl,rfl,by simp⟩ (by
  rintro i d ρ hd ⟨cs,z2,z10,rfl,hr1,hr2⟩;obtain ⟨hi,rfl⟩:=dX hd;obtain ⟨x,ex,x0,x1⟩:=cW CR CP CS CD n ns hns (101+(i:Int)) (by omega) (by omega);obtain ⟨y,ey,y0,y1⟩:=cW CR CP CS CD n ns hns (107+(i:Int)) (by omega) (by omega);obtain ⟨a,ea,ha0,ha1⟩:=yq CR CP CS CD n x;obtain ⟨b,eb,hb0,hb1⟩:=yq CR CP CS CD n y;obtain ⟨u,v,hle,huv,es⟩:=sort2b a b;have hl:cs.length<16777216:=by omega
  have hu:St1 (u/2,v/2+1):=by unfold St1;dsimp only;omega
  refine ⟨_,by simp;rfl,?_⟩
  refine ⟨_,.inl (by simp [fK,ex,ey,ea,eb,es,hl,-List.map_map];rfl),cs++[(u/2,v/2+1)],some (.int i),some (.lst [.int u,.int v]),by simp [stD],by simp;omega,fun y hy=>?_⟩
  rcases List.mem_append.mp hy with z|z
  ·exact hr2 y z
  ·simp at z;subst z;exact hu)
 rw [Nat.zero_add,dh] at h1;exact ⟨cs,y2,y10,h1,h2,e⟩
theorem dat_ok (n:Nat) (ns:List Int) (hns:ns.length<=63):∃w:Sht,(w.SG/\w.cs.length<=3/\(w.nf.map (·.1)).map fKey=List.range w.nf.length)/\i5 CR CP CS CD n [.lst (ns.map .int)]=.ok w.D:=by
 obtain ⟨x0,c0,p0⟩:=wN CR CP CS CD n ns 0;obtain ⟨x1,c1,p1⟩:=wN CR CP CS CD n ns 1;obtain ⟨x2,c2,p2⟩:=wN CR CP CS CD n ns 2;simp only [Int.cast_ofNat_Int,Int.natCast_zero,Int.natCast_one] at c0 c1 c2;obtain ⟨k,hk1,hk6,ek⟩:∃k:Nat,1<=k/\k<=6/\(1+x0*16807%2147483647%6:Int)=k:=⟨(1+x0*16807%2147483647%6).toNat,by omega,by omega,by omega⟩
 obtain ⟨ks,z2,hl,hkd,hkn,e1⟩:=dat1 CR CP CS CD n ns hns k hk6;subst hl;obtain ⟨rows,r2,y2,y5,hr,hr2,e2⟩:=data2 CR CP CS CD n ns hns ks hk6 z2;obtain ⟨m,hm,em⟩:∃m:Nat,m<=40/\∀a1 a2 a3 a4 a5 a6 a7 a9 a10 a11,fq CR CP CS CD n [some (.lst (ns.map .int)),a1,a2,a3,a4,a5,a6,a7,some (.int (x1*39373%2147483629%9)),a9,a10,a11]=.ok (.nx [some (.lst (ns.map .int)),a1,a2,a3,a4,a5,a6,a7,some (.int m),a9,a10,a11]):=by
  by_cases h:x1/64%8=5
  ·exact ⟨40,by omega,fun a1 a2 a3 a4 a5 a6 a7 a9 a10 a11=>by simp [fq,c1,h,eqM,okE,eqD]⟩
  ·refine ⟨(x1*39373%2147483629%9).toNat,by omega,fun a1 a2 a3 a4 a5 a6 a7 a9 a10 a11=>?_⟩
   rw [show ((x1*39373%2147483629%9).toNat:Int)=x1*39373%2147483629%9 by omega];simp [fq,c1,h,eqM,okE,eqD]
 obtain ⟨o,ho,eo⟩:∃o:Option (List (List Int)),(∀r,o=some r->bK ks.length r)/\∀a1 a2 a3 a5 a6 a7 a8 a9 a10 a11,fw CR CP CS CD n [some (.lst (ns.map .int)),a1,a2,a3,some (aE r2),a5,a6,a7,a8,a9,a10,a11]=.ok (.nx [some (.lst (ns.map .int)),a1,a2,a3,some (Sht.bD ⟨ks,rows,o,[],[]⟩),a5,a6,a7,a8,a9,a10,a11]):=by
  by_cases h:x2%2=0
  ·exact ⟨none,fun r z=>(by cases z),fun a1 a2 a3 a5 a6 a7 a8 a9 a10 a11=>by simp [fw,c2,h,eqM,okE,eqD,Sht.bD]⟩
  ·exact ⟨some r2,fun r z=>by cases z;exact hr2,fun a1 a2 a3 a5 a6 a7 a8 a9 a10 a11=>by simp [fw,c2,h,eqM,okE,eqD,Sht.bD]⟩
 obtain ⟨nf,u2,u9,u10,hn1,hn3,hn2,e5⟩:=dat5 CR CP CS CD n ns hns ks hk1 hk6 m hm y2 (some (aE rows)) (some (Sht.bD ⟨ks,rows,o,[],[]⟩)) y5 (some (.int m));obtain ⟨x3,c3,p3,_⟩:=cW CR CP CS CD n ns hns 100 (by omega) (by omega);obtain ⟨q,hq,eq⟩:∃q:Nat,q<=3/\(x3/64%4:Int)=q:=⟨(x3/64%4).toNat,by omega,by omega⟩
 obtain ⟨cs,v2,v10,hc1,hc2,e6⟩:=dat6 CR CP CS CD n ns hns q hq (some (.lst (ks.map .str))) u2 (some (aE rows)) (some (Sht.bD ⟨ks,rows,o,[],[]⟩)) y5 (some (.lst ((nf.map (·.1)).map .str))) (some (.lst ((nf.map (·.2)).map flD))) (some (.int m)) u9 u10;refine ⟨⟨ks,rows,o,nf,cs⟩,⟨⟨hk1,hk6,hkn,xy kKey hkd,hr,ho,by show nf.length<=40;omega,hn2,xy fKey hn3,by show cs.length<=20;omega,hc2⟩,by show cs.length<=3;omega,by show _=List.range nf.length;rw [hn1];exact hn3⟩,?_⟩
 have l0:ks.length<=16777216:=by omega
 have k1: -4611686018427387904<=(ks.length:Int):=by omega
 have k2:(ks.length:Int)<4611686018427387904:=by omega
 have m1: -4611686018427387904<=(m:Int):=by omega
 have m2:(m:Int)<4611686018427387904:=by omega
 have q1: -4611686018427387904<=(q:Int):=by omega
 have q2:(q:Int)<4611686018427387904:=by omega
 have eb:Sht.bD ⟨ks,rows,o,nf,cs⟩=Sht.bD ⟨ks,rows,o,[],[]⟩:=rfl;simp only [Sht.D,Sht.kD,Sht.nD,Sht.fD,Sht.cD,eb];generalize Sht.bD ⟨ks,rows,o,[],[]⟩=bb at *;simp [i5,oR,c0,c1,ek,k1,k2,e1,e2,l0,eo,em,m1,m2,e5,c3,eq,q1,q2,e6,-List.map_map]
end
theorem ux (c:Str):∀(rs:List Str) (z:Str),cat (rs.map (·++c))++z=Str.join c (rs++[z])
 |[],z=>by
  show Str.empty++z=z;exact gZ z
 |[r],z=>by
  show (r++c++Str.empty)++z=Str.join c [r,z];rw [jj,join_one,dC]
 |r::r2::rs,z=>by
  have ih:=ux c (r2::rs) z;show (r++c++cat ((r2::rs).map (·++c)))++z=Str.join c (r::r2::(rs++[z]));rw [jj,bu,ih];rfl
theorem em_is:(Str.ofString "")=Str.empty:=by decide +kernel
structure Pcs (ps ws:List Str):Prop where
 fr:∀p∈ps,free 32 p/\free 10 p
 ws:ps.filter (fun p:Str=> !decide (p=""))=ws
theorem Pcs.nil:Pcs [] []:=⟨by simp,rfl⟩
theorem B8 (c:Nat):free c "":=by rw [em_is];exact fun m=>absurd (show c∈([]:List Nat) from m) (by simp)
theorem Pcs.bl {ws:List Str} (h:Pcs ps ws) (b:Nat):Pcs (ps++List.replicate b ("":Str)) ws:=by
 refine ⟨fun p hp=>?_,?_⟩
 ·rcases List.mem_append.mp hp with z|z
  ·exact h.fr p z
  ·rw [(List.mem_replicate.mp z).2];exact ⟨B8 _,B8 _⟩
 ·rw [List.filter_append,h.ws,List.filter_eq_nil_iff.mpr (fun a ha=>by rw [(List.mem_replicate.mp ha).2];simp),List.append_nil]
theorem Pcs.wd {ws:List Str} (h:Pcs ps ws) {w:Str} (hw:Wd w):Pcs (ps++[w]) (ws++[w]):=by
 refine ⟨fun p hp=>?_,?_⟩
 ·rcases List.mem_append.mp hp with z|z
  ·exact h.fr p z
  ·rw [List.mem_singleton.mp z];exact ⟨hw.free (by unfold AE;omega),hw.free (by unfold AE;omega)⟩
 ·have hne:w≠(Str.ofString ""):=fun z=>hw.ne (by rw [z];decide +kernel);rw [List.filter_append,h.ws];simp [hne]
structure Loo (t:Str) (ws:List Str):Prop where
 ex:∃ps,ps≠[]/\t=Str.join SP ps/\Pcs ps ws/\ps.length<=10000
 l:t.length<=1100
theorem Loo.free {t:Str} {ws:List Str} (h:Loo t ws):Ru.free 10 t:=by
 obtain ⟨ps,_,rfl,hp,_⟩:=h.ex;rw [SP_is];exact oT (by decide) ps fun p m=>(hp.fr p m).2
section
variable {CR:Addr}
theorem zC (n:Nat) {t:Str} {ws:List Str} (h:Loo t ws):bV CR CP CS CD n [.str t]=.ok (.lst (ws.map .str)):=by
 have hl:=h.l;obtain ⟨ps,hn,e,hp,hq⟩:=h.ex;have hs:Txt.split t " "=ps:=by
  rw [e,show (Str.ofString " ")=(⟨#[32]⟩:Str) by decide +kernel,SP_is];exact rF 32 ps hn fun p m=>(hp.fr p m).1
 have l1:(Str.ofString " ").length=1:=by decide +kernel
 have l2:t.length+2<=16777216:=by omega
 have l3:ps.length<=16777216:=by omega
 have cm:∀l:List Str,aL (.nm 0) (fB (f2 neM (ah 0) (fC (.str "")))) (ah 0) [none] (l.map .str)=.ok ((l.filter (fun p:Str=> !decide (p=""))).map .str):=by
  intro l
  induction l with
  |nil=>rfl
  |cons w l ih=>
   have e:neM (.str w) (.str "")=.ok (.bl (!decide (w=""))):=by
    by_cases hw:w=(Str.ofString "")
    ·subst hw;simp [neM,okE,eqD]
    ·simp [neM,okE,eqD,hw]
   rw [List.map_cons,aL];by_cases hw:w=(Str.ofString "")
   ·subst hw;have e2:neM (.str "") (.str "")=.ok (.bl false):=hG rfl;simp [e2,ih]
   ·simp [e,ih,hw]
 have cm:=cm ps;rw [hp.ws] at cm;simp [bV,lQ,hs,l1,l2,l3,cm,g8]
theorem Tk.loo {ws:List Str} (h:Loo x ws) (e:aM CR CP CS CD n s.D (ws.map .str)=.ok (true,s'.D)):Tk CR CP CS CD n s [x] s':=by
 refine ⟨fun k rest=>?_,fun r hr=>by rw [List.mem_singleton.mp hr];exact h.free⟩
 show (bV CR CP CS CD n [.str x]).bind _=_;rw [zC n h,aq];show (aM CR CP CS CD n s.D (ws.map .str)).bind _=_;rw [e,aq];rfl
theorem mul_sp:∀b:Nat,b<8->Txt.mul (Str.ofString " ") (b:Int)=cat ((List.replicate b ("":Str)).map (·++SP)):=by decide +kernel
theorem mul_nl:∀b:Nat,b<8->Txt.mul (Str.ofString "\n") (b:Int)=cat ((List.replicate b ("":Str)).map (·++NLs)):=by decide +kernel
theorem tG (A B:Str):Txt.slice (A++B) none (some (A.length:Int))=A:=by
 have h1:(Builtin.Str.strSliceIndices none (some (A.length:Int)) 1 (A++B).length)=Builtin.Str.strSliceIndices (some ((0:Nat):Int)) (some (A.length:Int)) 1 (A++B).length:=StrLaws.sliceIdx_none_lo _ _;have hl:A.length<=(A++B).length:=by rw [gq];omega
 have h2:=StrLaws.sliced_plain (A++B) (a:=0) (b:=A.length) (Nat.zero_le _) hl;have h3:=StrLaws.strSliceIndices_plain (a:=0) (b:=A.length) (len:=(A++B).length) (Nat.zero_le _) hl;have e:(A++B).cps.toList=A.cps.toList++B.cps.toList:=by show (A.cps++B.cps).toList=_;simp
 unfold Txt.slice;rw [h1];by_cases hc:A.length=(A++B).length
 ·rw [if_pos (by rw [h3];simp;exact hc)];rw [gq] at hc;have:B.cps.toList=[]:=List.length_eq_zero_iff.mp (by rw [<- AJ];omega);have hb:B=Str.empty:=by
   show B=⟨#[]⟩
   obtain ⟨b⟩:=B;have:b=#[]:=by simpa using this
   rw [this]
  rw [hb,dC]
 ·rw [if_neg (by rw [h3];simp;exact hc),h2,e];simp [AJ]
theorem zQ (A:Str):Txt.slice A none (some (A.length:Int))=A:=by
 have:=tG A Str.empty
 rwa [dC] at this
end
structure RowW (x:Str) (ws:List Str):Prop where
 e:x=Str.join SP ws
 ne:ws≠[]
 wd:∀w∈ws,Wd w/\w.length<=100
 l1:x.length<=10000
 l2:ws.length<=10
section
variable (CR CP CS CD:Addr)
theorem xG (n:Nat) (a0 a2:Option Dat):∀(ws:List Str) (x:Int) (T:Str) (ps vs:List Str) (z4 z5:Option Dat),0<=x->(∀w∈ws,Wd w/\w.length<=100)->T=cat (ps.map (·++SP))->Pcs ps vs->T.length+103*ws.length<=5000->ps.length+3*ws.length<=5000 ->
  ∃(x':Int) (T':Str) (ps':List Str) (y4 y5:Option Dat),(0<=x'/\T'=cat (ps'.map (·++SP))/\Pcs ps' (vs++ws)/\T'.length<=T.length+103*ws.length/\ps'.length<=5000)/\gw (.nm 4) (eK CR CP CS CD n) (ws.map .str) [a0,some (.int x),a2,some (.str T),z4,z5]=.ok (.nx [a0,some (.int x'),a2,some (.str T'),y4,y5])
 |[],x,T,ps,vs,z4,z5,h0,_,hT,hp,l1,l2=>⟨x,T,ps,z4,z5,⟨h0,hT,by rw [List.append_nil];exact hp,by simp at l1;omega,by simp at l2;omega⟩,rfl⟩
 |w::ws,x,T,ps,vs,z4,z5,h0,hw,hT,hp,l1,l2=>by
  obtain ⟨w1,w2⟩:=hw w (by simp);obtain ⟨b,hb1,hb2,eb⟩:∃b:Nat,1<=b/\b<=3/\(1+x/32%3*(x/4%2):Int)=b:=by
   have h2:x/4%2=0\/x/4%2=1:=by omega
   rcases h2 with h2|h2<;>rw [h2]
   ·exact ⟨1,by omega,by omega,by omega⟩
   ·exact ⟨(1+x/32%3).toNat,by omega,by omega,by omega⟩
  have m:=mul_sp b (by omega);have lm:(Txt.mul (Str.ofString " ") (b:Int)).length<=3:=by
   have:∀b:Nat,b<4->(Txt.mul (Str.ofString " ") (b:Int)).length<=3:=by decide +kernel
   exact this b (by omega)
  have e1:T++w++Txt.mul (Str.ofString " ") (b:Int)=cat ((ps++[w]++List.replicate (b-1) ("":Str)).map (·++SP)):=by
   have hm:Txt.mul (Str.ofString " ") (b:Int)=SP++cat ((List.replicate (b-1) ("":Str)).map (·++SP)):=by
    rw [m];obtain ⟨c,rfl⟩:∃c,b=c+1:=⟨b-1,by omega⟩
    rw [List.replicate_succ,List.map_cons,cat,em_is,gZ];rfl
   rw [hm,hT,List.map_append,List.map_append,ma,ma];simp only [List.map_cons,List.map_nil,cat,dC,bu]
  have p1:=(hp.wd w1).bl (b-1);have hL:(T++w++Txt.mul (Str.ofString " ") (b:Int)).length<=T.length+103:=by rw [gq,gq];omega
  have q1:T.length+w.length<=16777216:=by simp at l1;omega
  have q2:(T++w).length+(Txt.mul (Str.ofString " ") (b:Int)).length<=16777216:=by rw [gq];simp at l1;omega
  have a1:=yu q1;have a2':=yu q2;obtain ⟨x',T',ps',y4,y5,⟨r1,r2,r3,r4,r5⟩,ih⟩:=xG n a0 a2 ws (x/2) _ _ _ (some (.str w)) (some (.int b)) (by omega) (fun v hv=>hw v (by simp [hv])) e1 p1 (by simp at l1;omega) (by simp at l2 ⊢;omega);refine ⟨x',T',ps',y4,y5,⟨r1,r2,by rw [List.append_assoc] at r3;exact r3,by simp only [List.length_cons];omega,r5⟩,?_⟩
  have l5:(Str.ofString " ").length<=1000:=by decide +kernel
  have b1:(-1000:Int)<=(b:Int):=by omega
  have b2:(b:Int)<=1000:=by omega
  have s1:(-18446744073709551616:Int)<x/32%3:=by omega
  have s2:x/32%3<(18446744073709551616:Int):=by omega
  have body:eK CR CP CS CD n [a0,some (.int x),a2,some (.str T),some (.str w),z5]=.ok (.nx [a0,some (.int (x/2)),a2,some (.str (T++w++Txt.mul (Str.ofString " ") (b:Int))),some (.str w),some (.int b)]):=by
   simp [eK,eb,l5,b1,b2,s1,s2,a1,a2']
  rw [List.map_cons,gw,Be,aq];simp only [List.set_cons_succ,List.set_cons_zero];rw [body,aq];exact ih
theorem loose_ok (n:Nat) {ws:List Str} (h:RowW x ws) (y:Int) (hy:0<=y):∃t,Loo t ws/\eP CR CP CS CD n [.str x,.int y]=.ok (.str t):=by
 have hs:Txt.split x " "=ws:=by
  rw [h.e,show (Str.ofString " ")=(⟨#[32]⟩:Str) by decide +kernel,SP_is];exact rF 32 ws h.ne fun p hp=>(h.wd p hp).1.free (by unfold AE;omega)
 have hl1:=h.l1;have hl2:=h.l2;have l1:(Str.ofString " ").length=1:=by decide +kernel
 have l2:x.length+2<=16777216:=by omega
 have l3:ws.length<=16777216:=by omega
 obtain ⟨b,hb,eb⟩:∃b:Nat,b<=2/\(y/8%3*(y%2):Int)=b:=by
  have h2:y%2=0\/y%2=1:=by omega
  rcases h2 with h2|h2<;>rw [h2]
  ·exact ⟨0,by omega,by omega⟩
  ·exact ⟨(y/8%3).toNat,by omega,by omega⟩
 have m:=mul_sp b (by omega);have lm:(Txt.mul (Str.ofString " ") (b:Int)).length<=3:=by
  have:∀b:Nat,b<4->(Txt.mul (Str.ofString " ") (b:Int)).length<=3:=by decide +kernel
  exact this b (by omega)
 have p0:=Pcs.nil.bl b;rw [List.nil_append] at p0;obtain ⟨y',T,ps,y4,y5,⟨r1,r2,r3,r4,r5⟩,e⟩:=xG CR CP CS CD n (some (.str x)) (some (.lst (ws.map .str))) ws y _ _ _ none none hy h.wd m p0 (by omega) (by simp;omega);rw [List.nil_append] at r3;have hps:ps≠[]:=fun z=>h.ne (by rw [<- r3.ws,z];rfl);have l5:(Str.ofString " ").length<=1000:=by decide +kernel
 have b1:(-1000:Int)<=(b:Int):=by omega
 have b2:(b:Int)<=1000:=by omega
 have s1:(-18446744073709551616:Int)<y/8%3:=by omega
 have s2:y/8%3<(18446744073709551616:Int):=by omega
 have lT:T.length<=16777216:=by omega
 have go:eP CR CP CS CD n [.str x,.int y]=.ok (.str (Txt.slice T none (some ((T.length:Int)-y'%2)))):=by
  simp [eP,mH,hs,l1,l2,l3,eb,l5,b1,b2,s1,s2,e,lT,g8]
 rw [go];have hc:y'%2=0\/y'%2=1:=by omega
 rcases hc with hc|hc<;>rw [hc]
 ·refine ⟨T,⟨⟨ps++[("":Str)],by simp,?_,r3.bl 1,by simp;omega⟩,by omega⟩,?_⟩
  ·rw [<- ux,<- r2,em_is,dC]
  ·rw [Int.sub_zero,zQ]
 ·have e1:T=Str.join SP ps++SP:=by
   rw [r2];have:=ux SP ps.dropLast (ps.getLast hps);rw [List.dropLast_concat_getLast hps] at this;rw [<- this,bu]
   conv=>lhs;rw [<- List.dropLast_concat_getLast hps]
   rw [List.map_append,ma];simp only [List.map_cons,List.map_nil,cat,dC]
  have l6:T.length=(Str.join SP ps).length+1:=by
   rw [e1,gq];rfl
  refine ⟨Str.join SP ps,⟨⟨ps,hps,rfl,r3,by omega⟩,by omega⟩,?_⟩
  rw [show (T.length:Int)-1=((Str.join SP ps).length:Int) by omega,e1,tG]
end
inductive Op where
 |gap (b:Bool) (i j:Nat) (g:Int)
 |cl (p:pQ)
 |fl (p:Str×Fli)
variable {A B:List (List Op)} {es L:List Op}
noncomputable def Op.kind:Op->Nat
 |.gap false _ _ _=>0
 |.gap true _ _ _=>1
 |.cl _=>2
 |.fl _=>3
noncomputable def sAt (ks:List Str) (i:Nat):Str:=ks.getD i ""
noncomputable def Op.tx (ks:List Str):Op->Str
 |.gap b i j g=>gV (wT b) (sAt ks i) (sAt ks j) g
 |.cl p=>dN p
 |.fl p=>bJ ks p
noncomputable def Op.ws (ks:List Str):Op->List Str
 |.gap b i j g=>[wT b,sAt ks i,sAt ks j,aK g]
 |.cl p=>[wC,aK p.1,aK p.2]
 |.fl p=>[wF,p.1,kAt ks p.2.kind,aK p.2.first,aK p.2.last,aK p.2.due,aK p.2.price]
noncomputable def Op.Ok (k:Nat):Op->Prop
 |.gap _ i j g=>i<k/\j<k/\0<=g/\g<=1000000
 |.cl p=>St1 p
 |.fl p=>Nm p.1/\Fl1 k p.2
noncomputable def Op.ap (s:DSt):Op->DSt
 |.gap b i j g=>s.setT b (jq (s.tab b) [(i:Int),(j:Int)] (.int g))
 |.cl p=>{s with cs:=s.cs++[p]}
 |.fl p=>{s with nf:=s.nf++[p]}
noncomputable def opC:Op->Option pQ
 |.cl p=>some p
 |_=>none
noncomputable def opF:Op->Option (Str×Fli)
 |.fl p=>some p
 |_=>none
noncomputable def opG (b:Bool):Op->Option (Nat×Nat×Int)
 |.gap b' i j g=>if b'=b then some (i,j,g) else none
 |_=>none
noncomputable def putG (X:List (List Int×Dat)) (t:Nat×Nat×Int):List (List Int×Dat):=jq X [(t.1:Int),(t.2.1:Int)] (.int t.2.2)
noncomputable def run (s:DSt) (L:List Op):DSt:=L.foldl Op.ap s
theorem run_is:∀(L:List Op) (s:DSt),(run s L).ks=s.ks/\(run s L).cs=s.cs++L.filterMap opC/\(run s L).nf=s.nf++L.filterMap opF/\∀b,(run s L).tab b=(L.filterMap (opG b)).foldl putG (s.tab b)
 |[],s=>⟨rfl,by simp [run],by simp [run],fun b=>rfl⟩
 |o::L,s=>by
  obtain ⟨h1,h2,h3,h4⟩:=run_is L (o.ap s);have e:run s (o::L)=run (o.ap s) L:=rfl;rw [e,h1,h2,h3];cases o with
  |gap b i j g=>
   refine ⟨DSt.set_ks b s _,?_,?_,fun c=>?_⟩
   ·cases b<;>rfl
   ·cases b<;>rfl
   ·rw [h4];cases b<;>cases c<;>rfl
  |cl p=>exact ⟨rfl,by simp [Op.ap,opC],rfl,fun b=>by rw [h4];cases b<;>rfl⟩
  |fl p=>exact ⟨rfl,rfl,by simp [Op.ap,opF],fun b=>by rw [h4];cases b<;>rfl⟩
theorem mm (h:i<ks.length):sAt ks i=ks[i]:=by unfold sAt;simp [h]
theorem oA {i:Int} (h0:0<=i) (h1:i<=1000000000):(aK i).length<=100:=by have:=str_len (i:=i) (by omega);omega
theorem w_l:wK.length<=100/\wG.length<=100/\wB.length<=100/\wC.length<=100/\wF.length<=100:=by decide +kernel
theorem Op.Ok.row (hk:∀k∈ks,Nm k):∀{o:Op},o.Ok ks.length->RowW (o.tx ks) (o.ws ks)
 |.gap b i j g,⟨hi,hj,h0,h1⟩=>by
  have a1:=hk _ (List.getElem_mem hi);have a2:=hk _ (List.getElem_mem hj);have t:=gapRow_T (wT_ok b).1 (wT_ok b).2 a1 a2 h0 h1;rw [<- mm hi,<- mm hj] at t;refine ⟨t.e,t.ne,fun w hw=>⟨t.wd w hw,?_⟩,t.l1,by show 4<=10;decide⟩
  simp only [Op.ws,List.mem_cons,List.not_mem_nil,or_false] at hw;rcases hw with rfl|rfl|rfl|rfl
  ·exact (wT_ok b).2
  ·rw [mm hi];exact a1.wa
  ·rw [mm hj];exact a2.wa
  ·exact oA h0 (by omega)
 |.cl p,h=>by
  have t:=wM h;obtain ⟨h0,h1,h2⟩:=h;refine ⟨t.e,t.ne,fun w hw=>⟨t.wd w hw,?_⟩,t.l1,by show 3<=10;decide⟩
  simp only [Op.ws,List.mem_cons,List.not_mem_nil,or_false] at hw;rcases hw with rfl|rfl|rfl
  ·exact w_l.2.2.2.1
  ·exact oA h0 (by omega)
  ·exact oA (by omega) h2
 |.fl p,⟨hm,hf⟩=>by
  have t:=wm hk hm hf;obtain ⟨k0,k1,a,b,c,d,e⟩:=hf;have hka:kAt ks p.2.kind∈ks:=(sget k0 k1).2;refine ⟨t.e,t.ne,fun w hw=>⟨t.wd w hw,?_⟩,t.l1,by show 7<=10;decide⟩
  simp only [Op.ws,List.mem_cons,List.not_mem_nil,or_false] at hw;rcases hw with rfl|rfl|rfl|rfl|rfl|rfl|rfl
  ·exact w_l.2.2.2.2
  ·exact hm.wa
  ·exact (hk _ hka).wa
  ·exact oA a (by omega)
  ·exact oA (by omega) c
  ·exact oA d.1 d.2
  ·exact oA e.1 e.2
section
variable (CR CP CS CD:Addr)
inductive Chain (n:Nat):DSt->List Str->DSt->Prop where
 |nil (s:DSt):Chain n s [] s
 |cons {s s1 s2:DSt} {x:Str} {ws xs:List Str} (h:RowW x ws) (e:aM CR CP CS CD n s.D (ws.map .str)=.ok (true,s1.D)) (t:Chain n s1 xs s2):Chain n s (x::xs) s2
variable {CR CP CS CD:Addr}
theorem Chain.app {ys:List Str} (h:Chain CR CP CS CD n s xs s1) (h2:Chain CR CP CS CD n s1 ys s2):Chain CR CP CS CD n s (xs++ys) s2:=by
 induction h with
 |nil=>exact h2
 |cons h e _ ih=>exact .cons h e (ih h2)
theorem pM (n:Nat):∀(ks:List Str) (s:DSt),(s.ks++ks).length<=6->(s.ks++ks).Nodup->(∀k∈ks,Nm k)->Chain CR CP CS CD n s (ks.map cI) {s with ks:=s.ks++ks}
 |[],s,_,_,_=>by rw [List.append_nil];exact .nil s
 |k::ks,s,h6,hn,hk=>by
  have e:s.ks++(k::ks)=(s.ks++[k])++ks:=by simp
  have h1:=row_kind CR CP CS CD n s (k:=k) (by simp at h6;omega) (hk k (by simp)) (fun m=>by
   rw [List.nodup_append] at hn;exact hn.2.2 k m k (by simp) rfl)
  have h2:=pM n ks {s with ks:=s.ks++[k]} (by show ((s.ks++[k])++ks).length<=6;rw [<- e];exact h6) (by show ((s.ks++[k])++ks).Nodup;rw [<- e];exact hn) fun x hx=>hk x (by simp [hx]);have t:=AM (hk k (by simp));have h3:=Chain.cons (x:=cI k) (ws:=[wK,k]) ⟨t.e,t.ne,fun w hw=>⟨t.wd w hw,by
   simp only [List.mem_cons,List.not_mem_nil,or_false] at hw;rcases hw with rfl|rfl
   ·exact w_l.1
   ·exact (hk _ (by simp)).wa⟩,t.l1,by show 2<=10;decide⟩ h1 h2
  rw [show ({s with ks:=s.ks++[k]}:DSt).ks++ks=s.ks++(k::ks) from e.symm] at h3;exact h3
structure VL (ks:List Str) (s:DSt) (L:List Op):Prop where
 hks:s.ks=ks
 tl:∀b,(s.tab b).length+L.length<=9000
 cl:(s.cs++L.filterMap opC).length<=20
 cs:∀p∈s.cs++L.filterMap opC,St1 p
 nl:(s.nf++L.filterMap opF).length<=40
 nd:((s.nf++L.filterMap opF).map (·.1)).Nodup
 ok:∀o∈L,o.Ok ks.length
theorem uX (n:Nat) {ks:List Str} (hn:ks.Nodup) (hk:∀k∈ks,Nm k):∀(L:List Op) (s:DSt),VL ks s L->Chain CR CP CS CD n s (L.map (Op.tx ks)) (run s L)
 |[],s,_=>.nil s
 |o::L,s,v=>by
  have ho:=v.ok o (by simp);have hr:=ho.row hk;have es:=v.hks;have hok:∀o∈L,o.Ok ks.length:=fun x hx=>v.ok x (by simp [hx]);have key:aM CR CP CS CD n s.D ((o.ws ks).map .str)=.ok (true,(o.ap s).D)/\VL ks (o.ap s) L:=by
   cases o with
   |gap b i j g=>
    obtain ⟨hi,hj,h0,h1⟩:=ho;have t1:=v.tl b;have r:=row_T (CR:=CR) (CP:=CP) (CS:=CS) (CD:=CD) n b s (by rw [es];exact hn) (i:=i) (j:=j) (by rw [es];exact hi) (by rw [es];exact hj) h0 h1 (by omega);simp only [es] at r;rw [<- mm hi,<- mm hj] at r;refine ⟨r,(DSt.set_ks b s _).trans es,fun c=>?_,?_,?_,?_,?_,hok⟩
    ·have t2:=v.tl c;have pl:=(Ad (s.tab b) [(i:Int),(j:Int)] (.int g)).1;simp only [List.length_cons] at t1 t2;cases b<;>cases c<;>simp only [Op.ap,DSt.setT,DSt.tab] at* <;>omega
    ·cases b<;>exact v.cl
    ·cases b<;>exact v.cs
    ·cases b<;>exact v.nl
    ·cases b<;>exact v.nd
   |cl p=>
    have e:s.cs++(Op.cl p::L).filterMap opC=(s.cs++[p])++L.filterMap opC:=by simp [opC]
    have cl:=v.cl;have cs:=v.cs;rw [e] at cl cs;have r:=yC CR CP CS CD n s (p:=p) (by simp at cl;omega) (fun q hq=>cs q (by simp [hq])) ho;exact ⟨r,es,fun b=>by have:=v.tl b;simp only [List.length_cons] at this;cases b<;>simp only [Op.ap,DSt.tab] at* <;>omega,cl,cs,v.nl,v.nd,hok⟩
   |fl p=>
    have e:s.nf++(Op.fl p::L).filterMap opF=(s.nf++[p])++L.filterMap opF:=by simp [opF]
    have nl:=v.nl;have nd:=v.nd;rw [e] at nl nd;have r:=yB CR CP CS CD n s (by rw [es];exact hn) (nm:=p.1) (f:=p.2) (by rw [es];exact ho.2) (by simp at nl;omega) ho.1 (fun m=>by
     rw [List.map_append,List.map_append,List.nodup_append] at nd;have:=nd.1;rw [List.nodup_append] at this;exact this.2.2 p.1 m p.1 (by simp) rfl)
    refine ⟨?_,es,fun b=>by have:=v.tl b;simp only [List.length_cons] at this;cases b<;>simp only [Op.ap,DSt.tab] at* <;>omega,v.cl,v.cs,nl,nd,hok⟩
    show aM CR CP CS CD n s.D ([wF,p.1,kAt ks p.2.kind,aK p.2.first,aK p.2.last,aK p.2.due,aK p.2.price].map .str)=_;rw [<- es];exact r
  exact .cons hr key.1 (uX n hn hk L _ key.2)
end
noncomputable def Sees (f:Op->Option β):Prop:=∃κ,∀o,f o≠none->o.kind=κ
theorem sees_C:Sees opC:=⟨2,fun o h=>by cases o<;>first|rfl|exact absurd rfl h⟩
theorem sees_F:Sees opF:=⟨3,fun o h=>by cases o<;>first|rfl|exact absurd rfl h⟩
theorem sees_G (b:Bool):Sees (opG b):=⟨if b=true then 1 else 0,fun o h=>by
 cases o with
 |gap c i j g=>
  by_cases e:c=b
  ·subst e;cases c<;>rfl
  ·exact absurd (by simp [opG,e]) h
 |_=>exact absurd rfl h⟩
noncomputable def Apart (l l':List Op):Prop:=∀o∈l,∀o'∈l',o.kind≠o'.kind
theorem zS {f:Op->Option β} (hf:Sees f) {x:Op} (h:(A++(x::es)::B).Pairwise Apart):(A++(x::es)::B).flatten.filterMap f=(f x).toList++(A++es::B).flatten.filterMap f:=by
 obtain ⟨κ,hf⟩:=hf;simp only [List.flatten_append,List.flatten_cons,List.filterMap_append,List.filterMap_cons];cases hx:f x with
 |none=>simp
 |some y=>
  have kx:=hf x (by rw [hx];exact fun z=>nomatch z);have hA:A.flatten.filterMap f=[]:=by
   rw [List.filterMap_eq_nil_iff];intro o ho;obtain ⟨l,hl,hol⟩:=List.mem_flatten.mp ho;rw [List.pairwise_append] at h;have:=h.2.2 l hl (x::es) (by simp) o hol x (by simp);cases hfo:f o with
   |none=>rfl
   |some z=>exact absurd ((hf o (by rw [hfo];exact fun z=>nomatch z)).trans kx.symm) this
  rw [hA];simp
theorem zt {x:Op} (h:(A++(x::es)::B).Pairwise Apart):(A++es::B).Pairwise Apart:=by
 rw [List.pairwise_append,List.pairwise_cons] at h ⊢;obtain ⟨h1,⟨h2,h3⟩,h4⟩:=h;refine ⟨h1,⟨fun l hl o ho=>h2 l hl o (by simp [ho]),h3⟩,fun l hl l' hl'=>?_⟩
 rcases List.mem_cons.mp hl' with rfl|z
 ·exact fun o ho o' ho'=>h4 l hl (x::l') (by simp) o ho o' (by simp [ho'])
 ·exact h4 l hl l' (by simp [z])
section
variable (CR CP CS CD:Addr)
noncomputable def rD (ks:List Str) (o:Op):Dat:=.str (o.tx ks)
noncomputable def lD (ks:List Str) (l:List Op):Dat:=.lst (l.map (rD ks))
theorem okE_l (ks:List Str) (l:List Op) (n:Nat):okE (lD ks l) (n+1)=true:=by
 show jt (l.map (rD ks)) n=true;exact dE _ _ (fun _=>rfl) l
theorem okE_ls (ks:List Str) (rs:List (List Op)):okE (.lst (rs.map (lD ks))) 40=true:=by
 show jt (rs.map (lD ks)) 39=true;exact dE _ _ (fun l=>okE_l ks l 38) rs
theorem eq_nil (h:okE (.lst ds) 40=true):eqM (.lst ds) (.lst [])=.ok (.bl ds.isEmpty):=by
 show (if (okE (.lst ds) 40&&okE (.lst []) 40)=true then _ else _)=_;rw [if_pos (by rw [h];rfl)];cases ds<;>rfl
theorem ne_nil (h:okE (.lst ds) 40=true):neM (.lst ds) (.lst [])=.ok (.bl !ds.isEmpty):=by
 show (if (okE (.lst ds) 40&&okE (.lst []) 40)=true then _ else _)=_;rw [if_pos (by rw [h];rfl)];cases ds<;>rfl
theorem zR {α:Type} (a b:α) (B:List α):∀A:List α,(A++a::B).set A.length b=A++b::B
 |[]=>rfl
 |x::A=>by rw [List.cons_append,List.length_cons,List.set_cons_succ,zR a b B A];rfl
theorem er_mid {α:Type} (a:α) (B:List α):∀A:List α,(A++a::B).eraseIdx A.length=A++B
 |[]=>rfl
 |x::A=>by rw [List.cons_append,List.length_cons,List.eraseIdx_cons_succ,er_mid a B A];rfl
noncomputable def total (rs:List (List Op)):Nat:=rs.flatten.length
theorem mix_ok (n:Nat) (ns:List Int) (hns:ns.length<=63) (ks:List Str) (start:Int) (s0:0<=start) (s1:start<=1000) (a0:Option Dat):∀(m:Nat) (out:List Op) (rs:List (List Op)),(∀l∈rs,l≠[])->total rs<m->out.length+total rs<=1000->rs.length<=10->rs.Pairwise Apart ->
  ∃L:List Op,ve 3 4 5 (bp CR CP CS CD n) (bN CR CP CS CD n) (bL CR CP CS CD n) [a0,some (.lst (ns.map .int)),some (.int start),none,none,none] m (out.map (rD ks)) (rs.map (lD ks))=.ok (L.map (rD ks))/\L.length=out.length+total rs/\(∀o∈L,o∈out\/o∈rs.flatten)/\∀(β:Type) (f:Op->Option β),Sees f->L.filterMap f=out.filterMap f++rs.flatten.filterMap f
 |0,_,_,_,h,_,_,_=>by omega
 |m+1,out,rs,hne,hm,ho,hl,hp=>by
  have hq:=ne_nil (okE_ls ks rs);cases rs with
  |nil=>
   refine ⟨out,?_,by simp [total],fun o h=>.inl h,fun β f _=>by simp⟩
   have hq:neM (.lst []) (.lst [])=.ok (.bl false):=hq;simp [ve,bp,jH,hq]
  |cons r0 rs0=>
  generalize hrs:r0::rs0=rs at *;have hlen:0<rs.length:=by rw [<- hrs];simp
  obtain ⟨x,ex,x0,_⟩:=cW CR CP CS CD n ns hns (start+(out.length:Int)) (by omega) (by omega);have kp:(0:Int)<(rs.length:Int):=by omega
  obtain ⟨j,hj,ej⟩:∃j:Nat,j<rs.length/\x/8%(rs.length:Int)=j:=by
   have a1:=Int.emod_nonneg (x/8) (b:=(rs.length:Int)) (by omega);have a2:=Int.emod_lt_of_pos (x/8) kp;exact ⟨(x/8%(rs.length:Int)).toNat,by omega,by omega⟩
  obtain ⟨y,es,erj⟩:∃y es,rs[j]=y::es:=by
   cases e:rs[j] with
   |nil=>exact absurd e (hne _ (List.getElem_mem hj))
   |cons y es=>exact ⟨y,es,rfl⟩
  obtain ⟨A,B,eAB,lA⟩:∃A B,rs=A++(y::es)::B/\A.length=j:=by
   refine ⟨rs.take j,rs.drop (j+1),?_,by rw [List.length_take];omega⟩
   rw [<- erj,<- List.drop_eq_getElem_cons hj,List.take_append_drop]
  have eset:(rs.map (lD ks)).set j (.lst (es.map (rD ks)))=(A++es::B).map (lD ks):=by
   have:=zR (lD ks (y::es)) (.lst (es.map (rD ks))) (B.map (lD ks)) (A.map (lD ks));rw [List.length_map,lA] at this;rw [eAB,List.map_append,List.map_append,List.map_cons,List.map_cons];exact this
  have eer:((A++es::B).map (lD ks)).eraseIdx j=(A++B).map (lD ks):=by
   have:=er_mid (lD ks es) (B.map (lD ks)) (A.map (lD ks));rw [List.length_map,lA] at this;rw [List.map_append,List.map_cons,List.map_append];exact this
  have htot:total rs=1+(A++es::B).flatten.length:=by
   rw [eAB];simp [total];omega
  have i1:ixN (rs.map (lD ks)).length (j:Int)=some j:=by unfold ixN;simp [hj]
  have erow:rowAt (rs.map (lD ks)) (j:Int)=.ok (j,rD ks y::es.map (rD ks)):=by
   unfold rowAt;rw [i1];simp [hj,erj,lD]
  have hol:out.length<=16777216:=by omega
  have hrl:rs.length<=16777216:=by omega
  have fa1:bN CR CP CS CD n (jH 3 4 [a0,some (.lst (ns.map .int)),some (.int start),none,none,none] (out.map (rD ks)) (rs.map (lD ks)))=.ok (.int j):=by
   simp [bN,jH,hol,hrl,ex,e_mod kp,ej]
  have hisE:((rs.map (lD ks)).isEmpty)=false:=by rw [<- hrs];rfl
  have fc1:bp CR CP CS CD n (jH 3 4 [a0,some (.lst (ns.map .int)),some (.int start),none,none,none] (out.map (rD ks)) (rs.map (lD ks)))=.ok true:=by
   rw [hisE] at hq;simp [bp,jH,hq]
  have gx:f9 ((A++es::B).map (lD ks)) (j:Int)=.ok (lD ks es):=by
   have hjl:j<((A++es::B).map (lD ks)).length:=by simp [<- lA]
   rw [mZ hjl];simp [<- lA]
  have q2:=eq_nil (okE_l ks es 39);have ft1:bL CR CP CS CD n ((jH 3 4 [a0,some (.lst (ns.map .int)),some (.int start),none,none,none] (out.map (rD ks)++[rD ks y]) ((A++es::B).map (lD ks))).set 5 (some (.int j)))=.ok es.isEmpty:=by
   have q3:eqM (lD ks es) (.lst [])=.ok (.bl es.isEmpty):=by rw [show es.isEmpty=(es.map (rD ks)).isEmpty by cases es<;>rfl];exact q2
   simp [bL,jH,gx,q3,-List.map_append,-List.map_cons]
  have hol2:out.length<sizeLine:=by rw [sizeLine_eq];omega
  have hrl2:rs.length<=sizeLine:=by rw [sizeLine_eq];omega
  have step:ve 3 4 5 (bp CR CP CS CD n) (bN CR CP CS CD n) (bL CR CP CS CD n) [a0,some (.lst (ns.map .int)),some (.int start),none,none,none] (m+1) (out.map (rD ks)) (rs.map (lD ks)) =
    ve 3 4 5 (bp CR CP CS CD n) (bN CR CP CS CD n) (bL CR CP CS CD n) [a0,some (.lst (ns.map .int)),some (.int start),none,none,none] m ((out++[y]).map (rD ks)) ((if es.isEmpty=true then A++B else A++es::B).map (lD ks)):=by
   rw [ve,fc1,aq,if_pos rfl,fa1,aq];simp only [asI,aq];rw [erow,aq];simp only [List.length_map];rw [if_pos ⟨hol2,hrl2⟩,eset,ft1,aq,eer];cases es.isEmpty<;>simp
  have hp2:=zt (by rw [<- eAB];exact hp);have hAB:∀l∈A++B,l≠[]:=fun l hl=>hne l (by rw [eAB];simp at hl ⊢;rcases hl with z|z<;>simp [z]);have hll:A.length+B.length+1=rs.length:=by rw [eAB];simp;omega
  obtain ⟨rs',g1,g2,g3,g4,g5⟩:∃rs':List (List Op),(∀l∈rs',l≠[])/\rs'.flatten=(A++es::B).flatten/\rs'.length<=10/\rs'.Pairwise Apart/\(if es.isEmpty=true then A++B else A++es::B)=rs':=by
   by_cases hes:es=[]
   ·refine ⟨A++B,hAB,by rw [hes];simp,by simp;omega,?_,by rw [hes];rfl⟩
    rw [List.pairwise_append,List.pairwise_cons] at hp2;rw [List.pairwise_append];exact ⟨hp2.1,hp2.2.1.2,fun l hl l' hl'=>hp2.2.2 l hl l' (by simp [hl'])⟩
   ·refine ⟨A++es::B,fun l hl=>?_,rfl,by simp;omega,hp2,by rw [if_neg (by simpa using hes)]⟩
    rcases List.mem_append.mp hl with z|z
    ·exact hAB l (by simp [z])
    ·rcases List.mem_cons.mp z with rfl|z
     ·exact hes
     ·exact hAB l (by simp [z])
  obtain ⟨L,e1,e2,e3,e4⟩:=mix_ok n ns hns ks start s0 s1 a0 m (out++[y]) rs' g1 (by unfold total;rw [g2];omega) (by unfold total;rw [g2,List.length_append];simp only [List.length_singleton];omega) g3 g4;rw [g5,e1] at step;refine ⟨L,step,?_,fun o hoL=>?_,fun β f hf=>?_⟩
  ·rw [e2,htot];unfold total;rw [g2,List.length_append];simp only [List.length_singleton];omega
  ·rcases e3 o hoL with z|z
   ·rcases List.mem_append.mp z with z|z
    ·exact .inl z
    ·rw [List.mem_singleton.mp z];exact .inr (by rw [eAB];simp)
   ·refine .inr ?_;rw [g2] at z;rw [eAB];simp only [List.flatten_append,List.flatten_cons,List.mem_append,List.mem_cons] at z ⊢;rcases z with z|z|z
    ·exact .inl z
    ·exact .inr (.inl (.inr z))
    ·exact .inr (.inr z)
  ·rw [e4 β f hf,g2,eAB,zS hf (by rw [<- eAB];exact hp),List.filterMap_append];cases hfy:f y<;>simp [hfy]
end
section
variable (CR CP CS CD:Addr)
theorem oY:∀rs:List (List Op),(rs.filter fun l=> !l.isEmpty).flatten=rs.flatten
 |[]=>rfl
 |[]::rs=>by simp [oY rs]
 |(x::l)::rs=>by simp [oY rs]
theorem mixed_ok (n:Nat) (ns:List Int) (hns:ns.length<=63) (ks:List Str) (rs:List (List Op)) (ht:total rs<=390) (hl:rs.length<=10) (hp:rs.Pairwise Apart) :
  ∃L:List Op,eO CR CP CS CD n [.lst (rs.map (lD ks)),.lst (ns.map .int),.int 200]=.ok (.lst (L.map (rD ks)))/\L.length=total rs/\(∀o∈L,o∈rs.flatten)/\∀(β:Type) (f:Op->Option β),Sees f->L.filterMap f=rs.flatten.filterMap f:=by
 have cm:∀rs:List (List Op),aL (.nm 0) (fB (f2 neM (ah 0) (fL cw aB))) (fL kr (aa (ah 0) aB)) [none] (rs.map (lD ks))=.ok ((rs.filter fun l=> !l.isEmpty).map (lD ks)):=by
  intro rs
  induction rs with
  |nil=>rfl
  |cons l rs ih=>
   have q:=ne_nil (okE_l ks l 39);rw [List.map_cons,aL];cases l with
   |nil=>
    have q:neM (lD ks []) (.lst [])=.ok (.bl false):=q;simp [q,ih]
   |cons x l=>
    have q:neM (lD ks (x::l)) (.lst [])=.ok (.bl true):=q;have w:kr [lD ks (x::l)]=.ok (lD ks (x::l)):=by simp [lD]
    simp [q,ih,w]
 have cm:=cm rs;have hf:total (rs.filter fun l=> !l.isEmpty)=total rs:=by unfold total;rw [oY]
 obtain ⟨L,e1,e2,e3,e4⟩:=mix_ok CR CP CS CD n ns hns ks 200 (by omega) (by omega) (some (.lst (rs.map (lD ks)))) 400 [] (rs.filter fun l=> !l.isEmpty) (fun l hl=>by have:=(List.mem_filter.mp hl).2;intro z;rw [z] at this;cases this) (by rw [hf];omega) (by rw [hf];simp;omega) (Nat.le_trans (List.length_filter_le _ _) hl) (hp.sublist List.filter_sublist);rw [List.map_nil] at e1;refine ⟨L,?_,by rw [e2,hf];simp,fun o ho=>?_,fun β f hs=>by rw [e4 β f hs,oY];rfl⟩
 ·have hrl:rs.length<=16777216:=by omega
  have hm:sMix 400 3 4 5 (bY (fIt (ah 0)) [none] (.nm 0) (fB (f2 neM (ah 0) (fL cw aB))) (fL kr (aa (ah 0) aB))) (bp CR CP CS CD n) (bN CR CP CS CD n) (bL CR CP CS CD n) (cF (ah 3)) [some (.lst (rs.map (lD ks))),some (.lst (ns.map .int)),some (.int 200),some (.lst []),none,none]=.ok (.rt (.lst (L.map (rD ks)))):=by
   have fc:(bY (fIt (ah 0)) [none] (.nm 0) (fB (f2 neM (ah 0) (fL cw aB))) (fL kr (aa (ah 0) aB))) [some (.lst (rs.map (lD ks))),some (.lst (ns.map .int)),some (.int 200),none,none,none]=.ok (.lst ((rs.filter fun l=> !l.isEmpty).map (lD ks))):=by
    simp [cm,hrl,g8]
   unfold sMix;refine (if_pos (show (decide (3<6)&&decide (4<6)&&decide (5<6))=true from rfl)).trans ?_;show ((bY (fIt (ah 0)) [none] (.nm 0) (fB (f2 neM (ah 0) (fL cw aB))) (fL kr (aa (ah 0) aB))) [some (.lst (rs.map (lD ks))),some (.lst (ns.map .int)),some (.int 200),none,none,none]).bind _=_;rw [fc,aq];show (ve 3 4 5 _ _ _ [some (.lst (rs.map (lD ks))),some (.lst (ns.map .int)),some (.int 200),none,none,none] 400 [] _).bind _=_;rw [e1,aq];rfl
  simp [eO,mG,hm]
 ·have:=(e3 o ho).resolve_left (by simp)
  rwa [oY] at this
noncomputable def gX (b:Bool) (L:List Op):List (List Int×Dat):=(L.filterMap (opG b)).foldl putG []
theorem B6 (b:Bool) (L:List Op) (i j:Nat) (g:Int):gX b (L++[.gap b i j g])=jq (gX b L) [(i:Int),(j:Int)] (.int g):=by
 unfold gX;rw [List.filterMap_append,List.foldl_append];simp [opG,putG]
structure GI (b:Bool) (rows:List (List Int)) (K:Nat) (i j:Nat) (L:List Op):Prop where
 ok:∀o∈L,∃i' j' g,o=.gap b i' j' g/\i'<K/\j'<K/\0<=g/\g<=1000000
 l:L.length<=2*(i*K+j)
 t:Tb K (gX b L) (fun a c=>if a<i\/(a=i/\c<j) then tR rows a c else 0)
 n:b=true->0<i*K+j->gX b L≠[]
theorem GI.cell {b:Bool} {K:Nat} (h:GI b rows K i j L) (hr:bK K rows) (hi:i<K) (hj:j<K) (A:List Int) (hA:A.length<=1) (hA2:∀g∈A,0<=g/\g<=1000000) (c:Bool) (hc:c=false->A=[]/\tR rows i j=0/\b=false) :
  GI b rows K i (j+1) (L++A.map (fun g=>.gap b i j g)++if c=true then [.gap b i j (tR rows i j)] else []):=by
 have hir:i<rows.length:=by rw [hr.1];exact hi
 have hrow:=hr.2 rows[i] (List.getElem_mem hir);have hjr:j<rows[i].length:=by rw [hrow.1];exact hj
 have ev:tR rows i j=rows[i][j]:=by show (rows.getD i []).getD j 0=_;simp [hir,hjr]
 have hv:=hrow.2 rows[i][j] (List.getElem_mem hjr);rw [<- ev] at hv;cases c with
 |false=>
  obtain ⟨rfl,h0,hb⟩:=hc rfl;simp only [List.map_nil,List.append_nil,if_neg (show ¬(false=true) by decide)];refine ⟨h.ok,by have:=h.l;omega,h.t.eq fun a c ha hc=>?_,fun z=>by rw [hb] at z;cases z⟩
  by_cases e:a=i/\c=j
  ·rw [if_neg (by omega),if_pos (by omega),e.1,e.2,h0]
  ·by_cases e2:a<i\/(a=i/\c<j)
   ·rw [if_pos e2,if_pos (by omega)]
   ·rw [if_neg e2,if_neg (by omega)]
 |true=>
  rw [if_pos rfl];have key:∃t,Tb K (gX b (L++A.map (fun g=>.gap b i j g))) t/\∀a c,¬(a=i/\c=j)->t a c=if a<i\/(a=i/\c<j) then tR rows a c else 0:=by
   match A,hA with
   |[],_=>exact ⟨_,by simpa using h.t,fun a c _=>rfl⟩
   |[g],_=>
    refine ⟨fun a c=>if a=i/\c=j then g else (if a<i\/(a=i/\c<j) then tR rows a c else 0),?_,fun a c hn=>if_neg hn⟩
    rw [List.map_cons,List.map_nil,B6];exact h.t.put i j g
  obtain ⟨t,ht,et⟩:=key;refine ⟨fun o ho=>?_,?_,?_,fun _ _=>by rw [B6];exact (Ad _ _ _).2⟩
  ·rcases List.mem_append.mp ho with z|z
   ·rcases List.mem_append.mp z with z|z
    ·exact h.ok o z
    ·obtain ⟨g,hg,rfl⟩:=List.mem_map.mp z;exact ⟨i,j,g,rfl,hi,hj,hA2 g hg⟩
   ·rw [List.mem_singleton.mp z];exact ⟨i,j,_,rfl,hi,hj,hv⟩
  ·have:=h.l;simp only [List.length_append,List.length_map,List.length_singleton];omega
  ·rw [B6];refine (ht.put i j (tR rows i j)).eq fun a c ha hc=>?_;by_cases e:a=i/\c=j
   ·rw [if_pos e,if_pos (by omega),e.1,e.2]
   ·rw [if_neg e,et a c e];by_cases e2:a<i\/(a=i/\c<j)
    ·rw [if_pos e2,if_pos (by omega)]
    ·rw [if_neg e2,if_neg (by omega)]
theorem GI.row {b:Bool} {K:Nat} (h:GI b rows K i K L):GI b rows K (i+1) 0 L:=
 have e:(i+1)*K=i*K+K:=Nat.succ_mul i K
 ⟨h.ok,by have:=h.l;omega,h.t.eq fun a c ha hc=>by
  by_cases e:a<i\/(a=i/\c<K)
  ·rw [if_pos e,if_pos (by omega)]
  ·rw [if_neg e,if_neg (by omega)],fun z hq=>h.n z (by omega)⟩
theorem wT_b (b:Bool):eqM (.str (wT b)) (.str "beside")=.ok (.bl b):=by
 cases b
 ·have:wG≠Str.ofString "beside":=by decide +kernel
  simp [wT,eqM,okE,eqD,this]
 ·exact zU rfl
theorem gap_cell (n:Nat) (b:Bool) (ns:List Int) (hns:ns.length<=63) (ks:List Str) (hk:∀k∈ks,Nm k) (h6:ks.length<=6) (rows:List (List Int)) (hr:bK ks.length rows) (start:Int) (s0:0<=start) (s1:start<=1000) (hi:i<ks.length) (hj:j<ks.length) (h:GI b rows ks.length i j L) (z8 z9:Option Dat) :
  ∃L' y8 y9,GI b rows ks.length i (j+1) L'/\cR CR CP CS CD n [some (.str (wT b)),some (.lst (ks.map .str)),some (aE rows),some (.lst (ns.map .int)),some (.int start),some (.lst (L.map (rD ks))),some (.int i),some (.int j),z8,z9]=.ok (.nx [some (.str (wT b)),some (.lst (ks.map .str)),some (aE rows),some (.lst (ns.map .int)),some (.int start),some (.lst (L'.map (rD ks))),some (.int i),some (.int j),y8,y9]):=by
 have hm:i*ks.length<=36:=Nat.le_trans (Nat.mul_le_mul (Nat.le_of_lt hi) (Nat.le_refl _)) (by have:=Nat.mul_le_mul h6 h6;omega);have hmi:(i:Int)*ks.length<=36:=by exact_mod_cast hm
 have hm0:0<=(i:Int)*ks.length:=Int.mul_nonneg (by omega) (by omega);obtain ⟨x,ex,x0,_⟩:=cW CR CP CS CD n ns hns (start+(i:Int)*ks.length+(j:Int)) (by omega) (by omega);have hll:L.length<=100:=by have:=h.l;omega
 have i1: -18446744073709551616<(i:Int):=by omega
 have i2:(i:Int)<18446744073709551616:=by omega
 have kl:ks.length<=16777216:=by omega
 have gi:=strAt' hi;have gj:=strAt' hj;have li:=(hk _ (List.getElem_mem hi)).l8;have lj:=(hk _ (List.getElem_mem hj)).l8;have lw:=(wT_ok b).2;have hir:i<rows.length:=by rw [hr.1];exact hi
 have hrow:=hr.2 rows[i] (List.getElem_mem hir);have hjr:j<rows[i].length:=by rw [hrow.1];exact hj
 have ev:tR rows i j=rows[i][j]:=by show (rows.getD i []).getD j 0=_;simp [hir,hjr]
 have hv:=hrow.2 rows[i][j] (List.getElem_mem hjr);have g5:ixD (aE rows) (.int i)=.ok (mq rows[i]):=rowAt' hir;have g6:ixD (mq rows[i]) (.int j)=.ok (.int (tR rows i j)):=by rw [ev];exact intAt' hjr
 rw [<- ev] at hv;obtain ⟨v,ev2⟩:∃v,tR rows i j=v:=⟨_,rfl⟩
 rw [ev2] at hv g6;have l2:(Str.ofString " ").length=1:=by decide +kernel
 have a1:cn (.str (wT b)) (.str (Str.ofString " "))=.ok (.str (wT b++Str.ofString " ")):=yu (by omega);have a2:cn (.str (wT b++Str.ofString " ")) (.str ks[i])=.ok (.str (wT b++Str.ofString " "++ks[i])):=yu (by rw [gq];omega);have a3:cn (.str (wT b++Str.ofString " "++ks[i])) (.str (Str.ofString " "))=.ok (.str (wT b++Str.ofString " "++ks[i]++Str.ofString " ")):=yu (by rw [gq,gq];omega);have a4:cn (.str (wT b++Str.ofString " "++ks[i]++Str.ofString " ")) (.str ks[j])=.ok (.str (wT b++Str.ofString " "++ks[i]++Str.ofString " "++ks[j])):=yu (by rw [gq,gq,gq];omega);have a5:cn (.str (wT b++Str.ofString " "++ks[i]++Str.ofString " "++ks[j])) (.str (Str.ofString " "))=.ok (.str (wT b++Str.ofString " "++ks[i]++Str.ofString " "++ks[j]++Str.ofString " ")):=yu (by rw [gq,gq,gq,gq];omega);have lH:(wT b++Str.ofString " "++ks[i]++Str.ofString " "++ks[j]++Str.ofString " ").length<=200:=by rw [gq,gq,gq,gq,gq];omega
 have tell:∀g:Int,0<=g->g<=1000000->cn (.str (wT b++Str.ofString " "++ks[i]++Str.ofString " "++ks[j]++Str.ofString " ")) (.str (aK g))=.ok (rD ks (.gap b i j g)):=fun g g0 g1=>by
  have:=str_len (i:=g) (by omega);rw [yu (by omega)];show _=Except.ok (Dat.str (gV (wT b) (sAt ks i) (sAt ks j) g));rw [mm hi,mm hj];rfl
 generalize (wT b++Str.ofString " "++ks[i]++Str.ofString " "++ks[j]++Str.ofString " ")=hd at *;have t1:=tell (x/8%1000) (by omega) (by omega);have t2:=tell v hv.1 hv.2;have g1:=dW (i:=x/8%1000) (by omega);have g2:=dW (i:=v) (by omega);have hb:=wT_b b;have c1:∀(M:List Op),M.length<=100->cO CR CP CS CD n [some (.str (wT b)),some (.lst (ks.map .str)),some (aE rows),some (.lst (ns.map .int)),some (.int start),some (.lst (M.map (rD ks))),some (.int i),some (.int j),some (.int x),some (.str hd)]=.ok (.nx [some (.str (wT b)),some (.lst (ks.map .str)),some (aE rows),some (.lst (ns.map .int)),some (.int start),some (.lst ((M++(if x%4=1 then [x/8%1000] else []).map (fun g=>Op.gap b i j g)).map (rD ks))),some (.int i),some (.int j),some (.int x),some (.str hd)]):=fun M hM=>by
  have hM2:M.length<16777216:=by omega
  by_cases hx:x%4=1
  ·have e0:eqM (.int (x%4)) (.int 1)=.ok (.bl true):=by rw [hx];rfl
   simp [cO,e0,hx,g1,t1,hM2]
  ·have e0:eqM (.int (x%4)) (.int 1)=.ok (.bl false):=by simp [eqM,okE,eqD,hx]
   simp [cO,e0,hx]
 obtain ⟨cc,hcc⟩:∃cc:Bool,(decide (0<v)||(decide (x%4<3)||b))=cc:=⟨_,rfl⟩
 have c2:∀(M:List Op),M.length<=101->bx CR CP CS CD n [some (.str (wT b)),some (.lst (ks.map .str)),some (aE rows),some (.lst (ns.map .int)),some (.int start),some (.lst (M.map (rD ks))),some (.int i),some (.int j),some (.int x),some (.str hd)]=.ok (.nx [some (.str (wT b)),some (.lst (ks.map .str)),some (aE rows),some (.lst (ns.map .int)),some (.int start),some (.lst ((M++(if cc=true then [Op.gap b i j v] else [])).map (rD ks))),some (.int i),some (.int j),some (.int x),some (.str hd)]):=fun M hM=>by
  have hM2:M.length<16777216:=by omega
  subst hcc;by_cases h1:0<v
  ·simp [bx,g5,g6,h1,g2,t2,hM2]
  ·by_cases h2:x%4<3
   ·simp [bx,g5,g6,h1,h2,g2,t2,hM2]
   ·cases b
    ·simp [bx,g5,g6,h1,h2,hb]
    ·simp [bx,g5,g6,h1,h2,hb,g2,t2,hM2]
 have lA:(if x%4=1 then [x/8%1000] else []:List Int).length<=1:=by split<;>simp
 refine ⟨L++(if x%4=1 then [x/8%1000] else []).map (fun g=>Op.gap b i j g)++(if cc=true then [Op.gap b i j v] else []),some (.int x),some (.str hd),?_,?_⟩
 rotate_left
 ·have e1:=c1 L hll;have e2:=c2 (L++(if x%4=1 then [x/8%1000] else []).map (fun g=>Op.gap b i j g)) (by rw [List.length_append,List.length_map];omega);simp [cR,kl,i1,i2,ex,gi,gj,a1,a2,a3,a4,a5,e1,e2,-List.map_append]
 ·have hc:=h.cell hr hi hj (if x%4=1 then [x/8%1000] else []) lA (fun g hg=>by
   split at hg
   ·rw [List.mem_singleton.mp hg];omega
   ·cases hg) cc (fun z=>by
   rw [z] at hcc;simp only [Bool.or_eq_false_iff,decide_eq_false_iff_not] at hcc;rw [if_neg (by omega),ev2];exact ⟨rfl,by omega,hcc.2.2⟩)
  rw [ev2] at hc;exact hc
end
section
variable (CR CP CS CD:Addr)
theorem kE (n:Nat) (b:Bool) (ns:List Int) (hns:ns.length<=63) (ks:List Str) (hk:∀k∈ks,Nm k) (h6:ks.length<=6) (rows:List (List Int)) (hr:bK ks.length rows) (start:Int) (s0:0<=start) (s1:start<=1000) :
  ∃L,GI b rows ks.length ks.length 0 L/\bB CR CP CS CD n [.str (wT b),.lst (ks.map .str),aE rows,.lst (ns.map .int),.int start]=.ok (lD ks L):=by
 have kl:ks.length<=16777216:=by omega
 have k1: -4611686018427387904<=(ks.length:Int):=by omega
 have k2:(ks.length:Int)<4611686018427387904:=by omega
 have inner:∀(i:Nat) (hi:i<ks.length) (L:List Op) (h:GI b rows ks.length i 0 L) (z7 z8 z9:Option Dat),∃L' y7 y8 y9,GI b rows ks.length (i+1) 0 L'/\cQ CR CP CS CD n [some (.str (wT b)),some (.lst (ks.map .str)),some (aE rows),some (.lst (ns.map .int)),some (.int start),some (.lst (L.map (rD ks))),some (.int i),z7,z8,z9]=.ok (.nx [some (.str (wT b)),some (.lst (ks.map .str)),some (aE rows),some (.lst (ns.map .int)),some (.int start),some (.lst (L'.map (rD ks))),some (.int i),y7,y8,y9]):=fun i hi L h z7 z8 z9=>by
  obtain ⟨ρ',e,L',y7,y8,y9,rfl,hL⟩:=i9 (p:=.nm 7) (g:=cR CR CP CS CD n)
   (fun j ρ=>∃(L:List Op) (z7 z8 z9:Option Dat),ρ=[some (.str (wT b)),some (.lst (ks.map .str)),some (aE rows),some (.lst (ns.map .int)),some (.int start),some (.lst (L.map (rD ks))),some (.int i),z7,z8,z9]/\GI b rows ks.length i j L) (bz 0 ks.length) 0 _ ⟨L,z7,z8,z9,rfl,h⟩ (by
   rintro j d ρ hd ⟨L,z7,z8,z9,rfl,hL⟩;rw [Nat.zero_add] at hL;obtain ⟨hj,rfl⟩:=dX hd;obtain ⟨L',y8,y9,h',e⟩:=gap_cell CR CP CS CD n b ns hns ks hk h6 rows hr start s0 s1 hi hj hL z8 z9;exact ⟨_,by simp,_,.inl e,L',some (.int j),y8,y9,rfl,by rw [Nat.zero_add];exact h'⟩)
  rw [Nat.zero_add,dh] at hL;refine ⟨L',y7,y8,y9,hL.row,?_⟩
  simp [cQ,kl,k1,k2,e]
 obtain ⟨ρ',e,L,y6,y7,y8,y9,rfl,hL⟩:=i9 (p:=.nm 6) (g:=cQ CR CP CS CD n)
  (fun i ρ=>∃(L:List Op) (z6 z7 z8 z9:Option Dat),ρ=[some (.str (wT b)),some (.lst (ks.map .str)),some (aE rows),some (.lst (ns.map .int)),some (.int start),some (.lst (L.map (rD ks))),z6,z7,z8,z9]/\GI b rows ks.length i 0 L) (bz 0 ks.length) 0 _ ⟨[],none,none,none,none,rfl,⟨by simp,by simp,fun a c _ _=>by simp [gX,vf],by simp⟩⟩ (by
  rintro i d ρ hd ⟨L,z6,z7,z8,z9,rfl,hL⟩;rw [Nat.zero_add] at hL;obtain ⟨hi,rfl⟩:=dX hd;obtain ⟨L',y7,y8,y9,h',e⟩:=inner i hi L hL z7 z8 z9;exact ⟨_,by simp,_,.inl e,L',some (.int i),y7,y8,y9,rfl,by rw [Nat.zero_add];exact h'⟩)
 rw [Nat.zero_add,dh] at hL;rw [List.map_nil] at e;refine ⟨L,hL,?_⟩
 simp [bB,iX,kl,k1,k2,e];rfl
theorem GI.done {b:Bool} {K:Nat} (h:GI b rows K K 0 L):Tb K (gX b L) (tR rows):=h.t.eq fun a c ha _=>by rw [if_pos (by omega)]
theorem odd_ok (n:Nat) (s:DSt) (m:Nat) (hm:m<6):∃t:Str,f9 [.str "",.str "   ",.str "#",.str " # kind zz",.str "#kind",.str "# flight a"] (m:Int)=.ok (.str t)/\Tk CR CP CS CD n s [t] s/\t.length<=100:=by
 have no:∀{t:Str},Loo t []->t.length<=100->Tk CR CP CS CD n s [t] s/\t.length<=100:=fun h l=>⟨Tk.loo h (by rw [List.map_nil];exact xq CR CP CS CD n s),l⟩
 have co:∀{t w:Str} {r:List Str},Txt.startswith w "#"=true->Loo t (w::r)->t.length<=100->Tk CR CP CS CD n s [t] s/\t.length<=100:=fun {t w r} hw h l=>⟨Tk.loo h (by
  have g0:f9 ((w::r).map Dat.str) 0=.ok (.str w):=get0;have e:eqM (.lst ((w::r).map Dat.str)) (.lst [])=.ok (.bl false):=by
   have h1:okE (.lst ((w::r).map Dat.str)) 40=true:=vU (w::r) 39;exact eq_nil h1
  have t1:(fOr (fB (f2 eqM (ah 1) (fL cw aB))) (lg (fSM lr (f2 ixD (ah 1) (fC (.int 0))) (fC (.str "#"))))) [none,some (.lst ((w::r).map .str))]=.ok true:=by
   simp [e,g0,hw,-List.map_cons]
  unfold aM lq;show ((fOr _ _ _).bind _)=_;rw [t1];rfl),l⟩
 have lo:∀(t:Str) (ps ws:List Str),ps≠[]->t=Str.join SP ps->(ps.all fun p=>p.cps.toList.all fun c=>decide (c≠32/\c≠10))=true->(ps.filter fun p:Str=> !decide (p=""))=ws->ps.length<=100->t.length<=100->Loo t ws:=fun t ps ws h1 h2 h3 h4 h5 h6=>⟨⟨ps,h1,h2,⟨fun p hp=>by
  have:=List.all_eq_true.mp (List.all_eq_true.mp h3 p hp);exact ⟨fun m=>(of_decide_eq_true (this _ m)).1 rfl,fun m=>(of_decide_eq_true (this _ m)).2 rfl⟩,h4⟩,by omega⟩,by omega⟩
 match m,hm with
 |0,_=>exact ⟨"",rfl,no (lo _ [("":Str)] _ (by simp) rfl (by decide +kernel) (by decide +kernel) (by decide) (by decide +kernel)) (by decide +kernel)⟩
 |1,_=>exact ⟨"   ",rfl,no (lo _ [("":Str),"","",""] _ (by simp) (by decide +kernel) (by decide +kernel) (by decide +kernel) (by decide) (by decide +kernel)) (by decide +kernel)⟩
 |2,_=>exact ⟨"#",rfl,co (w:="#") (r:=[]) (by decide +kernel) (lo _ [("#":Str)] _ (by simp) (by decide +kernel) (by decide +kernel) (by decide +kernel) (by decide) (by decide +kernel)) (by decide +kernel)⟩
 |3,_=>exact ⟨" # kind zz",rfl,co (w:="#") (r:=["kind","zz"]) (by decide +kernel) (lo _ [("":Str),"#","kind","zz"] _ (by simp) (by decide +kernel) (by decide +kernel) (by decide +kernel) (by decide) (by decide +kernel)) (by decide +kernel)⟩
 |4,_=>exact ⟨"#kind",rfl,co (w:="#kind") (r:=[]) (by decide +kernel) (lo _ [("#kind":Str)] _ (by simp) (by decide +kernel) (by decide +kernel) (by decide +kernel) (by decide) (by decide +kernel)) (by decide +kernel)⟩
 |5,_=>exact ⟨"# flight a",rfl,co (w:="#") (r:=["flight","a"]) (by decide +kernel) (lo _ [("#":Str),"flight","a"] _ (by simp) (by decide +kernel) (by decide +kernel) (by decide +kernel) (by decide) (by decide +kernel)) (by decide +kernel)⟩
theorem zI (n:Nat) (ns:List Int) (hns:ns.length<=63) (a0 a2 a3 a4 a5 a6 a7 a8 a10 a11 a12 a13 a14 a15:Option Dat) (h:Chain CR CP CS CD n s xs s'):∀(R:List Str) (z16 z17 z18:Option Dat) (q:DSt),Tk CR CP CS CD n q R s->R.length+2*xs.length<=1000->(∀r∈R,r.length<=1100) ->
  ∃R' y16 y17 y18,Tk CR CP CS CD n q R' s'/\R'.length<=R.length+2*xs.length/\(R.length+xs.length<=R'.length)/\(∀r∈R',r.length<=1100)/\gw (.nm 16) (cP CR CP CS CD n) (xs.map .str) [a0,some (.lst (ns.map .int)),a2,a3,a4,a5,a6,a7,a8,some (.lst (R.map .str)),a10,a11,a12,a13,a14,a15,z16,z17,z18]=.ok (.nx [a0,some (.lst (ns.map .int)),a2,a3,a4,a5,a6,a7,a8,some (.lst (R'.map .str)),a10,a11,a12,a13,a14,a15,y16,y17,y18]):=by
 induction h with
 |nil s=>exact fun R z16 z17 z18 q t l hR=>⟨R,z16,z17,z18,t,by simp,by simp,hR,rfl⟩
 |@cons s s1 s2 x ws xs hx e _ ih=>
  intro R z16 z17 z18 q t l hR;simp only [List.length_cons] at l;obtain ⟨y,ey,y0,_⟩:=cW CR CP CS CD n ns hns (300+(R.length:Int)) (by omega) (by omega);obtain ⟨w,hw,ew⟩:=loose_ok CR CP CS CD n hx (y/64) (by omega);have t1:Tk CR CP CS CD n s [w] s1:=Tk.loo hw e;have ft:lX false (.int y)=true:=rfl;have rl:R.length<=16777216:=by omega
  have rl2:R.length<16777216:=by omega
  have rl3:R.length+1<16777216:=by omega
  by_cases hy:y%8=1
  ·obtain ⟨o,eo,to,lo⟩:=odd_ok CR CP CS CD n s (y/8%6).toNat (by omega);rw [show ((y/8%6).toNat:Int)=y/8%6 by omega] at eo;have t2:=(t.app to).app t1;have e0:eqM (.int (y%8)) (.int 1)=.ok (.bl true):=by rw [hy];rfl
   have body:cP CR CP CS CD n [a0,some (.lst (ns.map .int)),a2,a3,a4,a5,a6,a7,a8,some (.lst (R.map .str)),a10,a11,a12,a13,a14,a15,some (.str x),z17,z18]=.ok (.nx [a0,some (.lst (ns.map .int)),a2,a3,a4,a5,a6,a7,a8,some (.lst ((R++[o]++[w]).map .str)),a10,a11,a12,a13,a14,a15,some (.str x),some (.int y),some (.lst [.str "",.str "   ",.str "#",.str " # kind zz",.str "#kind",.str "# flight a"])]):=by
    simp [cP,ij,ft,rl,rl2,rl3,ey,e0,eo,ew]
   obtain ⟨R',y16,y17,y18,k1,k2,k3,k4,k5⟩:=ih (R++[o]++[w]) (some (.str x)) (some (.int y)) _ q t2 (by simp;omega) (fun r hr=>by
    simp only [List.mem_append,List.mem_singleton] at hr;rcases hr with (hr|rfl)|rfl
    ·exact hR r hr
    ·omega
    ·exact hw.l)
   refine ⟨R',y16,y17,y18,k1,by simp at k2 ⊢;omega,by simp at k3 ⊢;omega,k4,?_⟩
   rw [List.map_cons,gw,Be,aq];simp only [List.set_cons_succ,List.set_cons_zero];rw [body,aq];exact k5
  ·have t2:=t.app t1;have e0:eqM (.int (y%8)) (.int 1)=.ok (.bl false):=by simp [eqM,okE,eqD,hy]
   have body:cP CR CP CS CD n [a0,some (.lst (ns.map .int)),a2,a3,a4,a5,a6,a7,a8,some (.lst (R.map .str)),a10,a11,a12,a13,a14,a15,some (.str x),z17,z18]=.ok (.nx [a0,some (.lst (ns.map .int)),a2,a3,a4,a5,a6,a7,a8,some (.lst ((R++[w]).map .str)),a10,a11,a12,a13,a14,a15,some (.str x),some (.int y),z18]):=by
    simp [cP,ij,ft,rl,rl2,rl3,ey,e0,ew]
   obtain ⟨R',y16,y17,y18,k1,k2,k3,k4,k5⟩:=ih (R++[w]) (some (.str x)) (some (.int y)) _ q t2 (by simp;omega) (fun r hr=>by
    simp only [List.mem_append,List.mem_singleton] at hr;rcases hr with hr|rfl
    ·exact hR r hr
    ·exact hw.l)
   refine ⟨R',y16,y17,y18,k1,by simp at k2 ⊢;omega,by simp at k3 ⊢;omega,k4,?_⟩
   rw [List.map_cons,gw,Be,aq];simp only [List.set_cons_succ,List.set_cons_zero];rw [body,aq];exact k5
end
section
variable (CR CP CS CD:Addr)
theorem iA {f:Op->Option β} {l:List Op} (h:∀o∈l,f o=none):l.filterMap f=[]:=List.filterMap_eq_nil_iff.mpr h
theorem fm_cl (cs:List pQ):(cs.map Op.cl).filterMap opC=cs:=by induction cs with
 |nil=>rfl
 |cons p cs ih=>simp [opC,ih]
theorem fm_fl (nf:List (Str×Fli)):(nf.map Op.fl).filterMap opF=nf:=by induction nf with
 |nil=>rfl
 |cons p cs ih=>simp [opF,ih]
theorem pK (n:Nat) (ks:List Str) (b0 b1 b2 b3 b4 b5 b6 b7:Option Dat) (S:List Dat) (c12 c13 c14 c15 c16 c17 c18:Option Dat):∀(cs:List pQ) (acc:List Op) (z10 z11:Option Dat),(∀p∈cs,St1 p)->acc.length+cs.length<=1000->∃y10 y11,
  gw (.tp [10,11]) (fF CR CP CS CD n) (cs.map stD) [b0,b1,b2,b3,b4,b5,b6,b7,some (.lst S),some (.lst (acc.map (rD ks))),z10,z11,c12,c13,c14,c15,c16,c17,c18]=.ok (.nx [b0,b1,b2,b3,b4,b5,b6,b7,some (.lst S),some (.lst ((acc++cs.map Op.cl).map (rD ks))),y10,y11,c12,c13,c14,c15,c16,c17,c18])
 |[],acc,z10,z11,_,_=>⟨z10,z11,by simp [gw]⟩
 |p::cs,acc,z10,z11,h,hl=>by
  obtain ⟨h0,h1,h2⟩:=h p (by simp);have m1:p.1.natAbs<10^10:=by omega
  have m2:p.2.natAbs<10^10:=by omega
  have g1:=dW m1;have g2:=dW m2;have L1:=str_len m1;have L2:=str_len m2;have l1:(Str.ofString "closed ").length=7:=by decide +kernel
  have l2:(Str.ofString " ").length=1:=by decide +kernel
  have a1:cn (.str (Str.ofString "closed ")) (.str (aK p.1))=.ok (.str (Str.ofString "closed "++aK p.1)):=yu (by omega);have a2:cn (.str (Str.ofString "closed "++aK p.1)) (.str (Str.ofString " "))=.ok (.str (Str.ofString "closed "++aK p.1++Str.ofString " ")):=yu (by rw [gq];omega);have a3:cn (.str (Str.ofString "closed "++aK p.1++Str.ofString " ")) (.str (aK p.2))=.ok (rD ks (.cl p)):=yu (by rw [gq,gq];omega);simp only [List.length_cons] at hl;have hacc:acc.length<16777216:=by omega
  have body:fF CR CP CS CD n [b0,b1,b2,b3,b4,b5,b6,b7,some (.lst S),some (.lst (acc.map (rD ks))),some (.int p.1),some (.int p.2),c12,c13,c14,c15,c16,c17,c18]=.ok (.nx [b0,b1,b2,b3,b4,b5,b6,b7,some (.lst S),some (.lst ((acc++[Op.cl p]).map (rD ks))),some (.int p.1),some (.int p.2),c12,c13,c14,c15,c16,c17,c18]):=by
   simp [fF,g1,g2,a1,a2,a3,hacc]
  obtain ⟨y10,y11,ih⟩:=pK n ks b0 b1 b2 b3 b4 b5 b6 b7 S c12 c13 c14 c15 c16 c17 c18 cs (acc++[Op.cl p]) (some (.int p.1)) (some (.int p.2)) (fun q hq=>h q (by simp [hq])) (by simp;omega);refine ⟨y10,y11,?_⟩
  rw [show acc++(p::cs).map Op.cl=(acc++[Op.cl p])++cs.map Op.cl by simp,<- ih];simp [gw,stD,body]
theorem oU (n:Nat) (ks:List Str) (hk:∀k∈ks,Nm k) (h6:ks.length<=6) (b0 b1 b3 b4 b5 b6 b7:Option Dat) (S:List Dat) (c10 c11 c15 c16 c17 c18:Option Dat):∀(nf:List (Str×Fli)) (acc:List Op) (z12 z13 z14:Option Dat),(∀p∈nf,Nm p.1/\Fl1 ks.length p.2)->acc.length+nf.length<=1000->∃y12 y13 y14,
  gw (.tp [12,13]) (fE CR CP CS CD n) (nf.map fun p=>Dat.tup [.str p.1,flD p.2]) [b0,b1,some (.lst (ks.map .str)),b3,b4,b5,b6,b7,some (.lst S),some (.lst (acc.map (rD ks))),c10,c11,z12,z13,z14,c15,c16,c17,c18]=.ok (.nx [b0,b1,some (.lst (ks.map .str)),b3,b4,b5,b6,b7,some (.lst S),some (.lst ((acc++nf.map Op.fl).map (rD ks))),c10,c11,y12,y13,y14,c15,c16,c17,c18])
 |[],acc,z12,z13,z14,_,_=>⟨z12,z13,z14,by simp [gw]⟩
 |p::nf,acc,z12,z13,z14,h,hl=>by
  obtain ⟨nm,f⟩:=p;obtain ⟨hm,hf'⟩:=(show Nm nm/\Fl1 ks.length f from h (nm,f) (by simp))
  have hf:=hf'.bfl;have hn:=hm.wa;have el:(Str.ofString " ").length=1:=by decide +kernel
  have ef:(Str.ofString "flight").length=6:=by decide +kernel
  have h1:=str_len hf.a;have h2:=str_len hf.b;have h3:=str_len hf.c;have h4:=str_len hf.d;obtain ⟨e0,hmem⟩:=sget hf.k0 hf.k1;have h5:=(hk _ hmem).wa;have l1:=dW hf.a;have l2:=dW hf.b;have l3:=dW hf.c;have l4:=dW hf.d;have ej:Str.join (Str.ofString " ") [Str.ofString "flight",nm,kAt ks f.kind,aK f.first,aK f.last,aK f.due,aK f.price]=bJ ks (nm,f):=by
   unfold bJ SP;simp only [Str.join,bu]
  have esl:gT (.tup [.int f.kind,.int f.first,.int f.last,.int f.due,.int f.price]) (some 1) none=.ok (.tup [.int f.first,.int f.last,.int f.due,.int f.price]):=rfl;have ec:aL (.nm 0) gd (fL strD (aa (ah 0) aB)) [none] [.int f.first,.int f.last,.int f.due,.int f.price]=.ok [.str (aK f.first),.str (aK f.last),.str (aK f.due),.str (aK f.price)]:=by simp [aL,l1,l2,l3,l4]
  have ea:cn (.lst [.str (Str.ofString "flight"),.str nm,.str (kAt ks f.kind)]) (.lst [.str (aK f.first),.str (aK f.last),.str (aK f.due),.str (aK f.price)])=.ok (.lst [.str (Str.ofString "flight"),.str nm,.str (kAt ks f.kind),.str (aK f.first),.str (aK f.last),.str (aK f.due),.str (aK f.price)]):=by
   simp [cn,sizeLine_eq]
  have jn:qh (.str (Str.ofString " ")) (.lst [.str (Str.ofString "flight"),.str nm,.str (kAt ks f.kind),.str (aK f.first),.str (aK f.last),.str (aK f.due),.str (aK f.price)])=.ok (rD ks (.fl (nm,f))):=by
   simp [ej,el,ef];rw [if_pos]
   ·rfl
   ·omega
  simp only [List.length_cons] at hl;have hacc:acc.length<16777216:=by omega
  have body:fE CR CP CS CD n [b0,b1,some (.lst (ks.map .str)),b3,b4,b5,b6,b7,some (.lst S),some (.lst (acc.map (rD ks))),c10,c11,some (.str nm),some (flD f),z14,c15,c16,c17,c18]=.ok (.nx [b0,b1,some (.lst (ks.map .str)),b3,b4,b5,b6,b7,some (.lst S),some (.lst ((acc++[Op.fl (nm,f)]).map (rD ks))),c10,c11,some (.str nm),some (flD f),some (.lst [.str (aK f.first),.str (aK f.last),.str (aK f.due),.str (aK f.price)]),c15,c16,c17,c18]):=by
   simp [fE,flD,e0,esl,ec,ea,jn,hacc]
  obtain ⟨y12,y13,y14,ih⟩:=oU n ks hk h6 b0 b1 b3 b4 b5 b6 b7 S c10 c11 c15 c16 c17 c18 nf (acc++[Op.fl (nm,f)]) (some (.str nm)) (some (flD f)) (some (.lst [.str (aK f.first),.str (aK f.last),.str (aK f.due),.str (aK f.price)])) (fun q hq=>h q (by simp [hq])) (by simp;omega);refine ⟨y12,y13,y14,?_⟩
  rw [show acc++((nm,f)::nf).map Op.fl=(acc++[Op.fl (nm,f)])++nf.map Op.fl by simp,<- ih];simp [gw,body]
end
section
variable (CR CP CS CD:Addr)
theorem xZ (c:Str) {P:List Str} (h:P≠[]):cat (P.map (·++c))=Str.join c P++c:=by
 have:=ux c P.dropLast (P.getLast h);rw [List.dropLast_concat_getLast h] at this;rw [<- this,bu]
 conv=>lhs;rw [<- List.dropLast_concat_getLast h]
 rw [List.map_append,ma];simp only [List.map_cons,List.map_nil,cat,dC]
theorem uw (c:Str) {R:List Str} (h:R≠[]):∀b:Nat,Str.join c R++cat ((List.replicate b ("":Str)).map (·++c))=Str.join c (R++List.replicate b ("":Str))
 |0=>by
  show Str.join c R++Str.empty=Str.join c (R++[]);rw [dC,List.append_nil]
 |b+1=>by
  have hne:R++List.replicate b ("":Str)≠[]:=by simp [h]
  rw [List.replicate_succ',List.map_append,ma,<- bu,uw c h b,<- List.append_assoc,<- ux,xZ c hne];simp only [List.map_cons,List.map_nil,cat,dC,em_is,gZ]
theorem yR (ks:List Str) (hk:∀k∈ks,Nm k):aL (.nm 0) gd (f2 cn (fC (.str "kind ")) (ah 0)) [none] (ks.map .str)=.ok ((ks.map cI).map .str):=by
 rw [List.map_map];refine d9 _ _ ks fun k hk'=>⟨[some (.str k)],rfl,?_⟩
 have h:=(hk k hk').wa;have e5:(Str.ofString "kind ").length=5:=by decide +kernel
 exact yu (by omega)
theorem hV {A B:List Op} {a b:Nat} (hab:a≠b) (hA:∀o∈A,o.kind=a) (hB:∀o∈B,o.kind=b):Apart A B:=fun o ho o' ho'=>by rw [hA o ho,hB o' ho'];exact hab
theorem zH (n:Nat) (ns:List Int) (hns:ns.length<=63) (h:w.SG) (hc3:w.cs.length<=3):∃(T:Str) (rs:List Str) (s:DSt),i3 CR CP CS CD n [w.D,.lst (ns.map .int)]=.ok (.str T)/\T=Str.join NLs rs/\rs≠[]/\Tk CR CP CS CD n s0 rs s/\Desc s w/\T.length<=1000000:=by
 have h6:=h.k6;have hk1:=h.k1;have hnm:=h.nm;have kl:w.ks.length<=16777216:=by omega
 have nl:w.nf.length<=16777216:=by omega
 have cl:w.cs.length<=16777216:=by omega
 obtain ⟨G,gG,eG⟩:=kE CR CP CS CD n false ns hns w.ks h.kn h6 w.rows h.rows 120 (by omega) (by omega);have lG:G.length<=72:=by have:=gG.l;have:w.ks.length*w.ks.length<=36:=Nat.mul_le_mul h6 h6;omega
 have kG:∀o∈G,o.kind=0/\o.Ok w.ks.length/\opC o=none/\opF o=none/\opG true o=none:=fun o ho=>by
  obtain ⟨i,j,g,rfl,h1⟩:=gG.ok o ho;exact ⟨rfl,h1,rfl,rfl,rfl⟩
 obtain ⟨Bs,hB,eB⟩:∃Bs:List (List Op),((w.o=none->Bs=[])/\∀r2,w.o=some r2->∃B,Bs=[B]/\GI true r2 w.ks.length w.ks.length 0 B)/\∀(b5 b6 b7 b9 b10 b11 b12 b13 b14 b15 b16 b17 b18:Option Dat),fm CR CP CS CD n [some w.D,some (.lst (ns.map .int)),some w.kD,some (aE w.rows),some w.bD,b5,b6,b7,some (.lst [lD w.ks G]),b9,b10,b11,b12,b13,b14,b15,b16,b17,b18]=.ok (.nx [some w.D,some (.lst (ns.map .int)),some w.kD,some (aE w.rows),some w.bD,b5,b6,b7,some (.lst ((G::Bs).map (lD w.ks))),b9,b10,b11,b12,b13,b14,b15,b16,b17,b18]):=by
  cases ho:w.o with
  |none=>
   have eb:w.bD=.non:=by unfold Sht.bD;rw [ho]
   exact ⟨[],⟨fun _=>rfl,fun r2 z=>nomatch z⟩,fun b5 b6 b7 b9 b10 b11 b12 b13 b14 b15 b16 b17 b18=>by rw [eb];simp [fm]⟩
  |some r2=>
   have eb:w.bD=aE r2:=by unfold Sht.bD;rw [ho]
   obtain ⟨B,gB,eB⟩:=kE CR CP CS CD n true ns hns w.ks h.kn h6 r2 (h.o r2 ho) 160 (by omega) (by omega);refine ⟨[B],⟨fun z=>(nomatch z),fun r z=>by cases z;exact ⟨B,rfl,gB⟩⟩,fun b5 b6 b7 b9 b10 b11 b12 b13 b14 b15 b16 b17 b18=>?_⟩
   have en:vV (aE r2) .non=.ok (.bl true):=rfl;have eB:bB CR CP CS CD n [.str (Str.ofString "beside"),w.kD,aE r2,.lst (ns.map .int),.int 160]=.ok (lD w.ks B):=eB;have s2:(1:Nat)<sizeLine:=by rw [sizeLine_eq];decide
   rw [eb];simp [fm,en,eB];rfl
 have kB:∀B∈Bs,B.length<=72/\∀o∈B,o.kind=1/\o.Ok w.ks.length/\opC o=none/\opF o=none/\opG false o=none:=fun B hm=>by
  cases ho:w.o with
  |none=>rw [hB.1 ho] at hm;cases hm
  |some r2=>
   obtain ⟨B',e,g⟩:=hB.2 r2 ho;rw [e,List.mem_singleton] at hm;subst hm;refine ⟨by have:=g.l;have:w.ks.length*w.ks.length<=36:=Nat.mul_le_mul h6 h6;omega,fun o hoB=>?_⟩
   obtain ⟨i,j,g,rfl,h1⟩:=g.ok o hoB;exact ⟨rfl,h1,rfl,rfl,rfl⟩
 have lBs:Bs.length<=1:=by
  cases ho:w.o with
  |none=>rw [hB.1 ho];decide
  |some r2=>obtain ⟨B',e,_⟩:=hB.2 r2 ho;rw [e];simp
 have lBf:Bs.flatten.length<=72:=by
  match Bs,lBs,kB with
  |[],_,_=>simp
  |[B],_,kB=>simpa using (kB B (by simp)).1
 generalize hS:(G::Bs++[w.cs.map Op.cl]++[w.nf.map Op.fl])=S;have kC:∀o∈w.cs.map Op.cl,o.kind=2/\o.Ok w.ks.length/\opF o=none/\∀b,opG b o=none:=fun o ho=>by
  obtain ⟨p,hp,rfl⟩:=List.mem_map.mp ho;exact ⟨rfl,h.cl p hp,rfl,fun b=>rfl⟩
 have kF:∀o∈w.nf.map Op.fl,o.kind=3/\o.Ok w.ks.length/\opC o=none/\∀b,opG b o=none:=fun o ho=>by
  obtain ⟨p,hp,rfl⟩:=List.mem_map.mp ho;exact ⟨rfl,h.nn p hp,rfl,fun b=>rfl⟩
 have fS:S.flatten=G++(Bs.flatten++(w.cs.map Op.cl++w.nf.map Op.fl)):=by rw [<- hS];simp
 have tS:total S<=187:=by unfold total;rw [fS];simp only [List.length_append,List.length_map];omega
 have lS:S.length<=10:=by rw [<- hS];simp;omega
 have bk:∀o∈Bs.flatten,o.kind=1/\o.Ok w.ks.length/\opC o=none/\opF o=none/\opG false o=none:=fun o ho=>by
  obtain ⟨B,hm,hoB⟩:=List.mem_flatten.mp ho;exact (kB B hm).2 o hoB
 have pS:S.Pairwise Apart:=by
  rw [<- hS]
  match Bs,lBs,kB with
  |[],_,_=>
   simp only [List.cons_append,List.nil_append,List.pairwise_cons,List.mem_cons,List.not_mem_nil,or_false,forall_eq_or_imp,forall_eq];exact ⟨⟨hV (a:=0) (b:=2) (by decide) (fun o ho=>(kG o ho).1) fun o ho=>(kC o ho).1,hV (a:=0) (b:=3) (by decide) (fun o ho=>(kG o ho).1) fun o ho=>(kF o ho).1⟩,hV (a:=2) (b:=3) (by decide) (fun o ho=>(kC o ho).1) (fun o ho=>(kF o ho).1),fun _ z=>(nomatch z),.nil⟩
  |[B],_,kB=>
   have kB:=(kB B (by simp)).2;simp only [List.cons_append,List.nil_append,List.pairwise_cons,List.mem_cons,List.not_mem_nil,or_false,forall_eq_or_imp,forall_eq];exact ⟨⟨hV (a:=0) (b:=1) (by decide) (fun o ho=>(kG o ho).1) fun o ho=>(kB o ho).1,hV (a:=0) (b:=2) (by decide) (fun o ho=>(kG o ho).1) fun o ho=>(kC o ho).1,hV (a:=0) (b:=3) (by decide) (fun o ho=>(kG o ho).1) fun o ho=>(kF o ho).1⟩,⟨hV (a:=1) (b:=2) (by decide) (fun o ho=>(kB o ho).1) fun o ho=>(kC o ho).1,hV (a:=1) (b:=3) (by decide) (fun o ho=>(kB o ho).1) fun o ho=>(kF o ho).1⟩,hV (a:=2) (b:=3) (by decide) (fun o ho=>(kC o ho).1) (fun o ho=>(kF o ho).1),fun _ z=>(nomatch z),.nil⟩
 obtain ⟨L,eL,lL,mL,fL⟩:=mixed_ok CR CP CS CD n ns hns w.ks S (by omega) lS pS;have okL:∀o∈L,o.Ok w.ks.length:=fun o ho=>by
  have:=mL o ho;rw [fS] at this;simp only [List.mem_append] at this;rcases this with z|z|z|z
  ·exact (kG o z).2.1
  ·exact (bk o z).2.1
  ·exact (kC o z).2.1
  ·exact (kF o z).2.1
 have pC:L.filterMap opC=w.cs:=by
  rw [fL _ opC sees_C,fS,List.filterMap_append,List.filterMap_append,List.filterMap_append,iA (fun o ho=>(kG o ho).2.2.1),iA (fun o ho=>(bk o ho).2.2.1),fm_cl,iA (fun o ho=>(kF o ho).2.2.1)];simp
 have pF:L.filterMap opF=w.nf:=by
  rw [fL _ opF sees_F,fS,List.filterMap_append,List.filterMap_append,List.filterMap_append,iA (fun o ho=>(kG o ho).2.2.2.1),iA (fun o ho=>(bk o ho).2.2.2.1),fm_fl,iA (fun o ho=>(kC o ho).2.2.1)];simp
 have pG:L.filterMap (opG false)=G.filterMap (opG false):=by
  rw [fL _ _ (sees_G false),fS,List.filterMap_append,List.filterMap_append,List.filterMap_append,iA (fun o ho=>(bk o ho).2.2.2.2),iA (fun o ho=>(kC o ho).2.2.2 _),iA (fun o ho=>(kF o ho).2.2.2 _)];simp
 have pB:L.filterMap (opG true)=Bs.flatten.filterMap (opG true):=by
  rw [fL _ _ (sees_G true),fS,List.filterMap_append,List.filterMap_append,List.filterMap_append,iA (fun o ho=>(kG o ho).2.2.2.2),iA (fun o ho=>(kC o ho).2.2.2 _),iA (fun o ho=>(kF o ho).2.2.2 _)];simp
 have ch1:=pM (CR:=CR) (CP:=CP) (CS:=CS) (CD:=CD) n w.ks s0 (by show ([]++w.ks).length<=6;simpa using h6) (by show ([]++w.ks).Nodup;simpa using h.kd) h.kn;have lL2:L.length<=187:=by omega
 have ch2:=uX (CR:=CR) (CP:=CP) (CS:=CS) (CD:=CD) n h.kd h.kn L {s0 with ks:=s0.ks++w.ks} ⟨rfl,fun b=>by cases b<;>(show 0+L.length<=9000;omega),by show ([]++L.filterMap opC).length<=20;rw [pC];simpa using h.cm,by show ∀p∈[]++L.filterMap opC,St1 p;rw [pC];simpa using h.cl,by show ([]++L.filterMap opF).length<=40;rw [pF];simpa using h.nm,by show (([]++L.filterMap opF).map fun p:Str×Fli=>p.1).Nodup;rw [pF];simpa using h.nd,okL⟩;have ch:=ch1.app ch2;obtain ⟨r1,r2,r3,r4⟩:=run_is L {s0 with ks:=s0.ks++w.ks};have desc:Desc (run {s0 with ks:=s0.ks++w.ks} L) w:=by
  refine ⟨r1,by rw [r3,pF];rfl,by rw [r2,pC];rfl,?_,fun ho=>?_,fun r2 ho=>?_⟩
  ·have e:(run {s0 with ks:=s0.ks++w.ks} L).G=gX false G:=by
    have:=r4 false;rw [pG] at this;exact this
   rw [e];exact gG.done
  ·have:=r4 true;rw [pB,hB.1 ho] at this;exact this
  ·obtain ⟨B,e,gB⟩:=hB.2 r2 ho;have:=r4 true;rw [pB,e] at this;have this:(run {s0 with ks:=s0.ks++w.ks} L).B=gX true B:=by rw [show ([B]:List (List Op)).flatten=B by simp] at this;exact this
   rw [this];exact ⟨gB.n rfl (by have:0<w.ks.length*w.ks.length:=Nat.mul_pos (by omega) (by omega);omega),gB.done⟩
 obtain ⟨y10,y11,e1⟩:=pK CR CP CS CD n w.ks (some w.D) (some (.lst (ns.map .int))) (some w.kD) (some (aE w.rows)) (some w.bD) (some w.nD) (some w.fD) (some w.cD) ((G::Bs).map (lD w.ks)) none none none none none none none w.cs [] none none h.cl (by simp;omega);obtain ⟨y12,y13,y14,e2⟩:=oU CR CP CS CD n w.ks h.kn h6 (some w.D) (some (.lst (ns.map .int))) (some (aE w.rows)) (some w.bD) (some w.nD) (some w.fD) (some w.cD) ((G::Bs).map (lD w.ks)++[lD w.ks (w.cs.map Op.cl)]) y10 y11 none none none none w.nf [] none none none h.nn (by simp;omega);obtain ⟨R,y16,y17,y18,k1,k2,k3,k4,k5⟩:=zI CR CP CS CD n ns hns (some w.D) (some w.kD) (some (aE w.rows)) (some w.bD) (some w.nD) (some w.fD) (some w.cD) (some (.lst (S.map (lD w.ks)))) y10 y11 y12 y13 y14 (some (.lst ((w.ks.map cI++L.map (Op.tx w.ks)).map .str))) ch [] none none none s0 (Tk.nil CR CP CS CD n s0) (by simp;omega) (by simp);obtain ⟨x,ex,x0,_⟩:=cW CR CP CS CD n ns hns 299 (by omega) (by omega);obtain ⟨b,hb,eb⟩:∃b:Nat,b<3/\(x/8%3:Int)=b:=⟨(x/8%3).toNat,by omega,by omega⟩
 have hR:R≠[]:=fun z=>by rw [z,List.length_append,List.length_map,List.length_map] at k3;simp only [List.length_nil] at k3;omega
 have kR:R.length<=386:=by rw [List.length_append,List.length_map,List.length_map] at k2;simp only [List.length_nil] at k2;omega
 have sR:(R.map (·.length)).sum<=R.length*1100:=lenLe R 1100 k4;have jn:qh (.str "\n") (.lst (R.map .str))=.ok (.str (Str.join NLs R)):=by
  have l1:(Str.ofString "\n").length=1:=by decide +kernel
  rw [wo,iK,aq,if_pos (by rw [l1,sizeLine_eq];omega)];rfl
 have lJ:(Str.join NLs R).length<=430000:=by
  have h1:=xZ NLs hR;have h2:(cat (R.map (·++NLs))).length<=1101*R.length:=by
   rw [Bw,List.map_map];have:=lenLe (R.map (·++NLs)) 1101 (fun x hx=>by
    obtain ⟨r,hr,rfl⟩:=List.mem_map.mp hx;rw [gq,Av];have:=k4 r hr;omega)
   rw [List.map_map,List.length_map,Nat.mul_comm] at this;exact this
  rw [h1,gq] at h2;omega
 have m:=mul_nl b (by omega);have lm:(Txt.mul (Str.ofString "\n") (b:Int)).length<=3:=by
  have:∀b:Nat,b<4->(Txt.mul (Str.ofString "\n") (b:Int)).length<=3:=by decide +kernel
  exact this b (by omega)
 have ad:cn (.str (Str.join NLs R)) (.str (Txt.mul (Str.ofString "\n") (b:Int)))=.ok (.str (Str.join NLs R++Txt.mul (Str.ofString "\n") (b:Int))):=yu (by omega);have eT:Str.join NLs R++Txt.mul (Str.ofString "\n") (b:Int)=Str.join NLs (R++List.replicate b ("":Str)):=by rw [m,uw NLs hR]
 have tail:∀b:Nat,Tk CR CP CS CD n (run {s0 with ks:=s0.ks++w.ks} L) (List.replicate b ("":Str)) (run {s0 with ks:=s0.ks++w.ks} L):=by
  intro b
  induction b with
  |zero=>exact Tk.nil CR CP CS CD n _
  |succ b ih=>rw [List.replicate_succ];exact (tk_empty n _).cons ih
 refine ⟨Str.join NLs R++Txt.mul (Str.ofString "\n") (b:Int),R++List.replicate b ("":Str),_,?_,eT,by simp [hR],k1.app (tail b),desc,by rw [gq];omega⟩
 have eu:gz (.tp [2,3,4,5,6,7]) w.D [some w.D,some (.lst (ns.map .int)),none,none,none,none,none,none,none,none,none,none,none,none,none,none,none,none,none]=.ok [some w.D,some (.lst (ns.map .int)),some w.kD,some (aE w.rows),some w.bD,some w.nD,some w.fD,some w.cD,none,none,none,none,none,none,none,none,none,none,none]:=rfl;have eG:bB CR CP CS CD n [.str (Str.ofString "gap"),w.kD,aE w.rows,.lst (ns.map .int),.int 120]=.ok (lD w.ks G):=eG;have eS:(G::Bs).map (lD w.ks)++[lD w.ks (w.cs.map Op.cl)]++[lD w.ks (w.nf.map Op.fl)]=S.map (lD w.ks):=by rw [<- hS];simp
 have eL:eO CR CP CS CD n [.lst (S.map (lD w.ks)),.lst (ns.map .int),.int 200]=.ok (.lst ((L.map (Op.tx w.ks)).map .str)):=by rw [eL,List.map_map];rfl
 have kc:=yR w.ks h.kn;have kadd:cn (.lst ((w.ks.map cI).map .str)) (.lst ((L.map (Op.tx w.ks)).map .str))=.ok (.lst ((w.ks.map cI++L.map (Op.tx w.ks)).map .str)):=by
  have:w.ks.length+L.length<=16777216:=by omega
  simp [cn,sizeLine_eq,this]
 have zf:=zB w.nf;have lk:w.ks.length<=16777216:=by omega
 have b1:Bs.length+1<16777216:=by omega
 have b2:Bs.length+1+1<16777216:=by omega
 have lx:(w.ks.map cI++L.map (Op.tx w.ks)).length<=16777216:=by simp;omega
 have l5:(Str.ofString "\n").length<=1000:=by decide +kernel
 have c1:(-1000:Int)<=(b:Int):=by omega
 have c2:(b:Int)<=1000:=by omega
 simp only [List.nil_append,List.map_nil] at e1 e2 k5;rw [show ((w.cs.map Op.cl).map (rD w.ks))=(w.cs.map Op.cl).map (rD w.ks) from rfl] at e1;simp only [Sht.kD,Sht.nD,Sht.fD,Sht.cD] at eu eG eB e1 e2 k5;have zf:mi ((w.nf.map (·.1)).map .str) ((w.nf.map (·.2)).map flD)=w.nf.map fun p=>Dat.tup [.str p.1,flD p.2]:=zf;have l1:lD w.ks (w.cs.map Op.cl)=.lst ((w.cs.map Op.cl).map (rD w.ks)):=rfl;have l2:lD w.ks (w.nf.map Op.fl)=.lst ((w.nf.map Op.fl).map (rD w.ks)):=rfl;rw [l1,l2] at eS;rw [l1] at e2;generalize hMC:(w.cs.map Op.cl).map (rD w.ks)=MC at *;generalize hMF:(w.nf.map Op.fl).map (rD w.ks)=MF at *;generalize hGB:(G::Bs).map (lD w.ks)=GB at *;have lGB:GB.length<16777216:=by rw [<- hGB];simp;omega
 have lGB2:GB.length+1<16777216:=by rw [<- hGB];simp;omega
 generalize hX:(w.ks.map cI++L.map (Op.tx w.ks))=XX at *;simp [i3,oO,eu,eG,eB,e1,e2,k5,cl,nl,zf,jC,g8,eS,eL,kc,kadd,lk,lGB,lGB2,lx,jn,ex,eb,l5,c1,c2,ad,-List.map_map,-wo]
end
section
variable (CR CP CS CD:Addr)
theorem law_true (hne:CR≠CP):∀ns:List Int,ns.length<=63->∃n,m_law CR CP CS CD n [.lst (ns.map .int)]=.ok (.bl true):=by
 intro ns hns;refine ⟨64,?_⟩
 obtain ⟨w,⟨h,hc,_⟩,e⟩:=dat_ok CR CP CS CD 64 ns hns;obtain ⟨T,rs,s,eT,hT,hr,t,d,lT⟩:=zH CR CP CS CD 64 ns hns h hc;have rd:=read_gen hne 64 h d hr t (by rw [<- hT];exact lT);rw [<- hT] at rd;have i1:=is_ok CR CP CS CD hne 64 h.good;obtain ⟨a1,a2,a3,a4,a5,a6⟩:=obj_at CR CP CS w;have b:vG CS "kinds" "flights" "closed" 3 (fL (bH CR CP CS CD 64) (aa (ah 2) aB)) (nF CR CP CS CD 64) (fL iQ (aa (fC (.int 0)) (aa (fC (.int 1)) aB))) (cF (fL (g7 CR CP CS CD 64) (aa (fL (bH CR CP CS CD 64) (aa (ah 2) aB)) (aa (ah 1) aB)))) [some (.lst (ns.map .int)),some w.D,some (.str T),none]=.ok (.rt (.bl true)):=by
  have f1:fL (bH CR CP CS CD 64) (aa (ah 2) aB) (sZ [some (.lst (ns.map .int)),some w.D,some (.str T),none])=.ok (w.obj CR CP CS):=by
   show fL (bH CR CP CS CD 64) (aa (ah 2) aB) [none,bare2 (some w.D),some (.str T),none]=_;simp [rd]
  unfold vG;rw [f1,aq];have ls:∀(x:Str) (ds:List Dat),bE [CS] x (w.obj CR CP CS)=.ok (.lst ds)->ds.length<=1000->isLs ((([("kinds",w.kD),("rules",w.ru CR CP),("names",w.nD),("flights",w.fD),("closed",w.cD),("text",.str w.tx)]:List (Str×Dat))).lookup x)=true:=fun x ds ha hl=>by
   have ha:(if ([CS].contains CS)=true then (match (([("kinds",w.kD),("rules",w.ru CR CP),("names",w.nD),("flights",w.fD),("closed",w.cD),("text",.str w.tx)]:List (Str×Dat))).lookup x with|some d=>Except.ok d|none=>stk) else stk)=Except.ok (Dat.lst ds):=ha;rw [if_pos (by simp)] at ha;cases hx:(([("kinds",w.kD),("rules",w.ru CR CP),("names",w.nD),("flights",w.fD),("closed",w.cD),("text",.str w.tx)]:List (Str×Dat))).lookup x with
   |none=>rw [hx] at ha;cases ha
   |some d=>
    rw [hx] at ha;cases ha;show decide (ds.length<sizeLine)=true;rw [sizeLine_eq];exact decide_eq_true (by omega)
  have hk6:=h.k6;have hnm:=h.nm;have q1:=ls "kinds" _ a1 (by simp;omega);have q2:=ls "flights" _ a4 (by simp;omega);have q3:=ls "closed" _ a5 (by simp;omega);show (if (decide (CS=CS)&&decide (3<4)&&isLs _&&isLs _&&isLs _)=true then _ else _)=_;rw [if_pos (by rw [q1,q2,q3];simp)];have t1:nF CR CP CS CD 64 ([some (.lst (ns.map .int)),some w.D,some (.str T),none].set 3 (some (w.obj CR CP CS)))=.ok false:=by
   simp [nF,i1]
  show (nF CR CP CS CD 64 ([some (.lst (ns.map .int)),some w.D,some (.str T),none].set 3 (some (w.obj CR CP CS)))).bind _=_;rw [t1,aq,if_neg (by decide)];simp [rd,i1]
 simp [m_law,g_law,e,eT,b]
end
theorem fin_mk {w:World} {K:Fg} {h:Heap} {fa CR:Addr} (_:K.In h) (_:h.Ns mainGlobals mg) (hfa:mg "law"=some (.ref fa)) (Z:Zs K mg CR CP CS CD) :
  ∃fd:FuncData,(∀(s:Shared) (v:Value),BindsTo s fd ⟨[v],[]⟩ [("_law_script",v)])/\∀base:Heap,K.In base->base.Ns mainGlobals mg->iJ P w K mg base CX0 9 fa fd ["_law_script"] (spLaw K):=by
 obtain ⟨f,fd,D,hb⟩:=Z.d_law;have e:=hfa.symm.trans D.mg;cases e;refine ⟨fd,hb,fun base _ _=>law_ok (ro:=false) (mlaw:=m_law CR CP CS CD) (fun n=>?_) (law_true CR CP CS CD Z.ne)⟩
 obtain ⟨f',fd',Y⟩:=ok_law (n:=n) (P:=P) (w:=w) (base:=base) Z;have e:=D.mg.symm.trans Y.d.mg;cases e;rw [D.fn.uniq Y.d.fn];exact Y.o
theorem walk {l:PySem.W.OpenLaw} {q:Program} {loose:List Str} {XP:(Mq)->Heap->Prop} {YP:World->Heap->Prop} {d:DefRec} {K:Params->Fg} (hn:l.most=some 63) (hdf:d.params.defaults=[])
  (hY:∀(w:World) (h:Heap),YP w h->(K w.params).In h)
  (F:∀(w:World) (mg:Mq) (fa:Addr) (h:Heap),(K w.params).In h->h.Ns mainGlobals mg->mg d.name=some (.ref fa) ->
   ∃fd:FuncData,(∀(s:Shared) (u:Value),BindsTo s fd ⟨[u],[]⟩ [("_law_script",u)])/\∀base:Heap,(K w.params).In base->base.Ns mainGlobals mg->iJ l.prog w (K w.params) mg base CX0 9 fa fd ["_law_script"] (spLaw (K w.params))) :
  PySem.W.WalkO q loose XP YP l.row.toRowW d [] (fun f vs=>PySem.call f vs):=
 L2.walk_of (n:=63) (k:=9) (x:="_law_script") (CX:=fun _=>CX0) (sp:=fun w=>spLaw (K w.params)) hn (by decide) hdf ⟨rfl,by decide,by decide⟩ hY F (fun _ _ a ns hl _ hS=>⟨a,ns,rfl,hS,hl,fun _=>rfl⟩) fun _ _ _ _ _ z=>z
end Ru
open PySem PySem.W PyProof.Rows
namespace PySem.W.Fast
theorem tw4263573548357522889:True:=⟨⟩
theorem tw17719977369734277184:True:=⟨⟩
theorem tw1023524974021506944:True:=⟨⟩
theorem tw17939088271885523855:True:=⟨⟩
theorem tw11424959299804065680:True:=⟨⟩
theorem tw11849627642283820234:True:=⟨⟩
theorem tw457559155471834915:True:=⟨⟩
theorem tw1686651454749034512:True:=⟨⟩
theorem tw15640923993473071793:True:=⟨⟩
theorem tw5629701844177279822:True:=⟨⟩
theorem tw18082343041050100257:True:=⟨⟩
theorem tw756053188423000033:True:=⟨⟩
theorem tw3760287411535929928:True:=⟨⟩
theorem tw10554215671536921161:True:=⟨⟩
theorem tw12142265200816470729:True:=⟨⟩
theorem tw1646847685464436664:True:=⟨⟩
theorem tw8024527788053822285:True:=⟨⟩
theorem tw16200366696130396384:True:=⟨⟩
theorem tw4612592955837505592:True:=⟨⟩
theorem tw6147046337272853094:True:=⟨⟩
theorem tw909864704450346353:True:=⟨⟩
theorem tw16452538128473343554:True:=⟨⟩
theorem tw4789763309784084273:True:=⟨⟩
theorem tw18410060092977215680:True:=⟨⟩
theorem tw8158562634578680047:True:=⟨⟩
theorem tw10241972687486757018:True:=⟨⟩
theorem tw5033262926500850583:True:=⟨⟩
theorem tw13100533267625567982:True:=⟨⟩
theorem tw7287272917879693649:True:=⟨⟩
theorem tw3430523779685848364:True:=⟨⟩
theorem tw10783996381500744272:True:=⟨⟩
theorem tw1462017252618086484:True:=⟨⟩
theorem tw4484954700927127733:True:=⟨⟩
theorem tw11010307446437145342:True:=⟨⟩
theorem tw11151697162356440769:True:=⟨⟩
theorem tw4561426520359016153:True:=⟨⟩
theorem tw2917582923666933994:True:=⟨⟩
theorem tw2417412149404450663:True:=⟨⟩
theorem tw2579124155243174649:True:=⟨⟩
theorem tw11363918183576001872:True:=⟨⟩
theorem tw2184641372704006838:True:=⟨⟩
theorem tw13360770997847179153:True:=⟨⟩
theorem tw8594874652108954003:True:=⟨⟩
theorem tw7328114449500946971:True:=⟨⟩
theorem tw825920057744380648:True:=⟨⟩
theorem tw16011541354169510334:True:=⟨⟩
theorem tw5126030415575811357:True:=⟨⟩
theorem tw8033547329913714667:True:=⟨⟩
theorem tw9377583646117054994:True:=⟨⟩
theorem tw3806640205112788415:True:=⟨⟩
theorem tw727019403695444533:True:=⟨⟩
theorem tw12245708631682523628:True:=⟨⟩
theorem tw1617212606661148321:True:=⟨⟩
theorem tw2305362446407040828:True:=⟨⟩
theorem tw18298708788368165513:True:=⟨⟩
theorem tw12595054180570437936:True:=⟨⟩
theorem tw9821083310689890240:True:=⟨⟩
theorem tw8780310898725620011:True:=⟨⟩
theorem tw5077563611968825744:True:=⟨⟩
theorem tw12536555913820930009:True:=⟨⟩
theorem tw4174913712161625980:True:=⟨⟩
theorem tw4821761240761709609:True:=⟨⟩
theorem tw2447389080758414386:True:=⟨⟩
theorem tw9079949350432244128:True:=⟨⟩
theorem tw4773066294191502306:True:=⟨⟩
theorem tw5478188075936355657:True:=⟨⟩
theorem tw12080906537254885498:True:=⟨⟩
theorem tw17669452208806308201:True:=⟨⟩
theorem tw8585399717854741151:True:=⟨⟩
theorem tw10095279387646484841:True:=⟨⟩
theorem tw12527377464423447959:True:=⟨⟩
theorem tw156972296497264047:True:=⟨⟩
theorem tw13975371043234619129:True:=⟨⟩
theorem tw17460847317645594155:True:=⟨⟩
theorem tw17399483997440754680:True:=⟨⟩
theorem tw12584175288289357268:True:=⟨⟩
theorem tw7406665544401790562:True:=⟨⟩
theorem tw169651214425291185:True:=⟨⟩
theorem tw8906856771620015528:True:=⟨⟩
theorem tw11897841856630796860:True:=⟨⟩
theorem tw15457689040056598080:True:=⟨⟩
theorem tw3141801618962786351:True:=⟨⟩
theorem tw12841322894038357972:True:=⟨⟩
theorem tw9983861118975337743:True:=⟨⟩
theorem tw10000109050048642460:True:=⟨⟩
theorem tw16788657637230523822:True:=⟨⟩
theorem tw14790793760519233171:True:=⟨⟩
theorem tw6432905424032151723:True:=⟨⟩
theorem tw11245556264508151876:True:=⟨⟩
theorem tw8231055921313436745:True:=⟨⟩
theorem tw17105110644679305853:True:=⟨⟩
theorem tw16839891427603838003:True:=⟨⟩
theorem tw12514604199924564946:True:=⟨⟩
theorem tw6980582189865726751:True:=⟨⟩
theorem tw598231239570531317:True:=⟨⟩
theorem tw15356443936623298184:True:=⟨⟩
theorem tw13615992316751857472:True:=⟨⟩
theorem tw10340564816103009855:True:=⟨⟩
theorem tw12448856308165791542:True:=⟨⟩
theorem tw15943687176393254255:True:=⟨⟩
theorem tw7947167910684425297:True:=⟨⟩
theorem tw13933511004929390327:True:=⟨⟩
theorem tw835776915695831528:True:=⟨⟩
theorem tw3188642134731483917:True:=⟨⟩
theorem tw1837015573217545187:True:=⟨⟩
theorem tw3264326515560541668:True:=⟨⟩
theorem tw6591129341704412844:True:=⟨⟩
theorem tw9957893826875924356:True:=⟨⟩
theorem tw15442462465892965147:True:=⟨⟩
theorem tw7547110180681221172:True:=⟨⟩
theorem tw9247997408251279775:True:=⟨⟩
theorem tw823166128723109999:True:=⟨⟩
theorem tw14337419880294550293:True:=⟨⟩
theorem tw16447755462726161522:True:=⟨⟩
theorem tw14144081570461179658:True:=⟨⟩
theorem tw4540551513595727475:True:=⟨⟩
theorem tw1514956211987814459:True:=⟨⟩
theorem tw8172490996388058934:True:=⟨⟩
theorem tw5558167450386582081:True:=⟨⟩
theorem tw17926048934623118643:True:=⟨⟩
theorem tw16002190256368798881:True:=⟨⟩
theorem tw8518806254634137157:True:=⟨⟩
theorem tw15010393274930826036:True:=⟨⟩
theorem tw7822423320650781384:True:=⟨⟩
theorem tw2259071349133093706:True:=⟨⟩
theorem tw11497094838463374758:True:=⟨⟩
theorem tw18082574532259849091:True:=⟨⟩
theorem tw13442825852215614563:True:=⟨⟩
theorem tw2170024039130735076:True:=⟨⟩
theorem tw13798502194152944472:True:=⟨⟩
theorem tw204146616199927139:True:=⟨⟩
theorem tw8737424471084914964:True:=⟨⟩
theorem tw7546764921485078574:True:=⟨⟩
theorem tw5694004583764390279:True:=⟨⟩
theorem tw5435121138635620836:True:=⟨⟩
theorem tw16475035808723527494:True:=⟨⟩
theorem tw14988074141896305872:True:=⟨⟩
theorem tw11856113061281724721:True:=⟨⟩
theorem tw2820230228225819574:True:=⟨⟩
theorem tw2961228358157937719:True:=⟨⟩
theorem tw16753218641352013331:True:=⟨⟩
theorem tw2582113525517553247:True:=⟨⟩
theorem tw8240403178370197940:True:=⟨⟩
theorem tw9086877138195727335:True:=⟨⟩
theorem tw5323171647833264697:True:=⟨⟩
end PySem.W.Fast
set_option maxRecDepth 100000 in
set_option maxHeartbeats 0 in
theorem PySem.Challenge.cw_wakeorder_k70_sheets_read_holds : PySem.Challenge.rw_wakeorder_k70_sheets_read.Holds := by
 w_on;o_law;k_head;(case hw=>w_witness2)
 k_fill
 refine Ru.walk (l:=PySem.Challenge.rw_wakeorder_k70_sheets_read) rfl rfl (fun w h Y=>PySem.W.kIn_of Y) ?F
 case F=>
  intro w mg fa h KX G hmg;refine' Ru.fin_mk KX G hmg ?z
  case z=>
   constructor
   all_goals first|exact L2.dF KX G|exact PySem.W.mg_none_of KX G (by k_is)|exact ⟨_,mg_of KX G (by k_is)⟩|exact mg_of KX G (by k_is)|exact L2.mF|exact L2.kF KX G|exact L2.xF KX G|exact L2.xM KX G L2.mF|exact L2.lF KX G|exact L2.rS L2.mF|k_is|kernel_rfl|decide +kernel|(constructor<;>first|k_is|kernel_rfl|rfl|decide +kernel)|(simp only [List.mem_cons,List.not_mem_nil,or_false,forall_eq_or_imp,forall_eq];repeat' constructor)<;>first|k_is|kernel_rfl
