import PyProof.Rows.All
import Wide.All
import OpenK.AllK
import Wide.FinOn
import Lean
import PyProof.EqAt
import PyProof.EqKinds
import PyProof.TupleCall
import PySem.SetOps
import PyProof.SetKind
import PyProof.TupleKey
import PyProof.DictKinds
import PyProof.Rows.SetFrom
import PyProof.WalksMore
import KE.KSortTup
import PyProof.CollectWalk
import PyProof.ExcArgsOwn
import PyProof.Rows.CountFlat
import PyProof.Rows.SeqMore2
import PyProof.Rows.FStr
import PyProof.Rows.StrWeight2
import PyProof.Rows.StrNews
import PyProof.StrLawsTight
import PyProof.ExcBaseAll.ValueError
import PyProof.ZipIter
import PyProof.CallFns
import PyProof.Draws
import PyProof.EnumMake
import PyProof.SetRoads
import PyProof.Rows.SortWalk
import PyProof.SeqI3
import PyProof.Rows.SortShell
import PyProof.Rows.Range3
import KE.KStateDown
import PyProof.Rows.SumAny
import PyProof.ListRange
import PyProof.MaxThree
import PySem.Challenge.RW_rowsorder_k63_rows_put_together
set_option Elab.async false
set_option linter.all false
set_option maxRecDepth 100000
set_option maxHeartbeats 1000000
section
set_option Elab.async false
namespace L2
open PySem PySem.Spec PyProof.Rows
abbrev Key:=Sum Int Str
def C5:Key->Value->Bool
 | .inl k,v=>Value.isInt k v
 | .inr x,v=>Value.isStrOf x v
def HA (w:World):Key->Int
 | .inl k=>hashInt k
 | .inr x=>hashStr w x
theorem cm:∀{k:Key} {v:Value},C5 k v=true->(∃i t,k=Sum.inl i/\v=Value.int i t)\/(∃x t,k=Sum.inr x/\v=Value.str x t)
 | .inl i,v,h=>by
  obtain⟨t,e⟩:=Value.isInt_shape (k:=i) (v:=v) h
  exact .inl ⟨i,t,rfl,e⟩
 | .inr x,v,h=>by
  obtain⟨t,e⟩:=Value.isStrOf_shape (x:=x) (v:=v) h
  exact .inr ⟨x,t,rfl,e⟩
theorem DA (a b:Int):decide ((Sum.inl a:Key)=Sum.inl b)=(a == b):=by
 by_cases e:a=b
 ·subst e;simp
 ·have h:¬(Sum.inl a:Key)=Sum.inl b:=fun q=>e (Sum.inl.inj q)
  rw[decide_eq_false h]
  exact (beq_eq_false_iff_ne.mpr e).symm
theorem DD (a b:Str):decide ((Sum.inr a:Key)=Sum.inr b)=decide (a=b):=by
 by_cases e:a=b
 ·subst e;simp
 ·have h:¬(Sum.inr a:Key)=Sum.inr b:=fun q=>e (Sum.inr.inj q)
  rw[decide_eq_false h,decide_eq_false e]
theorem Eu (a:Int)(b:Str):decide ((Sum.inl a:Key)=Sum.inr b)=false:=decide_eq_false (fun q=>nomatch q)
theorem DV (a:Str)(b:Int):decide ((Sum.inr a:Key)=Sum.inl b)=false:=decide_eq_false (fun q=>nomatch q)
def rm (prog:Program)(w:World):PySem.KeyKind prog w Key where
 is:=C5
 hash:=HA w
 inj:=fun v a b ha hb=>by
  rcases cm ha with⟨i,t,rfl,rfl⟩ | ⟨x,t,rfl,rfl⟩
  ·rcases cm hb with⟨j,u,rfl,e⟩ | ⟨y,u,rfl,e⟩
   ·injection e with e1 _;rw[e1]
   ·exact nomatch e
  ·rcases cm hb with⟨j,u,rfl,e⟩ | ⟨y,u,rfl,e⟩
   ·exact nomatch e
   ·injection e with e1 _;rw[e1]
 byValue:=fun k v h=>by
  rcases cm h with⟨i,t,rfl,rfl⟩ | ⟨x,t,rfl,rfl⟩ <;> rfl
 pyHash:=fun hv h=>by
  rcases cm hv with⟨i,t,rfl,rfl⟩ | ⟨x,t,rfl,rfl⟩
  ·exact wpAny_pyHash_int h
  ·exact wpAny_pyHash_str h
 eqBool:=fun hu hv h=>by
  rcases cm hu with⟨i,t,rfl,rfl⟩ | ⟨x,t,rfl,rfl⟩
  ·rcases cm hv with⟨j,u,rfl,rfl⟩ | ⟨y,u,rfl,rfl⟩
   ·rw[DA] at h;exact wpAny_eqBool_int h
   ·rw[Eu] at h;exact SeqAt.EqAt.int_str i t y u _ _ _ _ h
  ·rcases cm hv with⟨j,u,rfl,rfl⟩ | ⟨y,u,rfl,rfl⟩
   ·rw[DV] at h;exact SeqAt.EqAt.str_int x t j u _ _ _ _ h
   ·rw[DD] at h;exact wpAny_eqBool_str h
 «strs»:=fun k x t v h=>by
  rcases cm h with⟨i,u,rfl,e⟩ | ⟨y,u,rfl,e⟩
  ·exact nomatch e
  ·injection e with e1 _
   subst e1
   cases v <;> rfl
end L2
namespace L2
open PySem PySem.Spec PyProof.Rows
inductive V where
 |non |bl (b:Bool) |int (i:Int) |str (x:Str) |byt (b:Array UInt8) |flt (b:UInt64) |ref (a:Addr) |ty (n:String)
 deriving DecidableEq
def RelV:V->Value->Prop
 | .non,u=>u=Value.none
 | .bl b,u=>u=Value.bool b
 | .int i,u=>∃t,u=Value.int i t
 | .str x,u=>∃t,u=Value.str x t
 | .byt b,u=>∃t,u=Value.bytes b t
 | .flt b,u=>∃t,u=Value.float b t
 | .ref a,u=>u=Value.ref a
 | .ty n,u=>u=Value.type n
abbrev Vals:List V->List Value->Prop:=Paired RelV
theorem Vals.length {xs:List V}{us:List Value}(r:Vals xs us):xs.length=us.length:=Paired.length r
theorem Vals.get:∀{xs:List V} {us:List Value} {i:Nat} {x:V},Vals xs us->xs[i]? =some x->∃u,us[i]? =some u/\RelV x u
 |_,_,_,_,.nil,e=>by simp at e
 |_,_,0,_,.cons r _,e=>by simp at e;subst e;exact⟨_,rfl,r⟩
 |_,_,i + 1,x,.cons _ t,e=>by
  obtain⟨u,h1,h2⟩:=Vals.get (i:=i) (x:=x) t (by simpa using e)
  exact⟨u,by simpa using h1,h2⟩
theorem Vals.set {x:V}{u:Value}(r:RelV x u):∀{xs:List V} {us:List Value} (i:Nat),Vals xs us->Vals (xs.set i x) (us.set i u)
 |_,_,_,.nil=>.nil
 |_,_,0,.cons _ t=>.cons r t
 |_,_,i + 1,.cons q t=>.cons q (Vals.set r i t)
theorem Vals.append:∀{xs ys:List V} {us ws:List Value},Vals xs us->Vals ys ws->Vals (xs ++ ys) (us ++ ws)
 |_,_,_,_,.nil,s=>s
 |_,_,_,_,.cons r t,s=>.cons r (Vals.append t s)
theorem Vals.take:∀{xs:List V} {us:List Value} (n:Nat),Vals xs us->Vals (xs.take n) (us.take n)
 |_,_,0,_=>.nil
 |_,_,_ + 1,.nil=>.nil
 |_,_,n + 1,.cons r t=>.cons r (Vals.take n t)
theorem Vals.drop:∀{xs:List V} {us:List Value} (n:Nat),Vals xs us->Vals (xs.drop n) (us.drop n)
 |_,_,0,r=>r
 |_,_,_ + 1,.nil=>.nil
 |_,_,n + 1,.cons _ t=>Vals.drop n t
def zP:Option V->Option Value->Prop
 |some v,some u=>RelV v u
 |none,none=>True
 |_,_=>False
def KV {κ:Type}:List (κ×V)->List (κ×Value)->Prop:=Paired fun (p:κ×V) (q:κ×Value)=>p.1=q.1/\RelV p.2 q.2
def kV:Key->V
 | .inl i=>.int i
 | .inr x=>.str x
inductive HO where
 |lst (xs:List V)
 |tup (xs:List V)
 |dK (kvs:List (Key×V)) |dT (kvs:List (List Key×V))
 |set (S:Int->Bool) (n:Nat)
 |ins (C dx:Addr) (fs:List (Str×V))
 |own (x:Addr)
 |xd (fs:List (Str×V))
 |met (f x:Addr)
 |bQ (lo hi:Int)
 |a9 (o:Obj) (u:HO)
 |tbl (ps:Array Value)
 |ext (φ:Heap->Prop)
abbrev Hp:=Addr->Option HO
def upd (H:Hp)(a:Addr)(o:HO):Hp:=fun b=>if b=a then some o else H b
theorem aA {H:Hp}{a:Addr}{o:HO}:upd H a o a=some o:=by unfold upd;rw[if_pos rfl]
theorem aB {H:Hp}{a b:Addr}{o:HO}(h:b≠a):upd H a o b=H b:=by unfold upd;rw[if_neg h]
theorem C9 {H:Hp}{a b:Addr}{o u:HO}(h:H a=some o)(h':H b=some u)(d:o≠u):a≠b:=by
 intro e;subst e;rw[h] at h';exact d (Option.some.inj h')
theorem aI {H:Hp}{a b:Addr}{o:HO}(h:H a=some o)(h':H b=none):a≠b:=by
 intro e;subst e;rw[h] at h';cases h'
section
variable (P:Program)(w:World)
def pQ (h:Heap)(a:Addr)(items:Array Value):Prop:=∃o,h.get? a=some o/\o.cls=.type "tuple"/\∃n,o.data=.seq items n/\o.dict=none
theorem pQ.isTup {h:Heap}{a:Addr}{items:Array Value}(x:pQ h a items):IsTup h a items:=let ⟨o,e,c,n,d,_⟩:=x;⟨o,e,c,n,d⟩
theorem pQ.new (h:Heap)(items:Array Value):pQ (h.push {cls:=.type "tuple",data:=.seq items}) h.objs.size items:=⟨_,Heap.get?_push_size _ rfl,rfl,_,rfl,rfl⟩
def cJ (H:Hp)(h:Heap)(a:Addr):HO->Prop
 | .lst xs=>xs.length<=sizeLine/\∃(its:List Value) (n:Nat),Vals xs its/\h.get? a=some {cls:=.type "list",data:=.seq its.toArray n}
 | .tup xs=>xs.length<=sizeLine/\∃its:List Value,Vals xs its/\pQ h a its.toArray
 | .dK kvs=>kvs.length<=sizeLine/\(a == sysModules)=false/\∃vs,KV kvs vs/\h.DictOf (rm P w) a vs
 | .dT kvs=>kvs.length<=sizeLine/\(a == sysModules)=false/\∃xs:List (List Key×Addr×Value),
   Paired (fun (p:List Key×V) (q:List Key×Addr×Value)=>p.1=q.1/\H q.2.1=some (.tup (p.1.map kV))/\RelV p.2 q.2.2) kvs xs/\
   ∃o es ep,h.get? a=some o/\o.ExactDict/\o.data=.dict es ep/\es.toList=xs.map (entryOfKey (tupleKind (rm P w)))/\(xs.map (·.1)).Nodup
 | .set S n=>h.SetOf (intKind P w) a S n
 | .ins C dx fs=>H dx=some (.own a)/\fs.length<=1000/\dx≠a/\h.get? a=some (PySem.W.instObj C dx)/\
   ∃mA,h.Ns1 dx mA/\(∀f,zP (fs.lookup f) (mA f))/\PySem.Within mA (fs.map (·.1))
 | .own _=>∃o,h.get? a=some o
 | .xd fs=>∃mA,h.Ns1 a mA/\∀f,zP (fs.lookup f) (mA f)
 | .bQ lo hi=>∃t u v,h.get? a=some {cls:=.type "range",data:=.fields #[.int lo t,.int hi u,.int 1 v]}
 | .a9 o u=>h.get? a=some o/\cJ H h a u
 | .tbl ps=>h.get? a=some {cls:=.none,data:=.fields ps}
 | .met f x=>h.get? a=some (PySem.W.methodObj (.ref f) (.ref x))
 | .ext φ=>φ h/\(∃o,h.get? a=some o)/\∀h1 h2:Heap,φ h1->(∀o,h1.get? a=some o->h2.get? a=some o)->φ h2
def lG (H:Hp)(h:Heap):Prop:=∀a o,H a=some o->cJ P w H h a o
end
section
variable {P:Program}{w:World}{H H':Hp}{h h':Heap}{a:Addr}{o:HO}
theorem cJ.lt (x:cJ P w H h a o):a < h.objs.size:=by
 cases o with
 |lst xs=>obtain⟨_,_,_,_,e⟩:=x;exact Heap.lt_size e
 |tup xs=>obtain⟨_,_,_,p⟩:=x;exact p.isTup.lt
 |dK kvs=>obtain⟨_,_,_,_,o,_,_,e,_⟩:=x;exact Heap.lt_size e
 |dT kvs=>obtain⟨_,_,_,_,o,_,_,e,_⟩:=x;exact Heap.lt_size e
 |set S n=>obtain⟨o,_,_,_,e,_⟩:=x;exact Heap.lt_size e
 |ins C dx fs=>obtain⟨_,_,_,e,_⟩:=x;exact Heap.lt_size e
 |own y=>obtain⟨_,e⟩:=x;exact Heap.lt_size e
 |xd fs=>obtain⟨_,⟨_,_,_,e,_⟩,_⟩:=x;exact Heap.lt_size e
 |bQ lo hi=>obtain⟨_,_,_,e⟩:=x;exact Heap.lt_size e
 |a9 ob u=>obtain⟨e,_⟩:=x;exact Heap.lt_size e
 |tbl ps=>exact Heap.lt_size (show h.get? a=some _ from x)
 |met f y=>exact Heap.lt_size (show h.get? a=some _ from x)
 |ext φ=>obtain⟨_,⟨_,e⟩,_⟩:=x;exact Heap.lt_size e
theorem Paired.mapP {α β:Type}{F G:α->β->Prop}:∀{l₁:List α} {l₂:List β},Paired F l₁ l₂->(∀a b,F a b->G a b)->Paired G l₁ l₂
 |_,_,.nil,_=>.nil
 |_,_,.cons r t,f=>.cons (f _ _ r) (Paired.mapP t f)
theorem cJ.stay (x:cJ P w H h a o)(k:∀b u,(b=a\/H b=some (.own a))->h.get? b=some u->h'.get? b=some u)
  (ho:∀b,H b=some (.own a)->H' b=some (.own a)) (ht:∀b xs,H b=some (.tup xs)->H' b=some (.tup xs)):cJ P w H' h' a o:=by
 induction o with
 |lst xs=>obtain⟨z,its,n,r,e⟩:=x;exact⟨z,its,n,r,k _ _ (.inl rfl) e⟩
 |tup xs=>obtain⟨z,its,r,ob,e,c⟩:=x;exact⟨z,its,r,ob,k _ _ (.inl rfl) e,c⟩
 |dK kvs=>obtain⟨z,y,vs,r,ob,es,ep,e,c⟩:=x;exact⟨z,y,vs,r,ob,es,ep,k _ _ (.inl rfl) e,c⟩
 |dT kvs=>
  obtain⟨z,y,xs,r,ob,es,ep,e,c⟩:=x
  exact⟨z,y,xs,Paired.mapP r fun p q z=>⟨z.1,ht _ _ z.2.1,z.2.2⟩,ob,es,ep,k _ _ (.inl rfl) e,c⟩
 |set S n=>obtain⟨ob,es,ep,t,e,c⟩:=x;exact⟨ob,es,ep,t,k _ _ (.inl rfl) e,c⟩
 |ins C dx fs=>
  obtain⟨d,z,ne,e,mA,⟨od,es,ep,e2,c⟩,r⟩:=x
  exact⟨ho _ d,z,ne,k _ _ (.inl rfl) e,mA,⟨od,es,ep,k _ _ (.inr d) e2,c⟩,r⟩
 |own y=>obtain⟨ob,e⟩:=x;exact⟨ob,k _ _ (.inl rfl) e⟩
 |xd fs=>obtain⟨mA,⟨od,es,ep,e,c⟩,r⟩:=x;exact⟨mA,⟨od,es,ep,k _ _ (.inl rfl) e,c⟩,r⟩
 |bQ lo hi=>obtain⟨t,u,v,e⟩:=x;exact⟨t,u,v,k _ _ (.inl rfl) e⟩
 |a9 ob u ih=>obtain⟨e,q⟩:=x;exact⟨k _ _ (.inl rfl) e,ih q⟩
 |tbl ps=>
  have e:h.get? a=some {cls:=.none,data:=.fields ps}:=x
  show h'.get? a=some {cls:=.none,data:=.fields ps}
  exact k a _ (.inl rfl) e
 |met f y=>
  have e:h.get? a=some (PySem.W.methodObj (.ref f) (.ref y)):=x
  show h'.get? a=some (PySem.W.methodObj (.ref f) (.ref y))
  exact k a _ (.inl rfl) e
 |ext φ=>obtain⟨p,⟨o,e⟩,st⟩:=x;exact⟨st _ _ p fun o q=>k _ _ (.inl rfl) q,⟨o,k _ _ (.inl rfl) e⟩,st⟩
theorem lG.lt (x:lG P w H h)(e:H a=some o):a < h.objs.size:=(x a o e).lt
theorem lG.fresh (x:lG P w H h)(e:h.objs.size<=a):H a=none:=by
 cases q:H a with
 |none=>rfl
 |some u=>exact absurd (Nat.lt_of_lt_of_le (x.lt q) e) (Nat.lt_irrefl _)
theorem lG.kept (x:lG P w H h)(k:∀b u,h.get? b=some u->h'.get? b=some u):lG P w H h':=fun a o e=>
 (x a o e).stay (fun b u _ q=>k b u q) (fun _ q=>q) fun _ _ q=>q
theorem lG.laid (x:lG P w H h)(k:∀b u,h.get? b=some u->h'.get? b=some u)(hp:h.objs.size<=a)(new:cJ P w (upd H a o) h' a o):lG P w (upd H a o) h':=fun b u e=>by
 have hn:=x.fresh hp
 by_cases hb:b=a
 ·subst hb;rw[aA] at e;cases e;exact new
 ·rw[aB hb] at e
  exact (x b u e).stay (fun c v _ q=>k c v q) (fun c q=>by rw[aB (aI q hn)];exact q) fun c xs q=>by rw[aB (aI q hn)];exact q
end
def Rd (H:Hp)(a:Addr)(u:HO):Prop:=H a=some u\/∃o,H a=some (.a9 o u)
theorem Rd.ok {P:Program}{w:World}{H:Hp}{h:Heap}{a:Addr}{u:HO}(r:Rd H a u)(x:lG P w H h):cJ P w H h a u:=by
 rcases r with r | ⟨o,r⟩
 ·exact x a u r
 ·obtain⟨_,q⟩:=x a _ r
  exact q
def Hj:Option HO->Prop
 |some (.lst _)=>True
 |some (.dK _)=>True
 |some (.dT _)=>True
 |some (.set _ _)=>True
 |some (.ins _ _ _)=>True
 |some (.ext _)=>True
 |_=>False
section
variable {P:Program}{w:World}{H:Hp}{h h':Heap}{x e:Addr}{o':HO}
theorem lG.write (ok:lG P w H h)(mu:Hj (H x))(he:e=x\/H e=some (.own x))(k:∀b u,b≠e->h.get? b=some u->h'.get? b=some u)(heo:∃u,h'.get? e=some u)
  (new:cJ P w (upd H x o') h' x o'):lG P w (upd H x o') h':=fun b u q=>by
 have nown:∀c y,H c=some (.own y)->c≠x:=fun c y r z=>by subst z;rw[r] at mu;exact mu
 have ntup:∀c xs,H c=some (.tup xs)->c≠x:=fun c xs r z=>by subst z;rw[r] at mu;exact mu
 by_cases hb:b=x
 ·subst hb;rw[aA] at q;cases q;exact new
 ·rw[aB hb] at q
  by_cases hbe:b=e
  ·have q':H b=some (.own x):=by
    rcases he with z |z
    ·exact absurd (hbe.trans z) hb
    ·rw[hbe];exact z
   rw[q] at q';cases q'
   obtain⟨v,hv⟩:=heo
   exact⟨v,by rw[hbe];exact hv⟩
  ·refine (ok b u q).stay (fun c v hc r=>k c v ?_ r) (fun c r=>by rw[aB (nown c b r)];exact r) fun c xs r=>by rw[aB (ntup c xs r)];exact r
   rcases hc with rfl |hc
   ·exact hbe
   ·rintro rfl
    rcases he with z |z
    ·exact nown c b hc z
    ·rw[hc] at z;cases z;exact hb rfl
end
structure Un (fs ex:List Addr)(H H':Hp)(h h':Heap):Prop where
 keep:∀b o,h.get? b=some o->H b=none->b∉fs->b∉ex->h'.get? b=some o
 slot:∀b o,h.get? b=some o->H b=none->b∈fs->b∉ex->∃sl,h'.get? b=some {o with slots:=sl}
 free:∀b o,h.get? b=some o->H b=none->b∉ex->H' b=none
 there:∀b o,h.get? b=some o->b∉ex->∃o',h'.get? b=some o'
 tups:∀b xs,H b=some (.tup xs)->H' b=some (.tup xs)
 frzs:∀b o u,H b=some (.a9 o u)->H' b=some (.a9 o u)
 tbls:∀b ps,H b=some (.tbl ps)->∃more,H' b=some (.tbl (ps ++ more))
section
variable {fs fs' ex ex':List Addr}{H H1 H2:Hp}{h h1 h2 h':Heap}{a x e:Addr}{o:HO}
theorem Un.any (u:Un fs ex H H1 h h1){b:Addr}{ob:Obj}(q:h.get? b=some ob)(n:H b=none)(hx:b∉ex):∃sl,h1.get? b=some {ob with slots:=sl}:=by
 by_cases hb:b∈fs
 ·exact u.slot b ob q n hb hx
 ·exact⟨ob.slots,u.keep b ob q n hb hx⟩
theorem Un.kept (k:∀b u,h.get? b=some u->h'.get? b=some u):Un fs ex H H h h':=
 ⟨fun b ob q _ _ _=>k b ob q,fun b ob q _ _ _=>⟨ob.slots,k b ob q⟩,fun _ _ _ n _=>n,fun b ob q _=>⟨ob,k b ob q⟩,fun _ _ q=>q,fun _ _ _ q=>q,fun _ ps q=>⟨#[],by rw[q];simp⟩⟩
theorem Un.refl:Un fs ex H H h h:=Un.kept fun _ _ q=>q
theorem Un.laid (k:∀b u,h.get? b=some u->h'.get? b=some u)(hp:h.objs.size<=a)(hn:H a=none):Un fs ex H (upd H a o) h h' where
 keep:=fun b u q _ _ _=>k b u q
 slot:=fun b u q _ _ _=>⟨u.slots,k b u q⟩
 free:=fun b u q n _=>by rw[aB (Nat.ne_of_lt (Nat.lt_of_lt_of_le (Heap.lt_size q) hp))];exact n
 there:=fun b u q _=>⟨u,k b u q⟩
 tups:=fun b xs q=>by rw[aB (aI q hn)];exact q
 frzs:=fun b u xs q=>by rw[aB (aI q hn)];exact q
 tbls:=fun b ps q=>⟨#[],by rw[aB (aI q hn),q];simp⟩
theorem Un.write (mu:Hj (H x))(he:e=x\/H e=some (.own x))(k:∀b u,b≠e->h.get? b=some u->h'.get? b=some u)(heo:∃u,h'.get? e=some u):Un fs ex H (upd H x o) h h':=by
 have hx:∀b,H b=none->b≠x:=fun b n z=>by subst z;rw[n] at mu;exact mu
 have hb:∀b,H b=none->b≠e:=fun b n z=>by
  subst z
  rcases he with r |r
  ·exact hx b n r
  ·rw[n] at r;cases r
 have hm:∀b u,H b=some u->¬Hj (some u)->b≠x:=fun b u q nm z=>by subst z;rw[q] at mu;exact nm mu
 refine⟨fun b u q n _ _=>k b u (hb b n) q,fun b u q n _ _=>⟨u.slots,k b u (hb b n) q⟩,fun b u q n _=>by rw[aB (hx b n)];exact n,fun b u q _=>?_,
  fun b xs q=>by rw[aB (hm b _ q fun z=>z)];exact q,fun b u xs q=>by rw[aB (hm b _ q fun z=>z)];exact q,fun b ps q=>⟨#[],by rw[aB (hm b _ q fun z=>z),q];simp⟩⟩
 by_cases hbe:b=e
 ·subst hbe;exact heo
 ·exact⟨u,k b u hbe q⟩
end
def G8 (h:Heap)(H:Hp):List Addr:=(List.range h.objs.size).filter fun a=>(H a).isSome
def rE (h:Heap)(H:Hp):Heap:=PySem.W.hideAll h (G8 h H)
theorem yg (h:Heap)(H:Hp):(rE h H).objs.size=h.objs.size:=PySem.W.hideAll_size _ _
theorem Ai {h:Heap}{H:Hp}{b:Addr}{o:Obj}(e:h.get? b=some o)(n:H b=none):(rE h H).get? b=some o:=
 PySem.W.hideAll_get _ e fun hm=>by
  have q:(H b).isSome=true:=(List.mem_filter.mp hm).2
  rw[n] at q;simp at q
theorem Cs {h:Heap}{H:Hp}{b:Addr}{o:Obj}(e:(rE h H).get? b=some o):h.get? b=some o/\H b=none:=by
 have e':h.get? b=some o:=PySem.W.of_hideAll (G8 h H) e
 refine⟨e',?_⟩
 cases q:H b with
 |none=>rfl
 |some x=>
  have hm:b∈G8 h H:=List.mem_filter.mpr ⟨List.mem_range.mpr (Heap.lt_size e'),by simp[q]⟩
  have z:(rE h H).get? b=none:=PySem.W.hideAll_none (G8 h H) hm
  rw[z] at e;cases e
def Cy (g h:Heap)(L:Addr):List (Addr×Obj):=(List.range h.objs.size).filterMap fun a=>if a=L\/(g.get? a).isSome=true then none else (h.get? a).map fun o=>(a,o)
def rest (g h:Heap)(L d:Addr):List (Addr×Obj):=(Cy g h L).filter fun p=>decide (p.1≠d)
end L2
namespace L2
open PySem PySem.Spec PyProof.Rows
structure Mod (K:PySem.W.Frag)(mg:Str->Option Value)(base:Heap):Prop where
 kin:K.In base
 glob:base.Ns mainGlobals mg
 blt:∃mb,base.Ns builtinsNs mb/\∀x:Str,x≠"__name__"->mb x=bootBuiltins x
 nolimit:base.NoLimit
 sys:∃mm,base.Ns sysModules mm
structure Cx where
 prog:Program
 w:World
 K:PySem.W.Frag
 mg:Str->Option Value
 base:Heap
 A:Around
 N:List Str
 s₀:Shared
 H₀:Hp
 env:Env
 outer:List Env
 stack:List Env
 ex:List Addr
 fn:Str->Bool
 calm:Bool
 pn:List (Addr×Obj)
 xe:Value->Shared->Prop
def ji (l:List Env):List Addr:=l.filterMap (·.frame)
abbrev Cx.fs (X:Cx):List Addr:=ji X.outer
def yL (sc:Scope)(x:Str):Prop:=sc.names.lookup x=some .local\/sc.names.lookup x=some .cell\/sc.names.lookup x=some .free
def Loc (sc:Scope)(x:Str):Prop:=sc.names.lookup x=some .local\/sc.names.lookup x=some .cell
def Look (env:Env)(h:Heap)(m:Str->Option Value)(x:Str)(u:Value):Prop:=
 (env.kindOf x=some .local/\m x=some u)\/((env.kindOf x=some .cell\/env.kindOf x=some .free)/\∃c,env.cells.lookup x=some c/\h.IsCell c (some u))
structure Cx.Ok (X:Cx):Prop where
 mod:Mod X.K X.mg X.base
 kind:X.env.scope.kind=.function
 glob:X.env.globals=mainGlobals
 blt:X.env.builtins=builtinsNs
 above:X.s₀.heap.objs.size<=X.env.locals
 inj:∀x y c,X.env.cells.lookup x=some c->X.env.cells.lookup y=some c->x=y
 has:∀x,(X.env.kindOf x=some .cell\/X.env.kindOf x=some .free)->∃c,X.env.cells.lookup x=some c
 cab:∀x c,X.fn x=true->X.env.cells.lookup x=some c->X.s₀.heap.objs.size<=c
 hd:X.calm=true->X.A.handled=none
 frames:X.A.frames=some X.stack
 stk:X.stack=X.outer\/(X.stack=X.env :: X.outer/\X.env.frame=some X.env.locals)
 exf:∀b∈X.ex,b≠X.env.locals/\∀x c,X.env.cells.lookup x=some c->c≠b
 bs:∀b o,X.base.get? b=some o->X.s₀.heap.get? b=some o/\X.H₀ b=none
 bsz:X.base.objs.size<=X.s₀.heap.objs.size
 noex:∀b o,X.base.get? b=some o->b∉X.ex
 exfs:∀b∈X.ex,b∉X.fs
 funs:X.s₀.heap.FunFrames X.base X.outer
 frf:∀b∈X.fs,X.H₀ b=none
structure Inv (X:Cx)(pins:List (Addr×Obj))(σ:List (Option V))(H:Hp)(s:Shared):Prop where
 ok:X.Ok
 os:s.os=X.s₀.os
 bare:AllBare s.gens
 base:Un X.fs X.ex X.H₀ H X.s₀.heap s.heap
 loc:∃m,s.heap.Ns X.env.locals m/\∀(i:Nat) (x:Str) (v:V),X.N[i]? =some x->σ[i]? =some (some v)->yL X.env.scope x->∃u,RelV v u/\Look X.env s.heap m x u
 cell:∀x c,X.env.cells.lookup x=some c->∃v,s.heap.IsCell c v
 free:H X.env.locals=none
 freeC:∀x c,X.env.cells.lookup x=some c->H c=none
 pin:∀p∈X.pn ++ pins,s.heap.get? p.1=some p.2/\H p.1=none/\p.1≠X.env.locals/\p.1∉X.fs/\∀v,p.2.data≠.cell v
 hok:lG X.prog X.w H s.heap
 len:σ.length=X.N.length
section
variable {X:Cx}{pins:List (Addr×Obj)}{σ:List (Option V)}{H H':Hp}{s:Shared}{h':Heap}
theorem Cx.Ok.nofr (ok:X.Ok){b:Addr}{o:Obj}(e:X.base.get? b=some o):b∉X.fs:=fun hb=>by
 have:=(ok.funs.mem hb).1
 rw[e] at this;cases this
theorem Inv.bs (I:Inv X pins σ H s):∀b o,X.base.get? b=some o->s.heap.get? b=some o/\H b=none:=fun b o e=>
 ⟨I.base.keep b o (I.ok.bs b o e).1 (I.ok.bs b o e).2 (I.ok.nofr e) (I.ok.noex b o e),I.base.free b o (I.ok.bs b o e).1 (I.ok.bs b o e).2 (I.ok.noex b o e)⟩
theorem Inv.bk (I:Inv X pins σ H s):∀b o,X.base.get? b=some o->s.heap.get? b=some o:=fun b o e=>(I.bs b o e).1
theorem Inv.mod (I:Inv X pins σ H s):Mod X.K X.mg X.base:=I.ok.mod
theorem Inv.kIn (I:Inv X pins σ H s):X.K.In s.heap:=I.ok.mod.kin.keeps I.bk
theorem Inv.lt (I:Inv X pins σ H s):X.env.locals < s.heap.objs.size:=let ⟨_,hn,_⟩:=I.loc;hn.lt
theorem Inv.sz (I:Inv X pins σ H s):X.s₀.heap.objs.size<=s.heap.objs.size:=Nat.le_trans I.ok.above (Nat.le_of_lt I.lt)
theorem Inv.nofs (I:Inv X pins σ H s){a:Addr}(h:s.heap.objs.size<=a):a∉X.fs:=fun hb=>by
 obtain⟨_,o,ho,_⟩:=I.ok.funs.mem hb
 exact absurd (Nat.lt_of_lt_of_le (Heap.lt_size ho) (Nat.le_trans I.sz h)) (Nat.lt_irrefl _)
theorem Inv.cne (I:Inv X pins σ H s):∀x c,X.env.cells.lookup x=some c->c≠X.env.locals:=fun x c e z=>by
 obtain⟨v,o,ho,hd⟩:=I.cell x c e
 obtain⟨m,⟨o',es,ep,ho',hd',_⟩,_⟩:=I.loc
 rw[z,ho'] at ho;cases ho;rw[hd'] at hd;cases hd
theorem Inv.funs (I:Inv X pins σ H s):s.heap.FunFrames X.base X.outer:=by
 have all:∀(l:List Env),(∀b∈ji l,b∈X.fs)->X.s₀.heap.FunFrames X.base l->s.heap.FunFrames X.base l:=by
  intro l
  induction l with
  |nil=>intro _ _;trivial
  |cons env r ih=>
   intro hs hl
   obtain⟨hk,⟨L,o,hf,hn,ho,hd⟩,hr⟩:=hl
   have hL:L∈X.fs:=hs L (by unfold ji;rw[List.filterMap_cons,hf];exact List.mem_cons_self)
   obtain⟨sl,e⟩:=I.base.slot L o ho (I.ok.frf L hL) hL fun z=>I.ok.exfs L z hL
   exact⟨hk,⟨L,_,hf,hn,e,hd⟩,ih (fun b hb=>hs b (by unfold ji;rw[List.filterMap_cons,hf];exact List.mem_cons_of_mem _ hb)) hr⟩
 exact all X.outer (fun _ hb=>hb) I.ok.funs
theorem Inv.stack (I:Inv X pins σ H s):s.heap.FunFrames X.base X.stack:=by
 rcases I.ok.stk with e | ⟨e,hf⟩
 ·rw[e];exact I.funs
 ·rw[e]
  obtain⟨m,hn,_⟩:=I.loc
  refine .cons (by rw[I.ok.kind];decide) hf hn ?_ I.funs
  exact Heap.get?_none_of_le (Nat.le_trans I.ok.bsz I.ok.above)
theorem Inv.stkSub (I:Inv X pins σ H s):∀b∈ji X.stack,b∈X.env.locals :: X.fs:=fun b hb=>by
 rcases I.ok.stk with e | ⟨e,hf⟩
 ·rw[e] at hb;exact List.mem_cons_of_mem _ hb
 ·rw[e] at hb
  unfold ji at hb
  rw[List.filterMap_cons,hf] at hb
  exact hb
theorem Inv.stkFree (I:Inv X pins σ H s):∀b∈ji X.stack,H b=none:=fun b hb=>by
 rcases List.mem_cons.mp (I.stkSub b hb) with e |hb
 ·rw[e];exact I.free
 ·obtain⟨_,o,ho,_⟩:=I.ok.funs.mem hb
  exact I.base.free b o ho (I.ok.frf b hb) fun z=>I.ok.exfs b z hb
theorem Inv.step {g':Array GenState}{t':Nat}{d':Drawn}{ch:List Addr}(I:Inv X pins σ H s)
  (hch:∀b∈ch,(b∈X.ex\/X.s₀.heap.objs.size<=b)/\b≠X.env.locals/\(∀x c,X.env.cells.lookup x=some c->c≠b)/\∀p∈X.pn ++ pins,p.1≠b)
  (keep:∀b o,b≠X.env.locals->b∉X.fs->b∉ch->s.heap.get? b=some o->H b=none->h'.get? b=some o)
  (slot:∀b o,b≠X.env.locals->b∈X.fs->b∉ch->s.heap.get? b=some o->H b=none->∃sl,h'.get? b=some {o with slots:=sl}) (free:∀b o,b∉ch->s.heap.get? b=some o->H b=none->H' b=none)
  (there:∀b o,b∉ch->s.heap.get? b=some o->∃o',h'.get? b=some o')
  (tups:∀b xs,H b=some (.tup xs)->H' b=some (.tup xs)) (frzs:∀b o u,H b=some (.a9 o u)->H' b=some (.a9 o u)) (tbls:∀b ps,H b=some (.tbl ps)->∃more,H' b=some (.tbl (ps ++ more)))
  (ns:∀m,s.heap.Ns X.env.locals m->h'.Ns X.env.locals m) (hok:lG X.prog X.w H' h') (hg:AllBare g') :
  Inv X pins σ H' {s with heap:=h',gens:=g',drawn:=d',toks:=t'}:=by
 have neL:∀b o,X.s₀.heap.get? b=some o->b≠X.env.locals:=fun b o e=>Nat.ne_of_lt (Nat.lt_of_lt_of_le (Heap.lt_size e) I.ok.above)
 have neC:∀b o,X.s₀.heap.get? b=some o->b∉X.ex->b∉ch:=fun b o e hx hb=>by
  rcases (hch b hb).1 with z |z
  ·exact hx z
  ·exact absurd (Nat.lt_of_lt_of_le (Heap.lt_size e) z) (Nat.lt_irrefl _)
 have cellK:∀x c,X.env.cells.lookup x=some c->∀v,s.heap.IsCell c v->h'.IsCell c v:=fun x c e v ⟨o,ho,hd⟩=>by
  have nch:c∉ch:=fun z=>(hch c z).2.2.1 x c e rfl
  by_cases hc:c∈X.fs
  ·obtain⟨sl,q⟩:=slot c o (I.cne x c e) hc nch ho (I.freeC x c e)
   exact⟨_,q,hd⟩
  ·exact⟨o,keep c o (I.cne x c e) hc nch ho (I.freeC x c e),hd⟩
 refine⟨I.ok,I.os,hg,⟨fun b o e n hb hx=>?_,fun b o e n hb hx=>?_,fun b o e n hx=>?_,fun b o e hx=>?_,fun b xs e=>tups b xs (I.base.tups b xs e),fun b o xs e=>frzs b o xs (I.base.frzs b o xs e),fun b ps e=>?_⟩,?_,fun x c e=>?_,?_,fun x c e=>?_,fun p hp=>?_,hok,I.len⟩
 ·exact keep b o (neL b o e) hb (neC b o e hx) (I.base.keep b o e n hb hx) (I.base.free b o e n hx)
 ·obtain⟨sl,e1⟩:=I.base.slot b o e n hb hx
  obtain⟨sl',e2⟩:=slot b _ (neL b o e) hb (neC b o e hx) e1 (I.base.free b o e n hx)
  exact⟨sl',e2⟩
 ·obtain⟨o',e1⟩:=I.base.there b o e hx
  exact free b o' (neC b o e hx) e1 (I.base.free b o e n hx)
 ·obtain⟨o',e1⟩:=I.base.there b o e hx
  exact there b o' (neC b o e hx) e1
 ·obtain⟨m1,e1⟩:=I.base.tbls b ps e
  obtain⟨m2,e2⟩:=tbls b _ e1
  exact⟨m1 ++ m2,by rw[e2,Array.append_assoc]⟩
 ·obtain⟨m,hn,hl⟩:=I.loc
  refine⟨m,ns m hn,fun i x v e1 e2 e3=>?_⟩
  obtain⟨u,r,l⟩:=hl i x v e1 e2 e3
  refine⟨u,r,?_⟩
  rcases l with l | ⟨k,c,e,z⟩
  ·exact .inl l
  ·exact .inr ⟨k,c,e,cellK x c e _ z⟩
 ·obtain⟨v,z⟩:=I.cell x c e
  exact⟨v,cellK x c e v z⟩
 ·obtain⟨m,⟨o,_,_,ho,_⟩,_⟩:=I.loc
  exact free _ o (fun z=>(hch _ z).2.1 rfl) ho I.free
 ·obtain⟨v,o,ho,hd⟩:=I.cell x c e
  exact free c o (fun z=>(hch c z).2.2.1 x c e rfl) ho (I.freeC x c e)
 ·obtain⟨e,n,ne,nf,d⟩:=I.pin p hp
  have nch:p.1∉ch:=fun z=>(hch p.1 z).2.2.2 p hp rfl
  exact⟨keep p.1 p.2 ne nf nch e n,free p.1 p.2 nch e n,ne,nf,d⟩
theorem Inv.un {t':Nat}(I:Inv X pins σ H s)(u:Un X.fs [] H H' s.heap h')(hok:lG X.prog X.w H' h'):Inv X pins σ H' {s with heap:=h',toks:=t'}:=by
 obtain⟨m,⟨o,es,ep,ho,r⟩,_⟩:=id I.loc
 obtain⟨sl,hL⟩:=u.any ho I.free (by simp)
 exact I.step (g':=s.gens) (d':=s.drawn) (ch:=[]) (fun _ z=>nomatch z) (fun b o _ hb _ e n=>u.keep b o e n hb (by simp)) (fun b o _ hb _ e n=>u.slot b o e n hb (by simp)) (fun b o _ e n=>u.free b o e n (by simp)) (fun b o _ e=>u.there b o e (by simp)) u.tups u.frzs u.tbls (fun m' hm=>by
  obtain⟨o',es',ep',ho',r'⟩:=hm
  rw[ho] at ho';cases ho'
  exact⟨_,es',ep',hL,r'⟩) hok I.bare
theorem Inv.call {g':Array GenState}{t':Nat}{d':Drawn}{ch:List Addr}(I:Inv X pins σ H s)(u:Un (ji X.stack) ch H H' s.heap h')(hok:lG X.prog X.w H' h')(hg:AllBare g')
  (hch:∀b∈ch,(b∈X.ex\/X.s₀.heap.objs.size<=b)/\b≠X.env.locals/\(∀x c,X.env.cells.lookup x=some c->c≠b)/\∀p∈X.pn ++ pins,p.1≠b) :
  Inv X pins σ H' {s with heap:=h',gens:=g',drawn:=d',toks:=t'}:=by
 obtain⟨m,⟨o,es,ep,ho,r⟩,_⟩:=id I.loc
 obtain⟨sl,hL⟩:=u.any ho I.free fun z=>(hch _ z).2.1 rfl
 exact I.step (ch:=ch) hch (fun b o hL hb hc e n=>u.keep b o e n (fun z=>(List.mem_cons.mp (I.stkSub b z)).elim hL hb) hc) (fun b o _ _ hc e n=>u.any e n hc) (fun b o hc e n=>u.free b o e n hc) (fun b o hc e=>u.there b o e hc) u.tups u.frzs u.tbls (fun m' hm=>by
  obtain⟨o',es',ep',ho',r'⟩:=hm
  rw[ho] at ho';cases ho'
  exact⟨_,es',ep',hL,r'⟩) hok hg
theorem Inv.turned {t':Nat}{it:Addr}(I:Inv X pins σ H s)(k:∀b o,b≠it->s.heap.get? b=some o->h'.get? b=some o)(hn:H it=none)(hL:it≠X.env.locals)
  (h1:it∈X.ex\/X.s₀.heap.objs.size<=it) (h2:∀x c,X.env.cells.lookup x=some c->c≠it) (h3:∀p∈X.pn ++ pins,p.1≠it):Inv X pins σ H {s with heap:=h',toks:=t'}:=by
 have nit:∀b u,H b=some u->b≠it:=fun b u e z=>by rw[z,hn] at e;cases e
 refine I.step (g':=s.gens) (d':=s.drawn) (ch:=[it]) (fun b hb=>?_) (fun b o _ _ hc e _=>k b o (fun z=>hc (by simp[z])) e) (fun b o _ _ hc e _=>⟨o.slots,k b o (fun z=>hc (by simp[z])) e⟩) (fun _ _ _ _ n=>n)
  (fun b o hc e=>⟨o,k b o (fun z=>hc (by simp[z])) e⟩) (fun _ _ e=>e) (fun _ _ _ e=>e) (fun b ps e=>⟨#[],by rw[e];simp⟩) (fun m hm=>?_) (fun b u e=>?_) I.bare
 ·have e:b=it:=by simpa using hb
  subst e
  exact⟨h1,hL,h2,h3⟩
 ·obtain⟨o,es,ep,ho,r⟩:=hm
  exact⟨o,es,ep,k _ o (Ne.symm hL) ho,r⟩
 ·refine (I.hok b u e).stay (fun c v hc q=>k c v ?_ q) (fun _ q=>q) fun _ _ q=>q
  rcases hc with z |z
  ·rw[z];exact nit b u e
  ·exact nit c _ z
theorem Inv.tok (I:Inv X pins σ H s)(t:Nat):Inv X pins σ H {s with toks:=t}:=I.un (h':=s.heap) (t':=t) Un.refl I.hok
theorem Inv.kept {t':Nat}(I:Inv X pins σ H s)(k:∀b u,s.heap.get? b=some u->h'.get? b=some u):Inv X pins σ H {s with heap:=h',toks:=t'}:=I.un (Un.kept k) (I.hok.kept k)
theorem Inv.laid {a:Addr}{o:HO}{t':Nat}(I:Inv X pins σ H s)(k:∀b u,s.heap.get? b=some u->h'.get? b=some u)(hp:s.heap.objs.size<=a)(new:cJ X.prog X.w (upd H a o) h' a o) :
  Inv X pins σ (upd H a o) {s with heap:=h',toks:=t'}:=I.un (Un.laid k hp (I.hok.fresh hp)) (I.hok.laid k hp new)
theorem Inv.write {x e:Addr}{o:HO}{t':Nat}(I:Inv X pins σ H s)(mu:Hj (H x))(he:e=x\/H e=some (.own x))(k:∀b u,b≠e->s.heap.get? b=some u->h'.get? b=some u)(heo:∃u,h'.get? e=some u)
  (new:cJ X.prog X.w (upd H x o) h' x o):Inv X pins σ (upd H x o) {s with heap:=h',toks:=t'}:=I.un (Un.write mu he k heo) (I.hok.write mu he k heo new)
theorem Inv.pins_of {pins':List (Addr×Obj)}(I:Inv X pins σ H s)(h:∀p∈pins',s.heap.get? p.1=some p.2/\H p.1=none/\p.1≠X.env.locals/\p.1∉X.fs/\∀v,p.2.data≠.cell v):Inv X pins' σ H s:=
 ⟨I.ok,I.os,I.bare,I.base,I.loc,I.cell,I.free,I.freeC,fun p hp=>(List.mem_append.mp hp).elim (fun z=>I.pin p (List.mem_append_left _ z)) (h p),I.hok,I.len⟩
theorem uh {N:List Str}(hN:N.Nodup){i j:Nat}{x:Str}(a:N[i]? =some x)(b:N[j]? =some x):i=j:=by
 obtain⟨h1,e1⟩:=List.getElem?_eq_some_iff.mp a
 obtain⟨h2,e2⟩:=List.getElem?_eq_some_iff.mp b
 exact (List.getElem_inj hN).mp (e1.trans e2.symm)
theorem qF {M:Model}{A:Around}{E:Value->Shared->Prop}{i:Nat}{x:Str}{v:V}{u:Value}{Q:Unit->Shared->Prop}(I:Inv X pins σ H s)(hN:X.N.Nodup)(hi:X.N[i]? =some x)(hx:Loc X.env.scope x)(r:RelV v u)
  (h:∀s',Inv X pins (σ.set i (some v)) H s'->(∃a,Heap.SameBut a s.heap s'.heap/\(a=X.env.locals\/X.env.cells.lookup x=some a))->Q () s') (hf:X.fn x=true\/X.env.scope.names.lookup x=some .local:=by first |exact .inl rfl |exact .inr rfl |assumption):wpAny M A (storeName X.env x u) Q E s:=by
 obtain⟨m,hn,hl⟩:=id I.loc
 have hcls:(X.env.scope.kind == .class || (X.env.scope.kind == .module && X.env.locals != X.env.globals))=false:=by rw[I.ok.kind];rfl
 have hiσ:i < σ.length:=by rw[I.len];exact (List.getElem?_eq_some_iff.mp hi).1
 have cne:=I.cne
 have tracked:∀{a:Addr} {h':Heap},(∃o,s.heap.get? a=some o/\H a=none)->Heap.SameBut a s.heap h'->lG X.prog X.w H h':=fun {a h'} ha hs b ob e=>by
  obtain⟨_,_,hfree⟩:=ha
  refine (I.hok b ob e).stay (fun c w' hc q=>(hs.2 c ?_).trans q) (fun _ q=>q) fun _ _ q=>q
  rintro rfl
  rcases hc with rfl |hc
  ·rw[hfree] at e;cases e
  ·rw[hfree] at hc;cases hc
 rcases hx with hk |hk
 ·refine wpAny_storeName_local hk hn (fun h' hn' hs=>?_) hcls
  obtain⟨oL,_,_,hoL,_⟩:=id hn
  refine h _ ⟨I.ok,I.os,I.bare,⟨fun b o e n hb hx=>?_,fun b o e n hb hx=>?_,I.base.free,fun b o e hx=>?_,I.base.tups,I.base.frzs,I.base.tbls⟩,⟨_,hn',fun j y v' e1 e2 e3=>?_⟩,fun y c e=>?_,I.free,I.freeC,fun p hp=>?_,tracked ⟨oL,hoL,I.free⟩ hs,by simpa using I.len⟩ ⟨_,hs,.inl rfl⟩
  ·exact (hs.2 b (Nat.ne_of_lt (Nat.lt_of_lt_of_le (Heap.lt_size e) I.ok.above))).trans (I.base.keep b o e n hb hx)
  ·obtain⟨sl,e1⟩:=I.base.slot b o e n hb hx
   exact⟨sl,(hs.2 b (Nat.ne_of_lt (Nat.lt_of_lt_of_le (Heap.lt_size e) I.ok.above))).trans e1⟩
  ·obtain⟨o',e1⟩:=I.base.there b o e hx
   exact⟨o',(hs.2 b (Nat.ne_of_lt (Nat.lt_of_lt_of_le (Heap.lt_size e) I.ok.above))).trans e1⟩
  ·by_cases hj:j=i
   ·subst hj
    rw[hi] at e1;cases e1
    rw[List.getElem?_set_self hiσ] at e2
    cases e2
    exact⟨u,r,.inl ⟨hk,by simp⟩⟩
   ·rw[List.getElem?_set_ne (Ne.symm hj)] at e2
    obtain⟨u',r',q⟩:=hl j y v' e1 e2 e3
    refine⟨u',r',?_⟩
    rcases q with⟨k,e⟩ | ⟨k,c,e,z⟩
    ·refine .inl ⟨k,?_⟩
     have:y≠x:=fun e=>hj (uh hN e1 (e▸hi))
     simp[this,e]
    ·exact .inr ⟨k,c,e,z.sameBut hs (cne y c e)⟩
  ·obtain⟨w',z⟩:=I.cell y c e
   exact⟨w',z.sameBut hs (cne y c e)⟩
  ·obtain⟨e,n,ne,nf,d⟩:=I.pin p hp
   exact⟨(hs.2 p.1 ne).trans e,n,ne,nf,d⟩
 ·have hfn:X.fn x=true:=by
   rcases hf with z |z
   ·exact z
   ·rw[z] at hk;cases hk
  obtain⟨c,hc⟩:=I.ok.has x (.inl hk)
  obtain⟨w',z⟩:=I.cell x c hc
  refine wpAny_storeName_cell I.ok.kind hk hc z (fun h' hc' hs=>?_)
  obtain⟨oc,hoc,hocd⟩:=id z
  refine h {s with heap:=h'} ⟨I.ok,I.os,I.bare,⟨fun b o e n hb hx=>?_,fun b o e n hb hx=>?_,I.base.free,fun b o e hx=>?_,I.base.tups,I.base.frzs,I.base.tbls⟩,⟨m,hn.sameBut hs (Ne.symm (cne x c hc)),fun j y v' e1 e2 e3=>?_⟩,fun y c' e=>?_,I.free,I.freeC,fun p hp=>?_,tracked ⟨oc,hoc,I.freeC x c hc⟩ hs,by simpa using I.len⟩ ⟨c,hs,.inr hc⟩
  ·exact (hs.2 b (Nat.ne_of_lt (Nat.lt_of_lt_of_le (Heap.lt_size e) (I.ok.cab x c hfn hc)))).trans (I.base.keep b o e n hb hx)
  ·obtain⟨sl,e1⟩:=I.base.slot b o e n hb hx
   exact⟨sl,(hs.2 b (Nat.ne_of_lt (Nat.lt_of_lt_of_le (Heap.lt_size e) (I.ok.cab x c hfn hc)))).trans e1⟩
  ·obtain⟨o',e1⟩:=I.base.there b o e hx
   exact⟨o',(hs.2 b (Nat.ne_of_lt (Nat.lt_of_lt_of_le (Heap.lt_size e) (I.ok.cab x c hfn hc)))).trans e1⟩
  ·by_cases hj:j=i
   ·subst hj
    rw[hi] at e1;cases e1
    rw[List.getElem?_set_self hiσ] at e2
    cases e2
    exact⟨u,r,.inr ⟨.inl hk,c,hc,hc'⟩⟩
   ·rw[List.getElem?_set_ne (Ne.symm hj)] at e2
    obtain⟨u',r',q⟩:=hl j y v' e1 e2 e3
    refine⟨u',r',?_⟩
    rcases q with q | ⟨k,c',e,z'⟩
    ·exact .inl q
    ·refine .inr ⟨k,c',e,z'.sameBut hs ?_⟩
     rintro rfl
     exact hj (uh hN e1 (I.ok.inj _ _ _ e hc▸hi))
  ·by_cases hcc:c'=c
   ·subst hcc;exact⟨_,hc'⟩
   ·obtain⟨w2,z2⟩:=I.cell y c' e
    exact⟨w2,z2.sameBut hs hcc⟩
  ·obtain⟨e,n,ne,nf,d⟩:=I.pin p hp
   refine⟨(hs.2 p.1 ?_).trans e,n,ne,nf,d⟩
   intro q
   rw[q,hoc] at e
   have q':oc=p.2:=Option.some.inj e
   exact d w' (by rw[<-q'];exact hocd)
theorem sX {M:Model}{A:Around}{E:Value->Shared->Prop}{i:Nat}{x:Str}{v:V}{u:Value}{Q:Unit->Shared->Prop}(I:Inv X pins σ H s)(hN:X.N.Nodup)(hi:X.N[i]? =some x)(hx:Loc X.env.scope x)(r:RelV v u)
  (h:∀s',Inv X pins (σ.set i (some v)) H s'->Q () s') (hf:X.fn x=true\/X.env.scope.names.lookup x=some .local:=by first |exact .inl rfl |exact .inr rfl |assumption):wpAny M A (storeName X.env x u) Q E s:=
 qF I hN hi hx r (fun s' I' _=>h s' I') hf
theorem Inv.call' {s':Shared}{ch:List Addr}(I:Inv X pins σ H s)(ho:s'.os=s.os)(u:Un (ji X.stack) ch H H' s.heap s'.heap)(hok:lG X.prog X.w H' s'.heap)(hg:AllBare s'.gens)
  (hch:∀b∈ch,(b∈X.ex\/X.s₀.heap.objs.size<=b)/\b≠X.env.locals/\(∀x c,X.env.cells.lookup x=some c->c≠b)/\∀p∈X.pn ++ pins,p.1≠b):Inv X pins σ H' s':=by
 obtain⟨h',g',d',t',o'⟩:=s'
 have e:o'=s.os:=ho
 subst e
 exact I.call (g':=g') (t':=t') (d':=d') u hok hg hch
end
abbrev XK:=Value->Option Addr->Hp->Prop
abbrev St:=List (Option V)
abbrev VK:=V->Hp->Prop
abbrev TE:=St->Hp->VK->Prop
abbrev TT:=St->Hp->(Bool->Hp->Prop)->Prop
abbrev TA:=St->Hp->(List V->Hp->Prop)->Prop
structure Ends where
 nx:St->Hp->Prop
 rt:VK
 bk:St->Hp->Prop:=fun _ _=>False
 ct:St->Hp->Prop:=fun _ _=>False
abbrev TS:=Ends->St->Hp->Prop
def EP (X:Cx)(pins:List (Addr×Obj))(σ:St)(Q:VK)(u:Value)(s':Shared):Prop:=∃v H',Inv X pins σ H' s'/\RelV v u/\Q v H'
def TP (X:Cx)(pins:List (Addr×Obj))(σ:St)(Q:Bool->Hp->Prop)(b:Bool)(s':Shared):Prop:=∃H',Inv X pins σ H' s'/\Q b H'
def AP (X:Cx)(pins:List (Addr×Obj))(σ:St)(Q:List V->Hp->Prop)(us:List Value)(s':Shared):Prop:=∃vs H',Inv X pins σ H' s'/\Vals vs us/\Q vs H'
def SP (X:Cx)(pins:List (Addr×Obj))(D:Ends)(f:Flow)(s':Shared):Prop:=
 match f with
 | .next=>∃σ' H',Inv X pins σ' H' s'/\D.nx σ' H'
 | .brk=>∃σ' H',Inv X pins σ' H' s'/\D.bk σ' H'
 | .cont=>∃σ' H',Inv X pins σ' H' s'/\D.ct σ' H'
 | .ret u=>∃v σ' H',Inv X pins σ' H' s'/\RelV v u/\D.rt v H'
def PE (X:Cx)(e:Expr)(t:TE):Prop:=
 ∀(pins:List (Addr×Obj)) (s:Shared) (σ:St) (H:Hp) (Q:VK),Inv X pins σ H s->t σ H Q->wpAny (model X.prog X.w) X.A (eval e X.env) (EP X pins σ Q) X.xe s
def PT (X:Cx)(e:Expr)(t:TT):Prop:=
 ∀(pins:List (Addr×Obj)) (s:Shared) (σ:St) (H:Hp) (Q:Bool->Hp->Prop),Inv X pins σ H s->t σ H Q->wpAny (model X.prog X.w) X.A (isTrue e X.env (eval e X.env)) (TP X pins σ Q) X.xe s
def PW (X:Cx)(e:Expr)(t:TT):Prop:=
 ∀(whole:Sem Value) (pins:List (Addr×Obj)) (s:Shared) (σ:St) (H:Hp) (Q:Bool->Hp->Prop),Inv X pins σ H s->t σ H Q->wpAny (model X.prog X.w) X.A (isTrue e X.env whole) (TP X pins σ Q) X.xe s
theorem PW.pt {X:Cx}{e:Expr}{t:TT}(h:PW X e t):PT X e t:=h _
def PA (X:Cx)(es:List Expr)(t:TA):Prop:=
 ∀(pos:Pos) (pins:List (Addr×Obj)) (s:Shared) (σ:St) (H:Hp) (Q:List V->Hp->Prop),Inv X pins σ H s->t σ H Q->wpAny (model X.prog X.w) X.A (spliced (backTo pos (starEach es X.env))) (AP X pins σ Q) X.xe s
def PS (X:Cx)(st:Stmt)(t:TS):Prop:=
 ∀(pins:List (Addr×Obj)) (s:Shared) (σ:St) (H:Hp) (D:Ends),Inv X pins σ H s->t D σ H->wpAny (model X.prog X.w) X.A (exec st X.env) (SP X pins D) X.xe s
def qP (X:Cx)(st:List Stmt)(t:TS):Prop:=
 ∀(pins:List (Addr×Obj)) (s:Shared) (σ:St) (H:Hp) (D:Ends),Inv X pins σ H s->t D σ H->wpAny (model X.prog X.w) X.A (execs st X.env) (SP X pins D) X.xe s
theorem cZ {α:Type}{t:Sem α}{Q Q':α->Shared->Prop}{M:Model}{A:Around}{E:Value->Shared->Prop}{s:Shared}(h:wpAny M A t Q E s)(hQ:∀a s,Q a s->Q' a s):wpAny M A t Q' E s:=wpAny_mono h hQ fun _ _ x=>x
end L2
namespace L2
open PySem PySem.Spec PyProof.Rows
section
variable {X:Cx}
theorem bin {a b:Expr}{ta tb:TE}(ha:PE X a ta)(hb:PE X b tb){pins:List (Addr×Obj)}{s:Shared}{σ:St}{H:Hp}{R:V->V->Hp->Prop}(I:Inv X pins σ H s)(h:ta σ H fun x H1=>tb σ H1 fun y H2=>R x y H2)
  {α:Type} {Q:α->Shared->Prop} {f:Value->Value->Sem α}
  (hf:∀v u s2 x y H2,Inv X pins σ H2 s2->RelV x v->RelV y u->R x y H2->wpAny (model X.prog X.w) X.A (f v u) Q X.xe s2) :
  wpAny (model X.prog X.w) X.A (eval a X.env) (fun v s₁=>wpAny (model X.prog X.w) X.A (eval b X.env) (fun u s₂=>wpAny (model X.prog X.w) X.A (f v u) Q X.xe s₂) X.xe s₁) X.xe s:=by
 refine cZ (ha pins s σ H _ I h) fun v s1 ⟨x,H1,I1,r1,q1⟩=>?_
 refine cZ (hb pins s1 σ H1 _ I1 q1) fun u s2 ⟨y,H2,I2,r2,q2⟩=>?_
 exact hf v u s2 x y H2 I2 r1 r2 q2
def Bo (i:Nat):TE:=fun σ H Q=>∃v,σ[i]? =some (some v)/\Q v H
def tC (v:V):TE:=fun _ H Q=>Q v H
theorem jP {i:Nat}{x:Str}{pos:Pos}(hN:X.N[i]? =some x)(hv:yL X.env.scope x)(hd:(x == ("__debug__":Str))=false:=by decide)(hcd:(x == ("__classdict__":Str))=false:=by decide):PE X (.Name x pos) (Bo i):=by
 intro pins s σ H Q I h
 obtain⟨v,e,h⟩:=h
 obtain⟨m,hn,hl⟩:=I.loc
 obtain⟨u,r,l⟩:=hl i x v hN e hv
 have fin:EP X pins σ Q u s:=⟨v,H,I,r,h⟩
 rcases l with⟨hk,hm⟩ | ⟨hk,c,hc,hcell⟩
 ·exact wpAny_Name (wpAny_loadName_local I.ok.kind hk hn hm fin) hd
 ·rcases hk with hk |hk
  ·exact wpAny_Name (wpAny_loadName_cell I.ok.kind hk hc hcell fin) hd
  ·exact wpAny_Name (wpAny_loadName_free I.ok.kind hk hc hcell fin hcd) hd
theorem vv {i j pos}:PE X (.Constant (.int i) j pos) (tC (.int i)):=fun _ _ _ H _ I h=>wpAny_Constant_int ⟨.int i,H,I.tok _,⟨_,rfl⟩,h⟩
theorem wV {b j pos}:PE X (.Constant (.bool b) j pos) (tC (.bl b)):=fun _ _ _ H _ I h=>Constant_bool ⟨.bl b,H,I,rfl,h⟩
theorem E6 {x j pos}:PE X (.Constant (.str x) j pos) (tC (.str x)):=fun _ _ _ H _ I h=>Calls.Constant_str ⟨.str x,H,I.tok _,⟨_,rfl⟩,h⟩
def Gl (X:Cx)(x:Str):Prop:=X.env.kindOf x=some .globalImplicit
theorem rR {E:Value->Shared->Prop}{pins:List (Addr×Obj)}{s:Shared}{σ:St}{H:Hp}{x:Str}{u:Value}{pos:Pos}{Q:Value->Shared->Prop}(I:Inv X pins σ H s)(hg:Gl X x)(hm:X.mg x=some u)(h:Q u s)
  (hd:(x == ("__debug__":Str))=false:=by decide):wpAny (model X.prog X.w) X.A (eval (.Name x pos) X.env) Q E s:=
 Calls.Name_function_global I.ok.kind hg (Calls.loadGlobal_global (by rw[I.ok.glob];exact I.mod.glob.keeps I.bk) hm h) hd
theorem oM {E:Value->Shared->Prop}{pins:List (Addr×Obj)}{s:Shared}{σ:St}{H:Hp}{x:Str}{u:Value}{pos:Pos}{Q:Value->Shared->Prop}(I:Inv X pins σ H s)(hg:Gl X x)(hm:X.mg x=none)(hv:bootBuiltins x=some u)(h:Q u s)
  (hn:x≠"__name__":=by decide) (hd:(x == ("__debug__":Str))=false:=by decide):wpAny (model X.prog X.w) X.A (eval (.Name x pos) X.env) Q E s:=by
 obtain⟨mb,h1,h2⟩:=I.mod.blt
 exact Calls.Name_function_global I.ok.kind hg (Calls.loadGlobal_builtin (by rw[I.ok.glob];exact I.mod.glob.keeps I.bk) hm (by rw[I.ok.blt];exact h1.keeps I.bk) ((h2 x hn).trans hv) h) hd
theorem B5 {x:Str}{v:V}{u:Value}{pos:Pos}(hg:Gl X x)(hm:X.mg x=some u)(r:RelV v u)(hd:(x == ("__debug__":Str))=false:=by decide):PE X (.Name x pos) (tC v):=
 fun _ _ _ H _ I h=>rR I hg hm ⟨v,H,I,r,h⟩ hd
theorem Bu {x:Str}{v:V}{u:Value}{pos:Pos}(hg:Gl X x)(hm:X.mg x=none)(hv:bootBuiltins x=some u)(r:RelV v u)(hn:x≠"__name__":=by decide)(hd:(x == ("__debug__":Str))=false:=by decide):PE X (.Name x pos) (tC v):=
 fun _ _ _ H _ I h=>oM I hg hm hv ⟨v,H,I,r,h⟩ hn hd
variable {a b:Expr}{ta tb:TE}{pos:Pos}
def PC (X:Cx)(op:CmpOp)(a b:Expr)(t:TE):Prop:=
 ∀(pins:List (Addr×Obj)) (s:Shared) (σ:St) (H:Hp) (Q:VK),Inv X pins σ H s->t σ H Q->
  wpAny (model X.prog X.w) X.A (eval a X.env) (fun v s₁=>wpAny (model X.prog X.w) X.A (eval b X.env) (fun u s₂=>wpAny (model X.prog X.w) X.A (compareOp op v u) (EP X pins σ Q) X.xe s₂) X.xe s₁) X.xe s
theorem AM (b:Expr){op:CmpOp}(h:op≠.In)(h2:op≠.NotIn):behindInMarks op b=false:=by
 have e1:(op == CmpOp.In)=false:=by cases op <;> first |rfl |exact absurd rfl h
 have e2:(op == CmpOp.NotIn)=false:=by cases op <;> first |rfl |exact absurd rfl h2
 cases b <;> simp[behindInMarks,e1,e2]
def tB (t:TE):TT:=fun σ H Q=>t σ H fun x H1=>∃c,x=.bl c/\Q c H1
theorem HX {op:CmpOp}{t:TE}(h:PC X op a b t)(h1:behindInMarks op b=false:=by first |exact AM _ (by decide) (by decide) |rfl):PT X (.Compare a [op] [b] pos) (tB t):=by
 intro pins s σ H Q I hw
 refine wpAny_isTrue_Compare1 (cZ (h pins s σ H _ I hw) fun v s1 h1=>cZ h1 fun u s2 h2=>cZ h2 fun c s3 ⟨x,H1,I1,r1,q1⟩=>?_) h1
 obtain⟨d,rfl,q⟩:=q1
 cases r1
 exact wpAny_truthy_bool ⟨H1,I1,q⟩
theorem vL {e:Expr}{t:TE}(h:PE X e t)(he:∀whole,isTrue e X.env whole=(do let v <-whole;standAt e.pos;holding [v] (truthy v)):=by intro _;rfl):PT X e (tB t):=by
 intro pins s σ H Q I hw
 refine isTrue_plain (cZ (h pins s σ H _ I hw) fun v s1 ⟨x,H1,I1,r1,q1⟩=>?_) (he _)
 obtain⟨d,rfl,q⟩:=q1
 cases r1
 exact wpAny_truthy_bool ⟨H1,I1,q⟩
variable {tA tB':TT}{rest:List Expr}
def HW (t u:TT):TT:=fun σ H Q=>t σ H fun c H1=>if c=true then u σ H1 Q else Q false H1
def Ja (t u:TT):TT:=fun σ H Q=>t σ H fun c H1=>if c=true then Q true H1 else u σ H1 Q
def Ia (t:TT):TT:=fun σ H Q=>t σ H fun c H1=>Q (!c) H1
theorem wg (ha:PT X a tA):PW X (.BoolOp .And [a] pos) tA:=by
 intro wh pins s σ H Q I h
 refine isTrue_and (cZ (ha pins s σ H Q I h) fun c s1 e=>?_)
 cases c with
 |true=>exact isTrue_and_nil e
 |false=>exact e
theorem E2 (ha:PT X a tA):PW X (.BoolOp .Or [a] pos) tA:=by
 intro wh pins s σ H Q I h
 refine isTrue_or (cZ (ha pins s σ H Q I h) fun c s1 e=>?_)
 cases c with
 |false=>exact isTrue_or_nil e
 |true=>exact e
theorem y2 (ha:PT X a tA)(hb:PW X (.BoolOp .And (b :: rest) pos) tB'):PW X (.BoolOp .And (a :: b :: rest) pos) (HW tA tB'):=by
 intro wh pins s σ H Q I h
 refine isTrue_and (cZ (ha pins s σ H _ I h) fun c s1 ⟨H1,I1,q1⟩=>?_)
 cases c with
 |true=>exact hb wh pins s1 σ H1 Q I1 q1
 |false=>exact⟨H1,I1,q1⟩
theorem FL (ha:PT X a tA)(hb:PW X (.BoolOp .Or (b :: rest) pos) tB'):PW X (.BoolOp .Or (a :: b :: rest) pos) (Ja tA tB'):=by
 intro wh pins s σ H Q I h
 refine isTrue_or (cZ (ha pins s σ H _ I h) fun c s1 ⟨H1,I1,q1⟩=>?_)
 cases c with
 |true=>exact⟨H1,I1,q1⟩
 |false=>exact hb wh pins s1 σ H1 Q I1 q1
theorem D6 (ha:PT X a tA):PT X (.UnaryOp .Not a pos) (Ia tA):=by
 intro pins s σ H Q I h
 exact isTrue_not (ha pins s σ H (fun c H1=>Q (!c) H1) I h)
def FJ (ta tb:TE):TE:=fun σ H Q=>ta σ H fun x H1=>∃c,x=.bl c/\if c=true then tb σ H1 Q else Q (.bl false) H1
def F0 (ta:TE):TE:=fun σ H Q=>ta σ H fun x H1=>∃c,x=.bl c/\Q (.bl (!c)) H1
theorem DW {op}{t:TE}(h:PE X a t):PE X (.BoolOp op [a] pos) t:=fun pins s σ H Q I hw=>BoolOp_one (h pins s σ H Q I hw)
theorem Ey (ha:PE X a ta)(hb:PE X (.BoolOp .And (b :: rest) pos) tb):PE X (.BoolOp .And (a :: b :: rest) pos) (FJ ta tb):=by
 intro pins s σ H Q I h
 refine BoolOp_and (cZ (ha pins s σ H _ I h) fun v s1 ⟨x,H1,I1,r1,q1⟩=>?_)
 obtain⟨c,rfl,q1⟩:=q1
 cases r1
 refine wpAny_truthy_bool ?_
 cases c with
 |true=>exact hb pins s1 σ H1 Q I1 q1
 |false=>exact⟨.bl false,H1,I1,rfl,q1⟩
theorem E7 (ha:PE X a ta):PE X (.UnaryOp .Not a pos) (F0 ta):=by
 intro pins s σ H Q I h
 refine UnaryOp_ (cZ (ha pins s σ H _ I h) fun v s1 ⟨x,H1,I1,r1,q1⟩=>?_)
 obtain⟨c,rfl,q1⟩:=q1
 cases r1
 exact not_of (wpAny_truthy_bool ⟨.bl (!c),H1,I1,rfl,q1⟩)
def IX (t:TT)(ta tb:TE):TE:=fun σ H Q=>t σ H fun c H1=>if c=true then ta σ H1 Q else tb σ H1 Q
theorem y9 {c:Expr}(hc:PT X c tA)(ha:PE X a ta)(hb:PE X b tb):PE X (.IfExp c a b pos) (IX tA ta tb):=by
 intro pins s σ H Q I h
 refine wpAny_IfExp (cZ (hc pins s σ H _ I h) fun d s1 ⟨H1,I1,q1⟩=>?_)
 cases d with
 |true=>exact ha pins s1 σ H1 Q I1 q1
 |false=>exact hb pins s1 σ H1 Q I1 q1
end
end L2
namespace L2
open PySem PySem.Spec PyProof.Rows
def hZ (K:PySem.W.Frag)(H:Hp)(a:Addr)(xs:List V):Prop:=
 Rd H a (.lst xs)\/
  ∃(o:Obj) (its:Array Value) (n:Nat),K.lookup a=some o/\o.cls=.type "list"/\o.dict=none/\o.data=.seq its n/\its.size<=sizeLine/\Vals xs its.toList
def eh (K:PySem.W.Frag)(H:Hp)(a:Addr)(xs:List V):Prop:=
 Rd H a (.tup xs)\/
  ∃(o:Obj) (its:Array Value) (n:Nat),K.lookup a=some o/\o.cls=.type "tuple"/\o.data=.seq its n/\its.size<=sizeLine/\Vals xs its.toList/\o.dict=none
def IB:Value->Option V
 | .none=>some .non
 | .bool b=>some (.bl b)
 | .int i _=>some (.int i)
 | .str x _=>some (.str x)
 | .bytes b _=>some (.byt b)
 | .float b _=>some (.flt b)
 | .ref a=>some (.ref a)
 | .type n=>some (.ty n)
 |_=>none
theorem RelV.abs {x:V}{u:Value}(r:RelV x u):IB u=some x:=by
 cases x with
 |non=>cases r;rfl
 |bl _=>cases r;rfl
 |int _=>obtain⟨t,rfl⟩:=r;rfl
 |str _=>obtain⟨t,rfl⟩:=r;rfl
 |byt _=>obtain⟨t,rfl⟩:=r;rfl
 |flt _=>obtain⟨t,rfl⟩:=r;rfl
 |ref _=>cases r;rfl
 |ty _=>cases r;rfl
theorem RelV.inj {x y:V}{u:Value}(r:RelV x u)(q:RelV y u):x=y:=Option.some.inj (r.abs.symm.trans q.abs)
theorem Vals.inj:∀{xs ys:List V} {us:List Value},Vals xs us->Vals ys us->xs=ys
 |_,_,_,.nil,.nil=>rfl
 |_,_,_,.cons r t,.cons r' t'=>by rw[r.inj r',Vals.inj t t']
section
variable {X:Cx}{pins:List (Addr×Obj)}{σ:St}{H:Hp}{s:Shared}{a:Addr}{xs ys:List V}
theorem Inv.list (I:Inv X pins σ H s)(h:hZ X.K H a xs):∃its:List Value,Vals xs its/\PlainL s.heap a its.toArray/\xs.length<=sizeLine:=by
 rcases h with h | ⟨o,its,n,hk,hc,hd,hs,hz,r⟩
 ·obtain⟨z,its,n,r,e⟩:=h.ok I.hok
  exact⟨its,r,⟨_,n,e,rfl,rfl,rfl⟩,z⟩
 ·refine⟨its.toList,r,⟨o,n,I.kIn a o hk,hc,hd,by simpa using hs⟩,?_⟩
  have e:=r.length
  simp only[Array.length_toList] at e
  omega
theorem Inv.tuple (I:Inv X pins σ H s)(h:eh X.K H a xs):∃its:List Value,Vals xs its/\IsTup s.heap a its.toArray/\xs.length<=sizeLine:=by
 rcases h with h | ⟨o,its,n,hk,hc,hs,hz,r,_⟩
 ·obtain⟨z,its,r,p⟩:=h.ok I.hok
  exact⟨its,r,p.isTup,z⟩
 ·refine⟨its.toList,r,⟨o,I.kIn a o hk,hc,n,by simpa using hs⟩,?_⟩
  have e:=r.length
  simp only[Array.length_toList] at e
  omega
theorem Inv.list_inj (I:Inv X pins σ H s)(h:hZ X.K H a xs)(h':hZ X.K H a ys):xs=ys:=by
 obtain⟨its,r,⟨o,n,e,_,_,d⟩,_⟩:=I.list h
 obtain⟨its',r',⟨o',n',e',_,_,d'⟩,_⟩:=I.list h'
 rw[e] at e';cases e'
 rw[d] at d'
 injection d' with d1 _
 have:its=its':=by simpa using congrArg Array.toList d1
 subst this
 exact r.inj r'
theorem Inv.tuple_inj (I:Inv X pins σ H s)(h:eh X.K H a xs)(h':eh X.K H a ys):xs=ys:=by
 obtain⟨its,r,⟨o,e,_,n,d⟩,_⟩:=I.tuple h
 obtain⟨its',r',⟨o',e',_,n',d'⟩,_⟩:=I.tuple h'
 rw[e] at e';cases e'
 rw[d] at d'
 injection d' with d1 _
 have:its=its':=by simpa using congrArg Array.toList d1
 subst this
 exact r.inj r'
end
abbrev Cx.wish (X:Cx)(E:Value->Shared->Prop):Cx:={X with xe:=E}
abbrev Cx.nox (X:Cx):Cx:=X.wish fun _ _=>False
theorem Cx.Ok.wish {X:Cx}(ok:X.Ok)(E:Value->Shared->Prop):(X.wish E).Ok:=
 ⟨ok.mod,ok.kind,ok.glob,ok.blt,ok.above,ok.inj,ok.has,ok.cab,ok.hd,ok.frames,ok.stk,ok.exf,ok.bs,ok.bsz,ok.noex,ok.exfs,ok.funs,ok.frf⟩
theorem Cx.Ok.unwish {X:Cx}{E:Value->Shared->Prop}(ok:(X.wish E).Ok):X.Ok:=
 ⟨ok.mod,ok.kind,ok.glob,ok.blt,ok.above,ok.inj,ok.has,ok.cab,ok.hd,ok.frames,ok.stk,ok.exf,ok.bs,ok.bsz,ok.noex,ok.exfs,ok.funs,ok.frf⟩
section
variable {X:Cx}{pins:List (Addr×Obj)}{σ:St}{H:Hp}{s:Shared}{E:Value->Shared->Prop}
theorem Inv.wish (I:Inv X pins σ H s)(E:Value->Shared->Prop):Inv (X.wish E) pins σ H s:=⟨I.ok.wish E,I.os,I.bare,I.base,I.loc,I.cell,I.free,I.freeC,I.pin,I.hok,I.len⟩
theorem Inv.unwish (I:Inv (X.wish E) pins σ H s):Inv X pins σ H s:=⟨I.ok.unwish,I.os,I.bare,I.base,I.loc,I.cell,I.free,I.freeC,I.pin,I.hok,I.len⟩
theorem SP.unwish {D:Ends}{f:Flow}{s':Shared}(h:SP (X.wish E) pins D f s'):SP X pins D f s':=by
 cases f with
 |next=>obtain⟨σ',H',I,q⟩:=h;exact⟨σ',H',I.unwish,q⟩
 |brk=>obtain⟨σ',H',I,q⟩:=h;exact⟨σ',H',I.unwish,q⟩
 |cont=>obtain⟨σ',H',I,q⟩:=h;exact⟨σ',H',I.unwish,q⟩
 |ret u=>obtain⟨v,σ',H',I,r,q⟩:=h;exact⟨v,σ',H',I.unwish,r,q⟩
theorem qP.nox {st:List Stmt}{t:TS}(h:qP X.nox st t):qP X st t:=fun pins s σ H D I hw=>
 wpAny_mono (h pins s σ H D (I.wish _) hw) (fun _ _ q=>q.unwish) fun _ _ z=>False.elim z
end
section
variable {X:Cx}{st:Stmt}{rest:List Stmt}{t u:TS}{e:Expr}{te:TE}{pos:Pos}
def FG:TS:=fun D σ H=>D.nx σ H
def HP (t u:TS):TS:=fun D σ H=>t {D with nx:=u D} σ H
theorem xg:qP X [] FG:=fun _ _ σ H _ I h=>wpAny_execs_nil ⟨σ,H,I,h⟩
theorem ir (h1:PS X st t)(h2:qP X rest u):qP X (st :: rest) (HP t u):=by
 intro pins s σ H D I h
 refine wpAny_execs_cons (cZ (h1 pins s σ H {D with nx:=u D} I h) fun f s1 q=>?_)
 cases f with
 |next=>
  obtain⟨σ',H',I',q⟩:=q
  exact h2 pins s1 σ' H' D I' q
 |ret v=>exact q
 |brk=>exact q
 |cont=>exact q
theorem iG (h1:PS X st t):qP X [st] t:=by
 intro pins s σ H D I h
 refine wpAny_execs_cons (cZ (h1 pins s σ H D I h) fun f s1 q=>?_)
 cases f with
 |next=>exact wpAny_execs_nil q
 |ret v=>exact q
 |brk=>exact q
 |cont=>exact q
theorem Inv.quiet {pins:List (Addr×Obj)}{σ:St}{H:Hp}{s:Shared}(I:Inv X pins σ H s):interactive X.env=false:=by simp[interactive,I.ok.kind]
def GB (te:TE):TS:=fun D σ H=>te σ H fun _ H1=>D.nx σ H1
theorem sJ (he:PE X e te)(hs:swapsWith e none pos.line X.env=pure false:=by rfl):PS X (.Expr e pos) (GB te):=by
 intro pins s σ H D I h
 exact wpAny_Expr_any (cZ (he pins s σ H _ I h) fun v s1 ⟨x,H1,I1,r1,q1⟩=>⟨σ,H1,I1,q1⟩) I.quiet hs
def HY (te:TE):TS:=fun D σ H=>te σ H D.rt
theorem mC (he:PE X e te):PS X (.Return (some e) pos) (HY te):=by
 intro pins s σ H D I h
 exact wpAny_Return_some (cZ (he pins s σ H _ I h) fun v s1 ⟨x,H1,I1,r1,q1⟩=>⟨x,σ,H1,I1,r1,q1⟩)
def Hn (c:TT)(t u:TS):TS:=fun D σ H=>c σ H fun b H1=>if b=true then t D σ H1 else u D σ H1
theorem CU {c:Expr}{a b:List Stmt}{tc:TT}(hc:PT X c tc)(ha:qP X a t)(hb:qP X b u):PS X (.If c a b pos) (Hn tc t u):=by
 intro pins s σ H D I h
 refine wpAny_If (cZ (hc pins s σ H _ I h) fun d s1 ⟨H1,I1,q1⟩=>?_)
 cases d with
 |true=>exact ha pins s1 σ H1 D I1 q1
 |false=>exact hb pins s1 σ H1 D I1 q1
end
abbrev TG:=V->St->Hp->(St->Hp->Prop)->Prop
abbrev EY:=List V->St->Hp->(St->Hp->Prop)->Prop
def PG (X:Cx)(target:Expr)(t:TG):Prop:=
 ∀(pins:List (Addr×Obj)) (s:Shared) (σ:St) (H:Hp) (v:V) (u:Value) (Q:St->Hp->Prop),Inv X pins σ H s->RelV v u->t v σ H Q->
  wpAny (model X.prog X.w) X.A (assign target X.env u) (fun _ s'=>∃σ' H',Inv X pins σ' H' s'/\Q σ' H') X.xe s
def G9 (X:Cx)(ts:List Expr)(t:EY):Prop:=
 ∀(pins:List (Addr×Obj)) (s:Shared) (σ:St) (H:Hp) (vs:List V) (us:List Value) (Q:St->Hp->Prop),Inv X pins σ H s->Vals vs us->t vs σ H Q->
  wpAny (model X.prog X.w) X.A (assignInOrder ((assignEach ts X.env).map (·.2)) us) (fun _ s'=>∃σ' H',Inv X pins σ' H' s'/\Q σ' H') X.xe s
abbrev DT:=V->V->V->Hp->(Hp->Prop)->Prop
def AH (X:Cx)(t:DT):Prop:=
 ∀(pins:List (Addr×Obj)) (s:Shared) (σ:St) (H:Hp) (o i v:V) (ov iv u:Value) (Q:Hp->Prop),Inv X pins σ H s->RelV o ov->RelV i iv->RelV v u->t o i v H Q->
  wpAny (model X.prog X.w) X.A (setItem ov iv u) (fun _ s'=>∃H',Inv X pins σ H' s'/\Q H') X.xe s
section
variable {X:Cx}{pos:Pos}
def kW (i:Nat):TG:=fun v σ H Q=>Q (σ.set i (some v)) H
theorem c6 {i:Nat}{x:Str}(hN:X.N.Nodup)(hi:X.N[i]? =some x)(hx:Loc X.env.scope x)(hf:X.fn x=true\/X.env.scope.names.lookup x=some .local:=by first |exact .inl rfl |exact .inr rfl |assumption):PG X (.Name x pos) (kW i):=by
 intro pins s σ H v u Q I r h
 exact wpAny_assign_Name (sX I hN hi hx r (fun s' I'=>⟨_,H,I',h⟩) hf)
def B3:EY:=fun vs σ H Q=>vs= []/\Q σ H
def nX (t:TG)(u:EY):EY:=fun vs σ H Q=>∃v r,vs=v :: r/\t v σ H fun σ' H'=>u r σ' H' Q
theorem kL:G9 X [] B3:=by
 intro pins s σ H vs us Q I r h
 obtain⟨e,h⟩:=h
 subst e
 cases r
 exact assignInOrder_nil ⟨σ,H,I,h⟩
theorem cO {e:Expr}{es:List Expr}{t:TG}{u:EY}(h1:PG X e t)(h2:G9 X es u)
  (hs:(assignEach (e :: es) X.env).map (·.2)=assign e X.env :: (assignEach es X.env).map (·.2):=by rfl):G9 X (e :: es) (nX t u):=by
 intro pins s σ H vs us Q I r h
 obtain⟨v,vr,e1,h⟩:=h
 subst e1
 cases r with
 |cons r rr=>
  rw[hs]
  refine assignInOrder_cons (cZ (h1 pins s σ H _ _ _ I r h) fun _ s1 ⟨σ1,H1,I1,q1⟩=>?_)
  exact h2 pins s1 σ1 H1 _ _ Q I1 rr q1
def Cf (K:PySem.W.Frag)(n:Nat)(t:EY):TG:=fun v σ H Q=>∃a xs,v=.ref a/\eh K H a xs/\xs.length=n/\t xs σ H Q
theorem mw {es:List Expr}{k:Nat}{t:EY}{n:Nat}(hc:X.calm=true)(h:G9 X es t)
  (hn:(assignEach es X.env).length=n:=by rfl) (hst:(assignEach es X.env).findIdx? (·.1)=none:=by rfl):PG X (.Tuple es k pos) (Cf X.K n t):=by
 intro pins s σ H v u Q I r hw
 obtain⟨a,xs,e1,hq,hl,hw⟩:=hw
 subst e1
 cases r
 obtain⟨its,rv,ht,hz⟩:=I.tuple hq
 refine assign_Tuple_tuple (I.ok.hd hc) ht (by simp[hn,<-hl,rv.length]) hst fun h' hx=>?_
 have I1:Inv X pins σ H {s with heap:=h'}:=I.kept (t':=s.toks) fun b o e=>hx b o (Nat.ne_of_lt (Heap.lt_size e)) e
 exact h pins _ σ H xs _ Q I1 (by simpa using rv) hw
def Ic (to ti:TE)(t:DT):TG:=fun v σ H Q=>to σ H fun o H1=>ti σ H1 fun i H2=>t o i v H2 fun H3=>Q σ H3
theorem sE {o i:Expr}{to ti:TE}{t:DT}(ho:PE X o to)(hi:PE X i ti)(hs:AH X t)
  (ha:∀v,assign (.Subscript o i pos) X.env v=(do
   let ov <-holding [v] (eval o X.env)
   let iv <-holding [v,ov] (eval i X.env)
   standAt pos
   holding [v,ov,iv] (setItem ov iv v)
   release [v,ov,iv] []):=by intro _;rfl):PG X (.Subscript o i pos) (Ic to ti t):=by
 intro pins s σ H v u Q I r h
 rw[ha]
 refine wpAny_bind (wpAny_holding (cZ (ho pins s σ H _ I h) fun ov s1 ⟨x,H1,I1,r1,q1⟩=>?_))
 refine wpAny_bind (wpAny_holding (cZ (hi pins s1 σ H1 _ I1 q1) fun iv s2 ⟨y,H2,I2,r2,q2⟩=>?_))
 refine wpAny_bind (wpAny_standAt (wpAny_bind (wpAny_holding (cZ (hs pins s2 σ H2 x y v ov iv u _ I2 r1 r2 r q2) fun _ s3 ⟨H3,I3,q3⟩=>?_))))
 exact wpAny_release ⟨σ,H3,I3,q3⟩
def GI (te:TE)(g:TG):TS:=fun D σ H=>te σ H fun x H1=>g x σ H1 D.nx
theorem mr {tg e:Expr}{te:TE}{g:TG}(he:PE X e te)(hg:PG X tg g)(hs:swapsWithSole [tg] e pos.line X.env=pure false:=by rfl)(hw:swappedStores [tg] e X.env=pure none:=by rfl)
  (h1:(assignEach [tg] X.env).map (·.2)= [assign tg X.env]:=by rfl):PS X (.Assign [tg] e pos) (GI te g):=by
 intro pins s σ H D I h
 refine wpAny_Assign_stores (cZ (he pins s σ H _ I h) fun v s1 ⟨x,H1,I1,r1,q1⟩=>?_) hs hw
 rw[h1]
 exact cZ (hg pins s1 σ H1 x v _ I1 r1 q1) fun _ s2 q=>q
theorem oE {i:Nat}{x:Str}{e:Expr}{te:TE}{pos':Pos}(hN:X.N.Nodup)(hi:X.N[i]? =some x)(hx:Loc X.env.scope x)(he:PE X e te)(hs:swapsWith e (some (.Name x pos')) pos.line X.env=pure false:=by rfl)(hf:X.fn x=true\/X.env.scope.names.lookup x=some .local:=by first |exact .inl rfl |exact .inr rfl |assumption) :
  PS X (.Assign [.Name x pos'] e pos) (GI te (kW i)):=by
 intro pins s σ H D I h
 refine wpAny_Assign_Name (cZ (he pins s σ H _ I h) fun v s1 ⟨y,H1,I1,r1,q1⟩=>?_) hs
 exact sX I1 hN hi hx r1 (fun s2 I2=>⟨_,H1,I2,q1⟩) hf
end
section
variable {X:Cx}{pos:Pos}
def DX (c:TT)(tb:TS):TS:=fun D σ H=>∃W:Nat->St->Hp->Prop,(∃m,W m σ H)/\∀m σ H,W m σ H->
 c σ H fun b H1=>if b=true then ∃N:St->Hp->Prop,(∀σ' H',N σ' H'->∃m',m' < m/\W m' σ' H')/\tb {D with nx:=N,ct:=N,bk:=D.nx} σ H1 else D.nx σ H1
theorem zQ {c:Expr}{body:List Stmt}{tc:TT}{tb:TS}(hp:PassesOwn (model X.prog X.w) X.A X.env X.xe)(hc:PT X c tc)(hb:qP X body tb):PS X (.While c body [] pos) (DX tc tb):=by
 intro pins s σ H D I h
 obtain⟨W,⟨m0,w0⟩,turn⟩:=h
 refine wpAny_While (codeAny_whileLoop (fun n s'=>∃σ' H',Inv X pins σ' H' s'/\W n σ' H') ?_ m0 ⟨σ,H,I,w0⟩)
 rintro n s1 ⟨σ1,H1,I1,w1⟩
 refine wpAny_passesOwn hp (cZ (hc pins s1 σ1 H1 _ I1 (turn n σ1 H1 w1)) fun b s2 ⟨H2,I2,q2⟩=>?_)
 cases b with
 |true=>
  obtain⟨N,hN,q2⟩:=q2
  rw[if_pos rfl]
  refine wpAny_passesOwn hp (cZ (hb pins s2 σ1 H2 _ I2 q2) fun f s3 q3=>?_)
  cases f with
  |next=>
   obtain⟨σ3,H3,I3,n3⟩:=q3
   obtain⟨m',hm,w3⟩:=hN σ3 H3 n3
   exact⟨m',hm,σ3,H3,I3,w3⟩
  |cont=>
   obtain⟨σ3,H3,I3,n3⟩:=q3
   obtain⟨m',hm,w3⟩:=hN σ3 H3 n3
   exact⟨m',hm,σ3,H3,I3,w3⟩
  |brk=>exact q3
  |ret v=>exact q3
 |false=>
  rw[if_neg Bool.false_ne_true]
  exact wpAny_execs_nil ⟨σ1,H2,I2,q2⟩
end
structure It where
 go:Nat->Hp->Prop
 yld:Nat->Hp->V->Hp->Prop
 stop:Nat->Hp->Prop
def nD (X:Cx)(pins:List (Addr×Obj))(H:Hp)(b:Addr):Prop:=
 H b=none/\b≠X.env.locals/\b∉X.fs/\(b∈X.ex\/X.s₀.heap.objs.size<=b)/\(∀x c,X.env.cells.lookup x=some c->c≠b)/\∀p∈X.pn ++ pins,p.1≠b
theorem Inv.fpOk {X:Cx}{pins:List (Addr×Obj)}{σ:St}{H H':Hp}{s:Shared}{b:Addr}(I:Inv X pins σ H s)(hb:s.heap.objs.size<=b)(hn:H' b=none):nD X pins H' b:=by
 refine⟨hn,Nat.ne_of_gt (Nat.lt_of_lt_of_le I.lt hb),I.nofs hb,.inr (Nat.le_trans I.sz hb),fun x c e z=>?_,fun p hp z=>?_⟩
 ·obtain⟨v,q⟩:=I.cell x c e
  exact absurd (Nat.lt_of_lt_of_le q.lt (by rw[z];exact hb)) (Nat.lt_irrefl _)
 ·exact absurd (Nat.lt_of_lt_of_le (Heap.lt_size (I.pin p hp).1) (by rw[z];exact hb)) (Nat.lt_irrefl _)
structure Turn (P:Program)(w:World)(K:PySem.W.Frag)(tg:Expr)(J:It)(fp:List Addr)(it:Addr)(tn:Nat->Heap->Prop):Prop where
 mem:it∈fp
 obj:∀i h,tn i h->∀b∈fp,∃o,h.get? b=some o/\∀v,o.data≠.cell v
 keep:∀i h h',tn i h->(∀b∈fp,∀o,h.get? b=some o->h'.get? b=some o)->tn i h'
 item:∀(X:Cx),X.prog=P->X.w=w->X.K=K->X.calm=true->∀(i:Nat) (pins:List (Addr×Obj)) (s:Shared) (σ:St) (H:Hp) (E:Value->Shared->Prop),Inv X pins σ H s->(∀b∈fp,nD X pins H b)->tn i s.heap->J.go i H->
  wpAny (model P w) X.A (pyNext (.ref it)) (fun r s1=>∃u,r=some u/\
   wpAny (model P w) X.A (letOwnedTupleGo tg (.ref it) u) (fun _ s2=>∃x H',Inv X pins σ H' s2/\RelV x u/\J.yld i H x H'/\tn (i + 1) s2.heap/\∀b∈fp,H' b=none) E s1) E s
 done:∀(X:Cx),X.prog=P->X.w=w->X.K=K->X.calm=true->∀(i:Nat) (pins:List (Addr×Obj)) (s:Shared) (σ:St) (H:Hp) (E:Value->Shared->Prop),Inv X pins σ H s->(∀b∈fp,nD X pins H b)->tn i s.heap->J.stop i H->
  wpAny (model P w) X.A (pyNext (.ref it)) (fun r s1=>r=none/\Inv X pins σ H s1) E s
 self:∀(A:Around) (i:Nat) (s:Shared) (Q:Value->Shared->Prop) (E:Value->Shared->Prop),tn i s.heap->Q (.ref it) s->wpAny (model P w) A (pyIter (.ref it)) Q E s
abbrev TI:=St->Hp->(It->Hp->Prop)->Prop
def IK (X:Cx)(pins:List (Addr×Obj))(σ:St)(tg:Expr)(R:It->Hp->Prop)(itv:Value)(s2:Shared):Prop:=
 ∃(it:Addr) (fp:List Addr) (tn:Nat->Heap->Prop) (J:It) (H':Hp),itv=.ref it/\Inv X pins σ H' s2/\Turn X.prog X.w X.K tg J fp it tn/\tn 0 s2.heap/\(∀b∈fp,nD X pins H' b)/\R J H'
def PI (X:Cx)(tg iter:Expr)(wi:TI):Prop:=
 ∀(pins:List (Addr×Obj)) (s:Shared) (σ:St) (H:Hp) (R:It->Hp->Prop),Inv X pins σ H s->wi σ H R->
  wpAny (model X.prog X.w) X.A (eval iter X.env) (fun v s1=>wpAny (model X.prog X.w) X.A (pyIter v) (IK X pins σ tg R) X.xe s1) X.xe s
theorem zu {M:Model}{A:Around}{E:Value->Shared->Prop}{s:Shared}{tg:Expr}{it:Addr}{u:Value}{o:Obj}{n:String}{vs:Array Value}{Q:Unit->Shared->Prop}(ho:s.heap.get? it=some o)(hc:o.cls=.type n)(hd:o.data=.fields vs)
  (hn: ["enumerate","zip","dict_itemiterator","dict_reverseitemiterator","odict_iterator","itertools.zip_longest","itertools.pairwise"].contains n=false) (hQ:Q () s):wpAny M A (letOwnedTupleGo tg (.ref it) u) Q E s:=by
 unfold letOwnedTupleGo
 cases tg <;> first
  |exact wpAny_pure hQ
  | (cases u <;> first
    |exact wpAny_pure hQ
    | (refine wpAny_bind (wpAny_load ho ?_)
       rw[hc,hd]
       show wpAny M A (if (["enumerate","zip","dict_itemiterator","dict_reverseitemiterator","odict_iterator","itertools.zip_longest","itertools.pairwise"].contains n && vs[0]? == some (rawInt _))=true then _ else _) Q E s
       rw[if_neg (by intro h;rw[hn,Bool.false_and] at h;cases h)]
       exact wpAny_pure hQ))
def xJ (K:PySem.W.Frag)(a:Addr):It:=
 ⟨fun i H=>∃xs x,hZ K H a xs/\xs[i]? =some x,fun i H x H'=>H'=H/\∀xs,hZ K H a xs->xs[i]? =some x,fun i H=>∃xs,hZ K H a xs/\xs.length<=i⟩
def Dv (K:PySem.W.Frag)(a:Addr):It:=
 ⟨fun i H=>∃xs x,eh K H a xs/\xs[i]? =some x,fun i H x H'=>H'=H/\∀xs,eh K H a xs->xs[i]? =some x,fun i H=>∃xs,eh K H a xs/\xs.length<=i⟩
def yZ (lo:Int)(n:Nat):It:=⟨fun i _=>i < n,fun i H x H'=>H'=H/\x=.int (lo + i),fun i _=>n<=i⟩
theorem mJ {P:Program}{w:World}{K:PySem.W.Frag}{tg:Expr}(a it:Addr):Turn P w K tg (xJ K a) [it] it (fun i h=>h.IsListIter it a i) where
 mem:=by simp
 obj:=fun i h st b hb=>by
  have e:b=it:=by simpa using hb
  subst e
  obtain⟨o,e,c,d⟩:=st
  exact⟨o,e,fun v z=>by rw[d] at z;cases z⟩
 keep:=fun i h h' st k=>st.at fun o e=>k it (by simp) o e
 item:=by
  intro X hP hw hK hc i pins s σ H E I hf st hg
  subst hP hw hK
  obtain⟨xs,x,hq,hx⟩:=hg
  obtain⟨its,rv,p,hz⟩:=I.list hq
  obtain⟨u,hu,ru⟩:=rv.get hx
  obtain⟨f0,f1,f2,f3,f4,f5⟩:=hf it (by simp)
  refine wpAny_pyNext_list_item st p.isList (x:=u) (by simpa using hu) fun h' st' sb=>?_
  have I1:Inv X pins σ H {s with heap:=h'}:=I.turned (t':=s.toks) (fun b o hb e=>(sb.2 b hb).trans e) f0 f1 f3 f4 f5
  obtain⟨o,e,c,d⟩:=id st'
  exact⟨u,rfl,zu (s:={s with heap:=h'}) e c d (by decide) ⟨x,H,I1,ru,⟨rfl,fun ys hy=>by rw[I.list_inj hy hq];exact hx⟩,st',fun b hb=>(hf b hb).1⟩⟩
 done:=by
  intro X hP hw hK hc i pins s σ H E I hf st hg
  subst hP hw hK
  obtain⟨xs,hq,hx⟩:=hg
  obtain⟨its,rv,p,hz⟩:=I.list hq
  obtain⟨f0,f1,f2,f3,f4,f5⟩:=hf it (by simp)
  have hl:=rv.length
  exact wpAny_pyNext_list_end (I.ok.hd hc) st p.isList (by simp;omega) fun h' eb=>⟨rfl,I.turned (t':=s.toks) (fun b o hb e=>eb b o hb e) f0 f1 f3 f4 f5⟩
 self:=fun _ _ _ _ _ st h=>wpAny_pyIter_listiter st h
theorem oF {P:Program}{w:World}{K:PySem.W.Frag}{tg:Expr}(a it:Addr):Turn P w K tg (Dv K a) [it] it (fun i h=>h.IsTupleIter it a i) where
 mem:=by simp
 obj:=fun i h st b hb=>by
  have e:b=it:=by simpa using hb
  subst e
  obtain⟨o,e,c,d⟩:=st
  exact⟨o,e,fun v z=>by rw[d] at z;cases z⟩
 keep:=fun i h h' st k=>st.at fun o e=>k it (by simp) o e
 item:=by
  intro X hP hw hK hc i pins s σ H E I hf st hg
  subst hP hw hK
  obtain⟨xs,x,hq,hx⟩:=hg
  obtain⟨its,rv,p,hz⟩:=I.tuple hq
  obtain⟨u,hu,ru⟩:=rv.get hx
  obtain⟨f0,f1,f2,f3,f4,f5⟩:=hf it (by simp)
  refine wpAny_pyNext_tuple_item st (show s.heap.IsTuple a its.toArray from p) (x:=u) (by simpa using hu) fun h' st' sb=>?_
  have I1:Inv X pins σ H {s with heap:=h'}:=I.turned (t':=s.toks) (fun b o hb e=>(sb.2 b hb).trans e) f0 f1 f3 f4 f5
  obtain⟨o,e,c,d⟩:=id st'
  exact⟨u,rfl,zu (s:={s with heap:=h'}) e c d (by decide) ⟨x,H,I1,ru,⟨rfl,fun ys hy=>by rw[I.tuple_inj hy hq];exact hx⟩,st',fun b hb=>(hf b hb).1⟩⟩
 done:=by
  intro X hP hw hK hc i pins s σ H E I hf st hg
  subst hP hw hK
  obtain⟨xs,hq,hx⟩:=hg
  obtain⟨its,rv,p,hz⟩:=I.tuple hq
  obtain⟨f0,f1,f2,f3,f4,f5⟩:=hf it (by simp)
  have hl:=rv.length
  exact wpAny_pyNext_tuple_end (I.ok.hd hc) st (show s.heap.IsTuple a its.toArray from p) (by simp;omega) fun h' eb=>⟨rfl,I.turned (t':=s.toks) (fun b o hb e=>eb b o hb e) f0 f1 f3 f4 f5⟩
 self:=fun _ _ _ _ _ st h=>wpAny_pyIter_tupleiter st h
theorem vW {P:Program}{w:World}{K:PySem.W.Frag}{tg:Expr}(it:Addr)(lo:Int)(n:Nat):Turn P w K tg (yZ lo n) [it] it (fun i h=>IsRangeIter h it (lo + (i:Nat) * 1) ((n:Int) - (i:Nat)) 1) where
 mem:=by simp
 obj:=fun i h st b hb=>by
  have e:b=it:=by simpa using hb
  subst e
  exact⟨_,st,fun v z=>by
   have z':Data.fields _=Data.cell v:=z
   cases z'⟩
 keep:=fun i h h' st k=>k it (by simp) _ st
 item:=by
  intro X hP hw hK hc i pins s σ H E I hf st hg
  subst hP hw hK
  obtain⟨f0,f1,f2,f3,f4,f5⟩:=hf it (by simp)
  have W:=Walks.range (prog:=X.prog) (w:=X.w) (I.ok.hd hc) it lo 1 n
  refine W.item i s _ _ hg st fun v h' tk hv st' kk=>?_
  obtain⟨t,rfl⟩:=hv
  have I1:Inv X pins σ H {s with heap:=h',toks:=tk}:=I.turned (fun b o hb e=>kk b o (by simpa using hb) e) f0 f1 f3 f4 f5
  refine⟨_,rfl,zu (s:={s with heap:=h',toks:=tk}) (n:="range_iterator") st' rfl rfl (by decide) ⟨.int (lo + i),H,I1,⟨t,?_⟩,⟨rfl,rfl⟩,st',fun b hb=>(hf b hb).1⟩⟩
  rw[Int.mul_one]
 done:=by
  intro X hP hw hK hc i pins s σ H E I hf st hg
  subst hP hw hK
  obtain⟨f0,f1,f2,f3,f4,f5⟩:=hf it (by simp)
  exact wpAny_pyNext_range_end (I.ok.hd hc) st (by have:n<=i:=hg;omega) fun h' eb=>⟨rfl,I.turned (t':=s.toks) (fun b o hb e=>eb b o hb e) f0 f1 f3 f4 f5⟩
 self:=fun _ _ _ _ _ st h=>wpAny_pyIter_rangeiter st h
end L2
namespace L2
open PySem PySem.Spec PyProof.Rows
section
variable {X:Cx}{tg:Expr}
def FK (K:PySem.W.Frag)(tl:TE):TI:=fun σ H R=>tl σ H fun x H1=>∃a,x=.ref a/\(∃xs,hZ K H1 a xs)/\R (xJ K a) H1
theorem wx {l:Expr}{tl:TE}(hl:PE X l tl):PI X tg l (FK X.K tl):=by
 intro pins s σ H R I h
 refine cZ (hl pins s σ H _ I h) fun v s1 ⟨x,H1,I1,r1,q1⟩=>?_
 obtain⟨a,e,⟨xs,hq⟩,q⟩:=q1
 subst e
 cases r1
 obtain⟨its,rv,p,hz⟩:=I1.list hq
 refine wpAny_pyIter_list p.isList ?_
 refine⟨s1.heap.objs.size,[s1.heap.objs.size],_,_,H1,rfl,I1.kept (t':=s1.toks) fun b o e=>Heap.get?_push_of_some _ e,mJ a _,⟨_,Heap.get?_push_size _ rfl,rfl,rfl⟩,fun b hb=>?_,q⟩
 have e:b=s1.heap.objs.size:=by simpa using hb
 subst e
 exact I1.fpOk (Nat.le_refl _) (I1.hok.fresh (Nat.le_refl _))
theorem zL {pins:List (Addr×Obj)}{σ:St}{H:Hp}{s:Shared}{R:It->Hp->Prop}{E:Value->Shared->Prop}{lo hi:Int}{t u v:Tok}{tk:Nat}(I:Inv X pins σ H s)(h1: -(2 ^ 62)<=lo)(h2:lo < 2 ^ 62)(h3: -(2 ^ 62)<=hi)(h4:hi < 2 ^ 62)
  (q:R (yZ lo (hi - lo).toNat) H):wpAny (model X.prog X.w) X.A (pyIter (.ref s.heap.objs.size)) (IK X pins σ tg R) E {s with heap:=s.heap.push {cls:=.type "range",data:=.fields #[.int lo t,.int hi u,.int 1 v]},toks:=tk}:=by
 refine wpAny_pyIter_range (IsRange.new ..) (small_one h1 h2 h3 h4) ?_
 have I1:Inv X pins σ H {s with heap:=s.heap.push {cls:=.type "range",data:=.fields #[.int lo t,.int hi u,.int 1 v]},toks:=tk}:=I.kept fun b o e=>Heap.get?_push_of_some _ e
 refine⟨(s.heap.push {cls:=.type "range",data:=.fields #[.int lo t,.int hi u,.int 1 v]}).objs.size,[(s.heap.push {cls:=.type "range",data:=.fields #[.int lo t,.int hi u,.int 1 v]}).objs.size],_,_,H,rfl,
  I1.kept (t':=tk) fun b o e=>Heap.get?_push_of_some _ e,vW _ lo (hi - lo).toNat,?_,fun b hb=>?_,q⟩
 ·have e1:lo + ((0:Nat):Int) * 1=lo:=by simp
  have e2:(((hi - lo).toNat:Nat):Int) - ((0:Nat):Int)=Builtin.Range.rangeSize lo hi 1:=by rw[rangeSize_one];split <;> omega
  show IsRangeIter _ _ (lo + ((0:Nat):Int) * 1) ((((hi - lo).toNat:Nat):Int) - ((0:Nat):Int)) 1
  rw[e1,e2]
  exact Heap.get?_push_size _ rfl
 ·have e:b=(s.heap.push {cls:=.type "range",data:=.fields #[.int lo t,.int hi u,.int 1 v]}).objs.size:=by simpa using hb
  subst e
  exact I1.fpOk (Nat.le_refl _) (I1.hok.fresh (Nat.le_refl _))
def Fw (ta:TA):TI:=fun σ H R=>ta σ H fun vs H1=>∃j:Int,vs= [.int j]/\ -(2 ^ 62)<=j/\j < 2 ^ 62/\R (yZ 0 j.toNat) H1
theorem kN {a:Expr}{ta:TA}{p pos:Pos}(hg:Gl X "range")(hm:X.mg "range"=none)(ha:PA X [a] ta)(hs:starEach [a] X.env= [(false,eval a X.env)]:=by rfl):PI X tg (.Call (.Name "range" p) [a] [] pos) (Fw ta):=by
 intro pins s σ H R I h
 refine Call_ (oM I hg hm boot_range (PyProof.Rows.callWith_type1 (cZ (ha pos pins s σ H _ I h) fun us s1 ⟨vs,H1,I1,r1,q1⟩=>?_) hs rfl))
 obtain⟨j,e,q1,q2,q⟩:=q1
 subst e
 cases r1 with
 |cons r rr=>
  cases rr
  obtain⟨t,rfl⟩:=r
  exact call_range_1 (zL I1 (by omega) (by omega) q1 q2 (by simpa using q))
def Iu (wi:TI)(g:TG)(tb:TS):TS:=fun D σ H=>wi σ H fun J H1=>∃W:Nat->Nat->St->Hp->Prop,(∃m,W 0 m σ H1)/\∀i m σ H,W i m σ H->
 (J.stop i H/\D.nx σ H)\/(J.go i H/\∃N:St->Hp->Prop,(∀σ' H',N σ' H'->∃m',m' < m/\W (i + 1) m' σ' H')/\∀x H',J.yld i H x H'->g x σ H' fun σ2 H2=>tb {D with nx:=N,ct:=N,bk:=D.nx} σ2 H2)
def oy (fp:List Addr)(h:Heap):List (Addr×Obj):=fp.filterMap fun b=>(h.get? b).map fun o=>(b,o)
theorem jO {fp:List Addr}{h:Heap}{b:Addr}{o:Obj}(hb:b∈fp)(e:h.get? b=some o):(b,o)∈oy fp h:=List.mem_filterMap.mpr ⟨b,hb,by rw[e];rfl⟩
theorem yz {fp:List Addr}{h:Heap}{p:Addr×Obj}(hp:p∈oy fp h):p.1∈fp/\h.get? p.1=some p.2:=by
 obtain⟨b,hb,e⟩:=List.mem_filterMap.mp hp
 cases q:h.get? b with
 |none=>rw[q] at e;cases e
 |some o=>
  rw[q] at e
  have e':(b,o)=p:=Option.some.inj e
  subst e'
  exact⟨hb,q⟩
theorem Inv.pinned {pins:List (Addr×Obj)}{σ:St}{H:Hp}{s:Shared}{fp:List Addr}(I:Inv X pins σ H s)(hf:∀b∈fp,nD X pins H b)(ho:∀b∈fp,∃o,s.heap.get? b=some o/\∀v,o.data≠.cell v):Inv X (pins ++ oy fp s.heap) σ H s:=
 I.pins_of fun p hp=>(List.mem_append.mp hp).elim (fun z=>I.pin p (List.mem_append_right _ z)) fun z=>by
  obtain⟨hb,e⟩:=yz z
  obtain⟨f0,f1,f2,_⟩:=hf p.1 hb
  obtain⟨o,e',d⟩:=ho p.1 hb
  rw[e] at e';cases e'
  exact⟨e,f0,f1,f2,d⟩
theorem Inv.unpinned {pins pl:List (Addr×Obj)}{σ:St}{H:Hp}{s:Shared}(I:Inv X (pins ++ pl) σ H s):Inv X pins σ H s:=I.pins_of fun p hp=>I.pin p (List.mem_append_right _ (List.mem_append_left _ hp))
theorem sL {iter:Expr}{body:List Stmt}{wi:TI}{g:TG}{tb:TS}{pos:Pos}(hp:PassesOwn (model X.prog X.w) X.A X.env X.xe)(hc:X.calm=true)(hi:PI X tg iter wi)(hg:PG X tg g)(hb:qP X body tb)
  (hs:∀x,foldedSetIterable iter X.env x=pure x:=by intro _;rfl):PS X (.For tg iter body [] pos) (Iu wi g tb):=by
 intro pins s σ H D I h
 refine wpAny_For (cZ (hi pins s σ H _ I h) fun v s1 h1=>cZ h1 fun itv s2 h2=>?_) hs
 obtain⟨it,fp,tn,J,H2,e,I2,T,st2,f2,W,⟨m0,w0⟩,turn⟩:=h2
 subst e
 have stat:∀{H':Hp},(∀b∈fp,H' b=none)->∀b∈fp,nD X pins H' b:=fun hn b hb=>⟨hn b hb,(f2 b hb).2⟩
 refine codeAny_forLoop_any (fun n s'=>∃i σ' H',Inv X pins σ' H' s'/\tn i s'.heap/\(∀b∈fp,H' b=none)/\W i n σ' H') ?_ m0 ⟨0,σ,H2,I2,st2,fun b hb=>(f2 b hb).1,w0⟩
 rintro n s3 ⟨i,σ3,H3,I3,st3,fr3,w3⟩
 rcases turn i n σ3 H3 w3 with⟨stop,qn⟩ | ⟨go,N,hN,step⟩
 ·refine wpAny_passesOwn hp (cZ (T.done X rfl rfl rfl hc i pins s3 σ3 H3 X.xe I3 (stat fr3) st3 stop) fun r s4 ⟨hr,I4⟩=>?_)
  subst hr
  exact wpAny_execs_nil ⟨σ3,H3,I4,qn⟩
 ·refine wpAny_passesOwn hp (cZ (T.item X rfl rfl rfl hc i pins s3 σ3 H3 X.xe I3 (stat fr3) st3 go) fun r s4 ⟨u,hr,h4⟩=>?_)
  subst hr
  refine wpAny_passesOwn hp (cZ h4 fun _ s5 ⟨x,H5,I5,r5,y5,st5,fr5⟩=>?_)
  have I5':=I5.pinned (stat fr5) (T.obj _ _ st5)
  refine wpAny_passesOwn hp (cZ (hg _ s5 σ3 H5 x u _ I5' r5 (step x H5 y5)) fun _ s6 ⟨σ6,H6,I6,q6⟩=>?_)
  refine wpAny_passesOwn hp (cZ (hb _ s6 σ6 H6 _ I6 q6) fun f s7 q7=>?_)
  have again:∀{σ7:St} {H7:Hp},Inv X (pins ++ oy fp s5.heap) σ7 H7 s7->N σ7 H7->∃m,m < n/\∃i σ' H',Inv X pins σ' H' s7/\tn i s7.heap/\(∀b∈fp,H' b=none)/\W i m σ' H':=fun {σ7 H7} I7 n7=>by
   obtain⟨m',hm,w7⟩:=hN σ7 H7 n7
   refine⟨m',hm,i + 1,σ7,H7,I7.unpinned,T.keep _ _ _ st5 fun b hb o e=>(I7.pin (b,o) (List.mem_append_right _ (List.mem_append_right _ (jO hb e)))).1,fun b hb=>?_,w7⟩
   obtain⟨o,e,d⟩:=T.obj _ _ st5 b hb
   exact (I7.pin (b,o) (List.mem_append_right _ (List.mem_append_right _ (jO hb e)))).2.1
  cases f with
  |next=>obtain⟨σ7,H7,I7,n7⟩:=q7;exact again I7 n7
  |cont=>obtain⟨σ7,H7,I7,n7⟩:=q7;exact again I7 n7
  |brk=>obtain⟨σ7,H7,I7,q7⟩:=q7;exact⟨σ7,H7,I7.unpinned,q7⟩
  |ret v=>obtain⟨x7,σ7,H7,I7,r7,q7⟩:=q7;exact⟨x7,σ7,H7,I7.unpinned,r7,q7⟩
end
theorem tQ {K:PySem.W.Frag}{a:Addr}{xs:List V}{g:TG}{tb:TS}{D:Ends}{σ:St}{H:Hp}(Pv:Nat->St->Hp->Prop)(h0:Pv 0 σ H)(hl:∀i σ H,i<=xs.length->Pv i σ H->hZ K H a xs)
  (hs:∀i x σ H,xs[i]? =some x->Pv i σ H->g x σ H fun σ2 H2=>tb {D with nx:=Pv (i + 1),ct:=Pv (i + 1),bk:=D.nx} σ2 H2) (hd:∀σ H,Pv xs.length σ H->D.nx σ H) :
  ∃W:Nat->Nat->St->Hp->Prop,(∃m,W 0 m σ H)/\∀i m σ H,W i m σ H->
   ((xJ K a).stop i H/\D.nx σ H)\/((xJ K a).go i H/\∃N:St->Hp->Prop,(∀σ' H',N σ' H'->∃m',m' < m/\W (i + 1) m' σ' H')/\∀x H',(xJ K a).yld i H x H'->g x σ H' fun σ2 H2=>tb {D with nx:=N,ct:=N,bk:=D.nx} σ2 H2):=by
 refine⟨fun i m σ H=>m=xs.length - i/\i<=xs.length/\Pv i σ H,⟨xs.length,by simp,Nat.zero_le _,h0⟩,?_⟩
 rintro i m σ H ⟨rfl,hi,p⟩
 have q:=hl i σ H hi p
 by_cases hlt:i < xs.length
 ·refine .inr ⟨⟨xs,xs[i],q,by simp[hlt]⟩,Pv (i + 1),fun σ' H' p'=>⟨xs.length - (i + 1),by omega,rfl,hlt,p'⟩,fun x H' y=>?_⟩
  obtain⟨e,y⟩:=y
  subst e
  exact hs i x σ _ (y xs q) p
 ·have e:i=xs.length:=by omega
  subst e
  exact .inl ⟨⟨xs,q,Nat.le_refl _⟩,hd σ H p⟩
theorem BN {K:PySem.W.Frag}{a:Addr}{xs:List V}{g:TG}{tb:TS}{D:Ends}{σ:St}{H:Hp}(Pv:Nat->St->Hp->Prop)(h0:Pv 0 σ H)(hl:∀i σ H,i<=xs.length->Pv i σ H->eh K H a xs)
  (hs:∀i x σ H,xs[i]? =some x->Pv i σ H->g x σ H fun σ2 H2=>tb {D with nx:=Pv (i + 1),ct:=Pv (i + 1),bk:=D.nx} σ2 H2) (hd:∀σ H,Pv xs.length σ H->D.nx σ H) :
  ∃W:Nat->Nat->St->Hp->Prop,(∃m,W 0 m σ H)/\∀i m σ H,W i m σ H->
   ((Dv K a).stop i H/\D.nx σ H)\/((Dv K a).go i H/\∃N:St->Hp->Prop,(∀σ' H',N σ' H'->∃m',m' < m/\W (i + 1) m' σ' H')/\∀x H',(Dv K a).yld i H x H'->g x σ H' fun σ2 H2=>tb {D with nx:=N,ct:=N,bk:=D.nx} σ2 H2):=by
 refine⟨fun i m σ H=>m=xs.length - i/\i<=xs.length/\Pv i σ H,⟨xs.length,by simp,Nat.zero_le _,h0⟩,?_⟩
 rintro i m σ H ⟨rfl,hi,p⟩
 have q:=hl i σ H hi p
 by_cases hlt:i < xs.length
 ·refine .inr ⟨⟨xs,xs[i],q,by simp[hlt]⟩,Pv (i + 1),fun σ' H' p'=>⟨xs.length - (i + 1),by omega,rfl,hlt,p'⟩,fun x H' y=>?_⟩
  obtain⟨e,y⟩:=y
  subst e
  exact hs i x σ _ (y xs q) p
 ·have e:i=xs.length:=by omega
  subst e
  exact .inl ⟨⟨xs,q,Nat.le_refl _⟩,hd σ H p⟩
theorem xU {lo:Int}{n:Nat}{g:TG}{tb:TS}{D:Ends}{σ:St}{H:Hp}(Pv:Nat->St->Hp->Prop)(h0:Pv 0 σ H)
  (hs:∀i σ H,i < n->Pv i σ H->g (.int (lo + i)) σ H fun σ2 H2=>tb {D with nx:=Pv (i + 1),ct:=Pv (i + 1),bk:=D.nx} σ2 H2) (hd:∀σ H,Pv n σ H->D.nx σ H) :
  ∃W:Nat->Nat->St->Hp->Prop,(∃m,W 0 m σ H)/\∀i m σ H,W i m σ H->
   ((yZ lo n).stop i H/\D.nx σ H)\/((yZ lo n).go i H/\∃N:St->Hp->Prop,(∀σ' H',N σ' H'->∃m',m' < m/\W (i + 1) m' σ' H')/\∀x H',(yZ lo n).yld i H x H'->g x σ H' fun σ2 H2=>tb {D with nx:=N,ct:=N,bk:=D.nx} σ2 H2):=by
 refine⟨fun i m σ H=>m=n - i/\i<=n/\Pv i σ H,⟨n,by simp,Nat.zero_le _,h0⟩,?_⟩
 rintro i m σ H ⟨rfl,hi,p⟩
 by_cases hlt:i < n
 ·refine .inr ⟨hlt,Pv (i + 1),fun σ' H' p'=>⟨n - (i + 1),by omega,rfl,hlt,p'⟩,fun x H' y=>?_⟩
  obtain⟨e,y⟩:=y
  subst e y
  exact hs i σ _ hlt p
 ·have e:i=n:=by omega
  subst e
  exact .inl ⟨Nat.le_refl _,hd σ H p⟩
end L2
namespace L2
open PySem PySem.Spec PyProof.Rows
abbrev R2:=V->V->Hp->VK->Prop
def mh (X:Cx)(f:Value->Value->Sem Value)(r:R2):Prop:=
 ∀(pins:List (Addr×Obj)) (s:Shared) (σ:St) (H:Hp) (x y:V) (v u:Value) (Q:VK),Inv X pins σ H s->RelV x v->RelV y u->r x y H Q->
  wpAny (model X.prog X.w) X.A (f v u) (EP X pins σ Q) X.xe s
def c7 (X:Cx)(f:Value)(r:List V->Hp->VK->Prop):Prop:=
 ∀(pins:List (Addr×Obj)) (s:Shared) (σ:St) (H:Hp) (xs:List V) (us:List Value) (Q:VK),Inv X pins σ H s->Vals xs us->r xs H Q->
  wpAny (model X.prog X.w) X.A (call f us) (EP X pins σ Q) X.xe s
def Il (X:Cx)(r:V->Hp->(Bool->Hp->Prop)->Prop):Prop:=
 ∀(pins:List (Addr×Obj)) (s:Shared) (σ:St) (H:Hp) (x:V) (v:Value) (Q:Bool->Hp->Prop),Inv X pins σ H s->RelV x v->r x H Q->
  wpAny (model X.prog X.w) X.A (truthy v) (TP X pins σ Q) X.xe s
def Hf (r:R2)(ta tb:TE):TE:=fun σ H Q=>ta σ H fun x H1=>tb σ H1 fun y H2=>r x y H2 Q
def rI (C:Int->Int->Prop)(g:Int->Int->V):R2:=fun x y H Q=>∃i j,x=.int i/\y=.int j/\C i j/\Q (g i j) H
def ye (g:Int->Int->V):R2:=fun x y H Q=>∃i j,x=.int i/\y=.int j/\Q (g i j) H
section
variable {X:Cx}{a b c:Expr}{ta tb tc:TE}{pos:Pos}
theorem D1 (ha:PE X a ta)(hb:PE X b tb){pins:List (Addr×Obj)}{s:Shared}{σ:St}{H:Hp}{R:V->V->Hp->Prop}(I:Inv X pins σ H s)
  (h:ta σ H fun x H1=>tb σ H1 fun y H2=>R x y H2) {Q:Value->Shared->Prop} {f:Value->Value->Sem Value}
  (hf:∀v u s2 x y H2,Inv X pins σ H2 s2->RelV x v->RelV y u->R x y H2->wpAny (model X.prog X.w) X.A (f v u) Q X.xe s2) :
  wpAny (model X.prog X.w) X.A (eval a X.env) (fun v s₁=>wpAny (model X.prog X.w) X.A (eval b X.env) (fun u s₂=>wpAny (model X.prog X.w) X.A (f v u) Q X.xe s₂) X.xe s₁) X.xe s:=by
 refine cZ (ha pins s σ H _ I h) fun v s1 ⟨x,H1,I1,r1,q1⟩=>?_
 refine cZ (hb pins s1 σ H1 _ I1 q1) fun u s2 ⟨y,H2,I2,r2,q2⟩=>?_
 exact hf v u s2 x y H2 I2 r1 r2 q2
theorem qu {op:Operator}{r:R2}(ho:mh X (binaryOp op) r)(ha:PE X a ta)(hb:PE X b tb):PE X (.BinOp a op b pos) (Hf r ta tb):=by
 intro pins s σ H Q I h
 exact wpAny_BinOp (D1 ha hb I h fun v u s2 x y H2 I2 rx ry q=>ho pins s2 σ H2 x y v u Q I2 rx ry q)
theorem Hq {f:Value->Value->Sem Value}{C:Int->Int->Prop}{g:Int->Int->Int}
  (rule:∀(i j:Int) (t u:Tok) (s:Shared) (Q:Value->Shared->Prop) (E:Value->Shared->Prop),C i j->Q (.int (g i j) s.toks) {s with toks:=s.toks + 1}->wpAny (model X.prog X.w) X.A (f (.int i t) (.int j u)) Q E s) :
  mh X f (rI C fun i j=>.int (g i j)):=by
 intro pins s σ H x y v u Q I rx ry h
 obtain⟨i,j,rfl,rfl,hc,q⟩:=h
 obtain⟨t,rfl⟩:=rx
 obtain⟨t',rfl⟩:=ry
 exact rule i j t t' s _ _ hc ⟨.int (g i j),H,I.tok _,⟨_,rfl⟩,q⟩
theorem Gh {f:Value->Value->Sem Value}{g:Int->Int->Int}
  (rule:∀(i j:Int) (t u:Tok) (s:Shared) (Q:Value->Shared->Prop) (E:Value->Shared->Prop),Q (.int (g i j) s.toks) {s with toks:=s.toks + 1}->wpAny (model X.prog X.w) X.A (f (.int i t) (.int j u)) Q E s) :
  mh X f (ye fun i j=>.int (g i j)):=by
 intro pins s σ H x y v u Q I rx ry h
 obtain⟨i,j,rfl,rfl,q⟩:=h
 obtain⟨t,rfl⟩:=rx
 obtain⟨t',rfl⟩:=ry
 exact rule i j t t' s _ _ ⟨.int (g i j),H,I.tok _,⟨_,rfl⟩,q⟩
theorem EM {f:Value->Value->Sem Value}{g:Int->Int->Bool}
  (rule:∀(i j:Int) (t u:Tok) (s:Shared) (Q:Value->Shared->Prop) (E:Value->Shared->Prop),Q (.bool (g i j)) s->wpAny (model X.prog X.w) X.A (f (.int i t) (.int j u)) Q E s) :
  mh X f (ye fun i j=>.bl (g i j)):=by
 intro pins s σ H x y v u Q I rx ry h
 obtain⟨i,j,rfl,rfl,q⟩:=h
 obtain⟨t,rfl⟩:=rx
 obtain⟨t',rfl⟩:=ry
 exact rule i j t t' s _ _ ⟨.bl (g i j),H,I,rfl,q⟩
def CI (i j:Int):Prop:=0 < j/\j < 1073741824
def AD (i j:Int):Prop:=(-(2 ^ 64) < i/\i < 2 ^ 64)\/(-(2 ^ 64) < j/\j < 2 ^ 64)
theorem AD.ok {i j:Int}(h:AD i j):IntMulOk i j:=by
 rcases h with⟨h1,h2⟩ | ⟨h1,h2⟩
 ·exact .of_left (intBits_le_64 h1 h2)
 ·exact .of_right (intBits_le_64 h1 h2)
theorem dg:mh X (binaryOp .Add) (ye fun i j=>.int (i + j)):=Gh fun _ _ _ _ _ _ _ q=>add_int q
theorem rg:mh X (binaryOp .Sub) (ye fun i j=>.int (i - j)):=Gh fun _ _ _ _ _ _ _ q=>sub_int q
theorem kj:mh X (binaryOp .Mult) (rI AD fun i j=>.int (i * j)):=Hq fun _ _ _ _ _ _ _ hc q=>mul_int q hc.ok
theorem rb:mh X (binaryOp .FloorDiv) (rI CI fun i j=>.int (i / j)):=Hq fun i j _ _ _ _ _ hc q=>by
 have h1:(0:Int) < j:=hc.1
 have h2:j < 1073741824:=hc.2
 exact floordiv_int (by omega) (by rw[Int.fdiv_eq_ediv_of_nonneg i (by omega)];exact q) (.inl (PyProof.noPylong_small (by omega)))
theorem lC:mh X (binaryOp .Mod) (rI (fun _ j=>0 < j) fun i j=>.int (i % j)):=Hq fun i j _ _ _ _ _ hc q=>by
 have h1:(0:Int) < j:=hc
 exact mod_int' (by omega) (by rw[Int.fmod_eq_emod_of_nonneg i (by omega)];exact q)
end
section
variable {X:Cx}{a b c:Expr}{ta tb tc:TE}{pos:Pos}
theorem uk:mh X (compareOp .Lt) (ye fun i j=>.bl (decide (i < j))):=EM fun _ _ _ _ _ _ _ q=>lt_int q
theorem AO:mh X (compareOp .LtE) (ye fun i j=>.bl (decide (i<=j))):=EM fun _ _ _ _ _ _ _ q=>le_int q
theorem Df:mh X (compareOp .Gt) (ye fun i j=>.bl (decide (j < i))):=EM fun _ _ _ _ _ _ _ q=>gt_int q
theorem bG (b:Expr){op:CmpOp}(h:op≠.In:=by decide)(h2:op≠.NotIn:=by decide):behindInMarks op b=false:=by
 have e1:(op == CmpOp.In)=false:=by cases op <;> first |rfl |exact absurd rfl h
 have e2:(op == CmpOp.NotIn)=false:=by cases op <;> first |rfl |exact absurd rfl h2
 cases b <;> simp[behindInMarks,e1,e2]
theorem BJ {op:CmpOp}{r:R2}(ho:mh X (compareOp op) r)(ha:PE X a ta)(hb:PE X b tb)(hm:behindInMarks op b=false):PE X (.Compare a [op] [b] pos) (Hf r ta tb):=by
 intro pins s σ H Q I h
 exact wpAny_Compare1 (D1 ha hb I h fun v u s2 x y H2 I2 rx ry q=>ho pins s2 σ H2 x y v u Q I2 rx ry q) hm
def FX (t:TE):TT:=fun σ H Q=>t σ H fun x H'=>∃k,x=.bl k/\Q k H'
theorem Cc {op:CmpOp}{r:R2}(ho:mh X (compareOp op) r)(ha:PE X a ta)(hb:PE X b tb)(hm:behindInMarks op b=false):PT X (.Compare a [op] [b] pos) (FX (Hf r ta tb)):=by
 intro pins s σ H Q I h
 refine wpAny_isTrue_Compare1 (cZ (ha pins s σ H _ I h) fun v s1 ⟨x,H1,I1,r1,q1⟩=>cZ (hb pins s1 σ H1 _ I1 q1) fun u s2 ⟨y,H2,I2,r2,q2⟩=>
  cZ (ho pins s2 σ H2 x y v u _ I2 r1 r2 q2) fun c s3 ⟨z,H3,I3,r3,k,e,q3⟩=>?_) hm
 subst e
 cases r3
 exact wpAny_truthy_bool ⟨H3,I3,q3⟩
def Fb (r r':R2)(ta tb tc:TE):TE:=fun σ H Q=>ta σ H fun x H1=>tb σ H1 fun y H2=>r x y H2 fun z H3=>∃k,z=.bl k/\
 (if k=true then tc σ H3 fun w' H4=>r' y w' H4 Q else Q (.bl false) H3)
theorem AN {op op':CmpOp}{r r':R2}(ho:mh X (compareOp op) r)(ho':mh X (compareOp op') r')(ha:PE X a ta)(hb:PE X b tb)(hc:PE X c tc)
  (hm:lastMarks [op,op'] [b,c]=false:=by with_unfolding_all rfl):PE X (.Compare a [op,op'] [b,c] pos) (Fb r r' ta tb tc):=by
 intro pins s σ H Q I h
 refine Compare_chain (cZ (ha pins s σ H _ I h) fun v s1 ⟨x,H1,I1,r1,q1⟩=>chain_link (cZ (hb pins s1 σ H1 _ I1 q1) fun u s2 ⟨y,H2,I2,r2,q2⟩=>
  cZ (ho pins s2 σ H2 x y v u _ I2 r1 r2 q2) fun d s3 ⟨z,H3,I3,r3,k,e,q3⟩=>?_)) hm
 subst e
 cases r3
 refine wpAny_truthy_bool ?_
 cases k with
 |false=>exact ite_ff ⟨.bl false,H3,I3,rfl,q3⟩
 |true=>exact ite_tt (chain_last (cZ (hc pins s3 σ H3 _ I3 q3) fun w' s4 ⟨z',H4,I4,r4,q4⟩=>ho' pins s4 σ H4 y z' u w' Q I4 r2 r4 q4))
def Gf (K:PySem.W.Frag)(x:V)(H:Hp)(k:Bool):Prop:=
 match x with
 | .non=>k=false
 | .bl b=>k=b
 | .int i=>k=(i != 0)
 | .str y=>y.length<=sizeLine/\k=((y.length:Int) != 0)
 | .byt y=>y.size<=sizeLine/\k=((y.size:Int) != 0)
 | .ref p=>(∃xs,hZ K H p xs/\k= !xs.isEmpty)\/(∃xs,eh K H p xs/\k= !xs.isEmpty)\/∃kvs,H p=some (.dK kvs)/\k= !kvs.isEmpty
 |_=>False
theorem uY {κ:Type}{kvs:List (κ×V)}{vs:List (κ×Value)}(r:KV kvs vs):(!vs.isEmpty)= !kvs.isEmpty:=by
 cases r <;> rfl
theorem o7 {xs:List V}{its:List Value}(r:Vals xs its):(!its.toArray.isEmpty)= !xs.isEmpty:=by
 cases r <;> simp
theorem mF:(sizeLine:Nat) < 2 ^ 63:=by rw[sizeLine_eq];decide
theorem DJ:Il X (fun x H Q=>∃k,Gf X.K x H k/\Q k H):=by
 intro pins s σ H x v Q I rx h
 obtain⟨k,e,q⟩:=h
 have hl:=mF
 have hs:sizeLine=16777216:=sizeLine_eq
 cases x with
 |non=>
  cases rx
  have e':k=false:=e
  subst e'
  exact truthy_none ⟨H,I,q⟩
 |bl b=>
  cases rx
  have e':k=b:=e
  subst e'
  exact wpAny_truthy_bool ⟨H,I,q⟩
 |int i=>
  obtain⟨t,rfl⟩:=rx
  have e':k=(i != 0):=e
  subst e'
  exact PySem.P.truthy_int ⟨H,I,q⟩
 |str y=>
  obtain⟨t,rfl⟩:=rx
  obtain⟨hy,e'⟩:y.length<=sizeLine/\k=((y.length:Int) != 0):=e
  subst e'
  exact PySem.P.truthy_str (by omega) ⟨H,I.tok _,q⟩
 |byt y=>
  obtain⟨t,rfl⟩:=rx
  obtain⟨hy,e'⟩:y.size<=sizeLine/\k=((y.size:Int) != 0):=e
  subst e'
  exact PySem.W.truthy_bytes (by omega) ⟨H,I.tok _,q⟩
 |ref p=>
  cases rx
  have e':(∃xs,hZ X.K H p xs/\k= !xs.isEmpty)\/(∃xs,eh X.K H p xs/\k= !xs.isEmpty)\/∃kvs,H p=some (.dK kvs)/\k= !kvs.isEmpty:=e
  rcases e' with⟨xs,hx,e'⟩ | ⟨xs,hx,e'⟩ | ⟨kvs,hx,e'⟩
  ·subst e'
   obtain⟨its,r,pl,hz⟩:=I.list hx
   have hlen:=r.length
   exact wpAny_truthy_list pl.isList (by simp only[List.size_toArray];omega) ⟨H,I.tok _,by rw[o7 r];exact q⟩
  ·subst e'
   obtain⟨its,r,pl,hz⟩:=I.tuple hx
   have hlen:=r.length
   exact truthy_tuple pl (by simp only[List.size_toArray];omega) ⟨H,I.tok _,by rw[o7 r];exact q⟩
  ·subst e'
   obtain⟨hz,hS,vs,r,m⟩:kvs.length<=sizeLine/\(p == sysModules)=false/\∃vs,KV kvs vs/\s.heap.DictOf (rm X.prog X.w) p vs:=I.hok p _ hx
   have hlen:kvs.length=vs.length:=Paired.length r
   exact wpAny_truthy_dict hS m (by omega) ⟨H,I.tok _,by rw[uY r];exact q⟩
 |_=>exact (show False from e).elim
theorem z0 (ha:PE X a ta)(he:∀whole,isTrue a X.env whole=(do let v <-whole;standAt a.pos;holding [v] (truthy v))) :
  PT X a (fun σ H Q=>ta σ H fun x H'=>∃k,Gf X.K x H' k/\Q k H'):=by
 intro pins s σ H Q I h
 exact isTrue_plain (cZ (ha pins s σ H _ I h) fun v s1 ⟨x,H1,I1,r1,q1⟩=>DJ pins s1 σ H1 x v Q I1 r1 q1) (he _)
theorem vals1 {x:V}{us:List Value}(r:Vals [x] us):∃u,us= [u]/\RelV x u:=by
 cases r with
 |cons r1 r2=>cases r2;exact⟨_,rfl,r1⟩
theorem vals2 {x y:V}{us:List Value}(r:Vals [x,y] us):∃u w',us= [u,w']/\RelV x u/\RelV y w':=by
 cases r with
 |cons r1 r2=>
  cases r2 with
  |cons r3 r4=>cases r4;exact⟨_,_,rfl,r1,r3⟩
theorem js (hc:X.calm=true):c7 X (.builtin "max") (fun xs H Q=>∃i j,xs= [.int i,.int j]/\Q (.int (if j > i then j else i)) H):=by
 intro pins s σ H xs us Q I r h
 obtain⟨i,j,rfl,q⟩:=h
 obtain⟨u,w',rfl,⟨t,rfl⟩,⟨t',rfl⟩⟩:=vals2 r
 refine max_two_ints (I.ok.hd hc) fun h' tk k=>⟨_,H,I.kept k,?_,q⟩
 by_cases hj:j > i
 ·rw[if_pos hj,if_pos hj];exact⟨_,rfl⟩
 ·rw[if_neg hj,if_neg hj];exact⟨_,rfl⟩
theorem qw (hc:X.calm=true):c7 X (.builtin "min") (fun xs H Q=>∃i j,xs= [.int i,.int j]/\Q (.int (if j < i then j else i)) H):=by
 intro pins s σ H xs us Q I r h
 obtain⟨i,j,rfl,q⟩:=h
 obtain⟨u,w',rfl,⟨t,rfl⟩,⟨t',rfl⟩⟩:=vals2 r
 refine min_two_ints (I.ok.hd hc) fun h' tk k=>⟨_,H,I.kept k,?_,q⟩
 by_cases hj:j < i
 ·rw[if_pos hj,if_pos hj];exact⟨_,rfl⟩
 ·rw[if_neg hj,if_neg hj];exact⟨_,rfl⟩
theorem yr:c7 X (.type "int") (fun xs H Q=>(∃i,xs= [.int i]/\Q (.int i) H)\/∃k,xs= [.bl k]/\Q (.int (if k then 1 else 0)) H):=by
 intro pins s σ H xs us Q I r h
 rcases h with⟨i,rfl,q⟩ | ⟨k,rfl,q⟩
 ·obtain⟨u,rfl,t,rfl⟩:=vals1 r
  exact call_int_int ⟨.int i,H,I,⟨_,rfl⟩,q⟩
 ·obtain⟨u,rfl,r1⟩:=vals1 r
  cases r1
  exact call_int_bool ⟨.int (if k then 1 else 0),H,I.tok _,⟨_,rfl⟩,q⟩
def FD (K:PySem.W.Frag)(x:V)(H:Hp)(n:Nat):Prop:=
 match x with
 | .str y=>y.length<=sizeLine/\n=y.length
 | .byt y=>y.size<=sizeLine/\n=y.size
 | .ref p=>(∃xs,hZ K H p xs/\n=xs.length)\/∃xs,eh K H p xs/\n=xs.length
 |_=>False
theorem aV:c7 X (.builtin "len") (fun xs H Q=>∃x n,xs= [x]/\FD X.K x H n/\Q (.int n) H):=by
 intro pins s σ H xs us Q I r h
 obtain⟨x,n,rfl,e,q⟩:=h
 obtain⟨u,rfl,rx⟩:=vals1 r
 have hl:=mF
 have hs:sizeLine=16777216:=sizeLine_eq
 cases x with
 |str y=>
  obtain⟨t,rfl⟩:=rx
  obtain⟨hy,e'⟩:y.length<=sizeLine/\n=y.length:=e
  subst e'
  exact len_str (by omega) ⟨.int _,H,I.tok _,⟨_,rfl⟩,q⟩
 |byt y=>
  obtain⟨t,rfl⟩:=rx
  obtain⟨hy,e'⟩:y.size<=sizeLine/\n=y.size:=e
  subst e'
  exact PySem.W.len_bytes (by omega) ⟨.int _,H,I.tok _,⟨_,rfl⟩,q⟩
 |ref p=>
  cases rx
  have e':(∃xs,hZ X.K H p xs/\n=xs.length)\/∃xs,eh X.K H p xs/\n=xs.length:=e
  rcases e' with⟨xs,hx,e'⟩ | ⟨xs,hx,e'⟩
  ·subst e'
   obtain⟨its,r',pl,hz⟩:=I.list hx
   have hlen:=r'.length
   exact Calls.call_len_list pl.isList (by simp only[List.size_toArray];omega) ⟨.int xs.length,H,I.tok _,⟨_,by simp only[List.size_toArray];rw[hlen]⟩,q⟩
  ·subst e'
   obtain⟨its,r',pl,hz⟩:=I.tuple hx
   have hlen:=r'.length
   exact len_tuple pl (by simp only[List.size_toArray];omega) ⟨.int xs.length,H,I.tok _,⟨_,by simp only[List.size_toArray];rw[hlen]⟩,q⟩
 |_=>exact (show False from e).elim
theorem uv:c7 X (.builtin "divmod") (fun xs H Q=>∃i j,xs= [.int i,.int j]/\CI i j/\∀p,H p=none->Q (.ref p) (upd H p (.tup [.int (i / j),.int (i % j)]))):=by
 intro pins s σ H xs us Q I r h
 obtain⟨i,j,rfl,⟨h1,h2⟩,q⟩:=h
 obtain⟨u,w',rfl,⟨t,rfl⟩,⟨t',rfl⟩⟩:=vals2 r
 refine divmod_int (by omega) ?_ (.inl (PyProof.noPylong_small (by omega)))
 rw[Int.fdiv_eq_ediv_of_nonneg i (by omega),Int.fmod_eq_emod_of_nonneg i (by omega)]
 have hn:H s.heap.objs.size=none:=I.hok.fresh (Nat.le_refl _)
 refine⟨.ref s.heap.objs.size,_,?_,rfl,q _ hn⟩
 refine I.laid (fun b o e=>Heap.get?_push_of_some _ e) (Nat.le_refl _) ⟨by simp only[List.length_cons,List.length_nil];rw[sizeLine_eq];decide,[.int (i / j) s.toks,.int (i % j) (s.toks + 1)],.cons ⟨_,rfl⟩ (.cons ⟨_,rfl⟩ .nil),?_⟩
 exact⟨_,Heap.get?_push_size s.heap rfl,rfl,0,rfl,rfl⟩
end
end L2
namespace L2
open PySem PySem.Spec PyProof.Rows
structure DN (h:Heap)(x dx C:Addr)(mA:Str->Option Value):Prop where
 obj:h.get? x=some (PySem.W.instObj C dx)
 ns:h.Ns1 dx mA
 ne:dx≠x
theorem xN {h:Heap}{dx:Addr}{mA:Str->Option Value}(n:h.Ns1 dx mA):∃od,h.get? dx=some od/\∀name,PySem.W.lookIn name od=some (mA name):=by
 obtain⟨o,es,ep,ho,hd,hk,_,hm⟩:=n
 refine⟨o,ho,fun name=>?_⟩
 have e:=hm name
 unfold nsFind findBy at e
 rw[<-Array.find?_toList] at e
 unfold PySem.W.lookIn
 rw[hd]
 dsimp only
 split
 ·rename_i y q
  rw[q] at e
  exact congrArg some e
 ·rename_i q
  rw[q] at e
  have a:es.toList.any (·.refKey)=false:=by
   rw[List.any_eq_false]
   intro y hy
   obtain⟨z,t,hkey⟩:=hk y (Array.mem_toList_iff.mp hy)
   simp[DictEntry.refKey,hkey]
  have a':¬es.toList.any (·.refKey)=true:=by rw[a];exact Bool.false_ne_true
  rw[if_neg a']
  exact congrArg some e
theorem DN.look {h:Heap}{x dx C:Addr}{mA:Str->Option Value}(I:DN h x dx C mA):∃od,PySem.W.InstAt h x (PySem.W.instObj C dx) C (some od)/\∀name,PySem.W.lookIn name od=some (mA name):=
 let ⟨od,ho,hl⟩:=xN I.ns
 ⟨od,⟨I.obj,rfl,rfl,ho⟩,hl⟩
section
variable {P:Program}{w:World}{H H':Hp}{h h':Heap}{a C dx:Addr}{fs fs':List (Str×V)}
theorem Bv (hok:lG P w H h)(e:H a=some (.ins C dx fs)):∃mA,DN h a dx C mA/\(∀f,zP (fs.lookup f) (mA f))/\PySem.Within mA (fs.map (·.1))/\fs.length<=1000/\H dx=some (.own a):=by
 obtain⟨d,z,ne,ob,mA,n,r,q⟩:=(show cJ P w H h a (.ins C dx fs) from hok a _ e)
 exact⟨mA,⟨ob,n,ne⟩,r,q,z,d⟩
end
structure HM (K:PySem.W.Frag)(C:Addr):Prop where
 pg:PySem.W.plainGet K C Str.empty=true
 hd:PySem.W.hasDictIn K C=true
 po:PySem.W.plainOver K C=true
 sa:PySem.W.findIn K (.ref C) "__setattr__"=some (some (.builtin "object.__setattr__"))
theorem HM.get {K:PySem.W.Frag}{C:Addr}(c:HM K C)(f:Str):PySem.W.plainGet K C f=true:=c.pg
section
variable {X:Cx}{pins:List (Addr×Obj)}{σ:St}{H:Hp}{s:Shared}{A:Around}{E:Value->Shared->Prop}{Q:Value->Shared->Prop}{c:Value}{b:Bool}
inductive nJ (K:PySem.W.Frag)(H:Hp):V->Value->Prop where
 |non:nJ K H .non (.type "NoneType")
 |bl (x:Bool):nJ K H (.bl x) (.type "bool")
 |int (i:Int):nJ K H (.int i) (.type "int")
 |str (x:Str):nJ K H (.str x) (.type "str")
 |flt (x:UInt64):nJ K H (.flt x) (.type "float")
 |lst {a:Addr} {xs:List V} (e:H a=some (.lst xs)):nJ K H (.ref a) (.type "list")
 |a9 {a:Addr} {o:Obj} {xs:List V} (e:H a=some (.a9 o (.lst xs))):nJ K H (.ref a) (.type "list")
 |tup {a:Addr} {xs:List V} (e:H a=some (.tup xs)):nJ K H (.ref a) (.type "tuple")
 |dK {a:Addr} {kvs:List (Key×V)} (e:H a=some (.dK kvs)):nJ K H (.ref a) (.type "dict")
 |dT {a:Addr} {kvs:List (List Key×V)} (e:H a=some (.dT kvs)):nJ K H (.ref a) (.type "dict")
 |ins {a C dx:Addr} {fs:List (Str×V)} (e:H a=some (.ins C dx fs)) (cl:HM K C) (ha:PySem.W.findIn K (.ref C) "__class__"=some (some (.builtin "object.__class__")))
   (hn:PySem.W.specialIn K (.builtin "object.__class__") "__get__"=some (some (.builtin "getset_descriptor.__get__"))) (htk:PySem.W.takesIn K (.builtin "object.__class__")=some true)
   (hm:PySem.W.mroIn K C (.type "object")=some true):nJ K H (.ref a) (.ref C)
theorem jx {x:V}{u t:Value}(I:Inv X pins σ H s)(rx:RelV x u)(ty:nJ X.K H x t)(e:PySem.W.kitOne X.K t c=some b)(h:∀tk,Q (.bool b) {s with toks:=tk}) :
  wpAny (model X.prog X.w) A (call (.builtin "isinstance") [u,c]) Q E s:=by
 cases ty with
 |non=>cases (show u=Value.none from rx);exact PySem.W.kia_one PySem.W.kitx_none I.kIn True.intro e (fun z=>nomatch z) h
 |bl y=>cases (show u=Value.bool y from rx);exact PySem.W.kia_one PySem.W.kitx_bool I.kIn True.intro e (fun z=>nomatch z) h
 |int i=>obtain⟨t,q⟩:=(show ∃t,u=Value.int i t from rx);cases q;exact PySem.W.kia_one PySem.W.kitx_int I.kIn True.intro e (fun z=>nomatch z) h
 |str y=>obtain⟨t,q⟩:=(show ∃t,u=Value.str y t from rx);cases q;exact PySem.W.kia_one PySem.W.kitx_str I.kIn True.intro e (fun z=>nomatch z) h
 |flt y=>obtain⟨t,q⟩:=(show ∃t,u=Value.float y t from rx);cases q;exact PySem.W.kia_one PySem.W.kitx_float I.kIn True.intro e (fun z=>nomatch z) h
 | @lst a xs ea=>
  cases (show u=Value.ref a from rx)
  obtain⟨_,_,n,_,h1⟩:=(show cJ X.prog X.w H s.heap a (.lst xs) from I.hok a _ ea)
  exact PySem.W.kia_one PySem.W.kitx_list I.kIn ⟨_,h1,rfl⟩ e (fun z=>nomatch z) h
 | @a9 a ob xs ea=>
  cases (show u=Value.ref a from rx)
  obtain⟨_,_,_,n,_,h1⟩:=(show cJ X.prog X.w H s.heap a (.a9 ob (.lst xs)) from I.hok a _ ea)
  exact PySem.W.kia_one PySem.W.kitx_list I.kIn ⟨_,h1,rfl⟩ e (fun z=>nomatch z) h
 | @tup a xs ea=>
  cases (show u=Value.ref a from rx)
  obtain⟨_,_,_,p⟩:=(show cJ X.prog X.w H s.heap a (.tup xs) from I.hok a _ ea)
  obtain⟨o,h1,h2,_⟩:=p
  exact PySem.W.kia_one PySem.W.kitx_tuple I.kIn ⟨o,h1,h2⟩ e (fun z=>nomatch z) h
 | @dK a kvs ea=>
  cases (show u=Value.ref a from rx)
  obtain⟨_,_,vs,_,p⟩:=(show cJ X.prog X.w H s.heap a (.dK kvs) from I.hok a _ ea)
  obtain⟨o,es,ep,h1,h2,_⟩:=p
  exact PySem.W.kia_one PySem.W.kitx_dict I.kIn ⟨o,h1,h2.1⟩ e (fun z=>nomatch z) h
 | @dT a kvs ea=>
  cases (show u=Value.ref a from rx)
  obtain⟨_,_,xs,_,o,es,ep,h1,h2,_⟩:=(show cJ X.prog X.w H s.heap a (.dT kvs) from I.hok a _ ea)
  exact PySem.W.kia_one PySem.W.kitx_dict I.kIn ⟨o,h1,h2.1⟩ e (fun z=>nomatch z) h
 | @ins a C dx fs ea cl ha hn htk hm=>
  cases (show u=Value.ref a from rx)
  obtain⟨mA,O,_⟩:=Bv I.hok ea
  obtain⟨od,J,_⟩:=O.look
  exact PySem.W.kia_one (PySem.W.kitx_own (cl.get _) cl.hd ha hn htk hm) I.kIn J e (fun z=>nomatch z) h
end
end L2
namespace L2
open PySem PySem.Spec PyProof.Rows
structure fA (k:Nat)(A:Around):Prop where
 hd:A.handled=none
 dp:A.depth + 3 * k + 5 < recursionLimit
 un:A.units + 16 * k + 200 < cLine
 gd:A.guards=some []
theorem fA.mono {j k:Nat}{A:Around}(r:fA k A)(h:j<=k):fA j A:=⟨r.hd,by have:=r.dp;omega,by have:=r.un;omega,r.gd⟩
theorem fA.deeper {k:Nat}{A:Around}(r:fA (k + 1) A)(env:Env):fA k (A.deeper env):=
 ⟨r.hd,by have:=r.dp;show A.depth + 1 + 3 * k + 5 < _;omega,by have:=r.un;show A.units + 3 + 16 * k + 200 < _;omega,r.gd⟩
theorem fA.depth {k:Nat}{A:Around}(r:fA k A):A.depth < recursionLimit:=by have:=r.dp;omega
theorem fA.units {k:Nat}{A:Around}(r:fA k A):A.units + 64 < cLine:=by have:=r.un;omega
def Ik:TA:=fun _ H Q=>Q [] H
def Gi (ta:TE)(tr:TA):TA:=fun σ H Q=>ta σ H fun x H1=>tr σ H1 fun xs H2=>Q (x :: xs) H2
section
variable {X:Cx}{e:Expr}{es:List Expr}{te:TE}{t:TA}{pos:Pos}
theorem bZ:PA X [] Ik:=fun _ _ _ _ H Q I h=>Calls.spliced_nil ⟨[],H,I,.nil,h⟩
theorem aZ (ha:PE X e te)(hr:PA X es t)(hs:starEach (e :: es) X.env=(false,eval e X.env) :: starEach es X.env:=by rfl):PA X (e :: es) (Gi te t):=by
 intro pos pins s σ H Q I h
 rw[hs]
 show wpAny _ _ (spliced ((false,eval e X.env) :: backTo pos (starEach es X.env))) _ _ s
 refine Calls.spliced_cons (cZ (ha pins s σ H _ I h) fun u s1 ⟨x,H1,I1,r1,q1⟩=>?_)
 exact cZ (hr pos pins s1 σ H1 _ I1 q1) fun us s2 ⟨xs,H2,I2,r2,q2⟩=>⟨x :: xs,H2,I2,.cons r1 r2,q2⟩
def HH (t:TA):TE:=fun σ H Q=>t σ H fun xs H1=>xs.length<=sizeLine/\∀p,H1 p=none->Q (.ref p) (upd H1 p (.tup xs))
def HE (t:TA):TE:=fun σ H Q=>t σ H fun xs H1=>xs.length<=sizeLine/\∀p,H1 p=none->Q (.ref p) (upd H1 p (.lst xs))
theorem uZ {x1}(h:PA X es t):PE X (.Tuple es x1 pos) (HH t):=by
 intro pins s σ H Q I hq
 refine wpAny_Tuple_spliced (cZ (h pos pins s σ H _ I hq) fun us s1 ⟨xs,H1,I1,r,z,q⟩=>⟨by rw[<-r.length];exact z,?_⟩)
 have hf:H1 s1.heap.objs.size=none:=I1.hok.fresh (Nat.le_refl _)
 refine⟨.ref s1.heap.objs.size,upd H1 s1.heap.objs.size (.tup xs),I1.laid (t':=s1.toks) (fun b u e=>Heap.get?_push_of_some _ e) (Nat.le_refl _) ?_,rfl,q _ hf⟩
 exact⟨z,us,r,pQ.new _ _⟩
theorem Ax (h:PA X es t):PE X (.List es pos) (HE t):=by
 intro pins s σ H Q I hq
 refine wpAny_List_spliced (cZ (h pos pins s σ H _ I hq) fun us s1 ⟨xs,H1,I1,r,z,q⟩=>⟨by rw[<-r.length];exact z,?_⟩)
 have hf:H1 s1.heap.objs.size=none:=I1.hok.fresh (Nat.le_refl _)
 refine⟨.ref s1.heap.objs.size,upd H1 s1.heap.objs.size (.lst xs),I1.laid (t':=s1.toks) (fun b u e=>Heap.get?_push_of_some _ e) (Nat.le_refl _) ?_,rfl,q _ hf⟩
 exact⟨z,us,0,r,Heap.get?_push_size _ rfl⟩
end
abbrev Sp:=List V->Hp->VK->XK->Prop
abbrev xF:=List Env->Hp->Shared->XK->Value->Shared->Prop
structure BX (P:Program)(w:World)(K:PySem.W.Frag)(mg:Str->Option Value)(base:Heap)(A:Around)(outer:List Env)(s:Shared)(H:Hp):Prop where
 frames:A.frames=some outer
 mod:Mod K mg base
 bs:∀b o,base.get? b=some o->s.heap.get? b=some o/\H b=none
 bsz:base.objs.size<=s.heap.objs.size
 funs:s.heap.FunFrames base outer
 frf:∀b∈ji outer,H b=none
 hok:lG P w H s.heap
 bare:AllBare s.gens
def CE (outer:List Env)(P:Program)(w:World)(H:Hp)(s:Shared)(Q:VK)(u:Value)(s':Shared):Prop:=
 ∃v H',s'.os=s.os/\AllBare s'.gens/\Un (ji outer) [] H H' s.heap s'.heap/\lG P w H' s'.heap/\RelV v u/\Q v H'
def CR (CX:xF)(outer:List Env)(P:Program)(w:World)(H:Hp)(s:Shared)(Q:VK)(E:XK)(r:Result)(s':Shared):Prop:=
 match r with
 | .ok (.ret u)=>CE outer P w H s Q u s'
 | .ok _=>False
 | .error e=>CX outer H s E e s'
structure fW (P:Program)(w:World)(K:PySem.W.Frag)(mg:Str->Option Value)(base:Heap)(CX:xF)(k:Nat)(f:Addr)(fd:FuncData)(ps:List Str)(sp:Sp):Prop where
 len:∀vs H Q E,sp vs H Q E->vs.length=ps.length
 run:∀(A:Around) (outer:List Env) (s:Shared) (H:Hp) (args:Args) (us:List Value) (vs:List V) (Q:VK) (E:XK),fA k A->BX P w K mg base A outer s H->BindsTo s fd args (ps.zip us)->Vals vs us->sp vs H Q E->
  codeAny (model P w) A (.call (.ref f) args) (CR CX outer P w H s Q E) s
theorem fW.mono {P:Program}{w:World}{K:PySem.W.Frag}{mg:Str->Option Value}{base:Heap}{CX:xF}{j k:Nat}{f:Addr}{fd:FuncData}{ps:List Str}{sp:Sp}(F:fW P w K mg base CX j f fd ps sp)(h:j<=k) :
  fW P w K mg base CX k f fd ps sp:=⟨F.len,fun A outer s H args us vs Q E hr=>F.run A outer s H args us vs Q E (hr.mono h)⟩
theorem fW.imp {P:Program}{w:World}{K:PySem.W.Frag}{mg:Str->Option Value}{base:Heap}{CX:xF}{k:Nat}{f:Addr}{fd:FuncData}{ps:List Str}{sp sp':Sp}(F:fW P w K mg base CX k f fd ps sp)
  (h:∀vs H Q E,sp' vs H Q E->sp vs H Q E):fW P w K mg base CX k f fd ps sp':=
 ⟨fun vs H Q E q=>F.len vs H Q E (h _ _ _ _ q),fun A outer s H args us vs Q E hr he hb hv hs=>F.run A outer s H args us vs Q E hr he hb hv (h _ _ _ _ hs)⟩
section
variable {X:Cx}{pins:List (Addr×Obj)}{σ:St}{H:Hp}{s s':Shared}
theorem Inv.env0 (I:Inv X pins σ H s):BX X.prog X.w X.K X.mg X.base X.A X.stack s H:=
 ⟨I.ok.frames,I.ok.mod,I.bs,Nat.le_trans I.ok.bsz I.sz,I.stack,I.stkFree,I.hok,I.bare⟩
theorem Inv.after {Q:VK}{u:Value}(I:Inv X pins σ H s)(h:CE X.stack X.prog X.w H s Q u s'):EP X pins σ Q u s':=by
 obtain⟨v,H',os,bare,un,hok,r,q⟩:=h
 obtain⟨hh,g,d,t,os'⟩:=s'
 obtain rfl:os'=s.os:=os
 exact⟨v,H',I.call (h':=hh) (g':=g) (d':=d) (t':=t) (ch:=[]) un hok bare (fun b z=>absurd z (by simp)),r,q⟩
end
def FY (sp:Sp)(dvs:List V)(E:XK)(t:TA):TE:=fun σ H Q=>t σ H fun vs H1=>sp (vs ++ dvs) H1 Q E
def Binds (K:PySem.W.Frag)(fd:FuncData)(ps:List Str)(ds:List Value):Prop:=
 ∀(s:Shared) (us:List Value),K.In s.heap->(us ++ ds).length=ps.length->BindsTo s fd ⟨us,[]⟩ (ps.zip (us ++ ds))
theorem Binds.all {K:PySem.W.Frag}{fd:FuncData}{ps:List Str}(h:∀us:List Value,us.length=ps.length->bindArgs fd ⟨us,[]⟩=pure (ps.zip us)):Binds K fd ps []:=fun s us _ hl=>by
 rw[List.append_nil] at hl ⊢
 exact .of_eq (h us hl)
def Passes (CX:xF)(X:Cx)(E:XK):Prop:=∀(pins:List (Addr×Obj)) (σ:St) (H:Hp) (s:Shared) (e:Value) (s':Shared),Inv X pins σ H s->CX X.stack H s E e s'->X.xe e s'
section
variable {X:Cx}{CX:xF}{k:Nat}{f C:Addr}{fd:FuncData}{ps:List Str}{sp:Sp}{dvs:List V}{ds:List Value}{E:XK}{x m:Str}{p pos apos:Pos}{e o:Expr}{es:List Expr}{ta:TE}{t:TA}
theorem Fd {pins:List (Addr×Obj)}{σ:St}{H:Hp}{s:Shared}{Q:VK}{us:List Value}{vs:List V}(F:fW X.prog X.w X.K X.mg X.base CX k f fd ps sp)(hr:fA k X.A)(hb:Binds X.K fd ps ds)(hd:Vals dvs ds)(hx:Passes CX X E)
  (I:Inv X pins σ H s) (r:Vals vs us) (h:sp (vs ++ dvs) H Q E):wpAny (model X.prog X.w) X.A (call (.ref f) us) (EP X pins σ Q) X.xe s:=by
 have r2:Vals (vs ++ dvs) (us ++ ds):=r.append hd
 have hl:(us ++ ds).length=ps.length:=by rw[<-r2.length];exact F.len _ _ _ _ h
 refine wpAny_call (codeAny_mono (F.run X.A X.stack s H ⟨us,[]⟩ (us ++ ds) (vs ++ dvs) Q E hr I.env0 (hb s us I.kIn hl) r2 h) fun r s' hq=>?_)
 cases r with
 |error e=>exact hx pins σ H s e s' I hq
 |ok fl=>
  cases fl with
  |ret u=>exact I.after hq
  |next=>exact False.elim hq
  |brk=>exact False.elim hq
  |cont=>exact False.elim hq
theorem nN (F:fW X.prog X.w X.K X.mg X.base CX k f fd ps sp)(hr:fA k X.A)(hg:Gl X x)(hm:X.mg x=some (.ref f))(hk:PySem.W.keepIn X.K (.ref f)=true)(hb:Binds X.K fd ps ds)(hd:Vals dvs ds)(hx:Passes CX X E)
  (ha:PA X (e :: es) t) (hdb:(x == ("__debug__":Str))=false:=by decide) (he:starEach (e :: es) X.env=(false,eval e X.env) :: starEach es X.env:=by rfl) (hpl:(backTo pos (starEach es X.env)).any (·.1)=false:=by rfl) :
  PE X (.Call (.Name x p) (e :: es) [] pos) (FY sp dvs E t):=by
 intro pins s σ H Q I h
 refine wpAny_Call_Name_kw (rR I hg hm ?_ hdb)
 refine PySem.W.callWith_K (h₀:=X.base) I.ok.mod.kin hk (cZ (ha pos pins s σ H _ I h) fun us s1 ⟨vs,H1,I1,r,q⟩=>⟨I1.kIn,?_⟩) he hpl
 exact Fd F hr hb hd hx I1 r q
end
structure aC (N P:List Str)(sc:Scope):Prop where
 kind:sc.kind=.function
 co:sc.isCoroutine=false
 gen:sc.isGenerator=false
 nd:N.Nodup
 pre:N.take P.length=P
 par:∀x∈P,sc.names.lookup x=some .local\/sc.names.lookup x=some .cell
 nofree:∀y∈sc.names,y.2≠.free
theorem qr {kindOf:Str->Option NameKind}{x:Str}:∀{binds:List (Str×Value)} {m:Str->Option Value},(∀v,(x,v)∉binds)->bindL kindOf binds m x=m x
 | [],_,_=>rfl
 | (n,v) :: r,m,h=>by
  unfold bindL
  rw[qr fun w hw=>h w (List.mem_cons_of_mem _ hw)]
  split
  ·have:x≠n:=by rintro rfl;exact h v List.mem_cons_self
   simp[this]
  ·rfl
theorem qD {kindOf:Str->Option NameKind}{x:Str}:∀{binds:List (Str×Value)} {m:Str->Option Value},(∀v,(x,v)∉binds)->bindC kindOf binds m x=m x
 | [],_,_=>rfl
 | (n,v) :: r,m,h=>by
  unfold bindC
  rw[qD fun w hw=>h w (List.mem_cons_of_mem _ hw)]
  split
  ·rfl
  ·have:x≠n:=by rintro rfl;exact h v List.mem_cons_self
   simp[this]
theorem qI {kindOf:Str->Option NameKind}{x:Str}{v:Value}:∀{P:List Str} {vs:List Value} {i:Nat} {m:Str->Option Value},P.Nodup->P[i]? =some x->vs[i]? =some v->kindOf x=some .local->
  bindL kindOf (P.zip vs) m x=some v
 | [],_,_,_,_,h,_,_=>by simp at h
 |_ :: _,[],_,_,_,_,h,_=>by simp at h
 |p :: P,w :: vs,0,m,nd,h1,h2,hk=>by
  simp at h1 h2;subst h1;subst h2
  show bindL kindOf ((p,w) :: P.zip vs) m p=_
  unfold bindL
  rw[qr fun v hv=>(List.nodup_cons.mp nd).1 (List.of_mem_zip hv).1,if_pos hk]
  simp
 |p :: P,w :: vs,i + 1,m,nd,h1,h2,hk=>by
  show bindL kindOf ((p,w) :: P.zip vs) m x=_
  unfold bindL
  exact qI (i:=i) (List.nodup_cons.mp nd).2 (by simpa using h1) (by simpa using h2) hk
theorem qm {kindOf:Str->Option NameKind}{x:Str}{v:Value}:∀{P:List Str} {vs:List Value} {i:Nat} {m:Str->Option Value},P.Nodup->P[i]? =some x->vs[i]? =some v->kindOf x≠some .local->
  bindC kindOf (P.zip vs) m x=some v
 | [],_,_,_,_,h,_,_=>by simp at h
 |_ :: _,[],_,_,_,_,h,_=>by simp at h
 |p :: P,w :: vs,0,m,nd,h1,h2,hk=>by
  simp at h1 h2;subst h1;subst h2
  show bindC kindOf ((p,w) :: P.zip vs) m p=_
  unfold bindC
  rw[qD fun v hv=>(List.nodup_cons.mp nd).1 (List.of_mem_zip hv).1,if_neg hk]
  simp
 |p :: P,w :: vs,i + 1,m,nd,h1,h2,hk=>by
  show bindC kindOf ((p,w) :: P.zip vs) m x=_
  unfold bindC
  exact qm (i:=i) (List.nodup_cons.mp nd).2 (by simpa using h1) (by simpa using h2) hk
def start (N:List Str)(vs:List V):St:=vs.map some ++ List.replicate (N.length - vs.length) none
def kU (CX:xF)(P:Program)(w:World)(K:PySem.W.Frag)(mg:Str->Option Value)(base:Heap)(N:List Str)(qual:Str)(scope:Scope)(f:Addr)(cd:Value)(A:Around)(outer:List Env)(s:Shared)(H:Hp)(E:XK):Cx where
 prog:=P
 w:=w
 K:=K
 mg:=mg
 base:=base
 A:=A.deeper (envOfC qual scope s.heap.objs.size f cd)
 N:=N
 s₀:=s
 H₀:=H
 env:=envOfC qual scope s.heap.objs.size f cd
 outer:=outer
 stack:=envOfC qual scope s.heap.objs.size f cd :: outer
 ex:=[]
 calm:=true
 fn:=fun _=>true
 pn:=[]
 xe:=fun e s'=>wpAny (model P w) (A.deeper (envOfC qual scope s.heap.objs.size f cd)) (leaving (envOfC qual scope s.heap.objs.size f cd) e) (fun _ s''=>CX outer H s E e s'') (fun e' s''=>CX outer H s E e' s'') s'
theorem tO {sc:Scope}{n:Nat}{x:Str}(h:sc.names.lookup x=some .cell):∃c,(cellsFrom n sc.names []).lookup x=some c:=by
 have q:=PySem.W.cellsFrom_some sc.names n [] (.inl h)
 exact Option.isSome_iff_exists.mp q
theorem xX {CX:xF}{P:Program}{w:World}{K:PySem.W.Frag}{mg:Str->Option Value}{base:Heap}{N ps:List Str}{qual:Str}{scope:Scope}{f:Addr}{cd:Value}{A:Around}{outer:List Env}{s s1:Shared}{H:Hp}{E:XK}{us:List Value}{vs:List V}
  (S:aC N ps scope) (hd:A.handled=none) (e0:BX P w K mg base A outer s H) (hl:vs.length=ps.length) (r:Vals vs us)
  (x:InCallC s s.heap.objs.size (bindL (envOfC qual scope s.heap.objs.size f cd).kindOf (ps.zip us) fun _=>none) (cellsFrom (s.heap.objs.size + 1) scope.names []) (bindC (envOfC qual scope s.heap.objs.size f cd).kindOf (ps.zip us) fun _=>none) s1) :
  Inv (kU CX P w K mg base N qual scope f cd A outer s H E) [] (start N vs) H s1:=by
 have hpl:ps.length<=N.length:=by have:=congrArg List.length S.pre;rw[List.length_take] at this;omega
 obtain⟨h1,tk,rfl,hk⟩:=x.done
 have noA:∀b:Addr,b∉(kU CX P w K mg base N qual scope f cd A outer s H E).ex:=fun b z=>absurd (show b∈([]:List Addr) from z) (by simp)
 refine⟨⟨e0.mod,S.kind,rfl,rfl,Nat.le_refl _,fun y z c h1 h2=>?_,fun y hy=>?_,fun y c _ h=>?_,fun _=>hd,Around.frames_deeper e0.frames,.inr ⟨rfl,rfl⟩,fun b z=>absurd z (noA b),e0.bs,e0.bsz,fun b _ _=>noA b,fun b z=>absurd z (noA b),e0.funs,e0.frf⟩,
  rfl,e0.bare,Un.kept hk,⟨_,x.toInCall.ns,fun i y v h1 h2 h3=>?_⟩,fun y c h=>⟨_,x.cell y c h⟩,e0.hok.fresh (Nat.le_refl _),fun y c h=>?_,fun p hp=>absurd (show p∈([]:List (Addr×Obj)) from hp) (by simp),e0.hok.kept hk,?_⟩
 ·exact name_of_addr x.apart (PySem.mem_of_lookup h1) (PySem.mem_of_lookup h2)
 ·have hy:scope.names.lookup y=some .cell\/scope.names.lookup y=some .free:=hy
  rcases hy with hy |hy
  ·exact tO hy
  ·exact absurd rfl (S.nofree _ (PySem.mem_of_lookup hy))
 ·exact Nat.le_of_lt (x.above y c (PySem.mem_of_lookup h))
 ·have hi:i < vs.length:=by
   unfold start at h2
   by_cases hi:i < vs.length
   ·exact hi
   ·rw[List.getElem?_append_right (by simpa using hi)] at h2
    rw[List.getElem?_replicate] at h2
    split at h2 <;> cases h2
  have ha:vs[i]? =some v:=by
   unfold start at h2
   rw[List.getElem?_append_left (by simpa using hi),List.getElem?_map] at h2
   cases e:vs[i]? with
   |none=>rw[e] at h2;cases h2
   |some a=>rw[e] at h2;cases h2;rfl
  obtain⟨u,hu,rv⟩:=r.get ha
  have hp:ps[i]? =some y:=by
   rw[<-S.pre,List.getElem?_take_of_lt (by omega)];exact h1
  have ndP:ps.Nodup:=by rw[<-S.pre];exact S.nd.sublist (List.take_sublist _ _)
  refine⟨u,rv,?_⟩
  rcases S.par y (List.mem_of_getElem? hp) with k |k
  ·exact .inl ⟨k,qI ndP hp hu k⟩
  ·obtain⟨c,e⟩:=tO (n:=s.heap.objs.size + 1) k
   refine .inr ⟨.inl k,c,e,?_⟩
   have q:=x.cell y c e
   rw[qm ndP hp hu (by show scope.names.lookup y≠_;rw[k];decide)] at q
   exact q
 ·exact e0.hok.fresh (Nat.le_of_lt (x.above y c (PySem.mem_of_lookup h)))
 ·unfold start
  show _=N.length
  rw[List.length_append,List.length_map,List.length_replicate]
  omega
theorem Di {CX:xF}{P:Program}{w:World}{K:PySem.W.Frag}{mg:Str->Option Value}{base:Heap}{k:Nat}{f:Addr}{name qual:Str}{params:Arguments}{body:List Stmt}{scope:Scope}{dV kV doc pm cdv ct oc:Value}{an od:Option Addr}
  {osl:Array (Option Value)} {N ps:List Str} {sp:Sp} (lk:K.lookup f=some ⟨oc,od,.func (PySem.W.fnOf name qual params body scope dV kV doc pm an cdv ct),osl⟩) (hcd:PySem.W.codeIn K cdv qual=true) (S:aC N ps scope)
  (len:∀vs H Q E,sp vs H Q E->vs.length=ps.length)
  (hbody:∀(A:Around) (outer:List Env) (s:Shared) (H:Hp) (vs:List V) (Q:VK) (E:XK),fA k (A.deeper (envOfC qual scope s.heap.objs.size f cdv))->sp vs H Q E->
   ∃t,qP (kU CX P w K mg base N qual scope f cdv A outer s H E) body t/\t {nx:=fun _ H'=>Q .non H',rt:=Q} (start N vs) H) :
  fW P w K mg base CX (k + 1) f (PySem.W.fnOf name qual params body scope dV kV doc pm an cdv ct) ps sp:=by
 refine⟨len,fun A outer s H args us vs Q E hr e0 hb r hsp=>?_⟩
 have hl:=len _ _ _ _ hsp
 have KX:K.In s.heap:=e0.mod.kin.keeps fun b o e=>(e0.bs b o e).1
 have lim:s.heap.NoLimit:=e0.mod.nolimit.keeps fun b o e=>(e0.bs b o e).1
 have hkind:∀y∈ps.zip us,scope.names.lookup y.1=some .local\/(scope.names.lookup y.1=some .cell/\((cellsFrom (s.heap.objs.size + 1) scope.names []).lookup y.1).isSome=true):=fun⟨n,v⟩ hy=>by
  rcases S.par n (List.of_mem_zip hy).1 with q |q
  ·exact .inl q
  ·exact .inr ⟨q,PySem.W.cellsFrom_some _ _ _ (.inl q)⟩
 refine codeAny_call_function hr.depth (KX _ _ lk) rfl S.co S.gen rfl (PySem.W.codeRec_of KX hcd) (hb _ _ _ _ ?_)
 refine wpAny_newFunctionEnv_cells S.kind hkind fun env he s1 x=>?_
 subst he
 refine⟨lim.keeps x.toInCall.keep,codeAny_func ?_⟩
 obtain⟨t,ht,hq⟩:=hbody A outer s H vs Q E (hr.deeper _) hsp
 have I:Inv (kU CX P w K mg base N qual scope f cdv A outer s H E) [] (start N vs) H s1:=xX S hr.hd e0 hl r x
 refine wpAny_mono (ht [] s1 (start N vs) H _ I hq) (fun fl s' hs=>?_) fun e s' hs=>hs
 have fin:∀{σ':St} {H':Hp} {v:V} {u:Value},Inv (kU CX P w K mg base N qual scope f cdv A outer s H E) [] σ' H' s'->RelV v u->Q v H'->CE outer P w H s Q u s':=
  fun {σ' H' v u} J rv q=>⟨v,H',J.os,J.bare,J.base,J.hok,rv,q⟩
 cases fl with
 |ret u=>
  obtain⟨v,σ',H',J,rv,q⟩:=hs
  exact fin J rv q
 |next=>
  obtain⟨σ',H',J,q⟩:=hs
  exact fin (v:=V.non) (u:=Value.none) J rfl q
 |brk=>
  obtain⟨_,_,_,q⟩:=hs
  exact False.elim q
 |cont=>
  obtain⟨_,_,_,q⟩:=hs
  exact False.elim q
end L2
namespace L2
open PySem PySem.Spec PyProof.Rows
section
variable {X:Cx}{x:Str}{p pos:Pos}{e:Expr}{es:List Expr}{t:TA}{id T:String}{r:List V->Hp->VK->Prop}
def IF (r:List V->Hp->VK->Prop)(t:TA):TE:=fun σ H Q=>t σ H fun vs H1=>r vs H1 Q
theorem jo (hc:c7 X (.builtin id) r)(hg:Gl X x)(hm:X.mg x=none)(hv:bootBuiltins x=some (.builtin id))(ha:PA X (e :: es) t)(hn:x≠"__name__":=by decide)(hdb:(x == ("__debug__":Str))=false:=by decide)
  (he:starEach (e :: es) X.env=(false,eval e X.env) :: starEach es X.env:=by rfl) (hpl:(backTo pos (starEach es X.env)).any (·.1)=false:=by rfl):PE X (.Call (.Name x p) (e :: es) [] pos) (IF r t):=by
 intro pins s σ H Q I h
 refine wpAny_Call_Name_kw (oM I hg hm hv ?_ hn hdb)
 exact PyProof.Rows.callWith_builtin1 (cZ (ha pos pins s σ H _ I h) fun us s1 ⟨vs,H1,I1,r1,q1⟩=>hc pins s1 σ H1 vs us Q I1 r1 q1) he hpl
theorem jk (hc:c7 X (.type T) r)(hg:Gl X x)(hm:X.mg x=none)(hv:bootBuiltins x=some (.type T))(ha:PA X (e :: es) t)(hn:x≠"__name__":=by decide)(hdb:(x == ("__debug__":Str))=false:=by decide)
  (he:starEach (e :: es) X.env=(false,eval e X.env) :: starEach es X.env:=by rfl) (hpl:(backTo pos (starEach es X.env)).any (·.1)=false:=by rfl):PE X (.Call (.Name x p) (e :: es) [] pos) (IF r t):=by
 intro pins s σ H Q I h
 refine wpAny_Call_Name_kw (oM I hg hm hv ?_ hn hdb)
 exact PyProof.Rows.callWith_type1 (cZ (ha pos pins s σ H _ I h) fun us s1 ⟨vs,H1,I1,r1,q1⟩=>hc pins s1 σ H1 vs us Q I1 r1 q1) he hpl
end
end L2
namespace HT
open PySem PyProof.Rows
section
open PySem.SeqAt
open PySem.AutoSeq1 (wpAny_loadPart')
open PySem.MeetsSeq PySem.MeetsSeq2 PySem.MeetsSeq3
end
section
variable {prog:Program}{w:World}{A:Around}{E:Value->Shared->Prop}{s:Shared}
theorem Cv {t b:Addr}{vs ws:List Value}{Q:Value->Shared->Prop}(ht:IsTup s.heap t vs.toArray)(hb:IsTup s.heap b ws.toArray)(hv:vs≠ [])
  (h1:ws= []->Q (.ref t) s) (h2:ws≠ []->Q (.ref s.heap.objs.size) {s with heap:=s.heap.push {cls:=.type "tuple",data:=.seq (vs ++ ws).toArray}})
  (hsz:vs.length + ws.length<=sizeLine):wpAny (model prog w) A (binaryOp .Add (.ref t) (.ref b)) Q E s:=by
 obtain⟨⟨cls,dd,data,sl⟩,ho,hc,n,hd⟩:=id ht
 obtain⟨⟨cls2,dd2,data2,sl2⟩,ho2,hc2,n2,hd2⟩:=id hb
 simp only at hc hd hc2 hd2
 subst hc hd hc2 hd2
 have e:vs.toArray ++ ws.toArray=(vs ++ ws).toArray:=by simp
 by_cases hw:ws= []
 ·exact concat_meets ⟨_,ho,rfl⟩ ⟨_,ho2,rfl⟩ noFill_tuple_add seq_tuple_add PySem.F.slot_tuple_add PySem.F.entry_tuple_add (PySem.F.args_tuple_add_2 _ _)
   (tuple_addW1 t b vs.toArray ws.toArray n n2 dd dd2 sl sl2 (by simpa using hv) (by simp[hw])) ⟨ho,ho2,h1 hw⟩
 ·refine concat_meets ⟨_,ho,rfl⟩ ⟨_,ho2,rfl⟩ noFill_tuple_add seq_tuple_add PySem.F.slot_tuple_add PySem.F.entry_tuple_add (PySem.F.args_tuple_add_2 _ _)
   (tuple_addW2 t b vs.toArray ws.toArray n n2 dd dd2 sl sl2 (by simpa using hv) (by simpa using hw) (by rw[List.size_toArray,List.size_toArray];exact hsz)) ⟨ho,ho2,?_⟩
  rw[e]
  exact h2 hw
def dC (n d:Nat):Option Int->Nat
 |none=>d
 |some v=>if v < 0 then (v + (n:Int)).toNat else min v.toNat n
theorem tG (n d:Nat):dC n d none=d:=rfl
theorem wG (n d k:Nat):dC n d (some (k:Int))=min k n:=by
 show (if (k:Int) < 0 then ((k:Int) + (n:Int)).toNat else min (k:Int).toNat n)=min k n
 rw[if_neg (by omega),Int.toNat_natCast]
theorem EF (n d:Nat)(hd:d<=n)(o:Option Int):dC n d o<=n:=by
 cases o with
 |none=>exact hd
 |some v=>
  show (if v < 0 then (v + (n:Int)).toNat else min v.toNat n)<=n
  by_cases hv:v < 0
  ·rw[if_pos hv];omega
  ·rw[if_neg hv];exact Nat.min_le_right _ _
theorem we (v:Int)(n d:Nat):(if v < 0 then max (v + (n:Int)) 0 else min v (n:Int))=((dC n d (some v):Nat):Int):=by
 show (if v < 0 then max (v + (n:Int)) 0 else min v (n:Int))=(((if v < 0 then (v + (n:Int)).toNat else min v.toNat n):Nat):Int)
 by_cases hv:v < 0
 ·simp only[if_pos hv];omega
 ·simp only[if_neg hv];omega
theorem va (lo hi:Option Int)(n:Nat):Builtin.Slice.sliceAdjust lo hi 1 (n:Int)=(((dC n 0 lo:Nat):Int),((dC n n hi:Nat):Int)):=by
 have h1:¬((1:Int) < 0):=by omega
 unfold Builtin.Slice.sliceAdjust
 simp only[h1,if_false]
 refine Prod.ext ?_ ?_
 ·cases lo with
  |none=>rfl
  |some v=>exact we v n 0
 ·cases hi with
  |none=>rfl
  |some v=>exact we v n n
theorem u5 (i j:Nat):Builtin.Slice.slicePlaces (i:Int) (j:Int) 1=j - i:=by
 unfold Builtin.Slice.slicePlaces
 have h1:(1:Int) > 0:=by omega
 simp only[h1,if_true,Int.ediv_one]
 split <;> omega
theorem n0 {v:Value}{o:Option Int}{Q:Option Int->Shared->Prop}(p:IsPart v o)(h:Q o s):wpAny (model prog w) A (Builtin.Slice.slicePartIndex v) Q E s:=by
 cases p with
 |none=>exact slicePart_none h
 |int i t=>exact slicePart_int h
theorem ju {sl:Addr}{vl vu:Value}{lo hi:Option Int}{n:Nat}{Q:Int×Int×Nat->Shared->Prop}(hs:s.heap.IsSliceOf sl vl vu .none)(pl:IsPart vl lo)(pu:IsPart vu hi)
  (h:Q (((dC n 0 lo:Nat):Int),1,dC n n hi - dC n 0 lo) s):wpAny (model prog w) A (Builtin.Slice.sliceApplied (.ref sl) (pure (n:Int))) Q E s:=by
 obtain⟨os,hos,hcs,hds⟩:=id hs
 unfold Builtin.Slice.sliceApplied Builtin.Slice.sliceFields
 refine wpAny_bind (wpAny_bind (wpAny_field hos hds (x:=vl) rfl (wpAny_bind (wpAny_field hos hds (x:=vu) rfl (wpAny_bind (wpAny_field hos hds (x:=.none) rfl (wpAny_pure ?_)))))))
 refine wpAny_bind (slicePart_none ?_)
 show wpAny _ _ (if ((1:Int) == 0)=true then _ else _) _ _ s
 rw[if_neg (by decide)]
 refine wpAny_bind (n0 pl (wpAny_bind (n0 pu (wpAny_bind (wpAny_pure ?_)))))
 show wpAny _ _ (match Builtin.Slice.sliceAdjust lo hi 1 (n:Int) with | (lo,hi)=>pure (lo,(1:Int),Builtin.Slice.slicePlaces lo hi 1)) _ _ s
 rw[va lo hi n]
 show wpAny _ _ (pure (((dC n 0 lo:Nat):Int),(1:Int),Builtin.Slice.slicePlaces ((dC n 0 lo:Nat):Int) ((dC n n hi:Nat):Int) 1)) _ _ s
 rw[u5]
 exact wpAny_pure h
theorem yW (xs:Array Value)(i k:Nat):((List.range k).filterMap fun (m:Nat)=>xs[((i:Int) + (m:Int) * 1).toNat]?).toArray=((xs.toList.drop i).take k).toArray:=by
 have e:(fun (m:Nat)=>xs[((i:Int) + (m:Int) * 1).toNat]?)=fun m=>xs[i + m]?:=by
  funext m
  have:((i:Int) + (m:Int) * 1).toNat=i + m:=by omega
  rw[this]
 rw[e]
 have:=pick_run xs i k
 rw[List.filterMap_map] at this
 have e2:((fun x=>xs[x]?) ∘ fun x=>i + x)=fun m=>xs[i + m]?:=rfl
 rw[e2] at this
 rw[this]
theorem lX {t sl:Addr}{items:Array Value}{vl vu:Value}{lo hi:Option Int}{Q:Value->Shared->Prop}(ht:IsTup s.heap t items)(hs:s.heap.IsSliceOf sl vl vu .none)(pl:IsPart vl lo)(pu:IsPart vu hi)
  (hw:¬(dC items.size 0 lo=0/\dC items.size items.size hi=items.size))
  (h:Q (.ref s.heap.objs.size) {s with heap:=s.heap.push {cls:=.type "tuple",data:=.seq ((items.toList.drop (dC items.size 0 lo)).take (dC items.size items.size hi - dC items.size 0 lo)).toArray}})
  (hsz:items.size<=sizeLine):wpAny (model prog w) A (getItem (.ref t) (.ref sl)) Q E s:=by
 have htake:sizeOk (.seq ((items.toList.drop (dC items.size 0 lo)).take (dC items.size items.size hi - dC items.size 0 lo)).toArray):=by
  show ((items.toList.drop (dC items.size 0 lo)).take (dC items.size items.size hi - dC items.size 0 lo)).toArray.size<=sizeLine
  rw[List.size_toArray,List.length_take,List.length_drop,Array.length_toList]
  omega
 have hj:dC items.size items.size hi<=items.size:=EF _ _ (Nat.le_refl _) hi
 obtain⟨os,hos,hcs,hds⟩:=id hs
 have hTs:s.TypeIs (.ref sl) "slice":=⟨os,hos,hcs⟩
 unfold getItem
 try with_reducible refine wpAny_holding ?_
 first |refine wpAny_bind (wpAny_pure ?_) |skip
 refine wpAny_bind (wpAny_sequenceKey ht.typeIs (by decide) ?_)
 refine wpAny_bind (wpAny_callSpecial?_slot (name:=Str.ofString "__getitem__") ht.typeIs PyProof.Rows.slot_tuple_getitem
  (wpAny_call_entry PyProof.Rows.slot_tuple_getitem ht.typeIs entry_tuple_getitem ?_ (args_tuple_getitem _ _)))
 show wpAny _ _ (Builtin.Tuple.tupleItemsOf (.ref t) >>= _) _ _ s
 refine wpAny_bind (tupleItemsOf_ ht ?_)
 refine wpAny_bind (wpAny_typeOf hTs ?_)
 rw[if_pos (by decide)]
 refine wpAny_bind (ju hs pl pu ?_)
 have hno:¬((((dC items.size 0 lo:Nat):Int) == 0 && (1:Int) == 1 && (dC items.size items.size hi - dC items.size 0 lo) == items.size)=true):=by
  intro q
  rw[Bool.and_eq_true,Bool.and_eq_true] at q
  have q1:((dC items.size 0 lo:Nat):Int)=0:=eq_of_beq q.1.1
  have q2:dC items.size items.size hi - dC items.size 0 lo=items.size:=eq_of_beq q.2
  exact hw ⟨by omega,by omega⟩
 show wpAny _ _ (if (((dC items.size 0 lo:Nat):Int) == 0 && (1:Int) == 1 && (dC items.size items.size hi - dC items.size 0 lo) == items.size)=true then _ else _) _ _ s
 rw[if_neg hno,yW]
 first
  |exact wpAny_bind (m:=Builtin.Tuple.tupleExact _) (wpAny_newObj_type (wpAny_pure ⟨_,rfl,wpAny_pure h⟩) htake)
  |exact wpAny_bind (m:=Builtin.Tuple.tupleExact _) (wpAny_newObj_type (wpAny_bind (wpAny_pure (wpAny_pure ⟨_,rfl,wpAny_pure h⟩))) htake)
  |exact wpAny_bind (wpAny_bind (m:=Builtin.Tuple.tupleExact _) (wpAny_newObj_type (wpAny_pure (wpAny_pure ⟨_,rfl,wpAny_pure h⟩)) htake))
  |exact wpAny_bind (wpAny_bind (m:=Builtin.Tuple.tupleExact _) (wpAny_newObj_type (wpAny_pure ⟨_,rfl,wpAny_pure h⟩) htake))
end
end HT
namespace L2
open PySem PySem.Spec PyProof.Rows
abbrev TO:=St->Hp->(Option Int->Hp->Prop)->Prop
def PO (X:Cx)(e:Option Expr)(t:TO):Prop:=
 ∀(pins:List (Addr×Obj)) (s:Shared) (σ:St) (H:Hp) (Q:Option Int->Hp->Prop),Inv X pins σ H s->t σ H Q->
  wpAny (model X.prog X.w) X.A (evalPart e X.env) (fun u s'=>∃o H',Inv X pins σ H' s'/\IsPart u o/\Q o H') X.xe s
def Bl:TO:=fun _ H Q=>Q none H
def Gk (t:TE):TO:=fun σ H Q=>t σ H fun x H1=>∃i,x=.int i/\Q (some i) H1
theorem intsAre_of {ns:List Int}:∀{us:List Value},Vals (ns.map V.int) us->IntsAre us ns:=by
 induction ns with
 |nil=>intro us r;rw[List.map_nil] at r;cases r;exact .nil
 |cons n ns ih=>
  intro us r
  rw[List.map_cons] at r
  cases r with
  |cons r1 r2=>
   obtain⟨t,e⟩:=r1
   subst e
   exact .cons n t (ih r2)
section
variable {X:Cx}{e:Expr}{te:TE}{lo hi:Option Expr}{tl th:TO}{pos p2:Pos}
theorem CH:PO X none Bl:=by
 intro pins s σ H Q I h
 rw[evalPart_none]
 exact wpAny_pure ⟨none,H,I,.none,h⟩
theorem Bs (h:PE X e te):PO X (some e) (Gk te):=by
 intro pins s σ H Q I hw
 rw[evalPart_some]
 refine cZ (h pins s σ H _ I hw) fun u s1 ⟨x,H1,I1,r1,q1⟩=>?_
 obtain⟨i,rfl,q⟩:=q1
 obtain⟨t,rfl⟩:=r1
 exact⟨some i,H1,I1,.int i t,q⟩
def He (X:Cx)(r:V->Option Int->Option Int->Hp->VK->Prop):Prop:=
 ∀(pins:List (Addr×Obj)) (s:Shared) (σ:St) (H:Hp) (x:V) (v vl vu:Value) (lo hi:Option Int) (sl:Addr) (Q:VK),Inv X pins σ H s->RelV x v->s.heap.IsSliceOf sl vl vu .none->IsPart vl lo->IsPart vu hi->r x lo hi H Q->
  ∃T id,typeLookup (.type T) "__getitem__"=pure (some (.builtin id))/\s.TypeIs v T/\wpAny (model X.prog X.w) X.A (getItem v (.ref sl)) (EP X pins σ Q) X.xe s
def Jc (r:V->Option Int->Option Int->Hp->VK->Prop)(te:TE)(tl th:TO):TE:=fun σ H Q=>te σ H fun x H1=>tl σ H1 fun l H2=>th σ H2 fun u H3=>r x l u H3 Q
theorem zR {r:V->Option Int->Option Int->Hp->VK->Prop}(hr:He X r)(he:PE X e te)(hl:PO X lo tl)(hu:PO X hi th):PE X (.Subscript e (.Slice lo hi none p2) pos) (Jc r te tl th):=by
 intro pins s σ H Q I h
 refine Subscript_ (cZ (he pins s σ H _ I h) fun v s1 ⟨x,H1,I1,r1,q1⟩=>?_)
 refine wpAny_Slice (cZ (hl pins s1 σ H1 _ I1 q1) fun vl s2 ⟨l,H2,I2,pl,q2⟩=>cZ (hu pins s2 σ H2 _ I2 q2) fun vu s3 ⟨u,H3,I3,pu,q3⟩=>?_)
 rw[evalPart_none]
 refine wpAny_pure ?_
 have I4:Inv X pins σ H3 {s3 with heap:=s3.heap.push {cls:=.type "slice",data:=.fields #[vl,vu,.none]}}:=I3.kept (t':=s3.toks) fun b ob q=>Heap.get?_push_of_some _ q
 obtain⟨T,id,hT,ht,hg⟩:=hr pins {s3 with heap:=s3.heap.push {cls:=.type "slice",data:=.fields #[vl,vu,.none]}} σ H3 x v vl vu l u s3.heap.objs.size Q I4 r1 (Heap.IsSliceOf.new ..) pl pu q3
 show wpAny (model X.prog X.w) X.A (subscriptTail e (.Slice lo hi none p2) v (.ref s3.heap.objs.size)) (EP X pins σ Q) X.xe {s3 with heap:=s3.heap.push {cls:=.type "slice",data:=.fields #[vl,vu,.none]}}
 exact tail_any (ops:=[.ref s3.heap.objs.size,v]) ht hT hg (by with_unfolding_all rfl)
def pN (xs:List V)(lo hi:Option Int):List V:=(xs.drop (HT.dC xs.length 0 lo)).take (HT.dC xs.length xs.length hi - HT.dC xs.length 0 lo)
theorem m6 (xs:List V)(lo hi:Option Int):(pN xs lo hi).length<=xs.length:=by
 unfold pN
 rw[List.length_take,List.length_drop]
 omega
def HN (K:PySem.W.Frag):V->Option Int->Option Int->Hp->VK->Prop:=fun x lo hi H Q=>∃a xs,x=.ref a/\eh K H a xs/\
 ¬(HT.dC xs.length 0 lo=0/\HT.dC xs.length xs.length hi=xs.length)/\∀p,H p=none->Q (.ref p) (upd H p (.tup (pN xs lo hi)))
theorem EZ:He X (HN X.K):=by
 intro pins s σ H x v vl vu lo hi sl Q I rx hs pl pu h
 obtain⟨a,xs,rfl,hx,hw,q⟩:=h
 cases rx
 obtain⟨its,r,ht,hz⟩:=I.tuple hx
 have hlen:its.toArray.size=xs.length:=by rw[List.size_toArray];exact r.length.symm
 refine⟨"tuple",_,PyProof.Rows.slot_tuple_getitem.lookup,ht.typeIs,?_⟩
 refine HT.lX ht hs pl pu (by rw[hlen];exact hw) ?_ (by rw[hlen];exact hz)
 rw[hlen]
 refine⟨.ref s.heap.objs.size,_,I.laid (t':=s.toks) (o:=.tup (pN xs lo hi)) (fun b ob q=>Heap.get?_push_of_some _ q) (Nat.le_refl _) ?_,rfl,q _ (I.hok.fresh (Nat.le_refl _))⟩
 exact⟨Nat.le_trans (m6 xs lo hi) hz,_,(r.drop (HT.dC xs.length 0 lo)).take (HT.dC xs.length xs.length hi - HT.dC xs.length 0 lo),pQ.new _ _⟩
def Gz (K:PySem.W.Frag):R2:=fun x y H Q=>∃a b xs ys,x=.ref a/\y=.ref b/\eh K H a xs/\eh K H b ys/\xs≠ []/\xs.length + ys.length<=sizeLine/\
 (ys= []->Q (.ref a) H)/\(ys≠ []->∀p,H p=none->Q (.ref p) (upd H p (.tup (xs ++ ys))))
theorem Vals.nil_iff {xs:List V}{us:List Value}(r:Vals xs us):us= []↔xs= []:=by
 cases r with
 |nil=>simp
 |cons _ _=>simp
theorem CB:mh X (binaryOp .Add) (Gz X.K):=by
 intro pins s σ H x y v u Q I rx ry h
 obtain⟨a,b,xs,ys,rfl,rfl,ha,hb,hx,hz,q1,q2⟩:=h
 cases rx
 cases ry
 obtain⟨its,r1,p1,_⟩:=I.tuple ha
 obtain⟨its2,r2,p2,_⟩:=I.tuple hb
 refine HT.Cv p1 p2 (fun z=>hx (r1.nil_iff.mp z)) (fun z=>⟨.ref a,H,I,rfl,q1 (r2.nil_iff.mp z)⟩) (fun z=>?_) (by rw[<-r1.length,<-r2.length];exact hz)
 refine⟨.ref s.heap.objs.size,_,I.laid (t':=s.toks) (o:=.tup (xs ++ ys)) (fun b ob q=>Heap.get?_push_of_some _ q) (Nat.le_refl _) ?_,rfl,q2 (fun w=>z (r2.nil_iff.mpr w)) _ (I.hok.fresh (Nat.le_refl _))⟩
 exact⟨by rw[List.length_append];exact hz,_,r1.append r2,pQ.new _ _⟩
end
end L2
namespace L2
open PySem PySem.Spec PyProof.Rows
def uF (n:Nat)(i:Int):Option Nat:=if 0<=i then (if i < n then some i.toNat else none) else if -(n:Int)<=i then some (i + n).toNat else none
def lF {α:Type}(xs:List α)(i:Int):Option α:=(uF xs.length i).bind fun j=>xs[j]?
theorem wZ {n:Nat}{i:Int}{j:Nat}(h:uF n i=some j):seqIndex? i n=some j/\j < n/\ -(n:Int)<=i/\i < n:=by
 unfold uF at h
 by_cases h0:0<=i
 ·rw[if_pos h0] at h
  by_cases h1:i < n
  ·rw[if_pos h1] at h
   have e:i.toNat=j:=Option.some.inj h
   exact⟨by rw[seqIndex_of h0 h1,e],by omega,by omega,h1⟩
  ·rw[if_neg h1] at h;cases h
 ·rw[if_neg h0] at h
  by_cases h1: -(n:Int)<=i
  ·rw[if_pos h1] at h
   have e:(i + n).toNat=j:=Option.some.inj h
   exact⟨by rw[seqIndex_neg (by omega) h1,e],by omega,h1,by omega⟩
  ·rw[if_neg h1] at h;cases h
theorem q8 {α:Type}{xs:List α}{i:Int}{v:α}(h:lF xs i=some v):∃j,seqIndex? i xs.length=some j/\xs[j]? =some v/\j < xs.length/\ -(xs.length:Int)<=i/\i < xs.length:=by
 unfold lF at h
 cases e:uF xs.length i with
 |none=>rw[e] at h;cases h
 |some j=>
  rw[e] at h
  obtain⟨h1,h2,h3,h4⟩:=wZ e
  exact⟨j,h1,h,h2,h3,h4⟩
theorem ku {α:Type}{xs:List α}{j:Nat}{v:α}(h:xs[j]? =some v):lF xs (j:Int)=some v:=by
 have hj:j < xs.length:=(List.getElem?_eq_some_iff.mp h).1
 have e:uF xs.length (j:Int)=some j:=by
  unfold uF
  rw[if_pos (by omega),if_pos (by omega)];simp
 unfold lF;rw[e];exact h
def wN (b:Expr):Prop:=∀o i,subscripted b false o i=operate [o,i] (getItem o i)
def Ae (X:Cx)(r:R2):Prop:=
 ∀(value slice:Expr) (pins:List (Addr×Obj)) (s:Shared) (σ:St) (H:Hp) (x y:V) (v u:Value) (Q:VK),Inv X pins σ H s->RelV x v->RelV y u->r x y H Q->
  subscripted slice false v u=operate [v,u] (getItem v u)->wpAny (model X.prog X.w) X.A (subscriptTail value slice v u) (EP X pins σ Q) X.xe s
def IV (X:Cx)(id:String)(r:V->List V->Hp->VK->Prop):Prop:=
 ∀(pins:List (Addr×Obj)) (s:Shared) (σ:St) (H:Hp) (x:V) (xs:List V) (v:Value) (us:List Value) (Q:VK),Inv X pins σ H s->RelV x v->Vals xs us->r x xs H Q->
  wpAny (model X.prog X.w) X.A (call (.builtin id) (v :: us)) (EP X pins σ Q) X.xe s
section
variable {X:Cx}{a b:Expr}{ta tb:TE}{pos:Pos}
theorem Ae.or {r r':R2}(h:Ae X r)(h':Ae X r'):Ae X (fun x y H Q=>r x y H Q\/r' x y H Q):=by
 intro value slice pins s σ H x y v u Q I rx ry q hs
 rcases q with q |q
 ·exact h value slice pins s σ H x y v u Q I rx ry q hs
 ·exact h' value slice pins s σ H x y v u Q I rx ry q hs
theorem k9 {r:R2}(hr:Ae X r)(ha:PE X a ta)(hb:PE X b tb)(hs:wN b):PE X (.Subscript a b pos) (Hf r ta tb):=by
 intro pins s σ H Q I h
 exact Subscript_ (D1 ha hb I h fun v u s2 x y H2 I2 rx ry q=>hr a b pins s2 σ H2 x y v u Q I2 rx ry q (hs _ _))
def Fe (K:PySem.W.Frag):R2:=fun x y H Q=>∃p xs i v,x=.ref p/\y=.int i/\hZ K H p xs/\lF xs i=some v/\Q v H
def GR (K:PySem.W.Frag):R2:=fun x y H Q=>∃p xs i v,x=.ref p/\y=.int i/\eh K H p xs/\lF xs i=some v/\Q v H
def GL:R2:=fun x y H Q=>∃z i c,x=.str z/\y=.int i/\z.length<=sizeLine/\lF z.cps.toList i=some c/\Q (.str ⟨#[c]⟩) H
theorem gP:Ae X (Fe X.K):=by
 intro value slice pins s σ H x y v u Q I rx ry h hs
 obtain⟨p,xs,i,z,rfl,rfl,hq,he,q⟩:=h
 cases rx
 obtain⟨t,rfl⟩:=ry
 obtain⟨its,r,pl,hz⟩:=I.list hq
 obtain⟨j,h1,h2,h3,h4,h5⟩:=q8 he
 obtain⟨w,ew,rw'⟩:=r.get h2
 have hl:=r.length
 have hn:=mF
 have fin:EP X pins σ Q w s:=⟨z,H,I,rw',q⟩
 by_cases h0:0<=i
 ·have hj:i.toNat=j:=by
   rw[seqIndex_of h0 h5] at h1
   exact Option.some.inj h1
  exact item_listR pl.isList h0 (by omega) (by rw[hj];simpa using ew) fin hs
 ·have hj:(i + (its.toArray.size:Int)).toNat=j:=by
   rw[seqIndex_neg (by omega) h4] at h1
   rw[List.size_toArray,<-hl]
   exact Option.some.inj h1
  exact subscriptTail_builtinR (x:=w) pl.isList.typeIs slot_list_getitem.lookup
   (wpAny_getItem_list_neg (Q:=fun r s'=>r=w/\EP X pins σ Q r s') pl.isList (by omega) (by rw[List.size_toArray] <;> omega) (by omega) (by rw[hj];simpa using ew) ⟨rfl,fin⟩) hs
theorem ES:Ae X (GR X.K):=by
 intro value slice pins s σ H x y v u Q I rx ry h hs
 obtain⟨p,xs,i,z,rfl,rfl,hq,he,q⟩:=h
 cases rx
 obtain⟨t,rfl⟩:=ry
 obtain⟨its,r,pl,hz⟩:=I.tuple hq
 obtain⟨j,h1,h2,h3,h4,h5⟩:=q8 he
 obtain⟨w,ew,rw'⟩:=r.get h2
 have hl:=r.length
 have hn:=mF
 have fin:EP X pins σ Q w s:=⟨z,H,I,rw',q⟩
 exact subscriptTail_builtinR (x:=w) pl.typeIs slot_tuple_getitem.lookup
  (getItem_tuple (j:=j) (Q:=fun r s'=>r=w/\EP X pins σ Q r s') pl (by omega) (by omega) (by rw[List.size_toArray,<-hl];exact h1) (by simpa using ew) ⟨rfl,fin⟩) hs
theorem Eo:Ae X GL:=by
 intro value slice pins s σ H x y v u Q I rx ry h hs
 obtain⟨z,i,c,rfl,rfl,hz,he,q⟩:=h
 obtain⟨t,rfl⟩:=rx
 obtain⟨t',rfl⟩:=ry
 obtain⟨j,h1,h2,h3,h4,h5⟩:=q8 he
 have hl:z.cps.toList.length=z.length:=by simp[Str.length]
 rw[hl] at h1 h4 h5
 have hn:=mF
 exact tail_any (typeIs_str s z t) slot_str_getitem.lookup (getItem_str (c:=c) (by
  have e1:decide (i < -(2 ^ 63:Int))=false:=decide_eq_false (by omega)
  have e2:decide (i>=2 ^ 63)=false:=decide_eq_false (by omega)
  rw[e1,e2,Bool.or_false]) (by rw[h1];simpa using h2) ⟨.str ⟨#[c]⟩,H,I.tok _,⟨_,rfl⟩,q⟩) hs
def IT (K:PySem.W.Frag):R2:=fun x y H Q=>Fe K x y H Q\/GR K x y H Q\/GL x y H Q
theorem aE:Ae X (IT X.K):=gP.or (ES.or Eo)
theorem uW (its:List Value)(n j:Nat)(u:Value):Obj.mapSeq (·.setIfInBounds j u) {cls:=.type "list",data:=.seq its.toArray n}={cls:=.type "list",data:=.seq (its.set j u).toArray n}:=by
 simp[Obj.mapSeq]
theorem Inv.lst {pins:List (Addr×Obj)}{σ:St}{H:Hp}{s:Shared}{p:Addr}{xs:List V}(I:Inv X pins σ H s)(h:H p=some (.lst xs)) :
  ∃(its:List Value) (n:Nat),Vals xs its/\s.heap.get? p=some {cls:=.type "list",data:=.seq its.toArray n}/\xs.length<=sizeLine:=by
 obtain⟨z,its,n,r,e⟩:=I.hok p _ h
 exact⟨its,n,r,e,z⟩
theorem Inv.lstUpd {pins:List (Addr×Obj)}{σ:St}{H:Hp}{s:Shared}{p:Addr}{xs ys:List V}{its its':List Value}{n n':Nat}{f:Obj->Obj}(I:Inv X pins σ H s)(h:H p=some (.lst xs))
  (ho:s.heap.get? p=some {cls:=.type "list",data:=.seq its.toArray n}) (hf:f {cls:=.type "list",data:=.seq its.toArray n}={cls:=.type "list",data:=.seq its'.toArray n'}) (r:Vals ys its') (hz:ys.length<=sizeLine) (t:Nat) :
  Inv X pins σ (upd H p (.lst ys)) {s with heap:=s.heap.update p f,toks:=t}:=by
 have e:(s.heap.update p f).get? p=some {cls:=.type "list",data:=.seq its'.toArray n'}:=by
  rw[Heap.get?_update_self f ho (by rw[hf] <;> rfl),hf]
 refine I.write (x:=p) (e:=p) (by rw[h];trivial) (.inl rfl) (fun b u hb q=>(Heap.get?_update_other _ _ (Ne.symm hb)).trans q) ⟨_,e⟩ ?_
 exact⟨hz,its',n',r,e⟩
def GA:V->V->V->Hp->(Hp->Prop)->Prop:=fun o i v H Q=>∃p xs k j,o=.ref p/\i=.int k/\H p=some (.lst xs)/\uF xs.length k=some j/\Q (upd H p (.lst (xs.set j v)))
theorem set_list:AH X GA:=by
 intro pins s σ H o i v ov iv u Q I ro ri rv h
 obtain⟨p,xs,k,j,rfl,rfl,hp,hj,q⟩:=h
 cases ro
 obtain⟨t,rfl⟩:=ri
 obtain⟨its,n,r,ho,hz⟩:=I.lst hp
 obtain⟨h1,h2,h3,h4⟩:=wZ hj
 have hl:=r.length
 have hn:=mF
 have I':Inv X pins σ (upd H p (.lst (xs.set j v))) {s with heap:=s.heap.update p (Obj.mapSeq (·.setIfInBounds j u))}:=
  I.lstUpd hp ho (uW its n j u) (r.set rv j) (by rw[List.length_set];exact hz) s.toks
 by_cases h0:0<=k
 ·have hk:k.toNat=j:=by
   rw[seqIndex_of h0 h4] at h1
   exact Option.some.inj h1
  exact PySem.W.ki_setAt ho h0 (by omega) (by rw[List.size_toArray,<-hl];exact h4) (by rw[hk];exact⟨_,I',q⟩)
 ·have hk:(k + (its.toArray.size:Int)).toNat=j:=by
   rw[seqIndex_neg (by omega) h3] at h1
   rw[List.size_toArray,<-hl]
   exact Option.some.inj h1
  exact PySem.W.ki_setBack ho (by omega) (by rw[List.size_toArray,<-hl];exact h3) (by omega) (by rw[hk];exact⟨_,I',q⟩)
theorem rA (lo hi:Option Int)(n:Nat):(sliceBounds lo hi none n).1=((HT.dC n 0 lo:Nat):Int)/\(sliceBounds lo hi none n).2.1=((HT.dC n n hi:Nat):Int)/\(sliceBounds lo hi none n).2.2=1:=by
 refine⟨?_,?_,rfl⟩
 ·cases lo with
  |none=>simp[sliceBounds,HT.dC]
  |some i=>
   simp only[sliceBounds,HT.dC,Option.getD_none,show (1:Int) > 0 by decide,if_true]
   by_cases h:i < 0
   ·simp only[h,if_true] <;> omega
   ·simp only[h,if_false] <;> omega
 ·cases hi with
  |none=>simp[sliceBounds,HT.dC]
  |some i=>
   simp only[sliceBounds,HT.dC,Option.getD_none,show (1:Int) > 0 by decide,if_true]
   by_cases h:i < 0
   ·simp only[h,if_true] <;> omega
   ·simp only[h,if_false] <;> omega
theorem pL (its:List Value)(lo hi:Option Int):slicePick its.toArray lo hi none=((its.drop (HT.dC its.length 0 lo)).take (HT.dC its.length its.length hi - HT.dC its.length 0 lo)).toArray:=by
 obtain⟨h1,h2,h3⟩:=rA lo hi its.toArray.size
 unfold slicePick
 rw[h1,h2,h3]
 simp only[sliceRange_one,pick_run,List.size_toArray] <;> rfl
def HV (K:PySem.W.Frag):V->Option Int->Option Int->Hp->VK->Prop:=fun x lo hi H Q=>∃a xs,x=.ref a/\hZ K H a xs/\∀p,H p=none->Q (.ref p) (upd H p (.lst (pN xs lo hi)))
theorem Ha:He X (HV X.K):=by
 intro pins s σ H x v vl vu lo hi sl Q I rx hs pl pu h
 obtain⟨a,xs,rfl,hx,q⟩:=h
 cases rx
 obtain⟨its,r,ht,hz⟩:=I.list hx
 have hlen:=r.length
 refine⟨"list",_,slot_list_getitem.lookup,ht.isList.typeIs,?_⟩
 refine wpAny_getItem_list_slice ht.isList hs pl pu .none (by simp) ?_ (by rw[List.size_toArray] <;> omega)
 rw[pL,<-hlen]
 refine⟨.ref s.heap.objs.size,_,I.laid (t':=s.toks) (o:=.lst (pN xs lo hi)) (fun b ob q=>Heap.get?_push_of_some _ q) (Nat.le_refl _) ?_,rfl,q _ (I.hok.fresh (Nat.le_refl _))⟩
 exact⟨Nat.le_trans (m6 xs lo hi) hz,_,0,(r.drop (HT.dC xs.length 0 lo)).take (HT.dC xs.length xs.length hi - HT.dC xs.length 0 lo),Heap.get?_push_size _ rfl⟩
theorem eS:c7 X (.type "list") (fun xs H Q=>∃p ys,xs= [.ref p]/\(hZ X.K H p ys\/eh X.K H p ys)/\∀l,H l=none->Q (.ref l) (upd H l (.lst ys))):=by
 intro pins s σ H xs us Q I r h
 obtain⟨p,ys,rfl,hq,q⟩:=h
 obtain⟨u,rfl,rx⟩:=vals1 r
 cases rx
 have fin:∀(its:List Value),Vals ys its->ys.length<=sizeLine->∀(h':Heap) (c':Nat),(∀b o',s.heap.get? b=some o'->h'.get? b=some o')->
   h'.get? s.heap.objs.size=some {cls:=.type "list",dict:=none,data:=.seq its.toArray c',slots:=#[]}->EP X pins σ Q (.ref s.heap.objs.size) {s with heap:=h'}:=fun its r' hz h' c' kp e=>
  ⟨.ref s.heap.objs.size,_,I.laid (t':=s.toks) kp (Nat.le_refl _) (show cJ X.prog X.w _ h' _ (.lst ys) from⟨hz,its,c',r',e⟩),rfl,q _ (I.hok.fresh (Nat.le_refl _))⟩
 rcases hq with hq |hq
 ·obtain⟨its,r',pl,hz⟩:=I.list hq
  have hlen:=r'.length
  obtain⟨o,ho,hc,n,hd⟩:=pl.isList
  exact call_list_seq p (.inl rfl) ho hc hd (fun h' c' kp e=>fin its r' hz h' c' kp e) (by simp only[List.size_toArray] <;> omega)
 ·obtain⟨its,r',pl,hz⟩:=I.tuple hq
  have hlen:=r'.length
  obtain⟨o,ho,hc,n,hd⟩:=pl
  exact call_list_seq p (.inr rfl) ho hc hd (fun h' c' kp e=>fin its r' hz h' c' kp e) (by simp only[List.size_toArray] <;> omega)
theorem bL:c7 X (.type "tuple") (fun xs H Q=>∃p ys,xs= [.ref p]/\((hZ X.K H p ys/\∀l,H l=none->Q (.ref l) (upd H l (.tup ys)))\/(eh X.K H p ys/\Q (.ref p) H))):=by
 intro pins s σ H xs us Q I r h
 obtain⟨p,ys,rfl,h⟩:=h
 obtain⟨u,rfl,rx⟩:=vals1 r
 cases rx
 rcases h with⟨hq,q⟩ | ⟨hq,q⟩
 ·obtain⟨its,r',pl,hz⟩:=I.list hq
  have hlen:=r'.length
  refine call_tuple_list pl.isList (fun h' kp=>?_) (by simp only[List.size_toArray] <;> omega)
  have I1:Inv X pins σ H {s with heap:=h'}:=I.kept (t':=s.toks) kp
  have I2:Inv X pins σ (upd H h'.objs.size (.tup ys)) {s with heap:=h'.push {cls:=.type "tuple",data:=.seq its.toArray}}:=
   I1.laid (t':=s.toks) (fun b o e=>Heap.get?_push_of_some _ e) (Nat.le_refl _) (show cJ X.prog X.w _ _ _ (.tup ys) from⟨hz,its,r',pQ.new _ _⟩)
  exact⟨.ref h'.objs.size,_,I2,rfl,q _ (I1.hok.fresh (Nat.le_refl _))⟩
 ·obtain⟨its,r',pl,hz⟩:=I.tuple hq
  exact call_tuple_same pl ⟨.ref p,H,I,rfl,q⟩
def IS (K:PySem.W.Frag)(T:String)(x:V)(H:Hp):Prop:=match x with
 | .str _=>T="str"
 | .int _=>T="int"
 | .ref p=>(T="list"/\∃xs,hZ K H p xs)\/(T="tuple"/\∃o,K.lookup p=some o/\o.cls=.type "tuple"/\o.dict=none)\/
   (T="dict"/\((∃kvs,H p=some (.dK kvs))\/∃kvs,H p=some (.dT kvs)))\/(T="set"/\∃S n,H p=some (.set S n))
 |_=>False
theorem Ea {pins:List (Addr×Obj)}{σ:St}{H:Hp}{s:Shared}{T:String}{x:V}{v:Value}(I:Inv X pins σ H s)(r:RelV x v)(ty:IS X.K T x H) :
  s.TypeIs v T/\∀a,v=.ref a->∃ob,s.heap.get? a=some ob/\ob.dict=none:=by
 cases x with
 |str z=>
  obtain⟨t,rfl⟩:=r
  cases (show T="str" from ty)
  exact⟨typeIs_str s z t,fun _ e=>nomatch e⟩
 |int i=>
  obtain⟨t,rfl⟩:=r
  cases (show T="int" from ty)
  exact⟨typeIs_int s i t,fun _ e=>nomatch e⟩
 |ref p=>
  cases r
  rcases ty with⟨rfl,xs,hq⟩ | ⟨rfl,o,hk,hc,hd⟩ | ⟨rfl,hk⟩ | ⟨rfl,S,n,hk⟩
  ·obtain⟨its,_,pl,_⟩:=I.list hq
   refine⟨pl.isList.typeIs,fun a e=>?_⟩
   cases e
   obtain⟨o,n,e,c,hd,_⟩:=pl
   exact⟨o,e,hd⟩
  ·refine⟨⟨o,I.kIn p o hk,hc⟩,fun a e=>?_⟩
   cases e
   exact⟨o,I.kIn _ o hk,hd⟩
  ·have z:∃o,s.heap.get? p=some o/\o.ExactDict:=by
    rcases hk with⟨kvs,hk⟩ | ⟨kvs,hk⟩
    ·obtain⟨_,_,_,_,o,_,_,e,ex,_⟩:=I.hok p _ hk
     exact⟨o,e,ex⟩
    ·obtain⟨_,_,_,_,o,_,_,e,ex,_⟩:=I.hok p _ hk
     exact⟨o,e,ex⟩
   obtain⟨o,e,ex⟩:=z
   refine⟨⟨o,e,ex.1⟩,fun a e2=>?_⟩
   cases e2
   exact⟨o,e,ex.2.1⟩
  ·obtain⟨o,_,_,_,e,ex,_⟩:=I.hok p _ hk
   refine⟨⟨o,e,ex.1⟩,fun a e2=>?_⟩
   cases e2
   exact⟨o,e,ex.2.1⟩
 |_=>exact False.elim ty
def IW (K:PySem.W.Frag)(T:String)(r:V->List V->Hp->VK->Prop)(to:TE)(t:TA):TE:=fun σ H Q=>to σ H fun x H1=>IS K T x H1/\t σ H1 fun xs H2=>r x xs H2 Q
variable {o e:Expr}{es:List Expr}{to:TE}{t:TA}{name:Str}{apos cpos:Pos}{T id:String}{r:V->List V->Hp->VK->Prop}
theorem y1 (pa:PlainAttrs T)(slot:Slot T name id)(hty:typeOf (.builtin id)=pure (.type "method_descriptor"))(hm:IV X id r)(ho:PE X o to)(ha:PA X (e :: es) t)
  (hbase:attributeBase o name X.env (eval o X.env)=eval o X.env:=by rfl)
  (hfew:((backTo cpos (starEach (e :: es) X.env)).all (fun x=> !x.1) && (backToKw cpos (keywordEach [] X.env)).all (fun x=>x.1.isSome)
   && decide ((e :: es).length + ([]:List Keyword).length + (if ([]:List Keyword).isEmpty then 0 else 1) < 30))=true:=by rfl)
  (hline:(apos.endLine == cpos.line)=true:=by rfl) (hs:starEach (e :: es) X.env=(false,eval e X.env) :: starEach es X.env:=by rfl) (hplain:(backTo cpos (starEach es X.env)).any (·.1)=false:=by rfl) :
  PE X (.Call (.Attribute o name apos) (e :: es) [] cpos) (IW X.K T r to t):=by
 intro pins s σ H Q I h
 refine wpAny_Call_method_late hbase hfew hline rfl (cZ (ho pins s σ H _ I h) fun v s1 ⟨x,H1,I1,r1,ty,q1⟩=>?_)
 obtain⟨h1,h2⟩:=Ea I1 r1 ty
 refine⟨T,id,pa,slot,hty,h1,h2,?_⟩
 have hA:=ha cpos pins s1 σ H1 _ I1 q1
 rw[hs] at hA ⊢
 refine Calls.callWith_builtin (by show (false || (backTo cpos (starEach es X.env)).any (·.1))=false;rw[hplain] <;> rfl) (Calls.evalArgs_plain ?_)
 exact cZ hA fun us s2 ⟨vs,H2,I2,r2,q2⟩=>hm pins s2 σ H2 x vs v us Q I2 r1 r2 q2
end
end L2
namespace L2
open PySem PySem.Spec PyProof.Rows
def Hm (X:Cx)(id:String)(r:V->List V->Hp->VK->Prop):Prop:=
 ∀(pins:List (Addr×Obj)) (s:Shared) (σ:St) (H:Hp) (x:V) (xs:List V) (v:Value) (us:List Value) (Q:VK),Inv X pins σ H s->RelV x v->Vals xs us->r x xs H Q->
  wpAny (model X.prog X.w) X.A (call (.builtin id) (v :: us)) (EP X pins σ Q) X.xe s
theorem Vals.one:∀{x:V} {us:List Value},Vals [x] us->∃u,us= [u]/\RelV x u
 |_,_,.cons r .nil=>⟨_,rfl,r⟩
theorem Vals.eraseIdx:∀{xs:List V} {us:List Value} (i:Nat),Vals xs us->Vals (xs.eraseIdx i) (us.eraseIdx i)
 |_,_,_,.nil=>.nil
 |_,_,0,.cons _ t=>t
 |_,_,i + 1,.cons r t=>.cons r (Vals.eraseIdx i t)
theorem Vals.rep {xs:List V}{us:List Value}(h:Vals xs us):∀k:Nat,Vals (List.replicate k xs).flatten (List.replicate k us).flatten
 | 0=>.nil
 |k + 1=>by
  rw[List.replicate_succ,List.replicate_succ,List.flatten_cons,List.flatten_cons]
  exact Vals.append h (Vals.rep h k)
theorem qt {α:Type}:∀(l:List α) (i:Nat),(l.eraseIdx i).length<=l.length
 | [],_=>Nat.le_refl _
 |_ :: _,0=>Nat.le_succ _
 |_ :: r,i + 1=>Nat.succ_le_succ (qt r i)
theorem foldl_rep (its:List Value):∀(k:Nat) (acc:List Value),
  List.foldl (fun x1 x2=>x1 ++ x2) acc.toArray (List.replicate k its.toArray)=(acc ++ (List.replicate k its).flatten).toArray
 | 0,acc=>by simp
 |k + 1,acc=>by
  have e:acc.toArray ++ its.toArray=(acc ++ its).toArray:=by simp
  have e2:(acc ++ its) ++ (List.replicate k its).flatten=acc ++ (List.replicate (k + 1) its).flatten:=by
   rw[List.replicate_succ,List.flatten_cons,List.append_assoc]
  rw[<-e2,<-foldl_rep its k (acc ++ its),<-e,List.replicate_succ,List.foldl_cons]
section
variable {X:Cx}{pins:List (Addr×Obj)}{σ:St}{H:Hp}{s:Shared}{l b:Addr}{xs ys zs:List V}
theorem Inv.lset {its its':List Value}{n:Nat}{f:Array Value->Array Value}{t':Nat}(I:Inv X pins σ H s)(hH:H l=some (.lst xs))
  (e:s.heap.get? l=some {cls:=.type "list",data:=.seq its.toArray n}) (hf:f its.toArray=its'.toArray) (hv:Vals ys its') (hz:ys.length<=sizeLine) :
  Inv X pins σ (upd H l (.lst ys)) {s with heap:=s.heap.update l (Obj.mapSeq f),toks:=t'}:=by
 have q:=PySem.IsL.update e f
 rw[hf] at q
 refine I.write (x:=l) (e:=l) (by rw[hH];exact trivial) (.inl rfl) (fun b' u hb hu=>(Heap.get?_update_other s.heap (Obj.mapSeq f) (Ne.symm hb)).trans hu) ⟨_,q⟩ ?_
 exact⟨hz,its',_,hv,q⟩
theorem Inv.lnew {its:List Value}{t':Nat}(I:Inv X pins σ H s)(hv:Vals ys its)(hz:ys.length<=sizeLine) :
  Inv X pins σ (upd H s.heap.objs.size (.lst ys)) {s with heap:=s.heap.push {cls:=.type "list",data:=.seq its.toArray},toks:=t'}:=
 I.laid (fun _ _ q=>Heap.get?_push_of_some _ q) (Nat.le_refl _) ⟨hz,its,0,hv,Heap.get?_push_size _ rfl⟩
theorem Inv.fresh (I:Inv X pins σ H s):H s.heap.objs.size=none:=I.hok.fresh (Nat.le_refl _)
theorem Inv.lstM (I:Inv X pins σ H s)(hH:H l=some (.lst xs)):xs.length<=sizeLine/\∃(its:List Value) (n:Nat),Vals xs its/\xs.length=its.length/\s.heap.get? l=some {cls:=.type "list",data:=.seq its.toArray n}:=by
 obtain⟨z,its,n,r,e⟩:=I.hok l _ hH
 exact⟨z,its,n,r,r.length,e⟩
theorem AS {n:Nat}(h:n<=sizeLine):Builtin.List.listTooLong n=false:=by
 unfold Builtin.List.listTooLong
 exact decide_eq_false (by omega)
end
section
variable {X:Cx}
def CL:V->List V->Hp->VK->Prop:=fun x vs H Q=>∃l xs y,x=.ref l/\vs= [y]/\H l=some (.lst xs)/\xs.length < sizeLine/\Q .non (upd H l (.lst (xs ++ [y])))
theorem my:Hm X "list.append" CL:=by
 intro pins s σ H x vs v us Q I rx rv h
 obtain⟨l,xs,y,rfl,rfl,hH,hz,q⟩:=h
 cases rx
 obtain⟨u,rfl,ru⟩:=rv.one
 obtain⟨z,its,n,r,hl,e⟩:=I.lstM hH
 refine call_meets F.slot_list_append ⟨_,e,rfl⟩ F.entry_list_append (F.args_list_append_2 _ _) (PySem.list_append l its.toArray n u (by rw[List.size_toArray];omega)) ⟨e,?_⟩
 refine⟨.non,_,I.lset (its':=its ++ [u]) hH e (by simp) (r.append (.cons ru .nil)) ?_,rfl,q⟩
 rw[List.length_append,List.length_singleton]
 omega
def EU:V->List V->Hp->VK->Prop:=fun x vs H Q=>∃l xs i k y,x=.ref l/\vs= [.int i]/\H l=some (.lst xs)/\ -(2 ^ 63)<=i/\i < 2 ^ 63/\seqIndex? i xs.length=some k/\xs[k]? =some y/\Q y (upd H l (.lst (xs.eraseIdx k)))
theorem Ab:Hm X "list.pop" EU:=by
 intro pins s σ H x vs v us Q I rx rv h
 obtain⟨l,xs,i,k,y,rfl,rfl,hH,h1,h2,hk,hy,q⟩:=h
 cases rx
 obtain⟨u,rfl,ru⟩:=rv.one
 obtain⟨t,rfl⟩:=ru
 obtain⟨z,its,n,r,hl,e⟩:=I.lstM hH
 obtain⟨w,hw,rw'⟩:=r.get hy
 refine call_meets F.slot_list_pop ⟨_,e,rfl⟩ F.entry_list_pop (F.args_list_pop_2 _ _)
  (MeetsSeq.list_pop_at l its.toArray n i t k w (fitsIndex_both h1 h2) (by rw[List.size_toArray,<-hl];exact hk) (by rw[<-Array.getElem?_toList];exact hw) (by rw[List.size_toArray];omega)) ⟨e,?_⟩
 refine⟨y,_,I.lset (its':=its.eraseIdx k) hH e ?_ (r.eraseIdx k) ?_,rw',q⟩
 ·show its.toArray.eraseIdxIfInBounds k=(its.eraseIdx k).toArray
  rw[List.eraseIdxIfInBounds_toArray]
 ·have:=qt xs k
  omega
def Hz:R2:=fun x y H Q=>∃l k xs,x=.ref l/\y=.int k/\H l=some (.lst xs)/\ -(2 ^ 63)<=k/\k < 2 ^ 63/\xs.length * k.toNat<=sizeLine/\
 ∀p,H p=none->Q (.ref p) (upd H p (.lst (List.replicate k.toNat xs).flatten))
theorem len_rep {α:Type}(xs:List α)(k:Nat):(List.replicate k xs).flatten.length=k * xs.length:=by
 induction k with
 |zero=>simp
 |succ k ih=>rw[List.replicate_succ,List.flatten_cons,List.length_append,ih,Nat.succ_mul,Nat.add_comm]
theorem zY:mh X (binaryOp .Mult) Hz:=by
 intro pins s σ H x y v u Q I rx ry h
 obtain⟨l,k,xs,rfl,rfl,hH,h1,h2,hz,q⟩:=h
 cases rx
 obtain⟨t,rfl⟩:=ry
 obtain⟨z,its,n,r,hl,e⟩:=I.lstM hH
 have hlen:its.toArray.size * k.toNat<=sizeLine:=by rw[List.size_toArray,<-hl];exact hz
 have hcap:¬its.toArray.size * k.toNat > (2 ^ 63 - 1) / 8:=by
  have:(sizeLine:Nat)<=(2 ^ 63 - 1) / 8:=by decide
  omega
 have hfit:¬(!Builtin.List.listFitsIndex k)=true:=by
  rw[fitsIndex_both h1 h2]
  exact Bool.false_ne_true
 have hlong:¬Builtin.List.listTooLong (its.toArray.size * k.toNat)=true:=by
  rw[AS hlen]
  exact Bool.false_ne_true
 have hnew:List.foldl (fun x1 x2=>x1 ++ x2) #[] (List.replicate (if its.toArray.isEmpty=true then 0 else k.toNat) its.toArray)=(List.replicate k.toNat its).flatten.toArray:=by
  have f0:∀m:Nat,List.foldl (fun x1 x2=>x1 ++ x2) #[] (List.replicate m its.toArray)=(List.replicate m its).flatten.toArray:=fun m=>by
   have:=foldl_rep its m []
   rw[List.nil_append] at this
   exact this
  rw[f0]
  cases its with
  |nil=>simp
  |cons a r'=>rw[if_neg (by simp)]
 refine wpAny_binaryOp_repeat_ref (T:="list") (U:="int") (by decide) ⟨_,e,rfl⟩ (fun s'=>typeIs_int s' k t) noFill_list_mul F.fills_int_mul F.slot_int_rmul repeat_list F.slot_int_index.lookup
  (call_meets F.slot_int_rmul (typeIs_int s k t) F.entry_int_rmul (F.args_int_rmul_2 _ _) (int___rmul___int_list k t l its.toArray n)
   ⟨e,rfl,⟨_,e,rfl⟩,call_meets F.slot_list_mul ⟨_,e,rfl⟩ F.entry_list_mul (F.args_list_mul_2 _ _) (AutoListH.list___mul___list_int_3 l its.toArray n k t hfit hcap hlong) ⟨e,?_⟩⟩)
 rw[hnew]
 exact⟨.ref _,_,I.lnew (t':=s.toks) (r.rep k.toNat) (by rw[len_rep,Nat.mul_comm];exact hz),rfl,q _ I.fresh⟩
end
end L2
namespace Att
open PySem PySem.W PySem.Calls PyProof.Rows
theorem nE {P:Params}{h:Heap}:∀(ns:List Int) (vs:List Value),WellAll P h vs (ns.map WData.int)->IntsAre vs ns:=by
 intro ns
 induction ns with
 |nil=>
  intro vs w
  rw[List.map_nil] at w
  cases w
  exact .nil
 |cons n ns ih=>
  intro vs w
  rw[List.map_cons] at w
  cases w with
  |cons a b=>
   cases a
   exact .cons _ _ (ih _ b)
theorem yo {l:OpenLaw}{n:Nat}(hn:l.most=some n){P:Params}{h:Heap}{args:List WData}{vals:List Value}
  (hpre:l.row.toRowW.claim.pre args=true) (hwl:WellAll P h vals args) :
  ∃a vs ns,vals= [Value.ref a]/\args= [WData.list (ns.map WData.int)]/\h.get? a=some {cls:=.type "list",data:=.seq vs.toArray}/\IntsAre vs ns/\ns.length<=n:=by
 have hsh:WShape.hasAll [] args [.list .int]=true:=(pre_splitW hpre).1
 have hc:l.pre.holds [] {args:=args}=true:=(pre_splitW hpre).2
 obtain⟨d,r,rfl,h1,h2⟩:=hasAllW_cons hsh
 obtain rfl:=hasAllW_nil h2
 obtain⟨xs,rfl,h3⟩:=hasW_list h1
 obtain⟨ns,rfl⟩:=items_int h3
 have hlen:ns.length<=n:=by
  unfold OpenLaw.pre at hc
  have h4:(WTm.not (.lt (.lit (.int (n:Int))) (.len (.arg 0)))).holds [] {args:=[.list (ns.map .int)]}=true:=by
   have h4:=(holds_andW hc).1
   rw[hn] at h4
   exact h4
  have h5:=condW_of h4 (w_not (w_lt w_lit (w_len_list (w_arg rfl))))
  rw[List.length_map] at h5
  refine Nat.le_of_not_lt fun q=>?_
  have q':(n:Int) < ((ns.length:Nat):Int):=by omega
  first
   | (rw[decide_eq_true q'] at h5;exact absurd h5 (by decide))
   | (simp at h5;omega)
 cases hwl with
 |cons w1 w2=>
  cases w2
  cases w1 with
  |list ho hall=>exact⟨_,_,ns,rfl,rfl,ho,nE ns _ hall,hlen⟩
theorem xK (l:OpenLaw)(args:List WData):l.row.toRowW.claim.post args (.bool true) args=true:=
 postW_of (r:=l.row.toRowW) (X:=(true == true))
  (show WShape.has [] (.bool true) .bool=true by first |rfl |decide |simp[WShape.has,WShape.arms,WShape.armsAll])
  (show (WTm.eq .res (.lit (.bool true))).value [] {args:=args,res:=some (.bool true),after:=args}=some (.bool (true == true)) from w_eq_bool (w_res rfl) w_lit) rfl
theorem uz {l:OpenLaw}{n:Nat}{q:Program}{loose:List Str}{XP:(Str->Option Value)->Heap->Prop}{YP:World->Heap->Prop}{d:DefRec}
  (hn:l.most=some n) (hdf:d.params.defaults= [])
  (call:∀(w:World) (s₀ s₁:Shared) (mg mb:Str->Option Value) (fa:Addr) (o:Obj) (pm cd doc:Value) (a:Addr) (vs:List Value) (ns:List Int),
   Ground q loose [] XP w s₀ mg mb s₁.heap->YP w s₁.heap->
   s₁.heap.get? fa=some o->o.data=.func (docDef d.name d.params d.body d.scope pm cd doc)->s₁.heap.CodeRec cd d.name->mg d.name=some (.ref fa)->
   s₁.heap.get? a=some {cls:=.type "list",data:=.seq vs.toArray}->IntsAre vs ns->ns.length<=n->s₁.gens=#[]->
   codeAny (model l.prog w) callerA (.call (.ref fa) ⟨[.ref a],[]⟩) (fun r s'=>r=.ok (.ret (.bool true))/\OldK s₁.heap s'.heap/\s'.os=s₁.os/\AllBare s'.gens) s₁) :
  WalkO q loose XP YP l.row.toRowW d [] (fun f vs=>PySem.call f vs):=by
 intro w s₀ s₁ mg mb G Y fa o pm cd doc dV kV ho hd hcd hD hmg hg args vals as hpre hlay hrd hwl hlo
 obtain rfl:dV=.none:=Dflts.none hD hdf
 obtain rfl:kV=.none:=Dflts.noKw hD
 obtain⟨a,vs,ns,rfl,rfl,hobj,hints,hlen⟩:=yo hn hpre hwl
 refine enter_call (codeAny_mono (call w s₀ s₁ mg mb fa o pm cd doc a vs ns G Y ho (fd_plain hd) hcd hmg hobj hints hlen hg) fun r s' hq=>?_)
 obtain⟨rfl,h2,h3,h4⟩:=hq
 exact⟨.inl ⟨.bool true,.bool true,[],rfl,fun _=>rfl,.bool true,xK l _,fun _=>⟨List.Pairwise.nil,fun _ hm=>(nomatch hm)⟩⟩,h2,h3,h4⟩
end Att
namespace L2
open PySem PySem.Spec PyProof.Rows
theorem qq:∀{vs:List Value} {ns:List Int},IntsAre vs ns->Vals (ns.map V.int) vs
 |_,_,.nil=>.nil
 |_,_,.cons n t h=>.cons ⟨t,rfl⟩ (qq h)
def D3 (H:Hp):Prop:=∀b,H b=none\/∃o xs,H b=some (.a9 o (.lst xs))
theorem zt {P:Program}{w:World}{K:PySem.W.Frag}{mg mb:Str->Option Value}{CX:xF}{k:Nat}{fa a:Addr}{fd:FuncData}{x:Str}{sp:Sp}{s₁:Shared}{vs:List Value}{ns:List Int}
  (KX:K.In s₁.heap) (hns:s₁.heap.Ns mainGlobals mg) (hb:s₁.heap.Ns builtinsNs mb) (hbb:∀x:Str,x≠"__name__"->mb x=bootBuiltins x) (hlim:s₁.heap.NoLimit) (hsys:∃mm,s₁.heap.Ns sysModules mm) (hg:s₁.gens=#[])
  (ha:s₁.heap.get? a=some {cls:=.type "list",data:=.seq vs.toArray}) (hi:IntsAre vs ns) (hl:ns.length<=sizeLine) (hr:fA k callerA)
  (F:∀base:Heap,K.In base->base.Ns mainGlobals mg->fW P w K mg base CX k fa fd [x] sp) (hbind:∀(s:Shared) (u:Value),BindsTo s fd ⟨[u],[]⟩ [(x,u)])
  (hsp:∀H:Hp,D3 H->hZ K H a (ns.map V.int)->sp [.ref a] H (fun v _=>v=.bl true) fun _ _ _=>False)
  (hCX:∀H e s',CX [] H s₁ (fun _ _ _=>False) e s'->False) :
  codeAny (model P w) callerA (.call (.ref fa) ⟨[.ref a],[]⟩) (fun r s'=>r=.ok (.ret (.bool true))/\OldK s₁.heap s'.heap/\s'.os=s₁.os/\AllBare s'.gens) s₁:=by
 have rv:=qq hi
 have lenV:=hi.length
 have core:∀H:Hp,D3 H->hZ K H a (ns.map V.int)->lG P w H s₁.heap->(∀b,H b≠none->b=a)->(H a≠none->K.lookup a=none)->
   codeAny (model P w) callerA (.call (.ref fa) ⟨[.ref a],[]⟩) (fun r s'=>r=.ok (.ret (.bool true))/\OldK s₁.heap s'.heap/\s'.os=s₁.os/\AllBare s'.gens) s₁:=by
  intro H hO hS hok hA hK
  have base_of:∀{b:Addr} {o:Obj},s₁.heap.get? b=some o->H b=none->(rE s₁.heap H).get? b=some o:=fun e n=>Ai e n
  have noA:∀{b:Addr} {o:Obj} {es:Array DictEntry} {ep:Nat},s₁.heap.get? b=some o->o.data=.dict es ep->H b=none:=fun {b o es ep} e d=>by
   cases q:H b with
   |none=>rfl
   |some u=>
    have e':b=a:=hA b (by rw[q];simp)
    subst e'
    rw[ha] at e;cases e
    have d':Data.seq vs.toArray _=Data.dict es ep:=d
    cases d'
  have nsK:∀{b:Addr} {m:Str->Option Value},s₁.heap.Ns b m->(rE s₁.heap H).Ns b m:=fun {b m} ⟨o,es,ep,e,d,r⟩=>⟨o,es,ep,base_of e (noA e d),d,r⟩
  have hKb:K.In (rE s₁.heap H):=fun b o e=>base_of (KX b o e) (by
   cases q:H b with
   |none=>rfl
   |some u=>
    have e':b=a:=hA b (by rw[q];simp)
    subst e'
    rw[hK (by rw[q];simp)] at e;cases e)
  have hM:Mod K mg (rE s₁.heap H):=⟨hKb,nsK hns,⟨mb,nsK hb,hbb⟩,let ⟨mc,h1,h2⟩:=hlim;⟨mc,nsK h1,h2⟩,let ⟨mm,h1⟩:=hsys;⟨mm,nsK h1⟩⟩
  have e0:BX P w K mg (rE s₁.heap H) callerA [] s₁ H:=⟨rfl,hM,fun b o e=>Cs e,Nat.le_of_eq (yg _ _),trivial,fun b hb=>absurd (show b∈([]:List Addr) from hb) (by simp),hok,.of_eq hg⟩
  refine codeAny_mono ((F _ hKb (nsK hns)).run callerA [] s₁ H ⟨[.ref a],[]⟩ [.ref a] [.ref a] _ _ hr e0 (hbind s₁ (.ref a)) (.cons rfl .nil) (hsp H hO hS)) fun r s' h=>?_
  cases r with
  |error e=>exact (hCX H e s' h).elim
  |ok fl=>
   cases fl with
   |next=>exact False.elim h
   |brk=>exact False.elim h
   |cont=>exact False.elim h
   |ret u=>
    obtain⟨v,H',os,bare,un,hok',r',q⟩:=h
    have q':v=.bl true:=q
    subst q'
    obtain rfl:u=Value.bool true:=r'
    refine⟨rfl,OldK.of_keep fun b o e=>?_,os,bare⟩
    cases q:H b with
    |none=>exact un.keep b o e q (by intro z;exact absurd (show b∈([]:List Addr) from z) (by simp)) (by simp)
    |some u=>
     rcases hO b with z | ⟨ob,xs,z⟩
     ·rw[q] at z;cases z
     ·have z2:=un.frzs b ob _ z
      obtain⟨e1,_⟩:=hok b _ z
      obtain⟨e2,_⟩:=hok' b _ z2
      rw[e] at e1;cases e1
      exact e2
 cases hk:K.lookup a with
 |some o=>
  have e:=KX a o hk
  rw[ha] at e
  cases e
  refine core (fun _=>none) (fun _=>.inl rfl) (.inr ⟨_,vs.toArray,_,hk,rfl,rfl,rfl,by rw[List.size_toArray,lenV];exact hl,by simpa using rv⟩) (fun b u z=>by have z':(none:Option HO)=some u:=z;cases z') (fun b z=>absurd rfl z) fun z=>absurd rfl z
 |none=>
  refine core (fun b=>if b=a then some (.a9 {cls:=.type "list",data:=.seq vs.toArray} (.lst (ns.map V.int))) else none) (fun b=>?_) (.inl (.inr ⟨{cls:=.type "list",data:=.seq vs.toArray},if_pos rfl⟩)) (fun b u z=>?_) (fun b z=>?_) fun _=>hk
  ·by_cases hb:b=a
   ·exact .inr ⟨_,_,if_pos hb⟩
   ·exact .inl (if_neg hb)
  ·by_cases hb:b=a
   ·have z':=(if_pos hb).symm.trans z
    cases z'
    subst hb
    exact⟨ha,by rw[List.length_map];exact hl,vs,_,rv,ha⟩
   ·have z':=(if_neg hb).symm.trans z
    cases z'
  ·by_cases hb:b=a
   ·exact hb
   ·exact absurd (if_neg hb) z
end L2
namespace L2
open PySem PySem.Spec PyProof.Rows
theorem Cb {l:PySem.W.OpenLaw}{n k:Nat}{q:Program}{loose:List Str}{XP:(Str->Option Value)->Heap->Prop}{YP:World->Heap->Prop}{d:DefRec}{K:Params->PySem.W.Frag}{CX:World->xF}{sp:World->Sp}{x:Str}
  (hn:l.most=some n) (hn2:n<=sizeLine) (hdf:d.params.defaults= []) (hi:PyProof.Rows.importsNone q=true) (hr:fA k callerA)
  (hY:∀(w:World) (h:Heap),YP w h->(K w.params).In h)
  (F:∀(w:World) (mg:Str->Option Value) (fa:Addr) (h:Heap),(K w.params).In h->h.Ns mainGlobals mg->mg d.name=some (.ref fa)->
   ∃fd:FuncData,(∀(s:Shared) (u:Value),BindsTo s fd ⟨[u],[]⟩ [(x,u)])/\
    ∀base:Heap,(K w.params).In base->base.Ns mainGlobals mg->fW l.prog w (K w.params) mg base (CX w) k fa fd [x] (sp w))
  (hsp:∀(w:World) (H:Hp) (a:Addr) (ns:List Int),ns.length<=n->D3 H->hZ (K w.params) H a (ns.map V.int)->sp w [.ref a] H (fun v _=>v=.bl true) fun _ _ _=>False)
  (hCX:∀(w:World) (H:Hp) (s:Shared) (e:Value) (s':Shared),CX w [] H s (fun _ _ _=>False) e s'->False) :
  PySem.W.WalkO q loose XP YP l.row.toRowW d [] (fun f vs=>PySem.call f vs):=by
 refine Att.uz hn hdf fun w s₀ s₁ mg mb fa o pm cd doc a vs ns G Y ho hd hcd hmg hobj hints hlen hg=>?_
 have KX:=hY w _ Y
 obtain⟨fd,hb,hF⟩:=F w mg fa _ KX G.T.g hmg
 exact zt KX G.T.g G.T.b G.T.builtins G.T.nolimit (let ⟨mm,h1,_⟩:=(G.T.seer hi).mods;⟨mm,h1⟩) hg hobj hints (Nat.le_trans hlen hn2) hr hF hb (fun H hO hS=>hsp w H a ns hlen hO hS) fun H e s'=>hCX w H s₁ e s'
end L2
namespace L2
open PySem PySem.Spec PyProof.Rows
def iX (s:Stmt):Arguments:=match s with
 | .FunctionDef _ a _ _ _ _ _ _ _ _=>a
 |_=>{posonlyargs:=[],args:=[],vararg:=none,kwonlyargs:=[],kw_defaults:=[],kwarg:=none,defaults:=[]}
def dM (s:Stmt):List Stmt:=match s with
 | .FunctionDef _ _ b _ _ _ _ _ _ _=>b
 |_=>[]
def ao (s:Stmt):Scope:=match s with
 | .FunctionDef _ _ _ _ _ _ sc _ _ _=>sc
 |_=>{kind:=.function,names:=[],isGenerator:=false,isCoroutine:=false}
abbrev Ee:xF:=fun _ _ _ _ _ _=>False
abbrev E0:XK:=fun _ _ _=>False
theorem Gb {X:Cx}:Passes Ee X E0:=fun _ _ _ _ _ _ _ h=>h.elim
structure A6 (K:PySem.W.Frag)(x qual:Str)(st:Stmt)(f:Addr)(fd:FuncData):Prop where
 ex:∃(oc:Value) (od:Option Addr) (kV doc pm:Value) (an:Option Addr) (cdv ct:Value) (osl:Array (Option Value)),
  fd=PySem.W.fnOf x qual (iX st) (dM st) (ao st) .none kV doc pm an cdv ct/\K.lookup f=some ⟨oc,od,.func fd,osl⟩/\PySem.W.codeIn K cdv qual=true
 kp:PySem.W.keepIn K (.ref f)=true
section
variable {P:Program}{w:World}{K:PySem.W.Frag}{mg:Str->Option Value}{base:Heap}
theorem A6.ok {x qual:Str}{st:Stmt}{f:Addr}{fd:FuncData}{N ps:List Str}{k:Nat}{sp:Sp}(F:A6 K x qual st f fd)(S:aC N ps (ao st))(len:∀vs H Q E,sp vs H Q E->vs.length=ps.length)
  (hbody:∀(cdv:Value) (A:Around) (outer:List Env) (s:Shared) (H:Hp) (vs:List V) (Q:VK) (E:XK),fA k (A.deeper (envOfC qual (ao st) s.heap.objs.size f cdv))->sp vs H Q E->
   ∃t,qP (kU Ee P w K mg base N qual (ao st) f cdv A outer s H E).nox (dM st) t/\t {nx:=fun _ H'=>Q .non H',rt:=Q} (start N vs) H):fW P w K mg base Ee (k + 1) f fd ps sp:=by
 obtain⟨oc,od,kV,doc,pm,an,cdv,ct,osl,rfl,lk,hcd⟩:=F.ex
 refine Di lk hcd S len fun A outer s H vs Q E hr hsp=>?_
 obtain⟨t,h,q⟩:=hbody cdv A outer s H vs Q E hr hsp
 exact⟨t,h.nox,q⟩
theorem A6.binds {x qual:Str}{st:Stmt}{f:Addr}{fd:FuncData}{ps:List Str}(F:A6 K x qual st f fd)
  (h:∀(kV doc pm:Value) (an:Option Addr) (cdv ct:Value) (us:List Value),us.length=ps.length->bindArgs (PySem.W.fnOf x qual (iX st) (dM st) (ao st) .none kV doc pm an cdv ct) ⟨us,[]⟩=pure (ps.zip us)):Binds K fd ps []:=by
 obtain⟨oc,od,kV,doc,pm,an,cdv,ct,osl,rfl,lk,hcd⟩:=F.ex
 exact .all (h kV doc pm an cdv ct)
theorem vV {x qual:Str}{st:Stmt}{f:Addr}{oc:Value}{od an:Option Addr}{osl:Array (Option Value)}{kV doc pm cdv ct:Value}(l:K.lookup f=some ⟨oc,od,.func (PySem.W.fnOf x qual (iX st) (dM st) (ao st) .none kV doc pm an cdv ct),osl⟩)
  (c:PySem.W.codeIn K cdv qual=true) (k:PySem.W.keepIn K (.ref f)=true):A6 K x qual st f (PySem.W.fnOf x qual (iX st) (dM st) (ao st) .none kV doc pm an cdv ct):=⟨⟨oc,od,kV,doc,pm,an,cdv,ct,osl,rfl,l,c⟩,k⟩
end
section
variable {X:Cx}
theorem pv (i:Nat){x:Str}{pos:Pos}(hN:X.N[i]? =some x:=by rfl)(hv:yL X.env.scope x:=by first |exact Or.inl rfl |exact Or.inr (Or.inl rfl) |exact Or.inr (Or.inr rfl))(hd:(x == ("__debug__":Str))=false:=by decide)
  (hcd:(x == ("__classdict__":Str))=false:=by decide):PE X (.Name x pos) (Bo i):=jP hN hv hd hcd
end
theorem rJ {A B:Prop}(h:B):if false=true then A else B:=by
 rw[if_neg Bool.false_ne_true]
 exact h
theorem rQ {A B:Prop}(h:A):if true=true then A else B:=by
 rw[if_pos rfl]
 exact h
def aq (H H':Hp):Prop:=∀b o,H b=some o->H' b=some o
theorem aq.refl (H:Hp):aq H H:=fun _ _ h=>h
theorem aq.trans {H H1 H2:Hp}(a:aq H H1)(b:aq H1 H2):aq H H2:=fun c o h=>b c o (a c o h)
theorem aq.free {H H':Hp}(e:aq H H'){l:Addr}(h:H' l=Option.none):H l=Option.none:=by
 cases q:H l with
 |none=>rfl
 |some o=>
  rw[e l o q] at h
  cases h
theorem aq.seq {K:PySem.W.Frag}{H H':Hp}{a:Addr}{xs:List V}(e:aq H H')(h:hZ K H a xs):hZ K H' a xs:=by
 rcases h with (h | ⟨o,h⟩) |h
 ·exact .inl (.inl (e _ _ h))
 ·exact .inl (.inr ⟨o,e _ _ h⟩)
 ·exact .inr h
end L2

end

section
namespace L2.ST
open PySem PySem.SetTable
abbrev DR (xs:Array Nat):Prop:=xs.toList.Pairwise (· < ·)
def DP (mask:Nat)(p:Probe):Probe:=
 if p.more > 0 then {p with j:=p.j + 1,more:=p.more - 1} else
 {p with j:=(leap mask p.i p.perturb).1,more:=runEnd mask (leap mask p.i p.perturb).1 - (leap mask p.i p.perturb).1,i:=(leap mask p.i p.perturb).1,perturb:=(leap mask p.i p.perturb).2}
def D8 (mask i perturb:Nat):Probe:={j:=i,more:=runEnd mask i - i,i,perturb,dummy:=none}
def st (mask:Nat)(h:Int):Probe:=D8 mask (bits h % (mask + 1)) (bits h)
def kS (mask:Nat):Nat->Probe->Probe
 | 0,p=>p
 |n + 1,p=>kS mask n (DP mask p)
theorem tE (mask:Nat):∀(n m:Nat) (p:Probe),kS mask (n + m) p=kS mask m (kS mask n p)
 | 0,m,p=>by rw[Nat.zero_add];rfl
 |n + 1,m,p=>by rw[Nat.add_right_comm];exact tE mask n m (DP mask p)
theorem yD {mask i:Nat}(h:i<=mask):i<=runEnd mask i/\runEnd mask i<=mask/\runEnd mask i - i<=9:=by
 unfold runEnd;split <;> omega
def In (mask:Nat)(p:Probe):Prop:=p.j + p.more<=mask/\p.more<=9
theorem xc (mask i q:Nat):(leap mask i q).1<=mask:=by
 unfold leap;exact Nat.lt_succ_iff.mp (Nat.mod_lt _ (Nat.succ_pos _))
theorem ub (mask:Nat):∀(k:Nat) (p:Probe),p.more=k->kS mask (k + 1) p={p with j:=(leap mask p.i p.perturb).1,more:=runEnd mask (leap mask p.i p.perturb).1 - (leap mask p.i p.perturb).1,i:=(leap mask p.i p.perturb).1,perturb:=(leap mask p.i p.perturb).2}
 | 0,p,h=>by
  show DP mask p=_
  unfold DP
  rw[if_neg (by omega)]
 |k + 1,p,h=>by
  have e:DP mask p={p with j:=p.j + 1,more:=p.more - 1}:=by unfold DP;rw[if_pos (by omega)]
  show kS mask (k + 1) (DP mask p)=_
  rw[e,ub mask k _ (by dsimp only;omega)]
theorem x6 (mask i q:Nat):kS mask (runEnd mask i - i + 1) (D8 mask i q)=D8 mask (leap mask i q).1 (leap mask i q).2:=by
 exact ub mask _ (D8 mask i q) rfl
def gC (mask:Nat):Nat->Nat×Nat->Nat×Nat
 | 0,x=>x
 |k + 1,x=>gC mask k (leap mask x.1 x.2)
theorem nc (mask:Nat):∀(k i q:Nat),i<=mask->∃n,n<=10 * k/\kS mask n (D8 mask i q)=D8 mask (gC mask k (i,q)).1 (gC mask k (i,q)).2
 | 0,i,q,_=>⟨0,Nat.le_refl _,rfl⟩
 |k + 1,i,q,h=>by
  obtain⟨n,hn,e⟩:=nc mask k (leap mask i q).1 (leap mask i q).2 (xc _ _ _)
  have:=yD h
  refine⟨(runEnd mask i - i + 1) + n,by omega,?_⟩
  rw[tE,x6,e]
  rfl
theorem qh (mask:Nat):∀(a b:Nat) (x:Nat×Nat),gC mask (a + b) x=gC mask b (gC mask a x)
 | 0,b,x=>by rw[Nat.zero_add];rfl
 |a + 1,b,x=>by rw[Nat.add_right_comm];exact qh mask a b (leap mask x.1 x.2)
theorem sZ (mask:Nat):∀(k:Nat) (x:Nat×Nat),x.1<=mask->(gC mask k x).1<=mask
 | 0,_,h=>h
 |k + 1,x,_=>sZ mask k _ (xc mask x.1 x.2)
theorem kY (mask:Nat):∀(k:Nat) (x:Nat×Nat),(gC mask k x).2=x.2 / 32 ^ k
 | 0,x=>by simp[gC]
 |k + 1,x=>by
  show (gC mask k (leap mask x.1 x.2)).2=_
  rw[kY mask k,Nat.pow_succ,Nat.mul_comm,<-Nat.div_div_eq_div_mul]
  rfl
def nx (mask i:Nat):Nat:=(i * 5 + 1) % (mask + 1)
def yK (mask:Nat):Nat->Nat->Nat
 | 0,i=>i
 |k + 1,i=>yK mask k (nx mask i)
theorem nS (mask:Nat):∀(a b i:Nat),yK mask (a + b) i=yK mask b (yK mask a i)
 | 0,b,i=>by rw[Nat.zero_add];rfl
 |a + 1,b,i=>by rw[Nat.add_right_comm];exact nS mask a b (nx mask i)
theorem oH (mask:Nat):∀(k i:Nat),gC mask k (i,0)=(yK mask k i,0)
 | 0,_=>rfl
 |k + 1,i=>by
  show gC mask k (leap mask i 0)=_
  have:leap mask i 0=(nx mask i,0):=by simp[leap,nx]
  rw[this,oH mask k]
  rfl
def Gx (mask:Nat):Prop:=mask=7\/mask=31\/mask=127
theorem Ft (mask:Nat)(hm:Gx mask):yK mask (mask + 1) 0=0/\∀j,j<=mask->∃k,k<=mask/\yK mask k 0=j:=by
 have h7:∀j:Nat,j < 8->∃k,k < 8/\yK 7 k 0=j:=by decide +kernel
 have h31:∀j:Nat,j < 32->∃k,k < 32/\yK 31 k 0=j:=by decide +kernel
 have h127:∀j:Nat,j < 128->∃k,k < 128/\yK 127 k 0=j:=by decide +kernel
 rcases hm with rfl |rfl |rfl
 ·exact⟨by decide +kernel,fun j hj=>let ⟨k,a,b⟩:=h7 j (by omega);⟨k,by omega,b⟩⟩
 ·exact⟨by decide +kernel,fun j hj=>let ⟨k,a,b⟩:=h31 j (by omega);⟨k,by omega,b⟩⟩
 ·exact⟨by decide +kernel,fun j hj=>let ⟨k,a,b⟩:=h127 j (by omega);⟨k,by omega,b⟩⟩
theorem FA {mask:Nat}(hm:Gx mask){i j:Nat}(hi:i<=mask)(hj:j<=mask):∃k,k<=mask/\yK mask k i=j:=by
 obtain⟨z,o⟩:=Ft mask hm
 obtain⟨a,ha,ea⟩:=o i hi
 obtain⟨b,hb,eb⟩:=o j hj
 have back:yK mask (mask + 1 - a) i=0:=by
  rw[<-ea,<-nS,show a + (mask + 1 - a)=mask + 1 by omega];exact z
 by_cases hab:a<=b
 ·refine⟨b - a,by omega,?_⟩
  rw[<-ea,<-nS,show a + (b - a)=b by omega];exact eb
 ·refine⟨mask + 1 - a + b,by omega,?_⟩
  rw[nS,back];exact eb
theorem u7 {mask:Nat}(hm:Gx mask){i q j:Nat}(hi:i<=mask)(hq:q < 2 ^ 64)(hj:j<=mask):∃k,k<=mask + 13/\(gC mask k (i,q)).1=j:=by
 have hz:(gC mask 13 (i,q)).2=0:=by
  rw[kY]
  exact Nat.div_eq_of_lt (Nat.lt_of_lt_of_le hq (by decide))
 obtain⟨k,hk,e⟩:=FA hm (sZ mask 13 (i,q) hi) hj
 refine⟨13 + k,by omega,?_⟩
 rw[qh]
 have:gC mask 13 (i,q)=((gC mask 13 (i,q)).1,0):=Prod.ext rfl hz
 rw[this,oH]
 exact e
theorem BZ (h:Int):bits h < 2 ^ 64:=by
 unfold bits
 have:=Int.emod_lt_of_pos h (show (0:Int) < 2 ^ 64 by decide)
 have:=Int.emod_nonneg h (show (2 ^ 64:Int)≠0 by decide)
 omega
theorem zO {mask:Nat}(hm:Gx mask)(h:Int){j:Nat}(hj:j<=mask):∃n,n < 10 * turns mask/\(kS mask n (st mask h)).j=j:=by
 have hi:bits h % (mask + 1)<=mask:=Nat.lt_succ_iff.mp (Nat.mod_lt _ (Nat.succ_pos _))
 obtain⟨k,hk,e⟩:=u7 hm hi (BZ h) hj
 obtain⟨n,hn,q⟩:=nc mask k (bits h % (mask + 1)) (bits h) hi
 refine⟨n,by unfold turns;omega,?_⟩
 show (kS mask n (D8 mask _ _)).j=j
 rw[q];exact e
end L2.ST

end

section
namespace L2.ST
open PySem PySem.SetTable
def Reach (mask:Nat)(L:Nat->Prop)(h:Int)(j:Nat):Prop:=∃n,n < 10 * turns mask/\(kS mask n (st mask h)).j=j/\∀m,m < n->L (kS mask m (st mask h)).j
structure Tab (t:SetTable)(hs:List Int):Prop where
 mask:Gx t.mask
 dum:t.dummies=#[]
 rise:DR t.place
 le:∀j,j∈t.place->j<=t.mask
 size:t.place.size=hs.length
 load:t.place.size * 5 < t.mask * 3
 reach:∀(i j:Nat) (h:Int),t.place[i]? =some j->hs[i]? =some h->Reach t.mask (· ∈t.place) h j
 plain:t.plain=true
theorem gS {α:Type}[DecidableEq α]:∀{l m:List α},l.Nodup->(∀x,x∈l->x∈m)->l.length<=m.length
 | [],_,_,_=>Nat.zero_le _
 |a :: l,m,hn,hs=>by
  have ha:=hs a (List.mem_cons_self ..)
  have hl:=List.nodup_cons.mp hn
  have:=gS (l:=l) (m:=m.erase a) hl.2 fun x hx=>by
   refine (List.mem_erase_of_ne ?_).mpr (hs x (List.mem_cons_of_mem _ hx))
   rintro rfl;exact hl.1 hx
  rw[List.length_erase_of_mem ha] at this
  have:0 < m.length:=List.length_pos_of_mem ha
  simp only[List.length_cons];omega
theorem uG {mask:Nat}{xs:Array Nat}(hl:xs.size<=mask):∃j,j<=mask/\j∉xs:=by
 refine Classical.byContradiction fun hc=>?_
 have all:∀j,j∈List.range (mask + 1)->j∈xs.toList:=fun j hj=>by
  have:=List.mem_range.mp hj
  refine Classical.byContradiction fun hn=>hc ⟨j,by omega,fun z=>hn (by simpa using z)⟩
 have:=gS List.nodup_range all
 simp at this
 omega
theorem rL {P:Nat->Prop}(h:∃n,P n):∃n,P n/\∀m,m < n->¬P m:=by
 obtain⟨n,hn⟩:=h
 induction n using Nat.strongRecOn with
 |_ n ih=>
  by_cases hc:∃m,m < n/\P m
  ·obtain⟨m,hm,hp⟩:=hc
   exact ih m hm hp
  ·exact⟨n,hn,fun m hm hp=>hc ⟨m,hm,hp⟩⟩
section
variable {t:SetTable}{hs:List Int}
theorem Tab.load' (T:Tab t hs):t.place.size<=t.mask:=by have:=T.load;omega
theorem Tab.first (T:Tab t hs)(h:Int):∃n,n < 10 * turns t.mask/\(kS t.mask n (st t.mask h)).j∉t.place/\∀m,m < n->(kS t.mask m (st t.mask h)).j∈t.place:=by
 obtain⟨j,hj,hn⟩:=uG T.load'
 obtain⟨n,h1,h2⟩:=zO T.mask h hj
 obtain⟨k,hk,hlt⟩:=rL (P:=fun n=>(kS t.mask n (st t.mask h)).j∉t.place) ⟨n,by rw[h2];exact hn⟩
 refine⟨k,?_,hk,fun m hm=>Classical.byContradiction fun z=>hlt m hm z⟩
 rcases Nat.lt_or_ge n k with c |c
 ·exact absurd (show (kS t.mask n (st t.mask h)).j∉t.place by rw[h2];exact hn) (hlt n c)
 ·omega
end
end L2.ST

end

section
namespace L2.ST
open PySem PySem.SetTable
abbrev own (o:Array (Option Nat))(j:Nat):Option Nat:=o.getD j none
structure Lay (mask:Nat)(o:Array (Option Nat))(hs:List Int):Prop where
 size:o.size=mask + 1
 all:∀k h,hs[k]? =some h->∃j,own o j=some k/\Reach mask (fun x=>(own o x).isSome=true) h j
 one:∀j j' k,own o j=some k->own o j'=some k->j=j'
 le:∀j k,own o j=some k->j<=mask/\k < hs.length
end L2.ST

end

section
namespace L2.ST
open PySem PySem.SetTable
abbrev Pr:=Int×Int
def hp (p:Pr):Int:=reduceHash (Builtin.Tuple.tupleHashOf [hashInt p.1,hashInt p.2])
def Sm (p:Pr):Prop:=(0<=p.1/\p.1 < 8)/\(0<=p.2/\p.2 < 8)
def sD:List Pr:=(List.range 64).map fun k=>(((k / 8:Nat):Int),((k % 8:Nat):Int))
theorem uX {p:Pr}(h:Sm p):p∈sD:=by
 unfold sD
 obtain⟨⟨a,b⟩,c,d⟩:=h
 refine List.mem_map.mpr ⟨p.1.toNat * 8 + p.2.toNat,List.mem_range.mpr (by omega),?_⟩
 refine Prod.ext ?_ ?_ <;> dsimp only <;> omega
theorem vB {l:List Pr}(hn:l.Nodup)(h:∀p,p∈l->Sm p):l.length<=64:=by
 have:=gS (m:=sD) hn fun x hx=>uX (h x hx)
 simpa[sD] using this
section
variable {prog:Program}{w:World}{A:Around}{E:Value->Shared->Prop}{s:Shared}
abbrev jb (prog:Program)(w:World)(h:Heap)(p:Pr)(a:Addr):Prop:=IsTupleKey (intKind prog w) h [p.1,p.2] a
theorem jb.inj {h:Heap}{p q:Pr}{a:Addr}(x:jb prog w h p a)(y:jb prog w h q a):p=q:=by
 have:=IsTupleKey.inj x y
 simp at this
 exact Prod.ext this.1 this.2
structure AH (f:Pr->Int)(prog:Program)(w:World)(led:Bool)(h:Heap)(S:Addr)(ps:List (Addr×Pr)):Prop where
 ex:∃o ep t,h.get? S=some o/\o.ExactSet/\o.data=.set (ps.map fun q=>(f q.2,Value.ref q.1)).toArray ep t/\Tab t (ps.map fun q=>f q.2)/\t.led=led
 at':∀q,q∈ps->jb prog w h q.2 q.1/\Sm q.2
 nd:(ps.map (·.2)).Nodup
theorem AH.len {f:Pr->Int}{led:Bool}{h:Heap}{S:Addr}{ps:List (Addr×Pr)}(P:AH f prog w led h S ps):ps.length<=64:=by
 have:=vB P.nd fun p hp=>by
  obtain⟨q,hq,rfl⟩:=List.mem_map.mp hp
  exact (P.at' q hq).2
 simpa using this
end
end L2.ST

end

section

end

section
namespace L2.ST
open PySem PySem.SetTable
def uq (w:World):Bool:= !(w.params.followText "set-order")
section
variable {prog:Program}{w:World}{A:Around}{E:Value->Shared->Prop}{s:Shared}{R:Result->Shared->Prop}{I:Addr}{fp wr:List Addr}{n:Nat}{P:Nat->Value->Prop}{St:Nat->Heap->Prop}
def eT (prog:Program)(w:World)(h:Heap)(vs:List Value)(ps:List Pr):Prop:=vs.length=ps.length/\∀(i:Nat) (v:Value) (p:Pr),vs[i]? =some v->ps[i]? =some p->∃a,v=.ref a/\jb prog w h p a/\Sm p
theorem tj (a:Value){Q1:Value->Shared->Prop}
  (h:Q1 (.ref s.heap.objs.size) {s with heap:=s.heap.push {cls:=.type "set",dict:=none,data:=.set #[] 0 (.fresh 0 0 (uq w))}}) :
  codeAny (model prog w) A (.call (.builtin "set.__new__") ⟨[.type "set",a],[]⟩) (wants Q1 E) s:=by
 refine codeAny_of_tree ?_
 show wpAny _ A.in1 (do (checkBuiltinCall "set.__new__" ⟨[.type "set",a],[]⟩);again (.builtin "set.__new__" ⟨[.type "set",a],[]⟩)) _ _ s
 refine wpAny_bind (wpAny_of_eq (F.newCall_set_1 a) (wpAny_pure ⟨plainId_quiet F.plain_set_new _,codeAny_builtin F.entry_set_new ?_⟩))
 rw[Around.under_plainId F.plain_set_new _]
 (unfold Builtin.«set.__new__» Builtin.Frozenset.newClass)
 have hsub0:=sub_set_self
 obtain⟨hp0,g0,d0,tk0,os0⟩:=s
 dsimp only
 wp_walk
 (refine wpAny_askSetting (wpAny_pure ?_))
 dsimp only
 simp only[newObj]
 (refine wpAny_bind (wpAny_alloc (wpAny_pure ?_)))
 exact wpAny_pure h
structure Src (prog:Program)(w:World)(h:Heap)(l:Addr)(vs:List Value)(T:String)(itO:Obj)(St:Addr->Nat->Heap->Prop):Prop where
 ty:∃o,h.get? l=some o/\o.cls=.type T
 ns:isSubtype (.type T) (.type "set")=pure false
 nf:isSubtype (.type T) (.type "frozenset")=pure false
 nd:(Value.type T == Value.type "dict")=false
 it:∀(A:Around) (s1:Shared) (Q:Value->Shared->Prop) (E:Value->Shared->Prop),(∀b o,h.get? b=some o->s1.heap.get? b=some o)->Q (.ref s1.heap.objs.size) {s1 with heap:=s1.heap.push itO}->wpAny (model prog w) A (pyIter (.ref l)) Q E s1
 st:∀(h1:Heap),(∀b o,h.get? b=some o->h1.get? b=some o)->St h1.objs.size 0 (h1.push itO)
 wk:∀(A:Around) (I:Addr),A.handled=none->l≠I->Walks prog w A I [I,l] [I] vs.length (fun i v=>vs[i]? =some v) (St I)
theorem Src.list {h:Heap}{l:Addr}{vs:List Value}(hl:h.IsList l vs.toArray):Src prog w h l vs "list" {cls:=.type "list_iterator",data:=.fields #[.ref l,.int 0 0]} (fun I i h'=>h'.IsListIter I l i/\h'.IsList l vs.toArray):=by
 obtain⟨o,ho,hc,n,hd⟩:=id hl
 refine⟨⟨o,ho,hc⟩,F.sub_list_set,F.sub_list_frozenset,by decide,fun A s1 Q E k hQ=>wpAny_pyIter_list ⟨o,k _ _ ho,hc,n,hd⟩ hQ,fun h1 k=>⟨⟨_,Heap.get?_push_size _ rfl,rfl,rfl⟩,⟨o,Heap.get?_push_of_some _ (k _ _ ho),hc,n,hd⟩⟩,fun A I hh hne=>?_⟩
 have:=Walks.list (prog:=prog) (w:=w) hh I l hne vs.toArray
 simpa using this
theorem sub_tuple_set:isSubtype (.type "tuple") (.type "set")=pure false:=by rw[isSubtype_type];kernel_rfl
theorem sub_tuple_frozenset:isSubtype (.type "tuple") (.type "frozenset")=pure false:=by rw[isSubtype_type];kernel_rfl
theorem Src.tuple {h:Heap}{l:Addr}{vs:List Value}(hl:h.IsTuple l vs.toArray):Src prog w h l vs "tuple" {cls:=.type "tuple_iterator",data:=.fields #[.ref l,.int 0 0]} (fun I i h'=>h'.IsTupleIter I l i/\h'.IsTuple l vs.toArray):=by
 obtain⟨o,ho,hc,n,hd⟩:=id hl
 refine⟨⟨o,ho,hc⟩,sub_tuple_set,sub_tuple_frozenset,by decide,fun A s1 Q E k hQ=>wpAny_pyIter_tuple ⟨o,k _ _ ho,hc,n,hd⟩ hQ,fun h1 k=>⟨⟨_,Heap.get?_push_size _ rfl,rfl,rfl⟩,⟨o,Heap.get?_push_of_some _ (k _ _ ho),hc,n,hd⟩⟩,fun A I hh hne=>?_⟩
 have:=Walks.tuple (prog:=prog) (w:=w) hh I l hne vs.toArray
 simpa using this
end
end L2.ST

end

section
namespace L2.SO
open PySem PySem.W PyProof.Rows
def j0 {α:Type}(lt:Nat->Nat->Bool):KasT α->α
 | .ret a=>a
 | .ask i j k=>j0 lt (k (lt i j))
theorem fq {α β:Type}(lt:Nat->Nat->Bool)(f:α->KasT β):∀t:KasT α,j0 lt (t.bind f)=j0 lt (f (j0 lt t))
 | .ret _=>rfl
 | .ask i j k=>fq lt f (k (lt i j))
def sM {α:Type}(n:Nat)(lt:Nat->Nat->Bool):KasT α->Prop
 | .ret _=>True
 | .ask i j k=>i < n/\j < n/\sM n lt (k (lt i j))
theorem ip {α β:Type}{n:Nat}{lt:Nat->Nat->Bool}{f:α->KasT β}:∀{t:KasT α},sM n lt t->sM n lt (f (j0 lt t))->sM n lt (t.bind f)
 | .ret _,_,h=>h
 | .ask i j k,h,h'=>⟨h.1,h.2.1,ip h.2.2 h'⟩
section
variable {n:Nat}{key:Nat->Int}
abbrev mU (key:Nat->Int)(i j:Nat):Bool:=decide (key i < key j)
abbrev Kp (key:Nat->Int)(p:Array Nat)(k:Nat):Int:=key (p.getD k 0)
structure Pm (n:Nat)(p:Array Nat):Prop where
 sz:p.size=n
 nd:p.toList.Nodup
 lt:∀x,x∈p->x < n
theorem Pm.at {p:Array Nat}(P:Pm n p){k:Nat}(hk:k < n):p.getD k 0 < n:=by
 have h:k < p.size:=by rw[P.sz];exact hk
 simp only[Array.getD,h,dif_pos]
 exact P.lt _ (Array.getElem_mem h)
theorem Pm.ne {p:Array Nat}(P:Pm n p){i k:Nat}(hi:i < n)(hk:k < n)(hne:i≠k):p.getD i 0≠p.getD k 0:=by
 have h1:i < p.toList.length:=by simpa using (by rw[P.sz];exact hi:i < p.size)
 have h2:k < p.toList.length:=by simpa using (by rw[P.sz];exact hk:k < p.size)
 have h1':i < p.size:=by rw[P.sz];exact hi
 have h2':k < p.size:=by rw[P.sz];exact hk
 have a1:p.getD i 0=p.toList[i]:=by simp[Array.getD,h1']
 have a2:p.getD k 0=p.toList[k]:=by simp[Array.getD,h2']
 rw[a1,a2]
 have q:=List.pairwise_iff_getElem.mp P.nd
 rcases Nat.lt_or_ge i k with c |c
 ·exact q i k h1 h2 c
 ·exact (q k i h2 h1 (by omega)).symm
theorem Pm.perm {p q:Array Nat}(P:Pm n p)(h:q.Perm p):Pm n q:=by
 have h':=Array.perm_iff_toList_perm.mp h
 exact⟨by rw[h.size_eq];exact P.sz,h'.nodup_iff.mpr P.nd,fun x hx=>P.lt x (by simpa using h'.mem_iff.mp (by simpa using hx))⟩
theorem tW (n:Nat):Pm n (List.toArray (List.range n)):=⟨by simp,by simpa using List.nodup_range,fun x hx=>by simpa using hx⟩
def Inj (n:Nat)(key:Nat->Int):Prop:=∀i j,i < n->j < n->key i=key j->i=j
theorem Pm.tri {p:Array Nat}(P:Pm n p)(hi:Inj n key){i k:Nat}(h1:i < n)(h2:k < n)(hne:i≠k):Kp key p i < Kp key p k\/Kp key p k < Kp key p i:=by
 have:Kp key p i≠Kp key p k:=fun e=>P.ne h1 h2 hne (hi _ _ (P.at h1) (P.at h2) e)
 omega
def Up (key:Nat->Int)(p:Array Nat)(m:Nat):Prop:=∀i j,i < j->j < m->Kp key p i < Kp key p j
def Dn (key:Nat->Int)(p:Array Nat)(m:Nat):Prop:=∀i j,i < j->j < m->Kp key p j < Kp key p i
theorem Up.snoc {p:Array Nat}{m:Nat}(U:Up key p m)(h1:1<=m)(h:Kp key p (m - 1) < Kp key p m):Up key p (m + 1):=fun i j hij hj=>by
 rcases Nat.lt_or_ge j m with c |c
 ·exact U i j hij c
 ·have:j=m:=by omega
  subst this
  rcases Nat.lt_or_ge i (j - 1) with d |d
  ·exact Int.lt_trans (U i (j - 1) d (by omega)) h
  ·have:i=j - 1:=by omega
   rw[this];exact h
theorem Dn.snoc {p:Array Nat}{m:Nat}(U:Dn key p m)(h1:1<=m)(h:Kp key p m < Kp key p (m - 1)):Dn key p (m + 1):=fun i j hij hj=>by
 rcases Nat.lt_or_ge j m with c |c
 ·exact U i j hij c
 ·have:j=m:=by omega
  subst this
  rcases Nat.lt_or_ge i (j - 1) with d |d
  ·exact Int.lt_trans h (U i (j - 1) d (by omega))
  ·have:i=j - 1:=by omega
   rw[this];exact h
theorem oz {p:Array Nat}(P:Pm n p)(hi:Inj n key):∀(f m:Nat),1<=m->m + f<=n->Up key p m->
  ∃r,(j0 (mU key) (kas_asc p f m)=r/\sM n (mU key) (kas_asc p f m))/\m<=r/\r<=m + f/\Up key p r/\(r < m + f->Kp key p r < Kp key p (r - 1))
 | 0,m,_,_,U=>⟨m,⟨rfl,trivial⟩,Nat.le_refl _,Nat.le_refl _,U,fun h=>absurd h (Nat.lt_irrefl _)⟩
 |f + 1,m,h1,hn,U=>by
  have b1:p.getD m 0 < n:=P.at (by omega)
  have b2:p.getD (m - 1) 0 < n:=P.at (by omega)
  unfold kas_asc j0 sM
  by_cases c:Kp key p m < Kp key p (m - 1)
  ·rw[show mU key (p.getD m 0) (p.getD (m - 1) 0)=true from decide_eq_true c]
   simp only[if_true]
   exact⟨m,⟨rfl,b1,b2,trivial⟩,Nat.le_refl _,by omega,U,fun _=>c⟩
  ·rw[show mU key (p.getD m 0) (p.getD (m - 1) 0)=false from decide_eq_false c]
   simp only[Bool.false_eq_true,if_false]
   have up:Kp key p (m - 1) < Kp key p m:=(P.tri hi (by omega) (by omega) (by omega)).resolve_right c
   obtain⟨r,⟨e,o⟩,a,b,u,d⟩:=oz P hi f (m + 1) (by omega) (by omega) (U.snoc h1 up)
   exact⟨r,⟨e,b1,b2,o⟩,by omega,by omega,u,fun h=>d (by omega)⟩
theorem qC {p:Array Nat}(P:Pm n p)(hi:Inj n key):∀(f m:Nat),1<=m->m + f<=n->Dn key p m->
  ∃r,(j0 (mU key) (kas_desc f p m 0)=(p,r,0)/\sM n (mU key) (kas_desc f p m 0))/\m<=r/\r<=m + f/\Dn key p r
 | 0,m,_,_,U=>⟨m,⟨rfl,trivial⟩,Nat.le_refl _,Nat.le_refl _,U⟩
 |f + 1,m,h1,hn,U=>by
  have b1:p.getD m 0 < n:=P.at (by omega)
  have b2:p.getD (m - 1) 0 < n:=P.at (by omega)
  unfold kas_desc j0 sM
  by_cases c:Kp key p m < Kp key p (m - 1)
  ·rw[show mU key (p.getD m 0) (p.getD (m - 1) 0)=true from decide_eq_true c]
   simp only[if_true,Nat.lt_irrefl,gt_iff_lt,if_false]
   obtain⟨r,⟨e,o⟩,a,b,u⟩:=qC P hi f (m + 1) (by omega) (by omega) (U.snoc h1 c)
   exact⟨r,⟨e,b1,b2,o⟩,by omega,by omega,u⟩
  ·rw[show mU key (p.getD m 0) (p.getD (m - 1) 0)=false from decide_eq_false c]
   simp only[Bool.false_eq_true,if_false]
   unfold j0 sM
   have up:Kp key p (m - 1) < Kp key p m:=(P.tri hi (by omega) (by omega) (by omega)).resolve_right c
   rw[show mU key (p.getD (m - 1) 0) (p.getD m 0)=true from decide_eq_true up]
   simp only[if_true]
   exact⟨m,⟨rfl,b1,b2,b2,b1,trivial⟩,Nat.le_refl _,by omega,U⟩
theorem zy {p:Array Nat}{j k:Nat}(hj:j<=p.size)(hk:k < j):(kas_rev p 0 j).getD k 0=p.getD (j - 1 - k) 0:=by
 unfold kas_rev
 rw[Array.getD_eq_getD_getElem?,getElem?_mirror_all hj k,if_pos ⟨Nat.zero_le _,hk⟩,Array.getD_eq_getD_getElem?]
 congr 2
 omega
theorem D9 {p:Array Nat}{m:Nat}(hm:m<=p.size)(D:Dn key p m):Up key (kas_rev p 0 m) m:=fun i j hij hj=>by
 unfold Kp
 rw[zy hm (by omega),zy hm hj]
 exact D (m - 1 - j) (m - 1 - i) (by omega) (by omega)
theorem Pm.rev {p:Array Nat}(P:Pm n p)(j:Nat):Pm n (kas_rev p 0 j):=P.perm (mirror_perm ..)
theorem uS {p:Array Nat}(P:Pm n p)(hi:Inj n key)(h1:1<=n) :
  ∃m q,(j0 (mU key) (kas_count n p)=(m,q)/\sM n (mU key) (kas_count n p))/\Pm n q/\1<=m/\m<=n/\Up key q m:=by
 obtain⟨r,⟨e,o⟩,a,b,u,d⟩:=oz P hi (n - 1) 1 (Nat.le_refl _) (by omega) (fun i j hij hj=>by omega)
 have rest:∃m q,(j0 (mU key) (if (r == n)=true then KasT.ret (r,p) else if r > 1 then .ask (p.getD 0 0) (p.getD (r - 1) 0) fun c=>if c=true then .ret (r,p) else kas_descPart r n (kas_rev p 0 r) else kas_descPart r n p)=(m,q)/\
   sM n (mU key) (if (r == n)=true then KasT.ret (r,p) else if r > 1 then .ask (p.getD 0 0) (p.getD (r - 1) 0) fun c=>if c=true then .ret (r,p) else kas_descPart r n (kas_rev p 0 r) else kas_descPart r n p))/\Pm n q/\1<=m/\m<=n/\Up key q m:=by
  by_cases c:(r == n)=true
  ·rw[if_pos c]
   exact⟨r,p,⟨rfl,trivial⟩,P,a,by omega,u⟩
  ·rw[if_neg c]
   have hrn:r≠n:=by simpa using c
   have dd:=d (by omega)
   by_cases c2:r > 1
   ·rw[if_pos c2]
    unfold j0 sM
    rw[show mU key (p.getD 0 0) (p.getD (r - 1) 0)=true from decide_eq_true (u 0 (r - 1) (by omega) (by omega))]
    simp only[if_true]
    exact⟨r,p,⟨rfl,P.at (by omega),P.at (by omega),trivial⟩,P,a,by omega,u⟩
   ·rw[if_neg c2]
    have hr1:r=1:=by omega
    subst hr1
    unfold kas_descPart
    rw[fq]
    have D2:Dn key p 2:=fun i j hij hj=>by
     have e1:i=0:=by omega
     have e2:j=1:=by omega
     rw[e1,e2];exact dd
    obtain⟨x,⟨e2,o2⟩,a2,b2,u2⟩:=qC P hi (n - 2) 2 (by omega) (by omega) D2
    obtain⟨y,⟨e3,o3⟩,a3,b3,u3,_⟩:=oz (P.rev x) hi (n - x) x (by omega) (by omega) (D9 (by rw[P.sz];omega) u2)
    rw[show n - (1 + 1)=n - 2 from rfl,show (1 + 1:Nat)=2 from rfl]
    have t3:sM n (mU key) (kas_tail3 x n p):=by
     unfold kas_tail3
     exact ip o3 trivial
    refine⟨y,kas_rev p 0 x,⟨?_,ip o2 ?_⟩,P.rev x,by omega,by omega,u3⟩
    ·rw[e2]
     simp only[Nat.lt_irrefl,gt_iff_lt,if_false]
     unfold kas_tail3
     rw[fq,e3]
     rfl
    ·rw[e2]
     simp only[Nat.lt_irrefl,gt_iff_lt,if_false]
     exact t3
 obtain⟨m,q,⟨f1,f2⟩,f3⟩:=rest
 refine⟨m,q,⟨?_,?_⟩,f3⟩
 ·unfold kas_count
  rw[fq,e]
  exact f1
 ·unfold kas_count
  refine ip o ?_
  rw[e]
  exact f2
theorem place_spec {p:Array Nat}{k:Nat}(P:Pm n p)(hi:Inj n key)(hk:k < n)(U:Up key p k):∀(f l r:Nat),l<=r->r<=k->r - l<=f->(∀i,i < l->Kp key p i < Kp key p k)->(∀i,r<=i->i < k->Kp key p k < Kp key p i)->
  ∃x,(j0 (mU key) (kas_place p k f l r)=x/\sM n (mU key) (kas_place p k f l r))/\x<=k/\(∀i,i < x->Kp key p i < Kp key p k)/\(∀i,x<=i->i < k->Kp key p k < Kp key p i)
 | 0,l,r,h1,h2,h3,a,b=>⟨l,⟨rfl,trivial⟩,by omega,a,fun i hi=>b i (by omega)⟩
 |f + 1,l,r,h1,h2,h3,a,b=>by
  unfold kas_place
  by_cases c:l>=r
  ·rw[if_pos c]
   exact⟨l,⟨rfl,trivial⟩,by omega,a,fun i hi=>b i (by omega)⟩
  ·rw[if_neg c]
   have b1:p.getD k 0 < n:=P.at hk
   have b2:p.getD ((l + r) / 2) 0 < n:=P.at (by omega)
   unfold j0 sM
   by_cases d:Kp key p k < Kp key p ((l + r) / 2)
   ·rw[show mU key (p.getD k 0) (p.getD ((l + r) / 2) 0)=true from decide_eq_true d]
    simp only[if_true]
    have side:∀i,(l + r) / 2<=i->i < k->Kp key p k < Kp key p i:=fun i h1 h2=>by
     rcases Nat.lt_or_ge ((l + r) / 2) i with z |z
     ·exact Int.lt_trans d (U _ _ z h2)
     ·have:i=(l + r) / 2:=by omega
      rw[this];exact d
    obtain⟨x,⟨e1,e2⟩,e3⟩:=place_spec P hi hk U f l ((l + r) / 2) (by omega) (by omega) (by omega) a side
    exact⟨x,⟨e1,b1,b2,e2⟩,e3⟩
   ·rw[show mU key (p.getD k 0) (p.getD ((l + r) / 2) 0)=false from decide_eq_false d]
    simp only[Bool.false_eq_true,if_false]
    have d':Kp key p ((l + r) / 2) < Kp key p k:=(P.tri hi (by omega) hk (by omega)).resolve_right d
    have side:∀i,i < (l + r) / 2 + 1->Kp key p i < Kp key p k:=fun i h=>by
     rcases Nat.lt_or_ge i ((l + r) / 2) with z |z
     ·exact Int.lt_trans (U _ _ z (by omega)) d'
     ·have:i=(l + r) / 2:=by omega
      rw[this];exact d'
    obtain⟨x,⟨e1,e2⟩,e3⟩:=place_spec P hi hk U f ((l + r) / 2 + 1) r (by omega) h2 (by omega) side b
    exact⟨x,⟨e1,b1,b2,e2⟩,e3⟩
theorem Aa {p:Array Nat}{k l j:Nat}(hk:k < p.size)(hl:l<=k):(bubble p k (k - l)).getD j 0=if j=l then p.getD k 0 else if l < j/\j<=k then p.getD (j - 1) 0 else p.getD j 0:=by
 rw[Array.getD_eq_getD_getElem?,getElem?_bubble hk (k - l) (by omega) j,show k - (k - l)=l by omega]
 simp only[Array.getD_eq_getD_getElem?]
 split
 ·rfl
 ·split <;> rfl
theorem uo (hi:Inj n key):∀(f k:Nat) (p:Array Nat),Pm n p->1<=k->k + f=n->Up key p k->∃q,(j0 (mU key) (kas_bin f p k)=q/\sM n (mU key) (kas_bin f p k))/\Pm n q/\Up key q n
 | 0,k,p,P,_,e,U=>⟨p,⟨rfl,trivial⟩,P,by rw[<-e];exact U⟩
 |f + 1,k,p,P,h1,e,U=>by
  have hk:k < n:=by omega
  obtain⟨l,⟨el,ol⟩,hl,a,b⟩:=place_spec P hi hk U k 0 k (Nat.zero_le _) (Nat.le_refl _) (by omega) (fun i h=>by omega) (fun i h h'=>by omega)
  have side:Up key (bubble p k (k - l)) (k + 1):=fun i j hij hj=>by
   have hks:k < p.size:=by rw[P.sz];exact hk
   unfold Kp
   rw[Aa hks hl,Aa hks hl]
   by_cases i1:i=l
   ·rw[if_pos i1,if_neg (by omega)]
    by_cases j2:l < j/\j<=k
    ·rw[if_pos j2];exact b _ (by omega) (by omega)
    ·omega
   ·rw[if_neg i1]
    by_cases i2:l < i/\i<=k
    ·rw[if_pos i2,if_neg (by omega),if_pos (by omega)]
     exact U _ _ (by omega) (by omega)
    ·rw[if_neg i2]
     by_cases j1:j=l
     ·rw[if_pos j1];exact a _ (by omega)
     ·rw[if_neg j1]
      by_cases j2:l < j/\j<=k
      ·rw[if_pos j2]
       rcases Nat.lt_or_ge i (j - 1) with z |z
       ·exact U _ _ z (by omega)
       ·omega
      ·rw[if_neg j2];exact U _ _ hij (by omega)
  obtain⟨q,⟨q1,q2⟩,q3⟩:=uo hi f (k + 1) (bubble p k (k - l)) (P.perm (bubble_perm ..)) (by omega) (by omega) side
  refine⟨q,⟨?_,?_⟩,q3⟩
  ·unfold kas_bin;rw[fq,el];exact q1
  ·unfold kas_bin;refine ip ol ?_;rw[el];exact q2
theorem yv (hi:Inj n key)(h2:2<=n):∃q,(j0 (mU key) (kas_sort n)=q/\sM n (mU key) (kas_sort n))/\Pm n q/\Up key q n:=by
 obtain⟨m,q,⟨e,o⟩,P,a,b,u⟩:=uS (tW n) hi (by omega)
 by_cases c:m < n
 ·obtain⟨q',⟨e1,o1⟩,r⟩:=uo hi (n - m) m q P a (by omega) u
  refine⟨q',⟨?_,?_⟩,r⟩
  ·unfold kas_sort;rw[fq,e];dsimp only;rw[if_pos c,Nat.max_eq_left a];exact e1
  ·unfold kas_sort;refine ip o ?_;rw[e];dsimp only;rw[if_pos c,Nat.max_eq_left a];exact o1
 ·refine⟨q,⟨?_,?_⟩,P,fun i j hij hj=>u i j hij (by omega)⟩
  ·unfold kas_sort;rw[fq,e];dsimp only;rw[if_neg c];rfl
  ·unfold kas_sort;refine ip o ?_;rw[e];dsimp only;rw[if_neg c];trivial
theorem wp_run {α:Type}{n:Nat}{lt:Nat->Nat->Bool}{cmp:Nat->Nat->(Bool->Shared->Prop)->Shared->Prop}{Q:α->Shared->Prop}{s:Shared} :
  ∀(t:KasT α),(∀i j C,i < n->j < n->C (lt i j) s->cmp i j C s)->sM n lt t->Q (j0 lt t) s->t.kasWp cmp Q s
 | .ret a,_,_,h=>h
 | .ask i j k,hc,ho,h=>hc i j _ ho.1 ho.2.1 (wp_run (k (lt i j)) hc ho.2.2 h)
end
end L2.SO

end

section
namespace L2.ST
open PySem PySem.SetTable PySem.W PyProof.Rows
def code (p:Pr):Int:=p.1 * 8 + p.2
theorem xx {p q:Pr}(h1:Sm p)(h2:Sm q):code p < code q↔p.1 < q.1\/(p.1=q.1/\p.2 < q.2):=by
 unfold code Sm at *;omega
theorem code_inj {p q:Pr}(h1:Sm p)(h2:Sm q)(e:code p=code q):p=q:=by
 unfold code Sm at *
 refine Prod.ext ?_ ?_ <;> omega
section
variable {prog:Program}{w:World}{A:Around}{E:Value->Shared->Prop}{s:Shared}
abbrev p8 (ps:List Pr)(i:Nat):Int:=code (ps.getD i (0,0))
theorem yO {ps:List Pr}(nd:ps.Nodup)(hs:∀p,p∈ps->Sm p):L2.SO.Inj ps.length (p8 ps):=fun i j hi hj e=>by
 have a1:ps.getD i (0,0)=ps[i]:=by simp[hi]
 have a2:ps.getD j (0,0)=ps[j]:=by simp[hj]
 unfold p8 at e
 rw[a1,a2] at e
 have e':=code_inj (hs _ (List.getElem_mem hi)) (hs _ (List.getElem_mem hj)) e
 have q:=List.pairwise_iff_getElem.mp nd
 rcases Nat.lt_trichotomy i j with c |c |c
 ·exact absurd e' (q i j hi hj c)
 ·exact c
 ·exact absurd e'.symm (q j i hj hi c)
theorem Cr {a b:Addr}{p q:Pr}{Q:Bool->Shared->Prop}(ha:jb prog w s.heap p a)(hb:jb prog w s.heap q b)(hp:Sm p)(hq:Sm q)(h:Q (decide (code p < code q)) s) :
  wpAny (model prog w) A (keyLt' (tuples' true) (.ref a) (.ref b)) Q E s:=by
 obtain⟨oa,ia,na,hoa,hca,hda,hia⟩:=ha
 obtain⟨ob,ib,nb,hob,hcb,hdb,hib⟩:=hb
 obtain⟨l1,rfl⟩:∃l,ia=List.toArray l:=⟨ia.toList,by simp⟩
 obtain⟨l2,rfl⟩:∃l,ib=List.toArray l:=⟨ib.toList,by simp⟩
 simp only[List.toList_toArray] at hia hib
 cases hia with
 | @cons _ v1 _ _ h1 hia=>
  cases hia with
  | @cons _ v2 _ _ h2 hia=>
   cases hia
   cases hib with
   | @cons _ u1 _ _ g1 hib=>
    cases hib with
    | @cons _ u2 _ _ g2 hib=>
     cases hib
     obtain⟨t1,rfl⟩:=Value.isInt_shape h1
     obtain⟨t2,rfl⟩:=Value.isInt_shape h2
     obtain⟨t3,rfl⟩:=Value.isInt_shape g1
     obtain⟨t4,rfl⟩:=Value.isInt_shape g2
     refine kat_lt hoa hda hob hdb ?_
     have hc:=xx hp hq
     refine kat_cons (wpAny_eqBool_int ?_)
     by_cases e1:p.1=q.1
     ·rw[show (p.1 == q.1)=true by simpa using e1]
      refine kat_yes (kat_cons (wpAny_eqBool_int ?_))
      by_cases e2:p.2=q.2
      ·rw[show (p.2 == q.2)=true by simpa using e2]
       refine kat_yes (kat_nil ?_)
       have:decide (code p < code q)=false:=decide_eq_false (by rw[hc];omega)
       rw[this] at h
       simpa using h
      ·rw[show (p.2 == q.2)=false by simpa using e2]
       refine kat_no ?_
       show wpAny _ _ (oneLt' false _ _) _ _ _
       refine kat_one _ _ (lt_int ?_)
       have:decide (code p < code q)=decide (p.2 < q.2):=by
        by_cases z:p.2 < q.2
        ·rw[decide_eq_true z];exact decide_eq_true (hc.mpr (.inr ⟨e1,z⟩))
        ·rw[decide_eq_false z];exact decide_eq_false (by rw[hc];omega)
       rw[this] at h;exact h
     ·rw[show (p.1 == q.1)=false by simpa using e1]
      refine kat_no ?_
      show wpAny _ _ (oneLt' true _ _) _ _ _
      refine oneLt_int ?_
      have:decide (code p < code q)=decide (p.1 < q.1):=by
       by_cases z:p.1 < q.1
       ·rw[decide_eq_true z];exact decide_eq_true (hc.mpr (.inl z))
       ·rw[decide_eq_false z];exact decide_eq_false (by rw[hc];omega)
      rw[this] at h;exact h
theorem v5:∀{vs:List Value} {ps:List Pr},eT prog w s.heap vs ps->∃fs,KatTups s.heap vs fs/\fs.length=vs.length/\∀v∈fs,∃(i:Int) (t:Tok),v=.int i t
 | [],ps,_=>⟨[],KatTups.nil,rfl,fun v hv=>by cases hv⟩
 |v :: vs,[],h=>by have:=h.1;simp at this
 |v :: vs,p :: ps,h=>by
  obtain⟨a,rfl,⟨o,items,n,ho,hc,hd,hi⟩,_⟩:=h.2 0 v p rfl rfl
  obtain⟨fs,k,e,f⟩:=v5 (vs:=vs) (ps:=ps) ⟨by simpa using h.1,fun i v p h1 h2=>h.2 (i + 1) v p (by simpa using h1) (by simpa using h2)⟩
  obtain⟨l1,rfl⟩:∃l,items=List.toArray l:=⟨items.toList,by simp⟩
  simp only[List.toList_toArray] at hi
  cases hi with
  | @cons _ v1 _ _ h1 hi=>
   obtain⟨t1,rfl⟩:=Value.isInt_shape h1
   exact⟨_ :: fs,KatTups.cons ho hc hd rfl k,by simp[e],fun v hv=>by
    rcases List.mem_cons.mp hv with z |z
    ·exact⟨_,_,z⟩
    ·exact f v z⟩
theorem tH {a:Addr}{vs:List Value}{ps:List Pr}{n:Nat}{P:PySem.Fin->Shared->Prop}(ho:s.heap.get? a=some (seqObj "list" vs.toArray n))(hps:eT prog w s.heap vs ps)(nd:ps.Nodup)(h64:vs.length < 64)
  (h:∀(h':Heap) (c:Nat) (ix:Array Nat),L2.SO.Pm vs.length ix->L2.SO.Up (p8 ps) ix vs.length->(∀b o,b≠a->s.heap.get? b=some o->h'.get? b=some o)->
   h'.get? a=some (seqObj "list" (ix.toList.map fun i=>vs.getD i Value.none).toArray c)->P (.done (.ret .none)) {s with heap:=h'}) :
  wpAny (model prog w) A (Builtin.«list.sort» ⟨[.ref a],[]⟩) P E s:=by
 have ha:a < s.heap.objs.size:=Heap.lt_size ho
 obtain⟨e1,ho1⟩:∃e1,(s.heap.update a (Obj.mapSeq fun _=>(#[]:Array Value))).get? a=some (seqObj "list" #[] e1):=⟨_,get?_update_seq ho fun _=>#[]⟩
 generalize hH1:(s.heap.update a (Obj.mapSeq fun _=>(#[]:Array Value)))=H1 at ho1
 have sb1:Heap.SameBut a s.heap H1:=by rw[<-hH1];exact Heap.SameBut.update ..
 have kp2:∀b o,H1.get? b=some o->((H1.push (seqObj "tuple" vs.toArray 0)).push (seqObj "list" #[] 0)).get? b=some o:=fun b o e=>Heap.get?_push_of_some _ (Heap.get?_push_of_some _ e)
 generalize hH2:((H1.push (seqObj "tuple" vs.toArray 0)).push (seqObj "list" #[] 0))=H2 at kp2
 have kp:∀b o,b≠a->s.heap.get? b=some o->H2.get? b=some o:=fun b o hb e=>kp2 b o ((sb1.2 b hb).trans e)
 have ho2:=kp2 _ _ ho1
 have hps2:eT prog w H2 vs ps:=⟨hps.1,fun i v p h1 h2=>by
  obtain⟨b,e,⟨o,it,m,hb,hc,hd,r⟩,hs⟩:=hps.2 i v p h1 h2
  refine⟨b,e,⟨o,it,m,kp b o (fun z=>?_) hb,hc,hd,r⟩,hs⟩
  subst z
  rw[ho] at hb;cases hb
  exact absurd hc (by simp[seqObj])⟩
 have hz:vs.length<=sizeLine:=by rw[sizeLine_eq];omega
 rw[list_sort_plain]
 refine wpAny_bind (listItems_at ho rfl (wpAny_bind (listUpdate_at ho rfl ?_ (by simpa using hz) (Nat.zero_le _))))
 rw[hH1]
 refine wpAny_bind (seqEpoch_at (s:={s with heap:=H1}) ho1 rfl (wpAny_bind (wpAny_newTuple ?_ (by simpa using hz))))
 refine wpAny_bind (wpAny_newList ?_ (Nat.zero_le _))
 refine wpAny_holding ?_
 show wpAny (model prog w) A _ P E {s with heap:=(H1.push (seqObj "tuple" vs.toArray 0)).push (seqObj "list" #[] 0)}
 rw[hH2]
 have fin:∀(ix:Array Nat) (st:SortSt),L2.SO.Pm vs.length ix->L2.SO.Up (p8 ps) ix vs.length->(arrOf st).map (·.2)=List.toArray (ix.toList.map fun i=>vs.getD i Value.none)->failedOf st=none->
   wpAny (model prog w) A (do
    let sorted:=(arrOf st).map (·.2)
    let touched:=(<-seqEpoch a) != e1
    Builtin.List.listUpdate (.ref a) fun _=>sorted
    if let some e:=failedOf st then rule "list.sort.comparison-raised";throw e
    if touched then rule "list.sort.modified";raiseError "ValueError" "list modified during sort"
    ret .none) P E {s with heap:=H2}:=fun ix st P1 U1 hout hf=>by
  dsimp only
  rw[hout]
  have hsz:(List.toArray (ix.toList.map fun i=>vs.getD i Value.none)).size=vs.length:=by simp[P1.sz]
  refine wpAny_bind (seqEpoch_at (s:={s with heap:=H2}) ho2 rfl ?_)
  refine wpAny_bind (listUpdate_at (s:={s with heap:=H2}) ho2 rfl ?_ (Nat.zero_le _) (Nat.le_trans (Nat.le_of_eq hsz) (Nat.le_succ_of_le hz)))
  rw[hf]
  simp only[bne_self_eq_false,Bool.false_eq_true,if_false]
  obtain⟨c2,hc2⟩:∃c2,(H2.update a (Obj.mapSeq fun _=>List.toArray (ix.toList.map fun i=>vs.getD i Value.none))).get? a=some (seqObj "list" (List.toArray (ix.toList.map fun i=>vs.getD i Value.none)) c2):=⟨_,get?_update_seq ho2 fun _=>List.toArray (ix.toList.map fun i=>vs.getD i Value.none)⟩
  exact wpAny_pure (h _ c2 ix P1 U1 (fun b o hb e=>((Heap.SameBut.update H2 a _).2 b hb).trans (kp b o hb e)) hc2)
 by_cases h2:vs.length < 2
 ·have h2':vs.toArray.size < 2:=by simpa using h2
  dsimp only
  rw[if_pos h2',if_pos h2']
  refine wpAny_bind (wpAny_pure ?_)
  rw[StateT.run_pure]
  refine wpAny_bind (wpAny_pure ?_)
  refine fin (List.toArray (List.range vs.length)) (SortSt.mk' general' (vs.toArray.zip vs.toArray) #[] 7 none) (L2.SO.tW _) (fun i j hij hj=>by omega) ?_ rfl
  have:∀{l:List Value},l.length < 2->((l.toArray.zip l.toArray).map (·.2))=List.toArray ((List.range l.length).map fun i=>l.getD i Value.none):=fun {l} hl=>by
   match l,hl with
   | [],_=>simp
   | [x],_=>simp
  exact (this h2).trans (by simp)
 ·have h2':¬vs.toArray.size < 2:=by simpa using h2
  dsimp only
  rw[if_neg h2',if_neg h2']
  obtain⟨fs,kt,fl,ff⟩:=v5 (s:={s with heap:=H2}) hps2
  refine wpAny_bind (kat_kind (s:={s with heap:=H2}) (T:=.type "int") kt (by omega) (fun v hv=>?_) (by decide) ?_)
  ·obtain⟨i,t,rfl⟩:=ff v hv
   exact .now
  ·rw[show ((Value.type "int" != Value.type "tuple"):Bool)=true by decide]
   have hinj:L2.SO.Inj vs.length (p8 ps):=by
    rw[hps.1]
    refine yO nd fun p hp=>?_
    obtain⟨i,hi,e⟩:=List.mem_iff_getElem.mp hp
    have hi':i < vs.length:=by rw[hps.1];exact hi
    obtain⟨_,_,_,hs⟩:=hps.2 i vs[i] p (List.getElem?_eq_getElem hi') (by rw[List.getElem?_eq_getElem hi,e])
    exact hs
   obtain⟨ix,⟨er,ok⟩,P1,U1⟩:=L2.SO.yv hinj (by omega)
   refine wpAny_bind (wpAny_mono (kat_run (s:={s with heap:=H2}) (κ:=tuples' true) (ks:=vs) (Q:=fun st s'=>s'={s with heap:=H2}/\arrOf st=ix.map (kas_item (vs.toArray.zip vs.toArray))/\failedOf st=none)
    (G:=fun p s'=>p=ix/\s'={s with heap:=H2}) rfl (by omega) h64 (fun p st s' a1 a2 a3 a4=>?_) (L2.SO.wp_run (n:=vs.length) (lt:=L2.SO.mU (p8 ps)) _ (fun i j C hi hj hC=>?_) ok ⟨er,rfl⟩)) ?_ fun _ _ x=>x)
   ·obtain⟨rfl,rfl⟩:=a4
    exact⟨rfl,a2,a3⟩
   ·unfold kas_ask
    have hi':i < ps.length:=by rw[<-hps.1];exact hi
    have hj':j < ps.length:=by rw[<-hps.1];exact hj
    obtain⟨b1,eb1,hb1,s1⟩:=hps2.2 i vs[i] ps[i] (List.getElem?_eq_getElem hi) (List.getElem?_eq_getElem hi')
    obtain⟨b2,eb2,hb2,s2⟩:=hps2.2 j vs[j] ps[j] (List.getElem?_eq_getElem hj) (List.getElem?_eq_getElem hj')
    have e1:vs.getD i Value.none=.ref b1:=by rw[<-eb1];simp[hi]
    have e2:vs.getD j Value.none=.ref b2:=by rw[<-eb2];simp[hj]
    rw[e1,e2]
    refine Cr (s:={s with heap:=H2}) hb1 hb2 s1 s2 ?_
    have:L2.SO.mU (p8 ps) i j=decide (code ps[i] < code ps[j]):=by
     unfold L2.SO.mU p8;simp[hi',hj']
    rw[<-this];exact hC
   ·rintro⟨⟨⟩,st⟩ s' ⟨rfl,har,hf⟩
    exact fin ix st P1 U1 (kat_snds rfl har) hf
end
end L2.ST

end

section

end

section
namespace OM
abbrev Pr:=Int×Int
def yd (p q:Pr):Prop:=p.1 < q.1\/(p.1=q.1/\p.2 < q.2)
theorem jG (p:Pr):¬yd p p:=by unfold yd;omega
theorem xI {p q r:Pr}(a:yd p q)(b:yd q r):yd p r:=by unfold yd at *;omega
abbrev sN (l:List Pr):Prop:=l.Pairwise yd
theorem gE:∀{l m:List Pr},sN l->sN m->(∀x,x∈l↔x∈m)->l=m
 | [],[],_,_,_=>rfl
 | [],b :: m,_,_,h=>absurd ((h b).mpr (List.mem_cons_self ..)) (by simp)
 |a :: l,[],_,_,h=>absurd ((h a).mp (List.mem_cons_self ..)) (by simp)
 |a :: l,b :: m,hl,hm,h=>by
  have hl':=List.pairwise_cons.mp hl
  have hm':=List.pairwise_cons.mp hm
  have e:a=b:=by
   rcases List.mem_cons.mp ((h a).mp (List.mem_cons_self ..)) with e |e
   ·exact e
   ·rcases List.mem_cons.mp ((h b).mpr (List.mem_cons_self ..)) with e' |e'
    ·exact e'.symm
    ·exact absurd (xI (hm'.1 a e) (hl'.1 b e')) (jG _)
  subst e
  congr 1
  refine gE hl'.2 hm'.2 fun x=>⟨fun hx=>?_,fun hx=>?_⟩
  ·rcases List.mem_cons.mp ((h x).mp (List.mem_cons_of_mem _ hx)) with e |e
   ·subst e;exact absurd (hl'.1 x hx) (jG _)
   ·exact e
  ·rcases List.mem_cons.mp ((h x).mpr (List.mem_cons_of_mem _ hx)) with e |e
   ·subst e;exact absurd (hm'.1 x hx) (jG _)
   ·exact e
theorem gZ {l:List Pr}(h:sN l):l.Nodup:=h.imp fun {a b} hab e=>by subst e;exact jG _ hab
theorem dQ {l:List Pr}(p:Pr->Bool)(h:sN l):sN (l.filter p):=h.sublist List.filter_sublist
def bE (n:Nat):List Pr:=(List.range (n * n)).map fun k=>(((k / n:Nat):Int),((k % n:Nat):Int))
theorem bg {n:Nat}{p:Pr}:p∈bE n↔(0<=p.1/\p.1 < n)/\(0<=p.2/\p.2 < n):=by
 unfold bE
 rw[List.mem_map]
 constructor
 ·rintro⟨k,hk,rfl⟩
  have hk:=List.mem_range.mp hk
  have hn:0 < n:=by
   rcases Nat.eq_zero_or_pos n with e |e
   ·subst e;omega
   ·exact e
  have h1:k / n < n:=Nat.div_lt_of_lt_mul hk
  have h2:k % n < n:=Nat.mod_lt _ hn
  generalize k / n=q at h1
  generalize k % n=r at h2
  exact⟨⟨Int.natCast_nonneg _,by dsimp only;omega⟩,⟨Int.natCast_nonneg _,by dsimp only;omega⟩⟩
 ·rintro⟨⟨a0,a1⟩,⟨b0,b1⟩⟩
  have hn:0 < n:=by omega
  refine⟨p.1.toNat * n + p.2.toNat,List.mem_range.mpr ?_,?_⟩
  ·have h1:p.1.toNat + 1<=n:=by omega
   have h2:p.2.toNat < n:=by omega
   have:=Nat.mul_le_mul_right n h1
   rw[Nat.add_mul] at this
   omega
  ·have h2:p.2.toNat < n:=by omega
   have e1:(p.1.toNat * n + p.2.toNat) / n=p.1.toNat:=by
    rw[Nat.mul_comm,Nat.mul_add_div hn,Nat.div_eq_of_lt h2];rfl
   have e2:(p.1.toNat * n + p.2.toNat) % n=p.2.toNat:=by
    rw[Nat.mul_comm,Nat.mul_add_mod,Nat.mod_eq_of_lt h2]
   rw[e1,e2]
   refine Prod.ext ?_ ?_ <;> dsimp only <;> omega
theorem gi (n:Nat):sN (bE n):=by
 unfold bE
 refine List.pairwise_map.mpr (List.Pairwise.imp_of_mem ?_ List.pairwise_lt_range)
 intro a b ha hb hab
 have ha:=List.mem_range.mp ha
 have hb:=List.mem_range.mp hb
 have hn:0 < n:=by
  rcases Nat.eq_zero_or_pos n with e |e
  ·subst e;omega
  ·exact e
 have h1:a / n<=b / n:=Nat.div_le_div_right (Nat.le_of_lt hab)
 have e1:=Nat.div_add_mod a n
 have e2:=Nat.div_add_mod b n
 unfold yd
 dsimp only
 rcases Nat.lt_or_ge (a / n) (b / n) with c |c
 ·left;omega
 ·right
  have e:a / n=b / n:=by omega
  rw[e] at e1
  omega
open Classical in
noncomputable def gQ (n:Nat)(R:Int->Int->Prop):List Pr:=(bE n).filter fun p=>decide (R p.1 p.2)
theorem j6 {n:Nat}{R:Int->Int->Prop}{p:Pr}:p∈gQ n R↔((0<=p.1/\p.1 < n)/\(0<=p.2/\p.2 < n))/\R p.1 p.2:=by
 unfold gQ
 rw[List.mem_filter,bg]
 simp
theorem j8 (n:Nat)(R:Int->Int->Prop):sN (gQ n R):=dQ _ (gi n)
theorem ve {n:Nat}{R S:Int->Int->Prop}(h:∀a b:Int,0<=a->a < n->0<=b->b < n->(R a b↔S a b)):gQ n R=gQ n S:=by
 refine gE (j8 n R) (j8 n S) fun x=>?_
 rw[j6,j6]
 constructor
 ·rintro⟨⟨⟨a,b⟩,c,d⟩,r⟩;exact⟨⟨⟨a,b⟩,c,d⟩,(h _ _ a b c d).mp r⟩
 ·rintro⟨⟨⟨a,b⟩,c,d⟩,r⟩;exact⟨⟨⟨a,b⟩,c,d⟩,(h _ _ a b c d).mpr r⟩
def Wn (n:Nat)(l:List Pr):Prop:=∀p,p∈l->(0<=p.1/\p.1 < n)/\(0<=p.2/\p.2 < n)
abbrev Mem (l:List Pr)(a b:Int):Prop:=(a,b)∈l
theorem qg {n:Nat}{l:List Pr}(w:Wn n l)(r:sN l):gQ n (Mem l)=l:=by
 refine gE (j8 n _) r fun x=>?_
 rw[j6]
 exact⟨fun h=>h.2,fun h=>⟨w x h,h⟩⟩
theorem AX (n:Nat)(R:Int->Int->Prop):(gQ n R).length<=n * n:=by
 unfold gQ
 refine Nat.le_trans (List.length_filter_le ..) ?_
 unfold bE;simp
inductive Tr (R:Int->Int->Prop):Int->Int->Prop
 |one {a b}:R a b->Tr R a b
 |more {a b c}:R a b->Tr R b c->Tr R a c
theorem Tr.trans {R:Int->Int->Prop}{a b c:Int}(h:Tr R a b)(k:Tr R b c):Tr R a c:=by
 induction h with
 |one r=>exact .more r k
 |more r _ ih=>exact .more r (ih k)
theorem Tr.least {R S:Int->Int->Prop}(f:∀a b,R a b->S a b)(t:∀a b c,S a b->S b c->S a c){a b:Int}(h:Tr R a b):S a b:=by
 induction h with
 |one r=>exact f _ _ r
 |more r _ ih=>exact t _ _ _ (f _ _ r) ih
theorem Tr.wn {n:Nat}{l:List Pr}(w:Wn n l){a b:Int}(h:Tr (Mem l) a b):(0<=a/\a < n)/\(0<=b/\b < n):=by
 induction h with
 |one r=>exact w _ r
 |more r _ ih=>exact⟨(w _ r).1,ih.2⟩
structure Ord (n:Nat)(l:List Pr):Prop where
 lo:1<=n
 hi:n<=8
 wn:Wn n l
 ris:sN l
 irr:∀a,(a,a)∉l
 tr:∀a b c,(a,b)∈l->(b,c)∈l->(a,c)∈l
theorem Ord.tr_mem {n:Nat}{l:List Pr}(O:Ord n l){a b:Int}:Tr (Mem l) a b↔(a,b)∈l:=
 ⟨fun h=>h.least (fun _ _ r=>r) fun a b c=>O.tr a b c,fun h=>.one h⟩
theorem Ord.closed {n:Nat}{l:List Pr}(O:Ord n l):gQ n (Tr (Mem l))=l:=by
 rw[ve (S:=Mem l) fun a b _ _ _ _=>O.tr_mem,qg O.wn O.ris]
theorem uI {l m:List Pr}(hl:l.Nodup)(h:∀x,x∈l->x∈m):l.length<=m.length:=by
 induction l generalizing m with
 |nil=>exact Nat.zero_le _
 |cons a l ih=>
  have ha:=h a (List.mem_cons_self ..)
  have hl':=List.nodup_cons.mp hl
  have:=ih (m:=m.erase a) hl'.2 fun x hx=>by
   refine (List.mem_erase_of_ne ?_).mpr (h x (List.mem_cons_of_mem _ hx))
   rintro rfl;exact hl'.1 hx
  rw[List.length_erase_of_mem ha] at this
  have:0 < m.length:=List.length_pos_of_mem ha
  simp only[List.length_cons];omega
theorem sub_eq {l m:List Pr}(hl:sN l)(hm:sN m)(h:∀x,x∈l->x∈m)(e:l.length=m.length):l=m:=by
 refine gE hl hm fun x=>⟨h x,fun hx=>Classical.byContradiction fun hn=>?_⟩
 have:=uI (l:=x :: l) (m:=m) (List.nodup_cons.mpr ⟨hn,gZ hl⟩) fun y hy=>by
  rcases List.mem_cons.mp hy with e |e
  ·subst e;exact hx
  ·exact h y e
 simp only[List.length_cons] at this
 omega
def more (l:List Pr):List Pr:=l.flatMap fun p=>(l.filter fun q=>decide (q.1=p.2)).map fun q=>(p.1,q.2)
abbrev Tb:=Nat->Nat->Bool
def Tb.set (M:Tb)(a b:Nat):Tb:=fun x y=>if x=a/\y=b then true else M x y
def CO (M:Tb)(m:Nat):Prop:=∀k a b,k < m->M a k=true->M k b=true->M a b=true
def Phase (M0 M:Tb)(m:Nat)(D:Nat->Nat->Prop):Prop:=∀a b,M a b=true↔M0 a b=true\/(D a b/\M0 a m=true/\M0 m b=true)
theorem Phase.start (M:Tb)(m:Nat):Phase M M m fun _ _=>False:=fun a b=>by simp
theorem Phase.row {M0 M:Tb}{m:Nat}{D:Nat->Nat->Prop}(P:Phase M0 M m D)(a:Nat):M a m=true↔M0 a m=true:=by
 rw[P]
 exact⟨fun h=>h.elim id fun h=>h.2.1,.inl⟩
theorem Phase.col {M0 M:Tb}{m:Nat}{D:Nat->Nat->Prop}(P:Phase M0 M m D)(b:Nat):M m b=true↔M0 m b=true:=by
 rw[P]
 exact⟨fun h=>h.elim id fun h=>h.2.2,.inl⟩
theorem Phase.step {M0 M:Tb}{m:Nat}{D:Nat->Nat->Prop}(P:Phase M0 M m D)(x y:Nat) :
  Phase M0 (if M x m=true/\M m y=true then M.set x y else M) m (fun a b=>D a b\/(a=x/\b=y)):=fun a b=>by
 have r:=P.row x
 have c:=P.col y
 by_cases h:M x m=true/\M m y=true
 ·rw[if_pos h]
  unfold Tb.set
  by_cases e:a=x/\b=y
  ·rw[if_pos e]
   obtain⟨rfl,rfl⟩:=e
   simp only[true_iff]
   exact .inr ⟨.inr (by simp),r.mp h.1,c.mp h.2⟩
  ·rw[if_neg e,P]
   constructor
   ·rintro (q | ⟨d,q⟩)
    ·exact .inl q
    ·exact .inr ⟨.inl d,q⟩
   ·rintro (q | ⟨d |d,q⟩)
    ·exact .inl q
    ·exact .inr ⟨d,q⟩
    ·exact absurd d e
 ·rw[if_neg h,P]
  constructor
  ·rintro (q | ⟨d,q⟩)
   ·exact .inl q
   ·exact .inr ⟨.inl d,q⟩
  ·rintro (q | ⟨d | ⟨rfl,rfl⟩,q1,q2⟩)
   ·exact .inl q
   ·exact .inr ⟨d,q1,q2⟩
   ·exact absurd ⟨r.mpr q1,c.mpr q2⟩ h
theorem Phase.done {M0 M:Tb}{m n:Nat}{D:Nat->Nat->Prop}(P:Phase M0 M m D)(hD:∀a b,a < n->b < n->D a b)(hM:∀a b,M0 a b=true->a < n/\b < n)(T:CO M0 m) :
  CO M (m + 1)/\∀a b,M a b=true->a < n/\b < n:=by
 have hM':∀a b,M a b=true->a < n/\b < n:=fun a b h=>by
  rcases (P a b).mp h with q | ⟨_,q1,q2⟩
  ·exact hM a b q
  ·exact⟨(hM _ _ q1).1,(hM _ _ q2).2⟩
 have put:∀a b,M0 a m=true->M0 m b=true->M a b=true:=fun a b h1 h2=>(P a b).mpr (.inr ⟨hD a b (hM _ _ h1).1 (hM _ _ h2).2,h1,h2⟩)
 refine⟨fun k a b hk h1 h2=>?_,hM'⟩
 rcases Nat.lt_or_ge k m with c |c
 ·rcases (P a k).mp h1 with q1 | ⟨_,q1,q1'⟩
  ·rcases (P k b).mp h2 with q2 | ⟨_,q2,q2'⟩
   ·exact (P a b).mpr (.inl (T k a b c q1 q2))
   ·exact put a b (T k a m c q1 q2) q2'
  ·rcases (P k b).mp h2 with q2 | ⟨_,q2,q2'⟩
   ·exact put a b q1 (T k m b c q1' q2)
   ·exact put a b q1 q2'
 ·have e:k=m:=by omega
  subst e
  exact put a b ((P.row a).mp h1) ((P.col b).mp h2)
structure Tab (n:Nat)(ps:List Pr)(M:Tb):Prop where
 inn:∀a b,M a b=true->a < n/\b < n
 sub:∀a b:Nat,((a:Int),(b:Int))∈ps->M a b=true
 sup:∀a b:Nat,M a b=true->Tr (Mem ps) a b
theorem Tab.phase {n:Nat}{ps:List Pr}{M0 M:Tb}{m:Nat}{D:Nat->Nat->Prop}(T:Tab n ps M0)(P:Phase M0 M m D):Tab n ps M:=
 ⟨fun a b h=>by
  rcases (P a b).mp h with q | ⟨_,q1,q2⟩
  ·exact T.inn a b q
  ·exact⟨(T.inn _ _ q1).1,(T.inn _ _ q2).2⟩,
  fun a b h=>(P a b).mpr (.inl (T.sub a b h)),
  fun a b h=>by
  rcases (P a b).mp h with q | ⟨_,q1,q2⟩
  ·exact T.sup a b q
  ·exact (T.sup _ _ q1).trans (T.sup _ _ q2)⟩
theorem Tab.all {n:Nat}{ps:List Pr}{M:Tb}(w:Wn n ps)(T:Tab n ps M)(H:CO M n)(a b:Nat):M a b=true↔Tr (Mem ps) a b:=by
 refine⟨T.sup a b,fun h=>?_⟩
 have key:∀{x y:Int},Tr (Mem ps) x y->M x.toNat y.toNat=true:=fun {x y} h=>by
  induction h with
  | @one x y r=>
   have:=w _ r
   refine T.sub _ _ ?_
   have e1:((x.toNat:Nat):Int)=x:=by simp only at this;omega
   have e2:((y.toNat:Nat):Int)=y:=by simp only at this;omega
   rw[e1,e2];exact r
  | @more x y z r _ ih=>
   have:=w _ r
   have e1:((x.toNat:Nat):Int)=x:=by simp only at this;omega
   have e2:((y.toNat:Nat):Int)=y:=by simp only at this;omega
   have q:M x.toNat y.toNat=true:=T.sub _ _ (by rw[e1,e2];exact r)
   exact H y.toNat _ _ (T.inn _ _ q).2 q ih
 have:=key h
 simpa using this
end OM

end

section
namespace L2.ST
open PySem PySem.SetTable PySem.W PyProof.Rows
section
variable {prog:Program}{w:World}{A:Around}{E:Value->Shared->Prop}{s:Shared}
theorem EB {ps:List Pr}(hs:∀p,p∈ps->Sm p){ix:Array Nat}(P:L2.SO.Pm ps.length ix)(U:L2.SO.Up (p8 ps) ix ps.length):OM.sN (ix.toList.map fun i=>ps.getD i (0,0)):=by
 refine List.pairwise_map.mpr (List.pairwise_iff_getElem.mpr fun i j hi hj hij=>?_)
 have hi':i < ix.size:=by simpa using hi
 have hj':j < ix.size:=by simpa using hj
 have q:=U i j hij (by rw[<-P.sz];exact hj')
 unfold L2.SO.Kp p8 at q
 have ei:ix.getD i 0=ix.toList[i]:=by simp[Array.getD,hi']
 have ej:ix.getD j 0=ix.toList[j]:=by simp[Array.getD,hj']
 rw[ei,ej] at q
 have ai:ix.toList[i] < ps.length:=P.lt _ (by simp)
 have aj:ix.toList[j] < ps.length:=P.lt _ (by simp)
 have bi:Sm (ps.getD ix.toList[i] (0,0)):=by rw[List.getD_eq_getElem?_getD,List.getElem?_eq_getElem ai];exact hs _ (List.getElem_mem ai)
 have bj:Sm (ps.getD ix.toList[j] (0,0)):=by rw[List.getD_eq_getElem?_getD,List.getElem?_eq_getElem aj];exact hs _ (List.getElem_mem aj)
 exact (xx bi bj).mp q
theorem DS {n:Nat}{ix:Array Nat}(P:L2.SO.Pm n ix){k:Nat}(hk:k < n):k∈ix.toList:=by
 refine Classical.byContradiction fun hn=>?_
 have:=gS (l:=k :: ix.toList) (m:=List.range n) (List.nodup_cons.mpr ⟨hn,P.nd⟩) fun x hx=>by
  rcases List.mem_cons.mp hx with e |e
  ·rw[e];exact List.mem_range.mpr hk
  ·exact List.mem_range.mpr (P.lt x (by simpa using e))
 simp[P.sz] at this
 omega
theorem GN {h:Heap}{vs:List Value}{ps:List Pr}(hps:eT prog w h vs ps){ix:Array Nat}(P:L2.SO.Pm vs.length ix) :
  eT prog w h (ix.toList.map fun i=>vs.getD i Value.none) (ix.toList.map fun i=>ps.getD i (0,0)):=by
 refine⟨by simp,fun i v p h1 h2=>?_⟩
 rw[List.getElem?_map] at h1 h2
 cases e:ix.toList[i]? with
 |none=>rw[e] at h1;cases h1
 |some k=>
  rw[e] at h1 h2
  have hk:k < vs.length:=P.lt k (by simpa using List.mem_of_getElem? e)
  have hk':k < ps.length:=by rw[<-hps.1];exact hk
  simp[hk,hk'] at h1 h2
  exact hps.2 k v p (by rw[List.getElem?_eq_getElem hk,h1]) (by rw[List.getElem?_eq_getElem hk',h2])
theorem xH {v:Value}{vs:List Value}{ps:List Pr}{Q:Value->Shared->Prop}(hps:eT prog w s.heap vs ps)(nd:ps.Nodup)(h64:vs.length < 64)
  (hcol:∀(Q':List Value->Shared->Prop),(∀h' tk,(∀b o,s.heap.get? b=some o->h'.get? b=some o)->Q' vs {s with heap:=h',toks:=tk})->wpAny (model prog w) A.in1 (collect v) Q' (fun e s'=>E e s') s)
  (h:∀(h1 h':Heap) (tk:Nat) (D:Addr) (out:List Value) (qs:List Pr) (c:Nat),(∀b o,s.heap.get? b=some o->h1.get? b=some o)->D=h1.objs.size->(∀b o,h1.get? b=some o->h'.get? b=some o)->h'.get? D=some (seqObj "list" out.toArray c)->eT prog w h' out qs->(∀u,u∈out->u∈vs)->OM.sN qs->(∀p,p∈qs↔p∈ps)->
   Q (.ref D) {s with heap:=h',toks:=tk}):wpAny (model prog w) A (call (.builtin "sorted") [v]) Q E s:=by
 have hsm:∀p,p∈ps->Sm p:=fun p hp=>by
  obtain⟨i,hi,e⟩:=List.mem_iff_getElem.mp hp
  have hi':i < vs.length:=by rw[hps.1];exact hi
  obtain⟨_,_,_,hs⟩:=hps.2 i vs[i] p (List.getElem?_eq_getElem hi') (by rw[List.getElem?_eq_getElem hi,e])
  exact hs
 (refine Calls.call_function_entry kind_sorted plain_sorted entry_sorted (args_sorted1 _) ?_)
 unfold Builtin.«sorted»
 refine wpAny_bind (m:=checkCount "sorted" 1 1 ([v]:List Value).length) (wpAny_pure ?_)
 refine wpAny_bind (hcol _ fun h1 tk1 k1=>?_)
 have hz:vs.length<=sizeLine:=by rw[sizeLine_eq];omega
 refine wpAny_bind (wpAny_newList ?_ hz)
 show wpAny _ _ _ _ _ {s with heap:=h1.push (seqObj "list" vs.toArray 0),toks:=tk1}
 have hoL:(h1.push (seqObj "list" vs.toArray 0)).get? h1.objs.size=some (seqObj "list" vs.toArray 0):=Heap.get?_push_size _ rfl
 have kp:∀b o,s.heap.get? b=some o->(h1.push (seqObj "list" vs.toArray 0)).get? b=some o:=fun b o e=>Heap.get?_push_of_some _ (k1 b o e)
 have hp1:eT prog w (h1.push (seqObj "list" vs.toArray 0)) vs ps:=⟨hps.1,fun i v p a b=>by
  obtain⟨c,e,⟨o,it,n,ho,r⟩,hs⟩:=hps.2 i v p a b
  exact⟨c,e,⟨o,it,n,kp _ _ ho,r⟩,hs⟩⟩
 have hne:∀b o,s.heap.get? b=some o->b≠h1.objs.size:=fun b o e=>Nat.ne_of_lt (Heap.lt_size (k1 b o e))
 refine wpAny_bind (wpAny_holding (wpAny_call_entry slot_list_sort ⟨_,hoL,rfl⟩ entry_list_sort ?_ (args_list_sort _)))
 refine tH (s:={s with heap:=h1.push (seqObj "list" vs.toArray 0),toks:=tk1}) hoL hp1 nd h64 fun h' c ix P U hk ho=>?_
 refine⟨_,rfl,wpAny_pure ⟨_,rfl,?_⟩⟩
 have kk:∀b o,s.heap.get? b=some o->h'.get? b=some o:=fun b o e=>hk b o (hne b o e) (kp b o e)
 have P':L2.SO.Pm ps.length ix:=by rw[<-hps.1];exact P
 have k2:∀b o,h1.get? b=some o->h'.get? b=some o:=fun b o e=>hk b o (Nat.ne_of_lt (Heap.lt_size e)) (Heap.get?_push_of_some _ e)
 refine h h1 h' tk1 h1.objs.size _ (ix.toList.map fun i=>ps.getD i (0,0)) c k1 rfl k2 ho (GN ⟨hps.1,fun i v p a b=>?_⟩ P) (fun u hu=>?_) (EB hsm P' (by rw[<-hps.1];exact U)) fun p=>⟨fun hp=>?_,fun hp=>?_⟩
 ·obtain⟨c,e,⟨o,it,n,ho,r⟩,hs⟩:=hps.2 i v p a b
  exact⟨c,e,⟨o,it,n,kk _ _ ho,r⟩,hs⟩
 ·obtain⟨i,hi,rfl⟩:=List.mem_map.mp hu
  have:i < vs.length:=P.lt i (by simpa using hi)
  rw[List.getD_eq_getElem?_getD,List.getElem?_eq_getElem this]
  exact List.getElem_mem this
 ·obtain⟨i,hi,rfl⟩:=List.mem_map.mp hp
  have:i < ps.length:=P'.lt i (by simpa using hi)
  rw[List.getD_eq_getElem?_getD,List.getElem?_eq_getElem this]
  exact List.getElem_mem this
 ·obtain⟨i,hi,e⟩:=List.mem_iff_getElem.mp hp
  refine List.mem_map.mpr ⟨i,DS P' hi,?_⟩
  rw[List.getD_eq_getElem?_getD,List.getElem?_eq_getElem hi,e];rfl
end
end L2.ST

end

section
namespace L2
open PySem PySem.Spec PyProof.Rows
abbrev Pr:=Int×Int
abbrev Sm:=L2.ST.Sm
section
variable {X:Cx}{pins:List (Addr×Obj)}{σ:St}{H H':Hp}{s:Shared}
def hR (H H':Hp):Prop:=(∀b xs,H b=some (.tup xs)->H' b=some (.tup xs))/\∀b o u,H b=some (.a9 o u)->H' b=some (.a9 o u)
theorem hR.refl (H:Hp):hR H H:=⟨fun _ _ h=>h,fun _ _ _ h=>h⟩
theorem hR.trans {H H1 H2:Hp}(a:hR H H1)(b:hR H1 H2):hR H H2:=⟨fun c xs h=>b.1 c xs (a.1 c xs h),fun c o u h=>b.2 c o u (a.2 c o u h)⟩
theorem aq.grow {H H':Hp}(e:aq H H'):hR H H':=⟨fun b xs h=>e b _ h,fun b o u h=>e b _ h⟩
theorem hR.new {H:Hp}{l:Addr}{o:HO}(h:H l=none):hR H (upd H l o):=⟨fun b xs e=>by rw[aB (aI e h)];exact e,fun b o' u e=>by rw[aB (aI e h)];exact e⟩
theorem aq.new {H:Hp}{l:Addr}{o:HO}(h:H l=none):aq H (upd H l o):=fun b u e=>by rw[aB (aI e h)];exact e
theorem eh.grow {K:PySem.W.Frag}{a:Addr}{xs:List V}(h:eh K H a xs)(g:hR H H'):eh K H' a xs:=by
 rcases h with (h | ⟨o,h⟩) |h
 ·exact .inl (.inl (g.1 _ _ h))
 ·exact .inl (.inr ⟨o,g.2 _ _ _ h⟩)
 ·exact .inr h
theorem hR.list {a:Addr}{ys:List V}{o:HO}(h:H a=some (.lst ys)):hR H (upd H a o):=
 ⟨fun b xs e=>by rw[aB (C9 e h (by intro z;cases z))];exact e,fun b o' u e=>by rw[aB (C9 e h (by intro z;cases z))];exact e⟩
def a8 (K:PySem.W.Frag)(H:Hp):List V->List Pr->Prop:=Paired fun v p=>∃a,v=.ref a/\eh K H a [.int p.1,.int p.2]
theorem a8.grow {K:PySem.W.Frag}{vs:List V}{ps:List Pr}(h:a8 K H vs ps)(g:hR H H'):a8 K H' vs ps:=Paired.mapP h fun v p ⟨a,e,q⟩=>⟨a,e,q.grow g⟩
theorem Paired.getP {α β:Type}{F:α->β->Prop}:∀{l:List α} {m:List β} {i:Nat} {x:α},Paired F l m->l[i]? =some x->∃y,m[i]? =some y/\F x y
 |_,_,_,_,.nil,e=>by simp at e
 |_,_,0,_,.cons r _,e=>by simp at e;subst e;exact⟨_,rfl,r⟩
 |_,_,i + 1,x,.cons _ t,e=>by
  obtain⟨u,h1,h2⟩:=Paired.getP (i:=i) (x:=x) t (by simpa using e)
  exact⟨u,by simpa using h1,h2⟩
theorem Paired.getQ {α β:Type}{F:α->β->Prop}:∀{l:List α} {m:List β} {i:Nat} {y:β},Paired F l m->m[i]? =some y->∃x,l[i]? =some x/\F x y
 |_,_,_,_,.nil,e=>by simp at e
 |_,_,0,_,.cons r _,e=>by simp at e;subst e;exact⟨_,rfl,r⟩
 |_,_,i + 1,x,.cons _ t,e=>by
  obtain⟨u,h1,h2⟩:=Paired.getQ (i:=i) (y:=x) t (by simpa using e)
  exact⟨u,by simpa using h1,h2⟩
theorem xu (I:Inv X pins σ H s){a:Addr}{p:Pr}(h:eh X.K H a [.int p.1,.int p.2]):L2.ST.jb X.prog X.w s.heap p a:=by
 obtain⟨its,r,⟨o,ho,hc,n,hd⟩,_⟩:=I.tuple h
 cases r with
 |cons r1 r=>
  cases r with
  |cons r2 r=>
   cases r
   obtain⟨t1,rfl⟩:=r1
   obtain⟨t2,rfl⟩:=r2
   exact⟨o,_,n,ho,hc,hd,.cons (intKind_is ..) (.cons (intKind_is ..) .nil)⟩
theorem pairs_at (I:Inv X pins σ H s){vs:List V}{us:List Value}{ps:List Pr}(hv:Vals vs us)(h:a8 X.K H vs ps)(hs:∀p,p∈ps->Sm p):L2.ST.eT X.prog X.w s.heap us ps:=by
 refine⟨by rw[<-hv.length];exact Paired.length h,fun i u p e1 e2=>?_⟩
 obtain⟨v,ev,a,rfl,q⟩:=Paired.getQ h e2
 obtain⟨u',eu,ru⟩:=hv.get ev
 rw[e1] at eu;cases eu
 cases ru
 exact⟨a,rfl,xu I q,hs p (List.mem_of_getElem? e2)⟩
theorem oQ (I:Inv X pins σ H s){vs:List V}{us:List Value}{ps:List Pr}(hv:Vals vs us)(h:a8 X.K H vs ps){h':Heap}(k:∀b o,s.heap.get? b=some o->h'.get? b=some o):∀{out:List Value} {qs:List Pr},
  (∀u,u∈out->u∈us)->L2.ST.eT X.prog X.w h' out qs->∃ws,Vals ws out/\a8 X.K H ws qs
 | [],[],_,_=>⟨[],.nil,.nil⟩
 | [],_ :: _,_,hp=>by have:=hp.1;simp at this
 |_ :: _,[],_,hp=>by have:=hp.1;simp at this
 |u :: out,q :: qs,hm,hp=>by
  obtain⟨ws,a1,a2⟩:=oQ I hv h k (out:=out) (qs:=qs) (fun x hx=>hm x (List.mem_cons_of_mem _ hx)) ⟨by have:=hp.1;simpa using this,fun i v p e1 e2=>hp.2 (i + 1) v p (by simpa using e1) (by simpa using e2)⟩
  obtain⟨i,hi,e⟩:=List.mem_iff_getElem.mp (hm u (List.mem_cons_self ..))
  have hi':i < vs.length:=by rw[hv.length];exact hi
  obtain⟨u',eu,ru⟩:=hv.get (List.getElem?_eq_getElem hi')
  rw[List.getElem?_eq_getElem hi,e] at eu
  cases eu
  obtain⟨p,ep,a,ea,qa⟩:=Paired.getP h (List.getElem?_eq_getElem hi')
  rw[ea] at ru
  cases ru
  obtain⟨b,eb,hb,_⟩:=hp.2 0 (.ref a) q rfl rfl
  cases eb
  have pa:L2.ST.jb X.prog X.w h' p a:=by
   obtain⟨o,it,n,ho,r⟩:=xu I qa
   exact⟨o,it,n,k _ _ ho,r⟩
  have:p=q:=L2.ST.jb.inj pa hb
  subst this
  exact⟨.ref a :: ws,.cons rfl a1,.cons ⟨a,rfl,qa⟩ a2⟩
def wI (K:PySem.W.Frag):List V->Hp->VK->Prop:=fun xs H Q=>∃a vs ps,xs= [.ref a]/\hZ K H a vs/\a8 K H vs ps/\(∀p,p∈ps->Sm p)/\ps.Nodup/\ps.length < 64/\
 ∀l ws qs,H l=none->a8 K H ws qs->OM.sN qs->(∀p,p∈qs↔p∈ps)->Q (.ref l) (upd H l (.lst ws))
theorem u9 (I:Inv X pins σ H s){vs:List V}{us:List Value}{ps:List Pr}(hv:Vals vs us)(hp:a8 X.K H vs ps)(hlen:ps.length < 64){Q:VK}
  (q:∀l ws qs,H l=none->a8 X.K H ws qs->OM.sN qs->(∀p,p∈qs↔p∈ps)->Q (.ref l) (upd H l (.lst ws)))
  {h1 h':Heap} {tk:Nat} {D:Addr} {out:List Value} {qs:List Pr} {c:Nat} (k1:∀b o,s.heap.get? b=some o->h1.get? b=some o) (eD:D=h1.objs.size) (k2:∀b o,h1.get? b=some o->h'.get? b=some o)
  (ho:h'.get? D=some (seqObj "list" out.toArray c)) (hpq:L2.ST.eT X.prog X.w h' out qs) (hm:∀u,u∈out->u∈us) (hr:OM.sN qs) (hmem:∀p,p∈qs↔p∈ps):EP X pins σ Q (.ref D) {s with heap:=h',toks:=tk}:=by
 obtain⟨ws,r1,r2⟩:=oQ I hv hp (fun b o e=>k2 b o (k1 b o e)) hm hpq
 have I1:Inv X pins σ H {s with heap:=h1,toks:=tk}:=I.kept k1
 have hf:H D=none:=by rw[eD];exact I1.hok.fresh (Nat.le_refl _)
 have hz:ws.length<=sizeLine:=by
  have e1:=r1.length
  have e2:out.length=qs.length:=hpq.1
  have e3:=OM.uI (OM.gZ hr) fun x hx=>(hmem x).mp hx
  rw[sizeLine_eq];omega
 have I2:Inv X pins σ (upd H D (.lst ws)) {s with heap:=h',toks:=tk}:=I1.laid (t':=tk) k2 (by rw[eD];exact Nat.le_refl _) (show cJ X.prog X.w _ h' _ (.lst ws) from⟨hz,out,c,r1,ho⟩)
 exact⟨.ref D,_,I2,rfl,q D ws qs hf r2 hr hmem⟩
theorem mZ:c7 X (.builtin "sorted") (wI X.K):=by
 intro pins s σ H xs us Q I r h
 obtain⟨a,vs,ps,rfl,hq,hp,hs,nd,hl,q⟩:=h
 obtain⟨u,rfl,rx⟩:=vals1 r
 cases rx
 obtain⟨its,rv,pl,hz⟩:=I.list hq
 have hpa:=pairs_at I rv hp hs
 have h64:its.length < 64:=by rw[hpa.1];exact hl
 refine L2.ST.xH (v:=.ref a) hpa nd h64 (fun Q' hQ'=>collect_list pl.isList ?_ (by rw[sizeLine_eq];omega)) fun h1 h' tk D out qs c k1 eD k2 ho hpq hm hr hmem=>?_
 ·exact hQ' _ s.toks fun b o e=>by
   rw[Heap.get?_update_ne _ _ _ _ (Nat.ne_of_lt (Heap.lt_size e)),Heap.get?_push_ne _ _ _ (Nat.ne_of_lt (Heap.lt_size e))];exact e
 ·exact u9 I rv hp hl q k1 eD k2 ho hpq hm hr hmem
abbrev pq (qs:List (Addr×Pr)):List Pr:=qs.map (·.2)
end
end L2

end

section
namespace L2
open PySem PySem.Spec PyProof.Rows
def mH (cells:List (Str×Addr)):List (Str×NameKind)->List (Str×Addr)->List (Str×Addr)
 | [],cs=>cs
 | (n,k) :: r,cs=>mH cells r (if k == .free then (n,(cells.lookup n).getD 0) :: cs else cs)
theorem oh {scope:Scope}{env:Env}(h:∀y∈scope.names,y.2=.free->∃c,env.cells.lookup y.1=some c):closureFor scope env=pure (mH env.cells scope.names []):=by
 unfold closureFor
 have key:∀(l:List (Str×NameKind)) (cs:List (Str×Addr)),(∀y∈l,y.2=.free->∃c,env.cells.lookup y.1=some c)->
   (forIn l cs (fun (x:Str×NameKind) (r:List (Str×Addr))=>if (x.2 == NameKind.free)=true then (do let a <-cellOf env x.1;pure (ForInStep.yield ((x.1,a) :: r)):Sem _) else pure (ForInStep.yield r)):Sem (List (Str×Addr)))=pure (mH env.cells l cs):=by
  intro l
  induction l with
  |nil=>intro cs _;rfl
  |cons y l ih=>
   intro cs hy
   obtain⟨n,k⟩:=y
   rw[List.forIn_cons]
   unfold mH
   by_cases hk:(k == NameKind.free)=true
   ·have hk':k=.free:=by simpa using hk
    obtain⟨c,hc⟩:=hy (n,k) (List.mem_cons_self ..) hk'
    have hce:cellOf env n=pure c:=by unfold cellOf;rw[hc]
    simp only[hk,if_true]
    have hc':env.cells.lookup n=some c:=hc
    rw[hce,hc']
    simp only[pure_bind,Option.getD_some]
    exact ih _ fun z hz=>hy z (List.mem_cons_of_mem _ hz)
   ·simp only[hk,if_false,Bool.false_eq_true]
    simp only[pure_bind]
    exact ih _ fun z hz=>hy z (List.mem_cons_of_mem _ hz)
 have:=key scope.names [] h
 simp only[bind_pure_comp] at this ⊢
 first
  |exact this
  | (rw[this];rfl)
  | (simpa using this)
theorem mQ {cells:List (Str×Addr)}{x:Str}:∀{l:List (Str×NameKind)} {cs:List (Str×Addr)},((x,NameKind.free)∈l\/cs.lookup x=some ((cells.lookup x).getD 0))->(mH cells l cs).lookup x=some ((cells.lookup x).getD 0)
 | [],cs,h=>by
  rcases h with h |h
  ·cases h
  ·exact h
 | (n,k) :: r,cs,h=>by
  unfold mH
  refine mQ ?_
  by_cases hk:(k == NameKind.free)=true
  ·rw[if_pos hk]
   by_cases hx:x=n
   ·subst hx;right;simp
   ·rcases h with h |h
    ·rcases List.mem_cons.mp h with e |e
     ·injection e with e1 _;exact absurd e1 hx
     ·exact .inl e
    ·right
     rw[List.lookup_cons,show (x == n)=false by simpa using hx]
     exact h
  ·rw[if_neg hk]
   rcases h with h |h
   ·rcases List.mem_cons.mp h with e |e
    ·injection e with _ e2;exact absurd (by rw[<-e2];rfl) hk
    ·exact .inl e
   ·exact .inr h
theorem ml {cells:List (Str×Addr)}{x:Str}{c:Addr}:∀{l:List (Str×NameKind)} {cs:List (Str×Addr)},(mH cells l cs).lookup x=some c->((x,NameKind.free)∈l/\c=(cells.lookup x).getD 0)\/cs.lookup x=some c
 | [],cs,h=>.inr h
 | (n,k) :: r,cs,h=>by
  unfold mH at h
  rcases ml h with⟨a,b⟩ |a
  ·exact .inl ⟨List.mem_cons_of_mem _ a,b⟩
  ·by_cases hk:(k == NameKind.free)=true
   ·rw[if_pos hk,List.lookup_cons] at a
    by_cases hx:x=n
    ·subst hx
     simp at a
     have:k=.free:=by simpa using hk
     subst this
     exact .inl ⟨List.mem_cons_self ..,a.symm⟩
    ·rw[show (x == n)=false by simpa using hx] at a
     exact .inr a
   ·rw[if_neg hk] at a
    exact .inr a
theorem ng {f:Str->NameKind->NameKind}{x:Str}:∀(l:List (Str×NameKind)),(l.map fun y=>(y.1,f y.1 y.2)).lookup x=(l.lookup x).map (f x)
 | []=>rfl
 | (n,k) :: l=>by
  rw[List.map_cons,List.lookup_cons,List.lookup_cons]
  by_cases hx:x=n
  ·subst hx;simp
  ·have hb:(x == n)=false:=by simpa using hx
   simp only[hb]
   exact ng l
theorem pf (scope:Scope)(env:Env)(x:Str):(relabel scope env).names.lookup x=(scope.names.lookup x).map fun k=>if (k == .free && env.scope.kind == .function && env.kindOf x == some .cell) then .cell else k:=by
 have e:(relabel scope env).names=scope.names.map fun y=>(y.1,if (y.2 == .free && env.scope.kind == .function && env.kindOf y.1 == some .cell) then .cell else y.2):=by
  unfold relabel
  dsimp only
  refine List.map_congr_left fun y _=>?_
  obtain⟨n,k⟩:=y
  dsimp only
  split <;> rfl
 rw[e]
 exact ng (f:=fun n k=>if (k == .free && env.scope.kind == .function && env.kindOf n == some .cell) then .cell else k) scope.names
def jd (X:Cx)(NB:List Str)(scope:Scope)(C:Addr)(ex:List Addr)(s3:Shared)(H3:Hp)(pn:List (Addr×Obj)):Cx:=
 {X with N:=NB,s₀:=s3,H₀:=H3,env:=compEnvC scope (mH X.env.cells scope.names []) C X.env,outer:=X.stack,ex:=ex,fn:=fun _=>false,pn:=pn,xe:=fun _ _=>False}
def rn (own:Nat)(ixs:List Nat)(σ:St):St:=List.replicate own none ++ ixs.map fun i=>(σ[i]?).join
structure di (X:Cx)(NB:List Str)(own:Nat)(ixs:List Nat)(scope:Scope):Prop where
 kind:scope.kind=.function
 nocell:∀y∈scope.names,y.2≠.cell
 names:∀y∈scope.names,scope.names.lookup y.1=some y.2
 frees:∀y∈scope.names,y.2=.free->X.env.kindOf y.1=some .cell\/X.env.kindOf y.1=some .free
 nd:NB.Nodup
 len:NB.length=own + ixs.length
 at':∀k,k < ixs.length->NB[own + k]? =X.N[ixs.getD k 0]?/\∀x,NB[own + k]? =some x->(x,NameKind.free)∈scope.names
section
variable {X:Cx}{NB:List Str}{own:Nat}{ixs:List Nat}{scope:Scope}{pins:List (Addr×Obj)}{σ:St}{H:Hp}{s:Shared}
theorem xT (S:di X NB own ixs scope)(I:Inv X pins σ H s){fp:List Addr}(hfp:∀b∈fp,nD X pins H b)(hob:∀b∈fp,∃o,s.heap.get? b=some o){h1:Heap}{tk:Nat}
  (hn:h1.Ns s.heap.objs.size (fun _=>none)) (hk:∀b o,s.heap.get? b=some o->h1.get? b=some o) :
  Inv (jd X NB scope s.heap.objs.size fp s H (X.pn ++ pins)) [] (rn own ixs σ) H {s with heap:=h1,toks:=tk}:=by
 have stk:=I.stack
 have frees:∀{x:Str},(x,NameKind.free)∈scope.names->∃c,X.env.cells.lookup x=some c:=fun {x} hx=>I.ok.has x (S.frees _ hx rfl)
 have clE:∀{x:Str} {c:Addr},(mH X.env.cells scope.names []).lookup x=some c->(x,NameKind.free)∈scope.names/\X.env.cells.lookup x=some c:=fun {x c} h=>by
  rcases ml h with⟨a,b⟩ |a
  ·obtain⟨c',e⟩:=frees a
   rw[e] at b
   exact⟨a,by rw[e,b];rfl⟩
  ·simp at a
 have kindB:∀x,(jd X NB scope s.heap.objs.size fp s H (X.pn ++ pins)).env.kindOf x=(scope.names.lookup x).map fun k=>if (k == .free && X.env.scope.kind == .function && X.env.kindOf x == some .cell) then .cell else k:=fun x=>pf scope X.env x
 have isFree:∀{x:Str},((jd X NB scope s.heap.objs.size fp s H (X.pn ++ pins)).env.kindOf x=some .cell\/(jd X NB scope s.heap.objs.size fp s H (X.pn ++ pins)).env.kindOf x=some .free)->(x,NameKind.free)∈scope.names:=fun {x} h=>by
  rw[kindB] at h
  cases e:scope.names.lookup x with
  |none=>rw[e] at h;simp at h
  |some k=>
   have hm:=PySem.mem_of_lookup e
   cases k with
   |free=>exact hm
   |cell=>exact absurd rfl (S.nocell _ hm)
   |_=>rw[e] at h;simp at h
 have neN:∀b o,s.heap.get? b=some o->b≠s.heap.objs.size:=fun b o e=>Nat.ne_of_lt (Heap.lt_size e)
 have cellN:∀{x:Str} {c:Addr},X.env.cells.lookup x=some c->c < s.heap.objs.size:=fun {x c} e=>by
  obtain⟨v,o,ho,_⟩:=I.cell x c e
  exact Heap.lt_size ho
 have ok:(jd X NB scope s.heap.objs.size fp s H (X.pn ++ pins)).Ok:=by
  refine⟨I.ok.mod,S.kind,I.ok.glob,I.ok.blt,Nat.le_refl _,fun x y c h1 h2=>I.ok.inj x y c (clE h1).2 (clE h2).2,fun x hx=>?_,fun x c h=>(by cases h),I.ok.hd,I.ok.frames,.inl rfl,fun b hb=>?_,I.bs,Nat.le_trans I.ok.bsz I.sz,fun b o e hb=>?_,fun b hb hs=>?_,stk,I.stkFree⟩
  ·have hm:=isFree hx
   exact⟨_,mQ (.inl hm)⟩
  ·obtain⟨_,f1,f2,f3,f4,f5⟩:=hfp b hb
   refine⟨?_,fun x c h z=>f4 x c (clE h).2 z⟩
   obtain⟨o,ho⟩:=hob b hb
   exact neN b o ho
  ·obtain⟨_,f1,f2,f3,f4,f5⟩:=hfp b hb
   rcases f3 with f3 |f3
   ·exact I.ok.noex b o e f3
   ·exact absurd (Nat.lt_of_lt_of_le (Heap.lt_size e) (Nat.le_trans I.ok.bsz f3)) (Nat.lt_irrefl _)
  ·obtain⟨_,f1,f2,f3,f4,f5⟩:=hfp b hb
   rcases List.mem_cons.mp (I.stkSub b hs) with z |z
   ·exact f1 z
   ·exact f2 z
 refine⟨ok,rfl,I.bare,Un.kept hk,⟨_,hn,fun i x v h1' h2' h3'=>?_⟩,fun x c h=>?_,I.hok.fresh (Nat.le_refl _),fun x c h=>I.freeC x c (clE h).2,fun p hp=>?_,I.hok.kept hk,?_⟩
 ·
  have h1':NB[i]? =some x:=h1'
  have hown:own<=i:=by
   refine Classical.byContradiction fun hc=>?_
   have hlt:i < own:=Nat.lt_of_not_le hc
   unfold rn at h2'
   rw[List.getElem?_append_left (by simpa using hlt),List.getElem?_replicate,if_pos hlt] at h2'
   cases h2'
  obtain⟨k,rfl⟩:∃k,i=own + k:=⟨i - own,by omega⟩
  have hk':k < ixs.length:=by
   have:=(List.getElem?_eq_some_iff.mp h1').1
   rw[S.len] at this;omega
  obtain⟨e1,e2⟩:=S.at' k hk'
  have hm:=e2 x h1'
  unfold rn at h2'
  rw[List.getElem?_append_right (by simp),List.length_replicate,Nat.add_sub_cancel_left,List.getElem?_map,List.getElem?_eq_getElem hk'] at h2'
  simp only[Option.map_some,Option.some.injEq] at h2'
  have hix:ixs.getD k 0=ixs[k]:=by simp[hk']
  have hσ:σ[ixs[k]]? =some (some v):=by
   cases e:σ[ixs[k]]? with
   |none=>rw[e] at h2';cases h2'
   |some o=>rw[e] at h2';simp at h2';rw[h2']
  rw[e1,hix] at h1'
  have hkind:=S.frees _ hm rfl
  have hvis:yL X.env.scope x:=hkind.elim (fun z=>.inr (.inl z)) (fun z=>.inr (.inr z))
  obtain⟨m,hm',hl⟩:=I.loc
  obtain⟨u,r,look⟩:=hl _ x v h1' hσ hvis
  refine⟨u,r,.inr ⟨?_,?_⟩⟩
  ·rw[kindB]
   have hfr:scope.names.lookup x=some .free:=S.names _ hm
   rw[hfr]
   simp only[Option.map_some]
   split
   ·exact .inl rfl
   ·exact .inr rfl
  ·rcases look with⟨z,_⟩ | ⟨_,c,hc,hcell⟩
   ·rcases hkind with q |q
    ·rw[q] at z;cases z
    ·rw[q] at z;cases z
   ·refine⟨c,?_,?_⟩
    ·have:=mQ (cells:=X.env.cells) (cs:=[]) (.inl hm)
     rw[hc] at this
     exact this
    ·obtain⟨o,ho,hd⟩:=hcell
     exact⟨o,hk _ _ ho,hd⟩
 ·obtain⟨v,o,ho,hd⟩:=I.cell x c (clE h).2
  exact⟨v,o,hk _ _ ho,hd⟩
 ·have hp':p∈X.pn ++ pins:=by
   rcases List.mem_append.mp hp with z |z
   ·exact z
   ·cases z
  obtain⟨e,n,ne,nf,d⟩:=I.pin p hp'
  refine⟨hk _ _ e,n,neN _ _ e,fun z=>?_,d⟩
  rcases List.mem_cons.mp (I.stkSub _ z) with q |q
  ·exact ne q
  ·exact nf q
 ·show (rn own ixs σ).length=NB.length
  unfold rn
  rw[S.len];simp
end
end L2

end

section
namespace L2
open PySem PySem.Spec PyProof.Rows
abbrev wb (ifs:List Expr)(env:Env):Sem Bool:=forIn ifs true fun c r=>if r=true then do let ok <-isTrue c env (eval c env);pure (ForInStep.yield ok) else pure (ForInStep.yield r)
theorem yx {prog:Program}{w:World}{A:Around}{R:Result->Shared->Prop}{s:Shared}{elt target iter:Expr}{ifs:List Expr}{scope:Scope}{pos:Pos}{it acc:Value}{env:Env}(I:Nat->Shared->Prop)
  (turn:∀n s,I n s->wpAny (model prog w) A (pyNext it) (fun r s1=>match r with
   |none=>R (.ok .next) s1
   |some v=>wpAny (model prog w) A (letOwnedTupleGo target it v) (fun _ s1'=>wpAny (model prog w) A (assign target env v) (fun _ s2=>
     wpAny (model prog w) A (wb ifs env) (fun ok s3=>
      if ok=true then wpAny (model prog w) A (eval elt env) (fun x s4=>wpAny (model prog w) A (call (.builtin "list.append") [acc,x]) (fun _ s5=>∃m,m < n/\I m s5) (fun _ _=>False) s4) (fun _ _=>False) s3
      else ∃m,m < n/\I m s3) (fun _ _=>False) s2) (fun _ _=>False) s1') (fun _ _=>False) s1) (fun _ _=>False) s)
  (n:Nat) (h:I n s):codeAny (model prog w) A (.compLoop (.ListComp elt [⟨target,iter,ifs,0⟩] scope pos) 0 it acc env) R s:=by
 refine codeAny_loop rfl I (fun n s hI=>?_) n h
 (show wpAny _ A ((compTurn (.ListComp elt [⟨target,iter,ifs,0⟩] scope pos) 0 it acc env).onRaise (fun x=>do (noteFrame x env);theTreesLotGoes x)) _ _ s)
 refine wpAny_noted ?_
 rw[compTurn_list]
 refine wpAny_bind (wpAny_standAt (wpAny_bind (wpAny_mono (turn n s hI) (fun r s1 h1=>?_) fun _ _ z=>z.elim)))
 cases r with
 |none=>exact wpAny_pure h1
 |some v=>
  refine wpAny_bind (wpAny_mono h1 (fun _ s1' h1'=>?_) fun _ _ z=>z.elim)
  refine wpAny_bind (wpAny_mono h1' (fun _ s2 h2=>wpAny_bind (wpAny_mono h2 (fun ok s3 h3=>?_) fun _ _ z=>z.elim)) fun _ _ z=>z.elim)
  cases ok with
  |false=>exact wpAny_pure ⟨rfl,h3⟩
  |true=>exact wpAny_bind (wpAny_bind (wpAny_mono h3 (fun x s4 h4=>wpAny_bind (wpAny_mono h4 (fun _ s5 h5=>wpAny_pure (wpAny_pure ⟨rfl,h5⟩)) fun _ _ z=>z.elim)) fun _ _ z=>z.elim))
def Am (X:Cx)(ifs:List Expr)(t:TT):Prop:=
 ∀(pins:List (Addr×Obj)) (s:Shared) (σ:St) (H:Hp) (Q:Bool->Hp->Prop),Inv X pins σ H s->t σ H Q->wpAny (model X.prog X.w) X.A (wb ifs X.env) (TP X pins σ Q) X.xe s
def DO:TT:=fun _ H Q=>Q true H
theorem sr {X:Cx}:Am X [] DO:=fun pins s σ H Q I h=>wpAny_pure ⟨H,I,h⟩
theorem xi {X:Cx}{c:Expr}{t:TT}(h:PT X c t):Am X [c] t:=fun pins s σ H Q I q=>wpAny_tests_one (h pins s σ H Q I q)
def uJ (own:Nat)(ixs:List Nat)(wi:TI)(g:TG)(tt:TT)(te:TE)(σ:St)(H:Hp)(Q:VK):Prop:=wi σ H fun J H1=>∀D,H1 D=none->∃W:Nat->Nat->St->Hp->Prop,(∃m,W 0 m (rn own ixs σ) (upd H1 D (.lst [])))/\∀i m σ' H',W i m σ' H'->
 (J.stop i H'/\(∃acc,H' D=some (.lst acc))/\Q (.ref D) H')\/
 (J.go i H'/\∃N:St->Hp->Prop,(∀σ2 H2,N σ2 H2->∃m',m' < m/\W (i + 1) m' σ2 H2)/\∀x H2,J.yld i H' x H2->g x σ' H2 fun σ3 H3=>tt σ3 H3 fun b H4=>
  if b=true then te σ3 H4 fun v H5=>∃acc,H5 D=some (.lst acc)/\acc.length < sizeLine/\N σ3 (upd H5 D (.lst (acc ++ [v]))) else N σ3 H4)
section
variable {X:Cx}{NB:List Str}{own:Nat}{ixs:List Nat}{scope:Scope}{elt tg iter:Expr}{ifs:List Expr}{pos:Pos}{wi:TI}{g:TG}{tt:TT}{te:TE}
theorem qJ (hc:X.calm=true)(S:di X NB own ixs scope)
  (hg:∀C ex s3 H3 pn,PG (jd X NB scope C ex s3 H3 pn) tg g) (ht:∀C ex s3 H3 pn,Am (jd X NB scope C ex s3 H3 pn) ifs tt) (he:∀C ex s3 H3 pn,PE (jd X NB scope C ex s3 H3 pn) elt te)
  {pins:List (Addr×Obj)} {σ:St} {H1:Hp} {s2:Shared} {it:Addr} {fp:List Addr} {tn:Nat->Heap->Prop} {J:It} {Q:VK} (I2:Inv X pins σ H1 s2) (T:Turn X.prog X.w X.K tg J fp it tn) (st2:tn 0 s2.heap) (f2:∀b∈fp,nD X pins H1 b)
  (hQ:∀D,H1 D=none->∃W:Nat->Nat->St->Hp->Prop,(∃m,W 0 m (rn own ixs σ) (upd H1 D (.lst [])))/\∀i m σ' H',W i m σ' H'->
   (J.stop i H'/\(∃acc,H' D=some (.lst acc))/\Q (.ref D) H')\/
   (J.go i H'/\∃N:St->Hp->Prop,(∀σ2 H2,N σ2 H2->∃m',m' < m/\W (i + 1) m' σ2 H2)/\∀x H2,J.yld i H' x H2->g x σ' H2 fun σ3 H3=>tt σ3 H3 fun b H4=>
    if b=true then te σ3 H4 fun v H5=>∃acc,H5 D=some (.lst acc)/\acc.length < sizeLine/\N σ3 (upd H5 D (.lst (acc ++ [v]))) else N σ3 H4))
  {E:Value->Shared->Prop} {RR:Value->Addr->Result->Shared->Prop}
  (fin:∀D C H' s' m,Inv X pins σ H' s'->Q (.ref D) H'->s'.heap.Ns C m->H' C=none->C≠X.env.locals->(∀x c,X.env.cells.lookup x=some c->c≠C)->X.s₀.heap.objs.size<=C->(∀p∈X.pn ++ pins,p.1≠C)->RR (.ref D) C (.ok .next) s') :
  wpAny (model X.prog X.w) X.A (newList []) (fun acc s3=>wpAny (model X.prog X.w) X.A (newFunctionEnv scope X.env.globals (mH X.env.cells scope.names []) [] X.env.qual none .none (some X.env)) (fun cenv s4=>
   codeAny (model X.prog X.w) X.A (.compStart (.ListComp elt [⟨tg,iter,ifs,0⟩] scope pos) 0 (.ref it) acc {cenv with scope:=relabel scope X.env}) (RR acc cenv.locals) s4) E s3) E s2:=by
 refine wpAny_newList ?_ (Nat.zero_le _)
 have hD:H1 s2.heap.objs.size=none:=I2.hok.fresh (Nat.le_refl _)
 obtain⟨W,⟨m0,w0⟩,turn⟩:=hQ s2.heap.objs.size hD
 generalize hs3:({s2 with heap:=s2.heap.push (seqObj "list" ([]:List Value).toArray 0)}:Shared)=s3
 have I3:Inv X pins σ (upd H1 s2.heap.objs.size (.lst [])) s3:=by
  rw[<-hs3]
  exact I2.lnew (ys:=[]) (its:=[]) (t':=s2.toks) .nil (Nat.zero_le _)
 have k3:∀b o,s2.heap.get? b=some o->s3.heap.get? b=some o:=fun b o e=>by rw[<-hs3];exact Heap.get?_push_of_some _ e
 have sz3:s3.heap.objs.size=s2.heap.objs.size + 1:=by rw[<-hs3];exact Heap.size_push ..
 have ob2:∀b∈fp,∃o,s2.heap.get? b=some o:=fun b hb=>let ⟨o,e,_⟩:=T.obj 0 _ st2 b hb;⟨o,e⟩
 have neD:∀b∈fp,b≠s2.heap.objs.size:=fun b hb=>let ⟨o,e⟩:=ob2 b hb;Nat.ne_of_lt (Heap.lt_size e)
 have f3:∀b∈fp,nD X pins (upd H1 s2.heap.objs.size (.lst [])) b:=fun b hb=>by
  obtain⟨a1,a2⟩:=f2 b hb
  exact⟨by rw[aB (neD b hb)];exact a1,a2⟩
 have st3:tn 0 s3.heap:=T.keep _ _ _ st2 fun b _ o e=>k3 b o e
 refine wpAny_newFunctionEnv S.nocell (fun y hy=>by simp at hy) (fun h4 hn4 sb4=>?_) S.kind
 have k4:∀b o,s3.heap.get? b=some o->h4.get? b=some o:=fun b o e=>sb4.extBut b o (Nat.ne_of_lt (Heap.lt_size e)) (Heap.get?_push_of_some _ e)
 have I4:Inv (jd X NB scope s3.heap.objs.size fp s3 (upd H1 s2.heap.objs.size (.lst [])) (X.pn ++ pins)) [] (rn own ixs σ) (upd H1 s2.heap.objs.size (.lst [])) {s3 with heap:=h4,toks:=s3.toks + ([]:List (Str×Value)).length}:=
  xT S I3 f3 (fun b hb=>let ⟨o,e⟩:=ob2 b hb;⟨o,k3 _ _ e⟩) (by simpa using hn4) k4
 have st4:tn 0 h4:=T.keep _ _ _ st3 fun b _ o e=>k4 b o e
 generalize hB:jd X NB scope s3.heap.objs.size fp s3 (upd H1 s2.heap.objs.size (.lst [])) (X.pn ++ pins)=B at I4
 have hgB:PG B tg g:=by rw[<-hB];exact hg _ _ _ _ _
 have htB:Am B ifs tt:=by rw[<-hB];exact ht _ _ _ _ _
 have heB:PE B elt te:=by rw[<-hB];exact he _ _ _ _ _
 have eP:B.prog=X.prog:=by rw[<-hB];rfl
 have eW:B.w=X.w:=by rw[<-hB];rfl
 have eK:B.K=X.K:=by rw[<-hB];rfl
 have eA:B.A=X.A:=by rw[<-hB];rfl
 have eC:B.calm=true:=by rw[<-hB];exact hc
 have eX:B.xe=fun _ _=>False:=by rw[<-hB];rfl
 have eE:B.env=compEnvC scope (mH X.env.cells scope.names []) s3.heap.objs.size X.env:=by rw[<-hB];rfl
 have ex:B.ex=fp:=by rw[<-hB];rfl
 have eL:B.env.locals=s3.heap.objs.size:=by rw[eE];rfl
 have stat:∀{H':Hp},(∀b∈fp,H' b=none)->∀b∈fp,nD B [] H' b:=fun {H'} hn b hb=>by
  obtain⟨a1,a2,a3,a4,a5,a6⟩:=f3 b hb
  obtain⟨o,eo⟩:=ob2 b hb
  refine⟨hn b hb,?_,fun z=>?_,.inl (by rw[ex];exact hb),fun x c e z=>?_,fun p hp z=>?_⟩
  ·rw[eL];exact Nat.ne_of_lt (Heap.lt_size (k3 _ _ eo))
  ·have hz:b∈ji X.stack:=by rw[<-hB] at z;exact z
   rcases List.mem_cons.mp (I3.stkSub b hz) with q |q
   ·exact a2 q
   ·exact a3 q
  ·rw[eE] at e
   rcases ml e with⟨m1,m2⟩ |m1
   ·obtain⟨c',e'⟩:=I3.ok.has x (S.frees _ m1 rfl)
    rw[e'] at m2
    exact a5 x c' e' (by rw[<-z,m2];rfl)
   ·simp at m1
  ·have hp':p∈X.pn ++ pins:=by
    rw[<-hB] at hp
    rcases List.mem_append.mp hp with q |q
    ·exact q
    ·cases q
   exact a6 p hp' z
 have back:∀{σ':St} {H':Hp} {s':Shared},Inv B [] σ' H' s'->Inv X pins σ H' s':=fun {σ' H' s'} J'=>by
  have u:=J'.base
  have os:=J'.os
  have bare:=J'.bare
  have hok:=J'.hok
  subst hB
  exact I3.call' (ch:=fp) os u hok bare fun b hb=>by
   obtain⟨a1,a2,a3,a4,a5,a6⟩:=f3 b hb
   exact⟨a4,a2,a5,a6⟩
 have loop:∀s5:Shared,s5={s3 with heap:=h4,toks:=s3.toks + ([]:List (Str×Value)).length}->
   codeAny (model X.prog X.w) X.A (.compLoop (.ListComp elt [⟨tg,iter,ifs,0⟩] scope pos) 0 (.ref it) (.ref s2.heap.objs.size) (compEnvC scope (mH X.env.cells scope.names []) s3.heap.objs.size X.env)) (RR (.ref s2.heap.objs.size) s3.heap.objs.size) s5:=by
  rintro s5 rfl
  refine yx (fun n s'=>∃i σ' H',Inv B [] σ' H' s'/\tn i s'.heap/\(∀b∈fp,H' b=none)/\W i n σ' H') ?_ m0 ⟨0,_,_,I4,st4,fun b hb=>(f3 b hb).1,w0⟩
  rintro n s6 ⟨i,σ6,H6,I6,st6,fr6,w6⟩
  rcases turn i n σ6 H6 w6 with⟨stop,⟨acc,hacc⟩,qn⟩ | ⟨go,N,hN,step⟩
  ·have:=T.done B eP eW eK eC i [] s6 σ6 H6 (fun _ _=>False) I6 (stat fr6) st6 stop
   rw[eA] at this
   refine cZ this fun r s7 ⟨hr,I7⟩=>?_
   subst hr
   obtain⟨m7,hn7,_⟩:=I7.loc
   rw[eL] at hn7
   have J7:=back I7
   refine fin _ _ H6 s7 m7 J7 qn hn7 (by rw[<-eL];exact I7.free) (fun z=>?_) (fun x c e z=>?_) ?_ fun p hp z=>?_
   ·have:=I3.lt
    rw[<-z] at this
    exact Nat.lt_irrefl _ this
   ·obtain⟨v,o,ho,_⟩:=I3.cell x c e
    exact absurd (Heap.lt_size ho) (by rw[z];exact Nat.lt_irrefl _)
   ·exact I3.sz
   ·have:=Heap.lt_size (I3.pin p hp).1
    rw[z] at this
    exact Nat.lt_irrefl _ this
  ·have hitem:=T.item B eP eW eK eC i [] s6 σ6 H6 (fun _ _=>False) I6 (stat fr6) st6 go
   rw[eA] at hitem
   refine cZ hitem fun r s7 ⟨u,hr,h7⟩=>?_
   subst hr
   refine cZ h7 fun _ s8 ⟨x,H8,I8,r8,y8,st8,fr8⟩=>?_
   have I8':=I8.pinned (stat fr8) (T.obj _ _ st8)
   have ha:=hgB _ s8 σ6 H8 x u _ I8' r8 (step x H8 y8)
   rw[eP,eW,eA,eE,eX] at ha
   refine cZ ha fun _ s9 ⟨σ9,H9,I9,q9⟩=>?_
   have hb:=htB _ s9 σ9 H9 _ I9 q9
   rw[eP,eW,eA,eE,eX] at hb
   refine cZ hb fun ok s10 ⟨H10,I10,q10⟩=>?_
   have again:∀{σ7:St} {H7:Hp} {s7:Shared},Inv B ([] ++ oy fp s8.heap) σ7 H7 s7->N σ7 H7->∃m,m < n/\∃i σ' H',Inv B [] σ' H' s7/\tn i s7.heap/\(∀b∈fp,H' b=none)/\W i m σ' H':=fun {σ7 H7 s7} I7 n7=>by
    obtain⟨m',hm,w7⟩:=hN σ7 H7 n7
    refine⟨m',hm,i + 1,σ7,H7,I7.unpinned,T.keep _ _ _ st8 fun b hb o e=>(I7.pin (b,o) (List.mem_append_right _ (List.mem_append_right _ (jO hb e)))).1,fun b hb=>?_,w7⟩
    obtain⟨o,e,d⟩:=T.obj _ _ st8 b hb
    exact (I7.pin (b,o) (List.mem_append_right _ (List.mem_append_right _ (jO hb e)))).2.1
   cases ok with
   |false=>
    simp only[Bool.false_eq_true,if_false] at q10 ⊢
    exact again I10 q10
   |true=>
    simp only[if_true] at q10 ⊢
    have hv:=heB _ s10 σ9 H10 _ I10 q10
    rw[eP,eW,eA,eE,eX] at hv
    refine cZ hv fun y s11 ⟨v,H11,I11,r11,acc,hacc,hz,q11⟩=>?_
    have hap:=my (X:=B) _ s11 σ9 H11 (.ref s2.heap.objs.size) [v] (.ref s2.heap.objs.size) [y] (fun z H'=>z=.non/\N σ9 H') I11 rfl (.cons r11 .nil) ⟨_,acc,v,rfl,rfl,hacc,hz,rfl,q11⟩
    rw[eP,eW,eA,eX] at hap
    exact cZ hap fun _ s12 ⟨_,H12,I12,_,_,q12⟩=>again I12 q12
 exact codeAny_compStart_list (loop _ rfl) (T.self X.A 0 _ _ _ st4 (loop _ rfl))
theorem tx (hc:X.calm=true)(S:di X NB own ixs scope)(hi:PI X tg iter wi)
  (hg:∀C ex s3 H3 pn,PG (jd X NB scope C ex s3 H3 pn) tg g) (ht:∀C ex s3 H3 pn,Am (jd X NB scope C ex s3 H3 pn) ifs tt) (he:∀C ex s3 H3 pn,PE (jd X NB scope C ex s3 H3 pn) elt te)
  (hs:∀x,foldedSetIterable iter X.env x=pure x:=by intro _;rfl) :
  PE X (.ListComp elt [⟨tg,iter,ifs,0⟩] scope pos) (uJ own ixs wi g tt te):=by
 intro pins s σ H Q I h
 rw[eval_ListComp]
 refine wpAny_comprehension_free (use:=none) rfl hs (oh fun y hy e=>I.ok.has _ (S.frees y hy e)) S.kind (fun y hy e=>by rw[S.names y hy,e]) ?_
 refine cZ (hi pins s σ H _ I h) fun v s1 h1=>cZ h1 fun itv s2 h2=>?_
 obtain⟨it,fp,tn,J,H2,e,I2,T,st2,f2,q2⟩:=h2
 subst e
 refine qJ hc S hg ht he I2 T st2 f2 q2 (RR:=fun acc C=>compPost (model X.prog X.w) X.A X.xe none (EP X pins σ Q) acc C) fun D C H' s' m J' q hn hC n1 n2 n3 n4=>?_
 refine⟨m,hn,fun h'' sb=>⟨.ref D,H',?_,rfl,q⟩⟩
 exact J'.turned (t':=s'.toks) (it:=C) (fun b o hb e=>sb.extBut b o hb e) hC n1 (.inr n3) n2 n4
theorem z5 {i:Nat}{y:Str}{py spos:Pos}(hc:X.calm=true)(S:di X NB own ixs scope)(hi:PI X tg iter wi)
  (hg:∀C ex s3 H3 pn,PG (jd X NB scope C ex s3 H3 pn) tg g) (ht:∀C ex s3 H3 pn,Am (jd X NB scope C ex s3 H3 pn) ifs tt) (he:∀C ex s3 H3 pn,PE (jd X NB scope C ex s3 H3 pn) elt te)
  (hN:X.N.Nodup) (hy:X.N[i]? =some y) (hl:X.env.scope.names.lookup y=some .local)
  (hsw:swapsWith (.ListComp elt [⟨tg,iter,ifs,0⟩] scope pos) (some (.Name y py)) spos.line X.env=pure true)
  (hs:∀x,foldedSetIterable iter X.env x=pure x:=by intro _;rfl) :
  PS X (.Assign [.Name y py] (.ListComp elt [⟨tg,iter,ifs,0⟩] scope pos) spos) (fun D σ H=>uJ own ixs wi g tt te σ H fun v H'=>D.nx (σ.set i (some v)) H'):=by
 intro pins s σ H D I h
 rw[exec_Assign_Name_used _ _ _ _ hsw]
 refine wpAny_bind (wpAny_standAt (wpAny_bind ?_))
 show wpAny _ X.A (comprehension (.ListComp elt [⟨tg,iter,ifs,0⟩] scope pos) scope X.env _ (newList []) false (eval iter X.env) (some (assign (.Name y py) X.env)) >>= fun _=>pure ()) _ _ s
 refine wpAny_bind (wpAny_mono (wpAny_comprehension_free (use:=some (assign (.Name y py) X.env)) (Q:=fun _ s'=>SP X pins D .next s') rfl hs (oh fun y hy e=>I.ok.has _ (S.frees y hy e)) S.kind (fun y hy e=>by rw[S.names y hy,e]) ?_)
  (fun _ s' hq=>wpAny_pure (wpAny_pure hq)) fun _ _ e=>e)
 refine cZ (hi pins s σ H _ I h) fun v s1 h1=>cZ h1 fun itv s2 h2=>?_
 obtain⟨it,fp,tn,J,H2,e,I2,T,st2,f2,q2⟩:=h2
 subst e
 refine qJ hc S hg ht he I2 T st2 f2 q2 (Q:=fun v H'=>D.nx (σ.set i (some v)) H') (RR:=fun acc C=>compPost (model X.prog X.w) X.A X.xe (some (assign (.Name y py) X.env)) (fun _ s'=>SP X pins D .next s') acc C) fun D' C H' s' m J' q hn hC n1 n2 n3 n4=>?_
 show wpAny _ X.A (assign (.Name y py) X.env (.ref D')) _ _ s'
 refine wpAny_assign_Name (qF J' hN hy (.inl hl) (v:=.ref D') rfl (fun s'' I'' ⟨a,sb,ha⟩=>?_) (.inr hl))
 have hCa:C≠a:=by
  rcases ha with z |z
  ·rw[z];exact n1
  ·exact (n2 _ _ z).symm
 refine⟨m,hn.sameBut sb hCa,fun h3 sb3=>⟨_,H',?_,q⟩⟩
 exact I''.turned (t':=s''.toks) (it:=C) (fun b o hb e=>sb3.extBut b o hb e) hC n1 (.inr n3) n2 n4
end
section
variable {own:Nat}{ixs:List Nat}{g:TG}{tt:TT}{te:TE}{σ:St}{H:Hp}{Q:VK}{K:PySem.W.Frag}{D a:Addr}{xs:List V}
abbrev eR (g:TG)(tt:TT)(te:TE)(D:Addr)(x:V)(σ:St)(H:Hp)(N:St->Hp->Prop):Prop:=g x σ H fun σ3 H3=>tt σ3 H3 fun b H4=>
  if b=true then te σ3 H4 fun v H5=>∃acc,H5 D=some (.lst acc)/\acc.length < sizeLine/\N σ3 (upd H5 D (.lst (acc ++ [v]))) else N σ3 H4
theorem yy (Pv:Nat->St->Hp->Prop)(h0:Pv 0 (rn own ixs σ) (upd H D (.lst [])))(hl:∀i σ H,i<=xs.length->Pv i σ H->hZ K H a xs)
  (hs:∀i x σ H,xs[i]? =some x->Pv i σ H->eR g tt te D x σ H (Pv (i + 1))) (hd:∀σ H,Pv xs.length σ H->(∃acc,H D=some (.lst acc))/\Q (.ref D) H) :
  ∃W:Nat->Nat->St->Hp->Prop,(∃m,W 0 m (rn own ixs σ) (upd H D (.lst [])))/\∀i m σ' H',W i m σ' H'->
   ((xJ K a).stop i H'/\(∃acc,H' D=some (.lst acc))/\Q (.ref D) H')\/
   ((xJ K a).go i H'/\∃N:St->Hp->Prop,(∀σ2 H2,N σ2 H2->∃m',m' < m/\W (i + 1) m' σ2 H2)/\∀x H2,(xJ K a).yld i H' x H2->eR g tt te D x σ' H2 N):=by
 refine⟨fun i m σ H=>m=xs.length - i/\i<=xs.length/\Pv i σ H,⟨xs.length,by simp,Nat.zero_le _,h0⟩,?_⟩
 rintro i m σ H ⟨rfl,hi,p⟩
 have q:=hl i σ H hi p
 by_cases hlt:i < xs.length
 ·refine .inr ⟨⟨xs,xs[i],q,by simp[hlt]⟩,Pv (i + 1),fun σ' H' p'=>⟨xs.length - (i + 1),by omega,rfl,hlt,p'⟩,fun x H' y=>?_⟩
  obtain⟨e,y⟩:=y
  subst e
  exact hs i x σ _ (y xs q) p
 ·have e:i=xs.length:=by omega
  subst e
  exact .inl ⟨⟨xs,q,Nat.le_refl _⟩,hd σ H p⟩
theorem u6 {lo:Int}{n:Nat}(Pv:Nat->St->Hp->Prop)(h0:Pv 0 (rn own ixs σ) (upd H D (.lst [])))
  (hs:∀i σ H,i < n->Pv i σ H->eR g tt te D (.int (lo + i)) σ H (Pv (i + 1))) (hd:∀σ H,Pv n σ H->(∃acc,H D=some (.lst acc))/\Q (.ref D) H) :
  ∃W:Nat->Nat->St->Hp->Prop,(∃m,W 0 m (rn own ixs σ) (upd H D (.lst [])))/\∀i m σ' H',W i m σ' H'->
   ((yZ lo n).stop i H'/\(∃acc,H' D=some (.lst acc))/\Q (.ref D) H')\/
   ((yZ lo n).go i H'/\∃N:St->Hp->Prop,(∀σ2 H2,N σ2 H2->∃m',m' < m/\W (i + 1) m' σ2 H2)/\∀x H2,(yZ lo n).yld i H' x H2->eR g tt te D x σ' H2 N):=by
 refine⟨fun i m σ H=>m=n - i/\i<=n/\Pv i σ H,⟨n,by simp,Nat.zero_le _,h0⟩,?_⟩
 rintro i m σ H ⟨rfl,hi,p⟩
 by_cases hlt:i < n
 ·refine .inr ⟨hlt,Pv (i + 1),fun σ' H' p'=>⟨n - (i + 1),by omega,rfl,hlt,p'⟩,fun x H' y=>?_⟩
  obtain⟨e,y⟩:=y
  subst e y
  exact hs i σ _ hlt p
 ·have e:i=n:=by omega
  subst e
  exact .inl ⟨Nat.le_refl _,hd σ H p⟩
end
end L2

end

section
namespace L2
open PySem PySem.Spec PyProof.Rows
mutual
inductive Rep (K:PySem.W.Frag)(H:Hp):V->PyData->Prop
 |non:Rep K H .non .none
 |bl (b:Bool):Rep K H (.bl b) (.bool b)
 |int (i:Int):Rep K H (.int i) (.int i)
 |str (x:Str):Rep K H (.str x) (.str x)
 |tup {a:Addr} {xs:List V} {ds:List PyData}:eh K H a xs->jt K H xs ds->Rep K H (.ref a) (.tuple ds)
 |lst {a:Addr} {xs:List V} {ds:List PyData}:hZ K H a xs->jt K H xs ds->Rep K H (.ref a) (.list ds)
inductive jt (K:PySem.W.Frag)(H:Hp):List V->List PyData->Prop
 |nil:jt K H [] []
 |cons {x:V} {xs:List V} {d:PyData} {ds:List PyData}:Rep K H x d->jt K H xs ds->jt K H (x :: xs) (d :: ds)
end
section
variable {X:Cx}{pins:List (Addr×Obj)}{σ:St}{H H':Hp}{s:Shared}
mutual
theorem Rep.reads (I:Inv X pins σ H s):∀{x:V} {d:PyData} {u:Value},Rep X.K H x d->RelV x u->∃as,Reads s.heap u d as
 |_,_,_,.non,r=>by cases r;exact⟨_,.none⟩
 |_,_,_,.bl b,r=>by cases r;exact⟨_,.bool b⟩
 |_,_,_,.int i,r=>by obtain⟨t,rfl⟩:=r;exact⟨_,.int i t⟩
 |_,_,_,.str x,r=>by obtain⟨t,rfl⟩:=r;exact⟨_,.str x t⟩
 |_,_,_,.tup h hs,r=>by
  cases r
  obtain⟨its,rv,⟨o,ho,hc,n,hd⟩,_⟩:=I.tuple h
  obtain⟨as,q⟩:=jt.reads I hs rv
  exact⟨_,.tuple ho hc hd (by simpa using q)⟩
 |_,_,_,.lst h hs,r=>by
  cases r
  obtain⟨its,rv,pl,_⟩:=I.list h
  obtain⟨o,ho,hc,n,hd⟩:=pl.isList
  obtain⟨as,q⟩:=jt.reads I hs rv
  exact⟨_,.list ho hc hd (by simpa using q)⟩
theorem jt.reads (I:Inv X pins σ H s):∀{xs:List V} {ds:List PyData} {us:List Value},jt X.K H xs ds->Vals xs us->∃as,ReadsAll s.heap us ds as
 |_,_,_,.nil,r=>by cases r;exact⟨_,.nil⟩
 |_,_,_,.cons h hs,r=>by
  cases r with
  |cons r1 r2=>
   obtain⟨as,q⟩:=Rep.reads I h r1
   obtain⟨bs,q'⟩:=jt.reads I hs r2
   exact⟨_,.cons q q'⟩
end
def EE (K:PySem.W.Frag)(neg:Bool):R2:=fun x y H Q=>∃d e,Rep K H x d/\Rep K H y e/\SeqAt.shaped d=true/\SeqAt.shaped e=true/\Q (.bl (if neg then !PyData.eqv d e else PyData.eqv d e)) H
theorem gy (hu:X.A.units + 64 < cLine):mh X (compareOp .Eq) (EE X.K false):=by
 intro pins s σ H x y v u Q I rx ry h
 obtain⟨d,e,h1,h2,s1,s2,q⟩:=h
 obtain⟨as,r1⟩:=h1.reads I rx
 obtain⟨bs,r2⟩:=h2.reads I ry
 exact SeqAt.compareEq_shaped r1 r2 s1 s2 hu ⟨.bl _,H,I,rfl,q⟩
theorem jf (hu:X.A.units + 64 < cLine):mh X (compareOp .NotEq) (EE X.K true):=by
 intro pins s σ H x y v u Q I rx ry h
 obtain⟨d,e,h1,h2,s1,s2,q⟩:=h
 obtain⟨as,r1⟩:=h1.reads I rx
 obtain⟨bs,r2⟩:=h2.reads I ry
 exact SeqAt.compareNe_shaped r1 r2 s1 s2 hu ⟨.bl _,H,I,rfl,q⟩
def FC (K:PySem.W.Frag)(neg:Bool):R2:=fun x y H Q=>∃p xs d ds,y=.ref p/\(hZ K H p xs\/eh K H p xs)/\jt K H xs ds/\Rep K H x d/\SeqAt.shaped d=true/\(∀e,e∈ds->SeqAt.shaped e=true)/\
 Q (.bl (if neg then !(ds.any fun e=>PyData.eqv e d) else ds.any fun e=>PyData.eqv e d)) H
theorem jt.at' {K:PySem.W.Frag}:∀{xs:List V} {ds:List PyData} {i:Nat} {x:V},jt K H xs ds->xs[i]? =some x->∃d,ds[i]? =some d/\Rep K H x d
 |_,_,_,_,.nil,e=>by simp at e
 |_,_,0,_,.cons r _,e=>by simp at e;subst e;exact⟨_,rfl,r⟩
 |_,_,i + 1,x,.cons _ t,e=>by
  obtain⟨u,h1,h2⟩:=jt.at' (i:=i) (x:=x) t (by simpa using e)
  exact⟨u,by simpa using h1,h2⟩
theorem jt.len {K:PySem.W.Frag}:∀{xs:List V} {ds:List PyData},jt K H xs ds->xs.length=ds.length
 |_,_,.nil=>rfl
 |_,_,.cons _ t=>by simp[jt.len t]
open Classical in
theorem uy (I:Inv X pins σ H s)(d:PyData):∀{xs:List V} {us:List Value} {ds:List PyData},Vals xs us->jt X.K H xs ds->(∀e,e∈ds->SeqAt.shaped e=true)->∃f:Value->Bool,us.any f=(ds.any fun e=>PyData.eqv e d)/\∀u,u∈us->∃e as,e∈ds/\Reads s.heap u e as/\f u=PyData.eqv e d:=by
 intro xs us ds hv hr hs
 let f:Value->Bool:=fun u=>if h:∃e as,SeqAt.shaped e=true/\Reads s.heap u e as then PyData.eqv (Classical.choose h) d else false
 have hf:∀{u:Value} {e:PyData} {as:List Addr},SeqAt.shaped e=true->Reads s.heap u e as->f u=PyData.eqv e d:=fun {u e as} h1 h2=>by
  have hx:∃e as,SeqAt.shaped e=true/\Reads s.heap u e as:=⟨e,as,h1,h2⟩
  show (if h:∃e as,SeqAt.shaped e=true/\Reads s.heap u e as then PyData.eqv (Classical.choose h) d else false)=_
  rw[dif_pos hx]
  obtain⟨bs,q1,q2⟩:=Classical.choose_spec hx
  rw[SeqAt.Reads.unique _ _ _ _ _ (SeqAt.canLay_of_shaped q1) q2 h2]
 refine⟨f,?_,?_⟩
 ·induction hv generalizing ds with
  |nil=>cases hr;rfl
  | @cons x u xs us r1 r2 ih=>
   cases hr with
   | @cons _ _ e es h1 h2=>
    obtain⟨as,q⟩:=h1.reads I r1
    rw[List.any_cons,List.any_cons,hf (hs e (List.mem_cons_self ..)) q,ih h2 fun z hz=>hs z (List.mem_cons_of_mem _ hz)]
 ·intro u hu
  obtain⟨i,hi,e0⟩:=List.mem_iff_getElem.mp hu
  have hi':i < xs.length:=by rw[hv.length];exact hi
  obtain⟨u',eu,ru⟩:=hv.get (List.getElem?_eq_getElem hi')
  rw[List.getElem?_eq_getElem hi,e0] at eu
  cases eu
  obtain⟨e,ee,re⟩:=jt.at' hr (List.getElem?_eq_getElem hi')
  obtain⟨as,q⟩:=re.reads I ru
  have hm:=List.mem_of_getElem? ee
  exact⟨e,as,hm,q,hf (hs e hm) q⟩
theorem z8 (hu:X.A.units + 100 < cLine):mh X (compareOp .In) (FC X.K false):=by
 intro pins s σ H x y v u Q I rx ry h
 obtain⟨p,xs,d,ds,rfl,hq,hs,hx,s1,s2,q⟩:=h
 cases ry
 obtain⟨bs,r2⟩:=hx.reads I rx
 have key:∀{e:PyData} {as:List Addr} {u:Value},SeqAt.shaped e=true->Reads s.heap u e as->SeqAt.EqAt X.A.in1 s u v (PyData.eqv e d):=fun {e as u} h1 h2=>by
  refine SeqAt.eqAt_reads _ _ _ _ _ _ _ _ h2 r2 (SeqAt.canLay_of_shaped h1) (SeqAt.canLay_of_shaped s1) ?_
  have:=SeqAt.depth_of_shaped h1
  show X.A.units + 1 + _ < _
  omega
 rcases hq with hq |hq
 ·obtain⟨its,r,pl,hz⟩:=I.list hq
  obtain⟨f,e1,e2⟩:=uy I d r hs s2
  refine SeqAt.in_listAt f pl.isList (fun w hw=>?_) ⟨.bl _,H,I,rfl,?_⟩
  ·obtain⟨e,as,hm,rd,ef⟩:=e2 w (by simpa using hw)
   rw[ef];exact key (s2 e hm) rd
  ·rw[show its.toArray.any f=its.any f by simp,e1];exact q
 ·obtain⟨its,r,pl,hz⟩:=I.tuple hq
  obtain⟨f,e1,e2⟩:=uy I d r hs s2
  refine SeqAt.in_tupleAt f pl (fun w hw=>?_) ⟨.bl _,H,I,rfl,?_⟩
  ·obtain⟨e,as,hm,rd,ef⟩:=e2 w (by simpa using hw)
   rw[ef];exact key (s2 e hm) rd
  ·rw[show its.toArray.any f=its.any f by simp,e1];exact q
inductive CD (K:PySem.W.Frag)(H:Hp):V->String->Prop
 |non:CD K H .non "NoneType"
 |bl (b:Bool):CD K H (.bl b) "bool"
 |int (i:Int):CD K H (.int i) "int"
 |str (x:Str):CD K H (.str x) "str"
 |tup {a:Addr} {xs:List V}:eh K H a xs->CD K H (.ref a) "tuple"
 |lst {a:Addr} {xs:List V}:hZ K H a xs->CD K H (.ref a) "list"
 |dic {a:Addr} {kvs:List (Key×V)}:H a=some (.dK kvs)->CD K H (.ref a) "dict"
def Hv (K:PySem.W.Frag):List V->Hp->VK->Prop:=fun xs H Q=>∃x T t b,xs= [x,.ty T]/\CD K H x t/\PySem.W.kitOne K (.type t) (.type T)=some b/\Q (.bl b) H
theorem zg:c7 X (.builtin "isinstance") (Hv X.K):=by
 intro pins s σ H xs us Q I r h
 obtain⟨x,T,t,b,rfl,ty,e,q⟩:=h
 obtain⟨u,c,rfl,rx,rc⟩:=vals2 r
 cases rc
 have fin:∀tk,EP X pins σ Q (.bool b) {s with toks:=tk}:=fun tk=>⟨.bl b,H,I.tok tk,rfl,q⟩
 cases ty with
 |non=>exact jx I rx .non e fin
 |bl b=>exact jx I rx (.bl b) e fin
 |int i=>exact jx I rx (.int i) e fin
 |str z=>exact jx I rx (.str z) e fin
 |dic hk=>exact jx I rx (.dK hk) e fin
 |tup hq=>
  cases rx
  obtain⟨its,rv,⟨o,h1,h2,_⟩,_⟩:=I.tuple hq
  exact PySem.W.kia_one PySem.W.kitx_tuple I.kIn ⟨o,h1,h2⟩ e (fun z=>nomatch z) fin
 |lst hq=>
  cases rx
  obtain⟨its,rv,pl,_⟩:=I.list hq
  obtain⟨o,h1,h2,_⟩:=pl.isList
  exact PySem.W.kia_one PySem.W.kitx_list I.kIn ⟨o,h1,h2⟩ e (fun z=>nomatch z) fin
theorem uf {A:Around}{its:List Value}{bs:List Bool}(hv:Vals (bs.map V.bl) its):TruthOf X.prog X.w A (fun i v=>its[i]? =some v) (fun i=>bs.getD i false):=fun i v s Q E hi hq=>by
 have hl:=hv.length
 have hi2:i < bs.length:=by
  have:=(List.getElem?_eq_some_iff.mp hi).1
  rw[<-hl] at this;simpa using this
 obtain⟨u,eu,ru⟩:=hv.get (i:=i) (x:=.bl bs[i]) (by simp[hi2])
 rw[hi] at eu;cases eu
 cases ru
 refine wpAny_truthy_bool ?_
 have:bs.getD i false=bs[i]:=by simp[hi2]
 rw[<-this];exact hq
theorem range_all (bs:List Bool):(List.range bs.length).all (fun i=>bs.getD i false)=bs.all id:=by
 induction bs with
 |nil=>rfl
 |cons b bs ih=>
  rw[List.length_cons,List.range_succ_eq_map,List.all_cons,List.all_map,List.all_cons,<-ih]
  rfl
theorem range_any (bs:List Bool):(List.range bs.length).any (fun i=>bs.getD i false)=bs.any id:=by
 induction bs with
 |nil=>rfl
 |cons b bs ih=>
  rw[List.length_cons,List.range_succ_eq_map,List.any_cons,List.any_map,List.any_cons,<-ih]
  rfl
def uH (K:PySem.W.Frag)(f:List Bool->Bool):List V->Hp->VK->Prop:=fun xs H Q=>∃a bs,xs= [.ref a]/\hZ K H a (bs.map V.bl)/\Q (.bl (f bs)) H
theorem ou (hc:X.calm=true){a:Addr}{bs:List Bool}{Q:VK}(I:Inv X pins σ H s)(hq:hZ X.K H a (bs.map V.bl)){f:List Bool->Bool}{g:(Nat->Bool)->Nat->Bool}(hfg:g (fun i=>bs.getD i false) bs.length=f bs)(q:Q (.bl (f bs)) H) :
  wpAny (model X.prog X.w) X.A.in1 (pyIter (.ref a)) (fun it s2=>∃Ii fp wr n P St tr,it=.ref Ii/\Walks X.prog X.w X.A.in1 Ii fp wr n P St/\St 0 s2.heap/\TruthOf X.prog X.w X.A.in1 P tr/\
   ∀h' tk,(∀b o,b∉wr->s2.heap.get? b=some o->h'.get? b=some o)->EP X pins σ Q (.bool (g tr n)) {s2 with heap:=h',toks:=tk}) X.xe s:=by
 obtain⟨its,rv,pl,hz⟩:=I.list hq
 have hh:X.A.in1.handled=none:=I.ok.hd hc
 have hlen:its.length=bs.length:=by rw[<-rv.length];simp
 obtain⟨o,ho,_⟩:=id pl.isList
 refine wpAny_pyIter_list pl.isList ?_
 have W:=Walks.list (prog:=X.prog) (w:=X.w) hh s.heap.objs.size a (Nat.ne_of_lt (Heap.lt_size ho)) its.toArray
 refine⟨s.heap.objs.size,_,_,_,_,_,fun i=>bs.getD i false,rfl,W,⟨⟨_,Heap.get?_push_size _ rfl,rfl,rfl⟩,pl.isList.push _⟩,?_,fun h' tk k=>?_⟩
 ·have:=uf (X:=X) (A:=X.A.in1) rv
  simpa using this
 ·have e:its.toArray.size=bs.length:=by simpa using hlen
  rw[e,hfg]
  have I1:Inv X pins σ H {s with heap:=s.heap.push {cls:=.type "list_iterator",data:=.fields #[.ref a,.int 0 0]}}:=I.kept (t':=s.toks) fun b o e=>Heap.get?_push_of_some _ e
  have hf:H s.heap.objs.size=none:=I.hok.fresh (Nat.le_refl _)
  have fp:=I.fpOk (H':=H) (b:=s.heap.objs.size) (Nat.le_refl _) hf
  refine⟨.bl _,H,I1.turned (it:=s.heap.objs.size) (t':=tk) (fun b o hb e=>k b o (by simpa using hb) e) hf fp.2.1 fp.2.2.2.1 fp.2.2.2.2.1 fp.2.2.2.2.2,rfl,q⟩
theorem ic (hc:X.calm=true):c7 X (.builtin "all") (uH X.K fun bs=>bs.all id):=by
 intro pins s σ H xs us Q I r h
 obtain⟨a,bs,rfl,hq,q⟩:=h
 obtain⟨u,rfl,rx⟩:=vals1 r
 cases rx
 exact call_all_walk (ou hc I hq (f:=fun bs=>bs.all id) (g:=fun tr n=>(List.range n).all tr) (range_all bs) q)
theorem Ao (hc:X.calm=true):c7 X (.builtin "any") (uH X.K fun bs=>bs.any id):=by
 intro pins s σ H xs us Q I r h
 obtain⟨a,bs,rfl,hq,q⟩:=h
 obtain⟨u,rfl,rx⟩:=vals1 r
 cases rx
 exact call_any_walk (ou hc I hq (f:=fun bs=>bs.any id) (g:=fun tr n=>(List.range n).any tr) (range_any bs) q)
theorem y6:c7 X (.type "range") (fun xs H Q=>∃n:Int,xs= [.int n]/\∀p,H p=none->Q (.ref p) (upd H p (.bQ 0 n))):=by
 intro pins s σ H xs us Q I r h
 obtain⟨n,rfl,q⟩:=h
 obtain⟨u,rfl,rx⟩:=vals1 r
 obtain⟨t,rfl⟩:=rx
 refine call_range_1 ⟨.ref s.heap.objs.size,upd H s.heap.objs.size (.bQ 0 n),?_,rfl,q _ (I.hok.fresh (Nat.le_refl _))⟩
 exact I.laid (fun b o e=>Heap.get?_push_of_some _ e) (Nat.le_refl _) ⟨_,_,_,Heap.get?_push_size _ rfl⟩
theorem qc (hc:X.calm=true):c7 X (.type "list") (fun xs H Q=>∃p n,xs= [.ref p]/\H p=some (.bQ 0 n)/\0<=n/\n<=1000/\∀l,H l=none->Q (.ref l) (upd H l (.lst ((List.range n.toNat).map fun (i:Nat)=>V.int (i:Int))))):=by
 intro pins s σ H xs us Q I r h
 obtain⟨p,n,rfl,hp,h0,h1,q⟩:=h
 obtain⟨u,rfl,rx⟩:=vals1 r
 cases rx
 obtain⟨t,u,v,hr⟩:∃t u v,s.heap.get? p=some {cls:=.type "range",data:=.fields #[.int 0 t,.int n u,.int 1 v]}:=I.hok p _ hp
 have hsz:Builtin.Range.rangeSize 0 n 1=(n.toNat:Int):=by rw[rangeSize_one];split <;> omega
 refine call_list_range (I.ok.hd hc) hr (small_one (by omega) (by omega) (by omega) (by omega)) hsz (by omega) fun h' tk acc c k hS hacc=>?_
 have hv:Vals ((List.range n.toNat).map fun (i:Nat)=>V.int (i:Int)) acc.toList:=by
  have key:∀(m:Nat) (us:List Value) (j:Nat),us.length=m->(∀(i:Nat) (v:Value),us[i]? =some v->∃t,v=Value.int ((j + i:Nat):Int) t)->Vals ((List.range' j m).map fun (i:Nat)=>V.int (i:Int)) us:=by
   intro m
   induction m with
   |zero=>intro us j hl _;cases us with
    |nil=>exact .nil
    |cons a b=>simp at hl
   |succ m ih=>
    intro us j hl hh
    cases us with
    |nil=>simp at hl
    |cons u us=>
     rw[List.range'_succ,List.map_cons]
     refine .cons (by have:=hh 0 u rfl;simp at this;exact this) (ih us (j + 1) (by simpa using hl) fun i v hi=>?_)
     obtain⟨t,e⟩:=hh (i + 1) v (by simpa using hi)
     exact⟨t,by rw[e];congr 2;omega⟩
  have:=key n.toNat acc.toList 0 (by simpa using hacc.1) fun i v hi=>by
   obtain⟨t,e⟩:=hacc.2 i v (by simpa using hi)
   exact⟨t,by rw[e];simp⟩
  rw[List.range_eq_range'];exact this
 refine⟨.ref s.heap.objs.size,_,I.laid (t':=tk) k (Nat.le_refl _) (show cJ X.prog X.w _ h' _ (.lst _) from⟨by simp;rw[sizeLine_eq];omega,acc.toList,c,hv,by simpa using hS⟩),rfl,q _ (I.hok.fresh (Nat.le_refl _))⟩
end
end L2

end

section
namespace L2
open PySem PySem.Spec PyProof.Rows
def Rc (h:Heap)(e:Addr)(cls:Value)(T:Addr)(fl:Value):Prop:=∃oe vs oT ts,h.get? e=some oe/\oe.cls=cls/\oe.dict=none/\oe.data=.fields vs/\vs[1]? =some (.ref T)/\T≠e/\h.get? T=some oT/\oT.data=.fields ts/\ts[3]? =some fl
abbrev Keeps (F:List Addr)(ch:List Addr)(h h':Heap):Prop:=∀b o,h.get? b=some o->b∉F->b∉ch->h'.get? b=some o
abbrev Slots (F:List Addr)(h h':Heap):Prop:=∀b o,h.get? b=some o->b∈F->∃sl,h'.get? b=some {o with slots:=sl}
section
variable {M:Model}{A:Around}{E:Value->Shared->Prop}{s:Shared}{base:Heap}{env:Env}{outer:List Env}{L e:Addr}{cls:Value}{Q:Unit->Shared->Prop}
theorem zZ {oe:Obj}{vs:Array Value}{head:Value}{hadNext:Bool}(hfr:A.frames=some (env :: outer))(hl:s.heap.FunFrames base (env :: outer))(hf:env.frame=some L)(he:s.heap.get? e=some oe)(hc:oe.cls=cls)(hdd:oe.dict=none)(hd:oe.data=.fields vs)(hsz:1 < vs.size)
  (h:∀h' T,Keeps (ji (env :: outer)) [e] s.heap h'->Slots (ji (env :: outer)) s.heap h'->s.heap.get? T=none->Rc h' e cls T (rawInt L)->Q () {s with heap:=h'}) :
  wpAny M A (do let a <-frameOf env;let pl <-entryPlaceOf L hadNext;let b <-EntryCells.newEntry head a .none (rawInt L) .none pl;setField (.ref e) 1 b) Q E s:=by
 have eF:e∉ji (env :: outer):=fun z=>by
  obtain⟨_,o,q,n⟩:=hl.mem z
  rw[he] at q;cases q;exact n _ hd
 refine wpAny_bind (wpAny_frameOf_fun hfr hl hf fun h1 s1=>?_)
 refine wpAny_bind (wpAny_entryPlaceOf fun pl hpl=>?_)
 unfold EntryCells.newEntry newFields
 refine wpAny_bind (wpAny_newObj_type ?_ (hpl.sizeOk5 _ _ _ _ _))
 have e1:h1.get? e=some oe:=(s1.2.1 e eF).trans he
 have e2:=Heap.get?_push_of_some (h:=h1) {cls:=.type "traceback",dict:=none,data:=.fields ([head,.ref L,.none,rawInt L,.none] ++ (if pl.isEmpty then List.replicate 6 Value.none else pl)).toArray} e1
 have tn:h1.objs.size≠e:=Nat.ne_of_gt (Heap.lt_size e1)
 refine wpAny_setField e2 hd hsz (h _ h1.objs.size (fun b o q hb hn=>?_) (fun b o q hb=>?_) ?_ ?_)
 ·have hbe:b≠e:=by simpa using hn
  have q1:h1.get? b=some o:=(s1.2.1 b hb).trans q
  rw[Heap.get?_update_other _ _ (Ne.symm hbe)]
  exact Heap.get?_push_of_some _ q1
 ·obtain⟨sl,q1⟩:=s1.2.2 b o q
  have hbe:b≠e:=fun z=>eF (z▸hb)
  refine⟨sl,?_⟩
  rw[Heap.get?_update_other _ _ (Ne.symm hbe)]
  exact Heap.get?_push_of_some _ q1
 ·cases q:s.heap.get? h1.objs.size with
  |none=>rfl
  |some o=>obtain⟨sl,q1⟩:=s1.2.2 _ o q;exact absurd (Heap.lt_size q1) (Nat.lt_irrefl _)
 ·have d3:=Obj.data_mapFields hd (·.setIfInBounds 1 (Value.ref h1.objs.size))
  have e3:=Heap.get?_update_self (Obj.mapFields (·.setIfInBounds 1 (Value.ref h1.objs.size))) e2 (Obj.isFreed_of_fields d3)
  refine⟨_,_,_,_,e3,(Obj.cls_mapFields _ _).trans hc,?_,d3,by simp[hsz],tn,(Heap.get?_update_other _ _ (Ne.symm tn)).trans (Heap.get?_push_size h1 rfl),rfl,?_⟩
  ·unfold Obj.mapFields
   split <;> exact hdd
  ·rcases hpl with rfl | ⟨_,_,_,_,_,_,_,rfl⟩ <;> simp
theorem vE {oe:Obj}{vs:Array Value}(hfr:A.frames=some (env :: outer))(hl:s.heap.FunFrames base (env :: outer))(hf:env.frame=some L)(he:s.heap.get? e=some oe)(hc:oe.cls=cls)(hdd:oe.dict=none)(hd:oe.data=.fields vs)(h1:vs[1]? =some .none)
  (h:∀h' T,Keeps (ji (env :: outer)) [e] s.heap h'->Slots (ji (env :: outer)) s.heap h'->s.heap.get? T=none->Rc h' e cls T (rawInt L)->Q () {s with heap:=h'}):wpAny M A (noteFrame (.ref e) env) Q E s:=by
 unfold noteFrame
 simp only[hf]
 refine wpAny_bind (wpAny_field he hd h1 ?_)
 rw[if_neg (by decide)]
 exact zZ hfr hl hf he hc hdd hd (Array.getElem?_eq_some_iff.mp h1).1 h
theorem yu {T0:Addr}(hfr:A.frames=some (env :: outer))(hl:s.heap.FunFrames base (env :: outer))(hf:env.frame=some L)(r:Rc s.heap e cls T0 .none)
  (h:∀h' T,Keeps (ji (env :: outer)) [e,T0] s.heap h'->Slots (ji (env :: outer)) s.heap h'->(s.heap.get? T=none\/T=T0)->Rc h' e cls T (rawInt L)->Q () {s with heap:=h'}):wpAny M A (noteFrame (.ref e) env) Q E s:=by
 obtain⟨oe,vs,oT,ts,he,hc,hdd,hd,h1,hTe,hT,hdT,h3⟩:=r
 have tF:T0∉ji (env :: outer):=fun z=>by
  obtain⟨_,o,q,n⟩:=hl.mem z
  rw[hT] at q;cases q;exact n _ hdT
 unfold noteFrame
 simp only[hf]
 refine wpAny_bind (wpAny_field he hd h1 ?_)
 rw[if_pos (show (Value.ref T0 != Value.none)=true from by simp)]
 refine wpAny_bind (wpAny_field hT hdT h3 ?_)
 rw[if_neg (show ¬((Value.none == rawInt L)=true) from by simp[rawInt])]
 refine wpAny_bind (wpAny_setField hT hdT (Array.getElem?_eq_some_iff.mp h3).1 ?_)
 have oth:∀b,b≠T0->(s.heap.update T0 (Obj.mapFields (·.setIfInBounds 3 Value.none))).get? b=s.heap.get? b:=fun b hb=>Heap.get?_update_other _ _ (Ne.symm hb)
 have nf:∀b o,s.heap.get? b=some o->(∀ws,o.data≠.fields ws)->b≠T0:=fun b o q n z=>by
  rw[z,hT] at q;cases q;exact n _ hdT
 refine zZ (base:=base) hfr (hl.of_keeps fun b o q n=>⟨o,(oth b (nf b o q n)).trans q,rfl⟩) hf ((oth e (Ne.symm hTe)).trans he) hc hdd hd (Array.getElem?_eq_some_iff.mp h1).1 fun h' T kp sl tn rc=>?_
 refine h h' T (fun b o q hb hn=>?_) (fun b o q hb=>?_) ?_ rc
 ·simp only[List.mem_cons,List.not_mem_nil,or_false,not_or] at hn
  exact kp b o ((oth b hn.2).trans q) hb (by simp[hn.1])
 ·exact sl b o ((oth b fun z=>tF (z▸hb)).trans q) hb
 ·by_cases z:T=T0
  ·exact .inr z
  ·exact .inl ((oth T z).symm.trans tn)
theorem xA {T:Addr}{fl:Value}(r:Rc s.heap e cls T fl)(h:∀h',Keeps [] [T] s.heap h'->Rc h' e cls T .none->Q () {s with heap:=h'}):wpAny M A (setFlight (.ref e) none) Q E s:=by
 obtain⟨oe,vs,oT,ts,he,hc,hdd,hd,h1,hTe,hT,hdT,h3⟩:=r
 have sz:3 < ts.size:=(Array.getElem?_eq_some_iff.mp h3).1
 unfold setFlight
 refine wpAny_bind (wpAny_field he hd h1 ?_)
 rw[if_pos (show (Value.ref T != Value.none)=true from by simp)]
 refine wpAny_setField hT hdT sz (h _ (fun b o q _ hn=>?_) ?_)
 ·have hb:b≠T:=by simpa using hn
  exact (Heap.get?_update_other _ _ (Ne.symm hb)).trans q
 ·have d3:=Obj.data_mapFields hdT (·.setIfInBounds 3 ((none:Option Addr).elim Value.none fun f=>rawInt f))
  exact⟨oe,vs,_,_,(Heap.get?_update_other _ _ hTe).trans he,hc,hdd,hd,h1,hTe,Heap.get?_update_self _ hT (Obj.isFreed_of_fields d3),d3,by simp[sz]⟩
end
end L2

end

section
namespace L2
open PySem PySem.Spec PyProof.Rows
section
variable {P:Program}{w:World}
theorem cJ.there {H:Hp}{h:Heap}{a:Addr}{o:HO}(x:cJ P w H h a o):∃u,h.get? a=some u:=by
 cases o with
 |lst xs=>obtain⟨_,_,_,_,e⟩:=x;exact⟨_,e⟩
 |tup xs=>obtain⟨_,_,_,u,e,_⟩:=x;exact⟨u,e⟩
 |dK kvs=>obtain⟨_,_,_,_,o,_,_,e,_⟩:=x;exact⟨_,e⟩
 |dT kvs=>obtain⟨_,_,_,_,o,_,_,e,_⟩:=x;exact⟨_,e⟩
 |set S n=>obtain⟨o,_,_,_,e,_⟩:=x;exact⟨_,e⟩
 |ins C dx fs=>obtain⟨_,_,_,e,_⟩:=x;exact⟨_,e⟩
 |own y=>obtain⟨_,e⟩:=x;exact⟨_,e⟩
 |xd fs=>obtain⟨_,⟨_,_,_,e,_⟩,_⟩:=x;exact⟨_,e⟩
 |bQ lo hi=>obtain⟨_,_,_,e⟩:=x;exact⟨_,e⟩
 |a9 ob u=>obtain⟨e,_⟩:=x;exact⟨_,e⟩
 |tbl ps=>exact⟨_,show h.get? a=some _ from x⟩
 |met f y=>exact⟨_,show h.get? a=some _ from x⟩
 |ext φ=>obtain⟨_,⟨_,e⟩,_⟩:=x;exact⟨_,e⟩
end
structure Lies (h₀:Heap)(H:Hp)(h:Heap)(e:Addr)(cls:Value):Prop where
 free:H e=none
 new:h₀.get? e=none
 ob:∃T,Rc h e cls T .none/\H T=none/\h₀.get? T=none
def nK (P:Program)(w:World):xF:=fun outer H s E e s'=>∃ea cls H',e=.ref ea/\s'.os=s.os/\AllBare s'.gens/\Un (ji outer) [] H H' s.heap s'.heap/\lG P w H' s'.heap/\Lies s.heap H' s'.heap ea cls/\E cls none H'
section
variable {P:Program}{w:World}{M:Model}{A:Around}{E':Value->Shared->Prop}{s:Shared}{env:Env}{outer:List Env}{L e:Addr}{cls:Value}{base h₀:Heap}{H:Hp}{Q:Unit->Shared->Prop}
theorem uw {h h':Heap}(hok:lG P w H h)(k:∀b o,h.get? b=some o->(∃u,H b=some u)->h'.get? b=some o):lG P w H h':=fun a o ha=>
 (hok a o ha).stay (fun b u hb q=>k b u q (hb.elim (fun z=>⟨o,by rw[z];exact ha⟩) fun z=>⟨_,z⟩)) (fun _ q=>q) fun _ _ q=>q
theorem zj (hfr:A.frames=some (env :: outer))(hf:env.frame=some L)(hfn:s.heap.FunFrames base (env :: outer))(hok:lG P w H s.heap)(hff:∀b∈ji (env :: outer),H b=none)(Ly:Lies h₀ H s.heap e cls)(hex:∀b o,h₀.get? b=some o->∃o',s.heap.get? b=some o')
  (hQ:∀h',(∀b o,s.heap.get? b=some o->b∉ji (env :: outer)->((∃o0,h₀.get? b=some o0)\/∃u,H b=some u)->h'.get? b=some o)->(∀b o,s.heap.get? b=some o->b∈ji (env :: outer)->∃sl,h'.get? b=some {o with slots:=sl})->Lies h₀ H h' e cls->lG P w H h'->Q () {s with heap:=h'}) :
  wpAny M A (leaving env (.ref e)) Q E' s:=by
 obtain⟨fr,nw,T0,rc,hHT,hnT⟩:=Ly
 obtain⟨oe,vs,oT,ts,he,hc,hdd,hd,h1,hTe,hT,hdT,h3⟩:=id rc
 have tF:T0∉ji (env :: outer):=fun z=>by
  obtain⟨_,o,q,n⟩:=hfn.mem z
  rw[hT] at q;cases q;exact n _ hdT
 unfold leaving
 refine wpAny_bind (yu hfr hfn hf rc fun h4 T kp sl tn rc4=>xA rc4 fun h5 kp5 rc5=>?_)
 have nT:∀b o,s.heap.get? b=some o->b≠T0->b≠T:=fun b o q n z=>by
  rcases tn with tn |tn
  ·rw[z,tn] at q;cases q
  ·exact n (z.trans tn)
 have kept:∀b o,s.heap.get? b=some o->b∉ji (env :: outer)->((∃o0,h₀.get? b=some o0)\/∃u,H b=some u)->h5.get? b=some o:=fun b o q hb hor=>by
  have be:b≠e:=fun z=>by subst z;rcases hor with⟨_,z⟩ | ⟨_,z⟩ <;> simp_all
  have bT:b≠T0:=fun z=>by subst z;rcases hor with⟨_,z⟩ | ⟨_,z⟩ <;> simp_all
  exact kp5 b o (kp b o q hb (by simp[be,bT])) (by simp) (by simp[nT b o q bT])
 have slot:∀b o,s.heap.get? b=some o->b∈ji (env :: outer)->∃sl,h5.get? b=some {o with slots:=sl}:=fun b o q hb=>by
  obtain⟨x,q4⟩:=sl b o q hb
  exact⟨x,kp5 b _ q4 (by simp) (by simp[nT b o q fun z=>tF (z▸hb)])⟩
 have fresh:H T=none/\h₀.get? T=none:=by
  rcases tn with tn |tn
  ·refine⟨?_,?_⟩
   ·cases q:H T with
    |none=>rfl
    |some u=>obtain⟨o,qo⟩:=(hok T u q).there;rw[tn] at qo;cases qo
   ·cases q:h₀.get? T with
    |none=>rfl
    |some u=>obtain⟨o,qo⟩:=hex T u q;rw[tn] at qo;cases qo
  ·rw[tn];exact⟨hHT,hnT⟩
 refine hQ h5 kept slot ⟨fr,nw,T,rc5,fresh.1,fresh.2⟩ (uw hok fun b o q hu=>kept b o q (fun z=>?_) (.inr hu))
 obtain⟨u,hu⟩:=hu
 rw[hff b z] at hu;cases hu
theorem vP {h:Heap}{args:List Value}(hfr:A.frames=some (env :: outer))(hf:env.frame=some L)(hfn:h.FunFrames base (env :: outer))(hok:lG P w H h)(hff:∀b∈ji (env :: outer),H b=none)(hex:∀b o,h₀.get? b=some o->∃o',h.get? b=some o')(hx:Heap.MadeExcOf h s.heap e cls args)
  (hQ:∀h',(∀b o,h.get? b=some o->b∉ji (env :: outer)->h'.get? b=some o)->(∀b o,h.get? b=some o->b∈ji (env :: outer)->∃sl,h'.get? b=some {o with slots:=sl})->Lies h₀ H h' e cls->lG P w H h'->Q () {s with heap:=h'}) :
  wpAny M A (leaving env (.ref e)) Q E' s:=by
 obtain⟨t,he,_,_⟩:=hx.there
 unfold leaving
 refine wpAny_bind (vE (cls:=cls) hfr (hfn.of_keeps fun b o q _=>⟨o,hx.keeps b o q,rfl⟩) hf he rfl rfl rfl rfl fun h4 T kp sl tn rc4=>xA rc4 fun h5 kp5 rc5=>?_)
 have ne:∀b o,h.get? b=some o->b≠e:=fun b o q z=>by rw[z,hx.new] at q;cases q
 have nT:∀b o,h.get? b=some o->b≠T:=fun b o q z=>by
  have:=hx.keeps b o q
  rw[z,tn] at this;cases this
 have kept:∀b o,h.get? b=some o->b∉ji (env :: outer)->h5.get? b=some o:=fun b o q hb=>kp5 b o (kp b o (hx.keeps b o q) hb (by simp[ne b o q])) (by simp) (by simp[nT b o q])
 have slot:∀b o,h.get? b=some o->b∈ji (env :: outer)->∃sl,h5.get? b=some {o with slots:=sl}:=fun b o q hb=>by
  obtain⟨x,q4⟩:=sl b o (hx.keeps b o q) hb
  exact⟨x,kp5 b _ q4 (by simp) (by simp[nT b o q])⟩
 have fresh:∀{b:Addr},h.get? b=none->H b=none/\h₀.get? b=none:=fun {b} hb=>by
  refine⟨?_,?_⟩
  ·cases q:H b with
   |none=>rfl
   |some u=>obtain⟨o,qo⟩:=(hok b u q).there;rw[hb] at qo;cases qo
  ·cases q:h₀.get? b with
   |none=>rfl
   |some u=>obtain⟨o,qo⟩:=hex b u q;rw[hb] at qo;cases qo
 have no:h.get? T=none:=by
  cases q:h.get? T with
  |none=>rfl
  |some o=>exact absurd rfl (nT T o q)
 obtain⟨f1,f2⟩:=fresh hx.new
 obtain⟨g1,g2⟩:=fresh no
 refine hQ h5 kept slot ⟨f1,f2,T,rc5,g1,g2⟩ (uw hok fun b o q hu=>kept b o q fun z=>?_)
 obtain⟨u,hu⟩:=hu
 rw[hff b z] at hu;cases hu
end
section
variable {P:Program}{w:World}{K:PySem.W.Frag}{mg:Str->Option Value}{base:Heap}{N:List Str}{qual:Str}{scope:Scope}{f:Addr}{cd:Value}{A:Around}{outer:List Env}{s0:Shared}{H0:Hp}{E:XK}
theorem aQ:Passes (nK P w) (kU (nK P w) P w K mg base N qual scope f cd A outer s0 H0 E) E:=by
 intro pins σ H s e s' I hcx
 obtain⟨ea,cls,H',rfl,os,bare,un,hok,Ly,q⟩:=hcx
 have I':=I.call' os un hok bare (fun b hb=>absurd hb (by simp))
 have old:∀{b:Addr},s.heap.get? b=none->s0.heap.get? b=none:=fun {b} hb=>by
  cases z:s0.heap.get? b with
  |none=>rfl
  |some o=>obtain⟨o',z'⟩:=I.base.there b o z (show b∉([]:List Addr) by simp);rw[hb] at z';cases z'
 have Ly0:Lies s0.heap H' s'.heap ea cls:=by
  obtain⟨fr,nw,T,rc,hHT,hnT⟩:=Ly
  exact⟨fr,old nw,T,rc,hHT,old hnT⟩
 have above:s0.heap.objs.size<=(envOfC qual scope s0.heap.objs.size f cd).locals:=I.ok.above
 refine zj (base:=base) (h₀:=s0.heap) I'.ok.frames rfl I'.stack I'.hok I'.stkFree Ly0 (fun b o z=>I'.base.there b o z (show b∉([]:List Addr) by simp)) fun h' kept slot Ly' hok'=>?_
 have nL:∀{b:Addr} {o:Obj},s0.heap.get? b=some o->b∉ji outer->b∉ji (envOfC qual scope s0.heap.objs.size f cd :: outer):=fun {b o} z hb hm=>by
  rcases List.mem_cons.mp (I'.stkSub b hm) with e |e
  ·have:=Heap.lt_size z
   rw[e] at this
   exact absurd (Nat.lt_of_lt_of_le this above) (Nat.lt_irrefl _)
  ·exact hb e
 have inn:∀{b:Addr},b∈ji outer->b∈ji (envOfC qual scope s0.heap.objs.size f cd :: outer):=fun {b} hb=>by
  obtain⟨en,h1,h2⟩:=List.mem_filterMap.mp hb
  exact List.mem_filterMap.mpr ⟨en,List.mem_cons_of_mem _ h1,h2⟩
 refine⟨ea,cls,H',rfl,os.trans I.os,bare,⟨fun b o z n hb _=>?_,fun b o z n hb _=>?_,fun b o z n _=>I'.base.free b o z n (show b∉([]:List Addr) by simp),fun b o z _=>?_,I'.base.tups,I'.base.frzs,I'.base.tbls⟩,hok',Ly',q⟩
 ·exact kept b o (I'.base.keep b o z n hb (show b∉([]:List Addr) by simp)) (nL z hb) (.inl ⟨o,z⟩)
 ·obtain⟨sl,z1⟩:=I'.base.slot b o z n hb (show b∉([]:List Addr) by simp)
  obtain⟨sl2,z2⟩:=slot b _ z1 (inn hb)
  exact⟨sl2,z2⟩
 ·obtain⟨o',z1⟩:=I'.base.there b o z (show b∉([]:List Addr) by simp)
  by_cases hb:b∈ji (envOfC qual scope s0.heap.objs.size f cd :: outer)
  ·obtain⟨sl,z2⟩:=slot b o' z1 hb
   exact⟨_,z2⟩
  ·exact⟨o',kept b o' z1 hb (.inl ⟨o,z⟩)⟩
def D0 (C:Addr)(E:XK)(t:TA):TS:=fun _ σ H=>t σ H fun vs H1=>vs.length<=sizeLine/\E (.ref C) none H1
theorem zw {x:Str}{C:Addr}{np cpos pos:Pos}{e0:Expr}{es:List Expr}{t:TA}{Bn newId initId:String}{bmB:List Value}(FB:ExcBaseFacts Bn newId initId bmB)(hbb:bmB.contains (.type "BaseException")=true)(q:PySem.W.excIn K C bmB newId=true)
  (hg:Gl (kU (nK P w) P w K mg base N qual scope f cd A outer s0 H0 E) x) (hm:mg x=some (.ref C)) (ha:PA (kU (nK P w) P w K mg base N qual scope f cd A outer s0 H0 E) (e0 :: es) t)
  (he:starEach (e0 :: es) (envOfC qual scope s0.heap.objs.size f cd)=(false,eval e0 (envOfC qual scope s0.heap.objs.size f cd)) :: starEach es (envOfC qual scope s0.heap.objs.size f cd):=by rfl)
  (hpl:(backTo cpos (starEach es (envOfC qual scope s0.heap.objs.size f cd))).any (·.1)=false:=by rfl) (hdb:(x == ("__debug__":Str))=false:=by decide) :
  PS (kU (nK P w) P w K mg base N qual scope f cd A outer s0 H0 E) (.Raise (some (.Call (.Name x np) (e0 :: es) [] cpos)) none pos) (D0 C E t):=by
 intro pins s σ H D I h
 have own:∀{hh:Heap},K.In hh->∃bm Nn nm qn bs hdct sn sub ab col dd k0 k1 k2 k3 k5 mN,hh.get? C=some (excClassObj nm qn C Nn bs bm hdct sn sub ab col dd k0 k1 k2 k3 k5 newId)/\hh.Ns Nn mN/\mN "__init__"=none/\OwnTail hh bmB bm:=fun {hh} X=>by
  have q:=q
  unfold PySem.W.excIn at q
  split at q
  ·rename_i dd cdd sl ho
   split at q
   ·rename_i C' bm k0 k1 k2 k3 n k5 hm hs
    simp only[Bool.and_eq_true,beq_iff_eq,Bool.not_eq_true'] at q
    obtain⟨⟨⟨⟨⟨rfl,rfl⟩,hdel⟩,ht⟩,hok⟩,hni⟩:=q
    obtain⟨nm,bs,mro,ns,qn,hd,sn,sub,ab,col,del⟩:=cdd
    dsimp only at hm hdel hok hni
    subst hm hdel
    have hsl:sl=#[k0,k1,k2,k3,some (.builtin n),k5]:=by
     obtain⟨l⟩:=sl
     simp only at hs
     rw[hs]
    subst hsl
    exact⟨bm,ns,nm,qn,bs,hd,sn,sub,ab,col,dd,k0,k1,k2,k3,k5,_,X _ _ ho,.of_isNs (PySem.W.isNs_of_in X hok),PySem.W.nsMap_none_of_in X hok hni,PySem.W.tail_of_in X ht⟩
   ·cases q
  ·cases q
 obtain⟨bm,Nn,nm,qn,bs,hdct,sn,sub,ab,col,dd,k0,k1,k2,k3,k5,mN,hC,hN,hni,TL⟩:=own I.ok.mod.kin
 have hA:=ha cpos pins s σ H _ I h
 refine wpAny_Raise_call_subT (C:=C) (nm:=nm) (q:=qn) (N:=Nn) (bs:=bs) (bm:=bm) (hdct:=hdct) (sn:=sn) (sub:=sub) (ab:=ab) (col:=col) (dd:=dd) (k0:=k0) (k1:=k1) (k2:=k2) (k3:=k3) (k5:=k5) FB (mN:=mN) (TL.hasType hbb) (I.ok.hd rfl) ?_ hni (rR I hg hm ⟨rfl,?_⟩ hdb)
 ·show (backTo cpos (starEach (e0 :: es) (envOfC qual scope s0.heap.objs.size f cd))).any (·.1)=false
  rw[he]
  show (false || (backTo cpos (starEach es (envOfC qual scope s0.heap.objs.size f cd))).any (·.1))=false
  rw[hpl];rfl
 have hA:wpAny _ _ (spliced (backTo cpos (starEach (e0 :: es) (envOfC qual scope s0.heap.objs.size f cd)))) _ _ s:=hA
 show wpAny _ _ (evalArgs (.ref C) true (backTo cpos (starEach (e0 :: es) (envOfC qual scope s0.heap.objs.size f cd))) []) _ _ s
 rw[he] at hA ⊢
 refine Calls.evalArgs_plain (cZ hA fun us s2 ⟨vs,H2,I2,r2,hl2,q2⟩=>⟨rfl,by show us.length<=_;rw[<-r2.length];exact hl2,I2.bk _ _ hC,hN.keeps I2.bk,TL.keeps I2.bk,fun h' e hx=>?_⟩)
 have above:s0.heap.objs.size<=(envOfC qual scope s0.heap.objs.size f cd).locals:=I2.ok.above
 have nil:∀b:Addr,b∉([]:List Addr):=fun b=>by simp
 refine vP (s:={s2 with heap:=h'}) (h:=s2.heap) (base:=base) (h₀:=s0.heap) I2.ok.frames rfl I2.stack I2.hok I2.stkFree (fun b o z=>I2.base.there b o z (nil b)) hx fun h2 kept slot Ly hok=>?_
 have nL:∀{b:Addr} {o:Obj},s0.heap.get? b=some o->b∉ji outer->b∉ji (envOfC qual scope s0.heap.objs.size f cd :: outer):=fun {b o} z hb hm=>by
  rcases List.mem_cons.mp (I2.stkSub b hm) with e |e
  ·have:=Heap.lt_size z
   rw[e] at this
   exact absurd (Nat.lt_of_lt_of_le this above) (Nat.lt_irrefl _)
  ·exact hb e
 have inn:∀{b:Addr},b∈ji outer->b∈ji (envOfC qual scope s0.heap.objs.size f cd :: outer):=fun {b} hb=>by
  obtain⟨en,h1,h2⟩:=List.mem_filterMap.mp hb
  exact List.mem_filterMap.mpr ⟨en,List.mem_cons_of_mem _ h1,h2⟩
 refine⟨e,.ref C,H2,rfl,I2.os,I2.bare,⟨fun b o z n hb _=>?_,fun b o z n hb _=>?_,fun b o z n _=>I2.base.free b o z n (nil b),fun b o z _=>?_,I2.base.tups,I2.base.frzs,I2.base.tbls⟩,hok,Ly,q2⟩
 ·exact kept b o (I2.base.keep b o z n hb (nil b)) (nL z hb)
 ·obtain⟨sl,z1⟩:=I2.base.slot b o z n hb (nil b)
  obtain⟨sl2,z2⟩:=slot b _ z1 (inn hb)
  exact⟨sl2,z2⟩
 ·obtain⟨o',z1⟩:=I2.base.there b o z (nil b)
  by_cases hb:b∈ji (envOfC qual scope s0.heap.objs.size f cd :: outer)
  ·obtain⟨sl,z2⟩:=slot b o' z1 hb
   exact⟨_,z2⟩
  ·exact⟨o',kept b o' z1 hb⟩
end
end L2

end

section

end

section
namespace L2
open PySem PySem.Spec PyProof.Rows
def mroIn (K:PySem.W.Frag)(C:Addr):List Value:=match K.lookup C with
 |some ⟨_,_,.cls cd,_⟩=>cd.mro
 |_=>[]
end L2

end

section
namespace L2
open PySem PySem.Spec PyProof.Rows
structure yR (k:Nat)(A:Around):Prop where
 dp:A.depth + 3 * k + 5 < recursionLimit
 un:A.units + 16 * k + 200 < cLine
 gd:A.guards=some []
theorem fA.h {k:Nat}{A:Around}(r:fA k A):yR k A:=⟨r.dp,r.un,r.gd⟩
theorem yR.units {k:Nat}{A:Around}(r:yR k A):A.units + 64 < cLine:=by have:=r.un;omega
section
variable {P:Program}{w:World}{K:PySem.W.Frag}{mg:Str->Option Value}{base:Heap}
theorem A6.De {x qual:Str}{st:Stmt}{f:Addr}{fd:FuncData}{N ps:List Str}{k:Nat}{sp:Sp}(F:A6 K x qual st f fd)(S:aC N ps (ao st))(len:∀vs H Q E,sp vs H Q E->vs.length=ps.length)
  (hbody:∀(cdv:Value) (A:Around) (outer:List Env) (s:Shared) (H:Hp) (vs:List V) (Q:VK) (E:XK),fA k (A.deeper (envOfC qual (ao st) s.heap.objs.size f cdv))->sp vs H Q E->
   ∃t,qP (kU (nK P w) P w K mg base N qual (ao st) f cdv A outer s H E) (dM st) t/\t {nx:=fun _ H'=>Q .non H',rt:=Q} (start N vs) H):fW P w K mg base (nK P w) (k + 1) f fd ps sp:=by
 obtain⟨oc,od,kV,doc,pm,an,cdv,ct,osl,rfl,lk,hcd⟩:=F.ex
 exact Di lk hcd S len fun A outer s H vs Q E hr hsp=>hbody cdv A outer s H vs Q E hr hsp
end
end L2

end

section

end

section

end

section

end

section

end

section

end

section
namespace L2
open PySem PySem.Spec PyProof.Rows
abbrev D:=PyData
def kD:Key->D
 | .inl i=>.int i
 | .inr x=>.str x
mutual
inductive Rp (K:PySem.W.Frag)(G:Hp):V->D->Prop
 |non:Rp K G .non .none
 |bl (b:Bool):Rp K G (.bl b) (.bool b)
 |int (i:Int):Rp K G (.int i) (.int i)
 |str (x:Str):Rp K G (.str x) (.str x)
 |tup {a:Addr} {xs:List V} {ds:List D}:eh K G a xs->cx K G xs ds->Rp K G (.ref a) (.tuple ds)
 |lst {a:Addr} {xs:List V} {ds:List D}:G a=some (.lst xs)->cx K G xs ds->Rp K G (.ref a) (.list ds)
 |scr {a:Addr} {ns:List Int}:hZ K G a (ns.map V.int)->Rp K G (.ref a) (.dict [(.none,.list (ns.map PyData.int))])
 |dK {a:Addr} {kvs:List (Key×V)} {ds:List (D×D)}:G a=some (.dK kvs)->yJ K G kvs ds->Rp K G (.ref a) (.dict ds)
 |dT {a:Addr} {kvs:List (List Key×V)} {ds:List (D×D)}:G a=some (.dT kvs)->yI K G kvs ds->Rp K G (.ref a) (.dict ds)
inductive cx (K:PySem.W.Frag)(G:Hp):List V->List D->Prop
 |nil:cx K G [] []
 |cons {x:V} {xs:List V} {d:D} {ds:List D}:Rp K G x d->cx K G xs ds->cx K G (x :: xs) (d :: ds)
inductive yJ (K:PySem.W.Frag)(G:Hp):List (Key×V)->List (D×D)->Prop
 |nil:yJ K G [] []
 |cons {k:Key} {x:V} {xs:List (Key×V)} {d:D} {ds:List (D×D)}:Rp K G x d->yJ K G xs ds->yJ K G ((k,x) :: xs) ((kD k,d) :: ds)
inductive yI (K:PySem.W.Frag)(G:Hp):List (List Key×V)->List (D×D)->Prop
 |nil:yI K G [] []
 |cons {k:List Key} {x:V} {xs:List (List Key×V)} {d:D} {ds:List (D×D)}:Rp K G x d->yI K G xs ds->yI K G ((k,x) :: xs) ((.tuple (k.map kD),d) :: ds)
end
section
variable {K:PySem.W.Frag}{G G' H H':Hp}
theorem Rd.mono {a:Addr}{u:HO}(h:Rd G a u)(s:aq G G'):Rd G' a u:=h.elim (fun e=>.inl (s _ _ e)) fun⟨o,e⟩=>.inr ⟨o,s _ _ e⟩
mutual
theorem Rp.mono (s:aq G G'):∀{x:V} {d:D},Rp K G x d->Rp K G' x d
 |_,_,.non=>.non
 |_,_,.bl b=>.bl b
 |_,_,.int i=>.int i
 |_,_,.str x=>.str x
 |_,_,.tup h hs=>.tup (h.grow s.grow) (cx.mono s hs)
 |_,_,.lst h hs=>.lst (s _ _ h) (cx.mono s hs)
 |_,_,.scr h=>.scr (s.seq h)
 |_,_,.dK h hs=>.dK (s _ _ h) (yJ.mono s hs)
 |_,_,.dT h hs=>.dT (s _ _ h) (yI.mono s hs)
theorem cx.mono (s:aq G G'):∀{xs:List V} {ds:List D},cx K G xs ds->cx K G' xs ds
 |_,_,.nil=>.nil
 |_,_,.cons h hs=>.cons (Rp.mono s h) (cx.mono s hs)
theorem yJ.mono (s:aq G G'):∀{xs:List (Key×V)} {ds:List (D×D)},yJ K G xs ds->yJ K G' xs ds
 |_,_,.nil=>.nil
 |_,_,.cons h hs=>.cons (Rp.mono s h) (yJ.mono s hs)
theorem yI.mono (s:aq G G'):∀{xs:List (List Key×V)} {ds:List (D×D)},yI K G xs ds->yI K G' xs ds
 |_,_,.nil=>.nil
 |_,_,.cons h hs=>.cons (Rp.mono s h) (yI.mono s hs)
end
theorem cx.len:∀{xs:List V} {ds:List D},cx K G xs ds->xs.length=ds.length
 |_,_,.nil=>rfl
 |_,_,.cons _ t=>by simp[cx.len t]
theorem cx.at:∀{xs:List V} {ds:List D} {i:Nat} {d:D},cx K G xs ds->ds[i]? =some d->∃x,xs[i]? =some x/\Rp K G x d
 |_,_,_,_,.nil,e=>by simp at e
 |_,_,0,_,.cons r _,e=>by simp at e;subst e;exact⟨_,rfl,r⟩
 |_,_,i + 1,x,.cons _ t,e=>by
  obtain⟨u,h1,h2⟩:=cx.at (i:=i) (d:=x) t (by simpa using e)
  exact⟨u,by simpa using h1,h2⟩
theorem cx.at':∀{xs:List V} {ds:List D} {i:Nat} {x:V},cx K G xs ds->xs[i]? =some x->∃d,ds[i]? =some d/\Rp K G x d
 |_,_,_,_,.nil,e=>by simp at e
 |_,_,0,_,.cons r _,e=>by simp at e;subst e;exact⟨_,rfl,r⟩
 |_,_,i + 1,x,.cons _ t,e=>by
  obtain⟨u,h1,h2⟩:=cx.at' (i:=i) (x:=x) t (by simpa using e)
  exact⟨u,by simpa using h1,h2⟩
theorem cx.append:∀{xs ys:List V} {ds es:List D},cx K G xs ds->cx K G ys es->cx K G (xs ++ ys) (ds ++ es)
 |_,_,_,_,.nil,s=>s
 |_,_,_,_,.cons r t,s=>.cons r (cx.append t s)
theorem cx.snoc {xs:List V}{ds:List D}{x:V}{d:D}(h:cx K G xs ds)(q:Rp K G x d):cx K G (xs ++ [x]) (ds ++ [d]):=h.append (.cons q .nil)
theorem cx.take:∀{xs:List V} {ds:List D} (n:Nat),cx K G xs ds->cx K G (xs.take n) (ds.take n)
 |_,_,0,_=>.nil
 |_,_,_ + 1,.nil=>.nil
 |_,_,n + 1,.cons r t=>.cons r (cx.take n t)
theorem cx.drop:∀{xs:List V} {ds:List D} (n:Nat),cx K G xs ds->cx K G (xs.drop n) (ds.drop n)
 |_,_,0,r=>r
 |_,_,_ + 1,.nil=>.nil
 |_,_,n + 1,.cons _ t=>cx.drop n t
theorem cx.set {x:V}{d:D}(r:Rp K G x d):∀{xs:List V} {ds:List D} (i:Nat),cx K G xs ds->cx K G (xs.set i x) (ds.set i d)
 |_,_,_,.nil=>.nil
 |_,_,0,.cons _ t=>.cons r t
 |_,_,i + 1,.cons q t=>.cons q (cx.set r i t)
theorem cx.rep {n:Nat}{xs:List V}{ds:List D}(h:cx K G xs ds):cx K G (List.replicate n xs).flatten (List.replicate n ds).flatten:=by
 induction n with
 |zero=>exact .nil
 |succ n ih=>rw[List.replicate_succ,List.replicate_succ,List.flatten_cons,List.flatten_cons];exact h.append ih
mutual
def AL:D->Bool
 | .dict _=>false
 | .list ds=>pM ds
 | .tuple ds=>pM ds
 |_=>true
def pM:List D->Bool
 | []=>true
 |d :: ds=>AL d && pM ds
end
mutual
theorem Rp.rep:∀{x:V} {d:D},Rp K G x d->AL d=true->Rep K G x d
 |_,_,.non,_=>.non
 |_,_,.bl b,_=>.bl b
 |_,_,.int i,_=>.int i
 |_,_,.str x,_=>.str x
 |_,_,.tup h hs,e=>.tup h (cx.reps hs (by simpa[AL] using e))
 |_,_,.lst h hs,e=>.lst (.inl (.inl h)) (cx.reps hs (by simpa[AL] using e))
 |_,_,.scr _,e=>by simp[AL] at e
 |_,_,.dK _ _,e=>by simp[AL] at e
 |_,_,.dT _ _,e=>by simp[AL] at e
theorem cx.reps:∀{xs:List V} {ds:List D},cx K G xs ds->pM ds=true->jt K G xs ds
 |_,_,.nil,_=>.nil
 |_,_,.cons h hs,e=>.cons (Rp.rep h (by simp[pM] at e;exact e.1)) (cx.reps hs (by simp[pM] at e;exact e.2))
end
def Own (K:PySem.W.Frag)(G H:Hp)(a:Addr):D->Prop
 | .list ds=>∃xs,H a=some (.lst xs)/\cx K G xs ds
 | .dict ds=>(∃kvs,H a=some (.dK kvs)/\yJ K G kvs ds)\/∃kvs,H a=some (.dT kvs)/\yI K G kvs ds
 |_=>False
theorem Own.obj {a:Addr}{d:D}(h:Own K G H a d):∃o,H a=some o:=by
 cases d <;> first |exact h.elim |skip
 ·obtain⟨xs,e,_⟩:=h;exact⟨_,e⟩
 ·rcases h with⟨_,e,_⟩ | ⟨_,e,_⟩ <;> exact⟨_,e⟩
theorem Own.mono {a:Addr}{d:D}(h:Own K G H a d)(s:aq G G')(m:∀o,H a=some o->H' a=some o):Own K G' H' a d:=by
 cases d <;> first |exact h.elim |skip
 ·obtain⟨xs,e,r⟩:=h;exact⟨xs,m _ e,r.mono s⟩
 ·rcases h with⟨k,e,r⟩ | ⟨k,e,r⟩
  ·exact .inl ⟨k,m _ e,r.mono s⟩
  ·exact .inr ⟨k,m _ e,r.mono s⟩
theorem Own.rp {a:Addr}{d:D}(h:Own K G H a d)(n:G a=none){G':Hp}(s:aq G G')(e:∀o,H a=some o->G' a=some o):Rp K G' (.ref a) d:=by
 cases d <;> first |exact h.elim |skip
 ·obtain⟨xs,q,r⟩:=h;exact .lst (e _ q) (r.mono s)
 ·rcases h with⟨k,q,r⟩ | ⟨k,q,r⟩
  ·exact .dK (e _ q) (r.mono s)
  ·exact .dT (e _ q) (r.mono s)
def lb (K:PySem.W.Frag)(B:Option Addr)(G H:Hp)(v:V)(d:D):Prop:=Rp K G v d\/∃a,v=.ref a/\B≠some a/\Own K G H a d
def iD (B:Option Addr)(H H':Hp):Prop:=∀b o,H b=some o->B≠some b->H' b=some o
theorem iD.refl (B:Option Addr)(H:Hp):iD B H H:=fun _ _ h _=>h
theorem iD.trans {B:Option Addr}{H1:Hp}(x:iD B H H1)(y:iD B H1 H'):iD B H H':=fun b o h n=>y b o (x b o h n) n
theorem aq.mov (s:aq H H')(B:Option Addr):iD B H H':=fun b o h _=>s b o h
theorem lb.mono {B:Option Addr}{v:V}{d:D}(h:lb K B G H v d)(s:aq G G')(m:iD B H H'):lb K B G' H' v d:=by
 rcases h with h | ⟨a,e,n,h⟩
 ·exact .inl (h.mono s)
 ·exact .inr ⟨a,e,n,h.mono s fun o q=>m a o q n⟩
theorem lb.rpH {B:Option Addr}{v:V}{d:D}(h:lb K B G H v d)(s:aq G H):Rp K H v d:=by
 rcases h with h | ⟨a,rfl,n,h⟩
 ·exact h.mono s
 ·cases d <;> first |exact h.elim |skip
  ·obtain⟨xs,q,r⟩:=h;exact .lst q (r.mono s)
  ·rcases h with⟨k,q,r⟩ | ⟨k,q,r⟩
   ·exact .dK q (r.mono s)
   ·exact .dT q (r.mono s)
theorem lb.list {B:Option Addr}{v:V}{ds:List D}(h:lb K B G H v (.list ds))(s:aq G H):∃a xs,v=.ref a/\Rd H a (.lst xs)/\cx K G xs ds:=by
 rcases h with h | ⟨a,rfl,n,xs,q,r⟩
 ·cases h with
  |lst h r=>exact⟨_,_,rfl,.inl (s _ _ h),r⟩
 ·exact⟨a,xs,rfl,.inl q,r⟩
theorem lb.tuple {B:Option Addr}{v:V}{ds:List D}(h:lb K B G H v (.tuple ds))(s:aq G H):∃a xs,v=.ref a/\eh K H a xs/\cx K G xs ds:=by
 rcases h with h | ⟨a,rfl,n,h⟩
 ·cases h with
  |tup h r=>exact⟨_,_,rfl,h.grow s.grow,r⟩
 ·exact h.elim
theorem lb.int {B:Option Addr}{v:V}{i:Int}(h:lb K B G H v (.int i)):v=.int i:=by
 rcases h with h | ⟨a,rfl,n,h⟩
 ·cases h;rfl
 ·exact h.elim
theorem lb.bool {B:Option Addr}{v:V}{b:Bool}(h:lb K B G H v (.bool b)):v=.bl b:=by
 rcases h with h | ⟨a,rfl,n,h⟩
 ·cases h;rfl
 ·exact h.elim
theorem lb.str {B:Option Addr}{v:V}{x:Str}(h:lb K B G H v (.str x)):v=.str x:=by
 rcases h with h | ⟨a,rfl,n,h⟩
 ·cases h;rfl
 ·exact h.elim
theorem lb.none {B:Option Addr}{v:V}(h:lb K B G H v .none):v=.non:=by
 rcases h with h | ⟨a,rfl,n,h⟩
 ·cases h;rfl
 ·exact h.elim
end
def Fz:HO->Prop
 | .tup _=>True
 | .a9 _ _=>True
 |_=>False
def Mx (H:Hp)(b:Addr):Prop:=H b≠none/\∀o,H b=some o->¬Fz o
theorem Mx.lst {H:Hp}{b:Addr}{xs:List V}(h:H b=some (.lst xs)):Mx H b:=⟨by rw[h];simp,fun ys z=>by rw[h] at z;cases z;exact fun y=>y⟩
theorem Mx.same {H H':Hp}{b:Addr}(h:Mx H b)(m:∀o,H b=some o->H' b=some o):Mx H' b:=by
 obtain⟨h1,h2⟩:=h
 cases e:H b with
 |none=>exact absurd e h1
 |some o=>
  refine⟨by rw[m o e];simp,fun xs z=>?_⟩
  rw[m o e] at z
  cases z
  exact h2 o e
theorem Own.mx {K:PySem.W.Frag}{G H:Hp}{a:Addr}{d:D}(h:Own K G H a d):Mx H a:=by
 cases d <;> first |exact h.elim |skip
 ·obtain⟨xs,e,_⟩:=h;exact Mx.lst e
 ·rcases h with⟨k,e,_⟩ | ⟨k,e,_⟩ <;> exact⟨by rw[e];simp,fun ys z=>by rw[e] at z;cases z;exact fun y=>y⟩
open Classical in
noncomputable def lL (G H:Hp):Hp:=fun b=>match G b with
 |some o=>some o
 |none=>match H b with
  |some o=>if Fz o then some o else none
  |none=>none
theorem qi {G H:Hp}:aq G (lL G H):=fun b o e=>by unfold lL;rw[e]
theorem wq {G H:Hp}(s:aq G H){b:Addr}{o:HO}(e:H b=some o)(f:Fz o):lL G H b=some o:=by
 unfold lL
 cases q:G b with
 |some u=>have:=s b u q;rw[e] at this;cases this;rfl
 |none=>simp only[e];rw[if_pos f]
theorem sP {G H:Hp}(s:aq G H):aq (lL G H) H:=fun b o e=>by
 unfold lL at e
 cases q:G b with
 |some u=>rw[q] at e;cases e;exact s b _ q
 |none=>
  rw[q] at e
  cases q2:H b with
  |none=>rw[q2] at e;cases e
  |some u=>
   rw[q2] at e
   dsimp only at e
   split at e
   ·cases e;rfl
   ·cases e
theorem wL {G H H':Hp}(hh:aq H H'){b:Addr}(m:Mx H b):lL G H' b=G b:=by
 unfold lL
 cases q:G b with
 |some u=>rfl
 |none=>
  obtain⟨h1,h2⟩:=m
  cases e:H b with
  |none=>exact absurd e h1
  |some o=>
   simp only[hh b o e]
   rw[if_neg (h2 o e)]
theorem ot {K:PySem.W.Frag}{G H:Hp}(s:aq G H){a:Addr}{xs:List V}(h:eh K H a xs):eh K (lL G H) a xs:=by
 rcases h with (h | ⟨o,h⟩) |h
 ·exact .inl (.inl (wq s h trivial))
 ·exact .inl (.inr ⟨o,wq s h trivial⟩)
 ·exact .inr h
structure Fx where
 K:PySem.W.Frag
 H0:Hp
 G0:Hp
 par:List Addr
 ca:Str->Addr
 br:Nat->Bool
 bx:Option Addr
inductive Sl where
 |no |fz (d:D) |ow (d:D) |bx |br (d:D)
abbrev En:=List Sl
inductive Nv where
 |no |da (d:D) |bx
def Sl.val:Sl->Nv
 | .no=>.no
 | .fz d=>.da d
 | .ow d=>.da d
 | .br d=>.da d
 | .bx=>.bx
def vl (env:En):List Nv:=env.map Sl.val
def Iv (Γ:Fx)(B:Option Addr)(G H:Hp)(i:Nat)(o:Option (Option V)):Sl->Prop
 | .no=>True
 | .fz d=>∃v,o=some (some v)/\Rp Γ.K G v d
 | .ow d=>∃a,o=some (some (.ref a))/\Γ.H0 a=none/\G a=none/\B≠some a/\Own Γ.K G H a d
 | .bx=>∃a,o=some (some (.ref a))/\B=some a
 | .br d=>Γ.br i=true/\∃a,o=some (some (.ref a))/\B≠some a/\a∉Γ.par/\Own Γ.K G H a d
structure SR (Γ:Fx)(B:Option Addr)(G H:Hp)(σ:St)(env:En)(β:Int):Prop where
 sub:aq G H
 old:aq Γ.G0 G
 new:∀b,Mx Γ.H0 b->Γ.G0 b=none->G b=none
 keep:∀b o,Γ.H0 b=some o->b∉Γ.par->H b=some o
 pin:∀b,b∈Γ.par->Mx H b
 fix:∀b,Γ.bx=some b->B=some b
 box:∀b,B=some b->H b=some (.lst [.int β])/\G b=none/\(b∈Γ.par\/Γ.H0 b=none)
 len:σ.length=env.length
 slot:∀(i:Nat) (s:Sl),env[i]? =some s->Iv Γ B G H i (σ[i]?) s
 sep:∀(i j:Nat) (a:Addr) (d e:D),env[i]? =some (.ow d)->env[j]? =some (.ow e)->σ[i]? =some (some (.ref a))->σ[j]? =some (some (.ref a))->i=j
structure Ext (G H G' H':Hp):Prop where
 hh:aq H H'
 gg:aq G G'
 gh:aq G' H'
 on:∀b,Mx H b->G' b=G b
theorem Ext.refl {G H:Hp}(s:aq G H):Ext G H G H:=⟨aq.refl _,aq.refl _,s,fun _ _=>rfl⟩
theorem Ext.tups {G H H':Hp}(s:aq G H)(hh:aq H H'):Ext G H (lL G H') H':=⟨hh,qi,sP (s.trans hh),fun _ m=>wL hh m⟩
theorem Ext.new {G H:Hp}(s:aq G H){p:Addr}{o:HO}(h:H p=none):Ext G H (upd G p o) (upd H p o):=by
 refine⟨aq.new h,aq.new (s.free h),fun b u e=>?_,fun b hb=>?_⟩
 ·by_cases z:b=p
  ·subst z;rw[aA] at e ⊢;exact e
  ·rw[aB z] at e ⊢;exact s b u e
 ·exact aB (fun z=>hb.1 (by rw[z];exact h))
theorem Ext.own {G H:Hp}(s:aq G H){p:Addr}{o:HO}(h:H p=none):Ext G H G (upd H p o):=
 ⟨aq.new h,aq.refl _,s.trans (aq.new h),fun _ _=>rfl⟩
theorem Ext.trans {G H G1 H1 G2 H2:Hp}(x:Ext G H G1 H1)(y:Ext G1 H1 G2 H2):Ext G H G2 H2:=by
 refine⟨x.hh.trans y.hh,x.gg.trans y.gg,y.gh,fun b hb=>?_⟩
 rw[y.on b (hb.same fun o e=>x.hh b o e),x.on b hb]
section
variable {Γ:Fx}{B:Option Addr}{G H G' H':Hp}{σ:St}{env:En}{β:Int}
theorem SR.there (I:SR Γ B G H σ env β){b:Addr}(h:Γ.H0 b≠none):H b≠none:=by
 by_cases hp:b∈Γ.par
 ·exact (I.pin b hp).1
 ·cases e:Γ.H0 b with
  |none=>exact absurd e h
  |some o=>rw[I.keep b o e hp];simp
theorem SR.thereM (I:SR Γ B G H σ env β){b:Addr}(h:Mx Γ.H0 b):Mx H b:=by
 by_cases hp:b∈Γ.par
 ·exact I.pin b hp
 ·exact h.same fun o e=>I.keep b o e hp
theorem SR.ext (I:SR Γ B G H σ env β)(x:Ext G H G' H'):SR Γ B G' H' σ env β:=by
 refine⟨x.gh,I.old.trans x.gg,fun b h1 h2=>?_,fun b o h1 h2=>x.hh b o (I.keep b o h1 h2),fun b hb=>?_,I.fix,fun b e=>?_,I.len,fun i s e=>?_,I.sep⟩
 ·rw[x.on b (I.thereM h1)];exact I.new b h1 h2
 ·exact (I.pin b hb).same fun o e=>x.hh b o e
 ·obtain⟨h1,h2,h3⟩:=I.box b e
  exact⟨x.hh b _ h1,by rw[x.on b (Mx.lst h1)];exact h2,h3⟩
 ·have q:=I.slot i s e
  cases s with
  |no=>trivial
  |fz d=>obtain⟨v,h1,h2⟩:=q;exact⟨v,h1,h2.mono x.gg⟩
  |ow d=>
   obtain⟨a,h1,h2,h3,h4,h5⟩:=q
   exact⟨a,h1,h2,by rw[x.on a h5.mx];exact h3,h4,h5.mono x.gg fun o q=>x.hh a o q⟩
  |bx=>exact q
  |br d=>obtain⟨b1,a,h1,h4,hp,h5⟩:=q;exact⟨b1,a,h1,h4,hp,h5.mono x.gg fun o q=>x.hh a o q⟩
def fZ (env:En)(i:Nat):En:=match env[i]? with
 |some (.ow d)=>env.set i (.fz d)
 |_=>env
def a9 (L:List Nat)(env:En):En:=L.foldl fZ env
theorem cz (L M:List Nat)(env:En):a9 (L ++ M) env=a9 M (a9 L env):=by unfold a9;rw[List.foldl_append]
theorem vA (env:En)(i:Nat)(s:Sl)(h:∀t,env[i]? =some t->t.val=s.val):vl (env.set i s)=vl env:=by
 unfold vl
 apply List.ext_getElem?
 intro j
 rw[List.getElem?_map,List.getElem?_map,List.getElem?_set]
 by_cases e:i=j
 ·subst e
  by_cases hi:i < env.length
  ·simp only[if_true,hi]
   have:=h _ (List.getElem?_eq_getElem hi)
   simp[List.getElem?_eq_getElem hi,this]
  ·simp only[if_true,hi,if_false]
   rw[List.getElem?_eq_none (by omega)]
 ·simp[e]
theorem B6 (env:En)(i:Nat):vl (fZ env i)=vl env:=by
 unfold fZ
 split
 ·rename_i d e
  exact vA _ _ _ fun t ht=>by rw[e] at ht;cases ht;rfl
 ·rfl
theorem eO (L:List Nat)(env:En):vl (a9 L env)=vl env:=by
 unfold a9
 induction L generalizing env with
 |nil=>rfl
 |cons i L ih=>rw[List.foldl_cons,ih,B6]
theorem Dt {i:Nat}{d:D}(h:(vl env)[i]? =some (.da d)):env[i]? =some (.fz d)\/env[i]? =some (.ow d)\/env[i]? =some (.br d):=by
 unfold vl at h
 rw[List.getElem?_map] at h
 cases e:env[i]? with
 |none=>rw[e] at h;simp at h
 |some s=>
  rw[e] at h
  cases s with
  |no=>simp[Sl.val] at h
  |fz d'=>simp[Sl.val] at h;subst h;exact .inl rfl
  |ow d'=>simp[Sl.val] at h;subst h;exact .inr (.inl rfl)
  |bx=>simp[Sl.val] at h
  |br d'=>simp[Sl.val] at h;subst h;exact .inr (.inr rfl)
theorem FO {i:Nat}(h:(vl env)[i]? =some .bx):env[i]? =some .bx:=by
 unfold vl at h
 rw[List.getElem?_map] at h
 cases e:env[i]? with
 |none=>rw[e] at h;simp at h
 |some s=>
  rw[e] at h
  cases s with
  |bx=>rfl
  |_=>simp[Sl.val] at h
theorem SR.freeze (I:SR Γ B G H σ env β)(i:Nat)(hb:Γ.br i=false){d:D}(h:(vl env)[i]? =some (.da d)):∃G' v,SR Γ B G' H σ (fZ env i) β/\aq G G'/\σ[i]? =some (some v)/\Rp Γ.K G' v d:=by
 rcases Dt h with e |e |e
 ·obtain⟨v,h1,h2⟩:=I.slot i _ e
  exact⟨G,v,by unfold fZ;rw[e];exact I,aq.refl _,h1,h2⟩
 rotate_left
 ·obtain⟨z,_⟩:=I.slot i _ e
  rw[hb] at z;cases z
 ·obtain⟨a,h1,h2,h3,h4,h5⟩:=I.slot i _ e
  obtain⟨o,ho⟩:=h5.obj
  have sG:aq G (upd G a o):=aq.new h3
  have hi:i < env.length:=(List.getElem?_eq_some_iff.mp e).1
  have hr:Rp Γ.K (upd G a o) (.ref a) d:=h5.rp h3 sG fun o' q=>by rw[ho] at q;cases q;exact aA
  refine⟨upd G a o,.ref a,?_,sG,h1,hr⟩
  unfold fZ
  rw[e]
  refine⟨fun b u q=>?_,I.old.trans sG,fun b n1 n2=>?_,I.keep,I.pin,I.fix,fun b q=>?_,by rw[List.length_set];exact I.len,fun j s q=>?_,fun j k c d1 d2 q1 q2 q3 q4=>?_⟩
  ·by_cases z:b=a
   ·subst z;rw[aA] at q;cases q;exact ho
   ·rw[aB z] at q;exact I.sub b u q
  ·rw[aB (fun z=>n1.1 (by rw[z];exact h2))];exact I.new b n1 n2
  ·obtain⟨k1,k2,k3⟩:=I.box b q
   exact⟨k1,by rw[aB (fun z=>h4 (by rw[<-z];exact q))];exact k2,k3⟩
  ·by_cases z:j=i
   ·subst z
    rw[List.getElem?_set_self hi] at q
    cases q
    exact⟨.ref a,h1,hr⟩
   ·rw[List.getElem?_set_ne (Ne.symm z)] at q
    have w:=I.slot j s q
    cases s with
    |no=>trivial
    |fz d'=>obtain⟨v,w1,w2⟩:=w;exact⟨v,w1,w2.mono sG⟩
    |ow d'=>
     obtain⟨c,w1,w2,w3,w4,w5⟩:=w
     have ca:c≠a:=fun z2=>z (I.sep j i c d' d q e w1 (by rw[z2];exact h1))
     exact⟨c,w1,w2,by rw[aB ca];exact w3,w4,w5.mono sG fun o q=>q⟩
    |bx=>exact w
    |br d'=>obtain⟨b1,c,w1,w4,wp,w5⟩:=w;exact⟨b1,c,w1,w4,wp,w5.mono sG fun o q=>q⟩
  ·have ne:∀{j:Nat} {d':D},(env.set i (Sl.fz d))[j]? =some (.ow d')->env[j]? =some (.ow d'):=fun {j d'} q=>by
    by_cases z:j=i
    ·subst z;rw[List.getElem?_set_self hi] at q;cases q
    ·rw[List.getElem?_set_ne (Ne.symm z)] at q;exact q
   exact I.sep j k c d1 d2 (ne q1) (ne q2) q3 q4
theorem SR.a9 (I:SR Γ B G H σ env β)(L:List Nat)(hb:∀i,i∈L->Γ.br i=false):∃G',SR Γ B G' H σ (a9 L env) β/\aq G G':=by
 induction L generalizing env G with
 |nil=>exact⟨G,I,aq.refl _⟩
 |cons i L ih=>
  show ∃G',SR Γ B G' H σ (L2.a9 L (fZ env i)) β/\aq G G'
  have key:∃G1,SR Γ B G1 H σ (fZ env i) β/\aq G G1:=by
   cases e:env[i]? with
   |none=>exact⟨G,by unfold fZ;rw[e];exact I,aq.refl _⟩
   |some s=>
    cases s with
    |ow d=>
     obtain⟨G1,v,h1,h2,_⟩:=I.freeze i (hb i (List.mem_cons_self ..)) (d:=d) (by unfold vl;rw[List.getElem?_map,e];rfl)
     exact⟨G1,h1,h2⟩
    |_=>exact⟨G,by unfold fZ;rw[e];exact I,aq.refl _⟩
  obtain⟨G1,I1,s1⟩:=key
  obtain⟨G2,I2,s2⟩:=ih I1 fun j hj=>hb j (List.mem_cons_of_mem _ hj)
  exact⟨G2,I2,s1.trans s2⟩
theorem SR.set (I:SR Γ B G H σ env β){i:Nat}(hi:i < env.length){v:V}{d:D}(h:Rp Γ.K G v d):SR Γ B G H (σ.set i (some v)) (env.set i (.fz d)) β:=by
 have hs:i < σ.length:=by rw[I.len];exact hi
 refine⟨I.sub,I.old,I.new,I.keep,I.pin,I.fix,I.box,by rw[List.length_set,List.length_set];exact I.len,fun j s q=>?_,fun j k c d1 d2 q1 q2 q3 q4=>?_⟩
 ·by_cases z:j=i
  ·subst z
   rw[List.getElem?_set_self hi] at q
   cases q
   exact⟨v,by rw[List.getElem?_set_self hs],h⟩
  ·rw[List.getElem?_set_ne (Ne.symm z)] at q ⊢
   exact I.slot j s q
 ·have ne:∀{j:Nat} {d':D},(env.set i (Sl.fz d))[j]? =some (.ow d')->j≠i/\env[j]? =some (.ow d'):=fun {j d'} q=>by
   by_cases z:j=i
   ·subst z;rw[List.getElem?_set_self hi] at q;cases q
   ·rw[List.getElem?_set_ne (Ne.symm z)] at q;exact⟨z,q⟩
  obtain⟨n1,e1⟩:=ne q1
  obtain⟨n2,e2⟩:=ne q2
  rw[List.getElem?_set_ne (Ne.symm n1)] at q3
  rw[List.getElem?_set_ne (Ne.symm n2)] at q4
  exact I.sep j k c d1 d2 e1 e2 q3 q4
theorem SR.setOw (I:SR Γ B G H σ env β){i:Nat}(hi:i < env.length){a:Addr}{d:D}(h0:Γ.H0 a=none)(hg:G a=none)(hb:B≠some a)(h:Own Γ.K G H a d)(hn:∀(j:Nat) (d':D),env[j]? =some (.ow d')->j≠i->σ[j]?≠some (some (.ref a))):SR Γ B G H (σ.set i (some (.ref a))) (env.set i (.ow d)) β:=by
 have hs:i < σ.length:=by rw[I.len];exact hi
 refine⟨I.sub,I.old,I.new,I.keep,I.pin,I.fix,I.box,by rw[List.length_set,List.length_set];exact I.len,fun j s q=>?_,fun j k c d1 d2 q1 q2 q3 q4=>?_⟩
 ·by_cases z:j=i
  ·subst z
   rw[List.getElem?_set_self hi] at q
   cases q
   exact⟨a,by rw[List.getElem?_set_self hs],h0,hg,hb,h⟩
  ·rw[List.getElem?_set_ne (Ne.symm z)] at q ⊢
   exact I.slot j s q
 ·by_cases z1:j=i
  ·by_cases z2:k=i
   ·rw[z1,z2]
   ·subst z1
    rw[List.getElem?_set_ne (Ne.symm z2)] at q2 q4
    rw[List.getElem?_set_self hs] at q3
    cases q3
    exact absurd q4 (hn k d2 q2 z2)
  ·by_cases z2:k=i
   ·subst z2
    rw[List.getElem?_set_ne (Ne.symm z1)] at q1 q3
    rw[List.getElem?_set_self hs] at q4
    cases q4
    exact absurd q3 (hn j d1 q1 z1)
   ·rw[List.getElem?_set_ne (Ne.symm z1)] at q1 q3
    rw[List.getElem?_set_ne (Ne.symm z2)] at q2 q4
    exact I.sep j k c d1 d2 q1 q2 q3 q4
theorem SR.fresh (I:SR Γ B G H σ env β){a:Addr}(h:H a=none):Γ.H0 a=none/\G a=none/\B≠some a/\∀(j:Nat) (d:D),env[j]? =some (.ow d)->σ[j]?≠some (some (.ref a)):=by
 have hB:B≠some a:=fun z=>by rw[(I.box a z).1] at h;cases h
 refine⟨?_,I.sub.free h,hB,fun j d e z=>?_⟩
 ·cases e:Γ.H0 a with
  |none=>rfl
  |some o=>exact absurd h (I.there (by rw[e];simp))
 ·obtain⟨c,h1,_,_,_,h5⟩:=I.slot j _ e
  rw[z] at h1
  cases h1
  obtain⟨o,ho⟩:=h5.obj
  rw[h] at ho;cases ho
theorem SR.write (I:SR Γ B G H σ env β)(hb:∀j,Γ.br j=false){i:Nat}{a:Addr}{d d':D}{o:HO}(e:env[i]? =some (.ow d))(ea:σ[i]? =some (some (.ref a)))(h:∀H',H' a=some o->aq G H'->Own Γ.K G H' a d'):SR Γ B G (upd H a o) σ (env.set i (.ow d')) β:=by
 obtain⟨a',h1,h2,h3,h4,h5⟩:=I.slot i _ e
 rw[ea] at h1;cases h1
 have hi:i < env.length:=(List.getElem?_eq_some_iff.mp e).1
 have sub:aq G (upd H a o):=fun b u q=>by rw[aB (fun z=>by rw[z,h3] at q;cases q)];exact I.sub b u q
 refine⟨sub,I.old,I.new,fun b u q n=>?_,fun b q=>?_,I.fix,fun b q=>?_,by rw[List.length_set];exact I.len,fun j s q=>?_,fun j k c d1 d2 q1 q2 q3 q4=>?_⟩
 ·rw[aB (fun z=>by rw[z,h2] at q;cases q)];exact I.keep b u q n
 ·by_cases z:b=a
  ·subst z;exact (h _ aA sub).mx
  ·exact (I.pin b q).same fun o e=>by rw[aB z];exact e
 ·obtain⟨k1,k2,k3⟩:=I.box b q
  exact⟨by rw[aB (fun z=>h4 (by rw[<-z];exact q))];exact k1,k2,k3⟩
 ·by_cases z:j=i
  ·subst z
   rw[List.getElem?_set_self hi] at q
   cases q
   exact⟨a,ea,h2,h3,h4,h _ aA sub⟩
  ·rw[List.getElem?_set_ne (Ne.symm z)] at q
   have w:=I.slot j s q
   cases s with
   |no=>trivial
   |fz d1=>exact w
   |ow d1=>
    obtain⟨c,w1,w2,w3,w4,w5⟩:=w
    have ca:c≠a:=fun z2=>z (I.sep j i c d1 d q e w1 (by rw[z2];exact ea))
    exact⟨c,w1,w2,w3,w4,w5.mono (aq.refl _) fun o q=>by rw[aB ca];exact q⟩
   |bx=>exact w
   |br d1=>obtain⟨b1,_⟩:=w;rw[hb j] at b1;cases b1
 ·have back:∀{j:Nat} {d1:D},(env.set i (Sl.ow d'))[j]? =some (.ow d1)->∃d2,env[j]? =some (.ow d2):=fun {j d1} q=>by
   by_cases z:j=i
   ·subst z;exact⟨d,e⟩
   ·rw[List.getElem?_set_ne (Ne.symm z)] at q;exact⟨d1,q⟩
  obtain⟨_,b1⟩:=back q1
  obtain⟨_,b2⟩:=back q2
  exact I.sep j k c _ _ b1 b2 q3 q4
end
end L2

end

section
namespace L2
open PySem PySem.Spec PyProof.Rows
inductive R (α:Type) where
 |ok (a:α) (β:Int)
 |exc (c:Str)
 |bad
def R.bnd {α γ:Type}(r:R α)(k:α->Int->R γ):R γ:=match r with
 | .ok a β=>k a β
 | .exc c=>.exc c
 | .bad=>.bad
def R.of {α:Type}(o:Option α)(β:Int):R α:=match o with
 |some a=>.ok a β
 |none=>.bad
abbrev VF (α:Type):=List Nv->Int->R α
def Kp (Γ:Fx)(H':Hp):Prop:=∀b o,Γ.H0 b=some o->b∉Γ.par->H' b=some o
def Out {α:Type}(Γ:Fx)(E:XK)(r:R α)(P:α->Int->Prop):Prop:=match r with
 | .ok a β=>P a β
 | .exc c=>∀H',Kp Γ H'->E (.ref (Γ.ca c)) none H'
 | .bad=>False
section
variable {α γ:Type}{Γ:Fx}{E:XK}
theorem Out.bnd {r:R α}{k:α->Int->R γ}{P:γ->Int->Prop}(h:Out Γ E (r.bnd k) P):Out Γ E r fun a β=>Out Γ E (k a β) P:=by
 cases r with
 |ok a β=>exact h
 |exc c=>exact h
 |bad=>exact h
theorem Out.imp {r:R α}{P P':α->Int->Prop}(h:Out Γ E r P)(i:∀a β,P a β->P' a β):Out Γ E r P':=by
 cases r with
 |ok a β=>exact i a β h
 |exc c=>exact h
 |bad=>exact h
theorem Out.of {o:Option α}{β:Int}{P:α->Int->Prop}(h:Out Γ E (R.of o β) P):∃a,o=some a/\P a β:=by
 cases o with
 |none=>exact h.elim
 |some a=>exact⟨a,rfl,h⟩
end
inductive Md where
 |b |v |w
def VO (K:PySem.W.Frag)(B:Option Addr)(H G' H':Hp):Md->D->V->Prop
 | .b,d,v=>lb K B G' H' v d
 | .v,d,v=>Rp K G' v d
 | .w,d,v=>∃a,v=.ref a/\H a=none/\G' a=none/\Own K G' H' a d
def pT (Γ:Fx)(E:XK)(f:VF D)(L:List Nat)(md:Md):TE:=fun σ H Q=>∃env G B β,SR Γ B G H σ env β/\
 Out Γ E (f (vl env) β) fun d β'=>∀v G' H',SR Γ B G' H' σ (a9 L env) β'->aq G G'->iD B H H'->VO Γ.K B H G' H' md d v->Q v H'
def SE (X:Cx)(Γ:Fx)(E:XK)(e:Expr)(f:VF D)(L:List Nat)(md:Md):Prop:=PE X e (pT Γ E f L md)
def qT (Γ:Fx)(E:XK)(f:VF Bool)(L:List Nat):TT:=fun σ H Q=>∃env G B β,SR Γ B G H σ env β/\
 Out Γ E (f (vl env) β) fun c β'=>∀G' H',SR Γ B G' H' σ (a9 L env) β'->aq G G'->iD B H H'->Q c H'
def yt (X:Cx)(Γ:Fx)(E:XK)(e:Expr)(f:VF Bool)(L:List Nat):Prop:=PT X e (qT Γ E f L)
def qS (X:Cx)(Γ:Fx)(E:XK)(e:Expr)(f:VF Bool)(L:List Nat):Prop:=PW X e (qT Γ E f L)
def aT (Γ:Fx)(E:XK)(f:VF (List D))(L:List Nat):TA:=fun σ H Q=>∃env G B β,SR Γ B G H σ env β/\
 Out Γ E (f (vl env) β) fun ds β'=>∀vs G' H',SR Γ B G' H' σ (a9 L env) β'->aq G G'->iD B H H'->cx Γ.K G' vs ds->Q vs H'
def SA (X:Cx)(Γ:Fx)(E:XK)(es:List Expr)(f:VF (List D))(L:List Nat):Prop:=PA X es (aT Γ E f L)
theorem PE.post' {X:Cx}{e:Expr}{t u:TE}(h:PE X e t)(m:∀σ H Q,u σ H Q->t σ H Q):PE X e u:=fun pins s σ H Q I q=>h pins s σ H Q I (m σ H Q q)
theorem PT.post {X:Cx}{e:Expr}{t u:TT}(h:PT X e t)(m:∀σ H Q,u σ H Q->t σ H Q):PT X e u:=fun pins s σ H Q I q=>h pins s σ H Q I (m σ H Q q)
theorem PW.post {X:Cx}{e:Expr}{t u:TT}(h:PW X e t)(m:∀σ H Q,u σ H Q->t σ H Q):PW X e u:=fun wh pins s σ H Q I q=>h wh pins s σ H Q I (m σ H Q q)
theorem PA.post {X:Cx}{es:List Expr}{t u:TA}(h:PA X es t)(m:∀σ H Q,u σ H Q->t σ H Q):PA X es u:=fun pos pins s σ H Q I q=>h pos pins s σ H Q I (m σ H Q q)
theorem PS.post {X:Cx}{st:Stmt}{t u:TS}(h:PS X st t)(m:∀D σ H,u D σ H->t D σ H):PS X st u:=fun pins s σ H D I q=>h pins s σ H D I (m D σ H q)
def dat:Option Nv->Option D
 |some (.da d)=>some d
 |_=>none
def gv (i:Nat):VF D:=fun vs β=>R.of (dat vs[i]?) β
def cst (d:D):VF D:=fun _ β=>.ok d β
section
variable {X:Cx}{Γ:Fx}{E:XK}{e a b c:Expr}{f fa fb fc:VF D}{L La Lb Lc:List Nat}{md ma mb mc:Md}{pos:Pos}
theorem join_some {o:Option Nv}{d:D}(h:dat o=some d):o=some (.da d):=by
 cases o with
 |none=>cases h
 |some o=>cases o with
  |da x=>cases h;rfl
  |_=>cases h
theorem SR.letIn {B:Option Addr}{G H:Hp}{σ:St}{env:En}{β:Int}(I:SR Γ B G H σ env β){p:Addr}{d:D}(h0:Γ.H0 p=none)(hg:G p=none)(hb:B≠some p)(hn:∀(j:Nat) (d':D),env[j]? =some (.ow d')->σ[j]?≠some (some (.ref p)))(h:Own Γ.K G H p d) :
  ∃G',SR Γ B G' H σ env β/\aq G G'/\Rp Γ.K G' (.ref p) d:=by
 obtain⟨o,ho⟩:=h.obj
 have sG:aq G (upd G p o):=aq.new hg
 refine⟨upd G p o,⟨fun b u q=>?_,I.old.trans sG,fun b n1 n2=>?_,I.keep,I.pin,I.fix,fun b q=>?_,I.len,fun j s q=>?_,I.sep⟩,sG,h.rp hg sG fun o' q=>by rw[ho] at q;cases q;exact aA⟩
 ·by_cases z:b=p
  ·subst z;rw[aA] at q;cases q;exact ho
  ·rw[aB z] at q;exact I.sub b u q
 ·rw[aB (fun z=>n1.1 (by rw[z];exact h0))];exact I.new b n1 n2
 ·obtain⟨k1,k2,k3⟩:=I.box b q
  exact⟨k1,by rw[aB (fun z=>hb (by rw[<-z];exact q))];exact k2,k3⟩
 ·have w:=I.slot j s q
  cases s with
  |no=>trivial
  |fz d'=>obtain⟨v,w1,w2⟩:=w;exact⟨v,w1,w2.mono sG⟩
  |ow d'=>
   obtain⟨c,w1,w2,w3,w4,w5⟩:=w
   have ca:c≠p:=fun z2=>hn j d' q (by rw[<-z2];exact w1)
   exact⟨c,w1,w2,by rw[aB ca];exact w3,w4,w5.mono sG fun o q=>q⟩
  |bx=>exact w
  |br d'=>obtain⟨b1,c,w1,w4,wp,w5⟩:=w;exact⟨b1,c,w1,w4,wp,w5.mono sG fun o q=>q⟩
theorem rG {env:En}{i j:Nat}{d:D}(h:(fZ env i)[j]? =some (.ow d)):env[j]? =some (.ow d):=by
 unfold fZ at h
 split at h
 ·rename_i d' e
  by_cases z:i=j
  ·subst z
   rw[List.getElem?_set_self (List.getElem?_eq_some_iff.mp e).1] at h;cases h
  ·rw[List.getElem?_set_ne z] at h;exact h
 ·exact h
theorem oq {L:List Nat}{env:En}{j:Nat}{d:D}(h:(a9 L env)[j]? =some (.ow d)):env[j]? =some (.ow d):=by
 unfold a9 at h
 induction L generalizing env with
 |nil=>exact h
 |cons i L ih=>exact rG (ih h)
theorem SR.letW {B:Option Addr}{G H G' H':Hp}{σ:St}{env:En}{β β':Int}{L:List Nat}{d:D}{v:V}(I:SR Γ B G H σ env β)(I':SR Γ B G' H' σ (L2.a9 L env) β')(h:VO Γ.K B H G' H' .w d v):∃G2,SR Γ B G2 H' σ (L2.a9 L env) β'/\aq G' G2/\Rp Γ.K G2 v d:=by
 obtain⟨p,rfl,h1,h2,h3⟩:=h
 obtain⟨q1,q2,q3,q4⟩:=I.fresh h1
 exact I'.letIn q1 h2 q3 (fun j d' e=>q4 j d' (oq e)) h3
theorem SE.wv (h:SE X Γ E e f L .w):SE X Γ E e f L .v:=by
 refine PE.post' h fun σ H Q ⟨env,G,B,β,I,o⟩=>⟨env,G,B,β,I,o.imp fun d β' k v G' H' I' s m vo=>?_⟩
 obtain⟨G2,I2,s2,r⟩:=I.letW I' vo
 exact k v G2 H' I2 (s.trans s2) m r
theorem VO.brw {B:Option Addr}{H G' H':Hp}{d:D}{v:V}{K:PySem.W.Frag}(h:VO K B H G' H' md d v)(hB:∀x,B=some x->H x≠none):lb K B G' H' v d:=by
 cases md with
 |b=>exact h
 |v=>exact .inl h
 |w=>
  obtain⟨p,rfl,h1,h2,h3⟩:=h
  exact .inr ⟨p,rfl,fun z=>hB p z h1,h3⟩
theorem SR.boxThere {B:Option Addr}{G H:Hp}{σ:St}{env:En}{β:Int}(I:SR Γ B G H σ env β):∀x,B=some x->H x≠none:=fun x e=>by rw[(I.box x e).1];simp
theorem af (i:Nat){x:Str}(hN:X.N[i]? =some x:=by rfl)(hv:yL X.env.scope x:=by first |exact Or.inl rfl |exact Or.inr (Or.inl rfl) |exact Or.inr (Or.inr rfl))(hd:(x == ("__debug__":Str))=false:=by decide)
  (hcd:(x == ("__classdict__":Str))=false:=by decide):SE X Γ E (.Name x pos) (gv i) [] .b:=by
 refine PE.post' (jP hN hv hd hcd) fun σ H Q ⟨env,G,B,β,I,o⟩=>?_
 obtain⟨d,e,k⟩:=o.of
 have e:=join_some e
 rcases Dt e with q |q |q
 ·obtain⟨v,h1,h2⟩:=I.slot i _ q
  exact⟨v,h1,k v G H I (aq.refl _) (iD.refl _ _) (.inl h2)⟩
 ·obtain⟨p,h1,h2,h3,h4,h5⟩:=I.slot i _ q
  exact⟨.ref p,h1,k _ G H I (aq.refl _) (iD.refl _ _) (.inr ⟨p,rfl,h4,h5⟩)⟩
 ·obtain⟨_,p,h1,h4,_,h5⟩:=I.slot i _ q
  exact⟨.ref p,h1,k _ G H I (aq.refl _) (iD.refl _ _) (.inr ⟨p,rfl,h4,h5⟩)⟩
theorem ak (i:Nat)(hb:Γ.br i=false){x:Str}(hN:X.N[i]? =some x:=by rfl)(hv:yL X.env.scope x:=by first |exact Or.inl rfl |exact Or.inr (Or.inl rfl) |exact Or.inr (Or.inr rfl))(hd:(x == ("__debug__":Str))=false:=by decide)
  (hcd:(x == ("__classdict__":Str))=false:=by decide):SE X Γ E (.Name x pos) (gv i) [i] .v:=by
 refine PE.post' (jP hN hv hd hcd) fun σ H Q ⟨env,G,B,β,I,o⟩=>?_
 obtain⟨d,e,k⟩:=o.of
 obtain⟨G',v,I',s,h1,h2⟩:=I.freeze i hb (join_some e)
 exact⟨v,h1,k v G' H I' s (iD.refl _ _) h2⟩
theorem Cp {v:V}{d:D}(h:PE X e (tC v))(r:∀G,Rp Γ.K G v d):SE X Γ E e (cst d) [] .v:=by
 refine PE.post' h fun σ H Q ⟨env,G,B,β,I,o⟩=>?_
 exact o v G H I (aq.refl _) (iD.refl _ _) (r G)
theorem aw {i:Int}{j}:SE X Γ E (.Constant (.int i) j pos) (cst (.int i)) [] .v:=Cp vv fun _=>.int i
theorem iU {i:Bool}{j}:SE X Γ E (.Constant (.bool i) j pos) (cst (.bool i)) [] .v:=Cp wV fun _=>.bl i
theorem pE {x:Str}{j}:SE X Γ E (.Constant (.str x) j pos) (cst (.str x)) [] .v:=Cp E6 fun _=>.str x
theorem wu {x:Str}{i:Int}{t:Tok}(hg:Gl X x)(hm:X.mg x=some (.int i t))(hd:(x == ("__debug__":Str))=false:=by decide):SE X Γ E (.Name x pos) (cst (.int i)) [] .v:=Cp (B5 hg hm (show RelV (.int i) _ from⟨_,rfl⟩) hd) fun _=>.int i
theorem two {W:V->V->Hp->Prop}{B:Option Addr}{G H:Hp}{σ:St}{env:En}{β:Int}(I:SR Γ B G H σ env β)
  (h:Out Γ E (fa (vl env) β) fun d1 β1=>Out Γ E (fb (vl env) β1) fun d2 β2=>∀x y G2 H2,SR Γ B G2 H2 σ (a9 (La ++ Lb) env) β2->aq G G2->iD B H H2->lb Γ.K B G2 H2 x d1->lb Γ.K B G2 H2 y d2->W x y H2) :
  pT Γ E fa La ma σ H fun x H1=>pT Γ E fb Lb mb σ H1 fun y H2=>W x y H2:=by
 refine⟨env,G,B,β,I,h.imp fun d1 β1 h x G1 H1 I1 s1 m1 vx=>⟨a9 La env,G1,B,β1,I1,?_⟩⟩
 rw[eO]
 refine h.imp fun d2 β2 k y G2 H2 I2 s2 m2 vy=>?_
 refine k x y G2 H2 (by rw[cz];exact I2) (s1.trans s2) (m1.trans m2) ((vx.brw I.boxThere).mono s2 m2) (vy.brw I1.boxThere)
def nz (K:PySem.W.Frag)(r:R2)(g:D->D->Option D)(md:Md):Prop:=∀(B:Option Addr) (G H:Hp) (x y:V) (dx dy d:D) (Q:VK),aq G H->(∀x,B=some x->H x≠none)->lb K B G H x dx->lb K B G H y dy->g dx dy=some d->
 (∀v G' H',Ext G H G' H'->VO K B H G' H' md d v->Q v H')->r x y H Q
def f2 (fa fb:VF D)(g:D->D->Option D):VF D:=fun vs β=>(fa vs β).bnd fun x β1=>(fb vs β1).bnd fun y β2=>R.of (g x y) β2
theorem gW {B:Option Addr}{H H2:Hp}(m:iD B H H2)(hB:∀x,B=some x->H2 x≠none){p:Addr}(h:H2 p=none):H p=none:=by
 cases e:H p with
 |none=>rfl
 |some o=>rw[m p o e fun z=>hB p z h] at h;cases h
theorem VO.back {K:PySem.W.Frag}{B:Option Addr}{H H2 G' H':Hp}{d:D}{v:V}(h:VO K B H2 G' H' md d v)(m:iD B H H2)(hB:∀x,B=some x->H2 x≠none):VO K B H G' H' md d v:=by
 cases md with
 |b=>exact h
 |v=>exact h
 |w=>obtain⟨p,e,h1,h2,h3⟩:=h;exact⟨p,e,gW m hB h1,h2,h3⟩
theorem l9 {r:R2}{g:D->D->Option D}{Q:VK}(pr:nz Γ.K r g md){B:Option Addr}{G H:Hp}{σ:St}{env:En}{β:Int}(I:SR Γ B G H σ env β)
  (h:Out Γ E (f2 fa fb g (vl env) β) fun d β'=>∀v G' H',SR Γ B G' H' σ (a9 (La ++ Lb) env) β'->aq G G'->iD B H H'->VO Γ.K B H G' H' md d v->Q v H') :
  pT Γ E fa La ma σ H fun x H1=>pT Γ E fb Lb mb σ H1 fun y H2=>r x y H2 Q:=by
 refine two I (h.bnd.imp fun d1 β1 h=>h.bnd.imp fun d2 β2 h x y G2 H2 I2 s2 m2 bx by'=>?_)
 obtain⟨d,e,k⟩:=h.of
 refine pr B G2 H2 x y d1 d2 d Q I2.sub I2.boxThere bx by' e fun v G' H' x' vo=>?_
 exact k v G' H' (I2.ext x') (s2.trans x'.gg) (m2.trans (x'.hh.mov B)) (vo.back m2 I2.boxThere)
theorem bb {op:Operator}{r:R2}{g:D->D->Option D}(ho:mh X (binaryOp op) r)(pr:nz Γ.K r g md)(ha:SE X Γ E a fa La ma)(hb:SE X Γ E b fb Lb mb):SE X Γ E (.BinOp a op b pos) (f2 fa fb g) (La ++ Lb) md:=
 PE.post' (qu ho ha hb) fun σ H Q ⟨env,G,B,β,I,o⟩=>l9 pr I o
theorem jD {op:CmpOp}{r:R2}{g:D->D->Option D}(ho:mh X (compareOp op) r)(pr:nz Γ.K r g md)(ha:SE X Γ E a fa La ma)(hb:SE X Γ E b fb Lb mb)(hm:behindInMarks op b=false):SE X Γ E (.Compare a [op] [b] pos) (f2 fa fb g) (La ++ Lb) md:=
 PE.post' (BJ ho ha hb hm) fun σ H Q ⟨env,G,B,β,I,o⟩=>l9 pr I o
theorem aP {r:R2}{g:D->D->Option D}(hr:Ae X r)(pr:nz Γ.K r g md)(ha:SE X Γ E a fa La ma)(hb:SE X Γ E b fb Lb mb)(hs:wN b):SE X Γ E (.Subscript a b pos) (f2 fa fb g) (La ++ Lb) md:=
 PE.post' (k9 hr ha hb hs) fun σ H Q ⟨env,G,B,β,I,o⟩=>l9 pr I o
def A9 (K:PySem.W.Frag)(r:V->Hp->VK->Prop)(g:D->Option D)(md:Md):Prop:=∀(B:Option Addr) (G H:Hp) (x:V) (dx d:D) (Q:VK),aq G H->(∀x,B=some x->H x≠none)->lb K B G H x dx->g dx=some d->
 (∀v G' H',Ext G H G' H'->VO K B H G' H' md d v->Q v H')->r x H Q
def f1 (fa:VF D)(g:D->Option D):VF D:=fun vs β=>(fa vs β).bnd fun x β1=>R.of (g x) β1
theorem kG {r:V->Hp->VK->Prop}{g:D->Option D}{Q:VK}(pr:A9 Γ.K r g md){B:Option Addr}{G H:Hp}{σ:St}{env:En}{β:Int}(I:SR Γ B G H σ env β)
  (h:Out Γ E (f1 fa g (vl env) β) fun d β'=>∀v G' H',SR Γ B G' H' σ (a9 La env) β'->aq G G'->iD B H H'->VO Γ.K B H G' H' md d v->Q v H') :
  pT Γ E fa La ma σ H fun x H1=>r x H1 Q:=by
 refine⟨env,G,B,β,I,h.bnd.imp fun d1 β1 h x G1 H1 I1 s1 m1 vx=>?_⟩
 obtain⟨d,e,k⟩:=h.of
 refine pr B G1 H1 x d1 d Q I1.sub I1.boxThere (vx.brw I.boxThere) e fun v G' H' x' vo=>?_
 exact k v G' H' (I1.ext x') (s1.trans x'.gg) (m1.trans (x'.hh.mov B)) (vo.back m1 I1.boxThere)
theorem aF {id:String}{r:List V->Hp->VK->Prop}{g:D->Option D}{x:Str}{p:Pos}(hc:c7 X (.builtin id) r)(pr:A9 Γ.K (fun x=>r [x]) g md)(hg:Gl X x)(hm:X.mg x=none)(hv:bootBuiltins x=some (.builtin id))(ha:SE X Γ E a fa La ma)(hn:x≠"__name__":=by decide)(hdb:(x == ("__debug__":Str))=false:=by decide)
  (he:starEach [a] X.env=(false,eval a X.env) :: starEach [] X.env:=by rfl):SE X Γ E (.Call (.Name x p) [a] [] pos) (f1 fa g) La md:=
 PE.post' (jo hc hg hm hv (aZ ha bZ he) hn hdb he) fun σ H Q ⟨env,G,B,β,I,o⟩=>kG (r:=fun x=>r [x]) pr I o
theorem cn {id:String}{r:List V->Hp->VK->Prop}{g:D->Option D}{x:Str}{p:Pos}(hc:c7 X (.type id) r)(pr:A9 Γ.K (fun x=>r [x]) g md)(hg:Gl X x)(hm:X.mg x=none)(hv:bootBuiltins x=some (.type id))(ha:SE X Γ E a fa La ma)(hn:x≠"__name__":=by decide)(hdb:(x == ("__debug__":Str))=false:=by decide)
  (he:starEach [a] X.env=(false,eval a X.env) :: starEach [] X.env:=by rfl):SE X Γ E (.Call (.Name x p) [a] [] pos) (f1 fa g) La md:=
 PE.post' (jk hc hg hm hv (aZ ha bZ he) hn hdb he) fun σ H Q ⟨env,G,B,β,I,o⟩=>kG (r:=fun x=>r [x]) pr I o
theorem hV {id:String}{r:List V->Hp->VK->Prop}{g:D->D->Option D}{x:Str}{p:Pos}(hc:c7 X (.builtin id) r)(pr:nz Γ.K (fun x y=>r [x,y]) g md)(hg:Gl X x)(hm:X.mg x=none)(hv:bootBuiltins x=some (.builtin id))(ha:SE X Γ E a fa La ma)(hb:SE X Γ E b fb Lb mb)(hn:x≠"__name__":=by decide)(hdb:(x == ("__debug__":Str))=false:=by decide)
  (he:starEach [a,b] X.env=(false,eval a X.env) :: starEach [b] X.env:=by rfl) (he2:starEach [b] X.env=(false,eval b X.env) :: starEach [] X.env:=by rfl) (hpl:(backTo pos (starEach [b] X.env)).any (·.1)=false:=by rfl):SE X Γ E (.Call (.Name x p) [a,b] [] pos) (f2 fa fb g) (La ++ Lb) md:=
 PE.post' (jo hc hg hm hv (aZ ha (aZ hb bZ he2) he) hn hdb he hpl) fun σ H Q ⟨env,G,B,β,I,o⟩=>l9 (r:=fun x y=>r [x,y]) pr I o
def hX (fa fb:VF D):VF D:=fun vs β=>(fa vs β).bnd fun x β1=>match x with
 | .bool true=>fb vs β1
 | .bool false=>.ok (.bool false) β1
 |_=>.bad
theorem kf {op}(h:SE X Γ E a fa La md):SE X Γ E (.BoolOp op [a] pos) fa La md:=DW h
theorem kn {rest:List Expr}(ha:SE X Γ E a fa La ma)(hb:SE X Γ E (.BoolOp .And (b :: rest) pos) fb Lb .v)(hbr:∀i,i∈Lb->Γ.br i=false):SE X Γ E (.BoolOp .And (a :: b :: rest) pos) (hX fa fb) (La ++ Lb) .v:=by
 refine PE.post' (Ey ha hb) fun σ H Q ⟨env,G,B,β,I,o⟩=>?_
 refine⟨env,G,B,β,I,o.bnd.imp fun d1 β1 h x G1 H1 I1 s1 m1 vx=>?_⟩
 have bx:=vx.brw I.boxThere
 cases d1 with
 |bool c=>
  obtain rfl:=bx.bool
  refine⟨c,rfl,?_⟩
  cases c with
  |true=>exact rQ ⟨_,G1,B,β1,I1,by rw[eO];exact h.imp fun d β' k v G' H' I' s' m' vo=>k v G' H' (by rw[cz];exact I') (s1.trans s') (m1.trans m') vo⟩
  |false=>
   obtain⟨G2,I2,s2⟩:=I1.a9 Lb hbr
   exact rJ (h _ G2 H1 (by rw[cz];exact I2) (s1.trans s2) m1 (.bl false))
 |_=>exact h.elim
def xZ:D->Option D
 | .bool c=>some (.bool (!c))
 |_=>none
theorem vG (ha:SE X Γ E a fa La ma):SE X Γ E (.UnaryOp .Not a pos) (f1 fa xZ) La .v:=by
 refine PE.post' (E7 ha) fun σ H Q ⟨env,G,B,β,I,o⟩=>?_
 refine kG (r:=fun x H1 Q=>∃c,x=.bl c/\Q (.bl (!c)) H1) ?_ I o
 intro B G H x dx d Q s hB bx e k
 cases dx with
 |bool c=>
  obtain rfl:=bx.bool
  cases e
  exact⟨c,rfl,k _ G H (Ext.refl s) (.bl _)⟩
 |_=>cases e
def El:D->Option Bool
 | .none=>some false
 | .bool b=>some b
 | .int i=>some (i != 0)
 | .str y=>if y.length<=sizeLine then some ((y.length:Int) != 0) else none
 | .list ds=>some (!ds.isEmpty)
 | .tuple ds=>some (!ds.isEmpty)
 | .dict _=>none
def kR (fa:VF D):VF Bool:=fun vs β=>(fa vs β).bnd fun x β1=>R.of (El x) β1
theorem mW {K:PySem.W.Frag}{G:Hp}{xs:List V}{ds:List D}(r:cx K G xs ds):(!ds.isEmpty)= !xs.isEmpty:=by cases r <;> rfl
theorem cC (hK:X.K=Γ.K)(ha:SE X Γ E a fa La ma)(he:∀whole,isTrue a X.env whole=(do let v <-whole;standAt a.pos;holding [v] (truthy v)):=by intro _;rfl):yt X Γ E a (kR fa) La:=by
 refine PT.post (z0 ha he) fun σ H Q ⟨env,G,B,β,I,o⟩=>?_
 refine⟨env,G,B,β,I,o.bnd.imp fun d1 β1 h x G1 H1 I1 s1 m1 vx=>?_⟩
 obtain⟨c,e,k⟩:=h.of
 have bx:=vx.brw I.boxThere
 refine⟨c,?_,k G1 H1 I1 s1 m1⟩
 rw[hK]
 cases d1 with
 |none=>obtain rfl:=bx.none;cases e;rfl
 |bool b=>obtain rfl:=bx.bool;cases e;rfl
 |int i=>obtain rfl:=bx.int;cases e;rfl
 |str y=>
  obtain rfl:=bx.str
  simp only[El] at e
  split at e
  ·cases e;exact⟨by assumption,rfl⟩
  ·cases e
 |list ds=>obtain⟨p,xs,rfl,hq,r⟩:=bx.list I1.sub;cases e;exact .inl ⟨xs,.inl hq,mW r⟩
 |tuple ds=>obtain⟨p,xs,rfl,hq,r⟩:=bx.tuple I1.sub;cases e;exact .inr (.inl ⟨xs,hq,mW r⟩)
 |dict ds=>cases e
def jh (fa:VF D):VF Bool:=fun vs β=>(fa vs β).bnd fun x β1=>match x with
 | .bool c=>.ok c β1
 |_=>.bad
theorem cv {op:CmpOp}{r:R2}{g:D->D->Option D}(ho:mh X (compareOp op) r)(pr:nz Γ.K r g .v)(ha:SE X Γ E a fa La ma)(hb:SE X Γ E b fb Lb mb)(hm:behindInMarks op b=false):yt X Γ E (.Compare a [op] [b] pos) (jh (f2 fa fb g)) (La ++ Lb):=by
 refine PT.post (Cc ho ha hb hm) fun σ H Q ⟨env,G,B,β,I,o⟩=>?_
 refine l9 pr I (o.bnd.imp fun d β' h v G' H' I' s' m' vo=>?_)
 cases d with
 |bool c=>cases vo;exact⟨c,rfl,h G' H' I' s' m'⟩
 |_=>exact h.elim
def nC (t:VF Bool):VF Bool:=fun vs β=>(t vs β).bnd fun c β1=>.ok (!c) β1
def CJ (t u:VF Bool):VF Bool:=fun vs β=>(t vs β).bnd fun c β1=>if c=true then u vs β1 else .ok false β1
def kT (t u:VF Bool):VF Bool:=fun vs β=>(t vs β).bnd fun c β1=>if c=true then .ok true β1 else u vs β1
variable {ta tb tc:VF Bool}
theorem c4 (ha:yt X Γ E a ta La):yt X Γ E (.UnaryOp .Not a pos) (nC ta) La:=by
 refine PT.post (D6 ha) fun σ H Q ⟨env,G,B,β,I,o⟩=>?_
 exact⟨env,G,B,β,I,o.bnd.imp fun c β1 h=>h⟩
theorem qS.t (h:qS X Γ E e ta La):yt X Γ E e ta La:=PW.pt h
theorem wM (ha:yt X Γ E a ta La):qS X Γ E (.BoolOp .And [a] pos) ta La:=wg ha
theorem i7 (ha:yt X Γ E a ta La):qS X Γ E (.BoolOp .Or [a] pos) ta La:=E2 ha
theorem zS {rest:List Expr}(ha:yt X Γ E a ta La)(hb:qS X Γ E (.BoolOp .And (b :: rest) pos) tb Lb)(hbr:∀i,i∈Lb->Γ.br i=false):qS X Γ E (.BoolOp .And (a :: b :: rest) pos) (CJ ta tb) (La ++ Lb):=by
 refine PW.post (y2 ha hb) fun σ H Q ⟨env,G,B,β,I,o⟩=>?_
 refine⟨env,G,B,β,I,o.bnd.imp fun c β1 h G1 H1 I1 s1 m1=>?_⟩
 cases c with
 |true=>exact rQ ⟨_,G1,B,β1,I1,by rw[eO];exact Out.imp h fun d β' k G' H' I' s' m'=>k G' H' (by rw[cz];exact I') (s1.trans s') (m1.trans m')⟩
 |false=>
  obtain⟨G2,I2,s2⟩:=I1.a9 Lb hbr
  exact rJ (h G2 H1 (by rw[cz];exact I2) (s1.trans s2) m1)
theorem kh {rest:List Expr}(ha:yt X Γ E a ta La)(hb:qS X Γ E (.BoolOp .Or (b :: rest) pos) tb Lb)(hbr:∀i,i∈Lb->Γ.br i=false):qS X Γ E (.BoolOp .Or (a :: b :: rest) pos) (kT ta tb) (La ++ Lb):=by
 refine PW.post (FL ha hb) fun σ H Q ⟨env,G,B,β,I,o⟩=>?_
 refine⟨env,G,B,β,I,o.bnd.imp fun c β1 h G1 H1 I1 s1 m1=>?_⟩
 cases c with
 |true=>
  obtain⟨G2,I2,s2⟩:=I1.a9 Lb hbr
  exact rQ (h G2 H1 (by rw[cz];exact I2) (s1.trans s2) m1)
 |false=>exact rJ ⟨_,G1,B,β1,I1,by rw[eO];exact Out.imp h fun d β' k G' H' I' s' m'=>k G' H' (by rw[cz];exact I') (s1.trans s') (m1.trans m')⟩
def HK (t:VF Bool)(fa fb:VF D):VF D:=fun vs β=>(t vs β).bnd fun c β1=>if c=true then fa vs β1 else fb vs β1
theorem FE (hc:yt X Γ E c tc Lc)(ha:SE X Γ E a fa La md)(hb:SE X Γ E b fb Lb md)(hbr:∀i,i∈La ++ Lb->Γ.br i=false):SE X Γ E (.IfExp c a b pos) (HK tc fa fb) (Lc ++ (La ++ Lb)) md:=by
 refine PE.post' (y9 hc ha hb) fun σ H Q ⟨env,G,B,β,I,o⟩=>?_
 refine⟨env,G,B,β,I,o.bnd.imp fun c β1 h G1 H1 I1 s1 m1=>?_⟩
 obtain⟨G2,I2,s2⟩:=I1.a9 (La ++ Lb) hbr
 have idem:∀M:List Nat,(∀i,i∈M->i∈La ++ Lb)->a9 M (a9 (La ++ Lb) (a9 Lc env))=a9 (La ++ Lb) (a9 Lc env):=by
  have key:∀(M:List Nat) (en:En) (k:Nat),k∈M->∀d',(a9 M en)[k]?≠some (.ow d'):=by
   intro M
   induction M with
   |nil=>intro en k hm;cases hm
   |cons i M ih=>
    intro en k hm d' z
    rcases List.mem_cons.mp hm with y |y
    ·subst y
     have z1:(fZ en k)[k]? =some (.ow d'):=oq (L:=M) z
     have z2:=rG z1
     unfold fZ at z1
     rw[z2] at z1
     dsimp only at z1
     rw[List.getElem?_set_self (List.getElem?_eq_some_iff.mp z2).1] at z1;cases z1
    ·exact ih (fZ en i) k y d' z
  intro M
  induction M with
  |nil=>intro _;rfl
  |cons i M ih=>
   intro hM
   show a9 M (fZ _ i)=_
   have:fZ (a9 (La ++ Lb) (a9 Lc env)) i=a9 (La ++ Lb) (a9 Lc env):=by
    have hn:=key (La ++ Lb) (a9 Lc env) i (hM i (List.mem_cons_self ..))
    generalize a9 (La ++ Lb) (a9 Lc env)=en at hn ⊢
    unfold fZ
    split
    ·rename_i d e;exact absurd e (hn d)
    ·rfl
   rw[this]
   exact ih fun j hj=>hM j (List.mem_cons_of_mem _ hj)
 have go:∀{f:VF D} {M:List Nat},(∀i,i∈M->i∈La ++ Lb)->Out Γ E (f (vl env) β1) (fun d β'=>∀v G' H',SR Γ B G' H' σ (a9 (Lc ++ (La ++ Lb)) env) β'->aq G G'->iD B H H'->VO Γ.K B H G' H' md d v->Q v H')->pT Γ E f M md σ H1 Q:=fun {f M} hM h=>by
  refine⟨_,G2,B,β1,I2,?_⟩
  rw[eO,eO]
  refine h.imp fun d β' k v G' H' I' s' m' vo=>?_
  rw[idem M hM,<-cz] at I'
  exact k v G' H' I' ((s1.trans s2).trans s') (m1.trans m') (vo.back m1 I1.boxThere)
 cases c with
 |true=>exact rQ (go (fun i hi=>List.mem_append_left _ hi) h)
 |false=>exact rJ (go (fun i hi=>List.mem_append_right _ hi) h)
def au:VF (List D):=fun _ β=>.ok [] β
def ae (fa:VF D)(fr:VF (List D)):VF (List D):=fun vs β=>(fa vs β).bnd fun x β1=>(fr vs β1).bnd fun xs β2=>.ok (x :: xs) β2
variable {fr:VF (List D)}{es:List Expr}
theorem ah:SA X Γ E [] au []:=PA.post bZ fun σ H Q ⟨env,G,B,β,I,o⟩=>o [] G H I (aq.refl _) (iD.refl _ _) .nil
theorem aa (ha:SE X Γ E a fa La .v)(hr:SA X Γ E es fr Lb)(hs:starEach (a :: es) X.env=(false,eval a X.env) :: starEach es X.env:=by rfl):SA X Γ E (a :: es) (ae fa fr) (La ++ Lb):=by
 refine PA.post (aZ ha hr hs) fun σ H Q ⟨env,G,B,β,I,o⟩=>?_
 refine⟨env,G,B,β,I,o.bnd.imp fun d1 β1 h x G1 H1 I1 s1 m1 vx=>⟨a9 La env,G1,B,β1,I1,?_⟩⟩
 rw[eO]
 refine h.bnd.imp fun ds β2 k xs G2 H2 I2 s2 m2 r=>?_
 exact k (x :: xs) G2 H2 (by rw[cz];exact I2) (s1.trans s2) (m1.trans m2) (.cons (vx.mono s2) r)
def de (fr:VF (List D)):VF D:=fun vs β=>(fr vs β).bnd fun ds β1=>if ds.length<=sizeLine then .ok (.tuple ds) β1 else .bad
def dY (fr:VF (List D)):VF D:=fun vs β=>(fr vs β).bnd fun ds β1=>if ds.length<=sizeLine then .ok (.list ds) β1 else .bad
theorem dz {x1}(h:SA X Γ E es fr L):SE X Γ E (.Tuple es x1 pos) (de fr) L .v:=by
 refine PE.post' (uZ h) fun σ H Q ⟨env,G,B,β,I,o⟩=>?_
 refine⟨env,G,B,β,I,o.bnd.imp fun ds β1 k xs G1 H1 I1 s1 m1 r=>?_⟩
 by_cases hz:ds.length<=sizeLine
 ·rw[if_pos hz] at k
  refine⟨by rw[r.len];exact hz,fun p hp=>?_⟩
  have x:=Ext.new I1.sub (o:=.tup xs) hp
  exact k _ _ _ (I1.ext x) (s1.trans x.gg) (m1.trans (x.hh.mov B)) (.tup (.inl (.inl aA)) (r.mono x.gg))
 ·rw[if_neg hz] at k;exact k.elim
theorem eZ (h:SA X Γ E es fr L):SE X Γ E (.List es pos) (dY fr) L .w:=by
 refine PE.post' (Ax h) fun σ H Q ⟨env,G,B,β,I,o⟩=>?_
 refine⟨env,G,B,β,I,o.bnd.imp fun ds β1 k xs G1 H1 I1 s1 m1 r=>?_⟩
 by_cases hz:ds.length<=sizeLine
 ·rw[if_pos hz] at k
  refine⟨by rw[r.len];exact hz,fun p hp=>?_⟩
  have x:=Ext.own I1.sub (o:=.lst xs) hp
  exact k _ _ _ (I1.ext x) s1 (m1.trans (x.hh.mov B)) ⟨p,rfl,gW m1 I1.boxThere hp,I1.sub.free hp,xs,aA,r⟩
 ·rw[if_neg hz] at k;exact k.elim
inductive FR where
 |ok (d:D) (fresh:Bool)
 |exc (c:Str)
 |bad
def FV (K:PySem.W.Frag)(H G' H':Hp)(fr:Bool)(d:D)(v:V):Prop:=if fr=true then ∃a,v=.ref a/\H a=none/\G' a=none/\Own K G' H' a d else Rp K G' v d
def Bb (K:PySem.W.Frag)(ca:Str->Addr)(n:Nat)(F:List D->FR):Sp:=fun vs H Q E=>∃G ds,aq G H/\ds.length=n/\cx K G vs ds/\match F ds with
 | .ok d fr=>∀v G' H',aq H H'->aq G G'->aq G' H'->(∀b,Mx H b->G b=none->G' b=none)->FV K H G' H' fr d v->Q v H'
 | .exc c=>∀H',aq H H'->E (.ref (ca c)) none H'
 | .bad=>False
structure b6 (P:Program)(w:World)(K:PySem.W.Frag)(mg:Str->Option Value)(base:Heap)(ca:Str->Addr)(x:Str)(ps:List Str)(k:Nat)(F:List D->FR):Prop where
 ex:∃f fd,mg x=some (.ref f)/\PySem.W.keepIn K (.ref f)=true/\Binds K fd ps []/\fW P w K mg base (nK P w) k f fd ps (Bb K ca ps.length F)
 len:∀ds,F ds≠.bad->ds.length=ps.length
def az (F:List D->FR)(fr:VF (List D)):VF D:=fun vs β=>(fr vs β).bnd fun ds β1=>match F ds with
 | .ok d _=>.ok d β1
 | .exc c=>.exc c
 | .bad=>.bad
def uC (F:List D->FR)(fr:VF (List D)):VF D:=fun vs β=>(fr vs β).bnd fun ds β1=>match F ds with
 | .ok d true=>.ok d β1
 | .ok _ false=>.bad
 | .exc c=>.exc c
 | .bad=>.bad
theorem SR.called {B:Option Addr}{G1 H1 G2 H2:Hp}{σ:St}{env:En}{β:Int}(I1:SR Γ B G1 H1 σ env β)(h:aq H1 H2)(g:aq G1 G2)(s:aq G2 H2)(n:∀b,Mx H1 b->G1 b=none->G2 b=none):SR Γ B G2 H2 σ env β/\iD B H1 H2:=by
 refine⟨⟨s,I1.old.trans g,fun b n1 n2=>?_,fun b o e np=>h b o (I1.keep b o e np),fun b hb=>?_,I1.fix,fun b e=>?_,I1.len,fun i t e=>?_,I1.sep⟩,h.mov B⟩
 ·exact n b (I1.thereM n1) (I1.new b n1 n2)
 ·exact (I1.pin b hb).same fun o e=>h b o e
 ·obtain⟨h1,h2,h3⟩:=I1.box b e
  exact⟨h b _ h1,n b (Mx.lst h1) h2,h3⟩
 ·have q:=I1.slot i t e
  cases t with
  |no=>trivial
  |fz d=>obtain⟨v,h1,h2⟩:=q;exact⟨v,h1,h2.mono g⟩
  |ow d=>
   obtain⟨p,h1,h2,h3,h4,h5⟩:=q
   exact⟨p,h1,h2,n p h5.mx h3,h4,h5.mono g fun o q=>h p o q⟩
  |bx=>exact q
  |br d=>obtain⟨b1,p,h1,h4,hp,h5⟩:=q;exact⟨b1,p,h1,h4,hp,h5.mono g fun o q=>h p o q⟩
theorem SR.kp {B:Option Addr}{G H H':Hp}{σ:St}{env:En}{β:Int}(I:SR Γ B G H σ env β)(h:aq H H'):Kp Γ H':=fun b o e n=>h b o (I.keep b o e n)
theorem qe {F:List D->FR}{ps:List Str}{Q:VK}{B:Option Addr}{G H:Hp}{σ:St}{env:En}{β:Int}(I:SR Γ B G H σ env β)(hK:X.K=Γ.K){wv:Bool}
  (h:Out Γ E (if wv=true then uC F fr (vl env) β else az F fr (vl env) β) fun d β'=>∀v G' H',SR Γ B G' H' σ (a9 L env) β'->aq G G'->iD B H H'->VO Γ.K B H G' H' (if wv=true then .w else .v) d v->Q v H') (hl:∀ds,F ds≠.bad->ds.length=ps.length) :
  aT Γ E fr L σ H fun vs H1=>Bb X.K Γ.ca ps.length F vs H1 Q E:=by
 refine⟨env,G,B,β,I,?_⟩
 have h:Out Γ E (fr (vl env) β) fun ds β1=>Out Γ E (match F ds with
   | .ok d true=>.ok d β1
   | .ok d false=>if wv=true then .bad else .ok d β1
   | .exc c=>.exc c
   | .bad=>.bad) fun d β'=>∀v G' H',SR Γ B G' H' σ (a9 L env) β'->aq G G'->iD B H H'->VO Γ.K B H G' H' (if wv=true then .w else .v) d v->Q v H':=by
  cases wv with
  |true=>
   simp only[if_true] at h ⊢
   refine h.bnd.imp fun ds β1 h=>?_
   cases q:F ds with
   |ok d b=>rw[q] at h;cases b <;> exact h
   |exc c=>rw[q] at h;exact h
   |bad=>rw[q] at h;exact h
  |false=>
   simp only[Bool.false_eq_true,if_false] at h ⊢
   refine h.bnd.imp fun ds β1 h=>?_
   cases q:F ds with
   |ok d b=>rw[q] at h;cases b <;> exact h
   |exc c=>rw[q] at h;exact h
   |bad=>rw[q] at h;exact h
 refine h.imp fun ds β1 k vs G1 H1 I1 s1 m1 r=>?_
 refine⟨G1,ds,I1.sub,?_,by rw[hK];exact r,?_⟩
 ·exact hl ds fun z=>by rw[z] at k;exact k
 cases q:F ds with
 |bad=>rw[q] at k;exact k
 |exc c=>rw[q] at k;exact fun H' s=>k H' (I1.kp s)
 |ok d b=>
  rw[q] at k
  intro v G' H' hh hg hs hn fv
  obtain⟨I2,m2⟩:=I1.called hh hg hs hn
  cases b with
  |true=>
   obtain⟨p,rfl,p1,p2,p3⟩:∃a,v=.ref a/\H1 a=none/\G' a=none/\Own X.K G' H' a d:=fv
   rw[hK] at p3
   have hp:=gW m1 I1.boxThere p1
   cases wv with
   |true=>exact k _ G' H' I2 (s1.trans hg) (m1.trans m2) ⟨p,rfl,hp,p2,p3⟩
   |false=>
    obtain⟨q1,q2,q3,q4⟩:=I1.fresh p1
    obtain⟨G3,I3,s3,r3⟩:=I2.letIn q1 p2 q3 q4 p3
    exact k _ G3 H' I3 ((s1.trans hg).trans s3) (m1.trans m2) r3
  |false=>
   cases wv with
   |true=>exact k.elim
   |false=>
    have fv:Rp X.K G' v d:=fv
    rw[hK] at fv
    exact k _ G' H' I2 (s1.trans hg) (m1.trans m2) fv
theorem ax {x:Str}{ps:List Str}{k:Nat}{F:List D->FR}{p:Pos}(hf:b6 X.prog X.w X.K X.mg X.base Γ.ca x ps k F)(hr:fA k X.A)(hx:Passes (nK X.prog X.w) X E)(hK:X.K=Γ.K)(hg:Gl X x)(ha:SA X Γ E (a :: es) fr L)(hdb:(x == ("__debug__":Str))=false:=by decide)
  (he:starEach (a :: es) X.env=(false,eval a X.env) :: starEach es X.env:=by rfl) (hpl:(backTo pos (starEach es X.env)).any (·.1)=false:=by rfl):SE X Γ E (.Call (.Name x p) (a :: es) [] pos) (az F fr) L .v:=by
 obtain⟨f,fd,hm,hk,hb,hF⟩:=hf.ex
 refine PE.post' (nN (dvs:=[]) hF hr hg hm hk hb .nil hx ha hdb he hpl) fun σ H Q ⟨env,G,B,β,I,o⟩=>?_
 show aT Γ E fr L σ H fun vs H1=>Bb X.K Γ.ca ps.length F (vs ++ []) H1 Q E
 have:=qe (Q:=Q) (wv:=false) (ps:=ps) I hK o hf.len
 simpa using this
theorem zx {x:Str}{ps:List Str}{k:Nat}{F:List D->FR}{p:Pos}(hf:b6 X.prog X.w X.K X.mg X.base Γ.ca x ps k F)(hr:fA k X.A)(hx:Passes (nK X.prog X.w) X E)(hK:X.K=Γ.K)(hg:Gl X x)(ha:SA X Γ E (a :: es) fr L)(hdb:(x == ("__debug__":Str))=false:=by decide)
  (he:starEach (a :: es) X.env=(false,eval a X.env) :: starEach es X.env:=by rfl) (hpl:(backTo pos (starEach es X.env)).any (·.1)=false:=by rfl):SE X Γ E (.Call (.Name x p) (a :: es) [] pos) (uC F fr) L .w:=by
 obtain⟨f,fd,hm,hk,hb,hF⟩:=hf.ex
 refine PE.post' (nN (dvs:=[]) hF hr hg hm hk hb .nil hx ha hdb he hpl) fun σ H Q ⟨env,G,B,β,I,o⟩=>?_
 show aT Γ E fr L σ H fun vs H1=>Bb X.K Γ.ca ps.length F (vs ++ []) H1 Q E
 have:=qe (Q:=Q) (wv:=true) (ps:=ps) I hK o hf.len
 simpa using this
end
end L2

end

section
namespace L2
open PySem PySem.Spec PyProof.Rows
inductive SO where
 |nx (env:En) (β:Int)
 |bk (env:En) (β:Int)
 |ct (env:En) (β:Int)
 |rt (d:D) (fr:Bool) (β:Int)
 |exc (c:Str)
 |bad
abbrev SF:=En->Int->SO
def RV (Γ:Fx)(G' H':Hp)(fr:Bool)(d:D)(v:V):Prop:=if fr=true then ∃a,v=.ref a/\Γ.H0 a=none/\G' a=none/\Own Γ.K G' H' a d else Rp Γ.K G' v d
def pY (Γ:Fx)(E:XK)(G:Hp)(N:Ends):SO->Prop
 | .nx env β=>∀B G' H' σ,SR Γ B G' H' σ env β->aq G G'->N.nx σ H'
 | .bk env β=>∀B G' H' σ,SR Γ B G' H' σ env β->aq G G'->N.bk σ H'
 | .ct env β=>∀B G' H' σ,SR Γ B G' H' σ env β->aq G G'->N.ct σ H'
 | .rt d fr β=>∀B G' H' σ env v,SR Γ B G' H' σ env β->aq G G'->RV Γ G' H' fr d v->N.rt v H'
 | .exc c=>∀H',Kp Γ H'->E (.ref (Γ.ca c)) none H'
 | .bad=>False
def sT (Γ:Fx)(E:XK)(m:SF):TS:=fun N σ H=>∃env G B β,SR Γ B G H σ env β/\pY Γ E G N (m env β)
def SS (X:Cx)(Γ:Fx)(E:XK)(st:Stmt)(m:SF):Prop:=PS X st (sT Γ E m)
def A8 (X:Cx)(Γ:Fx)(E:XK)(st:List Stmt)(m:SF):Prop:=qP X st (sT Γ E m)
theorem qP.post {X:Cx}{st:List Stmt}{t u:TS}(h:qP X st t)(m:∀D σ H,u D σ H->t D σ H):qP X st u:=fun pins s σ H D I q=>h pins s σ H D I (m D σ H q)
def aO (m m':SF):SF:=fun env β=>match m env β with
 | .nx env' β'=>m' env' β'
 |r=>r
def kz:SF:=fun env β=>.nx env β
section
variable {X:Cx}{Γ:Fx}{E:XK}{e a b c:Expr}{f fa fb:VF D}{L La Lb:List Nat}{md ma mb:Md}{pos:Pos}{st:Stmt}{sts:List Stmt}{m m':SF}{ta:VF Bool}
theorem pY.weak {G G1:Hp}{N:Ends}{r:SO}(h:pY Γ E G N r)(s:aq G G1):pY Γ E G1 N r:=by
 cases r with
 |nx env β=>exact fun B G' H' σ I s'=>h B G' H' σ I (s.trans s')
 |bk env β=>exact fun B G' H' σ I s'=>h B G' H' σ I (s.trans s')
 |ct env β=>exact fun B G' H' σ I s'=>h B G' H' σ I (s.trans s')
 |rt d fr β=>exact fun B G' H' σ env v I s'=>h B G' H' σ env v I (s.trans s')
 |exc c=>exact h
 |bad=>exact h
theorem bX:A8 X Γ E [] kz:=qP.post xg fun N σ H ⟨env,G,B,β,I,o⟩=>o B G H σ I (aq.refl _)
theorem ar (h:SS X Γ E st m)(h':A8 X Γ E sts m'):A8 X Γ E (st :: sts) (aO m m'):=by
 refine qP.post (ir h h') fun N σ H ⟨env,G,B,β,I,o⟩=>?_
 refine⟨env,G,B,β,I,?_⟩
 unfold aO at o
 cases q:m env β with
 |nx env' β'=>rw[q] at o;exact fun B' G' H' σ' I' s'=>⟨env',G',B',β',I',o.weak s'⟩
 |bk env' β'=>rw[q] at o;exact o
 |ct env' β'=>rw[q] at o;exact o
 |rt d fr β'=>rw[q] at o;exact o
 |exc c=>rw[q] at o;exact o
 |bad=>rw[q] at o;exact o
theorem ay (h:SS X Γ E st m):A8 X Γ E [st] m:=iG h
def toS {α:Type}(r:R α)(k:α->Int->SO):SO:=match r with
 | .ok x β=>k x β
 | .exc c=>.exc c
 | .bad=>.bad
theorem cA {α:Type}{G:Hp}{N:Ends}{r:R α}{k:α->Int->SO}{P:α->Int->Prop}(h:pY Γ E G N (toS r k))(i:∀x β,pY Γ E G N (k x β)->P x β):Out Γ E r P:=by
 cases r with
 |ok x β=>exact i x β h
 |exc c=>exact h
 |bad=>exact h
theorem SR.set' {B:Option Addr}{G H:Hp}{σ:St}{env:En}{β:Int}(I:SR Γ B G H σ env β)(i:Nat){v:V}{d:D}(h:Rp Γ.K G v d):SR Γ B G H (σ.set i (some v)) (env.set i (.fz d)) β:=by
 by_cases hi:i < env.length
 ·exact I.set hi h
 ·have h1:env.set i (.fz d)=env:=List.set_eq_of_length_le (by omega)
  have h2:σ.set i (some v)=σ:=List.set_eq_of_length_le (by rw[I.len];omega)
  rw[h1,h2];exact I
theorem SR.setOw' {B:Option Addr}{G H:Hp}{σ:St}{env:En}{β:Int}(I:SR Γ B G H σ env β)(i:Nat){a:Addr}{d:D}(h0:Γ.H0 a=none)(hg:G a=none)(hb:B≠some a)(h:Own Γ.K G H a d)(hn:∀(j:Nat) (d':D),env[j]? =some (.ow d')->σ[j]?≠some (some (.ref a))):SR Γ B G H (σ.set i (some (.ref a))) (env.set i (.ow d)) β:=by
 by_cases hi:i < env.length
 ·exact I.setOw hi h0 hg hb h fun j d' e _=>hn j d' e
 ·have h1:env.set i (.ow d)=env:=List.set_eq_of_length_le (by omega)
  have h2:σ.set i (some (.ref a))=σ:=List.set_eq_of_length_le (by rw[I.len];omega)
  rw[h1,h2];exact I
def cy (i:Nat)(L:List Nat)(f:VF D):SF:=fun env β=>toS (f (vl env) β) fun d β'=>.nx ((a9 L env).set i (.fz d)) β'
theorem bF {i:Nat}{x:Str}{pos':Pos}(he:SE X Γ E e f L .v)(hN:X.N.Nodup)(hi:X.N[i]? =some x:=by rfl)(hx:Loc X.env.scope x:=by first |exact Or.inl rfl |exact Or.inr rfl)(hs:swapsWith e (some (.Name x pos')) pos.line X.env=pure false:=by rfl)(hf:X.fn x=true\/X.env.scope.names.lookup x=some .local:=by first |exact .inl rfl |exact .inr rfl |assumption) :
  SS X Γ E (.Assign [.Name x pos'] e pos) (cy i L f):=by
 refine PS.post (oE hN hi hx he hs hf) fun N σ H ⟨env,G,B,β,I,o⟩=>?_
 refine⟨env,G,B,β,I,cA o fun d β' k v G' H' I' s' m' vo=>?_⟩
 exact k B G' H' _ (I'.set' i vo) s'
def om (i:Nat)(L:List Nat)(f:VF D):SF:=fun env β=>toS (f (vl env) β) fun d β'=>.nx ((a9 L env).set i (.ow d)) β'
theorem lI {i:Nat}{x:Str}{pos':Pos}(he:SE X Γ E e f L .w)(hN:X.N.Nodup)(hi:X.N[i]? =some x:=by rfl)(hx:Loc X.env.scope x:=by first |exact Or.inl rfl |exact Or.inr rfl)(hs:swapsWith e (some (.Name x pos')) pos.line X.env=pure false:=by rfl)(hf:X.fn x=true\/X.env.scope.names.lookup x=some .local:=by first |exact .inl rfl |exact .inr rfl |assumption) :
  SS X Γ E (.Assign [.Name x pos'] e pos) (om i L f):=by
 refine PS.post (oE hN hi hx he hs hf) fun N σ H ⟨env,G,B,β,I,o⟩=>?_
 refine⟨env,G,B,β,I,cA o fun d β' k v G' H' I' s' m' vo=>?_⟩
 obtain⟨p,rfl,h1,h2,h3⟩:=vo
 obtain⟨q1,q2,q3,q4⟩:=I.fresh h1
 exact k B G' H' _ (I'.setOw' i q1 h2 q3 h3 fun j d' z=>q4 j d' (oq z)) s'
def eH (L:List Nat)(f:VF D):SF:=fun env β=>toS (f (vl env) β) fun _ β'=>.nx (a9 L env) β'
theorem cM (he:SE X Γ E e f L md)(hs:swapsWith e none pos.line X.env=pure false:=by rfl):SS X Γ E (.Expr e pos) (eH L f):=by
 refine PS.post (sJ he hs) fun N σ H ⟨env,G,B,β,I,o⟩=>?_
 exact⟨env,G,B,β,I,cA o fun d β' k v G' H' I' s' m' vo=>k B G' H' _ I' s'⟩
def b4 (f:VF D):SF:=fun env β=>toS (f (vl env) β) fun d β'=>.rt d false β'
theorem aX (he:SE X Γ E e f L .v):SS X Γ E (.Return (some e) pos) (b4 f):=by
 refine PS.post (mC he) fun N σ H ⟨env,G,B,β,I,o⟩=>?_
 exact⟨env,G,B,β,I,cA o fun d β' k v G' H' I' s' m' vo=>k B G' H' σ _ v I' s' vo⟩
def kX (f:VF D):SF:=fun env β=>toS (f (vl env) β) fun d β'=>.rt d true β'
theorem kJ (he:SE X Γ E e f L .w):SS X Γ E (.Return (some e) pos) (kX f):=by
 refine PS.post (mC he) fun N σ H ⟨env,G,B,β,I,o⟩=>?_
 refine⟨env,G,B,β,I,cA o fun d β' k v G' H' I' s' m' vo=>?_⟩
 obtain⟨p,rfl,h1,h2,h3⟩:=vo
 obtain⟨q1,_⟩:=I.fresh h1
 exact k B G' H' σ _ _ I' s' ⟨p,rfl,q1,h2,h3⟩
def AE (i:Nat):SF:=fun env β=>match env[i]? with
 |some (.fz d)=>.rt d false β
 |some (.ow d)=>.rt d true β
 |_=>.bad
theorem BP (i:Nat){x:Str}{p:Pos}(hN:X.N[i]? =some x:=by rfl)(hv:yL X.env.scope x:=by first |exact Or.inl rfl |exact Or.inr (Or.inl rfl) |exact Or.inr (Or.inr rfl))(hd:(x == ("__debug__":Str))=false:=by decide)
  (hcd:(x == ("__classdict__":Str))=false:=by decide):SS X Γ E (.Return (some (.Name x p)) pos) (AE i):=by
 refine PS.post (mC (jP hN hv hd hcd)) fun N σ H ⟨env,G,B,β,I,o⟩=>?_
 unfold AE at o
 cases q:env[i]? with
 |none=>rw[q] at o;exact o.elim
 |some s=>
  rw[q] at o
  cases s with
  |no=>exact o.elim
  |bx=>exact o.elim
  |br d=>exact o.elim
  |fz d=>
   obtain⟨v,h1,h2⟩:=I.slot i _ q
   exact⟨v,h1,o B G H σ env v I (aq.refl _) h2⟩
  |ow d=>
   obtain⟨p,h1,h2,h3,h4,h5⟩:=I.slot i _ q
   exact⟨_,h1,o B G H σ env _ I (aq.refl _) ⟨p,rfl,h2,h3,h5⟩⟩
def jz (L:List Nat)(t:VF Bool)(m m':SF):SF:=fun env β=>toS (t (vl env) β) fun c β'=>if c=true then m (a9 L env) β' else m' (a9 L env) β'
theorem cS {x y:List Stmt}(hc:yt X Γ E c ta L)(ha:A8 X Γ E x m)(hb:A8 X Γ E y m'):SS X Γ E (.If c x y pos) (jz L ta m m'):=by
 refine PS.post (CU hc ha hb) fun N σ H ⟨env,G,B,β,I,o⟩=>?_
 refine⟨env,G,B,β,I,cA o fun d β' k G' H' I' s' m'=>?_⟩
 cases d with
 |true=>exact rQ ⟨_,G',B,β',I',pY.weak k s'⟩
 |false=>exact rJ ⟨_,G',B,β',I',pY.weak k s'⟩
def j7 (L:List Nat)(t:VF Bool)(m:SF):Nat->SF
 | 0=>fun _ _=>.bad
 |n + 1=>fun env β=>toS (t (vl env) β) fun c β'=>if c=true then (match m (a9 L env) β' with
   | .nx env2 β2=>j7 L t m n env2 β2
   | .ct env2 β2=>j7 L t m n env2 β2
   | .bk env2 β2=>.nx env2 β2
   |r=>r) else .nx (a9 L env) β'
theorem zT {x:List Stmt}(n:Nat)(hp:PassesOwn (model X.prog X.w) X.A X.env X.xe)(hc:yt X Γ E c ta L)(hb:A8 X Γ E x m):SS X Γ E (.While c x [] pos) (j7 L ta m n):=by
 refine PS.post (zQ hp hc hb) fun N σ H ⟨env,G,B,β,I,o⟩=>?_
 refine⟨fun k σ H=>∃env G1 B β,SR Γ B G1 H σ env β/\aq G G1/\pY Γ E G1 N (j7 L ta m k env β),⟨n,env,G,B,β,I,aq.refl _,o⟩,?_⟩
 rintro k σ H ⟨env,G1,B,β,I,sG,o⟩
 cases k with
 |zero=>exact o.elim
 |succ k=>
  refine⟨env,G1,B,β,I,cA o fun d β' q G' H' I' s' m'=>?_⟩
  cases d with
  |false=>exact rJ (q B G' H' σ I' s')
  |true=>
   refine rQ ⟨fun σ H=>∃env G1 B β,SR Γ B G1 H σ env β/\aq G G1/\pY Γ E G1 N (j7 L ta m k env β),fun σ' H' h=>⟨k,Nat.lt_succ_self k,h⟩,a9 L env,G',B,β',I',?_⟩
   rw[if_pos rfl] at q
   cases r:m (a9 L env) β' with
   |nx env2 β2=>rw[r] at q;exact fun B2 G2 H2 σ2 I2 s2=>⟨env2,G2,B2,β2,I2,(sG.trans s').trans s2,pY.weak q (s'.trans s2)⟩
   |ct env2 β2=>rw[r] at q;exact fun B2 G2 H2 σ2 I2 s2=>⟨env2,G2,B2,β2,I2,(sG.trans s').trans s2,pY.weak q (s'.trans s2)⟩
   |bk env2 β2=>rw[r] at q;exact fun B2 G2 H2 σ2 I2 s2=>q B2 G2 H2 σ2 I2 (s'.trans s2)
   |rt d fr β2=>rw[r] at q;exact pY.weak q s'
   |exc c=>rw[r] at q;exact q
   |bad=>rw[r] at q;exact q
def Walk (K:PySem.W.Frag)(B:Option Addr)(G H1:Hp)(ds:List D)(J:It):Prop:=∀Gc H (i:Nat),aq G Gc->aq Gc H->iD B H1 H->
 (i < ds.length->J.go i H/\∀x H',J.yld i H x H'->∃G' d,Ext Gc H G' H'/\ds[i]? =some d/\Rp K G' x d)/\(ds.length<=i->J.stop i H)
theorem Walk.any {K:PySem.W.Frag}{B:Option Addr}{G H1:Hp}{ds:List D}{J:It}(h:Walk K B G (fun _=>none) ds J):Walk K B G H1 ds J:=fun Gc H i s1 s2 _=>h Gc H i s1 s2 fun b o e=>by cases e
def iT (Γ:Fx)(E:XK)(f:VF (List D))(L:List Nat)(md:Md):TI:=fun σ H Rr=>∃env G B β,SR Γ B G H σ env β/\
 Out Γ E (f (vl env) β) fun ds β'=>∀J G' H',SR Γ B G' H' σ (a9 L env) β'->aq G G'->iD B H H'->Walk Γ.K B G' (match md with | .b=>H' |_=>fun _=>none) ds J->Rr J H'
def SI (X:Cx)(Γ:Fx)(E:XK)(tg e:Expr)(f:VF (List D))(L:List Nat)(md:Md):Prop:=PI X tg e (iT Γ E f L md)
theorem PI.post {X:Cx}{tg e:Expr}{t u:TI}(h:PI X tg e t)(m:∀σ H Q,u σ H Q->t σ H Q):PI X tg e u:=fun pins s σ H Q I q=>h pins s σ H Q I (m σ H Q q)
variable {tg:Expr}
def lB:D->Option (List D)
 | .list ds=>some ds
 | .tuple ds=>some ds
 |_=>none
def dv (fa:VF D):VF (List D):=fun vs β=>(fa vs β).bnd fun x β1=>R.of (lB x) β1
end
end L2

end

section
namespace L2
open PySem PySem.Spec PyProof.Rows
def Jb (K:PySem.W.Frag)(tl:TE):TI:=fun σ H R=>tl σ H fun x H1=>∃a xs,x=.ref a/\((hZ K H1 a xs/\R (xJ K a) H1)\/(eh K H1 a xs/\R (Dv K a) H1))
section
variable {X:Cx}{tg l:Expr}{tl:TE}
theorem Dw (hl:PE X l tl):PI X tg l (Jb X.K tl):=by
 intro pins s σ H R I h
 refine cZ (hl pins s σ H _ I h) fun v s1 ⟨x,H1,I1,r1,q1⟩=>?_
 obtain⟨a,xs,e,q⟩:=q1
 subst e
 cases r1
 rcases q with⟨hq,q⟩ | ⟨hq,q⟩
 ·obtain⟨its,rv,p,hz⟩:=I1.list hq
  refine wpAny_pyIter_list p.isList ?_
  refine⟨s1.heap.objs.size,[s1.heap.objs.size],_,_,H1,rfl,I1.kept (t':=s1.toks) fun b o e=>Heap.get?_push_of_some _ e,mJ a _,⟨_,Heap.get?_push_size _ rfl,rfl,rfl⟩,fun b hb=>?_,q⟩
  have e:b=s1.heap.objs.size:=by simpa using hb
  subst e
  exact I1.fpOk (Nat.le_refl _) (I1.hok.fresh (Nat.le_refl _))
 ·obtain⟨its,rv,p,hz⟩:=I1.tuple hq
  refine wpAny_pyIter_tuple (show s1.heap.IsTuple a its.toArray from p) ?_
  refine⟨s1.heap.objs.size,[s1.heap.objs.size],_,_,H1,rfl,I1.kept (t':=s1.toks) fun b o e=>Heap.get?_push_of_some _ e,oF a _,⟨_,Heap.get?_push_size _ rfl,rfl,rfl⟩,fun b hb=>?_,q⟩
  have e:b=s1.heap.objs.size:=by simpa using hb
  subst e
  exact I1.fpOk (Nat.le_refl _) (I1.hok.fresh (Nat.le_refl _))
end
section
variable {X:Cx}{Γ:Fx}{E:XK}{e a b c:Expr}{f fa fb:VF D}{L La Lb:List Nat}{md ma mb:Md}{pos:Pos}{st:Stmt}{sts:List Stmt}{m m':SF}{ta:VF Bool}{tg:Expr}
theorem mB {K:PySem.W.Frag}{B:Option Addr}{G H1:Hp}{p:Addr}{xs:List V}{ds:List D}(h:∀Gc H,aq G Gc->aq Gc H->iD B H1 H->hZ K H p xs)(r:cx K G xs ds):Walk K B G H1 ds (xJ K p):=fun Gc H i s1 s2 m=>by
 have hq:=h Gc H s1 s2 m
 refine⟨fun hi=>⟨?_,fun x H' y=>?_⟩,fun hi=>⟨xs,hq,by rw[r.len];exact hi⟩⟩
 ·have hi':i < xs.length:=by rw[r.len];exact hi
  exact⟨xs,xs[i],hq,by simp[hi']⟩
 ·obtain⟨rfl,y⟩:=y
  obtain⟨d,e,q⟩:=r.at' (y xs hq)
  exact⟨Gc,d,Ext.refl s2,e,q.mono s1⟩
theorem tm {K:PySem.W.Frag}{B:Option Addr}{G H1:Hp}{p:Addr}{xs:List V}{ds:List D}(h:∀Gc H,aq G Gc->aq Gc H->iD B H1 H->eh K H p xs)(r:cx K G xs ds):Walk K B G H1 ds (Dv K p):=fun Gc H i s1 s2 m=>by
 have hq:=h Gc H s1 s2 m
 refine⟨fun hi=>⟨?_,fun x H' y=>?_⟩,fun hi=>⟨xs,hq,by rw[r.len];exact hi⟩⟩
 ·have hi':i < xs.length:=by rw[r.len];exact hi
  exact⟨xs,xs[i],hq,by simp[hi']⟩
 ·obtain⟨rfl,y⟩:=y
  obtain⟨d,e,q⟩:=r.at' (y xs hq)
  exact⟨Gc,d,Ext.refl s2,e,q.mono s1⟩
theorem Iz (hK:X.K=Γ.K)(ha:SE X Γ E a fa La .v):SI X Γ E tg a (dv fa) La .v:=by
 refine PI.post (Dw ha) fun σ H Q ⟨env,G,B,β,I,o⟩=>?_
 refine⟨env,G,B,β,I,o.bnd.imp fun d1 β1 h x G1 H1 I1 s1 m1 vx=>?_⟩
 obtain⟨ds,e,k⟩:=h.of
 rw[hK]
 have vx:Rp Γ.K G1 x d1:=vx
 cases d1 with
 |list l=>
  cases e
  cases vx with
  | @lst p xs _ hq r=>exact⟨p,xs,rfl,.inl ⟨.inl (Rd.mono (.inl hq) I1.sub),k _ G1 H1 I1 s1 m1 (mB (fun Gc H t1 t2 _=>.inl (Rd.mono (.inl hq) (t1.trans t2))) r)⟩⟩
 |tuple l=>
  cases e
  cases vx with
  | @tup p xs _ hq r=>exact⟨p,xs,rfl,.inr ⟨hq.grow I1.sub.grow,k _ G1 H1 I1 s1 m1 (tm (fun Gc H t1 t2 _=>hq.grow (t1.trans t2).grow) r)⟩⟩
 |_=>cases e
theorem mT (hK:X.K=Γ.K)(ha:SE X Γ E a fa La ma):SI X Γ E tg a (dv fa) La .b:=by
 refine PI.post (Dw ha) fun σ H Q ⟨env,G,B,β,I,o⟩=>?_
 refine⟨env,G,B,β,I,o.bnd.imp fun d1 β1 h x G1 H1 I1 s1 m1 vx=>?_⟩
 obtain⟨ds,e,k⟩:=h.of
 rw[hK]
 have vx:=vx.brw I.boxThere
 cases d1 with
 |list l=>
  cases e
  rcases vx with vx | ⟨p,rfl,hb,xs,q,r⟩
  ·cases vx with
   | @lst p xs _ hq r=>exact⟨p,xs,rfl,.inl ⟨.inl (Rd.mono (.inl hq) I1.sub),k _ G1 H1 I1 s1 m1 (mB (fun Gc H t1 t2 _=>.inl (Rd.mono (.inl hq) (t1.trans t2))) r)⟩⟩
  ·exact⟨p,xs,rfl,.inl ⟨.inl (.inl q),k _ G1 H1 I1 s1 m1 (mB (fun Gc H t1 t2 mv=>.inl (.inl (mv p _ q hb))) r)⟩⟩
 |tuple l=>
  cases e
  rcases vx with vx | ⟨p,rfl,hb,q⟩
  ·cases vx with
   | @tup p xs _ hq r=>exact⟨p,xs,rfl,.inr ⟨hq.grow I1.sub.grow,k _ G1 H1 I1 s1 m1 (tm (fun Gc H t1 t2 _=>hq.grow (t1.trans t2).grow) r)⟩⟩
  ·exact q.elim
 |_=>cases e
def c8 (lo:Int)(n:Nat):List D:=(List.range n).map fun (k:Nat)=>PyData.int (lo + k)
theorem dh (lo:Int)(n:Nat):(c8 lo n).length=n:=by unfold c8;simp
theorem AZ {K:PySem.W.Frag}{B:Option Addr}{G H1:Hp}(lo:Int)(n:Nat):Walk K B G H1 (c8 lo n) (yZ lo n):=fun Gc H i s1 s2 m=>by
 rw[dh]
 refine⟨fun hi=>⟨hi,fun x H' y=>?_⟩,fun hi=>hi⟩
 obtain⟨rfl,rfl⟩:=y
 refine⟨Gc,.int (lo + i),Ext.refl s2,?_,.int _⟩
 unfold c8
 rw[List.getElem?_map,List.getElem?_range hi];rfl
def De (j:Int):Bool:=Nat.ble j.natAbs 1000000
theorem yS {j:Int}(h:De j=true): -(2 ^ 62)<=j/\j < 2 ^ 62:=by
 have:=Nat.le_of_ble_eq_true h
 omega
theorem yB {j:Int}(h: -1000<=j)(h2:j<=10000):De j=true:=Nat.ble_eq_true_of_le (by omega)
def cj (fa:VF D):VF (List D):=fun vs β=>(fa vs β).bnd fun x β1=>match x with
 | .int j=>if De j=true then .ok (c8 0 j.toNat) β1 else .bad
 |_=>.bad
theorem iq {p:Pos}(hg:Gl X "range")(hm:X.mg "range"=none)(ha:SE X Γ E a fa La ma)(hs:starEach [a] X.env= [(false,eval a X.env)]:=by rfl)(hs':starEach [a] X.env=(false,eval a X.env) :: starEach [] X.env:=by rfl):SI X Γ E tg (.Call (.Name "range" p) [a] [] pos) (cj fa) La md:=by
 refine PI.post (kN hg hm (aZ ha bZ hs') hs) fun σ H Q ⟨env,G,B,β,I,o⟩=>?_
 refine⟨env,G,B,β,I,o.bnd.imp fun d1 β1 h x G1 H1 I1 s1 m1 vx=>?_⟩
 have vx:=vx.brw I.boxThere
 cases d1 with
 |int j=>
  obtain rfl:=vx.int
  dsimp only at h
  by_cases hj:De j=true
  ·rw[if_pos hj] at h
   exact⟨j,rfl,(yS hj).1,(yS hj).2,h _ G1 H1 I1 s1 m1 (AZ 0 _)⟩
  ·rw[if_neg hj] at h;exact h.elim
 |_=>exact h.elim
inductive Tg where
 |nm (i:Nat)
 |two (i j:Nat)
def pairD:D->Option (D×D)
 | .tuple [x,y]=>some (x,y)
 |_=>none
theorem AA {d x y:D}(h:pairD d=some (x,y)):d=.tuple [x,y]:=by
 unfold pairD at h
 split at h
 ·cases h;rfl
 ·cases h
def dW:Tg->D->En->Option En
 | .nm i,d,env=>some (env.set i (.fz d))
 | .two i j,d,env=>(pairD d).map fun p=>(env.set i (.fz p.1)).set j (.fz p.2)
def k8:Tg->D->List Nv->Option (List Nv)
 | .nm i,d,vs=>some (vs.set i (.da d))
 | .two i j,d,vs=>(pairD d).map fun p=>(vs.set i (.da p.1)).set j (.da p.2)
theorem vJ (env:En)(i:Nat)(s:Sl):vl (env.set i s)=(vl env).set i s.val:=by unfold vl;rw[List.map_set]
theorem Cd (t:Tg)(d:D)(env:En):(dW t d env).map vl=k8 t d (vl env):=by
 cases t with
 |nm i=>show some (vl _)=some _;rw[vJ];rfl
 |two i j=>
  show ((pairD d).map _).map vl=(pairD d).map _
  cases pairD d with
  |none=>rfl
  |some p=>show some (vl _)=some _;rw[vJ,vJ];rfl
def gT (Γ:Fx)(t:Tg):TG:=fun v σ H Q=>∃env G B β d env',SR Γ B G H σ env β/\Rp Γ.K G v d/\dW t d env=some env'/\∀σ',SR Γ B G H σ' env' β->Q σ' H
def SG (X:Cx)(Γ:Fx)(tg:Expr)(t:Tg):Prop:=PG X tg (gT Γ t)
theorem PG.post {X:Cx}{tg:Expr}{t u:TG}(h:PG X tg t)(m:∀v σ H Q,u v σ H Q->t v σ H Q):PG X tg u:=fun pins s σ H v uu Q I r q=>h pins s σ H v uu Q I r (m v σ H Q q)
theorem cQ {i:Nat}{x:Str}(hN:X.N.Nodup)(hi:X.N[i]? =some x:=by rfl)(hx:Loc X.env.scope x:=by first |exact Or.inl rfl |exact Or.inr rfl)(hf:X.fn x=true\/X.env.scope.names.lookup x=some .local:=by first |exact .inl rfl |exact .inr rfl |assumption):SG X Γ (.Name x pos) (.nm i):=by
 refine PG.post (c6 hN hi hx hf) fun v σ H Q ⟨env,G,B,β,d,env',I,r,e,k⟩=>?_
 cases e
 exact k _ (I.set' i r)
theorem lh {i j:Nat}{x y:Str}{px py:Pos}{n:Nat}(hN:X.N.Nodup)(hc:X.calm=true:=by rfl)(hK:X.K=Γ.K:=by rfl)(hi:X.N[i]? =some x:=by rfl)(hj:X.N[j]? =some y:=by rfl)(hx:Loc X.env.scope x:=by first |exact Or.inl rfl |exact Or.inr rfl)(hy:Loc X.env.scope y:=by first |exact Or.inl rfl |exact Or.inr rfl)
  (hf:X.fn x=true\/X.env.scope.names.lookup x=some .local:=by first |exact .inl rfl |exact .inr rfl |assumption) (hf':X.fn y=true\/X.env.scope.names.lookup y=some .local:=by first |exact .inl rfl |exact .inr rfl |assumption):SG X Γ (.Tuple [.Name x px,.Name y py] n pos) (.two i j):=by
 refine PG.post (mw (n:=2) hc (cO (c6 hN hi hx hf) (cO (c6 hN hj hy hf') kL))) fun v σ H Q ⟨env,G,B,β,d,env',I,r,e,k⟩=>?_
 rw[hK]
 have e:(pairD d).map (fun p=>(env.set i (.fz p.1)).set j (.fz p.2))=some env':=e
 cases q:pairD d with
 |none=>rw[q] at e;cases e
 |some p=>
  obtain⟨dx,dy⟩:=p
  rw[q] at e
  cases e
  obtain rfl:=AA q
  cases r with
  | @tup p xs _ hq r=>
   cases r with
   |cons r1 r=>
    cases r with
    |cons r2 r=>
     cases r
     exact⟨p,_,rfl,hq.grow I.sub.grow,rfl,_,_,rfl,_,_,rfl,rfl,k _ ((I.set' i r1).set' j r2)⟩
def sC (t:Tg)(m:SF):List D->SF
 | []=>fun env β=>.nx env β
 |d :: ds=>fun env β=>match dW t d env with
  |none=>.bad
  |some env1=>match m env1 β with
   | .nx env2 β2=>sC t m ds env2 β2
   | .ct env2 β2=>sC t m ds env2 β2
   | .bk env2 β2=>.nx env2 β2
   |r=>r
def gB (t:Tg)(L:List Nat)(fi:VF (List D))(m:SF):SF:=fun env β=>toS (fi (vl env) β) fun ds β'=>sC t m ds (a9 L env) β'
theorem i6 {t:Tg}{fi:VF (List D)}{x:List Stmt}(hp:PassesOwn (model X.prog X.w) X.A X.env X.xe)(hc:X.calm=true)(hi:SI X Γ E tg e fi L .v)(hg:SG X Γ tg t)(hb:A8 X Γ E x m)(hs:∀x,foldedSetIterable e X.env x=pure x:=by intro _;rfl):SS X Γ E (.For tg e x [] pos) (gB t L fi m):=by
 refine PS.post (sL hp hc hi hg hb hs) fun N σ H ⟨env,G,B,β,I,o⟩=>?_
 refine⟨env,G,B,β,I,cA o fun ds β' q J G' H' I' s' m' w=>?_⟩
 have w:Walk Γ.K B G' (fun _=>none) ds J:=w
 refine⟨fun i n σ H=>n=ds.length - i/\i<=ds.length/\∃env G1 B β,SR Γ B G1 H σ env β/\aq G' G1/\pY Γ E G1 N (sC t m (ds.drop i) env β),⟨ds.length,by simp,Nat.zero_le _,a9 L env,G',B,β',I',aq.refl _,by rw[List.drop_zero];exact pY.weak q s'⟩,?_⟩
 rintro i n σ H ⟨rfl,hi,env,G1,B1,β1,I1,s1,q⟩
 obtain⟨w1,w2⟩:=w G1 H i s1 I1.sub fun b o e=>by cases e
 by_cases hlt:i < ds.length
 ·obtain⟨go,yl⟩:=w1 hlt
  refine .inr ⟨go,fun σ H=>∃env G2 B β,SR Γ B G2 H σ env β/\aq G' G2/\pY Γ E G2 N (sC t m (ds.drop (i + 1)) env β),fun σ2 H2 h=>⟨ds.length - (i + 1),by omega,rfl,hlt,h⟩,fun x H2 y=>?_⟩
  obtain⟨G2,d,x2,ed,rd⟩:=yl x H2 y
  have I2:=I1.ext x2
  have q:=pY.weak q x2.gg
  rw[List.drop_eq_getElem_cons hlt] at q
  have ed':ds[i]=d:=by rw[List.getElem?_eq_getElem hlt] at ed;exact Option.some.inj ed
  rw[ed'] at q
  unfold sC at q
  cases eb:dW t d env with
  |none=>rw[eb] at q;exact q.elim
  |some env1=>
   rw[eb] at q
   refine⟨env,G2,B1,β1,d,env1,I2,rd,eb,fun σ3 I3=>⟨env1,G2,B1,β1,I3,?_⟩⟩
   have s2:=s1.trans x2.gg
   dsimp only at q
   cases r:m env1 β1 with
   |nx env2 β2=>rw[r] at q;exact fun B2 G3 H3 σ2 I2 s3=>⟨env2,G3,B2,β2,I2,s2.trans s3,pY.weak q s3⟩
   |ct env2 β2=>rw[r] at q;exact fun B2 G3 H3 σ2 I2 s3=>⟨env2,G3,B2,β2,I2,s2.trans s3,pY.weak q s3⟩
   |bk env2 β2=>rw[r] at q;exact fun B2 G3 H3 σ2 I2 s3=>q B2 G3 H3 σ2 I2 s3
   |rt d fr β2=>rw[r] at q;exact q
   |exc c=>rw[r] at q;exact q
   |bad=>rw[r] at q;exact q
 ·have e:i=ds.length:=by omega
  subst e
  rw[List.drop_length] at q
  exact .inl ⟨w2 (Nat.le_refl _),q B1 G1 H σ I1 (aq.refl _)⟩
end
end L2

end

section
namespace L2
open PySem PySem.Spec PyProof.Rows
abbrev Fx.jd (Γ:Fx)(H0 G0:Hp)(par:List Addr)(br:Nat->Bool)(bx:Option Addr):Fx:=⟨Γ.K,H0,G0,par,Γ.ca,br,bx⟩
def fj (own:Nat)(ixs:List Nat)(vs:List Nv):List Nv:=List.replicate own .no ++ ixs.map fun i=>(vs[i]?).getD .no
def FQ:Option Sl->Sl
 |some (.ow d)=>.br d
 |some s=>s
 |none=>.no
def benv (own:Nat)(ixs:List Nat)(env:En):En:=List.replicate own .no ++ ixs.map fun i=>FQ env[i]?
theorem CK (o:Option Sl):(FQ o).val=(o.map Sl.val).getD .no:=by
 cases o with
 |none=>rfl
 |some s=>cases s <;> rfl
theorem BG (own:Nat)(ixs:List Nat)(env:En):vl (benv own ixs env)=fj own ixs (vl env):=by
 unfold vl benv fj
 rw[List.map_append,List.map_replicate,List.map_map]
 congr 1
 refine List.map_congr_left fun i _=>?_
 show (FQ env[i]?).val=_
 rw[CK,List.getElem?_map]
def vF (env:En):Prop:=∀(i:Nat) (d:D),env[i]?≠some (.ow d)
theorem sR {env:En}(h:vF env)(L:List Nat):a9 L env=env:=by
 unfold a9
 induction L with
 |nil=>rfl
 |cons i L ih=>
  rw[List.foldl_cons]
  have:fZ env i=env:=by
   unfold fZ
   split
   ·rename_i d e;exact absurd e (h i d)
   ·rfl
  rw[this];exact ih
theorem qE (own:Nat)(ixs:List Nat)(env:En):vF (benv own ixs env):=fun i d e=>by
 unfold benv at e
 have hm:=List.mem_of_getElem? e
 rcases List.mem_append.mp hm with h |h
 ·have:=List.eq_of_mem_replicate h;cases this
 ·obtain⟨k,_,hk⟩:=List.mem_map.mp h
  cases q:env[k]? with
  |none=>rw[q] at hk;cases hk
  |some s=>rw[q] at hk;cases s <;> cases hk
theorem o4 {env:En}(h:vF env)(i:Nat)(d:D):vF (env.set i (.fz d)):=fun j d' e=>by
 by_cases z:i=j
 ·subst z
  by_cases hi:i < env.length
  ·rw[List.getElem?_set_self hi] at e;cases e
  ·rw[List.set_eq_of_length_le (by omega)] at e;exact h _ _ e
 ·rw[List.getElem?_set_ne z] at e;exact h _ _ e
theorem xC {env env1:En}{t:Tg}{d:D}(h:vF env)(e:dW t d env=some env1):vF env1:=by
 cases t with
 |nm i=>cases e;exact o4 h i d
 |two i j=>
  have e:(pairD d).map _=some env1:=e
  cases q:pairD d with
  |none=>rw[q] at e;cases e
  |some p=>rw[q] at e;cases e;exact o4 (o4 h _ _) _ _
theorem xR {env env1:En}{t:Tg}{d:D}(e:dW t d env=some env1)(d':D):dW t d' env1=dW t d' env:=by
 cases t with
 |nm i=>cases e;show some _=some _;rw[List.set_set]
 |two i j=>
  have e:(pairD d).map _=some env1:=e
  cases q:pairD d with
  |none=>rw[q] at e;cases e
  |some p=>
   rw[q] at e;cases e
   show (pairD d').map _=(pairD d').map _
   cases pairD d' with
   |none=>rfl
   |some p'=>
    show some _=some _
    congr 1
    dsimp only
    by_cases z:i=j
    ·subst z;simp[List.set_set]
    ·rw[List.set_comm _ _ (Ne.symm z),List.set_set,List.set_set]
theorem Ext.mov {G H G' H':Hp}(x:Ext G H G' H')(B:Option Addr):iD B H H':=x.hh.mov B
section
variable {Γ:Fx}{B:Option Addr}{G H G1 H1 Gc Hc:Hp}{σ σ':St}{env envb:En}{β β':Int}{own:Nat}{ixs:List Nat}{Da:Addr}{acc:List V}
def vO (envb:En):Nat->Bool:=fun j=>match envb[j]? with
 |some (.br _)=>true
 |_=>false
theorem SR.block (I:SR Γ B G H σ env β)(own:Nat)(ixs:List Nat)(hD:H Da=none):SR (Γ.jd (upd H Da (.lst [])) G (Da :: B.toList) (vO (benv own ixs env)) B) B G (upd H Da (.lst [])) (rn own ixs σ) (benv own ixs env) β:=by
 obtain⟨q1,q2,q3,q4⟩:=I.fresh hD
 have nB:∀b,B=some b->b≠Da:=fun b e z=>q3 (by rw[<-z];exact e)
 refine⟨I.sub.trans (aq.new hD),aq.refl _,fun b _ h=>h,fun b o h _=>h,fun b hb=>?_,fun b e=>e,fun b e=>?_,?_,fun i s e=>?_,fun i j c d d' e=>absurd e (qE own ixs env i d)⟩
 ·rcases List.mem_cons.mp hb with z |z
  ·subst z;exact Mx.lst aA
  ·have z':B=some b:=by simpa using z
   exact Mx.lst (by rw[aB (nB b z')];exact (I.box b z').1)
 ·obtain⟨h1,h2,_⟩:=I.box b e
  exact⟨by rw[aB (nB b e)];exact h1,h2,.inl (List.mem_cons_of_mem _ (by simpa using e))⟩
 ·unfold rn benv;simp
 ·by_cases hi:i < own
  ·unfold benv at e
   rw[List.getElem?_append_left (by simpa using hi),List.getElem?_replicate,if_pos hi] at e
   cases e;trivial
  ·have e0:=e
   unfold benv at e
   rw[List.getElem?_append_right (by simpa using hi),List.length_replicate,List.getElem?_map] at e
   cases ek:ixs[i - own]? with
   |none=>rw[ek] at e;cases e
   |some k=>
    rw[ek] at e
    have e:FQ env[k]? =s:=Option.some.inj e
    have es:(rn own ixs σ)[i]? =some ((σ[k]?).join):=by
     unfold rn
     rw[List.getElem?_append_right (by simpa using hi),List.length_replicate,List.getElem?_map,ek];rfl
    rw[es]
    cases q:env[k]? with
    |none=>rw[q] at e;subst e;trivial
    |some t=>
     rw[q] at e
     have w:=I.slot k t q
     cases t with
     |no=>subst e;trivial
     |fz d=>subst e;obtain⟨v,h1,h2⟩:=w;exact⟨v,by rw[h1];rfl,h2⟩
     |bx=>subst e;obtain⟨a,h1,h2⟩:=w;exact⟨a,by rw[h1];rfl,h2⟩
     |ow d=>
      subst e
      obtain⟨a,h1,h2,h3,h4,h5⟩:=w
      obtain⟨o,ho⟩:=h5.obj
      have aD:a≠Da:=aI ho hD
      refine⟨by show vO _ i=true;unfold vO;rw[e0];rfl,a,by rw[h1];rfl,h4,?_,h5.mono (aq.refl _) fun o q=>by rw[aB aD];exact q⟩
      intro hm
      rcases List.mem_cons.mp hm with z |z
      ·exact aD z
      ·exact h4 (by simpa using z)
     |br d=>
      subst e
      obtain⟨b1,a,h1,h4,hp,h5⟩:=w
      obtain⟨o,ho⟩:=h5.obj
      have aD:a≠Da:=aI ho hD
      refine⟨by show vO _ i=true;unfold vO;rw[e0];rfl,a,by rw[h1];rfl,h4,?_,h5.mono (aq.refl _) fun o q=>by rw[aB aD];exact q⟩
      intro hm
      rcases List.mem_cons.mp hm with z |z
      ·exact aD z
      ·exact h4 (by simpa using z)
theorem SR.unblock (I:SR Γ B G H σ env β){br:Nat->Bool}(hD:H Da=none)(J:SR (Γ.jd (upd H Da (.lst [])) G (Da :: B.toList) br B) B Gc Hc σ' envb β'):SR Γ B Gc Hc σ env β'/\iD B H Hc/\Gc Da=none:=by
 obtain⟨q1,q2,q3,q4⟩:=I.fresh hD
 have up:∀{b:Addr},Mx H b->Mx (upd H Da (.lst [])) b:=fun {b} h=>h.same fun o e=>by rw[aB (aI e hD)];exact e
 have mv:iD B H Hc:=fun b o e n=>J.keep b o (show upd H Da (.lst []) b=some o by rw[aB (aI e hD)];exact e) fun hm=>by
  rcases List.mem_cons.mp hm with z |z
  ·rw[z,hD] at e;cases e
  ·exact n (by simpa using z)
 refine⟨⟨J.sub,I.old.trans J.old,fun b h1 h2=>J.new b (up (I.thereM h1)) (I.new b h1 h2),fun b o h1 h2=>mv b o (I.keep b o h1 h2) fun z=>?_,fun b hb=>J.thereM (up (I.pin b hb)),I.fix,fun b e=>?_,I.len,fun i s e=>?_,I.sep⟩,mv,J.new Da (Mx.lst (show upd H Da (.lst []) Da=some (.lst []) from aA)) q2⟩
 ·obtain⟨_,_,h3⟩:=I.box b z
  rcases h3 with h3 |h3
  ·exact h2 h3
  ·rw[h1] at h3;cases h3
 ·obtain⟨j1,j2,_⟩:=J.box b e
  exact⟨j1,j2,(I.box b e).2.2⟩
 ·have w:=I.slot i s e
  cases s with
  |no=>trivial
  |fz d=>obtain⟨v,h1,h2⟩:=w;exact⟨v,h1,h2.mono J.old⟩
  |bx=>exact w
  |ow d=>
   obtain⟨a,h1,h2,h3,h4,h5⟩:=w
   exact⟨a,h1,h2,J.new a (up h5.mx) h3,h4,h5.mono J.old fun o q=>mv a o q h4⟩
  |br d=>
   obtain⟨b1,a,h1,h4,hp,h5⟩:=w
   exact⟨b1,a,h1,h4,hp,h5.mono J.old fun o q=>mv a o q h4⟩
theorem SR.updD {ys:List V}(J:SR Γ B G H σ env β)(hp:Da∈Γ.par)(h0:Mx Γ.H0 Da)(g0:Γ.G0 Da=none)(hB:B≠some Da):SR Γ B G (upd H Da (.lst ys)) σ env β:=by
 have gD:=J.new Da h0 g0
 refine⟨fun b u q=>by rw[aB (fun z=>by rw[z,gD] at q;cases q)];exact J.sub b u q,J.old,J.new,fun b u q n=>by rw[aB (fun z=>n (by rw[z];exact hp))];exact J.keep b u q n,fun b hb=>?_,J.fix,fun b e=>?_,J.len,fun i s e=>?_,J.sep⟩
 ·by_cases z:b=Da
  ·subst z;exact Mx.lst aA
  ·exact (J.pin b hb).same fun o e=>by rw[aB z];exact e
 ·obtain⟨h1,h2⟩:=J.box b e
  exact⟨by rw[aB (fun z=>hB (by rw[<-z];exact e))];exact h1,h2⟩
 ·have w:=J.slot i s e
  cases s with
  |no=>trivial
  |fz d=>exact w
  |bx=>exact w
  |ow d=>
   obtain⟨a,h1,h2,h3,h4,h5⟩:=w
   have aD:a≠Da:=fun z=>h0.1 (by rw[<-z];exact h2)
   exact⟨a,h1,h2,h3,h4,h5.mono (aq.refl _) fun o q=>by rw[aB aD];exact q⟩
  |br d=>
   obtain⟨b1,a,h1,h4,hpa,h5⟩:=w
   have aD:a≠Da:=fun z=>hpa (by rw[z];exact hp)
   exact⟨b1,a,h1,h4,hpa,h5.mono (aq.refl _) fun o q=>by rw[aB aD];exact q⟩
end
def R.okb {α γ:Type}(r:R α)(k:α->Int->R γ):R γ:=match r with
 | .ok a β=>k a β
 |_=>.bad
def fT (t:Tg)(ft:VF Bool)(fe:VF D)(vs:List Nv):List D->Int->R (List D)
 | [],β=>.ok [] β
 |d :: ds,β=>match k8 t d vs with
  |none=>.bad
  |some vs1=>(ft vs1 β).okb fun c β1=>if c=true then (fe vs1 β1).okb fun x β2=>(fT t ft fe vs ds β2).okb fun xs β3=>.ok (x :: xs) β3 else fT t ft fe vs ds β1
def aU (own:Nat)(ixs:List Nat)(t:Tg)(fi:VF (List D))(ft:VF Bool)(fe:VF D):VF D:=fun vs β=>(fi vs β).bnd fun ds β1=>if ds.length<=sizeLine then (fT t ft fe (fj own ixs vs) ds β1).okb fun xs β2=>.ok (.list xs) β2 else .bad
def ij:VF Bool:=fun _ β=>.ok true β
def CV (own:Nat)(ixs Lc:List Nat)(j:Nat):Bool:=decide (j < own) || (match ixs[j - own]? with
 |some i=>Lc.contains i
 |none=>false)
theorem CG {α γ:Type}{Γ:Fx}{E:XK}{r:R α}{k:α->Int->R γ}{P:γ->Int->Prop}(h:Out Γ E (r.okb k) P):∃a β,r=.ok a β/\Out Γ E (k a β) P:=by
 cases r with
 |ok a β=>exact⟨a,β,rfl,h⟩
 |exc c=>exact h.elim
 |bad=>exact h.elim
section
variable {X:Cx}{Γ:Fx}{E:XK}{tg iter elt:Expr}{ifs:List Expr}{scope:Scope}{NB:List Str}{own:Nat}{ixs Li Lc Lt Le:List Nat}{t:Tg}{fi:VF (List D)}{ft:VF Bool}{fe:VF D}{pos:Pos}
theorem bV {X:Cx}{Γ:Fx}{E:XK}:Am X [] (qT Γ E ij []):=fun pins s σ H Q I ⟨env,G,B,β,J,o⟩=>sr pins s σ H Q I (o G H J (aq.refl _) (iD.refl _ _))
theorem CQ {X:Cx}{Γ:Fx}{E:XK}{c:Expr}{ta:VF Bool}{L:List Nat}(h:yt X Γ E c ta L):Am X [c] (qT Γ E ta L):=xi h
theorem gc {NB:List Str}{scope:Scope}{C:Addr}{ex:List Addr}{s3:Shared}{H3:Hp}{pn:List (Addr×Obj)}{P:Program}{w:World}:Passes (nK P w) (jd X NB scope C ex s3 H3 pn) E0:=fun pins σ H s e s' I h=>by
 obtain⟨_,_,_,_,_,_,_,_,_,q⟩:=h
 exact q.elim
abbrev gU (Γ:Fx)(t:Tg):TG:=fun v σ H Q=>∃H0 G0 par br bx,gT (Γ.jd H0 G0 par br bx) t v σ H Q
abbrev tU (Γ:Fx)(own:Nat)(ixs Lc:List Nat)(ft:VF Bool)(Lt:List Nat):TT:=fun σ H Q=>∃H0 G0 par br bx,(∀j,CV own ixs Lc j=true->br j=false)/\qT (Γ.jd H0 G0 par br bx) E0 ft Lt σ H Q
abbrev eU (Γ:Fx)(own:Nat)(ixs Lc:List Nat)(fe:VF D)(Le:List Nat):TE:=fun σ H Q=>∃H0 G0 par br bx,(∀j,CV own ixs Lc j=true->br j=false)/\pT (Γ.jd H0 G0 par br bx) E0 fe Le .v σ H Q
theorem Dk {σ:St}{H:Hp}{Q:VK}(hLc:∀i,i∈Lc->Γ.br i=false)(h:pT Γ E (aU own ixs t fi ft fe) (Li ++ Lc) .w σ H Q):uJ own ixs (iT Γ E fi Li .b) (gU Γ t) (tU Γ own ixs Lc ft Lt) (eU Γ own ixs Lc fe Le) σ H Q:=by
 obtain⟨env,G,B,β,I,o⟩:=h
 refine⟨env,G,B,β,I,o.bnd.imp fun ds β1 h J G1 H1 I1 s1 m1 wk Da hD=>?_⟩
 have wk:Walk Γ.K B G1 H1 ds J:=wk
 by_cases hz:ds.length<=sizeLine
 case neg=>rw[if_neg hz] at h;exact h.elim
 rw[if_pos hz] at h
 obtain⟨xs0,β0,e0,h⟩:=CG h
 have h:∀v G' H',SR Γ B G' H' σ (a9 (Li ++ Lc) env) β0->aq G G'->iD B H H'->VO Γ.K B H G' H' .w (.list xs0) v->Q v H':=h
 obtain⟨G2,I2,s2⟩:=I1.a9 Lc hLc
 rw[<-cz] at I2
 obtain⟨q1,q2,q3,q4⟩:=I2.fresh hD
 have Ib0:=I2.block own ixs hD
 generalize hbr:vO (benv own ixs (a9 (Li ++ Lc) env))=br at Ib0
 have hbo:∀j,CV own ixs Lc j=true->br j=false:=by
  intro j hj
  rw[<-hbr]
  unfold vO
  split
  ·rename_i d e
   exfalso
   unfold benv at e
   by_cases hjo:j < own
   ·rw[List.getElem?_append_left (by simpa using hjo),List.getElem?_replicate,if_pos hjo] at e;cases e
   ·rw[List.getElem?_append_right (by simpa using hjo),List.length_replicate,List.getElem?_map] at e
    unfold CV at hj
    rw[decide_eq_false hjo,Bool.false_or] at hj
    cases ek:ixs[j - own]? with
    |none=>rw[ek] at hj;cases hj
    |some k=>
     rw[ek] at hj e
     have hk:k∈Lc:=by simpa using hj
     have e:FQ (a9 (Li ++ Lc) env)[k]? =.br d:=Option.some.inj e
     cases q:(a9 (Li ++ Lc) env)[k]? with
     |none=>rw[q] at e;cases e
     |some s=>
      rw[q] at e
      cases s with
      |no=>cases e
      |fz _=>cases e
      |bx=>cases e
      |br d'=>
       obtain⟨b1,_⟩:=I2.slot k _ q
       rw[hLc k hk] at b1;cases b1
      |ow d'=>
       rw[cz] at q
       have key:∀(M:List Nat) (en:En),k∈M->∀d',(a9 M en)[k]?≠some (.ow d'):=by
        intro M
        induction M with
        |nil=>intro en hm;cases hm
        |cons i M ih=>
         intro en hm d' z
         rcases List.mem_cons.mp hm with y |y
         ·subst y
          have z1:(fZ en k)[k]? =some (.ow d'):=oq (L:=M) z
          have z2:=rG z1
          unfold fZ at z1
          rw[z2] at z1
          dsimp only at z1
          rw[List.getElem?_set_self (List.getElem?_eq_some_iff.mp z2).1] at z1;cases z1
         ·exact ih (fZ en i) y d' z
       exact key Lc _ hk d' q
  ·rfl
 have evb:vl (benv own ixs (a9 (Li ++ Lc) env))=fj own ixs (vl env):=by rw[BG,eO]
 refine⟨fun i n σ' H'=>n=ds.length - i/\i<=ds.length/\∃envb Gc β' acc accd,SR (Γ.jd (upd H1 Da (.lst [])) G2 (Da :: B.toList) br B) B Gc H' σ' envb β'/\(envb=benv own ixs (a9 (Li ++ Lc) env)\/∃d,dW t d (benv own ixs (a9 (Li ++ Lc) env))=some envb)/\
   H' Da=some (.lst acc)/\cx Γ.K Gc acc accd/\accd.length<=i/\∃xs,fT t ft fe (fj own ixs (vl env)) (ds.drop i) β'=.ok xs β0/\accd ++ xs=xs0,
  ⟨ds.length,by simp,Nat.zero_le _,_,G2,β1,[],[],Ib0,.inl rfl,aA,.nil,Nat.zero_le _,xs0,by rw[List.drop_zero];exact e0,rfl⟩,?_⟩
 rintro i n σ' H' ⟨rfl,hi',envb,Gc,β',acc,accd,Ib,eb,hacc,racc,lacc,xs,ec,exs⟩
 obtain⟨Io,mv,gD⟩:=I2.unblock hD Ib
 obtain⟨w1,w2⟩:=wk Gc H' i (s2.trans Ib.old) Ib.sub mv
 by_cases hlt:i < ds.length
 ·obtain⟨go,yl⟩:=w1 hlt
  refine .inr ⟨go,fun σ' H'=>∃envb Gc β' acc accd,SR (Γ.jd (upd H1 Da (.lst [])) G2 (Da :: B.toList) br B) B Gc H' σ' envb β'/\(envb=benv own ixs (a9 (Li ++ Lc) env)\/∃d,dW t d (benv own ixs (a9 (Li ++ Lc) env))=some envb)/\
   H' Da=some (.lst acc)/\cx Γ.K Gc acc accd/\accd.length<=i + 1/\∃xs,fT t ft fe (fj own ixs (vl env)) (ds.drop (i + 1)) β'=.ok xs β0/\accd ++ xs=xs0,fun σ2 H2 hh=>⟨ds.length - (i + 1),by omega,rfl,hlt,hh⟩,fun x H2 y=>?_⟩
  obtain⟨G3,d,x3,ed,rd⟩:=yl x H2 y
  have I3:=Ib.ext x3
  have ed':ds[i]=d:=by rw[List.getElem?_eq_getElem hlt] at ed;exact Option.some.inj ed
  rw[List.drop_eq_getElem_cons hlt,ed'] at ec
  unfold fT at ec
  cases ebv:k8 t d (fj own ixs (vl env)) with
  |none=>rw[ebv] at ec;cases ec
  |some vs1=>
   rw[ebv] at ec
   dsimp only at ec
   obtain⟨env1,eb1,ev1⟩:∃env1,dW t d (benv own ixs (a9 (Li ++ Lc) env))=some env1/\vl env1=vs1:=by
    have:=Cd t d (benv own ixs (a9 (Li ++ Lc) env))
    rw[evb,ebv] at this
    cases q:dW t d (benv own ixs (a9 (Li ++ Lc) env)) with
    |none=>rw[q] at this;cases this
    |some env1=>rw[q] at this;exact⟨env1,rfl,Option.some.inj this⟩
   have eb2:dW t d envb=some env1:=by
    rcases eb with rfl | ⟨d0,eb⟩
    ·exact eb1
    ·rw[xR eb];exact eb1
   have no1:vF env1:=xC (qE _ _ _) eb1
   have a2:H2 Da=some (.lst acc):=x3.hh _ _ hacc
   refine⟨_,_,_,_,_,envb,G3,B,β',d,env1,I3,rd,eb2,fun σ3 I4=>?_⟩
   refine⟨_,_,_,_,_,hbo,env1,G3,B,β',I4,?_⟩
   rw[ev1]
   cases et:ft vs1 β' with
   |exc c=>rw[et] at ec;cases ec
   |bad=>rw[et] at ec;cases ec
   |ok c β2=>
    rw[et] at ec
    intro G4 H4 I5 s4 m4
    rw[sR no1] at I5
    have a4:H4 Da=some (.lst acc):=m4 _ _ a2 q3
    cases c with
    |false=>
     refine rJ ⟨env1,G4,β2,acc,accd,I5,.inr ⟨d,eb1⟩,a4,racc.mono (x3.gg.trans s4),by omega,xs,?_,exs⟩
     exact ec
    |true=>
     refine rQ ⟨_,_,_,_,_,hbo,env1,G4,B,β2,I5,?_⟩
     rw[ev1]
     have ec:((fe vs1 β2).okb fun x β3=>(fT t ft fe (fj own ixs (vl env)) (ds.drop (i + 1)) β3).okb fun xs β4=>R.ok (x :: xs) β4)=R.ok xs β0:=ec
     cases ee:fe vs1 β2 with
     |exc c=>rw[ee] at ec;cases ec
     |bad=>rw[ee] at ec;cases ec
     |ok dx β3=>
      rw[ee] at ec
      intro v G5 H5 I6 s5 m5 vo
      rw[sR no1] at I6
      have a5:H5 Da=some (.lst acc):=m5 _ _ a4 q3
      have ec:((fT t ft fe (fj own ixs (vl env)) (ds.drop (i + 1)) β3).okb fun xs β4=>R.ok (dx :: xs) β4)=R.ok xs β0:=ec
      cases er:fT t ft fe (fj own ixs (vl env)) (ds.drop (i + 1)) β3 with
      |exc c=>rw[er] at ec;cases ec
      |bad=>rw[er] at ec;cases ec
      |ok ys β4=>
       rw[er] at ec
       cases ec
       refine⟨acc,a5,by rw[racc.len];omega,env1,G5,β3,acc ++ [v],accd ++ [dx],?_,.inr ⟨d,eb1⟩,aA,(racc.mono ((x3.gg.trans s4).trans s5)).snoc vo,by rw[List.length_append];simp;omega,ys,er,by rw[<-exs,List.append_assoc];rfl⟩
       refine I6.updD (List.mem_cons_self ..) (Mx.lst (show upd H1 Da (.lst []) Da=some (.lst []) from aA)) (I2.sub.free hD) q3
 ·have e:i=ds.length:=by omega
  subst e
  rw[List.drop_length] at ec
  cases ec
  rw[List.append_nil] at exs
  subst exs
  refine .inl ⟨w2 (Nat.le_refl _),⟨acc,hacc⟩,h _ Gc H' Io ((s1.trans s2).trans Ib.old) (m1.trans mv) ⟨Da,rfl,gW m1 I1.boxThere hD,gD,acc,hacc,racc⟩⟩
theorem bU (hg:∀H0 G0 par br bx C ex s3 H3 pn,SG (jd X NB scope C ex s3 H3 pn) (Γ.jd H0 G0 par br bx) tg t)(C:Addr)(ex:List Addr)(s3:Shared)(H3:Hp)(pn:List (Addr×Obj)):PG (jd X NB scope C ex s3 H3 pn) tg (gU Γ t):=by
 rintro pins s σ H v u Q I r ⟨H0,G0,par,br,bx,q⟩
 exact hg H0 G0 par br bx C ex s3 H3 pn pins s σ H v u Q I r q
theorem cq (Lc:List Nat)(hc:X.calm=true)(S:di X NB own ixs scope)(hLc:∀i,i∈Lc->Γ.br i=false)(hi:SI X Γ E tg iter fi Li .b)
  (hg:∀H0 G0 par br bx C ex s3 H3 pn,SG (jd X NB scope C ex s3 H3 pn) (Γ.jd H0 G0 par br bx) tg t)
  (ht:∀H0 G0 par br bx C ex s3 H3 pn,(∀j,CV own ixs Lc j=true->br j=false)->Am (jd X NB scope C ex s3 H3 pn) ifs (qT (Γ.jd H0 G0 par br bx) E0 ft Lt))
  (he:∀H0 G0 par br bx C ex s3 H3 pn,(∀j,CV own ixs Lc j=true->br j=false)->SE (jd X NB scope C ex s3 H3 pn) (Γ.jd H0 G0 par br bx) E0 elt fe Le .v)
  (hs:∀x,foldedSetIterable iter X.env x=pure x:=by intro _;rfl) :
  SE X Γ E (.ListComp elt [⟨tg,iter,ifs,0⟩] scope pos) (aU own ixs t fi ft fe) (Li ++ Lc) .w:=by
 refine PE.post' (tx (g:=gU Γ t) (tt:=tU Γ own ixs Lc ft Lt) (te:=eU Γ own ixs Lc fe Le) hc S hi (bU hg) (fun C ex s3 H3 pn=>?_) (fun C ex s3 H3 pn=>?_) hs) fun σ H Q h=>Dk hLc h
 ·rintro pins s σ H Q I ⟨H0,G0,par,br,bx,b,q⟩
  exact ht H0 G0 par br bx C ex s3 H3 pn b pins s σ H Q I q
 ·rintro pins s σ H Q I ⟨H0,G0,par,br,bx,b,q⟩
  exact he H0 G0 par br bx C ex s3 H3 pn b pins s σ H Q I q
theorem r0 {i:Nat}{y:Str}{py spos:Pos}(Lc:List Nat)(hc:X.calm=true)(S:di X NB own ixs scope)(hLc:∀i,i∈Lc->Γ.br i=false)(hi:SI X Γ E tg iter fi Li .b)
  (hg:∀H0 G0 par br bx C ex s3 H3 pn,SG (jd X NB scope C ex s3 H3 pn) (Γ.jd H0 G0 par br bx) tg t)
  (ht:∀H0 G0 par br bx C ex s3 H3 pn,(∀j,CV own ixs Lc j=true->br j=false)->Am (jd X NB scope C ex s3 H3 pn) ifs (qT (Γ.jd H0 G0 par br bx) E0 ft Lt))
  (he:∀H0 G0 par br bx C ex s3 H3 pn,(∀j,CV own ixs Lc j=true->br j=false)->SE (jd X NB scope C ex s3 H3 pn) (Γ.jd H0 G0 par br bx) E0 elt fe Le .v)
  (hN:X.N.Nodup) (hy:X.N[i]? =some y:=by rfl) (hl:X.env.scope.names.lookup y=some .local:=by rfl)
  (hsw:swapsWith (.ListComp elt [⟨tg,iter,ifs,0⟩] scope pos) (some (.Name y py)) spos.line X.env=pure true:=by rfl)
  (hs:∀x,foldedSetIterable iter X.env x=pure x:=by intro _;rfl) :
  SS X Γ E (.Assign [.Name y py] (.ListComp elt [⟨tg,iter,ifs,0⟩] scope pos) spos) (cy i (Li ++ Lc) (aU own ixs t fi ft fe)):=by
 refine PS.post (z5 (g:=gU Γ t) (tt:=tU Γ own ixs Lc ft Lt) (te:=eU Γ own ixs Lc fe Le) hc S hi (bU hg) (fun C ex s3 H3 pn=>?_) (fun C ex s3 H3 pn=>?_) hN hy hl hsw hs) fun N σ H ⟨env,G,B,β,I,o⟩=>?_
 ·rintro pins s σ H Q I ⟨H0,G0,par,br,bx,b,q⟩
  exact ht H0 G0 par br bx C ex s3 H3 pn b pins s σ H Q I q
 ·rintro pins s σ H Q I ⟨H0,G0,par,br,bx,b,q⟩
  exact he H0 G0 par br bx C ex s3 H3 pn b pins s σ H Q I q
 refine Dk hLc ⟨env,G,B,β,I,cA o fun d β' k v G' H' I' s' m' vo=>?_⟩
 obtain⟨G2,I2,s2,r⟩:=I.letW I' vo
 exact k B G2 H' _ (I2.set' i r) (s'.trans s2)
end
end L2

end

section
namespace L2
open PySem PySem.Spec PyProof.Rows
def fin:SO->FR
 | .nx _ _=>.ok .none false
 | .rt d fr _=>.ok d fr
 | .exc c=>.exc c
 |_=>.bad
def yE (n:Nat)(ds:List D):En:=ds.map Sl.fz ++ List.replicate (n - ds.length) .no
def aW (n p:Nat)(m:SF):List D->FR:=fun ds=>if ds.length=p then fin (m (yE n ds) 0) else .bad
abbrev Fx.fn (K:PySem.W.Frag)(H G:Hp)(ca:Str->Addr):Fx:=⟨K,H,G,[],ca,fun _=>false,none⟩
theorem SR.start {K:PySem.W.Frag}{H G:Hp}{ca:Str->Addr}{N:List Str}{vs:List V}{ds:List D}(s:aq G H)(r:cx K G vs ds)(hn:ds.length<=N.length):SR (Fx.fn K H G ca) none G H (start N vs) (yE N.length ds) 0:=by
 have hl:=r.len
 refine⟨s,aq.refl _,fun b _ h=>h,fun b o h _=>h,fun b h=>(by cases h),fun b h=>(by cases h),fun b h=>(by cases h),?_,fun i t e=>?_,fun i j a d e h=>?_⟩
 ·unfold L2.start yE;simp;omega
 ·unfold yE at e
  by_cases hi:i < ds.length
  ·rw[List.getElem?_append_left (by simpa using hi),List.getElem?_map,List.getElem?_eq_getElem hi] at e
   cases e
   obtain⟨x,hx,rx⟩:=r.at (List.getElem?_eq_getElem hi)
   refine⟨x,?_,rx⟩
   unfold L2.start
   rw[List.getElem?_append_left (by simpa[hl] using hi),List.getElem?_map,hx];rfl
  ·rw[List.getElem?_append_right (by simpa using hi),List.getElem?_replicate] at e
   split at e
   ·cases e;trivial
   ·cases e
 ·unfold yE at h
  have hm:=List.mem_of_getElem? h
  rcases List.mem_append.mp hm with z |z
  ·obtain⟨_,_,z⟩:=List.mem_map.mp z;cases z
  ·have:=List.eq_of_mem_replicate z;cases this
section
variable {P:Program}{w:World}{K:PySem.W.Frag}{mg:Str->Option Value}{base:Heap}{ca:Str->Addr}
theorem aK {x qual:Str}{st:Stmt}{f:Addr}{fd:FuncData}{N ps:List Str}{k:Nat}{m:SF}(F:A6 K x qual st f fd)(S:aC N ps (ao st))
  (hbody:∀(cdv:Value) (A:Around) (outer:List Env) (s:Shared) (H G:Hp) (E:XK),fA k (A.deeper (envOfC qual (ao st) s.heap.objs.size f cdv))->A8 (kU (nK P w) P w K mg base N qual (ao st) f cdv A outer s H E) (Fx.fn K H G ca) E (dM st) m) :
  fW P w K mg base (nK P w) (k + 1) f fd ps (Bb K ca ps.length (aW N.length ps.length m)):=by
 have hpn:ps.length<=N.length:=by have:=congrArg List.length S.pre;rw[List.length_take] at this;omega
 refine F.De S (fun vs H Q E h=>?_) (fun cdv A outer s H vs Q E hr h=>?_)
 ·obtain⟨G,ds,sG,hl,r,_⟩:=h
  rw[r.len];exact hl
 ·obtain⟨G,ds,sG,hl,r,h⟩:=h
  refine⟨_,hbody cdv A outer s H G E hr,?_⟩
  have I:=SR.start (ca:=ca) (N:=N) sG r (by omega)
  refine⟨_,G,none,0,I,?_⟩
  unfold aW at h
  rw[if_pos hl] at h
  have fin':∀{B G' H' σ env β},SR (Fx.fn K H G ca) B G' H' σ env β->aq H H':=fun J b o e=>J.keep b o e (fun z=>by cases z)
  cases q:m (yE N.length ds) 0 with
  |nx env β=>rw[q] at h;exact fun B G' H' σ J s'=>h .non G' H' (fin' J) s' J.sub (fun b h1 h2=>J.new b h1 h2) Rp.non
  |bk env β=>rw[q] at h;exact h.elim
  |ct env β=>rw[q] at h;exact h.elim
  |rt d fr β=>
   rw[q] at h
   refine fun B G' H' σ env v J s' rv=>h v G' H' (fin' J) s' J.sub (fun b h1 h2=>J.new b h1 h2) ?_
   cases fr with
   |true=>exact rv
   |false=>exact rv
  |exc c=>rw[q] at h;exact fun H' kp=>h H' fun b o e=>kp b o e (fun z=>by cases z)
  |bad=>rw[q] at h;exact h.elim
theorem Bp {n:Nat}{F F':List D->FR}(h:∀ds,ds.length=n->F' ds≠.bad->F ds=F' ds){vs:List V}{H:Hp}{Q:VK}{E:XK}(q:Bb K ca n F' vs H Q E):Bb K ca n F vs H Q E:=by
 obtain⟨G,ds,s,hl,r,q⟩:=q
 refine⟨G,ds,s,hl,r,?_⟩
 by_cases hb:F' ds=.bad
 ·rw[hb] at q;exact q.elim
 ·rw[h ds hl hb];exact q
theorem b6.imp {x:Str}{ps:List Str}{k:Nat}{F F':List D->FR}(h:b6 P w K mg base ca x ps k F)(i:∀ds,F' ds≠.bad->F ds=F' ds):b6 P w K mg base ca x ps k F':=by
 obtain⟨f,fd,a,b,c,d⟩:=h.ex
 exact⟨⟨f,fd,a,b,c,d.imp fun vs H Q E q=>Bp (fun ds _=>i ds) q⟩,fun ds hn=>h.len ds (by rw[i ds hn];exact hn)⟩
theorem aH {n p:Nat}{m:SF}(ds:List D)(h:aW n p m ds≠.bad):ds.length=p:=by
 unfold aW at h
 by_cases hl:ds.length=p
 ·exact hl
 ·rw[if_neg hl] at h;exact absurd rfl h
theorem j9 {N:List Str}{qual:Str}{scope:Scope}{f:Addr}{cd:Value}{A:Around}{outer:List Env}{s0:Shared}{H0:Hp}{E:XK}{Γ:Fx}{x:Str}{C:Addr}{np cpos pos:Pos}{e0:Expr}{es:List Expr}{fr:VF (List D)}{L:List Nat}(q:PySem.W.excIn K C [.type "ValueError",.type "Exception",.type "BaseException",.type "object"] "ValueError.__new__"=true)(hca:Γ.ca x=C)
  (hg:Gl (kU (nK P w) P w K mg base N qual scope f cd A outer s0 H0 E) x) (hm:mg x=some (.ref C)) (ha:SA (kU (nK P w) P w K mg base N qual scope f cd A outer s0 H0 E) Γ E (e0 :: es) fr L)
  (he:starEach (e0 :: es) (envOfC qual scope s0.heap.objs.size f cd)=(false,eval e0 (envOfC qual scope s0.heap.objs.size f cd)) :: starEach es (envOfC qual scope s0.heap.objs.size f cd):=by rfl)
  (hpl:(backTo cpos (starEach es (envOfC qual scope s0.heap.objs.size f cd))).any (·.1)=false:=by rfl) (hdb:(x == ("__debug__":Str))=false:=by decide) :
  SS (kU (nK P w) P w K mg base N qual scope f cd A outer s0 H0 E) Γ E (.Raise (some (.Call (.Name x np) (e0 :: es) [] cpos)) none pos) (fun env β=>toS (fr (vl env) β) fun ds _=>if ds.length<=sizeLine then .exc x else .bad):=by
 refine PS.post (zw PySem.F.excBase_ValueError (by decide +kernel) q hg hm ha he hpl hdb) fun D σ H ⟨env,G,B,β,I,o⟩=>?_
 refine⟨env,G,B,β,I,cA o fun ds β' k vs G' H' I' s' m' r=>?_⟩
 by_cases hz:ds.length<=sizeLine
 ·rw[if_pos hz] at k
  refine⟨by rw[r.len];exact hz,?_⟩
  have:=k H' (I'.kp (aq.refl _))
  rw[hca] at this
  exact this
 ·rw[if_neg hz] at k;exact k.elim
end
section
variable {X:Cx}{Γ:Fx}{E:XK}{e a b c:Expr}{f fa fb:VF D}{L La Lb:List Nat}{md ma mb:Md}{pos apos cpos np:Pos}
def sF:Option Sl->Bool
 |some (.ow (.list _))=>true
 |_=>false
theorem nM {o:Option Sl}(h:sF o=true):∃ds,o=some (.ow (.list ds)):=by
 cases o with
 |none=>cases h
 |some s=>
  cases s with
  |ow d=>cases d with
   |list ds=>exact⟨ds,rfl⟩
   |_=>cases h
  |_=>cases h
def ET (i:Nat)(env:En)(β:Int)(g:List D->Option (List D)):SO:=match env[i]? with
 |some (.ow (.list ds))=>(match g ds with
  |some es=>.nx (env.set i (.ow (.list es))) β
  |none=>.bad)
 |_=>.bad
def nr (i:Nat)(L:List Nat)(f:VF D):SF:=fun env β=>if sF env[i]? =true then toS (f (vl env) β) fun d β'=>ET i (a9 L env) β' fun ds=>if ds.length < sizeLine then some (ds ++ [d]) else none else .bad
theorem rM {Γ:Fx}{E:XK}{G:Hp}{N:Ends}{i:Nat}{env:En}{β:Int}{g:List D->Option (List D)}(h:pY Γ E G N (ET i env β g)):∃ds es,env[i]? =some (.ow (.list ds))/\g ds=some es/\pY Γ E G N (.nx (env.set i (.ow (.list es))) β):=by
 unfold ET at h
 split at h
 ·rename_i ds q
  cases e:g ds with
  |none=>rw[e] at h;exact h.elim
  |some es=>rw[e] at h;exact⟨ds,es,q,e,h⟩
 ·exact h.elim
theorem mL (i:Nat){x:Str}(hb:∀j,Γ.br j=false)(he:SE X Γ E e f L .v)(hN:X.N[i]? =some x:=by rfl)(hv:yL X.env.scope x:=by first |exact Or.inl rfl |exact Or.inr (Or.inl rfl) |exact Or.inr (Or.inr rfl))(hd:(x == ("__debug__":Str))=false:=by decide)
  (hcd:(x == ("__classdict__":Str))=false:=by decide)
  (hbase:attributeBase (.Name x np) "append" X.env (eval (.Name x np) X.env)=eval (.Name x np) X.env:=by rfl)
  (hfew:((backTo cpos (starEach [e] X.env)).all (fun x=> !x.1) && (backToKw cpos (keywordEach [] X.env)).all (fun x=>x.1.isSome)
   && decide ([e].length + ([]:List Keyword).length + (if ([]:List Keyword).isEmpty then 0 else 1) < 30))=true:=by rfl)
  (hline:(apos.endLine == cpos.line)=true:=by rfl) (hs:starEach [e] X.env=(false,eval e X.env) :: starEach [] X.env:=by rfl)
  (hsw:swapsWith (.Call (.Attribute (.Name x np) "append" apos) [e] [] cpos) none pos.line X.env=pure false:=by rfl) :
  SS X Γ E (.Expr (.Call (.Attribute (.Name x np) "append" apos) [e] [] cpos) pos) (nr i L f):=by
 refine PS.post (sJ (y1 PySem.F.plainAttrs_list PySem.F.slot_list_append PySem.F.type_list_append my (jP hN hv hd hcd) (aZ he bZ hs) hbase hfew hline hs rfl) hsw) fun N σ H ⟨env,G,B,β,I,o⟩=>?_
 unfold nr at o
 by_cases hO:sF env[i]? =true
 case neg=>rw[if_neg hO] at o;exact o.elim
 rw[if_pos hO] at o
 obtain⟨ds0,q0⟩:=nM hO
 obtain⟨p,h1,_,_,_,xs,h5,_⟩:=I.slot i _ q0
 refine⟨_,h1,.inl ⟨rfl,xs,.inl (.inl h5)⟩,?_⟩
 refine⟨env,G,B,β,I,cA o fun d β' k v G' H' I' s' m' vo=>?_⟩
 obtain⟨ds,es,q,eg,k⟩:=rM k
 by_cases hz:ds.length < sizeLine
 case neg=>rw[if_neg hz] at eg;cases eg
 rw[if_pos hz] at eg
 cases eg
 obtain⟨p',g1,_,_,_,ys,g5,g6⟩:=I'.slot i _ q
 rw[h1] at g1;cases g1
 refine⟨p,ys,v,rfl,rfl,g5,by rw[g6.len];exact hz,?_⟩
 exact k B G' _ σ (I'.write hb q h1 fun H2 e2 s2=>⟨_,e2,g6.snoc vo⟩) s'
theorem Inv.lstR {pins:List (Addr×Obj)}{σ:St}{H:Hp}{s:Shared}{l:Addr}{xs:List V}(I:Inv X pins σ H s)(hH:Rd H l (.lst xs)):xs.length<=sizeLine/\∃(its:List Value) (n:Nat),Vals xs its/\xs.length=its.length/\s.heap.get? l=some {cls:=.type "list",data:=.seq its.toArray n}:=by
 obtain⟨z,its,n,r,e⟩:=hH.ok I.hok
 exact⟨z,its,n,r,r.length,e⟩
def sW (i:Nat)(Le Li:List Nat)(fe fi:VF D):SF:=fun env β=>toS (fe (vl env) β) fun d β1=>if sF (a9 Le env)[i]? =true then toS (fi (vl env) β1) fun k β2=>ET i (a9 (Le ++ Li) env) β2 fun ds=>match k with
 | .int j=>(uF ds.length j).map fun n=>ds.set n d
 |_=>none else .bad
theorem CN (i:Nat){x:Str}{spos:Pos}(hb:∀j,Γ.br j=false)(he:SE X Γ E e f La .v)(hi:SE X Γ E a fa Lb mb)(hN:X.N[i]? =some x:=by rfl)(hv:yL X.env.scope x:=by first |exact Or.inl rfl |exact Or.inr (Or.inl rfl) |exact Or.inr (Or.inr rfl))(hd:(x == ("__debug__":Str))=false:=by decide)
  (hcd:(x == ("__classdict__":Str))=false:=by decide)
  (hA:∀v,assign (.Subscript (.Name x np) a spos) X.env v=(do
   let ov <-holding [v] (eval (.Name x np) X.env)
   let iv <-holding [v,ov] (eval a X.env)
   standAt spos
   holding [v,ov,iv] (setItem ov iv v)
   release [v,ov,iv] []):=by intro _;rfl)
  (hs:swapsWithSole [.Subscript (.Name x np) a spos] e pos.line X.env=pure false:=by rfl) (hw:swappedStores [.Subscript (.Name x np) a spos] e X.env=pure none:=by rfl)
  (h1:(assignEach [.Subscript (.Name x np) a spos] X.env).map (·.2)= [assign (.Subscript (.Name x np) a spos) X.env]:=by rfl) :
  SS X Γ E (.Assign [.Subscript (.Name x np) a spos] e pos) (sW i La Lb f fa):=by
 refine PS.post (mr he (sE (jP hN hv hd hcd) hi set_list hA) hs hw h1) fun N σ H ⟨env,G,B,β,I,o⟩=>?_
 refine⟨env,G,B,β,I,cA o fun d β1 o v G1 H1 I1 s1 m1 vo=>?_⟩
 by_cases hO:sF (a9 La env)[i]? =true
 case neg=>rw[if_neg hO] at o;exact o.elim
 rw[if_pos hO] at o
 obtain⟨ds0,q0⟩:=nM hO
 obtain⟨p,h1,_,_,_,xs,h5,_⟩:=I1.slot i _ q0
 refine⟨_,h1,a9 La env,G1,B,β1,I1,?_⟩
 rw[eO]
 refine cA o fun k β2 o w G2 H2 I2 s2 m2 vi=>?_
 rw[<-cz] at I2
 obtain⟨ds,es,q,eg,o⟩:=rM o
 cases k with
 |int j=>
  dsimp only at eg
  obtain rfl:=(vi.brw I1.boxThere).int
  obtain⟨p',g1,_,_,_,ys,g5,g6⟩:=I2.slot i _ q
  rw[h1] at g1;cases g1
  cases en:uF ds.length j with
  |none=>rw[en] at eg;cases eg
  |some n=>
   rw[en] at eg
   cases eg
   have vo:Rp Γ.K G1 v d:=vo
   refine⟨p,ys,j,n,rfl,rfl,g5,by rw[g6.len];exact en,?_⟩
   exact o B G2 _ σ (I2.write hb q h1 fun H3 e3 s3=>⟨_,e3,g6.set (vo.mono s2) n⟩) (s1.trans s2)
 |_=>cases eg
end
end L2

end

section
namespace L2
open PySem PySem.Spec PyProof.Rows
section
variable {K:PySem.W.Frag}{X:Cx}
theorem tY {g:Int->Int->V}{gd:D->D->Option D}(h:∀dx dy d,gd dx dy=some d->∃i j,dx=.int i/\dy=.int j/\∀G,Rp K G (g i j) d):nz K (ye g) gd .v:=by
 intro B G H x y dx dy d Q s hB bx by' e k
 obtain⟨i,j,rfl,rfl,r⟩:=h _ _ _ e
 obtain rfl:=bx.int
 obtain rfl:=by'.int
 exact⟨i,j,rfl,rfl,k _ G H (Ext.refl s) (r G)⟩
theorem zo {C:Int->Int->Prop}{g:Int->Int->V}{gd:D->D->Option D}(h:∀dx dy d,gd dx dy=some d->∃i j,dx=.int i/\dy=.int j/\C i j/\∀G,Rp K G (g i j) d):nz K (rI C g) gd .v:=by
 intro B G H x y dx dy d Q s hB bx by' e k
 obtain⟨i,j,rfl,rfl,c,r⟩:=h _ _ _ e
 obtain rfl:=bx.int
 obtain rfl:=by'.int
 exact⟨i,j,rfl,rfl,c,k _ G H (Ext.refl s) (r G)⟩
def gI (c:Int->Int->Bool)(g:Int->Int->D):D->D->Option D
 | .int i,.int j=>if c i j=true then some (g i j) else none
 |_,_=>none
def pG (g:Int->Int->D):D->D->Option D
 | .int i,.int j=>some (g i j)
 |_,_=>none
theorem zl {c:Int->Int->Bool}{g:Int->Int->D}{dx dy d:D}(h:gI c g dx dy=some d):∃i j,dx=.int i/\dy=.int j/\c i j=true/\d=g i j:=by
 unfold gI at h
 split at h
 ·split at h
  ·cases h;exact⟨_,_,rfl,rfl,by assumption,rfl⟩
  ·cases h
 ·cases h
theorem lD {g:Int->Int->D}{dx dy d:D}(h:pG g dx dy=some d):∃i j,dx=.int i/\dy=.int j/\d=g i j:=by
 unfold pG at h
 split at h
 ·cases h;exact⟨_,_,rfl,rfl,rfl⟩
 ·cases h
def qL:D->D->Option D:=pG fun i j=>.int (i - j)
theorem v8:nz K (ye fun i j=>.int (i - j)) qL .v:=tY fun dx dy d h=>by obtain⟨i,j,rfl,rfl,rfl⟩:=lD h;exact⟨i,j,rfl,rfl,fun _=>.int _⟩
def Dx:D->D->Option D:=gI (fun _ j=>decide (0 < j) && decide (j < 1073741824)) fun i j=>.int (i / j)
theorem FI:nz K (rI CI fun i j=>.int (i / j)) Dx .v:=zo fun dx dy d h=>by obtain⟨i,j,rfl,rfl,c,rfl⟩:=zl h;exact⟨i,j,rfl,rfl,by simpa[CI] using c,fun _=>.int _⟩
def j3:D->D->Option D:=gI (fun _ j=>decide (0 < j)) fun i j=>.int (i % j)
theorem qM:nz K (rI (fun _ j=>0 < j) fun i j=>.int (i % j)) j3 .v:=zo fun dx dy d h=>by obtain⟨i,j,rfl,rfl,c,rfl⟩:=zl h;exact⟨i,j,rfl,rfl,by simpa using c,fun _=>.int _⟩
def sO:D->D->Option D:=pG fun i j=>.bool (decide (i < j))
def zA:D->D->Option D:=pG fun i j=>.bool (decide (i<=j))
def Fs:D->D->Option D:=pG fun i j=>.bool (decide (j < i))
theorem zd:nz K (ye fun i j=>.bl (decide (i < j))) sO .v:=tY fun dx dy d h=>by obtain⟨i,j,rfl,rfl,rfl⟩:=lD h;exact⟨i,j,rfl,rfl,fun _=>.bl _⟩
theorem Dy:nz K (ye fun i j=>.bl (decide (i<=j))) zA .v:=tY fun dx dy d h=>by obtain⟨i,j,rfl,rfl,rfl⟩:=lD h;exact⟨i,j,rfl,rfl,fun _=>.bl _⟩
theorem Gs:nz K (ye fun i j=>.bl (decide (j < i))) Fs .v:=tY fun dx dy d h=>by obtain⟨i,j,rfl,rfl,rfl⟩:=lD h;exact⟨i,j,rfl,rfl,fun _=>.bl _⟩
mutual
theorem wD:∀d:D,d.canLay0=true->AL d=true
 | .none,_=>rfl
 | .bool _,_=>rfl
 | .int _,_=>rfl
 | .str _,_=>rfl
 | .list ds,h=>by simp only[PyData.canLay0] at h;simp only[AL];exact oU ds h
 | .tuple ds,h=>by simp only[PyData.canLay0] at h;simp only[AL];exact oU ds h
 | .dict _,h=>by simp[PyData.canLay0] at h
theorem oU:∀ds:List D,PyData.canLayAll0 ds=true->pM ds=true
 | [],_=>rfl
 |d :: ds,h=>by
  simp only[PyData.canLayAll0,Bool.and_eq_true] at h
  simp only[pM,Bool.and_eq_true]
  exact⟨wD d h.1,oU ds h.2⟩
end
theorem rk {d:D}(h:SeqAt.shaped d=true):AL d=true:=wD d (SeqAt.canLay_of_shaped h)
theorem wF:∀{ds:List D},(ds.all SeqAt.shaped)=true->pM ds=true
 | [],_=>rfl
 |d :: ds,h=>by
  rw[List.all_cons,Bool.and_eq_true] at h
  simp only[pM,Bool.and_eq_true]
  exact⟨rk h.1,wF h.2⟩
def gu (neg:Bool)(x y:D):Option D:=if (SeqAt.shaped x && SeqAt.shaped y)=true then some (.bool (if neg then !PyData.eqv x y else PyData.eqv x y)) else none
theorem iC {neg:Bool}:nz K (EE K neg) (gu neg) .v:=by
 intro B G H x y dx dy d Q s hB bx by' e k
 unfold gu at e
 split at e
 ·rename_i h
  rw[Bool.and_eq_true] at h
  cases e
  exact⟨dx,dy,(bx.rpH s).rep (rk h.1),(by'.rpH s).rep (rk h.2),h.1,h.2,k _ G H (Ext.refl s) (.bl _)⟩
 ·cases e
def Dq (neg:Bool)(x y:D):Option D:=match lB y with
 |some ds=>if (SeqAt.shaped x && ds.all SeqAt.shaped)=true then some (.bool (if neg then !(ds.any fun e=>PyData.eqv e x) else ds.any fun e=>PyData.eqv e x)) else none
 |none=>none
theorem lb.seq {B:Option Addr}{G H:Hp}{v:V}{d:D}{ds:List D}(h:lb K B G H v d)(e:lB d=some ds)(s:aq G H):∃a xs,v=.ref a/\(hZ K H a xs\/eh K H a xs)/\cx K G xs ds:=by
 cases d with
 |list l=>cases e;obtain⟨a,xs,e,q,r⟩:=h.list s;exact⟨a,xs,e,.inl (.inl q),r⟩
 |tuple l=>cases e;obtain⟨a,xs,e,q,r⟩:=h.tuple s;exact⟨a,xs,e,.inr q,r⟩
 |_=>cases e
theorem GS {neg:Bool}:nz K (FC K neg) (Dq neg) .v:=by
 intro B G H x y dx dy d Q s hB bx by' e k
 unfold Dq at e
 cases q:lB dy with
 |none=>rw[q] at e;cases e
 |some ds=>
  rw[q] at e
  dsimp only at e
  split at e
  ·rename_i h
   rw[Bool.and_eq_true] at h
   cases e
   obtain⟨a,xs,rfl,hq,r⟩:=by'.seq q s
   refine⟨a,xs,dx,ds,rfl,hq,(r.mono s).reps (wF h.2),(bx.rpH s).rep (rk h.1),h.1,fun e he=>List.all_eq_true.mp h.2 e he,k _ G H (Ext.refl s) (.bl _)⟩
  ·cases e
def Cu:D->Bool
 | .none=>true
 |_=>false
theorem cx.ints {G:Hp}:∀ns:List Int,cx K G (ns.map V.int) (ns.map PyData.int)
 | []=>.nil
 |n :: ns=>.cons (.int n) (cx.ints ns)
theorem yJ.noNone {G:Hp}{kvs:List (Key×V)}{d:D}{r:List (D×D)}(h:yJ K G kvs ((.none,d) :: r)):False:=by
 generalize e:(PyData.none,d) :: r=l at h
 cases h with
 |nil=>cases e
 | @cons k x xs d' ds _ _=>
  injection e with e1 _
  injection e1 with e2 _
  cases k <;> cases e2
theorem yI.noNone {G:Hp}{kvs:List (List Key×V)}{d:D}{r:List (D×D)}(h:yI K G kvs ((.none,d) :: r)):False:=by
 generalize e:(PyData.none,d) :: r=l at h
 cases h with
 |nil=>cases e
 | @cons k x xs d' ds _ _=>
  injection e with e1 _
  injection e1 with e2 _
  cases e2
theorem lb.scr {B:Option Addr}{G H:Hp}{v:V}{ds:List D}(h:lb K B G H v (.dict [(.none,.list ds)]))(s:aq G H):∃a xs,v=.ref a/\hZ K H a xs/\cx K G xs ds:=by
 rcases h with h | ⟨a,rfl,n,h⟩
 ·cases h with
  | @scr a ns q=>exact⟨a,_,rfl,s.seq q,cx.ints ns⟩
  |dK _ r=>exact r.noNone.elim
  |dT _ r=>exact r.noNone.elim
 ·rcases h with⟨_,_,r⟩ | ⟨_,_,r⟩
  ·exact r.noNone.elim
  ·exact r.noNone.elim
def bw:D->D->Option D
 | .list ds,.int i=>lF ds i
 | .tuple ds,.int i=>lF ds i
 | .str z,.int i=>if z.length<=sizeLine then (lF z.cps.toList i).map fun c=>.str ⟨#[c]⟩ else none
 | .dict [(.none,.list ds)],.int i=>lF ds i
 |_,_=>none
theorem rX {G:Hp}{xs:List V}{ds:List D}{i:Int}{d:D}(r:cx K G xs ds)(h:lF ds i=some d):∃x,lF xs i=some x/\Rp K G x d:=by
 unfold lF at h ⊢
 rw[r.len]
 cases e:uF ds.length i with
 |none=>rw[e] at h;cases h
 |some j=>rw[e] at h;exact r.at h
theorem bC:nz K (IT K) bw .v:=by
 intro B G H x y dx dy d Q s hB bx by' e k
 cases dx with
 |list ds=>
  cases dy with
  |int i=>
   obtain rfl:=by'.int
   obtain⟨a,xs,rfl,q,r⟩:=bx.list s
   obtain⟨v,ev,rv⟩:=rX r e
   exact .inl ⟨a,xs,i,v,rfl,rfl,.inl q,ev,k _ G H (Ext.refl s) rv⟩
  |_=>cases e
 |tuple ds=>
  cases dy with
  |int i=>
   obtain rfl:=by'.int
   obtain⟨a,xs,rfl,q,r⟩:=bx.tuple s
   obtain⟨v,ev,rv⟩:=rX r e
   exact .inr (.inl ⟨a,xs,i,v,rfl,rfl,q,ev,k _ G H (Ext.refl s) rv⟩)
  |_=>cases e
 |str z=>
  cases dy with
  |int i=>
   obtain rfl:=by'.int
   obtain rfl:=bx.str
   simp only[bw] at e
   split at e
   ·rename_i hz
    cases q:lF z.cps.toList i with
    |none=>rw[q] at e;cases e
    |some c=>rw[q] at e;cases e;exact .inr (.inr ⟨z,i,c,rfl,rfl,hz,q,k _ G H (Ext.refl s) (.str _)⟩)
   ·cases e
  |_=>cases e
 |none=>cases dy <;> cases e
 |bool b=>cases dy <;> cases e
 |int b=>cases dy <;> cases e
 |dict b=>
  obtain⟨ds,i,rfl,rfl,e⟩:∃ds i,b= [(.none,.list ds)]/\dy=.int i/\lF ds i=some d:=by
   unfold bw at e
   split at e
   ·contradiction
   ·contradiction
   ·contradiction
   ·rename_i h;cases h;exact⟨_,_,rfl,rfl,e⟩
   ·cases e
  obtain rfl:=by'.int
  obtain⟨a,xs,rfl,q,r⟩:=bx.scr s
  obtain⟨v,ev,rv⟩:=rX r e
  exact .inl ⟨a,xs,i,v,rfl,rfl,q,ev,k _ G H (Ext.refl s) rv⟩
def bS:D->Option D
 | .list ds=>some (.int ds.length)
 | .tuple ds=>some (.int ds.length)
 | .str z=>if z.length<=sizeLine then some (.int z.length) else none
 | .dict [(.none,.list ds)]=>some (.int ds.length)
 |_=>none
def Ip (K:PySem.W.Frag):List V->Hp->VK->Prop:=fun xs H Q=>∃x n,xs= [x]/\FD K x H n/\Q (.int n) H
theorem cR:A9 K (fun x=>Ip K [x]) bS .v:=by
 intro B G H x dx d Q s hB bx e k
 unfold bS at e
 split at e
 ·cases e;obtain⟨a,xs,rfl,q,r⟩:=bx.list s;exact⟨_,_,rfl,.inl ⟨xs,.inl q,r.len.symm⟩,k _ G H (Ext.refl s) (.int _)⟩
 ·cases e;obtain⟨a,xs,rfl,q,r⟩:=bx.tuple s;exact⟨_,_,rfl,.inr ⟨xs,q,r.len.symm⟩,k _ G H (Ext.refl s) (.int _)⟩
 ·obtain rfl:=bx.str
  split at e
  ·rename_i hz;cases e;exact⟨_,_,rfl,⟨hz,rfl⟩,k _ G H (Ext.refl s) (.int _)⟩
  ·cases e
 ·cases e;obtain⟨a,xs,rfl,q,r⟩:=bx.scr s;exact⟨_,_,rfl,.inl ⟨xs,q,r.len.symm⟩,k _ G H (Ext.refl s) (.int _)⟩
 ·cases e
def gx:D->Option D
 | .list ds=>some (.tuple ds)
 | .tuple ds=>some (.tuple ds)
 |_=>none
theorem iW:A9 K (fun x H Q=>∃p ys,[x]= [.ref p]/\((hZ K H p ys/\∀l,H l=none->Q (.ref l) (upd H l (.tup ys)))\/(eh K H p ys/\Q (.ref p) H))) gx .v:=by
 intro B G H x dx d Q s hB bx e k
 cases dx with
 |list ds=>
  cases e
  obtain⟨a,xs,rfl,q,r⟩:=bx.list s
  refine⟨a,xs,rfl,.inl ⟨.inl q,fun l hl=>?_⟩⟩
  have x:=Ext.new s (o:=.tup xs) hl
  exact k _ _ _ x (.tup (.inl (.inl aA)) (r.mono x.gg))
 |tuple ds=>
  cases e
  rcases bx with bx | ⟨_,_,_,z⟩
  ·cases bx with
   | @tup a xs _ hq r=>exact⟨a,xs,rfl,.inr ⟨hq.grow s.grow,k _ G H (Ext.refl s) (.tup hq r)⟩⟩
  ·exact z.elim
 |_=>cases e
def nh:D->Option D
 | .list ds=>some (.list ds)
 | .tuple ds=>some (.list ds)
 |_=>none
theorem nW:A9 K (fun x H Q=>∃p ys,[x]= [.ref p]/\(hZ K H p ys\/eh K H p ys)/\∀l,H l=none->Q (.ref l) (upd H l (.lst ys))) nh .w:=by
 intro B G H x dx d Q s hB bx e k
 obtain⟨ds,e1,rfl⟩:∃ds,lB dx=some ds/\d=.list ds:=by
  cases dx <;> cases e <;> exact⟨_,rfl,rfl⟩
 obtain⟨a,xs,rfl,hq,r⟩:=bx.seq e1 s
 refine⟨a,xs,rfl,hq,fun l hl=>?_⟩
 exact k _ _ _ (Ext.own s (o:=.lst xs) hl) ⟨l,rfl,hl,s.free hl,xs,aA,r⟩
def kl:List D->Option (List Bool)
 | []=>some []
 | .bool b :: ds=>(kl ds).map (b :: ·)
 |_=>none
theorem qB {G:Hp}:∀{ds:List D} {bs:List Bool} {xs:List V},kl ds=some bs->cx K G xs ds->xs=bs.map V.bl
 | [],bs,xs,e,r=>by cases e;cases r;rfl
 | .bool b :: ds,bs,xs,e,r=>by
  cases r with
  |cons r1 r2=>
   cases r1
   simp only[kl] at e
   cases q:kl ds with
   |none=>rw[q] at e;cases e
   |some cs=>rw[q] at e;cases e;rw[qB q r2];rfl
 | .none :: _,_,_,e,_=>by cases e
 | .int _ :: _,_,_,e,_=>by cases e
 | .str _ :: _,_,_,e,_=>by cases e
 | .list _ :: _,_,_,e,_=>by cases e
 | .tuple _ :: _,_,_,e,_=>by cases e
 | .dict _ :: _,_,_,e,_=>by cases e
def bR (f:List Bool->Bool):D->Option D
 | .list ds=>(kl ds).map fun bs=>.bool (f bs)
 |_=>none
theorem iP {f:List Bool->Bool}:A9 K (fun x=>uH K f [x]) (bR f) .v:=by
 intro B G H x dx d Q s hB bx e k
 cases dx with
 |list ds=>
  simp only[bR] at e
  cases q:kl ds with
  |none=>rw[q] at e;cases e
  |some bs=>
   rw[q] at e
   cases e
   obtain⟨a,xs,rfl,hq,r⟩:=bx.list s
   obtain rfl:=qB q r
   exact⟨a,bs,rfl,.inl hq,k _ G H (Ext.refl s) (.bl _)⟩
 |_=>cases e
def C0:R2:=fun x y H Q=>∃l b xs zs,x=.ref l/\y=.ref b/\Rd H l (.lst xs)/\Rd H b (.lst zs)/\xs.length + zs.length<=sizeLine/\∀p,H p=none->Q (.ref p) (upd H p (.lst (xs ++ zs)))
theorem l4:mh X (binaryOp .Add) C0:=by
 intro pins s σ H x y v u Q I rx ry h
 obtain⟨l,b,xs,zs,rfl,rfl,hH,hB,hz,q⟩:=h
 cases rx
 cases ry
 obtain⟨z,its,n,r,hl,e⟩:=I.lstR hH
 obtain⟨z2,its2,n2,r2,hl2,e2⟩:=I.lstR hB
 refine PySem.P.add_list e e2 ?_ (by rw[List.size_toArray,List.size_toArray];omega)
 have ea:its.toArray ++ its2.toArray=(its ++ its2).toArray:=by simp
 rw[ea]
 exact⟨.ref _,_,I.lnew (t':=s.toks) (r.append r2) (by rw[List.length_append];omega),rfl,q _ I.fresh⟩
def nu:D->D->Option D
 | .list a,.list b=>if a.length + b.length<=sizeLine then some (.list (a ++ b)) else none
 |_,_=>none
theorem ur:nz K C0 nu .w:=by
 intro B G H x y dx dy d Q s hB bx by' e k
 cases dx <;> cases dy <;> first | (cases e;done) |skip
 rename_i a b
 simp only[nu] at e
 split at e
 ·rename_i hz
  cases e
  obtain⟨p,xs,rfl,q1,r1⟩:=bx.list s
  obtain⟨p2,ys,rfl,q2,r2⟩:=by'.list s
  refine⟨p,p2,xs,ys,rfl,rfl,q1,q2,by rw[r1.len,r2.len];exact hz,fun l hl=>?_⟩
  exact k _ _ _ (Ext.own s (o:=.lst (xs ++ ys)) hl) ⟨l,rfl,hl,s.free hl,_,aA,r1.append r2⟩
 ·cases e
def bI:D->D->Option D:=pG fun i j=>.int (i + j)
theorem c9:nz K (ye fun i j=>.int (i + j)) bI .v:=tY fun dx dy d h=>by obtain⟨i,j,rfl,rfl,rfl⟩:=lD h;exact⟨i,j,rfl,rfl,fun _=>.int _⟩
def c5:D->D->Option D:=gI (fun i j=>(decide (-(2 ^ 64) < i) && decide (i < 2 ^ 64)) || (decide (-(2 ^ 64) < j) && decide (j < 2 ^ 64))) fun i j=>.int (i * j)
theorem lE:nz K (rI AD fun i j=>.int (i * j)) c5 .v:=zo fun dx dy d h=>by obtain⟨i,j,rfl,rfl,c,rfl⟩:=zl h;exact⟨i,j,rfl,rfl,by simpa[AD] using c,fun _=>.int _⟩
def za:D->D->Option D
 | .list a,.int k=>if -(2 ^ 63)<=k/\k < 2 ^ 63/\a.length * k.toNat<=sizeLine then some (.list (List.replicate k.toNat a).flatten) else none
 |_,_=>none
theorem Em {a b:Expr}{fa fb:VF D}{La Lb:List Nat}{mb:Md}{Γ:Fx}{E:XK}{pos:Pos}(ha:SE X Γ E a fa La .w)(hb:SE X Γ E b fb Lb mb):SE X Γ E (.BinOp a .Mult b pos) (f2 fa fb za) (La ++ Lb) .w:=by
 refine PE.post' (qu zY ha hb) fun σ H Q ⟨env,G,B,β,I,o⟩=>?_
 refine⟨env,G,B,β,I,o.bnd.imp fun d1 β1 h x G1 H1 I1 s1 m1 vx=>⟨a9 La env,G1,B,β1,I1,?_⟩⟩
 rw[eO]
 refine h.bnd.imp fun d2 β2 h y G2 H2 I2 s2 m2 vy=>?_
 obtain⟨d,e,k⟩:=h.of
 rw[<-cz] at I2
 obtain⟨p,rfl,p1,p2,p3⟩:=vx
 have by':=vy.brw I1.boxThere
 cases d1 <;> cases d2 <;> first | (cases e;done) |skip
 rename_i l j
 obtain rfl:=by'.int
 simp only[za] at e
 split at e
 ·rename_i hz
  cases e
  obtain⟨xs,q,r⟩:=p3
  obtain⟨q1,q2,q3,q4⟩:=I.fresh p1
  have r2:=r.mono s2
  refine⟨p,j,xs,rfl,rfl,m2 _ _ q q3,hz.1,hz.2.1,by rw[r.len];exact hz.2.2,fun l hl=>?_⟩
  have x:=Ext.own I2.sub (o:=.lst (List.replicate j.toNat xs).flatten) hl
  exact k _ _ _ (I2.ext x) ((s1.trans s2).trans x.gg) ((m1.trans m2).trans (x.hh.mov B)) ⟨l,rfl,gW (m1.trans m2) I2.boxThere hl,I2.sub.free hl,_,aA,r2.rep⟩
 ·cases e
def Gg:D->String
 | .none=>"NoneType"
 | .bool _=>"bool"
 | .int _=>"int"
 | .str _=>"str"
 | .list _=>"list"
 | .tuple _=>"tuple"
 | .dict _=>"dict"
def zU (d:D)(T:String):Bool:=Gg d == T || (T == "int" && Gg d == "bool")
def du:D->Bool
 | .dict ((.none,_) :: _)=>true
 |_=>false
def gq (T:String)(d:D):Option D:=if du d=true then none else some (.bool (zU d T))
def IH (K:PySem.W.Frag)(H:Hp)(x:V)(t:String):Prop:=CD K H x t\/(t="dict"/\∃a kvs,x=.ref a/\H a=some (.dT kvs))
def Gm (K:PySem.W.Frag):List V->Hp->VK->Prop:=fun xs H Q=>∃x T t b,xs= [x,.ty T]/\IH K H x t/\PySem.W.kitOne K (.type t) (.type T)=some b/\Q (.bl b) H
theorem zM:c7 X (.builtin "isinstance") (Gm X.K):=by
 intro pins s σ H xs us Q I r h
 obtain⟨x,T,t,b,rfl,ty,e,q⟩:=h
 rcases ty with ty | ⟨rfl,a,kvs,rfl,hk⟩
 ·exact zg pins s σ H _ us Q I r ⟨x,T,t,b,rfl,ty,e,q⟩
 ·obtain⟨u,c,rfl,rx,rc⟩:=vals2 r
  cases rc
  cases rx
  obtain⟨_,_,_,_,o,_,_,e2,ex,_⟩:=I.hok a _ hk
  exact PySem.W.kia_one PySem.W.kitx_dict I.kIn ⟨o,e2,ex.1⟩ e (fun z=>nomatch z) fun tk=>⟨.bl b,H,I.tok tk,rfl,q⟩
theorem lb.ty {B:Option Addr}{G H:Hp}{v:V}{d:D}(h:lb K B G H v d)(s:aq G H)(n:du d=false):IH K H v (Gg d):=by
 cases d with
 |none=>obtain rfl:=h.none;exact .inl .non
 |bool b=>obtain rfl:=h.bool;exact .inl (.bl b)
 |int b=>obtain rfl:=h.int;exact .inl (.int b)
 |str b=>obtain rfl:=h.str;exact .inl (.str b)
 |list b=>obtain⟨a,xs,rfl,q,_⟩:=h.list s;exact .inl (.lst (.inl q))
 |tuple b=>obtain⟨a,xs,rfl,q,_⟩:=h.tuple s;exact .inl (.tup q)
 |dict b=>
  rcases h with h | ⟨a,rfl,_,h⟩
  ·cases h with
   |scr _=>cases n
   |dK q _=>exact .inl (.dic (s _ _ q))
   |dT q _=>exact .inr ⟨rfl,_,_,rfl,s _ _ q⟩
  ·rcases h with⟨_,q,_⟩ | ⟨_,q,_⟩
   ·exact .inl (.dic q)
   ·exact .inr ⟨rfl,_,_,rfl,q⟩
theorem GF {d:D}{T:String}(hT:T∈ ["int","bool","str","list","tuple","dict"]):PySem.W.kitOne K (.type (Gg d)) (.type T)=some (zU d T):=by
 simp only[List.mem_cons,List.not_mem_nil,or_false] at hT
 cases d with
 |dict l=>rcases hT with rfl |rfl |rfl |rfl |rfl |rfl <;> rfl
 |none=>rcases hT with rfl |rfl |rfl |rfl |rfl |rfl <;> rfl
 |bool _=>rcases hT with rfl |rfl |rfl |rfl |rfl |rfl <;> rfl
 |int _=>rcases hT with rfl |rfl |rfl |rfl |rfl |rfl <;> rfl
 |str _=>rcases hT with rfl |rfl |rfl |rfl |rfl |rfl <;> rfl
 |list _=>rcases hT with rfl |rfl |rfl |rfl |rfl |rfl <;> rfl
 |tuple _=>rcases hT with rfl |rfl |rfl |rfl |rfl |rfl <;> rfl
theorem hU {a:Expr}{fa:VF D}{La:List Nat}{ma:Md}{Γ:Fx}{E:XK}{pos p p2:Pos}(T:String){y:Str}(hT:T∈ ["int","bool","str","list","tuple","dict"])(hK:X.K=Γ.K)(hg:Gl X "isinstance")(hm:X.mg "isinstance"=none)(hgT:Gl X y)(hmT:X.mg y=none)(hvT:bootBuiltins y=some (.type T))(ha:SE X Γ E a fa La ma)
  (hnT:y≠"__name__":=by decide) (hdT:(y == ("__debug__":Str))=false:=by decide)
  (he:starEach [a,.Name y p2] X.env=(false,eval a X.env) :: starEach [.Name y p2] X.env:=by rfl) (he2:starEach [.Name y p2] X.env=(false,eval (.Name y p2) X.env) :: starEach [] X.env:=by rfl) (hpl:(backTo pos (starEach [.Name y p2] X.env)).any (·.1)=false:=by rfl) :
  SE X Γ E (.Call (.Name "isinstance" p) [a,.Name y p2] [] pos) (f1 fa (gq T)) La .v:=by
 refine PE.post' (jo zM hg hm (by decide +kernel) (aZ ha (aZ (Bu hgT hmT hvT (show RelV (.ty T) _ from rfl) hnT hdT) bZ he2) he) (by decide) (by decide) he hpl) fun σ H Q ⟨env,G,B,β,I,o⟩=>?_
 refine kG (r:=fun x H1 Q=>Gm X.K [x,.ty T] H1 Q) ?_ I o
 intro B G H x dx d Q s hB bx e k
 unfold gq at e
 split at e
 ·cases e
 ·rename_i hn
  cases e
  rw[hK]
  exact⟨x,T,Gg dx,zU dx T,rfl,bx.ty s (by simpa using hn),GF hT,k _ G H (Ext.refl s) (.bl _)⟩
def jQ (fa fb fc:VF D)(g g':D->D->Option D):VF D:=fun vs β=>(fa vs β).bnd fun x β1=>(fb vs β1).bnd fun y β2=>match g x y with
 |some (.bool true)=>(fc vs β2).bnd fun z β3=>R.of (g' y z) β3
 |some (.bool false)=>.ok (.bool false) β2
 |_=>.bad
theorem tS {a b c:Expr}{fa fb fc:VF D}{ma mb mc:Md}{Γ:Fx}{E:XK}{pos:Pos}{op op':CmpOp}{r r':R2}{g g':D->D->Option D}(ho:mh X (compareOp op) r)(ho':mh X (compareOp op') r')(pr:nz Γ.K r g .v)(pr':nz Γ.K r' g' .v)(ha:SE X Γ E a fa [] ma)(hb:SE X Γ E b fb [] mb)(hc:SE X Γ E c fc [] mc)
  (hm:lastMarks [op,op'] [b,c]=false:=by with_unfolding_all rfl):SE X Γ E (.Compare a [op,op'] [b,c] pos) (jQ fa fb fc g g') [] .v:=by
 refine PE.post' (AN ho ho' ha hb hc hm) fun σ H Q ⟨env,G,B,β,I,o⟩=>?_
 refine two (W:=fun x y H2=>r x y H2 fun z H3=>∃k,z=.bl k/\(if k=true then pT Γ E fc [] mc σ H3 fun w' H4=>r' y w' H4 Q else Q (.bl false) H3)) I (o.bnd.imp fun d1 β1 h=>h.bnd.imp fun d2 β2 h x y G2 H2 I2 s2 m2 bx by'=>?_)
 obtain⟨cb,ec,h⟩:∃cb,g d1 d2=some (.bool cb)/\Out Γ E (if cb=true then (fc (vl env) β2).bnd fun z β3=>R.of (g' d2 z) β3 else .ok (.bool false) β2) fun d β'=>∀v G' H',SR Γ B G' H' σ (a9 [] env) β'->aq G G'->iD B H H'->VO Γ.K B H G' H' .v d v->Q v H':=by
  split at h
  ·rename_i q;exact⟨true,q,by rw[if_pos rfl];exact h⟩
  ·rename_i q;exact⟨false,q,by rw[if_neg Bool.false_ne_true];exact h⟩
  ·exact h.elim
 refine pr B G2 H2 x y d1 d2 _ _ I2.sub I2.boxThere bx by' ec fun v G' H' x' vo=>?_
 cases vo
 refine⟨cb,rfl,?_⟩
 have I3:=I2.ext x'
 cases cb with
 |false=>rw[if_neg Bool.false_ne_true] at h;exact rJ (h _ G' H' I3 (s2.trans x'.gg) (m2.trans (x'.mov B)) (.bl false))
 |true=>
  rw[if_pos rfl] at h
  refine rQ ⟨env,G',B,β2,I3,h.bnd.imp fun d3 β3 h z G4 H4 I4 s4 m4 vz=>?_⟩
  obtain⟨d,e,k⟩:=h.of
  refine pr' B G4 H4 y z d2 d3 d Q I4.sub I4.boxThere (by'.mono (x'.gg.trans s4) ((x'.mov B).trans m4)) (vz.brw I3.boxThere) e fun v G5 H5 x5 vo=>?_
  exact k v G5 H5 (I4.ext x5) (((s2.trans x'.gg).trans s4).trans x5.gg) (((m2.trans (x'.mov B)).trans m4).trans (x5.mov B)) vo
end
end L2

end

section
namespace L2
open PySem PySem.Spec PyProof.Rows
theorem fA.u1 {k:Nat}{A:Around}(r:fA k A):A.units + 100 < cLine:=by have:=r.un;omega
def IQ (N:List Str)(sc:Scope)(NB:List Str)(own:Nat)(ixs:List Nat)(scope:Scope):Bool:=
 decide (scope.kind=.function) && (scope.names.all fun y=>decide (y.2≠.cell)) && (scope.names.all fun y=>decide (scope.names.lookup y.1=some y.2)) &&
 (scope.names.all fun y=>decide (y.2=.free->(sc.names.lookup y.1=some .cell\/sc.names.lookup y.1=some .free))) && decide NB.Nodup && decide (NB.length=own + ixs.length) &&
 ((List.range ixs.length).all fun k=>decide (NB[own + k]? =N[ixs.getD k 0]?) && (match NB[own + k]? with |some x=>decide ((x,NameKind.free)∈scope.names) |none=>true))
theorem cF {X:Cx}{NB:List Str}{own:Nat}{ixs:List Nat}{scope:Scope}(h:IQ X.N X.env.scope NB own ixs scope=true):di X NB own ixs scope:=by
 unfold IQ at h
 simp only[Bool.and_eq_true,List.all_eq_true,decide_eq_true_eq,List.mem_range] at h
 obtain⟨⟨⟨⟨⟨⟨h1,h2⟩,h3⟩,h4⟩,h5⟩,h6⟩,h7⟩:=h
 refine⟨h1,h2,h3,h4,h5,h6,fun k hk=>⟨(h7 k hk).1,fun x hx=>?_⟩⟩
 have:=(h7 k hk).2
 rw[hx] at this
 simpa using this
section
variable {X:Cx}{Γ:Fx}{E:XK}{e a b c:Expr}{f fa fb fc:VF D}{L La Lb:List Nat}{md ma mb mc:Md}{pos:Pos}{K:PySem.W.Frag}
def tN (fa:VF D)(neg:Bool):VF Bool:=fun vs β=>(fa vs β).bnd fun x β1=>.ok (if neg then !Cu x else Cu x) β1
def oT (Γ:Fx)(E:XK)(f:VF (Option Int))(L:List Nat):TO:=fun σ H Q=>∃env G B β,SR Γ B G H σ env β/\
 Out Γ E (f (vl env) β) fun d β'=>∀G' H',SR Γ B G' H' σ (a9 L env) β'->aq G G'->iD B H H'->Q d H'
def G7 (X:Cx)(Γ:Fx)(E:XK)(e:Option Expr)(f:VF (Option Int))(L:List Nat):Prop:=PO X e (oT Γ E f L)
theorem xf:G7 X Γ E none (fun _ β=>.ok none β) []:=fun pins s σ H Q I ⟨env,G,B,β,J,o⟩=>CH pins s σ H Q I (o G H J (aq.refl _) (iD.refl _ _))
def BQ (fa:VF D):VF (Option Int):=fun vs β=>(fa vs β).bnd fun x β1=>match x with
 | .int i=>.ok (some i) β1
 |_=>.bad
theorem wC (ha:SE X Γ E a fa La ma):G7 X Γ E (some a) (BQ fa) La:=fun pins s σ H Q I ⟨env,G,B,β,J,o⟩=>by
 refine Bs ha pins s σ H Q I ⟨env,G,B,β,J,o.bnd.imp fun d1 β1 h x G1 H1 I1 s1 m1 vx=>?_⟩
 cases d1 with
 |int i=>exact⟨i,(vx.brw J.boxThere).int,h G1 H1 I1 s1 m1⟩
 |_=>exact h.elim
def cutD (xs:List D)(lo hi:Option Int):List D:=(xs.drop (HT.dC xs.length 0 lo)).take (HT.dC xs.length xs.length hi - HT.dC xs.length 0 lo)
theorem BC {G:Hp}{xs:List V}{ds:List D}(r:cx K G xs ds)(lo hi:Option Int):cx K G (pN xs lo hi) (cutD ds lo hi):=by
 unfold pN cutD
 rw[r.len]
 exact (r.drop _).take _
theorem oI:nz K (fun x y H Q=>∃i j,[x,y]= [.int i,.int j]/\Q (.int (if j > i then j else i)) H) (pG fun i j=>.int (if j > i then j else i)) .v:=by
 intro B G H x y dx dy d Q s hB bx by' e k
 obtain⟨i,j,rfl,rfl,rfl⟩:=lD e
 obtain rfl:=bx.int
 obtain rfl:=by'.int
 exact⟨i,j,rfl,k _ G H (Ext.refl s) (.int _)⟩
theorem zN:nz K (fun x y H Q=>∃i j,[x,y]= [.int i,.int j]/\Q (.int (if j < i then j else i)) H) (pG fun i j=>.int (if j < i then j else i)) .v:=by
 intro B G H x y dx dy d Q s hB bx by' e k
 obtain⟨i,j,rfl,rfl,rfl⟩:=lD e
 obtain rfl:=bx.int
 obtain rfl:=by'.int
 exact⟨i,j,rfl,k _ G H (Ext.refl s) (.int _)⟩
end
end L2

end

section
namespace L2
open PySem PySem.Spec PyProof.Rows
structure iM (K:PySem.W.Frag)(mg:Str->Option Value)(x:Str)(st:Stmt)(ps:List Str)(f:Addr)(fd:FuncData):Prop where
 mg:mg x=some (.ref f)
 F:A6 K x x st f fd
 b:Binds K fd ps []
structure Exc (K:PySem.W.Frag)(mg:Str->Option Value)(ca:Str->Addr)(x:Str):Prop where
 mg:mg x=some (.ref (ca x))
 ex:PySem.W.excIn K (ca x) [.type "ValueError",.type "Exception",.type "BaseException",.type "object"] "ValueError.__new__"=true
theorem Exc.ca {K:PySem.W.Frag}{mg:Str->Option Value}{ca:Str->Addr}{x:Str}(h:Exc K mg ca x):ca x=ca x:=rfl
structure i8 (mg:Str->Option Value):Prop where
 len:mg "len"=none
 range:mg "range"=none
 enumerate:mg "enumerate"=none
 zip:mg "zip"=none
 min:mg "min"=none
 max:mg "max"=none
 sum:mg "sum"=none
 abs:mg "abs"=none
 sorted:mg "sorted"=none
 reversed:mg "reversed"=none
 int:mg "int"=none
 str:mg "str"=none
 bool:mg "bool"=none
 list:mg "list"=none
 tuple:mg "tuple"=none
 dict:mg "dict"=none
 set:mg "set"=none
 isinstance:mg "isinstance"=none
 repr:mg "repr"=none
 any:mg "any"=none
 all:mg "all"=none
 divmod:mg "divmod"=none
end L2

end

section
namespace L2
open PySem PySem.Spec PyProof.Rows
inductive FB where
 |ok (d:D) (fresh:Bool) (β:Int)
 |bad
def Ga (K:PySem.W.Frag)(n:Nat)(F:List D->Int->FB):Sp:=fun vs H Q _=>∃b rest G ds β,vs=.ref b :: rest/\H b=some (.lst [.int β])/\G b=none/\aq G H/\ds.length=n/\cx K G rest ds/\match F ds β with
 | .ok d fr β'=>∀v G' H',iD (some b) H H'->H' b=some (.lst [.int β'])->aq G G'->aq G' H'->(∀c,Mx H c->G c=none->G' c=none)->FV K H G' H' fr d v->Q v H'
 | .bad=>False
structure rP (P:Program)(w:World)(K:PySem.W.Frag)(mg:Str->Option Value)(base:Heap)(x:Str)(ps:List Str)(k:Nat)(F:List D->Int->FB):Prop where
 ex:∃f fd,mg x=some (.ref f)/\PySem.W.keepIn K (.ref f)=true/\Binds K fd ps []/\fW P w K mg base (nK P w) k f fd ps (Ga K (ps.length - 1) F)
 len:∀ds β,F ds β≠.bad->ds.length=ps.length - 1
def vQ (vs:List Nv)(i:Nat):Bool:=match vs[i]? with
 |some .bx=>true
 |_=>false
def qQ (i:Nat)(F:List D->Int->FB)(fr:VF (List D)):VF D:=fun vs β=>if vQ vs i=true then (fr vs β).bnd fun ds β1=>match F ds β1 with
 | .ok d _ β2=>.ok d β2
 | .bad=>.bad else .bad
def Hu (i:Nat)(F:List D->Int->FB)(fr:VF (List D)):VF D:=fun vs β=>if vQ vs i=true then (fr vs β).bnd fun ds β1=>match F ds β1 with
 | .ok d true β2=>.ok d β2
 |_=>.bad else .bad
section
variable {X:Cx}{Γ:Fx}{E:XK}{e a b c:Expr}{f fa fb fc:VF D}{L La Lb:List Nat}{md ma mb mc:Md}{pos:Pos}{K:PySem.W.Frag}{es:List Expr}{fr:VF (List D)}
theorem Bq {env:En}{i:Nat}(h:vQ (vl env) i=true):env[i]? =some .bx:=by
 unfold vQ at h
 split at h
 ·exact FO (by assumption)
 ·cases h
theorem CC {env:En}{i j:Nat}{d:D}(h:(fZ env i)[j]? =some (.br d)):env[j]? =some (.br d):=by
 unfold fZ at h
 split at h
 ·rename_i d' e
  by_cases z:i=j
  ·subst z
   rw[List.getElem?_set_self (List.getElem?_eq_some_iff.mp e).1] at h;cases h
  ·rw[List.getElem?_set_ne z] at h;exact h
 ·exact h
theorem Ec {L:List Nat}{env:En}{j:Nat}{d:D}(h:(a9 L env)[j]? =some (.br d)):env[j]? =some (.br d):=by
 unfold a9 at h
 induction L generalizing env with
 |nil=>exact h
 |cons i L ih=>exact CC (ih h)
theorem SR.calledB {p:Addr}{β β':Int}{G1 H1 G2 H2:Hp}{σ:St}{env:En}(I1:SR Γ (some p) G1 H1 σ env β)(h:iD (some p) H1 H2)(hp:H2 p=some (.lst [.int β']))(g:aq G1 G2)(s:aq G2 H2)(n:∀b,Mx H1 b->G1 b=none->G2 b=none):SR Γ (some p) G2 H2 σ env β':=by
 obtain⟨b1,b2,b3⟩:=I1.box p rfl
 refine⟨s,I1.old.trans g,fun b n1 n2=>n b (I1.thereM n1) (I1.new b n1 n2),fun b o e np=>h b o (I1.keep b o e np) fun z=>?_,fun b hb=>?_,I1.fix,fun b e=>?_,I1.len,fun i t e=>?_,I1.sep⟩
 ·cases z
  rcases b3 with b3 |b3
  ·exact np b3
  ·rw[e] at b3;cases b3
 ·by_cases z:p=b
  ·subst z;exact Mx.lst hp
  ·exact (I1.pin b hb).same fun o q=>h b o q fun y=>z (Option.some.inj y)
 ·cases e
  exact⟨hp,n p (Mx.lst b1) b2,b3⟩
 ·have q:=I1.slot i t e
  cases t with
  |no=>trivial
  |fz d=>obtain⟨v,h1,h2⟩:=q;exact⟨v,h1,h2.mono g⟩
  |ow d=>
   obtain⟨c,h1,h2,h3,h4,h5⟩:=q
   exact⟨c,h1,h2,n c h5.mx h3,h4,h5.mono g fun o q=>h c o q h4⟩
  |bx=>exact q
  |br d=>obtain⟨b1,c,h1,h4,hpp,h5⟩:=q;exact⟨b1,c,h1,h4,hpp,h5.mono g fun o q=>h c o q h4⟩
theorem Bh {F:List D->Int->FB}{ps:List Str}{Q:VK}{B:Option Addr}{G H:Hp}{σ:St}{env:En}{β:Int}{i:Nat}{p:Addr}(I:SR Γ B G H σ env β)(hK:X.K=Γ.K)(hp:B=some p){wv:Bool}
  (h:Out Γ E (fr (vl env) β) fun ds β1=>Out Γ E (match F ds β1 with
   | .ok d true β2=>.ok d β2
   | .ok d false β2=>if wv=true then .bad else .ok d β2
   | .bad=>.bad) fun d β'=>∀v G' H',SR Γ B G' H' σ (a9 L env) β'->aq G G'->iD B H H'->VO Γ.K B H G' H' (if wv=true then .w else .v) d v->Q v H') (hl:∀ds β,F ds β≠.bad->ds.length=ps.length - 1) :
  aT Γ E fr L σ H fun vs H1=>Ga X.K (ps.length - 1) F (.ref p :: vs) H1 Q E:=by
 subst hp
 refine⟨env,G,_,β,I,h.imp fun ds β1 k vs G1 H1 I1 s1 m1 r=>?_⟩
 obtain⟨b1,b2,b3⟩:=I1.box p rfl
 refine⟨p,vs,G1,ds,β1,rfl,b1,b2,I1.sub,hl ds β1 fun z=>by rw[z] at k;exact k,by rw[hK];exact r,?_⟩
 cases q:F ds β1 with
 |bad=>rw[q] at k;exact k
 |ok d fr' β2=>
  rw[q] at k
  intro v G' H' hh hb hg hs hn fv
  have I2:=I1.calledB hh hb hg hs hn
  cases fr' with
  |true=>
   obtain⟨c,rfl,p1,p2,p3⟩:∃a,v=.ref a/\H1 a=none/\G' a=none/\Own X.K G' H' a d:=fv
   rw[hK] at p3
   have hp:=gW m1 I1.boxThere p1
   cases wv with
   |true=>exact k _ G' H' I2 (s1.trans hg) (m1.trans hh) ⟨c,rfl,hp,p2,p3⟩
   |false=>
    obtain⟨q1,q2,q3,q4⟩:=I1.fresh p1
    obtain⟨G3,I3,s3,r3⟩:=I2.letIn q1 p2 q3 q4 p3
    exact k _ G3 H' I3 ((s1.trans hg).trans s3) (m1.trans hh) r3
  |false=>
   cases wv with
   |true=>exact k.elim
   |false=>
    have fv:Rp X.K G' v d:=fv
    rw[hK] at fv
    exact k _ G' H' I2 (s1.trans hg) (m1.trans hh) fv
theorem D4 {F:List D->Int->FB}{ps:List Str}{Q:VK}{i:Nat}{σ:St}{H:Hp}(hK:X.K=Γ.K){wv:Bool}(hl:∀ds β,F ds β≠.bad->ds.length=ps.length - 1)(h:pT Γ E (if wv=true then Hu i F fr else qQ i F fr) L (if wv=true then .w else .v) σ H Q) :
  Bo i σ H fun x H1=>aT Γ E fr L σ H1 fun vs H2=>Ga X.K (ps.length - 1) F (x :: vs) H2 Q E:=by
 obtain⟨env,G,B,β,I,o⟩:=h
 have hi:vQ (vl env) i=true:=by
  by_cases hi:vQ (vl env) i=true
  ·exact hi
  ·exfalso
   cases wv with
   |true=>simp only[if_true] at o;unfold Hu at o;rw[if_neg hi] at o;exact o
   |false=>simp only[Bool.false_eq_true,if_false] at o;unfold qQ at o;rw[if_neg hi] at o;exact o
 obtain⟨p,e1,e2⟩:=I.slot i _ (Bq hi)
 refine⟨.ref p,e1,Bh (i:=i) (ps:=ps) I hK e2 (wv:=wv) ?_ hl⟩
 cases wv with
 |true=>
  simp only[if_true] at o ⊢
  unfold Hu at o
  rw[if_pos hi] at o
  refine o.bnd.imp fun ds β1 h=>?_
  cases q:F ds β1 with
  |bad=>rw[q] at h;exact h
  |ok d b β2=>rw[q] at h;cases b <;> exact h
 |false=>
  simp only[Bool.false_eq_true,if_false] at o ⊢
  unfold qQ at o
  rw[if_pos hi] at o
  refine o.bnd.imp fun ds β1 h=>?_
  cases q:F ds β1 with
  |bad=>rw[q] at h;exact h
  |ok d b β2=>rw[q] at h;cases b <;> exact h
theorem lT {x y:Str}{ps:List Str}{k:Nat}{F:List D->Int->FB}{p np:Pos}(i:Nat)(hf:rP X.prog X.w X.K X.mg X.base x ps k F)(hr:fA k X.A)(hx:Passes (nK X.prog X.w) X E)(hK:X.K=Γ.K)(hg:Gl X x)(ha:SA X Γ E es fr L)(hN:X.N[i]? =some y:=by rfl)(hv:yL X.env.scope y:=by first |exact Or.inl rfl |exact Or.inr (Or.inl rfl) |exact Or.inr (Or.inr rfl))(hd:(y == ("__debug__":Str))=false:=by decide)
  (hcd:(y == ("__classdict__":Str))=false:=by decide) (hdb:(x == ("__debug__":Str))=false:=by decide)
  (he:starEach (.Name y np :: es) X.env=(false,eval (.Name y np) X.env) :: starEach es X.env:=by rfl) (hpl:(backTo pos (starEach es X.env)).any (·.1)=false:=by rfl):SE X Γ E (.Call (.Name x p) (.Name y np :: es) [] pos) (qQ i F fr) L .v:=by
 obtain⟨f,fd,hm,hk,hb,hF⟩:=hf.ex
 refine PE.post' (nN (dvs:=[]) hF hr hg hm hk hb .nil hx (aZ (jP hN hv hd hcd) ha he) hdb he hpl) fun σ H Q h=>?_
 have:=D4 (Q:=Q) (wv:=false) (ps:=ps) hK hf.len (by simpa using h)
 show Bo i σ H fun x H1=>aT Γ E fr L σ H1 fun vs H2=>Ga X.K (ps.length - 1) F ((x :: vs) ++ []) H2 Q E
 simpa using this
def yM:D->Option Int
 | .list [.int z]=>some z
 |_=>none
theorem Ct {d:D}{z:Int}(h:yM d=some z):d=.list [.int z]:=by
 unfold yM at h
 split at h
 ·cases h;rfl
 ·cases h
def Jd (f0:VF D)(F:List D->Int->FB)(n:Int):VF D:=fun vs β=>(f0 vs β).bnd fun d0 β1=>match yM d0 with
 |some z=>(match F [.int n] z with
  | .ok d _ _=>.ok d β1
  | .bad=>.bad)
 |none=>.bad
def pI (env:En):En:=env.map fun s=>match s with
 | .bx=>.no
 |s=>s
theorem Ar {env:En}{i:Nat}{s:Sl}(h:(pI env)[i]? =some s)(n:s≠.no):env[i]? =some s/\s≠.bx:=by
 unfold pI at h
 rw[List.getElem?_map] at h
 cases e:env[i]? with
 |none=>rw[e] at h;cases h
 |some t=>
  rw[e] at h
  have h:=Option.some.inj h
  cases t with
  |bx=>exact absurd h.symm n
  |no=>exact absurd h.symm n
  |fz d=>subst h;exact⟨rfl,fun z=>by cases z⟩
  |ow d=>subst h;exact⟨rfl,fun z=>by cases z⟩
  |br d=>subst h;exact⟨rfl,fun z=>by cases z⟩
def wK (i:Nat)(L:List Nat)(f:VF D):SF:=fun env β=>toS (f (vl env) β) fun d _=>match yM d with
 |some z=>.nx ((pI (a9 L env)).set i .bx) z
 |none=>.bad
theorem BF {i:Nat}{x:Str}{pos':Pos}(hbx:Γ.bx=none)(he:SE X Γ E e f L .w)(hN:X.N.Nodup)(hi:X.N[i]? =some x:=by rfl)(hx:Loc X.env.scope x:=by first |exact Or.inl rfl |exact Or.inr rfl)(hs:swapsWith e (some (.Name x pos')) pos.line X.env=pure false:=by rfl)(hf:X.fn x=true\/X.env.scope.names.lookup x=some .local:=by first |exact .inl rfl |exact .inr rfl |assumption) :
  SS X Γ E (.Assign [.Name x pos'] e pos) (wK i L f):=by
 refine PS.post (oE hN hi hx he hs hf) fun N σ H ⟨env,G,B,β,I,o⟩=>?_
 refine⟨env,G,B,β,I,cA o fun d β' k v G' H' I' s' m' vo=>?_⟩
 cases q:yM d with
 |none=>rw[q] at k;exact k.elim
 |some z=>
  rw[q] at k
  obtain rfl:=Ct q
  obtain⟨p,rfl,h1,h2,xs,h3,r⟩:=vo
  have hx2:H' p=some (.lst [.int z]):=by
   cases r with
   |cons r1 r2=>
    cases r1
    cases r2
    exact h3
  obtain⟨q1,q2,q3,q4⟩:=I.fresh h1
  refine k (some p) G' H' _ ⟨I'.sub,I'.old,I'.new,I'.keep,I'.pin,fun b e=>(by rw[hbx] at e;cases e),fun b e=>?_,?_,fun j t e=>?_,fun j j' c d1 d2 e1 e2 e3 e4=>?_⟩ s'
  ·cases e;exact⟨hx2,h2,.inr q1⟩
  ·rw[List.length_set,List.length_set];unfold pI;rw[List.length_map];exact I'.len
  ·by_cases hj:j=i
   ·subst hj
    by_cases hl:j < (pI (a9 L env)).length
    ·rw[List.getElem?_set_self hl] at e
     cases e
     refine⟨p,?_,rfl⟩
     rw[List.getElem?_set_self]
     rw[I'.len];unfold pI at hl;simpa using hl
    ·rw[List.getElem?_eq_none (by rw[List.length_set];omega)] at e;cases e
   ·rw[List.getElem?_set_ne (Ne.symm hj)] at e ⊢
    by_cases hn:t=.no
    ·subst hn;trivial
    ·obtain⟨e1,nb⟩:=Ar e hn
     have w:=I'.slot j t e1
     cases t with
     |no=>trivial
     |fz d=>exact w
     |bx=>exact absurd rfl nb
     |ow d=>
      obtain⟨a',g1,g2,g3,g4,g5⟩:=w
      exact⟨a',g1,g2,g3,fun y=>q4 j d (oq e1) (by cases y;exact g1),g5⟩
     |br d=>
      obtain⟨b1,a',g1,g4,hpp,g5⟩:=w
      have e0:env[j]? =some (.br d):=Ec e1
      obtain⟨_,a2,f1,_,_,f5⟩:=I.slot j _ e0
      rw[g1] at f1;cases f1
      obtain⟨o,ho⟩:=f5.obj
      exact⟨b1,a',g1,fun y=>(by cases y;rw[h1] at ho;cases ho),hpp,g5⟩
  ·have back:∀{j:Nat} {d1:D},((pI (a9 L env)).set i Sl.bx)[j]? =some (.ow d1)->j≠i/\(a9 L env)[j]? =some (.ow d1):=fun {j d1} e=>by
    by_cases hj:j=i
    ·subst hj
     by_cases hl:j < (pI (a9 L env)).length
     ·rw[List.getElem?_set_self hl] at e;cases e
     ·rw[List.getElem?_eq_none (by rw[List.length_set];omega)] at e;cases e
    ·rw[List.getElem?_set_ne (Ne.symm hj)] at e
     exact⟨hj,(Ar e (fun y=>by cases y)).1⟩
   obtain⟨n1,w1⟩:=back e1
   obtain⟨n2,w2⟩:=back e2
   rw[List.getElem?_set_ne (Ne.symm n1)] at e3
   rw[List.getElem?_set_ne (Ne.symm n2)] at e4
   exact I'.sep j j' c d1 d2 w1 w2 e3 e4
end
section
variable {P:Program}{w:World}{K:PySem.W.Frag}{mg:Str->Option Value}{base:Heap}{ca:Str->Addr}
def Fc:SO->FB
 | .nx _ β=>.ok .none false β
 | .rt d fr β=>.ok d fr β
 |_=>.bad
def uL (n:Nat)(ds:List D):En:=.bx :: ds.map Sl.fz ++ List.replicate (n - 1 - ds.length) .no
def tR (n p:Nat)(m:SF):List D->Int->FB:=fun ds β=>if ds.length=p then Fc (m (uL n ds) β) else .bad
abbrev Fx.fb (K:PySem.W.Frag)(H G:Hp)(ca:Str->Addr)(b:Addr):Fx:=⟨K,H,G,[b],ca,fun _=>false,some b⟩
theorem SR.startB {H G:Hp}{N:List Str}{b:Addr}{vs:List V}{ds:List D}{β:Int}(s:aq G H)(hb:H b=some (.lst [.int β]))(gb:G b=none)(r:cx K G vs ds)(hn:ds.length + 1<=N.length):SR (Fx.fb K H G ca b) (some b) G H (L2.start N (.ref b :: vs)) (uL N.length ds) β:=by
 have hl:=r.len
 refine⟨s,aq.refl _,fun c _ h=>h,fun c o h _=>h,fun c h=>?_,fun c h=>h,fun c h=>?_,?_,fun i t e=>?_,fun i j a d e h=>?_⟩
 ·have:c=b:=by simpa using h
  subst this;exact Mx.lst hb
 ·cases h;exact⟨hb,gb,.inl (by simp)⟩
 ·unfold L2.start uL;simp;omega
 ·cases i with
  |zero=>
   unfold uL at e
   cases e
   exact⟨b,rfl,rfl⟩
  |succ i=>
   unfold uL at e
   have e:(ds.map Sl.fz ++ List.replicate (N.length - 1 - ds.length) Sl.no)[i]? =some t:=by simpa using e
   by_cases hi:i < ds.length
   ·rw[List.getElem?_append_left (by simpa using hi),List.getElem?_map,List.getElem?_eq_getElem hi] at e
    cases e
    obtain⟨x,hx,rx⟩:=r.at (List.getElem?_eq_getElem hi)
    refine⟨x,?_,rx⟩
    unfold L2.start
    have hi':i < vs.length:=by rw[hl];exact hi
    rw[List.getElem?_append_left (by simp;exact hi'),List.getElem?_map,List.getElem?_cons_succ,hx];rfl
   ·rw[List.getElem?_append_right (by simpa using hi),List.getElem?_replicate] at e
    split at e
    ·cases e;trivial
    ·cases e
 ·unfold uL at h
  have hm:=List.mem_of_getElem? h
  rcases List.mem_cons.mp hm with z |hm
  ·cases z
  rcases List.mem_append.mp hm with z |z
  ·obtain⟨_,_,z⟩:=List.mem_map.mp z;cases z
  ·have:=List.eq_of_mem_replicate z;cases this
theorem tM {x qual:Str}{st:Stmt}{f:Addr}{fd:FuncData}{N:List Str}{ps:List Str}{k:Nat}{m:SF}(F:A6 K x qual st f fd)(S:aC N ps (ao st))(hp:1<=ps.length)
  (hbody:∀(cdv:Value) (A:Around) (outer:List Env) (s:Shared) (H G:Hp) (b:Addr) (E:XK),fA k (A.deeper (envOfC qual (ao st) s.heap.objs.size f cdv))->A8 (kU (nK P w) P w K mg base N qual (ao st) f cdv A outer s H E) (Fx.fb K H G ca b) E (dM st) m) :
  fW P w K mg base (nK P w) (k + 1) f fd ps (Ga K (ps.length - 1) (tR N.length (ps.length - 1) m)):=by
 have hpn:ps.length<=N.length:=by have:=congrArg List.length S.pre;rw[List.length_take] at this;omega
 refine F.De S (fun vs H Q E h=>?_) (fun cdv A outer s H vs Q E hr h=>?_)
 ·obtain⟨b,rest,G,ds,β,rfl,hb,gb,sG,hl,r,_⟩:=h
  rw[List.length_cons,r.len];omega
 ·obtain⟨b,rest,G,ds,β,rfl,hb,gb,sG,hl,r,h⟩:=h
  refine⟨_,hbody cdv A outer s H G b E hr,?_⟩
  have I:=SR.startB (ca:=ca) (N:=N) sG hb gb r (by omega)
  refine⟨_,G,some b,β,I,?_⟩
  unfold tR at h
  rw[if_pos hl] at h
  have fin':∀{B G' H' σ env β},SR (Fx.fb K H G ca b) B G' H' σ env β->iD (some b) H H'/\H' b=some (.lst [.int β]):=fun J=>by
   have e:=J.fix b rfl
   refine⟨fun c o ec n=>J.keep c o ec fun z=>n ?_,(J.box b e).1⟩
   have:c=b:=by simpa using z
   rw[this]
  cases q:m (uL N.length ds) β with
  |nx env β'=>rw[q] at h;exact fun B G' H' σ J s'=>h .non G' H' (fin' J).1 (fin' J).2 s' J.sub (fun c h1 h2=>J.new c h1 h2) Rp.non
  |bk env β'=>rw[q] at h;exact h.elim
  |ct env β'=>rw[q] at h;exact h.elim
  |rt d fr β'=>
   rw[q] at h
   refine fun B G' H' σ env v J s' rv=>h v G' H' (fin' J).1 (fin' J).2 s' J.sub (fun c h1 h2=>J.new c h1 h2) ?_
   cases fr with
   |true=>exact rv
   |false=>exact rv
  |exc c=>rw[q] at h;exact h.elim
  |bad=>rw[q] at h;exact h.elim
theorem tD {n p:Nat}{m:SF}(ds:List D)(β:Int)(h:tR n p m ds β≠.bad):ds.length=p:=by
 unfold tR at h
 by_cases hl:ds.length=p
 ·exact hl
 ·rw[if_neg hl] at h;exact absurd rfl h
end
end L2

end

section
namespace L2
open PySem PySem.Spec PyProof.Rows
def aY (p:Pr):D:=.tuple [.int p.1,.int p.2]
def pF:D->Option Pr
 | .tuple [.int a,.int b]=>some (a,b)
 |_=>none
theorem tK {d:D}{p:Pr}(h:pF d=some p):d=aY p:=by
 unfold pF at h
 split at h
 ·cases h;rfl
 ·cases h
theorem xW (p:Pr):pF (aY p)=some p:=rfl
def il:List D->Option (List Pr)
 | []=>some []
 |d :: ds=>match pF d,il ds with
  |some p,some ps=>some (p :: ps)
  |_,_=>none
theorem kA:∀{ds:List D} {ps:List Pr},il ds=some ps->ds=ps.map aY
 | [],ps,h=>by cases h;rfl
 |d :: ds,ps,h=>by
  unfold il at h
  split at h
  ·rename_i p qs h1 h2;cases h;rw[tK h1,kA h2];rfl
  ·cases h
theorem iw:∀ps:List Pr,il (ps.map aY)=some ps
 | []=>rfl
 |p :: ps=>by
  show (match pF (aY p),il (ps.map aY) with
   |some p,some ps=>some (p :: ps)
   |_,_=>none)=_
  rw[xW,iw ps]
section
variable {K:PySem.W.Frag}{X:Cx}{G H:Hp}
theorem cx.pairs:∀{ps:List Pr} {xs:List V},cx K G xs (ps.map aY)->a8 K G xs ps
 | [],_,.nil=>.nil
 |p :: ps,_,.cons r t=>by
  cases r with
  |tup hq r=>
   cases r with
   |cons r1 r=>
    cases r with
    |cons r2 r=>cases r;cases r1;cases r2;exact .cons ⟨_,rfl,hq⟩ (cx.pairs t)
theorem a8.rps:∀{ps:List Pr} {xs:List V},a8 K G xs ps->cx K G xs (ps.map aY)
 | [],_,.nil=>.nil
 |p :: ps,_,.cons r t=>by
  obtain⟨a,rfl,q⟩:=r
  exact .cons (.tup q (.cons (.int _) (.cons (.int _) .nil))) (a8.rps t)
def GO (p:Pr):Bool:=decide (0<=p.1) && decide (p.1 < 8) && decide (0<=p.2) && decide (p.2 < 8)
theorem DF {p:Pr}(h:GO p=true):Sm p:=by
 unfold GO at h
 simp only[Bool.and_eq_true,decide_eq_true_eq] at h
 exact⟨⟨h.1.1.1,h.1.1.2⟩,h.1.2,h.2⟩
variable {Γ:Fx}{E:XK}{e a b c:Expr}{f fa fb fc:VF D}{L La Lb:List Nat}{md ma mb mc:Md}{pos:Pos}
end
end L2

end

section
namespace L2
open PySem PySem.Spec PyProof.Rows
section
variable {K:PySem.W.Frag}{X:Cx}{G H:Hp}{Γ:Fx}{E:XK}{e a b c:Expr}{f fa fb fc:VF D}{L La Lb:List Nat}{md ma mb mc:Md}{pos apos cpos np:Pos}
def g8:D->Option D
 | .int n=>if 0<=n/\n<=1000 then some (.list (c8 0 n.toNat)) else none
 |_=>none
theorem yj (n:Nat):cx K G ((List.range n).map fun (i:Nat)=>V.int (i:Int)) (c8 0 n):=by
 have key:∀l:List Nat,cx K G (l.map fun (i:Nat)=>V.int (i:Int)) (l.map fun (k:Nat)=>PyData.int (0 + k)):=by
  intro l
  induction l with
  |nil=>exact .nil
  |cons x l ih=>exact .cons (by show Rp K G (.int (x:Int)) (.int (0 + (x:Int)));rw[Int.zero_add];exact .int _) ih
 exact key _
theorem oO {p1 p2 pos2:Pos}(hc:X.calm=true)(hg:Gl X "list")(hm:X.mg "list"=none)(hg2:Gl X "range")(hm2:X.mg "range"=none)(ha:SE X Γ E a fa La ma)
  (he:starEach [a] X.env=(false,eval a X.env) :: starEach [] X.env:=by rfl)
  (he2:starEach [.Call (.Name "range" p2) [a] [] pos2] X.env=(false,eval (.Call (.Name "range" p2) [a] [] pos2) X.env) :: starEach [] X.env:=by rfl) :
  SE X Γ E (.Call (.Name "list" p1) [.Call (.Name "range" p2) [a] [] pos2] [] pos) (f1 fa g8) La .w:=by
 refine PE.post' (jk (qc hc) hg hm (by decide +kernel) (aZ (jk y6 hg2 hm2 (by decide +kernel) (aZ ha bZ he) (by decide) (by decide) he) bZ he2) (by decide) (by decide) he2) fun σ H Q ⟨env,G,B,β,I,o⟩=>?_
 refine kG (r:=fun x H1 Q=>∃n:Int,[x]= [.int n]/\∀p,H1 p=none->(fun (y:V) (H2:Hp)=>∃(p:Addr) (n:Int),[y]= [V.ref p]/\H2 p=some (.bQ 0 n)/\0<=n/\n<=1000/\∀l,H2 l=none->Q (.ref l) (upd H2 l (.lst ((List.range n.toNat).map fun (i:Nat)=>V.int (i:Int))))) (V.ref p) (upd H1 p (.bQ 0 n))) ?_ I o
 intro B G H x dx d Q s hB bx e k
 cases dx with
 |int n=>
  obtain rfl:=bx.int
  simp only[g8] at e
  split at e
  ·rename_i hh
   cases e
   refine⟨n,rfl,fun p hp=>⟨p,n,rfl,aA,hh.1,hh.2,fun l hl=>?_⟩⟩
   have hlp:l≠p:=fun z=>by subst z;rw[aA] at hl;cases hl
   have hlH:H l=none:=by rw[aB hlp] at hl;exact hl
   have x1:=Ext.own s (o:=.bQ 0 n) hp
   have x2:=Ext.own x1.gh (o:=.lst ((List.range n.toNat).map fun (i:Nat)=>V.int (i:Int))) hl
   exact k _ _ _ (x1.trans x2) ⟨l,rfl,hlH,s.free hlH,_,aA,yj _⟩
  ·cases e
 |_=>cases e
noncomputable def jB (d:D):Option D:=match d with
 | .list ds=>(match il ds with
  |some ps=>if ps.all GO=true/\ps.Nodup/\ps.length < 64 then some (.list ((OM.gQ 8 (OM.Mem ps)).map aY)) else none
  |none=>none)
 |_=>none
theorem wJ:A9 K (fun x=>wI K [x]) jB .w:=by
 intro B G H x dx d Q s hB bx e k
 cases dx with
 |list ds=>
  simp only[jB] at e
  cases q2:il ds with
  |none=>rw[q2] at e;cases e
  |some ps=>
   rw[q2] at e
   dsimp only at e
   split at e
   ·rename_i hh
    obtain⟨h1,h2,h3⟩:=hh
    cases e
    obtain⟨p,xs,rfl,hq,r⟩:=bx.list s
    rw[kA q2] at r
    have pv:=(r.mono s).pairs
    have sm:∀p,p∈ps->Sm p:=fun p hp=>DF (List.all_eq_true.mp h1 p hp)
    refine⟨p,xs,ps,rfl,.inl hq,pv,sm,h2,h3,fun l ws rs hl hpw hr hmem=>?_⟩
    have ers:rs=OM.gQ 8 (OM.Mem ps):=OM.gE hr (OM.j8 _ _) fun x=>by
     rw[hmem x,OM.j6]
     constructor
     ·intro hx;have hs:=sm x hx;exact⟨⟨⟨hs.1.1,hs.1.2⟩,hs.2.1,hs.2.2⟩,hx⟩
     ·intro hx;exact hx.2
    subst ers
    have hh:aq H (upd H l (.lst ws)):=aq.new hl
    refine k _ _ _ (Ext.tups s hh) ⟨l,rfl,hl,?_,ws,aA,?_⟩
    ·unfold lL
     rw[s.free hl,aA]
     exact if_neg fun y=>y
    ·refine a8.rps (Paired.mapP hpw fun v p ⟨a,ea,qa⟩=>⟨a,ea,ot (s.trans hh) ?_⟩)
     exact qa.grow (hR.new hl)
   ·cases e
 |_=>cases e
def yk (ds:List D)(k:D):Option (D×List D):=match k with
 | .int i=>if -(2 ^ 63)<=i/\i < 2 ^ 63 then (match seqIndex? i ds.length with
  |some n=>(match ds[n]? with
   |some d=>some (d,ds.eraseIdx n)
   |none=>none)
  |none=>none) else none
 |_=>none
def jS (i j:Nat)(L:List Nat)(f:VF D):SF:=fun env β=>if sF env[i]? =true/\sF env[j]? =true/\i≠j then toS (f (vl env) β) fun k β'=>match (a9 L env)[j]? with
 |some (.ow (.list es))=>(match yk es k with
  |some (d,es')=>ET i ((a9 L env).set j (.ow (.list es'))) β' fun ds=>if ds.length < sizeLine then some (ds ++ [d]) else none
  |none=>.bad)
 |_=>.bad else .bad
theorem cx.eraseIdx:∀{xs:List V} {ds:List D} (i:Nat),cx K G xs ds->cx K G (xs.eraseIdx i) (ds.eraseIdx i)
 |_,_,_,.nil=>.nil
 |_,_,0,.cons _ t=>t
 |_,_,i + 1,.cons r t=>.cons r (cx.eraseIdx i t)
theorem yw (i j:Nat){x y:Str}{np2 apos2 cpos2:Pos}(hb:∀j,Γ.br j=false)(he:SE X Γ E e f L md)(hN:X.N[i]? =some x:=by rfl)(hv:yL X.env.scope x:=by first |exact Or.inl rfl |exact Or.inr (Or.inl rfl) |exact Or.inr (Or.inr rfl))(hd:(x == ("__debug__":Str))=false:=by decide)
  (hcd:(x == ("__classdict__":Str))=false:=by decide)
  (hN2:X.N[j]? =some y:=by rfl) (hv2:yL X.env.scope y:=by first |exact Or.inl rfl |exact Or.inr (Or.inl rfl) |exact Or.inr (Or.inr rfl)) (hd2:(y == ("__debug__":Str))=false:=by decide)
  (hcd2:(y == ("__classdict__":Str))=false:=by decide)
  (hbase:attributeBase (.Name x np) "append" X.env (eval (.Name x np) X.env)=eval (.Name x np) X.env:=by rfl)
  (hfew:((backTo cpos (starEach [.Call (.Attribute (.Name y np2) "pop" apos2) [e] [] cpos2] X.env)).all (fun x=> !x.1) && (backToKw cpos (keywordEach [] X.env)).all (fun x=>x.1.isSome)
   && decide ([Expr.Call (.Attribute (.Name y np2) "pop" apos2) [e] [] cpos2].length + ([]:List Keyword).length + (if ([]:List Keyword).isEmpty then 0 else 1) < 30))=true:=by rfl)
  (hline:(apos.endLine == cpos.line)=true:=by rfl) (hs:starEach [.Call (.Attribute (.Name y np2) "pop" apos2) [e] [] cpos2] X.env=(false,eval (.Call (.Attribute (.Name y np2) "pop" apos2) [e] [] cpos2) X.env) :: starEach [] X.env:=by rfl)
  (hbase2:attributeBase (.Name y np2) "pop" X.env (eval (.Name y np2) X.env)=eval (.Name y np2) X.env:=by rfl)
  (hfew2:((backTo cpos2 (starEach [e] X.env)).all (fun x=> !x.1) && (backToKw cpos2 (keywordEach [] X.env)).all (fun x=>x.1.isSome)
   && decide ([e].length + ([]:List Keyword).length + (if ([]:List Keyword).isEmpty then 0 else 1) < 30))=true:=by rfl)
  (hline2:(apos2.endLine == cpos2.line)=true:=by rfl) (hs2:starEach [e] X.env=(false,eval e X.env) :: starEach [] X.env:=by rfl)
  (hsw:swapsWith (.Call (.Attribute (.Name x np) "append" apos) [.Call (.Attribute (.Name y np2) "pop" apos2) [e] [] cpos2] [] cpos) none pos.line X.env=pure false:=by rfl) :
  SS X Γ E (.Expr (.Call (.Attribute (.Name x np) "append" apos) [.Call (.Attribute (.Name y np2) "pop" apos2) [e] [] cpos2] [] cpos) pos) (jS i j L f):=by
 refine PS.post (sJ (y1 PySem.F.plainAttrs_list PySem.F.slot_list_append PySem.F.type_list_append my (jP hN hv hd hcd)
  (aZ (y1 PySem.F.plainAttrs_list PySem.F.slot_list_pop PySem.F.type_list_pop Ab (jP hN2 hv2 hd2 hcd2) (aZ he bZ hs2) hbase2 hfew2 hline2 hs2 rfl) bZ hs) hbase hfew hline hs rfl) hsw) fun N σ H ⟨env,G,B,β,I,o⟩=>?_
 unfold jS at o
 by_cases hO:sF env[i]? =true/\sF env[j]? =true/\i≠j
 case neg=>rw[if_neg hO] at o;exact o.elim
 rw[if_pos hO] at o
 obtain⟨hO1,hO2,hij⟩:=hO
 obtain⟨ds0,q0⟩:=nM hO1
 obtain⟨es0,w0⟩:=nM hO2
 obtain⟨p,h1,_,_,_,xs,h5,_⟩:=I.slot i _ q0
 obtain⟨q,k1,_,_,_,ys,k5,_⟩:=I.slot j _ w0
 refine⟨_,h1,.inl ⟨rfl,xs,.inl (.inl h5)⟩,?_⟩
 refine⟨_,k1,.inl ⟨rfl,ys,.inl (.inl k5)⟩,?_⟩
 refine⟨env,G,B,β,I,cA o fun kd β' k v G' H' I' s' m' vo=>?_⟩
 cases ej:(a9 L env)[j]? with
 |none=>rw[ej] at k;exact k.elim
 |some sj=>
  rw[ej] at k
  cases sj with
  |ow dj=>
   cases dj with
   |list es=>
    dsimp only at k
    cases ep:yk es kd with
    |none=>rw[ep] at k;exact k.elim
    |some pr=>
     obtain⟨d,es'⟩:=pr
     rw[ep] at k
     dsimp only at k
     unfold yk at ep
     cases kd <;> first | (cases ep;done) |skip
     rename_i ii
     dsimp only at ep
     split at ep
     ·rename_i hr
      cases eI:seqIndex? ii es.length with
      |none=>rw[eI] at ep;cases ep
      |some n=>
       rw[eI] at ep
       dsimp only at ep
       cases eD:es[n]? with
       |none=>rw[eD] at ep;cases ep
       |some d0=>
        rw[eD] at ep
        cases ep
        obtain rfl:=(vo.brw I.boxThere).int
        obtain⟨q',g1,_,_,_,zs,g5,g6⟩:=I'.slot j _ ej
        rw[k1] at g1;cases g1
        obtain⟨xv,ex,rx⟩:=g6.at eD
        refine⟨q,zs,ii,n,xv,rfl,rfl,g5,hr.1,hr.2,by rw[g6.len];exact eI,ex,?_⟩
        have I2:=I'.write hb ej k1 (o:=.lst (zs.eraseIdx n)) (d':=.list (es.eraseIdx n)) fun H2 e2 s2=>⟨_,e2,g6.eraseIdx n⟩
        obtain⟨ds,fs,eq,eg,k⟩:=rM k
        by_cases hz:ds.length < sizeLine
        case neg=>rw[if_neg hz] at eg;cases eg
        rw[if_pos hz] at eg
        cases eg
        obtain⟨p',f1,_,_,_,us,f5,f6⟩:=I2.slot i _ eq
        rw[h1] at f1;cases f1
        refine⟨p,us,xv,rfl,rfl,f5,by rw[f6.len];exact hz,?_⟩
        exact k B G' _ σ (I2.write hb eq h1 fun H2 e2 s2=>⟨_,e2,f6.snoc rx⟩) s'
     ·cases ep
   |_=>exact k.elim
  |_=>exact k.elim
end
def ie:List D->Int->FB
 | [.int m],β=>if 0 < m/\m < 1073741824 then .ok (.int (β % m)) false (β / m) else .bad
 |_,_=>.bad
theorem xr {ds:List D}{β:Int}(h:ie ds β≠.bad):∃m,ds= [.int m]/\0 < m/\m < 1073741824:=by
 unfold ie at h
 split at h
 ·rename_i m
  by_cases hh:0 < m/\m < 1073741824
  ·exact⟨m,rfl,hh.1,hh.2⟩
  ·rw[if_neg hh] at h;exact absurd rfl h
 ·exact absurd rfl h
theorem sv {m β:Int}(h0:0 < m)(h1:m < 1073741824):ie [.int m] β=.ok (.int (β % m)) false (β / m):=if_pos ⟨h0,h1⟩
section
variable {P:Program}{w:World}{K:PySem.W.Frag}{mg:Str->Option Value}{base:Heap}
theorem Bd {X:Cx}{i j:Nat}{x y:Str}{px py pos:Pos}{k:Nat}(hN:X.N.Nodup)(hi:X.N[i]? =some x)(hj:X.N[j]? =some y)(hx:X.env.scope.names.lookup x=some .local)(hy:X.env.scope.names.lookup y=some .local)(hc:X.calm=true) :
  PG X (.Tuple [.Name x px,.Name y py] k pos) (Cf X.K 2 (nX (kW i) (nX (kW j) B3))):=
 mw hc (cO (c6 hN hi (Or.inl hx) (Or.inr hx)) (cO (c6 hN hj (Or.inl hy) (Or.inr hy)) kL))
theorem zz {b:Addr}{β m:Int}{H:Hp}{Q:VK}{G:Hp}(hb:H b=some (.lst [.int β]))(s:aq G H){p:Addr}(hp:H p=none)
  (kk:∀v G' H',iD (some b) H H'->H' b=some (.lst [.int (β / m)])->aq G G'->aq G' H'->(∀c,Mx H c->G c=none->G' c=none)->FV K H G' H' false (.int (β % m)) v->Q v H') (gb:G b=none) :
  Q (.int (β % m)) (upd (upd H p (.tup [.int (β / m),.int (β % m)])) b (.lst [.int (β / m)])):=by
 have hbp:b≠p:=aI hb hp
 refine kk _ G _ (fun c o e n=>?_) aA (aq.refl _) (fun c o e=>?_) (fun c _ h=>h) (.int _)
 ·rw[aB (fun z=>n (by rw[z])),aB (aI e hp)];exact e
 ·rw[aB (fun z=>by rw[z,gb] at e;cases e),aB (aI (s c o e) hp)];exact s c o e
end
end L2

end

section
namespace L2
open PySem PySem.SeqAt PySem.Spec PyProof.Rows
theorem sk {M:Model}{A:Around}{E:Value->Shared->Prop}{s:Shared}{β:Type}{b:Nat}(f:Nat->β->Sem (ForInStep β))(I:List Nat->β->Shared->Prop)(Q:β->Shared->Prop)
  (turn:∀x rest b s,I (x :: rest) b s->wpAny M A (f x b) (fun r s'=>match r with | .yield b'=>I rest b' s' | .done b'=>Q b' s') E s)
  (fin:∀b s,I [] b s->Q b s) (c:β) (h:I (List.range' 0 b) c s):wpAny M A (forIn [0:b] c f) Q E s:=by
 rw[Std.Legacy.Range.forIn_eq_forIn_range']
 simp only[Std.Legacy.Range.size,Nat.sub_zero,Nat.add_sub_cancel,Nat.div_one]
 exact wpAny_forIn_list f I Q turn fin _ c h
theorem pV (l:Addr)(items:Array Value)(n:Nat)(dd:Option Addr)(sl:Array (Option Value))(x:Value)(e:Value->Bool)(j:Nat)(hj:j < items.size)
  (hit:e items[j]=true) (hno:∀m (hm:m < items.size),m < j->e items[m]=false) :
  Meets (Builtin.«tuple.index» ⟨[.ref l,x],[]⟩)
   (fun A R s=>s.heap.get? l=some {cls:=.type "tuple",dict:=dd,data:=.seq items n,slots:=sl}/\(∀y,y∈items->EqAt A.in1 s y x (e y))/\R (.ok (.ret (.int j s.toks))) {s with toks:=s.toks + 1}):=
 .of_wp fun prog w A R s h=>by
  obtain⟨hp,g,d,tk,os⟩:=s;obtain⟨hl,he,h⟩:=h
  wp_walk using wpAny_loadPart' hl,sk _ (fun rest b s'=>b.1=none/\s'=⟨hp,g,d,tk,os⟩/\∃i,i<=j/\rest=List.range' i (items.size - i)) _
  case turn=>
   rintro y rest b s' ⟨hb,rfl,i,hi,hr⟩
   obtain⟨m,hm⟩:∃m,items.size - i=m + 1:=⟨items.size - i - 1,by omega⟩
   rw[hm,List.range'_succ] at hr
   obtain⟨rfl,rfl⟩:=List.cons.inj hr
   have hlt:y < items.size:=by omega
   have e1:items[y]? =some items[y]:=by simp[hlt]
   simp only[e1]
   refine wpAny_bind (he _ (Array.getElem_mem hlt) prog w _ _ ?_)
   by_cases z:y=j
   ·subst z
    rw[hit]
    wp_walk
    exact⟨_,rfl,h⟩
   ·rw[hno y hlt (by omega)]
    wp_walk
    exact⟨rfl,rfl,y + 1,by omega,by congr 1;omega⟩
  case fin=>
   rintro b s' ⟨hb,rfl,i,hi,hr⟩
   obtain⟨m,hm⟩:∃m,items.size - i=m + 1:=⟨items.size - i - 1,by omega⟩
   rw[hm,List.range'_succ] at hr
   cases hr
  case h=>
   exact⟨rfl,rfl,0,Nat.zero_le _,by rw[Nat.min_self];rfl⟩
section
variable {K:PySem.W.Frag}{X:Cx}{G H:Hp}{Γ:Fx}{E:XK}{e a b c:Expr}{f fa fb fc:VF D}{L La Lb:List Nat}{md ma mb mc:Md}{pos apos cpos np:Pos}
def vD (k:Int):Value->Bool
 | .int i _=>i == k
 |_=>false
theorem lx {k:Int}:∀{ns:List Int} {us:List Value} (i:Nat) (h:i < us.length) (h2:i < ns.length),Vals (ns.map V.int) us->vD k us[i]=(ns[i] == k)
 | [],_,_,_,h2,_=>absurd h2 (Nat.not_lt_zero _)
 |n :: ns,_,0,_,_,.cons r _=>by obtain⟨t,rfl⟩:=r;rfl
 |n :: ns,_,i + 1,h,h2,.cons _ rs=>lx i (Nat.lt_of_succ_lt_succ h) (Nat.lt_of_succ_lt_succ h2) rs
theorem sS {k:Int}{t:Tok}(A:Around)(s:Shared):∀{ns:List Int} {us:List Value},Vals (ns.map V.int) us->∀y∈us,EqAt A s y (.int k t) (vD k y)
 | [],_,.nil,y,hy=>by cases hy
 |n :: ns,_,.cons r rs,y,hy=>by
  rcases List.mem_cons.mp hy with z |z
  ·subst z;obtain⟨t',rfl⟩:=r;exact EqAt.int_int n t' k t
  ·exact sS A s rs y z
def BS (K:PySem.W.Frag):V->List V->Hp->VK->Prop:=fun x vs H Q=>∃(a:Addr) (ns:List Int) (k:Int),x=.ref a/\vs= [.int k]/\eh K H a (ns.map V.int)/\k∈ns/\Q (.int (ns.idxOf k:Nat)) H
theorem yA:Hm X "tuple.index" (BS X.K):=by
 intro pins s σ H x vs v us Q I rx rv h
 obtain⟨a,ns,k,rfl,rfl,hq,hk,q⟩:=h
 cases rx
 obtain⟨u,rfl,ru⟩:=vals1 rv
 obtain⟨t,rfl⟩:=ru
 obtain⟨its,rs,pl,hz⟩:=I.tuple hq
 obtain⟨⟨cls,dd,data,sl⟩,ho,hc,n,hd⟩:=id pl
 simp only at hc hd
 subst hc hd
 have hj:ns.idxOf k < ns.length:=List.idxOf_lt_length_iff.mpr hk
 have hlen:its.length=ns.length:=by rw[<-rs.length,List.length_map]
 refine call_meets PySem.F.slot_tuple_index ⟨_,ho,rfl⟩ PySem.F.entry_tuple_index (PySem.F.args_tuple_index_2 _ _)
  (pV a its.toArray n dd sl (.int k t) (vD k) (ns.idxOf k) (by simpa[hlen] using hj) ?_ ?_) ⟨ho,fun y hy=>sS _ _ rs y (by simpa using hy),?_⟩
 ·have:=lx (k:=k) (ns.idxOf k) (by omega) hj rs
  simpa[List.getElem_idxOf hj] using this
 ·intro m hm hlt
  have hm':m < ns.length:=by simpa[hlen] using hm
  have hne:ns[m]≠k:=fun z=>by
   have:=List.not_of_lt_findIdx (p:=(· == k)) hlt
   simp[z] at this
  have:=lx (k:=k) m (by omega) hm' rs
  rw[beq_eq_false_iff_ne.mpr hne] at this;simpa using this
 ·exact⟨.int (ns.idxOf k:Nat),H,I.tok _,⟨_,rfl⟩,q⟩
theorem Inv.tupleP {pins:List (Addr×Obj)}{σ:St}{s:Shared}{p:Addr}{xs:List V}(I:Inv X pins σ H s)(h:eh X.K H p xs):s.TypeIs (.ref p) "tuple"/\∀a,Value.ref p=.ref a->∃ob,s.heap.get? a=some ob/\ob.dict=none:=by
 rcases h with h | ⟨o,its,n,hk,hc,hs,hz,r,hd⟩
 ·obtain⟨_,_,_,o,e,c,n,d,hd⟩:=h.ok I.hok
  exact⟨⟨o,e,c⟩,fun a z=>by cases z;exact⟨o,e,hd⟩⟩
 ·exact⟨⟨o,I.kIn p o hk,hc⟩,fun a z=>by cases z;exact⟨o,I.kIn p o hk,hd⟩⟩
def Ir (K:PySem.W.Frag)(r:V->List V->Hp->VK->Prop)(to:TE)(t:TA):TE:=fun σ H Q=>to σ H fun x H1=>(∃p xs,x=.ref p/\eh K H1 p xs)/\t σ H1 fun xs H2=>r x xs H2 Q
theorem Ew {o e:Expr}{es:List Expr}{to:TE}{t:TA}{name:Str}{apos cpos:Pos}{id:String}{r:V->List V->Hp->VK->Prop}(slot:Slot "tuple" name id)(hty:typeOf (.builtin id)=pure (.type "method_descriptor"))(hm:Hm X id r)(ho:PE X o to)(ha:PA X (e :: es) t)
  (hbase:attributeBase o name X.env (eval o X.env)=eval o X.env:=by rfl)
  (hfew:((backTo cpos (starEach (e :: es) X.env)).all (fun x=> !x.1) && (backToKw cpos (keywordEach [] X.env)).all (fun x=>x.1.isSome)
   && decide ((e :: es).length + ([]:List Keyword).length + (if ([]:List Keyword).isEmpty then 0 else 1) < 30))=true:=by rfl)
  (hline:(apos.endLine == cpos.line)=true:=by rfl) (hs:starEach (e :: es) X.env=(false,eval e X.env) :: starEach es X.env:=by rfl) (hplain:(backTo cpos (starEach es X.env)).any (·.1)=false:=by rfl) :
  PE X (.Call (.Attribute o name apos) (e :: es) [] cpos) (Ir X.K r to t):=by
 intro pins s σ H Q I h
 refine wpAny_Call_method_late hbase hfew hline rfl (cZ (ho pins s σ H _ I h) fun v s1 ⟨x,H1,I1,r1,⟨p,ys,ex,hr⟩,q1⟩=>?_)
 subst ex
 cases r1
 obtain⟨h1,h2⟩:=I1.tupleP hr
 refine⟨"tuple",id,PySem.F.plainAttrs_tuple,slot,hty,h1,h2,?_⟩
 have hA:=ha cpos pins s1 σ H1 _ I1 q1
 rw[hs] at hA ⊢
 refine Calls.callWith_builtin (by show (false || (backTo cpos (starEach es X.env)).any (·.1))=false;rw[hplain] <;> rfl) (Calls.evalArgs_plain ?_)
 exact cZ hA fun us s2 ⟨vs,H2,I2,r2,q2⟩=>hm pins s2 σ H2 (.ref p) vs (.ref p) us Q I2 rfl r2 q2
def iB:List D->Option (List Int)
 | []=>some []
 | .int i :: ds=>(iB ds).map (i :: ·)
 |_=>none
theorem lM:∀{ds:List D} {ns:List Int},iB ds=some ns->ds=ns.map PyData.int
 | [],ns,h=>by cases h;rfl
 | .int i :: ds,ns,h=>by
  unfold iB at h
  cases q:iB ds with
  |none=>rw[q] at h;cases h
  |some ms=>rw[q] at h;cases h;rw[lM q];rfl
 | .none :: _,_,h=>by cases h
 | .bool _ :: _,_,h=>by cases h
 | .str _ :: _,_,h=>by cases h
 | .list _ :: _,_,h=>by cases h
 | .tuple _ :: _,_,h=>by cases h
 | .dict _ :: _,_,h=>by cases h
theorem gV:∀ns:List Int,iB (ns.map PyData.int)=some ns
 | []=>rfl
 |n :: ns=>by show (iB (ns.map PyData.int)).map (n :: ·)=_;rw[gV ns];rfl
theorem pz:∀{ns:List Int} {xs:List V},cx K G xs (ns.map PyData.int)->xs=ns.map V.int
 | [],_,.nil=>rfl
 |n :: ns,_,.cons r t=>by cases r;rw[pz t];rfl
def Bx (d y:D):Option D:=match d,y with
 | .tuple ds,.int k=>(match iB ds with
  |some ns=>if k∈ns then some (.int (ns.idxOf k:Nat)) else none
  |none=>none)
 |_,_=>none
def xy:D->Bool
 | .tuple _=>true
 |_=>false
def l8 (fa fb:VF D):VF D:=fun vs β=>(fa vs β).bnd fun x β1=>if xy x=true then (fb vs β1).bnd fun y β2=>R.of (Bx x y) β2 else .bad
theorem og (hK:X.K=Γ.K)(ha:SE X Γ E a fa La ma)(hb:SE X Γ E b fb Lb mb)
  (hbase:attributeBase a "index" X.env (eval a X.env)=eval a X.env:=by rfl)
  (hfew:((backTo cpos (starEach [b] X.env)).all (fun x=> !x.1) && (backToKw cpos (keywordEach [] X.env)).all (fun x=>x.1.isSome)
   && decide ([b].length + ([]:List Keyword).length + (if ([]:List Keyword).isEmpty then 0 else 1) < 30))=true:=by rfl)
  (hline:(apos.endLine == cpos.line)=true:=by rfl) (hs:starEach [b] X.env=(false,eval b X.env) :: starEach [] X.env:=by rfl) :
  SE X Γ E (.Call (.Attribute a "index" apos) [b] [] cpos) (l8 fa fb) (La ++ Lb) .v:=by
 refine PE.post' (Ew PySem.F.slot_tuple_index PySem.F.type_tuple_index yA ha (aZ hb bZ hs) hbase hfew hline hs rfl) fun σ H Q ⟨env,G,B,β,I,o⟩=>?_
 refine⟨env,G,B,β,I,o.bnd.imp fun d1 β1 h x G1 H1 I1 s1 m1 vx=>?_⟩
 have vx:=vx.brw I.boxThere
 cases d1 with
 |tuple ds=>
  rw[if_pos (show xy (.tuple ds)=true from rfl)] at h
  obtain⟨p,xs,rfl,hq,r⟩:=vx.tuple I1.sub
  refine⟨⟨p,xs,rfl,by rw[hK];exact hq⟩,?_⟩
  refine⟨a9 La env,G1,B,β1,I1,?_⟩
  rw[eO]
  refine h.bnd.imp fun d2 β2 h y G2 H2 I2 s2 m2 vy=>?_
  obtain⟨d,e,k⟩:=h.of
  have vy:=vy.brw I1.boxThere
  cases d2 with
  |int kk=>
   obtain rfl:=vy.int
   simp only[Bx] at e
   cases q:iB ds with
   |none=>rw[q] at e;cases e
   |some ns=>
    rw[q] at e
    dsimp only at e
    split at e
    ·rename_i hk
     cases e
     have eds:=lM q
     subst eds
     have exs:=pz r
     subst exs
     have hq2:eh X.K H2 p (ns.map V.int):=by
      rw[hK]
      rcases hq with hq |hq
      ·rcases vx with vx | ⟨_,_,_,vx⟩
       ·cases vx with
        |tup g1 r9=>have z9:=pz r9;subst z9;exact (g1.grow (s2.trans I2.sub).grow)
       ·exact vx.elim
      ·exact .inr hq
     exact⟨p,ns,kk,rfl,rfl,hq2,hk,k _ G2 H2 (by rw[cz];exact I2) (s1.trans s2) (m1.trans m2) (.int _)⟩
    ·cases e
  |_=>simp only[Bx] at e;cases e
 |_=>exact h.elim
abbrev Fx.at (Γ:Fx)(H0:Hp):Fx:=⟨Γ.K,H0,Γ.G0,Γ.par,Γ.ca,Γ.br,Γ.bx⟩
end
end L2

end

section

end

section
namespace L2
open PySem PySem.Spec PyProof.Rows
def qU:En->Bool
 | []=>true
 | .no :: env=>qU env
 | .fz _ :: env=>qU env
 |_=>false
theorem kK:∀{env:En} {i:Nat} {s:Sl},qU env=true->env[i]? =some s->s=.no\/∃d,s=.fz d
 | [],_,_,_,e=>by simp at e
 | .no :: env,0,_,_,e=>by simp at e;exact .inl e.symm
 | .fz d :: env,0,_,_,e=>by simp at e;exact .inr ⟨d,e.symm⟩
 | .no :: env,i + 1,s,h,e=>kK (env:=env) h (by simpa using e)
 | .fz d :: env,i + 1,s,h,e=>kK (env:=env) h (by simpa using e)
 | .ow _ :: _,_,_,h,_=>by cases h
 | .br _ :: _,_,_,h,_=>by cases h
 | .bx :: _,_,_,h,_=>by cases h
section
variable {X:Cx}{Γ:Fx}{E:XK}{m:SF}
theorem SR.drop {B:Option Addr}{G H:Hp}{σ:St}{env:En}{β:Int}(I:SR Γ B G H σ env β)(hf:qU env=true):SR (Fx.fn Γ.K H G Γ.ca) none G H σ env 0:=by
 refine⟨I.sub,aq.refl _,fun b _ h=>h,fun b o h _=>h,fun b h=>(by cases h),fun b h=>(by cases h),fun b h=>(by cases h),I.len,fun i s e=>?_,fun i j a d e h=>?_⟩
 ·rcases kK hf e with rfl | ⟨d,rfl⟩
  ·trivial
  ·exact I.slot i _ e
 ·rcases kK hf h with z | ⟨_,z⟩ <;> cases z
end
end L2

end

section

end

section
namespace L2
open PySem
section
variable {α γ:Type}
@[simp] theorem n5 (a:α)(β:Int)(k:α->Int->R γ):(R.ok a β).bnd k=k a β:=rfl
@[simp] theorem Hl (c:Str)(k:α->Int->R γ):(R.exc c:R α).bnd k=.exc c:=rfl
@[simp] theorem G6 (k:α->Int->R γ):(R.bad:R α).bnd k=.bad:=rfl
@[simp] theorem IA (a:α)(β:Int)(k:α->Int->R γ):(R.ok a β).okb k=k a β:=rfl
@[simp] theorem sx (a:α)(β:Int):R.of (some a) β=.ok a β:=rfl
@[simp] theorem of_none (β:Int):(R.of none β:R α)=.bad:=rfl
@[simp] theorem HL (a:α)(β:Int)(k:α->Int->SO):toS (.ok a β) k=k a β:=rfl
@[simp] theorem Hd (c:Str)(k:α->Int->SO):toS (.exc c:R α) k=.exc c:=rfl
@[simp] theorem Hh (k:α->Int->SO):toS (.bad:R α) k=.bad:=rfl
end
section
variable (f fa fb fc:VF D)(t u:VF Bool)(m m':SF)(vs:List Nv)(β:Int)(env:En)(i j:Nat)(L:List Nat)
@[simp] theorem Du:gv i vs β=R.of (dat vs[i]?) β:=rfl
@[simp] theorem vd (d:D):dat (some (.da d))=some d:=rfl
@[simp] theorem Iq (d:D):cst d vs β=.ok d β:=rfl
@[simp] theorem IG (g:D->Option D):f1 fa g vs β=(fa vs β).bnd fun x β1=>R.of (g x) β1:=rfl
@[simp] theorem II (g:D->D->Option D):f2 fa fb g vs β=(fa vs β).bnd fun x β1=>(fb vs β1).bnd fun y β2=>R.of (g x y) β2:=rfl
@[simp] theorem wU:au vs β=.ok [] β:=rfl
@[simp] theorem cP (fr:VF (List D)):ae fa fr vs β=(fa vs β).bnd fun x β1=>(fr vs β1).bnd fun xs β2=>.ok (x :: xs) β2:=rfl
@[simp] theorem rZ:kR fa vs β=(fa vs β).bnd fun x β1=>R.of (El x) β1:=rfl
@[simp] theorem oB:nC t vs β=(t vs β).bnd fun c β1=>.ok (!c) β1:=rfl
@[simp] theorem Ex:CJ t u vs β=(t vs β).bnd fun c β1=>if c=true then u vs β1 else .ok false β1:=rfl
@[simp] theorem qZ:kT t u vs β=(t vs β).bnd fun c β1=>if c=true then .ok true β1 else u vs β1:=rfl
@[simp] theorem IJ (n:Bool):tN fa n vs β=(fa vs β).bnd fun x β1=>.ok (if n then !Cu x else Cu x) β1:=rfl
@[simp] theorem Ej:HK t fa fb vs β=(t vs β).bnd fun c β1=>if c=true then fa vs β1 else fb vs β1:=rfl
@[simp] theorem ja (c:Bool){β1:Int}(h:fa vs β=.ok (.bool c) β1):jh fa vs β=.ok c β1:=by unfold jh;rw[h];rfl
@[simp] theorem uU:vl []= []:=rfl
@[simp] theorem r6 (s:Sl):vl (s :: env)=s.val :: vl env:=rfl
@[simp] theorem vm (d:D):(Sl.fz d).val=.da d:=rfl
@[simp] theorem HB (d:D):(Sl.ow d).val=.da d:=rfl
@[simp] theorem HS:Sl.no.val=.no:=rfl
@[simp] theorem Hr:Sl.bx.val=.bx:=rfl
@[simp] theorem Hi:a9 [] env=env:=rfl
@[simp] theorem GX:a9 (i :: L) env=a9 L (fZ env i):=rfl
@[simp] theorem GY:aO m m' env β=(match m env β with
 | .nx env' β'=>m' env' β'
 |r=>r):=rfl
@[simp] theorem Hy:jz L t m m' env β=toS (t (vl env) β) fun c β'=>if c=true then m (a9 L env) β' else m' (a9 L env) β':=rfl
@[simp] theorem iS:b4 f env β=toS (f (vl env) β) fun d β'=>.rt d false β':=rfl
@[simp] theorem Aq:kX f env β=toS (f (vl env) β) fun d β'=>.rt d true β':=rfl
@[simp] theorem Ie:kz env β=.nx env β:=rfl
@[simp] theorem fD:cy i L f env β=toS (f (vl env) β) fun d β'=>.nx ((a9 L env).set i (.fz d)) β':=rfl
@[simp] theorem o8:om i L f env β=toS (f (vl env) β) fun d β'=>.nx ((a9 L env).set i (.ow d)) β':=rfl
@[simp] theorem gf:eH L f env β=toS (f (vl env) β) fun _ β'=>.nx (a9 L env) β':=rfl
end
theorem aJ {m m':SF}{env env':En}{β β':Int}(h:m env β=.nx env' β'):aO m m' env β=m' env' β':=by unfold aO;rw[h]
theorem kF {m m':SF}{env:En}{β β':Int}{d:D}{b:Bool}(h:m env β=.rt d b β'):aO m m' env β=.rt d b β':=by unfold aO;rw[h]
theorem jZ {L:List Nat}{t:VF Bool}{m m':SF}{env:En}{β β':Int}(h:t (vl env) β=.ok true β'):jz L t m m' env β=m (a9 L env) β':=by unfold jz;rw[h];rfl
theorem gA {L:List Nat}{t:VF Bool}{m m':SF}{env:En}{β β':Int}(h:t (vl env) β=.ok false β'):jz L t m m' env β=m' (a9 L env) β':=by unfold jz;rw[h];rfl
theorem av {F:List D->FR}{fr:VF (List D)}{vs:List Nv}{β β1:Int}{ds:List D}{d:D}{b:Bool}(h:fr vs β=.ok ds β1)(e:F ds=.ok d b):az F fr vs β=.ok d β1:=by unfold az;rw[h];dsimp only[R.bnd];rw[e]
theorem y0 {F:List D->FR}{fr:VF (List D)}{vs:List Nv}{β β1:Int}{ds:List D}{d:D}(h:fr vs β=.ok ds β1)(e:F ds=.ok d true):uC F fr vs β=.ok d β1:=by unfold uC;rw[h];dsimp only[R.bnd];rw[e]
theorem bJ {fa:VF D}{g:D->Option D}{vs:List Nv}{β β1:Int}{x d:D}(h:fa vs β=.ok x β1)(e:g x=some d):f1 fa g vs β=.ok d β1:=by unfold f1;rw[h];dsimp only[R.bnd];rw[e];rfl
theorem aG {fa fb:VF D}{g:D->D->Option D}{vs:List Nv}{β β1 β2:Int}{x y d:D}(h:fa vs β=.ok x β1)(h':fb vs β1=.ok y β2)(e:g x y=some d):f2 fa fb g vs β=.ok d β2:=by unfold f2;rw[h];dsimp only[R.bnd];rw[h'];dsimp only[R.bnd];rw[e];rfl
theorem jL {i:Nat}{F:List D->Int->FB}{fr:VF (List D)}{vs:List Nv}{β β1 β2:Int}{ds:List D}{d:D}{b:Bool}(hi:vQ vs i=true)(h:fr vs β=.ok ds β1)(e:F ds β1=.ok d b β2):qQ i F fr vs β=.ok d β2:=by unfold qQ;rw[if_pos hi,h];dsimp only[R.bnd];rw[e]
theorem sz (n:Nat)(h:n<=1000):n<=sizeLine:=by rw[sizeLine_eq];omega
theorem Gn (n:Nat)(h:n<=1000):n < sizeLine:=by rw[sizeLine_eq];omega
theorem kx {fr:VF (List D)}{vs:List Nv}{β β1:Int}{ds:List D}(h:fr vs β=.ok ds β1)(hz:ds.length<=1000):de fr vs β=.ok (.tuple ds) β1:=by unfold de;rw[h];exact if_pos (sz _ hz)
theorem fE {fr:VF (List D)}{vs:List Nv}{β β1:Int}{ds:List D}(h:fr vs β=.ok ds β1)(hz:ds.length<=1000):dY fr vs β=.ok (.list ds) β1:=by unfold dY;rw[h];exact if_pos (sz _ hz)
theorem vT {i:Nat}{env:En}{β:Int}{g:List D->Option (List D)}{ds es:List D}(h:env[i]? =some (.ow (.list ds)))(e:g ds=some es):ET i env β g=.nx (env.set i (.ow (.list es))) β:=by unfold ET;rw[h];dsimp only;rw[e]
theorem xk {i:Nat}{L:List Nat}{f:VF D}{env:En}{β β':Int}{ds:List D}{d:D}(hi:env[i]? =some (.ow (.list ds)))(hf:f (vl env) β=.ok d β')(hL:(a9 L env)[i]? =some (.ow (.list ds)))(hz:ds.length<=1000):nr i L f env β=.nx ((a9 L env).set i (.ow (.list (ds ++ [d])))) β':=by
 unfold nr
 rw[if_pos (by rw[hi];rfl),hf]
 exact vT hL (if_pos (Gn _ hz))
theorem vq {i j:Nat}{L:List Nat}{f:VF D}{env:En}{β β':Int}{ds es es':List D}{k d:D}(hi:env[i]? =some (.ow (.list ds)))(hj:env[j]? =some (.ow (.list es)))(hij:i≠j)(hf:f (vl env) β=.ok k β')(hL:a9 L env=env)(hp:yk es k=some (d,es'))(hz:ds.length<=1000):jS i j L f env β=.nx ((env.set j (.ow (.list es'))).set i (.ow (.list (ds ++ [d])))) β':=by
 unfold jS
 rw[if_pos ⟨by rw[hi];rfl,by rw[hj];rfl,hij⟩,hf,hL]
 dsimp only[toS]
 rw[hj]
 dsimp only
 rw[hp]
 exact vT (by rw[List.getElem?_set_ne (Ne.symm hij)];exact hi) (if_pos (Gn _ hz))
theorem Az {i:Nat}{Le Li:List Nat}{fe fi:VF D}{env:En}{β β1 β2:Int}{ds:List D}{d:D}{k:Int}{n:Nat}(he:fe (vl env) β=.ok d β1)(h1:(a9 Le env)[i]? =some (.ow (.list ds)))(hi:fi (vl env) β1=.ok (.int k) β2)(h2:(a9 (Le ++ Li) env)[i]? =some (.ow (.list ds)))(hk:uF ds.length k=some n):sW i Le Li fe fi env β=.nx ((a9 (Le ++ Li) env).set i (.ow (.list (ds.set n d)))) β2:=by
 unfold sW
 rw[he]
 dsimp only[toS]
 rw[if_pos (by rw[h1];rfl),hi]
 exact vT h2 (by dsimp only;rw[hk];rfl)
theorem oZ {t:Tg}{ft:VF Bool}{fe:VF D}{vs:List Nv}(g:D->Bool)(h:D->D):∀{ds:List D} {β:Int},(∀d,d∈ds->∃vs1,k8 t d vs=some vs1/\ft vs1 β=.ok (g d) β/\(g d=true->fe vs1 β=.ok (h d) β))->fT t ft fe vs ds β=.ok ((ds.filter g).map h) β
 | [],β,_=>rfl
 |d :: ds,β,hh=>by
  obtain⟨vs1,e1,e2,e3⟩:=hh d (List.mem_cons_self ..)
  have ih:=oZ (t:=t) (ft:=ft) (fe:=fe) (vs:=vs) g h (ds:=ds) (β:=β) fun d' hd=>hh d' (List.mem_cons_of_mem _ hd)
  unfold fT
  rw[e1]
  dsimp only
  rw[e2]
  dsimp only[R.okb]
  cases q:g d with
  |true=>
   rw[if_pos rfl,e3 q]
   dsimp only
   rw[ih,List.filter_cons_of_pos q];rfl
  |false=>
   rw[if_neg Bool.false_ne_true,ih,List.filter_cons_of_neg (by rw[q];exact Bool.false_ne_true)]
theorem vI {own:Nat}{ixs:List Nat}{t:Tg}{fi:VF (List D)}{ft:VF Bool}{fe:VF D}{vs:List Nv}{β β1:Int}{ds:List D}(g:D->Bool)(h:D->D)(hi:fi vs β=.ok ds β1)(hz:ds.length<=1000)
  (hh:∀d,d∈ds->∃vs1,k8 t d (fj own ixs vs)=some vs1/\ft vs1 β1=.ok (g d) β1/\(g d=true->fe vs1 β1=.ok (h d) β1)):aU own ixs t fi ft fe vs β=.ok (.list ((ds.filter g).map h)) β1:=by
 unfold aU
 rw[hi]
 dsimp only[R.bnd]
 rw[if_pos (sz _ hz),oZ g h hh];rfl
theorem mG {own:Nat}{ixs:List Nat}{t:Tg}{fi:VF (List D)}{fe:VF D}{vs:List Nv}{β β1:Int}{ds:List D}(h:D->D)(hi:fi vs β=.ok ds β1)(hz:ds.length<=1000)
  (hh:∀d,d∈ds->∃vs1,k8 t d (fj own ixs vs)=some vs1/\fe vs1 β1=.ok (h d) β1):aU own ixs t fi ij fe vs β=.ok (.list (ds.map h)) β1:=by
 rw[vI (ft:=ij) (fun _=>true) h hi hz fun d hd=>let ⟨vs1,e1,e2⟩:=hh d hd;⟨vs1,e1,rfl,fun _=>e2⟩]
 rw[List.filter_eq_self.mpr (fun _ _=>rfl)]
theorem bA {α:Type}{own:Nat}{ixs:List Nat}{t:Tg}{fi:VF (List D)}{fe:VF D}{vs:List Nv}{β β1:Int}{l:List α}{e:α->D}(h:α->D)(hi:fi vs β=.ok (l.map e) β1)(hz:l.length<=1000)
  (hh:∀x,x∈l->∃vs1,k8 t (e x) (fj own ixs vs)=some vs1/\fe vs1 β1=.ok (h x) β1):aU own ixs t fi ij fe vs β=.ok (.list (l.map h)) β1:=by
 unfold aU
 rw[hi]
 dsimp only[R.bnd]
 rw[if_pos (sz _ (by rw[List.length_map];exact hz))]
 have key:∀m:List α,(∀x,x∈m->x∈l)->fT t ij fe (fj own ixs vs) (m.map e) β1=.ok (m.map h) β1:=by
  intro m
  induction m with
  |nil=>intro _;rfl
  |cons x m ih=>
   intro hm
   obtain⟨vs1,e1,e2⟩:=hh x (hm x (List.mem_cons_self ..))
   rw[List.map_cons]
   unfold fT
   rw[e1]
   dsimp only
   show (R.ok true β1).okb _=_
   dsimp only[R.okb]
   rw[if_pos rfl,e2]
   dsimp only
   rw[ih fun y hy=>hm y (List.mem_cons_of_mem _ hy)];rfl
 rw[key l fun _ h=>h];rfl
theorem u4 {α:Type}{own:Nat}{ixs:List Nat}{t:Tg}{fi:VF (List D)}{ft:VF Bool}{fe:VF D}{vs:List Nv}{β β1:Int}{l:List α}{e:α->D}(g:α->Bool)(h:α->D)(hi:fi vs β=.ok (l.map e) β1)(hz:l.length<=1000)
  (hh:∀x,x∈l->∃vs1,k8 t (e x) (fj own ixs vs)=some vs1/\ft vs1 β1=.ok (g x) β1/\(g x=true->fe vs1 β1=.ok (h x) β1)):aU own ixs t fi ft fe vs β=.ok (.list ((l.filter g).map h)) β1:=by
 unfold aU
 rw[hi]
 dsimp only[R.bnd]
 rw[if_pos (sz _ (by rw[List.length_map];exact hz))]
 have key:∀m:List α,(∀x,x∈m->x∈l)->fT t ft fe (fj own ixs vs) (m.map e) β1=.ok ((m.filter g).map h) β1:=by
  intro m
  induction m with
  |nil=>intro _;rfl
  |cons x m ih=>
   intro hm
   obtain⟨vs1,e1,e2,e3⟩:=hh x (hm x (List.mem_cons_self ..))
   have ih:=ih fun y hy=>hm y (List.mem_cons_of_mem _ hy)
   rw[List.map_cons]
   unfold fT
   rw[e1]
   dsimp only
   rw[e2]
   dsimp only[R.okb]
   cases q:g x with
   |true=>
    rw[if_pos rfl,e3 q]
    dsimp only
    rw[ih,List.filter_cons_of_pos q];rfl
   |false=>
    rw[if_neg Bool.false_ne_true,ih,List.filter_cons_of_neg (by rw[q];exact Bool.false_ne_true)]
 rw[key l fun _ h=>h];rfl
theorem dD {t:Tg}{m:SF}(Pv:Nat->En->Int->Prop):∀{ds:List D} {k:Nat} {env:En} {β:Int},Pv k env β->
  (∀i d env β,ds[i]? =some d->Pv (k + i) env β->∃env1,dW t d env=some env1/\∃env2 β2,m env1 β=.nx env2 β2/\Pv (k + i + 1) env2 β2)->∃env' β',sC t m ds env β=.nx env' β'/\Pv (k + ds.length) env' β'
 | [],k,env,β,h0,_=>⟨env,β,rfl,h0⟩
 |d :: ds,k,env,β,h0,hs=>by
  obtain⟨env1,e1,env2,β2,e2,h1⟩:=hs 0 d env β rfl h0
  obtain⟨env',β',e3,h2⟩:=dD Pv (t:=t) (m:=m) (ds:=ds) (k:=k + 1) h1 fun i d' en be hi hp=>by
   have:=hs (i + 1) d' en be (by simpa using hi) (by rw[show k + (i + 1)=k + 1 + i by omega];exact hp)
   rw[show k + (i + 1) + 1=k + 1 + i + 1 by omega] at this
   exact this
  refine⟨env',β',?_,by rw[List.length_cons,show k + (ds.length + 1)=k + 1 + ds.length by omega];exact h2⟩
  unfold sC
  rw[e1]
  dsimp only
  rw[e2]
  exact e3
theorem nY {L:List Nat}{t:VF Bool}{m:SF}(Pv:Nat->En->Int->Prop)(Dn:En->Int->Prop):∀{n k:Nat} {env:En} {β:Int},k < n->Pv k env β->
  (∀k env β,Pv k env β->∃c β1,t (vl env) β=.ok c β1/\((c=false/\Dn (a9 L env) β1)\/(c=true/\∃env2 β2 k',m (a9 L env) β1=.nx env2 β2/\k' < k/\Pv k' env2 β2)))->∃env' β',j7 L t m n env β=.nx env' β'/\Dn env' β'
 | 0,k,env,β,hk,_,_=>by omega
 |n + 1,k,env,β,hk,h0,hs=>by
  obtain⟨c,β1,e1,hc⟩:=hs k env β h0
  unfold j7
  rw[e1]
  dsimp only[toS]
  rcases hc with⟨rfl,hd⟩ | ⟨rfl,env2,β2,k',e2,hl,h1⟩
  ·exact⟨_,_,rfl,hd⟩
  ·rw[if_pos rfl,e2]
   exact nY Pv Dn (n:=n) (k:=k') (by omega) h1 hs
end L2

end

section
namespace RM
open PySem L2
def pk:SF:=(b4 (hX (f1 (gv 0) (gq "int")) (f1 (f1 (gv 0) (gq "bool")) xZ)))
def pA (b5:List D->FR):SF:=(b4 (hX (az b5 (ae (gv 0) au)) (jQ (cst (.int 0)) (gv 0) (gv 1) zA sO)))
def qx (b5:List D->FR):SF:=(b4 (hX (az b5 (ae (gv 0) au)) (jQ (cst (.int 1)) (gv 0) (cst (.int 8)) zA zA)))
def qp (ba:List D->FR):SF:=(aO (jz ([] ++ ([] ++ [])) (kT (nC (kR (f1 (gv 0) (gq "tuple")))) (jh (f2 (f1 (gv 0) bS) (cst (.int 2)) (gu true))))
 (b4 (cst (.bool false)))
 kz)
 (b4 (hX (az ba (ae (f2 (gv 0) (cst (.int 0)) bw) (ae (gv 1) au))) (az ba (ae (f2 (gv 0) (cst (.int 1)) bw) (ae (gv 1) au))))))
def gJ:SF:=(kX (aU 1 [0] (.nm 0) (cj (f2 (gv 0) (gv 0) c5)) ij (de (ae (f2 (gv 0) (gv 1) Dx) (ae (f2 (gv 0) (gv 1) j3) au)))))
def pB:SF:=(b4 (f1 (aU 2 [] (.two 0 1) (dv (gv 0)) ij (f2 (gv 0) (gv 1) (gu false))) (bR fun bs=>bs.any id)))
def g9 (gY g7 jq fu:List D->FR):SF:=(aO (jz ([] ++ ([] ++ [])) (kT (nC (kR (f1 (gv 0) (gq "tuple")))) (jh (f2 (f1 (gv 0) bS) (cst (.int 2)) (gu true))))
 (b4 (cst (.bool false)))
 kz)
 (aO (cy 1 ([] ++ []) (f2 (gv 0) (cst (.int 0)) bw))
 (aO (cy 2 ([] ++ []) (f2 (gv 0) (cst (.int 1)) bw))
 (aO (jz (([1] ++ []) ++ []) (kT (nC (kR (az gY (ae (gv 1) au)))) (nC (kR (f1 (gv 2) (gq "tuple")))))
 (b4 (cst (.bool false)))
 kz)
 (aO (jz ([] ++ [1]) (nC (kR (f1 (aU 1 [1] (.nm 0) (dv (gv 2)) ij (az g7 (ae (gv 0) (ae (gv 1) au)))) (bR fun bs=>bs.all id))))
 (b4 (cst (.bool false)))
 kz)
 (b4 (hX (f2 (gv 2) (az jq (ae (gv 1) (ae (gv 2) au))) (gu false)) (f1 (az fu (ae (gv 2) au)) xZ))))))))
def gK (fB:List D->FR):SF:=(jz ([0] ++ []) (nC (kR (az fB (ae (gv 0) au))))
 (fun env β=>toS ((ae (cst (.str "this is no order")) au) (vl env) β) fun ds _=>if ds.length<=sizeLine then .exc "NoOrder" else .bad)
 kz)
def bY (aL ba:List D->FR):SF:=(aO (eH ([0] ++ []) (az aL (ae (gv 0) au)))
 (jz ([1] ++ (([] ++ []) ++ [])) (nC (kR (az ba (ae (gv 1) (ae (f2 (gv 0) (cst (.int 0)) bw) au)))))
 (fun env β=>toS ((ae (cst (.str "this is no thing of the order")) au) (vl env) β) fun ds _=>if ds.length<=sizeLine then .exc "NoThing" else .bad)
 kz))
end RM

end

section
namespace RM
open PySem L2
def Bk:D->Bool
 | .int _=>true
 |_=>false
def j5:List D->FR
 | [d]=>if du d=true then .bad else .ok (.bool (Bk d)) false
 |_=>.bad
theorem lZ {d:D}(h:du d=false):j5 [d]=.ok (.bool (Bk d)) false:=if_neg (by rw[h];exact Bool.false_ne_true)
theorem wW (ds:List D)(h:j5 ds≠.bad):aW 1 1 pk ds=j5 ds:=by
 unfold j5 at h
 split at h
 ·rename_i d
  cases q:du d with
  |true=>rw[q] at h;exact absurd rfl h
  |false=>
   rw[lZ q]
   have e1:gq "int" d=some (.bool (zU d "int")):=by unfold gq;rw[q];rfl
   have e2:gq "bool" d=some (.bool (zU d "bool")):=by unfold gq;rw[q];rfl
   show fin (b4 (hX (f1 (gv 0) (gq "int")) (f1 (f1 (gv 0) (gq "bool")) xZ)) [.fz d] 0)=_
   unfold b4 hX f1 gv
   simp only[r6,uU,vm,List.getElem?_cons_zero,vd,sx,n5,e1,e2]
   cases d <;> rfl
 ·exact absurd rfl h
def i5 (d:D)(n:Int):Bool:=match d with
 | .int i=>decide (0<=i/\i < n)
 |_=>false
def dR:List D->FR
 | [d,.int n]=>if du d=true then .bad else .ok (.bool (i5 d n)) false
 |_=>.bad
theorem sI {d:D}{n:Int}(h:du d=false):dR [d,.int n]=.ok (.bool (i5 d n)) false:=if_neg (by rw[h];exact Bool.false_ne_true)
theorem tq {i lo n:Int}{vs:List Nv}{β:Int}{fa fb fc:VF D}{g':D->D->Option D}{q:Bool}(ha:fa vs β=.ok (.int lo) β)(hb:fb vs β=.ok (.int i) β)(hc:fc vs β=.ok (.int n) β)(hq:g' (.int i) (.int n)=some (.bool q)):jQ fa fb fc zA g' vs β=.ok (.bool (decide (lo<=i) && q)) β:=by
 unfold jQ
 rw[ha];dsimp only[R.bnd];rw[hb];dsimp only[R.bnd]
 show (match (some (PyData.bool (decide (lo<=i))):Option D) with
  |some (.bool true)=>_
  |some (.bool false)=>_
  |_=>_)=_
 by_cases h:lo<=i
 ·rw[decide_eq_true h]
  dsimp only
  rw[hc]
  dsimp only[R.bnd]
  rw[hq];rfl
 ·rw[decide_eq_false h];rfl
theorem CF (ds:List D)(h:dR ds≠.bad):aW 2 2 (pA j5) ds=dR ds:=by
 unfold dR at h
 split at h
 ·rename_i d n
  cases q:du d with
  |true=>rw[q] at h;exact absurd rfl h
  |false=>
   rw[sI q]
   show fin (b4 (hX (az j5 (ae (gv 0) au)) (jQ (cst (.int 0)) (gv 0) (gv 1) zA sO)) [.fz d,.fz (.int n)] 0)=_
   unfold b4 hX az
   simp only[r6,uU,vm,cP,wU,Du,List.getElem?_cons_zero,vd,sx,n5,lZ q]
   cases d with
   |int i=>
    show fin (toS (jQ (cst (.int 0)) (gv 0) (gv 1) zA sO [.da (.int i),.da (.int n)] 0) _)=_
    rw[tq (lo:=0) (i:=i) (n:=n) rfl rfl rfl rfl]
    show FR.ok (.bool (decide (0<=i) && decide (i < n))) false=.ok (.bool (decide (0<=i/\i < n))) false
    rw[Bool.decide_and]
   |_=>rfl
 ·exact absurd rfl h
def CW (d:D):Bool:=match d with
 | .int i=>decide (1<=i/\i<=8)
 |_=>false
def k7:List D->FR
 | [d]=>if du d=true then .bad else .ok (.bool (CW d)) false
 |_=>.bad
theorem zf {d:D}(h:du d=false):k7 [d]=.ok (.bool (CW d)) false:=if_neg (by rw[h];exact Bool.false_ne_true)
theorem DE (ds:List D)(h:k7 ds≠.bad):aW 1 1 (qx j5) ds=k7 ds:=by
 unfold k7 at h
 split at h
 ·rename_i d
  cases q:du d with
  |true=>rw[q] at h;exact absurd rfl h
  |false=>
   rw[zf q]
   show fin (b4 (hX (az j5 (ae (gv 0) au)) (jQ (cst (.int 1)) (gv 0) (cst (.int 8)) zA zA)) [.fz d] 0)=_
   unfold b4 hX az
   simp only[r6,uU,vm,cP,wU,Du,List.getElem?_cons_zero,vd,sx,n5,lZ q]
   cases d with
   |int i=>
    show fin (toS (jQ (cst (.int 1)) (gv 0) (cst (.int 8)) zA zA [.da (.int i)] 0) _)=_
    rw[tq (lo:=1) (i:=i) (n:=8) rfl rfl rfl rfl]
    show FR.ok (.bool (decide (1<=i) && decide (i<=8))) false=.ok (.bool (decide (1<=i/\i<=8))) false
    rw[Bool.decide_and]
   |_=>rfl
 ·exact absurd rfl h
def pairF:List D->FR
 | [d,.int n]=>(match pF d with
  |some p=>.ok (.bool (decide ((0<=p.1/\p.1 < n)/\(0<=p.2/\p.2 < n)))) false
  |none=>.bad)
 |_=>.bad
theorem AI (p:Pr)(n:Int):pairF [aY p,.int n]=.ok (.bool (decide ((0<=p.1/\p.1 < n)/\(0<=p.2/\p.2 < n)))) false:=rfl
theorem DB (ds:List D)(h:pairF ds≠.bad):aW 2 2 (qp dR) ds=pairF ds:=by
 unfold pairF at h
 split at h
 ·rename_i d n
  cases q:pF d with
  |none=>rw[q] at h;exact absurd rfl h
  |some p=>
   obtain rfl:=tK q
   rw[AI]
   obtain⟨a,b⟩:=p
   show fin (toS (hX (az dR (ae (f2 (gv 0) (cst (.int 0)) bw) (ae (gv 1) au))) (az dR (ae (f2 (gv 0) (cst (.int 1)) bw) (ae (gv 1) au))) [.da (.tuple [.int a,.int b]),.da (.int n)] 0) fun d β'=>.rt d false β')=_
   have e1:az dR (ae (f2 (gv 0) (cst (.int 0)) bw) (ae (gv 1) au)) [.da (.tuple [.int a,.int b]),.da (.int n)] 0=.ok (.bool (decide (0<=a/\a < n))) 0:=rfl
   have e2:az dR (ae (f2 (gv 0) (cst (.int 1)) bw) (ae (gv 1) au)) [.da (.tuple [.int a,.int b]),.da (.int n)] 0=.ok (.bool (decide (0<=b/\b < n))) 0:=rfl
   unfold hX
   rw[e1]
   dsimp only[R.bnd]
   by_cases c:0<=a/\a < n
   ·rw[decide_eq_true c,e2]
    show FR.ok (.bool (decide (0<=b/\b < n))) false=.ok (.bool (decide ((0<=a/\a < n)/\(0<=b/\b < n)))) false
    simp[c]
   ·rw[decide_eq_false c]
    show FR.ok (.bool false) false=.ok (.bool (decide ((0<=a/\a < n)/\(0<=b/\b < n)))) false
    simp[c]
 ·exact absurd rfl h
def ag (n:Nat)(l:List Pr):D:=.tuple [.int n,.tuple (l.map aY)]
open Classical in
noncomputable def qv (f:Nat->List Pr->FR):D->FR:=fun d=>if h:∃nl:Nat×List Pr,d=ag nl.1 nl.2/\OM.Ord nl.1 nl.2 then f (Classical.choose h).1 (Classical.choose h).2 else .bad
theorem Bw {p q:Pr}(h:aY p=aY q):p=q:=by
 obtain⟨a,b⟩:=p
 obtain⟨c,d⟩:=q
 unfold aY at h
 simp at h
 rw[h.1,h.2]
theorem mX:∀{l m:List Pr},l.map aY=m.map aY->l=m
 | [],[],_=>rfl
 | [],_ :: _,h=>by cases h
 |_ :: _,[],h=>by cases h
 |p :: l,q :: m,h=>by
  simp only[List.map_cons,List.cons.injEq] at h
  rw[Bw h.1,mX h.2]
theorem AG {n m:Nat}{l k:List Pr}(h:ag n l=ag m k):n=m/\l=k:=by
 unfold ag at h
 simp only[PyData.tuple.injEq,List.cons.injEq,PyData.int.injEq,and_true] at h
 exact⟨by omega,mX h.2⟩
theorem td {f:Nat->List Pr->FR}{n:Nat}{l:List Pr}(O:OM.Ord n l):qv f (ag n l)=f n l:=by
 unfold qv
 have h:∃nl:Nat×List Pr,ag n l=ag nl.1 nl.2/\OM.Ord nl.1 nl.2:=⟨(n,l),rfl,O⟩
 rw[dif_pos h]
 obtain⟨e,_⟩:=Classical.choose_spec h
 obtain⟨e1,e2⟩:=AG e
 rw[<-e1,<-e2]
theorem uc {f:Nat->List Pr->FR}{d:D}(h:qv f d≠.bad):∃n l,d=ag n l/\OM.Ord n l:=by
 unfold qv at h
 by_cases q:∃nl:Nat×List Pr,d=ag nl.1 nl.2/\OM.Ord nl.1 nl.2
 ·obtain⟨nl,e,O⟩:=q;exact⟨nl.1,nl.2,e,O⟩
 ·rw[dif_neg q] at h;exact absurd rfl h
noncomputable def dm:List D->FR
 | [.int n,d]=>(match lB d with
  |some ds=>(match il ds with
   |some ps=>(open Classical in if 1<=n/\n<=8/\OM.Wn n.toNat ps then .ok (.tuple ((OM.gQ n.toNat (OM.Tr (OM.Mem ps))).map aY)) false else .bad)
   |none=>.bad)
  |none=>.bad)
 |_=>.bad
theorem AB {n:Nat}{ps:List Pr}(h1:1<=n)(h8:n<=8)(w:OM.Wn n ps):dm [.int n,.tuple (ps.map aY)]=.ok (.tuple ((OM.gQ n (OM.Tr (OM.Mem ps))).map aY)) false:=by
 unfold dm
 simp only[lB,iw]
 rw[if_pos ⟨by omega,by omega,by rw[Int.toNat_natCast];exact w⟩,Int.toNat_natCast]
def jX:List D->FR
 | [.tuple ds]=>(match il ds with
  |some ps=>if ps.length<=1000 then .ok (.bool (ps.any fun p=>decide (p.1=p.2))) false else .bad
  |none=>.bad)
 |_=>.bad
theorem fx {α:Type}(f:α->Bool):∀l:List α,kl (l.map fun x=>PyData.bool (f x))=some (l.map f)
 | []=>rfl
 |x :: l=>by
  show (kl (l.map fun x=>PyData.bool (f x))).map (f x :: ·)=_
  rw[fx f l];rfl
theorem DG (ds:List D)(h:jX ds≠.bad):aW 1 1 pB ds=jX ds:=by
 unfold jX at h
 split at h
 ·rename_i ds
  cases q:il ds with
  |none=>rw[q] at h;exact absurd rfl h
  |some ps=>
   rw[q] at h
   dsimp only at h
   by_cases hz:ps.length<=1000
   case neg=>rw[if_neg hz] at h;exact absurd rfl h
   obtain rfl:=kA q
   have e:jX [.tuple (ps.map aY)]=.ok (.bool (ps.any fun p=>decide (p.1=p.2))) false:=by
    unfold jX;simp only[iw];rw[if_pos hz]
   rw[e]
   have ec:aU 2 [] (.two 0 1) (dv (gv 0)) ij (f2 (gv 0) (gv 1) (gu false)) [.da (.tuple (ps.map aY))] 0=.ok (.list (ps.map fun p=>PyData.bool (decide (p.1=p.2)))) 0:=by
    exact bA (l:=ps) (e:=aY) (fun p=>PyData.bool (decide (p.1=p.2))) rfl hz fun p hp=>⟨_,rfl,rfl⟩
   show fin (toS ((aU 2 [] (.two 0 1) (dv (gv 0)) ij (f2 (gv 0) (gv 1) (gu false)) [.da (.tuple (ps.map aY))] 0).bnd fun x β1=>R.of (bR (fun bs=>bs.any id) x) β1) fun d β'=>.rt d false β')=_
   rw[ec]
   simp only[n5,bR]
   rw[fx]
   simp[fin,List.any_map]
 ·exact absurd rfl h
theorem qj (p:Pr):SeqAt.shaped (aY p)=true:=rfl
theorem wt:∀l:List Pr,PyData.canLayAll0 (l.map aY)=true
 | []=>rfl
 |p :: l=>by
  show ((aY p).canLay0 && PyData.canLayAll0 (l.map aY))=true
  rw[wt l];rfl
theorem wy:∀l:List Pr,PyData.depthAll (l.map aY)<=1
 | []=>by show (0:Nat)<=1;omega
 |p :: l=>by
  show max (aY p).depth (PyData.depthAll (l.map aY))<=1
  have h1:(aY p).depth=1:=by simp[aY,PyData.depth,PyData.depthAll]
  have h2:=wy l
  omega
theorem o5 (l:List Pr):SeqAt.shaped (.tuple (l.map aY))=true:=by
 unfold SeqAt.shaped
 have h1:(PyData.tuple (l.map aY)).canLay0=true:=by simp only[PyData.canLay0];exact wt l
 have h2:(PyData.tuple (l.map aY)).depth<=64:=by simp only[PyData.depth];have:=wy l;omega
 rw[h1,decide_eq_true h2];rfl
theorem yT (p q:Pr):PyData.eqv (aY p) (aY q)=decide (p=q):=by
 obtain⟨a,b⟩:=p
 obtain⟨c,d⟩:=q
 simp only[aY,PyData.eqv,PyData.eqvAll,Bool.and_true]
 rw[Bool.eq_iff_iff]
 simp
theorem w9:∀l m:List Pr,PyData.eqvAll (l.map aY) (m.map aY)=decide (l=m)
 | [],[]=>rfl
 | [],_ :: _=>rfl
 |_ :: _,[]=>rfl
 |p :: l,q :: m=>by
  show (PyData.eqv (aY p) (aY q) && PyData.eqvAll (l.map aY) (m.map aY))=_
  rw[yT,w9 l m,Bool.eq_iff_iff]
  simp
theorem lP {n:Nat}{l:List Pr}(O:OM.Ord n l):l.length < 64:=by
 have h8:=O.hi
 have e:=O.closed
 by_cases h:l.length < 64
 ·exact h
 ·exfalso
  have h1:l.length<=n * n:=by rw[<-e];exact OM.AX _ _
  have h2:n * n<=64:=Nat.mul_le_mul h8 h8
  have hn:n=8:=by
   by_cases h7:n<=7
   ·have:n * n<=7 * 7:=Nat.mul_le_mul h7 h7
    omega
   ·omega
  have hlen:l.length=n * n:=by subst hn;omega
  have hg:l=OM.bE n:=by
   refine OM.sub_eq O.ris (OM.gi n) (fun x hx=>OM.bg.mpr (O.wn x hx)) ?_
   rw[hlen];unfold OM.bE;simp
  have:((0:Int),(0:Int))∈l:=by rw[hg];exact OM.bg.mpr ⟨⟨by omega,by omega⟩,by omega,by omega⟩
  exact O.irr 0 this
theorem AK {n:Nat}(h1:1<=n)(h8:n<=8):k7 [.int n]=.ok (.bool true) false:=by
 rw[zf rfl]
 show FR.ok (.bool (decide (1<=(n:Int)/\(n:Int)<=8))) false=_
 rw[decide_eq_true (by omega)]
theorem oW (neg:Bool)(l m:List Pr):gu neg (.tuple (l.map aY)) (.tuple (m.map aY))=some (.bool (if neg then !decide (l=m) else decide (l=m))):=by
 unfold gu
 rw[o5,o5]
 simp only[Bool.and_self,if_true,PyData.eqv,w9]
theorem B8 {n:Nat}{l:List Pr}(O:OM.Ord n l):jX [.tuple (l.map aY)]=.ok (.bool false) false:=by
 have hl:=lP O
 unfold jX
 simp only[iw]
 rw[if_pos (by omega)]
 have:(l.any fun p=>decide (p.1=p.2))=false:=by
  rw[List.any_eq_false]
  intro p hp
  simp only[decide_eq_true_eq]
  intro e
  obtain⟨a,b⟩:=p
  simp only at e
  subst e
  exact O.irr a hp
 rw[this]
theorem xV {n:Nat}{l:List Pr}(O:OM.Ord n l):aW 3 1 (g9 k7 pairF dm jX) [ag n l]=.ok (.bool true) false:=by
 have hl:=lP O
 show fin (g9 k7 pairF dm jX [.fz (ag n l),.no,.no] 0)=_
 unfold g9
 rw[aJ (env':=[.fz (ag n l),.no,.no]) (β':=0) (by rfl)]
 rw[aJ (env':=[.fz (ag n l),.fz (.int n),.no]) (β':=0) (by rfl)]
 rw[aJ (env':=[.fz (ag n l),.fz (.int n),.fz (.tuple (l.map aY))]) (β':=0) (by rfl)]
 have e4:az k7 (ae (gv 1) au) [.da (ag n l),.da (.int n),.da (.tuple (l.map aY))] 0=.ok (.bool true) 0:=av rfl (AK O.lo O.hi)
 rw[aJ (env':=[.fz (ag n l),.fz (.int n),.fz (.tuple (l.map aY))]) (β':=0) ?h4]
 case h4=>
  refine gA ?_
  show kT (nC (kR (az k7 (ae (gv 1) au)))) _ [.da (ag n l),.da (.int n),.da (.tuple (l.map aY))] 0=_
  rw[qZ,oB,rZ,e4]
  rfl
 have e5:aU 1 [1] (.nm 0) (dv (gv 2)) ij (az pairF (ae (gv 0) (ae (gv 1) au))) [.da (ag n l),.da (.int n),.da (.tuple (l.map aY))] 0=.ok (.list (l.map fun _=>PyData.bool true)) 0:=by
  refine bA (l:=l) (e:=aY) (fun _=>PyData.bool true) rfl (by omega) fun p hp=>⟨_,rfl,?_⟩
  refine av (b:=false) (ds:=[aY p,.int n]) rfl ?_
  rw[AI,decide_eq_true (by have:=O.wn p hp;exact this)]
 rw[aJ (env':=[.fz (ag n l),.fz (.int n),.fz (.tuple (l.map aY))]) (β':=0) ?h5]
 case h5=>
  refine gA ?_
  show nC (kR (f1 (aU 1 [1] (.nm 0) (dv (gv 2)) ij (az pairF (ae (gv 0) (ae (gv 1) au)))) (bR fun bs=>bs.all id))) [.da (ag n l),.da (.int n),.da (.tuple (l.map aY))] 0=_
  rw[oB,rZ,bJ (d:=.bool true) e5 (by simp only[bR];rw[fx];simp)]
  rfl
 have e6:az dm (ae (gv 1) (ae (gv 2) au)) [.da (ag n l),.da (.int n),.da (.tuple (l.map aY))] 0=.ok (.tuple (l.map aY)) 0:=av rfl (by rw[AB O.lo O.hi O.wn,O.closed])
 have e7:az jX (ae (gv 2) au) [.da (ag n l),.da (.int n),.da (.tuple (l.map aY))] 0=.ok (.bool false) 0:=av rfl (B8 O)
 show fin (toS (hX (f2 (gv 2) (az dm (ae (gv 1) (ae (gv 2) au))) (gu false)) (f1 (az jX (ae (gv 2) au)) xZ) [.da (ag n l),.da (.int n),.da (.tuple (l.map aY))] 0) _)=_
 unfold hX
 rw[aG (d:=.bool true) (x:=.tuple (l.map aY)) rfl e6 (by rw[oW];simp)]
 dsimp only[R.bnd]
 rw[bJ (d:=.bool true) e7 rfl]
 rfl
noncomputable def fg:List D->FR
 | [d]=>qv (fun _ _=>.ok (.bool true) false) d
 |_=>.bad
theorem qy {n:Nat}{l:List Pr}(O:OM.Ord n l):fg [ag n l]=.ok (.bool true) false:=by simp only[fg];exact td O
theorem vM (ds:List D)(h:fg ds≠.bad):aW 3 1 (g9 k7 pairF dm jX) ds=fg ds:=by
 unfold fg at h
 split at h
 ·obtain⟨n,l,rfl,O⟩:=uc h
  rw[xV O,qy O]
 ·exact absurd rfl h
noncomputable def j4:List D->FR
 | [d]=>qv (fun _ _=>.ok .none false) d
 |_=>.bad
theorem oR {n:Nat}{l:List Pr}(O:OM.Ord n l):j4 [ag n l]=.ok .none false:=by simp only[j4];exact td O
theorem Br (ds:List D)(h:j4 ds≠.bad):aW 1 1 (gK fg) ds=j4 ds:=by
 unfold j4 at h
 split at h
 ·obtain⟨n,l,rfl,O⟩:=uc h
  rw[oR O]
  have e:az fg (ae (gv 0) au) [.da (ag n l)] 0=.ok (.bool true) 0:=av (ds:=[ag n l]) rfl (qy O)
  show fin (gK fg [.fz (ag n l)] 0)=_
  unfold gK
  rw[gA (β':=0)]
  ·rfl
  ·show nC (kR (az fg (ae (gv 0) au))) [.da (ag n l)] 0=_
   rw[oB,rZ,e];rfl
 ·exact absurd rfl h
end RM

end

section
namespace RM
open PySem L2
abbrev b7 (ns:List Int):D:=.dict [(.none,.list (ns.map PyData.int))]
theorem oV {i j:Int}(h: -(2 ^ 64) < i/\i < 2 ^ 64):c5 (.int i) (.int j)=some (.int (i * j)):=if_pos (by dsimp only;rw[decide_eq_true h.1,decide_eq_true h.2];rfl)
theorem zh {i j:Int}(h: -(2 ^ 64) < j/\j < 2 ^ 64):c5 (.int i) (.int j)=some (.int (i * j)):=if_pos (by dsimp only;rw[decide_eq_true h.1,decide_eq_true h.2,Bool.and_self,Bool.or_true])
theorem mD {i j:Int}(h:0 < j):j3 (.int i) (.int j)=some (.int (i % j)):=if_pos (decide_eq_true h)
theorem CT {i j:Int}(h:0 < j)(h2:j < 1073741824):Dx (.int i) (.int j)=some (.int (i / j)):=if_pos (by dsimp only;rw[decide_eq_true h,decide_eq_true h2];rfl)
theorem kH {α β:Type}(f:α->β)(l:List α)(i:Int):lF (l.map f) i=(lF l i).map f:=by
 unfold lF
 rw[List.length_map]
 cases uF l.length i with
 |none=>rfl
 |some j=>simp
theorem EL {α:Type}{l:List α}{k:Nat}(h:k < l.length):lF l (k:Int)=some l[k]:=ku (List.getElem?_eq_getElem h)
theorem DL {fa fb:VF D}{vs:List Nv}{β β1 β2:Int}{i j:Int}(h:fa vs β=.ok (.int i) β1)(h':fb vs β1=.ok (.int j) β2):jh (f2 fa fb sO) vs β=.ok (decide (i < j)) β2:=ja _ _ _ _ (aG h h' rfl)
theorem fG {neg:Bool}{fa fb:VF D}{vs:List Nv}{β β1 β2:Int}{i j:Int}(h:fa vs β=.ok (.int i) β1)(h':fb vs β1=.ok (.int j) β2):jh (f2 fa fb (gu neg)) vs β=.ok (if neg then !decide (i=j) else decide (i=j)) β2:=by
 refine ja _ _ _ _ (aG h h' ?_)
 cases neg <;> rfl
theorem lay_ints:∀ns:List Int,PyData.canLayAll0 (ns.map PyData.int)=true
 | []=>rfl
 |n :: ns=>by
  show ((PyData.int n).canLay0 && PyData.canLayAll0 (ns.map PyData.int))=true
  rw[lay_ints ns];rfl
theorem oA:∀ns:List Int,PyData.depthAll (ns.map PyData.int)=0
 | []=>rfl
 |n :: ns=>by
  show max (PyData.int n).depth (PyData.depthAll (ns.map PyData.int))=0
  rw[oA ns];rfl
theorem shaped_ints (ns:List Int):SeqAt.shaped (.list (ns.map PyData.int))=true:=by
 unfold SeqAt.shaped
 have h1:(PyData.list (ns.map PyData.int)).canLay0=true:=by simp only[PyData.canLay0];exact lay_ints ns
 have h2:(PyData.list (ns.map PyData.int)).depth<=64:=by simp only[PyData.depth];rw[oA];omega
 rw[h1,decide_eq_true h2];rfl
theorem ox:∀l m:List Int,PyData.eqvAll (l.map PyData.int) (m.map PyData.int)=decide (l=m)
 | [],[]=>rfl
 | [],_ :: _=>rfl
 |_ :: _,[]=>rfl
 |p :: l,q :: m=>by
  show ((p == q) && PyData.eqvAll (l.map PyData.int) (m.map PyData.int))=_
  rw[ox l m,Bool.eq_iff_iff]
  simp
theorem tZ (neg:Bool)(l m:List Int):gu neg (.list (l.map PyData.int)) (.list (m.map PyData.int))=some (.bool (if neg then !decide (l=m) else decide (l=m))):=by
 unfold gu
 rw[shaped_ints,shaped_ints]
 simp only[Bool.and_self,if_true,PyData.eqv,ox]
theorem oP {α:Type}:∀{l:List α} {k:Nat} {x:α},l[k]? =some x->(x :: l.eraseIdx k).Perm l
 | [],_,_,h=>by simp at h
 |y :: l,0,x,h=>by simp at h;subst h;exact List.Perm.refl _
 |y :: l,k + 1,x,h=>by
  have h:l[k]? =some x:=by simpa using h
  have ih:=oP h
  show (x :: y :: l.eraseIdx k).Perm (y :: l)
  exact (List.Perm.swap y x _).trans (ih.cons y)
theorem qK {α β:Type}(f:α->β):∀(l:List α) (k:Nat),(l.map f).eraseIdx k=(l.eraseIdx k).map f
 | [],_=>rfl
 |_ :: _,0=>rfl
 |x :: l,k + 1=>by simp[qK f l k]
end RM

end

section
namespace RM
open PySem L2
theorem v7 {n:Nat}{l:List Pr}(h1:1<=n)(h8:n<=8)(w:OM.Wn n l)(nd:l.Nodup)(irr:∀a,(a,a)∉l):l.length < 64:=by
 have:=OM.uI (l:=(0,0) :: l) (m:=OM.bE n) (List.nodup_cons.mpr ⟨irr 0,nd⟩) (fun x hx=>by
  rcases List.mem_cons.mp hx with e |e
  ·subst e;exact OM.bg.mpr ⟨⟨by simp,by simp;omega⟩,by simp,by simp;omega⟩
  ·exact OM.bg.mpr (w x e))
 have hg:(OM.bE n).length=n * n:=by unfold OM.bE;simp
 have hn:n * n<=64:=Nat.mul_le_mul h8 h8
 rw[hg,List.length_cons] at this
 omega
theorem EH {n:Nat}{l:List Pr}(h8:n<=8)(w:OM.Wn n l):l.all GO=true:=by
 rw[List.all_eq_true]
 intro p hp
 have:=w p hp
 unfold GO
 rw[decide_eq_true this.1.1,decide_eq_true (by omega:p.1 < 8),decide_eq_true this.2.1,decide_eq_true (by omega:p.2 < 8)];rfl
theorem l0 {a b:List D}(h:a.length + b.length<=10000):nu (.list a) (.list b)=some (.list (a ++ b)):=if_pos (by rw[sizeLine_eq];omega)
end RM

end

section
namespace RM
open PySem L2
def bQ (n:Nat):List Int:=(List.range n).map fun (k:Nat)=>(k:Int)
theorem bh (n:Nat):(bQ n).length=n:=by unfold bQ;simp
theorem aR {n:Nat}{x:Int}:x∈bQ n↔0<=x/\x < n:=by
 unfold bQ
 rw[List.mem_map]
 constructor
 ·rintro⟨k,hk,rfl⟩
  have:=List.mem_range.mp hk
  omega
 ·intro h
  exact⟨x.toNat,List.mem_range.mpr (by omega),by omega⟩
theorem jl (n:Nat):(bQ n).Nodup:=by
 unfold bQ
 rw[List.nodup_iff_pairwise_ne,List.pairwise_map]
 exact (List.nodup_iff_pairwise_ne.mp List.nodup_range).imp fun {a b} h e=>h (by omega)
theorem jj (n:Nat):c8 0 n=(bQ n).map PyData.int:=by
 unfold c8 bQ
 rw[List.map_map]
 refine List.map_congr_left fun k _=>?_
 show PyData.int (0 + (k:Int))=_
 rw[Int.zero_add];rfl
theorem fV {lo:Int}{n i:Nat}{d:D}(h:(c8 lo n)[i]? =some d):i < n/\d=.int (lo + i):=by
 unfold c8 at h
 rw[List.getElem?_map] at h
 cases q:(List.range n)[i]? with
 |none=>rw[q] at h;cases h
 |some j=>
  rw[q] at h
  cases h
  obtain⟨hi,ej⟩:=List.getElem?_eq_some_iff.mp q
  rw[List.length_range] at hi
  rw[List.getElem_range] at ej
  subst ej
  exact⟨hi,rfl⟩
theorem mY {n:Nat}(h:n<=1000):g8 (.int n)=some (.list ((bQ n).map PyData.int)):=by
 unfold g8
 dsimp only
 rw[if_pos ⟨by omega,by omega⟩,Int.toNat_natCast,jj]
theorem cD {fa:VF D}{vs:List Nv}{β β1:Int}{n:Nat}(h:fa vs β=.ok (.int n) β1)(hn:n<=1000):cj fa vs β=.ok (c8 0 n) β1:=by
 unfold cj
 rw[h]
 simp only[n5]
 rw[if_pos (yB (by omega) (by omega)),Int.toNat_natCast]
theorem fS {t:Tg}{L:List Nat}{fi:VF (List D)}{m:SF}{env:En}{β β1:Int}{ds:List D}(h:fi (vl env) β=.ok ds β1):gB t L fi m env β=sC t m ds (a9 L env) β1:=by unfold gB;rw[h];rfl
theorem kc {m:Nat}(h:1<=m)(h2:m<=1000)(β:Int):∃j:Nat,j < m/\ie [.int m] β=.ok (.int (j:Int)) false (β / m):=by
 refine⟨(β % m).toNat,?_,?_⟩
 ·have h0:=Int.emod_nonneg β (b:=(m:Int)) (by omega)
  have h3:=Int.emod_lt_of_pos β (b:=(m:Int)) (by omega)
  omega
 ·rw[sv (by omega) (by omega)]
  have h0:=Int.emod_nonneg β (b:=(m:Int)) (by omega)
  rw[show ((β % m).toNat:Int)=β % m by omega]
end RM

end

section
namespace RM
open PySem L2
theorem wB (p:Pr):∀l:List Pr,((l.map aY).any fun e=>PyData.eqv e (aY p))=decide (p∈l)
 | []=>rfl
 |q :: l=>by
  rw[List.map_cons,List.any_cons,wB p l,yT,Bool.eq_iff_iff]
  simp only[Bool.or_eq_true,decide_eq_true_eq,List.mem_cons]
  exact⟨fun h=>h.imp Eq.symm id,fun h=>h.imp Eq.symm id⟩
theorem BO (l:List Pr):(l.map aY).all SeqAt.shaped=true:=by
 rw[List.all_eq_true]
 intro d hd
 obtain⟨p,_,rfl⟩:=List.mem_map.mp hd
 exact qj p
theorem xo (neg:Bool)(p:Pr)(l:List Pr):Dq neg (aY p) (.tuple (l.map aY))=some (.bool (if neg then !decide (p∈l) else decide (p∈l))):=by
 unfold Dq
 simp only[lB,qj,BO,Bool.and_self,if_true,wB]
theorem xt (neg:Bool)(i j:Int):gu neg (.int i) (.int j)=some (.bool (if neg then !decide (i=j) else decide (i=j))):=rfl
theorem fk {fa fb:VF D}{vs:List Nv}{β:Int}{a b:Int}(h:fa vs β=.ok (.int a) β)(h':fb vs β=.ok (.int b) β):de (ae fa (ae fb au)) vs β=.ok (aY (a,b)) β:=by
 refine kx (ds:=[.int a,.int b]) ?_ (by simp)
 rw[cP,h]
 dsimp only[R.bnd]
 rw[cP,h'];rfl
theorem IL {n:Nat}{l:List Pr}{fa:VF D}{vs:List Nv}{β:Int}(h:fa vs β=.ok (ag n l) β):f2 fa (cst (.int 1)) bw vs β=.ok (.tuple (l.map aY)) β:=aG h rfl rfl
theorem DI {n:Nat}{l:List Pr}{fa:VF D}{vs:List Nv}{β:Int}(h:fa vs β=.ok (ag n l) β):f2 fa (cst (.int 0)) bw vs β=.ok (.int n) β:=aG h rfl rfl
def sd:List D->FR:=aW 1 1 gJ
theorem BW {n:Nat}(h1:1<=n)(h8:n<=8):sd [.int n]=.ok (.list ((OM.bE n).map aY)) true:=by
 have hm:n * n<=64:=Nat.mul_le_mul h8 h8
 have e:aU 1 [0] (.nm 0) (cj (f2 (gv 0) (gv 0) c5)) ij (de (ae (f2 (gv 0) (gv 1) Dx) (ae (f2 (gv 0) (gv 1) j3) au))) [.da (.int n)] 0=.ok (.list ((OM.bE n).map aY)) 0:=by
  have hi:cj (f2 (gv 0) (gv 0) c5) [.da (.int n)] 0=.ok ((List.range (n * n)).map fun (k:Nat)=>PyData.int (0 + (k:Int))) 0:=by
   refine cD (n:=n * n) (aG (x:=.int n) (y:=.int n) rfl rfl ?_) (by omega)
   rw[oV ⟨by omega,by omega⟩];rfl
  rw[bA (l:=List.range (n * n)) (e:=fun (k:Nat)=>PyData.int (0 + (k:Int))) (fun k=>aY (((k / n:Nat):Int),((k % n:Nat):Int))) hi (by rw[List.length_range];omega) fun k hk=>⟨_,rfl,?_⟩]
  ·unfold OM.bE;rw[List.map_map];rfl
  ·refine fk (aG (x:=.int (0 + (k:Int))) (y:=.int n) rfl rfl ?_) (aG (x:=.int (0 + (k:Int))) (y:=.int n) rfl rfl ?_)
   ·rw[CT (by omega) (by omega),Int.zero_add];rfl
   ·rw[mD (by omega),Int.zero_add];rfl
 show fin (gJ [.fz (.int n)] 0)=_
 unfold gJ
 rw[Aq,show vl [Sl.fz (.int n)]= [.da (.int n)] from rfl,e];rfl
theorem h9 (n:Nat):(OM.bE n).length=n * n:=by unfold OM.bE;simp
theorem ik {fa:VF D}{vs:List Nv}{β:Int}{c:Bool}(h:fa vs β=.ok (.bool c) β):kR fa vs β=.ok c β:=by rw[rZ,h];rfl
end RM

end

section
namespace RM
open PySem L2
theorem yV {c:Nat}:∀(ts:List Str) (k:Nat) (acc:Str),(∀t∈ts,t.length + 2<=c)->(textFrom k acc ts).length<=acc.length + c * ts.length
 | [],k,acc,_=>by show acc.length<=_;omega
 |t :: r,k,acc,h=>by
  have ih:=yV r (k + 1) (acc ++ (if k > 0 then ", " else "":String) ++ t) fun u hu=>h u (List.mem_cons_of_mem _ hu)
  have e:(acc ++ (if k > 0 then ", " else "":String) ++ t).length=acc.length + (if k > 0 then 2 else 0) + t.length:=by
   rw[strLen_append,strLen_append]
   split <;> rfl
  rw[e] at ih
  have ht:=h t (List.mem_cons_self ..)
  show (textFrom (k + 1) _ r).length<=_
  have e2:c * (t :: r).length=c * r.length + c:=by rw[List.length_cons,Nat.mul_succ]
  rw[e2]
  have:(if k > 0 then 2 else 0:Nat)<=2:=by split <;> omega
  omega
end RM

end

section
namespace L2
open PySem PySem.Spec PyProof.Rows
section
variable {X:Cx}{pins:List (Addr×Obj)}{σ:St}{H:Hp}{s:Shared}
theorem Inv.turnedL {t':Nat}{ch:List Addr}{h':Heap}(I:Inv X pins σ H s)(k:∀b o,b∉ch->s.heap.get? b=some o->h'.get? b=some o)(hf:∀b∈ch,nD X pins H b):Inv X pins σ H {s with heap:=h',toks:=t'}:=by
 have nit:∀b u,H b=some u->b∉ch:=fun b u e z=>by rw[(hf b z).1] at e;cases e
 have nL:X.env.locals∉ch:=fun z=>(hf _ z).2.1 rfl
 refine I.step (g':=s.gens) (d':=s.drawn) (ch:=ch) (fun b hb=>?_) (fun b o _ _ hc e _=>k b o hc e) (fun b o _ _ hc e _=>⟨o.slots,k b o hc e⟩) (fun _ _ _ _ n=>n)
  (fun b o hc e=>⟨o,k b o hc e⟩) (fun _ _ e=>e) (fun _ _ _ e=>e) (fun b ps e=>⟨#[],by rw[e];simp⟩) (fun m hm=>?_) (fun b u e=>?_) I.bare
 ·obtain⟨f0,f1,f2,f3,f4,f5⟩:=hf b hb
  exact⟨f3,f1,f4,f5⟩
 ·obtain⟨o,es,ep,ho,r⟩:=hm
  exact⟨o,es,ep,k _ o nL ho,r⟩
 ·refine (I.hok b u e).stay (fun c v hc q=>k c v ?_ q) (fun _ q=>q) fun _ _ q=>q
  rcases hc with z |z
  ·rw[z];exact nit b u e
  ·exact nit c _ z
end
theorem HZ {n:Nat}(i j:Nat)(h:(i == j)=false):(n + i:Nat)≠n + j:=by
 have:i≠j:=by simpa using h
 omega
section
variable {X:Cx}{Γ:Fx}{E:XK}{e a b c:Expr}{f fa fb:VF D}{L La Lb:List Nat}{md ma mb:Md}{pos:Pos}
def yp:D->Option D
 | .int i=>some (.int i)
 | .bool k=>some (.int (if k then 1 else 0))
 |_=>none
theorem EJ {K:PySem.W.Frag}:A9 K (fun x H Q=>(∃i,[x]= [.int i]/\Q (.int i) H)\/∃k,[x]= [.bl k]/\Q (.int (if k then 1 else 0)) H) yp .v:=by
 intro B G H x dx d Q s hB bx e k
 cases dx with
 |int i=>cases e;obtain rfl:=bx.int;exact .inl ⟨i,rfl,k _ G H (Ext.refl s) (.int _)⟩
 |bool b=>cases e;obtain rfl:=bx.bool;exact .inr ⟨b,rfl,k _ G H (Ext.refl s) (.int _)⟩
 |_=>cases e
end
end L2

end

section
namespace RM
open PySem L2
def iO (aL:List D->FR):SF:=(aO (eH ([0] ++ []) (az aL (ae (gv 0) au)))
 (eH ([1] ++ []) (az aL (ae (gv 1) au))))
def iJ:SF:=(jz ([] ++ []) (jh (f2 (gv 0) (cst (.int 8)) Fs))
 (fun env β=>toS ((ae (cst (.str "there were more things than an order may have")) au) (vl env) β) fun ds _=>if ds.length<=sizeLine then .exc "TooMany" else .bad)
 kz)
def gL:SF:=(aO (cy 2 (([] ++ []) ++ []) (f2 (f2 (cst (.int 7919)) (gv 1) c5) (cst (.int 13)) bI))
 (aO (jz ([] ++ []) (jh (f2 (gv 1) (f1 (gv 0) bS) sO))
 (cy 2 ([] ++ []) (f2 (gv 0) (gv 1) bw))
 kz)
 (aO (jz (([] ++ []) ++ []) (jh (f2 (f2 (gv 2) (cst (.int 2)) j3) (cst (.int 0)) (gu false)))
 (kX (dY (ae (f2 (gv 2) (cst (.int 2)) Dx) au)))
 kz)
 (aO (cy 3 [] (cst (.int 0)))
 (aO (gB (.nm 4) [] (cj (cst (.int 16)))
 (aO (cy 5 ((((([] ++ []) ++ []) ++ ([] ++ [])) ++ []) ++ []) (f2 (f2 (f2 (f2 (f2 (gv 2) (cst (.int 2147483647)) j3) (cst (.int 48271)) c5) (f2 (cst (.int 7919)) (gv 4) c5) bI) (cst (.int 1)) bI) (cst (.int 2147483647)) j3))
 (aO (cy 5 (([] ++ []) ++ []) (f2 (f2 (gv 5) (gv 5) c5) (cst (.int 2147483629)) j3))
 (cy 3 (([] ++ []) ++ (([] ++ ([] ++ [])) ++ [])) (f2 (f2 (gv 3) (cst (.int 2147483647)) c5) (f2 (f2 (gv 5) (f2 (gv 5) (cst (.int 13)) bI) c5) (cst (.int 2147483647)) j3) bI)))))
 (kX (dY (ae (gv 3) au))))))))
def dH (aN:List D->Int->FB):SF:=(aO (om 2 [] (f1 (gv 1) nh))
 (aO (om 3 [] (dY au))
 (aO (j7 ([] ++ []) (jh (f2 (gv 2) (dY au) (gu true)))
 (jS 3 2 ([] ++ []) (qQ 0 aN (ae (f1 (gv 2) bS) au))) 1000)
 (b4 (f1 (gv 3) gx)))))
def iE:SF:=(aO (om 2 [] (dY au))
 (aO (gB (.nm 3) [] (cj (gv 0))
 (gB (.nm 4) [] (cj (gv 0))
 (jz (([] ++ []) ++ ([] ++ [])) (CJ (jh (f2 (gv 3) (gv 4) (gu true))) (kR (f1 (aU 1 [3,4] (.nm 0) (dv (gv 1)) ij (f2 (l8 (gv 0) (gv 1)) (l8 (gv 0) (gv 2)) sO)) (bR fun bs=>bs.all id))))
 (nr 2 ([3] ++ ([4] ++ [])) (de (ae (gv 3) (ae (gv 4) au))))
 kz)))
 (b4 (f1 (gv 2) gx))))
end RM

end

section
namespace L2
open PySem PySem.Spec PyProof.Rows
section
variable {κ:Type}[DecidableEq κ]
def Bg (kvs:List (κ×V))(k:κ):Option V:=(kvs.find? fun kv=>decide (kv.1=k)).map (·.2)
def putK (kvs:List (κ×V))(k:κ)(v:V):List (κ×V):=
 if (kvs.any fun kv=>decide (kv.1=k))=true then kvs.map (fun kv=>if kv.1=k then (kv.1,v) else kv) else kvs ++ [(k,v)]
def Dj (kvs:List (κ×V))(k:κ):List (κ×V):=kvs.filter fun kv=>decide (kv.1≠k)
theorem zP.getD {o:Option V}{u:Option Value}{d:V}{d':Value}(r:zP o u)(rd:RelV d d'):RelV (o.getD d) (u.getD d'):=by
 cases o with
 |none=>cases u with
  |none=>exact rd
  |some _=>exact (show False from r).elim
 |some _=>cases u with
  |none=>exact (show False from r).elim
  |some _=>exact r
theorem KV.any {kvs:List (κ×V)}{vs:List (κ×Value)}(r:KV kvs vs)(k:κ):(kvs.any fun kv=>decide (kv.1=k))=vs.any fun kv=>decide (kv.1=k):=by
 unfold KV at r
 induction r with
 |nil=>rfl
 |cons h t ih=>rw[List.any_cons,List.any_cons,ih,h.1]
theorem KV.drop {kvs:List (κ×V)}{vs:List (κ×Value)}(r:KV kvs vs)(k:κ):KV (Dj kvs k) (without vs k):=by
 unfold KV at r ⊢
 unfold Dj without
 induction r with
 |nil=>exact .nil
 | @cons p q ps qs h t ih=>
  obtain⟨h1,h2⟩:=h
  rw[List.filter_cons,List.filter_cons]
  by_cases e:p.1=k
  ·have a:¬decide (p.1≠k)=true:=by simp[e]
   have b:¬decide (q.1≠k)=true:=by simp[h1.symm.trans e]
   rw[if_neg a,if_neg b];exact ih
  ·have e':¬q.1=k:=fun z=>e (h1.trans z)
   have a:decide (p.1≠k)=true:=by simp[e]
   have b:decide (q.1≠k)=true:=by simp[e']
   rw[if_pos a,if_pos b];exact .cons ⟨h1,h2⟩ ih
end
def Cj (H:Hp)(a:Addr)(y:V)(r:Option V):Prop:=
 (∃kvs k,Rd H a (.dK kvs)/\y=kV k/\r=Bg kvs k)\/∃kvs k b,Rd H a (.dT kvs)/\y=.ref b/\H b=some (.tup (k.map kV))/\r=Bg kvs k
def CA (H:Hp)(a:Addr)(y v:V)(H':Hp):Prop:=
 (∃kvs k,H a=some (.dK kvs)/\y=kV k/\kvs.length < sizeLine/\H'=upd H a (.dK (putK kvs k v)))\/
 ∃kvs k b,H a=some (.dT kvs)/\y=.ref b/\H b=some (.tup (k.map kV))/\kvs.length < sizeLine/\H'=upd H a (.dT (putK kvs k v))
theorem Cj.k {H:Hp}{a:Addr}{kvs:List (Key×V)}{k:Key}(e:H a=some (.dK kvs)):Cj H a (kV k) (Bg kvs k):=.inl ⟨kvs,k,.inl e,rfl,rfl⟩
theorem Cj.t {H:Hp}{a b:Addr}{kvs:List (List Key×V)}{k:List Key}(e:H a=some (.dT kvs))(eb:H b=some (.tup (k.map kV))):Cj H a (.ref b) (Bg kvs k):=.inr ⟨kvs,k,b,.inl e,rfl,eb,rfl⟩
theorem CA.k {H:Hp}{a:Addr}{kvs:List (Key×V)}{k:Key}{v:V}(e:H a=some (.dK kvs))(hl:kvs.length < sizeLine):CA H a (kV k) v (upd H a (.dK (putK kvs k v))):=.inl ⟨kvs,k,e,rfl,hl,rfl⟩
theorem CA.t {H:Hp}{a b:Addr}{kvs:List (List Key×V)}{k:List Key}{v:V}(e:H a=some (.dT kvs))(eb:H b=some (.tup (k.map kV)))(hl:kvs.length < sizeLine) :
  CA H a (.ref b) v (upd H a (.dT (putK kvs k v))):=.inr ⟨kvs,k,b,e,rfl,eb,hl,rfl⟩
section
variable {X:Cx}{pos:Pos}
end
end L2

end

section
namespace L2
open PySem PySem.Spec PyProof.Rows
mutual
def Dc:D->Bool
 | .list ds=>yU ds
 | .tuple ds=>yU ds
 | .dict kvs=> !kvs.isEmpty && kvs.all fun kv=>match kv.1,kv.2 with
  | .str _,.int _=>true
  |_,_=>false
 |_=>true
def yU:List D->Bool
 | []=>true
 |d :: ds=>Dc d && yU ds
end
end L2

end

section
namespace L2
open PySem PySem.Spec PyProof.Rows
section
variable {prog:Program}{w:World}{A:Around}{E:Value->Shared->Prop}{s:Shared}{it t:Addr}{i:Nat}{xs:Array Value}{Q:Value->Shared->Prop}
theorem Ij (hi:s.heap.IsTupleIter it t i)(ht:s.heap.IsTuple t xs)
  (k1:∀x,xs[i]? =some x->∀h',h'.IsTupleIter it t (i + 1)->Heap.SameBut it s.heap h'->Q x {s with heap:=h'})
  (k2:xs[i]? =none->A.handled=none/\∀h' e,Heap.ExtBut it s.heap h'->(∃o,h'.get? e=some o/\o.cls=.type "StopIteration")->E (.ref e) {s with heap:=h'}) :
  wpAny (model prog w) A (Builtin.SmallTypes.nextOf (.ref it)) Q E s:=by
 obtain⟨o,ho,hc,hd⟩:=id hi
 obtain⟨ol,hol, -,nl,hdl⟩:=ht
 refine wpAny_bind (wpAny_callSpecial?_slot (name:=Str.ofString "__next__") hi.typeIs F.slot_tuple_iterator_next (wpAny_call_entry F.slot_tuple_iterator_next hi.typeIs F.entry_tuple_iterator_next ?_ (F.args_tuple_iterator_next_1 _)))
 refine (show wpAny _ _ (field (.ref it) 0 >>= _) _ _ s from wpAny_bind (wpAny_field ho hd (x:=.ref t) rfl ?_))
 refine (show wpAny _ _ (if (Value.ref t == Value.none)=true then _ else _) _ _ s from ?_)
 rw[if_neg (by exact Bool.false_ne_true)]
 refine (show wpAny _ _ (field (.ref it) 1 >>= _) _ _ s from wpAny_bind (wpAny_field ho hd (x:=.int i 0) rfl ?_))
 refine (show wpAny _ _ (seqItems? (.ref t) >>= _) _ _ s from wpAny_bind (wpAny_seqItems hol hdl ?_))
 cases hx:xs[i]? with
 |some x=>
  simp only[Int.toNat_natCast,hx]
  refine wpAny_bind (wpAny_setField ho hd (by simp) (wpAny_pure ⟨x,rfl,wpAny_pure (k1 x hx _ ?_ (Heap.SameBut.update ..))⟩))
  refine⟨_,Heap.get?_update_self _ ho (Obj.isFreed_of_fields (Obj.data_mapFields hd _)),(Obj.cls_mapFields ..).trans hc,?_⟩
  rw[Obj.data_mapFields hd]
  simp[rawInt]
 |none=>
  obtain⟨hh,hE⟩:=k2 hx
  simp only[Int.toNat_natCast,hx]
  refine wpAny_bind (wpAny_rule (wpAny_bind (wpAny_setField ho hd (by simp) (show wpAny _ _ (newExc (.type "StopIteration") [] >>= _) _ _ _ from wpAny_bind ?_))))
  simp only[newExc,newTuple]
  refine wpAny_bind (wpAny_newObj_type (wpAny_bind (m:=firstArgMember _ _) (wpAny_of_eq (a:=Value.none) (by first |rfl | (simp only[firstArgMember];rfl)) (wpAny_newObj_type ?_ (by size_fits)))) (by size_fits))
  simp only[raiseNew]
  refine wpAny_bind (wpAny_handled ?_)
  have hh':A.in1.handled=none:=hh
  first |rw[hh'] |rw[hh]
  exact wpAny_bind (wpAny_pure (wpAny_throw (hE _ _ (((Heap.SameBut.update ..).extBut.push _).push _) ⟨_,Heap.get?_push_size _ rfl,rfl⟩)))
theorem EA (hh:A.handled=none)(hne:t≠it)(xs:Array Value):Draws prog w A it [it,t] xs.size (fun i v=>xs[i]? =some v) (fun i h=>h.IsTupleIter it t i/\h.IsTuple t xs) where
 live:=fun _ _ st=>let ⟨o,ho,_⟩:=st.1;⟨o,ho⟩
 frame:=fun _ _ _ st hk=>⟨st.1.at fun o e=>hk it (by simp) o e,st.2.at fun o e=>hk t (by simp) o e⟩
 item:=fun i s Q E hi st k=>Ij st.1 st.2 (fun x hx h' q1 q2=>k x h' s.toks hx ⟨q1,st.2.extBut q2.extBut hne⟩ q2) fun z=>by simp at z;omega
 done:=fun s Q E st k=>Ij st.1 st.2 (fun x hx=>by simp at hx) fun _=>⟨hh,k⟩
end
abbrev E4 (t:Addr):Obj:={cls:=.type "tuple_iterator",data:=.fields #[.ref t,.int 0 0]}
abbrev Hk (it:Addr):Obj:={cls:=.type "enumerate",data:=.fields #[.none,.bool false,.ref it,rawInt 0,.none,.none]}
theorem zG (t:Addr)(xs:Array Value)(n:Nat)(dc:Option Addr)(sl:Array (Option Value)) :
  Meets (Builtin.«enumerate.__new__» ⟨[.type "enumerate",.ref t],[]⟩) (fun _ R s=>s.heap.get? t=some ⟨.type "tuple",dc,.seq xs n,sl⟩/\
   R (.ok (.ret (.ref (s.heap.push (E4 t)).objs.size))) {s with heap:=(s.heap.push (E4 t)).push (Hk s.heap.objs.size)}):=by
 refine .of_wp fun prog w A R s h=>?_
 obtain⟨hp,g,d,tk,os⟩:=s
 obtain⟨hl,h⟩:=h
 have sb:=sub_enumerate
 have hT:Heap.IsTuple (Shared.heap ⟨hp,g,d,tk,os⟩) t xs:=⟨_,hl,rfl,n,rfl⟩
 wp_walk using AutoSeq1.wpAny_loadPart' hl
 refine wpAny_stack_any fun st=>wpAny_pure ?_
 split
 ·rename_i c _ _ _ _ _
  cases (c == Value.type "enumerate") <;> (wp_walk using AutoSeq1.wpAny_loadPart' hl,wpAny_pyIter_tuple hT;exact⟨_,rfl,h⟩)
 ·wp_walk using AutoSeq1.wpAny_loadPart' hl,wpAny_pyIter_tuple hT
  exact⟨_,rfl,h⟩
section
variable {prog:Program}{w:World}{A:Around}{E:Value->Shared->Prop}{s:Shared}
theorem vS {t:Addr}{xs:Array Value}{Q:Value->Shared->Prop}(hT:s.heap.IsTuple t xs)
  (k:∀h',IsEnum h' (s.heap.objs.size + 1) s.heap.objs.size 0 .none->h'.IsTupleIter s.heap.objs.size t 0->(∀b o,s.heap.get? b=some o->h'.get? b=some o)->Q (.ref (s.heap.objs.size + 1)) {s with heap:=h'}) :
  wpAny (model prog w) A (call (.type "enumerate") [.ref t]) Q E s:=by
 obtain⟨⟨c,dc,dt,sl⟩,hl,hc,n,hd⟩:=hT
 have hc:c=.type "tuple":=hc
 have hd:dt=.seq xs n:=hd
 subst hc hd
 refine callType_new F.called_enumerate (by decide) (F.typeCall_enumerate_1 _) (F.newCall_enumerate_1 _) (fun ob=>F.args_object_init_2 ob _) F.entry_enumerate_new (zG t xs n dc sl) ⟨hl,?_⟩
 have hz:(s.heap.push (E4 t)).objs.size=s.heap.objs.size + 1:=Heap.size_push ..
 have g2:((s.heap.push (E4 t)).push (Hk s.heap.objs.size)).get? (s.heap.push (E4 t)).objs.size=some (Hk s.heap.objs.size):=Heap.get?_push_size _ rfl
 have g1:((s.heap.push (E4 t)).push (Hk s.heap.objs.size)).get? s.heap.objs.size=some (E4 t):=Heap.get?_push_of_some _ (Heap.get?_push_size _ rfl)
 rw[hz] at g2
 show _/\_
 rw[hz]
 exact⟨⟨_,g2,rfl⟩,k _ g2 ⟨_,g1,rfl,rfl⟩ fun b o e=>Heap.get?_push_of_some _ (Heap.get?_push_of_some _ e)⟩
end
end L2

end

section
namespace L2
open PySem PySem.Spec PyProof.Rows
theorem Ff {prog:Program}{w:World}{A:Around}{it t:Addr}{xs:Array Value}(hh:A.handled=none)(i:Nat)(hx:xs[i]? =none):Draws prog w A it [it,t] i (fun _ _=>False) (fun j h=>j=i/\h.IsTupleIter it t i/\h.IsTuple t xs) where
 live:=fun _ _ st=>let ⟨o,ho,_⟩:=st.2.1;⟨o,ho⟩
 frame:=fun _ _ _ st hk=>⟨st.1,st.2.1.at fun o e=>hk it (by simp) o e,st.2.2.at fun o e=>hk t (by simp) o e⟩
 item:=fun j s Q E hi st k=>absurd st.1 (by omega)
 done:=fun s Q E st k=>Ij st.2.1 st.2.2 (fun x h=>by rw[hx] at h;cases h) fun _=>⟨hh,k⟩
def Hx (K:PySem.W.Frag)(a:Addr):It:=
 ⟨fun i H=>∃xs x,eh K H a xs/\xs[i]? =some x,
  fun i H v H'=>∃x t,H t=none/\(∀xs,eh K H a xs->xs[i]? =some x)/\v=.ref t/\H'=upd H t (.tup [.int i,x]),
  fun i H=>∃xs,eh K H a xs/\xs.length<=i⟩
abbrev A5 (n:Nat):List Nat:=[n + 1,n]
theorem xY {h:Heap}{a n:Addr}{i:Nat}{its:Array Value}{b:Addr}(p:h.IsTuple a its)(q:h.IsTupleIter n b i):a≠n:=fun z=>by
 subst z
 obtain⟨o,e,c,_⟩:=p
 obtain⟨o',e',c',_⟩:=q
 rw[e] at e';cases e'
 rw[c] at c'
 simp at c'
theorem yf {h:Heap}{a n it:Addr}{i:Int}{its:Array Value}{old:Value}(p:h.IsTuple a its)(q:IsEnum h n it i old):n≠a:=fun z=>by
 subst z
 obtain⟨o,e,c,_⟩:=p
 rw[q] at e;cases e
 simp at c
theorem uO {P:Program}{w:World}{K:PySem.W.Frag}{elts:List Expr}{x1}{pos:Pos}(a:Addr)(n:Nat):Turn P w K (.Tuple elts x1 pos) (Hx K a) (A5 n) (n + 1)
  (fun i h=>(∃old,IsEnum h (n + 1) n i old)/\h.IsTupleIter n a i) where
 mem:=by simp
 obj:=fun i h st c hc=>by
  obtain⟨⟨old,z1⟩,⟨o2,z2,_,d2⟩⟩:=st
  simp only[A5,List.mem_cons,List.not_mem_nil,or_false] at hc
  rcases hc with rfl |rfl
  ·exact⟨_,z1,fun v z=>by
    have z':Data.fields _=Data.cell v:=z
    cases z'⟩
  ·exact⟨o2,z2,fun v z=>by rw[d2] at z;cases z⟩
 keep:=fun i h h' st k=>by
  obtain⟨⟨old,z1⟩,z2⟩:=st
  exact⟨⟨old,k _ (by simp) _ z1⟩,z2.at fun o e=>k _ (by simp) o e⟩
 item:=by
  intro X hP hw hK hc i pins s σ H E I hf st hg
  subst hP hw hK
  obtain⟨xs,x,ha,hx⟩:=hg
  obtain⟨its,rv,p,hz⟩:=I.tuple ha
  have p:s.heap.IsTuple a its.toArray:=p
  obtain⟨u0,hu0,ru0⟩:=rv.get hx
  obtain⟨⟨old,z1⟩,z2⟩:=st
  have hh:X.A.in1.handled=none:=I.ok.hd hc
  have hlt:i < its.toArray.size:=by
   have:=List.getElem?_eq_some_iff.mp hu0
   simpa using this.1
  refine wpAny_pyNext_enum_itemD (EA hh (xY p z2) its.toArray) z1 ⟨z2,p⟩ hlt (HZ 1 0 rfl) (by
   simp only[List.mem_cons,List.not_mem_nil,or_false,not_or]
   exact⟨HZ 1 0 rfl,yf p z1⟩) fun u h' tk hu q1 q2 q3 q4 q5=>?_
  have eu:u0=u:=by
   have hu:its.toArray[i]? =some u:=hu
   rw[List.getElem?_toArray,hu0] at hu
   exact Option.some.inj hu
  subst eu
  refine⟨_,rfl,wpAny_letOwnedTupleGo_enum (s:={s with heap:=h',toks:=tk + 1}) q1 fun h2 r1 r2=>?_⟩
  have r2:∀c,c≠n + 1->h2.get? c=h'.get? c:=r2.2
  have lz:n + 1 < s.heap.objs.size:=Heap.lt_size z1
  have hT:H s.heap.objs.size=none:=I.hok.fresh (Nat.le_refl _)
  have I1:Inv X pins σ (upd H s.heap.objs.size (.tup [.int i,x])) {s with heap:=s.heap.push {cls:=.type "tuple",data:=.seq #[.int i tk,u0]},toks:=s.toks}:=
   I.laid (fun b o e=>Heap.get?_push_of_some _ e) (Nat.le_refl _) ⟨by show 2<=sizeLine;rw[sizeLine_eq];omega,[.int i tk,u0],.cons ⟨tk,rfl⟩ (.cons ru0 .nil),pQ.new _ _⟩
  have hf':∀c∈A5 n,nD X pins (upd H s.heap.objs.size (.tup [.int i,x])) c:=fun c hc=>⟨by
   rw[aB (fun z=>?_)]
   ·exact (hf c hc).1
   ·subst z
    simp only[A5,List.mem_cons,List.not_mem_nil,or_false] at hc
    omega,(hf c hc).2⟩
  have I2:Inv X pins σ (upd H s.heap.objs.size (.tup [.int i,x])) {s with heap:=h2,toks:=tk + 1}:=by
   refine I1.turnedL (ch:=A5 n) (fun c o hc e=>?_) hf'
   have e:(s.heap.push {cls:=.type "tuple",data:=.seq #[.int i tk,u0]}).get? c=some o:=e
   simp only[A5,List.mem_cons,List.not_mem_nil,or_false,not_or] at hc
   rw[r2 c hc.1]
   by_cases z:c=s.heap.objs.size
   ·subst z
    rw[Heap.get?_push_size _ rfl] at e
    rw[<-e];exact q3
   ·refine q5 c o hc.1 hc.2 ?_
    rw[Heap.get?_push_ne _ _ _ z] at e
    exact e
  refine⟨.ref s.heap.objs.size,_,I2,rfl,⟨x,_,hT,fun xs' h'=>?_,rfl,rfl⟩,⟨⟨u0,r1⟩,q2.1.at fun o e=>(r2 _ (HZ 0 1 rfl)).trans e⟩,fun c hc=>(hf' c hc).1⟩
  rw[I.tuple_inj h' ha];exact hx
 done:=by
  intro X hP hw hK hc i pins s σ H E I hf st hg
  subst hP hw hK
  obtain⟨xs,ha,hl⟩:=hg
  obtain⟨its,rv,p,hz⟩:=I.tuple ha
  obtain⟨⟨old,z1⟩,z2⟩:=st
  have hh:X.A.in1.handled=none:=I.ok.hd hc
  have l1:=rv.length
  refine wpAny_pyNext_enum_endD (Ff hh i (xs:=its.toArray) (by simp;omega)) z1 ⟨rfl,z2,p⟩ fun h' q=>⟨rfl,?_⟩
  refine I.turnedL (t':=s.toks) (ch:=A5 n) (fun c o hc e=>?_) hf
  simp only[A5,List.mem_cons,List.not_mem_nil,or_false,not_or] at hc
  exact q c o hc.2 e
 self:=fun _ _ _ _ _ st h=>by
  obtain⟨⟨old,z1⟩,_⟩:=st
  exact wpAny_pyIter_enum z1 h
def IU (K:PySem.W.Frag)(ta:TA):TI:=fun σ H R=>ta σ H fun vs H2=>∃a xs,vs= [.ref a]/\eh K H2 a xs/\R (Hx K a) H2
theorem xE:bootBuiltins "enumerate"=some (.type "enumerate"):=by decide +kernel
section
variable {X:Cx}
theorem Eg {a:Expr}{ta:TA}{p pos pt:Pos}{elts:List Expr}{x1}(hg:Gl X "enumerate")(hm:X.mg "enumerate"=none)(ha:PA X [a] ta)(hs:starEach [a] X.env= [(false,eval a X.env)]:=by rfl) :
  PI X (.Tuple elts x1 pt) (.Call (.Name "enumerate" p) [a] [] pos) (IU X.K ta):=by
 intro pins s σ H R I h
 refine Call_ (oM I hg hm xE (PyProof.Rows.callWith_type1 (cZ (ha pos pins s σ H _ I h) fun us s1 ⟨vs,H1,I1,r1,q1⟩=>?_) hs rfl))
 obtain⟨a,xs,e,h1,q⟩:=q1
 subst e
 cases r1 with
 |cons r rr=>
  cases rr
  cases r
  obtain⟨its,rv,p1,hz⟩:=I1.tuple h1
  refine vS (show s1.heap.IsTuple a its.toArray from p1) fun h' z1 z2 z3=>?_
  refine wpAny_pyIter_enum z1 ⟨_,A5 s1.heap.objs.size,_,_,H1,rfl,I1.kept (t':=s1.toks) z3,uO a s1.heap.objs.size,⟨⟨_,z1⟩,z2⟩,fun c hc=>?_,q⟩
  have:s1.heap.objs.size<=c:=by
   simp only[A5,List.mem_cons,List.not_mem_nil,or_false] at hc
   rcases hc with rfl |rfl <;> first |exact Nat.le_refl _ |exact Nat.le_add_right _ _
  exact I1.fpOk this (I1.hok.fresh this)
end
section
variable {X:Cx}{Γ:Fx}{E:XK}{e a b c:Expr}{f fa fb:VF D}{L La Lb:List Nat}{md ma mb:Md}{pos:Pos}
def la (ds:List D):List D:=ds.mapIdx fun i d=>.tuple [.int i,d]
def An (fa:VF D):VF (List D):=fun vs β=>(fa vs β).bnd fun x β1=>match x with
 | .tuple ds=>.ok (la ds) β1
 |_=>.bad
theorem zJ {K:PySem.W.Frag}{B:Option Addr}{G H1:Hp}{p:Addr}{xs:List V}{ds:List D}(hp:eh K G p xs)(r:cx K G xs ds):Walk K B G H1 (la ds) (Hx K p):=fun Gc H i s1 s2 m=>by
 have hp':=hp.grow (s1.trans s2).grow
 have l1:=r.len
 have lz:(la ds).length=ds.length:=by unfold la;rw[List.length_mapIdx]
 refine⟨fun hi=>⟨?_,fun x H' y=>?_⟩,fun hi=>⟨xs,hp',by omega⟩⟩
 ·have h1:i < xs.length:=by omega
  exact⟨xs,xs[i],hp',by simp[h1]⟩
 ·obtain⟨x,t,ht,hx,rfl,rfl⟩:=y
  obtain⟨d,ed,rd⟩:=r.at' (hx xs hp')
  have xn:=Ext.new s2 (o:=.tup [.int i,x]) ht
  refine⟨upd Gc t (.tup [.int i,x]),.tuple [.int i,d],xn,?_,.tup (.inl (.inl aA)) (.cons (.int i) (.cons (rd.mono (s1.trans xn.gg)) .nil))⟩
  unfold la
  rw[List.getElem?_mapIdx,ed];rfl
theorem Av {p pt:Pos}{elts:List Expr}{x1}(hK:X.K=Γ.K)(hg:Gl X "enumerate")(hm:X.mg "enumerate"=none)(ha:SE X Γ E a fa La ma)(hs:starEach [a] X.env= [(false,eval a X.env)]:=by rfl)(hs':starEach [a] X.env=(false,eval a X.env) :: starEach [] X.env:=by rfl) :
  SI X Γ E (.Tuple elts x1 pt) (.Call (.Name "enumerate" p) [a] [] pos) (An fa) La md:=by
 refine PI.post (Eg hg hm (aZ ha bZ hs') hs) ?_
 rintro σ H Q ⟨env,G,B,β,I,o⟩
 refine⟨env,G,B,β,I,o.bnd.imp fun d1 β1 h x G1 H1 I1 s1 m1 vx=>?_⟩
 have vx:=vx.brw I.boxThere
 rw[hK]
 cases d1 with
 |tuple ds=>
  rcases vx with vx | ⟨p,rfl,hb,q⟩
  ·cases vx with
   | @tup p xs _ hq r=>exact⟨p,xs,rfl,hq.grow I1.sub.grow,h _ G1 H1 I1 s1 m1 (zJ hq r)⟩
  ·exact q.elim
 |_=>exact h.elim
end
end L2

end

section
namespace L2
open PySem PySem.Spec PyProof.Rows PySem.MeetsSeq PySem.MeetsSeq2 PySem.MeetsSeq3
def C4 (K:PySem.W.Frag):R2:=fun x y H Q=>∃a b xs ys,x=.ref a/\y=.ref b/\eh K H a xs/\eh K H b ys/\xs.length + ys.length<=sizeLine/\
 (xs= []->Q (.ref b) H)/\(xs≠ []->ys= []->Q (.ref a) H)/\(xs≠ []->ys≠ []->∀p,H p=none->Q (.ref p) (upd H p (.tup (xs ++ ys))))
section
variable {X:Cx}
theorem ka:mh X (binaryOp .Add) (C4 X.K):=by
 intro pins s σ H x y v u Q I rx ry h
 obtain⟨a,b,xs,ys,rfl,rfl,ha,hb,hz,q0,q1,q2⟩:=h
 by_cases hx:xs= []
 ·cases rx
  cases ry
  obtain⟨its,r1,p1,_⟩:=I.tuple ha
  obtain⟨its2,r2,p2,_⟩:=I.tuple hb
  obtain⟨⟨cls,dd,data,sl⟩,ho,hc,n,hd⟩:=id p1
  obtain⟨⟨cls2,dd2,data2,sl2⟩,ho2,hc2,n2,hd2⟩:=id p2
  simp only at hc hd hc2 hd2
  subst hc hd hc2 hd2
  have he:its= []:=r1.nil_iff.mpr hx
  exact concat_meets ⟨_,ho,rfl⟩ ⟨_,ho2,rfl⟩ noFill_tuple_add seq_tuple_add PySem.F.slot_tuple_add PySem.F.entry_tuple_add (PySem.F.args_tuple_add_2 _ _)
   (tuple_addW0 a b its.toArray its2.toArray n n2 dd dd2 sl sl2 (by simp[he])) ⟨ho,ho2,.ref b,H,I,rfl,q0 hx⟩
 ·exact CB pins s σ H _ _ v u Q I rx ry ⟨a,b,xs,ys,rfl,rfl,ha,hb,hx,hz,q1 hx,q2 hx⟩
end
def kq:D->D->Option D
 | .tuple a,.tuple b=>if a.length + b.length<=sizeLine then some (.tuple (a ++ b)) else none
 |_,_=>none
theorem oj {K:PySem.W.Frag}:nz K (C4 K) kq .v:=by
 intro B G H x y dx dy d Q s hB bx by' e k
 cases dx <;> cases dy <;> first | (cases e;done) |skip
 rename_i a b
 simp only[kq] at e
 split at e
 ·rename_i hz
  cases e
  rcases bx with bx | ⟨_,_,_,q⟩
  case inr=>exact q.elim
  rcases by' with by' | ⟨_,_,_,q⟩
  case inr=>exact q.elim
  cases bx with
  | @tup p xs _ hp r1=>
   cases by' with
   | @tup q ys _ hq r2=>
    refine⟨p,q,xs,ys,rfl,rfl,hp.grow s.grow,hq.grow s.grow,by rw[r1.len,r2.len];exact hz,fun z=>?_,fun z z'=>?_,fun _ _ l hl=>?_⟩
    ·subst z
     cases r1
     exact k _ G H (Ext.refl s) (.tup hq r2)
    ·subst z'
     cases r2
     rw[List.append_nil] at k
     exact k _ G H (Ext.refl s) (.tup hp r1)
    ·have xn:=Ext.new s (o:=.tup (xs ++ ys)) hl
     exact k _ _ _ xn (.tup (.inl (.inl aA)) ((r1.append r2).mono xn.gg))
 ·cases e
end L2

end

section

end

section

end

section

end

section

end

section

end

section
namespace L2.ST
open PySem PySem.SetTable
section
variable {prog:Program}{w:World}{A:Around}{E:Value->Shared->Prop}{s:Shared}
set_option maxHeartbeats 3200000 in
theorem pZ {l:Addr}{vs:List Value}{ns:List Int}{T:String}{itO:Obj}{St:Addr->Nat->Heap->Prop}{Q:Value->Shared->Prop}(X:Src prog w s.heap l vs T itO St)(hh:A.handled=none)(hi:PyProof.Rows.IntsAre vs ns)(hb:vs.length + 1 < scanBound)
  (h:∀(h':Heap) (tk:Nat),h'.SetOf (intKind prog w) s.heap.objs.size (fun k'=>(PyProof.Rows.firstMet (fun i=>ns.getD i 0) vs.length).any (· == k')) (PyProof.Rows.firstMet (fun i=>ns.getD i 0) vs.length).length->(∀b o,s.heap.get? b=some o->h'.get? b=some o)->Q (.ref s.heap.objs.size) {s with heap:=h',toks:=tk}) :
  wpAny (model prog w) A (call (.type "set") [.ref l]) Q E s:=by
 obtain⟨c0,tl0,hmro0⟩:=F.called_set.mro
 have hmade0:=F.called_set.made
 have hsub0:=F.called_set.sub
 refine wpAny_call (codeAny_of_tree ?_)
 show wpAny _ _ (callAny (.type "set") ⟨[.ref l],[]⟩) _ _ _
 refine wpAny_pure ⟨Code.quiet_builtin _ (by decide +kernel),codeAny_builtin F.entry_type_call ?_⟩
 (rw[Around.under_plain (weight_type_call_type "set" [.ref l] []) rfl])
 have g1:=F.called_set.notType
 have g2:=F.called_set.canCreate
 have g3:=F.typeCall_set_1 (.ref l)
 repeat (any_goals (first |assumption |wp_step))
 refine codeAny_mono (tj (.ref l) (E:=E) (Q1:=fun obj s1=>obj=.ref s.heap.objs.size/\s1={s with heap:=s.heap.push {cls:=.type "set",dict:=none,data:=.set #[] 0 (.fresh 0 0 (uq w))}}) ⟨rfl,rfl⟩) fun r s1 hr=>?_
 cases r with
 |error e=>exact hr
 |ok fl=>
  cases fl with
  |ret obj=>
   obtain⟨rfl,rfl⟩:=hr
   generalize hO:({cls:=.type "set",dict:=none,data:=.set #[] 0 (.fresh 0 0 (uq w))}:Obj)=O
   have hS0:(s.heap.push O).get? s.heap.objs.size=some O:=Heap.get?_push_size _ (by rw[<-hO];rfl)
   have hT0:Shared.TypeIs {s with heap:=s.heap.push O} (.ref s.heap.objs.size) "set":=⟨_,hS0,by rw[<-hO]⟩
   have g4:=F.called_set.init.lookup
   have g5:=F.called_set.init.bind (.ref s.heap.objs.size)
   repeat (any_goals (first |assumption |wp_step))
   refine codeAny_mono (codeAny_call_builtin (R:=wants (fun r s2=>r=.none/\∃h' tk,s2={s with heap:=h',toks:=tk}/\h'.SetOf (intKind prog w) s.heap.objs.size (fun k'=>(PyProof.Rows.firstMet (fun i=>ns.getD i 0) vs.length).any (· == k')) (PyProof.Rows.firstMet (fun i=>ns.getD i 0) vs.length).length/\(∀b o,s.heap.get? b=some o->h'.get? b=some o)) E)
    F.called_set.init.plain F.entry_set_init (check_set_init_1 hT0 ?_)) fun r2 s2 hr2=>?_
   ·obtain⟨ol,hol,hcl⟩:=X.ty
    have hol':(s.heap.push O).get? l=some ol:=Heap.get?_push_of_some _ hol
    have e1:=X.ns
    have e2:=X.nf
    have e3:=X.nd
    have hTl:Shared.TypeIs {s with heap:=s.heap.push O} (.ref l) T:=⟨ol,hol',hcl⟩
    have hdat:O.data=.set #[] 0 (.fresh 0 0 (uq w)):=by rw[<-hO]
    (unfold Builtin.«set.__init__» noKeywords Builtin.Frozenset.updateFrom)
    subst hO
    obtain⟨oc,od,odt,osl⟩:=ol
    simp only at hcl
    subst hcl
    (generalize hPI0:pyIter=PI0)
    wp_walk
    subst hPI0
    have kp:∀b o,s.heap.get? b=some o->(s.heap.push {cls:=.type "set",dict:=none,data:=.set #[] 0 (.fresh 0 0 (uq w))}).get? b=some o:=fun b o e=>Heap.get?_push_of_some _ e
    refine X.it _ _ _ _ kp ?_
    refine wpAny_bind (wpAny_runValue ?_)
    have hlS:l < s.heap.objs.size:=Heap.lt_size hol
    have hh3:A.in1.in1.in1.handled=none:=by simp[hh]
    have hneI:l≠(s.heap.push {cls:=.type "set",dict:=none,data:=.set #[] 0 (.fresh 0 0 (uq w))}).objs.size:=by
     rw[Heap.size_push];exact Nat.ne_of_lt (Nat.lt_succ_of_lt hlS)
    have hSf:s.heap.objs.size∉ [(s.heap.push {cls:=.type "set",dict:=none,data:=.set #[] 0 (.fresh 0 0 (uq w))}).objs.size,l]:=by
     rw[Heap.size_push]
     intro z
     rcases List.mem_cons.mp z with e |z
     ·exact absurd e (Nat.ne_of_lt (Nat.lt_succ_self _))
     ·exact absurd (List.mem_singleton.mp z) (Nat.ne_of_gt hlS)
    refine PyProof.Rows.codeAny_set_update_loopS ((X.wk _ _ hh3 hneI).toS) s.heap.objs.size hSf (fun i=>ns.getD i 0) (fun i v e=>PyProof.Rows.IntsAre.int_at hi i v e) hb (vs.length - 0) 0 _ (by omega) (Nat.zero_le _) (X.st _ kp) ?_ ?_
    ·exact PyProof.Rows.SetOf_congr ((PyProof.Rows.setObjOf_fresh (knd:=intKind prog w) (uq w)).setOf (Heap.get?_push_of_some _ hS0) (by unfold scanBound;omega)) (fun _=>rfl) rfl
    ·intro s' hm F'
     obtain⟨h',g',d',tk,os'⟩:=s'
     have eg:g'=s.gens:=hm.gens
     have ed:d'=s.drawn:=hm.drawn
     have eo:os'=s.os:=hm.os
     subst eg;subst ed;subst eo
     show wpAny _ _ _ _ _ _
     refine wpAny_pure ?_
     show wpAny _ _ (ret Value.none) _ _ _
     refine wpAny_pure ⟨rfl,h',tk,rfl,F',fun b o e=>hm.heap b o (fun z=>?_) (Heap.get?_push_of_some _ (kp b o e))⟩
     have hlt:=Heap.lt_size e
     rw[Heap.size_push] at z
     rcases List.mem_cons.mp z with z |z
     ·exact absurd hlt (by rw[z];exact Nat.lt_irrefl _)
     ·rw[List.mem_singleton.mp z] at hlt
      exact absurd hlt (Nat.not_lt.mpr (Nat.le_succ _))
   ·cases r2 with
    |error e=>exact hr2
    |ok fl2=>
     cases fl2 with
     |ret r=>
      obtain⟨rfl,h',tk,rfl,hF,hk⟩:=hr2
      repeat (any_goals (first |assumption |wp_step))
      exact h _ _ hF hk
     |_=>exact hr2.elim
  |_=>exact hr.elim
end
end L2.ST

end

section
namespace L2
open PySem PyProof.Rows
section
variable {X:Cx}{K:PySem.W.Frag}{pins:List V}{σ:St}{H:Hp}{s:Shared}{E:XK}
def FW (ns:List Int)(k:Int):Bool:=(firstMet (fun i=>ns.getD i 0) ns.length).any (· == k)
def qb (ns:List Int):Nat:=(firstMet (fun i=>ns.getD i 0) ns.length).length
def Dm (K:PySem.W.Frag):List V->Hp->VK->Prop:=fun xs H Q=>∃a ns,xs= [.ref a]/\(hZ K H a (ns.map V.int)\/eh K H a (ns.map V.int))/\ns.length<=1000/\∀S,H S=none->Q (.ref S) (upd H S (.set (FW ns) (qb ns)))
theorem xQ (hc:X.calm=true):c7 X (.type "set") (Dm X.K):=by
 intro pins s σ H xs us Q I r h
 obtain⟨a,ns,rfl,hq,hz,q⟩:=h
 obtain⟨u,rfl,rx⟩:=vals1 r
 cases rx
 have hh:=I.ok.hd hc
 have core:∀{its:List Value} {T:String} {itO:Obj} {St:Addr->Nat->Heap->Prop},Vals (ns.map V.int) its->L2.ST.Src X.prog X.w s.heap a its T itO St->wpAny (model X.prog X.w) X.A (call (.type "set") [.ref a]) (EP X pins σ Q) X.xe s:=fun {its T itO St} rv src=>by
  have hl:its.length=ns.length:=by rw[<-rv.length,List.length_map]
  refine L2.ST.pZ src hh (intsAre_of rv) (by unfold scanBound;omega) fun h' tk F k=>?_
  rw[hl] at F
  exact⟨.ref _,_,I.laid (t':=tk) (o:=.set (FW ns) (qb ns)) k (Nat.le_refl _) F,rfl,q _ (I.hok.fresh (Nat.le_refl _))⟩
 rcases hq with hq |hq
 ·obtain⟨its,rv,pl,hz⟩:=I.list hq
  exact core rv (L2.ST.Src.list pl.isList)
 ·obtain⟨its,rv,pl,hz⟩:=I.tuple hq
  exact core rv (L2.ST.Src.tuple pl)
theorem yG:c7 X (.builtin "len") (fun xs H Q=>∃S f n,xs= [.ref S]/\H S=some (.set f n)/\Q (.int n) H):=by
 intro pins s σ H xs us Q I r h
 obtain⟨S,f,n,rfl,hS,q⟩:=h
 obtain⟨u,rfl,rx⟩:=vals1 r
 cases rx
 obtain⟨o,es,ep,t,ho,hex,hd,_,_,hb,hf,e⟩:s.heap.SetOf (intKind X.prog X.w) S f n:=I.hok _ _ hS
 refine call_len_set ho hex hd hf (by unfold scanBound at hb;omega) ⟨.int n,H,I.tok _,⟨_,by rw[e]⟩,q⟩
def nU (d:D):Option D:=match lB d with
 |some ds=>(match iB ds with
  |some ns=>if ns.length<=1000 then some (.int (qb ns)) else none
  |none=>none)
 |none=>none
theorem cx.intsB {G:Hp}:∀{ns:List Int} {xs:List V},cx K G xs (ns.map PyData.int)->xs=ns.map V.int
 | [],_,.nil=>rfl
 |n :: ns,_,.cons r t=>by cases r;rw[cx.intsB t];rfl
variable {Γ:Fx}{e a b c:Expr}{f fa fb fc:VF D}{L La Lb:List Nat}{md ma mb mc:Md}{pos:Pos}
theorem xO {p1 p2 pos2:Pos}(hc:X.calm=true)(hK:X.K=Γ.K)(hg:Gl X "len")(hm:X.mg "len"=none)(hg2:Gl X "set")(hm2:X.mg "set"=none)(ha:SE X Γ E a fa La ma)
  (he:starEach [a] X.env=(false,eval a X.env) :: starEach [] X.env:=by rfl)
  (he2:starEach [.Call (.Name "set" p2) [a] [] pos2] X.env=(false,eval (.Call (.Name "set" p2) [a] [] pos2) X.env) :: starEach [] X.env:=by rfl) :
  SE X Γ E (.Call (.Name "len" p1) [.Call (.Name "set" p2) [a] [] pos2] [] pos) (f1 fa nU) La .v:=by
 refine PE.post' (jo yG hg hm (by decide +kernel) (aZ (jk (xQ hc) hg2 hm2 (by decide +kernel) (aZ ha bZ he) (by decide) (by decide) he) bZ he2) (by decide) (by decide) he2) fun σ H Q ⟨env,G,B,β,I,o⟩=>?_
 refine kG (r:=fun x H1 Q=>Dm X.K [x] H1 fun y H2=>∃S f n,[y]= [V.ref S]/\H2 S=some (.set f n)/\Q (.int n) H2) ?_ I o
 intro B G H x dx d Q s hB bx e k
 rw[hK]
 unfold nU at e
 cases q:lB dx with
 |none=>rw[q] at e;cases e
 |some ds=>
  rw[q] at e
  dsimp only at e
  cases q2:iB ds with
  |none=>rw[q2] at e;cases e
  |some ns=>
   rw[q2] at e
   dsimp only at e
   split at e
   ·rename_i hz
    cases e
    obtain⟨p,xs,rfl,hq,r⟩:=bx.seq q s
    rw[lM q2] at r
    have r:=r.intsB
    subst r
    exact⟨p,ns,rfl,hq,hz,fun S hS=>⟨S,_,_,rfl,aA,k _ _ _ (Ext.own s hS) (.int _)⟩⟩
   ·cases e
def sortI (ns:List Int):List Int:=ns.mergeSort fun a b=>decide (a<=b)
theorem sortI_perm (ns:List Int):(sortI ns).Perm ns:=List.mergeSort_perm ..
theorem zK (ns:List Int):(sortI ns).Pairwise (· <= ·):=by
 have:=List.pairwise_mergeSort (le:=fun a b:Int=>decide (a<=b)) (fun a b c h1 h2=>by simp only[decide_eq_true_eq] at *;omega) (fun a b=>by simp only[Bool.or_eq_true,decide_eq_true_eq];omega) ns
 exact this.imp fun h=>by simpa using h
theorem lr {ns ms:List Int}(h:ms.Perm ns)(h2:ms.Pairwise (· <= ·)):ms=sortI ns:=
 List.Perm.eq_of_pairwise (le:=(· <= ·)) (fun a b _ _ h1 h2=>by omega) h2 (zK ns) (h.trans (sortI_perm ns).symm)
def E5 (K:PySem.W.Frag):List V->Hp->VK->Prop:=fun xs H Q=>∃a ns,xs= [.ref a]/\hZ K H a (ns.map V.int)/\ns.length < 64/\∀l,H l=none->Q (.ref l) (upd H l (.lst ((sortI ns).map V.int)))
theorem sH:∀{us:List Value} {ns:List Int},IntsAre us ns->Vals (ns.map V.int) us
 |_,_,.nil=>.nil
 |_,_,.cons n t hr=>.cons ⟨t,rfl⟩ (sH hr)
theorem vU:c7 X (.builtin "sorted") (E5 X.K):=by
 intro pins s σ H xs us Q I r h
 obtain⟨a,ns,rfl,hq,hl,q⟩:=h
 obtain⟨u,rfl,rx⟩:=vals1 r
 cases rx
 obtain⟨its,rv,pl,hz⟩:=I.list hq
 have hil:its.length=ns.length:=by rw[<-rv.length,List.length_map]
 refine sorted_ints pl.isList (intsAre_of rv) (by omega) fun out ns' a1 a2 a3=>?_
 obtain rfl:=lr a2 a3
 obtain⟨c,he⟩:=sortedAll_at s.heap its out
 have hf:H (s.heap.objs.size + 1)=none:=I.hok.fresh (Nat.le_succ _)
 have hz':((sortI ns).map V.int).length<=sizeLine:=by
  have:=a2.length_eq
  rw[List.length_map,sizeLine_eq];omega
 have I2:Inv X pins σ (upd H (s.heap.objs.size + 1) (.lst ((sortI ns).map V.int))) {s with heap:=sortedAll s.heap its out,toks:=s.toks}:=I.laid (t':=s.toks) (fun _ _=>sortedAll_old) (Nat.le_succ _) (show cJ X.prog X.w _ _ _ (.lst ((sortI ns).map V.int)) from⟨hz',out.toList,c,sH a1,he⟩)
 exact⟨.ref _,_,I2,rfl,q _ hf⟩
end
end L2

end

section

end

section

end

section
namespace L2
open PySem
section
variable {K:PySem.W.Frag}{h:Heap}{mg:Str->Option Value}
theorem zI {α:Type}{P:List α->Prop}(q:∀a,P [a]):∀us:List α,us.length=1->P us
 | [a],_=>q a
theorem ln2 {α:Type}{P:List α->Prop}(q:∀a b,P [a,b]):∀us:List α,us.length=2->P us
 | [a,b],_=>q a b
theorem FT {α:Type}{P:List α->Prop}(q:∀a b c,P [a,b,c]):∀us:List α,us.length=3->P us
 | [a,b,c],_=>q a b c
theorem Im {α:Type}{P:List α->Prop}(q:∀a b c d,P [a,b,c,d]):∀us:List α,us.length=4->P us
 | [a,b,c,d],_=>q a b c d
theorem IZ {α:Type}{P:List α->Prop}(q:∀a b c d e,P [a,b,c,d,e]):∀us:List α,us.length=5->P us
 | [a,b,c,d,e],_=>q a b c d e
def aS (x:Str)(st:Stmt)(ps:List Str):Prop:=∀(kV doc pm:Value) (an:Option Addr) (cdv ct:Value) (us:List Value),us.length=ps.length->bindArgs (PySem.W.fnOf x x (iX st) (dM st) (ao st) .none kV doc pm an cdv ct) ⟨us,[]⟩=pure (ps.zip us)
structure Fo (K:PySem.W.Frag)(mg:Str->Option Value)(x:Str)(st:Stmt)(ps:List Str):Prop where
 ex:∃f fd,iM K mg x st ps f fd
theorem bB {x:Str}{st:Stmt}{ps:List Str}{f:Addr}{oc:Value}{od an:Option Addr}{sl:Array (Option Value)}{kV doc pm cdv ct:Value}(X:K.In h)(G:h.Ns mainGlobals mg)(b:aS x st ps)(a:PySem.W.nsIn K mainGlobals x=some (some (.ref f)))
  (l:K.lookup f=some ⟨oc,od,.func (PySem.W.fnOf x x (iX st) (dM st) (ao st) .none kV doc pm an cdv ct),sl⟩) (c:PySem.W.codeIn K cdv x=true) (k:PySem.W.keepIn K (.ref f)=true):Fo K mg x st ps:=
 ⟨⟨f,_,PySem.W.mg_of X G a,vV l c k,(vV l c k).binds b⟩⟩
def HR:List Str:=["len","range","enumerate","zip","min","max","sum","abs","sorted","reversed","int","str","bool","list","tuple","dict","set","isinstance","repr","any","all","divmod"]
def Hw (K:PySem.W.Frag):Bool:=HR.all fun x=>match PySem.W.nsIn K mainGlobals x with
 |some none=>true
 |_=>false
theorem ER (q:Hw K=true){x:Str}(hx:x∈HR):PySem.W.nsIn K mainGlobals x=some none:=by
 have:=List.all_eq_true.mp q x hx
 split at this
 ·assumption
 ·cases this
theorem Fu (X:K.In h)(G:h.Ns mainGlobals mg)(q:Hw K=true):i8 mg:=by
 have key:∀{x:Str},x∈HR->mg x=none:=fun hx=>PySem.W.mg_none_of X G (ER q hx)
 constructor <;> exact key (by decide)
end
end L2

end

section

end

section

end

section

end

section

end

section

end

section
namespace HT
open PySem PySem.Spec PyProof.Rows
section
variable {prog:Program}{w:World}{A:Around}{E:Value->Shared->Prop}{s:Shared}
theorem kO {t sl:Addr}{items:Array Value}{vl vu:Value}{lo hi:Option Int}{Q:Value->Shared->Prop}(ht:IsTup s.heap t items)(hs:s.heap.IsSliceOf sl vl vu .none)(pl:IsPart vl lo)(pu:IsPart vu hi)
  (hw:dC items.size 0 lo=0/\dC items.size items.size hi=items.size) (h:Q (.ref t) s):wpAny (model prog w) A (getItem (.ref t) (.ref sl)) Q E s:=by
 obtain⟨os,hos,hcs,hds⟩:=id hs
 have hTs:s.TypeIs (.ref sl) "slice":=⟨os,hos,hcs⟩
 unfold getItem
 try with_reducible refine wpAny_holding ?_
 first |refine wpAny_bind (wpAny_pure ?_) |skip
 refine wpAny_bind (wpAny_sequenceKey ht.typeIs (by decide) ?_)
 refine wpAny_bind (wpAny_callSpecial?_slot (name:=Str.ofString "__getitem__") ht.typeIs PyProof.Rows.slot_tuple_getitem
  (wpAny_call_entry PyProof.Rows.slot_tuple_getitem ht.typeIs entry_tuple_getitem ?_ (args_tuple_getitem _ _)))
 show wpAny _ _ (Builtin.Tuple.tupleItemsOf (.ref t) >>= _) _ _ s
 refine wpAny_bind (tupleItemsOf_ ht ?_)
 refine wpAny_bind (wpAny_typeOf hTs ?_)
 rw[if_pos (by decide)]
 refine wpAny_bind (ju hs pl pu ?_)
 rw[hw.1,hw.2]
 show wpAny _ _ (if (((0:Nat):Int) == 0 && (1:Int) == 1 && (items.size - 0) == items.size)=true then _ else _) _ _ s
 rw[if_pos (by simp)]
 refine wpAny_bind ?_
 unfold Builtin.Tuple.tupleIsExact
 first
  |refine wpAny_bind (wpAny_typeOf ht.typeIs (wpAny_pure ?_))
  |refine wpAny_bind (wpAny_typeOf ht.typeIs ?_)
 first |rw[if_pos (by decide)] |skip
 first
  |exact wpAny_bind (wpAny_rule (wpAny_pure ⟨_,rfl,wpAny_pure h⟩))
  |exact wpAny_bind (wpAny_bind (wpAny_rule (wpAny_pure ⟨_,rfl,wpAny_pure h⟩)))
end
end HT
namespace L2
open PySem PySem.Spec PyProof.Rows
section
variable {X:Cx}{Γ:Fx}{E:XK}{e a b c:Expr}{f fa fb fc:VF D}{L La Lb:List Nat}{md ma mb mc:Md}{pos:Pos}
def HC (K:PySem.W.Frag):V->Option Int->Option Int->Hp->VK->Prop:=fun x lo hi H Q=>∃a xs,x=.ref a/\eh K H a xs/\
 ((HT.dC xs.length 0 lo=0/\HT.dC xs.length xs.length hi=xs.length)->Q (.ref a) H)/\
 (¬(HT.dC xs.length 0 lo=0/\HT.dC xs.length xs.length hi=xs.length)->∀p,H p=none->Q (.ref p) (upd H p (.tup (pN xs lo hi))))
theorem Bm:He X (HC X.K):=by
 intro pins s σ H x v vl vu lo hi sl Q I rx hs pl pu h
 obtain⟨a,xs,rfl,hx,hw,q⟩:=h
 by_cases z:HT.dC xs.length 0 lo=0/\HT.dC xs.length xs.length hi=xs.length
 ·have hw:=hw z
  cases rx
  obtain⟨its,r,ht,hz⟩:=I.tuple hx
  have hlen:its.toArray.size=xs.length:=by rw[List.size_toArray];exact r.length.symm
  refine⟨"tuple",_,PyProof.Rows.slot_tuple_getitem.lookup,ht.typeIs,?_⟩
  exact HT.kO ht hs pl pu (by rw[hlen];exact z) ⟨.ref a,H,I,rfl,hw⟩
 ·exact EZ pins s σ H (.ref a) v vl vu lo hi sl Q I rx hs pl pu ⟨a,xs,rfl,hx,z,q z⟩
def qX (fa:VF D)(fl fh:VF (Option Int)):VF D:=fun vs β=>(fa vs β).bnd fun x β1=>(fl vs β1).bnd fun l β2=>(fh vs β2).bnd fun h β3=>match x with
 | .tuple ds=>.ok (.tuple (cutD ds l h)) β3
 |_=>.bad
theorem uV {ds:List D}{lo hi:Option Int}(h:HT.dC ds.length 0 lo=0/\HT.dC ds.length ds.length hi=ds.length):cutD ds lo hi=ds:=by
 unfold cutD;rw[h.1,h.2];simp
theorem qk {lo hi:Option Expr}{fl fh:VF (Option Int)}{Ll Lh:List Nat}{p2:Pos}(hK:X.K=Γ.K)(ha:SE X Γ E a fa La ma)(hl:G7 X Γ E lo fl Ll)(hh:G7 X Γ E hi fh Lh):SE X Γ E (.Subscript a (.Slice lo hi none p2) pos) (qX fa fl fh) (La ++ Ll ++ Lh) .v:=by
 refine PE.post' (zR Bm ha hl hh) ?_
 rintro σ H Q ⟨env,G,B,β,I,o⟩
 refine⟨env,G,B,β,I,o.bnd.imp fun d1 β1 h x G1 H1 I1 s1 m1 vx=>⟨a9 La env,G1,B,β1,I1,?_⟩⟩
 rw[eO]
 refine h.bnd.imp fun l β2 h G2 H2 I2 s2 m2=>⟨a9 Ll (a9 La env),G2,B,β2,I2,?_⟩
 rw[eO,eO]
 refine h.bnd.imp fun u β3 h G3 H3 I3 s3 m3=>?_
 rw[<-cz,<-cz,<-List.append_assoc] at I3
 have bx:=((vx.brw I.boxThere).mono s2 m2).mono s3 m3
 cases d1 with
 |tuple ds=>
  obtain⟨p,xs,rfl,hq,r⟩:=bx.tuple I3.sub
  rw[hK]
  dsimp only at h
  refine⟨p,xs,rfl,hq,fun z=>?_,fun hw q hn=>?_⟩
  ·rw[r.len] at z
   rw[uV z] at h
   refine h _ _ _ I3 ((s1.trans s2).trans s3) ((m1.trans m2).trans m3) ?_
   rcases bx with bx | ⟨_,_,_,bx⟩
   ·exact bx
   ·exact bx.elim
  ·have x:=Ext.new I3.sub (o:=.tup (pN xs l u)) hn
   exact h _ _ _ (I3.ext x) (((s1.trans s2).trans s3).trans x.gg) (((m1.trans m2).trans m3).trans (x.mov B)) (.tup (.inl (.inl aA)) ((BC r l u).mono x.gg))
 |_=>exact h.elim
end
end L2

end

section

end

section
namespace PyProof.Rows
open PySem PySem.Spec PySem.Calls
section
variable {prog:Program}{w:World}{A:Around}{E:Value->Shared->Prop}{s:Shared}
theorem oD {l:Addr}{vs:List Value}{Q:List Value->Shared->Prop}(hl:s.heap.IsTuple l vs.toArray)
  (h:Q vs {s with heap:=(s.heap.push (seqObj "list" #[] 0)).update s.heap.objs.size (Obj.mapSeq (· ++ vs.toArray))}) (hsz:vs.length<=sizeLine) :
  wpAny (model prog w) A (collect (.ref l)) Q E s:=by
 obtain⟨o,ho,hc,n,hd⟩:=id hl
 unfold collect
 refine wpAny_bind (wpAny_runValue (codeAny_builtin entry_proto_collect' ?_))
 show wpAny _ _ (do again (.builtin "list.__iadd__" ⟨[<-newList [],.ref l],[]⟩)) _ _ s
 refine wpAny_bind (wpAny_newList (wpAny_pure ⟨Code.quiet_builtin _ (by decide +kernel),codeAny_builtin entry_list_iadd' ?_⟩))
 show wpAny _ _ (Builtin.List.listExtendWith (.ref s.heap.objs.size) (.ref l) (.ref s.heap.objs.size)) _ _ {s with heap:=s.heap.push (seqObj "list" #[] 0)}
 unfold Builtin.List.listExtendWith
 have ho':(s.heap.push (seqObj "list" #[] 0)).get? l=some o:=Heap.get?_push_of_some _ ho
 refine wpAny_bind (wpAny_typeOf (T:="tuple") ⟨o,ho',hc⟩ ?_)
 have ht:(Value.type "tuple" == Value.type "tuple")=true:=by rfl
 rw[if_pos (by rw[ht,Bool.or_true])]
 refine wpAny_bind (listItems_at ho' hd ?_)
 refine wpAny_bind (listItems_at (xs:=#[]) (n:=0) (Heap.get?_push_size _ rfl) rfl ?_)
 rw[if_neg (by simp)]
 refine wpAny_bind (listUpdate_at (xs:=#[]) (n:=0) (Heap.get?_push_size _ rfl) rfl ?_ (Nat.zero_le _) (by show (#[] ++ vs.toArray).size<=sizeLine + 1;simp only[Array.size_append,List.size_toArray,List.length_nil];omega))
 refine wpAny_pure ?_
 show wpAny (model prog w) A (do
   let o <-load s.heap.objs.size
   match o.data with
   | .seq xs _=>pure xs.toList
   |_=>unsupported "internal:collect") Q E {s with heap:=(s.heap.push (seqObj "list" #[] 0)).update s.heap.objs.size (Obj.mapSeq (· ++ vs.toArray))}
 refine wpAny_bind (wpAny_load (get?_update_seq (Heap.get?_push_size _ rfl) _) ?_)
 show wpAny _ _ (pure ((#[]:Array Value) ++ vs.toArray).toList) Q E _
 rw[show ((#[]:Array Value) ++ vs.toArray).toList=vs by simp]
 exact wpAny_pure h
theorem rf {l:Addr}{vs:List Value}{ns:List Int}{Q:Value->Shared->Prop}(hl:s.heap.IsTuple l vs.toArray)(hI:IntsAre vs ns)(h64:vs.length < 64)
  (h:∀(out:Array Value) (ns':List Int),IntsAre out.toList ns'->ns'.Perm ns->ns'.Pairwise (· <= ·)->Q (.ref (s.heap.objs.size + 1)) {s with heap:=sortedAll s.heap vs out}) :
  wpAny (model prog w) A (call (.builtin "sorted") [.ref l]) Q E s:=by
 refine Calls.call_function_entry kind_sorted plain_sorted entry_sorted (args_sorted1 _) ?_
 unfold Builtin.«sorted»
 refine wpAny_bind (m:=checkCount "sorted" 1 1 _) (wpAny_pure ?_)
 refine wpAny_bind (oD hl ?_ (by rw[sizeLine_eq];omega))
 refine wpAny_bind (wpAny_newList ?_)
 have hsz:((s.heap.push (seqObj "list" #[] 0)).update s.heap.objs.size (Obj.mapSeq (· ++ vs.toArray))).objs.size=s.heap.objs.size + 1:=by
  rw[Heap.size_update,size_push']
 have hoL:(((s.heap.push (seqObj "list" #[] 0)).update s.heap.objs.size (Obj.mapSeq (· ++ vs.toArray))).push (seqObj "list" vs.toArray 0)).get? (s.heap.objs.size + 1)=some (seqObj "list" vs.toArray 0):=by
  rw[<-hsz];exact Heap.get?_push_size _ rfl
 show wpAny _ _ _ _ _ {s with heap:=((s.heap.push (seqObj "list" #[] 0)).update s.heap.objs.size (Obj.mapSeq (· ++ vs.toArray))).push (seqObj "list" vs.toArray 0)}
 rw[hsz]
 refine wpAny_bind (wpAny_holding (wpAny_call_entry slot_list_sort ⟨_,hoL,rfl⟩ entry_list_sort (list_sort_tree hoL hI h64 fun out ns' a1 a2 a3=>⟨_,rfl,?_⟩) (args_list_sort _)))
 exact wpAny_pure ⟨_,rfl,h out ns' a1 a2 a3⟩
end
end PyProof.Rows
namespace L2
open PySem PyProof.Rows
section
variable {X:Cx}{K:PySem.W.Frag}{pins:List V}{σ:St}{H:Hp}{s:Shared}{E:XK}
def yN (K:PySem.W.Frag):List V->Hp->VK->Prop:=fun xs H Q=>∃a ns,xs= [.ref a]/\(hZ K H a (ns.map V.int)\/eh K H a (ns.map V.int))/\ns.length < 64/\∀l,H l=none->Q (.ref l) (upd H l (.lst ((sortI ns).map V.int)))
theorem vY:c7 X (.builtin "sorted") (yN X.K):=by
 intro pins s σ H xs us Q I r h
 obtain⟨a,ns,rfl,hq,hl,q⟩:=h
 rcases hq with hq |hq
 ·exact vU pins s σ H [.ref a] us Q I r ⟨a,ns,rfl,hq,hl,q⟩
 obtain⟨u,rfl,rx⟩:=vals1 r
 cases rx
 obtain⟨its,rv,pl,hz⟩:=I.tuple hq
 have hil:its.length=ns.length:=by rw[<-rv.length,List.length_map]
 refine rf pl (intsAre_of rv) (by omega) fun out ns' a1 a2 a3=>?_
 obtain rfl:=lr a2 a3
 obtain⟨c,he⟩:=sortedAll_at s.heap its out
 have hf:H (s.heap.objs.size + 1)=none:=I.hok.fresh (Nat.le_succ _)
 have hz':((sortI ns).map V.int).length<=sizeLine:=by
  have:=a2.length_eq
  rw[List.length_map,sizeLine_eq];omega
 have I2:Inv X pins σ (upd H (s.heap.objs.size + 1) (.lst ((sortI ns).map V.int))) {s with heap:=sortedAll s.heap its out,toks:=s.toks}:=I.laid (t':=s.toks) (fun _ _=>sortedAll_old) (Nat.le_succ _) (show cJ X.prog X.w _ _ _ (.lst ((sortI ns).map V.int)) from⟨hz',out.toList,c,sH a1,he⟩)
 exact⟨.ref _,_,I2,rfl,q _ hf⟩
def oo (d:D):Option D:=match lB d with
 |some ds=>(match iB ds with
  |some ns=>if ns.length < 64 then some (.list ((sortI ns).map PyData.int)) else none
  |none=>none)
 |_=>none
theorem Co:A9 K (fun x=>yN K [x]) oo .w:=by
 intro B G H x dx d Q s hB bx e k
 unfold oo at e
 cases q:lB dx with
 |none=>rw[q] at e;cases e
 |some ds=>
  rw[q] at e
  dsimp only at e
  cases q2:iB ds with
  |none=>rw[q2] at e;cases e
  |some ns=>
   rw[q2] at e
   dsimp only at e
   split at e
   ·rename_i hz
    cases e
    obtain⟨p,xs,rfl,hq,r⟩:=bx.seq q s
    rw[lM q2] at r
    have r:=r.intsB
    subst r
    refine⟨p,ns,rfl,hq,hz,fun l hl=>?_⟩
    have hh:aq H (upd H l (.lst ((sortI ns).map V.int))):=aq.new hl
    refine k _ _ _ (Ext.tups s hh) ⟨l,rfl,hl,?_,_,aA,cx.ints _⟩
    unfold lL
    rw[s.free hl,aA]
    exact if_neg fun y=>y
   ·cases e
end
end L2

end

section
namespace RM
open PySem L2
def lV:SF:=(b4 (hX (f1 (gv 0) (gq "int")) (f1 (f1 (gv 0) (gq "bool")) xZ)))
def ky (ba:List D->FR):SF:=(aO (jz ([] ++ ([] ++ [])) (kT (nC (kR (f1 (gv 0) (gq "tuple")))) (jh (f2 (f1 (gv 0) bS) (gv 1) (gu true))))
 (b4 (cst (.bool false)))
 kz)
 (b4 (hX (f1 (aU 1 [1] (.nm 0) (dv (gv 0)) ij (az ba (ae (gv 0) (ae (gv 1) au)))) (bR fun bs=>bs.all id)) (f2 (f1 (gv 0) nU) (gv 1) (gu false)))))
def me:SF:=(aO (om 1 (([] ++ []) ++ []) (f2 (dY (ae (cst (.int 0)) au)) (f1 (gv 0) bS) za))
 (aO (gB (.two 2 3) [] (An (gv 0))
 (sW 1 [2] [] (gv 2) (gv 3)))
 (AE 1)))
def fL (gX df:List D->FR):SF:=(aO (jz ([0] ++ (([] ++ []) ++ [])) (nC (kR (az gX (ae (gv 0) (ae (f2 (gv 1) (cst (.int 0)) bw) au)))))
 (b4 (cst (.bool false)))
 kz)
 (aO (cy 2 ([0] ++ []) (az df (ae (gv 0) au)))
 (b4 (f1 (aU 2 [2] (.two 0 1) (dv (f2 (gv 1) (cst (.int 1)) bw)) ij (f2 (f2 (gv 2) (gv 0) bw) (f2 (gv 2) (gv 1) bw) sO)) (bR fun bs=>bs.all id)))))
def eJ:SF:=(b4 (f1 (aU 1 [1,2] (.nm 0) (dv (gv 0)) ij (f2 (f2 (gv 0) (gv 1) bw) (f2 (gv 0) (gv 2) bw) sO)) (bR fun bs=>bs.all id)))
def eY (df cN cG:List D->FR):SF:=(aO (cy 2 ([] ++ []) (aU 1 [] (.nm 0) (dv (gv 1)) ij (az df (ae (gv 0) au))))
 (b4 (f1 (aU 2 [2] (.two 0 1) (dv (az cN (ae (gv 0) au))) (kR (az cG (ae (gv 2) (ae (gv 0) (ae (gv 1) au))))) (de (ae (gv 0) (ae (gv 1) au)))) gx)))
def jV (cT:List D->FR):SF:=(aO (jz ([] ++ ([] ++ [])) (kT (nC (kR (f1 (gv 0) (gq "list")))) (jh (f2 (f1 (gv 0) bS) (cst (.int 0)) (gu false))))
 (b4 (cst (.bool false)))
 kz)
 (b4 (f1 (aU 1 [1] (.nm 0) (dv (gv 0)) ij (az cT (ae (gv 0) (ae (gv 1) au)))) (bR fun bs=>bs.all id))))
def vt (aL fy cB:List D->FR):SF:=(aO (eH ([1] ++ []) (az aL (ae (gv 1) au)))
 (b4 (hX (az fy (ae (gv 0) (ae (gv 1) au))) (f2 (az cB (ae (f2 (gv 1) (cst (.int 0)) bw) (ae (gv 0) au))) (f2 (gv 1) (cst (.int 1)) bw) (gu false)))))
end RM

end

section

end

section

end

section

end

section

end

section

end

section

end

section

end

section

end

section
namespace L2
open PySem PySem.Spec PyProof.Rows
section
variable {K:PySem.W.Frag}{X:Cx}{G H:Hp}{Γ:Fx}{E:XK}{e a b c:Expr}{f fa fb fc:VF D}{L La Lb:List Nat}{md ma mb mc:Md}{pos apos cpos np:Pos}{fr:VF (List D)}
def Fj (i j k:Int):Int:=if j > i then (if k > j then k else j) else (if k > i then k else i)
theorem x8 (hc:X.calm=true):c7 X (.builtin "max") (fun xs H Q=>∃i j k,xs= [.int i,.int j,.int k]/\Q (.int (Fj i j k)) H):=by
 intro pins s σ H xs us Q I r h
 obtain⟨i,j,k,rfl,q⟩:=h
 obtain⟨u1,u2,u3,rfl,⟨t1,rfl⟩,⟨t2,rfl⟩,⟨t3,rfl⟩⟩:∃u1 u2 u3,us= [u1,u2,u3]/\RelV (.int i) u1/\RelV (.int j) u2/\RelV (.int k) u3:=by
  cases r with
  |cons r1 r=>cases r with
   |cons r2 r=>cases r with
    |cons r3 r=>cases r;exact⟨_,_,_,rfl,r1,r2,r3⟩
 refine max_three_ints (I.ok.hd hc) fun h' tk kp=>⟨_,H,I.kept kp,?_,q⟩
 unfold Fj
 split <;> split <;> exact⟨_,rfl⟩
def wH:List D->Option D
 | [.int i,.int j,.int k]=>some (.int (Fj i j k))
 |_=>none
theorem BM {ds:List D}{d:D}(h:wH ds=some d):∃i j k,ds= [.int i,.int j,.int k]/\d=.int (Fj i j k):=by
 unfold wH at h
 split at h
 ·cases h;exact⟨_,_,_,rfl,rfl⟩
 ·cases h
def xw (fr:VF (List D)):VF D:=fun vs β=>(fr vs β).bnd fun ds β1=>R.of (wH ds) β1
theorem BR {p:Pos}(hc:X.calm=true)(hg:Gl X "max")(hm:X.mg "max"=none)(ha:SA X Γ E [a,b,c] fr L)
  (he:starEach [a,b,c] X.env=(false,eval a X.env) :: starEach [b,c] X.env:=by rfl) (hpl:(backTo pos (starEach [b,c] X.env)).any (·.1)=false:=by rfl):SE X Γ E (.Call (.Name "max" p) [a,b,c] [] pos) (xw fr) L .v:=by
 refine PE.post' (jo (x8 hc) hg hm (by decide +kernel) ha (by decide) (by decide) he hpl) fun σ H Q ⟨env,G,B,β,I,o⟩=>?_
 refine⟨env,G,B,β,I,o.bnd.imp fun ds β1 k xs G1 H1 I1 s1 m1 r=>?_⟩
 cases q:wH ds with
 |none=>rw[q] at k;exact k.elim
 |some d=>
  rw[q] at k
  obtain⟨i,j,l,rfl,rfl⟩:=BM q
  cases r with
  |cons r1 r=>cases r with
   |cons r2 r=>cases r with
    |cons r3 r=>
     cases r
     cases r1
     cases r2
     cases r3
     exact⟨i,j,l,rfl,k _ G1 H1 I1 s1 m1 (.int _)⟩
def w8 (i j k l:Nat)(d:D)(env:En):Option En:=match d with
 | .tuple [x,y]=>(dW (.two i j) x env).bind fun env1=>dW (.two k l) y env1
 |_=>none
def rq (i j k l:Nat)(L:List Nat)(f:VF D):SF:=fun env β=>toS (f (vl env) β) fun d β'=>match w8 i j k l d (a9 L env) with
 |some env'=>.nx env' β'
 |none=>.bad
theorem CM {i j k l:Nat}{t1 t2:Expr}{n:Nat}{pt:Pos}(he:SE X Γ E e f L .v)(g1:SG X Γ t1 (.two i j))(g2:SG X Γ t2 (.two k l))(ha1:(assignEach [t1,t2] X.env).map (·.2)=assign t1 X.env :: (assignEach [t2] X.env).map (·.2):=by rfl)(ha2:(assignEach [t2] X.env).map (·.2)=assign t2 X.env :: (assignEach [] X.env).map (·.2):=by rfl)(hn2:(assignEach [t1,t2] X.env).length=2:=by rfl)(hst:(assignEach [t1,t2] X.env).findIdx? (·.1)=none:=by rfl)(hc:X.calm=true:=by rfl)(hK:X.K=Γ.K:=by rfl)(hs:swapsWithSole [.Tuple [t1,t2] n pt] e pos.line X.env=pure false:=by rfl)(hw:swappedStores [.Tuple [t1,t2] n pt] e X.env=pure none:=by rfl)
  (h1:(assignEach [.Tuple [t1,t2] n pt] X.env).map (·.2)= [assign (.Tuple [t1,t2] n pt) X.env]:=by rfl):SS X Γ E (.Assign [.Tuple [t1,t2] n pt] e pos) (rq i j k l L f):=by
 refine PS.post (mr he (mw (n:=2) hc (cO g1 (cO g2 kL ha2) ha1) hn2 hst) hs hw h1) fun N σ H ⟨env,G,B,β,I,o⟩=>?_
 refine⟨env,G,B,β,I,cA o fun d β' kk v G' H' I' s' m' vo=>?_⟩
 rw[hK]
 have vo:Rp Γ.K G' v d:=vo
 cases q:w8 i j k l d (a9 L env) with
 |none=>rw[q] at kk;exact kk.elim
 |some env'=>
  rw[q] at kk
  obtain⟨x,y,rfl⟩:∃x y,d=.tuple [x,y]:=by
   unfold w8 at q
   split at q
   ·exact⟨_,_,rfl⟩
   ·cases q
  have q:(dW (.two i j) x (a9 L env)).bind (fun env1=>dW (.two k l) y env1)=some env':=q
  cases q1:dW (.two i j) x (a9 L env) with
  |none=>rw[q1] at q;cases q
  |some env1=>
   rw[q1] at q
   cases vo with
   | @tup p xs _ hq r=>
    cases r with
    |cons r1 r=>
     cases r with
     |cons r2 r=>
      cases r
      exact⟨p,_,rfl,hq.grow I'.sub.grow,rfl,_,_,rfl,a9 L env,G',B,β',x,env1,I',r1,q1,fun σ1 J1=>⟨_,_,rfl,env1,G',B,β',y,env',J1,r2,q,fun σ2 J2=>⟨rfl,kk B G' H' σ2 J2 s'⟩⟩⟩
end
end L2

end

section
namespace RM
open PySem L2
def fH (bP bN:List D->FR):SF:=(aO (eH ([0] ++ ([1] ++ [])) (az bP (ae (gv 0) (ae (gv 1) au))))
 (eH ((([] ++ []) ++ ([] ++ [])) ++ []) (az bN (ae (f2 (f2 (gv 0) (cst (.int 0)) bw) (f2 (gv 1) (cst (.int 0)) bw) bI) au))))
def dN (bP bc bN:List D->FR):SF:=(aO (eH ([0] ++ ([2] ++ [])) (az bP (ae (gv 0) (ae (gv 2) au))))
 (aO (eH ([0] ++ ([1] ++ [])) (az bc (ae (gv 0) (ae (gv 1) au))))
 (eH (((([] ++ []) ++ ([] ++ [])) ++ []) ++ []) (az bN (ae (f2 (f2 (f2 (gv 0) (cst (.int 0)) bw) (f2 (gv 2) (cst (.int 0)) bw) bI) (cst (.int 1)) qL) au)))))
def rC:SF:=(b4 (HK (jh (f2 (gv 0) (gv 1) Fs)) (f2 (gv 0) (gv 2) bI) (gv 0)))
def iQ (lj:List D->FR):SF:=(aO (jz ([2] ++ ([0] ++ [])) (nC (kR (az lj (ae (gv 2) (ae (gv 0) au)))))
 (fun env β=>toS ((ae (cst (.str "these are no rows that tell the first order")) au) (vl env) β) fun ds _=>if ds.length<=sizeLine then .exc "NoRows" else .bad)
 kz)
 (jz ([3] ++ ([1] ++ [])) (nC (kR (az lj (ae (gv 3) (ae (gv 1) au)))))
 (fun env β=>toS ((ae (cst (.str "these are no rows that tell the other order")) au) (vl env) β) fun ds _=>if ds.length<=sizeLine then .exc "NoRows" else .bad)
 kz))
def o9:SF:=(b4 (f2 (gv 0) (f2 (gv 1) (f2 (f1 (gv 0) bS) (cst (.int 1)) qL) (pG fun i j=>.int (if j < i then j else i))) bw))
def jT:SF:=(b4 (f1 (aU 1 [1] (.nm 0) (dv (gv 0)) ij (f2 (gv 0) (gv 1) bI)) gx))
def fN (bu a7 bt aM:List D->FR):SF:=(aO (eH ([0] ++ ([1] ++ [])) (az bu (ae (gv 0) (ae (gv 1) au))))
 (aO (eH ([0] ++ ([1] ++ ([2] ++ ([3] ++ [])))) (az a7 (ae (gv 0) (ae (gv 1) (ae (gv 2) (ae (gv 3) au))))))
 (aO (cy 4 ([] ++ []) (f2 (f1 (gv 2) bS) (f1 (gv 3) bS) (pG fun i j=>.int (if j > i then j else i))))
 (kX (aU 1 [2,3,0] (.nm 0) (cj (gv 4)) ij (f2 (az bt (ae (gv 1) (ae (gv 0) au))) (az aM (ae (az bt (ae (gv 2) (ae (gv 0) au))) (ae (f2 (gv 3) (cst (.int 0)) bw) au))) kq))))))
def fK (bu a7 bt aM:List D->FR):SF:=(aO (eH ([0] ++ ([1] ++ [])) (az bu (ae (gv 0) (ae (gv 1) au))))
 (aO (eH ([0] ++ ([1] ++ ([2] ++ ([3] ++ [])))) (az a7 (ae (gv 0) (ae (gv 1) (ae (gv 2) (ae (gv 3) au))))))
 (aO (cy 4 (([] ++ ([] ++ ([] ++ []))) ++ []) (f2 (xw (ae (f1 (gv 2) bS) (ae (f1 (gv 3) bS) (ae (cst (.int 2)) au)))) (cst (.int 1)) qL))
 (aO (cy 5 ([] ++ [2,3]) (aU 1 [2,3,0] (.nm 0) (cj (gv 4)) ij (f2 (az bt (ae (gv 1) (ae (gv 0) au))) (az aM (ae (az bt (ae (gv 2) (ae (gv 0) au))) (ae (f2 (gv 3) (cst (.int 0)) bw) au))) kq)))
 (kX (f2 (gv 5) (dY (ae (f2 (az aM (ae (az bt (ae (gv 3) (ae (gv 4) au))) (ae (f2 (gv 0) (cst (.int 0)) bw) au))) (az bt (ae (gv 2) (ae (gv 4) au))) kq) au)) nu))))))
def eV (kC aM:List D->FR):SF:=(aO (cy 3 ([] ++ []) (l8 (gv 0) (gv 1)))
 (aO (cy 4 ([] ++ [1]) (f1 (aU 1 [1,2] (.nm 0) (dv (gv 0)) ij (az kC (ae (gv 0) (ae (gv 1) (ae (f2 (f1 (gv 2) bS) (cst (.int 1)) qL) au))))) gx))
 (b4 (f2 (f2 (qX (gv 4) (fun _ β=>.ok none β) (BQ (gv 3))) (az aM (ae (gv 2) (ae (gv 1) au))) kq) (qX (gv 4) (BQ (f2 (gv 3) (cst (.int 1)) bI)) (fun _ β=>.ok none β)) kq))))
def dP (b8 a7 cE bt:List D->FR):SF:=(aO (eH ([0] ++ ([1] ++ ([2] ++ []))) (az b8 (ae (gv 0) (ae (gv 1) (ae (gv 2) au)))))
 (aO (eH ([0] ++ ([2] ++ ([3] ++ ([4] ++ [])))) (az a7 (ae (gv 0) (ae (gv 2) (ae (gv 3) (ae (gv 4) au))))))
 (aO (cy 5 ([] ++ []) (f2 (f1 (gv 3) bS) (f1 (gv 4) bS) (pG fun i j=>.int (if j > i then j else i))))
 (kX (aU 1 [3,1,4] (.nm 0) (cj (gv 5)) ij (az cE (ae (az bt (ae (gv 1) (ae (gv 0) au))) (ae (gv 2) (ae (az bt (ae (gv 3) (ae (gv 0) au))) au)))))))))
noncomputable def iI (dk bO:List D->FR):SF:=(aO (jz ([] ++ ([] ++ [])) (kT (nC (kR (f1 (gv 0) (gq "list")))) (jh (f2 (gv 0) (dY au) (gu false))))
 (b4 (cst (.bool false)))
 kz)
 (aO (gB (.nm 2) [0] (dv (gv 0))
 (aO (jz ([] ++ ([] ++ [])) (kT (nC (kR (f1 (gv 2) (gq "tuple")))) (nC (kR (f1 (aU 1 [] (.nm 0) (dv (gv 2)) ij (az dk (ae (gv 0) au))) (bR fun bs=>bs.all id)))))
 (b4 (cst (.bool false)))
 kz)
 (jz ([] ++ ([] ++ [])) (jh (f2 (f1 (gv 2) oo) (f1 (f2 (gv 1) (cst (.int 0)) bw) g8) (gu true)))
 (b4 (cst (.bool false)))
 kz)))
 (b4 (f2 (az bO (ae (f2 (gv 1) (cst (.int 0)) bw) (ae (gv 0) au))) (f2 (gv 1) (cst (.int 1)) bw) (gu false)))))
noncomputable def fQ:SF:=(aO (cy 2 (([] ++ []) ++ []) (aU 2 [0] (.two 0 1) (dv (f2 (gv 1) (cst (.int 1)) bw)) ij (de (ae (f2 (gv 0) (f2 (gv 2) (cst (.int 0)) bw) bI) (ae (f2 (gv 1) (f2 (gv 2) (cst (.int 0)) bw) bI) au)))))
 (b4 (de (ae (f2 (f2 (gv 0) (cst (.int 0)) bw) (f2 (gv 1) (cst (.int 0)) bw) bI) (ae (f1 (f1 (f2 (f1 (f2 (gv 0) (cst (.int 1)) bw) nh) (gv 2) nu) jB) gx) au)))))
noncomputable def fM (bo:List D->FR):SF:=(aO (cy 2 (([0] ++ ([1] ++ [])) ++ []) (f1 (f2 (az bo (ae (gv 0) (ae (gv 1) au))) (cst (.int 1)) bw) nh))
 (aO (gB (.nm 3) ([] ++ []) (cj (f2 (gv 0) (cst (.int 0)) bw))
 (cy 2 ([] ++ (([] ++ []) ++ [3])) (f2 (gv 2) (aU 1 [3,0] (.nm 0) (cj (f2 (gv 1) (cst (.int 0)) bw)) ij (de (ae (gv 1) (ae (f2 (f2 (gv 2) (cst (.int 0)) bw) (gv 0) bI) au)))) nu)))
 (b4 (de (ae (f2 (f2 (gv 0) (cst (.int 0)) bw) (f2 (gv 1) (cst (.int 0)) bw) bI) (ae (f1 (f1 (gv 2) jB) gx) au))))))
def dF:SF:=(aO (cy 3 [] (dY au))
 (aO (gB (.nm 4) ([] ++ []) (cj (f2 (gv 0) (cst (.int 0)) bw))
 (cy 3 ([] ++ ((([] ++ (([] ++ []) ++ [])) ++ ([] ++ [])) ++ [4])) (f2 (gv 3) (aU 1 [4] (.nm 0) (cj (f2 (dY (ae (cst (.int 1)) (ae (f2 (gv 2) (cst (.int 0)) bw) au))) (f1 (f2 (gv 4) (gv 1) (gu false)) yp) bw)) ij (de (ae (gv 1) (ae (gv 0) au)))) nu)))
 (aO (om 5 [] (dY au))
 (aO (gB (.nm 6) [] (cj (f1 (gv 3) bS))
 (gB (.nm 7) [] (cj (f1 (gv 3) bS))
 (jz ((([] ++ []) ++ []) ++ (([] ++ []) ++ [])) (jh (f2 (f2 (f2 (gv 3) (gv 6) bw) (cst (.int 0)) bw) (f2 (f2 (gv 3) (gv 7) bw) (cst (.int 0)) bw) (gu false)))
 (jz (((([] ++ []) ++ []) ++ []) ++ (((([] ++ []) ++ []) ++ ((([] ++ []) ++ []) ++ [])) ++ ([] ++ []))) (CJ (jh (f2 (f2 (f2 (gv 3) (gv 6) bw) (cst (.int 0)) bw) (gv 1) (gu false))) (jh (f2 (de (ae (f2 (f2 (gv 3) (gv 6) bw) (cst (.int 1)) bw) (ae (f2 (f2 (gv 3) (gv 7) bw) (cst (.int 1)) bw) au))) (f2 (gv 2) (cst (.int 1)) bw) (Dq false))))
 (nr 5 ([6] ++ ([7] ++ [])) (de (ae (gv 6) (ae (gv 7) au))))
 kz)
 (jz (((([] ++ []) ++ []) ++ ((([] ++ []) ++ []) ++ [])) ++ ([] ++ [])) (jh (f2 (de (ae (f2 (f2 (gv 3) (gv 6) bw) (cst (.int 0)) bw) (ae (f2 (f2 (gv 3) (gv 7) bw) (cst (.int 0)) bw) au))) (f2 (gv 0) (cst (.int 1)) bw) (Dq false)))
 (nr 5 ([6] ++ ([7] ++ [])) (de (ae (gv 6) (ae (gv 7) au))))
 kz))))
 (b4 (de (ae (f1 (gv 3) bS) (ae (f1 (gv 5) gx) au))))))))
def gM (bO:List D->FR)(aN b9:List D->Int->FB):SF:=(aO (cy 1 ([] ++ ([] ++ [])) (f2 (cst (.int 1)) (qQ 0 aN (ae (cst (.int 4)) au)) bI))
 (aO (cy 2 (([] ++ ([] ++ [])) ++ []) (aU 1 [0,1] (.nm 0) (cj (f2 (cst (.int 1)) (qQ 0 aN (ae (cst (.int 3)) au)) bI)) ij (qQ 1 b9 (ae (f1 (gv 2) g8) au))))
 (aO (cy 3 ([1] ++ (([1] ++ ([2] ++ [])) ++ [])) (de (ae (gv 1) (ae (az bO (ae (gv 1) (ae (gv 2) au))) au))))
 (aO (jz (([] ++ []) ++ []) (jh (f2 (qQ 0 aN (ae (cst (.int 3)) au)) (cst (.int 2)) (gu false)))
 (cy 2 ([] ++ (([] ++ ([] ++ [])) ++ [])) (f2 (gv 2) (dY (ae (f2 (gv 2) (qQ 0 aN (ae (f1 (gv 2) bS) au)) bw) au)) nu))
 kz)
 (b4 (de (ae (gv 3) (ae (gv 2) au))))))))
def wo (fm cX cI c3 cV bo cf cg:List D->FR)(cL aN:List D->Int->FB):SF:=(aO (gB (.nm 1) ([] ++ ([] ++ [])) (cj (f2 (cst (.int 1)) (f2 (f1 (gv 0) bS) (cst (.int 3)) (pG fun i j=>.int (if j < i then j else i))) (pG fun i j=>.int (if j > i then j else i))))
 (aO (wK 2 ([0] ++ ([1] ++ [])) (uC fm (ae (gv 0) (ae (gv 1) au))))
 (aO (rq 3 4 5 6 ([] ++ ([] ++ [])) (de (ae (qQ 2 cL au) (ae (qQ 2 cL au) au))))
 (aO (cy 7 (([] ++ []) ++ []) (qQ 2 aN (ae (f2 (gv 3) (cst (.int 0)) bw) au)))
 (aO (cy 8 ([] ++ ([] ++ [])) (dY (ae (f1 (gv 4) nh) (ae (f1 (gv 6) nh) au))))
 (aO (cy 9 ([] ++ []) (f2 (f1 (gv 4) bS) (f1 (gv 6) bS) (pG fun i j=>.int (if j > i then j else i))))
 (aO (cy 10 ([3] ++ ([5] ++ ([4] ++ ([6] ++ [])))) (az cX (ae (gv 3) (ae (gv 5) (ae (gv 4) (ae (gv 6) au))))))
 (aO (jz (([] ++ []) ++ ([10] ++ (([3] ++ ([5] ++ [])) ++ []))) (kT (jh (f2 (f1 (gv 10) bS) (gv 9) (gu true))) (nC (kR (az cI (ae (gv 10) (ae (az c3 (ae (gv 3) (ae (gv 5) au))) au))))))
 (b4 (cst (.bool false)))
 kz)
 (aO (cy 10 ([3] ++ ([5] ++ ([4] ++ ([6] ++ [])))) (az cV (ae (gv 3) (ae (gv 5) (ae (gv 4) (ae (gv 6) au))))))
 (aO (jz (([] ++ ([] ++ [])) ++ ([10] ++ (([3] ++ ([5] ++ [])) ++ []))) (kT (jh (f2 (f1 (gv 10) bS) (f2 (cst (.int 2)) (gv 9) (pG fun i j=>.int (if j > i then j else i))) (gu true))) (nC (kR (az cI (ae (gv 10) (ae (az bo (ae (gv 3) (ae (gv 5) au))) au))))))
 (b4 (cst (.bool false)))
 kz)
 (aO (cy 10 ([3] ++ ([7] ++ ([5] ++ ([4] ++ ([6] ++ []))))) (az cf (ae (gv 3) (ae (gv 7) (ae (gv 5) (ae (gv 4) (ae (gv 6) au)))))))
 (jz (([] ++ []) ++ (([10] ++ (([3] ++ ([7] ++ ([5] ++ []))) ++ [])) ++ (([4] ++ ([6] ++ [])) ++ []))) (kT (jh (f2 (f1 (gv 10) bS) (gv 9) (gu true))) (kT (nC (kR (az cI (ae (gv 10) (ae (az cg (ae (gv 3) (ae (gv 7) (ae (gv 5) au)))) au))))) (jh (f2 (dY (ae (gv 4) (ae (gv 6) au))) (gv 8) (gu true)))))
 (b4 (cst (.bool false)))
 kz))))))))))))
 (b4 (cst (.bool true))))
end RM

end

section
namespace RQ
open PySem L2 RM
def top (i:Nat):Stmt:=PySem.Challenge.pw_rowsorder_k63_rows_put_together.main.body.getD i (.Pass ⟨0,0,0,0⟩)
section
variable {P:Program}{w:World}{K:PySem.W.Frag}{mg:Str->Option Value}{base:Heap}{ca:Str->Addr}
abbrev jA:Stmt:=top 2
theorem tP:aC ["thing"] ["thing"] (ao jA):=⟨rfl,rfl,rfl,by decide +kernel,rfl,by decide +kernel,by decide +kernel⟩
theorem rh {f:Addr}{fd:FuncData}(F:iM K mg "is_whole" jA ["thing"] f fd)(B:i8 mg):b6 P w K mg base ca "is_whole" ["thing"] 1 (aW 1 1 (pk)):=
 ⟨⟨f,fd,F.mg,F.F.kp,F.b,aK (N:=["thing"]) (k:=0) F.F tP fun cdv A outer s H G E hr=>
  (@ay _ _ _ _ _ (aX (kn (hU "int" (by decide) rfl rfl B.isinstance rfl B.int (by decide +kernel) (af 0)) (kf (vG (hU "bool" (by decide) rfl rfl B.isinstance rfl B.bool (by decide +kernel) (af 0)))) (fun _ _=>rfl))))⟩,fun ds h=>aH ds h⟩
abbrev jM:Stmt:=top 3
theorem ug:aC ["thing","bound"] ["thing","bound"] (ao jM):=⟨rfl,rfl,rfl,by decide +kernel,rfl,by decide +kernel,by decide +kernel⟩
theorem rN {f:Addr}{fd:FuncData}{b5:List D->FR}(F:iM K mg "is_below" jM ["thing","bound"] f fd)(B:i8 mg)(fw:b6 P w K mg base ca "is_whole" ["thing"] 1 b5):b6 P w K mg base ca "is_below" ["thing","bound"] 2 (aW 2 2 (pA b5)):=
 ⟨⟨f,fd,F.mg,F.F.kp,F.b,aK (N:=["thing","bound"]) (k:=1) F.F ug fun cdv A outer s H G E hr=>
  (@ay _ _ _ _ _ (aX (kn (ax fw (hr.mono (by decide)) aQ rfl rfl (aa (ak 0 rfl) ah)) (kf (tS AO uk Dy zd aw (af 0) (af 1))) (fun _ _=>rfl))))⟩,fun ds h=>aH ds h⟩
abbrev kM:Stmt:=top 4
theorem vf:aC ["thing"] ["thing"] (ao kM):=⟨rfl,rfl,rfl,by decide +kernel,rfl,by decide +kernel,by decide +kernel⟩
theorem tJ {f:Addr}{fd:FuncData}{b5:List D->FR}(F:iM K mg "is_many" kM ["thing"] f fd)(B:i8 mg)(fw:b6 P w K mg base ca "is_whole" ["thing"] 1 b5){jc:Tok}(cW:mg "MOST_THINGS"=some (.int 8 jc)):b6 P w K mg base ca "is_many" ["thing"] 2 (aW 1 1 (qx b5)):=
 ⟨⟨f,fd,F.mg,F.F.kp,F.b,aK (N:=["thing"]) (k:=1) F.F vf fun cdv A outer s H G E hr=>
  (@ay _ _ _ _ _ (aX (kn (ax fw (hr.mono (by decide)) aQ rfl rfl (aa (ak 0 rfl) ah)) (kf (tS AO AO Dy Dy aw (af 0) (wu (by rfl) cW))) (fun _ _=>rfl))))⟩,fun ds h=>aH ds h⟩
abbrev kI:Stmt:=top 5
theorem vn:aC ["thing","many"] ["thing","many"] (ao kI):=⟨rfl,rfl,rfl,by decide +kernel,rfl,by decide +kernel,by decide +kernel⟩
theorem uj {f:Addr}{fd:FuncData}{ba:List D->FR}(F:iM K mg "is_pair" kI ["thing","many"] f fd)(B:i8 mg)(cw:b6 P w K mg base ca "is_below" ["thing","bound"] 2 ba):b6 P w K mg base ca "is_pair" ["thing","many"] 3 (aW 2 2 (qp ba)):=
 ⟨⟨f,fd,F.mg,F.F.kp,F.b,aK (N:=["thing","many"]) (k:=2) F.F vn fun cdv A outer s H G E hr=>
  (@ar _ _ _ _ _ _ _ (cS (qS.t (kh (c4 (cC rfl (hU "tuple" (by decide) rfl rfl B.isinstance rfl B.tuple (by decide +kernel) (af 0)))) (i7 (cv (jf hr.units) iC (aF aV cR rfl B.len PySem.boot_len (af 0)) aw (bG _))) (fun _ _=>rfl)))
  (@ay _ _ _ _ _ (aX iU))
  bX)
  (@ay _ _ _ _ _ (aX (kn (ax cw (hr.mono (by decide)) aQ rfl rfl (aa (aP aE bC (af 0) aw (fun _ _=>rfl)) (aa (ak 1 rfl) ah))) (kf (ax cw (hr.mono (by decide)) aQ rfl rfl (aa (aP aE bC (af 0) aw (fun _ _=>rfl)) (aa (ak 1 rfl) ah)))) (fun _ _=>rfl)))))⟩,fun ds h=>aH ds h⟩
abbrev kB:Stmt:=top 6
theorem vZ:aC ["thing","many"] ["thing","many"] (ao kB):=⟨rfl,rfl,rfl,by decide +kernel,rfl,by decide +kernel,by decide +kernel⟩
theorem uA {f:Addr}{fd:FuncData}{ba:List D->FR}(F:iM K mg "is_line" kB ["thing","many"] f fd)(B:i8 mg)(cw:b6 P w K mg base ca "is_below" ["thing","bound"] 2 ba):b6 P w K mg base ca "is_line" ["thing","many"] 3 (aW 2 2 (ky ba)):=
 ⟨⟨f,fd,F.mg,F.F.kp,F.b,aK (N:=["thing","many"]) (k:=2) F.F vZ fun cdv A outer s H G E hr=>
  (@ar _ _ _ _ _ _ _ (cS (qS.t (kh (c4 (cC rfl (hU "tuple" (by decide) rfl rfl B.isinstance rfl B.tuple (by decide +kernel) (af 0)))) (i7 (cv (jf hr.units) iC (aF aV cR rfl B.len PySem.boot_len (af 0)) (af 1) (bG _))) (fun _ _=>rfl)))
  (@ay _ _ _ _ _ (aX iU))
  bX)
  (@ay _ _ _ _ _ (aX (kn (aF (ic rfl) iP rfl B.all (by decide +kernel) (cq (NB:=["one","many"]) (own:=1) (ixs:=[1]) [1] rfl (cF (by kernel_rfl)) (fun _ _=>rfl) (mT rfl (af 0)) (fun H0 G0 par br bx C ex s3 H3 pn=>(cQ (i:=0) (show (["one","many"]:List Str).Nodup by decide +kernel))) (fun H0 G0 par br bx C ex s3 H3 pn hB1=>bV) (fun H0 G0 par br bx C ex s3 H3 pn hB1=>(ax cw (hr.mono (by decide)) gc rfl rfl (aa (ak 0 (hB1 0 (by decide))) (aa (ak 1 (hB1 1 (by decide))) ah)))))) (kf (jD (gy hr.units) iC (xO rfl rfl rfl B.len rfl B.set (af 0)) (af 1) (bG _))) (fun _ _=>rfl)))))⟩,fun ds h=>aH ds h⟩
abbrev eN:Stmt:=top 7
theorem p9:aC ["many"] ["many"] (ao eN):=⟨rfl,rfl,rfl,by decide +kernel,rfl,by decide +kernel,by decide +kernel⟩
theorem pD {f:Addr}{fd:FuncData}(F:iM K mg "every_pair" eN ["many"] f fd)(B:i8 mg):b6 P w K mg base ca "every_pair" ["many"] 1 (aW 1 1 (gJ)):=
 ⟨⟨f,fd,F.mg,F.F.kp,F.b,aK (N:=["many"]) (k:=0) F.F p9 fun cdv A outer s H G E hr=>
  (@ay _ _ _ _ _ (kJ (cq (NB:=["number","many"]) (own:=1) (ixs:=[0]) [] rfl (cF (by kernel_rfl)) (fun _ _=>rfl) (iq rfl B.range (bb kj lE (af 0) (af 0))) (fun H0 G0 par br bx C ex s3 H3 pn=>(cQ (i:=0) (show (["number","many"]:List Str).Nodup by decide +kernel))) (fun H0 G0 par br bx C ex s3 H3 pn hB1=>bV) (fun H0 G0 par br bx C ex s3 H3 pn hB1=>(dz (aa (bb rb FI (af 0) (af 1)) (aa (bb lC qM (af 0) (af 1)) ah)))))))⟩,fun ds h=>aH ds h⟩
abbrev jU:Stmt:=top 17
theorem um:aC ["pairs"] ["pairs"] (ao jU):=⟨rfl,rfl,rfl,by decide +kernel,rfl,by decide +kernel,by decide +kernel⟩
theorem si {f:Addr}{fd:FuncData}(F:iM K mg "has_ring" jU ["pairs"] f fd)(B:i8 mg):b6 P w K mg base ca "has_ring" ["pairs"] 1 (aW 1 1 (pB)):=
 ⟨⟨f,fd,F.mg,F.F.kp,F.b,aK (N:=["pairs"]) (k:=0) F.F um fun cdv A outer s H G E hr=>
  (@ay _ _ _ _ _ (aX (aF (Ao rfl) iP rfl B.any (by decide +kernel) (cq (NB:=["a","b"]) (own:=2) (ixs:=[]) [] rfl (cF (by kernel_rfl)) (fun _ _=>rfl) (mT rfl (af 0)) (fun H0 G0 par br bx C ex s3 H3 pn=>(lh (i:=0) (j:=1) (show (["a","b"]:List Str).Nodup by decide +kernel))) (fun H0 G0 par br bx C ex s3 H3 pn hB1=>bV) (fun H0 G0 par br bx C ex s3 H3 pn hB1=>(jD (gy hr.units) iC (af 0) (af 1) (bG _)))))))⟩,fun ds h=>aH ds h⟩
abbrev jC:Stmt:=top 15
theorem ko:aC ["thing","many","pairs"] ["thing"] (ao jC):=⟨rfl,rfl,rfl,by decide +kernel,rfl,by decide +kernel,by decide +kernel⟩
theorem qY {f:Addr}{fd:FuncData}{gY g7 jq fu:List D->FR}(F:iM K mg "is_order" jC ["thing"] f fd)(B:i8 mg)(mj:b6 P w K mg base ca "is_many" ["thing"] 2 gY)(mS:b6 P w K mg base ca "is_pair" ["thing","many"] 3 g7)(ph:b6 P w K mg base ca "closed" ["many","pairs"] 3 jq)(ly:b6 P w K mg base ca "has_ring" ["pairs"] 1 fu):b6 P w K mg base ca "is_order" ["thing"] 4 (aW 3 1 (g9 gY g7 jq fu)):=
 ⟨⟨f,fd,F.mg,F.F.kp,F.b,aK (N:=["thing","many","pairs"]) (k:=3) F.F ko fun cdv A outer s H G E hr=>
  (@ar _ _ _ _ _ _ _ (cS (qS.t (kh (c4 (cC rfl (hU "tuple" (by decide) rfl rfl B.isinstance rfl B.tuple (by decide +kernel) (af 0)))) (i7 (cv (jf hr.units) iC (aF aV cR rfl B.len PySem.boot_len (af 0)) aw (bG _))) (fun _ _=>rfl)))
  (@ay _ _ _ _ _ (aX iU))
  bX)
  (@ar _ _ _ _ _ _ _ (bF (i:=1) (aP aE bC (af 0) aw (fun _ _=>rfl)) ko.nd)
  (@ar _ _ _ _ _ _ _ (bF (i:=2) (aP aE bC (af 0) aw (fun _ _=>rfl)) ko.nd)
  (@ar _ _ _ _ _ _ _ (cS (qS.t (kh (c4 (cC rfl (ax mj (hr.mono (by decide)) aQ rfl rfl (aa (ak 1 rfl) ah)))) (i7 (c4 (cC rfl (hU "tuple" (by decide) rfl rfl B.isinstance rfl B.tuple (by decide +kernel) (af 2))))) (fun _ _=>rfl)))
  (@ay _ _ _ _ _ (aX iU))
  bX)
  (@ar _ _ _ _ _ _ _ (cS (c4 (cC rfl (aF (ic rfl) iP rfl B.all (by decide +kernel) (cq (NB:=["pair","many"]) (own:=1) (ixs:=[1]) [1] rfl (cF (by kernel_rfl)) (fun _ _=>rfl) (mT rfl (af 2)) (fun H0 G0 par br bx C ex s3 H3 pn=>(cQ (i:=0) (show (["pair","many"]:List Str).Nodup by decide +kernel))) (fun H0 G0 par br bx C ex s3 H3 pn hB1=>bV) (fun H0 G0 par br bx C ex s3 H3 pn hB1=>(ax mS (hr.mono (by decide)) gc rfl rfl (aa (ak 0 (hB1 0 (by decide))) (aa (ak 1 (hB1 1 (by decide))) ah))))))))
  (@ay _ _ _ _ _ (aX iU))
  bX)
  (@ay _ _ _ _ _ (aX (kn (jD (gy hr.units) iC (af 2) (ax ph (hr.mono (by decide)) aQ rfl rfl (aa (ak 1 rfl) (aa (ak 2 rfl) ah))) (bG _)) (kf (vG (ax ly (hr.mono (by decide)) aQ rfl rfl (aa (ak 2 rfl) ah)))) (fun _ _=>rfl)))))))))⟩,fun ds h=>aH ds h⟩
abbrev gO:Stmt:=top 18
theorem pP:aC ["thing"] ["thing"] (ao gO):=⟨rfl,rfl,rfl,by decide +kernel,rfl,by decide +kernel,by decide +kernel⟩
theorem nZ {f:Addr}{fd:FuncData}{fB:List D->FR}(F:iM K mg "need_order" gO ["thing"] f fd)(B:i8 mg)(lg:b6 P w K mg base ca "is_order" ["thing"] 4 fB)(jv:Exc K mg ca "NoOrder"):b6 P w K mg base ca "need_order" ["thing"] 5 (aW 1 1 (gK fB)):=
 ⟨⟨f,fd,F.mg,F.F.kp,F.b,aK (N:=["thing"]) (k:=4) F.F pP fun cdv A outer s H G E hr=>
  (@ay _ _ _ _ _ (cS (c4 (cC rfl (ax lg (hr.mono (by decide)) aQ rfl rfl (aa (ak 0 rfl) ah))))
  (@ay _ _ _ _ _ (j9 jv.ex jv.ca rfl jv.mg (aa pE ah)))
  bX))⟩,fun ds h=>aH ds h⟩
abbrev bW:Stmt:=top 19
theorem jr:aC ["order","thing"] ["order","thing"] (ao bW):=⟨rfl,rfl,rfl,by decide +kernel,rfl,by decide +kernel,by decide +kernel⟩
theorem jg {f:Addr}{fd:FuncData}{aL ba:List D->FR}(F:iM K mg "need_order_and_thing" bW ["order","thing"] f fd)(B:i8 mg)(bM:b6 P w K mg base ca "need_order" ["thing"] 5 aL)(cw:b6 P w K mg base ca "is_below" ["thing","bound"] 2 ba)(jm:Exc K mg ca "NoThing"):b6 P w K mg base ca "need_order_and_thing" ["order","thing"] 6 (aW 2 2 (bY aL ba)):=
 ⟨⟨f,fd,F.mg,F.F.kp,F.b,aK (N:=["order","thing"]) (k:=5) F.F jr fun cdv A outer s H G E hr=>
  (@ar _ _ _ _ _ _ _ (cM (ax bM (hr.mono (by decide)) aQ rfl rfl (aa (ak 0 rfl) ah)))
  (@ay _ _ _ _ _ (cS (c4 (cC rfl (ax cw (hr.mono (by decide)) aQ rfl rfl (aa (ak 1 rfl) (aa (aP aE bC (af 0) aw (fun _ _=>rfl)) ah)))))
  (@ay _ _ _ _ _ (j9 jm.ex jm.ca rfl jm.mg (aa pE ah)))
  bX)))⟩,fun ds h=>aH ds h⟩
abbrev lQ:Stmt:=top 22
theorem mn:aC ["row","found","place","thing"] ["row"] (ao lQ):=⟨rfl,rfl,rfl,by decide +kernel,rfl,by decide +kernel,by decide +kernel⟩
theorem v3 {f:Addr}{fd:FuncData}(F:iM K mg "places" lQ ["row"] f fd)(B:i8 mg):b6 P w K mg base ca "places" ["row"] 1 (aW 4 1 (me)):=
 ⟨⟨f,fd,F.mg,F.F.kp,F.b,aK (N:=["row","found","place","thing"]) (k:=0) F.F mn fun cdv A outer s H G E hr=>
  (@ar _ _ _ _ _ _ _ (lI (i:=1) (Em (eZ (aa aw ah)) (aF aV cR rfl B.len PySem.boot_len (af 0))) mn.nd)
  (@ar _ _ _ _ _ _ _ (i6 PassesOwn.leaving rfl (Av rfl rfl B.enumerate (af 0)) (lh (i:=2) (j:=3) mn.nd)
  (@ay _ _ _ _ _ (CN 1 (fun _=>rfl) (ak 2 rfl) (af 3))))
  (@ay _ _ _ _ _ (BP 1))))⟩,fun ds h=>aH ds h⟩
abbrev fI:Stmt:=top 21
theorem ki:aC ["thing","order","place"] ["thing","order"] (ao fI):=⟨rfl,rfl,rfl,by decide +kernel,rfl,by decide +kernel,by decide +kernel⟩
theorem nF {f:Addr}{fd:FuncData}{gX df:List D->FR}(F:iM K mg "keeps_order" fI ["thing","order"] f fd)(B:i8 mg)(mz:b6 P w K mg base ca "is_line" ["thing","many"] 3 gX)(jw:b6 P w K mg base ca "places" ["row"] 1 df):b6 P w K mg base ca "keeps_order" ["thing","order"] 4 (aW 3 2 (fL gX df)):=
 ⟨⟨f,fd,F.mg,F.F.kp,F.b,aK (N:=["thing","order","place"]) (k:=3) F.F ki fun cdv A outer s H G E hr=>
  (@ar _ _ _ _ _ _ _ (cS (c4 (cC rfl (ax mz (hr.mono (by decide)) aQ rfl rfl (aa (ak 0 rfl) (aa (aP aE bC (af 1) aw (fun _ _=>rfl)) ah)))))
  (@ay _ _ _ _ _ (aX iU))
  bX)
  (@ar _ _ _ _ _ _ _ (bF (i:=2) (ax jw (hr.mono (by decide)) aQ rfl rfl (aa (ak 0 rfl) ah)) ki.nd)
  (@ay _ _ _ _ _ (aX (aF (ic rfl) iP rfl B.all (by decide +kernel) (cq (NB:=["a","b","place"]) (own:=2) (ixs:=[2]) [] rfl (cF (by kernel_rfl)) (fun _ _=>rfl) (mT rfl (aP aE bC (af 1) aw (fun _ _=>rfl))) (fun H0 G0 par br bx C ex s3 H3 pn=>(lh (i:=0) (j:=1) (show (["a","b","place"]:List Str).Nodup by decide +kernel))) (fun H0 G0 par br bx C ex s3 H3 pn hB1=>bV) (fun H0 G0 par br bx C ex s3 H3 pn hB1=>(jD uk zd (aP aE bC (af 2) (af 0) (fun _ _=>rfl)) (aP aE bC (af 2) (af 1) (fun _ _=>rfl)) (bG _)))))))))⟩,fun ds h=>aH ds h⟩
abbrev e8:Stmt:=top 24
theorem ni:aC ["tables","a","b"] ["tables","a","b"] (ao e8):=⟨rfl,rfl,rfl,by decide +kernel,rfl,by decide +kernel,by decide +kernel⟩
theorem mE {f:Addr}{fd:FuncData}(F:iM K mg "stands_ahead" e8 ["tables","a","b"] f fd)(B:i8 mg):b6 P w K mg base ca "stands_ahead" ["tables","a","b"] 1 (aW 3 3 (eJ)):=
 ⟨⟨f,fd,F.mg,F.F.kp,F.b,aK (N:=["tables","a","b"]) (k:=0) F.F ni fun cdv A outer s H G E hr=>
  (@ay _ _ _ _ _ (aX (aF (ic rfl) iP rfl B.all (by decide +kernel) (cq (NB:=["place","a","b"]) (own:=1) (ixs:=[1,2]) [] rfl (cF (by kernel_rfl)) (fun _ _=>rfl) (mT rfl (af 0)) (fun H0 G0 par br bx C ex s3 H3 pn=>(cQ (i:=0) (show (["place","a","b"]:List Str).Nodup by decide +kernel))) (fun H0 G0 par br bx C ex s3 H3 pn hB1=>bV) (fun H0 G0 par br bx C ex s3 H3 pn hB1=>(jD uk zd (aP aE bC (af 0) (af 1) (fun _ _=>rfl)) (aP aE bC (af 0) (af 2) (fun _ _=>rfl)) (bG _)))))))⟩,fun ds h=>aH ds h⟩
abbrev eG:Stmt:=top 23
theorem jY:aC ["many","rows","tables"] ["many","rows"] (ao eG):=⟨rfl,rfl,rfl,by decide +kernel,rfl,by decide +kernel,by decide +kernel⟩
theorem mO {f:Addr}{fd:FuncData}{df cN cG:List D->FR}(F:iM K mg "shared_pairs" eG ["many","rows"] f fd)(B:i8 mg)(jw:b6 P w K mg base ca "places" ["row"] 1 df)(jN:b6 P w K mg base ca "every_pair" ["many"] 1 cN)(hW:b6 P w K mg base ca "stands_ahead" ["tables","a","b"] 1 cG):b6 P w K mg base ca "shared_pairs" ["many","rows"] 2 (aW 3 2 (eY df cN cG)):=
 ⟨⟨f,fd,F.mg,F.F.kp,F.b,aK (N:=["many","rows","tables"]) (k:=1) F.F jY fun cdv A outer s H G E hr=>
  (@ar _ _ _ _ _ _ _ (bF (i:=2) (@SE.wv _ _ _ _ _ _ (cq (NB:=["row"]) (own:=1) (ixs:=[]) [] rfl (cF (by kernel_rfl)) (fun _ _=>rfl) (mT rfl (af 1)) (fun H0 G0 par br bx C ex s3 H3 pn=>(cQ (i:=0) (show (["row"]:List Str).Nodup by decide +kernel))) (fun H0 G0 par br bx C ex s3 H3 pn hB1=>bV) (fun H0 G0 par br bx C ex s3 H3 pn hB1=>(ax jw (hr.mono (by decide)) gc rfl rfl (aa (ak 0 (hB1 0 (by decide))) ah))))) jY.nd)
  (@ay _ _ _ _ _ (aX (cn bL iW rfl B.tuple (by decide +kernel) (cq (NB:=["a","b","tables"]) (own:=2) (ixs:=[2]) [2] rfl (cF (by kernel_rfl)) (fun _ _=>rfl) (mT rfl (ax jN (hr.mono (by decide)) aQ rfl rfl (aa (ak 0 rfl) ah))) (fun H0 G0 par br bx C ex s3 H3 pn=>(lh (i:=0) (j:=1) (show (["a","b","tables"]:List Str).Nodup by decide +kernel))) (fun H0 G0 par br bx C ex s3 H3 pn hB2=>(CQ (cC rfl (ax hW (hr.mono (by decide)) gc rfl rfl (aa (ak 2 (hB2 2 (by decide))) (aa (ak 0 (hB2 0 (by decide))) (aa (ak 1 (hB2 1 (by decide))) ah))))))) (fun H0 G0 par br bx C ex s3 H3 pn hB2=>(dz (aa (ak 0 (hB2 0 (by decide))) (aa (ak 1 (hB2 1 (by decide))) ah)))))))))⟩,fun ds h=>aH ds h⟩
abbrev jH:Stmt:=top 25
theorem sQ:aC ["thing","order"] ["thing","order"] (ao jH):=⟨rfl,rfl,rfl,by decide +kernel,rfl,by decide +kernel,by decide +kernel⟩
theorem su {f:Addr}{fd:FuncData}{cT:List D->FR}(F:iM K mg "are_rows" jH ["thing","order"] f fd)(B:i8 mg)(i9:b6 P w K mg base ca "keeps_order" ["thing","order"] 4 cT):b6 P w K mg base ca "are_rows" ["thing","order"] 5 (aW 2 2 (jV cT)):=
 ⟨⟨f,fd,F.mg,F.F.kp,F.b,aK (N:=["thing","order"]) (k:=4) F.F sQ fun cdv A outer s H G E hr=>
  (@ar _ _ _ _ _ _ _ (cS (qS.t (kh (c4 (cC rfl (hU "list" (by decide) rfl rfl B.isinstance rfl B.list (by decide +kernel) (af 0)))) (i7 (cv (gy hr.units) iC (aF aV cR rfl B.len PySem.boot_len (af 0)) aw (bG _))) (fun _ _=>rfl)))
  (@ay _ _ _ _ _ (aX iU))
  bX)
  (@ay _ _ _ _ _ (aX (aF (ic rfl) iP rfl B.all (by decide +kernel) (cq (NB:=["row","order"]) (own:=1) (ixs:=[1]) [1] rfl (cF (by kernel_rfl)) (fun _ _=>rfl) (mT rfl (af 0)) (fun H0 G0 par br bx C ex s3 H3 pn=>(cQ (i:=0) (show (["row","order"]:List Str).Nodup by decide +kernel))) (fun H0 G0 par br bx C ex s3 H3 pn hB1=>bV) (fun H0 G0 par br bx C ex s3 H3 pn hB1=>(ax i9 (hr.mono (by decide)) gc rfl rfl (aa (ak 0 (hB1 0 (by decide))) (aa (ak 1 (hB1 1 (by decide))) ah)))))))))⟩,fun ds h=>aH ds h⟩
abbrev rV:Stmt:=top 26
theorem Be:aC ["thing","order"] ["thing","order"] (ao rV):=⟨rfl,rfl,rfl,by decide +kernel,rfl,by decide +kernel,by decide +kernel⟩
theorem y7 {f:Addr}{fd:FuncData}{aL fy cB:List D->FR}(F:iM K mg "tell" rV ["thing","order"] f fd)(B:i8 mg)(bM:b6 P w K mg base ca "need_order" ["thing"] 5 aL)(lq:b6 P w K mg base ca "are_rows" ["thing","order"] 5 fy)(iA:b6 P w K mg base ca "shared_pairs" ["many","rows"] 2 cB):b6 P w K mg base ca "tell" ["thing","order"] 6 (aW 2 2 (vt aL fy cB)):=
 ⟨⟨f,fd,F.mg,F.F.kp,F.b,aK (N:=["thing","order"]) (k:=5) F.F Be fun cdv A outer s H G E hr=>
  (@ar _ _ _ _ _ _ _ (cM (ax bM (hr.mono (by decide)) aQ rfl rfl (aa (ak 1 rfl) ah)))
  (@ay _ _ _ _ _ (aX (kn (ax lq (hr.mono (by decide)) aQ rfl rfl (aa (ak 0 rfl) (aa (ak 1 rfl) ah))) (kf (jD (gy hr.units) iC (ax iA (hr.mono (by decide)) aQ rfl rfl (aa (aP aE bC (af 1) aw (fun _ _=>rfl)) (aa (ak 0 rfl) ah))) (aP aE bC (af 1) aw (fun _ _=>rfl)) (bG _))) (fun _ _=>rfl)))))⟩,fun ds h=>aH ds h⟩
abbrev iK:Stmt:=top 29
theorem sf:aC ["one","other"] ["one","other"] (ao iK):=⟨rfl,rfl,rfl,by decide +kernel,rfl,by decide +kernel,by decide +kernel⟩
theorem pJ {f:Addr}{fd:FuncData}{aL:List D->FR}(F:iM K mg "need_both" iK ["one","other"] f fd)(B:i8 mg)(bM:b6 P w K mg base ca "need_order" ["thing"] 5 aL):b6 P w K mg base ca "need_both" ["one","other"] 6 (aW 2 2 (iO aL)):=
 ⟨⟨f,fd,F.mg,F.F.kp,F.b,aK (N:=["one","other"]) (k:=5) F.F sf fun cdv A outer s H G E hr=>
  (@ar _ _ _ _ _ _ _ (cM (ax bM (hr.mono (by decide)) aQ rfl rfl (aa (ak 0 rfl) ah)))
  (@ay _ _ _ _ _ (cM (ax bM (hr.mono (by decide)) aQ rfl rfl (aa (ak 1 rfl) ah)))))⟩,fun ds h=>aH ds h⟩
abbrev iY:Stmt:=top 30
theorem rS:aC ["many"] ["many"] (ao iY):=⟨rfl,rfl,rfl,by decide +kernel,rfl,by decide +kernel,by decide +kernel⟩
theorem qd {f:Addr}{fd:FuncData}(F:iM K mg "need_room" iY ["many"] f fd)(B:i8 mg)(jn:Exc K mg ca "TooMany"){jc:Tok}(cW:mg "MOST_THINGS"=some (.int 8 jc)):b6 P w K mg base ca "need_room" ["many"] 1 (aW 1 1 (iJ)):=
 ⟨⟨f,fd,F.mg,F.F.kp,F.b,aK (N:=["many"]) (k:=0) F.F rS fun cdv A outer s H G E hr=>
  (@ay _ _ _ _ _ (cS (cv Df Gs (af 0) (wu (by rfl) cW) (bG _))
  (@ay _ _ _ _ _ (j9 jn.ex jn.ca rfl jn.mg (aa pE ah)))
  bX))⟩,fun ds h=>aH ds h⟩
abbrev fF:Stmt:=top 28
theorem oK:aC ["one","other"] ["one","other"] (ao fF):=⟨rfl,rfl,rfl,by decide +kernel,rfl,by decide +kernel,by decide +kernel⟩
theorem nk {f:Addr}{fd:FuncData}{bP bN:List D->FR}(F:iM K mg "need_joined" fF ["one","other"] f fd)(B:i8 mg)(dS:b6 P w K mg base ca "need_both" ["one","other"] 6 bP)(dU:b6 P w K mg base ca "need_room" ["many"] 1 bN):b6 P w K mg base ca "need_joined" ["one","other"] 7 (aW 2 2 (fH bP bN)):=
 ⟨⟨f,fd,F.mg,F.F.kp,F.b,aK (N:=["one","other"]) (k:=6) F.F oK fun cdv A outer s H G E hr=>
  (@ar _ _ _ _ _ _ _ (cM (ax dS (hr.mono (by decide)) aQ rfl rfl (aa (ak 0 rfl) (aa (ak 1 rfl) ah))))
  (@ay _ _ _ _ _ (cM (ax dU (hr.mono (by decide)) aQ rfl rfl (aa (bb dg c9 (aP aE bC (af 0) aw (fun _ _=>rfl)) (aP aE bC (af 1) aw (fun _ _=>rfl))) ah)))))⟩,fun ds h=>aH ds h⟩
abbrev dI:Stmt:=top 31
theorem mR:aC ["order","thing","other"] ["order","thing","other"] (ao dI):=⟨rfl,rfl,rfl,by decide +kernel,rfl,by decide +kernel,by decide +kernel⟩
theorem lH {f:Addr}{fd:FuncData}{bP bc bN:List D->FR}(F:iM K mg "need_replaced" dI ["order","thing","other"] f fd)(B:i8 mg)(dS:b6 P w K mg base ca "need_both" ["one","other"] 6 bP)(cK:b6 P w K mg base ca "need_order_and_thing" ["order","thing"] 6 bc)(dU:b6 P w K mg base ca "need_room" ["many"] 1 bN):b6 P w K mg base ca "need_replaced" ["order","thing","other"] 7 (aW 3 3 (dN bP bc bN)):=
 ⟨⟨f,fd,F.mg,F.F.kp,F.b,aK (N:=["order","thing","other"]) (k:=6) F.F mR fun cdv A outer s H G E hr=>
  (@ar _ _ _ _ _ _ _ (cM (ax dS (hr.mono (by decide)) aQ rfl rfl (aa (ak 0 rfl) (aa (ak 2 rfl) ah))))
  (@ar _ _ _ _ _ _ _ (cM (ax cK (hr.mono (by decide)) aQ rfl rfl (aa (ak 0 rfl) (aa (ak 1 rfl) ah))))
  (@ay _ _ _ _ _ (cM (ax dU (hr.mono (by decide)) aQ rfl rfl (aa (bb rg v8 (bb dg c9 (aP aE bC (af 0) aw (fun _ _=>rfl)) (aP aE bC (af 2) aw (fun _ _=>rfl))) aw) ah))))))⟩,fun ds h=>aH ds h⟩
abbrev nR:Stmt:=top 32
theorem zr:aC ["old","thing","step"] ["old","thing","step"] (ao nR):=⟨rfl,rfl,rfl,by decide +kernel,rfl,by decide +kernel,by decide +kernel⟩
theorem xD {f:Addr}{fd:FuncData}(F:iM K mg "moved" nR ["old","thing","step"] f fd)(B:i8 mg):b6 P w K mg base ca "moved" ["old","thing","step"] 1 (aW 3 3 (rC)):=
 ⟨⟨f,fd,F.mg,F.F.kp,F.b,aK (N:=["old","thing","step"]) (k:=0) F.F zr fun cdv A outer s H G E hr=>
  (@ay _ _ _ _ _ (aX (FE (cv Df Gs (af 0) (af 1) (bG _)) (bb dg c9 (af 0) (af 2)) (ak 0 rfl) (fun _ _=>rfl))))⟩,fun ds h=>aH ds h⟩
abbrev iV:Stmt:=top 36
theorem rD:aC ["one","other","rows","others"] ["one","other","rows","others"] (ao iV):=⟨rfl,rfl,rfl,by decide +kernel,rfl,by decide +kernel,by decide +kernel⟩
theorem pK {f:Addr}{fd:FuncData}{lj:List D->FR}(F:iM K mg "need_rows" iV ["one","other","rows","others"] f fd)(B:i8 mg)(rW:b6 P w K mg base ca "tell" ["thing","order"] 6 lj)(fY:Exc K mg ca "NoRows"):b6 P w K mg base ca "need_rows" ["one","other","rows","others"] 7 (aW 4 4 (iQ lj)):=
 ⟨⟨f,fd,F.mg,F.F.kp,F.b,aK (N:=["one","other","rows","others"]) (k:=6) F.F rD fun cdv A outer s H G E hr=>
  (@ar _ _ _ _ _ _ _ (cS (c4 (cC rfl (ax rW (hr.mono (by decide)) aQ rfl rfl (aa (ak 2 rfl) (aa (ak 0 rfl) ah)))))
  (@ay _ _ _ _ _ (j9 fY.ex fY.ca rfl fY.mg (aa pE ah)))
  bX)
  (@ay _ _ _ _ _ (cS (c4 (cC rfl (ax rW (hr.mono (by decide)) aQ rfl rfl (aa (ak 3 rfl) (aa (ak 1 rfl) ah)))))
  (@ay _ _ _ _ _ (j9 fY.ex fY.ca rfl fY.mg (aa pE ah)))
  bX)))⟩,fun ds h=>aH ds h⟩
abbrev lO:Stmt:=top 37
theorem yq:aC ["rows","at"] ["rows","at"] (ao lO):=⟨rfl,rfl,rfl,by decide +kernel,rfl,by decide +kernel,by decide +kernel⟩
theorem vj {f:Addr}{fd:FuncData}(F:iM K mg "row_at" lO ["rows","at"] f fd)(B:i8 mg):b6 P w K mg base ca "row_at" ["rows","at"] 1 (aW 2 2 (o9)):=
 ⟨⟨f,fd,F.mg,F.F.kp,F.b,aK (N:=["rows","at"]) (k:=0) F.F yq fun cdv A outer s H G E hr=>
  (@ay _ _ _ _ _ (aX (aP aE bC (af 0) (hV (qw rfl) zN rfl B.min (by decide +kernel) (af 1) (bb rg v8 (aF aV cR rfl B.len PySem.boot_len (af 0)) aw)) (fun _ _=>rfl))))⟩,fun ds h=>aH ds h⟩
abbrev gR:Stmt:=top 38
theorem pW:aC ["row","step"] ["row","step"] (ao gR):=⟨rfl,rfl,rfl,by decide +kernel,rfl,by decide +kernel,by decide +kernel⟩
theorem n9 {f:Addr}{fd:FuncData}(F:iM K mg "raised_row" gR ["row","step"] f fd)(B:i8 mg):b6 P w K mg base ca "raised_row" ["row","step"] 1 (aW 2 2 (jT)):=
 ⟨⟨f,fd,F.mg,F.F.kp,F.b,aK (N:=["row","step"]) (k:=0) F.F pW fun cdv A outer s H G E hr=>
  (@ay _ _ _ _ _ (aX (cn bL iW rfl B.tuple (by decide +kernel) (cq (NB:=["thing","step"]) (own:=1) (ixs:=[1]) [] rfl (cF (by kernel_rfl)) (fun _ _=>rfl) (mT rfl (af 0)) (fun H0 G0 par br bx C ex s3 H3 pn=>(cQ (i:=0) (show (["thing","step"]:List Str).Nodup by decide +kernel))) (fun H0 G0 par br bx C ex s3 H3 pn hB1=>bV) (fun H0 G0 par br bx C ex s3 H3 pn hB1=>(bb dg c9 (af 0) (af 1)))))))⟩,fun ds h=>aH ds h⟩
abbrev fP:Stmt:=top 33
theorem ke:aC ["one","other","rows","others","count"] ["one","other","rows","others"] (ao fP):=⟨rfl,rfl,rfl,by decide +kernel,rfl,by decide +kernel,by decide +kernel⟩
theorem nj {f:Addr}{fd:FuncData}{bu a7 bt aM:List D->FR}(F:iM K mg "rows_behind" fP ["one","other","rows","others"] f fd)(B:i8 mg)(cU:b6 P w K mg base ca "need_joined" ["one","other"] 7 bu)(cp:b6 P w K mg base ca "need_rows" ["one","other","rows","others"] 7 a7)(cu:b6 P w K mg base ca "row_at" ["rows","at"] 1 bt)(bK:b6 P w K mg base ca "raised_row" ["row","step"] 1 aM):b6 P w K mg base ca "rows_behind" ["one","other","rows","others"] 8 (aW 5 4 (fN bu a7 bt aM)):=
 ⟨⟨f,fd,F.mg,F.F.kp,F.b,aK (N:=["one","other","rows","others","count"]) (k:=7) F.F ke fun cdv A outer s H G E hr=>
  (@ar _ _ _ _ _ _ _ (cM (ax cU (hr.mono (by decide)) aQ rfl rfl (aa (ak 0 rfl) (aa (ak 1 rfl) ah))))
  (@ar _ _ _ _ _ _ _ (cM (ax cp (hr.mono (by decide)) aQ rfl rfl (aa (ak 0 rfl) (aa (ak 1 rfl) (aa (ak 2 rfl) (aa (ak 3 rfl) ah))))))
  (@ar _ _ _ _ _ _ _ (bF (i:=4) (hV (js rfl) oI rfl B.max (by decide +kernel) (aF aV cR rfl B.len PySem.boot_len (af 2)) (aF aV cR rfl B.len PySem.boot_len (af 3))) ke.nd)
  (@ay _ _ _ _ _ (kJ (cq (NB:=["at","rows","others","one"]) (own:=1) (ixs:=[2,3,0]) [2,3] rfl (cF (by kernel_rfl)) (fun _ _=>rfl) (iq rfl B.range (af 4)) (fun H0 G0 par br bx C ex s3 H3 pn=>(cQ (i:=0) (show (["at","rows","others","one"]:List Str).Nodup by decide +kernel))) (fun H0 G0 par br bx C ex s3 H3 pn hB1=>bV) (fun H0 G0 par br bx C ex s3 H3 pn hB1=>(bb ka oj (ax cu (hr.mono (by decide)) gc rfl rfl (aa (ak 1 (hB1 1 (by decide))) (aa (ak 0 (hB1 0 (by decide))) ah))) (ax bK (hr.mono (by decide)) gc rfl rfl (aa (ax cu (hr.mono (by decide)) gc rfl rfl (aa (ak 2 (hB1 2 (by decide))) (aa (ak 0 (hB1 0 (by decide))) ah))) (aa (aP aE bC (af 3) aw (fun _ _=>rfl)) ah)))))))))))⟩,fun ds h=>aH ds h⟩
abbrev fJ:Stmt:=top 34
theorem iu:aC ["one","other","rows","others","last","made"] ["one","other","rows","others"] (ao fJ):=⟨rfl,rfl,rfl,by decide +kernel,rfl,by decide +kernel,by decide +kernel⟩
theorem nG {f:Addr}{fd:FuncData}{bu a7 bt aM:List D->FR}(F:iM K mg "rows_beside" fJ ["one","other","rows","others"] f fd)(B:i8 mg)(cU:b6 P w K mg base ca "need_joined" ["one","other"] 7 bu)(cp:b6 P w K mg base ca "need_rows" ["one","other","rows","others"] 7 a7)(cu:b6 P w K mg base ca "row_at" ["rows","at"] 1 bt)(bK:b6 P w K mg base ca "raised_row" ["row","step"] 1 aM):b6 P w K mg base ca "rows_beside" ["one","other","rows","others"] 8 (aW 6 4 (fK bu a7 bt aM)):=
 ⟨⟨f,fd,F.mg,F.F.kp,F.b,aK (N:=["one","other","rows","others","last","made"]) (k:=7) F.F iu fun cdv A outer s H G E hr=>
  (@ar _ _ _ _ _ _ _ (cM (ax cU (hr.mono (by decide)) aQ rfl rfl (aa (ak 0 rfl) (aa (ak 1 rfl) ah))))
  (@ar _ _ _ _ _ _ _ (cM (ax cp (hr.mono (by decide)) aQ rfl rfl (aa (ak 0 rfl) (aa (ak 1 rfl) (aa (ak 2 rfl) (aa (ak 3 rfl) ah))))))
  (@ar _ _ _ _ _ _ _ (bF (i:=4) (bb rg v8 (BR rfl rfl B.max (aa (aF aV cR rfl B.len PySem.boot_len (af 2)) (aa (aF aV cR rfl B.len PySem.boot_len (af 3)) (aa aw ah)))) aw) iu.nd)
  (@ar _ _ _ _ _ _ _ (r0 (i:=5) (NB:=["at","rows","others","one"]) (own:=1) (ixs:=[2,3,0]) [2,3] rfl (cF (by kernel_rfl)) (fun _ _=>rfl) (iq rfl B.range (af 4)) (fun H0 G0 par br bx C ex s3 H3 pn=>(cQ (i:=0) (show (["at","rows","others","one"]:List Str).Nodup by decide +kernel))) (fun H0 G0 par br bx C ex s3 H3 pn hB1=>bV) (fun H0 G0 par br bx C ex s3 H3 pn hB1=>(bb ka oj (ax cu (hr.mono (by decide)) gc rfl rfl (aa (ak 1 (hB1 1 (by decide))) (aa (ak 0 (hB1 0 (by decide))) ah))) (ax bK (hr.mono (by decide)) gc rfl rfl (aa (ax cu (hr.mono (by decide)) gc rfl rfl (aa (ak 2 (hB1 2 (by decide))) (aa (ak 0 (hB1 0 (by decide))) ah))) (aa (aP aE bC (af 3) aw (fun _ _=>rfl)) ah))))) iu.nd)
  (@ay _ _ _ _ _ (kJ (bb l4 ur (af 5) (eZ (aa (bb ka oj (ax bK (hr.mono (by decide)) aQ rfl rfl (aa (ax cu (hr.mono (by decide)) aQ rfl rfl (aa (ak 3 rfl) (aa (ak 4 rfl) ah))) (aa (aP aE bC (af 0) aw (fun _ _=>rfl)) ah))) (ax cu (hr.mono (by decide)) aQ rfl rfl (aa (ak 2 rfl) (aa (ak 4 rfl) ah)))) ah)))))))))⟩,fun ds h=>aH ds h⟩
abbrev eM:Stmt:=top 39
theorem gr:aC ["row","thing","inner","at","kept"] ["row","thing","inner"] (ao eM):=⟨rfl,rfl,rfl,by decide +kernel,rfl,by decide +kernel,by decide +kernel⟩
theorem mI {f:Addr}{fd:FuncData}{kC aM:List D->FR}(F:iM K mg "row_replaced" eM ["row","thing","inner"] f fd)(B:i8 mg)(rH:b6 P w K mg base ca "moved" ["old","thing","step"] 1 kC)(bK:b6 P w K mg base ca "raised_row" ["row","step"] 1 aM):b6 P w K mg base ca "row_replaced" ["row","thing","inner"] 2 (aW 5 3 (eV kC aM)):=
 ⟨⟨f,fd,F.mg,F.F.kp,F.b,aK (N:=["row","thing","inner","at","kept"]) (k:=1) F.F gr fun cdv A outer s H G E hr=>
  (@ar _ _ _ _ _ _ _ (bF (i:=3) (og rfl (af 0) (af 1)) gr.nd)
  (@ar _ _ _ _ _ _ _ (bF (i:=4) (cn bL iW rfl B.tuple (by decide +kernel) (cq (NB:=["old","thing","inner"]) (own:=1) (ixs:=[1,2]) [1] rfl (cF (by kernel_rfl)) (fun _ _=>rfl) (mT rfl (af 0)) (fun H0 G0 par br bx C ex s3 H3 pn=>(cQ (i:=0) (show (["old","thing","inner"]:List Str).Nodup by decide +kernel))) (fun H0 G0 par br bx C ex s3 H3 pn hB1=>bV) (fun H0 G0 par br bx C ex s3 H3 pn hB1=>(ax rH (hr.mono (by decide)) gc rfl rfl (aa (ak 0 (hB1 0 (by decide))) (aa (ak 1 (hB1 1 (by decide))) (aa (bb rg v8 (aF aV cR rfl B.len PySem.boot_len (af 2)) aw) ah))))))) gr.nd)
  (@ay _ _ _ _ _ (aX (bb ka oj (bb ka oj (qk rfl (af 4) xf (wC (af 3))) (ax bK (hr.mono (by decide)) aQ rfl rfl (aa (ak 2 rfl) (aa (ak 1 rfl) ah)))) (qk rfl (af 4) (wC (bb dg c9 (af 3) aw)) xf))))))⟩,fun ds h=>aH ds h⟩
abbrev dJ:Stmt:=top 35
theorem jy:aC ["order","thing","other","rows","others","count"] ["order","thing","other","rows","others"] (ao dJ):=⟨rfl,rfl,rfl,by decide +kernel,rfl,by decide +kernel,by decide +kernel⟩
theorem lN {f:Addr}{fd:FuncData}{b8 a7 cE bt:List D->FR}(F:iM K mg "rows_replaced" dJ ["order","thing","other","rows","others"] f fd)(B:i8 mg)(gn:b6 P w K mg base ca "need_replaced" ["order","thing","other"] 7 b8)(cp:b6 P w K mg base ca "need_rows" ["one","other","rows","others"] 7 a7)(ig:b6 P w K mg base ca "row_replaced" ["row","thing","inner"] 2 cE)(cu:b6 P w K mg base ca "row_at" ["rows","at"] 1 bt):b6 P w K mg base ca "rows_replaced" ["order","thing","other","rows","others"] 8 (aW 6 5 (dP b8 a7 cE bt)):=
 ⟨⟨f,fd,F.mg,F.F.kp,F.b,aK (N:=["order","thing","other","rows","others","count"]) (k:=7) F.F jy fun cdv A outer s H G E hr=>
  (@ar _ _ _ _ _ _ _ (cM (ax gn (hr.mono (by decide)) aQ rfl rfl (aa (ak 0 rfl) (aa (ak 1 rfl) (aa (ak 2 rfl) ah)))))
  (@ar _ _ _ _ _ _ _ (cM (ax cp (hr.mono (by decide)) aQ rfl rfl (aa (ak 0 rfl) (aa (ak 2 rfl) (aa (ak 3 rfl) (aa (ak 4 rfl) ah))))))
  (@ar _ _ _ _ _ _ _ (bF (i:=5) (hV (js rfl) oI rfl B.max (by decide +kernel) (aF aV cR rfl B.len PySem.boot_len (af 3)) (aF aV cR rfl B.len PySem.boot_len (af 4))) jy.nd)
  (@ay _ _ _ _ _ (kJ (cq (NB:=["at","rows","thing","others"]) (own:=1) (ixs:=[3,1,4]) [1,3,4] rfl (cF (by kernel_rfl)) (fun _ _=>rfl) (iq rfl B.range (af 5)) (fun H0 G0 par br bx C ex s3 H3 pn=>(cQ (i:=0) (show (["at","rows","thing","others"]:List Str).Nodup by decide +kernel))) (fun H0 G0 par br bx C ex s3 H3 pn hB1=>bV) (fun H0 G0 par br bx C ex s3 H3 pn hB1=>(ax ig (hr.mono (by decide)) gc rfl rfl (aa (ax cu (hr.mono (by decide)) gc rfl rfl (aa (ak 1 (hB1 1 (by decide))) (aa (ak 0 (hB1 0 (by decide))) ah))) (aa (ak 2 (hB1 2 (by decide))) (aa (ax cu (hr.mono (by decide)) gc rfl rfl (aa (ak 3 (hB1 3 (by decide))) (aa (ak 0 (hB1 0 (by decide))) ah))) ah)))))))))))⟩,fun ds h=>aH ds h⟩
abbrev jK:Stmt:=top 41
theorem cH:aC ["script","k","here","number","j","part"] ["script","k"] (ao jK):=⟨rfl,rfl,rfl,by decide +kernel,rfl,by decide +kernel,by decide +kernel⟩
theorem rT {f:Addr}{fd:FuncData}(F:iM K mg "_law_box" jK ["script","k"] f fd)(B:i8 mg):b6 P w K mg base ca "_law_box" ["script","k"] 1 (aW 6 2 (gL)):=
 ⟨⟨f,fd,F.mg,F.F.kp,F.b,aK (N:=["script","k","here","number","j","part"]) (k:=0) F.F cH fun cdv A outer s H G E hr=>
  (@ar _ _ _ _ _ _ _ (bF (i:=2) (bb dg c9 (bb kj lE aw (af 1)) aw) cH.nd)
  (@ar _ _ _ _ _ _ _ (cS (cv uk zd (af 1) (aF aV cR rfl B.len PySem.boot_len (af 0)) (bG _))
  (@ay _ _ _ _ _ (bF (i:=2) (aP aE bC (af 0) (af 1) (fun _ _=>rfl)) cH.nd))
  bX)
  (@ar _ _ _ _ _ _ _ (cS (cv (gy hr.units) iC (bb lC qM (af 2) aw) aw (bG _))
  (@ay _ _ _ _ _ (kJ (eZ (aa (bb rb FI (af 2) aw) ah))))
  bX)
  (@ar _ _ _ _ _ _ _ (bF (i:=3) aw cH.nd)
  (@ar _ _ _ _ _ _ _ (i6 PassesOwn.leaving rfl (iq rfl B.range aw) (cQ (i:=4) cH.nd)
  (@ar _ _ _ _ _ _ _ (bF (i:=5) (bb lC qM (bb dg c9 (bb dg c9 (bb kj lE (bb lC qM (af 2) aw) aw) (bb kj lE aw (af 4))) aw) aw) cH.nd)
  (@ar _ _ _ _ _ _ _ (bF (i:=5) (bb lC qM (bb kj lE (af 5) (af 5)) aw) cH.nd)
  (@ay _ _ _ _ _ (bF (i:=3) (bb dg c9 (bb kj lE (af 3) aw) (bb lC qM (bb kj lE (af 5) (bb dg c9 (af 5) aw)) aw)) cH.nd)))))
  (@ay _ _ _ _ _ (kJ (eZ (aa (ak 3 rfl) ah)))))))))⟩,fun ds h=>aH ds h⟩
abbrev iH:Stmt:=top 42
theorem lW:aC ["box","many","left","digit"] ["box","many"] (ao iH):=⟨rfl,rfl,rfl,by decide +kernel,rfl,by decide +kernel,by decide +kernel⟩
theorem pU {f:Addr}{fd:FuncData}(F:iM K mg "_law_take" iH ["box","many"] f fd)(B:i8 mg):rP P w K mg base "_law_take" ["box","many"] 1 ie:=by
 refine⟨⟨f,fd,F.mg,F.F.kp,F.b,?_⟩,fun ds β h=>?_⟩
 ·refine F.F.De lW (fun vs H Q E h=>?_) (fun cdv A outer s H vs Q E hr h=>?_)
  ·obtain⟨b,rest,G,ds,β,rfl,hb,gb,sG,hl,r,_⟩:=h
   rw[List.length_cons,r.len,hl];rfl
  ·obtain⟨b,rest,G,ds,β,rfl,hb,gb,sG,hl,r,h⟩:=h
   obtain⟨m,rfl,h0,h1⟩:=xr (fun z=>by rw[z] at h;exact h)
   rw[sv h0 h1] at h
   have kk:∀v G' H',iD (some b) H H'->H' b=some (.lst [.int (β / m)])->aq G G'->aq G' H'->(∀c,Mx H c->G c=none->G' c=none)->FV K H G' H' false (.int (β % m)) v->Q v H':=h
   cases r with
   |cons r1 r2=>
    cases r1
    cases r2
    refine⟨_,ir (mr (jo uv rfl B.divmod (by decide +kernel) (aZ (k9 gP (pv 0) vv (fun _ _=>rfl)) (aZ (pv 1) bZ))) (Bd (i:=2) (j:=3) lW.nd rfl rfl rfl rfl rfl))
     (ir (mr (pv 2) (sE (pv 0) vv set_list)) (iG (mC (pv 3)))),?_⟩
    refine⟨_,rfl,b,_,0,.int β,rfl,rfl,.inl (.inl hb),rfl,_,rfl,β,m,rfl,⟨h0,h1⟩,fun p hp=>⟨p,_,rfl,.inl (.inl aA),rfl,_,_,rfl,_,_,rfl,rfl,?_⟩⟩
    have hbp:b≠p:=aI hb hp
    exact⟨_,rfl,_,rfl,b,[.int β],0,0,rfl,rfl,by rw[aB hbp];exact hb,rfl,_,rfl,zz hb sG hp kk gb⟩
 ·obtain⟨m,rfl,_⟩:=xr h
  rfl
abbrev gN:Stmt:=top 43
theorem pO:aC ["thing"] ["thing"] (ao gN):=⟨rfl,rfl,rfl,by decide +kernel,rfl,by decide +kernel,by decide +kernel⟩
theorem oN {f:Addr}{fd:FuncData}(F:iM K mg "_law_whole" gN ["thing"] f fd)(B:i8 mg):b6 P w K mg base ca "_law_whole" ["thing"] 1 (aW 1 1 (lV)):=
 ⟨⟨f,fd,F.mg,F.F.kp,F.b,aK (N:=["thing"]) (k:=0) F.F pO fun cdv A outer s H G E hr=>
  (@ay _ _ _ _ _ (aX (kn (hU "int" (by decide) rfl rfl B.isinstance rfl B.int (by decide +kernel) (af 0)) (kf (vG (hU "bool" (by decide) rfl rfl B.isinstance rfl B.bool (by decide +kernel) (af 0)))) (fun _ _=>rfl))))⟩,fun ds h=>aH ds h⟩
abbrev dG:Stmt:=top 44
theorem fo:aC ["box","some","left","found"] ["box","some"] (ao dG):=⟨rfl,rfl,rfl,by decide +kernel,rfl,by decide +kernel,by decide +kernel⟩
theorem lJ {f:Addr}{fd:FuncData}{aN:List D->Int->FB}(F:iM K mg "_law_shuffled" dG ["box","some"] f fd)(B:i8 mg)(bD:rP P w K mg base "_law_take" ["box","many"] 1 aN):rP P w K mg base "_law_shuffled" ["box","some"] 2 (tR 4 1 (dH aN)):=
 ⟨⟨f,fd,F.mg,F.F.kp,F.b,tM (ca:=fun _=>0) (N:=["box","some","left","found"]) (k:=1) F.F fo (by decide) fun cdv A outer s H G b E hr=>
  (@ar _ _ _ _ _ _ _ (lI (i:=2) (cn eS nW rfl B.list (by decide +kernel) (af 1)) fo.nd)
  (@ar _ _ _ _ _ _ _ (lI (i:=3) (eZ ah) fo.nd)
  (@ar _ _ _ _ _ _ _ (zT 1000 PassesOwn.leaving (cv (jf hr.units) iC (af 2) (eZ ah) (bG _))
  (@ay _ _ _ _ _ (yw 3 2 (fun _=>rfl) (lT 0 bD (hr.mono (by decide)) aQ rfl rfl (aa (aF aV cR rfl B.len PySem.boot_len (af 2)) ah)))))
  (@ay _ _ _ _ _ (aX (cn bL iW rfl B.tuple (by decide +kernel) (af 3)))))))⟩,fun ds β h=>tD ds β h⟩
abbrev iN:Stmt:=top 45
theorem gG:aC ["many","rows","found","a","b"] ["many","rows"] (ao iN):=⟨rfl,rfl,rfl,by decide +kernel,rfl,by decide +kernel,by decide +kernel⟩
theorem pS {f:Addr}{fd:FuncData}(F:iM K mg "_law_told" iN ["many","rows"] f fd)(B:i8 mg):b6 P w K mg base ca "_law_told" ["many","rows"] 1 (aW 5 2 (iE)):=
 ⟨⟨f,fd,F.mg,F.F.kp,F.b,aK (N:=["many","rows","found","a","b"]) (k:=0) F.F gG fun cdv A outer s H G E hr=>
  (@ar _ _ _ _ _ _ _ (lI (i:=2) (eZ ah) gG.nd)
  (@ar _ _ _ _ _ _ _ (i6 PassesOwn.leaving rfl (iq rfl B.range (af 0)) (cQ (i:=3) gG.nd)
  (@ay _ _ _ _ _ (i6 PassesOwn.leaving rfl (iq rfl B.range (af 0)) (cQ (i:=4) gG.nd)
  (@ay _ _ _ _ _ (cS (qS.t (zS (cv (jf hr.units) iC (af 3) (af 4) (bG _)) (wM (cC rfl (aF (ic rfl) iP rfl B.all (by decide +kernel) (cq (NB:=["row","a","b"]) (own:=1) (ixs:=[3,4]) [] rfl (cF (by kernel_rfl)) (fun _ _=>rfl) (mT rfl (af 1)) (fun H0 G0 par br bx C ex s3 H3 pn=>(cQ (i:=0) (show (["row","a","b"]:List Str).Nodup by decide +kernel))) (fun H0 G0 par br bx C ex s3 H3 pn hB1=>bV) (fun H0 G0 par br bx C ex s3 H3 pn hB1=>(jD uk zd (og rfl (af 0) (af 1)) (og rfl (af 0) (af 2)) (bG _))))))) (fun _ _=>rfl)))
  (@ay _ _ _ _ _ (mL 2 (fun _=>rfl) (dz (aa (ak 3 rfl) (aa (ak 4 rfl) ah)))))
  bX)))))
  (@ay _ _ _ _ _ (aX (cn bL iW rfl B.tuple (by decide +kernel) (af 2))))))⟩,fun ds h=>aH ds h⟩
abbrev iF:Stmt:=top 46
theorem lY:aC ["rows","order","row"] ["rows","order"] (ao iF):=⟨rfl,rfl,rfl,by decide +kernel,rfl,by decide +kernel,by decide +kernel⟩
theorem pR {f:Addr}{fd:FuncData}{dk bO:List D->FR}(F:iM K mg "_law_tell" iF ["rows","order"] f fd)(B:i8 mg)(jF:b6 P w K mg base ca "_law_whole" ["thing"] 1 dk)(dX:b6 P w K mg base ca "_law_told" ["many","rows"] 1 bO):b6 P w K mg base ca "_law_tell" ["rows","order"] 2 (aW 3 2 (iI dk bO)):=
 ⟨⟨f,fd,F.mg,F.F.kp,F.b,aK (N:=["rows","order","row"]) (k:=1) F.F lY fun cdv A outer s H G E hr=>
  (@ar _ _ _ _ _ _ _ (cS (qS.t (kh (c4 (cC rfl (hU "list" (by decide) rfl rfl B.isinstance rfl B.list (by decide +kernel) (af 0)))) (i7 (cv (gy hr.units) iC (af 0) (eZ ah) (bG _))) (fun _ _=>rfl)))
  (@ay _ _ _ _ _ (aX iU))
  bX)
  (@ar _ _ _ _ _ _ _ (i6 PassesOwn.leaving rfl (Iz rfl (ak 0 rfl)) (cQ (i:=2) lY.nd)
  (@ar _ _ _ _ _ _ _ (cS (qS.t (kh (c4 (cC rfl (hU "tuple" (by decide) rfl rfl B.isinstance rfl B.tuple (by decide +kernel) (af 2)))) (i7 (c4 (cC rfl (aF (ic rfl) iP rfl B.all (by decide +kernel) (cq (NB:=["one"]) (own:=1) (ixs:=[]) [] rfl (cF (by kernel_rfl)) (fun _ _=>rfl) (mT rfl (af 2)) (fun H0 G0 par br bx C ex s3 H3 pn=>(cQ (i:=0) (show (["one"]:List Str).Nodup by decide +kernel))) (fun H0 G0 par br bx C ex s3 H3 pn hB1=>bV) (fun H0 G0 par br bx C ex s3 H3 pn hB1=>(ax jF (hr.mono (by decide)) gc rfl rfl (aa (ak 0 (hB1 0 (by decide))) ah)))))))) (fun _ _=>rfl)))
  (@ay _ _ _ _ _ (aX iU))
  bX)
  (@ay _ _ _ _ _ (cS (cv (jf hr.units) iC (aF vY Co rfl B.sorted (by decide +kernel) (af 2)) (oO rfl rfl B.list rfl B.range (aP aE bC (af 1) aw (fun _ _=>rfl))) (bG _))
  (@ay _ _ _ _ _ (aX iU))
  bX))))
  (@ay _ _ _ _ _ (aX (jD (gy hr.units) iC (ax dX (hr.mono (by decide)) aQ rfl rfl (aa (aP aE bC (af 1) aw (fun _ _=>rfl)) (aa (ak 0 rfl) ah))) (aP aE bC (af 1) aw (fun _ _=>rfl)) (bG _))))))⟩,fun ds h=>aH ds h⟩
abbrev fC:Stmt:=top 47
theorem km:aC ["one","other","more"] ["one","other"] (ao fC):=⟨rfl,rfl,rfl,by decide +kernel,rfl,by decide +kernel,by decide +kernel⟩
theorem ny {f:Addr}{fd:FuncData}(F:iM K mg "_law_beside" fC ["one","other"] f fd)(B:i8 mg):b6 P w K mg base ca "_law_beside" ["one","other"] 1 (aW 3 2 (fQ)):=
 ⟨⟨f,fd,F.mg,F.F.kp,F.b,aK (N:=["one","other","more"]) (k:=0) F.F km fun cdv A outer s H G E hr=>
  (@ar _ _ _ _ _ _ _ (r0 (i:=2) (NB:=["a","b","one"]) (own:=2) (ixs:=[0]) [] rfl (cF (by kernel_rfl)) (fun _ _=>rfl) (mT rfl (aP aE bC (af 1) aw (fun _ _=>rfl))) (fun H0 G0 par br bx C ex s3 H3 pn=>(lh (i:=0) (j:=1) (show (["a","b","one"]:List Str).Nodup by decide +kernel))) (fun H0 G0 par br bx C ex s3 H3 pn hB1=>bV) (fun H0 G0 par br bx C ex s3 H3 pn hB1=>(dz (aa (bb dg c9 (af 0) (aP aE bC (af 2) aw (fun _ _=>rfl))) (aa (bb dg c9 (af 1) (aP aE bC (af 2) aw (fun _ _=>rfl))) ah)))) km.nd)
  (@ay _ _ _ _ _ (aX (dz (aa (bb dg c9 (aP aE bC (af 0) aw (fun _ _=>rfl)) (aP aE bC (af 1) aw (fun _ _=>rfl))) (aa (cn bL iW rfl B.tuple (by decide +kernel) (aF mZ wJ rfl B.sorted (by decide +kernel) (bb l4 ur (cn eS nW rfl B.list (by decide +kernel) (aP aE bC (af 0) aw (fun _ _=>rfl))) (af 2)))) ah))))))⟩,fun ds h=>aH ds h⟩
abbrev fO:Stmt:=top 48
theorem eB:aC ["one","other","found","a"] ["one","other"] (ao fO):=⟨rfl,rfl,rfl,by decide +kernel,rfl,by decide +kernel,by decide +kernel⟩
theorem nH {f:Addr}{fd:FuncData}{bo:List D->FR}(F:iM K mg "_law_behind" fO ["one","other"] f fd)(B:i8 mg)(cY:b6 P w K mg base ca "_law_beside" ["one","other"] 1 bo):b6 P w K mg base ca "_law_behind" ["one","other"] 2 (aW 4 2 (fM bo)):=
 ⟨⟨f,fd,F.mg,F.F.kp,F.b,aK (N:=["one","other","found","a"]) (k:=1) F.F eB fun cdv A outer s H G E hr=>
  (@ar _ _ _ _ _ _ _ (bF (i:=2) (@SE.wv _ _ _ _ _ _ (cn eS nW rfl B.list (by decide +kernel) (aP aE bC (ax cY (hr.mono (by decide)) aQ rfl rfl (aa (ak 0 rfl) (aa (ak 1 rfl) ah))) aw (fun _ _=>rfl)))) eB.nd)
  (@ar _ _ _ _ _ _ _ (i6 PassesOwn.leaving rfl (iq rfl B.range (aP aE bC (af 0) aw (fun _ _=>rfl))) (cQ (i:=3) eB.nd)
  (@ay _ _ _ _ _ (bF (i:=2) (@SE.wv _ _ _ _ _ _ (bb l4 ur (af 2) (cq (NB:=["b","a","one"]) (own:=1) (ixs:=[3,0]) [3] rfl (cF (by kernel_rfl)) (fun _ _=>rfl) (iq rfl B.range (aP aE bC (af 1) aw (fun _ _=>rfl))) (fun H0 G0 par br bx C ex s3 H3 pn=>(cQ (i:=0) (show (["b","a","one"]:List Str).Nodup by decide +kernel))) (fun H0 G0 par br bx C ex s3 H3 pn hB1=>bV) (fun H0 G0 par br bx C ex s3 H3 pn hB1=>(dz (aa (ak 1 (hB1 1 (by decide))) (aa (bb dg c9 (aP aE bC (af 2) aw (fun _ _=>rfl)) (af 0)) ah))))))) eB.nd)))
  (@ay _ _ _ _ _ (aX (dz (aa (bb dg c9 (aP aE bC (af 0) aw (fun _ _=>rfl)) (aP aE bC (af 1) aw (fun _ _=>rfl))) (aa (cn bL iW rfl B.tuple (by decide +kernel) (aF mZ wJ rfl B.sorted (by decide +kernel) (af 2))) ah)))))))⟩,fun ds h=>aH ds h⟩
abbrev dO:Stmt:=top 49
theorem bH:aC ["order","thing","other","names","one","found","a","b"] ["order","thing","other"] (ao dO):=⟨rfl,rfl,rfl,by decide +kernel,rfl,by decide +kernel,by decide +kernel⟩
theorem l5 {f:Addr}{fd:FuncData}(F:iM K mg "_law_replaced" dO ["order","thing","other"] f fd)(B:i8 mg):b6 P w K mg base ca "_law_replaced" ["order","thing","other"] 1 (aW 8 3 (dF)):=
 ⟨⟨f,fd,F.mg,F.F.kp,F.b,aK (N:=["order","thing","other","names","one","found","a","b"]) (k:=0) F.F bH fun cdv A outer s H G E hr=>
  (@ar _ _ _ _ _ _ _ (bF (i:=3) (@SE.wv _ _ _ _ _ _ (eZ ah)) bH.nd)
  (@ar _ _ _ _ _ _ _ (i6 PassesOwn.leaving rfl (iq rfl B.range (aP aE bC (af 0) aw (fun _ _=>rfl))) (cQ (i:=4) bH.nd)
  (@ay _ _ _ _ _ (bF (i:=3) (@SE.wv _ _ _ _ _ _ (bb l4 ur (af 3) (cq (NB:=["new","one"]) (own:=1) (ixs:=[4]) [4] rfl (cF (by kernel_rfl)) (fun _ _=>rfl) (iq rfl B.range (aP aE bC (eZ (aa aw (aa (aP aE bC (af 2) aw (fun _ _=>rfl)) ah))) (cn yr EJ rfl B.int (by decide +kernel) (jD (gy hr.units) iC (af 4) (af 1) (bG _))) (fun _ _=>rfl))) (fun H0 G0 par br bx C ex s3 H3 pn=>(cQ (i:=0) (show (["new","one"]:List Str).Nodup by decide +kernel))) (fun H0 G0 par br bx C ex s3 H3 pn hB1=>bV) (fun H0 G0 par br bx C ex s3 H3 pn hB1=>(dz (aa (ak 1 (hB1 1 (by decide))) (aa (ak 0 (hB1 0 (by decide))) ah))))))) bH.nd)))
  (@ar _ _ _ _ _ _ _ (lI (i:=5) (eZ ah) bH.nd)
  (@ar _ _ _ _ _ _ _ (i6 PassesOwn.leaving rfl (iq rfl B.range (aF aV cR rfl B.len PySem.boot_len (af 3))) (cQ (i:=6) bH.nd)
  (@ay _ _ _ _ _ (i6 PassesOwn.leaving rfl (iq rfl B.range (aF aV cR rfl B.len PySem.boot_len (af 3))) (cQ (i:=7) bH.nd)
  (@ay _ _ _ _ _ (cS (cv (gy hr.units) iC (aP aE bC (aP aE bC (af 3) (af 6) (fun _ _=>rfl)) aw (fun _ _=>rfl)) (aP aE bC (aP aE bC (af 3) (af 7) (fun _ _=>rfl)) aw (fun _ _=>rfl)) (bG _))
  (@ay _ _ _ _ _ (cS (qS.t (zS (cv (gy hr.units) iC (aP aE bC (aP aE bC (af 3) (af 6) (fun _ _=>rfl)) aw (fun _ _=>rfl)) (af 1) (bG _)) (wM (cv (z8 hr.u1) GS (dz (aa (aP aE bC (aP aE bC (af 3) (af 6) (fun _ _=>rfl)) aw (fun _ _=>rfl)) (aa (aP aE bC (aP aE bC (af 3) (af 7) (fun _ _=>rfl)) aw (fun _ _=>rfl)) ah))) (aP aE bC (af 2) aw (fun _ _=>rfl)) (by with_unfolding_all rfl))) (fun _ _=>rfl)))
  (@ay _ _ _ _ _ (mL 5 (fun _=>rfl) (dz (aa (ak 6 rfl) (aa (ak 7 rfl) ah)))))
  bX))
  (@ay _ _ _ _ _ (cS (cv (z8 hr.u1) GS (dz (aa (aP aE bC (aP aE bC (af 3) (af 6) (fun _ _=>rfl)) aw (fun _ _=>rfl)) (aa (aP aE bC (aP aE bC (af 3) (af 7) (fun _ _=>rfl)) aw (fun _ _=>rfl)) ah))) (aP aE bC (af 0) aw (fun _ _=>rfl)) (by with_unfolding_all rfl))
  (@ay _ _ _ _ _ (mL 5 (fun _=>rfl) (dz (aa (ak 6 rfl) (aa (ak 7 rfl) ah)))))
  bX)))))))
  (@ay _ _ _ _ _ (aX (dz (aa (aF aV cR rfl B.len PySem.boot_len (af 3)) (aa (cn bL iW rfl B.tuple (by decide +kernel) (af 5)) ah)))))))))⟩,fun ds h=>aH ds h⟩
abbrev gH:Stmt:=top 50
theorem dE:aC ["box","many","rows","order"] ["box"] (ao gH):=⟨rfl,rfl,rfl,by decide +kernel,rfl,by decide +kernel,by decide +kernel⟩
theorem pd {f:Addr}{fd:FuncData}{bO:List D->FR}{aN b9:List D->Int->FB}(F:iM K mg "_law_drawn" gH ["box"] f fd)(B:i8 mg)(dX:b6 P w K mg base ca "_law_told" ["many","rows"] 1 bO)(bD:rP P w K mg base "_law_take" ["box","many"] 1 aN)(gz:rP P w K mg base "_law_shuffled" ["box","some"] 2 b9):rP P w K mg base "_law_drawn" ["box"] 3 (tR 4 0 (gM bO aN b9)):=
 ⟨⟨f,fd,F.mg,F.F.kp,F.b,tM (ca:=ca) (N:=["box","many","rows","order"]) (k:=2) F.F dE (by decide) fun cdv A outer s H G b E hr=>
  (@ar _ _ _ _ _ _ _ (bF (i:=1) (bb dg c9 aw (lT 0 bD (hr.mono (by decide)) aQ rfl rfl (aa aw ah))) dE.nd)
  (@ar _ _ _ _ _ _ _ (r0 (i:=2) (NB:=["turn","box","many"]) (own:=1) (ixs:=[0,1]) [] rfl (cF (by kernel_rfl)) (fun _ _=>rfl) (iq rfl B.range (bb dg c9 aw (lT 0 bD (hr.mono (by decide)) aQ rfl rfl (aa aw ah)))) (fun H0 G0 par br bx C ex s3 H3 pn=>(cQ (i:=0) (show (["turn","box","many"]:List Str).Nodup by decide +kernel))) (fun H0 G0 par br bx C ex s3 H3 pn hB1=>bV) (fun H0 G0 par br bx C ex s3 H3 pn hB1=>(lT 1 gz (hr.mono (by decide)) gc rfl rfl (aa (@SE.wv _ _ _ _ _ _ (oO rfl rfl B.list rfl B.range (af 2))) ah))) dE.nd)
  (@ar _ _ _ _ _ _ _ (bF (i:=3) (dz (aa (ak 1 rfl) (aa (ax dX (hr.mono (by decide)) aQ rfl rfl (aa (ak 1 rfl) (aa (ak 2 rfl) ah))) ah))) dE.nd)
  (@ar _ _ _ _ _ _ _ (cS (cv (gy hr.units) iC (lT 0 bD (hr.mono (by decide)) aQ rfl rfl (aa aw ah)) aw (bG _))
  (@ay _ _ _ _ _ (bF (i:=2) (@SE.wv _ _ _ _ _ _ (bb l4 ur (af 2) (eZ (aa (aP aE bC (af 2) (lT 0 bD (hr.mono (by decide)) aQ rfl rfl (aa (aF aV cR rfl B.len PySem.boot_len (af 2)) ah)) (fun _ _=>rfl)) ah)))) dE.nd))
  bX)
  (@ay _ _ _ _ _ (aX (dz (aa (ak 3 rfl) (aa (ak 2 rfl) ah)))))))))⟩,fun ds β h=>tD ds β h⟩
abbrev kZ:Stmt:=top 51
theorem hG:aC ["script","k","box","one","rows","other","others","thing","kept","many","found"] ["script"] (ao kZ):=⟨rfl,rfl,rfl,by decide +kernel,rfl,by decide +kernel,by decide +kernel⟩
theorem BH {f:Addr}{fd:FuncData}{fm cX cI c3 cV bo cf cg:List D->FR}{cL aN:List D->Int->FB}(F:iM K mg "law" kZ ["script"] f fd)(B:i8 mg)(lu:b6 P w K mg base ca "_law_box" ["script","k"] 1 fm)(je:b6 P w K mg base ca "rows_behind" ["one","other","rows","others"] 8 cX)(gj:b6 P w K mg base ca "_law_tell" ["rows","order"] 2 cI)(i3:b6 P w K mg base ca "_law_behind" ["one","other"] 2 c3)(i4:b6 P w K mg base ca "rows_beside" ["one","other","rows","others"] 8 cV)(cY:b6 P w K mg base ca "_law_beside" ["one","other"] 1 bo)(gp:b6 P w K mg base ca "rows_replaced" ["order","thing","other","rows","others"] 8 cf)(gm:b6 P w K mg base ca "_law_replaced" ["order","thing","other"] 1 cg)(gF:rP P w K mg base "_law_drawn" ["box"] 3 cL)(bD:rP P w K mg base "_law_take" ["box","many"] 1 aN):fW P w K mg base (nK P w) 9 f fd ["script"] (Bb K ca 1 (aW 11 1 (wo fm cX cI c3 cV bo cf cg cL aN))):=
 aK (N:=["script","k","box","one","rows","other","others","thing","kept","many","found"]) (k:=8) F.F hG fun cdv A outer s H G E hr=>
  (@ar _ _ _ _ _ _ _ (i6 PassesOwn.leaving rfl (iq rfl B.range (hV (js rfl) oI rfl B.max (by decide +kernel) aw (hV (qw rfl) zN rfl B.min (by decide +kernel) (aF aV cR rfl B.len PySem.boot_len (af 0)) aw))) (cQ (i:=1) hG.nd)
  (@ar _ _ _ _ _ _ _ (BF (i:=2) rfl (zx lu (hr.mono (by decide)) aQ rfl rfl (aa (ak 0 rfl) (aa (ak 1 rfl) ah))) hG.nd)
  (@ar _ _ _ _ _ _ _ (CM (dz (aa (lT 2 gF (hr.mono (by decide)) aQ rfl rfl ah) (aa (lT 2 gF (hr.mono (by decide)) aQ rfl rfl ah) ah))) (lh (i:=3) (j:=4) hG.nd) (lh (i:=5) (j:=6) hG.nd))
  (@ar _ _ _ _ _ _ _ (bF (i:=7) (lT 2 bD (hr.mono (by decide)) aQ rfl rfl (aa (aP aE bC (af 3) aw (fun _ _=>rfl)) ah)) hG.nd)
  (@ar _ _ _ _ _ _ _ (bF (i:=8) (@SE.wv _ _ _ _ _ _ (eZ (aa (@SE.wv _ _ _ _ _ _ (cn eS nW rfl B.list (by decide +kernel) (af 4))) (aa (@SE.wv _ _ _ _ _ _ (cn eS nW rfl B.list (by decide +kernel) (af 6))) ah)))) hG.nd)
  (@ar _ _ _ _ _ _ _ (bF (i:=9) (hV (js rfl) oI rfl B.max (by decide +kernel) (aF aV cR rfl B.len PySem.boot_len (af 4)) (aF aV cR rfl B.len PySem.boot_len (af 6))) hG.nd)
  (@ar _ _ _ _ _ _ _ (bF (i:=10) (ax je (hr.mono (by decide)) aQ rfl rfl (aa (ak 3 rfl) (aa (ak 5 rfl) (aa (ak 4 rfl) (aa (ak 6 rfl) ah))))) hG.nd)
  (@ar _ _ _ _ _ _ _ (cS (qS.t (kh (cv (jf hr.units) iC (aF aV cR rfl B.len PySem.boot_len (af 10)) (af 9) (bG _)) (i7 (c4 (cC rfl (ax gj (hr.mono (by decide)) aQ rfl rfl (aa (ak 10 rfl) (aa (ax i3 (hr.mono (by decide)) aQ rfl rfl (aa (ak 3 rfl) (aa (ak 5 rfl) ah))) ah)))))) (fun _ _=>rfl)))
  (@ay _ _ _ _ _ (aX iU))
  bX)
  (@ar _ _ _ _ _ _ _ (bF (i:=10) (ax i4 (hr.mono (by decide)) aQ rfl rfl (aa (ak 3 rfl) (aa (ak 5 rfl) (aa (ak 4 rfl) (aa (ak 6 rfl) ah))))) hG.nd)
  (@ar _ _ _ _ _ _ _ (cS (qS.t (kh (cv (jf hr.units) iC (aF aV cR rfl B.len PySem.boot_len (af 10)) (hV (js rfl) oI rfl B.max (by decide +kernel) aw (af 9)) (bG _)) (i7 (c4 (cC rfl (ax gj (hr.mono (by decide)) aQ rfl rfl (aa (ak 10 rfl) (aa (ax cY (hr.mono (by decide)) aQ rfl rfl (aa (ak 3 rfl) (aa (ak 5 rfl) ah))) ah)))))) (fun _ _=>rfl)))
  (@ay _ _ _ _ _ (aX iU))
  bX)
  (@ar _ _ _ _ _ _ _ (bF (i:=10) (ax gp (hr.mono (by decide)) aQ rfl rfl (aa (ak 3 rfl) (aa (ak 7 rfl) (aa (ak 5 rfl) (aa (ak 4 rfl) (aa (ak 6 rfl) ah)))))) hG.nd)
  (@ay _ _ _ _ _ (cS (qS.t (kh (cv (jf hr.units) iC (aF aV cR rfl B.len PySem.boot_len (af 10)) (af 9) (bG _)) (kh (c4 (cC rfl (ax gj (hr.mono (by decide)) aQ rfl rfl (aa (ak 10 rfl) (aa (ax gm (hr.mono (by decide)) aQ rfl rfl (aa (ak 3 rfl) (aa (ak 7 rfl) (aa (ak 5 rfl) ah)))) ah))))) (i7 (cv (jf hr.units) iC (eZ (aa (ak 4 rfl) (aa (ak 6 rfl) ah))) (af 8) (bG _))) (fun _ _=>rfl)) (fun _ _=>rfl)))
  (@ay _ _ _ _ _ (aX iU))
  bX)))))))))))))
  (@ay _ _ _ _ _ (aX iU)))
end
end RQ

end

section
namespace RM
open PySem L2
theorem ze {t u:VF Bool}{vs:List Nv}{β:Int}{a b:Bool}(h:t vs β=.ok a β)(h':u vs β=.ok b β):CJ t u vs β=.ok (a && b) β:=by
 rw[Ex,h];dsimp only[R.bnd]
 cases a with
 |true=>rw[if_pos rfl,h'];rfl
 |false=>rfl
theorem dA {t:VF Bool}{vs:List Nv}{β:Int}{a:Bool}(h:t vs β=.ok a β):nC t vs β=.ok (!a) β:=by rw[oB,h];rfl
theorem zp (n:Nat):(bQ n).Pairwise (· < ·):=by
 unfold bQ
 rw[List.pairwise_map]
 exact List.pairwise_lt_range.imp fun {a b} h=>by omega
theorem Eb {fa:VF D}{vs:List Nv}{β:Int}{l:List Pr}{f:Pr->Bool}(h:fa vs β=.ok (.list (l.map fun q=>PyData.bool (f q))) β):f1 fa (bR fun bs=>bs.all id) vs β=.ok (.bool (l.all f)) β:=by
 refine bJ h ?_
 simp only[bR]
 rw[fx]
 simp[List.all_map]
def upTo (n:Nat)(f:Pr->Bool)(i k:Nat):List Pr:=(OM.bE n).filter fun p=>(decide (p.1 < i) || (decide (p.1=i) && decide (p.2 < k))) && f p
theorem ue {n:Nat}(f:Pr->Bool)(i k:Nat)(h8:n<=8):(upTo n f i k).length<=64:=by
 have h1:(upTo n f i k).length<=(OM.bE n).length:=List.length_filter_le _ _
 rw[h9] at h1
 have:n * n<=64:=Nat.mul_le_mul h8 h8
 omega
theorem qR (n:Nat)(f:Pr->Bool):upTo n f 0 0= []:=by
 unfold upTo
 rw[List.filter_eq_nil_iff]
 intro p hp
 have:=OM.bg.mp hp
 rw[decide_eq_false (by omega),decide_eq_false (p:=p.2 < ((0:Nat):Int)) (by omega)];simp
theorem uB (n:Nat)(f:Pr->Bool):upTo n f n 0=(OM.bE n).filter f:=by
 unfold upTo
 refine List.filter_congr fun p hp=>?_
 have:=(OM.bg.mp hp).1.2
 rw[decide_eq_true this];simp
theorem tv (n:Nat)(f:Pr->Bool)(i:Nat):upTo n f i n=upTo n f (i + 1) 0:=by
 unfold upTo
 refine List.filter_congr fun p hp=>?_
 have h:=OM.bg.mp hp
 congr 1
 rw[Bool.eq_iff_iff]
 simp only[Bool.or_eq_true,Bool.and_eq_true,decide_eq_true_eq]
 omega
theorem mi {n i k:Nat}(f:Pr->Bool)(hi:i < n)(hk:k < n):upTo n f i (k + 1)=upTo n f i k ++ if f ((i:Int),(k:Int))=true then [((i:Int),(k:Int))] else []:=by
 refine OM.gE (OM.dQ _ (OM.gi n)) ?_ fun x=>?_
 ·show List.Pairwise OM.yd _
  rw[List.pairwise_append]
  refine⟨OM.dQ _ (OM.gi n),?_,fun p hp q hq=>?_⟩
  ·split <;> simp
  ·unfold upTo at hp
   have h1:=(List.mem_filter.mp hp).2
   simp only[Bool.or_eq_true,Bool.and_eq_true,decide_eq_true_eq] at h1
   split at hq
   ·have:q=((i:Int),(k:Int)):=by simpa using hq
    subst this
    show p.1 < (i:Int)\/(p.1=(i:Int)/\p.2 < (k:Int))
    exact h1.1
   ·cases hq
 ·rw[List.mem_append]
  unfold upTo
  rw[List.mem_filter,List.mem_filter,OM.bg]
  simp only[Bool.or_eq_true,Bool.and_eq_true,decide_eq_true_eq]
  constructor
  ·rintro⟨h1,h2,h3⟩
   by_cases z:x.1=i/\x.2=k
   ·obtain⟨xa,xb⟩:=x
    simp only at z h3
    obtain⟨rfl,rfl⟩:=z
    rw[if_pos h3]
    exact .inr (List.mem_singleton.mpr rfl)
   ·exact .inl ⟨h1,by omega,h3⟩
  ·rintro (⟨h1,h2,h3⟩ |h)
   ·exact⟨h1,by omega,h3⟩
   ·split at h
    ·rename_i hf
     have:x=((i:Int),(k:Int)):=by simpa using h
     subst this
     exact⟨⟨⟨by show (0:Int)<=(i:Int);omega,by show (i:Int) < n;omega⟩,by show (0:Int)<=(k:Int);omega,by show (k:Int) < n;omega⟩,.inr ⟨rfl,by show (k:Int) < ((k + 1:Nat):Int);omega⟩,hf⟩
    ·cases h
def tupI (r:List Int):D:=.tuple (r.map PyData.int)
theorem qV {fa fb:VF D}{vs:List Nv}{β:Int}{r:List Int}{k:Int}(h:fa vs β=.ok (tupI r) β)(h':fb vs β=.ok (.int k) β)(hk:k∈r):l8 fa fb vs β=.ok (.int (r.idxOf k:Nat)) β:=by
 unfold l8
 rw[h]
 dsimp only[R.bnd]
 rw[if_pos (by rfl),h']
 dsimp only[R.bnd,Bx,tupI]
 rw[gV]
 dsimp only
 rw[if_pos hk];rfl
end RM

end

section
namespace RM
open PySem L2
noncomputable def Ay:List D->FR:=aW 6 2 gL
theorem ED (ns:List Int)(k:Nat):∃z,Ay [b7 ns,.int k]=.ok (.list [.int z]) true:=by
 show ∃z,fin (gL [.fz (b7 ns),.fz (.int k),.no,.no,.no,.no] 0)=.ok (.list [.int z]) true
 unfold gL
 have e0:f2 (f2 (cst (.int 7919)) (gv 1) c5) (cst (.int 13)) bI [Nv.da (b7 ns),.da (.int k),.no,.no,.no,.no] 0=.ok (.int (7919 * k + 13)) 0:=aG (aG (x:=.int 7919) (y:=.int k) rfl rfl (oV ⟨by omega,by omega⟩)) rfl rfl
 rw[aJ (env':=[.fz (b7 ns),.fz (.int k),.fz (.int (7919 * k + 13)),.no,.no,.no]) (β':=0) ?h0]
 case h0=>
  show toS (f2 (f2 (cst (.int 7919)) (gv 1) c5) (cst (.int 13)) bI [Nv.da (b7 ns),.da (.int k),.no,.no,.no,.no] 0) _=_
  rw[e0];rfl
 obtain⟨c,hc⟩:∃c:Int,jz ([] ++ []) (jh (f2 (gv 1) (f1 (gv 0) bS) sO)) (cy 2 ([] ++ []) (f2 (gv 0) (gv 1) bw)) kz [.fz (b7 ns),.fz (.int k),.fz (.int (7919 * k + 13)),.no,.no,.no] 0=.nx [.fz (b7 ns),.fz (.int k),.fz (.int c),.no,.no,.no] 0:=by
  have e:jh (f2 (gv 1) (f1 (gv 0) bS) sO) (vl [.fz (b7 ns),.fz (.int k),.fz (.int (7919 * k + 13)),.no,.no,.no]) 0=.ok (decide ((k:Int) < (ns.map PyData.int).length)) 0:=DL rfl rfl
  by_cases h:k < ns.length
  ·rw[decide_eq_true (by simp;exact h)] at e
   refine⟨ns[k],?_⟩
   rw[jZ e]
   show toS (f2 (gv 0) (gv 1) bw [Nv.da (b7 ns),.da (.int k),.da (.int (7919 * k + 13)),.no,.no,.no] 0) _=_
   rw[aG (x:=b7 ns) (y:=.int k) (d:=.int ns[k]) (β1:=0) (β2:=0) rfl rfl]
   ·rfl
   ·show lF (ns.map PyData.int) (k:Int)=_
    rw[kH,EL h];rfl
  ·rw[decide_eq_false (by simp;omega)] at e
   exact⟨_,by rw[gA e];rfl⟩
 rw[aJ hc]
 have e1:jh (f2 (f2 (gv 2) (cst (.int 2)) j3) (cst (.int 0)) (gu false)) (vl [.fz (b7 ns),.fz (.int k),.fz (.int c),.no,.no,.no]) 0=.ok (decide (c % 2=0)) 0:=fG (neg:=false) (aG rfl rfl (mD (by omega))) rfl
 by_cases h:c % 2=0
 ·rw[decide_eq_true h] at e1
  refine⟨c / 2,?_⟩
  rw[kF (d:=.list [.int (c / 2)]) (b:=true) (β':=0)]
  ·rfl
  ·rw[jZ e1]
   show toS (dY (ae (f2 (gv 2) (cst (.int 2)) Dx) au) [Nv.da (b7 ns),.da (.int k),.da (.int c),.no,.no,.no] 0) _=_
   rw[fE (ds:=[.int (c / 2)]) (β1:=0)]
   ·rfl
   ·have e2:f2 (gv 2) (cst (.int 2)) Dx [Nv.da (b7 ns),.da (.int k),.da (.int c),.no,.no,.no] 0=.ok (.int (c / 2)) 0:=aG (x:=.int c) rfl rfl (CT (by omega) (by omega))
    rw[cP,e2];rfl
   ·simp
 ·rw[decide_eq_false h] at e1
  rw[aJ (env':=[.fz (b7 ns),.fz (.int k),.fz (.int c),.no,.no,.no]) (β':=0) (by rw[gA e1];rfl)]
  rw[aJ (env':=[.fz (b7 ns),.fz (.int k),.fz (.int c),.fz (.int 0),.no,.no]) (β':=0) (by rfl)]
  obtain⟨env',β',el,z,x,y,rfl,rfl⟩:=dD (t:=.nm 4) (m:=aO (cy 5 ((((([] ++ []) ++ []) ++ ([] ++ [])) ++ []) ++ []) (f2 (f2 (f2 (f2 (f2 (gv 2) (cst (.int 2147483647)) j3) (cst (.int 48271)) c5) (f2 (cst (.int 7919)) (gv 4) c5) bI) (cst (.int 1)) bI) (cst (.int 2147483647)) j3))
    (aO (cy 5 (([] ++ []) ++ []) (f2 (f2 (gv 5) (gv 5) c5) (cst (.int 2147483629)) j3))
    (cy 3 (([] ++ []) ++ (([] ++ ([] ++ [])) ++ [])) (f2 (f2 (gv 3) (cst (.int 2147483647)) c5) (f2 (f2 (gv 5) (f2 (gv 5) (cst (.int 13)) bI) c5) (cst (.int 2147483647)) j3) bI)))) (ds:=c8 0 16) (k:=0)
   (fun _ env β=>∃(z:Int) (x y:Sl),env= [.fz (b7 ns),.fz (.int k),.fz (.int c),.fz (.int z),x,y]/\β=0) (env:=[.fz (b7 ns),.fz (.int k),.fz (.int c),.fz (.int 0),.no,.no]) (β:=0) ⟨0,.no,.no,rfl,rfl⟩ (by
    rintro i d env β hi ⟨z,x,y,rfl,rfl⟩
    obtain⟨_,rfl⟩:=fV hi
    generalize (0 + (i:Int))=j
    refine⟨[.fz (b7 ns),.fz (.int k),.fz (.int c),.fz (.int z),.fz (.int j),y],rfl,?_⟩
    have b1:0<=c % 2147483647/\c % 2147483647 < 2147483647:=⟨Int.emod_nonneg _ (by omega),Int.emod_lt_of_pos _ (by omega)⟩
    have a1:f2 (f2 (f2 (f2 (f2 (gv 2) (cst (.int 2147483647)) j3) (cst (.int 48271)) c5) (f2 (cst (.int 7919)) (gv 4) c5) bI) (cst (.int 1)) bI) (cst (.int 2147483647)) j3 (vl [.fz (b7 ns),.fz (.int k),.fz (.int c),.fz (.int z),.fz (.int j),y]) 0=.ok (.int ((c % 2147483647 * 48271 + 7919 * j + 1) % 2147483647)) 0:=
     aG (aG (aG (aG (aG (x:=.int c) rfl rfl (mD (by omega))) rfl (zh ⟨by omega,by omega⟩)) (aG (x:=.int 7919) (y:=.int j) rfl rfl (oV ⟨by omega,by omega⟩)) rfl) rfl rfl) rfl (mD (by omega))
    generalize hp:(c % 2147483647 * 48271 + 7919 * j + 1) % 2147483647=p at a1
    have bp:0<=p/\p < 2147483647:=by rw[<-hp];exact⟨Int.emod_nonneg _ (by omega),Int.emod_lt_of_pos _ (by omega)⟩
    rw[aJ (env':=[.fz (b7 ns),.fz (.int k),.fz (.int c),.fz (.int z),.fz (.int j),.fz (.int p)]) (β':=0) ?k1]
    case k1=>rw[fD,a1];rfl
    have a2:f2 (f2 (gv 5) (gv 5) c5) (cst (.int 2147483629)) j3 (vl [.fz (b7 ns),.fz (.int k),.fz (.int c),.fz (.int z),.fz (.int j),.fz (.int p)]) 0=.ok (.int (p * p % 2147483629)) 0:=
     aG (aG (x:=.int p) (y:=.int p) rfl rfl (oV ⟨by omega,by omega⟩)) rfl (mD (by omega))
    generalize hq:p * p % 2147483629=q at a2
    have bq:0<=q/\q < 2147483629:=by rw[<-hq];exact⟨Int.emod_nonneg _ (by omega),Int.emod_lt_of_pos _ (by omega)⟩
    rw[aJ (env':=[.fz (b7 ns),.fz (.int k),.fz (.int c),.fz (.int z),.fz (.int j),.fz (.int q)]) (β':=0) ?k2]
    case k2=>rw[fD,a2];rfl
    have a3:f2 (f2 (gv 3) (cst (.int 2147483647)) c5) (f2 (f2 (gv 5) (f2 (gv 5) (cst (.int 13)) bI) c5) (cst (.int 2147483647)) j3) bI (vl [.fz (b7 ns),.fz (.int k),.fz (.int c),.fz (.int z),.fz (.int j),.fz (.int q)]) 0=.ok (.int (z * 2147483647 + q * (q + 13) % 2147483647)) 0:=
     aG (aG (x:=.int z) rfl rfl (zh ⟨by omega,by omega⟩)) (aG (aG (x:=.int q) (y:=.int (q + 13)) rfl rfl (oV ⟨by omega,by omega⟩)) rfl (mD (by omega))) rfl
    refine⟨[.fz (b7 ns),.fz (.int k),.fz (.int c),.fz (.int (z * 2147483647 + q * (q + 13) % 2147483647)),.fz (.int j),.fz (.int q)],0,?_,_,_,_,rfl,rfl⟩
    rw[fD,a3];rfl)
  refine⟨z,?_⟩
  rw[aJ (env':=[.fz (b7 ns),.fz (.int k),.fz (.int c),.fz (.int z),x,y]) (β':=0) ?h2]
  case h2=>exact el
  show fin (toS (dY (ae (gv 3) au) [.da (b7 ns),.da (.int k),.da (.int c),.da (.int z),x.val,y.val] 0) _)=_
  rw[fE (ds:=[.int z]) (β1:=0) rfl (by simp)]
  rfl
noncomputable def xl:List D->Int->FB:=tR 4 1 (dH ie)
theorem EI (ns:List Int)(hz:ns.length<=100)(β:Int):∃(ms:List Int) (β':Int),xl [.list (ns.map PyData.int)] β=.ok (tupI ms) false β'/\ms.Perm ns:=by
 show ∃(ms:List Int) (β':Int),Fc (dH ie [.bx,.fz (.list (ns.map PyData.int)),.no,.no] β)=.ok (tupI ms) false β'/\ms.Perm ns
 unfold dH
 rw[aJ (env':=[.bx,.fz (.list (ns.map PyData.int)),.ow (.list (ns.map PyData.int)),.no]) (β':=β) (by rfl)]
 have ez:dY au [Nv.bx,.da (.list (ns.map PyData.int)),.da (.list (ns.map PyData.int)),.no] β=.ok (.list []) β:=fE rfl (by simp)
 rw[aJ (env':=[.bx,.fz (.list (ns.map PyData.int)),.ow (.list (ns.map PyData.int)),.ow (.list [])]) (β':=β) ?h]
 case h=>
  show toS (dY au [Nv.bx,.da (.list (ns.map PyData.int)),.da (.list (ns.map PyData.int)),.no] β) _=_
  rw[ez];rfl
 obtain⟨env',β',ew,ms,rfl,hp⟩:=nY (L:=[] ++ []) (t:=jh (f2 (gv 2) (dY au) (gu true))) (m:=jS 3 2 ([] ++ []) (qQ 0 ie (ae (f1 (gv 2) bS) au)))
  (fun k env β=>∃ls ms:List Int,env= [.bx,.fz (.list (ns.map PyData.int)),.ow (.list (ls.map PyData.int)),.ow (.list (ms.map PyData.int))]/\(ms ++ ls).Perm ns/\k=ls.length)
  (fun env β=>∃ms:List Int,env= [.bx,.fz (.list (ns.map PyData.int)),.ow (.list []),.ow (.list (ms.map PyData.int))]/\ms.Perm ns) (n:=1000) (k:=ns.length) (env:=[.bx,.fz (.list (ns.map PyData.int)),.ow (.list (ns.map PyData.int)),.ow (.list [])]) (β:=β) (by omega) ⟨ns,[],rfl,by simp,rfl⟩ (by
   rintro k env β ⟨ls,ms,rfl,hp,rfl⟩
   have e1:dY au [Nv.bx,.da (.list (ns.map PyData.int)),.da (.list (ls.map PyData.int)),.da (.list (ms.map PyData.int))] β=.ok (.list (([]:List Int).map PyData.int)) β:=fE rfl (by simp)
   have et:jh (f2 (gv 2) (dY au) (gu true)) [Nv.bx,.da (.list (ns.map PyData.int)),.da (.list (ls.map PyData.int)),.da (.list (ms.map PyData.int))] β=.ok (!decide (ls= [])) β:=
    ja _ _ _ _ (aG (x:=.list (ls.map PyData.int)) rfl e1 (by rw[tZ];rfl))
   refine⟨_,_,et,?_⟩
   have hlen:=hp.length_eq
   rw[List.length_append] at hlen
   cases ls with
   |nil=>exact .inl ⟨rfl,ms,rfl,by simpa using hp⟩
   |cons y ys=>
    refine .inr ⟨rfl,?_⟩
    have hm:(0:Int) < ((y :: ys).length:Nat)/\(((y :: ys).length:Nat):Int) < 1073741824:=by
     have:(y :: ys).length<=100:=by omega
     constructor
     ·simp
     ·omega
    obtain⟨j,hj⟩:∃j:Nat,β % (((y :: ys).length:Nat):Int)=j:=⟨(β % (((y :: ys).length:Nat):Int)).toNat,by have:=Int.emod_nonneg β (b:=(((y :: ys).length:Nat):Int)) (by omega);omega⟩
    have hj2:j < (y :: ys).length:=by have:=Int.emod_lt_of_pos β hm.1;omega
    have ef:qQ 0 ie (ae (f1 (gv 2) bS) au) [Nv.bx,.da (.list (ns.map PyData.int)),.da (.list ((y :: ys).map PyData.int)),.da (.list (ms.map PyData.int))] β=.ok (.int (j:Int)) (β / (((y :: ys).length:Nat):Int)):=by
     refine jL (ds:=[.int (((y :: ys).length:Nat):Int)]) (b:=false) (by rfl) ?_ (by rw[sv hm.1 hm.2,hj])
     show R.ok [PyData.int ((((y :: ys).map PyData.int).length:Nat):Int)] β=_
     rw[List.length_map]
    have hpop:yk ((y :: ys).map PyData.int) (.int (j:Int))=some (.int (y :: ys)[j],((y :: ys).eraseIdx j).map PyData.int):=by
     unfold yk
     dsimp only
     rw[if_pos ⟨by omega,by omega⟩]
     have es:seqIndex? (j:Int) ((y :: ys).map PyData.int).length=some j:=by
      rw[List.length_map]
      exact PySem.StrLaws.seqIndex_nonneg (by omega) (by omega)
     rw[es]
     dsimp only
     rw[List.getElem?_map,List.getElem?_eq_getElem hj2,qK];rfl
    refine⟨[.bx,.fz (.list (ns.map PyData.int)),.ow (.list (((y :: ys).eraseIdx j).map PyData.int)),.ow (.list ((ms ++ [(y :: ys)[j]]).map PyData.int))],β / (((y :: ys).length:Nat):Int),((y :: ys).eraseIdx j).length,?_,?_,(y :: ys).eraseIdx j,ms ++ [(y :: ys)[j]],rfl,?_,rfl⟩
    ·show jS 3 2 ([] ++ []) (qQ 0 ie (ae (f1 (gv 2) bS) au)) [.bx,.fz (.list (ns.map PyData.int)),.ow (.list ((y :: ys).map PyData.int)),.ow (.list (ms.map PyData.int))] β=_
     rw[vq (ds:=ms.map PyData.int) (es:=(y :: ys).map PyData.int) (by rfl) (by rfl) (by decide) ef (by rfl) hpop (by rw[List.length_map];omega),List.map_append]
     rfl
    ·rw[List.length_eraseIdx]
     rw[if_pos hj2]
     show (y :: ys).length - 1 < (y :: ys).length
     simp
    ·rw[List.append_assoc]
     exact (List.Perm.append_left ms (oP (List.getElem?_eq_getElem hj2))).trans hp)
 refine⟨ms,β',?_,hp⟩
 rw[aJ ew]
 rfl
def kP (rows:List (List Int))(p:Pr):Bool:= !decide (p.1=p.2) && rows.all fun r=>decide (r.idxOf p.1 < r.idxOf p.2)
theorem Ci {α:Type}{fa:VF D}{vs:List Nv}{β:Int}{l:List α}{f:α->Bool}(h:fa vs β=.ok (.list (l.map fun q=>PyData.bool (f q))) β):f1 fa (bR fun bs=>bs.all id) vs β=.ok (.bool (l.all f)) β:=by
 refine bJ h ?_
 simp only[bR]
 rw[fx]
 simp[List.all_map]
def oS:List D->FR:=aW 5 2 iE
theorem xh {n:Nat}{rows:List (List Int)}(h8:n<=8)(hr:rows.length<=100)(hp:∀r,r∈rows->r.Perm (bQ n)):oS [.int n,.list (rows.map tupI)]=.ok (.tuple (((OM.bE n).filter (kP rows)).map aY)) false:=by
 show fin (iE [.fz (.int n),.fz (.list (rows.map tupI)),.no,.no,.no] 0)=_
 unfold iE
 rw[aJ (env':=[.fz (.int n),.fz (.list (rows.map tupI)),.ow (.list []),.no,.no]) (β':=0) ?g1]
 case g1=>rw[o8,fE (ds:=[]) rfl (by simp)];rfl
 obtain⟨env',β',ef,s,t,rfl,rfl⟩:=dD (t:=.nm 3) (m:=gB (.nm 4) [] (cj (gv 0))
   (jz (([] ++ []) ++ ([] ++ [])) (CJ (jh (f2 (gv 3) (gv 4) (gu true))) (kR (f1 (aU 1 [3,4] (.nm 0) (dv (gv 1)) ij (f2 (l8 (gv 0) (gv 1)) (l8 (gv 0) (gv 2)) sO)) (bR fun bs=>bs.all id))))
   (nr 2 ([3] ++ ([4] ++ [])) (de (ae (gv 3) (ae (gv 4) au))))
   kz)) (ds:=c8 0 n) (k:=0)
  (fun i env β=>∃s t:Sl,env= [.fz (.int n),.fz (.list (rows.map tupI)),.ow (.list ((upTo n (kP rows) i 0).map aY)),s,t]/\β=0)
  (env:=[.fz (.int n),.fz (.list (rows.map tupI)),.ow (.list []),.no,.no]) (β:=0) ⟨.no,.no,by rw[qR];rfl,rfl⟩ (by
   rintro i d env β hi ⟨s,t,rfl,rfl⟩
   obtain⟨hin,rfl⟩:=fV hi
   refine⟨[.fz (.int n),.fz (.list (rows.map tupI)),.ow (.list ((upTo n (kP rows) (0 + i) 0).map aY)),.fz (.int (0 + (i:Int))),t],rfl,?_⟩
   rw[Nat.zero_add,Int.zero_add]
   obtain⟨env',β',ef,t2,rfl,rfl⟩:=dD (t:=.nm 4) (m:=jz (([] ++ []) ++ ([] ++ [])) (CJ (jh (f2 (gv 3) (gv 4) (gu true))) (kR (f1 (aU 1 [3,4] (.nm 0) (dv (gv 1)) ij (f2 (l8 (gv 0) (gv 1)) (l8 (gv 0) (gv 2)) sO)) (bR fun bs=>bs.all id))))
     (nr 2 ([3] ++ ([4] ++ [])) (de (ae (gv 3) (ae (gv 4) au))))
     kz) (ds:=c8 0 n) (k:=0)
    (fun k env β=>∃t:Sl,env= [.fz (.int n),.fz (.list (rows.map tupI)),.ow (.list ((upTo n (kP rows) i k).map aY)),.fz (.int i),t]/\β=0)
    (env:=[.fz (.int n),.fz (.list (rows.map tupI)),.ow (.list ((upTo n (kP rows) i 0).map aY)),.fz (.int i),t]) (β:=0) ⟨t,rfl,rfl⟩ (by
     rintro k d env β hk ⟨t,rfl,rfl⟩
     obtain⟨hkn,rfl⟩:=fV hk
     refine⟨[.fz (.int n),.fz (.list (rows.map tupI)),.ow (.list ((upTo n (kP rows) i (0 + k)).map aY)),.fz (.int i),.fz (.int (0 + (k:Int)))],rfl,?_⟩
     rw[Nat.zero_add,Int.zero_add]
     have ec:aU 1 [3,4] (.nm 0) (dv (gv 1)) ij (f2 (l8 (gv 0) (gv 1)) (l8 (gv 0) (gv 2)) sO) (vl [.fz (.int n),.fz (.list (rows.map tupI)),.ow (.list ((upTo n (kP rows) i k).map aY)),.fz (.int i),.fz (.int k)]) 0=.ok (.list (rows.map fun r=>PyData.bool (decide (r.idxOf (i:Int) < r.idxOf (k:Int))))) 0:=by
      refine bA (l:=rows) (e:=tupI) (fun r=>PyData.bool (decide (r.idxOf (i:Int) < r.idxOf (k:Int)))) rfl (by omega) fun r hr=>⟨_,rfl,?_⟩
      have hp:=hp r hr
      refine aG (qV (r:=r) (k:=i) rfl rfl (hp.mem_iff.mpr (aR.mpr ⟨by omega,by omega⟩))) (qV (r:=r) (k:=k) rfl rfl (hp.mem_iff.mpr (aR.mpr ⟨by omega,by omega⟩))) ?_
      show some (PyData.bool (decide (((r.idxOf (i:Int):Nat):Int) < ((r.idxOf (k:Int):Nat):Int))))=_
      congr 2
      rw[Bool.eq_iff_iff,decide_eq_true_eq,decide_eq_true_eq]
      omega
     have et:CJ (jh (f2 (gv 3) (gv 4) (gu true))) (kR (f1 (aU 1 [3,4] (.nm 0) (dv (gv 1)) ij (f2 (l8 (gv 0) (gv 1)) (l8 (gv 0) (gv 2)) sO)) (bR fun bs=>bs.all id))) (vl [.fz (.int n),.fz (.list (rows.map tupI)),.ow (.list ((upTo n (kP rows) i k).map aY)),.fz (.int i),.fz (.int k)]) 0=.ok (kP rows ((i:Int),(k:Int))) 0:=
      ze (fG (neg:=true) (i:=i) (j:=k) rfl rfl) (ik (Ci ec))
     have hl:=ue (kP rows) i k h8
     by_cases c:kP rows ((i:Int),(k:Int))=true
     ·rw[c] at et
      refine⟨[.fz (.int n),.fz (.list (rows.map tupI)),.ow (.list ((upTo n (kP rows) i (k + 1)).map aY)),.fz (.int i),.fz (.int k)],0,?_,_,rfl,rfl⟩
      rw[jZ et,mi (kP rows) hin hkn,if_pos c,List.map_append]
      exact xk (i:=2) (L:=[3] ++ ([4] ++ [])) (env:=[.fz (.int n),.fz (.list (rows.map tupI)),.ow (.list ((upTo n (kP rows) i k).map aY)),.fz (.int i),.fz (.int k)]) (ds:=(upTo n (kP rows) i k).map aY) (by rfl) (fk rfl rfl) (by rfl) (by rw[List.length_map];omega)
     ·rw[Bool.not_eq_true] at c
      rw[c] at et
      refine⟨[.fz (.int n),.fz (.list (rows.map tupI)),.ow (.list ((upTo n (kP rows) i (k + 1)).map aY)),.fz (.int i),.fz (.int k)],0,?_,_,rfl,rfl⟩
      rw[gA et,mi (kP rows) hin hkn,c]
      simp)
   rw[dh,Nat.zero_add,tv] at ef
   refine⟨[.fz (.int n),.fz (.list (rows.map tupI)),.ow (.list ((upTo n (kP rows) (i + 1) 0).map aY)),.fz (.int i),t2],0,?_,_,_,rfl,rfl⟩
   rw[fS (env:=[.fz (.int n),.fz (.list (rows.map tupI)),.ow (.list ((upTo n (kP rows) i 0).map aY)),.fz (.int i),t]) (cD (n:=n) (β1:=0) rfl (by omega))]
   exact ef)
 rw[dh,Nat.zero_add,uB] at ef
 rw[aJ (env':=[.fz (.int n),.fz (.list (rows.map tupI)),.ow (.list (((OM.bE n).filter (kP rows)).map aY)),s,t]) (β':=0) ?g2]
 case g2=>
  rw[fS (env:=[.fz (.int n),.fz (.list (rows.map tupI)),.ow (.list []),.no,.no]) (cD (n:=n) (β1:=0) rfl (by omega))]
  exact ef
 rfl
theorem eQ {rows:List (List Int)}{p:Pr}:kP rows p=true↔p.1≠p.2/\∀r,r∈rows->r.idxOf p.1 < r.idxOf p.2:=by
 unfold kP
 rw[Bool.and_eq_true,Bool.not_eq_true',decide_eq_false_iff_not,List.all_eq_true]
 simp only[decide_eq_true_eq]
theorem xM {n:Nat}{rows:List (List Int)}(h1:1<=n)(h8:n<=8)(hne:rows≠ []):OM.Ord n ((OM.bE n).filter (kP rows)):=by
 refine⟨h1,h8,fun p hm=>OM.bg.mp (List.mem_filter.mp hm).1,OM.dQ _ (OM.gi n),fun a h=>?_,fun a b c hab hbc=>?_⟩
 ·exact (eQ.mp (List.mem_filter.mp h).2).1 rfl
 ·obtain⟨g1,t1⟩:=List.mem_filter.mp hab
  obtain⟨g2,t2⟩:=List.mem_filter.mp hbc
  have g1:=OM.bg.mp g1
  have g2:=OM.bg.mp g2
  obtain⟨n1,q1⟩:=eQ.mp t1
  obtain⟨n2,q2⟩:=eQ.mp t2
  refine List.mem_filter.mpr ⟨OM.bg.mpr ⟨g1.1,g2.2⟩,eQ.mpr ⟨fun e=>?_,fun r hr=>Nat.lt_trans (q1 r hr) (q2 r hr)⟩⟩
  simp only at e q1 q2
  subst e
  cases rows with
  |nil=>exact hne rfl
  |cons r rest=>
   have hr:r∈r :: rest:=List.mem_cons_self ..
   exact absurd (Nat.lt_trans (q1 r hr) (q2 r hr)) (Nat.lt_irrefl _)
theorem pC {α:Type}{t:Tg}{fe:VF D}{vs:List Nv}(e:α->D)(P:α->Prop):∀{ds:List D} {β:Int},(∀d,d∈ds->∃vs1,k8 t d vs=some vs1/\∀β,∃a β',fe vs1 β=.ok (e a) β'/\P a)->
  ∃(as:List α) (β':Int),fT t ij fe vs ds β=.ok (as.map e) β'/\as.length=ds.length/\∀a,a∈as->P a
 | [],β,_=>⟨[],β,rfl,rfl,fun a h=>(by cases h)⟩
 |d :: ds,β,h=>by
  obtain⟨vs1,hb,hf⟩:=h d (List.mem_cons_self ..)
  obtain⟨a,β1,ef,pa⟩:=hf β
  obtain⟨as,β2,ec,hl,hP⟩:=pC e P (ds:=ds) (β:=β1) fun d' hd=>h d' (List.mem_cons_of_mem _ hd)
  refine⟨a :: as,β2,?_,by rw[List.length_cons,List.length_cons,hl],fun x hx=>?_⟩
  ·unfold fT
   rw[hb]
   dsimp only[ij,R.okb]
   rw[if_pos rfl,ef]
   dsimp only
   rw[ec];rfl
  ·rcases List.mem_cons.mp hx with z |z
   ·rw[z];exact pa
   ·exact hP x z
end RM

end

section
namespace RM
open PySem L2
theorem qz {N:Nat}{l:List Pr}(h1:1<=N)(h8:N<=8)(w:OM.Wn N l)(nd:l.Nodup)(irr:∀a,(a,a)∉l):jB (.list (l.map aY))=some (.list ((OM.gQ 8 (OM.Mem l)).map aY)):=by
 simp only[jB,iw]
 rw[if_pos ⟨EH h8 w,nd,v7 h1 h8 w nd irr⟩]
def Ba (z:Int)(p:Pr):Pr:=(p.1 + z,p.2 + z)
def i0 (n:Nat)(l k:List Pr):List Pr:=l ++ k.map (Ba n)
theorem lS {n:Nat}{l k:List Pr}{p:Pr}:p∈i0 n l k↔p∈l\/(p.1 - n,p.2 - n)∈k:=by
 unfold i0
 rw[List.mem_append,List.mem_map]
 refine or_congr Iff.rfl ⟨?_,fun h=>⟨_,h,?_⟩⟩
 ·rintro⟨q,hq,rfl⟩
  have:((Ba n q).1 - (n:Int),(Ba n q).2 - (n:Int))=q:=by
   obtain⟨a,b⟩:=q
   show (a + (n:Int) - n,b + (n:Int) - n)=(a,b)
   rw[Int.add_sub_cancel,Int.add_sub_cancel]
  rw[this];exact hq
 ·obtain⟨a,b⟩:=p
  show (a - (n:Int) + n,b - (n:Int) + n)=(a,b)
  rw[Int.sub_add_cancel,Int.sub_add_cancel]
section
variable {n m:Nat}{l k:List Pr}
theorem vk (O:OM.Ord n l)(O':OM.Ord m k):OM.Wn (n + m) (i0 n l k):=fun p hp=>by
 rcases lS.mp hp with h |h
 ·have:=O.wn p h;omega
 ·have:=O'.wn _ h;simp only at this;omega
theorem nO (O:OM.Ord n l)(O':OM.Ord m k):OM.sN (i0 n l k):=by
 show List.Pairwise OM.yd _
 unfold i0
 rw[List.pairwise_append,List.pairwise_map]
 refine⟨O.ris,O'.ris.imp fun {a b} h=>?_,fun p hp q hq=>?_⟩
 ·unfold OM.yd at h ⊢
  unfold Ba
  simp only
  omega
 ·obtain⟨r,hr,rfl⟩:=List.mem_map.mp hq
  have h1:=O.wn p hp
  have h2:=O'.wn r hr
  unfold OM.yd Ba
  simp only
  omega
theorem v9 (O:OM.Ord n l)(O':OM.Ord m k)(a:Int):(a,a)∉i0 n l k:=fun h=>by
 rcases lS.mp h with h |h
 ·exact O.irr a h
 ·exact O'.irr _ h
theorem AU (O:OM.Ord n l)(O':OM.Ord m k)(h8:n + m<=8):jB (.list ((i0 n l k).map aY))=some (.list ((i0 n l k).map aY)):=by
 have h1:=O.lo
 rw[qz (N:=n + m) (by omega) h8 (vk O O') (OM.gZ (nO O O')) (v9 O O')]
 rw[OM.qg (fun p hp=>by have:=vk O O' p hp;omega) (nO O O')]
def lR (N n i:Nat):List Pr:=(OM.bE N).filter fun p=>decide (p.1 < i) && decide ((n:Int)<=p.2)
theorem jW {N n i:Nat}{p:Pr}:p∈lR N n i↔((0<=p.1/\p.1 < N)/\(0<=p.2/\p.2 < N))/\p.1 < i/\(n:Int)<=p.2:=by
 unfold lR
 rw[List.mem_filter,OM.bg,Bool.and_eq_true,decide_eq_true_eq,decide_eq_true_eq]
theorem se (N n i:Nat):OM.sN (lR N n i):=OM.dQ _ (OM.gi N)
theorem zv (N n:Nat):lR N n 0= []:=by
 unfold lR
 rw[List.filter_eq_nil_iff]
 intro p hp
 have:=OM.bg.mp hp
 rw[decide_eq_false (by omega)];simp
theorem zC {i:Nat}(hi:i < n):lR (n + m) n (i + 1)=lR (n + m) n i ++ (bQ m).map fun b=>((i:Int),(n:Int) + b):=by
 refine OM.gE (se _ _ _) ?_ fun x=>?_
 ·show List.Pairwise OM.yd _
  rw[List.pairwise_append,List.pairwise_map]
  refine⟨se _ _ _,(zp m).imp fun {a b} h=>.inr ⟨rfl,by simp only;omega⟩,fun p hp q hq=>?_⟩
  obtain⟨b,_,rfl⟩:=List.mem_map.mp hq
  exact .inl (jW.mp hp).2.1
 ·rw[List.mem_append,jW,jW,List.mem_map]
  constructor
  ·rintro⟨h1,h2,h3⟩
   by_cases z:x.1 < i
   ·exact .inl ⟨h1,z,h3⟩
   ·refine .inr ⟨x.2 - n,aR.mpr ⟨by omega,by omega⟩,?_⟩
    obtain⟨a,b⟩:=x
    simp only at *
    rw[show a=(i:Int) by omega,show (n:Int) + (b - n)=b by omega]
  ·rintro (⟨h1,h2,h3⟩ | ⟨b,hb,rfl⟩)
   ·exact⟨h1,by omega,h3⟩
   ·have:=aR.mp hb
    simp only
    omega
theorem AQ (O:OM.Ord n l)(O':OM.Ord m k){i:Nat}(hi:i<=n):OM.Wn (n + m) (i0 n l k ++ lR (n + m) n i)/\(i0 n l k ++ lR (n + m) n i).Nodup/\∀a,(a,a)∉i0 n l k ++ lR (n + m) n i:=by
 refine⟨fun p hp=>?_,?_,fun a h=>?_⟩
 ·rcases List.mem_append.mp hp with h |h
  ·exact vk O O' p h
  ·exact (jW.mp h).1
 ·rw[List.nodup_append]
  refine⟨OM.gZ (nO O O'),OM.gZ (se _ _ _),fun p hp q hq e=>?_⟩
  subst e
  have h2:=jW.mp hq
  rcases lS.mp hp with h |h
  ·have:=O.wn p h;omega
  ·have:=O'.wn _ h;simp only at this;omega
 ·rcases List.mem_append.mp h with h |h
  ·exact v9 O O' a h
  ·have:=jW.mp h;simp only at this;omega
end
theorem EW {n m:Nat}{l k:List Pr}(O:OM.Ord n l)(O':OM.Ord m k)(h8:n + m<=8){i:Nat}(hi:i<=n):(i0 n l k ++ lR (n + m) n i).length < 64:=by
 have h1:=O.lo
 obtain⟨a,b,c⟩:=AQ O O' hi
 exact v7 (by omega) h8 a b c
noncomputable def GK:List D->FR:=aW 2 2 (iO j4)
theorem FH {n m:Nat}{l k:List Pr}(O:OM.Ord n l)(O':OM.Ord m k):GK [ag n l,ag m k]=.ok .none false:=by
 show fin (iO j4 [.fz (ag n l),.fz (ag m k)] 0)=_
 unfold iO
 rw[aJ (env':=[.fz (ag n l),.fz (ag m k)]) (β':=0) ?a,gf,av (ds:=[ag m k]) (β1:=0) rfl (oR O')]
 ·rfl
 case a=>rw[gf,av (ds:=[ag n l]) (β1:=0) rfl (oR O)];rfl
def Gp:List D->FR:=aW 1 1 iJ
theorem GW {z:Int}(h:z<=8):Gp [.int z]=.ok .none false:=by
 show fin (iJ [.fz (.int z)] 0)=_
 unfold iJ
 have e:jh (f2 (gv 0) (cst (.int 8)) Fs) (vl [.fz (.int z)]) 0=.ok (decide (z > 8)) 0:=ja _ _ _ _ (aG (x:=.int z) rfl rfl rfl)
 rw[decide_eq_false (by omega)] at e
 rw[gA e];rfl
end RM

end

section
namespace RM
open PySem L2
def BK:D->Bool
 | .tuple _=>true
 |_=>false
theorem BV {d:D}(h:BK d=true):∃ds,d=.tuple ds:=by
 cases d with
 |tuple ds=>exact⟨ds,rfl⟩
 |_=>cases h
theorem zm {d:D}(h:du d=false):gq "tuple" d=some (.bool (BK d)):=by
 unfold gq;rw[h];cases d <;> rfl
section
variable {fa fb:VF D}{vs:List Nv}{β:Int}
theorem CZ {d:D}(ha:fa vs β=.ok d β)(h:du d=false):kR (f1 fa (gq "tuple")) vs β=.ok (BK d) β:=ik (bJ ha (zm h))
theorem ra {l:List D}{f:D->Bool}(h:fa vs β=.ok (.list (l.map fun q=>PyData.bool (f q))) β):f1 fa (bR fun bs=>bs.all id) vs β=.ok (.bool (l.all f)) β:=by
 refine bJ h ?_
 simp only[bR]
 rw[fx]
 simp[List.all_map]
theorem C7 {ds:List D}(ha:fa vs β=.ok (.tuple ds) β):f1 fa bS vs β=.ok (.int ds.length) β:=bJ ha rfl
theorem Ds {t u:VF Bool}(h:t vs β=.ok true β):kT t u vs β=.ok true β:=by rw[qZ,h];rfl
theorem k6 {t u:VF Bool}{c:Bool}(h:t vs β=.ok false β)(h':u vs β=.ok c β):kT t u vs β=.ok c β:=by rw[qZ,h];exact h'
theorem CY (h:fa vs β=.ok (.bool false) β):hX fa fb vs β=.ok (.bool false) β:=by unfold hX;rw[h];rfl
theorem Dd {d:D}(h:fa vs β=.ok (.bool true) β)(h':fb vs β=.ok d β):hX fa fb vs β=.ok d β:=by unfold hX;rw[h];exact h'
end
def Sq (c k:Nat)(d:D):Prop:=d.showable=true/\d.depth<=k/\d.shown.length<=c
theorem Sq.mono {c k c' k':Nat}{d:D}(h:Sq c k d)(h1:c<=c')(h2:k<=k'):Sq c' k' d:=⟨h.1,Nat.le_trans h.2.1 h2,Nat.le_trans h.2.2 h1⟩
theorem uR {c k:Nat}:∀{ds:List D},(∀d,d∈ds->Sq c k d)->PyData.showableAll ds=true/\PyData.depthAll ds<=k/\(∀t,t∈PyData.shownAll ds->t.length<=c)/\(PyData.shownAll ds).length=ds.length
 | [],_=>⟨by simp[PyData.showableAll],by simp[PyData.depthAll],fun t h=>by simp[PyData.shownAll] at h,by simp[PyData.shownAll]⟩
 |d :: ds,h=>by
  obtain⟨h1,h2,h3,h4⟩:=uR fun x hx=>h x (List.mem_cons_of_mem _ hx)
  obtain⟨q1,q2,q3⟩:=h d (List.mem_cons_self ..)
  refine⟨?_,?_,fun t ht=>?_,?_⟩
  ·rw[PyData.showableAll,q1,h1];rfl
  ·rw[PyData.depthAll];omega
  ·rw[PyData.shownAll] at ht
   rcases List.mem_cons.mp ht with rfl |ht
   ·exact q3
   ·exact h3 t ht
  ·rw[PyData.shownAll,List.length_cons,List.length_cons,h4]
theorem sV {c:Nat}:∀{ts:List Str},(∀t,t∈ts->t.length<=c)->(Str.join ", " ts).length<=(c + 2) * ts.length
 | [],_=>by show (Str.join ", " []).length<=_;exact Nat.zero_le _
 | [x],h=>by
  have:=h x (List.mem_cons_self ..)
  show x.length<=(c + 2) * 1
  omega
 |x :: y :: r,h=>by
  have ih:=sV (ts:=y :: r) fun t ht=>h t (List.mem_cons_of_mem _ ht)
  have:=h x (List.mem_cons_self ..)
  show (x ++ ", " ++ Str.join ", " (y :: r)).length<=_
  rw[strLen_append,strLen_append]
  have e2:((", ":String):Str).length=2:=rfl
  rw[e2]
  have e:(c + 2) * (x :: y :: r).length=(c + 2) * (y :: r).length + (c + 2):=by rw[List.length_cons,Nat.mul_succ]
  omega
theorem AY {c k:Nat}{ds:List D}(h:∀d,d∈ds->Sq c k d):Sq (3 + (c + 2) * ds.length) (k + 1) (.tuple ds):=by
 obtain⟨h1,h2,h3,h4⟩:=uR h
 refine⟨by rw[PyData.showable];exact h1,by rw[PyData.depth];omega,?_⟩
 rw[PyData.shown]
 unfold tupleText
 rw[strLen_append,strLen_append]
 have j:=sV h3
 rw[h4] at j
 have e1:((("(":String):Str)).length=1:=rfl
 have e3:((if (PyData.shownAll ds).length == 1 then ",)" else ")":String):Str).length<=2:=by split <;> exact by decide
 rw[e1]
 omega
theorem Dz {c k:Nat}{ds:List D}(h:∀d,d∈ds->Sq c k d):Sq (2 + (c + 2) * ds.length) (k + 1) (.list ds):=by
 obtain⟨h1,h2,h3,h4⟩:=uR h
 refine⟨by rw[PyData.showable];exact h1,by rw[PyData.depth];omega,?_⟩
 rw[PyData.shown]
 unfold listText
 rw[strLen_append]
 have:=yV (c:=c + 2) (PyData.shownAll ds) 0 "[" fun t ht=>by have:=h3 t ht;omega
 rw[h4] at this
 have e1:((("[":String):Str)).length=1:=rfl
 have e2:((("]":String):Str)).length=1:=rfl
 rw[e1] at this
 rw[e2];omega
def Bf (d:D):Prop:=Dc d=true
theorem vc:∀{ds:List D},(∀d,d∈ds->Bf d)->yU ds=true
 | [],_=>rfl
 |d :: ds,h=>by
  have h1:=vc fun x hx=>h x (List.mem_cons_of_mem _ hx)
  have q1:Dc d=true:=h d (List.mem_cons_self ..)
  rw[yU,q1,h1];rfl
theorem zc {ds:List D}(h:∀d,d∈ds->Bf d):Bf (.tuple ds):=by show Dc (.tuple ds)=true;rw[Dc];exact vc h
theorem Ez {ds:List D}(h:∀d,d∈ds->Bf d):Bf (.list ds):=by show Dc (.list ds)=true;rw[Dc];exact vc h
def HJ:List Int:=[-1,0,1,2,3,4,5,6,7,8,9]
theorem Ac:∀i∈HJ,(PyData.int i).showable=true/\(PyData.int i).shown.length<=20:=by decide +kernel
theorem wj {i:Int}(h: -1<=i/\i<=9):i∈HJ:=by
 simp only[HJ,List.mem_cons,List.not_mem_nil,or_false]
 omega
def A7 (d:D):Prop:=d=.none\/(∃b,d=.bool b)\/∃i:Int,d=.int i/\ -1<=i/\i<=9
theorem A7.sq {d:D}(h:A7 d):Sq 20 0 d:=by
 rcases h with rfl | ⟨b,rfl⟩ | ⟨i,rfl,h⟩
 ·exact⟨by simp[PyData.showable],by simp[PyData.depth],by rw[PyData.shown];decide⟩
 ·exact⟨by simp[PyData.showable],by simp[PyData.depth],by rw[PyData.shown];cases b <;> decide⟩
 ·exact⟨(Ac i (wj h)).1,by simp[PyData.depth],(Ac i (wj h)).2⟩
theorem A7.bf {d:D}(h:A7 d):Bf d:=by
 rcases h with rfl | ⟨b,rfl⟩ | ⟨i,rfl,h⟩ <;> exact by simp[Bf,Dc]
theorem A7.scr {d:D}(h:A7 d):du d=false:=by
 rcases h with rfl | ⟨b,rfl⟩ | ⟨i,rfl,h⟩ <;> rfl
section
variable {vs:List Nv}{β β1 β2:Int}{fa:VF D}{fr:VF (List D)}{d:D}{ds:List D}
theorem ac {fa:VF D}{fr:VF (List D)}(h:fa vs β=.ok d β)(h':fr vs β=.ok ds β):ae fa fr vs β=.ok (d :: ds) β:=by rw[cP,h];dsimp only[R.bnd];rw[h']
theorem an:au vs β=.ok [] β:=rfl
theorem tp (h:fr vs β=.ok ds β)(hz:ds.length<=1000:=by simp):de fr vs β=.ok (.tuple ds) β:=kx h hz
theorem lp (h:fr vs β=.ok ds β)(hz:ds.length<=1000:=by simp):dY fr vs β=.ok (.list ds) β:=fE h hz
theorem ck (d:D):cst d vs β=.ok d β:=rfl
end
theorem xq {i:Int}(h: -1<=i/\i<=9):A7 (.int i):=.inr (.inr ⟨i,rfl,h⟩)
theorem Ah {d:D}(h:du d=false):gq "list" d=some (.bool (match d with | .list _=>true |_=>false)):=by
 unfold gq;rw[h];cases d <;> rfl
def EC:D->Bool
 | .list _=>true
 |_=>false
theorem B4 {d:D}(h:EC d=true):∃ds,d=.list ds:=by
 cases d with
 |list ds=>exact⟨ds,rfl⟩
 |_=>cases h
theorem C8 {fa:VF D}{vs:List Nv}{β:Int}{d:D}(ha:fa vs β=.ok d β)(h:du d=false):f1 fa (gq "list") vs β=.ok (.bool (EC d)) β:=bJ ha (by rw[Ah h];cases d <;> rfl)
theorem Fg {fa:VF D}{vs:List Nv}{β:Int}{ds:List D}(ha:fa vs β=.ok (.list ds) β):f1 fa bS vs β=.ok (.int ds.length) β:=bJ ha rfl
end RM

end

section
namespace RM
open PySem L2
def Ge (e:D):Prop:=du e=false/\∀es,e=.tuple es->es.length<=100/\∀x,x∈es->du x=false
def Hb:List D->FR:=aW 1 1 lV
theorem Ht {d:D}(h:du d=false):Hb [d]=.ok (.bool (Bk d)) false:=by
 have:=wW [d] (by rw[lZ h];exact fun z=>by cases z)
 rw[lZ h] at this
 exact this
def Sp (p:Pr):Prop:=(0<=p.1/\p.1<=8)/\(0<=p.2/\p.2<=8)
theorem Es {es:List D}(hl:es.length<=100)(h:∀x,x∈es->du x=false):Ge (.tuple es):=⟨rfl,fun es' e=>by cases e;exact⟨hl,h⟩⟩
end RM

end

section
namespace RM
open PySem PySem.Spec L2 PyProof.Rows
theorem oJ:∀(ns acc:List Int),acc.Nodup->(ns.foldl step_dedup acc).length<=acc.length + ns.length/\((ns.foldl step_dedup acc).length=acc.length + ns.length↔(ns.Nodup/\∀x,x∈ns->x∉acc))
 | [],acc,_=>by simp
 |n :: ns,acc,hn=>by
  rw[List.foldl_cons]
  by_cases h:n∈acc
  ·have e:step_dedup acc n=acc:=by unfold step_dedup;rw[if_pos (by simpa using h)]
   rw[e]
   obtain⟨h1,h2⟩:=oJ ns acc hn
   refine⟨by rw[List.length_cons];omega,⟨fun z=>?_,fun z=>absurd h (z.2 n (List.mem_cons_self ..))⟩⟩
   rw[List.length_cons] at z;omega
  ·have e:step_dedup acc n=acc ++ [n]:=by unfold step_dedup;rw[if_neg (by simpa using h)]
   have hn':(acc ++ [n]).Nodup:=by
    rw[List.nodup_append]
    refine⟨hn,List.nodup_cons.mpr ⟨by simp,List.nodup_nil⟩,fun a ha b hb=>?_⟩
    rw[List.mem_singleton] at hb
    subst hb
    exact fun q=>h (q▸ha)
   rw[e]
   obtain⟨h1,h2⟩:=oJ ns (acc ++ [n]) hn'
   rw[List.length_append,List.length_singleton] at h1 h2
   refine⟨by rw[List.length_cons];omega,?_⟩
   rw[List.length_cons,show acc.length + (ns.length + 1)=acc.length + 1 + ns.length by omega,h2,List.nodup_cons]
   constructor
   ·rintro⟨z1,z2⟩
    refine⟨⟨fun q=>z2 n q (by simp),z1⟩,fun x hx=>?_⟩
    rcases List.mem_cons.mp hx with rfl |hx
    ·exact h
    ·exact fun q=>z2 x hx (List.mem_append_left _ q)
   ·rintro⟨⟨z1,z2⟩,z3⟩
    refine⟨z2,fun x hx q=>?_⟩
    rcases List.mem_append.mp q with q |q
    ·exact z3 x (List.mem_cons_of_mem _ hx) q
    ·rw[List.mem_singleton] at q;subst q;exact z1 hx
theorem ux (ns:List Int):qb ns=ns.length↔ns.Nodup:=by
 have e:firstMet (fun i=>ns.getD i 0) ns.length=ns.foldl step_dedup []:=by
  unfold firstMet
  congr 1
  refine List.ext_getElem (by simp) fun i h1 h2=>?_
  simp[List.getD_eq_getElem?_getD,h2]
 unfold qb
 rw[e]
 have:=(oJ ns [] List.nodup_nil).2
 simpa using this
theorem kg:∀{l m:List Int},l.Nodup->(∀x,x∈l->x∈m)->m.length<=l.length->l.Perm m
 | [],m,_,_,h=>by
  have:m= []:=List.length_eq_zero_iff.mp (by simpa using h)
  rw[this]
 |x :: l,m,nd,hs,h=>by
  obtain⟨h1,h2⟩:=List.nodup_cons.mp nd
  have hx:x∈m:=hs x (List.mem_cons_self ..)
  have pm:m.Perm (x :: m.erase x):=List.perm_cons_erase hx
  refine (List.Perm.cons x (kg (m:=m.erase x) h2 (fun y hy=>?_) ?_)).trans pm.symm
  ·have hy':=pm.mem_iff.mp (hs y (List.mem_cons_of_mem _ hy))
   rcases List.mem_cons.mp hy' with rfl |q
   ·exact absurd hy h1
   ·exact q
  ·have:=pm.length_eq
   rw[List.length_cons] at this h
   omega
theorem zk {n:Nat}{r:List Int}(hl:r.length=n)(hb:∀x,x∈r->0<=x/\x < n)(nd:r.Nodup):r.Perm (bQ n):=kg nd (fun x hx=>aR.mpr (hb x hx)) (by rw[bh];omega)
noncomputable def pe (n:Nat)(d:D):Bool:=@decide (∃r:List Int,d=tupI r/\r.Perm (bQ n)) (Classical.propDecidable _)
theorem E3 {n:Nat}{d:D}(h:pe n d=true):∃r:List Int,d=tupI r/\r.Perm (bQ n):=@of_decide_eq_true _ (Classical.propDecidable _) h
theorem tL {n:Nat}{r:List Int}(h:r.Perm (bQ n)):pe n (tupI r)=true:=@decide_eq_true _ (Classical.propDecidable _) ⟨r,rfl,h⟩
theorem rO {n:Nat}{d:D}(h:∀r:List Int,d=tupI r->¬r.Perm (bQ n)):pe n d=false:=@decide_eq_false _ (Classical.propDecidable _) fun⟨r,e,p⟩=>h r e p
theorem nV {r q:List Int}(h:tupI r=tupI q):r=q:=by
 unfold tupI at h
 have h:=PyData.tuple.inj h
 exact List.map_inj_right (fun a b e=>PyData.int.inj e) |>.mp h
theorem ya {d:D}{n:Int}(h:i5 d n=true):∃i:Int,d=.int i/\0<=i/\i < n:=by
 cases d with
 |int i=>exact⟨i,rfl,of_decide_eq_true h⟩
 |_=>cases h
theorem qN {n:Int}:∀{ds:List D},(ds.all fun e=>i5 e n)=true->∃r:List Int,ds=r.map PyData.int/\∀x,x∈r->0<=x/\x < n
 | [],_=>⟨[],rfl,fun x hx=>by cases hx⟩
 |d :: ds,h=>by
  rw[List.all_cons,Bool.and_eq_true] at h
  obtain⟨i,rfl,hi⟩:=ya h.1
  obtain⟨r,rfl,hr⟩:=qN h.2
  refine⟨i :: r,rfl,fun x hx=>?_⟩
  rcases List.mem_cons.mp hx with rfl |hx
  ·exact hi
  ·exact hr x hx
theorem xG {n:Nat}{r:List Int}(h:∀x,x∈r->0<=x/\x < (n:Int)):((r.map PyData.int).all fun e=>i5 e n)=true:=by
 rw[List.all_map,List.all_eq_true]
 intro x hx
 exact decide_eq_true (h x hx)
theorem gV:∀r:List Int,iB (r.map PyData.int)=some r
 | []=>rfl
 |x :: r=>by
  have:=gV r
  simp only[List.map_cons,iB,this]
  try rfl
def wa:List D->FR:=aW 2 2 (ky dR)
theorem E8 {n:Nat}{d:D}(h8:n<=100)(h:Ge d):wa [d,.int n]=.ok (.bool (pe n d)) false:=by
 show fin (ky dR [.fz d,.fz (.int n)] 0)=_
 unfold ky
 have g0:gv 0 (vl [.fz d,.fz (.int n)]) 0=.ok d 0:=rfl
 have t1:=CZ g0 h.1
 cases hy:BK d with
 |false=>
  rw[hy] at t1
  rw[kF (d:=.bool false) (b:=false) (β':=0) (by rw[jZ (Ds (dA t1))];rfl),rO]
  ·rfl
  ·intro r e;subst e;cases hy
 |true=>
  obtain⟨es,rfl⟩:=BV hy
  rw[hy] at t1
  have t2:jh (f2 (f1 (gv 0) bS) (gv 1) (gu true)) (vl [.fz (.tuple es),.fz (.int n)]) 0=.ok (!decide ((es.length:Int)=n)) 0:=fG (neg:=true) (C7 g0) rfl
  by_cases hl:es.length=n
  ·rw[decide_eq_true (show (es.length:Int)=n by omega)] at t2
   rw[aJ (env':=[.fz (.tuple es),.fz (.int n)]) (β':=0) (by rw[gA (k6 (dA t1) t2)];rfl)]
   have hs:=(h.2 _ rfl).2
   have ec:aU 1 [1] (.nm 0) (dv (gv 0)) ij (az dR (ae (gv 0) (ae (gv 1) au))) (vl [.fz (.tuple es),.fz (.int n)]) 0=.ok (.list (es.map fun e=>PyData.bool (i5 e n))) 0:=
    mG (fun e=>PyData.bool (i5 e n)) rfl (by omega) fun e he=>⟨_,rfl,av (ds:=[e,.int n]) rfl (sI (hs e he))⟩
   have ea:=ra ec
   rw[iS]
   cases hb:(es.all fun e=>i5 e n) with
   |false=>
    rw[hb] at ea
    rw[CY ea,rO]
    ·rfl
    ·intro r e pm
     have e:=PyData.tuple.inj e
     subst e
     rw[xG fun x hx=>aR.mp (pm.mem_iff.mp hx)] at hb
     cases hb
   |true=>
    rw[hb] at ea
    obtain⟨r,rfl,hr⟩:=qN hb
    have hrl:r.length=n:=by rw[List.length_map] at hl;exact hl
    have es:f1 (gv 0) nU (vl [.fz (.tuple (r.map PyData.int)),.fz (.int n)]) 0=.ok (.int (qb r)) 0:=by
     refine bJ g0 ?_
     show (match iB (r.map PyData.int) with |some ns=>if ns.length<=1000 then some (PyData.int (qb ns)) else none |none=>none)=_
     rw[gV]
     exact if_pos (by omega)
    rw[Dd ea (aG es rfl (xt false (qb r) n))]
    show FR.ok (.bool (decide ((qb r:Int)=(n:Int)))) false=_
    by_cases nd:r.Nodup
    ·have:=(ux r).mpr nd
     rw[decide_eq_true (by omega),show pe n (.tuple (r.map PyData.int))=true from tL (zk hrl hr nd)]
    ·have:qb r≠r.length:=fun q=>nd ((ux r).mp q)
     rw[decide_eq_false (by omega),rO]
     intro q e pm
     have e:=nV (r:=r) e
     subst e
     exact nd (pm.nodup_iff.mpr (jl n))
  ·rw[decide_eq_false (show ¬(es.length:Int)=n by omega)] at t2
   rw[kF (d:=.bool false) (b:=false) (β':=0) (by rw[jZ (k6 (dA t1) t2)];rfl),rO]
   ·rfl
   ·intro r e pm
    have e:=PyData.tuple.inj e
    subst e
    have:=pm.length_eq
    rw[bh] at this
    rw[List.length_map] at hl
    exact hl this
end RM

end

section
namespace RM
open PySem L2
def p7 (r:List Int):List Int:=(List.range r.length).map fun (a:Nat)=>((r.idxOf (a:Int):Nat):Int)
def fX (r:List Int)(k:Nat):List Int:=(List.range r.length).map fun (a:Nat)=>if r.idxOf (a:Int) < k then ((r.idxOf (a:Int):Nat):Int) else 0
theorem yc {n:Nat}{r:List Int}(h:r.Perm (bQ n)):fX r r.length=p7 r:=by
 unfold fX p7
 refine List.map_congr_left fun a ha=>?_
 have hl:=h.length_eq
 rw[bh] at hl
 have:=List.mem_range.mp ha
 rw[if_pos (List.idxOf_lt_length_iff.mpr (h.mem_iff.mpr (aR.mpr ⟨by omega,by omega⟩)))]
theorem uT (r:List Int):fX r 0=List.replicate r.length 0:=by
 unfold fX
 refine List.ext_getElem (by simp) fun i h1 h2=>by simp
theorem vC {n:Nat}{r:List Int}(h:r.Perm (bQ n)){k:Nat}{x:Int}(hk:r[k]? =some x):(fX r k).set x.toNat (k:Int)=fX r (k + 1):=by
 have hl:=h.length_eq
 rw[bh] at hl
 have hx:=aR.mp (h.mem_iff.mp (List.mem_of_getElem? hk))
 have nd:r.Nodup:=h.nodup_iff.mpr (jl n)
 obtain⟨hkl,hke⟩:=List.getElem?_eq_some_iff.mp hk
 have hix:r.idxOf x=k:=by rw[<-hke];exact nd.idxOf_getElem k hkl
 unfold fX
 refine List.ext_getElem (by simp) fun i h1 h2=>?_
 have hi:i < r.length:=by simpa using h2
 rw[List.getElem_set]
 simp only[List.getElem_map,List.getElem_range]
 by_cases e:x.toNat=i
 ·rw[if_pos e]
  have ex:(i:Int)=x:=by omega
  rw[ex,hix,if_pos (by omega)]
 ·rw[if_neg e]
  have:r.idxOf (i:Int)≠k:=fun q=>by
   have hm:(i:Int)∈r:=h.mem_iff.mpr (aR.mpr ⟨by omega,by omega⟩)
   have h3:=List.getElem_idxOf (List.idxOf_lt_length_iff.mpr hm)
   simp only[q] at h3
   rw[hke] at h3
   omega
  by_cases z:r.idxOf (i:Int) < k
  ·rw[if_pos z,if_pos (by omega)]
  ·rw[if_neg z,if_neg (by omega)]
theorem zi {n:Nat}{r:List Int}(h:r.Perm (bQ n)){a:Int}(ha:0<=a/\a < n):lF (p7 r) a=some ((r.idxOf a:Nat):Int):=by
 have hl:=h.length_eq
 rw[bh] at hl
 have e:(a.toNat:Int)=a:=by omega
 have:=ku (xs:=p7 r) (j:=a.toNat) (v:=((r.idxOf a:Nat):Int)) (by
  unfold p7
  rw[List.getElem?_map,List.getElem?_range (by omega)]
  simp only[Option.map_some,e])
 rw[e] at this
 exact this
def Fi:List D->FR:=aW 4 1 me
theorem Fq {n:Nat}{r:List Int}(h100:n<=100)(h:r.Perm (bQ n)):Fi [tupI r]=.ok (.list ((p7 r).map PyData.int)) true:=by
 have hl:=h.length_eq
 rw[bh] at hl
 show fin (me [.fz (tupI r),.no,.no,.no] 0)=_
 unfold me
 rw[aJ (env':=[.fz (tupI r),.ow (.list ((fX r 0).map PyData.int)),.no,.no]) (β':=0) ?a]
 case a=>
  have e:f2 (dY (ae (cst (.int 0)) au)) (f1 (gv 0) bS) za (vl [.fz (tupI r),.no,.no,.no]) 0=.ok (.list ((fX r 0).map PyData.int)) 0:=by
   refine aG (lp (ac (ck _) an)) (C7 (ds:=r.map PyData.int) rfl) ?_
   rw[List.length_map,uT,List.map_replicate]
   simp only[za]
   rw[if_pos ?q]
   ·congr 2
    rw[Int.toNat_natCast]
    induction r.length with
    |zero=>rfl
    |succ m ih=>first |rw[List.replicate_succ,List.replicate_succ,List.flatten_cons,ih];rfl | (simp[List.replicate_succ] at ih ⊢;try exact ih)
   case q=>first | (constructor <;> first |omega | (show _<=_;simp;try omega)) | (rw[sizeLine_eq];simp;omega)
  rw[o8,e];rfl
 have ee:An (gv 0) (vl [.fz (tupI r),.ow (.list ((fX r 0).map PyData.int)),.no,.no]) 0=.ok (la (r.map PyData.int)) 0:=rfl
 obtain⟨env',β',ef,s,t,rfl,rfl⟩:=dD (t:=.two 2 3) (m:=sW 1 [2] [] (gv 2) (gv 3)) (ds:=la (r.map PyData.int)) (k:=0)
  (fun k env β=>∃s t:Sl,env= [.fz (tupI r),.ow (.list ((fX r k).map PyData.int)),s,t]/\β=0)
  (env:=[.fz (tupI r),.ow (.list ((fX r 0).map PyData.int)),.no,.no]) (β:=0) ⟨.no,.no,rfl,rfl⟩ (by
   rintro k d env β hk ⟨s,t,rfl,rfl⟩
   unfold la at hk
   rw[List.getElem?_mapIdx,List.getElem?_map] at hk
   cases hx:r[k]? with
   |none=>rw[hx] at hk;cases hk
   |some x=>
    rw[hx] at hk
    cases hk
    have hxm:=aR.mp (h.mem_iff.mp (List.mem_of_getElem? hx))
    refine⟨[.fz (tupI r),.ow (.list ((fX r (0 + k)).map PyData.int)),.fz (.int k),.fz (.int x)],rfl,?_⟩
    rw[Nat.zero_add]
    refine⟨[.fz (tupI r),.ow (.list ((fX r (k + 1)).map PyData.int)),.fz (.int k),.fz (.int x)],0,?_,_,_,rfl,rfl⟩
    rw[Az (ds:=(fX r k).map PyData.int) (d:=.int k) (k:=x) (n:=x.toNat) (β1:=0) (β2:=0) rfl (by rfl) rfl (by rfl) ?b]
    ·rw[<-vC h hx,List.map_set];rfl
    case b=>
     unfold uF
     rw[if_pos hxm.1,if_pos (by rw[List.length_map];unfold fX;simp;omega)])
 have hle:(la (r.map PyData.int)).length=r.length:=by unfold la;simp
 rw[Nat.zero_add,hle,yc h] at ef
 rw[aJ (env':=[.fz (tupI r),.ow (.list ((p7 r).map PyData.int)),s,t]) (β':=0) (by
  rw[fS (env:=[.fz (tupI r),.ow (.list ((fX r 0).map PyData.int)),.no,.no]) ee]
  exact ef)]
 rfl
def Cm (l:List Pr)(r:List Int):Bool:=l.all fun p=>decide (r.idxOf p.1 < r.idxOf p.2)
def Row (n:Nat)(l:List Pr)(r:List Int):Prop:=r.Perm (bQ n)/\Cm l r=true
noncomputable def sh (n:Nat)(l:List Pr)(d:D):Bool:=@decide (∃r:List Int,d=tupI r/\Row n l r) (Classical.propDecidable _)
theorem FF {n:Nat}{l:List Pr}{d:D}(h:sh n l d=true):∃r:List Int,d=tupI r/\Row n l r:=@of_decide_eq_true _ (Classical.propDecidable _) h
theorem wR {n:Nat}{l:List Pr}{r:List Int}(h:Row n l r):sh n l (tupI r)=true:=@decide_eq_true _ (Classical.propDecidable _) ⟨r,rfl,h⟩
theorem CS {n:Nat}{l:List Pr}{d:D}(h:∀r:List Int,d=tupI r->¬Row n l r):sh n l d=false:=@decide_eq_false _ (Classical.propDecidable _) fun⟨r,e,p⟩=>h r e p
noncomputable def GZ:List D->FR:=aW 3 2 (fL wa Fi)
theorem Af {n:Nat}{r:List Int}(h:r.Perm (bQ n)){a b:Int}(ha:0<=a/\a < n)(hb:0<=b/\b < n){fp fa fb:VF D}{vs:List Nv}{β:Int}(hp:fp vs β=.ok (.list ((p7 r).map PyData.int)) β)(h1:fa vs β=.ok (.int a) β)(h2:fb vs β=.ok (.int b) β) :
  f2 (f2 fp fa bw) (f2 fp fb bw) sO vs β=.ok (.bool (decide (r.idxOf a < r.idxOf b))) β:=by
 refine aG (aG hp h1 (show lF ((p7 r).map PyData.int) a=_ by rw[kH,zi h ha];rfl)) (aG hp h2 (show lF ((p7 r).map PyData.int) b=_ by rw[kH,zi h hb];rfl)) ?_
 show some (PyData.bool (decide (((r.idxOf a:Nat):Int) < ((r.idxOf b:Nat):Int))))=_
 congr 2
 rw[Bool.eq_iff_iff,decide_eq_true_eq,decide_eq_true_eq]
 omega
theorem Iw {n:Nat}{l:List Pr}{d:D}(O:OM.Ord n l)(h:Ge d):GZ [d,ag n l]=.ok (.bool (sh n l d)) false:=by
 have h8:=O.hi
 show fin (fL wa Fi [.fz d,.fz (ag n l),.no] 0)=_
 unfold fL
 have t:kR (az wa (ae (gv 0) (ae (f2 (gv 1) (cst (.int 0)) bw) au))) (vl [.fz d,.fz (ag n l),.no]) 0=.ok (pe n d) 0:=ik (av (ds:=[d,.int n]) (ac rfl (ac (DI (n:=n) (l:=l) rfl) an)) (E8 (by omega) h))
 cases q:pe n d with
 |false=>
  rw[q] at t
  rw[kF (d:=.bool false) (b:=false) (β':=0) (by rw[jZ (dA t)];rfl),CS]
  ·rfl
  ·rintro r rfl hr
   rw[tL hr.1] at q;cases q
 |true=>
  rw[q] at t
  obtain⟨r,rfl,pm⟩:=E3 q
  rw[aJ (env':=[.fz (tupI r),.fz (ag n l),.no]) (β':=0) (by rw[gA (dA t)];rfl)]
  rw[aJ (env':=[.fz (tupI r),.fz (ag n l),.fz (.list ((p7 r).map PyData.int))]) (β':=0) (by rw[fD,av (ds:=[tupI r]) (β1:=0) rfl (Fq (by omega) pm)];rfl)]
  have ec:aU 2 [2] (.two 0 1) (dv (f2 (gv 1) (cst (.int 1)) bw)) ij (f2 (f2 (gv 2) (gv 0) bw) (f2 (gv 2) (gv 1) bw) sO) (vl [.fz (tupI r),.fz (ag n l),.fz (.list ((p7 r).map PyData.int))]) 0=.ok (.list (l.map fun p=>PyData.bool (decide (r.idxOf p.1 < r.idxOf p.2)))) 0:=by
   refine bA (l:=l) (e:=aY) (fun p=>PyData.bool (decide (r.idxOf p.1 < r.idxOf p.2))) rfl (by have:=lP O;omega) fun p hp=>⟨_,rfl,?_⟩
   have hw:=O.wn p hp
   exact Af pm hw.1 hw.2 rfl rfl rfl
  rw[iS,Eb (f:=fun p=>decide (r.idxOf p.1 < r.idxOf p.2)) ec]
  show FR.ok (.bool (Cm l r)) false=_
  cases qf:Cm l r with
  |true=>rw[wR ⟨pm,qf⟩]
  |false=>
   rw[CS]
   rintro r' e hr
   have e:=nV e
   subst e
   rw[hr.2] at qf;cases qf
def Gt (d:D):Prop:=du d=false/\∀ds,d=.list ds->ds.length<=100/\∀e,e∈ds->Ge e
noncomputable def ua (n:Nat)(l:List Pr)(d:D):Bool:=@decide (∃rs:List (List Int),d=.list (rs.map tupI)/\rs≠ []/\∀r,r∈rs->Row n l r) (Classical.propDecidable _)
theorem EN {n:Nat}{l:List Pr}{d:D}(h:ua n l d=true):∃rs:List (List Int),d=.list (rs.map tupI)/\rs≠ []/\∀r,r∈rs->Row n l r:=@of_decide_eq_true _ (Classical.propDecidable _) h
theorem qH {n:Nat}{l:List Pr}{rs:List (List Int)}(h1:rs≠ [])(h:∀r,r∈rs->Row n l r):ua n l (.list (rs.map tupI))=true:=@decide_eq_true _ (Classical.propDecidable _) ⟨rs,rfl,h1,h⟩
theorem uN {n:Nat}{l:List Pr}{d:D}(h:∀rs:List (List Int),d=.list (rs.map tupI)->rs≠ []->∃r,r∈rs/\¬Row n l r):ua n l d=false:=@decide_eq_false _ (Classical.propDecidable _) fun⟨r,e,h1,h2⟩=>by
 obtain⟨x,hx,hn⟩:=h r e h1
 exact hn (h2 x hx)
theorem all_rows {n:Nat}{l:List Pr}:∀{ds:List D},ds.all (sh n l)=true->∃rs:List (List Int),ds=rs.map tupI/\∀r,r∈rs->Row n l r
 | [],_=>⟨[],rfl,fun r hr=>by cases hr⟩
 |d :: ds,h=>by
  rw[List.all_cons,Bool.and_eq_true] at h
  obtain⟨r,rfl,hr⟩:=FF h.1
  obtain⟨rs,rfl,hrs⟩:=all_rows h.2
  refine⟨r :: rs,rfl,fun x hx=>?_⟩
  rcases List.mem_cons.mp hx with rfl |hx
  ·exact hr
  ·exact hrs x hx
noncomputable def Ih:List D->FR:=aW 2 2 (jV GZ)
theorem Iy {n:Nat}{l:List Pr}{d:D}(O:OM.Ord n l)(h:Gt d):Ih [d,ag n l]=.ok (.bool (ua n l d)) false:=by
 show fin (jV GZ [.fz d,.fz (ag n l)] 0)=_
 unfold jV
 have e1:=C8 (fa:=gv 0) (vs:=vl [.fz d,.fz (ag n l)]) (β:=0) rfl h.1
 cases q:EC d with
 |false=>
  rw[q] at e1
  rw[kF (d:=.bool false) (b:=false) (β':=0) (by rw[jZ (Ds (dA (ik e1)))];rfl),uN]
  ·rfl
  ·rintro rs rfl;cases q
 |true=>
  rw[q] at e1
  obtain⟨ds,rfl⟩:=B4 q
  have hd:=h.2 ds rfl
  have t2:jh (f2 (f1 (gv 0) bS) (cst (.int 0)) (gu false)) (vl [.fz (.list ds),.fz (ag n l)]) 0=.ok (decide ((ds.length:Int)=0)) 0:=fG (neg:=false) (Fg rfl) rfl
  cases ds with
  |nil=>
   rw[kF (d:=.bool false) (b:=false) (β':=0) (by rw[jZ (k6 (dA (ik e1)) t2)];rfl),uN]
   ·rfl
   ·intro rs e hne
    have e:=PyData.list.inj e
    cases rs with
    |nil=>exact absurd rfl hne
    |cons=>cases e
  |cons x ds=>
   rw[decide_eq_false (by simp;omega)] at t2
   rw[aJ (env':=[.fz (.list (x :: ds)),.fz (ag n l)]) (β':=0) (by rw[gA (k6 (dA (ik e1)) t2)];rfl)]
   have ec:aU 1 [1] (.nm 0) (dv (gv 0)) ij (az GZ (ae (gv 0) (ae (gv 1) au))) (vl [.fz (.list (x :: ds)),.fz (ag n l)]) 0=.ok (.list ((x :: ds).map fun e=>PyData.bool (sh n l e))) 0:=
    mG (fun e=>PyData.bool (sh n l e)) rfl (by omega) fun e he=>⟨_,rfl,av (ds:=[e,ag n l]) rfl (Iw O (hd.2 e he))⟩
   rw[iS,ra (f:=sh n l) ec]
   cases qa:(x :: ds).all (sh n l) with
   |true=>
    obtain⟨rs,e,hrs⟩:=all_rows qa
    rw[e,qH (by rintro rfl;cases e) hrs];rfl
   |false=>
    rw[uN]
    ·rfl
    ·intro rs e hne
     have e:=PyData.list.inj e
     rw[e,List.all_map,List.all_eq_false] at qa
     obtain⟨r,hr,hx⟩:=qa
     exact⟨r,hr,fun z=>hx (wR z)⟩
def Ca (rs:List (List Int))(p:Pr):Bool:=rs.all fun r=>decide (r.idxOf p.1 < r.idxOf p.2)
def Hg:List D->FR:=aW 3 3 eJ
theorem CP {α:Type}{fa:VF D}{vs:List Nv}{β:Int}{l:List α}{f:α->Bool}(h:fa vs β=.ok (.list (l.map fun q=>PyData.bool (f q))) β):f1 fa (bR fun bs=>bs.all id) vs β=.ok (.bool (l.all f)) β:=by
 refine bJ h ?_
 simp only[bR]
 rw[fx]
 simp[List.all_map,Function.comp_def]
theorem HF {n:Nat}{rs:List (List Int)}(hz:rs.length<=100)(hp:∀r,r∈rs->r.Perm (bQ n)){a b:Int}(ha:0<=a/\a < n)(hb:0<=b/\b < n):Hg [.list (rs.map fun r=>.list ((p7 r).map PyData.int)),.int a,.int b]=.ok (.bool (Ca rs (a,b))) false:=by
 show fin (eJ [.fz (.list (rs.map fun r=>.list ((p7 r).map PyData.int))),.fz (.int a),.fz (.int b)] 0)=_
 unfold eJ
 have ec:aU 1 [1,2] (.nm 0) (dv (gv 0)) ij (f2 (f2 (gv 0) (gv 1) bw) (f2 (gv 0) (gv 2) bw) sO) (vl [.fz (.list (rs.map fun r=>.list ((p7 r).map PyData.int))),.fz (.int a),.fz (.int b)]) 0=.ok (.list (rs.map fun r=>PyData.bool (decide (r.idxOf a < r.idxOf b)))) 0:=
  bA (l:=rs) (e:=fun r=>.list ((p7 r).map PyData.int)) (fun r=>PyData.bool (decide (r.idxOf a < r.idxOf b))) rfl (by omega) fun r hr=>⟨_,rfl,Af (hp r hr) ha hb rfl rfl rfl⟩
 rw[iS,CP ec];rfl
noncomputable def HQ:List D->FR:=aW 3 2 (eY Fi sd Hg)
theorem FN {n:Nat}{rs:List (List Int)}(h1:1<=n)(h8:n<=8)(hz:rs.length<=100)(hp:∀r,r∈rs->r.Perm (bQ n)):HQ [.int n,.list (rs.map tupI)]=.ok (.tuple (((OM.bE n).filter (Ca rs)).map aY)) false:=by
 show fin (eY Fi sd Hg [.fz (.int n),.fz (.list (rs.map tupI)),.no] 0)=_
 unfold eY
 have e1:aU 1 [] (.nm 0) (dv (gv 1)) ij (az Fi (ae (gv 0) au)) (vl [.fz (.int n),.fz (.list (rs.map tupI)),.no]) 0=.ok (.list (rs.map fun r=>.list ((p7 r).map PyData.int))) 0:=
  bA (l:=rs) (e:=tupI) (fun r=>.list ((p7 r).map PyData.int)) rfl (by omega) fun r hr=>⟨_,rfl,av (ds:=[tupI r]) rfl (Fq (by omega) (hp r hr))⟩
 rw[aJ (env':=[.fz (.int n),.fz (.list (rs.map tupI)),.fz (.list (rs.map fun r=>.list ((p7 r).map PyData.int)))]) (β':=0) (by rw[fD,e1];rfl)]
 have hg:(OM.bE n).length<=64:=by rw[h9];exact Nat.mul_le_mul h8 h8
 have e2:aU 2 [2] (.two 0 1) (dv (az sd (ae (gv 0) au))) (kR (az Hg (ae (gv 2) (ae (gv 0) (ae (gv 1) au))))) (de (ae (gv 0) (ae (gv 1) au))) (vl [.fz (.int n),.fz (.list (rs.map tupI)),.fz (.list (rs.map fun r=>.list ((p7 r).map PyData.int)))]) 0=.ok (.list (((OM.bE n).filter (Ca rs)).map aY)) 0:=by
  refine u4 (l:=OM.bE n) (e:=aY) (Ca rs) aY ?_ (by omega) fun p hp'=>⟨_,rfl,?_,fun _=>fk rfl rfl⟩
  ·unfold dv
   rw[av (ds:=[.int n]) (β1:=0) rfl (BW h1 h8)];rfl
  ·have:=OM.bg.mp hp'
   exact ik (av (ds:=[.list (rs.map fun r=>.list ((p7 r).map PyData.int)),.int p.1,.int p.2]) rfl (HF hz hp this.1 this.2))
 rw[iS,bJ (g:=gx) e2 rfl];rfl
end RM

end

section
namespace RM
open PySem L2
theorem sU {a b:List D}(h:a.length + b.length<=1000):kq (.tuple a) (.tuple b)=some (.tuple (a ++ b)):=if_pos (by rw[sizeLine_eq];omega)
theorem Fv {fa fb:VF D}{vs:List Nv}{β β1 β2:Int}{r q:List Int}(h1:fa vs β=.ok (tupI r) β1)(h2:fb vs β1=.ok (tupI q) β2)(hz:r.length + q.length<=1000):f2 fa fb kq vs β=.ok (tupI (r ++ q)) β2:=
 aG h1 h2 (by unfold tupI;rw[sU (by simpa using hz),<-List.map_append])
def AF (l:List Pr)(r:List Int)(x:Int):List Int:=(l.filter fun p=>decide (p.2=x) && !decide (p.1∈r)).map (·.1)
theorem lU {l:List Pr}{r:List Int}{x a:Int}:a∈AF l r x↔(a,x)∈l/\a∉r:=by
 unfold AF
 rw[List.mem_map]
 constructor
 ·rintro⟨p,hp,rfl⟩
  have:=List.mem_filter.mp hp
  simp only[Bool.and_eq_true,decide_eq_true_eq,Bool.not_eq_true',decide_eq_false_iff_not] at this
  obtain⟨pa,pb⟩:=p
  obtain⟨h1,h2,h3⟩:=this
  simp only at h2 h3
  subst h2
  exact⟨h1,h3⟩
 ·rintro⟨h1,h2⟩
  exact⟨(a,x),List.mem_filter.mpr ⟨h1,by simp[h2]⟩,rfl⟩
theorem yH {n:Nat}{l:List Pr}(O:OM.Ord n l)(r:List Int)(x:Int):(AF l r x).Nodup:=by
 unfold AF
 rw[List.nodup_iff_pairwise_ne,List.pairwise_map]
 refine List.Pairwise.imp_of_mem (fun {a b} ha hb h e=>h ?_) (List.nodup_iff_pairwise_ne.mp ((OM.gZ O.ris).filter _))
 have h1:=(List.mem_filter.mp ha).2
 have h2:=(List.mem_filter.mp hb).2
 simp only[Bool.and_eq_true,decide_eq_true_eq] at h1 h2
 exact Prod.ext e (h1.1.trans h2.1.symm)
theorem least {n:Nat}{l:List Pr}(O:OM.Ord n l)(r:List Int):∀(k:Nat) (x:Int),(0<=x/\x < n)->x∉r->(AF l r x).length<=k->∃y:Int,(0<=y/\y < n)/\y∉r/\AF l r y= []
 | 0,x,hx,hr,hk=>⟨x,hx,hr,List.length_eq_zero_iff.mp (by omega)⟩
 |k + 1,x,hx,hr,hk=>by
  by_cases he:AF l r x= []
  ·exact⟨x,hx,hr,he⟩
  ·obtain⟨a,ha⟩:=List.exists_mem_of_ne_nil _ he
   obtain⟨h1,h2⟩:=lU.mp ha
   refine least O r k a (O.wn _ h1).1 h2 ?_
   have nd:(a :: AF l r a).Nodup:=List.nodup_cons.mpr ⟨fun q=>O.irr a (lU.mp q).1,yH O r a⟩
   have:=L2.ST.gS nd (m:=AF l r x) fun y hy=>by
    rcases List.mem_cons.mp hy with rfl |hy
    ·exact ha
    ·obtain⟨q1,q2⟩:=lU.mp hy
     exact lU.mpr ⟨O.tr _ _ _ q1 h1,q2⟩
   rw[List.length_cons] at this
   omega
structure Gy (n:Nat)(l:List Pr)(r:List Int):Prop where
 nd:r.Nodup
 inn:∀x,x∈r->0<=x/\x < (n:Int)
 fit:∀p,p∈l->p.2∈r->p.1∈r/\r.idxOf p.1 < r.idxOf p.2
theorem Gy.len {n:Nat}{l:List Pr}{r:List Int}(B:Gy n l r):r.length<=n:=by
 have:=L2.ST.gS B.nd (m:=bQ n) fun x hx=>aR.mpr (B.inn x hx)
 rwa [bh] at this
def C6 (l:List Pr)(r:List Int)(x:Int):Bool:= !decide (x∈r) && decide (AF l r x= [])
theorem Gy.more {n:Nat}{l:List Pr}{r:List Int}{x:Int}(B:Gy n l r)(hx:0<=x/\x < (n:Int))(hf:C6 l r x=true):Gy n l (r ++ [x]):=by
 unfold C6 at hf
 rw[Bool.and_eq_true,Bool.not_eq_true',decide_eq_false_iff_not,decide_eq_true_eq] at hf
 obtain⟨h1,h2⟩:=hf
 refine⟨?_,fun y hy=>?_,fun p hp hm=>?_⟩
 ·rw[List.nodup_append]
  refine⟨B.nd,List.nodup_cons.mpr ⟨by simp,List.nodup_nil⟩,fun a ha b hb=>?_⟩
  rw[List.mem_singleton] at hb
  subst hb
  exact fun q=>h1 (q▸ha)
 ·rcases List.mem_append.mp hy with hy |hy
  ·exact B.inn y hy
  ·rw[List.mem_singleton] at hy;subst hy;exact hx
 ·rcases List.mem_append.mp hm with hm |hm
  ·obtain⟨q1,q2⟩:=B.fit p hp hm
   refine⟨List.mem_append_left _ q1,?_⟩
   rw[List.idxOf_append,List.idxOf_append,if_pos q1,if_pos hm]
   exact q2
  ·rw[List.mem_singleton] at hm
   have hp1:p.1∈r:=by
    by_cases z:p.1∈r
    ·exact z
    ·have:p.1∈AF l r x:=lU.mpr ⟨by rw[<-hm];exact hp,z⟩
     rw[h2] at this;cases this
   refine⟨List.mem_append_left _ hp1,?_⟩
   rw[List.idxOf_append,List.idxOf_append,if_pos hp1,if_neg (by rw[hm];exact h1)]
   have:=List.idxOf_lt_length_iff.mpr hp1
   omega
end RM

end

section
namespace RM
open PySem L2
theorem n6:∀rs:List (List Int),PyData.canLayAll0 (rs.map tupI)=true
 | []=>rfl
 |r :: rs=>by
  show ((tupI r).canLay0 && PyData.canLayAll0 (rs.map tupI))=true
  rw[n6 rs,show (tupI r).canLay0=true by unfold tupI;simp only[PyData.canLay0];exact lay_ints r];rfl
theorem Ck (r:List Int):(tupI r).depth=1:=by unfold tupI;simp only[PyData.depth];rw[oA]
theorem l6:∀rs:List (List Int),PyData.depthAll (rs.map tupI)<=1
 | []=>by show (0:Nat)<=1;omega
 |r :: rs=>by
  show max (tupI r).depth (PyData.depthAll (rs.map tupI))<=1
  have h1:=Ck r
  have h2:=l6 rs
  omega
theorem mV (rs:List (List Int)):SeqAt.shaped (.list (rs.map tupI))=true:=by
 unfold SeqAt.shaped
 have h1:(PyData.list (rs.map tupI)).canLay0=true:=by simp only[PyData.canLay0];exact n6 rs
 have h2:(PyData.list (rs.map tupI)).depth<=64:=by simp only[PyData.depth];have:=l6 rs;omega
 rw[h1,decide_eq_true h2];rfl
theorem BI (r q:List Int):PyData.eqv (tupI r) (tupI q)=decide (r=q):=by
 unfold tupI
 simp only[PyData.eqv,ox]
theorem oC:∀l m:List (List Int),PyData.eqvAll (l.map tupI) (m.map tupI)=decide (l=m)
 | [],[]=>rfl
 | [],_ :: _=>rfl
 |_ :: _,[]=>rfl
 |p :: l,q :: m=>by
  show (PyData.eqv (tupI p) (tupI q) && PyData.eqvAll (l.map tupI) (m.map tupI))=_
  rw[BI,oC l m,Bool.eq_iff_iff]
  simp
theorem Aw (neg:Bool)(l m:List (List Int)):gu neg (.list (l.map tupI)) (.list (m.map tupI))=some (.bool (if neg then !decide (l=m) else decide (l=m))):=by
 unfold gu
 rw[mV,mV]
 simp only[Bool.and_self,if_true,PyData.eqv,oC]
theorem zH {fa fb:VF D}{vs:List Nv}{β:Int}{ds:List D}{i:Nat}(ha:fa vs β=.ok (.tuple ds) β)(hb:fb vs β=.ok (.int ((i:Nat):Int)) β):qX fa (BQ fb) (fun _ β=>.ok none β) vs β=.ok (.tuple (ds.drop i)) β:=by
 unfold qX BQ
 rw[ha];dsimp only[R.bnd]
 rw[hb];dsimp only[R.bnd]
 congr 2
 unfold cutD
 rw[HT.tG,HT.wG]
 by_cases h:i<=ds.length
 ·rw[Nat.min_eq_left h];exact List.take_of_length_le (by rw[List.length_drop];omega)
 ·rw[Nat.min_eq_right (by omega),List.drop_length,List.drop_of_length_le (by omega)];simp
theorem AV {fa fb:VF D}{vs:List Nv}{β:Int}{ds:List D}{i:Nat}(ha:fa vs β=.ok (.tuple ds) β)(hb:fb vs β=.ok (.int ((i:Nat):Int)) β):qX fa (fun _ β=>.ok none β) (BQ fb) vs β=.ok (.tuple (ds.take i)) β:=by
 unfold qX BQ
 rw[ha];dsimp only[R.bnd]
 rw[hb];dsimp only[R.bnd]
 congr 2
 unfold cutD
 rw[HT.tG,HT.wG]
 by_cases h:i<=ds.length
 ·rw[Nat.min_eq_left h];rfl
 ·rw[Nat.min_eq_right (by omega),List.take_of_length_le (show ds.length<=i by omega)];simp
end RM

end

section
namespace RM
open PySem L2
structure WP (r:SO)(Q:SO->Prop):Prop where
 out:Q r
section
variable {m m' m1 m2:SF}{env env1:En}{β β1 β2 z:Int}{Q:SO->Prop}{f fa fb:VF D}{t:VF Bool}{d e:D}{L La Lb:List Nat}{i j:Nat}{c:Bool}
theorem wp_at (env1:En)(e:env=env1)(k:WP (m env1 β) Q):WP (m env β) Q:=by rw[e];exact k
theorem wp_seq (h:m env β=.nx env1 β1)(k:WP (m' env1 β1) Q):WP (aO m m' env β) Q:=by rw[aJ h];exact k
theorem so (h:WP (aO m kz env β) Q):WP (m env β) Q:=by
 obtain⟨h⟩:=h
 unfold aO at h
 cases e:m env β with
 |_=>rw[e] at h;exact⟨h⟩
theorem sY (q:Q (.nx env β)):WP (kz env β) Q:=⟨q⟩
theorem dB (h:f (vl env) β=.ok d β1)(k:WP (m' ((a9 L env).set i (.fz d)) β1) Q):WP (aO (cy i L f) m' env β) Q:=wp_seq (by unfold cy;rw[h];rfl) k
theorem BE (h:f (vl env) β=.ok (.list [.int z]) β1)(k:WP (m' ((pI (a9 L env)).set i .bx) z) Q):WP (aO (wK i L f) m' env β) Q:=wp_seq (by unfold wK;rw[h];rfl) k
theorem jE (h:f (vl env) β=.ok d β1)(k:WP (m' (a9 L env) β1) Q):WP (aO (eH L f) m' env β) Q:=wp_seq (by unfold eH;rw[h];rfl) k
theorem iR (h:t (vl env) β=.ok false β1)(k:WP (m' (a9 L env) β1) Q):WP (aO (jz L t m1 kz) m' env β) Q:=wp_seq (by rw[gA h];rfl) k
theorem jI (h:f (vl env) β=.ok d β1)(q:Q (.rt d false β1)):WP (b4 f env β) Q:=⟨by unfold b4;rw[h];exact q⟩
theorem rz (h:f (vl env) β=.ok d β1)(q:Q (.rt d true β1)):WP (kX f env β) Q:=⟨by unfold kX;rw[h];exact q⟩
theorem hJ {R:FR}(h:WP (m env β) fun r=>fin r=R):fin (m env β)=R:=h.out
theorem z7 {t:Tg}{fi:VF (List D)}{ds:List D}(I:Nat->En->Int->Prop)(hi:fi (vl env) β=.ok ds β1)(h0:I 0 (a9 L env) β1)
  (hs:∀i d env β,ds[i]? =some d->I i env β->∃env1,dW t d env=some env1/\WP (m env1 β) fun r=>∃env2 β2,r=.nx env2 β2/\I (i + 1) env2 β2)
  (k:∀env β,I ds.length env β->WP (m' env β) Q):WP (aO (gB t L fi m) m' env β) Q:=by
 obtain⟨env',β',e,h⟩:=dD (t:=t) (m:=m) I (ds:=ds) (k:=0) h0 fun i d env β hd h=>by
  rw[Nat.zero_add] at h
  obtain⟨env1,e1,⟨env2,β2,e2,h2⟩⟩:=hs i d env β hd h
  exact⟨env1,e1,env2,β2,e2,by rw[Nat.zero_add];exact h2⟩
 rw[Nat.zero_add] at h
 exact wp_seq ((fS hi).trans e) (k _ _ h)
end
theorem Au (c:Int)(hc:0<=c/\c<=100)(ns:List Int)(vs:List Nv)(β:Int)(h:gv 0 vs β=.ok (b7 ns) β):∃m:Nat,m<=101/\cj (f2 (cst (.int 1)) (f2 (f1 (gv 0) bS) (cst (.int c)) (pG fun i j=>.int (if j < i then j else i))) (pG fun i j=>.int (if j > i then j else i))) vs β=.ok (c8 0 m) β:=by
 have e1:f2 (cst (.int 1)) (f2 (f1 (gv 0) bS) (cst (.int c)) (pG fun i j=>.int (if j < i then j else i))) (pG fun i j=>.int (if j > i then j else i)) vs β=.ok (.int (if (if c < ((ns.map PyData.int).length:Int) then c else ((ns.map PyData.int).length:Int)) > 1 then (if c < ((ns.map PyData.int).length:Int) then c else ((ns.map PyData.int).length:Int)) else 1)) β:=
  aG (x:=.int 1) rfl (aG (x:=.int (ns.map PyData.int).length) (y:=.int c) (bJ h rfl) rfl rfl) rfl
 generalize ((ns.map PyData.int).length:Nat)=k at e1
 refine⟨(if (if c < (k:Int) then c else (k:Int)) > 1 then (if c < (k:Int) then c else (k:Int)) else 1).toNat,?_,cD (e1.trans ?_) ?_⟩
 ·split <;> split <;> omega
 ·congr 2
  split <;> split <;> omega
 ·split <;> split <;> omega
end RM

end

section
namespace RM
open PySem L2
theorem AR {n:Nat}{r:List Int}:(sortI r=bQ n)↔r.Perm (bQ n):=by
 constructor
 ·intro h;rw[<-h];exact (sortI_perm r).symm
 ·intro h;exact (lr h.symm ((zp n).imp fun h=>Int.le_of_lt h)).symm
end RM

end

section
namespace RM
open PySem L2
def It (d:D):Prop:=du d=false/\Sq 400 8 d/\Bf d
def Th (d:D):Prop:=Ge d/\Sq 10000 9 d/\Bf d
def Ap (P:D->Prop)(k:Nat)(es:List D):Prop:=es.length<=k/\∀x,x∈es->P x
abbrev Al:Nat->List D->Prop:=Ap It
theorem A7.it {d:D}(h:A7 d):It d:=⟨h.scr,h.sq.mono (by omega) (by omega),h.bf⟩
theorem D7 {i:Int}(h: -1<=i/\i<=9):It (.int i):=(xq h).it
theorem Ap.take {P:D->Prop}{k:Nat}{a:List D}(h:Ap P k a)(n:Nat):Ap P k (a.take n):=⟨by have:=h.1;rw[List.length_take];omega,fun x hx=>h.2 x (List.mem_of_mem_take hx)⟩
theorem Ap.drop {P:D->Prop}{k:Nat}{a:List D}(h:Ap P k a)(n:Nat):Ap P k (a.drop n):=⟨by have:=h.1;rw[List.length_drop];omega,fun x hx=>h.2 x (List.mem_of_mem_drop hx)⟩
theorem Ap.set {P:D->Prop}{k:Nat}{a:List D}(h:Ap P k a)(n:Nat){d:D}(hd:P d):Ap P k (a.set n d):=⟨by rw[List.length_set];exact h.1,fun x hx=>(List.mem_or_eq_of_mem_set hx).elim (h.2 x) fun e=>e▸hd⟩
theorem BD {k:Nat}{r:List Int}(hl:r.length<=k)(h:∀x,x∈r->0<=x/\x < 9):Al k (r.map PyData.int):=⟨by rw[List.length_map];exact hl,fun x hx=>by
 obtain⟨y,hy,rfl⟩:=List.mem_map.mp hx
 exact D7 (by have:=h y hy;omega)⟩
theorem Ap.tup {k:Nat}{a:List D}(h:Al k a)(hk:k<=24):Th (.tuple a):=by
 have:=h.1
 refine⟨Es (by omega) fun x hx=>(h.2 x hx).1,(AY (c:=400) (k:=8) fun d hd=>(h.2 d hd).2.1).mono ?_ (by omega),zc fun d hd=>(h.2 d hd).2.2⟩
 have:(400 + 2) * a.length<=402 * 24:=Nat.mul_le_mul (by omega) (by omega)
 omega
theorem Ap.lst {k:Nat}{a:List D}(h:Al k a)(hk:k<=24):Th (.list a):=by
 have:=h.1
 refine⟨⟨rfl,fun es' e=>by cases e⟩,(Dz (c:=400) (k:=8) fun d hd=>(h.2 d hd).2.1).mono ?_ (by omega),Ez fun d hd=>(h.2 d hd).2.2⟩
 have:(400 + 2) * a.length<=402 * 24:=Nat.mul_le_mul (by omega) (by omega)
 omega
theorem EX {r:List Int}(hl:r.length<=9)(h:∀x,x∈r->0<=x/\x < 9):It (tupI r):=by
 have sm:∀d,d∈r.map PyData.int->A7 d:=fun d hd=>by
  obtain⟨y,hy,rfl⟩:=List.mem_map.mp hd
  exact xq (by have:=h y hy;omega)
 refine⟨rfl,(AY (c:=20) (k:=0) fun d hd=>(sm d hd).sq).mono ?_ (by omega),zc fun d hd=>(sm d hd).bf⟩
 rw[List.length_map]
 have:(20 + 2) * r.length<=22 * 9:=Nat.mul_le_mul (by omega) hl
 omega
theorem oi {n:Nat}{r:List Int}(h8:n<=8)(hp:r.Perm (bQ n)):r.length=n/\∀x,x∈r->0<=x/\x < 9:=⟨by rw[hp.length_eq,bh],fun x hx=>by have:=aR.mp (hp.mem_iff.mp hx);omega⟩
theorem AJ {ds:List D}{k:Nat}(h:k < ds.length):∃d,ds[k]? =some d/\d∈ds/\lF ds (k:Int)=some d:=⟨ds[k],List.getElem?_eq_getElem h,List.getElem_mem h,ku (List.getElem?_eq_getElem h)⟩
theorem GD {fa fb:VF D}{vs:List Nv}{β:Int}{ds:List D}{i:Nat}(ha:fa vs β=.ok (.tuple ds) β)(hb:fb vs β=.ok (.int (i:Nat)) β):qX fa (fun _ β=>.ok none β) (BQ fb) vs β=.ok (.tuple (ds.take i)) β:=AV ha hb
theorem GQ {fa fb:VF D}{vs:List Nv}{β:Int}{ds:List D}{i:Nat}(ha:fa vs β=.ok (.tuple ds) β)(hb:fb vs β=.ok (.int (i:Nat)) β):qX fa (BQ fb) (fun _ β=>.ok none β) vs β=.ok (.tuple (ds.drop i)) β:=zH ha hb
theorem Dp {fa fb:VF D}{vs:List Nv}{β β1 β2:Int}{a b:List D}(h1:fa vs β=.ok (.tuple a) β1)(h2:fb vs β1=.ok (.tuple b) β2)(hz:a.length + b.length<=1000):f2 fa fb kq vs β=.ok (.tuple (a ++ b)) β2:=aG h1 h2 (sU hz)
theorem Gv {fa fb:VF D}{vs:List Nv}{β β1 β2:Int}{a b:List D}(h1:fa vs β=.ok (.list a) β1)(h2:fb vs β1=.ok (.list b) β2)(hz:a.length + b.length<=1000):f2 fa fb nu vs β=.ok (.list (a ++ b)) β2:=aG h1 h2 (l0 (by omega))
theorem IY {fa:VF D}{vs:List Nv}{β:Int}{i:Nat}(h:fa vs β=.ok (.int (i:Nat)) β):f2 fa (cst (.int 1)) bI vs β=.ok (.int ((i + 1:Nat):Int)) β:=aG h rfl (by show some (PyData.int ((i:Int) + 1))=_;rw[show ((i + 1:Nat):Int)=(i:Int) + 1 by omega])
end RM

end

section
namespace RM
open PySem L2
section
variable {m m' m1 m2:SF}{env env1:En}{β β1 β2 z:Int}{Q:SO->Prop}{f fa fb:VF D}{t:VF Bool}{d e:D}{L La Lb:List Nat}{i j:Nat}{c:Bool}
theorem EK (J:En->Int->Prop)(h:∃c β1,t (vl env) β=.ok c β1/\(c=true->WP (m1 (a9 L env) β1) fun s=>∃env2 β2,s=.nx env2 β2/\J env2 β2)/\(c=false->WP (m2 (a9 L env) β1) fun s=>∃env2 β2,s=.nx env2 β2/\J env2 β2))(k:∀env β,J env β->WP (m' env β) Q):WP (aO (jz L t m1 m2) m' env β) Q:=by
 obtain⟨c,β1,e,h1,h2⟩:=h
 cases c with
 |true=>obtain⟨env2,β2,e2,hj⟩:=(h1 rfl).out;exact wp_seq ((jZ e).trans e2) (k _ _ hj)
 |false=>obtain⟨env2,β2,e2,hj⟩:=(h2 rfl).out;exact wp_seq ((gA e).trans e2) (k _ _ hj)
end
theorem xP {α:Type}{own:Nat}{ixs:List Nat}{t:Tg}{fi:VF (List D)}{fe:VF D}{vs:List Nv}{β β1:Int}{ds:List D}(e:α->D)(P:α->Prop)(hi:fi vs β=.ok ds β1)(hz:ds.length<=1000)
  (h:∀d,d∈ds->∃vs1,k8 t d (fj own ixs vs)=some vs1/\∀β,∃a β',fe vs1 β=.ok (e a) β'/\P a):∃(as:List α) (β':Int),aU own ixs t fi ij fe vs β=.ok (.list (as.map e)) β'/\as.length=ds.length/\∀a,a∈as->P a:=by
 obtain⟨as,β',ec,hl,hP⟩:=pC (t:=t) (fe:=fe) (vs:=fj own ixs vs) e P (ds:=ds) (β:=β1) h
 refine⟨as,β',?_,hl,hP⟩
 unfold aU
 rw[hi]
 dsimp only[R.bnd]
 rw[if_pos (sz _ hz),ec];rfl
def Ig (d:D):Prop:=Ge d/\Sq 400 8 d/\Bf d
theorem Eh {r:List Int}(hl:r.length<=9)(h:∀x,x∈r->0<=x/\x < 9):Ig (tupI r):=⟨(BD (k:=9) hl h).tup (by omega) |>.1,(EX hl h).2⟩
end RM

end

section

end

section
namespace RM
open PySem L2
def Tells (n:Nat)(l:List Pr)(d:D):Prop:=∃rs:List (List Int),d=.list (rs.map tupI)/\rs≠ []/\(∀r,r∈rs->Row n l r)/\(OM.bE n).filter (Ca rs)=l
noncomputable def wQ (n:Nat)(l:List Pr)(d:D):Bool:=@decide (Tells n l d) (Classical.propDecidable _)
theorem Et {n:Nat}{l:List Pr}{d:D}(h:Tells n l d):wQ n l d=true:=@decide_eq_true _ (Classical.propDecidable _) h
theorem A4 {n:Nat}{l:List Pr}{d:D}(h:¬Tells n l d):wQ n l d=false:=@decide_eq_false _ (Classical.propDecidable _) h
theorem tI:∀{rs qs:List (List Int)},rs.map tupI=qs.map tupI->rs=qs
 | [],[],_=>rfl
 | [],_ :: _,h=>by cases h
 |_ :: _,[],h=>by cases h
 |r :: rs,q :: qs,h=>by
  rw[List.map_cons,List.map_cons,List.cons.injEq] at h
  rw[nV h.1,tI h.2]
theorem qA {n:Nat}{l:List Pr}{rs:List (List Int)}(h1:rs≠ [])(h:∀r,r∈rs->Row n l r):wQ n l (.list (rs.map tupI))=decide ((OM.bE n).filter (Ca rs)=l):=by
 by_cases c:(OM.bE n).filter (Ca rs)=l
 ·rw[decide_eq_true c];exact Et ⟨rs,rfl,h1,h,c⟩
 ·rw[decide_eq_false c]
  refine A4 fun⟨qs,e,_,_,c'⟩=>c ?_
  have:=tI (PyData.list.inj e)
  rw[this];exact c'
noncomputable def wY:List D->FR:=aW 2 2 (vt j4 Ih HQ)
theorem Ef {n:Nat}{l:List Pr}{d:D}(O:OM.Ord n l)(h:Gt d):wY [d,ag n l]=.ok (.bool (wQ n l d)) false:=by
 show fin (vt j4 Ih HQ [.fz d,.fz (ag n l)] 0)=_
 refine hJ (jE (av (ds:=[ag n l]) rfl (oR O)) ?_)
 have ea:=Iy O h
 cases c:ua n l d with
 |false=>
  rw[c] at ea
  rw[A4 fun⟨rs,e,h1,h2,_⟩=>by rw[e,qH h1 h2] at c;cases c]
  exact jI (CY (av (ds:=[d,ag n l]) rfl ea)) rfl
 |true=>
  rw[c] at ea
  obtain⟨rs,rfl,h1,h2⟩:=EN c
  rw[qA h1 h2]
  have hz:rs.length<=100:=by have:=(h.2 _ rfl).1;rw[List.length_map] at this;exact this
  exact jI (Dd (av (ds:=[.list (rs.map tupI),ag n l]) rfl ea) (aG (av (ds:=[.int n,.list (rs.map tupI)]) (ac (DI (n:=n) (l:=l) rfl) (ac rfl an)) (FN O.lo O.hi hz fun r hr=>(h2 r hr).1)) (IL (n:=n) (l:=l) rfl) (oW false _ _))) rfl
end RM

end

section
namespace RM
open PySem L2
noncomputable def GJ:List D->FR:=aW 2 2 (fH GK Gp)
theorem Gq {n m:Nat}{l k:List Pr}(O:OM.Ord n l)(O':OM.Ord m k)(h8:n + m<=8):GJ [ag n l,ag m k]=.ok .none false:=by
 show fin (fH GK Gp [.fz (ag n l),.fz (ag m k)] 0)=_
 unfold fH
 rw[aJ (env':=[.fz (ag n l),.fz (ag m k)]) (β':=0) ?a]
 case a=>rw[gf,av (ds:=[ag n l,ag m k]) (β1:=0) rfl (FH O O')];rfl
 rw[gf,av (ds:=[.int ((n:Int) + m)]) (β1:=0) rfl (GW (by omega))]
 rfl
noncomputable def yn:List D->FR:=aW 3 2 fQ
theorem Dl {n m:Nat}{l k:List Pr}(O:OM.Ord n l)(O':OM.Ord m k)(h8:n + m<=8):yn [ag n l,ag m k]=.ok (ag (n + m) (i0 n l k)) false:=by
 have l1:=lP O
 have l2:=lP O'
 show fin (fQ [.fz (ag n l),.fz (ag m k),.no] 0)=_
 unfold fQ
 have e:aU 2 [0] (.two 0 1) (dv (f2 (gv 1) (cst (.int 1)) bw)) ij (de (ae (f2 (gv 0) (f2 (gv 2) (cst (.int 0)) bw) bI) (ae (f2 (gv 1) (f2 (gv 2) (cst (.int 0)) bw) bI) au))) (vl [.fz (ag n l),.fz (ag m k),.no]) 0=.ok (.list (k.map fun p=>aY (Ba n p))) 0:=
  bA (l:=k) (e:=aY) (fun p=>aY (Ba n p)) rfl (by omega) fun p hp=>⟨[.da (.int p.1),.da (.int p.2),.da (ag n l)],rfl,fk (a:=p.1 + n) (b:=p.2 + n) rfl rfl⟩
 rw[aJ (env':=[.fz (ag n l),.fz (ag m k),.fz (.list (k.map fun p=>aY (Ba n p)))]) (β':=0) ?a]
 case a=>rw[fD,e];rfl
 have e1:f1 (f1 (f2 (f1 (f2 (gv 0) (cst (.int 1)) bw) nh) (gv 2) nu) jB) gx (vl [.fz (ag n l),.fz (ag m k),.fz (.list (k.map fun p=>aY (Ba n p)))]) 0=.ok (.tuple ((i0 n l k).map aY)) 0:=by
  refine bJ (bJ (aG (x:=.list (l.map aY)) (d:=.list ((i0 n l k).map aY)) rfl rfl ?_) (AU O O' h8)) rfl
  rw[l0 (by simp only[List.length_map];omega)]
  unfold i0
  rw[List.map_append,List.map_map];rfl
 have e0:f2 (f2 (gv 0) (cst (.int 0)) bw) (f2 (gv 1) (cst (.int 0)) bw) bI (vl [.fz (ag n l),.fz (ag m k),.fz (.list (k.map fun p=>aY (Ba n p)))]) 0=.ok (.int ((n + m:Nat):Int)) 0:=by
  refine aG (x:=.int n) (y:=.int m) rfl rfl ?_
  show some (PyData.int ((n:Int) + m))=_
  rw[show ((n + m:Nat):Int)=(n:Int) + m by omega]
 rw[iS,kx (ds:=[.int ((n + m:Nat):Int),.tuple ((i0 n l k).map aY)]) (β1:=0) ?d (by simp)]
 ·rfl
 case d=>
  rw[cP,e0]
  dsimp only[R.bnd]
  rw[cP,e1];rfl
noncomputable def E9:List D->FR:=aW 4 2 (fM yn)
theorem FU {n m:Nat}{l k:List Pr}(O:OM.Ord n l)(O':OM.Ord m k)(h8:n + m<=8):E9 [ag n l,ag m k]=.ok (ag (n + m) (OM.gQ 8 (OM.Mem (i0 n l k ++ lR (n + m) n n)))) false:=by
 have h1:=O.lo
 show fin (fM yn [.fz (ag n l),.fz (ag m k),.no,.no] 0)=_
 unfold fM
 have ea:f1 (f2 (az yn (ae (gv 0) (ae (gv 1) au))) (cst (.int 1)) bw) nh (vl [.fz (ag n l),.fz (ag m k),.no,.no]) 0=.ok (.list ((i0 n l k).map aY)) 0:=
  bJ (aG (x:=ag (n + m) (i0 n l k)) (d:=.tuple ((i0 n l k).map aY)) (av (ds:=[ag n l,ag m k]) (β1:=0) rfl (Dl O O' h8)) rfl rfl) rfl
 rw[aJ (env':=[.fz (ag n l),.fz (ag m k),.fz (.list ((i0 n l k).map aY)),.no]) (β':=0) ?a]
 case a=>rw[fD,ea];rfl
 obtain⟨env',β',ef,s,rfl,rfl⟩:=dD (t:=.nm 3) (m:=cy 2 ([] ++ (([] ++ []) ++ [3])) (f2 (gv 2) (aU 1 [3,0] (.nm 0) (cj (f2 (gv 1) (cst (.int 0)) bw)) ij (de (ae (gv 1) (ae (f2 (f2 (gv 2) (cst (.int 0)) bw) (gv 0) bI) au)))) nu)) (ds:=c8 0 n) (k:=0)
  (fun i env β=>∃s:Sl,env= [.fz (ag n l),.fz (ag m k),.fz (.list ((i0 n l k ++ lR (n + m) n i).map aY)),s]/\β=0)
  (env:=[.fz (ag n l),.fz (ag m k),.fz (.list ((i0 n l k).map aY)),.no]) (β:=0) ⟨.no,by rw[zv,List.append_nil],rfl⟩ (by
   rintro i d env β hi ⟨s,rfl,rfl⟩
   obtain⟨hin,rfl⟩:=fV hi
   refine⟨[.fz (ag n l),.fz (ag m k),.fz (.list ((i0 n l k ++ lR (n + m) n (0 + i)).map aY)),.fz (.int (0 + (i:Int)))],rfl,?_⟩
   rw[Nat.zero_add,Int.zero_add]
   have ll:=EW O O' h8 (i:=i) (by omega)
   have ec:aU 1 [3,0] (.nm 0) (cj (f2 (gv 1) (cst (.int 0)) bw)) ij (de (ae (gv 1) (ae (f2 (f2 (gv 2) (cst (.int 0)) bw) (gv 0) bI) au))) (vl [.fz (ag n l),.fz (ag m k),.fz (.list ((i0 n l k ++ lR (n + m) n i).map aY)),.fz (.int i)]) 0=.ok (.list ((bQ m).map fun b=>aY ((i:Int),(n:Int) + b))) 0:=by
    refine bA (l:=bQ m) (e:=PyData.int) (fun b=>aY ((i:Int),(n:Int) + b)) ?_ (by rw[bh];omega) fun b hb=>⟨[.da (.int b),.da (.int i),.da (ag n l)],rfl,fk (a:=i) (b:=(n:Int) + b) rfl rfl⟩
    rw[cD (n:=m) (β1:=0) rfl (by omega),jj]
   refine⟨[.fz (ag n l),.fz (ag m k),.fz (.list ((i0 n l k ++ lR (n + m) n (i + 1)).map aY)),.fz (.int i)],0,?_,_,rfl,rfl⟩
   rw[fD,aG (x:=.list ((i0 n l k ++ lR (n + m) n i).map aY)) (d:=.list ((i0 n l k ++ lR (n + m) n (i + 1)).map aY)) (β1:=0) rfl ec]
   ·rfl
   ·rw[l0 (by simp only[List.length_map,bh];omega),zC hin,<-List.append_assoc,List.map_append (l₁:=i0 n l k ++ lR (n + m) n i),List.map_map];rfl)
 rw[dh,Nat.zero_add] at ef
 rw[aJ (env':=[.fz (ag n l),.fz (ag m k),.fz (.list ((i0 n l k ++ lR (n + m) n n).map aY)),s]) (β':=0) ?b]
 case b=>
  rw[fS (env:=[.fz (ag n l),.fz (ag m k),.fz (.list ((i0 n l k).map aY)),.no]) (cD (n:=n) (β1:=0) rfl (by omega))]
  exact ef
 obtain⟨w,nd,irr⟩:=AQ O O' (Nat.le_refl n)
 have e0:f2 (f2 (gv 0) (cst (.int 0)) bw) (f2 (gv 1) (cst (.int 0)) bw) bI (vl [.fz (ag n l),.fz (ag m k),.fz (.list ((i0 n l k ++ lR (n + m) n n).map aY)),s]) 0=.ok (.int ((n + m:Nat):Int)) 0:=by
  refine aG (x:=.int n) (y:=.int m) rfl rfl ?_
  show some (PyData.int ((n:Int) + m))=_
  rw[show ((n + m:Nat):Int)=(n:Int) + m by omega]
 have e2:f1 (f1 (gv 2) jB) gx (vl [.fz (ag n l),.fz (ag m k),.fz (.list ((i0 n l k ++ lR (n + m) n n).map aY)),s]) 0=.ok (.tuple ((OM.gQ 8 (OM.Mem (i0 n l k ++ lR (n + m) n n))).map aY)) 0:=
  bJ (bJ (x:=.list ((i0 n l k ++ lR (n + m) n n).map aY)) rfl (qz (by omega) h8 w nd irr)) rfl
 rw[iS,kx (ds:=[.int ((n + m:Nat):Int),.tuple ((OM.gQ 8 (OM.Mem (i0 n l k ++ lR (n + m) n n))).map aY)]) (β1:=0) ?d (by simp)]
 ·rfl
 case d=>
  rw[cP,e0]
  dsimp only[R.bnd]
  rw[cP,e2];rfl
end RM

end

section
namespace RM
open PySem L2
noncomputable def EO:List D->FR:=aW 2 2 (bY j4 dR)
theorem GC {n:Nat}{l:List Pr}(O:OM.Ord n l){j:Nat}(hj:j < n):EO [ag n l,.int j]=.ok .none false:=by
 show fin (bY j4 dR [.fz (ag n l),.fz (.int j)] 0)=_
 unfold bY
 rw[aJ (env':=[.fz (ag n l),.fz (.int j)]) (β':=0) ?g1]
 case g1=>
  rw[gf,av (ds:=[ag n l]) (β1:=0) rfl (oR O)];rfl
 have et:nC (kR (az dR (ae (gv 1) (ae (f2 (gv 0) (cst (.int 0)) bw) au)))) (vl [.fz (ag n l),.fz (.int j)]) 0=.ok (!i5 (.int j) n) 0:=by
  rw[oB,ik (av (ds:=[.int j,.int n]) (β1:=0) rfl (sI rfl))];rfl
 have hb:i5 (.int j) n=true:=decide_eq_true ⟨by omega,by omega⟩
 rw[hb] at et
 rw[gA et];rfl
noncomputable def EG:List D->FR:=aW 3 3 (dN GK EO Gp)
theorem Fp {n m j:Nat}{l k:List Pr}(O:OM.Ord n l)(O':OM.Ord m k)(hj:j < n)(h8:n + m<=9):EG [ag n l,.int j,ag m k]=.ok .none false:=by
 show fin (dN GK EO Gp [.fz (ag n l),.fz (.int j),.fz (ag m k)] 0)=_
 unfold dN
 rw[aJ (env':=[.fz (ag n l),.fz (.int j),.fz (ag m k)]) (β':=0) ?a]
 case a=>rw[gf,av (ds:=[ag n l,ag m k]) (β1:=0) rfl (FH O O')];rfl
 rw[aJ (env':=[.fz (ag n l),.fz (.int j),.fz (ag m k)]) (β':=0) ?b]
 case b=>rw[gf,av (ds:=[ag n l,.int j]) (β1:=0) rfl (GC O hj)];rfl
 rw[gf,av (ds:=[.int ((n:Int) + m - 1)]) (β1:=0) rfl (GW (by omega))]
 rfl
theorem DZ {n k:Nat}(h:k < n):(bQ n)[k]? =some (k:Int):=by
 unfold bQ
 rw[List.getElem?_map,List.getElem?_range h];rfl
def st (j m:Nat)(a:Int):Int:=if a < j then a else if a - m + 1 > j then a - m + 1 else j
def mf (j m:Nat)(a:Int):Int:=if a < j then 0 else if a < (j:Int) + m then a - j else 0
def sg (l k:List Pr)(j m:Nat)(p:Pr):Bool:=if st j m p.1=st j m p.2 then decide (st j m p.1=j) && decide ((mf j m p.1,mf j m p.2)∈k) else decide ((st j m p.1,st j m p.2)∈l)
theorem Fy {j m:Nat}{a:Int}(h:(j:Int)<=a)(h2:a < j + m):st j m a=j/\mf j m a=a - j:=by
 unfold st mf
 rw[if_neg (by omega),if_neg (by omega),if_neg (by omega),if_pos h2]
 exact⟨rfl,rfl⟩
def Fh (j m:Nat)(a:Int):Pr:=(st j m a,mf j m a)
def iz (j m i:Nat):Nat:=if i<=j then i else i - 1 + m
def kr (j m x:Nat):List D:=(bQ x).map fun a=>aY (Fh j m a)
theorem wc (x c:Nat):bQ (x + c)=bQ x ++ (bQ c).map fun b=>(x:Int) + b:=by
 unfold bQ
 rw[List.range_add,List.map_append,List.map_map,List.map_map]
 congr 1
theorem BB {j m i:Nat}:kr j m (iz j m (i + 1))=kr j m (iz j m i) ++ (bQ (if i=j then m else 1)).map fun b=>aY ((i:Int),b):=by
 have hl:iz j m (i + 1)=iz j m i + (if i=j then m else 1):=by
  unfold iz
  split <;> split <;> split <;> omega
 unfold kr
 rw[hl,wc,List.map_append,List.map_map]
 congr 1
 refine List.map_congr_left fun b hb=>?_
 have hb:=aR.mp hb
 show aY (Fh j m ((iz j m i:Int) + b))=_
 congr 1
 unfold Fh
 by_cases e:i=j
 ·subst e
  rw[if_pos rfl] at hb
  have:iz i m i=i:=by unfold iz;rw[if_pos (Nat.le_refl _)]
  rw[this]
  obtain⟨q1,q2⟩:=Fy (j:=i) (m:=m) (a:=(i:Int) + b) (by omega) (by omega)
  rw[q1,q2,show (i:Int) + b - i=b by omega]
 ·rw[if_neg e] at hb
  have b0:b=0:=by omega
  subst b0
  by_cases h:i<=j
  ·have:iz j m i=i:=by unfold iz;rw[if_pos h]
   rw[this]
   unfold st mf
   rw[if_pos (by omega),if_pos (by omega),Int.add_zero]
  ·have:iz j m i=i - 1 + m:=by unfold iz;rw[if_neg h]
   rw[this]
   unfold st mf
   rw[if_neg (by omega),if_pos (by omega),if_neg (by omega),if_neg (by omega),show (((i - 1 + m:Nat):Int) + 0 - m + 1)=(i:Int) by omega]
theorem uQ (j m x:Nat):(kr j m x).length=x:=by unfold kr;rw[List.length_map,bh]
theorem Dh {j m x a:Nat}(h:a < x):lF (kr j m x) (a:Int)=some (aY (Fh j m a)):=by
 unfold kr
 rw[kH,ku (DZ h)];rfl
def Ed:List D->FR:=aW 8 3 dF
def xp:SF:=jz ((([] ++ []) ++ []) ++ (([] ++ []) ++ [])) (jh (f2 (f2 (f2 (gv 3) (gv 6) bw) (cst (.int 0)) bw) (f2 (f2 (gv 3) (gv 7) bw) (cst (.int 0)) bw) (gu false)))
 (jz (((([] ++ []) ++ []) ++ []) ++ (((([] ++ []) ++ []) ++ ((([] ++ []) ++ []) ++ [])) ++ ([] ++ []))) (CJ (jh (f2 (f2 (f2 (gv 3) (gv 6) bw) (cst (.int 0)) bw) (gv 1) (gu false))) (jh (f2 (de (ae (f2 (f2 (gv 3) (gv 6) bw) (cst (.int 1)) bw) (ae (f2 (f2 (gv 3) (gv 7) bw) (cst (.int 1)) bw) au))) (f2 (gv 2) (cst (.int 1)) bw) (Dq false))))
 (nr 5 ([6] ++ ([7] ++ [])) (de (ae (gv 6) (ae (gv 7) au))))
 kz)
 (jz (((([] ++ []) ++ []) ++ ((([] ++ []) ++ []) ++ [])) ++ ([] ++ [])) (jh (f2 (de (ae (f2 (f2 (gv 3) (gv 6) bw) (cst (.int 0)) bw) (ae (f2 (f2 (gv 3) (gv 7) bw) (cst (.int 0)) bw) au))) (f2 (gv 0) (cst (.int 1)) bw) (Dq false)))
 (nr 5 ([6] ++ ([7] ++ [])) (de (ae (gv 6) (ae (gv 7) au))))
 kz)
theorem By {n m j N i q:Nat}{l k fs:List Pr}{s4:Sl}(hi:i < N)(hq:q < N)(hf:fs.length<=100) :
  xp [.fz (ag n l),.fz (.int j),.fz (ag m k),.fz (.list (kr j m N)),s4,.ow (.list (fs.map aY)),.fz (.int i),.fz (.int q)] 0=.nx [.fz (ag n l),.fz (.int j),.fz (ag m k),.fz (.list (kr j m N)),s4,.ow (.list ((fs ++ if sg l k j m ((i:Int),(q:Int))=true then [((i:Int),(q:Int))] else []).map aY)),.fz (.int i),.fz (.int q)] 0:=by
 generalize hv:vl [.fz (ag n l),.fz (.int j),.fz (ag m k),.fz (.list (kr j m N)),s4,.ow (.list (fs.map aY)),.fz (.int i),.fz (.int q)]=vs
 have a0:f2 (gv 3) (gv 6) bw vs 0=.ok (aY (Fh j m i)) 0:=by rw[<-hv];exact aG rfl rfl (Dh hi)
 have b0:f2 (gv 3) (gv 7) bw vs 0=.ok (aY (Fh j m q)) 0:=by rw[<-hv];exact aG rfl rfl (Dh hq)
 have a1:f2 (f2 (gv 3) (gv 6) bw) (cst (.int 0)) bw vs 0=.ok (.int (st j m i)) 0:=aG a0 rfl rfl
 have b1:f2 (f2 (gv 3) (gv 7) bw) (cst (.int 0)) bw vs 0=.ok (.int (st j m q)) 0:=aG b0 rfl rfl
 have a2:f2 (f2 (gv 3) (gv 6) bw) (cst (.int 1)) bw vs 0=.ok (.int (mf j m i)) 0:=aG a0 rfl rfl
 have b2:f2 (f2 (gv 3) (gv 7) bw) (cst (.int 1)) bw vs 0=.ok (.int (mf j m q)) 0:=aG b0 rfl rfl
 have g1:gv 1 vs 0=.ok (.int j) 0:=by rw[<-hv];rfl
 have gl:f2 (gv 0) (cst (.int 1)) bw vs 0=.ok (.tuple (l.map aY)) 0:=by rw[<-hv];rfl
 have gk:f2 (gv 2) (cst (.int 1)) bw vs 0=.ok (.tuple (k.map aY)) 0:=by rw[<-hv];rfl
 have t1:=fG (neg:=false) a1 b1
 have t2:=ze (fG (neg:=false) a1 g1) (ja _ _ _ _ (aG (fk a2 b2) gk (xo false _ _)))
 have t3:=ja _ _ _ _ (aG (fk a1 b1) gl (xo false _ _))
 have app:nr 5 ([6] ++ ([7] ++ [])) (de (ae (gv 6) (ae (gv 7) au))) [.fz (ag n l),.fz (.int j),.fz (ag m k),.fz (.list (kr j m N)),s4,.ow (.list (fs.map aY)),.fz (.int i),.fz (.int q)] 0=.nx [.fz (ag n l),.fz (.int j),.fz (ag m k),.fz (.list (kr j m N)),s4,.ow (.list ((fs ++ [((i:Int),(q:Int))]).map aY)),.fz (.int i),.fz (.int q)] 0:=by
  rw[List.map_append]
  exact xk (i:=5) (L:=[6] ++ ([7] ++ [])) (env:=[.fz (ag n l),.fz (.int j),.fz (ag m k),.fz (.list (kr j m N)),s4,.ow (.list (fs.map aY)),.fz (.int i),.fz (.int q)]) (ds:=fs.map aY) (by rfl) (fk rfl rfl) (by rfl) (by rw[List.length_map];omega)
 subst hv
 unfold xp sg
 by_cases e:st j m i=st j m q
 ·rw[show (if false=true then !decide (st j m i=st j m q) else decide (st j m i=st j m q))=true by rw[if_neg Bool.false_ne_true];exact decide_eq_true e] at t1
  rw[jZ t1,if_pos (show st j m ((i:Int),(q:Int)).1=st j m ((i:Int),(q:Int)).2 from e)]
  by_cases c:st j m i=j/\(mf j m i,mf j m q)∈k
  ·rw[if_neg Bool.false_ne_true,if_neg Bool.false_ne_true,decide_eq_true c.1,decide_eq_true c.2,Bool.and_self] at t2
   refine (jZ t2).trans ?_
   rw[if_pos (by simp only[Bool.and_eq_true,decide_eq_true_eq];exact c)]
   exact app
  ·have cc:(decide (st j m i=j) && decide ((mf j m i,mf j m q)∈k))=false:=by
    rw[Bool.eq_false_iff];intro z;rw[Bool.and_eq_true,decide_eq_true_eq,decide_eq_true_eq] at z;exact c z
   rw[if_neg Bool.false_ne_true,if_neg Bool.false_ne_true,cc] at t2
   refine (gA t2).trans ?_
   rw[if_neg (by simp only[Bool.and_eq_true,decide_eq_true_eq];exact c),List.append_nil fs];rfl
 ·rw[show (if false=true then !decide (st j m i=st j m q) else decide (st j m i=st j m q))=false by rw[if_neg Bool.false_ne_true];exact decide_eq_false e] at t1
  rw[gA t1,if_neg (show ¬st j m ((i:Int),(q:Int)).1=st j m ((i:Int),(q:Int)).2 from e)]
  by_cases c:(st j m i,st j m q)∈l
  ·rw[if_neg Bool.false_ne_true,decide_eq_true c] at t3
   refine (jZ t3).trans ?_
   rw[if_pos (decide_eq_true c)]
   exact app
  ·rw[if_neg Bool.false_ne_true,decide_eq_false c] at t3
   refine (gA t3).trans ?_
   rw[if_neg (by rw[decide_eq_true_eq];exact c),List.append_nil fs];rfl
theorem Gj {n m j:Nat}{l k:List Pr}(O:OM.Ord n l)(O':OM.Ord m k)(hj:j < n)(h8:n + m<=9):Ed [ag n l,.int j,ag m k]=.ok (ag (n + m - 1) ((OM.bE (n + m - 1)).filter (sg l k j m))) false:=by
 have m1:=O'.lo
 have m8:=O'.hi
 have n8:=O.hi
 show fin (dF [.fz (ag n l),.fz (.int j),.fz (ag m k),.no,.no,.no,.no,.no] 0)=_
 unfold dF
 rw[aJ (env':=[.fz (ag n l),.fz (.int j),.fz (ag m k),.fz (.list []),.no,.no,.no,.no]) (β':=0) ?a]
 case a=>rw[fD,fE (ds:=[]) rfl (by simp)];rfl
 obtain⟨env',β',ef,s,rfl,rfl⟩:=dD (t:=.nm 4) (m:=cy 3 ([] ++ ((([] ++ (([] ++ []) ++ [])) ++ ([] ++ [])) ++ [4])) (f2 (gv 3) (aU 1 [4] (.nm 0) (cj (f2 (dY (ae (cst (.int 1)) (ae (f2 (gv 2) (cst (.int 0)) bw) au))) (f1 (f2 (gv 4) (gv 1) (gu false)) yp) bw)) ij (de (ae (gv 1) (ae (gv 0) au)))) nu)) (ds:=c8 0 n) (k:=0)
  (fun i env β=>∃s:Sl,env= [.fz (ag n l),.fz (.int j),.fz (ag m k),.fz (.list (kr j m (iz j m i))),s,.no,.no,.no]/\β=0)
  (env:=[.fz (ag n l),.fz (.int j),.fz (ag m k),.fz (.list []),.no,.no,.no,.no]) (β:=0) ⟨.no,by unfold iz;rw[if_pos (Nat.zero_le _)];rfl,rfl⟩ (by
   rintro i d env β hi ⟨s,rfl,rfl⟩
   obtain⟨hin,rfl⟩:=fV hi
   refine⟨[.fz (ag n l),.fz (.int j),.fz (ag m k),.fz (.list (kr j m (iz j m (0 + i)))),.fz (.int (0 + (i:Int))),.no,.no,.no],rfl,?_⟩
   rw[Nat.zero_add,Int.zero_add]
   generalize hvs:vl [.fz (ag n l),.fz (.int j),.fz (ag m k),.fz (.list (kr j m (iz j m i))),.fz (.int i),.no,.no,.no]=vs
   have ei:f1 (f2 (gv 4) (gv 1) (gu false)) yp vs 0=.ok (.int (if i=j then 1 else 0)) 0:=by
    rw[<-hvs]
    refine bJ (x:=.bool (decide ((i:Int)=j))) (aG (x:=.int i) (y:=.int j) rfl rfl (xt false i j)) ?_
    by_cases e:i=j
    ·rw[if_pos e,decide_eq_true (by omega)];rfl
    ·rw[if_neg e,decide_eq_false (by omega)];rfl
   have ecnt:f2 (dY (ae (cst (.int 1)) (ae (f2 (gv 2) (cst (.int 0)) bw) au))) (f1 (f2 (gv 4) (gv 1) (gu false)) yp) bw vs 0=.ok (.int ((if i=j then m else 1:Nat):Int)) 0:=by
    have e9:dY (ae (cst (.int 1)) (ae (f2 (gv 2) (cst (.int 0)) bw) au)) vs 0=.ok (.list [.int 1,.int m]) 0:=by
     rw[<-hvs];exact fE rfl (by simp)
    refine aG e9 ei ?_
    by_cases e:i=j
    ·rw[if_pos e,if_pos e];rfl
    ·rw[if_neg e,if_neg e];rfl
   have hc:(if i=j then m else 1)<=8:=by split <;> omega
   have ec:aU 1 [4] (.nm 0) (cj (f2 (dY (ae (cst (.int 1)) (ae (f2 (gv 2) (cst (.int 0)) bw) au))) (f1 (f2 (gv 4) (gv 1) (gu false)) yp) bw)) ij (de (ae (gv 1) (ae (gv 0) au))) vs 0=.ok (.list ((bQ (if i=j then m else 1)).map fun b=>aY ((i:Int),b))) 0:=by
    refine bA (l:=bQ (if i=j then m else 1)) (e:=PyData.int) (fun b=>aY ((i:Int),b)) ?_ (by rw[bh];omega) fun b hb=>⟨[.da (.int b),.da (.int i)],by rw[<-hvs];rfl,fk (a:=i) (b:=b) rfl rfl⟩
    rw[cD ecnt (by omega),jj]
   refine⟨[.fz (ag n l),.fz (.int j),.fz (ag m k),.fz (.list (kr j m (iz j m (i + 1)))),.fz (.int i),.no,.no,.no],0,?_,_,rfl,rfl⟩
   have hl:iz j m i<=100:=by unfold iz;split <;> omega
   rw[fD,hvs,aG (x:=.list (kr j m (iz j m i))) (d:=.list (kr j m (iz j m (i + 1)))) (β1:=0) (by rw[<-hvs];rfl) ec]
   ·rfl
   ·rw[l0 (by rw[uQ,List.length_map,bh];omega),BB])
 have hN:iz j m n=n + m - 1:=by unfold iz;rw[if_neg (by omega)];omega
 rw[dh,Nat.zero_add,hN] at ef
 rw[aJ (env':=[.fz (ag n l),.fz (.int j),.fz (ag m k),.fz (.list (kr j m (n + m - 1))),s,.no,.no,.no]) (β':=0) ?b]
 case b=>
  rw[fS (env:=[.fz (ag n l),.fz (.int j),.fz (ag m k),.fz (.list []),.no,.no,.no,.no]) (cD (n:=n) (β1:=0) rfl (by omega))]
  exact ef
 have hN8:n + m - 1<=8:=by omega
 generalize n + m - 1=N at *
 rw[aJ (env':=[.fz (ag n l),.fz (.int j),.fz (ag m k),.fz (.list (kr j m N)),s,.ow (.list []),.no,.no]) (β':=0) ?c]
 case c=>rw[o8,fE (ds:=[]) rfl (by simp)];rfl
 have elen:∀{s5 s6 s7:Sl},cj (f1 (gv 3) bS) (vl [.fz (ag n l),.fz (.int j),.fz (ag m k),.fz (.list (kr j m N)),s,s5,s6,s7]) 0=.ok (c8 0 N) 0:=fun {s5 s6 s7}=>by
  refine cD (n:=N) ?_ (by omega)
  show R.ok (PyData.int ((kr j m N).length:Nat)) 0=_
  rw[uQ]
 obtain⟨env',β',ef,s6,s7,rfl,rfl⟩:=dD (t:=.nm 6) (m:=gB (.nm 7) [] (cj (f1 (gv 3) bS)) xp) (ds:=c8 0 N) (k:=0)
  (fun i env β=>∃s6 s7:Sl,env= [.fz (ag n l),.fz (.int j),.fz (ag m k),.fz (.list (kr j m N)),s,.ow (.list ((upTo N (sg l k j m) i 0).map aY)),s6,s7]/\β=0)
  (env:=[.fz (ag n l),.fz (.int j),.fz (ag m k),.fz (.list (kr j m N)),s,.ow (.list []),.no,.no]) (β:=0) ⟨.no,.no,by rw[qR];rfl,rfl⟩ (by
   rintro i d env β hi ⟨s6,s7,rfl,rfl⟩
   obtain⟨hin,rfl⟩:=fV hi
   refine⟨[.fz (ag n l),.fz (.int j),.fz (ag m k),.fz (.list (kr j m N)),s,.ow (.list ((upTo N (sg l k j m) (0 + i) 0).map aY)),.fz (.int (0 + (i:Int))),s7],rfl,?_⟩
   rw[Nat.zero_add,Int.zero_add]
   obtain⟨env',β',ef,t7,rfl,rfl⟩:=dD (t:=.nm 7) (m:=xp) (ds:=c8 0 N) (k:=0)
    (fun q env β=>∃t:Sl,env= [.fz (ag n l),.fz (.int j),.fz (ag m k),.fz (.list (kr j m N)),s,.ow (.list ((upTo N (sg l k j m) i q).map aY)),.fz (.int i),t]/\β=0)
    (env:=[.fz (ag n l),.fz (.int j),.fz (ag m k),.fz (.list (kr j m N)),s,.ow (.list ((upTo N (sg l k j m) i 0).map aY)),.fz (.int i),s7]) (β:=0) ⟨s7,rfl,rfl⟩ (by
     rintro q d env β hq ⟨t,rfl,rfl⟩
     obtain⟨hqn,rfl⟩:=fV hq
     refine⟨[.fz (ag n l),.fz (.int j),.fz (ag m k),.fz (.list (kr j m N)),s,.ow (.list ((upTo N (sg l k j m) i (0 + q)).map aY)),.fz (.int i),.fz (.int (0 + (q:Int)))],rfl,?_⟩
     rw[Nat.zero_add,Int.zero_add]
     have hl:=ue (sg l k j m) i q hN8
     refine⟨_,_,By hin hqn (by omega),.fz (.int q),?_,rfl⟩
     rw[mi (sg l k j m) hin hqn])
   rw[dh,Nat.zero_add,tv] at ef
   refine⟨[.fz (ag n l),.fz (.int j),.fz (ag m k),.fz (.list (kr j m N)),s,.ow (.list ((upTo N (sg l k j m) (i + 1) 0).map aY)),.fz (.int i),t7],0,?_,_,_,rfl,rfl⟩
   rw[fS (env:=[.fz (ag n l),.fz (.int j),.fz (ag m k),.fz (.list (kr j m N)),s,.ow (.list ((upTo N (sg l k j m) i 0).map aY)),.fz (.int i),s7]) elen]
   exact ef)
 rw[dh,Nat.zero_add,uB] at ef
 rw[aJ (env':=[.fz (ag n l),.fz (.int j),.fz (ag m k),.fz (.list (kr j m N)),s,.ow (.list (((OM.bE N).filter (sg l k j m)).map aY)),s6,s7]) (β':=0) ?d]
 case d=>
  rw[fS (env:=[.fz (ag n l),.fz (.int j),.fz (ag m k),.fz (.list (kr j m N)),s,.ow (.list []),.no,.no]) elen]
  exact ef
 have e0:f1 (gv 3) bS (vl [.fz (ag n l),.fz (.int j),.fz (ag m k),.fz (.list (kr j m N)),s,.ow (.list (((OM.bE N).filter (sg l k j m)).map aY)),s6,s7]) 0=.ok (.int (N:Int)) 0:=by
  show R.ok (PyData.int ((kr j m N).length:Nat)) 0=_
  rw[uQ]
 rw[iS,kx (ds:=[.int (N:Int),.tuple (((OM.bE N).filter (sg l k j m)).map aY)]) (β1:=0) ?e (by simp)]
 ·rfl
 case e=>
  rw[cP,e0];rfl
end RM

end

section
namespace RM
open PySem L2
def dZ (rs:List (List Int))(a:Nat):List Int:=rs.getD (min a (rs.length - 1)) []
theorem zb {rs:List (List Int)}(h:rs≠ [])(a:Nat):rs[min a (rs.length - 1)]? =some (dZ rs a):=by
 have hp:=List.length_pos_iff.mpr h
 have hl:min a (rs.length - 1) < rs.length:=by omega
 unfold dZ
 rw[List.getD_eq_getElem?_getD,List.getElem?_eq_getElem hl];rfl
theorem bz {rs:List (List Int)}(h:rs≠ [])(a:Nat):dZ rs a∈rs:=List.mem_of_getElem? (zb h a)
theorem Cz {rs:List (List Int)}{r:List Int}(h:r∈rs):∃a,a < rs.length/\dZ rs a=r:=by
 obtain⟨a,ha,e⟩:=List.getElem_of_mem h
 refine⟨a,ha,?_⟩
 unfold dZ
 rw[Nat.min_eq_left (by omega),List.getD_eq_getElem?_getD,List.getElem?_eq_getElem ha];exact e
def BL:List D->FR:=aW 2 2 o9
theorem yC {rs:List (List Int)}(h:rs≠ [])(a:Nat):BL [.list (rs.map tupI),.int a]=.ok (tupI (dZ rs a)) false:=by
 show fin (o9 [.fz (.list (rs.map tupI)),.fz (.int a)] 0)=_
 have hp:=List.length_pos_iff.mpr h
 refine hJ (jI (aG (x:=.list (rs.map tupI)) (y:=.int ((min a (rs.length - 1):Nat):Int)) rfl (aG (x:=.int a) (y:=.int (((rs.map tupI).length:Int) - 1)) rfl (aG (x:=.int (rs.map tupI).length) (y:=.int 1) (bJ (x:=.list (rs.map tupI)) rfl rfl) rfl rfl) ?_) ?_) rfl)
 ·show some (PyData.int (if (((rs.map tupI).length:Int) - 1) < (a:Int) then (((rs.map tupI).length:Int) - 1) else (a:Int)))=_
  rw[List.length_map]
  congr 2
  split <;> omega
 ·show lF (rs.map tupI) _=_
  rw[kH,ku (zb h a)];rfl
def C1:List D->FR:=aW 2 2 jT
theorem DU {r:List Int}(hz:r.length<=1000)(s:Int):C1 [tupI r,.int s]=.ok (tupI (r.map (· + s))) false:=by
 show fin (jT [.fz (tupI r),.fz (.int s)] 0)=_
 refine hJ (jI (bJ (x:=.list (r.map fun x=>PyData.int (x + s))) (bA (l:=r) (e:=PyData.int) (fun x=>PyData.int (x + s)) rfl hz fun x hx=>⟨_,rfl,aG (x:=.int x) (y:=.int s) rfl rfl rfl⟩) ?_) rfl)
 show some (PyData.tuple _)=some (PyData.tuple _)
 rw[List.map_map];rfl
noncomputable def vg:List D->FR:=aW 4 4 (iQ wY)
structure Dr (n:Nat)(l:List Pr)(rs:List (List Int)):Prop where
 O:OM.Ord n l
 ne:rs≠ []
 few:rs.length<=10
 pm:∀r,r∈rs->r.Perm (bQ n)
 eq:l=(OM.bE n).filter (kP rs)
theorem Dr.row {n:Nat}{l:List Pr}{rs:List (List Int)}(d:Dr n l rs){r:List Int}(h:r∈rs):Row n l r:=⟨d.pm r h,by
 unfold Cm
 rw[List.all_eq_true]
 intro p hp
 rw[d.eq] at hp
 exact decide_eq_true ((eQ.mp (List.mem_filter.mp hp).2).2 r h)⟩
theorem Cq {n:Nat}{rs:List (List Int)}(h:rs≠ []):(OM.bE n).filter (kP rs)=(OM.bE n).filter (Ca rs):=by
 refine List.filter_congr fun p _=>?_
 unfold kP Ca
 by_cases c:p.1=p.2
 ·rw[decide_eq_true c]
  obtain⟨r,rs',rfl⟩:∃r rs',rs=r :: rs':=by
   cases rs with
   |nil=>exact absurd rfl h
   |cons r rs'=>exact⟨r,rs',rfl⟩
  rw[List.all_cons,c,decide_eq_false (Nat.lt_irrefl _)];rfl
 ·rw[decide_eq_false c];rfl
theorem Dr.tells {n:Nat}{l:List Pr}{rs:List (List Int)}(d:Dr n l rs):wY [.list (rs.map tupI),ag n l]=.ok (.bool true) false:=by
 have h8:=d.O.hi
 rw[Ef d.O ⟨rfl,fun es e=>by
  cases e
  refine⟨by rw[List.length_map];have:=d.few;omega,fun x hx=>?_⟩
  obtain⟨q,hq,rfl⟩:=List.mem_map.mp hx
  obtain⟨hl,hrb⟩:=oi h8 (d.pm q hq)
  exact (Eh (by omega) hrb).1⟩]
 rw[qA d.ne fun r hr=>d.row hr,<-Cq d.ne,<-d.eq,decide_eq_true rfl]
theorem z6 {n m:Nat}{l k:List Pr}{rs qs:List (List Int)}(d:Dr n l rs)(d':Dr m k qs):vg [ag n l,ag m k,.list (rs.map tupI),.list (qs.map tupI)]=.ok .none false:=by
 show fin (iQ wY [.fz (ag n l),.fz (ag m k),.fz (.list (rs.map tupI)),.fz (.list (qs.map tupI))] 0)=_
 refine hJ ?_
 unfold iQ
 exact iR (dA (ik (av (ds:=[.list (rs.map tupI),ag n l]) rfl d.tells))) (so (iR (dA (ik (av (ds:=[.list (qs.map tupI),ag m k]) rfl d'.tells))) (sY rfl)))
def m9 (n:Nat)(rs qs:List (List Int))(a:Nat):List Int:=dZ rs a ++ (dZ qs a).map (· + (n:Int))
def yi (n:Nat)(rs qs:List (List Int))(a:Nat):List Int:=(dZ qs a).map (· + (n:Int)) ++ dZ rs a
noncomputable def Er:List D->FR:=aW 5 4 (fN GJ vg BL C1)
theorem wX {n m c:Nat}{l k:List Pr}{rs qs:List (List Int)}{vs:List Nv}{β:Int}{fi:VF (List D)}(d:Dr n l rs)(d':Dr m k qs)(hc:c<=20)(hi:fi vs β=.ok (c8 0 c) β)(hb:fj 1 [2,3,0] vs= [.no,.da (.list (rs.map tupI)),.da (.list (qs.map tupI)),.da (ag n l)]) :
  aU 1 [2,3,0] (.nm 0) fi ij (f2 (az BL (ae (gv 1) (ae (gv 0) au))) (az C1 (ae (az BL (ae (gv 2) (ae (gv 0) au))) (ae (f2 (gv 3) (cst (.int 0)) bw) au))) kq) vs β=.ok (.list ((List.range c).map fun a=>tupI (m9 n rs qs a))) β:=by
 have h8:=d.O.hi
 have h8':=d'.O.hi
 have e:((List.range c).map fun a=>tupI (m9 n rs qs a))=(bQ c).map fun a=>tupI (m9 n rs qs a.toNat):=by
  unfold bQ;rw[List.map_map];rfl
 rw[e]
 refine bA (l:=bQ c) (e:=PyData.int) (fun a=>tupI (m9 n rs qs a.toNat)) (hi.trans (by rw[jj])) (by rw[bh];omega) fun a ha=>?_
 obtain⟨h0,_⟩:=aR.mp ha
 obtain⟨b,rfl⟩:∃b:Nat,a=(b:Int):=⟨a.toNat,by omega⟩
 rw[hb]
 have l1:=(oi h8 (d.pm _ (bz d.ne b))).1
 have l2:=(oi h8' (d'.pm _ (bz d'.ne b))).1
 refine⟨[.da (.int b),.da (.list (rs.map tupI)),.da (.list (qs.map tupI)),.da (ag n l)],rfl,?_⟩
 rw[Int.toNat_natCast]
 exact Fv (r:=dZ rs b) (q:=(dZ qs b).map (· + (n:Int))) (av (ds:=[.list (rs.map tupI),.int b]) rfl (yC d.ne b)) (av (ds:=[tupI (dZ qs b),.int n]) (ac (av (ds:=[.list (qs.map tupI),.int b]) rfl (yC d'.ne b)) (ac (DI (n:=n) (l:=l) rfl) an)) (DU (by omega) n)) (by rw[List.length_map];omega)
theorem uP {vs:List Nv}{β:Int}{fa fb:VF D}{rs qs:List (List Int)}(h1:fa vs β=.ok (.list (rs.map tupI)) β)(h2:fb vs β=.ok (.list (qs.map tupI)) β):f2 (f1 fa bS) (f1 fb bS) (pG fun i j=>.int (if j > i then j else i)) vs β=.ok (.int ((max rs.length qs.length:Nat):Int)) β:=by
 refine aG (bJ h1 rfl) (bJ h2 rfl) ?_
 show some (PyData.int (if (((qs.map tupI).length:Nat):Int) > (((rs.map tupI).length:Nat):Int) then (((qs.map tupI).length:Nat):Int) else (((rs.map tupI).length:Nat):Int)))=_
 rw[List.length_map,List.length_map]
 congr 2
 split <;> omega
theorem Fm {n m:Nat}{l k:List Pr}{rs qs:List (List Int)}(d:Dr n l rs)(d':Dr m k qs)(h8:n + m<=8):Er [ag n l,ag m k,.list (rs.map tupI),.list (qs.map tupI)]=.ok (.list ((List.range (max rs.length qs.length)).map fun a=>tupI (m9 n rs qs a))) true:=by
 show fin (fN GJ vg BL C1 [.fz (ag n l),.fz (ag m k),.fz (.list (rs.map tupI)),.fz (.list (qs.map tupI)),.no] 0)=_
 refine hJ ?_
 unfold fN
 have:=d.few
 have:=d'.few
 refine jE (av (ds:=[ag n l,ag m k]) rfl (Gq d.O d'.O h8)) (jE (av (ds:=[ag n l,ag m k,.list (rs.map tupI),.list (qs.map tupI)]) rfl (z6 d d')) (dB (uP (rs:=rs) (qs:=qs) rfl rfl) (rz (wX d d' (by omega) (cD (n:=max rs.length qs.length) rfl (by omega)) rfl) rfl)))
noncomputable def DC:List D->FR:=aW 6 4 (fK GJ vg BL C1)
theorem Gd {n m c:Nat}{l k:List Pr}{rs qs:List (List Int)}(d:Dr n l rs)(d':Dr m k qs)(h8:n + m<=8)(hc:c + 1=max 2 (max rs.length qs.length)):DC [ag n l,ag m k,.list (rs.map tupI),.list (qs.map tupI)]=.ok (.list (((List.range c).map fun a=>tupI (m9 n rs qs a)) ++ [tupI (yi n rs qs c)])) true:=by
 show fin (fK GJ vg BL C1 [.fz (ag n l),.fz (ag m k),.fz (.list (rs.map tupI)),.fz (.list (qs.map tupI)),.no,.no] 0)=_
 refine hJ ?_
 unfold fK
 have:=d.few
 have:=d'.few
 have hc20:c<=20:=by omega
 refine jE (av (ds:=[ag n l,ag m k]) rfl (Gq d.O d'.O h8)) (jE (av (ds:=[ag n l,ag m k,.list (rs.map tupI),.list (qs.map tupI)]) rfl (z6 d d')) ?_)
 have e4:f2 (xw (ae (f1 (gv 2) bS) (ae (f1 (gv 3) bS) (ae (cst (.int 2)) au)))) (cst (.int 1)) qL (vl [.fz (ag n l),.fz (ag m k),.fz (.list (rs.map tupI)),.fz (.list (qs.map tupI)),.no,.no]) 0=.ok (.int c) 0:=by
  refine aG (x:=.int ((c:Int) + 1)) (y:=.int 1) ?_ rfl (by
   show some (PyData.int ((c:Int) + 1 - 1))=_
   congr 2;omega)
  unfold xw
  rw[ac (ds:=[.int (qs.map tupI).length,.int 2]) (d:=.int (rs.map tupI).length) (bJ (x:=.list (rs.map tupI)) rfl rfl) (ac (bJ (x:=.list (qs.map tupI)) rfl rfl) (ac rfl an))]
  show R.ok (PyData.int (Fj (rs.map tupI).length (qs.map tupI).length 2)) 0=_
  rw[List.length_map,List.length_map]
  unfold Fj
  congr 2
  split <;> split <;> omega
 clear hc
 refine dB e4 ?_
 refine wp_at [.fz (ag n l),.fz (ag m k),.fz (.list (rs.map tupI)),.fz (.list (qs.map tupI)),.fz (.int c),.no] rfl ?_
 refine dB (wX d d' hc20 (cD (n:=c) rfl (by omega)) rfl) ?_
 have h8a:=d.O.hi
 have h8b:=d'.O.hi
 have l1:=(oi h8a (d.pm _ (bz d.ne c))).1
 have l2:=(oi h8b (d'.pm _ (bz d'.ne c))).1
 have lA:((List.range c).map fun a=>tupI (m9 n rs qs a)).length<=20:=by rw[List.length_map,List.length_range];exact hc20
 generalize ((List.range c).map fun a=>tupI (m9 n rs qs a))=A at lA
 refine wp_at [.fz (ag n l),.fz (ag m k),.fz (.list (rs.map tupI)),.fz (.list (qs.map tupI)),.fz (.int c),.fz (.list A)] rfl ?_
 refine rz (d:=.list (A ++ [tupI (yi n rs qs c)])) (β1:=0) (Gv (a:=A) (b:=[tupI (yi n rs qs c)]) rfl (lp (ds:=[tupI (yi n rs qs c)]) (ac ?_ an)) (by rw[List.length_singleton];omega)) rfl
 exact Fv (r:=(dZ qs c).map (· + (n:Int))) (q:=dZ rs c) (av (ds:=[tupI (dZ qs c),.int n]) (ac (av (ds:=[.list (qs.map tupI),.int c]) rfl (yC d'.ne c)) (ac (DI (n:=n) (l:=l) rfl) an)) (DU (by omega) n)) (av (ds:=[.list (rs.map tupI),.int c]) rfl (yC d.ne c)) (by rw[List.length_map];omega)
end RM

end

section
namespace RM
open PySem L2
theorem idx_map {f:Int->Int}{a:Int}:∀{l:List Int},(∀x,x∈l->f x=f a->x=a)->(l.map f).idxOf (f a)=l.idxOf a
 | [],_=>rfl
 |x :: l,h=>by
  rw[List.map_cons,List.idxOf_cons,List.idxOf_cons,idx_map (l:=l) fun y hy=>h y (List.mem_cons_of_mem _ hy)]
  by_cases c:x=a
  ·subst c;simp
  ·have:¬f x=f a:=fun e=>c (h x (List.mem_cons_self ..) e)
   rw[beq_false_of_ne c,beq_false_of_ne this]
theorem iL {a:Int}{l m:List Int}:(l ++ m).idxOf a=if a∈l then l.idxOf a else m.idxOf a + l.length:=List.idxOf_append
theorem uK {q:List Int}{s a:Int}:(q.map (· + s)).idxOf a=q.idxOf (a - s):=by
 have:=idx_map (f:=(· + s)) (a:=a - s) (l:=q) fun x _ e=>by have e:x + s=a - s + s:=e;omega
 rw[<-this]
 congr 1
 show a=a - s + s
 omega
theorem oY {q:List Int}{s a:Int}:a∈q.map (· + s)↔a - s∈q:=by
 rw[List.mem_map]
 constructor
 ·rintro⟨x,hx,rfl⟩;rw[show x + s - s=x by omega];exact hx
 ·intro h;exact⟨a - s,h,by omega⟩
theorem As {n m:Nat}{r q:List Int}(hr:r.Perm (bQ n))(hq:q.Perm (bQ m))(a:Int):(r ++ q.map (· + (n:Int))).idxOf a=if a∈bQ n then r.idxOf a else n + q.idxOf (a - n):=by
 have hl:r.length=n:=by rw[hr.length_eq,bh]
 rw[iL,uK,hl]
 by_cases c:a∈bQ n
 ·rw[if_pos (hr.mem_iff.mpr c),if_pos c]
 ·rw[if_neg (fun h=>c (hr.mem_iff.mp h)),if_neg c];omega
theorem DH {n m:Nat}{r q:List Int}(hr:r.Perm (bQ n))(hq:q.Perm (bQ m))(a:Int):(q.map (· + (n:Int)) ++ r).idxOf a=if a - n∈bQ m then q.idxOf (a - n) else m + r.idxOf a:=by
 have hl:q.length=m:=by rw[hq.length_eq,bh]
 rw[iL,uK,List.length_map,hl]
 by_cases c:a - n∈bQ m
 ·rw[if_pos (oY.mpr (hq.mem_iff.mpr c)),if_pos c]
 ·rw[if_neg (fun h=>c (hq.mem_iff.mp (oY.mp h))),if_neg c];omega
theorem Cw {n m:Nat}{r q:List Int}(hr:r.Perm (bQ n))(hq:q.Perm (bQ m)):(r ++ q.map (· + (n:Int))).Perm (bQ (n + m)):=by
 have e:bQ (n + m)=bQ n ++ (bQ m).map (· + (n:Int)):=by
  rw[wc]
  congr 1
  refine List.map_congr_left fun b _=>?_
  omega
 rw[e]
 exact hr.append (hq.map _)
theorem wz {n:Nat}{r:List Int}(hr:r.Perm (bQ n)){a:Int}(h:a∈bQ n):r.idxOf a < n:=by
 have:=List.idxOf_lt_length_iff.mpr (hr.mem_iff.mpr h)
 rwa [hr.length_eq,bh] at this
theorem kb {rs:List (List Int)}{c:Nat}(hne:rs≠ [])(hc:rs.length<=c){P:List Int->Prop}:(∀a,a < c->P (dZ rs a))↔∀r,r∈rs->P r:=by
 constructor
 ·intro h r hr
  obtain⟨a,ha,e⟩:=Cz hr
  rw[<-e];exact h a (by omega)
 ·exact fun h a _=>h _ (bz hne a)
theorem mM {n:Nat}{l:List Pr}{rs:List (List Int)}(d:Dr n l rs){a b:Int}:(a,b)∈l↔(a∈bQ n/\b∈bQ n)/\a≠b/\∀r,r∈rs->r.idxOf a < r.idxOf b:=by
 rw[d.eq,List.mem_filter,OM.bg,eQ,aR,aR]
theorem Bj {n m c:Nat}{l k:List Pr}{rs qs:List (List Int)}(d:Dr n l rs)(d':Dr m k qs)(h8:n + m<=8)(h1:rs.length<=c)(h2:qs.length<=c) :
  (OM.bE (n + m)).filter (kP ((List.range c).map fun a=>m9 n rs qs a))=OM.gQ 8 (OM.Mem (i0 n l k ++ lR (n + m) n n)):=by
 have hm1:=d'.O.lo
 refine OM.gE (OM.dQ _ (OM.gi _)) (OM.j8 _ _) fun p=>?_
 obtain⟨a,b⟩:=p
 rw[List.mem_filter,OM.j6,OM.bg,eQ]
 show _↔_/\(a,b)∈i0 n l k ++ lR (n + m) n n
 rw[List.mem_append,lS,jW,mM d,mM d']
 have key:(∀r,r∈((List.range c).map fun a=>m9 n rs qs a)->r.idxOf a < r.idxOf b)↔∀i,i < c->(m9 n rs qs i).idxOf a < (m9 n rs qs i).idxOf b:=by
  constructor
  ·exact fun h i hi=>h _ (List.mem_map.mpr ⟨i,List.mem_range.mpr hi,rfl⟩)
  ·intro h r hr
   obtain⟨i,hi,rfl⟩:=List.mem_map.mp hr
   exact h i (List.mem_range.mp hi)
 have c1:1<=c:=by have:=List.length_pos_iff.mpr d.ne;omega
 have ix:∀i x,(m9 n rs qs i).idxOf x=if x∈bQ n then (dZ rs i).idxOf x else n + (dZ qs i).idxOf (x - n):=fun i x=>As (d.pm _ (bz d.ne i)) (d'.pm _ (bz d'.ne i)) x
 have bd:∀i x,x∈bQ n->(dZ rs i).idxOf x < n:=fun i x hx=>wz (d.pm _ (bz d.ne i)) hx
 simp only[key,ix]
 simp only[aR]
 by_cases ca:0<=a/\a < n
 ·by_cases cb:0<=b/\b < n
  ·simp only[if_pos ca,if_pos cb,kb (P:=fun r=>r.idxOf a < r.idxOf b) d.ne h1]
   constructor
   ·rintro⟨_,h3,h4⟩;exact⟨by omega,.inl (.inl ⟨⟨ca,cb⟩,h3,h4⟩)⟩
   ·rintro⟨_,(⟨_,h3,h4⟩ | ⟨⟨h5,h6⟩,_⟩) |h⟩
    ·exact⟨by omega,h3,h4⟩
    ·omega
    ·omega
  ·simp only[if_pos ca,if_neg cb]
   constructor
   ·rintro⟨h0,h3,_⟩;exact⟨by omega,.inr (by omega)⟩
   ·rintro⟨h0,(⟨⟨_,h⟩,_⟩ | ⟨⟨h5,_⟩,_⟩) |h⟩
    ·exact absurd h cb
    ·omega
    ·exact⟨by omega,by omega,fun i _=>by have:=bd i a (aR.mpr ca);omega⟩
 ·by_cases cb:0<=b/\b < n
  ·simp only[if_neg ca,if_pos cb]
   constructor
   ·rintro⟨h0,h3,h4⟩
    have:=h4 0 (by omega)
    have:=bd 0 b (aR.mpr cb)
    omega
   ·rintro⟨h0,(⟨⟨h,_⟩,_⟩ | ⟨⟨_,h5⟩,_⟩) |h⟩
    ·exact absurd h ca
    ·omega
    ·omega
  ·simp only[if_neg ca,if_neg cb,Nat.add_lt_add_iff_left,kb (P:=fun r=>r.idxOf (a - n) < r.idxOf (b - n)) d'.ne h2]
   constructor
   ·rintro⟨h0,h3,h4⟩;exact⟨by omega,.inl (.inr ⟨⟨by omega,by omega⟩,by omega,h4⟩)⟩
   ·rintro⟨h0,(⟨⟨h,_⟩,_⟩ | ⟨⟨h5,h6⟩,h3,h4⟩) |h⟩
    ·exact absurd h ca
    ·exact⟨by omega,by omega,h4⟩
    ·omega
theorem BY {n m c:Nat}{l k:List Pr}{rs qs:List (List Int)}(d:Dr n l rs)(d':Dr m k qs)(h8:n + m<=8)(h1:rs.length<=c + 1)(h2:qs.length<=c + 1)(hc:1<=c) :
  (OM.bE (n + m)).filter (kP (((List.range c).map fun a=>m9 n rs qs a) ++ [yi n rs qs c]))=i0 n l k:=by
 have hm1:=d'.O.lo
 refine OM.gE (OM.dQ _ (OM.gi _)) (nO d.O d'.O) fun p=>?_
 obtain⟨a,b⟩:=p
 rw[List.mem_filter,OM.bg,eQ,lS,mM d,mM d']
 have key:(∀r,r∈((List.range c).map fun a=>m9 n rs qs a) ++ [yi n rs qs c]->r.idxOf a < r.idxOf b)↔(∀i,i < c->(m9 n rs qs i).idxOf a < (m9 n rs qs i).idxOf b)/\(yi n rs qs c).idxOf a < (yi n rs qs c).idxOf b:=by
  constructor
  ·exact fun h=>⟨fun i hi=>h _ (List.mem_append_left _ (List.mem_map.mpr ⟨i,List.mem_range.mpr hi,rfl⟩)),h _ (by simp)⟩
  ·rintro⟨h,h'⟩ r hr
   rcases List.mem_append.mp hr with hr |hr
   ·obtain⟨i,hi,rfl⟩:=List.mem_map.mp hr
    exact h i (List.mem_range.mp hi)
   ·rw[List.mem_singleton] at hr;rw[hr];exact h'
 have ix:∀i x,(m9 n rs qs i).idxOf x=if x∈bQ n then (dZ rs i).idxOf x else n + (dZ qs i).idxOf (x - n):=fun i x=>As (d.pm _ (bz d.ne i)) (d'.pm _ (bz d'.ne i)) x
 have iy:∀i x,(yi n rs qs i).idxOf x=if x - n∈bQ m then (dZ qs i).idxOf (x - n) else m + (dZ rs i).idxOf x:=fun i x=>DH (d.pm _ (bz d.ne i)) (d'.pm _ (bz d'.ne i)) x
 have bd:∀i x,x∈bQ n->(dZ rs i).idxOf x < n:=fun i x hx=>wz (d.pm _ (bz d.ne i)) hx
 have bd':∀i x,x∈bQ m->(dZ qs i).idxOf x < m:=fun i x hx=>wz (d'.pm _ (bz d'.ne i)) hx
 have sp:∀{P:Nat->Prop},((∀i,i < c->P i)/\P c)↔∀i,i < c + 1->P i:=fun {P}=>by
  constructor
  ·rintro⟨h,h'⟩ i hi
   by_cases e:i=c
   ·rw[e];exact h'
   ·exact h i (by omega)
  ·exact fun h=>⟨fun i hi=>h i (by omega),h c (by omega)⟩
 simp only[key,ix,iy]
 simp only[aR]
 by_cases ca:0<=a/\a < n
 ·have na:¬(0<=a - n/\a - n < m):=by omega
  by_cases cb:0<=b/\b < n
  ·have nb:¬(0<=b - n/\b - n < m):=by omega
   simp only[if_pos ca,if_pos cb,if_neg na,if_neg nb,Nat.add_lt_add_iff_left]
   rw[sp (P:=fun i=>(dZ rs i).idxOf a < (dZ rs i).idxOf b),kb (P:=fun r=>r.idxOf a < r.idxOf b) d.ne h1]
   constructor
   ·rintro⟨_,h3,h4⟩;exact .inl ⟨⟨ca,cb⟩,h3,h4⟩
   ·rintro (⟨_,h3,h4⟩ | ⟨⟨h5,h6⟩,_⟩)
    ·exact⟨by omega,h3,h4⟩
    ·omega
  ·simp only[if_pos ca,if_neg cb,if_neg na]
   constructor
   ·rintro⟨h0,h3,h4,h5⟩
    have pb:0<=b - n/\b - n < m:=by omega
    rw[if_pos pb] at h5
    have:=bd' c (b - n) (aR.mpr pb)
    omega
   ·rintro (⟨⟨_,h⟩,_⟩ | ⟨⟨h5,_⟩,_⟩)
    ·exact absurd h cb
    ·omega
 ·by_cases cb:0<=b/\b < n
  ·simp only[if_neg ca,if_pos cb]
   constructor
   ·rintro⟨h0,h3,h4,_⟩
    have:=h4 0 (by omega)
    have:=bd 0 b (aR.mpr cb)
    omega
   ·rintro (⟨⟨h,_⟩,_⟩ | ⟨⟨_,h5⟩,_⟩)
    ·exact absurd h ca
    ·omega
  ·constructor
   ·rintro⟨h0,h3,h4⟩
    have pa:0<=a - n/\a - n < m:=by omega
    have pb:0<=b - n/\b - n < m:=by omega
    simp only[if_neg ca,if_neg cb,if_pos pa,if_pos pb,Nat.add_lt_add_iff_left] at h4
    rw[sp (P:=fun i=>(dZ qs i).idxOf (a - n) < (dZ qs i).idxOf (b - n)),kb (P:=fun r=>r.idxOf (a - n) < r.idxOf (b - n)) d'.ne h2] at h4
    exact .inr ⟨⟨pa,pb⟩,by omega,h4⟩
   ·rintro (⟨⟨h,_⟩,_⟩ | ⟨⟨pa,pb⟩,h3,h4⟩)
    ·exact absurd h ca
    ·simp only[if_neg ca,if_neg cb,if_pos pa,if_pos pb,Nat.add_lt_add_iff_left]
     rw[sp (P:=fun i=>(dZ qs i).idxOf (a - n) < (dZ qs i).idxOf (b - n)),kb (P:=fun r=>r.idxOf (a - n) < r.idxOf (b - n)) d'.ne h2]
     exact⟨by omega,by omega,h4⟩
end RM

end

section
namespace RM
open PySem L2
def kQ (j:Nat)(s a:Int):Int:=if a > j then a + s else a
def Ho:List D->FR:=aW 3 3 rC
theorem ID (a s:Int)(j:Nat):Ho [.int a,.int j,.int s]=.ok (.int (kQ j s a)) false:=by
 show fin (rC [.fz (.int a),.fz (.int j),.fz (.int s)] 0)=_
 refine hJ (jI (d:=.int (kQ j s a)) (β1:=0) ?_ rfl)
 have t:jh (f2 (gv 0) (gv 1) Fs) (vl [.fz (.int a),.fz (.int j),.fz (.int s)]) 0=.ok (decide (a > (j:Int))) 0:=ja _ _ _ _ (aG (x:=.int a) (y:=.int j) rfl rfl rfl)
 rw[Ej,t]
 unfold kQ
 by_cases c:a > (j:Int)
 ·rw[decide_eq_true c,if_pos c];rfl
 ·rw[decide_eq_false c,if_neg c];rfl
def qG (j:Nat)(r q:List Int):List Int:=((r.map (kQ j ((q.length:Int) - 1))).take (r.idxOf (j:Int)) ++ q.map (· + (j:Int))) ++ (r.map (kQ j ((q.length:Int) - 1))).drop (r.idxOf (j:Int) + 1)
def DQ:List D->FR:=aW 5 3 (eV Ho C1)
theorem GH {r q:List Int}{j:Nat}(hr:r.length<=8)(hq:q.length<=8)(hj:(j:Int)∈r):DQ [tupI r,.int j,tupI q]=.ok (tupI (qG j r q)) false:=by
 show fin (eV Ho C1 [.fz (tupI r),.fz (.int j),.fz (tupI q),.no,.no] 0)=_
 refine hJ ?_
 unfold eV
 refine dB (qV (r:=r) (k:=j) rfl rfl hj) (dB (d:=tupI (r.map (kQ j ((q.length:Int) - 1)))) (β1:=0) (bJ (x:=.list (r.map fun x=>PyData.int (kQ j ((q.length:Int) - 1) x))) (bA (l:=r) (e:=PyData.int) (fun x=>PyData.int (kQ j ((q.length:Int) - 1) x)) rfl (by omega) fun x hx=>⟨_,rfl,av (ds:=[.int x,.int j,.int ((q.length:Int) - 1)]) (ac rfl (ac rfl (ac (aG (x:=.int (q.map PyData.int).length) (y:=.int 1) (bJ (x:=tupI q) rfl rfl) rfl (by show some (PyData.int (((q.map PyData.int).length:Int) - 1))=_;rw[List.length_map])) an))) (ID _ _ _)⟩) (by show some (PyData.tuple _)=some (PyData.tuple _);rw[List.map_map];rfl)) ?_)
 refine jI (d:=tupI (qG j r q)) (β1:=0) ?_ rfl
 generalize hK:r.map (kQ j ((q.length:Int) - 1))=K
 have lK:K.length<=8:=by rw[<-hK,List.length_map];exact hr
 have e:tupI (qG j r q)=.tuple ((K.map PyData.int).take (r.idxOf (j:Int)) ++ (q.map (· + (j:Int))).map PyData.int ++ (K.map PyData.int).drop (r.idxOf (j:Int) + 1)):=by
  unfold qG tupI
  rw[hK,List.map_append,List.map_append,List.map_take,List.map_drop]
 rw[e]
 refine Dp (Dp (GD (i:=r.idxOf (j:Int)) rfl rfl) (av (ds:=[tupI q,.int j]) rfl (DU (by omega) j)) ?_) (GQ (i:=r.idxOf (j:Int) + 1) rfl (IY rfl)) ?_
 ·simp only[List.length_take,List.length_map];omega
 ·simp only[List.length_append,List.length_take,List.length_drop,List.length_map];omega
noncomputable def Ep:List D->FR:=aW 6 5 (dP EG vg DQ BL)
theorem GU {n m j:Nat}{l k:List Pr}{rs qs:List (List Int)}(d:Dr n l rs)(d':Dr m k qs)(hj:j < n)(h8:n + m<=9):Ep [ag n l,.int j,ag m k,.list (rs.map tupI),.list (qs.map tupI)]=.ok (.list ((List.range (max rs.length qs.length)).map fun a=>tupI (qG j (dZ rs a) (dZ qs a)))) true:=by
 show fin (dP EG vg DQ BL [.fz (ag n l),.fz (.int j),.fz (ag m k),.fz (.list (rs.map tupI)),.fz (.list (qs.map tupI)),.no] 0)=_
 refine hJ ?_
 unfold dP
 have:=d.few
 have:=d'.few
 have h8a:=d.O.hi
 have h8b:=d'.O.hi
 refine jE (av (ds:=[ag n l,.int j,ag m k]) rfl (Fp d.O d'.O hj h8)) (jE (av (ds:=[ag n l,ag m k,.list (rs.map tupI),.list (qs.map tupI)]) rfl (z6 d d')) (dB (uP (rs:=rs) (qs:=qs) rfl rfl) ?_))
 generalize hc:max rs.length qs.length=c
 have hc':c<=20:=by omega
 have e:((List.range c).map fun a=>tupI (qG j (dZ rs a) (dZ qs a)))=(bQ c).map fun a=>tupI (qG j (dZ rs a.toNat) (dZ qs a.toNat)):=by
  unfold bQ;rw[List.map_map];rfl
 rw[e]
 refine rz (d:=.list ((bQ c).map fun a=>tupI (qG j (dZ rs a.toNat) (dZ qs a.toNat)))) (β1:=0) ?_ rfl
 refine bA (l:=bQ c) (e:=PyData.int) (fun a=>tupI (qG j (dZ rs a.toNat) (dZ qs a.toNat))) ((cD (n:=c) rfl (by omega)).trans (by rw[jj])) (by rw[bh];omega) fun a ha=>?_
 obtain⟨h0,_⟩:=aR.mp ha
 obtain⟨b,rfl⟩:∃b:Nat,a=(b:Int):=⟨a.toNat,by omega⟩
 have pr:=d.pm _ (bz d.ne b)
 have pq:=d'.pm _ (bz d'.ne b)
 have l1:=(oi h8a pr).1
 have l2:=(oi h8b pq).1
 refine⟨[.da (.int b),.da (.list (rs.map tupI)),.da (.int j),.da (.list (qs.map tupI))],rfl,?_⟩
 rw[Int.toNat_natCast]
 exact av (ds:=[tupI (dZ rs b),.int j,tupI (dZ qs b)]) (ac (av (ds:=[.list (rs.map tupI),.int b]) rfl (yC d.ne b)) (ac rfl (ac (av (ds:=[.list (qs.map tupI),.int b]) rfl (yC d'.ne b)) an))) (GH (by omega) (by omega) (pr.mem_iff.mpr (aR.mpr (by omega))))
theorem wA {n m j:Nat}{r q:List Int}(hr:r.Perm (bQ n))(hq:q.Perm (bQ m))(hj:j < n):∃P S:List Int,r=P ++ (j:Int) :: S/\(j:Int)∉P/\(j:Int)∉S/\qG j r q=(P.map (kQ j ((m:Int) - 1)) ++ q.map (· + (j:Int))) ++ S.map (kQ j ((m:Int) - 1)):=by
 have hm:(j:Int)∈r:=hr.mem_iff.mpr (aR.mpr (by omega))
 have hl:=List.idxOf_lt_length_iff.mpr hm
 have nd:r.Nodup:=hr.nodup_iff.mpr (jl n)
 have e:r=r.take (r.idxOf (j:Int)) ++ (j:Int) :: r.drop (r.idxOf (j:Int) + 1):=by
  have h1:=List.take_append_drop (r.idxOf (j:Int)) r
  rw[List.drop_eq_getElem_cons hl,List.getElem_idxOf hl] at h1
  exact h1.symm
 have nd2:(r.take (r.idxOf (j:Int)) ++ (j:Int) :: r.drop (r.idxOf (j:Int) + 1)).Nodup:=by rw[<-e];exact nd
 rw[List.nodup_append] at nd2
 refine⟨r.take (r.idxOf (j:Int)),r.drop (r.idxOf (j:Int) + 1),e,fun h=>nd2.2.2 _ h _ (List.mem_cons_self ..) rfl,(List.nodup_cons.mp nd2.2.1).1,?_⟩
 unfold qG
 rw[hq.length_eq,bh,List.map_take,List.map_drop]
theorem sy {j:Nat}{s a b:Int}(hs:0<=s)(ha:a≠j)(hb:b≠j)(h:kQ j s a=kQ j s b):a=b:=by
 unfold kQ at h
 split at h <;> split at h <;> omega
theorem rK {m j:Nat}{q P S:List Int}(hm:1<=m)(hq:q.Perm (bQ m))(hP:(j:Int)∉P)(hS:(j:Int)∉S){a:Int}(ha:a≠j):((P.map (kQ j ((m:Int) - 1)) ++ q.map (· + (j:Int))) ++ S.map (kQ j ((m:Int) - 1))).idxOf (kQ j ((m:Int) - 1) a)=if a∈P then P.idxOf a else S.idxOf a + (P.length + m):=by
 have hql:q.length=m:=by rw[hq.length_eq,bh]
 have nq:kQ j ((m:Int) - 1) a∉q.map (· + (j:Int)):=fun h=>by
  have:=aR.mp (hq.mem_iff.mp (oY.mp h))
  unfold kQ at this
  split at this <;> omega
 have mP:kQ j ((m:Int) - 1) a∈P.map (kQ j ((m:Int) - 1))↔a∈P:=by
  rw[List.mem_map]
  constructor
  ·rintro⟨x,hx,e⟩;rw[<-sy (by omega) (fun z=>hP (z▸hx)) ha e];exact hx
  ·exact fun h=>⟨a,h,rfl⟩
 have i1:(P.map (kQ j ((m:Int) - 1))).idxOf (kQ j ((m:Int) - 1) a)=P.idxOf a:=idx_map fun x hx e=>sy (by omega) (fun z=>hP (z▸hx)) ha e
 have i2:(S.map (kQ j ((m:Int) - 1))).idxOf (kQ j ((m:Int) - 1) a)=S.idxOf a:=idx_map fun x hx e=>sy (by omega) (fun z=>hS (z▸hx)) ha e
 rw[iL,iL,i1,i2,List.length_append,List.length_map,List.length_map,hql]
 by_cases c:a∈P
 ·rw[if_pos (List.mem_append_left _ (mP.mpr c)),if_pos (mP.mpr c),if_pos c]
 ·rw[if_neg (fun h=>(List.mem_append.mp h).elim (fun h=>c (mP.mp h)) nq),if_neg c]
theorem wO {m j:Nat}{q P S:List Int}(hq:q.Perm (bQ m))(hP:(j:Int)∉P){t:Int}(ht:t∈bQ m):((P.map (kQ j ((m:Int) - 1)) ++ q.map (· + (j:Int))) ++ S.map (kQ j ((m:Int) - 1))).idxOf (t + j)=q.idxOf t + P.length:=by
 have nP:t + j∉P.map (kQ j ((m:Int) - 1)):=fun h=>by
  obtain⟨x,hx,e⟩:=List.mem_map.mp h
  have:=aR.mp ht
  have hx:x≠j:=fun z=>hP (z▸hx)
  unfold kQ at e
  split at e <;> omega
 have mq:t + j∈q.map (· + (j:Int)):=oY.mpr (by rw[show t + (j:Int) - j=t by omega];exact hq.mem_iff.mpr ht)
 rw[iL,if_pos (List.mem_append_right _ mq),iL,if_neg nP,uK,List.length_map,show t + (j:Int) - j=t by omega]
theorem C2 {n m j:Nat}{r q:List Int}(hr:r.Perm (bQ n))(hq:q.Perm (bQ m))(hj:j < n)(hm:1<=m){a b:Int}(ha:0<=a/\a < ((n + m - 1:Nat):Int))(hb:0<=b/\b < ((n + m - 1:Nat):Int)) :
  (qG j r q).idxOf a < (qG j r q).idxOf b↔(if st j m a=st j m b then st j m a=j/\q.idxOf (mf j m a) < q.idxOf (mf j m b) else r.idxOf (st j m a) < r.idxOf (st j m b)):=by
 obtain⟨P,S,rfl,hP,hS,e⟩:=wA hr hq hj
 rw[e]
 have nd:(P ++ (j:Int) :: S).Nodup:=hr.nodup_iff.mpr (jl n)
 rw[List.nodup_append] at nd
 have old:∀x,x≠(j:Int)->(P ++ (j:Int) :: S).idxOf x=if x∈P then P.idxOf x else S.idxOf x + (P.length + 1):=fun x hx=>by
  rw[iL,List.idxOf_cons,beq_false_of_ne (Ne.symm hx)]
  split
  ·rfl
  ·simp only[cond_false];omega
 have oldj:(P ++ (j:Int) :: S).idxOf (j:Int)=P.length:=by
  rw[iL,if_neg hP,List.idxOf_cons];simp
 have ltP:∀x,x∈P->P.idxOf x < P.length:=fun x hx=>List.idxOf_lt_length_iff.mpr hx
 have hql:q.length=m:=by rw[hq.length_eq,bh]
 have ltq:∀x,x∈bQ m->q.idxOf x < m:=fun x hx=>wz hq hx
 have cs:∀x:Int,(0<=x/\x < ((n + m - 1:Nat):Int))->(st j m x=j/\mf j m x∈bQ m/\x=mf j m x + j)\/(st j m x≠j/\x=kQ j ((m:Int) - 1) (st j m x)):=fun x hx=>by
  rw[aR]
  unfold st mf kQ
  by_cases c1:x < (j:Int)
  ·right
   rw[if_pos c1,if_neg (by omega)]
   exact⟨by omega,rfl⟩
  ·rw[if_neg c1,if_neg c1]
   by_cases c2:x - (m:Int) + 1 > j
   ·right
    rw[if_pos c2,if_pos c2]
    exact⟨by omega,by omega⟩
   ·left
    rw[if_neg c2,if_pos (by omega)]
    exact⟨rfl,by omega,by omega⟩
 rcases cs a ha with⟨a1,a2,a3⟩ | ⟨a1,a2⟩
 ·rcases cs b hb with⟨b1,b2,b3⟩ | ⟨b1,b2⟩
  ·rw[a1,b1,if_pos rfl]
   rw[a3,b3,wO hq hP a2,wO hq hP b2,<-a3,<-b3]
   constructor
   ·exact fun h=>⟨rfl,by omega⟩
   ·exact fun h=>by have:=h.2;omega
  ·rw[a1,if_neg (fun z=>b1 z.symm),oldj,old _ b1]
   rw[a3,wO hq hP a2,b2,rK hm hq hP hS b1,<-b2]
   have:=ltq _ a2
   split
   ·rename_i h
    have:=ltP _ h
    constructor <;> intro <;> omega
   ·constructor <;> intro <;> omega
 ·rcases cs b hb with⟨b1,b2,b3⟩ | ⟨b1,b2⟩
  ·rw[b1,if_neg a1,oldj,old _ a1]
   rw[b3,wO hq hP b2,a2,rK hm hq hP hS a1,<-a2]
   have:=ltq _ b2
   split
   ·rename_i h
    have:=ltP _ h
    constructor <;> intro <;> omega
   ·constructor <;> intro <;> omega
  ·rw[old _ a1,old _ b1]
   have ea:=rK hm hq hP hS a1
   have eb:=rK hm hq hP hS b1
   rw[<-a2] at ea
   rw[<-b2] at eb
   rw[ea,eb]
   by_cases c:st j m a=st j m b
   ·rw[if_pos c,c]
    constructor
    ·intro h;omega
    ·exact fun h=>absurd (c▸h.1:st j m b=j) b1
   ·rw[if_neg c]
    split
    ·rename_i h1
     have:=ltP _ h1
     split
     ·exact Iff.rfl
     ·constructor <;> intro <;> omega
    ·split
     ·rename_i h2
      have:=ltP _ h2
      constructor <;> intro <;> omega
     ·constructor <;> intro <;> omega
end RM

end

section
namespace RM
open PySem L2
theorem IE {fa:VF D}{fr:VF (List D)}{vs:List Nv}{β β1 β2:Int}{d:D}{ds:List D}(h:fa vs β=.ok d β1)(h':fr vs β1=.ok ds β2):ae fa fr vs β=.ok (d :: ds) β2:=by rw[cP,h];dsimp only[R.bnd];rw[h']
theorem Aj {n m j:Nat}(hj:j < n)(hm:1<=m){x:Int}(hx:0<=x/\x < ((n + m - 1:Nat):Int)):(0<=st j m x/\st j m x < n)/\((st j m x=j/\mf j m x∈bQ m/\x=mf j m x + j)\/(st j m x≠j/\x=kQ j ((m:Int) - 1) (st j m x))):=by
 rw[aR]
 unfold st mf kQ
 by_cases c1:x < (j:Int)
 ·rw[if_pos c1]
  exact⟨by omega,.inr ⟨by omega,by rw[if_neg (by omega)]⟩⟩
 ·rw[if_neg c1,if_neg c1]
  by_cases c2:x - (m:Int) + 1 > j
  ·rw[if_pos c2,if_pos c2]
   exact⟨by omega,.inr ⟨by omega,by omega⟩⟩
  ·rw[if_neg c2,if_pos (by omega)]
   exact⟨by omega,.inl ⟨rfl,by omega,by omega⟩⟩
theorem BA {n m j:Nat}{r q:List Int}(hr:r.Perm (bQ n))(hq:q.Perm (bQ m))(hj:j < n)(hm:1<=m):(qG j r q).Perm (bQ (n + m - 1)):=by
 obtain⟨P,S,e0,hP,hS,e⟩:=wA hr hq hj
 have hl:P.length + S.length + 1=n:=by
  have:=hr.length_eq
  rw[bh,e0,List.length_append,List.length_cons] at this
  omega
 have hql:q.length=m:=by rw[hq.length_eq,bh]
 rw[e]
 refine (kg (jl _) (fun x hx=>?_) ?_).symm
 ·obtain⟨h1,h2⟩:=Aj hj hm (aR.mp hx)
  rcases h2 with⟨_,h3,h4⟩ | ⟨h3,h4⟩
  ·refine List.mem_append_left _ (List.mem_append_right _ (oY.mpr ?_))
   rw[show x - (j:Int)=mf j m x by omega]
   exact hq.mem_iff.mpr h3
  ·have hm2:st j m x∈r:=hr.mem_iff.mpr (aR.mpr h1)
   rw[e0] at hm2
   rcases List.mem_append.mp hm2 with h |h
   ·exact List.mem_append_left _ (List.mem_append_left _ (List.mem_map.mpr ⟨_,h,h4.symm⟩))
   ·rcases List.mem_cons.mp h with h |h
    ·exact absurd h h3
    ·exact List.mem_append_right _ (List.mem_map.mpr ⟨_,h,h4.symm⟩)
 ·simp only[List.length_append,List.length_map,bh]
  omega
theorem Ce {n m j c:Nat}{l k:List Pr}{rs qs:List (List Int)}(d:Dr n l rs)(d':Dr m k qs)(hj:j < n)(h8:n + m<=9)(h1:rs.length<=c)(h2:qs.length<=c) :
  (OM.bE (n + m - 1)).filter (kP ((List.range c).map fun a=>qG j (dZ rs a) (dZ qs a)))=(OM.bE (n + m - 1)).filter (sg l k j m):=by
 have hm:=d'.O.lo
 refine List.filter_congr fun p hp=>?_
 obtain⟨a,b⟩:=p
 obtain⟨ha,hb⟩:=OM.bg.mp hp
 simp only at ha hb
 rw[Bool.eq_iff_iff,eQ]
 obtain⟨sa,ca⟩:=Aj hj hm ha
 obtain⟨sb,cb⟩:=Aj hj hm hb
 have key:(∀r,r∈((List.range c).map fun a=>qG j (dZ rs a) (dZ qs a))->r.idxOf a < r.idxOf b)↔∀i,i < c->(if st j m a=st j m b then st j m a=j/\(dZ qs i).idxOf (mf j m a) < (dZ qs i).idxOf (mf j m b) else (dZ rs i).idxOf (st j m a) < (dZ rs i).idxOf (st j m b)):=by
  constructor
  ·exact fun h i hi=>(C2 (d.pm _ (bz d.ne i)) (d'.pm _ (bz d'.ne i)) hj hm ha hb).mp (h _ (List.mem_map.mpr ⟨i,List.mem_range.mpr hi,rfl⟩))
  ·intro h r hr
   obtain⟨i,hi,rfl⟩:=List.mem_map.mp hr
   exact (C2 (d.pm _ (bz d.ne i)) (d'.pm _ (bz d'.ne i)) hj hm ha hb).mpr (h i (List.mem_range.mp hi))
 have c1:1<=c:=by have:=List.length_pos_iff.mpr d.ne;omega
 simp only[key]
 unfold sg
 dsimp only
 by_cases cs:st j m a=st j m b
 ·simp only[if_pos cs]
  rw[Bool.and_eq_true,decide_eq_true_eq,decide_eq_true_eq,mM d']
  rcases ca with⟨ca1,ca2,ca3⟩ | ⟨ca1,ca2⟩
  ·rcases cb with⟨cb1,cb2,cb3⟩ | ⟨cb1,cb2⟩
   ·constructor
    ·rintro⟨ne,h⟩
     refine⟨ca1,⟨ca2,cb2⟩,fun e=>ne (by rw[ca3,cb3,e]),?_⟩
     exact (kb (P:=fun r=>r.idxOf (mf j m a) < r.idxOf (mf j m b)) d'.ne h2).mp fun i hi=>(h i hi).2
    ·rintro⟨_,_,ne,h⟩
     exact⟨fun e=>ne (by rw[e]),fun i hi=>⟨ca1,(kb (P:=fun r=>r.idxOf (mf j m a) < r.idxOf (mf j m b)) d'.ne h2).mpr h i hi⟩⟩
   ·exact absurd (cs▸ca1) cb1
  ·constructor
   ·rintro⟨_,h⟩;exact absurd (h 0 (by omega)).1 ca1
   ·rintro⟨h,_⟩;exact absurd h ca1
 ·simp only[if_neg cs]
  rw[decide_eq_true_eq,mM d,kb (P:=fun r=>r.idxOf (st j m a) < r.idxOf (st j m b)) d.ne h1]
  constructor
  ·rintro⟨_,h⟩;exact⟨⟨aR.mpr sa,aR.mpr sb⟩,cs,h⟩
  ·rintro⟨_,_,h⟩;exact⟨fun e=>cs (by rw[e]),h⟩
noncomputable def x9:List D->FR:=aW 3 2 (iI Hb oS)
theorem Ad {N:Nat}{L:List Pr}{ws:List (List Int)}(h8:N<=8)(hz:ws.length<=100)(hne:ws≠ [])(hp:∀w,w∈ws->w.Perm (bQ N))(he:(OM.bE N).filter (kP ws)=L):x9 [.list (ws.map tupI),ag N L]=.ok (.bool true) false:=by
 show fin (iI Hb oS [.fz (.list (ws.map tupI)),.fz (ag N L),.no] 0)=_
 refine hJ ?_
 unfold iI
 refine iR (k6 (c:=false) (dA (ik (c:=true) (C8 (d:=.list (ws.map tupI)) rfl rfl))) (ja _ _ _ _ (aG (x:=.list (ws.map tupI)) (y:=.list (([]:List (List Int)).map tupI)) rfl (lp (ds:=[]) an) (by rw[Aw,if_neg (by simp),decide_eq_false hne])))) ?_
 refine z7 (ds:=ws.map tupI) (fun _ env _=>∃s,env= [.fz (.list (ws.map tupI)),.fz (ag N L),s]) rfl ⟨_,rfl⟩ ?_ ?_
 ·rintro i dw env β hi ⟨s,rfl⟩
  rw[List.getElem?_map] at hi
  cases hw:ws[i]? with
  |none=>rw[hw] at hi;cases hi
  |some w=>
   rw[hw] at hi
   cases hi
   have pw:=hp w (List.mem_of_getElem? hw)
   have hl:w.length=N:=by rw[pw.length_eq,bh]
   refine⟨[.fz (.list (ws.map tupI)),.fz (ag N L),.fz (tupI w)],rfl,?_⟩
   have ea:=ra (mG (own:=1) (ixs:=[]) (t:=.nm 0) (fi:=dv (gv 2)) (fe:=az Hb (ae (gv 0) au)) (vs:=vl [.fz (.list (ws.map tupI)),.fz (ag N L),.fz (tupI w)]) (β:=β) (ds:=w.map PyData.int) (fun e=>PyData.bool (Bk e)) rfl (by rw[List.length_map];omega) fun e he=>⟨[.da e],rfl,av (ds:=[e]) rfl (Ht (by obtain⟨x,_,rfl⟩:=List.mem_map.mp he;rfl))⟩)
   rw[List.all_eq_true.mpr fun e he=>by obtain⟨x,_,rfl⟩:=List.mem_map.mp he;rfl] at ea
   refine iR (k6 (c:=false) (dA (a:=true) (CZ (d:=tupI w) rfl rfl)) (dA (a:=true) (ik ea))) ?_
   have es:oo (tupI w)=some (.list ((sortI w).map PyData.int)):=by
    unfold oo tupI
    dsimp only[lB]
    rw[gV]
    dsimp only
    rw[if_pos (by omega)]
   exact so (iR (ja _ _ _ _ (aG (x:=.list ((sortI w).map PyData.int)) (y:=.list ((bQ N).map PyData.int)) (bJ (x:=tupI w) rfl es) (bJ (x:=.int N) (DI (n:=N) (l:=L) rfl) (mY (by omega))) (by rw[tZ,if_pos rfl,decide_eq_true (AR.mpr pw)];rfl))) (sY ⟨_,_,rfl,_,rfl⟩))
 ·rintro env β ⟨s,rfl⟩
  refine jI (aG (av (ds:=[.int N,.list (ws.map tupI)]) (ac (DI (n:=N) (l:=L) rfl) (ac rfl an)) (xh h8 hz hp)) (IL (n:=N) (l:=L) rfl) (oW false _ _)) ?_
  rw[he,if_neg (by simp),decide_eq_true rfl];rfl
noncomputable def HI:List D->Int->FB:=tR 4 0 (gM oS ie xl)
theorem GP (β:Int):∃(n:Nat) (l:List Pr) (rs:List (List Int)) (b:Bool) (β':Int),HI [] β=.ok (.tuple [ag n l,.list (rs.map tupI)]) b β'/\Dr n l rs/\n<=4:=by
 obtain⟨j,hj,ej⟩:=kc (m:=4) (by omega) (by omega) β
 generalize β / ((4:Nat):Int)=β1 at ej
 suffices h:WP (gM oS ie xl [.bx,.no,.no,.no] β) fun s=>∃(n:Nat) (l:List Pr) (rs:List (List Int)) (b:Bool) (β':Int),Fc s=.ok (.tuple [ag n l,.list (rs.map tupI)]) b β'/\Dr n l rs/\n<=4 from h.out
 unfold gM
 refine dB (d:=.int ((1 + j:Nat):Int)) (aG (x:=.int 1) (y:=.int j) rfl (jL (ds:=[.int 4]) rfl rfl ej) (by show some (PyData.int (1 + (j:Int)))=_;rw[show ((1 + j:Nat):Int)=1 + (j:Int) by omega])) ?_
 have h1:1<=1 + j:=by omega
 have h4:1 + j<=4:=by omega
 generalize 1 + j=n at h1 h4
 obtain⟨q,hq,eq⟩:=kc (m:=3) (by omega) (by omega) β1
 generalize β1 / ((3:Nat):Int)=β2 at eq
 refine wp_at [.bx,.fz (.int n),.no,.no] rfl ?_
 have ei:cj (f2 (cst (.int 1)) (qQ 0 ie (ae (cst (.int 3)) au)) bI) (vl [.bx,.fz (.int n),.no,.no]) β1=.ok (c8 0 (1 + q)) β2:=
  cD (aG (x:=.int 1) (y:=.int q) rfl (jL (ds:=[.int 3]) rfl rfl eq) (by show some (PyData.int (1 + (q:Int)))=_;rw[show ((1 + q:Nat):Int)=1 + (q:Int) by omega])) (by omega)
 obtain⟨rs,β3,ec,hl,hP⟩:=xP (own:=1) (ixs:=[0,1]) (t:=.nm 0) (fe:=qQ 1 xl (ae (f1 (gv 2) g8) au)) tupI (fun r=>r.Perm (bQ n)) ei (by rw[dh];omega) fun d hd=>⟨[.da d,.bx,.da (.int n)],rfl,fun b=>by
  obtain⟨ms,b',em,pm⟩:=EI (bQ n) (by rw[bh];omega) b
  exact⟨ms,b',jL (ds:=[.list ((bQ n).map PyData.int)]) rfl (ac (bJ (x:=.int n) rfl (mY (by omega))) an) em,pm⟩⟩
 rw[dh] at hl
 have hne:rs≠ []:=fun e=>by rw[e] at hl;simp at hl;omega
 have O:=xM (n:=n) h1 (by omega) hne
 have et:=xh (n:=n) (rows:=rs) (by omega) (by omega) hP
 refine dB ec (dB (tp (ds:=[.int n,.tuple (((OM.bE n).filter (kP rs)).map aY)]) (ac rfl (ac (av (ds:=[.int n,.list (rs.map tupI)]) rfl et) an))) ?_)
 obtain⟨x,hx,ex⟩:=kc (m:=3) (by omega) (by omega) β3
 generalize β3 / ((3:Nat):Int)=β4 at ex
 have dr:Dr n ((OM.bE n).filter (kP rs)) rs:=⟨O,hne,by omega,hP,rfl⟩
 generalize hL:(OM.bE n).filter (kP rs)=l at dr
 refine EK (fun env _=>∃qs:List (List Int),env= [.bx,.fz (.int n),.fz (.list (qs.map tupI)),.fz (ag n l)]/\Dr n l qs) ⟨_,_,fG (neg:=false) (i:=(x:Int)) (j:=2) (jL (ds:=[.int 3]) rfl rfl ex) rfl,fun _=>?_,fun _=>sY ⟨_,_,rfl,rs,rfl,dr⟩⟩ ?_
 ·obtain⟨y,hy,ey⟩:=kc (m:=rs.length) (by omega) (by omega) β4
  refine so (dB (d:=.list ((rs ++ [rs[y]]).map tupI)) (β1:=β4 / (rs.length:Int)) (aG (x:=.list (rs.map tupI)) (y:=.list [tupI rs[y]]) rfl (fE (ds:=[tupI rs[y]]) (IE (aG (x:=.list (rs.map tupI)) (y:=.int y) rfl (jL (ds:=[.int rs.length]) rfl (ac (bJ (x:=.list (rs.map tupI)) rfl (by show some (PyData.int (rs.map tupI).length)=_;rw[List.length_map])) an) ey) (by show lF (rs.map tupI) _=_;rw[kH,ku (List.getElem?_eq_getElem hy)];rfl)) an) (by simp)) (by rw[l0 (by simp;omega),List.map_append];rfl)) (sY ⟨_,_,rfl,rs ++ [rs[y]],rfl,dr.O,by simp,by simp;omega,fun r hr=>?_,?_⟩))
  ·rcases List.mem_append.mp hr with h |h
   ·exact hP r h
   ·rw[List.mem_singleton] at h;rw[h];exact hP _ (List.getElem_mem hy)
  ·rw[<-hL]
   refine List.filter_congr fun p _=>?_
   rw[Bool.eq_iff_iff,eQ,eQ]
   constructor
   ·rintro⟨h,h'⟩
    exact⟨h,fun r hr=>(List.mem_append.mp hr).elim (h' r) fun z=>by rw[List.mem_singleton] at z;rw[z];exact h' _ (List.getElem_mem hy)⟩
   ·rintro⟨h,h'⟩
    exact⟨h,fun r hr=>h' r (List.mem_append_left _ hr)⟩
 rintro env β ⟨qs,rfl,dq⟩
 exact jI (tp (ds:=[ag n l,.list (qs.map tupI)]) (ac rfl (ac rfl an))) ⟨n,l,qs,_,_,rfl,dq,h4⟩
noncomputable def DM:List D->FR:=aW 11 1 (wo Ay Er x9 E9 DC yn Ep Ed HI ie)
end RM

end

section
namespace RM
open PySem L2
theorem zX {m':SF}{env env1:En}{β β1:Int}{Q:SO->Prop}{f:VF D}{d:D}{L:List Nat}{i j k l:Nat}(h:f (vl env) β=.ok d β1)(hb:w8 i j k l d (a9 L env)=some env1)(q:WP (m' env1 β1) Q):WP (aO (rq i j k l L f) m' env β) Q:=wp_seq (by unfold rq;rw[h];dsimp only[toS];rw[hb]) q
theorem B0 (rs qs:List (List Int)):gu true (.list [.list (rs.map tupI),.list (qs.map tupI)]) (.list [.list (rs.map tupI),.list (qs.map tupI)])=some (.bool false):=by
 have hs:SeqAt.shaped (.list [.list (rs.map tupI),.list (qs.map tupI)])=true:=by
  unfold SeqAt.shaped
  have h1:(PyData.list [.list (rs.map tupI),.list (qs.map tupI)]).canLay0=true:=by simp only[PyData.canLay0,PyData.canLayAll0,n6,Bool.and_self]
  have h2:(PyData.list [.list (rs.map tupI),.list (qs.map tupI)]).depth<=64:=by
   simp only[PyData.depth,PyData.depthAll]
   have:=l6 rs
   have:=l6 qs
   omega
  rw[h1,decide_eq_true h2];rfl
 unfold gu
 rw[hs]
 simp only[Bool.and_self,if_true,PyData.eqv,PyData.eqvAll,oC,decide_true,Bool.not_true]
theorem Fl (ns:List Int):DM [b7 ns]=.ok (.bool true) false:=by
 show fin (wo Ay Er x9 E9 DC yn Ep Ed HI ie [.fz (b7 ns),.no,.no,.no,.no,.no,.no,.no,.no,.no,.no] 0)=_
 refine hJ ?_
 obtain⟨m0,hm0,em⟩:=Au 3 (by omega) ns (vl [.fz (b7 ns),.no,.no,.no,.no,.no,.no,.no,.no,.no,.no]) 0 rfl
 unfold wo
 refine z7 (fun _ env _=>∃s1 s2 s3 s4 s5 s6 s7 s8 s9 s10,env= [.fz (b7 ns),s1,s2,s3,s4,s5,s6,s7,s8,s9,s10]) em ⟨_,_,_,_,_,_,_,_,_,_,rfl⟩ ?_ fun env β ⟨s1,s2,s3,s4,s5,s6,s7,s8,s9,s10,e⟩=>jI (d:=.bool true) rfl rfl
 rintro i d env β hi ⟨s1,s2,s3,s4,s5,s6,s7,s8,s9,s10,rfl⟩
 obtain⟨_,rfl⟩:=fV hi
 rw[Int.zero_add]
 refine⟨[.fz (b7 ns),.fz (.int i),s2,s3,s4,s5,s6,s7,s8,s9,s10],rfl,?_⟩
 obtain⟨z,ez⟩:=ED ns i
 obtain⟨t3,t4,t5,t6,t7,t8,t9,t10,hcl⟩:∃t3 t4 t5 t6 t7 t8 t9 t10:Sl,(pI (a9 ([0] ++ ([1] ++ [])) [.fz (b7 ns),.fz (.int i),s2,s3,s4,s5,s6,s7,s8,s9,s10])).set 2 .bx= [.fz (b7 ns),.fz (.int i),.bx,t3,t4,t5,t6,t7,t8,t9,t10]:=⟨_,_,_,_,_,_,_,_,rfl⟩
 refine BE (y0 (ds:=[b7 ns,.int i]) rfl ez) (wp_at _ hcl ?_)
 obtain⟨n,l,rs,b1,β1,e1,d,hn⟩:=GP z
 obtain⟨m,k,qs,b2,β2,e2,d',hm⟩:=GP β1
 refine zX (d:=.tuple [.tuple [ag n l,.list (rs.map tupI)],.tuple [ag m k,.list (qs.map tupI)]]) (β1:=β2) (env1:=[.fz (b7 ns),.fz (.int i),.bx,.fz (ag n l),.fz (.list (rs.map tupI)),.fz (ag m k),.fz (.list (qs.map tupI)),t7,t8,t9,t10]) (kx (IE (jL (ds:=[]) rfl rfl e1) (IE (jL (ds:=[]) rfl rfl e2) an)) (by simp)) rfl ?_
 have h1:=d.O.lo
 have h1':=d'.O.lo
 have hf:=d.few
 have hf':=d'.few
 have hp:=List.length_pos_iff.mpr d.ne
 have hp':=List.length_pos_iff.mpr d'.ne
 obtain⟨j,hj,ej⟩:=kc (m:=n) h1 (by omega) β2
 generalize β2 / (n:Int)=β3 at ej
 refine dB (jL (ds:=[.int n]) rfl (ac (DI (n:=n) (l:=l) rfl) an) ej) ?_
 have em9:=fun vs β (fa fb:VF D) h1 h2=>uP (vs:=vs) (β:=β) (fa:=fa) (fb:=fb) (rs:=rs) (qs:=qs) h1 h2
 refine dB (lp (ds:=[.list (rs.map tupI),.list (qs.map tupI)]) (ac (bJ (x:=.list (rs.map tupI)) rfl rfl) (ac (bJ (x:=.list (qs.map tupI)) rfl rfl) an))) ?_
 have g1:=Fm d d' (by omega)
 obtain⟨c2,hc2⟩:∃c2,c2 + 1=max 2 (max rs.length qs.length):=⟨max 2 (max rs.length qs.length) - 1,by omega⟩
 have g2:=Gd d d' (by omega) hc2
 have g3:=GU d d' hj (by omega)
 have bp:=fun a=>Cw (d.pm _ (bz d.ne a)) (d'.pm _ (bz d'.ne a))
 have k1:x9 [.list ((List.range (max rs.length qs.length)).map fun a=>tupI (m9 n rs qs a)),ag (n + m) (OM.gQ 8 (OM.Mem (i0 n l k ++ lR (n + m) n n)))]=.ok (.bool true) false:=by
  have:=Ad (ws:=(List.range (max rs.length qs.length)).map fun a=>m9 n rs qs a) (N:=n + m) (by omega) (by simp;omega) (fun e=>by have:=congrArg List.length e;rw[List.length_map,List.length_range,List.length_nil] at this;omega) (fun w hw=>by
   obtain⟨a,_,rfl⟩:=List.mem_map.mp hw
   exact bp a) (Bj (c:=max rs.length qs.length) d d' (by omega) (by omega) (by omega))
  rw[List.map_map] at this
  exact this
 have k2:x9 [.list (((List.range c2).map fun a=>tupI (m9 n rs qs a)) ++ [tupI (yi n rs qs c2)]),ag (n + m) (i0 n l k)]=.ok (.bool true) false:=by
  have:=Ad (ws:=((List.range c2).map fun a=>m9 n rs qs a) ++ [yi n rs qs c2]) (N:=n + m) (by omega) (by simp;omega) (by simp) (fun w hw=>by
   rcases List.mem_append.mp hw with hw |hw
   ·obtain⟨a,_,rfl⟩:=List.mem_map.mp hw
    exact bp a
   ·rw[List.mem_singleton] at hw
    subst hw
    exact List.perm_append_comm.trans (bp _)) (BY (c:=c2) d d' (by omega) (by omega) (by omega) (by omega))
  rw[List.map_append,List.map_map] at this
  exact this
 have k3:x9 [.list ((List.range (max rs.length qs.length)).map fun a=>tupI (qG j (dZ rs a) (dZ qs a))),ag (n + m - 1) ((OM.bE (n + m - 1)).filter (sg l k j m))]=.ok (.bool true) false:=by
  have:=Ad (ws:=(List.range (max rs.length qs.length)).map fun a=>qG j (dZ rs a) (dZ qs a)) (N:=n + m - 1) (by omega) (by simp;omega) (fun e=>by have:=congrArg List.length e;rw[List.length_map,List.length_range,List.length_nil] at this;omega) (fun w hw=>by
   obtain⟨a,_,rfl⟩:=List.mem_map.mp hw
   exact BA (d.pm _ (bz d.ne a)) (d'.pm _ (bz d'.ne a)) hj h1') (Ce (c:=max rs.length qs.length) d d' hj (by omega) (by omega) (by omega))
  rw[List.map_map] at this
  exact this
 have l1:((List.range (max rs.length qs.length)).map fun a=>tupI (m9 n rs qs a)).length=max rs.length qs.length:=by simp
 have l2:(((List.range c2).map fun a=>tupI (m9 n rs qs a)) ++ [tupI (yi n rs qs c2)]).length=max 2 (max rs.length qs.length):=by rw[List.length_append,List.length_map,List.length_range,List.length_singleton];exact hc2
 have l3:((List.range (max rs.length qs.length)).map fun a=>tupI (qG j (dZ rs a) (dZ qs a))).length=max rs.length qs.length:=by simp
 generalize ((List.range (max rs.length qs.length)).map fun a=>tupI (m9 n rs qs a))=A1 at g1 k1 l1
 generalize (((List.range c2).map fun a=>tupI (m9 n rs qs a)) ++ [tupI (yi n rs qs c2)])=A2 at g2 k2 l2
 generalize ((List.range (max rs.length qs.length)).map fun a=>tupI (qG j (dZ rs a) (dZ qs a)))=A3 at g3 k3 l3
 have hmc:max 2 (max rs.length qs.length)<=20:=by omega
 clear hc2
 generalize max rs.length qs.length=c at l1 l2 l3 em9 hmc
 refine dB (em9 _ _ _ _ rfl rfl) ?_
 generalize hm2:max 2 c=c2' at l2 hmc
 refine wp_at [.fz (b7 ns),.fz (.int i),.bx,.fz (ag n l),.fz (.list (rs.map tupI)),.fz (ag m k),.fz (.list (qs.map tupI)),.fz (.int j),.fz (.list [.list (rs.map tupI),.list (qs.map tupI)]),.fz (.int c),t10] rfl ?_
 refine dB (av (ds:=[ag n l,ag m k,.list (rs.map tupI),.list (qs.map tupI)]) rfl g1) (wp_at [.fz (b7 ns),.fz (.int i),.bx,.fz (ag n l),.fz (.list (rs.map tupI)),.fz (ag m k),.fz (.list (qs.map tupI)),.fz (.int j),.fz (.list [.list (rs.map tupI),.list (qs.map tupI)]),.fz (.int c),.fz (.list A1)] rfl ?_)
 refine iR (k6 (c:=false) ?_ (dA (a:=true) (ik (av (ds:=[.list A1,ag (n + m) (OM.gQ 8 (OM.Mem (i0 n l k ++ lR (n + m) n n)))]) (ac rfl (ac (av (ds:=[ag n l,ag m k]) rfl (FU d.O d'.O (by omega))) an)) k1)))) ?_
 ·have t:=fG (neg:=true) (i:=(A1.length:Int)) (j:=(c:Int)) (bJ (fa:=gv 10) (g:=bS) (vs:=vl [.fz (b7 ns),.fz (.int i),.bx,.fz (ag n l),.fz (.list (rs.map tupI)),.fz (ag m k),.fz (.list (qs.map tupI)),.fz (.int j),.fz (.list [.list (rs.map tupI),.list (qs.map tupI)]),.fz (.int c),.fz (.list A1)]) (β:=β3) (β1:=β3) (x:=.list A1) rfl rfl) (fb:=gv 9) (β2:=β3) rfl
  rw[l1,if_pos rfl,decide_eq_true rfl] at t
  exact t
 refine wp_at [.fz (b7 ns),.fz (.int i),.bx,.fz (ag n l),.fz (.list (rs.map tupI)),.fz (ag m k),.fz (.list (qs.map tupI)),.fz (.int j),.fz (.list [.list (rs.map tupI),.list (qs.map tupI)]),.fz (.int c),.fz (.list A1)] rfl ?_
 refine dB (av (ds:=[ag n l,ag m k,.list (rs.map tupI),.list (qs.map tupI)]) rfl g2) (wp_at [.fz (b7 ns),.fz (.int i),.bx,.fz (ag n l),.fz (.list (rs.map tupI)),.fz (ag m k),.fz (.list (qs.map tupI)),.fz (.int j),.fz (.list [.list (rs.map tupI),.list (qs.map tupI)]),.fz (.int c),.fz (.list A2)] rfl ?_)
 refine iR (k6 (c:=false) ?_ (dA (a:=true) (ik (av (ds:=[.list A2,ag (n + m) (i0 n l k)]) (ac rfl (ac (av (ds:=[ag n l,ag m k]) rfl (Dl d.O d'.O (by omega))) an)) k2)))) ?_
 ·have t:=fG (neg:=true) (i:=(A2.length:Int)) (j:=((c2':Nat):Int)) (bJ (fa:=gv 10) (g:=bS) (vs:=vl [.fz (b7 ns),.fz (.int i),.bx,.fz (ag n l),.fz (.list (rs.map tupI)),.fz (ag m k),.fz (.list (qs.map tupI)),.fz (.int j),.fz (.list [.list (rs.map tupI),.list (qs.map tupI)]),.fz (.int c),.fz (.list A2)]) (β:=β3) (β1:=β3) (x:=.list A2) rfl rfl) (fb:=f2 (cst (.int 2)) (gv 9) (pG fun i j=>.int (if j > i then j else i))) (β2:=β3) (aG (x:=.int 2) (y:=.int c) rfl rfl (by
   show some (PyData.int (if (c:Int) > 2 then (c:Int) else 2))=_
   congr 2
   rw[<-hm2]
   split <;> omega))
  rw[l2,if_pos rfl,decide_eq_true rfl] at t
  exact t
 refine wp_at [.fz (b7 ns),.fz (.int i),.bx,.fz (ag n l),.fz (.list (rs.map tupI)),.fz (ag m k),.fz (.list (qs.map tupI)),.fz (.int j),.fz (.list [.list (rs.map tupI),.list (qs.map tupI)]),.fz (.int c),.fz (.list A2)] rfl ?_
 refine dB (av (ds:=[ag n l,.int j,ag m k,.list (rs.map tupI),.list (qs.map tupI)]) rfl g3) (wp_at [.fz (b7 ns),.fz (.int i),.bx,.fz (ag n l),.fz (.list (rs.map tupI)),.fz (ag m k),.fz (.list (qs.map tupI)),.fz (.int j),.fz (.list [.list (rs.map tupI),.list (qs.map tupI)]),.fz (.int c),.fz (.list A3)] rfl ?_)
 refine so (iR (k6 (c:=false) ?_ (k6 (c:=false) (dA (a:=true) (ik (av (ds:=[.list A3,ag (n + m - 1) ((OM.bE (n + m - 1)).filter (sg l k j m))]) (ac rfl (ac (av (ds:=[ag n l,.int j,ag m k]) rfl (Gj d.O d'.O hj (by omega))) an)) k3))) (ja _ _ _ _ (aG (x:=.list [.list (rs.map tupI),.list (qs.map tupI)]) (y:=.list [.list (rs.map tupI),.list (qs.map tupI)]) (lp (ac rfl (ac rfl an))) rfl ?_)))) (sY ⟨_,_,rfl,_,_,_,_,_,_,_,_,_,_,rfl⟩))
 ·have t:=fG (neg:=true) (i:=(A3.length:Int)) (j:=(c:Int)) (bJ (fa:=gv 10) (g:=bS) (vs:=vl [.fz (b7 ns),.fz (.int i),.bx,.fz (ag n l),.fz (.list (rs.map tupI)),.fz (ag m k),.fz (.list (qs.map tupI)),.fz (.int j),.fz (.list [.list (rs.map tupI),.list (qs.map tupI)]),.fz (.int c),.fz (.list A3)]) (β:=β3) (β1:=β3) (x:=.list A3) rfl rfl) (fb:=gv 9) (β2:=β3) rfl
  rw[l3,if_pos rfl,decide_eq_true rfl] at t
  exact t
 ·exact B0 rs qs
end RM

end

section
namespace RO
open PySem L2
abbrev jJ:Stmt:=RQ.eN
abbrev l7:Stmt:=RQ.top 16
abbrev Fn (K:PySem.W.Frag)(mg:Str->Option Value)(x:Str)(st:Stmt)(ps:List Str)(f:Addr)(fd:FuncData):Prop:=iM K mg x st ps f fd
abbrev Bt (mg:Str->Option Value):Prop:=i8 mg
end RO

end

section
namespace L2
open PySem PySem.Spec PyProof.Rows
section
variable {K:PySem.W.Frag}{H H':Hp}{a:Addr}
theorem a8.snoc {x y:Int}(q:eh K H a [.int x,.int y]):∀{vs:List V} {ps:List (Int×Int)},a8 K H vs ps->a8 K H (vs ++ [.ref a]) (ps ++ [(x,y)])
 |_,_,.nil=>.cons ⟨a,rfl,q⟩ .nil
 |_,_,.cons r t=>.cons r (a8.snoc q t)
theorem a8.len {vs:List V}{ps:List (Int×Int)}(h:a8 K H vs ps):vs.length=ps.length:=Paired.length h
theorem a8.same {vs:List V}{ps:List (Int×Int)}(h:a8 K H vs ps)(s:aq H H'):a8 K H' vs ps:=h.grow s.grow
theorem a8.at {vs:List V}{ps:List (Int×Int)}{i:Nat}{v:V}(h:a8 K H vs ps)(e:vs[i]? =some v):∃p:Int×Int,ps[i]? =some p/\∃b,v=.ref b/\eh K H b [.int p.1,.int p.2]:=Paired.getP h e
theorem aq.put {o:HO}(s:aq H H')(h:H a=none):aq H (L2.upd H' a o):=fun b u e=>by rw[aB (aI e h)];exact s b u e
end
end L2
namespace RO
open PySem L2
def yP (N:List Str)(sc:Scope)(NB:List Str)(own:Nat)(ixs:List Nat)(scope:Scope):Bool:=
 decide (scope.kind=.function) && (scope.names.all fun y=>decide (y.2≠.cell)) && (scope.names.all fun y=>decide (scope.names.lookup y.1=some y.2)) &&
 (scope.names.all fun y=>decide (y.2=.free->(sc.names.lookup y.1=some .cell\/sc.names.lookup y.1=some .free))) && decide NB.Nodup && decide (NB.length=own + ixs.length) &&
 ((List.range ixs.length).all fun k=>decide (NB[own + k]? =N[ixs.getD k 0]?) && (match NB[own + k]? with |some x=>decide ((x,NameKind.free)∈scope.names) |none=>true))
theorem mK {X:Cx}{NB:List Str}{own:Nat}{ixs:List Nat}{scope:Scope}(h:yP X.N X.env.scope NB own ixs scope=true):di X NB own ixs scope:=by
 unfold yP at h
 simp only[Bool.and_eq_true,List.all_eq_true,decide_eq_true_eq,List.mem_range] at h
 obtain⟨⟨⟨⟨⟨⟨h1,h2⟩,h3⟩,h4⟩,h5⟩,h6⟩,h7⟩:=h
 refine⟨h1,h2,h3,h4,h5,h6,fun k hk=>⟨(h7 k hk).1,fun x hx=>?_⟩⟩
 have:=(h7 k hk).2
 rw[hx] at this
 simpa using this
section
variable {X:Cx}{tg l:Expr}{tl:TE}{K:PySem.W.Frag}{H H1:Hp}{a:Addr}{xs:List V}{σ:St}
def HU (K:PySem.W.Frag)(tl:TE):TI:=fun σ H R=>tl σ H fun x H1=>∃a xs,x=.ref a/\((hZ K H1 a xs/\R (xJ K a) H1)\/(eh K H1 a xs/\R (Dv K a) H1))
end
theorem IP (K:PySem.W.Frag){X:Cx}(h:X.K=K:=by rfl):Ae X (Fe K):=by subst h;exact gP
theorem DK (K:PySem.W.Frag)(i j:Nat){X:Cx}{x y:Str}{px py pos:Pos}{k:Nat}(hN:X.N.Nodup)(hi:X.N[i]? =some x)(hj:X.N[j]? =some y)(hx:X.env.scope.names.lookup x=some .local)(hy:X.env.scope.names.lookup y=some .local)(hc:X.calm=true)(hK:X.K=K) :
  PG X (.Tuple [.Name x px,.Name y py] k pos) (Cf K 2 (nX (kW i) (nX (kW j) B3))):=by
 subst hK
 exact mw hc (cO (c6 hN hi (Or.inl hx) (Or.inr hx)) (cO (c6 hN hj (Or.inl hy) (Or.inr hy)) kL))
section
open PySem.Spec PyProof.Rows
variable {X:Cx}{tg l:Expr}{tl:TE}
theorem D5 (hl:PE X l tl):PI X tg l (HU X.K tl):=by
 intro pins s σ H R I h
 refine cZ (hl pins s σ H _ I h) fun v s1 ⟨x,H1,I1,r1,q1⟩=>?_
 obtain⟨a,xs,e,q⟩:=q1
 subst e
 cases r1
 rcases q with⟨hq,q⟩ | ⟨hq,q⟩
 ·obtain⟨its,rv,p,hz⟩:=I1.list hq
  refine wpAny_pyIter_list p.isList ?_
  refine⟨s1.heap.objs.size,[s1.heap.objs.size],_,_,H1,rfl,I1.kept (t':=s1.toks) fun b o e=>Heap.get?_push_of_some _ e,mJ a _,⟨_,Heap.get?_push_size _ rfl,rfl,rfl⟩,fun b hb=>?_,q⟩
  have e:b=s1.heap.objs.size:=by simpa using hb
  subst e
  exact I1.fpOk (Nat.le_refl _) (I1.hok.fresh (Nat.le_refl _))
 ·obtain⟨its,rv,p,hz⟩:=I1.tuple hq
  refine wpAny_pyIter_tuple (show s1.heap.IsTuple a its.toArray from p) ?_
  refine⟨s1.heap.objs.size,[s1.heap.objs.size],_,_,H1,rfl,I1.kept (t':=s1.toks) fun b o e=>Heap.get?_push_of_some _ e,oF a _,⟨_,Heap.get?_push_size _ rfl,rfl,rfl⟩,fun b hb=>?_,q⟩
  have e:b=s1.heap.objs.size:=by simpa using hb
  subst e
  exact I1.fpOk (Nat.le_refl _) (I1.hok.fresh (Nat.le_refl _))
end
section
variable {K:PySem.W.Frag}{H H1 H':Hp}{a:Addr}{xs:List V}{σ:St}
abbrev GV (J:It)(g:TG)(tb:TS)(D:Ends)(σ:St)(H:Hp):Prop:=∃W:Nat->Nat->St->Hp->Prop,(∃m,W 0 m σ H)/\∀i m σ H,W i m σ H->
   (J.stop i H/\D.nx σ H)\/(J.go i H/\∃N:St->Hp->Prop,(∀σ' H',N σ' H'->∃m',m' < m/\W (i + 1) m' σ' H')/\∀x H',J.yld i H x H'->g x σ H' fun σ2 H2=>tb {D with nx:=N,ct:=N,bk:=D.nx} σ2 H2)
theorem Bc (s:aq H1 H')(hq:hZ K H1 a xs\/eh K H1 a xs):hZ K H' a xs\/eh K H' a xs:=hq.elim (fun q=>.inl (s.seq q)) fun q=>.inr (q.grow s.grow)
theorem B9 {g:TG}{tb:TS}{D:Ends}(hq:hZ K H1 a xs\/eh K H1 a xs)(Pv:Nat->St->Hp->Prop)(h0:Pv 0 σ H)(hl:∀i σ H',Pv i σ H'->aq H1 H')
  (hs:∀i x σ H,xs[i]? =some x->Pv i σ H->g x σ H fun σ2 H2=>tb {D with nx:=Pv (i + 1),ct:=Pv (i + 1),bk:=D.nx} σ2 H2) (hd:∀σ H,Pv xs.length σ H->D.nx σ H) :
  (hZ K H a xs/\GV (xJ K a) g tb D σ H)\/(eh K H a xs/\GV (Dv K a) g tb D σ H):=
 hq.elim (fun q=>.inl ⟨(hl _ _ _ h0).seq q,tQ Pv h0 (fun i σ H' _ p=>(hl i σ H' p).seq q) hs hd⟩) fun q=>.inr ⟨q.grow (hl _ _ _ h0).grow,BN Pv h0 (fun i σ H' _ p=>q.grow (hl i σ H' p).grow) hs hd⟩
def xj (J:It)(own:Nat)(ixs:List Nat)(g:TG)(tt:TT)(te:TE)(Q:VK)(D:Addr)(σ:St)(H:Hp):Prop:=∃W:Nat->Nat->St->Hp->Prop,(∃m,W 0 m (rn own ixs σ) (upd H D (.lst [])))/\∀i m σ' H',W i m σ' H'->
   (J.stop i H'/\(∃acc,H' D=some (.lst acc))/\Q (.ref D) H')\/
   (J.go i H'/\∃N:St->Hp->Prop,(∀σ2 H2,N σ2 H2->∃m',m' < m/\W (i + 1) m' σ2 H2)/\∀x H2,J.yld i H' x H2->eR g tt te D x σ' H2 N)
structure tT (own:Nat)(ixs:List Nat)(wi:TI)(g:TG)(tt:TT)(te:TE)(σ:St)(H:Hp)(Q:VK):Prop where
 out:wi σ H fun J H1=>∀D,H1 D=none->xj J own ixs g tt te Q D σ H1
theorem vX {own:Nat}{ixs:List Nat}{wi:TI}{g:TG}{tt:TT}{te:TE}{Q:VK}(h:wi σ H fun J H1=>∀D,H1 D=none->xj J own ixs g tt te Q D σ H1):tT own ixs wi g tt te σ H Q:=⟨h⟩
theorem rj {X:Cx}{NB:List Str}{own:Nat}{ixs:List Nat}{scope:Scope}{tg iter elt:Expr}{ifs:List Expr}{wi:TI}{g:TG}{tt:TT}{te:TE}{pos:Pos}(hc:X.calm=true)(S:di X NB own ixs scope)(hi:PI X tg iter wi)
  (hg:∀C ex s3 H3 pn,PG (jd X NB scope C ex s3 H3 pn) tg g) (ht:∀C ex s3 H3 pn,Am (jd X NB scope C ex s3 H3 pn) ifs tt) (he:∀C ex s3 H3 pn,PE (jd X NB scope C ex s3 H3 pn) elt te)
  (hs:∀x,foldedSetIterable iter X.env x=pure x:=by intro _;rfl):PE X (.ListComp elt [⟨tg,iter,ifs,0⟩] scope pos) (tT own ixs wi g tt te):=
 fun pins s σ H Q I h=>tx hc S hi hg ht he hs pins s σ H Q I h.out
section
variable {own:Nat}{ixs:List Nat}{g:TG}{tt:TT}{te:TE}{Q:VK}{D:Addr}
theorem Bz (Pv:Nat->St->Hp->Prop)(h0:Pv 0 (rn own ixs σ) (upd H D (.lst [])))(hl:∀i σ H,i<=xs.length->Pv i σ H->hZ K H a xs)
  (hs:∀i x σ H,xs[i]? =some x->Pv i σ H->eR g tt te D x σ H (Pv (i + 1))) (hd:∀σ H,Pv xs.length σ H->(∃acc,H D=some (.lst acc))/\Q (.ref D) H):xj (xJ K a) own ixs g tt te Q D σ H:=yy Pv h0 hl hs hd
theorem tw {lo:Int}{n:Nat}(Pv:Nat->St->Hp->Prop)(h0:Pv 0 (rn own ixs σ) (upd H D (.lst [])))
  (hs:∀i σ H,i < n->Pv i σ H->eR g tt te D (.int (lo + i)) σ H (Pv (i + 1))) (hd:∀σ H,Pv n σ H->(∃acc,H D=some (.lst acc))/\Q (.ref D) H):xj (yZ lo n) own ixs g tt te Q D σ H:=u6 Pv h0 hs hd
end
theorem tV {i:Nat}{te:TE}{D:Addr}{x:V}{N:St->Hp->Prop}(h:te (σ.set i (some x)) H fun v H5=>∃acc,H5 D=some (.lst acc)/\acc.length < sizeLine/\N (σ.set i (some x)) (upd H5 D (.lst (acc ++ [v])))):eR (kW i) DO te D x σ H N:=by
 unfold eR kW DO
 exact rQ h
theorem zV {i j:Nat}{x y:V}{Q:St->Hp->Prop}(h:eh K H a [x,y])(q:Q ((σ.set i (some x)).set j (some y)) H):Cf K 2 (nX (kW i) (nX (kW j) B3)) (.ref a) σ H Q:=⟨a,_,rfl,h,rfl,x,_,rfl,y,_,rfl,rfl,q⟩
theorem HG {c A B:Prop}[Decidable c](h:c)(a:A):if c then A else B:=by rw[if_pos h];exact a
theorem Hs {c A B:Prop}[Decidable c](h:¬c)(b:B):if c then A else B:=by rw[if_neg h];exact b
theorem take_snoc {α:Type}{l:List α}{i:Nat}{x:α}(h:l[i]? =some x):l.take (i + 1)=l.take i ++ [x]:=by
 rw[List.take_add_one,h];rfl
theorem take_all {α:Type}(l:List α):l.take l.length=l:=List.take_of_length_le (Nat.le_refl _)
end
theorem h9 (n:Nat):(OM.bE n).length=n * n:=by unfold OM.bE;simp
theorem Cg {n i:Nat}(h:i < n * n):(OM.bE n)[i]? =some (((i / n:Nat):Int),((i % n:Nat):Int)):=by
 unfold OM.bE
 rw[List.getElem?_map,List.getElem?_range h];rfl
theorem IM {n:Nat}(h:n<=8):n * n<=64:=Nat.mul_le_mul h h
section
variable {P:Program}{w:World}{K:PySem.W.Frag}{mg:Str->Option Value}{base:Heap}
def xm (K:PySem.W.Frag):Sp:=fun vs H Q _=>∃n:Nat,vs= [.int n]/\1<=n/\n<=8/\∀H' l ws,aq H H'->H l=none->H' l=some (.lst ws)->a8 K H' ws (OM.bE n)->Q (.ref l) H'
theorem Cn:aC ["many"] ["many"] (ao jJ):=⟨rfl,rfl,rfl,by decide +kernel,rfl,by decide +kernel,by decide +kernel⟩
theorem FZ:(["number","many"]:List Str).Nodup:=by decide +kernel
theorem AW {f:Addr}{fd:FuncData}(F:Fn K mg "every_pair" jJ ["many"] f fd)(B:Bt mg):fW P w K mg base Ee 1 f fd ["many"] (xm K):=by
 refine F.F.ok Cn (fun vs H Q E h=>?_) (fun cdv A outer s H vs Q E hr h=>?_)
 ·obtain⟨n,rfl,_⟩:=h;rfl
 ·obtain⟨n,rfl,h1,h8,k⟩:=h
  refine⟨_,iG (mC (rj (NB:=["number","many"]) (own:=1) (ixs:=[0]) rfl (mK (by kernel_rfl)) (kN rfl B.range (aZ (qu kj (pv 0) (pv 0)) bZ))
   (fun C ex s3 H3 pn=>c6 (i:=0) FZ rfl (Or.inl rfl) (hf:=Or.inr rfl)) (fun C ex s3 H3 pn=>sr)
   (fun C ex s3 H3 pn=>uZ (aZ (qu rb (pv 0) (pv 1)) (aZ (qu lC (pv 0) (pv 1)) bZ))))),?_⟩
  have hn:=IM h8
  have e0:((n:Int) * (n:Int))=((n * n:Nat):Int):=by rw[Int.natCast_mul]
  refine vX ⟨_,rfl,_,rfl,_,_,rfl,rfl,.inl ⟨by omega,by omega⟩,_,rfl,by rw[e0];omega,by rw[e0];omega,fun D hD=>?_⟩
  rw[e0,Int.toNat_natCast]
  refine tw (fun i σ' H'=>(∃v,σ'= [v,some (.int n)])/\aq H H'/\∃vs,H' D=some (.lst vs)/\a8 K H' vs ((OM.bE n).take i)) ⟨⟨none,rfl⟩,(aq.refl H).put hD,[],aA,.nil⟩ ?_ ?_
  ·rintro i σ' H' hi ⟨⟨v,rfl⟩,s1,vs,hv,hp⟩
   have hn0:(0:Int) < (n:Int):=by omega
   refine tV ⟨_,rfl,_,rfl,_,_,rfl,rfl,⟨hn0,by omega⟩,_,rfl,_,rfl,_,_,rfl,rfl,hn0,by show 2<=sizeLine;rw[sizeLine_eq];omega,fun p hp0=>?_⟩
   have hpD:D≠p:=aI hv hp0
   have hl:=hp.len
   refine⟨vs,by rw[aB hpD];exact hv,?_,⟨_,rfl⟩,?_,vs ++ [.ref p],aA,?_⟩
   ·rw[hl,List.length_take,sizeLine_eq];rw[h9];omega
   ·exact (s1.put (s1.free hp0)).put hD
   ·rw[take_snoc (Cg hi)]
    have g1:hR H' (upd H' p (.tup [.int ((0 + (i:Int)) / n),.int ((0 + (i:Int)) % n)])):=hR.new hp0
    have g2:∀o,hR (upd H' p (.tup [.int ((0 + (i:Int)) / n),.int ((0 + (i:Int)) % n)])) (upd (upd H' p (.tup [.int ((0 + (i:Int)) / n),.int ((0 + (i:Int)) % n)])) D o):=fun o=>hR.list (by rw[aB hpD];exact hv)
    refine a8.snoc ?_ (hp.grow (g1.trans (g2 _)))
    refine (eh.grow ?_ (g2 _))
    refine .inl (.inl ?_)
    rw[aA,Int.zero_add];rfl
  ·rintro σ' H' ⟨_,s1,vs,hv,hp⟩
   refine⟨⟨_,hv⟩,k H' D vs s1 hD hv ?_⟩
   rw[<-h9 n,take_all] at hp
   exact hp
end
end RO

end

section
namespace RO
open PySem L2
structure TabAt (n:Nat)(M:OM.Tb)(L:Addr)(r:Nat->Addr)(H:Hp):Prop where
 top:H L=some (.lst ((List.range n).map fun i=>V.ref (r i)))
 row:∀i,i < n->H (r i)=some (.lst ((List.range n).map fun j=>V.bl (M i j)))
 inj:∀i j,i < n->j < n->r i=r j->i=j
 ne:∀i,i < n->r i≠L
theorem wd {n x:Nat}(h:x < n):uF n (x:Int)=some x:=by
 unfold uF;rw[if_pos (by omega),if_pos (by omega)];simp
theorem AJ {α:Type}{xs:List α}{x:Nat}(h:x < xs.length):lF xs (x:Int)=xs[x]?:=by
 unfold lF;rw[wd h];rfl
theorem fU {f:Nat->V}{n x:Nat}(h:x < n):lF ((List.range n).map f) (x:Int)=some (f x):=by
 rw[AJ (by simpa using h),List.getElem?_map,List.getElem?_range h];rfl
theorem qO {f:Nat->V}{n x:Nat}(h:x < n):uF ((List.range n).map f).length (x:Int)=some x:=by
 rw[List.length_map,List.length_range];exact wd h
theorem yh {f:Nat->V}{n y:Nat}{v:V}:((List.range n).map f).set y v=(List.range n).map fun j=>if j=y then v else f j:=by
 apply List.ext_getElem?
 intro i
 by_cases hi:i < n
 ·by_cases e:y=i
  ·subst e;simp[List.getElem?_set,hi]
  ·have e':¬i=y:=fun z=>e z.symm
   simp[List.getElem?_set,hi,e,e']
 ·rw[List.getElem?_eq_none (by simp;omega),List.getElem?_eq_none (by simp;omega)]
section
variable {n:Nat}{M:OM.Tb}{L:Addr}{r:Nat->Addr}{H H':Hp}
theorem TabAt.set (T:TabAt n M L r H){x y:Nat}(hx:x < n):TabAt n (M.set x y) L r (upd H (r x) (.lst (((List.range n).map fun j=>V.bl (M x j)).set y (.bl true)))):=by
 refine⟨by rw[aB (T.ne x hx).symm];exact T.top,fun i hi=>?_,T.inj,T.ne⟩
 by_cases e:i=x
 ·subst e
  rw[aA,yh]
  refine congrArg _ (congrArg _ (List.map_congr_left fun j _=>?_))
  unfold OM.Tb.set
  by_cases c:j=y
  ·simp[c]
  ·simp[c]
 ·rw[aB (fun z=>e (T.inj i x hi hx z)),T.row i hi]
  refine congrArg _ (congrArg _ (List.map_congr_left fun j _=>?_))
  unfold OM.Tb.set;simp[e]
theorem TabAt.same (T:TabAt n M L r H)(s:aq H H'):TabAt n M L r H':=⟨s _ _ T.top,fun i hi=>s _ _ (T.row i hi),T.inj,T.ne⟩
end
theorem qW {n:Nat}{ps:List (Int×Int)}(w:OM.Wn n ps){p:Int×Int}(h:p∈ps):∃u v:Nat,p=((u:Int),(v:Int))/\u < n/\v < n:=by
 obtain⟨x,y⟩:=p
 have q:=w _ h
 simp only at q
 exact⟨x.toNat,y.toNat,by rw[Int.toNat_of_nonneg q.1.1,Int.toNat_of_nonneg q.2.1],by omega,by omega⟩
theorem iZ {M0 M:OM.Tb}{m:Nat}{D D':Nat->Nat->Prop}(P:OM.Phase M0 M m D)(h:∀a b,D a b↔D' a b):OM.Phase M0 M m D':=fun a b=>by rw[P a b,h a b]
theorem kE {l:List (Int×Int)}{u v a b:Nat}:(((a:Int),(b:Int))∈l\/(a=u/\b=v))↔((a:Int),(b:Int))∈l ++ [((u:Int),(v:Int))]:=by
 rw[List.mem_append,List.mem_singleton,Prod.mk.injEq]
 constructor
 ·rintro (h | ⟨h1,h2⟩)
  ·exact .inl h
  ·exact .inr ⟨by omega,by omega⟩
 ·rintro (h | ⟨h1,h2⟩)
  ·exact .inl h
  ·exact .inr ⟨by omega,by omega⟩
theorem BU {M:OM.Tb}{u v a b:Nat}:M.set u v a b=true↔M a b=true\/(a=u/\b=v):=by
 unfold OM.Tb.set
 by_cases c:a=u/\b=v
 ·simp[c]
 ·rw[if_neg c];exact⟨.inl,fun h=>h.resolve_right c⟩
theorem Gw (n:Nat)(x:V):(List.replicate n [x]).flatten=(List.range n).map fun _=>x:=by
 rw[List.flatten_replicate_singleton,List.map_const',List.length_range]
section
variable {P:Program}{w:World}{K:PySem.W.Frag}{mg:Str->Option Value}{base:Heap}
def A0 (K:PySem.W.Frag):Sp:=fun vs H Q _=>∃(n:Nat) (a:Addr) (xs:List V) (ps:List (Int×Int)),vs= [.int n,.ref a]/\1<=n/\n<=8/\(hZ K H a xs\/eh K H a xs)/\a8 K H xs ps/\OM.Wn n ps/\
 ∀H' t ws,aq H H'->H t=none->H' t=some (.tup ws)->a8 K H' ws (OM.gQ n (OM.Tr (OM.Mem ps)))->Q (.ref t) H'
theorem fR:aC ["many","pairs","corners","leads","a","b","middle"] ["many","pairs"] (ao l7):=⟨rfl,rfl,rfl,by decide +kernel,rfl,by decide +kernel,by decide +kernel⟩
theorem Gu:(["start","many"]:List Str).Nodup:=by decide +kernel
theorem Ei:(["a","b","leads"]:List Str).Nodup:=by decide +kernel
set_option maxHeartbeats 1000000 in
theorem ym {f g:Addr}{fd gd:FuncData}(F:Fn K mg "closed" l7 ["many","pairs"] f fd)(G:Fn K mg "every_pair" jJ ["many"] g gd)(GE:fW P w K mg base Ee 1 g gd ["many"] (xm K))(B:Bt mg):fW P w K mg base Ee 2 f fd ["many","pairs"] (A0 K):=by
 refine F.F.ok fR (fun vs H Q E h=>?_) (fun cdv A outer s H vs Q E hr h=>?_)
 ·obtain⟨n,a,xs,ps,rfl,_⟩:=h;rfl
 ·obtain⟨n,a,xs,ps,rfl,h1,h8,hq,hp,wn,k⟩:=h
  refine⟨_,ir (oE (i:=2) fR.nd rfl (Or.inl rfl) (nN GE hr rfl G.mg G.F.kp G.b .nil Gb (aZ (pv 0) bZ)))
   (ir (oE (i:=3) fR.nd rfl (Or.inr rfl) (rj (NB:=["start","many"]) (own:=1) (ixs:=[0]) rfl (mK (by kernel_rfl)) (kN rfl B.range (aZ (pv 0) bZ))
    (fun C ex s3 H3 pn=>c6 (i:=0) Gu rfl (Or.inl rfl) (hf:=Or.inr rfl)) (fun C ex s3 H3 pn=>sr) (fun C ex s3 H3 pn=>qu zY (Ax (aZ wV bZ)) (pv 1))))
   (ir (sL PassesOwn.never rfl (D5 (pv 1)) (mw rfl (cO (c6 (i:=4) fR.nd rfl (Or.inl rfl)) (cO (c6 (i:=5) fR.nd rfl (Or.inl rfl)) kL)))
    (iG (mr wV (sE (k9 gP (pv 3) (pv 4) (fun _ _=>rfl)) (pv 5) set_list))))
   (ir (sL PassesOwn.never rfl (kN rfl B.range (aZ (pv 0) bZ)) (c6 (i:=6) fR.nd rfl (Or.inl rfl))
    (iG (sL PassesOwn.never rfl (wx (pv 2)) (mw rfl (cO (c6 (i:=4) fR.nd rfl (Or.inl rfl)) (cO (c6 (i:=5) fR.nd rfl (Or.inl rfl)) kL)))
     (iG (CU (PW.pt (y2 (vL (k9 gP (k9 gP (pv 3) (pv 4) (fun _ _=>rfl)) (pv 6) (fun _ _=>rfl))) (wg (vL (k9 gP (k9 gP (pv 3) (pv 6) (fun _ _=>rfl)) (pv 5) (fun _ _=>rfl))))))
      (iG (mr wV (sE (k9 gP (pv 3) (pv 4) (fun _ _=>rfl)) (pv 5) set_list))) xg)))))
   (iG (mC (jk bL rfl B.tuple (by decide +kernel) (aZ (rj (NB:=["a","b","leads"]) (own:=2) (ixs:=[3]) rfl (mK (by kernel_rfl)) (wx (pv 2))
    (fun C ex s3 H3 pn=>DK K 0 1 Ei rfl rfl rfl rfl rfl rfl)
    (fun C ex s3 H3 pn=>xi (vL (k9 (IP K) (k9 (IP K) (pv 2) (pv 0) (fun _ _=>rfl)) (pv 1) (fun _ _=>rfl)))) (fun C ex s3 H3 pn=>uZ (aZ (pv 0) (aZ (pv 1) bZ)))) bZ))))))),?_⟩
  have hn:=IM h8
  have hn0:(0:Int)<=(n:Int):=by omega
  refine⟨_,rfl,n,rfl,h1,h8,fun H1 c ws s1 hc0 hc hw=>?_⟩
  have hwl:ws.length=n * n:=by rw[hw.len,h9]
  have gw:OM.Wn n (OM.bE n):=fun p hp=>OM.bg.mp hp
  refine vX ?_
  refine⟨_,rfl,n,rfl,by omega,by omega,fun D hD=>?_⟩
  rw[Int.toNat_natCast]
  refine tw (fun i σ' H'=>(∃v,σ'= [v,some (.int n)])/\aq H1 H'/\∃r:Nat->Addr,H' D=some (.lst ((List.range i).map fun k=>V.ref (r k)))/\
   (∀k,k < i->H' (r k)=some (.lst ((List.range n).map fun _=>V.bl false))/\H1 (r k)=none/\r k≠D)/\∀j k,j < i->k < i->r j=r k->j=k)
   ?_ ?_ ?_
  ·exact⟨⟨none,rfl⟩,(aq.refl H1).put hD,fun _=>0,aA,fun k hk=>absurd hk (Nat.not_lt_zero _),fun j k hj=>absurd hj (Nat.not_lt_zero _)⟩
  ·rintro i σ' H' hi ⟨⟨v,rfl⟩,s2,r,hr0,hr1,hr2⟩
   refine tV ⟨by show 1<=sizeLine;rw[sizeLine_eq];omega,fun p hp0=>⟨_,rfl,p,n,[.bl false],rfl,rfl,aA,by omega,by omega,by show 1 * (n:Int).toNat<=sizeLine;rw[sizeLine_eq];omega,fun q hq0=>?_⟩⟩
   have hqp:q≠p:=by intro e;subst e;rw[aA] at hq0;cases hq0
   have hq1:H' q=none:=by rw[aB hqp] at hq0;exact hq0
   have hDp:D≠p:=aI hr0 hp0
   have hDq:D≠q:=aI hr0 hq1
   rw[Int.toNat_natCast,Gw]
   refine⟨_,by rw[aB hDq,aB hDp];exact hr0,by rw[List.length_map,List.length_range,sizeLine_eq];omega,⟨_,rfl⟩,((s2.put (s2.free hp0)).put (s2.free hq1)).put hD,fun k=>if k=i then q else r k,?_,fun k hk=>?_,fun j k hj hk e=>?_⟩
   ·have e:(List.range i).map (fun k=>V.ref (r k))=(List.range i).map (fun k=>V.ref (if k=i then q else r k)):=List.map_congr_left fun k hk=>by
     have:=List.mem_range.mp hk
     rw[if_neg (by omega)]
    rw[aA,List.range_succ,List.map_append,e]
    simp
   ·dsimp only
    by_cases e:k=i
    ·rw[if_pos e]
     exact⟨by rw[aB hDq.symm,aA],s2.free hq1,hDq.symm⟩
    ·rw[if_neg e]
     obtain⟨a1,a2,a3⟩:=hr1 k (by omega)
     exact⟨by rw[aB a3,aB (aI a1 hq1),aB (aI a1 hp0)];exact a1,a2,a3⟩
   ·dsimp only at e
    by_cases ej:j=i
    ·by_cases ek:k=i
     ·omega
     ·rw[if_pos ej,if_neg ek] at e
      exact absurd e.symm (aI (hr1 k (by omega)).1 hq1)
    ·by_cases ek:k=i
     ·rw[if_neg ej,if_pos ek] at e
      exact absurd e (aI (hr1 j (by omega)).1 hq1)
     ·rw[if_neg ej,if_neg ek] at e
      exact hr2 j k (by omega) (by omega) e
  rintro σ2 H2 ⟨_,s2,r,hr0,hr1,hr2⟩
  refine⟨⟨_,hr0⟩,?_⟩
  have sep:∀i,i < n->H1 (r i)=none:=fun i hi=>(hr1 i hi).2.1
  have T0:TabAt n (fun _ _=>false) D r H2:=⟨hr0,fun i hi=>(hr1 i hi).1,hr2,fun i hi=>(hr1 i hi).2.2⟩
  refine⟨_,rfl,a,xs,rfl,B9 (H1:=H1) (Bc s1 hq) (fun i σ' H'=>(∃x y,σ'= [some (.int n),some (.ref a),some (.ref c),some (.ref D),x,y,none])/\aq H1 H'/\∃M,TabAt n M D r H'/\∀u v:Nat,M u v=true↔((u:Int),(v:Int))∈ps.take i)
   ⟨⟨none,none,rfl⟩,s2,_,T0,fun u v=>by simp⟩ (fun i σ' H' q=>q.2.1) ?_ ?_⟩
  ·rintro i x σ' H' hx ⟨⟨_,_,rfl⟩,s3,M,T,hM⟩
   obtain⟨p,hpi,b,rfl,hb⟩:=(hp.same (s1.trans s3)).at hx
   obtain⟨u,v,rfl,hu,hv⟩:=qW wn (List.mem_of_getElem? hpi)
   refine zV hb ?_
   refine⟨_,rfl,_,rfl,D,_,u,_,rfl,rfl,.inl (.inl T.top),fU hu,_,rfl,r u,_,v,v,rfl,rfl,T.row u hu,qO hv,⟨_,_,rfl⟩,s3.put (sep u hu),_,T.set hu,fun x y=>?_⟩
   rw[take_snoc hpi,<-kE,BU,hM]
  rintro σ3 H3 ⟨⟨x3,y3,rfl⟩,s3,M3,T3,hM3⟩
  rw[hp.len,take_all] at hM3
  refine⟨_,rfl,n,rfl,by omega,by omega,?_⟩
  rw[Int.toNat_natCast]
  refine xU (fun m σ' H'=>(∃x y z,σ'= [some (.int n),some (.ref a),some (.ref c),some (.ref D),x,y,z])/\aq H1 H'/\∃M,TabAt n M D r H'/\OM.Tab n ps M/\OM.CO M m)
   ⟨⟨_,_,_,rfl⟩,s3,M3,T3,⟨fun a b h=>by have:=wn _ ((hM3 a b).mp h);simp only at this;omega,fun a b h=>(hM3 a b).mpr h,fun a b h=>.one ((hM3 a b).mp h)⟩,fun k a b hk=>absurd hk (Nat.not_lt_zero _)⟩ ?_ ?_
  ·rintro m σ' H' hm ⟨⟨_,_,_,rfl⟩,s4,M,T,TT,Th⟩
   rw[Int.zero_add]
   refine⟨_,rfl,c,rfl,⟨ws,.inl (.inl (s4 _ _ hc))⟩,tQ (xs:=ws) (fun i σ' H'=>(∃x y,σ'= [some (.int n),some (.ref a),some (.ref c),some (.ref D),x,y,some (.int m)])/\aq H1 H'/\∃M',TabAt n M' D r H'/\OM.Phase M M' m fun u v=>((u:Int),(v:Int))∈(OM.bE n).take i)
    ⟨⟨_,_,rfl⟩,s4,M,T,iZ (OM.Phase.start M m) fun a b=>by simp⟩ (fun i σ' H' _ q=>.inl (.inl (q.2.1 _ _ hc))) ?_ ?_⟩
   ·rintro i x σ' H' hx ⟨⟨_,_,rfl⟩,s5,M',T',Ph⟩
    obtain⟨p,hpi,b,rfl,hb⟩:=(hw.same s5).at hx
    obtain⟨u,v,rfl,hu,hv⟩:=qW gw (List.mem_of_getElem? hpi)
    refine zV hb ?_
    have st:=Ph.step u v
    refine⟨_,rfl,_,rfl,D,_,u,_,rfl,rfl,.inl (.inl T'.top),fU hu,_,rfl,r u,_,m,_,rfl,rfl,.inl (.inl (T'.row u hu)),fU hm,_,rfl,?_⟩
    by_cases c1:M' u m=true
    ·refine HG c1 ?_
     refine⟨_,rfl,_,rfl,D,_,m,_,rfl,rfl,.inl (.inl T'.top),fU hm,_,rfl,r m,_,v,_,rfl,rfl,.inl (.inl (T'.row m hm)),fU hv,_,rfl,?_⟩
     by_cases c2:M' m v=true
     ·refine HG c2 ?_
      rw[if_pos ⟨c1,c2⟩] at st
      refine⟨_,rfl,_,rfl,D,_,u,_,rfl,rfl,.inl (.inl T'.top),fU hu,_,rfl,r u,_,v,v,rfl,rfl,T'.row u hu,qO hv,⟨_,_,rfl⟩,s5.put (sep u hu),_,T'.set hu,iZ st fun a b=>?_⟩
      rw[take_snoc hpi];exact kE
     ·refine Hs c2 ?_
      rw[if_neg fun z=>c2 z.2] at st
      refine⟨⟨_,_,rfl⟩,s5,_,T',iZ st fun a b=>?_⟩
      rw[take_snoc hpi];exact kE
    ·refine Hs c1 ?_
     rw[if_neg fun z=>c1 z.1] at st
     refine rJ ⟨⟨_,_,rfl⟩,s5,_,T',iZ st fun a b=>?_⟩
     rw[take_snoc hpi];exact kE
   ·rintro σ' H' ⟨⟨_,_,rfl⟩,s5,M',T',Ph⟩
    rw[hw.len,take_all] at Ph
    have dn:=Ph.done (n:=n) (fun a b ha hb=>OM.bg.mpr ⟨⟨by simp,by simp;omega⟩,by simp,by simp;omega⟩) TT.inn Th
    exact⟨⟨_,_,_,rfl⟩,s5,M',T',TT.phase Ph,dn.1⟩
  rintro σ4 H4 ⟨⟨x4,y4,z4,rfl⟩,s4,M,T,TT,Th⟩
  refine vX ⟨_,rfl,c,rfl,⟨ws,.inl (.inl (s4 _ _ hc))⟩,fun D' hD'=>Bz (xs:=ws) (fun i σ' H'=>(∃x y,σ'= [x,y,some (.ref D)])/\aq H4 H'/\∃vs,H' D'=some (.lst vs)/\a8 K H' vs (((OM.bE n).take i).filter fun p=>M p.1.toNat p.2.toNat))
   ⟨⟨_,_,rfl⟩,(aq.refl H4).put hD',[],aA,.nil⟩ (fun i σ' H' _ q=>.inl (.inl (q.2.1 _ _ (s4 _ _ hc)))) ?_ ?_⟩
  ·rintro i x σ' H' hx ⟨⟨_,_,rfl⟩,s5,vs,hv,hpv⟩
   obtain⟨p,hpi,b,rfl,hb⟩:=(hw.same (s4.trans s5)).at hx
   obtain⟨u,v,rfl,hu,hv'⟩:=qW gw (List.mem_of_getElem? hpi)
   refine zV hb ?_
   have T':=T.same s5
   refine⟨_,rfl,_,rfl,D,_,u,_,rfl,rfl,.inl (.inl T'.top),fU hu,_,rfl,r u,_,v,_,rfl,rfl,.inl (.inl (T'.row u hu)),fU hv',_,rfl,?_⟩
   by_cases c1:M u v=true
   ·refine HG c1 ?_
    refine⟨_,rfl,_,rfl,by show 2<=sizeLine;rw[sizeLine_eq];omega,fun p hp0=>?_⟩
    have hpD:D'≠p:=aI hv hp0
    refine⟨vs,by rw[aB hpD];exact hv,?_,⟨_,_,rfl⟩,(s5.put (s5.free hp0)).put hD',_,aA,?_⟩
    ·rw[hpv.len]
     refine Nat.lt_of_le_of_lt (List.length_filter_le ..) ?_
     rw[List.length_take,h9,sizeLine_eq];omega
    ·rw[take_snoc hpi,List.filter_append,List.filter_cons_of_pos (by simpa using c1),List.filter_nil]
     have g1:hR H' (upd H' p (.tup [.int u,.int v])):=hR.new hp0
     have g2:∀o,hR (upd H' p (.tup [.int u,.int v])) (upd (upd H' p (.tup [.int u,.int v])) D' o):=fun o=>hR.list (by rw[aB hpD];exact hv)
     refine a8.snoc ?_ (hpv.grow (g1.trans (g2 _)))
     exact eh.grow (.inl (.inl aA)) (g2 _)
   ·refine Hs c1 ?_
    refine⟨⟨_,_,rfl⟩,s5,vs,hv,?_⟩
    rw[take_snoc hpi,List.filter_append,List.filter_cons_of_neg (by simpa using c1),List.filter_nil,List.append_nil]
    exact hpv
  ·rintro σ' H' ⟨_,s5,vs,hv,hpv⟩
   rw[hw.len,take_all] at hpv
   refine⟨⟨_,hv⟩,D',vs,rfl,.inl ⟨.inl (.inl hv),fun t ht=>?_⟩⟩
   have sA:aq H H':=(s1.trans s4).trans s5
   refine k _ t vs (sA.put (sA.free ht)) (sA.free ht) aA ?_
   have e:((OM.bE n).filter fun p=>M p.1.toNat p.2.toNat)=OM.gQ n (OM.Tr (OM.Mem ps)):=by
    unfold OM.gQ
    refine List.filter_congr fun p hp=>?_
    obtain⟨u,v,rfl,hu,hv⟩:=qW gw hp
    have:=TT.all wn Th u v
    simp only[Int.toNat_natCast]
    rw[Bool.eq_iff_iff,this]
    simp
   rw[e] at hpv
   exact hpv.grow (hR.new ht)
end
end RO

end

section
namespace RO
open PySem L2 RM
section
variable {P:Program}{w:World}{K:PySem.W.Frag}{mg:Str->Option Value}{base:Heap}{ca:Str->Addr}
theorem I0 {k:Nat}{f:Addr}{fd:FuncData}{ps:List Str}{sp:Sp}(F:fW P w K mg base Ee k f fd ps sp):fW P w K mg base (nK P w) k f fd ps sp:=
 ⟨F.len,fun A outer s H args us vs Q E hr he hb hv hs=>codeAny_mono (F.run A outer s H args us vs Q E hr he hb hv hs) fun r s' h=>by
  cases r with
  |ok x=>cases x <;> exact h
  |error e=>exact h.elim⟩
theorem vb {G H:Hp}(s:aq G H){ws:List V}{ps:List Pr}(h:a8 K H ws ps):a8 K (lL G H) ws ps:=Paired.mapP h fun v p ⟨a,e,q⟩=>⟨a,e,ot s q⟩
theorem oX {ds:List D}(h:dm ds≠.bad):∃(n:Nat) (d:D) (ps:List Pr),ds= [.int n,d]/\lB d=some (ps.map aY)/\1<=n/\n<=8/\OM.Wn n ps/\dm ds=.ok (.tuple ((OM.gQ n (OM.Tr (OM.Mem ps))).map aY)) false:=by
 unfold dm at h
 split at h
 ·rename_i n d
  cases q:lB d with
  |none=>rw[q] at h;exact absurd rfl h
  |some es=>
   rw[q] at h
   dsimp only at h
   cases q2:il es with
   |none=>rw[q2] at h;exact absurd rfl h
   |some ps=>
    rw[q2] at h
    dsimp only at h
    by_cases c:1<=n/\n<=8/\OM.Wn n.toNat ps
    ·have e:((n.toNat:Nat):Int)=n:=by omega
     refine⟨n.toNat,d,ps,by rw[e],by rw[q,kA q2],by omega,by omega,c.2.2,?_⟩
     unfold dm
     dsimp only
     rw[q]
     dsimp only
     rw[q2]
     dsimp only
     rw[if_pos c]
    ·rw[if_neg c] at h;exact absurd rfl h
 ·exact absurd rfl h
theorem vh {f g:Addr}{fd gd:FuncData}(F:iM K mg "closed" l7 ["many","pairs"] f fd)(E:iM K mg "every_pair" jJ ["many"] g gd)(B:i8 mg):b6 P w K mg base ca "closed" ["many","pairs"] 3 dm:=by
 refine⟨⟨f,fd,F.mg,F.F.kp,F.b,((I0 (ym F E (AW E B) B)).mono (by decide)).imp ?_⟩,fun ds h=>?_⟩
 ·rintro vs H Q X ⟨G,ds,s,hl,r,h⟩
  have hb:dm ds≠.bad:=fun z=>by rw[z] at h;exact h
  obtain⟨n,d,ps,rfl,hd,h1,h8,wn,e⟩:=oX hb
  rw[e] at h
  cases r with
  |cons r1 r=>
   cases r with
   |cons r2 r=>
    cases r
    cases r1
    obtain⟨a,xs,rfl,hq,hr⟩:=(lb.seq (B:=none) (G:=G) (H:=G) (.inl r2) hd (aq.refl _))
    refine⟨n,a,xs,ps,rfl,h1,h8,hq.elim (fun q=>.inl (s.seq q)) (fun q=>.inr (q.grow s.grow)),(hr.pairs).grow s.grow,wn,fun H' t ws hh ht ht' hp=>?_⟩
    have s2:=s.trans hh
    refine h (.ref t) (lL G H') H' hh qi (sP s2) (fun b m hb=>by rw[wL hh m];exact hb) ?_
    exact .tup (ot s2 (.inl (.inl ht'))) (a8.rps (vb s2 hp))
 ·obtain⟨n,d,ps,rfl,_⟩:=oX h
  rfl
end
end RO

end

section
namespace HD
open PySem PySem.W
noncomputable abbrev zF:=@PySem.W.Fast.tw10156331382660048174
noncomputable abbrev Ek:=@PySem.W.Fast.tw11892475500146522536
noncomputable abbrev IC:=@PySem.W.Fast.tw6613529449190102663
noncomputable abbrev EV:=@PySem.W.Fast.tw14364793385576792824
noncomputable abbrev Dg:=@PySem.W.Fast.tw17154629097778926822
noncomputable abbrev zq:=@PySem.W.Fast.tw12822647523644345616
noncomputable def Ak (p:Program):Thread:=
 ⟨do
  let code <-Dg p.main
  let frame <-zq code mainNs mainNs
  let _ <-run (.body (behindTheImports p) {scope:=p.main.scope,locals:=mainNs,globals:=mainNs,cells:=[],code,frame:=some frame})
  ret .none,
  .builtin "claim.caller" {},default,[]⟩
theorem yQ (p:Program):topStub p=Ak p:=by
 unfold topStub Ak Dg zq
 rw[<-PySem.W.Fast.te17154629097778926822,<-PySem.W.Fast.te12822647523644345616]
noncomputable def nQ (p:Program)(w:World)(n₀:Nat)(ann:Option Value):Nat->SharedT->Thread->Option SharedT
 | 0,_,_=>none
 |n + 1,s,t=>match through t with
  |true=>some s
  |false=>match IC n₀ ann t with
   |false=>none
   |true=>match zF (Ek EV) p w s t with
    |some (s',t')=>nQ p w n₀ ann n s' t'
    |none=>none
theorem ql {p:Program}{w:World}{n₀:Nat}{ann:Option Value}:∀{n:Nat} {s s':SharedT} {t:Thread},nQ p w n₀ ann n s t=some s'->topRun treeTable p w n₀ ann n s.abs t=some s'.abs
 | 0,_,_,_,h=>by cases h
 |n + 1,s,s',t,h=>by
  unfold nQ at h
  unfold topRun
  cases ht:through t with
  |true=>rw[ht] at h;cases h;rfl
  |false=>
   rw[ht] at h
   have hq:IC n₀ ann t=stepOk n₀ ann t:=by unfold IC;rw[<-PySem.W.Fast.te6613529449190102663]
   dsimp only at h
   rw[hq] at h
   cases hk:stepOk n₀ ann t with
   |false=>rw[hk] at h;cases h
   |true=>
    rw[hk] at h
    have hq:zF (Ek EV) p w s t=stepT (denote treeTable) p w s t:=by unfold zF Ek EV;rw[<-PySem.W.Fast.te10156331382660048174,<-PySem.W.Fast.te11892475500146522536,<-PySem.W.Fast.te14364793385576792824]
    dsimp only at h
    rw[hq] at h
    cases hs:stepT (denote treeTable) p w s t with
    |none=>rw[hs] at h;cases h
    |some r=>obtain⟨s₂,t₂⟩:=r;rw[hs] at h;rw[stepT_spec hs];exact ql h
def treeOf (l:List Obj):BT:=(l.foldl (fun (x:BT×Nat) o=>(x.1.ins x.2 o,x.2 + 1)) (.nil,0)).1
noncomputable def zD (P:Params):BT:=treeOf (boot_heap P).objs.toList
abbrev uE:Nat:=11
abbrev zW:Life:={}
theorem boot_abs (P:Params):absHeap (zD P) uE zW=boot_heap P:=by kernel_rfl
theorem yF (w:World):((boot_heap w.params).isNs mainGlobals && (Array.mk ([]:List GenState)).size == 0,(boot_heap w.params).objs.size,(boot_heap w.params).nsMap mainGlobals "__annotations__")=(true,uE,some (.ref 6)):=by kernel_rfl
noncomputable def Ag (w:World)(os:OsState):SharedT:=⟨zD w.params,uE,zW,Array.mk [],boot_drawn,boot_toks,os⟩
noncomputable def C3 (p:Program)(w:World)(s:Shared):Bool:=staticsOk (importedModules p.main.body) (boot_heap w.params) s.heap && namesBound p s.heap && gensDone s && laidKept (boot_heap w.params) s.heap
theorem B7 {p q:Program}{loose:List Str}{Xt:Shared->Bool}{α:Type}{Yf:Shared->α}{Ya:World->α}{N:Nat}{g0:Bool}
  (e:opening p=plainProg p.main.scope.names) (hN:Nat.ble 600 N=true) (f:∀s,fenceModules? p s=some s)
  (run:∀(w:World) (os:OsState),(nQ p w uE (some (.ref 6)) N (Ag w os) (Ak p)).map (fun s=>(C3 p w s.abs,openSeen q loose (importedModules p.main.body) Xt g0 s.abs,Yf s.abs))=some (true,openGood q loose,Ya w)):LeftO p q loose Xt Yf Ya N g0:=fun w=>by
 obtain⟨⟨h,gs,d,k,os⟩,e,e'⟩:=Option.map_eq_some_iff.mp (boot_open e hN f w)
 obtain⟨rfl,rfl,rfl,rfl⟩:h=boot_heap w.params/\gs=Array.mk []/\d=boot_drawn/\k=boot_toks:=by simpa using e'
 obtain⟨z1,z2,z3⟩:_/\_/\_:=by simpa only [Prod.mk.injEq] using yF w
 obtain⟨s',r,ls⟩:=Option.map_eq_some_iff.mp (run w os)
 obtain⟨l1,l2,l3⟩:_/\_/\_:=by simpa only [Prod.mk.injEq] using ls
 have r:=ql r
 have ha:(Ag w os).abs=⟨boot_heap w.params,Array.mk [],boot_drawn,boot_toks,os⟩:=by
  show Shared.mk (absHeap (zD w.params) uE zW) _ _ _ _=_
  rw[boot_abs]
  rfl
 rw[ha,<-yQ] at r
 have t:topFrom treeTable p w N ⟨boot_heap w.params,Array.mk [],boot_drawn,boot_toks,os⟩=some s'.abs:=by
  unfold topFrom
  dsimp only
  rw[z1,z2,z3,r]
  show (match C3 p w s'.abs with |true=>_ |false=>_)=_
  rw[l1]
 unfold openEnds
 rw[e]
 show (topFrom treeTable p w N _).map _=_
 rw[t]
 exact congrArg some (Prod.ext l2 l3)
end HD

end

section
namespace RO
open PySem L2 RM
def wm (K:PySem.W.Frag):Sp:=fun vs H Q _=>∃(a:Addr) (ns:List Int),vs= [.ref a]/\hZ K H a (ns.map V.int)/\∀H',aq H H'->Q (.bl true) H'
theorem E1 {K:PySem.W.Frag}{ca:Str->Addr}(vs:List V)(H:Hp)(Q:VK)(E:XK)(h:wm K vs H Q E):Bb K ca 1 DM vs H Q E:=by
 obtain⟨a,ns,rfl,hS,q⟩:=h
 refine⟨H,[b7 ns],aq.refl _,rfl,.cons (.scr hS) .nil,?_⟩
 rw[Fl]
 intro v G' H' s1 s2 s3 s4 fv
 have fv:Rp K G' v (.bool true):=fv
 cases fv
 exact q H' s1
theorem vH:aS "is_whole" RQ.jA ["thing"]:=fun _ _ _ _ _ _=>zI fun _=>rfl
theorem vp:aS "is_below" RQ.jM ["thing","bound"]:=fun _ _ _ _ _ _=>ln2 fun _ _=>rfl
theorem xB:aS "is_many" RQ.kM ["thing"]:=fun _ _ _ _ _ _=>zI fun _=>rfl
theorem yb:aS "is_pair" RQ.kI ["thing","many"]:=fun _ _ _ _ _ _=>ln2 fun _ _=>rfl
theorem xS:aS "is_line" RQ.kB ["thing","many"]:=fun _ _ _ _ _ _=>ln2 fun _ _=>rfl
theorem rB:aS "every_pair" RQ.eN ["many"]:=fun _ _ _ _ _ _=>zI fun _=>rfl
theorem zE:aS "closed" l7 ["many","pairs"]:=fun _ _ _ _ _ _=>ln2 fun _ _=>rfl
theorem uM:aS "has_ring" RQ.jU ["pairs"]:=fun _ _ _ _ _ _=>zI fun _=>rfl
theorem vN:aS "is_order" RQ.jC ["thing"]:=fun _ _ _ _ _ _=>zI fun _=>rfl
theorem rl:aS "need_order" RQ.gO ["thing"]:=fun _ _ _ _ _ _=>zI fun _=>rfl
theorem jR:aS "need_order_and_thing" RQ.bW ["order","thing"]:=fun _ _ _ _ _ _=>ln2 fun _ _=>rfl
theorem yX:aS "places" RQ.lQ ["row"]:=fun _ _ _ _ _ _=>zI fun _=>rfl
theorem p5:aS "keeps_order" RQ.fI ["thing","order"]:=fun _ _ _ _ _ _=>ln2 fun _ _=>rfl
theorem o6:aS "stands_ahead" RQ.e8 ["tables","a","b"]:=fun _ _ _ _ _ _=>FT fun _ _ _=>rfl
theorem oG:aS "shared_pairs" RQ.eG ["many","rows"]:=fun _ _ _ _ _ _=>ln2 fun _ _=>rfl
theorem vR:aS "are_rows" RQ.jH ["thing","order"]:=fun _ _ _ _ _ _=>ln2 fun _ _=>rfl
theorem DY:aS "tell" RQ.rV ["thing","order"]:=fun _ _ _ _ _ _=>ln2 fun _ _=>rfl
theorem tu:aS "need_both" RQ.iK ["one","other"]:=fun _ _ _ _ _ _=>ln2 fun _ _=>rfl
theorem ud:aS "need_room" RQ.iY ["many"]:=fun _ _ _ _ _ _=>zI fun _=>rfl
theorem p4:aS "need_joined" RQ.fF ["one","other"]:=fun _ _ _ _ _ _=>ln2 fun _ _=>rfl
theorem nv:aS "need_replaced" RQ.dI ["order","thing","other"]:=fun _ _ _ _ _ _=>FT fun _ _ _=>rfl
theorem Bi:aS "moved" RQ.nR ["old","thing","step"]:=fun _ _ _ _ _ _=>FT fun _ _ _=>rfl
theorem ui:aS "need_rows" RQ.iV ["one","other","rows","others"]:=fun _ _ _ _ _ _=>Im fun _ _ _ _=>rfl
theorem yY:aS "row_at" RQ.lO ["rows","at"]:=fun _ _ _ _ _ _=>ln2 fun _ _=>rfl
theorem rF:aS "raised_row" RQ.gR ["row","step"]:=fun _ _ _ _ _ _=>ln2 fun _ _=>rfl
theorem pX:aS "rows_behind" RQ.fP ["one","other","rows","others"]:=fun _ _ _ _ _ _=>Im fun _ _ _ _=>rfl
theorem p6:aS "rows_beside" RQ.fJ ["one","other","rows","others"]:=fun _ _ _ _ _ _=>Im fun _ _ _ _=>rfl
theorem pj:aS "row_replaced" RQ.eM ["row","thing","inner"]:=fun _ _ _ _ _ _=>FT fun _ _ _=>rfl
theorem nt:aS "rows_replaced" RQ.dJ ["order","thing","other","rows","others"]:=fun _ _ _ _ _ _=>IZ fun _ _ _ _ _=>rfl
theorem vK:aS "_law_box" RQ.jK ["script","k"]:=fun _ _ _ _ _ _=>ln2 fun _ _=>rfl
theorem uD:aS "_law_take" RQ.iH ["box","many"]:=fun _ _ _ _ _ _=>ln2 fun _ _=>rfl
theorem rY:aS "_law_whole" RQ.gN ["thing"]:=fun _ _ _ _ _ _=>zI fun _=>rfl
theorem nI:aS "_law_shuffled" RQ.dG ["box","some"]:=fun _ _ _ _ _ _=>ln2 fun _ _=>rfl
theorem tf:aS "_law_told" RQ.iN ["many","rows"]:=fun _ _ _ _ _ _=>ln2 fun _ _=>rfl
theorem tX:aS "_law_tell" RQ.iF ["rows","order"]:=fun _ _ _ _ _ _=>ln2 fun _ _=>rfl
theorem pH:aS "_law_beside" RQ.fC ["one","other"]:=fun _ _ _ _ _ _=>ln2 fun _ _=>rfl
theorem p0:aS "_law_behind" RQ.fO ["one","other"]:=fun _ _ _ _ _ _=>ln2 fun _ _=>rfl
theorem nA:aS "_law_replaced" RQ.dO ["order","thing","other"]:=fun _ _ _ _ _ _=>FT fun _ _ _=>rfl
theorem rU:aS "_law_drawn" RQ.gH ["box"]:=fun _ _ _ _ _ _=>zI fun _=>rfl
theorem all_mk {l:PySem.W.OpenLaw}{w:World}{K:PySem.W.Frag}{h:Heap}{mg:Str->Option Value}{fa f40 x0 x1 x2 x3:Addr}(X:K.In h)(G:h.Ns mainGlobals mg)(hfa:mg "law"=some (.ref fa))
  {od40 an40:Option Addr} {sl40:Array (Option Value)} {oc40 kV40 dc40 pm40 cd40 ct40:Value} {tMOST_THINGS:Tok}
  (F1:Fo K mg "is_whole" RQ.jA ["thing"])
  (F2:Fo K mg "is_below" RQ.jM ["thing","bound"])
  (F3:Fo K mg "is_many" RQ.kM ["thing"])
  (F4:Fo K mg "is_pair" RQ.kI ["thing","many"])
  (F5:Fo K mg "is_line" RQ.kB ["thing","many"])
  (F6:Fo K mg "every_pair" RQ.eN ["many"])
  (F7:Fo K mg "closed" l7 ["many","pairs"])
  (F8:Fo K mg "has_ring" RQ.jU ["pairs"])
  (F9:Fo K mg "is_order" RQ.jC ["thing"])
  (F10:Fo K mg "need_order" RQ.gO ["thing"])
  (F11:Fo K mg "need_order_and_thing" RQ.bW ["order","thing"])
  (F12:Fo K mg "places" RQ.lQ ["row"])
  (F13:Fo K mg "keeps_order" RQ.fI ["thing","order"])
  (F14:Fo K mg "stands_ahead" RQ.e8 ["tables","a","b"])
  (F15:Fo K mg "shared_pairs" RQ.eG ["many","rows"])
  (F16:Fo K mg "are_rows" RQ.jH ["thing","order"])
  (F17:Fo K mg "tell" RQ.rV ["thing","order"])
  (F18:Fo K mg "need_both" RQ.iK ["one","other"])
  (F19:Fo K mg "need_room" RQ.iY ["many"])
  (F20:Fo K mg "need_joined" RQ.fF ["one","other"])
  (F21:Fo K mg "need_replaced" RQ.dI ["order","thing","other"])
  (F22:Fo K mg "moved" RQ.nR ["old","thing","step"])
  (F23:Fo K mg "need_rows" RQ.iV ["one","other","rows","others"])
  (F24:Fo K mg "row_at" RQ.lO ["rows","at"])
  (F25:Fo K mg "raised_row" RQ.gR ["row","step"])
  (F26:Fo K mg "rows_behind" RQ.fP ["one","other","rows","others"])
  (F27:Fo K mg "rows_beside" RQ.fJ ["one","other","rows","others"])
  (F28:Fo K mg "row_replaced" RQ.eM ["row","thing","inner"])
  (F29:Fo K mg "rows_replaced" RQ.dJ ["order","thing","other","rows","others"])
  (F30:Fo K mg "_law_box" RQ.jK ["script","k"])
  (F31:Fo K mg "_law_take" RQ.iH ["box","many"])
  (F32:Fo K mg "_law_whole" RQ.gN ["thing"])
  (F33:Fo K mg "_law_shuffled" RQ.dG ["box","some"])
  (F34:Fo K mg "_law_told" RQ.iN ["many","rows"])
  (F35:Fo K mg "_law_tell" RQ.iF ["rows","order"])
  (F36:Fo K mg "_law_beside" RQ.fC ["one","other"])
  (F37:Fo K mg "_law_behind" RQ.fO ["one","other"])
  (F38:Fo K mg "_law_replaced" RQ.dO ["order","thing","other"])
  (F39:Fo K mg "_law_drawn" RQ.gH ["box"])
  (a40:PySem.W.nsIn K mainGlobals "law"=some (some (.ref f40))) (l40:K.lookup f40=some ⟨oc40,od40,.func (PySem.W.fnOf "law" "law" (iX RQ.kZ) (dM RQ.kZ) (ao RQ.kZ) .none kV40 dc40 pm40 an40 cd40 ct40),sl40⟩) (c40:PySem.W.codeIn K cd40 "law"=true) (k40:PySem.W.keepIn K (.ref f40)=true)
  (zB:Hw K=true)
  (yMOST_THINGS:PySem.W.nsIn K mainGlobals "MOST_THINGS"=some (some (.int 8 tMOST_THINGS)))
  (m0:PySem.W.nsIn K mainGlobals "NoOrder"=some (some (.ref x0)))
  (e0:PySem.W.excIn K x0 [.type "ValueError",.type "Exception",.type "BaseException",.type "object"] "ValueError.__new__"=true)
  (m1:PySem.W.nsIn K mainGlobals "NoRows"=some (some (.ref x1)))
  (e1:PySem.W.excIn K x1 [.type "ValueError",.type "Exception",.type "BaseException",.type "object"] "ValueError.__new__"=true)
  (m2:PySem.W.nsIn K mainGlobals "NoThing"=some (some (.ref x2)))
  (e2:PySem.W.excIn K x2 [.type "ValueError",.type "Exception",.type "BaseException",.type "object"] "ValueError.__new__"=true)
  (m3:PySem.W.nsIn K mainGlobals "TooMany"=some (some (.ref x3)))
  (e3:PySem.W.excIn K x3 [.type "ValueError",.type "Exception",.type "BaseException",.type "object"] "ValueError.__new__"=true)
  :∃fd:FuncData,(∀(s:Shared) (v:Value),BindsTo s fd ⟨[v],[]⟩ [("script",v)])/\∀base:Heap,K.In base->base.Ns mainGlobals mg->fW l.prog w K mg base (nK l.prog w) 9 fa fd ["script"] (wm K):=by
 have e:=hfa.symm.trans (PySem.W.mg_of X G a40)
 cases e
 have B:i8 mg:=Fu X G zB
 have cW:=PySem.W.mg_of X G yMOST_THINGS
 obtain⟨f1,d1,b5⟩:=F1.ex
 obtain⟨f2,d2,ba⟩:=F2.ex
 obtain⟨f3,d3,gY⟩:=F3.ex
 obtain⟨f4,d4,g7⟩:=F4.ex
 obtain⟨f5,d5,gX⟩:=F5.ex
 obtain⟨f6,d6,cN⟩:=F6.ex
 obtain⟨f7,d7,jq⟩:=F7.ex
 obtain⟨f8,d8,fu⟩:=F8.ex
 obtain⟨f9,d9,fB⟩:=F9.ex
 obtain⟨f10,d10,aL⟩:=F10.ex
 obtain⟨f11,d11,bc⟩:=F11.ex
 obtain⟨f12,d12,df⟩:=F12.ex
 obtain⟨f13,d13,cT⟩:=F13.ex
 obtain⟨f14,d14,cG⟩:=F14.ex
 obtain⟨f15,d15,cB⟩:=F15.ex
 obtain⟨f16,d16,fy⟩:=F16.ex
 obtain⟨f17,d17,lj⟩:=F17.ex
 obtain⟨f18,d18,bP⟩:=F18.ex
 obtain⟨f19,d19,bN⟩:=F19.ex
 obtain⟨f20,d20,bu⟩:=F20.ex
 obtain⟨f21,d21,b8⟩:=F21.ex
 obtain⟨f22,d22,kC⟩:=F22.ex
 obtain⟨f23,d23,a7⟩:=F23.ex
 obtain⟨f24,d24,bt⟩:=F24.ex
 obtain⟨f25,d25,aM⟩:=F25.ex
 obtain⟨f26,d26,cX⟩:=F26.ex
 obtain⟨f27,d27,cV⟩:=F27.ex
 obtain⟨f28,d28,cE⟩:=F28.ex
 obtain⟨f29,d29,cf⟩:=F29.ex
 obtain⟨f30,d30,fm⟩:=F30.ex
 obtain⟨f31,d31,aN⟩:=F31.ex
 obtain⟨f32,d32,dk⟩:=F32.ex
 obtain⟨f33,d33,b9⟩:=F33.ex
 obtain⟨f34,d34,bO⟩:=F34.ex
 obtain⟨f35,d35,cI⟩:=F35.ex
 obtain⟨f36,d36,bo⟩:=F36.ex
 obtain⟨f37,d37,c3⟩:=F37.ex
 obtain⟨f38,d38,cg⟩:=F38.ex
 obtain⟨f39,d39,cL⟩:=F39.ex
 have U40:=vV (st:=RQ.kZ) l40 c40 k40
 have FP:iM K mg "law" RQ.kZ ["script"] fa _:=⟨PySem.W.mg_of X G a40,U40,U40.binds (ps:=["script"]) fun _ _ _ _ _ _=>zI fun _=>rfl⟩
 obtain⟨ca,hca⟩:∃ca:Str->Addr,ca "NoOrder"=x0/\ca "NoRows"=x1/\ca "NoThing"=x2/\ca "TooMany"=x3:=⟨fun s=>if s="NoOrder" then x0 else if s="NoRows" then x1 else if s="NoThing" then x2 else if s="TooMany" then x3 else 0,by first |rfl |decide |simp,by first |rfl |decide |simp,by first |rfl |decide |simp,by first |rfl |decide |simp⟩
 have jv:Exc K mg ca "NoOrder":=⟨by rw[hca.1];exact PySem.W.mg_of X G m0,by rw[hca.1];exact e0⟩
 have fY:Exc K mg ca "NoRows":=⟨by rw[hca.2.1];exact PySem.W.mg_of X G m1,by rw[hca.2.1];exact e1⟩
 have jm:Exc K mg ca "NoThing":=⟨by rw[hca.2.2.1];exact PySem.W.mg_of X G m2,by rw[hca.2.2.1];exact e2⟩
 have jn:Exc K mg ca "TooMany":=⟨by rw[hca.2.2.2];exact PySem.W.mg_of X G m3,by rw[hca.2.2.2];exact e3⟩
 refine⟨PySem.W.fnOf "law" "law" (iX RQ.kZ) (dM RQ.kZ) (ao RQ.kZ) .none kV40 dc40 pm40 an40 cd40 ct40,fun s v=>.of_eq rfl,fun base _ _=>?_⟩
 have fw:=(RQ.rh (P:=l.prog) (w:=w) (base:=base) (ca:=ca) b5 B).imp wW
 have cw:=(RQ.rN (P:=l.prog) (w:=w) (base:=base) (ca:=ca) ba B fw).imp CF
 have mj:=(RQ.tJ (P:=l.prog) (w:=w) (base:=base) (ca:=ca) gY B fw cW).imp DE
 have mS:=(RQ.uj (P:=l.prog) (w:=w) (base:=base) (ca:=ca) g7 B cw).imp DB
 have mz:=RQ.uA (P:=l.prog) (w:=w) (base:=base) (ca:=ca) gX B cw
 have jN:=RQ.pD (P:=l.prog) (w:=w) (base:=base) (ca:=ca) cN B
 have ph:=vh (P:=l.prog) (w:=w) (base:=base) (ca:=ca) jq cN B
 have ly:=(RQ.si (P:=l.prog) (w:=w) (base:=base) (ca:=ca) fu B).imp DG
 have lg:=(RQ.qY (P:=l.prog) (w:=w) (base:=base) (ca:=ca) fB B mj mS ph ly).imp vM
 have bM:=(RQ.nZ (P:=l.prog) (w:=w) (base:=base) (ca:=ca) aL B lg jv).imp Br
 have cK:=RQ.jg (P:=l.prog) (w:=w) (base:=base) (ca:=ca) bc B bM cw jm
 have jw:=RQ.v3 (P:=l.prog) (w:=w) (base:=base) (ca:=ca) df B
 have i9:=RQ.nF (P:=l.prog) (w:=w) (base:=base) (ca:=ca) cT B mz jw
 have hW:=RQ.mE (P:=l.prog) (w:=w) (base:=base) (ca:=ca) cG B
 have iA:=RQ.mO (P:=l.prog) (w:=w) (base:=base) (ca:=ca) cB B jw jN hW
 have lq:=RQ.su (P:=l.prog) (w:=w) (base:=base) (ca:=ca) fy B i9
 have rW:=RQ.y7 (P:=l.prog) (w:=w) (base:=base) (ca:=ca) lj B bM lq iA
 have dS:=RQ.pJ (P:=l.prog) (w:=w) (base:=base) (ca:=ca) bP B bM
 have dU:=RQ.qd (P:=l.prog) (w:=w) (base:=base) (ca:=ca) bN B jn cW
 have cU:=RQ.nk (P:=l.prog) (w:=w) (base:=base) (ca:=ca) bu B dS dU
 have gn:=RQ.lH (P:=l.prog) (w:=w) (base:=base) (ca:=ca) b8 B dS cK dU
 have rH:=RQ.xD (P:=l.prog) (w:=w) (base:=base) (ca:=ca) kC B
 have cp:=RQ.pK (P:=l.prog) (w:=w) (base:=base) (ca:=ca) a7 B rW fY
 have cu:=RQ.vj (P:=l.prog) (w:=w) (base:=base) (ca:=ca) bt B
 have bK:=RQ.n9 (P:=l.prog) (w:=w) (base:=base) (ca:=ca) aM B
 have je:=RQ.nj (P:=l.prog) (w:=w) (base:=base) (ca:=ca) cX B cU cp cu bK
 have i4:=RQ.nG (P:=l.prog) (w:=w) (base:=base) (ca:=ca) cV B cU cp cu bK
 have ig:=RQ.mI (P:=l.prog) (w:=w) (base:=base) (ca:=ca) cE B rH bK
 have gp:=RQ.lN (P:=l.prog) (w:=w) (base:=base) (ca:=ca) cf B gn cp ig cu
 have lu:=RQ.rT (P:=l.prog) (w:=w) (base:=base) (ca:=ca) fm B
 have bD:=RQ.pU (P:=l.prog) (w:=w) (base:=base) aN B
 have jF:=RQ.oN (P:=l.prog) (w:=w) (base:=base) (ca:=ca) dk B
 have gz:=RQ.lJ (P:=l.prog) (w:=w) (base:=base) b9 B bD
 have dX:=RQ.pS (P:=l.prog) (w:=w) (base:=base) (ca:=ca) bO B
 have gj:=RQ.pR (P:=l.prog) (w:=w) (base:=base) (ca:=ca) cI B jF dX
 have cY:=RQ.ny (P:=l.prog) (w:=w) (base:=base) (ca:=ca) bo B
 have i3:=RQ.nH (P:=l.prog) (w:=w) (base:=base) (ca:=ca) c3 B cY
 have gm:=RQ.l5 (P:=l.prog) (w:=w) (base:=base) (ca:=ca) cg B
 have gF:=RQ.pd (P:=l.prog) (w:=w) (base:=base) (ca:=ca) cL B dX bD gz
 have Gr:=RQ.BH (P:=l.prog) (w:=w) (base:=base) (ca:=ca) FP B lu je gj i3 i4 cY gp gm gF bD
 exact fW.imp (sp:=Bb K ca 1 DM) Gr E1
theorem walk {l:PySem.W.OpenLaw}{q:Program}{loose:List Str}{XP:(Str->Option Value)->Heap->Prop}{YP:World->Heap->Prop}{d:DefRec}{K:Params->PySem.W.Frag}(hn:l.most=some 63)(hdf:d.params.defaults= [])(hi:PyProof.Rows.importsNone q=true)
  (hY:∀(w:World) (h:Heap),YP w h->(K w.params).In h)
  (F:∀(w:World) (mg:Str->Option Value) (fa:Addr) (h:Heap),(K w.params).In h->h.Ns mainGlobals mg->mg d.name=some (.ref fa)->
   ∃fd:FuncData,(∀(s:Shared) (u:Value),BindsTo s fd ⟨[u],[]⟩ [("script",u)])/\∀base:Heap,(K w.params).In base->base.Ns mainGlobals mg->fW l.prog w (K w.params) mg base (nK l.prog w) 9 fa fd ["script"] (wm (K w.params))) :
  PySem.W.WalkO q loose XP YP l.row.toRowW d [] (fun f vs=>PySem.call f vs):=
 L2.Cb (n:=63) (k:=9) (x:="script") (CX:=fun w=>nK l.prog w) (sp:=fun w=>wm (K w.params)) hn (by decide) hdf hi ⟨rfl,by decide,by decide,rfl⟩ hY F (fun _ _ a ns hl _ hS=>⟨a,ns,rfl,hS,fun _ _=>rfl⟩) fun _ _ _ _ _ z=>by
  obtain⟨_,_,_,_,_,_,_,_,_,z⟩:=z
  exact z
end RO
namespace HD
noncomputable def vw:PySem.Program:=PySem.W.view PySem.Challenge.pw_rowsorder_k63_rows_put_together [1,2,3,4,5,6,7,9,10,11,12,13,15,16,17,18,19,21,22,23,24,25,26,28,29,30,31,32,33,34,35,36,37,38,39,41,42,43,44,45,46,47,48,49,50,51]
theorem GG:PySem.Challenge.rw_rowsorder_k63_rows_put_together.wellSaid=true:=by kernel_rfl
end HD
local macro_rules | `(tactic|o_head $H)=>`(tactic| (
 refine PySem.W.holds_open (q:=HD.vw) (loose:=[]) (Xt:=fun s=>PySem.W.xlAt HD.vw [] s && PySem.W.recOk (PySem.W.RowW.records _) s) (XP:=PySem.W.XL HD.vw []) (Yf:=PySem.W.Hook.obs $H) (Ya:=PySem.W.Hook.val $H) (YP:=PySem.W.Hook.says $H) (N:=4604) ?hl (PySem.W.Hook.of $H) (PySem.W.Hook.keeps $H) (fun s e=>PySem.W.xl_of s (Bool.and_eq_true_iff.mp e).1) PySem.W.XL.keeps (by rfl) (by rfl) (by rfl) (fun s e=>PySem.W.recFacts_of (Bool.and_eq_true_iff.mp e).2) (by rfl) (by first |assumption |decide +kernel) (by decide +kernel) ⟨rfl,rfl,rfl,rfl,rfl,by decide +kernel⟩ ?hw ?hc
 case hl=>exact HD.B7 (by kernel_rfl) (by kernel_rfl) (fun s=>by kernel_rfl) (fun w os=>by kernel_rfl)))
open PySem PySem.W PyProof.Rows L2
set_option maxRecDepth 100000 in
set_option maxHeartbeats 0 in
theorem PySem.Challenge.cw_rowsorder_k63_rows_put_together_holds : PySem.Challenge.rw_rowsorder_k63_rows_put_together.Holds := by
 w_on;(refine holds_law HD.GG fun GG=>?_);k_head;(case hw=>w_witness2)
 k_fill
 refine RO.walk (l:=PySem.Challenge.rw_rowsorder_k63_rows_put_together) rfl rfl ?hi (fun w h Y=>PySem.W.kIn_of Y) ?F
 case hi=>kernel_rfl
 case F=>
  intro w mg fa h KX G hmg
  refine' RO.all_mk KX G hmg ?F1 ?F2 ?F3 ?F4 ?F5 ?F6 ?F7 ?F8 ?F9 ?F10 ?F11 ?F12 ?F13 ?F14 ?F15 ?F16 ?F17 ?F18 ?F19 ?F20 ?F21 ?F22 ?F23 ?F24 ?F25 ?F26 ?F27 ?F28 ?F29 ?F30 ?F31 ?F32 ?F33 ?F34 ?F35 ?F36 ?F37 ?F38 ?F39 ?a40 ?l40 ?c40 ?k40 ?zB ?yMOST_THINGS ?m0 ?e0 ?m1 ?e1 ?m2 ?e2 ?m3 ?e3
  case F1=>refine' bB KX G RO.vH ?a ?l ?c ?k;(case a=>k_is);(case l=>k_is);(case c=>k_is);(case k=>k_is)
  case F2=>refine' bB KX G RO.vp ?a ?l ?c ?k;(case a=>k_is);(case l=>k_is);(case c=>k_is);(case k=>k_is)
  case F3=>refine' bB KX G RO.xB ?a ?l ?c ?k;(case a=>k_is);(case l=>k_is);(case c=>k_is);(case k=>k_is)
  case F4=>refine' bB KX G RO.yb ?a ?l ?c ?k;(case a=>k_is);(case l=>k_is);(case c=>k_is);(case k=>k_is)
  case F5=>refine' bB KX G RO.xS ?a ?l ?c ?k;(case a=>k_is);(case l=>k_is);(case c=>k_is);(case k=>k_is)
  case F6=>refine' bB KX G RO.rB ?a ?l ?c ?k;(case a=>k_is);(case l=>k_is);(case c=>k_is);(case k=>k_is)
  case F7=>refine' bB KX G RO.zE ?a ?l ?c ?k;(case a=>k_is);(case l=>k_is);(case c=>k_is);(case k=>k_is)
  case F8=>refine' bB KX G RO.uM ?a ?l ?c ?k;(case a=>k_is);(case l=>k_is);(case c=>k_is);(case k=>k_is)
  case F9=>refine' bB KX G RO.vN ?a ?l ?c ?k;(case a=>k_is);(case l=>k_is);(case c=>k_is);(case k=>k_is)
  case F10=>refine' bB KX G RO.rl ?a ?l ?c ?k;(case a=>k_is);(case l=>k_is);(case c=>k_is);(case k=>k_is)
  case F11=>refine' bB KX G RO.jR ?a ?l ?c ?k;(case a=>k_is);(case l=>k_is);(case c=>k_is);(case k=>k_is)
  case F12=>refine' bB KX G RO.yX ?a ?l ?c ?k;(case a=>k_is);(case l=>k_is);(case c=>k_is);(case k=>k_is)
  case F13=>refine' bB KX G RO.p5 ?a ?l ?c ?k;(case a=>k_is);(case l=>k_is);(case c=>k_is);(case k=>k_is)
  case F14=>refine' bB KX G RO.o6 ?a ?l ?c ?k;(case a=>k_is);(case l=>k_is);(case c=>k_is);(case k=>k_is)
  case F15=>refine' bB KX G RO.oG ?a ?l ?c ?k;(case a=>k_is);(case l=>k_is);(case c=>k_is);(case k=>k_is)
  case F16=>refine' bB KX G RO.vR ?a ?l ?c ?k;(case a=>k_is);(case l=>k_is);(case c=>k_is);(case k=>k_is)
  case F17=>refine' bB KX G RO.DY ?a ?l ?c ?k;(case a=>k_is);(case l=>k_is);(case c=>k_is);(case k=>k_is)
  case F18=>refine' bB KX G RO.tu ?a ?l ?c ?k;(case a=>k_is);(case l=>k_is);(case c=>k_is);(case k=>k_is)
  case F19=>refine' bB KX G RO.ud ?a ?l ?c ?k;(case a=>k_is);(case l=>k_is);(case c=>k_is);(case k=>k_is)
  case F20=>refine' bB KX G RO.p4 ?a ?l ?c ?k;(case a=>k_is);(case l=>k_is);(case c=>k_is);(case k=>k_is)
  case F21=>refine' bB KX G RO.nv ?a ?l ?c ?k;(case a=>k_is);(case l=>k_is);(case c=>k_is);(case k=>k_is)
  case F22=>refine' bB KX G RO.Bi ?a ?l ?c ?k;(case a=>k_is);(case l=>k_is);(case c=>k_is);(case k=>k_is)
  case F23=>refine' bB KX G RO.ui ?a ?l ?c ?k;(case a=>k_is);(case l=>k_is);(case c=>k_is);(case k=>k_is)
  case F24=>refine' bB KX G RO.yY ?a ?l ?c ?k;(case a=>k_is);(case l=>k_is);(case c=>k_is);(case k=>k_is)
  case F25=>refine' bB KX G RO.rF ?a ?l ?c ?k;(case a=>k_is);(case l=>k_is);(case c=>k_is);(case k=>k_is)
  case F26=>refine' bB KX G RO.pX ?a ?l ?c ?k;(case a=>k_is);(case l=>k_is);(case c=>k_is);(case k=>k_is)
  case F27=>refine' bB KX G RO.p6 ?a ?l ?c ?k;(case a=>k_is);(case l=>k_is);(case c=>k_is);(case k=>k_is)
  case F28=>refine' bB KX G RO.pj ?a ?l ?c ?k;(case a=>k_is);(case l=>k_is);(case c=>k_is);(case k=>k_is)
  case F29=>refine' bB KX G RO.nt ?a ?l ?c ?k;(case a=>k_is);(case l=>k_is);(case c=>k_is);(case k=>k_is)
  case F30=>refine' bB KX G RO.vK ?a ?l ?c ?k;(case a=>k_is);(case l=>k_is);(case c=>k_is);(case k=>k_is)
  case F31=>refine' bB KX G RO.uD ?a ?l ?c ?k;(case a=>k_is);(case l=>k_is);(case c=>k_is);(case k=>k_is)
  case F32=>refine' bB KX G RO.rY ?a ?l ?c ?k;(case a=>k_is);(case l=>k_is);(case c=>k_is);(case k=>k_is)
  case F33=>refine' bB KX G RO.nI ?a ?l ?c ?k;(case a=>k_is);(case l=>k_is);(case c=>k_is);(case k=>k_is)
  case F34=>refine' bB KX G RO.tf ?a ?l ?c ?k;(case a=>k_is);(case l=>k_is);(case c=>k_is);(case k=>k_is)
  case F35=>refine' bB KX G RO.tX ?a ?l ?c ?k;(case a=>k_is);(case l=>k_is);(case c=>k_is);(case k=>k_is)
  case F36=>refine' bB KX G RO.pH ?a ?l ?c ?k;(case a=>k_is);(case l=>k_is);(case c=>k_is);(case k=>k_is)
  case F37=>refine' bB KX G RO.p0 ?a ?l ?c ?k;(case a=>k_is);(case l=>k_is);(case c=>k_is);(case k=>k_is)
  case F38=>refine' bB KX G RO.nA ?a ?l ?c ?k;(case a=>k_is);(case l=>k_is);(case c=>k_is);(case k=>k_is)
  case F39=>refine' bB KX G RO.rU ?a ?l ?c ?k;(case a=>k_is);(case l=>k_is);(case c=>k_is);(case k=>k_is)
  case a40=>k_is
  case l40=>k_is
  case c40=>k_is
  case k40=>k_is
  case zB=>kernel_rfl
  case yMOST_THINGS=>k_is
  case m0=>k_is
  case e0=>kernel_rfl
  case m1=>k_is
  case e1=>kernel_rfl
  case m2=>k_is
  case e2=>kernel_rfl
  case m3=>k_is
  case e3=>kernel_rfl

end
