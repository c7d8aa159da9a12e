import PyProof.Rows.All
import Wide.All
import OpenK.AllK
import Wide.FinOn
import Lean
import PyProof.EqAt
import PyProof.EqKinds
import PyProof.TupleCall
import PySem.SetOps
import PyProof.SetKind
import PyProof.TupleKey
import PyProof.DictKinds
import PyProof.Rows.SetFrom
import PyProof.WalksMore
import KE.KSortTup
import PyProof.CollectWalk
import PyProof.ExcArgsOwn
import PyProof.Rows.CountFlat
import PyProof.Rows.SeqMore2
import PyProof.Rows.FStr
import PyProof.Rows.StrWeight2
import PyProof.Rows.StrNews
import PyProof.StrLawsTight
import PyProof.ExcBaseAll.ValueError
import PyProof.ZipIter
import PyProof.CallFns
import PyProof.Draws
import PyProof.EnumMake
import PyProof.SetRoads
import PyProof.Rows.SortWalk
import PyProof.SeqI3
import PyProof.Rows.SortShell
import PyProof.Rows.Range3
import KE.KStateDown
import PyProof.Rows.SumAny
import PyProof.ListRange
import PySem.Challenge.RW_rowsorder_k11_told_by_rows
set_option Elab.async false
set_option linter.all false
set_option maxRecDepth 100000
set_option maxHeartbeats 1000000
section
set_option Elab.async false
namespace L2
open PySem PySem.Spec PyProof.Rows
abbrev Key:=Sum Int Str
def kQ:Key->Value->Bool
 | .inl k,v=>Value.isInt k v
 | .inr x,v=>Value.isStrOf x v
def C2 (w:World):Key->Int
 | .inl k=>hashInt k
 | .inr x=>hashStr w x
theorem aX:∀{k:Key} {v:Value},kQ k v=true->(∃i t,k=Sum.inl i/\v=Value.int i t)\/(∃x t,k=Sum.inr x/\v=Value.str x t)
 | .inl i,v,h=>by
  obtain⟨t,e⟩:=Value.isInt_shape (k:=i) (v:=v) h
  exact .inl ⟨i,t,rfl,e⟩
 | .inr x,v,h=>by
  obtain⟨t,e⟩:=Value.isStrOf_shape (x:=x) (v:=v) h
  exact .inr ⟨x,t,rfl,e⟩
theorem rA (i:Int)(t:Tok):kQ (.inl i) (.int i t)=true:=by simp[kQ,Value.isInt]
theorem rQ (x:Str)(t:Tok):kQ (.inr x) (.str x t)=true:=by simp[kQ,Value.isStrOf]
theorem yJ (a b:Int):decide ((Sum.inl a:Key)=Sum.inl b)=(a == b):=by
 by_cases e:a=b
 ·subst e;simp
 ·have h:¬(Sum.inl a:Key)=Sum.inl b:=fun q=>e (Sum.inl.inj q)
  rw[decide_eq_false h]
  exact (beq_eq_false_iff_ne.mpr e).symm
theorem zz (a b:Str):decide ((Sum.inr a:Key)=Sum.inr b)=decide (a=b):=by
 by_cases e:a=b
 ·subst e;simp
 ·have h:¬(Sum.inr a:Key)=Sum.inr b:=fun q=>e (Sum.inr.inj q)
  rw[decide_eq_false h,decide_eq_false e]
theorem yP (a:Int)(b:Str):decide ((Sum.inl a:Key)=Sum.inr b)=false:=decide_eq_false (fun q=>nomatch q)
theorem zU (a:Str)(b:Int):decide ((Sum.inr a:Key)=Sum.inl b)=false:=decide_eq_false (fun q=>nomatch q)
def b6 (prog:Program)(w:World):PySem.KeyKind prog w Key where
 is:=kQ
 hash:=C2 w
 inj:=fun v a b ha hb=>by
  rcases aX ha with⟨i,t,rfl,rfl⟩ | ⟨x,t,rfl,rfl⟩
  ·rcases aX hb with⟨j,u,rfl,e⟩ | ⟨y,u,rfl,e⟩
   ·injection e with e1 _;rw[e1]
   ·exact nomatch e
  ·rcases aX hb with⟨j,u,rfl,e⟩ | ⟨y,u,rfl,e⟩
   ·exact nomatch e
   ·injection e with e1 _;rw[e1]
 byValue:=fun k v h=>by
  rcases aX h with⟨i,t,rfl,rfl⟩ | ⟨x,t,rfl,rfl⟩ <;> rfl
 pyHash:=fun hv h=>by
  rcases aX hv with⟨i,t,rfl,rfl⟩ | ⟨x,t,rfl,rfl⟩
  ·exact wpAny_pyHash_int h
  ·exact wpAny_pyHash_str h
 eqBool:=fun hu hv h=>by
  rcases aX hu with⟨i,t,rfl,rfl⟩ | ⟨x,t,rfl,rfl⟩
  ·rcases aX hv with⟨j,u,rfl,rfl⟩ | ⟨y,u,rfl,rfl⟩
   ·rw[yJ] at h;exact wpAny_eqBool_int h
   ·rw[yP] at h;exact SeqAt.EqAt.int_str i t y u _ _ _ _ h
  ·rcases aX hv with⟨j,u,rfl,rfl⟩ | ⟨y,u,rfl,rfl⟩
   ·rw[zU] at h;exact SeqAt.EqAt.str_int x t j u _ _ _ _ h
   ·rw[zz] at h;exact wpAny_eqBool_str h
 «strs»:=fun k x t v h=>by
  rcases aX h with⟨i,u,rfl,e⟩ | ⟨y,u,rfl,e⟩
  ·exact nomatch e
  ·injection e with e1 _
   subst e1
   cases v <;> rfl
theorem ny (prog:Program)(w:World)(i:Int)(t:Tok):(b6 prog w).is (.inl i) (.int i t)=true:=rA i t
theorem nU (prog:Program)(w:World)(x:Str)(t:Tok):(b6 prog w).is (.inr x) (.str x t)=true:=rQ x t
end L2
namespace L2
open PySem PySem.Spec PyProof.Rows
inductive V where
 |non |bl (b:Bool) |int (i:Int) |str (x:Str) |byt (b:Array UInt8) |flt (b:UInt64) |ref (a:Addr) |ty (n:String)
 deriving DecidableEq
def RelV:V->Value->Prop
 | .non,u=>u=Value.none
 | .bl b,u=>u=Value.bool b
 | .int i,u=>∃t,u=Value.int i t
 | .str x,u=>∃t,u=Value.str x t
 | .byt b,u=>∃t,u=Value.bytes b t
 | .flt b,u=>∃t,u=Value.float b t
 | .ref a,u=>u=Value.ref a
 | .ty n,u=>u=Value.type n
abbrev Vals:List V->List Value->Prop:=Paired RelV
theorem Vals.length {xs:List V}{us:List Value}(r:Vals xs us):xs.length=us.length:=Paired.length r
theorem Vals.get:∀{xs:List V} {us:List Value} {i:Nat} {x:V},Vals xs us->xs[i]? =some x->∃u,us[i]? =some u/\RelV x u
 |_,_,_,_,.nil,e=>by simp at e
 |_,_,0,_,.cons r _,e=>by simp at e;subst e;exact⟨_,rfl,r⟩
 |_,_,i + 1,x,.cons _ t,e=>by
  obtain⟨u,h1,h2⟩:=Vals.get (i:=i) (x:=x) t (by simpa using e)
  exact⟨u,by simpa using h1,h2⟩
theorem Vals.set {x:V}{u:Value}(r:RelV x u):∀{xs:List V} {us:List Value} (i:Nat),Vals xs us->Vals (xs.set i x) (us.set i u)
 |_,_,_,.nil=>.nil
 |_,_,0,.cons _ t=>.cons r t
 |_,_,i + 1,.cons q t=>.cons q (Vals.set r i t)
theorem Vals.append:∀{xs ys:List V} {us ws:List Value},Vals xs us->Vals ys ws->Vals (xs ++ ys) (us ++ ws)
 |_,_,_,_,.nil,s=>s
 |_,_,_,_,.cons r t,s=>.cons r (Vals.append t s)
theorem Vals.take:∀{xs:List V} {us:List Value} (n:Nat),Vals xs us->Vals (xs.take n) (us.take n)
 |_,_,0,_=>.nil
 |_,_,_ + 1,.nil=>.nil
 |_,_,n + 1,.cons r t=>.cons r (Vals.take n t)
theorem Vals.drop:∀{xs:List V} {us:List Value} (n:Nat),Vals xs us->Vals (xs.drop n) (us.drop n)
 |_,_,0,r=>r
 |_,_,_ + 1,.nil=>.nil
 |_,_,n + 1,.cons _ t=>Vals.drop n t
def uA:Option V->Option Value->Prop
 |some v,some u=>RelV v u
 |none,none=>True
 |_,_=>False
def KV {κ:Type}:List (κ×V)->List (κ×Value)->Prop:=Paired fun (p:κ×V) (q:κ×Value)=>p.1=q.1/\RelV p.2 q.2
def kV:Key->V
 | .inl i=>.int i
 | .inr x=>.str x
inductive HO where
 |lst (xs:List V)
 |tup (xs:List V)
 |dK (kvs:List (Key×V)) |dT (kvs:List (List Key×V))
 |set (S:Int->Bool) (n:Nat)
 |ins (C dx:Addr) (fs:List (Str×V))
 |own (x:Addr)
 |xd (fs:List (Str×V))
 |met (f x:Addr)
 |dg (lo hi:Int)
 |aC (o:Obj) (u:HO)
 |tbl (ps:Array Value)
 |ext (φ:Heap->Prop)
abbrev Hp:=Addr->Option HO
def upd (H:Hp)(a:Addr)(o:HO):Hp:=fun b=>if b=a then some o else H b
theorem ai {H:Hp}{a:Addr}{o:HO}:upd H a o a=some o:=by unfold upd;rw[if_pos rfl]
theorem aq {H:Hp}{a b:Addr}{o:HO}(h:b≠a):upd H a o b=H b:=by unfold upd;rw[if_neg h]
theorem xg {H:Hp}{a:Addr}{o u:HO}:upd (upd H a o) a u=upd H a u:=by
 funext b;unfold upd;split <;> rfl
theorem yi {H:Hp}{a b:Addr}{o u:HO}(h:H a=some o)(h':H b=some u)(d:o≠u):a≠b:=by
 intro e;subst e;rw[h] at h';exact d (Option.some.inj h')
theorem aE {H:Hp}{a b:Addr}{o:HO}(h:H a=some o)(h':H b=none):a≠b:=by
 intro e;subst e;rw[h] at h';cases h'
section
variable (P:Program)(w:World)
def ko (h:Heap)(a:Addr)(items:Array Value):Prop:=∃o,h.get? a=some o/\o.cls=.type "tuple"/\∃n,o.data=.seq items n/\o.dict=none
theorem ko.isTup {h:Heap}{a:Addr}{items:Array Value}(x:ko h a items):IsTup h a items:=let ⟨o,e,c,n,d,_⟩:=x;⟨o,e,c,n,d⟩
theorem ko.new (h:Heap)(items:Array Value):ko (h.push {cls:=.type "tuple",data:=.seq items}) h.objs.size items:=⟨_,Heap.get?_push_size _ rfl,rfl,_,rfl,rfl⟩
def aV (H:Hp)(h:Heap)(a:Addr):HO->Prop
 | .lst xs=>xs.length<=sizeLine/\∃(its:List Value) (n:Nat),Vals xs its/\h.get? a=some {cls:=.type "list",data:=.seq its.toArray n}
 | .tup xs=>xs.length<=sizeLine/\∃its:List Value,Vals xs its/\ko h a its.toArray
 | .dK kvs=>kvs.length<=sizeLine/\(a == sysModules)=false/\∃vs,KV kvs vs/\h.DictOf (b6 P w) a vs
 | .dT kvs=>kvs.length<=sizeLine/\(a == sysModules)=false/\∃xs:List (List Key×Addr×Value),
   Paired (fun (p:List Key×V) (q:List Key×Addr×Value)=>p.1=q.1/\H q.2.1=some (.tup (p.1.map kV))/\RelV p.2 q.2.2) kvs xs/\
   ∃o es ep,h.get? a=some o/\o.ExactDict/\o.data=.dict es ep/\es.toList=xs.map (entryOfKey (tupleKind (b6 P w)))/\(xs.map (·.1)).Nodup
 | .set S n=>h.SetOf (intKind P w) a S n
 | .ins C dx fs=>H dx=some (.own a)/\fs.length<=1000/\dx≠a/\h.get? a=some (PySem.W.instObj C dx)/\
   ∃mA,h.Ns1 dx mA/\(∀f,uA (fs.lookup f) (mA f))/\PySem.Within mA (fs.map (·.1))
 | .own _=>∃o,h.get? a=some o
 | .xd fs=>∃mA,h.Ns1 a mA/\∀f,uA (fs.lookup f) (mA f)
 | .dg lo hi=>∃t u v,h.get? a=some {cls:=.type "range",data:=.fields #[.int lo t,.int hi u,.int 1 v]}
 | .aC o u=>h.get? a=some o/\aV H h a u
 | .tbl ps=>h.get? a=some {cls:=.none,data:=.fields ps}
 | .met f x=>h.get? a=some (PySem.W.methodObj (.ref f) (.ref x))
 | .ext φ=>φ h/\(∃o,h.get? a=some o)/\∀h1 h2:Heap,φ h1->(∀o,h1.get? a=some o->h2.get? a=some o)->φ h2
def fm (H:Hp)(h:Heap):Prop:=∀a o,H a=some o->aV P w H h a o
end
section
variable {P:Program}{w:World}{H H':Hp}{h h':Heap}{a:Addr}{o:HO}
theorem aV.lt (x:aV P w H h a o):a < h.objs.size:=by
 cases o with
 |lst xs=>obtain⟨_,_,_,_,e⟩:=x;exact Heap.lt_size e
 |tup xs=>obtain⟨_,_,_,p⟩:=x;exact p.isTup.lt
 |dK kvs=>obtain⟨_,_,_,_,o,_,_,e,_⟩:=x;exact Heap.lt_size e
 |dT kvs=>obtain⟨_,_,_,_,o,_,_,e,_⟩:=x;exact Heap.lt_size e
 |set S n=>obtain⟨o,_,_,_,e,_⟩:=x;exact Heap.lt_size e
 |ins C dx fs=>obtain⟨_,_,_,e,_⟩:=x;exact Heap.lt_size e
 |own y=>obtain⟨_,e⟩:=x;exact Heap.lt_size e
 |xd fs=>obtain⟨_,⟨_,_,_,e,_⟩,_⟩:=x;exact Heap.lt_size e
 |dg lo hi=>obtain⟨_,_,_,e⟩:=x;exact Heap.lt_size e
 |aC ob u=>obtain⟨e,_⟩:=x;exact Heap.lt_size e
 |tbl ps=>exact Heap.lt_size (show h.get? a=some _ from x)
 |met f y=>exact Heap.lt_size (show h.get? a=some _ from x)
 |ext φ=>obtain⟨_,⟨_,e⟩,_⟩:=x;exact Heap.lt_size e
theorem Paired.mapP {α β:Type}{F G:α->β->Prop}:∀{l₁:List α} {l₂:List β},Paired F l₁ l₂->(∀a b,F a b->G a b)->Paired G l₁ l₂
 |_,_,.nil,_=>.nil
 |_,_,.cons r t,f=>.cons (f _ _ r) (Paired.mapP t f)
theorem aV.stay (x:aV P w H h a o)(k:∀b u,(b=a\/H b=some (.own a))->h.get? b=some u->h'.get? b=some u)
  (ho:∀b,H b=some (.own a)->H' b=some (.own a)) (ht:∀b xs,H b=some (.tup xs)->H' b=some (.tup xs)):aV P w H' h' a o:=by
 induction o with
 |lst xs=>obtain⟨z,its,n,r,e⟩:=x;exact⟨z,its,n,r,k _ _ (.inl rfl) e⟩
 |tup xs=>obtain⟨z,its,r,ob,e,c⟩:=x;exact⟨z,its,r,ob,k _ _ (.inl rfl) e,c⟩
 |dK kvs=>obtain⟨z,y,vs,r,ob,es,ep,e,c⟩:=x;exact⟨z,y,vs,r,ob,es,ep,k _ _ (.inl rfl) e,c⟩
 |dT kvs=>
  obtain⟨z,y,xs,r,ob,es,ep,e,c⟩:=x
  exact⟨z,y,xs,Paired.mapP r fun p q z=>⟨z.1,ht _ _ z.2.1,z.2.2⟩,ob,es,ep,k _ _ (.inl rfl) e,c⟩
 |set S n=>obtain⟨ob,es,ep,t,e,c⟩:=x;exact⟨ob,es,ep,t,k _ _ (.inl rfl) e,c⟩
 |ins C dx fs=>
  obtain⟨d,z,ne,e,mA,⟨od,es,ep,e2,c⟩,r⟩:=x
  exact⟨ho _ d,z,ne,k _ _ (.inl rfl) e,mA,⟨od,es,ep,k _ _ (.inr d) e2,c⟩,r⟩
 |own y=>obtain⟨ob,e⟩:=x;exact⟨ob,k _ _ (.inl rfl) e⟩
 |xd fs=>obtain⟨mA,⟨od,es,ep,e,c⟩,r⟩:=x;exact⟨mA,⟨od,es,ep,k _ _ (.inl rfl) e,c⟩,r⟩
 |dg lo hi=>obtain⟨t,u,v,e⟩:=x;exact⟨t,u,v,k _ _ (.inl rfl) e⟩
 |aC ob u ih=>obtain⟨e,q⟩:=x;exact⟨k _ _ (.inl rfl) e,ih q⟩
 |tbl ps=>
  have e:h.get? a=some {cls:=.none,data:=.fields ps}:=x
  show h'.get? a=some {cls:=.none,data:=.fields ps}
  exact k a _ (.inl rfl) e
 |met f y=>
  have e:h.get? a=some (PySem.W.methodObj (.ref f) (.ref y)):=x
  show h'.get? a=some (PySem.W.methodObj (.ref f) (.ref y))
  exact k a _ (.inl rfl) e
 |ext φ=>obtain⟨p,⟨o,e⟩,st⟩:=x;exact⟨st _ _ p fun o q=>k _ _ (.inl rfl) q,⟨o,k _ _ (.inl rfl) e⟩,st⟩
theorem fm.lt (x:fm P w H h)(e:H a=some o):a < h.objs.size:=(x a o e).lt
theorem fm.fresh (x:fm P w H h)(e:h.objs.size<=a):H a=none:=by
 cases q:H a with
 |none=>rfl
 |some u=>exact absurd (Nat.lt_of_lt_of_le (x.lt q) e) (Nat.lt_irrefl _)
theorem fm.kept (x:fm P w H h)(k:∀b u,h.get? b=some u->h'.get? b=some u):fm P w H h':=fun a o e=>
 (x a o e).stay (fun b u _ q=>k b u q) (fun _ q=>q) fun _ _ q=>q
theorem fm.laid (x:fm P w H h)(k:∀b u,h.get? b=some u->h'.get? b=some u)(hp:h.objs.size<=a)(new:aV P w (upd H a o) h' a o):fm P w (upd H a o) h':=fun b u e=>by
 have hn:=x.fresh hp
 by_cases hb:b=a
 ·subst hb;rw[ai] at e;cases e;exact new
 ·rw[aq hb] at e
  exact (x b u e).stay (fun c v _ q=>k c v q) (fun c q=>by rw[aq (aE q hn)];exact q) fun c xs q=>by rw[aq (aE q hn)];exact q
end
def Rd (H:Hp)(a:Addr)(u:HO):Prop:=H a=some u\/∃o,H a=some (.aC o u)
theorem Rd.ok {P:Program}{w:World}{H:Hp}{h:Heap}{a:Addr}{u:HO}(r:Rd H a u)(x:fm P w H h):aV P w H h a u:=by
 rcases r with r | ⟨o,r⟩
 ·exact x a u r
 ·obtain⟨_,q⟩:=x a _ r
  exact q
def BL:Option HO->Prop
 |some (.lst _)=>True
 |some (.dK _)=>True
 |some (.dT _)=>True
 |some (.set _ _)=>True
 |some (.ins _ _ _)=>True
 |some (.ext _)=>True
 |_=>False
section
variable {P:Program}{w:World}{H:Hp}{h h':Heap}{x e:Addr}{o':HO}
theorem fm.write (ok:fm P w H h)(mu:BL (H x))(he:e=x\/H e=some (.own x))(k:∀b u,b≠e->h.get? b=some u->h'.get? b=some u)(heo:∃u,h'.get? e=some u)
  (new:aV P w (upd H x o') h' x o'):fm P w (upd H x o') h':=fun b u q=>by
 have nown:∀c y,H c=some (.own y)->c≠x:=fun c y r z=>by subst z;rw[r] at mu;exact mu
 have ntup:∀c xs,H c=some (.tup xs)->c≠x:=fun c xs r z=>by subst z;rw[r] at mu;exact mu
 by_cases hb:b=x
 ·subst hb;rw[ai] at q;cases q;exact new
 ·rw[aq hb] at q
  by_cases hbe:b=e
  ·have q':H b=some (.own x):=by
    rcases he with z |z
    ·exact absurd (hbe.trans z) hb
    ·rw[hbe];exact z
   rw[q] at q';cases q'
   obtain⟨v,hv⟩:=heo
   exact⟨v,by rw[hbe];exact hv⟩
  ·refine (ok b u q).stay (fun c v hc r=>k c v ?_ r) (fun c r=>by rw[aq (nown c b r)];exact r) fun c xs r=>by rw[aq (ntup c xs r)];exact r
   rcases hc with rfl |hc
   ·exact hbe
   ·rintro rfl
    rcases he with z |z
    ·exact nown c b hc z
    ·rw[hc] at z;cases z;exact hb rfl
end
structure Un (fs ex:List Addr)(H H':Hp)(h h':Heap):Prop where
 keep:∀b o,h.get? b=some o->H b=none->b∉fs->b∉ex->h'.get? b=some o
 slot:∀b o,h.get? b=some o->H b=none->b∈fs->b∉ex->∃sl,h'.get? b=some {o with slots:=sl}
 free:∀b o,h.get? b=some o->H b=none->b∉ex->H' b=none
 there:∀b o,h.get? b=some o->b∉ex->∃o',h'.get? b=some o'
 tups:∀b xs,H b=some (.tup xs)->H' b=some (.tup xs)
 frzs:∀b o u,H b=some (.aC o u)->H' b=some (.aC o u)
 tbls:∀b ps,H b=some (.tbl ps)->∃more,H' b=some (.tbl (ps ++ more))
section
variable {fs fs' ex ex':List Addr}{H H1 H2:Hp}{h h1 h2 h':Heap}{a x e:Addr}{o:HO}
theorem Un.any (u:Un fs ex H H1 h h1){b:Addr}{ob:Obj}(q:h.get? b=some ob)(n:H b=none)(hx:b∉ex):∃sl,h1.get? b=some {ob with slots:=sl}:=by
 by_cases hb:b∈fs
 ·exact u.slot b ob q n hb hx
 ·exact⟨ob.slots,u.keep b ob q n hb hx⟩
theorem Un.kept (k:∀b u,h.get? b=some u->h'.get? b=some u):Un fs ex H H h h':=
 ⟨fun b ob q _ _ _=>k b ob q,fun b ob q _ _ _=>⟨ob.slots,k b ob q⟩,fun _ _ _ n _=>n,fun b ob q _=>⟨ob,k b ob q⟩,fun _ _ q=>q,fun _ _ _ q=>q,fun _ ps q=>⟨#[],by rw[q];simp⟩⟩
theorem Un.refl:Un fs ex H H h h:=Un.kept fun _ _ q=>q
theorem Un.laid (k:∀b u,h.get? b=some u->h'.get? b=some u)(hp:h.objs.size<=a)(hn:H a=none):Un fs ex H (upd H a o) h h' where
 keep:=fun b u q _ _ _=>k b u q
 slot:=fun b u q _ _ _=>⟨u.slots,k b u q⟩
 free:=fun b u q n _=>by rw[aq (Nat.ne_of_lt (Nat.lt_of_lt_of_le (Heap.lt_size q) hp))];exact n
 there:=fun b u q _=>⟨u,k b u q⟩
 tups:=fun b xs q=>by rw[aq (aE q hn)];exact q
 frzs:=fun b u xs q=>by rw[aq (aE q hn)];exact q
 tbls:=fun b ps q=>⟨#[],by rw[aq (aE q hn),q];simp⟩
theorem Un.write (mu:BL (H x))(he:e=x\/H e=some (.own x))(k:∀b u,b≠e->h.get? b=some u->h'.get? b=some u)(heo:∃u,h'.get? e=some u):Un fs ex H (upd H x o) h h':=by
 have hx:∀b,H b=none->b≠x:=fun b n z=>by subst z;rw[n] at mu;exact mu
 have hb:∀b,H b=none->b≠e:=fun b n z=>by
  subst z
  rcases he with r |r
  ·exact hx b n r
  ·rw[n] at r;cases r
 have hm:∀b u,H b=some u->¬BL (some u)->b≠x:=fun b u q nm z=>by subst z;rw[q] at mu;exact nm mu
 refine⟨fun b u q n _ _=>k b u (hb b n) q,fun b u q n _ _=>⟨u.slots,k b u (hb b n) q⟩,fun b u q n _=>by rw[aq (hx b n)];exact n,fun b u q _=>?_,
  fun b xs q=>by rw[aq (hm b _ q fun z=>z)];exact q,fun b u xs q=>by rw[aq (hm b _ q fun z=>z)];exact q,fun b ps q=>⟨#[],by rw[aq (hm b _ q fun z=>z),q];simp⟩⟩
 by_cases hbe:b=e
 ·subst hbe;exact heo
 ·exact⟨u,k b u hbe q⟩
end
def BX (h:Heap)(H:Hp):List Addr:=(List.range h.objs.size).filter fun a=>(H a).isSome
def lR (h:Heap)(H:Hp):Heap:=PySem.W.hideAll h (BX h H)
theorem su (h:Heap)(H:Hp):(lR h H).objs.size=h.objs.size:=PySem.W.hideAll_size _ _
theorem vf {h:Heap}{H:Hp}{b:Addr}{o:Obj}(e:h.get? b=some o)(n:H b=none):(lR h H).get? b=some o:=
 PySem.W.hideAll_get _ e fun hm=>by
  have q:(H b).isSome=true:=(List.mem_filter.mp hm).2
  rw[n] at q;simp at q
theorem xN {h:Heap}{H:Hp}{b:Addr}{o:Obj}(e:(lR h H).get? b=some o):h.get? b=some o/\H b=none:=by
 have e':h.get? b=some o:=PySem.W.of_hideAll (BX h H) e
 refine⟨e',?_⟩
 cases q:H b with
 |none=>rfl
 |some x=>
  have hm:b∈BX h H:=List.mem_filter.mpr ⟨List.mem_range.mpr (Heap.lt_size e'),by simp[q]⟩
  have z:(lR h H).get? b=none:=PySem.W.hideAll_none (BX h H) hm
  rw[z] at e;cases e
def wQ (g h:Heap)(L:Addr):List (Addr×Obj):=(List.range h.objs.size).filterMap fun a=>if a=L\/(g.get? a).isSome=true then none else (h.get? a).map fun o=>(a,o)
def rest (g h:Heap)(L d:Addr):List (Addr×Obj):=(wQ g h L).filter fun p=>decide (p.1≠d)
end L2
namespace L2
open PySem PySem.Spec PyProof.Rows
structure Mod (K:PySem.W.Frag)(mg:Str->Option Value)(base:Heap):Prop where
 kin:K.In base
 glob:base.Ns mainGlobals mg
 blt:∃mb,base.Ns builtinsNs mb/\∀x:Str,x≠"__name__"->mb x=bootBuiltins x
 nolimit:base.NoLimit
 sys:∃mm,base.Ns sysModules mm
structure Cx where
 prog:Program
 w:World
 K:PySem.W.Frag
 mg:Str->Option Value
 base:Heap
 A:Around
 N:List Str
 s₀:Shared
 H₀:Hp
 env:Env
 outer:List Env
 stack:List Env
 ex:List Addr
 fn:Str->Bool
 calm:Bool
 pn:List (Addr×Obj)
 xe:Value->Shared->Prop
def b8 (l:List Env):List Addr:=l.filterMap (·.frame)
abbrev Cx.fs (X:Cx):List Addr:=b8 X.outer
def oy (sc:Scope)(x:Str):Prop:=sc.names.lookup x=some .local\/sc.names.lookup x=some .cell\/sc.names.lookup x=some .free
def Loc (sc:Scope)(x:Str):Prop:=sc.names.lookup x=some .local\/sc.names.lookup x=some .cell
def Look (env:Env)(h:Heap)(m:Str->Option Value)(x:Str)(u:Value):Prop:=
 (env.kindOf x=some .local/\m x=some u)\/((env.kindOf x=some .cell\/env.kindOf x=some .free)/\∃c,env.cells.lookup x=some c/\h.IsCell c (some u))
structure Cx.Ok (X:Cx):Prop where
 mod:Mod X.K X.mg X.base
 kind:X.env.scope.kind=.function
 glob:X.env.globals=mainGlobals
 blt:X.env.builtins=builtinsNs
 above:X.s₀.heap.objs.size<=X.env.locals
 inj:∀x y c,X.env.cells.lookup x=some c->X.env.cells.lookup y=some c->x=y
 has:∀x,(X.env.kindOf x=some .cell\/X.env.kindOf x=some .free)->∃c,X.env.cells.lookup x=some c
 cab:∀x c,X.fn x=true->X.env.cells.lookup x=some c->X.s₀.heap.objs.size<=c
 hd:X.calm=true->X.A.handled=none
 frames:X.A.frames=some X.stack
 stk:X.stack=X.outer\/(X.stack=X.env :: X.outer/\X.env.frame=some X.env.locals)
 exf:∀b∈X.ex,b≠X.env.locals/\∀x c,X.env.cells.lookup x=some c->c≠b
 bs:∀b o,X.base.get? b=some o->X.s₀.heap.get? b=some o/\X.H₀ b=none
 bsz:X.base.objs.size<=X.s₀.heap.objs.size
 noex:∀b o,X.base.get? b=some o->b∉X.ex
 exfs:∀b∈X.ex,b∉X.fs
 funs:X.s₀.heap.FunFrames X.base X.outer
 frf:∀b∈X.fs,X.H₀ b=none
structure Inv (X:Cx)(pins:List (Addr×Obj))(σ:List (Option V))(H:Hp)(s:Shared):Prop where
 ok:X.Ok
 os:s.os=X.s₀.os
 bare:AllBare s.gens
 base:Un X.fs X.ex X.H₀ H X.s₀.heap s.heap
 loc:∃m,s.heap.Ns X.env.locals m/\∀(i:Nat) (x:Str) (v:V),X.N[i]? =some x->σ[i]? =some (some v)->oy X.env.scope x->∃u,RelV v u/\Look X.env s.heap m x u
 cell:∀x c,X.env.cells.lookup x=some c->∃v,s.heap.IsCell c v
 free:H X.env.locals=none
 freeC:∀x c,X.env.cells.lookup x=some c->H c=none
 pin:∀p∈X.pn ++ pins,s.heap.get? p.1=some p.2/\H p.1=none/\p.1≠X.env.locals/\p.1∉X.fs/\∀v,p.2.data≠.cell v
 hok:fm X.prog X.w H s.heap
 len:σ.length=X.N.length
section
variable {X:Cx}{pins:List (Addr×Obj)}{σ:List (Option V)}{H H':Hp}{s:Shared}{h':Heap}
theorem Cx.Ok.nofr (ok:X.Ok){b:Addr}{o:Obj}(e:X.base.get? b=some o):b∉X.fs:=fun hb=>by
 have:=(ok.funs.mem hb).1
 rw[e] at this;cases this
theorem Inv.bs (I:Inv X pins σ H s):∀b o,X.base.get? b=some o->s.heap.get? b=some o/\H b=none:=fun b o e=>
 ⟨I.base.keep b o (I.ok.bs b o e).1 (I.ok.bs b o e).2 (I.ok.nofr e) (I.ok.noex b o e),I.base.free b o (I.ok.bs b o e).1 (I.ok.bs b o e).2 (I.ok.noex b o e)⟩
theorem Inv.bk (I:Inv X pins σ H s):∀b o,X.base.get? b=some o->s.heap.get? b=some o:=fun b o e=>(I.bs b o e).1
theorem Inv.mod (I:Inv X pins σ H s):Mod X.K X.mg X.base:=I.ok.mod
theorem Inv.kIn (I:Inv X pins σ H s):X.K.In s.heap:=I.ok.mod.kin.keeps I.bk
theorem Inv.lt (I:Inv X pins σ H s):X.env.locals < s.heap.objs.size:=let ⟨_,hn,_⟩:=I.loc;hn.lt
theorem Inv.sz (I:Inv X pins σ H s):X.s₀.heap.objs.size<=s.heap.objs.size:=Nat.le_trans I.ok.above (Nat.le_of_lt I.lt)
theorem Inv.nofs (I:Inv X pins σ H s){a:Addr}(h:s.heap.objs.size<=a):a∉X.fs:=fun hb=>by
 obtain⟨_,o,ho,_⟩:=I.ok.funs.mem hb
 exact absurd (Nat.lt_of_lt_of_le (Heap.lt_size ho) (Nat.le_trans I.sz h)) (Nat.lt_irrefl _)
theorem Inv.cne (I:Inv X pins σ H s):∀x c,X.env.cells.lookup x=some c->c≠X.env.locals:=fun x c e z=>by
 obtain⟨v,o,ho,hd⟩:=I.cell x c e
 obtain⟨m,⟨o',es,ep,ho',hd',_⟩,_⟩:=I.loc
 rw[z,ho'] at ho;cases ho;rw[hd'] at hd;cases hd
theorem Inv.funs (I:Inv X pins σ H s):s.heap.FunFrames X.base X.outer:=by
 have all:∀(l:List Env),(∀b∈b8 l,b∈X.fs)->X.s₀.heap.FunFrames X.base l->s.heap.FunFrames X.base l:=by
  intro l
  induction l with
  |nil=>intro _ _;trivial
  |cons env r ih=>
   intro hs hl
   obtain⟨hk,⟨L,o,hf,hn,ho,hd⟩,hr⟩:=hl
   have hL:L∈X.fs:=hs L (by unfold b8;rw[List.filterMap_cons,hf];exact List.mem_cons_self)
   obtain⟨sl,e⟩:=I.base.slot L o ho (I.ok.frf L hL) hL fun z=>I.ok.exfs L z hL
   exact⟨hk,⟨L,_,hf,hn,e,hd⟩,ih (fun b hb=>hs b (by unfold b8;rw[List.filterMap_cons,hf];exact List.mem_cons_of_mem _ hb)) hr⟩
 exact all X.outer (fun _ hb=>hb) I.ok.funs
theorem Inv.stack (I:Inv X pins σ H s):s.heap.FunFrames X.base X.stack:=by
 rcases I.ok.stk with e | ⟨e,hf⟩
 ·rw[e];exact I.funs
 ·rw[e]
  obtain⟨m,hn,_⟩:=I.loc
  refine .cons (by rw[I.ok.kind];decide) hf hn ?_ I.funs
  exact Heap.get?_none_of_le (Nat.le_trans I.ok.bsz I.ok.above)
theorem Inv.stkSub (I:Inv X pins σ H s):∀b∈b8 X.stack,b∈X.env.locals :: X.fs:=fun b hb=>by
 rcases I.ok.stk with e | ⟨e,hf⟩
 ·rw[e] at hb;exact List.mem_cons_of_mem _ hb
 ·rw[e] at hb
  unfold b8 at hb
  rw[List.filterMap_cons,hf] at hb
  exact hb
theorem Inv.stkFree (I:Inv X pins σ H s):∀b∈b8 X.stack,H b=none:=fun b hb=>by
 rcases List.mem_cons.mp (I.stkSub b hb) with e |hb
 ·rw[e];exact I.free
 ·obtain⟨_,o,ho,_⟩:=I.ok.funs.mem hb
  exact I.base.free b o ho (I.ok.frf b hb) fun z=>I.ok.exfs b z hb
theorem Inv.step {g':Array GenState}{t':Nat}{d':Drawn}{ch:List Addr}(I:Inv X pins σ H s)
  (hch:∀b∈ch,(b∈X.ex\/X.s₀.heap.objs.size<=b)/\b≠X.env.locals/\(∀x c,X.env.cells.lookup x=some c->c≠b)/\∀p∈X.pn ++ pins,p.1≠b)
  (keep:∀b o,b≠X.env.locals->b∉X.fs->b∉ch->s.heap.get? b=some o->H b=none->h'.get? b=some o)
  (slot:∀b o,b≠X.env.locals->b∈X.fs->b∉ch->s.heap.get? b=some o->H b=none->∃sl,h'.get? b=some {o with slots:=sl}) (free:∀b o,b∉ch->s.heap.get? b=some o->H b=none->H' b=none)
  (there:∀b o,b∉ch->s.heap.get? b=some o->∃o',h'.get? b=some o')
  (tups:∀b xs,H b=some (.tup xs)->H' b=some (.tup xs)) (frzs:∀b o u,H b=some (.aC o u)->H' b=some (.aC o u)) (tbls:∀b ps,H b=some (.tbl ps)->∃more,H' b=some (.tbl (ps ++ more)))
  (ns:∀m,s.heap.Ns X.env.locals m->h'.Ns X.env.locals m) (hok:fm X.prog X.w H' h') (hg:AllBare g') :
  Inv X pins σ H' {s with heap:=h',gens:=g',drawn:=d',toks:=t'}:=by
 have neL:∀b o,X.s₀.heap.get? b=some o->b≠X.env.locals:=fun b o e=>Nat.ne_of_lt (Nat.lt_of_lt_of_le (Heap.lt_size e) I.ok.above)
 have neC:∀b o,X.s₀.heap.get? b=some o->b∉X.ex->b∉ch:=fun b o e hx hb=>by
  rcases (hch b hb).1 with z |z
  ·exact hx z
  ·exact absurd (Nat.lt_of_lt_of_le (Heap.lt_size e) z) (Nat.lt_irrefl _)
 have cellK:∀x c,X.env.cells.lookup x=some c->∀v,s.heap.IsCell c v->h'.IsCell c v:=fun x c e v ⟨o,ho,hd⟩=>by
  have nch:c∉ch:=fun z=>(hch c z).2.2.1 x c e rfl
  by_cases hc:c∈X.fs
  ·obtain⟨sl,q⟩:=slot c o (I.cne x c e) hc nch ho (I.freeC x c e)
   exact⟨_,q,hd⟩
  ·exact⟨o,keep c o (I.cne x c e) hc nch ho (I.freeC x c e),hd⟩
 refine⟨I.ok,I.os,hg,⟨fun b o e n hb hx=>?_,fun b o e n hb hx=>?_,fun b o e n hx=>?_,fun b o e hx=>?_,fun b xs e=>tups b xs (I.base.tups b xs e),fun b o xs e=>frzs b o xs (I.base.frzs b o xs e),fun b ps e=>?_⟩,?_,fun x c e=>?_,?_,fun x c e=>?_,fun p hp=>?_,hok,I.len⟩
 ·exact keep b o (neL b o e) hb (neC b o e hx) (I.base.keep b o e n hb hx) (I.base.free b o e n hx)
 ·obtain⟨sl,e1⟩:=I.base.slot b o e n hb hx
  obtain⟨sl',e2⟩:=slot b _ (neL b o e) hb (neC b o e hx) e1 (I.base.free b o e n hx)
  exact⟨sl',e2⟩
 ·obtain⟨o',e1⟩:=I.base.there b o e hx
  exact free b o' (neC b o e hx) e1 (I.base.free b o e n hx)
 ·obtain⟨o',e1⟩:=I.base.there b o e hx
  exact there b o' (neC b o e hx) e1
 ·obtain⟨m1,e1⟩:=I.base.tbls b ps e
  obtain⟨m2,e2⟩:=tbls b _ e1
  exact⟨m1 ++ m2,by rw[e2,Array.append_assoc]⟩
 ·obtain⟨m,hn,hl⟩:=I.loc
  refine⟨m,ns m hn,fun i x v e1 e2 e3=>?_⟩
  obtain⟨u,r,l⟩:=hl i x v e1 e2 e3
  refine⟨u,r,?_⟩
  rcases l with l | ⟨k,c,e,z⟩
  ·exact .inl l
  ·exact .inr ⟨k,c,e,cellK x c e _ z⟩
 ·obtain⟨v,z⟩:=I.cell x c e
  exact⟨v,cellK x c e v z⟩
 ·obtain⟨m,⟨o,_,_,ho,_⟩,_⟩:=I.loc
  exact free _ o (fun z=>(hch _ z).2.1 rfl) ho I.free
 ·obtain⟨v,o,ho,hd⟩:=I.cell x c e
  exact free c o (fun z=>(hch c z).2.2.1 x c e rfl) ho (I.freeC x c e)
 ·obtain⟨e,n,ne,nf,d⟩:=I.pin p hp
  have nch:p.1∉ch:=fun z=>(hch p.1 z).2.2.2 p hp rfl
  exact⟨keep p.1 p.2 ne nf nch e n,free p.1 p.2 nch e n,ne,nf,d⟩
theorem Inv.un {t':Nat}(I:Inv X pins σ H s)(u:Un X.fs [] H H' s.heap h')(hok:fm X.prog X.w H' h'):Inv X pins σ H' {s with heap:=h',toks:=t'}:=by
 obtain⟨m,⟨o,es,ep,ho,r⟩,_⟩:=id I.loc
 obtain⟨sl,hL⟩:=u.any ho I.free (by simp)
 exact I.step (g':=s.gens) (d':=s.drawn) (ch:=[]) (fun _ z=>nomatch z) (fun b o _ hb _ e n=>u.keep b o e n hb (by simp)) (fun b o _ hb _ e n=>u.slot b o e n hb (by simp)) (fun b o _ e n=>u.free b o e n (by simp)) (fun b o _ e=>u.there b o e (by simp)) u.tups u.frzs u.tbls (fun m' hm=>by
  obtain⟨o',es',ep',ho',r'⟩:=hm
  rw[ho] at ho';cases ho'
  exact⟨_,es',ep',hL,r'⟩) hok I.bare
theorem Inv.call {g':Array GenState}{t':Nat}{d':Drawn}{ch:List Addr}(I:Inv X pins σ H s)(u:Un (b8 X.stack) ch H H' s.heap h')(hok:fm X.prog X.w H' h')(hg:AllBare g')
  (hch:∀b∈ch,(b∈X.ex\/X.s₀.heap.objs.size<=b)/\b≠X.env.locals/\(∀x c,X.env.cells.lookup x=some c->c≠b)/\∀p∈X.pn ++ pins,p.1≠b) :
  Inv X pins σ H' {s with heap:=h',gens:=g',drawn:=d',toks:=t'}:=by
 obtain⟨m,⟨o,es,ep,ho,r⟩,_⟩:=id I.loc
 obtain⟨sl,hL⟩:=u.any ho I.free fun z=>(hch _ z).2.1 rfl
 exact I.step (ch:=ch) hch (fun b o hL hb hc e n=>u.keep b o e n (fun z=>(List.mem_cons.mp (I.stkSub b z)).elim hL hb) hc) (fun b o _ _ hc e n=>u.any e n hc) (fun b o hc e n=>u.free b o e n hc) (fun b o hc e=>u.there b o e hc) u.tups u.frzs u.tbls (fun m' hm=>by
  obtain⟨o',es',ep',ho',r'⟩:=hm
  rw[ho] at ho';cases ho'
  exact⟨_,es',ep',hL,r'⟩) hok hg
theorem Inv.turned {t':Nat}{it:Addr}(I:Inv X pins σ H s)(k:∀b o,b≠it->s.heap.get? b=some o->h'.get? b=some o)(hn:H it=none)(hL:it≠X.env.locals)
  (h1:it∈X.ex\/X.s₀.heap.objs.size<=it) (h2:∀x c,X.env.cells.lookup x=some c->c≠it) (h3:∀p∈X.pn ++ pins,p.1≠it):Inv X pins σ H {s with heap:=h',toks:=t'}:=by
 have nit:∀b u,H b=some u->b≠it:=fun b u e z=>by rw[z,hn] at e;cases e
 refine I.step (g':=s.gens) (d':=s.drawn) (ch:=[it]) (fun b hb=>?_) (fun b o _ _ hc e _=>k b o (fun z=>hc (by simp[z])) e) (fun b o _ _ hc e _=>⟨o.slots,k b o (fun z=>hc (by simp[z])) e⟩) (fun _ _ _ _ n=>n)
  (fun b o hc e=>⟨o,k b o (fun z=>hc (by simp[z])) e⟩) (fun _ _ e=>e) (fun _ _ _ e=>e) (fun b ps e=>⟨#[],by rw[e];simp⟩) (fun m hm=>?_) (fun b u e=>?_) I.bare
 ·have e:b=it:=by simpa using hb
  subst e
  exact⟨h1,hL,h2,h3⟩
 ·obtain⟨o,es,ep,ho,r⟩:=hm
  exact⟨o,es,ep,k _ o (Ne.symm hL) ho,r⟩
 ·refine (I.hok b u e).stay (fun c v hc q=>k c v ?_ q) (fun _ q=>q) fun _ _ q=>q
  rcases hc with z |z
  ·rw[z];exact nit b u e
  ·exact nit c _ z
theorem Inv.tok (I:Inv X pins σ H s)(t:Nat):Inv X pins σ H {s with toks:=t}:=I.un (h':=s.heap) (t':=t) Un.refl I.hok
theorem Inv.kept {t':Nat}(I:Inv X pins σ H s)(k:∀b u,s.heap.get? b=some u->h'.get? b=some u):Inv X pins σ H {s with heap:=h',toks:=t'}:=I.un (Un.kept k) (I.hok.kept k)
theorem Inv.laid {a:Addr}{o:HO}{t':Nat}(I:Inv X pins σ H s)(k:∀b u,s.heap.get? b=some u->h'.get? b=some u)(hp:s.heap.objs.size<=a)(new:aV X.prog X.w (upd H a o) h' a o) :
  Inv X pins σ (upd H a o) {s with heap:=h',toks:=t'}:=I.un (Un.laid k hp (I.hok.fresh hp)) (I.hok.laid k hp new)
theorem Inv.write {x e:Addr}{o:HO}{t':Nat}(I:Inv X pins σ H s)(mu:BL (H x))(he:e=x\/H e=some (.own x))(k:∀b u,b≠e->s.heap.get? b=some u->h'.get? b=some u)(heo:∃u,h'.get? e=some u)
  (new:aV X.prog X.w (upd H x o) h' x o):Inv X pins σ (upd H x o) {s with heap:=h',toks:=t'}:=I.un (Un.write mu he k heo) (I.hok.write mu he k heo new)
theorem Inv.pins_of {pins':List (Addr×Obj)}(I:Inv X pins σ H s)(h:∀p∈pins',s.heap.get? p.1=some p.2/\H p.1=none/\p.1≠X.env.locals/\p.1∉X.fs/\∀v,p.2.data≠.cell v):Inv X pins' σ H s:=
 ⟨I.ok,I.os,I.bare,I.base,I.loc,I.cell,I.free,I.freeC,fun p hp=>(List.mem_append.mp hp).elim (fun z=>I.pin p (List.mem_append_left _ z)) (h p),I.hok,I.len⟩
theorem jA {N:List Str}(hN:N.Nodup){i j:Nat}{x:Str}(a:N[i]? =some x)(b:N[j]? =some x):i=j:=by
 obtain⟨h1,e1⟩:=List.getElem?_eq_some_iff.mp a
 obtain⟨h2,e2⟩:=List.getElem?_eq_some_iff.mp b
 exact (List.getElem_inj hN).mp (e1.trans e2.symm)
theorem ll {M:Model}{A:Around}{E:Value->Shared->Prop}{i:Nat}{x:Str}{v:V}{u:Value}{Q:Unit->Shared->Prop}(I:Inv X pins σ H s)(hN:X.N.Nodup)(hi:X.N[i]? =some x)(hx:Loc X.env.scope x)(r:RelV v u)
  (h:∀s',Inv X pins (σ.set i (some v)) H s'->(∃a,Heap.SameBut a s.heap s'.heap/\(a=X.env.locals\/X.env.cells.lookup x=some a))->Q () s') (hf:X.fn x=true\/X.env.scope.names.lookup x=some .local:=by first |exact .inl rfl |exact .inr rfl |assumption):wpAny M A (storeName X.env x u) Q E s:=by
 obtain⟨m,hn,hl⟩:=id I.loc
 have hcls:(X.env.scope.kind == .class || (X.env.scope.kind == .module && X.env.locals != X.env.globals))=false:=by rw[I.ok.kind];rfl
 have hiσ:i < σ.length:=by rw[I.len];exact (List.getElem?_eq_some_iff.mp hi).1
 have cne:=I.cne
 have tracked:∀{a:Addr} {h':Heap},(∃o,s.heap.get? a=some o/\H a=none)->Heap.SameBut a s.heap h'->fm X.prog X.w H h':=fun {a h'} ha hs b ob e=>by
  obtain⟨_,_,hfree⟩:=ha
  refine (I.hok b ob e).stay (fun c w' hc q=>(hs.2 c ?_).trans q) (fun _ q=>q) fun _ _ q=>q
  rintro rfl
  rcases hc with rfl |hc
  ·rw[hfree] at e;cases e
  ·rw[hfree] at hc;cases hc
 rcases hx with hk |hk
 ·refine wpAny_storeName_local hk hn (fun h' hn' hs=>?_) hcls
  obtain⟨oL,_,_,hoL,_⟩:=id hn
  refine h _ ⟨I.ok,I.os,I.bare,⟨fun b o e n hb hx=>?_,fun b o e n hb hx=>?_,I.base.free,fun b o e hx=>?_,I.base.tups,I.base.frzs,I.base.tbls⟩,⟨_,hn',fun j y v' e1 e2 e3=>?_⟩,fun y c e=>?_,I.free,I.freeC,fun p hp=>?_,tracked ⟨oL,hoL,I.free⟩ hs,by simpa using I.len⟩ ⟨_,hs,.inl rfl⟩
  ·exact (hs.2 b (Nat.ne_of_lt (Nat.lt_of_lt_of_le (Heap.lt_size e) I.ok.above))).trans (I.base.keep b o e n hb hx)
  ·obtain⟨sl,e1⟩:=I.base.slot b o e n hb hx
   exact⟨sl,(hs.2 b (Nat.ne_of_lt (Nat.lt_of_lt_of_le (Heap.lt_size e) I.ok.above))).trans e1⟩
  ·obtain⟨o',e1⟩:=I.base.there b o e hx
   exact⟨o',(hs.2 b (Nat.ne_of_lt (Nat.lt_of_lt_of_le (Heap.lt_size e) I.ok.above))).trans e1⟩
  ·by_cases hj:j=i
   ·subst hj
    rw[hi] at e1;cases e1
    rw[List.getElem?_set_self hiσ] at e2
    cases e2
    exact⟨u,r,.inl ⟨hk,by simp⟩⟩
   ·rw[List.getElem?_set_ne (Ne.symm hj)] at e2
    obtain⟨u',r',q⟩:=hl j y v' e1 e2 e3
    refine⟨u',r',?_⟩
    rcases q with⟨k,e⟩ | ⟨k,c,e,z⟩
    ·refine .inl ⟨k,?_⟩
     have:y≠x:=fun e=>hj (jA hN e1 (e▸hi))
     simp[this,e]
    ·exact .inr ⟨k,c,e,z.sameBut hs (cne y c e)⟩
  ·obtain⟨w',z⟩:=I.cell y c e
   exact⟨w',z.sameBut hs (cne y c e)⟩
  ·obtain⟨e,n,ne,nf,d⟩:=I.pin p hp
   exact⟨(hs.2 p.1 ne).trans e,n,ne,nf,d⟩
 ·have hfn:X.fn x=true:=by
   rcases hf with z |z
   ·exact z
   ·rw[z] at hk;cases hk
  obtain⟨c,hc⟩:=I.ok.has x (.inl hk)
  obtain⟨w',z⟩:=I.cell x c hc
  refine wpAny_storeName_cell I.ok.kind hk hc z (fun h' hc' hs=>?_)
  obtain⟨oc,hoc,hocd⟩:=id z
  refine h {s with heap:=h'} ⟨I.ok,I.os,I.bare,⟨fun b o e n hb hx=>?_,fun b o e n hb hx=>?_,I.base.free,fun b o e hx=>?_,I.base.tups,I.base.frzs,I.base.tbls⟩,⟨m,hn.sameBut hs (Ne.symm (cne x c hc)),fun j y v' e1 e2 e3=>?_⟩,fun y c' e=>?_,I.free,I.freeC,fun p hp=>?_,tracked ⟨oc,hoc,I.freeC x c hc⟩ hs,by simpa using I.len⟩ ⟨c,hs,.inr hc⟩
  ·exact (hs.2 b (Nat.ne_of_lt (Nat.lt_of_lt_of_le (Heap.lt_size e) (I.ok.cab x c hfn hc)))).trans (I.base.keep b o e n hb hx)
  ·obtain⟨sl,e1⟩:=I.base.slot b o e n hb hx
   exact⟨sl,(hs.2 b (Nat.ne_of_lt (Nat.lt_of_lt_of_le (Heap.lt_size e) (I.ok.cab x c hfn hc)))).trans e1⟩
  ·obtain⟨o',e1⟩:=I.base.there b o e hx
   exact⟨o',(hs.2 b (Nat.ne_of_lt (Nat.lt_of_lt_of_le (Heap.lt_size e) (I.ok.cab x c hfn hc)))).trans e1⟩
  ·by_cases hj:j=i
   ·subst hj
    rw[hi] at e1;cases e1
    rw[List.getElem?_set_self hiσ] at e2
    cases e2
    exact⟨u,r,.inr ⟨.inl hk,c,hc,hc'⟩⟩
   ·rw[List.getElem?_set_ne (Ne.symm hj)] at e2
    obtain⟨u',r',q⟩:=hl j y v' e1 e2 e3
    refine⟨u',r',?_⟩
    rcases q with q | ⟨k,c',e,z'⟩
    ·exact .inl q
    ·refine .inr ⟨k,c',e,z'.sameBut hs ?_⟩
     rintro rfl
     exact hj (jA hN e1 (I.ok.inj _ _ _ e hc▸hi))
  ·by_cases hcc:c'=c
   ·subst hcc;exact⟨_,hc'⟩
   ·obtain⟨w2,z2⟩:=I.cell y c' e
    exact⟨w2,z2.sameBut hs hcc⟩
  ·obtain⟨e,n,ne,nf,d⟩:=I.pin p hp
   refine⟨(hs.2 p.1 ?_).trans e,n,ne,nf,d⟩
   intro q
   rw[q,hoc] at e
   have q':oc=p.2:=Option.some.inj e
   exact d w' (by rw[<-q'];exact hocd)
theorem dS {M:Model}{A:Around}{E:Value->Shared->Prop}{i:Nat}{x:Str}{v:V}{u:Value}{Q:Unit->Shared->Prop}(I:Inv X pins σ H s)(hN:X.N.Nodup)(hi:X.N[i]? =some x)(hx:Loc X.env.scope x)(r:RelV v u)
  (h:∀s',Inv X pins (σ.set i (some v)) H s'->Q () s') (hf:X.fn x=true\/X.env.scope.names.lookup x=some .local:=by first |exact .inl rfl |exact .inr rfl |assumption):wpAny M A (storeName X.env x u) Q E s:=
 ll I hN hi hx r (fun s' I' _=>h s' I') hf
theorem Inv.call' {s':Shared}{ch:List Addr}(I:Inv X pins σ H s)(ho:s'.os=s.os)(u:Un (b8 X.stack) ch H H' s.heap s'.heap)(hok:fm X.prog X.w H' s'.heap)(hg:AllBare s'.gens)
  (hch:∀b∈ch,(b∈X.ex\/X.s₀.heap.objs.size<=b)/\b≠X.env.locals/\(∀x c,X.env.cells.lookup x=some c->c≠b)/\∀p∈X.pn ++ pins,p.1≠b):Inv X pins σ H' s':=by
 obtain⟨h',g',d',t',o'⟩:=s'
 have e:o'=s.os:=ho
 subst e
 exact I.call (g':=g') (t':=t') (d':=d') u hok hg hch
end
abbrev XK:=Value->Option Addr->Hp->Prop
abbrev St:=List (Option V)
abbrev VK:=V->Hp->Prop
abbrev TE:=St->Hp->VK->Prop
abbrev TT:=St->Hp->(Bool->Hp->Prop)->Prop
abbrev TA:=St->Hp->(List V->Hp->Prop)->Prop
structure Ends where
 nx:St->Hp->Prop
 rt:VK
 bk:St->Hp->Prop:=fun _ _=>False
 ct:St->Hp->Prop:=fun _ _=>False
abbrev TS:=Ends->St->Hp->Prop
def EP (X:Cx)(pins:List (Addr×Obj))(σ:St)(Q:VK)(u:Value)(s':Shared):Prop:=∃v H',Inv X pins σ H' s'/\RelV v u/\Q v H'
def TP (X:Cx)(pins:List (Addr×Obj))(σ:St)(Q:Bool->Hp->Prop)(b:Bool)(s':Shared):Prop:=∃H',Inv X pins σ H' s'/\Q b H'
def AP (X:Cx)(pins:List (Addr×Obj))(σ:St)(Q:List V->Hp->Prop)(us:List Value)(s':Shared):Prop:=∃vs H',Inv X pins σ H' s'/\Vals vs us/\Q vs H'
def SP (X:Cx)(pins:List (Addr×Obj))(D:Ends)(f:Flow)(s':Shared):Prop:=
 match f with
 | .next=>∃σ' H',Inv X pins σ' H' s'/\D.nx σ' H'
 | .brk=>∃σ' H',Inv X pins σ' H' s'/\D.bk σ' H'
 | .cont=>∃σ' H',Inv X pins σ' H' s'/\D.ct σ' H'
 | .ret u=>∃v σ' H',Inv X pins σ' H' s'/\RelV v u/\D.rt v H'
def PE (X:Cx)(e:Expr)(t:TE):Prop:=
 ∀(pins:List (Addr×Obj)) (s:Shared) (σ:St) (H:Hp) (Q:VK),Inv X pins σ H s->t σ H Q->wpAny (model X.prog X.w) X.A (eval e X.env) (EP X pins σ Q) X.xe s
def PT (X:Cx)(e:Expr)(t:TT):Prop:=
 ∀(pins:List (Addr×Obj)) (s:Shared) (σ:St) (H:Hp) (Q:Bool->Hp->Prop),Inv X pins σ H s->t σ H Q->wpAny (model X.prog X.w) X.A (isTrue e X.env (eval e X.env)) (TP X pins σ Q) X.xe s
def PW (X:Cx)(e:Expr)(t:TT):Prop:=
 ∀(whole:Sem Value) (pins:List (Addr×Obj)) (s:Shared) (σ:St) (H:Hp) (Q:Bool->Hp->Prop),Inv X pins σ H s->t σ H Q->wpAny (model X.prog X.w) X.A (isTrue e X.env whole) (TP X pins σ Q) X.xe s
theorem PW.pt {X:Cx}{e:Expr}{t:TT}(h:PW X e t):PT X e t:=h _
def PA (X:Cx)(es:List Expr)(t:TA):Prop:=
 ∀(pos:Pos) (pins:List (Addr×Obj)) (s:Shared) (σ:St) (H:Hp) (Q:List V->Hp->Prop),Inv X pins σ H s->t σ H Q->wpAny (model X.prog X.w) X.A (spliced (backTo pos (starEach es X.env))) (AP X pins σ Q) X.xe s
def PS (X:Cx)(st:Stmt)(t:TS):Prop:=
 ∀(pins:List (Addr×Obj)) (s:Shared) (σ:St) (H:Hp) (D:Ends),Inv X pins σ H s->t D σ H->wpAny (model X.prog X.w) X.A (exec st X.env) (SP X pins D) X.xe s
def i5 (X:Cx)(st:List Stmt)(t:TS):Prop:=
 ∀(pins:List (Addr×Obj)) (s:Shared) (σ:St) (H:Hp) (D:Ends),Inv X pins σ H s->t D σ H->wpAny (model X.prog X.w) X.A (execs st X.env) (SP X pins D) X.xe s
theorem bb {α:Type}{t:Sem α}{Q Q':α->Shared->Prop}{M:Model}{A:Around}{E:Value->Shared->Prop}{s:Shared}(h:wpAny M A t Q E s)(hQ:∀a s,Q a s->Q' a s):wpAny M A t Q' E s:=wpAny_mono h hQ fun _ _ x=>x
end L2
namespace L2
open PySem PySem.Spec PyProof.Rows
section
variable {X:Cx}
theorem bin {a b:Expr}{ta tb:TE}(ha:PE X a ta)(hb:PE X b tb){pins:List (Addr×Obj)}{s:Shared}{σ:St}{H:Hp}{R:V->V->Hp->Prop}(I:Inv X pins σ H s)(h:ta σ H fun x H1=>tb σ H1 fun y H2=>R x y H2)
  {α:Type} {Q:α->Shared->Prop} {f:Value->Value->Sem α}
  (hf:∀v u s2 x y H2,Inv X pins σ H2 s2->RelV x v->RelV y u->R x y H2->wpAny (model X.prog X.w) X.A (f v u) Q X.xe s2) :
  wpAny (model X.prog X.w) X.A (eval a X.env) (fun v s₁=>wpAny (model X.prog X.w) X.A (eval b X.env) (fun u s₂=>wpAny (model X.prog X.w) X.A (f v u) Q X.xe s₂) X.xe s₁) X.xe s:=by
 refine bb (ha pins s σ H _ I h) fun v s1 ⟨x,H1,I1,r1,q1⟩=>?_
 refine bb (hb pins s1 σ H1 _ I1 q1) fun u s2 ⟨y,H2,I2,r2,q2⟩=>?_
 exact hf v u s2 x y H2 I2 r1 r2 q2
def wq (i:Nat):TE:=fun σ H Q=>∃v,σ[i]? =some (some v)/\Q v H
def tC (v:V):TE:=fun _ H Q=>Q v H
theorem cH {i:Nat}{x:Str}{pos:Pos}(hN:X.N[i]? =some x)(hv:oy X.env.scope x)(hd:(x == ("__debug__":Str))=false:=by decide)(hcd:(x == ("__classdict__":Str))=false:=by decide):PE X (.Name x pos) (wq i):=by
 intro pins s σ H Q I h
 obtain⟨v,e,h⟩:=h
 obtain⟨m,hn,hl⟩:=I.loc
 obtain⟨u,r,l⟩:=hl i x v hN e hv
 have fin:EP X pins σ Q u s:=⟨v,H,I,r,h⟩
 rcases l with⟨hk,hm⟩ | ⟨hk,c,hc,hcell⟩
 ·exact wpAny_Name (wpAny_loadName_local I.ok.kind hk hn hm fin) hd
 ·rcases hk with hk |hk
  ·exact wpAny_Name (wpAny_loadName_cell I.ok.kind hk hc hcell fin) hd
  ·exact wpAny_Name (wpAny_loadName_free I.ok.kind hk hc hcell fin hcd) hd
theorem jq {i j pos}:PE X (.Constant (.int i) j pos) (tC (.int i)):=fun _ _ _ H _ I h=>wpAny_Constant_int ⟨.int i,H,I.tok _,⟨_,rfl⟩,h⟩
theorem vt {b j pos}:PE X (.Constant (.bool b) j pos) (tC (.bl b)):=fun _ _ _ H _ I h=>Constant_bool ⟨.bl b,H,I,rfl,h⟩
theorem zJ {j pos}:PE X (.Constant .none j pos) (tC .non):=fun _ _ _ H _ I h=>Constant_none ⟨.non,H,I,rfl,h⟩
theorem jk {x j pos}:PE X (.Constant (.str x) j pos) (tC (.str x)):=fun _ _ _ H _ I h=>Calls.Constant_str ⟨.str x,H,I.tok _,⟨_,rfl⟩,h⟩
def Gl (X:Cx)(x:Str):Prop:=X.env.kindOf x=some .globalImplicit
theorem ig {E:Value->Shared->Prop}{pins:List (Addr×Obj)}{s:Shared}{σ:St}{H:Hp}{x:Str}{u:Value}{pos:Pos}{Q:Value->Shared->Prop}(I:Inv X pins σ H s)(hg:Gl X x)(hm:X.mg x=some u)(h:Q u s)
  (hd:(x == ("__debug__":Str))=false:=by decide):wpAny (model X.prog X.w) X.A (eval (.Name x pos) X.env) Q E s:=
 Calls.Name_function_global I.ok.kind hg (Calls.loadGlobal_global (by rw[I.ok.glob];exact I.mod.glob.keeps I.bk) hm h) hd
theorem jR {E:Value->Shared->Prop}{pins:List (Addr×Obj)}{s:Shared}{σ:St}{H:Hp}{x:Str}{u:Value}{pos:Pos}{Q:Value->Shared->Prop}(I:Inv X pins σ H s)(hg:Gl X x)(hm:X.mg x=none)(hv:bootBuiltins x=some u)(h:Q u s)
  (hn:x≠"__name__":=by decide) (hd:(x == ("__debug__":Str))=false:=by decide):wpAny (model X.prog X.w) X.A (eval (.Name x pos) X.env) Q E s:=by
 obtain⟨mb,h1,h2⟩:=I.mod.blt
 exact Calls.Name_function_global I.ok.kind hg (Calls.loadGlobal_builtin (by rw[I.ok.glob];exact I.mod.glob.keeps I.bk) hm (by rw[I.ok.blt];exact h1.keeps I.bk) ((h2 x hn).trans hv) h) hd
theorem bp {x:Str}{v:V}{u:Value}{pos:Pos}(hg:Gl X x)(hm:X.mg x=some u)(r:RelV v u)(hd:(x == ("__debug__":Str))=false:=by decide):PE X (.Name x pos) (tC v):=
 fun _ _ _ H _ I h=>ig I hg hm ⟨v,H,I,r,h⟩ hd
theorem p7 {x:Str}{v:V}{u:Value}{pos:Pos}(hg:Gl X x)(hm:X.mg x=none)(hv:bootBuiltins x=some u)(r:RelV v u)(hn:x≠"__name__":=by decide)(hd:(x == ("__debug__":Str))=false:=by decide):PE X (.Name x pos) (tC v):=
 fun _ _ _ H _ I h=>jR I hg hm hv ⟨v,H,I,r,h⟩ hn hd
variable {a b:Expr}{ta tb:TE}{pos:Pos}
def PC (X:Cx)(op:CmpOp)(a b:Expr)(t:TE):Prop:=
 ∀(pins:List (Addr×Obj)) (s:Shared) (σ:St) (H:Hp) (Q:VK),Inv X pins σ H s->t σ H Q->
  wpAny (model X.prog X.w) X.A (eval a X.env) (fun v s₁=>wpAny (model X.prog X.w) X.A (eval b X.env) (fun u s₂=>wpAny (model X.prog X.w) X.A (compareOp op v u) (EP X pins σ Q) X.xe s₂) X.xe s₁) X.xe s
theorem vk (b:Expr){op:CmpOp}(h:op≠.In)(h2:op≠.NotIn):behindInMarks op b=false:=by
 have e1:(op == CmpOp.In)=false:=by cases op <;> first |rfl |exact absurd rfl h
 have e2:(op == CmpOp.NotIn)=false:=by cases op <;> first |rfl |exact absurd rfl h2
 cases b <;> simp[behindInMarks,e1,e2]
def tB (t:TE):TT:=fun σ H Q=>t σ H fun x H1=>∃c,x=.bl c/\Q c H1
theorem Cj {op:CmpOp}{t:TE}(h:PC X op a b t)(h1:behindInMarks op b=false:=by first |exact vk _ (by decide) (by decide) |rfl):PT X (.Compare a [op] [b] pos) (tB t):=by
 intro pins s σ H Q I hw
 refine wpAny_isTrue_Compare1 (bb (h pins s σ H _ I hw) fun v s1 h1=>bb h1 fun u s2 h2=>bb h2 fun c s3 ⟨x,H1,I1,r1,q1⟩=>?_) h1
 obtain⟨d,rfl,q⟩:=q1
 cases r1
 exact wpAny_truthy_bool ⟨H1,I1,q⟩
theorem u3 {e:Expr}{t:TE}(h:PE X e t)(he:∀whole,isTrue e X.env whole=(do let v <-whole;standAt e.pos;holding [v] (truthy v)):=by intro _;rfl):PT X e (tB t):=by
 intro pins s σ H Q I hw
 refine isTrue_plain (bb (h pins s σ H _ I hw) fun v s1 ⟨x,H1,I1,r1,q1⟩=>?_) (he _)
 obtain⟨d,rfl,q⟩:=q1
 cases r1
 exact wpAny_truthy_bool ⟨H1,I1,q⟩
variable {tA tB':TT}{rest:List Expr}
def CW (t u:TT):TT:=fun σ H Q=>t σ H fun c H1=>if c=true then u σ H1 Q else Q false H1
def DG (t u:TT):TT:=fun σ H Q=>t σ H fun c H1=>if c=true then Q true H1 else u σ H1 Q
def CT (t:TT):TT:=fun σ H Q=>t σ H fun c H1=>Q (!c) H1
theorem wI (ha:PT X a tA):PW X (.BoolOp .And [a] pos) tA:=by
 intro wh pins s σ H Q I h
 refine isTrue_and (bb (ha pins s σ H Q I h) fun c s1 e=>?_)
 cases c with
 |true=>exact isTrue_and_nil e
 |false=>exact e
theorem tV (ha:PT X a tA):PW X (.BoolOp .Or [a] pos) tA:=by
 intro wh pins s σ H Q I h
 refine isTrue_or (bb (ha pins s σ H Q I h) fun c s1 e=>?_)
 cases c with
 |false=>exact isTrue_or_nil e
 |true=>exact e
theorem zj (ha:PT X a tA)(hb:PW X (.BoolOp .And (b :: rest) pos) tB'):PW X (.BoolOp .And (a :: b :: rest) pos) (CW tA tB'):=by
 intro wh pins s σ H Q I h
 refine isTrue_and (bb (ha pins s σ H _ I h) fun c s1 ⟨H1,I1,q1⟩=>?_)
 cases c with
 |true=>exact hb wh pins s1 σ H1 Q I1 q1
 |false=>exact⟨H1,I1,q1⟩
theorem yo (ha:PT X a tA)(hb:PW X (.BoolOp .Or (b :: rest) pos) tB'):PW X (.BoolOp .Or (a :: b :: rest) pos) (DG tA tB'):=by
 intro wh pins s σ H Q I h
 refine isTrue_or (bb (ha pins s σ H _ I h) fun c s1 ⟨H1,I1,q1⟩=>?_)
 cases c with
 |true=>exact⟨H1,I1,q1⟩
 |false=>exact hb wh pins s1 σ H1 Q I1 q1
theorem pD (ha:PT X a tA):PT X (.UnaryOp .Not a pos) (CT tA):=by
 intro pins s σ H Q I h
 exact isTrue_not (ha pins s σ H (fun c H1=>Q (!c) H1) I h)
def Be (ta tb:TE):TE:=fun σ H Q=>ta σ H fun x H1=>∃c,x=.bl c/\if c=true then tb σ H1 Q else Q (.bl false) H1
def Br (ta:TE):TE:=fun σ H Q=>ta σ H fun x H1=>∃c,x=.bl c/\Q (.bl (!c)) H1
theorem Ad {op}{t:TE}(h:PE X a t):PE X (.BoolOp op [a] pos) t:=fun pins s σ H Q I hw=>BoolOp_one (h pins s σ H Q I hw)
theorem zi (ha:PE X a ta)(hb:PE X (.BoolOp .And (b :: rest) pos) tb):PE X (.BoolOp .And (a :: b :: rest) pos) (Be ta tb):=by
 intro pins s σ H Q I h
 refine BoolOp_and (bb (ha pins s σ H _ I h) fun v s1 ⟨x,H1,I1,r1,q1⟩=>?_)
 obtain⟨c,rfl,q1⟩:=q1
 cases r1
 refine wpAny_truthy_bool ?_
 cases c with
 |true=>exact hb pins s1 σ H1 Q I1 q1
 |false=>exact⟨.bl false,H1,I1,rfl,q1⟩
theorem yU (ha:PE X a ta):PE X (.UnaryOp .Not a pos) (Br ta):=by
 intro pins s σ H Q I h
 refine UnaryOp_ (bb (ha pins s σ H _ I h) fun v s1 ⟨x,H1,I1,r1,q1⟩=>?_)
 obtain⟨c,rfl,q1⟩:=q1
 cases r1
 exact not_of (wpAny_truthy_bool ⟨.bl (!c),H1,I1,rfl,q1⟩)
end
end L2
namespace L2
open PySem PySem.Spec PyProof.Rows
def fC (K:PySem.W.Frag)(H:Hp)(a:Addr)(xs:List V):Prop:=
 Rd H a (.lst xs)\/
  ∃(o:Obj) (its:Array Value) (n:Nat),K.lookup a=some o/\o.cls=.type "list"/\o.dict=none/\o.data=.seq its n/\its.size<=sizeLine/\Vals xs its.toList
def dq (K:PySem.W.Frag)(H:Hp)(a:Addr)(xs:List V):Prop:=
 Rd H a (.tup xs)\/
  ∃(o:Obj) (its:Array Value) (n:Nat),K.lookup a=some o/\o.cls=.type "tuple"/\o.data=.seq its n/\its.size<=sizeLine/\Vals xs its.toList/\o.dict=none
def CV:Value->Option V
 | .none=>some .non
 | .bool b=>some (.bl b)
 | .int i _=>some (.int i)
 | .str x _=>some (.str x)
 | .bytes b _=>some (.byt b)
 | .float b _=>some (.flt b)
 | .ref a=>some (.ref a)
 | .type n=>some (.ty n)
 |_=>none
theorem RelV.abs {x:V}{u:Value}(r:RelV x u):CV u=some x:=by
 cases x with
 |non=>cases r;rfl
 |bl _=>cases r;rfl
 |int _=>obtain⟨t,rfl⟩:=r;rfl
 |str _=>obtain⟨t,rfl⟩:=r;rfl
 |byt _=>obtain⟨t,rfl⟩:=r;rfl
 |flt _=>obtain⟨t,rfl⟩:=r;rfl
 |ref _=>cases r;rfl
 |ty _=>cases r;rfl
theorem RelV.inj {x y:V}{u:Value}(r:RelV x u)(q:RelV y u):x=y:=Option.some.inj (r.abs.symm.trans q.abs)
theorem Vals.inj:∀{xs ys:List V} {us:List Value},Vals xs us->Vals ys us->xs=ys
 |_,_,_,.nil,.nil=>rfl
 |_,_,_,.cons r t,.cons r' t'=>by rw[r.inj r',Vals.inj t t']
section
variable {X:Cx}{pins:List (Addr×Obj)}{σ:St}{H:Hp}{s:Shared}{a:Addr}{xs ys:List V}
theorem Inv.list (I:Inv X pins σ H s)(h:fC X.K H a xs):∃its:List Value,Vals xs its/\PlainL s.heap a its.toArray/\xs.length<=sizeLine:=by
 rcases h with h | ⟨o,its,n,hk,hc,hd,hs,hz,r⟩
 ·obtain⟨z,its,n,r,e⟩:=h.ok I.hok
  exact⟨its,r,⟨_,n,e,rfl,rfl,rfl⟩,z⟩
 ·refine⟨its.toList,r,⟨o,n,I.kIn a o hk,hc,hd,by simpa using hs⟩,?_⟩
  have e:=r.length
  simp only[Array.length_toList] at e
  omega
theorem Inv.tuple (I:Inv X pins σ H s)(h:dq X.K H a xs):∃its:List Value,Vals xs its/\IsTup s.heap a its.toArray/\xs.length<=sizeLine:=by
 rcases h with h | ⟨o,its,n,hk,hc,hs,hz,r,_⟩
 ·obtain⟨z,its,r,p⟩:=h.ok I.hok
  exact⟨its,r,p.isTup,z⟩
 ·refine⟨its.toList,r,⟨o,I.kIn a o hk,hc,n,by simpa using hs⟩,?_⟩
  have e:=r.length
  simp only[Array.length_toList] at e
  omega
theorem Inv.list_inj (I:Inv X pins σ H s)(h:fC X.K H a xs)(h':fC X.K H a ys):xs=ys:=by
 obtain⟨its,r,⟨o,n,e,_,_,d⟩,_⟩:=I.list h
 obtain⟨its',r',⟨o',n',e',_,_,d'⟩,_⟩:=I.list h'
 rw[e] at e';cases e'
 rw[d] at d'
 injection d' with d1 _
 have:its=its':=by simpa using congrArg Array.toList d1
 subst this
 exact r.inj r'
theorem Inv.tuple_inj (I:Inv X pins σ H s)(h:dq X.K H a xs)(h':dq X.K H a ys):xs=ys:=by
 obtain⟨its,r,⟨o,e,_,n,d⟩,_⟩:=I.tuple h
 obtain⟨its',r',⟨o',e',_,n',d'⟩,_⟩:=I.tuple h'
 rw[e] at e';cases e'
 rw[d] at d'
 injection d' with d1 _
 have:its=its':=by simpa using congrArg Array.toList d1
 subst this
 exact r.inj r'
end
abbrev Cx.wish (X:Cx)(E:Value->Shared->Prop):Cx:={X with xe:=E}
abbrev Cx.nox (X:Cx):Cx:=X.wish fun _ _=>False
theorem Cx.Ok.wish {X:Cx}(ok:X.Ok)(E:Value->Shared->Prop):(X.wish E).Ok:=
 ⟨ok.mod,ok.kind,ok.glob,ok.blt,ok.above,ok.inj,ok.has,ok.cab,ok.hd,ok.frames,ok.stk,ok.exf,ok.bs,ok.bsz,ok.noex,ok.exfs,ok.funs,ok.frf⟩
theorem Cx.Ok.unwish {X:Cx}{E:Value->Shared->Prop}(ok:(X.wish E).Ok):X.Ok:=
 ⟨ok.mod,ok.kind,ok.glob,ok.blt,ok.above,ok.inj,ok.has,ok.cab,ok.hd,ok.frames,ok.stk,ok.exf,ok.bs,ok.bsz,ok.noex,ok.exfs,ok.funs,ok.frf⟩
section
variable {X:Cx}{pins:List (Addr×Obj)}{σ:St}{H:Hp}{s:Shared}{E:Value->Shared->Prop}
theorem Inv.wish (I:Inv X pins σ H s)(E:Value->Shared->Prop):Inv (X.wish E) pins σ H s:=⟨I.ok.wish E,I.os,I.bare,I.base,I.loc,I.cell,I.free,I.freeC,I.pin,I.hok,I.len⟩
theorem Inv.unwish (I:Inv (X.wish E) pins σ H s):Inv X pins σ H s:=⟨I.ok.unwish,I.os,I.bare,I.base,I.loc,I.cell,I.free,I.freeC,I.pin,I.hok,I.len⟩
theorem SP.unwish {D:Ends}{f:Flow}{s':Shared}(h:SP (X.wish E) pins D f s'):SP X pins D f s':=by
 cases f with
 |next=>obtain⟨σ',H',I,q⟩:=h;exact⟨σ',H',I.unwish,q⟩
 |brk=>obtain⟨σ',H',I,q⟩:=h;exact⟨σ',H',I.unwish,q⟩
 |cont=>obtain⟨σ',H',I,q⟩:=h;exact⟨σ',H',I.unwish,q⟩
 |ret u=>obtain⟨v,σ',H',I,r,q⟩:=h;exact⟨v,σ',H',I.unwish,r,q⟩
theorem PE.nox {e:Expr}{t:TE}(h:PE X.nox e t):PE X e t:=fun pins s σ H Q I hw=>
 wpAny_mono (h pins s σ H Q (I.wish _) hw) (fun _ _ ⟨v,H',I',r,q⟩=>⟨v,H',I'.unwish,r,q⟩) fun _ _ z=>False.elim z
theorem PT.nox {e:Expr}{t:TT}(h:PT X.nox e t):PT X e t:=fun pins s σ H Q I hw=>
 wpAny_mono (h pins s σ H Q (I.wish _) hw) (fun _ _ ⟨H',I',q⟩=>⟨H',I'.unwish,q⟩) fun _ _ z=>False.elim z
theorem i5.nox {st:List Stmt}{t:TS}(h:i5 X.nox st t):i5 X st t:=fun pins s σ H D I hw=>
 wpAny_mono (h pins s σ H D (I.wish _) hw) (fun _ _ q=>q.unwish) fun _ _ z=>False.elim z
end
section
variable {X:Cx}{st:Stmt}{rest:List Stmt}{t u:TS}{e:Expr}{te:TE}{pos:Pos}
def A2:TS:=fun D σ H=>D.nx σ H
def CJ (t u:TS):TS:=fun D σ H=>t {D with nx:=u D} σ H
theorem lN:i5 X [] A2:=fun _ _ σ H _ I h=>wpAny_execs_nil ⟨σ,H,I,h⟩
theorem bY (h1:PS X st t)(h2:i5 X rest u):i5 X (st :: rest) (CJ t u):=by
 intro pins s σ H D I h
 refine wpAny_execs_cons (bb (h1 pins s σ H {D with nx:=u D} I h) fun f s1 q=>?_)
 cases f with
 |next=>
  obtain⟨σ',H',I',q⟩:=q
  exact h2 pins s1 σ' H' D I' q
 |ret v=>exact q
 |brk=>exact q
 |cont=>exact q
theorem fX (h1:PS X st t):i5 X [st] t:=by
 intro pins s σ H D I h
 refine wpAny_execs_cons (bb (h1 pins s σ H D I h) fun f s1 q=>?_)
 cases f with
 |next=>exact wpAny_execs_nil q
 |ret v=>exact q
 |brk=>exact q
 |cont=>exact q
theorem Inv.quiet {pins:List (Addr×Obj)}{σ:St}{H:Hp}{s:Shared}(I:Inv X pins σ H s):interactive X.env=false:=by simp[interactive,I.ok.kind]
def Bg (te:TE):TS:=fun D σ H=>te σ H fun _ H1=>D.nx σ H1
theorem l4 (he:PE X e te)(hs:swapsWith e none pos.line X.env=pure false:=by rfl):PS X (.Expr e pos) (Bg te):=by
 intro pins s σ H D I h
 exact wpAny_Expr_any (bb (he pins s σ H _ I h) fun v s1 ⟨x,H1,I1,r1,q1⟩=>⟨σ,H1,I1,q1⟩) I.quiet hs
def CK (te:TE):TS:=fun D σ H=>te σ H D.rt
theorem fA (he:PE X e te):PS X (.Return (some e) pos) (CK te):=by
 intro pins s σ H D I h
 exact wpAny_Return_some (bb (he pins s σ H _ I h) fun v s1 ⟨x,H1,I1,r1,q1⟩=>⟨x,σ,H1,I1,r1,q1⟩)
def Cy (c:TT)(t u:TS):TS:=fun D σ H=>c σ H fun b H1=>if b=true then t D σ H1 else u D σ H1
theorem vJ {c:Expr}{a b:List Stmt}{tc:TT}(hc:PT X c tc)(ha:i5 X a t)(hb:i5 X b u):PS X (.If c a b pos) (Cy tc t u):=by
 intro pins s σ H D I h
 refine wpAny_If (bb (hc pins s σ H _ I h) fun d s1 ⟨H1,I1,q1⟩=>?_)
 cases d with
 |true=>exact ha pins s1 σ H1 D I1 q1
 |false=>exact hb pins s1 σ H1 D I1 q1
end
abbrev TG:=V->St->Hp->(St->Hp->Prop)->Prop
abbrev zP:=List V->St->Hp->(St->Hp->Prop)->Prop
def PG (X:Cx)(target:Expr)(t:TG):Prop:=
 ∀(pins:List (Addr×Obj)) (s:Shared) (σ:St) (H:Hp) (v:V) (u:Value) (Q:St->Hp->Prop),Inv X pins σ H s->RelV v u->t v σ H Q->
  wpAny (model X.prog X.w) X.A (assign target X.env u) (fun _ s'=>∃σ' H',Inv X pins σ' H' s'/\Q σ' H') X.xe s
def Cb (X:Cx)(ts:List Expr)(t:zP):Prop:=
 ∀(pins:List (Addr×Obj)) (s:Shared) (σ:St) (H:Hp) (vs:List V) (us:List Value) (Q:St->Hp->Prop),Inv X pins σ H s->Vals vs us->t vs σ H Q->
  wpAny (model X.prog X.w) X.A (assignInOrder ((assignEach ts X.env).map (·.2)) us) (fun _ s'=>∃σ' H',Inv X pins σ' H' s'/\Q σ' H') X.xe s
abbrev yY:=V->V->V->Hp->(Hp->Prop)->Prop
def uQ (X:Cx)(t:yY):Prop:=
 ∀(pins:List (Addr×Obj)) (s:Shared) (σ:St) (H:Hp) (o i v:V) (ov iv u:Value) (Q:Hp->Prop),Inv X pins σ H s->RelV o ov->RelV i iv->RelV v u->t o i v H Q->
  wpAny (model X.prog X.w) X.A (setItem ov iv u) (fun _ s'=>∃H',Inv X pins σ H' s'/\Q H') X.xe s
section
variable {X:Cx}{pos:Pos}
def qf (i:Nat):TG:=fun v σ H Q=>Q (σ.set i (some v)) H
theorem hJ {i:Nat}{x:Str}(hN:X.N.Nodup)(hi:X.N[i]? =some x)(hx:Loc X.env.scope x)(hf:X.fn x=true\/X.env.scope.names.lookup x=some .local:=by first |exact .inl rfl |exact .inr rfl |assumption):PG X (.Name x pos) (qf i):=by
 intro pins s σ H v u Q I r h
 exact wpAny_assign_Name (dS I hN hi hx r (fun s' I'=>⟨_,H,I',h⟩) hf)
def A4:zP:=fun vs σ H Q=>vs= []/\Q σ H
def uH (t:TG)(u:zP):zP:=fun vs σ H Q=>∃v r,vs=v :: r/\t v σ H fun σ' H'=>u r σ' H' Q
theorem qq:Cb X [] A4:=by
 intro pins s σ H vs us Q I r h
 obtain⟨e,h⟩:=h
 subst e
 cases r
 exact assignInOrder_nil ⟨σ,H,I,h⟩
theorem ic {e:Expr}{es:List Expr}{t:TG}{u:zP}(h1:PG X e t)(h2:Cb X es u)
  (hs:(assignEach (e :: es) X.env).map (·.2)=assign e X.env :: (assignEach es X.env).map (·.2):=by rfl):Cb X (e :: es) (uH t u):=by
 intro pins s σ H vs us Q I r h
 obtain⟨v,vr,e1,h⟩:=h
 subst e1
 cases r with
 |cons r rr=>
  rw[hs]
  refine assignInOrder_cons (bb (h1 pins s σ H _ _ _ I r h) fun _ s1 ⟨σ1,H1,I1,q1⟩=>?_)
  exact h2 pins s1 σ1 H1 _ _ Q I1 rr q1
def AO (K:PySem.W.Frag)(n:Nat)(t:zP):TG:=fun v σ H Q=>∃a xs,v=.ref a/\dq K H a xs/\xs.length=n/\t xs σ H Q
theorem uO {es:List Expr}{k:Nat}{t:zP}{n:Nat}(hc:X.calm=true)(h:Cb X es t)
  (hn:(assignEach es X.env).length=n:=by rfl) (hst:(assignEach es X.env).findIdx? (·.1)=none:=by rfl):PG X (.Tuple es k pos) (AO X.K n t):=by
 intro pins s σ H v u Q I r hw
 obtain⟨a,xs,e1,hq,hl,hw⟩:=hw
 subst e1
 cases r
 obtain⟨its,rv,ht,hz⟩:=I.tuple hq
 refine assign_Tuple_tuple (I.ok.hd hc) ht (by simp[hn,<-hl,rv.length]) hst fun h' hx=>?_
 have I1:Inv X pins σ H {s with heap:=h'}:=I.kept (t':=s.toks) fun b o e=>hx b o (Nat.ne_of_lt (Heap.lt_size e)) e
 exact h pins _ σ H xs _ Q I1 (by simpa using rv) hw
def C5 (to ti:TE)(t:yY):TG:=fun v σ H Q=>to σ H fun o H1=>ti σ H1 fun i H2=>t o i v H2 fun H3=>Q σ H3
theorem uC {o i:Expr}{to ti:TE}{t:yY}(ho:PE X o to)(hi:PE X i ti)(hs:uQ X t)
  (ha:∀v,assign (.Subscript o i pos) X.env v=(do
   let ov <-holding [v] (eval o X.env)
   let iv <-holding [v,ov] (eval i X.env)
   standAt pos
   holding [v,ov,iv] (setItem ov iv v)
   release [v,ov,iv] []):=by intro _;rfl):PG X (.Subscript o i pos) (C5 to ti t):=by
 intro pins s σ H v u Q I r h
 rw[ha]
 refine wpAny_bind (wpAny_holding (bb (ho pins s σ H _ I h) fun ov s1 ⟨x,H1,I1,r1,q1⟩=>?_))
 refine wpAny_bind (wpAny_holding (bb (hi pins s1 σ H1 _ I1 q1) fun iv s2 ⟨y,H2,I2,r2,q2⟩=>?_))
 refine wpAny_bind (wpAny_standAt (wpAny_bind (wpAny_holding (bb (hs pins s2 σ H2 x y v ov iv u _ I2 r1 r2 r q2) fun _ s3 ⟨H3,I3,q3⟩=>?_))))
 exact wpAny_release ⟨σ,H3,I3,q3⟩
def Bv (te:TE)(g:TG):TS:=fun D σ H=>te σ H fun x H1=>g x σ H1 D.nx
theorem oN {tg e:Expr}{te:TE}{g:TG}(he:PE X e te)(hg:PG X tg g)(hs:swapsWithSole [tg] e pos.line X.env=pure false:=by rfl)(hw:swappedStores [tg] e X.env=pure none:=by rfl)
  (h1:(assignEach [tg] X.env).map (·.2)= [assign tg X.env]:=by rfl):PS X (.Assign [tg] e pos) (Bv te g):=by
 intro pins s σ H D I h
 refine wpAny_Assign_stores (bb (he pins s σ H _ I h) fun v s1 ⟨x,H1,I1,r1,q1⟩=>?_) hs hw
 rw[h1]
 exact bb (hg pins s1 σ H1 x v _ I1 r1 q1) fun _ s2 q=>q
theorem gx {i:Nat}{x:Str}{e:Expr}{te:TE}{pos':Pos}(hN:X.N.Nodup)(hi:X.N[i]? =some x)(hx:Loc X.env.scope x)(he:PE X e te)(hs:swapsWith e (some (.Name x pos')) pos.line X.env=pure false:=by rfl)(hf:X.fn x=true\/X.env.scope.names.lookup x=some .local:=by first |exact .inl rfl |exact .inr rfl |assumption) :
  PS X (.Assign [.Name x pos'] e pos) (Bv te (qf i)):=by
 intro pins s σ H D I h
 refine wpAny_Assign_Name (bb (he pins s σ H _ I h) fun v s1 ⟨y,H1,I1,r1,q1⟩=>?_) hs
 exact dS I1 hN hi hx r1 (fun s2 I2=>⟨_,H1,I2,q1⟩) hf
def CL (i j:Nat)(ta:TA):TS:=fun D σ H=>ta σ H fun vs H1=>∃v w,vs= [v,w]/\D.nx ((σ.set i (some v)).set j (some w)) H1
theorem Ar {i j:Nat}{x y:Str}{a b:Expr}{ta:TA}{px py pt:Pos}{kt k2 pt2}(hc:X.calm=true)(hN:X.N.Nodup)(hi:X.N[i]? =some x)(hj:X.N[j]? =some y)(hij:i≠j)
  (hx:X.env.scope.names.lookup x=some .local) (hy:X.env.scope.names.lookup y=some .local) (ha:PA X [a,b] ta)
  (hw:swappedStores [.Tuple [.Name x px,.Name y py] kt pt] (.Tuple [a,b] k2 pt2) X.env=pure (some [x,y]))
  (hs:swapsWithSole [.Tuple [.Name x px,.Name y py] kt pt] (.Tuple [a,b] k2 pt2) pos.line X.env=pure false:=by rfl) :
  PS X (.Assign [.Tuple [.Name x px,.Name y py] kt pt] (.Tuple [a,b] k2 pt2) pos) (CL i j ta):=by
 intro pins s σ H D I h
 rw[exec_Assign_arm]
 refine wpAny_bind (wpAny_standAt ?_)
 rw[hs]
 refine wpAny_bind (wpAny_pure ?_)
 rw[if_neg (by decide)]
 refine wpAny_bind (Tuple_ (bb (ha _ pins s σ H _ I h) fun us s1 ⟨vs,H1,I1,r1,q1⟩=>?_))
 obtain⟨v,w,e1,q1⟩:=q1
 subst e1
 obtain⟨u1,u2,rfl,rv,rw'⟩:∃u1 u2,us= [u1,u2]/\RelV v u1/\RelV w u2:=by
  cases r1 with
  |cons p q=>
   cases q with
   |cons p' q'=>
    cases q'
    exact⟨_,_,rfl,p,p'⟩
 refine wpAny_newObj_type ?_ (by show 2<=sizeLine;decide)
 have I2:Inv X pins σ H1 {s1 with heap:=s1.heap.push {cls:=.type "tuple",data:=.seq [u1,u2].toArray}}:=I1.kept (t':=s1.toks) fun b o e=>Heap.get?_push_of_some _ e
 rw[hw]
 refine wpAny_bind (wpAny_pure ?_)
 show wpAny (model X.prog X.w) X.A (do rule "assign.swapped-stores";let items <-unpackItems (.ref s1.heap.objs.size) 2 none;assignInOrder [fun v=>bindName X.env y v,fun v=>bindName X.env x v] items.reverse;pure Flow.next) _ _ _
 refine wpAny_bind (wpAny_rule (wpAny_bind (unpackItems_tuple (items:=#[u1,u2]) (I.ok.hd hc) (IsTup.new s1.heap _) fun h' hx'=>?_)))
 have I3:=I2.kept (h':=h') (t':=s1.toks) fun b o e=>hx' b o (Nat.ne_of_lt (Heap.lt_size e)) e
 show wpAny _ _ (assignInOrder [fun v=>bindName X.env y v,fun v=>bindName X.env x v] [u2,u1] >>= fun _=>pure Flow.next) _ _ _
 refine wpAny_bind (assignInOrder_cons (wpAny_bindName (dS I3 hN hj (.inl hy) rw' (fun s2 I4=>?_) (.inr hy))))
 refine assignInOrder_cons (wpAny_bindName (dS I4 hN hi (.inl hx) rv (fun s3 I5=>assignInOrder_nil (wpAny_pure ?_)) (.inr hx)))
 rw[List.set_comm _ _ (Ne.symm hij)] at I5
 exact⟨_,H1,I5,q1⟩
end
section
variable {X:Cx}{pos:Pos}
def Ai (c:TT)(tb:TS):TS:=fun D σ H=>∃W:Nat->St->Hp->Prop,(∃m,W m σ H)/\∀m σ H,W m σ H->
 c σ H fun b H1=>if b=true then ∃N:St->Hp->Prop,(∀σ' H',N σ' H'->∃m',m' < m/\W m' σ' H')/\tb {D with nx:=N,ct:=N,bk:=D.nx} σ H1 else D.nx σ H1
theorem vC {c:Expr}{body:List Stmt}{tc:TT}{tb:TS}(hp:PassesOwn (model X.prog X.w) X.A X.env X.xe)(hc:PT X c tc)(hb:i5 X body tb):PS X (.While c body [] pos) (Ai tc tb):=by
 intro pins s σ H D I h
 obtain⟨W,⟨m0,w0⟩,turn⟩:=h
 refine wpAny_While (codeAny_whileLoop (fun n s'=>∃σ' H',Inv X pins σ' H' s'/\W n σ' H') ?_ m0 ⟨σ,H,I,w0⟩)
 rintro n s1 ⟨σ1,H1,I1,w1⟩
 refine wpAny_passesOwn hp (bb (hc pins s1 σ1 H1 _ I1 (turn n σ1 H1 w1)) fun b s2 ⟨H2,I2,q2⟩=>?_)
 cases b with
 |true=>
  obtain⟨N,hN,q2⟩:=q2
  rw[if_pos rfl]
  refine wpAny_passesOwn hp (bb (hb pins s2 σ1 H2 _ I2 q2) fun f s3 q3=>?_)
  cases f with
  |next=>
   obtain⟨σ3,H3,I3,n3⟩:=q3
   obtain⟨m',hm,w3⟩:=hN σ3 H3 n3
   exact⟨m',hm,σ3,H3,I3,w3⟩
  |cont=>
   obtain⟨σ3,H3,I3,n3⟩:=q3
   obtain⟨m',hm,w3⟩:=hN σ3 H3 n3
   exact⟨m',hm,σ3,H3,I3,w3⟩
  |brk=>exact q3
  |ret v=>exact q3
 |false=>
  rw[if_neg Bool.false_ne_true]
  exact wpAny_execs_nil ⟨σ1,H2,I2,q2⟩
end
structure It where
 go:Nat->Hp->Prop
 yld:Nat->Hp->V->Hp->Prop
 stop:Nat->Hp->Prop
def i6 (X:Cx)(pins:List (Addr×Obj))(H:Hp)(b:Addr):Prop:=
 H b=none/\b≠X.env.locals/\b∉X.fs/\(b∈X.ex\/X.s₀.heap.objs.size<=b)/\(∀x c,X.env.cells.lookup x=some c->c≠b)/\∀p∈X.pn ++ pins,p.1≠b
theorem Inv.fpOk {X:Cx}{pins:List (Addr×Obj)}{σ:St}{H H':Hp}{s:Shared}{b:Addr}(I:Inv X pins σ H s)(hb:s.heap.objs.size<=b)(hn:H' b=none):i6 X pins H' b:=by
 refine⟨hn,Nat.ne_of_gt (Nat.lt_of_lt_of_le I.lt hb),I.nofs hb,.inr (Nat.le_trans I.sz hb),fun x c e z=>?_,fun p hp z=>?_⟩
 ·obtain⟨v,q⟩:=I.cell x c e
  exact absurd (Nat.lt_of_lt_of_le q.lt (by rw[z];exact hb)) (Nat.lt_irrefl _)
 ·exact absurd (Nat.lt_of_lt_of_le (Heap.lt_size (I.pin p hp).1) (by rw[z];exact hb)) (Nat.lt_irrefl _)
structure Turn (P:Program)(w:World)(K:PySem.W.Frag)(tg:Expr)(J:It)(fp:List Addr)(it:Addr)(tn:Nat->Heap->Prop):Prop where
 mem:it∈fp
 obj:∀i h,tn i h->∀b∈fp,∃o,h.get? b=some o/\∀v,o.data≠.cell v
 keep:∀i h h',tn i h->(∀b∈fp,∀o,h.get? b=some o->h'.get? b=some o)->tn i h'
 item:∀(X:Cx),X.prog=P->X.w=w->X.K=K->X.calm=true->∀(i:Nat) (pins:List (Addr×Obj)) (s:Shared) (σ:St) (H:Hp) (E:Value->Shared->Prop),Inv X pins σ H s->(∀b∈fp,i6 X pins H b)->tn i s.heap->J.go i H->
  wpAny (model P w) X.A (pyNext (.ref it)) (fun r s1=>∃u,r=some u/\
   wpAny (model P w) X.A (letOwnedTupleGo tg (.ref it) u) (fun _ s2=>∃x H',Inv X pins σ H' s2/\RelV x u/\J.yld i H x H'/\tn (i + 1) s2.heap/\∀b∈fp,H' b=none) E s1) E s
 done:∀(X:Cx),X.prog=P->X.w=w->X.K=K->X.calm=true->∀(i:Nat) (pins:List (Addr×Obj)) (s:Shared) (σ:St) (H:Hp) (E:Value->Shared->Prop),Inv X pins σ H s->(∀b∈fp,i6 X pins H b)->tn i s.heap->J.stop i H->
  wpAny (model P w) X.A (pyNext (.ref it)) (fun r s1=>r=none/\Inv X pins σ H s1) E s
 self:∀(A:Around) (i:Nat) (s:Shared) (Q:Value->Shared->Prop) (E:Value->Shared->Prop),tn i s.heap->Q (.ref it) s->wpAny (model P w) A (pyIter (.ref it)) Q E s
abbrev TI:=St->Hp->(It->Hp->Prop)->Prop
def Dr (X:Cx)(pins:List (Addr×Obj))(σ:St)(tg:Expr)(R:It->Hp->Prop)(itv:Value)(s2:Shared):Prop:=
 ∃(it:Addr) (fp:List Addr) (tn:Nat->Heap->Prop) (J:It) (H':Hp),itv=.ref it/\Inv X pins σ H' s2/\Turn X.prog X.w X.K tg J fp it tn/\tn 0 s2.heap/\(∀b∈fp,i6 X pins H' b)/\R J H'
def PI (X:Cx)(tg iter:Expr)(wi:TI):Prop:=
 ∀(pins:List (Addr×Obj)) (s:Shared) (σ:St) (H:Hp) (R:It->Hp->Prop),Inv X pins σ H s->wi σ H R->
  wpAny (model X.prog X.w) X.A (eval iter X.env) (fun v s1=>wpAny (model X.prog X.w) X.A (pyIter v) (Dr X pins σ tg R) X.xe s1) X.xe s
theorem uh {M:Model}{A:Around}{E:Value->Shared->Prop}{s:Shared}{tg:Expr}{it:Addr}{u:Value}{o:Obj}{n:String}{vs:Array Value}{Q:Unit->Shared->Prop}(ho:s.heap.get? it=some o)(hc:o.cls=.type n)(hd:o.data=.fields vs)
  (hn: ["enumerate","zip","dict_itemiterator","dict_reverseitemiterator","odict_iterator","itertools.zip_longest","itertools.pairwise"].contains n=false) (hQ:Q () s):wpAny M A (letOwnedTupleGo tg (.ref it) u) Q E s:=by
 unfold letOwnedTupleGo
 cases tg <;> first
  |exact wpAny_pure hQ
  | (cases u <;> first
    |exact wpAny_pure hQ
    | (refine wpAny_bind (wpAny_load ho ?_)
       rw[hc,hd]
       show wpAny M A (if (["enumerate","zip","dict_itemiterator","dict_reverseitemiterator","odict_iterator","itertools.zip_longest","itertools.pairwise"].contains n && vs[0]? == some (rawInt _))=true then _ else _) Q E s
       rw[if_neg (by intro h;rw[hn,Bool.false_and] at h;cases h)]
       exact wpAny_pure hQ))
def Cs (K:PySem.W.Frag)(a:Addr):It:=
 ⟨fun i H=>∃xs x,fC K H a xs/\xs[i]? =some x,fun i H x H'=>H'=H/\∀xs,fC K H a xs->xs[i]? =some x,fun i H=>∃xs,fC K H a xs/\xs.length<=i⟩
def C7 (K:PySem.W.Frag)(a:Addr):It:=
 ⟨fun i H=>∃xs x,dq K H a xs/\xs[i]? =some x,fun i H x H'=>H'=H/\∀xs,dq K H a xs->xs[i]? =some x,fun i H=>∃xs,dq K H a xs/\xs.length<=i⟩
def B4 (lo:Int)(n:Nat):It:=⟨fun i _=>i < n,fun i H x H'=>H'=H/\x=.int (lo + i),fun i _=>n<=i⟩
theorem rq {P:Program}{w:World}{K:PySem.W.Frag}{tg:Expr}(a it:Addr):Turn P w K tg (Cs K a) [it] it (fun i h=>h.IsListIter it a i) where
 mem:=by simp
 obj:=fun i h st b hb=>by
  have e:b=it:=by simpa using hb
  subst e
  obtain⟨o,e,c,d⟩:=st
  exact⟨o,e,fun v z=>by rw[d] at z;cases z⟩
 keep:=fun i h h' st k=>st.at fun o e=>k it (by simp) o e
 item:=by
  intro X hP hw hK hc i pins s σ H E I hf st hg
  subst hP hw hK
  obtain⟨xs,x,hq,hx⟩:=hg
  obtain⟨its,rv,p,hz⟩:=I.list hq
  obtain⟨u,hu,ru⟩:=rv.get hx
  obtain⟨f0,f1,f2,f3,f4,f5⟩:=hf it (by simp)
  refine wpAny_pyNext_list_item st p.isList (x:=u) (by simpa using hu) fun h' st' sb=>?_
  have I1:Inv X pins σ H {s with heap:=h'}:=I.turned (t':=s.toks) (fun b o hb e=>(sb.2 b hb).trans e) f0 f1 f3 f4 f5
  obtain⟨o,e,c,d⟩:=id st'
  exact⟨u,rfl,uh (s:={s with heap:=h'}) e c d (by decide) ⟨x,H,I1,ru,⟨rfl,fun ys hy=>by rw[I.list_inj hy hq];exact hx⟩,st',fun b hb=>(hf b hb).1⟩⟩
 done:=by
  intro X hP hw hK hc i pins s σ H E I hf st hg
  subst hP hw hK
  obtain⟨xs,hq,hx⟩:=hg
  obtain⟨its,rv,p,hz⟩:=I.list hq
  obtain⟨f0,f1,f2,f3,f4,f5⟩:=hf it (by simp)
  have hl:=rv.length
  exact wpAny_pyNext_list_end (I.ok.hd hc) st p.isList (by simp;omega) fun h' eb=>⟨rfl,I.turned (t':=s.toks) (fun b o hb e=>eb b o hb e) f0 f1 f3 f4 f5⟩
 self:=fun _ _ _ _ _ st h=>wpAny_pyIter_listiter st h
theorem pf {P:Program}{w:World}{K:PySem.W.Frag}{tg:Expr}(a it:Addr):Turn P w K tg (C7 K a) [it] it (fun i h=>h.IsTupleIter it a i) where
 mem:=by simp
 obj:=fun i h st b hb=>by
  have e:b=it:=by simpa using hb
  subst e
  obtain⟨o,e,c,d⟩:=st
  exact⟨o,e,fun v z=>by rw[d] at z;cases z⟩
 keep:=fun i h h' st k=>st.at fun o e=>k it (by simp) o e
 item:=by
  intro X hP hw hK hc i pins s σ H E I hf st hg
  subst hP hw hK
  obtain⟨xs,x,hq,hx⟩:=hg
  obtain⟨its,rv,p,hz⟩:=I.tuple hq
  obtain⟨u,hu,ru⟩:=rv.get hx
  obtain⟨f0,f1,f2,f3,f4,f5⟩:=hf it (by simp)
  refine wpAny_pyNext_tuple_item st (show s.heap.IsTuple a its.toArray from p) (x:=u) (by simpa using hu) fun h' st' sb=>?_
  have I1:Inv X pins σ H {s with heap:=h'}:=I.turned (t':=s.toks) (fun b o hb e=>(sb.2 b hb).trans e) f0 f1 f3 f4 f5
  obtain⟨o,e,c,d⟩:=id st'
  exact⟨u,rfl,uh (s:={s with heap:=h'}) e c d (by decide) ⟨x,H,I1,ru,⟨rfl,fun ys hy=>by rw[I.tuple_inj hy hq];exact hx⟩,st',fun b hb=>(hf b hb).1⟩⟩
 done:=by
  intro X hP hw hK hc i pins s σ H E I hf st hg
  subst hP hw hK
  obtain⟨xs,hq,hx⟩:=hg
  obtain⟨its,rv,p,hz⟩:=I.tuple hq
  obtain⟨f0,f1,f2,f3,f4,f5⟩:=hf it (by simp)
  have hl:=rv.length
  exact wpAny_pyNext_tuple_end (I.ok.hd hc) st (show s.heap.IsTuple a its.toArray from p) (by simp;omega) fun h' eb=>⟨rfl,I.turned (t':=s.toks) (fun b o hb e=>eb b o hb e) f0 f1 f3 f4 f5⟩
 self:=fun _ _ _ _ _ st h=>wpAny_pyIter_tupleiter st h
theorem pU {P:Program}{w:World}{K:PySem.W.Frag}{tg:Expr}(it:Addr)(lo:Int)(n:Nat):Turn P w K tg (B4 lo n) [it] it (fun i h=>IsRangeIter h it (lo + (i:Nat) * 1) ((n:Int) - (i:Nat)) 1) where
 mem:=by simp
 obj:=fun i h st b hb=>by
  have e:b=it:=by simpa using hb
  subst e
  exact⟨_,st,fun v z=>by
   have z':Data.fields _=Data.cell v:=z
   cases z'⟩
 keep:=fun i h h' st k=>k it (by simp) _ st
 item:=by
  intro X hP hw hK hc i pins s σ H E I hf st hg
  subst hP hw hK
  obtain⟨f0,f1,f2,f3,f4,f5⟩:=hf it (by simp)
  have W:=Walks.range (prog:=X.prog) (w:=X.w) (I.ok.hd hc) it lo 1 n
  refine W.item i s _ _ hg st fun v h' tk hv st' kk=>?_
  obtain⟨t,rfl⟩:=hv
  have I1:Inv X pins σ H {s with heap:=h',toks:=tk}:=I.turned (fun b o hb e=>kk b o (by simpa using hb) e) f0 f1 f3 f4 f5
  refine⟨_,rfl,uh (s:={s with heap:=h',toks:=tk}) (n:="range_iterator") st' rfl rfl (by decide) ⟨.int (lo + i),H,I1,⟨t,?_⟩,⟨rfl,rfl⟩,st',fun b hb=>(hf b hb).1⟩⟩
  rw[Int.mul_one]
 done:=by
  intro X hP hw hK hc i pins s σ H E I hf st hg
  subst hP hw hK
  obtain⟨f0,f1,f2,f3,f4,f5⟩:=hf it (by simp)
  exact wpAny_pyNext_range_end (I.ok.hd hc) st (by have:n<=i:=hg;omega) fun h' eb=>⟨rfl,I.turned (t':=s.toks) (fun b o hb e=>eb b o hb e) f0 f1 f3 f4 f5⟩
 self:=fun _ _ _ _ _ st h=>wpAny_pyIter_rangeiter st h
end L2
namespace L2
open PySem PySem.Spec PyProof.Rows
section
variable {X:Cx}{tg:Expr}
theorem tq {pins:List (Addr×Obj)}{σ:St}{H:Hp}{s:Shared}{R:It->Hp->Prop}{E:Value->Shared->Prop}{lo hi:Int}{t u v:Tok}{tk:Nat}(I:Inv X pins σ H s)(h1: -(2 ^ 62)<=lo)(h2:lo < 2 ^ 62)(h3: -(2 ^ 62)<=hi)(h4:hi < 2 ^ 62)
  (q:R (B4 lo (hi - lo).toNat) H):wpAny (model X.prog X.w) X.A (pyIter (.ref s.heap.objs.size)) (Dr X pins σ tg R) E {s with heap:=s.heap.push {cls:=.type "range",data:=.fields #[.int lo t,.int hi u,.int 1 v]},toks:=tk}:=by
 refine wpAny_pyIter_range (IsRange.new ..) (small_one h1 h2 h3 h4) ?_
 have I1:Inv X pins σ H {s with heap:=s.heap.push {cls:=.type "range",data:=.fields #[.int lo t,.int hi u,.int 1 v]},toks:=tk}:=I.kept fun b o e=>Heap.get?_push_of_some _ e
 refine⟨(s.heap.push {cls:=.type "range",data:=.fields #[.int lo t,.int hi u,.int 1 v]}).objs.size,[(s.heap.push {cls:=.type "range",data:=.fields #[.int lo t,.int hi u,.int 1 v]}).objs.size],_,_,H,rfl,
  I1.kept (t':=tk) fun b o e=>Heap.get?_push_of_some _ e,pU _ lo (hi - lo).toNat,?_,fun b hb=>?_,q⟩
 ·have e1:lo + ((0:Nat):Int) * 1=lo:=by simp
  have e2:(((hi - lo).toNat:Nat):Int) - ((0:Nat):Int)=Builtin.Range.rangeSize lo hi 1:=by rw[rangeSize_one];split <;> omega
  show IsRangeIter _ _ (lo + ((0:Nat):Int) * 1) ((((hi - lo).toNat:Nat):Int) - ((0:Nat):Int)) 1
  rw[e1,e2]
  exact Heap.get?_push_size _ rfl
 ·have e:b=(s.heap.push {cls:=.type "range",data:=.fields #[.int lo t,.int hi u,.int 1 v]}).objs.size:=by simpa using hb
  subst e
  exact I1.fpOk (Nat.le_refl _) (I1.hok.fresh (Nat.le_refl _))
def A6 (ta:TA):TI:=fun σ H R=>ta σ H fun vs H1=>∃j:Int,vs= [.int j]/\ -(2 ^ 62)<=j/\j < 2 ^ 62/\R (B4 0 j.toNat) H1
theorem rN {a:Expr}{ta:TA}{p pos:Pos}(hg:Gl X "range")(hm:X.mg "range"=none)(ha:PA X [a] ta)(hs:starEach [a] X.env= [(false,eval a X.env)]:=by rfl):PI X tg (.Call (.Name "range" p) [a] [] pos) (A6 ta):=by
 intro pins s σ H R I h
 refine Call_ (jR I hg hm boot_range (PyProof.Rows.callWith_type1 (bb (ha pos pins s σ H _ I h) fun us s1 ⟨vs,H1,I1,r1,q1⟩=>?_) hs rfl))
 obtain⟨j,e,q1,q2,q⟩:=q1
 subst e
 cases r1 with
 |cons r rr=>
  cases rr
  obtain⟨t,rfl⟩:=r
  exact call_range_1 (tq I1 (by omega) (by omega) q1 q2 (by simpa using q))
def CU (wi:TI)(g:TG)(tb:TS):TS:=fun D σ H=>wi σ H fun J H1=>∃W:Nat->Nat->St->Hp->Prop,(∃m,W 0 m σ H1)/\∀i m σ H,W i m σ H->
 (J.stop i H/\D.nx σ H)\/(J.go i H/\∃N:St->Hp->Prop,(∀σ' H',N σ' H'->∃m',m' < m/\W (i + 1) m' σ' H')/\∀x H',J.yld i H x H'->g x σ H' fun σ2 H2=>tb {D with nx:=N,ct:=N,bk:=D.nx} σ2 H2)
def jX (fp:List Addr)(h:Heap):List (Addr×Obj):=fp.filterMap fun b=>(h.get? b).map fun o=>(b,o)
theorem eY {fp:List Addr}{h:Heap}{b:Addr}{o:Obj}(hb:b∈fp)(e:h.get? b=some o):(b,o)∈jX fp h:=List.mem_filterMap.mpr ⟨b,hb,by rw[e];rfl⟩
theorem rJ {fp:List Addr}{h:Heap}{p:Addr×Obj}(hp:p∈jX fp h):p.1∈fp/\h.get? p.1=some p.2:=by
 obtain⟨b,hb,e⟩:=List.mem_filterMap.mp hp
 cases q:h.get? b with
 |none=>rw[q] at e;cases e
 |some o=>
  rw[q] at e
  have e':(b,o)=p:=Option.some.inj e
  subst e'
  exact⟨hb,q⟩
theorem Inv.pinned {pins:List (Addr×Obj)}{σ:St}{H:Hp}{s:Shared}{fp:List Addr}(I:Inv X pins σ H s)(hf:∀b∈fp,i6 X pins H b)(ho:∀b∈fp,∃o,s.heap.get? b=some o/\∀v,o.data≠.cell v):Inv X (pins ++ jX fp s.heap) σ H s:=
 I.pins_of fun p hp=>(List.mem_append.mp hp).elim (fun z=>I.pin p (List.mem_append_right _ z)) fun z=>by
  obtain⟨hb,e⟩:=rJ z
  obtain⟨f0,f1,f2,_⟩:=hf p.1 hb
  obtain⟨o,e',d⟩:=ho p.1 hb
  rw[e] at e';cases e'
  exact⟨e,f0,f1,f2,d⟩
theorem Inv.unpinned {pins pl:List (Addr×Obj)}{σ:St}{H:Hp}{s:Shared}(I:Inv X (pins ++ pl) σ H s):Inv X pins σ H s:=I.pins_of fun p hp=>I.pin p (List.mem_append_right _ (List.mem_append_left _ hp))
theorem zc {iter:Expr}{body:List Stmt}{wi:TI}{g:TG}{tb:TS}{pos:Pos}(hp:PassesOwn (model X.prog X.w) X.A X.env X.xe)(hc:X.calm=true)(hi:PI X tg iter wi)(hg:PG X tg g)(hb:i5 X body tb)
  (hs:∀x,foldedSetIterable iter X.env x=pure x:=by intro _;rfl):PS X (.For tg iter body [] pos) (CU wi g tb):=by
 intro pins s σ H D I h
 refine wpAny_For (bb (hi pins s σ H _ I h) fun v s1 h1=>bb h1 fun itv s2 h2=>?_) hs
 obtain⟨it,fp,tn,J,H2,e,I2,T,st2,f2,W,⟨m0,w0⟩,turn⟩:=h2
 subst e
 have stat:∀{H':Hp},(∀b∈fp,H' b=none)->∀b∈fp,i6 X pins H' b:=fun hn b hb=>⟨hn b hb,(f2 b hb).2⟩
 refine codeAny_forLoop_any (fun n s'=>∃i σ' H',Inv X pins σ' H' s'/\tn i s'.heap/\(∀b∈fp,H' b=none)/\W i n σ' H') ?_ m0 ⟨0,σ,H2,I2,st2,fun b hb=>(f2 b hb).1,w0⟩
 rintro n s3 ⟨i,σ3,H3,I3,st3,fr3,w3⟩
 rcases turn i n σ3 H3 w3 with⟨stop,qn⟩ | ⟨go,N,hN,step⟩
 ·refine wpAny_passesOwn hp (bb (T.done X rfl rfl rfl hc i pins s3 σ3 H3 X.xe I3 (stat fr3) st3 stop) fun r s4 ⟨hr,I4⟩=>?_)
  subst hr
  exact wpAny_execs_nil ⟨σ3,H3,I4,qn⟩
 ·refine wpAny_passesOwn hp (bb (T.item X rfl rfl rfl hc i pins s3 σ3 H3 X.xe I3 (stat fr3) st3 go) fun r s4 ⟨u,hr,h4⟩=>?_)
  subst hr
  refine wpAny_passesOwn hp (bb h4 fun _ s5 ⟨x,H5,I5,r5,y5,st5,fr5⟩=>?_)
  have I5':=I5.pinned (stat fr5) (T.obj _ _ st5)
  refine wpAny_passesOwn hp (bb (hg _ s5 σ3 H5 x u _ I5' r5 (step x H5 y5)) fun _ s6 ⟨σ6,H6,I6,q6⟩=>?_)
  refine wpAny_passesOwn hp (bb (hb _ s6 σ6 H6 _ I6 q6) fun f s7 q7=>?_)
  have again:∀{σ7:St} {H7:Hp},Inv X (pins ++ jX fp s5.heap) σ7 H7 s7->N σ7 H7->∃m,m < n/\∃i σ' H',Inv X pins σ' H' s7/\tn i s7.heap/\(∀b∈fp,H' b=none)/\W i m σ' H':=fun {σ7 H7} I7 n7=>by
   obtain⟨m',hm,w7⟩:=hN σ7 H7 n7
   refine⟨m',hm,i + 1,σ7,H7,I7.unpinned,T.keep _ _ _ st5 fun b hb o e=>(I7.pin (b,o) (List.mem_append_right _ (List.mem_append_right _ (eY hb e)))).1,fun b hb=>?_,w7⟩
   obtain⟨o,e,d⟩:=T.obj _ _ st5 b hb
   exact (I7.pin (b,o) (List.mem_append_right _ (List.mem_append_right _ (eY hb e)))).2.1
  cases f with
  |next=>obtain⟨σ7,H7,I7,n7⟩:=q7;exact again I7 n7
  |cont=>obtain⟨σ7,H7,I7,n7⟩:=q7;exact again I7 n7
  |brk=>obtain⟨σ7,H7,I7,q7⟩:=q7;exact⟨σ7,H7,I7.unpinned,q7⟩
  |ret v=>obtain⟨x7,σ7,H7,I7,r7,q7⟩:=q7;exact⟨x7,σ7,H7,I7.unpinned,r7,q7⟩
end
end L2
namespace L2
open PySem PySem.Spec PyProof.Rows
abbrev R2:=V->V->Hp->VK->Prop
def ij (X:Cx)(f:Value->Value->Sem Value)(r:R2):Prop:=
 ∀(pins:List (Addr×Obj)) (s:Shared) (σ:St) (H:Hp) (x y:V) (v u:Value) (Q:VK),Inv X pins σ H s->RelV x v->RelV y u->r x y H Q->
  wpAny (model X.prog X.w) X.A (f v u) (EP X pins σ Q) X.xe s
def BY (X:Cx)(f:Value->Sem Value)(r:V->Hp->VK->Prop):Prop:=
 ∀(pins:List (Addr×Obj)) (s:Shared) (σ:St) (H:Hp) (x:V) (v:Value) (Q:VK),Inv X pins σ H s->RelV x v->r x H Q->
  wpAny (model X.prog X.w) X.A (f v) (EP X pins σ Q) X.xe s
def bI (X:Cx)(f:Value)(r:List V->Hp->VK->Prop):Prop:=
 ∀(pins:List (Addr×Obj)) (s:Shared) (σ:St) (H:Hp) (xs:List V) (us:List Value) (Q:VK),Inv X pins σ H s->Vals xs us->r xs H Q->
  wpAny (model X.prog X.w) X.A (call f us) (EP X pins σ Q) X.xe s
def C3 (X:Cx)(r:V->Hp->(Bool->Hp->Prop)->Prop):Prop:=
 ∀(pins:List (Addr×Obj)) (s:Shared) (σ:St) (H:Hp) (x:V) (v:Value) (Q:Bool->Hp->Prop),Inv X pins σ H s->RelV x v->r x H Q->
  wpAny (model X.prog X.w) X.A (truthy v) (TP X pins σ Q) X.xe s
def B8 (r:R2)(ta tb:TE):TE:=fun σ H Q=>ta σ H fun x H1=>tb σ H1 fun y H2=>r x y H2 Q
def DD (r:V->Hp->VK->Prop)(ta:TE):TE:=fun σ H Q=>ta σ H fun x H1=>r x H1 Q
def rI (C:Int->Int->Prop)(g:Int->Int->V):R2:=fun x y H Q=>∃i j,x=.int i/\y=.int j/\C i j/\Q (g i j) H
def vL (g:Int->Int->V):R2:=fun x y H Q=>∃i j,x=.int i/\y=.int j/\Q (g i j) H
def rU (g:Int->V):V->Hp->VK->Prop:=fun x H Q=>∃i,x=.int i/\Q (g i) H
section
variable {X:Cx}{a b c:Expr}{ta tb tc:TE}{pos:Pos}
theorem z0 (ha:PE X a ta)(hb:PE X b tb){pins:List (Addr×Obj)}{s:Shared}{σ:St}{H:Hp}{R:V->V->Hp->Prop}(I:Inv X pins σ H s)
  (h:ta σ H fun x H1=>tb σ H1 fun y H2=>R x y H2) {Q:Value->Shared->Prop} {f:Value->Value->Sem Value}
  (hf:∀v u s2 x y H2,Inv X pins σ H2 s2->RelV x v->RelV y u->R x y H2->wpAny (model X.prog X.w) X.A (f v u) Q X.xe s2) :
  wpAny (model X.prog X.w) X.A (eval a X.env) (fun v s₁=>wpAny (model X.prog X.w) X.A (eval b X.env) (fun u s₂=>wpAny (model X.prog X.w) X.A (f v u) Q X.xe s₂) X.xe s₁) X.xe s:=by
 refine bb (ha pins s σ H _ I h) fun v s1 ⟨x,H1,I1,r1,q1⟩=>?_
 refine bb (hb pins s1 σ H1 _ I1 q1) fun u s2 ⟨y,H2,I2,r2,q2⟩=>?_
 exact hf v u s2 x y H2 I2 r1 r2 q2
theorem p5 {op:Operator}{r:R2}(ho:ij X (binaryOp op) r)(ha:PE X a ta)(hb:PE X b tb):PE X (.BinOp a op b pos) (B8 r ta tb):=by
 intro pins s σ H Q I h
 exact wpAny_BinOp (z0 ha hb I h fun v u s2 x y H2 I2 rx ry q=>ho pins s2 σ H2 x y v u Q I2 rx ry q)
theorem BF {op:UnaryOp}{r:V->Hp->VK->Prop}(ho:BY X (unaryOp op) r)(ha:PE X a ta):PE X (.UnaryOp op a pos) (DD r ta):=by
 intro pins s σ H Q I h
 exact UnaryOp_ (bb (ha pins s σ H _ I h) fun v s1 ⟨x,H1,I1,r1,q1⟩=>ho pins s1 σ H1 x v Q I1 r1 q1)
theorem B5 {f:Value->Value->Sem Value}{C:Int->Int->Prop}{g:Int->Int->Int}
  (rule:∀(i j:Int) (t u:Tok) (s:Shared) (Q:Value->Shared->Prop) (E:Value->Shared->Prop),C i j->Q (.int (g i j) s.toks) {s with toks:=s.toks + 1}->wpAny (model X.prog X.w) X.A (f (.int i t) (.int j u)) Q E s) :
  ij X f (rI C fun i j=>.int (g i j)):=by
 intro pins s σ H x y v u Q I rx ry h
 obtain⟨i,j,rfl,rfl,hc,q⟩:=h
 obtain⟨t,rfl⟩:=rx
 obtain⟨t',rfl⟩:=ry
 exact rule i j t t' s _ _ hc ⟨.int (g i j),H,I.tok _,⟨_,rfl⟩,q⟩
theorem CH {f:Value->Value->Sem Value}{g:Int->Int->Int}
  (rule:∀(i j:Int) (t u:Tok) (s:Shared) (Q:Value->Shared->Prop) (E:Value->Shared->Prop),Q (.int (g i j) s.toks) {s with toks:=s.toks + 1}->wpAny (model X.prog X.w) X.A (f (.int i t) (.int j u)) Q E s) :
  ij X f (vL fun i j=>.int (g i j)):=by
 intro pins s σ H x y v u Q I rx ry h
 obtain⟨i,j,rfl,rfl,q⟩:=h
 obtain⟨t,rfl⟩:=rx
 obtain⟨t',rfl⟩:=ry
 exact rule i j t t' s _ _ ⟨.int (g i j),H,I.tok _,⟨_,rfl⟩,q⟩
theorem zf {f:Value->Value->Sem Value}{g:Int->Int->Bool}
  (rule:∀(i j:Int) (t u:Tok) (s:Shared) (Q:Value->Shared->Prop) (E:Value->Shared->Prop),Q (.bool (g i j)) s->wpAny (model X.prog X.w) X.A (f (.int i t) (.int j u)) Q E s) :
  ij X f (vL fun i j=>.bl (g i j)):=by
 intro pins s σ H x y v u Q I rx ry h
 obtain⟨i,j,rfl,rfl,q⟩:=h
 obtain⟨t,rfl⟩:=rx
 obtain⟨t',rfl⟩:=ry
 exact rule i j t t' s _ _ ⟨.bl (g i j),H,I,rfl,q⟩
def wY (i j:Int):Prop:=0 < j/\j < 1073741824
def zI (i j:Int):Prop:=0<=j/\j<=1000000/\i.natAbs < 2 ^ 64
def uW (i j:Int):Prop:=(-(2 ^ 64) < i/\i < 2 ^ 64)\/(-(2 ^ 64) < j/\j < 2 ^ 64)
theorem uW.ok {i j:Int}(h:uW i j):IntMulOk i j:=by
 rcases h with⟨h1,h2⟩ | ⟨h1,h2⟩
 ·exact .of_left (intBits_le_64 h1 h2)
 ·exact .of_right (intBits_le_64 h1 h2)
theorem gW:ij X (binaryOp .Add) (vL fun i j=>.int (i + j)):=CH fun _ _ _ _ _ _ _ q=>add_int q
theorem gK:ij X (binaryOp .Mult) (rI uW fun i j=>.int (i * j)):=B5 fun _ _ _ _ _ _ _ hc q=>mul_int q hc.ok
theorem ja:ij X (binaryOp .FloorDiv) (rI wY fun i j=>.int (i / j)):=B5 fun i j _ _ _ _ _ hc q=>by
 have h1:(0:Int) < j:=hc.1
 have h2:j < 1073741824:=hc.2
 exact floordiv_int (by omega) (by rw[Int.fdiv_eq_ediv_of_nonneg i (by omega)];exact q) (.inl (PyProof.noPylong_small (by omega)))
theorem iI:ij X (binaryOp .Mod) (rI (fun _ j=>0 < j) fun i j=>.int (i % j)):=B5 fun i j _ _ _ _ _ hc q=>by
 have h1:(0:Int) < j:=hc
 exact mod_int' (by omega) (by rw[Int.fmod_eq_emod_of_nonneg i (by omega)];exact q)
theorem z5:ij X (binaryOp .Pow) (rI zI fun i j=>.int (i ^ j.toNat)):=B5 fun _ _ _ _ _ _ _ hc q=>pow_int_small hc.1 hc.2.1 hc.2.2 q
theorem Dv {f:Value->Sem Value}{g:Int->Int}
  (rule:∀(i:Int) (t:Tok) (s:Shared) (Q:Value->Shared->Prop) (E:Value->Shared->Prop),Q (.int (g i) s.toks) {s with toks:=s.toks + 1}->wpAny (model X.prog X.w) X.A (f (.int i t)) Q E s) :
  BY X f (rU fun i=>.int (g i)):=by
 intro pins s σ H x v Q I rx h
 obtain⟨i,rfl,q⟩:=h
 obtain⟨t,rfl⟩:=rx
 exact rule i t s _ _ ⟨.int (g i),H,I.tok _,⟨_,rfl⟩,q⟩
theorem pS:BY X (unaryOp .USub) (rU fun i=>.int (-i)):=Dv fun _ _ _ _ _ q=>neg_int q
end
def CN:V->V->Bool
 | .non,.non=>true | .non,.int _=>true | .int _,.non=>true | .non,.bl _=>true | .bl _,.non=>true | .non,.str _=>true | .str _,.non=>true
 | .int _,.int _=>true | .bl _,.bl _=>true | .str _,.str _=>true | .byt _,.byt _=>true
 | .int _,.str _=>true | .str _,.int _=>true | .bl _,.str _=>true | .str _,.bl _=>true
 |_,_=>false
def Dk:R2:=fun x y H Q=>CN x y=true/\Q (.bl (!decide (x=y))) H
theorem wU {i j:Int}:decide (V.int i=V.int j)=(i == j):=by
 rw[Bool.eq_iff_iff]
 simp
theorem z8 {i j:Bool}:decide (V.bl i=V.bl j)=(i == j):=by
 rw[Bool.eq_iff_iff]
 simp
theorem wG {i j:Str}:decide (V.str i=V.str j)=(i == j):=by
 rw[Bool.eq_iff_iff]
 simp
theorem xX {i j:Array UInt8}:decide (V.byt i=V.byt j)=(i.toList == j.toList):=by
 rw[Bool.eq_iff_iff]
 cases i
 cases j
 simp
section
variable {X:Cx}{a b c:Expr}{ta tb tc:TE}{pos:Pos}
theorem bN {pins:List (Addr×Obj)}{σ:St}{H:Hp}{s:Shared}{Q:VK}{k k':Bool}(I:Inv X pins σ H s)(q:Q (.bl k) H)(e:k=k'):EP X pins σ Q (.bool k') s:=by
 subst e
 exact⟨.bl k,H,I,rfl,q⟩
theorem yt:ij X (compareOp .NotEq) Dk:=by
 intro pins s σ H x y v u Q I rx ry h
 obtain⟨hs,q⟩:=h
 cases x with
 |non=>
  cases rx
  cases y with
  |non=>cases ry;exact PySem.EqNone.ne_none_none (bN I q (by simp))
  |bl j=>cases ry;exact PySem.EqNone.ne_none_bool (bN I q (by simp))
  |int j=>obtain⟨t',rfl⟩:=ry;exact PySem.EqNone.ne_none_int (bN I q (by simp))
  |str j=>obtain⟨t',rfl⟩:=ry;exact PySem.EqNone.ne_none_str (bN I q (by simp))
  |_=>exact absurd (show false=true from hs) Bool.false_ne_true
 |bl i=>
  cases rx
  cases y with
  |non=>cases ry;exact PySem.EqNone.ne_bool_none (bN I q (by simp))
  |bl j=>cases ry;exact ne_bool (bN I q (congrArg not z8))
  |str j=>obtain⟨t',rfl⟩:=ry;exact PySem.EqMixed.ne_bool_str (bN I q (by simp))
  |_=>exact absurd (show false=true from hs) Bool.false_ne_true
 |int i=>
  obtain⟨t,rfl⟩:=rx
  cases y with
  |non=>cases ry;exact PySem.EqNone.ne_int_none (bN I q (by simp))
  |int j=>obtain⟨t',rfl⟩:=ry;exact ne_int (bN I q (congrArg not wU))
  |str j=>obtain⟨t',rfl⟩:=ry;exact PySem.EqMixed.ne_int_str (bN I q (by simp))
  |_=>exact absurd (show false=true from hs) Bool.false_ne_true
 |str i=>
  obtain⟨t,rfl⟩:=rx
  cases y with
  |non=>cases ry;exact PySem.EqNone.ne_str_none (bN I q (by simp))
  |bl j=>cases ry;exact PySem.EqMixed.ne_str_bool (bN I q (by simp))
  |int j=>obtain⟨t',rfl⟩:=ry;exact PySem.EqMixed.ne_str_int (bN I q (by simp))
  |str j=>obtain⟨t',rfl⟩:=ry;exact ne_str (bN I q (congrArg not wG))
  |_=>exact absurd (show false=true from hs) Bool.false_ne_true
 |byt i=>
  obtain⟨t,rfl⟩:=rx
  cases y with
  |byt j=>obtain⟨t',rfl⟩:=ry;exact PySem.W.ne_bytes (bN I q (congrArg not xX))
  |_=>exact absurd (show false=true from hs) Bool.false_ne_true
 |_=>cases y <;> exact absurd (show false=true from hs) Bool.false_ne_true
theorem uF:ij X (compareOp .Lt) (vL fun i j=>.bl (decide (i < j))):=zf fun _ _ _ _ _ _ _ q=>lt_int q
theorem vR:ij X (compareOp .LtE) (vL fun i j=>.bl (decide (i<=j))):=zf fun _ _ _ _ _ _ _ q=>le_int q
theorem AJ:ij X (compareOp .Gt) (vL fun i j=>.bl (decide (j < i))):=zf fun _ _ _ _ _ _ _ q=>gt_int q
theorem bD (b:Expr){op:CmpOp}(h:op≠.In:=by decide)(h2:op≠.NotIn:=by decide):behindInMarks op b=false:=by
 have e1:(op == CmpOp.In)=false:=by cases op <;> first |rfl |exact absurd rfl h
 have e2:(op == CmpOp.NotIn)=false:=by cases op <;> first |rfl |exact absurd rfl h2
 cases b <;> simp[behindInMarks,e1,e2]
theorem v3 {op:CmpOp}{r:R2}(ho:ij X (compareOp op) r)(ha:PE X a ta)(hb:PE X b tb)(hm:behindInMarks op b=false):PE X (.Compare a [op] [b] pos) (B8 r ta tb):=by
 intro pins s σ H Q I h
 exact wpAny_Compare1 (z0 ha hb I h fun v u s2 x y H2 I2 rx ry q=>ho pins s2 σ H2 x y v u Q I2 rx ry q) hm
def Bl (t:TE):TT:=fun σ H Q=>t σ H fun x H'=>∃k,x=.bl k/\Q k H'
theorem qY {op:CmpOp}{r:R2}(ho:ij X (compareOp op) r)(ha:PE X a ta)(hb:PE X b tb)(hm:behindInMarks op b=false):PT X (.Compare a [op] [b] pos) (Bl (B8 r ta tb)):=by
 intro pins s σ H Q I h
 refine wpAny_isTrue_Compare1 (bb (ha pins s σ H _ I h) fun v s1 ⟨x,H1,I1,r1,q1⟩=>bb (hb pins s1 σ H1 _ I1 q1) fun u s2 ⟨y,H2,I2,r2,q2⟩=>
  bb (ho pins s2 σ H2 x y v u _ I2 r1 r2 q2) fun c s3 ⟨z,H3,I3,r3,k,e,q3⟩=>?_) hm
 subst e
 cases r3
 exact wpAny_truthy_bool ⟨H3,I3,q3⟩
def zx (r r':R2)(ta tb tc:TE):TE:=fun σ H Q=>ta σ H fun x H1=>tb σ H1 fun y H2=>r x y H2 fun z H3=>∃k,z=.bl k/\
 (if k=true then tc σ H3 fun w' H4=>r' y w' H4 Q else Q (.bl false) H3)
theorem uj {op op':CmpOp}{r r':R2}(ho:ij X (compareOp op) r)(ho':ij X (compareOp op') r')(ha:PE X a ta)(hb:PE X b tb)(hc:PE X c tc)
  (hm:lastMarks [op,op'] [b,c]=false:=by with_unfolding_all rfl):PE X (.Compare a [op,op'] [b,c] pos) (zx r r' ta tb tc):=by
 intro pins s σ H Q I h
 refine Compare_chain (bb (ha pins s σ H _ I h) fun v s1 ⟨x,H1,I1,r1,q1⟩=>chain_link (bb (hb pins s1 σ H1 _ I1 q1) fun u s2 ⟨y,H2,I2,r2,q2⟩=>
  bb (ho pins s2 σ H2 x y v u _ I2 r1 r2 q2) fun d s3 ⟨z,H3,I3,r3,k,e,q3⟩=>?_)) hm
 subst e
 cases r3
 refine wpAny_truthy_bool ?_
 cases k with
 |false=>exact ite_ff ⟨.bl false,H3,I3,rfl,q3⟩
 |true=>exact ite_tt (chain_last (bb (hc pins s3 σ H3 _ I3 q3) fun w' s4 ⟨z',H4,I4,r4,q4⟩=>ho' pins s4 σ H4 y z' u w' Q I4 r2 r4 q4))
def Ay (K:PySem.W.Frag)(x:V)(H:Hp)(k:Bool):Prop:=
 match x with
 | .non=>k=false
 | .bl b=>k=b
 | .int i=>k=(i != 0)
 | .str y=>y.length<=sizeLine/\k=((y.length:Int) != 0)
 | .byt y=>y.size<=sizeLine/\k=((y.size:Int) != 0)
 | .ref p=>(∃xs,fC K H p xs/\k= !xs.isEmpty)\/(∃xs,dq K H p xs/\k= !xs.isEmpty)\/∃kvs,H p=some (.dK kvs)/\k= !kvs.isEmpty
 |_=>False
theorem pL {κ:Type}{kvs:List (κ×V)}{vs:List (κ×Value)}(r:KV kvs vs):(!vs.isEmpty)= !kvs.isEmpty:=by
 cases r <;> rfl
theorem jx {xs:List V}{its:List Value}(r:Vals xs its):(!its.toArray.isEmpty)= !xs.isEmpty:=by
 cases r <;> simp
theorem iJ:(sizeLine:Nat) < 2 ^ 63:=by rw[sizeLine_eq];decide
theorem Ah:C3 X (fun x H Q=>∃k,Ay X.K x H k/\Q k H):=by
 intro pins s σ H x v Q I rx h
 obtain⟨k,e,q⟩:=h
 have hl:=iJ
 have hs:sizeLine=16777216:=sizeLine_eq
 cases x with
 |non=>
  cases rx
  have e':k=false:=e
  subst e'
  exact truthy_none ⟨H,I,q⟩
 |bl b=>
  cases rx
  have e':k=b:=e
  subst e'
  exact wpAny_truthy_bool ⟨H,I,q⟩
 |int i=>
  obtain⟨t,rfl⟩:=rx
  have e':k=(i != 0):=e
  subst e'
  exact PySem.P.truthy_int ⟨H,I,q⟩
 |str y=>
  obtain⟨t,rfl⟩:=rx
  obtain⟨hy,e'⟩:y.length<=sizeLine/\k=((y.length:Int) != 0):=e
  subst e'
  exact PySem.P.truthy_str (by omega) ⟨H,I.tok _,q⟩
 |byt y=>
  obtain⟨t,rfl⟩:=rx
  obtain⟨hy,e'⟩:y.size<=sizeLine/\k=((y.size:Int) != 0):=e
  subst e'
  exact PySem.W.truthy_bytes (by omega) ⟨H,I.tok _,q⟩
 |ref p=>
  cases rx
  have e':(∃xs,fC X.K H p xs/\k= !xs.isEmpty)\/(∃xs,dq X.K H p xs/\k= !xs.isEmpty)\/∃kvs,H p=some (.dK kvs)/\k= !kvs.isEmpty:=e
  rcases e' with⟨xs,hx,e'⟩ | ⟨xs,hx,e'⟩ | ⟨kvs,hx,e'⟩
  ·subst e'
   obtain⟨its,r,pl,hz⟩:=I.list hx
   have hlen:=r.length
   exact wpAny_truthy_list pl.isList (by simp only[List.size_toArray];omega) ⟨H,I.tok _,by rw[jx r];exact q⟩
  ·subst e'
   obtain⟨its,r,pl,hz⟩:=I.tuple hx
   have hlen:=r.length
   exact truthy_tuple pl (by simp only[List.size_toArray];omega) ⟨H,I.tok _,by rw[jx r];exact q⟩
  ·subst e'
   obtain⟨hz,hS,vs,r,m⟩:kvs.length<=sizeLine/\(p == sysModules)=false/\∃vs,KV kvs vs/\s.heap.DictOf (b6 X.prog X.w) p vs:=I.hok p _ hx
   have hlen:kvs.length=vs.length:=Paired.length r
   exact wpAny_truthy_dict hS m (by omega) ⟨H,I.tok _,by rw[pL r];exact q⟩
 |_=>exact (show False from e).elim
theorem tK (ha:PE X a ta)(he:∀whole,isTrue a X.env whole=(do let v <-whole;standAt a.pos;holding [v] (truthy v))) :
  PT X a (fun σ H Q=>ta σ H fun x H'=>∃k,Ay X.K x H' k/\Q k H'):=by
 intro pins s σ H Q I h
 exact isTrue_plain (bb (ha pins s σ H _ I h) fun v s1 ⟨x,H1,I1,r1,q1⟩=>Ah pins s1 σ H1 x v Q I1 r1 q1) (he _)
theorem vals1 {x:V}{us:List Value}(r:Vals [x] us):∃u,us= [u]/\RelV x u:=by
 cases r with
 |cons r1 r2=>cases r2;exact⟨_,rfl,r1⟩
theorem vals2 {x y:V}{us:List Value}(r:Vals [x,y] us):∃u w',us= [u,w']/\RelV x u/\RelV y w':=by
 cases r with
 |cons r1 r2=>
  cases r2 with
  |cons r3 r4=>cases r4;exact⟨_,_,rfl,r1,r3⟩
theorem tj:bI X (.builtin "abs") (fun xs H Q=>∃i,xs= [.int i]/\Q (.int (if i < 0 then -i else i)) H):=by
 intro pins s σ H xs us Q I r h
 obtain⟨i,rfl,q⟩:=h
 obtain⟨u,rfl,t,rfl⟩:=vals1 r
 exact call_abs_int fun u tk=>⟨.int (if i < 0 then -i else i),H,I.tok _,⟨_,rfl⟩,q⟩
theorem rB (hc:X.calm=true):bI X (.builtin "max") (fun xs H Q=>∃i j,xs= [.int i,.int j]/\Q (.int (if j > i then j else i)) H):=by
 intro pins s σ H xs us Q I r h
 obtain⟨i,j,rfl,q⟩:=h
 obtain⟨u,w',rfl,⟨t,rfl⟩,⟨t',rfl⟩⟩:=vals2 r
 refine max_two_ints (I.ok.hd hc) fun h' tk k=>⟨_,H,I.kept k,?_,q⟩
 by_cases hj:j > i
 ·rw[if_pos hj,if_pos hj];exact⟨_,rfl⟩
 ·rw[if_neg hj,if_neg hj];exact⟨_,rfl⟩
theorem rG (hc:X.calm=true):bI X (.builtin "min") (fun xs H Q=>∃i j,xs= [.int i,.int j]/\Q (.int (if j < i then j else i)) H):=by
 intro pins s σ H xs us Q I r h
 obtain⟨i,j,rfl,q⟩:=h
 obtain⟨u,w',rfl,⟨t,rfl⟩,⟨t',rfl⟩⟩:=vals2 r
 refine min_two_ints (I.ok.hd hc) fun h' tk k=>⟨_,H,I.kept k,?_,q⟩
 by_cases hj:j < i
 ·rw[if_pos hj,if_pos hj];exact⟨_,rfl⟩
 ·rw[if_neg hj,if_neg hj];exact⟨_,rfl⟩
def Bx (K:PySem.W.Frag)(x:V)(H:Hp)(n:Nat):Prop:=
 match x with
 | .str y=>y.length<=sizeLine/\n=y.length
 | .byt y=>y.size<=sizeLine/\n=y.size
 | .ref p=>(∃xs,fC K H p xs/\n=xs.length)\/∃xs,dq K H p xs/\n=xs.length
 |_=>False
theorem cX:bI X (.builtin "len") (fun xs H Q=>∃x n,xs= [x]/\Bx X.K x H n/\Q (.int n) H):=by
 intro pins s σ H xs us Q I r h
 obtain⟨x,n,rfl,e,q⟩:=h
 obtain⟨u,rfl,rx⟩:=vals1 r
 have hl:=iJ
 have hs:sizeLine=16777216:=sizeLine_eq
 cases x with
 |str y=>
  obtain⟨t,rfl⟩:=rx
  obtain⟨hy,e'⟩:y.length<=sizeLine/\n=y.length:=e
  subst e'
  exact len_str (by omega) ⟨.int _,H,I.tok _,⟨_,rfl⟩,q⟩
 |byt y=>
  obtain⟨t,rfl⟩:=rx
  obtain⟨hy,e'⟩:y.size<=sizeLine/\n=y.size:=e
  subst e'
  exact PySem.W.len_bytes (by omega) ⟨.int _,H,I.tok _,⟨_,rfl⟩,q⟩
 |ref p=>
  cases rx
  have e':(∃xs,fC X.K H p xs/\n=xs.length)\/∃xs,dq X.K H p xs/\n=xs.length:=e
  rcases e' with⟨xs,hx,e'⟩ | ⟨xs,hx,e'⟩
  ·subst e'
   obtain⟨its,r',pl,hz⟩:=I.list hx
   have hlen:=r'.length
   exact Calls.call_len_list pl.isList (by simp only[List.size_toArray];omega) ⟨.int xs.length,H,I.tok _,⟨_,by simp only[List.size_toArray];rw[hlen]⟩,q⟩
  ·subst e'
   obtain⟨its,r',pl,hz⟩:=I.tuple hx
   have hlen:=r'.length
   exact len_tuple pl (by simp only[List.size_toArray];omega) ⟨.int xs.length,H,I.tok _,⟨_,by simp only[List.size_toArray];rw[hlen]⟩,q⟩
 |_=>exact (show False from e).elim
theorem nt:bI X (.builtin "divmod") (fun xs H Q=>∃i j,xs= [.int i,.int j]/\wY i j/\∀p,H p=none->Q (.ref p) (upd H p (.tup [.int (i / j),.int (i % j)]))):=by
 intro pins s σ H xs us Q I r h
 obtain⟨i,j,rfl,⟨h1,h2⟩,q⟩:=h
 obtain⟨u,w',rfl,⟨t,rfl⟩,⟨t',rfl⟩⟩:=vals2 r
 refine divmod_int (by omega) ?_ (.inl (PyProof.noPylong_small (by omega)))
 rw[Int.fdiv_eq_ediv_of_nonneg i (by omega),Int.fmod_eq_emod_of_nonneg i (by omega)]
 have hn:H s.heap.objs.size=none:=I.hok.fresh (Nat.le_refl _)
 refine⟨.ref s.heap.objs.size,_,?_,rfl,q _ hn⟩
 refine I.laid (fun b o e=>Heap.get?_push_of_some _ e) (Nat.le_refl _) ⟨by simp only[List.length_cons,List.length_nil];rw[sizeLine_eq];decide,[.int (i / j) s.toks,.int (i % j) (s.toks + 1)],.cons ⟨_,rfl⟩ (.cons ⟨_,rfl⟩ .nil),?_⟩
 exact⟨_,Heap.get?_push_size s.heap rfl,rfl,0,rfl,rfl⟩
end
end L2
namespace L2
open PySem PySem.Spec PyProof.Rows
structure zO (h:Heap)(x dx C:Addr)(mA:Str->Option Value):Prop where
 obj:h.get? x=some (PySem.W.instObj C dx)
 ns:h.Ns1 dx mA
 ne:dx≠x
theorem sN {h:Heap}{dx:Addr}{mA:Str->Option Value}(n:h.Ns1 dx mA):∃od,h.get? dx=some od/\∀name,PySem.W.lookIn name od=some (mA name):=by
 obtain⟨o,es,ep,ho,hd,hk,_,hm⟩:=n
 refine⟨o,ho,fun name=>?_⟩
 have e:=hm name
 unfold nsFind findBy at e
 rw[<-Array.find?_toList] at e
 unfold PySem.W.lookIn
 rw[hd]
 dsimp only
 split
 ·rename_i y q
  rw[q] at e
  exact congrArg some e
 ·rename_i q
  rw[q] at e
  have a:es.toList.any (·.refKey)=false:=by
   rw[List.any_eq_false]
   intro y hy
   obtain⟨z,t,hkey⟩:=hk y (Array.mem_toList_iff.mp hy)
   simp[DictEntry.refKey,hkey]
  have a':¬es.toList.any (·.refKey)=true:=by rw[a];exact Bool.false_ne_true
  rw[if_neg a']
  exact congrArg some e
theorem zO.look {h:Heap}{x dx C:Addr}{mA:Str->Option Value}(I:zO h x dx C mA):∃od,PySem.W.InstAt h x (PySem.W.instObj C dx) C (some od)/\∀name,PySem.W.lookIn name od=some (mA name):=
 let ⟨od,ho,hl⟩:=sN I.ns
 ⟨od,⟨I.obj,rfl,rfl,ho⟩,hl⟩
section
variable {P:Program}{w:World}{H H':Hp}{h h':Heap}{a C dx:Addr}{fs fs':List (Str×V)}
theorem xx (hok:fm P w H h)(e:H a=some (.ins C dx fs)):∃mA,zO h a dx C mA/\(∀f,uA (fs.lookup f) (mA f))/\PySem.Within mA (fs.map (·.1))/\fs.length<=1000/\H dx=some (.own a):=by
 obtain⟨d,z,ne,ob,mA,n,r,q⟩:=(show aV P w H h a (.ins C dx fs) from hok a _ e)
 exact⟨mA,⟨ob,n,ne⟩,r,q,z,d⟩
end
structure CD (K:PySem.W.Frag)(C:Addr):Prop where
 pg:PySem.W.plainGet K C Str.empty=true
 hd:PySem.W.hasDictIn K C=true
 po:PySem.W.plainOver K C=true
 sa:PySem.W.findIn K (.ref C) "__setattr__"=some (some (.builtin "object.__setattr__"))
theorem CD.get {K:PySem.W.Frag}{C:Addr}(c:CD K C)(f:Str):PySem.W.plainGet K C f=true:=c.pg
section
variable {X:Cx}{pins:List (Addr×Obj)}{σ:St}{H:Hp}{s:Shared}{A:Around}{E:Value->Shared->Prop}{Q:Value->Shared->Prop}{c:Value}{b:Bool}
inductive i2 (K:PySem.W.Frag)(H:Hp):V->Value->Prop where
 |non:i2 K H .non (.type "NoneType")
 |bl (x:Bool):i2 K H (.bl x) (.type "bool")
 |int (i:Int):i2 K H (.int i) (.type "int")
 |str (x:Str):i2 K H (.str x) (.type "str")
 |flt (x:UInt64):i2 K H (.flt x) (.type "float")
 |lst {a:Addr} {xs:List V} (e:H a=some (.lst xs)):i2 K H (.ref a) (.type "list")
 |aC {a:Addr} {o:Obj} {xs:List V} (e:H a=some (.aC o (.lst xs))):i2 K H (.ref a) (.type "list")
 |tup {a:Addr} {xs:List V} (e:H a=some (.tup xs)):i2 K H (.ref a) (.type "tuple")
 |dK {a:Addr} {kvs:List (Key×V)} (e:H a=some (.dK kvs)):i2 K H (.ref a) (.type "dict")
 |dT {a:Addr} {kvs:List (List Key×V)} (e:H a=some (.dT kvs)):i2 K H (.ref a) (.type "dict")
 |ins {a C dx:Addr} {fs:List (Str×V)} (e:H a=some (.ins C dx fs)) (cl:CD K C) (ha:PySem.W.findIn K (.ref C) "__class__"=some (some (.builtin "object.__class__")))
   (hn:PySem.W.specialIn K (.builtin "object.__class__") "__get__"=some (some (.builtin "getset_descriptor.__get__"))) (htk:PySem.W.takesIn K (.builtin "object.__class__")=some true)
   (hm:PySem.W.mroIn K C (.type "object")=some true):i2 K H (.ref a) (.ref C)
theorem dJ {x:V}{u t:Value}(I:Inv X pins σ H s)(rx:RelV x u)(ty:i2 X.K H x t)(e:PySem.W.kitOne X.K t c=some b)(h:∀tk,Q (.bool b) {s with toks:=tk}) :
  wpAny (model X.prog X.w) A (call (.builtin "isinstance") [u,c]) Q E s:=by
 cases ty with
 |non=>cases (show u=Value.none from rx);exact PySem.W.kia_one PySem.W.kitx_none I.kIn True.intro e (fun z=>nomatch z) h
 |bl y=>cases (show u=Value.bool y from rx);exact PySem.W.kia_one PySem.W.kitx_bool I.kIn True.intro e (fun z=>nomatch z) h
 |int i=>obtain⟨t,q⟩:=(show ∃t,u=Value.int i t from rx);cases q;exact PySem.W.kia_one PySem.W.kitx_int I.kIn True.intro e (fun z=>nomatch z) h
 |str y=>obtain⟨t,q⟩:=(show ∃t,u=Value.str y t from rx);cases q;exact PySem.W.kia_one PySem.W.kitx_str I.kIn True.intro e (fun z=>nomatch z) h
 |flt y=>obtain⟨t,q⟩:=(show ∃t,u=Value.float y t from rx);cases q;exact PySem.W.kia_one PySem.W.kitx_float I.kIn True.intro e (fun z=>nomatch z) h
 | @lst a xs ea=>
  cases (show u=Value.ref a from rx)
  obtain⟨_,_,n,_,h1⟩:=(show aV X.prog X.w H s.heap a (.lst xs) from I.hok a _ ea)
  exact PySem.W.kia_one PySem.W.kitx_list I.kIn ⟨_,h1,rfl⟩ e (fun z=>nomatch z) h
 | @aC a ob xs ea=>
  cases (show u=Value.ref a from rx)
  obtain⟨_,_,_,n,_,h1⟩:=(show aV X.prog X.w H s.heap a (.aC ob (.lst xs)) from I.hok a _ ea)
  exact PySem.W.kia_one PySem.W.kitx_list I.kIn ⟨_,h1,rfl⟩ e (fun z=>nomatch z) h
 | @tup a xs ea=>
  cases (show u=Value.ref a from rx)
  obtain⟨_,_,_,p⟩:=(show aV X.prog X.w H s.heap a (.tup xs) from I.hok a _ ea)
  obtain⟨o,h1,h2,_⟩:=p
  exact PySem.W.kia_one PySem.W.kitx_tuple I.kIn ⟨o,h1,h2⟩ e (fun z=>nomatch z) h
 | @dK a kvs ea=>
  cases (show u=Value.ref a from rx)
  obtain⟨_,_,vs,_,p⟩:=(show aV X.prog X.w H s.heap a (.dK kvs) from I.hok a _ ea)
  obtain⟨o,es,ep,h1,h2,_⟩:=p
  exact PySem.W.kia_one PySem.W.kitx_dict I.kIn ⟨o,h1,h2.1⟩ e (fun z=>nomatch z) h
 | @dT a kvs ea=>
  cases (show u=Value.ref a from rx)
  obtain⟨_,_,xs,_,o,es,ep,h1,h2,_⟩:=(show aV X.prog X.w H s.heap a (.dT kvs) from I.hok a _ ea)
  exact PySem.W.kia_one PySem.W.kitx_dict I.kIn ⟨o,h1,h2.1⟩ e (fun z=>nomatch z) h
 | @ins a C dx fs ea cl ha hn htk hm=>
  cases (show u=Value.ref a from rx)
  obtain⟨mA,O,_⟩:=xx I.hok ea
  obtain⟨od,J,_⟩:=O.look
  exact PySem.W.kia_one (PySem.W.kitx_own (cl.get _) cl.hd ha hn htk hm) I.kIn J e (fun z=>nomatch z) h
end
end L2
namespace L2
open PySem PySem.Spec PyProof.Rows
structure bS (k:Nat)(A:Around):Prop where
 hd:A.handled=none
 dp:A.depth + 3 * k + 5 < recursionLimit
 un:A.units + 16 * k + 200 < cLine
 gd:A.guards=some []
theorem bS.mono {j k:Nat}{A:Around}(r:bS k A)(h:j<=k):bS j A:=⟨r.hd,by have:=r.dp;omega,by have:=r.un;omega,r.gd⟩
theorem bS.deeper {k:Nat}{A:Around}(r:bS (k + 1) A)(env:Env):bS k (A.deeper env):=
 ⟨r.hd,by have:=r.dp;show A.depth + 1 + 3 * k + 5 < _;omega,by have:=r.un;show A.units + 3 + 16 * k + 200 < _;omega,r.gd⟩
theorem bS.depth {k:Nat}{A:Around}(r:bS k A):A.depth < recursionLimit:=by have:=r.dp;omega
theorem bS.units {k:Nat}{A:Around}(r:bS k A):A.units + 64 < cLine:=by have:=r.un;omega
def Cr:TA:=fun _ H Q=>Q [] H
def BB (ta:TE)(tr:TA):TA:=fun σ H Q=>ta σ H fun x H1=>tr σ H1 fun xs H2=>Q (x :: xs) H2
section
variable {X:Cx}{e:Expr}{es:List Expr}{te:TE}{t:TA}{pos:Pos}
theorem ay:PA X [] Cr:=fun _ _ _ _ H Q I h=>Calls.spliced_nil ⟨[],H,I,.nil,h⟩
theorem ag (ha:PE X e te)(hr:PA X es t)(hs:starEach (e :: es) X.env=(false,eval e X.env) :: starEach es X.env:=by rfl):PA X (e :: es) (BB te t):=by
 intro pos pins s σ H Q I h
 rw[hs]
 show wpAny _ _ (spliced ((false,eval e X.env) :: backTo pos (starEach es X.env))) _ _ s
 refine Calls.spliced_cons (bb (ha pins s σ H _ I h) fun u s1 ⟨x,H1,I1,r1,q1⟩=>?_)
 exact bb (hr pos pins s1 σ H1 _ I1 q1) fun us s2 ⟨xs,H2,I2,r2,q2⟩=>⟨x :: xs,H2,I2,.cons r1 r2,q2⟩
def CB (t:TA):TE:=fun σ H Q=>t σ H fun xs H1=>xs.length<=sizeLine/\∀p,H1 p=none->Q (.ref p) (upd H1 p (.tup xs))
def Ck (t:TA):TE:=fun σ H Q=>t σ H fun xs H1=>xs.length<=sizeLine/\∀p,H1 p=none->Q (.ref p) (upd H1 p (.lst xs))
theorem yT {x1}(h:PA X es t):PE X (.Tuple es x1 pos) (CB t):=by
 intro pins s σ H Q I hq
 refine wpAny_Tuple_spliced (bb (h pos pins s σ H _ I hq) fun us s1 ⟨xs,H1,I1,r,z,q⟩=>⟨by rw[<-r.length];exact z,?_⟩)
 have hf:H1 s1.heap.objs.size=none:=I1.hok.fresh (Nat.le_refl _)
 refine⟨.ref s1.heap.objs.size,upd H1 s1.heap.objs.size (.tup xs),I1.laid (t':=s1.toks) (fun b u e=>Heap.get?_push_of_some _ e) (Nat.le_refl _) ?_,rfl,q _ hf⟩
 exact⟨z,us,r,ko.new _ _⟩
theorem jy (h:PA X es t):PE X (.List es pos) (Ck t):=by
 intro pins s σ H Q I hq
 refine wpAny_List_spliced (bb (h pos pins s σ H _ I hq) fun us s1 ⟨xs,H1,I1,r,z,q⟩=>⟨by rw[<-r.length];exact z,?_⟩)
 have hf:H1 s1.heap.objs.size=none:=I1.hok.fresh (Nat.le_refl _)
 refine⟨.ref s1.heap.objs.size,upd H1 s1.heap.objs.size (.lst xs),I1.laid (t':=s1.toks) (fun b u e=>Heap.get?_push_of_some _ e) (Nat.le_refl _) ?_,rfl,q _ hf⟩
 exact⟨z,us,0,r,Heap.get?_push_size _ rfl⟩
end
abbrev Sp:=List V->Hp->VK->XK->Prop
abbrev ot:=List Env->Hp->Shared->XK->Value->Shared->Prop
structure oU (P:Program)(w:World)(K:PySem.W.Frag)(mg:Str->Option Value)(base:Heap)(A:Around)(outer:List Env)(s:Shared)(H:Hp):Prop where
 frames:A.frames=some outer
 mod:Mod K mg base
 bs:∀b o,base.get? b=some o->s.heap.get? b=some o/\H b=none
 bsz:base.objs.size<=s.heap.objs.size
 funs:s.heap.FunFrames base outer
 frf:∀b∈b8 outer,H b=none
 hok:fm P w H s.heap
 bare:AllBare s.gens
def CE (outer:List Env)(P:Program)(w:World)(H:Hp)(s:Shared)(Q:VK)(u:Value)(s':Shared):Prop:=
 ∃v H',s'.os=s.os/\AllBare s'.gens/\Un (b8 outer) [] H H' s.heap s'.heap/\fm P w H' s'.heap/\RelV v u/\Q v H'
def CR (CX:ot)(outer:List Env)(P:Program)(w:World)(H:Hp)(s:Shared)(Q:VK)(E:XK)(r:Result)(s':Shared):Prop:=
 match r with
 | .ok (.ret u)=>CE outer P w H s Q u s'
 | .ok _=>False
 | .error e=>CX outer H s E e s'
structure fj (P:Program)(w:World)(K:PySem.W.Frag)(mg:Str->Option Value)(base:Heap)(CX:ot)(k:Nat)(f:Addr)(fd:FuncData)(ps:List Str)(sp:Sp):Prop where
 len:∀vs H Q E,sp vs H Q E->vs.length=ps.length
 run:∀(A:Around) (outer:List Env) (s:Shared) (H:Hp) (args:Args) (us:List Value) (vs:List V) (Q:VK) (E:XK),bS k A->oU P w K mg base A outer s H->BindsTo s fd args (ps.zip us)->Vals vs us->sp vs H Q E->
  codeAny (model P w) A (.call (.ref f) args) (CR CX outer P w H s Q E) s
theorem fj.imp {P:Program}{w:World}{K:PySem.W.Frag}{mg:Str->Option Value}{base:Heap}{CX:ot}{k:Nat}{f:Addr}{fd:FuncData}{ps:List Str}{sp sp':Sp}(F:fj P w K mg base CX k f fd ps sp)
  (h:∀vs H Q E,sp' vs H Q E->sp vs H Q E):fj P w K mg base CX k f fd ps sp':=
 ⟨fun vs H Q E q=>F.len vs H Q E (h _ _ _ _ q),fun A outer s H args us vs Q E hr he hb hv hs=>F.run A outer s H args us vs Q E hr he hb hv (h _ _ _ _ hs)⟩
section
variable {X:Cx}{pins:List (Addr×Obj)}{σ:St}{H:Hp}{s s':Shared}
theorem Inv.env0 (I:Inv X pins σ H s):oU X.prog X.w X.K X.mg X.base X.A X.stack s H:=
 ⟨I.ok.frames,I.ok.mod,I.bs,Nat.le_trans I.ok.bsz I.sz,I.stack,I.stkFree,I.hok,I.bare⟩
theorem Inv.after {Q:VK}{u:Value}(I:Inv X pins σ H s)(h:CE X.stack X.prog X.w H s Q u s'):EP X pins σ Q u s':=by
 obtain⟨v,H',os,bare,un,hok,r,q⟩:=h
 obtain⟨hh,g,d,t,os'⟩:=s'
 obtain rfl:os'=s.os:=os
 exact⟨v,H',I.call (h':=hh) (g':=g) (d':=d) (t':=t) (ch:=[]) un hok bare (fun b z=>absurd z (by simp)),r,q⟩
end
def yF (sp:Sp)(dvs:List V)(E:XK)(t:TA):TE:=fun σ H Q=>t σ H fun vs H1=>sp (vs ++ dvs) H1 Q E
def Binds (K:PySem.W.Frag)(fd:FuncData)(ps:List Str)(ds:List Value):Prop:=
 ∀(s:Shared) (us:List Value),K.In s.heap->(us ++ ds).length=ps.length->BindsTo s fd ⟨us,[]⟩ (ps.zip (us ++ ds))
theorem Binds.all {K:PySem.W.Frag}{fd:FuncData}{ps:List Str}(h:∀us:List Value,us.length=ps.length->bindArgs fd ⟨us,[]⟩=pure (ps.zip us)):Binds K fd ps []:=fun s us _ hl=>by
 rw[List.append_nil] at hl ⊢
 exact .of_eq (h us hl)
def Passes (CX:ot)(X:Cx)(E:XK):Prop:=∀(pins:List (Addr×Obj)) (σ:St) (H:Hp) (s:Shared) (e:Value) (s':Shared),Inv X pins σ H s->CX X.stack H s E e s'->X.xe e s'
section
variable {X:Cx}{CX:ot}{k:Nat}{f C:Addr}{fd:FuncData}{ps:List Str}{sp:Sp}{dvs:List V}{ds:List Value}{E:XK}{x m:Str}{p pos apos:Pos}{e o:Expr}{es:List Expr}{ta:TE}{t:TA}
theorem zL {pins:List (Addr×Obj)}{σ:St}{H:Hp}{s:Shared}{Q:VK}{us:List Value}{vs:List V}(F:fj X.prog X.w X.K X.mg X.base CX k f fd ps sp)(hr:bS k X.A)(hb:Binds X.K fd ps ds)(hd:Vals dvs ds)(hx:Passes CX X E)
  (I:Inv X pins σ H s) (r:Vals vs us) (h:sp (vs ++ dvs) H Q E):wpAny (model X.prog X.w) X.A (call (.ref f) us) (EP X pins σ Q) X.xe s:=by
 have r2:Vals (vs ++ dvs) (us ++ ds):=r.append hd
 have hl:(us ++ ds).length=ps.length:=by rw[<-r2.length];exact F.len _ _ _ _ h
 refine wpAny_call (codeAny_mono (F.run X.A X.stack s H ⟨us,[]⟩ (us ++ ds) (vs ++ dvs) Q E hr I.env0 (hb s us I.kIn hl) r2 h) fun r s' hq=>?_)
 cases r with
 |error e=>exact hx pins σ H s e s' I hq
 |ok fl=>
  cases fl with
  |ret u=>exact I.after hq
  |next=>exact False.elim hq
  |brk=>exact False.elim hq
  |cont=>exact False.elim hq
theorem mB (F:fj X.prog X.w X.K X.mg X.base CX k f fd ps sp)(hr:bS k X.A)(hg:Gl X x)(hm:X.mg x=some (.ref f))(hk:PySem.W.keepIn X.K (.ref f)=true)(hb:Binds X.K fd ps ds)(hd:Vals dvs ds)(hx:Passes CX X E)
  (ha:PA X (e :: es) t) (hdb:(x == ("__debug__":Str))=false:=by decide) (he:starEach (e :: es) X.env=(false,eval e X.env) :: starEach es X.env:=by rfl) (hpl:(backTo pos (starEach es X.env)).any (·.1)=false:=by rfl) :
  PE X (.Call (.Name x p) (e :: es) [] pos) (yF sp dvs E t):=by
 intro pins s σ H Q I h
 refine wpAny_Call_Name_kw (ig I hg hm ?_ hdb)
 refine PySem.W.callWith_K (h₀:=X.base) I.ok.mod.kin hk (bb (ha pos pins s σ H _ I h) fun us s1 ⟨vs,H1,I1,r,q⟩=>⟨I1.kIn,?_⟩) he hpl
 exact zL F hr hb hd hx I1 r q
end
structure aF (N P:List Str)(sc:Scope):Prop where
 kind:sc.kind=.function
 co:sc.isCoroutine=false
 gen:sc.isGenerator=false
 nd:N.Nodup
 pre:N.take P.length=P
 par:∀x∈P,sc.names.lookup x=some .local\/sc.names.lookup x=some .cell
 nofree:∀y∈sc.names,y.2≠.free
theorem lh {kindOf:Str->Option NameKind}{x:Str}:∀{binds:List (Str×Value)} {m:Str->Option Value},(∀v,(x,v)∉binds)->bindL kindOf binds m x=m x
 | [],_,_=>rfl
 | (n,v) :: r,m,h=>by
  unfold bindL
  rw[lh fun w hw=>h w (List.mem_cons_of_mem _ hw)]
  split
  ·have:x≠n:=by rintro rfl;exact h v List.mem_cons_self
   simp[this]
  ·rfl
theorem kP {kindOf:Str->Option NameKind}{x:Str}:∀{binds:List (Str×Value)} {m:Str->Option Value},(∀v,(x,v)∉binds)->bindC kindOf binds m x=m x
 | [],_,_=>rfl
 | (n,v) :: r,m,h=>by
  unfold bindC
  rw[kP fun w hw=>h w (List.mem_cons_of_mem _ hw)]
  split
  ·rfl
  ·have:x≠n:=by rintro rfl;exact h v List.mem_cons_self
   simp[this]
theorem kT {kindOf:Str->Option NameKind}{x:Str}{v:Value}:∀{P:List Str} {vs:List Value} {i:Nat} {m:Str->Option Value},P.Nodup->P[i]? =some x->vs[i]? =some v->kindOf x=some .local->
  bindL kindOf (P.zip vs) m x=some v
 | [],_,_,_,_,h,_,_=>by simp at h
 |_ :: _,[],_,_,_,_,h,_=>by simp at h
 |p :: P,w :: vs,0,m,nd,h1,h2,hk=>by
  simp at h1 h2;subst h1;subst h2
  show bindL kindOf ((p,w) :: P.zip vs) m p=_
  unfold bindL
  rw[lh fun v hv=>(List.nodup_cons.mp nd).1 (List.of_mem_zip hv).1,if_pos hk]
  simp
 |p :: P,w :: vs,i + 1,m,nd,h1,h2,hk=>by
  show bindL kindOf ((p,w) :: P.zip vs) m x=_
  unfold bindL
  exact kT (i:=i) (List.nodup_cons.mp nd).2 (by simpa using h1) (by simpa using h2) hk
theorem lq {kindOf:Str->Option NameKind}{x:Str}{v:Value}:∀{P:List Str} {vs:List Value} {i:Nat} {m:Str->Option Value},P.Nodup->P[i]? =some x->vs[i]? =some v->kindOf x≠some .local->
  bindC kindOf (P.zip vs) m x=some v
 | [],_,_,_,_,h,_,_=>by simp at h
 |_ :: _,[],_,_,_,_,h,_=>by simp at h
 |p :: P,w :: vs,0,m,nd,h1,h2,hk=>by
  simp at h1 h2;subst h1;subst h2
  show bindC kindOf ((p,w) :: P.zip vs) m p=_
  unfold bindC
  rw[kP fun v hv=>(List.nodup_cons.mp nd).1 (List.of_mem_zip hv).1,if_neg hk]
  simp
 |p :: P,w :: vs,i + 1,m,nd,h1,h2,hk=>by
  show bindC kindOf ((p,w) :: P.zip vs) m x=_
  unfold bindC
  exact lq (i:=i) (List.nodup_cons.mp nd).2 (by simpa using h1) (by simpa using h2) hk
def start (N:List Str)(vs:List V):St:=vs.map some ++ List.replicate (N.length - vs.length) none
def fE (CX:ot)(P:Program)(w:World)(K:PySem.W.Frag)(mg:Str->Option Value)(base:Heap)(N:List Str)(qual:Str)(scope:Scope)(f:Addr)(cd:Value)(A:Around)(outer:List Env)(s:Shared)(H:Hp)(E:XK):Cx where
 prog:=P
 w:=w
 K:=K
 mg:=mg
 base:=base
 A:=A.deeper (envOfC qual scope s.heap.objs.size f cd)
 N:=N
 s₀:=s
 H₀:=H
 env:=envOfC qual scope s.heap.objs.size f cd
 outer:=outer
 stack:=envOfC qual scope s.heap.objs.size f cd :: outer
 ex:=[]
 calm:=true
 fn:=fun _=>true
 pn:=[]
 xe:=fun e s'=>wpAny (model P w) (A.deeper (envOfC qual scope s.heap.objs.size f cd)) (leaving (envOfC qual scope s.heap.objs.size f cd) e) (fun _ s''=>CX outer H s E e s'') (fun e' s''=>CX outer H s E e' s'') s'
theorem nK {sc:Scope}{n:Nat}{x:Str}(h:sc.names.lookup x=some .cell):∃c,(cellsFrom n sc.names []).lookup x=some c:=by
 have q:=PySem.W.cellsFrom_some sc.names n [] (.inl h)
 exact Option.isSome_iff_exists.mp q
theorem la {CX:ot}{P:Program}{w:World}{K:PySem.W.Frag}{mg:Str->Option Value}{base:Heap}{N ps:List Str}{qual:Str}{scope:Scope}{f:Addr}{cd:Value}{A:Around}{outer:List Env}{s s1:Shared}{H:Hp}{E:XK}{us:List Value}{vs:List V}
  (S:aF N ps scope) (hd:A.handled=none) (e0:oU P w K mg base A outer s H) (hl:vs.length=ps.length) (r:Vals vs us)
  (x:InCallC s s.heap.objs.size (bindL (envOfC qual scope s.heap.objs.size f cd).kindOf (ps.zip us) fun _=>none) (cellsFrom (s.heap.objs.size + 1) scope.names []) (bindC (envOfC qual scope s.heap.objs.size f cd).kindOf (ps.zip us) fun _=>none) s1) :
  Inv (fE CX P w K mg base N qual scope f cd A outer s H E) [] (start N vs) H s1:=by
 have hpl:ps.length<=N.length:=by have:=congrArg List.length S.pre;rw[List.length_take] at this;omega
 obtain⟨h1,tk,rfl,hk⟩:=x.done
 have noA:∀b:Addr,b∉(fE CX P w K mg base N qual scope f cd A outer s H E).ex:=fun b z=>absurd (show b∈([]:List Addr) from z) (by simp)
 refine⟨⟨e0.mod,S.kind,rfl,rfl,Nat.le_refl _,fun y z c h1 h2=>?_,fun y hy=>?_,fun y c _ h=>?_,fun _=>hd,Around.frames_deeper e0.frames,.inr ⟨rfl,rfl⟩,fun b z=>absurd z (noA b),e0.bs,e0.bsz,fun b _ _=>noA b,fun b z=>absurd z (noA b),e0.funs,e0.frf⟩,
  rfl,e0.bare,Un.kept hk,⟨_,x.toInCall.ns,fun i y v h1 h2 h3=>?_⟩,fun y c h=>⟨_,x.cell y c h⟩,e0.hok.fresh (Nat.le_refl _),fun y c h=>?_,fun p hp=>absurd (show p∈([]:List (Addr×Obj)) from hp) (by simp),e0.hok.kept hk,?_⟩
 ·exact name_of_addr x.apart (PySem.mem_of_lookup h1) (PySem.mem_of_lookup h2)
 ·have hy:scope.names.lookup y=some .cell\/scope.names.lookup y=some .free:=hy
  rcases hy with hy |hy
  ·exact nK hy
  ·exact absurd rfl (S.nofree _ (PySem.mem_of_lookup hy))
 ·exact Nat.le_of_lt (x.above y c (PySem.mem_of_lookup h))
 ·have hi:i < vs.length:=by
   unfold start at h2
   by_cases hi:i < vs.length
   ·exact hi
   ·rw[List.getElem?_append_right (by simpa using hi)] at h2
    rw[List.getElem?_replicate] at h2
    split at h2 <;> cases h2
  have ha:vs[i]? =some v:=by
   unfold start at h2
   rw[List.getElem?_append_left (by simpa using hi),List.getElem?_map] at h2
   cases e:vs[i]? with
   |none=>rw[e] at h2;cases h2
   |some a=>rw[e] at h2;cases h2;rfl
  obtain⟨u,hu,rv⟩:=r.get ha
  have hp:ps[i]? =some y:=by
   rw[<-S.pre,List.getElem?_take_of_lt (by omega)];exact h1
  have ndP:ps.Nodup:=by rw[<-S.pre];exact S.nd.sublist (List.take_sublist _ _)
  refine⟨u,rv,?_⟩
  rcases S.par y (List.mem_of_getElem? hp) with k |k
  ·exact .inl ⟨k,kT ndP hp hu k⟩
  ·obtain⟨c,e⟩:=nK (n:=s.heap.objs.size + 1) k
   refine .inr ⟨.inl k,c,e,?_⟩
   have q:=x.cell y c e
   rw[lq ndP hp hu (by show scope.names.lookup y≠_;rw[k];decide)] at q
   exact q
 ·exact e0.hok.fresh (Nat.le_of_lt (x.above y c (PySem.mem_of_lookup h)))
 ·unfold start
  show _=N.length
  rw[List.length_append,List.length_map,List.length_replicate]
  omega
theorem yw {CX:ot}{P:Program}{w:World}{K:PySem.W.Frag}{mg:Str->Option Value}{base:Heap}{k:Nat}{f:Addr}{name qual:Str}{params:Arguments}{body:List Stmt}{scope:Scope}{dV kV doc pm cdv ct oc:Value}{an od:Option Addr}
  {osl:Array (Option Value)} {N ps:List Str} {sp:Sp} (lk:K.lookup f=some ⟨oc,od,.func (PySem.W.fnOf name qual params body scope dV kV doc pm an cdv ct),osl⟩) (hcd:PySem.W.codeIn K cdv qual=true) (S:aF N ps scope)
  (len:∀vs H Q E,sp vs H Q E->vs.length=ps.length)
  (hbody:∀(A:Around) (outer:List Env) (s:Shared) (H:Hp) (vs:List V) (Q:VK) (E:XK),bS k (A.deeper (envOfC qual scope s.heap.objs.size f cdv))->sp vs H Q E->
   ∃t,i5 (fE CX P w K mg base N qual scope f cdv A outer s H E) body t/\t {nx:=fun _ H'=>Q .non H',rt:=Q} (start N vs) H) :
  fj P w K mg base CX (k + 1) f (PySem.W.fnOf name qual params body scope dV kV doc pm an cdv ct) ps sp:=by
 refine⟨len,fun A outer s H args us vs Q E hr e0 hb r hsp=>?_⟩
 have hl:=len _ _ _ _ hsp
 have KX:K.In s.heap:=e0.mod.kin.keeps fun b o e=>(e0.bs b o e).1
 have lim:s.heap.NoLimit:=e0.mod.nolimit.keeps fun b o e=>(e0.bs b o e).1
 have hkind:∀y∈ps.zip us,scope.names.lookup y.1=some .local\/(scope.names.lookup y.1=some .cell/\((cellsFrom (s.heap.objs.size + 1) scope.names []).lookup y.1).isSome=true):=fun⟨n,v⟩ hy=>by
  rcases S.par n (List.of_mem_zip hy).1 with q |q
  ·exact .inl q
  ·exact .inr ⟨q,PySem.W.cellsFrom_some _ _ _ (.inl q)⟩
 refine codeAny_call_function hr.depth (KX _ _ lk) rfl S.co S.gen rfl (PySem.W.codeRec_of KX hcd) (hb _ _ _ _ ?_)
 refine wpAny_newFunctionEnv_cells S.kind hkind fun env he s1 x=>?_
 subst he
 refine⟨lim.keeps x.toInCall.keep,codeAny_func ?_⟩
 obtain⟨t,ht,hq⟩:=hbody A outer s H vs Q E (hr.deeper _) hsp
 have I:Inv (fE CX P w K mg base N qual scope f cdv A outer s H E) [] (start N vs) H s1:=la S hr.hd e0 hl r x
 refine wpAny_mono (ht [] s1 (start N vs) H _ I hq) (fun fl s' hs=>?_) fun e s' hs=>hs
 have fin:∀{σ':St} {H':Hp} {v:V} {u:Value},Inv (fE CX P w K mg base N qual scope f cdv A outer s H E) [] σ' H' s'->RelV v u->Q v H'->CE outer P w H s Q u s':=
  fun {σ' H' v u} J rv q=>⟨v,H',J.os,J.bare,J.base,J.hok,rv,q⟩
 cases fl with
 |ret u=>
  obtain⟨v,σ',H',J,rv,q⟩:=hs
  exact fin J rv q
 |next=>
  obtain⟨σ',H',J,q⟩:=hs
  exact fin (v:=V.non) (u:=Value.none) J rfl q
 |brk=>
  obtain⟨_,_,_,q⟩:=hs
  exact False.elim q
 |cont=>
  obtain⟨_,_,_,q⟩:=hs
  exact False.elim q
end L2
namespace L2
open PySem PySem.Spec PyProof.Rows
section
variable {X:Cx}{x:Str}{p pos:Pos}{e:Expr}{es:List Expr}{t:TA}{id T:String}{r:List V->Hp->VK->Prop}
def Dt (r:List V->Hp->VK->Prop)(t:TA):TE:=fun σ H Q=>t σ H fun vs H1=>r vs H1 Q
theorem aI (hc:bI X (.builtin id) r)(hg:Gl X x)(hm:X.mg x=none)(hv:bootBuiltins x=some (.builtin id))(ha:PA X (e :: es) t)(hn:x≠"__name__":=by decide)(hdb:(x == ("__debug__":Str))=false:=by decide)
  (he:starEach (e :: es) X.env=(false,eval e X.env) :: starEach es X.env:=by rfl) (hpl:(backTo pos (starEach es X.env)).any (·.1)=false:=by rfl):PE X (.Call (.Name x p) (e :: es) [] pos) (Dt r t):=by
 intro pins s σ H Q I h
 refine wpAny_Call_Name_kw (jR I hg hm hv ?_ hn hdb)
 exact PyProof.Rows.callWith_builtin1 (bb (ha pos pins s σ H _ I h) fun us s1 ⟨vs,H1,I1,r1,q1⟩=>hc pins s1 σ H1 vs us Q I1 r1 q1) he hpl
theorem fR (hc:bI X (.type T) r)(hg:Gl X x)(hm:X.mg x=none)(hv:bootBuiltins x=some (.type T))(ha:PA X (e :: es) t)(hn:x≠"__name__":=by decide)(hdb:(x == ("__debug__":Str))=false:=by decide)
  (he:starEach (e :: es) X.env=(false,eval e X.env) :: starEach es X.env:=by rfl) (hpl:(backTo pos (starEach es X.env)).any (·.1)=false:=by rfl):PE X (.Call (.Name x p) (e :: es) [] pos) (Dt r t):=by
 intro pins s σ H Q I h
 refine wpAny_Call_Name_kw (jR I hg hm hv ?_ hn hdb)
 exact PyProof.Rows.callWith_type1 (bb (ha pos pins s σ H _ I h) fun us s1 ⟨vs,H1,I1,r1,q1⟩=>hc pins s1 σ H1 vs us Q I1 r1 q1) he hpl
end
end L2
namespace HT
open PySem PyProof.Rows
section
open PySem.SeqAt
open PySem.AutoSeq1 (wpAny_loadPart')
open PySem.MeetsSeq PySem.MeetsSeq2 PySem.MeetsSeq3
end
section
variable {prog:Program}{w:World}{A:Around}{E:Value->Shared->Prop}{s:Shared}
theorem wK {t b:Addr}{vs ws:List Value}{Q:Value->Shared->Prop}(ht:IsTup s.heap t vs.toArray)(hb:IsTup s.heap b ws.toArray)(hv:vs≠ [])
  (h1:ws= []->Q (.ref t) s) (h2:ws≠ []->Q (.ref s.heap.objs.size) {s with heap:=s.heap.push {cls:=.type "tuple",data:=.seq (vs ++ ws).toArray}})
  (hsz:vs.length + ws.length<=sizeLine):wpAny (model prog w) A (binaryOp .Add (.ref t) (.ref b)) Q E s:=by
 obtain⟨⟨cls,dd,data,sl⟩,ho,hc,n,hd⟩:=id ht
 obtain⟨⟨cls2,dd2,data2,sl2⟩,ho2,hc2,n2,hd2⟩:=id hb
 simp only at hc hd hc2 hd2
 subst hc hd hc2 hd2
 have e:vs.toArray ++ ws.toArray=(vs ++ ws).toArray:=by simp
 by_cases hw:ws= []
 ·exact concat_meets ⟨_,ho,rfl⟩ ⟨_,ho2,rfl⟩ noFill_tuple_add seq_tuple_add PySem.F.slot_tuple_add PySem.F.entry_tuple_add (PySem.F.args_tuple_add_2 _ _)
   (tuple_addW1 t b vs.toArray ws.toArray n n2 dd dd2 sl sl2 (by simpa using hv) (by simp[hw])) ⟨ho,ho2,h1 hw⟩
 ·refine concat_meets ⟨_,ho,rfl⟩ ⟨_,ho2,rfl⟩ noFill_tuple_add seq_tuple_add PySem.F.slot_tuple_add PySem.F.entry_tuple_add (PySem.F.args_tuple_add_2 _ _)
   (tuple_addW2 t b vs.toArray ws.toArray n n2 dd dd2 sl sl2 (by simpa using hv) (by simpa using hw) (by rw[List.size_toArray,List.size_toArray];exact hsz)) ⟨ho,ho2,?_⟩
  rw[e]
  exact h2 hw
def bF (n d:Nat):Option Int->Nat
 |none=>d
 |some v=>if v < 0 then (v + (n:Int)).toNat else min v.toNat n
theorem hW (n d:Nat):bF n d none=d:=rfl
theorem l9 (n d k:Nat):bF n d (some (k:Int))=min k n:=by
 show (if (k:Int) < 0 then ((k:Int) + (n:Int)).toNat else min (k:Int).toNat n)=min k n
 rw[if_neg (by omega),Int.toNat_natCast]
theorem zh (n d:Nat)(hd:d<=n)(o:Option Int):bF n d o<=n:=by
 cases o with
 |none=>exact hd
 |some v=>
  show (if v < 0 then (v + (n:Int)).toNat else min v.toNat n)<=n
  by_cases hv:v < 0
  ·rw[if_pos hv];omega
  ·rw[if_neg hv];exact Nat.min_le_right _ _
theorem p6 (v:Int)(n d:Nat):(if v < 0 then max (v + (n:Int)) 0 else min v (n:Int))=((bF n d (some v):Nat):Int):=by
 show (if v < 0 then max (v + (n:Int)) 0 else min v (n:Int))=(((if v < 0 then (v + (n:Int)).toNat else min v.toNat n):Nat):Int)
 by_cases hv:v < 0
 ·simp only[if_pos hv];omega
 ·simp only[if_neg hv];omega
theorem oM (lo hi:Option Int)(n:Nat):Builtin.Slice.sliceAdjust lo hi 1 (n:Int)=(((bF n 0 lo:Nat):Int),((bF n n hi:Nat):Int)):=by
 have h1:¬((1:Int) < 0):=by omega
 unfold Builtin.Slice.sliceAdjust
 simp only[h1,if_false]
 refine Prod.ext ?_ ?_
 ·cases lo with
  |none=>rfl
  |some v=>exact p6 v n 0
 ·cases hi with
  |none=>rfl
  |some v=>exact p6 v n n
theorem pC (i j:Nat):Builtin.Slice.slicePlaces (i:Int) (j:Int) 1=j - i:=by
 unfold Builtin.Slice.slicePlaces
 have h1:(1:Int) > 0:=by omega
 simp only[h1,if_true,Int.ediv_one]
 split <;> omega
theorem jB {v:Value}{o:Option Int}{Q:Option Int->Shared->Prop}(p:IsPart v o)(h:Q o s):wpAny (model prog w) A (Builtin.Slice.slicePartIndex v) Q E s:=by
 cases p with
 |none=>exact slicePart_none h
 |int i t=>exact slicePart_int h
theorem dI {sl:Addr}{vl vu:Value}{lo hi:Option Int}{n:Nat}{Q:Int×Int×Nat->Shared->Prop}(hs:s.heap.IsSliceOf sl vl vu .none)(pl:IsPart vl lo)(pu:IsPart vu hi)
  (h:Q (((bF n 0 lo:Nat):Int),1,bF n n hi - bF n 0 lo) s):wpAny (model prog w) A (Builtin.Slice.sliceApplied (.ref sl) (pure (n:Int))) Q E s:=by
 obtain⟨os,hos,hcs,hds⟩:=id hs
 unfold Builtin.Slice.sliceApplied Builtin.Slice.sliceFields
 refine wpAny_bind (wpAny_bind (wpAny_field hos hds (x:=vl) rfl (wpAny_bind (wpAny_field hos hds (x:=vu) rfl (wpAny_bind (wpAny_field hos hds (x:=.none) rfl (wpAny_pure ?_)))))))
 refine wpAny_bind (slicePart_none ?_)
 show wpAny _ _ (if ((1:Int) == 0)=true then _ else _) _ _ s
 rw[if_neg (by decide)]
 refine wpAny_bind (jB pl (wpAny_bind (jB pu (wpAny_bind (wpAny_pure ?_)))))
 show wpAny _ _ (match Builtin.Slice.sliceAdjust lo hi 1 (n:Int) with | (lo,hi)=>pure (lo,(1:Int),Builtin.Slice.slicePlaces lo hi 1)) _ _ s
 rw[oM lo hi n]
 show wpAny _ _ (pure (((bF n 0 lo:Nat):Int),(1:Int),Builtin.Slice.slicePlaces ((bF n 0 lo:Nat):Int) ((bF n n hi:Nat):Int) 1)) _ _ s
 rw[pC]
 exact wpAny_pure h
theorem vP (xs:Array Value)(i k:Nat):((List.range k).filterMap fun (m:Nat)=>xs[((i:Int) + (m:Int) * 1).toNat]?).toArray=((xs.toList.drop i).take k).toArray:=by
 have e:(fun (m:Nat)=>xs[((i:Int) + (m:Int) * 1).toNat]?)=fun m=>xs[i + m]?:=by
  funext m
  have:((i:Int) + (m:Int) * 1).toNat=i + m:=by omega
  rw[this]
 rw[e]
 have:=pick_run xs i k
 rw[List.filterMap_map] at this
 have e2:((fun x=>xs[x]?) ∘ fun x=>i + x)=fun m=>xs[i + m]?:=rfl
 rw[e2] at this
 rw[this]
theorem h9 {t sl:Addr}{items:Array Value}{vl vu:Value}{lo hi:Option Int}{Q:Value->Shared->Prop}(ht:IsTup s.heap t items)(hs:s.heap.IsSliceOf sl vl vu .none)(pl:IsPart vl lo)(pu:IsPart vu hi)
  (hw:¬(bF items.size 0 lo=0/\bF items.size items.size hi=items.size))
  (h:Q (.ref s.heap.objs.size) {s with heap:=s.heap.push {cls:=.type "tuple",data:=.seq ((items.toList.drop (bF items.size 0 lo)).take (bF items.size items.size hi - bF items.size 0 lo)).toArray}})
  (hsz:items.size<=sizeLine):wpAny (model prog w) A (getItem (.ref t) (.ref sl)) Q E s:=by
 have htake:sizeOk (.seq ((items.toList.drop (bF items.size 0 lo)).take (bF items.size items.size hi - bF items.size 0 lo)).toArray):=by
  show ((items.toList.drop (bF items.size 0 lo)).take (bF items.size items.size hi - bF items.size 0 lo)).toArray.size<=sizeLine
  rw[List.size_toArray,List.length_take,List.length_drop,Array.length_toList]
  omega
 have hj:bF items.size items.size hi<=items.size:=zh _ _ (Nat.le_refl _) hi
 obtain⟨os,hos,hcs,hds⟩:=id hs
 have hTs:s.TypeIs (.ref sl) "slice":=⟨os,hos,hcs⟩
 unfold getItem
 try with_reducible refine wpAny_holding ?_
 first |refine wpAny_bind (wpAny_pure ?_) |skip
 refine wpAny_bind (wpAny_sequenceKey ht.typeIs (by decide) ?_)
 refine wpAny_bind (wpAny_callSpecial?_slot (name:=Str.ofString "__getitem__") ht.typeIs PyProof.Rows.slot_tuple_getitem
  (wpAny_call_entry PyProof.Rows.slot_tuple_getitem ht.typeIs entry_tuple_getitem ?_ (args_tuple_getitem _ _)))
 show wpAny _ _ (Builtin.Tuple.tupleItemsOf (.ref t) >>= _) _ _ s
 refine wpAny_bind (tupleItemsOf_ ht ?_)
 refine wpAny_bind (wpAny_typeOf hTs ?_)
 rw[if_pos (by decide)]
 refine wpAny_bind (dI hs pl pu ?_)
 have hno:¬((((bF items.size 0 lo:Nat):Int) == 0 && (1:Int) == 1 && (bF items.size items.size hi - bF items.size 0 lo) == items.size)=true):=by
  intro q
  rw[Bool.and_eq_true,Bool.and_eq_true] at q
  have q1:((bF items.size 0 lo:Nat):Int)=0:=eq_of_beq q.1.1
  have q2:bF items.size items.size hi - bF items.size 0 lo=items.size:=eq_of_beq q.2
  exact hw ⟨by omega,by omega⟩
 show wpAny _ _ (if (((bF items.size 0 lo:Nat):Int) == 0 && (1:Int) == 1 && (bF items.size items.size hi - bF items.size 0 lo) == items.size)=true then _ else _) _ _ s
 rw[if_neg hno,vP]
 first
  |exact wpAny_bind (m:=Builtin.Tuple.tupleExact _) (wpAny_newObj_type (wpAny_pure ⟨_,rfl,wpAny_pure h⟩) htake)
  |exact wpAny_bind (m:=Builtin.Tuple.tupleExact _) (wpAny_newObj_type (wpAny_bind (wpAny_pure (wpAny_pure ⟨_,rfl,wpAny_pure h⟩))) htake)
  |exact wpAny_bind (wpAny_bind (m:=Builtin.Tuple.tupleExact _) (wpAny_newObj_type (wpAny_pure (wpAny_pure ⟨_,rfl,wpAny_pure h⟩)) htake))
  |exact wpAny_bind (wpAny_bind (m:=Builtin.Tuple.tupleExact _) (wpAny_newObj_type (wpAny_pure ⟨_,rfl,wpAny_pure h⟩) htake))
end
end HT
namespace L2
open PySem PySem.Spec PyProof.Rows
abbrev TO:=St->Hp->(Option Int->Hp->Prop)->Prop
def PO (X:Cx)(e:Option Expr)(t:TO):Prop:=
 ∀(pins:List (Addr×Obj)) (s:Shared) (σ:St) (H:Hp) (Q:Option Int->Hp->Prop),Inv X pins σ H s->t σ H Q->
  wpAny (model X.prog X.w) X.A (evalPart e X.env) (fun u s'=>∃o H',Inv X pins σ H' s'/\IsPart u o/\Q o H') X.xe s
def xH:TO:=fun _ H Q=>Q none H
def BK (t:TE):TO:=fun σ H Q=>t σ H fun x H1=>∃i,x=.int i/\Q (some i) H1
theorem intsAre_of {ns:List Int}:∀{us:List Value},Vals (ns.map V.int) us->IntsAre us ns:=by
 induction ns with
 |nil=>intro us r;rw[List.map_nil] at r;cases r;exact .nil
 |cons n ns ih=>
  intro us r
  rw[List.map_cons] at r
  cases r with
  |cons r1 r2=>
   obtain⟨t,e⟩:=r1
   subst e
   exact .cons n t (ih r2)
section
variable {X:Cx}{e:Expr}{te:TE}{lo hi:Option Expr}{tl th:TO}{pos p2:Pos}
theorem w9:PO X none xH:=by
 intro pins s σ H Q I h
 rw[evalPart_none]
 exact wpAny_pure ⟨none,H,I,.none,h⟩
theorem x8 (h:PE X e te):PO X (some e) (BK te):=by
 intro pins s σ H Q I hw
 rw[evalPart_some]
 refine bb (h pins s σ H _ I hw) fun u s1 ⟨x,H1,I1,r1,q1⟩=>?_
 obtain⟨i,rfl,q⟩:=q1
 obtain⟨t,rfl⟩:=r1
 exact⟨some i,H1,I1,.int i t,q⟩
def B7 (X:Cx)(r:V->Option Int->Option Int->Hp->VK->Prop):Prop:=
 ∀(pins:List (Addr×Obj)) (s:Shared) (σ:St) (H:Hp) (x:V) (v vl vu:Value) (lo hi:Option Int) (sl:Addr) (Q:VK),Inv X pins σ H s->RelV x v->s.heap.IsSliceOf sl vl vu .none->IsPart vl lo->IsPart vu hi->r x lo hi H Q->
  ∃T id,typeLookup (.type T) "__getitem__"=pure (some (.builtin id))/\s.TypeIs v T/\wpAny (model X.prog X.w) X.A (getItem v (.ref sl)) (EP X pins σ Q) X.xe s
def DB (r:V->Option Int->Option Int->Hp->VK->Prop)(te:TE)(tl th:TO):TE:=fun σ H Q=>te σ H fun x H1=>tl σ H1 fun l H2=>th σ H2 fun u H3=>r x l u H3 Q
theorem mO {r:V->Option Int->Option Int->Hp->VK->Prop}(hr:B7 X r)(he:PE X e te)(hl:PO X lo tl)(hu:PO X hi th):PE X (.Subscript e (.Slice lo hi none p2) pos) (DB r te tl th):=by
 intro pins s σ H Q I h
 refine Subscript_ (bb (he pins s σ H _ I h) fun v s1 ⟨x,H1,I1,r1,q1⟩=>?_)
 refine wpAny_Slice (bb (hl pins s1 σ H1 _ I1 q1) fun vl s2 ⟨l,H2,I2,pl,q2⟩=>bb (hu pins s2 σ H2 _ I2 q2) fun vu s3 ⟨u,H3,I3,pu,q3⟩=>?_)
 rw[evalPart_none]
 refine wpAny_pure ?_
 have I4:Inv X pins σ H3 {s3 with heap:=s3.heap.push {cls:=.type "slice",data:=.fields #[vl,vu,.none]}}:=I3.kept (t':=s3.toks) fun b ob q=>Heap.get?_push_of_some _ q
 obtain⟨T,id,hT,ht,hg⟩:=hr pins {s3 with heap:=s3.heap.push {cls:=.type "slice",data:=.fields #[vl,vu,.none]}} σ H3 x v vl vu l u s3.heap.objs.size Q I4 r1 (Heap.IsSliceOf.new ..) pl pu q3
 show wpAny (model X.prog X.w) X.A (subscriptTail e (.Slice lo hi none p2) v (.ref s3.heap.objs.size)) (EP X pins σ Q) X.xe {s3 with heap:=s3.heap.push {cls:=.type "slice",data:=.fields #[vl,vu,.none]}}
 exact tail_any (ops:=[.ref s3.heap.objs.size,v]) ht hT hg (by with_unfolding_all rfl)
def ju (xs:List V)(lo hi:Option Int):List V:=(xs.drop (HT.bF xs.length 0 lo)).take (HT.bF xs.length xs.length hi - HT.bF xs.length 0 lo)
theorem iS (xs:List V)(lo hi:Option Int):(ju xs lo hi).length<=xs.length:=by
 unfold ju
 rw[List.length_take,List.length_drop]
 omega
def Ct (K:PySem.W.Frag):V->Option Int->Option Int->Hp->VK->Prop:=fun x lo hi H Q=>∃a xs,x=.ref a/\dq K H a xs/\
 ¬(HT.bF xs.length 0 lo=0/\HT.bF xs.length xs.length hi=xs.length)/\∀p,H p=none->Q (.ref p) (upd H p (.tup (ju xs lo hi)))
theorem yV:B7 X (Ct X.K):=by
 intro pins s σ H x v vl vu lo hi sl Q I rx hs pl pu h
 obtain⟨a,xs,rfl,hx,hw,q⟩:=h
 cases rx
 obtain⟨its,r,ht,hz⟩:=I.tuple hx
 have hlen:its.toArray.size=xs.length:=by rw[List.size_toArray];exact r.length.symm
 refine⟨"tuple",_,PyProof.Rows.slot_tuple_getitem.lookup,ht.typeIs,?_⟩
 refine HT.h9 ht hs pl pu (by rw[hlen];exact hw) ?_ (by rw[hlen];exact hz)
 rw[hlen]
 refine⟨.ref s.heap.objs.size,_,I.laid (t':=s.toks) (o:=.tup (ju xs lo hi)) (fun b ob q=>Heap.get?_push_of_some _ q) (Nat.le_refl _) ?_,rfl,q _ (I.hok.fresh (Nat.le_refl _))⟩
 exact⟨Nat.le_trans (iS xs lo hi) hz,_,(r.drop (HT.bF xs.length 0 lo)).take (HT.bF xs.length xs.length hi - HT.bF xs.length 0 lo),ko.new _ _⟩
def BA (K:PySem.W.Frag):R2:=fun x y H Q=>∃a b xs ys,x=.ref a/\y=.ref b/\dq K H a xs/\dq K H b ys/\xs≠ []/\xs.length + ys.length<=sizeLine/\
 (ys= []->Q (.ref a) H)/\(ys≠ []->∀p,H p=none->Q (.ref p) (upd H p (.tup (xs ++ ys))))
theorem Vals.nil_iff {xs:List V}{us:List Value}(r:Vals xs us):us= []↔xs= []:=by
 cases r with
 |nil=>simp
 |cons _ _=>simp
theorem wL:ij X (binaryOp .Add) (BA X.K):=by
 intro pins s σ H x y v u Q I rx ry h
 obtain⟨a,b,xs,ys,rfl,rfl,ha,hb,hx,hz,q1,q2⟩:=h
 cases rx
 cases ry
 obtain⟨its,r1,p1,_⟩:=I.tuple ha
 obtain⟨its2,r2,p2,_⟩:=I.tuple hb
 refine HT.wK p1 p2 (fun z=>hx (r1.nil_iff.mp z)) (fun z=>⟨.ref a,H,I,rfl,q1 (r2.nil_iff.mp z)⟩) (fun z=>?_) (by rw[<-r1.length,<-r2.length];exact hz)
 refine⟨.ref s.heap.objs.size,_,I.laid (t':=s.toks) (o:=.tup (xs ++ ys)) (fun b ob q=>Heap.get?_push_of_some _ q) (Nat.le_refl _) ?_,rfl,q2 (fun w=>z (r2.nil_iff.mpr w)) _ (I.hok.fresh (Nat.le_refl _))⟩
 exact⟨by rw[List.length_append];exact hz,_,r1.append r2,ko.new _ _⟩
end
end L2
namespace L2
open PySem PySem.Spec PyProof.Rows
def qj (n:Nat)(i:Int):Option Nat:=if 0<=i then (if i < n then some i.toNat else none) else if -(n:Int)<=i then some (i + n).toNat else none
def gE {α:Type}(xs:List α)(i:Int):Option α:=(qj xs.length i).bind fun j=>xs[j]?
theorem qr {n:Nat}{i:Int}{j:Nat}(h:qj n i=some j):seqIndex? i n=some j/\j < n/\ -(n:Int)<=i/\i < n:=by
 unfold qj at h
 by_cases h0:0<=i
 ·rw[if_pos h0] at h
  by_cases h1:i < n
  ·rw[if_pos h1] at h
   have e:i.toNat=j:=Option.some.inj h
   exact⟨by rw[seqIndex_of h0 h1,e],by omega,by omega,h1⟩
  ·rw[if_neg h1] at h;cases h
 ·rw[if_neg h0] at h
  by_cases h1: -(n:Int)<=i
  ·rw[if_pos h1] at h
   have e:(i + n).toNat=j:=Option.some.inj h
   exact⟨by rw[seqIndex_neg (by omega) h1,e],by omega,h1,by omega⟩
  ·rw[if_neg h1] at h;cases h
theorem lS {α:Type}{xs:List α}{i:Int}{v:α}(h:gE xs i=some v):∃j,seqIndex? i xs.length=some j/\xs[j]? =some v/\j < xs.length/\ -(xs.length:Int)<=i/\i < xs.length:=by
 unfold gE at h
 cases e:qj xs.length i with
 |none=>rw[e] at h;cases h
 |some j=>
  rw[e] at h
  obtain⟨h1,h2,h3,h4⟩:=qr e
  exact⟨j,h1,h,h2,h3,h4⟩
theorem fU {α:Type}{xs:List α}{j:Nat}{v:α}(h:xs[j]? =some v):gE xs (j:Int)=some v:=by
 have hj:j < xs.length:=(List.getElem?_eq_some_iff.mp h).1
 have e:qj xs.length (j:Int)=some j:=by
  unfold qj
  rw[if_pos (by omega),if_pos (by omega)];simp
 unfold gE;rw[e];exact h
def qK (b:Expr):Prop:=∀o i,subscripted b false o i=operate [o,i] (getItem o i)
def vX (X:Cx)(r:R2):Prop:=
 ∀(value slice:Expr) (pins:List (Addr×Obj)) (s:Shared) (σ:St) (H:Hp) (x y:V) (v u:Value) (Q:VK),Inv X pins σ H s->RelV x v->RelV y u->r x y H Q->
  subscripted slice false v u=operate [v,u] (getItem v u)->wpAny (model X.prog X.w) X.A (subscriptTail value slice v u) (EP X pins σ Q) X.xe s
def Dz (X:Cx)(id:String)(r:V->List V->Hp->VK->Prop):Prop:=
 ∀(pins:List (Addr×Obj)) (s:Shared) (σ:St) (H:Hp) (x:V) (xs:List V) (v:Value) (us:List Value) (Q:VK),Inv X pins σ H s->RelV x v->Vals xs us->r x xs H Q->
  wpAny (model X.prog X.w) X.A (call (.builtin id) (v :: us)) (EP X pins σ Q) X.xe s
section
variable {X:Cx}{a b:Expr}{ta tb:TE}{pos:Pos}
theorem vX.or {r r':R2}(h:vX X r)(h':vX X r'):vX X (fun x y H Q=>r x y H Q\/r' x y H Q):=by
 intro value slice pins s σ H x y v u Q I rx ry q hs
 rcases q with q |q
 ·exact h value slice pins s σ H x y v u Q I rx ry q hs
 ·exact h' value slice pins s σ H x y v u Q I rx ry q hs
theorem uZ {r:R2}(hr:vX X r)(ha:PE X a ta)(hb:PE X b tb)(hs:qK b):PE X (.Subscript a b pos) (B8 r ta tb):=by
 intro pins s σ H Q I h
 exact Subscript_ (z0 ha hb I h fun v u s2 x y H2 I2 rx ry q=>hr a b pins s2 σ H2 x y v u Q I2 rx ry q (hs _ _))
def Bw (K:PySem.W.Frag):R2:=fun x y H Q=>∃p xs i v,x=.ref p/\y=.int i/\fC K H p xs/\gE xs i=some v/\Q v H
def AU (K:PySem.W.Frag):R2:=fun x y H Q=>∃p xs i v,x=.ref p/\y=.int i/\dq K H p xs/\gE xs i=some v/\Q v H
def AV:R2:=fun x y H Q=>∃z i c,x=.str z/\y=.int i/\z.length<=sizeLine/\gE z.cps.toList i=some c/\Q (.str ⟨#[c]⟩) H
theorem mF:vX X (Bw X.K):=by
 intro value slice pins s σ H x y v u Q I rx ry h hs
 obtain⟨p,xs,i,z,rfl,rfl,hq,he,q⟩:=h
 cases rx
 obtain⟨t,rfl⟩:=ry
 obtain⟨its,r,pl,hz⟩:=I.list hq
 obtain⟨j,h1,h2,h3,h4,h5⟩:=lS he
 obtain⟨w,ew,rw'⟩:=r.get h2
 have hl:=r.length
 have hn:=iJ
 have fin:EP X pins σ Q w s:=⟨z,H,I,rw',q⟩
 by_cases h0:0<=i
 ·have hj:i.toNat=j:=by
   rw[seqIndex_of h0 h5] at h1
   exact Option.some.inj h1
  exact item_listR pl.isList h0 (by omega) (by rw[hj];simpa using ew) fin hs
 ·have hj:(i + (its.toArray.size:Int)).toNat=j:=by
   rw[seqIndex_neg (by omega) h4] at h1
   rw[List.size_toArray,<-hl]
   exact Option.some.inj h1
  exact subscriptTail_builtinR (x:=w) pl.isList.typeIs slot_list_getitem.lookup
   (wpAny_getItem_list_neg (Q:=fun r s'=>r=w/\EP X pins σ Q r s') pl.isList (by omega) (by rw[List.size_toArray] <;> omega) (by omega) (by rw[hj];simpa using ew) ⟨rfl,fin⟩) hs
theorem z7:vX X (AU X.K):=by
 intro value slice pins s σ H x y v u Q I rx ry h hs
 obtain⟨p,xs,i,z,rfl,rfl,hq,he,q⟩:=h
 cases rx
 obtain⟨t,rfl⟩:=ry
 obtain⟨its,r,pl,hz⟩:=I.tuple hq
 obtain⟨j,h1,h2,h3,h4,h5⟩:=lS he
 obtain⟨w,ew,rw'⟩:=r.get h2
 have hl:=r.length
 have hn:=iJ
 have fin:EP X pins σ Q w s:=⟨z,H,I,rw',q⟩
 exact subscriptTail_builtinR (x:=w) pl.typeIs slot_tuple_getitem.lookup
  (getItem_tuple (j:=j) (Q:=fun r s'=>r=w/\EP X pins σ Q r s') pl (by omega) (by omega) (by rw[List.size_toArray,<-hl];exact h1) (by simpa using ew) ⟨rfl,fin⟩) hs
theorem zw:vX X AV:=by
 intro value slice pins s σ H x y v u Q I rx ry h hs
 obtain⟨z,i,c,rfl,rfl,hz,he,q⟩:=h
 obtain⟨t,rfl⟩:=rx
 obtain⟨t',rfl⟩:=ry
 obtain⟨j,h1,h2,h3,h4,h5⟩:=lS he
 have hl:z.cps.toList.length=z.length:=by simp[Str.length]
 rw[hl] at h1 h4 h5
 have hn:=iJ
 exact tail_any (typeIs_str s z t) slot_str_getitem.lookup (getItem_str (c:=c) (by
  have e1:decide (i < -(2 ^ 63:Int))=false:=decide_eq_false (by omega)
  have e2:decide (i>=2 ^ 63)=false:=decide_eq_false (by omega)
  rw[e1,e2,Bool.or_false]) (by rw[h1];simpa using h2) ⟨.str ⟨#[c]⟩,H,I.tok _,⟨_,rfl⟩,q⟩) hs
def Dq (K:PySem.W.Frag):R2:=fun x y H Q=>Bw K x y H Q\/AU K x y H Q\/AV x y H Q
theorem eO:vX X (Dq X.K):=mF.or (z7.or zw)
theorem oO (its:List Value)(n j:Nat)(u:Value):Obj.mapSeq (·.setIfInBounds j u) {cls:=.type "list",data:=.seq its.toArray n}={cls:=.type "list",data:=.seq (its.set j u).toArray n}:=by
 simp[Obj.mapSeq]
theorem Inv.lst {pins:List (Addr×Obj)}{σ:St}{H:Hp}{s:Shared}{p:Addr}{xs:List V}(I:Inv X pins σ H s)(h:H p=some (.lst xs)) :
  ∃(its:List Value) (n:Nat),Vals xs its/\s.heap.get? p=some {cls:=.type "list",data:=.seq its.toArray n}/\xs.length<=sizeLine:=by
 obtain⟨z,its,n,r,e⟩:=I.hok p _ h
 exact⟨its,n,r,e,z⟩
theorem Inv.lstUpd {pins:List (Addr×Obj)}{σ:St}{H:Hp}{s:Shared}{p:Addr}{xs ys:List V}{its its':List Value}{n n':Nat}{f:Obj->Obj}(I:Inv X pins σ H s)(h:H p=some (.lst xs))
  (ho:s.heap.get? p=some {cls:=.type "list",data:=.seq its.toArray n}) (hf:f {cls:=.type "list",data:=.seq its.toArray n}={cls:=.type "list",data:=.seq its'.toArray n'}) (r:Vals ys its') (hz:ys.length<=sizeLine) (t:Nat) :
  Inv X pins σ (upd H p (.lst ys)) {s with heap:=s.heap.update p f,toks:=t}:=by
 have e:(s.heap.update p f).get? p=some {cls:=.type "list",data:=.seq its'.toArray n'}:=by
  rw[Heap.get?_update_self f ho (by rw[hf] <;> rfl),hf]
 refine I.write (x:=p) (e:=p) (by rw[h];trivial) (.inl rfl) (fun b u hb q=>(Heap.get?_update_other _ _ (Ne.symm hb)).trans q) ⟨_,e⟩ ?_
 exact⟨hz,its',n',r,e⟩
def AY:V->V->V->Hp->(Hp->Prop)->Prop:=fun o i v H Q=>∃p xs k j,o=.ref p/\i=.int k/\H p=some (.lst xs)/\qj xs.length k=some j/\Q (upd H p (.lst (xs.set j v)))
theorem set_list:uQ X AY:=by
 intro pins s σ H o i v ov iv u Q I ro ri rv h
 obtain⟨p,xs,k,j,rfl,rfl,hp,hj,q⟩:=h
 cases ro
 obtain⟨t,rfl⟩:=ri
 obtain⟨its,n,r,ho,hz⟩:=I.lst hp
 obtain⟨h1,h2,h3,h4⟩:=qr hj
 have hl:=r.length
 have hn:=iJ
 have I':Inv X pins σ (upd H p (.lst (xs.set j v))) {s with heap:=s.heap.update p (Obj.mapSeq (·.setIfInBounds j u))}:=
  I.lstUpd hp ho (oO its n j u) (r.set rv j) (by rw[List.length_set];exact hz) s.toks
 by_cases h0:0<=k
 ·have hk:k.toNat=j:=by
   rw[seqIndex_of h0 h4] at h1
   exact Option.some.inj h1
  exact PySem.W.ki_setAt ho h0 (by omega) (by rw[List.size_toArray,<-hl];exact h4) (by rw[hk];exact⟨_,I',q⟩)
 ·have hk:(k + (its.toArray.size:Int)).toNat=j:=by
   rw[seqIndex_neg (by omega) h3] at h1
   rw[List.size_toArray,<-hl]
   exact Option.some.inj h1
  exact PySem.W.ki_setBack ho (by omega) (by rw[List.size_toArray,<-hl];exact h3) (by omega) (by rw[hk];exact⟨_,I',q⟩)
theorem mw (lo hi:Option Int)(n:Nat):(sliceBounds lo hi none n).1=((HT.bF n 0 lo:Nat):Int)/\(sliceBounds lo hi none n).2.1=((HT.bF n n hi:Nat):Int)/\(sliceBounds lo hi none n).2.2=1:=by
 refine⟨?_,?_,rfl⟩
 ·cases lo with
  |none=>simp[sliceBounds,HT.bF]
  |some i=>
   simp only[sliceBounds,HT.bF,Option.getD_none,show (1:Int) > 0 by decide,if_true]
   by_cases h:i < 0
   ·simp only[h,if_true] <;> omega
   ·simp only[h,if_false] <;> omega
 ·cases hi with
  |none=>simp[sliceBounds,HT.bF]
  |some i=>
   simp only[sliceBounds,HT.bF,Option.getD_none,show (1:Int) > 0 by decide,if_true]
   by_cases h:i < 0
   ·simp only[h,if_true] <;> omega
   ·simp only[h,if_false] <;> omega
theorem j9 (its:List Value)(lo hi:Option Int):slicePick its.toArray lo hi none=((its.drop (HT.bF its.length 0 lo)).take (HT.bF its.length its.length hi - HT.bF its.length 0 lo)).toArray:=by
 obtain⟨h1,h2,h3⟩:=mw lo hi its.toArray.size
 unfold slicePick
 rw[h1,h2,h3]
 simp only[sliceRange_one,pick_run,List.size_toArray] <;> rfl
def Dd (K:PySem.W.Frag):V->Option Int->Option Int->Hp->VK->Prop:=fun x lo hi H Q=>∃a xs,x=.ref a/\fC K H a xs/\∀p,H p=none->Q (.ref p) (upd H p (.lst (ju xs lo hi)))
theorem wR:B7 X (Dd X.K):=by
 intro pins s σ H x v vl vu lo hi sl Q I rx hs pl pu h
 obtain⟨a,xs,rfl,hx,q⟩:=h
 cases rx
 obtain⟨its,r,ht,hz⟩:=I.list hx
 have hlen:=r.length
 refine⟨"list",_,slot_list_getitem.lookup,ht.isList.typeIs,?_⟩
 refine wpAny_getItem_list_slice ht.isList hs pl pu .none (by simp) ?_ (by rw[List.size_toArray] <;> omega)
 rw[j9,<-hlen]
 refine⟨.ref s.heap.objs.size,_,I.laid (t':=s.toks) (o:=.lst (ju xs lo hi)) (fun b ob q=>Heap.get?_push_of_some _ q) (Nat.le_refl _) ?_,rfl,q _ (I.hok.fresh (Nat.le_refl _))⟩
 exact⟨Nat.le_trans (iS xs lo hi) hz,_,0,(r.drop (HT.bF xs.length 0 lo)).take (HT.bF xs.length xs.length hi - HT.bF xs.length 0 lo),Heap.get?_push_size _ rfl⟩
theorem cM:bI X (.type "list") (fun xs H Q=>∃p ys,xs= [.ref p]/\(fC X.K H p ys\/dq X.K H p ys)/\∀l,H l=none->Q (.ref l) (upd H l (.lst ys))):=by
 intro pins s σ H xs us Q I r h
 obtain⟨p,ys,rfl,hq,q⟩:=h
 obtain⟨u,rfl,rx⟩:=vals1 r
 cases rx
 have fin:∀(its:List Value),Vals ys its->ys.length<=sizeLine->∀(h':Heap) (c':Nat),(∀b o',s.heap.get? b=some o'->h'.get? b=some o')->
   h'.get? s.heap.objs.size=some {cls:=.type "list",dict:=none,data:=.seq its.toArray c',slots:=#[]}->EP X pins σ Q (.ref s.heap.objs.size) {s with heap:=h'}:=fun its r' hz h' c' kp e=>
  ⟨.ref s.heap.objs.size,_,I.laid (t':=s.toks) kp (Nat.le_refl _) (show aV X.prog X.w _ h' _ (.lst ys) from⟨hz,its,c',r',e⟩),rfl,q _ (I.hok.fresh (Nat.le_refl _))⟩
 rcases hq with hq |hq
 ·obtain⟨its,r',pl,hz⟩:=I.list hq
  have hlen:=r'.length
  obtain⟨o,ho,hc,n,hd⟩:=pl.isList
  exact call_list_seq p (.inl rfl) ho hc hd (fun h' c' kp e=>fin its r' hz h' c' kp e) (by simp only[List.size_toArray] <;> omega)
 ·obtain⟨its,r',pl,hz⟩:=I.tuple hq
  have hlen:=r'.length
  obtain⟨o,ho,hc,n,hd⟩:=pl
  exact call_list_seq p (.inr rfl) ho hc hd (fun h' c' kp e=>fin its r' hz h' c' kp e) (by simp only[List.size_toArray] <;> omega)
theorem bj:bI X (.type "tuple") (fun xs H Q=>∃p ys,xs= [.ref p]/\((fC X.K H p ys/\∀l,H l=none->Q (.ref l) (upd H l (.tup ys)))\/(dq X.K H p ys/\Q (.ref p) H))):=by
 intro pins s σ H xs us Q I r h
 obtain⟨p,ys,rfl,h⟩:=h
 obtain⟨u,rfl,rx⟩:=vals1 r
 cases rx
 rcases h with⟨hq,q⟩ | ⟨hq,q⟩
 ·obtain⟨its,r',pl,hz⟩:=I.list hq
  have hlen:=r'.length
  refine call_tuple_list pl.isList (fun h' kp=>?_) (by simp only[List.size_toArray] <;> omega)
  have I1:Inv X pins σ H {s with heap:=h'}:=I.kept (t':=s.toks) kp
  have I2:Inv X pins σ (upd H h'.objs.size (.tup ys)) {s with heap:=h'.push {cls:=.type "tuple",data:=.seq its.toArray}}:=
   I1.laid (t':=s.toks) (fun b o e=>Heap.get?_push_of_some _ e) (Nat.le_refl _) (show aV X.prog X.w _ _ _ (.tup ys) from⟨hz,its,r',ko.new _ _⟩)
  exact⟨.ref h'.objs.size,_,I2,rfl,q _ (I1.hok.fresh (Nat.le_refl _))⟩
 ·obtain⟨its,r',pl,hz⟩:=I.tuple hq
  exact call_tuple_same pl ⟨.ref p,H,I,rfl,q⟩
def Dm (K:PySem.W.Frag)(T:String)(x:V)(H:Hp):Prop:=match x with
 | .str _=>T="str"
 | .int _=>T="int"
 | .ref p=>(T="list"/\∃xs,fC K H p xs)\/(T="tuple"/\∃o,K.lookup p=some o/\o.cls=.type "tuple"/\o.dict=none)\/
   (T="dict"/\((∃kvs,H p=some (.dK kvs))\/∃kvs,H p=some (.dT kvs)))\/(T="set"/\∃S n,H p=some (.set S n))
 |_=>False
theorem Ac {pins:List (Addr×Obj)}{σ:St}{H:Hp}{s:Shared}{T:String}{x:V}{v:Value}(I:Inv X pins σ H s)(r:RelV x v)(ty:Dm X.K T x H) :
  s.TypeIs v T/\∀a,v=.ref a->∃ob,s.heap.get? a=some ob/\ob.dict=none:=by
 cases x with
 |str z=>
  obtain⟨t,rfl⟩:=r
  cases (show T="str" from ty)
  exact⟨typeIs_str s z t,fun _ e=>nomatch e⟩
 |int i=>
  obtain⟨t,rfl⟩:=r
  cases (show T="int" from ty)
  exact⟨typeIs_int s i t,fun _ e=>nomatch e⟩
 |ref p=>
  cases r
  rcases ty with⟨rfl,xs,hq⟩ | ⟨rfl,o,hk,hc,hd⟩ | ⟨rfl,hk⟩ | ⟨rfl,S,n,hk⟩
  ·obtain⟨its,_,pl,_⟩:=I.list hq
   refine⟨pl.isList.typeIs,fun a e=>?_⟩
   cases e
   obtain⟨o,n,e,c,hd,_⟩:=pl
   exact⟨o,e,hd⟩
  ·refine⟨⟨o,I.kIn p o hk,hc⟩,fun a e=>?_⟩
   cases e
   exact⟨o,I.kIn _ o hk,hd⟩
  ·have z:∃o,s.heap.get? p=some o/\o.ExactDict:=by
    rcases hk with⟨kvs,hk⟩ | ⟨kvs,hk⟩
    ·obtain⟨_,_,_,_,o,_,_,e,ex,_⟩:=I.hok p _ hk
     exact⟨o,e,ex⟩
    ·obtain⟨_,_,_,_,o,_,_,e,ex,_⟩:=I.hok p _ hk
     exact⟨o,e,ex⟩
   obtain⟨o,e,ex⟩:=z
   refine⟨⟨o,e,ex.1⟩,fun a e2=>?_⟩
   cases e2
   exact⟨o,e,ex.2.1⟩
  ·obtain⟨o,_,_,_,e,ex,_⟩:=I.hok p _ hk
   refine⟨⟨o,e,ex.1⟩,fun a e2=>?_⟩
   cases e2
   exact⟨o,e,ex.2.1⟩
 |_=>exact False.elim ty
def DE (K:PySem.W.Frag)(T:String)(r:V->List V->Hp->VK->Prop)(to:TE)(t:TA):TE:=fun σ H Q=>to σ H fun x H1=>Dm K T x H1/\t σ H1 fun xs H2=>r x xs H2 Q
variable {o e:Expr}{es:List Expr}{to:TE}{t:TA}{name:Str}{apos cpos:Pos}{T id:String}{r:V->List V->Hp->VK->Prop}
theorem jr (pa:PlainAttrs T)(slot:Slot T name id)(hty:typeOf (.builtin id)=pure (.type "method_descriptor"))(hm:Dz X id r)(ho:PE X o to)(ha:PA X (e :: es) t)
  (hbase:attributeBase o name X.env (eval o X.env)=eval o X.env:=by rfl)
  (hfew:((backTo cpos (starEach (e :: es) X.env)).all (fun x=> !x.1) && (backToKw cpos (keywordEach [] X.env)).all (fun x=>x.1.isSome)
   && decide ((e :: es).length + ([]:List Keyword).length + (if ([]:List Keyword).isEmpty then 0 else 1) < 30))=true:=by rfl)
  (hline:(apos.endLine == cpos.line)=true:=by rfl) (hs:starEach (e :: es) X.env=(false,eval e X.env) :: starEach es X.env:=by rfl) (hplain:(backTo cpos (starEach es X.env)).any (·.1)=false:=by rfl) :
  PE X (.Call (.Attribute o name apos) (e :: es) [] cpos) (DE X.K T r to t):=by
 intro pins s σ H Q I h
 refine wpAny_Call_method_late hbase hfew hline rfl (bb (ho pins s σ H _ I h) fun v s1 ⟨x,H1,I1,r1,ty,q1⟩=>?_)
 obtain⟨h1,h2⟩:=Ac I1 r1 ty
 refine⟨T,id,pa,slot,hty,h1,h2,?_⟩
 have hA:=ha cpos pins s1 σ H1 _ I1 q1
 rw[hs] at hA ⊢
 refine Calls.callWith_builtin (by show (false || (backTo cpos (starEach es X.env)).any (·.1))=false;rw[hplain] <;> rfl) (Calls.evalArgs_plain ?_)
 exact bb hA fun us s2 ⟨vs,H2,I2,r2,q2⟩=>hm pins s2 σ H2 x vs v us Q I2 r1 r2 q2
end
end L2
namespace L2
open PySem PySem.Spec PyProof.Rows
def yx (X:Cx)(id:String)(r:V->List V->Hp->VK->Prop):Prop:=
 ∀(pins:List (Addr×Obj)) (s:Shared) (σ:St) (H:Hp) (x:V) (xs:List V) (v:Value) (us:List Value) (Q:VK),Inv X pins σ H s->RelV x v->Vals xs us->r x xs H Q->
  wpAny (model X.prog X.w) X.A (call (.builtin id) (v :: us)) (EP X pins σ Q) X.xe s
theorem Vals.one:∀{x:V} {us:List Value},Vals [x] us->∃u,us= [u]/\RelV x u
 |_,_,.cons r .nil=>⟨_,rfl,r⟩
theorem Vals.eraseIdx:∀{xs:List V} {us:List Value} (i:Nat),Vals xs us->Vals (xs.eraseIdx i) (us.eraseIdx i)
 |_,_,_,.nil=>.nil
 |_,_,0,.cons _ t=>t
 |_,_,i + 1,.cons r t=>.cons r (Vals.eraseIdx i t)
theorem Vals.rep {xs:List V}{us:List Value}(h:Vals xs us):∀k:Nat,Vals (List.replicate k xs).flatten (List.replicate k us).flatten
 | 0=>.nil
 |k + 1=>by
  rw[List.replicate_succ,List.replicate_succ,List.flatten_cons,List.flatten_cons]
  exact Vals.append h (Vals.rep h k)
theorem kI {α:Type}:∀(l:List α) (i:Nat),(l.eraseIdx i).length<=l.length
 | [],_=>Nat.le_refl _
 |_ :: _,0=>Nat.le_succ _
 |_ :: r,i + 1=>Nat.succ_le_succ (kI r i)
theorem foldl_rep (its:List Value):∀(k:Nat) (acc:List Value),
  List.foldl (fun x1 x2=>x1 ++ x2) acc.toArray (List.replicate k its.toArray)=(acc ++ (List.replicate k its).flatten).toArray
 | 0,acc=>by simp
 |k + 1,acc=>by
  have e:acc.toArray ++ its.toArray=(acc ++ its).toArray:=by simp
  have e2:(acc ++ its) ++ (List.replicate k its).flatten=acc ++ (List.replicate (k + 1) its).flatten:=by
   rw[List.replicate_succ,List.flatten_cons,List.append_assoc]
  rw[<-e2,<-foldl_rep its k (acc ++ its),<-e,List.replicate_succ,List.foldl_cons]
section
variable {X:Cx}{pins:List (Addr×Obj)}{σ:St}{H:Hp}{s:Shared}{l b:Addr}{xs ys zs:List V}
theorem Inv.lset {its its':List Value}{n:Nat}{f:Array Value->Array Value}{t':Nat}(I:Inv X pins σ H s)(hH:H l=some (.lst xs))
  (e:s.heap.get? l=some {cls:=.type "list",data:=.seq its.toArray n}) (hf:f its.toArray=its'.toArray) (hv:Vals ys its') (hz:ys.length<=sizeLine) :
  Inv X pins σ (upd H l (.lst ys)) {s with heap:=s.heap.update l (Obj.mapSeq f),toks:=t'}:=by
 have q:=PySem.IsL.update e f
 rw[hf] at q
 refine I.write (x:=l) (e:=l) (by rw[hH];exact trivial) (.inl rfl) (fun b' u hb hu=>(Heap.get?_update_other s.heap (Obj.mapSeq f) (Ne.symm hb)).trans hu) ⟨_,q⟩ ?_
 exact⟨hz,its',_,hv,q⟩
theorem Inv.lnew {its:List Value}{t':Nat}(I:Inv X pins σ H s)(hv:Vals ys its)(hz:ys.length<=sizeLine) :
  Inv X pins σ (upd H s.heap.objs.size (.lst ys)) {s with heap:=s.heap.push {cls:=.type "list",data:=.seq its.toArray},toks:=t'}:=
 I.laid (fun _ _ q=>Heap.get?_push_of_some _ q) (Nat.le_refl _) ⟨hz,its,0,hv,Heap.get?_push_size _ rfl⟩
theorem Inv.fresh (I:Inv X pins σ H s):H s.heap.objs.size=none:=I.hok.fresh (Nat.le_refl _)
theorem Inv.lstM (I:Inv X pins σ H s)(hH:H l=some (.lst xs)):xs.length<=sizeLine/\∃(its:List Value) (n:Nat),Vals xs its/\xs.length=its.length/\s.heap.get? l=some {cls:=.type "list",data:=.seq its.toArray n}:=by
 obtain⟨z,its,n,r,e⟩:=I.hok l _ hH
 exact⟨z,its,n,r,r.length,e⟩
theorem nR {n:Nat}(h:n<=sizeLine):Builtin.List.listTooLong n=false:=by
 unfold Builtin.List.listTooLong
 exact decide_eq_false (by omega)
end
section
variable {X:Cx}
def xT:V->List V->Hp->VK->Prop:=fun x vs H Q=>∃l xs y,x=.ref l/\vs= [y]/\H l=some (.lst xs)/\xs.length < sizeLine/\Q .non (upd H l (.lst (xs ++ [y])))
theorem iH:yx X "list.append" xT:=by
 intro pins s σ H x vs v us Q I rx rv h
 obtain⟨l,xs,y,rfl,rfl,hH,hz,q⟩:=h
 cases rx
 obtain⟨u,rfl,ru⟩:=rv.one
 obtain⟨z,its,n,r,hl,e⟩:=I.lstM hH
 refine call_meets F.slot_list_append ⟨_,e,rfl⟩ F.entry_list_append (F.args_list_append_2 _ _) (PySem.list_append l its.toArray n u (by rw[List.size_toArray];omega)) ⟨e,?_⟩
 refine⟨.non,_,I.lset (its':=its ++ [u]) hH e (by simp) (r.append (.cons ru .nil)) ?_,rfl,q⟩
 rw[List.length_append,List.length_singleton]
 omega
def xU:V->List V->Hp->VK->Prop:=fun x vs H Q=>∃l b xs zs,x=.ref l/\vs= [.ref b]/\H l=some (.lst xs)/\H b=some (.lst zs)/\xs.length + zs.length<=sizeLine/\Q .non (upd H l (.lst (xs ++ zs)))
theorem Aw:yx X "list.extend" xU:=by
 intro pins s σ H x vs v us Q I rx rv h
 obtain⟨l,b,xs,zs,rfl,rfl,hH,hB,hz,q⟩:=h
 cases rx
 obtain⟨u,rfl,ru⟩:=rv.one
 cases ru
 obtain⟨z,its,n,r,hl,e⟩:=I.lstM hH
 obtain⟨z2,its2,n2,r2,hl2,e2⟩:=I.lstM hB
 have hsz:its.toArray.size + its2.toArray.size<=sizeLine:=by rw[List.size_toArray,List.size_toArray];omega
 have hlong:¬(!its.toArray.isEmpty && Builtin.List.listTooLong (its.toArray.size + its2.toArray.size))=true:=by
  rw[nR hsz,Bool.and_false]
  exact Bool.false_ne_true
 refine call_meets F.slot_list_extend ⟨_,e,rfl⟩ F.entry_list_extend (F.args_list_extend_2 _ _)
  (AutoSeq1.list_extend_list_list_0 l its.toArray n b its2.toArray n2 hlong (by rw[List.size_toArray];omega) (by omega)) ⟨e,e2,?_⟩
 refine⟨.non,_,I.lset (its':=its ++ its2) hH e (by simp) (r.append r2) ?_,rfl,q⟩
 rw[List.length_append]
 omega
def Ae:V->List V->Hp->VK->Prop:=fun x vs H Q=>∃l xs i k y,x=.ref l/\vs= [.int i]/\H l=some (.lst xs)/\ -(2 ^ 63)<=i/\i < 2 ^ 63/\seqIndex? i xs.length=some k/\xs[k]? =some y/\Q y (upd H l (.lst (xs.eraseIdx k)))
theorem mL:yx X "list.pop" Ae:=by
 intro pins s σ H x vs v us Q I rx rv h
 obtain⟨l,xs,i,k,y,rfl,rfl,hH,h1,h2,hk,hy,q⟩:=h
 cases rx
 obtain⟨u,rfl,ru⟩:=rv.one
 obtain⟨t,rfl⟩:=ru
 obtain⟨z,its,n,r,hl,e⟩:=I.lstM hH
 obtain⟨w,hw,rw'⟩:=r.get hy
 refine call_meets F.slot_list_pop ⟨_,e,rfl⟩ F.entry_list_pop (F.args_list_pop_2 _ _)
  (MeetsSeq.list_pop_at l its.toArray n i t k w (fitsIndex_both h1 h2) (by rw[List.size_toArray,<-hl];exact hk) (by rw[<-Array.getElem?_toList];exact hw) (by rw[List.size_toArray];omega)) ⟨e,?_⟩
 refine⟨y,_,I.lset (its':=its.eraseIdx k) hH e ?_ (r.eraseIdx k) ?_,rw',q⟩
 ·show its.toArray.eraseIdxIfInBounds k=(its.eraseIdx k).toArray
  rw[List.eraseIdxIfInBounds_toArray]
 ·have:=kI xs k
  omega
def Cm:R2:=fun x y H Q=>∃l b xs zs,x=.ref l/\y=.ref b/\H l=some (.lst xs)/\H b=some (.lst zs)/\xs.length + zs.length<=sizeLine/\∀p,H p=none->Q (.ref p) (upd H p (.lst (xs ++ zs)))
theorem um:ij X (binaryOp .Add) Cm:=by
 intro pins s σ H x y v u Q I rx ry h
 obtain⟨l,b,xs,zs,rfl,rfl,hH,hB,hz,q⟩:=h
 cases rx
 cases ry
 obtain⟨z,its,n,r,hl,e⟩:=I.lstM hH
 obtain⟨z2,its2,n2,r2,hl2,e2⟩:=I.lstM hB
 refine PySem.P.add_list e e2 ?_ (by rw[List.size_toArray,List.size_toArray];omega)
 have ea:its.toArray ++ its2.toArray=(its ++ its2).toArray:=by simp
 rw[ea]
 exact⟨.ref _,_,I.lnew (t':=s.toks) (r.append r2) (by rw[List.length_append];omega),rfl,q _ I.fresh⟩
def CI:R2:=fun x y H Q=>∃l k xs,x=.ref l/\y=.int k/\H l=some (.lst xs)/\ -(2 ^ 63)<=k/\k < 2 ^ 63/\xs.length * k.toNat<=sizeLine/\
 ∀p,H p=none->Q (.ref p) (upd H p (.lst (List.replicate k.toNat xs).flatten))
theorem len_rep {α:Type}(xs:List α)(k:Nat):(List.replicate k xs).flatten.length=k * xs.length:=by
 induction k with
 |zero=>simp
 |succ k ih=>rw[List.replicate_succ,List.flatten_cons,List.length_append,ih,Nat.succ_mul,Nat.add_comm]
theorem yO:ij X (binaryOp .Mult) CI:=by
 intro pins s σ H x y v u Q I rx ry h
 obtain⟨l,k,xs,rfl,rfl,hH,h1,h2,hz,q⟩:=h
 cases rx
 obtain⟨t,rfl⟩:=ry
 obtain⟨z,its,n,r,hl,e⟩:=I.lstM hH
 have hlen:its.toArray.size * k.toNat<=sizeLine:=by rw[List.size_toArray,<-hl];exact hz
 have hcap:¬its.toArray.size * k.toNat > (2 ^ 63 - 1) / 8:=by
  have:(sizeLine:Nat)<=(2 ^ 63 - 1) / 8:=by decide
  omega
 have hfit:¬(!Builtin.List.listFitsIndex k)=true:=by
  rw[fitsIndex_both h1 h2]
  exact Bool.false_ne_true
 have hlong:¬Builtin.List.listTooLong (its.toArray.size * k.toNat)=true:=by
  rw[nR hlen]
  exact Bool.false_ne_true
 have hnew:List.foldl (fun x1 x2=>x1 ++ x2) #[] (List.replicate (if its.toArray.isEmpty=true then 0 else k.toNat) its.toArray)=(List.replicate k.toNat its).flatten.toArray:=by
  have f0:∀m:Nat,List.foldl (fun x1 x2=>x1 ++ x2) #[] (List.replicate m its.toArray)=(List.replicate m its).flatten.toArray:=fun m=>by
   have:=foldl_rep its m []
   rw[List.nil_append] at this
   exact this
  rw[f0]
  cases its with
  |nil=>simp
  |cons a r'=>rw[if_neg (by simp)]
 refine wpAny_binaryOp_repeat_ref (T:="list") (U:="int") (by decide) ⟨_,e,rfl⟩ (fun s'=>typeIs_int s' k t) noFill_list_mul F.fills_int_mul F.slot_int_rmul repeat_list F.slot_int_index.lookup
  (call_meets F.slot_int_rmul (typeIs_int s k t) F.entry_int_rmul (F.args_int_rmul_2 _ _) (int___rmul___int_list k t l its.toArray n)
   ⟨e,rfl,⟨_,e,rfl⟩,call_meets F.slot_list_mul ⟨_,e,rfl⟩ F.entry_list_mul (F.args_list_mul_2 _ _) (AutoListH.list___mul___list_int_3 l its.toArray n k t hfit hcap hlong) ⟨e,?_⟩⟩)
 rw[hnew]
 exact⟨.ref _,_,I.lnew (t':=s.toks) (r.rep k.toNat) (by rw[len_rep,Nat.mul_comm];exact hz),rfl,q _ I.fresh⟩
end
end L2
namespace Att
open PySem PySem.W PySem.Calls PyProof.Rows
theorem i4 {P:Params}{h:Heap}:∀(ns:List Int) (vs:List Value),WellAll P h vs (ns.map WData.int)->IntsAre vs ns:=by
 intro ns
 induction ns with
 |nil=>
  intro vs w
  rw[List.map_nil] at w
  cases w
  exact .nil
 |cons n ns ih=>
  intro vs w
  rw[List.map_cons] at w
  cases w with
  |cons a b=>
   cases a
   exact .cons _ _ (ih _ b)
theorem rF {l:OpenLaw}{n:Nat}(hn:l.most=some n){P:Params}{h:Heap}{args:List WData}{vals:List Value}
  (hpre:l.row.toRowW.claim.pre args=true) (hwl:WellAll P h vals args) :
  ∃a vs ns,vals= [Value.ref a]/\args= [WData.list (ns.map WData.int)]/\h.get? a=some {cls:=.type "list",data:=.seq vs.toArray}/\IntsAre vs ns/\ns.length<=n:=by
 have hsh:WShape.hasAll [] args [.list .int]=true:=(pre_splitW hpre).1
 have hc:l.pre.holds [] {args:=args}=true:=(pre_splitW hpre).2
 obtain⟨d,r,rfl,h1,h2⟩:=hasAllW_cons hsh
 obtain rfl:=hasAllW_nil h2
 obtain⟨xs,rfl,h3⟩:=hasW_list h1
 obtain⟨ns,rfl⟩:=items_int h3
 have hlen:ns.length<=n:=by
  unfold OpenLaw.pre at hc
  have h4:(WTm.not (.lt (.lit (.int (n:Int))) (.len (.arg 0)))).holds [] {args:=[.list (ns.map .int)]}=true:=by
   have h4:=(holds_andW hc).1
   rw[hn] at h4
   exact h4
  have h5:=condW_of h4 (w_not (w_lt w_lit (w_len_list (w_arg rfl))))
  rw[List.length_map] at h5
  refine Nat.le_of_not_lt fun q=>?_
  have q':(n:Int) < ((ns.length:Nat):Int):=by omega
  first
   | (rw[decide_eq_true q'] at h5;exact absurd h5 (by decide))
   | (simp at h5;omega)
 cases hwl with
 |cons w1 w2=>
  cases w2
  cases w1 with
  |list ho hall=>exact⟨_,_,ns,rfl,rfl,ho,i4 ns _ hall,hlen⟩
theorem sg (l:OpenLaw)(args:List WData):l.row.toRowW.claim.post args (.bool true) args=true:=
 postW_of (r:=l.row.toRowW) (X:=(true == true))
  (show WShape.has [] (.bool true) .bool=true by first |rfl |decide |simp[WShape.has,WShape.arms,WShape.armsAll])
  (show (WTm.eq .res (.lit (.bool true))).value [] {args:=args,res:=some (.bool true),after:=args}=some (.bool (true == true)) from w_eq_bool (w_res rfl) w_lit) rfl
theorem oo {l:OpenLaw}{n:Nat}{q:Program}{loose:List Str}{XP:(Str->Option Value)->Heap->Prop}{YP:World->Heap->Prop}{d:DefRec}
  (hn:l.most=some n) (hdf:d.params.defaults= [])
  (call:∀(w:World) (s₀ s₁:Shared) (mg mb:Str->Option Value) (fa:Addr) (o:Obj) (pm cd doc:Value) (a:Addr) (vs:List Value) (ns:List Int),
   Ground q loose [] XP w s₀ mg mb s₁.heap->YP w s₁.heap->
   s₁.heap.get? fa=some o->o.data=.func (docDef d.name d.params d.body d.scope pm cd doc)->s₁.heap.CodeRec cd d.name->mg d.name=some (.ref fa)->
   s₁.heap.get? a=some {cls:=.type "list",data:=.seq vs.toArray}->IntsAre vs ns->ns.length<=n->s₁.gens=#[]->
   codeAny (model l.prog w) callerA (.call (.ref fa) ⟨[.ref a],[]⟩) (fun r s'=>r=.ok (.ret (.bool true))/\OldK s₁.heap s'.heap/\s'.os=s₁.os/\AllBare s'.gens) s₁) :
  WalkO q loose XP YP l.row.toRowW d [] (fun f vs=>PySem.call f vs):=by
 intro w s₀ s₁ mg mb G Y fa o pm cd doc dV kV ho hd hcd hD hmg hg args vals as hpre hlay hrd hwl hlo
 obtain rfl:dV=.none:=Dflts.none hD hdf
 obtain rfl:kV=.none:=Dflts.noKw hD
 obtain⟨a,vs,ns,rfl,rfl,hobj,hints,hlen⟩:=rF hn hpre hwl
 refine enter_call (codeAny_mono (call w s₀ s₁ mg mb fa o pm cd doc a vs ns G Y ho (fd_plain hd) hcd hmg hobj hints hlen hg) fun r s' hq=>?_)
 obtain⟨rfl,h2,h3,h4⟩:=hq
 exact⟨.inl ⟨.bool true,.bool true,[],rfl,fun _=>rfl,.bool true,sg l _,fun _=>⟨List.Pairwise.nil,fun _ hm=>(nomatch hm)⟩⟩,h2,h3,h4⟩
end Att
namespace L2
open PySem PySem.Spec PyProof.Rows
theorem kN:∀{vs:List Value} {ns:List Int},IntsAre vs ns->Vals (ns.map V.int) vs
 |_,_,.nil=>.nil
 |_,_,.cons n t h=>.cons ⟨t,rfl⟩ (kN h)
def zr (H:Hp):Prop:=∀b,H b=none\/∃o xs,H b=some (.aC o (.lst xs))
theorem uU {P:Program}{w:World}{K:PySem.W.Frag}{mg mb:Str->Option Value}{CX:ot}{k:Nat}{fa a:Addr}{fd:FuncData}{x:Str}{sp:Sp}{s₁:Shared}{vs:List Value}{ns:List Int}
  (KX:K.In s₁.heap) (hns:s₁.heap.Ns mainGlobals mg) (hb:s₁.heap.Ns builtinsNs mb) (hbb:∀x:Str,x≠"__name__"->mb x=bootBuiltins x) (hlim:s₁.heap.NoLimit) (hsys:∃mm,s₁.heap.Ns sysModules mm) (hg:s₁.gens=#[])
  (ha:s₁.heap.get? a=some {cls:=.type "list",data:=.seq vs.toArray}) (hi:IntsAre vs ns) (hl:ns.length<=sizeLine) (hr:bS k callerA)
  (F:∀base:Heap,K.In base->base.Ns mainGlobals mg->fj P w K mg base CX k fa fd [x] sp) (hbind:∀(s:Shared) (u:Value),BindsTo s fd ⟨[u],[]⟩ [(x,u)])
  (hsp:∀H:Hp,zr H->fC K H a (ns.map V.int)->sp [.ref a] H (fun v _=>v=.bl true) fun _ _ _=>False)
  (hCX:∀H e s',CX [] H s₁ (fun _ _ _=>False) e s'->False) :
  codeAny (model P w) callerA (.call (.ref fa) ⟨[.ref a],[]⟩) (fun r s'=>r=.ok (.ret (.bool true))/\OldK s₁.heap s'.heap/\s'.os=s₁.os/\AllBare s'.gens) s₁:=by
 have rv:=kN hi
 have lenV:=hi.length
 have core:∀H:Hp,zr H->fC K H a (ns.map V.int)->fm P w H s₁.heap->(∀b,H b≠none->b=a)->(H a≠none->K.lookup a=none)->
   codeAny (model P w) callerA (.call (.ref fa) ⟨[.ref a],[]⟩) (fun r s'=>r=.ok (.ret (.bool true))/\OldK s₁.heap s'.heap/\s'.os=s₁.os/\AllBare s'.gens) s₁:=by
  intro H hO hS hok hA hK
  have base_of:∀{b:Addr} {o:Obj},s₁.heap.get? b=some o->H b=none->(lR s₁.heap H).get? b=some o:=fun e n=>vf e n
  have noA:∀{b:Addr} {o:Obj} {es:Array DictEntry} {ep:Nat},s₁.heap.get? b=some o->o.data=.dict es ep->H b=none:=fun {b o es ep} e d=>by
   cases q:H b with
   |none=>rfl
   |some u=>
    have e':b=a:=hA b (by rw[q];simp)
    subst e'
    rw[ha] at e;cases e
    have d':Data.seq vs.toArray _=Data.dict es ep:=d
    cases d'
  have nsK:∀{b:Addr} {m:Str->Option Value},s₁.heap.Ns b m->(lR s₁.heap H).Ns b m:=fun {b m} ⟨o,es,ep,e,d,r⟩=>⟨o,es,ep,base_of e (noA e d),d,r⟩
  have hKb:K.In (lR s₁.heap H):=fun b o e=>base_of (KX b o e) (by
   cases q:H b with
   |none=>rfl
   |some u=>
    have e':b=a:=hA b (by rw[q];simp)
    subst e'
    rw[hK (by rw[q];simp)] at e;cases e)
  have hM:Mod K mg (lR s₁.heap H):=⟨hKb,nsK hns,⟨mb,nsK hb,hbb⟩,let ⟨mc,h1,h2⟩:=hlim;⟨mc,nsK h1,h2⟩,let ⟨mm,h1⟩:=hsys;⟨mm,nsK h1⟩⟩
  have e0:oU P w K mg (lR s₁.heap H) callerA [] s₁ H:=⟨rfl,hM,fun b o e=>xN e,Nat.le_of_eq (su _ _),trivial,fun b hb=>absurd (show b∈([]:List Addr) from hb) (by simp),hok,.of_eq hg⟩
  refine codeAny_mono ((F _ hKb (nsK hns)).run callerA [] s₁ H ⟨[.ref a],[]⟩ [.ref a] [.ref a] _ _ hr e0 (hbind s₁ (.ref a)) (.cons rfl .nil) (hsp H hO hS)) fun r s' h=>?_
  cases r with
  |error e=>exact (hCX H e s' h).elim
  |ok fl=>
   cases fl with
   |next=>exact False.elim h
   |brk=>exact False.elim h
   |cont=>exact False.elim h
   |ret u=>
    obtain⟨v,H',os,bare,un,hok',r',q⟩:=h
    have q':v=.bl true:=q
    subst q'
    obtain rfl:u=Value.bool true:=r'
    refine⟨rfl,OldK.of_keep fun b o e=>?_,os,bare⟩
    cases q:H b with
    |none=>exact un.keep b o e q (by intro z;exact absurd (show b∈([]:List Addr) from z) (by simp)) (by simp)
    |some u=>
     rcases hO b with z | ⟨ob,xs,z⟩
     ·rw[q] at z;cases z
     ·have z2:=un.frzs b ob _ z
      obtain⟨e1,_⟩:=hok b _ z
      obtain⟨e2,_⟩:=hok' b _ z2
      rw[e] at e1;cases e1
      exact e2
 cases hk:K.lookup a with
 |some o=>
  have e:=KX a o hk
  rw[ha] at e
  cases e
  refine core (fun _=>none) (fun _=>.inl rfl) (.inr ⟨_,vs.toArray,_,hk,rfl,rfl,rfl,by rw[List.size_toArray,lenV];exact hl,by simpa using rv⟩) (fun b u z=>by have z':(none:Option HO)=some u:=z;cases z') (fun b z=>absurd rfl z) fun z=>absurd rfl z
 |none=>
  refine core (fun b=>if b=a then some (.aC {cls:=.type "list",data:=.seq vs.toArray} (.lst (ns.map V.int))) else none) (fun b=>?_) (.inl (.inr ⟨{cls:=.type "list",data:=.seq vs.toArray},if_pos rfl⟩)) (fun b u z=>?_) (fun b z=>?_) fun _=>hk
  ·by_cases hb:b=a
   ·exact .inr ⟨_,_,if_pos hb⟩
   ·exact .inl (if_neg hb)
  ·by_cases hb:b=a
   ·have z':=(if_pos hb).symm.trans z
    cases z'
    subst hb
    exact⟨ha,by rw[List.length_map];exact hl,vs,_,rv,ha⟩
   ·have z':=(if_neg hb).symm.trans z
    cases z'
  ·by_cases hb:b=a
   ·exact hb
   ·exact absurd (if_neg hb) z
end L2
namespace L2
open PySem PySem.Spec PyProof.Rows
theorem wg {l:PySem.W.OpenLaw}{n k:Nat}{q:Program}{loose:List Str}{XP:(Str->Option Value)->Heap->Prop}{YP:World->Heap->Prop}{d:DefRec}{K:Params->PySem.W.Frag}{CX:World->ot}{sp:World->Sp}{x:Str}
  (hn:l.most=some n) (hn2:n<=sizeLine) (hdf:d.params.defaults= []) (hi:PyProof.Rows.importsNone q=true) (hr:bS k callerA)
  (hY:∀(w:World) (h:Heap),YP w h->(K w.params).In h)
  (F:∀(w:World) (mg:Str->Option Value) (fa:Addr) (h:Heap),(K w.params).In h->h.Ns mainGlobals mg->mg d.name=some (.ref fa)->
   ∃fd:FuncData,(∀(s:Shared) (u:Value),BindsTo s fd ⟨[u],[]⟩ [(x,u)])/\
    ∀base:Heap,(K w.params).In base->base.Ns mainGlobals mg->fj l.prog w (K w.params) mg base (CX w) k fa fd [x] (sp w))
  (hsp:∀(w:World) (H:Hp) (a:Addr) (ns:List Int),ns.length<=n->zr H->fC (K w.params) H a (ns.map V.int)->sp w [.ref a] H (fun v _=>v=.bl true) fun _ _ _=>False)
  (hCX:∀(w:World) (H:Hp) (s:Shared) (e:Value) (s':Shared),CX w [] H s (fun _ _ _=>False) e s'->False) :
  PySem.W.WalkO q loose XP YP l.row.toRowW d [] (fun f vs=>PySem.call f vs):=by
 refine Att.oo hn hdf fun w s₀ s₁ mg mb fa o pm cd doc a vs ns G Y ho hd hcd hmg hobj hints hlen hg=>?_
 have KX:=hY w _ Y
 obtain⟨fd,hb,hF⟩:=F w mg fa _ KX G.T.g hmg
 exact uU KX G.T.g G.T.b G.T.builtins G.T.nolimit (let ⟨mm,h1,_⟩:=(G.T.seer hi).mods;⟨mm,h1⟩) hg hobj hints (Nat.le_trans hlen hn2) hr hF hb (fun H hO hS=>hsp w H a ns hlen hO hS) fun H e s'=>hCX w H s₁ e s'
end L2
namespace L2
open PySem PySem.Spec PyProof.Rows
def dz (s:Stmt):Arguments:=match s with
 | .FunctionDef _ a _ _ _ _ _ _ _ _=>a
 |_=>{posonlyargs:=[],args:=[],vararg:=none,kwonlyargs:=[],kw_defaults:=[],kwarg:=none,defaults:=[]}
def aR (s:Stmt):List Stmt:=match s with
 | .FunctionDef _ _ b _ _ _ _ _ _ _=>b
 |_=>[]
def aj (s:Stmt):Scope:=match s with
 | .FunctionDef _ _ _ _ _ _ sc _ _ _=>sc
 |_=>{kind:=.function,names:=[],isGenerator:=false,isCoroutine:=false}
abbrev uN:ot:=fun _ _ _ _ _ _=>False
abbrev E0:XK:=fun _ _ _=>False
theorem Bj {X:Cx}:Passes uN X E0:=fun _ _ _ _ _ _ _ h=>h.elim
structure sW (K:PySem.W.Frag)(x qual:Str)(st:Stmt)(f:Addr)(fd:FuncData):Prop where
 ex:∃(oc:Value) (od:Option Addr) (kV doc pm:Value) (an:Option Addr) (cdv ct:Value) (osl:Array (Option Value)),
  fd=PySem.W.fnOf x qual (dz st) (aR st) (aj st) .none kV doc pm an cdv ct/\K.lookup f=some ⟨oc,od,.func fd,osl⟩/\PySem.W.codeIn K cdv qual=true
 kp:PySem.W.keepIn K (.ref f)=true
section
variable {P:Program}{w:World}{K:PySem.W.Frag}{mg:Str->Option Value}{base:Heap}
theorem sW.ok {x qual:Str}{st:Stmt}{f:Addr}{fd:FuncData}{N ps:List Str}{k:Nat}{sp:Sp}(F:sW K x qual st f fd)(S:aF N ps (aj st))(len:∀vs H Q E,sp vs H Q E->vs.length=ps.length)
  (hbody:∀(cdv:Value) (A:Around) (outer:List Env) (s:Shared) (H:Hp) (vs:List V) (Q:VK) (E:XK),bS k (A.deeper (envOfC qual (aj st) s.heap.objs.size f cdv))->sp vs H Q E->
   ∃t,i5 (fE uN P w K mg base N qual (aj st) f cdv A outer s H E).nox (aR st) t/\t {nx:=fun _ H'=>Q .non H',rt:=Q} (start N vs) H):fj P w K mg base uN (k + 1) f fd ps sp:=by
 obtain⟨oc,od,kV,doc,pm,an,cdv,ct,osl,rfl,lk,hcd⟩:=F.ex
 refine yw lk hcd S len fun A outer s H vs Q E hr hsp=>?_
 obtain⟨t,h,q⟩:=hbody cdv A outer s H vs Q E hr hsp
 exact⟨t,h.nox,q⟩
theorem sW.binds {x qual:Str}{st:Stmt}{f:Addr}{fd:FuncData}{ps:List Str}(F:sW K x qual st f fd)
  (h:∀(kV doc pm:Value) (an:Option Addr) (cdv ct:Value) (us:List Value),us.length=ps.length->bindArgs (PySem.W.fnOf x qual (dz st) (aR st) (aj st) .none kV doc pm an cdv ct) ⟨us,[]⟩=pure (ps.zip us)):Binds K fd ps []:=by
 obtain⟨oc,od,kV,doc,pm,an,cdv,ct,osl,rfl,lk,hcd⟩:=F.ex
 exact .all (h kV doc pm an cdv ct)
theorem pF {x qual:Str}{st:Stmt}{f:Addr}{oc:Value}{od an:Option Addr}{osl:Array (Option Value)}{kV doc pm cdv ct:Value}(l:K.lookup f=some ⟨oc,od,.func (PySem.W.fnOf x qual (dz st) (aR st) (aj st) .none kV doc pm an cdv ct),osl⟩)
  (c:PySem.W.codeIn K cdv qual=true) (k:PySem.W.keepIn K (.ref f)=true):sW K x qual st f (PySem.W.fnOf x qual (dz st) (aR st) (aj st) .none kV doc pm an cdv ct):=⟨⟨oc,od,kV,doc,pm,an,cdv,ct,osl,rfl,l,c⟩,k⟩
end
section
variable {X:Cx}
theorem pv (i:Nat){x:Str}{pos:Pos}(hN:X.N[i]? =some x:=by rfl)(hv:oy X.env.scope x:=by first |exact Or.inl rfl |exact Or.inr (Or.inl rfl) |exact Or.inr (Or.inr rfl))(hd:(x == ("__debug__":Str))=false:=by decide)
  (hcd:(x == ("__classdict__":Str))=false:=by decide):PE X (.Name x pos) (wq i):=cH hN hv hd hcd
end
theorem ku {A B:Prop}(h:B):if false=true then A else B:=by
 rw[if_neg Bool.false_ne_true]
 exact h
theorem oE {A B:Prop}(h:A):if true=true then A else B:=by
 rw[if_pos rfl]
 exact h
def ah (H H':Hp):Prop:=∀b o,H b=some o->H' b=some o
theorem ah.refl (H:Hp):ah H H:=fun _ _ h=>h
theorem ah.trans {H H1 H2:Hp}(a:ah H H1)(b:ah H1 H2):ah H H2:=fun c o h=>b c o (a c o h)
theorem ah.free {H H':Hp}(e:ah H H'){l:Addr}(h:H' l=Option.none):H l=Option.none:=by
 cases q:H l with
 |none=>rfl
 |some o=>
  rw[e l o q] at h
  cases h
theorem ah.seq {K:PySem.W.Frag}{H H':Hp}{a:Addr}{xs:List V}(e:ah H H')(h:fC K H a xs):fC K H' a xs:=by
 rcases h with (h | ⟨o,h⟩) |h
 ·exact .inl (.inl (e _ _ h))
 ·exact .inl (.inr ⟨o,e _ _ h⟩)
 ·exact .inr h
end L2

end

section
namespace L2.ST
open PySem PySem.SetTable
abbrev zA (xs:Array Nat):Prop:=xs.toList.Pairwise (· < ·)
def yW (mask:Nat)(p:Probe):Probe:=
 if p.more > 0 then {p with j:=p.j + 1,more:=p.more - 1} else
 {p with j:=(leap mask p.i p.perturb).1,more:=runEnd mask (leap mask p.i p.perturb).1 - (leap mask p.i p.perturb).1,i:=(leap mask p.i p.perturb).1,perturb:=(leap mask p.i p.perturb).2}
def zb (mask i perturb:Nat):Probe:={j:=i,more:=runEnd mask i - i,i,perturb,dummy:=none}
def st (mask:Nat)(h:Int):Probe:=zb mask (bits h % (mask + 1)) (bits h)
def gi (mask:Nat):Nat->Probe->Probe
 | 0,p=>p
 |n + 1,p=>gi mask n (yW mask p)
theorem nF (mask:Nat):∀(n m:Nat) (p:Probe),gi mask (n + m) p=gi mask m (gi mask n p)
 | 0,m,p=>by rw[Nat.zero_add];rfl
 |n + 1,m,p=>by rw[Nat.add_right_comm];exact nF mask n m (yW mask p)
theorem sJ {mask i:Nat}(h:i<=mask):i<=runEnd mask i/\runEnd mask i<=mask/\runEnd mask i - i<=9:=by
 unfold runEnd;split <;> omega
def In (mask:Nat)(p:Probe):Prop:=p.j + p.more<=mask/\p.more<=9
theorem qu (mask i q:Nat):(leap mask i q).1<=mask:=by
 unfold leap;exact Nat.lt_succ_iff.mp (Nat.mod_lt _ (Nat.succ_pos _))
theorem nJ (mask:Nat):∀(k:Nat) (p:Probe),p.more=k->gi mask (k + 1) p={p with j:=(leap mask p.i p.perturb).1,more:=runEnd mask (leap mask p.i p.perturb).1 - (leap mask p.i p.perturb).1,i:=(leap mask p.i p.perturb).1,perturb:=(leap mask p.i p.perturb).2}
 | 0,p,h=>by
  show yW mask p=_
  unfold yW
  rw[if_neg (by omega)]
 |k + 1,p,h=>by
  have e:yW mask p={p with j:=p.j + 1,more:=p.more - 1}:=by unfold yW;rw[if_pos (by omega)]
  show gi mask (k + 1) (yW mask p)=_
  rw[e,nJ mask k _ (by dsimp only;omega)]
theorem sF (mask i q:Nat):gi mask (runEnd mask i - i + 1) (zb mask i q)=zb mask (leap mask i q).1 (leap mask i q).2:=by
 exact nJ mask _ (zb mask i q) rfl
def cI (mask:Nat):Nat->Nat×Nat->Nat×Nat
 | 0,x=>x
 |k + 1,x=>cI mask k (leap mask x.1 x.2)
theorem iQ (mask:Nat):∀(k i q:Nat),i<=mask->∃n,n<=10 * k/\gi mask n (zb mask i q)=zb mask (cI mask k (i,q)).1 (cI mask k (i,q)).2
 | 0,i,q,_=>⟨0,Nat.le_refl _,rfl⟩
 |k + 1,i,q,h=>by
  obtain⟨n,hn,e⟩:=iQ mask k (leap mask i q).1 (leap mask i q).2 (qu _ _ _)
  have:=sJ h
  refine⟨(runEnd mask i - i + 1) + n,by omega,?_⟩
  rw[nF,sF,e]
  rfl
theorem kS (mask:Nat):∀(a b:Nat) (x:Nat×Nat),cI mask (a + b) x=cI mask b (cI mask a x)
 | 0,b,x=>by rw[Nat.zero_add];rfl
 |a + 1,b,x=>by rw[Nat.add_right_comm];exact kS mask a b (leap mask x.1 x.2)
theorem mZ (mask:Nat):∀(k:Nat) (x:Nat×Nat),x.1<=mask->(cI mask k x).1<=mask
 | 0,_,h=>h
 |k + 1,x,_=>mZ mask k _ (qu mask x.1 x.2)
theorem gu (mask:Nat):∀(k:Nat) (x:Nat×Nat),(cI mask k x).2=x.2 / 32 ^ k
 | 0,x=>by simp[cI]
 |k + 1,x=>by
  show (cI mask k (leap mask x.1 x.2)).2=_
  rw[gu mask k,Nat.pow_succ,Nat.mul_comm,<-Nat.div_div_eq_div_mul]
  rfl
def nx (mask i:Nat):Nat:=(i * 5 + 1) % (mask + 1)
def sS (mask:Nat):Nat->Nat->Nat
 | 0,i=>i
 |k + 1,i=>sS mask k (nx mask i)
theorem ji (mask:Nat):∀(a b i:Nat),sS mask (a + b) i=sS mask b (sS mask a i)
 | 0,b,i=>by rw[Nat.zero_add];rfl
 |a + 1,b,i=>by rw[Nat.add_right_comm];exact ji mask a b (nx mask i)
theorem jm (mask:Nat):∀(k i:Nat),cI mask k (i,0)=(sS mask k i,0)
 | 0,_=>rfl
 |k + 1,i=>by
  show cI mask k (leap mask i 0)=_
  have:leap mask i 0=(nx mask i,0):=by simp[leap,nx]
  rw[this,jm mask k]
  rfl
def AL (mask:Nat):Prop:=mask=7\/mask=31\/mask=127
theorem AG (mask:Nat)(hm:AL mask):sS mask (mask + 1) 0=0/\∀j,j<=mask->∃k,k<=mask/\sS mask k 0=j:=by
 have h7:∀j:Nat,j < 8->∃k,k < 8/\sS 7 k 0=j:=by decide +kernel
 have h31:∀j:Nat,j < 32->∃k,k < 32/\sS 31 k 0=j:=by decide +kernel
 have h127:∀j:Nat,j < 128->∃k,k < 128/\sS 127 k 0=j:=by decide +kernel
 rcases hm with rfl |rfl |rfl
 ·exact⟨by decide +kernel,fun j hj=>let ⟨k,a,b⟩:=h7 j (by omega);⟨k,by omega,b⟩⟩
 ·exact⟨by decide +kernel,fun j hj=>let ⟨k,a,b⟩:=h31 j (by omega);⟨k,by omega,b⟩⟩
 ·exact⟨by decide +kernel,fun j hj=>let ⟨k,a,b⟩:=h127 j (by omega);⟨k,by omega,b⟩⟩
theorem AN {mask:Nat}(hm:AL mask){i j:Nat}(hi:i<=mask)(hj:j<=mask):∃k,k<=mask/\sS mask k i=j:=by
 obtain⟨z,o⟩:=AG mask hm
 obtain⟨a,ha,ea⟩:=o i hi
 obtain⟨b,hb,eb⟩:=o j hj
 have back:sS mask (mask + 1 - a) i=0:=by
  rw[<-ea,<-ji,show a + (mask + 1 - a)=mask + 1 by omega];exact z
 by_cases hab:a<=b
 ·refine⟨b - a,by omega,?_⟩
  rw[<-ea,<-ji,show a + (b - a)=b by omega];exact eb
 ·refine⟨mask + 1 - a + b,by omega,?_⟩
  rw[ji,back];exact eb
theorem pG {mask:Nat}(hm:AL mask){i q j:Nat}(hi:i<=mask)(hq:q < 2 ^ 64)(hj:j<=mask):∃k,k<=mask + 13/\(cI mask k (i,q)).1=j:=by
 have hz:(cI mask 13 (i,q)).2=0:=by
  rw[gu]
  exact Nat.div_eq_of_lt (Nat.lt_of_lt_of_le hq (by decide))
 obtain⟨k,hk,e⟩:=AN hm (mZ mask 13 (i,q) hi) hj
 refine⟨13 + k,by omega,?_⟩
 rw[kS]
 have:cI mask 13 (i,q)=((cI mask 13 (i,q)).1,0):=Prod.ext rfl hz
 rw[this,jm]
 exact e
theorem xp (h:Int):bits h < 2 ^ 64:=by
 unfold bits
 have:=Int.emod_lt_of_pos h (show (0:Int) < 2 ^ 64 by decide)
 have:=Int.emod_nonneg h (show (2 ^ 64:Int)≠0 by decide)
 omega
theorem vO {mask:Nat}(hm:AL mask)(h:Int){j:Nat}(hj:j<=mask):∃n,n < 10 * turns mask/\(gi mask n (st mask h)).j=j:=by
 have hi:bits h % (mask + 1)<=mask:=Nat.lt_succ_iff.mp (Nat.mod_lt _ (Nat.succ_pos _))
 obtain⟨k,hk,e⟩:=pG hm hi (xp h) hj
 obtain⟨n,hn,q⟩:=iQ mask k (bits h % (mask + 1)) (bits h) hi
 refine⟨n,by unfold turns;omega,?_⟩
 show (gi mask n (zb mask _ _)).j=j
 rw[q];exact e
end L2.ST

end

section
namespace L2.ST
open PySem PySem.SetTable
def Reach (mask:Nat)(L:Nat->Prop)(h:Int)(j:Nat):Prop:=∃n,n < 10 * turns mask/\(gi mask n (st mask h)).j=j/\∀m,m < n->L (gi mask m (st mask h)).j
structure Tab (t:SetTable)(hs:List Int):Prop where
 mask:AL t.mask
 dum:t.dummies=#[]
 rise:zA t.place
 le:∀j,j∈t.place->j<=t.mask
 size:t.place.size=hs.length
 load:t.place.size * 5 < t.mask * 3
 reach:∀(i j:Nat) (h:Int),t.place[i]? =some j->hs[i]? =some h->Reach t.mask (· ∈t.place) h j
 plain:t.plain=true
theorem fS {α:Type}[DecidableEq α]:∀{l m:List α},l.Nodup->(∀x,x∈l->x∈m)->l.length<=m.length
 | [],_,_,_=>Nat.zero_le _
 |a :: l,m,hn,hs=>by
  have ha:=hs a (List.mem_cons_self ..)
  have hl:=List.nodup_cons.mp hn
  have:=fS (l:=l) (m:=m.erase a) hl.2 fun x hx=>by
   refine (List.mem_erase_of_ne ?_).mpr (hs x (List.mem_cons_of_mem _ hx))
   rintro rfl;exact hl.1 hx
  rw[List.length_erase_of_mem ha] at this
  have:0 < m.length:=List.length_pos_of_mem ha
  simp only[List.length_cons];omega
theorem oW {mask:Nat}{xs:Array Nat}(hl:xs.size<=mask):∃j,j<=mask/\j∉xs:=by
 refine Classical.byContradiction fun hc=>?_
 have all:∀j,j∈List.range (mask + 1)->j∈xs.toList:=fun j hj=>by
  have:=List.mem_range.mp hj
  refine Classical.byContradiction fun hn=>hc ⟨j,by omega,fun z=>hn (by simpa using z)⟩
 have:=fS List.nodup_range all
 simp at this
 omega
theorem mz {P:Nat->Prop}(h:∃n,P n):∃n,P n/\∀m,m < n->¬P m:=by
 obtain⟨n,hn⟩:=h
 induction n using Nat.strongRecOn with
 |_ n ih=>
  by_cases hc:∃m,m < n/\P m
  ·obtain⟨m,hm,hp⟩:=hc
   exact ih m hm hp
  ·exact⟨n,hn,fun m hm hp=>hc ⟨m,hm,hp⟩⟩
section
variable {t:SetTable}{hs:List Int}
theorem Tab.load' (T:Tab t hs):t.place.size<=t.mask:=by have:=T.load;omega
theorem Tab.first (T:Tab t hs)(h:Int):∃n,n < 10 * turns t.mask/\(gi t.mask n (st t.mask h)).j∉t.place/\∀m,m < n->(gi t.mask m (st t.mask h)).j∈t.place:=by
 obtain⟨j,hj,hn⟩:=oW T.load'
 obtain⟨n,h1,h2⟩:=vO T.mask h hj
 obtain⟨k,hk,hlt⟩:=mz (P:=fun n=>(gi t.mask n (st t.mask h)).j∉t.place) ⟨n,by rw[h2];exact hn⟩
 refine⟨k,?_,hk,fun m hm=>Classical.byContradiction fun z=>hlt m hm z⟩
 rcases Nat.lt_or_ge n k with c |c
 ·exact absurd (show (gi t.mask n (st t.mask h)).j∉t.place by rw[h2];exact hn) (hlt n c)
 ·omega
end
end L2.ST

end

section
namespace L2.ST
open PySem PySem.SetTable
abbrev own (o:Array (Option Nat))(j:Nat):Option Nat:=o.getD j none
structure Lay (mask:Nat)(o:Array (Option Nat))(hs:List Int):Prop where
 size:o.size=mask + 1
 all:∀k h,hs[k]? =some h->∃j,own o j=some k/\Reach mask (fun x=>(own o x).isSome=true) h j
 one:∀j j' k,own o j=some k->own o j'=some k->j=j'
 le:∀j k,own o j=some k->j<=mask/\k < hs.length
end L2.ST

end

section
namespace L2.ST
open PySem PySem.SetTable
abbrev Pr:=Int×Int
def hp (p:Pr):Int:=reduceHash (Builtin.Tuple.tupleHashOf [hashInt p.1,hashInt p.2])
def Sm (p:Pr):Prop:=(0<=p.1/\p.1 < 8)/\(0<=p.2/\p.2 < 8)
def lZ:List Pr:=(List.range 64).map fun k=>(((k / 8:Nat):Int),((k % 8:Nat):Int))
theorem oF {p:Pr}(h:Sm p):p∈lZ:=by
 unfold lZ
 obtain⟨⟨a,b⟩,c,d⟩:=h
 refine List.mem_map.mpr ⟨p.1.toNat * 8 + p.2.toNat,List.mem_range.mpr (by omega),?_⟩
 refine Prod.ext ?_ ?_ <;> dsimp only <;> omega
theorem oY {l:List Pr}(hn:l.Nodup)(h:∀p,p∈l->Sm p):l.length<=64:=by
 have:=fS (m:=lZ) hn fun x hx=>oF (h x hx)
 simpa[lZ] using this
section
variable {prog:Program}{w:World}{A:Around}{E:Value->Shared->Prop}{s:Shared}
abbrev l5 (prog:Program)(w:World)(h:Heap)(p:Pr)(a:Addr):Prop:=IsTupleKey (intKind prog w) h [p.1,p.2] a
theorem l5.inj {h:Heap}{p q:Pr}{a:Addr}(x:l5 prog w h p a)(y:l5 prog w h q a):p=q:=by
 have:=IsTupleKey.inj x y
 simp at this
 exact Prod.ext this.1 this.2
structure uQ (f:Pr->Int)(prog:Program)(w:World)(led:Bool)(h:Heap)(S:Addr)(ps:List (Addr×Pr)):Prop where
 ex:∃o ep t,h.get? S=some o/\o.ExactSet/\o.data=.set (ps.map fun q=>(f q.2,Value.ref q.1)).toArray ep t/\Tab t (ps.map fun q=>f q.2)/\t.led=led
 at':∀q,q∈ps->l5 prog w h q.2 q.1/\Sm q.2
 nd:(ps.map (·.2)).Nodup
theorem uQ.len {f:Pr->Int}{led:Bool}{h:Heap}{S:Addr}{ps:List (Addr×Pr)}(P:uQ f prog w led h S ps):ps.length<=64:=by
 have:=oY P.nd fun p hp=>by
  obtain⟨q,hq,rfl⟩:=List.mem_map.mp hp
  exact (P.at' q hq).2
 simpa using this
end
end L2.ST

end

section

end

section
namespace L2.ST
open PySem PySem.SetTable
def oa (w:World):Bool:= !(w.params.followText "set-order")
section
variable {prog:Program}{w:World}{A:Around}{E:Value->Shared->Prop}{s:Shared}{R:Result->Shared->Prop}{I:Addr}{fp wr:List Addr}{n:Nat}{P:Nat->Value->Prop}{St:Nat->Heap->Prop}
theorem mP (a:Value){Q1:Value->Shared->Prop}
  (h:Q1 (.ref s.heap.objs.size) {s with heap:=s.heap.push {cls:=.type "set",dict:=none,data:=.set #[] 0 (.fresh 0 0 (oa w))}}) :
  codeAny (model prog w) A (.call (.builtin "set.__new__") ⟨[.type "set",a],[]⟩) (wants Q1 E) s:=by
 refine codeAny_of_tree ?_
 show wpAny _ A.in1 (do (checkBuiltinCall "set.__new__" ⟨[.type "set",a],[]⟩);again (.builtin "set.__new__" ⟨[.type "set",a],[]⟩)) _ _ s
 refine wpAny_bind (wpAny_of_eq (F.newCall_set_1 a) (wpAny_pure ⟨plainId_quiet F.plain_set_new _,codeAny_builtin F.entry_set_new ?_⟩))
 rw[Around.under_plainId F.plain_set_new _]
 (unfold Builtin.«set.__new__» Builtin.Frozenset.newClass)
 have hsub0:=sub_set_self
 obtain⟨hp0,g0,d0,tk0,os0⟩:=s
 dsimp only
 wp_walk
 (refine wpAny_askSetting (wpAny_pure ?_))
 dsimp only
 simp only[newObj]
 (refine wpAny_bind (wpAny_alloc (wpAny_pure ?_)))
 exact wpAny_pure h
structure Src (prog:Program)(w:World)(h:Heap)(l:Addr)(vs:List Value)(T:String)(itO:Obj)(St:Addr->Nat->Heap->Prop):Prop where
 ty:∃o,h.get? l=some o/\o.cls=.type T
 ns:isSubtype (.type T) (.type "set")=pure false
 nf:isSubtype (.type T) (.type "frozenset")=pure false
 nd:(Value.type T == Value.type "dict")=false
 it:∀(A:Around) (s1:Shared) (Q:Value->Shared->Prop) (E:Value->Shared->Prop),(∀b o,h.get? b=some o->s1.heap.get? b=some o)->Q (.ref s1.heap.objs.size) {s1 with heap:=s1.heap.push itO}->wpAny (model prog w) A (pyIter (.ref l)) Q E s1
 st:∀(h1:Heap),(∀b o,h.get? b=some o->h1.get? b=some o)->St h1.objs.size 0 (h1.push itO)
 wk:∀(A:Around) (I:Addr),A.handled=none->l≠I->Walks prog w A I [I,l] [I] vs.length (fun i v=>vs[i]? =some v) (St I)
theorem Src.list {h:Heap}{l:Addr}{vs:List Value}(hl:h.IsList l vs.toArray):Src prog w h l vs "list" {cls:=.type "list_iterator",data:=.fields #[.ref l,.int 0 0]} (fun I i h'=>h'.IsListIter I l i/\h'.IsList l vs.toArray):=by
 obtain⟨o,ho,hc,n,hd⟩:=id hl
 refine⟨⟨o,ho,hc⟩,F.sub_list_set,F.sub_list_frozenset,by decide,fun A s1 Q E k hQ=>wpAny_pyIter_list ⟨o,k _ _ ho,hc,n,hd⟩ hQ,fun h1 k=>⟨⟨_,Heap.get?_push_size _ rfl,rfl,rfl⟩,⟨o,Heap.get?_push_of_some _ (k _ _ ho),hc,n,hd⟩⟩,fun A I hh hne=>?_⟩
 have:=Walks.list (prog:=prog) (w:=w) hh I l hne vs.toArray
 simpa using this
theorem sub_tuple_set:isSubtype (.type "tuple") (.type "set")=pure false:=by rw[isSubtype_type];kernel_rfl
theorem sub_tuple_frozenset:isSubtype (.type "tuple") (.type "frozenset")=pure false:=by rw[isSubtype_type];kernel_rfl
theorem Src.tuple {h:Heap}{l:Addr}{vs:List Value}(hl:h.IsTuple l vs.toArray):Src prog w h l vs "tuple" {cls:=.type "tuple_iterator",data:=.fields #[.ref l,.int 0 0]} (fun I i h'=>h'.IsTupleIter I l i/\h'.IsTuple l vs.toArray):=by
 obtain⟨o,ho,hc,n,hd⟩:=id hl
 refine⟨⟨o,ho,hc⟩,sub_tuple_set,sub_tuple_frozenset,by decide,fun A s1 Q E k hQ=>wpAny_pyIter_tuple ⟨o,k _ _ ho,hc,n,hd⟩ hQ,fun h1 k=>⟨⟨_,Heap.get?_push_size _ rfl,rfl,rfl⟩,⟨o,Heap.get?_push_of_some _ (k _ _ ho),hc,n,hd⟩⟩,fun A I hh hne=>?_⟩
 have:=Walks.tuple (prog:=prog) (w:=w) hh I l hne vs.toArray
 simpa using this
end
end L2.ST

end

section
namespace L2.SO
open PySem PySem.W PyProof.Rows
section
variable {n:Nat}{key:Nat->Int}
abbrev Kp (key:Nat->Int)(p:Array Nat)(k:Nat):Int:=key (p.getD k 0)
structure Pm (n:Nat)(p:Array Nat):Prop where
 sz:p.size=n
 nd:p.toList.Nodup
 lt:∀x,x∈p->x < n
theorem Pm.at {p:Array Nat}(P:Pm n p){k:Nat}(hk:k < n):p.getD k 0 < n:=by
 have h:k < p.size:=by rw[P.sz];exact hk
 simp only[Array.getD,h,dif_pos]
 exact P.lt _ (Array.getElem_mem h)
def Dn (key:Nat->Int)(p:Array Nat)(m:Nat):Prop:=∀i j,i < j->j < m->Kp key p j < Kp key p i
end
end L2.SO

end

section
namespace L2.ST
open PySem PySem.SetTable PySem.W PyProof.Rows
def code (p:Pr):Int:=p.1 * 8 + p.2
end L2.ST

end

section

end

section
namespace OM
abbrev Pr:=Int×Int
def wu (p q:Pr):Prop:=p.1 < q.1\/(p.1=q.1/\p.2 < q.2)
theorem gF (p:Pr):¬wu p p:=by unfold wu;omega
theorem rM {p q r:Pr}(a:wu p q)(b:wu q r):wu p r:=by unfold wu at *;omega
abbrev BE (l:List Pr):Prop:=l.Pairwise wu
theorem qZ:∀{l m:List Pr},BE l->BE m->(∀x,x∈l↔x∈m)->l=m
 | [],[],_,_,_=>rfl
 | [],b :: m,_,_,h=>absurd ((h b).mpr (List.mem_cons_self ..)) (by simp)
 |a :: l,[],_,_,h=>absurd ((h a).mp (List.mem_cons_self ..)) (by simp)
 |a :: l,b :: m,hl,hm,h=>by
  have hl':=List.pairwise_cons.mp hl
  have hm':=List.pairwise_cons.mp hm
  have e:a=b:=by
   rcases List.mem_cons.mp ((h a).mp (List.mem_cons_self ..)) with e |e
   ·exact e
   ·rcases List.mem_cons.mp ((h b).mpr (List.mem_cons_self ..)) with e' |e'
    ·exact e'.symm
    ·exact absurd (rM (hm'.1 a e) (hl'.1 b e')) (gF _)
  subst e
  congr 1
  refine qZ hl'.2 hm'.2 fun x=>⟨fun hx=>?_,fun hx=>?_⟩
  ·rcases List.mem_cons.mp ((h x).mp (List.mem_cons_of_mem _ hx)) with e |e
   ·subst e;exact absurd (hl'.1 x hx) (gF _)
   ·exact e
  ·rcases List.mem_cons.mp ((h x).mpr (List.mem_cons_of_mem _ hx)) with e |e
   ·subst e;exact absurd (hm'.1 x hx) (gF _)
   ·exact e
theorem jM {l:List Pr}(p:Pr->Bool)(h:BE l):BE (l.filter p):=h.sublist List.filter_sublist
def bJ (n:Nat):List Pr:=(List.range (n * n)).map fun k=>(((k / n:Nat):Int),((k % n:Nat):Int))
theorem cZ {n:Nat}{p:Pr}:p∈bJ n↔(0<=p.1/\p.1 < n)/\(0<=p.2/\p.2 < n):=by
 unfold bJ
 rw[List.mem_map]
 constructor
 ·rintro⟨k,hk,rfl⟩
  have hk:=List.mem_range.mp hk
  have hn:0 < n:=by
   rcases Nat.eq_zero_or_pos n with e |e
   ·subst e;omega
   ·exact e
  have h1:k / n < n:=Nat.div_lt_of_lt_mul hk
  have h2:k % n < n:=Nat.mod_lt _ hn
  generalize k / n=q at h1
  generalize k % n=r at h2
  exact⟨⟨Int.natCast_nonneg _,by dsimp only;omega⟩,⟨Int.natCast_nonneg _,by dsimp only;omega⟩⟩
 ·rintro⟨⟨a0,a1⟩,⟨b0,b1⟩⟩
  have hn:0 < n:=by omega
  refine⟨p.1.toNat * n + p.2.toNat,List.mem_range.mpr ?_,?_⟩
  ·have h1:p.1.toNat + 1<=n:=by omega
   have h2:p.2.toNat < n:=by omega
   have:=Nat.mul_le_mul_right n h1
   rw[Nat.add_mul] at this
   omega
  ·have h2:p.2.toNat < n:=by omega
   have e1:(p.1.toNat * n + p.2.toNat) / n=p.1.toNat:=by
    rw[Nat.mul_comm,Nat.mul_add_div hn,Nat.div_eq_of_lt h2];rfl
   have e2:(p.1.toNat * n + p.2.toNat) % n=p.2.toNat:=by
    rw[Nat.mul_comm,Nat.mul_add_mod,Nat.mod_eq_of_lt h2]
   rw[e1,e2]
   refine Prod.ext ?_ ?_ <;> dsimp only <;> omega
theorem nr (n:Nat):BE (bJ n):=by
 unfold bJ
 refine List.pairwise_map.mpr (List.Pairwise.imp_of_mem ?_ List.pairwise_lt_range)
 intro a b ha hb hab
 have ha:=List.mem_range.mp ha
 have hb:=List.mem_range.mp hb
 have hn:0 < n:=by
  rcases Nat.eq_zero_or_pos n with e |e
  ·subst e;omega
  ·exact e
 have h1:a / n<=b / n:=Nat.div_le_div_right (Nat.le_of_lt hab)
 have e1:=Nat.div_add_mod a n
 have e2:=Nat.div_add_mod b n
 unfold wu
 dsimp only
 rcases Nat.lt_or_ge (a / n) (b / n) with c |c
 ·left;omega
 ·right
  have e:a / n=b / n:=by omega
  rw[e] at e1
  omega
open Classical in
noncomputable def Df (n:Nat)(R:Int->Int->Prop):List Pr:=(bJ n).filter fun p=>decide (R p.1 p.2)
def Wn (n:Nat)(l:List Pr):Prop:=∀p,p∈l->(0<=p.1/\p.1 < n)/\(0<=p.2/\p.2 < n)
abbrev Mem (l:List Pr)(a b:Int):Prop:=(a,b)∈l
inductive Tr (R:Int->Int->Prop):Int->Int->Prop
 |one {a b}:R a b->Tr R a b
 |more {a b c}:R a b->Tr R b c->Tr R a c
theorem gL {l m:List Pr}(hl:l.Nodup)(h:∀x,x∈l->x∈m):l.length<=m.length:=by
 induction l generalizing m with
 |nil=>exact Nat.zero_le _
 |cons a l ih=>
  have ha:=h a (List.mem_cons_self ..)
  have hl':=List.nodup_cons.mp hl
  have:=ih (m:=m.erase a) hl'.2 fun x hx=>by
   refine (List.mem_erase_of_ne ?_).mpr (h x (List.mem_cons_of_mem _ hx))
   rintro rfl;exact hl'.1 hx
  rw[List.length_erase_of_mem ha] at this
  have:0 < m.length:=List.length_pos_of_mem ha
  simp only[List.length_cons];omega
def more (l:List Pr):List Pr:=l.flatMap fun p=>(l.filter fun q=>decide (q.1=p.2)).map fun q=>(p.1,q.2)
abbrev Tb:=Nat->Nat->Bool
def Tb.set (M:Tb)(a b:Nat):Tb:=fun x y=>if x=a/\y=b then true else M x y
def CM (M:Tb)(m:Nat):Prop:=∀k a b,k < m->M a k=true->M k b=true->M a b=true
def Phase (M0 M:Tb)(m:Nat)(D:Nat->Nat->Prop):Prop:=∀a b,M a b=true↔M0 a b=true\/(D a b/\M0 a m=true/\M0 m b=true)
theorem Phase.start (M:Tb)(m:Nat):Phase M M m fun _ _=>False:=fun a b=>by simp
structure Tab (n:Nat)(ps:List Pr)(M:Tb):Prop where
 inn:∀a b,M a b=true->a < n/\b < n
 sub:∀a b:Nat,((a:Int),(b:Int))∈ps->M a b=true
 sup:∀a b:Nat,M a b=true->Tr (Mem ps) a b
theorem Tab.all {n:Nat}{ps:List Pr}{M:Tb}(w:Wn n ps)(T:Tab n ps M)(H:CM M n)(a b:Nat):M a b=true↔Tr (Mem ps) a b:=by
 refine⟨T.sup a b,fun h=>?_⟩
 have key:∀{x y:Int},Tr (Mem ps) x y->M x.toNat y.toNat=true:=fun {x y} h=>by
  induction h with
  | @one x y r=>
   have:=w _ r
   refine T.sub _ _ ?_
   have e1:((x.toNat:Nat):Int)=x:=by simp only at this;omega
   have e2:((y.toNat:Nat):Int)=y:=by simp only at this;omega
   rw[e1,e2];exact r
  | @more x y z r _ ih=>
   have:=w _ r
   have e1:((x.toNat:Nat):Int)=x:=by simp only at this;omega
   have e2:((y.toNat:Nat):Int)=y:=by simp only at this;omega
   have q:M x.toNat y.toNat=true:=T.sub _ _ (by rw[e1,e2];exact r)
   exact H y.toNat _ _ (T.inn _ _ q).2 q ih
 have:=key h
 simpa using this
end OM

end

section

end

section
namespace L2
open PySem PySem.Spec PyProof.Rows
abbrev Pr:=Int×Int
abbrev Sm:=L2.ST.Sm
section
variable {X:Cx}{pins:List (Addr×Obj)}{σ:St}{H H':Hp}{s:Shared}
def x4 (H H':Hp):Prop:=(∀b xs,H b=some (.tup xs)->H' b=some (.tup xs))/\∀b o u,H b=some (.aC o u)->H' b=some (.aC o u)
theorem ah.grow {H H':Hp}(e:ah H H'):x4 H H':=⟨fun b xs h=>e b _ h,fun b o u h=>e b _ h⟩
theorem ah.new {H:Hp}{l:Addr}{o:HO}(h:H l=none):ah H (upd H l o):=fun b u e=>by rw[aq (aE e h)];exact e
theorem dq.grow {K:PySem.W.Frag}{a:Addr}{xs:List V}(h:dq K H a xs)(g:x4 H H'):dq K H' a xs:=by
 rcases h with (h | ⟨o,h⟩) |h
 ·exact .inl (.inl (g.1 _ _ h))
 ·exact .inl (.inr ⟨o,g.2 _ _ _ h⟩)
 ·exact .inr h
theorem x4.list {a:Addr}{ys:List V}{o:HO}(h:H a=some (.lst ys)):x4 H (upd H a o):=
 ⟨fun b xs e=>by rw[aq (yi e h (by intro z;cases z))];exact e,fun b o' u e=>by rw[aq (yi e h (by intro z;cases z))];exact e⟩
def lQ (K:PySem.W.Frag)(H:Hp):List V->List Pr->Prop:=Paired fun v p=>∃a,v=.ref a/\dq K H a [.int p.1,.int p.2]
theorem Paired.getP {α β:Type}{F:α->β->Prop}:∀{l:List α} {m:List β} {i:Nat} {x:α},Paired F l m->l[i]? =some x->∃y,m[i]? =some y/\F x y
 |_,_,_,_,.nil,e=>by simp at e
 |_,_,0,_,.cons r _,e=>by simp at e;subst e;exact⟨_,rfl,r⟩
 |_,_,i + 1,x,.cons _ t,e=>by
  obtain⟨u,h1,h2⟩:=Paired.getP (i:=i) (x:=x) t (by simpa using e)
  exact⟨u,by simpa using h1,h2⟩
abbrev pq (qs:List (Addr×Pr)):List Pr:=qs.map (·.2)
end
end L2

end

section
namespace L2
open PySem PySem.Spec PyProof.Rows
def iO (cells:List (Str×Addr)):List (Str×NameKind)->List (Str×Addr)->List (Str×Addr)
 | [],cs=>cs
 | (n,k) :: r,cs=>iO cells r (if k == .free then (n,(cells.lookup n).getD 0) :: cs else cs)
theorem jl {scope:Scope}{env:Env}(h:∀y∈scope.names,y.2=.free->∃c,env.cells.lookup y.1=some c):closureFor scope env=pure (iO env.cells scope.names []):=by
 unfold closureFor
 have key:∀(l:List (Str×NameKind)) (cs:List (Str×Addr)),(∀y∈l,y.2=.free->∃c,env.cells.lookup y.1=some c)->
   (forIn l cs (fun (x:Str×NameKind) (r:List (Str×Addr))=>if (x.2 == NameKind.free)=true then (do let a <-cellOf env x.1;pure (ForInStep.yield ((x.1,a) :: r)):Sem _) else pure (ForInStep.yield r)):Sem (List (Str×Addr)))=pure (iO env.cells l cs):=by
  intro l
  induction l with
  |nil=>intro cs _;rfl
  |cons y l ih=>
   intro cs hy
   obtain⟨n,k⟩:=y
   rw[List.forIn_cons]
   unfold iO
   by_cases hk:(k == NameKind.free)=true
   ·have hk':k=.free:=by simpa using hk
    obtain⟨c,hc⟩:=hy (n,k) (List.mem_cons_self ..) hk'
    have hce:cellOf env n=pure c:=by unfold cellOf;rw[hc]
    simp only[hk,if_true]
    have hc':env.cells.lookup n=some c:=hc
    rw[hce,hc']
    simp only[pure_bind,Option.getD_some]
    exact ih _ fun z hz=>hy z (List.mem_cons_of_mem _ hz)
   ·simp only[hk,if_false,Bool.false_eq_true]
    simp only[pure_bind]
    exact ih _ fun z hz=>hy z (List.mem_cons_of_mem _ hz)
 have:=key scope.names [] h
 simp only[bind_pure_comp] at this ⊢
 first
  |exact this
  | (rw[this];rfl)
  | (simpa using this)
theorem iF {cells:List (Str×Addr)}{x:Str}:∀{l:List (Str×NameKind)} {cs:List (Str×Addr)},((x,NameKind.free)∈l\/cs.lookup x=some ((cells.lookup x).getD 0))->(iO cells l cs).lookup x=some ((cells.lookup x).getD 0)
 | [],cs,h=>by
  rcases h with h |h
  ·cases h
  ·exact h
 | (n,k) :: r,cs,h=>by
  unfold iO
  refine iF ?_
  by_cases hk:(k == NameKind.free)=true
  ·rw[if_pos hk]
   by_cases hx:x=n
   ·subst hx;right;simp
   ·rcases h with h |h
    ·rcases List.mem_cons.mp h with e |e
     ·injection e with e1 _;exact absurd e1 hx
     ·exact .inl e
    ·right
     rw[List.lookup_cons,show (x == n)=false by simpa using hx]
     exact h
  ·rw[if_neg hk]
   rcases h with h |h
   ·rcases List.mem_cons.mp h with e |e
    ·injection e with _ e2;exact absurd (by rw[<-e2];rfl) hk
    ·exact .inl e
   ·exact .inr h
theorem iM {cells:List (Str×Addr)}{x:Str}{c:Addr}:∀{l:List (Str×NameKind)} {cs:List (Str×Addr)},(iO cells l cs).lookup x=some c->((x,NameKind.free)∈l/\c=(cells.lookup x).getD 0)\/cs.lookup x=some c
 | [],cs,h=>.inr h
 | (n,k) :: r,cs,h=>by
  unfold iO at h
  rcases iM h with⟨a,b⟩ |a
  ·exact .inl ⟨List.mem_cons_of_mem _ a,b⟩
  ·by_cases hk:(k == NameKind.free)=true
   ·rw[if_pos hk,List.lookup_cons] at a
    by_cases hx:x=n
    ·subst hx
     simp at a
     have:k=.free:=by simpa using hk
     subst this
     exact .inl ⟨List.mem_cons_self ..,a.symm⟩
    ·rw[show (x == n)=false by simpa using hx] at a
     exact .inr a
   ·rw[if_neg hk] at a
    exact .inr a
theorem iW {f:Str->NameKind->NameKind}{x:Str}:∀(l:List (Str×NameKind)),(l.map fun y=>(y.1,f y.1 y.2)).lookup x=(l.lookup x).map (f x)
 | []=>rfl
 | (n,k) :: l=>by
  rw[List.map_cons,List.lookup_cons,List.lookup_cons]
  by_cases hx:x=n
  ·subst hx;simp
  ·have hb:(x == n)=false:=by simpa using hx
   simp only[hb]
   exact iW l
theorem jw (scope:Scope)(env:Env)(x:Str):(relabel scope env).names.lookup x=(scope.names.lookup x).map fun k=>if (k == .free && env.scope.kind == .function && env.kindOf x == some .cell) then .cell else k:=by
 have e:(relabel scope env).names=scope.names.map fun y=>(y.1,if (y.2 == .free && env.scope.kind == .function && env.kindOf y.1 == some .cell) then .cell else y.2):=by
  unfold relabel
  dsimp only
  refine List.map_congr_left fun y _=>?_
  obtain⟨n,k⟩:=y
  dsimp only
  split <;> rfl
 rw[e]
 exact iW (f:=fun n k=>if (k == .free && env.scope.kind == .function && env.kindOf n == some .cell) then .cell else k) scope.names
def dX (X:Cx)(NB:List Str)(scope:Scope)(C:Addr)(ex:List Addr)(s3:Shared)(H3:Hp)(pn:List (Addr×Obj)):Cx:=
 {X with N:=NB,s₀:=s3,H₀:=H3,env:=compEnvC scope (iO X.env.cells scope.names []) C X.env,outer:=X.stack,ex:=ex,fn:=fun _=>false,pn:=pn,xe:=fun _ _=>False}
def sQ (own:Nat)(ixs:List Nat)(σ:St):St:=List.replicate own none ++ ixs.map fun i=>(σ[i]?).join
structure cq (X:Cx)(NB:List Str)(own:Nat)(ixs:List Nat)(scope:Scope):Prop where
 kind:scope.kind=.function
 nocell:∀y∈scope.names,y.2≠.cell
 names:∀y∈scope.names,scope.names.lookup y.1=some y.2
 frees:∀y∈scope.names,y.2=.free->X.env.kindOf y.1=some .cell\/X.env.kindOf y.1=some .free
 nd:NB.Nodup
 len:NB.length=own + ixs.length
 at':∀k,k < ixs.length->NB[own + k]? =X.N[ixs.getD k 0]?/\∀x,NB[own + k]? =some x->(x,NameKind.free)∈scope.names
section
variable {X:Cx}{NB:List Str}{own:Nat}{ixs:List Nat}{scope:Scope}{pins:List (Addr×Obj)}{σ:St}{H:Hp}{s:Shared}
theorem sr (S:cq X NB own ixs scope)(I:Inv X pins σ H s){fp:List Addr}(hfp:∀b∈fp,i6 X pins H b)(hob:∀b∈fp,∃o,s.heap.get? b=some o){h1:Heap}{tk:Nat}
  (hn:h1.Ns s.heap.objs.size (fun _=>none)) (hk:∀b o,s.heap.get? b=some o->h1.get? b=some o) :
  Inv (dX X NB scope s.heap.objs.size fp s H (X.pn ++ pins)) [] (sQ own ixs σ) H {s with heap:=h1,toks:=tk}:=by
 have stk:=I.stack
 have frees:∀{x:Str},(x,NameKind.free)∈scope.names->∃c,X.env.cells.lookup x=some c:=fun {x} hx=>I.ok.has x (S.frees _ hx rfl)
 have clE:∀{x:Str} {c:Addr},(iO X.env.cells scope.names []).lookup x=some c->(x,NameKind.free)∈scope.names/\X.env.cells.lookup x=some c:=fun {x c} h=>by
  rcases iM h with⟨a,b⟩ |a
  ·obtain⟨c',e⟩:=frees a
   rw[e] at b
   exact⟨a,by rw[e,b];rfl⟩
  ·simp at a
 have kindB:∀x,(dX X NB scope s.heap.objs.size fp s H (X.pn ++ pins)).env.kindOf x=(scope.names.lookup x).map fun k=>if (k == .free && X.env.scope.kind == .function && X.env.kindOf x == some .cell) then .cell else k:=fun x=>jw scope X.env x
 have isFree:∀{x:Str},((dX X NB scope s.heap.objs.size fp s H (X.pn ++ pins)).env.kindOf x=some .cell\/(dX X NB scope s.heap.objs.size fp s H (X.pn ++ pins)).env.kindOf x=some .free)->(x,NameKind.free)∈scope.names:=fun {x} h=>by
  rw[kindB] at h
  cases e:scope.names.lookup x with
  |none=>rw[e] at h;simp at h
  |some k=>
   have hm:=PySem.mem_of_lookup e
   cases k with
   |free=>exact hm
   |cell=>exact absurd rfl (S.nocell _ hm)
   |_=>rw[e] at h;simp at h
 have neN:∀b o,s.heap.get? b=some o->b≠s.heap.objs.size:=fun b o e=>Nat.ne_of_lt (Heap.lt_size e)
 have cellN:∀{x:Str} {c:Addr},X.env.cells.lookup x=some c->c < s.heap.objs.size:=fun {x c} e=>by
  obtain⟨v,o,ho,_⟩:=I.cell x c e
  exact Heap.lt_size ho
 have ok:(dX X NB scope s.heap.objs.size fp s H (X.pn ++ pins)).Ok:=by
  refine⟨I.ok.mod,S.kind,I.ok.glob,I.ok.blt,Nat.le_refl _,fun x y c h1 h2=>I.ok.inj x y c (clE h1).2 (clE h2).2,fun x hx=>?_,fun x c h=>(by cases h),I.ok.hd,I.ok.frames,.inl rfl,fun b hb=>?_,I.bs,Nat.le_trans I.ok.bsz I.sz,fun b o e hb=>?_,fun b hb hs=>?_,stk,I.stkFree⟩
  ·have hm:=isFree hx
   exact⟨_,iF (.inl hm)⟩
  ·obtain⟨_,f1,f2,f3,f4,f5⟩:=hfp b hb
   refine⟨?_,fun x c h z=>f4 x c (clE h).2 z⟩
   obtain⟨o,ho⟩:=hob b hb
   exact neN b o ho
  ·obtain⟨_,f1,f2,f3,f4,f5⟩:=hfp b hb
   rcases f3 with f3 |f3
   ·exact I.ok.noex b o e f3
   ·exact absurd (Nat.lt_of_lt_of_le (Heap.lt_size e) (Nat.le_trans I.ok.bsz f3)) (Nat.lt_irrefl _)
  ·obtain⟨_,f1,f2,f3,f4,f5⟩:=hfp b hb
   rcases List.mem_cons.mp (I.stkSub b hs) with z |z
   ·exact f1 z
   ·exact f2 z
 refine⟨ok,rfl,I.bare,Un.kept hk,⟨_,hn,fun i x v h1' h2' h3'=>?_⟩,fun x c h=>?_,I.hok.fresh (Nat.le_refl _),fun x c h=>I.freeC x c (clE h).2,fun p hp=>?_,I.hok.kept hk,?_⟩
 ·
  have h1':NB[i]? =some x:=h1'
  have hown:own<=i:=by
   refine Classical.byContradiction fun hc=>?_
   have hlt:i < own:=Nat.lt_of_not_le hc
   unfold sQ at h2'
   rw[List.getElem?_append_left (by simpa using hlt),List.getElem?_replicate,if_pos hlt] at h2'
   cases h2'
  obtain⟨k,rfl⟩:∃k,i=own + k:=⟨i - own,by omega⟩
  have hk':k < ixs.length:=by
   have:=(List.getElem?_eq_some_iff.mp h1').1
   rw[S.len] at this;omega
  obtain⟨e1,e2⟩:=S.at' k hk'
  have hm:=e2 x h1'
  unfold sQ at h2'
  rw[List.getElem?_append_right (by simp),List.length_replicate,Nat.add_sub_cancel_left,List.getElem?_map,List.getElem?_eq_getElem hk'] at h2'
  simp only[Option.map_some,Option.some.injEq] at h2'
  have hix:ixs.getD k 0=ixs[k]:=by simp[hk']
  have hσ:σ[ixs[k]]? =some (some v):=by
   cases e:σ[ixs[k]]? with
   |none=>rw[e] at h2';cases h2'
   |some o=>rw[e] at h2';simp at h2';rw[h2']
  rw[e1,hix] at h1'
  have hkind:=S.frees _ hm rfl
  have hvis:oy X.env.scope x:=hkind.elim (fun z=>.inr (.inl z)) (fun z=>.inr (.inr z))
  obtain⟨m,hm',hl⟩:=I.loc
  obtain⟨u,r,look⟩:=hl _ x v h1' hσ hvis
  refine⟨u,r,.inr ⟨?_,?_⟩⟩
  ·rw[kindB]
   have hfr:scope.names.lookup x=some .free:=S.names _ hm
   rw[hfr]
   simp only[Option.map_some]
   split
   ·exact .inl rfl
   ·exact .inr rfl
  ·rcases look with⟨z,_⟩ | ⟨_,c,hc,hcell⟩
   ·rcases hkind with q |q
    ·rw[q] at z;cases z
    ·rw[q] at z;cases z
   ·refine⟨c,?_,?_⟩
    ·have:=iF (cells:=X.env.cells) (cs:=[]) (.inl hm)
     rw[hc] at this
     exact this
    ·obtain⟨o,ho,hd⟩:=hcell
     exact⟨o,hk _ _ ho,hd⟩
 ·obtain⟨v,o,ho,hd⟩:=I.cell x c (clE h).2
  exact⟨v,o,hk _ _ ho,hd⟩
 ·have hp':p∈X.pn ++ pins:=by
   rcases List.mem_append.mp hp with z |z
   ·exact z
   ·cases z
  obtain⟨e,n,ne,nf,d⟩:=I.pin p hp'
  refine⟨hk _ _ e,n,neN _ _ e,fun z=>?_,d⟩
  rcases List.mem_cons.mp (I.stkSub _ z) with q |q
  ·exact ne q
  ·exact nf q
 ·show (sQ own ixs σ).length=NB.length
  unfold sQ
  rw[S.len];simp
end
end L2

end

section
namespace L2
open PySem PySem.Spec PyProof.Rows
abbrev pY (ifs:List Expr)(env:Env):Sem Bool:=forIn ifs true fun c r=>if r=true then do let ok <-isTrue c env (eval c env);pure (ForInStep.yield ok) else pure (ForInStep.yield r)
theorem sE {prog:Program}{w:World}{A:Around}{R:Result->Shared->Prop}{s:Shared}{elt target iter:Expr}{ifs:List Expr}{scope:Scope}{pos:Pos}{it acc:Value}{env:Env}(I:Nat->Shared->Prop)
  (turn:∀n s,I n s->wpAny (model prog w) A (pyNext it) (fun r s1=>match r with
   |none=>R (.ok .next) s1
   |some v=>wpAny (model prog w) A (letOwnedTupleGo target it v) (fun _ s1'=>wpAny (model prog w) A (assign target env v) (fun _ s2=>
     wpAny (model prog w) A (pY ifs env) (fun ok s3=>
      if ok=true then wpAny (model prog w) A (eval elt env) (fun x s4=>wpAny (model prog w) A (call (.builtin "list.append") [acc,x]) (fun _ s5=>∃m,m < n/\I m s5) (fun _ _=>False) s4) (fun _ _=>False) s3
      else ∃m,m < n/\I m s3) (fun _ _=>False) s2) (fun _ _=>False) s1') (fun _ _=>False) s1) (fun _ _=>False) s)
  (n:Nat) (h:I n s):codeAny (model prog w) A (.compLoop (.ListComp elt [⟨target,iter,ifs,0⟩] scope pos) 0 it acc env) R s:=by
 refine codeAny_loop rfl I (fun n s hI=>?_) n h
 (show wpAny _ A ((compTurn (.ListComp elt [⟨target,iter,ifs,0⟩] scope pos) 0 it acc env).onRaise (fun x=>do (noteFrame x env);theTreesLotGoes x)) _ _ s)
 refine wpAny_noted ?_
 rw[compTurn_list]
 refine wpAny_bind (wpAny_standAt (wpAny_bind (wpAny_mono (turn n s hI) (fun r s1 h1=>?_) fun _ _ z=>z.elim)))
 cases r with
 |none=>exact wpAny_pure h1
 |some v=>
  refine wpAny_bind (wpAny_mono h1 (fun _ s1' h1'=>?_) fun _ _ z=>z.elim)
  refine wpAny_bind (wpAny_mono h1' (fun _ s2 h2=>wpAny_bind (wpAny_mono h2 (fun ok s3 h3=>?_) fun _ _ z=>z.elim)) fun _ _ z=>z.elim)
  cases ok with
  |false=>exact wpAny_pure ⟨rfl,h3⟩
  |true=>exact wpAny_bind (wpAny_bind (wpAny_mono h3 (fun x s4 h4=>wpAny_bind (wpAny_mono h4 (fun _ s5 h5=>wpAny_pure (wpAny_pure ⟨rfl,h5⟩)) fun _ _ z=>z.elim)) fun _ _ z=>z.elim))
def vU (X:Cx)(ifs:List Expr)(t:TT):Prop:=
 ∀(pins:List (Addr×Obj)) (s:Shared) (σ:St) (H:Hp) (Q:Bool->Hp->Prop),Inv X pins σ H s->t σ H Q->wpAny (model X.prog X.w) X.A (pY ifs X.env) (TP X pins σ Q) X.xe s
def C4:TT:=fun _ H Q=>Q true H
theorem xP {X:Cx}:vU X [] C4:=fun pins s σ H Q I h=>wpAny_pure ⟨H,I,h⟩
theorem wm {X:Cx}{c:Expr}{t:TT}(h:PT X c t):vU X [c] t:=fun pins s σ H Q I q=>wpAny_tests_one (h pins s σ H Q I q)
def pJ (own:Nat)(ixs:List Nat)(wi:TI)(g:TG)(tt:TT)(te:TE)(σ:St)(H:Hp)(Q:VK):Prop:=wi σ H fun J H1=>∀D,H1 D=none->∃W:Nat->Nat->St->Hp->Prop,(∃m,W 0 m (sQ own ixs σ) (upd H1 D (.lst [])))/\∀i m σ' H',W i m σ' H'->
 (J.stop i H'/\(∃acc,H' D=some (.lst acc))/\Q (.ref D) H')\/
 (J.go i H'/\∃N:St->Hp->Prop,(∀σ2 H2,N σ2 H2->∃m',m' < m/\W (i + 1) m' σ2 H2)/\∀x H2,J.yld i H' x H2->g x σ' H2 fun σ3 H3=>tt σ3 H3 fun b H4=>
  if b=true then te σ3 H4 fun v H5=>∃acc,H5 D=some (.lst acc)/\acc.length < sizeLine/\N σ3 (upd H5 D (.lst (acc ++ [v]))) else N σ3 H4)
section
variable {X:Cx}{NB:List Str}{own:Nat}{ixs:List Nat}{scope:Scope}{elt tg iter:Expr}{ifs:List Expr}{pos:Pos}{wi:TI}{g:TG}{tt:TT}{te:TE}
theorem kO (hc:X.calm=true)(S:cq X NB own ixs scope)
  (hg:∀C ex s3 H3 pn,PG (dX X NB scope C ex s3 H3 pn) tg g) (ht:∀C ex s3 H3 pn,vU (dX X NB scope C ex s3 H3 pn) ifs tt) (he:∀C ex s3 H3 pn,PE (dX X NB scope C ex s3 H3 pn) elt te)
  {pins:List (Addr×Obj)} {σ:St} {H1:Hp} {s2:Shared} {it:Addr} {fp:List Addr} {tn:Nat->Heap->Prop} {J:It} {Q:VK} (I2:Inv X pins σ H1 s2) (T:Turn X.prog X.w X.K tg J fp it tn) (st2:tn 0 s2.heap) (f2:∀b∈fp,i6 X pins H1 b)
  (hQ:∀D,H1 D=none->∃W:Nat->Nat->St->Hp->Prop,(∃m,W 0 m (sQ own ixs σ) (upd H1 D (.lst [])))/\∀i m σ' H',W i m σ' H'->
   (J.stop i H'/\(∃acc,H' D=some (.lst acc))/\Q (.ref D) H')\/
   (J.go i H'/\∃N:St->Hp->Prop,(∀σ2 H2,N σ2 H2->∃m',m' < m/\W (i + 1) m' σ2 H2)/\∀x H2,J.yld i H' x H2->g x σ' H2 fun σ3 H3=>tt σ3 H3 fun b H4=>
    if b=true then te σ3 H4 fun v H5=>∃acc,H5 D=some (.lst acc)/\acc.length < sizeLine/\N σ3 (upd H5 D (.lst (acc ++ [v]))) else N σ3 H4))
  {E:Value->Shared->Prop} {RR:Value->Addr->Result->Shared->Prop}
  (fin:∀D C H' s' m,Inv X pins σ H' s'->Q (.ref D) H'->s'.heap.Ns C m->H' C=none->C≠X.env.locals->(∀x c,X.env.cells.lookup x=some c->c≠C)->X.s₀.heap.objs.size<=C->(∀p∈X.pn ++ pins,p.1≠C)->RR (.ref D) C (.ok .next) s') :
  wpAny (model X.prog X.w) X.A (newList []) (fun acc s3=>wpAny (model X.prog X.w) X.A (newFunctionEnv scope X.env.globals (iO X.env.cells scope.names []) [] X.env.qual none .none (some X.env)) (fun cenv s4=>
   codeAny (model X.prog X.w) X.A (.compStart (.ListComp elt [⟨tg,iter,ifs,0⟩] scope pos) 0 (.ref it) acc {cenv with scope:=relabel scope X.env}) (RR acc cenv.locals) s4) E s3) E s2:=by
 refine wpAny_newList ?_ (Nat.zero_le _)
 have hD:H1 s2.heap.objs.size=none:=I2.hok.fresh (Nat.le_refl _)
 obtain⟨W,⟨m0,w0⟩,turn⟩:=hQ s2.heap.objs.size hD
 generalize hs3:({s2 with heap:=s2.heap.push (seqObj "list" ([]:List Value).toArray 0)}:Shared)=s3
 have I3:Inv X pins σ (upd H1 s2.heap.objs.size (.lst [])) s3:=by
  rw[<-hs3]
  exact I2.lnew (ys:=[]) (its:=[]) (t':=s2.toks) .nil (Nat.zero_le _)
 have k3:∀b o,s2.heap.get? b=some o->s3.heap.get? b=some o:=fun b o e=>by rw[<-hs3];exact Heap.get?_push_of_some _ e
 have sz3:s3.heap.objs.size=s2.heap.objs.size + 1:=by rw[<-hs3];exact Heap.size_push ..
 have ob2:∀b∈fp,∃o,s2.heap.get? b=some o:=fun b hb=>let ⟨o,e,_⟩:=T.obj 0 _ st2 b hb;⟨o,e⟩
 have neD:∀b∈fp,b≠s2.heap.objs.size:=fun b hb=>let ⟨o,e⟩:=ob2 b hb;Nat.ne_of_lt (Heap.lt_size e)
 have f3:∀b∈fp,i6 X pins (upd H1 s2.heap.objs.size (.lst [])) b:=fun b hb=>by
  obtain⟨a1,a2⟩:=f2 b hb
  exact⟨by rw[aq (neD b hb)];exact a1,a2⟩
 have st3:tn 0 s3.heap:=T.keep _ _ _ st2 fun b _ o e=>k3 b o e
 refine wpAny_newFunctionEnv S.nocell (fun y hy=>by simp at hy) (fun h4 hn4 sb4=>?_) S.kind
 have k4:∀b o,s3.heap.get? b=some o->h4.get? b=some o:=fun b o e=>sb4.extBut b o (Nat.ne_of_lt (Heap.lt_size e)) (Heap.get?_push_of_some _ e)
 have I4:Inv (dX X NB scope s3.heap.objs.size fp s3 (upd H1 s2.heap.objs.size (.lst [])) (X.pn ++ pins)) [] (sQ own ixs σ) (upd H1 s2.heap.objs.size (.lst [])) {s3 with heap:=h4,toks:=s3.toks + ([]:List (Str×Value)).length}:=
  sr S I3 f3 (fun b hb=>let ⟨o,e⟩:=ob2 b hb;⟨o,k3 _ _ e⟩) (by simpa using hn4) k4
 have st4:tn 0 h4:=T.keep _ _ _ st3 fun b _ o e=>k4 b o e
 generalize hB:dX X NB scope s3.heap.objs.size fp s3 (upd H1 s2.heap.objs.size (.lst [])) (X.pn ++ pins)=B at I4
 have hgB:PG B tg g:=by rw[<-hB];exact hg _ _ _ _ _
 have htB:vU B ifs tt:=by rw[<-hB];exact ht _ _ _ _ _
 have heB:PE B elt te:=by rw[<-hB];exact he _ _ _ _ _
 have eP:B.prog=X.prog:=by rw[<-hB];rfl
 have eW:B.w=X.w:=by rw[<-hB];rfl
 have eK:B.K=X.K:=by rw[<-hB];rfl
 have eA:B.A=X.A:=by rw[<-hB];rfl
 have eC:B.calm=true:=by rw[<-hB];exact hc
 have eX:B.xe=fun _ _=>False:=by rw[<-hB];rfl
 have eE:B.env=compEnvC scope (iO X.env.cells scope.names []) s3.heap.objs.size X.env:=by rw[<-hB];rfl
 have ex:B.ex=fp:=by rw[<-hB];rfl
 have eL:B.env.locals=s3.heap.objs.size:=by rw[eE];rfl
 have stat:∀{H':Hp},(∀b∈fp,H' b=none)->∀b∈fp,i6 B [] H' b:=fun {H'} hn b hb=>by
  obtain⟨a1,a2,a3,a4,a5,a6⟩:=f3 b hb
  obtain⟨o,eo⟩:=ob2 b hb
  refine⟨hn b hb,?_,fun z=>?_,.inl (by rw[ex];exact hb),fun x c e z=>?_,fun p hp z=>?_⟩
  ·rw[eL];exact Nat.ne_of_lt (Heap.lt_size (k3 _ _ eo))
  ·have hz:b∈b8 X.stack:=by rw[<-hB] at z;exact z
   rcases List.mem_cons.mp (I3.stkSub b hz) with q |q
   ·exact a2 q
   ·exact a3 q
  ·rw[eE] at e
   rcases iM e with⟨m1,m2⟩ |m1
   ·obtain⟨c',e'⟩:=I3.ok.has x (S.frees _ m1 rfl)
    rw[e'] at m2
    exact a5 x c' e' (by rw[<-z,m2];rfl)
   ·simp at m1
  ·have hp':p∈X.pn ++ pins:=by
    rw[<-hB] at hp
    rcases List.mem_append.mp hp with q |q
    ·exact q
    ·cases q
   exact a6 p hp' z
 have back:∀{σ':St} {H':Hp} {s':Shared},Inv B [] σ' H' s'->Inv X pins σ H' s':=fun {σ' H' s'} J'=>by
  have u:=J'.base
  have os:=J'.os
  have bare:=J'.bare
  have hok:=J'.hok
  subst hB
  exact I3.call' (ch:=fp) os u hok bare fun b hb=>by
   obtain⟨a1,a2,a3,a4,a5,a6⟩:=f3 b hb
   exact⟨a4,a2,a5,a6⟩
 have loop:∀s5:Shared,s5={s3 with heap:=h4,toks:=s3.toks + ([]:List (Str×Value)).length}->
   codeAny (model X.prog X.w) X.A (.compLoop (.ListComp elt [⟨tg,iter,ifs,0⟩] scope pos) 0 (.ref it) (.ref s2.heap.objs.size) (compEnvC scope (iO X.env.cells scope.names []) s3.heap.objs.size X.env)) (RR (.ref s2.heap.objs.size) s3.heap.objs.size) s5:=by
  rintro s5 rfl
  refine sE (fun n s'=>∃i σ' H',Inv B [] σ' H' s'/\tn i s'.heap/\(∀b∈fp,H' b=none)/\W i n σ' H') ?_ m0 ⟨0,_,_,I4,st4,fun b hb=>(f3 b hb).1,w0⟩
  rintro n s6 ⟨i,σ6,H6,I6,st6,fr6,w6⟩
  rcases turn i n σ6 H6 w6 with⟨stop,⟨acc,hacc⟩,qn⟩ | ⟨go,N,hN,step⟩
  ·have:=T.done B eP eW eK eC i [] s6 σ6 H6 (fun _ _=>False) I6 (stat fr6) st6 stop
   rw[eA] at this
   refine bb this fun r s7 ⟨hr,I7⟩=>?_
   subst hr
   obtain⟨m7,hn7,_⟩:=I7.loc
   rw[eL] at hn7
   have J7:=back I7
   refine fin _ _ H6 s7 m7 J7 qn hn7 (by rw[<-eL];exact I7.free) (fun z=>?_) (fun x c e z=>?_) ?_ fun p hp z=>?_
   ·have:=I3.lt
    rw[<-z] at this
    exact Nat.lt_irrefl _ this
   ·obtain⟨v,o,ho,_⟩:=I3.cell x c e
    exact absurd (Heap.lt_size ho) (by rw[z];exact Nat.lt_irrefl _)
   ·exact I3.sz
   ·have:=Heap.lt_size (I3.pin p hp).1
    rw[z] at this
    exact Nat.lt_irrefl _ this
  ·have hitem:=T.item B eP eW eK eC i [] s6 σ6 H6 (fun _ _=>False) I6 (stat fr6) st6 go
   rw[eA] at hitem
   refine bb hitem fun r s7 ⟨u,hr,h7⟩=>?_
   subst hr
   refine bb h7 fun _ s8 ⟨x,H8,I8,r8,y8,st8,fr8⟩=>?_
   have I8':=I8.pinned (stat fr8) (T.obj _ _ st8)
   have ha:=hgB _ s8 σ6 H8 x u _ I8' r8 (step x H8 y8)
   rw[eP,eW,eA,eE,eX] at ha
   refine bb ha fun _ s9 ⟨σ9,H9,I9,q9⟩=>?_
   have hb:=htB _ s9 σ9 H9 _ I9 q9
   rw[eP,eW,eA,eE,eX] at hb
   refine bb hb fun ok s10 ⟨H10,I10,q10⟩=>?_
   have again:∀{σ7:St} {H7:Hp} {s7:Shared},Inv B ([] ++ jX fp s8.heap) σ7 H7 s7->N σ7 H7->∃m,m < n/\∃i σ' H',Inv B [] σ' H' s7/\tn i s7.heap/\(∀b∈fp,H' b=none)/\W i m σ' H':=fun {σ7 H7 s7} I7 n7=>by
    obtain⟨m',hm,w7⟩:=hN σ7 H7 n7
    refine⟨m',hm,i + 1,σ7,H7,I7.unpinned,T.keep _ _ _ st8 fun b hb o e=>(I7.pin (b,o) (List.mem_append_right _ (List.mem_append_right _ (eY hb e)))).1,fun b hb=>?_,w7⟩
    obtain⟨o,e,d⟩:=T.obj _ _ st8 b hb
    exact (I7.pin (b,o) (List.mem_append_right _ (List.mem_append_right _ (eY hb e)))).2.1
   cases ok with
   |false=>
    simp only[Bool.false_eq_true,if_false] at q10 ⊢
    exact again I10 q10
   |true=>
    simp only[if_true] at q10 ⊢
    have hv:=heB _ s10 σ9 H10 _ I10 q10
    rw[eP,eW,eA,eE,eX] at hv
    refine bb hv fun y s11 ⟨v,H11,I11,r11,acc,hacc,hz,q11⟩=>?_
    have hap:=iH (X:=B) _ s11 σ9 H11 (.ref s2.heap.objs.size) [v] (.ref s2.heap.objs.size) [y] (fun z H'=>z=.non/\N σ9 H') I11 rfl (.cons r11 .nil) ⟨_,acc,v,rfl,rfl,hacc,hz,rfl,q11⟩
    rw[eP,eW,eA,eX] at hap
    exact bb hap fun _ s12 ⟨_,H12,I12,_,_,q12⟩=>again I12 q12
 exact codeAny_compStart_list (loop _ rfl) (T.self X.A 0 _ _ _ st4 (loop _ rfl))
theorem tG (hc:X.calm=true)(S:cq X NB own ixs scope)(hi:PI X tg iter wi)
  (hg:∀C ex s3 H3 pn,PG (dX X NB scope C ex s3 H3 pn) tg g) (ht:∀C ex s3 H3 pn,vU (dX X NB scope C ex s3 H3 pn) ifs tt) (he:∀C ex s3 H3 pn,PE (dX X NB scope C ex s3 H3 pn) elt te)
  (hs:∀x,foldedSetIterable iter X.env x=pure x:=by intro _;rfl) :
  PE X (.ListComp elt [⟨tg,iter,ifs,0⟩] scope pos) (pJ own ixs wi g tt te):=by
 intro pins s σ H Q I h
 rw[eval_ListComp]
 refine wpAny_comprehension_free (use:=none) rfl hs (jl fun y hy e=>I.ok.has _ (S.frees y hy e)) S.kind (fun y hy e=>by rw[S.names y hy,e]) ?_
 refine bb (hi pins s σ H _ I h) fun v s1 h1=>bb h1 fun itv s2 h2=>?_
 obtain⟨it,fp,tn,J,H2,e,I2,T,st2,f2,q2⟩:=h2
 subst e
 refine kO hc S hg ht he I2 T st2 f2 q2 (RR:=fun acc C=>compPost (model X.prog X.w) X.A X.xe none (EP X pins σ Q) acc C) fun D C H' s' m J' q hn hC n1 n2 n3 n4=>?_
 refine⟨m,hn,fun h'' sb=>⟨.ref D,H',?_,rfl,q⟩⟩
 exact J'.turned (t':=s'.toks) (it:=C) (fun b o hb e=>sb.extBut b o hb e) hC n1 (.inr n3) n2 n4
theorem ve {i:Nat}{y:Str}{py spos:Pos}(hc:X.calm=true)(S:cq X NB own ixs scope)(hi:PI X tg iter wi)
  (hg:∀C ex s3 H3 pn,PG (dX X NB scope C ex s3 H3 pn) tg g) (ht:∀C ex s3 H3 pn,vU (dX X NB scope C ex s3 H3 pn) ifs tt) (he:∀C ex s3 H3 pn,PE (dX X NB scope C ex s3 H3 pn) elt te)
  (hN:X.N.Nodup) (hy:X.N[i]? =some y) (hl:X.env.scope.names.lookup y=some .local)
  (hsw:swapsWith (.ListComp elt [⟨tg,iter,ifs,0⟩] scope pos) (some (.Name y py)) spos.line X.env=pure true)
  (hs:∀x,foldedSetIterable iter X.env x=pure x:=by intro _;rfl) :
  PS X (.Assign [.Name y py] (.ListComp elt [⟨tg,iter,ifs,0⟩] scope pos) spos) (fun D σ H=>pJ own ixs wi g tt te σ H fun v H'=>D.nx (σ.set i (some v)) H'):=by
 intro pins s σ H D I h
 rw[exec_Assign_Name_used _ _ _ _ hsw]
 refine wpAny_bind (wpAny_standAt (wpAny_bind ?_))
 show wpAny _ X.A (comprehension (.ListComp elt [⟨tg,iter,ifs,0⟩] scope pos) scope X.env _ (newList []) false (eval iter X.env) (some (assign (.Name y py) X.env)) >>= fun _=>pure ()) _ _ s
 refine wpAny_bind (wpAny_mono (wpAny_comprehension_free (use:=some (assign (.Name y py) X.env)) (Q:=fun _ s'=>SP X pins D .next s') rfl hs (jl fun y hy e=>I.ok.has _ (S.frees y hy e)) S.kind (fun y hy e=>by rw[S.names y hy,e]) ?_)
  (fun _ s' hq=>wpAny_pure (wpAny_pure hq)) fun _ _ e=>e)
 refine bb (hi pins s σ H _ I h) fun v s1 h1=>bb h1 fun itv s2 h2=>?_
 obtain⟨it,fp,tn,J,H2,e,I2,T,st2,f2,q2⟩:=h2
 subst e
 refine kO hc S hg ht he I2 T st2 f2 q2 (Q:=fun v H'=>D.nx (σ.set i (some v)) H') (RR:=fun acc C=>compPost (model X.prog X.w) X.A X.xe (some (assign (.Name y py) X.env)) (fun _ s'=>SP X pins D .next s') acc C) fun D' C H' s' m J' q hn hC n1 n2 n3 n4=>?_
 show wpAny _ X.A (assign (.Name y py) X.env (.ref D')) _ _ s'
 refine wpAny_assign_Name (ll J' hN hy (.inl hl) (v:=.ref D') rfl (fun s'' I'' ⟨a,sb,ha⟩=>?_) (.inr hl))
 have hCa:C≠a:=by
  rcases ha with z |z
  ·rw[z];exact n1
  ·exact (n2 _ _ z).symm
 refine⟨m,hn.sameBut sb hCa,fun h3 sb3=>⟨_,H',?_,q⟩⟩
 exact I''.turned (t':=s''.toks) (it:=C) (fun b o hb e=>sb3.extBut b o hb e) hC n1 (.inr n3) n2 n4
end
end L2

end

section
namespace L2
open PySem PySem.Spec PyProof.Rows
mutual
inductive Rep (K:PySem.W.Frag)(H:Hp):V->PyData->Prop
 |non:Rep K H .non .none
 |bl (b:Bool):Rep K H (.bl b) (.bool b)
 |int (i:Int):Rep K H (.int i) (.int i)
 |str (x:Str):Rep K H (.str x) (.str x)
 |tup {a:Addr} {xs:List V} {ds:List PyData}:dq K H a xs->fu K H xs ds->Rep K H (.ref a) (.tuple ds)
 |lst {a:Addr} {xs:List V} {ds:List PyData}:fC K H a xs->fu K H xs ds->Rep K H (.ref a) (.list ds)
inductive fu (K:PySem.W.Frag)(H:Hp):List V->List PyData->Prop
 |nil:fu K H [] []
 |cons {x:V} {xs:List V} {d:PyData} {ds:List PyData}:Rep K H x d->fu K H xs ds->fu K H (x :: xs) (d :: ds)
end
section
variable {X:Cx}{pins:List (Addr×Obj)}{σ:St}{H H':Hp}{s:Shared}
mutual
theorem Rep.reads (I:Inv X pins σ H s):∀{x:V} {d:PyData} {u:Value},Rep X.K H x d->RelV x u->∃as,Reads s.heap u d as
 |_,_,_,.non,r=>by cases r;exact⟨_,.none⟩
 |_,_,_,.bl b,r=>by cases r;exact⟨_,.bool b⟩
 |_,_,_,.int i,r=>by obtain⟨t,rfl⟩:=r;exact⟨_,.int i t⟩
 |_,_,_,.str x,r=>by obtain⟨t,rfl⟩:=r;exact⟨_,.str x t⟩
 |_,_,_,.tup h hs,r=>by
  cases r
  obtain⟨its,rv,⟨o,ho,hc,n,hd⟩,_⟩:=I.tuple h
  obtain⟨as,q⟩:=fu.reads I hs rv
  exact⟨_,.tuple ho hc hd (by simpa using q)⟩
 |_,_,_,.lst h hs,r=>by
  cases r
  obtain⟨its,rv,pl,_⟩:=I.list h
  obtain⟨o,ho,hc,n,hd⟩:=pl.isList
  obtain⟨as,q⟩:=fu.reads I hs rv
  exact⟨_,.list ho hc hd (by simpa using q)⟩
theorem fu.reads (I:Inv X pins σ H s):∀{xs:List V} {ds:List PyData} {us:List Value},fu X.K H xs ds->Vals xs us->∃as,ReadsAll s.heap us ds as
 |_,_,_,.nil,r=>by cases r;exact⟨_,.nil⟩
 |_,_,_,.cons h hs,r=>by
  cases r with
  |cons r1 r2=>
   obtain⟨as,q⟩:=Rep.reads I h r1
   obtain⟨bs,q'⟩:=fu.reads I hs r2
   exact⟨_,.cons q q'⟩
end
def yM (K:PySem.W.Frag)(neg:Bool):R2:=fun x y H Q=>∃d e,Rep K H x d/\Rep K H y e/\SeqAt.shaped d=true/\SeqAt.shaped e=true/\Q (.bl (if neg then !PyData.eqv d e else PyData.eqv d e)) H
theorem lU (hu:X.A.units + 64 < cLine):ij X (compareOp .Eq) (yM X.K false):=by
 intro pins s σ H x y v u Q I rx ry h
 obtain⟨d,e,h1,h2,s1,s2,q⟩:=h
 obtain⟨as,r1⟩:=h1.reads I rx
 obtain⟨bs,r2⟩:=h2.reads I ry
 exact SeqAt.compareEq_shaped r1 r2 s1 s2 hu ⟨.bl _,H,I,rfl,q⟩
theorem gM (hu:X.A.units + 64 < cLine):ij X (compareOp .NotEq) (yM X.K true):=by
 intro pins s σ H x y v u Q I rx ry h
 obtain⟨d,e,h1,h2,s1,s2,q⟩:=h
 obtain⟨as,r1⟩:=h1.reads I rx
 obtain⟨bs,r2⟩:=h2.reads I ry
 exact SeqAt.compareNe_shaped r1 r2 s1 s2 hu ⟨.bl _,H,I,rfl,q⟩
theorem fu.at' {K:PySem.W.Frag}:∀{xs:List V} {ds:List PyData} {i:Nat} {x:V},fu K H xs ds->xs[i]? =some x->∃d,ds[i]? =some d/\Rep K H x d
 |_,_,_,_,.nil,e=>by simp at e
 |_,_,0,_,.cons r _,e=>by simp at e;subst e;exact⟨_,rfl,r⟩
 |_,_,i + 1,x,.cons _ t,e=>by
  obtain⟨u,h1,h2⟩:=fu.at' (i:=i) (x:=x) t (by simpa using e)
  exact⟨u,by simpa using h1,h2⟩
theorem fu.len {K:PySem.W.Frag}:∀{xs:List V} {ds:List PyData},fu K H xs ds->xs.length=ds.length
 |_,_,.nil=>rfl
 |_,_,.cons _ t=>by simp[fu.len t]
def yz (K:PySem.W.Frag):List V->Hp->VK->Prop:=fun xs H Q=>∃a d,xs= [.ref a]/\Rep K H (.ref a) d/\d.showable=true/\d.hasDict=false/\d.depth<=64/\d.shown.length<=sizeLine/\Q (.str d.shown) H
theorem kK (hg:X.A.guards=some [])(hu:X.A.units + 100 < cLine):bI X (.builtin "repr") (yz X.K):=by
 intro pins s σ H xs us Q I r h
 obtain⟨a,d,rfl,hd,h1,h2,h3,h4,q⟩:=h
 obtain⟨u,rfl,rx⟩:=vals1 r
 have rx':=rx
 cases rx
 obtain⟨as,rd⟩:=hd.reads I rx'
 exact repr_of_reads' rd h1 (PyData.noDict_hsm h2) hg (by omega) (fun b o e=>e) (fun h' u tk k=>⟨.str _,H,I.kept (t':=tk) k,⟨u,rfl⟩,q⟩) h4
inductive xF (K:PySem.W.Frag)(H:Hp):V->String->Prop
 |non:xF K H .non "NoneType"
 |bl (b:Bool):xF K H (.bl b) "bool"
 |int (i:Int):xF K H (.int i) "int"
 |str (x:Str):xF K H (.str x) "str"
 |tup {a:Addr} {xs:List V}:dq K H a xs->xF K H (.ref a) "tuple"
 |lst {a:Addr} {xs:List V}:fC K H a xs->xF K H (.ref a) "list"
 |dic {a:Addr} {kvs:List (Key×V)}:H a=some (.dK kvs)->xF K H (.ref a) "dict"
def C6 (K:PySem.W.Frag):List V->Hp->VK->Prop:=fun xs H Q=>∃x T t b,xs= [x,.ty T]/\xF K H x t/\PySem.W.kitOne K (.type t) (.type T)=some b/\Q (.bl b) H
theorem uT:bI X (.builtin "isinstance") (C6 X.K):=by
 intro pins s σ H xs us Q I r h
 obtain⟨x,T,t,b,rfl,ty,e,q⟩:=h
 obtain⟨u,c,rfl,rx,rc⟩:=vals2 r
 cases rc
 have fin:∀tk,EP X pins σ Q (.bool b) {s with toks:=tk}:=fun tk=>⟨.bl b,H,I.tok tk,rfl,q⟩
 cases ty with
 |non=>exact dJ I rx .non e fin
 |bl b=>exact dJ I rx (.bl b) e fin
 |int i=>exact dJ I rx (.int i) e fin
 |str z=>exact dJ I rx (.str z) e fin
 |dic hk=>exact dJ I rx (.dK hk) e fin
 |tup hq=>
  cases rx
  obtain⟨its,rv,⟨o,h1,h2,_⟩,_⟩:=I.tuple hq
  exact PySem.W.kia_one PySem.W.kitx_tuple I.kIn ⟨o,h1,h2⟩ e (fun z=>nomatch z) fin
 |lst hq=>
  cases rx
  obtain⟨its,rv,pl,_⟩:=I.list hq
  obtain⟨o,h1,h2,_⟩:=pl.isList
  exact PySem.W.kia_one PySem.W.kitx_list I.kIn ⟨o,h1,h2⟩ e (fun z=>nomatch z) fin
theorem og {A:Around}{its:List Value}{bs:List Bool}(hv:Vals (bs.map V.bl) its):TruthOf X.prog X.w A (fun i v=>its[i]? =some v) (fun i=>bs.getD i false):=fun i v s Q E hi hq=>by
 have hl:=hv.length
 have hi2:i < bs.length:=by
  have:=(List.getElem?_eq_some_iff.mp hi).1
  rw[<-hl] at this;simpa using this
 obtain⟨u,eu,ru⟩:=hv.get (i:=i) (x:=.bl bs[i]) (by simp[hi2])
 rw[hi] at eu;cases eu
 cases ru
 refine wpAny_truthy_bool ?_
 have:bs.getD i false=bs[i]:=by simp[hi2]
 rw[<-this];exact hq
theorem range_all (bs:List Bool):(List.range bs.length).all (fun i=>bs.getD i false)=bs.all id:=by
 induction bs with
 |nil=>rfl
 |cons b bs ih=>
  rw[List.length_cons,List.range_succ_eq_map,List.all_cons,List.all_map,List.all_cons,<-ih]
  rfl
def sY (K:PySem.W.Frag)(f:List Bool->Bool):List V->Hp->VK->Prop:=fun xs H Q=>∃a bs,xs= [.ref a]/\fC K H a (bs.map V.bl)/\Q (.bl (f bs)) H
theorem oR (hc:X.calm=true){a:Addr}{bs:List Bool}{Q:VK}(I:Inv X pins σ H s)(hq:fC X.K H a (bs.map V.bl)){f:List Bool->Bool}{g:(Nat->Bool)->Nat->Bool}(hfg:g (fun i=>bs.getD i false) bs.length=f bs)(q:Q (.bl (f bs)) H) :
  wpAny (model X.prog X.w) X.A.in1 (pyIter (.ref a)) (fun it s2=>∃Ii fp wr n P St tr,it=.ref Ii/\Walks X.prog X.w X.A.in1 Ii fp wr n P St/\St 0 s2.heap/\TruthOf X.prog X.w X.A.in1 P tr/\
   ∀h' tk,(∀b o,b∉wr->s2.heap.get? b=some o->h'.get? b=some o)->EP X pins σ Q (.bool (g tr n)) {s2 with heap:=h',toks:=tk}) X.xe s:=by
 obtain⟨its,rv,pl,hz⟩:=I.list hq
 have hh:X.A.in1.handled=none:=I.ok.hd hc
 have hlen:its.length=bs.length:=by rw[<-rv.length];simp
 obtain⟨o,ho,_⟩:=id pl.isList
 refine wpAny_pyIter_list pl.isList ?_
 have W:=Walks.list (prog:=X.prog) (w:=X.w) hh s.heap.objs.size a (Nat.ne_of_lt (Heap.lt_size ho)) its.toArray
 refine⟨s.heap.objs.size,_,_,_,_,_,fun i=>bs.getD i false,rfl,W,⟨⟨_,Heap.get?_push_size _ rfl,rfl,rfl⟩,pl.isList.push _⟩,?_,fun h' tk k=>?_⟩
 ·have:=og (X:=X) (A:=X.A.in1) rv
  simpa using this
 ·have e:its.toArray.size=bs.length:=by simpa using hlen
  rw[e,hfg]
  have I1:Inv X pins σ H {s with heap:=s.heap.push {cls:=.type "list_iterator",data:=.fields #[.ref a,.int 0 0]}}:=I.kept (t':=s.toks) fun b o e=>Heap.get?_push_of_some _ e
  have hf:H s.heap.objs.size=none:=I.hok.fresh (Nat.le_refl _)
  have fp:=I.fpOk (H':=H) (b:=s.heap.objs.size) (Nat.le_refl _) hf
  refine⟨.bl _,H,I1.turned (it:=s.heap.objs.size) (t':=tk) (fun b o hb e=>k b o (by simpa using hb) e) hf fp.2.1 fp.2.2.2.1 fp.2.2.2.2.1 fp.2.2.2.2.2,rfl,q⟩
theorem jD (hc:X.calm=true):bI X (.builtin "all") (sY X.K fun bs=>bs.all id):=by
 intro pins s σ H xs us Q I r h
 obtain⟨a,bs,rfl,hq,q⟩:=h
 obtain⟨u,rfl,rx⟩:=vals1 r
 cases rx
 exact call_all_walk (oR hc I hq (f:=fun bs=>bs.all id) (g:=fun tr n=>(List.range n).all tr) (range_all bs) q)
theorem ur:bI X (.type "range") (fun xs H Q=>∃n:Int,xs= [.int n]/\∀p,H p=none->Q (.ref p) (upd H p (.dg 0 n))):=by
 intro pins s σ H xs us Q I r h
 obtain⟨n,rfl,q⟩:=h
 obtain⟨u,rfl,rx⟩:=vals1 r
 obtain⟨t,rfl⟩:=rx
 refine call_range_1 ⟨.ref s.heap.objs.size,upd H s.heap.objs.size (.dg 0 n),?_,rfl,q _ (I.hok.fresh (Nat.le_refl _))⟩
 exact I.laid (fun b o e=>Heap.get?_push_of_some _ e) (Nat.le_refl _) ⟨_,_,_,Heap.get?_push_size _ rfl⟩
theorem ke (hc:X.calm=true):bI X (.type "list") (fun xs H Q=>∃p n,xs= [.ref p]/\H p=some (.dg 0 n)/\0<=n/\n<=1000/\∀l,H l=none->Q (.ref l) (upd H l (.lst ((List.range n.toNat).map fun (i:Nat)=>V.int (i:Int))))):=by
 intro pins s σ H xs us Q I r h
 obtain⟨p,n,rfl,hp,h0,h1,q⟩:=h
 obtain⟨u,rfl,rx⟩:=vals1 r
 cases rx
 obtain⟨t,u,v,hr⟩:∃t u v,s.heap.get? p=some {cls:=.type "range",data:=.fields #[.int 0 t,.int n u,.int 1 v]}:=I.hok p _ hp
 have hsz:Builtin.Range.rangeSize 0 n 1=(n.toNat:Int):=by rw[rangeSize_one];split <;> omega
 refine call_list_range (I.ok.hd hc) hr (small_one (by omega) (by omega) (by omega) (by omega)) hsz (by omega) fun h' tk acc c k hS hacc=>?_
 have hv:Vals ((List.range n.toNat).map fun (i:Nat)=>V.int (i:Int)) acc.toList:=by
  have key:∀(m:Nat) (us:List Value) (j:Nat),us.length=m->(∀(i:Nat) (v:Value),us[i]? =some v->∃t,v=Value.int ((j + i:Nat):Int) t)->Vals ((List.range' j m).map fun (i:Nat)=>V.int (i:Int)) us:=by
   intro m
   induction m with
   |zero=>intro us j hl _;cases us with
    |nil=>exact .nil
    |cons a b=>simp at hl
   |succ m ih=>
    intro us j hl hh
    cases us with
    |nil=>simp at hl
    |cons u us=>
     rw[List.range'_succ,List.map_cons]
     refine .cons (by have:=hh 0 u rfl;simp at this;exact this) (ih us (j + 1) (by simpa using hl) fun i v hi=>?_)
     obtain⟨t,e⟩:=hh (i + 1) v (by simpa using hi)
     exact⟨t,by rw[e];congr 2;omega⟩
  have:=key n.toNat acc.toList 0 (by simpa using hacc.1) fun i v hi=>by
   obtain⟨t,e⟩:=hacc.2 i v (by simpa using hi)
   exact⟨t,by rw[e];simp⟩
  rw[List.range_eq_range'];exact this
 refine⟨.ref s.heap.objs.size,_,I.laid (t':=tk) k (Nat.le_refl _) (show aV X.prog X.w _ h' _ (.lst _) from⟨by simp;rw[sizeLine_eq];omega,acc.toList,c,hv,by simpa using hS⟩),rfl,q _ (I.hok.fresh (Nat.le_refl _))⟩
end
end L2

end

section
namespace L2
open PySem PySem.Spec PyProof.Rows
def Rc (h:Heap)(e:Addr)(cls:Value)(T:Addr)(fl:Value):Prop:=∃oe vs oT ts,h.get? e=some oe/\oe.cls=cls/\oe.dict=none/\oe.data=.fields vs/\vs[1]? =some (.ref T)/\T≠e/\h.get? T=some oT/\oT.data=.fields ts/\ts[3]? =some fl
abbrev Keeps (F:List Addr)(ch:List Addr)(h h':Heap):Prop:=∀b o,h.get? b=some o->b∉F->b∉ch->h'.get? b=some o
abbrev Slots (F:List Addr)(h h':Heap):Prop:=∀b o,h.get? b=some o->b∈F->∃sl,h'.get? b=some {o with slots:=sl}
section
variable {M:Model}{A:Around}{E:Value->Shared->Prop}{s:Shared}{base:Heap}{env:Env}{outer:List Env}{L e:Addr}{cls:Value}{Q:Unit->Shared->Prop}
theorem ub {oe:Obj}{vs:Array Value}{head:Value}{hadNext:Bool}(hfr:A.frames=some (env :: outer))(hl:s.heap.FunFrames base (env :: outer))(hf:env.frame=some L)(he:s.heap.get? e=some oe)(hc:oe.cls=cls)(hdd:oe.dict=none)(hd:oe.data=.fields vs)(hsz:1 < vs.size)
  (h:∀h' T,Keeps (b8 (env :: outer)) [e] s.heap h'->Slots (b8 (env :: outer)) s.heap h'->s.heap.get? T=none->Rc h' e cls T (rawInt L)->Q () {s with heap:=h'}) :
  wpAny M A (do let a <-frameOf env;let pl <-entryPlaceOf L hadNext;let b <-EntryCells.newEntry head a .none (rawInt L) .none pl;setField (.ref e) 1 b) Q E s:=by
 have eF:e∉b8 (env :: outer):=fun z=>by
  obtain⟨_,o,q,n⟩:=hl.mem z
  rw[he] at q;cases q;exact n _ hd
 refine wpAny_bind (wpAny_frameOf_fun hfr hl hf fun h1 s1=>?_)
 refine wpAny_bind (wpAny_entryPlaceOf fun pl hpl=>?_)
 unfold EntryCells.newEntry newFields
 refine wpAny_bind (wpAny_newObj_type ?_ (hpl.sizeOk5 _ _ _ _ _))
 have e1:h1.get? e=some oe:=(s1.2.1 e eF).trans he
 have e2:=Heap.get?_push_of_some (h:=h1) {cls:=.type "traceback",dict:=none,data:=.fields ([head,.ref L,.none,rawInt L,.none] ++ (if pl.isEmpty then List.replicate 6 Value.none else pl)).toArray} e1
 have tn:h1.objs.size≠e:=Nat.ne_of_gt (Heap.lt_size e1)
 refine wpAny_setField e2 hd hsz (h _ h1.objs.size (fun b o q hb hn=>?_) (fun b o q hb=>?_) ?_ ?_)
 ·have hbe:b≠e:=by simpa using hn
  have q1:h1.get? b=some o:=(s1.2.1 b hb).trans q
  rw[Heap.get?_update_other _ _ (Ne.symm hbe)]
  exact Heap.get?_push_of_some _ q1
 ·obtain⟨sl,q1⟩:=s1.2.2 b o q
  have hbe:b≠e:=fun z=>eF (z▸hb)
  refine⟨sl,?_⟩
  rw[Heap.get?_update_other _ _ (Ne.symm hbe)]
  exact Heap.get?_push_of_some _ q1
 ·cases q:s.heap.get? h1.objs.size with
  |none=>rfl
  |some o=>obtain⟨sl,q1⟩:=s1.2.2 _ o q;exact absurd (Heap.lt_size q1) (Nat.lt_irrefl _)
 ·have d3:=Obj.data_mapFields hd (·.setIfInBounds 1 (Value.ref h1.objs.size))
  have e3:=Heap.get?_update_self (Obj.mapFields (·.setIfInBounds 1 (Value.ref h1.objs.size))) e2 (Obj.isFreed_of_fields d3)
  refine⟨_,_,_,_,e3,(Obj.cls_mapFields _ _).trans hc,?_,d3,by simp[hsz],tn,(Heap.get?_update_other _ _ (Ne.symm tn)).trans (Heap.get?_push_size h1 rfl),rfl,?_⟩
  ·unfold Obj.mapFields
   split <;> exact hdd
  ·rcases hpl with rfl | ⟨_,_,_,_,_,_,_,rfl⟩ <;> simp
theorem pe {oe:Obj}{vs:Array Value}(hfr:A.frames=some (env :: outer))(hl:s.heap.FunFrames base (env :: outer))(hf:env.frame=some L)(he:s.heap.get? e=some oe)(hc:oe.cls=cls)(hdd:oe.dict=none)(hd:oe.data=.fields vs)(h1:vs[1]? =some .none)
  (h:∀h' T,Keeps (b8 (env :: outer)) [e] s.heap h'->Slots (b8 (env :: outer)) s.heap h'->s.heap.get? T=none->Rc h' e cls T (rawInt L)->Q () {s with heap:=h'}):wpAny M A (noteFrame (.ref e) env) Q E s:=by
 unfold noteFrame
 simp only[hf]
 refine wpAny_bind (wpAny_field he hd h1 ?_)
 rw[if_neg (by decide)]
 exact ub hfr hl hf he hc hdd hd (Array.getElem?_eq_some_iff.mp h1).1 h
theorem kL {T0:Addr}(hfr:A.frames=some (env :: outer))(hl:s.heap.FunFrames base (env :: outer))(hf:env.frame=some L)(r:Rc s.heap e cls T0 .none)
  (h:∀h' T,Keeps (b8 (env :: outer)) [e,T0] s.heap h'->Slots (b8 (env :: outer)) s.heap h'->(s.heap.get? T=none\/T=T0)->Rc h' e cls T (rawInt L)->Q () {s with heap:=h'}):wpAny M A (noteFrame (.ref e) env) Q E s:=by
 obtain⟨oe,vs,oT,ts,he,hc,hdd,hd,h1,hTe,hT,hdT,h3⟩:=r
 have tF:T0∉b8 (env :: outer):=fun z=>by
  obtain⟨_,o,q,n⟩:=hl.mem z
  rw[hT] at q;cases q;exact n _ hdT
 unfold noteFrame
 simp only[hf]
 refine wpAny_bind (wpAny_field he hd h1 ?_)
 rw[if_pos (show (Value.ref T0 != Value.none)=true from by simp)]
 refine wpAny_bind (wpAny_field hT hdT h3 ?_)
 rw[if_neg (show ¬((Value.none == rawInt L)=true) from by simp[rawInt])]
 refine wpAny_bind (wpAny_setField hT hdT (Array.getElem?_eq_some_iff.mp h3).1 ?_)
 have oth:∀b,b≠T0->(s.heap.update T0 (Obj.mapFields (·.setIfInBounds 3 Value.none))).get? b=s.heap.get? b:=fun b hb=>Heap.get?_update_other _ _ (Ne.symm hb)
 have nf:∀b o,s.heap.get? b=some o->(∀ws,o.data≠.fields ws)->b≠T0:=fun b o q n z=>by
  rw[z,hT] at q;cases q;exact n _ hdT
 refine ub (base:=base) hfr (hl.of_keeps fun b o q n=>⟨o,(oth b (nf b o q n)).trans q,rfl⟩) hf ((oth e (Ne.symm hTe)).trans he) hc hdd hd (Array.getElem?_eq_some_iff.mp h1).1 fun h' T kp sl tn rc=>?_
 refine h h' T (fun b o q hb hn=>?_) (fun b o q hb=>?_) ?_ rc
 ·simp only[List.mem_cons,List.not_mem_nil,or_false,not_or] at hn
  exact kp b o ((oth b hn.2).trans q) hb (by simp[hn.1])
 ·exact sl b o ((oth b fun z=>tF (z▸hb)).trans q) hb
 ·by_cases z:T=T0
  ·exact .inr z
  ·exact .inl ((oth T z).symm.trans tn)
theorem i8 {T:Addr}{fl:Value}(r:Rc s.heap e cls T fl)(h:∀h',Keeps [] [T] s.heap h'->Rc h' e cls T .none->Q () {s with heap:=h'}):wpAny M A (setFlight (.ref e) none) Q E s:=by
 obtain⟨oe,vs,oT,ts,he,hc,hdd,hd,h1,hTe,hT,hdT,h3⟩:=r
 have sz:3 < ts.size:=(Array.getElem?_eq_some_iff.mp h3).1
 unfold setFlight
 refine wpAny_bind (wpAny_field he hd h1 ?_)
 rw[if_pos (show (Value.ref T != Value.none)=true from by simp)]
 refine wpAny_setField hT hdT sz (h _ (fun b o q _ hn=>?_) ?_)
 ·have hb:b≠T:=by simpa using hn
  exact (Heap.get?_update_other _ _ (Ne.symm hb)).trans q
 ·have d3:=Obj.data_mapFields hdT (·.setIfInBounds 3 ((none:Option Addr).elim Value.none fun f=>rawInt f))
  exact⟨oe,vs,_,_,(Heap.get?_update_other _ _ hTe).trans he,hc,hdd,hd,h1,hTe,Heap.get?_update_self _ hT (Obj.isFreed_of_fields d3),d3,by simp[sz]⟩
end
end L2

end

section
namespace L2
open PySem PySem.Spec PyProof.Rows
section
variable {P:Program}{w:World}
theorem aV.there {H:Hp}{h:Heap}{a:Addr}{o:HO}(x:aV P w H h a o):∃u,h.get? a=some u:=by
 cases o with
 |lst xs=>obtain⟨_,_,_,_,e⟩:=x;exact⟨_,e⟩
 |tup xs=>obtain⟨_,_,_,u,e,_⟩:=x;exact⟨u,e⟩
 |dK kvs=>obtain⟨_,_,_,_,o,_,_,e,_⟩:=x;exact⟨_,e⟩
 |dT kvs=>obtain⟨_,_,_,_,o,_,_,e,_⟩:=x;exact⟨_,e⟩
 |set S n=>obtain⟨o,_,_,_,e,_⟩:=x;exact⟨_,e⟩
 |ins C dx fs=>obtain⟨_,_,_,e,_⟩:=x;exact⟨_,e⟩
 |own y=>obtain⟨_,e⟩:=x;exact⟨_,e⟩
 |xd fs=>obtain⟨_,⟨_,_,_,e,_⟩,_⟩:=x;exact⟨_,e⟩
 |dg lo hi=>obtain⟨_,_,_,e⟩:=x;exact⟨_,e⟩
 |aC ob u=>obtain⟨e,_⟩:=x;exact⟨_,e⟩
 |tbl ps=>exact⟨_,show h.get? a=some _ from x⟩
 |met f y=>exact⟨_,show h.get? a=some _ from x⟩
 |ext φ=>obtain⟨_,⟨_,e⟩,_⟩:=x;exact⟨_,e⟩
end
structure Lies (h₀:Heap)(H:Hp)(h:Heap)(e:Addr)(cls:Value):Prop where
 free:H e=none
 new:h₀.get? e=none
 ob:∃T,Rc h e cls T .none/\H T=none/\h₀.get? T=none
def ir (P:Program)(w:World):ot:=fun outer H s E e s'=>∃ea cls H',e=.ref ea/\s'.os=s.os/\AllBare s'.gens/\Un (b8 outer) [] H H' s.heap s'.heap/\fm P w H' s'.heap/\Lies s.heap H' s'.heap ea cls/\E cls none H'
section
variable {P:Program}{w:World}{M:Model}{A:Around}{E':Value->Shared->Prop}{s:Shared}{env:Env}{outer:List Env}{L e:Addr}{cls:Value}{base h₀:Heap}{H:Hp}{Q:Unit->Shared->Prop}
theorem ie {h h':Heap}(hok:fm P w H h)(k:∀b o,h.get? b=some o->(∃u,H b=some u)->h'.get? b=some o):fm P w H h':=fun a o ha=>
 (hok a o ha).stay (fun b u hb q=>k b u q (hb.elim (fun z=>⟨o,by rw[z];exact ha⟩) fun z=>⟨_,z⟩)) (fun _ q=>q) fun _ _ q=>q
theorem uk (hfr:A.frames=some (env :: outer))(hf:env.frame=some L)(hfn:s.heap.FunFrames base (env :: outer))(hok:fm P w H s.heap)(hff:∀b∈b8 (env :: outer),H b=none)(Ly:Lies h₀ H s.heap e cls)(hex:∀b o,h₀.get? b=some o->∃o',s.heap.get? b=some o')
  (hQ:∀h',(∀b o,s.heap.get? b=some o->b∉b8 (env :: outer)->((∃o0,h₀.get? b=some o0)\/∃u,H b=some u)->h'.get? b=some o)->(∀b o,s.heap.get? b=some o->b∈b8 (env :: outer)->∃sl,h'.get? b=some {o with slots:=sl})->Lies h₀ H h' e cls->fm P w H h'->Q () {s with heap:=h'}) :
  wpAny M A (leaving env (.ref e)) Q E' s:=by
 obtain⟨fr,nw,T0,rc,hHT,hnT⟩:=Ly
 obtain⟨oe,vs,oT,ts,he,hc,hdd,hd,h1,hTe,hT,hdT,h3⟩:=id rc
 have tF:T0∉b8 (env :: outer):=fun z=>by
  obtain⟨_,o,q,n⟩:=hfn.mem z
  rw[hT] at q;cases q;exact n _ hdT
 unfold leaving
 refine wpAny_bind (kL hfr hfn hf rc fun h4 T kp sl tn rc4=>i8 rc4 fun h5 kp5 rc5=>?_)
 have nT:∀b o,s.heap.get? b=some o->b≠T0->b≠T:=fun b o q n z=>by
  rcases tn with tn |tn
  ·rw[z,tn] at q;cases q
  ·exact n (z.trans tn)
 have kept:∀b o,s.heap.get? b=some o->b∉b8 (env :: outer)->((∃o0,h₀.get? b=some o0)\/∃u,H b=some u)->h5.get? b=some o:=fun b o q hb hor=>by
  have be:b≠e:=fun z=>by subst z;rcases hor with⟨_,z⟩ | ⟨_,z⟩ <;> simp_all
  have bT:b≠T0:=fun z=>by subst z;rcases hor with⟨_,z⟩ | ⟨_,z⟩ <;> simp_all
  exact kp5 b o (kp b o q hb (by simp[be,bT])) (by simp) (by simp[nT b o q bT])
 have slot:∀b o,s.heap.get? b=some o->b∈b8 (env :: outer)->∃sl,h5.get? b=some {o with slots:=sl}:=fun b o q hb=>by
  obtain⟨x,q4⟩:=sl b o q hb
  exact⟨x,kp5 b _ q4 (by simp) (by simp[nT b o q fun z=>tF (z▸hb)])⟩
 have fresh:H T=none/\h₀.get? T=none:=by
  rcases tn with tn |tn
  ·refine⟨?_,?_⟩
   ·cases q:H T with
    |none=>rfl
    |some u=>obtain⟨o,qo⟩:=(hok T u q).there;rw[tn] at qo;cases qo
   ·cases q:h₀.get? T with
    |none=>rfl
    |some u=>obtain⟨o,qo⟩:=hex T u q;rw[tn] at qo;cases qo
  ·rw[tn];exact⟨hHT,hnT⟩
 refine hQ h5 kept slot ⟨fr,nw,T,rc5,fresh.1,fresh.2⟩ (ie hok fun b o q hu=>kept b o q (fun z=>?_) (.inr hu))
 obtain⟨u,hu⟩:=hu
 rw[hff b z] at hu;cases hu
theorem pR {h:Heap}{args:List Value}(hfr:A.frames=some (env :: outer))(hf:env.frame=some L)(hfn:h.FunFrames base (env :: outer))(hok:fm P w H h)(hff:∀b∈b8 (env :: outer),H b=none)(hex:∀b o,h₀.get? b=some o->∃o',h.get? b=some o')(hx:Heap.MadeExcOf h s.heap e cls args)
  (hQ:∀h',(∀b o,h.get? b=some o->b∉b8 (env :: outer)->h'.get? b=some o)->(∀b o,h.get? b=some o->b∈b8 (env :: outer)->∃sl,h'.get? b=some {o with slots:=sl})->Lies h₀ H h' e cls->fm P w H h'->Q () {s with heap:=h'}) :
  wpAny M A (leaving env (.ref e)) Q E' s:=by
 obtain⟨t,he,_,_⟩:=hx.there
 unfold leaving
 refine wpAny_bind (pe (cls:=cls) hfr (hfn.of_keeps fun b o q _=>⟨o,hx.keeps b o q,rfl⟩) hf he rfl rfl rfl rfl fun h4 T kp sl tn rc4=>i8 rc4 fun h5 kp5 rc5=>?_)
 have ne:∀b o,h.get? b=some o->b≠e:=fun b o q z=>by rw[z,hx.new] at q;cases q
 have nT:∀b o,h.get? b=some o->b≠T:=fun b o q z=>by
  have:=hx.keeps b o q
  rw[z,tn] at this;cases this
 have kept:∀b o,h.get? b=some o->b∉b8 (env :: outer)->h5.get? b=some o:=fun b o q hb=>kp5 b o (kp b o (hx.keeps b o q) hb (by simp[ne b o q])) (by simp) (by simp[nT b o q])
 have slot:∀b o,h.get? b=some o->b∈b8 (env :: outer)->∃sl,h5.get? b=some {o with slots:=sl}:=fun b o q hb=>by
  obtain⟨x,q4⟩:=sl b o (hx.keeps b o q) hb
  exact⟨x,kp5 b _ q4 (by simp) (by simp[nT b o q])⟩
 have fresh:∀{b:Addr},h.get? b=none->H b=none/\h₀.get? b=none:=fun {b} hb=>by
  refine⟨?_,?_⟩
  ·cases q:H b with
   |none=>rfl
   |some u=>obtain⟨o,qo⟩:=(hok b u q).there;rw[hb] at qo;cases qo
  ·cases q:h₀.get? b with
   |none=>rfl
   |some u=>obtain⟨o,qo⟩:=hex b u q;rw[hb] at qo;cases qo
 have no:h.get? T=none:=by
  cases q:h.get? T with
  |none=>rfl
  |some o=>exact absurd rfl (nT T o q)
 obtain⟨f1,f2⟩:=fresh hx.new
 obtain⟨g1,g2⟩:=fresh no
 refine hQ h5 kept slot ⟨f1,f2,T,rc5,g1,g2⟩ (ie hok fun b o q hu=>kept b o q fun z=>?_)
 obtain⟨u,hu⟩:=hu
 rw[hff b z] at hu;cases hu
end
section
variable {P:Program}{w:World}{K:PySem.W.Frag}{mg:Str->Option Value}{base:Heap}{N:List Str}{qual:Str}{scope:Scope}{f:Addr}{cd:Value}{A:Around}{outer:List Env}{s0:Shared}{H0:Hp}{E:XK}
theorem bq:Passes (ir P w) (fE (ir P w) P w K mg base N qual scope f cd A outer s0 H0 E) E:=by
 intro pins σ H s e s' I hcx
 obtain⟨ea,cls,H',rfl,os,bare,un,hok,Ly,q⟩:=hcx
 have I':=I.call' os un hok bare (fun b hb=>absurd hb (by simp))
 have old:∀{b:Addr},s.heap.get? b=none->s0.heap.get? b=none:=fun {b} hb=>by
  cases z:s0.heap.get? b with
  |none=>rfl
  |some o=>obtain⟨o',z'⟩:=I.base.there b o z (show b∉([]:List Addr) by simp);rw[hb] at z';cases z'
 have Ly0:Lies s0.heap H' s'.heap ea cls:=by
  obtain⟨fr,nw,T,rc,hHT,hnT⟩:=Ly
  exact⟨fr,old nw,T,rc,hHT,old hnT⟩
 have above:s0.heap.objs.size<=(envOfC qual scope s0.heap.objs.size f cd).locals:=I.ok.above
 refine uk (base:=base) (h₀:=s0.heap) I'.ok.frames rfl I'.stack I'.hok I'.stkFree Ly0 (fun b o z=>I'.base.there b o z (show b∉([]:List Addr) by simp)) fun h' kept slot Ly' hok'=>?_
 have nL:∀{b:Addr} {o:Obj},s0.heap.get? b=some o->b∉b8 outer->b∉b8 (envOfC qual scope s0.heap.objs.size f cd :: outer):=fun {b o} z hb hm=>by
  rcases List.mem_cons.mp (I'.stkSub b hm) with e |e
  ·have:=Heap.lt_size z
   rw[e] at this
   exact absurd (Nat.lt_of_lt_of_le this above) (Nat.lt_irrefl _)
  ·exact hb e
 have inn:∀{b:Addr},b∈b8 outer->b∈b8 (envOfC qual scope s0.heap.objs.size f cd :: outer):=fun {b} hb=>by
  obtain⟨en,h1,h2⟩:=List.mem_filterMap.mp hb
  exact List.mem_filterMap.mpr ⟨en,List.mem_cons_of_mem _ h1,h2⟩
 refine⟨ea,cls,H',rfl,os.trans I.os,bare,⟨fun b o z n hb _=>?_,fun b o z n hb _=>?_,fun b o z n _=>I'.base.free b o z n (show b∉([]:List Addr) by simp),fun b o z _=>?_,I'.base.tups,I'.base.frzs,I'.base.tbls⟩,hok',Ly',q⟩
 ·exact kept b o (I'.base.keep b o z n hb (show b∉([]:List Addr) by simp)) (nL z hb) (.inl ⟨o,z⟩)
 ·obtain⟨sl,z1⟩:=I'.base.slot b o z n hb (show b∉([]:List Addr) by simp)
  obtain⟨sl2,z2⟩:=slot b _ z1 (inn hb)
  exact⟨sl2,z2⟩
 ·obtain⟨o',z1⟩:=I'.base.there b o z (show b∉([]:List Addr) by simp)
  by_cases hb:b∈b8 (envOfC qual scope s0.heap.objs.size f cd :: outer)
  ·obtain⟨sl,z2⟩:=slot b o' z1 hb
   exact⟨_,z2⟩
  ·exact⟨o',kept b o' z1 hb (.inl ⟨o,z⟩)⟩
def zN (C:Addr)(E:XK)(t:TA):TS:=fun _ σ H=>t σ H fun vs H1=>vs.length<=sizeLine/\E (.ref C) none H1
theorem vN {x:Str}{C:Addr}{np cpos pos:Pos}{e0:Expr}{es:List Expr}{t:TA}{Bn newId initId:String}{bmB:List Value}(FB:ExcBaseFacts Bn newId initId bmB)(hbb:bmB.contains (.type "BaseException")=true)(q:PySem.W.excIn K C bmB newId=true)
  (hg:Gl (fE (ir P w) P w K mg base N qual scope f cd A outer s0 H0 E) x) (hm:mg x=some (.ref C)) (ha:PA (fE (ir P w) P w K mg base N qual scope f cd A outer s0 H0 E) (e0 :: es) t)
  (he:starEach (e0 :: es) (envOfC qual scope s0.heap.objs.size f cd)=(false,eval e0 (envOfC qual scope s0.heap.objs.size f cd)) :: starEach es (envOfC qual scope s0.heap.objs.size f cd):=by rfl)
  (hpl:(backTo cpos (starEach es (envOfC qual scope s0.heap.objs.size f cd))).any (·.1)=false:=by rfl) (hdb:(x == ("__debug__":Str))=false:=by decide) :
  PS (fE (ir P w) P w K mg base N qual scope f cd A outer s0 H0 E) (.Raise (some (.Call (.Name x np) (e0 :: es) [] cpos)) none pos) (zN C E t):=by
 intro pins s σ H D I h
 have own:∀{hh:Heap},K.In hh->∃bm Nn nm qn bs hdct sn sub ab col dd k0 k1 k2 k3 k5 mN,hh.get? C=some (excClassObj nm qn C Nn bs bm hdct sn sub ab col dd k0 k1 k2 k3 k5 newId)/\hh.Ns Nn mN/\mN "__init__"=none/\OwnTail hh bmB bm:=fun {hh} X=>by
  have q:=q
  unfold PySem.W.excIn at q
  split at q
  ·rename_i dd cdd sl ho
   split at q
   ·rename_i C' bm k0 k1 k2 k3 n k5 hm hs
    simp only[Bool.and_eq_true,beq_iff_eq,Bool.not_eq_true'] at q
    obtain⟨⟨⟨⟨⟨rfl,rfl⟩,hdel⟩,ht⟩,hok⟩,hni⟩:=q
    obtain⟨nm,bs,mro,ns,qn,hd,sn,sub,ab,col,del⟩:=cdd
    dsimp only at hm hdel hok hni
    subst hm hdel
    have hsl:sl=#[k0,k1,k2,k3,some (.builtin n),k5]:=by
     obtain⟨l⟩:=sl
     simp only at hs
     rw[hs]
    subst hsl
    exact⟨bm,ns,nm,qn,bs,hd,sn,sub,ab,col,dd,k0,k1,k2,k3,k5,_,X _ _ ho,.of_isNs (PySem.W.isNs_of_in X hok),PySem.W.nsMap_none_of_in X hok hni,PySem.W.tail_of_in X ht⟩
   ·cases q
  ·cases q
 obtain⟨bm,Nn,nm,qn,bs,hdct,sn,sub,ab,col,dd,k0,k1,k2,k3,k5,mN,hC,hN,hni,TL⟩:=own I.ok.mod.kin
 have hA:=ha cpos pins s σ H _ I h
 refine wpAny_Raise_call_subT (C:=C) (nm:=nm) (q:=qn) (N:=Nn) (bs:=bs) (bm:=bm) (hdct:=hdct) (sn:=sn) (sub:=sub) (ab:=ab) (col:=col) (dd:=dd) (k0:=k0) (k1:=k1) (k2:=k2) (k3:=k3) (k5:=k5) FB (mN:=mN) (TL.hasType hbb) (I.ok.hd rfl) ?_ hni (ig I hg hm ⟨rfl,?_⟩ hdb)
 ·show (backTo cpos (starEach (e0 :: es) (envOfC qual scope s0.heap.objs.size f cd))).any (·.1)=false
  rw[he]
  show (false || (backTo cpos (starEach es (envOfC qual scope s0.heap.objs.size f cd))).any (·.1))=false
  rw[hpl];rfl
 have hA:wpAny _ _ (spliced (backTo cpos (starEach (e0 :: es) (envOfC qual scope s0.heap.objs.size f cd)))) _ _ s:=hA
 show wpAny _ _ (evalArgs (.ref C) true (backTo cpos (starEach (e0 :: es) (envOfC qual scope s0.heap.objs.size f cd))) []) _ _ s
 rw[he] at hA ⊢
 refine Calls.evalArgs_plain (bb hA fun us s2 ⟨vs,H2,I2,r2,hl2,q2⟩=>⟨rfl,by show us.length<=_;rw[<-r2.length];exact hl2,I2.bk _ _ hC,hN.keeps I2.bk,TL.keeps I2.bk,fun h' e hx=>?_⟩)
 have above:s0.heap.objs.size<=(envOfC qual scope s0.heap.objs.size f cd).locals:=I2.ok.above
 have nil:∀b:Addr,b∉([]:List Addr):=fun b=>by simp
 refine pR (s:={s2 with heap:=h'}) (h:=s2.heap) (base:=base) (h₀:=s0.heap) I2.ok.frames rfl I2.stack I2.hok I2.stkFree (fun b o z=>I2.base.there b o z (nil b)) hx fun h2 kept slot Ly hok=>?_
 have nL:∀{b:Addr} {o:Obj},s0.heap.get? b=some o->b∉b8 outer->b∉b8 (envOfC qual scope s0.heap.objs.size f cd :: outer):=fun {b o} z hb hm=>by
  rcases List.mem_cons.mp (I2.stkSub b hm) with e |e
  ·have:=Heap.lt_size z
   rw[e] at this
   exact absurd (Nat.lt_of_lt_of_le this above) (Nat.lt_irrefl _)
  ·exact hb e
 have inn:∀{b:Addr},b∈b8 outer->b∈b8 (envOfC qual scope s0.heap.objs.size f cd :: outer):=fun {b} hb=>by
  obtain⟨en,h1,h2⟩:=List.mem_filterMap.mp hb
  exact List.mem_filterMap.mpr ⟨en,List.mem_cons_of_mem _ h1,h2⟩
 refine⟨e,.ref C,H2,rfl,I2.os,I2.bare,⟨fun b o z n hb _=>?_,fun b o z n hb _=>?_,fun b o z n _=>I2.base.free b o z n (nil b),fun b o z _=>?_,I2.base.tups,I2.base.frzs,I2.base.tbls⟩,hok,Ly,q2⟩
 ·exact kept b o (I2.base.keep b o z n hb (nil b)) (nL z hb)
 ·obtain⟨sl,z1⟩:=I2.base.slot b o z n hb (nil b)
  obtain⟨sl2,z2⟩:=slot b _ z1 (inn hb)
  exact⟨sl2,z2⟩
 ·obtain⟨o',z1⟩:=I2.base.there b o z (nil b)
  by_cases hb:b∈b8 (envOfC qual scope s0.heap.objs.size f cd :: outer)
  ·obtain⟨sl,z2⟩:=slot b o' z1 hb
   exact⟨_,z2⟩
  ·exact⟨o',kept b o' z1 hb⟩
end
end L2

end

section
namespace L2
open PySem PySem.Spec PyProof.Rows
section
variable {X:Cx}{pins:List (Addr×Obj)}{σ:St}{H:Hp}{s:Shared}{h':Heap}{e T:Addr}{oe oT:Obj}{vs ts:Array Value}
theorem Inv.exc {tk:Nat}(I:Inv X pins σ H s)(hex:X.ex= [])(he:s.heap.get? e=some oe)(hd:oe.data=.fields vs)(hT:s.heap.get? T=some oT)(hdT:oT.data=.fields ts)(n1:X.s₀.heap.get? e=none)(n2:X.s₀.heap.get? T=none)(pn:∀p∈X.pn ++ pins,p.1≠e/\p.1≠T)
  (kept:∀b o,s.heap.get? b=some o->b∉b8 X.stack->b≠e->b≠T->h'.get? b=some o) (slot:∀b o,s.heap.get? b=some o->b∈b8 X.stack->∃sl,h'.get? b=some {o with slots:=sl}) (hok:fm X.prog X.w H h') :
  Inv X pins σ H {s with heap:=h',toks:=tk}:=by
 have nil:∀b:Addr,b∉X.ex:=fun b=>by rw[hex];simp
 have any:∀b o,s.heap.get? b=some o->(∀ws,o.data≠.fields ws)->∃sl,h'.get? b=some {o with slots:=sl}:=fun b o q n=>by
  by_cases hb:b∈b8 X.stack
  ·exact slot b o q hb
  ·refine⟨o.slots,kept b o q hb (fun z=>?_) fun z=>?_⟩
   ·rw[z,he] at q;cases q;exact n _ hd
   ·rw[z,hT] at q;cases q;exact n _ hdT
 have cellK:∀{c:Addr} {v:Option Value},s.heap.IsCell c v->h'.IsCell c v:=fun {c v} ⟨o,ho,hdc⟩=>by
  obtain⟨sl,q⟩:=any c o ho fun ws z=>by rw[hdc] at z;cases z
  exact⟨_,q,hdc⟩
 have nsub:∀{b:Addr},b≠X.env.locals->b∉X.fs->b∉b8 X.stack:=fun {b} h1 h2 hb=>(List.mem_cons.mp (I.stkSub b hb)).elim h1 h2
 have neL:∀b o,X.s₀.heap.get? b=some o->b≠X.env.locals:=fun b o q=>Nat.ne_of_lt (Nat.lt_of_lt_of_le (Heap.lt_size q) I.ok.above)
 have ne2:∀b o,X.s₀.heap.get? b=some o->b≠e/\b≠T:=fun b o q=>⟨fun z=>by (rw[z,n1] at q;cases q),fun z=>by (rw[z,n2] at q;cases q)⟩
 refine⟨I.ok,I.os,I.bare,⟨fun b o q n hb hx=>?_,fun b o q n hb hx=>?_,I.base.free,fun b o q hx=>?_,I.base.tups,I.base.frzs,I.base.tbls⟩,?_,fun x c q=>?_,I.free,I.freeC,fun p hp=>?_,hok,I.len⟩
 ·exact kept b o (I.base.keep b o q n hb hx) (nsub (neL b o q) hb) (ne2 b o q).1 (ne2 b o q).2
 ·obtain⟨sl,q1⟩:=I.base.slot b o q n hb hx
  by_cases hs:b∈b8 X.stack
  ·obtain⟨sl2,q2⟩:=slot b _ q1 hs
   exact⟨sl2,q2⟩
  ·exact⟨sl,kept b _ q1 hs (ne2 b o q).1 (ne2 b o q).2⟩
 ·obtain⟨o',q1⟩:=I.base.there b o q hx
  by_cases hs:b∈b8 X.stack
  ·obtain⟨sl2,q2⟩:=slot b _ q1 hs
   exact⟨_,q2⟩
  ·exact⟨o',kept b _ q1 hs (ne2 b o q).1 (ne2 b o q).2⟩
 ·obtain⟨m,⟨o,es,ep,ho,hdd,r⟩,hl⟩:=I.loc
  obtain⟨sl,q⟩:=any _ o ho fun ws z=>by rw[hdd] at z;cases z
  refine⟨m,⟨_,es,ep,q,hdd,r⟩,fun i x v e1 e2 e3=>?_⟩
  obtain⟨u,r',l⟩:=hl i x v e1 e2 e3
  refine⟨u,r',?_⟩
  rcases l with l | ⟨k,c,q,z⟩
  ·exact .inl l
  ·exact .inr ⟨k,c,q,cellK z⟩
 ·obtain⟨v,z⟩:=I.cell x c q
  exact⟨v,cellK z⟩
 ·obtain⟨q,n,ne,nf,d⟩:=I.pin p hp
  exact⟨kept p.1 p.2 q (nsub ne nf) (pn p hp).1 (pn p hp).2,n,ne,nf,d⟩
def dW (e:Addr)(cls:Value)(h:Heap):Prop:=∃o vs,h.get? e=some o/\o.cls=cls/\o.dict=none/\o.data=.fields vs
theorem Rc.isExc {h:Heap}{e T:Addr}{cls fl:Value}(r:Rc h e cls T fl):dW e cls h:=let ⟨oe,vs,_,_,a,b,c,d,_⟩:=r;⟨oe,vs,a,b,c,d⟩
theorem Inv.track {cls:Value}(I:Inv X pins σ H s)(he:dW e cls s.heap)(hn:H e=none)(n1:X.s₀.heap.get? e=none)(hL:e≠X.env.locals)(hc:∀x c,X.env.cells.lookup x=some c->c≠e)(pn:∀p∈X.pn ++ pins,p.1≠e) :
  Inv X pins σ (upd H e (.ext (dW e cls))) s:=by
 have un:∀{b:Addr},b≠e->upd H e (.ext (dW e cls)) b=H b:=fun {b} z=>aq z
 have keepT:∀{b:Addr} {o:HO},H b=some o->upd H e (.ext (dW e cls)) b=some o:=fun {b o} q=>by rw[un (aE q hn)];exact q
 refine⟨I.ok,I.os,I.bare,⟨I.base.keep,I.base.slot,fun b o q n hx=>?_,I.base.there,fun b xs q=>keepT (I.base.tups b xs q),fun b o u q=>keepT (I.base.frzs b o u q),fun b ps q=>?_⟩,I.loc,I.cell,?_,fun x c q=>?_,fun p hp=>?_,fun a o ha=>?_,I.len⟩
 ·rw[un (fun z=>by rw[z,n1] at q;cases q)];exact I.base.free b o q n hx
 ·obtain⟨m,q1⟩:=I.base.tbls b ps q
  exact⟨m,keepT q1⟩
 ·rw[un hL.symm];exact I.free
 ·rw[un (hc x c q)];exact I.freeC x c q
 ·obtain⟨q,n,ne,nf,d⟩:=I.pin p hp
  exact⟨q,by rw[un (pn p hp)];exact n,ne,nf,d⟩
 ·by_cases z:a=e
  ·subst z
   rw[ai] at ha
   cases ha
   obtain⟨o,vs,q,c⟩:=he
   exact⟨⟨o,vs,q,c⟩,⟨o,q⟩,fun h1 h2 ⟨o1,v1,q1,c1⟩ k=>⟨o1,v1,k o1 q1,c1⟩⟩
  ·rw[un z] at ha
   exact (I.hok a o ha).stay (fun b u _ q=>q) (fun b q=>keepT q) fun b xs q=>keepT q
theorem rT {M:Model}{A:Around}{E:Value->Shared->Prop}{i:Nat}{x:Str}{v:V}{Q:Unit->Shared->Prop}(I:Inv X pins σ H s)(hN:X.N.Nodup)(hi:X.N[i]? =some x)(hk:X.env.scope.names.lookup x=some .local)(hv:σ[i]? =some (some v))
  (h:∀s',Inv X pins (σ.set i none) H s'->Q () s'):wpAny M A (unbindName X.env x) Q E s:=by
 obtain⟨m,hn,hl⟩:=id I.loc
 have hcls:(X.env.scope.kind == .class || (X.env.scope.kind == .module && X.env.locals != X.env.globals))=false:=by rw[I.ok.kind];rfl
 obtain⟨u,_,look⟩:=hl i x v hi hv (.inl hk)
 have hm:m x=some u:=by
  rcases look with⟨_,q⟩ | ⟨k,_⟩
  ·exact q
  ·have hk':X.env.kindOf x=some .local:=hk
   rw[hk'] at k
   rcases k with k |k <;> cases k
 refine wpAny_unbindName_local hk hn hm hcls fun h' u' hn' hs=>?_
 obtain⟨oL,_,_,hoL,_⟩:=id hn
 have same:∀{b:Addr} {o:Obj},b≠X.env.locals->s.heap.get? b=some o->h'.get? b=some o:=fun {b o} z q=>(hs.2 b z).trans q
 have neL:∀{b:Addr} {o:Obj},X.s₀.heap.get? b=some o->b≠X.env.locals:=fun {b o} q=>Nat.ne_of_lt (Nat.lt_of_lt_of_le (Heap.lt_size q) I.ok.above)
 have hok:fm X.prog X.w H h':=ie I.hok fun b o q hu=>same (fun z=>by obtain⟨w',hw⟩:=hu;rw[z,I.free] at hw;cases hw) q
 refine h _ ⟨I.ok,I.os,I.bare,⟨fun b o q n hb hx=>same (neL q) (I.base.keep b o q n hb hx),fun b o q n hb hx=>?_,I.base.free,fun b o q hx=>?_,I.base.tups,I.base.frzs,I.base.tbls⟩,⟨_,hn',fun j y v' e1 e2 e3=>?_⟩,fun y c q=>?_,I.free,I.freeC,fun p hp=>?_,hok,by simpa using I.len⟩
 ·obtain⟨sl,q1⟩:=I.base.slot b o q n hb hx
  exact⟨sl,same (neL q) q1⟩
 ·obtain⟨o',q1⟩:=I.base.there b o q hx
  exact⟨o',same (neL q) q1⟩
 ·by_cases hj:j=i
  ·subst hj
   rw[List.getElem?_set_self (by rw[I.len];exact (List.getElem?_eq_some_iff.mp hi).1)] at e2
   cases e2
  ·rw[List.getElem?_set_ne (Ne.symm hj)] at e2
   obtain⟨u2,r',q⟩:=hl j y v' e1 e2 e3
   refine⟨u2,r',?_⟩
   rcases q with⟨k,q⟩ | ⟨k,c,q,z⟩
   ·have:y≠x:=fun z=>hj (jA hN e1 (z▸hi))
    exact .inl ⟨k,by simp[this,q]⟩
   ·exact .inr ⟨k,c,q,z.sameBut hs (I.cne y c q)⟩
 ·obtain⟨w',z⟩:=I.cell y c q
  exact⟨w',z.sameBut hs (I.cne y c q)⟩
 ·obtain⟨q,n,ne,nf,d⟩:=I.pin p hp
  exact⟨same ne q,n,ne,nf,d⟩
end
end L2

end

section
namespace L2
open PySem PySem.Spec PyProof.Rows
def pj (bmB:List Value)(newId:String)(C:Addr)(bm:List Value)(h:Heap):Prop:=∃Nn nm qn bs hdct sn sub ab col dd k0 k1 k2 k3 k5,h.get? C=some (excClassObj nm qn C Nn bs bm hdct sn sub ab col dd k0 k1 k2 k3 k5 newId)/\OwnTail h bmB bm
def mroIn (K:PySem.W.Frag)(C:Addr):List Value:=match K.lookup C with
 |some ⟨_,_,.cls cd,_⟩=>cd.mro
 |_=>[]
theorem qS {K:PySem.W.Frag}{C:Addr}{bmB:List Value}{newId:String}(q:PySem.W.excIn K C bmB newId=true):∃bm,mroIn K C=.ref C :: bm/\∀{h:Heap},K.In h->pj bmB newId C bm h:=by
 have q0:=q
 unfold PySem.W.excIn at q
 split at q
 ·rename_i dd cdd sl ho
  split at q
  ·rename_i C' bm k0 k1 k2 k3 n k5 hm hs
   simp only[Bool.and_eq_true,beq_iff_eq,Bool.not_eq_true'] at q
   obtain⟨⟨⟨⟨⟨rfl,rfl⟩,hdel⟩,ht⟩,hok⟩,hni⟩:=q
   refine⟨bm,by unfold mroIn;rw[ho];exact hm,fun {h} X=>?_⟩
   obtain⟨nm,bs,mro,ns,qn,hd,sn,sub,ab,col,del⟩:=cdd
   dsimp only at hm hdel hok hni
   subst hm hdel
   have hsl:sl=#[k0,k1,k2,k3,some (.builtin n),k5]:=by
    obtain⟨l⟩:=sl
    simp only at hs
    rw[hs]
   subst hsl
   exact⟨ns,nm,qn,bs,hd,sn,sub,ab,col,dd,k0,k1,k2,k3,k5,X _ _ ho,PySem.W.tail_of_in X ht⟩
  ·cases q
 ·cases q
theorem vK {M:Model}{A:Around}{E:Value->Shared->Prop}{s:Shared}{Q:Bool->Shared->Prop}{C D e:Addr}{oe:Obj}{bm bmD bmB bmB2:List Value}{nC nD:String}(oC:pj bmB nC C bm s.heap)(oD:pj bmB2 nD D bmD s.heap)(he:s.heap.get? e=some oe)(hcls:oe.cls=.ref C)
  (hb:bmB2.contains (.type "BaseException")=true) (hup:(Value.ref C :: bm).contains (.ref D)=true) (hq:Q true s):wpAny M A (excMatches (.ref e) (.ref D)) Q E s:=by
 obtain⟨N1,nm1,qn1,bs1,hd1,sn1,sub1,ab1,col1,dd1,a0,a1,a2,a3,a5,hC,TC⟩:=oC
 obtain⟨N2,nm2,qn2,bs2,hd2,sn2,sub2,ab2,col2,dd2,b0,b1,b2,b3,b5,hD,TD⟩:=oD
 have hcB:(Value.ref D :: bmD).contains (.type "BaseException")=true:=by rw[List.contains_cons,TD.hasType hb,Bool.or_true]
 have f:=tc_notTuple
 obtain⟨h,g,d,t,os⟩:=s
 unfold excMatches
 repeat (first
  | (with_reducible refine wpAny_loadPart_at he ?_;rw[hcls])
  |with_reducible refine wpAny_loadPart_at hD ?_
  | (with_reducible refine wpAny_isSubtype_exc hD ?_;rw[hcB])
  | (with_reducible refine wpAny_isSubtype_exc hC ?_;rw[hup])
  |wp_step)
 exact hq
def Mt (K:PySem.W.Frag)(cls:Value)(D:Addr):Prop:=∀{M:Model} {A:Around} {E:Value->Shared->Prop} {s:Shared} {Q:Bool->Shared->Prop} {e:Addr} {oe:Obj},K.In s.heap->s.heap.get? e=some oe->oe.cls=cls->Q true s->wpAny M A (excMatches (.ref e) (.ref D)) Q E s
theorem yA {K:PySem.W.Frag}{C D:Addr}{bmB bmB2:List Value}{nC nD:String}(qC:PySem.W.excIn K C bmB nC=true)(qD:PySem.W.excIn K D bmB2 nD=true)(hb:bmB2.contains (.type "BaseException")=true)(hup:(mroIn K C).contains (.ref D)=true):Mt K (.ref C) D:=by
 intro M A E s Q e oe X he hc hq
 obtain⟨bm,e1,o1⟩:=qS qC
 obtain⟨bmD,e2,o2⟩:=qS qD
 rw[e1] at hup
 exact vK (o1 X) (o2 X) he hc hb hup hq
abbrev Cx.inTry (X:Cx)(Ex:Value->Shared->Prop)(pn:List (Addr×Obj)):Cx:={X with xe:=Ex,pn:=pn}
abbrev Cx.inEx (X:Cx)(e:Addr):Cx:={X with A:=X.A.mark (some (.ref e)),calm:=false,xe:=fun _ _=>False}
section
variable {X:Cx}{pins:List (Addr×Obj)}{σ:St}{H:Hp}{s:Shared}
theorem Inv.toTry (I:Inv X pins σ H s)(Ex:Value->Shared->Prop):Inv (X.inTry Ex (X.pn ++ pins)) [] σ H s:=
 ⟨⟨I.ok.mod,I.ok.kind,I.ok.glob,I.ok.blt,I.ok.above,I.ok.inj,I.ok.has,I.ok.cab,I.ok.hd,I.ok.frames,I.ok.stk,I.ok.exf,I.ok.bs,I.ok.bsz,I.ok.noex,I.ok.exfs,I.ok.funs,I.ok.frf⟩,I.os,I.bare,I.base,I.loc,I.cell,I.free,I.freeC,fun p hp=>I.pin p (by simpa using hp),I.hok,I.len⟩
theorem Inv.ofTry {Ex:Value->Shared->Prop}{pins2:List (Addr×Obj)}(I:Inv (X.inTry Ex (X.pn ++ pins)) pins2 σ H s):Inv X pins σ H s:=
 ⟨⟨I.ok.mod,I.ok.kind,I.ok.glob,I.ok.blt,I.ok.above,I.ok.inj,I.ok.has,I.ok.cab,I.ok.hd,I.ok.frames,I.ok.stk,I.ok.exf,I.ok.bs,I.ok.bsz,I.ok.noex,I.ok.exfs,I.ok.funs,I.ok.frf⟩,I.os,I.bare,I.base,I.loc,I.cell,I.free,I.freeC,fun p hp=>I.pin p (List.mem_append_left _ hp),I.hok,I.len⟩
theorem Inv.toEx (I:Inv X pins σ H s)(e:Addr):Inv (X.inEx e) pins σ H s:=
 ⟨⟨I.ok.mod,I.ok.kind,I.ok.glob,I.ok.blt,I.ok.above,I.ok.inj,I.ok.has,I.ok.cab,fun z=>absurd z Bool.false_ne_true,I.ok.frames,I.ok.stk,I.ok.exf,I.ok.bs,I.ok.bsz,I.ok.noex,I.ok.exfs,I.ok.funs,I.ok.frf⟩,I.os,I.bare,I.base,I.loc,I.cell,I.free,I.freeC,I.pin,I.hok,I.len⟩
theorem Inv.ofEx {e:Addr}(ok:X.Ok)(I:Inv (X.inEx e) pins σ H s):Inv X pins σ H s:=
 ⟨ok,I.os,I.bare,I.base,I.loc,I.cell,I.free,I.freeC,I.pin,I.hok,I.len⟩
theorem SP.ofTry {Ex:Value->Shared->Prop}{D:Ends}{f:Flow}{s':Shared}(h:SP (X.inTry Ex (X.pn ++ pins)) [] D f s'):SP X pins D f s':=by
 cases f with
 |next=>obtain⟨σ',H',I,q⟩:=h;exact⟨σ',H',I.ofTry,q⟩
 |brk=>obtain⟨σ',H',I,q⟩:=h;exact⟨σ',H',I.ofTry,q⟩
 |cont=>obtain⟨σ',H',I,q⟩:=h;exact⟨σ',H',I.ofTry,q⟩
 |ret u=>obtain⟨v,σ',H',I,r,q⟩:=h;exact⟨v,σ',H',I.ofTry,r,q⟩
end
def yC (i:Nat)(D:Ends):Ends:={nx:=fun σ H=>D.nx ((σ.set i (some .non)).set i none) H,rt:=D.rt,bk:=fun σ H=>D.bk ((σ.set i (some .non)).set i none) H,ct:=fun σ H=>D.ct ((σ.set i (some .non)).set i none) H}
def C8 (K:PySem.W.Frag)(Dc:Addr)(i len:Nat)(tb:XK->TS)(th:Addr->TS):TS:=fun D σ H=>∃Eb:XK,tb Eb D σ H/\∀cls d H',Eb cls d H'->Mt K cls Dc/\∀(ea:Addr) (σ':St),H' ea=none->σ'.length=len->th ea (yC i D) (σ'.set i (some (.ref ea))) (upd H' ea (.ext (dW ea cls)))
section
variable {X:Cx}
theorem zW {n x:Str}{i:Nat}{Dc:Addr}{np hpos pos:Pos}{body suite:List Stmt}{b0:Stmt}{tb:XK->TS}{th:Addr->TS}(hst:X.stack=X.env :: X.outer)(hfr:X.env.frame=some X.env.locals)(hex:X.ex= [])
  (hb:∀Eb Ex pn,Passes (ir X.prog X.w) (X.inTry Ex pn) Eb->i5 (X.inTry Ex pn) body (tb Eb)) (hs:∀e,i5 (X.inEx e) (b0 :: suite) (th e)) (hg:Gl X x) (hm:X.mg x=some (.ref Dc)) (hN:X.N.Nodup) (hi:X.N[i]? =some n) (hk:X.env.scope.names.lookup n=some .local)
  (hdb:(x == ("__debug__":Str))=false:=by decide) :
  PS X (.Try body [.ExceptHandler (some (.Name x np)) (some n) (b0 :: suite) hpos] [] [] pos) (C8 X.K Dc i X.N.length tb th):=by
 intro pins s σ H D I h
 obtain⟨Eb,h1,h2⟩:=h
 refine wpAny_Try_except ?_
 refine wpAny_mono (hb Eb (fun e s₁=>wpAny (model X.prog X.w) X.A (noteFrame e X.env) (fun _ s₂=>wpAny (model X.prog X.w) X.A (setFlight e none) (fun _ s₃=>wpAny (model X.prog X.w) X.A (handleBy e X.env [.ExceptHandler (some (.Name x np)) (some n) (b0 :: suite) hpos]) (SP X pins D) X.xe s₃) X.xe s₂) X.xe s₁) (X.pn ++ pins) ?_ [] s σ H D (I.toTry _) h1) (fun f s1 q=>?_) fun e s1 q=>q
 ·intro pins2 σ2 H2 s2 e s3 I2 hcx
  obtain⟨ea,cls,H',rfl,os,bare,un,hok,Ly,q⟩:=hcx
  have I3:Inv X pins σ2 H' s3:=(I2.call' os un hok bare (fun b hb=>absurd hb (by simp))).ofTry
  have I2':Inv X pins σ2 H2 s2:=I2.ofTry
  have nil:∀b:Addr,b∉X.ex:=fun b=>by rw[hex];simp
  obtain⟨mt,hth⟩:=h2 cls none H' q
  obtain⟨fr,nw,T,rc,hHT,hnT⟩:=Ly
  obtain⟨oe,vs,oT,ts,he,hc,hdd,hd,hv1,hTe,hT,hdT,hv3⟩:=id rc
  have old:∀{b:Addr},s2.heap.get? b=none->X.s₀.heap.get? b=none:=fun {b} hb=>by
   cases z:X.s₀.heap.get? b with
   |none=>rfl
   |some o=>obtain⟨o',z'⟩:=I2'.base.there b o z (nil b);rw[hb] at z';cases z'
  have hpn:∀p∈X.pn ++ pins,p.1≠ea/\p.1≠T:=fun p hp=>by
   have:=(I2'.pin p hp).1
   exact⟨fun z=>by (rw[z,nw] at this;cases this),fun z=>by (rw[z,hnT] at this;cases this)⟩
  have hfn:=I3.stack
  have mem:∀{b:Addr},b∈b8 X.stack->∃o,s3.heap.get? b=some o/\∀ws,o.data≠.fields ws:=fun {b} hb=>(hfn.mem hb).2
  have tF:T∉b8 X.stack:=fun z=>by
   obtain⟨o,q,n⟩:=mem z
   rw[hT] at q;cases q;exact n _ hdT
  have hfn':s3.heap.FunFrames X.base (X.env :: X.outer):=by rw[<-hst];exact hfn
  have step:∀{h':Heap} {tk:Nat},Keeps (b8 X.stack) [ea,T] s3.heap h'->Slots (b8 X.stack) s3.heap h'->Inv X pins σ2 H' {s3 with heap:=h',toks:=tk}:=fun {h' tk} kp sl=>by
   have kept:∀b o,s3.heap.get? b=some o->b∉b8 X.stack->b≠ea->b≠T->h'.get? b=some o:=fun b o q hb n1 n2=>kp b o q hb (by simp[n1,n2])
   refine I3.exc hex he hd hT hdT (old nw) (old hnT) hpn kept sl (ie I3.hok fun b o q hu=>?_)
   obtain⟨u,hu⟩:=hu
   refine kept b o q (fun z=>?_) (fun z=>?_) fun z=>?_
   ·rw[I3.stkFree b z] at hu;cases hu
   ·rw[z,fr] at hu;cases hu
   ·rw[z,hHT] at hu;cases hu
  have hfr':X.A.frames=some (X.env :: X.outer):=by rw[<-hst];exact I3.ok.frames
  have more:∀{h4 h5:Heap} {T2:Addr},(s3.heap.get? T2=none\/T2=T)->Keeps [] [T2] h4 h5->Keeps (b8 X.stack) [ea,T] s3.heap h4->Slots (b8 X.stack) s3.heap h4->Keeps (b8 X.stack) [ea,T] s3.heap h5/\Slots (b8 X.stack) s3.heap h5:=fun {h4 h5 T2} tn k5 kp sl=>by
   have nT:∀b o,s3.heap.get? b=some o->b≠T->b≠T2:=fun b o q n z=>by
    rcases tn with tn |tn
    ·rw[z,tn] at q;cases q
    ·exact n (z.trans tn)
   refine⟨fun b o q hb hn=>k5 b o (kp b o q hb hn) (by simp) ?_,fun b o q hb=>?_⟩
   ·simp only[List.mem_cons,List.not_mem_nil,or_false,not_or] at hn
    simp[nT b o q hn.2]
   ·obtain⟨x,q4⟩:=sl b o q hb
    exact⟨x,k5 b _ q4 (by simp) (by simp[nT b o q fun z=>tF (z▸hb)])⟩
  have key:∀{h5:Heap} {T2:Addr},(s3.heap.get? T2=none\/T2=T)->Rc h5 ea cls T2 .none->Keeps (b8 X.stack) [ea,T] s3.heap h5->Slots (b8 X.stack) s3.heap h5->wpAny (model X.prog X.w) X.A (handleBy (.ref ea) X.env [.ExceptHandler (some (.Name x np)) (some n) (b0 :: suite) hpos]) (SP X pins D) X.xe {s3 with heap:=h5}:=fun {h5 T2} tn rc5 kp5 sl5=>by
   have I5:Inv X pins σ2 H' {s3 with heap:=h5}:=step (tk:=s3.toks) kp5 sl5
   obtain⟨oe5,vs5,he5,hc5,_,_⟩:=rc5.isExc
   refine wpAny_handleBy_cons (codeAny_handlers_test (ig (X:=X.inEx ea) (I5.toEx ea) hg hm ?_ hdb)) (by intro q;cases q)
   refine mt I5.kIn he5 hc5 ?_
   refine codeAny_handlers_suite_as (i8 (s:={s3 with heap:=h5}) rc5 fun h6 k6 rc6=>?_)
   obtain⟨kp6,sl6⟩:=more tn k6 kp5 sl5
   have I6:Inv X pins σ2 H' {s3 with heap:=h6}:=step (tk:=s3.toks) kp6 sl6
   have eL:ea≠X.env.locals:=fun z=>by
    obtain⟨m,⟨o,es,ep,ho,hdd,r⟩,_⟩:=I3.loc
    rw[<-z,he] at ho;cases ho
    rw[hd] at hdd;cases hdd
   have eC:∀y c,X.env.cells.lookup y=some c->c≠ea:=fun y c q z=>by
    obtain⟨v,o,ho,hdd⟩:=I3.cell y c q
    rw[z,he] at ho;cases ho
    rw[hd] at hdd;cases hdd
   have I7:=I6.track (cls:=cls) rc6.isExc fr (old nw) eL eC fun p hp=>(hpn p hp).1
   refine dS I7 hN hi (.inl hk) (v:=.ref ea) rfl (fun s8 I8=>?_) (.inr hk)
   refine wpAny_mono (hs ea pins s8 _ _ (yC i D) (I8.toEx ea) (hth ea σ2 fr I3.len)) (fun f s9 q9=>?_) fun _ _ z=>z.elim
   have back:∀{σ9:St} {H9:Hp} {Q:Unit->Shared->Prop},Inv (X.inEx ea) pins σ9 H9 s9->(∀s',Inv X pins ((σ9.set i (some .non)).set i none) H9 s'->Q () s')->wpAny (model X.prog X.w) X.A (do bindName X.env n .none;unbindBehindTheSuite X.env n hpos) Q X.xe s9:=fun {σ9 H9 Q} I9 hQ=>by
    refine wpAny_bind (wpAny_bindName (dS (I9.ofEx I.ok) hN hi (.inl hk) (v:=.non) rfl (fun s10 I10=>?_) (.inr hk)))
    have hl:i < σ9.length:=by rw[I9.len];exact (List.getElem?_eq_some_iff.mp hi).1
    exact wpAny_onRaise (rT (v:=.non) I10 hN hi hk (by rw[List.getElem?_set_self hl]) hQ)
   cases f with
   |next=>obtain⟨σ9,H9,I9,q⟩:=q9;exact back I9 fun s' I'=>⟨_,H9,I',q⟩
   |brk=>obtain⟨σ9,H9,I9,q⟩:=q9;exact back I9 fun s' I'=>⟨_,H9,I',q⟩
   |cont=>obtain⟨σ9,H9,I9,q⟩:=q9;exact back I9 fun s' I'=>⟨_,H9,I',q⟩
   |ret u=>obtain⟨v,σ9,H9,I9,r,q⟩:=q9;exact back I9 fun s' I'=>⟨v,_,H9,I',r,q⟩
  refine kL hfr' hfn' hfr rc fun h4 T2 kp4 sl4 tn rc4=>i8 (s:={s3 with heap:=h4}) rc4 fun h5 k5 rc5=>?_
  rw[<-hst] at kp4 sl4
  obtain⟨kp5,sl5⟩:=more tn k5 kp4 sl4
  exact key tn rc5 kp5 sl5
 ·cases f with
  |next=>exact wpAny_execs_nil (SP.ofTry q)
  |brk=>exact SP.ofTry q
  |cont=>exact SP.ofTry q
  |ret u=>exact SP.ofTry q
end
end L2

end

section
namespace L2
open PySem PySem.Spec PyProof.Rows
structure hG (k:Nat)(A:Around):Prop where
 dp:A.depth + 3 * k + 5 < recursionLimit
 un:A.units + 16 * k + 200 < cLine
 gd:A.guards=some []
theorem bS.h {k:Nat}{A:Around}(r:bS k A):hG k A:=⟨r.dp,r.un,r.gd⟩
theorem bS.mark {k:Nat}{A:Around}(r:bS k A)(v:Option Value):hG k (A.mark v):=⟨r.dp,r.un,r.gd⟩
theorem hG.deeper {k:Nat}{A:Around}(r:hG (k + 1) A)(env:Env):hG k (A.deeper env):=
 ⟨by have:=r.dp;show A.depth + 1 + 3 * k + 5 < _;omega,by have:=r.un;show A.units + 3 + 16 * k + 200 < _;omega,r.gd⟩
structure lb (P:Program)(w:World)(K:PySem.W.Frag)(mg:Str->Option Value)(base:Heap)(CX:ot)(k:Nat)(f:Addr)(fd:FuncData)(ps:List Str)(sp:Sp):Prop where
 len:∀vs H Q E,sp vs H Q E->vs.length=ps.length
 run:∀(A:Around) (outer:List Env) (s:Shared) (H:Hp) (args:Args) (us:List Value) (vs:List V) (Q:VK) (E:XK),hG k A->oU P w K mg base A outer s H->BindsTo s fd args (ps.zip us)->Vals vs us->sp vs H Q E->
  codeAny (model P w) A (.call (.ref f) args) (CR CX outer P w H s Q E) s
abbrev qO (CX:ot)(P:Program)(w:World)(K:PySem.W.Frag)(mg:Str->Option Value)(base:Heap)(N:List Str)(qual:Str)(scope:Scope)(f:Addr)(cd:Value)(A:Around)(outer:List Env)(s:Shared)(H:Hp)(E:XK):Cx:=
 {fE CX P w K mg base N qual scope f cd A outer s H E with calm:=false}
theorem pP {CX:ot}{P:Program}{w:World}{K:PySem.W.Frag}{mg:Str->Option Value}{base:Heap}{N ps:List Str}{qual:Str}{scope:Scope}{f:Addr}{cd:Value}{A:Around}{outer:List Env}{s s1:Shared}{H:Hp}{E:XK}{us:List Value}{vs:List V}
  (S:aF N ps scope) (e0:oU P w K mg base A outer s H) (hl:vs.length=ps.length) (r:Vals vs us)
  (x:InCallC s s.heap.objs.size (bindL (envOfC qual scope s.heap.objs.size f cd).kindOf (ps.zip us) fun _=>none) (cellsFrom (s.heap.objs.size + 1) scope.names []) (bindC (envOfC qual scope s.heap.objs.size f cd).kindOf (ps.zip us) fun _=>none) s1) :
  Inv (qO CX P w K mg base N qual scope f cd A outer s H E) [] (start N vs) H s1:=by
 have e1:oU P w K mg base {A with handled:=none} outer s H:=⟨e0.frames,e0.mod,e0.bs,e0.bsz,e0.funs,e0.frf,e0.hok,e0.bare⟩
 have I:=la (CX:=CX) (E:=E) (A:={A with handled:=none}) S rfl e1 hl r x
 exact⟨⟨I.ok.mod,I.ok.kind,I.ok.glob,I.ok.blt,I.ok.above,I.ok.inj,I.ok.has,I.ok.cab,fun z=>absurd z Bool.false_ne_true,Around.frames_deeper e0.frames,I.ok.stk,I.ok.exf,I.ok.bs,I.ok.bsz,I.ok.noex,I.ok.exfs,I.ok.funs,I.ok.frf⟩,I.os,I.bare,I.base,I.loc,I.cell,I.free,I.freeC,I.pin,I.hok,I.len⟩
section
variable {P:Program}{w:World}{K:PySem.W.Frag}{mg:Str->Option Value}{base:Heap}
theorem sW.okH {x qual:Str}{st:Stmt}{f:Addr}{fd:FuncData}{N ps:List Str}{k:Nat}{sp:Sp}(F:sW K x qual st f fd)(S:aF N ps (aj st))(len:∀vs H Q E,sp vs H Q E->vs.length=ps.length)
  (hbody:∀(cdv:Value) (A:Around) (outer:List Env) (s:Shared) (H:Hp) (vs:List V) (Q:VK) (E:XK),hG k (A.deeper (envOfC qual (aj st) s.heap.objs.size f cdv))->sp vs H Q E->
   ∃t,i5 (qO uN P w K mg base N qual (aj st) f cdv A outer s H E).nox (aR st) t/\t {nx:=fun _ H'=>Q .non H',rt:=Q} (start N vs) H):lb P w K mg base uN (k + 1) f fd ps sp:=by
 obtain⟨oc,od,kV,doc,pm,an,cdv,ct,osl,rfl,lk,hcd⟩:=F.ex
 refine⟨len,fun A outer s H args us vs Q E hr e0 hb r hsp=>?_⟩
 have hl:=len _ _ _ _ hsp
 have KX:K.In s.heap:=e0.mod.kin.keeps fun b o e=>(e0.bs b o e).1
 have lim:s.heap.NoLimit:=e0.mod.nolimit.keeps fun b o e=>(e0.bs b o e).1
 have hkind:∀y∈ps.zip us,(aj st).names.lookup y.1=some .local\/((aj st).names.lookup y.1=some .cell/\((cellsFrom (s.heap.objs.size + 1) (aj st).names []).lookup y.1).isSome=true):=fun⟨n,v⟩ hy=>by
  rcases S.par n (List.of_mem_zip hy).1 with q |q
  ·exact .inl q
  ·exact .inr ⟨q,PySem.W.cellsFrom_some _ _ _ (.inl q)⟩
 have hdep:A.depth < recursionLimit:=by have:=hr.dp;omega
 refine codeAny_call_function hdep (KX _ _ lk) rfl S.co S.gen rfl (PySem.W.codeRec_of KX hcd) (hb _ _ _ _ ?_)
 refine wpAny_newFunctionEnv_cells S.kind hkind fun env he s1 x=>?_
 subst he
 refine⟨lim.keeps x.toInCall.keep,codeAny_func ?_⟩
 obtain⟨t,ht,hq⟩:=hbody cdv A outer s H vs Q E (hr.deeper _) hsp
 have I:Inv (qO uN P w K mg base N qual (aj st) f cdv A outer s H E) [] (start N vs) H s1:=pP S e0 hl r x
 refine wpAny_mono (ht.nox [] s1 (start N vs) H _ I hq) (fun fl s' hs=>?_) fun e s' hs=>hs
 have fin:∀{σ':St} {H':Hp} {v:V} {u:Value},Inv (qO uN P w K mg base N qual (aj st) f cdv A outer s H E) [] σ' H' s'->RelV v u->Q v H'->CE outer P w H s Q u s':=
  fun {σ' H' v u} J rv q=>⟨v,H',J.os,J.bare,J.base,J.hok,rv,q⟩
 cases fl with
 |ret u=>
  obtain⟨v,σ',H',J,rv,q⟩:=hs
  exact fin J rv q
 |next=>
  obtain⟨σ',H',J,q⟩:=hs
  exact fin (v:=V.non) (u:=Value.none) J rfl q
 |brk=>
  obtain⟨_,_,_,q⟩:=hs
  exact False.elim q
 |cont=>
  obtain⟨_,_,_,q⟩:=hs
  exact False.elim q
theorem sW.yb {x qual:Str}{st:Stmt}{f:Addr}{fd:FuncData}{N ps:List Str}{k:Nat}{sp:Sp}(F:sW K x qual st f fd)(S:aF N ps (aj st))(len:∀vs H Q E,sp vs H Q E->vs.length=ps.length)
  (hbody:∀(cdv:Value) (A:Around) (outer:List Env) (s:Shared) (H:Hp) (vs:List V) (Q:VK) (E:XK),bS k (A.deeper (envOfC qual (aj st) s.heap.objs.size f cdv))->sp vs H Q E->
   ∃t,i5 (fE (ir P w) P w K mg base N qual (aj st) f cdv A outer s H E) (aR st) t/\t {nx:=fun _ H'=>Q .non H',rt:=Q} (start N vs) H):fj P w K mg base (ir P w) (k + 1) f fd ps sp:=by
 obtain⟨oc,od,kV,doc,pm,an,cdv,ct,osl,rfl,lk,hcd⟩:=F.ex
 exact yw lk hcd S len fun A outer s H vs Q E hr hsp=>hbody cdv A outer s H vs Q E hr hsp
end
section
variable {X:Cx}{CX:ot}{k:Nat}{f:Addr}{fd:FuncData}{ps:List Str}{sp:Sp}{dvs:List V}{ds:List Value}{E:XK}{x:Str}{p pos:Pos}{e:Expr}{es:List Expr}{t:TA}
theorem vM (F:lb X.prog X.w X.K X.mg X.base CX k f fd ps sp)(hr:hG k X.A)(hg:Gl X x)(hm:X.mg x=some (.ref f))(hk:PySem.W.keepIn X.K (.ref f)=true)(hb:Binds X.K fd ps ds)(hd:Vals dvs ds)(hx:Passes CX X E)
  (ha:PA X (e :: es) t) (hdb:(x == ("__debug__":Str))=false:=by decide) (he:starEach (e :: es) X.env=(false,eval e X.env) :: starEach es X.env:=by rfl) (hpl:(backTo pos (starEach es X.env)).any (·.1)=false:=by rfl) :
  PE X (.Call (.Name x p) (e :: es) [] pos) (yF sp dvs E t):=by
 intro pins s σ H Q I h
 refine wpAny_Call_Name_kw (ig I hg hm ?_ hdb)
 refine PySem.W.callWith_K (h₀:=X.base) I.ok.mod.kin hk (bb (ha pos pins s σ H _ I h) fun us s1 ⟨vs,H1,I1,r,q⟩=>⟨I1.kIn,?_⟩) he hpl
 have r2:Vals (vs ++ dvs) (us ++ ds):=r.append hd
 have hl:(us ++ ds).length=ps.length:=by rw[<-r2.length];exact F.len _ _ _ _ q
 refine wpAny_call (codeAny_mono (F.run X.A X.stack s1 H1 ⟨us,[]⟩ (us ++ ds) (vs ++ dvs) Q E hr I1.env0 (hb s1 us I1.kIn hl) r2 q) fun r s' hq=>?_)
 cases r with
 |error e=>exact hx pins σ H1 s1 e s' I1 hq
 |ok fl=>
  cases fl with
  |ret u=>exact I1.after hq
  |next=>exact False.elim hq
  |brk=>exact False.elim hq
  |cont=>exact False.elim hq
end
end L2

end

section
namespace L2
open PySem PySem.Spec PyProof.Rows
section
variable {prog:Program}{w:World}{A:Around}{E:Value->Shared->Prop}{s:Shared}{K:PySem.W.Frag}{x D:Addr}{ox:Obj}
structure nq (K:PySem.W.Frag)(D:Addr):Prop where
 cl:(PySem.W.clsIn K D).isSome=true
 ga:PySem.W.findIn K (.ref D) "__getattribute__"=some (some (.builtin "BaseException.__getattribute__"))
 gn:PySem.W.findIn K (.ref D) "__getattr__"=some none
 cls:PySem.W.findIn K (.ref D) "__class__"=some (some (.builtin "object.__class__"))
 get:PySem.W.specialIn K (.builtin "object.__class__") "__get__"=some (some (.builtin "getset_descriptor.__get__"))
 tk:PySem.W.takesIn K (.builtin "object.__class__")=some true
 ob:PySem.W.mroIn K D (.type "object")=some true
 be:PySem.W.mroIn K D (.type "BaseException")=some true
theorem uB (e:nq K D):PySem.W.findObj K D none "__class__"=some (.bind (.builtin "getset_descriptor.__get__") (.builtin "object.__class__")):=by
 obtain⟨cd,hc⟩:=Option.isSome_iff_exists.mp e.cl
 unfold PySem.W.findObj
 rw[hc,Option.bind_some,e.cls,Option.bind_some]
 simp[e.get,e.tk]
theorem si {M:Model}{nameV:Value}{Q:Unit->Shared->Prop}(e:nq K D)(X:K.In s.heap)(I:PySem.W.InstAt s.heap x ox D none)(hq:Q () s):wpAny M A (checkBuiltinCall "BaseException.__getattribute__" ⟨[.ref x,nameV],[]⟩) Q E s:=by
 have hk:builtinKind "BaseException.__getattribute__"=some .slot:=by decide +kernel
 have hsp:splitId "BaseException.__getattribute__"=some ("BaseException","__getattribute__"):=by decide +kernel
 have ha:=F.args_bexc_ga (.ref x) nameV
 have L0:=I.type (M:=M)
 have L1:=PySem.W.looks_mroIn (M:=M) X e.be
 simp only[checkBuiltinCall,hk,hsp]
 obtain⟨hh,g,d,t,os⟩:=s
 refine wpAny_bind ?_
 unfold isInstance
 repeat (first
  |with_reducible refine L0.at ?_
  |with_reducible refine L1.at ?_
  |wp_step)
 exact hq
theorem xI {tk:Tok}{Q:Fin->Shared->Prop}(e:nq K D)(X:K.In s.heap)(I:PySem.W.InstAt s.heap x ox D none)(hq:Q (.done (.ret (.ref D))) s):wpAny (model prog w) A (Builtin.«object.__getattribute__» ⟨[.ref x,.str "__class__" tk],[]⟩) Q E s:=by
 have L0:=I.type (M:=model prog w)
 have L1:=PySem.W.looks_find (M:=model prog w) X I (uB e)
 obtain⟨hh,g,d,t,os⟩:=s
 repeat (any_goals (first
  |assumption
  |with_reducible refine L0.at ?_
  |with_reducible refine L1.at ?_
  |wp_step))
 exact PySem.W.class_get X I e.ob (wpAny_pure hq)
theorem zR {tk:Tok}{Q:Value->Shared->Prop}(FB:ExcAttrFacts "ValueError")(e:nq K D)(X:K.In s.heap)(I:PySem.W.InstAt s.heap x ox D none)(hq:Q (.ref D) s):wpAny (model prog w) A (getAttrBy (.ref x) (.str "__class__" tk) false) Q E s:=by
 have f3:=FB.ga.bind (.ref x)
 have hx2:(Value.builtin "BaseException.__getattribute__" == Value.builtin "object.__getattribute__")=false:=by decide +kernel
 have hx1:(onTheHeap (Value.ref D) && Value.builtin "BaseException.__getattribute__" == Value.builtin "object.__getattribute__")=false:=by rw[hx2];rfl
 have L0:=I.type (M:=model prog w)
 have L1:=PySem.W.looks_findIn (M:=model prog w) X e.ga
 have L2:=PySem.W.looks_findIn (M:=model prog w) X e.gn
 obtain⟨hh,g,d,t,os⟩:=s
 repeat (any_goals (first
  |assumption
  |with_reducible refine L0.at ?_
  |with_reducible refine L1.at ?_
  |with_reducible refine L2.at ?_
  |wp_step))
 exact codeAny_call_builtin FB.ga.plain F.entry_bexc_ga (si e X I (xI e X I (PySem.W.handed_on rfl hq)))
theorem uR {Q:Option Value->Shared->Prop}(FB:ExcAttrFacts "ValueError")(e:nq K D)(X:K.In s.heap)(I:PySem.W.InstAt s.heap x ox D none)(hq:Q (some (.ref D)) {s with toks:=s.toks + 1}):wpAny (model prog w) A (getAttr? (.ref x) "__class__") Q E s:=by
 unfold getAttr? getAttrBy?
 exact wpAny_bind (wpAny_mkText (wpAny_bind (wpAny_attempt (zR FB e X I (wpAny_pure hq)))))
theorem dW.inst {h:Heap}(i:dW x (.ref D) h):∃ox,PySem.W.InstAt h x ox D none:=by
 obtain⟨o,vs,a,b,c,d⟩:=i
 exact⟨o,a,b,by unfold PySem.W.notCls;rw[d],by rw[c];trivial⟩
theorem tx (e:nq K D):PySem.W.KitX K (.ref x) (.ref D) (dW x (.ref D)) where
 ty:=fun _ _ _ i=>let ⟨_,I⟩:=i.inst;I.type
 it:=fun _ _ X _=>by
  obtain⟨cdD,hcD⟩:=Option.isSome_iff_exists.mp e.cl
  unfold PySem.W.clsIn at hcD
  split at hcD
  ·rename_i c' d' cd' sl' ho
   intro A' Q' E' s' k q
   unfold isType loadHead
   exact wpAny_bind (wpAny_loadPart (k _ _ (X _ _ ho)) (wpAny_pure q))
  ·cases hcD
 ne:=fun h tp dd its n sl X htp=>by
  obtain⟨cdD,hcD⟩:=Option.isSome_iff_exists.mp e.cl
  refine Bool.eq_false_iff.mpr fun q=>?_
  have e:D=tp:=Value.ref.inj (beq_iff_eq.mp q)
  subst e
  unfold PySem.W.clsIn at hcD
  split at hcD
  ·rename_i c' d' cd' sl' ho
   have z:=(X _ _ ho).symm.trans htp
   cases z
  ·cases hcD
 ca:=fun X i k=>let ⟨_,I⟩:=i.inst;uR F.excAttr_ValueError e X I k
end
end L2

end

section
namespace L2
open PySem PySem.SeqAt PySem.Spec PyProof.Rows
section
variable {X:Cx}
def BH (K:PySem.W.Frag):List V->Hp->VK->Prop:=fun xs H Q=>∃(x D:Addr) (c:V) (C:Value) (b:Bool),xs= [.ref x,c]/\(∀u,RelV c u->u=C)/\H x=some (.ext (dW x (.ref D)))/\nq K D/\PySem.W.kitOne K (.ref D) C=some b/\Q (.bl b) H
theorem aL:bI X (.builtin "isinstance") (BH X.K):=by
 intro pins s σ H xs us Q I r h
 obtain⟨x,D,c,C,b,rfl,hc,hx,e,k,q⟩:=h
 obtain⟨u,v,rfl,rx,rc⟩:=vals2 r
 cases rx
 rw[hc v rc]
 obtain⟨p,_,_⟩:=(show aV X.prog X.w H s.heap x (.ext (dW x (.ref D))) from I.hok x _ hx)
 exact PySem.W.kia_one (tx e) I.kIn p k (fun z=>nomatch z) fun tk=>⟨.bl b,H,I.tok tk,rfl,q⟩
theorem gC:∀{bs:List Bool} {us:List Value},Vals (bs.map V.bl) us->us=bs.map Value.bool
 | [],_,.nil=>rfl
 |b :: bs,_,.cons r rs=>by rw[gC rs];cases r;rfl
theorem nz {bs:List Bool}(k:Bool)(A:Around)(s:Shared)(y:Value)(hy:y∈bs.map Value.bool):EqAt A s y (.bool k) (isBoolOf k y):=by
 obtain⟨b,_,rfl⟩:=List.mem_map.mp hy
 exact EqAt.bool_bool b k
theorem lK (k:Bool)(bs:List Bool):(bs.map Value.bool).countP (isBoolOf k)=bs.count k:=by
 induction bs with
 |nil=>rfl
 |cons b bs ih=>rw[List.map_cons,List.countP_cons,List.count_cons,ih];cases b <;> cases k <;> rfl
def xM (K:PySem.W.Frag):V->List V->Hp->VK->Prop:=fun x vs H Q=>∃(a:Addr) (bs:List Bool) (k:Bool),x=.ref a/\vs= [.bl k]/\fC K H a (bs.map V.bl)/\Q (.int (bs.count k:Nat)) H
theorem rC:yx X "list.count" (xM X.K):=by
 intro pins s σ H x vs v us Q I rx rv h
 obtain⟨a,bs,k,rfl,rfl,hq,q⟩:=h
 cases rx
 obtain⟨u,rfl,ru⟩:=vals1 rv
 cases ru
 obtain⟨its,rs,pl,hz⟩:=I.list hq
 have hits:=gC rs
 subst hits
 obtain⟨⟨cls,dd,data,sl⟩,ho,hc,n,hd⟩:=id pl.isList
 simp only at hc hd
 subst hc hd
 refine call_meets PySem.F.slot_list_count ⟨_,ho,rfl⟩ PySem.F.entry_list_count (PySem.F.args_list_count_2 _ _) (list_countAt a (bs.map Value.bool).toArray n dd sl (.bool k) (isBoolOf k)) ⟨ho,fun y hy=>nz k _ _ y (by simpa using hy),?_⟩
 rw[show (bs.map Value.bool).toArray.toList=bs.map Value.bool from rfl,lK]
 exact⟨.int (bs.count k:Nat),H,I.tok _,⟨_,rfl⟩,q⟩
def xu (K:PySem.W.Frag):V->List V->Hp->VK->Prop:=fun x vs H Q=>∃(a:Addr) (bs:List Bool) (k:Bool),x=.ref a/\vs= [.bl k]/\fC K H a (bs.map V.bl)/\k∈bs/\Q (.int (bs.idxOf k:Nat)) H
theorem rW:yx X "list.index" (xu X.K):=by
 intro pins s σ H x vs v us Q I rx rv h
 obtain⟨a,bs,k,rfl,rfl,hq,hk,q⟩:=h
 cases rx
 obtain⟨u,rfl,ru⟩:=vals1 rv
 cases ru
 obtain⟨its,rs,pl,hz⟩:=I.list hq
 have hits:=gC rs
 subst hits
 obtain⟨⟨cls,dd,data,sl⟩,ho,hc,n,hd⟩:=id pl.isList
 simp only at hc hd
 subst hc hd
 have hj:bs.idxOf k < bs.length:=List.idxOf_lt_length_iff.mpr hk
 have hsz:(sizeLine:Int) < 2 ^ 63 - 1:=by decide +kernel
 rw[List.length_map] at hz
 refine call_meets PySem.F.slot_list_index ⟨_,ho,rfl⟩ PySem.F.entry_list_index (PySem.F.args_list_index_2 _ _)
  (list_indexAt a (bs.map Value.bool).toArray n dd sl (.bool k) (isBoolOf k) (bs.idxOf k) (by simpa using hj) (by omega) ?_ ?_) ⟨ho,fun y hy=>nz k _ _ y (by simpa using hy),?_⟩
 ·simp[isBoolOf,List.getElem_idxOf hj]
 ·intro m hm hlt
  have hm':m < bs.length:=by simpa using hm
  have hne:bs[m]≠k:=fun z=>by
   have:=List.not_of_lt_findIdx (p:=(· == k)) hlt
   simp[z] at this
  simpa[isBoolOf] using hne
 ·exact⟨.int (bs.idxOf k:Nat),H,I.tok _,⟨_,rfl⟩,q⟩
end
end L2

end

section

end

section

end

section

end

section
namespace L2
open PySem PySem.Spec PyProof.Rows
abbrev D:=PyData
def kD:Key->D
 | .inl i=>.int i
 | .inr x=>.str x
mutual
inductive Rp (K:PySem.W.Frag)(G:Hp):V->D->Prop
 |non:Rp K G .non .none
 |bl (b:Bool):Rp K G (.bl b) (.bool b)
 |int (i:Int):Rp K G (.int i) (.int i)
 |str (x:Str):Rp K G (.str x) (.str x)
 |tup {a:Addr} {xs:List V} {ds:List D}:dq K G a xs->a9 K G xs ds->Rp K G (.ref a) (.tuple ds)
 |lst {a:Addr} {xs:List V} {ds:List D}:G a=some (.lst xs)->a9 K G xs ds->Rp K G (.ref a) (.list ds)
 |scr {a:Addr} {ns:List Int}:fC K G a (ns.map V.int)->Rp K G (.ref a) (.dict [(.none,.list (ns.map PyData.int))])
 |dK {a:Addr} {kvs:List (Key×V)} {ds:List (D×D)}:G a=some (.dK kvs)->sR K G kvs ds->Rp K G (.ref a) (.dict ds)
 |dT {a:Addr} {kvs:List (List Key×V)} {ds:List (D×D)}:G a=some (.dT kvs)->sV K G kvs ds->Rp K G (.ref a) (.dict ds)
inductive a9 (K:PySem.W.Frag)(G:Hp):List V->List D->Prop
 |nil:a9 K G [] []
 |cons {x:V} {xs:List V} {d:D} {ds:List D}:Rp K G x d->a9 K G xs ds->a9 K G (x :: xs) (d :: ds)
inductive sR (K:PySem.W.Frag)(G:Hp):List (Key×V)->List (D×D)->Prop
 |nil:sR K G [] []
 |cons {k:Key} {x:V} {xs:List (Key×V)} {d:D} {ds:List (D×D)}:Rp K G x d->sR K G xs ds->sR K G ((k,x) :: xs) ((kD k,d) :: ds)
inductive sV (K:PySem.W.Frag)(G:Hp):List (List Key×V)->List (D×D)->Prop
 |nil:sV K G [] []
 |cons {k:List Key} {x:V} {xs:List (List Key×V)} {d:D} {ds:List (D×D)}:Rp K G x d->sV K G xs ds->sV K G ((k,x) :: xs) ((.tuple (k.map kD),d) :: ds)
end
section
variable {K:PySem.W.Frag}{G G' H H':Hp}
theorem Rd.mono {a:Addr}{u:HO}(h:Rd G a u)(s:ah G G'):Rd G' a u:=h.elim (fun e=>.inl (s _ _ e)) fun⟨o,e⟩=>.inr ⟨o,s _ _ e⟩
mutual
theorem Rp.mono (s:ah G G'):∀{x:V} {d:D},Rp K G x d->Rp K G' x d
 |_,_,.non=>.non
 |_,_,.bl b=>.bl b
 |_,_,.int i=>.int i
 |_,_,.str x=>.str x
 |_,_,.tup h hs=>.tup (h.grow s.grow) (a9.mono s hs)
 |_,_,.lst h hs=>.lst (s _ _ h) (a9.mono s hs)
 |_,_,.scr h=>.scr (s.seq h)
 |_,_,.dK h hs=>.dK (s _ _ h) (sR.mono s hs)
 |_,_,.dT h hs=>.dT (s _ _ h) (sV.mono s hs)
theorem a9.mono (s:ah G G'):∀{xs:List V} {ds:List D},a9 K G xs ds->a9 K G' xs ds
 |_,_,.nil=>.nil
 |_,_,.cons h hs=>.cons (Rp.mono s h) (a9.mono s hs)
theorem sR.mono (s:ah G G'):∀{xs:List (Key×V)} {ds:List (D×D)},sR K G xs ds->sR K G' xs ds
 |_,_,.nil=>.nil
 |_,_,.cons h hs=>.cons (Rp.mono s h) (sR.mono s hs)
theorem sV.mono (s:ah G G'):∀{xs:List (List Key×V)} {ds:List (D×D)},sV K G xs ds->sV K G' xs ds
 |_,_,.nil=>.nil
 |_,_,.cons h hs=>.cons (Rp.mono s h) (sV.mono s hs)
end
theorem a9.len:∀{xs:List V} {ds:List D},a9 K G xs ds->xs.length=ds.length
 |_,_,.nil=>rfl
 |_,_,.cons _ t=>by simp[a9.len t]
theorem a9.at:∀{xs:List V} {ds:List D} {i:Nat} {d:D},a9 K G xs ds->ds[i]? =some d->∃x,xs[i]? =some x/\Rp K G x d
 |_,_,_,_,.nil,e=>by simp at e
 |_,_,0,_,.cons r _,e=>by simp at e;subst e;exact⟨_,rfl,r⟩
 |_,_,i + 1,x,.cons _ t,e=>by
  obtain⟨u,h1,h2⟩:=a9.at (i:=i) (d:=x) t (by simpa using e)
  exact⟨u,by simpa using h1,h2⟩
theorem a9.at':∀{xs:List V} {ds:List D} {i:Nat} {x:V},a9 K G xs ds->xs[i]? =some x->∃d,ds[i]? =some d/\Rp K G x d
 |_,_,_,_,.nil,e=>by simp at e
 |_,_,0,_,.cons r _,e=>by simp at e;subst e;exact⟨_,rfl,r⟩
 |_,_,i + 1,x,.cons _ t,e=>by
  obtain⟨u,h1,h2⟩:=a9.at' (i:=i) (x:=x) t (by simpa using e)
  exact⟨u,by simpa using h1,h2⟩
theorem a9.append:∀{xs ys:List V} {ds es:List D},a9 K G xs ds->a9 K G ys es->a9 K G (xs ++ ys) (ds ++ es)
 |_,_,_,_,.nil,s=>s
 |_,_,_,_,.cons r t,s=>.cons r (a9.append t s)
theorem a9.snoc {xs:List V}{ds:List D}{x:V}{d:D}(h:a9 K G xs ds)(q:Rp K G x d):a9 K G (xs ++ [x]) (ds ++ [d]):=h.append (.cons q .nil)
theorem a9.take:∀{xs:List V} {ds:List D} (n:Nat),a9 K G xs ds->a9 K G (xs.take n) (ds.take n)
 |_,_,0,_=>.nil
 |_,_,_ + 1,.nil=>.nil
 |_,_,n + 1,.cons r t=>.cons r (a9.take n t)
theorem a9.drop:∀{xs:List V} {ds:List D} (n:Nat),a9 K G xs ds->a9 K G (xs.drop n) (ds.drop n)
 |_,_,0,r=>r
 |_,_,_ + 1,.nil=>.nil
 |_,_,n + 1,.cons _ t=>a9.drop n t
theorem a9.set {x:V}{d:D}(r:Rp K G x d):∀{xs:List V} {ds:List D} (i:Nat),a9 K G xs ds->a9 K G (xs.set i x) (ds.set i d)
 |_,_,_,.nil=>.nil
 |_,_,0,.cons _ t=>.cons r t
 |_,_,i + 1,.cons q t=>.cons q (a9.set r i t)
theorem a9.rep {n:Nat}{xs:List V}{ds:List D}(h:a9 K G xs ds):a9 K G (List.replicate n xs).flatten (List.replicate n ds).flatten:=by
 induction n with
 |zero=>exact .nil
 |succ n ih=>rw[List.replicate_succ,List.replicate_succ,List.flatten_cons,List.flatten_cons];exact h.append ih
mutual
def qB:D->Bool
 | .dict _=>false
 | .list ds=>kf ds
 | .tuple ds=>kf ds
 |_=>true
def kf:List D->Bool
 | []=>true
 |d :: ds=>qB d && kf ds
end
mutual
theorem Rp.rep:∀{x:V} {d:D},Rp K G x d->qB d=true->Rep K G x d
 |_,_,.non,_=>.non
 |_,_,.bl b,_=>.bl b
 |_,_,.int i,_=>.int i
 |_,_,.str x,_=>.str x
 |_,_,.tup h hs,e=>.tup h (a9.reps hs (by simpa[qB] using e))
 |_,_,.lst h hs,e=>.lst (.inl (.inl h)) (a9.reps hs (by simpa[qB] using e))
 |_,_,.scr _,e=>by simp[qB] at e
 |_,_,.dK _ _,e=>by simp[qB] at e
 |_,_,.dT _ _,e=>by simp[qB] at e
theorem a9.reps:∀{xs:List V} {ds:List D},a9 K G xs ds->kf ds=true->fu K G xs ds
 |_,_,.nil,_=>.nil
 |_,_,.cons h hs,e=>.cons (Rp.rep h (by simp[kf] at e;exact e.1)) (a9.reps hs (by simp[kf] at e;exact e.2))
end
def Own (K:PySem.W.Frag)(G H:Hp)(a:Addr):D->Prop
 | .list ds=>∃xs,H a=some (.lst xs)/\a9 K G xs ds
 | .dict ds=>(∃kvs,H a=some (.dK kvs)/\sR K G kvs ds)\/∃kvs,H a=some (.dT kvs)/\sV K G kvs ds
 |_=>False
theorem Own.obj {a:Addr}{d:D}(h:Own K G H a d):∃o,H a=some o:=by
 cases d <;> first |exact h.elim |skip
 ·obtain⟨xs,e,_⟩:=h;exact⟨_,e⟩
 ·rcases h with⟨_,e,_⟩ | ⟨_,e,_⟩ <;> exact⟨_,e⟩
theorem Own.mono {a:Addr}{d:D}(h:Own K G H a d)(s:ah G G')(m:∀o,H a=some o->H' a=some o):Own K G' H' a d:=by
 cases d <;> first |exact h.elim |skip
 ·obtain⟨xs,e,r⟩:=h;exact⟨xs,m _ e,r.mono s⟩
 ·rcases h with⟨k,e,r⟩ | ⟨k,e,r⟩
  ·exact .inl ⟨k,m _ e,r.mono s⟩
  ·exact .inr ⟨k,m _ e,r.mono s⟩
theorem Own.rp {a:Addr}{d:D}(h:Own K G H a d)(n:G a=none){G':Hp}(s:ah G G')(e:∀o,H a=some o->G' a=some o):Rp K G' (.ref a) d:=by
 cases d <;> first |exact h.elim |skip
 ·obtain⟨xs,q,r⟩:=h;exact .lst (e _ q) (r.mono s)
 ·rcases h with⟨k,q,r⟩ | ⟨k,q,r⟩
  ·exact .dK (e _ q) (r.mono s)
  ·exact .dT (e _ q) (r.mono s)
def gX (K:PySem.W.Frag)(B:Option Addr)(G H:Hp)(v:V)(d:D):Prop:=Rp K G v d\/∃a,v=.ref a/\B≠some a/\Own K G H a d
def dh (B:Option Addr)(H H':Hp):Prop:=∀b o,H b=some o->B≠some b->H' b=some o
theorem dh.refl (B:Option Addr)(H:Hp):dh B H H:=fun _ _ h _=>h
theorem dh.trans {B:Option Addr}{H1:Hp}(x:dh B H H1)(y:dh B H1 H'):dh B H H':=fun b o h n=>y b o (x b o h n) n
theorem ah.mov (s:ah H H')(B:Option Addr):dh B H H':=fun b o h _=>s b o h
theorem gX.mono {B:Option Addr}{v:V}{d:D}(h:gX K B G H v d)(s:ah G G')(m:dh B H H'):gX K B G' H' v d:=by
 rcases h with h | ⟨a,e,n,h⟩
 ·exact .inl (h.mono s)
 ·exact .inr ⟨a,e,n,h.mono s fun o q=>m a o q n⟩
theorem gX.rpH {B:Option Addr}{v:V}{d:D}(h:gX K B G H v d)(s:ah G H):Rp K H v d:=by
 rcases h with h | ⟨a,rfl,n,h⟩
 ·exact h.mono s
 ·cases d <;> first |exact h.elim |skip
  ·obtain⟨xs,q,r⟩:=h;exact .lst q (r.mono s)
  ·rcases h with⟨k,q,r⟩ | ⟨k,q,r⟩
   ·exact .dK q (r.mono s)
   ·exact .dT q (r.mono s)
theorem gX.list {B:Option Addr}{v:V}{ds:List D}(h:gX K B G H v (.list ds))(s:ah G H):∃a xs,v=.ref a/\Rd H a (.lst xs)/\a9 K G xs ds:=by
 rcases h with h | ⟨a,rfl,n,xs,q,r⟩
 ·cases h with
  |lst h r=>exact⟨_,_,rfl,.inl (s _ _ h),r⟩
 ·exact⟨a,xs,rfl,.inl q,r⟩
theorem gX.tuple {B:Option Addr}{v:V}{ds:List D}(h:gX K B G H v (.tuple ds))(s:ah G H):∃a xs,v=.ref a/\dq K H a xs/\a9 K G xs ds:=by
 rcases h with h | ⟨a,rfl,n,h⟩
 ·cases h with
  |tup h r=>exact⟨_,_,rfl,h.grow s.grow,r⟩
 ·exact h.elim
theorem gX.int {B:Option Addr}{v:V}{i:Int}(h:gX K B G H v (.int i)):v=.int i:=by
 rcases h with h | ⟨a,rfl,n,h⟩
 ·cases h;rfl
 ·exact h.elim
theorem gX.bool {B:Option Addr}{v:V}{b:Bool}(h:gX K B G H v (.bool b)):v=.bl b:=by
 rcases h with h | ⟨a,rfl,n,h⟩
 ·cases h;rfl
 ·exact h.elim
theorem gX.str {B:Option Addr}{v:V}{x:Str}(h:gX K B G H v (.str x)):v=.str x:=by
 rcases h with h | ⟨a,rfl,n,h⟩
 ·cases h;rfl
 ·exact h.elim
theorem gX.none {B:Option Addr}{v:V}(h:gX K B G H v .none):v=.non:=by
 rcases h with h | ⟨a,rfl,n,h⟩
 ·cases h;rfl
 ·exact h.elim
end
def Fz:HO->Prop
 | .tup _=>True
 | .aC _ _=>True
 |_=>False
def Mx (H:Hp)(b:Addr):Prop:=H b≠none/\∀o,H b=some o->¬Fz o
theorem Mx.lst {H:Hp}{b:Addr}{xs:List V}(h:H b=some (.lst xs)):Mx H b:=⟨by rw[h];simp,fun ys z=>by rw[h] at z;cases z;exact fun y=>y⟩
theorem Mx.same {H H':Hp}{b:Addr}(h:Mx H b)(m:∀o,H b=some o->H' b=some o):Mx H' b:=by
 obtain⟨h1,h2⟩:=h
 cases e:H b with
 |none=>exact absurd e h1
 |some o=>
  refine⟨by rw[m o e];simp,fun xs z=>?_⟩
  rw[m o e] at z
  cases z
  exact h2 o e
theorem Own.mx {K:PySem.W.Frag}{G H:Hp}{a:Addr}{d:D}(h:Own K G H a d):Mx H a:=by
 cases d <;> first |exact h.elim |skip
 ·obtain⟨xs,e,_⟩:=h;exact Mx.lst e
 ·rcases h with⟨k,e,_⟩ | ⟨k,e,_⟩ <;> exact⟨by rw[e];simp,fun ys z=>by rw[e] at z;cases z;exact fun y=>y⟩
structure Fx where
 K:PySem.W.Frag
 H0:Hp
 G0:Hp
 par:List Addr
 ca:Str->Addr
 br:Nat->Bool
 bx:Option Addr
inductive Sl where
 |no |fz (d:D) |ow (d:D) |bx |br (d:D)
abbrev En:=List Sl
inductive Nv where
 |no |da (d:D) |bx
def Sl.val:Sl->Nv
 | .no=>.no
 | .fz d=>.da d
 | .ow d=>.da d
 | .br d=>.da d
 | .bx=>.bx
def vl (env:En):List Nv:=env.map Sl.val
def Cp (Γ:Fx)(B:Option Addr)(G H:Hp)(i:Nat)(o:Option (Option V)):Sl->Prop
 | .no=>True
 | .fz d=>∃v,o=some (some v)/\Rp Γ.K G v d
 | .ow d=>∃a,o=some (some (.ref a))/\Γ.H0 a=none/\G a=none/\B≠some a/\Own Γ.K G H a d
 | .bx=>∃a,o=some (some (.ref a))/\B=some a
 | .br d=>Γ.br i=true/\∃a,o=some (some (.ref a))/\B≠some a/\a∉Γ.par/\Own Γ.K G H a d
structure SR (Γ:Fx)(B:Option Addr)(G H:Hp)(σ:St)(env:En)(β:Int):Prop where
 sub:ah G H
 old:ah Γ.G0 G
 new:∀b,Mx Γ.H0 b->Γ.G0 b=none->G b=none
 keep:∀b o,Γ.H0 b=some o->b∉Γ.par->H b=some o
 pin:∀b,b∈Γ.par->Mx H b
 fix:∀b,Γ.bx=some b->B=some b
 box:∀b,B=some b->H b=some (.lst [.int β])/\G b=none/\(b∈Γ.par\/Γ.H0 b=none)
 len:σ.length=env.length
 slot:∀(i:Nat) (s:Sl),env[i]? =some s->Cp Γ B G H i (σ[i]?) s
 sep:∀(i j:Nat) (a:Addr) (d e:D),env[i]? =some (.ow d)->env[j]? =some (.ow e)->σ[i]? =some (some (.ref a))->σ[j]? =some (some (.ref a))->i=j
structure Ext (G H G' H':Hp):Prop where
 hh:ah H H'
 gg:ah G G'
 gh:ah G' H'
 on:∀b,Mx H b->G' b=G b
theorem Ext.refl {G H:Hp}(s:ah G H):Ext G H G H:=⟨ah.refl _,ah.refl _,s,fun _ _=>rfl⟩
theorem Ext.new {G H:Hp}(s:ah G H){p:Addr}{o:HO}(h:H p=none):Ext G H (upd G p o) (upd H p o):=by
 refine⟨ah.new h,ah.new (s.free h),fun b u e=>?_,fun b hb=>?_⟩
 ·by_cases z:b=p
  ·subst z;rw[ai] at e ⊢;exact e
  ·rw[aq z] at e ⊢;exact s b u e
 ·exact aq (fun z=>hb.1 (by rw[z];exact h))
theorem Ext.own {G H:Hp}(s:ah G H){p:Addr}{o:HO}(h:H p=none):Ext G H G (upd H p o):=
 ⟨ah.new h,ah.refl _,s.trans (ah.new h),fun _ _=>rfl⟩
theorem Ext.trans {G H G1 H1 G2 H2:Hp}(x:Ext G H G1 H1)(y:Ext G1 H1 G2 H2):Ext G H G2 H2:=by
 refine⟨x.hh.trans y.hh,x.gg.trans y.gg,y.gh,fun b hb=>?_⟩
 rw[y.on b (hb.same fun o e=>x.hh b o e),x.on b hb]
section
variable {Γ:Fx}{B:Option Addr}{G H G' H':Hp}{σ:St}{env:En}{β:Int}
theorem SR.there (I:SR Γ B G H σ env β){b:Addr}(h:Γ.H0 b≠none):H b≠none:=by
 by_cases hp:b∈Γ.par
 ·exact (I.pin b hp).1
 ·cases e:Γ.H0 b with
  |none=>exact absurd e h
  |some o=>rw[I.keep b o e hp];simp
theorem SR.thereM (I:SR Γ B G H σ env β){b:Addr}(h:Mx Γ.H0 b):Mx H b:=by
 by_cases hp:b∈Γ.par
 ·exact I.pin b hp
 ·exact h.same fun o e=>I.keep b o e hp
theorem SR.ext (I:SR Γ B G H σ env β)(x:Ext G H G' H'):SR Γ B G' H' σ env β:=by
 refine⟨x.gh,I.old.trans x.gg,fun b h1 h2=>?_,fun b o h1 h2=>x.hh b o (I.keep b o h1 h2),fun b hb=>?_,I.fix,fun b e=>?_,I.len,fun i s e=>?_,I.sep⟩
 ·rw[x.on b (I.thereM h1)];exact I.new b h1 h2
 ·exact (I.pin b hb).same fun o e=>x.hh b o e
 ·obtain⟨h1,h2,h3⟩:=I.box b e
  exact⟨x.hh b _ h1,by rw[x.on b (Mx.lst h1)];exact h2,h3⟩
 ·have q:=I.slot i s e
  cases s with
  |no=>trivial
  |fz d=>obtain⟨v,h1,h2⟩:=q;exact⟨v,h1,h2.mono x.gg⟩
  |ow d=>
   obtain⟨a,h1,h2,h3,h4,h5⟩:=q
   exact⟨a,h1,h2,by rw[x.on a h5.mx];exact h3,h4,h5.mono x.gg fun o q=>x.hh a o q⟩
  |bx=>exact q
  |br d=>obtain⟨b1,a,h1,h4,hp,h5⟩:=q;exact⟨b1,a,h1,h4,hp,h5.mono x.gg fun o q=>x.hh a o q⟩
def dU (env:En)(i:Nat):En:=match env[i]? with
 |some (.ow d)=>env.set i (.fz d)
 |_=>env
def aC (L:List Nat)(env:En):En:=L.foldl dU env
theorem aN (L M:List Nat)(env:En):aC (L ++ M) env=aC M (aC L env):=by unfold aC;rw[List.foldl_append]
theorem oQ (env:En)(i:Nat)(s:Sl)(h:∀t,env[i]? =some t->t.val=s.val):vl (env.set i s)=vl env:=by
 unfold vl
 apply List.ext_getElem?
 intro j
 rw[List.getElem?_map,List.getElem?_map,List.getElem?_set]
 by_cases e:i=j
 ·subst e
  by_cases hi:i < env.length
  ·simp only[if_true,hi]
   have:=h _ (List.getElem?_eq_getElem hi)
   simp[List.getElem?_eq_getElem hi,this]
  ·simp only[if_true,hi,if_false]
   rw[List.getElem?_eq_none (by omega)]
 ·simp[e]
theorem xt (env:En)(i:Nat):vl (dU env i)=vl env:=by
 unfold dU
 split
 ·rename_i d e
  exact oQ _ _ _ fun t ht=>by rw[e] at ht;cases ht;rfl
 ·rfl
theorem bw (L:List Nat)(env:En):vl (aC L env)=vl env:=by
 unfold aC
 induction L generalizing env with
 |nil=>rfl
 |cons i L ih=>rw[List.foldl_cons,ih,xt]
theorem yn {i:Nat}{d:D}(h:(vl env)[i]? =some (.da d)):env[i]? =some (.fz d)\/env[i]? =some (.ow d)\/env[i]? =some (.br d):=by
 unfold vl at h
 rw[List.getElem?_map] at h
 cases e:env[i]? with
 |none=>rw[e] at h;simp at h
 |some s=>
  rw[e] at h
  cases s with
  |no=>simp[Sl.val] at h
  |fz d'=>simp[Sl.val] at h;subst h;exact .inl rfl
  |ow d'=>simp[Sl.val] at h;subst h;exact .inr (.inl rfl)
  |bx=>simp[Sl.val] at h
  |br d'=>simp[Sl.val] at h;subst h;exact .inr (.inr rfl)
theorem AW {i:Nat}(h:(vl env)[i]? =some .bx):env[i]? =some .bx:=by
 unfold vl at h
 rw[List.getElem?_map] at h
 cases e:env[i]? with
 |none=>rw[e] at h;simp at h
 |some s=>
  rw[e] at h
  cases s with
  |bx=>rfl
  |_=>simp[Sl.val] at h
theorem SR.freeze (I:SR Γ B G H σ env β)(i:Nat)(hb:Γ.br i=false){d:D}(h:(vl env)[i]? =some (.da d)):∃G' v,SR Γ B G' H σ (dU env i) β/\ah G G'/\σ[i]? =some (some v)/\Rp Γ.K G' v d:=by
 rcases yn h with e |e |e
 ·obtain⟨v,h1,h2⟩:=I.slot i _ e
  exact⟨G,v,by unfold dU;rw[e];exact I,ah.refl _,h1,h2⟩
 rotate_left
 ·obtain⟨z,_⟩:=I.slot i _ e
  rw[hb] at z;cases z
 ·obtain⟨a,h1,h2,h3,h4,h5⟩:=I.slot i _ e
  obtain⟨o,ho⟩:=h5.obj
  have sG:ah G (upd G a o):=ah.new h3
  have hi:i < env.length:=(List.getElem?_eq_some_iff.mp e).1
  have hr:Rp Γ.K (upd G a o) (.ref a) d:=h5.rp h3 sG fun o' q=>by rw[ho] at q;cases q;exact ai
  refine⟨upd G a o,.ref a,?_,sG,h1,hr⟩
  unfold dU
  rw[e]
  refine⟨fun b u q=>?_,I.old.trans sG,fun b n1 n2=>?_,I.keep,I.pin,I.fix,fun b q=>?_,by rw[List.length_set];exact I.len,fun j s q=>?_,fun j k c d1 d2 q1 q2 q3 q4=>?_⟩
  ·by_cases z:b=a
   ·subst z;rw[ai] at q;cases q;exact ho
   ·rw[aq z] at q;exact I.sub b u q
  ·rw[aq (fun z=>n1.1 (by rw[z];exact h2))];exact I.new b n1 n2
  ·obtain⟨k1,k2,k3⟩:=I.box b q
   exact⟨k1,by rw[aq (fun z=>h4 (by rw[<-z];exact q))];exact k2,k3⟩
  ·by_cases z:j=i
   ·subst z
    rw[List.getElem?_set_self hi] at q
    cases q
    exact⟨.ref a,h1,hr⟩
   ·rw[List.getElem?_set_ne (Ne.symm z)] at q
    have w:=I.slot j s q
    cases s with
    |no=>trivial
    |fz d'=>obtain⟨v,w1,w2⟩:=w;exact⟨v,w1,w2.mono sG⟩
    |ow d'=>
     obtain⟨c,w1,w2,w3,w4,w5⟩:=w
     have ca:c≠a:=fun z2=>z (I.sep j i c d' d q e w1 (by rw[z2];exact h1))
     exact⟨c,w1,w2,by rw[aq ca];exact w3,w4,w5.mono sG fun o q=>q⟩
    |bx=>exact w
    |br d'=>obtain⟨b1,c,w1,w4,wp,w5⟩:=w;exact⟨b1,c,w1,w4,wp,w5.mono sG fun o q=>q⟩
  ·have ne:∀{j:Nat} {d':D},(env.set i (Sl.fz d))[j]? =some (.ow d')->env[j]? =some (.ow d'):=fun {j d'} q=>by
    by_cases z:j=i
    ·subst z;rw[List.getElem?_set_self hi] at q;cases q
    ·rw[List.getElem?_set_ne (Ne.symm z)] at q;exact q
   exact I.sep j k c d1 d2 (ne q1) (ne q2) q3 q4
theorem SR.aC (I:SR Γ B G H σ env β)(L:List Nat)(hb:∀i,i∈L->Γ.br i=false):∃G',SR Γ B G' H σ (aC L env) β/\ah G G':=by
 induction L generalizing env G with
 |nil=>exact⟨G,I,ah.refl _⟩
 |cons i L ih=>
  show ∃G',SR Γ B G' H σ (L2.aC L (dU env i)) β/\ah G G'
  have key:∃G1,SR Γ B G1 H σ (dU env i) β/\ah G G1:=by
   cases e:env[i]? with
   |none=>exact⟨G,by unfold dU;rw[e];exact I,ah.refl _⟩
   |some s=>
    cases s with
    |ow d=>
     obtain⟨G1,v,h1,h2,_⟩:=I.freeze i (hb i (List.mem_cons_self ..)) (d:=d) (by unfold vl;rw[List.getElem?_map,e];rfl)
     exact⟨G1,h1,h2⟩
    |_=>exact⟨G,by unfold dU;rw[e];exact I,ah.refl _⟩
  obtain⟨G1,I1,s1⟩:=key
  obtain⟨G2,I2,s2⟩:=ih I1 fun j hj=>hb j (List.mem_cons_of_mem _ hj)
  exact⟨G2,I2,s1.trans s2⟩
theorem SR.set (I:SR Γ B G H σ env β){i:Nat}(hi:i < env.length){v:V}{d:D}(h:Rp Γ.K G v d):SR Γ B G H (σ.set i (some v)) (env.set i (.fz d)) β:=by
 have hs:i < σ.length:=by rw[I.len];exact hi
 refine⟨I.sub,I.old,I.new,I.keep,I.pin,I.fix,I.box,by rw[List.length_set,List.length_set];exact I.len,fun j s q=>?_,fun j k c d1 d2 q1 q2 q3 q4=>?_⟩
 ·by_cases z:j=i
  ·subst z
   rw[List.getElem?_set_self hi] at q
   cases q
   exact⟨v,by rw[List.getElem?_set_self hs],h⟩
  ·rw[List.getElem?_set_ne (Ne.symm z)] at q ⊢
   exact I.slot j s q
 ·have ne:∀{j:Nat} {d':D},(env.set i (Sl.fz d))[j]? =some (.ow d')->j≠i/\env[j]? =some (.ow d'):=fun {j d'} q=>by
   by_cases z:j=i
   ·subst z;rw[List.getElem?_set_self hi] at q;cases q
   ·rw[List.getElem?_set_ne (Ne.symm z)] at q;exact⟨z,q⟩
  obtain⟨n1,e1⟩:=ne q1
  obtain⟨n2,e2⟩:=ne q2
  rw[List.getElem?_set_ne (Ne.symm n1)] at q3
  rw[List.getElem?_set_ne (Ne.symm n2)] at q4
  exact I.sep j k c d1 d2 e1 e2 q3 q4
theorem SR.setOw (I:SR Γ B G H σ env β){i:Nat}(hi:i < env.length){a:Addr}{d:D}(h0:Γ.H0 a=none)(hg:G a=none)(hb:B≠some a)(h:Own Γ.K G H a d)(hn:∀(j:Nat) (d':D),env[j]? =some (.ow d')->j≠i->σ[j]?≠some (some (.ref a))):SR Γ B G H (σ.set i (some (.ref a))) (env.set i (.ow d)) β:=by
 have hs:i < σ.length:=by rw[I.len];exact hi
 refine⟨I.sub,I.old,I.new,I.keep,I.pin,I.fix,I.box,by rw[List.length_set,List.length_set];exact I.len,fun j s q=>?_,fun j k c d1 d2 q1 q2 q3 q4=>?_⟩
 ·by_cases z:j=i
  ·subst z
   rw[List.getElem?_set_self hi] at q
   cases q
   exact⟨a,by rw[List.getElem?_set_self hs],h0,hg,hb,h⟩
  ·rw[List.getElem?_set_ne (Ne.symm z)] at q ⊢
   exact I.slot j s q
 ·by_cases z1:j=i
  ·by_cases z2:k=i
   ·rw[z1,z2]
   ·subst z1
    rw[List.getElem?_set_ne (Ne.symm z2)] at q2 q4
    rw[List.getElem?_set_self hs] at q3
    cases q3
    exact absurd q4 (hn k d2 q2 z2)
  ·by_cases z2:k=i
   ·subst z2
    rw[List.getElem?_set_ne (Ne.symm z1)] at q1 q3
    rw[List.getElem?_set_self hs] at q4
    cases q4
    exact absurd q3 (hn j d1 q1 z1)
   ·rw[List.getElem?_set_ne (Ne.symm z1)] at q1 q3
    rw[List.getElem?_set_ne (Ne.symm z2)] at q2 q4
    exact I.sep j k c d1 d2 q1 q2 q3 q4
theorem SR.fresh (I:SR Γ B G H σ env β){a:Addr}(h:H a=none):Γ.H0 a=none/\G a=none/\B≠some a/\∀(j:Nat) (d:D),env[j]? =some (.ow d)->σ[j]?≠some (some (.ref a)):=by
 have hB:B≠some a:=fun z=>by rw[(I.box a z).1] at h;cases h
 refine⟨?_,I.sub.free h,hB,fun j d e z=>?_⟩
 ·cases e:Γ.H0 a with
  |none=>rfl
  |some o=>exact absurd h (I.there (by rw[e];simp))
 ·obtain⟨c,h1,_,_,_,h5⟩:=I.slot j _ e
  rw[z] at h1
  cases h1
  obtain⟨o,ho⟩:=h5.obj
  rw[h] at ho;cases ho
theorem SR.write (I:SR Γ B G H σ env β)(hb:∀j,Γ.br j=false){i:Nat}{a:Addr}{d d':D}{o:HO}(e:env[i]? =some (.ow d))(ea:σ[i]? =some (some (.ref a)))(h:∀H',H' a=some o->ah G H'->Own Γ.K G H' a d'):SR Γ B G (upd H a o) σ (env.set i (.ow d')) β:=by
 obtain⟨a',h1,h2,h3,h4,h5⟩:=I.slot i _ e
 rw[ea] at h1;cases h1
 have hi:i < env.length:=(List.getElem?_eq_some_iff.mp e).1
 have sub:ah G (upd H a o):=fun b u q=>by rw[aq (fun z=>by rw[z,h3] at q;cases q)];exact I.sub b u q
 refine⟨sub,I.old,I.new,fun b u q n=>?_,fun b q=>?_,I.fix,fun b q=>?_,by rw[List.length_set];exact I.len,fun j s q=>?_,fun j k c d1 d2 q1 q2 q3 q4=>?_⟩
 ·rw[aq (fun z=>by rw[z,h2] at q;cases q)];exact I.keep b u q n
 ·by_cases z:b=a
  ·subst z;exact (h _ ai sub).mx
  ·exact (I.pin b q).same fun o e=>by rw[aq z];exact e
 ·obtain⟨k1,k2,k3⟩:=I.box b q
  exact⟨by rw[aq (fun z=>h4 (by rw[<-z];exact q))];exact k1,k2,k3⟩
 ·by_cases z:j=i
  ·subst z
   rw[List.getElem?_set_self hi] at q
   cases q
   exact⟨a,ea,h2,h3,h4,h _ ai sub⟩
  ·rw[List.getElem?_set_ne (Ne.symm z)] at q
   have w:=I.slot j s q
   cases s with
   |no=>trivial
   |fz d1=>exact w
   |ow d1=>
    obtain⟨c,w1,w2,w3,w4,w5⟩:=w
    have ca:c≠a:=fun z2=>z (I.sep j i c d1 d q e w1 (by rw[z2];exact ea))
    exact⟨c,w1,w2,w3,w4,w5.mono (ah.refl _) fun o q=>by rw[aq ca];exact q⟩
   |bx=>exact w
   |br d1=>obtain⟨b1,_⟩:=w;rw[hb j] at b1;cases b1
 ·have back:∀{j:Nat} {d1:D},(env.set i (Sl.ow d'))[j]? =some (.ow d1)->∃d2,env[j]? =some (.ow d2):=fun {j d1} q=>by
   by_cases z:j=i
   ·subst z;exact⟨d,e⟩
   ·rw[List.getElem?_set_ne (Ne.symm z)] at q;exact⟨d1,q⟩
  obtain⟨_,b1⟩:=back q1
  obtain⟨_,b2⟩:=back q2
  exact I.sep j k c _ _ b1 b2 q3 q4
end
end L2

end

section
namespace L2
open PySem PySem.Spec PyProof.Rows
inductive R (α:Type) where
 |ok (a:α) (β:Int)
 |exc (c:Str)
 |bad
def R.bnd {α γ:Type}(r:R α)(k:α->Int->R γ):R γ:=match r with
 | .ok a β=>k a β
 | .exc c=>.exc c
 | .bad=>.bad
def R.of {α:Type}(o:Option α)(β:Int):R α:=match o with
 |some a=>.ok a β
 |none=>.bad
abbrev VF (α:Type):=List Nv->Int->R α
def Kp (Γ:Fx)(H':Hp):Prop:=∀b o,Γ.H0 b=some o->b∉Γ.par->H' b=some o
def Out {α:Type}(Γ:Fx)(E:XK)(r:R α)(P:α->Int->Prop):Prop:=match r with
 | .ok a β=>P a β
 | .exc c=>∀H',Kp Γ H'->E (.ref (Γ.ca c)) none H'
 | .bad=>False
section
variable {α γ:Type}{Γ:Fx}{E:XK}
theorem Out.bnd {r:R α}{k:α->Int->R γ}{P:γ->Int->Prop}(h:Out Γ E (r.bnd k) P):Out Γ E r fun a β=>Out Γ E (k a β) P:=by
 cases r with
 |ok a β=>exact h
 |exc c=>exact h
 |bad=>exact h
theorem Out.imp {r:R α}{P P':α->Int->Prop}(h:Out Γ E r P)(i:∀a β,P a β->P' a β):Out Γ E r P':=by
 cases r with
 |ok a β=>exact i a β h
 |exc c=>exact h
 |bad=>exact h
theorem Out.of {o:Option α}{β:Int}{P:α->Int->Prop}(h:Out Γ E (R.of o β) P):∃a,o=some a/\P a β:=by
 cases o with
 |none=>exact h.elim
 |some a=>exact⟨a,rfl,h⟩
end
inductive Md where
 |b |v |w
def VO (K:PySem.W.Frag)(B:Option Addr)(H G' H':Hp):Md->D->V->Prop
 | .b,d,v=>gX K B G' H' v d
 | .v,d,v=>Rp K G' v d
 | .w,d,v=>∃a,v=.ref a/\H a=none/\G' a=none/\Own K G' H' a d
def pT (Γ:Fx)(E:XK)(f:VF D)(L:List Nat)(md:Md):TE:=fun σ H Q=>∃env G B β,SR Γ B G H σ env β/\
 Out Γ E (f (vl env) β) fun d β'=>∀v G' H',SR Γ B G' H' σ (aC L env) β'->ah G G'->dh B H H'->VO Γ.K B H G' H' md d v->Q v H'
def SE (X:Cx)(Γ:Fx)(E:XK)(e:Expr)(f:VF D)(L:List Nat)(md:Md):Prop:=PE X e (pT Γ E f L md)
def qT (Γ:Fx)(E:XK)(f:VF Bool)(L:List Nat):TT:=fun σ H Q=>∃env G B β,SR Γ B G H σ env β/\
 Out Γ E (f (vl env) β) fun c β'=>∀G' H',SR Γ B G' H' σ (aC L env) β'->ah G G'->dh B H H'->Q c H'
def sP (X:Cx)(Γ:Fx)(E:XK)(e:Expr)(f:VF Bool)(L:List Nat):Prop:=PT X e (qT Γ E f L)
def rn (X:Cx)(Γ:Fx)(E:XK)(e:Expr)(f:VF Bool)(L:List Nat):Prop:=PW X e (qT Γ E f L)
def aT (Γ:Fx)(E:XK)(f:VF (List D))(L:List Nat):TA:=fun σ H Q=>∃env G B β,SR Γ B G H σ env β/\
 Out Γ E (f (vl env) β) fun ds β'=>∀vs G' H',SR Γ B G' H' σ (aC L env) β'->ah G G'->dh B H H'->a9 Γ.K G' vs ds->Q vs H'
def SA (X:Cx)(Γ:Fx)(E:XK)(es:List Expr)(f:VF (List D))(L:List Nat):Prop:=PA X es (aT Γ E f L)
theorem PE.post' {X:Cx}{e:Expr}{t u:TE}(h:PE X e t)(m:∀σ H Q,u σ H Q->t σ H Q):PE X e u:=fun pins s σ H Q I q=>h pins s σ H Q I (m σ H Q q)
theorem PT.post {X:Cx}{e:Expr}{t u:TT}(h:PT X e t)(m:∀σ H Q,u σ H Q->t σ H Q):PT X e u:=fun pins s σ H Q I q=>h pins s σ H Q I (m σ H Q q)
theorem PW.post {X:Cx}{e:Expr}{t u:TT}(h:PW X e t)(m:∀σ H Q,u σ H Q->t σ H Q):PW X e u:=fun wh pins s σ H Q I q=>h wh pins s σ H Q I (m σ H Q q)
theorem PA.post {X:Cx}{es:List Expr}{t u:TA}(h:PA X es t)(m:∀σ H Q,u σ H Q->t σ H Q):PA X es u:=fun pos pins s σ H Q I q=>h pos pins s σ H Q I (m σ H Q q)
theorem PS.post {X:Cx}{st:Stmt}{t u:TS}(h:PS X st t)(m:∀D σ H,u D σ H->t D σ H):PS X st u:=fun pins s σ H D I q=>h pins s σ H D I (m D σ H q)
def dat:Option Nv->Option D
 |some (.da d)=>some d
 |_=>none
def gv (i:Nat):VF D:=fun vs β=>R.of (dat vs[i]?) β
def cst (d:D):VF D:=fun _ β=>.ok d β
section
variable {X:Cx}{Γ:Fx}{E:XK}{e a b c:Expr}{f fa fb fc:VF D}{L La Lb Lc:List Nat}{md ma mb mc:Md}{pos:Pos}
theorem join_some {o:Option Nv}{d:D}(h:dat o=some d):o=some (.da d):=by
 cases o with
 |none=>cases h
 |some o=>cases o with
  |da x=>cases h;rfl
  |_=>cases h
theorem SR.letIn {B:Option Addr}{G H:Hp}{σ:St}{env:En}{β:Int}(I:SR Γ B G H σ env β){p:Addr}{d:D}(h0:Γ.H0 p=none)(hg:G p=none)(hb:B≠some p)(hn:∀(j:Nat) (d':D),env[j]? =some (.ow d')->σ[j]?≠some (some (.ref p)))(h:Own Γ.K G H p d) :
  ∃G',SR Γ B G' H σ env β/\ah G G'/\Rp Γ.K G' (.ref p) d:=by
 obtain⟨o,ho⟩:=h.obj
 have sG:ah G (upd G p o):=ah.new hg
 refine⟨upd G p o,⟨fun b u q=>?_,I.old.trans sG,fun b n1 n2=>?_,I.keep,I.pin,I.fix,fun b q=>?_,I.len,fun j s q=>?_,I.sep⟩,sG,h.rp hg sG fun o' q=>by rw[ho] at q;cases q;exact ai⟩
 ·by_cases z:b=p
  ·subst z;rw[ai] at q;cases q;exact ho
  ·rw[aq z] at q;exact I.sub b u q
 ·rw[aq (fun z=>n1.1 (by rw[z];exact h0))];exact I.new b n1 n2
 ·obtain⟨k1,k2,k3⟩:=I.box b q
  exact⟨k1,by rw[aq (fun z=>hb (by rw[<-z];exact q))];exact k2,k3⟩
 ·have w:=I.slot j s q
  cases s with
  |no=>trivial
  |fz d'=>obtain⟨v,w1,w2⟩:=w;exact⟨v,w1,w2.mono sG⟩
  |ow d'=>
   obtain⟨c,w1,w2,w3,w4,w5⟩:=w
   have ca:c≠p:=fun z2=>hn j d' q (by rw[<-z2];exact w1)
   exact⟨c,w1,w2,by rw[aq ca];exact w3,w4,w5.mono sG fun o q=>q⟩
  |bx=>exact w
  |br d'=>obtain⟨b1,c,w1,w4,wp,w5⟩:=w;exact⟨b1,c,w1,w4,wp,w5.mono sG fun o q=>q⟩
theorem qe {env:En}{i j:Nat}{d:D}(h:(dU env i)[j]? =some (.ow d)):env[j]? =some (.ow d):=by
 unfold dU at h
 split at h
 ·rename_i d' e
  by_cases z:i=j
  ·subst z
   rw[List.getElem?_set_self (List.getElem?_eq_some_iff.mp e).1] at h;cases h
  ·rw[List.getElem?_set_ne z] at h;exact h
 ·exact h
theorem me {L:List Nat}{env:En}{j:Nat}{d:D}(h:(aC L env)[j]? =some (.ow d)):env[j]? =some (.ow d):=by
 unfold aC at h
 induction L generalizing env with
 |nil=>exact h
 |cons i L ih=>exact qe (ih h)
theorem SR.letW {B:Option Addr}{G H G' H':Hp}{σ:St}{env:En}{β β':Int}{L:List Nat}{d:D}{v:V}(I:SR Γ B G H σ env β)(I':SR Γ B G' H' σ (L2.aC L env) β')(h:VO Γ.K B H G' H' .w d v):∃G2,SR Γ B G2 H' σ (L2.aC L env) β'/\ah G' G2/\Rp Γ.K G2 v d:=by
 obtain⟨p,rfl,h1,h2,h3⟩:=h
 obtain⟨q1,q2,q3,q4⟩:=I.fresh h1
 exact I'.letIn q1 h2 q3 (fun j d' e=>q4 j d' (me e)) h3
theorem SE.wv (h:SE X Γ E e f L .w):SE X Γ E e f L .v:=by
 refine PE.post' h fun σ H Q ⟨env,G,B,β,I,o⟩=>⟨env,G,B,β,I,o.imp fun d β' k v G' H' I' s m vo=>?_⟩
 obtain⟨G2,I2,s2,r⟩:=I.letW I' vo
 exact k v G2 H' I2 (s.trans s2) m r
theorem VO.brw {B:Option Addr}{H G' H':Hp}{d:D}{v:V}{K:PySem.W.Frag}(h:VO K B H G' H' md d v)(hB:∀x,B=some x->H x≠none):gX K B G' H' v d:=by
 cases md with
 |b=>exact h
 |v=>exact .inl h
 |w=>
  obtain⟨p,rfl,h1,h2,h3⟩:=h
  exact .inr ⟨p,rfl,fun z=>hB p z h1,h3⟩
theorem SR.boxThere {B:Option Addr}{G H:Hp}{σ:St}{env:En}{β:Int}(I:SR Γ B G H σ env β):∀x,B=some x->H x≠none:=fun x e=>by rw[(I.box x e).1];simp
theorem ak (i:Nat){x:Str}(hN:X.N[i]? =some x:=by rfl)(hv:oy X.env.scope x:=by first |exact Or.inl rfl |exact Or.inr (Or.inl rfl) |exact Or.inr (Or.inr rfl))(hd:(x == ("__debug__":Str))=false:=by decide)
  (hcd:(x == ("__classdict__":Str))=false:=by decide):SE X Γ E (.Name x pos) (gv i) [] .b:=by
 refine PE.post' (cH hN hv hd hcd) fun σ H Q ⟨env,G,B,β,I,o⟩=>?_
 obtain⟨d,e,k⟩:=o.of
 have e:=join_some e
 rcases yn e with q |q |q
 ·obtain⟨v,h1,h2⟩:=I.slot i _ q
  exact⟨v,h1,k v G H I (ah.refl _) (dh.refl _ _) (.inl h2)⟩
 ·obtain⟨p,h1,h2,h3,h4,h5⟩:=I.slot i _ q
  exact⟨.ref p,h1,k _ G H I (ah.refl _) (dh.refl _ _) (.inr ⟨p,rfl,h4,h5⟩)⟩
 ·obtain⟨_,p,h1,h4,_,h5⟩:=I.slot i _ q
  exact⟨.ref p,h1,k _ G H I (ah.refl _) (dh.refl _ _) (.inr ⟨p,rfl,h4,h5⟩)⟩
theorem aB (i:Nat)(hb:Γ.br i=false){x:Str}(hN:X.N[i]? =some x:=by rfl)(hv:oy X.env.scope x:=by first |exact Or.inl rfl |exact Or.inr (Or.inl rfl) |exact Or.inr (Or.inr rfl))(hd:(x == ("__debug__":Str))=false:=by decide)
  (hcd:(x == ("__classdict__":Str))=false:=by decide):SE X Γ E (.Name x pos) (gv i) [i] .v:=by
 refine PE.post' (cH hN hv hd hcd) fun σ H Q ⟨env,G,B,β,I,o⟩=>?_
 obtain⟨d,e,k⟩:=o.of
 obtain⟨G',v,I',s,h1,h2⟩:=I.freeze i hb (join_some e)
 exact⟨v,h1,k v G' H I' s (dh.refl _ _) h2⟩
theorem tL {v:V}{d:D}(h:PE X e (tC v))(r:∀G,Rp Γ.K G v d):SE X Γ E e (cst d) [] .v:=by
 refine PE.post' h fun σ H Q ⟨env,G,B,β,I,o⟩=>?_
 exact o v G H I (ah.refl _) (dh.refl _ _) (r G)
theorem ax {i:Int}{j}:SE X Γ E (.Constant (.int i) j pos) (cst (.int i)) [] .v:=tL jq fun _=>.int i
theorem lr {i:Bool}{j}:SE X Γ E (.Constant (.bool i) j pos) (cst (.bool i)) [] .v:=tL vt fun _=>.bl i
theorem mi {j}:SE X Γ E (.Constant .none j pos) (cst .none) [] .v:=tL zJ fun _=>.non
theorem fI {x:Str}{j}:SE X Γ E (.Constant (.str x) j pos) (cst (.str x)) [] .v:=tL jk fun _=>.str x
theorem wV {x:Str}{i:Int}{t:Tok}(hg:Gl X x)(hm:X.mg x=some (.int i t))(hd:(x == ("__debug__":Str))=false:=by decide):SE X Γ E (.Name x pos) (cst (.int i)) [] .v:=tL (bp hg hm (show RelV (.int i) _ from⟨_,rfl⟩) hd) fun _=>.int i
theorem two {W:V->V->Hp->Prop}{B:Option Addr}{G H:Hp}{σ:St}{env:En}{β:Int}(I:SR Γ B G H σ env β)
  (h:Out Γ E (fa (vl env) β) fun d1 β1=>Out Γ E (fb (vl env) β1) fun d2 β2=>∀x y G2 H2,SR Γ B G2 H2 σ (aC (La ++ Lb) env) β2->ah G G2->dh B H H2->gX Γ.K B G2 H2 x d1->gX Γ.K B G2 H2 y d2->W x y H2) :
  pT Γ E fa La ma σ H fun x H1=>pT Γ E fb Lb mb σ H1 fun y H2=>W x y H2:=by
 refine⟨env,G,B,β,I,h.imp fun d1 β1 h x G1 H1 I1 s1 m1 vx=>⟨aC La env,G1,B,β1,I1,?_⟩⟩
 rw[bw]
 refine h.imp fun d2 β2 k y G2 H2 I2 s2 m2 vy=>?_
 refine k x y G2 H2 (by rw[aN];exact I2) (s1.trans s2) (m1.trans m2) ((vx.brw I.boxThere).mono s2 m2) (vy.brw I1.boxThere)
def i3 (K:PySem.W.Frag)(r:R2)(g:D->D->Option D)(md:Md):Prop:=∀(B:Option Addr) (G H:Hp) (x y:V) (dx dy d:D) (Q:VK),ah G H->(∀x,B=some x->H x≠none)->gX K B G H x dx->gX K B G H y dy->g dx dy=some d->
 (∀v G' H',Ext G H G' H'->VO K B H G' H' md d v->Q v H')->r x y H Q
def f2 (fa fb:VF D)(g:D->D->Option D):VF D:=fun vs β=>(fa vs β).bnd fun x β1=>(fb vs β1).bnd fun y β2=>R.of (g x y) β2
theorem cg {B:Option Addr}{H H2:Hp}(m:dh B H H2)(hB:∀x,B=some x->H2 x≠none){p:Addr}(h:H2 p=none):H p=none:=by
 cases e:H p with
 |none=>rfl
 |some o=>rw[m p o e fun z=>hB p z h] at h;cases h
theorem VO.back {K:PySem.W.Frag}{B:Option Addr}{H H2 G' H':Hp}{d:D}{v:V}(h:VO K B H2 G' H' md d v)(m:dh B H H2)(hB:∀x,B=some x->H2 x≠none):VO K B H G' H' md d v:=by
 cases md with
 |b=>exact h
 |v=>exact h
 |w=>obtain⟨p,e,h1,h2,h3⟩:=h;exact⟨p,e,cg m hB h1,h2,h3⟩
theorem hZ {r:R2}{g:D->D->Option D}{Q:VK}(pr:i3 Γ.K r g md){B:Option Addr}{G H:Hp}{σ:St}{env:En}{β:Int}(I:SR Γ B G H σ env β)
  (h:Out Γ E (f2 fa fb g (vl env) β) fun d β'=>∀v G' H',SR Γ B G' H' σ (aC (La ++ Lb) env) β'->ah G G'->dh B H H'->VO Γ.K B H G' H' md d v->Q v H') :
  pT Γ E fa La ma σ H fun x H1=>pT Γ E fb Lb mb σ H1 fun y H2=>r x y H2 Q:=by
 refine two I (h.bnd.imp fun d1 β1 h=>h.bnd.imp fun d2 β2 h x y G2 H2 I2 s2 m2 bx by'=>?_)
 obtain⟨d,e,k⟩:=h.of
 refine pr B G2 H2 x y d1 d2 d Q I2.sub I2.boxThere bx by' e fun v G' H' x' vo=>?_
 exact k v G' H' (I2.ext x') (s2.trans x'.gg) (m2.trans (x'.hh.mov B)) (vo.back m2 I2.boxThere)
theorem aS {op:Operator}{r:R2}{g:D->D->Option D}(ho:ij X (binaryOp op) r)(pr:i3 Γ.K r g md)(ha:SE X Γ E a fa La ma)(hb:SE X Γ E b fb Lb mb):SE X Γ E (.BinOp a op b pos) (f2 fa fb g) (La ++ Lb) md:=
 PE.post' (p5 ho ha hb) fun σ H Q ⟨env,G,B,β,I,o⟩=>hZ pr I o
theorem ua {op:CmpOp}{r:R2}{g:D->D->Option D}(ho:ij X (compareOp op) r)(pr:i3 Γ.K r g md)(ha:SE X Γ E a fa La ma)(hb:SE X Γ E b fb Lb mb)(hm:behindInMarks op b=false):SE X Γ E (.Compare a [op] [b] pos) (f2 fa fb g) (La ++ Lb) md:=
 PE.post' (v3 ho ha hb hm) fun σ H Q ⟨env,G,B,β,I,o⟩=>hZ pr I o
theorem iq {r:R2}{g:D->D->Option D}(hr:vX X r)(pr:i3 Γ.K r g md)(ha:SE X Γ E a fa La ma)(hb:SE X Γ E b fb Lb mb)(hs:qK b):SE X Γ E (.Subscript a b pos) (f2 fa fb g) (La ++ Lb) md:=
 PE.post' (uZ hr ha hb hs) fun σ H Q ⟨env,G,B,β,I,o⟩=>hZ pr I o
def tH (K:PySem.W.Frag)(r:V->Hp->VK->Prop)(g:D->Option D)(md:Md):Prop:=∀(B:Option Addr) (G H:Hp) (x:V) (dx d:D) (Q:VK),ah G H->(∀x,B=some x->H x≠none)->gX K B G H x dx->g dx=some d->
 (∀v G' H',Ext G H G' H'->VO K B H G' H' md d v->Q v H')->r x H Q
def f1 (fa:VF D)(g:D->Option D):VF D:=fun vs β=>(fa vs β).bnd fun x β1=>R.of (g x) β1
theorem eh {r:V->Hp->VK->Prop}{g:D->Option D}{Q:VK}(pr:tH Γ.K r g md){B:Option Addr}{G H:Hp}{σ:St}{env:En}{β:Int}(I:SR Γ B G H σ env β)
  (h:Out Γ E (f1 fa g (vl env) β) fun d β'=>∀v G' H',SR Γ B G' H' σ (aC La env) β'->ah G G'->dh B H H'->VO Γ.K B H G' H' md d v->Q v H') :
  pT Γ E fa La ma σ H fun x H1=>r x H1 Q:=by
 refine⟨env,G,B,β,I,h.bnd.imp fun d1 β1 h x G1 H1 I1 s1 m1 vx=>?_⟩
 obtain⟨d,e,k⟩:=h.of
 refine pr B G1 H1 x d1 d Q I1.sub I1.boxThere (vx.brw I.boxThere) e fun v G' H' x' vo=>?_
 exact k v G' H' (I1.ext x') (s1.trans x'.gg) (m1.trans (x'.hh.mov B)) (vo.back m1 I1.boxThere)
theorem tJ {op:UnaryOp}{r:V->Hp->VK->Prop}{g:D->Option D}(ho:BY X (unaryOp op) r)(pr:tH Γ.K r g md)(ha:SE X Γ E a fa La ma):SE X Γ E (.UnaryOp op a pos) (f1 fa g) La md:=
 PE.post' (BF ho ha) fun σ H Q ⟨env,G,B,β,I,o⟩=>eh pr I o
theorem aZ {id:String}{r:List V->Hp->VK->Prop}{g:D->Option D}{x:Str}{p:Pos}(hc:bI X (.builtin id) r)(pr:tH Γ.K (fun x=>r [x]) g md)(hg:Gl X x)(hm:X.mg x=none)(hv:bootBuiltins x=some (.builtin id))(ha:SE X Γ E a fa La ma)(hn:x≠"__name__":=by decide)(hdb:(x == ("__debug__":Str))=false:=by decide)
  (he:starEach [a] X.env=(false,eval a X.env) :: starEach [] X.env:=by rfl):SE X Γ E (.Call (.Name x p) [a] [] pos) (f1 fa g) La md:=
 PE.post' (aI hc hg hm hv (ag ha ay he) hn hdb he) fun σ H Q ⟨env,G,B,β,I,o⟩=>eh (r:=fun x=>r [x]) pr I o
theorem bH {id:String}{r:List V->Hp->VK->Prop}{g:D->Option D}{x:Str}{p:Pos}(hc:bI X (.type id) r)(pr:tH Γ.K (fun x=>r [x]) g md)(hg:Gl X x)(hm:X.mg x=none)(hv:bootBuiltins x=some (.type id))(ha:SE X Γ E a fa La ma)(hn:x≠"__name__":=by decide)(hdb:(x == ("__debug__":Str))=false:=by decide)
  (he:starEach [a] X.env=(false,eval a X.env) :: starEach [] X.env:=by rfl):SE X Γ E (.Call (.Name x p) [a] [] pos) (f1 fa g) La md:=
 PE.post' (fR hc hg hm hv (ag ha ay he) hn hdb he) fun σ H Q ⟨env,G,B,β,I,o⟩=>eh (r:=fun x=>r [x]) pr I o
theorem mK {id:String}{r:List V->Hp->VK->Prop}{g:D->D->Option D}{x:Str}{p:Pos}(hc:bI X (.builtin id) r)(pr:i3 Γ.K (fun x y=>r [x,y]) g md)(hg:Gl X x)(hm:X.mg x=none)(hv:bootBuiltins x=some (.builtin id))(ha:SE X Γ E a fa La ma)(hb:SE X Γ E b fb Lb mb)(hn:x≠"__name__":=by decide)(hdb:(x == ("__debug__":Str))=false:=by decide)
  (he:starEach [a,b] X.env=(false,eval a X.env) :: starEach [b] X.env:=by rfl) (he2:starEach [b] X.env=(false,eval b X.env) :: starEach [] X.env:=by rfl) (hpl:(backTo pos (starEach [b] X.env)).any (·.1)=false:=by rfl):SE X Γ E (.Call (.Name x p) [a,b] [] pos) (f2 fa fb g) (La ++ Lb) md:=
 PE.post' (aI hc hg hm hv (ag ha (ag hb ay he2) he) hn hdb he hpl) fun σ H Q ⟨env,G,B,β,I,o⟩=>hZ (r:=fun x y=>r [x,y]) pr I o
def gH (fa fb:VF D):VF D:=fun vs β=>(fa vs β).bnd fun x β1=>match x with
 | .bool true=>fb vs β1
 | .bool false=>.ok (.bool false) β1
 |_=>.bad
theorem mC {op}(h:SE X Γ E a fa La md):SE X Γ E (.BoolOp op [a] pos) fa La md:=Ad h
theorem mn {rest:List Expr}(ha:SE X Γ E a fa La ma)(hb:SE X Γ E (.BoolOp .And (b :: rest) pos) fb Lb .v)(hbr:∀i,i∈Lb->Γ.br i=false):SE X Γ E (.BoolOp .And (a :: b :: rest) pos) (gH fa fb) (La ++ Lb) .v:=by
 refine PE.post' (zi ha hb) fun σ H Q ⟨env,G,B,β,I,o⟩=>?_
 refine⟨env,G,B,β,I,o.bnd.imp fun d1 β1 h x G1 H1 I1 s1 m1 vx=>?_⟩
 have bx:=vx.brw I.boxThere
 cases d1 with
 |bool c=>
  obtain rfl:=bx.bool
  refine⟨c,rfl,?_⟩
  cases c with
  |true=>exact oE ⟨_,G1,B,β1,I1,by rw[bw];exact h.imp fun d β' k v G' H' I' s' m' vo=>k v G' H' (by rw[aN];exact I') (s1.trans s') (m1.trans m') vo⟩
  |false=>
   obtain⟨G2,I2,s2⟩:=I1.aC Lb hbr
   exact ku (h _ G2 H1 (by rw[aN];exact I2) (s1.trans s2) m1 (.bl false))
 |_=>exact h.elim
def Ab:D->Option D
 | .bool c=>some (.bool (!c))
 |_=>none
theorem Am (ha:SE X Γ E a fa La ma):SE X Γ E (.UnaryOp .Not a pos) (f1 fa Ab) La .v:=by
 refine PE.post' (yU ha) fun σ H Q ⟨env,G,B,β,I,o⟩=>?_
 refine eh (r:=fun x H1 Q=>∃c,x=.bl c/\Q (.bl (!c)) H1) ?_ I o
 intro B G H x dx d Q s hB bx e k
 cases dx with
 |bool c=>
  obtain rfl:=bx.bool
  cases e
  exact⟨c,rfl,k _ G H (Ext.refl s) (.bl _)⟩
 |_=>cases e
def zm:D->Option Bool
 | .none=>some false
 | .bool b=>some b
 | .int i=>some (i != 0)
 | .str y=>if y.length<=sizeLine then some ((y.length:Int) != 0) else none
 | .list ds=>some (!ds.isEmpty)
 | .tuple ds=>some (!ds.isEmpty)
 | .dict _=>none
def vm (fa:VF D):VF Bool:=fun vs β=>(fa vs β).bnd fun x β1=>R.of (zm x) β1
theorem iR {K:PySem.W.Frag}{G:Hp}{xs:List V}{ds:List D}(r:a9 K G xs ds):(!ds.isEmpty)= !xs.isEmpty:=by cases r <;> rfl
theorem jV (hK:X.K=Γ.K)(ha:SE X Γ E a fa La ma)(he:∀whole,isTrue a X.env whole=(do let v <-whole;standAt a.pos;holding [v] (truthy v)):=by intro _;rfl):sP X Γ E a (vm fa) La:=by
 refine PT.post (tK ha he) fun σ H Q ⟨env,G,B,β,I,o⟩=>?_
 refine⟨env,G,B,β,I,o.bnd.imp fun d1 β1 h x G1 H1 I1 s1 m1 vx=>?_⟩
 obtain⟨c,e,k⟩:=h.of
 have bx:=vx.brw I.boxThere
 refine⟨c,?_,k G1 H1 I1 s1 m1⟩
 rw[hK]
 cases d1 with
 |none=>obtain rfl:=bx.none;cases e;rfl
 |bool b=>obtain rfl:=bx.bool;cases e;rfl
 |int i=>obtain rfl:=bx.int;cases e;rfl
 |str y=>
  obtain rfl:=bx.str
  simp only[zm] at e
  split at e
  ·cases e;exact⟨by assumption,rfl⟩
  ·cases e
 |list ds=>obtain⟨p,xs,rfl,hq,r⟩:=bx.list I1.sub;cases e;exact .inl ⟨xs,.inl hq,iR r⟩
 |tuple ds=>obtain⟨p,xs,rfl,hq,r⟩:=bx.tuple I1.sub;cases e;exact .inr (.inl ⟨xs,hq,iR r⟩)
 |dict ds=>cases e
def fw (fa:VF D):VF Bool:=fun vs β=>(fa vs β).bnd fun x β1=>match x with
 | .bool c=>.ok c β1
 |_=>.bad
theorem cj {op:CmpOp}{r:R2}{g:D->D->Option D}(ho:ij X (compareOp op) r)(pr:i3 Γ.K r g .v)(ha:SE X Γ E a fa La ma)(hb:SE X Γ E b fb Lb mb)(hm:behindInMarks op b=false):sP X Γ E (.Compare a [op] [b] pos) (fw (f2 fa fb g)) (La ++ Lb):=by
 refine PT.post (qY ho ha hb hm) fun σ H Q ⟨env,G,B,β,I,o⟩=>?_
 refine hZ pr I (o.bnd.imp fun d β' h v G' H' I' s' m' vo=>?_)
 cases d with
 |bool c=>cases vo;exact⟨c,rfl,h G' H' I' s' m'⟩
 |_=>exact h.elim
def yf (t:VF Bool):VF Bool:=fun vs β=>(t vs β).bnd fun c β1=>.ok (!c) β1
def Ak (t u:VF Bool):VF Bool:=fun vs β=>(t vs β).bnd fun c β1=>if c=true then u vs β1 else .ok false β1
def nh (t u:VF Bool):VF Bool:=fun vs β=>(t vs β).bnd fun c β1=>if c=true then .ok true β1 else u vs β1
variable {ta tb tc:VF Bool}
theorem lI (ha:sP X Γ E a ta La):sP X Γ E (.UnaryOp .Not a pos) (yf ta) La:=by
 refine PT.post (pD ha) fun σ H Q ⟨env,G,B,β,I,o⟩=>?_
 exact⟨env,G,B,β,I,o.bnd.imp fun c β1 h=>h⟩
theorem rn.t (h:rn X Γ E e ta La):sP X Γ E e ta La:=PW.pt h
theorem xA (ha:sP X Γ E a ta La):rn X Γ E (.BoolOp .And [a] pos) ta La:=wI ha
theorem lA (ha:sP X Γ E a ta La):rn X Γ E (.BoolOp .Or [a] pos) ta La:=tV ha
theorem z4 {rest:List Expr}(ha:sP X Γ E a ta La)(hb:rn X Γ E (.BoolOp .And (b :: rest) pos) tb Lb)(hbr:∀i,i∈Lb->Γ.br i=false):rn X Γ E (.BoolOp .And (a :: b :: rest) pos) (Ak ta tb) (La ++ Lb):=by
 refine PW.post (zj ha hb) fun σ H Q ⟨env,G,B,β,I,o⟩=>?_
 refine⟨env,G,B,β,I,o.bnd.imp fun c β1 h G1 H1 I1 s1 m1=>?_⟩
 cases c with
 |true=>exact oE ⟨_,G1,B,β1,I1,by rw[bw];exact Out.imp h fun d β' k G' H' I' s' m'=>k G' H' (by rw[aN];exact I') (s1.trans s') (m1.trans m')⟩
 |false=>
  obtain⟨G2,I2,s2⟩:=I1.aC Lb hbr
  exact ku (h G2 H1 (by rw[aN];exact I2) (s1.trans s2) m1)
theorem qv {rest:List Expr}(ha:sP X Γ E a ta La)(hb:rn X Γ E (.BoolOp .Or (b :: rest) pos) tb Lb)(hbr:∀i,i∈Lb->Γ.br i=false):rn X Γ E (.BoolOp .Or (a :: b :: rest) pos) (nh ta tb) (La ++ Lb):=by
 refine PW.post (yo ha hb) fun σ H Q ⟨env,G,B,β,I,o⟩=>?_
 refine⟨env,G,B,β,I,o.bnd.imp fun c β1 h G1 H1 I1 s1 m1=>?_⟩
 cases c with
 |true=>
  obtain⟨G2,I2,s2⟩:=I1.aC Lb hbr
  exact oE (h G2 H1 (by rw[aN];exact I2) (s1.trans s2) m1)
 |false=>exact ku ⟨_,G1,B,β1,I1,by rw[bw];exact Out.imp h fun d β' k G' H' I' s' m'=>k G' H' (by rw[aN];exact I') (s1.trans s') (m1.trans m')⟩
def DA (t:VF Bool)(fa fb:VF D):VF D:=fun vs β=>(t vs β).bnd fun c β1=>if c=true then fa vs β1 else fb vs β1
def au:VF (List D):=fun _ β=>.ok [] β
def ae (fa:VF D)(fr:VF (List D)):VF (List D):=fun vs β=>(fa vs β).bnd fun x β1=>(fr vs β1).bnd fun xs β2=>.ok (x :: xs) β2
variable {fr:VF (List D)}{es:List Expr}
theorem ao:SA X Γ E [] au []:=PA.post ay fun σ H Q ⟨env,G,B,β,I,o⟩=>o [] G H I (ah.refl _) (dh.refl _ _) .nil
theorem af (ha:SE X Γ E a fa La .v)(hr:SA X Γ E es fr Lb)(hs:starEach (a :: es) X.env=(false,eval a X.env) :: starEach es X.env:=by rfl):SA X Γ E (a :: es) (ae fa fr) (La ++ Lb):=by
 refine PA.post (ag ha hr hs) fun σ H Q ⟨env,G,B,β,I,o⟩=>?_
 refine⟨env,G,B,β,I,o.bnd.imp fun d1 β1 h x G1 H1 I1 s1 m1 vx=>⟨aC La env,G1,B,β1,I1,?_⟩⟩
 rw[bw]
 refine h.bnd.imp fun ds β2 k xs G2 H2 I2 s2 m2 r=>?_
 exact k (x :: xs) G2 H2 (by rw[aN];exact I2) (s1.trans s2) (m1.trans m2) (.cons (vx.mono s2) r)
def dB (fr:VF (List D)):VF D:=fun vs β=>(fr vs β).bnd fun ds β1=>if ds.length<=sizeLine then .ok (.tuple ds) β1 else .bad
def bG (fr:VF (List D)):VF D:=fun vs β=>(fr vs β).bnd fun ds β1=>if ds.length<=sizeLine then .ok (.list ds) β1 else .bad
theorem dC {x1}(h:SA X Γ E es fr L):SE X Γ E (.Tuple es x1 pos) (dB fr) L .v:=by
 refine PE.post' (yT h) fun σ H Q ⟨env,G,B,β,I,o⟩=>?_
 refine⟨env,G,B,β,I,o.bnd.imp fun ds β1 k xs G1 H1 I1 s1 m1 r=>?_⟩
 by_cases hz:ds.length<=sizeLine
 ·rw[if_pos hz] at k
  refine⟨by rw[r.len];exact hz,fun p hp=>?_⟩
  have x:=Ext.new I1.sub (o:=.tup xs) hp
  exact k _ _ _ (I1.ext x) (s1.trans x.gg) (m1.trans (x.hh.mov B)) (.tup (.inl (.inl ai)) (r.mono x.gg))
 ·rw[if_neg hz] at k;exact k.elim
theorem bE (h:SA X Γ E es fr L):SE X Γ E (.List es pos) (bG fr) L .w:=by
 refine PE.post' (jy h) fun σ H Q ⟨env,G,B,β,I,o⟩=>?_
 refine⟨env,G,B,β,I,o.bnd.imp fun ds β1 k xs G1 H1 I1 s1 m1 r=>?_⟩
 by_cases hz:ds.length<=sizeLine
 ·rw[if_pos hz] at k
  refine⟨by rw[r.len];exact hz,fun p hp=>?_⟩
  have x:=Ext.own I1.sub (o:=.lst xs) hp
  exact k _ _ _ (I1.ext x) s1 (m1.trans (x.hh.mov B)) ⟨p,rfl,cg m1 I1.boxThere hp,I1.sub.free hp,xs,ai,r⟩
 ·rw[if_neg hz] at k;exact k.elim
inductive FR where
 |ok (d:D) (fresh:Bool)
 |exc (c:Str)
 |bad
def FV (K:PySem.W.Frag)(H G' H':Hp)(fr:Bool)(d:D)(v:V):Prop:=if fr=true then ∃a,v=.ref a/\H a=none/\G' a=none/\Own K G' H' a d else Rp K G' v d
def vY (K:PySem.W.Frag)(ca:Str->Addr)(n:Nat)(F:List D->FR):Sp:=fun vs H Q E=>∃G ds,ah G H/\ds.length=n/\a9 K G vs ds/\match F ds with
 | .ok d fr=>∀v G' H',ah H H'->ah G G'->ah G' H'->(∀b,Mx H b->G b=none->G' b=none)->FV K H G' H' fr d v->Q v H'
 | .exc c=>∀H',ah H H'->E (.ref (ca c)) none H'
 | .bad=>False
structure fV (P:Program)(w:World)(K:PySem.W.Frag)(mg:Str->Option Value)(base:Heap)(ca:Str->Addr)(x:Str)(ps:List Str)(k:Nat)(F:List D->FR):Prop where
 ex:∃f fd,mg x=some (.ref f)/\PySem.W.keepIn K (.ref f)=true/\Binds K fd ps []/\fj P w K mg base (ir P w) k f fd ps (vY K ca ps.length F)
 len:∀ds,F ds≠.bad->ds.length=ps.length
def aJ (F:List D->FR)(fr:VF (List D)):VF D:=fun vs β=>(fr vs β).bnd fun ds β1=>match F ds with
 | .ok d _=>.ok d β1
 | .exc c=>.exc c
 | .bad=>.bad
def mV (F:List D->FR)(fr:VF (List D)):VF D:=fun vs β=>(fr vs β).bnd fun ds β1=>match F ds with
 | .ok d true=>.ok d β1
 | .ok _ false=>.bad
 | .exc c=>.exc c
 | .bad=>.bad
theorem SR.called {B:Option Addr}{G1 H1 G2 H2:Hp}{σ:St}{env:En}{β:Int}(I1:SR Γ B G1 H1 σ env β)(h:ah H1 H2)(g:ah G1 G2)(s:ah G2 H2)(n:∀b,Mx H1 b->G1 b=none->G2 b=none):SR Γ B G2 H2 σ env β/\dh B H1 H2:=by
 refine⟨⟨s,I1.old.trans g,fun b n1 n2=>?_,fun b o e np=>h b o (I1.keep b o e np),fun b hb=>?_,I1.fix,fun b e=>?_,I1.len,fun i t e=>?_,I1.sep⟩,h.mov B⟩
 ·exact n b (I1.thereM n1) (I1.new b n1 n2)
 ·exact (I1.pin b hb).same fun o e=>h b o e
 ·obtain⟨h1,h2,h3⟩:=I1.box b e
  exact⟨h b _ h1,n b (Mx.lst h1) h2,h3⟩
 ·have q:=I1.slot i t e
  cases t with
  |no=>trivial
  |fz d=>obtain⟨v,h1,h2⟩:=q;exact⟨v,h1,h2.mono g⟩
  |ow d=>
   obtain⟨p,h1,h2,h3,h4,h5⟩:=q
   exact⟨p,h1,h2,n p h5.mx h3,h4,h5.mono g fun o q=>h p o q⟩
  |bx=>exact q
  |br d=>obtain⟨b1,p,h1,h4,hp,h5⟩:=q;exact⟨b1,p,h1,h4,hp,h5.mono g fun o q=>h p o q⟩
theorem SR.kp {B:Option Addr}{G H H':Hp}{σ:St}{env:En}{β:Int}(I:SR Γ B G H σ env β)(h:ah H H'):Kp Γ H':=fun b o e n=>h b o (I.keep b o e n)
theorem kJ {F:List D->FR}{ps:List Str}{Q:VK}{B:Option Addr}{G H:Hp}{σ:St}{env:En}{β:Int}(I:SR Γ B G H σ env β)(hK:X.K=Γ.K){wv:Bool}
  (h:Out Γ E (if wv=true then mV F fr (vl env) β else aJ F fr (vl env) β) fun d β'=>∀v G' H',SR Γ B G' H' σ (aC L env) β'->ah G G'->dh B H H'->VO Γ.K B H G' H' (if wv=true then .w else .v) d v->Q v H') (hl:∀ds,F ds≠.bad->ds.length=ps.length) :
  aT Γ E fr L σ H fun vs H1=>vY X.K Γ.ca ps.length F vs H1 Q E:=by
 refine⟨env,G,B,β,I,?_⟩
 have h:Out Γ E (fr (vl env) β) fun ds β1=>Out Γ E (match F ds with
   | .ok d true=>.ok d β1
   | .ok d false=>if wv=true then .bad else .ok d β1
   | .exc c=>.exc c
   | .bad=>.bad) fun d β'=>∀v G' H',SR Γ B G' H' σ (aC L env) β'->ah G G'->dh B H H'->VO Γ.K B H G' H' (if wv=true then .w else .v) d v->Q v H':=by
  cases wv with
  |true=>
   simp only[if_true] at h ⊢
   refine h.bnd.imp fun ds β1 h=>?_
   cases q:F ds with
   |ok d b=>rw[q] at h;cases b <;> exact h
   |exc c=>rw[q] at h;exact h
   |bad=>rw[q] at h;exact h
  |false=>
   simp only[Bool.false_eq_true,if_false] at h ⊢
   refine h.bnd.imp fun ds β1 h=>?_
   cases q:F ds with
   |ok d b=>rw[q] at h;cases b <;> exact h
   |exc c=>rw[q] at h;exact h
   |bad=>rw[q] at h;exact h
 refine h.imp fun ds β1 k vs G1 H1 I1 s1 m1 r=>?_
 refine⟨G1,ds,I1.sub,?_,by rw[hK];exact r,?_⟩
 ·exact hl ds fun z=>by rw[z] at k;exact k
 cases q:F ds with
 |bad=>rw[q] at k;exact k
 |exc c=>rw[q] at k;exact fun H' s=>k H' (I1.kp s)
 |ok d b=>
  rw[q] at k
  intro v G' H' hh hg hs hn fv
  obtain⟨I2,m2⟩:=I1.called hh hg hs hn
  cases b with
  |true=>
   obtain⟨p,rfl,p1,p2,p3⟩:∃a,v=.ref a/\H1 a=none/\G' a=none/\Own X.K G' H' a d:=fv
   rw[hK] at p3
   have hp:=cg m1 I1.boxThere p1
   cases wv with
   |true=>exact k _ G' H' I2 (s1.trans hg) (m1.trans m2) ⟨p,rfl,hp,p2,p3⟩
   |false=>
    obtain⟨q1,q2,q3,q4⟩:=I1.fresh p1
    obtain⟨G3,I3,s3,r3⟩:=I2.letIn q1 p2 q3 q4 p3
    exact k _ G3 H' I3 ((s1.trans hg).trans s3) (m1.trans m2) r3
  |false=>
   cases wv with
   |true=>exact k.elim
   |false=>
    have fv:Rp X.K G' v d:=fv
    rw[hK] at fv
    exact k _ G' H' I2 (s1.trans hg) (m1.trans m2) fv
theorem aU {x:Str}{ps:List Str}{k:Nat}{F:List D->FR}{p:Pos}(hf:fV X.prog X.w X.K X.mg X.base Γ.ca x ps k F)(hr:bS k X.A)(hx:Passes (ir X.prog X.w) X E)(hK:X.K=Γ.K)(hg:Gl X x)(ha:SA X Γ E (a :: es) fr L)(hdb:(x == ("__debug__":Str))=false:=by decide)
  (he:starEach (a :: es) X.env=(false,eval a X.env) :: starEach es X.env:=by rfl) (hpl:(backTo pos (starEach es X.env)).any (·.1)=false:=by rfl):SE X Γ E (.Call (.Name x p) (a :: es) [] pos) (aJ F fr) L .v:=by
 obtain⟨f,fd,hm,hk,hb,hF⟩:=hf.ex
 refine PE.post' (mB (dvs:=[]) hF hr hg hm hk hb .nil hx ha hdb he hpl) fun σ H Q ⟨env,G,B,β,I,o⟩=>?_
 show aT Γ E fr L σ H fun vs H1=>vY X.K Γ.ca ps.length F (vs ++ []) H1 Q E
 have:=kJ (Q:=Q) (wv:=false) (ps:=ps) I hK o hf.len
 simpa using this
theorem vF {x:Str}{ps:List Str}{k:Nat}{F:List D->FR}{p:Pos}(hf:fV X.prog X.w X.K X.mg X.base Γ.ca x ps k F)(hr:bS k X.A)(hx:Passes (ir X.prog X.w) X E)(hK:X.K=Γ.K)(hg:Gl X x)(ha:SA X Γ E (a :: es) fr L)(hdb:(x == ("__debug__":Str))=false:=by decide)
  (he:starEach (a :: es) X.env=(false,eval a X.env) :: starEach es X.env:=by rfl) (hpl:(backTo pos (starEach es X.env)).any (·.1)=false:=by rfl):SE X Γ E (.Call (.Name x p) (a :: es) [] pos) (mV F fr) L .w:=by
 obtain⟨f,fd,hm,hk,hb,hF⟩:=hf.ex
 refine PE.post' (mB (dvs:=[]) hF hr hg hm hk hb .nil hx ha hdb he hpl) fun σ H Q ⟨env,G,B,β,I,o⟩=>?_
 show aT Γ E fr L σ H fun vs H1=>vY X.K Γ.ca ps.length F (vs ++ []) H1 Q E
 have:=kJ (Q:=Q) (wv:=true) (ps:=ps) I hK o hf.len
 simpa using this
end
end L2

end

section
namespace L2
open PySem PySem.Spec PyProof.Rows
inductive SO where
 |nx (env:En) (β:Int)
 |bk (env:En) (β:Int)
 |ct (env:En) (β:Int)
 |rt (d:D) (fr:Bool) (β:Int)
 |exc (c:Str)
 |bad
abbrev SF:=En->Int->SO
def RV (Γ:Fx)(G' H':Hp)(fr:Bool)(d:D)(v:V):Prop:=if fr=true then ∃a,v=.ref a/\Γ.H0 a=none/\G' a=none/\Own Γ.K G' H' a d else Rp Γ.K G' v d
def ky (Γ:Fx)(E:XK)(G:Hp)(N:Ends):SO->Prop
 | .nx env β=>∀B G' H' σ,SR Γ B G' H' σ env β->ah G G'->N.nx σ H'
 | .bk env β=>∀B G' H' σ,SR Γ B G' H' σ env β->ah G G'->N.bk σ H'
 | .ct env β=>∀B G' H' σ,SR Γ B G' H' σ env β->ah G G'->N.ct σ H'
 | .rt d fr β=>∀B G' H' σ env v,SR Γ B G' H' σ env β->ah G G'->RV Γ G' H' fr d v->N.rt v H'
 | .exc c=>∀H',Kp Γ H'->E (.ref (Γ.ca c)) none H'
 | .bad=>False
def sT (Γ:Fx)(E:XK)(m:SF):TS:=fun N σ H=>∃env G B β,SR Γ B G H σ env β/\ky Γ E G N (m env β)
def SS (X:Cx)(Γ:Fx)(E:XK)(st:Stmt)(m:SF):Prop:=PS X st (sT Γ E m)
def sU (X:Cx)(Γ:Fx)(E:XK)(st:List Stmt)(m:SF):Prop:=i5 X st (sT Γ E m)
theorem i5.post {X:Cx}{st:List Stmt}{t u:TS}(h:i5 X st t)(m:∀D σ H,u D σ H->t D σ H):i5 X st u:=fun pins s σ H D I q=>h pins s σ H D I (m D σ H q)
def aG (m m':SF):SF:=fun env β=>match m env β with
 | .nx env' β'=>m' env' β'
 |r=>r
def mH:SF:=fun env β=>.nx env β
section
variable {X:Cx}{Γ:Fx}{E:XK}{e a b c:Expr}{f fa fb:VF D}{L La Lb:List Nat}{md ma mb:Md}{pos:Pos}{st:Stmt}{sts:List Stmt}{m m':SF}{ta:VF Bool}
theorem ky.weak {G G1:Hp}{N:Ends}{r:SO}(h:ky Γ E G N r)(s:ah G G1):ky Γ E G1 N r:=by
 cases r with
 |nx env β=>exact fun B G' H' σ I s'=>h B G' H' σ I (s.trans s')
 |bk env β=>exact fun B G' H' σ I s'=>h B G' H' σ I (s.trans s')
 |ct env β=>exact fun B G' H' σ I s'=>h B G' H' σ I (s.trans s')
 |rt d fr β=>exact fun B G' H' σ env v I s'=>h B G' H' σ env v I (s.trans s')
 |exc c=>exact h
 |bad=>exact h
theorem dH:sU X Γ E [] mH:=i5.post lN fun N σ H ⟨env,G,B,β,I,o⟩=>o B G H σ I (ah.refl _)
theorem av (h:SS X Γ E st m)(h':sU X Γ E sts m'):sU X Γ E (st :: sts) (aG m m'):=by
 refine i5.post (bY h h') fun N σ H ⟨env,G,B,β,I,o⟩=>?_
 refine⟨env,G,B,β,I,?_⟩
 unfold aG at o
 cases q:m env β with
 |nx env' β'=>rw[q] at o;exact fun B' G' H' σ' I' s'=>⟨env',G',B',β',I',o.weak s'⟩
 |bk env' β'=>rw[q] at o;exact o
 |ct env' β'=>rw[q] at o;exact o
 |rt d fr β'=>rw[q] at o;exact o
 |exc c=>rw[q] at o;exact o
 |bad=>rw[q] at o;exact o
theorem aA (h:SS X Γ E st m):sU X Γ E [st] m:=fX h
def toS {α:Type}(r:R α)(k:α->Int->SO):SO:=match r with
 | .ok x β=>k x β
 | .exc c=>.exc c
 | .bad=>.bad
theorem aQ {α:Type}{G:Hp}{N:Ends}{r:R α}{k:α->Int->SO}{P:α->Int->Prop}(h:ky Γ E G N (toS r k))(i:∀x β,ky Γ E G N (k x β)->P x β):Out Γ E r P:=by
 cases r with
 |ok x β=>exact i x β h
 |exc c=>exact h
 |bad=>exact h
theorem SR.set' {B:Option Addr}{G H:Hp}{σ:St}{env:En}{β:Int}(I:SR Γ B G H σ env β)(i:Nat){v:V}{d:D}(h:Rp Γ.K G v d):SR Γ B G H (σ.set i (some v)) (env.set i (.fz d)) β:=by
 by_cases hi:i < env.length
 ·exact I.set hi h
 ·have h1:env.set i (.fz d)=env:=List.set_eq_of_length_le (by omega)
  have h2:σ.set i (some v)=σ:=List.set_eq_of_length_le (by rw[I.len];omega)
  rw[h1,h2];exact I
theorem SR.setOw' {B:Option Addr}{G H:Hp}{σ:St}{env:En}{β:Int}(I:SR Γ B G H σ env β)(i:Nat){a:Addr}{d:D}(h0:Γ.H0 a=none)(hg:G a=none)(hb:B≠some a)(h:Own Γ.K G H a d)(hn:∀(j:Nat) (d':D),env[j]? =some (.ow d')->σ[j]?≠some (some (.ref a))):SR Γ B G H (σ.set i (some (.ref a))) (env.set i (.ow d)) β:=by
 by_cases hi:i < env.length
 ·exact I.setOw hi h0 hg hb h fun j d' e _=>hn j d' e
 ·have h1:env.set i (.ow d)=env:=List.set_eq_of_length_le (by omega)
  have h2:σ.set i (some (.ref a))=σ:=List.set_eq_of_length_le (by rw[I.len];omega)
  rw[h1,h2];exact I
def df (i:Nat)(L:List Nat)(f:VF D):SF:=fun env β=>toS (f (vl env) β) fun d β'=>.nx ((aC L env).set i (.fz d)) β'
theorem cw {i:Nat}{x:Str}{pos':Pos}(he:SE X Γ E e f L .v)(hN:X.N.Nodup)(hi:X.N[i]? =some x:=by rfl)(hx:Loc X.env.scope x:=by first |exact Or.inl rfl |exact Or.inr rfl)(hs:swapsWith e (some (.Name x pos')) pos.line X.env=pure false:=by rfl)(hf:X.fn x=true\/X.env.scope.names.lookup x=some .local:=by first |exact .inl rfl |exact .inr rfl |assumption) :
  SS X Γ E (.Assign [.Name x pos'] e pos) (df i L f):=by
 refine PS.post (gx hN hi hx he hs hf) fun N σ H ⟨env,G,B,β,I,o⟩=>?_
 refine⟨env,G,B,β,I,aQ o fun d β' k v G' H' I' s' m' vo=>?_⟩
 exact k B G' H' _ (I'.set' i vo) s'
def gr (i:Nat)(L:List Nat)(f:VF D):SF:=fun env β=>toS (f (vl env) β) fun d β'=>.nx ((aC L env).set i (.ow d)) β'
theorem fY {i:Nat}{x:Str}{pos':Pos}(he:SE X Γ E e f L .w)(hN:X.N.Nodup)(hi:X.N[i]? =some x:=by rfl)(hx:Loc X.env.scope x:=by first |exact Or.inl rfl |exact Or.inr rfl)(hs:swapsWith e (some (.Name x pos')) pos.line X.env=pure false:=by rfl)(hf:X.fn x=true\/X.env.scope.names.lookup x=some .local:=by first |exact .inl rfl |exact .inr rfl |assumption) :
  SS X Γ E (.Assign [.Name x pos'] e pos) (gr i L f):=by
 refine PS.post (gx hN hi hx he hs hf) fun N σ H ⟨env,G,B,β,I,o⟩=>?_
 refine⟨env,G,B,β,I,aQ o fun d β' k v G' H' I' s' m' vo=>?_⟩
 obtain⟨p,rfl,h1,h2,h3⟩:=vo
 obtain⟨q1,q2,q3,q4⟩:=I.fresh h1
 exact k B G' H' _ (I'.setOw' i q1 h2 q3 h3 fun j d' z=>q4 j d' (me z)) s'
def BC (L:List Nat)(f:VF D):SF:=fun env β=>toS (f (vl env) β) fun _ β'=>.nx (aC L env) β'
def cn (f:VF D):SF:=fun env β=>toS (f (vl env) β) fun d β'=>.rt d false β'
theorem bz (he:SE X Γ E e f L .v):SS X Γ E (.Return (some e) pos) (cn f):=by
 refine PS.post (fA he) fun N σ H ⟨env,G,B,β,I,o⟩=>?_
 exact⟨env,G,B,β,I,aQ o fun d β' k v G' H' I' s' m' vo=>k B G' H' σ _ v I' s' vo⟩
def nQ (f:VF D):SF:=fun env β=>toS (f (vl env) β) fun d β'=>.rt d true β'
theorem mf (he:SE X Γ E e f L .w):SS X Γ E (.Return (some e) pos) (nQ f):=by
 refine PS.post (fA he) fun N σ H ⟨env,G,B,β,I,o⟩=>?_
 refine⟨env,G,B,β,I,aQ o fun d β' k v G' H' I' s' m' vo=>?_⟩
 obtain⟨p,rfl,h1,h2,h3⟩:=vo
 obtain⟨q1,_⟩:=I.fresh h1
 exact k B G' H' σ _ _ I' s' ⟨p,rfl,q1,h2,h3⟩
def qW (i:Nat):SF:=fun env β=>match env[i]? with
 |some (.fz d)=>.rt d false β
 |some (.ow d)=>.rt d true β
 |_=>.bad
theorem qy (i:Nat){x:Str}{p:Pos}(hN:X.N[i]? =some x:=by rfl)(hv:oy X.env.scope x:=by first |exact Or.inl rfl |exact Or.inr (Or.inl rfl) |exact Or.inr (Or.inr rfl))(hd:(x == ("__debug__":Str))=false:=by decide)
  (hcd:(x == ("__classdict__":Str))=false:=by decide):SS X Γ E (.Return (some (.Name x p)) pos) (qW i):=by
 refine PS.post (fA (cH hN hv hd hcd)) fun N σ H ⟨env,G,B,β,I,o⟩=>?_
 unfold qW at o
 cases q:env[i]? with
 |none=>rw[q] at o;exact o.elim
 |some s=>
  rw[q] at o
  cases s with
  |no=>exact o.elim
  |bx=>exact o.elim
  |br d=>exact o.elim
  |fz d=>
   obtain⟨v,h1,h2⟩:=I.slot i _ q
   exact⟨v,h1,o B G H σ env v I (ah.refl _) h2⟩
  |ow d=>
   obtain⟨p,h1,h2,h3,h4,h5⟩:=I.slot i _ q
   exact⟨_,h1,o B G H σ env _ I (ah.refl _) ⟨p,rfl,h2,h3,h5⟩⟩
def j8 (L:List Nat)(t:VF Bool)(m m':SF):SF:=fun env β=>toS (t (vl env) β) fun c β'=>if c=true then m (aC L env) β' else m' (aC L env) β'
theorem gp {x y:List Stmt}(hc:sP X Γ E c ta L)(ha:sU X Γ E x m)(hb:sU X Γ E y m'):SS X Γ E (.If c x y pos) (j8 L ta m m'):=by
 refine PS.post (vJ hc ha hb) fun N σ H ⟨env,G,B,β,I,o⟩=>?_
 refine⟨env,G,B,β,I,aQ o fun d β' k G' H' I' s' m'=>?_⟩
 cases d with
 |true=>exact oE ⟨_,G',B,β',I',ky.weak k s'⟩
 |false=>exact ku ⟨_,G',B,β',I',ky.weak k s'⟩
def fH (L:List Nat)(t:VF Bool)(m:SF):Nat->SF
 | 0=>fun _ _=>.bad
 |n + 1=>fun env β=>toS (t (vl env) β) fun c β'=>if c=true then (match m (aC L env) β' with
   | .nx env2 β2=>fH L t m n env2 β2
   | .ct env2 β2=>fH L t m n env2 β2
   | .bk env2 β2=>.nx env2 β2
   |r=>r) else .nx (aC L env) β'
theorem uo {x:List Stmt}(n:Nat)(hp:PassesOwn (model X.prog X.w) X.A X.env X.xe)(hc:sP X Γ E c ta L)(hb:sU X Γ E x m):SS X Γ E (.While c x [] pos) (fH L ta m n):=by
 refine PS.post (vC hp hc hb) fun N σ H ⟨env,G,B,β,I,o⟩=>?_
 refine⟨fun k σ H=>∃env G1 B β,SR Γ B G1 H σ env β/\ah G G1/\ky Γ E G1 N (fH L ta m k env β),⟨n,env,G,B,β,I,ah.refl _,o⟩,?_⟩
 rintro k σ H ⟨env,G1,B,β,I,sG,o⟩
 cases k with
 |zero=>exact o.elim
 |succ k=>
  refine⟨env,G1,B,β,I,aQ o fun d β' q G' H' I' s' m'=>?_⟩
  cases d with
  |false=>exact ku (q B G' H' σ I' s')
  |true=>
   refine oE ⟨fun σ H=>∃env G1 B β,SR Γ B G1 H σ env β/\ah G G1/\ky Γ E G1 N (fH L ta m k env β),fun σ' H' h=>⟨k,Nat.lt_succ_self k,h⟩,aC L env,G',B,β',I',?_⟩
   rw[if_pos rfl] at q
   cases r:m (aC L env) β' with
   |nx env2 β2=>rw[r] at q;exact fun B2 G2 H2 σ2 I2 s2=>⟨env2,G2,B2,β2,I2,(sG.trans s').trans s2,ky.weak q (s'.trans s2)⟩
   |ct env2 β2=>rw[r] at q;exact fun B2 G2 H2 σ2 I2 s2=>⟨env2,G2,B2,β2,I2,(sG.trans s').trans s2,ky.weak q (s'.trans s2)⟩
   |bk env2 β2=>rw[r] at q;exact fun B2 G2 H2 σ2 I2 s2=>q B2 G2 H2 σ2 I2 (s'.trans s2)
   |rt d fr β2=>rw[r] at q;exact ky.weak q s'
   |exc c=>rw[r] at q;exact q
   |bad=>rw[r] at q;exact q
def Walk (K:PySem.W.Frag)(B:Option Addr)(G H1:Hp)(ds:List D)(J:It):Prop:=∀Gc H (i:Nat),ah G Gc->ah Gc H->dh B H1 H->
 (i < ds.length->J.go i H/\∀x H',J.yld i H x H'->∃G' d,Ext Gc H G' H'/\ds[i]? =some d/\Rp K G' x d)/\(ds.length<=i->J.stop i H)
def iT (Γ:Fx)(E:XK)(f:VF (List D))(L:List Nat)(md:Md):TI:=fun σ H Rr=>∃env G B β,SR Γ B G H σ env β/\
 Out Γ E (f (vl env) β) fun ds β'=>∀J G' H',SR Γ B G' H' σ (aC L env) β'->ah G G'->dh B H H'->Walk Γ.K B G' (match md with | .b=>H' |_=>fun _=>none) ds J->Rr J H'
def SI (X:Cx)(Γ:Fx)(E:XK)(tg e:Expr)(f:VF (List D))(L:List Nat)(md:Md):Prop:=PI X tg e (iT Γ E f L md)
theorem PI.post {X:Cx}{tg e:Expr}{t u:TI}(h:PI X tg e t)(m:∀σ H Q,u σ H Q->t σ H Q):PI X tg e u:=fun pins s σ H Q I q=>h pins s σ H Q I (m σ H Q q)
variable {tg:Expr}
def nO:D->Option (List D)
 | .list ds=>some ds
 | .tuple ds=>some ds
 |_=>none
def dE (fa:VF D):VF (List D):=fun vs β=>(fa vs β).bnd fun x β1=>R.of (nO x) β1
end
end L2

end

section
namespace L2
open PySem PySem.Spec PyProof.Rows
def Dy (K:PySem.W.Frag)(tl:TE):TI:=fun σ H R=>tl σ H fun x H1=>∃a xs,x=.ref a/\((fC K H1 a xs/\R (Cs K a) H1)\/(dq K H1 a xs/\R (C7 K a) H1))
section
variable {X:Cx}{tg l:Expr}{tl:TE}
theorem ye (hl:PE X l tl):PI X tg l (Dy X.K tl):=by
 intro pins s σ H R I h
 refine bb (hl pins s σ H _ I h) fun v s1 ⟨x,H1,I1,r1,q1⟩=>?_
 obtain⟨a,xs,e,q⟩:=q1
 subst e
 cases r1
 rcases q with⟨hq,q⟩ | ⟨hq,q⟩
 ·obtain⟨its,rv,p,hz⟩:=I1.list hq
  refine wpAny_pyIter_list p.isList ?_
  refine⟨s1.heap.objs.size,[s1.heap.objs.size],_,_,H1,rfl,I1.kept (t':=s1.toks) fun b o e=>Heap.get?_push_of_some _ e,rq a _,⟨_,Heap.get?_push_size _ rfl,rfl,rfl⟩,fun b hb=>?_,q⟩
  have e:b=s1.heap.objs.size:=by simpa using hb
  subst e
  exact I1.fpOk (Nat.le_refl _) (I1.hok.fresh (Nat.le_refl _))
 ·obtain⟨its,rv,p,hz⟩:=I1.tuple hq
  refine wpAny_pyIter_tuple (show s1.heap.IsTuple a its.toArray from p) ?_
  refine⟨s1.heap.objs.size,[s1.heap.objs.size],_,_,H1,rfl,I1.kept (t':=s1.toks) fun b o e=>Heap.get?_push_of_some _ e,pf a _,⟨_,Heap.get?_push_size _ rfl,rfl,rfl⟩,fun b hb=>?_,q⟩
  have e:b=s1.heap.objs.size:=by simpa using hb
  subst e
  exact I1.fpOk (Nat.le_refl _) (I1.hok.fresh (Nat.le_refl _))
end
section
variable {X:Cx}{Γ:Fx}{E:XK}{e a b c:Expr}{f fa fb:VF D}{L La Lb:List Nat}{md ma mb:Md}{pos:Pos}{st:Stmt}{sts:List Stmt}{m m':SF}{ta:VF Bool}{tg:Expr}
theorem iE {K:PySem.W.Frag}{B:Option Addr}{G H1:Hp}{p:Addr}{xs:List V}{ds:List D}(h:∀Gc H,ah G Gc->ah Gc H->dh B H1 H->fC K H p xs)(r:a9 K G xs ds):Walk K B G H1 ds (Cs K p):=fun Gc H i s1 s2 m=>by
 have hq:=h Gc H s1 s2 m
 refine⟨fun hi=>⟨?_,fun x H' y=>?_⟩,fun hi=>⟨xs,hq,by rw[r.len];exact hi⟩⟩
 ·have hi':i < xs.length:=by rw[r.len];exact hi
  exact⟨xs,xs[i],hq,by simp[hi']⟩
 ·obtain⟨rfl,y⟩:=y
  obtain⟨d,e,q⟩:=r.at' (y xs hq)
  exact⟨Gc,d,Ext.refl s2,e,q.mono s1⟩
theorem nv {K:PySem.W.Frag}{B:Option Addr}{G H1:Hp}{p:Addr}{xs:List V}{ds:List D}(h:∀Gc H,ah G Gc->ah Gc H->dh B H1 H->dq K H p xs)(r:a9 K G xs ds):Walk K B G H1 ds (C7 K p):=fun Gc H i s1 s2 m=>by
 have hq:=h Gc H s1 s2 m
 refine⟨fun hi=>⟨?_,fun x H' y=>?_⟩,fun hi=>⟨xs,hq,by rw[r.len];exact hi⟩⟩
 ·have hi':i < xs.length:=by rw[r.len];exact hi
  exact⟨xs,xs[i],hq,by simp[hi']⟩
 ·obtain⟨rfl,y⟩:=y
  obtain⟨d,e,q⟩:=r.at' (y xs hq)
  exact⟨Gc,d,Ext.refl s2,e,q.mono s1⟩
theorem CY (hK:X.K=Γ.K)(ha:SE X Γ E a fa La .v):SI X Γ E tg a (dE fa) La .v:=by
 refine PI.post (ye ha) fun σ H Q ⟨env,G,B,β,I,o⟩=>?_
 refine⟨env,G,B,β,I,o.bnd.imp fun d1 β1 h x G1 H1 I1 s1 m1 vx=>?_⟩
 obtain⟨ds,e,k⟩:=h.of
 rw[hK]
 have vx:Rp Γ.K G1 x d1:=vx
 cases d1 with
 |list l=>
  cases e
  cases vx with
  | @lst p xs _ hq r=>exact⟨p,xs,rfl,.inl ⟨.inl (Rd.mono (.inl hq) I1.sub),k _ G1 H1 I1 s1 m1 (iE (fun Gc H t1 t2 _=>.inl (Rd.mono (.inl hq) (t1.trans t2))) r)⟩⟩
 |tuple l=>
  cases e
  cases vx with
  | @tup p xs _ hq r=>exact⟨p,xs,rfl,.inr ⟨hq.grow I1.sub.grow,k _ G1 H1 I1 s1 m1 (nv (fun Gc H t1 t2 _=>hq.grow (t1.trans t2).grow) r)⟩⟩
 |_=>cases e
theorem rO (hK:X.K=Γ.K)(ha:SE X Γ E a fa La ma):SI X Γ E tg a (dE fa) La .b:=by
 refine PI.post (ye ha) fun σ H Q ⟨env,G,B,β,I,o⟩=>?_
 refine⟨env,G,B,β,I,o.bnd.imp fun d1 β1 h x G1 H1 I1 s1 m1 vx=>?_⟩
 obtain⟨ds,e,k⟩:=h.of
 rw[hK]
 have vx:=vx.brw I.boxThere
 cases d1 with
 |list l=>
  cases e
  rcases vx with vx | ⟨p,rfl,hb,xs,q,r⟩
  ·cases vx with
   | @lst p xs _ hq r=>exact⟨p,xs,rfl,.inl ⟨.inl (Rd.mono (.inl hq) I1.sub),k _ G1 H1 I1 s1 m1 (iE (fun Gc H t1 t2 _=>.inl (Rd.mono (.inl hq) (t1.trans t2))) r)⟩⟩
  ·exact⟨p,xs,rfl,.inl ⟨.inl (.inl q),k _ G1 H1 I1 s1 m1 (iE (fun Gc H t1 t2 mv=>.inl (.inl (mv p _ q hb))) r)⟩⟩
 |tuple l=>
  cases e
  rcases vx with vx | ⟨p,rfl,hb,q⟩
  ·cases vx with
   | @tup p xs _ hq r=>exact⟨p,xs,rfl,.inr ⟨hq.grow I1.sub.grow,k _ G1 H1 I1 s1 m1 (nv (fun Gc H t1 t2 _=>hq.grow (t1.trans t2).grow) r)⟩⟩
  ·exact q.elim
 |_=>cases e
def cG (lo:Int)(n:Nat):List D:=(List.range n).map fun (k:Nat)=>PyData.int (lo + k)
theorem gc (lo:Int)(n:Nat):(cG lo n).length=n:=by unfold cG;simp
theorem ug {K:PySem.W.Frag}{B:Option Addr}{G H1:Hp}(lo:Int)(n:Nat):Walk K B G H1 (cG lo n) (B4 lo n):=fun Gc H i s1 s2 m=>by
 rw[gc]
 refine⟨fun hi=>⟨hi,fun x H' y=>?_⟩,fun hi=>hi⟩
 obtain⟨rfl,rfl⟩:=y
 refine⟨Gc,.int (lo + i),Ext.refl s2,?_,.int _⟩
 unfold cG
 rw[List.getElem?_map,List.getElem?_range hi];rfl
def yb (j:Int):Bool:=Nat.ble j.natAbs 1000000
theorem td {j:Int}(h:yb j=true): -(2 ^ 62)<=j/\j < 2 ^ 62:=by
 have:=Nat.le_of_ble_eq_true h
 omega
theorem sy {j:Int}(h: -1000<=j)(h2:j<=10000):yb j=true:=Nat.ble_eq_true_of_le (by omega)
def dO (fa:VF D):VF (List D):=fun vs β=>(fa vs β).bnd fun x β1=>match x with
 | .int j=>if yb j=true then .ok (cG 0 j.toNat) β1 else .bad
 |_=>.bad
theorem kX {p:Pos}(hg:Gl X "range")(hm:X.mg "range"=none)(ha:SE X Γ E a fa La ma)(hs:starEach [a] X.env= [(false,eval a X.env)]:=by rfl)(hs':starEach [a] X.env=(false,eval a X.env) :: starEach [] X.env:=by rfl):SI X Γ E tg (.Call (.Name "range" p) [a] [] pos) (dO fa) La md:=by
 refine PI.post (rN hg hm (ag ha ay hs') hs) fun σ H Q ⟨env,G,B,β,I,o⟩=>?_
 refine⟨env,G,B,β,I,o.bnd.imp fun d1 β1 h x G1 H1 I1 s1 m1 vx=>?_⟩
 have vx:=vx.brw I.boxThere
 cases d1 with
 |int j=>
  obtain rfl:=vx.int
  dsimp only at h
  by_cases hj:yb j=true
  ·rw[if_pos hj] at h
   exact⟨j,rfl,(td hj).1,(td hj).2,h _ G1 H1 I1 s1 m1 (ug 0 _)⟩
  ·rw[if_neg hj] at h;exact h.elim
 |_=>exact h.elim
inductive Tg where
 |nm (i:Nat)
 |two (i j:Nat)
def pairD:D->Option (D×D)
 | .tuple [x,y]=>some (x,y)
 |_=>none
theorem vd {d x y:D}(h:pairD d=some (x,y)):d=.tuple [x,y]:=by
 unfold pairD at h
 split at h
 ·cases h;rfl
 ·cases h
def cY:Tg->D->En->Option En
 | .nm i,d,env=>some (env.set i (.fz d))
 | .two i j,d,env=>(pairD d).map fun p=>(env.set i (.fz p.1)).set j (.fz p.2)
def iY:Tg->D->List Nv->Option (List Nv)
 | .nm i,d,vs=>some (vs.set i (.da d))
 | .two i j,d,vs=>(pairD d).map fun p=>(vs.set i (.da p.1)).set j (.da p.2)
theorem o4 (env:En)(i:Nat)(s:Sl):vl (env.set i s)=(vl env).set i s.val:=by unfold vl;rw[List.map_set]
theorem wJ (t:Tg)(d:D)(env:En):(cY t d env).map vl=iY t d (vl env):=by
 cases t with
 |nm i=>show some (vl _)=some _;rw[o4];rfl
 |two i j=>
  show ((pairD d).map _).map vl=(pairD d).map _
  cases pairD d with
  |none=>rfl
  |some p=>show some (vl _)=some _;rw[o4,o4];rfl
def gT (Γ:Fx)(t:Tg):TG:=fun v σ H Q=>∃env G B β d env',SR Γ B G H σ env β/\Rp Γ.K G v d/\cY t d env=some env'/\∀σ',SR Γ B G H σ' env' β->Q σ' H
def SG (X:Cx)(Γ:Fx)(tg:Expr)(t:Tg):Prop:=PG X tg (gT Γ t)
theorem PG.post {X:Cx}{tg:Expr}{t u:TG}(h:PG X tg t)(m:∀v σ H Q,u v σ H Q->t v σ H Q):PG X tg u:=fun pins s σ H v uu Q I r q=>h pins s σ H v uu Q I r (m v σ H Q q)
theorem ff {i:Nat}{x:Str}(hN:X.N.Nodup)(hi:X.N[i]? =some x:=by rfl)(hx:Loc X.env.scope x:=by first |exact Or.inl rfl |exact Or.inr rfl)(hf:X.fn x=true\/X.env.scope.names.lookup x=some .local:=by first |exact .inl rfl |exact .inr rfl |assumption):SG X Γ (.Name x pos) (.nm i):=by
 refine PG.post (hJ hN hi hx hf) fun v σ H Q ⟨env,G,B,β,d,env',I,r,e,k⟩=>?_
 cases e
 exact k _ (I.set' i r)
theorem vS {i j:Nat}{x y:Str}{px py:Pos}{n:Nat}(hN:X.N.Nodup)(hc:X.calm=true:=by rfl)(hK:X.K=Γ.K:=by rfl)(hi:X.N[i]? =some x:=by rfl)(hj:X.N[j]? =some y:=by rfl)(hx:Loc X.env.scope x:=by first |exact Or.inl rfl |exact Or.inr rfl)(hy:Loc X.env.scope y:=by first |exact Or.inl rfl |exact Or.inr rfl)
  (hf:X.fn x=true\/X.env.scope.names.lookup x=some .local:=by first |exact .inl rfl |exact .inr rfl |assumption) (hf':X.fn y=true\/X.env.scope.names.lookup y=some .local:=by first |exact .inl rfl |exact .inr rfl |assumption):SG X Γ (.Tuple [.Name x px,.Name y py] n pos) (.two i j):=by
 refine PG.post (uO (n:=2) hc (ic (hJ hN hi hx hf) (ic (hJ hN hj hy hf') qq))) fun v σ H Q ⟨env,G,B,β,d,env',I,r,e,k⟩=>?_
 rw[hK]
 have e:(pairD d).map (fun p=>(env.set i (.fz p.1)).set j (.fz p.2))=some env':=e
 cases q:pairD d with
 |none=>rw[q] at e;cases e
 |some p=>
  obtain⟨dx,dy⟩:=p
  rw[q] at e
  cases e
  obtain rfl:=vd q
  cases r with
  | @tup p xs _ hq r=>
   cases r with
   |cons r1 r=>
    cases r with
    |cons r2 r=>
     cases r
     exact⟨p,_,rfl,hq.grow I.sub.grow,rfl,_,_,rfl,_,_,rfl,rfl,k _ ((I.set' i r1).set' j r2)⟩
def lG (t:Tg)(m:SF):List D->SF
 | []=>fun env β=>.nx env β
 |d :: ds=>fun env β=>match cY t d env with
  |none=>.bad
  |some env1=>match m env1 β with
   | .nx env2 β2=>lG t m ds env2 β2
   | .ct env2 β2=>lG t m ds env2 β2
   | .bk env2 β2=>.nx env2 β2
   |r=>r
def e7 (t:Tg)(L:List Nat)(fi:VF (List D))(m:SF):SF:=fun env β=>toS (fi (vl env) β) fun ds β'=>lG t m ds (aC L env) β'
theorem gO {t:Tg}{fi:VF (List D)}{x:List Stmt}(hp:PassesOwn (model X.prog X.w) X.A X.env X.xe)(hc:X.calm=true)(hi:SI X Γ E tg e fi L .v)(hg:SG X Γ tg t)(hb:sU X Γ E x m)(hs:∀x,foldedSetIterable e X.env x=pure x:=by intro _;rfl):SS X Γ E (.For tg e x [] pos) (e7 t L fi m):=by
 refine PS.post (zc hp hc hi hg hb hs) fun N σ H ⟨env,G,B,β,I,o⟩=>?_
 refine⟨env,G,B,β,I,aQ o fun ds β' q J G' H' I' s' m' w=>?_⟩
 have w:Walk Γ.K B G' (fun _=>none) ds J:=w
 refine⟨fun i n σ H=>n=ds.length - i/\i<=ds.length/\∃env G1 B β,SR Γ B G1 H σ env β/\ah G' G1/\ky Γ E G1 N (lG t m (ds.drop i) env β),⟨ds.length,by simp,Nat.zero_le _,aC L env,G',B,β',I',ah.refl _,by rw[List.drop_zero];exact ky.weak q s'⟩,?_⟩
 rintro i n σ H ⟨rfl,hi,env,G1,B1,β1,I1,s1,q⟩
 obtain⟨w1,w2⟩:=w G1 H i s1 I1.sub fun b o e=>by cases e
 by_cases hlt:i < ds.length
 ·obtain⟨go,yl⟩:=w1 hlt
  refine .inr ⟨go,fun σ H=>∃env G2 B β,SR Γ B G2 H σ env β/\ah G' G2/\ky Γ E G2 N (lG t m (ds.drop (i + 1)) env β),fun σ2 H2 h=>⟨ds.length - (i + 1),by omega,rfl,hlt,h⟩,fun x H2 y=>?_⟩
  obtain⟨G2,d,x2,ed,rd⟩:=yl x H2 y
  have I2:=I1.ext x2
  have q:=ky.weak q x2.gg
  rw[List.drop_eq_getElem_cons hlt] at q
  have ed':ds[i]=d:=by rw[List.getElem?_eq_getElem hlt] at ed;exact Option.some.inj ed
  rw[ed'] at q
  unfold lG at q
  cases eb:cY t d env with
  |none=>rw[eb] at q;exact q.elim
  |some env1=>
   rw[eb] at q
   refine⟨env,G2,B1,β1,d,env1,I2,rd,eb,fun σ3 I3=>⟨env1,G2,B1,β1,I3,?_⟩⟩
   have s2:=s1.trans x2.gg
   dsimp only at q
   cases r:m env1 β1 with
   |nx env2 β2=>rw[r] at q;exact fun B2 G3 H3 σ2 I2 s3=>⟨env2,G3,B2,β2,I2,s2.trans s3,ky.weak q s3⟩
   |ct env2 β2=>rw[r] at q;exact fun B2 G3 H3 σ2 I2 s3=>⟨env2,G3,B2,β2,I2,s2.trans s3,ky.weak q s3⟩
   |bk env2 β2=>rw[r] at q;exact fun B2 G3 H3 σ2 I2 s3=>q B2 G3 H3 σ2 I2 s3
   |rt d fr β2=>rw[r] at q;exact q
   |exc c=>rw[r] at q;exact q
   |bad=>rw[r] at q;exact q
 ·have e:i=ds.length:=by omega
  subst e
  rw[List.drop_length] at q
  exact .inl ⟨w2 (Nat.le_refl _),q B1 G1 H σ I1 (ah.refl _)⟩
end
end L2

end

section
namespace L2
open PySem PySem.Spec PyProof.Rows
abbrev Fx.dX (Γ:Fx)(H0 G0:Hp)(par:List Addr)(br:Nat->Bool)(bx:Option Addr):Fx:=⟨Γ.K,H0,G0,par,Γ.ca,br,bx⟩
def cK (own:Nat)(ixs:List Nat)(vs:List Nv):List Nv:=List.replicate own .no ++ ixs.map fun i=>(vs[i]?).getD .no
def BM:Option Sl->Sl
 |some (.ow d)=>.br d
 |some s=>s
 |none=>.no
def benv (own:Nat)(ixs:List Nat)(env:En):En:=List.replicate own .no ++ ixs.map fun i=>BM env[i]?
theorem v9 (o:Option Sl):(BM o).val=(o.map Sl.val).getD .no:=by
 cases o with
 |none=>rfl
 |some s=>cases s <;> rfl
theorem wO (own:Nat)(ixs:List Nat)(env:En):vl (benv own ixs env)=cK own ixs (vl env):=by
 unfold vl benv cK
 rw[List.map_append,List.map_replicate,List.map_map]
 congr 1
 refine List.map_congr_left fun i _=>?_
 show (BM env[i]?).val=_
 rw[v9,List.getElem?_map]
def ph (env:En):Prop:=∀(i:Nat) (d:D),env[i]?≠some (.ow d)
theorem nZ {env:En}(h:ph env)(L:List Nat):aC L env=env:=by
 unfold aC
 induction L with
 |nil=>rfl
 |cons i L ih=>
  rw[List.foldl_cons]
  have:dU env i=env:=by
   unfold dU
   split
   ·rename_i d e;exact absurd e (h i d)
   ·rfl
  rw[this];exact ih
theorem kY (own:Nat)(ixs:List Nat)(env:En):ph (benv own ixs env):=fun i d e=>by
 unfold benv at e
 have hm:=List.mem_of_getElem? e
 rcases List.mem_append.mp hm with h |h
 ·have:=List.eq_of_mem_replicate h;cases this
 ·obtain⟨k,_,hk⟩:=List.mem_map.mp h
  cases q:env[k]? with
  |none=>rw[q] at hk;cases hk
  |some s=>rw[q] at hk;cases s <;> cases hk
theorem jL {env:En}(h:ph env)(i:Nat)(d:D):ph (env.set i (.fz d)):=fun j d' e=>by
 by_cases z:i=j
 ·subst z
  by_cases hi:i < env.length
  ·rw[List.getElem?_set_self hi] at e;cases e
  ·rw[List.set_eq_of_length_le (by omega)] at e;exact h _ _ e
 ·rw[List.getElem?_set_ne z] at e;exact h _ _ e
theorem rY {env env1:En}{t:Tg}{d:D}(h:ph env)(e:cY t d env=some env1):ph env1:=by
 cases t with
 |nm i=>cases e;exact jL h i d
 |two i j=>
  have e:(pairD d).map _=some env1:=e
  cases q:pairD d with
  |none=>rw[q] at e;cases e
  |some p=>rw[q] at e;cases e;exact jL (jL h _ _) _ _
theorem rX {env env1:En}{t:Tg}{d:D}(e:cY t d env=some env1)(d':D):cY t d' env1=cY t d' env:=by
 cases t with
 |nm i=>cases e;show some _=some _;rw[List.set_set]
 |two i j=>
  have e:(pairD d).map _=some env1:=e
  cases q:pairD d with
  |none=>rw[q] at e;cases e
  |some p=>
   rw[q] at e;cases e
   show (pairD d').map _=(pairD d').map _
   cases pairD d' with
   |none=>rfl
   |some p'=>
    show some _=some _
    congr 1
    dsimp only
    by_cases z:i=j
    ·subst z;simp[List.set_set]
    ·rw[List.set_comm _ _ (Ne.symm z),List.set_set,List.set_set]
theorem Ext.mov {G H G' H':Hp}(x:Ext G H G' H')(B:Option Addr):dh B H H':=x.hh.mov B
section
variable {Γ:Fx}{B:Option Addr}{G H G1 H1 Gc Hc:Hp}{σ σ':St}{env envb:En}{β β':Int}{own:Nat}{ixs:List Nat}{Da:Addr}{acc:List V}
def oS (envb:En):Nat->Bool:=fun j=>match envb[j]? with
 |some (.br _)=>true
 |_=>false
theorem SR.block (I:SR Γ B G H σ env β)(own:Nat)(ixs:List Nat)(hD:H Da=none):SR (Γ.dX (upd H Da (.lst [])) G (Da :: B.toList) (oS (benv own ixs env)) B) B G (upd H Da (.lst [])) (sQ own ixs σ) (benv own ixs env) β:=by
 obtain⟨q1,q2,q3,q4⟩:=I.fresh hD
 have nB:∀b,B=some b->b≠Da:=fun b e z=>q3 (by rw[<-z];exact e)
 refine⟨I.sub.trans (ah.new hD),ah.refl _,fun b _ h=>h,fun b o h _=>h,fun b hb=>?_,fun b e=>e,fun b e=>?_,?_,fun i s e=>?_,fun i j c d d' e=>absurd e (kY own ixs env i d)⟩
 ·rcases List.mem_cons.mp hb with z |z
  ·subst z;exact Mx.lst ai
  ·have z':B=some b:=by simpa using z
   exact Mx.lst (by rw[aq (nB b z')];exact (I.box b z').1)
 ·obtain⟨h1,h2,_⟩:=I.box b e
  exact⟨by rw[aq (nB b e)];exact h1,h2,.inl (List.mem_cons_of_mem _ (by simpa using e))⟩
 ·unfold sQ benv;simp
 ·by_cases hi:i < own
  ·unfold benv at e
   rw[List.getElem?_append_left (by simpa using hi),List.getElem?_replicate,if_pos hi] at e
   cases e;trivial
  ·have e0:=e
   unfold benv at e
   rw[List.getElem?_append_right (by simpa using hi),List.length_replicate,List.getElem?_map] at e
   cases ek:ixs[i - own]? with
   |none=>rw[ek] at e;cases e
   |some k=>
    rw[ek] at e
    have e:BM env[k]? =s:=Option.some.inj e
    have es:(sQ own ixs σ)[i]? =some ((σ[k]?).join):=by
     unfold sQ
     rw[List.getElem?_append_right (by simpa using hi),List.length_replicate,List.getElem?_map,ek];rfl
    rw[es]
    cases q:env[k]? with
    |none=>rw[q] at e;subst e;trivial
    |some t=>
     rw[q] at e
     have w:=I.slot k t q
     cases t with
     |no=>subst e;trivial
     |fz d=>subst e;obtain⟨v,h1,h2⟩:=w;exact⟨v,by rw[h1];rfl,h2⟩
     |bx=>subst e;obtain⟨a,h1,h2⟩:=w;exact⟨a,by rw[h1];rfl,h2⟩
     |ow d=>
      subst e
      obtain⟨a,h1,h2,h3,h4,h5⟩:=w
      obtain⟨o,ho⟩:=h5.obj
      have aD:a≠Da:=aE ho hD
      refine⟨by show oS _ i=true;unfold oS;rw[e0];rfl,a,by rw[h1];rfl,h4,?_,h5.mono (ah.refl _) fun o q=>by rw[aq aD];exact q⟩
      intro hm
      rcases List.mem_cons.mp hm with z |z
      ·exact aD z
      ·exact h4 (by simpa using z)
     |br d=>
      subst e
      obtain⟨b1,a,h1,h4,hp,h5⟩:=w
      obtain⟨o,ho⟩:=h5.obj
      have aD:a≠Da:=aE ho hD
      refine⟨by show oS _ i=true;unfold oS;rw[e0];rfl,a,by rw[h1];rfl,h4,?_,h5.mono (ah.refl _) fun o q=>by rw[aq aD];exact q⟩
      intro hm
      rcases List.mem_cons.mp hm with z |z
      ·exact aD z
      ·exact h4 (by simpa using z)
theorem SR.unblock (I:SR Γ B G H σ env β){br:Nat->Bool}(hD:H Da=none)(J:SR (Γ.dX (upd H Da (.lst [])) G (Da :: B.toList) br B) B Gc Hc σ' envb β'):SR Γ B Gc Hc σ env β'/\dh B H Hc/\Gc Da=none:=by
 obtain⟨q1,q2,q3,q4⟩:=I.fresh hD
 have up:∀{b:Addr},Mx H b->Mx (upd H Da (.lst [])) b:=fun {b} h=>h.same fun o e=>by rw[aq (aE e hD)];exact e
 have mv:dh B H Hc:=fun b o e n=>J.keep b o (show upd H Da (.lst []) b=some o by rw[aq (aE e hD)];exact e) fun hm=>by
  rcases List.mem_cons.mp hm with z |z
  ·rw[z,hD] at e;cases e
  ·exact n (by simpa using z)
 refine⟨⟨J.sub,I.old.trans J.old,fun b h1 h2=>J.new b (up (I.thereM h1)) (I.new b h1 h2),fun b o h1 h2=>mv b o (I.keep b o h1 h2) fun z=>?_,fun b hb=>J.thereM (up (I.pin b hb)),I.fix,fun b e=>?_,I.len,fun i s e=>?_,I.sep⟩,mv,J.new Da (Mx.lst (show upd H Da (.lst []) Da=some (.lst []) from ai)) q2⟩
 ·obtain⟨_,_,h3⟩:=I.box b z
  rcases h3 with h3 |h3
  ·exact h2 h3
  ·rw[h1] at h3;cases h3
 ·obtain⟨j1,j2,_⟩:=J.box b e
  exact⟨j1,j2,(I.box b e).2.2⟩
 ·have w:=I.slot i s e
  cases s with
  |no=>trivial
  |fz d=>obtain⟨v,h1,h2⟩:=w;exact⟨v,h1,h2.mono J.old⟩
  |bx=>exact w
  |ow d=>
   obtain⟨a,h1,h2,h3,h4,h5⟩:=w
   exact⟨a,h1,h2,J.new a (up h5.mx) h3,h4,h5.mono J.old fun o q=>mv a o q h4⟩
  |br d=>
   obtain⟨b1,a,h1,h4,hp,h5⟩:=w
   exact⟨b1,a,h1,h4,hp,h5.mono J.old fun o q=>mv a o q h4⟩
theorem SR.updD {ys:List V}(J:SR Γ B G H σ env β)(hp:Da∈Γ.par)(h0:Mx Γ.H0 Da)(g0:Γ.G0 Da=none)(hB:B≠some Da):SR Γ B G (upd H Da (.lst ys)) σ env β:=by
 have gD:=J.new Da h0 g0
 refine⟨fun b u q=>by rw[aq (fun z=>by rw[z,gD] at q;cases q)];exact J.sub b u q,J.old,J.new,fun b u q n=>by rw[aq (fun z=>n (by rw[z];exact hp))];exact J.keep b u q n,fun b hb=>?_,J.fix,fun b e=>?_,J.len,fun i s e=>?_,J.sep⟩
 ·by_cases z:b=Da
  ·subst z;exact Mx.lst ai
  ·exact (J.pin b hb).same fun o e=>by rw[aq z];exact e
 ·obtain⟨h1,h2⟩:=J.box b e
  exact⟨by rw[aq (fun z=>hB (by rw[<-z];exact e))];exact h1,h2⟩
 ·have w:=J.slot i s e
  cases s with
  |no=>trivial
  |fz d=>exact w
  |bx=>exact w
  |ow d=>
   obtain⟨a,h1,h2,h3,h4,h5⟩:=w
   have aD:a≠Da:=fun z=>h0.1 (by rw[<-z];exact h2)
   exact⟨a,h1,h2,h3,h4,h5.mono (ah.refl _) fun o q=>by rw[aq aD];exact q⟩
  |br d=>
   obtain⟨b1,a,h1,h4,hpa,h5⟩:=w
   have aD:a≠Da:=fun z=>hpa (by rw[z];exact hp)
   exact⟨b1,a,h1,h4,hpa,h5.mono (ah.refl _) fun o q=>by rw[aq aD];exact q⟩
end
def R.okb {α γ:Type}(r:R α)(k:α->Int->R γ):R γ:=match r with
 | .ok a β=>k a β
 |_=>.bad
def de (t:Tg)(ft:VF Bool)(fe:VF D)(vs:List Nv):List D->Int->R (List D)
 | [],β=>.ok [] β
 |d :: ds,β=>match iY t d vs with
  |none=>.bad
  |some vs1=>(ft vs1 β).okb fun c β1=>if c=true then (fe vs1 β1).okb fun x β2=>(de t ft fe vs ds β2).okb fun xs β3=>.ok (x :: xs) β3 else de t ft fe vs ds β1
def ba (own:Nat)(ixs:List Nat)(t:Tg)(fi:VF (List D))(ft:VF Bool)(fe:VF D):VF D:=fun vs β=>(fi vs β).bnd fun ds β1=>if ds.length<=sizeLine then (de t ft fe (cK own ixs vs) ds β1).okb fun xs β2=>.ok (.list xs) β2 else .bad
def qh:VF Bool:=fun _ β=>.ok true β
def yv (own:Nat)(ixs Lc:List Nat)(j:Nat):Bool:=decide (j < own) || (match ixs[j - own]? with
 |some i=>Lc.contains i
 |none=>false)
theorem xk {α γ:Type}{Γ:Fx}{E:XK}{r:R α}{k:α->Int->R γ}{P:γ->Int->Prop}(h:Out Γ E (r.okb k) P):∃a β,r=.ok a β/\Out Γ E (k a β) P:=by
 cases r with
 |ok a β=>exact⟨a,β,rfl,h⟩
 |exc c=>exact h.elim
 |bad=>exact h.elim
section
variable {X:Cx}{Γ:Fx}{E:XK}{tg iter elt:Expr}{ifs:List Expr}{scope:Scope}{NB:List Str}{own:Nat}{ixs Li Lc Lt Le:List Nat}{t:Tg}{fi:VF (List D)}{ft:VF Bool}{fe:VF D}{pos:Pos}
theorem gZ {X:Cx}{Γ:Fx}{E:XK}:vU X [] (qT Γ E qh []):=fun pins s σ H Q I ⟨env,G,B,β,J,o⟩=>xP pins s σ H Q I (o G H J (ah.refl _) (dh.refl _ _))
theorem pZ {X:Cx}{Γ:Fx}{E:XK}{c:Expr}{ta:VF Bool}{L:List Nat}(h:sP X Γ E c ta L):vU X [c] (qT Γ E ta L):=wm h
theorem qL {NB:List Str}{scope:Scope}{C:Addr}{ex:List Addr}{s3:Shared}{H3:Hp}{pn:List (Addr×Obj)}{P:Program}{w:World}:Passes (ir P w) (dX X NB scope C ex s3 H3 pn) E0:=fun pins σ H s e s' I h=>by
 obtain⟨_,_,_,_,_,_,_,_,_,q⟩:=h
 exact q.elim
abbrev gU (Γ:Fx)(t:Tg):TG:=fun v σ H Q=>∃H0 G0 par br bx,gT (Γ.dX H0 G0 par br bx) t v σ H Q
abbrev tU (Γ:Fx)(own:Nat)(ixs Lc:List Nat)(ft:VF Bool)(Lt:List Nat):TT:=fun σ H Q=>∃H0 G0 par br bx,(∀j,yv own ixs Lc j=true->br j=false)/\qT (Γ.dX H0 G0 par br bx) E0 ft Lt σ H Q
abbrev eU (Γ:Fx)(own:Nat)(ixs Lc:List Nat)(fe:VF D)(Le:List Nat):TE:=fun σ H Q=>∃H0 G0 par br bx,(∀j,yv own ixs Lc j=true->br j=false)/\pT (Γ.dX H0 G0 par br bx) E0 fe Le .v σ H Q
theorem yr {σ:St}{H:Hp}{Q:VK}(hLc:∀i,i∈Lc->Γ.br i=false)(h:pT Γ E (ba own ixs t fi ft fe) (Li ++ Lc) .w σ H Q):pJ own ixs (iT Γ E fi Li .b) (gU Γ t) (tU Γ own ixs Lc ft Lt) (eU Γ own ixs Lc fe Le) σ H Q:=by
 obtain⟨env,G,B,β,I,o⟩:=h
 refine⟨env,G,B,β,I,o.bnd.imp fun ds β1 h J G1 H1 I1 s1 m1 wk Da hD=>?_⟩
 have wk:Walk Γ.K B G1 H1 ds J:=wk
 by_cases hz:ds.length<=sizeLine
 case neg=>rw[if_neg hz] at h;exact h.elim
 rw[if_pos hz] at h
 obtain⟨xs0,β0,e0,h⟩:=xk h
 have h:∀v G' H',SR Γ B G' H' σ (aC (Li ++ Lc) env) β0->ah G G'->dh B H H'->VO Γ.K B H G' H' .w (.list xs0) v->Q v H':=h
 obtain⟨G2,I2,s2⟩:=I1.aC Lc hLc
 rw[<-aN] at I2
 obtain⟨q1,q2,q3,q4⟩:=I2.fresh hD
 have Ib0:=I2.block own ixs hD
 generalize hbr:oS (benv own ixs (aC (Li ++ Lc) env))=br at Ib0
 have hbo:∀j,yv own ixs Lc j=true->br j=false:=by
  intro j hj
  rw[<-hbr]
  unfold oS
  split
  ·rename_i d e
   exfalso
   unfold benv at e
   by_cases hjo:j < own
   ·rw[List.getElem?_append_left (by simpa using hjo),List.getElem?_replicate,if_pos hjo] at e;cases e
   ·rw[List.getElem?_append_right (by simpa using hjo),List.length_replicate,List.getElem?_map] at e
    unfold yv at hj
    rw[decide_eq_false hjo,Bool.false_or] at hj
    cases ek:ixs[j - own]? with
    |none=>rw[ek] at hj;cases hj
    |some k=>
     rw[ek] at hj e
     have hk:k∈Lc:=by simpa using hj
     have e:BM (aC (Li ++ Lc) env)[k]? =.br d:=Option.some.inj e
     cases q:(aC (Li ++ Lc) env)[k]? with
     |none=>rw[q] at e;cases e
     |some s=>
      rw[q] at e
      cases s with
      |no=>cases e
      |fz _=>cases e
      |bx=>cases e
      |br d'=>
       obtain⟨b1,_⟩:=I2.slot k _ q
       rw[hLc k hk] at b1;cases b1
      |ow d'=>
       rw[aN] at q
       have key:∀(M:List Nat) (en:En),k∈M->∀d',(aC M en)[k]?≠some (.ow d'):=by
        intro M
        induction M with
        |nil=>intro en hm;cases hm
        |cons i M ih=>
         intro en hm d' z
         rcases List.mem_cons.mp hm with y |y
         ·subst y
          have z1:(dU en k)[k]? =some (.ow d'):=me (L:=M) z
          have z2:=qe z1
          unfold dU at z1
          rw[z2] at z1
          dsimp only at z1
          rw[List.getElem?_set_self (List.getElem?_eq_some_iff.mp z2).1] at z1;cases z1
         ·exact ih (dU en i) y d' z
       exact key Lc _ hk d' q
  ·rfl
 have evb:vl (benv own ixs (aC (Li ++ Lc) env))=cK own ixs (vl env):=by rw[wO,bw]
 refine⟨fun i n σ' H'=>n=ds.length - i/\i<=ds.length/\∃envb Gc β' acc accd,SR (Γ.dX (upd H1 Da (.lst [])) G2 (Da :: B.toList) br B) B Gc H' σ' envb β'/\(envb=benv own ixs (aC (Li ++ Lc) env)\/∃d,cY t d (benv own ixs (aC (Li ++ Lc) env))=some envb)/\
   H' Da=some (.lst acc)/\a9 Γ.K Gc acc accd/\accd.length<=i/\∃xs,de t ft fe (cK own ixs (vl env)) (ds.drop i) β'=.ok xs β0/\accd ++ xs=xs0,
  ⟨ds.length,by simp,Nat.zero_le _,_,G2,β1,[],[],Ib0,.inl rfl,ai,.nil,Nat.zero_le _,xs0,by rw[List.drop_zero];exact e0,rfl⟩,?_⟩
 rintro i n σ' H' ⟨rfl,hi',envb,Gc,β',acc,accd,Ib,eb,hacc,racc,lacc,xs,ec,exs⟩
 obtain⟨Io,mv,gD⟩:=I2.unblock hD Ib
 obtain⟨w1,w2⟩:=wk Gc H' i (s2.trans Ib.old) Ib.sub mv
 by_cases hlt:i < ds.length
 ·obtain⟨go,yl⟩:=w1 hlt
  refine .inr ⟨go,fun σ' H'=>∃envb Gc β' acc accd,SR (Γ.dX (upd H1 Da (.lst [])) G2 (Da :: B.toList) br B) B Gc H' σ' envb β'/\(envb=benv own ixs (aC (Li ++ Lc) env)\/∃d,cY t d (benv own ixs (aC (Li ++ Lc) env))=some envb)/\
   H' Da=some (.lst acc)/\a9 Γ.K Gc acc accd/\accd.length<=i + 1/\∃xs,de t ft fe (cK own ixs (vl env)) (ds.drop (i + 1)) β'=.ok xs β0/\accd ++ xs=xs0,fun σ2 H2 hh=>⟨ds.length - (i + 1),by omega,rfl,hlt,hh⟩,fun x H2 y=>?_⟩
  obtain⟨G3,d,x3,ed,rd⟩:=yl x H2 y
  have I3:=Ib.ext x3
  have ed':ds[i]=d:=by rw[List.getElem?_eq_getElem hlt] at ed;exact Option.some.inj ed
  rw[List.drop_eq_getElem_cons hlt,ed'] at ec
  unfold de at ec
  cases ebv:iY t d (cK own ixs (vl env)) with
  |none=>rw[ebv] at ec;cases ec
  |some vs1=>
   rw[ebv] at ec
   dsimp only at ec
   obtain⟨env1,eb1,ev1⟩:∃env1,cY t d (benv own ixs (aC (Li ++ Lc) env))=some env1/\vl env1=vs1:=by
    have:=wJ t d (benv own ixs (aC (Li ++ Lc) env))
    rw[evb,ebv] at this
    cases q:cY t d (benv own ixs (aC (Li ++ Lc) env)) with
    |none=>rw[q] at this;cases this
    |some env1=>rw[q] at this;exact⟨env1,rfl,Option.some.inj this⟩
   have eb2:cY t d envb=some env1:=by
    rcases eb with rfl | ⟨d0,eb⟩
    ·exact eb1
    ·rw[rX eb];exact eb1
   have no1:ph env1:=rY (kY _ _ _) eb1
   have a2:H2 Da=some (.lst acc):=x3.hh _ _ hacc
   refine⟨_,_,_,_,_,envb,G3,B,β',d,env1,I3,rd,eb2,fun σ3 I4=>?_⟩
   refine⟨_,_,_,_,_,hbo,env1,G3,B,β',I4,?_⟩
   rw[ev1]
   cases et:ft vs1 β' with
   |exc c=>rw[et] at ec;cases ec
   |bad=>rw[et] at ec;cases ec
   |ok c β2=>
    rw[et] at ec
    intro G4 H4 I5 s4 m4
    rw[nZ no1] at I5
    have a4:H4 Da=some (.lst acc):=m4 _ _ a2 q3
    cases c with
    |false=>
     refine ku ⟨env1,G4,β2,acc,accd,I5,.inr ⟨d,eb1⟩,a4,racc.mono (x3.gg.trans s4),by omega,xs,?_,exs⟩
     exact ec
    |true=>
     refine oE ⟨_,_,_,_,_,hbo,env1,G4,B,β2,I5,?_⟩
     rw[ev1]
     have ec:((fe vs1 β2).okb fun x β3=>(de t ft fe (cK own ixs (vl env)) (ds.drop (i + 1)) β3).okb fun xs β4=>R.ok (x :: xs) β4)=R.ok xs β0:=ec
     cases ee:fe vs1 β2 with
     |exc c=>rw[ee] at ec;cases ec
     |bad=>rw[ee] at ec;cases ec
     |ok dx β3=>
      rw[ee] at ec
      intro v G5 H5 I6 s5 m5 vo
      rw[nZ no1] at I6
      have a5:H5 Da=some (.lst acc):=m5 _ _ a4 q3
      have ec:((de t ft fe (cK own ixs (vl env)) (ds.drop (i + 1)) β3).okb fun xs β4=>R.ok (dx :: xs) β4)=R.ok xs β0:=ec
      cases er:de t ft fe (cK own ixs (vl env)) (ds.drop (i + 1)) β3 with
      |exc c=>rw[er] at ec;cases ec
      |bad=>rw[er] at ec;cases ec
      |ok ys β4=>
       rw[er] at ec
       cases ec
       refine⟨acc,a5,by rw[racc.len];omega,env1,G5,β3,acc ++ [v],accd ++ [dx],?_,.inr ⟨d,eb1⟩,ai,(racc.mono ((x3.gg.trans s4).trans s5)).snoc vo,by rw[List.length_append];simp;omega,ys,er,by rw[<-exs,List.append_assoc];rfl⟩
       refine I6.updD (List.mem_cons_self ..) (Mx.lst (show upd H1 Da (.lst []) Da=some (.lst []) from ai)) (I2.sub.free hD) q3
 ·have e:i=ds.length:=by omega
  subst e
  rw[List.drop_length] at ec
  cases ec
  rw[List.append_nil] at exs
  subst exs
  refine .inl ⟨w2 (Nat.le_refl _),⟨acc,hacc⟩,h _ Gc H' Io ((s1.trans s2).trans Ib.old) (m1.trans mv) ⟨Da,rfl,cg m1 I1.boxThere hD,gD,acc,hacc,racc⟩⟩
theorem bU (hg:∀H0 G0 par br bx C ex s3 H3 pn,SG (dX X NB scope C ex s3 H3 pn) (Γ.dX H0 G0 par br bx) tg t)(C:Addr)(ex:List Addr)(s3:Shared)(H3:Hp)(pn:List (Addr×Obj)):PG (dX X NB scope C ex s3 H3 pn) tg (gU Γ t):=by
 rintro pins s σ H v u Q I r ⟨H0,G0,par,br,bx,q⟩
 exact hg H0 G0 par br bx C ex s3 H3 pn pins s σ H v u Q I r q
theorem gf (Lc:List Nat)(hc:X.calm=true)(S:cq X NB own ixs scope)(hLc:∀i,i∈Lc->Γ.br i=false)(hi:SI X Γ E tg iter fi Li .b)
  (hg:∀H0 G0 par br bx C ex s3 H3 pn,SG (dX X NB scope C ex s3 H3 pn) (Γ.dX H0 G0 par br bx) tg t)
  (ht:∀H0 G0 par br bx C ex s3 H3 pn,(∀j,yv own ixs Lc j=true->br j=false)->vU (dX X NB scope C ex s3 H3 pn) ifs (qT (Γ.dX H0 G0 par br bx) E0 ft Lt))
  (he:∀H0 G0 par br bx C ex s3 H3 pn,(∀j,yv own ixs Lc j=true->br j=false)->SE (dX X NB scope C ex s3 H3 pn) (Γ.dX H0 G0 par br bx) E0 elt fe Le .v)
  (hs:∀x,foldedSetIterable iter X.env x=pure x:=by intro _;rfl) :
  SE X Γ E (.ListComp elt [⟨tg,iter,ifs,0⟩] scope pos) (ba own ixs t fi ft fe) (Li ++ Lc) .w:=by
 refine PE.post' (tG (g:=gU Γ t) (tt:=tU Γ own ixs Lc ft Lt) (te:=eU Γ own ixs Lc fe Le) hc S hi (bU hg) (fun C ex s3 H3 pn=>?_) (fun C ex s3 H3 pn=>?_) hs) fun σ H Q h=>yr hLc h
 ·rintro pins s σ H Q I ⟨H0,G0,par,br,bx,b,q⟩
  exact ht H0 G0 par br bx C ex s3 H3 pn b pins s σ H Q I q
 ·rintro pins s σ H Q I ⟨H0,G0,par,br,bx,b,q⟩
  exact he H0 G0 par br bx C ex s3 H3 pn b pins s σ H Q I q
theorem xm {i:Nat}{y:Str}{py spos:Pos}(Lc:List Nat)(hc:X.calm=true)(S:cq X NB own ixs scope)(hLc:∀i,i∈Lc->Γ.br i=false)(hi:SI X Γ E tg iter fi Li .b)
  (hg:∀H0 G0 par br bx C ex s3 H3 pn,SG (dX X NB scope C ex s3 H3 pn) (Γ.dX H0 G0 par br bx) tg t)
  (ht:∀H0 G0 par br bx C ex s3 H3 pn,(∀j,yv own ixs Lc j=true->br j=false)->vU (dX X NB scope C ex s3 H3 pn) ifs (qT (Γ.dX H0 G0 par br bx) E0 ft Lt))
  (he:∀H0 G0 par br bx C ex s3 H3 pn,(∀j,yv own ixs Lc j=true->br j=false)->SE (dX X NB scope C ex s3 H3 pn) (Γ.dX H0 G0 par br bx) E0 elt fe Le .v)
  (hN:X.N.Nodup) (hy:X.N[i]? =some y:=by rfl) (hl:X.env.scope.names.lookup y=some .local:=by rfl)
  (hsw:swapsWith (.ListComp elt [⟨tg,iter,ifs,0⟩] scope pos) (some (.Name y py)) spos.line X.env=pure true:=by rfl)
  (hs:∀x,foldedSetIterable iter X.env x=pure x:=by intro _;rfl) :
  SS X Γ E (.Assign [.Name y py] (.ListComp elt [⟨tg,iter,ifs,0⟩] scope pos) spos) (df i (Li ++ Lc) (ba own ixs t fi ft fe)):=by
 refine PS.post (ve (g:=gU Γ t) (tt:=tU Γ own ixs Lc ft Lt) (te:=eU Γ own ixs Lc fe Le) hc S hi (bU hg) (fun C ex s3 H3 pn=>?_) (fun C ex s3 H3 pn=>?_) hN hy hl hsw hs) fun N σ H ⟨env,G,B,β,I,o⟩=>?_
 ·rintro pins s σ H Q I ⟨H0,G0,par,br,bx,b,q⟩
  exact ht H0 G0 par br bx C ex s3 H3 pn b pins s σ H Q I q
 ·rintro pins s σ H Q I ⟨H0,G0,par,br,bx,b,q⟩
  exact he H0 G0 par br bx C ex s3 H3 pn b pins s σ H Q I q
 refine yr hLc ⟨env,G,B,β,I,aQ o fun d β' k v G' H' I' s' m' vo=>?_⟩
 obtain⟨G2,I2,s2,r⟩:=I.letW I' vo
 exact k B G2 H' _ (I2.set' i r) (s'.trans s2)
end
end L2

end

section
namespace L2
open PySem PySem.Spec PyProof.Rows
def fin:SO->FR
 | .nx _ _=>.ok .none false
 | .rt d fr _=>.ok d fr
 | .exc c=>.exc c
 |_=>.bad
def rj (n:Nat)(ds:List D):En:=ds.map Sl.fz ++ List.replicate (n - ds.length) .no
def bu (n p:Nat)(m:SF):List D->FR:=fun ds=>if ds.length=p then fin (m (rj n ds) 0) else .bad
abbrev Fx.fn (K:PySem.W.Frag)(H G:Hp)(ca:Str->Addr):Fx:=⟨K,H,G,[],ca,fun _=>false,none⟩
theorem SR.start {K:PySem.W.Frag}{H G:Hp}{ca:Str->Addr}{N:List Str}{vs:List V}{ds:List D}(s:ah G H)(r:a9 K G vs ds)(hn:ds.length<=N.length):SR (Fx.fn K H G ca) none G H (start N vs) (rj N.length ds) 0:=by
 have hl:=r.len
 refine⟨s,ah.refl _,fun b _ h=>h,fun b o h _=>h,fun b h=>(by cases h),fun b h=>(by cases h),fun b h=>(by cases h),?_,fun i t e=>?_,fun i j a d e h=>?_⟩
 ·unfold L2.start rj;simp;omega
 ·unfold rj at e
  by_cases hi:i < ds.length
  ·rw[List.getElem?_append_left (by simpa using hi),List.getElem?_map,List.getElem?_eq_getElem hi] at e
   cases e
   obtain⟨x,hx,rx⟩:=r.at (List.getElem?_eq_getElem hi)
   refine⟨x,?_,rx⟩
   unfold L2.start
   rw[List.getElem?_append_left (by simpa[hl] using hi),List.getElem?_map,hx];rfl
  ·rw[List.getElem?_append_right (by simpa using hi),List.getElem?_replicate] at e
   split at e
   ·cases e;trivial
   ·cases e
 ·unfold rj at h
  have hm:=List.mem_of_getElem? h
  rcases List.mem_append.mp hm with z |z
  ·obtain⟨_,_,z⟩:=List.mem_map.mp z;cases z
  ·have:=List.eq_of_mem_replicate z;cases this
section
variable {P:Program}{w:World}{K:PySem.W.Frag}{mg:Str->Option Value}{base:Heap}{ca:Str->Addr}
theorem bg {x qual:Str}{st:Stmt}{f:Addr}{fd:FuncData}{N ps:List Str}{k:Nat}{m:SF}(F:sW K x qual st f fd)(S:aF N ps (aj st))
  (hbody:∀(cdv:Value) (A:Around) (outer:List Env) (s:Shared) (H G:Hp) (E:XK),bS k (A.deeper (envOfC qual (aj st) s.heap.objs.size f cdv))->sU (fE (ir P w) P w K mg base N qual (aj st) f cdv A outer s H E) (Fx.fn K H G ca) E (aR st) m) :
  fj P w K mg base (ir P w) (k + 1) f fd ps (vY K ca ps.length (bu N.length ps.length m)):=by
 have hpn:ps.length<=N.length:=by have:=congrArg List.length S.pre;rw[List.length_take] at this;omega
 refine F.yb S (fun vs H Q E h=>?_) (fun cdv A outer s H vs Q E hr h=>?_)
 ·obtain⟨G,ds,sG,hl,r,_⟩:=h
  rw[r.len];exact hl
 ·obtain⟨G,ds,sG,hl,r,h⟩:=h
  refine⟨_,hbody cdv A outer s H G E hr,?_⟩
  have I:=SR.start (ca:=ca) (N:=N) sG r (by omega)
  refine⟨_,G,none,0,I,?_⟩
  unfold bu at h
  rw[if_pos hl] at h
  have fin':∀{B G' H' σ env β},SR (Fx.fn K H G ca) B G' H' σ env β->ah H H':=fun J b o e=>J.keep b o e (fun z=>by cases z)
  cases q:m (rj N.length ds) 0 with
  |nx env β=>rw[q] at h;exact fun B G' H' σ J s'=>h .non G' H' (fin' J) s' J.sub (fun b h1 h2=>J.new b h1 h2) Rp.non
  |bk env β=>rw[q] at h;exact h.elim
  |ct env β=>rw[q] at h;exact h.elim
  |rt d fr β=>
   rw[q] at h
   refine fun B G' H' σ env v J s' rv=>h v G' H' (fin' J) s' J.sub (fun b h1 h2=>J.new b h1 h2) ?_
   cases fr with
   |true=>exact rv
   |false=>exact rv
  |exc c=>rw[q] at h;exact fun H' kp=>h H' fun b o e=>kp b o e (fun z=>by cases z)
  |bad=>rw[q] at h;exact h.elim
theorem wz {n:Nat}{F F':List D->FR}(h:∀ds,ds.length=n->F' ds≠.bad->F ds=F' ds){vs:List V}{H:Hp}{Q:VK}{E:XK}(q:vY K ca n F' vs H Q E):vY K ca n F vs H Q E:=by
 obtain⟨G,ds,s,hl,r,q⟩:=q
 refine⟨G,ds,s,hl,r,?_⟩
 by_cases hb:F' ds=.bad
 ·rw[hb] at q;exact q.elim
 ·rw[h ds hl hb];exact q
theorem fV.imp {x:Str}{ps:List Str}{k:Nat}{F F':List D->FR}(h:fV P w K mg base ca x ps k F)(i:∀ds,F' ds≠.bad->F ds=F' ds):fV P w K mg base ca x ps k F':=by
 obtain⟨f,fd,a,b,c,d⟩:=h.ex
 exact⟨⟨f,fd,a,b,c,d.imp fun vs H Q E q=>wz (fun ds _=>i ds) q⟩,fun ds hn=>h.len ds (by rw[i ds hn];exact hn)⟩
theorem aY {n p:Nat}{m:SF}(ds:List D)(h:bu n p m ds≠.bad):ds.length=p:=by
 unfold bu at h
 by_cases hl:ds.length=p
 ·exact hl
 ·rw[if_neg hl] at h;exact absurd rfl h
theorem jU {N:List Str}{qual:Str}{scope:Scope}{f:Addr}{cd:Value}{A:Around}{outer:List Env}{s0:Shared}{H0:Hp}{E:XK}{Γ:Fx}{x:Str}{C:Addr}{np cpos pos:Pos}{e0:Expr}{es:List Expr}{fr:VF (List D)}{L:List Nat}(q:PySem.W.excIn K C [.type "ValueError",.type "Exception",.type "BaseException",.type "object"] "ValueError.__new__"=true)(hca:Γ.ca x=C)
  (hg:Gl (fE (ir P w) P w K mg base N qual scope f cd A outer s0 H0 E) x) (hm:mg x=some (.ref C)) (ha:SA (fE (ir P w) P w K mg base N qual scope f cd A outer s0 H0 E) Γ E (e0 :: es) fr L)
  (he:starEach (e0 :: es) (envOfC qual scope s0.heap.objs.size f cd)=(false,eval e0 (envOfC qual scope s0.heap.objs.size f cd)) :: starEach es (envOfC qual scope s0.heap.objs.size f cd):=by rfl)
  (hpl:(backTo cpos (starEach es (envOfC qual scope s0.heap.objs.size f cd))).any (·.1)=false:=by rfl) (hdb:(x == ("__debug__":Str))=false:=by decide) :
  SS (fE (ir P w) P w K mg base N qual scope f cd A outer s0 H0 E) Γ E (.Raise (some (.Call (.Name x np) (e0 :: es) [] cpos)) none pos) (fun env β=>toS (fr (vl env) β) fun ds _=>if ds.length<=sizeLine then .exc x else .bad):=by
 refine PS.post (vN PySem.F.excBase_ValueError (by decide +kernel) q hg hm ha he hpl hdb) fun D σ H ⟨env,G,B,β,I,o⟩=>?_
 refine⟨env,G,B,β,I,aQ o fun ds β' k vs G' H' I' s' m' r=>?_⟩
 by_cases hz:ds.length<=sizeLine
 ·rw[if_pos hz] at k
  refine⟨by rw[r.len];exact hz,?_⟩
  have:=k H' (I'.kp (ah.refl _))
  rw[hca] at this
  exact this
 ·rw[if_neg hz] at k;exact k.elim
end
section
variable {X:Cx}{Γ:Fx}{E:XK}{e a b c:Expr}{f fa fb:VF D}{L La Lb:List Nat}{md ma mb:Md}{pos apos cpos np:Pos}
def ip:Option Sl->Bool
 |some (.ow (.list _))=>true
 |_=>false
theorem fZ {o:Option Sl}(h:ip o=true):∃ds,o=some (.ow (.list ds)):=by
 cases o with
 |none=>cases h
 |some s=>
  cases s with
  |ow d=>cases d with
   |list ds=>exact⟨ds,rfl⟩
   |_=>cases h
  |_=>cases h
def yj (i:Nat)(env:En)(β:Int)(g:List D->Option (List D)):SO:=match env[i]? with
 |some (.ow (.list ds))=>(match g ds with
  |some es=>.nx (env.set i (.ow (.list es))) β
  |none=>.bad)
 |_=>.bad
def lJ (i:Nat)(L:List Nat)(f:VF D):SF:=fun env β=>if ip env[i]? =true then toS (f (vl env) β) fun d β'=>yj i (aC L env) β' fun ds=>if ds.length < sizeLine then some (ds ++ [d]) else none else .bad
theorem jg {Γ:Fx}{E:XK}{G:Hp}{N:Ends}{i:Nat}{env:En}{β:Int}{g:List D->Option (List D)}(h:ky Γ E G N (yj i env β g)):∃ds es,env[i]? =some (.ow (.list ds))/\g ds=some es/\ky Γ E G N (.nx (env.set i (.ow (.list es))) β):=by
 unfold yj at h
 split at h
 ·rename_i ds q
  cases e:g ds with
  |none=>rw[e] at h;exact h.elim
  |some es=>rw[e] at h;exact⟨ds,es,q,e,h⟩
 ·exact h.elim
theorem lx (i:Nat){x:Str}(hb:∀j,Γ.br j=false)(he:SE X Γ E e f L .v)(hN:X.N[i]? =some x:=by rfl)(hv:oy X.env.scope x:=by first |exact Or.inl rfl |exact Or.inr (Or.inl rfl) |exact Or.inr (Or.inr rfl))(hd:(x == ("__debug__":Str))=false:=by decide)
  (hcd:(x == ("__classdict__":Str))=false:=by decide)
  (hbase:attributeBase (.Name x np) "append" X.env (eval (.Name x np) X.env)=eval (.Name x np) X.env:=by rfl)
  (hfew:((backTo cpos (starEach [e] X.env)).all (fun x=> !x.1) && (backToKw cpos (keywordEach [] X.env)).all (fun x=>x.1.isSome)
   && decide ([e].length + ([]:List Keyword).length + (if ([]:List Keyword).isEmpty then 0 else 1) < 30))=true:=by rfl)
  (hline:(apos.endLine == cpos.line)=true:=by rfl) (hs:starEach [e] X.env=(false,eval e X.env) :: starEach [] X.env:=by rfl)
  (hsw:swapsWith (.Call (.Attribute (.Name x np) "append" apos) [e] [] cpos) none pos.line X.env=pure false:=by rfl) :
  SS X Γ E (.Expr (.Call (.Attribute (.Name x np) "append" apos) [e] [] cpos) pos) (lJ i L f):=by
 refine PS.post (l4 (jr PySem.F.plainAttrs_list PySem.F.slot_list_append PySem.F.type_list_append iH (cH hN hv hd hcd) (ag he ay hs) hbase hfew hline hs rfl) hsw) fun N σ H ⟨env,G,B,β,I,o⟩=>?_
 unfold lJ at o
 by_cases hO:ip env[i]? =true
 case neg=>rw[if_neg hO] at o;exact o.elim
 rw[if_pos hO] at o
 obtain⟨ds0,q0⟩:=fZ hO
 obtain⟨p,h1,_,_,_,xs,h5,_⟩:=I.slot i _ q0
 refine⟨_,h1,.inl ⟨rfl,xs,.inl (.inl h5)⟩,?_⟩
 refine⟨env,G,B,β,I,aQ o fun d β' k v G' H' I' s' m' vo=>?_⟩
 obtain⟨ds,es,q,eg,k⟩:=jg k
 by_cases hz:ds.length < sizeLine
 case neg=>rw[if_neg hz] at eg;cases eg
 rw[if_pos hz] at eg
 cases eg
 obtain⟨p',g1,_,_,_,ys,g5,g6⟩:=I'.slot i _ q
 rw[h1] at g1;cases g1
 refine⟨p,ys,v,rfl,rfl,g5,by rw[g6.len];exact hz,?_⟩
 exact k B G' _ σ (I'.write hb q h1 fun H2 e2 s2=>⟨_,e2,g6.snoc vo⟩) s'
theorem Inv.lstR {pins:List (Addr×Obj)}{σ:St}{H:Hp}{s:Shared}{l:Addr}{xs:List V}(I:Inv X pins σ H s)(hH:Rd H l (.lst xs)):xs.length<=sizeLine/\∃(its:List Value) (n:Nat),Vals xs its/\xs.length=its.length/\s.heap.get? l=some {cls:=.type "list",data:=.seq its.toArray n}:=by
 obtain⟨z,its,n,r,e⟩:=hH.ok I.hok
 exact⟨z,its,n,r,r.length,e⟩
def oq (i:Nat)(Le Li:List Nat)(fe fi:VF D):SF:=fun env β=>toS (fe (vl env) β) fun d β1=>if ip (aC Le env)[i]? =true then toS (fi (vl env) β1) fun k β2=>yj i (aC (Le ++ Li) env) β2 fun ds=>match k with
 | .int j=>(qj ds.length j).map fun n=>ds.set n d
 |_=>none else .bad
theorem wN (i:Nat){x:Str}{spos:Pos}(hb:∀j,Γ.br j=false)(he:SE X Γ E e f La .v)(hi:SE X Γ E a fa Lb mb)(hN:X.N[i]? =some x:=by rfl)(hv:oy X.env.scope x:=by first |exact Or.inl rfl |exact Or.inr (Or.inl rfl) |exact Or.inr (Or.inr rfl))(hd:(x == ("__debug__":Str))=false:=by decide)
  (hcd:(x == ("__classdict__":Str))=false:=by decide)
  (hA:∀v,assign (.Subscript (.Name x np) a spos) X.env v=(do
   let ov <-holding [v] (eval (.Name x np) X.env)
   let iv <-holding [v,ov] (eval a X.env)
   standAt spos
   holding [v,ov,iv] (setItem ov iv v)
   release [v,ov,iv] []):=by intro _;rfl)
  (hs:swapsWithSole [.Subscript (.Name x np) a spos] e pos.line X.env=pure false:=by rfl) (hw:swappedStores [.Subscript (.Name x np) a spos] e X.env=pure none:=by rfl)
  (h1:(assignEach [.Subscript (.Name x np) a spos] X.env).map (·.2)= [assign (.Subscript (.Name x np) a spos) X.env]:=by rfl) :
  SS X Γ E (.Assign [.Subscript (.Name x np) a spos] e pos) (oq i La Lb f fa):=by
 refine PS.post (oN he (uC (cH hN hv hd hcd) hi set_list hA) hs hw h1) fun N σ H ⟨env,G,B,β,I,o⟩=>?_
 refine⟨env,G,B,β,I,aQ o fun d β1 o v G1 H1 I1 s1 m1 vo=>?_⟩
 by_cases hO:ip (aC La env)[i]? =true
 case neg=>rw[if_neg hO] at o;exact o.elim
 rw[if_pos hO] at o
 obtain⟨ds0,q0⟩:=fZ hO
 obtain⟨p,h1,_,_,_,xs,h5,_⟩:=I1.slot i _ q0
 refine⟨_,h1,aC La env,G1,B,β1,I1,?_⟩
 rw[bw]
 refine aQ o fun k β2 o w G2 H2 I2 s2 m2 vi=>?_
 rw[<-aN] at I2
 obtain⟨ds,es,q,eg,o⟩:=jg o
 cases k with
 |int j=>
  dsimp only at eg
  obtain rfl:=(vi.brw I1.boxThere).int
  obtain⟨p',g1,_,_,_,ys,g5,g6⟩:=I2.slot i _ q
  rw[h1] at g1;cases g1
  cases en:qj ds.length j with
  |none=>rw[en] at eg;cases eg
  |some n=>
   rw[en] at eg
   cases eg
   have vo:Rp Γ.K G1 v d:=vo
   refine⟨p,ys,j,n,rfl,rfl,g5,by rw[g6.len];exact en,?_⟩
   exact o B G2 _ σ (I2.write hb q h1 fun H3 e3 s3=>⟨_,e3,g6.set (vo.mono s2) n⟩) (s1.trans s2)
 |_=>cases eg
end
end L2

end

section
namespace L2
open PySem PySem.Spec PyProof.Rows
section
variable {K:PySem.W.Frag}{X:Cx}
theorem qc {g:Int->Int->V}{gd:D->D->Option D}(h:∀dx dy d,gd dx dy=some d->∃i j,dx=.int i/\dy=.int j/\∀G,Rp K G (g i j) d):i3 K (vL g) gd .v:=by
 intro B G H x y dx dy d Q s hB bx by' e k
 obtain⟨i,j,rfl,rfl,r⟩:=h _ _ _ e
 obtain rfl:=bx.int
 obtain rfl:=by'.int
 exact⟨i,j,rfl,rfl,k _ G H (Ext.refl s) (r G)⟩
theorem qA {C:Int->Int->Prop}{g:Int->Int->V}{gd:D->D->Option D}(h:∀dx dy d,gd dx dy=some d->∃i j,dx=.int i/\dy=.int j/\C i j/\∀G,Rp K G (g i j) d):i3 K (rI C g) gd .v:=by
 intro B G H x y dx dy d Q s hB bx by' e k
 obtain⟨i,j,rfl,rfl,c,r⟩:=h _ _ _ e
 obtain rfl:=bx.int
 obtain rfl:=by'.int
 exact⟨i,j,rfl,rfl,c,k _ G H (Ext.refl s) (r G)⟩
def gI (c:Int->Int->Bool)(g:Int->Int->D):D->D->Option D
 | .int i,.int j=>if c i j=true then some (g i j) else none
 |_,_=>none
def qU (g:Int->Int->D):D->D->Option D
 | .int i,.int j=>some (g i j)
 |_,_=>none
theorem qz {c:Int->Int->Bool}{g:Int->Int->D}{dx dy d:D}(h:gI c g dx dy=some d):∃i j,dx=.int i/\dy=.int j/\c i j=true/\d=g i j:=by
 unfold gI at h
 split at h
 ·split at h
  ·cases h;exact⟨_,_,rfl,rfl,by assumption,rfl⟩
  ·cases h
 ·cases h
theorem iD {g:Int->Int->D}{dx dy d:D}(h:qU g dx dy=some d):∃i j,dx=.int i/\dy=.int j/\d=g i j:=by
 unfold qU at h
 split at h
 ·cases h;exact⟨_,_,rfl,rfl,rfl⟩
 ·cases h
def sO:D->D->Option D:=gI (fun _ j=>decide (0 < j) && decide (j < 1073741824)) fun i j=>.int (i / j)
theorem x9:i3 K (rI wY fun i j=>.int (i / j)) sO .v:=qA fun dx dy d h=>by obtain⟨i,j,rfl,rfl,c,rfl⟩:=qz h;exact⟨i,j,rfl,rfl,by simpa[wY] using c,fun _=>.int _⟩
def gG:D->D->Option D:=gI (fun _ j=>decide (0 < j)) fun i j=>.int (i % j)
theorem kH:i3 K (rI (fun _ j=>0 < j) fun i j=>.int (i % j)) gG .v:=qA fun dx dy d h=>by obtain⟨i,j,rfl,rfl,c,rfl⟩:=qz h;exact⟨i,j,rfl,rfl,by simpa using c,fun _=>.int _⟩
def zo (i j:Int):Bool:=decide (0<=j) && decide (j<=1000000) && decide (i.natAbs < 2 ^ 64)
def uf:D->D->Option D:=gI zo fun i j=>.int (i ^ j.toNat)
theorem wo {i j:Int}(h:zo i j=true):zI i j:=by
 unfold zo at h
 simp only[Bool.and_eq_true,decide_eq_true_eq] at h
 exact⟨h.1.1,h.1.2,h.2⟩
theorem AI:i3 K (rI zI fun i j=>.int (i ^ j.toNat)) uf .v:=qA fun dx dy d h=>by obtain⟨i,j,rfl,rfl,c,rfl⟩:=qz h;exact⟨i,j,rfl,rfl,wo c,fun _=>.int _⟩
def vW:D->D->Option D:=qU fun i j=>.bool (decide (i < j))
def u6:D->D->Option D:=qU fun i j=>.bool (decide (i<=j))
def Av:D->D->Option D:=qU fun i j=>.bool (decide (j < i))
theorem Ao:i3 K (vL fun i j=>.bl (decide (i < j))) vW .v:=qc fun dx dy d h=>by obtain⟨i,j,rfl,rfl,rfl⟩:=iD h;exact⟨i,j,rfl,rfl,fun _=>.bl _⟩
theorem zY:i3 K (vL fun i j=>.bl (decide (i<=j))) u6 .v:=qc fun dx dy d h=>by obtain⟨i,j,rfl,rfl,rfl⟩:=iD h;exact⟨i,j,rfl,rfl,fun _=>.bl _⟩
theorem CP:i3 K (vL fun i j=>.bl (decide (j < i))) Av .v:=qc fun dx dy d h=>by obtain⟨i,j,rfl,rfl,rfl⟩:=iD h;exact⟨i,j,rfl,rfl,fun _=>.bl _⟩
mutual
theorem qN:∀d:D,d.canLay0=true->qB d=true
 | .none,_=>rfl
 | .bool _,_=>rfl
 | .int _,_=>rfl
 | .str _,_=>rfl
 | .list ds,h=>by simp only[PyData.canLay0] at h;simp only[qB];exact j3 ds h
 | .tuple ds,h=>by simp only[PyData.canLay0] at h;simp only[qB];exact j3 ds h
 | .dict _,h=>by simp[PyData.canLay0] at h
theorem j3:∀ds:List D,PyData.canLayAll0 ds=true->kf ds=true
 | [],_=>rfl
 |d :: ds,h=>by
  simp only[PyData.canLayAll0,Bool.and_eq_true] at h
  simp only[kf,Bool.and_eq_true]
  exact⟨qN d h.1,j3 ds h.2⟩
end
theorem tZ {d:D}(h:SeqAt.shaped d=true):qB d=true:=qN d (SeqAt.canLay_of_shaped h)
def gQ (neg:Bool)(x y:D):Option D:=if (SeqAt.shaped x && SeqAt.shaped y)=true then some (.bool (if neg then !PyData.eqv x y else PyData.eqv x y)) else none
theorem jW {neg:Bool}:i3 K (yM K neg) (gQ neg) .v:=by
 intro B G H x y dx dy d Q s hB bx by' e k
 unfold gQ at e
 split at e
 ·rename_i h
  rw[Bool.and_eq_true] at h
  cases e
  exact⟨dx,dy,(bx.rpH s).rep (tZ h.1),(by'.rpH s).rep (tZ h.2),h.1,h.2,k _ G H (Ext.refl s) (.bl _)⟩
 ·cases e
theorem gX.seq {B:Option Addr}{G H:Hp}{v:V}{d:D}{ds:List D}(h:gX K B G H v d)(e:nO d=some ds)(s:ah G H):∃a xs,v=.ref a/\(fC K H a xs\/dq K H a xs)/\a9 K G xs ds:=by
 cases d with
 |list l=>cases e;obtain⟨a,xs,e,q,r⟩:=h.list s;exact⟨a,xs,e,.inl (.inl q),r⟩
 |tuple l=>cases e;obtain⟨a,xs,e,q,r⟩:=h.tuple s;exact⟨a,xs,e,.inr q,r⟩
 |_=>cases e
def wB:D->Bool
 | .none=>true
 |_=>false
theorem a9.ints {G:Hp}:∀ns:List Int,a9 K G (ns.map V.int) (ns.map PyData.int)
 | []=>.nil
 |n :: ns=>.cons (.int n) (a9.ints ns)
theorem sR.noNone {G:Hp}{kvs:List (Key×V)}{d:D}{r:List (D×D)}(h:sR K G kvs ((.none,d) :: r)):False:=by
 generalize e:(PyData.none,d) :: r=l at h
 cases h with
 |nil=>cases e
 | @cons k x xs d' ds _ _=>
  injection e with e1 _
  injection e1 with e2 _
  cases k <;> cases e2
theorem sV.noNone {G:Hp}{kvs:List (List Key×V)}{d:D}{r:List (D×D)}(h:sV K G kvs ((.none,d) :: r)):False:=by
 generalize e:(PyData.none,d) :: r=l at h
 cases h with
 |nil=>cases e
 | @cons k x xs d' ds _ _=>
  injection e with e1 _
  injection e1 with e2 _
  cases e2
theorem gX.scr {B:Option Addr}{G H:Hp}{v:V}{ds:List D}(h:gX K B G H v (.dict [(.none,.list ds)]))(s:ah G H):∃a xs,v=.ref a/\fC K H a xs/\a9 K G xs ds:=by
 rcases h with h | ⟨a,rfl,n,h⟩
 ·cases h with
  | @scr a ns q=>exact⟨a,_,rfl,s.seq q,a9.ints ns⟩
  |dK _ r=>exact r.noNone.elim
  |dT _ r=>exact r.noNone.elim
 ·rcases h with⟨_,_,r⟩ | ⟨_,_,r⟩
  ·exact r.noNone.elim
  ·exact r.noNone.elim
def mI:D->D->Option D
 | .list ds,.int i=>gE ds i
 | .tuple ds,.int i=>gE ds i
 | .str z,.int i=>if z.length<=sizeLine then (gE z.cps.toList i).map fun c=>.str ⟨#[c]⟩ else none
 | .dict [(.none,.list ds)],.int i=>gE ds i
 |_,_=>none
theorem lT {G:Hp}{xs:List V}{ds:List D}{i:Int}{d:D}(r:a9 K G xs ds)(h:gE ds i=some d):∃x,gE xs i=some x/\Rp K G x d:=by
 unfold gE at h ⊢
 rw[r.len]
 cases e:qj ds.length i with
 |none=>rw[e] at h;cases h
 |some j=>rw[e] at h;exact r.at h
theorem lV:i3 K (Dq K) mI .v:=by
 intro B G H x y dx dy d Q s hB bx by' e k
 cases dx with
 |list ds=>
  cases dy with
  |int i=>
   obtain rfl:=by'.int
   obtain⟨a,xs,rfl,q,r⟩:=bx.list s
   obtain⟨v,ev,rv⟩:=lT r e
   exact .inl ⟨a,xs,i,v,rfl,rfl,.inl q,ev,k _ G H (Ext.refl s) rv⟩
  |_=>cases e
 |tuple ds=>
  cases dy with
  |int i=>
   obtain rfl:=by'.int
   obtain⟨a,xs,rfl,q,r⟩:=bx.tuple s
   obtain⟨v,ev,rv⟩:=lT r e
   exact .inr (.inl ⟨a,xs,i,v,rfl,rfl,q,ev,k _ G H (Ext.refl s) rv⟩)
  |_=>cases e
 |str z=>
  cases dy with
  |int i=>
   obtain rfl:=by'.int
   obtain rfl:=bx.str
   simp only[mI] at e
   split at e
   ·rename_i hz
    cases q:gE z.cps.toList i with
    |none=>rw[q] at e;cases e
    |some c=>rw[q] at e;cases e;exact .inr (.inr ⟨z,i,c,rfl,rfl,hz,q,k _ G H (Ext.refl s) (.str _)⟩)
   ·cases e
  |_=>cases e
 |none=>cases dy <;> cases e
 |bool b=>cases dy <;> cases e
 |int b=>cases dy <;> cases e
 |dict b=>
  obtain⟨ds,i,rfl,rfl,e⟩:∃ds i,b= [(.none,.list ds)]/\dy=.int i/\gE ds i=some d:=by
   unfold mI at e
   split at e
   ·contradiction
   ·contradiction
   ·contradiction
   ·rename_i h;cases h;exact⟨_,_,rfl,rfl,e⟩
   ·cases e
  obtain rfl:=by'.int
  obtain⟨a,xs,rfl,q,r⟩:=bx.scr s
  obtain⟨v,ev,rv⟩:=lT r e
  exact .inl ⟨a,xs,i,v,rfl,rfl,q,ev,k _ G H (Ext.refl s) rv⟩
def dP:D->Option D
 | .list ds=>some (.int ds.length)
 | .tuple ds=>some (.int ds.length)
 | .str z=>if z.length<=sizeLine then some (.int z.length) else none
 | .dict [(.none,.list ds)]=>some (.int ds.length)
 |_=>none
def Cf (K:PySem.W.Frag):List V->Hp->VK->Prop:=fun xs H Q=>∃x n,xs= [x]/\Bx K x H n/\Q (.int n) H
theorem jC:tH K (fun x=>Cf K [x]) dP .v:=by
 intro B G H x dx d Q s hB bx e k
 unfold dP at e
 split at e
 ·cases e;obtain⟨a,xs,rfl,q,r⟩:=bx.list s;exact⟨_,_,rfl,.inl ⟨xs,.inl q,r.len.symm⟩,k _ G H (Ext.refl s) (.int _)⟩
 ·cases e;obtain⟨a,xs,rfl,q,r⟩:=bx.tuple s;exact⟨_,_,rfl,.inr ⟨xs,q,r.len.symm⟩,k _ G H (Ext.refl s) (.int _)⟩
 ·obtain rfl:=bx.str
  split at e
  ·rename_i hz;cases e;exact⟨_,_,rfl,⟨hz,rfl⟩,k _ G H (Ext.refl s) (.int _)⟩
  ·cases e
 ·cases e;obtain⟨a,xs,rfl,q,r⟩:=bx.scr s;exact⟨_,_,rfl,.inl ⟨xs,q,r.len.symm⟩,k _ G H (Ext.refl s) (.int _)⟩
 ·cases e
def dD:D->Option D
 | .list ds=>some (.tuple ds)
 | .tuple ds=>some (.tuple ds)
 |_=>none
theorem fO:tH K (fun x H Q=>∃p ys,[x]= [.ref p]/\((fC K H p ys/\∀l,H l=none->Q (.ref l) (upd H l (.tup ys)))\/(dq K H p ys/\Q (.ref p) H))) dD .v:=by
 intro B G H x dx d Q s hB bx e k
 cases dx with
 |list ds=>
  cases e
  obtain⟨a,xs,rfl,q,r⟩:=bx.list s
  refine⟨a,xs,rfl,.inl ⟨.inl q,fun l hl=>?_⟩⟩
  have x:=Ext.new s (o:=.tup xs) hl
  exact k _ _ _ x (.tup (.inl (.inl ai)) (r.mono x.gg))
 |tuple ds=>
  cases e
  rcases bx with bx | ⟨_,_,_,z⟩
  ·cases bx with
   | @tup a xs _ hq r=>exact⟨a,xs,rfl,.inr ⟨hq.grow s.grow,k _ G H (Ext.refl s) (.tup hq r)⟩⟩
  ·exact z.elim
 |_=>cases e
def nI:D->Option D
 | .list ds=>some (.list ds)
 | .tuple ds=>some (.list ds)
 |_=>none
theorem lX:tH K (fun x H Q=>∃p ys,[x]= [.ref p]/\(fC K H p ys\/dq K H p ys)/\∀l,H l=none->Q (.ref l) (upd H l (.lst ys))) nI .w:=by
 intro B G H x dx d Q s hB bx e k
 obtain⟨ds,e1,rfl⟩:∃ds,nO dx=some ds/\d=.list ds:=by
  cases dx <;> cases e <;> exact⟨_,rfl,rfl⟩
 obtain⟨a,xs,rfl,hq,r⟩:=bx.seq e1 s
 refine⟨a,xs,rfl,hq,fun l hl=>?_⟩
 exact k _ _ _ (Ext.own s (o:=.lst xs) hl) ⟨l,rfl,hl,s.free hl,xs,ai,r⟩
def fx:List D->Option (List Bool)
 | []=>some []
 | .bool b :: ds=>(fx ds).map (b :: ·)
 |_=>none
theorem kW {G:Hp}:∀{ds:List D} {bs:List Bool} {xs:List V},fx ds=some bs->a9 K G xs ds->xs=bs.map V.bl
 | [],bs,xs,e,r=>by cases e;cases r;rfl
 | .bool b :: ds,bs,xs,e,r=>by
  cases r with
  |cons r1 r2=>
   cases r1
   simp only[fx] at e
   cases q:fx ds with
   |none=>rw[q] at e;cases e
   |some cs=>rw[q] at e;cases e;rw[kW q r2];rfl
 | .none :: _,_,_,e,_=>by cases e
 | .int _ :: _,_,_,e,_=>by cases e
 | .str _ :: _,_,_,e,_=>by cases e
 | .list _ :: _,_,_,e,_=>by cases e
 | .tuple _ :: _,_,_,e,_=>by cases e
 | .dict _ :: _,_,_,e,_=>by cases e
def eT (f:List Bool->Bool):D->Option D
 | .list ds=>(fx ds).map fun bs=>.bool (f bs)
 |_=>none
theorem lC {f:List Bool->Bool}:tH K (fun x=>sY K f [x]) (eT f) .v:=by
 intro B G H x dx d Q s hB bx e k
 cases dx with
 |list ds=>
  simp only[eT] at e
  cases q:fx ds with
  |none=>rw[q] at e;cases e
  |some bs=>
   rw[q] at e
   cases e
   obtain⟨a,xs,rfl,hq,r⟩:=bx.list s
   obtain rfl:=kW q r
   exact⟨a,bs,rfl,.inl hq,k _ G H (Ext.refl s) (.bl _)⟩
 |_=>cases e
def yg:R2:=fun x y H Q=>∃l b xs zs,x=.ref l/\y=.ref b/\Rd H l (.lst xs)/\Rd H b (.lst zs)/\xs.length + zs.length<=sizeLine/\∀p,H p=none->Q (.ref p) (upd H p (.lst (xs ++ zs)))
theorem qV:ij X (binaryOp .Add) yg:=by
 intro pins s σ H x y v u Q I rx ry h
 obtain⟨l,b,xs,zs,rfl,rfl,hH,hB,hz,q⟩:=h
 cases rx
 cases ry
 obtain⟨z,its,n,r,hl,e⟩:=I.lstR hH
 obtain⟨z2,its2,n2,r2,hl2,e2⟩:=I.lstR hB
 refine PySem.P.add_list e e2 ?_ (by rw[List.size_toArray,List.size_toArray];omega)
 have ea:its.toArray ++ its2.toArray=(its ++ its2).toArray:=by simp
 rw[ea]
 exact⟨.ref _,_,I.lnew (t':=s.toks) (r.append r2) (by rw[List.length_append];omega),rfl,q _ I.fresh⟩
def sI:D->D->Option D
 | .list a,.list b=>if a.length + b.length<=sizeLine then some (.list (a ++ b)) else none
 |_,_=>none
theorem yE:i3 K yg sI .w:=by
 intro B G H x y dx dy d Q s hB bx by' e k
 cases dx <;> cases dy <;> first | (cases e;done) |skip
 rename_i a b
 simp only[sI] at e
 split at e
 ·rename_i hz
  cases e
  obtain⟨p,xs,rfl,q1,r1⟩:=bx.list s
  obtain⟨p2,ys,rfl,q2,r2⟩:=by'.list s
  refine⟨p,p2,xs,ys,rfl,rfl,q1,q2,by rw[r1.len,r2.len];exact hz,fun l hl=>?_⟩
  exact k _ _ _ (Ext.own s (o:=.lst (xs ++ ys)) hl) ⟨l,rfl,hl,s.free hl,_,ai,r1.append r2⟩
 ·cases e
def cJ:D->D->Option D:=qU fun i j=>.int (i + j)
theorem gR:i3 K (vL fun i j=>.int (i + j)) cJ .v:=qc fun dx dy d h=>by obtain⟨i,j,rfl,rfl,rfl⟩:=iD h;exact⟨i,j,rfl,rfl,fun _=>.int _⟩
def b7:D->D->Option D:=gI (fun i j=>(decide (-(2 ^ 64) < i) && decide (i < 2 ^ 64)) || (decide (-(2 ^ 64) < j) && decide (j < 2 ^ 64))) fun i j=>.int (i * j)
theorem gV:i3 K (rI uW fun i j=>.int (i * j)) b7 .v:=qA fun dx dy d h=>by obtain⟨i,j,rfl,rfl,c,rfl⟩:=qz h;exact⟨i,j,rfl,rfl,by simpa[uW] using c,fun _=>.int _⟩
def tm:D->D->Option D
 | .list a,.int k=>if -(2 ^ 63)<=k/\k < 2 ^ 63/\a.length * k.toNat<=sizeLine then some (.list (List.replicate k.toNat a).flatten) else none
 |_,_=>none
theorem yR {a b:Expr}{fa fb:VF D}{La Lb:List Nat}{mb:Md}{Γ:Fx}{E:XK}{pos:Pos}(ha:SE X Γ E a fa La .w)(hb:SE X Γ E b fb Lb mb):SE X Γ E (.BinOp a .Mult b pos) (f2 fa fb tm) (La ++ Lb) .w:=by
 refine PE.post' (p5 yO ha hb) fun σ H Q ⟨env,G,B,β,I,o⟩=>?_
 refine⟨env,G,B,β,I,o.bnd.imp fun d1 β1 h x G1 H1 I1 s1 m1 vx=>⟨aC La env,G1,B,β1,I1,?_⟩⟩
 rw[bw]
 refine h.bnd.imp fun d2 β2 h y G2 H2 I2 s2 m2 vy=>?_
 obtain⟨d,e,k⟩:=h.of
 rw[<-aN] at I2
 obtain⟨p,rfl,p1,p2,p3⟩:=vx
 have by':=vy.brw I1.boxThere
 cases d1 <;> cases d2 <;> first | (cases e;done) |skip
 rename_i l j
 obtain rfl:=by'.int
 simp only[tm] at e
 split at e
 ·rename_i hz
  cases e
  obtain⟨xs,q,r⟩:=p3
  obtain⟨q1,q2,q3,q4⟩:=I.fresh p1
  have r2:=r.mono s2
  refine⟨p,j,xs,rfl,rfl,m2 _ _ q q3,hz.1,hz.2.1,by rw[r.len];exact hz.2.2,fun l hl=>?_⟩
  have x:=Ext.own I2.sub (o:=.lst (List.replicate j.toNat xs).flatten) hl
  exact k _ _ _ (I2.ext x) ((s1.trans s2).trans x.gg) ((m1.trans m2).trans (x.hh.mov B)) ⟨l,rfl,cg (m1.trans m2) I2.boxThere hl,I2.sub.free hl,_,ai,r2.rep⟩
 ·cases e
def zu:D->Option D
 | .int i=>some (.int (-i))
 |_=>none
theorem u5:tH K (rU fun i=>.int (-i)) zu .v:=by
 intro B G H x dx d Q s hB bx e k
 cases dx with
 |int i=>cases e;obtain rfl:=bx.int;exact⟨i,rfl,k _ G H (Ext.refl s) (.int _)⟩
 |_=>cases e
def Bq:D->String
 | .none=>"NoneType"
 | .bool _=>"bool"
 | .int _=>"int"
 | .str _=>"str"
 | .list _=>"list"
 | .tuple _=>"tuple"
 | .dict _=>"dict"
def sX (d:D)(T:String):Bool:=Bq d == T || (T == "int" && Bq d == "bool")
def bt:D->Bool
 | .dict ((.none,_) :: _)=>true
 |_=>false
def fk (T:String)(d:D):Option D:=if bt d=true then none else some (.bool (sX d T))
def Di (K:PySem.W.Frag)(H:Hp)(x:V)(t:String):Prop:=xF K H x t\/(t="dict"/\∃a kvs,x=.ref a/\H a=some (.dT kvs))
def BJ (K:PySem.W.Frag):List V->Hp->VK->Prop:=fun xs H Q=>∃x T t b,xs= [x,.ty T]/\Di K H x t/\PySem.W.kitOne K (.type t) (.type T)=some b/\Q (.bl b) H
theorem vD:bI X (.builtin "isinstance") (BJ X.K):=by
 intro pins s σ H xs us Q I r h
 obtain⟨x,T,t,b,rfl,ty,e,q⟩:=h
 rcases ty with ty | ⟨rfl,a,kvs,rfl,hk⟩
 ·exact uT pins s σ H _ us Q I r ⟨x,T,t,b,rfl,ty,e,q⟩
 ·obtain⟨u,c,rfl,rx,rc⟩:=vals2 r
  cases rc
  cases rx
  obtain⟨_,_,_,_,o,_,_,e2,ex,_⟩:=I.hok a _ hk
  exact PySem.W.kia_one PySem.W.kitx_dict I.kIn ⟨o,e2,ex.1⟩ e (fun z=>nomatch z) fun tk=>⟨.bl b,H,I.tok tk,rfl,q⟩
theorem gX.ty {B:Option Addr}{G H:Hp}{v:V}{d:D}(h:gX K B G H v d)(s:ah G H)(n:bt d=false):Di K H v (Bq d):=by
 cases d with
 |none=>obtain rfl:=h.none;exact .inl .non
 |bool b=>obtain rfl:=h.bool;exact .inl (.bl b)
 |int b=>obtain rfl:=h.int;exact .inl (.int b)
 |str b=>obtain rfl:=h.str;exact .inl (.str b)
 |list b=>obtain⟨a,xs,rfl,q,_⟩:=h.list s;exact .inl (.lst (.inl q))
 |tuple b=>obtain⟨a,xs,rfl,q,_⟩:=h.tuple s;exact .inl (.tup q)
 |dict b=>
  rcases h with h | ⟨a,rfl,_,h⟩
  ·cases h with
   |scr _=>cases n
   |dK q _=>exact .inl (.dic (s _ _ q))
   |dT q _=>exact .inr ⟨rfl,_,_,rfl,s _ _ q⟩
  ·rcases h with⟨_,q,_⟩ | ⟨_,q,_⟩
   ·exact .inl (.dic q)
   ·exact .inr ⟨rfl,_,_,rfl,q⟩
theorem A1 {d:D}{T:String}(hT:T∈ ["int","bool","str","list","tuple","dict"]):PySem.W.kitOne K (.type (Bq d)) (.type T)=some (sX d T):=by
 simp only[List.mem_cons,List.not_mem_nil,or_false] at hT
 cases d with
 |dict l=>rcases hT with rfl |rfl |rfl |rfl |rfl |rfl <;> rfl
 |none=>rcases hT with rfl |rfl |rfl |rfl |rfl |rfl <;> rfl
 |bool _=>rcases hT with rfl |rfl |rfl |rfl |rfl |rfl <;> rfl
 |int _=>rcases hT with rfl |rfl |rfl |rfl |rfl |rfl <;> rfl
 |str _=>rcases hT with rfl |rfl |rfl |rfl |rfl |rfl <;> rfl
 |list _=>rcases hT with rfl |rfl |rfl |rfl |rfl |rfl <;> rfl
 |tuple _=>rcases hT with rfl |rfl |rfl |rfl |rfl |rfl <;> rfl
theorem lW {a:Expr}{fa:VF D}{La:List Nat}{ma:Md}{Γ:Fx}{E:XK}{pos p p2:Pos}(T:String){y:Str}(hT:T∈ ["int","bool","str","list","tuple","dict"])(hK:X.K=Γ.K)(hg:Gl X "isinstance")(hm:X.mg "isinstance"=none)(hgT:Gl X y)(hmT:X.mg y=none)(hvT:bootBuiltins y=some (.type T))(ha:SE X Γ E a fa La ma)
  (hnT:y≠"__name__":=by decide) (hdT:(y == ("__debug__":Str))=false:=by decide)
  (he:starEach [a,.Name y p2] X.env=(false,eval a X.env) :: starEach [.Name y p2] X.env:=by rfl) (he2:starEach [.Name y p2] X.env=(false,eval (.Name y p2) X.env) :: starEach [] X.env:=by rfl) (hpl:(backTo pos (starEach [.Name y p2] X.env)).any (·.1)=false:=by rfl) :
  SE X Γ E (.Call (.Name "isinstance" p) [a,.Name y p2] [] pos) (f1 fa (fk T)) La .v:=by
 refine PE.post' (aI vD hg hm (by decide +kernel) (ag ha (ag (p7 hgT hmT hvT (show RelV (.ty T) _ from rfl) hnT hdT) ay he2) he) (by decide) (by decide) he hpl) fun σ H Q ⟨env,G,B,β,I,o⟩=>?_
 refine eh (r:=fun x H1 Q=>BJ X.K [x,.ty T] H1 Q) ?_ I o
 intro B G H x dx d Q s hB bx e k
 unfold fk at e
 split at e
 ·cases e
 ·rename_i hn
  cases e
  rw[hK]
  exact⟨x,T,Bq dx,sX dx T,rfl,bx.ty s (by simpa using hn),A1 hT,k _ G H (Ext.refl s) (.bl _)⟩
def eV (fa fb fc:VF D)(g g':D->D->Option D):VF D:=fun vs β=>(fa vs β).bnd fun x β1=>(fb vs β1).bnd fun y β2=>match g x y with
 |some (.bool true)=>(fc vs β2).bnd fun z β3=>R.of (g' y z) β3
 |some (.bool false)=>.ok (.bool false) β2
 |_=>.bad
theorem nN {a b c:Expr}{fa fb fc:VF D}{ma mb mc:Md}{Γ:Fx}{E:XK}{pos:Pos}{op op':CmpOp}{r r':R2}{g g':D->D->Option D}(ho:ij X (compareOp op) r)(ho':ij X (compareOp op') r')(pr:i3 Γ.K r g .v)(pr':i3 Γ.K r' g' .v)(ha:SE X Γ E a fa [] ma)(hb:SE X Γ E b fb [] mb)(hc:SE X Γ E c fc [] mc)
  (hm:lastMarks [op,op'] [b,c]=false:=by with_unfolding_all rfl):SE X Γ E (.Compare a [op,op'] [b,c] pos) (eV fa fb fc g g') [] .v:=by
 refine PE.post' (uj ho ho' ha hb hc hm) fun σ H Q ⟨env,G,B,β,I,o⟩=>?_
 refine two (W:=fun x y H2=>r x y H2 fun z H3=>∃k,z=.bl k/\(if k=true then pT Γ E fc [] mc σ H3 fun w' H4=>r' y w' H4 Q else Q (.bl false) H3)) I (o.bnd.imp fun d1 β1 h=>h.bnd.imp fun d2 β2 h x y G2 H2 I2 s2 m2 bx by'=>?_)
 obtain⟨cb,ec,h⟩:∃cb,g d1 d2=some (.bool cb)/\Out Γ E (if cb=true then (fc (vl env) β2).bnd fun z β3=>R.of (g' d2 z) β3 else .ok (.bool false) β2) fun d β'=>∀v G' H',SR Γ B G' H' σ (aC [] env) β'->ah G G'->dh B H H'->VO Γ.K B H G' H' .v d v->Q v H':=by
  split at h
  ·rename_i q;exact⟨true,q,by rw[if_pos rfl];exact h⟩
  ·rename_i q;exact⟨false,q,by rw[if_neg Bool.false_ne_true];exact h⟩
  ·exact h.elim
 refine pr B G2 H2 x y d1 d2 _ _ I2.sub I2.boxThere bx by' ec fun v G' H' x' vo=>?_
 cases vo
 refine⟨cb,rfl,?_⟩
 have I3:=I2.ext x'
 cases cb with
 |false=>rw[if_neg Bool.false_ne_true] at h;exact ku (h _ G' H' I3 (s2.trans x'.gg) (m2.trans (x'.mov B)) (.bl false))
 |true=>
  rw[if_pos rfl] at h
  refine oE ⟨env,G',B,β2,I3,h.bnd.imp fun d3 β3 h z G4 H4 I4 s4 m4 vz=>?_⟩
  obtain⟨d,e,k⟩:=h.of
  refine pr' B G4 H4 y z d2 d3 d Q I4.sub I4.boxThere (by'.mono (x'.gg.trans s4) ((x'.mov B).trans m4)) (vz.brw I3.boxThere) e fun v G5 H5 x5 vo=>?_
  exact k v G5 H5 (I4.ext x5) (((s2.trans x'.gg).trans s4).trans x5.gg) (((m2.trans (x'.mov B)).trans m4).trans (x5.mov B)) vo
end
end L2

end

section
namespace L2
open PySem PySem.Spec PyProof.Rows
theorem bS.u1 {k:Nat}{A:Around}(r:bS k A):A.units + 100 < cLine:=by have:=r.un;omega
def Dl (N:List Str)(sc:Scope)(NB:List Str)(own:Nat)(ixs:List Nat)(scope:Scope):Bool:=
 decide (scope.kind=.function) && (scope.names.all fun y=>decide (y.2≠.cell)) && (scope.names.all fun y=>decide (scope.names.lookup y.1=some y.2)) &&
 (scope.names.all fun y=>decide (y.2=.free->(sc.names.lookup y.1=some .cell\/sc.names.lookup y.1=some .free))) && decide NB.Nodup && decide (NB.length=own + ixs.length) &&
 ((List.range ixs.length).all fun k=>decide (NB[own + k]? =N[ixs.getD k 0]?) && (match NB[own + k]? with |some x=>decide ((x,NameKind.free)∈scope.names) |none=>true))
theorem gB {X:Cx}{NB:List Str}{own:Nat}{ixs:List Nat}{scope:Scope}(h:Dl X.N X.env.scope NB own ixs scope=true):cq X NB own ixs scope:=by
 unfold Dl at h
 simp only[Bool.and_eq_true,List.all_eq_true,decide_eq_true_eq,List.mem_range] at h
 obtain⟨⟨⟨⟨⟨⟨h1,h2⟩,h3⟩,h4⟩,h5⟩,h6⟩,h7⟩:=h
 refine⟨h1,h2,h3,h4,h5,h6,fun k hk=>⟨(h7 k hk).1,fun x hx=>?_⟩⟩
 have:=(h7 k hk).2
 rw[hx] at this
 simpa using this
section
variable {X:Cx}{Γ:Fx}{E:XK}{e a b c:Expr}{f fa fb fc:VF D}{L La Lb:List Nat}{md ma mb mc:Md}{pos:Pos}{K:PySem.W.Frag}
def tN (fa:VF D)(neg:Bool):VF Bool:=fun vs β=>(fa vs β).bnd fun x β1=>.ok (if neg then !wB x else wB x) β1
def oT (Γ:Fx)(E:XK)(f:VF (Option Int))(L:List Nat):TO:=fun σ H Q=>∃env G B β,SR Γ B G H σ env β/\
 Out Γ E (f (vl env) β) fun d β'=>∀G' H',SR Γ B G' H' σ (aC L env) β'->ah G G'->dh B H H'->Q d H'
def As (X:Cx)(Γ:Fx)(E:XK)(e:Option Expr)(f:VF (Option Int))(L:List Nat):Prop:=PO X e (oT Γ E f L)
theorem jc:As X Γ E none (fun _ β=>.ok none β) []:=fun pins s σ H Q I ⟨env,G,B,β,J,o⟩=>w9 pins s σ H Q I (o G H J (ah.refl _) (dh.refl _ _))
def qx (fa:VF D):VF (Option Int):=fun vs β=>(fa vs β).bnd fun x β1=>match x with
 | .int i=>.ok (some i) β1
 |_=>.bad
theorem jb (ha:SE X Γ E a fa La ma):As X Γ E (some a) (qx fa) La:=fun pins s σ H Q I ⟨env,G,B,β,J,o⟩=>by
 refine x8 ha pins s σ H Q I ⟨env,G,B,β,J,o.bnd.imp fun d1 β1 h x G1 H1 I1 s1 m1 vx=>?_⟩
 cases d1 with
 |int i=>exact⟨i,(vx.brw J.boxThere).int,h G1 H1 I1 s1 m1⟩
 |_=>exact h.elim
def cutD (xs:List D)(lo hi:Option Int):List D:=(xs.drop (HT.bF xs.length 0 lo)).take (HT.bF xs.length xs.length hi - HT.bF xs.length 0 lo)
theorem qt {G:Hp}{xs:List V}{ds:List D}(r:a9 K G xs ds)(lo hi:Option Int):a9 K G (ju xs lo hi) (cutD ds lo hi):=by
 unfold ju cutD
 rw[r.len]
 exact (r.drop _).take _
def yQ (fa:VF D)(fl fh:VF (Option Int)):VF D:=fun vs β=>(fa vs β).bnd fun x β1=>(fl vs β1).bnd fun l β2=>(fh vs β2).bnd fun h β3=>match x with
 | .list ds=>.ok (.list (cutD ds l h)) β3
 |_=>.bad
theorem nk {lo hi:Option Expr}{fl fh:VF (Option Int)}{Ll Lh:List Nat}{p2:Pos}(hK:X.K=Γ.K)(ha:SE X Γ E a fa La ma)(hl:As X Γ E lo fl Ll)(hh:As X Γ E hi fh Lh):SE X Γ E (.Subscript a (.Slice lo hi none p2) pos) (yQ fa fl fh) (La ++ Ll ++ Lh) .w:=by
 refine PE.post' (mO wR ha hl hh) fun σ H Q ⟨env,G,B,β,I,o⟩=>?_
 refine⟨env,G,B,β,I,o.bnd.imp fun d1 β1 h x G1 H1 I1 s1 m1 vx=>⟨aC La env,G1,B,β1,I1,?_⟩⟩
 rw[bw]
 refine h.bnd.imp fun l β2 h G2 H2 I2 s2 m2=>⟨aC Ll (aC La env),G2,B,β2,I2,?_⟩
 rw[bw,bw]
 refine h.bnd.imp fun u β3 h G3 H3 I3 s3 m3=>?_
 rw[<-aN,<-aN,<-List.append_assoc] at I3
 have bx:=((vx.brw I.boxThere).mono s2 m2).mono s3 m3
 cases d1 with
 |list ds=>
  obtain⟨p,xs,rfl,hq,r⟩:=bx.list I3.sub
  rw[hK]
  refine⟨p,xs,rfl,.inl hq,fun q hn=>?_⟩
  have x:=Ext.own I3.sub (o:=.lst (ju xs l u)) hn
  exact h _ _ _ (I3.ext x) ((s1.trans s2).trans s3) (((m1.trans m2).trans m3).trans (x.mov B)) ⟨q,rfl,cg ((m1.trans m2).trans m3) I3.boxThere hn,I3.sub.free hn,_,ai,qt r l u⟩
 |_=>exact h.elim
theorem Aa:i3 K (fun x y H Q=>∃i j,[x,y]= [.int i,.int j]/\Q (.int (if j > i then j else i)) H) (qU fun i j=>.int (if j > i then j else i)) .v:=by
 intro B G H x y dx dy d Q s hB bx by' e k
 obtain⟨i,j,rfl,rfl,rfl⟩:=iD e
 obtain rfl:=bx.int
 obtain rfl:=by'.int
 exact⟨i,j,rfl,k _ G H (Ext.refl s) (.int _)⟩
theorem zC:i3 K (fun x y H Q=>∃i j,[x,y]= [.int i,.int j]/\Q (.int (if j < i then j else i)) H) (qU fun i j=>.int (if j < i then j else i)) .v:=by
 intro B G H x y dx dy d Q s hB bx by' e k
 obtain⟨i,j,rfl,rfl,rfl⟩:=iD e
 obtain rfl:=bx.int
 obtain rfl:=by'.int
 exact⟨i,j,rfl,k _ G H (Ext.refl s) (.int _)⟩
end
end L2

end

section
namespace L2
open PySem PySem.Spec PyProof.Rows
structure kc (K:PySem.W.Frag)(mg:Str->Option Value)(x:Str)(st:Stmt)(ps:List Str)(f:Addr)(fd:FuncData):Prop where
 mg:mg x=some (.ref f)
 F:sW K x x st f fd
 b:Binds K fd ps []
structure Exc (K:PySem.W.Frag)(mg:Str->Option Value)(ca:Str->Addr)(x:Str):Prop where
 mg:mg x=some (.ref (ca x))
 ex:PySem.W.excIn K (ca x) [.type "ValueError",.type "Exception",.type "BaseException",.type "object"] "ValueError.__new__"=true
theorem Exc.ca {K:PySem.W.Frag}{mg:Str->Option Value}{ca:Str->Addr}{x:Str}(h:Exc K mg ca x):ca x=ca x:=rfl
structure kx (mg:Str->Option Value):Prop where
 len:mg "len"=none
 range:mg "range"=none
 enumerate:mg "enumerate"=none
 zip:mg "zip"=none
 min:mg "min"=none
 max:mg "max"=none
 sum:mg "sum"=none
 abs:mg "abs"=none
 sorted:mg "sorted"=none
 reversed:mg "reversed"=none
 int:mg "int"=none
 str:mg "str"=none
 bool:mg "bool"=none
 list:mg "list"=none
 tuple:mg "tuple"=none
 dict:mg "dict"=none
 set:mg "set"=none
 isinstance:mg "isinstance"=none
 repr:mg "repr"=none
 any:mg "any"=none
 all:mg "all"=none
 divmod:mg "divmod"=none
end L2

end

section
namespace L2
open PySem PySem.Spec PyProof.Rows
inductive FB where
 |ok (d:D) (fresh:Bool) (β:Int)
 |bad
def Bp (K:PySem.W.Frag)(n:Nat)(F:List D->Int->FB):Sp:=fun vs H Q _=>∃b rest G ds β,vs=.ref b :: rest/\H b=some (.lst [.int β])/\G b=none/\ah G H/\ds.length=n/\a9 K G rest ds/\match F ds β with
 | .ok d fr β'=>∀v G' H',dh (some b) H H'->H' b=some (.lst [.int β'])->ah G G'->ah G' H'->(∀c,Mx H c->G c=none->G' c=none)->FV K H G' H' fr d v->Q v H'
 | .bad=>False
structure rm (P:Program)(w:World)(K:PySem.W.Frag)(mg:Str->Option Value)(base:Heap)(x:Str)(ps:List Str)(k:Nat)(F:List D->Int->FB):Prop where
 ex:∃f fd,mg x=some (.ref f)/\PySem.W.keepIn K (.ref f)=true/\Binds K fd ps []/\fj P w K mg base (ir P w) k f fd ps (Bp K (ps.length - 1) F)
 len:∀ds β,F ds β≠.bad->ds.length=ps.length - 1
def mQ (vs:List Nv)(i:Nat):Bool:=match vs[i]? with
 |some .bx=>true
 |_=>false
def kA (i:Nat)(F:List D->Int->FB)(fr:VF (List D)):VF D:=fun vs β=>if mQ vs i=true then (fr vs β).bnd fun ds β1=>match F ds β1 with
 | .ok d _ β2=>.ok d β2
 | .bad=>.bad else .bad
def C0 (i:Nat)(F:List D->Int->FB)(fr:VF (List D)):VF D:=fun vs β=>if mQ vs i=true then (fr vs β).bnd fun ds β1=>match F ds β1 with
 | .ok d true β2=>.ok d β2
 |_=>.bad else .bad
section
variable {X:Cx}{Γ:Fx}{E:XK}{e a b c:Expr}{f fa fb fc:VF D}{L La Lb:List Nat}{md ma mb mc:Md}{pos:Pos}{K:PySem.W.Frag}{es:List Expr}{fr:VF (List D)}
theorem wZ {env:En}{i:Nat}(h:mQ (vl env) i=true):env[i]? =some .bx:=by
 unfold mQ at h
 split at h
 ·exact AW (by assumption)
 ·cases h
theorem xS {env:En}{i j:Nat}{d:D}(h:(dU env i)[j]? =some (.br d)):env[j]? =some (.br d):=by
 unfold dU at h
 split at h
 ·rename_i d' e
  by_cases z:i=j
  ·subst z
   rw[List.getElem?_set_self (List.getElem?_eq_some_iff.mp e).1] at h;cases h
  ·rw[List.getElem?_set_ne z] at h;exact h
 ·exact h
theorem yK {L:List Nat}{env:En}{j:Nat}{d:D}(h:(aC L env)[j]? =some (.br d)):env[j]? =some (.br d):=by
 unfold aC at h
 induction L generalizing env with
 |nil=>exact h
 |cons i L ih=>exact xS (ih h)
theorem SR.calledB {p:Addr}{β β':Int}{G1 H1 G2 H2:Hp}{σ:St}{env:En}(I1:SR Γ (some p) G1 H1 σ env β)(h:dh (some p) H1 H2)(hp:H2 p=some (.lst [.int β']))(g:ah G1 G2)(s:ah G2 H2)(n:∀b,Mx H1 b->G1 b=none->G2 b=none):SR Γ (some p) G2 H2 σ env β':=by
 obtain⟨b1,b2,b3⟩:=I1.box p rfl
 refine⟨s,I1.old.trans g,fun b n1 n2=>n b (I1.thereM n1) (I1.new b n1 n2),fun b o e np=>h b o (I1.keep b o e np) fun z=>?_,fun b hb=>?_,I1.fix,fun b e=>?_,I1.len,fun i t e=>?_,I1.sep⟩
 ·cases z
  rcases b3 with b3 |b3
  ·exact np b3
  ·rw[e] at b3;cases b3
 ·by_cases z:p=b
  ·subst z;exact Mx.lst hp
  ·exact (I1.pin b hb).same fun o q=>h b o q fun y=>z (Option.some.inj y)
 ·cases e
  exact⟨hp,n p (Mx.lst b1) b2,b3⟩
 ·have q:=I1.slot i t e
  cases t with
  |no=>trivial
  |fz d=>obtain⟨v,h1,h2⟩:=q;exact⟨v,h1,h2.mono g⟩
  |ow d=>
   obtain⟨c,h1,h2,h3,h4,h5⟩:=q
   exact⟨c,h1,h2,n c h5.mx h3,h4,h5.mono g fun o q=>h c o q h4⟩
  |bx=>exact q
  |br d=>obtain⟨b1,c,h1,h4,hpp,h5⟩:=q;exact⟨b1,c,h1,h4,hpp,h5.mono g fun o q=>h c o q h4⟩
theorem we {F:List D->Int->FB}{ps:List Str}{Q:VK}{B:Option Addr}{G H:Hp}{σ:St}{env:En}{β:Int}{i:Nat}{p:Addr}(I:SR Γ B G H σ env β)(hK:X.K=Γ.K)(hp:B=some p){wv:Bool}
  (h:Out Γ E (fr (vl env) β) fun ds β1=>Out Γ E (match F ds β1 with
   | .ok d true β2=>.ok d β2
   | .ok d false β2=>if wv=true then .bad else .ok d β2
   | .bad=>.bad) fun d β'=>∀v G' H',SR Γ B G' H' σ (aC L env) β'->ah G G'->dh B H H'->VO Γ.K B H G' H' (if wv=true then .w else .v) d v->Q v H') (hl:∀ds β,F ds β≠.bad->ds.length=ps.length - 1) :
  aT Γ E fr L σ H fun vs H1=>Bp X.K (ps.length - 1) F (.ref p :: vs) H1 Q E:=by
 subst hp
 refine⟨env,G,_,β,I,h.imp fun ds β1 k vs G1 H1 I1 s1 m1 r=>?_⟩
 obtain⟨b1,b2,b3⟩:=I1.box p rfl
 refine⟨p,vs,G1,ds,β1,rfl,b1,b2,I1.sub,hl ds β1 fun z=>by rw[z] at k;exact k,by rw[hK];exact r,?_⟩
 cases q:F ds β1 with
 |bad=>rw[q] at k;exact k
 |ok d fr' β2=>
  rw[q] at k
  intro v G' H' hh hb hg hs hn fv
  have I2:=I1.calledB hh hb hg hs hn
  cases fr' with
  |true=>
   obtain⟨c,rfl,p1,p2,p3⟩:∃a,v=.ref a/\H1 a=none/\G' a=none/\Own X.K G' H' a d:=fv
   rw[hK] at p3
   have hp:=cg m1 I1.boxThere p1
   cases wv with
   |true=>exact k _ G' H' I2 (s1.trans hg) (m1.trans hh) ⟨c,rfl,hp,p2,p3⟩
   |false=>
    obtain⟨q1,q2,q3,q4⟩:=I1.fresh p1
    obtain⟨G3,I3,s3,r3⟩:=I2.letIn q1 p2 q3 q4 p3
    exact k _ G3 H' I3 ((s1.trans hg).trans s3) (m1.trans hh) r3
  |false=>
   cases wv with
   |true=>exact k.elim
   |false=>
    have fv:Rp X.K G' v d:=fv
    rw[hK] at fv
    exact k _ G' H' I2 (s1.trans hg) (m1.trans hh) fv
theorem zH {F:List D->Int->FB}{ps:List Str}{Q:VK}{i:Nat}{σ:St}{H:Hp}(hK:X.K=Γ.K){wv:Bool}(hl:∀ds β,F ds β≠.bad->ds.length=ps.length - 1)(h:pT Γ E (if wv=true then C0 i F fr else kA i F fr) L (if wv=true then .w else .v) σ H Q) :
  wq i σ H fun x H1=>aT Γ E fr L σ H1 fun vs H2=>Bp X.K (ps.length - 1) F (x :: vs) H2 Q E:=by
 obtain⟨env,G,B,β,I,o⟩:=h
 have hi:mQ (vl env) i=true:=by
  by_cases hi:mQ (vl env) i=true
  ·exact hi
  ·exfalso
   cases wv with
   |true=>simp only[if_true] at o;unfold C0 at o;rw[if_neg hi] at o;exact o
   |false=>simp only[Bool.false_eq_true,if_false] at o;unfold kA at o;rw[if_neg hi] at o;exact o
 obtain⟨p,e1,e2⟩:=I.slot i _ (wZ hi)
 refine⟨.ref p,e1,we (i:=i) (ps:=ps) I hK e2 (wv:=wv) ?_ hl⟩
 cases wv with
 |true=>
  simp only[if_true] at o ⊢
  unfold C0 at o
  rw[if_pos hi] at o
  refine o.bnd.imp fun ds β1 h=>?_
  cases q:F ds β1 with
  |bad=>rw[q] at h;exact h
  |ok d b β2=>rw[q] at h;cases b <;> exact h
 |false=>
  simp only[Bool.false_eq_true,if_false] at o ⊢
  unfold kA at o
  rw[if_pos hi] at o
  refine o.bnd.imp fun ds β1 h=>?_
  cases q:F ds β1 with
  |bad=>rw[q] at h;exact h
  |ok d b β2=>rw[q] at h;cases b <;> exact h
theorem fB {x y:Str}{ps:List Str}{k:Nat}{F:List D->Int->FB}{p np:Pos}(i:Nat)(hf:rm X.prog X.w X.K X.mg X.base x ps k F)(hr:bS k X.A)(hx:Passes (ir X.prog X.w) X E)(hK:X.K=Γ.K)(hg:Gl X x)(ha:SA X Γ E es fr L)(hN:X.N[i]? =some y:=by rfl)(hv:oy X.env.scope y:=by first |exact Or.inl rfl |exact Or.inr (Or.inl rfl) |exact Or.inr (Or.inr rfl))(hd:(y == ("__debug__":Str))=false:=by decide)
  (hcd:(y == ("__classdict__":Str))=false:=by decide) (hdb:(x == ("__debug__":Str))=false:=by decide)
  (he:starEach (.Name y np :: es) X.env=(false,eval (.Name y np) X.env) :: starEach es X.env:=by rfl) (hpl:(backTo pos (starEach es X.env)).any (·.1)=false:=by rfl):SE X Γ E (.Call (.Name x p) (.Name y np :: es) [] pos) (kA i F fr) L .v:=by
 obtain⟨f,fd,hm,hk,hb,hF⟩:=hf.ex
 refine PE.post' (mB (dvs:=[]) hF hr hg hm hk hb .nil hx (ag (cH hN hv hd hcd) ha he) hdb he hpl) fun σ H Q h=>?_
 have:=zH (Q:=Q) (wv:=false) (ps:=ps) hK hf.len (by simpa using h)
 show wq i σ H fun x H1=>aT Γ E fr L σ H1 fun vs H2=>Bp X.K (ps.length - 1) F ((x :: vs) ++ []) H2 Q E
 simpa using this
def vb:D->Option Int
 | .list [.int z]=>some z
 |_=>none
theorem xc {d:D}{z:Int}(h:vb d=some z):d=.list [.int z]:=by
 unfold vb at h
 split at h
 ·cases h;rfl
 ·cases h
def DH (f0:VF D)(F:List D->Int->FB)(n:Int):VF D:=fun vs β=>(f0 vs β).bnd fun d0 β1=>match vb d0 with
 |some z=>(match F [.int n] z with
  | .ok d _ _=>.ok d β1
  | .bad=>.bad)
 |none=>.bad
def kg (env:En):En:=env.map fun s=>match s with
 | .bx=>.no
 |s=>s
theorem ue {env:En}{i:Nat}{s:Sl}(h:(kg env)[i]? =some s)(n:s≠.no):env[i]? =some s/\s≠.bx:=by
 unfold kg at h
 rw[List.getElem?_map] at h
 cases e:env[i]? with
 |none=>rw[e] at h;cases h
 |some t=>
  rw[e] at h
  have h:=Option.some.inj h
  cases t with
  |bx=>exact absurd h.symm n
  |no=>exact absurd h.symm n
  |fz d=>subst h;exact⟨rfl,fun z=>by cases z⟩
  |ow d=>subst h;exact⟨rfl,fun z=>by cases z⟩
  |br d=>subst h;exact⟨rfl,fun z=>by cases z⟩
def qp (i:Nat)(L:List Nat)(f:VF D):SF:=fun env β=>toS (f (vl env) β) fun d _=>match vb d with
 |some z=>.nx ((kg (aC L env)).set i .bx) z
 |none=>.bad
theorem wd {i:Nat}{x:Str}{pos':Pos}(hbx:Γ.bx=none)(he:SE X Γ E e f L .w)(hN:X.N.Nodup)(hi:X.N[i]? =some x:=by rfl)(hx:Loc X.env.scope x:=by first |exact Or.inl rfl |exact Or.inr rfl)(hs:swapsWith e (some (.Name x pos')) pos.line X.env=pure false:=by rfl)(hf:X.fn x=true\/X.env.scope.names.lookup x=some .local:=by first |exact .inl rfl |exact .inr rfl |assumption) :
  SS X Γ E (.Assign [.Name x pos'] e pos) (qp i L f):=by
 refine PS.post (gx hN hi hx he hs hf) fun N σ H ⟨env,G,B,β,I,o⟩=>?_
 refine⟨env,G,B,β,I,aQ o fun d β' k v G' H' I' s' m' vo=>?_⟩
 cases q:vb d with
 |none=>rw[q] at k;exact k.elim
 |some z=>
  rw[q] at k
  obtain rfl:=xc q
  obtain⟨p,rfl,h1,h2,xs,h3,r⟩:=vo
  have hx2:H' p=some (.lst [.int z]):=by
   cases r with
   |cons r1 r2=>
    cases r1
    cases r2
    exact h3
  obtain⟨q1,q2,q3,q4⟩:=I.fresh h1
  refine k (some p) G' H' _ ⟨I'.sub,I'.old,I'.new,I'.keep,I'.pin,fun b e=>(by rw[hbx] at e;cases e),fun b e=>?_,?_,fun j t e=>?_,fun j j' c d1 d2 e1 e2 e3 e4=>?_⟩ s'
  ·cases e;exact⟨hx2,h2,.inr q1⟩
  ·rw[List.length_set,List.length_set];unfold kg;rw[List.length_map];exact I'.len
  ·by_cases hj:j=i
   ·subst hj
    by_cases hl:j < (kg (aC L env)).length
    ·rw[List.getElem?_set_self hl] at e
     cases e
     refine⟨p,?_,rfl⟩
     rw[List.getElem?_set_self]
     rw[I'.len];unfold kg at hl;simpa using hl
    ·rw[List.getElem?_eq_none (by rw[List.length_set];omega)] at e;cases e
   ·rw[List.getElem?_set_ne (Ne.symm hj)] at e ⊢
    by_cases hn:t=.no
    ·subst hn;trivial
    ·obtain⟨e1,nb⟩:=ue e hn
     have w:=I'.slot j t e1
     cases t with
     |no=>trivial
     |fz d=>exact w
     |bx=>exact absurd rfl nb
     |ow d=>
      obtain⟨a',g1,g2,g3,g4,g5⟩:=w
      exact⟨a',g1,g2,g3,fun y=>q4 j d (me e1) (by cases y;exact g1),g5⟩
     |br d=>
      obtain⟨b1,a',g1,g4,hpp,g5⟩:=w
      have e0:env[j]? =some (.br d):=yK e1
      obtain⟨_,a2,f1,_,_,f5⟩:=I.slot j _ e0
      rw[g1] at f1;cases f1
      obtain⟨o,ho⟩:=f5.obj
      exact⟨b1,a',g1,fun y=>(by cases y;rw[h1] at ho;cases ho),hpp,g5⟩
  ·have back:∀{j:Nat} {d1:D},((kg (aC L env)).set i Sl.bx)[j]? =some (.ow d1)->j≠i/\(aC L env)[j]? =some (.ow d1):=fun {j d1} e=>by
    by_cases hj:j=i
    ·subst hj
     by_cases hl:j < (kg (aC L env)).length
     ·rw[List.getElem?_set_self hl] at e;cases e
     ·rw[List.getElem?_eq_none (by rw[List.length_set];omega)] at e;cases e
    ·rw[List.getElem?_set_ne (Ne.symm hj)] at e
     exact⟨hj,(ue e (fun y=>by cases y)).1⟩
   obtain⟨n1,w1⟩:=back e1
   obtain⟨n2,w2⟩:=back e2
   rw[List.getElem?_set_ne (Ne.symm n1)] at e3
   rw[List.getElem?_set_ne (Ne.symm n2)] at e4
   exact I'.sep j j' c d1 d2 w1 w2 e3 e4
end
section
variable {P:Program}{w:World}{K:PySem.W.Frag}{mg:Str->Option Value}{base:Heap}{ca:Str->Addr}
def A9:SO->FB
 | .nx _ β=>.ok .none false β
 | .rt d fr β=>.ok d fr β
 |_=>.bad
def pM (n:Nat)(ds:List D):En:=.bx :: ds.map Sl.fz ++ List.replicate (n - 1 - ds.length) .no
def se (n p:Nat)(m:SF):List D->Int->FB:=fun ds β=>if ds.length=p then A9 (m (pM n ds) β) else .bad
abbrev Fx.fb (K:PySem.W.Frag)(H G:Hp)(ca:Str->Addr)(b:Addr):Fx:=⟨K,H,G,[b],ca,fun _=>false,some b⟩
theorem SR.startB {H G:Hp}{N:List Str}{b:Addr}{vs:List V}{ds:List D}{β:Int}(s:ah G H)(hb:H b=some (.lst [.int β]))(gb:G b=none)(r:a9 K G vs ds)(hn:ds.length + 1<=N.length):SR (Fx.fb K H G ca b) (some b) G H (L2.start N (.ref b :: vs)) (pM N.length ds) β:=by
 have hl:=r.len
 refine⟨s,ah.refl _,fun c _ h=>h,fun c o h _=>h,fun c h=>?_,fun c h=>h,fun c h=>?_,?_,fun i t e=>?_,fun i j a d e h=>?_⟩
 ·have:c=b:=by simpa using h
  subst this;exact Mx.lst hb
 ·cases h;exact⟨hb,gb,.inl (by simp)⟩
 ·unfold L2.start pM;simp;omega
 ·cases i with
  |zero=>
   unfold pM at e
   cases e
   exact⟨b,rfl,rfl⟩
  |succ i=>
   unfold pM at e
   have e:(ds.map Sl.fz ++ List.replicate (N.length - 1 - ds.length) Sl.no)[i]? =some t:=by simpa using e
   by_cases hi:i < ds.length
   ·rw[List.getElem?_append_left (by simpa using hi),List.getElem?_map,List.getElem?_eq_getElem hi] at e
    cases e
    obtain⟨x,hx,rx⟩:=r.at (List.getElem?_eq_getElem hi)
    refine⟨x,?_,rx⟩
    unfold L2.start
    have hi':i < vs.length:=by rw[hl];exact hi
    rw[List.getElem?_append_left (by simp;exact hi'),List.getElem?_map,List.getElem?_cons_succ,hx];rfl
   ·rw[List.getElem?_append_right (by simpa using hi),List.getElem?_replicate] at e
    split at e
    ·cases e;trivial
    ·cases e
 ·unfold pM at h
  have hm:=List.mem_of_getElem? h
  rcases List.mem_cons.mp hm with z |hm
  ·cases z
  rcases List.mem_append.mp hm with z |z
  ·obtain⟨_,_,z⟩:=List.mem_map.mp z;cases z
  ·have:=List.eq_of_mem_replicate z;cases this
theorem ui {x qual:Str}{st:Stmt}{f:Addr}{fd:FuncData}{N:List Str}{ps:List Str}{k:Nat}{m:SF}(F:sW K x qual st f fd)(S:aF N ps (aj st))(hp:1<=ps.length)
  (hbody:∀(cdv:Value) (A:Around) (outer:List Env) (s:Shared) (H G:Hp) (b:Addr) (E:XK),bS k (A.deeper (envOfC qual (aj st) s.heap.objs.size f cdv))->sU (fE (ir P w) P w K mg base N qual (aj st) f cdv A outer s H E) (Fx.fb K H G ca b) E (aR st) m) :
  fj P w K mg base (ir P w) (k + 1) f fd ps (Bp K (ps.length - 1) (se N.length (ps.length - 1) m)):=by
 have hpn:ps.length<=N.length:=by have:=congrArg List.length S.pre;rw[List.length_take] at this;omega
 refine F.yb S (fun vs H Q E h=>?_) (fun cdv A outer s H vs Q E hr h=>?_)
 ·obtain⟨b,rest,G,ds,β,rfl,hb,gb,sG,hl,r,_⟩:=h
  rw[List.length_cons,r.len];omega
 ·obtain⟨b,rest,G,ds,β,rfl,hb,gb,sG,hl,r,h⟩:=h
  refine⟨_,hbody cdv A outer s H G b E hr,?_⟩
  have I:=SR.startB (ca:=ca) (N:=N) sG hb gb r (by omega)
  refine⟨_,G,some b,β,I,?_⟩
  unfold se at h
  rw[if_pos hl] at h
  have fin':∀{B G' H' σ env β},SR (Fx.fb K H G ca b) B G' H' σ env β->dh (some b) H H'/\H' b=some (.lst [.int β]):=fun J=>by
   have e:=J.fix b rfl
   refine⟨fun c o ec n=>J.keep c o ec fun z=>n ?_,(J.box b e).1⟩
   have:c=b:=by simpa using z
   rw[this]
  cases q:m (pM N.length ds) β with
  |nx env β'=>rw[q] at h;exact fun B G' H' σ J s'=>h .non G' H' (fin' J).1 (fin' J).2 s' J.sub (fun c h1 h2=>J.new c h1 h2) Rp.non
  |bk env β'=>rw[q] at h;exact h.elim
  |ct env β'=>rw[q] at h;exact h.elim
  |rt d fr β'=>
   rw[q] at h
   refine fun B G' H' σ env v J s' rv=>h v G' H' (fin' J).1 (fin' J).2 s' J.sub (fun c h1 h2=>J.new c h1 h2) ?_
   cases fr with
   |true=>exact rv
   |false=>exact rv
  |exc c=>rw[q] at h;exact h.elim
  |bad=>rw[q] at h;exact h.elim
theorem tY {n p:Nat}{m:SF}(ds:List D)(β:Int)(h:se n p m ds β≠.bad):ds.length=p:=by
 unfold se at h
 by_cases hl:ds.length=p
 ·exact hl
 ·rw[if_neg hl] at h;exact absurd rfl h
end
end L2

end

section
namespace L2
open PySem PySem.Spec PyProof.Rows
def e6 (p:Pr):D:=.tuple [.int p.1,.int p.2]
def Ax:D->Option Pr
 | .tuple [.int a,.int b]=>some (a,b)
 |_=>none
def vE:List D->Option (List Pr)
 | []=>some []
 |d :: ds=>match Ax d,vE ds with
  |some p,some ps=>some (p :: ps)
  |_,_=>none
section
variable {K:PySem.W.Frag}{X:Cx}{G H:Hp}
def Dx (p:Pr):Bool:=decide (0<=p.1) && decide (p.1 < 8) && decide (0<=p.2) && decide (p.2 < 8)
variable {Γ:Fx}{E:XK}{e a b c:Expr}{f fa fb fc:VF D}{L La Lb:List Nat}{md ma mb mc:Md}{pos:Pos}
end
end L2

end

section
namespace L2
open PySem PySem.Spec PyProof.Rows
section
variable {K:PySem.W.Frag}{X:Cx}{G H:Hp}{Γ:Fx}{E:XK}{e a b c:Expr}{f fa fb fc:VF D}{L La Lb:List Nat}{md ma mb mc:Md}{pos apos cpos np:Pos}
def cS:D->Option D
 | .int n=>if 0<=n/\n<=1000 then some (.list (cG 0 n.toNat)) else none
 |_=>none
theorem rV (n:Nat):a9 K G ((List.range n).map fun (i:Nat)=>V.int (i:Int)) (cG 0 n):=by
 have key:∀l:List Nat,a9 K G (l.map fun (i:Nat)=>V.int (i:Int)) (l.map fun (k:Nat)=>PyData.int (0 + k)):=by
  intro l
  induction l with
  |nil=>exact .nil
  |cons x l ih=>exact .cons (by show Rp K G (.int (x:Int)) (.int (0 + (x:Int)));rw[Int.zero_add];exact .int _) ih
 exact key _
theorem jz {p1 p2 pos2:Pos}(hc:X.calm=true)(hg:Gl X "list")(hm:X.mg "list"=none)(hg2:Gl X "range")(hm2:X.mg "range"=none)(ha:SE X Γ E a fa La ma)
  (he:starEach [a] X.env=(false,eval a X.env) :: starEach [] X.env:=by rfl)
  (he2:starEach [.Call (.Name "range" p2) [a] [] pos2] X.env=(false,eval (.Call (.Name "range" p2) [a] [] pos2) X.env) :: starEach [] X.env:=by rfl) :
  SE X Γ E (.Call (.Name "list" p1) [.Call (.Name "range" p2) [a] [] pos2] [] pos) (f1 fa cS) La .w:=by
 refine PE.post' (fR (ke hc) hg hm (by decide +kernel) (ag (fR ur hg2 hm2 (by decide +kernel) (ag ha ay he) (by decide) (by decide) he) ay he2) (by decide) (by decide) he2) fun σ H Q ⟨env,G,B,β,I,o⟩=>?_
 refine eh (r:=fun x H1 Q=>∃n:Int,[x]= [.int n]/\∀p,H1 p=none->(fun (y:V) (H2:Hp)=>∃(p:Addr) (n:Int),[y]= [V.ref p]/\H2 p=some (.dg 0 n)/\0<=n/\n<=1000/\∀l,H2 l=none->Q (.ref l) (upd H2 l (.lst ((List.range n.toNat).map fun (i:Nat)=>V.int (i:Int))))) (V.ref p) (upd H1 p (.dg 0 n))) ?_ I o
 intro B G H x dx d Q s hB bx e k
 cases dx with
 |int n=>
  obtain rfl:=bx.int
  simp only[cS] at e
  split at e
  ·rename_i hh
   cases e
   refine⟨n,rfl,fun p hp=>⟨p,n,rfl,ai,hh.1,hh.2,fun l hl=>?_⟩⟩
   have hlp:l≠p:=fun z=>by subst z;rw[ai] at hl;cases hl
   have hlH:H l=none:=by rw[aq hlp] at hl;exact hl
   have x1:=Ext.own s (o:=.dg 0 n) hp
   have x2:=Ext.own x1.gh (o:=.lst ((List.range n.toNat).map fun (i:Nat)=>V.int (i:Int))) hl
   exact k _ _ _ (x1.trans x2) ⟨l,rfl,hlH,s.free hlH,_,ai,rV _⟩
  ·cases e
 |_=>cases e
def xY:D->Option D
 | .int i=>some (.int (if i < 0 then -i else i))
 |_=>none
theorem BG:tH K (fun x H Q=>∃i,[x]= [.int i]/\Q (.int (if i < 0 then -i else i)) H) xY .v:=by
 intro B G H x dx d Q s hB bx e k
 cases dx with
 |int i=>cases e;obtain rfl:=bx.int;exact⟨i,rfl,k _ G H (Ext.refl s) (.int _)⟩
 |_=>cases e
def kC (d:D):Option D:=match nO d with
 |some _=>if d.showable=true/\d.hasDict=false/\d.depth<=64/\d.shown.length<=sizeLine/\qB d=true then some (.str d.shown) else none
 |none=>none
theorem vq:tH K (fun x=>yz K [x]) kC .v:=by
 intro B G H x dx d Q s hB bx e k
 unfold kC at e
 cases q:nO dx with
 |none=>rw[q] at e;cases e
 |some ds=>
  rw[q] at e
  dsimp only at e
  split at e
  ·rename_i hh
   cases e
   obtain⟨a,xs,rfl,_,_⟩:=bx.seq q s
   exact⟨a,dx,rfl,(bx.rpH s).rep hh.2.2.2.2,hh.1,hh.2.1,hh.2.2.1,hh.2.2.2.1,k _ G H (Ext.refl s) (.str _)⟩
  ·cases e
noncomputable def Cv (d:D):Option D:=match d with
 | .list ds=>(match vE ds with
  |some ps=>if ps.all Dx=true/\ps.Nodup/\ps.length < 64 then some (.list ((OM.Df 8 (OM.Mem ps)).map e6)) else none
  |none=>none)
 |_=>none
def iA (ds:List D)(k:D):Option (D×List D):=match k with
 | .int i=>if -(2 ^ 63)<=i/\i < 2 ^ 63 then (match seqIndex? i ds.length with
  |some n=>(match ds[n]? with
   |some d=>some (d,ds.eraseIdx n)
   |none=>none)
  |none=>none) else none
 |_=>none
def eM (i j:Nat)(L:List Nat)(f:VF D):SF:=fun env β=>if ip env[i]? =true/\ip env[j]? =true/\i≠j then toS (f (vl env) β) fun k β'=>match (aC L env)[j]? with
 |some (.ow (.list es))=>(match iA es k with
  |some (d,es')=>yj i ((aC L env).set j (.ow (.list es'))) β' fun ds=>if ds.length < sizeLine then some (ds ++ [d]) else none
  |none=>.bad)
 |_=>.bad else .bad
theorem a9.eraseIdx:∀{xs:List V} {ds:List D} (i:Nat),a9 K G xs ds->a9 K G (xs.eraseIdx i) (ds.eraseIdx i)
 |_,_,_,.nil=>.nil
 |_,_,0,.cons _ t=>t
 |_,_,i + 1,.cons r t=>.cons r (a9.eraseIdx i t)
theorem sh (i j:Nat){x y:Str}{np2 apos2 cpos2:Pos}(hb:∀j,Γ.br j=false)(he:SE X Γ E e f L md)(hN:X.N[i]? =some x:=by rfl)(hv:oy X.env.scope x:=by first |exact Or.inl rfl |exact Or.inr (Or.inl rfl) |exact Or.inr (Or.inr rfl))(hd:(x == ("__debug__":Str))=false:=by decide)
  (hcd:(x == ("__classdict__":Str))=false:=by decide)
  (hN2:X.N[j]? =some y:=by rfl) (hv2:oy X.env.scope y:=by first |exact Or.inl rfl |exact Or.inr (Or.inl rfl) |exact Or.inr (Or.inr rfl)) (hd2:(y == ("__debug__":Str))=false:=by decide)
  (hcd2:(y == ("__classdict__":Str))=false:=by decide)
  (hbase:attributeBase (.Name x np) "append" X.env (eval (.Name x np) X.env)=eval (.Name x np) X.env:=by rfl)
  (hfew:((backTo cpos (starEach [.Call (.Attribute (.Name y np2) "pop" apos2) [e] [] cpos2] X.env)).all (fun x=> !x.1) && (backToKw cpos (keywordEach [] X.env)).all (fun x=>x.1.isSome)
   && decide ([Expr.Call (.Attribute (.Name y np2) "pop" apos2) [e] [] cpos2].length + ([]:List Keyword).length + (if ([]:List Keyword).isEmpty then 0 else 1) < 30))=true:=by rfl)
  (hline:(apos.endLine == cpos.line)=true:=by rfl) (hs:starEach [.Call (.Attribute (.Name y np2) "pop" apos2) [e] [] cpos2] X.env=(false,eval (.Call (.Attribute (.Name y np2) "pop" apos2) [e] [] cpos2) X.env) :: starEach [] X.env:=by rfl)
  (hbase2:attributeBase (.Name y np2) "pop" X.env (eval (.Name y np2) X.env)=eval (.Name y np2) X.env:=by rfl)
  (hfew2:((backTo cpos2 (starEach [e] X.env)).all (fun x=> !x.1) && (backToKw cpos2 (keywordEach [] X.env)).all (fun x=>x.1.isSome)
   && decide ([e].length + ([]:List Keyword).length + (if ([]:List Keyword).isEmpty then 0 else 1) < 30))=true:=by rfl)
  (hline2:(apos2.endLine == cpos2.line)=true:=by rfl) (hs2:starEach [e] X.env=(false,eval e X.env) :: starEach [] X.env:=by rfl)
  (hsw:swapsWith (.Call (.Attribute (.Name x np) "append" apos) [.Call (.Attribute (.Name y np2) "pop" apos2) [e] [] cpos2] [] cpos) none pos.line X.env=pure false:=by rfl) :
  SS X Γ E (.Expr (.Call (.Attribute (.Name x np) "append" apos) [.Call (.Attribute (.Name y np2) "pop" apos2) [e] [] cpos2] [] cpos) pos) (eM i j L f):=by
 refine PS.post (l4 (jr PySem.F.plainAttrs_list PySem.F.slot_list_append PySem.F.type_list_append iH (cH hN hv hd hcd)
  (ag (jr PySem.F.plainAttrs_list PySem.F.slot_list_pop PySem.F.type_list_pop mL (cH hN2 hv2 hd2 hcd2) (ag he ay hs2) hbase2 hfew2 hline2 hs2 rfl) ay hs) hbase hfew hline hs rfl) hsw) fun N σ H ⟨env,G,B,β,I,o⟩=>?_
 unfold eM at o
 by_cases hO:ip env[i]? =true/\ip env[j]? =true/\i≠j
 case neg=>rw[if_neg hO] at o;exact o.elim
 rw[if_pos hO] at o
 obtain⟨hO1,hO2,hij⟩:=hO
 obtain⟨ds0,q0⟩:=fZ hO1
 obtain⟨es0,w0⟩:=fZ hO2
 obtain⟨p,h1,_,_,_,xs,h5,_⟩:=I.slot i _ q0
 obtain⟨q,k1,_,_,_,ys,k5,_⟩:=I.slot j _ w0
 refine⟨_,h1,.inl ⟨rfl,xs,.inl (.inl h5)⟩,?_⟩
 refine⟨_,k1,.inl ⟨rfl,ys,.inl (.inl k5)⟩,?_⟩
 refine⟨env,G,B,β,I,aQ o fun kd β' k v G' H' I' s' m' vo=>?_⟩
 cases ej:(aC L env)[j]? with
 |none=>rw[ej] at k;exact k.elim
 |some sj=>
  rw[ej] at k
  cases sj with
  |ow dj=>
   cases dj with
   |list es=>
    dsimp only at k
    cases ep:iA es kd with
    |none=>rw[ep] at k;exact k.elim
    |some pr=>
     obtain⟨d,es'⟩:=pr
     rw[ep] at k
     dsimp only at k
     unfold iA at ep
     cases kd <;> first | (cases ep;done) |skip
     rename_i ii
     dsimp only at ep
     split at ep
     ·rename_i hr
      cases eI:seqIndex? ii es.length with
      |none=>rw[eI] at ep;cases ep
      |some n=>
       rw[eI] at ep
       dsimp only at ep
       cases eD:es[n]? with
       |none=>rw[eD] at ep;cases ep
       |some d0=>
        rw[eD] at ep
        cases ep
        obtain rfl:=(vo.brw I.boxThere).int
        obtain⟨q',g1,_,_,_,zs,g5,g6⟩:=I'.slot j _ ej
        rw[k1] at g1;cases g1
        obtain⟨xv,ex,rx⟩:=g6.at eD
        refine⟨q,zs,ii,n,xv,rfl,rfl,g5,hr.1,hr.2,by rw[g6.len];exact eI,ex,?_⟩
        have I2:=I'.write hb ej k1 (o:=.lst (zs.eraseIdx n)) (d':=.list (es.eraseIdx n)) fun H2 e2 s2=>⟨_,e2,g6.eraseIdx n⟩
        obtain⟨ds,fs,eq,eg,k⟩:=jg k
        by_cases hz:ds.length < sizeLine
        case neg=>rw[if_neg hz] at eg;cases eg
        rw[if_pos hz] at eg
        cases eg
        obtain⟨p',f1,_,_,_,us,f5,f6⟩:=I2.slot i _ eq
        rw[h1] at f1;cases f1
        refine⟨p,us,xv,rfl,rfl,f5,by rw[f6.len];exact hz,?_⟩
        exact k B G' _ σ (I2.write hb eq h1 fun H2 e2 s2=>⟨_,e2,f6.snoc rx⟩) s'
     ·cases ep
   |_=>exact k.elim
  |_=>exact k.elim
end
def eZ:List D->Int->FB
 | [.int m],β=>if 0 < m/\m < 1073741824 then .ok (.int (β % m)) false (β / m) else .bad
 |_,_=>.bad
theorem qQ {ds:List D}{β:Int}(h:eZ ds β≠.bad):∃m,ds= [.int m]/\0 < m/\m < 1073741824:=by
 unfold eZ at h
 split at h
 ·rename_i m
  by_cases hh:0 < m/\m < 1073741824
  ·exact⟨m,rfl,hh.1,hh.2⟩
  ·rw[if_neg hh] at h;exact absurd rfl h
 ·exact absurd rfl h
theorem lY {m β:Int}(h0:0 < m)(h1:m < 1073741824):eZ [.int m] β=.ok (.int (β % m)) false (β / m):=if_pos ⟨h0,h1⟩
def constsOf:List Expr->Option (List Int)
 | []=>some []
 | .Constant (.int i) _ _ :: es=>(constsOf es).map fun r=>i :: r
 |_=>none
def Dp (ns:List Int):VF (List D):=fun _ β=>.ok (ns.map PyData.int) β
theorem kM {X:Cx}{Γ:Fx}{E:XK}:∀{es:List Expr} {ns:List Int},constsOf es=some ns->SA X Γ E es (Dp ns) []
 | [],ns,h=>by
  have e:ns= []:=by unfold constsOf at h;exact (Option.some.inj h).symm
  subst e
  exact ao
 |e :: es,ns,h=>by
  unfold constsOf at h
  split at h
  ·cases ‹_ :: _= []›
  ·next i a b es' heq=>
   cases heq
   cases q:constsOf es with
   |none=>rw[q] at h;cases h
   |some r=>
    rw[q] at h
    have e2:i :: r=ns:=Option.some.inj h
    subst e2
    exact af ax (kM q) rfl
  ·cases h
section
variable {P:Program}{w:World}{K:PySem.W.Frag}{mg:Str->Option Value}{base:Heap}
theorem wD {X:Cx}{i j:Nat}{x y:Str}{px py pos:Pos}{k:Nat}(hN:X.N.Nodup)(hi:X.N[i]? =some x)(hj:X.N[j]? =some y)(hx:X.env.scope.names.lookup x=some .local)(hy:X.env.scope.names.lookup y=some .local)(hc:X.calm=true) :
  PG X (.Tuple [.Name x px,.Name y py] k pos) (AO X.K 2 (uH (qf i) (uH (qf j) A4))):=
 uO hc (ic (hJ hN hi (Or.inl hx) (Or.inr hx)) (ic (hJ hN hj (Or.inl hy) (Or.inr hy)) qq))
theorem u7 {b:Addr}{β m:Int}{H:Hp}{Q:VK}{G:Hp}(hb:H b=some (.lst [.int β]))(s:ah G H){p:Addr}(hp:H p=none)
  (kk:∀v G' H',dh (some b) H H'->H' b=some (.lst [.int (β / m)])->ah G G'->ah G' H'->(∀c,Mx H c->G c=none->G' c=none)->FV K H G' H' false (.int (β % m)) v->Q v H') (gb:G b=none) :
  Q (.int (β % m)) (upd (upd H p (.tup [.int (β / m),.int (β % m)])) b (.lst [.int (β / m)])):=by
 have hbp:b≠p:=aE hb hp
 refine kk _ G _ (fun c o e n=>?_) ai (ah.refl _) (fun c o e=>?_) (fun c _ h=>h) (.int _)
 ·rw[aq (fun z=>n (by rw[z])),aq (aE e hp)];exact e
 ·rw[aq (fun z=>by rw[z,gb] at e;cases e),aq (aE (s c o e) hp)];exact s c o e
end
end L2

end

section
namespace L2
open PySem PySem.SeqAt PySem.Spec PyProof.Rows
theorem mj {M:Model}{A:Around}{E:Value->Shared->Prop}{s:Shared}{β:Type}{b:Nat}(f:Nat->β->Sem (ForInStep β))(I:List Nat->β->Shared->Prop)(Q:β->Shared->Prop)
  (turn:∀x rest b s,I (x :: rest) b s->wpAny M A (f x b) (fun r s'=>match r with | .yield b'=>I rest b' s' | .done b'=>Q b' s') E s)
  (fin:∀b s,I [] b s->Q b s) (c:β) (h:I (List.range' 0 b) c s):wpAny M A (forIn [0:b] c f) Q E s:=by
 rw[Std.Legacy.Range.forIn_eq_forIn_range']
 simp only[Std.Legacy.Range.size,Nat.sub_zero,Nat.add_sub_cancel,Nat.div_one]
 exact wpAny_forIn_list f I Q turn fin _ c h
theorem kr (l:Addr)(items:Array Value)(n:Nat)(dd:Option Addr)(sl:Array (Option Value))(x:Value)(e:Value->Bool)(j:Nat)(hj:j < items.size)
  (hit:e items[j]=true) (hno:∀m (hm:m < items.size),m < j->e items[m]=false) :
  Meets (Builtin.«tuple.index» ⟨[.ref l,x],[]⟩)
   (fun A R s=>s.heap.get? l=some {cls:=.type "tuple",dict:=dd,data:=.seq items n,slots:=sl}/\(∀y,y∈items->EqAt A.in1 s y x (e y))/\R (.ok (.ret (.int j s.toks))) {s with toks:=s.toks + 1}):=
 .of_wp fun prog w A R s h=>by
  obtain⟨hp,g,d,tk,os⟩:=s;obtain⟨hl,he,h⟩:=h
  wp_walk using wpAny_loadPart' hl,mj _ (fun rest b s'=>b.1=none/\s'=⟨hp,g,d,tk,os⟩/\∃i,i<=j/\rest=List.range' i (items.size - i)) _
  case turn=>
   rintro y rest b s' ⟨hb,rfl,i,hi,hr⟩
   obtain⟨m,hm⟩:∃m,items.size - i=m + 1:=⟨items.size - i - 1,by omega⟩
   rw[hm,List.range'_succ] at hr
   obtain⟨rfl,rfl⟩:=List.cons.inj hr
   have hlt:y < items.size:=by omega
   have e1:items[y]? =some items[y]:=by simp[hlt]
   simp only[e1]
   refine wpAny_bind (he _ (Array.getElem_mem hlt) prog w _ _ ?_)
   by_cases z:y=j
   ·subst z
    rw[hit]
    wp_walk
    exact⟨_,rfl,h⟩
   ·rw[hno y hlt (by omega)]
    wp_walk
    exact⟨rfl,rfl,y + 1,by omega,by congr 1;omega⟩
  case fin=>
   rintro b s' ⟨hb,rfl,i,hi,hr⟩
   obtain⟨m,hm⟩:∃m,items.size - i=m + 1:=⟨items.size - i - 1,by omega⟩
   rw[hm,List.range'_succ] at hr
   cases hr
  case h=>
   exact⟨rfl,rfl,0,Nat.zero_le _,by rw[Nat.min_self];rfl⟩
section
variable {K:PySem.W.Frag}{X:Cx}{G H:Hp}{Γ:Fx}{E:XK}{e a b c:Expr}{f fa fb fc:VF D}{L La Lb:List Nat}{md ma mb mc:Md}{pos apos cpos np:Pos}
def pX (k:Int):Value->Bool
 | .int i _=>i == k
 |_=>false
theorem gA {k:Int}:∀{ns:List Int} {us:List Value} (i:Nat) (h:i < us.length) (h2:i < ns.length),Vals (ns.map V.int) us->pX k us[i]=(ns[i] == k)
 | [],_,_,_,h2,_=>absurd h2 (Nat.not_lt_zero _)
 |n :: ns,_,0,_,_,.cons r _=>by obtain⟨t,rfl⟩:=r;rfl
 |n :: ns,_,i + 1,h,h2,.cons _ rs=>gA i (Nat.lt_of_succ_lt_succ h) (Nat.lt_of_succ_lt_succ h2) rs
theorem nV {k:Int}{t:Tok}(A:Around)(s:Shared):∀{ns:List Int} {us:List Value},Vals (ns.map V.int) us->∀y∈us,EqAt A s y (.int k t) (pX k y)
 | [],_,.nil,y,hy=>by cases hy
 |n :: ns,_,.cons r rs,y,hy=>by
  rcases List.mem_cons.mp hy with z |z
  ·subst z;obtain⟨t',rfl⟩:=r;exact EqAt.int_int n t' k t
  ·exact nV A s rs y z
def xZ (K:PySem.W.Frag):V->List V->Hp->VK->Prop:=fun x vs H Q=>∃(a:Addr) (ns:List Int) (k:Int),x=.ref a/\vs= [.int k]/\dq K H a (ns.map V.int)/\k∈ns/\Q (.int (ns.idxOf k:Nat)) H
theorem rK:yx X "tuple.index" (xZ X.K):=by
 intro pins s σ H x vs v us Q I rx rv h
 obtain⟨a,ns,k,rfl,rfl,hq,hk,q⟩:=h
 cases rx
 obtain⟨u,rfl,ru⟩:=vals1 rv
 obtain⟨t,rfl⟩:=ru
 obtain⟨its,rs,pl,hz⟩:=I.tuple hq
 obtain⟨⟨cls,dd,data,sl⟩,ho,hc,n,hd⟩:=id pl
 simp only at hc hd
 subst hc hd
 have hj:ns.idxOf k < ns.length:=List.idxOf_lt_length_iff.mpr hk
 have hlen:its.length=ns.length:=by rw[<-rs.length,List.length_map]
 refine call_meets PySem.F.slot_tuple_index ⟨_,ho,rfl⟩ PySem.F.entry_tuple_index (PySem.F.args_tuple_index_2 _ _)
  (kr a its.toArray n dd sl (.int k t) (pX k) (ns.idxOf k) (by simpa[hlen] using hj) ?_ ?_) ⟨ho,fun y hy=>nV _ _ rs y (by simpa using hy),?_⟩
 ·have:=gA (k:=k) (ns.idxOf k) (by omega) hj rs
  simpa[List.getElem_idxOf hj] using this
 ·intro m hm hlt
  have hm':m < ns.length:=by simpa[hlen] using hm
  have hne:ns[m]≠k:=fun z=>by
   have:=List.not_of_lt_findIdx (p:=(· == k)) hlt
   simp[z] at this
  have:=gA (k:=k) m (by omega) hm' rs
  rw[beq_eq_false_iff_ne.mpr hne] at this;simpa using this
 ·exact⟨.int (ns.idxOf k:Nat),H,I.tok _,⟨_,rfl⟩,q⟩
theorem Inv.tupleP {pins:List (Addr×Obj)}{σ:St}{s:Shared}{p:Addr}{xs:List V}(I:Inv X pins σ H s)(h:dq X.K H p xs):s.TypeIs (.ref p) "tuple"/\∀a,Value.ref p=.ref a->∃ob,s.heap.get? a=some ob/\ob.dict=none:=by
 rcases h with h | ⟨o,its,n,hk,hc,hs,hz,r,hd⟩
 ·obtain⟨_,_,_,o,e,c,n,d,hd⟩:=h.ok I.hok
  exact⟨⟨o,e,c⟩,fun a z=>by cases z;exact⟨o,e,hd⟩⟩
 ·exact⟨⟨o,I.kIn p o hk,hc⟩,fun a z=>by cases z;exact⟨o,I.kIn p o hk,hd⟩⟩
def CO (K:PySem.W.Frag)(r:V->List V->Hp->VK->Prop)(to:TE)(t:TA):TE:=fun σ H Q=>to σ H fun x H1=>(∃p xs,x=.ref p/\dq K H1 p xs)/\t σ H1 fun xs H2=>r x xs H2 Q
theorem zM {o e:Expr}{es:List Expr}{to:TE}{t:TA}{name:Str}{apos cpos:Pos}{id:String}{r:V->List V->Hp->VK->Prop}(slot:Slot "tuple" name id)(hty:typeOf (.builtin id)=pure (.type "method_descriptor"))(hm:yx X id r)(ho:PE X o to)(ha:PA X (e :: es) t)
  (hbase:attributeBase o name X.env (eval o X.env)=eval o X.env:=by rfl)
  (hfew:((backTo cpos (starEach (e :: es) X.env)).all (fun x=> !x.1) && (backToKw cpos (keywordEach [] X.env)).all (fun x=>x.1.isSome)
   && decide ((e :: es).length + ([]:List Keyword).length + (if ([]:List Keyword).isEmpty then 0 else 1) < 30))=true:=by rfl)
  (hline:(apos.endLine == cpos.line)=true:=by rfl) (hs:starEach (e :: es) X.env=(false,eval e X.env) :: starEach es X.env:=by rfl) (hplain:(backTo cpos (starEach es X.env)).any (·.1)=false:=by rfl) :
  PE X (.Call (.Attribute o name apos) (e :: es) [] cpos) (CO X.K r to t):=by
 intro pins s σ H Q I h
 refine wpAny_Call_method_late hbase hfew hline rfl (bb (ho pins s σ H _ I h) fun v s1 ⟨x,H1,I1,r1,⟨p,ys,ex,hr⟩,q1⟩=>?_)
 subst ex
 cases r1
 obtain⟨h1,h2⟩:=I1.tupleP hr
 refine⟨"tuple",id,PySem.F.plainAttrs_tuple,slot,hty,h1,h2,?_⟩
 have hA:=ha cpos pins s1 σ H1 _ I1 q1
 rw[hs] at hA ⊢
 refine Calls.callWith_builtin (by show (false || (backTo cpos (starEach es X.env)).any (·.1))=false;rw[hplain] <;> rfl) (Calls.evalArgs_plain ?_)
 exact bb hA fun us s2 ⟨vs,H2,I2,r2,q2⟩=>hm pins s2 σ H2 (.ref p) vs (.ref p) us Q I2 rfl r2 q2
def dM:List D->Option (List Int)
 | []=>some []
 | .int i :: ds=>(dM ds).map (i :: ·)
 |_=>none
theorem jH:∀{ds:List D} {ns:List Int},dM ds=some ns->ds=ns.map PyData.int
 | [],ns,h=>by cases h;rfl
 | .int i :: ds,ns,h=>by
  unfold dM at h
  cases q:dM ds with
  |none=>rw[q] at h;cases h
  |some ms=>rw[q] at h;cases h;rw[jH q];rfl
 | .none :: _,_,h=>by cases h
 | .bool _ :: _,_,h=>by cases h
 | .str _ :: _,_,h=>by cases h
 | .list _ :: _,_,h=>by cases h
 | .tuple _ :: _,_,h=>by cases h
 | .dict _ :: _,_,h=>by cases h
theorem dQ:∀ns:List Int,dM (ns.map PyData.int)=some ns
 | []=>rfl
 |n :: ns=>by show (dM (ns.map PyData.int)).map (n :: ·)=_;rw[dQ ns];rfl
theorem jT:∀{ns:List Int} {xs:List V},a9 K G xs (ns.map PyData.int)->xs=ns.map V.int
 | [],_,.nil=>rfl
 |n :: ns,_,.cons r t=>by cases r;rw[jT t];rfl
def xW (d y:D):Option D:=match d,y with
 | .tuple ds,.int k=>(match dM ds with
  |some ns=>if k∈ns then some (.int (ns.idxOf k:Nat)) else none
  |none=>none)
 |_,_=>none
def p0:D->Bool
 | .tuple _=>true
 |_=>false
def iC (fa fb:VF D):VF D:=fun vs β=>(fa vs β).bnd fun x β1=>if p0 x=true then (fb vs β1).bnd fun y β2=>R.of (xW x y) β2 else .bad
theorem oj (hK:X.K=Γ.K)(ha:SE X Γ E a fa La ma)(hb:SE X Γ E b fb Lb mb)
  (hbase:attributeBase a "index" X.env (eval a X.env)=eval a X.env:=by rfl)
  (hfew:((backTo cpos (starEach [b] X.env)).all (fun x=> !x.1) && (backToKw cpos (keywordEach [] X.env)).all (fun x=>x.1.isSome)
   && decide ([b].length + ([]:List Keyword).length + (if ([]:List Keyword).isEmpty then 0 else 1) < 30))=true:=by rfl)
  (hline:(apos.endLine == cpos.line)=true:=by rfl) (hs:starEach [b] X.env=(false,eval b X.env) :: starEach [] X.env:=by rfl) :
  SE X Γ E (.Call (.Attribute a "index" apos) [b] [] cpos) (iC fa fb) (La ++ Lb) .v:=by
 refine PE.post' (zM PySem.F.slot_tuple_index PySem.F.type_tuple_index rK ha (ag hb ay hs) hbase hfew hline hs rfl) fun σ H Q ⟨env,G,B,β,I,o⟩=>?_
 refine⟨env,G,B,β,I,o.bnd.imp fun d1 β1 h x G1 H1 I1 s1 m1 vx=>?_⟩
 have vx:=vx.brw I.boxThere
 cases d1 with
 |tuple ds=>
  rw[if_pos (show p0 (.tuple ds)=true from rfl)] at h
  obtain⟨p,xs,rfl,hq,r⟩:=vx.tuple I1.sub
  refine⟨⟨p,xs,rfl,by rw[hK];exact hq⟩,?_⟩
  refine⟨aC La env,G1,B,β1,I1,?_⟩
  rw[bw]
  refine h.bnd.imp fun d2 β2 h y G2 H2 I2 s2 m2 vy=>?_
  obtain⟨d,e,k⟩:=h.of
  have vy:=vy.brw I1.boxThere
  cases d2 with
  |int kk=>
   obtain rfl:=vy.int
   simp only[xW] at e
   cases q:dM ds with
   |none=>rw[q] at e;cases e
   |some ns=>
    rw[q] at e
    dsimp only at e
    split at e
    ·rename_i hk
     cases e
     have eds:=jH q
     subst eds
     have exs:=jT r
     subst exs
     have hq2:dq X.K H2 p (ns.map V.int):=by
      rw[hK]
      rcases hq with hq |hq
      ·rcases vx with vx | ⟨_,_,_,vx⟩
       ·cases vx with
        |tup g1 r9=>have z9:=jT r9;subst z9;exact (g1.grow (s2.trans I2.sub).grow)
       ·exact vx.elim
      ·exact .inr hq
     exact⟨p,ns,kk,rfl,rfl,hq2,hk,k _ G2 H2 (by rw[aN];exact I2) (s1.trans s2) (m1.trans m2) (.int _)⟩
    ·cases e
  |_=>simp only[xW] at e;cases e
 |_=>exact h.elim
abbrev Fx.at (Γ:Fx)(H0:Hp):Fx:=⟨Γ.K,H0,Γ.G0,Γ.par,Γ.ca,Γ.br,Γ.bx⟩
end
end L2

end

section
namespace L2
open PySem PySem.Spec PyProof.Rows
section
variable {K:PySem.W.Frag}{X:Cx}{G H:Hp}
def zl (neg:Bool):D->D->Option D
 | .str x,.str y=>some (.bool (if neg then !decide (x=y) else decide (x=y)))
 |_,_=>none
theorem tX (x y:Str):decide (V.str x=V.str y)=decide (x=y):=by
 rw[Bool.eq_iff_iff];simp
theorem AQ:i3 K Dk (zl true) .v:=by
 intro B G H x y dx dy d Q s hB bx by' e k
 cases dx <;> cases dy <;> first | (cases e;done) |skip
 cases e
 obtain rfl:=bx.str
 obtain rfl:=by'.str
 refine⟨rfl,?_⟩
 rw[tX]
 exact k _ G H (Ext.refl s) (.bl _)
end
end L2

end

section
namespace L2
open PySem PySem.Spec PyProof.Rows
def Bb (W:Addr->Str->Prop):Sp:=fun vs H Q _=>∃(ea D:Addr) (x:Str),vs= [.ref ea]/\H ea=some (.ext (dW ea (.ref D)))/\W D x/\∀H',ah H H'->Q (.str x) H'
def gz:En->Bool
 | []=>true
 | .no :: env=>gz env
 | .fz _ :: env=>gz env
 |_=>false
theorem fT:∀{env:En} {i:Nat} {s:Sl},gz env=true->env[i]? =some s->s=.no\/∃d,s=.fz d
 | [],_,_,_,e=>by simp at e
 | .no :: env,0,_,_,e=>by simp at e;exact .inl e.symm
 | .fz d :: env,0,_,_,e=>by simp at e;exact .inr ⟨d,e.symm⟩
 | .no :: env,i + 1,s,h,e=>fT (env:=env) h (by simpa using e)
 | .fz d :: env,i + 1,s,h,e=>fT (env:=env) h (by simpa using e)
 | .ow _ :: _,_,_,h,_=>by cases h
 | .br _ :: _,_,_,h,_=>by cases h
 | .bx :: _,_,_,h,_=>by cases h
def pA (marks:Str->Option Str)(m:SF):SF:=fun env β=>if gz env=true then (match m env 0 with
 | .rt d fr _=>.rt d fr β
 | .exc c=>(match marks c with
  |some x=>.rt (.str x) false β
  |none=>.bad)
 |_=>.bad) else .bad
section
variable {X:Cx}{Γ:Fx}{E:XK}{m:SF}
theorem SR.drop {B:Option Addr}{G H:Hp}{σ:St}{env:En}{β:Int}(I:SR Γ B G H σ env β)(hf:gz env=true):SR (Fx.fn Γ.K H G Γ.ca) none G H σ env 0:=by
 refine⟨I.sub,ah.refl _,fun b _ h=>h,fun b o h _=>h,fun b h=>(by cases h),fun b h=>(by cases h),fun b h=>(by cases h),I.len,fun i s e=>?_,fun i j a d e h=>?_⟩
 ·rcases fT hf e with rfl | ⟨d,rfl⟩
  ·trivial
  ·exact I.slot i _ e
 ·rcases fT hf h with z | ⟨_,z⟩ <;> cases z
theorem SR.undrop {B B':Option Addr}{G H G' H':Hp}{σ σ':St}{env env':En}{β β':Int}(I:SR Γ B G H σ env β)(J:SR (Fx.fn Γ.K H G Γ.ca) B' G' H' σ' env' β'):SR Γ B G' H' σ (List.replicate env.length .no) β:=by
 have kp:∀b o,H b=some o->H' b=some o:=fun b o e=>J.keep b o e (by simp)
 refine⟨J.sub,I.old.trans J.old,fun b h1 h2=>J.new b (I.thereM h1) (I.new b h1 h2),fun b o h1 h2=>kp b o (I.keep b o h1 h2),fun b hb=>(I.pin b hb).same (kp b),I.fix,fun b e=>?_,by rw[List.length_replicate];exact I.len,fun i s e=>?_,fun i j a d e h=>?_⟩
 ·obtain⟨h1,h2,h3⟩:=I.box b e
  exact⟨kp b _ h1,J.new b (Mx.lst h1) h2,h3⟩
 ·rw[List.eq_of_mem_replicate (List.mem_of_getElem? e)];trivial
 ·have:=List.eq_of_mem_replicate (List.mem_of_getElem? h);cases this
theorem SR.forget {B:Option Addr}{G H H':Hp}{σ:St}{env:En}{β:Int}(I:SR Γ B G H σ env β)(hh:ah H H'):SR Γ B G H' σ env β:=I.ext ⟨hh,ah.refl _,I.sub.trans hh,fun _ _=>rfl⟩
theorem ze {n x y:Str}{i k:Nat}{Dc gm:Addr}{dm:FuncData}{W:Addr->Str->Prop}{marks:Str->Option Str}{np hpos pos cp fp ap rp:Pos}{body:List Stmt}(hb:∀Eb Ex pn H G,Passes (ir X.prog X.w) (X.inTry Ex pn) Eb->sU (X.inTry Ex pn) (Fx.fn Γ.K H G Γ.ca) Eb body m)
  (hM:lb X.prog X.w X.K X.mg X.base uN k gm dm ["e"] (Bb W)) (hr:∀e,hG k (X.inEx e).A) (hmg:X.mg y=some (.ref gm)) (hkp:PySem.W.keepIn X.K (.ref gm)=true) (hbi:Binds X.K dm ["e"] [])
  (hw:∀c z,marks c=some z->Mt X.K (.ref (Γ.ca c)) Dc/\W (Γ.ca c) z)
  (hm:X.mg x=some (.ref Dc)) (hN:X.N.Nodup) (hgy:∀e,Gl (X.inEx e) y:=by intro _;rfl) (hst:X.stack=X.env :: X.outer:=by rfl) (hfr:X.env.frame=some X.env.locals:=by rfl) (hex:X.ex= []:=by rfl) (hg:Gl X x:=by rfl) (hi:X.N[i]? =some n:=by rfl) (hk:X.env.scope.names.lookup n=some .local:=by rfl)
  (hd:(n == ("__debug__":Str))=false:=by decide) (hcd:(n == ("__classdict__":Str))=false:=by decide)
  (hdb:(x == ("__debug__":Str))=false:=by decide) (hdy:(y == ("__debug__":Str))=false:=by decide)
  (he:∀e,starEach [.Name n ap] (X.inEx e).env=(false,eval (.Name n ap) (X.inEx e).env) :: starEach [] (X.inEx e).env:=by intro _;rfl) :
  SS X Γ E (.Try body [.ExceptHandler (some (.Name x np)) (some n) [.Return (some (.Call (.Name y fp) [.Name n ap] [] cp)) rp] hpos] [] [] pos) (pA marks m):=by
 have hbU:∀Eb Ex pn,Passes (ir X.prog X.w) (X.inTry Ex pn) Eb->i5 (X.inTry Ex pn) body (fun D σ H=>∃H0 G0,sT (Fx.fn Γ.K H0 G0 Γ.ca) Eb m D σ H):=fun Eb Ex pn hp pins s σ H D I ⟨H0,G0,q⟩=>hb Eb Ex pn H0 G0 hp pins s σ H D I q
 have hsU:∀e,i5 (X.inEx e) [.Return (some (.Call (.Name y fp) [.Name n ap] [] cp)) rp] _:=fun e=>fX (fA (vM hM (hr e) (hgy e) hmg hkp hbi .nil Bj (ag (cH (i:=i) hi (Or.inl hk) hd hcd) ay (he e)) hdy (he e) rfl))
 refine PS.post (zW (i:=i) hst hfr hex hbU hsU hg hm hN hi hk hdb) fun N σ H ⟨env,G,B,β,I,o⟩=>?_
 unfold pA at o
 by_cases hf:gz env=true
 case neg=>rw[if_neg hf] at o;exact o.elim
 rw[if_pos hf] at o
 refine⟨fun cls _ H'=>∃c z,cls=.ref (Γ.ca c)/\marks c=some z/\ah H H'/\m env 0=.exc c,⟨H,G,env,G,none,0,I.drop hf,?_⟩,?_⟩
 ·cases q:m env 0 with
  |nx e b=>rw[q] at o;exact o.elim
  |bk e b=>rw[q] at o;exact o.elim
  |ct e b=>rw[q] at o;exact o.elim
  |bad=>rw[q] at o;exact o.elim
  |rt d fr b=>
   rw[q] at o
   intro B' G' H' σ' env' v J s rv
   refine o B G' H' σ _ v (I.undrop J) s ?_
   unfold RV at rv ⊢
   cases fr with
   |false=>exact rv
   |true=>
    rw[if_pos rfl] at rv ⊢
    obtain⟨a,rfl,h1,h2,h3⟩:=rv
    exact⟨a,rfl,(I.fresh h1).1,h2,h3⟩
  |exc c=>
   rw[q] at o
   intro H' kp
   cases q2:marks c with
   |none=>dsimp only at o;rw[q2] at o;exact o.elim
   |some z=>exact⟨c,z,rfl,q2,fun b u e=>kp b u e (by simp),rfl⟩
 ·rintro cls d H' ⟨c,z,rfl,q2,s',q⟩
  rw[q] at o
  dsimp only at o
  rw[q2] at o
  obtain⟨w1,w2⟩:=hw c z q2
  refine⟨w1,fun ea σ' hea hlen=>?_⟩
  have hil:i < σ'.length:=by rw[hlen];exact (List.getElem?_eq_some_iff.mp hi).1
  refine⟨.ref ea,List.getElem?_set_self hil,ea,_,z,rfl,ai,w2,fun H2 s2=>?_⟩
  exact o B G H2 σ _ (.str z) (I.forget ((s'.trans (ah.new hea)).trans s2)) (ah.refl _) (Rp.str z)
end
end L2

end

section
namespace L2
open PySem PySem.Spec PyProof.Rows
structure xi (P:Program)(w:World)(K:PySem.W.Frag)(mg:Str->Option Value)(base:Heap)(ca:Str->Addr)(x y:Str)(marks:Str->Option Str):Prop where
 ex:∃(gm Dc:Addr) (dm:FuncData) (W:Addr->Str->Prop),lb P w K mg base uN 1 gm dm ["e"] (Bb W)/\mg y=some (.ref gm)/\PySem.W.keepIn K (.ref gm)=true/\Binds K dm ["e"] []/\mg x=some (.ref Dc)/\∀c z,marks c=some z->Mt K (.ref (ca c)) Dc/\W (ca c) z
section
variable {X:Cx}{Γ:Fx}{E:XK}{m:SF}
theorem xo {n x y:Str}{i k:Nat}{marks:Str->Option Str}{np hpos pos cp fp ap rp:Pos}{body:List Stmt}(M:xi X.prog X.w X.K X.mg X.base Γ.ca x y marks)(hr:bS (k + 1) X.A)(hb:∀Eb Ex pn H G,Passes (ir X.prog X.w) (X.inTry Ex pn) Eb->sU (X.inTry Ex pn) (Fx.fn Γ.K H G Γ.ca) Eb body m)
  (hN:X.N.Nodup) (hgy:∀e,Gl (X.inEx e) y:=by intro _;rfl) (hst:X.stack=X.env :: X.outer:=by rfl) (hfr:X.env.frame=some X.env.locals:=by rfl) (hex:X.ex= []:=by rfl) (hg:Gl X x:=by rfl) (hi:X.N[i]? =some n:=by rfl) (hk:X.env.scope.names.lookup n=some .local:=by rfl)
  (hd:(n == ("__debug__":Str))=false:=by decide) (hcd:(n == ("__classdict__":Str))=false:=by decide)
  (hdb:(x == ("__debug__":Str))=false:=by decide) (hdy:(y == ("__debug__":Str))=false:=by decide)
  (he:∀e,starEach [.Name n ap] (X.inEx e).env=(false,eval (.Name n ap) (X.inEx e).env) :: starEach [] (X.inEx e).env:=by intro _;rfl) :
  SS X Γ E (.Try body [.ExceptHandler (some (.Name x np)) (some n) [.Return (some (.Call (.Name y fp) [.Name n ap] [] cp)) rp] hpos] [] [] pos) (pA marks m):=by
 obtain⟨gm,Dc,dm,W,h1,h2,h3,h4,h5,h6⟩:=M.ex
 exact ze (i:=i) hb h1 (fun e=>((hr.mono (by omega)).mark _)) h2 h3 h4 h6 h5 hN hgy hst hfr hex hg hi hk hd hcd hdb hdy he
end
end L2

end

section
namespace L2
open PySem
section
variable {α γ:Type}
@[simp] theorem mG (a:α)(β:Int)(k:α->Int->R γ):(R.ok a β).bnd k=k a β:=rfl
@[simp] theorem B6 (c:Str)(k:α->Int->R γ):(R.exc c:R α).bnd k=.exc c:=rfl
@[simp] theorem BR (k:α->Int->R γ):(R.bad:R α).bnd k=.bad:=rfl
@[simp] theorem CS (a:α)(β:Int)(k:α->Int->R γ):(R.ok a β).okb k=k a β:=rfl
@[simp] theorem mE (a:α)(β:Int):R.of (some a) β=.ok a β:=rfl
@[simp] theorem of_none (β:Int):(R.of none β:R α)=.bad:=rfl
@[simp] theorem Cq (a:α)(β:Int)(k:α->Int->SO):toS (.ok a β) k=k a β:=rfl
@[simp] theorem BV (c:Str)(k:α->Int->SO):toS (.exc c:R α) k=.exc c:=rfl
@[simp] theorem BW (k:α->Int->SO):toS (.bad:R α) k=.bad:=rfl
end
section
variable (f fa fb fc:VF D)(t u:VF Bool)(m m':SF)(vs:List Nv)(β:Int)(env:En)(i j:Nat)(L:List Nat)
@[simp] theorem yu:gv i vs β=R.of (dat vs[i]?) β:=rfl
@[simp] theorem pE (d:D):dat (some (.da d))=some d:=rfl
@[simp] theorem Cw (d:D):cst d vs β=.ok d β:=rfl
@[simp] theorem Du (g:D->Option D):f1 fa g vs β=(fa vs β).bnd fun x β1=>R.of (g x) β1:=rfl
@[simp] theorem Dj (g:D->D->Option D):f2 fa fb g vs β=(fa vs β).bnd fun x β1=>(fb vs β1).bnd fun y β2=>R.of (g x y) β2:=rfl
@[simp] theorem p4:au vs β=.ok [] β:=rfl
@[simp] theorem cV (fr:VF (List D)):ae fa fr vs β=(fa vs β).bnd fun x β1=>(fr vs β1).bnd fun xs β2=>.ok (x :: xs) β2:=rfl
@[simp] theorem yX:vm fa vs β=(fa vs β).bnd fun x β1=>R.of (zm x) β1:=rfl
@[simp] theorem zy:yf t vs β=(t vs β).bnd fun c β1=>.ok (!c) β1:=rfl
@[simp] theorem y7:Ak t u vs β=(t vs β).bnd fun c β1=>if c=true then u vs β1 else .ok false β1:=rfl
@[simp] theorem qi:nh t u vs β=(t vs β).bnd fun c β1=>if c=true then .ok true β1 else u vs β1:=rfl
@[simp] theorem Ds (n:Bool):tN fa n vs β=(fa vs β).bnd fun x β1=>.ok (if n then !wB x else wB x) β1:=rfl
@[simp] theorem Cn:DA t fa fb vs β=(t vs β).bnd fun c β1=>if c=true then fa vs β1 else fb vs β1:=rfl
@[simp] theorem dF (c:Bool){β1:Int}(h:fa vs β=.ok (.bool c) β1):fw fa vs β=.ok c β1:=by unfold fw;rw[h];rfl
@[simp] theorem oA:vl []= []:=rfl
@[simp] theorem lB (s:Sl):vl (s :: env)=s.val :: vl env:=rfl
@[simp] theorem pV (d:D):(Sl.fz d).val=.da d:=rfl
@[simp] theorem CF (d:D):(Sl.ow d).val=.da d:=rfl
@[simp] theorem CG:Sl.no.val=.no:=rfl
@[simp] theorem Cd:Sl.bx.val=.bx:=rfl
@[simp] theorem BS:aC [] env=env:=rfl
@[simp] theorem AH:aC (i :: L) env=aC L (dU env i):=rfl
@[simp] theorem BU:aG m m' env β=(match m env β with
 | .nx env' β'=>m' env' β'
 |r=>r):=rfl
@[simp] theorem De:j8 L t m m' env β=toS (t (vl env) β) fun c β'=>if c=true then m (aC L env) β' else m' (aC L env) β':=rfl
@[simp] theorem eQ:cn f env β=toS (f (vl env) β) fun d β'=>.rt d false β':=rfl
@[simp] theorem tu:nQ f env β=toS (f (vl env) β) fun d β'=>.rt d true β':=rfl
@[simp] theorem CA:mH env β=.nx env β:=rfl
@[simp] theorem qm:df i L f env β=toS (f (vl env) β) fun d β'=>.nx ((aC L env).set i (.fz d)) β':=rfl
@[simp] theorem ni:gr i L f env β=toS (f (vl env) β) fun d β'=>.nx ((aC L env).set i (.ow d)) β':=rfl
@[simp] theorem Bu:BC L f env β=toS (f (vl env) β) fun _ β'=>.nx (aC L env) β':=rfl
end
theorem aO {m m':SF}{env env':En}{β β':Int}(h:m env β=.nx env' β'):aG m m' env β=m' env' β':=by unfold aG;rw[h]
theorem jh {m m':SF}{env:En}{β β':Int}{d:D}{b:Bool}(h:m env β=.rt d b β'):aG m m' env β=.rt d b β':=by unfold aG;rw[h]
theorem ly {L:List Nat}{t:VF Bool}{m m':SF}{env:En}{β β':Int}(h:t (vl env) β=.ok true β'):j8 L t m m' env β=m (aC L env) β':=by unfold j8;rw[h];rfl
theorem mW {L:List Nat}{t:VF Bool}{m m':SF}{env:En}{β β':Int}(h:t (vl env) β=.ok false β'):j8 L t m m' env β=m' (aC L env) β':=by unfold j8;rw[h];rfl
theorem aK {F:List D->FR}{fr:VF (List D)}{vs:List Nv}{β β1:Int}{ds:List D}{d:D}{b:Bool}(h:fr vs β=.ok ds β1)(e:F ds=.ok d b):aJ F fr vs β=.ok d β1:=by unfold aJ;rw[h];dsimp only[R.bnd];rw[e]
theorem kU {F:List D->FR}{fr:VF (List D)}{vs:List Nv}{β β1:Int}{ds:List D}{c:Str}(h:fr vs β=.ok ds β1)(e:F ds=.exc c):aJ F fr vs β=.exc c:=by unfold aJ;rw[h];dsimp only[R.bnd];rw[e]
theorem tT {F:List D->FR}{fr:VF (List D)}{vs:List Nv}{β β1:Int}{ds:List D}{d:D}(h:fr vs β=.ok ds β1)(e:F ds=.ok d true):mV F fr vs β=.ok d β1:=by unfold mV;rw[h];dsimp only[R.bnd];rw[e]
theorem bC {fa:VF D}{g:D->Option D}{vs:List Nv}{β β1:Int}{x d:D}(h:fa vs β=.ok x β1)(e:g x=some d):f1 fa g vs β=.ok d β1:=by unfold f1;rw[h];dsimp only[R.bnd];rw[e];rfl
theorem az {fa fb:VF D}{g:D->D->Option D}{vs:List Nv}{β β1 β2:Int}{x y d:D}(h:fa vs β=.ok x β1)(h':fb vs β1=.ok y β2)(e:g x y=some d):f2 fa fb g vs β=.ok d β2:=by unfold f2;rw[h];dsimp only[R.bnd];rw[h'];dsimp only[R.bnd];rw[e];rfl
theorem dA {i:Nat}{F:List D->Int->FB}{fr:VF (List D)}{vs:List Nv}{β β1 β2:Int}{ds:List D}{d:D}{b:Bool}(hi:mQ vs i=true)(h:fr vs β=.ok ds β1)(e:F ds β1=.ok d b β2):kA i F fr vs β=.ok d β2:=by unfold kA;rw[if_pos hi,h];dsimp only[R.bnd];rw[e]
theorem sz (n:Nat)(h:n<=1000):n<=sizeLine:=by rw[sizeLine_eq];omega
theorem Bk (n:Nat)(h:n<=1000):n < sizeLine:=by rw[sizeLine_eq];omega
theorem qG {fr:VF (List D)}{vs:List Nv}{β β1:Int}{ds:List D}(h:fr vs β=.ok ds β1)(hz:ds.length<=1000):dB fr vs β=.ok (.tuple ds) β1:=by unfold dB;rw[h];exact if_pos (sz _ hz)
theorem cL {fr:VF (List D)}{vs:List Nv}{β β1:Int}{ds:List D}(h:fr vs β=.ok ds β1)(hz:ds.length<=1000):bG fr vs β=.ok (.list ds) β1:=by unfold bG;rw[h];exact if_pos (sz _ hz)
theorem lO {i:Nat}{env:En}{β:Int}{g:List D->Option (List D)}{ds es:List D}(h:env[i]? =some (.ow (.list ds)))(e:g ds=some es):yj i env β g=.nx (env.set i (.ow (.list es))) β:=by unfold yj;rw[h];dsimp only;rw[e]
theorem rf {i:Nat}{L:List Nat}{f:VF D}{env:En}{β β':Int}{ds:List D}{d:D}(hi:env[i]? =some (.ow (.list ds)))(hf:f (vl env) β=.ok d β')(hL:(aC L env)[i]? =some (.ow (.list ds)))(hz:ds.length<=1000):lJ i L f env β=.nx ((aC L env).set i (.ow (.list (ds ++ [d])))) β':=by
 unfold lJ
 rw[if_pos (by rw[hi];rfl),hf]
 exact lO hL (if_pos (Bk _ hz))
theorem o8 {i j:Nat}{L:List Nat}{f:VF D}{env:En}{β β':Int}{ds es es':List D}{k d:D}(hi:env[i]? =some (.ow (.list ds)))(hj:env[j]? =some (.ow (.list es)))(hij:i≠j)(hf:f (vl env) β=.ok k β')(hL:aC L env=env)(hp:iA es k=some (d,es'))(hz:ds.length<=1000):eM i j L f env β=.nx ((env.set j (.ow (.list es'))).set i (.ow (.list (ds ++ [d])))) β':=by
 unfold eM
 rw[if_pos ⟨by rw[hi];rfl,by rw[hj];rfl,hij⟩,hf,hL]
 dsimp only[toS]
 rw[hj]
 dsimp only
 rw[hp]
 exact lO (by rw[List.getElem?_set_ne (Ne.symm hij)];exact hi) (if_pos (Bk _ hz))
theorem tD {i:Nat}{Le Li:List Nat}{fe fi:VF D}{env:En}{β β1 β2:Int}{ds:List D}{d:D}{k:Int}{n:Nat}(he:fe (vl env) β=.ok d β1)(h1:(aC Le env)[i]? =some (.ow (.list ds)))(hi:fi (vl env) β1=.ok (.int k) β2)(h2:(aC (Le ++ Li) env)[i]? =some (.ow (.list ds)))(hk:qj ds.length k=some n):oq i Le Li fe fi env β=.nx ((aC (Le ++ Li) env).set i (.ow (.list (ds.set n d)))) β2:=by
 unfold oq
 rw[he]
 dsimp only[toS]
 rw[if_pos (by rw[h1];rfl),hi]
 exact lO h2 (by dsimp only;rw[hk];rfl)
theorem j4 {t:Tg}{ft:VF Bool}{fe:VF D}{vs:List Nv}(g:D->Bool)(h:D->D):∀{ds:List D} {β:Int},(∀d,d∈ds->∃vs1,iY t d vs=some vs1/\ft vs1 β=.ok (g d) β/\(g d=true->fe vs1 β=.ok (h d) β))->de t ft fe vs ds β=.ok ((ds.filter g).map h) β
 | [],β,_=>rfl
 |d :: ds,β,hh=>by
  obtain⟨vs1,e1,e2,e3⟩:=hh d (List.mem_cons_self ..)
  have ih:=j4 (t:=t) (ft:=ft) (fe:=fe) (vs:=vs) g h (ds:=ds) (β:=β) fun d' hd=>hh d' (List.mem_cons_of_mem _ hd)
  unfold de
  rw[e1]
  dsimp only
  rw[e2]
  dsimp only[R.okb]
  cases q:g d with
  |true=>
   rw[if_pos rfl,e3 q]
   dsimp only
   rw[ih,List.filter_cons_of_pos q];rfl
  |false=>
   rw[if_neg Bool.false_ne_true,ih,List.filter_cons_of_neg (by rw[q];exact Bool.false_ne_true)]
theorem o3 {own:Nat}{ixs:List Nat}{t:Tg}{fi:VF (List D)}{ft:VF Bool}{fe:VF D}{vs:List Nv}{β β1:Int}{ds:List D}(g:D->Bool)(h:D->D)(hi:fi vs β=.ok ds β1)(hz:ds.length<=1000)
  (hh:∀d,d∈ds->∃vs1,iY t d (cK own ixs vs)=some vs1/\ft vs1 β1=.ok (g d) β1/\(g d=true->fe vs1 β1=.ok (h d) β1)):ba own ixs t fi ft fe vs β=.ok (.list ((ds.filter g).map h)) β1:=by
 unfold ba
 rw[hi]
 dsimp only[R.bnd]
 rw[if_pos (sz _ hz),j4 g h hh];rfl
theorem kG {own:Nat}{ixs:List Nat}{t:Tg}{fi:VF (List D)}{fe:VF D}{vs:List Nv}{β β1:Int}{ds:List D}(h:D->D)(hi:fi vs β=.ok ds β1)(hz:ds.length<=1000)
  (hh:∀d,d∈ds->∃vs1,iY t d (cK own ixs vs)=some vs1/\fe vs1 β1=.ok (h d) β1):ba own ixs t fi qh fe vs β=.ok (.list (ds.map h)) β1:=by
 rw[o3 (ft:=qh) (fun _=>true) h hi hz fun d hd=>let ⟨vs1,e1,e2⟩:=hh d hd;⟨vs1,e1,rfl,fun _=>e2⟩]
 rw[List.filter_eq_self.mpr (fun _ _=>rfl)]
theorem eN {α:Type}{own:Nat}{ixs:List Nat}{t:Tg}{fi:VF (List D)}{fe:VF D}{vs:List Nv}{β β1:Int}{l:List α}{e:α->D}(h:α->D)(hi:fi vs β=.ok (l.map e) β1)(hz:l.length<=1000)
  (hh:∀x,x∈l->∃vs1,iY t (e x) (cK own ixs vs)=some vs1/\fe vs1 β1=.ok (h x) β1):ba own ixs t fi qh fe vs β=.ok (.list (l.map h)) β1:=by
 unfold ba
 rw[hi]
 dsimp only[R.bnd]
 rw[if_pos (sz _ (by rw[List.length_map];exact hz))]
 have key:∀m:List α,(∀x,x∈m->x∈l)->de t qh fe (cK own ixs vs) (m.map e) β1=.ok (m.map h) β1:=by
  intro m
  induction m with
  |nil=>intro _;rfl
  |cons x m ih=>
   intro hm
   obtain⟨vs1,e1,e2⟩:=hh x (hm x (List.mem_cons_self ..))
   rw[List.map_cons]
   unfold de
   rw[e1]
   dsimp only
   show (R.ok true β1).okb _=_
   dsimp only[R.okb]
   rw[if_pos rfl,e2]
   dsimp only
   rw[ih fun y hy=>hm y (List.mem_cons_of_mem _ hy)];rfl
 rw[key l fun _ h=>h];rfl
theorem jG {α:Type}{own:Nat}{ixs:List Nat}{t:Tg}{fi:VF (List D)}{ft:VF Bool}{fe:VF D}{vs:List Nv}{β β1:Int}{l:List α}{e:α->D}(g:α->Bool)(h:α->D)(hi:fi vs β=.ok (l.map e) β1)(hz:l.length<=1000)
  (hh:∀x,x∈l->∃vs1,iY t (e x) (cK own ixs vs)=some vs1/\ft vs1 β1=.ok (g x) β1/\(g x=true->fe vs1 β1=.ok (h x) β1)):ba own ixs t fi ft fe vs β=.ok (.list ((l.filter g).map h)) β1:=by
 unfold ba
 rw[hi]
 dsimp only[R.bnd]
 rw[if_pos (sz _ (by rw[List.length_map];exact hz))]
 have key:∀m:List α,(∀x,x∈m->x∈l)->de t ft fe (cK own ixs vs) (m.map e) β1=.ok ((m.filter g).map h) β1:=by
  intro m
  induction m with
  |nil=>intro _;rfl
  |cons x m ih=>
   intro hm
   obtain⟨vs1,e1,e2,e3⟩:=hh x (hm x (List.mem_cons_self ..))
   have ih:=ih fun y hy=>hm y (List.mem_cons_of_mem _ hy)
   rw[List.map_cons]
   unfold de
   rw[e1]
   dsimp only
   rw[e2]
   dsimp only[R.okb]
   cases q:g x with
   |true=>
    rw[if_pos rfl,e3 q]
    dsimp only
    rw[ih,List.filter_cons_of_pos q];rfl
   |false=>
    rw[if_neg Bool.false_ne_true,ih,List.filter_cons_of_neg (by rw[q];exact Bool.false_ne_true)]
 rw[key l fun _ h=>h];rfl
theorem dR {t:Tg}{m:SF}(Pv:Nat->En->Int->Prop):∀{ds:List D} {k:Nat} {env:En} {β:Int},Pv k env β->
  (∀i d env β,ds[i]? =some d->Pv (k + i) env β->∃env1,cY t d env=some env1/\∃env2 β2,m env1 β=.nx env2 β2/\Pv (k + i + 1) env2 β2)->∃env' β',lG t m ds env β=.nx env' β'/\Pv (k + ds.length) env' β'
 | [],k,env,β,h0,_=>⟨env,β,rfl,h0⟩
 |d :: ds,k,env,β,h0,hs=>by
  obtain⟨env1,e1,env2,β2,e2,h1⟩:=hs 0 d env β rfl h0
  obtain⟨env',β',e3,h2⟩:=dR Pv (t:=t) (m:=m) (ds:=ds) (k:=k + 1) h1 fun i d' en be hi hp=>by
   have:=hs (i + 1) d' en be (by simpa using hi) (by rw[show k + (i + 1)=k + 1 + i by omega];exact hp)
   rw[show k + (i + 1) + 1=k + 1 + i + 1 by omega] at this
   exact this
  refine⟨env',β',?_,by rw[List.length_cons,show k + (ds.length + 1)=k + 1 + ds.length by omega];exact h2⟩
  unfold lG
  rw[e1]
  dsimp only
  rw[e2]
  exact e3
theorem jv {L:List Nat}{t:VF Bool}{m:SF}(Pv:Nat->En->Int->Prop)(Dn:En->Int->Prop):∀{n k:Nat} {env:En} {β:Int},k < n->Pv k env β->
  (∀k env β,Pv k env β->∃c β1,t (vl env) β=.ok c β1/\((c=false/\Dn (aC L env) β1)\/(c=true/\∃env2 β2 k',m (aC L env) β1=.nx env2 β2/\k' < k/\Pv k' env2 β2)))->∃env' β',fH L t m n env β=.nx env' β'/\Dn env' β'
 | 0,k,env,β,hk,_,_=>by omega
 |n + 1,k,env,β,hk,h0,hs=>by
  obtain⟨c,β1,e1,hc⟩:=hs k env β h0
  unfold fH
  rw[e1]
  dsimp only[toS]
  rcases hc with⟨rfl,hd⟩ | ⟨rfl,env2,β2,k',e2,hl,h1⟩
  ·exact⟨_,_,rfl,hd⟩
  ·rw[if_pos rfl,e2]
   exact jv Pv Dn (n:=n) (k:=k') (by omega) h1 hs
end L2

end

section
namespace RM
open PySem L2
def jo:SF:=(cn (gH (f1 (gv 0) (fk "int")) (f1 (f1 (gv 0) (fk "bool")) Ab)))
def jI (aP:List D->FR):SF:=(cn (gH (aJ aP (ae (gv 0) au)) (eV (cst (.int 0)) (gv 0) (gv 1) u6 vW)))
def kR (aP:List D->FR):SF:=(cn (gH (aJ aP (ae (gv 0) au)) (eV (cst (.int 1)) (gv 0) (cst (.int 8)) u6 u6)))
def cO:SF:=(nQ (ba 1 [0] (.nm 0) (dO (f2 (gv 0) (gv 0) b7)) qh (dB (ae (f2 (gv 0) (gv 1) sO) (ae (f2 (gv 0) (gv 1) gG) au)))))
def cB:SF:=(aG (j8 ([] ++ []) (fw (f2 (gv 1) (f1 (gv 0) dP) vW))
 (cn (f2 (gv 0) (gv 1) mI))
 mH)
 (cn (cst (.int 0))))
def eH:SF:=(aG (df 2 [] (bG (Dp [48271,69621,16807,39373,30269,40014,40692,50021,61687,71993,83869,95561,30307]))) (aG (df 3 ((((([] ++ []) ++ []) ++ ([] ++ ([] ++ []))) ++ ([] ++ [])) ++ ([] ++ ([] ++ []))) (f2 (f2 (f2 (f2 (f2 (gv 0) (cst (.int 2147483647)) gG) (cst (.int 12345)) cJ) (f2 (gv 2) (f2 (gv 1) (cst (.int 13)) gG) mI) b7) (f2 (cst (.int 977)) (gv 1) b7) cJ) (f2 (cst (.int 7919)) (f2 (gv 1) (cst (.int 13)) sO) b7) cJ))
 (aG (df 3 ([] ++ []) (f2 (gv 3) (cst (.int 1000000007)) gG))
 (cn (f2 (f2 (f2 (f2 (gv 3) (gv 3) b7) (f2 (cst (.int 48271)) (gv 1) b7) cJ) (cst (.int 1000000007)) gG) (cst (.int 7)) sO)))))
def dY (bQ cm:List D->FR):SF:=(aG (df 2 ([0] ++ ([1] ++ [])) (aJ bQ (ae (gv 0) (ae (gv 1) au))))
 (aG (j8 (([] ++ []) ++ []) (fw (f2 (f2 (gv 2) (cst (.int 2)) gG) (cst (.int 0)) (gQ false)))
 (nQ (bG (ae (f2 (f1 (gv 2) xY) (cst (.int 2)) sO) au)))
 mH)
 (aG (df 3 [] (cst (.int 0)))
 (aG (e7 (.nm 4) [] (dO (cst (.int 40)))
 (df 3 (([] ++ []) ++ ([2] ++ ([4] ++ []))) (f2 (f2 (gv 3) (cst (.int 142857143)) b7) (aJ cm (ae (gv 2) (ae (gv 4) au))) cJ)))
 (nQ (bG (ae (gv 3) au)))))))
def bK (aw:List D->Int->FB):SF:=(aG (gr 2 [] (f1 (gv 1) nI))
 (aG (gr 3 [] (bG au))
 (aG (fH ([] ++ []) (fw (f2 (gv 2) (bG au) (gQ true)))
 (eM 3 2 ([] ++ []) (kA 0 aw (ae (f1 (gv 2) dP) au))) 1000)
 (qW 3))))
end RM

end

section
namespace RM
open PySem L2
def AD:D->Bool
 | .int _=>true
 |_=>false
def fK:List D->FR
 | [d]=>if bt d=true then .bad else .ok (.bool (AD d)) false
 |_=>.bad
theorem l7 {d:D}(h:bt d=false):fK [d]=.ok (.bool (AD d)) false:=if_neg (by rw[h];exact Bool.false_ne_true)
theorem xJ (ds:List D)(h:fK ds≠.bad):bu 1 1 jo ds=fK ds:=by
 unfold fK at h
 split at h
 ·rename_i d
  cases q:bt d with
  |true=>rw[q] at h;exact absurd rfl h
  |false=>
   rw[l7 q]
   have e1:fk "int" d=some (.bool (sX d "int")):=by unfold fk;rw[q];rfl
   have e2:fk "bool" d=some (.bool (sX d "bool")):=by unfold fk;rw[q];rfl
   show fin (cn (gH (f1 (gv 0) (fk "int")) (f1 (f1 (gv 0) (fk "bool")) Ab)) [.fz d] 0)=_
   unfold cn gH f1 gv
   simp only[lB,oA,pV,List.getElem?_cons_zero,pE,mE,mG,e1,e2]
   cases d <;> rfl
 ·exact absurd rfl h
def fq (d:D)(n:Int):Bool:=match d with
 | .int i=>decide (0<=i/\i < n)
 |_=>false
def gS:List D->FR
 | [d,.int n]=>if bt d=true then .bad else .ok (.bool (fq d n)) false
 |_=>.bad
theorem ra {d:D}{n:Int}(h:bt d=false):gS [d,.int n]=.ok (.bool (fq d n)) false:=if_neg (by rw[h];exact Bool.false_ne_true)
theorem nP {i lo n:Int}{vs:List Nv}{β:Int}{fa fb fc:VF D}{g':D->D->Option D}{q:Bool}(ha:fa vs β=.ok (.int lo) β)(hb:fb vs β=.ok (.int i) β)(hc:fc vs β=.ok (.int n) β)(hq:g' (.int i) (.int n)=some (.bool q)):eV fa fb fc u6 g' vs β=.ok (.bool (decide (lo<=i) && q)) β:=by
 unfold eV
 rw[ha];dsimp only[R.bnd];rw[hb];dsimp only[R.bnd]
 show (match (some (PyData.bool (decide (lo<=i))):Option D) with
  |some (.bool true)=>_
  |some (.bool false)=>_
  |_=>_)=_
 by_cases h:lo<=i
 ·rw[decide_eq_true h]
  dsimp only
  rw[hc]
  dsimp only[R.bnd]
  rw[hq];rfl
 ·rw[decide_eq_false h];rfl
theorem v7 (ds:List D)(h:gS ds≠.bad):bu 2 2 (jI fK) ds=gS ds:=by
 unfold gS at h
 split at h
 ·rename_i d n
  cases q:bt d with
  |true=>rw[q] at h;exact absurd rfl h
  |false=>
   rw[ra q]
   show fin (cn (gH (aJ fK (ae (gv 0) au)) (eV (cst (.int 0)) (gv 0) (gv 1) u6 vW)) [.fz d,.fz (.int n)] 0)=_
   unfold cn gH aJ
   simp only[lB,oA,pV,cV,p4,yu,List.getElem?_cons_zero,pE,mE,mG,l7 q]
   cases d with
   |int i=>
    show fin (toS (eV (cst (.int 0)) (gv 0) (gv 1) u6 vW [.da (.int i),.da (.int n)] 0) _)=_
    rw[nP (lo:=0) (i:=i) (n:=n) rfl rfl rfl rfl]
    show FR.ok (.bool (decide (0<=i) && decide (i < n))) false=.ok (.bool (decide (0<=i/\i < n))) false
    rw[Bool.decide_and]
   |_=>rfl
 ·exact absurd rfl h
def nM (d:D):Bool:=match d with
 | .int i=>decide (1<=i/\i<=8)
 |_=>false
def fg:List D->FR
 | [d]=>if bt d=true then .bad else .ok (.bool (nM d)) false
 |_=>.bad
theorem oX {d:D}(h:bt d=false):fg [d]=.ok (.bool (nM d)) false:=if_neg (by rw[h];exact Bool.false_ne_true)
theorem Aq (ds:List D)(h:fg ds≠.bad):bu 1 1 (kR fK) ds=fg ds:=by
 unfold fg at h
 split at h
 ·rename_i d
  cases q:bt d with
  |true=>rw[q] at h;exact absurd rfl h
  |false=>
   rw[oX q]
   show fin (cn (gH (aJ fK (ae (gv 0) au)) (eV (cst (.int 1)) (gv 0) (cst (.int 8)) u6 u6)) [.fz d] 0)=_
   unfold cn gH aJ
   simp only[lB,oA,pV,cV,p4,yu,List.getElem?_cons_zero,pE,mE,mG,l7 q]
   cases d with
   |int i=>
    show fin (toS (eV (cst (.int 1)) (gv 0) (cst (.int 8)) u6 u6 [.da (.int i)] 0) _)=_
    rw[nP (lo:=1) (i:=i) (n:=8) rfl rfl rfl rfl]
    show FR.ok (.bool (decide (1<=i) && decide (i<=8))) false=.ok (.bool (decide (1<=i/\i<=8))) false
    rw[Bool.decide_and]
   |_=>rfl
 ·exact absurd rfl h
def j6 (n:Nat)(l:List Pr):D:=.tuple [.int n,.tuple (l.map e6)]
theorem iN {α:Type}(f:α->Bool):∀l:List α,fx (l.map fun x=>PyData.bool (f x))=some (l.map f)
 | []=>rfl
 |x :: l=>by
  show (fx (l.map fun x=>PyData.bool (f x))).map (f x :: ·)=_
  rw[iN f l];rfl
theorem uz {n:Nat}(h1:1<=n)(h8:n<=8):fg [.int n]=.ok (.bool true) false:=by
 rw[oX rfl]
 show FR.ok (.bool (decide (1<=(n:Int)/\(n:Int)<=8))) false=_
 rw[decide_eq_true (by omega)]
end RM

end

section
namespace RM
open PySem L2
abbrev bh (ns:List Int):D:=.dict [(.none,.list (ns.map PyData.int))]
theorem iG {i j:Int}(h: -(2 ^ 64) < i/\i < 2 ^ 64):b7 (.int i) (.int j)=some (.int (i * j)):=if_pos (by dsimp only;rw[decide_eq_true h.1,decide_eq_true h.2];rfl)
theorem zT {i j:Int}(h: -(2 ^ 64) < j/\j < 2 ^ 64):b7 (.int i) (.int j)=some (.int (i * j)):=if_pos (by dsimp only;rw[decide_eq_true h.1,decide_eq_true h.2,Bool.and_self,Bool.or_true])
theorem iy {i j:Int}(h:0 < j):gG (.int i) (.int j)=some (.int (i % j)):=if_pos (decide_eq_true h)
theorem ql {i j:Int}(h:0 < j)(h2:j < 1073741824):sO (.int i) (.int j)=some (.int (i / j)):=if_pos (by dsimp only;rw[decide_eq_true h,decide_eq_true h2];rfl)
theorem i9 {α β:Type}(f:α->β)(l:List α)(i:Int):gE (l.map f) i=(gE l i).map f:=by
 unfold gE
 rw[List.length_map]
 cases qj l.length i with
 |none=>rfl
 |some j=>simp
theorem vA {α:Type}{l:List α}{k:Nat}(h:k < l.length):gE l (k:Int)=some l[k]:=fU (List.getElem?_eq_getElem h)
theorem yL {fa fb:VF D}{vs:List Nv}{β β1 β2:Int}{i j:Int}(h:fa vs β=.ok (.int i) β1)(h':fb vs β1=.ok (.int j) β2):fw (f2 fa fb vW) vs β=.ok (decide (i < j)) β2:=dF _ _ _ _ (az h h' rfl)
theorem g9 {neg:Bool}{fa fb:VF D}{vs:List Nv}{β β1 β2:Int}{i j:Int}(h:fa vs β=.ok (.int i) β1)(h':fb vs β1=.ok (.int j) β2):fw (f2 fa fb (gQ neg)) vs β=.ok (if neg then !decide (i=j) else decide (i=j)) β2:=by
 refine dF _ _ _ _ (az h h' ?_)
 cases neg <;> rfl
theorem zZ (ns:List Int)(k:Nat):∃z,bu 2 2 cB [bh ns,.int k]=.ok (.int z) false:=by
 show ∃z,fin (cB [.fz (bh ns),.fz (.int k)] 0)=.ok (.int z) false
 unfold cB
 have e:fw (f2 (gv 1) (f1 (gv 0) dP) vW) [.da (bh ns),.da (.int k)] 0=.ok (decide ((k:Int) < (ns.map PyData.int).length)) 0:=yL rfl rfl
 by_cases h:k < ns.length
 ·refine⟨ns[k],?_⟩
  rw[decide_eq_true (by simp;exact h)] at e
  rw[jh (d:=.int ns[k]) (b:=false) (β':=0)]
  ·rfl
  ·rw[ly e]
   show toS (f2 (gv 0) (gv 1) mI [.da (bh ns),.da (.int k)] 0) _=_
   rw[az (x:=bh ns) (y:=.int k) (d:=.int ns[k]) (β1:=0) (β2:=0) rfl rfl]
   ·rfl
   ·show gE (ns.map PyData.int) (k:Int)=_
    rw[i9,vA h];rfl
 ·refine⟨0,?_⟩
  rw[decide_eq_false (by simp;omega)] at e
  rw[aO (env':=[.fz (bh ns),.fz (.int k)]) (β':=0)]
  ·rfl
  ·rw[mW e];rfl
noncomputable def rb:List D->FR:=bu 2 2 cB
noncomputable def ud:List D->FR:=bu 4 2 eH
abbrev oJ:List Int:=[48271,69621,16807,39373,30269,40014,40692,50021,61687,71993,83869,95561,30307]
theorem AX (c k:Int):∃z,ud [.int c,.int k]=.ok (.int z) false:=by
 show ∃z,fin (eH [.fz (.int c),.fz (.int k),.no,.no] 0)=.ok (.int z) false
 unfold eH
 rw[aO (env':=[.fz (.int c),.fz (.int k),.fz (.list (oJ.map PyData.int)),.no]) (β':=0) (by rfl)]
 obtain⟨j,hj⟩:∃j:Nat,k % 13=j:=⟨(k % 13).toNat,by omega⟩
 have hj13:j < oJ.length:=by show j < 13;omega
 have e1:f2 (f2 (f2 (f2 (f2 (gv 0) (cst (.int 2147483647)) gG) (cst (.int 12345)) cJ) (f2 (gv 2) (f2 (gv 1) (cst (.int 13)) gG) mI) b7) (f2 (cst (.int 977)) (gv 1) b7) cJ) (f2 (cst (.int 7919)) (f2 (gv 1) (cst (.int 13)) sO) b7) cJ [.da (.int c),.da (.int k),.da (.list (oJ.map PyData.int)),.no] 0
   =.ok (.int ((c % 2147483647 + 12345) * oJ[j] + 977 * k + 7919 * (k / 13))) 0:=by
  refine az (az (az (az (az (x:=.int c) (y:=.int 2147483647) rfl rfl (iy (by omega))) rfl rfl) (az (x:=.list (oJ.map PyData.int)) rfl (az (x:=.int k) (y:=.int 13) rfl rfl (iy (by omega))) (d:=.int oJ[j]) ?_) (iG ⟨by omega,by omega⟩)) (az (x:=.int 977) (y:=.int k) rfl rfl (iG ⟨by omega,by omega⟩)) rfl) (az (x:=.int 7919) rfl (az (x:=.int k) (y:=.int 13) rfl rfl (ql (by omega) (by omega))) (iG ⟨by omega,by omega⟩)) rfl
  show gE (oJ.map PyData.int) (k % 13)=_
  rw[hj,i9,vA hj13];rfl
 generalize ((c % 2147483647 + 12345) * oJ[j] + 977 * k + 7919 * (k / 13))=st at e1
 rw[aO (env':=[.fz (.int c),.fz (.int k),.fz (.list (oJ.map PyData.int)),.fz (.int st)]) (β':=0) ?h]
 case h=>
  show toS (f2 _ _ cJ [.da (.int c),.da (.int k),.da (.list (oJ.map PyData.int)),.no] 0) _=_
  rw[e1];rfl
 have e2:f2 (gv 3) (cst (.int 1000000007)) gG [.da (.int c),.da (.int k),.da (.list (oJ.map PyData.int)),.da (.int st)] 0=.ok (.int (st % 1000000007)) 0:=az rfl rfl (iy (by omega))
 rw[aO (env':=[.fz (.int c),.fz (.int k),.fz (.list (oJ.map PyData.int)),.fz (.int (st % 1000000007))]) (β':=0) ?h2]
 case h2=>
  show toS (f2 (gv 3) (cst (.int 1000000007)) gG [.da (.int c),.da (.int k),.da (.list (oJ.map PyData.int)),.da (.int st)] 0) _=_
  rw[e2];rfl
 have hb: -(2 ^ 64) < st % 1000000007/\st % 1000000007 < 2 ^ 64:=⟨by omega,by omega⟩
 generalize st % 1000000007=u at hb
 have e3:f2 (f2 (f2 (f2 (gv 3) (gv 3) b7) (f2 (cst (.int 48271)) (gv 1) b7) cJ) (cst (.int 1000000007)) gG) (cst (.int 7)) sO [.da (.int c),.da (.int k),.da (.list (oJ.map PyData.int)),.da (.int u)] 0=.ok (.int ((u * u + 48271 * k) % 1000000007 / 7)) 0:=
  az (az (az (az (x:=.int u) (y:=.int u) rfl rfl (iG hb)) (az (x:=.int 48271) (y:=.int k) rfl rfl (iG ⟨by omega,by omega⟩)) rfl) rfl (iy (by omega))) rfl (ql (by omega) (by omega))
 refine⟨(u * u + 48271 * k) % 1000000007 / 7,?_⟩
 show fin (toS (f2 _ (cst (.int 7)) sO [.da (.int c),.da (.int k),.da (.list (oJ.map PyData.int)),.da (.int u)] 0) _)=_
 rw[e3];rfl
noncomputable def zK:List D->FR:=bu 5 2 (dY rb ud)
theorem By (ns:List Int)(k:Nat):∃z,zK [bh ns,.int k]=.ok (.list [.int z]) true:=by
 obtain⟨c,hc⟩:=zZ ns k
 show ∃z,fin (dY rb ud [.fz (bh ns),.fz (.int k),.no,.no,.no] 0)=.ok (.list [.int z]) true
 unfold dY
 have e0:aJ rb (ae (gv 0) (ae (gv 1) au)) [.da (bh ns),.da (.int k),.no,.no,.no] 0=.ok (.int c) 0:=aK rfl hc
 rw[aO (env':=[.fz (bh ns),.fz (.int k),.fz (.int c),.no,.no]) (β':=0) ?h]
 case h=>
  show toS (aJ rb _ [.da (bh ns),.da (.int k),.no,.no,.no] 0) _=_
  rw[e0];rfl
 have e1:fw (f2 (f2 (gv 2) (cst (.int 2)) gG) (cst (.int 0)) (gQ false)) [.da (bh ns),.da (.int k),.da (.int c),.no,.no] 0=.ok (decide (c % 2=0)) 0:=g9 (neg:=false) (az rfl rfl (iy (by omega))) rfl
 by_cases h:c % 2=0
 ·rw[decide_eq_true h] at e1
  refine⟨(if c < 0 then -c else c) / 2,?_⟩
  rw[jh (d:=.list [.int ((if c < 0 then -c else c) / 2)]) (b:=true) (β':=0)]
  ·rfl
  ·rw[ly e1]
   show toS (bG (ae (f2 (f1 (gv 2) xY) (cst (.int 2)) sO) au) [.da (bh ns),.da (.int k),.da (.int c),.no,.no] 0) _=_
   rw[cL (ds:=[.int ((if c < 0 then -c else c) / 2)]) (β1:=0)]
   ·rfl
   ·have e2:f2 (f1 (gv 2) xY) (cst (.int 2)) sO [.da (bh ns),.da (.int k),.da (.int c),.no,.no] 0=.ok (.int ((if c < 0 then -c else c) / 2)) 0:=az (bC (x:=.int c) rfl rfl) rfl (ql (by omega) (by omega))
    rw[cV,e2];rfl
   ·simp
 ·rw[decide_eq_false h] at e1
  rw[aO (env':=[.fz (bh ns),.fz (.int k),.fz (.int c),.no,.no]) (β':=0) (by rw[mW e1];rfl)]
  rw[aO (env':=[.fz (bh ns),.fz (.int k),.fz (.int c),.fz (.int 0),.no]) (β':=0) (by rfl)]
  obtain⟨env',β',el,z,x,rfl,rfl⟩:=dR (t:=.nm 4) (m:=df 3 (([] ++ []) ++ ([2] ++ ([4] ++ []))) (f2 (f2 (gv 3) (cst (.int 142857143)) b7) (aJ ud (ae (gv 2) (ae (gv 4) au))) cJ)) (ds:=cG 0 40) (k:=0)
   (fun _ env β=>∃(z:Int) (x:Sl),env= [.fz (bh ns),.fz (.int k),.fz (.int c),.fz (.int z),x]/\β=0) (env:=[.fz (bh ns),.fz (.int k),.fz (.int c),.fz (.int 0),.no]) (β:=0) ⟨0,.no,rfl,rfl⟩ (by
    rintro i d env β hi ⟨z,x,rfl,rfl⟩
    obtain⟨j,rfl⟩:∃j:Int,d=.int j:=by
     unfold cG at hi
     rw[List.getElem?_map] at hi
     cases q:(List.range 40)[i]? with
     |none=>rw[q] at hi;cases hi
     |some j=>rw[q] at hi;cases hi;exact⟨_,rfl⟩
    obtain⟨y,hy⟩:=AX c j
    refine⟨_,rfl,_,_,?_,z * 142857143 + y,.fz (.int j),rfl,rfl⟩
    show toS (f2 (f2 (gv 3) (cst (.int 142857143)) b7) (aJ ud (ae (gv 2) (ae (gv 4) au))) cJ [.da (bh ns),.da (.int k),.da (.int c),.da (.int z),.da (.int j)] 0) _=_
    rw[az (d:=.int (z * 142857143 + y)) (az (x:=.int z) (y:=.int 142857143) (β1:=0) (β2:=0) rfl rfl (zT ⟨by omega,by omega⟩)) (aK (ds:=[.int c,.int j]) (β1:=0) rfl hy) rfl]
    rfl)
  refine⟨z,?_⟩
  rw[aO (env':=[.fz (bh ns),.fz (.int k),.fz (.int c),.fz (.int z),x]) (β':=0) ?h2]
  case h2=>exact el
  show fin (toS (bG (ae (gv 3) au) [.da (bh ns),.da (.int k),.da (.int c),.da (.int z),x.val] 0) _)=_
  rw[cL (ds:=[.int z]) (β1:=0) rfl (by simp)]
  rfl
noncomputable def l8:List D->Int->FB:=se 4 1 (bK eZ)
theorem lay_ints:∀ns:List Int,PyData.canLayAll0 (ns.map PyData.int)=true
 | []=>rfl
 |n :: ns=>by
  show ((PyData.int n).canLay0 && PyData.canLayAll0 (ns.map PyData.int))=true
  rw[lay_ints ns];rfl
theorem jt:∀ns:List Int,PyData.depthAll (ns.map PyData.int)=0
 | []=>rfl
 |n :: ns=>by
  show max (PyData.int n).depth (PyData.depthAll (ns.map PyData.int))=0
  rw[jt ns];rfl
theorem shaped_ints (ns:List Int):SeqAt.shaped (.list (ns.map PyData.int))=true:=by
 unfold SeqAt.shaped
 have h1:(PyData.list (ns.map PyData.int)).canLay0=true:=by simp only[PyData.canLay0];exact lay_ints ns
 have h2:(PyData.list (ns.map PyData.int)).depth<=64:=by simp only[PyData.depth];rw[jt];omega
 rw[h1,decide_eq_true h2];rfl
theorem j7:∀l m:List Int,PyData.eqvAll (l.map PyData.int) (m.map PyData.int)=decide (l=m)
 | [],[]=>rfl
 | [],_ :: _=>rfl
 |_ :: _,[]=>rfl
 |p :: l,q :: m=>by
  show ((p == q) && PyData.eqvAll (l.map PyData.int) (m.map PyData.int))=_
  rw[j7 l m,Bool.eq_iff_iff]
  simp
theorem nW (neg:Bool)(l m:List Int):gQ neg (.list (l.map PyData.int)) (.list (m.map PyData.int))=some (.bool (if neg then !decide (l=m) else decide (l=m))):=by
 unfold gQ
 rw[shaped_ints,shaped_ints]
 simp only[Bool.and_self,if_true,PyData.eqv,j7]
theorem gJ {α:Type}:∀{l:List α} {k:Nat} {x:α},l[k]? =some x->(x :: l.eraseIdx k).Perm l
 | [],_,_,h=>by simp at h
 |y :: l,0,x,h=>by simp at h;subst h;exact List.Perm.refl _
 |y :: l,k + 1,x,h=>by
  have h:l[k]? =some x:=by simpa using h
  have ih:=gJ h
  show (x :: y :: l.eraseIdx k).Perm (y :: l)
  exact (List.Perm.swap y x _).trans (ih.cons y)
theorem ix {α β:Type}(f:α->β):∀(l:List α) (k:Nat),(l.map f).eraseIdx k=(l.eraseIdx k).map f
 | [],_=>rfl
 |_ :: _,0=>rfl
 |x :: l,k + 1=>by simp[ix f l k]
theorem w8 (ns:List Int)(hz:ns.length<=100)(β:Int):∃(ms:List Int) (β':Int),l8 [.list (ns.map PyData.int)] β=.ok (.list (ms.map PyData.int)) true β'/\ms.Perm ns:=by
 show ∃(ms:List Int) (β':Int),A9 (bK eZ [.bx,.fz (.list (ns.map PyData.int)),.no,.no] β)=.ok (.list (ms.map PyData.int)) true β'/\ms.Perm ns
 unfold bK
 rw[aO (env':=[.bx,.fz (.list (ns.map PyData.int)),.ow (.list (ns.map PyData.int)),.no]) (β':=β) (by rfl)]
 have ez:bG au [Nv.bx,.da (.list (ns.map PyData.int)),.da (.list (ns.map PyData.int)),.no] β=.ok (.list []) β:=cL rfl (by simp)
 rw[aO (env':=[.bx,.fz (.list (ns.map PyData.int)),.ow (.list (ns.map PyData.int)),.ow (.list [])]) (β':=β) ?h]
 case h=>
  show toS (bG au [Nv.bx,.da (.list (ns.map PyData.int)),.da (.list (ns.map PyData.int)),.no] β) _=_
  rw[ez];rfl
 obtain⟨env',β',ew,ms,rfl,hp⟩:=jv (L:=[] ++ []) (t:=fw (f2 (gv 2) (bG au) (gQ true))) (m:=eM 3 2 ([] ++ []) (kA 0 eZ (ae (f1 (gv 2) dP) au)))
  (fun k env β=>∃ls ms:List Int,env= [.bx,.fz (.list (ns.map PyData.int)),.ow (.list (ls.map PyData.int)),.ow (.list (ms.map PyData.int))]/\(ms ++ ls).Perm ns/\k=ls.length)
  (fun env β=>∃ms:List Int,env= [.bx,.fz (.list (ns.map PyData.int)),.ow (.list []),.ow (.list (ms.map PyData.int))]/\ms.Perm ns) (n:=1000) (k:=ns.length) (env:=[.bx,.fz (.list (ns.map PyData.int)),.ow (.list (ns.map PyData.int)),.ow (.list [])]) (β:=β) (by omega) ⟨ns,[],rfl,by simp,rfl⟩ (by
   rintro k env β ⟨ls,ms,rfl,hp,rfl⟩
   have e1:bG au [Nv.bx,.da (.list (ns.map PyData.int)),.da (.list (ls.map PyData.int)),.da (.list (ms.map PyData.int))] β=.ok (.list (([]:List Int).map PyData.int)) β:=cL rfl (by simp)
   have et:fw (f2 (gv 2) (bG au) (gQ true)) [Nv.bx,.da (.list (ns.map PyData.int)),.da (.list (ls.map PyData.int)),.da (.list (ms.map PyData.int))] β=.ok (!decide (ls= [])) β:=
    dF _ _ _ _ (az (x:=.list (ls.map PyData.int)) rfl e1 (by rw[nW];rfl))
   refine⟨_,_,et,?_⟩
   have hlen:=hp.length_eq
   rw[List.length_append] at hlen
   cases ls with
   |nil=>exact .inl ⟨rfl,ms,rfl,by simpa using hp⟩
   |cons y ys=>
    refine .inr ⟨rfl,?_⟩
    have hm:(0:Int) < ((y :: ys).length:Nat)/\(((y :: ys).length:Nat):Int) < 1073741824:=by
     have:(y :: ys).length<=100:=by omega
     constructor
     ·simp
     ·omega
    obtain⟨j,hj⟩:∃j:Nat,β % (((y :: ys).length:Nat):Int)=j:=⟨(β % (((y :: ys).length:Nat):Int)).toNat,by have:=Int.emod_nonneg β (b:=(((y :: ys).length:Nat):Int)) (by omega);omega⟩
    have hj2:j < (y :: ys).length:=by have:=Int.emod_lt_of_pos β hm.1;omega
    have ef:kA 0 eZ (ae (f1 (gv 2) dP) au) [Nv.bx,.da (.list (ns.map PyData.int)),.da (.list ((y :: ys).map PyData.int)),.da (.list (ms.map PyData.int))] β=.ok (.int (j:Int)) (β / (((y :: ys).length:Nat):Int)):=by
     refine dA (ds:=[.int (((y :: ys).length:Nat):Int)]) (b:=false) (by rfl) ?_ (by rw[lY hm.1 hm.2,hj])
     show R.ok [PyData.int ((((y :: ys).map PyData.int).length:Nat):Int)] β=_
     rw[List.length_map]
    have hpop:iA ((y :: ys).map PyData.int) (.int (j:Int))=some (.int (y :: ys)[j],((y :: ys).eraseIdx j).map PyData.int):=by
     unfold iA
     dsimp only
     rw[if_pos ⟨by omega,by omega⟩]
     have es:seqIndex? (j:Int) ((y :: ys).map PyData.int).length=some j:=by
      rw[List.length_map]
      exact PySem.StrLaws.seqIndex_nonneg (by omega) (by omega)
     rw[es]
     dsimp only
     rw[List.getElem?_map,List.getElem?_eq_getElem hj2,ix];rfl
    refine⟨[.bx,.fz (.list (ns.map PyData.int)),.ow (.list (((y :: ys).eraseIdx j).map PyData.int)),.ow (.list ((ms ++ [(y :: ys)[j]]).map PyData.int))],β / (((y :: ys).length:Nat):Int),((y :: ys).eraseIdx j).length,?_,?_,(y :: ys).eraseIdx j,ms ++ [(y :: ys)[j]],rfl,?_,rfl⟩
    ·show eM 3 2 ([] ++ []) (kA 0 eZ (ae (f1 (gv 2) dP) au)) [.bx,.fz (.list (ns.map PyData.int)),.ow (.list ((y :: ys).map PyData.int)),.ow (.list (ms.map PyData.int))] β=_
     rw[o8 (ds:=ms.map PyData.int) (es:=(y :: ys).map PyData.int) (by rfl) (by rfl) (by decide) ef (by rfl) hpop (by rw[List.length_map];omega),List.map_append]
     rfl
    ·rw[List.length_eraseIdx]
     rw[if_pos hj2]
     show (y :: ys).length - 1 < (y :: ys).length
     simp
    ·rw[List.append_assoc]
     exact (List.Perm.append_left ms (gJ (List.getElem?_eq_getElem hj2))).trans hp)
 refine⟨ms,β',?_,hp⟩
 rw[aO ew]
 rfl
end RM

end

section
namespace RM
open PySem L2
theorem wA {a b:List D}(h:a.length + b.length<=10000):sI (.list a) (.list b)=some (.list (a ++ b)):=if_pos (by rw[sizeLine_eq];omega)
end RM

end

section
namespace RM
open PySem L2
def dg (n:Nat):List Int:=(List.range n).map fun (k:Nat)=>(k:Int)
theorem cz (n:Nat):(dg n).length=n:=by unfold dg;simp
theorem bB {n:Nat}{x:Int}:x∈dg n↔0<=x/\x < n:=by
 unfold dg
 rw[List.mem_map]
 constructor
 ·rintro⟨k,hk,rfl⟩
  have:=List.mem_range.mp hk
  omega
 ·intro h
  exact⟨x.toNat,List.mem_range.mpr (by omega),by omega⟩
theorem lu (n:Nat):(dg n).Nodup:=by
 unfold dg
 rw[List.nodup_iff_pairwise_ne,List.pairwise_map]
 exact (List.nodup_iff_pairwise_ne.mp List.nodup_range).imp fun {a b} h e=>h (by omega)
theorem rh (n:Nat):cG 0 n=(dg n).map PyData.int:=by
 unfold cG dg
 rw[List.map_map]
 refine List.map_congr_left fun k _=>?_
 show PyData.int (0 + (k:Int))=_
 rw[Int.zero_add];rfl
theorem g8 {lo:Int}{n i:Nat}{d:D}(h:(cG lo n)[i]? =some d):i < n/\d=.int (lo + i):=by
 unfold cG at h
 rw[List.getElem?_map] at h
 cases q:(List.range n)[i]? with
 |none=>rw[q] at h;cases h
 |some j=>
  rw[q] at h
  cases h
  obtain⟨hi,ej⟩:=List.getElem?_eq_some_iff.mp q
  rw[List.length_range] at hi
  rw[List.getElem_range] at ej
  subst ej
  exact⟨hi,rfl⟩
theorem nA {n:Nat}(h:n<=1000):cS (.int n)=some (.list ((dg n).map PyData.int)):=by
 unfold cS
 dsimp only
 rw[if_pos ⟨by omega,by omega⟩,Int.toNat_natCast,rh]
theorem fF {fa:VF D}{vs:List Nv}{β β1:Int}{n:Nat}(h:fa vs β=.ok (.int n) β1)(hn:n<=1000):dO fa vs β=.ok (cG 0 n) β1:=by
 unfold dO
 rw[h]
 simp only[mG]
 rw[if_pos (sy (by omega) (by omega)),Int.toNat_natCast]
theorem ib {t:Tg}{L:List Nat}{fi:VF (List D)}{m:SF}{env:En}{β β1:Int}{ds:List D}(h:fi (vl env) β=.ok ds β1):e7 t L fi m env β=lG t m ds (aC L env) β1:=by unfold e7;rw[h];rfl
theorem cA {m:Nat}(h:1<=m)(h2:m<=1000)(β:Int):∃j:Nat,j < m/\eZ [.int m] β=.ok (.int (j:Int)) false (β / m):=by
 refine⟨(β % m).toNat,?_,?_⟩
 ·have h0:=Int.emod_nonneg β (b:=(m:Int)) (by omega)
  have h3:=Int.emod_lt_of_pos β (b:=(m:Int)) (by omega)
  omega
 ·rw[lY (by omega) (by omega)]
  have h0:=Int.emod_nonneg β (b:=(m:Int)) (by omega)
  rw[show ((β % m).toNat:Int)=β % m by omega]
end RM

end

section
namespace RM
open PySem L2
theorem v8 (neg:Bool)(i j:Int):gQ neg (.int i) (.int j)=some (.bool (if neg then !decide (i=j) else decide (i=j))):=rfl
theorem j0 {fa fb:VF D}{vs:List Nv}{β:Int}{a b:Int}(h:fa vs β=.ok (.int a) β)(h':fb vs β=.ok (.int b) β):dB (ae fa (ae fb au)) vs β=.ok (e6 (a,b)) β:=by
 refine qG (ds:=[.int a,.int b]) ?_ (by simp)
 rw[cV,h]
 dsimp only[R.bnd]
 rw[cV,h'];rfl
def mh:List D->FR:=bu 1 1 cO
theorem wF {n:Nat}(h1:1<=n)(h8:n<=8):mh [.int n]=.ok (.list ((OM.bJ n).map e6)) true:=by
 have hm:n * n<=64:=Nat.mul_le_mul h8 h8
 have e:ba 1 [0] (.nm 0) (dO (f2 (gv 0) (gv 0) b7)) qh (dB (ae (f2 (gv 0) (gv 1) sO) (ae (f2 (gv 0) (gv 1) gG) au))) [.da (.int n)] 0=.ok (.list ((OM.bJ n).map e6)) 0:=by
  have hi:dO (f2 (gv 0) (gv 0) b7) [.da (.int n)] 0=.ok ((List.range (n * n)).map fun (k:Nat)=>PyData.int (0 + (k:Int))) 0:=by
   refine fF (n:=n * n) (az (x:=.int n) (y:=.int n) rfl rfl ?_) (by omega)
   rw[iG ⟨by omega,by omega⟩];rfl
  rw[eN (l:=List.range (n * n)) (e:=fun (k:Nat)=>PyData.int (0 + (k:Int))) (fun k=>e6 (((k / n:Nat):Int),((k % n:Nat):Int))) hi (by rw[List.length_range];omega) fun k hk=>⟨_,rfl,?_⟩]
  ·unfold OM.bJ;rw[List.map_map];rfl
  ·refine j0 (az (x:=.int (0 + (k:Int))) (y:=.int n) rfl rfl ?_) (az (x:=.int (0 + (k:Int))) (y:=.int n) rfl rfl ?_)
   ·rw[ql (by omega) (by omega),Int.zero_add];rfl
   ·rw[iy (by omega),Int.zero_add];rfl
 show fin (cO [.fz (.int n)] 0)=_
 unfold cO
 rw[tu,show vl [Sl.fz (.int n)]= [.da (.int n)] from rfl,e];rfl
theorem ia (n:Nat):(OM.bJ n).length=n * n:=by unfold OM.bJ;simp
theorem iU {fa:VF D}{vs:List Nv}{β:Int}{c:Bool}(h:fa vs β=.ok (.bool c) β):vm fa vs β=.ok c β:=by rw[yX,h];rfl
end RM

end

section
namespace RM
open PySem L2
theorem tM {c:Nat}:∀(ts:List Str) (k:Nat) (acc:Str),(∀t∈ts,t.length + 2<=c)->(textFrom k acc ts).length<=acc.length + c * ts.length
 | [],k,acc,_=>by show acc.length<=_;omega
 |t :: r,k,acc,h=>by
  have ih:=tM r (k + 1) (acc ++ (if k > 0 then ", " else "":String) ++ t) fun u hu=>h u (List.mem_cons_of_mem _ hu)
  have e:(acc ++ (if k > 0 then ", " else "":String) ++ t).length=acc.length + (if k > 0 then 2 else 0) + t.length:=by
   rw[strLen_append,strLen_append]
   split <;> rfl
  rw[e] at ih
  have ht:=h t (List.mem_cons_self ..)
  show (textFrom (k + 1) _ r).length<=_
  have e2:c * (t :: r).length=c * r.length + c:=by rw[List.length_cons,Nat.mul_succ]
  rw[e2]
  have:(if k > 0 then 2 else 0:Nat)<=2:=by split <;> omega
  omega
end RM

end

section
namespace L2
open PySem PySem.Spec PyProof.Rows
section
variable {X:Cx}{pins:List (Addr×Obj)}{σ:St}{H:Hp}{s:Shared}
theorem Inv.turnedL {t':Nat}{ch:List Addr}{h':Heap}(I:Inv X pins σ H s)(k:∀b o,b∉ch->s.heap.get? b=some o->h'.get? b=some o)(hf:∀b∈ch,i6 X pins H b):Inv X pins σ H {s with heap:=h',toks:=t'}:=by
 have nit:∀b u,H b=some u->b∉ch:=fun b u e z=>by rw[(hf b z).1] at e;cases e
 have nL:X.env.locals∉ch:=fun z=>(hf _ z).2.1 rfl
 refine I.step (g':=s.gens) (d':=s.drawn) (ch:=ch) (fun b hb=>?_) (fun b o _ _ hc e _=>k b o hc e) (fun b o _ _ hc e _=>⟨o.slots,k b o hc e⟩) (fun _ _ _ _ n=>n)
  (fun b o hc e=>⟨o,k b o hc e⟩) (fun _ _ e=>e) (fun _ _ _ e=>e) (fun b ps e=>⟨#[],by rw[e];simp⟩) (fun m hm=>?_) (fun b u e=>?_) I.bare
 ·obtain⟨f0,f1,f2,f3,f4,f5⟩:=hf b hb
  exact⟨f3,f1,f4,f5⟩
 ·obtain⟨o,es,ep,ho,r⟩:=hm
  exact⟨o,es,ep,k _ o nL ho,r⟩
 ·refine (I.hok b u e).stay (fun c v hc q=>k c v ?_ q) (fun _ q=>q) fun _ _ q=>q
  rcases hc with z |z
  ·rw[z];exact nit b u e
  ·exact nit c _ z
end
theorem CC {n:Nat}(i j:Nat)(h:(i == j)=false):(n + i:Nat)≠n + j:=by
 have:i≠j:=by simpa using h
 omega
section
variable {X:Cx}{Γ:Fx}{E:XK}{e a b c:Expr}{f fa fb:VF D}{L La Lb:List Nat}{md ma mb:Md}{pos:Pos}
def qb (i j:Nat)(La Lb:List Nat)(fa fb:VF D):SF:=fun env β=>toS (fa (vl env) β) fun d1 β1=>toS (fb (vl env) β1) fun d2 β2=>.nx (((aC (La ++ Lb) env).set i (.fz d1)).set j (.fz d2)) β2
theorem xK {i j:Nat}{x y:Str}{px py pt:Pos}{kt k2 pt2}(hN:X.N.Nodup)(hij:i≠j)(ha:SE X Γ E a fa La .v)(hb:SE X Γ E b fb Lb .v)(hc:X.calm=true:=by rfl)(hi:X.N[i]? =some x:=by rfl)(hj:X.N[j]? =some y:=by rfl)
  (hx:X.env.scope.names.lookup x=some .local:=by rfl) (hy:X.env.scope.names.lookup y=some .local:=by rfl)
  (hs1:starEach [a,b] X.env=(false,eval a X.env) :: starEach [b] X.env:=by rfl) (hs2:starEach [b] X.env=(false,eval b X.env) :: starEach [] X.env:=by rfl)
  (hw:swappedStores [.Tuple [.Name x px,.Name y py] kt pt] (.Tuple [a,b] k2 pt2) X.env=pure (some [x,y]):=by rfl)
  (hs:swapsWithSole [.Tuple [.Name x px,.Name y py] kt pt] (.Tuple [a,b] k2 pt2) pos.line X.env=pure false:=by rfl) :
  SS X Γ E (.Assign [.Tuple [.Name x px,.Name y py] kt pt] (.Tuple [a,b] k2 pt2) pos) (qb i j La Lb fa fb):=by
 refine PS.post (Ar hc hN hi hj hij hx hy (ag ha (ag hb ay hs2) hs1) hw hs) fun N σ H ⟨env,G,B,β,I,o⟩=>?_
 refine⟨env,G,B,β,I,aQ o fun d1 β1 k v G1 H1 I1 s1 m1 vo=>⟨aC La env,G1,B,β1,I1,?_⟩⟩
 rw[bw]
 refine aQ k fun d2 β2 k w G2 H2 J s2 m2 vo2=>?_
 have vo:Rp Γ.K G1 v d1:=vo
 have vo2:Rp Γ.K G2 w d2:=vo2
 refine⟨_,_,rfl,k B G2 H2 _ ?_ (s1.trans s2)⟩
 rw[aN]
 exact (J.set' i (vo.mono s2)).set' j vo2
end
end L2

end

section

end

section
namespace L2
open PySem PySem.Spec PyProof.Rows
section
variable {κ:Type}[DecidableEq κ]
def wx (kvs:List (κ×V))(k:κ):Option V:=(kvs.find? fun kv=>decide (kv.1=k)).map (·.2)
def putK (kvs:List (κ×V))(k:κ)(v:V):List (κ×V):=
 if (kvs.any fun kv=>decide (kv.1=k))=true then kvs.map (fun kv=>if kv.1=k then (kv.1,v) else kv) else kvs ++ [(k,v)]
theorem nj (kvs:List (κ×V))(k:κ)(v:V):(putK kvs k v).length<=kvs.length + 1:=by
 unfold putK
 split
 ·rw[List.length_map];omega
 ·rw[List.length_append,List.length_cons,List.length_nil];omega
theorem uA.getD {o:Option V}{u:Option Value}{d:V}{d':Value}(r:uA o u)(rd:RelV d d'):RelV (o.getD d) (u.getD d'):=by
 cases o with
 |none=>cases u with
  |none=>exact rd
  |some _=>exact (show False from r).elim
 |some _=>cases u with
  |none=>exact (show False from r).elim
  |some _=>exact r
theorem KV.any {kvs:List (κ×V)}{vs:List (κ×Value)}(r:KV kvs vs)(k:κ):(kvs.any fun kv=>decide (kv.1=k))=vs.any fun kv=>decide (kv.1=k):=by
 unfold KV at r
 induction r with
 |nil=>rfl
 |cons h t ih=>rw[List.any_cons,List.any_cons,ih,h.1]
theorem KV.repl {kvs:List (κ×V)}{vs:List (κ×Value)}(r:KV kvs vs)(k:κ){y:V}{u:Value}(ry:RelV y u) :
  KV (kvs.map fun kv=>if kv.1=k then (kv.1,y) else kv) (vs.map fun kv=>if kv.1=k then (kv.1,u) else kv):=by
 unfold KV at r ⊢
 induction r with
 |nil=>exact .nil
 | @cons p q ps qs h t ih=>
  rw[List.map_cons,List.map_cons]
  refine .cons ?_ ih
  obtain⟨h1,h2⟩:=h
  by_cases e:p.1=k
  ·rw[if_pos e,if_pos (h1.symm.trans e)];exact⟨h1,ry⟩
  ·rw[if_neg e,if_neg (fun z=>e (h1.trans z))];exact⟨h1,h2⟩
theorem KV.put {kvs:List (κ×V)}{vs:List (κ×Value)}(r:KV kvs vs)(k:κ){y:V}{u:Value}(ry:RelV y u):KV (putK kvs k y) (stored vs k u):=by
 unfold putK stored
 rw[r.any k]
 by_cases e:(vs.any fun kv=>decide (kv.1=k))=true
 ·rw[if_pos e,if_pos e];exact r.repl k ry
 ·rw[if_neg e,if_neg e];exact Paired.snoc r ⟨rfl,ry⟩
end
theorem AK {P:Program}{w:World}{k:Key}{u:Value}(r:RelV (kV k) u):(b6 P w).is k u=true:=by
 cases k with
 |inl i=>obtain⟨t,e⟩:=(show ∃t,u=Value.int i t from r);subst e;exact ny P w i t
 |inr x=>obtain⟨t,e⟩:=(show ∃t,u=Value.str x t from r);subst e;exact nU P w x t
section
variable {P:Program}{w:World}{H:Hp}{h:Heap}{a:Addr}
theorem Ba {u:HO}(ok:fm P w H h)(e:Rd H a u):aV P w H h a u:=e.ok ok
theorem Az {kvs:List (Key×V)}(ok:fm P w H h)(e:Rd H a (.dK kvs)):kvs.length<=sizeLine/\(a == sysModules)=false/\∃vs,KV kvs vs/\h.DictOf (b6 P w) a vs:=
 show aV P w H h a (.dK kvs) from Ba ok e
theorem Bs {kvs:List (Key×V)}(ok:fm P w H h)(e:H a=some (.dK kvs)):kvs.length<=sizeLine/\(a == sysModules)=false/\∃vs,KV kvs vs/\h.DictOf (b6 P w) a vs:=Az ok (.inl e)
end
def wc (H:Hp)(a:Addr)(y:V)(r:Option V):Prop:=
 (∃kvs k,Rd H a (.dK kvs)/\y=kV k/\r=wx kvs k)\/∃kvs k b,Rd H a (.dT kvs)/\y=.ref b/\H b=some (.tup (k.map kV))/\r=wx kvs k
def xV (H:Hp)(a:Addr)(y v:V)(H':Hp):Prop:=
 (∃kvs k,H a=some (.dK kvs)/\y=kV k/\kvs.length < sizeLine/\H'=upd H a (.dK (putK kvs k v)))\/
 ∃kvs k b,H a=some (.dT kvs)/\y=.ref b/\H b=some (.tup (k.map kV))/\kvs.length < sizeLine/\H'=upd H a (.dT (putK kvs k v))
theorem wc.k {H:Hp}{a:Addr}{kvs:List (Key×V)}{k:Key}(e:H a=some (.dK kvs)):wc H a (kV k) (wx kvs k):=.inl ⟨kvs,k,.inl e,rfl,rfl⟩
theorem wc.t {H:Hp}{a b:Addr}{kvs:List (List Key×V)}{k:List Key}(e:H a=some (.dT kvs))(eb:H b=some (.tup (k.map kV))):wc H a (.ref b) (wx kvs k):=.inr ⟨kvs,k,b,.inl e,rfl,eb,rfl⟩
theorem xV.k {H:Hp}{a:Addr}{kvs:List (Key×V)}{k:Key}{v:V}(e:H a=some (.dK kvs))(hl:kvs.length < sizeLine):xV H a (kV k) v (upd H a (.dK (putK kvs k v))):=.inl ⟨kvs,k,e,rfl,hl,rfl⟩
theorem xV.t {H:Hp}{a b:Addr}{kvs:List (List Key×V)}{k:List Key}{v:V}(e:H a=some (.dT kvs))(eb:H b=some (.tup (k.map kV)))(hl:kvs.length < sizeLine) :
  xV H a (.ref b) v (upd H a (.dT (putK kvs k v))):=.inr ⟨kvs,k,b,e,rfl,eb,hl,rfl⟩
section
variable {X:Cx}{pins:List (Addr×Obj)}{σ:St}{H:Hp}{s:Shared}{a:Addr}{y v:V}{u r:Value}{o:Option V}{A:Around}{E:Value->Shared->Prop}
theorem Inv.big (I:Inv X pins σ H s):sysModules < s.heap.objs.size:=by
 have h:mainGlobals < s.heap.objs.size:=(I.mod.glob.keeps I.bk).lt
 exact Nat.lt_trans (by decide) h
theorem xy {h':Heap}{t':Nat}{ob:HO}(I:Inv X pins σ H s)(mu:BL (H a))(hs:Heap.SameBut a s.heap h')(he:∃q,h'.get? a=some q)(new:aV X.prog X.w (upd H a ob) h' a ob) :
  Inv X pins σ (upd H a ob) {s with heap:=h',toks:=t'}:=
 I.write (x:=a) (e:=a) mu (.inl rfl) (fun b q hb z=>(hs.2 b hb).trans z) he new
theorem za {P:Program}{w:World}{H':Hp}{h':Heap}{kvs:List (Key×V)}{vs:List (Key×Value)}(z:kvs.length<=sizeLine)(hd:(a == sysModules)=false)(rel:KV kvs vs)(dd:h'.DictOf (b6 P w) a vs) :
  aV P w H' h' a (.dK kvs):=⟨z,hd,vs,rel,dd⟩
end
theorem mS {P:Program}{w:World}{H:Hp}(h:Heap)(hb:sysModules < h.objs.size):aV P w H (h.push {cls:=.type "dict",data:=.dict #[]}) h.objs.size (.dK []):=
 ⟨Nat.zero_le _,beq_eq_false_iff_ne.mpr (Ne.symm (Nat.ne_of_lt hb)),[],.nil,Heap.DictOf.new h⟩
def y0:TE:=fun _ H Q=>∀p,H p=none->Q (.ref p) (upd H p (.dK []))
section
variable {X:Cx}{pos:Pos}
theorem uy:PE X (.Dict [] [] pos) y0:=fun pins s σ H Q I h=>
 wpAny_Dict_empty ⟨.ref s.heap.objs.size,_,I.laid (a:=s.heap.objs.size) (o:=.dK []) (t':=s.toks) (fun _ _ q=>Heap.get?_push_of_some _ q) (Nat.le_refl _) (mS s.heap I.big),rfl,h _ (I.hok.fresh (Nat.le_refl _))⟩
end
def pd:List (TE×TE)->St->Hp->(List (V×V)->Hp->Prop)->Prop
 | [],_,H,Q=>Q [] H
 | (tk,tv) :: r,σ,H,Q=>tk σ H fun x H1=>tv σ H1 fun y H2=>pd r σ H2 fun ps H3=>Q ((x,y) :: ps) H3
abbrev VV:List (V×V)->List (Value×Value)->Prop:=Paired fun p q=>RelV p.1 q.1/\RelV p.2 q.2
def BZ (X:Cx)(pos:Pos)(keys:List (Option Expr))(values:List Expr)(trs:List (TE×TE)):Prop:=
 ∀(pins:List (Addr×Obj)) (s:Shared) (σ:St) (H:Hp) (Q:List (V×V)->Hp->Prop),Inv X pins σ H s->pd trs σ H Q->
  wpAny (model X.prog X.w) X.A (evalPairs (pairTrees keys values X.env pos)) (fun vs s'=>∃ps H',Inv X pins σ H' s'/\VV ps vs/\Q ps H') X.xe s
theorem wH {X:Cx}{pos:Pos}:BZ X pos [] [] []:=fun pins s σ H Q I h=>pairTrees_nil_walk ⟨[],H,I,.nil,h⟩
theorem uK {X:Cx}{pos:Pos}{k v:Expr}{ks:List (Option Expr)}{vs:List Expr}{tk tv:TE}{trs:List (TE×TE)}(hk:PE X k tk)(hv:PE X v tv)(hr:BZ X pos ks vs trs) :
  BZ X pos (some k :: ks) (v :: vs) ((tk,tv) :: trs):=fun pins s σ H Q I h=>
 pairTrees_cons_walk (bb (hk pins s σ H _ I h) fun u s1 ⟨x,H1,I1,rx,q1⟩=>bb (hv pins s1 σ H1 _ I1 q1) fun w2 s2 ⟨y,H2,I2,ry,q2⟩=>
  bb (hr pins s2 σ H2 _ I2 q2) fun ws s3 ⟨ps,H3,I3,rel,q3⟩=>⟨(x,y) :: ps,H3,I3,.cons ⟨rx,ry⟩ rel,q3⟩)
def jZ (kvs more:List (Key×V)):List (Key×V):=more.foldl (fun acc kv=>putK acc kv.1 kv.2) kvs
theorem KV.merge:∀{more:List (Key×V)} {rs:List (Key×Value)} {kvs:List (Key×V)} {vs:List (Key×Value)},KV more rs->KV kvs vs->KV (jZ kvs more) (merged vs rs):=by
 intro more rs kvs vs r
 unfold KV at r
 induction r generalizing kvs vs with
 |nil=>intro q;exact q
 | @cons p q ps qs h t ih=>
  intro r0
  have e:KV (putK kvs p.1 p.2) (stored vs q.1 q.2):=by
   have:=r0.put p.1 h.2
   rw[<-h.1];exact this
  exact ih e
theorem gq:∀(more kvs:List (Key×V)),(jZ kvs more).length<=kvs.length + more.length
 | [],kvs=>by show kvs.length<=kvs.length + 0;omega
 |p :: r,kvs=>by
  have h1:=gq r (putK kvs p.1 p.2)
  have h2:=nj kvs p.1 p.2
  show (jZ (putK kvs p.1 p.2) r).length<=_
  rw[List.length_cons];omega
theorem j5 {P:Program}{w:World}:∀{kvs:List (Key×V)} {ws:List (Value×Value)},VV (kvs.map fun kv=>(kV kv.1,kv.2)) ws->∃rs,Carries (b6 P w) ws rs/\KV kvs rs
 | [],_,r=>by rw[List.map_nil] at r;cases r;exact⟨[],True.intro,.nil⟩
 |p :: kvs,_,r=>by
  rw[List.map_cons] at r
  cases r with
  | @cons a b as bs h t=>
   obtain⟨rs,c,q⟩:=j5 (P:=P) (w:=w) t
   obtain⟨b1,b2⟩:=b
   exact⟨(p.1,b2) :: rs,⟨AK h.1,rfl,c⟩,.cons ⟨rfl,h.2⟩ q⟩
def AE (trs:List (TE×TE)):TE:=fun σ H Q=>∀p,H p=none->pd trs σ (upd H p (.dK [])) fun ps H2=>H2 p=some (.dK [])/\∃kvs:List (Key×V),ps=kvs.map (fun kv=>(kV kv.1,kv.2))/\kvs.length<=15/\Q (.ref p) (upd H2 p (.dK (jZ [] kvs)))
theorem xf {X:Cx}{pos:Pos}{keys:List (Option Expr)}{values:List Expr}{trs:List (TE×TE)}(h:BZ X pos keys values trs)(hall:keys.all (·.isSome)=true)(hl:keys.length=values.length)(h0:keys≠ [])
  (h15:keys.length<=15):PE X (.Dict keys values pos) (AE trs):=by
 intro pins s σ H Q I q
 have hn:=I.hok.fresh (Nat.le_refl s.heap.objs.size)
 have I1:=I.laid (a:=s.heap.objs.size) (o:=.dK []) (h':=s.heap.push {cls:=.type "dict",data:=.dict #[]}) (t':=s.toks) (fun _ _ q=>Heap.get?_push_of_some _ q) (Nat.le_refl _) (mS s.heap I.big)
 refine wpAny_Dict_walk (knd:=b6 X.prog X.w) hall hl h0 h15 (bb (h pins _ σ _ _ I1 (q _ hn)) fun ws s2 ⟨ps,H2,I2,rel,e,kvs,ep,lk,q2⟩=>?_)
 subst ep
 obtain⟨rs,c,rk⟩:=j5 (P:=X.prog) (w:=X.w) rel
 obtain⟨z,hd,vs0,r0,dd⟩:=Bs I2.hok e
 cases r0
 refine⟨rs,c,dd,fun h' dd' hs=>⟨.ref s.heap.objs.size,_,?_,rfl,q2⟩⟩
 have hz:(jZ [] kvs).length<=sizeLine:=by
  have h1:=gq kvs []
  rw[List.length_nil] at h1
  rw[sizeLine_eq];omega
 have he:∃q,h'.get? s.heap.objs.size=some q:=let ⟨q,_,_,hq,_⟩:=dd';⟨q,hq⟩
 exact xy I2 (by rw[e];exact True.intro) hs he (za hz hd (rk.merge .nil) dd')
end L2

end

section
namespace L2
open PySem PySem.Spec PyProof.Rows
section
variable {X:Cx}{Γ:Fx}{E:XK}{pos:Pos}
theorem xR {k:Str}{i:Int}{j j'}{p p':Pos}:SE X Γ E (.Dict [some (.Constant (.str k) j p)] [.Constant (.int i) j' p'] pos) (cst (.dict [(.str k,.int i)])) [] .v:=by
 refine PE.post' (xf (uK jk jq wH) rfl rfl (by simp) (by simp)) ?_
 rintro σ H Q ⟨env,G,B,β,I,o⟩ p hp
 have o:∀v G' H',SR Γ B G' H' σ (aC [] env) β->ah G G'->dh B H H'->Rp Γ.K G' v (.dict [(.str k,.int i)])->Q v H':=o
 refine⟨ai,[(.inr k,.int i)],rfl,by simp,?_⟩
 rw[xg]
 have xn:=Ext.new I.sub (o:=.dK [((.inr k:Key),V.int i)]) hp
 exact o _ _ _ (I.ext xn) xn.gg (xn.hh.mov B) (.dK (kvs:=[((.inr k:Key),V.int i)]) ai (.cons (.int i) .nil))
end
mutual
def yy:D->Bool
 | .list ds=>vG ds
 | .tuple ds=>vG ds
 | .dict kvs=> !kvs.isEmpty && kvs.all fun kv=>match kv.1,kv.2 with
  | .str _,.int _=>true
  |_,_=>false
 |_=>true
def vG:List D->Bool
 | []=>true
 |d :: ds=>yy d && vG ds
end
end L2

end

section
namespace L2
open PySem PySem.Spec PyProof.Rows
section
variable {prog:Program}{w:World}{A:Around}{E:Value->Shared->Prop}{s:Shared}{it t:Addr}{i:Nat}{xs:Array Value}{Q:Value->Shared->Prop}
theorem Ci (hi:s.heap.IsTupleIter it t i)(ht:s.heap.IsTuple t xs)
  (k1:∀x,xs[i]? =some x->∀h',h'.IsTupleIter it t (i + 1)->Heap.SameBut it s.heap h'->Q x {s with heap:=h'})
  (k2:xs[i]? =none->A.handled=none/\∀h' e,Heap.ExtBut it s.heap h'->(∃o,h'.get? e=some o/\o.cls=.type "StopIteration")->E (.ref e) {s with heap:=h'}) :
  wpAny (model prog w) A (Builtin.SmallTypes.nextOf (.ref it)) Q E s:=by
 obtain⟨o,ho,hc,hd⟩:=id hi
 obtain⟨ol,hol, -,nl,hdl⟩:=ht
 refine wpAny_bind (wpAny_callSpecial?_slot (name:=Str.ofString "__next__") hi.typeIs F.slot_tuple_iterator_next (wpAny_call_entry F.slot_tuple_iterator_next hi.typeIs F.entry_tuple_iterator_next ?_ (F.args_tuple_iterator_next_1 _)))
 refine (show wpAny _ _ (field (.ref it) 0 >>= _) _ _ s from wpAny_bind (wpAny_field ho hd (x:=.ref t) rfl ?_))
 refine (show wpAny _ _ (if (Value.ref t == Value.none)=true then _ else _) _ _ s from ?_)
 rw[if_neg (by exact Bool.false_ne_true)]
 refine (show wpAny _ _ (field (.ref it) 1 >>= _) _ _ s from wpAny_bind (wpAny_field ho hd (x:=.int i 0) rfl ?_))
 refine (show wpAny _ _ (seqItems? (.ref t) >>= _) _ _ s from wpAny_bind (wpAny_seqItems hol hdl ?_))
 cases hx:xs[i]? with
 |some x=>
  simp only[Int.toNat_natCast,hx]
  refine wpAny_bind (wpAny_setField ho hd (by simp) (wpAny_pure ⟨x,rfl,wpAny_pure (k1 x hx _ ?_ (Heap.SameBut.update ..))⟩))
  refine⟨_,Heap.get?_update_self _ ho (Obj.isFreed_of_fields (Obj.data_mapFields hd _)),(Obj.cls_mapFields ..).trans hc,?_⟩
  rw[Obj.data_mapFields hd]
  simp[rawInt]
 |none=>
  obtain⟨hh,hE⟩:=k2 hx
  simp only[Int.toNat_natCast,hx]
  refine wpAny_bind (wpAny_rule (wpAny_bind (wpAny_setField ho hd (by simp) (show wpAny _ _ (newExc (.type "StopIteration") [] >>= _) _ _ _ from wpAny_bind ?_))))
  simp only[newExc,newTuple]
  refine wpAny_bind (wpAny_newObj_type (wpAny_bind (m:=firstArgMember _ _) (wpAny_of_eq (a:=Value.none) (by first |rfl | (simp only[firstArgMember];rfl)) (wpAny_newObj_type ?_ (by size_fits)))) (by size_fits))
  simp only[raiseNew]
  refine wpAny_bind (wpAny_handled ?_)
  have hh':A.in1.handled=none:=hh
  first |rw[hh'] |rw[hh]
  exact wpAny_bind (wpAny_pure (wpAny_throw (hE _ _ (((Heap.SameBut.update ..).extBut.push _).push _) ⟨_,Heap.get?_push_size _ rfl,rfl⟩)))
theorem zt (hh:A.handled=none)(hne:t≠it)(xs:Array Value):Draws prog w A it [it,t] xs.size (fun i v=>xs[i]? =some v) (fun i h=>h.IsTupleIter it t i/\h.IsTuple t xs) where
 live:=fun _ _ st=>let ⟨o,ho,_⟩:=st.1;⟨o,ho⟩
 frame:=fun _ _ _ st hk=>⟨st.1.at fun o e=>hk it (by simp) o e,st.2.at fun o e=>hk t (by simp) o e⟩
 item:=fun i s Q E hi st k=>Ci st.1 st.2 (fun x hx h' q1 q2=>k x h' s.toks hx ⟨q1,st.2.extBut q2.extBut hne⟩ q2) fun z=>by simp at z;omega
 done:=fun s Q E st k=>Ci st.1 st.2 (fun x hx=>by simp at hx) fun _=>⟨hh,k⟩
end
abbrev zQ (t:Addr):Obj:={cls:=.type "tuple_iterator",data:=.fields #[.ref t,.int 0 0]}
abbrev B9 (it:Addr):Obj:={cls:=.type "enumerate",data:=.fields #[.none,.bool false,.ref it,rawInt 0,.none,.none]}
theorem va (t:Addr)(xs:Array Value)(n:Nat)(dc:Option Addr)(sl:Array (Option Value)) :
  Meets (Builtin.«enumerate.__new__» ⟨[.type "enumerate",.ref t],[]⟩) (fun _ R s=>s.heap.get? t=some ⟨.type "tuple",dc,.seq xs n,sl⟩/\
   R (.ok (.ret (.ref (s.heap.push (zQ t)).objs.size))) {s with heap:=(s.heap.push (zQ t)).push (B9 s.heap.objs.size)}):=by
 refine .of_wp fun prog w A R s h=>?_
 obtain⟨hp,g,d,tk,os⟩:=s
 obtain⟨hl,h⟩:=h
 have sb:=sub_enumerate
 have hT:Heap.IsTuple (Shared.heap ⟨hp,g,d,tk,os⟩) t xs:=⟨_,hl,rfl,n,rfl⟩
 wp_walk using AutoSeq1.wpAny_loadPart' hl
 refine wpAny_stack_any fun st=>wpAny_pure ?_
 split
 ·rename_i c _ _ _ _ _
  cases (c == Value.type "enumerate") <;> (wp_walk using AutoSeq1.wpAny_loadPart' hl,wpAny_pyIter_tuple hT;exact⟨_,rfl,h⟩)
 ·wp_walk using AutoSeq1.wpAny_loadPart' hl,wpAny_pyIter_tuple hT
  exact⟨_,rfl,h⟩
section
variable {prog:Program}{w:World}{A:Around}{E:Value->Shared->Prop}{s:Shared}
theorem oZ {t:Addr}{xs:Array Value}{Q:Value->Shared->Prop}(hT:s.heap.IsTuple t xs)
  (k:∀h',IsEnum h' (s.heap.objs.size + 1) s.heap.objs.size 0 .none->h'.IsTupleIter s.heap.objs.size t 0->(∀b o,s.heap.get? b=some o->h'.get? b=some o)->Q (.ref (s.heap.objs.size + 1)) {s with heap:=h'}) :
  wpAny (model prog w) A (call (.type "enumerate") [.ref t]) Q E s:=by
 obtain⟨⟨c,dc,dt,sl⟩,hl,hc,n,hd⟩:=hT
 have hc:c=.type "tuple":=hc
 have hd:dt=.seq xs n:=hd
 subst hc hd
 refine callType_new F.called_enumerate (by decide) (F.typeCall_enumerate_1 _) (F.newCall_enumerate_1 _) (fun ob=>F.args_object_init_2 ob _) F.entry_enumerate_new (va t xs n dc sl) ⟨hl,?_⟩
 have hz:(s.heap.push (zQ t)).objs.size=s.heap.objs.size + 1:=Heap.size_push ..
 have g2:((s.heap.push (zQ t)).push (B9 s.heap.objs.size)).get? (s.heap.push (zQ t)).objs.size=some (B9 s.heap.objs.size):=Heap.get?_push_size _ rfl
 have g1:((s.heap.push (zQ t)).push (B9 s.heap.objs.size)).get? s.heap.objs.size=some (zQ t):=Heap.get?_push_of_some _ (Heap.get?_push_size _ rfl)
 rw[hz] at g2
 show _/\_
 rw[hz]
 exact⟨⟨_,g2,rfl⟩,k _ g2 ⟨_,g1,rfl,rfl⟩ fun b o e=>Heap.get?_push_of_some _ (Heap.get?_push_of_some _ e)⟩
end
end L2

end

section
namespace L2
open PySem PySem.Spec PyProof.Rows
theorem y4 {prog:Program}{w:World}{A:Around}{it t:Addr}{xs:Array Value}(hh:A.handled=none)(i:Nat)(hx:xs[i]? =none):Draws prog w A it [it,t] i (fun _ _=>False) (fun j h=>j=i/\h.IsTupleIter it t i/\h.IsTuple t xs) where
 live:=fun _ _ st=>let ⟨o,ho,_⟩:=st.2.1;⟨o,ho⟩
 frame:=fun _ _ _ st hk=>⟨st.1,st.2.1.at fun o e=>hk it (by simp) o e,st.2.2.at fun o e=>hk t (by simp) o e⟩
 item:=fun j s Q E hi st k=>absurd st.1 (by omega)
 done:=fun s Q E st k=>Ci st.2.1 st.2.2 (fun x h=>by rw[hx] at h;cases h) fun _=>⟨hh,k⟩
def CZ (K:PySem.W.Frag)(a:Addr):It:=
 ⟨fun i H=>∃xs x,dq K H a xs/\xs[i]? =some x,
  fun i H v H'=>∃x t,H t=none/\(∀xs,dq K H a xs->xs[i]? =some x)/\v=.ref t/\H'=upd H t (.tup [.int i,x]),
  fun i H=>∃xs,dq K H a xs/\xs.length<=i⟩
abbrev vV (n:Nat):List Nat:=[n + 1,n]
theorem rg {h:Heap}{a n:Addr}{i:Nat}{its:Array Value}{b:Addr}(p:h.IsTuple a its)(q:h.IsTupleIter n b i):a≠n:=fun z=>by
 subst z
 obtain⟨o,e,c,_⟩:=p
 obtain⟨o',e',c',_⟩:=q
 rw[e] at e';cases e'
 rw[c] at c'
 simp at c'
theorem sd {h:Heap}{a n it:Addr}{i:Int}{its:Array Value}{old:Value}(p:h.IsTuple a its)(q:IsEnum h n it i old):n≠a:=fun z=>by
 subst z
 obtain⟨o,e,c,_⟩:=p
 rw[q] at e;cases e
 simp at c
theorem pQ {P:Program}{w:World}{K:PySem.W.Frag}{elts:List Expr}{x1}{pos:Pos}(a:Addr)(n:Nat):Turn P w K (.Tuple elts x1 pos) (CZ K a) (vV n) (n + 1)
  (fun i h=>(∃old,IsEnum h (n + 1) n i old)/\h.IsTupleIter n a i) where
 mem:=by simp
 obj:=fun i h st c hc=>by
  obtain⟨⟨old,z1⟩,⟨o2,z2,_,d2⟩⟩:=st
  simp only[vV,List.mem_cons,List.not_mem_nil,or_false] at hc
  rcases hc with rfl |rfl
  ·exact⟨_,z1,fun v z=>by
    have z':Data.fields _=Data.cell v:=z
    cases z'⟩
  ·exact⟨o2,z2,fun v z=>by rw[d2] at z;cases z⟩
 keep:=fun i h h' st k=>by
  obtain⟨⟨old,z1⟩,z2⟩:=st
  exact⟨⟨old,k _ (by simp) _ z1⟩,z2.at fun o e=>k _ (by simp) o e⟩
 item:=by
  intro X hP hw hK hc i pins s σ H E I hf st hg
  subst hP hw hK
  obtain⟨xs,x,ha,hx⟩:=hg
  obtain⟨its,rv,p,hz⟩:=I.tuple ha
  have p:s.heap.IsTuple a its.toArray:=p
  obtain⟨u0,hu0,ru0⟩:=rv.get hx
  obtain⟨⟨old,z1⟩,z2⟩:=st
  have hh:X.A.in1.handled=none:=I.ok.hd hc
  have hlt:i < its.toArray.size:=by
   have:=List.getElem?_eq_some_iff.mp hu0
   simpa using this.1
  refine wpAny_pyNext_enum_itemD (zt hh (rg p z2) its.toArray) z1 ⟨z2,p⟩ hlt (CC 1 0 rfl) (by
   simp only[List.mem_cons,List.not_mem_nil,or_false,not_or]
   exact⟨CC 1 0 rfl,sd p z1⟩) fun u h' tk hu q1 q2 q3 q4 q5=>?_
  have eu:u0=u:=by
   have hu:its.toArray[i]? =some u:=hu
   rw[List.getElem?_toArray,hu0] at hu
   exact Option.some.inj hu
  subst eu
  refine⟨_,rfl,wpAny_letOwnedTupleGo_enum (s:={s with heap:=h',toks:=tk + 1}) q1 fun h2 r1 r2=>?_⟩
  have r2:∀c,c≠n + 1->h2.get? c=h'.get? c:=r2.2
  have lz:n + 1 < s.heap.objs.size:=Heap.lt_size z1
  have hT:H s.heap.objs.size=none:=I.hok.fresh (Nat.le_refl _)
  have I1:Inv X pins σ (upd H s.heap.objs.size (.tup [.int i,x])) {s with heap:=s.heap.push {cls:=.type "tuple",data:=.seq #[.int i tk,u0]},toks:=s.toks}:=
   I.laid (fun b o e=>Heap.get?_push_of_some _ e) (Nat.le_refl _) ⟨by show 2<=sizeLine;rw[sizeLine_eq];omega,[.int i tk,u0],.cons ⟨tk,rfl⟩ (.cons ru0 .nil),ko.new _ _⟩
  have hf':∀c∈vV n,i6 X pins (upd H s.heap.objs.size (.tup [.int i,x])) c:=fun c hc=>⟨by
   rw[aq (fun z=>?_)]
   ·exact (hf c hc).1
   ·subst z
    simp only[vV,List.mem_cons,List.not_mem_nil,or_false] at hc
    omega,(hf c hc).2⟩
  have I2:Inv X pins σ (upd H s.heap.objs.size (.tup [.int i,x])) {s with heap:=h2,toks:=tk + 1}:=by
   refine I1.turnedL (ch:=vV n) (fun c o hc e=>?_) hf'
   have e:(s.heap.push {cls:=.type "tuple",data:=.seq #[.int i tk,u0]}).get? c=some o:=e
   simp only[vV,List.mem_cons,List.not_mem_nil,or_false,not_or] at hc
   rw[r2 c hc.1]
   by_cases z:c=s.heap.objs.size
   ·subst z
    rw[Heap.get?_push_size _ rfl] at e
    rw[<-e];exact q3
   ·refine q5 c o hc.1 hc.2 ?_
    rw[Heap.get?_push_ne _ _ _ z] at e
    exact e
  refine⟨.ref s.heap.objs.size,_,I2,rfl,⟨x,_,hT,fun xs' h'=>?_,rfl,rfl⟩,⟨⟨u0,r1⟩,q2.1.at fun o e=>(r2 _ (CC 0 1 rfl)).trans e⟩,fun c hc=>(hf' c hc).1⟩
  rw[I.tuple_inj h' ha];exact hx
 done:=by
  intro X hP hw hK hc i pins s σ H E I hf st hg
  subst hP hw hK
  obtain⟨xs,ha,hl⟩:=hg
  obtain⟨its,rv,p,hz⟩:=I.tuple ha
  obtain⟨⟨old,z1⟩,z2⟩:=st
  have hh:X.A.in1.handled=none:=I.ok.hd hc
  have l1:=rv.length
  refine wpAny_pyNext_enum_endD (y4 hh i (xs:=its.toArray) (by simp;omega)) z1 ⟨rfl,z2,p⟩ fun h' q=>⟨rfl,?_⟩
  refine I.turnedL (t':=s.toks) (ch:=vV n) (fun c o hc e=>?_) hf
  simp only[vV,List.mem_cons,List.not_mem_nil,or_false,not_or] at hc
  exact q c o hc.2 e
 self:=fun _ _ _ _ _ st h=>by
  obtain⟨⟨old,z1⟩,_⟩:=st
  exact wpAny_pyIter_enum z1 h
def DC (K:PySem.W.Frag)(ta:TA):TI:=fun σ H R=>ta σ H fun vs H2=>∃a xs,vs= [.ref a]/\dq K H2 a xs/\R (CZ K a) H2
theorem rP:bootBuiltins "enumerate"=some (.type "enumerate"):=by decide +kernel
section
variable {X:Cx}
theorem An {a:Expr}{ta:TA}{p pos pt:Pos}{elts:List Expr}{x1}(hg:Gl X "enumerate")(hm:X.mg "enumerate"=none)(ha:PA X [a] ta)(hs:starEach [a] X.env= [(false,eval a X.env)]:=by rfl) :
  PI X (.Tuple elts x1 pt) (.Call (.Name "enumerate" p) [a] [] pos) (DC X.K ta):=by
 intro pins s σ H R I h
 refine Call_ (jR I hg hm rP (PyProof.Rows.callWith_type1 (bb (ha pos pins s σ H _ I h) fun us s1 ⟨vs,H1,I1,r1,q1⟩=>?_) hs rfl))
 obtain⟨a,xs,e,h1,q⟩:=q1
 subst e
 cases r1 with
 |cons r rr=>
  cases rr
  cases r
  obtain⟨its,rv,p1,hz⟩:=I1.tuple h1
  refine oZ (show s1.heap.IsTuple a its.toArray from p1) fun h' z1 z2 z3=>?_
  refine wpAny_pyIter_enum z1 ⟨_,vV s1.heap.objs.size,_,_,H1,rfl,I1.kept (t':=s1.toks) z3,pQ a s1.heap.objs.size,⟨⟨_,z1⟩,z2⟩,fun c hc=>?_,q⟩
  have:s1.heap.objs.size<=c:=by
   simp only[vV,List.mem_cons,List.not_mem_nil,or_false] at hc
   rcases hc with rfl |rfl <;> first |exact Nat.le_refl _ |exact Nat.le_add_right _ _
  exact I1.fpOk this (I1.hok.fresh this)
end
section
variable {X:Cx}{Γ:Fx}{E:XK}{e a b c:Expr}{f fa fb:VF D}{L La Lb:List Nat}{md ma mb:Md}{pos:Pos}
def gk (ds:List D):List D:=ds.mapIdx fun i d=>.tuple [.int i,d]
def tw (fa:VF D):VF (List D):=fun vs β=>(fa vs β).bnd fun x β1=>match x with
 | .tuple ds=>.ok (gk ds) β1
 |_=>.bad
theorem uL {K:PySem.W.Frag}{B:Option Addr}{G H1:Hp}{p:Addr}{xs:List V}{ds:List D}(hp:dq K G p xs)(r:a9 K G xs ds):Walk K B G H1 (gk ds) (CZ K p):=fun Gc H i s1 s2 m=>by
 have hp':=hp.grow (s1.trans s2).grow
 have l1:=r.len
 have lz:(gk ds).length=ds.length:=by unfold gk;rw[List.length_mapIdx]
 refine⟨fun hi=>⟨?_,fun x H' y=>?_⟩,fun hi=>⟨xs,hp',by omega⟩⟩
 ·have h1:i < xs.length:=by omega
  exact⟨xs,xs[i],hp',by simp[h1]⟩
 ·obtain⟨x,t,ht,hx,rfl,rfl⟩:=y
  obtain⟨d,ed,rd⟩:=r.at' (hx xs hp')
  have xn:=Ext.new s2 (o:=.tup [.int i,x]) ht
  refine⟨upd Gc t (.tup [.int i,x]),.tuple [.int i,d],xn,?_,.tup (.inl (.inl ai)) (.cons (.int i) (.cons (rd.mono (s1.trans xn.gg)) .nil))⟩
  unfold gk
  rw[List.getElem?_mapIdx,ed];rfl
theorem vg {p pt:Pos}{elts:List Expr}{x1}(hK:X.K=Γ.K)(hg:Gl X "enumerate")(hm:X.mg "enumerate"=none)(ha:SE X Γ E a fa La ma)(hs:starEach [a] X.env= [(false,eval a X.env)]:=by rfl)(hs':starEach [a] X.env=(false,eval a X.env) :: starEach [] X.env:=by rfl) :
  SI X Γ E (.Tuple elts x1 pt) (.Call (.Name "enumerate" p) [a] [] pos) (tw fa) La md:=by
 refine PI.post (An hg hm (ag ha ay hs') hs) ?_
 rintro σ H Q ⟨env,G,B,β,I,o⟩
 refine⟨env,G,B,β,I,o.bnd.imp fun d1 β1 h x G1 H1 I1 s1 m1 vx=>?_⟩
 have vx:=vx.brw I.boxThere
 rw[hK]
 cases d1 with
 |tuple ds=>
  rcases vx with vx | ⟨p,rfl,hb,q⟩
  ·cases vx with
   | @tup p xs _ hq r=>exact⟨p,xs,rfl,hq.grow I1.sub.grow,h _ G1 H1 I1 s1 m1 (uL hq r)⟩
  ·exact q.elim
 |_=>exact h.elim
end
end L2

end

section
namespace L2
open PySem PySem.Spec PyProof.Rows PySem.MeetsSeq PySem.MeetsSeq2 PySem.MeetsSeq3
def yk (K:PySem.W.Frag):R2:=fun x y H Q=>∃a b xs ys,x=.ref a/\y=.ref b/\dq K H a xs/\dq K H b ys/\xs.length + ys.length<=sizeLine/\
 (xs= []->Q (.ref b) H)/\(xs≠ []->ys= []->Q (.ref a) H)/\(xs≠ []->ys≠ []->∀p,H p=none->Q (.ref p) (upd H p (.tup (xs ++ ys))))
section
variable {X:Cx}
theorem jJ:ij X (binaryOp .Add) (yk X.K):=by
 intro pins s σ H x y v u Q I rx ry h
 obtain⟨a,b,xs,ys,rfl,rfl,ha,hb,hz,q0,q1,q2⟩:=h
 by_cases hx:xs= []
 ·cases rx
  cases ry
  obtain⟨its,r1,p1,_⟩:=I.tuple ha
  obtain⟨its2,r2,p2,_⟩:=I.tuple hb
  obtain⟨⟨cls,dd,data,sl⟩,ho,hc,n,hd⟩:=id p1
  obtain⟨⟨cls2,dd2,data2,sl2⟩,ho2,hc2,n2,hd2⟩:=id p2
  simp only at hc hd hc2 hd2
  subst hc hd hc2 hd2
  have he:its= []:=r1.nil_iff.mpr hx
  exact concat_meets ⟨_,ho,rfl⟩ ⟨_,ho2,rfl⟩ noFill_tuple_add seq_tuple_add PySem.F.slot_tuple_add PySem.F.entry_tuple_add (PySem.F.args_tuple_add_2 _ _)
   (tuple_addW0 a b its.toArray its2.toArray n n2 dd dd2 sl sl2 (by simp[he])) ⟨ho,ho2,.ref b,H,I,rfl,q0 hx⟩
 ·exact wL pins s σ H _ _ v u Q I rx ry ⟨a,b,xs,ys,rfl,rfl,ha,hb,hx,hz,q1 hx,q2 hx⟩
end
def jQ:D->D->Option D
 | .tuple a,.tuple b=>if a.length + b.length<=sizeLine then some (.tuple (a ++ b)) else none
 |_,_=>none
theorem oV {K:PySem.W.Frag}:i3 K (yk K) jQ .v:=by
 intro B G H x y dx dy d Q s hB bx by' e k
 cases dx <;> cases dy <;> first | (cases e;done) |skip
 rename_i a b
 simp only[jQ] at e
 split at e
 ·rename_i hz
  cases e
  rcases bx with bx | ⟨_,_,_,q⟩
  case inr=>exact q.elim
  rcases by' with by' | ⟨_,_,_,q⟩
  case inr=>exact q.elim
  cases bx with
  | @tup p xs _ hp r1=>
   cases by' with
   | @tup q ys _ hq r2=>
    refine⟨p,q,xs,ys,rfl,rfl,hp.grow s.grow,hq.grow s.grow,by rw[r1.len,r2.len];exact hz,fun z=>?_,fun z z'=>?_,fun _ _ l hl=>?_⟩
    ·subst z
     cases r1
     exact k _ G H (Ext.refl s) (.tup hq r2)
    ·subst z'
     cases r2
     rw[List.append_nil] at k
     exact k _ G H (Ext.refl s) (.tup hp r1)
    ·have xn:=Ext.new s (o:=.tup (xs ++ ys)) hl
     exact k _ _ _ xn (.tup (.inl (.inl ai)) ((r1.append r2).mono xn.gg))
 ·cases e
end L2

end

section
namespace L2
open PySem PySem.Spec PyProof.Rows
def isStar:Expr->Bool
 | .Starred _ _=>true
 |_=>false
theorem sL {a:Expr}{es:List Expr}{env:Env}(h:isStar a=false):starEach (a :: es) env=(false,eval a env) :: starEach es env:=by
 cases a <;> first |rfl |cases h
end L2

end

section
namespace L2
open PySem PySem.Spec PyProof.Rows
def zq (sc:Scope)(x:Str):Bool:=match sc.names.lookup x with
 |some .local=>true
 |some .cell=>true
 |some .free=>true
 |_=>false
theorem xr {sc:Scope}{x:Str}(h:zq sc x=true):oy sc x:=by
 unfold zq at h
 unfold oy
 split at h
 ·exact .inl (by assumption)
 ·exact .inr (.inl (by assumption))
 ·exact .inr (.inr (by assumption))
 ·cases h
def sH (N:List Str)(sc:Scope):List (Str×Nat)->Bool
 | []=>true
 | (x,i) :: r=>decide (N[i]? =some x) && (zq sc x && ((!(x == ("__debug__":Str))) && ((!(x == ("__classdict__":Str))) && sH N sc r)))
theorem qE {N:List Str}{sc:Scope}:∀{l:List (Str×Nat)} {x:Str} {i:Nat},sH N sc l=true->l.lookup x=some i->N[i]? =some x/\oy sc x/\(x == ("__debug__":Str))=false/\(x == ("__classdict__":Str))=false
 | [],_,_,_,h=>by cases h
 | (y,j) :: r,x,i,h,e=>by
  simp only[sH,Bool.and_eq_true,decide_eq_true_eq,Bool.not_eq_true'] at h
  obtain⟨h1,h2,h3,h4,h5⟩:=h
  rw[List.lookup_cons] at e
  split at e
  ·rename_i q
   have q:x=y:=by simpa using q
   subst q
   cases e
   exact⟨h1,xr h2,h3,h4⟩
  ·exact qE h5 e
def sx:Expr->Option Int
 | .Constant (.int i) _ _=>some i
 |_=>none
theorem je {e:Expr}{i:Int}(h:sx e=some i):∃j p,e=.Constant (.int i) j p:=by
 cases e with
 |Constant c j p=>cases c <;> first | (cases h;exact⟨_,_,rfl⟩) |cases h
 |_=>cases h
def C9 (op:UnaryOp)(e:Expr):Option Int:=match op with
 | .USub=>sx e
 |_=>none
def yp:Operator->Bool
 | .Pow=>true
 |_=>false
theorem vB {o:Operator}(h:yp o=true):o=.Pow:=by cases o <;> first |rfl |cases h
def zd (ks:List (Option Expr))(vs:List Expr):Option (Str×Int):=match ks,vs with
 | [some (.Constant (.str k) _ _)],[v]=>(sx v).map fun i=>(k,i)
 |_,_=>none
theorem xw {ks:List (Option Expr)}{vs:List Expr}{r:Str×Int}(h:zd ks vs=some r):∃j p j' p',ks= [some (.Constant (.str r.1) j p)]/\vs= [.Constant (.int r.2) j' p']:=by
 unfold zd at h
 split at h
 ·rename_i k j p v
  cases q:sx v with
  |none=>rw[q] at h;cases h
  |some i=>
   rw[q] at h
   cases h
   obtain⟨j',p',rfl⟩:=je q
   exact⟨_,_,_,_,rfl,rfl⟩
 ·cases h
def CQ:Const->Option D
 | .int i=>some (.int i)
 | .bool b=>some (.bool b)
 | .none=>some .none
 | .str x=>some (.str x)
 |_=>none
mutual
def rD (nm:List (Str×Nat)):Expr->Option (VF D×List Nat)
 | .Name x _=>(nm.lookup x).map fun i=>(gv i,[i])
 | .Constant c _ _=>(CQ c).map fun d=>(cst d,[])
 | .UnaryOp op a _=>(C9 op a).map fun i=>(cst (.int (-i)),[])
 | .BinOp a o b _=>if yp o=true then (sx a).bind fun i=>(sx b).map fun j=>(f2 (cst (.int i)) (cst (.int j)) uf,[]) else none
 | .Dict ks vs _=>(zd ks vs).map fun r=>(cst (.dict [(.str r.1,.int r.2)]),[])
 | .Tuple es _ _=>(y9 nm es).map fun r=>(dB r.1,r.2)
 | .List es _=>(y9 nm es).map fun r=>(bG r.1,r.2)
 | .BoolOp ..=>none
 | .NamedExpr ..=>none
 | .Lambda ..=>none
 | .IfExp ..=>none
 | .Set ..=>none
 | .ListComp ..=>none
 | .SetComp ..=>none
 | .DictComp ..=>none
 | .GeneratorExp ..=>none
 | .Await ..=>none
 | .Yield ..=>none
 | .YieldFrom ..=>none
 | .Compare ..=>none
 | .Call ..=>none
 | .FormattedValue ..=>none
 | .JoinedStr ..=>none
 | .Attribute ..=>none
 | .Subscript ..=>none
 | .Starred ..=>none
 | .Slice ..=>none
def y9 (nm:List (Str×Nat)):List Expr->Option (VF (List D)×List Nat)
 | []=>some (au,[])
 |e :: es=>(rD nm e).bind fun r=>(y9 nm es).map fun q=>(ae r.1 q.1,r.2 ++ q.2)
end
section
variable {X:Cx}{Γ:Fx}{E:XK}{nm:List (Str×Nat)}
theorem fo {α β:Type}{o:Option α}{f:α->β}{b:β}(h:o.map f=some b):∃a,o=some a/\f a=b:=by
 cases o with
 |none=>cases h
 |some a=>exact⟨a,rfl,Option.some.inj h⟩
theorem qa {α β:Type}{o:Option α}{f:α->Option β}{b:β}(h:o.bind f=some b):∃a,o=some a/\f a=some b:=by
 cases o with
 |none=>cases h
 |some a=>exact⟨a,rfl,h⟩
mutual
theorem BP (hc:sH X.N X.env.scope nm=true)(hb:∀i,Γ.br i=false):∀{e:Expr} {f:VF D} {L:List Nat},rD nm e=some (f,L)->SE X Γ E e f L .v/\isStar e=false
 | .Name x p,f,L,h=>by
  rw[rD] at h
  obtain⟨i,q,e⟩:=fo h
  cases e
  obtain⟨h1,h2,h3,h4⟩:=qE hc q
  exact⟨aB i (hb i) h1 h2 h3 h4,rfl⟩
 | .Constant c j p,f,L,h=>by
  rw[rD] at h
  obtain⟨d,q,e⟩:=fo h
  cases e
  cases c <;> first | (cases q;first |exact⟨ax,rfl⟩ |exact⟨lr,rfl⟩ |exact⟨mi,rfl⟩ |exact⟨fI,rfl⟩) |cases q
 | .UnaryOp op a p,f,L,h=>by
  rw[rD] at h
  obtain⟨i,q,e⟩:=fo h
  cases e
  cases op <;> first | (cases q;done) |skip
  obtain⟨j,p,rfl⟩:=je q
  exact⟨tJ pS u5 ax,rfl⟩
 | .BinOp a op b p,f,L,h=>by
  rw[rD] at h
  split at h
  ·rename_i ho
   obtain rfl:=vB ho
   obtain⟨i,q,h⟩:=qa h
   obtain⟨j,q2,e⟩:=fo h
   cases e
   obtain⟨j1,p1,rfl⟩:=je q
   obtain⟨j2,p2,rfl⟩:=je q2
   exact⟨aS z5 AI ax ax,rfl⟩
  ·cases h
 | .Dict ks vs p,f,L,h=>by
  rw[rD] at h
  obtain⟨r,q,e⟩:=fo h
  cases e
  obtain⟨_,_,_,_,rfl,rfl⟩:=xw q
  exact⟨xR,rfl⟩
 | .Tuple es c p,f,L,h=>by
  rw[rD] at h
  obtain⟨r,q,e⟩:=fo h
  cases e
  exact⟨dC (mq hc hb q),rfl⟩
 | .List es p,f,L,h=>by
  rw[rD] at h
  obtain⟨r,q,e⟩:=fo h
  cases e
  exact⟨SE.wv (bE (mq hc hb q)),rfl⟩
 | .BoolOp ..,_,_,h=>by rw[rD] at h;cases h
 | .NamedExpr ..,_,_,h=>by rw[rD] at h;cases h
 | .Lambda ..,_,_,h=>by rw[rD] at h;cases h
 | .IfExp ..,_,_,h=>by rw[rD] at h;cases h
 | .Set ..,_,_,h=>by rw[rD] at h;cases h
 | .ListComp ..,_,_,h=>by rw[rD] at h;cases h
 | .SetComp ..,_,_,h=>by rw[rD] at h;cases h
 | .DictComp ..,_,_,h=>by rw[rD] at h;cases h
 | .GeneratorExp ..,_,_,h=>by rw[rD] at h;cases h
 | .Await ..,_,_,h=>by rw[rD] at h;cases h
 | .Yield ..,_,_,h=>by rw[rD] at h;cases h
 | .YieldFrom ..,_,_,h=>by rw[rD] at h;cases h
 | .Compare ..,_,_,h=>by rw[rD] at h;cases h
 | .Call ..,_,_,h=>by rw[rD] at h;cases h
 | .FormattedValue ..,_,_,h=>by rw[rD] at h;cases h
 | .JoinedStr ..,_,_,h=>by rw[rD] at h;cases h
 | .Attribute ..,_,_,h=>by rw[rD] at h;cases h
 | .Subscript ..,_,_,h=>by rw[rD] at h;cases h
 | .Starred ..,_,_,h=>by rw[rD] at h;cases h
 | .Slice ..,_,_,h=>by rw[rD] at h;cases h
theorem mq (hc:sH X.N X.env.scope nm=true)(hb:∀i,Γ.br i=false):∀{es:List Expr} {f:VF (List D)} {L:List Nat},y9 nm es=some (f,L)->SA X Γ E es f L
 | [],f,L,h=>by rw[y9] at h;cases h;exact ao
 |e :: es,f,L,h=>by
  rw[y9] at h
  obtain⟨r,q,h⟩:=qa h
  obtain⟨r2,q2,e⟩:=fo h
  cases e
  obtain⟨a,b⟩:=BP hc hb q
  exact af a (mq hc hb q2) (sL b)
end
theorem AA {es:List Expr}{f:VF (List D)}{L:List Nat}{pos:Pos}(nm:List (Str×Nat))(hc:sH X.N X.env.scope nm=true)(hb:∀i,Γ.br i=false)(h:y9 nm es=some (f,L)):SE X Γ E (.List es pos) (bG f) L .w:=bE (mq hc hb h)
end
end L2

end

section

end

section

end

section

end

section
namespace L2.ST
open PySem PySem.SetTable
section
variable {prog:Program}{w:World}{A:Around}{E:Value->Shared->Prop}{s:Shared}
set_option maxHeartbeats 3200000 in
theorem kn {l:Addr}{vs:List Value}{ns:List Int}{T:String}{itO:Obj}{St:Addr->Nat->Heap->Prop}{Q:Value->Shared->Prop}(X:Src prog w s.heap l vs T itO St)(hh:A.handled=none)(hi:PyProof.Rows.IntsAre vs ns)(hb:vs.length + 1 < scanBound)
  (h:∀(h':Heap) (tk:Nat),h'.SetOf (intKind prog w) s.heap.objs.size (fun k'=>(PyProof.Rows.firstMet (fun i=>ns.getD i 0) vs.length).any (· == k')) (PyProof.Rows.firstMet (fun i=>ns.getD i 0) vs.length).length->(∀b o,s.heap.get? b=some o->h'.get? b=some o)->Q (.ref s.heap.objs.size) {s with heap:=h',toks:=tk}) :
  wpAny (model prog w) A (call (.type "set") [.ref l]) Q E s:=by
 obtain⟨c0,tl0,hmro0⟩:=F.called_set.mro
 have hmade0:=F.called_set.made
 have hsub0:=F.called_set.sub
 refine wpAny_call (codeAny_of_tree ?_)
 show wpAny _ _ (callAny (.type "set") ⟨[.ref l],[]⟩) _ _ _
 refine wpAny_pure ⟨Code.quiet_builtin _ (by decide +kernel),codeAny_builtin F.entry_type_call ?_⟩
 (rw[Around.under_plain (weight_type_call_type "set" [.ref l] []) rfl])
 have g1:=F.called_set.notType
 have g2:=F.called_set.canCreate
 have g3:=F.typeCall_set_1 (.ref l)
 repeat (any_goals (first |assumption |wp_step))
 refine codeAny_mono (mP (.ref l) (E:=E) (Q1:=fun obj s1=>obj=.ref s.heap.objs.size/\s1={s with heap:=s.heap.push {cls:=.type "set",dict:=none,data:=.set #[] 0 (.fresh 0 0 (oa w))}}) ⟨rfl,rfl⟩) fun r s1 hr=>?_
 cases r with
 |error e=>exact hr
 |ok fl=>
  cases fl with
  |ret obj=>
   obtain⟨rfl,rfl⟩:=hr
   generalize hO:({cls:=.type "set",dict:=none,data:=.set #[] 0 (.fresh 0 0 (oa w))}:Obj)=O
   have hS0:(s.heap.push O).get? s.heap.objs.size=some O:=Heap.get?_push_size _ (by rw[<-hO];rfl)
   have hT0:Shared.TypeIs {s with heap:=s.heap.push O} (.ref s.heap.objs.size) "set":=⟨_,hS0,by rw[<-hO]⟩
   have g4:=F.called_set.init.lookup
   have g5:=F.called_set.init.bind (.ref s.heap.objs.size)
   repeat (any_goals (first |assumption |wp_step))
   refine codeAny_mono (codeAny_call_builtin (R:=wants (fun r s2=>r=.none/\∃h' tk,s2={s with heap:=h',toks:=tk}/\h'.SetOf (intKind prog w) s.heap.objs.size (fun k'=>(PyProof.Rows.firstMet (fun i=>ns.getD i 0) vs.length).any (· == k')) (PyProof.Rows.firstMet (fun i=>ns.getD i 0) vs.length).length/\(∀b o,s.heap.get? b=some o->h'.get? b=some o)) E)
    F.called_set.init.plain F.entry_set_init (check_set_init_1 hT0 ?_)) fun r2 s2 hr2=>?_
   ·obtain⟨ol,hol,hcl⟩:=X.ty
    have hol':(s.heap.push O).get? l=some ol:=Heap.get?_push_of_some _ hol
    have e1:=X.ns
    have e2:=X.nf
    have e3:=X.nd
    have hTl:Shared.TypeIs {s with heap:=s.heap.push O} (.ref l) T:=⟨ol,hol',hcl⟩
    have hdat:O.data=.set #[] 0 (.fresh 0 0 (oa w)):=by rw[<-hO]
    (unfold Builtin.«set.__init__» noKeywords Builtin.Frozenset.updateFrom)
    subst hO
    obtain⟨oc,od,odt,osl⟩:=ol
    simp only at hcl
    subst hcl
    (generalize hPI0:pyIter=PI0)
    wp_walk
    subst hPI0
    have kp:∀b o,s.heap.get? b=some o->(s.heap.push {cls:=.type "set",dict:=none,data:=.set #[] 0 (.fresh 0 0 (oa w))}).get? b=some o:=fun b o e=>Heap.get?_push_of_some _ e
    refine X.it _ _ _ _ kp ?_
    refine wpAny_bind (wpAny_runValue ?_)
    have hlS:l < s.heap.objs.size:=Heap.lt_size hol
    have hh3:A.in1.in1.in1.handled=none:=by simp[hh]
    have hneI:l≠(s.heap.push {cls:=.type "set",dict:=none,data:=.set #[] 0 (.fresh 0 0 (oa w))}).objs.size:=by
     rw[Heap.size_push];exact Nat.ne_of_lt (Nat.lt_succ_of_lt hlS)
    have hSf:s.heap.objs.size∉ [(s.heap.push {cls:=.type "set",dict:=none,data:=.set #[] 0 (.fresh 0 0 (oa w))}).objs.size,l]:=by
     rw[Heap.size_push]
     intro z
     rcases List.mem_cons.mp z with e |z
     ·exact absurd e (Nat.ne_of_lt (Nat.lt_succ_self _))
     ·exact absurd (List.mem_singleton.mp z) (Nat.ne_of_gt hlS)
    refine PyProof.Rows.codeAny_set_update_loopS ((X.wk _ _ hh3 hneI).toS) s.heap.objs.size hSf (fun i=>ns.getD i 0) (fun i v e=>PyProof.Rows.IntsAre.int_at hi i v e) hb (vs.length - 0) 0 _ (by omega) (Nat.zero_le _) (X.st _ kp) ?_ ?_
    ·exact PyProof.Rows.SetOf_congr ((PyProof.Rows.setObjOf_fresh (knd:=intKind prog w) (oa w)).setOf (Heap.get?_push_of_some _ hS0) (by unfold scanBound;omega)) (fun _=>rfl) rfl
    ·intro s' hm F'
     obtain⟨h',g',d',tk,os'⟩:=s'
     have eg:g'=s.gens:=hm.gens
     have ed:d'=s.drawn:=hm.drawn
     have eo:os'=s.os:=hm.os
     subst eg;subst ed;subst eo
     show wpAny _ _ _ _ _ _
     refine wpAny_pure ?_
     show wpAny _ _ (ret Value.none) _ _ _
     refine wpAny_pure ⟨rfl,h',tk,rfl,F',fun b o e=>hm.heap b o (fun z=>?_) (Heap.get?_push_of_some _ (kp b o e))⟩
     have hlt:=Heap.lt_size e
     rw[Heap.size_push] at z
     rcases List.mem_cons.mp z with z |z
     ·exact absurd hlt (by rw[z];exact Nat.lt_irrefl _)
     ·rw[List.mem_singleton.mp z] at hlt
      exact absurd hlt (Nat.not_lt.mpr (Nat.le_succ _))
   ·cases r2 with
    |error e=>exact hr2
    |ok fl2=>
     cases fl2 with
     |ret r=>
      obtain⟨rfl,h',tk,rfl,hF,hk⟩:=hr2
      repeat (any_goals (first |assumption |wp_step))
      exact h _ _ hF hk
     |_=>exact hr2.elim
  |_=>exact hr.elim
end
end L2.ST

end

section
namespace L2
open PySem PyProof.Rows
section
variable {X:Cx}{K:PySem.W.Frag}{pins:List V}{σ:St}{H:Hp}{s:Shared}{E:XK}
def A5 (ns:List Int)(k:Int):Bool:=(firstMet (fun i=>ns.getD i 0) ns.length).any (· == k)
def kq (ns:List Int):Nat:=(firstMet (fun i=>ns.getD i 0) ns.length).length
def yB (K:PySem.W.Frag):List V->Hp->VK->Prop:=fun xs H Q=>∃a ns,xs= [.ref a]/\(fC K H a (ns.map V.int)\/dq K H a (ns.map V.int))/\ns.length<=1000/\∀S,H S=none->Q (.ref S) (upd H S (.set (A5 ns) (kq ns)))
theorem rE (hc:X.calm=true):bI X (.type "set") (yB X.K):=by
 intro pins s σ H xs us Q I r h
 obtain⟨a,ns,rfl,hq,hz,q⟩:=h
 obtain⟨u,rfl,rx⟩:=vals1 r
 cases rx
 have hh:=I.ok.hd hc
 have core:∀{its:List Value} {T:String} {itO:Obj} {St:Addr->Nat->Heap->Prop},Vals (ns.map V.int) its->L2.ST.Src X.prog X.w s.heap a its T itO St->wpAny (model X.prog X.w) X.A (call (.type "set") [.ref a]) (EP X pins σ Q) X.xe s:=fun {its T itO St} rv src=>by
  have hl:its.length=ns.length:=by rw[<-rv.length,List.length_map]
  refine L2.ST.kn src hh (intsAre_of rv) (by unfold scanBound;omega) fun h' tk F k=>?_
  rw[hl] at F
  exact⟨.ref _,_,I.laid (t':=tk) (o:=.set (A5 ns) (kq ns)) k (Nat.le_refl _) F,rfl,q _ (I.hok.fresh (Nat.le_refl _))⟩
 rcases hq with hq |hq
 ·obtain⟨its,rv,pl,hz⟩:=I.list hq
  exact core rv (L2.ST.Src.list pl.isList)
 ·obtain⟨its,rv,pl,hz⟩:=I.tuple hq
  exact core rv (L2.ST.Src.tuple pl)
theorem rZ:bI X (.builtin "len") (fun xs H Q=>∃S f n,xs= [.ref S]/\H S=some (.set f n)/\Q (.int n) H):=by
 intro pins s σ H xs us Q I r h
 obtain⟨S,f,n,rfl,hS,q⟩:=h
 obtain⟨u,rfl,rx⟩:=vals1 r
 cases rx
 obtain⟨o,es,ep,t,ho,hex,hd,_,_,hb,hf,e⟩:s.heap.SetOf (intKind X.prog X.w) S f n:=I.hok _ _ hS
 refine call_len_set ho hex hd hf (by unfold scanBound at hb;omega) ⟨.int n,H,I.tok _,⟨_,by rw[e]⟩,q⟩
def i7 (d:D):Option D:=match nO d with
 |some ds=>(match dM ds with
  |some ns=>if ns.length<=1000 then some (.int (kq ns)) else none
  |none=>none)
 |none=>none
theorem a9.intsB {G:Hp}:∀{ns:List Int} {xs:List V},a9 K G xs (ns.map PyData.int)->xs=ns.map V.int
 | [],_,.nil=>rfl
 |n :: ns,_,.cons r t=>by cases r;rw[a9.intsB t];rfl
variable {Γ:Fx}{e a b c:Expr}{f fa fb fc:VF D}{L La Lb:List Nat}{md ma mb mc:Md}{pos:Pos}
theorem sv {p1 p2 pos2:Pos}(hc:X.calm=true)(hK:X.K=Γ.K)(hg:Gl X "len")(hm:X.mg "len"=none)(hg2:Gl X "set")(hm2:X.mg "set"=none)(ha:SE X Γ E a fa La ma)
  (he:starEach [a] X.env=(false,eval a X.env) :: starEach [] X.env:=by rfl)
  (he2:starEach [.Call (.Name "set" p2) [a] [] pos2] X.env=(false,eval (.Call (.Name "set" p2) [a] [] pos2) X.env) :: starEach [] X.env:=by rfl) :
  SE X Γ E (.Call (.Name "len" p1) [.Call (.Name "set" p2) [a] [] pos2] [] pos) (f1 fa i7) La .v:=by
 refine PE.post' (aI rZ hg hm (by decide +kernel) (ag (fR (rE hc) hg2 hm2 (by decide +kernel) (ag ha ay he) (by decide) (by decide) he) ay he2) (by decide) (by decide) he2) fun σ H Q ⟨env,G,B,β,I,o⟩=>?_
 refine eh (r:=fun x H1 Q=>yB X.K [x] H1 fun y H2=>∃S f n,[y]= [V.ref S]/\H2 S=some (.set f n)/\Q (.int n) H2) ?_ I o
 intro B G H x dx d Q s hB bx e k
 rw[hK]
 unfold i7 at e
 cases q:nO dx with
 |none=>rw[q] at e;cases e
 |some ds=>
  rw[q] at e
  dsimp only at e
  cases q2:dM ds with
  |none=>rw[q2] at e;cases e
  |some ns=>
   rw[q2] at e
   dsimp only at e
   split at e
   ·rename_i hz
    cases e
    obtain⟨p,xs,rfl,hq,r⟩:=bx.seq q s
    rw[jH q2] at r
    have r:=r.intsB
    subst r
    exact⟨p,ns,rfl,hq,hz,fun S hS=>⟨S,_,_,rfl,ai,k _ _ _ (Ext.own s hS) (.int _)⟩⟩
   ·cases e
end
end L2

end

section

end

section

end

section
namespace L2
open PySem
section
variable {K:PySem.W.Frag}{h:Heap}{mg:Str->Option Value}
theorem Au {α:Type}{P:List α->Prop}(q:∀a,P [a]):∀us:List α,us.length=1->P us
 | [a],_=>q a
theorem ln2 {α:Type}{P:List α->Prop}(q:∀a b,P [a,b]):∀us:List α,us.length=2->P us
 | [a,b],_=>q a b
theorem Dw {α:Type}{P:List α->Prop}(q:∀a b c,P [a,b,c]):∀us:List α,us.length=3->P us
 | [a,b,c],_=>q a b c
def bo (x:Str)(st:Stmt)(ps:List Str):Prop:=∀(kV doc pm:Value) (an:Option Addr) (cdv ct:Value) (us:List Value),us.length=ps.length->bindArgs (PySem.W.fnOf x x (dz st) (aR st) (aj st) .none kV doc pm an cdv ct) ⟨us,[]⟩=pure (ps.zip us)
structure Fo (K:PySem.W.Frag)(mg:Str->Option Value)(x:Str)(st:Stmt)(ps:List Str):Prop where
 ex:∃f fd,kc K mg x st ps f fd
theorem cC {x:Str}{st:Stmt}{ps:List Str}{f:Addr}{oc:Value}{od an:Option Addr}{sl:Array (Option Value)}{kV doc pm cdv ct:Value}(X:K.In h)(G:h.Ns mainGlobals mg)(b:bo x st ps)(a:PySem.W.nsIn K mainGlobals x=some (some (.ref f)))
  (l:K.lookup f=some ⟨oc,od,.func (PySem.W.fnOf x x (dz st) (aR st) (aj st) .none kV doc pm an cdv ct),sl⟩) (c:PySem.W.codeIn K cdv x=true) (k:PySem.W.keepIn K (.ref f)=true):Fo K mg x st ps:=
 ⟨⟨f,_,PySem.W.mg_of X G a,pF l c k,(pF l c k).binds b⟩⟩
def Cg:List Str:=["len","range","enumerate","zip","min","max","sum","abs","sorted","reversed","int","str","bool","list","tuple","dict","set","isinstance","repr","any","all","divmod"]
def C1 (K:PySem.W.Frag):Bool:=Cg.all fun x=>match PySem.W.nsIn K mainGlobals x with
 |some none=>true
 |_=>false
theorem zp (q:C1 K=true){x:Str}(hx:x∈Cg):PySem.W.nsIn K mainGlobals x=some none:=by
 have:=List.all_eq_true.mp q x hx
 split at this
 ·assumption
 ·cases this
theorem AS (X:K.In h)(G:h.Ns mainGlobals mg)(q:C1 K=true):kx mg:=by
 have key:∀{x:Str},x∈Cg->mg x=none:=fun hx=>PySem.W.mg_none_of X G (zp q hx)
 constructor <;> exact key (by decide)
end
end L2

end

section

end

section

end

section

end

section

end

section

end

section
namespace HT
open PySem PySem.Spec PyProof.Rows
section
variable {prog:Program}{w:World}{A:Around}{E:Value->Shared->Prop}{s:Shared}
theorem gj {t sl:Addr}{items:Array Value}{vl vu:Value}{lo hi:Option Int}{Q:Value->Shared->Prop}(ht:IsTup s.heap t items)(hs:s.heap.IsSliceOf sl vl vu .none)(pl:IsPart vl lo)(pu:IsPart vu hi)
  (hw:bF items.size 0 lo=0/\bF items.size items.size hi=items.size) (h:Q (.ref t) s):wpAny (model prog w) A (getItem (.ref t) (.ref sl)) Q E s:=by
 obtain⟨os,hos,hcs,hds⟩:=id hs
 have hTs:s.TypeIs (.ref sl) "slice":=⟨os,hos,hcs⟩
 unfold getItem
 try with_reducible refine wpAny_holding ?_
 first |refine wpAny_bind (wpAny_pure ?_) |skip
 refine wpAny_bind (wpAny_sequenceKey ht.typeIs (by decide) ?_)
 refine wpAny_bind (wpAny_callSpecial?_slot (name:=Str.ofString "__getitem__") ht.typeIs PyProof.Rows.slot_tuple_getitem
  (wpAny_call_entry PyProof.Rows.slot_tuple_getitem ht.typeIs entry_tuple_getitem ?_ (args_tuple_getitem _ _)))
 show wpAny _ _ (Builtin.Tuple.tupleItemsOf (.ref t) >>= _) _ _ s
 refine wpAny_bind (tupleItemsOf_ ht ?_)
 refine wpAny_bind (wpAny_typeOf hTs ?_)
 rw[if_pos (by decide)]
 refine wpAny_bind (dI hs pl pu ?_)
 rw[hw.1,hw.2]
 show wpAny _ _ (if (((0:Nat):Int) == 0 && (1:Int) == 1 && (items.size - 0) == items.size)=true then _ else _) _ _ s
 rw[if_pos (by simp)]
 refine wpAny_bind ?_
 unfold Builtin.Tuple.tupleIsExact
 first
  |refine wpAny_bind (wpAny_typeOf ht.typeIs (wpAny_pure ?_))
  |refine wpAny_bind (wpAny_typeOf ht.typeIs ?_)
 first |rw[if_pos (by decide)] |skip
 first
  |exact wpAny_bind (wpAny_rule (wpAny_pure ⟨_,rfl,wpAny_pure h⟩))
  |exact wpAny_bind (wpAny_bind (wpAny_rule (wpAny_pure ⟨_,rfl,wpAny_pure h⟩)))
end
end HT
namespace L2
open PySem PySem.Spec PyProof.Rows
section
variable {X:Cx}{Γ:Fx}{E:XK}{e a b c:Expr}{f fa fb fc:VF D}{L La Lb:List Nat}{md ma mb mc:Md}{pos:Pos}
def Cu (K:PySem.W.Frag):V->Option Int->Option Int->Hp->VK->Prop:=fun x lo hi H Q=>∃a xs,x=.ref a/\dq K H a xs/\
 ((HT.bF xs.length 0 lo=0/\HT.bF xs.length xs.length hi=xs.length)->Q (.ref a) H)/\
 (¬(HT.bF xs.length 0 lo=0/\HT.bF xs.length xs.length hi=xs.length)->∀p,H p=none->Q (.ref p) (upd H p (.tup (ju xs lo hi))))
theorem wj:B7 X (Cu X.K):=by
 intro pins s σ H x v vl vu lo hi sl Q I rx hs pl pu h
 obtain⟨a,xs,rfl,hx,hw,q⟩:=h
 by_cases z:HT.bF xs.length 0 lo=0/\HT.bF xs.length xs.length hi=xs.length
 ·have hw:=hw z
  cases rx
  obtain⟨its,r,ht,hz⟩:=I.tuple hx
  have hlen:its.toArray.size=xs.length:=by rw[List.size_toArray];exact r.length.symm
  refine⟨"tuple",_,PyProof.Rows.slot_tuple_getitem.lookup,ht.typeIs,?_⟩
  exact HT.gj ht hs pl pu (by rw[hlen];exact z) ⟨.ref a,H,I,rfl,hw⟩
 ·exact yV pins s σ H (.ref a) v vl vu lo hi sl Q I rx hs pl pu ⟨a,xs,rfl,hx,z,q z⟩
def nS (fa:VF D)(fl fh:VF (Option Int)):VF D:=fun vs β=>(fa vs β).bnd fun x β1=>(fl vs β1).bnd fun l β2=>(fh vs β2).bnd fun h β3=>match x with
 | .tuple ds=>.ok (.tuple (cutD ds l h)) β3
 |_=>.bad
theorem oB {ds:List D}{lo hi:Option Int}(h:HT.bF ds.length 0 lo=0/\HT.bF ds.length ds.length hi=ds.length):cutD ds lo hi=ds:=by
 unfold cutD;rw[h.1,h.2];simp
theorem lg {lo hi:Option Expr}{fl fh:VF (Option Int)}{Ll Lh:List Nat}{p2:Pos}(hK:X.K=Γ.K)(ha:SE X Γ E a fa La ma)(hl:As X Γ E lo fl Ll)(hh:As X Γ E hi fh Lh):SE X Γ E (.Subscript a (.Slice lo hi none p2) pos) (nS fa fl fh) (La ++ Ll ++ Lh) .v:=by
 refine PE.post' (mO wj ha hl hh) ?_
 rintro σ H Q ⟨env,G,B,β,I,o⟩
 refine⟨env,G,B,β,I,o.bnd.imp fun d1 β1 h x G1 H1 I1 s1 m1 vx=>⟨aC La env,G1,B,β1,I1,?_⟩⟩
 rw[bw]
 refine h.bnd.imp fun l β2 h G2 H2 I2 s2 m2=>⟨aC Ll (aC La env),G2,B,β2,I2,?_⟩
 rw[bw,bw]
 refine h.bnd.imp fun u β3 h G3 H3 I3 s3 m3=>?_
 rw[<-aN,<-aN,<-List.append_assoc] at I3
 have bx:=((vx.brw I.boxThere).mono s2 m2).mono s3 m3
 cases d1 with
 |tuple ds=>
  obtain⟨p,xs,rfl,hq,r⟩:=bx.tuple I3.sub
  rw[hK]
  dsimp only at h
  refine⟨p,xs,rfl,hq,fun z=>?_,fun hw q hn=>?_⟩
  ·rw[r.len] at z
   rw[oB z] at h
   refine h _ _ _ I3 ((s1.trans s2).trans s3) ((m1.trans m2).trans m3) ?_
   rcases bx with bx | ⟨_,_,_,bx⟩
   ·exact bx
   ·exact bx.elim
  ·have x:=Ext.new I3.sub (o:=.tup (ju xs l u)) hn
   exact h _ _ _ (I3.ext x) (((s1.trans s2).trans s3).trans x.gg) (((m1.trans m2).trans m3).trans (x.mov B)) (.tup (.inl (.inl ai)) ((qt r l u).mono x.gg))
 |_=>exact h.elim
end
end L2

end

section
namespace L2
open PySem PyProof.Rows
section
variable {X:Cx}{Γ:Fx}{E:XK}{pos:Pos}
theorem xC:SE X Γ E (.Dict [] [] pos) (cst (.dict [])) [] .v:=by
 refine PE.post' uy ?_
 rintro σ H Q ⟨env,G,B,β,I,o⟩ p hp
 have o:∀v G' H',SR Γ B G' H' σ (aC [] env) β->ah G G'->dh B H H'->Rp Γ.K G' v (.dict [])->Q v H':=o
 have xn:=Ext.new I.sub (o:=.dK []) hp
 exact o _ _ _ (I.ext xn) xn.gg (xn.hh.mov B) (.dK (kvs:=[]) ai .nil)
end
end L2

end

section

end

section
namespace RM
open PySem L2
def fQ (cv:List D->FR):SF:=(aG (j8 ([] ++ ([] ++ [])) (nh (yf (vm (f1 (gv 0) (fk "tuple")))) (fw (f2 (f1 (gv 0) dP) (gv 1) (gQ true))))
 (cn (cst (.bool false)))
 mH)
 (cn (gH (f1 (ba 1 [1] (.nm 0) (dE (gv 0)) qh (aJ cv (ae (gv 0) (ae (gv 1) au)))) (eT fun bs=>bs.all id)) (f2 (f1 (gv 0) i7) (gv 1) (gQ false)))))
def gY:SF:=(aG (gr 1 (([] ++ []) ++ []) (f2 (bG (ae (cst (.int 0)) au)) (f1 (gv 0) dP) tm))
 (aG (e7 (.two 2 3) [] (tw (gv 0))
 (oq 1 [2] [] (gv 2) (gv 3)))
 (qW 1)))
def bX:SF:=(cn (f1 (ba 1 [1,2] (.nm 0) (dE (gv 0)) qh (f2 (f2 (gv 0) (gv 1) mI) (f2 (gv 0) (gv 2) mI) vW)) (eT fun bs=>bs.all id)))
def bZ (dN bA a8:List D->FR):SF:=(aG (df 2 ([] ++ []) (ba 1 [] (.nm 0) (dE (gv 1)) qh (aJ dN (ae (gv 0) au))))
 (cn (f1 (ba 2 [2] (.two 0 1) (dE (aJ bA (ae (gv 0) au))) (vm (aJ a8 (ae (gv 2) (ae (gv 0) (ae (gv 1) au))))) (dB (ae (gv 0) (ae (gv 1) au)))) dD)))
end RM

end

section

end

section

end

section

end

section

end

section

end

section

end

section
namespace RM
open PySem L2
def cy:SF:=(aG (gr 2 [] (bG au))
 (aG (e7 (.nm 3) [] (dO (gv 0))
 (e7 (.nm 4) [] (dO (gv 0))
 (aG (df 5 ([] ++ []) (ba 1 [3,4] (.nm 0) (dE (gv 1)) (fw (f2 (iC (gv 0) (gv 1)) (iC (gv 0) (gv 2)) Av)) (cst (.int 1))))
 (j8 (([] ++ []) ++ ([] ++ [])) (Ak (fw (f2 (gv 3) (gv 4) (gQ true))) (fw (f2 (gv 5) (bG au) (gQ false))))
 (lJ 2 ([3] ++ ([4] ++ [])) (dB (ae (gv 3) (ae (gv 4) au))))
 mH))))
 (cn (f1 (gv 2) dD))))
end RM

end

section
namespace L2
open PySem PySem.Spec PyProof.Rows
def xj:V->List V->Hp->VK->Prop:=fun x vs H Q=>∃l xs i y,x=.ref l/\vs= [.int i,y]/\H l=some (.lst xs)/\0<=i/\i < 2 ^ 62/\xs.length < sizeLine/\Q .non (upd H l (.lst (xs.take i.toNat ++ [y] ++ xs.drop i.toNat)))
section
variable {X:Cx}
theorem wC (its:List Value)(i:Int)(h0:0<=i)(u:Value):(fun xs:Array Value=>have k:=if i < 0 then (i + (xs.size:Int)).toNat else min i.toNat xs.size;(xs.extract 0 k).push u ++ xs.extract k) its.toArray=(its.take i.toNat ++ [u] ++ its.drop i.toNat).toArray:=by
 dsimp only
 rw[if_neg (by omega),List.size_toArray]
 apply Array.ext'
 simp only[Array.toList_append,Array.toList_push,Array.toList_extract]
 by_cases c:i.toNat<=its.length
 ·rw[Nat.min_eq_left c]
  simp[List.extract_eq_take_drop]
  exact List.take_of_length_le (by simp)
 ·rw[Nat.min_eq_right (by omega)]
  simp[List.extract_eq_take_drop,List.take_of_length_le (show its.length<=i.toNat by omega),List.drop_of_length_le (show its.length<=i.toNat by omega)]
theorem so:yx X "list.insert" xj:=by
 intro pins s σ H x vs v us Q I rx rv h
 obtain⟨l,xs,i,y,rfl,rfl,hH,h0,h1,hz,q⟩:=h
 cases rx
 obtain⟨u1,u2,rfl,ru1,ru2⟩:∃u1 u2,us= [u1,u2]/\RelV (.int i) u1/\RelV y u2:=by
  cases rv with
  |cons r1 r2=>cases r2 with
   |cons r2 r3=>cases r3;exact⟨_,_,rfl,r1,r2⟩
 obtain⟨t,rfl⟩:=ru1
 obtain⟨z,its,n,r,hl,e⟩:=I.lstM hH
 refine call_meets F.slot_list_insert ⟨_,e,rfl⟩ F.entry_list_insert (F.args_list_insert_3 _ _ _) (AutoSeq1.list_insert_list_int_val_1 l its.toArray n i t u2 (by simp[fitsIndex_both (show -(2 ^ 63)<=i by omega) (show i < 2 ^ 63 by omega)]) (by rw[List.size_toArray];omega)) ⟨e,?_⟩
 refine⟨.non,_,I.lset (its':=its.take i.toNat ++ [u2] ++ its.drop i.toNat) hH e (wC its i h0 u2) (((r.take _).append (.cons ru2 .nil)).append (r.drop _)) ?_,rfl,q⟩
 simp only[List.length_append,List.length_take,List.length_drop,List.length_singleton]
 omega
end
def sC (es:List D)(ka kb:D):Option (List D):=match iA es kb,ka with
 |some (d,es'),.int a=>if (0<=a/\a<=1000)/\es.length<=1000 then some (es'.take a.toNat ++ [d] ++ es'.drop a.toNat) else none
 |_,_=>none
def fN (i:Nat)(La Lb:List Nat)(fa fb:VF D):SF:=fun env β=>if ip env[i]? =true then toS (fa (vl env) β) fun ka β1=>if ip (aC La env)[i]? =true then toS (fb (vl env) β1) fun kb β2=>yj i (aC (La ++ Lb) env) β2 fun es=>sC es ka kb else .bad else .bad
section
variable {K:PySem.W.Frag}{X:Cx}{G H:Hp}{Γ:Fx}{E:XK}{e a b c:Expr}{f fa fb fc:VF D}{L La Lb:List Nat}{md ma mb mc:Md}{pos apos cpos np:Pos}
theorem rR (i:Nat){x:Str}{np2 apos2 cpos2:Pos}(hb:∀j,Γ.br j=false)(ha:SE X Γ E a fa La ma)(he:SE X Γ E e fb Lb mb)(hN:X.N[i]? =some x:=by rfl)(hv:oy X.env.scope x:=by first |exact Or.inl rfl |exact Or.inr (Or.inl rfl) |exact Or.inr (Or.inr rfl))(hd:(x == ("__debug__":Str))=false:=by decide)
  (hcd:(x == ("__classdict__":Str))=false:=by decide)
  (hbase:attributeBase (.Name x np) "insert" X.env (eval (.Name x np) X.env)=eval (.Name x np) X.env:=by rfl)
  (hfew:((backTo cpos (starEach [a,.Call (.Attribute (.Name x np2) "pop" apos2) [e] [] cpos2] X.env)).all (fun x=> !x.1) && (backToKw cpos (keywordEach [] X.env)).all (fun x=>x.1.isSome)
   && decide ([a,Expr.Call (.Attribute (.Name x np2) "pop" apos2) [e] [] cpos2].length + ([]:List Keyword).length + (if ([]:List Keyword).isEmpty then 0 else 1) < 30))=true:=by rfl)
  (hline:(apos.endLine == cpos.line)=true:=by rfl) (hs:starEach [a,.Call (.Attribute (.Name x np2) "pop" apos2) [e] [] cpos2] X.env=(false,eval a X.env) :: starEach [.Call (.Attribute (.Name x np2) "pop" apos2) [e] [] cpos2] X.env:=by rfl)
  (hs1:starEach [.Call (.Attribute (.Name x np2) "pop" apos2) [e] [] cpos2] X.env=(false,eval (.Call (.Attribute (.Name x np2) "pop" apos2) [e] [] cpos2) X.env) :: starEach [] X.env:=by rfl)
  (hbase2:attributeBase (.Name x np2) "pop" X.env (eval (.Name x np2) X.env)=eval (.Name x np2) X.env:=by rfl)
  (hfew2:((backTo cpos2 (starEach [e] X.env)).all (fun x=> !x.1) && (backToKw cpos2 (keywordEach [] X.env)).all (fun x=>x.1.isSome)
   && decide ([e].length + ([]:List Keyword).length + (if ([]:List Keyword).isEmpty then 0 else 1) < 30))=true:=by rfl)
  (hline2:(apos2.endLine == cpos2.line)=true:=by rfl) (hs2:starEach [e] X.env=(false,eval e X.env) :: starEach [] X.env:=by rfl)
  (hsw:swapsWith (.Call (.Attribute (.Name x np) "insert" apos) [a,.Call (.Attribute (.Name x np2) "pop" apos2) [e] [] cpos2] [] cpos) none pos.line X.env=pure false:=by rfl) :
  SS X Γ E (.Expr (.Call (.Attribute (.Name x np) "insert" apos) [a,.Call (.Attribute (.Name x np2) "pop" apos2) [e] [] cpos2] [] cpos) pos) (fN i La Lb fa fb):=by
 refine PS.post (l4 (jr PySem.F.plainAttrs_list PySem.F.slot_list_insert PySem.F.type_list_insert so (cH hN hv hd hcd)
  (ag ha (ag (jr PySem.F.plainAttrs_list PySem.F.slot_list_pop PySem.F.type_list_pop mL (cH hN hv hd hcd) (ag he ay hs2) hbase2 hfew2 hline2 hs2 rfl) ay hs1) hs) hbase hfew hline hs rfl) hsw) fun N σ H ⟨env,G,B,β,I,o⟩=>?_
 unfold fN at o
 by_cases hO:ip env[i]? =true
 case neg=>rw[if_neg hO] at o;exact o.elim
 rw[if_pos hO] at o
 obtain⟨ds0,q0⟩:=fZ hO
 obtain⟨p,h1,_,_,_,xs,h5,_⟩:=I.slot i _ q0
 refine⟨_,h1,.inl ⟨rfl,xs,.inl (.inl h5)⟩,?_⟩
 refine⟨env,G,B,β,I,aQ o fun ka β1 k v G' H' I' s' m' vo=>?_⟩
 by_cases hO2:ip (aC La env)[i]? =true
 case neg=>rw[if_neg hO2] at k;exact k.elim
 rw[if_pos hO2] at k
 obtain⟨es0,w0⟩:=fZ hO2
 obtain⟨q,k1,_,_,_,ys,k5,_⟩:=I'.slot i _ w0
 refine⟨_,k1,.inl ⟨rfl,ys,.inl (.inl k5)⟩,?_⟩
 refine⟨aC La env,G',B,β1,I',?_⟩
 rw[bw]
 refine aQ k fun kb β2 kk w G2 H2 J s2 m2 vo2=>?_
 rw[aN] at kk
 obtain⟨es,fs,ej,eg,kk⟩:=jg kk
 unfold sC at eg
 cases ep:iA es kb with
 |none=>rw[ep] at eg;cases ka <;> cases eg
 |some pr=>
     obtain⟨d,es'⟩:=pr
     rw[ep] at eg
     cases ka <;> first | (cases eg;done) |skip
     rename_i aa
     dsimp only at eg
     by_cases hr0:(0<=aa/\aa<=1000)/\es.length<=1000
     case neg=>rw[if_neg hr0] at eg;cases eg
     rw[if_pos hr0] at eg
     cases eg
     unfold iA at ep
     cases kb <;> first | (cases ep;done) |skip
     rename_i ii
     dsimp only at ep
     split at ep
     ·rename_i hr
      cases eI:seqIndex? ii es.length with
      |none=>rw[eI] at ep;cases ep
      |some n=>
       rw[eI] at ep
       dsimp only at ep
       cases eD:es[n]? with
       |none=>rw[eD] at ep;cases ep
       |some d0=>
        rw[eD] at ep
        cases ep
        obtain rfl:=(vo2.brw I'.boxThere).int
        obtain rfl:=(vo.brw I.boxThere).int
        obtain⟨q',g1,_,_,_,zs,g5,g6⟩:=J.slot i _ ej
        rw[k1] at g1;cases g1
        rw[h1] at k1;cases k1
        obtain⟨xv,ex,rx⟩:=g6.at eD
        refine⟨p,zs,ii,n,xv,rfl,rfl,g5,hr.1,hr.2,by rw[g6.len];exact eI,ex,?_⟩
        have I2:=J.write hb ej h1 (o:=.lst (zs.eraseIdx n)) (d':=.list (es.eraseIdx n)) fun H2 e2 s2=>⟨_,e2,g6.eraseIdx n⟩
        have hln:n < zs.length:=by rw[List.getElem?_eq_some_iff] at ex;exact ex.1
        have ein:((aC Lb (aC La env)).set i (.ow (.list (es.eraseIdx n))))[i]? =some (.ow (.list (es.eraseIdx n))):=by
         rw[List.getElem?_set_self]
         by_cases c:i < (aC Lb (aC La env)).length
         ·exact c
         ·rw[List.getElem?_eq_none (by omega)] at ej;cases ej
        obtain⟨p',f1,_,_,_,us,f5,f6⟩:=I2.slot i _ ein
        rw[h1] at f1;cases f1
        rw[ai] at f5
        cases f5
        have hz:(zs.eraseIdx n).length < sizeLine:=by
         have z2:=hr0.2
         rw[<-g6.len] at z2
         rw[List.length_eraseIdx_of_lt hln,sizeLine_eq];omega
        refine⟨p,_,aa,xv,rfl,rfl,ai,hr0.1.1,by have:=hr0.1.2;omega,hz,?_⟩
        have I3:=I2.write hb ein h1 (o:=.lst ((zs.eraseIdx n).take aa.toNat ++ [xv] ++ (zs.eraseIdx n).drop aa.toNat)) (d':=.list ((es.eraseIdx n).take aa.toNat ++ [d] ++ (es.eraseIdx n).drop aa.toNat)) fun H2 e2 s2=>⟨_,e2,((g6.eraseIdx n).take _ |>.append (.cons rx .nil)).append ((g6.eraseIdx n).drop _)⟩
        rw[List.set_set] at I3
        exact kk B G2 _ σ I3 (s'.trans s2)
     ·cases ep
end
end L2

end

section
namespace RM
open PySem L2
def bO (cP cQ a7:List D->FR):SF:=(aG (j8 ([0] ++ []) (yf (vm (aJ cP (ae (gv 0) au))))
 (fun env β=>toS ((ae (cst (.str "this is no number of things")) au) (vl env) β) fun ds _=>if ds.length<=sizeLine then .exc "NoMany" else .bad)
 mH)
 (aG (j8 ([] ++ ([] ++ [])) (nh (yf (vm (f1 (gv 1) (fk "list")))) (fw (f2 (f1 (gv 1) dP) (cst (.int 0)) (gQ false))))
 (fun env β=>toS ((ae (cst (.str "this is no list of one row or more")) au) (vl env) β) fun ds _=>if ds.length<=sizeLine then .exc "NoRows" else .bad)
 mH)
 (aG (j8 ([] ++ [0]) (yf (vm (f1 (ba 1 [0] (.nm 0) (dE (gv 1)) qh (aJ cQ (ae (gv 0) (ae (gv 1) au)))) (eT fun bs=>bs.all id))))
 (fun env β=>toS ((ae (cst (.str "not each of these is a row of all things")) au) (vl env) β) fun ds _=>if ds.length<=sizeLine then .exc "NoRows" else .bad)
 mH)
 (cn (dB (ae (gv 0) (ae (aJ a7 (ae (gv 0) (ae (gv 1) au))) au)))))))
def bc (marks:Str->Option Str)(cR:List D->FR):SF:=(pA marks (cn (aJ cR (ae (gv 0) (ae (gv 1) au)))))
def qH (cf aW bP:List D->FR)(aw aM:List D->Int->FB):SF:=(aG (e7 (.nm 1) ([] ++ ([] ++ [])) (dO (f2 (cst (.int 1)) (f2 (f1 (gv 0) dP) (cst (.int 5)) (qU fun i j=>.int (if j < i then j else i))) (qU fun i j=>.int (if j > i then j else i))))
 (aG (qp 2 ([0] ++ ([1] ++ [])) (mV cf (ae (gv 0) (ae (gv 1) au))))
 (aG (df 3 ([] ++ ([] ++ [])) (f2 (cst (.int 1)) (kA 2 aw (ae (cst (.int 8)) au)) cJ))
 (aG (gr 4 (([] ++ []) ++ []) (bG (ae (f1 (kA 2 aM (ae (f1 (gv 3) cS) au)) dD) au)))
 (aG (e7 (.nm 5) ([] ++ []) (dO (kA 2 aw (ae (cst (.int 4)) au)))
 (aG (qb 6 7 ([3] ++ []) ([3] ++ []) (kA 2 aw (ae (gv 3) au)) (kA 2 aw (ae (gv 3) au)))
 (aG (gr 8 ([] ++ []) (f1 (f2 (gv 4) (f1 (cst (.int 1)) zu) mI) nI))
 (aG (fN 8 [] [] (gv 7) (gv 6))
 (lJ 4 (([] ++ (([] ++ []) ++ [])) ++ ([] ++ [])) (f2 (bG (ae (f1 (gv 8) dD) (ae (f1 (kA 2 aM (ae (f1 (gv 3) cS) au)) dD) au))) (kA 2 aw (ae (cst (.int 2)) au)) mI))))))
 (aG (df 9 [] (f1 (gv 4) nI))
 (aG (j8 ((([3] ++ ([9] ++ [])) ++ ([3] ++ (([3] ++ ([4] ++ [])) ++ []))) ++ ([] ++ [])) (nh (fw (f2 (f1 (aJ aW (ae (gv 3) (ae (gv 9) au))) kC) (f1 (dB (ae (gv 3) (ae (aJ bP (ae (gv 3) (ae (gv 4) au))) au))) kC) (zl true))) (fw (f2 (gv 9) (gv 4) (gQ true))))
 (cn (cst (.bool false)))
 mH)
 (aG (df 6 (([] ++ []) ++ []) (kA 2 aw (ae (f2 (f1 (gv 4) dP) (cst (.int 1)) cJ) au)))
 (aG (df 10 ([] ++ []) (f2 (gv 4) (cst (.int 0)) mI))
 (aG (df 11 (([] ++ ((([] ++ []) ++ []) ++ (([] ++ ([] ++ [])) ++ (([] ++ ([3] ++ [])) ++ ([] ++ (([10] ++ []) ++ (((([] ++ []) ++ []) ++ ([3] ++ [])) ++ ([] ++ [])))))))) ++ ([] ++ [])) (f2 (bG (ae (f1 (gv 10) nI) (ae (nS (gv 10) (qx (cst (.int 1))) (fun _ β=>.ok none β)) (ae (f2 (gv 10) (dB (ae (cst (.int 0)) au)) jQ) (ae (f2 (gv 10) (dB (ae (gv 3) au)) jQ) (ae (cst .none) (ae (dB (ae (gv 10) au)) (ae (f2 (nS (gv 10) (fun _ β=>.ok none β) (qx (f1 (cst (.int 1)) zu))) (dB (ae (gv 3) au)) jQ) (ae (cst (.str "0")) au))))))))) (kA 2 aw (ae (cst (.int 8)) au)) mI))
 (aG (e7 (.nm 12) ((((([] ++ []) ++ []) ++ ([11] ++ [])) ++ (([] ++ []) ++ [])) ++ ([] ++ ([] ++ ([] ++ ([10] ++ ([] ++ [])))))) (dE (bG (ae (f2 (f2 (yQ (gv 4) (fun _ β=>.ok none β) (qx (gv 6))) (bG (ae (gv 11) au)) sI) (yQ (gv 4) (qx (gv 6)) (fun _ β=>.ok none β)) sI) (ae (bG au) (ae (f1 (gv 4) dD) (ae (cst .none) (ae (gv 10) (ae (cst (.dict [])) au))))))))
 (j8 (([3] ++ ([12] ++ [])) ++ []) (fw (f2 (aJ aW (ae (gv 3) (ae (gv 12) au))) (cst (.str "rows")) (gQ true)))
 (cn (cst (.bool false)))
 mH))
 (aG (df 13 (([] ++ ([] ++ ([] ++ ([] ++ ([] ++ ([] ++ (([] ++ []) ++ ([] ++ [])))))))) ++ ([] ++ [])) (f2 (bG (ae (cst (.int 0)) (ae (cst (.int 9)) (ae (cst (.int (-1))) (ae (cst (.bool true)) (ae (cst .none) (ae (cst (.str "3")) (ae (dB (ae (cst (.int 3)) au)) (ae (f2 (cst (.int 10)) (cst (.int 39)) uf) au))))))))) (kA 2 aw (ae (cst (.int 8)) au)) mI))
 (j8 ((([13] ++ ([4] ++ [])) ++ []) ++ (([13] ++ ([] ++ [])) ++ [])) (nh (fw (f2 (aJ aW (ae (gv 13) (ae (gv 4) au))) (cst (.str "many")) (gQ true))) (fw (f2 (aJ aW (ae (gv 13) (ae (cst .none) au))) (cst (.str "many")) (gQ true))))
 (cn (cst (.bool false)))
 mH)))))))))))))
 (cn (cst (.bool true))))
end RM

end

section
namespace RQ
open PySem L2 RM
def top (i:Nat):Stmt:=PySem.Challenge.pw_rowsorder_k11_told_by_rows.main.body.getD i (.Pass ⟨0,0,0,0⟩)
section
variable {P:Program}{w:World}{K:PySem.W.Frag}{mg:Str->Option Value}{base:Heap}{ca:Str->Addr}
abbrev eG:Stmt:=top 2
theorem oh:aF ["thing"] ["thing"] (aj eG):=⟨rfl,rfl,rfl,by decide +kernel,rfl,by decide +kernel,by decide +kernel⟩
theorem l6 {f:Addr}{fd:FuncData}(F:kc K mg "is_whole" eG ["thing"] f fd)(B:kx mg):fV P w K mg base ca "is_whole" ["thing"] 1 (bu 1 1 (jo)):=
 ⟨⟨f,fd,F.mg,F.F.kp,F.b,bg (N:=["thing"]) (k:=0) F.F oh fun cdv A outer s H G E hr=>
  (@aA _ _ _ _ _ (bz (mn (lW "int" (by decide) rfl rfl B.isinstance rfl B.int (by decide +kernel) (ak 0)) (mC (Am (lW "bool" (by decide) rfl rfl B.isinstance rfl B.bool (by decide +kernel) (ak 0)))) (fun _ _=>rfl))))⟩,fun ds h=>aY ds h⟩
abbrev eS:Stmt:=top 3
theorem nX:aF ["thing","bound"] ["thing","bound"] (aj eS):=⟨rfl,rfl,rfl,by decide +kernel,rfl,by decide +kernel,by decide +kernel⟩
theorem ml {f:Addr}{fd:FuncData}{aP:List D->FR}(F:kc K mg "is_below" eS ["thing","bound"] f fd)(B:kx mg)(cu:fV P w K mg base ca "is_whole" ["thing"] 1 aP):fV P w K mg base ca "is_below" ["thing","bound"] 2 (bu 2 2 (jI aP)):=
 ⟨⟨f,fd,F.mg,F.F.kp,F.b,bg (N:=["thing","bound"]) (k:=1) F.F nX fun cdv A outer s H G E hr=>
  (@aA _ _ _ _ _ (bz (mn (aU cu (hr.mono (by decide)) bq rfl rfl (af (aB 0 rfl) ao)) (mC (nN vR uF zY Ao ax (ak 0) (ak 1))) (fun _ _=>rfl))))⟩,fun ds h=>aY ds h⟩
abbrev fP:Stmt:=top 4
theorem pO:aF ["thing"] ["thing"] (aj fP):=⟨rfl,rfl,rfl,by decide +kernel,rfl,by decide +kernel,by decide +kernel⟩
theorem mY {f:Addr}{fd:FuncData}{aP:List D->FR}(F:kc K mg "is_many" fP ["thing"] f fd)(B:kx mg)(cu:fV P w K mg base ca "is_whole" ["thing"] 1 aP){km:Tok}(dG:mg "MOST_THINGS"=some (.int 8 km)):fV P w K mg base ca "is_many" ["thing"] 2 (bu 1 1 (kR aP)):=
 ⟨⟨f,fd,F.mg,F.F.kp,F.b,bg (N:=["thing"]) (k:=1) F.F pO fun cdv A outer s H G E hr=>
  (@aA _ _ _ _ _ (bz (mn (aU cu (hr.mono (by decide)) bq rfl rfl (af (aB 0 rfl) ao)) (mC (nN vR vR zY zY ax (ak 0) (wV (by rfl) dG))) (fun _ _=>rfl))))⟩,fun ds h=>aY ds h⟩
abbrev fM:Stmt:=top 5
theorem pw:aF ["thing","many"] ["thing","many"] (aj fM):=⟨rfl,rfl,rfl,by decide +kernel,rfl,by decide +kernel,by decide +kernel⟩
theorem nE {f:Addr}{fd:FuncData}{cv:List D->FR}(F:kc K mg "is_line" fM ["thing","many"] f fd)(B:kx mg)(gN:fV P w K mg base ca "is_below" ["thing","bound"] 2 cv):fV P w K mg base ca "is_line" ["thing","many"] 3 (bu 2 2 (fQ cv)):=
 ⟨⟨f,fd,F.mg,F.F.kp,F.b,bg (N:=["thing","many"]) (k:=2) F.F pw fun cdv A outer s H G E hr=>
  (@av _ _ _ _ _ _ _ (gp (rn.t (qv (lI (jV rfl (lW "tuple" (by decide) rfl rfl B.isinstance rfl B.tuple (by decide +kernel) (ak 0)))) (lA (cj (gM hr.units) jW (aZ cX jC rfl B.len PySem.boot_len (ak 0)) (ak 1) (bD _))) (fun _ _=>rfl)))
  (@aA _ _ _ _ _ (bz lr))
  dH)
  (@aA _ _ _ _ _ (bz (mn (aZ (jD rfl) lC rfl B.all (by decide +kernel) (gf (NB:=["one","many"]) (own:=1) (ixs:=[1]) [1] rfl (gB (by kernel_rfl)) (fun _ _=>rfl) (rO rfl (ak 0)) (fun H0 G0 par br bx C ex s3 H3 pn=>(ff (i:=0) (show (["one","many"]:List Str).Nodup by decide +kernel))) (fun H0 G0 par br bx C ex s3 H3 pn hB1=>gZ) (fun H0 G0 par br bx C ex s3 H3 pn hB1=>(aU gN (hr.mono (by decide)) qL rfl rfl (af (aB 0 (hB1 0 (by decide))) (af (aB 1 (hB1 1 (by decide))) ao)))))) (mC (ua (lU hr.units) jW (sv rfl rfl rfl B.len rfl B.set (ak 0)) (ak 1) (bD _))) (fun _ _=>rfl)))))⟩,fun ds h=>aY ds h⟩
abbrev cN:Stmt:=top 6
theorem kB:aF ["many"] ["many"] (aj cN):=⟨rfl,rfl,rfl,by decide +kernel,rfl,by decide +kernel,by decide +kernel⟩
theorem js {f:Addr}{fd:FuncData}(F:kc K mg "every_pair" cN ["many"] f fd)(B:kx mg):fV P w K mg base ca "every_pair" ["many"] 1 (bu 1 1 (cO)):=
 ⟨⟨f,fd,F.mg,F.F.kp,F.b,bg (N:=["many"]) (k:=0) F.F kB fun cdv A outer s H G E hr=>
  (@aA _ _ _ _ _ (mf (gf (NB:=["number","many"]) (own:=1) (ixs:=[0]) [] rfl (gB (by kernel_rfl)) (fun _ _=>rfl) (kX rfl B.range (aS gK gV (ak 0) (ak 0))) (fun H0 G0 par br bx C ex s3 H3 pn=>(ff (i:=0) (show (["number","many"]:List Str).Nodup by decide +kernel))) (fun H0 G0 par br bx C ex s3 H3 pn hB1=>gZ) (fun H0 G0 par br bx C ex s3 H3 pn hB1=>(dC (af (aS ja x9 (ak 0) (ak 1)) (af (aS iI kH (ak 0) (ak 1)) ao)))))))⟩,fun ds h=>aY ds h⟩
abbrev ik:Stmt:=top 22
theorem iK:aF ["row","found","place","thing"] ["row"] (aj ik):=⟨rfl,rfl,rfl,by decide +kernel,rfl,by decide +kernel,by decide +kernel⟩
theorem pB {f:Addr}{fd:FuncData}(F:kc K mg "places" ik ["row"] f fd)(B:kx mg):fV P w K mg base ca "places" ["row"] 1 (bu 4 1 (gY)):=
 ⟨⟨f,fd,F.mg,F.F.kp,F.b,bg (N:=["row","found","place","thing"]) (k:=0) F.F iK fun cdv A outer s H G E hr=>
  (@av _ _ _ _ _ _ _ (fY (i:=1) (yR (bE (af ax ao)) (aZ cX jC rfl B.len PySem.boot_len (ak 0))) iK.nd)
  (@av _ _ _ _ _ _ _ (gO PassesOwn.leaving rfl (vg rfl rfl B.enumerate (ak 0)) (vS (i:=2) (j:=3) iK.nd)
  (@aA _ _ _ _ _ (wN 1 (fun _=>rfl) (aB 2 rfl) (ak 3))))
  (@aA _ _ _ _ _ (qy 1))))⟩,fun ds h=>aY ds h⟩
abbrev bV:Stmt:=top 25
theorem i0:aF ["tables","a","b"] ["tables","a","b"] (aj bV):=⟨rfl,rfl,rfl,by decide +kernel,rfl,by decide +kernel,by decide +kernel⟩
theorem iu {f:Addr}{fd:FuncData}(F:kc K mg "stands_ahead" bV ["tables","a","b"] f fd)(B:kx mg):fV P w K mg base ca "stands_ahead" ["tables","a","b"] 1 (bu 3 3 (bX)):=
 ⟨⟨f,fd,F.mg,F.F.kp,F.b,bg (N:=["tables","a","b"]) (k:=0) F.F i0 fun cdv A outer s H G E hr=>
  (@aA _ _ _ _ _ (bz (aZ (jD rfl) lC rfl B.all (by decide +kernel) (gf (NB:=["place","a","b"]) (own:=1) (ixs:=[1,2]) [] rfl (gB (by kernel_rfl)) (fun _ _=>rfl) (rO rfl (ak 0)) (fun H0 G0 par br bx C ex s3 H3 pn=>(ff (i:=0) (show (["place","a","b"]:List Str).Nodup by decide +kernel))) (fun H0 G0 par br bx C ex s3 H3 pn hB1=>gZ) (fun H0 G0 par br bx C ex s3 H3 pn hB1=>(ua uF Ao (iq eO lV (ak 0) (ak 1) (fun _ _=>rfl)) (iq eO lV (ak 0) (ak 2) (fun _ _=>rfl)) (bD _)))))))⟩,fun ds h=>aY ds h⟩
abbrev b9:Stmt:=top 24
theorem e5:aF ["many","rows","tables"] ["many","rows"] (aj b9):=⟨rfl,rfl,rfl,by decide +kernel,rfl,by decide +kernel,by decide +kernel⟩
theorem iB {f:Addr}{fd:FuncData}{dN bA a8:List D->FR}(F:kc K mg "shared_pairs" b9 ["many","rows"] f fd)(B:kx mg)(jP:fV P w K mg base ca "places" ["row"] 1 dN)(dZ:fV P w K mg base ca "every_pair" ["many"] 1 bA)(cU:fV P w K mg base ca "stands_ahead" ["tables","a","b"] 1 a8):fV P w K mg base ca "shared_pairs" ["many","rows"] 2 (bu 3 2 (bZ dN bA a8)):=
 ⟨⟨f,fd,F.mg,F.F.kp,F.b,bg (N:=["many","rows","tables"]) (k:=1) F.F e5 fun cdv A outer s H G E hr=>
  (@av _ _ _ _ _ _ _ (cw (i:=2) (@SE.wv _ _ _ _ _ _ (gf (NB:=["row"]) (own:=1) (ixs:=[]) [] rfl (gB (by kernel_rfl)) (fun _ _=>rfl) (rO rfl (ak 1)) (fun H0 G0 par br bx C ex s3 H3 pn=>(ff (i:=0) (show (["row"]:List Str).Nodup by decide +kernel))) (fun H0 G0 par br bx C ex s3 H3 pn hB1=>gZ) (fun H0 G0 par br bx C ex s3 H3 pn hB1=>(aU jP (hr.mono (by decide)) qL rfl rfl (af (aB 0 (hB1 0 (by decide))) ao))))) e5.nd)
  (@aA _ _ _ _ _ (bz (bH bj fO rfl B.tuple (by decide +kernel) (gf (NB:=["a","b","tables"]) (own:=2) (ixs:=[2]) [2] rfl (gB (by kernel_rfl)) (fun _ _=>rfl) (rO rfl (aU dZ (hr.mono (by decide)) bq rfl rfl (af (aB 0 rfl) ao))) (fun H0 G0 par br bx C ex s3 H3 pn=>(vS (i:=0) (j:=1) (show (["a","b","tables"]:List Str).Nodup by decide +kernel))) (fun H0 G0 par br bx C ex s3 H3 pn hB2=>(pZ (jV rfl (aU cU (hr.mono (by decide)) qL rfl rfl (af (aB 2 (hB2 2 (by decide))) (af (aB 0 (hB2 0 (by decide))) (af (aB 1 (hB2 1 (by decide))) ao))))))) (fun H0 G0 par br bx C ex s3 H3 pn hB2=>(dC (af (aB 0 (hB2 0 (by decide))) (af (aB 1 (hB2 1 (by decide))) ao)))))))))⟩,fun ds h=>aY ds h⟩
abbrev fW:Stmt:=top 23
theorem pW:aF ["many","rows"] ["many","rows"] (aj fW):=⟨rfl,rfl,rfl,by decide +kernel,rfl,by decide +kernel,by decide +kernel⟩
theorem om {f:Addr}{fd:FuncData}{cP cQ a7:List D->FR}(F:kc K mg "told_by" fW ["many","rows"] f fd)(B:kx mg)(iL:fV P w K mg base ca "is_many" ["thing"] 2 cP)(iw:fV P w K mg base ca "is_line" ["thing","many"] 3 cQ)(cT:fV P w K mg base ca "shared_pairs" ["many","rows"] 2 a7)(fy:Exc K mg ca "NoMany")(cF:Exc K mg ca "NoRows"):fV P w K mg base ca "told_by" ["many","rows"] 4 (bu 2 2 (bO cP cQ a7)):=
 ⟨⟨f,fd,F.mg,F.F.kp,F.b,bg (N:=["many","rows"]) (k:=3) F.F pW fun cdv A outer s H G E hr=>
  (@av _ _ _ _ _ _ _ (gp (lI (jV rfl (aU iL (hr.mono (by decide)) bq rfl rfl (af (aB 0 rfl) ao))))
  (@aA _ _ _ _ _ (jU fy.ex fy.ca rfl fy.mg (af fI ao)))
  dH)
  (@av _ _ _ _ _ _ _ (gp (rn.t (qv (lI (jV rfl (lW "list" (by decide) rfl rfl B.isinstance rfl B.list (by decide +kernel) (ak 1)))) (lA (cj (lU hr.units) jW (aZ cX jC rfl B.len PySem.boot_len (ak 1)) ax (bD _))) (fun _ _=>rfl)))
  (@aA _ _ _ _ _ (jU cF.ex cF.ca rfl cF.mg (af fI ao)))
  dH)
  (@av _ _ _ _ _ _ _ (gp (lI (jV rfl (aZ (jD rfl) lC rfl B.all (by decide +kernel) (gf (NB:=["row","many"]) (own:=1) (ixs:=[0]) [0] rfl (gB (by kernel_rfl)) (fun _ _=>rfl) (rO rfl (ak 1)) (fun H0 G0 par br bx C ex s3 H3 pn=>(ff (i:=0) (show (["row","many"]:List Str).Nodup by decide +kernel))) (fun H0 G0 par br bx C ex s3 H3 pn hB1=>gZ) (fun H0 G0 par br bx C ex s3 H3 pn hB1=>(aU iw (hr.mono (by decide)) qL rfl rfl (af (aB 0 (hB1 0 (by decide))) (af (aB 1 (hB1 1 (by decide))) ao))))))))
  (@aA _ _ _ _ _ (jU cF.ex cF.ca rfl cF.mg (af fI ao)))
  dH)
  (@aA _ _ _ _ _ (bz (dC (af (aB 0 rfl) (af (aU cT (hr.mono (by decide)) bq rfl rfl (af (aB 0 rfl) (af (aB 1 rfl) ao))) ao))))))))⟩,fun ds h=>aY ds h⟩
abbrev dw:Stmt:=top 27
theorem my:aF ["script","k"] ["script","k"] (aj dw):=⟨rfl,rfl,rfl,by decide +kernel,rfl,by decide +kernel,by decide +kernel⟩
theorem kh {f:Addr}{fd:FuncData}(F:kc K mg "_law_cell" dw ["script","k"] f fd)(B:kx mg):fV P w K mg base ca "_law_cell" ["script","k"] 1 (bu 2 2 (cB)):=
 ⟨⟨f,fd,F.mg,F.F.kp,F.b,bg (N:=["script","k"]) (k:=0) F.F my fun cdv A outer s H G E hr=>
  (@av _ _ _ _ _ _ _ (gp (cj uF Ao (ak 1) (aZ cX jC rfl B.len PySem.boot_len (ak 0)) (bD _))
  (@aA _ _ _ _ _ (bz (iq eO lV (ak 0) (ak 1) (fun _ _=>rfl))))
  dH)
  (@aA _ _ _ _ _ (bz ax)))⟩,fun ds h=>aY ds h⟩
abbrev cx:Stmt:=top 28
theorem dr:aF ["cell","k","some","stir"] ["cell","k"] (aj cx):=⟨rfl,rfl,rfl,by decide +kernel,rfl,by decide +kernel,by decide +kernel⟩
theorem lM:∃(es:List Expr) (p1 p2 p3:Pos),aR cx=.Assign [.Name "some" p1] (.List es p2) p3 :: (aR cx).drop 1/\constsOf es=some [48271,69621,16807,39373,30269,40014,40692,50021,61687,71993,83869,95561,30307]:=⟨_,_,_,_,rfl,by kernel_rfl⟩
theorem lL {f:Addr}{fd:FuncData}(F:kc K mg "_law_mix" cx ["cell","k"] f fd)(B:kx mg):fV P w K mg base ca "_law_mix" ["cell","k"] 1 (bu 4 2 (eH)):=by
 obtain⟨es,p1,p2,p3,hb,hes⟩:=lM
 refine⟨⟨f,fd,F.mg,F.F.kp,F.b,bg (N:=["cell","k","some","stir"]) (k:=0) F.F dr fun cdv A outer s H G E hr=>?_⟩,fun ds h=>aY ds h⟩
 rw[hb]
 exact (av (cw (i:=2) (SE.wv (bE (kM hes))) dr.nd) (@av _ _ _ _ _ _ _ (cw (i:=3) (aS gW gR (aS gW gR (aS gK gV (aS gW gR (aS iI kH (ak 0) ax) ax) (iq eO lV (ak 2) (aS iI kH (ak 1) ax) (fun _ _=>rfl))) (aS gK gV ax (ak 1))) (aS gK gV ax (aS ja x9 (ak 1) ax))) dr.nd)
  (@av _ _ _ _ _ _ _ (cw (i:=3) (aS iI kH (ak 3) ax) dr.nd)
  (@aA _ _ _ _ _ (bz (aS ja x9 (aS iI kH (aS gW gR (aS gK gV (ak 3) (ak 3)) (aS gK gV ax (ak 1))) ax) ax))))))
abbrev ey:Stmt:=top 29
theorem cD:aF ["script","k","cell","number","j"] ["script","k"] (aj ey):=⟨rfl,rfl,rfl,by decide +kernel,rfl,by decide +kernel,by decide +kernel⟩
theorem lF {f:Addr}{fd:FuncData}{bQ cm:List D->FR}(F:kc K mg "_law_box" ey ["script","k"] f fd)(B:kx mg)(fL:fV P w K mg base ca "_law_cell" ["script","k"] 1 bQ)(gP:fV P w K mg base ca "_law_mix" ["cell","k"] 1 cm):fV P w K mg base ca "_law_box" ["script","k"] 2 (bu 5 2 (dY bQ cm)):=
 ⟨⟨f,fd,F.mg,F.F.kp,F.b,bg (N:=["script","k","cell","number","j"]) (k:=1) F.F cD fun cdv A outer s H G E hr=>
  (@av _ _ _ _ _ _ _ (cw (i:=2) (aU fL (hr.mono (by decide)) bq rfl rfl (af (aB 0 rfl) (af (aB 1 rfl) ao))) cD.nd)
  (@av _ _ _ _ _ _ _ (gp (cj (lU hr.units) jW (aS iI kH (ak 2) ax) ax (bD _))
  (@aA _ _ _ _ _ (mf (bE (af (aS ja x9 (aZ tj BG rfl B.abs (by decide +kernel) (ak 2)) ax) ao))))
  dH)
  (@av _ _ _ _ _ _ _ (cw (i:=3) ax cD.nd)
  (@av _ _ _ _ _ _ _ (gO PassesOwn.leaving rfl (kX rfl B.range ax) (ff (i:=4) cD.nd)
  (@aA _ _ _ _ _ (cw (i:=3) (aS gW gR (aS gK gV (ak 3) ax) (aU gP (hr.mono (by decide)) bq rfl rfl (af (aB 2 rfl) (af (aB 4 rfl) ao)))) cD.nd)))
  (@aA _ _ _ _ _ (mf (bE (af (aB 3 rfl) ao))))))))⟩,fun ds h=>aY ds h⟩
abbrev dv:Stmt:=top 30
theorem il:aF ["box","many","left","digit"] ["box","many"] (aj dv):=⟨rfl,rfl,rfl,by decide +kernel,rfl,by decide +kernel,by decide +kernel⟩
theorem kl {f:Addr}{fd:FuncData}(F:kc K mg "_law_take" dv ["box","many"] f fd)(B:kx mg):rm P w K mg base "_law_take" ["box","many"] 1 eZ:=by
 refine⟨⟨f,fd,F.mg,F.F.kp,F.b,?_⟩,fun ds β h=>?_⟩
 ·refine F.F.yb il (fun vs H Q E h=>?_) (fun cdv A outer s H vs Q E hr h=>?_)
  ·obtain⟨b,rest,G,ds,β,rfl,hb,gb,sG,hl,r,_⟩:=h
   rw[List.length_cons,r.len,hl];rfl
  ·obtain⟨b,rest,G,ds,β,rfl,hb,gb,sG,hl,r,h⟩:=h
   obtain⟨m,rfl,h0,h1⟩:=qQ (fun z=>by rw[z] at h;exact h)
   rw[lY h0 h1] at h
   have kk:∀v G' H',dh (some b) H H'->H' b=some (.lst [.int (β / m)])->ah G G'->ah G' H'->(∀c,Mx H c->G c=none->G' c=none)->FV K H G' H' false (.int (β % m)) v->Q v H':=h
   cases r with
   |cons r1 r2=>
    cases r1
    cases r2
    refine⟨_,bY (oN (aI nt rfl B.divmod (by decide +kernel) (ag (uZ mF (pv 0) jq (fun _ _=>rfl)) (ag (pv 1) ay))) (wD (i:=2) (j:=3) il.nd rfl rfl rfl rfl rfl))
     (bY (oN (pv 2) (uC (pv 0) jq set_list)) (fX (fA (pv 3)))),?_⟩
    refine⟨_,rfl,b,_,0,.int β,rfl,rfl,.inl (.inl hb),rfl,_,rfl,β,m,rfl,⟨h0,h1⟩,fun p hp=>⟨p,_,rfl,.inl (.inl ai),rfl,_,_,rfl,_,_,rfl,rfl,?_⟩⟩
    have hbp:b≠p:=aE hb hp
    exact⟨_,rfl,_,rfl,b,[.int β],0,0,rfl,rfl,by rw[aq hbp];exact hb,rfl,_,rfl,u7 hb sG hp kk gb⟩
 ·obtain⟨m,rfl,_⟩:=qQ h
  rfl
abbrev bM:Stmt:=top 31
theorem cc:aF ["box","some","left","found"] ["box","some"] (aj bM):=⟨rfl,rfl,rfl,by decide +kernel,rfl,by decide +kernel,by decide +kernel⟩
theorem hU {f:Addr}{fd:FuncData}{aw:List D->Int->FB}(F:kc K mg "_law_mixed_up" bM ["box","some"] f fd)(B:kx mg)(aH:rm P w K mg base "_law_take" ["box","many"] 1 aw):rm P w K mg base "_law_mixed_up" ["box","some"] 2 (se 4 1 (bK aw)):=
 ⟨⟨f,fd,F.mg,F.F.kp,F.b,ui (ca:=fun _=>0) (N:=["box","some","left","found"]) (k:=1) F.F cc (by decide) fun cdv A outer s H G b E hr=>
  (@av _ _ _ _ _ _ _ (fY (i:=2) (bH cM lX rfl B.list (by decide +kernel) (ak 1)) cc.nd)
  (@av _ _ _ _ _ _ _ (fY (i:=3) (bE ao) cc.nd)
  (@av _ _ _ _ _ _ _ (uo 1000 PassesOwn.leaving (cj (gM hr.units) jW (ak 2) (bE ao) (bD _))
  (@aA _ _ _ _ _ (sh 3 2 (fun _=>rfl) (fB 0 aH (hr.mono (by decide)) bq rfl rfl (af (aZ cX jC rfl B.len PySem.boot_len (ak 2)) ao)))))
  (@aA _ _ _ _ _ (qy 3)))))⟩,fun ds β h=>tY ds β h⟩
abbrev dn:Stmt:=top 32
theorem bW:aF ["many","rows","found","a","b","left"] ["many","rows"] (aj dn):=⟨rfl,rfl,rfl,by decide +kernel,rfl,by decide +kernel,by decide +kernel⟩
theorem kz {f:Addr}{fd:FuncData}(F:kc K mg "_law_told" dn ["many","rows"] f fd)(B:kx mg):fV P w K mg base ca "_law_told" ["many","rows"] 1 (bu 6 2 (cy)):=
 ⟨⟨f,fd,F.mg,F.F.kp,F.b,bg (N:=["many","rows","found","a","b","left"]) (k:=0) F.F bW fun cdv A outer s H G E hr=>
  (@av _ _ _ _ _ _ _ (fY (i:=2) (bE ao) bW.nd)
  (@av _ _ _ _ _ _ _ (gO PassesOwn.leaving rfl (kX rfl B.range (ak 0)) (ff (i:=3) bW.nd)
  (@aA _ _ _ _ _ (gO PassesOwn.leaving rfl (kX rfl B.range (ak 0)) (ff (i:=4) bW.nd)
  (@av _ _ _ _ _ _ _ (xm (i:=5) (NB:=["one","a","b"]) (own:=1) (ixs:=[3,4]) [] rfl (gB (by kernel_rfl)) (fun _ _=>rfl) (rO rfl (ak 1)) (fun H0 G0 par br bx C ex s3 H3 pn=>(ff (i:=0) (show (["one","a","b"]:List Str).Nodup by decide +kernel))) (fun H0 G0 par br bx C ex s3 H3 pn hB1=>(pZ (cj AJ CP (oj rfl (ak 0) (ak 1)) (oj rfl (ak 0) (ak 2)) (bD _)))) (fun H0 G0 par br bx C ex s3 H3 pn hB1=>ax) bW.nd)
  (@aA _ _ _ _ _ (gp (rn.t (z4 (cj (gM hr.units) jW (ak 3) (ak 4) (bD _)) (xA (cj (lU hr.units) jW (ak 5) (bE ao) (bD _))) (fun _ _=>rfl)))
  (@aA _ _ _ _ _ (lx 2 (fun _=>rfl) (dC (af (aB 3 rfl) (af (aB 4 rfl) ao)))))
  dH))))))
  (@aA _ _ _ _ _ (bz (bH bj fO rfl B.tuple (by decide +kernel) (ak 2))))))⟩,fun ds h=>aY ds h⟩
abbrev di:Stmt:=top 34
theorem hX:aF ["many","rows","e"] ["many","rows"] (aj di):=⟨rfl,rfl,rfl,by decide +kernel,rfl,by decide +kernel,by decide +kernel⟩
theorem ki {f:Addr}{fd:FuncData}{marks:Str->Option Str}{cR:List D->FR}(F:kc K mg "_law_said" di ["many","rows"] f fd)(B:kx mg)(iP:fV P w K mg base ca "told_by" ["many","rows"] 4 cR)(MK:xi P w K mg base ca "RankError" "_law_marks" marks):fV P w K mg base ca "_law_said" ["many","rows"] 5 (bu 3 2 (bc marks cR)):=
 ⟨⟨f,fd,F.mg,F.F.kp,F.b,bg (N:=["many","rows","e"]) (k:=4) F.F hX fun cdv A outer s H G E hr=>
  (@aA _ _ _ _ _ (xo (i:=2) MK hr (fun Eb Ex pn H G hpT=>
  (@aA _ _ _ _ _ (bz (aU iP (hr.mono (by decide)) hpT rfl rfl (af (aB 0 rfl) (af (aB 1 rfl) ao))))))
  hX.nd))⟩,fun ds h=>aY ds h⟩
abbrev gw:Stmt:=top 35
theorem b4:aF ["script","k","box","many","rows","turn","at","to","other","handed","row","bad","thing","none"] ["script"] (aj gw):=⟨rfl,rfl,rfl,by decide +kernel,rfl,by decide +kernel,by decide +kernel⟩
theorem vZ {f:Addr}{fd:FuncData}{cf aW bP:List D->FR}{aw aM:List D->Int->FB}(F:kc K mg "law" gw ["script"] f fd)(B:kx mg)(gy:fV P w K mg base ca "_law_box" ["script","k"] 2 cf)(bR:fV P w K mg base ca "_law_said" ["many","rows"] 5 aW)(fJ:fV P w K mg base ca "_law_told" ["many","rows"] 1 bP)(aH:rm P w K mg base "_law_take" ["box","many"] 1 aw)(bL:rm P w K mg base "_law_mixed_up" ["box","some"] 2 aM):fj P w K mg base (ir P w) 6 f fd ["script"] (vY K ca 1 (bu 14 1 (qH cf aW bP aw aM))):=
 bg (N:=["script","k","box","many","rows","turn","at","to","other","handed","row","bad","thing","none"]) (k:=5) F.F b4 fun cdv A outer s H G E hr=>
  (@av _ _ _ _ _ _ _ (gO PassesOwn.leaving rfl (kX rfl B.range (mK (rB rfl) Aa rfl B.max (by decide +kernel) ax (mK (rG rfl) zC rfl B.min (by decide +kernel) (aZ cX jC rfl B.len PySem.boot_len (ak 0)) ax))) (ff (i:=1) b4.nd)
  (@av _ _ _ _ _ _ _ (wd (i:=2) rfl (vF gy (hr.mono (by decide)) bq rfl rfl (af (aB 0 rfl) (af (aB 1 rfl) ao))) b4.nd)
  (@av _ _ _ _ _ _ _ (cw (i:=3) (aS gW gR ax (fB 2 aH (hr.mono (by decide)) bq rfl rfl (af ax ao))) b4.nd)
  (@av _ _ _ _ _ _ _ (fY (i:=4) (bE (af (bH bj fO rfl B.tuple (by decide +kernel) (fB 2 bL (hr.mono (by decide)) bq rfl rfl (af (@SE.wv _ _ _ _ _ _ (jz rfl rfl B.list rfl B.range (ak 3))) ao))) ao)) b4.nd)
  (@av _ _ _ _ _ _ _ (gO PassesOwn.leaving rfl (kX rfl B.range (fB 2 aH (hr.mono (by decide)) bq rfl rfl (af ax ao))) (ff (i:=5) b4.nd)
  (@av _ _ _ _ _ _ _ (xK (i:=6) (j:=7) b4.nd (by decide) (fB 2 aH (hr.mono (by decide)) bq rfl rfl (af (aB 3 rfl) ao)) (fB 2 aH (hr.mono (by decide)) bq rfl rfl (af (aB 3 rfl) ao)))
  (@av _ _ _ _ _ _ _ (fY (i:=8) (bH cM lX rfl B.list (by decide +kernel) (iq eO lV (ak 4) (tJ pS u5 ax) (fun _ _=>rfl))) b4.nd)
  (@av _ _ _ _ _ _ _ (rR 8 (fun _=>rfl) (ak 7) (ak 6))
  (@aA _ _ _ _ _ (lx 4 (fun _=>rfl) (iq eO lV (bE (af (bH bj fO rfl B.tuple (by decide +kernel) (ak 8)) (af (bH bj fO rfl B.tuple (by decide +kernel) (fB 2 bL (hr.mono (by decide)) bq rfl rfl (af (@SE.wv _ _ _ _ _ _ (jz rfl rfl B.list rfl B.range (ak 3))) ao))) ao))) (fB 2 aH (hr.mono (by decide)) bq rfl rfl (af ax ao)) (fun _ _=>rfl))))))))
  (@av _ _ _ _ _ _ _ (cw (i:=9) (@SE.wv _ _ _ _ _ _ (bH cM lX rfl B.list (by decide +kernel) (ak 4))) b4.nd)
  (@av _ _ _ _ _ _ _ (gp (rn.t (qv (cj yt AQ (aZ (kK hr.gd hr.u1) vq rfl B.repr (by decide +kernel) (aU bR (hr.mono (by decide)) bq rfl rfl (af (aB 3 rfl) (af (aB 9 rfl) ao)))) (aZ (kK hr.gd hr.u1) vq rfl B.repr (by decide +kernel) (dC (af (aB 3 rfl) (af (aU fJ (hr.mono (by decide)) bq rfl rfl (af (aB 3 rfl) (af (aB 4 rfl) ao))) ao)))) (bD _)) (lA (cj (gM hr.units) jW (ak 9) (ak 4) (bD _))) (fun _ _=>rfl)))
  (@aA _ _ _ _ _ (bz lr))
  dH)
  (@av _ _ _ _ _ _ _ (cw (i:=6) (fB 2 aH (hr.mono (by decide)) bq rfl rfl (af (aS gW gR (aZ cX jC rfl B.len PySem.boot_len (ak 4)) ax) ao)) b4.nd)
  (@av _ _ _ _ _ _ _ (cw (i:=10) (iq eO lV (ak 4) ax (fun _ _=>rfl)) b4.nd)
  (@av _ _ _ _ _ _ _ (cw (i:=11) (iq eO lV (bE (af (@SE.wv _ _ _ _ _ _ (bH cM lX rfl B.list (by decide +kernel) (ak 10))) (af (lg rfl (ak 10) (jb ax) jc) (af (aS jJ oV (ak 10) (dC (af ax ao))) (af (aS jJ oV (ak 10) (dC (af (aB 3 rfl) ao))) (af mi (af (dC (af (aB 10 rfl) ao)) (af (aS jJ oV (lg rfl (ak 10) jc (jb (tJ pS u5 ax))) (dC (af (aB 3 rfl) ao))) (af fI ao))))))))) (fB 2 aH (hr.mono (by decide)) bq rfl rfl (af ax ao)) (fun _ _=>rfl)) b4.nd)
  (@av _ _ _ _ _ _ _ (gO PassesOwn.leaving rfl (CY rfl (@SE.wv _ _ _ _ _ _ (bE (af (@SE.wv _ _ _ _ _ _ (aS qV yE (aS qV yE (nk rfl (ak 4) jc (jb (ak 6))) (bE (af (aB 11 rfl) ao))) (nk rfl (ak 4) (jb (ak 6)) jc))) (af (@SE.wv _ _ _ _ _ _ (bE ao)) (af (bH bj fO rfl B.tuple (by decide +kernel) (ak 4)) (af mi (af (aB 10 rfl) (af xC ao))))))))) (ff (i:=12) b4.nd)
  (@aA _ _ _ _ _ (gp (cj (gM hr.units) jW (aU bR (hr.mono (by decide)) bq rfl rfl (af (aB 3 rfl) (af (aB 12 rfl) ao))) fI (bD _))
  (@aA _ _ _ _ _ (bz lr))
  dH)))
  (@av _ _ _ _ _ _ _ (cw (i:=13) (iq eO lV (@AA _ _ _ _ (ae (cst (.int 0)) (ae (cst (.int 9)) (ae (cst (.int (-1))) (ae (cst (.bool true)) (ae (cst .none) (ae (cst (.str "3")) (ae (dB (ae (cst (.int 3)) au)) (ae (f2 (cst (.int 10)) (cst (.int 39)) uf) au)))))))) ([] ++ ([] ++ ([] ++ ([] ++ ([] ++ ([] ++ (([] ++ []) ++ ([] ++ [])))))))) _ [] (by kernel_rfl) (fun _=>rfl) (by kernel_rfl)) (fB 2 aH (hr.mono (by decide)) bq rfl rfl (af ax ao)) (fun _ _=>rfl)) b4.nd)
  (@aA _ _ _ _ _ (gp (rn.t (qv (cj (gM hr.units) jW (aU bR (hr.mono (by decide)) bq rfl rfl (af (aB 13 rfl) (af (aB 4 rfl) ao))) fI (bD _)) (lA (cj (gM hr.units) jW (aU bR (hr.mono (by decide)) bq rfl rfl (af (aB 13 rfl) (af mi ao))) fI (bD _))) (fun _ _=>rfl)))
  (@aA _ _ _ _ _ (bz lr))
  dH))))))))))))))
  (@aA _ _ _ _ _ (bz lr)))
end
end RQ

end

section
namespace RM
open PySem L2
theorem zX {t u:VF Bool}{vs:List Nv}{β:Int}{a b:Bool}(h:t vs β=.ok a β)(h':u vs β=.ok b β):Ak t u vs β=.ok (a && b) β:=by
 rw[y7,h];dsimp only[R.bnd]
 cases a with
 |true=>rw[if_pos rfl,h'];rfl
 |false=>rfl
theorem cW {t:VF Bool}{vs:List Nv}{β:Int}{a:Bool}(h:t vs β=.ok a β):yf t vs β=.ok (!a) β:=by rw[zy,h];rfl
def upTo (n:Nat)(f:Pr->Bool)(i k:Nat):List Pr:=(OM.bJ n).filter fun p=>(decide (p.1 < i) || (decide (p.1=i) && decide (p.2 < k))) && f p
theorem sZ {n:Nat}(f:Pr->Bool)(i k:Nat)(h8:n<=8):(upTo n f i k).length<=64:=by
 have h1:(upTo n f i k).length<=(OM.bJ n).length:=List.length_filter_le _ _
 rw[ia] at h1
 have:n * n<=64:=Nat.mul_le_mul h8 h8
 omega
theorem rL (n:Nat)(f:Pr->Bool):upTo n f 0 0= []:=by
 unfold upTo
 rw[List.filter_eq_nil_iff]
 intro p hp
 have:=OM.cZ.mp hp
 rw[decide_eq_false (by omega),decide_eq_false (p:=p.2 < ((0:Nat):Int)) (by omega)];simp
theorem vj (n:Nat)(f:Pr->Bool):upTo n f n 0=(OM.bJ n).filter f:=by
 unfold upTo
 refine List.filter_congr fun p hp=>?_
 have:=(OM.cZ.mp hp).1.2
 rw[decide_eq_true this];simp
theorem vn (n:Nat)(f:Pr->Bool)(i:Nat):upTo n f i n=upTo n f (i + 1) 0:=by
 unfold upTo
 refine List.filter_congr fun p hp=>?_
 have h:=OM.cZ.mp hp
 congr 1
 rw[Bool.eq_iff_iff]
 simp only[Bool.or_eq_true,Bool.and_eq_true,decide_eq_true_eq]
 omega
theorem lj {n i k:Nat}(f:Pr->Bool)(hi:i < n)(hk:k < n):upTo n f i (k + 1)=upTo n f i k ++ if f ((i:Int),(k:Int))=true then [((i:Int),(k:Int))] else []:=by
 refine OM.qZ (OM.jM _ (OM.nr n)) ?_ fun x=>?_
 ·show List.Pairwise OM.wu _
  rw[List.pairwise_append]
  refine⟨OM.jM _ (OM.nr n),?_,fun p hp q hq=>?_⟩
  ·split <;> simp
  ·unfold upTo at hp
   have h1:=(List.mem_filter.mp hp).2
   simp only[Bool.or_eq_true,Bool.and_eq_true,decide_eq_true_eq] at h1
   split at hq
   ·have:q=((i:Int),(k:Int)):=by simpa using hq
    subst this
    show p.1 < (i:Int)\/(p.1=(i:Int)/\p.2 < (k:Int))
    exact h1.1
   ·cases hq
 ·rw[List.mem_append]
  unfold upTo
  rw[List.mem_filter,List.mem_filter,OM.cZ]
  simp only[Bool.or_eq_true,Bool.and_eq_true,decide_eq_true_eq]
  constructor
  ·rintro⟨h1,h2,h3⟩
   by_cases z:x.1=i/\x.2=k
   ·obtain⟨xa,xb⟩:=x
    simp only at z h3
    obtain⟨rfl,rfl⟩:=z
    rw[if_pos h3]
    exact .inr (List.mem_singleton.mpr rfl)
   ·exact .inl ⟨h1,by omega,h3⟩
  ·rintro (⟨h1,h2,h3⟩ |h)
   ·exact⟨h1,by omega,h3⟩
   ·split at h
    ·rename_i hf
     have:x=((i:Int),(k:Int)):=by simpa using h
     subst this
     exact⟨⟨⟨by show (0:Int)<=(i:Int);omega,by show (i:Int) < n;omega⟩,by show (0:Int)<=(k:Int);omega,by show (k:Int) < n;omega⟩,.inr ⟨rfl,by show (k:Int) < ((k + 1:Nat):Int);omega⟩,hf⟩
    ·cases h
def tupI (r:List Int):D:=.tuple (r.map PyData.int)
theorem qk {fa fb:VF D}{vs:List Nv}{β:Int}{r:List Int}{k:Int}(h:fa vs β=.ok (tupI r) β)(h':fb vs β=.ok (.int k) β)(hk:k∈r):iC fa fb vs β=.ok (.int (r.idxOf k:Nat)) β:=by
 unfold iC
 rw[h]
 dsimp only[R.bnd]
 rw[if_pos (by rfl),h']
 dsimp only[R.bnd,xW,tupI]
 rw[dQ]
 dsimp only
 rw[if_pos hk];rfl
theorem xl {r:List Int}{a b:Int}(ha:a∈r)(hb:b∈r)(h:r.idxOf a=r.idxOf b):a=b:=by
 have h1:=List.getElem_idxOf (List.idxOf_lt_length_iff.mpr ha)
 have h2:=List.getElem_idxOf (List.idxOf_lt_length_iff.mpr hb)
 rw[<-h1,<-h2]
 congr 1
end RM

end

section

end

section

end

section
namespace RM
open PySem L2
def wW:D->Bool
 | .tuple _=>true
 |_=>false
theorem x6 {d:D}(h:wW d=true):∃ds,d=.tuple ds:=by
 cases d with
 |tuple ds=>exact⟨ds,rfl⟩
 |_=>cases h
theorem vI {d:D}(h:bt d=false):fk "tuple" d=some (.bool (wW d)):=by
 unfold fk;rw[h];cases d <;> rfl
section
variable {fa fb:VF D}{vs:List Nv}{β:Int}
theorem AF {d:D}(ha:fa vs β=.ok d β)(h:bt d=false):vm (f1 fa (fk "tuple")) vs β=.ok (wW d) β:=iU (bC ha (vI h))
theorem qg {l:List D}{f:D->Bool}(h:fa vs β=.ok (.list (l.map fun q=>PyData.bool (f q))) β):f1 fa (eT fun bs=>bs.all id) vs β=.ok (.bool (l.all f)) β:=by
 refine bC h ?_
 simp only[eT]
 rw[iN]
 simp[List.all_map]
theorem yH {ds:List D}(ha:fa vs β=.ok (.tuple ds) β):f1 fa dP vs β=.ok (.int ds.length) β:=bC ha rfl
theorem yh {t u:VF Bool}(h:t vs β=.ok true β):nh t u vs β=.ok true β:=by rw[qi,h];rfl
theorem jE {t u:VF Bool}{c:Bool}(h:t vs β=.ok false β)(h':u vs β=.ok c β):nh t u vs β=.ok c β:=by rw[qi,h];exact h'
theorem Bi (h:fa vs β=.ok (.bool false) β):gH fa fb vs β=.ok (.bool false) β:=by unfold gH;rw[h];rfl
theorem BQ {d:D}(h:fa vs β=.ok (.bool true) β)(h':fb vs β=.ok d β):gH fa fb vs β=.ok d β:=by unfold gH;rw[h];exact h'
end
def Sq (c k:Nat)(d:D):Prop:=d.showable=true/\d.depth<=k/\d.shown.length<=c
theorem Sq.mono {c k c' k':Nat}{d:D}(h:Sq c k d)(h1:c<=c')(h2:k<=k'):Sq c' k' d:=⟨h.1,Nat.le_trans h.2.1 h2,Nat.le_trans h.2.2 h1⟩
theorem o6 {c k:Nat}:∀{ds:List D},(∀d,d∈ds->Sq c k d)->PyData.showableAll ds=true/\PyData.depthAll ds<=k/\(∀t,t∈PyData.shownAll ds->t.length<=c)/\(PyData.shownAll ds).length=ds.length
 | [],_=>⟨by simp[PyData.showableAll],by simp[PyData.depthAll],fun t h=>by simp[PyData.shownAll] at h,by simp[PyData.shownAll]⟩
 |d :: ds,h=>by
  obtain⟨h1,h2,h3,h4⟩:=o6 fun x hx=>h x (List.mem_cons_of_mem _ hx)
  obtain⟨q1,q2,q3⟩:=h d (List.mem_cons_self ..)
  refine⟨?_,?_,fun t ht=>?_,?_⟩
  ·rw[PyData.showableAll,q1,h1];rfl
  ·rw[PyData.depthAll];omega
  ·rw[PyData.shownAll] at ht
   rcases List.mem_cons.mp ht with rfl |ht
   ·exact q3
   ·exact h3 t ht
  ·rw[PyData.shownAll,List.length_cons,List.length_cons,h4]
theorem mJ {c:Nat}:∀{ts:List Str},(∀t,t∈ts->t.length<=c)->(Str.join ", " ts).length<=(c + 2) * ts.length
 | [],_=>by show (Str.join ", " []).length<=_;exact Nat.zero_le _
 | [x],h=>by
  have:=h x (List.mem_cons_self ..)
  show x.length<=(c + 2) * 1
  omega
 |x :: y :: r,h=>by
  have ih:=mJ (ts:=y :: r) fun t ht=>h t (List.mem_cons_of_mem _ ht)
  have:=h x (List.mem_cons_self ..)
  show (x ++ ", " ++ Str.join ", " (y :: r)).length<=_
  rw[strLen_append,strLen_append]
  have e2:((", ":String):Str).length=2:=rfl
  rw[e2]
  have e:(c + 2) * (x :: y :: r).length=(c + 2) * (y :: r).length + (c + 2):=by rw[List.length_cons,Nat.mul_succ]
  omega
theorem fG {c k:Nat}{ds:List D}(h:∀d,d∈ds->Sq c k d):Sq (3 + (c + 2) * ds.length) (k + 1) (.tuple ds):=by
 obtain⟨h1,h2,h3,h4⟩:=o6 h
 refine⟨by rw[PyData.showable];exact h1,by rw[PyData.depth];omega,?_⟩
 rw[PyData.shown]
 unfold tupleText
 rw[strLen_append,strLen_append]
 have j:=mJ h3
 rw[h4] at j
 have e1:((("(":String):Str)).length=1:=rfl
 have e3:((if (PyData.shownAll ds).length == 1 then ",)" else ")":String):Str).length<=2:=by split <;> exact by decide
 rw[e1]
 omega
theorem o9 {c k:Nat}{ds:List D}(h:∀d,d∈ds->Sq c k d):Sq (2 + (c + 2) * ds.length) (k + 1) (.list ds):=by
 obtain⟨h1,h2,h3,h4⟩:=o6 h
 refine⟨by rw[PyData.showable];exact h1,by rw[PyData.depth];omega,?_⟩
 rw[PyData.shown]
 unfold listText
 rw[strLen_append]
 have:=tM (c:=c + 2) (PyData.shownAll ds) 0 "[" fun t ht=>by have:=h3 t ht;omega
 rw[h4] at this
 have e1:((("[":String):Str)).length=1:=rfl
 have e2:((("]":String):Str)).length=1:=rfl
 rw[e1] at this
 rw[e2];omega
def Af (d:D):Prop:=qB d=true/\d.hasDict=false
def Bf (d:D):Prop:=yy d=true
theorem oG:∀{ds:List D},(∀d,d∈ds->Af d)->kf ds=true/\PyData.hasDictAll ds=false
 | [],_=>⟨rfl,by simp[PyData.hasDictAll]⟩
 |d :: ds,h=>by
  obtain⟨h1,h2⟩:=oG fun x hx=>h x (List.mem_cons_of_mem _ hx)
  obtain⟨q1,q2⟩:=h d (List.mem_cons_self ..)
  exact⟨by rw[kf,q1,h1];rfl,by rw[PyData.hasDictAll,q2,h2];rfl⟩
theorem pH:∀{ds:List D},(∀d,d∈ds->Bf d)->vG ds=true
 | [],_=>rfl
 |d :: ds,h=>by
  have h1:=pH fun x hx=>h x (List.mem_cons_of_mem _ hx)
  have q1:yy d=true:=h d (List.mem_cons_self ..)
  rw[vG,q1,h1];rfl
theorem pz {ds:List D}(h:∀d,d∈ds->Af d):Af (.tuple ds):=⟨by rw[qB];exact (oG h).1,by rw[PyData.hasDict];exact (oG h).2⟩
theorem mr {ds:List D}(h:∀d,d∈ds->Bf d):Bf (.tuple ds):=by show yy (.tuple ds)=true;rw[yy];exact pH h
theorem oI {ds:List D}(h:∀d,d∈ds->Bf d):Bf (.list ds):=by show yy (.list ds)=true;rw[yy];exact pH h
def Ce:List Int:=[-1,0,1,2,3,4,5,6,7,8,9]
theorem uG:∀i∈Ce,(PyData.int i).showable=true/\(PyData.int i).shown.length<=20:=by decide +kernel
theorem qP {i:Int}(h: -1<=i/\i<=9):i∈Ce:=by
 simp only[Ce,List.mem_cons,List.not_mem_nil,or_false]
 omega
def ou (d:D):Prop:=d=.none\/(∃b,d=.bool b)\/∃i:Int,d=.int i/\ -1<=i/\i<=9
theorem ou.sq {d:D}(h:ou d):Sq 20 0 d:=by
 rcases h with rfl | ⟨b,rfl⟩ | ⟨i,rfl,h⟩
 ·exact⟨by simp[PyData.showable],by simp[PyData.depth],by rw[PyData.shown];decide⟩
 ·exact⟨by simp[PyData.showable],by simp[PyData.depth],by rw[PyData.shown];cases b <;> decide⟩
 ·exact⟨(uG i (qP h)).1,by simp[PyData.depth],(uG i (qP h)).2⟩
theorem ou.bf {d:D}(h:ou d):Bf d:=by
 rcases h with rfl | ⟨b,rfl⟩ | ⟨i,rfl,h⟩ <;> exact by simp[Bf,yy]
theorem ou.scr {d:D}(h:ou d):bt d=false:=by
 rcases h with rfl | ⟨b,rfl⟩ | ⟨i,rfl,h⟩ <;> rfl
section
variable {vs:List Nv}{β β1 β2:Int}{fa:VF D}{fr:VF (List D)}{d:D}{ds:List D}
theorem ac {fa:VF D}{fr:VF (List D)}(h:fa vs β=.ok d β)(h':fr vs β=.ok ds β):ae fa fr vs β=.ok (d :: ds) β:=by rw[cV,h];dsimp only[R.bnd];rw[h']
theorem an:au vs β=.ok [] β:=rfl
theorem tp (h:fr vs β=.ok ds β)(hz:ds.length<=1000:=by simp):dB fr vs β=.ok (.tuple ds) β:=qG h hz
theorem lp (h:fr vs β=.ok ds β)(hz:ds.length<=1000:=by simp):bG fr vs β=.ok (.list ds) β:=cL h hz
theorem ck (d:D):cst d vs β=.ok d β:=rfl
end
theorem A8 {vs:List Nv}{β:Int}:f2 (cst (.int 10)) (cst (.int 39)) uf vs β=.ok (.int 1000000000000000000000000000000000000000) β:=az (x:=.int 10) (y:=.int 39) rfl rfl (by rfl)
theorem jf {P:D->Prop}{x y:D}(hx:P x)(hy:P y):∀d,d∈ [x,y]->P d:=fun d hd=>by
 rcases List.mem_cons.mp hd with rfl |hd
 ·exact hx
 ·rw[List.mem_singleton] at hd;subst hd;exact hy
theorem dk {i:Int}(h: -1<=i/\i<=9):ou (.int i):=.inr (.inr ⟨i,rfl,h⟩)
theorem vT {d:D}(h:bt d=false):fk "list" d=some (.bool (match d with | .list _=>true |_=>false)):=by
 unfold fk;rw[h];cases d <;> rfl
def xE:D->Bool
 | .list _=>true
 |_=>false
theorem xG {d:D}(h:xE d=true):∃ds,d=.list ds:=by
 cases d with
 |list ds=>exact⟨ds,rfl⟩
 |_=>cases h
theorem yc {fa:VF D}{vs:List Nv}{β:Int}{d:D}(ha:fa vs β=.ok d β)(h:bt d=false):f1 fa (fk "list") vs β=.ok (.bool (xE d)) β:=bC ha (by rw[vT h];cases d <;> rfl)
end RM

end

section
namespace RM
open PySem L2
def ei:List Str:=["order","many","pairs","ring","thing","row","rows","number","chain","turns","points","text"]
def oK (tbl:List (Str×Nat))(c:Str):Option Str:=(tbl.lookup c).map fun j=>ei.getD j ""
def Ge (e:D):Prop:=bt e=false/\∀es,e=.tuple es->es.length<=100/\∀x,x∈es->bt x=false
def Sp (p:Pr):Prop:=(0<=p.1/\p.1<=8)/\(0<=p.2/\p.2<=8)
theorem pK {es:List D}(hl:es.length<=100)(h:∀x,x∈es->bt x=false):Ge (.tuple es):=⟨rfl,fun es' e=>by cases e;exact⟨hl,h⟩⟩
theorem ya {fa fb:VF D}{vs:List Nv}{β:Int}{ds:List D}{i:Nat}(ha:fa vs β=.ok (.list ds) β)(hb:fb vs β=.ok (.int ((i:Nat):Int)) β):yQ fa (qx fb) (fun _ β=>.ok none β) vs β=.ok (.list (ds.drop i)) β:=by
 unfold yQ qx
 rw[ha];dsimp only[R.bnd]
 rw[hb];dsimp only[R.bnd]
 congr 2
 unfold cutD
 rw[HT.hW,HT.l9]
 by_cases h:i<=ds.length
 ·rw[Nat.min_eq_left h];exact List.take_of_length_le (by rw[List.length_drop];omega)
 ·rw[Nat.min_eq_right (by omega),List.drop_length,List.drop_of_length_le (by omega)];simp
theorem u4 {fa fb:VF D}{vs:List Nv}{β:Int}{ds:List D}{i:Nat}(ha:fa vs β=.ok (.list ds) β)(hb:fb vs β=.ok (.int ((i:Nat):Int)) β):yQ fa (fun _ β=>.ok none β) (qx fb) vs β=.ok (.list (ds.take i)) β:=by
 unfold yQ qx
 rw[ha];dsimp only[R.bnd]
 rw[hb];dsimp only[R.bnd]
 congr 2
 unfold cutD
 rw[HT.hW,HT.l9]
 by_cases h:i<=ds.length
 ·rw[Nat.min_eq_left h];rfl
 ·rw[Nat.min_eq_right (by omega),List.take_of_length_le (show ds.length<=i by omega)];simp
end RM

end

section
namespace RM
open PySem PySem.Spec L2 PyProof.Rows
theorem jS:∀(ns acc:List Int),acc.Nodup->(ns.foldl step_dedup acc).length<=acc.length + ns.length/\((ns.foldl step_dedup acc).length=acc.length + ns.length↔(ns.Nodup/\∀x,x∈ns->x∉acc))
 | [],acc,_=>by simp
 |n :: ns,acc,hn=>by
  rw[List.foldl_cons]
  by_cases h:n∈acc
  ·have e:step_dedup acc n=acc:=by unfold step_dedup;rw[if_pos (by simpa using h)]
   rw[e]
   obtain⟨h1,h2⟩:=jS ns acc hn
   refine⟨by rw[List.length_cons];omega,⟨fun z=>?_,fun z=>absurd h (z.2 n (List.mem_cons_self ..))⟩⟩
   rw[List.length_cons] at z;omega
  ·have e:step_dedup acc n=acc ++ [n]:=by unfold step_dedup;rw[if_neg (by simpa using h)]
   have hn':(acc ++ [n]).Nodup:=by
    rw[List.nodup_append]
    refine⟨hn,List.nodup_cons.mpr ⟨by simp,List.nodup_nil⟩,fun a ha b hb=>?_⟩
    rw[List.mem_singleton] at hb
    subst hb
    exact fun q=>h (q▸ha)
   rw[e]
   obtain⟨h1,h2⟩:=jS ns (acc ++ [n]) hn'
   rw[List.length_append,List.length_singleton] at h1 h2
   refine⟨by rw[List.length_cons];omega,?_⟩
   rw[List.length_cons,show acc.length + (ns.length + 1)=acc.length + 1 + ns.length by omega,h2,List.nodup_cons]
   constructor
   ·rintro⟨z1,z2⟩
    refine⟨⟨fun q=>z2 n q (by simp),z1⟩,fun x hx=>?_⟩
    rcases List.mem_cons.mp hx with rfl |hx
    ·exact h
    ·exact fun q=>z2 x hx (List.mem_append_left _ q)
   ·rintro⟨⟨z1,z2⟩,z3⟩
    refine⟨z2,fun x hx q=>?_⟩
    rcases List.mem_append.mp q with q |q
    ·exact z3 x (List.mem_cons_of_mem _ hx) q
    ·rw[List.mem_singleton] at q;subst q;exact z1 hx
theorem nc (ns:List Int):kq ns=ns.length↔ns.Nodup:=by
 have e:firstMet (fun i=>ns.getD i 0) ns.length=ns.foldl step_dedup []:=by
  unfold firstMet
  congr 1
  refine List.ext_getElem (by simp) fun i h1 h2=>?_
  simp[List.getD_eq_getElem?_getD,h2]
 unfold kq
 rw[e]
 have:=(jS ns [] List.nodup_nil).2
 simpa using this
theorem iV:∀{l m:List Int},l.Nodup->(∀x,x∈l->x∈m)->m.length<=l.length->l.Perm m
 | [],m,_,_,h=>by
  have:m= []:=List.length_eq_zero_iff.mp (by simpa using h)
  rw[this]
 |x :: l,m,nd,hs,h=>by
  obtain⟨h1,h2⟩:=List.nodup_cons.mp nd
  have hx:x∈m:=hs x (List.mem_cons_self ..)
  have pm:m.Perm (x :: m.erase x):=List.perm_cons_erase hx
  refine (List.Perm.cons x (iV (m:=m.erase x) h2 (fun y hy=>?_) ?_)).trans pm.symm
  ·have hy':=pm.mem_iff.mp (hs y (List.mem_cons_of_mem _ hy))
   rcases List.mem_cons.mp hy' with rfl |q
   ·exact absurd hy h1
   ·exact q
  ·have:=pm.length_eq
   rw[List.length_cons] at this h
   omega
theorem tW {n:Nat}{r:List Int}(hl:r.length=n)(hb:∀x,x∈r->0<=x/\x < n)(nd:r.Nodup):r.Perm (dg n):=iV nd (fun x hx=>bB.mpr (hb x hx)) (by rw[cz];omega)
noncomputable def du (n:Nat)(d:D):Bool:=@decide (∃r:List Int,d=tupI r/\r.Perm (dg n)) (Classical.propDecidable _)
theorem zF {n:Nat}{d:D}(h:du n d=true):∃r:List Int,d=tupI r/\r.Perm (dg n):=@of_decide_eq_true _ (Classical.propDecidable _) h
theorem jK {n:Nat}{r:List Int}(h:r.Perm (dg n)):du n (tupI r)=true:=@decide_eq_true _ (Classical.propDecidable _) ⟨r,rfl,h⟩
theorem eB {n:Nat}{d:D}(h:∀r:List Int,d=tupI r->¬r.Perm (dg n)):du n d=false:=@decide_eq_false _ (Classical.propDecidable _) fun⟨r,e,p⟩=>h r e p
theorem uv {r q:List Int}(h:tupI r=tupI q):r=q:=by
 unfold tupI at h
 have h:=PyData.tuple.inj h
 exact List.map_inj_right (fun a b e=>PyData.int.inj e) |>.mp h
theorem rl {d:D}{n:Int}(h:fq d n=true):∃i:Int,d=.int i/\0<=i/\i < n:=by
 cases d with
 |int i=>exact⟨i,rfl,of_decide_eq_true h⟩
 |_=>cases h
theorem kF {n:Int}:∀{ds:List D},(ds.all fun e=>fq e n)=true->∃r:List Int,ds=r.map PyData.int/\∀x,x∈r->0<=x/\x < n
 | [],_=>⟨[],rfl,fun x hx=>by cases hx⟩
 |d :: ds,h=>by
  rw[List.all_cons,Bool.and_eq_true] at h
  obtain⟨i,rfl,hi⟩:=rl h.1
  obtain⟨r,rfl,hr⟩:=kF h.2
  refine⟨i :: r,rfl,fun x hx=>?_⟩
  rcases List.mem_cons.mp hx with rfl |hx
  ·exact hi
  ·exact hr x hx
theorem sk {n:Nat}{r:List Int}(h:∀x,x∈r->0<=x/\x < (n:Int)):((r.map PyData.int).all fun e=>fq e n)=true:=by
 rw[List.all_map,List.all_eq_true]
 intro x hx
 exact decide_eq_true (h x hx)
theorem dQ:∀r:List Int,dM (r.map PyData.int)=some r
 | []=>rfl
 |x :: r=>by
  have:=dQ r
  simp only[List.map_cons,dM,this]
  try rfl
def jF:List D->FR:=bu 2 2 (fQ gS)
theorem vc {n:Nat}{d:D}(h8:n<=100)(h:Ge d):jF [d,.int n]=.ok (.bool (du n d)) false:=by
 show fin (fQ gS [.fz d,.fz (.int n)] 0)=_
 unfold fQ
 have g0:gv 0 (vl [.fz d,.fz (.int n)]) 0=.ok d 0:=rfl
 have t1:=AF g0 h.1
 cases hy:wW d with
 |false=>
  rw[hy] at t1
  rw[jh (d:=.bool false) (b:=false) (β':=0) (by rw[ly (yh (cW t1))];rfl),eB]
  ·rfl
  ·intro r e;subst e;cases hy
 |true=>
  obtain⟨es,rfl⟩:=x6 hy
  rw[hy] at t1
  have t2:fw (f2 (f1 (gv 0) dP) (gv 1) (gQ true)) (vl [.fz (.tuple es),.fz (.int n)]) 0=.ok (!decide ((es.length:Int)=n)) 0:=g9 (neg:=true) (yH g0) rfl
  by_cases hl:es.length=n
  ·rw[decide_eq_true (show (es.length:Int)=n by omega)] at t2
   rw[aO (env':=[.fz (.tuple es),.fz (.int n)]) (β':=0) (by rw[mW (jE (cW t1) t2)];rfl)]
   have hs:=(h.2 _ rfl).2
   have ec:ba 1 [1] (.nm 0) (dE (gv 0)) qh (aJ gS (ae (gv 0) (ae (gv 1) au))) (vl [.fz (.tuple es),.fz (.int n)]) 0=.ok (.list (es.map fun e=>PyData.bool (fq e n))) 0:=
    kG (fun e=>PyData.bool (fq e n)) rfl (by omega) fun e he=>⟨_,rfl,aK (ds:=[e,.int n]) rfl (ra (hs e he))⟩
   have ea:=qg ec
   rw[eQ]
   cases hb:(es.all fun e=>fq e n) with
   |false=>
    rw[hb] at ea
    rw[Bi ea,eB]
    ·rfl
    ·intro r e pm
     have e:=PyData.tuple.inj e
     subst e
     rw[sk fun x hx=>bB.mp (pm.mem_iff.mp hx)] at hb
     cases hb
   |true=>
    rw[hb] at ea
    obtain⟨r,rfl,hr⟩:=kF hb
    have hrl:r.length=n:=by rw[List.length_map] at hl;exact hl
    have es:f1 (gv 0) i7 (vl [.fz (.tuple (r.map PyData.int)),.fz (.int n)]) 0=.ok (.int (kq r)) 0:=by
     refine bC g0 ?_
     show (match dM (r.map PyData.int) with |some ns=>if ns.length<=1000 then some (PyData.int (kq ns)) else none |none=>none)=_
     rw[dQ]
     exact if_pos (by omega)
    rw[BQ ea (az es rfl (v8 false (kq r) n))]
    show FR.ok (.bool (decide ((kq r:Int)=(n:Int)))) false=_
    by_cases nd:r.Nodup
    ·have:=(nc r).mpr nd
     rw[decide_eq_true (by omega),show du n (.tuple (r.map PyData.int))=true from jK (tW hrl hr nd)]
    ·have:kq r≠r.length:=fun q=>nd ((nc r).mp q)
     rw[decide_eq_false (by omega),eB]
     intro q e pm
     have e:=uv (r:=r) e
     subst e
     exact nd (pm.nodup_iff.mpr (lu n))
  ·rw[decide_eq_false (show ¬(es.length:Int)=n by omega)] at t2
   rw[jh (d:=.bool false) (b:=false) (β':=0) (by rw[ly (jE (cW t1) t2)];rfl),eB]
   ·rfl
   ·intro r e pm
    have e:=PyData.tuple.inj e
    subst e
    have:=pm.length_eq
    rw[cz] at this
    rw[List.length_map] at hl
    exact hl this
end RM

end

section
namespace RM
open PySem L2
def lD (r:List Int):List Int:=(List.range r.length).map fun (a:Nat)=>((r.idxOf (a:Int):Nat):Int)
def cE (r:List Int)(k:Nat):List Int:=(List.range r.length).map fun (a:Nat)=>if r.idxOf (a:Int) < k then ((r.idxOf (a:Int):Nat):Int) else 0
theorem sA {n:Nat}{r:List Int}(h:r.Perm (dg n)):cE r r.length=lD r:=by
 unfold cE lD
 refine List.map_congr_left fun a ha=>?_
 have hl:=h.length_eq
 rw[cz] at hl
 have:=List.mem_range.mp ha
 rw[if_pos (List.idxOf_lt_length_iff.mpr (h.mem_iff.mpr (bB.mpr ⟨by omega,by omega⟩)))]
theorem pI (r:List Int):cE r 0=List.replicate r.length 0:=by
 unfold cE
 refine List.ext_getElem (by simp) fun i h1 h2=>by simp
theorem pN {n:Nat}{r:List Int}(h:r.Perm (dg n)){k:Nat}{x:Int}(hk:r[k]? =some x):(cE r k).set x.toNat (k:Int)=cE r (k + 1):=by
 have hl:=h.length_eq
 rw[cz] at hl
 have hx:=bB.mp (h.mem_iff.mp (List.mem_of_getElem? hk))
 have nd:r.Nodup:=h.nodup_iff.mpr (lu n)
 obtain⟨hkl,hke⟩:=List.getElem?_eq_some_iff.mp hk
 have hix:r.idxOf x=k:=by rw[<-hke];exact nd.idxOf_getElem k hkl
 unfold cE
 refine List.ext_getElem (by simp) fun i h1 h2=>?_
 have hi:i < r.length:=by simpa using h2
 rw[List.getElem_set]
 simp only[List.getElem_map,List.getElem_range]
 by_cases e:x.toNat=i
 ·rw[if_pos e]
  have ex:(i:Int)=x:=by omega
  rw[ex,hix,if_pos (by omega)]
 ·rw[if_neg e]
  have:r.idxOf (i:Int)≠k:=fun q=>by
   have hm:(i:Int)∈r:=h.mem_iff.mpr (bB.mpr ⟨by omega,by omega⟩)
   have h3:=List.getElem_idxOf (List.idxOf_lt_length_iff.mpr hm)
   simp only[q] at h3
   rw[hke] at h3
   omega
  by_cases z:r.idxOf (i:Int) < k
  ·rw[if_pos z,if_pos (by omega)]
  ·rw[if_neg z,if_neg (by omega)]
theorem uq {n:Nat}{r:List Int}(h:r.Perm (dg n)){a:Int}(ha:0<=a/\a < n):gE (lD r) a=some ((r.idxOf a:Nat):Int):=by
 have hl:=h.length_eq
 rw[cz] at hl
 have e:(a.toNat:Int)=a:=by omega
 have:=fU (xs:=lD r) (j:=a.toNat) (v:=((r.idxOf a:Nat):Int)) (by
  unfold lD
  rw[List.getElem?_map,List.getElem?_range (by omega)]
  simp only[Option.map_some,e])
 rw[e] at this
 exact this
def Ca:List D->FR:=bu 4 1 gY
theorem Co {n:Nat}{r:List Int}(h100:n<=100)(h:r.Perm (dg n)):Ca [tupI r]=.ok (.list ((lD r).map PyData.int)) true:=by
 have hl:=h.length_eq
 rw[cz] at hl
 show fin (gY [.fz (tupI r),.no,.no,.no] 0)=_
 unfold gY
 rw[aO (env':=[.fz (tupI r),.ow (.list ((cE r 0).map PyData.int)),.no,.no]) (β':=0) ?a]
 case a=>
  have e:f2 (bG (ae (cst (.int 0)) au)) (f1 (gv 0) dP) tm (vl [.fz (tupI r),.no,.no,.no]) 0=.ok (.list ((cE r 0).map PyData.int)) 0:=by
   refine az (lp (ac (ck _) an)) (yH (ds:=r.map PyData.int) rfl) ?_
   rw[List.length_map,pI,List.map_replicate]
   simp only[tm]
   rw[if_pos ?q]
   ·congr 2
    rw[Int.toNat_natCast]
    induction r.length with
    |zero=>rfl
    |succ m ih=>first |rw[List.replicate_succ,List.replicate_succ,List.flatten_cons,ih];rfl | (simp[List.replicate_succ] at ih ⊢;try exact ih)
   case q=>first | (constructor <;> first |omega | (show _<=_;simp;try omega)) | (rw[sizeLine_eq];simp;omega)
  rw[ni,e];rfl
 have ee:tw (gv 0) (vl [.fz (tupI r),.ow (.list ((cE r 0).map PyData.int)),.no,.no]) 0=.ok (gk (r.map PyData.int)) 0:=rfl
 obtain⟨env',β',ef,s,t,rfl,rfl⟩:=dR (t:=.two 2 3) (m:=oq 1 [2] [] (gv 2) (gv 3)) (ds:=gk (r.map PyData.int)) (k:=0)
  (fun k env β=>∃s t:Sl,env= [.fz (tupI r),.ow (.list ((cE r k).map PyData.int)),s,t]/\β=0)
  (env:=[.fz (tupI r),.ow (.list ((cE r 0).map PyData.int)),.no,.no]) (β:=0) ⟨.no,.no,rfl,rfl⟩ (by
   rintro k d env β hk ⟨s,t,rfl,rfl⟩
   unfold gk at hk
   rw[List.getElem?_mapIdx,List.getElem?_map] at hk
   cases hx:r[k]? with
   |none=>rw[hx] at hk;cases hk
   |some x=>
    rw[hx] at hk
    cases hk
    have hxm:=bB.mp (h.mem_iff.mp (List.mem_of_getElem? hx))
    refine⟨[.fz (tupI r),.ow (.list ((cE r (0 + k)).map PyData.int)),.fz (.int k),.fz (.int x)],rfl,?_⟩
    rw[Nat.zero_add]
    refine⟨[.fz (tupI r),.ow (.list ((cE r (k + 1)).map PyData.int)),.fz (.int k),.fz (.int x)],0,?_,_,_,rfl,rfl⟩
    rw[tD (ds:=(cE r k).map PyData.int) (d:=.int k) (k:=x) (n:=x.toNat) (β1:=0) (β2:=0) rfl (by rfl) rfl (by rfl) ?b]
    ·rw[<-pN h hx,List.map_set];rfl
    case b=>
     unfold qj
     rw[if_pos hxm.1,if_pos (by rw[List.length_map];unfold cE;simp;omega)])
 have hle:(gk (r.map PyData.int)).length=r.length:=by unfold gk;simp
 rw[Nat.zero_add,hle,sA h] at ef
 rw[aO (env':=[.fz (tupI r),.ow (.list ((lD r).map PyData.int)),s,t]) (β':=0) (by
  rw[ib (env:=[.fz (tupI r),.ow (.list ((cE r 0).map PyData.int)),.no,.no]) ee]
  exact ef)]
 rfl
theorem zE {n:Nat}{r:List Int}(h:r.Perm (dg n)){a b:Int}(ha:0<=a/\a < n)(hb:0<=b/\b < n){fp fa fb:VF D}{vs:List Nv}{β:Int}(hp:fp vs β=.ok (.list ((lD r).map PyData.int)) β)(h1:fa vs β=.ok (.int a) β)(h2:fb vs β=.ok (.int b) β) :
  f2 (f2 fp fa mI) (f2 fp fb mI) vW vs β=.ok (.bool (decide (r.idxOf a < r.idxOf b))) β:=by
 refine az (az hp h1 (show gE ((lD r).map PyData.int) a=_ by rw[i9,uq h ha];rfl)) (az hp h2 (show gE ((lD r).map PyData.int) b=_ by rw[i9,uq h hb];rfl)) ?_
 show some (PyData.bool (decide (((r.idxOf a:Nat):Int) < ((r.idxOf b:Nat):Int))))=_
 congr 2
 rw[Bool.eq_iff_iff,decide_eq_true_eq,decide_eq_true_eq]
 omega
def Gt (d:D):Prop:=bt d=false/\∀ds,d=.list ds->ds.length<=100/\∀e,e∈ds->Ge e
def rz (rs:List (List Int))(p:Pr):Bool:=rs.all fun r=>decide (r.idxOf p.1 < r.idxOf p.2)
def B3:List D->FR:=bu 3 3 bX
theorem qJ {α:Type}{fa:VF D}{vs:List Nv}{β:Int}{l:List α}{f:α->Bool}(h:fa vs β=.ok (.list (l.map fun q=>PyData.bool (f q))) β):f1 fa (eT fun bs=>bs.all id) vs β=.ok (.bool (l.all f)) β:=by
 refine bC h ?_
 simp only[eT]
 rw[iN]
 simp[List.all_map,Function.comp_def]
theorem Dh {n:Nat}{rs:List (List Int)}(hz:rs.length<=100)(hp:∀r,r∈rs->r.Perm (dg n)){a b:Int}(ha:0<=a/\a < n)(hb:0<=b/\b < n):B3 [.list (rs.map fun r=>.list ((lD r).map PyData.int)),.int a,.int b]=.ok (.bool (rz rs (a,b))) false:=by
 show fin (bX [.fz (.list (rs.map fun r=>.list ((lD r).map PyData.int))),.fz (.int a),.fz (.int b)] 0)=_
 unfold bX
 have ec:ba 1 [1,2] (.nm 0) (dE (gv 0)) qh (f2 (f2 (gv 0) (gv 1) mI) (f2 (gv 0) (gv 2) mI) vW) (vl [.fz (.list (rs.map fun r=>.list ((lD r).map PyData.int))),.fz (.int a),.fz (.int b)]) 0=.ok (.list (rs.map fun r=>PyData.bool (decide (r.idxOf a < r.idxOf b)))) 0:=
  eN (l:=rs) (e:=fun r=>.list ((lD r).map PyData.int)) (fun r=>PyData.bool (decide (r.idxOf a < r.idxOf b))) rfl (by omega) fun r hr=>⟨_,rfl,zE (hp r hr) ha hb rfl rfl rfl⟩
 rw[eQ,qJ ec];rfl
noncomputable def BN:List D->FR:=bu 3 2 (bZ Ca mh B3)
theorem Bo {n:Nat}{rs:List (List Int)}(h1:1<=n)(h8:n<=8)(hz:rs.length<=100)(hp:∀r,r∈rs->r.Perm (dg n)):BN [.int n,.list (rs.map tupI)]=.ok (.tuple (((OM.bJ n).filter (rz rs)).map e6)) false:=by
 show fin (bZ Ca mh B3 [.fz (.int n),.fz (.list (rs.map tupI)),.no] 0)=_
 unfold bZ
 have e1:ba 1 [] (.nm 0) (dE (gv 1)) qh (aJ Ca (ae (gv 0) au)) (vl [.fz (.int n),.fz (.list (rs.map tupI)),.no]) 0=.ok (.list (rs.map fun r=>.list ((lD r).map PyData.int))) 0:=
  eN (l:=rs) (e:=tupI) (fun r=>.list ((lD r).map PyData.int)) rfl (by omega) fun r hr=>⟨_,rfl,aK (ds:=[tupI r]) rfl (Co (by omega) (hp r hr))⟩
 rw[aO (env':=[.fz (.int n),.fz (.list (rs.map tupI)),.fz (.list (rs.map fun r=>.list ((lD r).map PyData.int)))]) (β':=0) (by rw[qm,e1];rfl)]
 have hg:(OM.bJ n).length<=64:=by rw[ia];exact Nat.mul_le_mul h8 h8
 have e2:ba 2 [2] (.two 0 1) (dE (aJ mh (ae (gv 0) au))) (vm (aJ B3 (ae (gv 2) (ae (gv 0) (ae (gv 1) au))))) (dB (ae (gv 0) (ae (gv 1) au))) (vl [.fz (.int n),.fz (.list (rs.map tupI)),.fz (.list (rs.map fun r=>.list ((lD r).map PyData.int)))]) 0=.ok (.list (((OM.bJ n).filter (rz rs)).map e6)) 0:=by
  refine jG (l:=OM.bJ n) (e:=e6) (rz rs) e6 ?_ (by omega) fun p hp'=>⟨_,rfl,?_,fun _=>j0 rfl rfl⟩
  ·unfold dE
   rw[aK (ds:=[.int n]) (β1:=0) rfl (wF h1 h8)];rfl
  ·have:=OM.cZ.mp hp'
   exact iU (aK (ds:=[.list (rs.map fun r=>.list ((lD r).map PyData.int)),.int p.1,.int p.2]) rfl (Dh hz hp this.1 this.2))
 rw[eQ,bC (g:=dD) e2 rfl];rfl
end RM

end

section
namespace RM
open PySem L2
theorem ux {a b:List D}(h:a.length + b.length<=1000):jQ (.tuple a) (.tuple b)=some (.tuple (a ++ b)):=if_pos (by rw[sizeLine_eq];omega)
def B0 (l:List Pr)(r:List Int)(x:Int):List Int:=(l.filter fun p=>decide (p.2=x) && !decide (p.1∈r)).map (·.1)
theorem wM {l:List Pr}{r:List Int}{x a:Int}:a∈B0 l r x↔(a,x)∈l/\a∉r:=by
 unfold B0
 rw[List.mem_map]
 constructor
 ·rintro⟨p,hp,rfl⟩
  have:=List.mem_filter.mp hp
  simp only[Bool.and_eq_true,decide_eq_true_eq,Bool.not_eq_true',decide_eq_false_iff_not] at this
  obtain⟨pa,pb⟩:=p
  obtain⟨h1,h2,h3⟩:=this
  simp only at h2 h3
  subst h2
  exact⟨h1,h3⟩
 ·rintro⟨h1,h2⟩
  exact⟨(a,x),List.mem_filter.mpr ⟨h1,by simp[h2]⟩,rfl⟩
structure A3 (n:Nat)(l:List Pr)(r:List Int):Prop where
 nd:r.Nodup
 inn:∀x,x∈r->0<=x/\x < (n:Int)
 fit:∀p,p∈l->p.2∈r->p.1∈r/\r.idxOf p.1 < r.idxOf p.2
theorem A3.len {n:Nat}{l:List Pr}{r:List Int}(B:A3 n l r):r.length<=n:=by
 have:=L2.ST.fS B.nd (m:=dg n) fun x hx=>bB.mpr (B.inn x hx)
 rwa [cz] at this
def ym (l:List Pr)(r:List Int)(x:Int):Bool:= !decide (x∈r) && decide (B0 l r x= [])
theorem A3.more {n:Nat}{l:List Pr}{r:List Int}{x:Int}(B:A3 n l r)(hx:0<=x/\x < (n:Int))(hf:ym l r x=true):A3 n l (r ++ [x]):=by
 unfold ym at hf
 rw[Bool.and_eq_true,Bool.not_eq_true',decide_eq_false_iff_not,decide_eq_true_eq] at hf
 obtain⟨h1,h2⟩:=hf
 refine⟨?_,fun y hy=>?_,fun p hp hm=>?_⟩
 ·rw[List.nodup_append]
  refine⟨B.nd,List.nodup_cons.mpr ⟨by simp,List.nodup_nil⟩,fun a ha b hb=>?_⟩
  rw[List.mem_singleton] at hb
  subst hb
  exact fun q=>h1 (q▸ha)
 ·rcases List.mem_append.mp hy with hy |hy
  ·exact B.inn y hy
  ·rw[List.mem_singleton] at hy;subst hy;exact hx
 ·rcases List.mem_append.mp hm with hm |hm
  ·obtain⟨q1,q2⟩:=B.fit p hp hm
   refine⟨List.mem_append_left _ q1,?_⟩
   rw[List.idxOf_append,List.idxOf_append,if_pos q1,if_pos hm]
   exact q2
  ·rw[List.mem_singleton] at hm
   have hp1:p.1∈r:=by
    by_cases z:p.1∈r
    ·exact z
    ·have:p.1∈B0 l r x:=wM.mpr ⟨by rw[<-hm];exact hp,z⟩
     rw[h2] at this;cases this
   refine⟨List.mem_append_left _ hp1,?_⟩
   rw[List.idxOf_append,List.idxOf_append,if_pos hp1,if_neg (by rw[hm];exact h1)]
   have:=List.idxOf_lt_length_iff.mpr hp1
   omega
end RM

end

section
namespace RM
open PySem L2
theorem mU:∀rs:List (List Int),PyData.canLayAll0 (rs.map tupI)=true
 | []=>rfl
 |r :: rs=>by
  show ((tupI r).canLay0 && PyData.canLayAll0 (rs.map tupI))=true
  rw[mU rs,show (tupI r).canLay0=true by unfold tupI;simp only[PyData.canLay0];exact lay_ints r];rfl
theorem xh (r:List Int):(tupI r).depth=1:=by unfold tupI;simp only[PyData.depth];rw[jt]
theorem nG:∀rs:List (List Int),PyData.depthAll (rs.map tupI)<=1
 | []=>by show (0:Nat)<=1;omega
 |r :: rs=>by
  show max (tupI r).depth (PyData.depthAll (rs.map tupI))<=1
  have h1:=xh r
  have h2:=nG rs
  omega
theorem iX (rs:List (List Int)):SeqAt.shaped (.list (rs.map tupI))=true:=by
 unfold SeqAt.shaped
 have h1:(PyData.list (rs.map tupI)).canLay0=true:=by simp only[PyData.canLay0];exact mU rs
 have h2:(PyData.list (rs.map tupI)).depth<=64:=by simp only[PyData.depth];have:=nG rs;omega
 rw[h1,decide_eq_true h2];rfl
theorem xB (r q:List Int):PyData.eqv (tupI r) (tupI q)=decide (r=q):=by
 unfold tupI
 simp only[PyData.eqv,j7]
theorem nH:∀l m:List (List Int),PyData.eqvAll (l.map tupI) (m.map tupI)=decide (l=m)
 | [],[]=>rfl
 | [],_ :: _=>rfl
 |_ :: _,[]=>rfl
 |p :: l,q :: m=>by
  show (PyData.eqv (tupI p) (tupI q) && PyData.eqvAll (l.map tupI) (m.map tupI))=_
  rw[xB,nH l m,Bool.eq_iff_iff]
  simp
theorem u9 (neg:Bool)(l m:List (List Int)):gQ neg (.list (l.map tupI)) (.list (m.map tupI))=some (.bool (if neg then !decide (l=m) else decide (l=m))):=by
 unfold gQ
 rw[iX,iX]
 simp only[Bool.and_self,if_true,PyData.eqv,nH]
theorem uw {fa fb:VF D}{vs:List Nv}{β:Int}{ds:List D}{i:Nat}(ha:fa vs β=.ok (.tuple ds) β)(hb:fb vs β=.ok (.int ((i:Nat):Int)) β):nS fa (qx fb) (fun _ β=>.ok none β) vs β=.ok (.tuple (ds.drop i)) β:=by
 unfold nS qx
 rw[ha];dsimp only[R.bnd]
 rw[hb];dsimp only[R.bnd]
 congr 2
 unfold cutD
 rw[HT.hW,HT.l9]
 by_cases h:i<=ds.length
 ·rw[Nat.min_eq_left h];exact List.take_of_length_le (by rw[List.length_drop];omega)
 ·rw[Nat.min_eq_right (by omega),List.drop_length,List.drop_of_length_le (by omega)];simp
theorem tQ {fa fb:VF D}{vs:List Nv}{β:Int}{ds:List D}(hne:ds≠ [])(ha:fa vs β=.ok (.tuple ds) β)(hb:fb vs β=.ok (.int (-1)) β):nS fa (fun _ β=>.ok none β) (qx fb) vs β=.ok (.tuple (ds.take (ds.length - 1))) β:=by
 have hp:=List.length_pos_iff.mpr hne
 unfold nS qx
 rw[ha];dsimp only[R.bnd]
 rw[hb];dsimp only[R.bnd]
 congr 2
 unfold cutD
 rw[HT.hW]
 have:HT.bF ds.length ds.length (some (-1))=ds.length - 1:=by
  show (if (-1:Int) < 0 then ((-1:Int) + (ds.length:Int)).toNat else min (-1:Int).toNat ds.length)=_
  rw[if_pos (by omega)];omega
 rw[this,List.drop_zero,Nat.sub_zero]
end RM

end

section
namespace RM
open PySem L2
structure WP (r:SO)(Q:SO->Prop):Prop where
 out:Q r
section
variable {m m' m1 m2:SF}{env env1:En}{β β1 β2 z:Int}{Q:SO->Prop}{f fa fb:VF D}{t:VF Bool}{d e:D}{L La Lb:List Nat}{i j:Nat}{c:Bool}
theorem wp_at (env1:En)(e:env=env1)(k:WP (m env1 β) Q):WP (m env β) Q:=by rw[e];exact k
theorem wp_seq (h:m env β=.nx env1 β1)(k:WP (m' env1 β1) Q):WP (aG m m' env β) Q:=by rw[aO h];exact k
theorem o5 (h:WP (aG m mH env β) Q):WP (m env β) Q:=by
 obtain⟨h⟩:=h
 unfold aG at h
 cases e:m env β with
 |_=>rw[e] at h;exact⟨h⟩
theorem tE (q:Q (.nx env β)):WP (mH env β) Q:=⟨q⟩
theorem iz (h:f (vl env) β=.ok d β1)(k:WP (m' ((aC L env).set i (.fz d)) β1) Q):WP (aG (df i L f) m' env β) Q:=wp_seq (by unfold df;rw[h];rfl) k
theorem qX (h:f (vl env) β=.ok d β1)(k:WP (m' ((aC L env).set i (.ow d)) β1) Q):WP (aG (gr i L f) m' env β) Q:=wp_seq (by unfold gr;rw[h];rfl) k
theorem xO (h:f (vl env) β=.ok (.list [.int z]) β1)(k:WP (m' ((kg (aC L env)).set i .bx) z) Q):WP (aG (qp i L f) m' env β) Q:=wp_seq (by unfold qp;rw[h];rfl) k
theorem y6 (h:fa (vl env) β=.ok d β1)(h':fb (vl env) β1=.ok e β2)(k:WP (m' (((aC (La ++ Lb) env).set i (.fz d)).set j (.fz e)) β2) Q):WP (aG (qb i j La Lb fa fb) m' env β) Q:=wp_seq (by unfold qb;rw[h];dsimp only[toS];rw[h']) k
theorem yZ {ds:List D}(hi:env[i]? =some (.ow (.list ds)))(h:f (vl env) β=.ok d β1)(hL:(aC L env)[i]? =some (.ow (.list ds)))(hz:ds.length<=1000)(k:WP (m' ((aC L env).set i (.ow (.list (ds ++ [d])))) β1) Q):WP (aG (lJ i L f) m' env β) Q:=wp_seq (rf hi h hL hz) k
theorem eJ (h:t (vl env) β=.ok false β1)(k:WP (m' (aC L env) β1) Q):WP (aG (j8 L t m1 mH) m' env β) Q:=wp_seq (by rw[mW h];rfl) k
theorem jj (h:t (vl env) β=.ok true β1)(k:WP (aG m1 m' (aC L env) β1) Q):WP (aG (j8 L t m1 m2) m' env β) Q:=by
 have:aG (j8 L t m1 m2) m' env β=aG m1 m' (aC L env) β1:=by unfold aG;rw[ly h]
 rw[this];exact k
theorem uP (h:f (vl env) β=.ok d β1)(q:Q (.rt d false β1)):WP (cn f env β) Q:=⟨by unfold cn;rw[h];exact q⟩
theorem l0 {R:FR}(h:WP (m env β) fun r=>fin r=R):fin (m env β)=R:=h.out
theorem o7 {t:Tg}{fi:VF (List D)}{ds:List D}(I:Nat->En->Int->Prop)(hi:fi (vl env) β=.ok ds β1)(h0:I 0 (aC L env) β1)
  (hs:∀i d env β,ds[i]? =some d->I i env β->∃env1,cY t d env=some env1/\WP (m env1 β) fun r=>∃env2 β2,r=.nx env2 β2/\I (i + 1) env2 β2)
  (k:∀env β,I ds.length env β->WP (m' env β) Q):WP (aG (e7 t L fi m) m' env β) Q:=by
 obtain⟨env',β',e,h⟩:=dR (t:=t) (m:=m) I (ds:=ds) (k:=0) h0 fun i d env β hd h=>by
  rw[Nat.zero_add] at h
  obtain⟨env1,e1,⟨env2,β2,e2,h2⟩⟩:=hs i d env β hd h
  exact⟨env1,e1,env2,β2,e2,by rw[Nat.zero_add];exact h2⟩
 rw[Nat.zero_add] at h
 exact wp_seq ((ib hi).trans e) (k _ _ h)
end
theorem uM (c:Int)(hc:0<=c/\c<=100)(ns:List Int)(vs:List Nv)(β:Int)(h:gv 0 vs β=.ok (bh ns) β):∃m:Nat,m<=101/\dO (f2 (cst (.int 1)) (f2 (f1 (gv 0) dP) (cst (.int c)) (qU fun i j=>.int (if j < i then j else i))) (qU fun i j=>.int (if j > i then j else i))) vs β=.ok (cG 0 m) β:=by
 have e1:f2 (cst (.int 1)) (f2 (f1 (gv 0) dP) (cst (.int c)) (qU fun i j=>.int (if j < i then j else i))) (qU fun i j=>.int (if j > i then j else i)) vs β=.ok (.int (if (if c < ((ns.map PyData.int).length:Int) then c else ((ns.map PyData.int).length:Int)) > 1 then (if c < ((ns.map PyData.int).length:Int) then c else ((ns.map PyData.int).length:Int)) else 1)) β:=
  az (x:=.int 1) rfl (az (x:=.int (ns.map PyData.int).length) (y:=.int c) (bC h rfl) rfl rfl) rfl
 generalize ((ns.map PyData.int).length:Nat)=k at e1
 refine⟨(if (if c < (k:Int) then c else (k:Int)) > 1 then (if c < (k:Int) then c else (k:Int)) else 1).toNat,?_,fF (e1.trans ?_) ?_⟩
 ·split <;> split <;> omega
 ·congr 2
  split <;> split <;> omega
 ·split <;> split <;> omega
end RM

end

section

end

section
namespace RM
open PySem L2
def It (d:D):Prop:=bt d=false/\Sq 400 8 d/\Bf d
def Th (d:D):Prop:=Ge d/\Sq 10000 9 d/\Bf d
def Ap (P:D->Prop)(k:Nat)(es:List D):Prop:=es.length<=k/\∀x,x∈es->P x
abbrev Al:Nat->List D->Prop:=Ap It
theorem ou.it {d:D}(h:ou d):It d:=⟨h.scr,h.sq.mono (by omega) (by omega),h.bf⟩
theorem zD {i:Int}(h: -1<=i/\i<=9):It (.int i):=(dk h).it
theorem Ap.app {P:D->Prop}{k j:Nat}{a b:List D}(h:Ap P k a)(h':Ap P j b):Ap P (k + j) (a ++ b):=⟨by have:=h.1;have:=h'.1;rw[List.length_append];omega,fun x hx=>(List.mem_append.mp hx).elim (h.2 x) (h'.2 x)⟩
theorem Ap.take {P:D->Prop}{k:Nat}{a:List D}(h:Ap P k a)(n:Nat):Ap P k (a.take n):=⟨by have:=h.1;rw[List.length_take];omega,fun x hx=>h.2 x (List.mem_of_mem_take hx)⟩
theorem Ap.drop {P:D->Prop}{k:Nat}{a:List D}(h:Ap P k a)(n:Nat):Ap P k (a.drop n):=⟨by have:=h.1;rw[List.length_drop];omega,fun x hx=>h.2 x (List.mem_of_mem_drop hx)⟩
theorem Ap.set {P:D->Prop}{k:Nat}{a:List D}(h:Ap P k a)(n:Nat){d:D}(hd:P d):Ap P k (a.set n d):=⟨by rw[List.length_set];exact h.1,fun x hx=>(List.mem_or_eq_of_mem_set hx).elim (h.2 x) fun e=>e▸hd⟩
theorem mD {P:D->Prop}{d:D}(h:P d):Ap P 1 [d]:=⟨Nat.le_refl _,fun x hx=>by rw[List.mem_singleton] at hx;exact hx▸h⟩
theorem zS {P:D->Prop}:Ap P 0 []:=⟨Nat.le_refl _,fun x hx=>by cases hx⟩
theorem wb {k:Nat}{r:List Int}(hl:r.length<=k)(h:∀x,x∈r->0<=x/\x < 9):Al k (r.map PyData.int):=⟨by rw[List.length_map];exact hl,fun x hx=>by
 obtain⟨y,hy,rfl⟩:=List.mem_map.mp hx
 exact zD (by have:=h y hy;omega)⟩
theorem Ap.tup {k:Nat}{a:List D}(h:Al k a)(hk:k<=24):Th (.tuple a):=by
 have:=h.1
 refine⟨pK (by omega) fun x hx=>(h.2 x hx).1,(fG (c:=400) (k:=8) fun d hd=>(h.2 d hd).2.1).mono ?_ (by omega),mr fun d hd=>(h.2 d hd).2.2⟩
 have:(400 + 2) * a.length<=402 * 24:=Nat.mul_le_mul (by omega) (by omega)
 omega
theorem Ap.lst {k:Nat}{a:List D}(h:Al k a)(hk:k<=24):Th (.list a):=by
 have:=h.1
 refine⟨⟨rfl,fun es' e=>by cases e⟩,(o9 (c:=400) (k:=8) fun d hd=>(h.2 d hd).2.1).mono ?_ (by omega),oI fun d hd=>(h.2 d hd).2.2⟩
 have:(400 + 2) * a.length<=402 * 24:=Nat.mul_le_mul (by omega) (by omega)
 omega
theorem yN {r:List Int}(hl:r.length<=9)(h:∀x,x∈r->0<=x/\x < 9):It (tupI r):=by
 have sm:∀d,d∈r.map PyData.int->ou d:=fun d hd=>by
  obtain⟨y,hy,rfl⟩:=List.mem_map.mp hd
  exact dk (by have:=h y hy;omega)
 refine⟨rfl,(fG (c:=20) (k:=0) fun d hd=>(sm d hd).sq).mono ?_ (by omega),mr fun d hd=>(sm d hd).bf⟩
 rw[List.length_map]
 have:(20 + 2) * r.length<=22 * 9:=Nat.mul_le_mul (by omega) hl
 omega
theorem qI {n:Nat}{r:List Int}(h8:n<=8)(hp:r.Perm (dg n)):r.length=n/\∀x,x∈r->0<=x/\x < 9:=⟨by rw[hp.length_eq,cz],fun x hx=>by have:=bB.mp (hp.mem_iff.mp hx);omega⟩
theorem uX {ds:List D}{k:Nat}(h:k < ds.length):∃d,ds[k]? =some d/\d∈ds/\gE ds (k:Int)=some d:=⟨ds[k],List.getElem?_eq_getElem h,List.getElem_mem h,fU (List.getElem?_eq_getElem h)⟩
theorem BD {fa fb:VF D}{vs:List Nv}{β:Int}{ds:List D}{i:Nat}(ha:fa vs β=.ok (.tuple ds) β)(hb:fb vs β=.ok (.int (i:Nat)) β):nS fa (qx fb) (fun _ β=>.ok none β) vs β=.ok (.tuple (ds.drop i)) β:=uw ha hb
theorem vh {fa fb:VF D}{vs:List Nv}{β β1 β2:Int}{a b:List D}(h1:fa vs β=.ok (.tuple a) β1)(h2:fb vs β1=.ok (.tuple b) β2)(hz:a.length + b.length<=1000):f2 fa fb jQ vs β=.ok (.tuple (a ++ b)) β2:=az h1 h2 (ux hz)
theorem yd {fa fb:VF D}{vs:List Nv}{β β1 β2:Int}{a b:List D}(h1:fa vs β=.ok (.list a) β1)(h2:fb vs β1=.ok (.list b) β2)(hz:a.length + b.length<=1000):f2 fa fb sI vs β=.ok (.list (a ++ b)) β2:=az h1 h2 (wA (by omega))
theorem DF {fa:VF D}{vs:List Nv}{β:Int}{i:Nat}(h:fa vs β=.ok (.int (i:Nat)) β):f2 fa (cst (.int 1)) cJ vs β=.ok (.int ((i + 1:Nat):Int)) β:=az h rfl (by show some (PyData.int ((i:Int) + 1))=_;rw[show ((i + 1:Nat):Int)=(i:Int) + 1 by omega])
end RM

end

section
namespace RM
open PySem L2
def Ig (d:D):Prop:=Ge d/\Sq 400 8 d/\Bf d
def Tl (d:D):Prop:=Gt d/\Sq 30000 9 d/\Bf d
theorem uJ {r:List Int}(hl:r.length<=9)(h:∀x,x∈r->0<=x/\x < 9):Ig (tupI r):=⟨(wb (k:=9) hl h).tup (by omega) |>.1,(yN hl h).2⟩
theorem Ap.tl {k:Nat}{a:List D}(h:Ap Ig k a)(hk:k<=60):Tl (.list a):=by
 have:=h.1
 refine⟨⟨rfl,fun es e=>by cases e;exact⟨by omega,fun x hx=>(h.2 x hx).1⟩⟩,(o9 (c:=400) (k:=8) fun d hd=>(h.2 d hd).2.1).mono ?_ (by omega),oI fun d hd=>(h.2 d hd).2.2⟩
 have:(400 + 2) * a.length<=402 * 60:=Nat.mul_le_mul (by omega) (by omega)
 omega
theorem Ap.igT {k:Nat}{a:List D}(h:Ap ou k a)(hk:k<=18):Ig (.tuple a):=by
 have:=h.1
 refine⟨pK (by omega) fun x hx=>(h.2 x hx).scr,(fG (c:=20) (k:=0) fun d hd=>(h.2 d hd).sq).mono ?_ (by omega),mr fun d hd=>(h.2 d hd).bf⟩
 have:(20 + 2) * a.length<=22 * 18:=Nat.mul_le_mul (by omega) (by omega)
 omega
theorem Ap.igL {k:Nat}{a:List D}(h:Ap ou k a)(hk:k<=18):Ig (.list a):=by
 have:=h.1
 refine⟨⟨rfl,fun es' e=>by cases e⟩,(o9 (c:=20) (k:=0) fun d hd=>(h.2 d hd).sq).mono ?_ (by omega),oI fun d hd=>(h.2 d hd).bf⟩
 have:(20 + 2) * a.length<=22 * 18:=Nat.mul_le_mul (by omega) (by omega)
 omega
theorem wt {k:Nat}{r:List Int}(hl:r.length<=k)(h:∀x,x∈r->0<=x/\x < 9):Ap ou k (r.map PyData.int):=⟨by rw[List.length_map];exact hl,fun x hx=>by
 obtain⟨y,hy,rfl⟩:=List.mem_map.mp hx
 exact dk (by have:=h y hy;omega)⟩
end RM

end

section
namespace RM
open PySem L2
def hV (rows:List (List Int))(p:Pr):Bool:= !decide (p.1=p.2) && (rows.filter fun r=>decide (r.idxOf p.1 > r.idxOf p.2)).isEmpty
def tR:List D->FR:=bu 6 2 cy
theorem zG {n:Nat}{rows:List (List Int)}(h8:n<=8)(hr:rows.length<=100)(hp:∀r,r∈rows->r.Perm (dg n)):tR [.int n,.list (rows.map tupI)]=.ok (.tuple (((OM.bJ n).filter (hV rows)).map e6)) false:=by
 show fin (cy [.fz (.int n),.fz (.list (rows.map tupI)),.no,.no,.no,.no] 0)=_
 unfold cy
 rw[aO (env':=[.fz (.int n),.fz (.list (rows.map tupI)),.ow (.list []),.no,.no,.no]) (β':=0) ?g1]
 case g1=>rw[ni,cL (ds:=[]) rfl (by simp)];rfl
 obtain⟨env',β',ef,s,t,u,rfl,rfl⟩:=dR (t:=.nm 3) (m:=e7 (.nm 4) [] (dO (gv 0))
   (aG (df 5 ([] ++ []) (ba 1 [3,4] (.nm 0) (dE (gv 1)) (fw (f2 (iC (gv 0) (gv 1)) (iC (gv 0) (gv 2)) Av)) (cst (.int 1))))
   (j8 (([] ++ []) ++ ([] ++ [])) (Ak (fw (f2 (gv 3) (gv 4) (gQ true))) (fw (f2 (gv 5) (bG au) (gQ false))))
   (lJ 2 ([3] ++ ([4] ++ [])) (dB (ae (gv 3) (ae (gv 4) au))))
   mH))) (ds:=cG 0 n) (k:=0)
  (fun i env β=>∃s t u:Sl,env= [.fz (.int n),.fz (.list (rows.map tupI)),.ow (.list ((upTo n (hV rows) i 0).map e6)),s,t,u]/\β=0)
  (env:=[.fz (.int n),.fz (.list (rows.map tupI)),.ow (.list []),.no,.no,.no]) (β:=0) ⟨.no,.no,.no,by rw[rL];rfl,rfl⟩ (by
   rintro i d env β hi ⟨s,t,u,rfl,rfl⟩
   obtain⟨hin,rfl⟩:=g8 hi
   refine⟨[.fz (.int n),.fz (.list (rows.map tupI)),.ow (.list ((upTo n (hV rows) (0 + i) 0).map e6)),.fz (.int (0 + (i:Int))),t,u],rfl,?_⟩
   rw[Nat.zero_add,Int.zero_add]
   obtain⟨env',β',ef,t2,u2,rfl,rfl⟩:=dR (t:=.nm 4) (m:=aG (df 5 ([] ++ []) (ba 1 [3,4] (.nm 0) (dE (gv 1)) (fw (f2 (iC (gv 0) (gv 1)) (iC (gv 0) (gv 2)) Av)) (cst (.int 1))))
     (j8 (([] ++ []) ++ ([] ++ [])) (Ak (fw (f2 (gv 3) (gv 4) (gQ true))) (fw (f2 (gv 5) (bG au) (gQ false))))
     (lJ 2 ([3] ++ ([4] ++ [])) (dB (ae (gv 3) (ae (gv 4) au))))
     mH)) (ds:=cG 0 n) (k:=0)
    (fun k env β=>∃t u:Sl,env= [.fz (.int n),.fz (.list (rows.map tupI)),.ow (.list ((upTo n (hV rows) i k).map e6)),.fz (.int i),t,u]/\β=0)
    (env:=[.fz (.int n),.fz (.list (rows.map tupI)),.ow (.list ((upTo n (hV rows) i 0).map e6)),.fz (.int i),t,u]) (β:=0) ⟨t,u,rfl,rfl⟩ (by
     rintro k d env β hk ⟨t,u,rfl,rfl⟩
     obtain⟨hkn,rfl⟩:=g8 hk
     refine⟨[.fz (.int n),.fz (.list (rows.map tupI)),.ow (.list ((upTo n (hV rows) i (0 + k)).map e6)),.fz (.int i),.fz (.int (0 + (k:Int))),u],rfl,?_⟩
     rw[Nat.zero_add,Int.zero_add]
     have ec:ba 1 [3,4] (.nm 0) (dE (gv 1)) (fw (f2 (iC (gv 0) (gv 1)) (iC (gv 0) (gv 2)) Av)) (cst (.int 1)) [.da (.int n),.da (.list (rows.map tupI)),.da (.list ((upTo n (hV rows) i k).map e6)),.da (.int i),.da (.int k),u.val] 0=.ok (.list ((rows.filter fun r=>decide (r.idxOf (i:Int) > r.idxOf (k:Int))).map fun _=>PyData.int 1)) 0:=by
      refine jG (l:=rows) (e:=tupI) (fun r=>decide (r.idxOf (i:Int) > r.idxOf (k:Int))) (fun _=>PyData.int 1) rfl (by omega) fun r hr=>⟨_,rfl,?_,fun _=>rfl⟩
      have hp:=hp r hr
      refine dF _ _ _ _ (az (qk (r:=r) (k:=i) rfl rfl (hp.mem_iff.mpr (bB.mpr ⟨by omega,by omega⟩))) (qk (r:=r) (k:=k) rfl rfl (hp.mem_iff.mpr (bB.mpr ⟨by omega,by omega⟩))) ?_)
      show some (PyData.bool (decide (((r.idxOf (i:Int):Nat):Int) > ((r.idxOf (k:Int):Nat):Int))))=_
      congr 2
      rw[Bool.eq_iff_iff,decide_eq_true_eq,decide_eq_true_eq]
      omega
     rw[aO (env':=[.fz (.int n),.fz (.list (rows.map tupI)),.ow (.list ((upTo n (hV rows) i k).map e6)),.fz (.int i),.fz (.int k),.fz (.list ((rows.filter fun r=>decide (r.idxOf (i:Int) > r.idxOf (k:Int))).map fun _=>PyData.int 1))]) (β':=0) ?g]
     case g=>
      rw[qm]
      show toS (ba 1 [3,4] (.nm 0) (dE (gv 1)) (fw (f2 (iC (gv 0) (gv 1)) (iC (gv 0) (gv 2)) Av)) (cst (.int 1)) [.da (.int n),.da (.list (rows.map tupI)),.da (.list ((upTo n (hV rows) i k).map e6)),.da (.int i),.da (.int k),u.val] 0) _=_
      rw[ec];rfl
     generalize hL:(rows.filter fun r=>decide (r.idxOf (i:Int) > r.idxOf (k:Int)))=L
     have et:Ak (fw (f2 (gv 3) (gv 4) (gQ true))) (fw (f2 (gv 5) (bG au) (gQ false))) (vl [.fz (.int n),.fz (.list (rows.map tupI)),.ow (.list ((upTo n (hV rows) i k).map e6)),.fz (.int i),.fz (.int k),.fz (.list (L.map fun _=>PyData.int 1))]) 0=.ok (hV rows ((i:Int),(k:Int))) 0:=by
      have h1:fw (f2 (gv 5) (bG au) (gQ false)) (vl [.fz (.int n),.fz (.list (rows.map tupI)),.ow (.list ((upTo n (hV rows) i k).map e6)),.fz (.int i),.fz (.int k),.fz (.list (L.map fun _=>PyData.int 1))]) 0=.ok L.isEmpty 0:=by
       refine dF _ _ _ _ (az (x:=.list (L.map fun _=>PyData.int 1)) (y:=.list []) rfl (cL (ds:=[]) rfl (by simp)) ?_)
       have e9:(L.map fun _=>PyData.int 1)=(L.map fun _=>(1:Int)).map PyData.int:=by rw[List.map_map];rfl
       rw[e9,show ([]:List D)=([]:List Int).map PyData.int from rfl,nW]
       congr 2
       cases L <;> simp
      have:=zX (g9 (neg:=true) (fa:=gv 3) (fb:=gv 4) (vs:=vl [.fz (.int n),.fz (.list (rows.map tupI)),.ow (.list ((upTo n (hV rows) i k).map e6)),.fz (.int i),.fz (.int k),.fz (.list (L.map fun _=>PyData.int 1))]) (β:=0) (i:=i) (j:=k) rfl rfl) h1
      rw[this]
      unfold hV
      rw[hL];rfl
     cases c:hV rows ((i:Int),(k:Int)) with
     |true=>
      rw[c] at et
      refine⟨[.fz (.int n),.fz (.list (rows.map tupI)),.ow (.list ((upTo n (hV rows) i (k + 1)).map e6)),.fz (.int i),.fz (.int k),.fz (.list (L.map fun _=>PyData.int 1))],0,?_,_,_,rfl,rfl⟩
      rw[ly et]
      have:=rf (i:=2) (L:=[3] ++ ([4] ++ [])) (env:=[.fz (.int n),.fz (.list (rows.map tupI)),.ow (.list ((upTo n (hV rows) i k).map e6)),.fz (.int i),.fz (.int k),.fz (.list (L.map fun _=>PyData.int 1))]) (ds:=(upTo n (hV rows) i k).map e6) (β:=0) (by rfl) (j0 (fa:=gv 3) (fb:=gv 4) (a:=i) (b:=k) rfl rfl) (by rfl) (by rw[List.length_map];have:=sZ (hV rows) i k h8;omega)
      rw[lj _ hin hkn,if_pos c,List.map_append]
      exact this
     |false=>
      rw[c] at et
      refine⟨[.fz (.int n),.fz (.list (rows.map tupI)),.ow (.list ((upTo n (hV rows) i (k + 1)).map e6)),.fz (.int i),.fz (.int k),.fz (.list (L.map fun _=>PyData.int 1))],0,?_,_,_,rfl,rfl⟩
      have e8:=lj (hV rows) hin hkn
      rw[if_neg (by rw[c];exact Bool.false_ne_true),List.append_nil] at e8
      rw[mW et,e8];rfl)
   rw[gc,Nat.zero_add,vn] at ef
   refine⟨[.fz (.int n),.fz (.list (rows.map tupI)),.ow (.list ((upTo n (hV rows) (i + 1) 0).map e6)),.fz (.int i),t2,u2],0,?_,_,_,_,rfl,rfl⟩
   rw[ib (env:=[.fz (.int n),.fz (.list (rows.map tupI)),.ow (.list ((upTo n (hV rows) i 0).map e6)),.fz (.int i),t,u]) (fF (n:=n) rfl (by omega))]
   exact ef)
 rw[gc,Nat.zero_add,vj] at ef
 rw[aO (env':=[.fz (.int n),.fz (.list (rows.map tupI)),.ow (.list (((OM.bJ n).filter (hV rows)).map e6)),s,t,u]) (β':=0) ?g2]
 case g2=>
  rw[ib (env:=[.fz (.int n),.fz (.list (rows.map tupI)),.ow (.list []),.no,.no,.no]) (fF (n:=n) rfl (by omega))]
  exact ef
 rw[eQ,bC (x:=.list (((OM.bJ n).filter (hV rows)).map e6)) (d:=.tuple (((OM.bJ n).filter (hV rows)).map e6)) (β1:=0) rfl ?g3]
 case g3=>rfl
 rfl
theorem wX {rows:List (List Int)}{p:Pr}:hV rows p=true↔p.1≠p.2/\∀r,r∈rows->r.idxOf p.1<=r.idxOf p.2:=by
 unfold hV
 rw[Bool.and_eq_true,Bool.not_eq_true',decide_eq_false_iff_not,List.isEmpty_iff,List.filter_eq_nil_iff]
 simp only[decide_eq_true_eq,Nat.not_lt,gt_iff_lt]
end RM

end

section
namespace RM
open PySem L2
theorem AM {n:Nat}{rs:List (List Int)}(h1:rs≠ [])(hp:∀r,r∈rs->r.Perm (dg n)):(OM.bJ n).filter (hV rs)=(OM.bJ n).filter (rz rs):=by
 refine List.filter_congr fun p hm=>?_
 have hg:=OM.cZ.mp hm
 rw[Bool.eq_iff_iff,wX]
 unfold rz
 rw[List.all_eq_true]
 constructor
 ·rintro⟨ne,h⟩ r hr
  rw[decide_eq_true_eq]
  refine Nat.lt_of_le_of_ne (h r hr) fun e=>ne ?_
  exact xl ((hp r hr).mem_iff.mpr (bB.mpr hg.1)) ((hp r hr).mem_iff.mpr (bB.mpr hg.2)) e
 ·intro h
  refine⟨fun e=>?_,fun r hr=>Nat.le_of_lt (of_decide_eq_true (h r hr))⟩
  cases rs with
  |nil=>exact h1 rfl
  |cons r rs=>
   have:=of_decide_eq_true (h r (List.mem_cons_self ..))
   rw[e] at this
   omega
end RM

end

section
namespace RM
open PySem L2
theorem qd {m':SF}{env:En}{β:Int}{Q:SO->Prop}{x c:Str}(q:Q (.exc c)):WP (aG (fun env β=>toS ((ae (cst (.str x)) au) (vl env) β) fun ds _=>if ds.length<=sizeLine then .exc c else .bad) m' env β) Q:=⟨by
 unfold aG
 show Q (match (if ([PyData.str x]:List D).length<=sizeLine then SO.exc c else .bad) with | .nx a b=>m' a b |r=>r)
 rw[if_pos (by rw[sizeLine_eq];simp)];exact q⟩
noncomputable def y1:List D->FR:=bu 2 2 (bO fg jF BN)
theorem A7 {d0 d:D}(h:bt d0=false)(hm:nM d0=false):y1 [d0,d]=.exc "NoMany":=by
 show fin (bO fg jF BN [.fz d0,.fz d] 0)=_
 refine l0 ?_
 unfold bO
 have t:=cW (iU (aK (F:=fg) (fr:=ae (gv 0) au) (vs:=vl [.fz d0,.fz d]) (β:=0) (ds:=[d0]) rfl (oX h)))
 rw[hm] at t
 exact jj t (qd rfl)
def Cc (n:Nat)(d:D):Prop:=∃rs:List (List Int),d=.list (rs.map tupI)/\rs≠ []/\∀r,r∈rs->r.Perm (dg n)
theorem kZ {n:Nat}:∀{ds:List D},ds.all (du n)=true->∃rs:List (List Int),ds=rs.map tupI/\∀r,r∈rs->r.Perm (dg n)
 | [],_=>⟨[],rfl,fun r h=>by cases h⟩
 |d :: ds,h=>by
  rw[List.all_cons,Bool.and_eq_true] at h
  obtain⟨r,rfl,hp⟩:=zF h.1
  obtain⟨rs,rfl,hs⟩:=kZ h.2
  exact⟨r :: rs,rfl,fun q hq=>(List.mem_cons.mp hq).elim (fun e=>e▸hp) (hs q)⟩
theorem qF {n:Nat}{d:D}{Q:SO->Prop}{m':SF}{m1:SF}(h1:1<=n)(h8:n<=8)(k:WP (m' [.fz (.int n),.fz d] 0) Q):WP (aG (j8 ([0] ++ []) (yf (vm (aJ fg (ae (gv 0) au)))) m1 mH) m' [.fz (.int n),.fz d] 0) Q:=by
 have t:=cW (iU (aK (F:=fg) (fr:=ae (gv 0) au) (vs:=vl [.fz (.int n),.fz d]) (β:=0) (ds:=[.int n]) rfl (uz h1 h8)))
 exact eJ t k
theorem Bh {n:Nat}{d:D}(h1:1<=n)(h8:n<=8)(h:Gt d)(hb:¬Cc n d):y1 [.int n,d]=.exc "NoRows":=by
 show fin (bO fg jF BN [.fz (.int n),.fz d] 0)=_
 refine l0 ?_
 unfold bO
 refine qF h1 h8 ?_
 have t1:=iU (yc (fa:=gv 1) (vs:=vl [.fz (.int n),.fz d]) (β:=0) rfl h.1)
 cases hy:xE d with
 |false=>rw[hy] at t1;exact jj (yh (cW t1)) (qd rfl)
 |true=>
  rw[hy] at t1
  obtain⟨ds,rfl⟩:=xG hy
  obtain⟨hz,hge⟩:=h.2 _ rfl
  have t2:fw (f2 (f1 (gv 1) dP) (cst (.int 0)) (gQ false)) (vl [.fz (.int n),.fz (.list ds)]) 0=.ok (decide ((ds.length:Int)=0)) 0:=g9 (neg:=false) (bC (x:=.list ds) rfl rfl) rfl
  by_cases c:(ds.length:Int)=0
  ·rw[decide_eq_true c] at t2
   exact jj (jE (cW t1) t2) (qd rfl)
  ·rw[decide_eq_false c] at t2
   refine eJ (jE (cW t1) t2) ?_
   have ea:=qg (kG (own:=1) (ixs:=[0]) (t:=.nm 0) (fi:=dE (gv 1)) (fe:=aJ jF (ae (gv 0) (ae (gv 1) au))) (vs:=vl [.fz (.int n),.fz (.list ds)]) (β:=0) (ds:=ds) (fun e=>PyData.bool (du n e)) rfl (by omega) fun e he=>⟨[.da e,.da (.int n)],rfl,aK (ds:=[e,.int n]) rfl (vc (by omega) (hge e he))⟩)
   have hf:ds.all (du n)=false:=by
    rw[<-Bool.not_eq_true]
    intro ha
    obtain⟨rs,rfl,hs⟩:=kZ ha
    exact hb ⟨rs,rfl,fun e=>c (by rw[e];rfl),hs⟩
   rw[hf] at ea
   exact jj (cW (iU ea)) (qd rfl)
theorem Bc {n:Nat}{rs:List (List Int)}(h1:1<=n)(h8:n<=8)(hz:rs.length<=100)(hne:rs≠ [])(hp:∀r,r∈rs->r.Perm (dg n)):y1 [.int n,.list (rs.map tupI)]=.ok (j6 n ((OM.bJ n).filter (rz rs))) false:=by
 show fin (bO fg jF BN [.fz (.int n),.fz (.list (rs.map tupI))] 0)=_
 refine l0 ?_
 unfold bO
 refine qF h1 h8 ?_
 have c:¬(((rs.map tupI).length:Nat):Int)=0:=by rw[List.length_map];have:=List.length_pos_iff.mpr hne;omega
 refine eJ (jE (c:=false) (cW (iU (c:=true) (yc (d:=.list (rs.map tupI)) rfl rfl))) ?_) ?_
 ·have t2:=g9 (neg:=false) (bC (fa:=gv 1) (vs:=vl [.fz (.int n),.fz (.list (rs.map tupI))]) (β:=0) (β1:=0) (g:=dP) (x:=.list (rs.map tupI)) rfl rfl) (show cst (.int 0) (vl [.fz (.int n),.fz (.list (rs.map tupI))]) 0=.ok (.int 0) 0 from rfl)
  rw[decide_eq_false c] at t2
  exact t2
 refine eJ (cW (iU (c:=true) ?_)) ?_
 ·have ea:=qJ (f:=fun r:List Int=>du n (tupI r)) (eN (own:=1) (ixs:=[0]) (t:=.nm 0) (fi:=dE (gv 1)) (fe:=aJ jF (ae (gv 0) (ae (gv 1) au))) (vs:=vl [.fz (.int n),.fz (.list (rs.map tupI))]) (β:=0) (l:=rs) (e:=tupI) (fun r=>PyData.bool (du n (tupI r))) rfl (by omega) fun r hr=>⟨[.da (tupI r),.da (.int n)],rfl,aK (ds:=[tupI r,.int n]) rfl (vc (by omega) (by
   obtain⟨hl,hrb⟩:=qI h8 (hp r hr)
   exact (uJ (by omega) hrb).1))⟩)
  rw[List.all_eq_true.mpr fun r hr=>jK (hp r hr)] at ea
  exact ea
 exact uP (tp (ds:=[.int n,.tuple (((OM.bJ n).filter (rz rs)).map e6)]) (ac rfl (ac (aK (ds:=[.int n,.list (rs.map tupI)]) rfl (Bo h1 h8 hz hp)) an))) rfl
def r6:List (Str×Nat):=[("NoMany",1),("NoRows",6)]
noncomputable def mX:List D->FR:=bu 3 2 (bc (oK r6) y1)
theorem jO (d0 d:D):gz [.fz d0,.fz d,.no]=true:=rfl
theorem yD {d0 d:D}(h:bt d0=false)(hm:nM d0=false):mX [d0,d]=.ok (.str "many") false:=by
 show fin (bc (oK r6) y1 [.fz d0,.fz d,.no] 0)=_
 unfold bc pA
 rw[if_pos (jO _ _),eQ,kU (ds:=[d0,d]) (β1:=0) rfl (A7 h hm)]
 rfl
theorem Bm {n:Nat}{d:D}(h1:1<=n)(h8:n<=8)(h:Gt d)(hb:¬Cc n d):mX [.int n,d]=.ok (.str "rows") false:=by
 show fin (bc (oK r6) y1 [.fz (.int n),.fz d,.no] 0)=_
 unfold bc pA
 rw[if_pos (jO _ _),eQ,kU (ds:=[.int n,d]) (β1:=0) rfl (Bh h1 h8 h hb)]
 rfl
theorem BI {n:Nat}{rs:List (List Int)}(h1:1<=n)(h8:n<=8)(hz:rs.length<=100)(hne:rs≠ [])(hp:∀r,r∈rs->r.Perm (dg n)):mX [.int n,.list (rs.map tupI)]=.ok (j6 n ((OM.bJ n).filter (rz rs))) false:=by
 show fin (bc (oK r6) y1 [.fz (.int n),.fz (.list (rs.map tupI)),.no] 0)=_
 unfold bc pA
 rw[if_pos (jO _ _),eQ,aK (ds:=[.int n,.list (rs.map tupI)]) (β1:=0) rfl (Bc h1 h8 hz hne hp)]
 rfl
theorem tO {n:Nat}{l:List Pr}(hn:n<=8)(hl:l.length<=64)(h:∀p,p∈l->Sp p):kC (j6 n l)=some (.str (j6 n l).shown):=by
 have i1:Sq 20 0 (.int n):=(dk (by omega)).sq
 have pq:∀d,d∈l.map e6->Sq 100 1 d/\Af d:=fun d hd=>by
  obtain⟨p,hp,rfl⟩:=List.mem_map.mp hd
  have:=h p hp
  exact⟨(fG (c:=20) (k:=0) (ds:=[.int p.1,.int p.2]) (jf (dk (by have:=this.1;omega)).sq (dk (by have:=this.2;omega)).sq)).mono (by simp) (by omega),pz (jf ⟨rfl,rfl⟩ ⟨rfl,rfl⟩)⟩
 have t2:Sq 7000 2 (.tuple (l.map e6)):=(fG fun d hd=>(pq d hd).1).mono (by rw[List.length_map];omega) (by omega)
 have a2:Af (.tuple (l.map e6)):=pz fun d hd=>(pq d hd).2
 have s:Sq 20000 3 (j6 n l):=(fG (c:=7000) (k:=2) (ds:=[.int n,.tuple (l.map e6)]) (jf (i1.mono (by omega) (by omega)) t2)).mono (by simp) (by omega)
 have a:Af (j6 n l):=pz (jf ⟨rfl,rfl⟩ a2)
 unfold kC
 rw[show nO (j6 n l)=some [.int n,.tuple (l.map e6)] from rfl]
 dsimp only
 rw[if_pos ⟨s.1,a.2,Nat.le_trans s.2.1 (by omega),Nat.le_trans s.2.2 (by rw[sizeLine_eq];omega),a.1⟩]
end RM

end

section
namespace RM
open PySem L2
theorem xq {es:List D}{b:Nat}{d:D}(h:es.length<=1000)(hd:es[b]? =some d):iA es (.int (b:Nat))=some (d,es.eraseIdx b):=by
 have hbl:b < es.length:=(List.getElem?_eq_some_iff.mp hd).1
 unfold iA
 dsimp only
 rw[if_pos ⟨by omega,by omega⟩]
 have e:seqIndex? (b:Int) es.length=some b:=PySem.StrLaws.seqIndex_nonneg (by omega) (by omega)
 rw[e]
 dsimp only
 rw[hd]
theorem tS (es es':List D)(a:Int)(kb d:D)(h:iA es kb=some (d,es'))(h1:0<=a/\a<=1000)(hz:es.length<=1000):sC es (.int a) kb=some (es'.take a.toNat ++ [d] ++ es'.drop a.toNat):=by
 unfold sC
 rw[h]
 exact if_pos ⟨h1,hz⟩
theorem wy {es es':List D}{a:Nat}{kb d:D}(hz:es.length<=1000)(h62:a<=1000)(hd:iA es kb=some (d,es')):sC es (.int (a:Nat)) kb=some (es'.take a ++ [d] ++ es'.drop a):=by
 have:=tS es es' (a:Int) kb d hd ⟨by omega,by omega⟩ hz
 rw[Int.toNat_natCast] at this
 exact this
theorem wa {env:En}{β:Int}{fa fb:VF D}{i:Nat}{ka kb:D}{es es':List D}(hi:env[i]? =some (.ow (.list es)))(ha:fa (vl env) β=.ok ka β)(hb:fb (vl env) β=.ok kb β)(hd:sC es ka kb=some es'):fN i [] [] fa fb env β=.nx (env.set i (.ow (.list es'))) β:=by
 have ho:ip env[i]? =true:=by rw[hi];rfl
 unfold fN
 rw[if_pos ho,ha]
 dsimp only[toS]
 rw[show aC [] env=env from rfl,if_pos ho,hb]
 dsimp only[toS]
 exact lO hi hd
theorem y3 {m':SF}{env:En}{β:Int}{Q:SO->Prop}{fa fb:VF D}{i a b:Nat}{es:List D}{d:D}(hi:env[i]? =some (.ow (.list es)))(ha:fa (vl env) β=.ok (.int a) β)(hb:fb (vl env) β=.ok (.int b) β)(hz:es.length<=1000)(h62:a<=1000)(hd:es[b]? =some d)(k:WP (m' (env.set i (.ow (.list ((es.eraseIdx b).take a ++ [d] ++ (es.eraseIdx b).drop a)))) β) Q):WP (aG (fN i [] [] fa fb) m' env β) Q:=wp_seq (wa hi ha hb (wy hz h62 (xq hz hd))) k
theorem xD {ds:List D}(h:ds≠ []):∃d,d∈ds/\gE ds (-1)=some d:=by
 have hp:=List.length_pos_iff.mpr h
 refine⟨ds[ds.length - 1],List.getElem_mem _,?_⟩
 unfold gE qj
 rw[if_neg (by omega),if_pos (by omega)]
 show ds[(-1 + (ds.length:Int)).toNat]? =_
 rw[show (-1 + (ds.length:Int)).toNat=ds.length - 1 by omega]
 exact List.getElem?_eq_getElem _
theorem uE {r:List Int}{x:Int}{a b:Nat}(h:r[b]? =some x):((r.eraseIdx b).take a ++ [x] ++ (r.eraseIdx b).drop a).Perm r:=by
 refine List.Perm.trans ?_ (gJ h)
 rw[List.append_assoc,List.singleton_append]
 refine List.perm_middle.trans ?_
 rw[List.take_append_drop]
theorem A0 {n:Nat}{x:D}{A B:List D}(h:du n x=false):¬Cc n (.list (A ++ [x] ++ B)):=fun⟨rs,e,_,hs⟩=>by
 have e:=PyData.list.inj e
 have hx:x∈rs.map tupI:=by rw[<-e];simp
 obtain⟨r,hr,rfl⟩:=List.mem_map.mp hx
 rw[jK (hs r hr)] at h;cases h
theorem jn {n:Nat}{es:List D}(h:es.length≠n):du n (.tuple es)=false:=eB fun r e p=>h (by rw[PyData.tuple.inj e,List.length_map,p.length_eq,cz])
theorem p9 {n:Nat}{es:List D}{x:D}(hx:x∈es)(h:∀i:Int,x=.int i->¬(0<=i/\i < n)):du n (.tuple es)=false:=eB fun r e p=>by
 rw[PyData.tuple.inj e] at hx
 obtain⟨i,hi,rfl⟩:=List.mem_map.mp hx
 exact h i rfl (bB.mp (p.mem_iff.mp hi))
def v5:List D:=[.int 0,.int 9,.int (-1),.bool true,.none,.str "3",.tuple [.int 3],.int 1000000000000000000000000000000000000000]
theorem y2:∀x∈v5,bt x=false/\nM x=false:=by decide +kernel
noncomputable def yI:List D->FR:=bu 14 1 (qH zK mX tR eZ l8)
end RM

end

section
namespace RM
open PySem L2
theorem Cz {fa:VF D}{fr:VF (List D)}{vs:List Nv}{β β1 β2:Int}{d:D}{ds:List D}(h:fa vs β=.ok d β1)(h':fr vs β1=.ok ds β2):ae fa fr vs β=.ok (d :: ds) β2:=by rw[cV,h];dsimp only[R.bnd];rw[h']
def rH (w:List D)(n:Nat):List D:=[PyData.list w,.tuple (w.drop 1),.tuple (w ++ [PyData.int 0]),.tuple (w ++ [PyData.int n]),.none,.tuple [.tuple w],.tuple (w.take (w.length - 1) ++ [PyData.int n]),.str "0"]
theorem BO (ns:List Int):yI [bh ns]=.ok (.bool true) false:=by
 show fin (qH zK mX tR eZ l8 [.fz (bh ns),.no,.no,.no,.no,.no,.no,.no,.no,.no,.no,.no,.no,.no] 0)=_
 refine l0 ?_
 obtain⟨m,hm,em⟩:=uM 5 (by omega) ns (vl [.fz (bh ns),.no,.no,.no,.no,.no,.no,.no,.no,.no,.no,.no,.no,.no]) 0 rfl
 unfold qH
 refine o7 (fun _ env _=>∃s1 s2 s3 s4 s5 s6 s7 s8 s9 s10 s11 s12 s13,env= [.fz (bh ns),s1,s2,s3,s4,s5,s6,s7,s8,s9,s10,s11,s12,s13]) em ⟨_,_,_,_,_,_,_,_,_,_,_,_,_,rfl⟩ ?_ fun env β ⟨s1,s2,s3,s4,s5,s6,s7,s8,s9,s10,s11,s12,s13,e⟩=>uP (d:=.bool true) rfl rfl
 rintro i d env β hi ⟨s1,s2,s3,s4,s5,s6,s7,s8,s9,s10,s11,s12,s13,rfl⟩
 obtain⟨_,rfl⟩:=g8 hi
 rw[Int.zero_add]
 refine⟨[.fz (bh ns),.fz (.int i),s2,s3,s4,s5,s6,s7,s8,s9,s10,s11,s12,s13],rfl,?_⟩
 obtain⟨z,ez⟩:=By ns i
 obtain⟨j,hj,ej⟩:=cA (m:=8) (by omega) (by omega) z
 generalize z / ((8:Nat):Int)=β1 at ej
 obtain⟨t3,t4,t5,t6,t7,t8,t9,t10,t11,t12,t13,hcl⟩:∃t3 t4 t5 t6 t7 t8 t9 t10 t11 t12 t13:Sl,(kg (aC ([0] ++ ([1] ++ [])) [.fz (bh ns),.fz (.int i),s2,s3,s4,s5,s6,s7,s8,s9,s10,s11,s12,s13])).set 2 .bx= [.fz (bh ns),.fz (.int i),.bx,t3,t4,t5,t6,t7,t8,t9,t10,t11,t12,t13]:=⟨_,_,_,_,_,_,_,_,_,_,_,rfl⟩
 refine xO (tT (ds:=[bh ns,.int i]) rfl ez) (wp_at _ hcl ?_)
 refine iz (d:=.int ((1 + j:Nat):Int)) (az (x:=.int 1) (y:=.int j) rfl (dA (ds:=[.int 8]) rfl rfl ej) (by show some (PyData.int (1 + (j:Int)))=_;rw[show ((1 + j:Nat):Int)=1 + (j:Int) by omega])) ?_
 have h1:1<=1 + j:=by omega
 have h8:1 + j<=8:=by omega
 generalize 1 + j=n at h1 h8
 have mx:∀β,∃(r:List Int) (β':Int),r.Perm (dg n)/\∀(vs:List Nv),mQ vs 2=true->gv 3 vs β=.ok (.int n) β->f1 (kA 2 l8 (ae (f1 (gv 3) cS) au)) dD vs β=.ok (tupI r) β':=fun β=>by
  obtain⟨r,β',er,hr⟩:=w8 (dg n) (by rw[cz];omega) β
  exact⟨r,β',hr,fun vs hb h=>bC (x:=.list (r.map PyData.int)) (dA (ds:=[.list ((dg n).map PyData.int)]) (b:=true) hb (ac (bC (x:=.int n) h (nA (by omega))) an) er) rfl⟩
 obtain⟨r0,β2,hr0,er0⟩:=mx β1
 refine qX (d:=.list ([r0].map tupI)) (β1:=β2) (cL (ds:=[tupI r0]) (Cz (er0 _ rfl rfl) an) (by simp)) ?_
 obtain⟨q,hq,eq⟩:=cA (m:=4) (by omega) (by omega) β2
 generalize β2 / ((4:Nat):Int)=β3 at eq
 refine o7 (fun k env _=>∃(s5 s6 s7 s8:Sl) (rs:List (List Int)),env= [.fz (bh ns),.fz (.int i),.bx,.fz (.int n),.ow (.list (rs.map tupI)),s5,s6,s7,s8,t9,t10,t11,t12,t13]/\rs≠ []/\rs.length=1 + k/\∀r,r∈rs->r.Perm (dg n)) (fF (n:=q) (dA (ds:=[.int 4]) rfl rfl eq) (by omega)) ⟨t5,t6,t7,t8,[r0],rfl,by simp,rfl,fun r hr=>by rw[List.mem_singleton] at hr;exact hr▸hr0⟩ ?_ ?_
 ·rintro k d env β hk ⟨s5,s6,s7,s8,rs,rfl,hne,hrl,hP⟩
  have hk4:k < q:=(g8 hk).1
  refine⟨[.fz (bh ns),.fz (.int i),.bx,.fz (.int n),.ow (.list (rs.map tupI)),.fz d,s6,s7,s8,t9,t10,t11,t12,t13],rfl,?_⟩
  obtain⟨a,ha,ea⟩:=cA (m:=n) h1 (by omega) β
  generalize β / (n:Int)=β4 at ea
  obtain⟨b,hb,eb⟩:=cA (m:=n) h1 (by omega) β4
  generalize β4 / (n:Int)=β5 at eb
  refine y6 (dA (ds:=[.int n]) rfl rfl ea) (dA (ds:=[.int n]) rfl rfl eb) ?_
  obtain⟨dl,hdl,hat⟩:=xD (ds:=rs.map tupI) (fun e=>hne (List.map_eq_nil_iff.mp e))
  obtain⟨r,hr,rfl⟩:=List.mem_map.mp hdl
  obtain⟨hl,hrb⟩:=qI h8 (hP r hr)
  refine qX (d:=.list (r.map PyData.int)) (bC (x:=tupI r) (az (x:=.list (rs.map tupI)) (y:=.int (-1)) rfl rfl hat) rfl) ?_
  refine wp_at [.fz (bh ns),.fz (.int i),.bx,.fz (.int n),.ow (.list (rs.map tupI)),.fz d,.fz (.int a),.fz (.int b),.ow (.list (r.map PyData.int)),t9,t10,t11,t12,t13] rfl ?_
  obtain⟨x,hx⟩:∃x,r[a]? =some x:=⟨r[a],List.getElem?_eq_getElem (by omega)⟩
  refine y3 (es:=r.map PyData.int) (a:=b) (b:=a) (d:=.int x) rfl rfl rfl (by rw[List.length_map];omega) (by omega) (by rw[List.getElem?_map,hx];rfl) ?_
  have e8:(((r.map PyData.int).eraseIdx a).take b ++ [PyData.int x] ++ ((r.map PyData.int).eraseIdx a).drop b)=((r.eraseIdx a).take b ++ [x] ++ (r.eraseIdx a).drop b).map PyData.int:=by
   rw[ix,List.map_append,List.map_append,List.map_take,List.map_drop];rfl
  have p8:((r.eraseIdx a).take b ++ [x] ++ (r.eraseIdx a).drop b).Perm (dg n):=(uE hx).trans (hP r hr)
  rw[e8]
  generalize (r.eraseIdx a).take b ++ [x] ++ (r.eraseIdx a).drop b=w at p8
  refine wp_at [.fz (bh ns),.fz (.int i),.bx,.fz (.int n),.ow (.list (rs.map tupI)),.fz d,.fz (.int a),.fz (.int b),.ow (.list (w.map PyData.int)),t9,t10,t11,t12,t13] rfl ?_
  obtain⟨v,β6,hv,ev⟩:=mx β5
  obtain⟨c,hc,ec⟩:=cA (m:=2) (by omega) (by omega) β6
  generalize β6 / ((2:Nat):Int)=β7 at ec
  obtain⟨u,hu,hat2⟩:∃u,(u=w\/u=v)/\gE [tupI w,tupI v] (c:Int)=some (tupI u):=by
   match c,hc with
   | 0,_=>exact⟨w,.inl rfl,fU (j:=0) rfl⟩
   | 1,_=>exact⟨v,.inr rfl,fU (j:=1) rfl⟩
  refine o5 (yZ (ds:=rs.map tupI) (d:=tupI u) (β1:=β7) rfl (az (x:=.list [tupI w,tupI v]) (y:=.int c) (β1:=β6) (cL (ds:=[tupI w,tupI v]) (Cz (bC (x:=.list (w.map PyData.int)) rfl rfl) (Cz (ev _ rfl rfl) an)) (by simp)) (dA (ds:=[.int 2]) rfl rfl ec) hat2) rfl (by rw[List.length_map];omega) (tE ⟨_,_,rfl,.fz d,.fz (.int a),.fz (.int b),.ow (.list (w.map PyData.int)),rs ++ [u],?_,by simp,by rw[List.length_append,List.length_singleton];omega,fun r' hr'=>?_⟩))
  ·rw[List.map_append];rfl
  ·rcases List.mem_append.mp hr' with h |h
   ·exact hP r' h
   ·rw[List.mem_singleton] at h
    subst h
    rcases hu with rfl |rfl
    ·exact p8
    ·exact hv
 rintro env β ⟨s5,s6,s7,s8,rs,rfl,hne,hrl,hP⟩
 rw[gc] at hrl
 refine iz (d:=.list (rs.map tupI)) (bC (x:=.list (rs.map tupI)) rfl rfl) ?_
 have hwn:∀p,p∈(OM.bJ n).filter (rz rs)->Sp p:=fun p hp=>by
  have:=OM.cZ.mp (List.mem_filter.mp hp).1
  exact⟨by omega,by omega⟩
 have hln:((OM.bJ n).filter (rz rs)).length<=64:=by
  have h2:=List.length_filter_le (rz rs) (OM.bJ n)
  rw[ia] at h2
  have h3:n * n<=8 * 8:=Nat.mul_le_mul h8 h8
  omega
 have et:=zG (n:=n) (rows:=rs) h8 (by omega) hP
 rw[AM hne hP] at et
 have es:=BI h1 h8 (by omega) hne hP
 generalize (OM.bJ n).filter (rz rs)=l at hwn hln et es
 refine eJ (jE (c:=false) (dF _ _ _ _ (az (x:=.str (j6 n l).shown) (y:=.str (j6 n l).shown) (bC (x:=j6 n l) (aK (ds:=[.int n,.list (rs.map tupI)]) rfl es) (tO h8 hln hwn)) (bC (x:=j6 n l) (tp (ds:=[.int n,.tuple (l.map e6)]) (ac rfl (ac (aK (ds:=[.int n,.list (rs.map tupI)]) rfl et) an))) (tO h8 hln hwn)) (by simp[zl]))) (dF _ _ _ _ (az (x:=.list (rs.map tupI)) (y:=.list (rs.map tupI)) rfl rfl (by rw[u9];simp)))) ?_
 refine wp_at [.fz (bh ns),.fz (.int i),.bx,.fz (.int n),.fz (.list (rs.map tupI)),s5,s6,s7,s8,.fz (.list (rs.map tupI)),t10,t11,t12,t13] rfl ?_
 obtain⟨a,ha,ea⟩:=cA (m:=rs.length + 1) (by omega) (by omega) β
 generalize β / ((rs.length + 1:Nat):Int)=β4 at ea
 refine iz (dA (ds:=[.int ((rs.length + 1:Nat):Int)]) rfl (ac (DF (i:=rs.length) (bC (x:=.list (rs.map tupI)) rfl (by show some (PyData.int (rs.map tupI).length)=_;rw[List.length_map]))) an) ea) ?_
 obtain⟨r,rs',rfl⟩:∃r rs',rs=r :: rs':=by
  cases rs with
  |nil=>exact absurd rfl hne
  |cons r rs'=>exact⟨r,rs',rfl⟩
 obtain⟨hl,hrb⟩:=qI h8 (hP r (List.mem_cons_self ..))
 have ar:=wt (k:=8) (r:=r) (by omega) hrb
 have hdl:(r.map PyData.int).length=n:=by rw[List.length_map,hl]
 refine iz (d:=tupI r) (az (x:=.list ((r :: rs').map tupI)) (y:=.int 0) rfl rfl (fU (j:=0) rfl)) ?_
 have er:tupI r=.tuple (r.map PyData.int):=rfl
 have hR:∀x,x∈(r :: rs').map tupI->Ig x:=fun x hx=>by
  obtain⟨q,hq,rfl⟩:=List.mem_map.mp hx
  obtain⟨hl,hrb⟩:=qI h8 (hP q hq)
  exact uJ (by omega) hrb
 have AR:Ap Ig 4 ((r :: rs').map tupI):=⟨by rw[List.length_map];omega,hR⟩
 have hnt:∀x,x∈(r :: rs').map tupI->xE x=false:=fun x hx=>by
  obtain⟨q,hq,rfl⟩:=List.mem_map.mp hx
  rfl
 generalize (r :: rs').map tupI=R at AR hnt
 rw[er]
 generalize r.map PyData.int=w at ar hdl
 obtain⟨c,hc,ec⟩:=cA (m:=8) (by omega) (by omega) β4
 generalize β4 / ((8:Nat):Int)=β5 at ec
 have hw0:w≠ []:=fun e=>by rw[e] at hdl;simp at hdl;omega
 obtain⟨bad,hbm,hat⟩:∃bad,bad∈(rH w n)/\gE (rH w n) (c:Int)=some bad:=by
  obtain⟨x,_,h2,h3⟩:=uX (ds:=(rH w n)) (k:=c) (by exact hc)
  exact⟨x,h2,h3⟩
 have hlt:=(ar.take (w.length - 1)).1
 have hld:=(ar.drop 1).1
 refine iz (d:=bad) (az (x:=.list (rH w n)) (lp (ds:=rH w n) (ac (bC (x:=.tuple w) rfl rfl) (ac (BD (i:=1) rfl rfl) (ac (vh (a:=w) rfl (tp (ac rfl an)) (by simp only[List.length_singleton];omega)) (ac (vh (a:=w) rfl (tp (ac rfl an)) (by simp only[List.length_singleton];omega)) (ac rfl (ac (tp (ac rfl an)) (ac (vh (tQ hw0 rfl rfl) (tp (ac rfl an)) (by simp only[List.length_singleton];omega)) (ac rfl an)))))))) (by show (8:Nat)<=1000;omega)) (dA (ds:=[.int 8]) rfl rfl ec) hat) ?_
 have hb:du n bad=false/\Ig bad:=by
  have sn:ou (.int n):=dk (by omega)
  unfold rH at hbm
  simp only[List.mem_cons,List.not_mem_nil,or_false] at hbm
  rcases hbm with rfl |rfl |rfl |rfl |rfl |rfl |rfl |rfl
  ·exact⟨(eB fun r e=>by cases e),ar.igL (by omega)⟩
  ·exact⟨jn (by rw[List.length_drop];omega),(ar.drop 1).igT (by omega)⟩
  ·exact⟨jn (by rw[List.length_append,List.length_singleton];omega),(ar.app (mD (dk (by omega)))).igT (by omega)⟩
  ·exact⟨jn (by rw[List.length_append,List.length_singleton];omega),(ar.app (mD sn)).igT (by omega)⟩
  ·exact⟨(eB fun r e=>by cases e),⟨rfl,(fun es e=>by cases e)⟩,(ou.sq (.inl rfl)).mono (by omega) (by omega),ou.bf (.inl rfl)⟩
  ·refine⟨(p9 (x:=.tuple w) (by simp) fun i e=>by cases e),(pK (by simp) fun x hx=>by rw[List.mem_singleton] at hx;rw[hx];rfl),?_,mr fun d hd=>by rw[List.mem_singleton] at hd;rw[hd];exact (ar.igT (by omega)).2.2⟩
   refine (fG (c:=200) (k:=1) fun d hd=>?_).mono (by simp) (by omega)
   rw[List.mem_singleton] at hd
   rw[hd]
   refine (fG (c:=20) (k:=0) fun d hd=>(ar.2 d hd).sq).mono ?_ (by omega)
   have:=ar.1
   have:(20 + 2) * w.length<=22 * 8:=Nat.mul_le_mul (by omega) (by omega)
   omega
  ·exact⟨(p9 (x:=.int n) (by simp) fun i e=>by cases e;omega),((ar.take _).app (mD sn)).igT (by omega)⟩
  ·exact⟨(eB fun r e=>by cases e),⟨rfl,fun es e=>by cases e⟩,by refine⟨?_,?_,?_⟩ <;> decide +kernel,rfl⟩
 have AB:=(AR.take a).app ((mD hb.2).app (AR.drop a))
 have hz1:=(AR.take a).1
 have hz2:=(AR.drop a).1
 refine o7 (β1:=β5) (ds:=[.list (R.take a ++ [bad] ++ R.drop a),.list [],.tuple R,.none,.tuple w,.dict []]) (fun _ env _=>∃s12,env= [.fz (bh ns),.fz (.int i),.bx,.fz (.int n),.fz (.list R),s5,.fz (.int a),s7,s8,.fz (.list R),.fz (.tuple w),.fz bad,s12,t13]) ?_ ⟨t12,rfl⟩ ?_ ?_
 ·have e:=lp (ds:=[.list (R.take a ++ [bad] ++ R.drop a),.list [],.tuple R,.none,.tuple w,.dict []]) (vs:=vl [.fz (bh ns),.fz (.int i),.bx,.fz (.int n),.fz (.list R),s5,.fz (.int a),s7,s8,.fz (.list R),.fz (.tuple w),.fz bad,t12,t13]) (β:=β5) (ac (yd (yd (u4 (i:=a) (fa:=gv 4) (fb:=gv 6) (ds:=R) rfl rfl) (lp (fr:=ae (gv 11) au) (ac rfl an)) (by simp only[List.length_singleton];omega)) (ya (i:=a) (fa:=gv 4) (fb:=gv 6) (ds:=R) rfl rfl) (by simp only[List.length_append,List.length_singleton];omega)) (ac (lp an) (ac (bC (fa:=gv 4) (g:=dD) (x:=.list R) rfl rfl) (ac (ck .none) (ac (fa:=gv 10) rfl (ac (ck (.dict [])) an))))))
  unfold dE
  exact (congrArg (fun r=>L2.R.bnd r _) e).trans rfl
 ·rintro k d env β hk ⟨s12,rfl⟩
  refine⟨[.fz (bh ns),.fz (.int i),.bx,.fz (.int n),.fz (.list R),s5,.fz (.int a),s7,s8,.fz (.list R),.fz (.tuple w),.fz bad,.fz d,t13],rfl,?_⟩
  have hd:Gt d/\¬Cc n d:=by
   have hm:=List.mem_of_getElem? hk
   simp only[List.mem_cons,List.not_mem_nil,or_false] at hm
   rcases hm with rfl |rfl |rfl |rfl |rfl |rfl
   ·exact⟨by rw[List.append_assoc];exact (AB.tl (by omega)).1,A0 hb.1⟩
   ·refine⟨(zS.tl (by omega)).1,fun⟨rs,e,h,_⟩=>h ?_⟩
    cases rs with
    |nil=>rfl
    |cons _ _=>cases e
   ·exact⟨⟨rfl,fun ds e=>by cases e⟩,fun⟨rs,e,_⟩=>by cases e⟩
   ·exact⟨⟨rfl,fun ds e=>by cases e⟩,fun⟨rs,e,_⟩=>by cases e⟩
   ·exact⟨⟨rfl,fun ds e=>by cases e⟩,fun⟨rs,e,_⟩=>by cases e⟩
   ·exact⟨⟨rfl,fun ds e=>by cases e⟩,fun⟨rs,e,_⟩=>by cases e⟩
  exact o5 (eJ (dF _ _ _ _ (az (x:=.str "rows") (y:=.str "rows") (aK (ds:=[.int n,d]) rfl (Bm h1 h8 hd.1 hd.2)) rfl (by kernel_rfl))) (tE ⟨_,_,rfl,_,rfl⟩))
 rintro env β ⟨s12,rfl⟩
 obtain⟨c2,hc2,ec2⟩:=cA (m:=8) (by omega) (by omega) β
 obtain⟨x,_,hx2,hx3⟩:=uX (ds:=v5) (k:=c2) hc2
 obtain⟨k1,k2⟩:=y2 x hx2
 refine iz (d:=x) (az (x:=.list v5) (lp (ds:=v5) (ac (ck _) (ac (ck _) (ac (ck _) (ac (ck _) (ac (ck _) (ac (ck _) (ac (tp (ac (ck _) an)) (ac A8 an)))))))) (by decide)) (dA (ds:=[.int 8]) rfl rfl ec2) hx3) ?_
 exact o5 (eJ (jE (c:=false) (dF _ _ _ _ (az (x:=.str "many") (y:=.str "many") (aK (ds:=[x,.list R]) rfl (yD k1 k2)) rfl (by kernel_rfl))) (dF _ _ _ _ (az (x:=.str "many") (y:=.str "many") (aK (ds:=[x,.none]) rfl (yD k1 k2)) rfl (by kernel_rfl)))) (tE ⟨_,_,rfl,_,_,_,_,_,_,_,_,_,_,_,_,_,rfl⟩))
end RM

end

section
namespace RO
open PySem L2
abbrev fD:Stmt:=RQ.top 33
abbrev Fn (K:PySem.W.Frag)(mg:Str->Option Value)(x:Str)(st:Stmt)(ps:List Str)(f:Addr)(fd:FuncData):Prop:=kc K mg x st ps f fd
abbrev Bt (mg:Str->Option Value):Prop:=kx mg
end RO

end

section
namespace L2
open PySem PySem.Spec PyProof.Rows
section
variable {K:PySem.W.Frag}{H H':Hp}{a:Addr}
theorem lQ.len {vs:List V}{ps:List (Int×Int)}(h:lQ K H vs ps):vs.length=ps.length:=Paired.length h
theorem lQ.at {vs:List V}{ps:List (Int×Int)}{i:Nat}{v:V}(h:lQ K H vs ps)(e:vs[i]? =some v):∃p:Int×Int,ps[i]? =some p/\∃b,v=.ref b/\dq K H b [.int p.1,.int p.2]:=Paired.getP h e
end
end L2
namespace RO
open PySem L2
section
open PySem.Spec PyProof.Rows
variable {X:Cx}{tg l:Expr}{tl:TE}
end
theorem ia (n:Nat):(OM.bJ n).length=n * n:=by unfold OM.bJ;simp
end RO

end

section
namespace RO
open PySem L2
def strsOf:List Expr->Option (List Str)
 | []=>some []
 | .Constant (.str i) _ _ :: es=>(strsOf es).map fun r=>i :: r
 |_=>none
theorem qw {X:Cx}:∀{es:List Expr} {ns:List Str},strsOf es=some ns->PA X es fun _ H Q=>Q (ns.map V.str) H
 | [],ns,h=>by
  have e:ns= []:=by unfold strsOf at h;exact (Option.some.inj h).symm
  subst e
  exact ay
 |e :: es,ns,h=>by
  unfold strsOf at h
  split at h
  ·cases ‹_ :: _= []›
  ·next i a b es' heq=>
   cases heq
   cases q:strsOf es with
   |none=>rw[q] at h;cases h
   |some r=>
    rw[q] at h
    have e2:i :: r=ns:=Option.some.inj h
    subst e2
    exact ag jk (qw q) rfl
  ·cases h
open RM (ei)
structure Er (mg:Str->Option Value)(R c0 c1 c2 c3 c4 c5 c6 c7 c8 c9 c10 c11:Addr):Prop where
 mR:mg "RankError"=some (.ref R)
 m0:mg "NoOrder"=some (.ref c0)
 m1:mg "NoMany"=some (.ref c1)
 m2:mg "NoPairs"=some (.ref c2)
 m3:mg "Ring"=some (.ref c3)
 m4:mg "NoThing"=some (.ref c4)
 m5:mg "NoRow"=some (.ref c5)
 m6:mg "NoRows"=some (.ref c6)
 m7:mg "NoNumber"=some (.ref c7)
 m8:mg "NoChain"=some (.ref c8)
 m9:mg "NoTurns"=some (.ref c9)
 m10:mg "NoPoints"=some (.ref c10)
 m11:mg "NoText"=some (.ref c11)
structure vv (K:PySem.W.Frag)(D R c0 c1 c2 c3 c4 c5 c6 c7 c8 c9 c10 c11:Addr)(j:Nat):Prop where
 ex:nq K D
 R:PySem.W.kitOne K (.ref D) (.ref R)=some true
 V:PySem.W.kitOne K (.ref D) (.type "ValueError")=some true
 k0:PySem.W.kitOne K (.ref D) (.ref c0)=some (decide (0=j))
 k1:PySem.W.kitOne K (.ref D) (.ref c1)=some (decide (1=j))
 k2:PySem.W.kitOne K (.ref D) (.ref c2)=some (decide (2=j))
 k3:PySem.W.kitOne K (.ref D) (.ref c3)=some (decide (3=j))
 k4:PySem.W.kitOne K (.ref D) (.ref c4)=some (decide (4=j))
 k5:PySem.W.kitOne K (.ref D) (.ref c5)=some (decide (5=j))
 k6:PySem.W.kitOne K (.ref D) (.ref c6)=some (decide (6=j))
 k7:PySem.W.kitOne K (.ref D) (.ref c7)=some (decide (7=j))
 k8:PySem.W.kitOne K (.ref D) (.ref c8)=some (decide (8=j))
 k9:PySem.W.kitOne K (.ref D) (.ref c9)=some (decide (9=j))
 k10:PySem.W.kitOne K (.ref D) (.ref c10)=some (decide (10=j))
 k11:PySem.W.kitOne K (.ref D) (.ref c11)=some (decide (11=j))
 j12:j < 12
section
variable {P:Program}{w:World}{K:PySem.W.Frag}{mg:Str->Option Value}{base:Heap}
def qM (K:PySem.W.Frag)(R c0 c1 c2 c3 c4 c5 c6 c7 c8 c9 c10 c11:Addr):Sp:=fun vs H Q _=>∃(ea D:Addr) (j:Nat),vs= [.ref ea]/\H ea=some (.ext (dW ea (.ref D)))/\vv K D R c0 c1 c2 c3 c4 c5 c6 c7 c8 c9 c10 c11 j/\∀H',ah H H'->Q (.str (ei.getD j "")) H'
theorem g7:aF ["e","found","words"] ["e"] (aj fD):=⟨rfl,rfl,rfl,by decide +kernel,rfl,by decide +kernel,by decide +kernel⟩
theorem mT:∃(es:List Expr) (p1 p2 p3:Pos),aR fD=(aR fD).take 5 ++ .Assign [.Name "words" p1] (.List es p2) p3 :: (aR fD).drop 6/\strsOf es=some ei:=⟨_,_,_,_,rfl,by kernel_rfl⟩
def uI (j:Nat):List Bool:=[decide (0=j),decide (1=j),decide (2=j),decide (3=j),decide (4=j),decide (5=j),decide (6=j),decide (7=j),decide (8=j),decide (9=j),decide (10=j),decide (11=j)]
theorem uc:∀j,j < 12->(uI j).count true=1:=by decide +kernel
theorem Ag:∀j,j < 12->(uI j).idxOf true=j:=by decide +kernel
theorem yS:∀j,j < 12->true∈uI j:=by decide +kernel
theorem uV (j:Nat)(h:j < 12):gE (ei.map V.str) (j:Int)=some (.str (ei.getD j "")):=by
 have:j=0\/j=1\/j=2\/j=3\/j=4\/j=5\/j=6\/j=7\/j=8\/j=9\/j=10\/j=11:=by omega
 rcases this with rfl |rfl |rfl |rfl |rfl |rfl |rfl |rfl |rfl |rfl |rfl |rfl <;> rfl
theorem gL {n:Nat}(h:n<=100):n<=sizeLine:=by rw[sizeLine_eq];omega
set_option maxHeartbeats 2000000 in
theorem tf {f R c0 c1 c2 c3 c4 c5 c6 c7 c8 c9 c10 c11:Addr}{fd:FuncData}(F:Fn K mg "_law_marks" fD ["e"] f fd)(e:Er mg R c0 c1 c2 c3 c4 c5 c6 c7 c8 c9 c10 c11)(B:Bt mg)(hv:mg "ValueError"=none):lb P w K mg base uN 1 f fd ["e"] (qM K R c0 c1 c2 c3 c4 c5 c6 c7 c8 c9 c10 c11):=by
 refine F.F.okH g7 (fun vs H Q E h=>?_) (fun cdv A outer s H vs Q E hr h=>?_)
 ·obtain⟨ea,D,j,rfl,_⟩:=h;rfl
 ·obtain⟨ea,D,j,rfl,hx,kt,k⟩:=h
  obtain⟨es,p1,p2,p3,hb,hes⟩:=mT
  rw[hb]
  refine⟨_,bY (vJ (PW.pt (yo (pD (u3 (aI aL rfl B.isinstance (by decide +kernel) (ag (pv 0) (ag (bp rfl e.mR (show RelV (.ref R) _ from rfl)) ay))) fun _=>rfl)) (tV (pD (u3 (aI aL rfl B.isinstance (by decide +kernel) (ag (pv 0) (ag (p7 rfl hv (by decide +kernel) (show RelV (.ty "ValueError") _ from rfl)) ay))) fun _=>rfl))))) (fX (fA jk)) lN)
   (bY (gx (i:=1) g7.nd rfl (Or.inl rfl) (jy (ag (aI aL rfl B.isinstance (by decide +kernel) (ag (pv 0) (ag (bp rfl e.m0 (show RelV (.ref c0) _ from rfl)) ay))) (ag (aI aL rfl B.isinstance (by decide +kernel) (ag (pv 0) (ag (bp rfl e.m1 (show RelV (.ref c1) _ from rfl)) ay))) (ag (aI aL rfl B.isinstance (by decide +kernel) (ag (pv 0) (ag (bp rfl e.m2 (show RelV (.ref c2) _ from rfl)) ay))) (ag (aI aL rfl B.isinstance (by decide +kernel) (ag (pv 0) (ag (bp rfl e.m3 (show RelV (.ref c3) _ from rfl)) ay))) ay))))))
   (bY (gx (i:=1) g7.nd rfl (Or.inl rfl) (p5 um (pv 1) (jy (ag (aI aL rfl B.isinstance (by decide +kernel) (ag (pv 0) (ag (bp rfl e.m4 (show RelV (.ref c4) _ from rfl)) ay))) (ag (aI aL rfl B.isinstance (by decide +kernel) (ag (pv 0) (ag (bp rfl e.m5 (show RelV (.ref c5) _ from rfl)) ay))) (ag (aI aL rfl B.isinstance (by decide +kernel) (ag (pv 0) (ag (bp rfl e.m6 (show RelV (.ref c6) _ from rfl)) ay))) (ag (aI aL rfl B.isinstance (by decide +kernel) (ag (pv 0) (ag (bp rfl e.m7 (show RelV (.ref c7) _ from rfl)) ay))) ay)))))))
   (bY (gx (i:=1) g7.nd rfl (Or.inl rfl) (p5 um (pv 1) (jy (ag (aI aL rfl B.isinstance (by decide +kernel) (ag (pv 0) (ag (bp rfl e.m8 (show RelV (.ref c8) _ from rfl)) ay))) (ag (aI aL rfl B.isinstance (by decide +kernel) (ag (pv 0) (ag (bp rfl e.m9 (show RelV (.ref c9) _ from rfl)) ay))) (ag (aI aL rfl B.isinstance (by decide +kernel) (ag (pv 0) (ag (bp rfl e.m10 (show RelV (.ref c10) _ from rfl)) ay))) (ag (aI aL rfl B.isinstance (by decide +kernel) (ag (pv 0) (ag (bp rfl e.m11 (show RelV (.ref c11) _ from rfl)) ay))) ay)))))))
   (bY (vJ (qY yt (jr PySem.F.plainAttrs_list PySem.F.slot_list_count PySem.F.type_list_count rC (pv 1) (ag vt ay)) jq (bD _)) (fX (fA jk)) lN)
   (bY (gx (i:=2) g7.nd rfl (Or.inl rfl) (jy (qw hes)))
   (fX (fA (uZ mF (pv 2) (jr PySem.F.plainAttrs_list PySem.F.slot_list_index PySem.F.type_list_index rW (pv 1) (ag vt ay)) (fun _ _=>rfl))))))))),?_⟩
  refine⟨_,rfl,ea,D,_,_,true,rfl,fun u r=>r,hx,kt.ex,kt.R,_,rfl,ku ?_⟩
  refine⟨_,rfl,ea,D,_,_,true,rfl,fun u r=>r,hx,kt.ex,kt.V,_,rfl,ku ?_⟩
  refine⟨_,rfl,ea,D,_,_,_,rfl,fun u r=>r,hx,kt.ex,kt.k0,_,rfl,ea,D,_,_,_,rfl,fun u r=>r,hx,kt.ex,kt.k1,_,rfl,ea,D,_,_,_,rfl,fun u r=>r,hx,kt.ex,kt.k2,_,rfl,ea,D,_,_,_,rfl,fun u r=>r,hx,kt.ex,kt.k3,gL (by show 4<=100;omega),fun q1 h1=>?_⟩
  have s1:=ah.new (o:=.lst [.bl (decide (0=j)),.bl (decide (1=j)),.bl (decide (2=j)),.bl (decide (3=j))]) h1
  refine⟨_,rfl,_,rfl,ea,D,_,_,_,rfl,fun u r=>r,s1 _ _ hx,kt.ex,kt.k4,_,rfl,ea,D,_,_,_,rfl,fun u r=>r,s1 _ _ hx,kt.ex,kt.k5,_,rfl,ea,D,_,_,_,rfl,fun u r=>r,s1 _ _ hx,kt.ex,kt.k6,_,rfl,ea,D,_,_,_,rfl,fun u r=>r,s1 _ _ hx,kt.ex,kt.k7,gL (by show 4<=100;omega),fun q2 h2=>?_⟩
  refine⟨q1,q2,_,_,rfl,rfl,ah.new h2 _ _ ai,ai,gL (by show 8<=100;omega),fun q3 h3=>?_⟩
  have s2:=s1.trans (ah.new (o:=.lst [.bl (decide (4=j)),.bl (decide (5=j)),.bl (decide (6=j)),.bl (decide (7=j))]) h2)
  have s3:=s2.trans (ah.new (o:=.lst ([.bl (decide (0=j)),.bl (decide (1=j)),.bl (decide (2=j)),.bl (decide (3=j))] ++ [.bl (decide (4=j)),.bl (decide (5=j)),.bl (decide (6=j)),.bl (decide (7=j))])) h3)
  refine⟨_,rfl,_,rfl,ea,D,_,_,_,rfl,fun u r=>r,s3 _ _ hx,kt.ex,kt.k8,_,rfl,ea,D,_,_,_,rfl,fun u r=>r,s3 _ _ hx,kt.ex,kt.k9,_,rfl,ea,D,_,_,_,rfl,fun u r=>r,s3 _ _ hx,kt.ex,kt.k10,_,rfl,ea,D,_,_,_,rfl,fun u r=>r,s3 _ _ hx,kt.ex,kt.k11,gL (by show 4<=100;omega),fun q4 h4=>?_⟩
  refine⟨q3,q4,_,_,rfl,rfl,ah.new h4 _ _ ai,ai,gL (by show 12<=100;omega),fun q5 h5=>?_⟩
  have s5:=(s3.trans (ah.new (o:=.lst [.bl (decide (8=j)),.bl (decide (9=j)),.bl (decide (10=j)),.bl (decide (11=j))]) h4)).trans (ah.new (o:=.lst ([.bl (decide (0=j)),.bl (decide (1=j)),.bl (decide (2=j)),.bl (decide (3=j))] ++ [.bl (decide (4=j)),.bl (decide (5=j)),.bl (decide (6=j)),.bl (decide (7=j))] ++ [.bl (decide (8=j)),.bl (decide (9=j)),.bl (decide (10=j)),.bl (decide (11=j))])) h5)
  refine⟨_,rfl,.inl ⟨rfl,_,.inl (.inl ai)⟩,q5,uI j,true,rfl,rfl,.inl (.inl ai),?_⟩
  rw[uc j kt.j12]
  refine⟨rfl,_,rfl,ku ?_⟩
  refine⟨gL (by show 12<=100;decide),fun q6 h6=>?_⟩
  have n56:q5≠q6:=aE ai h6
  refine⟨_,rfl,_,rfl,.inl ⟨rfl,_,.inl (.inl ((aq n56).trans ai))⟩,q5,uI j,true,rfl,rfl,.inl (.inl ((aq n56).trans ai)),yS j kt.j12,?_⟩
  rw[Ag j kt.j12]
  exact⟨q6,_,_,_,rfl,rfl,.inl (.inl ai),uV j kt.j12,k _ (s5.trans (ah.new h6))⟩
end
theorem Aj {P:Program}{w:World}{K:PySem.W.Frag}{mg:Str->Option Value}{base:Heap}{ca:Str->Addr}{f R c0 c1 c2 c3 c4 c5 c6 c7 c8 c9 c10 c11:Addr}{fd:FuncData}{tbl:List (Str×Nat)}(F:kc K mg "_law_marks" fD ["e"] f fd)(e:Er mg R c0 c1 c2 c3 c4 c5 c6 c7 c8 c9 c10 c11)(B:kx mg)(hv:mg "ValueError"=none)
  (ha:∀c j,tbl.lookup c=some j->Mt K (.ref (ca c)) R/\vv K (ca c) R c0 c1 c2 c3 c4 c5 c6 c7 c8 c9 c10 c11 j):xi P w K mg base ca "RankError" "_law_marks" (RM.oK tbl):=by
 have O:lb P w K mg base uN 1 f fd ["e"] (qM K R c0 c1 c2 c3 c4 c5 c6 c7 c8 c9 c10 c11):=tf F e B hv
 refine⟨f,R,fd,fun D x=>∃j,vv K D R c0 c1 c2 c3 c4 c5 c6 c7 c8 c9 c10 c11 j/\x=ei.getD j "",?_,F.mg,F.F.kp,F.b,e.mR,fun c z h=>?_⟩
 ·exact⟨fun vs H Q E q=>by obtain⟨ea,D,x,rfl,_⟩:=q;rfl,fun A outer s H args us vs Q E hr he hb hv' hs=>O.run A outer s H args us vs Q E hr he hb hv' (by
   obtain⟨ea,D,x,rfl,hx,⟨j,kj,rfl⟩,q⟩:=hs
   exact⟨ea,D,j,rfl,hx,kj,q⟩)⟩
 ·unfold RM.oK at h
  cases q:tbl.lookup c with
  |none=>rw[q] at h;cases h
  |some j=>
   rw[q] at h
   cases h
   exact⟨(ha c j q).1,j,(ha c j q).2,rfl⟩
end RO

end

section
namespace HD
open PySem PySem.W
noncomputable abbrev vQ:=@PySem.W.Fast.tw10156331382660048174
noncomputable abbrev zv:=@PySem.W.Fast.tw11892475500146522536
noncomputable abbrev Dg:=@PySem.W.Fast.tw6613529449190102663
noncomputable abbrev zg:=@PySem.W.Fast.tw14364793385576792824
noncomputable abbrev yq:=@PySem.W.Fast.tw17154629097778926822
noncomputable abbrev uD:=@PySem.W.Fast.tw12822647523644345616
noncomputable def vp (p:Program):Thread:=
 ⟨do
  let code <-yq p.main
  let frame <-uD code mainNs mainNs
  let _ <-run (.body (behindTheImports p) {scope:=p.main.scope,locals:=mainNs,globals:=mainNs,cells:=[],code,frame:=some frame})
  ret .none,
  .builtin "claim.caller" {},default,[]⟩
theorem uY (p:Program):topStub p=vp p:=by
 unfold topStub vp yq uD
 rw[<-PySem.W.Fast.te17154629097778926822,<-PySem.W.Fast.te12822647523644345616]
noncomputable def jd (p:Program)(w:World)(n₀:Nat)(ann:Option Value):Nat->SharedT->Thread->Option SharedT
 | 0,_,_=>none
 |n + 1,s,t=>match through t with
  |true=>some s
  |false=>match Dg n₀ ann t with
   |false=>none
   |true=>match vQ (zv zg) p w s t with
    |some (s',t')=>jd p w n₀ ann n s' t'
    |none=>none
theorem kE {p:Program}{w:World}{n₀:Nat}{ann:Option Value}:∀{n:Nat} {s s':SharedT} {t:Thread},jd p w n₀ ann n s t=some s'->topRun treeTable p w n₀ ann n s.abs t=some s'.abs
 | 0,_,_,_,h=>by cases h
 |n + 1,s,s',t,h=>by
  unfold jd at h
  unfold topRun
  cases ht:through t with
  |true=>rw[ht] at h;cases h;rfl
  |false=>
   rw[ht] at h
   have hq:Dg n₀ ann t=stepOk n₀ ann t:=by unfold Dg;rw[<-PySem.W.Fast.te6613529449190102663]
   dsimp only at h
   rw[hq] at h
   cases hk:stepOk n₀ ann t with
   |false=>rw[hk] at h;cases h
   |true=>
    rw[hk] at h
    have hq:vQ (zv zg) p w s t=stepT (denote treeTable) p w s t:=by unfold vQ zv zg;rw[<-PySem.W.Fast.te10156331382660048174,<-PySem.W.Fast.te11892475500146522536,<-PySem.W.Fast.te14364793385576792824]
    dsimp only at h
    rw[hq] at h
    cases hs:stepT (denote treeTable) p w s t with
    |none=>rw[hs] at h;cases h
    |some r=>obtain⟨s₂,t₂⟩:=r;rw[hs] at h;rw[stepT_spec hs];exact kE h
def treeOf (l:List Obj):BT:=(l.foldl (fun (x:BT×Nat) o=>(x.1.ins x.2 o,x.2 + 1)) (.nil,0)).1
noncomputable def uS (P:Params):BT:=treeOf (boot_heap P).objs.toList
abbrev oi:Nat:=11
abbrev vH:Life:={}
theorem boot_abs (P:Params):absHeap (uS P) oi vH=boot_heap P:=by kernel_rfl
theorem rS (w:World):((boot_heap w.params).isNs mainGlobals && (Array.mk ([]:List GenState)).size == 0,(boot_heap w.params).objs.size,(boot_heap w.params).nsMap mainGlobals "__annotations__")=(true,oi,some (.ref 6)):=by kernel_rfl
noncomputable def tP (w:World)(os:OsState):SharedT:=⟨uS w.params,oi,vH,Array.mk [],boot_drawn,boot_toks,os⟩
noncomputable def yG (p:Program)(w:World)(s:Shared):Bool:=staticsOk (importedModules p.main.body) (boot_heap w.params) s.heap && namesBound p s.heap && gensDone s && laidKept (boot_heap w.params) s.heap
theorem xQ {p q:Program}{loose:List Str}{Xt:Shared->Bool}{α:Type}{Yf:Shared->α}{Ya:World->α}{N:Nat}{g0:Bool}
  (e:opening p=plainProg p.main.scope.names) (hN:Nat.ble 600 N=true) (f:∀s,fenceModules? p s=some s)
  (run:∀(w:World) (os:OsState),(jd p w oi (some (.ref 6)) N (tP w os) (vp p)).map (fun s=>(yG p w s.abs,openSeen q loose (importedModules p.main.body) Xt g0 s.abs,Yf s.abs))=some (true,openGood q loose,Ya w)):LeftO p q loose Xt Yf Ya N g0:=fun w=>by
 obtain⟨⟨h,gs,d,k,os⟩,e,e'⟩:=Option.map_eq_some_iff.mp (boot_open e hN f w)
 obtain⟨rfl,rfl,rfl,rfl⟩:h=boot_heap w.params/\gs=Array.mk []/\d=boot_drawn/\k=boot_toks:=by simpa using e'
 obtain⟨z1,z2,z3⟩:_/\_/\_:=by simpa only [Prod.mk.injEq] using rS w
 obtain⟨s',r,ls⟩:=Option.map_eq_some_iff.mp (run w os)
 obtain⟨l1,l2,l3⟩:_/\_/\_:=by simpa only [Prod.mk.injEq] using ls
 have r:=kE r
 have ha:(tP w os).abs=⟨boot_heap w.params,Array.mk [],boot_drawn,boot_toks,os⟩:=by
  show Shared.mk (absHeap (uS w.params) oi vH) _ _ _ _=_
  rw[boot_abs]
  rfl
 rw[ha,<-uY] at r
 have t:topFrom treeTable p w N ⟨boot_heap w.params,Array.mk [],boot_drawn,boot_toks,os⟩=some s'.abs:=by
  unfold topFrom
  dsimp only
  rw[z1,z2,z3,r]
  show (match yG p w s'.abs with |true=>_ |false=>_)=_
  rw[l1]
 unfold openEnds
 rw[e]
 show (topFrom treeTable p w N _).map _=_
 rw[t]
 exact congrArg some (Prod.ext l2 l3)
end HD

end

section
namespace RO
open PySem L2 RM
def qR (K:PySem.W.Frag):Sp:=fun vs H Q _=>∃(a:Addr) (ns:List Int),vs= [.ref a]/\fC K H a (ns.map V.int)/\∀H',ah H H'->Q (.bl true) H'
theorem zk {K:PySem.W.Frag}{ca:Str->Addr}(vs:List V)(H:Hp)(Q:VK)(E:XK)(h:qR K vs H Q E):vY K ca 1 yI vs H Q E:=by
 obtain⟨a,ns,rfl,hS,q⟩:=h
 refine⟨H,[bh ns],ah.refl _,rfl,.cons (.scr hS) .nil,?_⟩
 rw[BO]
 intro v G' H' s1 s2 s3 s4 fv
 have fv:Rp K G' v (.bool true):=fv
 cases fv
 exact q H' s1
theorem lP:bo "_law_marks" fD ["e"]:=fun _ _ _ _ _ _=>Au fun _=>rfl
theorem oz:bo "is_whole" RQ.eG ["thing"]:=fun _ _ _ _ _ _=>Au fun _=>rfl
theorem oH:bo "is_below" RQ.eS ["thing","bound"]:=fun _ _ _ _ _ _=>ln2 fun _ _=>rfl
theorem sf:bo "is_many" RQ.fP ["thing"]:=fun _ _ _ _ _ _=>Au fun _=>rfl
theorem sM:bo "is_line" RQ.fM ["thing","many"]:=fun _ _ _ _ _ _=>ln2 fun _ _=>rfl
theorem lH:bo "every_pair" RQ.cN ["many"]:=fun _ _ _ _ _ _=>Au fun _=>rfl
theorem tI:bo "places" RQ.ik ["row"]:=fun _ _ _ _ _ _=>Au fun _=>rfl
theorem jN:bo "stands_ahead" RQ.bV ["tables","a","b"]:=fun _ _ _ _ _ _=>Dw fun _ _ _=>rfl
theorem jY:bo "shared_pairs" RQ.b9 ["many","rows"]:=fun _ _ _ _ _ _=>ln2 fun _ _=>rfl
theorem sD:bo "told_by" RQ.fW ["many","rows"]:=fun _ _ _ _ _ _=>ln2 fun _ _=>rfl
theorem ng:bo "_law_cell" RQ.dw ["script","k"]:=fun _ _ _ _ _ _=>ln2 fun _ _=>rfl
theorem pk:bo "_law_mix" RQ.cx ["cell","k"]:=fun _ _ _ _ _ _=>ln2 fun _ _=>rfl
theorem oP:bo "_law_box" RQ.ey ["script","k"]:=fun _ _ _ _ _ _=>ln2 fun _ _=>rfl
theorem mM:bo "_law_take" RQ.dv ["box","many"]:=fun _ _ _ _ _ _=>ln2 fun _ _=>rfl
theorem iZ:bo "_law_mixed_up" RQ.bM ["box","some"]:=fun _ _ _ _ _ _=>ln2 fun _ _=>rfl
theorem nu:bo "_law_told" RQ.dn ["many","rows"]:=fun _ _ _ _ _ _=>ln2 fun _ _=>rfl
theorem nY:bo "_law_said" RQ.di ["many","rows"]:=fun _ _ _ _ _ _=>ln2 fun _ _=>rfl
theorem all_mk {l:PySem.W.OpenLaw}{w:World}{K:PySem.W.Frag}{h:Heap}{mg:Str->Option Value}{fa f18 R q0 q1 q2 q3 q4 q5 q6 q7 q8 q9 q10 q11:Addr}(X:K.In h)(G:h.Ns mainGlobals mg)(hfa:mg "law"=some (.ref fa))
  {od18 an18:Option Addr} {sl18:Array (Option Value)} {oc18 kV18 dc18 pm18 cd18 ct18:Value} {tMOST_THINGS:Tok}
  (F1:Fo K mg "_law_marks" fD ["e"])
  (F2:Fo K mg "is_whole" RQ.eG ["thing"])
  (F3:Fo K mg "is_below" RQ.eS ["thing","bound"])
  (F4:Fo K mg "is_many" RQ.fP ["thing"])
  (F5:Fo K mg "is_line" RQ.fM ["thing","many"])
  (F6:Fo K mg "every_pair" RQ.cN ["many"])
  (F7:Fo K mg "places" RQ.ik ["row"])
  (F8:Fo K mg "stands_ahead" RQ.bV ["tables","a","b"])
  (F9:Fo K mg "shared_pairs" RQ.b9 ["many","rows"])
  (F10:Fo K mg "told_by" RQ.fW ["many","rows"])
  (F11:Fo K mg "_law_cell" RQ.dw ["script","k"])
  (F12:Fo K mg "_law_mix" RQ.cx ["cell","k"])
  (F13:Fo K mg "_law_box" RQ.ey ["script","k"])
  (F14:Fo K mg "_law_take" RQ.dv ["box","many"])
  (F15:Fo K mg "_law_mixed_up" RQ.bM ["box","some"])
  (F16:Fo K mg "_law_told" RQ.dn ["many","rows"])
  (F17:Fo K mg "_law_said" RQ.di ["many","rows"])
  (a18:PySem.W.nsIn K mainGlobals "law"=some (some (.ref f18))) (l18:K.lookup f18=some ⟨oc18,od18,.func (PySem.W.fnOf "law" "law" (dz RQ.gw) (aR RQ.gw) (aj RQ.gw) .none kV18 dc18 pm18 an18 cd18 ct18),sl18⟩) (c18:PySem.W.codeIn K cd18 "law"=true) (k18:PySem.W.keepIn K (.ref f18)=true)
  (zB:C1 K=true)
  (yMOST_THINGS:PySem.W.nsIn K mainGlobals "MOST_THINGS"=some (some (.int 8 tMOST_THINGS)))
  (mR:PySem.W.nsIn K mainGlobals "RankError"=some (some (.ref R)))
  (n0:PySem.W.nsIn K mainGlobals "NoOrder"=some (some (.ref q0)))
  (n1:PySem.W.nsIn K mainGlobals "NoMany"=some (some (.ref q1)))
  (n2:PySem.W.nsIn K mainGlobals "NoPairs"=some (some (.ref q2)))
  (n3:PySem.W.nsIn K mainGlobals "Ring"=some (some (.ref q3)))
  (n4:PySem.W.nsIn K mainGlobals "NoThing"=some (some (.ref q4)))
  (n5:PySem.W.nsIn K mainGlobals "NoRow"=some (some (.ref q5)))
  (n6:PySem.W.nsIn K mainGlobals "NoRows"=some (some (.ref q6)))
  (n7:PySem.W.nsIn K mainGlobals "NoNumber"=some (some (.ref q7)))
  (n8:PySem.W.nsIn K mainGlobals "NoChain"=some (some (.ref q8)))
  (n9:PySem.W.nsIn K mainGlobals "NoTurns"=some (some (.ref q9)))
  (n10:PySem.W.nsIn K mainGlobals "NoPoints"=some (some (.ref q10)))
  (n11:PySem.W.nsIn K mainGlobals "NoText"=some (some (.ref q11)))
  (zV:PySem.W.nsIn K mainGlobals "ValueError"=some none)
  (eR:PySem.W.excIn K R [.type "ValueError",.type "Exception",.type "BaseException",.type "object"] "ValueError.__new__"=true)
  (e0:PySem.W.excIn K q1 [.type "ValueError",.type "Exception",.type "BaseException",.type "object"] "ValueError.__new__"=true)
  (e1:PySem.W.excIn K q6 [.type "ValueError",.type "Exception",.type "BaseException",.type "object"] "ValueError.__new__"=true)
  (up1:(L2.mroIn K q1).contains (.ref R)=true)
  (g1_1:(PySem.W.clsIn K q1).isSome=true)
  (g2_1:PySem.W.findIn K (.ref q1) "__getattribute__"=some (some (.builtin "BaseException.__getattribute__")))
  (g3_1:PySem.W.findIn K (.ref q1) "__getattr__"=some none)
  (g4_1:PySem.W.findIn K (.ref q1) "__class__"=some (some (.builtin "object.__class__")))
  (g7_1:PySem.W.mroIn K q1 (.type "object")=some true)
  (g8_1:PySem.W.mroIn K q1 (.type "BaseException")=some true)
  (kR1:PySem.W.kitOne K (.ref q1) (.ref R)=some true)
  (kV1:PySem.W.kitOne K (.ref q1) (.type "ValueError")=some true)
  (kt1_0:PySem.W.kitOne K (.ref q1) (.ref q0)=some false)
  (kt1_1:PySem.W.kitOne K (.ref q1) (.ref q1)=some true)
  (kt1_2:PySem.W.kitOne K (.ref q1) (.ref q2)=some false)
  (kt1_3:PySem.W.kitOne K (.ref q1) (.ref q3)=some false)
  (kt1_4:PySem.W.kitOne K (.ref q1) (.ref q4)=some false)
  (kt1_5:PySem.W.kitOne K (.ref q1) (.ref q5)=some false)
  (kt1_6:PySem.W.kitOne K (.ref q1) (.ref q6)=some false)
  (kt1_7:PySem.W.kitOne K (.ref q1) (.ref q7)=some false)
  (kt1_8:PySem.W.kitOne K (.ref q1) (.ref q8)=some false)
  (kt1_9:PySem.W.kitOne K (.ref q1) (.ref q9)=some false)
  (kt1_10:PySem.W.kitOne K (.ref q1) (.ref q10)=some false)
  (kt1_11:PySem.W.kitOne K (.ref q1) (.ref q11)=some false)
  (up6:(L2.mroIn K q6).contains (.ref R)=true)
  (g1_6:(PySem.W.clsIn K q6).isSome=true)
  (g2_6:PySem.W.findIn K (.ref q6) "__getattribute__"=some (some (.builtin "BaseException.__getattribute__")))
  (g3_6:PySem.W.findIn K (.ref q6) "__getattr__"=some none)
  (g4_6:PySem.W.findIn K (.ref q6) "__class__"=some (some (.builtin "object.__class__")))
  (g7_6:PySem.W.mroIn K q6 (.type "object")=some true)
  (g8_6:PySem.W.mroIn K q6 (.type "BaseException")=some true)
  (kR6:PySem.W.kitOne K (.ref q6) (.ref R)=some true)
  (kV6:PySem.W.kitOne K (.ref q6) (.type "ValueError")=some true)
  (kt6_0:PySem.W.kitOne K (.ref q6) (.ref q0)=some false)
  (kt6_1:PySem.W.kitOne K (.ref q6) (.ref q1)=some false)
  (kt6_2:PySem.W.kitOne K (.ref q6) (.ref q2)=some false)
  (kt6_3:PySem.W.kitOne K (.ref q6) (.ref q3)=some false)
  (kt6_4:PySem.W.kitOne K (.ref q6) (.ref q4)=some false)
  (kt6_5:PySem.W.kitOne K (.ref q6) (.ref q5)=some false)
  (kt6_6:PySem.W.kitOne K (.ref q6) (.ref q6)=some true)
  (kt6_7:PySem.W.kitOne K (.ref q6) (.ref q7)=some false)
  (kt6_8:PySem.W.kitOne K (.ref q6) (.ref q8)=some false)
  (kt6_9:PySem.W.kitOne K (.ref q6) (.ref q9)=some false)
  (kt6_10:PySem.W.kitOne K (.ref q6) (.ref q10)=some false)
  (kt6_11:PySem.W.kitOne K (.ref q6) (.ref q11)=some false)
  (g5:PySem.W.specialIn K (.builtin "object.__class__") "__get__"=some (some (.builtin "getset_descriptor.__get__")))
  (g6:PySem.W.takesIn K (.builtin "object.__class__")=some true)
  :∃fd:FuncData,(∀(s:Shared) (v:Value),BindsTo s fd ⟨[v],[]⟩ [("script",v)])/\∀base:Heap,K.In base->base.Ns mainGlobals mg->fj l.prog w K mg base (ir l.prog w) 6 fa fd ["script"] (qR K):=by
 have e:=hfa.symm.trans (PySem.W.mg_of X G a18)
 cases e
 have B:kx mg:=AS X G zB
 have dG:=PySem.W.mg_of X G yMOST_THINGS
 obtain⟨f1,d1,lE⟩:=F1.ex
 obtain⟨f2,d2,aP⟩:=F2.ex
 obtain⟨f3,d3,cv⟩:=F3.ex
 obtain⟨f4,d4,cP⟩:=F4.ex
 obtain⟨f5,d5,cQ⟩:=F5.ex
 obtain⟨f6,d6,bA⟩:=F6.ex
 obtain⟨f7,d7,dN⟩:=F7.ex
 obtain⟨f8,d8,a8⟩:=F8.ex
 obtain⟨f9,d9,a7⟩:=F9.ex
 obtain⟨f10,d10,cR⟩:=F10.ex
 obtain⟨f11,d11,bQ⟩:=F11.ex
 obtain⟨f12,d12,cm⟩:=F12.ex
 obtain⟨f13,d13,cf⟩:=F13.ex
 obtain⟨f14,d14,aw⟩:=F14.ex
 obtain⟨f15,d15,aM⟩:=F15.ex
 obtain⟨f16,d16,bP⟩:=F16.ex
 obtain⟨f17,d17,aW⟩:=F17.ex
 have U18:=pF (st:=RQ.gw) l18 c18 k18
 have Bz:kc K mg "law" RQ.gw ["script"] fa _:=⟨PySem.W.mg_of X G a18,U18,U18.binds (ps:=["script"]) fun _ _ _ _ _ _=>Au fun _=>rfl⟩
 obtain⟨ca,hca⟩:∃ca:Str->Addr,ca "NoMany"=q1/\ca "NoRows"=q6:=⟨fun s=>if s="NoMany" then q1 else if s="NoRows" then q6 else 0,by first |rfl |decide |simp,by first |rfl |decide |simp⟩
 have fy:Exc K mg ca "NoMany":=⟨by rw[hca.1];exact PySem.W.mg_of X G n1,by rw[hca.1];exact e0⟩
 have cF:Exc K mg ca "NoRows":=⟨by rw[hca.2];exact PySem.W.mg_of X G n6,by rw[hca.2];exact e1⟩
 refine⟨PySem.W.fnOf "law" "law" (dz RQ.gw) (aR RQ.gw) (aj RQ.gw) .none kV18 dc18 pm18 an18 cd18 ct18,fun s v=>.of_eq rfl,fun base _ _=>?_⟩
 have er:Er mg R q0 q1 q2 q3 q4 q5 q6 q7 q8 q9 q10 q11:=⟨PySem.W.mg_of X G mR,PySem.W.mg_of X G n0,PySem.W.mg_of X G n1,PySem.W.mg_of X G n2,PySem.W.mg_of X G n3,PySem.W.mg_of X G n4,PySem.W.mg_of X G n5,PySem.W.mg_of X G n6,PySem.W.mg_of X G n7,PySem.W.mg_of X G n8,PySem.W.mg_of X G n9,PySem.W.mg_of X G n10,PySem.W.mg_of X G n11⟩
 have kt1:vv K q1 R q0 q1 q2 q3 q4 q5 q6 q7 q8 q9 q10 q11 1:=⟨⟨g1_1,g2_1,g3_1,g4_1,g5,g6,g7_1,g8_1⟩,kR1,kV1,kt1_0,kt1_1,kt1_2,kt1_3,kt1_4,kt1_5,kt1_6,kt1_7,kt1_8,kt1_9,kt1_10,kt1_11,by decide⟩
 have mt1:Mt K (.ref q1) R:=yA e0 eR (by decide) up1
 have kt6:vv K q6 R q0 q1 q2 q3 q4 q5 q6 q7 q8 q9 q10 q11 6:=⟨⟨g1_6,g2_6,g3_6,g4_6,g5,g6,g7_6,g8_6⟩,kR6,kV6,kt6_0,kt6_1,kt6_2,kt6_3,kt6_4,kt6_5,kt6_6,kt6_7,kt6_8,kt6_9,kt6_10,kt6_11,by decide⟩
 have mt6:Mt K (.ref q6) R:=yA e1 eR (by decide) up6
 have MK:xi l.prog w K mg base ca "RankError" "_law_marks" (RM.oK r6):=by
  refine Aj lE er B (PySem.W.mg_none_of X G zV) fun c j h=>?_
  unfold r6 at h
  by_cases z1:c="NoMany"
  ·subst z1
   cases h
   rw[hca.1];exact⟨mt1,kt1⟩
  by_cases z6:c="NoRows"
  ·subst z6
   cases h
   rw[hca.2];exact⟨mt6,kt6⟩
  simp only[List.lookup_cons,List.lookup_nil,beq_false_of_ne z1,beq_false_of_ne z6] at h
  cases h
 have cu:=(RQ.l6 (P:=l.prog) (w:=w) (base:=base) (ca:=ca) aP B).imp xJ
 have gN:=(RQ.ml (P:=l.prog) (w:=w) (base:=base) (ca:=ca) cv B cu).imp v7
 have iL:=(RQ.mY (P:=l.prog) (w:=w) (base:=base) (ca:=ca) cP B cu dG).imp Aq
 have iw:=RQ.nE (P:=l.prog) (w:=w) (base:=base) (ca:=ca) cQ B gN
 have dZ:=RQ.js (P:=l.prog) (w:=w) (base:=base) (ca:=ca) bA B
 have jP:=RQ.pB (P:=l.prog) (w:=w) (base:=base) (ca:=ca) dN B
 have cU:=RQ.iu (P:=l.prog) (w:=w) (base:=base) (ca:=ca) a8 B
 have cT:=RQ.iB (P:=l.prog) (w:=w) (base:=base) (ca:=ca) a7 B jP dZ cU
 have iP:=RQ.om (P:=l.prog) (w:=w) (base:=base) (ca:=ca) cR B iL iw cT fy cF
 have fL:=RQ.kh (P:=l.prog) (w:=w) (base:=base) (ca:=ca) bQ B
 have gP:=RQ.lL (P:=l.prog) (w:=w) (base:=base) (ca:=ca) cm B
 have gy:=RQ.lF (P:=l.prog) (w:=w) (base:=base) (ca:=ca) cf B fL gP
 have aH:=RQ.kl (P:=l.prog) (w:=w) (base:=base) aw B
 have bL:=RQ.hU (P:=l.prog) (w:=w) (base:=base) aM B aH
 have fJ:=RQ.kz (P:=l.prog) (w:=w) (base:=base) (ca:=ca) bP B
 have bR:=RQ.ki (P:=l.prog) (w:=w) (base:=base) (ca:=ca) aW B iP MK
 have Bd:=RQ.vZ (P:=l.prog) (w:=w) (base:=base) (ca:=ca) Bz B gy bR fJ aH bL
 exact fj.imp (sp:=vY K ca 1 yI) Bd zk
theorem walk {l:PySem.W.OpenLaw}{q:Program}{loose:List Str}{XP:(Str->Option Value)->Heap->Prop}{YP:World->Heap->Prop}{d:DefRec}{K:Params->PySem.W.Frag}(hn:l.most=some 63)(hdf:d.params.defaults= [])(hi:PyProof.Rows.importsNone q=true)
  (hY:∀(w:World) (h:Heap),YP w h->(K w.params).In h)
  (F:∀(w:World) (mg:Str->Option Value) (fa:Addr) (h:Heap),(K w.params).In h->h.Ns mainGlobals mg->mg d.name=some (.ref fa)->
   ∃fd:FuncData,(∀(s:Shared) (u:Value),BindsTo s fd ⟨[u],[]⟩ [("script",u)])/\∀base:Heap,(K w.params).In base->base.Ns mainGlobals mg->fj l.prog w (K w.params) mg base (ir l.prog w) 6 fa fd ["script"] (qR (K w.params))) :
  PySem.W.WalkO q loose XP YP l.row.toRowW d [] (fun f vs=>PySem.call f vs):=
 L2.wg (n:=63) (k:=6) (x:="script") (CX:=fun w=>ir l.prog w) (sp:=fun w=>qR (K w.params)) hn (by decide) hdf hi ⟨rfl,by decide,by decide,rfl⟩ hY F (fun _ _ a ns hl _ hS=>⟨a,ns,rfl,hS,fun _ _=>rfl⟩) fun _ _ _ _ _ z=>by
  obtain⟨_,_,_,_,_,_,_,_,_,z⟩:=z
  exact z
end RO
namespace HD
noncomputable def vw:PySem.Program:=PySem.W.view PySem.Challenge.pw_rowsorder_k11_told_by_rows [1,2,3,4,5,6,8,9,10,11,12,13,14,15,16,17,18,19,20,22,23,24,25,27,28,29,30,31,32,33,34,35]
theorem AZ:PySem.Challenge.rw_rowsorder_k11_told_by_rows.wellSaid=true:=by kernel_rfl
end HD
local macro_rules | `(tactic|o_head $H)=>`(tactic| (
 refine PySem.W.holds_open (q:=HD.vw) (loose:=[]) (Xt:=fun s=>PySem.W.xlAt HD.vw [] s && PySem.W.recOk (PySem.W.RowW.records _) s) (XP:=PySem.W.XL HD.vw []) (Yf:=PySem.W.Hook.obs $H) (Ya:=PySem.W.Hook.val $H) (YP:=PySem.W.Hook.says $H) (N:=6842) ?hl (PySem.W.Hook.of $H) (PySem.W.Hook.keeps $H) (fun s e=>PySem.W.xl_of s (Bool.and_eq_true_iff.mp e).1) PySem.W.XL.keeps (by rfl) (by rfl) (by rfl) (fun s e=>PySem.W.recFacts_of (Bool.and_eq_true_iff.mp e).2) (by rfl) (by first |assumption |decide +kernel) (by decide +kernel) ⟨rfl,rfl,rfl,rfl,rfl,by decide +kernel⟩ ?hw ?hc
 case hl=>exact HD.xQ (by kernel_rfl) (by kernel_rfl) (fun s=>by kernel_rfl) (fun w os=>by kernel_rfl)))
open PySem PySem.W PyProof.Rows L2
set_option maxRecDepth 100000 in
set_option maxHeartbeats 0 in
theorem PySem.Challenge.cw_rowsorder_k11_told_by_rows_holds : PySem.Challenge.rw_rowsorder_k11_told_by_rows.Holds := by
 w_on;(refine holds_law HD.AZ fun AZ=>?_);k_head;(case hw=>w_witness2)
 k_fill
 refine RO.walk (l:=PySem.Challenge.rw_rowsorder_k11_told_by_rows) rfl rfl ?hi (fun w h Y=>PySem.W.kIn_of Y) ?F
 case hi=>kernel_rfl
 case F=>
  intro w mg fa h KX G hmg
  refine' RO.all_mk KX G hmg ?F1 ?F2 ?F3 ?F4 ?F5 ?F6 ?F7 ?F8 ?F9 ?F10 ?F11 ?F12 ?F13 ?F14 ?F15 ?F16 ?F17 ?a18 ?l18 ?c18 ?k18 ?zB ?yMOST_THINGS ?mR ?n0 ?n1 ?n2 ?n3 ?n4 ?n5 ?n6 ?n7 ?n8 ?n9 ?n10 ?n11 ?zV ?eR ?e0 ?e1 ?up1 ?g1_1 ?g2_1 ?g3_1 ?g4_1 ?g7_1 ?g8_1 ?kR1 ?kV1 ?kt1_0 ?kt1_1 ?kt1_2 ?kt1_3 ?kt1_4 ?kt1_5 ?kt1_6 ?kt1_7 ?kt1_8 ?kt1_9 ?kt1_10 ?kt1_11 ?up6 ?g1_6 ?g2_6 ?g3_6 ?g4_6 ?g7_6 ?g8_6 ?kR6 ?kV6 ?kt6_0 ?kt6_1 ?kt6_2 ?kt6_3 ?kt6_4 ?kt6_5 ?kt6_6 ?kt6_7 ?kt6_8 ?kt6_9 ?kt6_10 ?kt6_11 ?g5 ?g6
  case F1=>refine' cC KX G RO.lP ?a ?l ?c ?k;(case a=>k_is);(case l=>k_is);(case c=>k_is);(case k=>k_is)
  case F2=>refine' cC KX G RO.oz ?a ?l ?c ?k;(case a=>k_is);(case l=>k_is);(case c=>k_is);(case k=>k_is)
  case F3=>refine' cC KX G RO.oH ?a ?l ?c ?k;(case a=>k_is);(case l=>k_is);(case c=>k_is);(case k=>k_is)
  case F4=>refine' cC KX G RO.sf ?a ?l ?c ?k;(case a=>k_is);(case l=>k_is);(case c=>k_is);(case k=>k_is)
  case F5=>refine' cC KX G RO.sM ?a ?l ?c ?k;(case a=>k_is);(case l=>k_is);(case c=>k_is);(case k=>k_is)
  case F6=>refine' cC KX G RO.lH ?a ?l ?c ?k;(case a=>k_is);(case l=>k_is);(case c=>k_is);(case k=>k_is)
  case F7=>refine' cC KX G RO.tI ?a ?l ?c ?k;(case a=>k_is);(case l=>k_is);(case c=>k_is);(case k=>k_is)
  case F8=>refine' cC KX G RO.jN ?a ?l ?c ?k;(case a=>k_is);(case l=>k_is);(case c=>k_is);(case k=>k_is)
  case F9=>refine' cC KX G RO.jY ?a ?l ?c ?k;(case a=>k_is);(case l=>k_is);(case c=>k_is);(case k=>k_is)
  case F10=>refine' cC KX G RO.sD ?a ?l ?c ?k;(case a=>k_is);(case l=>k_is);(case c=>k_is);(case k=>k_is)
  case F11=>refine' cC KX G RO.ng ?a ?l ?c ?k;(case a=>k_is);(case l=>k_is);(case c=>k_is);(case k=>k_is)
  case F12=>refine' cC KX G RO.pk ?a ?l ?c ?k;(case a=>k_is);(case l=>k_is);(case c=>k_is);(case k=>k_is)
  case F13=>refine' cC KX G RO.oP ?a ?l ?c ?k;(case a=>k_is);(case l=>k_is);(case c=>k_is);(case k=>k_is)
  case F14=>refine' cC KX G RO.mM ?a ?l ?c ?k;(case a=>k_is);(case l=>k_is);(case c=>k_is);(case k=>k_is)
  case F15=>refine' cC KX G RO.iZ ?a ?l ?c ?k;(case a=>k_is);(case l=>k_is);(case c=>k_is);(case k=>k_is)
  case F16=>refine' cC KX G RO.nu ?a ?l ?c ?k;(case a=>k_is);(case l=>k_is);(case c=>k_is);(case k=>k_is)
  case F17=>refine' cC KX G RO.nY ?a ?l ?c ?k;(case a=>k_is);(case l=>k_is);(case c=>k_is);(case k=>k_is)
  case a18=>k_is
  case l18=>k_is
  case c18=>k_is
  case k18=>k_is
  case zB=>kernel_rfl
  case yMOST_THINGS=>k_is
  case mR=>k_is
  case n0=>k_is
  case n1=>k_is
  case n2=>k_is
  case n3=>k_is
  case n4=>k_is
  case n5=>k_is
  case n6=>k_is
  case n7=>k_is
  case n8=>k_is
  case n9=>k_is
  case n10=>k_is
  case n11=>k_is
  case zV=>k_is
  case eR=>kernel_rfl
  case e0=>kernel_rfl
  case e1=>kernel_rfl
  case up1=>kernel_rfl
  case g1_1=>kernel_rfl
  case g2_1=>kernel_rfl
  case g3_1=>kernel_rfl
  case g4_1=>kernel_rfl
  case g7_1=>kernel_rfl
  case g8_1=>kernel_rfl
  case kR1=>kit_is
  case kV1=>kit_is
  case kt1_0=>kit_is
  case kt1_1=>kit_is
  case kt1_2=>kit_is
  case kt1_3=>kit_is
  case kt1_4=>kit_is
  case kt1_5=>kit_is
  case kt1_6=>kit_is
  case kt1_7=>kit_is
  case kt1_8=>kit_is
  case kt1_9=>kit_is
  case kt1_10=>kit_is
  case kt1_11=>kit_is
  case up6=>kernel_rfl
  case g1_6=>kernel_rfl
  case g2_6=>kernel_rfl
  case g3_6=>kernel_rfl
  case g4_6=>kernel_rfl
  case g7_6=>kernel_rfl
  case g8_6=>kernel_rfl
  case kR6=>kit_is
  case kV6=>kit_is
  case kt6_0=>kit_is
  case kt6_1=>kit_is
  case kt6_2=>kit_is
  case kt6_3=>kit_is
  case kt6_4=>kit_is
  case kt6_5=>kit_is
  case kt6_6=>kit_is
  case kt6_7=>kit_is
  case kt6_8=>kit_is
  case kt6_9=>kit_is
  case kt6_10=>kit_is
  case kt6_11=>kit_is
  case g5=>kernel_rfl
  case g6=>kernel_rfl

end
