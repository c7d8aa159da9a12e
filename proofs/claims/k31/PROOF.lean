import PyProof.Rows.All
import Wide.All
import OpenK.AllK
import Wide.FinOn
import Lean
import PyProof.EqAt
import PyProof.EqKinds
import PyProof.TupleCall
import PySem.SetOps
import PyProof.SetKind
import PyProof.TupleKey
import PyProof.DictKinds
import PyProof.Rows.SetFrom
import PyProof.WalksMore
import PyProof.SetRoads
import KE.KSortTup
import PyProof.CollectWalk
import PyProof.Rows.FStr
import PyProof.Rows.StrWeight2
import PyProof.Rows.StrNews
import PyProof.StrLawsTight
import PyProof.ExcArgsOwn
import PyProof.Rows.CountFlat
import PyProof.Rows.SeqMore2
import PyProof.ExcBaseAll.ValueError
import PyProof.ZipIter
import PyProof.CallFns
import PyProof.Draws
import PyProof.EnumMake
import PyProof.Rows.SortWalk
import PyProof.SeqI3
import PySem.Challenge.RW_rowsorder_k31_points_looked_at
set_option Elab.async false
set_option linter.all false
set_option maxRecDepth 100000
set_option maxHeartbeats 1000000
section
set_option Elab.async false
namespace L2
open PySem PySem.Spec PyProof.Rows
abbrev Key:=Sum Int Str
def mZ:Key->Value->Bool
 | .inl k,v=>Value.isInt k v
 | .inr x,v=>Value.isStrOf x v
def Gm (w:World):Key->Int
 | .inl k=>hashInt k
 | .inr x=>hashStr w x
theorem bE:∀{k:Key} {v:Value},mZ k v=true->(∃i t,k=Sum.inl i/\v=Value.int i t)\/(∃x t,k=Sum.inr x/\v=Value.str x t)
 | .inl i,v,h=>by
  obtain⟨t,e⟩:=Value.isInt_shape (k:=i) (v:=v) h
  exact .inl ⟨i,t,rfl,e⟩
 | .inr x,v,h=>by
  obtain⟨t,e⟩:=Value.isStrOf_shape (x:=x) (v:=v) h
  exact .inr ⟨x,t,rfl,e⟩
theorem wD (i:Int)(t:Tok):mZ (.inl i) (.int i t)=true:=by simp[mZ,Value.isInt]
theorem wH (x:Str)(t:Tok):mZ (.inr x) (.str x t)=true:=by simp[mZ,Value.isStrOf]
theorem C2 (a b:Int):decide ((Sum.inl a:Key)=Sum.inl b)=(a == b):=by
 by_cases e:a=b
 ·subst e;simp
 ·have h:¬(Sum.inl a:Key)=Sum.inl b:=fun q=>e (Sum.inl.inj q)
  rw[decide_eq_false h]
  exact (beq_eq_false_iff_ne.mpr e).symm
theorem CZ (a b:Str):decide ((Sum.inr a:Key)=Sum.inr b)=decide (a=b):=by
 by_cases e:a=b
 ·subst e;simp
 ·have h:¬(Sum.inr a:Key)=Sum.inr b:=fun q=>e (Sum.inr.inj q)
  rw[decide_eq_false h,decide_eq_false e]
theorem DW (a:Int)(b:Str):decide ((Sum.inl a:Key)=Sum.inr b)=false:=decide_eq_false (fun q=>nomatch q)
theorem Dt (a:Str)(b:Int):decide ((Sum.inr a:Key)=Sum.inl b)=false:=decide_eq_false (fun q=>nomatch q)
def de (prog:Program)(w:World):PySem.KeyKind prog w Key where
 is:=mZ
 hash:=Gm w
 inj:=fun v a b ha hb=>by
  rcases bE ha with⟨i,t,rfl,rfl⟩ | ⟨x,t,rfl,rfl⟩
  ·rcases bE hb with⟨j,u,rfl,e⟩ | ⟨y,u,rfl,e⟩
   ·injection e with e1 _;rw[e1]
   ·exact nomatch e
  ·rcases bE hb with⟨j,u,rfl,e⟩ | ⟨y,u,rfl,e⟩
   ·exact nomatch e
   ·injection e with e1 _;rw[e1]
 byValue:=fun k v h=>by
  rcases bE h with⟨i,t,rfl,rfl⟩ | ⟨x,t,rfl,rfl⟩ <;> rfl
 pyHash:=fun hv h=>by
  rcases bE hv with⟨i,t,rfl,rfl⟩ | ⟨x,t,rfl,rfl⟩
  ·exact wpAny_pyHash_int h
  ·exact wpAny_pyHash_str h
 eqBool:=fun hu hv h=>by
  rcases bE hu with⟨i,t,rfl,rfl⟩ | ⟨x,t,rfl,rfl⟩
  ·rcases bE hv with⟨j,u,rfl,rfl⟩ | ⟨y,u,rfl,rfl⟩
   ·rw[C2] at h;exact wpAny_eqBool_int h
   ·rw[DW] at h;exact SeqAt.EqAt.int_str i t y u _ _ _ _ h
  ·rcases bE hv with⟨j,u,rfl,rfl⟩ | ⟨y,u,rfl,rfl⟩
   ·rw[Dt] at h;exact SeqAt.EqAt.str_int x t j u _ _ _ _ h
   ·rw[CZ] at h;exact wpAny_eqBool_str h
 «strs»:=fun k x t v h=>by
  rcases bE h with⟨i,u,rfl,e⟩ | ⟨y,u,rfl,e⟩
  ·exact nomatch e
  ·injection e with e1 _
   subst e1
   cases v <;> rfl
theorem qS (prog:Program)(w:World)(i:Int)(t:Tok):(de prog w).is (.inl i) (.int i t)=true:=wD i t
theorem rh (prog:Program)(w:World)(x:Str)(t:Tok):(de prog w).is (.inr x) (.str x t)=true:=wH x t
end L2
namespace L2
open PySem PySem.Spec PyProof.Rows
inductive V where
 |non |bl (b:Bool) |int (i:Int) |str (x:Str) |byt (b:Array UInt8) |flt (b:UInt64) |ref (a:Addr) |ty (n:String)
 deriving DecidableEq
def RelV:V->Value->Prop
 | .non,u=>u=Value.none
 | .bl b,u=>u=Value.bool b
 | .int i,u=>∃t,u=Value.int i t
 | .str x,u=>∃t,u=Value.str x t
 | .byt b,u=>∃t,u=Value.bytes b t
 | .flt b,u=>∃t,u=Value.float b t
 | .ref a,u=>u=Value.ref a
 | .ty n,u=>u=Value.type n
abbrev Vals:List V->List Value->Prop:=Paired RelV
theorem Vals.length {xs:List V}{us:List Value}(r:Vals xs us):xs.length=us.length:=Paired.length r
theorem Vals.get:∀{xs:List V} {us:List Value} {i:Nat} {x:V},Vals xs us->xs[i]? =some x->∃u,us[i]? =some u/\RelV x u
 |_,_,_,_,.nil,e=>by simp at e
 |_,_,0,_,.cons r _,e=>by simp at e;subst e;exact⟨_,rfl,r⟩
 |_,_,i + 1,x,.cons _ t,e=>by
  obtain⟨u,h1,h2⟩:=Vals.get (i:=i) (x:=x) t (by simpa using e)
  exact⟨u,by simpa using h1,h2⟩
theorem Vals.set {x:V}{u:Value}(r:RelV x u):∀{xs:List V} {us:List Value} (i:Nat),Vals xs us->Vals (xs.set i x) (us.set i u)
 |_,_,_,.nil=>.nil
 |_,_,0,.cons _ t=>.cons r t
 |_,_,i + 1,.cons q t=>.cons q (Vals.set r i t)
theorem Vals.append:∀{xs ys:List V} {us ws:List Value},Vals xs us->Vals ys ws->Vals (xs ++ ys) (us ++ ws)
 |_,_,_,_,.nil,s=>s
 |_,_,_,_,.cons r t,s=>.cons r (Vals.append t s)
theorem Vals.take:∀{xs:List V} {us:List Value} (n:Nat),Vals xs us->Vals (xs.take n) (us.take n)
 |_,_,0,_=>.nil
 |_,_,_ + 1,.nil=>.nil
 |_,_,n + 1,.cons r t=>.cons r (Vals.take n t)
theorem Vals.drop:∀{xs:List V} {us:List Value} (n:Nat),Vals xs us->Vals (xs.drop n) (us.drop n)
 |_,_,0,r=>r
 |_,_,_ + 1,.nil=>.nil
 |_,_,n + 1,.cons _ t=>Vals.drop n t
def Du:Option V->Option Value->Prop
 |some v,some u=>RelV v u
 |none,none=>True
 |_,_=>False
def KV {κ:Type}:List (κ×V)->List (κ×Value)->Prop:=Paired fun (p:κ×V) (q:κ×Value)=>p.1=q.1/\RelV p.2 q.2
def kV:Key->V
 | .inl i=>.int i
 | .inr x=>.str x
inductive HO where
 |lst (xs:List V)
 |tup (xs:List V)
 |dK (kvs:List (Key×V)) |dT (kvs:List (List Key×V))
 |set (S:Int->Bool) (n:Nat)
 |ins (C dx:Addr) (fs:List (Str×V))
 |own (x:Addr)
 |xd (fs:List (Str×V))
 |met (f x:Addr)
 |dt (lo hi:Int)
 |a7 (o:Obj) (u:HO)
 |gf (ps:Array Value)
 |ext (φ:Heap->Prop)
abbrev Hp:=Addr->Option HO
def upd (H:Hp)(a:Addr)(o:HO):Hp:=fun b=>if b=a then some o else H b
theorem aw {H:Hp}{a:Addr}{o:HO}:upd H a o a=some o:=by unfold upd;rw[if_pos rfl]
theorem az {H:Hp}{a b:Addr}{o:HO}(h:b≠a):upd H a o b=H b:=by unfold upd;rw[if_neg h]
theorem BZ {H:Hp}{a:Addr}{o u:HO}:upd (upd H a o) a u=upd H a u:=by
 funext b;unfold upd;split <;> rfl
theorem Cq {H:Hp}{a b:Addr}{o u:HO}(h:H a=some o)(h':H b=some u)(d:o≠u):a≠b:=by
 intro e;subst e;rw[h] at h';exact d (Option.some.inj h')
theorem aF {H:Hp}{a b:Addr}{o:HO}(h:H a=some o)(h':H b=none):a≠b:=by
 intro e;subst e;rw[h] at h';cases h'
section
variable (P:Program)(w:World)
def uD (h:Heap)(a:Addr)(items:Array Value):Prop:=∃o,h.get? a=some o/\o.cls=.type "tuple"/\∃n,o.data=.seq items n/\o.dict=none
theorem uD.isTup {h:Heap}{a:Addr}{items:Array Value}(x:uD h a items):IsTup h a items:=let ⟨o,e,c,n,d,_⟩:=x;⟨o,e,c,n,d⟩
theorem uD.new (h:Heap)(items:Array Value):uD (h.push {cls:=.type "tuple",data:=.seq items}) h.objs.size items:=⟨_,Heap.get?_push_size _ rfl,rfl,_,rfl,rfl⟩
def bH (H:Hp)(h:Heap)(a:Addr):HO->Prop
 | .lst xs=>xs.length<=sizeLine/\∃(its:List Value) (n:Nat),Vals xs its/\h.get? a=some {cls:=.type "list",data:=.seq its.toArray n}
 | .tup xs=>xs.length<=sizeLine/\∃its:List Value,Vals xs its/\uD h a its.toArray
 | .dK kvs=>kvs.length<=sizeLine/\(a == sysModules)=false/\∃vs,KV kvs vs/\h.DictOf (de P w) a vs
 | .dT kvs=>kvs.length<=sizeLine/\(a == sysModules)=false/\∃xs:List (List Key×Addr×Value),
   Paired (fun (p:List Key×V) (q:List Key×Addr×Value)=>p.1=q.1/\H q.2.1=some (.tup (p.1.map kV))/\RelV p.2 q.2.2) kvs xs/\
   ∃o es ep,h.get? a=some o/\o.ExactDict/\o.data=.dict es ep/\es.toList=xs.map (entryOfKey (tupleKind (de P w)))/\(xs.map (·.1)).Nodup
 | .set S n=>h.SetOf (intKind P w) a S n
 | .ins C dx fs=>H dx=some (.own a)/\fs.length<=1000/\dx≠a/\h.get? a=some (PySem.W.instObj C dx)/\
   ∃mA,h.Ns1 dx mA/\(∀f,Du (fs.lookup f) (mA f))/\PySem.Within mA (fs.map (·.1))
 | .own _=>∃o,h.get? a=some o
 | .xd fs=>∃mA,h.Ns1 a mA/\∀f,Du (fs.lookup f) (mA f)
 | .dt lo hi=>∃t u v,h.get? a=some {cls:=.type "range",data:=.fields #[.int lo t,.int hi u,.int 1 v]}
 | .a7 o u=>h.get? a=some o/\bH H h a u
 | .gf ps=>h.get? a=some {cls:=.none,data:=.fields ps}
 | .met f x=>h.get? a=some (PySem.W.methodObj (.ref f) (.ref x))
 | .ext φ=>φ h/\(∃o,h.get? a=some o)/\∀h1 h2:Heap,φ h1->(∀o,h1.get? a=some o->h2.get? a=some o)->φ h2
def jG (H:Hp)(h:Heap):Prop:=∀a o,H a=some o->bH P w H h a o
end
section
variable {P:Program}{w:World}{H H':Hp}{h h':Heap}{a:Addr}{o:HO}
theorem bH.lt (x:bH P w H h a o):a < h.objs.size:=by
 cases o with
 |lst xs=>obtain⟨_,_,_,_,e⟩:=x;exact Heap.lt_size e
 |tup xs=>obtain⟨_,_,_,p⟩:=x;exact p.isTup.lt
 |dK kvs=>obtain⟨_,_,_,_,o,_,_,e,_⟩:=x;exact Heap.lt_size e
 |dT kvs=>obtain⟨_,_,_,_,o,_,_,e,_⟩:=x;exact Heap.lt_size e
 |set S n=>obtain⟨o,_,_,_,e,_⟩:=x;exact Heap.lt_size e
 |ins C dx fs=>obtain⟨_,_,_,e,_⟩:=x;exact Heap.lt_size e
 |own y=>obtain⟨_,e⟩:=x;exact Heap.lt_size e
 |xd fs=>obtain⟨_,⟨_,_,_,e,_⟩,_⟩:=x;exact Heap.lt_size e
 |dt lo hi=>obtain⟨_,_,_,e⟩:=x;exact Heap.lt_size e
 |a7 ob u=>obtain⟨e,_⟩:=x;exact Heap.lt_size e
 |gf ps=>exact Heap.lt_size (show h.get? a=some _ from x)
 |met f y=>exact Heap.lt_size (show h.get? a=some _ from x)
 |ext φ=>obtain⟨_,⟨_,e⟩,_⟩:=x;exact Heap.lt_size e
theorem Paired.mapP {α β:Type}{F G:α->β->Prop}:∀{l₁:List α} {l₂:List β},Paired F l₁ l₂->(∀a b,F a b->G a b)->Paired G l₁ l₂
 |_,_,.nil,_=>.nil
 |_,_,.cons r t,f=>.cons (f _ _ r) (Paired.mapP t f)
theorem bH.stay (x:bH P w H h a o)(k:∀b u,(b=a\/H b=some (.own a))->h.get? b=some u->h'.get? b=some u)
  (ho:∀b,H b=some (.own a)->H' b=some (.own a)) (ht:∀b xs,H b=some (.tup xs)->H' b=some (.tup xs)):bH P w H' h' a o:=by
 induction o with
 |lst xs=>obtain⟨z,its,n,r,e⟩:=x;exact⟨z,its,n,r,k _ _ (.inl rfl) e⟩
 |tup xs=>obtain⟨z,its,r,ob,e,c⟩:=x;exact⟨z,its,r,ob,k _ _ (.inl rfl) e,c⟩
 |dK kvs=>obtain⟨z,y,vs,r,ob,es,ep,e,c⟩:=x;exact⟨z,y,vs,r,ob,es,ep,k _ _ (.inl rfl) e,c⟩
 |dT kvs=>
  obtain⟨z,y,xs,r,ob,es,ep,e,c⟩:=x
  exact⟨z,y,xs,Paired.mapP r fun p q z=>⟨z.1,ht _ _ z.2.1,z.2.2⟩,ob,es,ep,k _ _ (.inl rfl) e,c⟩
 |set S n=>obtain⟨ob,es,ep,t,e,c⟩:=x;exact⟨ob,es,ep,t,k _ _ (.inl rfl) e,c⟩
 |ins C dx fs=>
  obtain⟨d,z,ne,e,mA,⟨od,es,ep,e2,c⟩,r⟩:=x
  exact⟨ho _ d,z,ne,k _ _ (.inl rfl) e,mA,⟨od,es,ep,k _ _ (.inr d) e2,c⟩,r⟩
 |own y=>obtain⟨ob,e⟩:=x;exact⟨ob,k _ _ (.inl rfl) e⟩
 |xd fs=>obtain⟨mA,⟨od,es,ep,e,c⟩,r⟩:=x;exact⟨mA,⟨od,es,ep,k _ _ (.inl rfl) e,c⟩,r⟩
 |dt lo hi=>obtain⟨t,u,v,e⟩:=x;exact⟨t,u,v,k _ _ (.inl rfl) e⟩
 |a7 ob u ih=>obtain⟨e,q⟩:=x;exact⟨k _ _ (.inl rfl) e,ih q⟩
 |gf ps=>
  have e:h.get? a=some {cls:=.none,data:=.fields ps}:=x
  show h'.get? a=some {cls:=.none,data:=.fields ps}
  exact k a _ (.inl rfl) e
 |met f y=>
  have e:h.get? a=some (PySem.W.methodObj (.ref f) (.ref y)):=x
  show h'.get? a=some (PySem.W.methodObj (.ref f) (.ref y))
  exact k a _ (.inl rfl) e
 |ext φ=>obtain⟨p,⟨o,e⟩,st⟩:=x;exact⟨st _ _ p fun o q=>k _ _ (.inl rfl) q,⟨o,k _ _ (.inl rfl) e⟩,st⟩
theorem jG.lt (x:jG P w H h)(e:H a=some o):a < h.objs.size:=(x a o e).lt
theorem jG.fresh (x:jG P w H h)(e:h.objs.size<=a):H a=none:=by
 cases q:H a with
 |none=>rfl
 |some u=>exact absurd (Nat.lt_of_lt_of_le (x.lt q) e) (Nat.lt_irrefl _)
theorem jG.kept (x:jG P w H h)(k:∀b u,h.get? b=some u->h'.get? b=some u):jG P w H h':=fun a o e=>
 (x a o e).stay (fun b u _ q=>k b u q) (fun _ q=>q) fun _ _ q=>q
theorem jG.laid (x:jG P w H h)(k:∀b u,h.get? b=some u->h'.get? b=some u)(hp:h.objs.size<=a)(new:bH P w (upd H a o) h' a o):jG P w (upd H a o) h':=fun b u e=>by
 have hn:=x.fresh hp
 by_cases hb:b=a
 ·subst hb;rw[aw] at e;cases e;exact new
 ·rw[az hb] at e
  exact (x b u e).stay (fun c v _ q=>k c v q) (fun c q=>by rw[az (aF q hn)];exact q) fun c xs q=>by rw[az (aF q hn)];exact q
end
def Rd (H:Hp)(a:Addr)(u:HO):Prop:=H a=some u\/∃o,H a=some (.a7 o u)
theorem Rd.ok {P:Program}{w:World}{H:Hp}{h:Heap}{a:Addr}{u:HO}(r:Rd H a u)(x:jG P w H h):bH P w H h a u:=by
 rcases r with r | ⟨o,r⟩
 ·exact x a u r
 ·obtain⟨_,q⟩:=x a _ r
  exact q
def ED:Option HO->Prop
 |some (.lst _)=>True
 |some (.dK _)=>True
 |some (.dT _)=>True
 |some (.set _ _)=>True
 |some (.ins _ _ _)=>True
 |some (.ext _)=>True
 |_=>False
section
variable {P:Program}{w:World}{H:Hp}{h h':Heap}{x e:Addr}{o':HO}
theorem jG.write (ok:jG P w H h)(mu:ED (H x))(he:e=x\/H e=some (.own x))(k:∀b u,b≠e->h.get? b=some u->h'.get? b=some u)(heo:∃u,h'.get? e=some u)
  (new:bH P w (upd H x o') h' x o'):jG P w (upd H x o') h':=fun b u q=>by
 have nown:∀c y,H c=some (.own y)->c≠x:=fun c y r z=>by subst z;rw[r] at mu;exact mu
 have ntup:∀c xs,H c=some (.tup xs)->c≠x:=fun c xs r z=>by subst z;rw[r] at mu;exact mu
 by_cases hb:b=x
 ·subst hb;rw[aw] at q;cases q;exact new
 ·rw[az hb] at q
  by_cases hbe:b=e
  ·have q':H b=some (.own x):=by
    rcases he with z |z
    ·exact absurd (hbe.trans z) hb
    ·rw[hbe];exact z
   rw[q] at q';cases q'
   obtain⟨v,hv⟩:=heo
   exact⟨v,by rw[hbe];exact hv⟩
  ·refine (ok b u q).stay (fun c v hc r=>k c v ?_ r) (fun c r=>by rw[az (nown c b r)];exact r) fun c xs r=>by rw[az (ntup c xs r)];exact r
   rcases hc with rfl |hc
   ·exact hbe
   ·rintro rfl
    rcases he with z |z
    ·exact nown c b hc z
    ·rw[hc] at z;cases z;exact hb rfl
end
structure Un (fs ex:List Addr)(H H':Hp)(h h':Heap):Prop where
 keep:∀b o,h.get? b=some o->H b=none->b∉fs->b∉ex->h'.get? b=some o
 slot:∀b o,h.get? b=some o->H b=none->b∈fs->b∉ex->∃sl,h'.get? b=some {o with slots:=sl}
 free:∀b o,h.get? b=some o->H b=none->b∉ex->H' b=none
 there:∀b o,h.get? b=some o->b∉ex->∃o',h'.get? b=some o'
 tups:∀b xs,H b=some (.tup xs)->H' b=some (.tup xs)
 frzs:∀b o u,H b=some (.a7 o u)->H' b=some (.a7 o u)
 tbls:∀b ps,H b=some (.gf ps)->∃more,H' b=some (.gf (ps ++ more))
section
variable {fs fs' ex ex':List Addr}{H H1 H2:Hp}{h h1 h2 h':Heap}{a x e:Addr}{o:HO}
theorem Un.any (u:Un fs ex H H1 h h1){b:Addr}{ob:Obj}(q:h.get? b=some ob)(n:H b=none)(hx:b∉ex):∃sl,h1.get? b=some {ob with slots:=sl}:=by
 by_cases hb:b∈fs
 ·exact u.slot b ob q n hb hx
 ·exact⟨ob.slots,u.keep b ob q n hb hx⟩
theorem Un.kept (k:∀b u,h.get? b=some u->h'.get? b=some u):Un fs ex H H h h':=
 ⟨fun b ob q _ _ _=>k b ob q,fun b ob q _ _ _=>⟨ob.slots,k b ob q⟩,fun _ _ _ n _=>n,fun b ob q _=>⟨ob,k b ob q⟩,fun _ _ q=>q,fun _ _ _ q=>q,fun _ ps q=>⟨#[],by rw[q];simp⟩⟩
theorem Un.refl:Un fs ex H H h h:=Un.kept fun _ _ q=>q
theorem Un.laid (k:∀b u,h.get? b=some u->h'.get? b=some u)(hp:h.objs.size<=a)(hn:H a=none):Un fs ex H (upd H a o) h h' where
 keep:=fun b u q _ _ _=>k b u q
 slot:=fun b u q _ _ _=>⟨u.slots,k b u q⟩
 free:=fun b u q n _=>by rw[az (Nat.ne_of_lt (Nat.lt_of_lt_of_le (Heap.lt_size q) hp))];exact n
 there:=fun b u q _=>⟨u,k b u q⟩
 tups:=fun b xs q=>by rw[az (aF q hn)];exact q
 frzs:=fun b u xs q=>by rw[az (aF q hn)];exact q
 tbls:=fun b ps q=>⟨#[],by rw[az (aF q hn),q];simp⟩
theorem Un.write (mu:ED (H x))(he:e=x\/H e=some (.own x))(k:∀b u,b≠e->h.get? b=some u->h'.get? b=some u)(heo:∃u,h'.get? e=some u):Un fs ex H (upd H x o) h h':=by
 have hx:∀b,H b=none->b≠x:=fun b n z=>by subst z;rw[n] at mu;exact mu
 have hb:∀b,H b=none->b≠e:=fun b n z=>by
  subst z
  rcases he with r |r
  ·exact hx b n r
  ·rw[n] at r;cases r
 have hm:∀b u,H b=some u->¬ED (some u)->b≠x:=fun b u q nm z=>by subst z;rw[q] at mu;exact nm mu
 refine⟨fun b u q n _ _=>k b u (hb b n) q,fun b u q n _ _=>⟨u.slots,k b u (hb b n) q⟩,fun b u q n _=>by rw[az (hx b n)];exact n,fun b u q _=>?_,
  fun b xs q=>by rw[az (hm b _ q fun z=>z)];exact q,fun b u xs q=>by rw[az (hm b _ q fun z=>z)];exact q,fun b ps q=>⟨#[],by rw[az (hm b _ q fun z=>z),q];simp⟩⟩
 by_cases hbe:b=e
 ·subst hbe;exact heo
 ·exact⟨u,k b u hbe q⟩
end
def FU (h:Heap)(H:Hp):List Addr:=(List.range h.objs.size).filter fun a=>(H a).isSome
def pR (h:Heap)(H:Hp):Heap:=PySem.W.hideAll h (FU h H)
theorem xF (h:Heap)(H:Hp):(pR h H).objs.size=h.objs.size:=PySem.W.hideAll_size _ _
theorem Ao {h:Heap}{H:Hp}{b:Addr}{o:Obj}(e:h.get? b=some o)(n:H b=none):(pR h H).get? b=some o:=
 PySem.W.hideAll_get _ e fun hm=>by
  have q:(H b).isSome=true:=(List.mem_filter.mp hm).2
  rw[n] at q;simp at q
theorem Bm {h:Heap}{H:Hp}{b:Addr}{o:Obj}(e:(pR h H).get? b=some o):h.get? b=some o/\H b=none:=by
 have e':h.get? b=some o:=PySem.W.of_hideAll (FU h H) e
 refine⟨e',?_⟩
 cases q:H b with
 |none=>rfl
 |some x=>
  have hm:b∈FU h H:=List.mem_filter.mpr ⟨List.mem_range.mpr (Heap.lt_size e'),by simp[q]⟩
  have z:(pR h H).get? b=none:=PySem.W.hideAll_none (FU h H) hm
  rw[z] at e;cases e
def AV (g h:Heap)(L:Addr):List (Addr×Obj):=(List.range h.objs.size).filterMap fun a=>if a=L\/(g.get? a).isSome=true then none else (h.get? a).map fun o=>(a,o)
def rest (g h:Heap)(L d:Addr):List (Addr×Obj):=(AV g h L).filter fun p=>decide (p.1≠d)
end L2
namespace L2
open PySem PySem.Spec PyProof.Rows
structure Mod (K:PySem.W.Frag)(mg:Str->Option Value)(base:Heap):Prop where
 kin:K.In base
 glob:base.Ns mainGlobals mg
 blt:∃mb,base.Ns builtinsNs mb/\∀x:Str,x≠"__name__"->mb x=bootBuiltins x
 nolimit:base.NoLimit
 sys:∃mm,base.Ns sysModules mm
structure Cx where
 prog:Program
 w:World
 K:PySem.W.Frag
 mg:Str->Option Value
 base:Heap
 A:Around
 N:List Str
 s₀:Shared
 H₀:Hp
 env:Env
 outer:List Env
 stack:List Env
 ex:List Addr
 fn:Str->Bool
 calm:Bool
 pn:List (Addr×Obj)
 xe:Value->Shared->Prop
def hU (l:List Env):List Addr:=l.filterMap (·.frame)
abbrev Cx.fs (X:Cx):List Addr:=hU X.outer
def tM (sc:Scope)(x:Str):Prop:=sc.names.lookup x=some .local\/sc.names.lookup x=some .cell\/sc.names.lookup x=some .free
def Loc (sc:Scope)(x:Str):Prop:=sc.names.lookup x=some .local\/sc.names.lookup x=some .cell
def Look (env:Env)(h:Heap)(m:Str->Option Value)(x:Str)(u:Value):Prop:=
 (env.kindOf x=some .local/\m x=some u)\/((env.kindOf x=some .cell\/env.kindOf x=some .free)/\∃c,env.cells.lookup x=some c/\h.IsCell c (some u))
structure Cx.Ok (X:Cx):Prop where
 mod:Mod X.K X.mg X.base
 kind:X.env.scope.kind=.function
 glob:X.env.globals=mainGlobals
 blt:X.env.builtins=builtinsNs
 above:X.s₀.heap.objs.size<=X.env.locals
 inj:∀x y c,X.env.cells.lookup x=some c->X.env.cells.lookup y=some c->x=y
 has:∀x,(X.env.kindOf x=some .cell\/X.env.kindOf x=some .free)->∃c,X.env.cells.lookup x=some c
 cab:∀x c,X.fn x=true->X.env.cells.lookup x=some c->X.s₀.heap.objs.size<=c
 hd:X.calm=true->X.A.handled=none
 frames:X.A.frames=some X.stack
 stk:X.stack=X.outer\/(X.stack=X.env :: X.outer/\X.env.frame=some X.env.locals)
 exf:∀b∈X.ex,b≠X.env.locals/\∀x c,X.env.cells.lookup x=some c->c≠b
 bs:∀b o,X.base.get? b=some o->X.s₀.heap.get? b=some o/\X.H₀ b=none
 bsz:X.base.objs.size<=X.s₀.heap.objs.size
 noex:∀b o,X.base.get? b=some o->b∉X.ex
 exfs:∀b∈X.ex,b∉X.fs
 funs:X.s₀.heap.FunFrames X.base X.outer
 frf:∀b∈X.fs,X.H₀ b=none
structure Inv (X:Cx)(pins:List (Addr×Obj))(σ:List (Option V))(H:Hp)(s:Shared):Prop where
 ok:X.Ok
 os:s.os=X.s₀.os
 bare:AllBare s.gens
 base:Un X.fs X.ex X.H₀ H X.s₀.heap s.heap
 loc:∃m,s.heap.Ns X.env.locals m/\∀(i:Nat) (x:Str) (v:V),X.N[i]? =some x->σ[i]? =some (some v)->tM X.env.scope x->∃u,RelV v u/\Look X.env s.heap m x u
 cell:∀x c,X.env.cells.lookup x=some c->∃v,s.heap.IsCell c v
 free:H X.env.locals=none
 freeC:∀x c,X.env.cells.lookup x=some c->H c=none
 pin:∀p∈X.pn ++ pins,s.heap.get? p.1=some p.2/\H p.1=none/\p.1≠X.env.locals/\p.1∉X.fs/\∀v,p.2.data≠.cell v
 hok:jG X.prog X.w H s.heap
 len:σ.length=X.N.length
section
variable {X:Cx}{pins:List (Addr×Obj)}{σ:List (Option V)}{H H':Hp}{s:Shared}{h':Heap}
theorem Cx.Ok.nofr (ok:X.Ok){b:Addr}{o:Obj}(e:X.base.get? b=some o):b∉X.fs:=fun hb=>by
 have:=(ok.funs.mem hb).1
 rw[e] at this;cases this
theorem Inv.bs (I:Inv X pins σ H s):∀b o,X.base.get? b=some o->s.heap.get? b=some o/\H b=none:=fun b o e=>
 ⟨I.base.keep b o (I.ok.bs b o e).1 (I.ok.bs b o e).2 (I.ok.nofr e) (I.ok.noex b o e),I.base.free b o (I.ok.bs b o e).1 (I.ok.bs b o e).2 (I.ok.noex b o e)⟩
theorem Inv.bk (I:Inv X pins σ H s):∀b o,X.base.get? b=some o->s.heap.get? b=some o:=fun b o e=>(I.bs b o e).1
theorem Inv.mod (I:Inv X pins σ H s):Mod X.K X.mg X.base:=I.ok.mod
theorem Inv.kIn (I:Inv X pins σ H s):X.K.In s.heap:=I.ok.mod.kin.keeps I.bk
theorem Inv.lt (I:Inv X pins σ H s):X.env.locals < s.heap.objs.size:=let ⟨_,hn,_⟩:=I.loc;hn.lt
theorem Inv.sz (I:Inv X pins σ H s):X.s₀.heap.objs.size<=s.heap.objs.size:=Nat.le_trans I.ok.above (Nat.le_of_lt I.lt)
theorem Inv.nofs (I:Inv X pins σ H s){a:Addr}(h:s.heap.objs.size<=a):a∉X.fs:=fun hb=>by
 obtain⟨_,o,ho,_⟩:=I.ok.funs.mem hb
 exact absurd (Nat.lt_of_lt_of_le (Heap.lt_size ho) (Nat.le_trans I.sz h)) (Nat.lt_irrefl _)
theorem Inv.cne (I:Inv X pins σ H s):∀x c,X.env.cells.lookup x=some c->c≠X.env.locals:=fun x c e z=>by
 obtain⟨v,o,ho,hd⟩:=I.cell x c e
 obtain⟨m,⟨o',es,ep,ho',hd',_⟩,_⟩:=I.loc
 rw[z,ho'] at ho;cases ho;rw[hd'] at hd;cases hd
theorem Inv.funs (I:Inv X pins σ H s):s.heap.FunFrames X.base X.outer:=by
 have all:∀(l:List Env),(∀b∈hU l,b∈X.fs)->X.s₀.heap.FunFrames X.base l->s.heap.FunFrames X.base l:=by
  intro l
  induction l with
  |nil=>intro _ _;trivial
  |cons env r ih=>
   intro hs hl
   obtain⟨hk,⟨L,o,hf,hn,ho,hd⟩,hr⟩:=hl
   have hL:L∈X.fs:=hs L (by unfold hU;rw[List.filterMap_cons,hf];exact List.mem_cons_self)
   obtain⟨sl,e⟩:=I.base.slot L o ho (I.ok.frf L hL) hL fun z=>I.ok.exfs L z hL
   exact⟨hk,⟨L,_,hf,hn,e,hd⟩,ih (fun b hb=>hs b (by unfold hU;rw[List.filterMap_cons,hf];exact List.mem_cons_of_mem _ hb)) hr⟩
 exact all X.outer (fun _ hb=>hb) I.ok.funs
theorem Inv.stack (I:Inv X pins σ H s):s.heap.FunFrames X.base X.stack:=by
 rcases I.ok.stk with e | ⟨e,hf⟩
 ·rw[e];exact I.funs
 ·rw[e]
  obtain⟨m,hn,_⟩:=I.loc
  refine .cons (by rw[I.ok.kind];decide) hf hn ?_ I.funs
  exact Heap.get?_none_of_le (Nat.le_trans I.ok.bsz I.ok.above)
theorem Inv.stkSub (I:Inv X pins σ H s):∀b∈hU X.stack,b∈X.env.locals :: X.fs:=fun b hb=>by
 rcases I.ok.stk with e | ⟨e,hf⟩
 ·rw[e] at hb;exact List.mem_cons_of_mem _ hb
 ·rw[e] at hb
  unfold hU at hb
  rw[List.filterMap_cons,hf] at hb
  exact hb
theorem Inv.stkFree (I:Inv X pins σ H s):∀b∈hU X.stack,H b=none:=fun b hb=>by
 rcases List.mem_cons.mp (I.stkSub b hb) with e |hb
 ·rw[e];exact I.free
 ·obtain⟨_,o,ho,_⟩:=I.ok.funs.mem hb
  exact I.base.free b o ho (I.ok.frf b hb) fun z=>I.ok.exfs b z hb
theorem Inv.step {g':Array GenState}{t':Nat}{d':Drawn}{ch:List Addr}(I:Inv X pins σ H s)
  (hch:∀b∈ch,(b∈X.ex\/X.s₀.heap.objs.size<=b)/\b≠X.env.locals/\(∀x c,X.env.cells.lookup x=some c->c≠b)/\∀p∈X.pn ++ pins,p.1≠b)
  (keep:∀b o,b≠X.env.locals->b∉X.fs->b∉ch->s.heap.get? b=some o->H b=none->h'.get? b=some o)
  (slot:∀b o,b≠X.env.locals->b∈X.fs->b∉ch->s.heap.get? b=some o->H b=none->∃sl,h'.get? b=some {o with slots:=sl}) (free:∀b o,b∉ch->s.heap.get? b=some o->H b=none->H' b=none)
  (there:∀b o,b∉ch->s.heap.get? b=some o->∃o',h'.get? b=some o')
  (tups:∀b xs,H b=some (.tup xs)->H' b=some (.tup xs)) (frzs:∀b o u,H b=some (.a7 o u)->H' b=some (.a7 o u)) (tbls:∀b ps,H b=some (.gf ps)->∃more,H' b=some (.gf (ps ++ more)))
  (ns:∀m,s.heap.Ns X.env.locals m->h'.Ns X.env.locals m) (hok:jG X.prog X.w H' h') (hg:AllBare g') :
  Inv X pins σ H' {s with heap:=h',gens:=g',drawn:=d',toks:=t'}:=by
 have neL:∀b o,X.s₀.heap.get? b=some o->b≠X.env.locals:=fun b o e=>Nat.ne_of_lt (Nat.lt_of_lt_of_le (Heap.lt_size e) I.ok.above)
 have neC:∀b o,X.s₀.heap.get? b=some o->b∉X.ex->b∉ch:=fun b o e hx hb=>by
  rcases (hch b hb).1 with z |z
  ·exact hx z
  ·exact absurd (Nat.lt_of_lt_of_le (Heap.lt_size e) z) (Nat.lt_irrefl _)
 have cellK:∀x c,X.env.cells.lookup x=some c->∀v,s.heap.IsCell c v->h'.IsCell c v:=fun x c e v ⟨o,ho,hd⟩=>by
  have nch:c∉ch:=fun z=>(hch c z).2.2.1 x c e rfl
  by_cases hc:c∈X.fs
  ·obtain⟨sl,q⟩:=slot c o (I.cne x c e) hc nch ho (I.freeC x c e)
   exact⟨_,q,hd⟩
  ·exact⟨o,keep c o (I.cne x c e) hc nch ho (I.freeC x c e),hd⟩
 refine⟨I.ok,I.os,hg,⟨fun b o e n hb hx=>?_,fun b o e n hb hx=>?_,fun b o e n hx=>?_,fun b o e hx=>?_,fun b xs e=>tups b xs (I.base.tups b xs e),fun b o xs e=>frzs b o xs (I.base.frzs b o xs e),fun b ps e=>?_⟩,?_,fun x c e=>?_,?_,fun x c e=>?_,fun p hp=>?_,hok,I.len⟩
 ·exact keep b o (neL b o e) hb (neC b o e hx) (I.base.keep b o e n hb hx) (I.base.free b o e n hx)
 ·obtain⟨sl,e1⟩:=I.base.slot b o e n hb hx
  obtain⟨sl',e2⟩:=slot b _ (neL b o e) hb (neC b o e hx) e1 (I.base.free b o e n hx)
  exact⟨sl',e2⟩
 ·obtain⟨o',e1⟩:=I.base.there b o e hx
  exact free b o' (neC b o e hx) e1 (I.base.free b o e n hx)
 ·obtain⟨o',e1⟩:=I.base.there b o e hx
  exact there b o' (neC b o e hx) e1
 ·obtain⟨m1,e1⟩:=I.base.tbls b ps e
  obtain⟨m2,e2⟩:=tbls b _ e1
  exact⟨m1 ++ m2,by rw[e2,Array.append_assoc]⟩
 ·obtain⟨m,hn,hl⟩:=I.loc
  refine⟨m,ns m hn,fun i x v e1 e2 e3=>?_⟩
  obtain⟨u,r,l⟩:=hl i x v e1 e2 e3
  refine⟨u,r,?_⟩
  rcases l with l | ⟨k,c,e,z⟩
  ·exact .inl l
  ·exact .inr ⟨k,c,e,cellK x c e _ z⟩
 ·obtain⟨v,z⟩:=I.cell x c e
  exact⟨v,cellK x c e v z⟩
 ·obtain⟨m,⟨o,_,_,ho,_⟩,_⟩:=I.loc
  exact free _ o (fun z=>(hch _ z).2.1 rfl) ho I.free
 ·obtain⟨v,o,ho,hd⟩:=I.cell x c e
  exact free c o (fun z=>(hch c z).2.2.1 x c e rfl) ho (I.freeC x c e)
 ·obtain⟨e,n,ne,nf,d⟩:=I.pin p hp
  have nch:p.1∉ch:=fun z=>(hch p.1 z).2.2.2 p hp rfl
  exact⟨keep p.1 p.2 ne nf nch e n,free p.1 p.2 nch e n,ne,nf,d⟩
theorem Inv.un {t':Nat}(I:Inv X pins σ H s)(u:Un X.fs [] H H' s.heap h')(hok:jG X.prog X.w H' h'):Inv X pins σ H' {s with heap:=h',toks:=t'}:=by
 obtain⟨m,⟨o,es,ep,ho,r⟩,_⟩:=id I.loc
 obtain⟨sl,hL⟩:=u.any ho I.free (by simp)
 exact I.step (g':=s.gens) (d':=s.drawn) (ch:=[]) (fun _ z=>nomatch z) (fun b o _ hb _ e n=>u.keep b o e n hb (by simp)) (fun b o _ hb _ e n=>u.slot b o e n hb (by simp)) (fun b o _ e n=>u.free b o e n (by simp)) (fun b o _ e=>u.there b o e (by simp)) u.tups u.frzs u.tbls (fun m' hm=>by
  obtain⟨o',es',ep',ho',r'⟩:=hm
  rw[ho] at ho';cases ho'
  exact⟨_,es',ep',hL,r'⟩) hok I.bare
theorem Inv.call {g':Array GenState}{t':Nat}{d':Drawn}{ch:List Addr}(I:Inv X pins σ H s)(u:Un (hU X.stack) ch H H' s.heap h')(hok:jG X.prog X.w H' h')(hg:AllBare g')
  (hch:∀b∈ch,(b∈X.ex\/X.s₀.heap.objs.size<=b)/\b≠X.env.locals/\(∀x c,X.env.cells.lookup x=some c->c≠b)/\∀p∈X.pn ++ pins,p.1≠b) :
  Inv X pins σ H' {s with heap:=h',gens:=g',drawn:=d',toks:=t'}:=by
 obtain⟨m,⟨o,es,ep,ho,r⟩,_⟩:=id I.loc
 obtain⟨sl,hL⟩:=u.any ho I.free fun z=>(hch _ z).2.1 rfl
 exact I.step (ch:=ch) hch (fun b o hL hb hc e n=>u.keep b o e n (fun z=>(List.mem_cons.mp (I.stkSub b z)).elim hL hb) hc) (fun b o _ _ hc e n=>u.any e n hc) (fun b o hc e n=>u.free b o e n hc) (fun b o hc e=>u.there b o e hc) u.tups u.frzs u.tbls (fun m' hm=>by
  obtain⟨o',es',ep',ho',r'⟩:=hm
  rw[ho] at ho';cases ho'
  exact⟨_,es',ep',hL,r'⟩) hok hg
theorem Inv.turned {t':Nat}{it:Addr}(I:Inv X pins σ H s)(k:∀b o,b≠it->s.heap.get? b=some o->h'.get? b=some o)(hn:H it=none)(hL:it≠X.env.locals)
  (h1:it∈X.ex\/X.s₀.heap.objs.size<=it) (h2:∀x c,X.env.cells.lookup x=some c->c≠it) (h3:∀p∈X.pn ++ pins,p.1≠it):Inv X pins σ H {s with heap:=h',toks:=t'}:=by
 have nit:∀b u,H b=some u->b≠it:=fun b u e z=>by rw[z,hn] at e;cases e
 refine I.step (g':=s.gens) (d':=s.drawn) (ch:=[it]) (fun b hb=>?_) (fun b o _ _ hc e _=>k b o (fun z=>hc (by simp[z])) e) (fun b o _ _ hc e _=>⟨o.slots,k b o (fun z=>hc (by simp[z])) e⟩) (fun _ _ _ _ n=>n)
  (fun b o hc e=>⟨o,k b o (fun z=>hc (by simp[z])) e⟩) (fun _ _ e=>e) (fun _ _ _ e=>e) (fun b ps e=>⟨#[],by rw[e];simp⟩) (fun m hm=>?_) (fun b u e=>?_) I.bare
 ·have e:b=it:=by simpa using hb
  subst e
  exact⟨h1,hL,h2,h3⟩
 ·obtain⟨o,es,ep,ho,r⟩:=hm
  exact⟨o,es,ep,k _ o (Ne.symm hL) ho,r⟩
 ·refine (I.hok b u e).stay (fun c v hc q=>k c v ?_ q) (fun _ q=>q) fun _ _ q=>q
  rcases hc with z |z
  ·rw[z];exact nit b u e
  ·exact nit c _ z
theorem Inv.tok (I:Inv X pins σ H s)(t:Nat):Inv X pins σ H {s with toks:=t}:=I.un (h':=s.heap) (t':=t) Un.refl I.hok
theorem Inv.kept {t':Nat}(I:Inv X pins σ H s)(k:∀b u,s.heap.get? b=some u->h'.get? b=some u):Inv X pins σ H {s with heap:=h',toks:=t'}:=I.un (Un.kept k) (I.hok.kept k)
theorem Inv.laid {a:Addr}{o:HO}{t':Nat}(I:Inv X pins σ H s)(k:∀b u,s.heap.get? b=some u->h'.get? b=some u)(hp:s.heap.objs.size<=a)(new:bH X.prog X.w (upd H a o) h' a o) :
  Inv X pins σ (upd H a o) {s with heap:=h',toks:=t'}:=I.un (Un.laid k hp (I.hok.fresh hp)) (I.hok.laid k hp new)
theorem Inv.write {x e:Addr}{o:HO}{t':Nat}(I:Inv X pins σ H s)(mu:ED (H x))(he:e=x\/H e=some (.own x))(k:∀b u,b≠e->s.heap.get? b=some u->h'.get? b=some u)(heo:∃u,h'.get? e=some u)
  (new:bH X.prog X.w (upd H x o) h' x o):Inv X pins σ (upd H x o) {s with heap:=h',toks:=t'}:=I.un (Un.write mu he k heo) (I.hok.write mu he k heo new)
theorem Inv.pins_of {pins':List (Addr×Obj)}(I:Inv X pins σ H s)(h:∀p∈pins',s.heap.get? p.1=some p.2/\H p.1=none/\p.1≠X.env.locals/\p.1∉X.fs/\∀v,p.2.data≠.cell v):Inv X pins' σ H s:=
 ⟨I.ok,I.os,I.bare,I.base,I.loc,I.cell,I.free,I.freeC,fun p hp=>(List.mem_append.mp hp).elim (fun z=>I.pin p (List.mem_append_left _ z)) (h p),I.hok,I.len⟩
theorem rC {N:List Str}(hN:N.Nodup){i j:Nat}{x:Str}(a:N[i]? =some x)(b:N[j]? =some x):i=j:=by
 obtain⟨h1,e1⟩:=List.getElem?_eq_some_iff.mp a
 obtain⟨h2,e2⟩:=List.getElem?_eq_some_iff.mp b
 exact (List.getElem_inj hN).mp (e1.trans e2.symm)
theorem pA {M:Model}{A:Around}{E:Value->Shared->Prop}{i:Nat}{x:Str}{v:V}{u:Value}{Q:Unit->Shared->Prop}(I:Inv X pins σ H s)(hN:X.N.Nodup)(hi:X.N[i]? =some x)(hx:Loc X.env.scope x)(r:RelV v u)
  (h:∀s',Inv X pins (σ.set i (some v)) H s'->(∃a,Heap.SameBut a s.heap s'.heap/\(a=X.env.locals\/X.env.cells.lookup x=some a))->Q () s') (hf:X.fn x=true\/X.env.scope.names.lookup x=some .local:=by first |exact .inl rfl |exact .inr rfl |assumption):wpAny M A (storeName X.env x u) Q E s:=by
 obtain⟨m,hn,hl⟩:=id I.loc
 have hcls:(X.env.scope.kind == .class || (X.env.scope.kind == .module && X.env.locals != X.env.globals))=false:=by rw[I.ok.kind];rfl
 have hiσ:i < σ.length:=by rw[I.len];exact (List.getElem?_eq_some_iff.mp hi).1
 have cne:=I.cne
 have tracked:∀{a:Addr} {h':Heap},(∃o,s.heap.get? a=some o/\H a=none)->Heap.SameBut a s.heap h'->jG X.prog X.w H h':=fun {a h'} ha hs b ob e=>by
  obtain⟨_,_,hfree⟩:=ha
  refine (I.hok b ob e).stay (fun c w' hc q=>(hs.2 c ?_).trans q) (fun _ q=>q) fun _ _ q=>q
  rintro rfl
  rcases hc with rfl |hc
  ·rw[hfree] at e;cases e
  ·rw[hfree] at hc;cases hc
 rcases hx with hk |hk
 ·refine wpAny_storeName_local hk hn (fun h' hn' hs=>?_) hcls
  obtain⟨oL,_,_,hoL,_⟩:=id hn
  refine h _ ⟨I.ok,I.os,I.bare,⟨fun b o e n hb hx=>?_,fun b o e n hb hx=>?_,I.base.free,fun b o e hx=>?_,I.base.tups,I.base.frzs,I.base.tbls⟩,⟨_,hn',fun j y v' e1 e2 e3=>?_⟩,fun y c e=>?_,I.free,I.freeC,fun p hp=>?_,tracked ⟨oL,hoL,I.free⟩ hs,by simpa using I.len⟩ ⟨_,hs,.inl rfl⟩
  ·exact (hs.2 b (Nat.ne_of_lt (Nat.lt_of_lt_of_le (Heap.lt_size e) I.ok.above))).trans (I.base.keep b o e n hb hx)
  ·obtain⟨sl,e1⟩:=I.base.slot b o e n hb hx
   exact⟨sl,(hs.2 b (Nat.ne_of_lt (Nat.lt_of_lt_of_le (Heap.lt_size e) I.ok.above))).trans e1⟩
  ·obtain⟨o',e1⟩:=I.base.there b o e hx
   exact⟨o',(hs.2 b (Nat.ne_of_lt (Nat.lt_of_lt_of_le (Heap.lt_size e) I.ok.above))).trans e1⟩
  ·by_cases hj:j=i
   ·subst hj
    rw[hi] at e1;cases e1
    rw[List.getElem?_set_self hiσ] at e2
    cases e2
    exact⟨u,r,.inl ⟨hk,by simp⟩⟩
   ·rw[List.getElem?_set_ne (Ne.symm hj)] at e2
    obtain⟨u',r',q⟩:=hl j y v' e1 e2 e3
    refine⟨u',r',?_⟩
    rcases q with⟨k,e⟩ | ⟨k,c,e,z⟩
    ·refine .inl ⟨k,?_⟩
     have:y≠x:=fun e=>hj (rC hN e1 (e▸hi))
     simp[this,e]
    ·exact .inr ⟨k,c,e,z.sameBut hs (cne y c e)⟩
  ·obtain⟨w',z⟩:=I.cell y c e
   exact⟨w',z.sameBut hs (cne y c e)⟩
  ·obtain⟨e,n,ne,nf,d⟩:=I.pin p hp
   exact⟨(hs.2 p.1 ne).trans e,n,ne,nf,d⟩
 ·have hfn:X.fn x=true:=by
   rcases hf with z |z
   ·exact z
   ·rw[z] at hk;cases hk
  obtain⟨c,hc⟩:=I.ok.has x (.inl hk)
  obtain⟨w',z⟩:=I.cell x c hc
  refine wpAny_storeName_cell I.ok.kind hk hc z (fun h' hc' hs=>?_)
  obtain⟨oc,hoc,hocd⟩:=id z
  refine h {s with heap:=h'} ⟨I.ok,I.os,I.bare,⟨fun b o e n hb hx=>?_,fun b o e n hb hx=>?_,I.base.free,fun b o e hx=>?_,I.base.tups,I.base.frzs,I.base.tbls⟩,⟨m,hn.sameBut hs (Ne.symm (cne x c hc)),fun j y v' e1 e2 e3=>?_⟩,fun y c' e=>?_,I.free,I.freeC,fun p hp=>?_,tracked ⟨oc,hoc,I.freeC x c hc⟩ hs,by simpa using I.len⟩ ⟨c,hs,.inr hc⟩
  ·exact (hs.2 b (Nat.ne_of_lt (Nat.lt_of_lt_of_le (Heap.lt_size e) (I.ok.cab x c hfn hc)))).trans (I.base.keep b o e n hb hx)
  ·obtain⟨sl,e1⟩:=I.base.slot b o e n hb hx
   exact⟨sl,(hs.2 b (Nat.ne_of_lt (Nat.lt_of_lt_of_le (Heap.lt_size e) (I.ok.cab x c hfn hc)))).trans e1⟩
  ·obtain⟨o',e1⟩:=I.base.there b o e hx
   exact⟨o',(hs.2 b (Nat.ne_of_lt (Nat.lt_of_lt_of_le (Heap.lt_size e) (I.ok.cab x c hfn hc)))).trans e1⟩
  ·by_cases hj:j=i
   ·subst hj
    rw[hi] at e1;cases e1
    rw[List.getElem?_set_self hiσ] at e2
    cases e2
    exact⟨u,r,.inr ⟨.inl hk,c,hc,hc'⟩⟩
   ·rw[List.getElem?_set_ne (Ne.symm hj)] at e2
    obtain⟨u',r',q⟩:=hl j y v' e1 e2 e3
    refine⟨u',r',?_⟩
    rcases q with q | ⟨k,c',e,z'⟩
    ·exact .inl q
    ·refine .inr ⟨k,c',e,z'.sameBut hs ?_⟩
     rintro rfl
     exact hj (rC hN e1 (I.ok.inj _ _ _ e hc▸hi))
  ·by_cases hcc:c'=c
   ·subst hcc;exact⟨_,hc'⟩
   ·obtain⟨w2,z2⟩:=I.cell y c' e
    exact⟨w2,z2.sameBut hs hcc⟩
  ·obtain⟨e,n,ne,nf,d⟩:=I.pin p hp
   refine⟨(hs.2 p.1 ?_).trans e,n,ne,nf,d⟩
   intro q
   rw[q,hoc] at e
   have q':oc=p.2:=Option.some.inj e
   exact d w' (by rw[<-q'];exact hocd)
theorem kL {M:Model}{A:Around}{E:Value->Shared->Prop}{i:Nat}{x:Str}{v:V}{u:Value}{Q:Unit->Shared->Prop}(I:Inv X pins σ H s)(hN:X.N.Nodup)(hi:X.N[i]? =some x)(hx:Loc X.env.scope x)(r:RelV v u)
  (h:∀s',Inv X pins (σ.set i (some v)) H s'->Q () s') (hf:X.fn x=true\/X.env.scope.names.lookup x=some .local:=by first |exact .inl rfl |exact .inr rfl |assumption):wpAny M A (storeName X.env x u) Q E s:=
 pA I hN hi hx r (fun s' I' _=>h s' I') hf
theorem Inv.call' {s':Shared}{ch:List Addr}(I:Inv X pins σ H s)(ho:s'.os=s.os)(u:Un (hU X.stack) ch H H' s.heap s'.heap)(hok:jG X.prog X.w H' s'.heap)(hg:AllBare s'.gens)
  (hch:∀b∈ch,(b∈X.ex\/X.s₀.heap.objs.size<=b)/\b≠X.env.locals/\(∀x c,X.env.cells.lookup x=some c->c≠b)/\∀p∈X.pn ++ pins,p.1≠b):Inv X pins σ H' s':=by
 obtain⟨h',g',d',t',o'⟩:=s'
 have e:o'=s.os:=ho
 subst e
 exact I.call (g':=g') (t':=t') (d':=d') u hok hg hch
end
abbrev XK:=Value->Option Addr->Hp->Prop
abbrev St:=List (Option V)
abbrev VK:=V->Hp->Prop
abbrev TE:=St->Hp->VK->Prop
abbrev TT:=St->Hp->(Bool->Hp->Prop)->Prop
abbrev TA:=St->Hp->(List V->Hp->Prop)->Prop
structure Ends where
 nx:St->Hp->Prop
 rt:VK
 bk:St->Hp->Prop:=fun _ _=>False
 ct:St->Hp->Prop:=fun _ _=>False
abbrev TS:=Ends->St->Hp->Prop
def EP (X:Cx)(pins:List (Addr×Obj))(σ:St)(Q:VK)(u:Value)(s':Shared):Prop:=∃v H',Inv X pins σ H' s'/\RelV v u/\Q v H'
def TP (X:Cx)(pins:List (Addr×Obj))(σ:St)(Q:Bool->Hp->Prop)(b:Bool)(s':Shared):Prop:=∃H',Inv X pins σ H' s'/\Q b H'
def AP (X:Cx)(pins:List (Addr×Obj))(σ:St)(Q:List V->Hp->Prop)(us:List Value)(s':Shared):Prop:=∃vs H',Inv X pins σ H' s'/\Vals vs us/\Q vs H'
def SP (X:Cx)(pins:List (Addr×Obj))(D:Ends)(f:Flow)(s':Shared):Prop:=
 match f with
 | .next=>∃σ' H',Inv X pins σ' H' s'/\D.nx σ' H'
 | .brk=>∃σ' H',Inv X pins σ' H' s'/\D.bk σ' H'
 | .cont=>∃σ' H',Inv X pins σ' H' s'/\D.ct σ' H'
 | .ret u=>∃v σ' H',Inv X pins σ' H' s'/\RelV v u/\D.rt v H'
def PE (X:Cx)(e:Expr)(t:TE):Prop:=
 ∀(pins:List (Addr×Obj)) (s:Shared) (σ:St) (H:Hp) (Q:VK),Inv X pins σ H s->t σ H Q->wpAny (model X.prog X.w) X.A (eval e X.env) (EP X pins σ Q) X.xe s
def PT (X:Cx)(e:Expr)(t:TT):Prop:=
 ∀(pins:List (Addr×Obj)) (s:Shared) (σ:St) (H:Hp) (Q:Bool->Hp->Prop),Inv X pins σ H s->t σ H Q->wpAny (model X.prog X.w) X.A (isTrue e X.env (eval e X.env)) (TP X pins σ Q) X.xe s
def PW (X:Cx)(e:Expr)(t:TT):Prop:=
 ∀(whole:Sem Value) (pins:List (Addr×Obj)) (s:Shared) (σ:St) (H:Hp) (Q:Bool->Hp->Prop),Inv X pins σ H s->t σ H Q->wpAny (model X.prog X.w) X.A (isTrue e X.env whole) (TP X pins σ Q) X.xe s
theorem PW.pt {X:Cx}{e:Expr}{t:TT}(h:PW X e t):PT X e t:=h _
def PA (X:Cx)(es:List Expr)(t:TA):Prop:=
 ∀(pos:Pos) (pins:List (Addr×Obj)) (s:Shared) (σ:St) (H:Hp) (Q:List V->Hp->Prop),Inv X pins σ H s->t σ H Q->wpAny (model X.prog X.w) X.A (spliced (backTo pos (starEach es X.env))) (AP X pins σ Q) X.xe s
def PS (X:Cx)(st:Stmt)(t:TS):Prop:=
 ∀(pins:List (Addr×Obj)) (s:Shared) (σ:St) (H:Hp) (D:Ends),Inv X pins σ H s->t D σ H->wpAny (model X.prog X.w) X.A (exec st X.env) (SP X pins D) X.xe s
def o4 (X:Cx)(st:List Stmt)(t:TS):Prop:=
 ∀(pins:List (Addr×Obj)) (s:Shared) (σ:St) (H:Hp) (D:Ends),Inv X pins σ H s->t D σ H->wpAny (model X.prog X.w) X.A (execs st X.env) (SP X pins D) X.xe s
theorem b7 {α:Type}{t:Sem α}{Q Q':α->Shared->Prop}{M:Model}{A:Around}{E:Value->Shared->Prop}{s:Shared}(h:wpAny M A t Q E s)(hQ:∀a s,Q a s->Q' a s):wpAny M A t Q' E s:=wpAny_mono h hQ fun _ _ x=>x
end L2
namespace L2
open PySem PySem.Spec PyProof.Rows
section
variable {X:Cx}
theorem bin {a b:Expr}{ta tb:TE}(ha:PE X a ta)(hb:PE X b tb){pins:List (Addr×Obj)}{s:Shared}{σ:St}{H:Hp}{R:V->V->Hp->Prop}(I:Inv X pins σ H s)(h:ta σ H fun x H1=>tb σ H1 fun y H2=>R x y H2)
  {α:Type} {Q:α->Shared->Prop} {f:Value->Value->Sem α}
  (hf:∀v u s2 x y H2,Inv X pins σ H2 s2->RelV x v->RelV y u->R x y H2->wpAny (model X.prog X.w) X.A (f v u) Q X.xe s2) :
  wpAny (model X.prog X.w) X.A (eval a X.env) (fun v s₁=>wpAny (model X.prog X.w) X.A (eval b X.env) (fun u s₂=>wpAny (model X.prog X.w) X.A (f v u) Q X.xe s₂) X.xe s₁) X.xe s:=by
 refine b7 (ha pins s σ H _ I h) fun v s1 ⟨x,H1,I1,r1,q1⟩=>?_
 refine b7 (hb pins s1 σ H1 _ I1 q1) fun u s2 ⟨y,H2,I2,r2,q2⟩=>?_
 exact hf v u s2 x y H2 I2 r1 r2 q2
def Ak (i:Nat):TE:=fun σ H Q=>∃v,σ[i]? =some (some v)/\Q v H
def tC (v:V):TE:=fun _ H Q=>Q v H
theorem hJ {i:Nat}{x:Str}{pos:Pos}(hN:X.N[i]? =some x)(hv:tM X.env.scope x)(hd:(x == ("__debug__":Str))=false:=by decide)(hcd:(x == ("__classdict__":Str))=false:=by decide):PE X (.Name x pos) (Ak i):=by
 intro pins s σ H Q I h
 obtain⟨v,e,h⟩:=h
 obtain⟨m,hn,hl⟩:=I.loc
 obtain⟨u,r,l⟩:=hl i x v hN e hv
 have fin:EP X pins σ Q u s:=⟨v,H,I,r,h⟩
 rcases l with⟨hk,hm⟩ | ⟨hk,c,hc,hcell⟩
 ·exact wpAny_Name (wpAny_loadName_local I.ok.kind hk hn hm fin) hd
 ·rcases hk with hk |hk
  ·exact wpAny_Name (wpAny_loadName_cell I.ok.kind hk hc hcell fin) hd
  ·exact wpAny_Name (wpAny_loadName_free I.ok.kind hk hc hcell fin hcd) hd
theorem n5 {i j pos}:PE X (.Constant (.int i) j pos) (tC (.int i)):=fun _ _ _ H _ I h=>wpAny_Constant_int ⟨.int i,H,I.tok _,⟨_,rfl⟩,h⟩
theorem uP {b j pos}:PE X (.Constant (.bool b) j pos) (tC (.bl b)):=fun _ _ _ H _ I h=>Constant_bool ⟨.bl b,H,I,rfl,h⟩
theorem Ec {j pos}:PE X (.Constant .none j pos) (tC .non):=fun _ _ _ H _ I h=>Constant_none ⟨.non,H,I,rfl,h⟩
theorem zd {x j pos}:PE X (.Constant (.str x) j pos) (tC (.str x)):=fun _ _ _ H _ I h=>Calls.Constant_str ⟨.str x,H,I.tok _,⟨_,rfl⟩,h⟩
def Gl (X:Cx)(x:Str):Prop:=X.env.kindOf x=some .globalImplicit
theorem pL {E:Value->Shared->Prop}{pins:List (Addr×Obj)}{s:Shared}{σ:St}{H:Hp}{x:Str}{u:Value}{pos:Pos}{Q:Value->Shared->Prop}(I:Inv X pins σ H s)(hg:Gl X x)(hm:X.mg x=some u)(h:Q u s)
  (hd:(x == ("__debug__":Str))=false:=by decide):wpAny (model X.prog X.w) X.A (eval (.Name x pos) X.env) Q E s:=
 Calls.Name_function_global I.ok.kind hg (Calls.loadGlobal_global (by rw[I.ok.glob];exact I.mod.glob.keeps I.bk) hm h) hd
theorem mM {E:Value->Shared->Prop}{pins:List (Addr×Obj)}{s:Shared}{σ:St}{H:Hp}{x:Str}{u:Value}{pos:Pos}{Q:Value->Shared->Prop}(I:Inv X pins σ H s)(hg:Gl X x)(hm:X.mg x=none)(hv:bootBuiltins x=some u)(h:Q u s)
  (hn:x≠"__name__":=by decide) (hd:(x == ("__debug__":Str))=false:=by decide):wpAny (model X.prog X.w) X.A (eval (.Name x pos) X.env) Q E s:=by
 obtain⟨mb,h1,h2⟩:=I.mod.blt
 exact Calls.Name_function_global I.ok.kind hg (Calls.loadGlobal_builtin (by rw[I.ok.glob];exact I.mod.glob.keeps I.bk) hm (by rw[I.ok.blt];exact h1.keeps I.bk) ((h2 x hn).trans hv) h) hd
theorem BR {x:Str}{v:V}{u:Value}{pos:Pos}(hg:Gl X x)(hm:X.mg x=some u)(r:RelV v u)(hd:(x == ("__debug__":Str))=false:=by decide):PE X (.Name x pos) (tC v):=
 fun _ _ _ H _ I h=>pL I hg hm ⟨v,H,I,r,h⟩ hd
theorem AX {x:Str}{v:V}{u:Value}{pos:Pos}(hg:Gl X x)(hm:X.mg x=none)(hv:bootBuiltins x=some u)(r:RelV v u)(hn:x≠"__name__":=by decide)(hd:(x == ("__debug__":Str))=false:=by decide):PE X (.Name x pos) (tC v):=
 fun _ _ _ H _ I h=>mM I hg hm hv ⟨v,H,I,r,h⟩ hn hd
variable {a b:Expr}{ta tb:TE}{pos:Pos}
def PC (X:Cx)(op:CmpOp)(a b:Expr)(t:TE):Prop:=
 ∀(pins:List (Addr×Obj)) (s:Shared) (σ:St) (H:Hp) (Q:VK),Inv X pins σ H s->t σ H Q->
  wpAny (model X.prog X.w) X.A (eval a X.env) (fun v s₁=>wpAny (model X.prog X.w) X.A (eval b X.env) (fun u s₂=>wpAny (model X.prog X.w) X.A (compareOp op v u) (EP X pins σ Q) X.xe s₂) X.xe s₁) X.xe s
theorem yS (b:Expr){op:CmpOp}(h:op≠.In)(h2:op≠.NotIn):behindInMarks op b=false:=by
 have e1:(op == CmpOp.In)=false:=by cases op <;> first |rfl |exact absurd rfl h
 have e2:(op == CmpOp.NotIn)=false:=by cases op <;> first |rfl |exact absurd rfl h2
 cases b <;> simp[behindInMarks,e1,e2]
def tB (t:TE):TT:=fun σ H Q=>t σ H fun x H1=>∃c,x=.bl c/\Q c H1
theorem GJ {op:CmpOp}{t:TE}(h:PC X op a b t)(h1:behindInMarks op b=false:=by first |exact yS _ (by decide) (by decide) |rfl):PT X (.Compare a [op] [b] pos) (tB t):=by
 intro pins s σ H Q I hw
 refine wpAny_isTrue_Compare1 (b7 (h pins s σ H _ I hw) fun v s1 h1=>b7 h1 fun u s2 h2=>b7 h2 fun c s3 ⟨x,H1,I1,r1,q1⟩=>?_) h1
 obtain⟨d,rfl,q⟩:=q1
 cases r1
 exact wpAny_truthy_bool ⟨H1,I1,q⟩
theorem tO {e:Expr}{t:TE}(h:PE X e t)(he:∀whole,isTrue e X.env whole=(do let v <-whole;standAt e.pos;holding [v] (truthy v)):=by intro _;rfl):PT X e (tB t):=by
 intro pins s σ H Q I hw
 refine isTrue_plain (b7 (h pins s σ H _ I hw) fun v s1 ⟨x,H1,I1,r1,q1⟩=>?_) (he _)
 obtain⟨d,rfl,q⟩:=q1
 cases r1
 exact wpAny_truthy_bool ⟨H1,I1,q⟩
variable {tA tB':TT}{rest:List Expr}
def Hg (t u:TT):TT:=fun σ H Q=>t σ H fun c H1=>if c=true then u σ H1 Q else Q false H1
def HH (t u:TT):TT:=fun σ H Q=>t σ H fun c H1=>if c=true then Q true H1 else u σ H1 Q
def GV (t:TT):TT:=fun σ H Q=>t σ H fun c H1=>Q (!c) H1
theorem vj (ha:PT X a tA):PW X (.BoolOp .And [a] pos) tA:=by
 intro wh pins s σ H Q I h
 refine isTrue_and (b7 (ha pins s σ H Q I h) fun c s1 e=>?_)
 cases c with
 |true=>exact isTrue_and_nil e
 |false=>exact e
theorem DV (ha:PT X a tA):PW X (.BoolOp .Or [a] pos) tA:=by
 intro wh pins s σ H Q I h
 refine isTrue_or (b7 (ha pins s σ H Q I h) fun c s1 e=>?_)
 cases c with
 |false=>exact isTrue_or_nil e
 |true=>exact e
theorem xT (ha:PT X a tA)(hb:PW X (.BoolOp .And (b :: rest) pos) tB'):PW X (.BoolOp .And (a :: b :: rest) pos) (Hg tA tB'):=by
 intro wh pins s σ H Q I h
 refine isTrue_and (b7 (ha pins s σ H _ I h) fun c s1 ⟨H1,I1,q1⟩=>?_)
 cases c with
 |true=>exact hb wh pins s1 σ H1 Q I1 q1
 |false=>exact⟨H1,I1,q1⟩
theorem EJ (ha:PT X a tA)(hb:PW X (.BoolOp .Or (b :: rest) pos) tB'):PW X (.BoolOp .Or (a :: b :: rest) pos) (HH tA tB'):=by
 intro wh pins s σ H Q I h
 refine isTrue_or (b7 (ha pins s σ H _ I h) fun c s1 ⟨H1,I1,q1⟩=>?_)
 cases c with
 |true=>exact⟨H1,I1,q1⟩
 |false=>exact hb wh pins s1 σ H1 Q I1 q1
theorem CV (ha:PT X a tA):PT X (.UnaryOp .Not a pos) (GV tA):=by
 intro pins s σ H Q I h
 exact isTrue_not (ha pins s σ H (fun c H1=>Q (!c) H1) I h)
def EI (ta tb:TE):TE:=fun σ H Q=>ta σ H fun x H1=>∃c,x=.bl c/\if c=true then tb σ H1 Q else Q (.bl false) H1
def EF (ta:TE):TE:=fun σ H Q=>ta σ H fun x H1=>∃c,x=.bl c/\Q (.bl (!c)) H1
theorem DI {op}{t:TE}(h:PE X a t):PE X (.BoolOp op [a] pos) t:=fun pins s σ H Q I hw=>BoolOp_one (h pins s σ H Q I hw)
theorem C4 (ha:PE X a ta)(hb:PE X (.BoolOp .And (b :: rest) pos) tb):PE X (.BoolOp .And (a :: b :: rest) pos) (EI ta tb):=by
 intro pins s σ H Q I h
 refine BoolOp_and (b7 (ha pins s σ H _ I h) fun v s1 ⟨x,H1,I1,r1,q1⟩=>?_)
 obtain⟨c,rfl,q1⟩:=q1
 cases r1
 refine wpAny_truthy_bool ?_
 cases c with
 |true=>exact hb pins s1 σ H1 Q I1 q1
 |false=>exact⟨.bl false,H1,I1,rfl,q1⟩
theorem DN (ha:PE X a ta):PE X (.UnaryOp .Not a pos) (EF ta):=by
 intro pins s σ H Q I h
 refine UnaryOp_ (b7 (ha pins s σ H _ I h) fun v s1 ⟨x,H1,I1,r1,q1⟩=>?_)
 obtain⟨c,rfl,q1⟩:=q1
 cases r1
 exact not_of (wpAny_truthy_bool ⟨.bl (!c),H1,I1,rfl,q1⟩)
end
end L2
namespace L2
open PySem PySem.Spec PyProof.Rows
def gu (K:PySem.W.Frag)(H:Hp)(a:Addr)(xs:List V):Prop:=
 Rd H a (.lst xs)\/
  ∃(o:Obj) (its:Array Value) (n:Nat),K.lookup a=some o/\o.cls=.type "list"/\o.dict=none/\o.data=.seq its n/\its.size<=sizeLine/\Vals xs its.toList
def fG (K:PySem.W.Frag)(H:Hp)(a:Addr)(xs:List V):Prop:=
 Rd H a (.tup xs)\/
  ∃(o:Obj) (its:Array Value) (n:Nat),K.lookup a=some o/\o.cls=.type "tuple"/\o.data=.seq its n/\its.size<=sizeLine/\Vals xs its.toList/\o.dict=none
def Gd:Value->Option V
 | .none=>some .non
 | .bool b=>some (.bl b)
 | .int i _=>some (.int i)
 | .str x _=>some (.str x)
 | .bytes b _=>some (.byt b)
 | .float b _=>some (.flt b)
 | .ref a=>some (.ref a)
 | .type n=>some (.ty n)
 |_=>none
theorem RelV.abs {x:V}{u:Value}(r:RelV x u):Gd u=some x:=by
 cases x with
 |non=>cases r;rfl
 |bl _=>cases r;rfl
 |int _=>obtain⟨t,rfl⟩:=r;rfl
 |str _=>obtain⟨t,rfl⟩:=r;rfl
 |byt _=>obtain⟨t,rfl⟩:=r;rfl
 |flt _=>obtain⟨t,rfl⟩:=r;rfl
 |ref _=>cases r;rfl
 |ty _=>cases r;rfl
theorem RelV.inj {x y:V}{u:Value}(r:RelV x u)(q:RelV y u):x=y:=Option.some.inj (r.abs.symm.trans q.abs)
theorem Vals.inj:∀{xs ys:List V} {us:List Value},Vals xs us->Vals ys us->xs=ys
 |_,_,_,.nil,.nil=>rfl
 |_,_,_,.cons r t,.cons r' t'=>by rw[r.inj r',Vals.inj t t']
section
variable {X:Cx}{pins:List (Addr×Obj)}{σ:St}{H:Hp}{s:Shared}{a:Addr}{xs ys:List V}
theorem Inv.list (I:Inv X pins σ H s)(h:gu X.K H a xs):∃its:List Value,Vals xs its/\PlainL s.heap a its.toArray/\xs.length<=sizeLine:=by
 rcases h with h | ⟨o,its,n,hk,hc,hd,hs,hz,r⟩
 ·obtain⟨z,its,n,r,e⟩:=h.ok I.hok
  exact⟨its,r,⟨_,n,e,rfl,rfl,rfl⟩,z⟩
 ·refine⟨its.toList,r,⟨o,n,I.kIn a o hk,hc,hd,by simpa using hs⟩,?_⟩
  have e:=r.length
  simp only[Array.length_toList] at e
  omega
theorem Inv.tuple (I:Inv X pins σ H s)(h:fG X.K H a xs):∃its:List Value,Vals xs its/\IsTup s.heap a its.toArray/\xs.length<=sizeLine:=by
 rcases h with h | ⟨o,its,n,hk,hc,hs,hz,r,_⟩
 ·obtain⟨z,its,r,p⟩:=h.ok I.hok
  exact⟨its,r,p.isTup,z⟩
 ·refine⟨its.toList,r,⟨o,I.kIn a o hk,hc,n,by simpa using hs⟩,?_⟩
  have e:=r.length
  simp only[Array.length_toList] at e
  omega
theorem Inv.list_inj (I:Inv X pins σ H s)(h:gu X.K H a xs)(h':gu X.K H a ys):xs=ys:=by
 obtain⟨its,r,⟨o,n,e,_,_,d⟩,_⟩:=I.list h
 obtain⟨its',r',⟨o',n',e',_,_,d'⟩,_⟩:=I.list h'
 rw[e] at e';cases e'
 rw[d] at d'
 injection d' with d1 _
 have:its=its':=by simpa using congrArg Array.toList d1
 subst this
 exact r.inj r'
theorem Inv.tuple_inj (I:Inv X pins σ H s)(h:fG X.K H a xs)(h':fG X.K H a ys):xs=ys:=by
 obtain⟨its,r,⟨o,e,_,n,d⟩,_⟩:=I.tuple h
 obtain⟨its',r',⟨o',e',_,n',d'⟩,_⟩:=I.tuple h'
 rw[e] at e';cases e'
 rw[d] at d'
 injection d' with d1 _
 have:its=its':=by simpa using congrArg Array.toList d1
 subst this
 exact r.inj r'
end
abbrev Cx.wish (X:Cx)(E:Value->Shared->Prop):Cx:={X with xe:=E}
abbrev Cx.nox (X:Cx):Cx:=X.wish fun _ _=>False
theorem Cx.Ok.wish {X:Cx}(ok:X.Ok)(E:Value->Shared->Prop):(X.wish E).Ok:=
 ⟨ok.mod,ok.kind,ok.glob,ok.blt,ok.above,ok.inj,ok.has,ok.cab,ok.hd,ok.frames,ok.stk,ok.exf,ok.bs,ok.bsz,ok.noex,ok.exfs,ok.funs,ok.frf⟩
theorem Cx.Ok.unwish {X:Cx}{E:Value->Shared->Prop}(ok:(X.wish E).Ok):X.Ok:=
 ⟨ok.mod,ok.kind,ok.glob,ok.blt,ok.above,ok.inj,ok.has,ok.cab,ok.hd,ok.frames,ok.stk,ok.exf,ok.bs,ok.bsz,ok.noex,ok.exfs,ok.funs,ok.frf⟩
section
variable {X:Cx}{pins:List (Addr×Obj)}{σ:St}{H:Hp}{s:Shared}{E:Value->Shared->Prop}
theorem Inv.wish (I:Inv X pins σ H s)(E:Value->Shared->Prop):Inv (X.wish E) pins σ H s:=⟨I.ok.wish E,I.os,I.bare,I.base,I.loc,I.cell,I.free,I.freeC,I.pin,I.hok,I.len⟩
theorem Inv.unwish (I:Inv (X.wish E) pins σ H s):Inv X pins σ H s:=⟨I.ok.unwish,I.os,I.bare,I.base,I.loc,I.cell,I.free,I.freeC,I.pin,I.hok,I.len⟩
theorem SP.unwish {D:Ends}{f:Flow}{s':Shared}(h:SP (X.wish E) pins D f s'):SP X pins D f s':=by
 cases f with
 |next=>obtain⟨σ',H',I,q⟩:=h;exact⟨σ',H',I.unwish,q⟩
 |brk=>obtain⟨σ',H',I,q⟩:=h;exact⟨σ',H',I.unwish,q⟩
 |cont=>obtain⟨σ',H',I,q⟩:=h;exact⟨σ',H',I.unwish,q⟩
 |ret u=>obtain⟨v,σ',H',I,r,q⟩:=h;exact⟨v,σ',H',I.unwish,r,q⟩
theorem o4.nox {st:List Stmt}{t:TS}(h:o4 X.nox st t):o4 X st t:=fun pins s σ H D I hw=>
 wpAny_mono (h pins s σ H D (I.wish _) hw) (fun _ _ q=>q.unwish) fun _ _ z=>False.elim z
end
section
variable {X:Cx}{st:Stmt}{rest:List Stmt}{t u:TS}{e:Expr}{te:TE}{pos:Pos}
def Fd:TS:=fun D σ H=>D.nx σ H
def G9 (t u:TS):TS:=fun D σ H=>t {D with nx:=u D} σ H
theorem uS:o4 X [] Fd:=fun _ _ σ H _ I h=>wpAny_execs_nil ⟨σ,H,I,h⟩
theorem fY (h1:PS X st t)(h2:o4 X rest u):o4 X (st :: rest) (G9 t u):=by
 intro pins s σ H D I h
 refine wpAny_execs_cons (b7 (h1 pins s σ H {D with nx:=u D} I h) fun f s1 q=>?_)
 cases f with
 |next=>
  obtain⟨σ',H',I',q⟩:=q
  exact h2 pins s1 σ' H' D I' q
 |ret v=>exact q
 |brk=>exact q
 |cont=>exact q
theorem gG (h1:PS X st t):o4 X [st] t:=by
 intro pins s σ H D I h
 refine wpAny_execs_cons (b7 (h1 pins s σ H D I h) fun f s1 q=>?_)
 cases f with
 |next=>exact wpAny_execs_nil q
 |ret v=>exact q
 |brk=>exact q
 |cont=>exact q
theorem Inv.quiet {pins:List (Addr×Obj)}{σ:St}{H:Hp}{s:Shared}(I:Inv X pins σ H s):interactive X.env=false:=by simp[interactive,I.ok.kind]
def EE (te:TE):TS:=fun D σ H=>te σ H fun _ H1=>D.nx σ H1
theorem pU (he:PE X e te)(hs:swapsWith e none pos.line X.env=pure false:=by rfl):PS X (.Expr e pos) (EE te):=by
 intro pins s σ H D I h
 exact wpAny_Expr_any (b7 (he pins s σ H _ I h) fun v s1 ⟨x,H1,I1,r1,q1⟩=>⟨σ,H1,I1,q1⟩) I.quiet hs
def Ga (te:TE):TS:=fun D σ H=>te σ H D.rt
theorem k9 (he:PE X e te):PS X (.Return (some e) pos) (Ga te):=by
 intro pins s σ H D I h
 exact wpAny_Return_some (b7 (he pins s σ H _ I h) fun v s1 ⟨x,H1,I1,r1,q1⟩=>⟨x,σ,H1,I1,r1,q1⟩)
def G6 (c:TT)(t u:TS):TS:=fun D σ H=>c σ H fun b H1=>if b=true then t D σ H1 else u D σ H1
theorem Cv {c:Expr}{a b:List Stmt}{tc:TT}(hc:PT X c tc)(ha:o4 X a t)(hb:o4 X b u):PS X (.If c a b pos) (G6 tc t u):=by
 intro pins s σ H D I h
 refine wpAny_If (b7 (hc pins s σ H _ I h) fun d s1 ⟨H1,I1,q1⟩=>?_)
 cases d with
 |true=>exact ha pins s1 σ H1 D I1 q1
 |false=>exact hb pins s1 σ H1 D I1 q1
end
abbrev TG:=V->St->Hp->(St->Hp->Prop)->Prop
abbrev Dr:=List V->St->Hp->(St->Hp->Prop)->Prop
def PG (X:Cx)(target:Expr)(t:TG):Prop:=
 ∀(pins:List (Addr×Obj)) (s:Shared) (σ:St) (H:Hp) (v:V) (u:Value) (Q:St->Hp->Prop),Inv X pins σ H s->RelV v u->t v σ H Q->
  wpAny (model X.prog X.w) X.A (assign target X.env u) (fun _ s'=>∃σ' H',Inv X pins σ' H' s'/\Q σ' H') X.xe s
def FX (X:Cx)(ts:List Expr)(t:Dr):Prop:=
 ∀(pins:List (Addr×Obj)) (s:Shared) (σ:St) (H:Hp) (vs:List V) (us:List Value) (Q:St->Hp->Prop),Inv X pins σ H s->Vals vs us->t vs σ H Q->
  wpAny (model X.prog X.w) X.A (assignInOrder ((assignEach ts X.env).map (·.2)) us) (fun _ s'=>∃σ' H',Inv X pins σ' H' s'/\Q σ' H') X.xe s
abbrev D6:=V->V->V->Hp->(Hp->Prop)->Prop
def pP (X:Cx)(t:D6):Prop:=
 ∀(pins:List (Addr×Obj)) (s:Shared) (σ:St) (H:Hp) (o i v:V) (ov iv u:Value) (Q:Hp->Prop),Inv X pins σ H s->RelV o ov->RelV i iv->RelV v u->t o i v H Q->
  wpAny (model X.prog X.w) X.A (setItem ov iv u) (fun _ s'=>∃H',Inv X pins σ H' s'/\Q H') X.xe s
section
variable {X:Cx}{pos:Pos}
def jY (i:Nat):TG:=fun v σ H Q=>Q (σ.set i (some v)) H
theorem cH {i:Nat}{x:Str}(hN:X.N.Nodup)(hi:X.N[i]? =some x)(hx:Loc X.env.scope x)(hf:X.fn x=true\/X.env.scope.names.lookup x=some .local:=by first |exact .inl rfl |exact .inr rfl |assumption):PG X (.Name x pos) (jY i):=by
 intro pins s σ H v u Q I r h
 exact wpAny_assign_Name (kL I hN hi hx r (fun s' I'=>⟨_,H,I',h⟩) hf)
def BE:Dr:=fun vs σ H Q=>vs= []/\Q σ H
def nW (t:TG)(u:Dr):Dr:=fun vs σ H Q=>∃v r,vs=v :: r/\t v σ H fun σ' H'=>u r σ' H' Q
theorem jL:FX X [] BE:=by
 intro pins s σ H vs us Q I r h
 obtain⟨e,h⟩:=h
 subst e
 cases r
 exact assignInOrder_nil ⟨σ,H,I,h⟩
theorem cy {e:Expr}{es:List Expr}{t:TG}{u:Dr}(h1:PG X e t)(h2:FX X es u)
  (hs:(assignEach (e :: es) X.env).map (·.2)=assign e X.env :: (assignEach es X.env).map (·.2):=by rfl):FX X (e :: es) (nW t u):=by
 intro pins s σ H vs us Q I r h
 obtain⟨v,vr,e1,h⟩:=h
 subst e1
 cases r with
 |cons r rr=>
  rw[hs]
  refine assignInOrder_cons (b7 (h1 pins s σ H _ _ _ I r h) fun _ s1 ⟨σ1,H1,I1,q1⟩=>?_)
  exact h2 pins s1 σ1 H1 _ _ Q I1 rr q1
def A4 (K:PySem.W.Frag)(n:Nat)(t:Dr):TG:=fun v σ H Q=>∃a xs,v=.ref a/\fG K H a xs/\xs.length=n/\t xs σ H Q
theorem ly {es:List Expr}{k:Nat}{t:Dr}{n:Nat}(hc:X.calm=true)(h:FX X es t)
  (hn:(assignEach es X.env).length=n:=by rfl) (hst:(assignEach es X.env).findIdx? (·.1)=none:=by rfl):PG X (.Tuple es k pos) (A4 X.K n t):=by
 intro pins s σ H v u Q I r hw
 obtain⟨a,xs,e1,hq,hl,hw⟩:=hw
 subst e1
 cases r
 obtain⟨its,rv,ht,hz⟩:=I.tuple hq
 refine assign_Tuple_tuple (I.ok.hd hc) ht (by simp[hn,<-hl,rv.length]) hst fun h' hx=>?_
 have I1:Inv X pins σ H {s with heap:=h'}:=I.kept (t':=s.toks) fun b o e=>hx b o (Nat.ne_of_lt (Heap.lt_size e)) e
 exact h pins _ σ H xs _ Q I1 (by simpa using rv) hw
def Fu (to ti:TE)(t:D6):TG:=fun v σ H Q=>to σ H fun o H1=>ti σ H1 fun i H2=>t o i v H2 fun H3=>Q σ H3
theorem nc {o i:Expr}{to ti:TE}{t:D6}(ho:PE X o to)(hi:PE X i ti)(hs:pP X t)
  (ha:∀v,assign (.Subscript o i pos) X.env v=(do
   let ov <-holding [v] (eval o X.env)
   let iv <-holding [v,ov] (eval i X.env)
   standAt pos
   holding [v,ov,iv] (setItem ov iv v)
   release [v,ov,iv] []):=by intro _;rfl):PG X (.Subscript o i pos) (Fu to ti t):=by
 intro pins s σ H v u Q I r h
 rw[ha]
 refine wpAny_bind (wpAny_holding (b7 (ho pins s σ H _ I h) fun ov s1 ⟨x,H1,I1,r1,q1⟩=>?_))
 refine wpAny_bind (wpAny_holding (b7 (hi pins s1 σ H1 _ I1 q1) fun iv s2 ⟨y,H2,I2,r2,q2⟩=>?_))
 refine wpAny_bind (wpAny_standAt (wpAny_bind (wpAny_holding (b7 (hs pins s2 σ H2 x y v ov iv u _ I2 r1 r2 r q2) fun _ s3 ⟨H3,I3,q3⟩=>?_))))
 exact wpAny_release ⟨σ,H3,I3,q3⟩
def Fs (te:TE)(g:TG):TS:=fun D σ H=>te σ H fun x H1=>g x σ H1 D.nx
theorem lh {tg e:Expr}{te:TE}{g:TG}(he:PE X e te)(hg:PG X tg g)(hs:swapsWithSole [tg] e pos.line X.env=pure false:=by rfl)(hw:swappedStores [tg] e X.env=pure none:=by rfl)
  (h1:(assignEach [tg] X.env).map (·.2)= [assign tg X.env]:=by rfl):PS X (.Assign [tg] e pos) (Fs te g):=by
 intro pins s σ H D I h
 refine wpAny_Assign_stores (b7 (he pins s σ H _ I h) fun v s1 ⟨x,H1,I1,r1,q1⟩=>?_) hs hw
 rw[h1]
 exact b7 (hg pins s1 σ H1 x v _ I1 r1 q1) fun _ s2 q=>q
theorem nV {i:Nat}{x:Str}{e:Expr}{te:TE}{pos':Pos}(hN:X.N.Nodup)(hi:X.N[i]? =some x)(hx:Loc X.env.scope x)(he:PE X e te)(hs:swapsWith e (some (.Name x pos')) pos.line X.env=pure false:=by rfl)(hf:X.fn x=true\/X.env.scope.names.lookup x=some .local:=by first |exact .inl rfl |exact .inr rfl |assumption) :
  PS X (.Assign [.Name x pos'] e pos) (Fs te (jY i)):=by
 intro pins s σ H D I h
 refine wpAny_Assign_Name (b7 (he pins s σ H _ I h) fun v s1 ⟨y,H1,I1,r1,q1⟩=>?_) hs
 exact kL I1 hN hi hx r1 (fun s2 I2=>⟨_,H1,I2,q1⟩) hf
def GY (i j:Nat)(ta:TA):TS:=fun D σ H=>ta σ H fun vs H1=>∃v w,vs= [v,w]/\D.nx ((σ.set i (some v)).set j (some w)) H1
theorem DF {i j:Nat}{x y:Str}{a b:Expr}{ta:TA}{px py pt:Pos}{kt k2 pt2}(hc:X.calm=true)(hN:X.N.Nodup)(hi:X.N[i]? =some x)(hj:X.N[j]? =some y)(hij:i≠j)
  (hx:X.env.scope.names.lookup x=some .local) (hy:X.env.scope.names.lookup y=some .local) (ha:PA X [a,b] ta)
  (hw:swappedStores [.Tuple [.Name x px,.Name y py] kt pt] (.Tuple [a,b] k2 pt2) X.env=pure (some [x,y]))
  (hs:swapsWithSole [.Tuple [.Name x px,.Name y py] kt pt] (.Tuple [a,b] k2 pt2) pos.line X.env=pure false:=by rfl) :
  PS X (.Assign [.Tuple [.Name x px,.Name y py] kt pt] (.Tuple [a,b] k2 pt2) pos) (GY i j ta):=by
 intro pins s σ H D I h
 rw[exec_Assign_arm]
 refine wpAny_bind (wpAny_standAt ?_)
 rw[hs]
 refine wpAny_bind (wpAny_pure ?_)
 rw[if_neg (by decide)]
 refine wpAny_bind (Tuple_ (b7 (ha _ pins s σ H _ I h) fun us s1 ⟨vs,H1,I1,r1,q1⟩=>?_))
 obtain⟨v,w,e1,q1⟩:=q1
 subst e1
 obtain⟨u1,u2,rfl,rv,rw'⟩:∃u1 u2,us= [u1,u2]/\RelV v u1/\RelV w u2:=by
  cases r1 with
  |cons p q=>
   cases q with
   |cons p' q'=>
    cases q'
    exact⟨_,_,rfl,p,p'⟩
 refine wpAny_newObj_type ?_ (by show 2<=sizeLine;decide)
 have I2:Inv X pins σ H1 {s1 with heap:=s1.heap.push {cls:=.type "tuple",data:=.seq [u1,u2].toArray}}:=I1.kept (t':=s1.toks) fun b o e=>Heap.get?_push_of_some _ e
 rw[hw]
 refine wpAny_bind (wpAny_pure ?_)
 show wpAny (model X.prog X.w) X.A (do rule "assign.swapped-stores";let items <-unpackItems (.ref s1.heap.objs.size) 2 none;assignInOrder [fun v=>bindName X.env y v,fun v=>bindName X.env x v] items.reverse;pure Flow.next) _ _ _
 refine wpAny_bind (wpAny_rule (wpAny_bind (unpackItems_tuple (items:=#[u1,u2]) (I.ok.hd hc) (IsTup.new s1.heap _) fun h' hx'=>?_)))
 have I3:=I2.kept (h':=h') (t':=s1.toks) fun b o e=>hx' b o (Nat.ne_of_lt (Heap.lt_size e)) e
 show wpAny _ _ (assignInOrder [fun v=>bindName X.env y v,fun v=>bindName X.env x v] [u2,u1] >>= fun _=>pure Flow.next) _ _ _
 refine wpAny_bind (assignInOrder_cons (wpAny_bindName (kL I3 hN hj (.inl hy) rw' (fun s2 I4=>?_) (.inr hy))))
 refine assignInOrder_cons (wpAny_bindName (kL I4 hN hi (.inl hx) rv (fun s3 I5=>assignInOrder_nil (wpAny_pure ?_)) (.inr hx)))
 rw[List.set_comm _ _ (Ne.symm hij)] at I5
 exact⟨_,H1,I5,q1⟩
end
section
variable {X:Cx}{pos:Pos}
def CT (c:TT)(tb:TS):TS:=fun D σ H=>∃W:Nat->St->Hp->Prop,(∃m,W m σ H)/\∀m σ H,W m σ H->
 c σ H fun b H1=>if b=true then ∃N:St->Hp->Prop,(∀σ' H',N σ' H'->∃m',m' < m/\W m' σ' H')/\tb {D with nx:=N,ct:=N,bk:=D.nx} σ H1 else D.nx σ H1
theorem xW {c:Expr}{body:List Stmt}{tc:TT}{tb:TS}(hp:PassesOwn (model X.prog X.w) X.A X.env X.xe)(hc:PT X c tc)(hb:o4 X body tb):PS X (.While c body [] pos) (CT tc tb):=by
 intro pins s σ H D I h
 obtain⟨W,⟨m0,w0⟩,turn⟩:=h
 refine wpAny_While (codeAny_whileLoop (fun n s'=>∃σ' H',Inv X pins σ' H' s'/\W n σ' H') ?_ m0 ⟨σ,H,I,w0⟩)
 rintro n s1 ⟨σ1,H1,I1,w1⟩
 refine wpAny_passesOwn hp (b7 (hc pins s1 σ1 H1 _ I1 (turn n σ1 H1 w1)) fun b s2 ⟨H2,I2,q2⟩=>?_)
 cases b with
 |true=>
  obtain⟨N,hN,q2⟩:=q2
  rw[if_pos rfl]
  refine wpAny_passesOwn hp (b7 (hb pins s2 σ1 H2 _ I2 q2) fun f s3 q3=>?_)
  cases f with
  |next=>
   obtain⟨σ3,H3,I3,n3⟩:=q3
   obtain⟨m',hm,w3⟩:=hN σ3 H3 n3
   exact⟨m',hm,σ3,H3,I3,w3⟩
  |cont=>
   obtain⟨σ3,H3,I3,n3⟩:=q3
   obtain⟨m',hm,w3⟩:=hN σ3 H3 n3
   exact⟨m',hm,σ3,H3,I3,w3⟩
  |brk=>exact q3
  |ret v=>exact q3
 |false=>
  rw[if_neg Bool.false_ne_true]
  exact wpAny_execs_nil ⟨σ1,H2,I2,q2⟩
end
structure It where
 go:Nat->Hp->Prop
 yld:Nat->Hp->V->Hp->Prop
 stop:Nat->Hp->Prop
def oy (X:Cx)(pins:List (Addr×Obj))(H:Hp)(b:Addr):Prop:=
 H b=none/\b≠X.env.locals/\b∉X.fs/\(b∈X.ex\/X.s₀.heap.objs.size<=b)/\(∀x c,X.env.cells.lookup x=some c->c≠b)/\∀p∈X.pn ++ pins,p.1≠b
theorem Inv.fpOk {X:Cx}{pins:List (Addr×Obj)}{σ:St}{H H':Hp}{s:Shared}{b:Addr}(I:Inv X pins σ H s)(hb:s.heap.objs.size<=b)(hn:H' b=none):oy X pins H' b:=by
 refine⟨hn,Nat.ne_of_gt (Nat.lt_of_lt_of_le I.lt hb),I.nofs hb,.inr (Nat.le_trans I.sz hb),fun x c e z=>?_,fun p hp z=>?_⟩
 ·obtain⟨v,q⟩:=I.cell x c e
  exact absurd (Nat.lt_of_lt_of_le q.lt (by rw[z];exact hb)) (Nat.lt_irrefl _)
 ·exact absurd (Nat.lt_of_lt_of_le (Heap.lt_size (I.pin p hp).1) (by rw[z];exact hb)) (Nat.lt_irrefl _)
structure Turn (P:Program)(w:World)(K:PySem.W.Frag)(tg:Expr)(J:It)(fp:List Addr)(it:Addr)(tn:Nat->Heap->Prop):Prop where
 mem:it∈fp
 obj:∀i h,tn i h->∀b∈fp,∃o,h.get? b=some o/\∀v,o.data≠.cell v
 keep:∀i h h',tn i h->(∀b∈fp,∀o,h.get? b=some o->h'.get? b=some o)->tn i h'
 item:∀(X:Cx),X.prog=P->X.w=w->X.K=K->X.calm=true->∀(i:Nat) (pins:List (Addr×Obj)) (s:Shared) (σ:St) (H:Hp) (E:Value->Shared->Prop),Inv X pins σ H s->(∀b∈fp,oy X pins H b)->tn i s.heap->J.go i H->
  wpAny (model P w) X.A (pyNext (.ref it)) (fun r s1=>∃u,r=some u/\
   wpAny (model P w) X.A (letOwnedTupleGo tg (.ref it) u) (fun _ s2=>∃x H',Inv X pins σ H' s2/\RelV x u/\J.yld i H x H'/\tn (i + 1) s2.heap/\∀b∈fp,H' b=none) E s1) E s
 done:∀(X:Cx),X.prog=P->X.w=w->X.K=K->X.calm=true->∀(i:Nat) (pins:List (Addr×Obj)) (s:Shared) (σ:St) (H:Hp) (E:Value->Shared->Prop),Inv X pins σ H s->(∀b∈fp,oy X pins H b)->tn i s.heap->J.stop i H->
  wpAny (model P w) X.A (pyNext (.ref it)) (fun r s1=>r=none/\Inv X pins σ H s1) E s
 self:∀(A:Around) (i:Nat) (s:Shared) (Q:Value->Shared->Prop) (E:Value->Shared->Prop),tn i s.heap->Q (.ref it) s->wpAny (model P w) A (pyIter (.ref it)) Q E s
abbrev TI:=St->Hp->(It->Hp->Prop)->Prop
def Ht (X:Cx)(pins:List (Addr×Obj))(σ:St)(tg:Expr)(R:It->Hp->Prop)(itv:Value)(s2:Shared):Prop:=
 ∃(it:Addr) (fp:List Addr) (tn:Nat->Heap->Prop) (J:It) (H':Hp),itv=.ref it/\Inv X pins σ H' s2/\Turn X.prog X.w X.K tg J fp it tn/\tn 0 s2.heap/\(∀b∈fp,oy X pins H' b)/\R J H'
def PI (X:Cx)(tg iter:Expr)(wi:TI):Prop:=
 ∀(pins:List (Addr×Obj)) (s:Shared) (σ:St) (H:Hp) (R:It->Hp->Prop),Inv X pins σ H s->wi σ H R->
  wpAny (model X.prog X.w) X.A (eval iter X.env) (fun v s1=>wpAny (model X.prog X.w) X.A (pyIter v) (Ht X pins σ tg R) X.xe s1) X.xe s
theorem zx {M:Model}{A:Around}{E:Value->Shared->Prop}{s:Shared}{tg:Expr}{it:Addr}{u:Value}{o:Obj}{n:String}{vs:Array Value}{Q:Unit->Shared->Prop}(ho:s.heap.get? it=some o)(hc:o.cls=.type n)(hd:o.data=.fields vs)
  (hn: ["enumerate","zip","dict_itemiterator","dict_reverseitemiterator","odict_iterator","itertools.zip_longest","itertools.pairwise"].contains n=false) (hQ:Q () s):wpAny M A (letOwnedTupleGo tg (.ref it) u) Q E s:=by
 unfold letOwnedTupleGo
 cases tg <;> first
  |exact wpAny_pure hQ
  | (cases u <;> first
    |exact wpAny_pure hQ
    | (refine wpAny_bind (wpAny_load ho ?_)
       rw[hc,hd]
       show wpAny M A (if (["enumerate","zip","dict_itemiterator","dict_reverseitemiterator","odict_iterator","itertools.zip_longest","itertools.pairwise"].contains n && vs[0]? == some (rawInt _))=true then _ else _) Q E s
       rw[if_neg (by intro h;rw[hn,Bool.false_and] at h;cases h)]
       exact wpAny_pure hQ))
def v8 (K:PySem.W.Frag)(a:Addr):It:=
 ⟨fun i H=>∃xs x,gu K H a xs/\xs[i]? =some x,fun i H x H'=>H'=H/\∀xs,gu K H a xs->xs[i]? =some x,fun i H=>∃xs,gu K H a xs/\xs.length<=i⟩
def CD (K:PySem.W.Frag)(a:Addr):It:=
 ⟨fun i H=>∃xs x,fG K H a xs/\xs[i]? =some x,fun i H x H'=>H'=H/\∀xs,fG K H a xs->xs[i]? =some x,fun i H=>∃xs,fG K H a xs/\xs.length<=i⟩
def xE (lo:Int)(n:Nat):It:=⟨fun i _=>i < n,fun i H x H'=>H'=H/\x=.int (lo + i),fun i _=>n<=i⟩
theorem lE {P:Program}{w:World}{K:PySem.W.Frag}{tg:Expr}(a it:Addr):Turn P w K tg (v8 K a) [it] it (fun i h=>h.IsListIter it a i) where
 mem:=by simp
 obj:=fun i h st b hb=>by
  have e:b=it:=by simpa using hb
  subst e
  obtain⟨o,e,c,d⟩:=st
  exact⟨o,e,fun v z=>by rw[d] at z;cases z⟩
 keep:=fun i h h' st k=>st.at fun o e=>k it (by simp) o e
 item:=by
  intro X hP hw hK hc i pins s σ H E I hf st hg
  subst hP hw hK
  obtain⟨xs,x,hq,hx⟩:=hg
  obtain⟨its,rv,p,hz⟩:=I.list hq
  obtain⟨u,hu,ru⟩:=rv.get hx
  obtain⟨f0,f1,f2,f3,f4,f5⟩:=hf it (by simp)
  refine wpAny_pyNext_list_item st p.isList (x:=u) (by simpa using hu) fun h' st' sb=>?_
  have I1:Inv X pins σ H {s with heap:=h'}:=I.turned (t':=s.toks) (fun b o hb e=>(sb.2 b hb).trans e) f0 f1 f3 f4 f5
  obtain⟨o,e,c,d⟩:=id st'
  exact⟨u,rfl,zx (s:={s with heap:=h'}) e c d (by decide) ⟨x,H,I1,ru,⟨rfl,fun ys hy=>by rw[I.list_inj hy hq];exact hx⟩,st',fun b hb=>(hf b hb).1⟩⟩
 done:=by
  intro X hP hw hK hc i pins s σ H E I hf st hg
  subst hP hw hK
  obtain⟨xs,hq,hx⟩:=hg
  obtain⟨its,rv,p,hz⟩:=I.list hq
  obtain⟨f0,f1,f2,f3,f4,f5⟩:=hf it (by simp)
  have hl:=rv.length
  exact wpAny_pyNext_list_end (I.ok.hd hc) st p.isList (by simp;omega) fun h' eb=>⟨rfl,I.turned (t':=s.toks) (fun b o hb e=>eb b o hb e) f0 f1 f3 f4 f5⟩
 self:=fun _ _ _ _ _ st h=>wpAny_pyIter_listiter st h
theorem nj {P:Program}{w:World}{K:PySem.W.Frag}{tg:Expr}(a it:Addr):Turn P w K tg (CD K a) [it] it (fun i h=>h.IsTupleIter it a i) where
 mem:=by simp
 obj:=fun i h st b hb=>by
  have e:b=it:=by simpa using hb
  subst e
  obtain⟨o,e,c,d⟩:=st
  exact⟨o,e,fun v z=>by rw[d] at z;cases z⟩
 keep:=fun i h h' st k=>st.at fun o e=>k it (by simp) o e
 item:=by
  intro X hP hw hK hc i pins s σ H E I hf st hg
  subst hP hw hK
  obtain⟨xs,x,hq,hx⟩:=hg
  obtain⟨its,rv,p,hz⟩:=I.tuple hq
  obtain⟨u,hu,ru⟩:=rv.get hx
  obtain⟨f0,f1,f2,f3,f4,f5⟩:=hf it (by simp)
  refine wpAny_pyNext_tuple_item st (show s.heap.IsTuple a its.toArray from p) (x:=u) (by simpa using hu) fun h' st' sb=>?_
  have I1:Inv X pins σ H {s with heap:=h'}:=I.turned (t':=s.toks) (fun b o hb e=>(sb.2 b hb).trans e) f0 f1 f3 f4 f5
  obtain⟨o,e,c,d⟩:=id st'
  exact⟨u,rfl,zx (s:={s with heap:=h'}) e c d (by decide) ⟨x,H,I1,ru,⟨rfl,fun ys hy=>by rw[I.tuple_inj hy hq];exact hx⟩,st',fun b hb=>(hf b hb).1⟩⟩
 done:=by
  intro X hP hw hK hc i pins s σ H E I hf st hg
  subst hP hw hK
  obtain⟨xs,hq,hx⟩:=hg
  obtain⟨its,rv,p,hz⟩:=I.tuple hq
  obtain⟨f0,f1,f2,f3,f4,f5⟩:=hf it (by simp)
  have hl:=rv.length
  exact wpAny_pyNext_tuple_end (I.ok.hd hc) st (show s.heap.IsTuple a its.toArray from p) (by simp;omega) fun h' eb=>⟨rfl,I.turned (t':=s.toks) (fun b o hb e=>eb b o hb e) f0 f1 f3 f4 f5⟩
 self:=fun _ _ _ _ _ st h=>wpAny_pyIter_tupleiter st h
theorem uo {P:Program}{w:World}{K:PySem.W.Frag}{tg:Expr}(it:Addr)(lo:Int)(n:Nat):Turn P w K tg (xE lo n) [it] it (fun i h=>IsRangeIter h it (lo + (i:Nat) * 1) ((n:Int) - (i:Nat)) 1) where
 mem:=by simp
 obj:=fun i h st b hb=>by
  have e:b=it:=by simpa using hb
  subst e
  exact⟨_,st,fun v z=>by
   have z':Data.fields _=Data.cell v:=z
   cases z'⟩
 keep:=fun i h h' st k=>k it (by simp) _ st
 item:=by
  intro X hP hw hK hc i pins s σ H E I hf st hg
  subst hP hw hK
  obtain⟨f0,f1,f2,f3,f4,f5⟩:=hf it (by simp)
  have W:=Walks.range (prog:=X.prog) (w:=X.w) (I.ok.hd hc) it lo 1 n
  refine W.item i s _ _ hg st fun v h' tk hv st' kk=>?_
  obtain⟨t,rfl⟩:=hv
  have I1:Inv X pins σ H {s with heap:=h',toks:=tk}:=I.turned (fun b o hb e=>kk b o (by simpa using hb) e) f0 f1 f3 f4 f5
  refine⟨_,rfl,zx (s:={s with heap:=h',toks:=tk}) (n:="range_iterator") st' rfl rfl (by decide) ⟨.int (lo + i),H,I1,⟨t,?_⟩,⟨rfl,rfl⟩,st',fun b hb=>(hf b hb).1⟩⟩
  rw[Int.mul_one]
 done:=by
  intro X hP hw hK hc i pins s σ H E I hf st hg
  subst hP hw hK
  obtain⟨f0,f1,f2,f3,f4,f5⟩:=hf it (by simp)
  exact wpAny_pyNext_range_end (I.ok.hd hc) st (by have:n<=i:=hg;omega) fun h' eb=>⟨rfl,I.turned (t':=s.toks) (fun b o hb e=>eb b o hb e) f0 f1 f3 f4 f5⟩
 self:=fun _ _ _ _ _ st h=>wpAny_pyIter_rangeiter st h
end L2
namespace L2
open PySem PySem.Spec PyProof.Rows
section
variable {X:Cx}{tg:Expr}
def Et (K:PySem.W.Frag)(tl:TE):TI:=fun σ H R=>tl σ H fun x H1=>∃a,x=.ref a/\(∃xs,gu K H1 a xs)/\R (v8 K a) H1
theorem vP {l:Expr}{tl:TE}(hl:PE X l tl):PI X tg l (Et X.K tl):=by
 intro pins s σ H R I h
 refine b7 (hl pins s σ H _ I h) fun v s1 ⟨x,H1,I1,r1,q1⟩=>?_
 obtain⟨a,e,⟨xs,hq⟩,q⟩:=q1
 subst e
 cases r1
 obtain⟨its,rv,p,hz⟩:=I1.list hq
 refine wpAny_pyIter_list p.isList ?_
 refine⟨s1.heap.objs.size,[s1.heap.objs.size],_,_,H1,rfl,I1.kept (t':=s1.toks) fun b o e=>Heap.get?_push_of_some _ e,lE a _,⟨_,Heap.get?_push_size _ rfl,rfl,rfl⟩,fun b hb=>?_,q⟩
 have e:b=s1.heap.objs.size:=by simpa using hb
 subst e
 exact I1.fpOk (Nat.le_refl _) (I1.hok.fresh (Nat.le_refl _))
theorem rS {pins:List (Addr×Obj)}{σ:St}{H:Hp}{s:Shared}{R:It->Hp->Prop}{E:Value->Shared->Prop}{lo hi:Int}{t u v:Tok}{tk:Nat}(I:Inv X pins σ H s)(h1: -(2 ^ 62)<=lo)(h2:lo < 2 ^ 62)(h3: -(2 ^ 62)<=hi)(h4:hi < 2 ^ 62)
  (q:R (xE lo (hi - lo).toNat) H):wpAny (model X.prog X.w) X.A (pyIter (.ref s.heap.objs.size)) (Ht X pins σ tg R) E {s with heap:=s.heap.push {cls:=.type "range",data:=.fields #[.int lo t,.int hi u,.int 1 v]},toks:=tk}:=by
 refine wpAny_pyIter_range (IsRange.new ..) (small_one h1 h2 h3 h4) ?_
 have I1:Inv X pins σ H {s with heap:=s.heap.push {cls:=.type "range",data:=.fields #[.int lo t,.int hi u,.int 1 v]},toks:=tk}:=I.kept fun b o e=>Heap.get?_push_of_some _ e
 refine⟨(s.heap.push {cls:=.type "range",data:=.fields #[.int lo t,.int hi u,.int 1 v]}).objs.size,[(s.heap.push {cls:=.type "range",data:=.fields #[.int lo t,.int hi u,.int 1 v]}).objs.size],_,_,H,rfl,
  I1.kept (t':=tk) fun b o e=>Heap.get?_push_of_some _ e,uo _ lo (hi - lo).toNat,?_,fun b hb=>?_,q⟩
 ·have e1:lo + ((0:Nat):Int) * 1=lo:=by simp
  have e2:(((hi - lo).toNat:Nat):Int) - ((0:Nat):Int)=Builtin.Range.rangeSize lo hi 1:=by rw[rangeSize_one];split <;> omega
  show IsRangeIter _ _ (lo + ((0:Nat):Int) * 1) ((((hi - lo).toNat:Nat):Int) - ((0:Nat):Int)) 1
  rw[e1,e2]
  exact Heap.get?_push_size _ rfl
 ·have e:b=(s.heap.push {cls:=.type "range",data:=.fields #[.int lo t,.int hi u,.int 1 v]}).objs.size:=by simpa using hb
  subst e
  exact I1.fpOk (Nat.le_refl _) (I1.hok.fresh (Nat.le_refl _))
def FF (ta:TA):TI:=fun σ H R=>ta σ H fun vs H1=>∃j:Int,vs= [.int j]/\ -(2 ^ 62)<=j/\j < 2 ^ 62/\R (xE 0 j.toNat) H1
def EY (ta:TA):TI:=fun σ H R=>ta σ H fun vs H1=>∃i j:Int,vs= [.int i,.int j]/\(-(2 ^ 62)<=i/\i < 2 ^ 62/\ -(2 ^ 62)<=j/\j < 2 ^ 62)/\R (xE i (j - i).toNat) H1
theorem jH {a:Expr}{ta:TA}{p pos:Pos}(hg:Gl X "range")(hm:X.mg "range"=none)(ha:PA X [a] ta)(hs:starEach [a] X.env= [(false,eval a X.env)]:=by rfl):PI X tg (.Call (.Name "range" p) [a] [] pos) (FF ta):=by
 intro pins s σ H R I h
 refine Call_ (mM I hg hm boot_range (PyProof.Rows.callWith_type1 (b7 (ha pos pins s σ H _ I h) fun us s1 ⟨vs,H1,I1,r1,q1⟩=>?_) hs rfl))
 obtain⟨j,e,q1,q2,q⟩:=q1
 subst e
 cases r1 with
 |cons r rr=>
  cases rr
  obtain⟨t,rfl⟩:=r
  exact call_range_1 (rS I1 (by omega) (by omega) q1 q2 (by simpa using q))
theorem wy {a b:Expr}{ta:TA}{p pos:Pos}(hg:Gl X "range")(hm:X.mg "range"=none)(ha:PA X [a,b] ta)(hs:starEach [a,b] X.env= [(false,eval a X.env),(false,eval b X.env)]:=by rfl)(hs2:starEach [b] X.env= [(false,eval b X.env)]:=by rfl) :
  PI X tg (.Call (.Name "range" p) [a,b] [] pos) (EY ta):=by
 intro pins s σ H R I h
 refine Call_ (mM I hg hm boot_range (PyProof.Rows.callWith_type1 (b7 (ha pos pins s σ H _ I h) fun us s1 ⟨vs,H1,I1,r1,q1⟩=>?_) (by rw[hs,hs2]) (by rw[hs2];rfl)))
 obtain⟨i,j,e,⟨q1,q2,q3,q4⟩,q⟩:=q1
 subst e
 cases r1 with
 |cons r rr=>
  cases rr with
  |cons r' rr=>
   cases rr
   obtain⟨t,rfl⟩:=r
   obtain⟨t',rfl⟩:=r'
   exact call_range_2 (rS I1 q1 q2 q3 q4 q)
def Gw (wi:TI)(g:TG)(tb:TS):TS:=fun D σ H=>wi σ H fun J H1=>∃W:Nat->Nat->St->Hp->Prop,(∃m,W 0 m σ H1)/\∀i m σ H,W i m σ H->
 (J.stop i H/\D.nx σ H)\/(J.go i H/\∃N:St->Hp->Prop,(∀σ' H',N σ' H'->∃m',m' < m/\W (i + 1) m' σ' H')/\∀x H',J.yld i H x H'->g x σ H' fun σ2 H2=>tb {D with nx:=N,ct:=N,bk:=D.nx} σ2 H2)
def nJ (fp:List Addr)(h:Heap):List (Addr×Obj):=fp.filterMap fun b=>(h.get? b).map fun o=>(b,o)
theorem iJ {fp:List Addr}{h:Heap}{b:Addr}{o:Obj}(hb:b∈fp)(e:h.get? b=some o):(b,o)∈nJ fp h:=List.mem_filterMap.mpr ⟨b,hb,by rw[e];rfl⟩
theorem xG {fp:List Addr}{h:Heap}{p:Addr×Obj}(hp:p∈nJ fp h):p.1∈fp/\h.get? p.1=some p.2:=by
 obtain⟨b,hb,e⟩:=List.mem_filterMap.mp hp
 cases q:h.get? b with
 |none=>rw[q] at e;cases e
 |some o=>
  rw[q] at e
  have e':(b,o)=p:=Option.some.inj e
  subst e'
  exact⟨hb,q⟩
theorem Inv.pinned {pins:List (Addr×Obj)}{σ:St}{H:Hp}{s:Shared}{fp:List Addr}(I:Inv X pins σ H s)(hf:∀b∈fp,oy X pins H b)(ho:∀b∈fp,∃o,s.heap.get? b=some o/\∀v,o.data≠.cell v):Inv X (pins ++ nJ fp s.heap) σ H s:=
 I.pins_of fun p hp=>(List.mem_append.mp hp).elim (fun z=>I.pin p (List.mem_append_right _ z)) fun z=>by
  obtain⟨hb,e⟩:=xG z
  obtain⟨f0,f1,f2,_⟩:=hf p.1 hb
  obtain⟨o,e',d⟩:=ho p.1 hb
  rw[e] at e';cases e'
  exact⟨e,f0,f1,f2,d⟩
theorem Inv.unpinned {pins pl:List (Addr×Obj)}{σ:St}{H:Hp}{s:Shared}(I:Inv X (pins ++ pl) σ H s):Inv X pins σ H s:=I.pins_of fun p hp=>I.pin p (List.mem_append_right _ (List.mem_append_left _ hp))
theorem qk {iter:Expr}{body:List Stmt}{wi:TI}{g:TG}{tb:TS}{pos:Pos}(hp:PassesOwn (model X.prog X.w) X.A X.env X.xe)(hc:X.calm=true)(hi:PI X tg iter wi)(hg:PG X tg g)(hb:o4 X body tb)
  (hs:∀x,foldedSetIterable iter X.env x=pure x:=by intro _;rfl):PS X (.For tg iter body [] pos) (Gw wi g tb):=by
 intro pins s σ H D I h
 refine wpAny_For (b7 (hi pins s σ H _ I h) fun v s1 h1=>b7 h1 fun itv s2 h2=>?_) hs
 obtain⟨it,fp,tn,J,H2,e,I2,T,st2,f2,W,⟨m0,w0⟩,turn⟩:=h2
 subst e
 have stat:∀{H':Hp},(∀b∈fp,H' b=none)->∀b∈fp,oy X pins H' b:=fun hn b hb=>⟨hn b hb,(f2 b hb).2⟩
 refine codeAny_forLoop_any (fun n s'=>∃i σ' H',Inv X pins σ' H' s'/\tn i s'.heap/\(∀b∈fp,H' b=none)/\W i n σ' H') ?_ m0 ⟨0,σ,H2,I2,st2,fun b hb=>(f2 b hb).1,w0⟩
 rintro n s3 ⟨i,σ3,H3,I3,st3,fr3,w3⟩
 rcases turn i n σ3 H3 w3 with⟨stop,qn⟩ | ⟨go,N,hN,step⟩
 ·refine wpAny_passesOwn hp (b7 (T.done X rfl rfl rfl hc i pins s3 σ3 H3 X.xe I3 (stat fr3) st3 stop) fun r s4 ⟨hr,I4⟩=>?_)
  subst hr
  exact wpAny_execs_nil ⟨σ3,H3,I4,qn⟩
 ·refine wpAny_passesOwn hp (b7 (T.item X rfl rfl rfl hc i pins s3 σ3 H3 X.xe I3 (stat fr3) st3 go) fun r s4 ⟨u,hr,h4⟩=>?_)
  subst hr
  refine wpAny_passesOwn hp (b7 h4 fun _ s5 ⟨x,H5,I5,r5,y5,st5,fr5⟩=>?_)
  have I5':=I5.pinned (stat fr5) (T.obj _ _ st5)
  refine wpAny_passesOwn hp (b7 (hg _ s5 σ3 H5 x u _ I5' r5 (step x H5 y5)) fun _ s6 ⟨σ6,H6,I6,q6⟩=>?_)
  refine wpAny_passesOwn hp (b7 (hb _ s6 σ6 H6 _ I6 q6) fun f s7 q7=>?_)
  have again:∀{σ7:St} {H7:Hp},Inv X (pins ++ nJ fp s5.heap) σ7 H7 s7->N σ7 H7->∃m,m < n/\∃i σ' H',Inv X pins σ' H' s7/\tn i s7.heap/\(∀b∈fp,H' b=none)/\W i m σ' H':=fun {σ7 H7} I7 n7=>by
   obtain⟨m',hm,w7⟩:=hN σ7 H7 n7
   refine⟨m',hm,i + 1,σ7,H7,I7.unpinned,T.keep _ _ _ st5 fun b hb o e=>(I7.pin (b,o) (List.mem_append_right _ (List.mem_append_right _ (iJ hb e)))).1,fun b hb=>?_,w7⟩
   obtain⟨o,e,d⟩:=T.obj _ _ st5 b hb
   exact (I7.pin (b,o) (List.mem_append_right _ (List.mem_append_right _ (iJ hb e)))).2.1
  cases f with
  |next=>obtain⟨σ7,H7,I7,n7⟩:=q7;exact again I7 n7
  |cont=>obtain⟨σ7,H7,I7,n7⟩:=q7;exact again I7 n7
  |brk=>obtain⟨σ7,H7,I7,q7⟩:=q7;exact⟨σ7,H7,I7.unpinned,q7⟩
  |ret v=>obtain⟨x7,σ7,H7,I7,r7,q7⟩:=q7;exact⟨x7,σ7,H7,I7.unpinned,r7,q7⟩
end
theorem rO {K:PySem.W.Frag}{a:Addr}{xs:List V}{g:TG}{tb:TS}{D:Ends}{σ:St}{H:Hp}(Pv:Nat->St->Hp->Prop)(h0:Pv 0 σ H)(hl:∀i σ H,i<=xs.length->Pv i σ H->gu K H a xs)
  (hs:∀i x σ H,xs[i]? =some x->Pv i σ H->g x σ H fun σ2 H2=>tb {D with nx:=Pv (i + 1),ct:=Pv (i + 1),bk:=D.nx} σ2 H2) (hd:∀σ H,Pv xs.length σ H->D.nx σ H) :
  ∃W:Nat->Nat->St->Hp->Prop,(∃m,W 0 m σ H)/\∀i m σ H,W i m σ H->
   ((v8 K a).stop i H/\D.nx σ H)\/((v8 K a).go i H/\∃N:St->Hp->Prop,(∀σ' H',N σ' H'->∃m',m' < m/\W (i + 1) m' σ' H')/\∀x H',(v8 K a).yld i H x H'->g x σ H' fun σ2 H2=>tb {D with nx:=N,ct:=N,bk:=D.nx} σ2 H2):=by
 refine⟨fun i m σ H=>m=xs.length - i/\i<=xs.length/\Pv i σ H,⟨xs.length,by simp,Nat.zero_le _,h0⟩,?_⟩
 rintro i m σ H ⟨rfl,hi,p⟩
 have q:=hl i σ H hi p
 by_cases hlt:i < xs.length
 ·refine .inr ⟨⟨xs,xs[i],q,by simp[hlt]⟩,Pv (i + 1),fun σ' H' p'=>⟨xs.length - (i + 1),by omega,rfl,hlt,p'⟩,fun x H' y=>?_⟩
  obtain⟨e,y⟩:=y
  subst e
  exact hs i x σ _ (y xs q) p
 ·have e:i=xs.length:=by omega
  subst e
  exact .inl ⟨⟨xs,q,Nat.le_refl _⟩,hd σ H p⟩
theorem AJ {K:PySem.W.Frag}{a:Addr}{xs:List V}{g:TG}{tb:TS}{D:Ends}{σ:St}{H:Hp}(Pv:Nat->St->Hp->Prop)(h0:Pv 0 σ H)(hl:∀i σ H,i<=xs.length->Pv i σ H->fG K H a xs)
  (hs:∀i x σ H,xs[i]? =some x->Pv i σ H->g x σ H fun σ2 H2=>tb {D with nx:=Pv (i + 1),ct:=Pv (i + 1),bk:=D.nx} σ2 H2) (hd:∀σ H,Pv xs.length σ H->D.nx σ H) :
  ∃W:Nat->Nat->St->Hp->Prop,(∃m,W 0 m σ H)/\∀i m σ H,W i m σ H->
   ((CD K a).stop i H/\D.nx σ H)\/((CD K a).go i H/\∃N:St->Hp->Prop,(∀σ' H',N σ' H'->∃m',m' < m/\W (i + 1) m' σ' H')/\∀x H',(CD K a).yld i H x H'->g x σ H' fun σ2 H2=>tb {D with nx:=N,ct:=N,bk:=D.nx} σ2 H2):=by
 refine⟨fun i m σ H=>m=xs.length - i/\i<=xs.length/\Pv i σ H,⟨xs.length,by simp,Nat.zero_le _,h0⟩,?_⟩
 rintro i m σ H ⟨rfl,hi,p⟩
 have q:=hl i σ H hi p
 by_cases hlt:i < xs.length
 ·refine .inr ⟨⟨xs,xs[i],q,by simp[hlt]⟩,Pv (i + 1),fun σ' H' p'=>⟨xs.length - (i + 1),by omega,rfl,hlt,p'⟩,fun x H' y=>?_⟩
  obtain⟨e,y⟩:=y
  subst e
  exact hs i x σ _ (y xs q) p
 ·have e:i=xs.length:=by omega
  subst e
  exact .inl ⟨⟨xs,q,Nat.le_refl _⟩,hd σ H p⟩
theorem wb {lo:Int}{n:Nat}{g:TG}{tb:TS}{D:Ends}{σ:St}{H:Hp}(Pv:Nat->St->Hp->Prop)(h0:Pv 0 σ H)
  (hs:∀i σ H,i < n->Pv i σ H->g (.int (lo + i)) σ H fun σ2 H2=>tb {D with nx:=Pv (i + 1),ct:=Pv (i + 1),bk:=D.nx} σ2 H2) (hd:∀σ H,Pv n σ H->D.nx σ H) :
  ∃W:Nat->Nat->St->Hp->Prop,(∃m,W 0 m σ H)/\∀i m σ H,W i m σ H->
   ((xE lo n).stop i H/\D.nx σ H)\/((xE lo n).go i H/\∃N:St->Hp->Prop,(∀σ' H',N σ' H'->∃m',m' < m/\W (i + 1) m' σ' H')/\∀x H',(xE lo n).yld i H x H'->g x σ H' fun σ2 H2=>tb {D with nx:=N,ct:=N,bk:=D.nx} σ2 H2):=by
 refine⟨fun i m σ H=>m=n - i/\i<=n/\Pv i σ H,⟨n,by simp,Nat.zero_le _,h0⟩,?_⟩
 rintro i m σ H ⟨rfl,hi,p⟩
 by_cases hlt:i < n
 ·refine .inr ⟨hlt,Pv (i + 1),fun σ' H' p'=>⟨n - (i + 1),by omega,rfl,hlt,p'⟩,fun x H' y=>?_⟩
  obtain⟨e,y⟩:=y
  subst e y
  exact hs i σ _ hlt p
 ·have e:i=n:=by omega
  subst e
  exact .inl ⟨Nat.le_refl _,hd σ H p⟩
end L2
namespace L2
open PySem PySem.Spec PyProof.Rows
abbrev R2:=V->V->Hp->VK->Prop
def lF (X:Cx)(f:Value->Value->Sem Value)(r:R2):Prop:=
 ∀(pins:List (Addr×Obj)) (s:Shared) (σ:St) (H:Hp) (x y:V) (v u:Value) (Q:VK),Inv X pins σ H s->RelV x v->RelV y u->r x y H Q->
  wpAny (model X.prog X.w) X.A (f v u) (EP X pins σ Q) X.xe s
def FQ (X:Cx)(f:Value->Sem Value)(r:V->Hp->VK->Prop):Prop:=
 ∀(pins:List (Addr×Obj)) (s:Shared) (σ:St) (H:Hp) (x:V) (v:Value) (Q:VK),Inv X pins σ H s->RelV x v->r x H Q->
  wpAny (model X.prog X.w) X.A (f v) (EP X pins σ Q) X.xe s
def cJ (X:Cx)(f:Value)(r:List V->Hp->VK->Prop):Prop:=
 ∀(pins:List (Addr×Obj)) (s:Shared) (σ:St) (H:Hp) (xs:List V) (us:List Value) (Q:VK),Inv X pins σ H s->Vals xs us->r xs H Q->
  wpAny (model X.prog X.w) X.A (call f us) (EP X pins σ Q) X.xe s
def GS (X:Cx)(r:V->Hp->(Bool->Hp->Prop)->Prop):Prop:=
 ∀(pins:List (Addr×Obj)) (s:Shared) (σ:St) (H:Hp) (x:V) (v:Value) (Q:Bool->Hp->Prop),Inv X pins σ H s->RelV x v->r x H Q->
  wpAny (model X.prog X.w) X.A (truthy v) (TP X pins σ Q) X.xe s
def FL (r:R2)(ta tb:TE):TE:=fun σ H Q=>ta σ H fun x H1=>tb σ H1 fun y H2=>r x y H2 Q
def HG (r:V->Hp->VK->Prop)(ta:TE):TE:=fun σ H Q=>ta σ H fun x H1=>r x H1 Q
def rI (C:Int->Int->Prop)(g:Int->Int->V):R2:=fun x y H Q=>∃i j,x=.int i/\y=.int j/\C i j/\Q (g i j) H
def w8 (g:Int->Int->V):R2:=fun x y H Q=>∃i j,x=.int i/\y=.int j/\Q (g i j) H
def rU (g:Int->V):V->Hp->VK->Prop:=fun x H Q=>∃i,x=.int i/\Q (g i) H
section
variable {X:Cx}{a b c:Expr}{ta tb tc:TE}{pos:Pos}
theorem DG (ha:PE X a ta)(hb:PE X b tb){pins:List (Addr×Obj)}{s:Shared}{σ:St}{H:Hp}{R:V->V->Hp->Prop}(I:Inv X pins σ H s)
  (h:ta σ H fun x H1=>tb σ H1 fun y H2=>R x y H2) {Q:Value->Shared->Prop} {f:Value->Value->Sem Value}
  (hf:∀v u s2 x y H2,Inv X pins σ H2 s2->RelV x v->RelV y u->R x y H2->wpAny (model X.prog X.w) X.A (f v u) Q X.xe s2) :
  wpAny (model X.prog X.w) X.A (eval a X.env) (fun v s₁=>wpAny (model X.prog X.w) X.A (eval b X.env) (fun u s₂=>wpAny (model X.prog X.w) X.A (f v u) Q X.xe s₂) X.xe s₁) X.xe s:=by
 refine b7 (ha pins s σ H _ I h) fun v s1 ⟨x,H1,I1,r1,q1⟩=>?_
 refine b7 (hb pins s1 σ H1 _ I1 q1) fun u s2 ⟨y,H2,I2,r2,q2⟩=>?_
 exact hf v u s2 x y H2 I2 r1 r2 q2
theorem rK {op:Operator}{r:R2}(ho:lF X (binaryOp op) r)(ha:PE X a ta)(hb:PE X b tb):PE X (.BinOp a op b pos) (FL r ta tb):=by
 intro pins s σ H Q I h
 exact wpAny_BinOp (DG ha hb I h fun v u s2 x y H2 I2 rx ry q=>ho pins s2 σ H2 x y v u Q I2 rx ry q)
theorem Cg {op:UnaryOp}{r:V->Hp->VK->Prop}(ho:FQ X (unaryOp op) r)(ha:PE X a ta):PE X (.UnaryOp op a pos) (HG r ta):=by
 intro pins s σ H Q I h
 exact UnaryOp_ (b7 (ha pins s σ H _ I h) fun v s1 ⟨x,H1,I1,r1,q1⟩=>ho pins s1 σ H1 x v Q I1 r1 q1)
theorem FT {f:Value->Value->Sem Value}{C:Int->Int->Prop}{g:Int->Int->Int}
  (rule:∀(i j:Int) (t u:Tok) (s:Shared) (Q:Value->Shared->Prop) (E:Value->Shared->Prop),C i j->Q (.int (g i j) s.toks) {s with toks:=s.toks + 1}->wpAny (model X.prog X.w) X.A (f (.int i t) (.int j u)) Q E s) :
  lF X f (rI C fun i j=>.int (g i j)):=by
 intro pins s σ H x y v u Q I rx ry h
 obtain⟨i,j,rfl,rfl,hc,q⟩:=h
 obtain⟨t,rfl⟩:=rx
 obtain⟨t',rfl⟩:=ry
 exact rule i j t t' s _ _ hc ⟨.int (g i j),H,I.tok _,⟨_,rfl⟩,q⟩
theorem E8 {f:Value->Value->Sem Value}{g:Int->Int->Int}
  (rule:∀(i j:Int) (t u:Tok) (s:Shared) (Q:Value->Shared->Prop) (E:Value->Shared->Prop),Q (.int (g i j) s.toks) {s with toks:=s.toks + 1}->wpAny (model X.prog X.w) X.A (f (.int i t) (.int j u)) Q E s) :
  lF X f (w8 fun i j=>.int (g i j)):=by
 intro pins s σ H x y v u Q I rx ry h
 obtain⟨i,j,rfl,rfl,q⟩:=h
 obtain⟨t,rfl⟩:=rx
 obtain⟨t',rfl⟩:=ry
 exact rule i j t t' s _ _ ⟨.int (g i j),H,I.tok _,⟨_,rfl⟩,q⟩
theorem Dv {f:Value->Value->Sem Value}{g:Int->Int->Bool}
  (rule:∀(i j:Int) (t u:Tok) (s:Shared) (Q:Value->Shared->Prop) (E:Value->Shared->Prop),Q (.bool (g i j)) s->wpAny (model X.prog X.w) X.A (f (.int i t) (.int j u)) Q E s) :
  lF X f (w8 fun i j=>.bl (g i j)):=by
 intro pins s σ H x y v u Q I rx ry h
 obtain⟨i,j,rfl,rfl,q⟩:=h
 obtain⟨t,rfl⟩:=rx
 obtain⟨t',rfl⟩:=ry
 exact rule i j t t' s _ _ ⟨.bl (g i j),H,I,rfl,q⟩
def Cf (i j:Int):Prop:=0 < j/\j < 1073741824
def C3 (i j:Int):Prop:=0<=j/\j<=1000000/\i.natAbs < 2 ^ 64
def Af (i j:Int):Prop:=(-(2 ^ 64) < i/\i < 2 ^ 64)\/(-(2 ^ 64) < j/\j < 2 ^ 64)
theorem Af.ok {i j:Int}(h:Af i j):IntMulOk i j:=by
 rcases h with⟨h1,h2⟩ | ⟨h1,h2⟩
 ·exact .of_left (intBits_le_64 h1 h2)
 ·exact .of_right (intBits_le_64 h1 h2)
theorem fC:lF X (binaryOp .Add) (w8 fun i j=>.int (i + j)):=E8 fun _ _ _ _ _ _ _ q=>add_int q
theorem Di:lF X (binaryOp .Sub) (w8 fun i j=>.int (i - j)):=E8 fun _ _ _ _ _ _ _ q=>sub_int q
theorem jv:lF X (binaryOp .Mult) (rI Af fun i j=>.int (i * j)):=FT fun _ _ _ _ _ _ _ hc q=>mul_int q hc.ok
theorem kr:lF X (binaryOp .FloorDiv) (rI Cf fun i j=>.int (i / j)):=FT fun i j _ _ _ _ _ hc q=>by
 have h1:(0:Int) < j:=hc.1
 have h2:j < 1073741824:=hc.2
 exact floordiv_int (by omega) (by rw[Int.fdiv_eq_ediv_of_nonneg i (by omega)];exact q) (.inl (PyProof.noPylong_small (by omega)))
theorem kf:lF X (binaryOp .Mod) (rI (fun _ j=>0 < j) fun i j=>.int (i % j)):=FT fun i j _ _ _ _ _ hc q=>by
 have h1:(0:Int) < j:=hc
 exact mod_int' (by omega) (by rw[Int.fmod_eq_emod_of_nonneg i (by omega)];exact q)
theorem D7:lF X (binaryOp .Pow) (rI C3 fun i j=>.int (i ^ j.toNat)):=FT fun _ _ _ _ _ _ _ hc q=>pow_int_small hc.1 hc.2.1 hc.2.2 q
theorem HE {f:Value->Sem Value}{g:Int->Int}
  (rule:∀(i:Int) (t:Tok) (s:Shared) (Q:Value->Shared->Prop) (E:Value->Shared->Prop),Q (.int (g i) s.toks) {s with toks:=s.toks + 1}->wpAny (model X.prog X.w) X.A (f (.int i t)) Q E s) :
  FQ X f (rU fun i=>.int (g i)):=by
 intro pins s σ H x v Q I rx h
 obtain⟨i,rfl,q⟩:=h
 obtain⟨t,rfl⟩:=rx
 exact rule i t s _ _ ⟨.int (g i),H,I.tok _,⟨_,rfl⟩,q⟩
theorem uA:FQ X (unaryOp .USub) (rU fun i=>.int (-i)):=HE fun _ _ _ _ _ q=>neg_int q
end
def GK:V->V->Bool
 | .non,.non=>true | .non,.int _=>true | .int _,.non=>true | .non,.bl _=>true | .bl _,.non=>true | .non,.str _=>true | .str _,.non=>true
 | .int _,.int _=>true | .bl _,.bl _=>true | .str _,.str _=>true | .byt _,.byt _=>true
 | .int _,.str _=>true | .str _,.int _=>true | .bl _,.str _=>true | .str _,.bl _=>true
 |_,_=>false
def Hh:R2:=fun x y H Q=>GK x y=true/\Q (.bl (!decide (x=y))) H
theorem AS {i j:Int}:decide (V.int i=V.int j)=(i == j):=by
 rw[Bool.eq_iff_iff]
 simp
theorem Dd {i j:Bool}:decide (V.bl i=V.bl j)=(i == j):=by
 rw[Bool.eq_iff_iff]
 simp
theorem AF {i j:Str}:decide (V.str i=V.str j)=(i == j):=by
 rw[Bool.eq_iff_iff]
 simp
theorem BX {i j:Array UInt8}:decide (V.byt i=V.byt j)=(i.toList == j.toList):=by
 rw[Bool.eq_iff_iff]
 cases i
 cases j
 simp
section
variable {X:Cx}{a b c:Expr}{ta tb tc:TE}{pos:Pos}
theorem dh {pins:List (Addr×Obj)}{σ:St}{H:Hp}{s:Shared}{Q:VK}{k k':Bool}(I:Inv X pins σ H s)(q:Q (.bl k) H)(e:k=k'):EP X pins σ Q (.bool k') s:=by
 subst e
 exact⟨.bl k,H,I,rfl,q⟩
theorem E3:lF X (compareOp .NotEq) Hh:=by
 intro pins s σ H x y v u Q I rx ry h
 obtain⟨hs,q⟩:=h
 cases x with
 |non=>
  cases rx
  cases y with
  |non=>cases ry;exact PySem.EqNone.ne_none_none (dh I q (by simp))
  |bl j=>cases ry;exact PySem.EqNone.ne_none_bool (dh I q (by simp))
  |int j=>obtain⟨t',rfl⟩:=ry;exact PySem.EqNone.ne_none_int (dh I q (by simp))
  |str j=>obtain⟨t',rfl⟩:=ry;exact PySem.EqNone.ne_none_str (dh I q (by simp))
  |_=>exact absurd (show false=true from hs) Bool.false_ne_true
 |bl i=>
  cases rx
  cases y with
  |non=>cases ry;exact PySem.EqNone.ne_bool_none (dh I q (by simp))
  |bl j=>cases ry;exact ne_bool (dh I q (congrArg not Dd))
  |str j=>obtain⟨t',rfl⟩:=ry;exact PySem.EqMixed.ne_bool_str (dh I q (by simp))
  |_=>exact absurd (show false=true from hs) Bool.false_ne_true
 |int i=>
  obtain⟨t,rfl⟩:=rx
  cases y with
  |non=>cases ry;exact PySem.EqNone.ne_int_none (dh I q (by simp))
  |int j=>obtain⟨t',rfl⟩:=ry;exact ne_int (dh I q (congrArg not AS))
  |str j=>obtain⟨t',rfl⟩:=ry;exact PySem.EqMixed.ne_int_str (dh I q (by simp))
  |_=>exact absurd (show false=true from hs) Bool.false_ne_true
 |str i=>
  obtain⟨t,rfl⟩:=rx
  cases y with
  |non=>cases ry;exact PySem.EqNone.ne_str_none (dh I q (by simp))
  |bl j=>cases ry;exact PySem.EqMixed.ne_str_bool (dh I q (by simp))
  |int j=>obtain⟨t',rfl⟩:=ry;exact PySem.EqMixed.ne_str_int (dh I q (by simp))
  |str j=>obtain⟨t',rfl⟩:=ry;exact ne_str (dh I q (congrArg not AF))
  |_=>exact absurd (show false=true from hs) Bool.false_ne_true
 |byt i=>
  obtain⟨t,rfl⟩:=rx
  cases y with
  |byt j=>obtain⟨t',rfl⟩:=ry;exact PySem.W.ne_bytes (dh I q (congrArg not BX))
  |_=>exact absurd (show false=true from hs) Bool.false_ne_true
 |_=>cases y <;> exact absurd (show false=true from hs) Bool.false_ne_true
theorem m6:lF X (compareOp .Lt) (w8 fun i j=>.bl (decide (i < j))):=Dv fun _ _ _ _ _ _ _ q=>lt_int q
theorem zN:lF X (compareOp .LtE) (w8 fun i j=>.bl (decide (i<=j))):=Dv fun _ _ _ _ _ _ _ q=>le_int q
theorem EX:lF X (compareOp .Gt) (w8 fun i j=>.bl (decide (j < i))):=Dv fun _ _ _ _ _ _ _ q=>gt_int q
theorem bb (b:Expr){op:CmpOp}(h:op≠.In:=by decide)(h2:op≠.NotIn:=by decide):behindInMarks op b=false:=by
 have e1:(op == CmpOp.In)=false:=by cases op <;> first |rfl |exact absurd rfl h
 have e2:(op == CmpOp.NotIn)=false:=by cases op <;> first |rfl |exact absurd rfl h2
 cases b <;> simp[behindInMarks,e1,e2]
theorem Ca {op:CmpOp}{r:R2}(ho:lF X (compareOp op) r)(ha:PE X a ta)(hb:PE X b tb)(hm:behindInMarks op b=false):PE X (.Compare a [op] [b] pos) (FL r ta tb):=by
 intro pins s σ H Q I h
 exact wpAny_Compare1 (DG ha hb I h fun v u s2 x y H2 I2 rx ry q=>ho pins s2 σ H2 x y v u Q I2 rx ry q) hm
def EB (t:TE):TT:=fun σ H Q=>t σ H fun x H'=>∃k,x=.bl k/\Q k H'
theorem BK {op:CmpOp}{r:R2}(ho:lF X (compareOp op) r)(ha:PE X a ta)(hb:PE X b tb)(hm:behindInMarks op b=false):PT X (.Compare a [op] [b] pos) (EB (FL r ta tb)):=by
 intro pins s σ H Q I h
 refine wpAny_isTrue_Compare1 (b7 (ha pins s σ H _ I h) fun v s1 ⟨x,H1,I1,r1,q1⟩=>b7 (hb pins s1 σ H1 _ I1 q1) fun u s2 ⟨y,H2,I2,r2,q2⟩=>
  b7 (ho pins s2 σ H2 x y v u _ I2 r1 r2 q2) fun c s3 ⟨z,H3,I3,r3,k,e,q3⟩=>?_) hm
 subst e
 cases r3
 exact wpAny_truthy_bool ⟨H3,I3,q3⟩
def Dj (r r':R2)(ta tb tc:TE):TE:=fun σ H Q=>ta σ H fun x H1=>tb σ H1 fun y H2=>r x y H2 fun z H3=>∃k,z=.bl k/\
 (if k=true then tc σ H3 fun w' H4=>r' y w' H4 Q else Q (.bl false) H3)
theorem yN {op op':CmpOp}{r r':R2}(ho:lF X (compareOp op) r)(ho':lF X (compareOp op') r')(ha:PE X a ta)(hb:PE X b tb)(hc:PE X c tc)
  (hm:lastMarks [op,op'] [b,c]=false:=by with_unfolding_all rfl):PE X (.Compare a [op,op'] [b,c] pos) (Dj r r' ta tb tc):=by
 intro pins s σ H Q I h
 refine Compare_chain (b7 (ha pins s σ H _ I h) fun v s1 ⟨x,H1,I1,r1,q1⟩=>chain_link (b7 (hb pins s1 σ H1 _ I1 q1) fun u s2 ⟨y,H2,I2,r2,q2⟩=>
  b7 (ho pins s2 σ H2 x y v u _ I2 r1 r2 q2) fun d s3 ⟨z,H3,I3,r3,k,e,q3⟩=>?_)) hm
 subst e
 cases r3
 refine wpAny_truthy_bool ?_
 cases k with
 |false=>exact ite_ff ⟨.bl false,H3,I3,rfl,q3⟩
 |true=>exact ite_tt (chain_last (b7 (hc pins s3 σ H3 _ I3 q3) fun w' s4 ⟨z',H4,I4,r4,q4⟩=>ho' pins s4 σ H4 y z' u w' Q I4 r2 r4 q4))
def Eo (K:PySem.W.Frag)(x:V)(H:Hp)(k:Bool):Prop:=
 match x with
 | .non=>k=false
 | .bl b=>k=b
 | .int i=>k=(i != 0)
 | .str y=>y.length<=sizeLine/\k=((y.length:Int) != 0)
 | .byt y=>y.size<=sizeLine/\k=((y.size:Int) != 0)
 | .ref p=>(∃xs,gu K H p xs/\k= !xs.isEmpty)\/(∃xs,fG K H p xs/\k= !xs.isEmpty)\/∃kvs,H p=some (.dK kvs)/\k= !kvs.isEmpty
 |_=>False
theorem sR {κ:Type}{kvs:List (κ×V)}{vs:List (κ×Value)}(r:KV kvs vs):(!vs.isEmpty)= !kvs.isEmpty:=by
 cases r <;> rfl
theorem mJ {xs:List V}{its:List Value}(r:Vals xs its):(!its.toArray.isEmpty)= !xs.isEmpty:=by
 cases r <;> simp
theorem lr:(sizeLine:Nat) < 2 ^ 63:=by rw[sizeLine_eq];decide
theorem DK:GS X (fun x H Q=>∃k,Eo X.K x H k/\Q k H):=by
 intro pins s σ H x v Q I rx h
 obtain⟨k,e,q⟩:=h
 have hl:=lr
 have hs:sizeLine=16777216:=sizeLine_eq
 cases x with
 |non=>
  cases rx
  have e':k=false:=e
  subst e'
  exact truthy_none ⟨H,I,q⟩
 |bl b=>
  cases rx
  have e':k=b:=e
  subst e'
  exact wpAny_truthy_bool ⟨H,I,q⟩
 |int i=>
  obtain⟨t,rfl⟩:=rx
  have e':k=(i != 0):=e
  subst e'
  exact PySem.P.truthy_int ⟨H,I,q⟩
 |str y=>
  obtain⟨t,rfl⟩:=rx
  obtain⟨hy,e'⟩:y.length<=sizeLine/\k=((y.length:Int) != 0):=e
  subst e'
  exact PySem.P.truthy_str (by omega) ⟨H,I.tok _,q⟩
 |byt y=>
  obtain⟨t,rfl⟩:=rx
  obtain⟨hy,e'⟩:y.size<=sizeLine/\k=((y.size:Int) != 0):=e
  subst e'
  exact PySem.W.truthy_bytes (by omega) ⟨H,I.tok _,q⟩
 |ref p=>
  cases rx
  have e':(∃xs,gu X.K H p xs/\k= !xs.isEmpty)\/(∃xs,fG X.K H p xs/\k= !xs.isEmpty)\/∃kvs,H p=some (.dK kvs)/\k= !kvs.isEmpty:=e
  rcases e' with⟨xs,hx,e'⟩ | ⟨xs,hx,e'⟩ | ⟨kvs,hx,e'⟩
  ·subst e'
   obtain⟨its,r,pl,hz⟩:=I.list hx
   have hlen:=r.length
   exact wpAny_truthy_list pl.isList (by simp only[List.size_toArray];omega) ⟨H,I.tok _,by rw[mJ r];exact q⟩
  ·subst e'
   obtain⟨its,r,pl,hz⟩:=I.tuple hx
   have hlen:=r.length
   exact truthy_tuple pl (by simp only[List.size_toArray];omega) ⟨H,I.tok _,by rw[mJ r];exact q⟩
  ·subst e'
   obtain⟨hz,hS,vs,r,m⟩:kvs.length<=sizeLine/\(p == sysModules)=false/\∃vs,KV kvs vs/\s.heap.DictOf (de X.prog X.w) p vs:=I.hok p _ hx
   have hlen:kvs.length=vs.length:=Paired.length r
   exact wpAny_truthy_dict hS m (by omega) ⟨H,I.tok _,by rw[sR r];exact q⟩
 |_=>exact (show False from e).elim
theorem yC (ha:PE X a ta)(he:∀whole,isTrue a X.env whole=(do let v <-whole;standAt a.pos;holding [v] (truthy v))) :
  PT X a (fun σ H Q=>ta σ H fun x H'=>∃k,Eo X.K x H' k/\Q k H'):=by
 intro pins s σ H Q I h
 exact isTrue_plain (b7 (ha pins s σ H _ I h) fun v s1 ⟨x,H1,I1,r1,q1⟩=>DK pins s1 σ H1 x v Q I1 r1 q1) (he _)
theorem vals1 {x:V}{us:List Value}(r:Vals [x] us):∃u,us= [u]/\RelV x u:=by
 cases r with
 |cons r1 r2=>cases r2;exact⟨_,rfl,r1⟩
theorem vals2 {x y:V}{us:List Value}(r:Vals [x,y] us):∃u w',us= [u,w']/\RelV x u/\RelV y w':=by
 cases r with
 |cons r1 r2=>
  cases r2 with
  |cons r3 r4=>cases r4;exact⟨_,_,rfl,r1,r3⟩
theorem Ad:cJ X (.builtin "abs") (fun xs H Q=>∃i,xs= [.int i]/\Q (.int (if i < 0 then -i else i)) H):=by
 intro pins s σ H xs us Q I r h
 obtain⟨i,rfl,q⟩:=h
 obtain⟨u,rfl,t,rfl⟩:=vals1 r
 exact call_abs_int fun u tk=>⟨.int (if i < 0 then -i else i),H,I.tok _,⟨_,rfl⟩,q⟩
theorem xk (hc:X.calm=true):cJ X (.builtin "max") (fun xs H Q=>∃i j,xs= [.int i,.int j]/\Q (.int (if j > i then j else i)) H):=by
 intro pins s σ H xs us Q I r h
 obtain⟨i,j,rfl,q⟩:=h
 obtain⟨u,w',rfl,⟨t,rfl⟩,⟨t',rfl⟩⟩:=vals2 r
 refine max_two_ints (I.ok.hd hc) fun h' tk k=>⟨_,H,I.kept k,?_,q⟩
 by_cases hj:j > i
 ·rw[if_pos hj,if_pos hj];exact⟨_,rfl⟩
 ·rw[if_neg hj,if_neg hj];exact⟨_,rfl⟩
theorem wZ (hc:X.calm=true):cJ X (.builtin "min") (fun xs H Q=>∃i j,xs= [.int i,.int j]/\Q (.int (if j < i then j else i)) H):=by
 intro pins s σ H xs us Q I r h
 obtain⟨i,j,rfl,q⟩:=h
 obtain⟨u,w',rfl,⟨t,rfl⟩,⟨t',rfl⟩⟩:=vals2 r
 refine min_two_ints (I.ok.hd hc) fun h' tk k=>⟨_,H,I.kept k,?_,q⟩
 by_cases hj:j < i
 ·rw[if_pos hj,if_pos hj];exact⟨_,rfl⟩
 ·rw[if_neg hj,if_neg hj];exact⟨_,rfl⟩
def Er (K:PySem.W.Frag)(x:V)(H:Hp)(n:Nat):Prop:=
 match x with
 | .str y=>y.length<=sizeLine/\n=y.length
 | .byt y=>y.size<=sizeLine/\n=y.size
 | .ref p=>(∃xs,gu K H p xs/\n=xs.length)\/∃xs,fG K H p xs/\n=xs.length
 |_=>False
theorem cw:cJ X (.builtin "len") (fun xs H Q=>∃x n,xs= [x]/\Er X.K x H n/\Q (.int n) H):=by
 intro pins s σ H xs us Q I r h
 obtain⟨x,n,rfl,e,q⟩:=h
 obtain⟨u,rfl,rx⟩:=vals1 r
 have hl:=lr
 have hs:sizeLine=16777216:=sizeLine_eq
 cases x with
 |str y=>
  obtain⟨t,rfl⟩:=rx
  obtain⟨hy,e'⟩:y.length<=sizeLine/\n=y.length:=e
  subst e'
  exact len_str (by omega) ⟨.int _,H,I.tok _,⟨_,rfl⟩,q⟩
 |byt y=>
  obtain⟨t,rfl⟩:=rx
  obtain⟨hy,e'⟩:y.size<=sizeLine/\n=y.size:=e
  subst e'
  exact PySem.W.len_bytes (by omega) ⟨.int _,H,I.tok _,⟨_,rfl⟩,q⟩
 |ref p=>
  cases rx
  have e':(∃xs,gu X.K H p xs/\n=xs.length)\/∃xs,fG X.K H p xs/\n=xs.length:=e
  rcases e' with⟨xs,hx,e'⟩ | ⟨xs,hx,e'⟩
  ·subst e'
   obtain⟨its,r',pl,hz⟩:=I.list hx
   have hlen:=r'.length
   exact Calls.call_len_list pl.isList (by simp only[List.size_toArray];omega) ⟨.int xs.length,H,I.tok _,⟨_,by simp only[List.size_toArray];rw[hlen]⟩,q⟩
  ·subst e'
   obtain⟨its,r',pl,hz⟩:=I.tuple hx
   have hlen:=r'.length
   exact len_tuple pl (by simp only[List.size_toArray];omega) ⟨.int xs.length,H,I.tok _,⟨_,by simp only[List.size_toArray];rw[hlen]⟩,q⟩
 |_=>exact (show False from e).elim
theorem rV:cJ X (.builtin "divmod") (fun xs H Q=>∃i j,xs= [.int i,.int j]/\Cf i j/\∀p,H p=none->Q (.ref p) (upd H p (.tup [.int (i / j),.int (i % j)]))):=by
 intro pins s σ H xs us Q I r h
 obtain⟨i,j,rfl,⟨h1,h2⟩,q⟩:=h
 obtain⟨u,w',rfl,⟨t,rfl⟩,⟨t',rfl⟩⟩:=vals2 r
 refine divmod_int (by omega) ?_ (.inl (PyProof.noPylong_small (by omega)))
 rw[Int.fdiv_eq_ediv_of_nonneg i (by omega),Int.fmod_eq_emod_of_nonneg i (by omega)]
 have hn:H s.heap.objs.size=none:=I.hok.fresh (Nat.le_refl _)
 refine⟨.ref s.heap.objs.size,_,?_,rfl,q _ hn⟩
 refine I.laid (fun b o e=>Heap.get?_push_of_some _ e) (Nat.le_refl _) ⟨by simp only[List.length_cons,List.length_nil];rw[sizeLine_eq];decide,[.int (i / j) s.toks,.int (i % j) (s.toks + 1)],.cons ⟨_,rfl⟩ (.cons ⟨_,rfl⟩ .nil),?_⟩
 exact⟨_,Heap.get?_push_size s.heap rfl,rfl,0,rfl,rfl⟩
end
end L2
namespace L2
open PySem PySem.Spec PyProof.Rows
structure CS (h:Heap)(x dx C:Addr)(mA:Str->Option Value):Prop where
 obj:h.get? x=some (PySem.W.instObj C dx)
 ns:h.Ns1 dx mA
 ne:dx≠x
theorem vZ {h:Heap}{dx:Addr}{mA:Str->Option Value}(n:h.Ns1 dx mA):∃od,h.get? dx=some od/\∀name,PySem.W.lookIn name od=some (mA name):=by
 obtain⟨o,es,ep,ho,hd,hk,_,hm⟩:=n
 refine⟨o,ho,fun name=>?_⟩
 have e:=hm name
 unfold nsFind findBy at e
 rw[<-Array.find?_toList] at e
 unfold PySem.W.lookIn
 rw[hd]
 dsimp only
 split
 ·rename_i y q
  rw[q] at e
  exact congrArg some e
 ·rename_i q
  rw[q] at e
  have a:es.toList.any (·.refKey)=false:=by
   rw[List.any_eq_false]
   intro y hy
   obtain⟨z,t,hkey⟩:=hk y (Array.mem_toList_iff.mp hy)
   simp[DictEntry.refKey,hkey]
  have a':¬es.toList.any (·.refKey)=true:=by rw[a];exact Bool.false_ne_true
  rw[if_neg a']
  exact congrArg some e
theorem CS.look {h:Heap}{x dx C:Addr}{mA:Str->Option Value}(I:CS h x dx C mA):∃od,PySem.W.InstAt h x (PySem.W.instObj C dx) C (some od)/\∀name,PySem.W.lookIn name od=some (mA name):=
 let ⟨od,ho,hl⟩:=vZ I.ns
 ⟨od,⟨I.obj,rfl,rfl,ho⟩,hl⟩
section
variable {P:Program}{w:World}{H H':Hp}{h h':Heap}{a C dx:Addr}{fs fs':List (Str×V)}
theorem BF (hok:jG P w H h)(e:H a=some (.ins C dx fs)):∃mA,CS h a dx C mA/\(∀f,Du (fs.lookup f) (mA f))/\PySem.Within mA (fs.map (·.1))/\fs.length<=1000/\H dx=some (.own a):=by
 obtain⟨d,z,ne,ob,mA,n,r,q⟩:=(show bH P w H h a (.ins C dx fs) from hok a _ e)
 exact⟨mA,⟨ob,n,ne⟩,r,q,z,d⟩
end
structure GR (K:PySem.W.Frag)(C:Addr):Prop where
 pg:PySem.W.plainGet K C Str.empty=true
 hd:PySem.W.hasDictIn K C=true
 po:PySem.W.plainOver K C=true
 sa:PySem.W.findIn K (.ref C) "__setattr__"=some (some (.builtin "object.__setattr__"))
theorem GR.get {K:PySem.W.Frag}{C:Addr}(c:GR K C)(f:Str):PySem.W.plainGet K C f=true:=c.pg
section
variable {X:Cx}{pins:List (Addr×Obj)}{σ:St}{H:Hp}{s:Shared}{A:Around}{E:Value->Shared->Prop}{Q:Value->Shared->Prop}{c:Value}{b:Bool}
inductive lW (K:PySem.W.Frag)(H:Hp):V->Value->Prop where
 |non:lW K H .non (.type "NoneType")
 |bl (x:Bool):lW K H (.bl x) (.type "bool")
 |int (i:Int):lW K H (.int i) (.type "int")
 |str (x:Str):lW K H (.str x) (.type "str")
 |flt (x:UInt64):lW K H (.flt x) (.type "float")
 |lst {a:Addr} {xs:List V} (e:H a=some (.lst xs)):lW K H (.ref a) (.type "list")
 |a7 {a:Addr} {o:Obj} {xs:List V} (e:H a=some (.a7 o (.lst xs))):lW K H (.ref a) (.type "list")
 |tup {a:Addr} {xs:List V} (e:H a=some (.tup xs)):lW K H (.ref a) (.type "tuple")
 |dK {a:Addr} {kvs:List (Key×V)} (e:H a=some (.dK kvs)):lW K H (.ref a) (.type "dict")
 |dT {a:Addr} {kvs:List (List Key×V)} (e:H a=some (.dT kvs)):lW K H (.ref a) (.type "dict")
 |ins {a C dx:Addr} {fs:List (Str×V)} (e:H a=some (.ins C dx fs)) (cl:GR K C) (ha:PySem.W.findIn K (.ref C) "__class__"=some (some (.builtin "object.__class__")))
   (hn:PySem.W.specialIn K (.builtin "object.__class__") "__get__"=some (some (.builtin "getset_descriptor.__get__"))) (htk:PySem.W.takesIn K (.builtin "object.__class__")=some true)
   (hm:PySem.W.mroIn K C (.type "object")=some true):lW K H (.ref a) (.ref C)
theorem ic {x:V}{u t:Value}(I:Inv X pins σ H s)(rx:RelV x u)(ty:lW X.K H x t)(e:PySem.W.kitOne X.K t c=some b)(h:∀tk,Q (.bool b) {s with toks:=tk}) :
  wpAny (model X.prog X.w) A (call (.builtin "isinstance") [u,c]) Q E s:=by
 cases ty with
 |non=>cases (show u=Value.none from rx);exact PySem.W.kia_one PySem.W.kitx_none I.kIn True.intro e (fun z=>nomatch z) h
 |bl y=>cases (show u=Value.bool y from rx);exact PySem.W.kia_one PySem.W.kitx_bool I.kIn True.intro e (fun z=>nomatch z) h
 |int i=>obtain⟨t,q⟩:=(show ∃t,u=Value.int i t from rx);cases q;exact PySem.W.kia_one PySem.W.kitx_int I.kIn True.intro e (fun z=>nomatch z) h
 |str y=>obtain⟨t,q⟩:=(show ∃t,u=Value.str y t from rx);cases q;exact PySem.W.kia_one PySem.W.kitx_str I.kIn True.intro e (fun z=>nomatch z) h
 |flt y=>obtain⟨t,q⟩:=(show ∃t,u=Value.float y t from rx);cases q;exact PySem.W.kia_one PySem.W.kitx_float I.kIn True.intro e (fun z=>nomatch z) h
 | @lst a xs ea=>
  cases (show u=Value.ref a from rx)
  obtain⟨_,_,n,_,h1⟩:=(show bH X.prog X.w H s.heap a (.lst xs) from I.hok a _ ea)
  exact PySem.W.kia_one PySem.W.kitx_list I.kIn ⟨_,h1,rfl⟩ e (fun z=>nomatch z) h
 | @a7 a ob xs ea=>
  cases (show u=Value.ref a from rx)
  obtain⟨_,_,_,n,_,h1⟩:=(show bH X.prog X.w H s.heap a (.a7 ob (.lst xs)) from I.hok a _ ea)
  exact PySem.W.kia_one PySem.W.kitx_list I.kIn ⟨_,h1,rfl⟩ e (fun z=>nomatch z) h
 | @tup a xs ea=>
  cases (show u=Value.ref a from rx)
  obtain⟨_,_,_,p⟩:=(show bH X.prog X.w H s.heap a (.tup xs) from I.hok a _ ea)
  obtain⟨o,h1,h2,_⟩:=p
  exact PySem.W.kia_one PySem.W.kitx_tuple I.kIn ⟨o,h1,h2⟩ e (fun z=>nomatch z) h
 | @dK a kvs ea=>
  cases (show u=Value.ref a from rx)
  obtain⟨_,_,vs,_,p⟩:=(show bH X.prog X.w H s.heap a (.dK kvs) from I.hok a _ ea)
  obtain⟨o,es,ep,h1,h2,_⟩:=p
  exact PySem.W.kia_one PySem.W.kitx_dict I.kIn ⟨o,h1,h2.1⟩ e (fun z=>nomatch z) h
 | @dT a kvs ea=>
  cases (show u=Value.ref a from rx)
  obtain⟨_,_,xs,_,o,es,ep,h1,h2,_⟩:=(show bH X.prog X.w H s.heap a (.dT kvs) from I.hok a _ ea)
  exact PySem.W.kia_one PySem.W.kitx_dict I.kIn ⟨o,h1,h2.1⟩ e (fun z=>nomatch z) h
 | @ins a C dx fs ea cl ha hn htk hm=>
  cases (show u=Value.ref a from rx)
  obtain⟨mA,O,_⟩:=BF I.hok ea
  obtain⟨od,J,_⟩:=O.look
  exact PySem.W.kia_one (PySem.W.kitx_own (cl.get _) cl.hd ha hn htk hm) I.kIn J e (fun z=>nomatch z) h
end
end L2
namespace L2
open PySem PySem.Spec PyProof.Rows
structure eJ (k:Nat)(A:Around):Prop where
 hd:A.handled=none
 dp:A.depth + 3 * k + 5 < recursionLimit
 un:A.units + 16 * k + 200 < cLine
 gd:A.guards=some []
theorem eJ.mono {j k:Nat}{A:Around}(r:eJ k A)(h:j<=k):eJ j A:=⟨r.hd,by have:=r.dp;omega,by have:=r.un;omega,r.gd⟩
theorem eJ.deeper {k:Nat}{A:Around}(r:eJ (k + 1) A)(env:Env):eJ k (A.deeper env):=
 ⟨r.hd,by have:=r.dp;show A.depth + 1 + 3 * k + 5 < _;omega,by have:=r.un;show A.units + 3 + 16 * k + 200 < _;omega,r.gd⟩
theorem eJ.depth {k:Nat}{A:Around}(r:eJ k A):A.depth < recursionLimit:=by have:=r.dp;omega
theorem eJ.units {k:Nat}{A:Around}(r:eJ k A):A.units + 64 < cLine:=by have:=r.un;omega
def GZ:TA:=fun _ H Q=>Q [] H
def Ex (ta:TE)(tr:TA):TA:=fun σ H Q=>ta σ H fun x H1=>tr σ H1 fun xs H2=>Q (x :: xs) H2
section
variable {X:Cx}{e:Expr}{es:List Expr}{te:TE}{t:TA}{pos:Pos}
theorem bg:PA X [] GZ:=fun _ _ _ _ H Q I h=>Calls.spliced_nil ⟨[],H,I,.nil,h⟩
theorem aJ (ha:PE X e te)(hr:PA X es t)(hs:starEach (e :: es) X.env=(false,eval e X.env) :: starEach es X.env:=by rfl):PA X (e :: es) (Ex te t):=by
 intro pos pins s σ H Q I h
 rw[hs]
 show wpAny _ _ (spliced ((false,eval e X.env) :: backTo pos (starEach es X.env))) _ _ s
 refine Calls.spliced_cons (b7 (ha pins s σ H _ I h) fun u s1 ⟨x,H1,I1,r1,q1⟩=>?_)
 exact b7 (hr pos pins s1 σ H1 _ I1 q1) fun us s2 ⟨xs,H2,I2,r2,q2⟩=>⟨x :: xs,H2,I2,.cons r1 r2,q2⟩
def Gv (t:TA):TE:=fun σ H Q=>t σ H fun xs H1=>xs.length<=sizeLine/\∀p,H1 p=none->Q (.ref p) (upd H1 p (.tup xs))
def Gr (t:TA):TE:=fun σ H Q=>t σ H fun xs H1=>xs.length<=sizeLine/\∀p,H1 p=none->Q (.ref p) (upd H1 p (.lst xs))
theorem ui {x1}(h:PA X es t):PE X (.Tuple es x1 pos) (Gv t):=by
 intro pins s σ H Q I hq
 refine wpAny_Tuple_spliced (b7 (h pos pins s σ H _ I hq) fun us s1 ⟨xs,H1,I1,r,z,q⟩=>⟨by rw[<-r.length];exact z,?_⟩)
 have hf:H1 s1.heap.objs.size=none:=I1.hok.fresh (Nat.le_refl _)
 refine⟨.ref s1.heap.objs.size,upd H1 s1.heap.objs.size (.tup xs),I1.laid (t':=s1.toks) (fun b u e=>Heap.get?_push_of_some _ e) (Nat.le_refl _) ?_,rfl,q _ hf⟩
 exact⟨z,us,r,uD.new _ _⟩
theorem zG (h:PA X es t):PE X (.List es pos) (Gr t):=by
 intro pins s σ H Q I hq
 refine wpAny_List_spliced (b7 (h pos pins s σ H _ I hq) fun us s1 ⟨xs,H1,I1,r,z,q⟩=>⟨by rw[<-r.length];exact z,?_⟩)
 have hf:H1 s1.heap.objs.size=none:=I1.hok.fresh (Nat.le_refl _)
 refine⟨.ref s1.heap.objs.size,upd H1 s1.heap.objs.size (.lst xs),I1.laid (t':=s1.toks) (fun b u e=>Heap.get?_push_of_some _ e) (Nat.le_refl _) ?_,rfl,q _ hf⟩
 exact⟨z,us,0,r,Heap.get?_push_size _ rfl⟩
end
abbrev Sp:=List V->Hp->VK->XK->Prop
abbrev wu:=List Env->Hp->Shared->XK->Value->Shared->Prop
structure Bv (P:Program)(w:World)(K:PySem.W.Frag)(mg:Str->Option Value)(base:Heap)(A:Around)(outer:List Env)(s:Shared)(H:Hp):Prop where
 frames:A.frames=some outer
 mod:Mod K mg base
 bs:∀b o,base.get? b=some o->s.heap.get? b=some o/\H b=none
 bsz:base.objs.size<=s.heap.objs.size
 funs:s.heap.FunFrames base outer
 frf:∀b∈hU outer,H b=none
 hok:jG P w H s.heap
 bare:AllBare s.gens
def CE (outer:List Env)(P:Program)(w:World)(H:Hp)(s:Shared)(Q:VK)(u:Value)(s':Shared):Prop:=
 ∃v H',s'.os=s.os/\AllBare s'.gens/\Un (hU outer) [] H H' s.heap s'.heap/\jG P w H' s'.heap/\RelV v u/\Q v H'
def CR (CX:wu)(outer:List Env)(P:Program)(w:World)(H:Hp)(s:Shared)(Q:VK)(E:XK)(r:Result)(s':Shared):Prop:=
 match r with
 | .ok (.ret u)=>CE outer P w H s Q u s'
 | .ok _=>False
 | .error e=>CX outer H s E e s'
structure fx (P:Program)(w:World)(K:PySem.W.Frag)(mg:Str->Option Value)(base:Heap)(CX:wu)(k:Nat)(f:Addr)(fd:FuncData)(ps:List Str)(sp:Sp):Prop where
 len:∀vs H Q E,sp vs H Q E->vs.length=ps.length
 run:∀(A:Around) (outer:List Env) (s:Shared) (H:Hp) (args:Args) (us:List Value) (vs:List V) (Q:VK) (E:XK),eJ k A->Bv P w K mg base A outer s H->BindsTo s fd args (ps.zip us)->Vals vs us->sp vs H Q E->
  codeAny (model P w) A (.call (.ref f) args) (CR CX outer P w H s Q E) s
theorem fx.mono {P:Program}{w:World}{K:PySem.W.Frag}{mg:Str->Option Value}{base:Heap}{CX:wu}{j k:Nat}{f:Addr}{fd:FuncData}{ps:List Str}{sp:Sp}(F:fx P w K mg base CX j f fd ps sp)(h:j<=k) :
  fx P w K mg base CX k f fd ps sp:=⟨F.len,fun A outer s H args us vs Q E hr=>F.run A outer s H args us vs Q E (hr.mono h)⟩
theorem fx.imp {P:Program}{w:World}{K:PySem.W.Frag}{mg:Str->Option Value}{base:Heap}{CX:wu}{k:Nat}{f:Addr}{fd:FuncData}{ps:List Str}{sp sp':Sp}(F:fx P w K mg base CX k f fd ps sp)
  (h:∀vs H Q E,sp' vs H Q E->sp vs H Q E):fx P w K mg base CX k f fd ps sp':=
 ⟨fun vs H Q E q=>F.len vs H Q E (h _ _ _ _ q),fun A outer s H args us vs Q E hr he hb hv hs=>F.run A outer s H args us vs Q E hr he hb hv (h _ _ _ _ hs)⟩
section
variable {X:Cx}{pins:List (Addr×Obj)}{σ:St}{H:Hp}{s s':Shared}
theorem Inv.env0 (I:Inv X pins σ H s):Bv X.prog X.w X.K X.mg X.base X.A X.stack s H:=
 ⟨I.ok.frames,I.ok.mod,I.bs,Nat.le_trans I.ok.bsz I.sz,I.stack,I.stkFree,I.hok,I.bare⟩
theorem Inv.after {Q:VK}{u:Value}(I:Inv X pins σ H s)(h:CE X.stack X.prog X.w H s Q u s'):EP X pins σ Q u s':=by
 obtain⟨v,H',os,bare,un,hok,r,q⟩:=h
 obtain⟨hh,g,d,t,os'⟩:=s'
 obtain rfl:os'=s.os:=os
 exact⟨v,H',I.call (h':=hh) (g':=g) (d':=d) (t':=t) (ch:=[]) un hok bare (fun b z=>absurd z (by simp)),r,q⟩
end
def Fh (sp:Sp)(dvs:List V)(E:XK)(t:TA):TE:=fun σ H Q=>t σ H fun vs H1=>sp (vs ++ dvs) H1 Q E
def Binds (K:PySem.W.Frag)(fd:FuncData)(ps:List Str)(ds:List Value):Prop:=
 ∀(s:Shared) (us:List Value),K.In s.heap->(us ++ ds).length=ps.length->BindsTo s fd ⟨us,[]⟩ (ps.zip (us ++ ds))
theorem Binds.all {K:PySem.W.Frag}{fd:FuncData}{ps:List Str}(h:∀us:List Value,us.length=ps.length->bindArgs fd ⟨us,[]⟩=pure (ps.zip us)):Binds K fd ps []:=fun s us _ hl=>by
 rw[List.append_nil] at hl ⊢
 exact .of_eq (h us hl)
def Passes (CX:wu)(X:Cx)(E:XK):Prop:=∀(pins:List (Addr×Obj)) (σ:St) (H:Hp) (s:Shared) (e:Value) (s':Shared),Inv X pins σ H s->CX X.stack H s E e s'->X.xe e s'
section
variable {X:Cx}{CX:wu}{k:Nat}{f C:Addr}{fd:FuncData}{ps:List Str}{sp:Sp}{dvs:List V}{ds:List Value}{E:XK}{x m:Str}{p pos apos:Pos}{e o:Expr}{es:List Expr}{ta:TE}{t:TA}
theorem CM {pins:List (Addr×Obj)}{σ:St}{H:Hp}{s:Shared}{Q:VK}{us:List Value}{vs:List V}(F:fx X.prog X.w X.K X.mg X.base CX k f fd ps sp)(hr:eJ k X.A)(hb:Binds X.K fd ps ds)(hd:Vals dvs ds)(hx:Passes CX X E)
  (I:Inv X pins σ H s) (r:Vals vs us) (h:sp (vs ++ dvs) H Q E):wpAny (model X.prog X.w) X.A (call (.ref f) us) (EP X pins σ Q) X.xe s:=by
 have r2:Vals (vs ++ dvs) (us ++ ds):=r.append hd
 have hl:(us ++ ds).length=ps.length:=by rw[<-r2.length];exact F.len _ _ _ _ h
 refine wpAny_call (codeAny_mono (F.run X.A X.stack s H ⟨us,[]⟩ (us ++ ds) (vs ++ dvs) Q E hr I.env0 (hb s us I.kIn hl) r2 h) fun r s' hq=>?_)
 cases r with
 |error e=>exact hx pins σ H s e s' I hq
 |ok fl=>
  cases fl with
  |ret u=>exact I.after hq
  |next=>exact False.elim hq
  |brk=>exact False.elim hq
  |cont=>exact False.elim hq
theorem mz (F:fx X.prog X.w X.K X.mg X.base CX k f fd ps sp)(hr:eJ k X.A)(hg:Gl X x)(hm:X.mg x=some (.ref f))(hk:PySem.W.keepIn X.K (.ref f)=true)(hb:Binds X.K fd ps ds)(hd:Vals dvs ds)(hx:Passes CX X E)
  (ha:PA X (e :: es) t) (hdb:(x == ("__debug__":Str))=false:=by decide) (he:starEach (e :: es) X.env=(false,eval e X.env) :: starEach es X.env:=by rfl) (hpl:(backTo pos (starEach es X.env)).any (·.1)=false:=by rfl) :
  PE X (.Call (.Name x p) (e :: es) [] pos) (Fh sp dvs E t):=by
 intro pins s σ H Q I h
 refine wpAny_Call_Name_kw (pL I hg hm ?_ hdb)
 refine PySem.W.callWith_K (h₀:=X.base) I.ok.mod.kin hk (b7 (ha pos pins s σ H _ I h) fun us s1 ⟨vs,H1,I1,r,q⟩=>⟨I1.kIn,?_⟩) he hpl
 exact CM F hr hb hd hx I1 r q
end
structure aL (N P:List Str)(sc:Scope):Prop where
 kind:sc.kind=.function
 co:sc.isCoroutine=false
 gen:sc.isGenerator=false
 nd:N.Nodup
 pre:N.take P.length=P
 par:∀x∈P,sc.names.lookup x=some .local\/sc.names.lookup x=some .cell
 nofree:∀y∈sc.names,y.2≠.free
theorem ph {kindOf:Str->Option NameKind}{x:Str}:∀{binds:List (Str×Value)} {m:Str->Option Value},(∀v,(x,v)∉binds)->bindL kindOf binds m x=m x
 | [],_,_=>rfl
 | (n,v) :: r,m,h=>by
  unfold bindL
  rw[ph fun w hw=>h w (List.mem_cons_of_mem _ hw)]
  split
  ·have:x≠n:=by rintro rfl;exact h v List.mem_cons_self
   simp[this]
  ·rfl
theorem pk {kindOf:Str->Option NameKind}{x:Str}:∀{binds:List (Str×Value)} {m:Str->Option Value},(∀v,(x,v)∉binds)->bindC kindOf binds m x=m x
 | [],_,_=>rfl
 | (n,v) :: r,m,h=>by
  unfold bindC
  rw[pk fun w hw=>h w (List.mem_cons_of_mem _ hw)]
  split
  ·rfl
  ·have:x≠n:=by rintro rfl;exact h v List.mem_cons_self
   simp[this]
theorem pf {kindOf:Str->Option NameKind}{x:Str}{v:Value}:∀{P:List Str} {vs:List Value} {i:Nat} {m:Str->Option Value},P.Nodup->P[i]? =some x->vs[i]? =some v->kindOf x=some .local->
  bindL kindOf (P.zip vs) m x=some v
 | [],_,_,_,_,h,_,_=>by simp at h
 |_ :: _,[],_,_,_,_,h,_=>by simp at h
 |p :: P,w :: vs,0,m,nd,h1,h2,hk=>by
  simp at h1 h2;subst h1;subst h2
  show bindL kindOf ((p,w) :: P.zip vs) m p=_
  unfold bindL
  rw[ph fun v hv=>(List.nodup_cons.mp nd).1 (List.of_mem_zip hv).1,if_pos hk]
  simp
 |p :: P,w :: vs,i + 1,m,nd,h1,h2,hk=>by
  show bindL kindOf ((p,w) :: P.zip vs) m x=_
  unfold bindL
  exact pf (i:=i) (List.nodup_cons.mp nd).2 (by simpa using h1) (by simpa using h2) hk
theorem pE {kindOf:Str->Option NameKind}{x:Str}{v:Value}:∀{P:List Str} {vs:List Value} {i:Nat} {m:Str->Option Value},P.Nodup->P[i]? =some x->vs[i]? =some v->kindOf x≠some .local->
  bindC kindOf (P.zip vs) m x=some v
 | [],_,_,_,_,h,_,_=>by simp at h
 |_ :: _,[],_,_,_,_,h,_=>by simp at h
 |p :: P,w :: vs,0,m,nd,h1,h2,hk=>by
  simp at h1 h2;subst h1;subst h2
  show bindC kindOf ((p,w) :: P.zip vs) m p=_
  unfold bindC
  rw[pk fun v hv=>(List.nodup_cons.mp nd).1 (List.of_mem_zip hv).1,if_neg hk]
  simp
 |p :: P,w :: vs,i + 1,m,nd,h1,h2,hk=>by
  show bindC kindOf ((p,w) :: P.zip vs) m x=_
  unfold bindC
  exact pE (i:=i) (List.nodup_cons.mp nd).2 (by simpa using h1) (by simpa using h2) hk
def start (N:List Str)(vs:List V):St:=vs.map some ++ List.replicate (N.length - vs.length) none
def jO (CX:wu)(P:Program)(w:World)(K:PySem.W.Frag)(mg:Str->Option Value)(base:Heap)(N:List Str)(qual:Str)(scope:Scope)(f:Addr)(cd:Value)(A:Around)(outer:List Env)(s:Shared)(H:Hp)(E:XK):Cx where
 prog:=P
 w:=w
 K:=K
 mg:=mg
 base:=base
 A:=A.deeper (envOfC qual scope s.heap.objs.size f cd)
 N:=N
 s₀:=s
 H₀:=H
 env:=envOfC qual scope s.heap.objs.size f cd
 outer:=outer
 stack:=envOfC qual scope s.heap.objs.size f cd :: outer
 ex:=[]
 calm:=true
 fn:=fun _=>true
 pn:=[]
 xe:=fun e s'=>wpAny (model P w) (A.deeper (envOfC qual scope s.heap.objs.size f cd)) (leaving (envOfC qual scope s.heap.objs.size f cd) e) (fun _ s''=>CX outer H s E e s'') (fun e' s''=>CX outer H s E e' s'') s'
theorem rR {sc:Scope}{n:Nat}{x:Str}(h:sc.names.lookup x=some .cell):∃c,(cellsFrom n sc.names []).lookup x=some c:=by
 have q:=PySem.W.cellsFrom_some sc.names n [] (.inl h)
 exact Option.isSome_iff_exists.mp q
theorem xg {CX:wu}{P:Program}{w:World}{K:PySem.W.Frag}{mg:Str->Option Value}{base:Heap}{N ps:List Str}{qual:Str}{scope:Scope}{f:Addr}{cd:Value}{A:Around}{outer:List Env}{s s1:Shared}{H:Hp}{E:XK}{us:List Value}{vs:List V}
  (S:aL N ps scope) (hd:A.handled=none) (e0:Bv P w K mg base A outer s H) (hl:vs.length=ps.length) (r:Vals vs us)
  (x:InCallC s s.heap.objs.size (bindL (envOfC qual scope s.heap.objs.size f cd).kindOf (ps.zip us) fun _=>none) (cellsFrom (s.heap.objs.size + 1) scope.names []) (bindC (envOfC qual scope s.heap.objs.size f cd).kindOf (ps.zip us) fun _=>none) s1) :
  Inv (jO CX P w K mg base N qual scope f cd A outer s H E) [] (start N vs) H s1:=by
 have hpl:ps.length<=N.length:=by have:=congrArg List.length S.pre;rw[List.length_take] at this;omega
 obtain⟨h1,tk,rfl,hk⟩:=x.done
 have noA:∀b:Addr,b∉(jO CX P w K mg base N qual scope f cd A outer s H E).ex:=fun b z=>absurd (show b∈([]:List Addr) from z) (by simp)
 refine⟨⟨e0.mod,S.kind,rfl,rfl,Nat.le_refl _,fun y z c h1 h2=>?_,fun y hy=>?_,fun y c _ h=>?_,fun _=>hd,Around.frames_deeper e0.frames,.inr ⟨rfl,rfl⟩,fun b z=>absurd z (noA b),e0.bs,e0.bsz,fun b _ _=>noA b,fun b z=>absurd z (noA b),e0.funs,e0.frf⟩,
  rfl,e0.bare,Un.kept hk,⟨_,x.toInCall.ns,fun i y v h1 h2 h3=>?_⟩,fun y c h=>⟨_,x.cell y c h⟩,e0.hok.fresh (Nat.le_refl _),fun y c h=>?_,fun p hp=>absurd (show p∈([]:List (Addr×Obj)) from hp) (by simp),e0.hok.kept hk,?_⟩
 ·exact name_of_addr x.apart (PySem.mem_of_lookup h1) (PySem.mem_of_lookup h2)
 ·have hy:scope.names.lookup y=some .cell\/scope.names.lookup y=some .free:=hy
  rcases hy with hy |hy
  ·exact rR hy
  ·exact absurd rfl (S.nofree _ (PySem.mem_of_lookup hy))
 ·exact Nat.le_of_lt (x.above y c (PySem.mem_of_lookup h))
 ·have hi:i < vs.length:=by
   unfold start at h2
   by_cases hi:i < vs.length
   ·exact hi
   ·rw[List.getElem?_append_right (by simpa using hi)] at h2
    rw[List.getElem?_replicate] at h2
    split at h2 <;> cases h2
  have ha:vs[i]? =some v:=by
   unfold start at h2
   rw[List.getElem?_append_left (by simpa using hi),List.getElem?_map] at h2
   cases e:vs[i]? with
   |none=>rw[e] at h2;cases h2
   |some a=>rw[e] at h2;cases h2;rfl
  obtain⟨u,hu,rv⟩:=r.get ha
  have hp:ps[i]? =some y:=by
   rw[<-S.pre,List.getElem?_take_of_lt (by omega)];exact h1
  have ndP:ps.Nodup:=by rw[<-S.pre];exact S.nd.sublist (List.take_sublist _ _)
  refine⟨u,rv,?_⟩
  rcases S.par y (List.mem_of_getElem? hp) with k |k
  ·exact .inl ⟨k,pf ndP hp hu k⟩
  ·obtain⟨c,e⟩:=rR (n:=s.heap.objs.size + 1) k
   refine .inr ⟨.inl k,c,e,?_⟩
   have q:=x.cell y c e
   rw[pE ndP hp hu (by show scope.names.lookup y≠_;rw[k];decide)] at q
   exact q
 ·exact e0.hok.fresh (Nat.le_of_lt (x.above y c (PySem.mem_of_lookup h)))
 ·unfold start
  show _=N.length
  rw[List.length_append,List.length_map,List.length_replicate]
  omega
theorem Cw {CX:wu}{P:Program}{w:World}{K:PySem.W.Frag}{mg:Str->Option Value}{base:Heap}{k:Nat}{f:Addr}{name qual:Str}{params:Arguments}{body:List Stmt}{scope:Scope}{dV kV doc pm cdv ct oc:Value}{an od:Option Addr}
  {osl:Array (Option Value)} {N ps:List Str} {sp:Sp} (lk:K.lookup f=some ⟨oc,od,.func (PySem.W.fnOf name qual params body scope dV kV doc pm an cdv ct),osl⟩) (hcd:PySem.W.codeIn K cdv qual=true) (S:aL N ps scope)
  (len:∀vs H Q E,sp vs H Q E->vs.length=ps.length)
  (hbody:∀(A:Around) (outer:List Env) (s:Shared) (H:Hp) (vs:List V) (Q:VK) (E:XK),eJ k (A.deeper (envOfC qual scope s.heap.objs.size f cdv))->sp vs H Q E->
   ∃t,o4 (jO CX P w K mg base N qual scope f cdv A outer s H E) body t/\t {nx:=fun _ H'=>Q .non H',rt:=Q} (start N vs) H) :
  fx P w K mg base CX (k + 1) f (PySem.W.fnOf name qual params body scope dV kV doc pm an cdv ct) ps sp:=by
 refine⟨len,fun A outer s H args us vs Q E hr e0 hb r hsp=>?_⟩
 have hl:=len _ _ _ _ hsp
 have KX:K.In s.heap:=e0.mod.kin.keeps fun b o e=>(e0.bs b o e).1
 have lim:s.heap.NoLimit:=e0.mod.nolimit.keeps fun b o e=>(e0.bs b o e).1
 have hkind:∀y∈ps.zip us,scope.names.lookup y.1=some .local\/(scope.names.lookup y.1=some .cell/\((cellsFrom (s.heap.objs.size + 1) scope.names []).lookup y.1).isSome=true):=fun⟨n,v⟩ hy=>by
  rcases S.par n (List.of_mem_zip hy).1 with q |q
  ·exact .inl q
  ·exact .inr ⟨q,PySem.W.cellsFrom_some _ _ _ (.inl q)⟩
 refine codeAny_call_function hr.depth (KX _ _ lk) rfl S.co S.gen rfl (PySem.W.codeRec_of KX hcd) (hb _ _ _ _ ?_)
 refine wpAny_newFunctionEnv_cells S.kind hkind fun env he s1 x=>?_
 subst he
 refine⟨lim.keeps x.toInCall.keep,codeAny_func ?_⟩
 obtain⟨t,ht,hq⟩:=hbody A outer s H vs Q E (hr.deeper _) hsp
 have I:Inv (jO CX P w K mg base N qual scope f cdv A outer s H E) [] (start N vs) H s1:=xg S hr.hd e0 hl r x
 refine wpAny_mono (ht [] s1 (start N vs) H _ I hq) (fun fl s' hs=>?_) fun e s' hs=>hs
 have fin:∀{σ':St} {H':Hp} {v:V} {u:Value},Inv (jO CX P w K mg base N qual scope f cdv A outer s H E) [] σ' H' s'->RelV v u->Q v H'->CE outer P w H s Q u s':=
  fun {σ' H' v u} J rv q=>⟨v,H',J.os,J.bare,J.base,J.hok,rv,q⟩
 cases fl with
 |ret u=>
  obtain⟨v,σ',H',J,rv,q⟩:=hs
  exact fin J rv q
 |next=>
  obtain⟨σ',H',J,q⟩:=hs
  exact fin (v:=V.non) (u:=Value.none) J rfl q
 |brk=>
  obtain⟨_,_,_,q⟩:=hs
  exact False.elim q
 |cont=>
  obtain⟨_,_,_,q⟩:=hs
  exact False.elim q
end L2
namespace L2
open PySem PySem.Spec PyProof.Rows
section
variable {X:Cx}{x:Str}{p pos:Pos}{e:Expr}{es:List Expr}{t:TA}{id T:String}{r:List V->Hp->VK->Prop}
def Hr (r:List V->Hp->VK->Prop)(t:TA):TE:=fun σ H Q=>t σ H fun vs H1=>r vs H1 Q
theorem ik (hc:cJ X (.builtin id) r)(hg:Gl X x)(hm:X.mg x=none)(hv:bootBuiltins x=some (.builtin id))(ha:PA X (e :: es) t)(hn:x≠"__name__":=by decide)(hdb:(x == ("__debug__":Str))=false:=by decide)
  (he:starEach (e :: es) X.env=(false,eval e X.env) :: starEach es X.env:=by rfl) (hpl:(backTo pos (starEach es X.env)).any (·.1)=false:=by rfl):PE X (.Call (.Name x p) (e :: es) [] pos) (Hr r t):=by
 intro pins s σ H Q I h
 refine wpAny_Call_Name_kw (mM I hg hm hv ?_ hn hdb)
 exact PyProof.Rows.callWith_builtin1 (b7 (ha pos pins s σ H _ I h) fun us s1 ⟨vs,H1,I1,r1,q1⟩=>hc pins s1 σ H1 vs us Q I1 r1 q1) he hpl
theorem fU (hc:cJ X (.type T) r)(hg:Gl X x)(hm:X.mg x=none)(hv:bootBuiltins x=some (.type T))(ha:PA X (e :: es) t)(hn:x≠"__name__":=by decide)(hdb:(x == ("__debug__":Str))=false:=by decide)
  (he:starEach (e :: es) X.env=(false,eval e X.env) :: starEach es X.env:=by rfl) (hpl:(backTo pos (starEach es X.env)).any (·.1)=false:=by rfl):PE X (.Call (.Name x p) (e :: es) [] pos) (Hr r t):=by
 intro pins s σ H Q I h
 refine wpAny_Call_Name_kw (mM I hg hm hv ?_ hn hdb)
 exact PyProof.Rows.callWith_type1 (b7 (ha pos pins s σ H _ I h) fun us s1 ⟨vs,H1,I1,r1,q1⟩=>hc pins s1 σ H1 vs us Q I1 r1 q1) he hpl
end
end L2
namespace HT
open PySem PyProof.Rows
section
open PySem.SeqAt
open PySem.AutoSeq1 (wpAny_loadPart')
open PySem.MeetsSeq PySem.MeetsSeq2 PySem.MeetsSeq3
end
section
variable {prog:Program}{w:World}{A:Around}{E:Value->Shared->Prop}{s:Shared}
def pd (n d:Nat):Option Int->Nat
 |none=>d
 |some v=>if v < 0 then (v + (n:Int)).toNat else min v.toNat n
theorem rN (n d:Nat):pd n d none=d:=rfl
theorem uZ (n d k:Nat):pd n d (some (k:Int))=min k n:=by
 show (if (k:Int) < 0 then ((k:Int) + (n:Int)).toNat else min (k:Int).toNat n)=min k n
 rw[if_neg (by omega),Int.toNat_natCast]
end
end HT
namespace L2
open PySem PySem.Spec PyProof.Rows
abbrev TO:=St->Hp->(Option Int->Hp->Prop)->Prop
def PO (X:Cx)(e:Option Expr)(t:TO):Prop:=
 ∀(pins:List (Addr×Obj)) (s:Shared) (σ:St) (H:Hp) (Q:Option Int->Hp->Prop),Inv X pins σ H s->t σ H Q->
  wpAny (model X.prog X.w) X.A (evalPart e X.env) (fun u s'=>∃o H',Inv X pins σ H' s'/\IsPart u o/\Q o H') X.xe s
def BU:TO:=fun _ H Q=>Q none H
def Fq (t:TE):TO:=fun σ H Q=>t σ H fun x H1=>∃i,x=.int i/\Q (some i) H1
theorem intsAre_of {ns:List Int}:∀{us:List Value},Vals (ns.map V.int) us->IntsAre us ns:=by
 induction ns with
 |nil=>intro us r;rw[List.map_nil] at r;cases r;exact .nil
 |cons n ns ih=>
  intro us r
  rw[List.map_cons] at r
  cases r with
  |cons r1 r2=>
   obtain⟨t,e⟩:=r1
   subst e
   exact .cons n t (ih r2)
section
variable {X:Cx}{e:Expr}{te:TE}{lo hi:Option Expr}{tl th:TO}{pos p2:Pos}
theorem Bc:PO X none BU:=by
 intro pins s σ H Q I h
 rw[evalPart_none]
 exact wpAny_pure ⟨none,H,I,.none,h⟩
theorem vg (h:PE X e te):PO X (some e) (Fq te):=by
 intro pins s σ H Q I hw
 rw[evalPart_some]
 refine b7 (h pins s σ H _ I hw) fun u s1 ⟨x,H1,I1,r1,q1⟩=>?_
 obtain⟨i,rfl,q⟩:=q1
 obtain⟨t,rfl⟩:=r1
 exact⟨some i,H1,I1,.int i t,q⟩
def Hv (X:Cx)(r:V->Option Int->Option Int->Hp->VK->Prop):Prop:=
 ∀(pins:List (Addr×Obj)) (s:Shared) (σ:St) (H:Hp) (x:V) (v vl vu:Value) (lo hi:Option Int) (sl:Addr) (Q:VK),Inv X pins σ H s->RelV x v->s.heap.IsSliceOf sl vl vu .none->IsPart vl lo->IsPart vu hi->r x lo hi H Q->
  ∃T id,typeLookup (.type T) "__getitem__"=pure (some (.builtin id))/\s.TypeIs v T/\wpAny (model X.prog X.w) X.A (getItem v (.ref sl)) (EP X pins σ Q) X.xe s
def HC (r:V->Option Int->Option Int->Hp->VK->Prop)(te:TE)(tl th:TO):TE:=fun σ H Q=>te σ H fun x H1=>tl σ H1 fun l H2=>th σ H2 fun u H3=>r x l u H3 Q
theorem Av {r:V->Option Int->Option Int->Hp->VK->Prop}(hr:Hv X r)(he:PE X e te)(hl:PO X lo tl)(hu:PO X hi th):PE X (.Subscript e (.Slice lo hi none p2) pos) (HC r te tl th):=by
 intro pins s σ H Q I h
 refine Subscript_ (b7 (he pins s σ H _ I h) fun v s1 ⟨x,H1,I1,r1,q1⟩=>?_)
 refine wpAny_Slice (b7 (hl pins s1 σ H1 _ I1 q1) fun vl s2 ⟨l,H2,I2,pl,q2⟩=>b7 (hu pins s2 σ H2 _ I2 q2) fun vu s3 ⟨u,H3,I3,pu,q3⟩=>?_)
 rw[evalPart_none]
 refine wpAny_pure ?_
 have I4:Inv X pins σ H3 {s3 with heap:=s3.heap.push {cls:=.type "slice",data:=.fields #[vl,vu,.none]}}:=I3.kept (t':=s3.toks) fun b ob q=>Heap.get?_push_of_some _ q
 obtain⟨T,id,hT,ht,hg⟩:=hr pins {s3 with heap:=s3.heap.push {cls:=.type "slice",data:=.fields #[vl,vu,.none]}} σ H3 x v vl vu l u s3.heap.objs.size Q I4 r1 (Heap.IsSliceOf.new ..) pl pu q3
 show wpAny (model X.prog X.w) X.A (subscriptTail e (.Slice lo hi none p2) v (.ref s3.heap.objs.size)) (EP X pins σ Q) X.xe {s3 with heap:=s3.heap.push {cls:=.type "slice",data:=.fields #[vl,vu,.none]}}
 exact tail_any (ops:=[.ref s3.heap.objs.size,v]) ht hT hg (by with_unfolding_all rfl)
def ud (xs:List V)(lo hi:Option Int):List V:=(xs.drop (HT.pd xs.length 0 lo)).take (HT.pd xs.length xs.length hi - HT.pd xs.length 0 lo)
theorem rG (xs:List V)(lo hi:Option Int):(ud xs lo hi).length<=xs.length:=by
 unfold ud
 rw[List.length_take,List.length_drop]
 omega
end
end L2
namespace L2
open PySem PySem.Spec PyProof.Rows
def sx (n:Nat)(i:Int):Option Nat:=if 0<=i then (if i < n then some i.toNat else none) else if -(n:Int)<=i then some (i + n).toNat else none
def jA {α:Type}(xs:List α)(i:Int):Option α:=(sx xs.length i).bind fun j=>xs[j]?
theorem vN {n:Nat}{i:Int}{j:Nat}(h:sx n i=some j):seqIndex? i n=some j/\j < n/\ -(n:Int)<=i/\i < n:=by
 unfold sx at h
 by_cases h0:0<=i
 ·rw[if_pos h0] at h
  by_cases h1:i < n
  ·rw[if_pos h1] at h
   have e:i.toNat=j:=Option.some.inj h
   exact⟨by rw[seqIndex_of h0 h1,e],by omega,by omega,h1⟩
  ·rw[if_neg h1] at h;cases h
 ·rw[if_neg h0] at h
  by_cases h1: -(n:Int)<=i
  ·rw[if_pos h1] at h
   have e:(i + n).toNat=j:=Option.some.inj h
   exact⟨by rw[seqIndex_neg (by omega) h1,e],by omega,h1,by omega⟩
  ·rw[if_neg h1] at h;cases h
theorem p6 {α:Type}{xs:List α}{i:Int}{v:α}(h:jA xs i=some v):∃j,seqIndex? i xs.length=some j/\xs[j]? =some v/\j < xs.length/\ -(xs.length:Int)<=i/\i < xs.length:=by
 unfold jA at h
 cases e:sx xs.length i with
 |none=>rw[e] at h;cases h
 |some j=>
  rw[e] at h
  obtain⟨h1,h2,h3,h4⟩:=vN e
  exact⟨j,h1,h,h2,h3,h4⟩
theorem i8 {α:Type}{xs:List α}{j:Nat}{v:α}(h:xs[j]? =some v):jA xs (j:Int)=some v:=by
 have hj:j < xs.length:=(List.getElem?_eq_some_iff.mp h).1
 have e:sx xs.length (j:Int)=some j:=by
  unfold sx
  rw[if_pos (by omega),if_pos (by omega)];simp
 unfold jA;rw[e];exact h
def vE (b:Expr):Prop:=∀o i,subscripted b false o i=operate [o,i] (getItem o i)
def yY (X:Cx)(r:R2):Prop:=
 ∀(value slice:Expr) (pins:List (Addr×Obj)) (s:Shared) (σ:St) (H:Hp) (x y:V) (v u:Value) (Q:VK),Inv X pins σ H s->RelV x v->RelV y u->r x y H Q->
  subscripted slice false v u=operate [v,u] (getItem v u)->wpAny (model X.prog X.w) X.A (subscriptTail value slice v u) (EP X pins σ Q) X.xe s
def HB (X:Cx)(id:String)(r:V->List V->Hp->VK->Prop):Prop:=
 ∀(pins:List (Addr×Obj)) (s:Shared) (σ:St) (H:Hp) (x:V) (xs:List V) (v:Value) (us:List Value) (Q:VK),Inv X pins σ H s->RelV x v->Vals xs us->r x xs H Q->
  wpAny (model X.prog X.w) X.A (call (.builtin id) (v :: us)) (EP X pins σ Q) X.xe s
section
variable {X:Cx}{a b:Expr}{ta tb:TE}{pos:Pos}
theorem yY.or {r r':R2}(h:yY X r)(h':yY X r'):yY X (fun x y H Q=>r x y H Q\/r' x y H Q):=by
 intro value slice pins s σ H x y v u Q I rx ry q hs
 rcases q with q |q
 ·exact h value slice pins s σ H x y v u Q I rx ry q hs
 ·exact h' value slice pins s σ H x y v u Q I rx ry q hs
theorem jU {r:R2}(hr:yY X r)(ha:PE X a ta)(hb:PE X b tb)(hs:vE b):PE X (.Subscript a b pos) (FL r ta tb):=by
 intro pins s σ H Q I h
 exact Subscript_ (DG ha hb I h fun v u s2 x y H2 I2 rx ry q=>hr a b pins s2 σ H2 x y v u Q I2 rx ry q (hs _ _))
def DJ (K:PySem.W.Frag):R2:=fun x y H Q=>∃p xs i v,x=.ref p/\y=.int i/\gu K H p xs/\jA xs i=some v/\Q v H
def E1 (K:PySem.W.Frag):R2:=fun x y H Q=>∃p xs i v,x=.ref p/\y=.int i/\fG K H p xs/\jA xs i=some v/\Q v H
def Fv:R2:=fun x y H Q=>∃z i c,x=.str z/\y=.int i/\z.length<=sizeLine/\jA z.cps.toList i=some c/\Q (.str ⟨#[c]⟩) H
theorem fO:yY X (DJ X.K):=by
 intro value slice pins s σ H x y v u Q I rx ry h hs
 obtain⟨p,xs,i,z,rfl,rfl,hq,he,q⟩:=h
 cases rx
 obtain⟨t,rfl⟩:=ry
 obtain⟨its,r,pl,hz⟩:=I.list hq
 obtain⟨j,h1,h2,h3,h4,h5⟩:=p6 he
 obtain⟨w,ew,rw'⟩:=r.get h2
 have hl:=r.length
 have hn:=lr
 have fin:EP X pins σ Q w s:=⟨z,H,I,rw',q⟩
 by_cases h0:0<=i
 ·have hj:i.toNat=j:=by
   rw[seqIndex_of h0 h5] at h1
   exact Option.some.inj h1
  exact item_listR pl.isList h0 (by omega) (by rw[hj];simpa using ew) fin hs
 ·have hj:(i + (its.toArray.size:Int)).toNat=j:=by
   rw[seqIndex_neg (by omega) h4] at h1
   rw[List.size_toArray,<-hl]
   exact Option.some.inj h1
  exact subscriptTail_builtinR (x:=w) pl.isList.typeIs slot_list_getitem.lookup
   (wpAny_getItem_list_neg (Q:=fun r s'=>r=w/\EP X pins σ Q r s') pl.isList (by omega) (by rw[List.size_toArray] <;> omega) (by omega) (by rw[hj];simpa using ew) ⟨rfl,fin⟩) hs
theorem CW:yY X (E1 X.K):=by
 intro value slice pins s σ H x y v u Q I rx ry h hs
 obtain⟨p,xs,i,z,rfl,rfl,hq,he,q⟩:=h
 cases rx
 obtain⟨t,rfl⟩:=ry
 obtain⟨its,r,pl,hz⟩:=I.tuple hq
 obtain⟨j,h1,h2,h3,h4,h5⟩:=p6 he
 obtain⟨w,ew,rw'⟩:=r.get h2
 have hl:=r.length
 have hn:=lr
 have fin:EP X pins σ Q w s:=⟨z,H,I,rw',q⟩
 exact subscriptTail_builtinR (x:=w) pl.typeIs slot_tuple_getitem.lookup
  (getItem_tuple (j:=j) (Q:=fun r s'=>r=w/\EP X pins σ Q r s') pl (by omega) (by omega) (by rw[List.size_toArray,<-hl];exact h1) (by simpa using ew) ⟨rfl,fin⟩) hs
theorem DD:yY X Fv:=by
 intro value slice pins s σ H x y v u Q I rx ry h hs
 obtain⟨z,i,c,rfl,rfl,hz,he,q⟩:=h
 obtain⟨t,rfl⟩:=rx
 obtain⟨t',rfl⟩:=ry
 obtain⟨j,h1,h2,h3,h4,h5⟩:=p6 he
 have hl:z.cps.toList.length=z.length:=by simp[Str.length]
 rw[hl] at h1 h4 h5
 have hn:=lr
 exact tail_any (typeIs_str s z t) slot_str_getitem.lookup (getItem_str (c:=c) (by
  have e1:decide (i < -(2 ^ 63:Int))=false:=decide_eq_false (by omega)
  have e2:decide (i>=2 ^ 63)=false:=decide_eq_false (by omega)
  rw[e1,e2,Bool.or_false]) (by rw[h1];simpa using h2) ⟨.str ⟨#[c]⟩,H,I.tok _,⟨_,rfl⟩,q⟩) hs
def Hi (K:PySem.W.Frag):R2:=fun x y H Q=>DJ K x y H Q\/E1 K x y H Q\/Fv x y H Q
theorem aO:yY X (Hi X.K):=fO.or (CW.or DD)
theorem uf (its:List Value)(n j:Nat)(u:Value):Obj.mapSeq (·.setIfInBounds j u) {cls:=.type "list",data:=.seq its.toArray n}={cls:=.type "list",data:=.seq (its.set j u).toArray n}:=by
 simp[Obj.mapSeq]
theorem Inv.lst {pins:List (Addr×Obj)}{σ:St}{H:Hp}{s:Shared}{p:Addr}{xs:List V}(I:Inv X pins σ H s)(h:H p=some (.lst xs)) :
  ∃(its:List Value) (n:Nat),Vals xs its/\s.heap.get? p=some {cls:=.type "list",data:=.seq its.toArray n}/\xs.length<=sizeLine:=by
 obtain⟨z,its,n,r,e⟩:=I.hok p _ h
 exact⟨its,n,r,e,z⟩
theorem Inv.lstUpd {pins:List (Addr×Obj)}{σ:St}{H:Hp}{s:Shared}{p:Addr}{xs ys:List V}{its its':List Value}{n n':Nat}{f:Obj->Obj}(I:Inv X pins σ H s)(h:H p=some (.lst xs))
  (ho:s.heap.get? p=some {cls:=.type "list",data:=.seq its.toArray n}) (hf:f {cls:=.type "list",data:=.seq its.toArray n}={cls:=.type "list",data:=.seq its'.toArray n'}) (r:Vals ys its') (hz:ys.length<=sizeLine) (t:Nat) :
  Inv X pins σ (upd H p (.lst ys)) {s with heap:=s.heap.update p f,toks:=t}:=by
 have e:(s.heap.update p f).get? p=some {cls:=.type "list",data:=.seq its'.toArray n'}:=by
  rw[Heap.get?_update_self f ho (by rw[hf] <;> rfl),hf]
 refine I.write (x:=p) (e:=p) (by rw[h];trivial) (.inl rfl) (fun b u hb q=>(Heap.get?_update_other _ _ (Ne.symm hb)).trans q) ⟨_,e⟩ ?_
 exact⟨hz,its',n',r,e⟩
def Ck:V->V->V->Hp->(Hp->Prop)->Prop:=fun o i v H Q=>∃p xs k j,o=.ref p/\i=.int k/\H p=some (.lst xs)/\sx xs.length k=some j/\Q (upd H p (.lst (xs.set j v)))
theorem set_list:pP X Ck:=by
 intro pins s σ H o i v ov iv u Q I ro ri rv h
 obtain⟨p,xs,k,j,rfl,rfl,hp,hj,q⟩:=h
 cases ro
 obtain⟨t,rfl⟩:=ri
 obtain⟨its,n,r,ho,hz⟩:=I.lst hp
 obtain⟨h1,h2,h3,h4⟩:=vN hj
 have hl:=r.length
 have hn:=lr
 have I':Inv X pins σ (upd H p (.lst (xs.set j v))) {s with heap:=s.heap.update p (Obj.mapSeq (·.setIfInBounds j u))}:=
  I.lstUpd hp ho (uf its n j u) (r.set rv j) (by rw[List.length_set];exact hz) s.toks
 by_cases h0:0<=k
 ·have hk:k.toNat=j:=by
   rw[seqIndex_of h0 h4] at h1
   exact Option.some.inj h1
  exact PySem.W.ki_setAt ho h0 (by omega) (by rw[List.size_toArray,<-hl];exact h4) (by rw[hk];exact⟨_,I',q⟩)
 ·have hk:(k + (its.toArray.size:Int)).toNat=j:=by
   rw[seqIndex_neg (by omega) h3] at h1
   rw[List.size_toArray,<-hl]
   exact Option.some.inj h1
  exact PySem.W.ki_setBack ho (by omega) (by rw[List.size_toArray,<-hl];exact h3) (by omega) (by rw[hk];exact⟨_,I',q⟩)
theorem qD (lo hi:Option Int)(n:Nat):(sliceBounds lo hi none n).1=((HT.pd n 0 lo:Nat):Int)/\(sliceBounds lo hi none n).2.1=((HT.pd n n hi:Nat):Int)/\(sliceBounds lo hi none n).2.2=1:=by
 refine⟨?_,?_,rfl⟩
 ·cases lo with
  |none=>simp[sliceBounds,HT.pd]
  |some i=>
   simp only[sliceBounds,HT.pd,Option.getD_none,show (1:Int) > 0 by decide,if_true]
   by_cases h:i < 0
   ·simp only[h,if_true] <;> omega
   ·simp only[h,if_false] <;> omega
 ·cases hi with
  |none=>simp[sliceBounds,HT.pd]
  |some i=>
   simp only[sliceBounds,HT.pd,Option.getD_none,show (1:Int) > 0 by decide,if_true]
   by_cases h:i < 0
   ·simp only[h,if_true] <;> omega
   ·simp only[h,if_false] <;> omega
theorem oF (its:List Value)(lo hi:Option Int):slicePick its.toArray lo hi none=((its.drop (HT.pd its.length 0 lo)).take (HT.pd its.length its.length hi - HT.pd its.length 0 lo)).toArray:=by
 obtain⟨h1,h2,h3⟩:=qD lo hi its.toArray.size
 unfold slicePick
 rw[h1,h2,h3]
 simp only[sliceRange_one,pick_run,List.size_toArray] <;> rfl
def Gb (K:PySem.W.Frag):V->Option Int->Option Int->Hp->VK->Prop:=fun x lo hi H Q=>∃a xs,x=.ref a/\gu K H a xs/\∀p,H p=none->Q (.ref p) (upd H p (.lst (ud xs lo hi)))
theorem Bi:Hv X (Gb X.K):=by
 intro pins s σ H x v vl vu lo hi sl Q I rx hs pl pu h
 obtain⟨a,xs,rfl,hx,q⟩:=h
 cases rx
 obtain⟨its,r,ht,hz⟩:=I.list hx
 have hlen:=r.length
 refine⟨"list",_,slot_list_getitem.lookup,ht.isList.typeIs,?_⟩
 refine wpAny_getItem_list_slice ht.isList hs pl pu .none (by simp) ?_ (by rw[List.size_toArray] <;> omega)
 rw[oF,<-hlen]
 refine⟨.ref s.heap.objs.size,_,I.laid (t':=s.toks) (o:=.lst (ud xs lo hi)) (fun b ob q=>Heap.get?_push_of_some _ q) (Nat.le_refl _) ?_,rfl,q _ (I.hok.fresh (Nat.le_refl _))⟩
 exact⟨Nat.le_trans (rG xs lo hi) hz,_,0,(r.drop (HT.pd xs.length 0 lo)).take (HT.pd xs.length xs.length hi - HT.pd xs.length 0 lo),Heap.get?_push_size _ rfl⟩
theorem kH:cJ X (.type "list") (fun xs H Q=>∃p ys,xs= [.ref p]/\(gu X.K H p ys\/fG X.K H p ys)/\∀l,H l=none->Q (.ref l) (upd H l (.lst ys))):=by
 intro pins s σ H xs us Q I r h
 obtain⟨p,ys,rfl,hq,q⟩:=h
 obtain⟨u,rfl,rx⟩:=vals1 r
 cases rx
 have fin:∀(its:List Value),Vals ys its->ys.length<=sizeLine->∀(h':Heap) (c':Nat),(∀b o',s.heap.get? b=some o'->h'.get? b=some o')->
   h'.get? s.heap.objs.size=some {cls:=.type "list",dict:=none,data:=.seq its.toArray c',slots:=#[]}->EP X pins σ Q (.ref s.heap.objs.size) {s with heap:=h'}:=fun its r' hz h' c' kp e=>
  ⟨.ref s.heap.objs.size,_,I.laid (t':=s.toks) kp (Nat.le_refl _) (show bH X.prog X.w _ h' _ (.lst ys) from⟨hz,its,c',r',e⟩),rfl,q _ (I.hok.fresh (Nat.le_refl _))⟩
 rcases hq with hq |hq
 ·obtain⟨its,r',pl,hz⟩:=I.list hq
  have hlen:=r'.length
  obtain⟨o,ho,hc,n,hd⟩:=pl.isList
  exact call_list_seq p (.inl rfl) ho hc hd (fun h' c' kp e=>fin its r' hz h' c' kp e) (by simp only[List.size_toArray] <;> omega)
 ·obtain⟨its,r',pl,hz⟩:=I.tuple hq
  have hlen:=r'.length
  obtain⟨o,ho,hc,n,hd⟩:=pl
  exact call_list_seq p (.inr rfl) ho hc hd (fun h' c' kp e=>fin its r' hz h' c' kp e) (by simp only[List.size_toArray] <;> omega)
theorem bp:cJ X (.type "tuple") (fun xs H Q=>∃p ys,xs= [.ref p]/\((gu X.K H p ys/\∀l,H l=none->Q (.ref l) (upd H l (.tup ys)))\/(fG X.K H p ys/\Q (.ref p) H))):=by
 intro pins s σ H xs us Q I r h
 obtain⟨p,ys,rfl,h⟩:=h
 obtain⟨u,rfl,rx⟩:=vals1 r
 cases rx
 rcases h with⟨hq,q⟩ | ⟨hq,q⟩
 ·obtain⟨its,r',pl,hz⟩:=I.list hq
  have hlen:=r'.length
  refine call_tuple_list pl.isList (fun h' kp=>?_) (by simp only[List.size_toArray] <;> omega)
  have I1:Inv X pins σ H {s with heap:=h'}:=I.kept (t':=s.toks) kp
  have I2:Inv X pins σ (upd H h'.objs.size (.tup ys)) {s with heap:=h'.push {cls:=.type "tuple",data:=.seq its.toArray}}:=
   I1.laid (t':=s.toks) (fun b o e=>Heap.get?_push_of_some _ e) (Nat.le_refl _) (show bH X.prog X.w _ _ _ (.tup ys) from⟨hz,its,r',uD.new _ _⟩)
  exact⟨.ref h'.objs.size,_,I2,rfl,q _ (I1.hok.fresh (Nat.le_refl _))⟩
 ·obtain⟨its,r',pl,hz⟩:=I.tuple hq
  exact call_tuple_same pl ⟨.ref p,H,I,rfl,q⟩
def Hq (K:PySem.W.Frag)(T:String)(x:V)(H:Hp):Prop:=match x with
 | .str _=>T="str"
 | .int _=>T="int"
 | .ref p=>(T="list"/\∃xs,gu K H p xs)\/(T="tuple"/\∃o,K.lookup p=some o/\o.cls=.type "tuple"/\o.dict=none)\/
   (T="dict"/\((∃kvs,H p=some (.dK kvs))\/∃kvs,H p=some (.dT kvs)))\/(T="set"/\∃S n,H p=some (.set S n))
 |_=>False
theorem CU {pins:List (Addr×Obj)}{σ:St}{H:Hp}{s:Shared}{T:String}{x:V}{v:Value}(I:Inv X pins σ H s)(r:RelV x v)(ty:Hq X.K T x H) :
  s.TypeIs v T/\∀a,v=.ref a->∃ob,s.heap.get? a=some ob/\ob.dict=none:=by
 cases x with
 |str z=>
  obtain⟨t,rfl⟩:=r
  cases (show T="str" from ty)
  exact⟨typeIs_str s z t,fun _ e=>nomatch e⟩
 |int i=>
  obtain⟨t,rfl⟩:=r
  cases (show T="int" from ty)
  exact⟨typeIs_int s i t,fun _ e=>nomatch e⟩
 |ref p=>
  cases r
  rcases ty with⟨rfl,xs,hq⟩ | ⟨rfl,o,hk,hc,hd⟩ | ⟨rfl,hk⟩ | ⟨rfl,S,n,hk⟩
  ·obtain⟨its,_,pl,_⟩:=I.list hq
   refine⟨pl.isList.typeIs,fun a e=>?_⟩
   cases e
   obtain⟨o,n,e,c,hd,_⟩:=pl
   exact⟨o,e,hd⟩
  ·refine⟨⟨o,I.kIn p o hk,hc⟩,fun a e=>?_⟩
   cases e
   exact⟨o,I.kIn _ o hk,hd⟩
  ·have z:∃o,s.heap.get? p=some o/\o.ExactDict:=by
    rcases hk with⟨kvs,hk⟩ | ⟨kvs,hk⟩
    ·obtain⟨_,_,_,_,o,_,_,e,ex,_⟩:=I.hok p _ hk
     exact⟨o,e,ex⟩
    ·obtain⟨_,_,_,_,o,_,_,e,ex,_⟩:=I.hok p _ hk
     exact⟨o,e,ex⟩
   obtain⟨o,e,ex⟩:=z
   refine⟨⟨o,e,ex.1⟩,fun a e2=>?_⟩
   cases e2
   exact⟨o,e,ex.2.1⟩
  ·obtain⟨o,_,_,_,e,ex,_⟩:=I.hok p _ hk
   refine⟨⟨o,e,ex.1⟩,fun a e2=>?_⟩
   cases e2
   exact⟨o,e,ex.2.1⟩
 |_=>exact False.elim ty
def Hz (K:PySem.W.Frag)(T:String)(r:V->List V->Hp->VK->Prop)(to:TE)(t:TA):TE:=fun σ H Q=>to σ H fun x H1=>Hq K T x H1/\t σ H1 fun xs H2=>r x xs H2 Q
variable {o e:Expr}{es:List Expr}{to:TE}{t:TA}{name:Str}{apos cpos:Pos}{T id:String}{r:V->List V->Hp->VK->Prop}
theorem zD (pa:PlainAttrs T)(slot:Slot T name id)(hty:typeOf (.builtin id)=pure (.type "method_descriptor"))(hm:HB X id r)(ho:PE X o to)(ha:PA X (e :: es) t)
  (hbase:attributeBase o name X.env (eval o X.env)=eval o X.env:=by rfl)
  (hfew:((backTo cpos (starEach (e :: es) X.env)).all (fun x=> !x.1) && (backToKw cpos (keywordEach [] X.env)).all (fun x=>x.1.isSome)
   && decide ((e :: es).length + ([]:List Keyword).length + (if ([]:List Keyword).isEmpty then 0 else 1) < 30))=true:=by rfl)
  (hline:(apos.endLine == cpos.line)=true:=by rfl) (hs:starEach (e :: es) X.env=(false,eval e X.env) :: starEach es X.env:=by rfl) (hplain:(backTo cpos (starEach es X.env)).any (·.1)=false:=by rfl) :
  PE X (.Call (.Attribute o name apos) (e :: es) [] cpos) (Hz X.K T r to t):=by
 intro pins s σ H Q I h
 refine wpAny_Call_method_late hbase hfew hline rfl (b7 (ho pins s σ H _ I h) fun v s1 ⟨x,H1,I1,r1,ty,q1⟩=>?_)
 obtain⟨h1,h2⟩:=CU I1 r1 ty
 refine⟨T,id,pa,slot,hty,h1,h2,?_⟩
 have hA:=ha cpos pins s1 σ H1 _ I1 q1
 rw[hs] at hA ⊢
 refine Calls.callWith_builtin (by show (false || (backTo cpos (starEach es X.env)).any (·.1))=false;rw[hplain] <;> rfl) (Calls.evalArgs_plain ?_)
 exact b7 hA fun us s2 ⟨vs,H2,I2,r2,q2⟩=>hm pins s2 σ H2 x vs v us Q I2 r1 r2 q2
end
end L2
namespace L2
open PySem PySem.Spec PyProof.Rows
def FK (X:Cx)(id:String)(r:V->List V->Hp->VK->Prop):Prop:=
 ∀(pins:List (Addr×Obj)) (s:Shared) (σ:St) (H:Hp) (x:V) (xs:List V) (v:Value) (us:List Value) (Q:VK),Inv X pins σ H s->RelV x v->Vals xs us->r x xs H Q->
  wpAny (model X.prog X.w) X.A (call (.builtin id) (v :: us)) (EP X pins σ Q) X.xe s
theorem Vals.one:∀{x:V} {us:List Value},Vals [x] us->∃u,us= [u]/\RelV x u
 |_,_,.cons r .nil=>⟨_,rfl,r⟩
theorem Vals.eraseIdx:∀{xs:List V} {us:List Value} (i:Nat),Vals xs us->Vals (xs.eraseIdx i) (us.eraseIdx i)
 |_,_,_,.nil=>.nil
 |_,_,0,.cons _ t=>t
 |_,_,i + 1,.cons r t=>.cons r (Vals.eraseIdx i t)
theorem Vals.reverse {xs:List V}{us:List Value}(h:Vals xs us):Vals xs.reverse us.reverse:=by
 induction h with
 |nil=>exact .nil
 |cons r t ih=>rw[List.reverse_cons,List.reverse_cons];exact Vals.append ih (.cons r .nil)
theorem Vals.rep {xs:List V}{us:List Value}(h:Vals xs us):∀k:Nat,Vals (List.replicate k xs).flatten (List.replicate k us).flatten
 | 0=>.nil
 |k + 1=>by
  rw[List.replicate_succ,List.replicate_succ,List.flatten_cons,List.flatten_cons]
  exact Vals.append h (Vals.rep h k)
theorem oK {α:Type}:∀(l:List α) (i:Nat),(l.eraseIdx i).length<=l.length
 | [],_=>Nat.le_refl _
 |_ :: _,0=>Nat.le_succ _
 |_ :: r,i + 1=>Nat.succ_le_succ (oK r i)
theorem foldl_rep (its:List Value):∀(k:Nat) (acc:List Value),
  List.foldl (fun x1 x2=>x1 ++ x2) acc.toArray (List.replicate k its.toArray)=(acc ++ (List.replicate k its).flatten).toArray
 | 0,acc=>by simp
 |k + 1,acc=>by
  have e:acc.toArray ++ its.toArray=(acc ++ its).toArray:=by simp
  have e2:(acc ++ its) ++ (List.replicate k its).flatten=acc ++ (List.replicate (k + 1) its).flatten:=by
   rw[List.replicate_succ,List.flatten_cons,List.append_assoc]
  rw[<-e2,<-foldl_rep its k (acc ++ its),<-e,List.replicate_succ,List.foldl_cons]
section
variable {X:Cx}{pins:List (Addr×Obj)}{σ:St}{H:Hp}{s:Shared}{l b:Addr}{xs ys zs:List V}
theorem Inv.lset {its its':List Value}{n:Nat}{f:Array Value->Array Value}{t':Nat}(I:Inv X pins σ H s)(hH:H l=some (.lst xs))
  (e:s.heap.get? l=some {cls:=.type "list",data:=.seq its.toArray n}) (hf:f its.toArray=its'.toArray) (hv:Vals ys its') (hz:ys.length<=sizeLine) :
  Inv X pins σ (upd H l (.lst ys)) {s with heap:=s.heap.update l (Obj.mapSeq f),toks:=t'}:=by
 have q:=PySem.IsL.update e f
 rw[hf] at q
 refine I.write (x:=l) (e:=l) (by rw[hH];exact trivial) (.inl rfl) (fun b' u hb hu=>(Heap.get?_update_other s.heap (Obj.mapSeq f) (Ne.symm hb)).trans hu) ⟨_,q⟩ ?_
 exact⟨hz,its',_,hv,q⟩
theorem Inv.lnew {its:List Value}{t':Nat}(I:Inv X pins σ H s)(hv:Vals ys its)(hz:ys.length<=sizeLine) :
  Inv X pins σ (upd H s.heap.objs.size (.lst ys)) {s with heap:=s.heap.push {cls:=.type "list",data:=.seq its.toArray},toks:=t'}:=
 I.laid (fun _ _ q=>Heap.get?_push_of_some _ q) (Nat.le_refl _) ⟨hz,its,0,hv,Heap.get?_push_size _ rfl⟩
theorem Inv.fresh (I:Inv X pins σ H s):H s.heap.objs.size=none:=I.hok.fresh (Nat.le_refl _)
theorem Inv.lstM (I:Inv X pins σ H s)(hH:H l=some (.lst xs)):xs.length<=sizeLine/\∃(its:List Value) (n:Nat),Vals xs its/\xs.length=its.length/\s.heap.get? l=some {cls:=.type "list",data:=.seq its.toArray n}:=by
 obtain⟨z,its,n,r,e⟩:=I.hok l _ hH
 exact⟨z,its,n,r,r.length,e⟩
theorem z7 {n:Nat}(h:n<=sizeLine):Builtin.List.listTooLong n=false:=by
 unfold Builtin.List.listTooLong
 exact decide_eq_false (by omega)
end
section
variable {X:Cx}
def Cb:V->List V->Hp->VK->Prop:=fun x vs H Q=>∃l xs y,x=.ref l/\vs= [y]/\H l=some (.lst xs)/\xs.length < sizeLine/\Q .non (upd H l (.lst (xs ++ [y])))
theorem lx:FK X "list.append" Cb:=by
 intro pins s σ H x vs v us Q I rx rv h
 obtain⟨l,xs,y,rfl,rfl,hH,hz,q⟩:=h
 cases rx
 obtain⟨u,rfl,ru⟩:=rv.one
 obtain⟨z,its,n,r,hl,e⟩:=I.lstM hH
 refine call_meets F.slot_list_append ⟨_,e,rfl⟩ F.entry_list_append (F.args_list_append_2 _ _) (PySem.list_append l its.toArray n u (by rw[List.size_toArray];omega)) ⟨e,?_⟩
 refine⟨.non,_,I.lset (its':=its ++ [u]) hH e (by simp) (r.append (.cons ru .nil)) ?_,rfl,q⟩
 rw[List.length_append,List.length_singleton]
 omega
def DR:V->List V->Hp->VK->Prop:=fun x vs H Q=>∃l xs i k y,x=.ref l/\vs= [.int i]/\H l=some (.lst xs)/\ -(2 ^ 63)<=i/\i < 2 ^ 63/\seqIndex? i xs.length=some k/\xs[k]? =some y/\Q y (upd H l (.lst (xs.eraseIdx k)))
theorem yu:FK X "list.pop" DR:=by
 intro pins s σ H x vs v us Q I rx rv h
 obtain⟨l,xs,i,k,y,rfl,rfl,hH,h1,h2,hk,hy,q⟩:=h
 cases rx
 obtain⟨u,rfl,ru⟩:=rv.one
 obtain⟨t,rfl⟩:=ru
 obtain⟨z,its,n,r,hl,e⟩:=I.lstM hH
 obtain⟨w,hw,rw'⟩:=r.get hy
 refine call_meets F.slot_list_pop ⟨_,e,rfl⟩ F.entry_list_pop (F.args_list_pop_2 _ _)
  (MeetsSeq.list_pop_at l its.toArray n i t k w (fitsIndex_both h1 h2) (by rw[List.size_toArray,<-hl];exact hk) (by rw[<-Array.getElem?_toList];exact hw) (by rw[List.size_toArray];omega)) ⟨e,?_⟩
 refine⟨y,_,I.lset (its':=its.eraseIdx k) hH e ?_ (r.eraseIdx k) ?_,rw',q⟩
 ·show its.toArray.eraseIdxIfInBounds k=(its.eraseIdx k).toArray
  rw[List.eraseIdxIfInBounds_toArray]
 ·have:=oK xs k
  omega
def Gi:R2:=fun x y H Q=>∃l k xs,x=.ref l/\y=.int k/\H l=some (.lst xs)/\ -(2 ^ 63)<=k/\k < 2 ^ 63/\xs.length * k.toNat<=sizeLine/\
 ∀p,H p=none->Q (.ref p) (upd H p (.lst (List.replicate k.toNat xs).flatten))
theorem len_rep {α:Type}(xs:List α)(k:Nat):(List.replicate k xs).flatten.length=k * xs.length:=by
 induction k with
 |zero=>simp
 |succ k ih=>rw[List.replicate_succ,List.flatten_cons,List.length_append,ih,Nat.succ_mul,Nat.add_comm]
theorem Ed:lF X (binaryOp .Mult) Gi:=by
 intro pins s σ H x y v u Q I rx ry h
 obtain⟨l,k,xs,rfl,rfl,hH,h1,h2,hz,q⟩:=h
 cases rx
 obtain⟨t,rfl⟩:=ry
 obtain⟨z,its,n,r,hl,e⟩:=I.lstM hH
 have hlen:its.toArray.size * k.toNat<=sizeLine:=by rw[List.size_toArray,<-hl];exact hz
 have hcap:¬its.toArray.size * k.toNat > (2 ^ 63 - 1) / 8:=by
  have:(sizeLine:Nat)<=(2 ^ 63 - 1) / 8:=by decide
  omega
 have hfit:¬(!Builtin.List.listFitsIndex k)=true:=by
  rw[fitsIndex_both h1 h2]
  exact Bool.false_ne_true
 have hlong:¬Builtin.List.listTooLong (its.toArray.size * k.toNat)=true:=by
  rw[z7 hlen]
  exact Bool.false_ne_true
 have hnew:List.foldl (fun x1 x2=>x1 ++ x2) #[] (List.replicate (if its.toArray.isEmpty=true then 0 else k.toNat) its.toArray)=(List.replicate k.toNat its).flatten.toArray:=by
  have f0:∀m:Nat,List.foldl (fun x1 x2=>x1 ++ x2) #[] (List.replicate m its.toArray)=(List.replicate m its).flatten.toArray:=fun m=>by
   have:=foldl_rep its m []
   rw[List.nil_append] at this
   exact this
  rw[f0]
  cases its with
  |nil=>simp
  |cons a r'=>rw[if_neg (by simp)]
 refine wpAny_binaryOp_repeat_ref (T:="list") (U:="int") (by decide) ⟨_,e,rfl⟩ (fun s'=>typeIs_int s' k t) noFill_list_mul F.fills_int_mul F.slot_int_rmul repeat_list F.slot_int_index.lookup
  (call_meets F.slot_int_rmul (typeIs_int s k t) F.entry_int_rmul (F.args_int_rmul_2 _ _) (int___rmul___int_list k t l its.toArray n)
   ⟨e,rfl,⟨_,e,rfl⟩,call_meets F.slot_list_mul ⟨_,e,rfl⟩ F.entry_list_mul (F.args_list_mul_2 _ _) (AutoListH.list___mul___list_int_3 l its.toArray n k t hfit hcap hlong) ⟨e,?_⟩⟩)
 rw[hnew]
 exact⟨.ref _,_,I.lnew (t':=s.toks) (r.rep k.toNat) (by rw[len_rep,Nat.mul_comm];exact hz),rfl,q _ I.fresh⟩
end
end L2
namespace Att
open PySem PySem.W PySem.Calls PyProof.Rows
theorem l8 {P:Params}{h:Heap}:∀(ns:List Int) (vs:List Value),WellAll P h vs (ns.map WData.int)->IntsAre vs ns:=by
 intro ns
 induction ns with
 |nil=>
  intro vs w
  rw[List.map_nil] at w
  cases w
  exact .nil
 |cons n ns ih=>
  intro vs w
  rw[List.map_cons] at w
  cases w with
  |cons a b=>
   cases a
   exact .cons _ _ (ih _ b)
theorem wO {l:OpenLaw}{n:Nat}(hn:l.most=some n){P:Params}{h:Heap}{args:List WData}{vals:List Value}
  (hpre:l.row.toRowW.claim.pre args=true) (hwl:WellAll P h vals args) :
  ∃a vs ns,vals= [Value.ref a]/\args= [WData.list (ns.map WData.int)]/\h.get? a=some {cls:=.type "list",data:=.seq vs.toArray}/\IntsAre vs ns/\ns.length<=n:=by
 have hsh:WShape.hasAll [] args [.list .int]=true:=(pre_splitW hpre).1
 have hc:l.pre.holds [] {args:=args}=true:=(pre_splitW hpre).2
 obtain⟨d,r,rfl,h1,h2⟩:=hasAllW_cons hsh
 obtain rfl:=hasAllW_nil h2
 obtain⟨xs,rfl,h3⟩:=hasW_list h1
 obtain⟨ns,rfl⟩:=items_int h3
 have hlen:ns.length<=n:=by
  unfold OpenLaw.pre at hc
  have h4:(WTm.not (.lt (.lit (.int (n:Int))) (.len (.arg 0)))).holds [] {args:=[.list (ns.map .int)]}=true:=by
   have h4:=(holds_andW hc).1
   rw[hn] at h4
   exact h4
  have h5:=condW_of h4 (w_not (w_lt w_lit (w_len_list (w_arg rfl))))
  rw[List.length_map] at h5
  refine Nat.le_of_not_lt fun q=>?_
  have q':(n:Int) < ((ns.length:Nat):Int):=by omega
  first
   | (rw[decide_eq_true q'] at h5;exact absurd h5 (by decide))
   | (simp at h5;omega)
 cases hwl with
 |cons w1 w2=>
  cases w2
  cases w1 with
  |list ho hall=>exact⟨_,_,ns,rfl,rfl,ho,l8 ns _ hall,hlen⟩
theorem wV (l:OpenLaw)(args:List WData):l.row.toRowW.claim.post args (.bool true) args=true:=
 postW_of (r:=l.row.toRowW) (X:=(true == true))
  (show WShape.has [] (.bool true) .bool=true by first |rfl |decide |simp[WShape.has,WShape.arms,WShape.armsAll])
  (show (WTm.eq .res (.lit (.bool true))).value [] {args:=args,res:=some (.bool true),after:=args}=some (.bool (true == true)) from w_eq_bool (w_res rfl) w_lit) rfl
theorem se {l:OpenLaw}{n:Nat}{q:Program}{loose:List Str}{XP:(Str->Option Value)->Heap->Prop}{YP:World->Heap->Prop}{d:DefRec}
  (hn:l.most=some n) (hdf:d.params.defaults= [])
  (call:∀(w:World) (s₀ s₁:Shared) (mg mb:Str->Option Value) (fa:Addr) (o:Obj) (pm cd doc:Value) (a:Addr) (vs:List Value) (ns:List Int),
   Ground q loose [] XP w s₀ mg mb s₁.heap->YP w s₁.heap->
   s₁.heap.get? fa=some o->o.data=.func (docDef d.name d.params d.body d.scope pm cd doc)->s₁.heap.CodeRec cd d.name->mg d.name=some (.ref fa)->
   s₁.heap.get? a=some {cls:=.type "list",data:=.seq vs.toArray}->IntsAre vs ns->ns.length<=n->s₁.gens=#[]->
   codeAny (model l.prog w) callerA (.call (.ref fa) ⟨[.ref a],[]⟩) (fun r s'=>r=.ok (.ret (.bool true))/\OldK s₁.heap s'.heap/\s'.os=s₁.os/\AllBare s'.gens) s₁) :
  WalkO q loose XP YP l.row.toRowW d [] (fun f vs=>PySem.call f vs):=by
 intro w s₀ s₁ mg mb G Y fa o pm cd doc dV kV ho hd hcd hD hmg hg args vals as hpre hlay hrd hwl hlo
 obtain rfl:dV=.none:=Dflts.none hD hdf
 obtain rfl:kV=.none:=Dflts.noKw hD
 obtain⟨a,vs,ns,rfl,rfl,hobj,hints,hlen⟩:=wO hn hpre hwl
 refine enter_call (codeAny_mono (call w s₀ s₁ mg mb fa o pm cd doc a vs ns G Y ho (fd_plain hd) hcd hmg hobj hints hlen hg) fun r s' hq=>?_)
 obtain⟨rfl,h2,h3,h4⟩:=hq
 exact⟨.inl ⟨.bool true,.bool true,[],rfl,fun _=>rfl,.bool true,wV l _,fun _=>⟨List.Pairwise.nil,fun _ hm=>(nomatch hm)⟩⟩,h2,h3,h4⟩
end Att
namespace L2
open PySem PySem.Spec PyProof.Rows
theorem pb:∀{vs:List Value} {ns:List Int},IntsAre vs ns->Vals (ns.map V.int) vs
 |_,_,.nil=>.nil
 |_,_,.cons n t h=>.cons ⟨t,rfl⟩ (pb h)
def DB (H:Hp):Prop:=∀b,H b=none\/∃o xs,H b=some (.a7 o (.lst xs))
theorem zW {P:Program}{w:World}{K:PySem.W.Frag}{mg mb:Str->Option Value}{CX:wu}{k:Nat}{fa a:Addr}{fd:FuncData}{x:Str}{sp:Sp}{s₁:Shared}{vs:List Value}{ns:List Int}
  (KX:K.In s₁.heap) (hns:s₁.heap.Ns mainGlobals mg) (hb:s₁.heap.Ns builtinsNs mb) (hbb:∀x:Str,x≠"__name__"->mb x=bootBuiltins x) (hlim:s₁.heap.NoLimit) (hsys:∃mm,s₁.heap.Ns sysModules mm) (hg:s₁.gens=#[])
  (ha:s₁.heap.get? a=some {cls:=.type "list",data:=.seq vs.toArray}) (hi:IntsAre vs ns) (hl:ns.length<=sizeLine) (hr:eJ k callerA)
  (F:∀base:Heap,K.In base->base.Ns mainGlobals mg->fx P w K mg base CX k fa fd [x] sp) (hbind:∀(s:Shared) (u:Value),BindsTo s fd ⟨[u],[]⟩ [(x,u)])
  (hsp:∀H:Hp,DB H->gu K H a (ns.map V.int)->sp [.ref a] H (fun v _=>v=.bl true) fun _ _ _=>False)
  (hCX:∀H e s',CX [] H s₁ (fun _ _ _=>False) e s'->False) :
  codeAny (model P w) callerA (.call (.ref fa) ⟨[.ref a],[]⟩) (fun r s'=>r=.ok (.ret (.bool true))/\OldK s₁.heap s'.heap/\s'.os=s₁.os/\AllBare s'.gens) s₁:=by
 have rv:=pb hi
 have lenV:=hi.length
 have core:∀H:Hp,DB H->gu K H a (ns.map V.int)->jG P w H s₁.heap->(∀b,H b≠none->b=a)->(H a≠none->K.lookup a=none)->
   codeAny (model P w) callerA (.call (.ref fa) ⟨[.ref a],[]⟩) (fun r s'=>r=.ok (.ret (.bool true))/\OldK s₁.heap s'.heap/\s'.os=s₁.os/\AllBare s'.gens) s₁:=by
  intro H hO hS hok hA hK
  have base_of:∀{b:Addr} {o:Obj},s₁.heap.get? b=some o->H b=none->(pR s₁.heap H).get? b=some o:=fun e n=>Ao e n
  have noA:∀{b:Addr} {o:Obj} {es:Array DictEntry} {ep:Nat},s₁.heap.get? b=some o->o.data=.dict es ep->H b=none:=fun {b o es ep} e d=>by
   cases q:H b with
   |none=>rfl
   |some u=>
    have e':b=a:=hA b (by rw[q];simp)
    subst e'
    rw[ha] at e;cases e
    have d':Data.seq vs.toArray _=Data.dict es ep:=d
    cases d'
  have nsK:∀{b:Addr} {m:Str->Option Value},s₁.heap.Ns b m->(pR s₁.heap H).Ns b m:=fun {b m} ⟨o,es,ep,e,d,r⟩=>⟨o,es,ep,base_of e (noA e d),d,r⟩
  have hKb:K.In (pR s₁.heap H):=fun b o e=>base_of (KX b o e) (by
   cases q:H b with
   |none=>rfl
   |some u=>
    have e':b=a:=hA b (by rw[q];simp)
    subst e'
    rw[hK (by rw[q];simp)] at e;cases e)
  have hM:Mod K mg (pR s₁.heap H):=⟨hKb,nsK hns,⟨mb,nsK hb,hbb⟩,let ⟨mc,h1,h2⟩:=hlim;⟨mc,nsK h1,h2⟩,let ⟨mm,h1⟩:=hsys;⟨mm,nsK h1⟩⟩
  have e0:Bv P w K mg (pR s₁.heap H) callerA [] s₁ H:=⟨rfl,hM,fun b o e=>Bm e,Nat.le_of_eq (xF _ _),trivial,fun b hb=>absurd (show b∈([]:List Addr) from hb) (by simp),hok,.of_eq hg⟩
  refine codeAny_mono ((F _ hKb (nsK hns)).run callerA [] s₁ H ⟨[.ref a],[]⟩ [.ref a] [.ref a] _ _ hr e0 (hbind s₁ (.ref a)) (.cons rfl .nil) (hsp H hO hS)) fun r s' h=>?_
  cases r with
  |error e=>exact (hCX H e s' h).elim
  |ok fl=>
   cases fl with
   |next=>exact False.elim h
   |brk=>exact False.elim h
   |cont=>exact False.elim h
   |ret u=>
    obtain⟨v,H',os,bare,un,hok',r',q⟩:=h
    have q':v=.bl true:=q
    subst q'
    obtain rfl:u=Value.bool true:=r'
    refine⟨rfl,OldK.of_keep fun b o e=>?_,os,bare⟩
    cases q:H b with
    |none=>exact un.keep b o e q (by intro z;exact absurd (show b∈([]:List Addr) from z) (by simp)) (by simp)
    |some u=>
     rcases hO b with z | ⟨ob,xs,z⟩
     ·rw[q] at z;cases z
     ·have z2:=un.frzs b ob _ z
      obtain⟨e1,_⟩:=hok b _ z
      obtain⟨e2,_⟩:=hok' b _ z2
      rw[e] at e1;cases e1
      exact e2
 cases hk:K.lookup a with
 |some o=>
  have e:=KX a o hk
  rw[ha] at e
  cases e
  refine core (fun _=>none) (fun _=>.inl rfl) (.inr ⟨_,vs.toArray,_,hk,rfl,rfl,rfl,by rw[List.size_toArray,lenV];exact hl,by simpa using rv⟩) (fun b u z=>by have z':(none:Option HO)=some u:=z;cases z') (fun b z=>absurd rfl z) fun z=>absurd rfl z
 |none=>
  refine core (fun b=>if b=a then some (.a7 {cls:=.type "list",data:=.seq vs.toArray} (.lst (ns.map V.int))) else none) (fun b=>?_) (.inl (.inr ⟨{cls:=.type "list",data:=.seq vs.toArray},if_pos rfl⟩)) (fun b u z=>?_) (fun b z=>?_) fun _=>hk
  ·by_cases hb:b=a
   ·exact .inr ⟨_,_,if_pos hb⟩
   ·exact .inl (if_neg hb)
  ·by_cases hb:b=a
   ·have z':=(if_pos hb).symm.trans z
    cases z'
    subst hb
    exact⟨ha,by rw[List.length_map];exact hl,vs,_,rv,ha⟩
   ·have z':=(if_neg hb).symm.trans z
    cases z'
  ·by_cases hb:b=a
   ·exact hb
   ·exact absurd (if_neg hb) z
end L2
namespace L2
open PySem PySem.Spec PyProof.Rows
theorem BS {l:PySem.W.OpenLaw}{n k:Nat}{q:Program}{loose:List Str}{XP:(Str->Option Value)->Heap->Prop}{YP:World->Heap->Prop}{d:DefRec}{K:Params->PySem.W.Frag}{CX:World->wu}{sp:World->Sp}{x:Str}
  (hn:l.most=some n) (hn2:n<=sizeLine) (hdf:d.params.defaults= []) (hi:PyProof.Rows.importsNone q=true) (hr:eJ k callerA)
  (hY:∀(w:World) (h:Heap),YP w h->(K w.params).In h)
  (F:∀(w:World) (mg:Str->Option Value) (fa:Addr) (h:Heap),(K w.params).In h->h.Ns mainGlobals mg->mg d.name=some (.ref fa)->
   ∃fd:FuncData,(∀(s:Shared) (u:Value),BindsTo s fd ⟨[u],[]⟩ [(x,u)])/\
    ∀base:Heap,(K w.params).In base->base.Ns mainGlobals mg->fx l.prog w (K w.params) mg base (CX w) k fa fd [x] (sp w))
  (hsp:∀(w:World) (H:Hp) (a:Addr) (ns:List Int),ns.length<=n->DB H->gu (K w.params) H a (ns.map V.int)->sp w [.ref a] H (fun v _=>v=.bl true) fun _ _ _=>False)
  (hCX:∀(w:World) (H:Hp) (s:Shared) (e:Value) (s':Shared),CX w [] H s (fun _ _ _=>False) e s'->False) :
  PySem.W.WalkO q loose XP YP l.row.toRowW d [] (fun f vs=>PySem.call f vs):=by
 refine Att.se hn hdf fun w s₀ s₁ mg mb fa o pm cd doc a vs ns G Y ho hd hcd hmg hobj hints hlen hg=>?_
 have KX:=hY w _ Y
 obtain⟨fd,hb,hF⟩:=F w mg fa _ KX G.T.g hmg
 exact zW KX G.T.g G.T.b G.T.builtins G.T.nolimit (let ⟨mm,h1,_⟩:=(G.T.seer hi).mods;⟨mm,h1⟩) hg hobj hints (Nat.le_trans hlen hn2) hr hF hb (fun H hO hS=>hsp w H a ns hlen hO hS) fun H e s'=>hCX w H s₁ e s'
end L2
namespace L2
open PySem PySem.Spec PyProof.Rows
def gK (s:Stmt):Arguments:=match s with
 | .FunctionDef _ a _ _ _ _ _ _ _ _=>a
 |_=>{posonlyargs:=[],args:=[],vararg:=none,kwonlyargs:=[],kw_defaults:=[],kwarg:=none,defaults:=[]}
def cL (s:Stmt):List Stmt:=match s with
 | .FunctionDef _ _ b _ _ _ _ _ _ _=>b
 |_=>[]
def ax (s:Stmt):Scope:=match s with
 | .FunctionDef _ _ _ _ _ _ sc _ _ _=>sc
 |_=>{kind:=.function,names:=[],isGenerator:=false,isCoroutine:=false}
abbrev D4:wu:=fun _ _ _ _ _ _=>False
abbrev E0:XK:=fun _ _ _=>False
theorem EH {X:Cx}:Passes D4 X E0:=fun _ _ _ _ _ _ _ h=>h.elim
structure Ay (K:PySem.W.Frag)(x qual:Str)(st:Stmt)(f:Addr)(fd:FuncData):Prop where
 ex:∃(oc:Value) (od:Option Addr) (kV doc pm:Value) (an:Option Addr) (cdv ct:Value) (osl:Array (Option Value)),
  fd=PySem.W.fnOf x qual (gK st) (cL st) (ax st) .none kV doc pm an cdv ct/\K.lookup f=some ⟨oc,od,.func fd,osl⟩/\PySem.W.codeIn K cdv qual=true
 kp:PySem.W.keepIn K (.ref f)=true
section
variable {P:Program}{w:World}{K:PySem.W.Frag}{mg:Str->Option Value}{base:Heap}
theorem Ay.ok {x qual:Str}{st:Stmt}{f:Addr}{fd:FuncData}{N ps:List Str}{k:Nat}{sp:Sp}(F:Ay K x qual st f fd)(S:aL N ps (ax st))(len:∀vs H Q E,sp vs H Q E->vs.length=ps.length)
  (hbody:∀(cdv:Value) (A:Around) (outer:List Env) (s:Shared) (H:Hp) (vs:List V) (Q:VK) (E:XK),eJ k (A.deeper (envOfC qual (ax st) s.heap.objs.size f cdv))->sp vs H Q E->
   ∃t,o4 (jO D4 P w K mg base N qual (ax st) f cdv A outer s H E).nox (cL st) t/\t {nx:=fun _ H'=>Q .non H',rt:=Q} (start N vs) H):fx P w K mg base D4 (k + 1) f fd ps sp:=by
 obtain⟨oc,od,kV,doc,pm,an,cdv,ct,osl,rfl,lk,hcd⟩:=F.ex
 refine Cw lk hcd S len fun A outer s H vs Q E hr hsp=>?_
 obtain⟨t,h,q⟩:=hbody cdv A outer s H vs Q E hr hsp
 exact⟨t,h.nox,q⟩
theorem Ay.binds {x qual:Str}{st:Stmt}{f:Addr}{fd:FuncData}{ps:List Str}(F:Ay K x qual st f fd)
  (h:∀(kV doc pm:Value) (an:Option Addr) (cdv ct:Value) (us:List Value),us.length=ps.length->bindArgs (PySem.W.fnOf x qual (gK st) (cL st) (ax st) .none kV doc pm an cdv ct) ⟨us,[]⟩=pure (ps.zip us)):Binds K fd ps []:=by
 obtain⟨oc,od,kV,doc,pm,an,cdv,ct,osl,rfl,lk,hcd⟩:=F.ex
 exact .all (h kV doc pm an cdv ct)
theorem uB {x qual:Str}{st:Stmt}{f:Addr}{oc:Value}{od an:Option Addr}{osl:Array (Option Value)}{kV doc pm cdv ct:Value}(l:K.lookup f=some ⟨oc,od,.func (PySem.W.fnOf x qual (gK st) (cL st) (ax st) .none kV doc pm an cdv ct),osl⟩)
  (c:PySem.W.codeIn K cdv qual=true) (k:PySem.W.keepIn K (.ref f)=true):Ay K x qual st f (PySem.W.fnOf x qual (gK st) (cL st) (ax st) .none kV doc pm an cdv ct):=⟨⟨oc,od,kV,doc,pm,an,cdv,ct,osl,rfl,l,c⟩,k⟩
end
section
variable {X:Cx}
theorem pv (i:Nat){x:Str}{pos:Pos}(hN:X.N[i]? =some x:=by rfl)(hv:tM X.env.scope x:=by first |exact Or.inl rfl |exact Or.inr (Or.inl rfl) |exact Or.inr (Or.inr rfl))(hd:(x == ("__debug__":Str))=false:=by decide)
  (hcd:(x == ("__classdict__":Str))=false:=by decide):PE X (.Name x pos) (Ak i):=hJ hN hv hd hcd
end
theorem rj {A B:Prop}(h:B):if false=true then A else B:=by
 rw[if_neg Bool.false_ne_true]
 exact h
theorem si {A B:Prop}(h:A):if true=true then A else B:=by
 rw[if_pos rfl]
 exact h
def ak (H H':Hp):Prop:=∀b o,H b=some o->H' b=some o
theorem ak.refl (H:Hp):ak H H:=fun _ _ h=>h
theorem ak.trans {H H1 H2:Hp}(a:ak H H1)(b:ak H1 H2):ak H H2:=fun c o h=>b c o (a c o h)
theorem ak.free {H H':Hp}(e:ak H H'){l:Addr}(h:H' l=Option.none):H l=Option.none:=by
 cases q:H l with
 |none=>rfl
 |some o=>
  rw[e l o q] at h
  cases h
theorem ak.seq {K:PySem.W.Frag}{H H':Hp}{a:Addr}{xs:List V}(e:ak H H')(h:gu K H a xs):gu K H' a xs:=by
 rcases h with (h | ⟨o,h⟩) |h
 ·exact .inl (.inl (e _ _ h))
 ·exact .inl (.inr ⟨o,e _ _ h⟩)
 ·exact .inr h
end L2

end

section
namespace L2.ST
open PySem PySem.SetTable
abbrev iX (xs:Array Nat):Prop:=xs.toList.Pairwise (· < ·)
theorem gF {xs:Array Nat}(h:iX xs){i k d:Nat}(hik:i < k)(hk:k < xs.size):xs.getD i d < xs.getD k d:=by
 have hi:i < xs.size:=Nat.lt_trans hik hk
 have:=List.pairwise_iff_getElem.mp h i k (by simpa using hi) (by simpa using hk) hik
 simpa[Array.getD,hi,hk] using this
theorem yo {xs:Array Nat}{j:Nat}(h:iX xs):∀(fuel lo hi:Nat),lo<=hi->hi<=xs.size->hi - lo<=fuel->
  (∀i,i < lo->xs.getD i j < j)->(∀i,hi<=i->i < xs.size->j<=xs.getD i j)->
  below.go xs j fuel lo hi<=xs.size/\(∀i,i < below.go xs j fuel lo hi->xs.getD i j < j)/\(∀i,below.go xs j fuel lo hi<=i->i < xs.size->j<=xs.getD i j):=by
 intro fuel
 induction fuel with
 |zero=>
  intro lo hi h1 h2 h3 h4 h5
  have:lo=hi:=by omega
  subst this
  exact⟨h2,h4,h5⟩
 |succ fuel ih=>
  intro lo hi h1 h2 h3 h4 h5
  unfold below.go
  by_cases hlt:lo < hi
  ·rw[if_pos hlt]
   dsimp only
   by_cases hm:xs.getD ((lo + hi) / 2) j < j
   ·rw[if_pos hm]
    refine ih _ _ (by omega) h2 (by omega) (fun i hi'=>?_) h5
    by_cases e:i=(lo + hi) / 2
    ·rw[e];exact hm
    ·exact Nat.lt_trans (gF h (show i < (lo + hi) / 2 by omega) (by omega)) hm
   ·rw[if_neg hm]
    refine ih _ _ (by omega) (by omega) (by omega) h4 (fun i hi' hs=>?_)
    by_cases e:i=(lo + hi) / 2
    ·rw[e];omega
    ·have:=gF (d:=j) h (show (lo + hi) / 2 < i by omega) hs
     omega
  ·rw[if_neg hlt]
   have:lo=hi:=by omega
   subst this
   exact⟨h2,h4,h5⟩
theorem dk {xs:Array Nat}(h:iX xs)(j:Nat) :
  below xs j<=xs.size/\(∀i,i < below xs j->xs.getD i j < j)/\(∀i,below xs j<=i->i < xs.size->j<=xs.getD i j):=
 yo h xs.size 0 xs.size (Nat.zero_le _) (Nat.le_refl _) (by omega) (fun i hi=>by omega) (fun i h1 h2=>by omega)
theorem wz {xs:Array Nat}(h:iX xs){i j:Nat}(hi:xs[i]? =some j):below xs j=i:=by
 obtain⟨b1,b2,b3⟩:=dk h j
 have hs:i < xs.size:=(Array.getElem?_eq_some_iff.mp hi).1
 have hv:xs.getD i j=j:=by rw[Array.getD_eq_getD_getElem?,hi];rfl
 rcases Nat.lt_trichotomy i (below xs j) with c |c |c
 ·have:=b2 i c;omega
 ·exact c.symm
 ·have hb:below xs j < xs.size:=by omega
  have q:=b3 (below xs j) (Nat.le_refl _) hb
  have:=gF (d:=j) h c hs
  omega
theorem uY (j:Nat):has #[] j=false:=by
 unfold has
 simp
theorem pj {t:SetTable}(h:iX t.place){i j:Nat}(hi:t.place[i]? =some j):t.slot j=.live i:=by
 unfold slot
 dsimp only
 rw[wz h hi,if_pos (by simp[hi])]
theorem uE {t:SetTable}(hd:t.dummies=#[]){j:Nat}(hj:j∉t.place):t.slot j=.empty:=by
 unfold slot
 dsimp only
 have:¬(t.place[below t.place j]? == some j)=true:=by
  intro e
  have e':t.place[below t.place j]? =some j:=by simpa using e
  obtain⟨h1,h2⟩:=Array.getElem?_eq_some_iff.mp e'
  exact hj (Array.mem_iff_getElem.mpr ⟨_,h1,h2⟩)
 rw[if_neg this,hd,uY]
 rfl
def sN (mask:Nat)(p:Probe):Probe:=
 if p.more > 0 then {p with j:=p.j + 1,more:=p.more - 1} else
 {p with j:=(leap mask p.i p.perturb).1,more:=runEnd mask (leap mask p.i p.perturb).1 - (leap mask p.i p.perturb).1,i:=(leap mask p.i p.perturb).1,perturb:=(leap mask p.i p.perturb).2}
def wt (mask i perturb:Nat):Probe:={j:=i,more:=runEnd mask i - i,i,perturb,dummy:=none}
def st (mask:Nat)(h:Int):Probe:=wt mask (bits h % (mask + 1)) (bits h)
theorem zj (t:SetTable)(p:Probe):t.advance p=sN t.mask p:=rfl
theorem Cs (t:SetTable)(h:Int):t.probeStart h=st t.mask h:=rfl
def dW (mask:Nat):Nat->Probe->Probe
 | 0,p=>p
 |n + 1,p=>dW mask n (sN mask p)
theorem jn (mask:Nat):∀(n m:Nat) (p:Probe),dW mask (n + m) p=dW mask m (dW mask n p)
 | 0,m,p=>by rw[Nat.zero_add];rfl
 |n + 1,m,p=>by rw[Nat.add_right_comm];exact jn mask n m (sN mask p)
theorem yH {mask:Nat}{p:Probe}(h:p.dummy=none):(sN mask p).dummy=none:=by
 unfold sN;split <;> exact h
theorem il {mask i:Nat}(h:i<=mask):i<=runEnd mask i/\runEnd mask i<=mask/\runEnd mask i - i<=9:=by
 unfold runEnd;split <;> omega
def In (mask:Nat)(p:Probe):Prop:=p.j + p.more<=mask/\p.more<=9
theorem DL {mask i q:Nat}(h:i<=mask):In mask (wt mask i q):=by
 have:=il h
 unfold In wt;dsimp only;omega
theorem kY (mask i q:Nat):(leap mask i q).1<=mask:=by
 unfold leap;exact Nat.lt_succ_iff.mp (Nat.mod_lt _ (Nat.succ_pos _))
theorem Dm {mask:Nat}{p:Probe}(h:In mask p):In mask (sN mask p):=by
 unfold sN
 by_cases hm:p.more > 0
 ·rw[if_pos hm];unfold In at *;dsimp only;omega
 ·rw[if_neg hm]
  have:=il (kY mask p.i p.perturb)
  unfold In;dsimp only;omega
theorem uO {mask:Nat}:∀(n:Nat) {p:Probe},In mask p->In mask (dW mask n p)
 | 0,_,h=>h
 |n + 1,_,h=>uO n (Dm h)
theorem Fe (mask:Nat)(h:Int):In mask (st mask h):=DL (Nat.lt_succ_iff.mp (Nat.mod_lt _ (Nat.succ_pos _)))
theorem rl (mask:Nat):∀(k:Nat) (p:Probe),p.more=k->dW mask (k + 1) p={p with j:=(leap mask p.i p.perturb).1,more:=runEnd mask (leap mask p.i p.perturb).1 - (leap mask p.i p.perturb).1,i:=(leap mask p.i p.perturb).1,perturb:=(leap mask p.i p.perturb).2}
 | 0,p,h=>by
  show sN mask p=_
  unfold sN
  rw[if_neg (by omega)]
 |k + 1,p,h=>by
  have e:sN mask p={p with j:=p.j + 1,more:=p.more - 1}:=by unfold sN;rw[if_pos (by omega)]
  show dW mask (k + 1) (sN mask p)=_
  rw[e,rl mask k _ (by dsimp only;omega)]
theorem lA (mask i q:Nat):dW mask (runEnd mask i - i + 1) (wt mask i q)=wt mask (leap mask i q).1 (leap mask i q).2:=by
 exact rl mask _ (wt mask i q) rfl
theorem iG (mask i q:Nat):∀(k:Nat),k<=runEnd mask i - i->(dW mask k (wt mask i q))={wt mask i q with j:=i + k,more:=runEnd mask i - i - k}
 | 0,_=>rfl
 |k + 1,h=>by
  rw[jn mask k 1,iG mask i q k (by omega)]
  show sN mask _=_
  unfold sN
  rw[if_pos (by dsimp only;omega)]
  simp only[Probe.mk.injEq]
  refine⟨by omega,by omega,?_⟩
  trivial
def fj (mask:Nat):Nat->Nat×Nat->Nat×Nat
 | 0,x=>x
 |k + 1,x=>fj mask k (leap mask x.1 x.2)
theorem lL (mask:Nat):∀(k i q:Nat),i<=mask->∃n,n<=10 * k/\dW mask n (wt mask i q)=wt mask (fj mask k (i,q)).1 (fj mask k (i,q)).2
 | 0,i,q,_=>⟨0,Nat.le_refl _,rfl⟩
 |k + 1,i,q,h=>by
  obtain⟨n,hn,e⟩:=lL mask k (leap mask i q).1 (leap mask i q).2 (kY _ _ _)
  have:=il h
  refine⟨(runEnd mask i - i + 1) + n,by omega,?_⟩
  rw[jn,lA,e]
  rfl
theorem pB (mask:Nat):∀(a b:Nat) (x:Nat×Nat),fj mask (a + b) x=fj mask b (fj mask a x)
 | 0,b,x=>by rw[Nat.zero_add];rfl
 |a + 1,b,x=>by rw[Nat.add_right_comm];exact pB mask a b (leap mask x.1 x.2)
theorem so (mask:Nat):∀(k:Nat) (x:Nat×Nat),x.1<=mask->(fj mask k x).1<=mask
 | 0,_,h=>h
 |k + 1,x,_=>so mask k _ (kY mask x.1 x.2)
theorem jP (mask:Nat):∀(k:Nat) (x:Nat×Nat),(fj mask k x).2=x.2 / 32 ^ k
 | 0,x=>by simp[fj]
 |k + 1,x=>by
  show (fj mask k (leap mask x.1 x.2)).2=_
  rw[jP mask k,Nat.pow_succ,Nat.mul_comm,<-Nat.div_div_eq_div_mul]
  rfl
def nx (mask i:Nat):Nat:=(i * 5 + 1) % (mask + 1)
def xJ (mask:Nat):Nat->Nat->Nat
 | 0,i=>i
 |k + 1,i=>xJ mask k (nx mask i)
theorem mj (mask:Nat):∀(a b i:Nat),xJ mask (a + b) i=xJ mask b (xJ mask a i)
 | 0,b,i=>by rw[Nat.zero_add];rfl
 |a + 1,b,i=>by rw[Nat.add_right_comm];exact mj mask a b (nx mask i)
theorem nq (mask:Nat):∀(k i:Nat),fj mask k (i,0)=(xJ mask k i,0)
 | 0,_=>rfl
 |k + 1,i=>by
  show fj mask k (leap mask i 0)=_
  have:leap mask i 0=(nx mask i,0):=by simp[leap,nx]
  rw[this,nq mask k]
  rfl
def zp (mask:Nat):Prop:=mask=7\/mask=31\/mask=127
theorem Ey (mask:Nat)(hm:zp mask):xJ mask (mask + 1) 0=0/\∀j,j<=mask->∃k,k<=mask/\xJ mask k 0=j:=by
 have h7:∀j:Nat,j < 8->∃k,k < 8/\xJ 7 k 0=j:=by decide +kernel
 have h31:∀j:Nat,j < 32->∃k,k < 32/\xJ 31 k 0=j:=by decide +kernel
 have h127:∀j:Nat,j < 128->∃k,k < 128/\xJ 127 k 0=j:=by decide +kernel
 rcases hm with rfl |rfl |rfl
 ·exact⟨by decide +kernel,fun j hj=>let ⟨k,a,b⟩:=h7 j (by omega);⟨k,by omega,b⟩⟩
 ·exact⟨by decide +kernel,fun j hj=>let ⟨k,a,b⟩:=h31 j (by omega);⟨k,by omega,b⟩⟩
 ·exact⟨by decide +kernel,fun j hj=>let ⟨k,a,b⟩:=h127 j (by omega);⟨k,by omega,b⟩⟩
theorem ES {mask:Nat}(hm:zp mask){i j:Nat}(hi:i<=mask)(hj:j<=mask):∃k,k<=mask/\xJ mask k i=j:=by
 obtain⟨z,o⟩:=Ey mask hm
 obtain⟨a,ha,ea⟩:=o i hi
 obtain⟨b,hb,eb⟩:=o j hj
 have back:xJ mask (mask + 1 - a) i=0:=by
  rw[<-ea,<-mj,show a + (mask + 1 - a)=mask + 1 by omega];exact z
 by_cases hab:a<=b
 ·refine⟨b - a,by omega,?_⟩
  rw[<-ea,<-mj,show a + (b - a)=b by omega];exact eb
 ·refine⟨mask + 1 - a + b,by omega,?_⟩
  rw[mj,back];exact eb
theorem nY {mask:Nat}(hm:zp mask){i q j:Nat}(hi:i<=mask)(hq:q < 2 ^ 64)(hj:j<=mask):∃k,k<=mask + 13/\(fj mask k (i,q)).1=j:=by
 have hz:(fj mask 13 (i,q)).2=0:=by
  rw[jP]
  exact Nat.div_eq_of_lt (Nat.lt_of_lt_of_le hq (by decide))
 obtain⟨k,hk,e⟩:=ES hm (so mask 13 (i,q) hi) hj
 refine⟨13 + k,by omega,?_⟩
 rw[pB]
 have:fj mask 13 (i,q)=((fj mask 13 (i,q)).1,0):=Prod.ext rfl hz
 rw[this,nq]
 exact e
theorem vb (h:Int):bits h < 2 ^ 64:=by
 unfold bits
 have:=Int.emod_lt_of_pos h (show (0:Int) < 2 ^ 64 by decide)
 have:=Int.emod_nonneg h (show (2 ^ 64:Int)≠0 by decide)
 omega
theorem zL {mask:Nat}(hm:zp mask)(h:Int){j:Nat}(hj:j<=mask):∃n,n < 10 * turns mask/\(dW mask n (st mask h)).j=j:=by
 have hi:bits h % (mask + 1)<=mask:=Nat.lt_succ_iff.mp (Nat.mod_lt _ (Nat.succ_pos _))
 obtain⟨k,hk,e⟩:=nY hm hi (vb h) hj
 obtain⟨n,hn,q⟩:=lL mask k (bits h % (mask + 1)) (bits h) hi
 refine⟨n,by unfold turns;omega,?_⟩
 show (dW mask n (wt mask _ _)).j=j
 rw[q];exact e
end L2.ST

end

section
namespace L2.ST
open PySem PySem.SetTable
theorem yv {t:SetTable}{hashAt:Nat->Int}{h:Int}:∀(n fuel:Nat) (p:Probe),n < fuel->p.dummy=none->
  (∀m,m < n->∃i,t.slot (dW t.mask m p).j=.live i/\hashAt i≠h)->t.slot (dW t.mask n p).j=.empty->
  probe.go t hashAt h fuel p=some (.empty (dW t.mask n p).j none):=by
 intro n
 induction n with
 |zero=>
  intro fuel p hf hd _ he
  obtain⟨f,rfl⟩:∃f,fuel=f + 1:=⟨fuel - 1,by omega⟩
  unfold probe.go
  have he':t.slot p.j=.empty:=he
  rw[he',hd]
  rfl
 |succ n ih=>
  intro fuel p hf hd hl he
  obtain⟨f,rfl⟩:∃f,fuel=f + 1:=⟨fuel - 1,by omega⟩
  unfold probe.go
  obtain⟨i,e,ne⟩:=hl 0 (by omega)
  have e':t.slot p.j=.live i:=e
  rw[e']
  dsimp only
  rw[if_neg (by simpa using ne),zj]
  exact ih f (sN t.mask p) (by omega) (yH hd) (fun m hm=>hl (m + 1) (by omega)) he
theorem zH {t:SetTable}{hashAt:Nat->Int}{h:Int}:∀(n fuel:Nat) (p:Probe),n < fuel->
  (∀m,m<=n->∃i,t.slot (dW t.mask m p).j=.live i)->(∃i,t.slot (dW t.mask n p).j=.live i/\hashAt i=h)->
  ∃j i next,probe.go t hashAt h fuel p=some (.candidate j i next)/\t.slot j=.live i/\hashAt i=h:=by
 intro n
 induction n with
 |zero=>
  intro fuel p hf _ he
  obtain⟨f,rfl⟩:∃f,fuel=f + 1:=⟨fuel - 1,by omega⟩
  obtain⟨i,e,eh⟩:=he
  have e':t.slot p.j=.live i:=e
  unfold probe.go
  rw[e']
  dsimp only
  rw[if_pos (by simpa using eh)]
  exact⟨p.j,i,_,rfl,e',eh⟩
 |succ n ih=>
  intro fuel p hf hl he
  obtain⟨f,rfl⟩:∃f,fuel=f + 1:=⟨fuel - 1,by omega⟩
  obtain⟨i,e⟩:=hl 0 (by omega)
  have e':t.slot p.j=.live i:=e
  unfold probe.go
  rw[e']
  dsimp only
  by_cases hh:hashAt i=h
  ·rw[if_pos (by simpa using hh)]
   exact⟨p.j,i,_,rfl,e',hh⟩
  ·rw[if_neg (by simpa using hh),zj]
   exact ih f (sN t.mask p) (by omega) (fun m hm=>hl (m + 1) (by omega)) he
def Reach (mask:Nat)(L:Nat->Prop)(h:Int)(j:Nat):Prop:=∃n,n < 10 * turns mask/\(dW mask n (st mask h)).j=j/\∀m,m < n->L (dW mask m (st mask h)).j
theorem Reach.mono {mask:Nat}{L L':Nat->Prop}{h:Int}{j:Nat}(r:Reach mask L h j)(k:∀x,L x->L' x):Reach mask L' h j:=
 let ⟨n,a,b,c⟩:=r;⟨n,a,b,fun m hm=>k _ (c m hm)⟩
structure Tab (t:SetTable)(hs:List Int):Prop where
 mask:zp t.mask
 dum:t.dummies=#[]
 rise:iX t.place
 le:∀j,j∈t.place->j<=t.mask
 size:t.place.size=hs.length
 load:t.place.size * 5 < t.mask * 3
 reach:∀(i j:Nat) (h:Int),t.place[i]? =some j->hs[i]? =some h->Reach t.mask (· ∈t.place) h j
 plain:t.plain=true
theorem b5 {α:Type}[DecidableEq α]:∀{l m:List α},l.Nodup->(∀x,x∈l->x∈m)->l.length<=m.length
 | [],_,_,_=>Nat.zero_le _
 |a :: l,m,hn,hs=>by
  have ha:=hs a (List.mem_cons_self ..)
  have hl:=List.nodup_cons.mp hn
  have:=b5 (l:=l) (m:=m.erase a) hl.2 fun x hx=>by
   refine (List.mem_erase_of_ne ?_).mpr (hs x (List.mem_cons_of_mem _ hx))
   rintro rfl;exact hl.1 hx
  rw[List.length_erase_of_mem ha] at this
  have:0 < m.length:=List.length_pos_of_mem ha
  simp only[List.length_cons];omega
theorem tX {mask:Nat}{xs:Array Nat}(hl:xs.size<=mask):∃j,j<=mask/\j∉xs:=by
 refine Classical.byContradiction fun hc=>?_
 have all:∀j,j∈List.range (mask + 1)->j∈xs.toList:=fun j hj=>by
  have:=List.mem_range.mp hj
  refine Classical.byContradiction fun hn=>hc ⟨j,by omega,fun z=>hn (by simpa using z)⟩
 have:=b5 List.nodup_range all
 simp at this
 omega
theorem pX {P:Nat->Prop}(h:∃n,P n):∃n,P n/\∀m,m < n->¬P m:=by
 obtain⟨n,hn⟩:=h
 induction n using Nat.strongRecOn with
 |_ n ih=>
  by_cases hc:∃m,m < n/\P m
  ·obtain⟨m,hm,hp⟩:=hc
   exact ih m hm hp
  ·exact⟨n,hn,fun m hm hp=>hc ⟨m,hm,hp⟩⟩
section
variable {t:SetTable}{hs:List Int}
theorem Tab.load' (T:Tab t hs):t.place.size<=t.mask:=by have:=T.load;omega
theorem Tab.slotL (T:Tab t hs){j:Nat}(hj:j∈t.place):∃i,t.slot j=.live i/\t.place[i]? =some j:=by
 obtain⟨i,hi,e⟩:=Array.mem_iff_getElem.mp hj
 have q:t.place[i]? =some j:=by rw[Array.getElem?_eq_getElem hi,e]
 exact⟨i,pj T.rise q,q⟩
theorem Tab.slotE (T:Tab t hs){j:Nat}(hj:j∉t.place):t.slot j=.empty:=uE T.dum hj
theorem Tab.first (T:Tab t hs)(h:Int):∃n,n < 10 * turns t.mask/\(dW t.mask n (st t.mask h)).j∉t.place/\∀m,m < n->(dW t.mask m (st t.mask h)).j∈t.place:=by
 obtain⟨j,hj,hn⟩:=tX T.load'
 obtain⟨n,h1,h2⟩:=zL T.mask h hj
 obtain⟨k,hk,hlt⟩:=pX (P:=fun n=>(dW t.mask n (st t.mask h)).j∉t.place) ⟨n,by rw[h2];exact hn⟩
 refine⟨k,?_,hk,fun m hm=>Classical.byContradiction fun z=>hlt m hm z⟩
 rcases Nat.lt_or_ge n k with c |c
 ·exact absurd (show (dW t.mask n (st t.mask h)).j∉t.place by rw[h2];exact hn) (hlt n c)
 ·omega
theorem Tab.absent (T:Tab t hs){hashAt:Nat->Int}(ha:∀i,i < hs.length->some (hashAt i)=hs[i]?){h:Int}(hn:h∉hs) :
  ∃j,t.probe hashAt h (t.probeStart h)=some (.empty j none)/\j∉t.place/\j<=t.mask/\Reach t.mask (· ∈t.place) h j:=by
 obtain⟨n,h1,h2,h3⟩:=T.first h
 refine⟨(dW t.mask n (st t.mask h)).j,?_,h2,?_,⟨n,h1,rfl,h3⟩⟩
 ·unfold probe
  rw[Cs]
  refine yv n _ _ h1 rfl (fun m hm=>?_) (T.slotE h2)
  obtain⟨i,e,q⟩:=T.slotL (h3 m hm)
  refine⟨i,e,fun z=>hn ?_⟩
  have hi:i < hs.length:=by rw[<-T.size];exact (Array.getElem?_eq_some_iff.mp q).1
  have:=ha i hi
  rw[z] at this
  exact List.mem_of_getElem? this.symm
 ·have:=uO n (Fe t.mask h)
  unfold In at this;omega
theorem Tab.present (T:Tab t hs){hashAt:Nat->Int}(ha:∀i,i < hs.length->some (hashAt i)=hs[i]?){h:Int}(hm:h∈hs) :
  ∃j i next,t.probe hashAt h (t.probeStart h)=some (.candidate j i next)/\t.slot j=.live i/\i < hs.length/\hs[i]? =some h:=by
 obtain⟨i,hi,e⟩:=List.mem_iff_getElem.mp hm
 have hi':hs[i]? =some h:=by rw[List.getElem?_eq_getElem hi,e]
 have hp:i < t.place.size:=by rw[T.size];exact hi
 obtain⟨n,h1,h2,h3⟩:=T.reach i t.place[i] h (Array.getElem?_eq_getElem hp) hi'
 have hj:(dW t.mask n (st t.mask h)).j∈t.place:=by rw[h2];exact Array.getElem_mem hp
 obtain⟨j',i',nx,g1,g2,g3⟩:=zH (t:=t) (hashAt:=hashAt) (h:=h) n (10 * turns t.mask) (st t.mask h) h1 (fun m hm=>by
   rcases Nat.lt_or_ge m n with c |c
   ·obtain⟨i,e,_⟩:=T.slotL (h3 m c);exact⟨i,e⟩
   ·have:m=n:=by omega
    subst this
    obtain⟨i,e,_⟩:=T.slotL hj;exact⟨i,e⟩)
  ⟨i,by rw[h2];exact pj T.rise (Array.getElem?_eq_getElem hp),by
   have:=ha i hi
   rw[hi'] at this
   exact Option.some.inj this⟩
 have hi2:i' < t.place.size:=by
  unfold slot at g2
  dsimp only at g2
  split at g2
  ·rename_i c
   have c':t.place[below t.place j']? =some j':=by simpa using c
   cases g2
   exact (Array.getElem?_eq_some_iff.mp c').1
  ·split at g2 <;> cases g2
 refine⟨j',i',nx,by unfold probe;rw[Cs];exact g1,g2,by rw[<-T.size];exact hi2,?_⟩
 have:=ha i' (by rw[<-T.size];exact hi2)
 rw[g3] at this
 exact this.symm
end
theorem bN {α:Type}(xs:Array α)(p:Nat)(x:α)(_:p<=xs.size):(insertAt xs p x).toList=xs.toList.take p ++ x :: xs.toList.drop p:=by
 unfold insertAt
 simp[Array.toList_extract,List.extract_eq_take_drop]
 rw[List.take_of_length_le (by simp)]
theorem oJ (t:SetTable)(j:Nat)(hd:t.dummies=#[]):(t.put j).1={t with place:=insertAt t.place (below t.place j) j}/\(t.put j).2=below t.place j:=by
 unfold put
 dsimp only
 rw[hd,uY]
 exact⟨by simp,rfl⟩
section
variable {t:SetTable}{hs:List Int}
theorem k7 {α:Type}{xs:Array α}{p:Nat}{x y:α}(hp:p<=xs.size):y∈insertAt xs p x↔y∈xs\/y=x:=by
 rw[<-Array.mem_toList_iff,bN xs p x hp,List.mem_append,List.mem_cons,<-Array.mem_toList_iff]
 have:y∈xs.toList↔y∈xs.toList.take p\/y∈xs.toList.drop p:=by
  conv=>lhs;rw[<-List.take_append_drop p xs.toList]
  exact List.mem_append
 rw[this]
 constructor
 ·rintro (a |a |a)
  ·exact .inl (.inl a)
  ·exact .inr a
  ·exact .inl (.inr a)
 ·rintro ((a |a) |a)
  ·exact .inl a
  ·exact .inr (.inr a)
  ·exact .inr (.inl a)
theorem ox {xs:Array Nat}(h:iX xs){j:Nat}(hj:j∉xs):iX (insertAt xs (below xs j) j):=by
 obtain⟨b1,b2,b3⟩:=dk h j
 unfold iX
 rw[bN _ _ _ b1]
 have hl:∀y,y∈xs.toList.take (below xs j)->y < j:=fun y hy=>by
  obtain⟨i,hi,e⟩:=List.mem_iff_getElem.mp hy
  have hi1:i < below xs j:=by simp at hi;omega
  have hi2:i < xs.size:=by omega
  have:=b2 i hi1
  rw[Array.getD_eq_getD_getElem?,Array.getElem?_eq_getElem hi2] at this
  simp at e this
  omega
 have hr:∀y,y∈xs.toList.drop (below xs j)->j < y:=fun y hy=>by
  obtain⟨i,hi,e⟩:=List.mem_iff_getElem.mp hy
  have hi2:below xs j + i < xs.size:=by simp at hi;omega
  have:=b3 (below xs j + i) (by omega) hi2
  rw[Array.getD_eq_getD_getElem?,Array.getElem?_eq_getElem hi2] at this
  simp at e this
  rcases Nat.lt_or_ge j y with c |c
  ·exact c
  ·have:j=y:=by omega
   exact absurd (by rw[this,<-e];exact Array.getElem_mem _) hj
 refine List.pairwise_append.mpr ⟨List.Pairwise.sublist (List.take_sublist ..) h,List.pairwise_cons.mpr ⟨fun y hy=>hr y hy,List.Pairwise.sublist (List.drop_sublist ..) h⟩,fun a ha b hb=>?_⟩
 rcases List.mem_cons.mp hb with rfl |hb
 ·exact hl a ha
 ·exact Nat.lt_trans (hl a ha) (hr b hb)
theorem rY {α:Type}(l:List α)(p:Nat)(x:α)(hp:p<=l.length)(i:Nat):(l.take p ++ x :: l.drop p)[i]? =if i < p then l[i]? else if i=p then some x else l[i - 1]?:=by
 rcases Nat.lt_trichotomy i p with c |c |c
 ·rw[if_pos c,List.getElem?_append_left (by simp;omega),List.getElem?_take_of_lt c]
 ·subst c
  rw[if_neg (Nat.lt_irrefl _),if_pos rfl,List.getElem?_append_right (by simp;omega),List.length_take,Nat.min_eq_left hp,Nat.sub_self]
  rfl
 ·rw[if_neg (by omega),if_neg (by omega),List.getElem?_append_right (by simp;omega),List.length_take,Nat.min_eq_left hp]
  obtain⟨k,rfl⟩:∃k,i=p + 1 + k:=⟨i - (p + 1),by omega⟩
  rw[show p + 1 + k - p=k + 1 by omega,List.getElem?_cons_succ,List.getElem?_drop]
  congr 1
  omega
theorem Tab.put (T:Tab t hs){j:Nat}{h:Int}(hj:j∉t.place)(hm:j<=t.mask)(r:Reach t.mask (· ∈t.place) h j)(hf:(t.place.size + 1) * 5 < t.mask * 3) :
  Tab (t.put j).1 (hs.take (t.put j).2 ++ h :: hs.drop (t.put j).2)/\(t.put j).2<=hs.length:=by
 obtain⟨e1,e2⟩:=oJ t j T.dum
 obtain⟨b1,b2,b3⟩:=dk T.rise j
 have hsz:(insertAt t.place (below t.place j) j).size=t.place.size + 1:=by
  rw[<-Array.length_toList,bN _ _ _ b1]
  simp;omega
 have hl:below t.place j<=hs.length:=by rw[<-T.size];exact b1
 rw[e1,e2]
 refine⟨⟨T.mask,T.dum,ox T.rise hj,fun y hy=>?_,?_,?_,fun i y g hy hg=>?_,T.plain⟩,hl⟩
 ·rcases (k7 b1).mp hy with z |z
  ·exact T.le y z
  ·rw[z];exact hm
 ·show (insertAt t.place _ j).size=_
  rw[hsz,T.size];simp;omega
 ·show (insertAt t.place _ j).size * 5 < t.mask * 3
  rw[hsz];exact hf
 ·show Reach t.mask (· ∈insertAt t.place (below t.place j) j) g y
  have hy':(t.place.toList.take (below t.place j) ++ j :: t.place.toList.drop (below t.place j))[i]? =some y:=by
   rw[<-bN _ _ _ b1,Array.getElem?_toList];exact hy
  rw[rY _ _ _ (by simpa using b1)] at hy'
  rw[rY _ _ _ hl] at hg
  have old:∀{g y},Reach t.mask (· ∈t.place) g y->Reach t.mask (· ∈insertAt t.place (below t.place j) j) g y:=fun r=>r.mono fun x hx=>(k7 b1).mpr (.inl hx)
  split at hy'
  ·rename_i c
   rw[if_pos c] at hg
   exact old (T.reach i y g (by simpa using hy') hg)
  ·rename_i c
   rw[if_neg c] at hg
   split at hy'
   ·rename_i c2
    rw[if_pos c2] at hg
    cases hg;cases hy'
    exact old r
   ·rename_i c2
    rw[if_neg c2] at hg
    exact old (T.reach (i - 1) y g (by simpa using hy') hg)
end
end L2.ST

end

section
namespace L2.ST
open PySem PySem.SetTable
abbrev own (o:Array (Option Nat))(j:Nat):Option Nat:=o.getD j none
theorem xD {mask:Nat}{o:Array (Option Nat)}(hsz:o.size=mask + 1):∀(fuel i q:Nat) (j:Nat),i<=mask->layClean.free mask o fuel i q=some j->
  ∃n,n < 10 * fuel/\(dW mask n (wt mask i q)).j=j/\(∀m,m < n->(own o (dW mask m (wt mask i q)).j).isSome=true)/\own o j=none/\j<=mask:=by
 intro fuel
 induction fuel with
 |zero=>intro i q j _ h;unfold layClean.free at h;cases h
 |succ fuel ih=>
  intro i q j hi h
  unfold layClean.free at h
  have hr:=il hi
  have ind:∀k,k<=runEnd mask i - i->o.getD (i + k) (some 0)=own o (i + k):=fun k hk=>by
   have:i + k < o.size:=by omega
   simp[own,Array.getD,this]
  cases hf:(List.range (runEnd mask i + 1 - i)).find? fun k=>(o.getD (i + k) (some 0)).isNone with
  |some k=>
   rw[hf] at h
   dsimp only at h
   have hk:=List.find?_eq_some_iff_getElem.mp hf
   obtain⟨hn,ix,hix,eix,hbef⟩:=hk
   have ek:ix=k:=by simpa using eix
   subst ek
   have hix':ix < runEnd mask i + 1 - i:=by simpa using hix
   cases h
   refine⟨ix,by omega,?_,fun m hm=>?_,?_,by omega⟩
   ·rw[iG mask i q ix (by omega)]
   ·rw[iG mask i q m (by omega)]
    have:=hbef m hm
    simp only[List.getElem_range] at this
    rw[ind m (by omega)] at this
    dsimp only
    cases e:own o (i + m) with
    |none=>rw[e] at this;simp at this
    |some _=>rfl
   ·rw[ind ix (by omega)] at hn
    cases e:own o (i + ix) with
    |none=>rfl
    |some _=>rw[e] at hn;simp at hn
  |none=>
   rw[hf] at h
   dsimp only at h
   obtain⟨n,h1,h2,h3,h4,h5⟩:=ih _ _ j (kY mask i q) h
   have hnone:=List.find?_eq_none.mp hf
   refine⟨(runEnd mask i - i + 1) + n,by omega,?_,fun m hm=>?_,h4,h5⟩
   ·rw[jn,lA];exact h2
   ·rcases Nat.lt_or_ge m (runEnd mask i - i + 1) with c |c
    ·rw[iG mask i q m (by omega)]
     have:=hnone m (List.mem_range.mpr (by omega))
     rw[ind m (by omega)] at this
     dsimp only
     cases e:own o (i + m) with
     |none=>rw[e] at this;simp at this
     |some _=>rfl
    ·obtain⟨k,rfl⟩:∃k,m=(runEnd mask i - i + 1) + k:=⟨m - (runEnd mask i - i + 1),by omega⟩
     rw[jn,lA]
     exact h3 k (by omega)
theorem wx {mask:Nat}{o:Array (Option Nat)}(hsz:o.size=mask + 1):∀(fuel i q k:Nat),i<=mask->k < fuel->own o (fj mask k (i,q)).1=none->∃j,layClean.free mask o fuel i q=some j:=by
 intro fuel
 induction fuel with
 |zero=>intro i q k _ hk;omega
 |succ fuel ih=>
  intro i q k hi hk hn
  unfold layClean.free
  cases hf:(List.range (runEnd mask i + 1 - i)).find? fun k=>(o.getD (i + k) (some 0)).isNone with
  |some k=>exact⟨_,rfl⟩
  |none=>
   dsimp only
   cases k with
   |zero=>
    have hr:=il hi
    have:=List.find?_eq_none.mp hf 0 (List.mem_range.mpr (by omega))
    have e:own o i=none:=hn
    have hi2:i < o.size:=by omega
    simp[own,Array.getD,hi2] at e this
    rw[e] at this;simp at this
   |succ k=>exact ih _ _ k (kY mask i q) (by omega) hn
structure Lay (mask:Nat)(o:Array (Option Nat))(hs:List Int):Prop where
 size:o.size=mask + 1
 all:∀k h,hs[k]? =some h->∃j,own o j=some k/\Reach mask (fun x=>(own o x).isSome=true) h j
 one:∀j j' k,own o j=some k->own o j'=some k->j=j'
 le:∀j k,own o j=some k->j<=mask/\k < hs.length
theorem kB {o:Array (Option Nat)}{j x k:Nat}(hj:j < o.size):own (o.setIfInBounds j (some k)) x=if x=j then some k else own o x:=by
 unfold own
 rw[Array.getD_eq_getD_getElem?,Array.getD_eq_getD_getElem?,Array.getElem?_setIfInBounds]
 by_cases e:x=j
 ·subst e;simp[hj]
 ·rw[if_neg e,if_neg (fun z=>e z.symm)]
theorem yW {mask:Nat}(hm:zp mask){o:Array (Option Nat)}{hs:List Int}(L:Lay mask o hs)(h:Int)(hl:hs.length<=mask) :
  ∃j,layClean.free mask o (turns mask) (bits h % (mask + 1)) (bits h)=some j/\Lay mask (o.setIfInBounds j (some hs.length)) (hs ++ [h]):=by
 have hi:bits h % (mask + 1)<=mask:=Nat.lt_succ_iff.mp (Nat.mod_lt _ (Nat.succ_pos _))
 have hfree:∃j,j<=mask/\own o j=none:=by
  refine Classical.byContradiction fun hc=>?_
  have hall:∀j,j<=mask->∃k,own o j=some k:=fun j hj=>by
   cases e:own o j with
   |none=>exact absurd ⟨j,hj,e⟩ hc
   |some k=>exact⟨k,rfl⟩
  have nd:((List.range (mask + 1)).map fun j=>(own o j).getD 0).Nodup:=by
   refine List.pairwise_map.mpr ?_
   refine List.Pairwise.imp_of_mem ?_ List.nodup_range
   intro a b ha hb hab e
   obtain⟨ka,ea⟩:=hall a (by have:=List.mem_range.mp ha;omega)
   obtain⟨kb,eb⟩:=hall b (by have:=List.mem_range.mp hb;omega)
   rw[ea,eb] at e
   simp at e
   subst e
   exact hab (L.one a b ka ea eb)
  have:=b5 (m:=List.range hs.length) nd fun x hx=>by
   obtain⟨j,hj,rfl⟩:=List.mem_map.mp hx
   obtain⟨k,e⟩:=hall j (by have:=List.mem_range.mp hj;omega)
   rw[e]
   exact List.mem_range.mpr (L.le j k e).2
  simp at this
  omega
 obtain⟨j0,hj0,hn0⟩:=hfree
 obtain⟨k,hk,ek⟩:=nY hm hi (vb h) hj0
 obtain⟨j,hj⟩:=wx L.size (turns mask) _ (bits h) k hi (by unfold turns;omega) (by rw[ek];exact hn0)
 refine⟨j,hj,?_⟩
 obtain⟨n,h1,h2,h3,h4,h5⟩:=xD L.size _ _ _ _ hi hj
 have hjs:j < o.size:=by rw[L.size];omega
 have grow:∀x,(own o x).isSome=true->(own (o.setIfInBounds j (some hs.length)) x).isSome=true:=fun x hx=>by
  rw[kB hjs];split
  ·rfl
  ·exact hx
 refine⟨by rw[Array.size_setIfInBounds];exact L.size,fun k g hg=>?_,fun a b c ea eb=>?_,fun a c ea=>?_⟩
 ·rcases Nat.lt_or_ge k hs.length with c |c
  ·rw[List.getElem?_append_left c] at hg
   obtain⟨x,ex,rx⟩:=L.all k g hg
   refine⟨x,?_,rx.mono grow⟩
   rw[kB hjs,if_neg (fun z=>?_)]
   ·exact ex
   ·subst z;rw[ex] at h4;cases h4
  ·rw[List.getElem?_append_right c] at hg
   have:k=hs.length:=by
    have:=(List.getElem?_eq_some_iff.mp hg).1
    simp at this;omega
   subst this
   simp at hg
   subst hg
   exact⟨j,by rw[kB hjs,if_pos rfl],n,h1,h2,fun m hm=>grow _ (h3 m hm)⟩
 ·rw[kB hjs] at ea eb
  split at ea
  ·cases ea
   split at eb
   ·omega
   ·have:=(L.le _ _ eb).2;omega
  ·split at eb
   ·cases eb
    have:=(L.le _ _ ea).2;omega
   ·exact L.one _ _ _ ea eb
 ·rw[kB hjs] at ea
  rw[List.length_append]
  split at ea
  ·cases ea;simp;omega
  ·have:=L.le _ _ ea;simp;omega
theorem uW {mask:Nat}(hm:zp mask):∀(rest hs:List Int) (o:Array (Option Nat)),Lay mask o hs->hs.length + rest.length<=mask->
  ∃o',rest.foldl (init:=some (o,hs.length)) (fun acc h=>do
   let (owner,k) <-acc
   let j <-layClean.free mask owner (turns mask) (bits h % (mask + 1)) (bits h)
   pure (owner.setIfInBounds j (some k),k + 1))=some (o',hs.length + rest.length)/\Lay mask o' (hs ++ rest)
 | [],hs,o,L,_=>⟨o,rfl,by rw[List.append_nil];exact L⟩
 |h :: rest,hs,o,L,hl=>by
  simp only[List.length_cons] at hl
  obtain⟨j,e,L'⟩:=yW hm L h (by omega)
  obtain⟨o',e',L2⟩:=uW hm rest (hs ++ [h]) _ L' (by simp;omega)
  refine⟨o',?_,by rw[List.append_assoc] at L2;exact L2⟩
  rw[List.foldl_cons]
  simp only[Option.bind_eq_bind,Option.bind_some,e,Option.pure_def]
  have el:(hs ++ [h]).length=hs.length + 1:=by simp
  rw[el] at e'
  simp only[Option.bind_eq_bind,Option.pure_def] at e'
  rw[e']
  simp;omega
theorem vK (n j:Nat):own (Array.replicate n none) j=none:=by
 unfold own
 rw[Array.getD_eq_getD_getElem?,Array.getElem?_replicate]
 split <;> rfl
theorem Bx (mask:Nat):Lay mask (Array.replicate (mask + 1) none) []:=
 ⟨by simp,fun k h e=>by simp at e,fun j j' k e _=>by (rw[vK] at e;cases e),fun j k e=>by (rw[vK] at e;cases e)⟩
theorem xA {mask:Nat}(hm:zp mask)(hs:Array Int)(hl:hs.size * 5 < mask * 3)(finger moves:Nat)(led:Bool) :
  ∃t order,laid mask finger moves led true hs=some (t,order)/\t.led=led/\t.mask=mask/\order.toList.Nodup/\(∀k,k∈order.toList↔k < hs.size)/\
   Tab t (order.toList.map fun k=>hs.toList.getD k 0):=by
 obtain⟨o,e,L⟩:=uW hm hs.toList [] _ (Bx mask) (by simp;omega)
 simp only[List.nil_append] at L
 have ec:layClean mask hs=some o:=by
  unfold layClean
  rw[<-Array.foldl_toList]
  simp only[List.length_nil] at e
  rw[e];rfl
 have hlive:∀j k,(j,k)∈((List.range (mask + 1)).filterMap fun j=>(o.getD j none).map (j, ·))↔own o j=some k:=fun j k=>by
  rw[List.mem_filterMap]
  constructor
  ·rintro⟨x,_,q⟩
   cases ex:o.getD x none with
   |none=>rw[ex] at q;cases q
   |some y=>rw[ex] at q;simp at q;rw[<-q.1,<-q.2];exact ex
  ·intro q
   refine⟨j,List.mem_range.mpr (by have:=(L.le j k q).1;omega),?_⟩
   have:o.getD j none=some k:=q
   rw[this];rfl
 have hpw:((List.range (mask + 1)).filterMap fun j=>(o.getD j none).map (j, ·)).Pairwise (fun a b=>a.1 < b.1):=by
  refine List.pairwise_filterMap.mpr ?_
  refine List.Pairwise.imp ?_ List.pairwise_lt_range
  intro a b hab x hx y hy
  cases ea:o.getD a none with
  |none=>rw[ea] at hx;cases hx
  |some u=>
   cases eb:o.getD b none with
   |none=>rw[eb] at hy;cases hy
   |some v=>
    rw[ea] at hx;rw[eb] at hy
    simp at hx hy
    rw[<-hx,<-hy];exact hab
 generalize hlv:((List.range (mask + 1)).filterMap fun j=>(o.getD j none).map (j, ·))=live at hlive hpw
 refine⟨{mask,place:=(live.map (·.1)).toArray,dummies:=#[],finger,led,moves,plain:=true},(live.map (·.2)).toArray,?_,rfl,rfl,?_,fun k=>?_,?_⟩
 ·unfold laid
  rw[ec]
  simp only[Option.bind_eq_bind,Option.bind_some,Option.pure_def,hlv]
 ·have:(live.map (·.2)).Nodup:=by
   refine List.pairwise_map.mpr (List.Pairwise.imp_of_mem ?_ hpw)
   intro a b ha hb hab ee
   have h1:=(hlive a.1 a.2).mp ha
   have h2:=(hlive b.1 b.2).mp hb
   rw[ee] at h1
   have:=L.one _ _ _ h1 h2
   omega
  simpa using this
 ·rw[List.mem_map]
  constructor
  ·rintro⟨x,hx,rfl⟩
   have:=(L.le x.1 x.2 ((hlive x.1 x.2).mp hx)).2
   simpa using this
  ·intro hk
   have hk':k < hs.toList.length:=by simpa using hk
   obtain⟨j,ej,_⟩:=L.all k _ (List.getElem?_eq_getElem hk')
   exact⟨(j,k),(hlive j k).mpr ej,rfl⟩
 ·have hord:live.length=hs.size:=by
   have a1:(live.map (·.2)).Nodup:=by
    refine List.pairwise_map.mpr (List.Pairwise.imp_of_mem ?_ hpw)
    intro a b ha hb hab ee
    have h1:=(hlive a.1 a.2).mp ha
    have h2:=(hlive b.1 b.2).mp hb
    rw[ee] at h1
    have:=L.one _ _ _ h1 h2
    omega
   have b1:=b5 (m:=List.range hs.size) a1 fun x hx=>by
    obtain⟨y,hy,rfl⟩:=List.mem_map.mp hx
    have:=(L.le y.1 y.2 ((hlive y.1 y.2).mp hy)).2
    exact List.mem_range.mpr (by simpa using this)
   have b2:=b5 (l:=List.range hs.size) (m:=live.map (·.2)) List.nodup_range fun x hx=>by
    have hk':x < hs.toList.length:=by simpa using List.mem_range.mp hx
    obtain⟨j,ej,_⟩:=L.all x _ (List.getElem?_eq_getElem hk')
    exact List.mem_map.mpr ⟨(j,x),(hlive j x).mpr ej,rfl⟩
   simp at b1 b2
   omega
  refine⟨hm,rfl,?_,fun j hj=>?_,?_,?_,fun i j h hi hh=>?_,rfl⟩
  ·show (live.map (·.1)).toArray.toList.Pairwise _
   rw[List.toList_toArray]
   exact List.pairwise_map.mpr hpw
  ·have:j∈live.map (·.1):=by simpa using hj
   obtain⟨x,hx,rfl⟩:=List.mem_map.mp this
   exact (L.le x.1 x.2 ((hlive x.1 x.2).mp hx)).1
  ·simp
  ·show (live.map (·.1)).toArray.size * 5 < mask * 3
   simp[hord];exact hl
  ·have hi':(live.map (·.1))[i]? =some j:=by simpa using hi
   have hh':((live.map (·.2)).map fun k=>hs.toList.getD k 0)[i]? =some h:=by simpa using hh
   rw[List.getElem?_map] at hi'
   rw[List.getElem?_map,List.getElem?_map] at hh'
   cases ex:live[i]? with
   |none=>rw[ex] at hi';cases hi'
   |some x=>
    rw[ex] at hi' hh'
    simp at hi' hh'
    have hxl:=(hlive x.1 x.2).mp (List.mem_of_getElem? ex)
    have hk:=(L.le _ _ hxl).2
    have hk2:x.2 < hs.size:=by simpa using hk
    obtain⟨j2,ej2,r⟩:=L.all x.2 h (by
     rw[List.getElem?_eq_getElem hk]
     simp[hk2] at hh'
     simpa using hh')
    have:j2=j:=by rw[<-hi'];exact L.one _ _ _ ej2 hxl
    subst this
    refine r.mono fun y hy=>?_
    show y∈(live.map (·.1)).toArray
    cases ey:own o y with
    |none=>rw[ey] at hy;cases hy
    |some k=>
     have:y∈live.map (·.1):=List.mem_map.mpr ⟨(y,k),(hlive y k).mpr ey,rfl⟩
     simpa using this
end L2.ST

end

section
namespace L2.ST
open PySem PySem.SetTable
abbrev Pr:=Int×Int
def hp (p:Pr):Int:=reduceHash (Builtin.Tuple.tupleHashOf [hashInt p.1,hashInt p.2])
def Sm (p:Pr):Prop:=(0<=p.1/\p.1 < 8)/\(0<=p.2/\p.2 < 8)
def mP:List Pr:=(List.range 64).map fun k=>(((k / 8:Nat):Int),((k % 8:Nat):Int))
theorem kj {p:Pr}(h:Sm p):p∈mP:=by
 unfold mP
 obtain⟨⟨a,b⟩,c,d⟩:=h
 refine List.mem_map.mpr ⟨p.1.toNat * 8 + p.2.toNat,List.mem_range.mpr (by omega),?_⟩
 refine Prod.ext ?_ ?_ <;> dsimp only <;> omega
theorem ym:(mP.map hp).Nodup:=by decide +kernel
theorem kI {α β:Type}{f:α->β}:∀{l:List α},(l.map f).Nodup->∀a b,a∈l->b∈l->f a=f b->a=b
 | [],_,_,_,h,_,_=>by cases h
 |x :: l,hn,a,b,ha,hb,e=>by
  have hn':=List.nodup_cons.mp hn
  rcases List.mem_cons.mp ha with ea |ha
  ·rcases List.mem_cons.mp hb with eb |hb
   ·rw[ea,eb]
   ·exact absurd (List.mem_map.mpr ⟨b,hb,by rw[<-e,ea]⟩) hn'.1
  ·rcases List.mem_cons.mp hb with eb |hb
   ·exact absurd (List.mem_map.mpr ⟨a,ha,by rw[e,eb]⟩) hn'.1
   ·exact kI hn'.2 a b ha hb e
theorem Dz {p q:Pr}(hp1:Sm p)(hq:Sm q)(e:hp p=hp q):p=q:=kI ym p q (kj hp1) (kj hq) e
theorem sY {l:List Pr}(hn:l.Nodup)(h:∀p,p∈l->Sm p):l.length<=64:=by
 have:=b5 (m:=mP) hn fun x hx=>kj (h x hx)
 simpa[mP] using this
section
variable {prog:Program}{w:World}{A:Around}{E:Value->Shared->Prop}{s:Shared}
abbrev bD (prog:Program)(w:World)(h:Heap)(p:Pr)(a:Addr):Prop:=IsTupleKey (intKind prog w) h [p.1,p.2] a
theorem bD.inj {h:Heap}{p q:Pr}{a:Addr}(x:bD prog w h p a)(y:bD prog w h q a):p=q:=by
 have:=IsTupleKey.inj x y
 simp at this
 exact Prod.ext this.1 this.2
structure pP (f:Pr->Int)(prog:Program)(w:World)(led:Bool)(h:Heap)(S:Addr)(ps:List (Addr×Pr)):Prop where
 ex:∃o ep t,h.get? S=some o/\o.ExactSet/\o.data=.set (ps.map fun q=>(f q.2,Value.ref q.1)).toArray ep t/\Tab t (ps.map fun q=>f q.2)/\t.led=led
 at':∀q,q∈ps->bD prog w h q.2 q.1/\Sm q.2
 nd:(ps.map (·.2)).Nodup
theorem mT {t:SetTable}{hs:List Int}(T:Tab t hs){n:Nat}(e:n=hs.length):t.fits n=true:=by
 unfold SetTable.fits SetTable.fill
 have:=T.load'
 simp[T.size,T.dum,e]
 rw[T.size] at this;exact this
theorem zk (a:Addr)(wanted:Nat):setRelay a wanted=(do
  let (es,_,t) <-setState a
  if SetTable.sizeAbove wanted > sizeLine then unsupported "set:memory"
  let (es,t) <-(do
   let some (t,order):=t.relaid (es.map (·.1)) wanted |unsupported "internal:set-table-without-room"
   let es':=order.filterMap (es[·]?)
   if es'.size != es.size then unsupported "internal:set-table-lost-an-element"
   pure (es',t))
  storeSet a es t):=rfl
theorem wd (a:Addr)(x:Value)(h:Int)(fuel:Nat):setSearchFrom a x h true (fuel + 1) none=(do
  let (es,_,t) <-setState a
  if t.gaveWay then unsupported "set:on-a-table-that-gave-way"
  let some met:=t.probe (fun i=>(es[i]?.map (·.1)).getD 0) h (t.probeStart h) |unsupported "internal:set-table-without-an-empty-slot"
  match met with
  | .empty j dummy=>
   match dummy with
   |none=>return .free j false
   |some d=>
    if true && t.slot d != .dummy then rule "set.search.the-dummy-was-taken";return <-setSearchFrom a x h true fuel none
    return .free d true
  | .candidate j i next=>
   if !t.led then
    if <-searchCouldBeSeen x ((es.filter (·.1 == h)).toList.map (·.2)) then unsupported "set:the-search-would-show-the-table"
   let some (_,y):=es[i]? |unsupported "internal:set-entry"
   let equal <-holding [y] (eqBool y x)
   let (es',_,t') <-setState a
   if true && equal then return .there none
   let some same:=t'.sameMemory t.moves t.mask |unsupported "set.changed-during-lookup:is-the-new-block-at-the-old-address"
   let still <-match (if same then t'.slot j else .empty) with
    | .live i'=>match es'[i']? with
     |some (_,y')=>do pure (if <-isSame y' y then some i' else none)
     |none=>pure none
    |_=>pure none
   match still with
   |none=>rule "set.search.anew";setSearchFrom a x h true fuel none
   |some i'=>if equal then return .there (some i') else setSearchFrom a x h true fuel (some next)):=rfl
theorem rf (n:Nat){v:Value}(h:carriedByValue v=true):ofAClassStatement n v=pure false:=by
 cases v with
 |ref a=>simp[carriedByValue] at h
 |_=>first |rfl | (unfold ofAClassStatement;rfl)
theorem tW (n:Nat){v:Value}{k:Int}(h:(intKind prog w).is k v=true):hashByValue n v=pure true:=by
 obtain⟨t,rfl⟩:=Value.isInt_shape h
 cases n <;> rfl
theorem kN {p:Pr}{a:Addr}{Q:Bool->Shared->Prop}(hk:bD prog w s.heap p a)(h:Q false s):wpAny (model prog w) A (ofAClassStatement 8 (.ref a)) Q E s:=by
 have hT:=hk.typeIs
 obtain⟨o,items,n,ho,hc,hd,hi⟩:=hk
 unfold ofAClassStatement
 refine wpAny_bind (wpAny_typeOf hT ?_)
 dsimp only
 rw[if_pos (by decide)]
 refine wpAny_bind (wpAny_pure ?_)
 simp only[Bool.not_true,Bool.false_eq_true,if_false]
 refine wpAny_bind (wpAny_seqItems ho hd ?_)
 dsimp only
 refine wpAny_bind ?_
 rw[<-Array.forIn_toList]
 refine wpAny_forIn_list _ (fun rest r s'=>r.1=none/\s'=s/\∀v∈rest,carriedByValue v=true) _ ?_ ?_ _ _ ⟨rfl,rfl,hi.byValue⟩
 ·rintro v rest r s' ⟨hr,rfl,hall⟩
  rw[rf _ (hall v List.mem_cons_self)]
  refine wpAny_bind (wpAny_pure ?_)
  simp only[Bool.false_eq_true,if_false]
  exact wpAny_pure ⟨rfl,rfl,fun u hu'=>hall u (List.mem_cons_of_mem _ hu')⟩
 ·rintro⟨r1,r2⟩ s' ⟨hr,rfl,_⟩
  simp only at hr
  subst hr
  exact wpAny_pure h
theorem qX {p:Pr}{a:Addr}{Q:Bool->Shared->Prop}(hk:bD prog w s.heap p a)(h:Q true s):wpAny (model prog w) A (hashByValue 8 (.ref a)) Q E s:=by
 have hT:=hk.typeIs
 obtain⟨o,items,n,ho,hc,hd,hi⟩:=hk
 unfold hashByValue
 refine wpAny_bind (wpAny_specialOf hT F.slot_tuple_hash.lookup ?_)
 dsimp only
 refine wpAny_bind (wpAny_seqItems ho hd ?_)
 simp only[Option.getD_some]
 refine wpAny_bind ?_
 rw[<-Array.forIn_toList]
 refine wpAny_forIn_list _ (fun rest r s'=>r.1=none/\s'=s/\∀v∈rest,∃k,(intKind prog w).is k v=true) _ ?_ ?_ _ _ ⟨rfl,rfl,fun v hv=>?_⟩
 ·rintro v rest r s' ⟨hr,rfl,hall⟩
  obtain⟨k,hk⟩:=hall v List.mem_cons_self
  rw[tW _ hk]
  refine wpAny_bind (wpAny_pure ?_)
  simp only[Bool.not_true,Bool.false_eq_true,if_false]
  exact wpAny_pure ⟨rfl,rfl,fun u hu'=>hall u (List.mem_cons_of_mem _ hu')⟩
 ·rintro⟨r1,r2⟩ s' ⟨hr,rfl,_⟩
  simp only at hr
  subst hr
  exact wpAny_pure h
 ·generalize items.toList=l at *
  cases hi with
  |cons h1 hi=>
   cases hi with
   |cons h2 hi=>
    cases hi
    rcases List.mem_cons.mp hv with rfl |hv
    ·exact⟨_,h1⟩
    ·rcases List.mem_cons.mp hv with rfl |hv
     ·exact⟨_,h2⟩
     ·cases hv
theorem uq {p:Pr}{a:Addr}(hk:bD prog w s.heap p a):∀(l:List Value) {Q:Bool->Shared->Prop},(∀v∈l,∃q b,v=.ref b/\bD prog w s.heap q b)->Q false s->wpAny (model prog w) A (searchCouldBeSeen (.ref a) l) Q E s:=by
 intro l Q hl h
 unfold searchCouldBeSeen
 refine wpAny_bind ?_
 refine wpAny_forIn_list _ (fun rest r s'=>r.1=none/\s'=s/\∀v∈rest,∃q b,v=.ref b/\bD prog w s.heap q b) _ ?_ ?_ _ _ ⟨rfl,rfl,hl⟩
 ·rintro v rest r s' ⟨hr,rfl,hall⟩
  obtain⟨q,b,rfl,hb⟩:=hall v List.mem_cons_self
  have hrest:=fun u hu'=>hall u (List.mem_cons_of_mem _ hu')
  dsimp only
  split
  ·exact wpAny_pure ⟨rfl,rfl,hrest⟩
  ·refine wpAny_bind (wpAny_eqIsQuiet_tuple hk ?_)
   simp only[Bool.not_true,Bool.false_eq_true,if_false]
   refine wpAny_bind (wpAny_eqIsQuiet_tuple hb ?_)
   simp only[Bool.not_true,Bool.false_eq_true,if_false]
   refine wpAny_bind (kN hk ?_)
   simp only[Bool.false_eq_true,if_false]
   refine wpAny_bind (kN hb ?_)
   simp only[Bool.false_eq_true,if_false]
   exact wpAny_pure ⟨rfl,rfl,hrest⟩
 ·rintro⟨r1,r2⟩ s' ⟨hr,rfl,_⟩
  simp only at hr
  subst hr
  exact wpAny_pure h
end
end L2.ST

end

section
namespace L2.ST
open PySem PySem.SetTable
section
variable {prog:Program}{w:World}{A:Around}{E:Value->Shared->Prop}{s:Shared}
theorem sM (t:SetTable)(hs:Array Int)(wanted:Nat)(hp:t.plain=true):t.relaid hs wanted=laid (sizeAbove wanted - 1) t.finger (t.movedTo (sizeAbove wanted - 1)) t.led true hs:=by
 unfold relaid;rw[hp]
theorem CH:sizeAbove (grown 5)=32/\sizeAbove (grown 19)=128:=by decide +kernel
theorem filterMap_get {α:Type}(es:Array α):∀(order:List Nat),(∀k,k∈order->k < es.size)->∃l:List α,order.filterMap (fun i=>es[i]?)=l/\l.length=order.length/\(∀(i k:Nat),order[i]? =some k->l[i]? =es[k]?)/\∀x,x∈l->∃k,k∈order/\es[k]? =some x
 | [],_=>⟨[],rfl,rfl,fun i k h=>by simp at h,fun x hx=>by cases hx⟩
 |k :: r,h=>by
  obtain⟨l,e1,e2,e3,e4⟩:=filterMap_get es r fun x hx=>h x (List.mem_cons_of_mem _ hx)
  have hk:=h k (List.mem_cons_self ..)
  refine⟨es[k] :: l,by rw[List.filterMap_cons,Array.getElem?_eq_getElem hk,e1],by simp[e2],fun i x hi=>?_,fun x hx=>?_⟩
  ·cases i with
   |zero=>simp at hi;subst hi;simp[hk]
   |succ i=>simp at hi;simpa using e3 i x hi
  ·rcases List.mem_cons.mp hx with rfl |hx
   ·exact⟨k,List.mem_cons_self ..,by simp[hk]⟩
   ·obtain⟨y,hy,q⟩:=e4 x hx
    exact⟨y,List.mem_cons_of_mem _ hy,q⟩
abbrev du (f:Pr->Int)(q:Addr×Pr):Int×Value:=(f q.2,Value.ref q.1)
theorem pJ (f:Pr->Int){mask:Nat}(hm:zp mask){ps:List (Addr×Pr)}(hl:ps.length * 5 < mask * 3)(finger moves:Nat)(led:Bool) :
  ∃(t:SetTable) (order:Array Nat) (ps':List (Addr×Pr)),laid mask finger moves led true ((ps.map (du f)).toArray.map (·.1))=some (t,order)/\order.filterMap (fun i=>(ps.map (du f)).toArray[i]?)=(ps'.map (du f)).toArray/\ps'.length=ps.length/\
   (∀q,q∈ps'↔q∈ps)/\Tab t (ps'.map fun q=>f q.2)/\t.led=led:=by
 obtain⟨t,order,e,el,em,nd,mem,T⟩:=xA hm ((ps.map (du f)).toArray.map (·.1)) (by simpa using hl) finger moves led
 have hsz:((ps.map (du f)).toArray.map (·.1)).size=ps.length:=by simp
 obtain⟨ps',f1,f2,f3,f4⟩:=filterMap_get ps.toArray order.toList fun k hk=>by
  have:=(mem k).mp hk;rw[hsz] at this;simpa using this
 have hlen:order.toList.length=ps.length:=by
  have a1:=b5 (m:=List.range ps.length) nd fun x hx=>List.mem_range.mpr (by have:=(mem x).mp hx;rwa [hsz] at this)
  have a2:=b5 (l:=List.range ps.length) (m:=order.toList) List.nodup_range fun x hx=>(mem x).mpr (by rw[hsz];exact List.mem_range.mp hx)
  simp at a1 a2 ⊢;omega
 refine⟨t,order,ps',e,?_,by omega,fun q=>⟨fun hq=>?_,fun hq=>?_⟩,?_,el⟩
 ·apply Array.toList_inj.mp
  rw[Array.toList_filterMap,<-f1]
  simp only[List.toList_toArray]
  rw[List.map_filterMap]
  congr 1
  funext i
  simp
 ·obtain⟨k,_,q2⟩:=f4 q hq
  rw[List.getElem?_toArray] at q2
  exact List.mem_of_getElem? q2
 ·obtain⟨k,hk,q2⟩:=List.mem_iff_getElem.mp hq
  have hko:k∈order.toList:=(mem k).mpr (by rw[hsz];exact hk)
  obtain⟨i,hi,e2⟩:=List.mem_iff_getElem.mp hko
  have:=f3 i k (by rw[List.getElem?_eq_getElem hi,e2])
  rw[List.getElem?_toArray,List.getElem?_eq_getElem hk,q2] at this
  exact List.mem_of_getElem? this
 ·have:(order.toList.map fun k=>((ps.map (du f)).toArray.map (·.1)).toList.getD k 0)=ps'.map fun q=>f q.2:=by
   apply List.ext_getElem?
   intro i
   rw[List.getElem?_map,List.getElem?_map]
   cases hi:order.toList[i]? with
   |none=>
    have:ps'[i]? =none:=List.getElem?_eq_none_iff.mpr (by rw[f2];exact List.getElem?_eq_none_iff.mp hi)
    rw[this];rfl
   |some k=>
    have hk:k < ps.length:=by have:=(mem k).mp (List.mem_of_getElem? hi);rwa [hsz] at this
    have:=f3 i k hi
    rw[List.getElem?_toArray,List.getElem?_eq_getElem hk] at this
    rw[this]
    simp[hk]
  rw[<-this];exact T
theorem lT:∀{l m:List Int},m.Nodup->(∀x,x∈m->x∈l)->l.length<=m.length->l.Nodup
 | [],_,_,_,_=>List.nodup_nil
 |a :: l,m,hn,hs,hl=>by
  by_cases ha:a∈m
  ·have hnot:a∉l:=fun z=>by
    have:=b5 (m:=l) hn fun x hx=>by
     rcases List.mem_cons.mp (hs x hx) with e |e
     ·rw[e];exact z
     ·exact e
    simp only[List.length_cons] at hl;omega
   refine List.nodup_cons.mpr ⟨hnot,lT (m:=m.erase a) (hn.erase a) (fun x hx=>?_) ?_⟩
   ·have:=(hn.mem_erase_iff).mp hx
    rcases List.mem_cons.mp (hs x this.2) with e |e
    ·exact absurd e this.1
    ·exact e
   ·rw[List.length_erase_of_mem ha];simp only[List.length_cons] at hl;omega
  ·have:=b5 (m:=l) hn fun x hx=>by
    rcases List.mem_cons.mp (hs x hx) with e |e
    ·exact absurd (e▸hx) ha
    ·exact e
   simp only[List.length_cons] at hl;omega
theorem ql (a:Addr)(es:Array (Int×Value)):byScan (.ref a) es=false:=by unfold byScan Value.scannable;simp
theorem sP {t:SetTable}(h:zp t.mask):t.gaveWay=false:=by
 unfold SetTable.gaveWay
 rcases h with e |e |e <;> rw[e] <;> decide
theorem pP.add {f:Pr->Int}(hinj:∀p q,Sm p->Sm q->f p=f q->p=q){led:Bool}{S a:Addr}{ps:List (Addr×Pr)}{p:Pr}{Q:Bool->Shared->Prop}(P:pP f prog w led s.heap S ps)(hk:bD prog w s.heap p a)(hs:Sm p)(hu:A.units < cLine)
  (h:∀(b:Bool) (h':Heap) (ps':List (Addr×Pr)),Heap.SameBut S s.heap h'->pP f prog w led h' S ps'->(∀q,q∈ps'->q∈ps\/q=(a,p))->(∀q,q∈ps->q∈ps')->(∃q,q∈ps'/\q.2=p)->Q b {s with heap:=h'}) :
  wpAny (model prog w) A (setAddHashed S (.ref a) (f p)) Q E s:=by
 obtain⟨o,ep,t,ho,hex,hd,T,hled⟩:=P.ex
 have hfit:t.fits (ps.map (du f)).toArray.size=true:=mT T (by simp)
 have ha:∀i,i < (ps.map fun q=>f q.2).length->some ((((ps.map (du f)).toArray)[i]?.map (·.1)).getD 0)=(ps.map fun q=>f q.2)[i]?:=fun i hi=>by
  have hi':i < ps.length:=by simpa using hi
  simp[hi']
 unfold setAddHashed
 refine wpAny_holding ?_
 unfold setAddHashedIn
 refine wpAny_bind (wpAny_setState_of ho hd hfit ?_)
 dsimp only
 rw[ql]
 simp only[Bool.false_eq_true,if_false]
 unfold setSearch
 rw[wd]
 refine wpAny_bind (wpAny_bind (wpAny_setState_of ho hd hfit ?_))
 dsimp only
 rw[sP T.mask]
 simp only[Bool.false_eq_true,if_false]
 by_cases hm:f p∈ps.map fun q=>f q.2
 ·
  obtain⟨j,i,nx,e1,e2,e3,e4⟩:=T.present ha hm
  rw[e1]
  dsimp only
  have hi:i < ps.length:=by simpa using e3
  have e5:f (ps[i].2)=f p:=by
   rw[List.getElem?_map,List.getElem?_eq_getElem hi] at e4
   simpa using e4
  have hq:=P.at' ps[i] (List.getElem_mem hi)
  have e6:ps[i].2=p:=hinj _ _ hq.2 hs e5
  have hget:((ps.map (du f)).toArray)[i]? =some (f ps[i].2,.ref ps[i].1):=by simp[hi]
  have rest:wpAny (model prog w) A (do
    let some (_,y):=((ps.map (du f)).toArray)[i]? |unsupported "internal:set-entry"
    let equal <-holding [y] (eqBool y (.ref a))
    let (es',_,t') <-setState S
    if true && equal then return SetFound.there none
    let some same:=t'.sameMemory t.moves t.mask |unsupported "set.changed-during-lookup:is-the-new-block-at-the-old-address"
    let still <-match (if same then t'.slot j else .empty) with
     | .live i'=>match es'[i']? with
      |some (_,y')=>do pure (if <-isSame y' y then some i' else none)
      |none=>pure none
     |_=>pure none
    match still with
    |none=>rule "set.search.anew";setSearchFrom S (.ref a) (f p) true 99999 none
    |some i'=>if equal then return .there (some i') else setSearchFrom S (.ref a) (f p) true 99999 (some nx))
    (fun r s'=>s'=s/\r=.there none) E s:=by
   rw[hget]
   dsimp only
   refine wpAny_bind (wpAny_holding (wpAny_eqBool_tuple hu hq.1 hk ?_))
   rw[decide_eq_true (by rw[e6])]
   refine wpAny_bind (wpAny_setState_of ho hd hfit ?_)
   dsimp only
   simp only[Bool.and_self,if_true]
   exact wpAny_pure ⟨rfl,rfl⟩
  have fin:∀r s',s'=s/\r=SetFound.there none->wpAny (model prog w) A (match r with
    | .free slot wasDummy=>(do
     let (es,_,t) <-setState S
     let (t,p'):=t.put slot
     let byValue <-if t.plain then hashByValue 8 (.ref a) else pure true
     let t:=if byValue then t else {t with plain:=false}
     storeSet S (SetTable.insertAt es p' (f p,.ref a)) t
     if !wasDummy && t.tooFull then setRelay S (SetTable.grown (es.size + 1))
     return true)
    |_=>pure false) Q E s':=by
   rintro r s' ⟨rfl,rfl⟩
   exact wpAny_pure (h false s'.heap ps (Heap.SameBut.refl ..) P (fun q hq=>.inl hq) (fun q hq=>hq) ⟨ps[i],List.getElem_mem hi,e6⟩)
  cases hl:led with
  |true=>
   rw[hled,hl]
   simp only[Bool.not_true,Bool.false_eq_true,if_false]
   exact wpAny_mono rest (fun r s' hr=>fin r s' hr) fun _ _ x=>x
  |false=>
   rw[hled,hl]
   simp only[Bool.not_false,if_true]
   refine wpAny_bind (uq hk _ (fun v hv=>?_) ?_)
   ·obtain⟨x,hx,rfl⟩:=List.mem_map.mp hv
    have hx':x∈(ps.map (du f)).toArray:=(Array.mem_filter.mp (Array.mem_toList_iff.mp hx)).1
    have hx2:x∈ps.map (du f):=by simpa using hx'
    obtain⟨q,hq,rfl⟩:=List.mem_map.mp hx2
    exact⟨q.2,q.1,rfl,(P.at' q hq).1⟩
   ·simp only[Bool.false_eq_true,if_false]
    exact wpAny_mono rest (fun r s' hr=>fin r s' hr) fun _ _ x=>x
 ·
  obtain⟨j,e1,e2,e3,e4⟩:=T.absent ha hm
  rw[e1]
  dsimp only
  refine wpAny_pure ?_
  dsimp only
  refine wpAny_bind (wpAny_setState_of ho hd hfit ?_)
  dsimp only
  obtain⟨q1,q2⟩:=oJ t j T.dum
  have hpl:(t.put j).1.plain=true:=by rw[q1];exact T.plain
  rw[hpl]
  simp only[if_true]
  refine wpAny_bind (qX hk ?_)
  simp only[if_true]
  have hb:(t.put j).2<=ps.length:=by
   rw[q2]
   have:=(dk T.rise j).1
   rw[T.size] at this;simpa using this
  have hins:insertAt (ps.map (du f)).toArray (t.put j).2 (f p,Value.ref a)=((ps.take (t.put j).2 ++ (a,p) :: ps.drop (t.put j).2).map (du f)).toArray:=by
   apply Array.toList_inj.mp
   rw[bN _ _ _ (by simpa using hb)]
   simp[List.map_take,List.map_drop]
  rw[hins]
  generalize hps':ps.take (t.put j).2 ++ (a,p) :: ps.drop (t.put j).2=ps1
  have mem1:∀q,q∈ps1↔q∈ps\/q=(a,p):=fun q=>by
   rw[<-hps',List.mem_append,List.mem_cons]
   conv=>rhs;rw[<-List.take_append_drop (t.put j).2 ps,List.mem_append]
   constructor
   ·rintro (z |z |z)
    ·exact .inl (.inl z)
    ·exact .inr z
    ·exact .inl (.inr z)
   ·rintro ((z |z) |z)
    ·exact .inl z
    ·exact .inr (.inr z)
    ·exact .inr (.inl z)
  have len1:ps1.length=ps.length + 1:=by rw[<-hps'];simp;omega
  have nd1:(ps1.map (·.2)).Nodup:=by
   have hnot:p∉ps.map (·.2):=fun z=>by
    obtain⟨q,hq,e⟩:=List.mem_map.mp z
    exact hm (List.mem_map.mpr ⟨q,hq,by rw[e]⟩)
   have perm:(ps1.map (·.2)).Perm (p :: ps.map (·.2)):=by
    rw[<-hps']
    have:(ps.take (t.put j).2 ++ (a,p) :: ps.drop (t.put j).2).Perm ((a,p) :: ps):=by
     refine List.perm_middle.trans ?_
     rw[List.take_append_drop]
    exact this.map (·.2)
   exact perm.nodup_iff.mpr (List.nodup_cons.mpr ⟨hnot,P.nd⟩)
  have ne:∀b q,bD prog w s.heap q b->b≠S:=fun b q ⟨o',_,_,ho',_,hd',_⟩ e=>by
   subst e
   rw[ho] at ho';cases ho'
   rw[hd] at hd';cases hd'
  have at1:∀{h':Heap},Heap.SameBut S s.heap h'->∀q,q∈ps1->bD prog w h' q.2 q.1/\Sm q.2:=fun {h'} hsb q hq=>by
   have key:∀{b:Addr} {q:Pr},bD prog w s.heap q b->bD prog w h' q b:=fun {b q} hb=>by
    have hne:=ne b q hb
    obtain⟨o',i',n',ho',r'⟩:=hb
    exact⟨o',i',n',(hsb.2 b hne).trans ho',r'⟩
   rcases (mem1 q).mp hq with z |z
   ·exact⟨key (P.at' q z).1,(P.at' q z).2⟩
   ·subst z;exact⟨key hk,hs⟩
  have hlen64:ps1.length<=64:=by
   have:=sY nd1 fun x hx=>by
    obtain⟨q,hq,rfl⟩:=List.mem_map.mp hx
    exact (at1 (Heap.SameBut.refl ..) q hq).2
   simpa using this
  have hsize:((ps1.map (du f)).toArray).size<=sizeLine:=by rw[sizeLine_eq];simp;omega
  refine wpAny_bind (wpAny_storeSet_of ho hd ?_ hsize)
  have ho1:(s.heap.update S (Obj.putSet (ps1.map (du f)).toArray (t.put j).1)).get? S=some {o with data:=.set (ps1.map (du f)).toArray (ep + 1) (t.put j).1}:=by
   have:=Heap.get?_update_self (Obj.putSet (ps1.map (du f)).toArray (t.put j).1) ho (by rw[putSet_of _ _ hd];rfl)
   rw[putSet_of _ _ hd] at this;exact this
  have sb1:=Heap.SameBut.update s.heap S (Obj.putSet (ps1.map (du f)).toArray (t.put j).1)
  have hex1:({o with data:=.set (ps1.map (du f)).toArray (ep + 1) (t.put j).1}:Obj).ExactSet:=hex
  have psz:(t.put j).1.place.size=ps.length + 1:=by
   rw[q1]
   show (insertAt t.place (below t.place j) j).size=_
   rw[<-Array.length_toList,bN _ _ _ (dk T.rise j).1]
   have:=T.size
   simp at this ⊢
   have:=(dk T.rise j).1
   omega
  have dum1:(t.put j).1.dummies=#[]:=by rw[q1];exact T.dum
  have mask1:(t.put j).1.mask=t.mask:=by rw[q1]
  have tsz:t.place.size=ps.length:=by simpa using T.size
  simp only[Bool.not_false,Bool.true_and]
  cases htf:(t.put j).1.tooFull with
  |false=>
   simp only[Bool.false_eq_true,if_false]
   have hload:(t.place.size + 1) * 5 < t.mask * 3:=by
    unfold SetTable.tooFull SetTable.fill at htf
    rw[psz,dum1,mask1] at htf
    simp at htf
    rw[tsz];exact htf
   obtain⟨T1,_⟩:=T.put e2 e3 e4 hload
   refine wpAny_bind (wpAny_pure (wpAny_pure (h true _ ps1 sb1 ⟨⟨_,ep + 1,_,ho1,hex1,rfl,?_,?_⟩,at1 sb1,nd1⟩ (fun q hq=>(mem1 q).mp hq) (fun q hq=>(mem1 q).mpr (.inl hq)) ⟨(a,p),(mem1 _).mpr (.inr rfl),rfl⟩)))
   ·rw[<-hps']
    simpa[List.map_take,List.map_drop] using T1
   ·rw[q1];exact hled
  |true=>
   simp only[if_true]
   have hfull:t.mask * 3<=(ps.length + 1) * 5:=by
    unfold SetTable.tooFull SetTable.fill at htf
    rw[psz,dum1,mask1] at htf
    simpa using htf
   have hload:=T.load
   rw[tsz] at hload
   have hcase:∃mask',zp mask'/\sizeAbove (grown (ps.length + 1)) - 1=mask'/\sizeAbove (grown (ps.length + 1))<=sizeLine/\(ps.length + 1) * 5 < mask' * 3:=by
    rcases T.mask with e |e |e
    ·have:ps.length + 1=5:=by rw[e] at hfull hload;omega
     rw[this,CH.1]
     exact⟨31,.inr (.inl rfl),rfl,by rw[sizeLine_eq];decide,by decide⟩
    ·have:ps.length + 1=19:=by rw[e] at hfull hload;omega
     rw[this,CH.2]
     exact⟨127,.inr (.inr rfl),rfl,by rw[sizeLine_eq];decide,by decide⟩
    ·rw[e] at hfull;omega
   obtain⟨mask',hm3,em,hline,hl2⟩:=hcase
   have hes:(ps.map (du f)).toArray.size + 1=ps.length + 1:=by simp
   rw[hes,zk]
   have hfit1:(t.put j).1.fits ((ps1.map (du f)).toArray).size=true:=by
    unfold SetTable.fits SetTable.fill
    have hpl2:ps.length + 1<=t.mask:=by
     rcases T.mask with e |e |e <;> rw[e] at hload ⊢ <;> omega
    rw[psz,dum1,mask1]
    simp[len1,hpl2]
   refine wpAny_bind (wpAny_bind (wpAny_setState_of ho1 rfl hfit1 ?_))
   dsimp only
   rw[if_neg (by omega)]
   rw[sM _ _ _ hpl,em]
   obtain⟨t2,order,ps2,g1,g2,g3,g4,g5,g6⟩:=pJ f hm3 (ps:=ps1) (by rw[len1];exact hl2) (t.put j).1.finger ((t.put j).1.movedTo mask') (t.put j).1.led
   rw[g1]
   simp only[bind_pure_comp,pure_bind]
   rw[g2]
   have hne:((ps2.map (du f)).toArray.size != (ps1.map (du f)).toArray.size)=false:=by simp[g3]
   rw[hne]
   simp only[Bool.false_eq_true,if_false]
   have hsize2:((ps2.map (du f)).toArray).size<=sizeLine:=by rw[sizeLine_eq];simp;omega
   refine wpAny_bind (wpAny_pure ?_)
   refine wpAny_storeSet_of ho1 rfl ?_ hsize2
   have ho2:((s.heap.update S (Obj.putSet (ps1.map (du f)).toArray (t.put j).1)).update S (Obj.putSet (ps2.map (du f)).toArray t2)).get? S=some {o with data:=.set (ps2.map (du f)).toArray (ep + 1 + 1) t2}:=by
    have:=Heap.get?_update_self (Obj.putSet (ps2.map (du f)).toArray t2) ho1 (by rw[putSet_of (ep:=ep + 1) _ _ rfl];rfl)
    rw[putSet_of (ep:=ep + 1) _ _ rfl] at this;exact this
   have sb2:=sb1.trans (Heap.SameBut.update _ S (Obj.putSet (ps2.map (du f)).toArray t2))
   have nd2:(ps2.map (·.2)).Nodup:=by
    have hmem:∀q,q∈ps2.map (·.2)↔q∈ps1.map (·.2):=fun q=>by
     rw[List.mem_map,List.mem_map]
     exact⟨fun⟨x,hx,e⟩=>⟨x,(g4 x).mp hx,e⟩,fun⟨x,hx,e⟩=>⟨x,(g4 x).mpr hx,e⟩⟩
    have hnd:(ps2.map fun q=>f q.2).Nodup:=by
     refine lT (m:=ps1.map fun q=>f q.2) ?_ (fun x hx=>?_) (by simp[g3])
     ·have:(ps1.map fun q=>f q.2)=(ps1.map (·.2)).map f:=by simp
      rw[this]
      refine List.pairwise_map.mpr (List.Pairwise.imp_of_mem ?_ nd1)
      intro x y hx hy hxy e
      obtain⟨q,hq,rfl⟩:=List.mem_map.mp hx
      obtain⟨r,hr,rfl⟩:=List.mem_map.mp hy
      exact hxy (hinj _ _ (at1 sb1 q hq).2 (at1 sb1 r hr).2 e)
     ·obtain⟨q,hq,rfl⟩:=List.mem_map.mp hx
      exact List.mem_map.mpr ⟨q,(g4 q).mpr hq,rfl⟩
    have:(ps2.map fun q=>f q.2)=(ps2.map (·.2)).map f:=by simp
    rw[this] at hnd
    exact (List.pairwise_map.mp hnd).imp fun hxy e=>hxy (by rw[e])
   refine wpAny_pure (h true _ ps2 sb2 ⟨⟨_,ep + 1 + 1,t2,ho2,hex,rfl,g5,?_⟩,fun q hq=>at1 sb2 q ((g4 q).mp hq),nd2⟩ (fun q hq=>(mem1 q).mp ((g4 q).mp hq)) (fun q hq=>(g4 q).mpr ((mem1 q).mpr (.inl hq))) ⟨(a,p),(g4 _).mpr ((mem1 _).mpr (.inr rfl)),rfl⟩)
   rw[g6,q1];exact hled
end
end L2.ST

end

section
namespace L2.ST
open PySem PySem.SetTable
def fk (w:World):Bool:= !(w.params.followText "set-order")
def xK (prog:Program)(w:World)(p:Pr):Int:=tupleKeyHash (intKind prog w) [p.1,p.2]
theorem AE (prog:Program)(w:World):∀p q,Sm p->Sm q->xK prog w p=xK prog w q->p=q:=fun p q h1 h2 e=>Dz h1 h2 e
section
variable {prog:Program}{w:World}{A:Around}{E:Value->Shared->Prop}{s:Shared}{R:Result->Shared->Prop}{I:Addr}{fp wr:List Addr}{n:Nat}{P:Nat->Value->Prop}{St:Nat->Heap->Prop}
def cU (prog:Program)(w:World)(h:Heap)(vs:List Value)(ps:List Pr):Prop:=vs.length=ps.length/\∀(i:Nat) (v:Value) (p:Pr),vs[i]? =some v->ps[i]? =some p->∃a,v=.ref a/\bD prog w h p a/\Sm p
abbrev my (prog:Program)(w:World)(h:Heap)(S:Addr)(vs:List Value)(ps:List Pr)(k:Nat):Prop:=∃qs:List (Addr×Pr),pP (xK prog w) prog w (fk w) h S qs/\
 (∀q,q∈qs->Value.ref q.1∈vs.take k/\q.2∈ps.take k)/\∀p,p∈ps.take k->p∈qs.map (·.2)
theorem kF (W:Walks prog w A.in1 I fp wr n P St)(S:Addr)(hSf:S∉fp){vs:List Value}{ps:List Pr}(hn:vs.length=n)(hP:∀i v,P i v->vs[i]? =some v)(hu:A.in1.units < cLine)(h₀:Heap)
  (hps:cU prog w h₀ vs ps) (hwr:∀b o,b∈S :: wr->h₀.get? b=some o->False):∀(k i:Nat) (s:Shared),n - i=k->i<=n->St i s.heap->(∀b o,h₀.get? b=some o->s.heap.get? b=some o)->my prog w s.heap S vs ps i->
   (∀h' tk,(∀b o,b∉S :: wr->s.heap.get? b=some o->h'.get? b=some o)->my prog w h' S vs ps n->R (.ok (.ret .none)) {s with heap:=h',toks:=tk})->
   codeAny (model prog w) A (.builtin "set.update.loop" ⟨[.ref S,.ref I],[]⟩) R s:=by
 have nw:S∉wr:=fun h=>hSf (W.sub _ h)
 intro k
 induction k with
 |zero=>
  intro i s hk hi hst hk0 hF hR
  obtain rfl:i=n:=by omega
  refine codeAny_builtin PyProof.Rows.F.entry_set_update_loop ?_
  rw[Around.under_plainId PyProof.Rows.F.plain_set_update_loop _]
  show wpAny _ A.in1 (pyNext (.ref I) >>= fun r=>_) _ _ s
  refine wpAny_bind (W.done s _ _ hst fun h' tk hm=>?_)
  show wpAny _ A.in1 (ret Value.none) _ _ _
  refine wpAny_pure (hR h' tk (fun b o hb e=>hm b o (fun z=>hb (List.mem_cons_of_mem _ z)) e) ?_)
  obtain⟨qs,Q1,Q2,Q3⟩:=hF
  obtain⟨o,ep,t,ho,r⟩:=Q1.ex
  refine⟨qs,⟨⟨o,ep,t,hm S o nw ho,r⟩,fun q hq=>⟨?_,(Q1.at' q hq).2⟩,Q1.nd⟩,Q2,Q3⟩
  obtain⟨m,hm1,hm2⟩:=List.mem_iff_getElem.mp (List.mem_of_mem_take (Q2 q hq).1)
  have hm1':m < ps.length:=by rw[<-hps.1];exact hm1
  obtain⟨a,ea,ha,_⟩:=hps.2 m vs[m] ps[m] (List.getElem?_eq_getElem hm1) (List.getElem?_eq_getElem hm1')
  rw[hm2] at ea
  cases ea
  obtain⟨o',it',n',ho',r'⟩:=(Q1.at' q hq).1
  obtain⟨o2,it2,n2,ho2,r2⟩:=ha
  have:o'=o2:=Option.some.inj (ho'.symm.trans (hk0 _ _ ho2))
  subst this
  exact⟨o',it',n',hm _ _ (fun z=>hwr _ _ (List.mem_cons_of_mem _ z) ho2) ho',r'⟩
 |succ k ih=>
  intro i s hk hi hst hk0 hF hR
  have hlt:i < n:=by omega
  refine codeAny_builtin PyProof.Rows.F.entry_set_update_loop ?_
  rw[Around.under_plainId PyProof.Rows.F.plain_set_update_loop _]
  show wpAny _ A.in1 (pyNext (.ref I) >>= fun r=>_) _ _ s
  refine wpAny_bind (W.item i s _ _ hlt hst fun v h1 tk1 hv hst1 hm=>?_)
  have hvi:=hP i v hv
  have hip:i < ps.length:=by rw[<-hps.1,hn];exact hlt
  obtain⟨a,rfl,ha,hsm⟩:=hps.2 i v ps[i] hvi (List.getElem?_eq_getElem hip)
  have k1:∀b o,h₀.get? b=some o->h1.get? b=some o:=fun b o e=>hm b o (fun z=>hwr b o (List.mem_cons_of_mem _ z) e) (hk0 b o e)
  obtain⟨qs,Q1,Q2,Q3⟩:=hF
  have old:∀{q:Addr×Pr} {h:Heap},q∈qs->(∀b o,h₀.get? b=some o->h.get? b=some o)->bD prog w h q.2 q.1:=fun {q h} hq kk=>by
   obtain⟨m,hm1,hm2⟩:=List.mem_iff_getElem.mp (List.mem_of_mem_take (Q2 q hq).1)
   have hm1':m < ps.length:=by rw[<-hps.1];exact hm1
   obtain⟨a,ea,ha,_⟩:=hps.2 m vs[m] ps[m] (List.getElem?_eq_getElem hm1) (List.getElem?_eq_getElem hm1')
   rw[hm2] at ea
   cases ea
   obtain⟨o',it',n',ho',r'⟩:=(Q1.at' q hq).1
   obtain⟨o2,it2,n2,ho2,r2⟩:=ha
   have:o'=o2:=Option.some.inj (ho'.symm.trans (hk0 _ _ ho2))
   subst this
   exact⟨o',it',n',kk _ _ ho2,r'⟩
  have P1:pP (xK prog w) prog w (fk w) h1 S qs:=by
   obtain⟨o,ep,t,ho,r⟩:=Q1.ex
   exact⟨⟨o,ep,t,hm S o nw ho,r⟩,fun q hq=>⟨old hq k1,(Q1.at' q hq).2⟩,Q1.nd⟩
  have ha1:bD prog w h1 ps[i] a:=by
   obtain⟨o',it',n',ho',r'⟩:=ha
   exact⟨o',it',n',k1 _ _ ho',r'⟩
  show wpAny _ A.in1 (holding [Value.ref a] (setAdd S (.ref a)) >>= fun _=>_) _ _ _
  refine wpAny_bind (wpAny_holding ?_)
  unfold setAdd
  refine wpAny_holding (wpAny_bind (wpAny_pyHash_tuple hu ha1 ?_))
  refine pP.add (AE prog w) (s:={s with heap:=h1,toks:=tk1 + ([ps[i].1,ps[i].2].length + 1)}) P1 ha1 hsm hu fun b h2 qs' sb P2 m1 m2 m3=>?_
  have sbS:∀b o,h₀.get? b=some o->h2.get? b=some o:=fun b o e=>(sb.2 b (fun z=>hwr b o (by rw[z];exact List.mem_cons_self) e)).trans (k1 b o e)
  refine wpAny_pure ⟨plainId_quiet PyProof.Rows.F.plain_set_update_loop _,ih (i + 1) _ (by omega) hlt (W.frame _ _ _ hst1 fun b hb o e=>?_) sbS ⟨qs',P2,fun q hq=>?_,fun p hp=>?_⟩ fun h' tk hm' F'=>?_⟩
  ·rw[sb.2 b fun z=>hSf (by rw[<-z];exact hb)];exact e
  ·have htk:∀{α:Type} {l:List α} {x:α},x∈l.take i->x∈l.take (i + 1):=fun {α l x} hx=>by
    rw[List.take_add_one];exact List.mem_append_left _ hx
   rcases m1 q hq with z |z
   ·exact⟨htk (Q2 q z).1,htk (Q2 q z).2⟩
   ·subst z
    refine⟨?_,?_⟩
    ·rw[List.take_add_one,hvi];exact List.mem_append_right _ (by simp)
    ·rw[List.take_add_one,List.getElem?_eq_getElem hip];exact List.mem_append_right _ (by simp)
  ·rw[List.take_add_one,List.getElem?_eq_getElem hip] at hp
   rcases List.mem_append.mp hp with z |z
   ·obtain⟨q,hq,rfl⟩:=List.mem_map.mp (Q3 p z)
    exact List.mem_map.mpr ⟨q,m2 q hq,rfl⟩
   ·have:p=ps[i]:=by simpa using z
    obtain⟨q,hq,e⟩:=m3
    exact List.mem_map.mpr ⟨q,hq,by rw[e,this]⟩
  ·refine hR h' tk (fun b o hb e=>hm' b o hb ?_) F'
   show h2.get? b=some o
   rw[sb.2 b fun z=>hb (by rw[z];exact List.mem_cons_self)]
   exact hm b o (fun z=>hb (List.mem_cons_of_mem _ z)) e
theorem lQ (a:Value){Q1:Value->Shared->Prop}
  (h:Q1 (.ref s.heap.objs.size) {s with heap:=s.heap.push {cls:=.type "set",dict:=none,data:=.set #[] 0 (.fresh 0 0 (fk w))}}) :
  codeAny (model prog w) A (.call (.builtin "set.__new__") ⟨[.type "set",a],[]⟩) (wants Q1 E) s:=by
 refine codeAny_of_tree ?_
 show wpAny _ A.in1 (do (checkBuiltinCall "set.__new__" ⟨[.type "set",a],[]⟩);again (.builtin "set.__new__" ⟨[.type "set",a],[]⟩)) _ _ s
 refine wpAny_bind (wpAny_of_eq (F.newCall_set_1 a) (wpAny_pure ⟨plainId_quiet F.plain_set_new _,codeAny_builtin F.entry_set_new ?_⟩))
 rw[Around.under_plainId F.plain_set_new _]
 (unfold Builtin.«set.__new__» Builtin.Frozenset.newClass)
 have hsub0:=sub_set_self
 obtain⟨hp0,g0,d0,tk0,os0⟩:=s
 dsimp only
 wp_walk
 (refine wpAny_askSetting (wpAny_pure ?_))
 dsimp only
 simp only[newObj]
 (refine wpAny_bind (wpAny_alloc (wpAny_pure ?_)))
 exact wpAny_pure h
theorem wq (led:Bool):Tab (.fresh 0 0 led) []:=
 ⟨.inl rfl,rfl,List.Pairwise.nil,fun j h=>(by cases (Array.mem_toList_iff.mpr h)),rfl,(by show (0:Nat) * 5 < 7 * 3;decide),fun i j h e=>(by simp[SetTable.fresh] at e),rfl⟩
structure Src (prog:Program)(w:World)(h:Heap)(l:Addr)(vs:List Value)(T:String)(itO:Obj)(St:Addr->Nat->Heap->Prop):Prop where
 ty:∃o,h.get? l=some o/\o.cls=.type T
 ns:isSubtype (.type T) (.type "set")=pure false
 nf:isSubtype (.type T) (.type "frozenset")=pure false
 nd:(Value.type T == Value.type "dict")=false
 it:∀(A:Around) (s1:Shared) (Q:Value->Shared->Prop) (E:Value->Shared->Prop),(∀b o,h.get? b=some o->s1.heap.get? b=some o)->Q (.ref s1.heap.objs.size) {s1 with heap:=s1.heap.push itO}->wpAny (model prog w) A (pyIter (.ref l)) Q E s1
 st:∀(h1:Heap),(∀b o,h.get? b=some o->h1.get? b=some o)->St h1.objs.size 0 (h1.push itO)
 wk:∀(A:Around) (I:Addr),A.handled=none->l≠I->Walks prog w A I [I,l] [I] vs.length (fun i v=>vs[i]? =some v) (St I)
theorem Src.list {h:Heap}{l:Addr}{vs:List Value}(hl:h.IsList l vs.toArray):Src prog w h l vs "list" {cls:=.type "list_iterator",data:=.fields #[.ref l,.int 0 0]} (fun I i h'=>h'.IsListIter I l i/\h'.IsList l vs.toArray):=by
 obtain⟨o,ho,hc,n,hd⟩:=id hl
 refine⟨⟨o,ho,hc⟩,F.sub_list_set,F.sub_list_frozenset,by decide,fun A s1 Q E k hQ=>wpAny_pyIter_list ⟨o,k _ _ ho,hc,n,hd⟩ hQ,fun h1 k=>⟨⟨_,Heap.get?_push_size _ rfl,rfl,rfl⟩,⟨o,Heap.get?_push_of_some _ (k _ _ ho),hc,n,hd⟩⟩,fun A I hh hne=>?_⟩
 have:=Walks.list (prog:=prog) (w:=w) hh I l hne vs.toArray
 simpa using this
theorem sub_tuple_set:isSubtype (.type "tuple") (.type "set")=pure false:=by rw[isSubtype_type];kernel_rfl
theorem sub_tuple_frozenset:isSubtype (.type "tuple") (.type "frozenset")=pure false:=by rw[isSubtype_type];kernel_rfl
theorem Src.tuple {h:Heap}{l:Addr}{vs:List Value}(hl:h.IsTuple l vs.toArray):Src prog w h l vs "tuple" {cls:=.type "tuple_iterator",data:=.fields #[.ref l,.int 0 0]} (fun I i h'=>h'.IsTupleIter I l i/\h'.IsTuple l vs.toArray):=by
 obtain⟨o,ho,hc,n,hd⟩:=id hl
 refine⟨⟨o,ho,hc⟩,sub_tuple_set,sub_tuple_frozenset,by decide,fun A s1 Q E k hQ=>wpAny_pyIter_tuple ⟨o,k _ _ ho,hc,n,hd⟩ hQ,fun h1 k=>⟨⟨_,Heap.get?_push_size _ rfl,rfl,rfl⟩,⟨o,Heap.get?_push_of_some _ (k _ _ ho),hc,n,hd⟩⟩,fun A I hh hne=>?_⟩
 have:=Walks.tuple (prog:=prog) (w:=w) hh I l hne vs.toArray
 simpa using this
set_option maxHeartbeats 3200000 in
theorem mQ {l:Addr}{vs:List Value}{ps:List Pr}{T:String}{itO:Obj}{St:Addr->Nat->Heap->Prop}{Q:Value->Shared->Prop}(X:Src prog w s.heap l vs T itO St)(hh:A.handled=none)(hu:A.units + 64 < cLine)(hps:cU prog w s.heap vs ps)
  (h:∀(h':Heap) (tk:Nat),my prog w h' s.heap.objs.size vs ps vs.length->(∀b o,s.heap.get? b=some o->h'.get? b=some o)->Q (.ref s.heap.objs.size) {s with heap:=h',toks:=tk}) :
  wpAny (model prog w) A (call (.type "set") [.ref l]) Q E s:=by
 obtain⟨c0,tl0,hmro0⟩:=F.called_set.mro
 have hmade0:=F.called_set.made
 have hsub0:=F.called_set.sub
 refine wpAny_call (codeAny_of_tree ?_)
 show wpAny _ _ (callAny (.type "set") ⟨[.ref l],[]⟩) _ _ _
 refine wpAny_pure ⟨Code.quiet_builtin _ (by decide +kernel),codeAny_builtin F.entry_type_call ?_⟩
 (rw[Around.under_plain (weight_type_call_type "set" [.ref l] []) rfl])
 have g1:=F.called_set.notType
 have g2:=F.called_set.canCreate
 have g3:=F.typeCall_set_1 (.ref l)
 repeat (any_goals (first |assumption |wp_step))
 refine codeAny_mono (lQ (.ref l) (E:=E) (Q1:=fun obj s1=>obj=.ref s.heap.objs.size/\s1={s with heap:=s.heap.push {cls:=.type "set",dict:=none,data:=.set #[] 0 (.fresh 0 0 (fk w))}}) ⟨rfl,rfl⟩) fun r s1 hr=>?_
 cases r with
 |error e=>exact hr
 |ok fl=>
  cases fl with
  |ret obj=>
   obtain⟨rfl,rfl⟩:=hr
   generalize hO:({cls:=.type "set",dict:=none,data:=.set #[] 0 (.fresh 0 0 (fk w))}:Obj)=O
   have hS0:(s.heap.push O).get? s.heap.objs.size=some O:=Heap.get?_push_size _ (by rw[<-hO];rfl)
   have hT0:Shared.TypeIs {s with heap:=s.heap.push O} (.ref s.heap.objs.size) "set":=⟨_,hS0,by rw[<-hO]⟩
   have g4:=F.called_set.init.lookup
   have g5:=F.called_set.init.bind (.ref s.heap.objs.size)
   repeat (any_goals (first |assumption |wp_step))
   refine codeAny_mono (codeAny_call_builtin (R:=wants (fun r s2=>r=.none/\∃h' tk,s2={s with heap:=h',toks:=tk}/\my prog w h' s.heap.objs.size vs ps vs.length/\(∀b o,s.heap.get? b=some o->h'.get? b=some o)) E)
    F.called_set.init.plain F.entry_set_init (check_set_init_1 hT0 ?_)) fun r2 s2 hr2=>?_
   ·obtain⟨ol,hol,hcl⟩:=X.ty
    have hol':(s.heap.push O).get? l=some ol:=Heap.get?_push_of_some _ hol
    have e1:=X.ns
    have e2:=X.nf
    have e3:=X.nd
    have hTl:Shared.TypeIs {s with heap:=s.heap.push O} (.ref l) T:=⟨ol,hol',hcl⟩
    have hdat:O.data=.set #[] 0 (.fresh 0 0 (fk w)):=by rw[<-hO]
    (unfold Builtin.«set.__init__» noKeywords Builtin.Frozenset.updateFrom)
    subst hO
    obtain⟨oc,od,odt,osl⟩:=ol
    simp only at hcl
    subst hcl
    (generalize hPI0:pyIter=PI0)
    wp_walk
    subst hPI0
    have kp:∀b o,s.heap.get? b=some o->(s.heap.push {cls:=.type "set",dict:=none,data:=.set #[] 0 (.fresh 0 0 (fk w))}).get? b=some o:=fun b o e=>Heap.get?_push_of_some _ e
    refine X.it _ _ _ _ kp ?_
    refine wpAny_bind (wpAny_runValue ?_)
    have hlS:l < s.heap.objs.size:=Heap.lt_size hol
    have hh3:A.in1.in1.in1.handled=none:=by simp[hh]
    have hneI:l≠(s.heap.push {cls:=.type "set",dict:=none,data:=.set #[] 0 (.fresh 0 0 (fk w))}).objs.size:=by
     rw[Heap.size_push];exact Nat.ne_of_lt (Nat.lt_succ_of_lt hlS)
    have hSf:s.heap.objs.size∉ [(s.heap.push {cls:=.type "set",dict:=none,data:=.set #[] 0 (.fresh 0 0 (fk w))}).objs.size,l]:=by
     rw[Heap.size_push]
     intro z
     rcases List.mem_cons.mp z with e |z
     ·exact absurd e (Nat.ne_of_lt (Nat.lt_succ_self _))
     ·exact absurd (List.mem_singleton.mp z) (Nat.ne_of_gt hlS)
    refine kF (X.wk _ _ hh3 hneI) s.heap.objs.size hSf rfl (fun i v e=>e) (by simp;omega) s.heap hps (fun b o hb e=>?_) (vs.length - 0) 0 _ (by omega) (Nat.zero_le _) (X.st _ kp) (fun b o e=>Heap.get?_push_of_some _ (kp b o e)) ?_ ?_
    ·have hlt:=Heap.lt_size e
     rw[Heap.size_push] at hb
     rcases List.mem_cons.mp hb with z |z
     ·exact absurd hlt (by rw[z];exact Nat.lt_irrefl _)
     ·rw[List.mem_singleton.mp z] at hlt
      exact absurd hlt (Nat.not_lt.mpr (Nat.le_succ _))
    ·refine⟨[],⟨⟨_,0,_,Heap.get?_push_of_some _ hS0,⟨rfl,rfl,rfl⟩,rfl,wq _,rfl⟩,fun q hq=>(by cases hq),List.nodup_nil⟩,fun q hq=>(by cases hq),fun p hp=>(by simp at hp)⟩
    ·intro h' tk hm F'
     show wpAny _ _ _ _ _ _
     refine wpAny_pure ?_
     show wpAny _ _ (ret Value.none) _ _ _
     refine wpAny_pure ⟨rfl,h',tk,rfl,F',fun b o e=>hm b o (fun z=>?_) (Heap.get?_push_of_some _ (kp b o e))⟩
     have hlt:=Heap.lt_size e
     rw[Heap.size_push] at z
     rcases List.mem_cons.mp z with z |z
     ·exact absurd hlt (by rw[z];exact Nat.lt_irrefl _)
     ·rw[List.mem_singleton.mp z] at hlt
      exact absurd hlt (Nat.not_lt.mpr (Nat.le_succ _))
   ·cases r2 with
    |error e=>exact hr2
    |ok fl2=>
     cases fl2 with
     |ret r=>
      obtain⟨rfl,h',tk,rfl,hF,hk⟩:=hr2
      repeat (any_goals (first |assumption |wp_step))
      exact h _ _ hF hk
     |_=>exact hr2.elim
  |_=>exact hr.elim
end
end L2.ST

end

section
namespace L2.ST
open PySem PySem.SetTable
section
variable {prog:Program}{w:World}{A:Around}{E:Value->Shared->Prop}{s:Shared}
set_option maxHeartbeats 3200000 in
theorem n9 {l:Addr}{vs:List Value}{ns:List Int}{T:String}{itO:Obj}{St:Addr->Nat->Heap->Prop}{Q:Value->Shared->Prop}(X:Src prog w s.heap l vs T itO St)(hh:A.handled=none)(hi:PyProof.Rows.IntsAre vs ns)(hb:vs.length + 1 < scanBound)
  (h:∀(h':Heap) (tk:Nat),h'.SetOf (intKind prog w) s.heap.objs.size (fun k'=>(PyProof.Rows.firstMet (fun i=>ns.getD i 0) vs.length).any (· == k')) (PyProof.Rows.firstMet (fun i=>ns.getD i 0) vs.length).length->(∀b o,s.heap.get? b=some o->h'.get? b=some o)->Q (.ref s.heap.objs.size) {s with heap:=h',toks:=tk}) :
  wpAny (model prog w) A (call (.type "set") [.ref l]) Q E s:=by
 obtain⟨c0,tl0,hmro0⟩:=F.called_set.mro
 have hmade0:=F.called_set.made
 have hsub0:=F.called_set.sub
 refine wpAny_call (codeAny_of_tree ?_)
 show wpAny _ _ (callAny (.type "set") ⟨[.ref l],[]⟩) _ _ _
 refine wpAny_pure ⟨Code.quiet_builtin _ (by decide +kernel),codeAny_builtin F.entry_type_call ?_⟩
 (rw[Around.under_plain (weight_type_call_type "set" [.ref l] []) rfl])
 have g1:=F.called_set.notType
 have g2:=F.called_set.canCreate
 have g3:=F.typeCall_set_1 (.ref l)
 repeat (any_goals (first |assumption |wp_step))
 refine codeAny_mono (lQ (.ref l) (E:=E) (Q1:=fun obj s1=>obj=.ref s.heap.objs.size/\s1={s with heap:=s.heap.push {cls:=.type "set",dict:=none,data:=.set #[] 0 (.fresh 0 0 (fk w))}}) ⟨rfl,rfl⟩) fun r s1 hr=>?_
 cases r with
 |error e=>exact hr
 |ok fl=>
  cases fl with
  |ret obj=>
   obtain⟨rfl,rfl⟩:=hr
   generalize hO:({cls:=.type "set",dict:=none,data:=.set #[] 0 (.fresh 0 0 (fk w))}:Obj)=O
   have hS0:(s.heap.push O).get? s.heap.objs.size=some O:=Heap.get?_push_size _ (by rw[<-hO];rfl)
   have hT0:Shared.TypeIs {s with heap:=s.heap.push O} (.ref s.heap.objs.size) "set":=⟨_,hS0,by rw[<-hO]⟩
   have g4:=F.called_set.init.lookup
   have g5:=F.called_set.init.bind (.ref s.heap.objs.size)
   repeat (any_goals (first |assumption |wp_step))
   refine codeAny_mono (codeAny_call_builtin (R:=wants (fun r s2=>r=.none/\∃h' tk,s2={s with heap:=h',toks:=tk}/\h'.SetOf (intKind prog w) s.heap.objs.size (fun k'=>(PyProof.Rows.firstMet (fun i=>ns.getD i 0) vs.length).any (· == k')) (PyProof.Rows.firstMet (fun i=>ns.getD i 0) vs.length).length/\(∀b o,s.heap.get? b=some o->h'.get? b=some o)) E)
    F.called_set.init.plain F.entry_set_init (check_set_init_1 hT0 ?_)) fun r2 s2 hr2=>?_
   ·obtain⟨ol,hol,hcl⟩:=X.ty
    have hol':(s.heap.push O).get? l=some ol:=Heap.get?_push_of_some _ hol
    have e1:=X.ns
    have e2:=X.nf
    have e3:=X.nd
    have hTl:Shared.TypeIs {s with heap:=s.heap.push O} (.ref l) T:=⟨ol,hol',hcl⟩
    have hdat:O.data=.set #[] 0 (.fresh 0 0 (fk w)):=by rw[<-hO]
    (unfold Builtin.«set.__init__» noKeywords Builtin.Frozenset.updateFrom)
    subst hO
    obtain⟨oc,od,odt,osl⟩:=ol
    simp only at hcl
    subst hcl
    (generalize hPI0:pyIter=PI0)
    wp_walk
    subst hPI0
    have kp:∀b o,s.heap.get? b=some o->(s.heap.push {cls:=.type "set",dict:=none,data:=.set #[] 0 (.fresh 0 0 (fk w))}).get? b=some o:=fun b o e=>Heap.get?_push_of_some _ e
    refine X.it _ _ _ _ kp ?_
    refine wpAny_bind (wpAny_runValue ?_)
    have hlS:l < s.heap.objs.size:=Heap.lt_size hol
    have hh3:A.in1.in1.in1.handled=none:=by simp[hh]
    have hneI:l≠(s.heap.push {cls:=.type "set",dict:=none,data:=.set #[] 0 (.fresh 0 0 (fk w))}).objs.size:=by
     rw[Heap.size_push];exact Nat.ne_of_lt (Nat.lt_succ_of_lt hlS)
    have hSf:s.heap.objs.size∉ [(s.heap.push {cls:=.type "set",dict:=none,data:=.set #[] 0 (.fresh 0 0 (fk w))}).objs.size,l]:=by
     rw[Heap.size_push]
     intro z
     rcases List.mem_cons.mp z with e |z
     ·exact absurd e (Nat.ne_of_lt (Nat.lt_succ_self _))
     ·exact absurd (List.mem_singleton.mp z) (Nat.ne_of_gt hlS)
    refine PyProof.Rows.codeAny_set_update_loopS ((X.wk _ _ hh3 hneI).toS) s.heap.objs.size hSf (fun i=>ns.getD i 0) (fun i v e=>PyProof.Rows.IntsAre.int_at hi i v e) hb (vs.length - 0) 0 _ (by omega) (Nat.zero_le _) (X.st _ kp) ?_ ?_
    ·exact PyProof.Rows.SetOf_congr ((PyProof.Rows.setObjOf_fresh (knd:=intKind prog w) (fk w)).setOf (Heap.get?_push_of_some _ hS0) (by unfold scanBound;omega)) (fun _=>rfl) rfl
    ·intro s' hm F'
     obtain⟨h',g',d',tk,os'⟩:=s'
     have eg:g'=s.gens:=hm.gens
     have ed:d'=s.drawn:=hm.drawn
     have eo:os'=s.os:=hm.os
     subst eg;subst ed;subst eo
     show wpAny _ _ _ _ _ _
     refine wpAny_pure ?_
     show wpAny _ _ (ret Value.none) _ _ _
     refine wpAny_pure ⟨rfl,h',tk,rfl,F',fun b o e=>hm.heap b o (fun z=>?_) (Heap.get?_push_of_some _ (kp b o e))⟩
     have hlt:=Heap.lt_size e
     rw[Heap.size_push] at z
     rcases List.mem_cons.mp z with z |z
     ·exact absurd hlt (by rw[z];exact Nat.lt_irrefl _)
     ·rw[List.mem_singleton.mp z] at hlt
      exact absurd hlt (Nat.not_lt.mpr (Nat.le_succ _))
   ·cases r2 with
    |error e=>exact hr2
    |ok fl2=>
     cases fl2 with
     |ret r=>
      obtain⟨rfl,h',tk,rfl,hF,hk⟩:=hr2
      repeat (any_goals (first |assumption |wp_step))
      exact h _ _ hF hk
     |_=>exact hr2.elim
  |_=>exact hr.elim
end
end L2.ST

end

section
namespace L2.SO
open PySem PySem.W PyProof.Rows
def je {α:Type}(lt:Nat->Nat->Bool):KasT α->α
 | .ret a=>a
 | .ask i j k=>je lt (k (lt i j))
theorem dM {α β:Type}(lt:Nat->Nat->Bool)(f:α->KasT β):∀t:KasT α,je lt (t.bind f)=je lt (f (je lt t))
 | .ret _=>rfl
 | .ask i j k=>dM lt f (k (lt i j))
def qJ {α:Type}(n:Nat)(lt:Nat->Nat->Bool):KasT α->Prop
 | .ret _=>True
 | .ask i j k=>i < n/\j < n/\qJ n lt (k (lt i j))
theorem gn {α β:Type}{n:Nat}{lt:Nat->Nat->Bool}{f:α->KasT β}:∀{t:KasT α},qJ n lt t->qJ n lt (f (je lt t))->qJ n lt (t.bind f)
 | .ret _,_,h=>h
 | .ask i j k,h,h'=>⟨h.1,h.2.1,gn h.2.2 h'⟩
section
variable {n:Nat}{key:Nat->Int}
abbrev lJ (key:Nat->Int)(i j:Nat):Bool:=decide (key i < key j)
abbrev Kp (key:Nat->Int)(p:Array Nat)(k:Nat):Int:=key (p.getD k 0)
structure Pm (n:Nat)(p:Array Nat):Prop where
 sz:p.size=n
 nd:p.toList.Nodup
 lt:∀x,x∈p->x < n
theorem Pm.at {p:Array Nat}(P:Pm n p){k:Nat}(hk:k < n):p.getD k 0 < n:=by
 have h:k < p.size:=by rw[P.sz];exact hk
 simp only[Array.getD,h,dif_pos]
 exact P.lt _ (Array.getElem_mem h)
theorem Pm.ne {p:Array Nat}(P:Pm n p){i k:Nat}(hi:i < n)(hk:k < n)(hne:i≠k):p.getD i 0≠p.getD k 0:=by
 have h1:i < p.toList.length:=by simpa using (by rw[P.sz];exact hi:i < p.size)
 have h2:k < p.toList.length:=by simpa using (by rw[P.sz];exact hk:k < p.size)
 have h1':i < p.size:=by rw[P.sz];exact hi
 have h2':k < p.size:=by rw[P.sz];exact hk
 have a1:p.getD i 0=p.toList[i]:=by simp[Array.getD,h1']
 have a2:p.getD k 0=p.toList[k]:=by simp[Array.getD,h2']
 rw[a1,a2]
 have q:=List.pairwise_iff_getElem.mp P.nd
 rcases Nat.lt_or_ge i k with c |c
 ·exact q i k h1 h2 c
 ·exact (q k i h2 h1 (by omega)).symm
theorem Pm.perm {p q:Array Nat}(P:Pm n p)(h:q.Perm p):Pm n q:=by
 have h':=Array.perm_iff_toList_perm.mp h
 exact⟨by rw[h.size_eq];exact P.sz,h'.nodup_iff.mpr P.nd,fun x hx=>P.lt x (by simpa using h'.mem_iff.mp (by simpa using hx))⟩
theorem rJ (n:Nat):Pm n (List.toArray (List.range n)):=⟨by simp,by simpa using List.nodup_range,fun x hx=>by simpa using hx⟩
def Inj (n:Nat)(key:Nat->Int):Prop:=∀i j,i < n->j < n->key i=key j->i=j
theorem Pm.tri {p:Array Nat}(P:Pm n p)(hi:Inj n key){i k:Nat}(h1:i < n)(h2:k < n)(hne:i≠k):Kp key p i < Kp key p k\/Kp key p k < Kp key p i:=by
 have:Kp key p i≠Kp key p k:=fun e=>P.ne h1 h2 hne (hi _ _ (P.at h1) (P.at h2) e)
 omega
def Up (key:Nat->Int)(p:Array Nat)(m:Nat):Prop:=∀i j,i < j->j < m->Kp key p i < Kp key p j
def Dn (key:Nat->Int)(p:Array Nat)(m:Nat):Prop:=∀i j,i < j->j < m->Kp key p j < Kp key p i
theorem Up.snoc {p:Array Nat}{m:Nat}(U:Up key p m)(h1:1<=m)(h:Kp key p (m - 1) < Kp key p m):Up key p (m + 1):=fun i j hij hj=>by
 rcases Nat.lt_or_ge j m with c |c
 ·exact U i j hij c
 ·have:j=m:=by omega
  subst this
  rcases Nat.lt_or_ge i (j - 1) with d |d
  ·exact Int.lt_trans (U i (j - 1) d (by omega)) h
  ·have:i=j - 1:=by omega
   rw[this];exact h
theorem Dn.snoc {p:Array Nat}{m:Nat}(U:Dn key p m)(h1:1<=m)(h:Kp key p m < Kp key p (m - 1)):Dn key p (m + 1):=fun i j hij hj=>by
 rcases Nat.lt_or_ge j m with c |c
 ·exact U i j hij c
 ·have:j=m:=by omega
  subst this
  rcases Nat.lt_or_ge i (j - 1) with d |d
  ·exact Int.lt_trans h (U i (j - 1) d (by omega))
  ·have:i=j - 1:=by omega
   rw[this];exact h
theorem ng {p:Array Nat}(P:Pm n p)(hi:Inj n key):∀(f m:Nat),1<=m->m + f<=n->Up key p m->
  ∃r,(je (lJ key) (kas_asc p f m)=r/\qJ n (lJ key) (kas_asc p f m))/\m<=r/\r<=m + f/\Up key p r/\(r < m + f->Kp key p r < Kp key p (r - 1))
 | 0,m,_,_,U=>⟨m,⟨rfl,trivial⟩,Nat.le_refl _,Nat.le_refl _,U,fun h=>absurd h (Nat.lt_irrefl _)⟩
 |f + 1,m,h1,hn,U=>by
  have b1:p.getD m 0 < n:=P.at (by omega)
  have b2:p.getD (m - 1) 0 < n:=P.at (by omega)
  unfold kas_asc je qJ
  by_cases c:Kp key p m < Kp key p (m - 1)
  ·rw[show lJ key (p.getD m 0) (p.getD (m - 1) 0)=true from decide_eq_true c]
   simp only[if_true]
   exact⟨m,⟨rfl,b1,b2,trivial⟩,Nat.le_refl _,by omega,U,fun _=>c⟩
  ·rw[show lJ key (p.getD m 0) (p.getD (m - 1) 0)=false from decide_eq_false c]
   simp only[Bool.false_eq_true,if_false]
   have up:Kp key p (m - 1) < Kp key p m:=(P.tri hi (by omega) (by omega) (by omega)).resolve_right c
   obtain⟨r,⟨e,o⟩,a,b,u,d⟩:=ng P hi f (m + 1) (by omega) (by omega) (U.snoc h1 up)
   exact⟨r,⟨e,b1,b2,o⟩,by omega,by omega,u,fun h=>d (by omega)⟩
theorem pe {p:Array Nat}(P:Pm n p)(hi:Inj n key):∀(f m:Nat),1<=m->m + f<=n->Dn key p m->
  ∃r,(je (lJ key) (kas_desc f p m 0)=(p,r,0)/\qJ n (lJ key) (kas_desc f p m 0))/\m<=r/\r<=m + f/\Dn key p r
 | 0,m,_,_,U=>⟨m,⟨rfl,trivial⟩,Nat.le_refl _,Nat.le_refl _,U⟩
 |f + 1,m,h1,hn,U=>by
  have b1:p.getD m 0 < n:=P.at (by omega)
  have b2:p.getD (m - 1) 0 < n:=P.at (by omega)
  unfold kas_desc je qJ
  by_cases c:Kp key p m < Kp key p (m - 1)
  ·rw[show lJ key (p.getD m 0) (p.getD (m - 1) 0)=true from decide_eq_true c]
   simp only[if_true,Nat.lt_irrefl,gt_iff_lt,if_false]
   obtain⟨r,⟨e,o⟩,a,b,u⟩:=pe P hi f (m + 1) (by omega) (by omega) (U.snoc h1 c)
   exact⟨r,⟨e,b1,b2,o⟩,by omega,by omega,u⟩
  ·rw[show lJ key (p.getD m 0) (p.getD (m - 1) 0)=false from decide_eq_false c]
   simp only[Bool.false_eq_true,if_false]
   unfold je qJ
   have up:Kp key p (m - 1) < Kp key p m:=(P.tri hi (by omega) (by omega) (by omega)).resolve_right c
   rw[show lJ key (p.getD (m - 1) 0) (p.getD m 0)=true from decide_eq_true up]
   simp only[if_true]
   exact⟨m,⟨rfl,b1,b2,b2,b1,trivial⟩,Nat.le_refl _,by omega,U⟩
theorem zi {p:Array Nat}{j k:Nat}(hj:j<=p.size)(hk:k < j):(kas_rev p 0 j).getD k 0=p.getD (j - 1 - k) 0:=by
 unfold kas_rev
 rw[Array.getD_eq_getD_getElem?,getElem?_mirror_all hj k,if_pos ⟨Nat.zero_le _,hk⟩,Array.getD_eq_getD_getElem?]
 congr 2
 omega
theorem D3 {p:Array Nat}{m:Nat}(hm:m<=p.size)(D:Dn key p m):Up key (kas_rev p 0 m) m:=fun i j hij hj=>by
 unfold Kp
 rw[zi hm (by omega),zi hm hj]
 exact D (m - 1 - j) (m - 1 - i) (by omega) (by omega)
theorem Pm.rev {p:Array Nat}(P:Pm n p)(j:Nat):Pm n (kas_rev p 0 j):=P.perm (mirror_perm ..)
theorem sV {p:Array Nat}(P:Pm n p)(hi:Inj n key)(h1:1<=n) :
  ∃m q,(je (lJ key) (kas_count n p)=(m,q)/\qJ n (lJ key) (kas_count n p))/\Pm n q/\1<=m/\m<=n/\Up key q m:=by
 obtain⟨r,⟨e,o⟩,a,b,u,d⟩:=ng P hi (n - 1) 1 (Nat.le_refl _) (by omega) (fun i j hij hj=>by omega)
 have rest:∃m q,(je (lJ key) (if (r == n)=true then KasT.ret (r,p) else if r > 1 then .ask (p.getD 0 0) (p.getD (r - 1) 0) fun c=>if c=true then .ret (r,p) else kas_descPart r n (kas_rev p 0 r) else kas_descPart r n p)=(m,q)/\
   qJ n (lJ key) (if (r == n)=true then KasT.ret (r,p) else if r > 1 then .ask (p.getD 0 0) (p.getD (r - 1) 0) fun c=>if c=true then .ret (r,p) else kas_descPart r n (kas_rev p 0 r) else kas_descPart r n p))/\Pm n q/\1<=m/\m<=n/\Up key q m:=by
  by_cases c:(r == n)=true
  ·rw[if_pos c]
   exact⟨r,p,⟨rfl,trivial⟩,P,a,by omega,u⟩
  ·rw[if_neg c]
   have hrn:r≠n:=by simpa using c
   have dd:=d (by omega)
   by_cases c2:r > 1
   ·rw[if_pos c2]
    unfold je qJ
    rw[show lJ key (p.getD 0 0) (p.getD (r - 1) 0)=true from decide_eq_true (u 0 (r - 1) (by omega) (by omega))]
    simp only[if_true]
    exact⟨r,p,⟨rfl,P.at (by omega),P.at (by omega),trivial⟩,P,a,by omega,u⟩
   ·rw[if_neg c2]
    have hr1:r=1:=by omega
    subst hr1
    unfold kas_descPart
    rw[dM]
    have D2:Dn key p 2:=fun i j hij hj=>by
     have e1:i=0:=by omega
     have e2:j=1:=by omega
     rw[e1,e2];exact dd
    obtain⟨x,⟨e2,o2⟩,a2,b2,u2⟩:=pe P hi (n - 2) 2 (by omega) (by omega) D2
    obtain⟨y,⟨e3,o3⟩,a3,b3,u3,_⟩:=ng (P.rev x) hi (n - x) x (by omega) (by omega) (D3 (by rw[P.sz];omega) u2)
    rw[show n - (1 + 1)=n - 2 from rfl,show (1 + 1:Nat)=2 from rfl]
    have t3:qJ n (lJ key) (kas_tail3 x n p):=by
     unfold kas_tail3
     exact gn o3 trivial
    refine⟨y,kas_rev p 0 x,⟨?_,gn o2 ?_⟩,P.rev x,by omega,by omega,u3⟩
    ·rw[e2]
     simp only[Nat.lt_irrefl,gt_iff_lt,if_false]
     unfold kas_tail3
     rw[dM,e3]
     rfl
    ·rw[e2]
     simp only[Nat.lt_irrefl,gt_iff_lt,if_false]
     exact t3
 obtain⟨m,q,⟨f1,f2⟩,f3⟩:=rest
 refine⟨m,q,⟨?_,?_⟩,f3⟩
 ·unfold kas_count
  rw[dM,e]
  exact f1
 ·unfold kas_count
  refine gn o ?_
  rw[e]
  exact f2
theorem place_spec {p:Array Nat}{k:Nat}(P:Pm n p)(hi:Inj n key)(hk:k < n)(U:Up key p k):∀(f l r:Nat),l<=r->r<=k->r - l<=f->(∀i,i < l->Kp key p i < Kp key p k)->(∀i,r<=i->i < k->Kp key p k < Kp key p i)->
  ∃x,(je (lJ key) (kas_place p k f l r)=x/\qJ n (lJ key) (kas_place p k f l r))/\x<=k/\(∀i,i < x->Kp key p i < Kp key p k)/\(∀i,x<=i->i < k->Kp key p k < Kp key p i)
 | 0,l,r,h1,h2,h3,a,b=>⟨l,⟨rfl,trivial⟩,by omega,a,fun i hi=>b i (by omega)⟩
 |f + 1,l,r,h1,h2,h3,a,b=>by
  unfold kas_place
  by_cases c:l>=r
  ·rw[if_pos c]
   exact⟨l,⟨rfl,trivial⟩,by omega,a,fun i hi=>b i (by omega)⟩
  ·rw[if_neg c]
   have b1:p.getD k 0 < n:=P.at hk
   have b2:p.getD ((l + r) / 2) 0 < n:=P.at (by omega)
   unfold je qJ
   by_cases d:Kp key p k < Kp key p ((l + r) / 2)
   ·rw[show lJ key (p.getD k 0) (p.getD ((l + r) / 2) 0)=true from decide_eq_true d]
    simp only[if_true]
    have side:∀i,(l + r) / 2<=i->i < k->Kp key p k < Kp key p i:=fun i h1 h2=>by
     rcases Nat.lt_or_ge ((l + r) / 2) i with z |z
     ·exact Int.lt_trans d (U _ _ z h2)
     ·have:i=(l + r) / 2:=by omega
      rw[this];exact d
    obtain⟨x,⟨e1,e2⟩,e3⟩:=place_spec P hi hk U f l ((l + r) / 2) (by omega) (by omega) (by omega) a side
    exact⟨x,⟨e1,b1,b2,e2⟩,e3⟩
   ·rw[show lJ key (p.getD k 0) (p.getD ((l + r) / 2) 0)=false from decide_eq_false d]
    simp only[Bool.false_eq_true,if_false]
    have d':Kp key p ((l + r) / 2) < Kp key p k:=(P.tri hi (by omega) hk (by omega)).resolve_right d
    have side:∀i,i < (l + r) / 2 + 1->Kp key p i < Kp key p k:=fun i h=>by
     rcases Nat.lt_or_ge i ((l + r) / 2) with z |z
     ·exact Int.lt_trans (U _ _ z (by omega)) d'
     ·have:i=(l + r) / 2:=by omega
      rw[this];exact d'
    obtain⟨x,⟨e1,e2⟩,e3⟩:=place_spec P hi hk U f ((l + r) / 2 + 1) r (by omega) h2 (by omega) side b
    exact⟨x,⟨e1,b1,b2,e2⟩,e3⟩
theorem xX {p:Array Nat}{k l j:Nat}(hk:k < p.size)(hl:l<=k):(bubble p k (k - l)).getD j 0=if j=l then p.getD k 0 else if l < j/\j<=k then p.getD (j - 1) 0 else p.getD j 0:=by
 rw[Array.getD_eq_getD_getElem?,getElem?_bubble hk (k - l) (by omega) j,show k - (k - l)=l by omega]
 simp only[Array.getD_eq_getD_getElem?]
 split
 ·rfl
 ·split <;> rfl
theorem sL (hi:Inj n key):∀(f k:Nat) (p:Array Nat),Pm n p->1<=k->k + f=n->Up key p k->∃q,(je (lJ key) (kas_bin f p k)=q/\qJ n (lJ key) (kas_bin f p k))/\Pm n q/\Up key q n
 | 0,k,p,P,_,e,U=>⟨p,⟨rfl,trivial⟩,P,by rw[<-e];exact U⟩
 |f + 1,k,p,P,h1,e,U=>by
  have hk:k < n:=by omega
  obtain⟨l,⟨el,ol⟩,hl,a,b⟩:=place_spec P hi hk U k 0 k (Nat.zero_le _) (Nat.le_refl _) (by omega) (fun i h=>by omega) (fun i h h'=>by omega)
  have side:Up key (bubble p k (k - l)) (k + 1):=fun i j hij hj=>by
   have hks:k < p.size:=by rw[P.sz];exact hk
   unfold Kp
   rw[xX hks hl,xX hks hl]
   by_cases i1:i=l
   ·rw[if_pos i1,if_neg (by omega)]
    by_cases j2:l < j/\j<=k
    ·rw[if_pos j2];exact b _ (by omega) (by omega)
    ·omega
   ·rw[if_neg i1]
    by_cases i2:l < i/\i<=k
    ·rw[if_pos i2,if_neg (by omega),if_pos (by omega)]
     exact U _ _ (by omega) (by omega)
    ·rw[if_neg i2]
     by_cases j1:j=l
     ·rw[if_pos j1];exact a _ (by omega)
     ·rw[if_neg j1]
      by_cases j2:l < j/\j<=k
      ·rw[if_pos j2]
       rcases Nat.lt_or_ge i (j - 1) with z |z
       ·exact U _ _ z (by omega)
       ·omega
      ·rw[if_neg j2];exact U _ _ hij (by omega)
  obtain⟨q,⟨q1,q2⟩,q3⟩:=sL hi f (k + 1) (bubble p k (k - l)) (P.perm (bubble_perm ..)) (by omega) (by omega) side
  refine⟨q,⟨?_,?_⟩,q3⟩
  ·unfold kas_bin;rw[dM,el];exact q1
  ·unfold kas_bin;refine gn ol ?_;rw[el];exact q2
theorem wa (hi:Inj n key)(h2:2<=n):∃q,(je (lJ key) (kas_sort n)=q/\qJ n (lJ key) (kas_sort n))/\Pm n q/\Up key q n:=by
 obtain⟨m,q,⟨e,o⟩,P,a,b,u⟩:=sV (rJ n) hi (by omega)
 by_cases c:m < n
 ·obtain⟨q',⟨e1,o1⟩,r⟩:=sL hi (n - m) m q P a (by omega) u
  refine⟨q',⟨?_,?_⟩,r⟩
  ·unfold kas_sort;rw[dM,e];dsimp only;rw[if_pos c,Nat.max_eq_left a];exact e1
  ·unfold kas_sort;refine gn o ?_;rw[e];dsimp only;rw[if_pos c,Nat.max_eq_left a];exact o1
 ·refine⟨q,⟨?_,?_⟩,P,fun i j hij hj=>u i j hij (by omega)⟩
  ·unfold kas_sort;rw[dM,e];dsimp only;rw[if_neg c];rfl
  ·unfold kas_sort;refine gn o ?_;rw[e];dsimp only;rw[if_neg c];trivial
theorem wp_run {α:Type}{n:Nat}{lt:Nat->Nat->Bool}{cmp:Nat->Nat->(Bool->Shared->Prop)->Shared->Prop}{Q:α->Shared->Prop}{s:Shared} :
  ∀(t:KasT α),(∀i j C,i < n->j < n->C (lt i j) s->cmp i j C s)->qJ n lt t->Q (je lt t) s->t.kasWp cmp Q s
 | .ret a,_,_,h=>h
 | .ask i j k,hc,ho,h=>hc i j _ ho.1 ho.2.1 (wp_run (k (lt i j)) hc ho.2.2 h)
end
end L2.SO

end

section
namespace L2.ST
open PySem PySem.SetTable PySem.W PyProof.Rows
def code (p:Pr):Int:=p.1 * 8 + p.2
theorem vk {p q:Pr}(h1:Sm p)(h2:Sm q):code p < code q↔p.1 < q.1\/(p.1=q.1/\p.2 < q.2):=by
 unfold code Sm at *;omega
theorem code_inj {p q:Pr}(h1:Sm p)(h2:Sm q)(e:code p=code q):p=q:=by
 unfold code Sm at *
 refine Prod.ext ?_ ?_ <;> omega
section
variable {prog:Program}{w:World}{A:Around}{E:Value->Shared->Prop}{s:Shared}
abbrev oo (ps:List Pr)(i:Nat):Int:=code (ps.getD i (0,0))
theorem Ar {ps:List Pr}(nd:ps.Nodup)(hs:∀p,p∈ps->Sm p):L2.SO.Inj ps.length (oo ps):=fun i j hi hj e=>by
 have a1:ps.getD i (0,0)=ps[i]:=by simp[hi]
 have a2:ps.getD j (0,0)=ps[j]:=by simp[hj]
 unfold oo at e
 rw[a1,a2] at e
 have e':=code_inj (hs _ (List.getElem_mem hi)) (hs _ (List.getElem_mem hj)) e
 have q:=List.pairwise_iff_getElem.mp nd
 rcases Nat.lt_trichotomy i j with c |c |c
 ·exact absurd e' (q i j hi hj c)
 ·exact c
 ·exact absurd e'.symm (q j i hj hi c)
theorem B5 {a b:Addr}{p q:Pr}{Q:Bool->Shared->Prop}(ha:bD prog w s.heap p a)(hb:bD prog w s.heap q b)(hp:Sm p)(hq:Sm q)(h:Q (decide (code p < code q)) s) :
  wpAny (model prog w) A (keyLt' (tuples' true) (.ref a) (.ref b)) Q E s:=by
 obtain⟨oa,ia,na,hoa,hca,hda,hia⟩:=ha
 obtain⟨ob,ib,nb,hob,hcb,hdb,hib⟩:=hb
 obtain⟨l1,rfl⟩:∃l,ia=List.toArray l:=⟨ia.toList,by simp⟩
 obtain⟨l2,rfl⟩:∃l,ib=List.toArray l:=⟨ib.toList,by simp⟩
 simp only[List.toList_toArray] at hia hib
 cases hia with
 | @cons _ v1 _ _ h1 hia=>
  cases hia with
  | @cons _ v2 _ _ h2 hia=>
   cases hia
   cases hib with
   | @cons _ u1 _ _ g1 hib=>
    cases hib with
    | @cons _ u2 _ _ g2 hib=>
     cases hib
     obtain⟨t1,rfl⟩:=Value.isInt_shape h1
     obtain⟨t2,rfl⟩:=Value.isInt_shape h2
     obtain⟨t3,rfl⟩:=Value.isInt_shape g1
     obtain⟨t4,rfl⟩:=Value.isInt_shape g2
     refine kat_lt hoa hda hob hdb ?_
     have hc:=vk hp hq
     refine kat_cons (wpAny_eqBool_int ?_)
     by_cases e1:p.1=q.1
     ·rw[show (p.1 == q.1)=true by simpa using e1]
      refine kat_yes (kat_cons (wpAny_eqBool_int ?_))
      by_cases e2:p.2=q.2
      ·rw[show (p.2 == q.2)=true by simpa using e2]
       refine kat_yes (kat_nil ?_)
       have:decide (code p < code q)=false:=decide_eq_false (by rw[hc];omega)
       rw[this] at h
       simpa using h
      ·rw[show (p.2 == q.2)=false by simpa using e2]
       refine kat_no ?_
       show wpAny _ _ (oneLt' false _ _) _ _ _
       refine kat_one _ _ (lt_int ?_)
       have:decide (code p < code q)=decide (p.2 < q.2):=by
        by_cases z:p.2 < q.2
        ·rw[decide_eq_true z];exact decide_eq_true (hc.mpr (.inr ⟨e1,z⟩))
        ·rw[decide_eq_false z];exact decide_eq_false (by rw[hc];omega)
       rw[this] at h;exact h
     ·rw[show (p.1 == q.1)=false by simpa using e1]
      refine kat_no ?_
      show wpAny _ _ (oneLt' true _ _) _ _ _
      refine oneLt_int ?_
      have:decide (code p < code q)=decide (p.1 < q.1):=by
       by_cases z:p.1 < q.1
       ·rw[decide_eq_true z];exact decide_eq_true (hc.mpr (.inl z))
       ·rw[decide_eq_false z];exact decide_eq_false (by rw[hc];omega)
      rw[this] at h;exact h
theorem vF:∀{vs:List Value} {ps:List Pr},cU prog w s.heap vs ps->∃fs,KatTups s.heap vs fs/\fs.length=vs.length/\∀v∈fs,∃(i:Int) (t:Tok),v=.int i t
 | [],ps,_=>⟨[],KatTups.nil,rfl,fun v hv=>by cases hv⟩
 |v :: vs,[],h=>by have:=h.1;simp at this
 |v :: vs,p :: ps,h=>by
  obtain⟨a,rfl,⟨o,items,n,ho,hc,hd,hi⟩,_⟩:=h.2 0 v p rfl rfl
  obtain⟨fs,k,e,f⟩:=vF (vs:=vs) (ps:=ps) ⟨by simpa using h.1,fun i v p h1 h2=>h.2 (i + 1) v p (by simpa using h1) (by simpa using h2)⟩
  obtain⟨l1,rfl⟩:∃l,items=List.toArray l:=⟨items.toList,by simp⟩
  simp only[List.toList_toArray] at hi
  cases hi with
  | @cons _ v1 _ _ h1 hi=>
   obtain⟨t1,rfl⟩:=Value.isInt_shape h1
   exact⟨_ :: fs,KatTups.cons ho hc hd rfl k,by simp[e],fun v hv=>by
    rcases List.mem_cons.mp hv with z |z
    ·exact⟨_,_,z⟩
    ·exact f v z⟩
theorem qL {a:Addr}{vs:List Value}{ps:List Pr}{n:Nat}{P:PySem.Fin->Shared->Prop}(ho:s.heap.get? a=some (seqObj "list" vs.toArray n))(hps:cU prog w s.heap vs ps)(nd:ps.Nodup)(h64:vs.length < 64)
  (h:∀(h':Heap) (c:Nat) (ix:Array Nat),L2.SO.Pm vs.length ix->L2.SO.Up (oo ps) ix vs.length->(∀b o,b≠a->s.heap.get? b=some o->h'.get? b=some o)->
   h'.get? a=some (seqObj "list" (ix.toList.map fun i=>vs.getD i Value.none).toArray c)->P (.done (.ret .none)) {s with heap:=h'}) :
  wpAny (model prog w) A (Builtin.«list.sort» ⟨[.ref a],[]⟩) P E s:=by
 have ha:a < s.heap.objs.size:=Heap.lt_size ho
 obtain⟨e1,ho1⟩:∃e1,(s.heap.update a (Obj.mapSeq fun _=>(#[]:Array Value))).get? a=some (seqObj "list" #[] e1):=⟨_,get?_update_seq ho fun _=>#[]⟩
 generalize hH1:(s.heap.update a (Obj.mapSeq fun _=>(#[]:Array Value)))=H1 at ho1
 have sb1:Heap.SameBut a s.heap H1:=by rw[<-hH1];exact Heap.SameBut.update ..
 have kp2:∀b o,H1.get? b=some o->((H1.push (seqObj "tuple" vs.toArray 0)).push (seqObj "list" #[] 0)).get? b=some o:=fun b o e=>Heap.get?_push_of_some _ (Heap.get?_push_of_some _ e)
 generalize hH2:((H1.push (seqObj "tuple" vs.toArray 0)).push (seqObj "list" #[] 0))=H2 at kp2
 have kp:∀b o,b≠a->s.heap.get? b=some o->H2.get? b=some o:=fun b o hb e=>kp2 b o ((sb1.2 b hb).trans e)
 have ho2:=kp2 _ _ ho1
 have hps2:cU prog w H2 vs ps:=⟨hps.1,fun i v p h1 h2=>by
  obtain⟨b,e,⟨o,it,m,hb,hc,hd,r⟩,hs⟩:=hps.2 i v p h1 h2
  refine⟨b,e,⟨o,it,m,kp b o (fun z=>?_) hb,hc,hd,r⟩,hs⟩
  subst z
  rw[ho] at hb;cases hb
  exact absurd hc (by simp[seqObj])⟩
 have hz:vs.length<=sizeLine:=by rw[sizeLine_eq];omega
 rw[list_sort_plain]
 refine wpAny_bind (listItems_at ho rfl (wpAny_bind (listUpdate_at ho rfl ?_ (by simpa using hz) (Nat.zero_le _))))
 rw[hH1]
 refine wpAny_bind (seqEpoch_at (s:={s with heap:=H1}) ho1 rfl (wpAny_bind (wpAny_newTuple ?_ (by simpa using hz))))
 refine wpAny_bind (wpAny_newList ?_ (Nat.zero_le _))
 refine wpAny_holding ?_
 show wpAny (model prog w) A _ P E {s with heap:=(H1.push (seqObj "tuple" vs.toArray 0)).push (seqObj "list" #[] 0)}
 rw[hH2]
 have fin:∀(ix:Array Nat) (st:SortSt),L2.SO.Pm vs.length ix->L2.SO.Up (oo ps) ix vs.length->(arrOf st).map (·.2)=List.toArray (ix.toList.map fun i=>vs.getD i Value.none)->failedOf st=none->
   wpAny (model prog w) A (do
    let sorted:=(arrOf st).map (·.2)
    let touched:=(<-seqEpoch a) != e1
    Builtin.List.listUpdate (.ref a) fun _=>sorted
    if let some e:=failedOf st then rule "list.sort.comparison-raised";throw e
    if touched then rule "list.sort.modified";raiseError "ValueError" "list modified during sort"
    ret .none) P E {s with heap:=H2}:=fun ix st P1 U1 hout hf=>by
  dsimp only
  rw[hout]
  have hsz:(List.toArray (ix.toList.map fun i=>vs.getD i Value.none)).size=vs.length:=by simp[P1.sz]
  refine wpAny_bind (seqEpoch_at (s:={s with heap:=H2}) ho2 rfl ?_)
  refine wpAny_bind (listUpdate_at (s:={s with heap:=H2}) ho2 rfl ?_ (Nat.zero_le _) (Nat.le_trans (Nat.le_of_eq hsz) (Nat.le_succ_of_le hz)))
  rw[hf]
  simp only[bne_self_eq_false,Bool.false_eq_true,if_false]
  obtain⟨c2,hc2⟩:∃c2,(H2.update a (Obj.mapSeq fun _=>List.toArray (ix.toList.map fun i=>vs.getD i Value.none))).get? a=some (seqObj "list" (List.toArray (ix.toList.map fun i=>vs.getD i Value.none)) c2):=⟨_,get?_update_seq ho2 fun _=>List.toArray (ix.toList.map fun i=>vs.getD i Value.none)⟩
  exact wpAny_pure (h _ c2 ix P1 U1 (fun b o hb e=>((Heap.SameBut.update H2 a _).2 b hb).trans (kp b o hb e)) hc2)
 by_cases h2:vs.length < 2
 ·have h2':vs.toArray.size < 2:=by simpa using h2
  dsimp only
  rw[if_pos h2',if_pos h2']
  refine wpAny_bind (wpAny_pure ?_)
  rw[StateT.run_pure]
  refine wpAny_bind (wpAny_pure ?_)
  refine fin (List.toArray (List.range vs.length)) (SortSt.mk' general' (vs.toArray.zip vs.toArray) #[] 7 none) (L2.SO.rJ _) (fun i j hij hj=>by omega) ?_ rfl
  have:∀{l:List Value},l.length < 2->((l.toArray.zip l.toArray).map (·.2))=List.toArray ((List.range l.length).map fun i=>l.getD i Value.none):=fun {l} hl=>by
   match l,hl with
   | [],_=>simp
   | [x],_=>simp
  exact (this h2).trans (by simp)
 ·have h2':¬vs.toArray.size < 2:=by simpa using h2
  dsimp only
  rw[if_neg h2',if_neg h2']
  obtain⟨fs,kt,fl,ff⟩:=vF (s:={s with heap:=H2}) hps2
  refine wpAny_bind (kat_kind (s:={s with heap:=H2}) (T:=.type "int") kt (by omega) (fun v hv=>?_) (by decide) ?_)
  ·obtain⟨i,t,rfl⟩:=ff v hv
   exact .now
  ·rw[show ((Value.type "int" != Value.type "tuple"):Bool)=true by decide]
   have hinj:L2.SO.Inj vs.length (oo ps):=by
    rw[hps.1]
    refine Ar nd fun p hp=>?_
    obtain⟨i,hi,e⟩:=List.mem_iff_getElem.mp hp
    have hi':i < vs.length:=by rw[hps.1];exact hi
    obtain⟨_,_,_,hs⟩:=hps.2 i vs[i] p (List.getElem?_eq_getElem hi') (by rw[List.getElem?_eq_getElem hi,e])
    exact hs
   obtain⟨ix,⟨er,ok⟩,P1,U1⟩:=L2.SO.wa hinj (by omega)
   refine wpAny_bind (wpAny_mono (kat_run (s:={s with heap:=H2}) (κ:=tuples' true) (ks:=vs) (Q:=fun st s'=>s'={s with heap:=H2}/\arrOf st=ix.map (kas_item (vs.toArray.zip vs.toArray))/\failedOf st=none)
    (G:=fun p s'=>p=ix/\s'={s with heap:=H2}) rfl (by omega) h64 (fun p st s' a1 a2 a3 a4=>?_) (L2.SO.wp_run (n:=vs.length) (lt:=L2.SO.lJ (oo ps)) _ (fun i j C hi hj hC=>?_) ok ⟨er,rfl⟩)) ?_ fun _ _ x=>x)
   ·obtain⟨rfl,rfl⟩:=a4
    exact⟨rfl,a2,a3⟩
   ·unfold kas_ask
    have hi':i < ps.length:=by rw[<-hps.1];exact hi
    have hj':j < ps.length:=by rw[<-hps.1];exact hj
    obtain⟨b1,eb1,hb1,s1⟩:=hps2.2 i vs[i] ps[i] (List.getElem?_eq_getElem hi) (List.getElem?_eq_getElem hi')
    obtain⟨b2,eb2,hb2,s2⟩:=hps2.2 j vs[j] ps[j] (List.getElem?_eq_getElem hj) (List.getElem?_eq_getElem hj')
    have e1:vs.getD i Value.none=.ref b1:=by rw[<-eb1];simp[hi]
    have e2:vs.getD j Value.none=.ref b2:=by rw[<-eb2];simp[hj]
    rw[e1,e2]
    refine B5 (s:={s with heap:=H2}) hb1 hb2 s1 s2 ?_
    have:L2.SO.lJ (oo ps) i j=decide (code ps[i] < code ps[j]):=by
     unfold L2.SO.lJ oo;simp[hi',hj']
    rw[<-this];exact hC
   ·rintro⟨⟨⟩,st⟩ s' ⟨rfl,har,hf⟩
    exact fin ix st P1 U1 (kat_snds rfl har) hf
end
end L2.ST

end

section
namespace L2.ST
open PySem PySem.SetTable PySem.W PyProof.Rows
theorem bO:Slot "set_iterator" "__next__" "set_iterator.__next__":=
 Slot.of (owner:="set_iterator") (n:="__next__") (by rw[typeLookup_type,builtinLookup_eq_fast];kernel_rfl) (by decide +kernel) (by decide +kernel) (by decide +kernel) (by first |exact .inl (by decide +kernel) |exact .inr (by decide +kernel)) (by rw[isSubtype_type];kernel_rfl)
theorem hX:entryFor table "set_iterator.__next__"=some Builtin.«set_iterator.__next__»:=entryFor_of_tree (by kernel_rfl)
theorem i9 (a:Value):argsOk "set_iterator.__next__" ⟨[a],[]⟩:=by unfold argsOk;kernel_rfl
theorem n6:entryFor table "set.__iter__"=some Builtin.«frozenset.__iter__»:=entryFor_alias (id':="frozenset.__iter__") (by kernel_rfl) rfl (by decide +kernel) (by kernel_rfl)
theorem jc:Slot "set_iterator" "__iter__" "set_iterator.__iter__":=
 Slot.of (owner:="set_iterator") (n:="__iter__") (by rw[typeLookup_type,builtinLookup_eq_fast];kernel_rfl) (by decide +kernel) (by decide +kernel) (by decide +kernel) (by first |exact .inl (by decide +kernel) |exact .inr (by decide +kernel)) (by rw[isSubtype_type];kernel_rfl)
theorem la:entryFor table "set_iterator.__iter__"=some Builtin.«dict_keyiterator.__iter__»:=entryFor_alias (id':="dict_keyiterator.__iter__") (by kernel_rfl) rfl (by decide +kernel) (by kernel_rfl)
theorem l6 (a:Value):argsOk "set_iterator.__iter__" ⟨[a],[]⟩:=by unfold argsOk;kernel_rfl
theorem AQ (a:Addr)(slot given ep0:Nat):setNext a slot given ep0=(do
  let (es,epoch,t) <-setState a
  if (<-ask).params.followText "set-order" then
   if epoch != ep0 then unsupported "set_iterator.__next__:elements-changed"
   return ((<-setWalk a)[given]?).map fun e=>(e.2,slot)
  if !t.plain && es.size > 1 then unsupported "set_iterator.__next__:the-table-is-plain-no-more"
  let u:Unit <-(show Sem Unit from do if !t.led && !es.isEmpty then unsupported "set:maker-not-led")
  let i:=SetTable.below t.place slot
  return match es[i]?,t.place[i]? with
   |some (_,x),some j=>some (x,j + 1)
   |_,_=>none):=by
 unfold setNext setsByText
 simp only[bind_assoc,pure_bind]
 rfl
theorem B8 (a:Addr):setWalk a=(do
  let (es,epoch,t) <-setState a
  if (<-ask).params.followText "set-order" then return pickOrder ((<-ask).params.setOrder a epoch) es
  if !t.plain && es.size > 1 then return (<-drawOrder es.size es.toList).toArray
  let u:Unit <-(show Sem Unit from do if !t.led && es.size > 1 then unsupported "set:maker-not-led")
  return es):=by
 unfold setWalk setsByText
 simp only[bind_assoc,pure_bind]
 rfl
theorem zQ (a:Addr):setDrawn a=(do
  let (es,_,t) <-setState a
  let byText <-(do return (<-ask).params.followText "set-order")
  return !byText && (!t.plain && es.size > 1)):=rfl
theorem gk {α:Type}:∀(l:List α) (i:Nat) (h:i < l.length),(l[i] :: l.eraseIdx i).Perm l
 |a :: l,0,_=>List.Perm.refl _
 |a :: l,i + 1,h=>by
  have hi:i < l.length:=by simpa using h
  show (l[i] :: a :: l.eraseIdx i).Perm (a :: l)
  exact (List.Perm.swap ..).trans ((gk l i hi).cons a)
theorem oW {α:Type}(next:Nat->Nat):∀(fuel k:Nat) (left:List α) (out:Array α),left.length=fuel->(pickOrder.go next fuel k left out).toList.Perm (out.toList ++ left)
 | 0,k,left,out,h=>by
  have:left= []:=List.length_eq_zero_iff.mp h
  subst this
  unfold pickOrder.go
  simp
 |fuel + 1,k,left,out,h=>by
  unfold pickOrder.go
  have hlt:next k % left.length < left.length:=Nat.mod_lt _ (by omega)
  rw[List.getElem?_eq_getElem hlt]
  dsimp only
  refine (oW next fuel (k + 1) _ _ (by rw[List.length_eraseIdx_of_lt hlt];omega)).trans ?_
  rw[Array.toList_push,List.append_assoc]
  refine List.Perm.append_left _ ?_
  exact gk left _ hlt
theorem jr {α:Type}(next:Nat->Nat)(xs:Array α):(pickOrder next xs).toList.Perm xs.toList:=by
 have:=oW next xs.size 0 xs.toList #[] (by simp)
 simpa[pickOrder] using this
section
variable {prog:Program}{w:World}{A:Around}{E:Value->Shared->Prop}{s:Shared}
def told (w:World)(S:Addr)(ep:Nat)(es:Array (Int×Value)):Array (Int×Value):=if w.params.followText "set-order" then pickOrder (w.params.setOrder S ep) es else es
theorem oH (w:World)(S:Addr)(ep:Nat)(es:Array (Int×Value)):(told w S ep es).toList.Perm es.toList:=by
 unfold told;split
 ·exact jr _ _
 ·exact List.Perm.refl _
abbrev sH (S:Addr)(slot k n ep:Nat):Obj:={cls:=.type "set_iterator",data:=.fields #[.int (slot:Int) 0,.int (k:Int) 0,.ref S,.int (n:Int) 0,.int (ep:Int) 0]}
structure kS (w:World)(S:Addr)(o:Obj)(es:Array (Int×Value))(ep:Nat)(t:SetTable)(I:Addr)(k:Nat)(h:Heap):Prop where
 set:h.get? S=some o
 data:o.data=.set es ep t
 cls:o.cls=.type "set"
 tab:Tab t (es.toList.map (·.1))
 led:t.led=fk w
 it:∃slot,h.get? I=some (sH S slot k es.size ep)/\(fk w=true->slot=if k=0 then 0 else t.place.getD (k - 1) 0 + 1)
theorem kS.fits {S I:Addr}{o:Obj}{es:Array (Int×Value)}{ep k:Nat}{t:SetTable}{h:Heap}(X:kS w S o es ep t I k h):t.fits es.size=true:=mT X.tab (by simp)
theorem u9 {S I:Addr}{o:Obj}{es:Array (Int×Value)}{ep k slot:Nat}{t:SetTable}{Q:Option (Value×Nat)->Shared->Prop}(X:kS w S o es ep t I k s.heap)(hk:k<=es.size)(hs:fk w=true->slot=if k=0 then 0 else t.place.getD (k - 1) 0 + 1)
  (h:∀(r:Option (Value×Nat)),(k < es.size->∃x nx,r=some (x,nx)/\(told w S ep es)[k]?.map (·.2)=some x/\(fk w=true->nx=t.place.getD k 0 + 1))->(k=es.size->r=none)->Q r s) :
  wpAny (model prog w) A (setNext S slot k ep) Q E s:=by
 rw[AQ]
 refine wpAny_bind (wpAny_setState_of X.set X.data X.fits ?_)
 dsimp only
 refine wpAny_bind (wpAny_askSetting ?_)
 dsimp only
 cases hb:w.params.followText "set-order" with
 |true=>
  rw[if_pos (show (model prog w).w.params.followText "set-order"=true from hb)]
  simp only[bne_self_eq_false,Bool.false_eq_true,if_false]
  rw[B8]
  refine wpAny_bind (wpAny_bind (wpAny_setState_of X.set X.data X.fits ?_))
  dsimp only
  refine wpAny_bind (wpAny_askSetting ?_)
  dsimp only
  rw[if_pos (show (model prog w).w.params.followText "set-order"=true from hb)]
  refine wpAny_bind (wpAny_askSetting (wpAny_pure (wpAny_pure ?_)))
  have et:told w S ep es=pickOrder (w.params.setOrder S ep) es:=by unfold told;rw[if_pos hb]
  have hsz:(pickOrder (w.params.setOrder S ep) es).size=es.size:=by
   have:=(jr (w.params.setOrder S ep) es).length_eq;simpa using this
  refine h _ (fun hlt=>?_) (fun e=>?_)
  ·have hlt':k < (pickOrder (w.params.setOrder S ep) es).size:=by rw[hsz];exact hlt
   refine⟨(pickOrder (w.params.setOrder S ep) es)[k].2,slot,?_,?_,fun z=>?_⟩
   ·show Option.map _ (pickOrder (w.params.setOrder S ep) es)[k]? =_
    rw[Array.getElem?_eq_getElem hlt'];rfl
   ·rw[et,Array.getElem?_eq_getElem hlt'];rfl
   ·unfold fk at z;rw[hb] at z;cases z
  ·show Option.map _ (pickOrder (w.params.setOrder S ep) es)[k]? =_
   rw[Array.getElem?_eq_none (by rw[hsz];omega)];rfl
 |false=>
  rw[if_neg (show ¬(model prog w).w.params.followText "set-order"=true by intro z;rw[show (model prog w).w.params.followText "set-order"=false from hb] at z;cases z)]
  have hl:fk w=true:=by unfold fk;rw[hb];rfl
  rw[X.tab.plain,X.led,hl]
  simp only[Bool.not_true,Bool.false_and,Bool.false_eq_true,if_false]
  have et:told w S ep es=es:=by unfold told;rw[hb];simp
  have hps:t.place.size=es.size:=by simpa using X.tab.size
  have hbl:below t.place slot=k:=by
   rw[hs hl]
   obtain⟨b1,b2,b3⟩:=dk X.tab.rise (if k=0 then 0 else t.place.getD (k - 1) 0 + 1)
   by_cases k0:k=0
   ·subst k0
    simp only[if_true] at b1 b2 b3 ⊢
    rcases Nat.eq_zero_or_pos (below t.place 0) with z |z
    ·exact z
    ·have:=b2 0 z;omega
   ·rw[if_neg k0] at b1 b2 b3 ⊢
    have hk1:k - 1 < t.place.size:=by omega
    rcases Nat.lt_trichotomy (below t.place (t.place.getD (k - 1) 0 + 1)) k with z |z |z
    ·have q:=b3 (k - 1) (by omega) hk1
     have e:t.place.getD (k - 1) (t.place.getD (k - 1) 0 + 1)=t.place.getD (k - 1) 0:=by simp[Array.getD,hk1]
     omega
    ·exact z
    ·have hks:k < t.place.size:=by omega
     have q:=b2 k z
     have e:t.place.getD k (t.place.getD (k - 1) 0 + 1)=t.place.getD k 0:=by simp[Array.getD,hks]
     have:=gF (d:=0) X.tab.rise (show k - 1 < k by omega) hks
     omega
  refine wpAny_pure ?_
  rw[hbl]
  refine h _ (fun hlt=>?_) (fun e=>?_)
  ·have hlt2:k < t.place.size:=by omega
   refine⟨es[k].2,t.place[k] + 1,?_,?_,fun _=>?_⟩
   ·rw[Array.getElem?_eq_getElem hlt,Array.getElem?_eq_getElem hlt2]
   ·rw[et,Array.getElem?_eq_getElem hlt];rfl
   ·simp[Array.getD,hlt2]
  ·rw[Array.getElem?_eq_none (by omega)]
theorem xm {S I:Addr}{o:Obj}{es:Array (Int×Value)}{ep:Nat}{t:SetTable}(hh:A.handled=none)(hne:S≠I) :
  Walks prog w A I [I,S] [I] es.size (fun i v=>(told w S ep es)[i]?.map (·.2)=some v) (fun i h=>kS w S o es ep t I i h) where
 sub:=fun b hb=>List.mem_cons.mpr (.inl (List.mem_singleton.mp hb))
 frame:=fun i h h' X k=>by
  obtain⟨slot,e,r⟩:=X.it
  exact⟨k S (by simp) _ X.set,X.data,X.cls,X.tab,X.led,slot,k I (by simp) _ e,r⟩
 item:=fun i s Q E hi X hQ=>by
  obtain⟨slot,e,r⟩:=X.it
  have hT:s.TypeIs (.ref I) "set_iterator":=⟨_,e,rfl⟩
  unfold pyNext
  refine wpAny_bind (wpAny_attempt (wpAny_callSpecial?_slot (name:=Str.ofString "__next__") hT bO (wpAny_call_entry bO hT hX ?_ (i9 _))))
  unfold Builtin.«set_iterator.__next__»
  refine wpAny_bind (m:=slotArgs "__next__" 0 _) (wpAny_pure ?_)
  dsimp only
  unfold fieldsOf
  refine wpAny_bind (wpAny_bind (wpAny_load e (wpAny_pure ?_)))
  dsimp only
  unfold setEntries
  refine wpAny_bind (wpAny_bind (wpAny_setState_of X.set X.data X.fits (wpAny_pure ?_)))
  dsimp only
  rw[if_neg (by simp)]
  refine wpAny_bind ?_
  simp only[Int.toNat_natCast]
  refine u9 X (Nat.le_of_lt hi) r fun rr h1 _=>?_
  obtain⟨x,nx,rfl,h2,h3⟩:=h1 hi
  dsimp only
  refine wpAny_bind (wpAny_setField e rfl (by simp) ?_)
  have e2:=Heap.get?_update_self (Obj.mapFields fun vs=>vs.setIfInBounds 0 (rawInt (nx:Int))) e rfl
  refine wpAny_bind (wpAny_setField e2 rfl (by simp) ?_)
  refine wpAny_pure ⟨x,rfl,wpAny_pure ?_⟩
  have sb:=(Heap.SameBut.update s.heap I (Obj.mapFields fun vs=>vs.setIfInBounds 0 (rawInt (nx:Int)))).trans (Heap.SameBut.update _ I (Obj.mapFields fun vs=>vs.setIfInBounds 1 (rawInt ((i:Int) + 1))))
  refine hQ x _ _ h2 ⟨(sb.2 S hne).trans X.set,X.data,X.cls,X.tab,X.led,nx,?_,fun z=>?_⟩ fun b o hb eb=>(sb.2 b (by simpa using hb)).trans eb
  ·exact Heap.get?_update_self (Obj.mapFields fun vs=>vs.setIfInBounds 1 (rawInt ((i:Int) + 1))) e2 rfl
  ·rw[if_neg (by omega)];exact h3 z
 done:=fun s Q E X hQ=>by
  obtain⟨slot,e,r⟩:=X.it
  have hT:s.TypeIs (.ref I) "set_iterator":=⟨_,e,rfl⟩
  unfold pyNext
  refine wpAny_bind (wpAny_attempt (wpAny_callSpecial?_slot (name:=Str.ofString "__next__") hT bO (wpAny_call_entry bO hT hX ?_ (i9 _))))
  unfold Builtin.«set_iterator.__next__»
  refine wpAny_bind (m:=slotArgs "__next__" 0 _) (wpAny_pure ?_)
  dsimp only
  unfold fieldsOf
  refine wpAny_bind (wpAny_bind (wpAny_load e (wpAny_pure ?_)))
  dsimp only
  unfold setEntries
  refine wpAny_bind (wpAny_bind (wpAny_setState_of X.set X.data X.fits (wpAny_pure ?_)))
  dsimp only
  rw[if_neg (by simp)]
  refine wpAny_bind ?_
  simp only[Int.toNat_natCast]
  refine u9 X (Nat.le_refl _) r fun rr _ h1=>?_
  rw[h1 rfl]
  dsimp only
  refine wpAny_bind (wpAny_setField e rfl (by simp) ?_)
  (show wpAny _ _ (newExc (.type "StopIteration") [] >>= fun x=>raiseNew x) _ _ _)
  refine wpAny_bind ?_
  simp only[newExc,newTuple]
  (refine wpAny_bind (wpAny_newObj_type ?_ (by size_fits)))
  (refine wpAny_bind (m:=firstArgMember _ _) (wpAny_of_eq (a:=Value.none) (by first |rfl | (simp only[firstArgMember];rfl)) ?_))
  (refine wpAny_newObj_type ?_ (by size_fits))
  simp only[raiseNew]
  refine wpAny_bind (wpAny_handled ?_)
  (rw[show A.in1.handled=none from hh])
  refine wpAny_bind (wpAny_pure (wpAny_throw ?_))
  refine wpAny_bind (wpAny_isInstance (T:="StopIteration") (b:=true) ⟨_,Heap.get?_push_size _ rfl,rfl⟩ isSubtype_stop (wpAny_pure (hQ _ _ fun b o hb eb=>?_)))
  exact Heap.get?_push_of_some _ (Heap.get?_push_of_some _ (((Heap.SameBut.update ..).2 b (by simpa using hb)).trans eb))
 self:=fun i s Q E X hQ=>by
  obtain⟨slot,e,r⟩:=X.it
  have hT:s.TypeIs (.ref I) "set_iterator":=⟨_,e,rfl⟩
  refine wpAny_pyIter_slot hT jc (wpAny_call_entry jc hT la ?_ (l6 _))
  show wpAny _ _ (ret (.ref I)) _ _ s
  exact wpAny_pure ⟨_,rfl,"set_iterator",_,hT,bO.lookup,hQ⟩
theorem zM {S:Addr}{o:Obj}{es:Array (Int×Value)}{ep:Nat}{t:SetTable}{Q:Value->Shared->Prop}(ho:s.heap.get? S=some o)(hd:o.data=.set es ep t)(hc:o.cls=.type "set")(T:Tab t (es.toList.map (·.1)))(hl:t.led=fk w)
  (h:Q (.ref s.heap.objs.size) {s with heap:=s.heap.push (sH S 0 0 es.size ep)}):wpAny (model prog w) A (pyIter (.ref S)) Q E s:=by
 have hT:s.TypeIs (.ref S) "set":=⟨o,ho,hc⟩
 have hf:t.fits es.size=true:=mT T (by simp)
 refine wpAny_pyIter_slot hT F.slot_set_iter (wpAny_call_entry F.slot_set_iter hT n6 ?_ (F.args_set_iter_1 _))
 unfold Builtin.«frozenset.__iter__» Builtin.Frozenset.slot0
 refine wpAny_bind (wpAny_bind (m:=slotArgs "__iter__" 0 _) (wpAny_pure (wpAny_pure ?_)))
 unfold Builtin.Frozenset.sizeOf setEntries
 refine wpAny_bind (wpAny_bind (wpAny_bind (wpAny_setState_of ho hd hf (wpAny_pure (wpAny_pure ?_)))))
 rw[zQ]
 refine wpAny_bind (wpAny_bind (wpAny_setState_of ho hd hf ?_))
 dsimp only
 refine wpAny_bind (wpAny_bind (wpAny_askSetting (wpAny_pure (wpAny_pure ?_))))
 rw[T.plain]
 simp only[Bool.not_true,Bool.false_and,Bool.and_false,Bool.false_eq_true,if_false]
 refine wpAny_bind (wpAny_pure ?_)
 unfold setEpoch
 refine wpAny_bind (wpAny_bind (wpAny_setState_of ho hd hf (wpAny_pure ?_)))
 refine wpAny_bind (wpAny_newObj_type (wpAny_pure ⟨_,rfl,"set_iterator",_,⟨_,Heap.get?_push_size _ rfl,rfl⟩,bO.lookup,h⟩))
theorem qZ {S:Addr}{o:Obj}{es:Array (Int×Value)}{ep:Nat}{t:SetTable}{Q:List Value->Shared->Prop}(hh:A.handled=none)(ho:s.heap.get? S=some o)(hd:o.data=.set es ep t)(hc:o.cls=.type "set")(T:Tab t (es.toList.map (·.1)))(hl:t.led=fk w)
  (hn:es.size<=64) (h:∀h' tk vs,vs=(told w S ep es).toList.map (·.2)->(∀b o,s.heap.get? b=some o->h'.get? b=some o)->Q vs {s with heap:=h',toks:=tk}):wpAny (model prog w) A (collect (.ref S)) Q E s:=by
 have hz:es.size<=sizeLine:=by rw[sizeLine_eq];omega
 unfold collect
 (refine wpAny_bind (wpAny_runValue (codeAny_builtin F.entry_proto_collect ?_)))
 (rw[Around.under_plainId F.plain_proto_collect _])
 show wpAny _ A.in1 (newList [] >>= fun l=>again (.builtin "list.__iadd__" ⟨[l,.ref S],[]⟩)) _ _ s
 refine wpAny_bind (wpAny_newObj_type ?_)
 (refine wpAny_pure ⟨plainId_quiet F.plain_list_iadd _,codeAny_builtin F.entry_list_iadd ?_⟩)
 (rw[Around.under_plainId F.plain_list_iadd _])
 show wpAny _ A.in1 (Builtin.List.listExtendWith (.ref s.heap.objs.size) (.ref S) (.ref s.heap.objs.size)) _ _ {s with heap:=s.heap.push (seqObj "list" #[] 0)}
 generalize hH:s.heap.push (seqObj "list" #[] 0)=H1
 have kp1:∀b o,s.heap.get? b=some o->H1.get? b=some o:=fun b o e=>by rw[<-hH];exact Heap.get?_push_of_some _ e
 have hD:H1.get? s.heap.objs.size=some (seqObj "list" #[] 0):=by rw[<-hH];exact Heap.get?_push_size _ rfl
 have hHs:H1.objs.size=s.heap.objs.size + 1:=by rw[<-hH];exact Heap.size_push ..
 have hSD:S≠s.heap.objs.size:=Nat.ne_of_lt (Heap.lt_size ho)
 have hT:Shared.TypeIs {s with heap:=H1} (.ref S) "set":=⟨o,kp1 _ _ ho,hc⟩
 unfold Builtin.List.listExtendWith
 refine wpAny_bind (wpAny_typeOf hT ?_)
 have h1:Builtin.List.listSameRef (.ref s.heap.objs.size) (.ref S)=false:=by simp[Builtin.List.listSameRef,Ne.symm hSD]
 have h2:(Value.type "set" == Value.type "list")=false:=by decide
 have h3:(Value.type "set" == Value.type "tuple")=false:=by decide
 rw[h1,h2,h3]
 simp only[Bool.or_false,Bool.false_eq_true,if_false]
 refine wpAny_bind (zM (s:={s with heap:=H1}) (kp1 _ _ ho) hd hc T hl ?_)
 refine wpAny_bind (wpAny_holding ?_)
 unfold Builtin.List.listLengthHint
 have hT2:Shared.TypeIs {s with heap:=H1.push (sH S 0 0 es.size ep)} (.ref S) "set":=⟨o,Heap.get?_push_of_some _ (kp1 _ _ ho),hc⟩
 refine wpAny_bind (wpAny_specialOf hT2 F.slot_set_len.lookup ?_)
 wp_delta
 refine wpAny_bind (wpAny_isInstance hT2 (b:=true) (by rw[isSubtype_type];kernel_rfl) ?_)
 show wpAny _ A.in1 (typeOf (Value.ref S) >>= fun _=>_) _ _ _
 refine wpAny_bind (wpAny_typeOf hT2 ?_)
 refine wpAny_pure ?_
 show wpAny _ A.in1 (rule "list.extend.makes-room" >>= fun _=>Builtin.List.listTouch (.ref s.heap.objs.size) >>= fun _=>again (.builtin "list.extend.loop" ⟨[.ref s.heap.objs.size,.ref H1.objs.size,.ref s.heap.objs.size],[]⟩)) _ _ _
 refine wpAny_bind (wpAny_rule (wpAny_bind ?_))
 generalize hH2:H1.push (sH S 0 0 es.size ep)=H2
 have kp2:∀b o,H1.get? b=some o->H2.get? b=some o:=fun b o e=>by rw[<-hH2];exact Heap.get?_push_of_some _ e
 have hI:H2.get? H1.objs.size=some (sH S 0 0 es.size ep):=by rw[<-hH2];exact Heap.get?_push_size _ rfl
 have hS0:=kp2 _ _ hD
 show wpAny _ A.in1 (updateSeq s.heap.objs.size (·.push .none) >>= fun _=>updateSeq s.heap.objs.size (·.pop)) _ _ _
 refine wpAny_bind (wpAny_updateSeq (s:={s with heap:=H2}) hS0 rfl ?_)
 have hS2:=Heap.get?_update_self (Obj.mapSeq (·.push Value.none)) hS0 rfl
 refine wpAny_updateSeq (hz:=by seq_fits) hS2 rfl ?_
 have hS3:=Heap.get?_update_self (Obj.mapSeq (·.pop)) hS2 rfl
 have oth:∀b o,b≠s.heap.objs.size->H2.get? b=some o->((H2.update s.heap.objs.size (Obj.mapSeq (·.push Value.none))).update s.heap.objs.size (Obj.mapSeq (·.pop))).get? b=some o:=fun b o hb e=>
  ((Heap.SameBut.update _ s.heap.objs.size (Obj.mapSeq (·.pop))).2 b hb).trans (((Heap.SameBut.update H2 s.heap.objs.size (Obj.mapSeq (·.push Value.none))).2 b hb).trans e)
 have hIS:S≠H1.objs.size:=by rw[hHs];exact Nat.ne_of_lt (Nat.lt_succ_of_lt (Heap.lt_size ho))
 have hID:H1.objs.size≠s.heap.objs.size:=by rw[hHs];exact Nat.succ_ne_self _
 have hDf:s.heap.objs.size∉ [H1.objs.size,S]:=fun z=>by
  rcases List.mem_cons.mp z with e |z
  ·exact hID e.symm
  ·exact hSD (List.mem_singleton.mp z).symm
 have X0:kS w S o es ep t H1.objs.size 0 ((H2.update s.heap.objs.size (Obj.mapSeq (·.push Value.none))).update s.heap.objs.size (Obj.mapSeq (·.pop))):=
  ⟨oth _ _ hSD (kp2 _ _ (kp1 _ _ ho)),hd,hc,T,hl,0,oth _ _ hID hI,fun _=>rfl⟩
 refine wpAny_pure ⟨plainId_quiet F.plain_extend_loop _,codeAny_extend_loopS (xm (A:=A.in1) (o:=o) (t:=t) hh hIS).toS hz _ hDf _ es.size 0 _ _ _ rfl (Nat.zero_le _) X0 hS3 (ItemsOf.nil _) fun s' acc' c' hm hS' hacc=>?_⟩
 show wpAny _ A (load s.heap.objs.size >>= fun _=>_) _ _ s'
 refine wpAny_bind (wpAny_load hS' (wpAny_pure ?_))
 obtain⟨h',g',d',tk',os'⟩:=s'
 have eg:g'=s.gens:=hm.gens
 have ed:d'=s.drawn:=hm.drawn
 have eo:os'=s.os:=hm.os
 subst eg ed eo
 refine h h' tk' acc'.toList ?_ fun b ob e=>hm.heap b ob (fun hb=>?_) (oth b ob (Nat.ne_of_lt (Heap.lt_size e)) (kp2 _ _ (kp1 _ _ e)))
 ·have hts:(told w S ep es).size=es.size:=by have:=(oH w S ep es).length_eq;simpa using this
  apply List.ext_getElem?
  intro i
  rw[List.getElem?_map]
  by_cases hi:i < es.size
  ·have hi1:i < acc'.size:=by rw[hacc.1];exact hi
   have q:=hacc.2 i acc'[i] (Array.getElem?_eq_getElem hi1)
   rw[Array.getElem?_toList,Array.getElem?_toList,Array.getElem?_eq_getElem hi1]
   exact q.symm
  ·rw[Array.getElem?_toList,Array.getElem?_toList,Array.getElem?_eq_none (by rw[hacc.1];omega),Array.getElem?_eq_none (by omega)];rfl
 ·have hlt:=Heap.lt_size e
  rcases List.mem_cons.mp hb with z |z
  ·rw[z] at hlt;exact Nat.lt_irrefl _ hlt
  ·rw[List.mem_singleton.mp z,hHs] at hlt;exact absurd hlt (Nat.not_lt.mpr (Nat.le_succ _))
end
end L2.ST

end

section
namespace OM
abbrev Pr:=Int×Int
def AD (p q:Pr):Prop:=p.1 < q.1\/(p.1=q.1/\p.2 < q.2)
theorem iN (p:Pr):¬AD p p:=by unfold AD;omega
theorem wF {p q r:Pr}(a:AD p q)(b:AD q r):AD p r:=by unfold AD at *;omega
abbrev rW (l:List Pr):Prop:=l.Pairwise AD
theorem fQ:∀{l m:List Pr},rW l->rW m->(∀x,x∈l↔x∈m)->l=m
 | [],[],_,_,_=>rfl
 | [],b :: m,_,_,h=>absurd ((h b).mpr (List.mem_cons_self ..)) (by simp)
 |a :: l,[],_,_,h=>absurd ((h a).mp (List.mem_cons_self ..)) (by simp)
 |a :: l,b :: m,hl,hm,h=>by
  have hl':=List.pairwise_cons.mp hl
  have hm':=List.pairwise_cons.mp hm
  have e:a=b:=by
   rcases List.mem_cons.mp ((h a).mp (List.mem_cons_self ..)) with e |e
   ·exact e
   ·rcases List.mem_cons.mp ((h b).mpr (List.mem_cons_self ..)) with e' |e'
    ·exact e'.symm
    ·exact absurd (wF (hm'.1 a e) (hl'.1 b e')) (iN _)
  subst e
  congr 1
  refine fQ hl'.2 hm'.2 fun x=>⟨fun hx=>?_,fun hx=>?_⟩
  ·rcases List.mem_cons.mp ((h x).mp (List.mem_cons_of_mem _ hx)) with e |e
   ·subst e;exact absurd (hl'.1 x hx) (iN _)
   ·exact e
  ·rcases List.mem_cons.mp ((h x).mpr (List.mem_cons_of_mem _ hx)) with e |e
   ·subst e;exact absurd (hm'.1 x hx) (iN _)
   ·exact e
theorem jI {l:List Pr}(h:rW l):l.Nodup:=h.imp fun {a b} hab e=>by subst e;exact iN _ hab
theorem dN {l:List Pr}(p:Pr->Bool)(h:rW l):rW (l.filter p):=h.sublist List.filter_sublist
def b6 (n:Nat):List Pr:=(List.range (n * n)).map fun k=>(((k / n:Nat):Int),((k % n:Nat):Int))
theorem a8 {n:Nat}{p:Pr}:p∈b6 n↔(0<=p.1/\p.1 < n)/\(0<=p.2/\p.2 < n):=by
 unfold b6
 rw[List.mem_map]
 constructor
 ·rintro⟨k,hk,rfl⟩
  have hk:=List.mem_range.mp hk
  have hn:0 < n:=by
   rcases Nat.eq_zero_or_pos n with e |e
   ·subst e;omega
   ·exact e
  have h1:k / n < n:=Nat.div_lt_of_lt_mul hk
  have h2:k % n < n:=Nat.mod_lt _ hn
  generalize k / n=q at h1
  generalize k % n=r at h2
  exact⟨⟨Int.natCast_nonneg _,by dsimp only;omega⟩,⟨Int.natCast_nonneg _,by dsimp only;omega⟩⟩
 ·rintro⟨⟨a0,a1⟩,⟨b0,b1⟩⟩
  have hn:0 < n:=by omega
  refine⟨p.1.toNat * n + p.2.toNat,List.mem_range.mpr ?_,?_⟩
  ·have h1:p.1.toNat + 1<=n:=by omega
   have h2:p.2.toNat < n:=by omega
   have:=Nat.mul_le_mul_right n h1
   rw[Nat.add_mul] at this
   omega
  ·have h2:p.2.toNat < n:=by omega
   have e1:(p.1.toNat * n + p.2.toNat) / n=p.1.toNat:=by
    rw[Nat.mul_comm,Nat.mul_add_div hn,Nat.div_eq_of_lt h2];rfl
   have e2:(p.1.toNat * n + p.2.toNat) % n=p.2.toNat:=by
    rw[Nat.mul_comm,Nat.mul_add_mod,Nat.mod_eq_of_lt h2]
   rw[e1,e2]
   refine Prod.ext ?_ ?_ <;> dsimp only <;> omega
theorem gr (n:Nat):rW (b6 n):=by
 unfold b6
 refine List.pairwise_map.mpr (List.Pairwise.imp_of_mem ?_ List.pairwise_lt_range)
 intro a b ha hb hab
 have ha:=List.mem_range.mp ha
 have hb:=List.mem_range.mp hb
 have hn:0 < n:=by
  rcases Nat.eq_zero_or_pos n with e |e
  ·subst e;omega
  ·exact e
 have h1:a / n<=b / n:=Nat.div_le_div_right (Nat.le_of_lt hab)
 have e1:=Nat.div_add_mod a n
 have e2:=Nat.div_add_mod b n
 unfold AD
 dsimp only
 rcases Nat.lt_or_ge (a / n) (b / n) with c |c
 ·left;omega
 ·right
  have e:a / n=b / n:=by omega
  rw[e] at e1
  omega
open Classical in
noncomputable def b4 (n:Nat)(R:Int->Int->Prop):List Pr:=(b6 n).filter fun p=>decide (R p.1 p.2)
theorem aR {n:Nat}{R:Int->Int->Prop}{p:Pr}:p∈b4 n R↔((0<=p.1/\p.1 < n)/\(0<=p.2/\p.2 < n))/\R p.1 p.2:=by
 unfold b4
 rw[List.mem_filter,a8]
 simp
theorem c7 (n:Nat)(R:Int->Int->Prop):rW (b4 n R):=dN _ (gr n)
theorem td {n:Nat}{R S:Int->Int->Prop}(h:∀a b:Int,0<=a->a < n->0<=b->b < n->(R a b↔S a b)):b4 n R=b4 n S:=by
 refine fQ (c7 n R) (c7 n S) fun x=>?_
 rw[aR,aR]
 constructor
 ·rintro⟨⟨⟨a,b⟩,c,d⟩,r⟩;exact⟨⟨⟨a,b⟩,c,d⟩,(h _ _ a b c d).mp r⟩
 ·rintro⟨⟨⟨a,b⟩,c,d⟩,r⟩;exact⟨⟨⟨a,b⟩,c,d⟩,(h _ _ a b c d).mpr r⟩
def Wn (n:Nat)(l:List Pr):Prop:=∀p,p∈l->(0<=p.1/\p.1 < n)/\(0<=p.2/\p.2 < n)
abbrev Mem (l:List Pr)(a b:Int):Prop:=(a,b)∈l
theorem v7 {n:Nat}{l:List Pr}(w:Wn n l)(r:rW l):b4 n (Mem l)=l:=by
 refine fQ (c7 n _) r fun x=>?_
 rw[aR]
 exact⟨fun h=>h.2,fun h=>⟨w x h,h⟩⟩
theorem pS (n:Nat)(R:Int->Int->Prop):Wn n (b4 n R):=fun _ h=>(aR.mp h).1
theorem zA (n:Nat)(R:Int->Int->Prop):(b4 n R).length<=n * n:=by
 unfold b4
 refine Nat.le_trans (List.length_filter_le ..) ?_
 unfold b6;simp
inductive Tr (R:Int->Int->Prop):Int->Int->Prop
 |one {a b}:R a b->Tr R a b
 |more {a b c}:R a b->Tr R b c->Tr R a c
theorem Tr.trans {R:Int->Int->Prop}{a b c:Int}(h:Tr R a b)(k:Tr R b c):Tr R a c:=by
 induction h with
 |one r=>exact .more r k
 |more r _ ih=>exact .more r (ih k)
theorem Tr.least {R S:Int->Int->Prop}(f:∀a b,R a b->S a b)(t:∀a b c,S a b->S b c->S a c){a b:Int}(h:Tr R a b):S a b:=by
 induction h with
 |one r=>exact f _ _ r
 |more r _ ih=>exact t _ _ _ (f _ _ r) ih
structure Ord (n:Nat)(l:List Pr):Prop where
 lo:1<=n
 hi:n<=8
 wn:Wn n l
 ris:rW l
 irr:∀a,(a,a)∉l
 tr:∀a b c,(a,b)∈l->(b,c)∈l->(a,c)∈l
theorem Ord.tr_mem {n:Nat}{l:List Pr}(O:Ord n l){a b:Int}:Tr (Mem l) a b↔(a,b)∈l:=
 ⟨fun h=>h.least (fun _ _ r=>r) fun a b c=>O.tr a b c,fun h=>.one h⟩
theorem Ord.closed {n:Nat}{l:List Pr}(O:Ord n l):b4 n (Tr (Mem l))=l:=by
 rw[td (S:=Mem l) fun a b _ _ _ _=>O.tr_mem,v7 O.wn O.ris]
theorem C5 {n:Nat}{l:List Pr}(h1:1<=n)(h8:n<=8)(w:Wn n l)(hr:∀a,¬Tr (Mem l) a a):Ord n (b4 n (Tr (Mem l))):=
 ⟨h1,h8,pS n _,c7 n _,fun a h=>hr a (aR.mp h).2,fun a b c h k=>aR.mpr ⟨⟨(aR.mp h).1.1,(aR.mp k).1.2⟩,(aR.mp h).2.trans (aR.mp k).2⟩⟩
theorem mF {l m:List Pr}(hl:l.Nodup)(h:∀x,x∈l->x∈m):l.length<=m.length:=by
 induction l generalizing m with
 |nil=>exact Nat.zero_le _
 |cons a l ih=>
  have ha:=h a (List.mem_cons_self ..)
  have hl':=List.nodup_cons.mp hl
  have:=ih (m:=m.erase a) hl'.2 fun x hx=>by
   refine (List.mem_erase_of_ne ?_).mpr (h x (List.mem_cons_of_mem _ hx))
   rintro rfl;exact hl'.1 hx
  rw[List.length_erase_of_mem ha] at this
  have:0 < m.length:=List.length_pos_of_mem ha
  simp only[List.length_cons];omega
theorem sub_eq {l m:List Pr}(hl:rW l)(hm:rW m)(h:∀x,x∈l->x∈m)(e:l.length=m.length):l=m:=by
 refine fQ hl hm fun x=>⟨h x,fun hx=>Classical.byContradiction fun hn=>?_⟩
 have:=mF (l:=x :: l) (m:=m) (List.nodup_cons.mpr ⟨hn,jI hl⟩) fun y hy=>by
  rcases List.mem_cons.mp hy with e |e
  ·subst e;exact hx
  ·exact h y e
 simp only[List.length_cons] at this
 omega
def more (l:List Pr):List Pr:=l.flatMap fun p=>(l.filter fun q=>decide (q.1=p.2)).map fun q=>(p.1,q.2)
theorem m8 {l:List Pr}{x:Pr}:x∈more l↔∃b,(x.1,b)∈l/\(b,x.2)∈l:=by
 unfold more
 rw[List.mem_flatMap]
 constructor
 ·rintro⟨p,hp,hx⟩
  obtain⟨q,hq,rfl⟩:=List.mem_map.mp hx
  obtain⟨hq,e⟩:=List.mem_filter.mp hq
  have e:q.1=p.2:=by simpa using e
  exact⟨p.2,hp,by rw[<-e];exact hq⟩
 ·rintro⟨b,h1,h2⟩
  exact⟨(x.1,b),h1,List.mem_map.mpr ⟨(b,x.2),List.mem_filter.mpr ⟨h2,by simp⟩,rfl⟩⟩
noncomputable def jt (n:Nat)(l:List Pr):List Pr:=b4 n (Mem (l ++ more l))
structure CF (n:Nat)(ps l:List Pr):Prop where
 wn:Wn n l
 ris:rW l
 sub:∀x,x∈ps->x∈l
 sup:∀x,x∈l->Tr (Mem ps) x.1 x.2
theorem xy {n:Nat}{ps:List Pr}(w:Wn n ps):CF n ps (b4 n (Mem ps)):=
 ⟨pS n _,c7 n _,fun x hx=>aR.mpr ⟨w x hx,hx⟩,fun _ hx=>.one (aR.mp hx).2⟩
theorem zw {n:Nat}{ps l:List Pr}(B:CF n ps l):Wn n (l ++ more l):=fun x hx=>by
 rcases List.mem_append.mp hx with h |h
 ·exact B.wn x h
 ·obtain⟨b,h1,h2⟩:=m8.mp h
  exact⟨(B.wn _ h1).1,(B.wn _ h2).2⟩
theorem rz {n:Nat}{ps l:List Pr}(B:CF n ps l):CF n ps (jt n l)/\∀x,x∈l->x∈jt n l:=by
 have hs:∀x,x∈l->x∈jt n l:=fun x hx=>aR.mpr ⟨B.wn x hx,List.mem_append_left _ hx⟩
 refine⟨⟨pS n _,c7 n _,fun x hx=>hs x (B.sub x hx),fun x hx=>?_⟩,hs⟩
 rcases List.mem_append.mp (aR.mp hx).2 with h |h
 ·exact B.sup _ h
 ·obtain⟨b,h1,h2⟩:=m8.mp h
  exact (B.sup _ h1).trans (B.sup _ h2)
theorem Ai {n:Nat}{ps l:List Pr}(B:CF n ps l)(e:(jt n l).length=l.length):jt n l=b4 n (Tr (Mem ps)):=by
 obtain⟨B2,hs⟩:=rz B
 have q:l=jt n l:=sub_eq B.ris B2.ris hs e.symm
 refine fQ B2.ris (c7 n _) fun x=>⟨fun h=>aR.mpr ⟨B2.wn x h,B2.sup x h⟩,fun h=>?_⟩
 rw[<-q]
 have tr:∀a b c:Int,(a,b)∈l->(b,c)∈l->(a,c)∈l:=fun a b c h1 h2=>by
  rw[q]
  exact aR.mpr ⟨⟨(B.wn _ h1).1,(B.wn _ h2).2⟩,List.mem_append_right _ (m8.mpr ⟨b,h1,h2⟩)⟩
 exact (aR.mp h).2.least (S:=Mem l) (fun a b r=>B.sub _ r) tr
abbrev Tb:=Nat->Nat->Bool
def Tb.set (M:Tb)(a b:Nat):Tb:=fun x y=>if x=a/\y=b then true else M x y
def Ce (M:Tb)(m:Nat):Prop:=∀k a b,k < m->M a k=true->M k b=true->M a b=true
def Phase (M0 M:Tb)(m:Nat)(D:Nat->Nat->Prop):Prop:=∀a b,M a b=true↔M0 a b=true\/(D a b/\M0 a m=true/\M0 m b=true)
theorem Phase.start (M:Tb)(m:Nat):Phase M M m fun _ _=>False:=fun a b=>by simp
theorem Phase.row {M0 M:Tb}{m:Nat}{D:Nat->Nat->Prop}(P:Phase M0 M m D)(a:Nat):M a m=true↔M0 a m=true:=by
 rw[P]
 exact⟨fun h=>h.elim id fun h=>h.2.1,.inl⟩
theorem Phase.col {M0 M:Tb}{m:Nat}{D:Nat->Nat->Prop}(P:Phase M0 M m D)(b:Nat):M m b=true↔M0 m b=true:=by
 rw[P]
 exact⟨fun h=>h.elim id fun h=>h.2.2,.inl⟩
theorem Phase.step {M0 M:Tb}{m:Nat}{D:Nat->Nat->Prop}(P:Phase M0 M m D)(x y:Nat) :
  Phase M0 (if M x m=true/\M m y=true then M.set x y else M) m (fun a b=>D a b\/(a=x/\b=y)):=fun a b=>by
 have r:=P.row x
 have c:=P.col y
 by_cases h:M x m=true/\M m y=true
 ·rw[if_pos h]
  unfold Tb.set
  by_cases e:a=x/\b=y
  ·rw[if_pos e]
   obtain⟨rfl,rfl⟩:=e
   simp only[true_iff]
   exact .inr ⟨.inr (by simp),r.mp h.1,c.mp h.2⟩
  ·rw[if_neg e,P]
   constructor
   ·rintro (q | ⟨d,q⟩)
    ·exact .inl q
    ·exact .inr ⟨.inl d,q⟩
   ·rintro (q | ⟨d |d,q⟩)
    ·exact .inl q
    ·exact .inr ⟨d,q⟩
    ·exact absurd d e
 ·rw[if_neg h,P]
  constructor
  ·rintro (q | ⟨d,q⟩)
   ·exact .inl q
   ·exact .inr ⟨.inl d,q⟩
  ·rintro (q | ⟨d | ⟨rfl,rfl⟩,q1,q2⟩)
   ·exact .inl q
   ·exact .inr ⟨d,q1,q2⟩
   ·exact absurd ⟨r.mpr q1,c.mpr q2⟩ h
theorem Phase.done {M0 M:Tb}{m n:Nat}{D:Nat->Nat->Prop}(P:Phase M0 M m D)(hD:∀a b,a < n->b < n->D a b)(hM:∀a b,M0 a b=true->a < n/\b < n)(T:Ce M0 m) :
  Ce M (m + 1)/\∀a b,M a b=true->a < n/\b < n:=by
 have hM':∀a b,M a b=true->a < n/\b < n:=fun a b h=>by
  rcases (P a b).mp h with q | ⟨_,q1,q2⟩
  ·exact hM a b q
  ·exact⟨(hM _ _ q1).1,(hM _ _ q2).2⟩
 have put:∀a b,M0 a m=true->M0 m b=true->M a b=true:=fun a b h1 h2=>(P a b).mpr (.inr ⟨hD a b (hM _ _ h1).1 (hM _ _ h2).2,h1,h2⟩)
 refine⟨fun k a b hk h1 h2=>?_,hM'⟩
 rcases Nat.lt_or_ge k m with c |c
 ·rcases (P a k).mp h1 with q1 | ⟨_,q1,q1'⟩
  ·rcases (P k b).mp h2 with q2 | ⟨_,q2,q2'⟩
   ·exact (P a b).mpr (.inl (T k a b c q1 q2))
   ·exact put a b (T k a m c q1 q2) q2'
  ·rcases (P k b).mp h2 with q2 | ⟨_,q2,q2'⟩
   ·exact put a b q1 (T k m b c q1' q2)
   ·exact put a b q1 q2'
 ·have e:k=m:=by omega
  subst e
  exact put a b ((P.row a).mp h1) ((P.col b).mp h2)
structure Tab (n:Nat)(ps:List Pr)(M:Tb):Prop where
 inn:∀a b,M a b=true->a < n/\b < n
 sub:∀a b:Nat,((a:Int),(b:Int))∈ps->M a b=true
 sup:∀a b:Nat,M a b=true->Tr (Mem ps) a b
theorem Tab.phase {n:Nat}{ps:List Pr}{M0 M:Tb}{m:Nat}{D:Nat->Nat->Prop}(T:Tab n ps M0)(P:Phase M0 M m D):Tab n ps M:=
 ⟨fun a b h=>by
  rcases (P a b).mp h with q | ⟨_,q1,q2⟩
  ·exact T.inn a b q
  ·exact⟨(T.inn _ _ q1).1,(T.inn _ _ q2).2⟩,
  fun a b h=>(P a b).mpr (.inl (T.sub a b h)),
  fun a b h=>by
  rcases (P a b).mp h with q | ⟨_,q1,q2⟩
  ·exact T.sup a b q
  ·exact (T.sup _ _ q1).trans (T.sup _ _ q2)⟩
theorem Tab.all {n:Nat}{ps:List Pr}{M:Tb}(w:Wn n ps)(T:Tab n ps M)(H:Ce M n)(a b:Nat):M a b=true↔Tr (Mem ps) a b:=by
 refine⟨T.sup a b,fun h=>?_⟩
 have key:∀{x y:Int},Tr (Mem ps) x y->M x.toNat y.toNat=true:=fun {x y} h=>by
  induction h with
  | @one x y r=>
   have:=w _ r
   refine T.sub _ _ ?_
   have e1:((x.toNat:Nat):Int)=x:=by simp only at this;omega
   have e2:((y.toNat:Nat):Int)=y:=by simp only at this;omega
   rw[e1,e2];exact r
  | @more x y z r _ ih=>
   have:=w _ r
   have e1:((x.toNat:Nat):Int)=x:=by simp only at this;omega
   have e2:((y.toNat:Nat):Int)=y:=by simp only at this;omega
   have q:M x.toNat y.toNat=true:=T.sub _ _ (by rw[e1,e2];exact r)
   exact H y.toNat _ _ (T.inn _ _ q).2 q ih
 have:=key h
 simpa using this
end OM

end

section
namespace L2.ST
open PySem PySem.SetTable PySem.W PyProof.Rows
section
variable {prog:Program}{w:World}{A:Around}{E:Value->Shared->Prop}{s:Shared}
theorem D8 {ps:List Pr}(hs:∀p,p∈ps->Sm p){ix:Array Nat}(P:L2.SO.Pm ps.length ix)(U:L2.SO.Up (oo ps) ix ps.length):OM.rW (ix.toList.map fun i=>ps.getD i (0,0)):=by
 refine List.pairwise_map.mpr (List.pairwise_iff_getElem.mpr fun i j hi hj hij=>?_)
 have hi':i < ix.size:=by simpa using hi
 have hj':j < ix.size:=by simpa using hj
 have q:=U i j hij (by rw[<-P.sz];exact hj')
 unfold L2.SO.Kp oo at q
 have ei:ix.getD i 0=ix.toList[i]:=by simp[Array.getD,hi']
 have ej:ix.getD j 0=ix.toList[j]:=by simp[Array.getD,hj']
 rw[ei,ej] at q
 have ai:ix.toList[i] < ps.length:=P.lt _ (by simp)
 have aj:ix.toList[j] < ps.length:=P.lt _ (by simp)
 have bi:Sm (ps.getD ix.toList[i] (0,0)):=by rw[List.getD_eq_getElem?_getD,List.getElem?_eq_getElem ai];exact hs _ (List.getElem_mem ai)
 have bj:Sm (ps.getD ix.toList[j] (0,0)):=by rw[List.getD_eq_getElem?_getD,List.getElem?_eq_getElem aj];exact hs _ (List.getElem_mem aj)
 exact (vk bi bj).mp q
theorem DP {n:Nat}{ix:Array Nat}(P:L2.SO.Pm n ix){k:Nat}(hk:k < n):k∈ix.toList:=by
 refine Classical.byContradiction fun hn=>?_
 have:=b5 (l:=k :: ix.toList) (m:=List.range n) (List.nodup_cons.mpr ⟨hn,P.nd⟩) fun x hx=>by
  rcases List.mem_cons.mp hx with e |e
  ·rw[e];exact List.mem_range.mpr hk
  ·exact List.mem_range.mpr (P.lt x (by simpa using e))
 simp[P.sz] at this
 omega
theorem Es {h:Heap}{vs:List Value}{ps:List Pr}(hps:cU prog w h vs ps){ix:Array Nat}(P:L2.SO.Pm vs.length ix) :
  cU prog w h (ix.toList.map fun i=>vs.getD i Value.none) (ix.toList.map fun i=>ps.getD i (0,0)):=by
 refine⟨by simp,fun i v p h1 h2=>?_⟩
 rw[List.getElem?_map] at h1 h2
 cases e:ix.toList[i]? with
 |none=>rw[e] at h1;cases h1
 |some k=>
  rw[e] at h1 h2
  have hk:k < vs.length:=P.lt k (by simpa using List.mem_of_getElem? e)
  have hk':k < ps.length:=by rw[<-hps.1];exact hk
  simp[hk,hk'] at h1 h2
  exact hps.2 k v p (by rw[List.getElem?_eq_getElem hk,h1]) (by rw[List.getElem?_eq_getElem hk',h2])
theorem xj {v:Value}{vs:List Value}{ps:List Pr}{Q:Value->Shared->Prop}(hps:cU prog w s.heap vs ps)(nd:ps.Nodup)(h64:vs.length < 64)
  (hcol:∀(Q':List Value->Shared->Prop),(∀h' tk,(∀b o,s.heap.get? b=some o->h'.get? b=some o)->Q' vs {s with heap:=h',toks:=tk})->wpAny (model prog w) A.in1 (collect v) Q' (fun e s'=>E e s') s)
  (h:∀(h1 h':Heap) (tk:Nat) (D:Addr) (out:List Value) (qs:List Pr) (c:Nat),(∀b o,s.heap.get? b=some o->h1.get? b=some o)->D=h1.objs.size->(∀b o,h1.get? b=some o->h'.get? b=some o)->h'.get? D=some (seqObj "list" out.toArray c)->cU prog w h' out qs->(∀u,u∈out->u∈vs)->OM.rW qs->(∀p,p∈qs↔p∈ps)->
   Q (.ref D) {s with heap:=h',toks:=tk}):wpAny (model prog w) A (call (.builtin "sorted") [v]) Q E s:=by
 have hsm:∀p,p∈ps->Sm p:=fun p hp=>by
  obtain⟨i,hi,e⟩:=List.mem_iff_getElem.mp hp
  have hi':i < vs.length:=by rw[hps.1];exact hi
  obtain⟨_,_,_,hs⟩:=hps.2 i vs[i] p (List.getElem?_eq_getElem hi') (by rw[List.getElem?_eq_getElem hi,e])
  exact hs
 (refine Calls.call_function_entry kind_sorted plain_sorted entry_sorted (args_sorted1 _) ?_)
 unfold Builtin.«sorted»
 refine wpAny_bind (m:=checkCount "sorted" 1 1 ([v]:List Value).length) (wpAny_pure ?_)
 refine wpAny_bind (hcol _ fun h1 tk1 k1=>?_)
 have hz:vs.length<=sizeLine:=by rw[sizeLine_eq];omega
 refine wpAny_bind (wpAny_newList ?_ hz)
 show wpAny _ _ _ _ _ {s with heap:=h1.push (seqObj "list" vs.toArray 0),toks:=tk1}
 have hoL:(h1.push (seqObj "list" vs.toArray 0)).get? h1.objs.size=some (seqObj "list" vs.toArray 0):=Heap.get?_push_size _ rfl
 have kp:∀b o,s.heap.get? b=some o->(h1.push (seqObj "list" vs.toArray 0)).get? b=some o:=fun b o e=>Heap.get?_push_of_some _ (k1 b o e)
 have hp1:cU prog w (h1.push (seqObj "list" vs.toArray 0)) vs ps:=⟨hps.1,fun i v p a b=>by
  obtain⟨c,e,⟨o,it,n,ho,r⟩,hs⟩:=hps.2 i v p a b
  exact⟨c,e,⟨o,it,n,kp _ _ ho,r⟩,hs⟩⟩
 have hne:∀b o,s.heap.get? b=some o->b≠h1.objs.size:=fun b o e=>Nat.ne_of_lt (Heap.lt_size (k1 b o e))
 refine wpAny_bind (wpAny_holding (wpAny_call_entry slot_list_sort ⟨_,hoL,rfl⟩ entry_list_sort ?_ (args_list_sort _)))
 refine qL (s:={s with heap:=h1.push (seqObj "list" vs.toArray 0),toks:=tk1}) hoL hp1 nd h64 fun h' c ix P U hk ho=>?_
 refine⟨_,rfl,wpAny_pure ⟨_,rfl,?_⟩⟩
 have kk:∀b o,s.heap.get? b=some o->h'.get? b=some o:=fun b o e=>hk b o (hne b o e) (kp b o e)
 have P':L2.SO.Pm ps.length ix:=by rw[<-hps.1];exact P
 have k2:∀b o,h1.get? b=some o->h'.get? b=some o:=fun b o e=>hk b o (Nat.ne_of_lt (Heap.lt_size e)) (Heap.get?_push_of_some _ e)
 refine h h1 h' tk1 h1.objs.size _ (ix.toList.map fun i=>ps.getD i (0,0)) c k1 rfl k2 ho (Es ⟨hps.1,fun i v p a b=>?_⟩ P) (fun u hu=>?_) (D8 hsm P' (by rw[<-hps.1];exact U)) fun p=>⟨fun hp=>?_,fun hp=>?_⟩
 ·obtain⟨c,e,⟨o,it,n,ho,r⟩,hs⟩:=hps.2 i v p a b
  exact⟨c,e,⟨o,it,n,kk _ _ ho,r⟩,hs⟩
 ·obtain⟨i,hi,rfl⟩:=List.mem_map.mp hu
  have:i < vs.length:=P.lt i (by simpa using hi)
  rw[List.getD_eq_getElem?_getD,List.getElem?_eq_getElem this]
  exact List.getElem_mem this
 ·obtain⟨i,hi,rfl⟩:=List.mem_map.mp hp
  have:i < ps.length:=P'.lt i (by simpa using hi)
  rw[List.getD_eq_getElem?_getD,List.getElem?_eq_getElem this]
  exact List.getElem_mem this
 ·obtain⟨i,hi,e⟩:=List.mem_iff_getElem.mp hp
  refine List.mem_map.mpr ⟨i,DP P' hi,?_⟩
  rw[List.getD_eq_getElem?_getD,List.getElem?_eq_getElem hi,e];rfl
end
end L2.ST

end

section
namespace L2
open PySem PySem.Spec PyProof.Rows
abbrev Pr:=Int×Int
abbrev Sm:=L2.ST.Sm
section
variable {X:Cx}{pins:List (Addr×Obj)}{σ:St}{H H':Hp}{s:Shared}
def gx (H H':Hp):Prop:=(∀b xs,H b=some (.tup xs)->H' b=some (.tup xs))/\∀b o u,H b=some (.a7 o u)->H' b=some (.a7 o u)
theorem gx.trans {H H1 H2:Hp}(a:gx H H1)(b:gx H1 H2):gx H H2:=⟨fun c xs h=>b.1 c xs (a.1 c xs h),fun c o u h=>b.2 c o u (a.2 c o u h)⟩
theorem ak.grow {H H':Hp}(e:ak H H'):gx H H':=⟨fun b xs h=>e b _ h,fun b o u h=>e b _ h⟩
theorem gx.new {H:Hp}{l:Addr}{o:HO}(h:H l=none):gx H (upd H l o):=⟨fun b xs e=>by rw[az (aF e h)];exact e,fun b o' u e=>by rw[az (aF e h)];exact e⟩
theorem ak.new {H:Hp}{l:Addr}{o:HO}(h:H l=none):ak H (upd H l o):=fun b u e=>by rw[az (aF e h)];exact e
theorem fG.grow {K:PySem.W.Frag}{a:Addr}{xs:List V}(h:fG K H a xs)(g:gx H H'):fG K H' a xs:=by
 rcases h with (h | ⟨o,h⟩) |h
 ·exact .inl (.inl (g.1 _ _ h))
 ·exact .inl (.inr ⟨o,g.2 _ _ _ h⟩)
 ·exact .inr h
theorem gx.list {a:Addr}{ys:List V}{o:HO}(h:H a=some (.lst ys)):gx H (upd H a o):=
 ⟨fun b xs e=>by rw[az (Cq e h (by intro z;cases z))];exact e,fun b o' u e=>by rw[az (Cq e h (by intro z;cases z))];exact e⟩
theorem og {α β:Type}{f:α->β}:∀{l:List α} {m:List β},m.Perm (l.map f)->∃l':List α,m=l'.map f/\l'.Perm l:=by
 intro l m h
 generalize hk:l.map f=k at h
 induction h generalizing l with
 |nil=>
  have:l= []:=by simpa using hk
  exact⟨[],rfl,by rw[this]⟩
 | @cons x m1 m2 _ ih=>
  cases l with
  |nil=>cases hk
  |cons a l=>
   simp only[List.map_cons,List.cons.injEq] at hk
   obtain⟨l',e,p⟩:=ih hk.2
   exact⟨a :: l',by rw[List.map_cons,hk.1,e],p.cons a⟩
 |swap x y m1=>
  cases l with
  |nil=>cases hk
  |cons a l=>
   cases l with
   |nil=>simp at hk
   |cons b l=>
    simp only[List.map_cons,List.cons.injEq] at hk
    exact⟨b :: a :: l,by rw[List.map_cons,List.map_cons,hk.1,hk.2.1,hk.2.2],List.Perm.swap ..⟩
 |trans _ _ ih1 ih2=>
  obtain⟨l1,e1,p1⟩:=ih2 hk
  obtain⟨l2,e2,p2⟩:=ih1 e1.symm
  exact⟨l2,e2,p2.trans p1⟩
def aM (K:PySem.W.Frag)(H:Hp):List V->List Pr->Prop:=Paired fun v p=>∃a,v=.ref a/\fG K H a [.int p.1,.int p.2]
theorem aM.grow {K:PySem.W.Frag}{vs:List V}{ps:List Pr}(h:aM K H vs ps)(g:gx H H'):aM K H' vs ps:=Paired.mapP h fun v p ⟨a,e,q⟩=>⟨a,e,q.grow g⟩
theorem Paired.getP {α β:Type}{F:α->β->Prop}:∀{l:List α} {m:List β} {i:Nat} {x:α},Paired F l m->l[i]? =some x->∃y,m[i]? =some y/\F x y
 |_,_,_,_,.nil,e=>by simp at e
 |_,_,0,_,.cons r _,e=>by simp at e;subst e;exact⟨_,rfl,r⟩
 |_,_,i + 1,x,.cons _ t,e=>by
  obtain⟨u,h1,h2⟩:=Paired.getP (i:=i) (x:=x) t (by simpa using e)
  exact⟨u,by simpa using h1,h2⟩
theorem Paired.getQ {α β:Type}{F:α->β->Prop}:∀{l:List α} {m:List β} {i:Nat} {y:β},Paired F l m->m[i]? =some y->∃x,l[i]? =some x/\F x y
 |_,_,_,_,.nil,e=>by simp at e
 |_,_,0,_,.cons r _,e=>by simp at e;subst e;exact⟨_,rfl,r⟩
 |_,_,i + 1,x,.cons _ t,e=>by
  obtain⟨u,h1,h2⟩:=Paired.getQ (i:=i) (y:=x) t (by simpa using e)
  exact⟨u,by simpa using h1,h2⟩
theorem qC (I:Inv X pins σ H s){a:Addr}{p:Pr}(h:fG X.K H a [.int p.1,.int p.2]):L2.ST.bD X.prog X.w s.heap p a:=by
 obtain⟨its,r,⟨o,ho,hc,n,hd⟩,_⟩:=I.tuple h
 cases r with
 |cons r1 r=>
  cases r with
  |cons r2 r=>
   cases r
   obtain⟨t1,rfl⟩:=r1
   obtain⟨t2,rfl⟩:=r2
   exact⟨o,_,n,ho,hc,hd,.cons (intKind_is ..) (.cons (intKind_is ..) .nil)⟩
theorem pairs_at (I:Inv X pins σ H s){vs:List V}{us:List Value}{ps:List Pr}(hv:Vals vs us)(h:aM X.K H vs ps)(hs:∀p,p∈ps->Sm p):L2.ST.cU X.prog X.w s.heap us ps:=by
 refine⟨by rw[<-hv.length];exact Paired.length h,fun i u p e1 e2=>?_⟩
 obtain⟨v,ev,a,rfl,q⟩:=Paired.getQ h e2
 obtain⟨u',eu,ru⟩:=hv.get ev
 rw[e1] at eu;cases eu
 cases ru
 exact⟨a,rfl,qC I q,hs p (List.mem_of_getElem? e2)⟩
theorem ni (I:Inv X pins σ H s){vs:List V}{us:List Value}{ps:List Pr}(hv:Vals vs us)(h:aM X.K H vs ps){h':Heap}(k:∀b o,s.heap.get? b=some o->h'.get? b=some o):∀{out:List Value} {qs:List Pr},
  (∀u,u∈out->u∈us)->L2.ST.cU X.prog X.w h' out qs->∃ws,Vals ws out/\aM X.K H ws qs
 | [],[],_,_=>⟨[],.nil,.nil⟩
 | [],_ :: _,_,hp=>by have:=hp.1;simp at this
 |_ :: _,[],_,hp=>by have:=hp.1;simp at this
 |u :: out,q :: qs,hm,hp=>by
  obtain⟨ws,a1,a2⟩:=ni I hv h k (out:=out) (qs:=qs) (fun x hx=>hm x (List.mem_cons_of_mem _ hx)) ⟨by have:=hp.1;simpa using this,fun i v p e1 e2=>hp.2 (i + 1) v p (by simpa using e1) (by simpa using e2)⟩
  obtain⟨i,hi,e⟩:=List.mem_iff_getElem.mp (hm u (List.mem_cons_self ..))
  have hi':i < vs.length:=by rw[hv.length];exact hi
  obtain⟨u',eu,ru⟩:=hv.get (List.getElem?_eq_getElem hi')
  rw[List.getElem?_eq_getElem hi,e] at eu
  cases eu
  obtain⟨p,ep,a,ea,qa⟩:=Paired.getP h (List.getElem?_eq_getElem hi')
  rw[ea] at ru
  cases ru
  obtain⟨b,eb,hb,_⟩:=hp.2 0 (.ref a) q rfl rfl
  cases eb
  have pa:L2.ST.bD X.prog X.w h' p a:=by
   obtain⟨o,it,n,ho,r⟩:=qC I qa
   exact⟨o,it,n,k _ _ ho,r⟩
  have:p=q:=L2.ST.bD.inj pa hb
  subst this
  exact⟨.ref a :: ws,.cons rfl a1,.cons ⟨a,rfl,qa⟩ a2⟩
theorem ub (I:Inv X pins σ H s){vs:List V}{us:List Value}{ps:List Pr}(hv:Vals vs us)(hp:aM X.K H vs ps)(hlen:ps.length < 64){Q:VK}
  (q:∀l ws qs,H l=none->aM X.K H ws qs->OM.rW qs->(∀p,p∈qs↔p∈ps)->Q (.ref l) (upd H l (.lst ws)))
  {h1 h':Heap} {tk:Nat} {D:Addr} {out:List Value} {qs:List Pr} {c:Nat} (k1:∀b o,s.heap.get? b=some o->h1.get? b=some o) (eD:D=h1.objs.size) (k2:∀b o,h1.get? b=some o->h'.get? b=some o)
  (ho:h'.get? D=some (seqObj "list" out.toArray c)) (hpq:L2.ST.cU X.prog X.w h' out qs) (hm:∀u,u∈out->u∈us) (hr:OM.rW qs) (hmem:∀p,p∈qs↔p∈ps):EP X pins σ Q (.ref D) {s with heap:=h',toks:=tk}:=by
 obtain⟨ws,r1,r2⟩:=ni I hv hp (fun b o e=>k2 b o (k1 b o e)) hm hpq
 have I1:Inv X pins σ H {s with heap:=h1,toks:=tk}:=I.kept k1
 have hf:H D=none:=by rw[eD];exact I1.hok.fresh (Nat.le_refl _)
 have hz:ws.length<=sizeLine:=by
  have e1:=r1.length
  have e2:out.length=qs.length:=hpq.1
  have e3:=OM.mF (OM.jI hr) fun x hx=>(hmem x).mp hx
  rw[sizeLine_eq];omega
 have I2:Inv X pins σ (upd H D (.lst ws)) {s with heap:=h',toks:=tk}:=I1.laid (t':=tk) k2 (by rw[eD];exact Nat.le_refl _) (show bH X.prog X.w _ h' _ (.lst ws) from⟨hz,out,c,r1,ho⟩)
 exact⟨.ref D,_,I2,rfl,q D ws qs hf r2 hr hmem⟩
abbrev vq (qs:List (Addr×Pr)):List V:=qs.map fun q=>V.ref q.1
abbrev pq (qs:List (Addr×Pr)):List Pr:=qs.map (·.2)
def Cz (prog:Program)(w:World)(S:Addr)(qs:List (Addr×Pr))(h:Heap):Prop:=∃o ep t,h.get? S=some o/\o.ExactSet/\o.data=.set (qs.map fun q=>(L2.ST.xK prog w q.2,Value.ref q.1)).toArray ep t/\L2.ST.Tab t (qs.map fun q=>L2.ST.xK prog w q.2)/\t.led=L2.ST.fk w
def wR (prog:Program)(w:World)(S:Addr)(qs:List (Addr×Pr)):HO:=.ext (Cz prog w S qs)
def Fy (P:Program)(w:World)(K:PySem.W.Frag):List V->Hp->VK->Prop:=fun xs H Q=>∃a vs ps,xs= [.ref a]/\(gu K H a vs\/fG K H a vs)/\aM K H vs ps/\(∀p,p∈ps->Sm p)/\
 ∀S qs,H S=none->aM K H (vq qs) (pq qs)->(pq qs).Nodup->(∀p,p∈pq qs↔p∈ps)->Q (.ref S) (upd H S (wR P w S qs))
theorem y7 (hc:X.calm=true)(hu:X.A.units + 64 < cLine):cJ X (.type "set") (Fy X.prog X.w X.K):=by
 intro pins s σ H xs us Q I r h
 obtain⟨a,vs,ps,rfl,hq,hp,hs,q⟩:=h
 obtain⟨u,rfl,rx⟩:=vals1 r
 cases rx
 have hh:=I.ok.hd hc
 have core:∀{its:List Value} {T:String} {itO:Obj} {St:Addr->Nat->Heap->Prop},Vals vs its->L2.ST.Src X.prog X.w s.heap a its T itO St->wpAny (model X.prog X.w) X.A (call (.type "set") [.ref a]) (EP X pins σ Q) X.xe s:=fun {its T itO St} rv src=>by
  refine L2.ST.mQ src hh hu (pairs_at I rv hp hs) fun h' tk F k=>?_
  obtain⟨qs,P1,P2,P3⟩:=F
  have hlen:its.length=vs.length:=rv.length.symm
  have back:∀qv:Addr×Pr,qv∈qs->∃b,b=qv.1/\fG X.K H b [.int qv.2.1,.int qv.2.2]:=fun qv hqv=>by
   obtain⟨i,hi,e⟩:=List.mem_iff_getElem.mp (List.mem_of_mem_take (P2 qv hqv).1)
   have hi':i < vs.length:=by rw[<-hlen];exact hi
   obtain⟨u',eu,ru⟩:=rv.get (List.getElem?_eq_getElem hi')
   rw[List.getElem?_eq_getElem hi,e] at eu
   cases eu
   obtain⟨p,ep,b,eb,qb⟩:=Paired.getP hp (List.getElem?_eq_getElem hi')
   rw[eb] at ru
   cases ru
   have pa:L2.ST.bD X.prog X.w h' p qv.1:=by
    obtain⟨o,it,n,ho,r⟩:=qC I qb
    exact⟨o,it,n,k _ _ ho,r⟩
   have:p=qv.2:=L2.ST.bD.inj pa (P1.at' qv hqv).1
   subst this
   exact⟨_,rfl,qb⟩
  have hpv:∀{l:List (Addr×Pr)},(∀x,x∈l->x∈qs)->aM X.K H (vq l) (pq l):=fun {l}=>by
   induction l with
   |nil=>intro _;exact .nil
   |cons y l ih=>
    intro hl
    obtain⟨b,eb,qb⟩:=back y (hl y (List.mem_cons_self ..))
    subst eb
    exact .cons ⟨_,rfl,qb⟩ (ih fun x hx=>hl x (List.mem_cons_of_mem _ hx))
  have hmem:∀p,p∈pq qs↔p∈ps:=fun p=>by
   have hpl:ps.length=its.length:=by rw[hlen];exact (Paired.length hp).symm
   constructor
   ·intro hx
    obtain⟨qv,hqv,rfl⟩:=List.mem_map.mp hx
    exact List.mem_of_mem_take (P2 qv hqv).2
   ·intro hx
    exact P3 p (by rw[<-hpl,List.take_of_length_le (Nat.le_refl _)];exact hx)
  have hf:H s.heap.objs.size=none:=I.hok.fresh (Nat.le_refl _)
  obtain⟨o,ep,t,ho,r1⟩:=P1.ex
  have new:bH X.prog X.w (upd H s.heap.objs.size (wR X.prog X.w s.heap.objs.size qs)) h' s.heap.objs.size (wR X.prog X.w s.heap.objs.size qs):=
   ⟨⟨o,ep,t,ho,r1⟩,⟨o,ho⟩,fun h1 h2 ⟨o1,ep1,t1,g1,g2⟩ kk=>⟨o1,ep1,t1,kk _ g1,g2⟩⟩
  exact⟨.ref _,_,I.laid (t':=tk) k (Nat.le_refl _) new,rfl,q _ qs hf (hpv fun x hx=>hx) P1.nd hmem⟩
 rcases hq with hq |hq
 ·obtain⟨its,rv,pl,hz⟩:=I.list hq
  exact core rv (L2.ST.Src.list pl.isList)
 ·obtain⟨its,rv,pl,hz⟩:=I.tuple hq
  exact core rv (L2.ST.Src.tuple pl)
def rL (P:Program)(w:World)(K:PySem.W.Frag):List V->Hp->VK->Prop:=fun xs H Q=>∃S qs,xs= [.ref S]/\H S=some (wR P w S qs)/\aM K H (vq qs) (pq qs)/\(∀p,p∈pq qs->Sm p)/\(pq qs).Nodup/\qs.length < 64/\
 ∀l ws rs,H l=none->aM K H ws rs->OM.rW rs->(∀p,p∈rs↔p∈pq qs)->Q (.ref l) (upd H l (.lst ws))
theorem qG (hc:X.calm=true):cJ X (.builtin "sorted") (rL X.prog X.w X.K):=by
 intro pins s σ H xs us Q I r h
 obtain⟨S,qs,rfl,hS,hp,hs,nd,hl,q⟩:=h
 obtain⟨u,rfl,rx⟩:=vals1 r
 cases rx
 have hh:=I.ok.hd hc
 obtain⟨⟨o,ep,t,ho,hex,hd,T,hled⟩,_,_⟩:Cz X.prog X.w S qs s.heap/\_:=I.hok S _ hS
 have T':L2.ST.Tab t ((qs.map fun q=>(L2.ST.xK X.prog X.w q.2,Value.ref q.1)).toArray.toList.map (·.1)):=by
  rw[List.toList_toArray,List.map_map];exact T
 have htp:=L2.ST.oH X.w S ep (qs.map fun q=>(L2.ST.xK X.prog X.w q.2,Value.ref q.1)).toArray
 have hmem:∀x,x∈(L2.ST.told X.w S ep (qs.map fun q=>(L2.ST.xK X.prog X.w q.2,Value.ref q.1)).toArray).toList->∃q,q∈qs/\x=(L2.ST.xK X.prog X.w q.2,Value.ref q.1):=fun x hx=>by
  have:=htp.mem_iff.mp hx
  simp only[List.toList_toArray] at this
  obtain⟨q,hq,e⟩:=List.mem_map.mp this
  exact⟨q,hq,e.symm⟩
 obtain⟨q2,e2,p2⟩:∃q2:List (Addr×Pr),(L2.ST.told X.w S ep (qs.map fun q=>(L2.ST.xK X.prog X.w q.2,Value.ref q.1)).toArray).toList=q2.map (fun q=>(L2.ST.xK X.prog X.w q.2,Value.ref q.1))/\q2.Perm qs:=by
  have:=htp
  simp only[List.toList_toArray] at this
  exact og this
 have hp2:aM X.K H (vq q2) (pq q2):=by
  have key:∀{l:List (Addr×Pr)},(∀x,x∈l->x∈qs)->aM X.K H (vq l) (pq l):=fun {l}=>by
   induction l with
   |nil=>intro _;exact .nil
   |cons y l ih=>
    intro hl
    obtain⟨i,hi,e⟩:=List.mem_iff_getElem.mp (hl y (List.mem_cons_self ..))
    obtain⟨p,ep',a,ea,qa⟩:=Paired.getP (l:=vq qs) (m:=pq qs) (i:=i) (x:=.ref y.1) hp (by simp[hi,e])
    have:p=y.2:=by simp[hi,e] at ep';exact ep'.symm
    subst this
    exact .cons ⟨a,ea,qa⟩ (ih fun x hx=>hl x (List.mem_cons_of_mem _ hx))
  exact key fun x hx=>p2.mem_iff.mp hx
 have hv2:Vals (vq q2) (q2.map fun q=>Value.ref q.1):=by
  induction q2 with
  |nil=>exact .nil
  |cons y l ih=>exact .cons rfl (by
    clear ih e2 p2 hp2
    induction l with
    |nil=>exact .nil
    |cons z l ih2=>exact .cons rfl ih2)
 have hm2:∀p,p∈pq q2↔p∈pq qs:=fun p=>(p2.map (·.2)).mem_iff
 have hpa:=pairs_at I hv2 hp2 fun p hpp=>hs p ((hm2 p).mp hpp)
 have hl2:q2.length < 64:=by rw[p2.length_eq];exact hl
 refine L2.ST.xj (v:=.ref S) hpa ((p2.map (·.2)).nodup_iff.mpr nd) (by simpa using hl2) (fun Q' hQ'=>L2.ST.qZ (by simpa using hh) ho hd hex.1 T' hled (by simp;omega) fun h' tk vs ev k=>?_) fun h1 h' tk D out qs' c k1 eD k2 ho' hpq hm hr hmem'=>?_
 ·rw[ev,e2]
  rw[List.map_map]
  exact hQ' h' tk k
 ·exact ub I hv2 hp2 (by simpa using hl2) (fun l ws rs a1 a2 a3 a4=>q l ws rs a1 a2 a3 fun p=>(a4 p).trans (hm2 p)) k1 eD k2 ho' hpq hm hr hmem'
end
end L2

end

section
namespace L2
open PySem PySem.Spec PyProof.Rows
def lD (cells:List (Str×Addr)):List (Str×NameKind)->List (Str×Addr)->List (Str×Addr)
 | [],cs=>cs
 | (n,k) :: r,cs=>lD cells r (if k == .free then (n,(cells.lookup n).getD 0) :: cs else cs)
theorem mS {scope:Scope}{env:Env}(h:∀y∈scope.names,y.2=.free->∃c,env.cells.lookup y.1=some c):closureFor scope env=pure (lD env.cells scope.names []):=by
 unfold closureFor
 have key:∀(l:List (Str×NameKind)) (cs:List (Str×Addr)),(∀y∈l,y.2=.free->∃c,env.cells.lookup y.1=some c)->
   (forIn l cs (fun (x:Str×NameKind) (r:List (Str×Addr))=>if (x.2 == NameKind.free)=true then (do let a <-cellOf env x.1;pure (ForInStep.yield ((x.1,a) :: r)):Sem _) else pure (ForInStep.yield r)):Sem (List (Str×Addr)))=pure (lD env.cells l cs):=by
  intro l
  induction l with
  |nil=>intro cs _;rfl
  |cons y l ih=>
   intro cs hy
   obtain⟨n,k⟩:=y
   rw[List.forIn_cons]
   unfold lD
   by_cases hk:(k == NameKind.free)=true
   ·have hk':k=.free:=by simpa using hk
    obtain⟨c,hc⟩:=hy (n,k) (List.mem_cons_self ..) hk'
    have hce:cellOf env n=pure c:=by unfold cellOf;rw[hc]
    simp only[hk,if_true]
    have hc':env.cells.lookup n=some c:=hc
    rw[hce,hc']
    simp only[pure_bind,Option.getD_some]
    exact ih _ fun z hz=>hy z (List.mem_cons_of_mem _ hz)
   ·simp only[hk,if_false,Bool.false_eq_true]
    simp only[pure_bind]
    exact ih _ fun z hz=>hy z (List.mem_cons_of_mem _ hz)
 have:=key scope.names [] h
 simp only[bind_pure_comp] at this ⊢
 first
  |exact this
  | (rw[this];rfl)
  | (simpa using this)
theorem lg {cells:List (Str×Addr)}{x:Str}:∀{l:List (Str×NameKind)} {cs:List (Str×Addr)},((x,NameKind.free)∈l\/cs.lookup x=some ((cells.lookup x).getD 0))->(lD cells l cs).lookup x=some ((cells.lookup x).getD 0)
 | [],cs,h=>by
  rcases h with h |h
  ·cases h
  ·exact h
 | (n,k) :: r,cs,h=>by
  unfold lD
  refine lg ?_
  by_cases hk:(k == NameKind.free)=true
  ·rw[if_pos hk]
   by_cases hx:x=n
   ·subst hx;right;simp
   ·rcases h with h |h
    ·rcases List.mem_cons.mp h with e |e
     ·injection e with e1 _;exact absurd e1 hx
     ·exact .inl e
    ·right
     rw[List.lookup_cons,show (x == n)=false by simpa using hx]
     exact h
  ·rw[if_neg hk]
   rcases h with h |h
   ·rcases List.mem_cons.mp h with e |e
    ·injection e with _ e2;exact absurd (by rw[<-e2];rfl) hk
    ·exact .inl e
   ·exact .inr h
theorem lq {cells:List (Str×Addr)}{x:Str}{c:Addr}:∀{l:List (Str×NameKind)} {cs:List (Str×Addr)},(lD cells l cs).lookup x=some c->((x,NameKind.free)∈l/\c=(cells.lookup x).getD 0)\/cs.lookup x=some c
 | [],cs,h=>.inr h
 | (n,k) :: r,cs,h=>by
  unfold lD at h
  rcases lq h with⟨a,b⟩ |a
  ·exact .inl ⟨List.mem_cons_of_mem _ a,b⟩
  ·by_cases hk:(k == NameKind.free)=true
   ·rw[if_pos hk,List.lookup_cons] at a
    by_cases hx:x=n
    ·subst hx
     simp at a
     have:k=.free:=by simpa using hk
     subst this
     exact .inl ⟨List.mem_cons_self ..,a.symm⟩
    ·rw[show (x == n)=false by simpa using hx] at a
     exact .inr a
   ·rw[if_neg hk] at a
    exact .inr a
theorem lU {f:Str->NameKind->NameKind}{x:Str}:∀(l:List (Str×NameKind)),(l.map fun y=>(y.1,f y.1 y.2)).lookup x=(l.lookup x).map (f x)
 | []=>rfl
 | (n,k) :: l=>by
  rw[List.map_cons,List.lookup_cons,List.lookup_cons]
  by_cases hx:x=n
  ·subst hx;simp
  ·have hb:(x == n)=false:=by simpa using hx
   simp only[hb]
   exact lU l
theorem nS (scope:Scope)(env:Env)(x:Str):(relabel scope env).names.lookup x=(scope.names.lookup x).map fun k=>if (k == .free && env.scope.kind == .function && env.kindOf x == some .cell) then .cell else k:=by
 have e:(relabel scope env).names=scope.names.map fun y=>(y.1,if (y.2 == .free && env.scope.kind == .function && env.kindOf y.1 == some .cell) then .cell else y.2):=by
  unfold relabel
  dsimp only
  refine List.map_congr_left fun y _=>?_
  obtain⟨n,k⟩:=y
  dsimp only
  split <;> rfl
 rw[e]
 exact lU (f:=fun n k=>if (k == .free && env.scope.kind == .function && env.kindOf n == some .cell) then .cell else k) scope.names
def hG (X:Cx)(NB:List Str)(scope:Scope)(C:Addr)(ex:List Addr)(s3:Shared)(H3:Hp)(pn:List (Addr×Obj)):Cx:=
 {X with N:=NB,s₀:=s3,H₀:=H3,env:=compEnvC scope (lD X.env.cells scope.names []) C X.env,outer:=X.stack,ex:=ex,fn:=fun _=>false,pn:=pn,xe:=fun _ _=>False}
def qu (own:Nat)(ixs:List Nat)(σ:St):St:=List.replicate own none ++ ixs.map fun i=>(σ[i]?).join
structure cW (X:Cx)(NB:List Str)(own:Nat)(ixs:List Nat)(scope:Scope):Prop where
 kind:scope.kind=.function
 nocell:∀y∈scope.names,y.2≠.cell
 names:∀y∈scope.names,scope.names.lookup y.1=some y.2
 frees:∀y∈scope.names,y.2=.free->X.env.kindOf y.1=some .cell\/X.env.kindOf y.1=some .free
 nd:NB.Nodup
 len:NB.length=own + ixs.length
 at':∀k,k < ixs.length->NB[own + k]? =X.N[ixs.getD k 0]?/\∀x,NB[own + k]? =some x->(x,NameKind.free)∈scope.names
section
variable {X:Cx}{NB:List Str}{own:Nat}{ixs:List Nat}{scope:Scope}{pins:List (Addr×Obj)}{σ:St}{H:Hp}{s:Shared}
theorem xo (S:cW X NB own ixs scope)(I:Inv X pins σ H s){fp:List Addr}(hfp:∀b∈fp,oy X pins H b)(hob:∀b∈fp,∃o,s.heap.get? b=some o){h1:Heap}{tk:Nat}
  (hn:h1.Ns s.heap.objs.size (fun _=>none)) (hk:∀b o,s.heap.get? b=some o->h1.get? b=some o) :
  Inv (hG X NB scope s.heap.objs.size fp s H (X.pn ++ pins)) [] (qu own ixs σ) H {s with heap:=h1,toks:=tk}:=by
 have stk:=I.stack
 have frees:∀{x:Str},(x,NameKind.free)∈scope.names->∃c,X.env.cells.lookup x=some c:=fun {x} hx=>I.ok.has x (S.frees _ hx rfl)
 have clE:∀{x:Str} {c:Addr},(lD X.env.cells scope.names []).lookup x=some c->(x,NameKind.free)∈scope.names/\X.env.cells.lookup x=some c:=fun {x c} h=>by
  rcases lq h with⟨a,b⟩ |a
  ·obtain⟨c',e⟩:=frees a
   rw[e] at b
   exact⟨a,by rw[e,b];rfl⟩
  ·simp at a
 have kindB:∀x,(hG X NB scope s.heap.objs.size fp s H (X.pn ++ pins)).env.kindOf x=(scope.names.lookup x).map fun k=>if (k == .free && X.env.scope.kind == .function && X.env.kindOf x == some .cell) then .cell else k:=fun x=>nS scope X.env x
 have isFree:∀{x:Str},((hG X NB scope s.heap.objs.size fp s H (X.pn ++ pins)).env.kindOf x=some .cell\/(hG X NB scope s.heap.objs.size fp s H (X.pn ++ pins)).env.kindOf x=some .free)->(x,NameKind.free)∈scope.names:=fun {x} h=>by
  rw[kindB] at h
  cases e:scope.names.lookup x with
  |none=>rw[e] at h;simp at h
  |some k=>
   have hm:=PySem.mem_of_lookup e
   cases k with
   |free=>exact hm
   |cell=>exact absurd rfl (S.nocell _ hm)
   |_=>rw[e] at h;simp at h
 have neN:∀b o,s.heap.get? b=some o->b≠s.heap.objs.size:=fun b o e=>Nat.ne_of_lt (Heap.lt_size e)
 have cellN:∀{x:Str} {c:Addr},X.env.cells.lookup x=some c->c < s.heap.objs.size:=fun {x c} e=>by
  obtain⟨v,o,ho,_⟩:=I.cell x c e
  exact Heap.lt_size ho
 have ok:(hG X NB scope s.heap.objs.size fp s H (X.pn ++ pins)).Ok:=by
  refine⟨I.ok.mod,S.kind,I.ok.glob,I.ok.blt,Nat.le_refl _,fun x y c h1 h2=>I.ok.inj x y c (clE h1).2 (clE h2).2,fun x hx=>?_,fun x c h=>(by cases h),I.ok.hd,I.ok.frames,.inl rfl,fun b hb=>?_,I.bs,Nat.le_trans I.ok.bsz I.sz,fun b o e hb=>?_,fun b hb hs=>?_,stk,I.stkFree⟩
  ·have hm:=isFree hx
   exact⟨_,lg (.inl hm)⟩
  ·obtain⟨_,f1,f2,f3,f4,f5⟩:=hfp b hb
   refine⟨?_,fun x c h z=>f4 x c (clE h).2 z⟩
   obtain⟨o,ho⟩:=hob b hb
   exact neN b o ho
  ·obtain⟨_,f1,f2,f3,f4,f5⟩:=hfp b hb
   rcases f3 with f3 |f3
   ·exact I.ok.noex b o e f3
   ·exact absurd (Nat.lt_of_lt_of_le (Heap.lt_size e) (Nat.le_trans I.ok.bsz f3)) (Nat.lt_irrefl _)
  ·obtain⟨_,f1,f2,f3,f4,f5⟩:=hfp b hb
   rcases List.mem_cons.mp (I.stkSub b hs) with z |z
   ·exact f1 z
   ·exact f2 z
 refine⟨ok,rfl,I.bare,Un.kept hk,⟨_,hn,fun i x v h1' h2' h3'=>?_⟩,fun x c h=>?_,I.hok.fresh (Nat.le_refl _),fun x c h=>I.freeC x c (clE h).2,fun p hp=>?_,I.hok.kept hk,?_⟩
 ·
  have h1':NB[i]? =some x:=h1'
  have hown:own<=i:=by
   refine Classical.byContradiction fun hc=>?_
   have hlt:i < own:=Nat.lt_of_not_le hc
   unfold qu at h2'
   rw[List.getElem?_append_left (by simpa using hlt),List.getElem?_replicate,if_pos hlt] at h2'
   cases h2'
  obtain⟨k,rfl⟩:∃k,i=own + k:=⟨i - own,by omega⟩
  have hk':k < ixs.length:=by
   have:=(List.getElem?_eq_some_iff.mp h1').1
   rw[S.len] at this;omega
  obtain⟨e1,e2⟩:=S.at' k hk'
  have hm:=e2 x h1'
  unfold qu at h2'
  rw[List.getElem?_append_right (by simp),List.length_replicate,Nat.add_sub_cancel_left,List.getElem?_map,List.getElem?_eq_getElem hk'] at h2'
  simp only[Option.map_some,Option.some.injEq] at h2'
  have hix:ixs.getD k 0=ixs[k]:=by simp[hk']
  have hσ:σ[ixs[k]]? =some (some v):=by
   cases e:σ[ixs[k]]? with
   |none=>rw[e] at h2';cases h2'
   |some o=>rw[e] at h2';simp at h2';rw[h2']
  rw[e1,hix] at h1'
  have hkind:=S.frees _ hm rfl
  have hvis:tM X.env.scope x:=hkind.elim (fun z=>.inr (.inl z)) (fun z=>.inr (.inr z))
  obtain⟨m,hm',hl⟩:=I.loc
  obtain⟨u,r,look⟩:=hl _ x v h1' hσ hvis
  refine⟨u,r,.inr ⟨?_,?_⟩⟩
  ·rw[kindB]
   have hfr:scope.names.lookup x=some .free:=S.names _ hm
   rw[hfr]
   simp only[Option.map_some]
   split
   ·exact .inl rfl
   ·exact .inr rfl
  ·rcases look with⟨z,_⟩ | ⟨_,c,hc,hcell⟩
   ·rcases hkind with q |q
    ·rw[q] at z;cases z
    ·rw[q] at z;cases z
   ·refine⟨c,?_,?_⟩
    ·have:=lg (cells:=X.env.cells) (cs:=[]) (.inl hm)
     rw[hc] at this
     exact this
    ·obtain⟨o,ho,hd⟩:=hcell
     exact⟨o,hk _ _ ho,hd⟩
 ·obtain⟨v,o,ho,hd⟩:=I.cell x c (clE h).2
  exact⟨v,o,hk _ _ ho,hd⟩
 ·have hp':p∈X.pn ++ pins:=by
   rcases List.mem_append.mp hp with z |z
   ·exact z
   ·cases z
  obtain⟨e,n,ne,nf,d⟩:=I.pin p hp'
  refine⟨hk _ _ e,n,neN _ _ e,fun z=>?_,d⟩
  rcases List.mem_cons.mp (I.stkSub _ z) with q |q
  ·exact ne q
  ·exact nf q
 ·show (qu own ixs σ).length=NB.length
  unfold qu
  rw[S.len];simp
end
end L2

end

section
namespace L2
open PySem PySem.Spec PyProof.Rows
abbrev vI (ifs:List Expr)(env:Env):Sem Bool:=forIn ifs true fun c r=>if r=true then do let ok <-isTrue c env (eval c env);pure (ForInStep.yield ok) else pure (ForInStep.yield r)
theorem xi {prog:Program}{w:World}{A:Around}{R:Result->Shared->Prop}{s:Shared}{elt target iter:Expr}{ifs:List Expr}{scope:Scope}{pos:Pos}{it acc:Value}{env:Env}(I:Nat->Shared->Prop)
  (turn:∀n s,I n s->wpAny (model prog w) A (pyNext it) (fun r s1=>match r with
   |none=>R (.ok .next) s1
   |some v=>wpAny (model prog w) A (letOwnedTupleGo target it v) (fun _ s1'=>wpAny (model prog w) A (assign target env v) (fun _ s2=>
     wpAny (model prog w) A (vI ifs env) (fun ok s3=>
      if ok=true then wpAny (model prog w) A (eval elt env) (fun x s4=>wpAny (model prog w) A (call (.builtin "list.append") [acc,x]) (fun _ s5=>∃m,m < n/\I m s5) (fun _ _=>False) s4) (fun _ _=>False) s3
      else ∃m,m < n/\I m s3) (fun _ _=>False) s2) (fun _ _=>False) s1') (fun _ _=>False) s1) (fun _ _=>False) s)
  (n:Nat) (h:I n s):codeAny (model prog w) A (.compLoop (.ListComp elt [⟨target,iter,ifs,0⟩] scope pos) 0 it acc env) R s:=by
 refine codeAny_loop rfl I (fun n s hI=>?_) n h
 (show wpAny _ A ((compTurn (.ListComp elt [⟨target,iter,ifs,0⟩] scope pos) 0 it acc env).onRaise (fun x=>do (noteFrame x env);theTreesLotGoes x)) _ _ s)
 refine wpAny_noted ?_
 rw[compTurn_list]
 refine wpAny_bind (wpAny_standAt (wpAny_bind (wpAny_mono (turn n s hI) (fun r s1 h1=>?_) fun _ _ z=>z.elim)))
 cases r with
 |none=>exact wpAny_pure h1
 |some v=>
  refine wpAny_bind (wpAny_mono h1 (fun _ s1' h1'=>?_) fun _ _ z=>z.elim)
  refine wpAny_bind (wpAny_mono h1' (fun _ s2 h2=>wpAny_bind (wpAny_mono h2 (fun ok s3 h3=>?_) fun _ _ z=>z.elim)) fun _ _ z=>z.elim)
  cases ok with
  |false=>exact wpAny_pure ⟨rfl,h3⟩
  |true=>exact wpAny_bind (wpAny_bind (wpAny_mono h3 (fun x s4 h4=>wpAny_bind (wpAny_mono h4 (fun _ s5 h5=>wpAny_pure (wpAny_pure ⟨rfl,h5⟩)) fun _ _ z=>z.elim)) fun _ _ z=>z.elim))
def z8 (X:Cx)(ifs:List Expr)(t:TT):Prop:=
 ∀(pins:List (Addr×Obj)) (s:Shared) (σ:St) (H:Hp) (Q:Bool->Hp->Prop),Inv X pins σ H s->t σ H Q->wpAny (model X.prog X.w) X.A (vI ifs X.env) (TP X pins σ Q) X.xe s
def Dq:TT:=fun _ H Q=>Q true H
theorem pV {X:Cx}:z8 X [] Dq:=fun pins s σ H Q I h=>wpAny_pure ⟨H,I,h⟩
theorem vd {X:Cx}{c:Expr}{t:TT}(h:PT X c t):z8 X [c] t:=fun pins s σ H Q I q=>wpAny_tests_one (h pins s σ H Q I q)
def uk (own:Nat)(ixs:List Nat)(wi:TI)(g:TG)(tt:TT)(te:TE)(σ:St)(H:Hp)(Q:VK):Prop:=wi σ H fun J H1=>∀D,H1 D=none->∃W:Nat->Nat->St->Hp->Prop,(∃m,W 0 m (qu own ixs σ) (upd H1 D (.lst [])))/\∀i m σ' H',W i m σ' H'->
 (J.stop i H'/\(∃acc,H' D=some (.lst acc))/\Q (.ref D) H')\/
 (J.go i H'/\∃N:St->Hp->Prop,(∀σ2 H2,N σ2 H2->∃m',m' < m/\W (i + 1) m' σ2 H2)/\∀x H2,J.yld i H' x H2->g x σ' H2 fun σ3 H3=>tt σ3 H3 fun b H4=>
  if b=true then te σ3 H4 fun v H5=>∃acc,H5 D=some (.lst acc)/\acc.length < sizeLine/\N σ3 (upd H5 D (.lst (acc ++ [v]))) else N σ3 H4)
section
variable {X:Cx}{NB:List Str}{own:Nat}{ixs:List Nat}{scope:Scope}{elt tg iter:Expr}{ifs:List Expr}{pos:Pos}{wi:TI}{g:TG}{tt:TT}{te:TE}
theorem oQ (hc:X.calm=true)(S:cW X NB own ixs scope)
  (hg:∀C ex s3 H3 pn,PG (hG X NB scope C ex s3 H3 pn) tg g) (ht:∀C ex s3 H3 pn,z8 (hG X NB scope C ex s3 H3 pn) ifs tt) (he:∀C ex s3 H3 pn,PE (hG X NB scope C ex s3 H3 pn) elt te)
  {pins:List (Addr×Obj)} {σ:St} {H1:Hp} {s2:Shared} {it:Addr} {fp:List Addr} {tn:Nat->Heap->Prop} {J:It} {Q:VK} (I2:Inv X pins σ H1 s2) (T:Turn X.prog X.w X.K tg J fp it tn) (st2:tn 0 s2.heap) (f2:∀b∈fp,oy X pins H1 b)
  (hQ:∀D,H1 D=none->∃W:Nat->Nat->St->Hp->Prop,(∃m,W 0 m (qu own ixs σ) (upd H1 D (.lst [])))/\∀i m σ' H',W i m σ' H'->
   (J.stop i H'/\(∃acc,H' D=some (.lst acc))/\Q (.ref D) H')\/
   (J.go i H'/\∃N:St->Hp->Prop,(∀σ2 H2,N σ2 H2->∃m',m' < m/\W (i + 1) m' σ2 H2)/\∀x H2,J.yld i H' x H2->g x σ' H2 fun σ3 H3=>tt σ3 H3 fun b H4=>
    if b=true then te σ3 H4 fun v H5=>∃acc,H5 D=some (.lst acc)/\acc.length < sizeLine/\N σ3 (upd H5 D (.lst (acc ++ [v]))) else N σ3 H4))
  {E:Value->Shared->Prop} {RR:Value->Addr->Result->Shared->Prop}
  (fin:∀D C H' s' m,Inv X pins σ H' s'->Q (.ref D) H'->s'.heap.Ns C m->H' C=none->C≠X.env.locals->(∀x c,X.env.cells.lookup x=some c->c≠C)->X.s₀.heap.objs.size<=C->(∀p∈X.pn ++ pins,p.1≠C)->RR (.ref D) C (.ok .next) s') :
  wpAny (model X.prog X.w) X.A (newList []) (fun acc s3=>wpAny (model X.prog X.w) X.A (newFunctionEnv scope X.env.globals (lD X.env.cells scope.names []) [] X.env.qual none .none (some X.env)) (fun cenv s4=>
   codeAny (model X.prog X.w) X.A (.compStart (.ListComp elt [⟨tg,iter,ifs,0⟩] scope pos) 0 (.ref it) acc {cenv with scope:=relabel scope X.env}) (RR acc cenv.locals) s4) E s3) E s2:=by
 refine wpAny_newList ?_ (Nat.zero_le _)
 have hD:H1 s2.heap.objs.size=none:=I2.hok.fresh (Nat.le_refl _)
 obtain⟨W,⟨m0,w0⟩,turn⟩:=hQ s2.heap.objs.size hD
 generalize hs3:({s2 with heap:=s2.heap.push (seqObj "list" ([]:List Value).toArray 0)}:Shared)=s3
 have I3:Inv X pins σ (upd H1 s2.heap.objs.size (.lst [])) s3:=by
  rw[<-hs3]
  exact I2.lnew (ys:=[]) (its:=[]) (t':=s2.toks) .nil (Nat.zero_le _)
 have k3:∀b o,s2.heap.get? b=some o->s3.heap.get? b=some o:=fun b o e=>by rw[<-hs3];exact Heap.get?_push_of_some _ e
 have sz3:s3.heap.objs.size=s2.heap.objs.size + 1:=by rw[<-hs3];exact Heap.size_push ..
 have ob2:∀b∈fp,∃o,s2.heap.get? b=some o:=fun b hb=>let ⟨o,e,_⟩:=T.obj 0 _ st2 b hb;⟨o,e⟩
 have neD:∀b∈fp,b≠s2.heap.objs.size:=fun b hb=>let ⟨o,e⟩:=ob2 b hb;Nat.ne_of_lt (Heap.lt_size e)
 have f3:∀b∈fp,oy X pins (upd H1 s2.heap.objs.size (.lst [])) b:=fun b hb=>by
  obtain⟨a1,a2⟩:=f2 b hb
  exact⟨by rw[az (neD b hb)];exact a1,a2⟩
 have st3:tn 0 s3.heap:=T.keep _ _ _ st2 fun b _ o e=>k3 b o e
 refine wpAny_newFunctionEnv S.nocell (fun y hy=>by simp at hy) (fun h4 hn4 sb4=>?_) S.kind
 have k4:∀b o,s3.heap.get? b=some o->h4.get? b=some o:=fun b o e=>sb4.extBut b o (Nat.ne_of_lt (Heap.lt_size e)) (Heap.get?_push_of_some _ e)
 have I4:Inv (hG X NB scope s3.heap.objs.size fp s3 (upd H1 s2.heap.objs.size (.lst [])) (X.pn ++ pins)) [] (qu own ixs σ) (upd H1 s2.heap.objs.size (.lst [])) {s3 with heap:=h4,toks:=s3.toks + ([]:List (Str×Value)).length}:=
  xo S I3 f3 (fun b hb=>let ⟨o,e⟩:=ob2 b hb;⟨o,k3 _ _ e⟩) (by simpa using hn4) k4
 have st4:tn 0 h4:=T.keep _ _ _ st3 fun b _ o e=>k4 b o e
 generalize hB:hG X NB scope s3.heap.objs.size fp s3 (upd H1 s2.heap.objs.size (.lst [])) (X.pn ++ pins)=B at I4
 have hgB:PG B tg g:=by rw[<-hB];exact hg _ _ _ _ _
 have htB:z8 B ifs tt:=by rw[<-hB];exact ht _ _ _ _ _
 have heB:PE B elt te:=by rw[<-hB];exact he _ _ _ _ _
 have eP:B.prog=X.prog:=by rw[<-hB];rfl
 have eW:B.w=X.w:=by rw[<-hB];rfl
 have eK:B.K=X.K:=by rw[<-hB];rfl
 have eA:B.A=X.A:=by rw[<-hB];rfl
 have eC:B.calm=true:=by rw[<-hB];exact hc
 have eX:B.xe=fun _ _=>False:=by rw[<-hB];rfl
 have eE:B.env=compEnvC scope (lD X.env.cells scope.names []) s3.heap.objs.size X.env:=by rw[<-hB];rfl
 have ex:B.ex=fp:=by rw[<-hB];rfl
 have eL:B.env.locals=s3.heap.objs.size:=by rw[eE];rfl
 have stat:∀{H':Hp},(∀b∈fp,H' b=none)->∀b∈fp,oy B [] H' b:=fun {H'} hn b hb=>by
  obtain⟨a1,a2,a3,a4,a5,a6⟩:=f3 b hb
  obtain⟨o,eo⟩:=ob2 b hb
  refine⟨hn b hb,?_,fun z=>?_,.inl (by rw[ex];exact hb),fun x c e z=>?_,fun p hp z=>?_⟩
  ·rw[eL];exact Nat.ne_of_lt (Heap.lt_size (k3 _ _ eo))
  ·have hz:b∈hU X.stack:=by rw[<-hB] at z;exact z
   rcases List.mem_cons.mp (I3.stkSub b hz) with q |q
   ·exact a2 q
   ·exact a3 q
  ·rw[eE] at e
   rcases lq e with⟨m1,m2⟩ |m1
   ·obtain⟨c',e'⟩:=I3.ok.has x (S.frees _ m1 rfl)
    rw[e'] at m2
    exact a5 x c' e' (by rw[<-z,m2];rfl)
   ·simp at m1
  ·have hp':p∈X.pn ++ pins:=by
    rw[<-hB] at hp
    rcases List.mem_append.mp hp with q |q
    ·exact q
    ·cases q
   exact a6 p hp' z
 have back:∀{σ':St} {H':Hp} {s':Shared},Inv B [] σ' H' s'->Inv X pins σ H' s':=fun {σ' H' s'} J'=>by
  have u:=J'.base
  have os:=J'.os
  have bare:=J'.bare
  have hok:=J'.hok
  subst hB
  exact I3.call' (ch:=fp) os u hok bare fun b hb=>by
   obtain⟨a1,a2,a3,a4,a5,a6⟩:=f3 b hb
   exact⟨a4,a2,a5,a6⟩
 have loop:∀s5:Shared,s5={s3 with heap:=h4,toks:=s3.toks + ([]:List (Str×Value)).length}->
   codeAny (model X.prog X.w) X.A (.compLoop (.ListComp elt [⟨tg,iter,ifs,0⟩] scope pos) 0 (.ref it) (.ref s2.heap.objs.size) (compEnvC scope (lD X.env.cells scope.names []) s3.heap.objs.size X.env)) (RR (.ref s2.heap.objs.size) s3.heap.objs.size) s5:=by
  rintro s5 rfl
  refine xi (fun n s'=>∃i σ' H',Inv B [] σ' H' s'/\tn i s'.heap/\(∀b∈fp,H' b=none)/\W i n σ' H') ?_ m0 ⟨0,_,_,I4,st4,fun b hb=>(f3 b hb).1,w0⟩
  rintro n s6 ⟨i,σ6,H6,I6,st6,fr6,w6⟩
  rcases turn i n σ6 H6 w6 with⟨stop,⟨acc,hacc⟩,qn⟩ | ⟨go,N,hN,step⟩
  ·have:=T.done B eP eW eK eC i [] s6 σ6 H6 (fun _ _=>False) I6 (stat fr6) st6 stop
   rw[eA] at this
   refine b7 this fun r s7 ⟨hr,I7⟩=>?_
   subst hr
   obtain⟨m7,hn7,_⟩:=I7.loc
   rw[eL] at hn7
   have J7:=back I7
   refine fin _ _ H6 s7 m7 J7 qn hn7 (by rw[<-eL];exact I7.free) (fun z=>?_) (fun x c e z=>?_) ?_ fun p hp z=>?_
   ·have:=I3.lt
    rw[<-z] at this
    exact Nat.lt_irrefl _ this
   ·obtain⟨v,o,ho,_⟩:=I3.cell x c e
    exact absurd (Heap.lt_size ho) (by rw[z];exact Nat.lt_irrefl _)
   ·exact I3.sz
   ·have:=Heap.lt_size (I3.pin p hp).1
    rw[z] at this
    exact Nat.lt_irrefl _ this
  ·have hitem:=T.item B eP eW eK eC i [] s6 σ6 H6 (fun _ _=>False) I6 (stat fr6) st6 go
   rw[eA] at hitem
   refine b7 hitem fun r s7 ⟨u,hr,h7⟩=>?_
   subst hr
   refine b7 h7 fun _ s8 ⟨x,H8,I8,r8,y8,st8,fr8⟩=>?_
   have I8':=I8.pinned (stat fr8) (T.obj _ _ st8)
   have ha:=hgB _ s8 σ6 H8 x u _ I8' r8 (step x H8 y8)
   rw[eP,eW,eA,eE,eX] at ha
   refine b7 ha fun _ s9 ⟨σ9,H9,I9,q9⟩=>?_
   have hb:=htB _ s9 σ9 H9 _ I9 q9
   rw[eP,eW,eA,eE,eX] at hb
   refine b7 hb fun ok s10 ⟨H10,I10,q10⟩=>?_
   have again:∀{σ7:St} {H7:Hp} {s7:Shared},Inv B ([] ++ nJ fp s8.heap) σ7 H7 s7->N σ7 H7->∃m,m < n/\∃i σ' H',Inv B [] σ' H' s7/\tn i s7.heap/\(∀b∈fp,H' b=none)/\W i m σ' H':=fun {σ7 H7 s7} I7 n7=>by
    obtain⟨m',hm,w7⟩:=hN σ7 H7 n7
    refine⟨m',hm,i + 1,σ7,H7,I7.unpinned,T.keep _ _ _ st8 fun b hb o e=>(I7.pin (b,o) (List.mem_append_right _ (List.mem_append_right _ (iJ hb e)))).1,fun b hb=>?_,w7⟩
    obtain⟨o,e,d⟩:=T.obj _ _ st8 b hb
    exact (I7.pin (b,o) (List.mem_append_right _ (List.mem_append_right _ (iJ hb e)))).2.1
   cases ok with
   |false=>
    simp only[Bool.false_eq_true,if_false] at q10 ⊢
    exact again I10 q10
   |true=>
    simp only[if_true] at q10 ⊢
    have hv:=heB _ s10 σ9 H10 _ I10 q10
    rw[eP,eW,eA,eE,eX] at hv
    refine b7 hv fun y s11 ⟨v,H11,I11,r11,acc,hacc,hz,q11⟩=>?_
    have hap:=lx (X:=B) _ s11 σ9 H11 (.ref s2.heap.objs.size) [v] (.ref s2.heap.objs.size) [y] (fun z H'=>z=.non/\N σ9 H') I11 rfl (.cons r11 .nil) ⟨_,acc,v,rfl,rfl,hacc,hz,rfl,q11⟩
    rw[eP,eW,eA,eX] at hap
    exact b7 hap fun _ s12 ⟨_,H12,I12,_,_,q12⟩=>again I12 q12
 exact codeAny_compStart_list (loop _ rfl) (T.self X.A 0 _ _ _ st4 (loop _ rfl))
theorem sg (hc:X.calm=true)(S:cW X NB own ixs scope)(hi:PI X tg iter wi)
  (hg:∀C ex s3 H3 pn,PG (hG X NB scope C ex s3 H3 pn) tg g) (ht:∀C ex s3 H3 pn,z8 (hG X NB scope C ex s3 H3 pn) ifs tt) (he:∀C ex s3 H3 pn,PE (hG X NB scope C ex s3 H3 pn) elt te)
  (hs:∀x,foldedSetIterable iter X.env x=pure x:=by intro _;rfl) :
  PE X (.ListComp elt [⟨tg,iter,ifs,0⟩] scope pos) (uk own ixs wi g tt te):=by
 intro pins s σ H Q I h
 rw[eval_ListComp]
 refine wpAny_comprehension_free (use:=none) rfl hs (mS fun y hy e=>I.ok.has _ (S.frees y hy e)) S.kind (fun y hy e=>by rw[S.names y hy,e]) ?_
 refine b7 (hi pins s σ H _ I h) fun v s1 h1=>b7 h1 fun itv s2 h2=>?_
 obtain⟨it,fp,tn,J,H2,e,I2,T,st2,f2,q2⟩:=h2
 subst e
 refine oQ hc S hg ht he I2 T st2 f2 q2 (RR:=fun acc C=>compPost (model X.prog X.w) X.A X.xe none (EP X pins σ Q) acc C) fun D C H' s' m J' q hn hC n1 n2 n3 n4=>?_
 refine⟨m,hn,fun h'' sb=>⟨.ref D,H',?_,rfl,q⟩⟩
 exact J'.turned (t':=s'.toks) (it:=C) (fun b o hb e=>sb.extBut b o hb e) hC n1 (.inr n3) n2 n4
theorem z0 {i:Nat}{y:Str}{py spos:Pos}(hc:X.calm=true)(S:cW X NB own ixs scope)(hi:PI X tg iter wi)
  (hg:∀C ex s3 H3 pn,PG (hG X NB scope C ex s3 H3 pn) tg g) (ht:∀C ex s3 H3 pn,z8 (hG X NB scope C ex s3 H3 pn) ifs tt) (he:∀C ex s3 H3 pn,PE (hG X NB scope C ex s3 H3 pn) elt te)
  (hN:X.N.Nodup) (hy:X.N[i]? =some y) (hl:X.env.scope.names.lookup y=some .local)
  (hsw:swapsWith (.ListComp elt [⟨tg,iter,ifs,0⟩] scope pos) (some (.Name y py)) spos.line X.env=pure true)
  (hs:∀x,foldedSetIterable iter X.env x=pure x:=by intro _;rfl) :
  PS X (.Assign [.Name y py] (.ListComp elt [⟨tg,iter,ifs,0⟩] scope pos) spos) (fun D σ H=>uk own ixs wi g tt te σ H fun v H'=>D.nx (σ.set i (some v)) H'):=by
 intro pins s σ H D I h
 rw[exec_Assign_Name_used _ _ _ _ hsw]
 refine wpAny_bind (wpAny_standAt (wpAny_bind ?_))
 show wpAny _ X.A (comprehension (.ListComp elt [⟨tg,iter,ifs,0⟩] scope pos) scope X.env _ (newList []) false (eval iter X.env) (some (assign (.Name y py) X.env)) >>= fun _=>pure ()) _ _ s
 refine wpAny_bind (wpAny_mono (wpAny_comprehension_free (use:=some (assign (.Name y py) X.env)) (Q:=fun _ s'=>SP X pins D .next s') rfl hs (mS fun y hy e=>I.ok.has _ (S.frees y hy e)) S.kind (fun y hy e=>by rw[S.names y hy,e]) ?_)
  (fun _ s' hq=>wpAny_pure (wpAny_pure hq)) fun _ _ e=>e)
 refine b7 (hi pins s σ H _ I h) fun v s1 h1=>b7 h1 fun itv s2 h2=>?_
 obtain⟨it,fp,tn,J,H2,e,I2,T,st2,f2,q2⟩:=h2
 subst e
 refine oQ hc S hg ht he I2 T st2 f2 q2 (Q:=fun v H'=>D.nx (σ.set i (some v)) H') (RR:=fun acc C=>compPost (model X.prog X.w) X.A X.xe (some (assign (.Name y py) X.env)) (fun _ s'=>SP X pins D .next s') acc C) fun D' C H' s' m J' q hn hC n1 n2 n3 n4=>?_
 show wpAny _ X.A (assign (.Name y py) X.env (.ref D')) _ _ s'
 refine wpAny_assign_Name (pA J' hN hy (.inl hl) (v:=.ref D') rfl (fun s'' I'' ⟨a,sb,ha⟩=>?_) (.inr hl))
 have hCa:C≠a:=by
  rcases ha with z |z
  ·rw[z];exact n1
  ·exact (n2 _ _ z).symm
 refine⟨m,hn.sameBut sb hCa,fun h3 sb3=>⟨_,H',?_,q⟩⟩
 exact I''.turned (t':=s''.toks) (it:=C) (fun b o hb e=>sb3.extBut b o hb e) hC n1 (.inr n3) n2 n4
end
section
variable {own:Nat}{ixs:List Nat}{g:TG}{tt:TT}{te:TE}{σ:St}{H:Hp}{Q:VK}{K:PySem.W.Frag}{D a:Addr}{xs:List V}
abbrev dC (g:TG)(tt:TT)(te:TE)(D:Addr)(x:V)(σ:St)(H:Hp)(N:St->Hp->Prop):Prop:=g x σ H fun σ3 H3=>tt σ3 H3 fun b H4=>
  if b=true then te σ3 H4 fun v H5=>∃acc,H5 D=some (.lst acc)/\acc.length < sizeLine/\N σ3 (upd H5 D (.lst (acc ++ [v]))) else N σ3 H4
theorem vY (Pv:Nat->St->Hp->Prop)(h0:Pv 0 (qu own ixs σ) (upd H D (.lst [])))(hl:∀i σ H,i<=xs.length->Pv i σ H->gu K H a xs)
  (hs:∀i x σ H,xs[i]? =some x->Pv i σ H->dC g tt te D x σ H (Pv (i + 1))) (hd:∀σ H,Pv xs.length σ H->(∃acc,H D=some (.lst acc))/\Q (.ref D) H) :
  ∃W:Nat->Nat->St->Hp->Prop,(∃m,W 0 m (qu own ixs σ) (upd H D (.lst [])))/\∀i m σ' H',W i m σ' H'->
   ((v8 K a).stop i H'/\(∃acc,H' D=some (.lst acc))/\Q (.ref D) H')\/
   ((v8 K a).go i H'/\∃N:St->Hp->Prop,(∀σ2 H2,N σ2 H2->∃m',m' < m/\W (i + 1) m' σ2 H2)/\∀x H2,(v8 K a).yld i H' x H2->dC g tt te D x σ' H2 N):=by
 refine⟨fun i m σ H=>m=xs.length - i/\i<=xs.length/\Pv i σ H,⟨xs.length,by simp,Nat.zero_le _,h0⟩,?_⟩
 rintro i m σ H ⟨rfl,hi,p⟩
 have q:=hl i σ H hi p
 by_cases hlt:i < xs.length
 ·refine .inr ⟨⟨xs,xs[i],q,by simp[hlt]⟩,Pv (i + 1),fun σ' H' p'=>⟨xs.length - (i + 1),by omega,rfl,hlt,p'⟩,fun x H' y=>?_⟩
  obtain⟨e,y⟩:=y
  subst e
  exact hs i x σ _ (y xs q) p
 ·have e:i=xs.length:=by omega
  subst e
  exact .inl ⟨⟨xs,q,Nat.le_refl _⟩,hd σ H p⟩
theorem tQ {lo:Int}{n:Nat}(Pv:Nat->St->Hp->Prop)(h0:Pv 0 (qu own ixs σ) (upd H D (.lst [])))
  (hs:∀i σ H,i < n->Pv i σ H->dC g tt te D (.int (lo + i)) σ H (Pv (i + 1))) (hd:∀σ H,Pv n σ H->(∃acc,H D=some (.lst acc))/\Q (.ref D) H) :
  ∃W:Nat->Nat->St->Hp->Prop,(∃m,W 0 m (qu own ixs σ) (upd H D (.lst [])))/\∀i m σ' H',W i m σ' H'->
   ((xE lo n).stop i H'/\(∃acc,H' D=some (.lst acc))/\Q (.ref D) H')\/
   ((xE lo n).go i H'/\∃N:St->Hp->Prop,(∀σ2 H2,N σ2 H2->∃m',m' < m/\W (i + 1) m' σ2 H2)/\∀x H2,(xE lo n).yld i H' x H2->dC g tt te D x σ' H2 N):=by
 refine⟨fun i m σ H=>m=n - i/\i<=n/\Pv i σ H,⟨n,by simp,Nat.zero_le _,h0⟩,?_⟩
 rintro i m σ H ⟨rfl,hi,p⟩
 by_cases hlt:i < n
 ·refine .inr ⟨hlt,Pv (i + 1),fun σ' H' p'=>⟨n - (i + 1),by omega,rfl,hlt,p'⟩,fun x H' y=>?_⟩
  obtain⟨e,y⟩:=y
  subst e y
  exact hs i σ _ hlt p
 ·have e:i=n:=by omega
  subst e
  exact .inl ⟨Nat.le_refl _,hd σ H p⟩
end
end L2

end

section
namespace L2
open PySem PySem.Spec PyProof.Rows
mutual
inductive Rep (K:PySem.W.Frag)(H:Hp):V->PyData->Prop
 |non:Rep K H .non .none
 |bl (b:Bool):Rep K H (.bl b) (.bool b)
 |int (i:Int):Rep K H (.int i) (.int i)
 |str (x:Str):Rep K H (.str x) (.str x)
 |tup {a:Addr} {xs:List V} {ds:List PyData}:fG K H a xs->mL K H xs ds->Rep K H (.ref a) (.tuple ds)
 |lst {a:Addr} {xs:List V} {ds:List PyData}:gu K H a xs->mL K H xs ds->Rep K H (.ref a) (.list ds)
inductive mL (K:PySem.W.Frag)(H:Hp):List V->List PyData->Prop
 |nil:mL K H [] []
 |cons {x:V} {xs:List V} {d:PyData} {ds:List PyData}:Rep K H x d->mL K H xs ds->mL K H (x :: xs) (d :: ds)
end
section
variable {X:Cx}{pins:List (Addr×Obj)}{σ:St}{H H':Hp}{s:Shared}
mutual
theorem Rep.reads (I:Inv X pins σ H s):∀{x:V} {d:PyData} {u:Value},Rep X.K H x d->RelV x u->∃as,Reads s.heap u d as
 |_,_,_,.non,r=>by cases r;exact⟨_,.none⟩
 |_,_,_,.bl b,r=>by cases r;exact⟨_,.bool b⟩
 |_,_,_,.int i,r=>by obtain⟨t,rfl⟩:=r;exact⟨_,.int i t⟩
 |_,_,_,.str x,r=>by obtain⟨t,rfl⟩:=r;exact⟨_,.str x t⟩
 |_,_,_,.tup h hs,r=>by
  cases r
  obtain⟨its,rv,⟨o,ho,hc,n,hd⟩,_⟩:=I.tuple h
  obtain⟨as,q⟩:=mL.reads I hs rv
  exact⟨_,.tuple ho hc hd (by simpa using q)⟩
 |_,_,_,.lst h hs,r=>by
  cases r
  obtain⟨its,rv,pl,_⟩:=I.list h
  obtain⟨o,ho,hc,n,hd⟩:=pl.isList
  obtain⟨as,q⟩:=mL.reads I hs rv
  exact⟨_,.list ho hc hd (by simpa using q)⟩
theorem mL.reads (I:Inv X pins σ H s):∀{xs:List V} {ds:List PyData} {us:List Value},mL X.K H xs ds->Vals xs us->∃as,ReadsAll s.heap us ds as
 |_,_,_,.nil,r=>by cases r;exact⟨_,.nil⟩
 |_,_,_,.cons h hs,r=>by
  cases r with
  |cons r1 r2=>
   obtain⟨as,q⟩:=Rep.reads I h r1
   obtain⟨bs,q'⟩:=mL.reads I hs r2
   exact⟨_,.cons q q'⟩
end
def D1 (K:PySem.W.Frag)(neg:Bool):R2:=fun x y H Q=>∃d e,Rep K H x d/\Rep K H y e/\SeqAt.shaped d=true/\SeqAt.shaped e=true/\Q (.bl (if neg then !PyData.eqv d e else PyData.eqv d e)) H
theorem fZ (hu:X.A.units + 64 < cLine):lF X (compareOp .Eq) (D1 X.K false):=by
 intro pins s σ H x y v u Q I rx ry h
 obtain⟨d,e,h1,h2,s1,s2,q⟩:=h
 obtain⟨as,r1⟩:=h1.reads I rx
 obtain⟨bs,r2⟩:=h2.reads I ry
 exact SeqAt.compareEq_shaped r1 r2 s1 s2 hu ⟨.bl _,H,I,rfl,q⟩
theorem i6 (hu:X.A.units + 64 < cLine):lF X (compareOp .NotEq) (D1 X.K true):=by
 intro pins s σ H x y v u Q I rx ry h
 obtain⟨d,e,h1,h2,s1,s2,q⟩:=h
 obtain⟨as,r1⟩:=h1.reads I rx
 obtain⟨bs,r2⟩:=h2.reads I ry
 exact SeqAt.compareNe_shaped r1 r2 s1 s2 hu ⟨.bl _,H,I,rfl,q⟩
inductive BO (K:PySem.W.Frag)(H:Hp):V->String->Prop
 |non:BO K H .non "NoneType"
 |bl (b:Bool):BO K H (.bl b) "bool"
 |int (i:Int):BO K H (.int i) "int"
 |str (x:Str):BO K H (.str x) "str"
 |tup {a:Addr} {xs:List V}:fG K H a xs->BO K H (.ref a) "tuple"
 |lst {a:Addr} {xs:List V}:gu K H a xs->BO K H (.ref a) "list"
 |dic {a:Addr} {kvs:List (Key×V)}:H a=some (.dK kvs)->BO K H (.ref a) "dict"
def Gn (K:PySem.W.Frag):List V->Hp->VK->Prop:=fun xs H Q=>∃x T t b,xs= [x,.ty T]/\BO K H x t/\PySem.W.kitOne K (.type t) (.type T)=some b/\Q (.bl b) H
theorem yt:cJ X (.builtin "isinstance") (Gn X.K):=by
 intro pins s σ H xs us Q I r h
 obtain⟨x,T,t,b,rfl,ty,e,q⟩:=h
 obtain⟨u,c,rfl,rx,rc⟩:=vals2 r
 cases rc
 have fin:∀tk,EP X pins σ Q (.bool b) {s with toks:=tk}:=fun tk=>⟨.bl b,H,I.tok tk,rfl,q⟩
 cases ty with
 |non=>exact ic I rx .non e fin
 |bl b=>exact ic I rx (.bl b) e fin
 |int i=>exact ic I rx (.int i) e fin
 |str z=>exact ic I rx (.str z) e fin
 |dic hk=>exact ic I rx (.dK hk) e fin
 |tup hq=>
  cases rx
  obtain⟨its,rv,⟨o,h1,h2,_⟩,_⟩:=I.tuple hq
  exact PySem.W.kia_one PySem.W.kitx_tuple I.kIn ⟨o,h1,h2⟩ e (fun z=>nomatch z) fin
 |lst hq=>
  cases rx
  obtain⟨its,rv,pl,_⟩:=I.list hq
  obtain⟨o,h1,h2,_⟩:=pl.isList
  exact PySem.W.kia_one PySem.W.kitx_list I.kIn ⟨o,h1,h2⟩ e (fun z=>nomatch z) fin
theorem sf {A:Around}{its:List Value}{bs:List Bool}(hv:Vals (bs.map V.bl) its):TruthOf X.prog X.w A (fun i v=>its[i]? =some v) (fun i=>bs.getD i false):=fun i v s Q E hi hq=>by
 have hl:=hv.length
 have hi2:i < bs.length:=by
  have:=(List.getElem?_eq_some_iff.mp hi).1
  rw[<-hl] at this;simpa using this
 obtain⟨u,eu,ru⟩:=hv.get (i:=i) (x:=.bl bs[i]) (by simp[hi2])
 rw[hi] at eu;cases eu
 cases ru
 refine wpAny_truthy_bool ?_
 have:bs.getD i false=bs[i]:=by simp[hi2]
 rw[<-this];exact hq
theorem range_all (bs:List Bool):(List.range bs.length).all (fun i=>bs.getD i false)=bs.all id:=by
 induction bs with
 |nil=>rfl
 |cons b bs ih=>
  rw[List.length_cons,List.range_succ_eq_map,List.all_cons,List.all_map,List.all_cons,<-ih]
  rfl
theorem range_any (bs:List Bool):(List.range bs.length).any (fun i=>bs.getD i false)=bs.any id:=by
 induction bs with
 |nil=>rfl
 |cons b bs ih=>
  rw[List.length_cons,List.range_succ_eq_map,List.any_cons,List.any_map,List.any_cons,<-ih]
  rfl
def tR (K:PySem.W.Frag)(f:List Bool->Bool):List V->Hp->VK->Prop:=fun xs H Q=>∃a bs,xs= [.ref a]/\gu K H a (bs.map V.bl)/\Q (.bl (f bs)) H
theorem mG (hc:X.calm=true){a:Addr}{bs:List Bool}{Q:VK}(I:Inv X pins σ H s)(hq:gu X.K H a (bs.map V.bl)){f:List Bool->Bool}{g:(Nat->Bool)->Nat->Bool}(hfg:g (fun i=>bs.getD i false) bs.length=f bs)(q:Q (.bl (f bs)) H) :
  wpAny (model X.prog X.w) X.A.in1 (pyIter (.ref a)) (fun it s2=>∃Ii fp wr n P St tr,it=.ref Ii/\Walks X.prog X.w X.A.in1 Ii fp wr n P St/\St 0 s2.heap/\TruthOf X.prog X.w X.A.in1 P tr/\
   ∀h' tk,(∀b o,b∉wr->s2.heap.get? b=some o->h'.get? b=some o)->EP X pins σ Q (.bool (g tr n)) {s2 with heap:=h',toks:=tk}) X.xe s:=by
 obtain⟨its,rv,pl,hz⟩:=I.list hq
 have hh:X.A.in1.handled=none:=I.ok.hd hc
 have hlen:its.length=bs.length:=by rw[<-rv.length];simp
 obtain⟨o,ho,_⟩:=id pl.isList
 refine wpAny_pyIter_list pl.isList ?_
 have W:=Walks.list (prog:=X.prog) (w:=X.w) hh s.heap.objs.size a (Nat.ne_of_lt (Heap.lt_size ho)) its.toArray
 refine⟨s.heap.objs.size,_,_,_,_,_,fun i=>bs.getD i false,rfl,W,⟨⟨_,Heap.get?_push_size _ rfl,rfl,rfl⟩,pl.isList.push _⟩,?_,fun h' tk k=>?_⟩
 ·have:=sf (X:=X) (A:=X.A.in1) rv
  simpa using this
 ·have e:its.toArray.size=bs.length:=by simpa using hlen
  rw[e,hfg]
  have I1:Inv X pins σ H {s with heap:=s.heap.push {cls:=.type "list_iterator",data:=.fields #[.ref a,.int 0 0]}}:=I.kept (t':=s.toks) fun b o e=>Heap.get?_push_of_some _ e
  have hf:H s.heap.objs.size=none:=I.hok.fresh (Nat.le_refl _)
  have fp:=I.fpOk (H':=H) (b:=s.heap.objs.size) (Nat.le_refl _) hf
  refine⟨.bl _,H,I1.turned (it:=s.heap.objs.size) (t':=tk) (fun b o hb e=>k b o (by simpa using hb) e) hf fp.2.1 fp.2.2.2.1 fp.2.2.2.2.1 fp.2.2.2.2.2,rfl,q⟩
theorem kZ (hc:X.calm=true):cJ X (.builtin "all") (tR X.K fun bs=>bs.all id):=by
 intro pins s σ H xs us Q I r h
 obtain⟨a,bs,rfl,hq,q⟩:=h
 obtain⟨u,rfl,rx⟩:=vals1 r
 cases rx
 exact call_all_walk (mG hc I hq (f:=fun bs=>bs.all id) (g:=fun tr n=>(List.range n).all tr) (range_all bs) q)
theorem ye (hc:X.calm=true):cJ X (.builtin "any") (tR X.K fun bs=>bs.any id):=by
 intro pins s σ H xs us Q I r h
 obtain⟨a,bs,rfl,hq,q⟩:=h
 obtain⟨u,rfl,rx⟩:=vals1 r
 cases rx
 exact call_any_walk (mG hc I hq (f:=fun bs=>bs.any id) (g:=fun tr n=>(List.range n).any tr) (range_any bs) q)
theorem z5:cJ X (.type "range") (fun xs H Q=>∃n:Int,xs= [.int n]/\∀p,H p=none->Q (.ref p) (upd H p (.dt 0 n))):=by
 intro pins s σ H xs us Q I r h
 obtain⟨n,rfl,q⟩:=h
 obtain⟨u,rfl,rx⟩:=vals1 r
 obtain⟨t,rfl⟩:=rx
 refine call_range_1 ⟨.ref s.heap.objs.size,upd H s.heap.objs.size (.dt 0 n),?_,rfl,q _ (I.hok.fresh (Nat.le_refl _))⟩
 exact I.laid (fun b o e=>Heap.get?_push_of_some _ e) (Nat.le_refl _) ⟨_,_,_,Heap.get?_push_size _ rfl⟩
theorem oh (hc:X.calm=true):cJ X (.type "list") (fun xs H Q=>∃p n,xs= [.ref p]/\H p=some (.dt 0 n)/\0<=n/\n<=1000/\∀l,H l=none->Q (.ref l) (upd H l (.lst ((List.range n.toNat).map fun (i:Nat)=>V.int (i:Int))))):=by
 intro pins s σ H xs us Q I r h
 obtain⟨p,n,rfl,hp,h0,h1,q⟩:=h
 obtain⟨u,rfl,rx⟩:=vals1 r
 cases rx
 obtain⟨t,u,v,hr⟩:∃t u v,s.heap.get? p=some {cls:=.type "range",data:=.fields #[.int 0 t,.int n u,.int 1 v]}:=I.hok p _ hp
 have hsz:Builtin.Range.rangeSize 0 n 1=(n.toNat:Int):=by rw[rangeSize_one];split <;> omega
 refine call_list_range (I.ok.hd hc) hr (small_one (by omega) (by omega) (by omega) (by omega)) hsz (by omega) fun h' tk acc c k hS hacc=>?_
 have hv:Vals ((List.range n.toNat).map fun (i:Nat)=>V.int (i:Int)) acc.toList:=by
  have key:∀(m:Nat) (us:List Value) (j:Nat),us.length=m->(∀(i:Nat) (v:Value),us[i]? =some v->∃t,v=Value.int ((j + i:Nat):Int) t)->Vals ((List.range' j m).map fun (i:Nat)=>V.int (i:Int)) us:=by
   intro m
   induction m with
   |zero=>intro us j hl _;cases us with
    |nil=>exact .nil
    |cons a b=>simp at hl
   |succ m ih=>
    intro us j hl hh
    cases us with
    |nil=>simp at hl
    |cons u us=>
     rw[List.range'_succ,List.map_cons]
     refine .cons (by have:=hh 0 u rfl;simp at this;exact this) (ih us (j + 1) (by simpa using hl) fun i v hi=>?_)
     obtain⟨t,e⟩:=hh (i + 1) v (by simpa using hi)
     exact⟨t,by rw[e];congr 2;omega⟩
  have:=key n.toNat acc.toList 0 (by simpa using hacc.1) fun i v hi=>by
   obtain⟨t,e⟩:=hacc.2 i v (by simpa using hi)
   exact⟨t,by rw[e];simp⟩
  rw[List.range_eq_range'];exact this
 refine⟨.ref s.heap.objs.size,_,I.laid (t':=tk) k (Nat.le_refl _) (show bH X.prog X.w _ h' _ (.lst _) from⟨by simp;rw[sizeLine_eq];omega,acc.toList,c,hv,by simpa using hS⟩),rfl,q _ (I.hok.fresh (Nat.le_refl _))⟩
end
end L2

end

section

end

section

end

section
namespace L2
open PySem PySem.Spec PyProof.Rows
def Rc (h:Heap)(e:Addr)(cls:Value)(T:Addr)(fl:Value):Prop:=∃oe vs oT ts,h.get? e=some oe/\oe.cls=cls/\oe.dict=none/\oe.data=.fields vs/\vs[1]? =some (.ref T)/\T≠e/\h.get? T=some oT/\oT.data=.fields ts/\ts[3]? =some fl
abbrev Keeps (F:List Addr)(ch:List Addr)(h h':Heap):Prop:=∀b o,h.get? b=some o->b∉F->b∉ch->h'.get? b=some o
abbrev Slots (F:List Addr)(h h':Heap):Prop:=∀b o,h.get? b=some o->b∈F->∃sl,h'.get? b=some {o with slots:=sl}
section
variable {M:Model}{A:Around}{E:Value->Shared->Prop}{s:Shared}{base:Heap}{env:Env}{outer:List Env}{L e:Addr}{cls:Value}{Q:Unit->Shared->Prop}
theorem Ac {oe:Obj}{vs:Array Value}{head:Value}{hadNext:Bool}(hfr:A.frames=some (env :: outer))(hl:s.heap.FunFrames base (env :: outer))(hf:env.frame=some L)(he:s.heap.get? e=some oe)(hc:oe.cls=cls)(hdd:oe.dict=none)(hd:oe.data=.fields vs)(hsz:1 < vs.size)
  (h:∀h' T,Keeps (hU (env :: outer)) [e] s.heap h'->Slots (hU (env :: outer)) s.heap h'->s.heap.get? T=none->Rc h' e cls T (rawInt L)->Q () {s with heap:=h'}) :
  wpAny M A (do let a <-frameOf env;let pl <-entryPlaceOf L hadNext;let b <-EntryCells.newEntry head a .none (rawInt L) .none pl;setField (.ref e) 1 b) Q E s:=by
 have eF:e∉hU (env :: outer):=fun z=>by
  obtain⟨_,o,q,n⟩:=hl.mem z
  rw[he] at q;cases q;exact n _ hd
 refine wpAny_bind (wpAny_frameOf_fun hfr hl hf fun h1 s1=>?_)
 refine wpAny_bind (wpAny_entryPlaceOf fun pl hpl=>?_)
 unfold EntryCells.newEntry newFields
 refine wpAny_bind (wpAny_newObj_type ?_ (hpl.sizeOk5 _ _ _ _ _))
 have e1:h1.get? e=some oe:=(s1.2.1 e eF).trans he
 have e2:=Heap.get?_push_of_some (h:=h1) {cls:=.type "traceback",dict:=none,data:=.fields ([head,.ref L,.none,rawInt L,.none] ++ (if pl.isEmpty then List.replicate 6 Value.none else pl)).toArray} e1
 have tn:h1.objs.size≠e:=Nat.ne_of_gt (Heap.lt_size e1)
 refine wpAny_setField e2 hd hsz (h _ h1.objs.size (fun b o q hb hn=>?_) (fun b o q hb=>?_) ?_ ?_)
 ·have hbe:b≠e:=by simpa using hn
  have q1:h1.get? b=some o:=(s1.2.1 b hb).trans q
  rw[Heap.get?_update_other _ _ (Ne.symm hbe)]
  exact Heap.get?_push_of_some _ q1
 ·obtain⟨sl,q1⟩:=s1.2.2 b o q
  have hbe:b≠e:=fun z=>eF (z▸hb)
  refine⟨sl,?_⟩
  rw[Heap.get?_update_other _ _ (Ne.symm hbe)]
  exact Heap.get?_push_of_some _ q1
 ·cases q:s.heap.get? h1.objs.size with
  |none=>rfl
  |some o=>obtain⟨sl,q1⟩:=s1.2.2 _ o q;exact absurd (Heap.lt_size q1) (Nat.lt_irrefl _)
 ·have d3:=Obj.data_mapFields hd (·.setIfInBounds 1 (Value.ref h1.objs.size))
  have e3:=Heap.get?_update_self (Obj.mapFields (·.setIfInBounds 1 (Value.ref h1.objs.size))) e2 (Obj.isFreed_of_fields d3)
  refine⟨_,_,_,_,e3,(Obj.cls_mapFields _ _).trans hc,?_,d3,by simp[hsz],tn,(Heap.get?_update_other _ _ (Ne.symm tn)).trans (Heap.get?_push_size h1 rfl),rfl,?_⟩
  ·unfold Obj.mapFields
   split <;> exact hdd
  ·rcases hpl with rfl | ⟨_,_,_,_,_,_,_,rfl⟩ <;> simp
theorem tE {oe:Obj}{vs:Array Value}(hfr:A.frames=some (env :: outer))(hl:s.heap.FunFrames base (env :: outer))(hf:env.frame=some L)(he:s.heap.get? e=some oe)(hc:oe.cls=cls)(hdd:oe.dict=none)(hd:oe.data=.fields vs)(h1:vs[1]? =some .none)
  (h:∀h' T,Keeps (hU (env :: outer)) [e] s.heap h'->Slots (hU (env :: outer)) s.heap h'->s.heap.get? T=none->Rc h' e cls T (rawInt L)->Q () {s with heap:=h'}):wpAny M A (noteFrame (.ref e) env) Q E s:=by
 unfold noteFrame
 simp only[hf]
 refine wpAny_bind (wpAny_field he hd h1 ?_)
 rw[if_neg (by decide)]
 exact Ac hfr hl hf he hc hdd hd (Array.getElem?_eq_some_iff.mp h1).1 h
theorem wM {T0:Addr}(hfr:A.frames=some (env :: outer))(hl:s.heap.FunFrames base (env :: outer))(hf:env.frame=some L)(r:Rc s.heap e cls T0 .none)
  (h:∀h' T,Keeps (hU (env :: outer)) [e,T0] s.heap h'->Slots (hU (env :: outer)) s.heap h'->(s.heap.get? T=none\/T=T0)->Rc h' e cls T (rawInt L)->Q () {s with heap:=h'}):wpAny M A (noteFrame (.ref e) env) Q E s:=by
 obtain⟨oe,vs,oT,ts,he,hc,hdd,hd,h1,hTe,hT,hdT,h3⟩:=r
 have tF:T0∉hU (env :: outer):=fun z=>by
  obtain⟨_,o,q,n⟩:=hl.mem z
  rw[hT] at q;cases q;exact n _ hdT
 unfold noteFrame
 simp only[hf]
 refine wpAny_bind (wpAny_field he hd h1 ?_)
 rw[if_pos (show (Value.ref T0 != Value.none)=true from by simp)]
 refine wpAny_bind (wpAny_field hT hdT h3 ?_)
 rw[if_neg (show ¬((Value.none == rawInt L)=true) from by simp[rawInt])]
 refine wpAny_bind (wpAny_setField hT hdT (Array.getElem?_eq_some_iff.mp h3).1 ?_)
 have oth:∀b,b≠T0->(s.heap.update T0 (Obj.mapFields (·.setIfInBounds 3 Value.none))).get? b=s.heap.get? b:=fun b hb=>Heap.get?_update_other _ _ (Ne.symm hb)
 have nf:∀b o,s.heap.get? b=some o->(∀ws,o.data≠.fields ws)->b≠T0:=fun b o q n z=>by
  rw[z,hT] at q;cases q;exact n _ hdT
 refine Ac (base:=base) hfr (hl.of_keeps fun b o q n=>⟨o,(oth b (nf b o q n)).trans q,rfl⟩) hf ((oth e (Ne.symm hTe)).trans he) hc hdd hd (Array.getElem?_eq_some_iff.mp h1).1 fun h' T kp sl tn rc=>?_
 refine h h' T (fun b o q hb hn=>?_) (fun b o q hb=>?_) ?_ rc
 ·simp only[List.mem_cons,List.not_mem_nil,or_false,not_or] at hn
  exact kp b o ((oth b hn.2).trans q) hb (by simp[hn.1])
 ·exact sl b o ((oth b fun z=>tF (z▸hb)).trans q) hb
 ·by_cases z:T=T0
  ·exact .inr z
  ·exact .inl ((oth T z).symm.trans tn)
theorem vA {T:Addr}{fl:Value}(r:Rc s.heap e cls T fl)(h:∀h',Keeps [] [T] s.heap h'->Rc h' e cls T .none->Q () {s with heap:=h'}):wpAny M A (setFlight (.ref e) none) Q E s:=by
 obtain⟨oe,vs,oT,ts,he,hc,hdd,hd,h1,hTe,hT,hdT,h3⟩:=r
 have sz:3 < ts.size:=(Array.getElem?_eq_some_iff.mp h3).1
 unfold setFlight
 refine wpAny_bind (wpAny_field he hd h1 ?_)
 rw[if_pos (show (Value.ref T != Value.none)=true from by simp)]
 refine wpAny_setField hT hdT sz (h _ (fun b o q _ hn=>?_) ?_)
 ·have hb:b≠T:=by simpa using hn
  exact (Heap.get?_update_other _ _ (Ne.symm hb)).trans q
 ·have d3:=Obj.data_mapFields hdT (·.setIfInBounds 3 ((none:Option Addr).elim Value.none fun f=>rawInt f))
  exact⟨oe,vs,_,_,(Heap.get?_update_other _ _ hTe).trans he,hc,hdd,hd,h1,hTe,Heap.get?_update_self _ hT (Obj.isFreed_of_fields d3),d3,by simp[sz]⟩
end
end L2

end

section
namespace L2
open PySem PySem.Spec PyProof.Rows
section
variable {P:Program}{w:World}
theorem bH.there {H:Hp}{h:Heap}{a:Addr}{o:HO}(x:bH P w H h a o):∃u,h.get? a=some u:=by
 cases o with
 |lst xs=>obtain⟨_,_,_,_,e⟩:=x;exact⟨_,e⟩
 |tup xs=>obtain⟨_,_,_,u,e,_⟩:=x;exact⟨u,e⟩
 |dK kvs=>obtain⟨_,_,_,_,o,_,_,e,_⟩:=x;exact⟨_,e⟩
 |dT kvs=>obtain⟨_,_,_,_,o,_,_,e,_⟩:=x;exact⟨_,e⟩
 |set S n=>obtain⟨o,_,_,_,e,_⟩:=x;exact⟨_,e⟩
 |ins C dx fs=>obtain⟨_,_,_,e,_⟩:=x;exact⟨_,e⟩
 |own y=>obtain⟨_,e⟩:=x;exact⟨_,e⟩
 |xd fs=>obtain⟨_,⟨_,_,_,e,_⟩,_⟩:=x;exact⟨_,e⟩
 |dt lo hi=>obtain⟨_,_,_,e⟩:=x;exact⟨_,e⟩
 |a7 ob u=>obtain⟨e,_⟩:=x;exact⟨_,e⟩
 |gf ps=>exact⟨_,show h.get? a=some _ from x⟩
 |met f y=>exact⟨_,show h.get? a=some _ from x⟩
 |ext φ=>obtain⟨_,⟨_,e⟩,_⟩:=x;exact⟨_,e⟩
end
structure Lies (h₀:Heap)(H:Hp)(h:Heap)(e:Addr)(cls:Value):Prop where
 free:H e=none
 new:h₀.get? e=none
 ob:∃T,Rc h e cls T .none/\H T=none/\h₀.get? T=none
def l5 (P:Program)(w:World):wu:=fun outer H s E e s'=>∃ea cls H',e=.ref ea/\s'.os=s.os/\AllBare s'.gens/\Un (hU outer) [] H H' s.heap s'.heap/\jG P w H' s'.heap/\Lies s.heap H' s'.heap ea cls/\E cls none H'
section
variable {P:Program}{w:World}{M:Model}{A:Around}{E':Value->Shared->Prop}{s:Shared}{env:Env}{outer:List Env}{L e:Addr}{cls:Value}{base h₀:Heap}{H:Hp}{Q:Unit->Shared->Prop}
theorem rg {h h':Heap}(hok:jG P w H h)(k:∀b o,h.get? b=some o->(∃u,H b=some u)->h'.get? b=some o):jG P w H h':=fun a o ha=>
 (hok a o ha).stay (fun b u hb q=>k b u q (hb.elim (fun z=>⟨o,by rw[z];exact ha⟩) fun z=>⟨_,z⟩)) (fun _ q=>q) fun _ _ q=>q
theorem Aq (hfr:A.frames=some (env :: outer))(hf:env.frame=some L)(hfn:s.heap.FunFrames base (env :: outer))(hok:jG P w H s.heap)(hff:∀b∈hU (env :: outer),H b=none)(Ly:Lies h₀ H s.heap e cls)(hex:∀b o,h₀.get? b=some o->∃o',s.heap.get? b=some o')
  (hQ:∀h',(∀b o,s.heap.get? b=some o->b∉hU (env :: outer)->((∃o0,h₀.get? b=some o0)\/∃u,H b=some u)->h'.get? b=some o)->(∀b o,s.heap.get? b=some o->b∈hU (env :: outer)->∃sl,h'.get? b=some {o with slots:=sl})->Lies h₀ H h' e cls->jG P w H h'->Q () {s with heap:=h'}) :
  wpAny M A (leaving env (.ref e)) Q E' s:=by
 obtain⟨fr,nw,T0,rc,hHT,hnT⟩:=Ly
 obtain⟨oe,vs,oT,ts,he,hc,hdd,hd,h1,hTe,hT,hdT,h3⟩:=id rc
 have tF:T0∉hU (env :: outer):=fun z=>by
  obtain⟨_,o,q,n⟩:=hfn.mem z
  rw[hT] at q;cases q;exact n _ hdT
 unfold leaving
 refine wpAny_bind (wM hfr hfn hf rc fun h4 T kp sl tn rc4=>vA rc4 fun h5 kp5 rc5=>?_)
 have nT:∀b o,s.heap.get? b=some o->b≠T0->b≠T:=fun b o q n z=>by
  rcases tn with tn |tn
  ·rw[z,tn] at q;cases q
  ·exact n (z.trans tn)
 have kept:∀b o,s.heap.get? b=some o->b∉hU (env :: outer)->((∃o0,h₀.get? b=some o0)\/∃u,H b=some u)->h5.get? b=some o:=fun b o q hb hor=>by
  have be:b≠e:=fun z=>by subst z;rcases hor with⟨_,z⟩ | ⟨_,z⟩ <;> simp_all
  have bT:b≠T0:=fun z=>by subst z;rcases hor with⟨_,z⟩ | ⟨_,z⟩ <;> simp_all
  exact kp5 b o (kp b o q hb (by simp[be,bT])) (by simp) (by simp[nT b o q bT])
 have slot:∀b o,s.heap.get? b=some o->b∈hU (env :: outer)->∃sl,h5.get? b=some {o with slots:=sl}:=fun b o q hb=>by
  obtain⟨x,q4⟩:=sl b o q hb
  exact⟨x,kp5 b _ q4 (by simp) (by simp[nT b o q fun z=>tF (z▸hb)])⟩
 have fresh:H T=none/\h₀.get? T=none:=by
  rcases tn with tn |tn
  ·refine⟨?_,?_⟩
   ·cases q:H T with
    |none=>rfl
    |some u=>obtain⟨o,qo⟩:=(hok T u q).there;rw[tn] at qo;cases qo
   ·cases q:h₀.get? T with
    |none=>rfl
    |some u=>obtain⟨o,qo⟩:=hex T u q;rw[tn] at qo;cases qo
  ·rw[tn];exact⟨hHT,hnT⟩
 refine hQ h5 kept slot ⟨fr,nw,T,rc5,fresh.1,fresh.2⟩ (rg hok fun b o q hu=>kept b o q (fun z=>?_) (.inr hu))
 obtain⟨u,hu⟩:=hu
 rw[hff b z] at hu;cases hu
theorem tK {h:Heap}{args:List Value}(hfr:A.frames=some (env :: outer))(hf:env.frame=some L)(hfn:h.FunFrames base (env :: outer))(hok:jG P w H h)(hff:∀b∈hU (env :: outer),H b=none)(hex:∀b o,h₀.get? b=some o->∃o',h.get? b=some o')(hx:Heap.MadeExcOf h s.heap e cls args)
  (hQ:∀h',(∀b o,h.get? b=some o->b∉hU (env :: outer)->h'.get? b=some o)->(∀b o,h.get? b=some o->b∈hU (env :: outer)->∃sl,h'.get? b=some {o with slots:=sl})->Lies h₀ H h' e cls->jG P w H h'->Q () {s with heap:=h'}) :
  wpAny M A (leaving env (.ref e)) Q E' s:=by
 obtain⟨t,he,_,_⟩:=hx.there
 unfold leaving
 refine wpAny_bind (tE (cls:=cls) hfr (hfn.of_keeps fun b o q _=>⟨o,hx.keeps b o q,rfl⟩) hf he rfl rfl rfl rfl fun h4 T kp sl tn rc4=>vA rc4 fun h5 kp5 rc5=>?_)
 have ne:∀b o,h.get? b=some o->b≠e:=fun b o q z=>by rw[z,hx.new] at q;cases q
 have nT:∀b o,h.get? b=some o->b≠T:=fun b o q z=>by
  have:=hx.keeps b o q
  rw[z,tn] at this;cases this
 have kept:∀b o,h.get? b=some o->b∉hU (env :: outer)->h5.get? b=some o:=fun b o q hb=>kp5 b o (kp b o (hx.keeps b o q) hb (by simp[ne b o q])) (by simp) (by simp[nT b o q])
 have slot:∀b o,h.get? b=some o->b∈hU (env :: outer)->∃sl,h5.get? b=some {o with slots:=sl}:=fun b o q hb=>by
  obtain⟨x,q4⟩:=sl b o (hx.keeps b o q) hb
  exact⟨x,kp5 b _ q4 (by simp) (by simp[nT b o q])⟩
 have fresh:∀{b:Addr},h.get? b=none->H b=none/\h₀.get? b=none:=fun {b} hb=>by
  refine⟨?_,?_⟩
  ·cases q:H b with
   |none=>rfl
   |some u=>obtain⟨o,qo⟩:=(hok b u q).there;rw[hb] at qo;cases qo
  ·cases q:h₀.get? b with
   |none=>rfl
   |some u=>obtain⟨o,qo⟩:=hex b u q;rw[hb] at qo;cases qo
 have no:h.get? T=none:=by
  cases q:h.get? T with
  |none=>rfl
  |some o=>exact absurd rfl (nT T o q)
 obtain⟨f1,f2⟩:=fresh hx.new
 obtain⟨g1,g2⟩:=fresh no
 refine hQ h5 kept slot ⟨f1,f2,T,rc5,g1,g2⟩ (rg hok fun b o q hu=>kept b o q fun z=>?_)
 obtain⟨u,hu⟩:=hu
 rw[hff b z] at hu;cases hu
end
section
variable {P:Program}{w:World}{K:PySem.W.Frag}{mg:Str->Option Value}{base:Heap}{N:List Str}{qual:Str}{scope:Scope}{f:Addr}{cd:Value}{A:Around}{outer:List Env}{s0:Shared}{H0:Hp}{E:XK}
theorem bB:Passes (l5 P w) (jO (l5 P w) P w K mg base N qual scope f cd A outer s0 H0 E) E:=by
 intro pins σ H s e s' I hcx
 obtain⟨ea,cls,H',rfl,os,bare,un,hok,Ly,q⟩:=hcx
 have I':=I.call' os un hok bare (fun b hb=>absurd hb (by simp))
 have old:∀{b:Addr},s.heap.get? b=none->s0.heap.get? b=none:=fun {b} hb=>by
  cases z:s0.heap.get? b with
  |none=>rfl
  |some o=>obtain⟨o',z'⟩:=I.base.there b o z (show b∉([]:List Addr) by simp);rw[hb] at z';cases z'
 have Ly0:Lies s0.heap H' s'.heap ea cls:=by
  obtain⟨fr,nw,T,rc,hHT,hnT⟩:=Ly
  exact⟨fr,old nw,T,rc,hHT,old hnT⟩
 have above:s0.heap.objs.size<=(envOfC qual scope s0.heap.objs.size f cd).locals:=I.ok.above
 refine Aq (base:=base) (h₀:=s0.heap) I'.ok.frames rfl I'.stack I'.hok I'.stkFree Ly0 (fun b o z=>I'.base.there b o z (show b∉([]:List Addr) by simp)) fun h' kept slot Ly' hok'=>?_
 have nL:∀{b:Addr} {o:Obj},s0.heap.get? b=some o->b∉hU outer->b∉hU (envOfC qual scope s0.heap.objs.size f cd :: outer):=fun {b o} z hb hm=>by
  rcases List.mem_cons.mp (I'.stkSub b hm) with e |e
  ·have:=Heap.lt_size z
   rw[e] at this
   exact absurd (Nat.lt_of_lt_of_le this above) (Nat.lt_irrefl _)
  ·exact hb e
 have inn:∀{b:Addr},b∈hU outer->b∈hU (envOfC qual scope s0.heap.objs.size f cd :: outer):=fun {b} hb=>by
  obtain⟨en,h1,h2⟩:=List.mem_filterMap.mp hb
  exact List.mem_filterMap.mpr ⟨en,List.mem_cons_of_mem _ h1,h2⟩
 refine⟨ea,cls,H',rfl,os.trans I.os,bare,⟨fun b o z n hb _=>?_,fun b o z n hb _=>?_,fun b o z n _=>I'.base.free b o z n (show b∉([]:List Addr) by simp),fun b o z _=>?_,I'.base.tups,I'.base.frzs,I'.base.tbls⟩,hok',Ly',q⟩
 ·exact kept b o (I'.base.keep b o z n hb (show b∉([]:List Addr) by simp)) (nL z hb) (.inl ⟨o,z⟩)
 ·obtain⟨sl,z1⟩:=I'.base.slot b o z n hb (show b∉([]:List Addr) by simp)
  obtain⟨sl2,z2⟩:=slot b _ z1 (inn hb)
  exact⟨sl2,z2⟩
 ·obtain⟨o',z1⟩:=I'.base.there b o z (show b∉([]:List Addr) by simp)
  by_cases hb:b∈hU (envOfC qual scope s0.heap.objs.size f cd :: outer)
  ·obtain⟨sl,z2⟩:=slot b o' z1 hb
   exact⟨_,z2⟩
  ·exact⟨o',kept b o' z1 hb (.inl ⟨o,z⟩)⟩
def C7 (C:Addr)(E:XK)(t:TA):TS:=fun _ σ H=>t σ H fun vs H1=>vs.length<=sizeLine/\E (.ref C) none H1
theorem yk {x:Str}{C:Addr}{np cpos pos:Pos}{e0:Expr}{es:List Expr}{t:TA}{Bn newId initId:String}{bmB:List Value}(FB:ExcBaseFacts Bn newId initId bmB)(hbb:bmB.contains (.type "BaseException")=true)(q:PySem.W.excIn K C bmB newId=true)
  (hg:Gl (jO (l5 P w) P w K mg base N qual scope f cd A outer s0 H0 E) x) (hm:mg x=some (.ref C)) (ha:PA (jO (l5 P w) P w K mg base N qual scope f cd A outer s0 H0 E) (e0 :: es) t)
  (he:starEach (e0 :: es) (envOfC qual scope s0.heap.objs.size f cd)=(false,eval e0 (envOfC qual scope s0.heap.objs.size f cd)) :: starEach es (envOfC qual scope s0.heap.objs.size f cd):=by rfl)
  (hpl:(backTo cpos (starEach es (envOfC qual scope s0.heap.objs.size f cd))).any (·.1)=false:=by rfl) (hdb:(x == ("__debug__":Str))=false:=by decide) :
  PS (jO (l5 P w) P w K mg base N qual scope f cd A outer s0 H0 E) (.Raise (some (.Call (.Name x np) (e0 :: es) [] cpos)) none pos) (C7 C E t):=by
 intro pins s σ H D I h
 have own:∀{hh:Heap},K.In hh->∃bm Nn nm qn bs hdct sn sub ab col dd k0 k1 k2 k3 k5 mN,hh.get? C=some (excClassObj nm qn C Nn bs bm hdct sn sub ab col dd k0 k1 k2 k3 k5 newId)/\hh.Ns Nn mN/\mN "__init__"=none/\OwnTail hh bmB bm:=fun {hh} X=>by
  have q:=q
  unfold PySem.W.excIn at q
  split at q
  ·rename_i dd cdd sl ho
   split at q
   ·rename_i C' bm k0 k1 k2 k3 n k5 hm hs
    simp only[Bool.and_eq_true,beq_iff_eq,Bool.not_eq_true'] at q
    obtain⟨⟨⟨⟨⟨rfl,rfl⟩,hdel⟩,ht⟩,hok⟩,hni⟩:=q
    obtain⟨nm,bs,mro,ns,qn,hd,sn,sub,ab,col,del⟩:=cdd
    dsimp only at hm hdel hok hni
    subst hm hdel
    have hsl:sl=#[k0,k1,k2,k3,some (.builtin n),k5]:=by
     obtain⟨l⟩:=sl
     simp only at hs
     rw[hs]
    subst hsl
    exact⟨bm,ns,nm,qn,bs,hd,sn,sub,ab,col,dd,k0,k1,k2,k3,k5,_,X _ _ ho,.of_isNs (PySem.W.isNs_of_in X hok),PySem.W.nsMap_none_of_in X hok hni,PySem.W.tail_of_in X ht⟩
   ·cases q
  ·cases q
 obtain⟨bm,Nn,nm,qn,bs,hdct,sn,sub,ab,col,dd,k0,k1,k2,k3,k5,mN,hC,hN,hni,TL⟩:=own I.ok.mod.kin
 have hA:=ha cpos pins s σ H _ I h
 refine wpAny_Raise_call_subT (C:=C) (nm:=nm) (q:=qn) (N:=Nn) (bs:=bs) (bm:=bm) (hdct:=hdct) (sn:=sn) (sub:=sub) (ab:=ab) (col:=col) (dd:=dd) (k0:=k0) (k1:=k1) (k2:=k2) (k3:=k3) (k5:=k5) FB (mN:=mN) (TL.hasType hbb) (I.ok.hd rfl) ?_ hni (pL I hg hm ⟨rfl,?_⟩ hdb)
 ·show (backTo cpos (starEach (e0 :: es) (envOfC qual scope s0.heap.objs.size f cd))).any (·.1)=false
  rw[he]
  show (false || (backTo cpos (starEach es (envOfC qual scope s0.heap.objs.size f cd))).any (·.1))=false
  rw[hpl];rfl
 have hA:wpAny _ _ (spliced (backTo cpos (starEach (e0 :: es) (envOfC qual scope s0.heap.objs.size f cd)))) _ _ s:=hA
 show wpAny _ _ (evalArgs (.ref C) true (backTo cpos (starEach (e0 :: es) (envOfC qual scope s0.heap.objs.size f cd))) []) _ _ s
 rw[he] at hA ⊢
 refine Calls.evalArgs_plain (b7 hA fun us s2 ⟨vs,H2,I2,r2,hl2,q2⟩=>⟨rfl,by show us.length<=_;rw[<-r2.length];exact hl2,I2.bk _ _ hC,hN.keeps I2.bk,TL.keeps I2.bk,fun h' e hx=>?_⟩)
 have above:s0.heap.objs.size<=(envOfC qual scope s0.heap.objs.size f cd).locals:=I2.ok.above
 have nil:∀b:Addr,b∉([]:List Addr):=fun b=>by simp
 refine tK (s:={s2 with heap:=h'}) (h:=s2.heap) (base:=base) (h₀:=s0.heap) I2.ok.frames rfl I2.stack I2.hok I2.stkFree (fun b o z=>I2.base.there b o z (nil b)) hx fun h2 kept slot Ly hok=>?_
 have nL:∀{b:Addr} {o:Obj},s0.heap.get? b=some o->b∉hU outer->b∉hU (envOfC qual scope s0.heap.objs.size f cd :: outer):=fun {b o} z hb hm=>by
  rcases List.mem_cons.mp (I2.stkSub b hm) with e |e
  ·have:=Heap.lt_size z
   rw[e] at this
   exact absurd (Nat.lt_of_lt_of_le this above) (Nat.lt_irrefl _)
  ·exact hb e
 have inn:∀{b:Addr},b∈hU outer->b∈hU (envOfC qual scope s0.heap.objs.size f cd :: outer):=fun {b} hb=>by
  obtain⟨en,h1,h2⟩:=List.mem_filterMap.mp hb
  exact List.mem_filterMap.mpr ⟨en,List.mem_cons_of_mem _ h1,h2⟩
 refine⟨e,.ref C,H2,rfl,I2.os,I2.bare,⟨fun b o z n hb _=>?_,fun b o z n hb _=>?_,fun b o z n _=>I2.base.free b o z n (nil b),fun b o z _=>?_,I2.base.tups,I2.base.frzs,I2.base.tbls⟩,hok,Ly,q2⟩
 ·exact kept b o (I2.base.keep b o z n hb (nil b)) (nL z hb)
 ·obtain⟨sl,z1⟩:=I2.base.slot b o z n hb (nil b)
  obtain⟨sl2,z2⟩:=slot b _ z1 (inn hb)
  exact⟨sl2,z2⟩
 ·obtain⟨o',z1⟩:=I2.base.there b o z (nil b)
  by_cases hb:b∈hU (envOfC qual scope s0.heap.objs.size f cd :: outer)
  ·obtain⟨sl,z2⟩:=slot b o' z1 hb
   exact⟨_,z2⟩
  ·exact⟨o',kept b o' z1 hb⟩
end
end L2

end

section

end

section
namespace L2
open PySem PySem.Spec PyProof.Rows
def mroIn (K:PySem.W.Frag)(C:Addr):List Value:=match K.lookup C with
 |some ⟨_,_,.cls cd,_⟩=>cd.mro
 |_=>[]
end L2

end

section
namespace L2
open PySem PySem.Spec PyProof.Rows
structure yA (k:Nat)(A:Around):Prop where
 dp:A.depth + 3 * k + 5 < recursionLimit
 un:A.units + 16 * k + 200 < cLine
 gd:A.guards=some []
theorem eJ.h {k:Nat}{A:Around}(r:eJ k A):yA k A:=⟨r.dp,r.un,r.gd⟩
theorem yA.units {k:Nat}{A:Around}(r:yA k A):A.units + 64 < cLine:=by have:=r.un;omega
section
variable {P:Program}{w:World}{K:PySem.W.Frag}{mg:Str->Option Value}{base:Heap}
theorem Ay.xQ {x qual:Str}{st:Stmt}{f:Addr}{fd:FuncData}{N ps:List Str}{k:Nat}{sp:Sp}(F:Ay K x qual st f fd)(S:aL N ps (ax st))(len:∀vs H Q E,sp vs H Q E->vs.length=ps.length)
  (hbody:∀(cdv:Value) (A:Around) (outer:List Env) (s:Shared) (H:Hp) (vs:List V) (Q:VK) (E:XK),eJ k (A.deeper (envOfC qual (ax st) s.heap.objs.size f cdv))->sp vs H Q E->
   ∃t,o4 (jO (l5 P w) P w K mg base N qual (ax st) f cdv A outer s H E) (cL st) t/\t {nx:=fun _ H'=>Q .non H',rt:=Q} (start N vs) H):fx P w K mg base (l5 P w) (k + 1) f fd ps sp:=by
 obtain⟨oc,od,kV,doc,pm,an,cdv,ct,osl,rfl,lk,hcd⟩:=F.ex
 exact Cw lk hcd S len fun A outer s H vs Q E hr hsp=>hbody cdv A outer s H vs Q E hr hsp
end
end L2

end

section

end

section

end

section

end

section
namespace L2
open PySem PySem.Spec PyProof.Rows
abbrev D:=PyData
def kD:Key->D
 | .inl i=>.int i
 | .inr x=>.str x
mutual
inductive Rp (K:PySem.W.Frag)(G:Hp):V->D->Prop
 |non:Rp K G .non .none
 |bl (b:Bool):Rp K G (.bl b) (.bool b)
 |int (i:Int):Rp K G (.int i) (.int i)
 |str (x:Str):Rp K G (.str x) (.str x)
 |tup {a:Addr} {xs:List V} {ds:List D}:fG K G a xs->bL K G xs ds->Rp K G (.ref a) (.tuple ds)
 |lst {a:Addr} {xs:List V} {ds:List D}:G a=some (.lst xs)->bL K G xs ds->Rp K G (.ref a) (.list ds)
 |scr {a:Addr} {ns:List Int}:gu K G a (ns.map V.int)->Rp K G (.ref a) (.dict [(.none,.list (ns.map PyData.int))])
 |dK {a:Addr} {kvs:List (Key×V)} {ds:List (D×D)}:G a=some (.dK kvs)->wX K G kvs ds->Rp K G (.ref a) (.dict ds)
 |dT {a:Addr} {kvs:List (List Key×V)} {ds:List (D×D)}:G a=some (.dT kvs)->xM K G kvs ds->Rp K G (.ref a) (.dict ds)
inductive bL (K:PySem.W.Frag)(G:Hp):List V->List D->Prop
 |nil:bL K G [] []
 |cons {x:V} {xs:List V} {d:D} {ds:List D}:Rp K G x d->bL K G xs ds->bL K G (x :: xs) (d :: ds)
inductive wX (K:PySem.W.Frag)(G:Hp):List (Key×V)->List (D×D)->Prop
 |nil:wX K G [] []
 |cons {k:Key} {x:V} {xs:List (Key×V)} {d:D} {ds:List (D×D)}:Rp K G x d->wX K G xs ds->wX K G ((k,x) :: xs) ((kD k,d) :: ds)
inductive xM (K:PySem.W.Frag)(G:Hp):List (List Key×V)->List (D×D)->Prop
 |nil:xM K G [] []
 |cons {k:List Key} {x:V} {xs:List (List Key×V)} {d:D} {ds:List (D×D)}:Rp K G x d->xM K G xs ds->xM K G ((k,x) :: xs) ((.tuple (k.map kD),d) :: ds)
end
section
variable {K:PySem.W.Frag}{G G' H H':Hp}
theorem Rd.mono {a:Addr}{u:HO}(h:Rd G a u)(s:ak G G'):Rd G' a u:=h.elim (fun e=>.inl (s _ _ e)) fun⟨o,e⟩=>.inr ⟨o,s _ _ e⟩
mutual
theorem Rp.mono (s:ak G G'):∀{x:V} {d:D},Rp K G x d->Rp K G' x d
 |_,_,.non=>.non
 |_,_,.bl b=>.bl b
 |_,_,.int i=>.int i
 |_,_,.str x=>.str x
 |_,_,.tup h hs=>.tup (h.grow s.grow) (bL.mono s hs)
 |_,_,.lst h hs=>.lst (s _ _ h) (bL.mono s hs)
 |_,_,.scr h=>.scr (s.seq h)
 |_,_,.dK h hs=>.dK (s _ _ h) (wX.mono s hs)
 |_,_,.dT h hs=>.dT (s _ _ h) (xM.mono s hs)
theorem bL.mono (s:ak G G'):∀{xs:List V} {ds:List D},bL K G xs ds->bL K G' xs ds
 |_,_,.nil=>.nil
 |_,_,.cons h hs=>.cons (Rp.mono s h) (bL.mono s hs)
theorem wX.mono (s:ak G G'):∀{xs:List (Key×V)} {ds:List (D×D)},wX K G xs ds->wX K G' xs ds
 |_,_,.nil=>.nil
 |_,_,.cons h hs=>.cons (Rp.mono s h) (wX.mono s hs)
theorem xM.mono (s:ak G G'):∀{xs:List (List Key×V)} {ds:List (D×D)},xM K G xs ds->xM K G' xs ds
 |_,_,.nil=>.nil
 |_,_,.cons h hs=>.cons (Rp.mono s h) (xM.mono s hs)
end
theorem bL.len:∀{xs:List V} {ds:List D},bL K G xs ds->xs.length=ds.length
 |_,_,.nil=>rfl
 |_,_,.cons _ t=>by simp[bL.len t]
theorem bL.at:∀{xs:List V} {ds:List D} {i:Nat} {d:D},bL K G xs ds->ds[i]? =some d->∃x,xs[i]? =some x/\Rp K G x d
 |_,_,_,_,.nil,e=>by simp at e
 |_,_,0,_,.cons r _,e=>by simp at e;subst e;exact⟨_,rfl,r⟩
 |_,_,i + 1,x,.cons _ t,e=>by
  obtain⟨u,h1,h2⟩:=bL.at (i:=i) (d:=x) t (by simpa using e)
  exact⟨u,by simpa using h1,h2⟩
theorem bL.at':∀{xs:List V} {ds:List D} {i:Nat} {x:V},bL K G xs ds->xs[i]? =some x->∃d,ds[i]? =some d/\Rp K G x d
 |_,_,_,_,.nil,e=>by simp at e
 |_,_,0,_,.cons r _,e=>by simp at e;subst e;exact⟨_,rfl,r⟩
 |_,_,i + 1,x,.cons _ t,e=>by
  obtain⟨u,h1,h2⟩:=bL.at' (i:=i) (x:=x) t (by simpa using e)
  exact⟨u,by simpa using h1,h2⟩
theorem bL.append:∀{xs ys:List V} {ds es:List D},bL K G xs ds->bL K G ys es->bL K G (xs ++ ys) (ds ++ es)
 |_,_,_,_,.nil,s=>s
 |_,_,_,_,.cons r t,s=>.cons r (bL.append t s)
theorem bL.snoc {xs:List V}{ds:List D}{x:V}{d:D}(h:bL K G xs ds)(q:Rp K G x d):bL K G (xs ++ [x]) (ds ++ [d]):=h.append (.cons q .nil)
theorem bL.take:∀{xs:List V} {ds:List D} (n:Nat),bL K G xs ds->bL K G (xs.take n) (ds.take n)
 |_,_,0,_=>.nil
 |_,_,_ + 1,.nil=>.nil
 |_,_,n + 1,.cons r t=>.cons r (bL.take n t)
theorem bL.drop:∀{xs:List V} {ds:List D} (n:Nat),bL K G xs ds->bL K G (xs.drop n) (ds.drop n)
 |_,_,0,r=>r
 |_,_,_ + 1,.nil=>.nil
 |_,_,n + 1,.cons _ t=>bL.drop n t
theorem bL.set {x:V}{d:D}(r:Rp K G x d):∀{xs:List V} {ds:List D} (i:Nat),bL K G xs ds->bL K G (xs.set i x) (ds.set i d)
 |_,_,_,.nil=>.nil
 |_,_,0,.cons _ t=>.cons r t
 |_,_,i + 1,.cons q t=>.cons q (bL.set r i t)
mutual
def xI:D->Bool
 | .dict _=>false
 | .list ds=>rb ds
 | .tuple ds=>rb ds
 |_=>true
def rb:List D->Bool
 | []=>true
 |d :: ds=>xI d && rb ds
end
mutual
theorem Rp.rep:∀{x:V} {d:D},Rp K G x d->xI d=true->Rep K G x d
 |_,_,.non,_=>.non
 |_,_,.bl b,_=>.bl b
 |_,_,.int i,_=>.int i
 |_,_,.str x,_=>.str x
 |_,_,.tup h hs,e=>.tup h (bL.reps hs (by simpa[xI] using e))
 |_,_,.lst h hs,e=>.lst (.inl (.inl h)) (bL.reps hs (by simpa[xI] using e))
 |_,_,.scr _,e=>by simp[xI] at e
 |_,_,.dK _ _,e=>by simp[xI] at e
 |_,_,.dT _ _,e=>by simp[xI] at e
theorem bL.reps:∀{xs:List V} {ds:List D},bL K G xs ds->rb ds=true->mL K G xs ds
 |_,_,.nil,_=>.nil
 |_,_,.cons h hs,e=>.cons (Rp.rep h (by simp[rb] at e;exact e.1)) (bL.reps hs (by simp[rb] at e;exact e.2))
end
def Own (K:PySem.W.Frag)(G H:Hp)(a:Addr):D->Prop
 | .list ds=>∃xs,H a=some (.lst xs)/\bL K G xs ds
 | .dict ds=>(∃kvs,H a=some (.dK kvs)/\wX K G kvs ds)\/∃kvs,H a=some (.dT kvs)/\xM K G kvs ds
 |_=>False
theorem Own.obj {a:Addr}{d:D}(h:Own K G H a d):∃o,H a=some o:=by
 cases d <;> first |exact h.elim |skip
 ·obtain⟨xs,e,_⟩:=h;exact⟨_,e⟩
 ·rcases h with⟨_,e,_⟩ | ⟨_,e,_⟩ <;> exact⟨_,e⟩
theorem Own.mono {a:Addr}{d:D}(h:Own K G H a d)(s:ak G G')(m:∀o,H a=some o->H' a=some o):Own K G' H' a d:=by
 cases d <;> first |exact h.elim |skip
 ·obtain⟨xs,e,r⟩:=h;exact⟨xs,m _ e,r.mono s⟩
 ·rcases h with⟨k,e,r⟩ | ⟨k,e,r⟩
  ·exact .inl ⟨k,m _ e,r.mono s⟩
  ·exact .inr ⟨k,m _ e,r.mono s⟩
theorem Own.rp {a:Addr}{d:D}(h:Own K G H a d)(n:G a=none){G':Hp}(s:ak G G')(e:∀o,H a=some o->G' a=some o):Rp K G' (.ref a) d:=by
 cases d <;> first |exact h.elim |skip
 ·obtain⟨xs,q,r⟩:=h;exact .lst (e _ q) (r.mono s)
 ·rcases h with⟨k,q,r⟩ | ⟨k,q,r⟩
  ·exact .dK (e _ q) (r.mono s)
  ·exact .dT (e _ q) (r.mono s)
def kc (K:PySem.W.Frag)(B:Option Addr)(G H:Hp)(v:V)(d:D):Prop:=Rp K G v d\/∃a,v=.ref a/\B≠some a/\Own K G H a d
def gW (B:Option Addr)(H H':Hp):Prop:=∀b o,H b=some o->B≠some b->H' b=some o
theorem gW.refl (B:Option Addr)(H:Hp):gW B H H:=fun _ _ h _=>h
theorem gW.trans {B:Option Addr}{H1:Hp}(x:gW B H H1)(y:gW B H1 H'):gW B H H':=fun b o h n=>y b o (x b o h n) n
theorem ak.mov (s:ak H H')(B:Option Addr):gW B H H':=fun b o h _=>s b o h
theorem kc.mono {B:Option Addr}{v:V}{d:D}(h:kc K B G H v d)(s:ak G G')(m:gW B H H'):kc K B G' H' v d:=by
 rcases h with h | ⟨a,e,n,h⟩
 ·exact .inl (h.mono s)
 ·exact .inr ⟨a,e,n,h.mono s fun o q=>m a o q n⟩
theorem kc.rpH {B:Option Addr}{v:V}{d:D}(h:kc K B G H v d)(s:ak G H):Rp K H v d:=by
 rcases h with h | ⟨a,rfl,n,h⟩
 ·exact h.mono s
 ·cases d <;> first |exact h.elim |skip
  ·obtain⟨xs,q,r⟩:=h;exact .lst q (r.mono s)
  ·rcases h with⟨k,q,r⟩ | ⟨k,q,r⟩
   ·exact .dK q (r.mono s)
   ·exact .dT q (r.mono s)
theorem kc.list {B:Option Addr}{v:V}{ds:List D}(h:kc K B G H v (.list ds))(s:ak G H):∃a xs,v=.ref a/\Rd H a (.lst xs)/\bL K G xs ds:=by
 rcases h with h | ⟨a,rfl,n,xs,q,r⟩
 ·cases h with
  |lst h r=>exact⟨_,_,rfl,.inl (s _ _ h),r⟩
 ·exact⟨a,xs,rfl,.inl q,r⟩
theorem kc.tuple {B:Option Addr}{v:V}{ds:List D}(h:kc K B G H v (.tuple ds))(s:ak G H):∃a xs,v=.ref a/\fG K H a xs/\bL K G xs ds:=by
 rcases h with h | ⟨a,rfl,n,h⟩
 ·cases h with
  |tup h r=>exact⟨_,_,rfl,h.grow s.grow,r⟩
 ·exact h.elim
theorem kc.int {B:Option Addr}{v:V}{i:Int}(h:kc K B G H v (.int i)):v=.int i:=by
 rcases h with h | ⟨a,rfl,n,h⟩
 ·cases h;rfl
 ·exact h.elim
theorem kc.bool {B:Option Addr}{v:V}{b:Bool}(h:kc K B G H v (.bool b)):v=.bl b:=by
 rcases h with h | ⟨a,rfl,n,h⟩
 ·cases h;rfl
 ·exact h.elim
theorem kc.str {B:Option Addr}{v:V}{x:Str}(h:kc K B G H v (.str x)):v=.str x:=by
 rcases h with h | ⟨a,rfl,n,h⟩
 ·cases h;rfl
 ·exact h.elim
theorem kc.none {B:Option Addr}{v:V}(h:kc K B G H v .none):v=.non:=by
 rcases h with h | ⟨a,rfl,n,h⟩
 ·cases h;rfl
 ·exact h.elim
end
def Fz:HO->Prop
 | .tup _=>True
 | .a7 _ _=>True
 |_=>False
def Mx (H:Hp)(b:Addr):Prop:=H b≠none/\∀o,H b=some o->¬Fz o
theorem Mx.lst {H:Hp}{b:Addr}{xs:List V}(h:H b=some (.lst xs)):Mx H b:=⟨by rw[h];simp,fun ys z=>by rw[h] at z;cases z;exact fun y=>y⟩
theorem Mx.same {H H':Hp}{b:Addr}(h:Mx H b)(m:∀o,H b=some o->H' b=some o):Mx H' b:=by
 obtain⟨h1,h2⟩:=h
 cases e:H b with
 |none=>exact absurd e h1
 |some o=>
  refine⟨by rw[m o e];simp,fun xs z=>?_⟩
  rw[m o e] at z
  cases z
  exact h2 o e
theorem Own.mx {K:PySem.W.Frag}{G H:Hp}{a:Addr}{d:D}(h:Own K G H a d):Mx H a:=by
 cases d <;> first |exact h.elim |skip
 ·obtain⟨xs,e,_⟩:=h;exact Mx.lst e
 ·rcases h with⟨k,e,_⟩ | ⟨k,e,_⟩ <;> exact⟨by rw[e];simp,fun ys z=>by rw[e] at z;cases z;exact fun y=>y⟩
open Classical in
noncomputable def kA (G H:Hp):Hp:=fun b=>match G b with
 |some o=>some o
 |none=>match H b with
  |some o=>if Fz o then some o else none
  |none=>none
theorem oY {G H:Hp}:ak G (kA G H):=fun b o e=>by unfold kA;rw[e]
theorem va {G H:Hp}(s:ak G H){b:Addr}{o:HO}(e:H b=some o)(f:Fz o):kA G H b=some o:=by
 unfold kA
 cases q:G b with
 |some u=>have:=s b u q;rw[e] at this;cases this;rfl
 |none=>simp only[e];rw[if_pos f]
theorem rT {G H:Hp}(s:ak G H):ak (kA G H) H:=fun b o e=>by
 unfold kA at e
 cases q:G b with
 |some u=>rw[q] at e;cases e;exact s b _ q
 |none=>
  rw[q] at e
  cases q2:H b with
  |none=>rw[q2] at e;cases e
  |some u=>
   rw[q2] at e
   dsimp only at e
   split at e
   ·cases e;rfl
   ·cases e
theorem vM {G H H':Hp}(hh:ak H H'){b:Addr}(m:Mx H b):kA G H' b=G b:=by
 unfold kA
 cases q:G b with
 |some u=>rfl
 |none=>
  obtain⟨h1,h2⟩:=m
  cases e:H b with
  |none=>exact absurd e h1
  |some o=>
   simp only[hh b o e]
   rw[if_neg (h2 o e)]
theorem nk {K:PySem.W.Frag}{G H:Hp}(s:ak G H){a:Addr}{xs:List V}(h:fG K H a xs):fG K (kA G H) a xs:=by
 rcases h with (h | ⟨o,h⟩) |h
 ·exact .inl (.inl (va s h trivial))
 ·exact .inl (.inr ⟨o,va s h trivial⟩)
 ·exact .inr h
structure Fx where
 K:PySem.W.Frag
 H0:Hp
 G0:Hp
 par:List Addr
 ca:Str->Addr
 br:Nat->Bool
 bx:Option Addr
inductive Sl where
 |no |fz (d:D) |ow (d:D) |bx |br (d:D)
abbrev En:=List Sl
inductive Nv where
 |no |da (d:D) |bx
def Sl.val:Sl->Nv
 | .no=>.no
 | .fz d=>.da d
 | .ow d=>.da d
 | .br d=>.da d
 | .bx=>.bx
def vl (env:En):List Nv:=env.map Sl.val
def GP (Γ:Fx)(B:Option Addr)(G H:Hp)(i:Nat)(o:Option (Option V)):Sl->Prop
 | .no=>True
 | .fz d=>∃v,o=some (some v)/\Rp Γ.K G v d
 | .ow d=>∃a,o=some (some (.ref a))/\Γ.H0 a=none/\G a=none/\B≠some a/\Own Γ.K G H a d
 | .bx=>∃a,o=some (some (.ref a))/\B=some a
 | .br d=>Γ.br i=true/\∃a,o=some (some (.ref a))/\B≠some a/\a∉Γ.par/\Own Γ.K G H a d
structure SR (Γ:Fx)(B:Option Addr)(G H:Hp)(σ:St)(env:En)(β:Int):Prop where
 sub:ak G H
 old:ak Γ.G0 G
 new:∀b,Mx Γ.H0 b->Γ.G0 b=none->G b=none
 keep:∀b o,Γ.H0 b=some o->b∉Γ.par->H b=some o
 pin:∀b,b∈Γ.par->Mx H b
 fix:∀b,Γ.bx=some b->B=some b
 box:∀b,B=some b->H b=some (.lst [.int β])/\G b=none/\(b∈Γ.par\/Γ.H0 b=none)
 len:σ.length=env.length
 slot:∀(i:Nat) (s:Sl),env[i]? =some s->GP Γ B G H i (σ[i]?) s
 sep:∀(i j:Nat) (a:Addr) (d e:D),env[i]? =some (.ow d)->env[j]? =some (.ow e)->σ[i]? =some (some (.ref a))->σ[j]? =some (some (.ref a))->i=j
structure Ext (G H G' H':Hp):Prop where
 hh:ak H H'
 gg:ak G G'
 gh:ak G' H'
 on:∀b,Mx H b->G' b=G b
theorem Ext.refl {G H:Hp}(s:ak G H):Ext G H G H:=⟨ak.refl _,ak.refl _,s,fun _ _=>rfl⟩
theorem Ext.tups {G H H':Hp}(s:ak G H)(hh:ak H H'):Ext G H (kA G H') H':=⟨hh,oY,rT (s.trans hh),fun _ m=>vM hh m⟩
theorem Ext.new {G H:Hp}(s:ak G H){p:Addr}{o:HO}(h:H p=none):Ext G H (upd G p o) (upd H p o):=by
 refine⟨ak.new h,ak.new (s.free h),fun b u e=>?_,fun b hb=>?_⟩
 ·by_cases z:b=p
  ·subst z;rw[aw] at e ⊢;exact e
  ·rw[az z] at e ⊢;exact s b u e
 ·exact az (fun z=>hb.1 (by rw[z];exact h))
theorem Ext.own {G H:Hp}(s:ak G H){p:Addr}{o:HO}(h:H p=none):Ext G H G (upd H p o):=
 ⟨ak.new h,ak.refl _,s.trans (ak.new h),fun _ _=>rfl⟩
theorem Ext.trans {G H G1 H1 G2 H2:Hp}(x:Ext G H G1 H1)(y:Ext G1 H1 G2 H2):Ext G H G2 H2:=by
 refine⟨x.hh.trans y.hh,x.gg.trans y.gg,y.gh,fun b hb=>?_⟩
 rw[y.on b (hb.same fun o e=>x.hh b o e),x.on b hb]
section
variable {Γ:Fx}{B:Option Addr}{G H G' H':Hp}{σ:St}{env:En}{β:Int}
theorem SR.there (I:SR Γ B G H σ env β){b:Addr}(h:Γ.H0 b≠none):H b≠none:=by
 by_cases hp:b∈Γ.par
 ·exact (I.pin b hp).1
 ·cases e:Γ.H0 b with
  |none=>exact absurd e h
  |some o=>rw[I.keep b o e hp];simp
theorem SR.thereM (I:SR Γ B G H σ env β){b:Addr}(h:Mx Γ.H0 b):Mx H b:=by
 by_cases hp:b∈Γ.par
 ·exact I.pin b hp
 ·exact h.same fun o e=>I.keep b o e hp
theorem SR.ext (I:SR Γ B G H σ env β)(x:Ext G H G' H'):SR Γ B G' H' σ env β:=by
 refine⟨x.gh,I.old.trans x.gg,fun b h1 h2=>?_,fun b o h1 h2=>x.hh b o (I.keep b o h1 h2),fun b hb=>?_,I.fix,fun b e=>?_,I.len,fun i s e=>?_,I.sep⟩
 ·rw[x.on b (I.thereM h1)];exact I.new b h1 h2
 ·exact (I.pin b hb).same fun o e=>x.hh b o e
 ·obtain⟨h1,h2,h3⟩:=I.box b e
  exact⟨x.hh b _ h1,by rw[x.on b (Mx.lst h1)];exact h2,h3⟩
 ·have q:=I.slot i s e
  cases s with
  |no=>trivial
  |fz d=>obtain⟨v,h1,h2⟩:=q;exact⟨v,h1,h2.mono x.gg⟩
  |ow d=>
   obtain⟨a,h1,h2,h3,h4,h5⟩:=q
   exact⟨a,h1,h2,by rw[x.on a h5.mx];exact h3,h4,h5.mono x.gg fun o q=>x.hh a o q⟩
  |bx=>exact q
  |br d=>obtain⟨b1,a,h1,h4,hp,h5⟩:=q;exact⟨b1,a,h1,h4,hp,h5.mono x.gg fun o q=>x.hh a o q⟩
def iq (env:En)(i:Nat):En:=match env[i]? with
 |some (.ow d)=>env.set i (.fz d)
 |_=>env
def a7 (L:List Nat)(env:En):En:=L.foldl iq env
theorem cI (L M:List Nat)(env:En):a7 (L ++ M) env=a7 M (a7 L env):=by unfold a7;rw[List.foldl_append]
theorem sU (env:En)(i:Nat)(s:Sl)(h:∀t,env[i]? =some t->t.val=s.val):vl (env.set i s)=vl env:=by
 unfold vl
 apply List.ext_getElem?
 intro j
 rw[List.getElem?_map,List.getElem?_map,List.getElem?_set]
 by_cases e:i=j
 ·subst e
  by_cases hi:i < env.length
  ·simp only[if_true,hi]
   have:=h _ (List.getElem?_eq_getElem hi)
   simp[List.getElem?_eq_getElem hi,this]
  ·simp only[if_true,hi,if_false]
   rw[List.getElem?_eq_none (by omega)]
 ·simp[e]
theorem BW (env:En)(i:Nat):vl (iq env i)=vl env:=by
 unfold iq
 split
 ·rename_i d e
  exact sU _ _ _ fun t ht=>by rw[e] at ht;cases ht;rfl
 ·rfl
theorem gm (L:List Nat)(env:En):vl (a7 L env)=vl env:=by
 unfold a7
 induction L generalizing env with
 |nil=>rfl
 |cons i L ih=>rw[List.foldl_cons,ih,BW]
theorem Cj {i:Nat}{d:D}(h:(vl env)[i]? =some (.da d)):env[i]? =some (.fz d)\/env[i]? =some (.ow d)\/env[i]? =some (.br d):=by
 unfold vl at h
 rw[List.getElem?_map] at h
 cases e:env[i]? with
 |none=>rw[e] at h;simp at h
 |some s=>
  rw[e] at h
  cases s with
  |no=>simp[Sl.val] at h
  |fz d'=>simp[Sl.val] at h;subst h;exact .inl rfl
  |ow d'=>simp[Sl.val] at h;subst h;exact .inr (.inl rfl)
  |bx=>simp[Sl.val] at h
  |br d'=>simp[Sl.val] at h;subst h;exact .inr (.inr rfl)
theorem E9 {i:Nat}(h:(vl env)[i]? =some .bx):env[i]? =some .bx:=by
 unfold vl at h
 rw[List.getElem?_map] at h
 cases e:env[i]? with
 |none=>rw[e] at h;simp at h
 |some s=>
  rw[e] at h
  cases s with
  |bx=>rfl
  |_=>simp[Sl.val] at h
theorem SR.freeze (I:SR Γ B G H σ env β)(i:Nat)(hb:Γ.br i=false){d:D}(h:(vl env)[i]? =some (.da d)):∃G' v,SR Γ B G' H σ (iq env i) β/\ak G G'/\σ[i]? =some (some v)/\Rp Γ.K G' v d:=by
 rcases Cj h with e |e |e
 ·obtain⟨v,h1,h2⟩:=I.slot i _ e
  exact⟨G,v,by unfold iq;rw[e];exact I,ak.refl _,h1,h2⟩
 rotate_left
 ·obtain⟨z,_⟩:=I.slot i _ e
  rw[hb] at z;cases z
 ·obtain⟨a,h1,h2,h3,h4,h5⟩:=I.slot i _ e
  obtain⟨o,ho⟩:=h5.obj
  have sG:ak G (upd G a o):=ak.new h3
  have hi:i < env.length:=(List.getElem?_eq_some_iff.mp e).1
  have hr:Rp Γ.K (upd G a o) (.ref a) d:=h5.rp h3 sG fun o' q=>by rw[ho] at q;cases q;exact aw
  refine⟨upd G a o,.ref a,?_,sG,h1,hr⟩
  unfold iq
  rw[e]
  refine⟨fun b u q=>?_,I.old.trans sG,fun b n1 n2=>?_,I.keep,I.pin,I.fix,fun b q=>?_,by rw[List.length_set];exact I.len,fun j s q=>?_,fun j k c d1 d2 q1 q2 q3 q4=>?_⟩
  ·by_cases z:b=a
   ·subst z;rw[aw] at q;cases q;exact ho
   ·rw[az z] at q;exact I.sub b u q
  ·rw[az (fun z=>n1.1 (by rw[z];exact h2))];exact I.new b n1 n2
  ·obtain⟨k1,k2,k3⟩:=I.box b q
   exact⟨k1,by rw[az (fun z=>h4 (by rw[<-z];exact q))];exact k2,k3⟩
  ·by_cases z:j=i
   ·subst z
    rw[List.getElem?_set_self hi] at q
    cases q
    exact⟨.ref a,h1,hr⟩
   ·rw[List.getElem?_set_ne (Ne.symm z)] at q
    have w:=I.slot j s q
    cases s with
    |no=>trivial
    |fz d'=>obtain⟨v,w1,w2⟩:=w;exact⟨v,w1,w2.mono sG⟩
    |ow d'=>
     obtain⟨c,w1,w2,w3,w4,w5⟩:=w
     have ca:c≠a:=fun z2=>z (I.sep j i c d' d q e w1 (by rw[z2];exact h1))
     exact⟨c,w1,w2,by rw[az ca];exact w3,w4,w5.mono sG fun o q=>q⟩
    |bx=>exact w
    |br d'=>obtain⟨b1,c,w1,w4,wp,w5⟩:=w;exact⟨b1,c,w1,w4,wp,w5.mono sG fun o q=>q⟩
  ·have ne:∀{j:Nat} {d':D},(env.set i (Sl.fz d))[j]? =some (.ow d')->env[j]? =some (.ow d'):=fun {j d'} q=>by
    by_cases z:j=i
    ·subst z;rw[List.getElem?_set_self hi] at q;cases q
    ·rw[List.getElem?_set_ne (Ne.symm z)] at q;exact q
   exact I.sep j k c d1 d2 (ne q1) (ne q2) q3 q4
theorem SR.a7 (I:SR Γ B G H σ env β)(L:List Nat)(hb:∀i,i∈L->Γ.br i=false):∃G',SR Γ B G' H σ (a7 L env) β/\ak G G':=by
 induction L generalizing env G with
 |nil=>exact⟨G,I,ak.refl _⟩
 |cons i L ih=>
  show ∃G',SR Γ B G' H σ (L2.a7 L (iq env i)) β/\ak G G'
  have key:∃G1,SR Γ B G1 H σ (iq env i) β/\ak G G1:=by
   cases e:env[i]? with
   |none=>exact⟨G,by unfold iq;rw[e];exact I,ak.refl _⟩
   |some s=>
    cases s with
    |ow d=>
     obtain⟨G1,v,h1,h2,_⟩:=I.freeze i (hb i (List.mem_cons_self ..)) (d:=d) (by unfold vl;rw[List.getElem?_map,e];rfl)
     exact⟨G1,h1,h2⟩
    |_=>exact⟨G,by unfold iq;rw[e];exact I,ak.refl _⟩
  obtain⟨G1,I1,s1⟩:=key
  obtain⟨G2,I2,s2⟩:=ih I1 fun j hj=>hb j (List.mem_cons_of_mem _ hj)
  exact⟨G2,I2,s1.trans s2⟩
theorem SR.set (I:SR Γ B G H σ env β){i:Nat}(hi:i < env.length){v:V}{d:D}(h:Rp Γ.K G v d):SR Γ B G H (σ.set i (some v)) (env.set i (.fz d)) β:=by
 have hs:i < σ.length:=by rw[I.len];exact hi
 refine⟨I.sub,I.old,I.new,I.keep,I.pin,I.fix,I.box,by rw[List.length_set,List.length_set];exact I.len,fun j s q=>?_,fun j k c d1 d2 q1 q2 q3 q4=>?_⟩
 ·by_cases z:j=i
  ·subst z
   rw[List.getElem?_set_self hi] at q
   cases q
   exact⟨v,by rw[List.getElem?_set_self hs],h⟩
  ·rw[List.getElem?_set_ne (Ne.symm z)] at q ⊢
   exact I.slot j s q
 ·have ne:∀{j:Nat} {d':D},(env.set i (Sl.fz d))[j]? =some (.ow d')->j≠i/\env[j]? =some (.ow d'):=fun {j d'} q=>by
   by_cases z:j=i
   ·subst z;rw[List.getElem?_set_self hi] at q;cases q
   ·rw[List.getElem?_set_ne (Ne.symm z)] at q;exact⟨z,q⟩
  obtain⟨n1,e1⟩:=ne q1
  obtain⟨n2,e2⟩:=ne q2
  rw[List.getElem?_set_ne (Ne.symm n1)] at q3
  rw[List.getElem?_set_ne (Ne.symm n2)] at q4
  exact I.sep j k c d1 d2 e1 e2 q3 q4
theorem SR.setOw (I:SR Γ B G H σ env β){i:Nat}(hi:i < env.length){a:Addr}{d:D}(h0:Γ.H0 a=none)(hg:G a=none)(hb:B≠some a)(h:Own Γ.K G H a d)(hn:∀(j:Nat) (d':D),env[j]? =some (.ow d')->j≠i->σ[j]?≠some (some (.ref a))):SR Γ B G H (σ.set i (some (.ref a))) (env.set i (.ow d)) β:=by
 have hs:i < σ.length:=by rw[I.len];exact hi
 refine⟨I.sub,I.old,I.new,I.keep,I.pin,I.fix,I.box,by rw[List.length_set,List.length_set];exact I.len,fun j s q=>?_,fun j k c d1 d2 q1 q2 q3 q4=>?_⟩
 ·by_cases z:j=i
  ·subst z
   rw[List.getElem?_set_self hi] at q
   cases q
   exact⟨a,by rw[List.getElem?_set_self hs],h0,hg,hb,h⟩
  ·rw[List.getElem?_set_ne (Ne.symm z)] at q ⊢
   exact I.slot j s q
 ·by_cases z1:j=i
  ·by_cases z2:k=i
   ·rw[z1,z2]
   ·subst z1
    rw[List.getElem?_set_ne (Ne.symm z2)] at q2 q4
    rw[List.getElem?_set_self hs] at q3
    cases q3
    exact absurd q4 (hn k d2 q2 z2)
  ·by_cases z2:k=i
   ·subst z2
    rw[List.getElem?_set_ne (Ne.symm z1)] at q1 q3
    rw[List.getElem?_set_self hs] at q4
    cases q4
    exact absurd q3 (hn j d1 q1 z1)
   ·rw[List.getElem?_set_ne (Ne.symm z1)] at q1 q3
    rw[List.getElem?_set_ne (Ne.symm z2)] at q2 q4
    exact I.sep j k c d1 d2 q1 q2 q3 q4
theorem SR.fresh (I:SR Γ B G H σ env β){a:Addr}(h:H a=none):Γ.H0 a=none/\G a=none/\B≠some a/\∀(j:Nat) (d:D),env[j]? =some (.ow d)->σ[j]?≠some (some (.ref a)):=by
 have hB:B≠some a:=fun z=>by rw[(I.box a z).1] at h;cases h
 refine⟨?_,I.sub.free h,hB,fun j d e z=>?_⟩
 ·cases e:Γ.H0 a with
  |none=>rfl
  |some o=>exact absurd h (I.there (by rw[e];simp))
 ·obtain⟨c,h1,_,_,_,h5⟩:=I.slot j _ e
  rw[z] at h1
  cases h1
  obtain⟨o,ho⟩:=h5.obj
  rw[h] at ho;cases ho
theorem SR.write (I:SR Γ B G H σ env β)(hb:∀j,Γ.br j=false){i:Nat}{a:Addr}{d d':D}{o:HO}(e:env[i]? =some (.ow d))(ea:σ[i]? =some (some (.ref a)))(h:∀H',H' a=some o->ak G H'->Own Γ.K G H' a d'):SR Γ B G (upd H a o) σ (env.set i (.ow d')) β:=by
 obtain⟨a',h1,h2,h3,h4,h5⟩:=I.slot i _ e
 rw[ea] at h1;cases h1
 have hi:i < env.length:=(List.getElem?_eq_some_iff.mp e).1
 have sub:ak G (upd H a o):=fun b u q=>by rw[az (fun z=>by rw[z,h3] at q;cases q)];exact I.sub b u q
 refine⟨sub,I.old,I.new,fun b u q n=>?_,fun b q=>?_,I.fix,fun b q=>?_,by rw[List.length_set];exact I.len,fun j s q=>?_,fun j k c d1 d2 q1 q2 q3 q4=>?_⟩
 ·rw[az (fun z=>by rw[z,h2] at q;cases q)];exact I.keep b u q n
 ·by_cases z:b=a
  ·subst z;exact (h _ aw sub).mx
  ·exact (I.pin b q).same fun o e=>by rw[az z];exact e
 ·obtain⟨k1,k2,k3⟩:=I.box b q
  exact⟨by rw[az (fun z=>h4 (by rw[<-z];exact q))];exact k1,k2,k3⟩
 ·by_cases z:j=i
  ·subst z
   rw[List.getElem?_set_self hi] at q
   cases q
   exact⟨a,ea,h2,h3,h4,h _ aw sub⟩
  ·rw[List.getElem?_set_ne (Ne.symm z)] at q
   have w:=I.slot j s q
   cases s with
   |no=>trivial
   |fz d1=>exact w
   |ow d1=>
    obtain⟨c,w1,w2,w3,w4,w5⟩:=w
    have ca:c≠a:=fun z2=>z (I.sep j i c d1 d q e w1 (by rw[z2];exact ea))
    exact⟨c,w1,w2,w3,w4,w5.mono (ak.refl _) fun o q=>by rw[az ca];exact q⟩
   |bx=>exact w
   |br d1=>obtain⟨b1,_⟩:=w;rw[hb j] at b1;cases b1
 ·have back:∀{j:Nat} {d1:D},(env.set i (Sl.ow d'))[j]? =some (.ow d1)->∃d2,env[j]? =some (.ow d2):=fun {j d1} q=>by
   by_cases z:j=i
   ·subst z;exact⟨d,e⟩
   ·rw[List.getElem?_set_ne (Ne.symm z)] at q;exact⟨d1,q⟩
  obtain⟨_,b1⟩:=back q1
  obtain⟨_,b2⟩:=back q2
  exact I.sep j k c _ _ b1 b2 q3 q4
end
end L2

end

section
namespace L2
open PySem PySem.Spec PyProof.Rows
inductive R (α:Type) where
 |ok (a:α) (β:Int)
 |exc (c:Str)
 |bad
def R.bnd {α γ:Type}(r:R α)(k:α->Int->R γ):R γ:=match r with
 | .ok a β=>k a β
 | .exc c=>.exc c
 | .bad=>.bad
def R.of {α:Type}(o:Option α)(β:Int):R α:=match o with
 |some a=>.ok a β
 |none=>.bad
abbrev VF (α:Type):=List Nv->Int->R α
def Kp (Γ:Fx)(H':Hp):Prop:=∀b o,Γ.H0 b=some o->b∉Γ.par->H' b=some o
def Out {α:Type}(Γ:Fx)(E:XK)(r:R α)(P:α->Int->Prop):Prop:=match r with
 | .ok a β=>P a β
 | .exc c=>∀H',Kp Γ H'->E (.ref (Γ.ca c)) none H'
 | .bad=>False
section
variable {α γ:Type}{Γ:Fx}{E:XK}
theorem Out.bnd {r:R α}{k:α->Int->R γ}{P:γ->Int->Prop}(h:Out Γ E (r.bnd k) P):Out Γ E r fun a β=>Out Γ E (k a β) P:=by
 cases r with
 |ok a β=>exact h
 |exc c=>exact h
 |bad=>exact h
theorem Out.imp {r:R α}{P P':α->Int->Prop}(h:Out Γ E r P)(i:∀a β,P a β->P' a β):Out Γ E r P':=by
 cases r with
 |ok a β=>exact i a β h
 |exc c=>exact h
 |bad=>exact h
theorem Out.of {o:Option α}{β:Int}{P:α->Int->Prop}(h:Out Γ E (R.of o β) P):∃a,o=some a/\P a β:=by
 cases o with
 |none=>exact h.elim
 |some a=>exact⟨a,rfl,h⟩
end
inductive Md where
 |b |v |w
def VO (K:PySem.W.Frag)(B:Option Addr)(H G' H':Hp):Md->D->V->Prop
 | .b,d,v=>kc K B G' H' v d
 | .v,d,v=>Rp K G' v d
 | .w,d,v=>∃a,v=.ref a/\H a=none/\G' a=none/\Own K G' H' a d
def pT (Γ:Fx)(E:XK)(f:VF D)(L:List Nat)(md:Md):TE:=fun σ H Q=>∃env G B β,SR Γ B G H σ env β/\
 Out Γ E (f (vl env) β) fun d β'=>∀v G' H',SR Γ B G' H' σ (a7 L env) β'->ak G G'->gW B H H'->VO Γ.K B H G' H' md d v->Q v H'
def SE (X:Cx)(Γ:Fx)(E:XK)(e:Expr)(f:VF D)(L:List Nat)(md:Md):Prop:=PE X e (pT Γ E f L md)
def qT (Γ:Fx)(E:XK)(f:VF Bool)(L:List Nat):TT:=fun σ H Q=>∃env G B β,SR Γ B G H σ env β/\
 Out Γ E (f (vl env) β) fun c β'=>∀G' H',SR Γ B G' H' σ (a7 L env) β'->ak G G'->gW B H H'->Q c H'
def xP (X:Cx)(Γ:Fx)(E:XK)(e:Expr)(f:VF Bool)(L:List Nat):Prop:=PT X e (qT Γ E f L)
def qA (X:Cx)(Γ:Fx)(E:XK)(e:Expr)(f:VF Bool)(L:List Nat):Prop:=PW X e (qT Γ E f L)
def aT (Γ:Fx)(E:XK)(f:VF (List D))(L:List Nat):TA:=fun σ H Q=>∃env G B β,SR Γ B G H σ env β/\
 Out Γ E (f (vl env) β) fun ds β'=>∀vs G' H',SR Γ B G' H' σ (a7 L env) β'->ak G G'->gW B H H'->bL Γ.K G' vs ds->Q vs H'
def SA (X:Cx)(Γ:Fx)(E:XK)(es:List Expr)(f:VF (List D))(L:List Nat):Prop:=PA X es (aT Γ E f L)
theorem PE.post' {X:Cx}{e:Expr}{t u:TE}(h:PE X e t)(m:∀σ H Q,u σ H Q->t σ H Q):PE X e u:=fun pins s σ H Q I q=>h pins s σ H Q I (m σ H Q q)
theorem PT.post {X:Cx}{e:Expr}{t u:TT}(h:PT X e t)(m:∀σ H Q,u σ H Q->t σ H Q):PT X e u:=fun pins s σ H Q I q=>h pins s σ H Q I (m σ H Q q)
theorem PW.post {X:Cx}{e:Expr}{t u:TT}(h:PW X e t)(m:∀σ H Q,u σ H Q->t σ H Q):PW X e u:=fun wh pins s σ H Q I q=>h wh pins s σ H Q I (m σ H Q q)
theorem PA.post {X:Cx}{es:List Expr}{t u:TA}(h:PA X es t)(m:∀σ H Q,u σ H Q->t σ H Q):PA X es u:=fun pos pins s σ H Q I q=>h pos pins s σ H Q I (m σ H Q q)
theorem PS.post {X:Cx}{st:Stmt}{t u:TS}(h:PS X st t)(m:∀D σ H,u D σ H->t D σ H):PS X st u:=fun pins s σ H D I q=>h pins s σ H D I (m D σ H q)
def dat:Option Nv->Option D
 |some (.da d)=>some d
 |_=>none
def gv (i:Nat):VF D:=fun vs β=>R.of (dat vs[i]?) β
def cst (d:D):VF D:=fun _ β=>.ok d β
section
variable {X:Cx}{Γ:Fx}{E:XK}{e a b c:Expr}{f fa fb fc:VF D}{L La Lb Lc:List Nat}{md ma mb mc:Md}{pos:Pos}
theorem join_some {o:Option Nv}{d:D}(h:dat o=some d):o=some (.da d):=by
 cases o with
 |none=>cases h
 |some o=>cases o with
  |da x=>cases h;rfl
  |_=>cases h
theorem SR.letIn {B:Option Addr}{G H:Hp}{σ:St}{env:En}{β:Int}(I:SR Γ B G H σ env β){p:Addr}{d:D}(h0:Γ.H0 p=none)(hg:G p=none)(hb:B≠some p)(hn:∀(j:Nat) (d':D),env[j]? =some (.ow d')->σ[j]?≠some (some (.ref p)))(h:Own Γ.K G H p d) :
  ∃G',SR Γ B G' H σ env β/\ak G G'/\Rp Γ.K G' (.ref p) d:=by
 obtain⟨o,ho⟩:=h.obj
 have sG:ak G (upd G p o):=ak.new hg
 refine⟨upd G p o,⟨fun b u q=>?_,I.old.trans sG,fun b n1 n2=>?_,I.keep,I.pin,I.fix,fun b q=>?_,I.len,fun j s q=>?_,I.sep⟩,sG,h.rp hg sG fun o' q=>by rw[ho] at q;cases q;exact aw⟩
 ·by_cases z:b=p
  ·subst z;rw[aw] at q;cases q;exact ho
  ·rw[az z] at q;exact I.sub b u q
 ·rw[az (fun z=>n1.1 (by rw[z];exact h0))];exact I.new b n1 n2
 ·obtain⟨k1,k2,k3⟩:=I.box b q
  exact⟨k1,by rw[az (fun z=>hb (by rw[<-z];exact q))];exact k2,k3⟩
 ·have w:=I.slot j s q
  cases s with
  |no=>trivial
  |fz d'=>obtain⟨v,w1,w2⟩:=w;exact⟨v,w1,w2.mono sG⟩
  |ow d'=>
   obtain⟨c,w1,w2,w3,w4,w5⟩:=w
   have ca:c≠p:=fun z2=>hn j d' q (by rw[<-z2];exact w1)
   exact⟨c,w1,w2,by rw[az ca];exact w3,w4,w5.mono sG fun o q=>q⟩
  |bx=>exact w
  |br d'=>obtain⟨b1,c,w1,w4,wp,w5⟩:=w;exact⟨b1,c,w1,w4,wp,w5.mono sG fun o q=>q⟩
theorem vm {env:En}{i j:Nat}{d:D}(h:(iq env i)[j]? =some (.ow d)):env[j]? =some (.ow d):=by
 unfold iq at h
 split at h
 ·rename_i d' e
  by_cases z:i=j
  ·subst z
   rw[List.getElem?_set_self (List.getElem?_eq_some_iff.mp e).1] at h;cases h
  ·rw[List.getElem?_set_ne z] at h;exact h
 ·exact h
theorem qI {L:List Nat}{env:En}{j:Nat}{d:D}(h:(a7 L env)[j]? =some (.ow d)):env[j]? =some (.ow d):=by
 unfold a7 at h
 induction L generalizing env with
 |nil=>exact h
 |cons i L ih=>exact vm (ih h)
theorem SR.letW {B:Option Addr}{G H G' H':Hp}{σ:St}{env:En}{β β':Int}{L:List Nat}{d:D}{v:V}(I:SR Γ B G H σ env β)(I':SR Γ B G' H' σ (L2.a7 L env) β')(h:VO Γ.K B H G' H' .w d v):∃G2,SR Γ B G2 H' σ (L2.a7 L env) β'/\ak G' G2/\Rp Γ.K G2 v d:=by
 obtain⟨p,rfl,h1,h2,h3⟩:=h
 obtain⟨q1,q2,q3,q4⟩:=I.fresh h1
 exact I'.letIn q1 h2 q3 (fun j d' e=>q4 j d' (qI e)) h3
theorem SE.wv (h:SE X Γ E e f L .w):SE X Γ E e f L .v:=by
 refine PE.post' h fun σ H Q ⟨env,G,B,β,I,o⟩=>⟨env,G,B,β,I,o.imp fun d β' k v G' H' I' s m vo=>?_⟩
 obtain⟨G2,I2,s2,r⟩:=I.letW I' vo
 exact k v G2 H' I2 (s.trans s2) m r
theorem VO.brw {B:Option Addr}{H G' H':Hp}{d:D}{v:V}{K:PySem.W.Frag}(h:VO K B H G' H' md d v)(hB:∀x,B=some x->H x≠none):kc K B G' H' v d:=by
 cases md with
 |b=>exact h
 |v=>exact .inl h
 |w=>
  obtain⟨p,rfl,h1,h2,h3⟩:=h
  exact .inr ⟨p,rfl,fun z=>hB p z h1,h3⟩
theorem SR.boxThere {B:Option Addr}{G H:Hp}{σ:St}{env:En}{β:Int}(I:SR Γ B G H σ env β):∀x,B=some x->H x≠none:=fun x e=>by rw[(I.box x e).1];simp
theorem ag (i:Nat){x:Str}(hN:X.N[i]? =some x:=by rfl)(hv:tM X.env.scope x:=by first |exact Or.inl rfl |exact Or.inr (Or.inl rfl) |exact Or.inr (Or.inr rfl))(hd:(x == ("__debug__":Str))=false:=by decide)
  (hcd:(x == ("__classdict__":Str))=false:=by decide):SE X Γ E (.Name x pos) (gv i) [] .b:=by
 refine PE.post' (hJ hN hv hd hcd) fun σ H Q ⟨env,G,B,β,I,o⟩=>?_
 obtain⟨d,e,k⟩:=o.of
 have e:=join_some e
 rcases Cj e with q |q |q
 ·obtain⟨v,h1,h2⟩:=I.slot i _ q
  exact⟨v,h1,k v G H I (ak.refl _) (gW.refl _ _) (.inl h2)⟩
 ·obtain⟨p,h1,h2,h3,h4,h5⟩:=I.slot i _ q
  exact⟨.ref p,h1,k _ G H I (ak.refl _) (gW.refl _ _) (.inr ⟨p,rfl,h4,h5⟩)⟩
 ·obtain⟨_,p,h1,h4,_,h5⟩:=I.slot i _ q
  exact⟨.ref p,h1,k _ G H I (ak.refl _) (gW.refl _ _) (.inr ⟨p,rfl,h4,h5⟩)⟩
theorem aB (i:Nat)(hb:Γ.br i=false){x:Str}(hN:X.N[i]? =some x:=by rfl)(hv:tM X.env.scope x:=by first |exact Or.inl rfl |exact Or.inr (Or.inl rfl) |exact Or.inr (Or.inr rfl))(hd:(x == ("__debug__":Str))=false:=by decide)
  (hcd:(x == ("__classdict__":Str))=false:=by decide):SE X Γ E (.Name x pos) (gv i) [i] .v:=by
 refine PE.post' (hJ hN hv hd hcd) fun σ H Q ⟨env,G,B,β,I,o⟩=>?_
 obtain⟨d,e,k⟩:=o.of
 obtain⟨G',v,I',s,h1,h2⟩:=I.freeze i hb (join_some e)
 exact⟨v,h1,k v G' H I' s (gW.refl _ _) h2⟩
theorem yE {v:V}{d:D}(h:PE X e (tC v))(r:∀G,Rp Γ.K G v d):SE X Γ E e (cst d) [] .v:=by
 refine PE.post' h fun σ H Q ⟨env,G,B,β,I,o⟩=>?_
 exact o v G H I (ak.refl _) (gW.refl _ _) (r G)
theorem av {i:Int}{j}:SE X Γ E (.Constant (.int i) j pos) (cst (.int i)) [] .v:=yE n5 fun _=>.int i
theorem ij {i:Bool}{j}:SE X Γ E (.Constant (.bool i) j pos) (cst (.bool i)) [] .v:=yE uP fun _=>.bl i
theorem DA {j}:SE X Γ E (.Constant .none j pos) (cst .none) [] .v:=yE Ec fun _=>.non
theorem zb {x:Str}{j}:SE X Γ E (.Constant (.str x) j pos) (cst (.str x)) [] .v:=yE zd fun _=>.str x
theorem A2 {x:Str}{i:Int}{t:Tok}(hg:Gl X x)(hm:X.mg x=some (.int i t))(hd:(x == ("__debug__":Str))=false:=by decide):SE X Γ E (.Name x pos) (cst (.int i)) [] .v:=yE (BR hg hm (show RelV (.int i) _ from⟨_,rfl⟩) hd) fun _=>.int i
theorem two {W:V->V->Hp->Prop}{B:Option Addr}{G H:Hp}{σ:St}{env:En}{β:Int}(I:SR Γ B G H σ env β)
  (h:Out Γ E (fa (vl env) β) fun d1 β1=>Out Γ E (fb (vl env) β1) fun d2 β2=>∀x y G2 H2,SR Γ B G2 H2 σ (a7 (La ++ Lb) env) β2->ak G G2->gW B H H2->kc Γ.K B G2 H2 x d1->kc Γ.K B G2 H2 y d2->W x y H2) :
  pT Γ E fa La ma σ H fun x H1=>pT Γ E fb Lb mb σ H1 fun y H2=>W x y H2:=by
 refine⟨env,G,B,β,I,h.imp fun d1 β1 h x G1 H1 I1 s1 m1 vx=>⟨a7 La env,G1,B,β1,I1,?_⟩⟩
 rw[gm]
 refine h.imp fun d2 β2 k y G2 H2 I2 s2 m2 vy=>?_
 refine k x y G2 H2 (by rw[cI];exact I2) (s1.trans s2) (m1.trans m2) ((vx.brw I.boxThere).mono s2 m2) (vy.brw I1.boxThere)
def lY (K:PySem.W.Frag)(r:R2)(g:D->D->Option D)(md:Md):Prop:=∀(B:Option Addr) (G H:Hp) (x y:V) (dx dy d:D) (Q:VK),ak G H->(∀x,B=some x->H x≠none)->kc K B G H x dx->kc K B G H y dy->g dx dy=some d->
 (∀v G' H',Ext G H G' H'->VO K B H G' H' md d v->Q v H')->r x y H Q
def f2 (fa fb:VF D)(g:D->D->Option D):VF D:=fun vs β=>(fa vs β).bnd fun x β1=>(fb vs β1).bnd fun y β2=>R.of (g x y) β2
theorem dQ {B:Option Addr}{H H2:Hp}(m:gW B H H2)(hB:∀x,B=some x->H2 x≠none){p:Addr}(h:H2 p=none):H p=none:=by
 cases e:H p with
 |none=>rfl
 |some o=>rw[m p o e fun z=>hB p z h] at h;cases h
theorem VO.back {K:PySem.W.Frag}{B:Option Addr}{H H2 G' H':Hp}{d:D}{v:V}(h:VO K B H2 G' H' md d v)(m:gW B H H2)(hB:∀x,B=some x->H2 x≠none):VO K B H G' H' md d v:=by
 cases md with
 |b=>exact h
 |v=>exact h
 |w=>obtain⟨p,e,h1,h2,h3⟩:=h;exact⟨p,e,dQ m hB h1,h2,h3⟩
theorem ky {r:R2}{g:D->D->Option D}{Q:VK}(pr:lY Γ.K r g md){B:Option Addr}{G H:Hp}{σ:St}{env:En}{β:Int}(I:SR Γ B G H σ env β)
  (h:Out Γ E (f2 fa fb g (vl env) β) fun d β'=>∀v G' H',SR Γ B G' H' σ (a7 (La ++ Lb) env) β'->ak G G'->gW B H H'->VO Γ.K B H G' H' md d v->Q v H') :
  pT Γ E fa La ma σ H fun x H1=>pT Γ E fb Lb mb σ H1 fun y H2=>r x y H2 Q:=by
 refine two I (h.bnd.imp fun d1 β1 h=>h.bnd.imp fun d2 β2 h x y G2 H2 I2 s2 m2 bx by'=>?_)
 obtain⟨d,e,k⟩:=h.of
 refine pr B G2 H2 x y d1 d2 d Q I2.sub I2.boxThere bx by' e fun v G' H' x' vo=>?_
 exact k v G' H' (I2.ext x') (s2.trans x'.gg) (m2.trans (x'.hh.mov B)) (vo.back m2 I2.boxThere)
theorem aV {op:Operator}{r:R2}{g:D->D->Option D}(ho:lF X (binaryOp op) r)(pr:lY Γ.K r g md)(ha:SE X Γ E a fa La ma)(hb:SE X Γ E b fb Lb mb):SE X Γ E (.BinOp a op b pos) (f2 fa fb g) (La ++ Lb) md:=
 PE.post' (rK ho ha hb) fun σ H Q ⟨env,G,B,β,I,o⟩=>ky pr I o
theorem iU {op:CmpOp}{r:R2}{g:D->D->Option D}(ho:lF X (compareOp op) r)(pr:lY Γ.K r g md)(ha:SE X Γ E a fa La ma)(hb:SE X Γ E b fb Lb mb)(hm:behindInMarks op b=false):SE X Γ E (.Compare a [op] [b] pos) (f2 fa fb g) (La ++ Lb) md:=
 PE.post' (Ca ho ha hb hm) fun σ H Q ⟨env,G,B,β,I,o⟩=>ky pr I o
theorem bc {r:R2}{g:D->D->Option D}(hr:yY X r)(pr:lY Γ.K r g md)(ha:SE X Γ E a fa La ma)(hb:SE X Γ E b fb Lb mb)(hs:vE b):SE X Γ E (.Subscript a b pos) (f2 fa fb g) (La ++ Lb) md:=
 PE.post' (jU hr ha hb hs) fun σ H Q ⟨env,G,B,β,I,o⟩=>ky pr I o
def xR (K:PySem.W.Frag)(r:V->Hp->VK->Prop)(g:D->Option D)(md:Md):Prop:=∀(B:Option Addr) (G H:Hp) (x:V) (dx d:D) (Q:VK),ak G H->(∀x,B=some x->H x≠none)->kc K B G H x dx->g dx=some d->
 (∀v G' H',Ext G H G' H'->VO K B H G' H' md d v->Q v H')->r x H Q
def f1 (fa:VF D)(g:D->Option D):VF D:=fun vs β=>(fa vs β).bnd fun x β1=>R.of (g x) β1
theorem gQ {r:V->Hp->VK->Prop}{g:D->Option D}{Q:VK}(pr:xR Γ.K r g md){B:Option Addr}{G H:Hp}{σ:St}{env:En}{β:Int}(I:SR Γ B G H σ env β)
  (h:Out Γ E (f1 fa g (vl env) β) fun d β'=>∀v G' H',SR Γ B G' H' σ (a7 La env) β'->ak G G'->gW B H H'->VO Γ.K B H G' H' md d v->Q v H') :
  pT Γ E fa La ma σ H fun x H1=>r x H1 Q:=by
 refine⟨env,G,B,β,I,h.bnd.imp fun d1 β1 h x G1 H1 I1 s1 m1 vx=>?_⟩
 obtain⟨d,e,k⟩:=h.of
 refine pr B G1 H1 x d1 d Q I1.sub I1.boxThere (vx.brw I.boxThere) e fun v G' H' x' vo=>?_
 exact k v G' H' (I1.ext x') (s1.trans x'.gg) (m1.trans (x'.hh.mov B)) (vo.back m1 I1.boxThere)
theorem CK {op:UnaryOp}{r:V->Hp->VK->Prop}{g:D->Option D}(ho:FQ X (unaryOp op) r)(pr:xR Γ.K r g md)(ha:SE X Γ E a fa La ma):SE X Γ E (.UnaryOp op a pos) (f1 fa g) La md:=
 PE.post' (Cg ho ha) fun σ H Q ⟨env,G,B,β,I,o⟩=>gQ pr I o
theorem aS {id:String}{r:List V->Hp->VK->Prop}{g:D->Option D}{x:Str}{p:Pos}(hc:cJ X (.builtin id) r)(pr:xR Γ.K (fun x=>r [x]) g md)(hg:Gl X x)(hm:X.mg x=none)(hv:bootBuiltins x=some (.builtin id))(ha:SE X Γ E a fa La ma)(hn:x≠"__name__":=by decide)(hdb:(x == ("__debug__":Str))=false:=by decide)
  (he:starEach [a] X.env=(false,eval a X.env) :: starEach [] X.env:=by rfl):SE X Γ E (.Call (.Name x p) [a] [] pos) (f1 fa g) La md:=
 PE.post' (ik hc hg hm hv (aJ ha bg he) hn hdb he) fun σ H Q ⟨env,G,B,β,I,o⟩=>gQ (r:=fun x=>r [x]) pr I o
theorem c9 {id:String}{r:List V->Hp->VK->Prop}{g:D->Option D}{x:Str}{p:Pos}(hc:cJ X (.type id) r)(pr:xR Γ.K (fun x=>r [x]) g md)(hg:Gl X x)(hm:X.mg x=none)(hv:bootBuiltins x=some (.type id))(ha:SE X Γ E a fa La ma)(hn:x≠"__name__":=by decide)(hdb:(x == ("__debug__":Str))=false:=by decide)
  (he:starEach [a] X.env=(false,eval a X.env) :: starEach [] X.env:=by rfl):SE X Γ E (.Call (.Name x p) [a] [] pos) (f1 fa g) La md:=
 PE.post' (fU hc hg hm hv (aJ ha bg he) hn hdb he) fun σ H Q ⟨env,G,B,β,I,o⟩=>gQ (r:=fun x=>r [x]) pr I o
theorem sJ {id:String}{r:List V->Hp->VK->Prop}{g:D->D->Option D}{x:Str}{p:Pos}(hc:cJ X (.builtin id) r)(pr:lY Γ.K (fun x y=>r [x,y]) g md)(hg:Gl X x)(hm:X.mg x=none)(hv:bootBuiltins x=some (.builtin id))(ha:SE X Γ E a fa La ma)(hb:SE X Γ E b fb Lb mb)(hn:x≠"__name__":=by decide)(hdb:(x == ("__debug__":Str))=false:=by decide)
  (he:starEach [a,b] X.env=(false,eval a X.env) :: starEach [b] X.env:=by rfl) (he2:starEach [b] X.env=(false,eval b X.env) :: starEach [] X.env:=by rfl) (hpl:(backTo pos (starEach [b] X.env)).any (·.1)=false:=by rfl):SE X Γ E (.Call (.Name x p) [a,b] [] pos) (f2 fa fb g) (La ++ Lb) md:=
 PE.post' (ik hc hg hm hv (aJ ha (aJ hb bg he2) he) hn hdb he hpl) fun σ H Q ⟨env,G,B,β,I,o⟩=>ky (r:=fun x y=>r [x,y]) pr I o
def fg (fa fb:VF D):VF D:=fun vs β=>(fa vs β).bnd fun x β1=>match x with
 | .bool true=>fb vs β1
 | .bool false=>.ok (.bool false) β1
 |_=>.bad
theorem iC {op}(h:SE X Γ E a fa La md):SE X Γ E (.BoolOp op [a] pos) fa La md:=DI h
theorem iP {rest:List Expr}(ha:SE X Γ E a fa La ma)(hb:SE X Γ E (.BoolOp .And (b :: rest) pos) fb Lb .v)(hbr:∀i,i∈Lb->Γ.br i=false):SE X Γ E (.BoolOp .And (a :: b :: rest) pos) (fg fa fb) (La ++ Lb) .v:=by
 refine PE.post' (C4 ha hb) fun σ H Q ⟨env,G,B,β,I,o⟩=>?_
 refine⟨env,G,B,β,I,o.bnd.imp fun d1 β1 h x G1 H1 I1 s1 m1 vx=>?_⟩
 have bx:=vx.brw I.boxThere
 cases d1 with
 |bool c=>
  obtain rfl:=bx.bool
  refine⟨c,rfl,?_⟩
  cases c with
  |true=>exact si ⟨_,G1,B,β1,I1,by rw[gm];exact h.imp fun d β' k v G' H' I' s' m' vo=>k v G' H' (by rw[cI];exact I') (s1.trans s') (m1.trans m') vo⟩
  |false=>
   obtain⟨G2,I2,s2⟩:=I1.a7 Lb hbr
   exact rj (h _ G2 H1 (by rw[cI];exact I2) (s1.trans s2) m1 (.bl false))
 |_=>exact h.elim
def vX:D->Option D
 | .bool c=>some (.bool (!c))
 |_=>none
theorem ua (ha:SE X Γ E a fa La ma):SE X Γ E (.UnaryOp .Not a pos) (f1 fa vX) La .v:=by
 refine PE.post' (DN ha) fun σ H Q ⟨env,G,B,β,I,o⟩=>?_
 refine gQ (r:=fun x H1 Q=>∃c,x=.bl c/\Q (.bl (!c)) H1) ?_ I o
 intro B G H x dx d Q s hB bx e k
 cases dx with
 |bool c=>
  obtain rfl:=bx.bool
  cases e
  exact⟨c,rfl,k _ G H (Ext.refl s) (.bl _)⟩
 |_=>cases e
def DC:D->Option Bool
 | .none=>some false
 | .bool b=>some b
 | .int i=>some (i != 0)
 | .str y=>if y.length<=sizeLine then some ((y.length:Int) != 0) else none
 | .list ds=>some (!ds.isEmpty)
 | .tuple ds=>some (!ds.isEmpty)
 | .dict _=>none
def jT (fa:VF D):VF Bool:=fun vs β=>(fa vs β).bnd fun x β1=>R.of (DC x) β1
theorem lN {K:PySem.W.Frag}{G:Hp}{xs:List V}{ds:List D}(r:bL K G xs ds):(!ds.isEmpty)= !xs.isEmpty:=by cases r <;> rfl
theorem c4 (hK:X.K=Γ.K)(ha:SE X Γ E a fa La ma)(he:∀whole,isTrue a X.env whole=(do let v <-whole;standAt a.pos;holding [v] (truthy v)):=by intro _;rfl):xP X Γ E a (jT fa) La:=by
 refine PT.post (yC ha he) fun σ H Q ⟨env,G,B,β,I,o⟩=>?_
 refine⟨env,G,B,β,I,o.bnd.imp fun d1 β1 h x G1 H1 I1 s1 m1 vx=>?_⟩
 obtain⟨c,e,k⟩:=h.of
 have bx:=vx.brw I.boxThere
 refine⟨c,?_,k G1 H1 I1 s1 m1⟩
 rw[hK]
 cases d1 with
 |none=>obtain rfl:=bx.none;cases e;rfl
 |bool b=>obtain rfl:=bx.bool;cases e;rfl
 |int i=>obtain rfl:=bx.int;cases e;rfl
 |str y=>
  obtain rfl:=bx.str
  simp only[DC] at e
  split at e
  ·cases e;exact⟨by assumption,rfl⟩
  ·cases e
 |list ds=>obtain⟨p,xs,rfl,hq,r⟩:=bx.list I1.sub;cases e;exact .inl ⟨xs,.inl hq,lN r⟩
 |tuple ds=>obtain⟨p,xs,rfl,hq,r⟩:=bx.tuple I1.sub;cases e;exact .inr (.inl ⟨xs,hq,lN r⟩)
 |dict ds=>cases e
def c5 (fa:VF D):VF Bool:=fun vs β=>(fa vs β).bnd fun x β1=>match x with
 | .bool c=>.ok c β1
 |_=>.bad
theorem cf {op:CmpOp}{r:R2}{g:D->D->Option D}(ho:lF X (compareOp op) r)(pr:lY Γ.K r g .v)(ha:SE X Γ E a fa La ma)(hb:SE X Γ E b fb Lb mb)(hm:behindInMarks op b=false):xP X Γ E (.Compare a [op] [b] pos) (c5 (f2 fa fb g)) (La ++ Lb):=by
 refine PT.post (BK ho ha hb hm) fun σ H Q ⟨env,G,B,β,I,o⟩=>?_
 refine ky pr I (o.bnd.imp fun d β' h v G' H' I' s' m' vo=>?_)
 cases d with
 |bool c=>cases vo;exact⟨c,rfl,h G' H' I' s' m'⟩
 |_=>exact h.elim
def lK (t:VF Bool):VF Bool:=fun vs β=>(t vs β).bnd fun c β1=>.ok (!c) β1
def yL (t u:VF Bool):VF Bool:=fun vs β=>(t vs β).bnd fun c β1=>if c=true then u vs β1 else .ok false β1
def iy (t u:VF Bool):VF Bool:=fun vs β=>(t vs β).bnd fun c β1=>if c=true then .ok true β1 else u vs β1
variable {ta tb tc:VF Bool}
theorem dg (ha:xP X Γ E a ta La):xP X Γ E (.UnaryOp .Not a pos) (lK ta) La:=by
 refine PT.post (CV ha) fun σ H Q ⟨env,G,B,β,I,o⟩=>?_
 exact⟨env,G,B,β,I,o.bnd.imp fun c β1 h=>h⟩
theorem qA.t (h:qA X Γ E e ta La):xP X Γ E e ta La:=PW.pt h
theorem vO (ha:xP X Γ E a ta La):qA X Γ E (.BoolOp .And [a] pos) ta La:=vj ha
theorem i3 (ha:xP X Γ E a ta La):qA X Γ E (.BoolOp .Or [a] pos) ta La:=DV ha
theorem xU {rest:List Expr}(ha:xP X Γ E a ta La)(hb:qA X Γ E (.BoolOp .And (b :: rest) pos) tb Lb)(hbr:∀i,i∈Lb->Γ.br i=false):qA X Γ E (.BoolOp .And (a :: b :: rest) pos) (yL ta tb) (La ++ Lb):=by
 refine PW.post (xT ha hb) fun σ H Q ⟨env,G,B,β,I,o⟩=>?_
 refine⟨env,G,B,β,I,o.bnd.imp fun c β1 h G1 H1 I1 s1 m1=>?_⟩
 cases c with
 |true=>exact si ⟨_,G1,B,β1,I1,by rw[gm];exact Out.imp h fun d β' k G' H' I' s' m'=>k G' H' (by rw[cI];exact I') (s1.trans s') (m1.trans m')⟩
 |false=>
  obtain⟨G2,I2,s2⟩:=I1.a7 Lb hbr
  exact rj (h G2 H1 (by rw[cI];exact I2) (s1.trans s2) m1)
theorem jV {rest:List Expr}(ha:xP X Γ E a ta La)(hb:qA X Γ E (.BoolOp .Or (b :: rest) pos) tb Lb)(hbr:∀i,i∈Lb->Γ.br i=false):qA X Γ E (.BoolOp .Or (a :: b :: rest) pos) (iy ta tb) (La ++ Lb):=by
 refine PW.post (EJ ha hb) fun σ H Q ⟨env,G,B,β,I,o⟩=>?_
 refine⟨env,G,B,β,I,o.bnd.imp fun c β1 h G1 H1 I1 s1 m1=>?_⟩
 cases c with
 |true=>
  obtain⟨G2,I2,s2⟩:=I1.a7 Lb hbr
  exact si (h G2 H1 (by rw[cI];exact I2) (s1.trans s2) m1)
 |false=>exact rj ⟨_,G1,B,β1,I1,by rw[gm];exact Out.imp h fun d β' k G' H' I' s' m'=>k G' H' (by rw[cI];exact I') (s1.trans s') (m1.trans m')⟩
def Hx (t:VF Bool)(fa fb:VF D):VF D:=fun vs β=>(t vs β).bnd fun c β1=>if c=true then fa vs β1 else fb vs β1
def ah:VF (List D):=fun _ β=>.ok [] β
def ae (fa:VF D)(fr:VF (List D)):VF (List D):=fun vs β=>(fa vs β).bnd fun x β1=>(fr vs β1).bnd fun xs β2=>.ok (x :: xs) β2
variable {fr:VF (List D)}{es:List Expr}
theorem ar:SA X Γ E [] ah []:=PA.post bg fun σ H Q ⟨env,G,B,β,I,o⟩=>o [] G H I (ak.refl _) (gW.refl _ _) .nil
theorem af (ha:SE X Γ E a fa La .v)(hr:SA X Γ E es fr Lb)(hs:starEach (a :: es) X.env=(false,eval a X.env) :: starEach es X.env:=by rfl):SA X Γ E (a :: es) (ae fa fr) (La ++ Lb):=by
 refine PA.post (aJ ha hr hs) fun σ H Q ⟨env,G,B,β,I,o⟩=>?_
 refine⟨env,G,B,β,I,o.bnd.imp fun d1 β1 h x G1 H1 I1 s1 m1 vx=>⟨a7 La env,G1,B,β1,I1,?_⟩⟩
 rw[gm]
 refine h.bnd.imp fun ds β2 k xs G2 H2 I2 s2 m2 r=>?_
 exact k (x :: xs) G2 H2 (by rw[cI];exact I2) (s1.trans s2) (m1.trans m2) (.cons (vx.mono s2) r)
def aX (fr:VF (List D)):VF D:=fun vs β=>(fr vs β).bnd fun ds β1=>if ds.length<=sizeLine then .ok (.tuple ds) β1 else .bad
def ba (fr:VF (List D)):VF D:=fun vs β=>(fr vs β).bnd fun ds β1=>if ds.length<=sizeLine then .ok (.list ds) β1 else .bad
theorem cp {x1}(h:SA X Γ E es fr L):SE X Γ E (.Tuple es x1 pos) (aX fr) L .v:=by
 refine PE.post' (ui h) fun σ H Q ⟨env,G,B,β,I,o⟩=>?_
 refine⟨env,G,B,β,I,o.bnd.imp fun ds β1 k xs G1 H1 I1 s1 m1 r=>?_⟩
 by_cases hz:ds.length<=sizeLine
 ·rw[if_pos hz] at k
  refine⟨by rw[r.len];exact hz,fun p hp=>?_⟩
  have x:=Ext.new I1.sub (o:=.tup xs) hp
  exact k _ _ _ (I1.ext x) (s1.trans x.gg) (m1.trans (x.hh.mov B)) (.tup (.inl (.inl aw)) (r.mono x.gg))
 ·rw[if_neg hz] at k;exact k.elim
theorem bM (h:SA X Γ E es fr L):SE X Γ E (.List es pos) (ba fr) L .w:=by
 refine PE.post' (zG h) fun σ H Q ⟨env,G,B,β,I,o⟩=>?_
 refine⟨env,G,B,β,I,o.bnd.imp fun ds β1 k xs G1 H1 I1 s1 m1 r=>?_⟩
 by_cases hz:ds.length<=sizeLine
 ·rw[if_pos hz] at k
  refine⟨by rw[r.len];exact hz,fun p hp=>?_⟩
  have x:=Ext.own I1.sub (o:=.lst xs) hp
  exact k _ _ _ (I1.ext x) s1 (m1.trans (x.hh.mov B)) ⟨p,rfl,dQ m1 I1.boxThere hp,I1.sub.free hp,xs,aw,r⟩
 ·rw[if_neg hz] at k;exact k.elim
inductive FR where
 |ok (d:D) (fresh:Bool)
 |exc (c:Str)
 |bad
def FV (K:PySem.W.Frag)(H G' H':Hp)(fr:Bool)(d:D)(v:V):Prop:=if fr=true then ∃a,v=.ref a/\H a=none/\G' a=none/\Own K G' H' a d else Rp K G' v d
def AB (K:PySem.W.Frag)(ca:Str->Addr)(n:Nat)(F:List D->FR):Sp:=fun vs H Q E=>∃G ds,ak G H/\ds.length=n/\bL K G vs ds/\match F ds with
 | .ok d fr=>∀v G' H',ak H H'->ak G G'->ak G' H'->(∀b,Mx H b->G b=none->G' b=none)->FV K H G' H' fr d v->Q v H'
 | .exc c=>∀H',ak H H'->E (.ref (ca c)) none H'
 | .bad=>False
structure fV (P:Program)(w:World)(K:PySem.W.Frag)(mg:Str->Option Value)(base:Heap)(ca:Str->Addr)(x:Str)(ps:List Str)(k:Nat)(F:List D->FR):Prop where
 ex:∃f fd,mg x=some (.ref f)/\PySem.W.keepIn K (.ref f)=true/\Binds K fd ps []/\fx P w K mg base (l5 P w) k f fd ps (AB K ca ps.length F)
 len:∀ds,F ds≠.bad->ds.length=ps.length
def aE (F:List D->FR)(fr:VF (List D)):VF D:=fun vs β=>(fr vs β).bnd fun ds β1=>match F ds with
 | .ok d _=>.ok d β1
 | .exc c=>.exc c
 | .bad=>.bad
def o9 (F:List D->FR)(fr:VF (List D)):VF D:=fun vs β=>(fr vs β).bnd fun ds β1=>match F ds with
 | .ok d true=>.ok d β1
 | .ok _ false=>.bad
 | .exc c=>.exc c
 | .bad=>.bad
theorem SR.called {B:Option Addr}{G1 H1 G2 H2:Hp}{σ:St}{env:En}{β:Int}(I1:SR Γ B G1 H1 σ env β)(h:ak H1 H2)(g:ak G1 G2)(s:ak G2 H2)(n:∀b,Mx H1 b->G1 b=none->G2 b=none):SR Γ B G2 H2 σ env β/\gW B H1 H2:=by
 refine⟨⟨s,I1.old.trans g,fun b n1 n2=>?_,fun b o e np=>h b o (I1.keep b o e np),fun b hb=>?_,I1.fix,fun b e=>?_,I1.len,fun i t e=>?_,I1.sep⟩,h.mov B⟩
 ·exact n b (I1.thereM n1) (I1.new b n1 n2)
 ·exact (I1.pin b hb).same fun o e=>h b o e
 ·obtain⟨h1,h2,h3⟩:=I1.box b e
  exact⟨h b _ h1,n b (Mx.lst h1) h2,h3⟩
 ·have q:=I1.slot i t e
  cases t with
  |no=>trivial
  |fz d=>obtain⟨v,h1,h2⟩:=q;exact⟨v,h1,h2.mono g⟩
  |ow d=>
   obtain⟨p,h1,h2,h3,h4,h5⟩:=q
   exact⟨p,h1,h2,n p h5.mx h3,h4,h5.mono g fun o q=>h p o q⟩
  |bx=>exact q
  |br d=>obtain⟨b1,p,h1,h4,hp,h5⟩:=q;exact⟨b1,p,h1,h4,hp,h5.mono g fun o q=>h p o q⟩
theorem SR.kp {B:Option Addr}{G H H':Hp}{σ:St}{env:En}{β:Int}(I:SR Γ B G H σ env β)(h:ak H H'):Kp Γ H':=fun b o e n=>h b o (I.keep b o e n)
theorem pz {F:List D->FR}{ps:List Str}{Q:VK}{B:Option Addr}{G H:Hp}{σ:St}{env:En}{β:Int}(I:SR Γ B G H σ env β)(hK:X.K=Γ.K){wv:Bool}
  (h:Out Γ E (if wv=true then o9 F fr (vl env) β else aE F fr (vl env) β) fun d β'=>∀v G' H',SR Γ B G' H' σ (a7 L env) β'->ak G G'->gW B H H'->VO Γ.K B H G' H' (if wv=true then .w else .v) d v->Q v H') (hl:∀ds,F ds≠.bad->ds.length=ps.length) :
  aT Γ E fr L σ H fun vs H1=>AB X.K Γ.ca ps.length F vs H1 Q E:=by
 refine⟨env,G,B,β,I,?_⟩
 have h:Out Γ E (fr (vl env) β) fun ds β1=>Out Γ E (match F ds with
   | .ok d true=>.ok d β1
   | .ok d false=>if wv=true then .bad else .ok d β1
   | .exc c=>.exc c
   | .bad=>.bad) fun d β'=>∀v G' H',SR Γ B G' H' σ (a7 L env) β'->ak G G'->gW B H H'->VO Γ.K B H G' H' (if wv=true then .w else .v) d v->Q v H':=by
  cases wv with
  |true=>
   simp only[if_true] at h ⊢
   refine h.bnd.imp fun ds β1 h=>?_
   cases q:F ds with
   |ok d b=>rw[q] at h;cases b <;> exact h
   |exc c=>rw[q] at h;exact h
   |bad=>rw[q] at h;exact h
  |false=>
   simp only[Bool.false_eq_true,if_false] at h ⊢
   refine h.bnd.imp fun ds β1 h=>?_
   cases q:F ds with
   |ok d b=>rw[q] at h;cases b <;> exact h
   |exc c=>rw[q] at h;exact h
   |bad=>rw[q] at h;exact h
 refine h.imp fun ds β1 k vs G1 H1 I1 s1 m1 r=>?_
 refine⟨G1,ds,I1.sub,?_,by rw[hK];exact r,?_⟩
 ·exact hl ds fun z=>by rw[z] at k;exact k
 cases q:F ds with
 |bad=>rw[q] at k;exact k
 |exc c=>rw[q] at k;exact fun H' s=>k H' (I1.kp s)
 |ok d b=>
  rw[q] at k
  intro v G' H' hh hg hs hn fv
  obtain⟨I2,m2⟩:=I1.called hh hg hs hn
  cases b with
  |true=>
   obtain⟨p,rfl,p1,p2,p3⟩:∃a,v=.ref a/\H1 a=none/\G' a=none/\Own X.K G' H' a d:=fv
   rw[hK] at p3
   have hp:=dQ m1 I1.boxThere p1
   cases wv with
   |true=>exact k _ G' H' I2 (s1.trans hg) (m1.trans m2) ⟨p,rfl,hp,p2,p3⟩
   |false=>
    obtain⟨q1,q2,q3,q4⟩:=I1.fresh p1
    obtain⟨G3,I3,s3,r3⟩:=I2.letIn q1 p2 q3 q4 p3
    exact k _ G3 H' I3 ((s1.trans hg).trans s3) (m1.trans m2) r3
  |false=>
   cases wv with
   |true=>exact k.elim
   |false=>
    have fv:Rp X.K G' v d:=fv
    rw[hK] at fv
    exact k _ G' H' I2 (s1.trans hg) (m1.trans m2) fv
theorem aY {x:Str}{ps:List Str}{k:Nat}{F:List D->FR}{p:Pos}(hf:fV X.prog X.w X.K X.mg X.base Γ.ca x ps k F)(hr:eJ k X.A)(hx:Passes (l5 X.prog X.w) X E)(hK:X.K=Γ.K)(hg:Gl X x)(ha:SA X Γ E (a :: es) fr L)(hdb:(x == ("__debug__":Str))=false:=by decide)
  (he:starEach (a :: es) X.env=(false,eval a X.env) :: starEach es X.env:=by rfl) (hpl:(backTo pos (starEach es X.env)).any (·.1)=false:=by rfl):SE X Γ E (.Call (.Name x p) (a :: es) [] pos) (aE F fr) L .v:=by
 obtain⟨f,fd,hm,hk,hb,hF⟩:=hf.ex
 refine PE.post' (mz (dvs:=[]) hF hr hg hm hk hb .nil hx ha hdb he hpl) fun σ H Q ⟨env,G,B,β,I,o⟩=>?_
 show aT Γ E fr L σ H fun vs H1=>AB X.K Γ.ca ps.length F (vs ++ []) H1 Q E
 have:=pz (Q:=Q) (wv:=false) (ps:=ps) I hK o hf.len
 simpa using this
theorem yr {x:Str}{ps:List Str}{k:Nat}{F:List D->FR}{p:Pos}(hf:fV X.prog X.w X.K X.mg X.base Γ.ca x ps k F)(hr:eJ k X.A)(hx:Passes (l5 X.prog X.w) X E)(hK:X.K=Γ.K)(hg:Gl X x)(ha:SA X Γ E (a :: es) fr L)(hdb:(x == ("__debug__":Str))=false:=by decide)
  (he:starEach (a :: es) X.env=(false,eval a X.env) :: starEach es X.env:=by rfl) (hpl:(backTo pos (starEach es X.env)).any (·.1)=false:=by rfl):SE X Γ E (.Call (.Name x p) (a :: es) [] pos) (o9 F fr) L .w:=by
 obtain⟨f,fd,hm,hk,hb,hF⟩:=hf.ex
 refine PE.post' (mz (dvs:=[]) hF hr hg hm hk hb .nil hx ha hdb he hpl) fun σ H Q ⟨env,G,B,β,I,o⟩=>?_
 show aT Γ E fr L σ H fun vs H1=>AB X.K Γ.ca ps.length F (vs ++ []) H1 Q E
 have:=pz (Q:=Q) (wv:=true) (ps:=ps) I hK o hf.len
 simpa using this
end
end L2

end

section
namespace L2
open PySem PySem.Spec PyProof.Rows
inductive SO where
 |nx (env:En) (β:Int)
 |bk (env:En) (β:Int)
 |ct (env:En) (β:Int)
 |rt (d:D) (fr:Bool) (β:Int)
 |exc (c:Str)
 |bad
abbrev SF:=En->Int->SO
def RV (Γ:Fx)(G' H':Hp)(fr:Bool)(d:D)(v:V):Prop:=if fr=true then ∃a,v=.ref a/\Γ.H0 a=none/\G' a=none/\Own Γ.K G' H' a d else Rp Γ.K G' v d
def mC (Γ:Fx)(E:XK)(G:Hp)(N:Ends):SO->Prop
 | .nx env β=>∀B G' H' σ,SR Γ B G' H' σ env β->ak G G'->N.nx σ H'
 | .bk env β=>∀B G' H' σ,SR Γ B G' H' σ env β->ak G G'->N.bk σ H'
 | .ct env β=>∀B G' H' σ,SR Γ B G' H' σ env β->ak G G'->N.ct σ H'
 | .rt d fr β=>∀B G' H' σ env v,SR Γ B G' H' σ env β->ak G G'->RV Γ G' H' fr d v->N.rt v H'
 | .exc c=>∀H',Kp Γ H'->E (.ref (Γ.ca c)) none H'
 | .bad=>False
def sT (Γ:Fx)(E:XK)(m:SF):TS:=fun N σ H=>∃env G B β,SR Γ B G H σ env β/\mC Γ E G N (m env β)
def SS (X:Cx)(Γ:Fx)(E:XK)(st:Stmt)(m:SF):Prop:=PS X st (sT Γ E m)
def Az (X:Cx)(Γ:Fx)(E:XK)(st:List Stmt)(m:SF):Prop:=o4 X st (sT Γ E m)
theorem o4.post {X:Cx}{st:List Stmt}{t u:TS}(h:o4 X st t)(m:∀D σ H,u D σ H->t D σ H):o4 X st u:=fun pins s σ H D I q=>h pins s σ H D I (m D σ H q)
def aH (m m':SF):SF:=fun env β=>match m env β with
 | .nx env' β'=>m' env' β'
 |r=>r
def lR:SF:=fun env β=>.nx env β
section
variable {X:Cx}{Γ:Fx}{E:XK}{e a b c:Expr}{f fa fb:VF D}{L La Lb:List Nat}{md ma mb:Md}{pos:Pos}{st:Stmt}{sts:List Stmt}{m m':SF}{ta:VF Bool}
theorem mC.weak {G G1:Hp}{N:Ends}{r:SO}(h:mC Γ E G N r)(s:ak G G1):mC Γ E G1 N r:=by
 cases r with
 |nx env β=>exact fun B G' H' σ I s'=>h B G' H' σ I (s.trans s')
 |bk env β=>exact fun B G' H' σ I s'=>h B G' H' σ I (s.trans s')
 |ct env β=>exact fun B G' H' σ I s'=>h B G' H' σ I (s.trans s')
 |rt d fr β=>exact fun B G' H' σ env v I s'=>h B G' H' σ env v I (s.trans s')
 |exc c=>exact h
 |bad=>exact h
theorem cO:Az X Γ E [] lR:=o4.post uS fun N σ H ⟨env,G,B,β,I,o⟩=>o B G H σ I (ak.refl _)
theorem au (h:SS X Γ E st m)(h':Az X Γ E sts m'):Az X Γ E (st :: sts) (aH m m'):=by
 refine o4.post (fY h h') fun N σ H ⟨env,G,B,β,I,o⟩=>?_
 refine⟨env,G,B,β,I,?_⟩
 unfold aH at o
 cases q:m env β with
 |nx env' β'=>rw[q] at o;exact fun B' G' H' σ' I' s'=>⟨env',G',B',β',I',o.weak s'⟩
 |bk env' β'=>rw[q] at o;exact o
 |ct env' β'=>rw[q] at o;exact o
 |rt d fr β'=>rw[q] at o;exact o
 |exc c=>rw[q] at o;exact o
 |bad=>rw[q] at o;exact o
theorem aC (h:SS X Γ E st m):Az X Γ E [st] m:=gG h
def toS {α:Type}(r:R α)(k:α->Int->SO):SO:=match r with
 | .ok x β=>k x β
 | .exc c=>.exc c
 | .bad=>.bad
theorem bK {α:Type}{G:Hp}{N:Ends}{r:R α}{k:α->Int->SO}{P:α->Int->Prop}(h:mC Γ E G N (toS r k))(i:∀x β,mC Γ E G N (k x β)->P x β):Out Γ E r P:=by
 cases r with
 |ok x β=>exact i x β h
 |exc c=>exact h
 |bad=>exact h
theorem SR.set' {B:Option Addr}{G H:Hp}{σ:St}{env:En}{β:Int}(I:SR Γ B G H σ env β)(i:Nat){v:V}{d:D}(h:Rp Γ.K G v d):SR Γ B G H (σ.set i (some v)) (env.set i (.fz d)) β:=by
 by_cases hi:i < env.length
 ·exact I.set hi h
 ·have h1:env.set i (.fz d)=env:=List.set_eq_of_length_le (by omega)
  have h2:σ.set i (some v)=σ:=List.set_eq_of_length_le (by rw[I.len];omega)
  rw[h1,h2];exact I
theorem SR.setOw' {B:Option Addr}{G H:Hp}{σ:St}{env:En}{β:Int}(I:SR Γ B G H σ env β)(i:Nat){a:Addr}{d:D}(h0:Γ.H0 a=none)(hg:G a=none)(hb:B≠some a)(h:Own Γ.K G H a d)(hn:∀(j:Nat) (d':D),env[j]? =some (.ow d')->σ[j]?≠some (some (.ref a))):SR Γ B G H (σ.set i (some (.ref a))) (env.set i (.ow d)) β:=by
 by_cases hi:i < env.length
 ·exact I.setOw hi h0 hg hb h fun j d' e _=>hn j d' e
 ·have h1:env.set i (.ow d)=env:=List.set_eq_of_length_le (by omega)
  have h2:σ.set i (some (.ref a))=σ:=List.set_eq_of_length_le (by rw[I.len];omega)
  rw[h1,h2];exact I
def aZ (i:Nat)(L:List Nat)(f:VF D):SF:=fun env β=>toS (f (vl env) β) fun d β'=>.nx ((a7 L env).set i (.fz d)) β'
theorem aU {i:Nat}{x:Str}{pos':Pos}(he:SE X Γ E e f L .v)(hN:X.N.Nodup)(hi:X.N[i]? =some x:=by rfl)(hx:Loc X.env.scope x:=by first |exact Or.inl rfl |exact Or.inr rfl)(hs:swapsWith e (some (.Name x pos')) pos.line X.env=pure false:=by rfl)(hf:X.fn x=true\/X.env.scope.names.lookup x=some .local:=by first |exact .inl rfl |exact .inr rfl |assumption) :
  SS X Γ E (.Assign [.Name x pos'] e pos) (aZ i L f):=by
 refine PS.post (nV hN hi hx he hs hf) fun N σ H ⟨env,G,B,β,I,o⟩=>?_
 refine⟨env,G,B,β,I,bK o fun d β' k v G' H' I' s' m' vo=>?_⟩
 exact k B G' H' _ (I'.set' i vo) s'
def k8 (i:Nat)(L:List Nat)(f:VF D):SF:=fun env β=>toS (f (vl env) β) fun d β'=>.nx ((a7 L env).set i (.ow d)) β'
theorem jK {i:Nat}{x:Str}{pos':Pos}(he:SE X Γ E e f L .w)(hN:X.N.Nodup)(hi:X.N[i]? =some x:=by rfl)(hx:Loc X.env.scope x:=by first |exact Or.inl rfl |exact Or.inr rfl)(hs:swapsWith e (some (.Name x pos')) pos.line X.env=pure false:=by rfl)(hf:X.fn x=true\/X.env.scope.names.lookup x=some .local:=by first |exact .inl rfl |exact .inr rfl |assumption) :
  SS X Γ E (.Assign [.Name x pos'] e pos) (k8 i L f):=by
 refine PS.post (nV hN hi hx he hs hf) fun N σ H ⟨env,G,B,β,I,o⟩=>?_
 refine⟨env,G,B,β,I,bK o fun d β' k v G' H' I' s' m' vo=>?_⟩
 obtain⟨p,rfl,h1,h2,h3⟩:=vo
 obtain⟨q1,q2,q3,q4⟩:=I.fresh h1
 exact k B G' H' _ (I'.setOw' i q1 h2 q3 h3 fun j d' z=>q4 j d' (qI z)) s'
def zY (L:List Nat)(f:VF D):SF:=fun env β=>toS (f (vl env) β) fun _ β'=>.nx (a7 L env) β'
theorem Be (he:SE X Γ E e f L md)(hs:swapsWith e none pos.line X.env=pure false:=by rfl):SS X Γ E (.Expr e pos) (zY L f):=by
 refine PS.post (pU he hs) fun N σ H ⟨env,G,B,β,I,o⟩=>?_
 exact⟨env,G,B,β,I,bK o fun d β' k v G' H' I' s' m' vo=>k B G' H' _ I' s'⟩
def bR (f:VF D):SF:=fun env β=>toS (f (vl env) β) fun d β'=>.rt d false β'
theorem aQ (he:SE X Γ E e f L .v):SS X Γ E (.Return (some e) pos) (bR f):=by
 refine PS.post (k9 he) fun N σ H ⟨env,G,B,β,I,o⟩=>?_
 exact⟨env,G,B,β,I,bK o fun d β' k v G' H' I' s' m' vo=>k B G' H' σ _ v I' s' vo⟩
def oN (f:VF D):SF:=fun env β=>toS (f (vl env) β) fun d β'=>.rt d true β'
theorem mn (he:SE X Γ E e f L .w):SS X Γ E (.Return (some e) pos) (oN f):=by
 refine PS.post (k9 he) fun N σ H ⟨env,G,B,β,I,o⟩=>?_
 refine⟨env,G,B,β,I,bK o fun d β' k v G' H' I' s' m' vo=>?_⟩
 obtain⟨p,rfl,h1,h2,h3⟩:=vo
 obtain⟨q1,_⟩:=I.fresh h1
 exact k B G' H' σ _ _ I' s' ⟨p,rfl,q1,h2,h3⟩
def y6 (i:Nat):SF:=fun env β=>match env[i]? with
 |some (.fz d)=>.rt d false β
 |some (.ow d)=>.rt d true β
 |_=>.bad
theorem BJ (i:Nat){x:Str}{p:Pos}(hN:X.N[i]? =some x:=by rfl)(hv:tM X.env.scope x:=by first |exact Or.inl rfl |exact Or.inr (Or.inl rfl) |exact Or.inr (Or.inr rfl))(hd:(x == ("__debug__":Str))=false:=by decide)
  (hcd:(x == ("__classdict__":Str))=false:=by decide):SS X Γ E (.Return (some (.Name x p)) pos) (y6 i):=by
 refine PS.post (k9 (hJ hN hv hd hcd)) fun N σ H ⟨env,G,B,β,I,o⟩=>?_
 unfold y6 at o
 cases q:env[i]? with
 |none=>rw[q] at o;exact o.elim
 |some s=>
  rw[q] at o
  cases s with
  |no=>exact o.elim
  |bx=>exact o.elim
  |br d=>exact o.elim
  |fz d=>
   obtain⟨v,h1,h2⟩:=I.slot i _ q
   exact⟨v,h1,o B G H σ env v I (ak.refl _) h2⟩
  |ow d=>
   obtain⟨p,h1,h2,h3,h4,h5⟩:=I.slot i _ q
   exact⟨_,h1,o B G H σ env _ I (ak.refl _) ⟨p,rfl,h2,h3,h5⟩⟩
def ko (L:List Nat)(t:VF Bool)(m m':SF):SF:=fun env β=>toS (t (vl env) β) fun c β'=>if c=true then m (a7 L env) β' else m' (a7 L env) β'
theorem fu {x y:List Stmt}(hc:xP X Γ E c ta L)(ha:Az X Γ E x m)(hb:Az X Γ E y m'):SS X Γ E (.If c x y pos) (ko L ta m m'):=by
 refine PS.post (Cv hc ha hb) fun N σ H ⟨env,G,B,β,I,o⟩=>?_
 refine⟨env,G,B,β,I,bK o fun d β' k G' H' I' s' m'=>?_⟩
 cases d with
 |true=>exact si ⟨_,G',B,β',I',mC.weak k s'⟩
 |false=>exact rj ⟨_,G',B,β',I',mC.weak k s'⟩
def iE (L:List Nat)(t:VF Bool)(m:SF):Nat->SF
 | 0=>fun _ _=>.bad
 |n + 1=>fun env β=>toS (t (vl env) β) fun c β'=>if c=true then (match m (a7 L env) β' with
   | .nx env2 β2=>iE L t m n env2 β2
   | .ct env2 β2=>iE L t m n env2 β2
   | .bk env2 β2=>.nx env2 β2
   |r=>r) else .nx (a7 L env) β'
theorem sF {x:List Stmt}(n:Nat)(hp:PassesOwn (model X.prog X.w) X.A X.env X.xe)(hc:xP X Γ E c ta L)(hb:Az X Γ E x m):SS X Γ E (.While c x [] pos) (iE L ta m n):=by
 refine PS.post (xW hp hc hb) fun N σ H ⟨env,G,B,β,I,o⟩=>?_
 refine⟨fun k σ H=>∃env G1 B β,SR Γ B G1 H σ env β/\ak G G1/\mC Γ E G1 N (iE L ta m k env β),⟨n,env,G,B,β,I,ak.refl _,o⟩,?_⟩
 rintro k σ H ⟨env,G1,B,β,I,sG,o⟩
 cases k with
 |zero=>exact o.elim
 |succ k=>
  refine⟨env,G1,B,β,I,bK o fun d β' q G' H' I' s' m'=>?_⟩
  cases d with
  |false=>exact rj (q B G' H' σ I' s')
  |true=>
   refine si ⟨fun σ H=>∃env G1 B β,SR Γ B G1 H σ env β/\ak G G1/\mC Γ E G1 N (iE L ta m k env β),fun σ' H' h=>⟨k,Nat.lt_succ_self k,h⟩,a7 L env,G',B,β',I',?_⟩
   rw[if_pos rfl] at q
   cases r:m (a7 L env) β' with
   |nx env2 β2=>rw[r] at q;exact fun B2 G2 H2 σ2 I2 s2=>⟨env2,G2,B2,β2,I2,(sG.trans s').trans s2,mC.weak q (s'.trans s2)⟩
   |ct env2 β2=>rw[r] at q;exact fun B2 G2 H2 σ2 I2 s2=>⟨env2,G2,B2,β2,I2,(sG.trans s').trans s2,mC.weak q (s'.trans s2)⟩
   |bk env2 β2=>rw[r] at q;exact fun B2 G2 H2 σ2 I2 s2=>q B2 G2 H2 σ2 I2 (s'.trans s2)
   |rt d fr β2=>rw[r] at q;exact mC.weak q s'
   |exc c=>rw[r] at q;exact q
   |bad=>rw[r] at q;exact q
def Walk (K:PySem.W.Frag)(B:Option Addr)(G H1:Hp)(ds:List D)(J:It):Prop:=∀Gc H (i:Nat),ak G Gc->ak Gc H->gW B H1 H->
 (i < ds.length->J.go i H/\∀x H',J.yld i H x H'->∃G' d,Ext Gc H G' H'/\ds[i]? =some d/\Rp K G' x d)/\(ds.length<=i->J.stop i H)
def iT (Γ:Fx)(E:XK)(f:VF (List D))(L:List Nat)(md:Md):TI:=fun σ H Rr=>∃env G B β,SR Γ B G H σ env β/\
 Out Γ E (f (vl env) β) fun ds β'=>∀J G' H',SR Γ B G' H' σ (a7 L env) β'->ak G G'->gW B H H'->Walk Γ.K B G' (match md with | .b=>H' |_=>fun _=>none) ds J->Rr J H'
def SI (X:Cx)(Γ:Fx)(E:XK)(tg e:Expr)(f:VF (List D))(L:List Nat)(md:Md):Prop:=PI X tg e (iT Γ E f L md)
theorem PI.post {X:Cx}{tg e:Expr}{t u:TI}(h:PI X tg e t)(m:∀σ H Q,u σ H Q->t σ H Q):PI X tg e u:=fun pins s σ H Q I q=>h pins s σ H Q I (m σ H Q q)
variable {tg:Expr}
def l9:D->Option (List D)
 | .list ds=>some ds
 | .tuple ds=>some ds
 |_=>none
def bh (fa:VF D):VF (List D):=fun vs β=>(fa vs β).bnd fun x β1=>R.of (l9 x) β1
end
end L2

end

section
namespace L2
open PySem PySem.Spec PyProof.Rows
def HA (K:PySem.W.Frag)(tl:TE):TI:=fun σ H R=>tl σ H fun x H1=>∃a xs,x=.ref a/\((gu K H1 a xs/\R (v8 K a) H1)\/(fG K H1 a xs/\R (CD K a) H1))
section
variable {X:Cx}{tg l:Expr}{tl:TE}
theorem Cp (hl:PE X l tl):PI X tg l (HA X.K tl):=by
 intro pins s σ H R I h
 refine b7 (hl pins s σ H _ I h) fun v s1 ⟨x,H1,I1,r1,q1⟩=>?_
 obtain⟨a,xs,e,q⟩:=q1
 subst e
 cases r1
 rcases q with⟨hq,q⟩ | ⟨hq,q⟩
 ·obtain⟨its,rv,p,hz⟩:=I1.list hq
  refine wpAny_pyIter_list p.isList ?_
  refine⟨s1.heap.objs.size,[s1.heap.objs.size],_,_,H1,rfl,I1.kept (t':=s1.toks) fun b o e=>Heap.get?_push_of_some _ e,lE a _,⟨_,Heap.get?_push_size _ rfl,rfl,rfl⟩,fun b hb=>?_,q⟩
  have e:b=s1.heap.objs.size:=by simpa using hb
  subst e
  exact I1.fpOk (Nat.le_refl _) (I1.hok.fresh (Nat.le_refl _))
 ·obtain⟨its,rv,p,hz⟩:=I1.tuple hq
  refine wpAny_pyIter_tuple (show s1.heap.IsTuple a its.toArray from p) ?_
  refine⟨s1.heap.objs.size,[s1.heap.objs.size],_,_,H1,rfl,I1.kept (t':=s1.toks) fun b o e=>Heap.get?_push_of_some _ e,nj a _,⟨_,Heap.get?_push_size _ rfl,rfl,rfl⟩,fun b hb=>?_,q⟩
  have e:b=s1.heap.objs.size:=by simpa using hb
  subst e
  exact I1.fpOk (Nat.le_refl _) (I1.hok.fresh (Nat.le_refl _))
end
section
variable {X:Cx}{Γ:Fx}{E:XK}{e a b c:Expr}{f fa fb:VF D}{L La Lb:List Nat}{md ma mb:Md}{pos:Pos}{st:Stmt}{sts:List Stmt}{m m':SF}{ta:VF Bool}{tg:Expr}
theorem ll {K:PySem.W.Frag}{B:Option Addr}{G H1:Hp}{p:Addr}{xs:List V}{ds:List D}(h:∀Gc H,ak G Gc->ak Gc H->gW B H1 H->gu K H p xs)(r:bL K G xs ds):Walk K B G H1 ds (v8 K p):=fun Gc H i s1 s2 m=>by
 have hq:=h Gc H s1 s2 m
 refine⟨fun hi=>⟨?_,fun x H' y=>?_⟩,fun hi=>⟨xs,hq,by rw[r.len];exact hi⟩⟩
 ·have hi':i < xs.length:=by rw[r.len];exact hi
  exact⟨xs,xs[i],hq,by simp[hi']⟩
 ·obtain⟨rfl,y⟩:=y
  obtain⟨d,e,q⟩:=r.at' (y xs hq)
  exact⟨Gc,d,Ext.refl s2,e,q.mono s1⟩
theorem sr {K:PySem.W.Frag}{B:Option Addr}{G H1:Hp}{p:Addr}{xs:List V}{ds:List D}(h:∀Gc H,ak G Gc->ak Gc H->gW B H1 H->fG K H p xs)(r:bL K G xs ds):Walk K B G H1 ds (CD K p):=fun Gc H i s1 s2 m=>by
 have hq:=h Gc H s1 s2 m
 refine⟨fun hi=>⟨?_,fun x H' y=>?_⟩,fun hi=>⟨xs,hq,by rw[r.len];exact hi⟩⟩
 ·have hi':i < xs.length:=by rw[r.len];exact hi
  exact⟨xs,xs[i],hq,by simp[hi']⟩
 ·obtain⟨rfl,y⟩:=y
  obtain⟨d,e,q⟩:=r.at' (y xs hq)
  exact⟨Gc,d,Ext.refl s2,e,q.mono s1⟩
theorem Bj (hK:X.K=Γ.K)(ha:SE X Γ E a fa La .v):SI X Γ E tg a (bh fa) La .v:=by
 refine PI.post (Cp ha) fun σ H Q ⟨env,G,B,β,I,o⟩=>?_
 refine⟨env,G,B,β,I,o.bnd.imp fun d1 β1 h x G1 H1 I1 s1 m1 vx=>?_⟩
 obtain⟨ds,e,k⟩:=h.of
 rw[hK]
 have vx:Rp Γ.K G1 x d1:=vx
 cases d1 with
 |list l=>
  cases e
  cases vx with
  | @lst p xs _ hq r=>exact⟨p,xs,rfl,.inl ⟨.inl (Rd.mono (.inl hq) I1.sub),k _ G1 H1 I1 s1 m1 (ll (fun Gc H t1 t2 _=>.inl (Rd.mono (.inl hq) (t1.trans t2))) r)⟩⟩
 |tuple l=>
  cases e
  cases vx with
  | @tup p xs _ hq r=>exact⟨p,xs,rfl,.inr ⟨hq.grow I1.sub.grow,k _ G1 H1 I1 s1 m1 (sr (fun Gc H t1 t2 _=>hq.grow (t1.trans t2).grow) r)⟩⟩
 |_=>cases e
theorem l4 (hK:X.K=Γ.K)(ha:SE X Γ E a fa La ma):SI X Γ E tg a (bh fa) La .b:=by
 refine PI.post (Cp ha) fun σ H Q ⟨env,G,B,β,I,o⟩=>?_
 refine⟨env,G,B,β,I,o.bnd.imp fun d1 β1 h x G1 H1 I1 s1 m1 vx=>?_⟩
 obtain⟨ds,e,k⟩:=h.of
 rw[hK]
 have vx:=vx.brw I.boxThere
 cases d1 with
 |list l=>
  cases e
  rcases vx with vx | ⟨p,rfl,hb,xs,q,r⟩
  ·cases vx with
   | @lst p xs _ hq r=>exact⟨p,xs,rfl,.inl ⟨.inl (Rd.mono (.inl hq) I1.sub),k _ G1 H1 I1 s1 m1 (ll (fun Gc H t1 t2 _=>.inl (Rd.mono (.inl hq) (t1.trans t2))) r)⟩⟩
  ·exact⟨p,xs,rfl,.inl ⟨.inl (.inl q),k _ G1 H1 I1 s1 m1 (ll (fun Gc H t1 t2 mv=>.inl (.inl (mv p _ q hb))) r)⟩⟩
 |tuple l=>
  cases e
  rcases vx with vx | ⟨p,rfl,hb,q⟩
  ·cases vx with
   | @tup p xs _ hq r=>exact⟨p,xs,rfl,.inr ⟨hq.grow I1.sub.grow,k _ G1 H1 I1 s1 m1 (sr (fun Gc H t1 t2 _=>hq.grow (t1.trans t2).grow) r)⟩⟩
  ·exact q.elim
 |_=>cases e
def bG (lo:Int)(n:Nat):List D:=(List.range n).map fun (k:Nat)=>PyData.int (lo + k)
theorem b8 (lo:Int)(n:Nat):(bG lo n).length=n:=by unfold bG;simp
theorem qV {K:PySem.W.Frag}{B:Option Addr}{G H1:Hp}(lo:Int)(n:Nat):Walk K B G H1 (bG lo n) (xE lo n):=fun Gc H i s1 s2 m=>by
 rw[b8]
 refine⟨fun hi=>⟨hi,fun x H' y=>?_⟩,fun hi=>hi⟩
 obtain⟨rfl,rfl⟩:=y
 refine⟨Gc,.int (lo + i),Ext.refl s2,?_,.int _⟩
 unfold bG
 rw[List.getElem?_map,List.getElem?_range hi];rfl
def xQ (j:Int):Bool:=Nat.ble j.natAbs 1000000
theorem lb {j:Int}(h:xQ j=true): -(2 ^ 62)<=j/\j < 2 ^ 62:=by
 have:=Nat.le_of_ble_eq_true h
 omega
theorem lz {j:Int}(h: -1000<=j)(h2:j<=10000):xQ j=true:=Nat.ble_eq_true_of_le (by omega)
def bF (fa:VF D):VF (List D):=fun vs β=>(fa vs β).bnd fun x β1=>match x with
 | .int j=>if xQ j=true then .ok (bG 0 j.toNat) β1 else .bad
 |_=>.bad
def pC (fa fb:VF D):VF (List D):=fun vs β=>(fa vs β).bnd fun x β1=>(fb vs β1).bnd fun y β2=>match x,y with
 | .int i,.int j=>if (xQ i && xQ j)=true then .ok (bG i (j - i).toNat) β2 else .bad
 |_,_=>.bad
theorem hW {p:Pos}(hg:Gl X "range")(hm:X.mg "range"=none)(ha:SE X Γ E a fa La ma)(hs:starEach [a] X.env= [(false,eval a X.env)]:=by rfl)(hs':starEach [a] X.env=(false,eval a X.env) :: starEach [] X.env:=by rfl):SI X Γ E tg (.Call (.Name "range" p) [a] [] pos) (bF fa) La md:=by
 refine PI.post (jH hg hm (aJ ha bg hs') hs) fun σ H Q ⟨env,G,B,β,I,o⟩=>?_
 refine⟨env,G,B,β,I,o.bnd.imp fun d1 β1 h x G1 H1 I1 s1 m1 vx=>?_⟩
 have vx:=vx.brw I.boxThere
 cases d1 with
 |int j=>
  obtain rfl:=vx.int
  dsimp only at h
  by_cases hj:xQ j=true
  ·rw[if_pos hj] at h
   exact⟨j,rfl,(lb hj).1,(lb hj).2,h _ G1 H1 I1 s1 m1 (qV 0 _)⟩
  ·rw[if_neg hj] at h;exact h.elim
 |_=>exact h.elim
theorem EM {p:Pos}(hg:Gl X "range")(hm:X.mg "range"=none)(ha:SE X Γ E a fa La ma)(hb:SE X Γ E b fb Lb mb)(hs:starEach [a,b] X.env= [(false,eval a X.env),(false,eval b X.env)]:=by rfl)(hs2:starEach [b] X.env= [(false,eval b X.env)]:=by rfl)(hs':starEach [a,b] X.env=(false,eval a X.env) :: starEach [b] X.env:=by rfl)(hs3:starEach [b] X.env=(false,eval b X.env) :: starEach [] X.env:=by rfl):SI X Γ E tg (.Call (.Name "range" p) [a,b] [] pos) (pC fa fb) (La ++ Lb) md:=by
 refine PI.post (wy hg hm (aJ ha (aJ hb bg hs3) hs') hs hs2) fun σ H Q ⟨env,G,B,β,I,o⟩=>?_
 refine two (W:=fun x y H2=>∃i j:Int,[x,y]= [.int i,.int j]/\(-(2 ^ 62)<=i/\i < 2 ^ 62/\ -(2 ^ 62)<=j/\j < 2 ^ 62)/\Q (xE i (j - i).toNat) H2) I (o.bnd.imp fun d1 β1 h=>h.bnd.imp fun d2 β2 h x y G2 H2 I2 s2 m2 bx by'=>?_)
 obtain⟨i,j,rfl,rfl⟩:∃i j,d1=.int i/\d2=.int j:=by
  cases d1 <;> cases d2 <;> first |exact h.elim |exact⟨_,_,rfl,rfl⟩
 obtain rfl:=bx.int
 obtain rfl:=by'.int
 dsimp only at h
 by_cases hj:(xQ i && xQ j)=true
 ·rw[if_pos hj] at h
  rw[Bool.and_eq_true] at hj
  exact⟨i,j,rfl,⟨(lb hj.1).1,(lb hj.1).2,(lb hj.2).1,(lb hj.2).2⟩,h _ G2 H2 I2 s2 m2 (qV i _)⟩
 ·rw[if_neg hj] at h;exact h.elim
inductive Tg where
 |nm (i:Nat)
 |two (i j:Nat)
def pairD:D->Option (D×D)
 | .tuple [x,y]=>some (x,y)
 |_=>none
theorem zo {d x y:D}(h:pairD d=some (x,y)):d=.tuple [x,y]:=by
 unfold pairD at h
 split at h
 ·cases h;rfl
 ·cases h
def fq:Tg->D->En->Option En
 | .nm i,d,env=>some (env.set i (.fz d))
 | .two i j,d,env=>(pairD d).map fun p=>(env.set i (.fz p.1)).set j (.fz p.2)
def kG:Tg->D->List Nv->Option (List Nv)
 | .nm i,d,vs=>some (vs.set i (.da d))
 | .two i j,d,vs=>(pairD d).map fun p=>(vs.set i (.da p.1)).set j (.da p.2)
theorem tG (env:En)(i:Nat)(s:Sl):vl (env.set i s)=(vl env).set i s.val:=by unfold vl;rw[List.map_set]
theorem BQ (t:Tg)(d:D)(env:En):(fq t d env).map vl=kG t d (vl env):=by
 cases t with
 |nm i=>show some (vl _)=some _;rw[tG];rfl
 |two i j=>
  show ((pairD d).map _).map vl=(pairD d).map _
  cases pairD d with
  |none=>rfl
  |some p=>show some (vl _)=some _;rw[tG,tG];rfl
def gT (Γ:Fx)(t:Tg):TG:=fun v σ H Q=>∃env G B β d env',SR Γ B G H σ env β/\Rp Γ.K G v d/\fq t d env=some env'/\∀σ',SR Γ B G H σ' env' β->Q σ' H
def SG (X:Cx)(Γ:Fx)(tg:Expr)(t:Tg):Prop:=PG X tg (gT Γ t)
theorem PG.post {X:Cx}{tg:Expr}{t u:TG}(h:PG X tg t)(m:∀v σ H Q,u v σ H Q->t v σ H Q):PG X tg u:=fun pins s σ H v uu Q I r q=>h pins s σ H v uu Q I r (m v σ H Q q)
theorem cN {i:Nat}{x:Str}(hN:X.N.Nodup)(hi:X.N[i]? =some x:=by rfl)(hx:Loc X.env.scope x:=by first |exact Or.inl rfl |exact Or.inr rfl)(hf:X.fn x=true\/X.env.scope.names.lookup x=some .local:=by first |exact .inl rfl |exact .inr rfl |assumption):SG X Γ (.Name x pos) (.nm i):=by
 refine PG.post (cH hN hi hx hf) fun v σ H Q ⟨env,G,B,β,d,env',I,r,e,k⟩=>?_
 cases e
 exact k _ (I.set' i r)
theorem jm {i j:Nat}{x y:Str}{px py:Pos}{n:Nat}(hN:X.N.Nodup)(hc:X.calm=true:=by rfl)(hK:X.K=Γ.K:=by rfl)(hi:X.N[i]? =some x:=by rfl)(hj:X.N[j]? =some y:=by rfl)(hx:Loc X.env.scope x:=by first |exact Or.inl rfl |exact Or.inr rfl)(hy:Loc X.env.scope y:=by first |exact Or.inl rfl |exact Or.inr rfl)
  (hf:X.fn x=true\/X.env.scope.names.lookup x=some .local:=by first |exact .inl rfl |exact .inr rfl |assumption) (hf':X.fn y=true\/X.env.scope.names.lookup y=some .local:=by first |exact .inl rfl |exact .inr rfl |assumption):SG X Γ (.Tuple [.Name x px,.Name y py] n pos) (.two i j):=by
 refine PG.post (ly (n:=2) hc (cy (cH hN hi hx hf) (cy (cH hN hj hy hf') jL))) fun v σ H Q ⟨env,G,B,β,d,env',I,r,e,k⟩=>?_
 rw[hK]
 have e:(pairD d).map (fun p=>(env.set i (.fz p.1)).set j (.fz p.2))=some env':=e
 cases q:pairD d with
 |none=>rw[q] at e;cases e
 |some p=>
  obtain⟨dx,dy⟩:=p
  rw[q] at e
  cases e
  obtain rfl:=zo q
  cases r with
  | @tup p xs _ hq r=>
   cases r with
   |cons r1 r=>
    cases r with
    |cons r2 r=>
     cases r
     exact⟨p,_,rfl,hq.grow I.sub.grow,rfl,_,_,rfl,_,_,rfl,rfl,k _ ((I.set' i r1).set' j r2)⟩
def lV (t:Tg)(m:SF):List D->SF
 | []=>fun env β=>.nx env β
 |d :: ds=>fun env β=>match fq t d env with
  |none=>.bad
  |some env1=>match m env1 β with
   | .nx env2 β2=>lV t m ds env2 β2
   | .ct env2 β2=>lV t m ds env2 β2
   | .bk env2 β2=>.nx env2 β2
   |r=>r
def cE (t:Tg)(L:List Nat)(fi:VF (List D))(m:SF):SF:=fun env β=>toS (fi (vl env) β) fun ds β'=>lV t m ds (a7 L env) β'
theorem dR {t:Tg}{fi:VF (List D)}{x:List Stmt}(hp:PassesOwn (model X.prog X.w) X.A X.env X.xe)(hc:X.calm=true)(hi:SI X Γ E tg e fi L .v)(hg:SG X Γ tg t)(hb:Az X Γ E x m)(hs:∀x,foldedSetIterable e X.env x=pure x:=by intro _;rfl):SS X Γ E (.For tg e x [] pos) (cE t L fi m):=by
 refine PS.post (qk hp hc hi hg hb hs) fun N σ H ⟨env,G,B,β,I,o⟩=>?_
 refine⟨env,G,B,β,I,bK o fun ds β' q J G' H' I' s' m' w=>?_⟩
 have w:Walk Γ.K B G' (fun _=>none) ds J:=w
 refine⟨fun i n σ H=>n=ds.length - i/\i<=ds.length/\∃env G1 B β,SR Γ B G1 H σ env β/\ak G' G1/\mC Γ E G1 N (lV t m (ds.drop i) env β),⟨ds.length,by simp,Nat.zero_le _,a7 L env,G',B,β',I',ak.refl _,by rw[List.drop_zero];exact mC.weak q s'⟩,?_⟩
 rintro i n σ H ⟨rfl,hi,env,G1,B1,β1,I1,s1,q⟩
 obtain⟨w1,w2⟩:=w G1 H i s1 I1.sub fun b o e=>by cases e
 by_cases hlt:i < ds.length
 ·obtain⟨go,yl⟩:=w1 hlt
  refine .inr ⟨go,fun σ H=>∃env G2 B β,SR Γ B G2 H σ env β/\ak G' G2/\mC Γ E G2 N (lV t m (ds.drop (i + 1)) env β),fun σ2 H2 h=>⟨ds.length - (i + 1),by omega,rfl,hlt,h⟩,fun x H2 y=>?_⟩
  obtain⟨G2,d,x2,ed,rd⟩:=yl x H2 y
  have I2:=I1.ext x2
  have q:=mC.weak q x2.gg
  rw[List.drop_eq_getElem_cons hlt] at q
  have ed':ds[i]=d:=by rw[List.getElem?_eq_getElem hlt] at ed;exact Option.some.inj ed
  rw[ed'] at q
  unfold lV at q
  cases eb:fq t d env with
  |none=>rw[eb] at q;exact q.elim
  |some env1=>
   rw[eb] at q
   refine⟨env,G2,B1,β1,d,env1,I2,rd,eb,fun σ3 I3=>⟨env1,G2,B1,β1,I3,?_⟩⟩
   have s2:=s1.trans x2.gg
   dsimp only at q
   cases r:m env1 β1 with
   |nx env2 β2=>rw[r] at q;exact fun B2 G3 H3 σ2 I2 s3=>⟨env2,G3,B2,β2,I2,s2.trans s3,mC.weak q s3⟩
   |ct env2 β2=>rw[r] at q;exact fun B2 G3 H3 σ2 I2 s3=>⟨env2,G3,B2,β2,I2,s2.trans s3,mC.weak q s3⟩
   |bk env2 β2=>rw[r] at q;exact fun B2 G3 H3 σ2 I2 s3=>q B2 G3 H3 σ2 I2 s3
   |rt d fr β2=>rw[r] at q;exact q
   |exc c=>rw[r] at q;exact q
   |bad=>rw[r] at q;exact q
 ·have e:i=ds.length:=by omega
  subst e
  rw[List.drop_length] at q
  exact .inl ⟨w2 (Nat.le_refl _),q B1 G1 H σ I1 (ak.refl _)⟩
end
end L2

end

section
namespace L2
open PySem PySem.Spec PyProof.Rows
abbrev Fx.hG (Γ:Fx)(H0 G0:Hp)(par:List Addr)(br:Nat->Bool)(bx:Option Addr):Fx:=⟨Γ.K,H0,G0,par,Γ.ca,br,bx⟩
def eS (own:Nat)(ixs:List Nat)(vs:List Nv):List Nv:=List.replicate own .no ++ ixs.map fun i=>(vs[i]?).getD .no
def FD:Option Sl->Sl
 |some (.ow d)=>.br d
 |some s=>s
 |none=>.no
def benv (own:Nat)(ixs:List Nat)(env:En):En:=List.replicate own .no ++ ixs.map fun i=>FD env[i]?
theorem BM (o:Option Sl):(FD o).val=(o.map Sl.val).getD .no:=by
 cases o with
 |none=>rfl
 |some s=>cases s <;> rfl
theorem BL (own:Nat)(ixs:List Nat)(env:En):vl (benv own ixs env)=eS own ixs (vl env):=by
 unfold vl benv eS
 rw[List.map_append,List.map_replicate,List.map_map]
 congr 1
 refine List.map_congr_left fun i _=>?_
 show (FD env[i]?).val=_
 rw[BM,List.getElem?_map]
def tu (env:En):Prop:=∀(i:Nat) (d:D),env[i]?≠some (.ow d)
theorem rA {env:En}(h:tu env)(L:List Nat):a7 L env=env:=by
 unfold a7
 induction L with
 |nil=>rfl
 |cons i L ih=>
  rw[List.foldl_cons]
  have:iq env i=env:=by
   unfold iq
   split
   ·rename_i d e;exact absurd e (h i d)
   ·rfl
  rw[this];exact ih
theorem o5 (own:Nat)(ixs:List Nat)(env:En):tu (benv own ixs env):=fun i d e=>by
 unfold benv at e
 have hm:=List.mem_of_getElem? e
 rcases List.mem_append.mp hm with h |h
 ·have:=List.eq_of_mem_replicate h;cases this
 ·obtain⟨k,_,hk⟩:=List.mem_map.mp h
  cases q:env[k]? with
  |none=>rw[q] at hk;cases hk
  |some s=>rw[q] at hk;cases s <;> cases hk
theorem nh {env:En}(h:tu env)(i:Nat)(d:D):tu (env.set i (.fz d)):=fun j d' e=>by
 by_cases z:i=j
 ·subst z
  by_cases hi:i < env.length
  ·rw[List.getElem?_set_self hi] at e;cases e
  ·rw[List.set_eq_of_length_le (by omega)] at e;exact h _ _ e
 ·rw[List.getElem?_set_ne z] at e;exact h _ _ e
theorem wg {env env1:En}{t:Tg}{d:D}(h:tu env)(e:fq t d env=some env1):tu env1:=by
 cases t with
 |nm i=>cases e;exact nh h i d
 |two i j=>
  have e:(pairD d).map _=some env1:=e
  cases q:pairD d with
  |none=>rw[q] at e;cases e
  |some p=>rw[q] at e;cases e;exact nh (nh h _ _) _ _
theorem wJ {env env1:En}{t:Tg}{d:D}(e:fq t d env=some env1)(d':D):fq t d' env1=fq t d' env:=by
 cases t with
 |nm i=>cases e;show some _=some _;rw[List.set_set]
 |two i j=>
  have e:(pairD d).map _=some env1:=e
  cases q:pairD d with
  |none=>rw[q] at e;cases e
  |some p=>
   rw[q] at e;cases e
   show (pairD d').map _=(pairD d').map _
   cases pairD d' with
   |none=>rfl
   |some p'=>
    show some _=some _
    congr 1
    dsimp only
    by_cases z:i=j
    ·subst z;simp[List.set_set]
    ·rw[List.set_comm _ _ (Ne.symm z),List.set_set,List.set_set]
theorem Ext.mov {G H G' H':Hp}(x:Ext G H G' H')(B:Option Addr):gW B H H':=x.hh.mov B
section
variable {Γ:Fx}{B:Option Addr}{G H G1 H1 Gc Hc:Hp}{σ σ':St}{env envb:En}{β β':Int}{own:Nat}{ixs:List Nat}{Da:Addr}{acc:List V}
def uh (envb:En):Nat->Bool:=fun j=>match envb[j]? with
 |some (.br _)=>true
 |_=>false
theorem SR.block (I:SR Γ B G H σ env β)(own:Nat)(ixs:List Nat)(hD:H Da=none):SR (Γ.hG (upd H Da (.lst [])) G (Da :: B.toList) (uh (benv own ixs env)) B) B G (upd H Da (.lst [])) (qu own ixs σ) (benv own ixs env) β:=by
 obtain⟨q1,q2,q3,q4⟩:=I.fresh hD
 have nB:∀b,B=some b->b≠Da:=fun b e z=>q3 (by rw[<-z];exact e)
 refine⟨I.sub.trans (ak.new hD),ak.refl _,fun b _ h=>h,fun b o h _=>h,fun b hb=>?_,fun b e=>e,fun b e=>?_,?_,fun i s e=>?_,fun i j c d d' e=>absurd e (o5 own ixs env i d)⟩
 ·rcases List.mem_cons.mp hb with z |z
  ·subst z;exact Mx.lst aw
  ·have z':B=some b:=by simpa using z
   exact Mx.lst (by rw[az (nB b z')];exact (I.box b z').1)
 ·obtain⟨h1,h2,_⟩:=I.box b e
  exact⟨by rw[az (nB b e)];exact h1,h2,.inl (List.mem_cons_of_mem _ (by simpa using e))⟩
 ·unfold qu benv;simp
 ·by_cases hi:i < own
  ·unfold benv at e
   rw[List.getElem?_append_left (by simpa using hi),List.getElem?_replicate,if_pos hi] at e
   cases e;trivial
  ·have e0:=e
   unfold benv at e
   rw[List.getElem?_append_right (by simpa using hi),List.length_replicate,List.getElem?_map] at e
   cases ek:ixs[i - own]? with
   |none=>rw[ek] at e;cases e
   |some k=>
    rw[ek] at e
    have e:FD env[k]? =s:=Option.some.inj e
    have es:(qu own ixs σ)[i]? =some ((σ[k]?).join):=by
     unfold qu
     rw[List.getElem?_append_right (by simpa using hi),List.length_replicate,List.getElem?_map,ek];rfl
    rw[es]
    cases q:env[k]? with
    |none=>rw[q] at e;subst e;trivial
    |some t=>
     rw[q] at e
     have w:=I.slot k t q
     cases t with
     |no=>subst e;trivial
     |fz d=>subst e;obtain⟨v,h1,h2⟩:=w;exact⟨v,by rw[h1];rfl,h2⟩
     |bx=>subst e;obtain⟨a,h1,h2⟩:=w;exact⟨a,by rw[h1];rfl,h2⟩
     |ow d=>
      subst e
      obtain⟨a,h1,h2,h3,h4,h5⟩:=w
      obtain⟨o,ho⟩:=h5.obj
      have aD:a≠Da:=aF ho hD
      refine⟨by show uh _ i=true;unfold uh;rw[e0];rfl,a,by rw[h1];rfl,h4,?_,h5.mono (ak.refl _) fun o q=>by rw[az aD];exact q⟩
      intro hm
      rcases List.mem_cons.mp hm with z |z
      ·exact aD z
      ·exact h4 (by simpa using z)
     |br d=>
      subst e
      obtain⟨b1,a,h1,h4,hp,h5⟩:=w
      obtain⟨o,ho⟩:=h5.obj
      have aD:a≠Da:=aF ho hD
      refine⟨by show uh _ i=true;unfold uh;rw[e0];rfl,a,by rw[h1];rfl,h4,?_,h5.mono (ak.refl _) fun o q=>by rw[az aD];exact q⟩
      intro hm
      rcases List.mem_cons.mp hm with z |z
      ·exact aD z
      ·exact h4 (by simpa using z)
theorem SR.unblock (I:SR Γ B G H σ env β){br:Nat->Bool}(hD:H Da=none)(J:SR (Γ.hG (upd H Da (.lst [])) G (Da :: B.toList) br B) B Gc Hc σ' envb β'):SR Γ B Gc Hc σ env β'/\gW B H Hc/\Gc Da=none:=by
 obtain⟨q1,q2,q3,q4⟩:=I.fresh hD
 have up:∀{b:Addr},Mx H b->Mx (upd H Da (.lst [])) b:=fun {b} h=>h.same fun o e=>by rw[az (aF e hD)];exact e
 have mv:gW B H Hc:=fun b o e n=>J.keep b o (show upd H Da (.lst []) b=some o by rw[az (aF e hD)];exact e) fun hm=>by
  rcases List.mem_cons.mp hm with z |z
  ·rw[z,hD] at e;cases e
  ·exact n (by simpa using z)
 refine⟨⟨J.sub,I.old.trans J.old,fun b h1 h2=>J.new b (up (I.thereM h1)) (I.new b h1 h2),fun b o h1 h2=>mv b o (I.keep b o h1 h2) fun z=>?_,fun b hb=>J.thereM (up (I.pin b hb)),I.fix,fun b e=>?_,I.len,fun i s e=>?_,I.sep⟩,mv,J.new Da (Mx.lst (show upd H Da (.lst []) Da=some (.lst []) from aw)) q2⟩
 ·obtain⟨_,_,h3⟩:=I.box b z
  rcases h3 with h3 |h3
  ·exact h2 h3
  ·rw[h1] at h3;cases h3
 ·obtain⟨j1,j2,_⟩:=J.box b e
  exact⟨j1,j2,(I.box b e).2.2⟩
 ·have w:=I.slot i s e
  cases s with
  |no=>trivial
  |fz d=>obtain⟨v,h1,h2⟩:=w;exact⟨v,h1,h2.mono J.old⟩
  |bx=>exact w
  |ow d=>
   obtain⟨a,h1,h2,h3,h4,h5⟩:=w
   exact⟨a,h1,h2,J.new a (up h5.mx) h3,h4,h5.mono J.old fun o q=>mv a o q h4⟩
  |br d=>
   obtain⟨b1,a,h1,h4,hp,h5⟩:=w
   exact⟨b1,a,h1,h4,hp,h5.mono J.old fun o q=>mv a o q h4⟩
theorem SR.updD {ys:List V}(J:SR Γ B G H σ env β)(hp:Da∈Γ.par)(h0:Mx Γ.H0 Da)(g0:Γ.G0 Da=none)(hB:B≠some Da):SR Γ B G (upd H Da (.lst ys)) σ env β:=by
 have gD:=J.new Da h0 g0
 refine⟨fun b u q=>by rw[az (fun z=>by rw[z,gD] at q;cases q)];exact J.sub b u q,J.old,J.new,fun b u q n=>by rw[az (fun z=>n (by rw[z];exact hp))];exact J.keep b u q n,fun b hb=>?_,J.fix,fun b e=>?_,J.len,fun i s e=>?_,J.sep⟩
 ·by_cases z:b=Da
  ·subst z;exact Mx.lst aw
  ·exact (J.pin b hb).same fun o e=>by rw[az z];exact e
 ·obtain⟨h1,h2⟩:=J.box b e
  exact⟨by rw[az (fun z=>hB (by rw[<-z];exact e))];exact h1,h2⟩
 ·have w:=J.slot i s e
  cases s with
  |no=>trivial
  |fz d=>exact w
  |bx=>exact w
  |ow d=>
   obtain⟨a,h1,h2,h3,h4,h5⟩:=w
   have aD:a≠Da:=fun z=>h0.1 (by rw[<-z];exact h2)
   exact⟨a,h1,h2,h3,h4,h5.mono (ak.refl _) fun o q=>by rw[az aD];exact q⟩
  |br d=>
   obtain⟨b1,a,h1,h4,hpa,h5⟩:=w
   have aD:a≠Da:=fun z=>hpa (by rw[z];exact hp)
   exact⟨b1,a,h1,h4,hpa,h5.mono (ak.refl _) fun o q=>by rw[az aD];exact q⟩
end
def R.okb {α γ:Type}(r:R α)(k:α->Int->R γ):R γ:=match r with
 | .ok a β=>k a β
 |_=>.bad
def fm (t:Tg)(ft:VF Bool)(fe:VF D)(vs:List Nv):List D->Int->R (List D)
 | [],β=>.ok [] β
 |d :: ds,β=>match kG t d vs with
  |none=>.bad
  |some vs1=>(ft vs1 β).okb fun c β1=>if c=true then (fe vs1 β1).okb fun x β2=>(fm t ft fe vs ds β2).okb fun xs β3=>.ok (x :: xs) β3 else fm t ft fe vs ds β1
def aG (own:Nat)(ixs:List Nat)(t:Tg)(fi:VF (List D))(ft:VF Bool)(fe:VF D):VF D:=fun vs β=>(fi vs β).bnd fun ds β1=>if ds.length<=sizeLine then (fm t ft fe (eS own ixs vs) ds β1).okb fun xs β2=>.ok (.list xs) β2 else .bad
def gy:VF Bool:=fun _ β=>.ok true β
def CC (own:Nat)(ixs Lc:List Nat)(j:Nat):Bool:=decide (j < own) || (match ixs[j - own]? with
 |some i=>Lc.contains i
 |none=>false)
theorem BP {α γ:Type}{Γ:Fx}{E:XK}{r:R α}{k:α->Int->R γ}{P:γ->Int->Prop}(h:Out Γ E (r.okb k) P):∃a β,r=.ok a β/\Out Γ E (k a β) P:=by
 cases r with
 |ok a β=>exact⟨a,β,rfl,h⟩
 |exc c=>exact h.elim
 |bad=>exact h.elim
section
variable {X:Cx}{Γ:Fx}{E:XK}{tg iter elt:Expr}{ifs:List Expr}{scope:Scope}{NB:List Str}{own:Nat}{ixs Li Lc Lt Le:List Nat}{t:Tg}{fi:VF (List D)}{ft:VF Bool}{fe:VF D}{pos:Pos}
theorem cY {X:Cx}{Γ:Fx}{E:XK}:z8 X [] (qT Γ E gy []):=fun pins s σ H Q I ⟨env,G,B,β,J,o⟩=>pV pins s σ H Q I (o G H J (ak.refl _) (gW.refl _ _))
theorem mi {X:Cx}{Γ:Fx}{E:XK}{c:Expr}{ta:VF Bool}{L:List Nat}(h:xP X Γ E c ta L):z8 X [c] (qT Γ E ta L):=vd h
theorem o6 {NB:List Str}{scope:Scope}{C:Addr}{ex:List Addr}{s3:Shared}{H3:Hp}{pn:List (Addr×Obj)}{P:Program}{w:World}:Passes (l5 P w) (hG X NB scope C ex s3 H3 pn) E0:=fun pins σ H s e s' I h=>by
 obtain⟨_,_,_,_,_,_,_,_,_,q⟩:=h
 exact q.elim
abbrev gU (Γ:Fx)(t:Tg):TG:=fun v σ H Q=>∃H0 G0 par br bx,gT (Γ.hG H0 G0 par br bx) t v σ H Q
abbrev tU (Γ:Fx)(own:Nat)(ixs Lc:List Nat)(ft:VF Bool)(Lt:List Nat):TT:=fun σ H Q=>∃H0 G0 par br bx,(∀j,CC own ixs Lc j=true->br j=false)/\qT (Γ.hG H0 G0 par br bx) E0 ft Lt σ H Q
abbrev eU (Γ:Fx)(own:Nat)(ixs Lc:List Nat)(fe:VF D)(Le:List Nat):TE:=fun σ H Q=>∃H0 G0 par br bx,(∀j,CC own ixs Lc j=true->br j=false)/\pT (Γ.hG H0 G0 par br bx) E0 fe Le .v σ H Q
theorem CI {σ:St}{H:Hp}{Q:VK}(hLc:∀i,i∈Lc->Γ.br i=false)(h:pT Γ E (aG own ixs t fi ft fe) (Li ++ Lc) .w σ H Q):uk own ixs (iT Γ E fi Li .b) (gU Γ t) (tU Γ own ixs Lc ft Lt) (eU Γ own ixs Lc fe Le) σ H Q:=by
 obtain⟨env,G,B,β,I,o⟩:=h
 refine⟨env,G,B,β,I,o.bnd.imp fun ds β1 h J G1 H1 I1 s1 m1 wk Da hD=>?_⟩
 have wk:Walk Γ.K B G1 H1 ds J:=wk
 by_cases hz:ds.length<=sizeLine
 case neg=>rw[if_neg hz] at h;exact h.elim
 rw[if_pos hz] at h
 obtain⟨xs0,β0,e0,h⟩:=BP h
 have h:∀v G' H',SR Γ B G' H' σ (a7 (Li ++ Lc) env) β0->ak G G'->gW B H H'->VO Γ.K B H G' H' .w (.list xs0) v->Q v H':=h
 obtain⟨G2,I2,s2⟩:=I1.a7 Lc hLc
 rw[<-cI] at I2
 obtain⟨q1,q2,q3,q4⟩:=I2.fresh hD
 have Ib0:=I2.block own ixs hD
 generalize hbr:uh (benv own ixs (a7 (Li ++ Lc) env))=br at Ib0
 have hbo:∀j,CC own ixs Lc j=true->br j=false:=by
  intro j hj
  rw[<-hbr]
  unfold uh
  split
  ·rename_i d e
   exfalso
   unfold benv at e
   by_cases hjo:j < own
   ·rw[List.getElem?_append_left (by simpa using hjo),List.getElem?_replicate,if_pos hjo] at e;cases e
   ·rw[List.getElem?_append_right (by simpa using hjo),List.length_replicate,List.getElem?_map] at e
    unfold CC at hj
    rw[decide_eq_false hjo,Bool.false_or] at hj
    cases ek:ixs[j - own]? with
    |none=>rw[ek] at hj;cases hj
    |some k=>
     rw[ek] at hj e
     have hk:k∈Lc:=by simpa using hj
     have e:FD (a7 (Li ++ Lc) env)[k]? =.br d:=Option.some.inj e
     cases q:(a7 (Li ++ Lc) env)[k]? with
     |none=>rw[q] at e;cases e
     |some s=>
      rw[q] at e
      cases s with
      |no=>cases e
      |fz _=>cases e
      |bx=>cases e
      |br d'=>
       obtain⟨b1,_⟩:=I2.slot k _ q
       rw[hLc k hk] at b1;cases b1
      |ow d'=>
       rw[cI] at q
       have key:∀(M:List Nat) (en:En),k∈M->∀d',(a7 M en)[k]?≠some (.ow d'):=by
        intro M
        induction M with
        |nil=>intro en hm;cases hm
        |cons i M ih=>
         intro en hm d' z
         rcases List.mem_cons.mp hm with y |y
         ·subst y
          have z1:(iq en k)[k]? =some (.ow d'):=qI (L:=M) z
          have z2:=vm z1
          unfold iq at z1
          rw[z2] at z1
          dsimp only at z1
          rw[List.getElem?_set_self (List.getElem?_eq_some_iff.mp z2).1] at z1;cases z1
         ·exact ih (iq en i) y d' z
       exact key Lc _ hk d' q
  ·rfl
 have evb:vl (benv own ixs (a7 (Li ++ Lc) env))=eS own ixs (vl env):=by rw[BL,gm]
 refine⟨fun i n σ' H'=>n=ds.length - i/\i<=ds.length/\∃envb Gc β' acc accd,SR (Γ.hG (upd H1 Da (.lst [])) G2 (Da :: B.toList) br B) B Gc H' σ' envb β'/\(envb=benv own ixs (a7 (Li ++ Lc) env)\/∃d,fq t d (benv own ixs (a7 (Li ++ Lc) env))=some envb)/\
   H' Da=some (.lst acc)/\bL Γ.K Gc acc accd/\accd.length<=i/\∃xs,fm t ft fe (eS own ixs (vl env)) (ds.drop i) β'=.ok xs β0/\accd ++ xs=xs0,
  ⟨ds.length,by simp,Nat.zero_le _,_,G2,β1,[],[],Ib0,.inl rfl,aw,.nil,Nat.zero_le _,xs0,by rw[List.drop_zero];exact e0,rfl⟩,?_⟩
 rintro i n σ' H' ⟨rfl,hi',envb,Gc,β',acc,accd,Ib,eb,hacc,racc,lacc,xs,ec,exs⟩
 obtain⟨Io,mv,gD⟩:=I2.unblock hD Ib
 obtain⟨w1,w2⟩:=wk Gc H' i (s2.trans Ib.old) Ib.sub mv
 by_cases hlt:i < ds.length
 ·obtain⟨go,yl⟩:=w1 hlt
  refine .inr ⟨go,fun σ' H'=>∃envb Gc β' acc accd,SR (Γ.hG (upd H1 Da (.lst [])) G2 (Da :: B.toList) br B) B Gc H' σ' envb β'/\(envb=benv own ixs (a7 (Li ++ Lc) env)\/∃d,fq t d (benv own ixs (a7 (Li ++ Lc) env))=some envb)/\
   H' Da=some (.lst acc)/\bL Γ.K Gc acc accd/\accd.length<=i + 1/\∃xs,fm t ft fe (eS own ixs (vl env)) (ds.drop (i + 1)) β'=.ok xs β0/\accd ++ xs=xs0,fun σ2 H2 hh=>⟨ds.length - (i + 1),by omega,rfl,hlt,hh⟩,fun x H2 y=>?_⟩
  obtain⟨G3,d,x3,ed,rd⟩:=yl x H2 y
  have I3:=Ib.ext x3
  have ed':ds[i]=d:=by rw[List.getElem?_eq_getElem hlt] at ed;exact Option.some.inj ed
  rw[List.drop_eq_getElem_cons hlt,ed'] at ec
  unfold fm at ec
  cases ebv:kG t d (eS own ixs (vl env)) with
  |none=>rw[ebv] at ec;cases ec
  |some vs1=>
   rw[ebv] at ec
   dsimp only at ec
   obtain⟨env1,eb1,ev1⟩:∃env1,fq t d (benv own ixs (a7 (Li ++ Lc) env))=some env1/\vl env1=vs1:=by
    have:=BQ t d (benv own ixs (a7 (Li ++ Lc) env))
    rw[evb,ebv] at this
    cases q:fq t d (benv own ixs (a7 (Li ++ Lc) env)) with
    |none=>rw[q] at this;cases this
    |some env1=>rw[q] at this;exact⟨env1,rfl,Option.some.inj this⟩
   have eb2:fq t d envb=some env1:=by
    rcases eb with rfl | ⟨d0,eb⟩
    ·exact eb1
    ·rw[wJ eb];exact eb1
   have no1:tu env1:=wg (o5 _ _ _) eb1
   have a2:H2 Da=some (.lst acc):=x3.hh _ _ hacc
   refine⟨_,_,_,_,_,envb,G3,B,β',d,env1,I3,rd,eb2,fun σ3 I4=>?_⟩
   refine⟨_,_,_,_,_,hbo,env1,G3,B,β',I4,?_⟩
   rw[ev1]
   cases et:ft vs1 β' with
   |exc c=>rw[et] at ec;cases ec
   |bad=>rw[et] at ec;cases ec
   |ok c β2=>
    rw[et] at ec
    intro G4 H4 I5 s4 m4
    rw[rA no1] at I5
    have a4:H4 Da=some (.lst acc):=m4 _ _ a2 q3
    cases c with
    |false=>
     refine rj ⟨env1,G4,β2,acc,accd,I5,.inr ⟨d,eb1⟩,a4,racc.mono (x3.gg.trans s4),by omega,xs,?_,exs⟩
     exact ec
    |true=>
     refine si ⟨_,_,_,_,_,hbo,env1,G4,B,β2,I5,?_⟩
     rw[ev1]
     have ec:((fe vs1 β2).okb fun x β3=>(fm t ft fe (eS own ixs (vl env)) (ds.drop (i + 1)) β3).okb fun xs β4=>R.ok (x :: xs) β4)=R.ok xs β0:=ec
     cases ee:fe vs1 β2 with
     |exc c=>rw[ee] at ec;cases ec
     |bad=>rw[ee] at ec;cases ec
     |ok dx β3=>
      rw[ee] at ec
      intro v G5 H5 I6 s5 m5 vo
      rw[rA no1] at I6
      have a5:H5 Da=some (.lst acc):=m5 _ _ a4 q3
      have ec:((fm t ft fe (eS own ixs (vl env)) (ds.drop (i + 1)) β3).okb fun xs β4=>R.ok (dx :: xs) β4)=R.ok xs β0:=ec
      cases er:fm t ft fe (eS own ixs (vl env)) (ds.drop (i + 1)) β3 with
      |exc c=>rw[er] at ec;cases ec
      |bad=>rw[er] at ec;cases ec
      |ok ys β4=>
       rw[er] at ec
       cases ec
       refine⟨acc,a5,by rw[racc.len];omega,env1,G5,β3,acc ++ [v],accd ++ [dx],?_,.inr ⟨d,eb1⟩,aw,(racc.mono ((x3.gg.trans s4).trans s5)).snoc vo,by rw[List.length_append];simp;omega,ys,er,by rw[<-exs,List.append_assoc];rfl⟩
       refine I6.updD (List.mem_cons_self ..) (Mx.lst (show upd H1 Da (.lst []) Da=some (.lst []) from aw)) (I2.sub.free hD) q3
 ·have e:i=ds.length:=by omega
  subst e
  rw[List.drop_length] at ec
  cases ec
  rw[List.append_nil] at exs
  subst exs
  refine .inl ⟨w2 (Nat.le_refl _),⟨acc,hacc⟩,h _ Gc H' Io ((s1.trans s2).trans Ib.old) (m1.trans mv) ⟨Da,rfl,dQ m1 I1.boxThere hD,gD,acc,hacc,racc⟩⟩
theorem bU (hg:∀H0 G0 par br bx C ex s3 H3 pn,SG (hG X NB scope C ex s3 H3 pn) (Γ.hG H0 G0 par br bx) tg t)(C:Addr)(ex:List Addr)(s3:Shared)(H3:Hp)(pn:List (Addr×Obj)):PG (hG X NB scope C ex s3 H3 pn) tg (gU Γ t):=by
 rintro pins s σ H v u Q I r ⟨H0,G0,par,br,bx,q⟩
 exact hg H0 G0 par br bx C ex s3 H3 pn pins s σ H v u Q I r q
theorem cj (Lc:List Nat)(hc:X.calm=true)(S:cW X NB own ixs scope)(hLc:∀i,i∈Lc->Γ.br i=false)(hi:SI X Γ E tg iter fi Li .b)
  (hg:∀H0 G0 par br bx C ex s3 H3 pn,SG (hG X NB scope C ex s3 H3 pn) (Γ.hG H0 G0 par br bx) tg t)
  (ht:∀H0 G0 par br bx C ex s3 H3 pn,(∀j,CC own ixs Lc j=true->br j=false)->z8 (hG X NB scope C ex s3 H3 pn) ifs (qT (Γ.hG H0 G0 par br bx) E0 ft Lt))
  (he:∀H0 G0 par br bx C ex s3 H3 pn,(∀j,CC own ixs Lc j=true->br j=false)->SE (hG X NB scope C ex s3 H3 pn) (Γ.hG H0 G0 par br bx) E0 elt fe Le .v)
  (hs:∀x,foldedSetIterable iter X.env x=pure x:=by intro _;rfl) :
  SE X Γ E (.ListComp elt [⟨tg,iter,ifs,0⟩] scope pos) (aG own ixs t fi ft fe) (Li ++ Lc) .w:=by
 refine PE.post' (sg (g:=gU Γ t) (tt:=tU Γ own ixs Lc ft Lt) (te:=eU Γ own ixs Lc fe Le) hc S hi (bU hg) (fun C ex s3 H3 pn=>?_) (fun C ex s3 H3 pn=>?_) hs) fun σ H Q h=>CI hLc h
 ·rintro pins s σ H Q I ⟨H0,G0,par,br,bx,b,q⟩
  exact ht H0 G0 par br bx C ex s3 H3 pn b pins s σ H Q I q
 ·rintro pins s σ H Q I ⟨H0,G0,par,br,bx,b,q⟩
  exact he H0 G0 par br bx C ex s3 H3 pn b pins s σ H Q I q
theorem vD {i:Nat}{y:Str}{py spos:Pos}(Lc:List Nat)(hc:X.calm=true)(S:cW X NB own ixs scope)(hLc:∀i,i∈Lc->Γ.br i=false)(hi:SI X Γ E tg iter fi Li .b)
  (hg:∀H0 G0 par br bx C ex s3 H3 pn,SG (hG X NB scope C ex s3 H3 pn) (Γ.hG H0 G0 par br bx) tg t)
  (ht:∀H0 G0 par br bx C ex s3 H3 pn,(∀j,CC own ixs Lc j=true->br j=false)->z8 (hG X NB scope C ex s3 H3 pn) ifs (qT (Γ.hG H0 G0 par br bx) E0 ft Lt))
  (he:∀H0 G0 par br bx C ex s3 H3 pn,(∀j,CC own ixs Lc j=true->br j=false)->SE (hG X NB scope C ex s3 H3 pn) (Γ.hG H0 G0 par br bx) E0 elt fe Le .v)
  (hN:X.N.Nodup) (hy:X.N[i]? =some y:=by rfl) (hl:X.env.scope.names.lookup y=some .local:=by rfl)
  (hsw:swapsWith (.ListComp elt [⟨tg,iter,ifs,0⟩] scope pos) (some (.Name y py)) spos.line X.env=pure true:=by rfl)
  (hs:∀x,foldedSetIterable iter X.env x=pure x:=by intro _;rfl) :
  SS X Γ E (.Assign [.Name y py] (.ListComp elt [⟨tg,iter,ifs,0⟩] scope pos) spos) (aZ i (Li ++ Lc) (aG own ixs t fi ft fe)):=by
 refine PS.post (z0 (g:=gU Γ t) (tt:=tU Γ own ixs Lc ft Lt) (te:=eU Γ own ixs Lc fe Le) hc S hi (bU hg) (fun C ex s3 H3 pn=>?_) (fun C ex s3 H3 pn=>?_) hN hy hl hsw hs) fun N σ H ⟨env,G,B,β,I,o⟩=>?_
 ·rintro pins s σ H Q I ⟨H0,G0,par,br,bx,b,q⟩
  exact ht H0 G0 par br bx C ex s3 H3 pn b pins s σ H Q I q
 ·rintro pins s σ H Q I ⟨H0,G0,par,br,bx,b,q⟩
  exact he H0 G0 par br bx C ex s3 H3 pn b pins s σ H Q I q
 refine CI hLc ⟨env,G,B,β,I,bK o fun d β' k v G' H' I' s' m' vo=>?_⟩
 obtain⟨G2,I2,s2,r⟩:=I.letW I' vo
 exact k B G2 H' _ (I2.set' i r) (s'.trans s2)
end
end L2

end

section
namespace L2
open PySem PySem.Spec PyProof.Rows
def fin:SO->FR
 | .nx _ _=>.ok .none false
 | .rt d fr _=>.ok d fr
 | .exc c=>.exc c
 |_=>.bad
def v5 (n:Nat)(ds:List D):En:=ds.map Sl.fz ++ List.replicate (n - ds.length) .no
def bJ (n p:Nat)(m:SF):List D->FR:=fun ds=>if ds.length=p then fin (m (v5 n ds) 0) else .bad
abbrev Fx.fn (K:PySem.W.Frag)(H G:Hp)(ca:Str->Addr):Fx:=⟨K,H,G,[],ca,fun _=>false,none⟩
theorem SR.start {K:PySem.W.Frag}{H G:Hp}{ca:Str->Addr}{N:List Str}{vs:List V}{ds:List D}(s:ak G H)(r:bL K G vs ds)(hn:ds.length<=N.length):SR (Fx.fn K H G ca) none G H (start N vs) (v5 N.length ds) 0:=by
 have hl:=r.len
 refine⟨s,ak.refl _,fun b _ h=>h,fun b o h _=>h,fun b h=>(by cases h),fun b h=>(by cases h),fun b h=>(by cases h),?_,fun i t e=>?_,fun i j a d e h=>?_⟩
 ·unfold L2.start v5;simp;omega
 ·unfold v5 at e
  by_cases hi:i < ds.length
  ·rw[List.getElem?_append_left (by simpa using hi),List.getElem?_map,List.getElem?_eq_getElem hi] at e
   cases e
   obtain⟨x,hx,rx⟩:=r.at (List.getElem?_eq_getElem hi)
   refine⟨x,?_,rx⟩
   unfold L2.start
   rw[List.getElem?_append_left (by simpa[hl] using hi),List.getElem?_map,hx];rfl
  ·rw[List.getElem?_append_right (by simpa using hi),List.getElem?_replicate] at e
   split at e
   ·cases e;trivial
   ·cases e
 ·unfold v5 at h
  have hm:=List.mem_of_getElem? h
  rcases List.mem_append.mp hm with z |z
  ·obtain⟨_,_,z⟩:=List.mem_map.mp z;cases z
  ·have:=List.eq_of_mem_replicate z;cases this
section
variable {P:Program}{w:World}{K:PySem.W.Frag}{mg:Str->Option Value}{base:Heap}{ca:Str->Addr}
theorem bu {x qual:Str}{st:Stmt}{f:Addr}{fd:FuncData}{N ps:List Str}{k:Nat}{m:SF}(F:Ay K x qual st f fd)(S:aL N ps (ax st))
  (hbody:∀(cdv:Value) (A:Around) (outer:List Env) (s:Shared) (H G:Hp) (E:XK),eJ k (A.deeper (envOfC qual (ax st) s.heap.objs.size f cdv))->Az (jO (l5 P w) P w K mg base N qual (ax st) f cdv A outer s H E) (Fx.fn K H G ca) E (cL st) m) :
  fx P w K mg base (l5 P w) (k + 1) f fd ps (AB K ca ps.length (bJ N.length ps.length m)):=by
 have hpn:ps.length<=N.length:=by have:=congrArg List.length S.pre;rw[List.length_take] at this;omega
 refine F.xQ S (fun vs H Q E h=>?_) (fun cdv A outer s H vs Q E hr h=>?_)
 ·obtain⟨G,ds,sG,hl,r,_⟩:=h
  rw[r.len];exact hl
 ·obtain⟨G,ds,sG,hl,r,h⟩:=h
  refine⟨_,hbody cdv A outer s H G E hr,?_⟩
  have I:=SR.start (ca:=ca) (N:=N) sG r (by omega)
  refine⟨_,G,none,0,I,?_⟩
  unfold bJ at h
  rw[if_pos hl] at h
  have fin':∀{B G' H' σ env β},SR (Fx.fn K H G ca) B G' H' σ env β->ak H H':=fun J b o e=>J.keep b o e (fun z=>by cases z)
  cases q:m (v5 N.length ds) 0 with
  |nx env β=>rw[q] at h;exact fun B G' H' σ J s'=>h .non G' H' (fin' J) s' J.sub (fun b h1 h2=>J.new b h1 h2) Rp.non
  |bk env β=>rw[q] at h;exact h.elim
  |ct env β=>rw[q] at h;exact h.elim
  |rt d fr β=>
   rw[q] at h
   refine fun B G' H' σ env v J s' rv=>h v G' H' (fin' J) s' J.sub (fun b h1 h2=>J.new b h1 h2) ?_
   cases fr with
   |true=>exact rv
   |false=>exact rv
  |exc c=>rw[q] at h;exact fun H' kp=>h H' fun b o e=>kp b o e (fun z=>by cases z)
  |bad=>rw[q] at h;exact h.elim
theorem Bz {n:Nat}{F F':List D->FR}(h:∀ds,ds.length=n->F' ds≠.bad->F ds=F' ds){vs:List V}{H:Hp}{Q:VK}{E:XK}(q:AB K ca n F' vs H Q E):AB K ca n F vs H Q E:=by
 obtain⟨G,ds,s,hl,r,q⟩:=q
 refine⟨G,ds,s,hl,r,?_⟩
 by_cases hb:F' ds=.bad
 ·rw[hb] at q;exact q.elim
 ·rw[h ds hl hb];exact q
theorem fV.imp {x:Str}{ps:List Str}{k:Nat}{F F':List D->FR}(h:fV P w K mg base ca x ps k F)(i:∀ds,F' ds≠.bad->F ds=F' ds):fV P w K mg base ca x ps k F':=by
 obtain⟨f,fd,a,b,c,d⟩:=h.ex
 exact⟨⟨f,fd,a,b,c,d.imp fun vs H Q E q=>Bz (fun ds _=>i ds) q⟩,fun ds hn=>h.len ds (by rw[i ds hn];exact hn)⟩
theorem a9 {n p:Nat}{m:SF}(ds:List D)(h:bJ n p m ds≠.bad):ds.length=p:=by
 unfold bJ at h
 by_cases hl:ds.length=p
 ·exact hl
 ·rw[if_neg hl] at h;exact absurd rfl h
theorem Am {N:List Str}{qual:Str}{scope:Scope}{f:Addr}{cd:Value}{A:Around}{outer:List Env}{s0:Shared}{H0:Hp}{E:XK}{Γ:Fx}{x:Str}{C:Addr}{np cpos pos:Pos}{e0:Expr}{es:List Expr}{fr:VF (List D)}{L:List Nat}(q:PySem.W.excIn K C [.type "ValueError",.type "Exception",.type "BaseException",.type "object"] "ValueError.__new__"=true)(hca:Γ.ca x=C)
  (hg:Gl (jO (l5 P w) P w K mg base N qual scope f cd A outer s0 H0 E) x) (hm:mg x=some (.ref C)) (ha:SA (jO (l5 P w) P w K mg base N qual scope f cd A outer s0 H0 E) Γ E (e0 :: es) fr L)
  (he:starEach (e0 :: es) (envOfC qual scope s0.heap.objs.size f cd)=(false,eval e0 (envOfC qual scope s0.heap.objs.size f cd)) :: starEach es (envOfC qual scope s0.heap.objs.size f cd):=by rfl)
  (hpl:(backTo cpos (starEach es (envOfC qual scope s0.heap.objs.size f cd))).any (·.1)=false:=by rfl) (hdb:(x == ("__debug__":Str))=false:=by decide) :
  SS (jO (l5 P w) P w K mg base N qual scope f cd A outer s0 H0 E) Γ E (.Raise (some (.Call (.Name x np) (e0 :: es) [] cpos)) none pos) (fun env β=>toS (fr (vl env) β) fun ds _=>if ds.length<=sizeLine then .exc x else .bad):=by
 refine PS.post (yk PySem.F.excBase_ValueError (by decide +kernel) q hg hm ha he hpl hdb) fun D σ H ⟨env,G,B,β,I,o⟩=>?_
 refine⟨env,G,B,β,I,bK o fun ds β' k vs G' H' I' s' m' r=>?_⟩
 by_cases hz:ds.length<=sizeLine
 ·rw[if_pos hz] at k
  refine⟨by rw[r.len];exact hz,?_⟩
  have:=k H' (I'.kp (ak.refl _))
  rw[hca] at this
  exact this
 ·rw[if_neg hz] at k;exact k.elim
end
section
variable {X:Cx}{Γ:Fx}{E:XK}{e a b c:Expr}{f fa fb:VF D}{L La Lb:List Nat}{md ma mb:Md}{pos apos cpos np:Pos}
def pQ:Option Sl->Bool
 |some (.ow (.list _))=>true
 |_=>false
theorem mq {o:Option Sl}(h:pQ o=true):∃ds,o=some (.ow (.list ds)):=by
 cases o with
 |none=>cases h
 |some s=>
  cases s with
  |ow d=>cases d with
   |list ds=>exact⟨ds,rfl⟩
   |_=>cases h
  |_=>cases h
def D0 (i:Nat)(env:En)(β:Int)(g:List D->Option (List D)):SO:=match env[i]? with
 |some (.ow (.list ds))=>(match g ds with
  |some es=>.nx (env.set i (.ow (.list es))) β
  |none=>.bad)
 |_=>.bad
def l7 (i:Nat)(L:List Nat)(f:VF D):SF:=fun env β=>if pQ env[i]? =true then toS (f (vl env) β) fun d β'=>D0 i (a7 L env) β' fun ds=>if ds.length < sizeLine then some (ds ++ [d]) else none else .bad
theorem pN {Γ:Fx}{E:XK}{G:Hp}{N:Ends}{i:Nat}{env:En}{β:Int}{g:List D->Option (List D)}(h:mC Γ E G N (D0 i env β g)):∃ds es,env[i]? =some (.ow (.list ds))/\g ds=some es/\mC Γ E G N (.nx (env.set i (.ow (.list es))) β):=by
 unfold D0 at h
 split at h
 ·rename_i ds q
  cases e:g ds with
  |none=>rw[e] at h;exact h.elim
  |some es=>rw[e] at h;exact⟨ds,es,q,e,h⟩
 ·exact h.elim
theorem lH (i:Nat){x:Str}(hb:∀j,Γ.br j=false)(he:SE X Γ E e f L .v)(hN:X.N[i]? =some x:=by rfl)(hv:tM X.env.scope x:=by first |exact Or.inl rfl |exact Or.inr (Or.inl rfl) |exact Or.inr (Or.inr rfl))(hd:(x == ("__debug__":Str))=false:=by decide)
  (hcd:(x == ("__classdict__":Str))=false:=by decide)
  (hbase:attributeBase (.Name x np) "append" X.env (eval (.Name x np) X.env)=eval (.Name x np) X.env:=by rfl)
  (hfew:((backTo cpos (starEach [e] X.env)).all (fun x=> !x.1) && (backToKw cpos (keywordEach [] X.env)).all (fun x=>x.1.isSome)
   && decide ([e].length + ([]:List Keyword).length + (if ([]:List Keyword).isEmpty then 0 else 1) < 30))=true:=by rfl)
  (hline:(apos.endLine == cpos.line)=true:=by rfl) (hs:starEach [e] X.env=(false,eval e X.env) :: starEach [] X.env:=by rfl)
  (hsw:swapsWith (.Call (.Attribute (.Name x np) "append" apos) [e] [] cpos) none pos.line X.env=pure false:=by rfl) :
  SS X Γ E (.Expr (.Call (.Attribute (.Name x np) "append" apos) [e] [] cpos) pos) (l7 i L f):=by
 refine PS.post (pU (zD PySem.F.plainAttrs_list PySem.F.slot_list_append PySem.F.type_list_append lx (hJ hN hv hd hcd) (aJ he bg hs) hbase hfew hline hs rfl) hsw) fun N σ H ⟨env,G,B,β,I,o⟩=>?_
 unfold l7 at o
 by_cases hO:pQ env[i]? =true
 case neg=>rw[if_neg hO] at o;exact o.elim
 rw[if_pos hO] at o
 obtain⟨ds0,q0⟩:=mq hO
 obtain⟨p,h1,_,_,_,xs,h5,_⟩:=I.slot i _ q0
 refine⟨_,h1,.inl ⟨rfl,xs,.inl (.inl h5)⟩,?_⟩
 refine⟨env,G,B,β,I,bK o fun d β' k v G' H' I' s' m' vo=>?_⟩
 obtain⟨ds,es,q,eg,k⟩:=pN k
 by_cases hz:ds.length < sizeLine
 case neg=>rw[if_neg hz] at eg;cases eg
 rw[if_pos hz] at eg
 cases eg
 obtain⟨p',g1,_,_,_,ys,g5,g6⟩:=I'.slot i _ q
 rw[h1] at g1;cases g1
 refine⟨p,ys,v,rfl,rfl,g5,by rw[g6.len];exact hz,?_⟩
 exact k B G' _ σ (I'.write hb q h1 fun H2 e2 s2=>⟨_,e2,g6.snoc vo⟩) s'
theorem Inv.lstR {pins:List (Addr×Obj)}{σ:St}{H:Hp}{s:Shared}{l:Addr}{xs:List V}(I:Inv X pins σ H s)(hH:Rd H l (.lst xs)):xs.length<=sizeLine/\∃(its:List Value) (n:Nat),Vals xs its/\xs.length=its.length/\s.heap.get? l=some {cls:=.type "list",data:=.seq its.toArray n}:=by
 obtain⟨z,its,n,r,e⟩:=hH.ok I.hok
 exact⟨z,its,n,r,r.length,e⟩
end
end L2

end

section
namespace L2
open PySem PySem.Spec PyProof.Rows
section
variable {K:PySem.W.Frag}{X:Cx}
theorem qP {g:Int->Int->V}{gd:D->D->Option D}(h:∀dx dy d,gd dx dy=some d->∃i j,dx=.int i/\dy=.int j/\∀G,Rp K G (g i j) d):lY K (w8 g) gd .v:=by
 intro B G H x y dx dy d Q s hB bx by' e k
 obtain⟨i,j,rfl,rfl,r⟩:=h _ _ _ e
 obtain rfl:=bx.int
 obtain rfl:=by'.int
 exact⟨i,j,rfl,rfl,k _ G H (Ext.refl s) (r G)⟩
theorem vG {C:Int->Int->Prop}{g:Int->Int->V}{gd:D->D->Option D}(h:∀dx dy d,gd dx dy=some d->∃i j,dx=.int i/\dy=.int j/\C i j/\∀G,Rp K G (g i j) d):lY K (rI C g) gd .v:=by
 intro B G H x y dx dy d Q s hB bx by' e k
 obtain⟨i,j,rfl,rfl,c,r⟩:=h _ _ _ e
 obtain rfl:=bx.int
 obtain rfl:=by'.int
 exact⟨i,j,rfl,rfl,c,k _ G H (Ext.refl s) (r G)⟩
def gI (c:Int->Int->Bool)(g:Int->Int->D):D->D->Option D
 | .int i,.int j=>if c i j=true then some (g i j) else none
 |_,_=>none
def tZ (g:Int->Int->D):D->D->Option D
 | .int i,.int j=>some (g i j)
 |_,_=>none
theorem uR {c:Int->Int->Bool}{g:Int->Int->D}{dx dy d:D}(h:gI c g dx dy=some d):∃i j,dx=.int i/\dy=.int j/\c i j=true/\d=g i j:=by
 unfold gI at h
 split at h
 ·split at h
  ·cases h;exact⟨_,_,rfl,rfl,by assumption,rfl⟩
  ·cases h
 ·cases h
theorem j3 {g:Int->Int->D}{dx dy d:D}(h:tZ g dx dy=some d):∃i j,dx=.int i/\dy=.int j/\d=g i j:=by
 unfold tZ at h
 split at h
 ·cases h;exact⟨_,_,rfl,rfl,rfl⟩
 ·cases h
def zl:D->D->Option D:=tZ fun i j=>.int (i - j)
theorem Ek:lY K (w8 fun i j=>.int (i - j)) zl .v:=qP fun dx dy d h=>by obtain⟨i,j,rfl,rfl,rfl⟩:=j3 h;exact⟨i,j,rfl,rfl,fun _=>.int _⟩
def xN:D->D->Option D:=gI (fun _ j=>decide (0 < j) && decide (j < 1073741824)) fun i j=>.int (i / j)
theorem Bb:lY K (rI Cf fun i j=>.int (i / j)) xN .v:=vG fun dx dy d h=>by obtain⟨i,j,rfl,rfl,c,rfl⟩:=uR h;exact⟨i,j,rfl,rfl,by simpa[Cf] using c,fun _=>.int _⟩
def j5:D->D->Option D:=gI (fun _ j=>decide (0 < j)) fun i j=>.int (i % j)
theorem oR:lY K (rI (fun _ j=>0 < j) fun i j=>.int (i % j)) j5 .v:=vG fun dx dy d h=>by obtain⟨i,j,rfl,rfl,c,rfl⟩:=uR h;exact⟨i,j,rfl,rfl,by simpa using c,fun _=>.int _⟩
def C1 (i j:Int):Bool:=decide (0<=j) && decide (j<=1000000) && decide (i.natAbs < 2 ^ 64)
def yZ:D->D->Option D:=gI C1 fun i j=>.int (i ^ j.toNat)
theorem Bq {i j:Int}(h:C1 i j=true):C3 i j:=by
 unfold C1 at h
 simp only[Bool.and_eq_true,decide_eq_true_eq] at h
 exact⟨h.1.1,h.1.2,h.2⟩
theorem E6:lY K (rI C3 fun i j=>.int (i ^ j.toNat)) yZ .v:=vG fun dx dy d h=>by obtain⟨i,j,rfl,rfl,c,rfl⟩:=uR h;exact⟨i,j,rfl,rfl,Bq c,fun _=>.int _⟩
def qt:D->D->Option D:=tZ fun i j=>.bool (decide (i < j))
def Ab:D->D->Option D:=tZ fun i j=>.bool (decide (i<=j))
def Ef:D->D->Option D:=tZ fun i j=>.bool (decide (j < i))
theorem tJ:lY K (w8 fun i j=>.bl (decide (i < j))) qt .v:=qP fun dx dy d h=>by obtain⟨i,j,rfl,rfl,rfl⟩:=j3 h;exact⟨i,j,rfl,rfl,fun _=>.bl _⟩
theorem Dx:lY K (w8 fun i j=>.bl (decide (i<=j))) Ab .v:=qP fun dx dy d h=>by obtain⟨i,j,rfl,rfl,rfl⟩:=j3 h;exact⟨i,j,rfl,rfl,fun _=>.bl _⟩
theorem GB:lY K (w8 fun i j=>.bl (decide (j < i))) Ef .v:=qP fun dx dy d h=>by obtain⟨i,j,rfl,rfl,rfl⟩:=j3 h;exact⟨i,j,rfl,rfl,fun _=>.bl _⟩
mutual
theorem vR:∀d:D,d.canLay0=true->xI d=true
 | .none,_=>rfl
 | .bool _,_=>rfl
 | .int _,_=>rfl
 | .str _,_=>rfl
 | .list ds,h=>by simp only[PyData.canLay0] at h;simp only[xI];exact nQ ds h
 | .tuple ds,h=>by simp only[PyData.canLay0] at h;simp only[xI];exact nQ ds h
 | .dict _,h=>by simp[PyData.canLay0] at h
theorem nQ:∀ds:List D,PyData.canLayAll0 ds=true->rb ds=true
 | [],_=>rfl
 |d :: ds,h=>by
  simp only[PyData.canLayAll0,Bool.and_eq_true] at h
  simp only[rb,Bool.and_eq_true]
  exact⟨vR d h.1,nQ ds h.2⟩
end
theorem zz {d:D}(h:SeqAt.shaped d=true):xI d=true:=vR d (SeqAt.canLay_of_shaped h)
def dv (neg:Bool)(x y:D):Option D:=if (SeqAt.shaped x && SeqAt.shaped y)=true then some (.bool (if neg then !PyData.eqv x y else PyData.eqv x y)) else none
theorem ip {neg:Bool}:lY K (D1 K neg) (dv neg) .v:=by
 intro B G H x y dx dy d Q s hB bx by' e k
 unfold dv at e
 split at e
 ·rename_i h
  rw[Bool.and_eq_true] at h
  cases e
  exact⟨dx,dy,(bx.rpH s).rep (zz h.1),(by'.rpH s).rep (zz h.2),h.1,h.2,k _ G H (Ext.refl s) (.bl _)⟩
 ·cases e
theorem kc.seq {B:Option Addr}{G H:Hp}{v:V}{d:D}{ds:List D}(h:kc K B G H v d)(e:l9 d=some ds)(s:ak G H):∃a xs,v=.ref a/\(gu K H a xs\/fG K H a xs)/\bL K G xs ds:=by
 cases d with
 |list l=>cases e;obtain⟨a,xs,e,q,r⟩:=h.list s;exact⟨a,xs,e,.inl (.inl q),r⟩
 |tuple l=>cases e;obtain⟨a,xs,e,q,r⟩:=h.tuple s;exact⟨a,xs,e,.inr q,r⟩
 |_=>cases e
def AH:D->Bool
 | .none=>true
 |_=>false
theorem bL.ints {G:Hp}:∀ns:List Int,bL K G (ns.map V.int) (ns.map PyData.int)
 | []=>.nil
 |n :: ns=>.cons (.int n) (bL.ints ns)
theorem wX.noNone {G:Hp}{kvs:List (Key×V)}{d:D}{r:List (D×D)}(h:wX K G kvs ((.none,d) :: r)):False:=by
 generalize e:(PyData.none,d) :: r=l at h
 cases h with
 |nil=>cases e
 | @cons k x xs d' ds _ _=>
  injection e with e1 _
  injection e1 with e2 _
  cases k <;> cases e2
theorem xM.noNone {G:Hp}{kvs:List (List Key×V)}{d:D}{r:List (D×D)}(h:xM K G kvs ((.none,d) :: r)):False:=by
 generalize e:(PyData.none,d) :: r=l at h
 cases h with
 |nil=>cases e
 | @cons k x xs d' ds _ _=>
  injection e with e1 _
  injection e1 with e2 _
  cases e2
theorem kc.scr {B:Option Addr}{G H:Hp}{v:V}{ds:List D}(h:kc K B G H v (.dict [(.none,.list ds)]))(s:ak G H):∃a xs,v=.ref a/\gu K H a xs/\bL K G xs ds:=by
 rcases h with h | ⟨a,rfl,n,h⟩
 ·cases h with
  | @scr a ns q=>exact⟨a,_,rfl,s.seq q,bL.ints ns⟩
  |dK _ r=>exact r.noNone.elim
  |dT _ r=>exact r.noNone.elim
 ·rcases h with⟨_,_,r⟩ | ⟨_,_,r⟩
  ·exact r.noNone.elim
  ·exact r.noNone.elim
def bz:D->D->Option D
 | .list ds,.int i=>jA ds i
 | .tuple ds,.int i=>jA ds i
 | .str z,.int i=>if z.length<=sizeLine then (jA z.cps.toList i).map fun c=>.str ⟨#[c]⟩ else none
 | .dict [(.none,.list ds)],.int i=>jA ds i
 |_,_=>none
theorem p7 {G:Hp}{xs:List V}{ds:List D}{i:Int}{d:D}(r:bL K G xs ds)(h:jA ds i=some d):∃x,jA xs i=some x/\Rp K G x d:=by
 unfold jA at h ⊢
 rw[r.len]
 cases e:sx ds.length i with
 |none=>rw[e] at h;cases h
 |some j=>rw[e] at h;exact r.at h
theorem cC:lY K (Hi K) bz .v:=by
 intro B G H x y dx dy d Q s hB bx by' e k
 cases dx with
 |list ds=>
  cases dy with
  |int i=>
   obtain rfl:=by'.int
   obtain⟨a,xs,rfl,q,r⟩:=bx.list s
   obtain⟨v,ev,rv⟩:=p7 r e
   exact .inl ⟨a,xs,i,v,rfl,rfl,.inl q,ev,k _ G H (Ext.refl s) rv⟩
  |_=>cases e
 |tuple ds=>
  cases dy with
  |int i=>
   obtain rfl:=by'.int
   obtain⟨a,xs,rfl,q,r⟩:=bx.tuple s
   obtain⟨v,ev,rv⟩:=p7 r e
   exact .inr (.inl ⟨a,xs,i,v,rfl,rfl,q,ev,k _ G H (Ext.refl s) rv⟩)
  |_=>cases e
 |str z=>
  cases dy with
  |int i=>
   obtain rfl:=by'.int
   obtain rfl:=bx.str
   simp only[bz] at e
   split at e
   ·rename_i hz
    cases q:jA z.cps.toList i with
    |none=>rw[q] at e;cases e
    |some c=>rw[q] at e;cases e;exact .inr (.inr ⟨z,i,c,rfl,rfl,hz,q,k _ G H (Ext.refl s) (.str _)⟩)
   ·cases e
  |_=>cases e
 |none=>cases dy <;> cases e
 |bool b=>cases dy <;> cases e
 |int b=>cases dy <;> cases e
 |dict b=>
  obtain⟨ds,i,rfl,rfl,e⟩:∃ds i,b= [(.none,.list ds)]/\dy=.int i/\jA ds i=some d:=by
   unfold bz at e
   split at e
   ·contradiction
   ·contradiction
   ·contradiction
   ·rename_i h;cases h;exact⟨_,_,rfl,rfl,e⟩
   ·cases e
  obtain rfl:=by'.int
  obtain⟨a,xs,rfl,q,r⟩:=bx.scr s
  obtain⟨v,ev,rv⟩:=p7 r e
  exact .inl ⟨a,xs,i,v,rfl,rfl,q,ev,k _ G H (Ext.refl s) rv⟩
def c8:D->Option D
 | .list ds=>some (.int ds.length)
 | .tuple ds=>some (.int ds.length)
 | .str z=>if z.length<=sizeLine then some (.int z.length) else none
 | .dict [(.none,.list ds)]=>some (.int ds.length)
 |_=>none
def Gu (K:PySem.W.Frag):List V->Hp->VK->Prop:=fun xs H Q=>∃x n,xs= [x]/\Er K x H n/\Q (.int n) H
theorem ja:xR K (fun x=>Gu K [x]) c8 .v:=by
 intro B G H x dx d Q s hB bx e k
 unfold c8 at e
 split at e
 ·cases e;obtain⟨a,xs,rfl,q,r⟩:=bx.list s;exact⟨_,_,rfl,.inl ⟨xs,.inl q,r.len.symm⟩,k _ G H (Ext.refl s) (.int _)⟩
 ·cases e;obtain⟨a,xs,rfl,q,r⟩:=bx.tuple s;exact⟨_,_,rfl,.inr ⟨xs,q,r.len.symm⟩,k _ G H (Ext.refl s) (.int _)⟩
 ·obtain rfl:=bx.str
  split at e
  ·rename_i hz;cases e;exact⟨_,_,rfl,⟨hz,rfl⟩,k _ G H (Ext.refl s) (.int _)⟩
  ·cases e
 ·cases e;obtain⟨a,xs,rfl,q,r⟩:=bx.scr s;exact⟨_,_,rfl,.inl ⟨xs,q,r.len.symm⟩,k _ G H (Ext.refl s) (.int _)⟩
 ·cases e
def bX:D->Option D
 | .list ds=>some (.tuple ds)
 | .tuple ds=>some (.tuple ds)
 |_=>none
theorem gY:xR K (fun x H Q=>∃p ys,[x]= [.ref p]/\((gu K H p ys/\∀l,H l=none->Q (.ref l) (upd H l (.tup ys)))\/(fG K H p ys/\Q (.ref p) H))) bX .v:=by
 intro B G H x dx d Q s hB bx e k
 cases dx with
 |list ds=>
  cases e
  obtain⟨a,xs,rfl,q,r⟩:=bx.list s
  refine⟨a,xs,rfl,.inl ⟨.inl q,fun l hl=>?_⟩⟩
  have x:=Ext.new s (o:=.tup xs) hl
  exact k _ _ _ x (.tup (.inl (.inl aw)) (r.mono x.gg))
 |tuple ds=>
  cases e
  rcases bx with bx | ⟨_,_,_,z⟩
  ·cases bx with
   | @tup a xs _ hq r=>exact⟨a,xs,rfl,.inr ⟨hq.grow s.grow,k _ G H (Ext.refl s) (.tup hq r)⟩⟩
  ·exact z.elim
 |_=>cases e
def vU:D->Option D
 | .list ds=>some (.list ds)
 | .tuple ds=>some (.list ds)
 |_=>none
theorem yg:xR K (fun x H Q=>∃p ys,[x]= [.ref p]/\(gu K H p ys\/fG K H p ys)/\∀l,H l=none->Q (.ref l) (upd H l (.lst ys))) vU .w:=by
 intro B G H x dx d Q s hB bx e k
 obtain⟨ds,e1,rfl⟩:∃ds,l9 dx=some ds/\d=.list ds:=by
  cases dx <;> cases e <;> exact⟨_,rfl,rfl⟩
 obtain⟨a,xs,rfl,hq,r⟩:=bx.seq e1 s
 refine⟨a,xs,rfl,hq,fun l hl=>?_⟩
 exact k _ _ _ (Ext.own s (o:=.lst xs) hl) ⟨l,rfl,hl,s.free hl,xs,aw,r⟩
def js:List D->Option (List Bool)
 | []=>some []
 | .bool b :: ds=>(js ds).map (b :: ·)
 |_=>none
theorem oZ {G:Hp}:∀{ds:List D} {bs:List Bool} {xs:List V},js ds=some bs->bL K G xs ds->xs=bs.map V.bl
 | [],bs,xs,e,r=>by cases e;cases r;rfl
 | .bool b :: ds,bs,xs,e,r=>by
  cases r with
  |cons r1 r2=>
   cases r1
   simp only[js] at e
   cases q:js ds with
   |none=>rw[q] at e;cases e
   |some cs=>rw[q] at e;cases e;rw[oZ q r2];rfl
 | .none :: _,_,_,e,_=>by cases e
 | .int _ :: _,_,_,e,_=>by cases e
 | .str _ :: _,_,_,e,_=>by cases e
 | .list _ :: _,_,_,e,_=>by cases e
 | .tuple _ :: _,_,_,e,_=>by cases e
 | .dict _ :: _,_,_,e,_=>by cases e
def di (f:List Bool->Bool):D->Option D
 | .list ds=>(js ds).map fun bs=>.bool (f bs)
 |_=>none
theorem kE {f:List Bool->Bool}:xR K (fun x=>tR K f [x]) (di f) .v:=by
 intro B G H x dx d Q s hB bx e k
 cases dx with
 |list ds=>
  simp only[di] at e
  cases q:js ds with
  |none=>rw[q] at e;cases e
  |some bs=>
   rw[q] at e
   cases e
   obtain⟨a,xs,rfl,hq,r⟩:=bx.list s
   obtain rfl:=oZ q r
   exact⟨a,bs,rfl,.inl hq,k _ G H (Ext.refl s) (.bl _)⟩
 |_=>cases e
def CA:R2:=fun x y H Q=>∃l b xs zs,x=.ref l/\y=.ref b/\Rd H l (.lst xs)/\Rd H b (.lst zs)/\xs.length + zs.length<=sizeLine/\∀p,H p=none->Q (.ref p) (upd H p (.lst (xs ++ zs)))
theorem dA:lF X (binaryOp .Add) CA:=by
 intro pins s σ H x y v u Q I rx ry h
 obtain⟨l,b,xs,zs,rfl,rfl,hH,hB,hz,q⟩:=h
 cases rx
 cases ry
 obtain⟨z,its,n,r,hl,e⟩:=I.lstR hH
 obtain⟨z2,its2,n2,r2,hl2,e2⟩:=I.lstR hB
 refine PySem.P.add_list e e2 ?_ (by rw[List.size_toArray,List.size_toArray];omega)
 have ea:its.toArray ++ its2.toArray=(its ++ its2).toArray:=by simp
 rw[ea]
 exact⟨.ref _,_,I.lnew (t':=s.toks) (r.append r2) (by rw[List.length_append];omega),rfl,q _ I.fresh⟩
def c6:D->D->Option D
 | .list a,.list b=>if a.length + b.length<=sizeLine then some (.list (a ++ b)) else none
 |_,_=>none
theorem ju:lY K CA c6 .w:=by
 intro B G H x y dx dy d Q s hB bx by' e k
 cases dx <;> cases dy <;> first | (cases e;done) |skip
 rename_i a b
 simp only[c6] at e
 split at e
 ·rename_i hz
  cases e
  obtain⟨p,xs,rfl,q1,r1⟩:=bx.list s
  obtain⟨p2,ys,rfl,q2,r2⟩:=by'.list s
  refine⟨p,p2,xs,ys,rfl,rfl,q1,q2,by rw[r1.len,r2.len];exact hz,fun l hl=>?_⟩
  exact k _ _ _ (Ext.own s (o:=.lst (xs ++ ys)) hl) ⟨l,rfl,hl,s.free hl,_,aw,r1.append r2⟩
 ·cases e
def bW:D->D->Option D:=tZ fun i j=>.int (i + j)
theorem fE:lY K (w8 fun i j=>.int (i + j)) bW .v:=qP fun dx dy d h=>by obtain⟨i,j,rfl,rfl,rfl⟩:=j3 h;exact⟨i,j,rfl,rfl,fun _=>.int _⟩
def dw:D->D->Option D:=gI (fun i j=>(decide (-(2 ^ 64) < i) && decide (i < 2 ^ 64)) || (decide (-(2 ^ 64) < j) && decide (j < 2 ^ 64))) fun i j=>.int (i * j)
theorem j4:lY K (rI Af fun i j=>.int (i * j)) dw .v:=vG fun dx dy d h=>by obtain⟨i,j,rfl,rfl,c,rfl⟩:=uR h;exact⟨i,j,rfl,rfl,by simpa[Af] using c,fun _=>.int _⟩
def EN:D->Option D
 | .int i=>some (.int (-i))
 |_=>none
theorem CJ:xR K (rU fun i=>.int (-i)) EN .v:=by
 intro B G H x dx d Q s hB bx e k
 cases dx with
 |int i=>cases e;obtain rfl:=bx.int;exact⟨i,rfl,k _ G H (Ext.refl s) (.int _)⟩
 |_=>cases e
def FC:D->String
 | .none=>"NoneType"
 | .bool _=>"bool"
 | .int _=>"int"
 | .str _=>"str"
 | .list _=>"list"
 | .tuple _=>"tuple"
 | .dict _=>"dict"
def yf (d:D)(T:String):Bool:=FC d == T || (T == "int" && FC d == "bool")
def cM:D->Bool
 | .dict ((.none,_) :: _)=>true
 |_=>false
def dJ (T:String)(d:D):Option D:=if cM d=true then none else some (.bool (yf d T))
def Hw (K:PySem.W.Frag)(H:Hp)(x:V)(t:String):Prop:=BO K H x t\/(t="dict"/\∃a kvs,x=.ref a/\H a=some (.dT kvs))
def EA (K:PySem.W.Frag):List V->Hp->VK->Prop:=fun xs H Q=>∃x T t b,xs= [x,.ty T]/\Hw K H x t/\PySem.W.kitOne K (.type t) (.type T)=some b/\Q (.bl b) H
theorem zK:cJ X (.builtin "isinstance") (EA X.K):=by
 intro pins s σ H xs us Q I r h
 obtain⟨x,T,t,b,rfl,ty,e,q⟩:=h
 rcases ty with ty | ⟨rfl,a,kvs,rfl,hk⟩
 ·exact yt pins s σ H _ us Q I r ⟨x,T,t,b,rfl,ty,e,q⟩
 ·obtain⟨u,c,rfl,rx,rc⟩:=vals2 r
  cases rc
  cases rx
  obtain⟨_,_,_,_,o,_,_,e2,ex,_⟩:=I.hok a _ hk
  exact PySem.W.kia_one PySem.W.kitx_dict I.kIn ⟨o,e2,ex.1⟩ e (fun z=>nomatch z) fun tk=>⟨.bl b,H,I.tok tk,rfl,q⟩
theorem kc.ty {B:Option Addr}{G H:Hp}{v:V}{d:D}(h:kc K B G H v d)(s:ak G H)(n:cM d=false):Hw K H v (FC d):=by
 cases d with
 |none=>obtain rfl:=h.none;exact .inl .non
 |bool b=>obtain rfl:=h.bool;exact .inl (.bl b)
 |int b=>obtain rfl:=h.int;exact .inl (.int b)
 |str b=>obtain rfl:=h.str;exact .inl (.str b)
 |list b=>obtain⟨a,xs,rfl,q,_⟩:=h.list s;exact .inl (.lst (.inl q))
 |tuple b=>obtain⟨a,xs,rfl,q,_⟩:=h.tuple s;exact .inl (.tup q)
 |dict b=>
  rcases h with h | ⟨a,rfl,_,h⟩
  ·cases h with
   |scr _=>cases n
   |dK q _=>exact .inl (.dic (s _ _ q))
   |dT q _=>exact .inr ⟨rfl,_,_,rfl,s _ _ q⟩
  ·rcases h with⟨_,q,_⟩ | ⟨_,q,_⟩
   ·exact .inl (.dic q)
   ·exact .inr ⟨rfl,_,_,rfl,q⟩
theorem Ez {d:D}{T:String}(hT:T∈ ["int","bool","str","list","tuple","dict"]):PySem.W.kitOne K (.type (FC d)) (.type T)=some (yf d T):=by
 simp only[List.mem_cons,List.not_mem_nil,or_false] at hT
 cases d with
 |dict l=>rcases hT with rfl |rfl |rfl |rfl |rfl |rfl <;> rfl
 |none=>rcases hT with rfl |rfl |rfl |rfl |rfl |rfl <;> rfl
 |bool _=>rcases hT with rfl |rfl |rfl |rfl |rfl |rfl <;> rfl
 |int _=>rcases hT with rfl |rfl |rfl |rfl |rfl |rfl <;> rfl
 |str _=>rcases hT with rfl |rfl |rfl |rfl |rfl |rfl <;> rfl
 |list _=>rcases hT with rfl |rfl |rfl |rfl |rfl |rfl <;> rfl
 |tuple _=>rcases hT with rfl |rfl |rfl |rfl |rfl |rfl <;> rfl
theorem fA {a:Expr}{fa:VF D}{La:List Nat}{ma:Md}{Γ:Fx}{E:XK}{pos p p2:Pos}(T:String){y:Str}(hT:T∈ ["int","bool","str","list","tuple","dict"])(hK:X.K=Γ.K)(hg:Gl X "isinstance")(hm:X.mg "isinstance"=none)(hgT:Gl X y)(hmT:X.mg y=none)(hvT:bootBuiltins y=some (.type T))(ha:SE X Γ E a fa La ma)
  (hnT:y≠"__name__":=by decide) (hdT:(y == ("__debug__":Str))=false:=by decide)
  (he:starEach [a,.Name y p2] X.env=(false,eval a X.env) :: starEach [.Name y p2] X.env:=by rfl) (he2:starEach [.Name y p2] X.env=(false,eval (.Name y p2) X.env) :: starEach [] X.env:=by rfl) (hpl:(backTo pos (starEach [.Name y p2] X.env)).any (·.1)=false:=by rfl) :
  SE X Γ E (.Call (.Name "isinstance" p) [a,.Name y p2] [] pos) (f1 fa (dJ T)) La .v:=by
 refine PE.post' (ik zK hg hm (by decide +kernel) (aJ ha (aJ (AX hgT hmT hvT (show RelV (.ty T) _ from rfl) hnT hdT) bg he2) he) (by decide) (by decide) he hpl) fun σ H Q ⟨env,G,B,β,I,o⟩=>?_
 refine gQ (r:=fun x H1 Q=>EA X.K [x,.ty T] H1 Q) ?_ I o
 intro B G H x dx d Q s hB bx e k
 unfold dJ at e
 split at e
 ·cases e
 ·rename_i hn
  cases e
  rw[hK]
  exact⟨x,T,FC dx,yf dx T,rfl,bx.ty s (by simpa using hn),Ez hT,k _ G H (Ext.refl s) (.bl _)⟩
def i0 (fa fb fc:VF D)(g g':D->D->Option D):VF D:=fun vs β=>(fa vs β).bnd fun x β1=>(fb vs β1).bnd fun y β2=>match g x y with
 |some (.bool true)=>(fc vs β2).bnd fun z β3=>R.of (g' y z) β3
 |some (.bool false)=>.ok (.bool false) β2
 |_=>.bad
theorem rM {a b c:Expr}{fa fb fc:VF D}{ma mb mc:Md}{Γ:Fx}{E:XK}{pos:Pos}{op op':CmpOp}{r r':R2}{g g':D->D->Option D}(ho:lF X (compareOp op) r)(ho':lF X (compareOp op') r')(pr:lY Γ.K r g .v)(pr':lY Γ.K r' g' .v)(ha:SE X Γ E a fa [] ma)(hb:SE X Γ E b fb [] mb)(hc:SE X Γ E c fc [] mc)
  (hm:lastMarks [op,op'] [b,c]=false:=by with_unfolding_all rfl):SE X Γ E (.Compare a [op,op'] [b,c] pos) (i0 fa fb fc g g') [] .v:=by
 refine PE.post' (yN ho ho' ha hb hc hm) fun σ H Q ⟨env,G,B,β,I,o⟩=>?_
 refine two (W:=fun x y H2=>r x y H2 fun z H3=>∃k,z=.bl k/\(if k=true then pT Γ E fc [] mc σ H3 fun w' H4=>r' y w' H4 Q else Q (.bl false) H3)) I (o.bnd.imp fun d1 β1 h=>h.bnd.imp fun d2 β2 h x y G2 H2 I2 s2 m2 bx by'=>?_)
 obtain⟨cb,ec,h⟩:∃cb,g d1 d2=some (.bool cb)/\Out Γ E (if cb=true then (fc (vl env) β2).bnd fun z β3=>R.of (g' d2 z) β3 else .ok (.bool false) β2) fun d β'=>∀v G' H',SR Γ B G' H' σ (a7 [] env) β'->ak G G'->gW B H H'->VO Γ.K B H G' H' .v d v->Q v H':=by
  split at h
  ·rename_i q;exact⟨true,q,by rw[if_pos rfl];exact h⟩
  ·rename_i q;exact⟨false,q,by rw[if_neg Bool.false_ne_true];exact h⟩
  ·exact h.elim
 refine pr B G2 H2 x y d1 d2 _ _ I2.sub I2.boxThere bx by' ec fun v G' H' x' vo=>?_
 cases vo
 refine⟨cb,rfl,?_⟩
 have I3:=I2.ext x'
 cases cb with
 |false=>rw[if_neg Bool.false_ne_true] at h;exact rj (h _ G' H' I3 (s2.trans x'.gg) (m2.trans (x'.mov B)) (.bl false))
 |true=>
  rw[if_pos rfl] at h
  refine si ⟨env,G',B,β2,I3,h.bnd.imp fun d3 β3 h z G4 H4 I4 s4 m4 vz=>?_⟩
  obtain⟨d,e,k⟩:=h.of
  refine pr' B G4 H4 y z d2 d3 d Q I4.sub I4.boxThere (by'.mono (x'.gg.trans s4) ((x'.mov B).trans m4)) (vz.brw I3.boxThere) e fun v G5 H5 x5 vo=>?_
  exact k v G5 H5 (I4.ext x5) (((s2.trans x'.gg).trans s4).trans x5.gg) (((m2.trans (x'.mov B)).trans m4).trans (x5.mov B)) vo
end
end L2

end

section
namespace L2
open PySem PySem.Spec PyProof.Rows
theorem eJ.u1 {k:Nat}{A:Around}(r:eJ k A):A.units + 100 < cLine:=by have:=r.un;omega
def Hl (N:List Str)(sc:Scope)(NB:List Str)(own:Nat)(ixs:List Nat)(scope:Scope):Bool:=
 decide (scope.kind=.function) && (scope.names.all fun y=>decide (y.2≠.cell)) && (scope.names.all fun y=>decide (scope.names.lookup y.1=some y.2)) &&
 (scope.names.all fun y=>decide (y.2=.free->(sc.names.lookup y.1=some .cell\/sc.names.lookup y.1=some .free))) && decide NB.Nodup && decide (NB.length=own + ixs.length) &&
 ((List.range ixs.length).all fun k=>decide (NB[own + k]? =N[ixs.getD k 0]?) && (match NB[own + k]? with |some x=>decide ((x,NameKind.free)∈scope.names) |none=>true))
theorem cP {X:Cx}{NB:List Str}{own:Nat}{ixs:List Nat}{scope:Scope}(h:Hl X.N X.env.scope NB own ixs scope=true):cW X NB own ixs scope:=by
 unfold Hl at h
 simp only[Bool.and_eq_true,List.all_eq_true,decide_eq_true_eq,List.mem_range] at h
 obtain⟨⟨⟨⟨⟨⟨h1,h2⟩,h3⟩,h4⟩,h5⟩,h6⟩,h7⟩:=h
 refine⟨h1,h2,h3,h4,h5,h6,fun k hk=>⟨(h7 k hk).1,fun x hx=>?_⟩⟩
 have:=(h7 k hk).2
 rw[hx] at this
 simpa using this
section
variable {X:Cx}{Γ:Fx}{E:XK}{e a b c:Expr}{f fa fb fc:VF D}{L La Lb:List Nat}{md ma mb mc:Md}{pos:Pos}{K:PySem.W.Frag}
def tN (fa:VF D)(neg:Bool):VF Bool:=fun vs β=>(fa vs β).bnd fun x β1=>.ok (if neg then !AH x else AH x) β1
def oT (Γ:Fx)(E:XK)(f:VF (Option Int))(L:List Nat):TO:=fun σ H Q=>∃env G B β,SR Γ B G H σ env β/\
 Out Γ E (f (vl env) β) fun d β'=>∀G' H',SR Γ B G' H' σ (a7 L env) β'->ak G G'->gW B H H'->Q d H'
def FW (X:Cx)(Γ:Fx)(E:XK)(e:Option Expr)(f:VF (Option Int))(L:List Nat):Prop:=PO X e (oT Γ E f L)
theorem gB:FW X Γ E none (fun _ β=>.ok none β) []:=fun pins s σ H Q I ⟨env,G,B,β,J,o⟩=>Bc pins s σ H Q I (o G H J (ak.refl _) (gW.refl _ _))
def xl (fa:VF D):VF (Option Int):=fun vs β=>(fa vs β).bnd fun x β1=>match x with
 | .int i=>.ok (some i) β1
 |_=>.bad
theorem gO (ha:SE X Γ E a fa La ma):FW X Γ E (some a) (xl fa) La:=fun pins s σ H Q I ⟨env,G,B,β,J,o⟩=>by
 refine vg ha pins s σ H Q I ⟨env,G,B,β,J,o.bnd.imp fun d1 β1 h x G1 H1 I1 s1 m1 vx=>?_⟩
 cases d1 with
 |int i=>exact⟨i,(vx.brw J.boxThere).int,h G1 H1 I1 s1 m1⟩
 |_=>exact h.elim
def cutD (xs:List D)(lo hi:Option Int):List D:=(xs.drop (HT.pd xs.length 0 lo)).take (HT.pd xs.length xs.length hi - HT.pd xs.length 0 lo)
theorem Cc {G:Hp}{xs:List V}{ds:List D}(r:bL K G xs ds)(lo hi:Option Int):bL K G (ud xs lo hi) (cutD ds lo hi):=by
 unfold ud cutD
 rw[r.len]
 exact (r.drop _).take _
def xh (fa:VF D)(fl fh:VF (Option Int)):VF D:=fun vs β=>(fa vs β).bnd fun x β1=>(fl vs β1).bnd fun l β2=>(fh vs β2).bnd fun h β3=>match x with
 | .list ds=>.ok (.list (cutD ds l h)) β3
 |_=>.bad
theorem eZ {lo hi:Option Expr}{fl fh:VF (Option Int)}{Ll Lh:List Nat}{p2:Pos}(hK:X.K=Γ.K)(ha:SE X Γ E a fa La ma)(hl:FW X Γ E lo fl Ll)(hh:FW X Γ E hi fh Lh):SE X Γ E (.Subscript a (.Slice lo hi none p2) pos) (xh fa fl fh) (La ++ Ll ++ Lh) .w:=by
 refine PE.post' (Av Bi ha hl hh) fun σ H Q ⟨env,G,B,β,I,o⟩=>?_
 refine⟨env,G,B,β,I,o.bnd.imp fun d1 β1 h x G1 H1 I1 s1 m1 vx=>⟨a7 La env,G1,B,β1,I1,?_⟩⟩
 rw[gm]
 refine h.bnd.imp fun l β2 h G2 H2 I2 s2 m2=>⟨a7 Ll (a7 La env),G2,B,β2,I2,?_⟩
 rw[gm,gm]
 refine h.bnd.imp fun u β3 h G3 H3 I3 s3 m3=>?_
 rw[<-cI,<-cI,<-List.append_assoc] at I3
 have bx:=((vx.brw I.boxThere).mono s2 m2).mono s3 m3
 cases d1 with
 |list ds=>
  obtain⟨p,xs,rfl,hq,r⟩:=bx.list I3.sub
  rw[hK]
  refine⟨p,xs,rfl,.inl hq,fun q hn=>?_⟩
  have x:=Ext.own I3.sub (o:=.lst (ud xs l u)) hn
  exact h _ _ _ (I3.ext x) ((s1.trans s2).trans s3) (((m1.trans m2).trans m3).trans (x.mov B)) ⟨q,rfl,dQ ((m1.trans m2).trans m3) I3.boxThere hn,I3.sub.free hn,_,aw,Cc r l u⟩
 |_=>exact h.elim
theorem DS:lY K (fun x y H Q=>∃i j,[x,y]= [.int i,.int j]/\Q (.int (if j > i then j else i)) H) (tZ fun i j=>.int (if j > i then j else i)) .v:=by
 intro B G H x y dx dy d Q s hB bx by' e k
 obtain⟨i,j,rfl,rfl,rfl⟩:=j3 e
 obtain rfl:=bx.int
 obtain rfl:=by'.int
 exact⟨i,j,rfl,k _ G H (Ext.refl s) (.int _)⟩
theorem Ds:lY K (fun x y H Q=>∃i j,[x,y]= [.int i,.int j]/\Q (.int (if j < i then j else i)) H) (tZ fun i j=>.int (if j < i then j else i)) .v:=by
 intro B G H x y dx dy d Q s hB bx by' e k
 obtain⟨i,j,rfl,rfl,rfl⟩:=j3 e
 obtain rfl:=bx.int
 obtain rfl:=by'.int
 exact⟨i,j,rfl,k _ G H (Ext.refl s) (.int _)⟩
end
end L2

end

section
namespace L2
open PySem PySem.Spec PyProof.Rows
structure kn (K:PySem.W.Frag)(mg:Str->Option Value)(x:Str)(st:Stmt)(ps:List Str)(f:Addr)(fd:FuncData):Prop where
 mg:mg x=some (.ref f)
 F:Ay K x x st f fd
 b:Binds K fd ps []
structure Exc (K:PySem.W.Frag)(mg:Str->Option Value)(ca:Str->Addr)(x:Str):Prop where
 mg:mg x=some (.ref (ca x))
 ex:PySem.W.excIn K (ca x) [.type "ValueError",.type "Exception",.type "BaseException",.type "object"] "ValueError.__new__"=true
theorem Exc.ca {K:PySem.W.Frag}{mg:Str->Option Value}{ca:Str->Addr}{x:Str}(h:Exc K mg ca x):ca x=ca x:=rfl
structure kO (mg:Str->Option Value):Prop where
 len:mg "len"=none
 range:mg "range"=none
 enumerate:mg "enumerate"=none
 zip:mg "zip"=none
 min:mg "min"=none
 max:mg "max"=none
 sum:mg "sum"=none
 abs:mg "abs"=none
 sorted:mg "sorted"=none
 reversed:mg "reversed"=none
 int:mg "int"=none
 str:mg "str"=none
 bool:mg "bool"=none
 list:mg "list"=none
 tuple:mg "tuple"=none
 dict:mg "dict"=none
 set:mg "set"=none
 isinstance:mg "isinstance"=none
 repr:mg "repr"=none
 any:mg "any"=none
 all:mg "all"=none
 divmod:mg "divmod"=none
end L2

end

section
namespace L2
open PySem PySem.Spec PyProof.Rows
inductive FB where
 |ok (d:D) (fresh:Bool) (β:Int)
 |bad
def Fc (K:PySem.W.Frag)(n:Nat)(F:List D->Int->FB):Sp:=fun vs H Q _=>∃b rest G ds β,vs=.ref b :: rest/\H b=some (.lst [.int β])/\G b=none/\ak G H/\ds.length=n/\bL K G rest ds/\match F ds β with
 | .ok d fr β'=>∀v G' H',gW (some b) H H'->H' b=some (.lst [.int β'])->ak G G'->ak G' H'->(∀c,Mx H c->G c=none->G' c=none)->FV K H G' H' fr d v->Q v H'
 | .bad=>False
structure jN (P:Program)(w:World)(K:PySem.W.Frag)(mg:Str->Option Value)(base:Heap)(x:Str)(ps:List Str)(k:Nat)(F:List D->Int->FB):Prop where
 ex:∃f fd,mg x=some (.ref f)/\PySem.W.keepIn K (.ref f)=true/\Binds K fd ps []/\fx P w K mg base (l5 P w) k f fd ps (Fc K (ps.length - 1) F)
 len:∀ds β,F ds β≠.bad->ds.length=ps.length - 1
def uF (vs:List Nv)(i:Nat):Bool:=match vs[i]? with
 |some .bx=>true
 |_=>false
def hZ (i:Nat)(F:List D->Int->FB)(fr:VF (List D)):VF D:=fun vs β=>if uF vs i=true then (fr vs β).bnd fun ds β1=>match F ds β1 with
 | .ok d _ β2=>.ok d β2
 | .bad=>.bad else .bad
def GH (i:Nat)(F:List D->Int->FB)(fr:VF (List D)):VF D:=fun vs β=>if uF vs i=true then (fr vs β).bnd fun ds β1=>match F ds β1 with
 | .ok d true β2=>.ok d β2
 |_=>.bad else .bad
section
variable {X:Cx}{Γ:Fx}{E:XK}{e a b c:Expr}{f fa fb fc:VF D}{L La Lb:List Nat}{md ma mb mc:Md}{pos:Pos}{K:PySem.W.Frag}{es:List Expr}{fr:VF (List D)}
theorem A6 {env:En}{i:Nat}(h:uF (vl env) i=true):env[i]? =some .bx:=by
 unfold uF at h
 split at h
 ·exact E9 (by assumption)
 ·cases h
theorem BV {env:En}{i j:Nat}{d:D}(h:(iq env i)[j]? =some (.br d)):env[j]? =some (.br d):=by
 unfold iq at h
 split at h
 ·rename_i d' e
  by_cases z:i=j
  ·subst z
   rw[List.getElem?_set_self (List.getElem?_eq_some_iff.mp e).1] at h;cases h
  ·rw[List.getElem?_set_ne z] at h;exact h
 ·exact h
theorem Ee {L:List Nat}{env:En}{j:Nat}{d:D}(h:(a7 L env)[j]? =some (.br d)):env[j]? =some (.br d):=by
 unfold a7 at h
 induction L generalizing env with
 |nil=>exact h
 |cons i L ih=>exact BV (ih h)
theorem SR.calledB {p:Addr}{β β':Int}{G1 H1 G2 H2:Hp}{σ:St}{env:En}(I1:SR Γ (some p) G1 H1 σ env β)(h:gW (some p) H1 H2)(hp:H2 p=some (.lst [.int β']))(g:ak G1 G2)(s:ak G2 H2)(n:∀b,Mx H1 b->G1 b=none->G2 b=none):SR Γ (some p) G2 H2 σ env β':=by
 obtain⟨b1,b2,b3⟩:=I1.box p rfl
 refine⟨s,I1.old.trans g,fun b n1 n2=>n b (I1.thereM n1) (I1.new b n1 n2),fun b o e np=>h b o (I1.keep b o e np) fun z=>?_,fun b hb=>?_,I1.fix,fun b e=>?_,I1.len,fun i t e=>?_,I1.sep⟩
 ·cases z
  rcases b3 with b3 |b3
  ·exact np b3
  ·rw[e] at b3;cases b3
 ·by_cases z:p=b
  ·subst z;exact Mx.lst hp
  ·exact (I1.pin b hb).same fun o q=>h b o q fun y=>z (Option.some.inj y)
 ·cases e
  exact⟨hp,n p (Mx.lst b1) b2,b3⟩
 ·have q:=I1.slot i t e
  cases t with
  |no=>trivial
  |fz d=>obtain⟨v,h1,h2⟩:=q;exact⟨v,h1,h2.mono g⟩
  |ow d=>
   obtain⟨c,h1,h2,h3,h4,h5⟩:=q
   exact⟨c,h1,h2,n c h5.mx h3,h4,h5.mono g fun o q=>h c o q h4⟩
  |bx=>exact q
  |br d=>obtain⟨b1,c,h1,h4,hpp,h5⟩:=q;exact⟨b1,c,h1,h4,hpp,h5.mono g fun o q=>h c o q h4⟩
theorem Bw {F:List D->Int->FB}{ps:List Str}{Q:VK}{B:Option Addr}{G H:Hp}{σ:St}{env:En}{β:Int}{i:Nat}{p:Addr}(I:SR Γ B G H σ env β)(hK:X.K=Γ.K)(hp:B=some p){wv:Bool}
  (h:Out Γ E (fr (vl env) β) fun ds β1=>Out Γ E (match F ds β1 with
   | .ok d true β2=>.ok d β2
   | .ok d false β2=>if wv=true then .bad else .ok d β2
   | .bad=>.bad) fun d β'=>∀v G' H',SR Γ B G' H' σ (a7 L env) β'->ak G G'->gW B H H'->VO Γ.K B H G' H' (if wv=true then .w else .v) d v->Q v H') (hl:∀ds β,F ds β≠.bad->ds.length=ps.length - 1) :
  aT Γ E fr L σ H fun vs H1=>Fc X.K (ps.length - 1) F (.ref p :: vs) H1 Q E:=by
 subst hp
 refine⟨env,G,_,β,I,h.imp fun ds β1 k vs G1 H1 I1 s1 m1 r=>?_⟩
 obtain⟨b1,b2,b3⟩:=I1.box p rfl
 refine⟨p,vs,G1,ds,β1,rfl,b1,b2,I1.sub,hl ds β1 fun z=>by rw[z] at k;exact k,by rw[hK];exact r,?_⟩
 cases q:F ds β1 with
 |bad=>rw[q] at k;exact k
 |ok d fr' β2=>
  rw[q] at k
  intro v G' H' hh hb hg hs hn fv
  have I2:=I1.calledB hh hb hg hs hn
  cases fr' with
  |true=>
   obtain⟨c,rfl,p1,p2,p3⟩:∃a,v=.ref a/\H1 a=none/\G' a=none/\Own X.K G' H' a d:=fv
   rw[hK] at p3
   have hp:=dQ m1 I1.boxThere p1
   cases wv with
   |true=>exact k _ G' H' I2 (s1.trans hg) (m1.trans hh) ⟨c,rfl,hp,p2,p3⟩
   |false=>
    obtain⟨q1,q2,q3,q4⟩:=I1.fresh p1
    obtain⟨G3,I3,s3,r3⟩:=I2.letIn q1 p2 q3 q4 p3
    exact k _ G3 H' I3 ((s1.trans hg).trans s3) (m1.trans hh) r3
  |false=>
   cases wv with
   |true=>exact k.elim
   |false=>
    have fv:Rp X.K G' v d:=fv
    rw[hK] at fv
    exact k _ G' H' I2 (s1.trans hg) (m1.trans hh) fv
theorem CN {F:List D->Int->FB}{ps:List Str}{Q:VK}{i:Nat}{σ:St}{H:Hp}(hK:X.K=Γ.K){wv:Bool}(hl:∀ds β,F ds β≠.bad->ds.length=ps.length - 1)(h:pT Γ E (if wv=true then GH i F fr else hZ i F fr) L (if wv=true then .w else .v) σ H Q) :
  Ak i σ H fun x H1=>aT Γ E fr L σ H1 fun vs H2=>Fc X.K (ps.length - 1) F (x :: vs) H2 Q E:=by
 obtain⟨env,G,B,β,I,o⟩:=h
 have hi:uF (vl env) i=true:=by
  by_cases hi:uF (vl env) i=true
  ·exact hi
  ·exfalso
   cases wv with
   |true=>simp only[if_true] at o;unfold GH at o;rw[if_neg hi] at o;exact o
   |false=>simp only[Bool.false_eq_true,if_false] at o;unfold hZ at o;rw[if_neg hi] at o;exact o
 obtain⟨p,e1,e2⟩:=I.slot i _ (A6 hi)
 refine⟨.ref p,e1,Bw (i:=i) (ps:=ps) I hK e2 (wv:=wv) ?_ hl⟩
 cases wv with
 |true=>
  simp only[if_true] at o ⊢
  unfold GH at o
  rw[if_pos hi] at o
  refine o.bnd.imp fun ds β1 h=>?_
  cases q:F ds β1 with
  |bad=>rw[q] at h;exact h
  |ok d b β2=>rw[q] at h;cases b <;> exact h
 |false=>
  simp only[Bool.false_eq_true,if_false] at o ⊢
  unfold hZ at o
  rw[if_pos hi] at o
  refine o.bnd.imp fun ds β1 h=>?_
  cases q:F ds β1 with
  |bad=>rw[q] at h;exact h
  |ok d b β2=>rw[q] at h;cases b <;> exact h
theorem gJ {x y:Str}{ps:List Str}{k:Nat}{F:List D->Int->FB}{p np:Pos}(i:Nat)(hf:jN X.prog X.w X.K X.mg X.base x ps k F)(hr:eJ k X.A)(hx:Passes (l5 X.prog X.w) X E)(hK:X.K=Γ.K)(hg:Gl X x)(ha:SA X Γ E es fr L)(hN:X.N[i]? =some y:=by rfl)(hv:tM X.env.scope y:=by first |exact Or.inl rfl |exact Or.inr (Or.inl rfl) |exact Or.inr (Or.inr rfl))(hd:(y == ("__debug__":Str))=false:=by decide)
  (hcd:(y == ("__classdict__":Str))=false:=by decide) (hdb:(x == ("__debug__":Str))=false:=by decide)
  (he:starEach (.Name y np :: es) X.env=(false,eval (.Name y np) X.env) :: starEach es X.env:=by rfl) (hpl:(backTo pos (starEach es X.env)).any (·.1)=false:=by rfl):SE X Γ E (.Call (.Name x p) (.Name y np :: es) [] pos) (hZ i F fr) L .v:=by
 obtain⟨f,fd,hm,hk,hb,hF⟩:=hf.ex
 refine PE.post' (mz (dvs:=[]) hF hr hg hm hk hb .nil hx (aJ (hJ hN hv hd hcd) ha he) hdb he hpl) fun σ H Q h=>?_
 have:=CN (Q:=Q) (wv:=false) (ps:=ps) hK hf.len (by simpa using h)
 show Ak i σ H fun x H1=>aT Γ E fr L σ H1 fun vs H2=>Fc X.K (ps.length - 1) F ((x :: vs) ++ []) H2 Q E
 simpa using this
def y1:D->Option Int
 | .list [.int z]=>some z
 |_=>none
theorem B9 {d:D}{z:Int}(h:y1 d=some z):d=.list [.int z]:=by
 unfold y1 at h
 split at h
 ·cases h;rfl
 ·cases h
def HJ (f0:VF D)(F:List D->Int->FB)(n:Int):VF D:=fun vs β=>(f0 vs β).bnd fun d0 β1=>match y1 d0 with
 |some z=>(match F [.int n] z with
  | .ok d _ _=>.ok d β1
  | .bad=>.bad)
 |none=>.bad
def pF (env:En):En:=env.map fun s=>match s with
 | .bx=>.no
 |s=>s
theorem zT {env:En}{i:Nat}{s:Sl}(h:(pF env)[i]? =some s)(n:s≠.no):env[i]? =some s/\s≠.bx:=by
 unfold pF at h
 rw[List.getElem?_map] at h
 cases e:env[i]? with
 |none=>rw[e] at h;cases h
 |some t=>
  rw[e] at h
  have h:=Option.some.inj h
  cases t with
  |bx=>exact absurd h.symm n
  |no=>exact absurd h.symm n
  |fz d=>subst h;exact⟨rfl,fun z=>by cases z⟩
  |ow d=>subst h;exact⟨rfl,fun z=>by cases z⟩
  |br d=>subst h;exact⟨rfl,fun z=>by cases z⟩
def ve (i:Nat)(L:List Nat)(f:VF D):SF:=fun env β=>toS (f (vl env) β) fun d _=>match y1 d with
 |some z=>.nx ((pF (a7 L env)).set i .bx) z
 |none=>.bad
theorem Bk {i:Nat}{x:Str}{pos':Pos}(hbx:Γ.bx=none)(he:SE X Γ E e f L .w)(hN:X.N.Nodup)(hi:X.N[i]? =some x:=by rfl)(hx:Loc X.env.scope x:=by first |exact Or.inl rfl |exact Or.inr rfl)(hs:swapsWith e (some (.Name x pos')) pos.line X.env=pure false:=by rfl)(hf:X.fn x=true\/X.env.scope.names.lookup x=some .local:=by first |exact .inl rfl |exact .inr rfl |assumption) :
  SS X Γ E (.Assign [.Name x pos'] e pos) (ve i L f):=by
 refine PS.post (nV hN hi hx he hs hf) fun N σ H ⟨env,G,B,β,I,o⟩=>?_
 refine⟨env,G,B,β,I,bK o fun d β' k v G' H' I' s' m' vo=>?_⟩
 cases q:y1 d with
 |none=>rw[q] at k;exact k.elim
 |some z=>
  rw[q] at k
  obtain rfl:=B9 q
  obtain⟨p,rfl,h1,h2,xs,h3,r⟩:=vo
  have hx2:H' p=some (.lst [.int z]):=by
   cases r with
   |cons r1 r2=>
    cases r1
    cases r2
    exact h3
  obtain⟨q1,q2,q3,q4⟩:=I.fresh h1
  refine k (some p) G' H' _ ⟨I'.sub,I'.old,I'.new,I'.keep,I'.pin,fun b e=>(by rw[hbx] at e;cases e),fun b e=>?_,?_,fun j t e=>?_,fun j j' c d1 d2 e1 e2 e3 e4=>?_⟩ s'
  ·cases e;exact⟨hx2,h2,.inr q1⟩
  ·rw[List.length_set,List.length_set];unfold pF;rw[List.length_map];exact I'.len
  ·by_cases hj:j=i
   ·subst hj
    by_cases hl:j < (pF (a7 L env)).length
    ·rw[List.getElem?_set_self hl] at e
     cases e
     refine⟨p,?_,rfl⟩
     rw[List.getElem?_set_self]
     rw[I'.len];unfold pF at hl;simpa using hl
    ·rw[List.getElem?_eq_none (by rw[List.length_set];omega)] at e;cases e
   ·rw[List.getElem?_set_ne (Ne.symm hj)] at e ⊢
    by_cases hn:t=.no
    ·subst hn;trivial
    ·obtain⟨e1,nb⟩:=zT e hn
     have w:=I'.slot j t e1
     cases t with
     |no=>trivial
     |fz d=>exact w
     |bx=>exact absurd rfl nb
     |ow d=>
      obtain⟨a',g1,g2,g3,g4,g5⟩:=w
      exact⟨a',g1,g2,g3,fun y=>q4 j d (qI e1) (by cases y;exact g1),g5⟩
     |br d=>
      obtain⟨b1,a',g1,g4,hpp,g5⟩:=w
      have e0:env[j]? =some (.br d):=Ee e1
      obtain⟨_,a2,f1,_,_,f5⟩:=I.slot j _ e0
      rw[g1] at f1;cases f1
      obtain⟨o,ho⟩:=f5.obj
      exact⟨b1,a',g1,fun y=>(by cases y;rw[h1] at ho;cases ho),hpp,g5⟩
  ·have back:∀{j:Nat} {d1:D},((pF (a7 L env)).set i Sl.bx)[j]? =some (.ow d1)->j≠i/\(a7 L env)[j]? =some (.ow d1):=fun {j d1} e=>by
    by_cases hj:j=i
    ·subst hj
     by_cases hl:j < (pF (a7 L env)).length
     ·rw[List.getElem?_set_self hl] at e;cases e
     ·rw[List.getElem?_eq_none (by rw[List.length_set];omega)] at e;cases e
    ·rw[List.getElem?_set_ne (Ne.symm hj)] at e
     exact⟨hj,(zT e (fun y=>by cases y)).1⟩
   obtain⟨n1,w1⟩:=back e1
   obtain⟨n2,w2⟩:=back e2
   rw[List.getElem?_set_ne (Ne.symm n1)] at e3
   rw[List.getElem?_set_ne (Ne.symm n2)] at e4
   exact I'.sep j j' c d1 d2 w1 w2 e3 e4
end
section
variable {P:Program}{w:World}{K:PySem.W.Frag}{mg:Str->Option Value}{base:Heap}{ca:Str->Addr}
def wm:SO->FB
 | .nx _ β=>.ok .none false β
 | .rt d fr β=>.ok d fr β
 |_=>.bad
def sZ (n:Nat)(ds:List D):En:=.bx :: ds.map Sl.fz ++ List.replicate (n - 1 - ds.length) .no
def l0 (n p:Nat)(m:SF):List D->Int->FB:=fun ds β=>if ds.length=p then wm (m (sZ n ds) β) else .bad
abbrev Fx.fb (K:PySem.W.Frag)(H G:Hp)(ca:Str->Addr)(b:Addr):Fx:=⟨K,H,G,[b],ca,fun _=>false,some b⟩
theorem SR.startB {H G:Hp}{N:List Str}{b:Addr}{vs:List V}{ds:List D}{β:Int}(s:ak G H)(hb:H b=some (.lst [.int β]))(gb:G b=none)(r:bL K G vs ds)(hn:ds.length + 1<=N.length):SR (Fx.fb K H G ca b) (some b) G H (L2.start N (.ref b :: vs)) (sZ N.length ds) β:=by
 have hl:=r.len
 refine⟨s,ak.refl _,fun c _ h=>h,fun c o h _=>h,fun c h=>?_,fun c h=>h,fun c h=>?_,?_,fun i t e=>?_,fun i j a d e h=>?_⟩
 ·have:c=b:=by simpa using h
  subst this;exact Mx.lst hb
 ·cases h;exact⟨hb,gb,.inl (by simp)⟩
 ·unfold L2.start sZ;simp;omega
 ·cases i with
  |zero=>
   unfold sZ at e
   cases e
   exact⟨b,rfl,rfl⟩
  |succ i=>
   unfold sZ at e
   have e:(ds.map Sl.fz ++ List.replicate (N.length - 1 - ds.length) Sl.no)[i]? =some t:=by simpa using e
   by_cases hi:i < ds.length
   ·rw[List.getElem?_append_left (by simpa using hi),List.getElem?_map,List.getElem?_eq_getElem hi] at e
    cases e
    obtain⟨x,hx,rx⟩:=r.at (List.getElem?_eq_getElem hi)
    refine⟨x,?_,rx⟩
    unfold L2.start
    have hi':i < vs.length:=by rw[hl];exact hi
    rw[List.getElem?_append_left (by simp;exact hi'),List.getElem?_map,List.getElem?_cons_succ,hx];rfl
   ·rw[List.getElem?_append_right (by simpa using hi),List.getElem?_replicate] at e
    split at e
    ·cases e;trivial
    ·cases e
 ·unfold sZ at h
  have hm:=List.mem_of_getElem? h
  rcases List.mem_cons.mp hm with z |hm
  ·cases z
  rcases List.mem_append.mp hm with z |z
  ·obtain⟨_,_,z⟩:=List.mem_map.mp z;cases z
  ·have:=List.eq_of_mem_replicate z;cases this
theorem ku {x qual:Str}{st:Stmt}{f:Addr}{fd:FuncData}{N:List Str}{ps:List Str}{k:Nat}{m:SF}(F:Ay K x qual st f fd)(S:aL N ps (ax st))(hp:1<=ps.length)
  (hbody:∀(cdv:Value) (A:Around) (outer:List Env) (s:Shared) (H G:Hp) (b:Addr) (E:XK),eJ k (A.deeper (envOfC qual (ax st) s.heap.objs.size f cdv))->Az (jO (l5 P w) P w K mg base N qual (ax st) f cdv A outer s H E) (Fx.fb K H G ca b) E (cL st) m) :
  fx P w K mg base (l5 P w) (k + 1) f fd ps (Fc K (ps.length - 1) (l0 N.length (ps.length - 1) m)):=by
 have hpn:ps.length<=N.length:=by have:=congrArg List.length S.pre;rw[List.length_take] at this;omega
 refine F.xQ S (fun vs H Q E h=>?_) (fun cdv A outer s H vs Q E hr h=>?_)
 ·obtain⟨b,rest,G,ds,β,rfl,hb,gb,sG,hl,r,_⟩:=h
  rw[List.length_cons,r.len];omega
 ·obtain⟨b,rest,G,ds,β,rfl,hb,gb,sG,hl,r,h⟩:=h
  refine⟨_,hbody cdv A outer s H G b E hr,?_⟩
  have I:=SR.startB (ca:=ca) (N:=N) sG hb gb r (by omega)
  refine⟨_,G,some b,β,I,?_⟩
  unfold l0 at h
  rw[if_pos hl] at h
  have fin':∀{B G' H' σ env β},SR (Fx.fb K H G ca b) B G' H' σ env β->gW (some b) H H'/\H' b=some (.lst [.int β]):=fun J=>by
   have e:=J.fix b rfl
   refine⟨fun c o ec n=>J.keep c o ec fun z=>n ?_,(J.box b e).1⟩
   have:c=b:=by simpa using z
   rw[this]
  cases q:m (sZ N.length ds) β with
  |nx env β'=>rw[q] at h;exact fun B G' H' σ J s'=>h .non G' H' (fin' J).1 (fin' J).2 s' J.sub (fun c h1 h2=>J.new c h1 h2) Rp.non
  |bk env β'=>rw[q] at h;exact h.elim
  |ct env β'=>rw[q] at h;exact h.elim
  |rt d fr β'=>
   rw[q] at h
   refine fun B G' H' σ env v J s' rv=>h v G' H' (fin' J).1 (fin' J).2 s' J.sub (fun c h1 h2=>J.new c h1 h2) ?_
   cases fr with
   |true=>exact rv
   |false=>exact rv
  |exc c=>rw[q] at h;exact h.elim
  |bad=>rw[q] at h;exact h.elim
theorem kQ {n p:Nat}{m:SF}(ds:List D)(β:Int)(h:l0 n p m ds β≠.bad):ds.length=p:=by
 unfold l0 at h
 by_cases hl:ds.length=p
 ·exact hl
 ·rw[if_neg hl] at h;exact absurd rfl h
end
end L2

end

section
namespace L2
open PySem PySem.Spec PyProof.Rows
def ao (p:Pr):D:=.tuple [.int p.1,.int p.2]
def nu:D->Option Pr
 | .tuple [.int a,.int b]=>some (a,b)
 |_=>none
theorem qQ {d:D}{p:Pr}(h:nu d=some p):d=ao p:=by
 unfold nu at h
 split at h
 ·cases h;rfl
 ·cases h
theorem wL (p:Pr):nu (ao p)=some p:=rfl
def fB:List D->Option (List Pr)
 | []=>some []
 |d :: ds=>match nu d,fB ds with
  |some p,some ps=>some (p :: ps)
  |_,_=>none
theorem jE:∀{ds:List D} {ps:List Pr},fB ds=some ps->ds=ps.map ao
 | [],ps,h=>by cases h;rfl
 |d :: ds,ps,h=>by
  unfold fB at h
  split at h
  ·rename_i p qs h1 h2;cases h;rw[qQ h1,jE h2];rfl
  ·cases h
theorem gj:∀ps:List Pr,fB (ps.map ao)=some ps
 | []=>rfl
 |p :: ps=>by
  show (match nu (ao p),fB (ps.map ao) with
   |some p,some ps=>some (p :: ps)
   |_,_=>none)=_
  rw[wL,gj ps]
section
variable {K:PySem.W.Frag}{X:Cx}{G H:Hp}
theorem bL.pairs:∀{ps:List Pr} {xs:List V},bL K G xs (ps.map ao)->aM K G xs ps
 | [],_,.nil=>.nil
 |p :: ps,_,.cons r t=>by
  cases r with
  |tup hq r=>
   cases r with
   |cons r1 r=>
    cases r with
    |cons r2 r=>cases r;cases r1;cases r2;exact .cons ⟨_,rfl,hq⟩ (bL.pairs t)
theorem aM.rps:∀{ps:List Pr} {xs:List V},aM K G xs ps->bL K G xs (ps.map ao)
 | [],_,.nil=>.nil
 |p :: ps,_,.cons r t=>by
  obtain⟨a,rfl,q⟩:=r
  exact .cons (.tup q (.cons (.int _) (.cons (.int _) .nil))) (aM.rps t)
def Eh (p:Pr):Bool:=decide (0<=p.1) && decide (p.1 < 8) && decide (0<=p.2) && decide (p.2 < 8)
theorem Dy {p:Pr}(h:Eh p=true):Sm p:=by
 unfold Eh at h
 simp only[Bool.and_eq_true,decide_eq_true_eq] at h
 exact⟨⟨h.1.1.1,h.1.1.2⟩,h.1.2,h.2⟩
noncomputable def cA (d:D):Option D:=match l9 d with
 |some ds=>(match fB ds with
  |some ps=>if ps.all Eh=true/\(OM.b4 8 (OM.Mem ps)).length < 64 then some (.list ((OM.b4 8 (OM.Mem ps)).map ao)) else none
  |none=>none)
 |none=>none
variable {Γ:Fx}{E:XK}{e a b c:Expr}{f fa fb fc:VF D}{L La Lb:List Nat}{md ma mb mc:Md}{pos:Pos}
theorem nA {p1 p2 pos2:Pos}(hc:X.calm=true)(hu:X.A.units + 64 < cLine)(hK:X.K=Γ.K)(hg:Gl X "sorted")(hm:X.mg "sorted"=none)(hg2:Gl X "set")(hm2:X.mg "set"=none)(ha:SE X Γ E a fa La ma)
  (he:starEach [a] X.env=(false,eval a X.env) :: starEach [] X.env:=by rfl)
  (he2:starEach [.Call (.Name "set" p2) [a] [] pos2] X.env=(false,eval (.Call (.Name "set" p2) [a] [] pos2) X.env) :: starEach [] X.env:=by rfl) :
  SE X Γ E (.Call (.Name "sorted" p1) [.Call (.Name "set" p2) [a] [] pos2] [] pos) (f1 fa cA) La .w:=by
 refine PE.post' (ik (qG hc) hg hm (by decide +kernel) (aJ (fU (y7 hc hu) hg2 hm2 (by decide +kernel) (aJ ha bg he) (by decide) (by decide) he) bg he2) (by decide) (by decide) he2) fun σ H Q ⟨env,G,B,β,I,o⟩=>?_
 refine gQ (r:=fun x H1 Q=>Fy X.prog X.w X.K [x] H1 fun y H2=>rL X.prog X.w X.K [y] H2 Q) ?_ I o
 intro B G H x dx d Q s hB bx e k
 rw[hK]
 unfold cA at e
 cases q:l9 dx with
 |none=>rw[q] at e;cases e
 |some ds=>
  rw[q] at e
  dsimp only at e
  cases q2:fB ds with
  |none=>rw[q2] at e;cases e
  |some ps=>
   rw[q2] at e
   dsimp only at e
   split at e
   ·rename_i hh
    obtain⟨h1,h2⟩:=hh
    cases e
    obtain⟨p,xs,rfl,hq,r⟩:=bx.seq q s
    rw[jE q2] at r
    have pv:=(r.mono s).pairs
    have sm:∀p,p∈ps->Sm p:=fun p hp=>Dy (List.all_eq_true.mp h1 p hp)
    refine⟨p,xs,ps,rfl,hq,pv,sm,fun S qs hS hpv nd hm=>?_⟩
    have qsl:qs.length < 64:=by
     have:(pq qs).length<=(OM.b4 8 (OM.Mem ps)).length:=OM.mF nd fun x hx=>by
      have hx':=(hm x).mp hx
      have hs:=sm x hx'
      exact OM.aR.mpr ⟨⟨⟨hs.1.1,hs.1.2⟩,hs.2.1,hs.2.2⟩,hx'⟩
     simp only[List.length_map] at this
     omega
    have xS:=Ext.own s (o:=wR X.prog X.w S qs) hS
    refine⟨S,qs,rfl,aw,hpv.grow (gx.new hS),fun p hp=>sm p ((hm p).mp hp),nd,qsl,fun l ws rs hl hpw hr hmem=>?_⟩
    have ers:rs=OM.b4 8 (OM.Mem ps):=OM.fQ hr (OM.c7 _ _) fun x=>by
     rw[hmem x,hm x,OM.aR]
     constructor
     ·intro hx;have hs:=sm x hx;exact⟨⟨⟨hs.1.1,hs.1.2⟩,hs.2.1,hs.2.2⟩,hx⟩
     ·intro hx;exact hx.2
    subst ers
    have hlH:H l=none:=by
     by_cases z:l=S
     ·subst z;exact hS
     ·rw[az z] at hl;exact hl
    have lS:l≠S:=fun z=>by subst z;rw[aw] at hl;cases hl
    have hh:ak H (upd (upd H S (wR X.prog X.w S qs)) l (.lst ws)):=(ak.new hS).trans (ak.new hl)
    have xx:=Ext.tups s hh
    refine k _ _ _ xx ⟨l,rfl,hlH,?_,ws,aw,?_⟩
    ·unfold kA
     rw[s.free hlH,aw]
     exact if_neg fun y=>y
    ·refine aM.rps (Paired.mapP hpw fun v p ⟨a,ea,qa⟩=>⟨a,ea,nk (s.trans hh) ?_⟩)
     exact qa.grow (gx.new hl)
   ·cases e
end
end L2

end

section
namespace L2
open PySem PySem.Spec PyProof.Rows
section
variable {K:PySem.W.Frag}{X:Cx}{G H:Hp}{Γ:Fx}{E:XK}{e a b c:Expr}{f fa fb fc:VF D}{L La Lb:List Nat}{md ma mb mc:Md}{pos apos cpos np:Pos}
def bS:D->Option D
 | .int n=>if 0<=n/\n<=1000 then some (.list (bG 0 n.toNat)) else none
 |_=>none
theorem xt (n:Nat):bL K G ((List.range n).map fun (i:Nat)=>V.int (i:Int)) (bG 0 n):=by
 have key:∀l:List Nat,bL K G (l.map fun (i:Nat)=>V.int (i:Int)) (l.map fun (k:Nat)=>PyData.int (0 + k)):=by
  intro l
  induction l with
  |nil=>exact .nil
  |cons x l ih=>exact .cons (by show Rp K G (.int (x:Int)) (.int (0 + (x:Int)));rw[Int.zero_add];exact .int _) ih
 exact key _
theorem kl {p1 p2 pos2:Pos}(hc:X.calm=true)(hg:Gl X "list")(hm:X.mg "list"=none)(hg2:Gl X "range")(hm2:X.mg "range"=none)(ha:SE X Γ E a fa La ma)
  (he:starEach [a] X.env=(false,eval a X.env) :: starEach [] X.env:=by rfl)
  (he2:starEach [.Call (.Name "range" p2) [a] [] pos2] X.env=(false,eval (.Call (.Name "range" p2) [a] [] pos2) X.env) :: starEach [] X.env:=by rfl) :
  SE X Γ E (.Call (.Name "list" p1) [.Call (.Name "range" p2) [a] [] pos2] [] pos) (f1 fa bS) La .w:=by
 refine PE.post' (fU (oh hc) hg hm (by decide +kernel) (aJ (fU z5 hg2 hm2 (by decide +kernel) (aJ ha bg he) (by decide) (by decide) he) bg he2) (by decide) (by decide) he2) fun σ H Q ⟨env,G,B,β,I,o⟩=>?_
 refine gQ (r:=fun x H1 Q=>∃n:Int,[x]= [.int n]/\∀p,H1 p=none->(fun (y:V) (H2:Hp)=>∃(p:Addr) (n:Int),[y]= [V.ref p]/\H2 p=some (.dt 0 n)/\0<=n/\n<=1000/\∀l,H2 l=none->Q (.ref l) (upd H2 l (.lst ((List.range n.toNat).map fun (i:Nat)=>V.int (i:Int))))) (V.ref p) (upd H1 p (.dt 0 n))) ?_ I o
 intro B G H x dx d Q s hB bx e k
 cases dx with
 |int n=>
  obtain rfl:=bx.int
  simp only[bS] at e
  split at e
  ·rename_i hh
   cases e
   refine⟨n,rfl,fun p hp=>⟨p,n,rfl,aw,hh.1,hh.2,fun l hl=>?_⟩⟩
   have hlp:l≠p:=fun z=>by subst z;rw[aw] at hl;cases hl
   have hlH:H l=none:=by rw[az hlp] at hl;exact hl
   have x1:=Ext.own s (o:=.dt 0 n) hp
   have x2:=Ext.own x1.gh (o:=.lst ((List.range n.toNat).map fun (i:Nat)=>V.int (i:Int))) hl
   exact k _ _ _ (x1.trans x2) ⟨l,rfl,hlH,s.free hlH,_,aw,xt _⟩
  ·cases e
 |_=>cases e
def AR:D->Option D
 | .int i=>some (.int (if i < 0 then -i else i))
 |_=>none
theorem FA:xR K (fun x H Q=>∃i,[x]= [.int i]/\Q (.int (if i < 0 then -i else i)) H) AR .v:=by
 intro B G H x dx d Q s hB bx e k
 cases dx with
 |int i=>cases e;obtain rfl:=bx.int;exact⟨i,rfl,k _ G H (Ext.refl s) (.int _)⟩
 |_=>cases e
noncomputable def Gx (d:D):Option D:=match d with
 | .list ds=>(match fB ds with
  |some ps=>if ps.all Eh=true/\ps.Nodup/\ps.length < 64 then some (.list ((OM.b4 8 (OM.Mem ps)).map ao)) else none
  |none=>none)
 |_=>none
def xp (ds:List D)(k:D):Option (D×List D):=match k with
 | .int i=>if -(2 ^ 63)<=i/\i < 2 ^ 63 then (match seqIndex? i ds.length with
  |some n=>(match ds[n]? with
   |some d=>some (d,ds.eraseIdx n)
   |none=>none)
  |none=>none) else none
 |_=>none
def iO (i j:Nat)(L:List Nat)(f:VF D):SF:=fun env β=>if pQ env[i]? =true/\pQ env[j]? =true/\i≠j then toS (f (vl env) β) fun k β'=>match (a7 L env)[j]? with
 |some (.ow (.list es))=>(match xp es k with
  |some (d,es')=>D0 i ((a7 L env).set j (.ow (.list es'))) β' fun ds=>if ds.length < sizeLine then some (ds ++ [d]) else none
  |none=>.bad)
 |_=>.bad else .bad
theorem bL.eraseIdx:∀{xs:List V} {ds:List D} (i:Nat),bL K G xs ds->bL K G (xs.eraseIdx i) (ds.eraseIdx i)
 |_,_,_,.nil=>.nil
 |_,_,0,.cons _ t=>t
 |_,_,i + 1,.cons r t=>.cons r (bL.eraseIdx i t)
theorem wK (i j:Nat){x y:Str}{np2 apos2 cpos2:Pos}(hb:∀j,Γ.br j=false)(he:SE X Γ E e f L md)(hN:X.N[i]? =some x:=by rfl)(hv:tM X.env.scope x:=by first |exact Or.inl rfl |exact Or.inr (Or.inl rfl) |exact Or.inr (Or.inr rfl))(hd:(x == ("__debug__":Str))=false:=by decide)
  (hcd:(x == ("__classdict__":Str))=false:=by decide)
  (hN2:X.N[j]? =some y:=by rfl) (hv2:tM X.env.scope y:=by first |exact Or.inl rfl |exact Or.inr (Or.inl rfl) |exact Or.inr (Or.inr rfl)) (hd2:(y == ("__debug__":Str))=false:=by decide)
  (hcd2:(y == ("__classdict__":Str))=false:=by decide)
  (hbase:attributeBase (.Name x np) "append" X.env (eval (.Name x np) X.env)=eval (.Name x np) X.env:=by rfl)
  (hfew:((backTo cpos (starEach [.Call (.Attribute (.Name y np2) "pop" apos2) [e] [] cpos2] X.env)).all (fun x=> !x.1) && (backToKw cpos (keywordEach [] X.env)).all (fun x=>x.1.isSome)
   && decide ([Expr.Call (.Attribute (.Name y np2) "pop" apos2) [e] [] cpos2].length + ([]:List Keyword).length + (if ([]:List Keyword).isEmpty then 0 else 1) < 30))=true:=by rfl)
  (hline:(apos.endLine == cpos.line)=true:=by rfl) (hs:starEach [.Call (.Attribute (.Name y np2) "pop" apos2) [e] [] cpos2] X.env=(false,eval (.Call (.Attribute (.Name y np2) "pop" apos2) [e] [] cpos2) X.env) :: starEach [] X.env:=by rfl)
  (hbase2:attributeBase (.Name y np2) "pop" X.env (eval (.Name y np2) X.env)=eval (.Name y np2) X.env:=by rfl)
  (hfew2:((backTo cpos2 (starEach [e] X.env)).all (fun x=> !x.1) && (backToKw cpos2 (keywordEach [] X.env)).all (fun x=>x.1.isSome)
   && decide ([e].length + ([]:List Keyword).length + (if ([]:List Keyword).isEmpty then 0 else 1) < 30))=true:=by rfl)
  (hline2:(apos2.endLine == cpos2.line)=true:=by rfl) (hs2:starEach [e] X.env=(false,eval e X.env) :: starEach [] X.env:=by rfl)
  (hsw:swapsWith (.Call (.Attribute (.Name x np) "append" apos) [.Call (.Attribute (.Name y np2) "pop" apos2) [e] [] cpos2] [] cpos) none pos.line X.env=pure false:=by rfl) :
  SS X Γ E (.Expr (.Call (.Attribute (.Name x np) "append" apos) [.Call (.Attribute (.Name y np2) "pop" apos2) [e] [] cpos2] [] cpos) pos) (iO i j L f):=by
 refine PS.post (pU (zD PySem.F.plainAttrs_list PySem.F.slot_list_append PySem.F.type_list_append lx (hJ hN hv hd hcd)
  (aJ (zD PySem.F.plainAttrs_list PySem.F.slot_list_pop PySem.F.type_list_pop yu (hJ hN2 hv2 hd2 hcd2) (aJ he bg hs2) hbase2 hfew2 hline2 hs2 rfl) bg hs) hbase hfew hline hs rfl) hsw) fun N σ H ⟨env,G,B,β,I,o⟩=>?_
 unfold iO at o
 by_cases hO:pQ env[i]? =true/\pQ env[j]? =true/\i≠j
 case neg=>rw[if_neg hO] at o;exact o.elim
 rw[if_pos hO] at o
 obtain⟨hO1,hO2,hij⟩:=hO
 obtain⟨ds0,q0⟩:=mq hO1
 obtain⟨es0,w0⟩:=mq hO2
 obtain⟨p,h1,_,_,_,xs,h5,_⟩:=I.slot i _ q0
 obtain⟨q,k1,_,_,_,ys,k5,_⟩:=I.slot j _ w0
 refine⟨_,h1,.inl ⟨rfl,xs,.inl (.inl h5)⟩,?_⟩
 refine⟨_,k1,.inl ⟨rfl,ys,.inl (.inl k5)⟩,?_⟩
 refine⟨env,G,B,β,I,bK o fun kd β' k v G' H' I' s' m' vo=>?_⟩
 cases ej:(a7 L env)[j]? with
 |none=>rw[ej] at k;exact k.elim
 |some sj=>
  rw[ej] at k
  cases sj with
  |ow dj=>
   cases dj with
   |list es=>
    dsimp only at k
    cases ep:xp es kd with
    |none=>rw[ep] at k;exact k.elim
    |some pr=>
     obtain⟨d,es'⟩:=pr
     rw[ep] at k
     dsimp only at k
     unfold xp at ep
     cases kd <;> first | (cases ep;done) |skip
     rename_i ii
     dsimp only at ep
     split at ep
     ·rename_i hr
      cases eI:seqIndex? ii es.length with
      |none=>rw[eI] at ep;cases ep
      |some n=>
       rw[eI] at ep
       dsimp only at ep
       cases eD:es[n]? with
       |none=>rw[eD] at ep;cases ep
       |some d0=>
        rw[eD] at ep
        cases ep
        obtain rfl:=(vo.brw I.boxThere).int
        obtain⟨q',g1,_,_,_,zs,g5,g6⟩:=I'.slot j _ ej
        rw[k1] at g1;cases g1
        obtain⟨xv,ex,rx⟩:=g6.at eD
        refine⟨q,zs,ii,n,xv,rfl,rfl,g5,hr.1,hr.2,by rw[g6.len];exact eI,ex,?_⟩
        have I2:=I'.write hb ej k1 (o:=.lst (zs.eraseIdx n)) (d':=.list (es.eraseIdx n)) fun H2 e2 s2=>⟨_,e2,g6.eraseIdx n⟩
        obtain⟨ds,fs,eq,eg,k⟩:=pN k
        by_cases hz:ds.length < sizeLine
        case neg=>rw[if_neg hz] at eg;cases eg
        rw[if_pos hz] at eg
        cases eg
        obtain⟨p',f1,_,_,_,us,f5,f6⟩:=I2.slot i _ eq
        rw[h1] at f1;cases f1
        refine⟨p,us,xv,rfl,rfl,f5,by rw[f6.len];exact hz,?_⟩
        exact k B G' _ σ (I2.write hb eq h1 fun H2 e2 s2=>⟨_,e2,f6.snoc rx⟩) s'
     ·cases ep
   |_=>exact k.elim
  |_=>exact k.elim
end
def bZ:List D->Int->FB
 | [.int m],β=>if 0 < m/\m < 1073741824 then .ok (.int (β % m)) false (β / m) else .bad
 |_,_=>.bad
theorem vp {ds:List D}{β:Int}(h:bZ ds β≠.bad):∃m,ds= [.int m]/\0 < m/\m < 1073741824:=by
 unfold bZ at h
 split at h
 ·rename_i m
  by_cases hh:0 < m/\m < 1073741824
  ·exact⟨m,rfl,hh.1,hh.2⟩
  ·rw[if_neg hh] at h;exact absurd rfl h
 ·exact absurd rfl h
theorem qj {m β:Int}(h0:0 < m)(h1:m < 1073741824):bZ [.int m] β=.ok (.int (β % m)) false (β / m):=if_pos ⟨h0,h1⟩
def constsOf:List Expr->Option (List Int)
 | []=>some []
 | .Constant (.int i) _ _ :: es=>(constsOf es).map fun r=>i :: r
 |_=>none
def Hm (ns:List Int):VF (List D):=fun _ β=>.ok (ns.map PyData.int) β
theorem pD {X:Cx}{Γ:Fx}{E:XK}:∀{es:List Expr} {ns:List Int},constsOf es=some ns->SA X Γ E es (Hm ns) []
 | [],ns,h=>by
  have e:ns= []:=by unfold constsOf at h;exact (Option.some.inj h).symm
  subst e
  exact ar
 |e :: es,ns,h=>by
  unfold constsOf at h
  split at h
  ·cases ‹_ :: _= []›
  ·next i a b es' heq=>
   cases heq
   cases q:constsOf es with
   |none=>rw[q] at h;cases h
   |some r=>
    rw[q] at h
    have e2:i :: r=ns:=Option.some.inj h
    subst e2
    exact af av (pD q) rfl
  ·cases h
section
variable {P:Program}{w:World}{K:PySem.W.Frag}{mg:Str->Option Value}{base:Heap}
theorem Bo {X:Cx}{i j:Nat}{x y:Str}{px py pos:Pos}{k:Nat}(hN:X.N.Nodup)(hi:X.N[i]? =some x)(hj:X.N[j]? =some y)(hx:X.env.scope.names.lookup x=some .local)(hy:X.env.scope.names.lookup y=some .local)(hc:X.calm=true) :
  PG X (.Tuple [.Name x px,.Name y py] k pos) (A4 X.K 2 (nW (jY i) (nW (jY j) BE))):=
 ly hc (cy (cH hN hi (Or.inl hx) (Or.inr hx)) (cy (cH hN hj (Or.inl hy) (Or.inr hy)) jL))
theorem zg {b:Addr}{β m:Int}{H:Hp}{Q:VK}{G:Hp}(hb:H b=some (.lst [.int β]))(s:ak G H){p:Addr}(hp:H p=none)
  (kk:∀v G' H',gW (some b) H H'->H' b=some (.lst [.int (β / m)])->ak G G'->ak G' H'->(∀c,Mx H c->G c=none->G' c=none)->FV K H G' H' false (.int (β % m)) v->Q v H') (gb:G b=none) :
  Q (.int (β % m)) (upd (upd H p (.tup [.int (β / m),.int (β % m)])) b (.lst [.int (β / m)])):=by
 have hbp:b≠p:=aF hb hp
 refine kk _ G _ (fun c o e n=>?_) aw (ak.refl _) (fun c o e=>?_) (fun c _ h=>h) (.int _)
 ·rw[az (fun z=>n (by rw[z])),az (aF e hp)];exact e
 ·rw[az (fun z=>by rw[z,gb] at e;cases e),az (aF (s c o e) hp)];exact s c o e
end
end L2

end

section
namespace L2
open PySem PySem.SeqAt PySem.Spec PyProof.Rows
theorem qy {M:Model}{A:Around}{E:Value->Shared->Prop}{s:Shared}{β:Type}{b:Nat}(f:Nat->β->Sem (ForInStep β))(I:List Nat->β->Shared->Prop)(Q:β->Shared->Prop)
  (turn:∀x rest b s,I (x :: rest) b s->wpAny M A (f x b) (fun r s'=>match r with | .yield b'=>I rest b' s' | .done b'=>Q b' s') E s)
  (fin:∀b s,I [] b s->Q b s) (c:β) (h:I (List.range' 0 b) c s):wpAny M A (forIn [0:b] c f) Q E s:=by
 rw[Std.Legacy.Range.forIn_eq_forIn_range']
 simp only[Std.Legacy.Range.size,Nat.sub_zero,Nat.add_sub_cancel,Nat.div_one]
 exact wpAny_forIn_list f I Q turn fin _ c h
theorem oG (l:Addr)(items:Array Value)(n:Nat)(dd:Option Addr)(sl:Array (Option Value))(x:Value)(e:Value->Bool)(j:Nat)(hj:j < items.size)
  (hit:e items[j]=true) (hno:∀m (hm:m < items.size),m < j->e items[m]=false) :
  Meets (Builtin.«tuple.index» ⟨[.ref l,x],[]⟩)
   (fun A R s=>s.heap.get? l=some {cls:=.type "tuple",dict:=dd,data:=.seq items n,slots:=sl}/\(∀y,y∈items->EqAt A.in1 s y x (e y))/\R (.ok (.ret (.int j s.toks))) {s with toks:=s.toks + 1}):=
 .of_wp fun prog w A R s h=>by
  obtain⟨hp,g,d,tk,os⟩:=s;obtain⟨hl,he,h⟩:=h
  wp_walk using wpAny_loadPart' hl,qy _ (fun rest b s'=>b.1=none/\s'=⟨hp,g,d,tk,os⟩/\∃i,i<=j/\rest=List.range' i (items.size - i)) _
  case turn=>
   rintro y rest b s' ⟨hb,rfl,i,hi,hr⟩
   obtain⟨m,hm⟩:∃m,items.size - i=m + 1:=⟨items.size - i - 1,by omega⟩
   rw[hm,List.range'_succ] at hr
   obtain⟨rfl,rfl⟩:=List.cons.inj hr
   have hlt:y < items.size:=by omega
   have e1:items[y]? =some items[y]:=by simp[hlt]
   simp only[e1]
   refine wpAny_bind (he _ (Array.getElem_mem hlt) prog w _ _ ?_)
   by_cases z:y=j
   ·subst z
    rw[hit]
    wp_walk
    exact⟨_,rfl,h⟩
   ·rw[hno y hlt (by omega)]
    wp_walk
    exact⟨rfl,rfl,y + 1,by omega,by congr 1;omega⟩
  case fin=>
   rintro b s' ⟨hb,rfl,i,hi,hr⟩
   obtain⟨m,hm⟩:∃m,items.size - i=m + 1:=⟨items.size - i - 1,by omega⟩
   rw[hm,List.range'_succ] at hr
   cases hr
  case h=>
   exact⟨rfl,rfl,0,Nat.zero_le _,by rw[Nat.min_self];rfl⟩
section
variable {K:PySem.W.Frag}{X:Cx}{G H:Hp}{Γ:Fx}{E:XK}{e a b c:Expr}{f fa fb fc:VF D}{L La Lb:List Nat}{md ma mb mc:Md}{pos apos cpos np:Pos}
def uz (k:Int):Value->Bool
 | .int i _=>i == k
 |_=>false
theorem j8 {k:Int}:∀{ns:List Int} {us:List Value} (i:Nat) (h:i < us.length) (h2:i < ns.length),Vals (ns.map V.int) us->uz k us[i]=(ns[i] == k)
 | [],_,_,_,h2,_=>absurd h2 (Nat.not_lt_zero _)
 |n :: ns,_,0,_,_,.cons r _=>by obtain⟨t,rfl⟩:=r;rfl
 |n :: ns,_,i + 1,h,h2,.cons _ rs=>j8 i (Nat.lt_of_succ_lt_succ h) (Nat.lt_of_succ_lt_succ h2) rs
theorem sE {k:Int}{t:Tok}(A:Around)(s:Shared):∀{ns:List Int} {us:List Value},Vals (ns.map V.int) us->∀y∈us,EqAt A s y (.int k t) (uz k y)
 | [],_,.nil,y,hy=>by cases hy
 |n :: ns,_,.cons r rs,y,hy=>by
  rcases List.mem_cons.mp hy with z |z
  ·subst z;obtain⟨t',rfl⟩:=r;exact EqAt.int_int n t' k t
  ·exact sE A s rs y z
def AZ (K:PySem.W.Frag):V->List V->Hp->VK->Prop:=fun x vs H Q=>∃(a:Addr) (ns:List Int) (k:Int),x=.ref a/\vs= [.int k]/\fG K H a (ns.map V.int)/\k∈ns/\Q (.int (ns.idxOf k:Nat)) H
theorem xB:FK X "tuple.index" (AZ X.K):=by
 intro pins s σ H x vs v us Q I rx rv h
 obtain⟨a,ns,k,rfl,rfl,hq,hk,q⟩:=h
 cases rx
 obtain⟨u,rfl,ru⟩:=vals1 rv
 obtain⟨t,rfl⟩:=ru
 obtain⟨its,rs,pl,hz⟩:=I.tuple hq
 obtain⟨⟨cls,dd,data,sl⟩,ho,hc,n,hd⟩:=id pl
 simp only at hc hd
 subst hc hd
 have hj:ns.idxOf k < ns.length:=List.idxOf_lt_length_iff.mpr hk
 have hlen:its.length=ns.length:=by rw[<-rs.length,List.length_map]
 refine call_meets PySem.F.slot_tuple_index ⟨_,ho,rfl⟩ PySem.F.entry_tuple_index (PySem.F.args_tuple_index_2 _ _)
  (oG a its.toArray n dd sl (.int k t) (uz k) (ns.idxOf k) (by simpa[hlen] using hj) ?_ ?_) ⟨ho,fun y hy=>sE _ _ rs y (by simpa using hy),?_⟩
 ·have:=j8 (k:=k) (ns.idxOf k) (by omega) hj rs
  simpa[List.getElem_idxOf hj] using this
 ·intro m hm hlt
  have hm':m < ns.length:=by simpa[hlen] using hm
  have hne:ns[m]≠k:=fun z=>by
   have:=List.not_of_lt_findIdx (p:=(· == k)) hlt
   simp[z] at this
  have:=j8 (k:=k) m (by omega) hm' rs
  rw[beq_eq_false_iff_ne.mpr hne] at this;simpa using this
 ·exact⟨.int (ns.idxOf k:Nat),H,I.tok _,⟨_,rfl⟩,q⟩
theorem Inv.tupleP {pins:List (Addr×Obj)}{σ:St}{s:Shared}{p:Addr}{xs:List V}(I:Inv X pins σ H s)(h:fG X.K H p xs):s.TypeIs (.ref p) "tuple"/\∀a,Value.ref p=.ref a->∃ob,s.heap.get? a=some ob/\ob.dict=none:=by
 rcases h with h | ⟨o,its,n,hk,hc,hs,hz,r,hd⟩
 ·obtain⟨_,_,_,o,e,c,n,d,hd⟩:=h.ok I.hok
  exact⟨⟨o,e,c⟩,fun a z=>by cases z;exact⟨o,e,hd⟩⟩
 ·exact⟨⟨o,I.kIn p o hk,hc⟩,fun a z=>by cases z;exact⟨o,I.kIn p o hk,hd⟩⟩
def Gq (K:PySem.W.Frag)(r:V->List V->Hp->VK->Prop)(to:TE)(t:TA):TE:=fun σ H Q=>to σ H fun x H1=>(∃p xs,x=.ref p/\fG K H1 p xs)/\t σ H1 fun xs H2=>r x xs H2 Q
theorem Dw {o e:Expr}{es:List Expr}{to:TE}{t:TA}{name:Str}{apos cpos:Pos}{id:String}{r:V->List V->Hp->VK->Prop}(slot:Slot "tuple" name id)(hty:typeOf (.builtin id)=pure (.type "method_descriptor"))(hm:FK X id r)(ho:PE X o to)(ha:PA X (e :: es) t)
  (hbase:attributeBase o name X.env (eval o X.env)=eval o X.env:=by rfl)
  (hfew:((backTo cpos (starEach (e :: es) X.env)).all (fun x=> !x.1) && (backToKw cpos (keywordEach [] X.env)).all (fun x=>x.1.isSome)
   && decide ((e :: es).length + ([]:List Keyword).length + (if ([]:List Keyword).isEmpty then 0 else 1) < 30))=true:=by rfl)
  (hline:(apos.endLine == cpos.line)=true:=by rfl) (hs:starEach (e :: es) X.env=(false,eval e X.env) :: starEach es X.env:=by rfl) (hplain:(backTo cpos (starEach es X.env)).any (·.1)=false:=by rfl) :
  PE X (.Call (.Attribute o name apos) (e :: es) [] cpos) (Gq X.K r to t):=by
 intro pins s σ H Q I h
 refine wpAny_Call_method_late hbase hfew hline rfl (b7 (ho pins s σ H _ I h) fun v s1 ⟨x,H1,I1,r1,⟨p,ys,ex,hr⟩,q1⟩=>?_)
 subst ex
 cases r1
 obtain⟨h1,h2⟩:=I1.tupleP hr
 refine⟨"tuple",id,PySem.F.plainAttrs_tuple,slot,hty,h1,h2,?_⟩
 have hA:=ha cpos pins s1 σ H1 _ I1 q1
 rw[hs] at hA ⊢
 refine Calls.callWith_builtin (by show (false || (backTo cpos (starEach es X.env)).any (·.1))=false;rw[hplain] <;> rfl) (Calls.evalArgs_plain ?_)
 exact b7 hA fun us s2 ⟨vs,H2,I2,r2,q2⟩=>hm pins s2 σ H2 (.ref p) vs (.ref p) us Q I2 rfl r2 q2
def fX:List D->Option (List Int)
 | []=>some []
 | .int i :: ds=>(fX ds).map (i :: ·)
 |_=>none
theorem kM:∀{ds:List D} {ns:List Int},fX ds=some ns->ds=ns.map PyData.int
 | [],ns,h=>by cases h;rfl
 | .int i :: ds,ns,h=>by
  unfold fX at h
  cases q:fX ds with
  |none=>rw[q] at h;cases h
  |some ms=>rw[q] at h;cases h;rw[kM q];rfl
 | .none :: _,_,h=>by cases h
 | .bool _ :: _,_,h=>by cases h
 | .str _ :: _,_,h=>by cases h
 | .list _ :: _,_,h=>by cases h
 | .tuple _ :: _,_,h=>by cases h
 | .dict _ :: _,_,h=>by cases h
theorem fW:∀ns:List Int,fX (ns.map PyData.int)=some ns
 | []=>rfl
 |n :: ns=>by show (fX (ns.map PyData.int)).map (n :: ·)=_;rw[fW ns];rfl
theorem n0:∀{ns:List Int} {xs:List V},bL K G xs (ns.map PyData.int)->xs=ns.map V.int
 | [],_,.nil=>rfl
 |n :: ns,_,.cons r t=>by cases r;rw[n0 t];rfl
def BD (d y:D):Option D:=match d,y with
 | .tuple ds,.int k=>(match fX ds with
  |some ns=>if k∈ns then some (.int (ns.idxOf k:Nat)) else none
  |none=>none)
 |_,_=>none
def vT:D->Bool
 | .tuple _=>true
 |_=>false
def iL (fa fb:VF D):VF D:=fun vs β=>(fa vs β).bnd fun x β1=>if vT x=true then (fb vs β1).bnd fun y β2=>R.of (BD x y) β2 else .bad
theorem kR (hK:X.K=Γ.K)(ha:SE X Γ E a fa La ma)(hb:SE X Γ E b fb Lb mb)
  (hbase:attributeBase a "index" X.env (eval a X.env)=eval a X.env:=by rfl)
  (hfew:((backTo cpos (starEach [b] X.env)).all (fun x=> !x.1) && (backToKw cpos (keywordEach [] X.env)).all (fun x=>x.1.isSome)
   && decide ([b].length + ([]:List Keyword).length + (if ([]:List Keyword).isEmpty then 0 else 1) < 30))=true:=by rfl)
  (hline:(apos.endLine == cpos.line)=true:=by rfl) (hs:starEach [b] X.env=(false,eval b X.env) :: starEach [] X.env:=by rfl) :
  SE X Γ E (.Call (.Attribute a "index" apos) [b] [] cpos) (iL fa fb) (La ++ Lb) .v:=by
 refine PE.post' (Dw PySem.F.slot_tuple_index PySem.F.type_tuple_index xB ha (aJ hb bg hs) hbase hfew hline hs rfl) fun σ H Q ⟨env,G,B,β,I,o⟩=>?_
 refine⟨env,G,B,β,I,o.bnd.imp fun d1 β1 h x G1 H1 I1 s1 m1 vx=>?_⟩
 have vx:=vx.brw I.boxThere
 cases d1 with
 |tuple ds=>
  rw[if_pos (show vT (.tuple ds)=true from rfl)] at h
  obtain⟨p,xs,rfl,hq,r⟩:=vx.tuple I1.sub
  refine⟨⟨p,xs,rfl,by rw[hK];exact hq⟩,?_⟩
  refine⟨a7 La env,G1,B,β1,I1,?_⟩
  rw[gm]
  refine h.bnd.imp fun d2 β2 h y G2 H2 I2 s2 m2 vy=>?_
  obtain⟨d,e,k⟩:=h.of
  have vy:=vy.brw I1.boxThere
  cases d2 with
  |int kk=>
   obtain rfl:=vy.int
   simp only[BD] at e
   cases q:fX ds with
   |none=>rw[q] at e;cases e
   |some ns=>
    rw[q] at e
    dsimp only at e
    split at e
    ·rename_i hk
     cases e
     have eds:=kM q
     subst eds
     have exs:=n0 r
     subst exs
     have hq2:fG X.K H2 p (ns.map V.int):=by
      rw[hK]
      rcases hq with hq |hq
      ·rcases vx with vx | ⟨_,_,_,vx⟩
       ·cases vx with
        |tup g1 r9=>have z9:=n0 r9;subst z9;exact (g1.grow (s2.trans I2.sub).grow)
       ·exact vx.elim
      ·exact .inr hq
     exact⟨p,ns,kk,rfl,rfl,hq2,hk,k _ G2 H2 (by rw[cI];exact I2) (s1.trans s2) (m1.trans m2) (.int _)⟩
    ·cases e
  |_=>simp only[BD] at e;cases e
 |_=>exact h.elim
def yG (t:Tg)(L:List Nat)(f:VF D):SF:=fun env β=>toS (f (vl env) β) fun d β'=>match fq t d (a7 L env) with
 |some env'=>.nx env' β'
 |none=>.bad
theorem D9 {t:Tg}{tg:Expr}(he:SE X Γ E e f L .v)(hg:SG X Γ tg t)(hs:swapsWithSole [tg] e pos.line X.env=pure false:=by rfl)(hw:swappedStores [tg] e X.env=pure none:=by rfl)
  (h1:(assignEach [tg] X.env).map (·.2)= [assign tg X.env]:=by rfl):SS X Γ E (.Assign [tg] e pos) (yG t L f):=by
 refine PS.post (lh he hg hs hw h1) fun N σ H ⟨env,G,B,β,I,o⟩=>?_
 refine⟨env,G,B,β,I,bK o fun d β' k v G' H' I' s' m' vo=>?_⟩
 cases q:fq t d (a7 L env) with
 |none=>rw[q] at k;exact k.elim
 |some env'=>
  rw[q] at k
  exact⟨_,G',B,β',d,env',I',vo,q,fun σ' J=>k B G' H' σ' J s'⟩
abbrev Fx.at (Γ:Fx)(H0:Hp):Fx:=⟨Γ.K,H0,Γ.G0,Γ.par,Γ.ca,Γ.br,Γ.bx⟩
end
end L2

end

section
namespace L2
open PySem PySem.Spec PyProof.Rows
section
variable {K:PySem.W.Frag}{X:Cx}{G H:Hp}
def As (neg:Bool):D->D->Option D
 | .str x,.str y=>some (.bool (if neg then !decide (x=y) else decide (x=y)))
 |_,_=>none
theorem yO (x y:Str):decide (V.str x=V.str y)=decide (x=y):=by
 rw[Bool.eq_iff_iff];simp
theorem Ff:lY K Hh (As true) .v:=by
 intro B G H x y dx dy d Q s hB bx by' e k
 cases dx <;> cases dy <;> first | (cases e;done) |skip
 cases e
 obtain rfl:=bx.str
 obtain rfl:=by'.str
 refine⟨rfl,?_⟩
 rw[yO]
 exact k _ G H (Ext.refl s) (.bl _)
end
end L2

end

section

end

section

end

section
namespace L2
open PySem PySem.Spec PyProof.Rows
section
variable {X:Cx}{Γ:Fx}{E:XK}{e a b c:Expr}{f fa fb:VF D}{L La Lb:List Nat}{md ma mb:Md}{pos:Pos}
def yF (i j:Nat)(La Lb:List Nat)(fa fb:VF D):SF:=fun env β=>toS (fa (vl env) β) fun d1 β1=>toS (fb (vl env) β1) fun d2 β2=>.nx (((a7 (La ++ Lb) env).set i (.fz d1)).set j (.fz d2)) β2
theorem BI {i j:Nat}{x y:Str}{px py pt:Pos}{kt k2 pt2}(hN:X.N.Nodup)(hij:i≠j)(ha:SE X Γ E a fa La .v)(hb:SE X Γ E b fb Lb .v)(hc:X.calm=true:=by rfl)(hi:X.N[i]? =some x:=by rfl)(hj:X.N[j]? =some y:=by rfl)
  (hx:X.env.scope.names.lookup x=some .local:=by rfl) (hy:X.env.scope.names.lookup y=some .local:=by rfl)
  (hs1:starEach [a,b] X.env=(false,eval a X.env) :: starEach [b] X.env:=by rfl) (hs2:starEach [b] X.env=(false,eval b X.env) :: starEach [] X.env:=by rfl)
  (hw:swappedStores [.Tuple [.Name x px,.Name y py] kt pt] (.Tuple [a,b] k2 pt2) X.env=pure (some [x,y]):=by rfl)
  (hs:swapsWithSole [.Tuple [.Name x px,.Name y py] kt pt] (.Tuple [a,b] k2 pt2) pos.line X.env=pure false:=by rfl) :
  SS X Γ E (.Assign [.Tuple [.Name x px,.Name y py] kt pt] (.Tuple [a,b] k2 pt2) pos) (yF i j La Lb fa fb):=by
 refine PS.post (DF hc hN hi hj hij hx hy (aJ ha (aJ hb bg hs2) hs1) hw hs) fun N σ H ⟨env,G,B,β,I,o⟩=>?_
 refine⟨env,G,B,β,I,bK o fun d1 β1 k v G1 H1 I1 s1 m1 vo=>⟨a7 La env,G1,B,β1,I1,?_⟩⟩
 rw[gm]
 refine bK k fun d2 β2 k w G2 H2 J s2 m2 vo2=>?_
 have vo:Rp Γ.K G1 v d1:=vo
 have vo2:Rp Γ.K G2 w d2:=vo2
 refine⟨_,_,rfl,k B G2 H2 _ ?_ (s1.trans s2)⟩
 rw[cI]
 exact (J.set' i (vo.mono s2)).set' j vo2
end
end L2

end

section
namespace L2
open PySem PySem.Spec PyProof.Rows
section
variable {κ:Type}[DecidableEq κ]
def AO (kvs:List (κ×V))(k:κ):Option V:=(kvs.find? fun kv=>decide (kv.1=k)).map (·.2)
def putK (kvs:List (κ×V))(k:κ)(v:V):List (κ×V):=
 if (kvs.any fun kv=>decide (kv.1=k))=true then kvs.map (fun kv=>if kv.1=k then (kv.1,v) else kv) else kvs ++ [(k,v)]
theorem rB (kvs:List (κ×V))(k:κ)(v:V):(putK kvs k v).length<=kvs.length + 1:=by
 unfold putK
 split
 ·rw[List.length_map];omega
 ·rw[List.length_append,List.length_cons,List.length_nil];omega
theorem KV.any {kvs:List (κ×V)}{vs:List (κ×Value)}(r:KV kvs vs)(k:κ):(kvs.any fun kv=>decide (kv.1=k))=vs.any fun kv=>decide (kv.1=k):=by
 unfold KV at r
 induction r with
 |nil=>rfl
 |cons h t ih=>rw[List.any_cons,List.any_cons,ih,h.1]
theorem KV.repl {kvs:List (κ×V)}{vs:List (κ×Value)}(r:KV kvs vs)(k:κ){y:V}{u:Value}(ry:RelV y u) :
  KV (kvs.map fun kv=>if kv.1=k then (kv.1,y) else kv) (vs.map fun kv=>if kv.1=k then (kv.1,u) else kv):=by
 unfold KV at r ⊢
 induction r with
 |nil=>exact .nil
 | @cons p q ps qs h t ih=>
  rw[List.map_cons,List.map_cons]
  refine .cons ?_ ih
  obtain⟨h1,h2⟩:=h
  by_cases e:p.1=k
  ·rw[if_pos e,if_pos (h1.symm.trans e)];exact⟨h1,ry⟩
  ·rw[if_neg e,if_neg (fun z=>e (h1.trans z))];exact⟨h1,h2⟩
theorem KV.put {kvs:List (κ×V)}{vs:List (κ×Value)}(r:KV kvs vs)(k:κ){y:V}{u:Value}(ry:RelV y u):KV (putK kvs k y) (stored vs k u):=by
 unfold putK stored
 rw[r.any k]
 by_cases e:(vs.any fun kv=>decide (kv.1=k))=true
 ·rw[if_pos e,if_pos e];exact r.repl k ry
 ·rw[if_neg e,if_neg e];exact Paired.snoc r ⟨rfl,ry⟩
end
theorem Ft {P:Program}{w:World}{k:Key}{u:Value}(r:RelV (kV k) u):(de P w).is k u=true:=by
 cases k with
 |inl i=>obtain⟨t,e⟩:=(show ∃t,u=Value.int i t from r);subst e;exact qS P w i t
 |inr x=>obtain⟨t,e⟩:=(show ∃t,u=Value.str x t from r);subst e;exact rh P w x t
section
variable {P:Program}{w:World}{H:Hp}{h:Heap}{a:Addr}
theorem EO {u:HO}(ok:jG P w H h)(e:Rd H a u):bH P w H h a u:=e.ok ok
theorem ET {kvs:List (Key×V)}(ok:jG P w H h)(e:Rd H a (.dK kvs)):kvs.length<=sizeLine/\(a == sysModules)=false/\∃vs,KV kvs vs/\h.DictOf (de P w) a vs:=
 show bH P w H h a (.dK kvs) from EO ok e
theorem Ct {kvs:List (Key×V)}(ok:jG P w H h)(e:H a=some (.dK kvs)):kvs.length<=sizeLine/\(a == sysModules)=false/\∃vs,KV kvs vs/\h.DictOf (de P w) a vs:=ET ok (.inl e)
end
def A0 (H:Hp)(a:Addr)(y:V)(r:Option V):Prop:=
 (∃kvs k,Rd H a (.dK kvs)/\y=kV k/\r=AO kvs k)\/∃kvs k b,Rd H a (.dT kvs)/\y=.ref b/\H b=some (.tup (k.map kV))/\r=AO kvs k
def AW (H:Hp)(a:Addr)(y v:V)(H':Hp):Prop:=
 (∃kvs k,H a=some (.dK kvs)/\y=kV k/\kvs.length < sizeLine/\H'=upd H a (.dK (putK kvs k v)))\/
 ∃kvs k b,H a=some (.dT kvs)/\y=.ref b/\H b=some (.tup (k.map kV))/\kvs.length < sizeLine/\H'=upd H a (.dT (putK kvs k v))
theorem A0.k {H:Hp}{a:Addr}{kvs:List (Key×V)}{k:Key}(e:H a=some (.dK kvs)):A0 H a (kV k) (AO kvs k):=.inl ⟨kvs,k,.inl e,rfl,rfl⟩
theorem A0.t {H:Hp}{a b:Addr}{kvs:List (List Key×V)}{k:List Key}(e:H a=some (.dT kvs))(eb:H b=some (.tup (k.map kV))):A0 H a (.ref b) (AO kvs k):=.inr ⟨kvs,k,b,.inl e,rfl,eb,rfl⟩
theorem AW.k {H:Hp}{a:Addr}{kvs:List (Key×V)}{k:Key}{v:V}(e:H a=some (.dK kvs))(hl:kvs.length < sizeLine):AW H a (kV k) v (upd H a (.dK (putK kvs k v))):=.inl ⟨kvs,k,e,rfl,hl,rfl⟩
theorem AW.t {H:Hp}{a b:Addr}{kvs:List (List Key×V)}{k:List Key}{v:V}(e:H a=some (.dT kvs))(eb:H b=some (.tup (k.map kV)))(hl:kvs.length < sizeLine) :
  AW H a (.ref b) v (upd H a (.dT (putK kvs k v))):=.inr ⟨kvs,k,b,e,rfl,eb,hl,rfl⟩
section
variable {X:Cx}{pins:List (Addr×Obj)}{σ:St}{H:Hp}{s:Shared}{a:Addr}{y v:V}{u r:Value}{o:Option V}{A:Around}{E:Value->Shared->Prop}
theorem Inv.big (I:Inv X pins σ H s):sysModules < s.heap.objs.size:=by
 have h:mainGlobals < s.heap.objs.size:=(I.mod.glob.keeps I.bk).lt
 exact Nat.lt_trans (by decide) h
theorem Bd {h':Heap}{t':Nat}{ob:HO}(I:Inv X pins σ H s)(mu:ED (H a))(hs:Heap.SameBut a s.heap h')(he:∃q,h'.get? a=some q)(new:bH X.prog X.w (upd H a ob) h' a ob) :
  Inv X pins σ (upd H a ob) {s with heap:=h',toks:=t'}:=
 I.write (x:=a) (e:=a) mu (.inl rfl) (fun b q hb z=>(hs.2 b hb).trans z) he new
theorem C0 {P:Program}{w:World}{H':Hp}{h':Heap}{kvs:List (Key×V)}{vs:List (Key×Value)}(z:kvs.length<=sizeLine)(hd:(a == sysModules)=false)(rel:KV kvs vs)(dd:h'.DictOf (de P w) a vs) :
  bH P w H' h' a (.dK kvs):=⟨z,hd,vs,rel,dd⟩
end
theorem ze {P:Program}{w:World}{H:Hp}(h:Heap)(hb:sysModules < h.objs.size):bH P w H (h.push {cls:=.type "dict",data:=.dict #[]}) h.objs.size (.dK []):=
 ⟨Nat.zero_le _,beq_eq_false_iff_ne.mpr (Ne.symm (Nat.ne_of_lt hb)),[],.nil,Heap.DictOf.new h⟩
def tf:List (TE×TE)->St->Hp->(List (V×V)->Hp->Prop)->Prop
 | [],_,H,Q=>Q [] H
 | (tk,tv) :: r,σ,H,Q=>tk σ H fun x H1=>tv σ H1 fun y H2=>tf r σ H2 fun ps H3=>Q ((x,y) :: ps) H3
abbrev VV:List (V×V)->List (Value×Value)->Prop:=Paired fun p q=>RelV p.1 q.1/\RelV p.2 q.2
def FZ (X:Cx)(pos:Pos)(keys:List (Option Expr))(values:List Expr)(trs:List (TE×TE)):Prop:=
 ∀(pins:List (Addr×Obj)) (s:Shared) (σ:St) (H:Hp) (Q:List (V×V)->Hp->Prop),Inv X pins σ H s->tf trs σ H Q->
  wpAny (model X.prog X.w) X.A (evalPairs (pairTrees keys values X.env pos)) (fun vs s'=>∃ps H',Inv X pins σ H' s'/\VV ps vs/\Q ps H') X.xe s
theorem By {X:Cx}{pos:Pos}:FZ X pos [] [] []:=fun pins s σ H Q I h=>pairTrees_nil_walk ⟨[],H,I,.nil,h⟩
theorem zq {X:Cx}{pos:Pos}{k v:Expr}{ks:List (Option Expr)}{vs:List Expr}{tk tv:TE}{trs:List (TE×TE)}(hk:PE X k tk)(hv:PE X v tv)(hr:FZ X pos ks vs trs) :
  FZ X pos (some k :: ks) (v :: vs) ((tk,tv) :: trs):=fun pins s σ H Q I h=>
 pairTrees_cons_walk (b7 (hk pins s σ H _ I h) fun u s1 ⟨x,H1,I1,rx,q1⟩=>b7 (hv pins s1 σ H1 _ I1 q1) fun w2 s2 ⟨y,H2,I2,ry,q2⟩=>
  b7 (hr pins s2 σ H2 _ I2 q2) fun ws s3 ⟨ps,H3,I3,rel,q3⟩=>⟨(x,y) :: ps,H3,I3,.cons ⟨rx,ry⟩ rel,q3⟩)
def nF (kvs more:List (Key×V)):List (Key×V):=more.foldl (fun acc kv=>putK acc kv.1 kv.2) kvs
theorem KV.merge:∀{more:List (Key×V)} {rs:List (Key×Value)} {kvs:List (Key×V)} {vs:List (Key×Value)},KV more rs->KV kvs vs->KV (nF kvs more) (merged vs rs):=by
 intro more rs kvs vs r
 unfold KV at r
 induction r generalizing kvs vs with
 |nil=>intro q;exact q
 | @cons p q ps qs h t ih=>
  intro r0
  have e:KV (putK kvs p.1 p.2) (stored vs q.1 q.2):=by
   have:=r0.put p.1 h.2
   rw[<-h.1];exact this
  exact ih e
theorem jS:∀(more kvs:List (Key×V)),(nF kvs more).length<=kvs.length + more.length
 | [],kvs=>by show kvs.length<=kvs.length + 0;omega
 |p :: r,kvs=>by
  have h1:=jS r (putK kvs p.1 p.2)
  have h2:=rB kvs p.1 p.2
  show (nF (putK kvs p.1 p.2) r).length<=_
  rw[List.length_cons];omega
theorem nD {P:Program}{w:World}:∀{kvs:List (Key×V)} {ws:List (Value×Value)},VV (kvs.map fun kv=>(kV kv.1,kv.2)) ws->∃rs,Carries (de P w) ws rs/\KV kvs rs
 | [],_,r=>by rw[List.map_nil] at r;cases r;exact⟨[],True.intro,.nil⟩
 |p :: kvs,_,r=>by
  rw[List.map_cons] at r
  cases r with
  | @cons a b as bs h t=>
   obtain⟨rs,c,q⟩:=nD (P:=P) (w:=w) t
   obtain⟨b1,b2⟩:=b
   exact⟨(p.1,b2) :: rs,⟨Ft h.1,rfl,c⟩,.cons ⟨rfl,h.2⟩ q⟩
def Ep (trs:List (TE×TE)):TE:=fun σ H Q=>∀p,H p=none->tf trs σ (upd H p (.dK [])) fun ps H2=>H2 p=some (.dK [])/\∃kvs:List (Key×V),ps=kvs.map (fun kv=>(kV kv.1,kv.2))/\kvs.length<=15/\Q (.ref p) (upd H2 p (.dK (nF [] kvs)))
theorem B6 {X:Cx}{pos:Pos}{keys:List (Option Expr)}{values:List Expr}{trs:List (TE×TE)}(h:FZ X pos keys values trs)(hall:keys.all (·.isSome)=true)(hl:keys.length=values.length)(h0:keys≠ [])
  (h15:keys.length<=15):PE X (.Dict keys values pos) (Ep trs):=by
 intro pins s σ H Q I q
 have hn:=I.hok.fresh (Nat.le_refl s.heap.objs.size)
 have I1:=I.laid (a:=s.heap.objs.size) (o:=.dK []) (h':=s.heap.push {cls:=.type "dict",data:=.dict #[]}) (t':=s.toks) (fun _ _ q=>Heap.get?_push_of_some _ q) (Nat.le_refl _) (ze s.heap I.big)
 refine wpAny_Dict_walk (knd:=de X.prog X.w) hall hl h0 h15 (b7 (h pins _ σ _ _ I1 (q _ hn)) fun ws s2 ⟨ps,H2,I2,rel,e,kvs,ep,lk,q2⟩=>?_)
 subst ep
 obtain⟨rs,c,rk⟩:=nD (P:=X.prog) (w:=X.w) rel
 obtain⟨z,hd,vs0,r0,dd⟩:=Ct I2.hok e
 cases r0
 refine⟨rs,c,dd,fun h' dd' hs=>⟨.ref s.heap.objs.size,_,?_,rfl,q2⟩⟩
 have hz:(nF [] kvs).length<=sizeLine:=by
  have h1:=jS kvs []
  rw[List.length_nil] at h1
  rw[sizeLine_eq];omega
 have he:∃q,h'.get? s.heap.objs.size=some q:=let ⟨q,_,_,hq,_⟩:=dd';⟨q,hq⟩
 exact Bd I2 (by rw[e];exact True.intro) hs he (C0 hz hd (rk.merge .nil) dd')
end L2

end

section
namespace L2
open PySem PySem.Spec PyProof.Rows
section
variable {X:Cx}{Γ:Fx}{E:XK}{pos:Pos}
theorem A3 {k:Str}{i:Int}{j j'}{p p':Pos}:SE X Γ E (.Dict [some (.Constant (.str k) j p)] [.Constant (.int i) j' p'] pos) (cst (.dict [(.str k,.int i)])) [] .v:=by
 refine PE.post' (B6 (zq zd n5 By) rfl rfl (by simp) (by simp)) ?_
 rintro σ H Q ⟨env,G,B,β,I,o⟩ p hp
 have o:∀v G' H',SR Γ B G' H' σ (a7 [] env) β->ak G G'->gW B H H'->Rp Γ.K G' v (.dict [(.str k,.int i)])->Q v H':=o
 refine⟨aw,[(.inr k,.int i)],rfl,by simp,?_⟩
 rw[BZ]
 have xn:=Ext.new I.sub (o:=.dK [((.inr k:Key),V.int i)]) hp
 exact o _ _ _ (I.ext xn) xn.gg (xn.hh.mov B) (.dK (kvs:=[((.inr k:Key),V.int i)]) aw (.cons (.int i) .nil))
end
mutual
def u6:D->Bool
 | .list ds=>ue ds
 | .tuple ds=>ue ds
 | .dict kvs=> !kvs.isEmpty && kvs.all fun kv=>match kv.1,kv.2 with
  | .str _,.int _=>true
  |_,_=>false
 |_=>true
def ue:List D->Bool
 | []=>true
 |d :: ds=>u6 d && ue ds
end
section
variable {X:Cx}{pins:List (Addr×Obj)}{σ:St}{H:Hp}{s:Shared}
theorem rm {P:Program}{w:World}{K:PySem.W.Frag}{h:Heap}:∀{kvs:List (Key×V)} {ds:List (D×D)} {vs:List (Key×Value)} {es:List DictEntry},wX K H kvs ds->KV kvs vs->Pairs (de P w) es vs->
  (ds.all fun kv=>match kv.1,kv.2 with
   | .str _,.int _=>true
   |_,_=>false)=true->ReadsAll h (es.map (·.key)) (ds.map (·.1)) []/\ReadsAll h (es.map (·.val)) (ds.map (·.2)) []
 | [],_,_,_,.nil,kv,ps,_=>by
  cases kv
  cases ps
  exact⟨.nil,.nil⟩
 | (k,x) :: kvs,_,_,_,.cons r rk,kv,ps,hd=>by
  cases kv with
  |cons h1 h2=>
   cases ps with
   |cons q1 q2 q3=>
    rw[List.all_cons,Bool.and_eq_true] at hd
    obtain⟨i1,i2⟩:=rm (P:=P) (w:=w) (h:=h) rk h2 q3 hd.2
    obtain⟨hd1,_⟩:=hd
    obtain⟨e1,rv⟩:=h1
    cases k with
    |inl i=>cases hd1
    |inr y=>
     rw[<-e1] at q1
     have q1:mZ (Sum.inr y) _=true:=q1
     rcases bE q1 with⟨i,t,e,_⟩ | ⟨z,t,e,ek⟩
     ·cases e
     ·cases e
      cases r with
      |int i=>
       obtain⟨t',ev⟩:=rv
       refine⟨?_,?_⟩
       ·show ReadsAll h (_ :: _) (PyData.str y :: _) ([] ++ [])
        dsimp only
        rw[ek]
        exact .cons (.str y t) i1
       ·show ReadsAll h (_ :: _) (PyData.int i :: _) ([] ++ [])
        dsimp only
        rw[q2,ev]
        exact .cons (.int i t') i2
      |_=>cases hd1
theorem Inv.notSys (I:Inv X pins σ H s){a:Addr}{u:HO}(h:Rd H a u):a≠sysModules:=fun e=>by
 obtain⟨mm,o,es,ep,ho,_⟩:=I.mod.sys
 have:=(I.bs _ o ho).2
 rw[<-e] at this
 rcases h with h | ⟨_,h⟩ <;> (rw[h] at this;cases this)
mutual
theorem Rp.readsL (I:Inv X pins σ H s):∀{x:V} {d:D} {u:Value},Rp X.K H x d->RelV x u->u6 d=true->∃as,Reads s.heap u d as/\sysModules∉as
 |_,_,_,.non,r,_=>by cases r;exact⟨_,.none,by simp⟩
 |_,_,_,.bl b,r,_=>by cases r;exact⟨_,.bool b,by simp⟩
 |_,_,_,.int i,r,_=>by obtain⟨t,rfl⟩:=r;exact⟨_,.int i t,by simp⟩
 |_,_,_,.str x,r,_=>by obtain⟨t,rfl⟩:=r;exact⟨_,.str x t,by simp⟩
 |_,_,_,.tup h hs,r,n=>by
  cases r
  obtain⟨its,rv,⟨o,ho,hc,k,hd⟩,_⟩:=I.tuple h
  obtain⟨as,q,m⟩:=bL.readsL I hs rv n
  exact⟨_,.tuple ho hc hd (by simpa using q),m⟩
 |_,_,_,.lst (a:=a) h hs,r,n=>by
  cases r
  obtain⟨_,its,k,rv,_,ho⟩:=I.lstR (.inl h)
  obtain⟨as,q,m⟩:=bL.readsL I hs rv n
  refine⟨_,.list ho rfl rfl (by simpa using q),fun z=>?_⟩
  rcases List.mem_cons.mp z with e |z
  ·exact I.notSys (.inl h) e.symm
  ·exact m z
 |_,_,_,.scr h,r,n=>by cases n
 |_,_,_,.dK (a:=a) h hs,r,n=>by
  cases r
  obtain⟨_,hsy,vs,kv,o,es,ep,ho,hex,hdt,_,hp,_⟩:=Ct I.hok h
  obtain⟨q1,q2⟩:=rm (h:=s.heap) hs kv hp (by
   have n:(!_ && _)=true:=n
   rw[Bool.and_eq_true] at n
   exact n.2)
  refine⟨_,.dict ho hex.1 hdt q1 q2,?_⟩
  have:a≠sysModules:=fun z=>by rw[z] at hsy;simp at hsy
  simp only[List.append_nil,List.mem_singleton]
  exact fun z=>this z.symm
 |_,_,_,.dT h hs,r,n=>by
  cases hs with
  |nil=>cases n
  |cons _ _=>
   simp[u6] at n
theorem bL.readsL (I:Inv X pins σ H s):∀{xs:List V} {ds:List D} {us:List Value},bL X.K H xs ds->Vals xs us->ue ds=true->∃as,ReadsAll s.heap us ds as/\sysModules∉as
 |_,_,_,.nil,r,_=>by cases r;exact⟨_,.nil,by simp⟩
 |_,_,_,.cons h hs,r,n=>by
  have n:(u6 _ && ue _)=true:=n
  rw[Bool.and_eq_true] at n
  cases r with
  |cons r1 r2=>
   obtain⟨as,q,m⟩:=Rp.readsL I h r1 n.1
   obtain⟨bs,q',m'⟩:=bL.readsL I hs r2 n.2
   exact⟨_,.cons q q',fun z=>(List.mem_append.mp z).elim m m'⟩
end
end
def v3 (d:D):Bool:=d.showable && decide (d.depth<=64) && decide (d.shown.length<=sizeLine) && ((xI d && !d.hasDict) || u6 d)
def jk (d:D):Option D:=if v3 d=true then some (.str d.shown) else none
def zE (K:PySem.W.Frag):List V->Hp->VK->Prop:=fun xs H Q=>∃x d,xs= [x]/\Rp K H x d/\v3 d=true/\Q (.str d.shown) H
section
variable {X:Cx}
theorem nM (hg:X.A.guards=some [])(hu:X.A.units + 100 < cLine):cJ X (.builtin "repr") (zE X.K):=by
 intro pins s σ H xs us Q I r h
 obtain⟨x,d,rfl,hd,ok,q⟩:=h
 obtain⟨u,rfl,rx⟩:=vals1 r
 unfold v3 at ok
 simp only[Bool.and_eq_true,Bool.or_eq_true,decide_eq_true_eq] at ok
 obtain⟨⟨⟨h1,h2⟩,h3⟩,h4⟩:=ok
 have key:∀{a:Addr},u=.ref a->wpAny (model X.prog X.w) X.A (call (.builtin "repr") [u]) (EP X pins σ Q) X.xe s:=fun {a} e=>by
  subst e
  rcases h4 with h4 |h4
  ·obtain⟨as,rd⟩:=(hd.rep h4.1).reads I rx
   exact repr_of_reads' rd h1 (PyData.noDict_hsm (by simpa using h4.2)) hg (by omega) (fun b o e=>e) (fun h' u tk k=>⟨.str _,H,I.kept (t':=tk) k,⟨u,rfl⟩,q⟩) h3
  ·obtain⟨as,rd,m⟩:=hd.readsL I rx h4
   exact repr_of_reads' rd h1 (fun _=>m) hg (by omega) (fun b o e=>e) (fun h' u tk k=>⟨.str _,H,I.kept (t':=tk) k,⟨u,rfl⟩,q⟩) h3
 cases hd with
 |non=>cases rx;exact P.repr_of_none ⟨.str _,H,I.tok _,⟨_,rfl⟩,q⟩
 |bl b=>cases rx;exact P.repr_of_bool ⟨.str _,H,I.tok _,⟨_,rfl⟩,q⟩
 |int i=>obtain⟨t,rfl⟩:=rx;exact P.repr_of_int (by simpa[PyData.showable] using h1) ⟨.str _,H,I.tok _,⟨_,rfl⟩,q⟩
 |str y=>obtain⟨t,rfl⟩:=rx;exact P.repr_of_str ⟨.str _,H,I.tok _,⟨_,rfl⟩,q⟩ h3
 |tup _ _=>cases rx;exact key rfl
 |lst _ _=>cases rx;exact key rfl
 |scr _=>cases rx;exact key rfl
 |dK _ _=>cases rx;exact key rfl
 |dT _ _=>cases rx;exact key rfl
end
theorem u0 {K:PySem.W.Frag}:xR K (fun x=>zE K [x]) jk .v:=by
 intro B G H x dx d Q s hB bx e k
 unfold jk at e
 split at e
 ·rename_i hh
  cases e
  exact⟨x,dx,rfl,bx.rpH s,hh,k _ G H (Ext.refl s) (.str _)⟩
 ·cases e
end L2

end

section

end

section

end

section

end

section
namespace L2
open PySem PySem.Spec PyProof.Rows
def isStar:Expr->Bool
 | .Starred _ _=>true
 |_=>false
theorem wN {a:Expr}{es:List Expr}{env:Env}(h:isStar a=false):starEach (a :: es) env=(false,eval a env) :: starEach es env:=by
 cases a <;> first |rfl |cases h
end L2

end

section
namespace L2
open PySem PySem.Spec PyProof.Rows
def D5 (sc:Scope)(x:Str):Bool:=match sc.names.lookup x with
 |some .local=>true
 |some .cell=>true
 |some .free=>true
 |_=>false
theorem Bg {sc:Scope}{x:Str}(h:D5 sc x=true):tM sc x:=by
 unfold D5 at h
 unfold tM
 split at h
 ·exact .inl (by assumption)
 ·exact .inr (.inl (by assumption))
 ·exact .inr (.inr (by assumption))
 ·cases h
def tH (N:List Str)(sc:Scope):List (Str×Nat)->Bool
 | []=>true
 | (x,i) :: r=>decide (N[i]? =some x) && (D5 sc x && ((!(x == ("__debug__":Str))) && ((!(x == ("__classdict__":Str))) && tH N sc r)))
theorem vt {N:List Str}{sc:Scope}:∀{l:List (Str×Nat)} {x:Str} {i:Nat},tH N sc l=true->l.lookup x=some i->N[i]? =some x/\tM sc x/\(x == ("__debug__":Str))=false/\(x == ("__classdict__":Str))=false
 | [],_,_,_,h=>by cases h
 | (y,j) :: r,x,i,h,e=>by
  simp only[tH,Bool.and_eq_true,decide_eq_true_eq,Bool.not_eq_true'] at h
  obtain⟨h1,h2,h3,h4,h5⟩:=h
  rw[List.lookup_cons] at e
  split at e
  ·rename_i q
   have q:x=y:=by simpa using q
   subst q
   cases e
   exact⟨h1,Bg h2,h3,h4⟩
  ·exact vt h5 e
def wA:Expr->Option Int
 | .Constant (.int i) _ _=>some i
 |_=>none
theorem mf {e:Expr}{i:Int}(h:wA e=some i):∃j p,e=.Constant (.int i) j p:=by
 cases e with
 |Constant c j p=>cases c <;> first | (cases h;exact⟨_,_,rfl⟩) |cases h
 |_=>cases h
def Gy (op:UnaryOp)(e:Expr):Option Int:=match op with
 | .USub=>wA e
 |_=>none
def CL:Operator->Bool
 | .Pow=>true
 |_=>false
theorem zr {o:Operator}(h:CL o=true):o=.Pow:=by cases o <;> first |rfl |cases h
def DH (ks:List (Option Expr))(vs:List Expr):Option (Str×Int):=match ks,vs with
 | [some (.Constant (.str k) _ _)],[v]=>(wA v).map fun i=>(k,i)
 |_,_=>none
theorem A8 {ks:List (Option Expr)}{vs:List Expr}{r:Str×Int}(h:DH ks vs=some r):∃j p j' p',ks= [some (.Constant (.str r.1) j p)]/\vs= [.Constant (.int r.2) j' p']:=by
 unfold DH at h
 split at h
 ·rename_i k j p v
  cases q:wA v with
  |none=>rw[q] at h;cases h
  |some i=>
   rw[q] at h
   cases h
   obtain⟨j',p',rfl⟩:=mf q
   exact⟨_,_,_,_,rfl,rfl⟩
 ·cases h
def GC:Const->Option D
 | .int i=>some (.int i)
 | .bool b=>some (.bool b)
 | .none=>some .none
 | .str x=>some (.str x)
 |_=>none
mutual
def rD (nm:List (Str×Nat)):Expr->Option (VF D×List Nat)
 | .Name x _=>(nm.lookup x).map fun i=>(gv i,[i])
 | .Constant c _ _=>(GC c).map fun d=>(cst d,[])
 | .UnaryOp op a _=>(Gy op a).map fun i=>(cst (.int (-i)),[])
 | .BinOp a o b _=>if CL o=true then (wA a).bind fun i=>(wA b).map fun j=>(f2 (cst (.int i)) (cst (.int j)) yZ,[]) else none
 | .Dict ks vs _=>(DH ks vs).map fun r=>(cst (.dict [(.str r.1,.int r.2)]),[])
 | .Tuple es _ _=>(Cr nm es).map fun r=>(aX r.1,r.2)
 | .List es _=>(Cr nm es).map fun r=>(ba r.1,r.2)
 | .BoolOp ..=>none
 | .NamedExpr ..=>none
 | .Lambda ..=>none
 | .IfExp ..=>none
 | .Set ..=>none
 | .ListComp ..=>none
 | .SetComp ..=>none
 | .DictComp ..=>none
 | .GeneratorExp ..=>none
 | .Await ..=>none
 | .Yield ..=>none
 | .YieldFrom ..=>none
 | .Compare ..=>none
 | .Call ..=>none
 | .FormattedValue ..=>none
 | .JoinedStr ..=>none
 | .Attribute ..=>none
 | .Subscript ..=>none
 | .Starred ..=>none
 | .Slice ..=>none
def Cr (nm:List (Str×Nat)):List Expr->Option (VF (List D)×List Nat)
 | []=>some (ah,[])
 |e :: es=>(rD nm e).bind fun r=>(Cr nm es).map fun q=>(ae r.1 q.1,r.2 ++ q.2)
end
section
variable {X:Cx}{Γ:Fx}{E:XK}{nm:List (Str×Nat)}
theorem jh {α β:Type}{o:Option α}{f:α->β}{b:β}(h:o.map f=some b):∃a,o=some a/\f a=b:=by
 cases o with
 |none=>cases h
 |some a=>exact⟨a,rfl,Option.some.inj h⟩
theorem uK {α β:Type}{o:Option α}{f:α->Option β}{b:β}(h:o.bind f=some b):∃a,o=some a/\f a=some b:=by
 cases o with
 |none=>cases h
 |some a=>exact⟨a,rfl,h⟩
mutual
theorem E4 (hc:tH X.N X.env.scope nm=true)(hb:∀i,Γ.br i=false):∀{e:Expr} {f:VF D} {L:List Nat},rD nm e=some (f,L)->SE X Γ E e f L .v/\isStar e=false
 | .Name x p,f,L,h=>by
  rw[rD] at h
  obtain⟨i,q,e⟩:=jh h
  cases e
  obtain⟨h1,h2,h3,h4⟩:=vt hc q
  exact⟨aB i (hb i) h1 h2 h3 h4,rfl⟩
 | .Constant c j p,f,L,h=>by
  rw[rD] at h
  obtain⟨d,q,e⟩:=jh h
  cases e
  cases c <;> first | (cases q;first |exact⟨av,rfl⟩ |exact⟨ij,rfl⟩ |exact⟨DA,rfl⟩ |exact⟨zb,rfl⟩) |cases q
 | .UnaryOp op a p,f,L,h=>by
  rw[rD] at h
  obtain⟨i,q,e⟩:=jh h
  cases e
  cases op <;> first | (cases q;done) |skip
  obtain⟨j,p,rfl⟩:=mf q
  exact⟨CK uA CJ av,rfl⟩
 | .BinOp a op b p,f,L,h=>by
  rw[rD] at h
  split at h
  ·rename_i ho
   obtain rfl:=zr ho
   obtain⟨i,q,h⟩:=uK h
   obtain⟨j,q2,e⟩:=jh h
   cases e
   obtain⟨j1,p1,rfl⟩:=mf q
   obtain⟨j2,p2,rfl⟩:=mf q2
   exact⟨aV D7 E6 av av,rfl⟩
  ·cases h
 | .Dict ks vs p,f,L,h=>by
  rw[rD] at h
  obtain⟨r,q,e⟩:=jh h
  cases e
  obtain⟨_,_,_,_,rfl,rfl⟩:=A8 q
  exact⟨A3,rfl⟩
 | .Tuple es c p,f,L,h=>by
  rw[rD] at h
  obtain⟨r,q,e⟩:=jh h
  cases e
  exact⟨cp (qi hc hb q),rfl⟩
 | .List es p,f,L,h=>by
  rw[rD] at h
  obtain⟨r,q,e⟩:=jh h
  cases e
  exact⟨SE.wv (bM (qi hc hb q)),rfl⟩
 | .BoolOp ..,_,_,h=>by rw[rD] at h;cases h
 | .NamedExpr ..,_,_,h=>by rw[rD] at h;cases h
 | .Lambda ..,_,_,h=>by rw[rD] at h;cases h
 | .IfExp ..,_,_,h=>by rw[rD] at h;cases h
 | .Set ..,_,_,h=>by rw[rD] at h;cases h
 | .ListComp ..,_,_,h=>by rw[rD] at h;cases h
 | .SetComp ..,_,_,h=>by rw[rD] at h;cases h
 | .DictComp ..,_,_,h=>by rw[rD] at h;cases h
 | .GeneratorExp ..,_,_,h=>by rw[rD] at h;cases h
 | .Await ..,_,_,h=>by rw[rD] at h;cases h
 | .Yield ..,_,_,h=>by rw[rD] at h;cases h
 | .YieldFrom ..,_,_,h=>by rw[rD] at h;cases h
 | .Compare ..,_,_,h=>by rw[rD] at h;cases h
 | .Call ..,_,_,h=>by rw[rD] at h;cases h
 | .FormattedValue ..,_,_,h=>by rw[rD] at h;cases h
 | .JoinedStr ..,_,_,h=>by rw[rD] at h;cases h
 | .Attribute ..,_,_,h=>by rw[rD] at h;cases h
 | .Subscript ..,_,_,h=>by rw[rD] at h;cases h
 | .Starred ..,_,_,h=>by rw[rD] at h;cases h
 | .Slice ..,_,_,h=>by rw[rD] at h;cases h
theorem qi (hc:tH X.N X.env.scope nm=true)(hb:∀i,Γ.br i=false):∀{es:List Expr} {f:VF (List D)} {L:List Nat},Cr nm es=some (f,L)->SA X Γ E es f L
 | [],f,L,h=>by rw[Cr] at h;cases h;exact ar
 |e :: es,f,L,h=>by
  rw[Cr] at h
  obtain⟨r,q,h⟩:=uK h
  obtain⟨r2,q2,e⟩:=jh h
  cases e
  obtain⟨a,b⟩:=E4 hc hb q
  exact af a (qi hc hb q2) (wN b)
end
theorem B7 {es:List Expr}{p:Pos}{t:Option Expr}{l:Nat}{env:Env}:swapsWith (.List es p) t l env=pure false:=rfl
theorem CB {es:List Expr}{f:VF (List D)}{L:List Nat}{pos:Pos}(nm:List (Str×Nat))(hc:tH X.N X.env.scope nm=true)(hb:∀i,Γ.br i=false)(h:Cr nm es=some (f,L)):SE X Γ E (.List es pos) (ba f) L .w:=bM (qi hc hb h)
theorem E2 {i:Nat}{x:Str}{es:List Expr}{f:VF (List D)}{L:List Nat}{pos' p pos:Pos}(nm:List (Str×Nat))(hc:tH X.N X.env.scope nm=true)(hb:∀i,Γ.br i=false)(h:Cr nm es=some (f,L))(hN:X.N.Nodup)(hi:X.N[i]? =some x)(hx:Loc X.env.scope x)(hf:X.fn x=true\/X.env.scope.names.lookup x=some .local) :
  SS X Γ E (.Assign [.Name x pos'] (.List es p) pos) (aZ i L (ba f)):=aU (SE.wv (CB nm hc hb h)) hN hi hx B7 hf
end
end L2

end

section
namespace HT
open PySem PyProof.Rows PySem.Builtin PyProof
theorem mW {α β:Type}{f g:α->Option β}:∀{l:List α},(∀m,m∈l->f m=g m)->l.filterMap f=l.filterMap g
 | [],_=>rfl
 |x :: l,h=>by rw[List.filterMap_cons,List.filterMap_cons,h x (List.mem_cons_self ..),mW fun m hm=>h m (List.mem_cons_of_mem _ hm)]
theorem xr {α:Type}(xs:Array α):((List.range xs.size).filterMap fun (m:Nat)=>xs[(((xs.size:Int) - 1) + (m:Int) * (-1)).toNat]?)=xs.toList.reverse:=by
 have e:∀m,m∈List.range xs.size->xs[(((xs.size:Int) - 1) + (m:Int) * (-1)).toNat]? =xs.toList.reverse[m]?:=fun m hm=>by
  have hm:=List.mem_range.mp hm
  rw[List.getElem?_reverse (by simpa using hm)]
  have:(((xs.size:Int) - 1) + (m:Int) * (-1)).toNat=xs.toList.length - 1 - m:=by simp;omega
  rw[this]
  simp
 have e2:((List.range xs.size).filterMap fun (m:Nat)=>xs[(((xs.size:Int) - 1) + (m:Int) * (-1)).toNat]?)=(List.range xs.toList.reverse.length).filterMap fun m=>xs.toList.reverse[m]?:=by
  rw[List.length_reverse,Array.length_toList]
  exact mW e
 rw[e2]
 generalize xs.toList.reverse=l
 clear e e2
 apply List.ext_getElem?
 intro i
 have key:∀n,n<=l.length->(List.range n).filterMap (fun m=>l[m]?)=l.take n:=by
  intro n
  induction n with
  |zero=>intro _;simp
  |succ n ih=>
   intro hn
   rw[List.range_succ,List.filterMap_append,ih (by omega),List.take_succ,List.getElem?_eq_getElem (by omega)]
   simp[List.getElem?_eq_getElem (show n < l.length by omega)]
 rw[key l.length (Nat.le_refl _),List.take_length]
end HT
namespace L2
open PySem PySem.Spec PyProof.Rows
section
variable {X:Cx}{Γ:Fx}{E:XK}{e a:Expr}{te:TE}{fa:VF D}{La:List Nat}{ma:Md}{pos p2 p3 p4:Pos}{j:Nat}
theorem bL.reverse {K:PySem.W.Frag}{G:Hp}:∀{xs:List V} {ds:List D},bL K G xs ds->bL K G xs.reverse ds.reverse
 |_,_,.nil=>.nil
 |_,_,.cons h hs=>by rw[List.reverse_cons,List.reverse_cons];exact (bL.reverse hs).snoc h
end
end L2

end

section
namespace L2
open PySem PySem.Spec PyProof.Rows
theorem Aw (items:Array Value):slicePick items none none (some (-1))=items.toList.reverse.toArray:=by
 have e:slicePick items none none (some (-1))=(((List.range (if ((items.size:Int) - 1) > -1 then (((items.size:Int) - 1) - (-1) - (-1) - 1) / (-(-1)) else 0).toNat).map fun (k:Nat)=>(((items.size:Int) - 1) + (-1) * (k:Int)).toNat).filterMap (items[·]?)).toArray:=rfl
 rw[e]
 have ec:(if ((items.size:Int) - 1) > -1 then (((items.size:Int) - 1) - (-1) - (-1) - 1) / (-(-1)) else 0).toNat=items.size:=by
  rw[show (-(-1:Int))=1 by rfl,Int.ediv_one]
  split <;> omega
 rw[ec,List.filterMap_map]
 congr 1
 rw[<-HT.xr]
 refine HT.mW fun m _=>?_
 show items[(((items.size:Int) - 1) + (-1) * (m:Int)).toNat]? =items[(((items.size:Int) - 1) + (m:Int) * (-1)).toNat]?
 rw[Int.mul_comm]
section
variable {X:Cx}{Γ:Fx}{E:XK}{e a:Expr}{te:TE}{fa:VF D}{La:List Nat}{ma:Md}{pos p2 p3 p4:Pos}{j:Nat}
theorem ya (he:PE X e te):PE X (.Subscript e (.Slice none none (some (.UnaryOp .USub (.Constant (.int 1) j p3) p4)) p2) pos) (fun σ H Q=>te σ H fun x H1=>∃a xs,x=.ref a/\gu X.K H1 a xs/\∀l,H1 l=none->Q (.ref l) (upd H1 l (.lst xs.reverse))):=by
 intro pins s σ H Q I h
 refine Subscript_ (b7 (he pins s σ H _ I h) fun v s1 ⟨x,H1,I1,r1,q1⟩=>?_)
 obtain⟨a,xs,rfl,hx,q⟩:=q1
 cases r1
 refine wpAny_Slice ?_
 rw[evalPart_none]
 refine wpAny_pure (wpAny_pure ?_)
 refine b7 (vg (Cg uA n5) pins s1 σ H1 (fun o H2=>o=some (-1)/\H2=H1) I1 ⟨1,rfl, -1,rfl,rfl,rfl⟩) fun vs s2 ⟨o,H2,I2,ps,q2,q3⟩=>?_
 subst q2 q3
 have I3:Inv X pins σ H2 {s2 with heap:=s2.heap.push {cls:=.type "slice",data:=.fields #[.none,.none,vs]}}:=I2.kept (t':=s2.toks) fun b ob q=>Heap.get?_push_of_some _ q
 obtain⟨its,r,ht,hz⟩:=I3.list hx
 have hlen:=r.length
 show wpAny (model X.prog X.w) X.A (subscriptTail e (.Slice none none (some (.UnaryOp .USub (.Constant (.int 1) j p3) p4)) p2) (.ref a) (.ref s2.heap.objs.size)) (EP X pins σ Q) X.xe {s2 with heap:=s2.heap.push {cls:=.type "slice",data:=.fields #[.none,.none,vs]}}
 refine tail_any (ops:=[.ref a,.ref s2.heap.objs.size]) ht.isList.typeIs slot_list_getitem.lookup ?_ (by with_unfolding_all rfl)
 refine wpAny_getItem_list_slice ht.isList (Heap.IsSliceOf.new ..) .none .none ps (by simp) ?_ (by rw[List.size_toArray] <;> omega)
 rw[Aw]
 refine⟨.ref _,_,I3.laid (t':=s2.toks) (o:=.lst xs.reverse) (fun b ob q=>Heap.get?_push_of_some _ q) (Nat.le_refl _) ?_,rfl,q _ (I3.hok.fresh (Nat.le_refl _))⟩
 exact⟨by rw[List.length_reverse];exact hz,_,0,r.reverse,Heap.get?_push_size _ rfl⟩
def yV:D->Option D
 | .list ds=>some (.list ds.reverse)
 |_=>none
theorem yM (hK:X.K=Γ.K)(ha:SE X Γ E a fa La ma):SE X Γ E (.Subscript a (.Slice none none (some (.UnaryOp .USub (.Constant (.int 1) j p3) p4)) p2) pos) (f1 fa yV) La .w:=by
 refine PE.post' (ya ha) ?_
 rintro σ H Q ⟨env,G,B,β,I,o⟩
 refine⟨env,G,B,β,I,o.bnd.imp fun d1 β1 h x G1 H1 I1 s1 m1 vx=>?_⟩
 have bx:=vx.brw I.boxThere
 obtain⟨d,e,k⟩:=h.of
 cases d1 with
 |list ds=>
  cases e
  obtain⟨p,xs,rfl,hq,r⟩:=bx.list I1.sub
  rw[hK]
  refine⟨p,xs,rfl,.inl hq,fun l hl=>?_⟩
  have x:=Ext.own I1.sub (o:=.lst xs.reverse) hl
  exact k _ _ _ (I1.ext x) s1 (m1.trans (x.hh.mov B)) ⟨l,rfl,dQ m1 I1.boxThere hl,I1.sub.free hl,xs.reverse,aw,r.reverse⟩
 |_=>cases e
end
end L2

end

section

end

section
namespace L2
open PySem PyProof.Rows
section
variable {X:Cx}{K:PySem.W.Frag}{pins:List V}{σ:St}{H:Hp}{s:Shared}{E:XK}
def ER (ns:List Int)(k:Int):Bool:=(firstMet (fun i=>ns.getD i 0) ns.length).any (· == k)
def oC (ns:List Int):Nat:=(firstMet (fun i=>ns.getD i 0) ns.length).length
def Co (K:PySem.W.Frag):List V->Hp->VK->Prop:=fun xs H Q=>∃a ns,xs= [.ref a]/\(gu K H a (ns.map V.int)\/fG K H a (ns.map V.int))/\ns.length<=1000/\∀S,H S=none->Q (.ref S) (upd H S (.set (ER ns) (oC ns)))
theorem xu (hc:X.calm=true):cJ X (.type "set") (Co X.K):=by
 intro pins s σ H xs us Q I r h
 obtain⟨a,ns,rfl,hq,hz,q⟩:=h
 obtain⟨u,rfl,rx⟩:=vals1 r
 cases rx
 have hh:=I.ok.hd hc
 have core:∀{its:List Value} {T:String} {itO:Obj} {St:Addr->Nat->Heap->Prop},Vals (ns.map V.int) its->L2.ST.Src X.prog X.w s.heap a its T itO St->wpAny (model X.prog X.w) X.A (call (.type "set") [.ref a]) (EP X pins σ Q) X.xe s:=fun {its T itO St} rv src=>by
  have hl:its.length=ns.length:=by rw[<-rv.length,List.length_map]
  refine L2.ST.n9 src hh (intsAre_of rv) (by unfold scanBound;omega) fun h' tk F k=>?_
  rw[hl] at F
  exact⟨.ref _,_,I.laid (t':=tk) (o:=.set (ER ns) (oC ns)) k (Nat.le_refl _) F,rfl,q _ (I.hok.fresh (Nat.le_refl _))⟩
 rcases hq with hq |hq
 ·obtain⟨its,rv,pl,hz⟩:=I.list hq
  exact core rv (L2.ST.Src.list pl.isList)
 ·obtain⟨its,rv,pl,hz⟩:=I.tuple hq
  exact core rv (L2.ST.Src.tuple pl)
theorem xf:cJ X (.builtin "len") (fun xs H Q=>∃S f n,xs= [.ref S]/\H S=some (.set f n)/\Q (.int n) H):=by
 intro pins s σ H xs us Q I r h
 obtain⟨S,f,n,rfl,hS,q⟩:=h
 obtain⟨u,rfl,rx⟩:=vals1 r
 cases rx
 obtain⟨o,es,ep,t,ho,hex,hd,_,_,hb,hf,e⟩:s.heap.SetOf (intKind X.prog X.w) S f n:=I.hok _ _ hS
 refine call_len_set ho hex hd hf (by unfold scanBound at hb;omega) ⟨.int n,H,I.tok _,⟨_,by rw[e]⟩,q⟩
def mB (d:D):Option D:=match l9 d with
 |some ds=>(match fX ds with
  |some ns=>if ns.length<=1000 then some (.int (oC ns)) else none
  |none=>none)
 |none=>none
theorem bL.intsB {G:Hp}:∀{ns:List Int} {xs:List V},bL K G xs (ns.map PyData.int)->xs=ns.map V.int
 | [],_,.nil=>rfl
 |n :: ns,_,.cons r t=>by cases r;rw[bL.intsB t];rfl
variable {Γ:Fx}{e a b c:Expr}{f fa fb fc:VF D}{L La Lb:List Nat}{md ma mb mc:Md}{pos:Pos}
theorem wY {p1 p2 pos2:Pos}(hc:X.calm=true)(hK:X.K=Γ.K)(hg:Gl X "len")(hm:X.mg "len"=none)(hg2:Gl X "set")(hm2:X.mg "set"=none)(ha:SE X Γ E a fa La ma)
  (he:starEach [a] X.env=(false,eval a X.env) :: starEach [] X.env:=by rfl)
  (he2:starEach [.Call (.Name "set" p2) [a] [] pos2] X.env=(false,eval (.Call (.Name "set" p2) [a] [] pos2) X.env) :: starEach [] X.env:=by rfl) :
  SE X Γ E (.Call (.Name "len" p1) [.Call (.Name "set" p2) [a] [] pos2] [] pos) (f1 fa mB) La .v:=by
 refine PE.post' (ik xf hg hm (by decide +kernel) (aJ (fU (xu hc) hg2 hm2 (by decide +kernel) (aJ ha bg he) (by decide) (by decide) he) bg he2) (by decide) (by decide) he2) fun σ H Q ⟨env,G,B,β,I,o⟩=>?_
 refine gQ (r:=fun x H1 Q=>Co X.K [x] H1 fun y H2=>∃S f n,[y]= [V.ref S]/\H2 S=some (.set f n)/\Q (.int n) H2) ?_ I o
 intro B G H x dx d Q s hB bx e k
 rw[hK]
 unfold mB at e
 cases q:l9 dx with
 |none=>rw[q] at e;cases e
 |some ds=>
  rw[q] at e
  dsimp only at e
  cases q2:fX ds with
  |none=>rw[q2] at e;cases e
  |some ns=>
   rw[q2] at e
   dsimp only at e
   split at e
   ·rename_i hz
    cases e
    obtain⟨p,xs,rfl,hq,r⟩:=bx.seq q s
    rw[kM q2] at r
    have r:=r.intsB
    subst r
    exact⟨p,ns,rfl,hq,hz,fun S hS=>⟨S,_,_,rfl,aw,k _ _ _ (Ext.own s hS) (.int _)⟩⟩
   ·cases e
def sortI (ns:List Int):List Int:=ns.mergeSort fun a b=>decide (a<=b)
theorem sortI_perm (ns:List Int):(sortI ns).Perm ns:=List.mergeSort_perm ..
theorem Al (ns:List Int):(sortI ns).Pairwise (· <= ·):=by
 have:=List.pairwise_mergeSort (le:=fun a b:Int=>decide (a<=b)) (fun a b c h1 h2=>by simp only[decide_eq_true_eq] at *;omega) (fun a b=>by simp only[Bool.or_eq_true,decide_eq_true_eq];omega) ns
 exact this.imp fun h=>by simpa using h
theorem nG {ns ms:List Int}(h:ms.Perm ns)(h2:ms.Pairwise (· <= ·)):ms=sortI ns:=
 List.Perm.eq_of_pairwise (le:=(· <= ·)) (fun a b _ _ h1 h2=>by omega) h2 (Al ns) (h.trans (sortI_perm ns).symm)
def y0 (K:PySem.W.Frag):List V->Hp->VK->Prop:=fun xs H Q=>∃a ns,xs= [.ref a]/\gu K H a (ns.map V.int)/\ns.length < 64/\∀l,H l=none->Q (.ref l) (upd H l (.lst ((sortI ns).map V.int)))
theorem vL:∀{us:List Value} {ns:List Int},IntsAre us ns->Vals (ns.map V.int) us
 |_,_,.nil=>.nil
 |_,_,.cons n t hr=>.cons ⟨t,rfl⟩ (vL hr)
theorem tV:cJ X (.builtin "sorted") (y0 X.K):=by
 intro pins s σ H xs us Q I r h
 obtain⟨a,ns,rfl,hq,hl,q⟩:=h
 obtain⟨u,rfl,rx⟩:=vals1 r
 cases rx
 obtain⟨its,rv,pl,hz⟩:=I.list hq
 have hil:its.length=ns.length:=by rw[<-rv.length,List.length_map]
 refine sorted_ints pl.isList (intsAre_of rv) (by omega) fun out ns' a1 a2 a3=>?_
 obtain rfl:=nG a2 a3
 obtain⟨c,he⟩:=sortedAll_at s.heap its out
 have hf:H (s.heap.objs.size + 1)=none:=I.hok.fresh (Nat.le_succ _)
 have hz':((sortI ns).map V.int).length<=sizeLine:=by
  have:=a2.length_eq
  rw[List.length_map,sizeLine_eq];omega
 have I2:Inv X pins σ (upd H (s.heap.objs.size + 1) (.lst ((sortI ns).map V.int))) {s with heap:=sortedAll s.heap its out,toks:=s.toks}:=I.laid (t':=s.toks) (fun _ _=>sortedAll_old) (Nat.le_succ _) (show bH X.prog X.w _ _ _ (.lst ((sortI ns).map V.int)) from⟨hz',out.toList,c,vL a1,he⟩)
 exact⟨.ref _,_,I2,rfl,q _ hf⟩
def lu (d:D):Option D:=match d with
 | .list ds=>(match fX ds with
  |some ns=>if ns.length < 64 then some (.list ((sortI ns).map PyData.int)) else none
  |none=>none)
 |_=>none
theorem Bl:xR K (fun x=>y0 K [x]) lu .w:=by
 intro B G H x dx d Q s hB bx e k
 cases dx with
 |list ds=>
  simp only[lu] at e
  cases q2:fX ds with
  |none=>rw[q2] at e;cases e
  |some ns=>
   rw[q2] at e
   dsimp only at e
   split at e
   ·rename_i hz
    cases e
    obtain⟨p,xs,rfl,hq,r⟩:=bx.list s
    rw[kM q2] at r
    have r:=r.intsB
    subst r
    refine⟨p,ns,rfl,.inl hq,hz,fun l hl=>?_⟩
    have hh:ak H (upd H l (.lst ((sortI ns).map V.int))):=ak.new hl
    refine k _ _ _ (Ext.tups s hh) ⟨l,rfl,hl,?_,_,aw,bL.ints _⟩
    unfold kA
    rw[s.free hl,aw]
    exact if_neg fun y=>y
   ·cases e
 |_=>cases e
end
end L2

end

section
namespace L2
open PySem
section
variable {X:Cx}{Γ:Fx}{E:XK}{e a b c:Expr}{f fa fb fc:VF D}{L La Lb:List Nat}{md ma mb mc:Md}{pos np:Pos}
def qz (i:Nat)(La:List Nat)(d:D)(fa:VF D):SF:=fun env β=>if pQ env[i]? =true then toS (fa (vl env) β) fun k β2=>D0 i (a7 La env) β2 fun ds=>match k with
 | .int j=>(sx ds.length j).map fun n=>ds.set n d
 |_=>none else .bad
def DU (i:Nat)(L La Lb:List Nat)(f fa fb:VF D):SF:=fun env β=>toS (f (vl env) β) fun d β1=>match d with
 | .tuple [d1,d2]=>aH (qz i La d1 fa) (qz i Lb d2 fb) (a7 L env) β1
 |_=>.bad
theorem Ap {N:Ends}{B:Option Addr}{G H:Hp}{σ:St}{env:En}{β:Int}{i:Nat}{v:V}{d:D}(hb:∀j,Γ.br j=false)(I:SR Γ B G H σ env β)(vo:Rp Γ.K G v d)(o:mC Γ E G N (qz i La d fa env β)) :
  Fu (Ak i) (pT Γ E fa La ma) Ck v σ H N.nx:=by
 unfold qz at o
 by_cases hO:pQ env[i]? =true
 case neg=>rw[if_neg hO] at o;exact o.elim
 rw[if_pos hO] at o
 obtain⟨ds0,q0⟩:=mq hO
 obtain⟨p,h1,_,_,_,xs,h5,_⟩:=I.slot i _ q0
 refine⟨_,h1,env,G,B,β,I,bK o fun k β2 o w G2 H2 I2 s2 m2 vi=>?_⟩
 obtain⟨ds,es,q,eg,o⟩:=pN o
 cases k with
 |int j=>
  dsimp only at eg
  obtain rfl:=(vi.brw I.boxThere).int
  obtain⟨p',g1,_,_,_,ys,g5,g6⟩:=I2.slot i _ q
  rw[h1] at g1;cases g1
  cases en:sx ds.length j with
  |none=>rw[en] at eg;cases eg
  |some n=>
   rw[en] at eg
   cases eg
   refine⟨p,ys,j,n,rfl,rfl,g5,by rw[g6.len];exact en,?_⟩
   exact o B G2 _ σ (I2.write hb q h1 fun H3 e3 s3=>⟨_,e3,g6.set (vo.mono s2) n⟩) s2
 |_=>cases eg
theorem AN {K:PySem.W.Frag}{G:Hp}{xs:List V}{d1 d2:D}(r:bL K G xs [d1,d2]):∃v1 v2,xs= [v1,v2]/\Rp K G v1 d1/\Rp K G v2 d2:=by
 cases r with
 |cons r1 r=>
  cases r with
  |cons r2 r=>cases r;exact⟨_,_,rfl,r1,r2⟩
theorem Dc (i:Nat){x:Str}{sp1 sp2 np2 pt:Pos}{kt:Nat}(hb:∀j,Γ.br j=false)(hK:X.K=Γ.K)(he:SE X Γ E e f L .v)(hi:SE X Γ E a fa La ma)(hj:SE X Γ E b fb Lb mb)(hc:X.calm=true:=by rfl)
  (hN:X.N[i]? =some x:=by rfl) (hv:tM X.env.scope x:=by first |exact Or.inl rfl |exact Or.inr (Or.inl rfl) |exact Or.inr (Or.inr rfl)) (hd:(x == ("__debug__":Str))=false:=by decide)
  (hcd:(x == ("__classdict__":Str))=false:=by decide)
  (hA:∀v,assign (.Subscript (.Name x np) a sp1) X.env v=(do
   let ov <-holding [v] (eval (.Name x np) X.env)
   let iv <-holding [v,ov] (eval a X.env)
   standAt sp1
   holding [v,ov,iv] (setItem ov iv v)
   release [v,ov,iv] []):=by intro _;rfl)
  (hB:∀v,assign (.Subscript (.Name x np2) b sp2) X.env v=(do
   let ov <-holding [v] (eval (.Name x np2) X.env)
   let iv <-holding [v,ov] (eval b X.env)
   standAt sp2
   holding [v,ov,iv] (setItem ov iv v)
   release [v,ov,iv] []):=by intro _;rfl)
  (hq1:(assignEach [.Subscript (.Name x np) a sp1,.Subscript (.Name x np2) b sp2] X.env).map (·.2)=assign (.Subscript (.Name x np) a sp1) X.env :: (assignEach [.Subscript (.Name x np2) b sp2] X.env).map (·.2):=by rfl)
  (hq2:(assignEach [.Subscript (.Name x np2) b sp2] X.env).map (·.2)=assign (.Subscript (.Name x np2) b sp2) X.env :: (assignEach [] X.env).map (·.2):=by rfl)
  (hn:(assignEach [.Subscript (.Name x np) a sp1,.Subscript (.Name x np2) b sp2] X.env).length=2:=by rfl) (hst:(assignEach [.Subscript (.Name x np) a sp1,.Subscript (.Name x np2) b sp2] X.env).findIdx? (·.1)=none:=by rfl)
  (hs:swapsWithSole [.Tuple [.Subscript (.Name x np) a sp1,.Subscript (.Name x np2) b sp2] kt pt] e pos.line X.env=pure false:=by rfl) (hw:swappedStores [.Tuple [.Subscript (.Name x np) a sp1,.Subscript (.Name x np2) b sp2] kt pt] e X.env=pure none:=by rfl)
  (h1:(assignEach [.Tuple [.Subscript (.Name x np) a sp1,.Subscript (.Name x np2) b sp2] kt pt] X.env).map (·.2)= [assign (.Tuple [.Subscript (.Name x np) a sp1,.Subscript (.Name x np2) b sp2] kt pt) X.env]:=by rfl) :
  SS X Γ E (.Assign [.Tuple [.Subscript (.Name x np) a sp1,.Subscript (.Name x np2) b sp2] kt pt] e pos) (DU i L La Lb f fa fb):=by
 refine PS.post (lh he (ly hc (cy (nc (hJ hN hv hd hcd) hi set_list hA) (cy (nc (hJ hN hv hd hcd) hj set_list hB) jL hq2) hq1) hn hst) hs hw h1) fun N σ H ⟨env,G,B,β,I,o⟩=>?_
 refine⟨env,G,B,β,I,bK o fun d β1 o v G1 H1 I1 s1 m1 vo=>?_⟩
 have vo:Rp Γ.K G1 v d:=vo
 split at o
 ·rename_i d1 d2 _
  cases vo with
  | @tup p xs _ hq r=>
     obtain⟨v1,v2,rfl,r1,r2⟩:=AN r
     have hq':fG X.K H1 p [v1,v2]:=by rw[hK];exact hq.grow I1.sub.grow
     refine⟨p,[v1,v2],rfl,hq',rfl,v1,[v2],rfl,?_⟩
     refine Ap (N:=⟨_,N.rt,N.bk,N.ct⟩) hb I1 r1 ?_
     have o:=o.weak s1
     unfold aH at o
     cases q:qz i La d1 fa (a7 L env) β1 with
     |nx env' β'=>
      rw[q] at o
      intro B' G' H' σ' I' s'
      refine⟨v2,[],rfl,?_⟩
      refine Ap (N:=⟨fun σ H=>[]= []/\N.nx σ H,N.rt,N.bk,N.ct⟩) hb I' (r2.mono s') ?_
      have o:mC Γ E G' N (qz i Lb d2 fb env' β'):=mC.weak o s'
      cases q2:qz i Lb d2 fb env' β' with
      |nx env2 β2=>rw[q2] at o;exact fun B' G' H' σ I s=>⟨rfl,o B' G' H' σ I s⟩
      |bk env2 β2=>rw[q2] at o;exact o
      |ct env2 β2=>rw[q2] at o;exact o
      |rt d fr β2=>rw[q2] at o;exact o
      |exc c=>rw[q2] at o;exact o
      |bad=>rw[q2] at o;exact o
     |bk env' β'=>rw[q] at o;exact o
     |ct env' β'=>rw[q] at o;exact o
     |rt d fr β'=>rw[q] at o;exact o
     |exc c=>rw[q] at o;exact o
     |bad=>rw[q] at o;exact o
 ·exact o.elim
end
end L2

end

section

end

section
namespace L2
open PySem
section
variable {K:PySem.W.Frag}{h:Heap}{mg:Str->Option Value}
theorem Ax {α:Type}{P:List α->Prop}(q:∀a,P [a]):∀us:List α,us.length=1->P us
 | [a],_=>q a
theorem ln2 {α:Type}{P:List α->Prop}(q:∀a b,P [a,b]):∀us:List α,us.length=2->P us
 | [a,b],_=>q a b
theorem HF {α:Type}{P:List α->Prop}(q:∀a b c,P [a,b,c]):∀us:List α,us.length=3->P us
 | [a,b,c],_=>q a b c
def bq (x:Str)(st:Stmt)(ps:List Str):Prop:=∀(kV doc pm:Value) (an:Option Addr) (cdv ct:Value) (us:List Value),us.length=ps.length->bindArgs (PySem.W.fnOf x x (gK st) (cL st) (ax st) .none kV doc pm an cdv ct) ⟨us,[]⟩=pure (ps.zip us)
structure Fo (K:PySem.W.Frag)(mg:Str->Option Value)(x:Str)(st:Stmt)(ps:List Str):Prop where
 ex:∃f fd,kn K mg x st ps f fd
theorem cx {x:Str}{st:Stmt}{ps:List Str}{f:Addr}{oc:Value}{od an:Option Addr}{sl:Array (Option Value)}{kV doc pm cdv ct:Value}(X:K.In h)(G:h.Ns mainGlobals mg)(b:bq x st ps)(a:PySem.W.nsIn K mainGlobals x=some (some (.ref f)))
  (l:K.lookup f=some ⟨oc,od,.func (PySem.W.fnOf x x (gK st) (cL st) (ax st) .none kV doc pm an cdv ct),sl⟩) (c:PySem.W.codeIn K cdv x=true) (k:PySem.W.keepIn K (.ref f)=true):Fo K mg x st ps:=
 ⟨⟨f,_,PySem.W.mg_of X G a,uB l c k,(uB l c k).binds b⟩⟩
def GF:List Str:=["len","range","enumerate","zip","min","max","sum","abs","sorted","reversed","int","str","bool","list","tuple","dict","set","isinstance","repr","any","all","divmod"]
def GQ (K:PySem.W.Frag):Bool:=GF.all fun x=>match PySem.W.nsIn K mainGlobals x with
 |some none=>true
 |_=>false
theorem De (q:GQ K=true){x:Str}(hx:x∈GF):PySem.W.nsIn K mainGlobals x=some none:=by
 have:=List.all_eq_true.mp q x hx
 split at this
 ·assumption
 ·cases this
theorem E7 (X:K.In h)(G:h.Ns mainGlobals mg)(q:GQ K=true):kO mg:=by
 have key:∀{x:Str},x∈GF->mg x=none:=fun hx=>PySem.W.mg_none_of X G (De q hx)
 constructor <;> exact key (by decide)
end
end L2

end

section

end

section

end

section

end

section

end

section

end

section

end

section
namespace HD
open PySem PySem.W
noncomputable abbrev yT:=@PySem.W.Fast.tw10156331382660048174
noncomputable abbrev Dl:=@PySem.W.Fast.tw11892475500146522536
noncomputable abbrev G8:=@PySem.W.Fast.tw6613529449190102663
noncomputable abbrev Dk:=@PySem.W.Fast.tw14364793385576792824
noncomputable abbrev Cn:=@PySem.W.Fast.tw17154629097778926822
noncomputable abbrev zU:=@PySem.W.Fast.tw12822647523644345616
noncomputable def zt (p:Program):Thread:=
 ⟨do
  let code <-Cn p.main
  let frame <-zU code mainNs mainNs
  let _ <-run (.body (behindTheImports p) {scope:=p.main.scope,locals:=mainNs,globals:=mainNs,cells:=[],code,frame:=some frame})
  ret .none,
  .builtin "claim.caller" {},default,[]⟩
theorem zX (p:Program):topStub p=zt p:=by
 unfold topStub zt Cn zU
 rw[<-PySem.W.Fast.te17154629097778926822,<-PySem.W.Fast.te12822647523644345616]
noncomputable def me (p:Program)(w:World)(n₀:Nat)(ann:Option Value):Nat->SharedT->Thread->Option SharedT
 | 0,_,_=>none
 |n + 1,s,t=>match through t with
  |true=>some s
  |false=>match G8 n₀ ann t with
   |false=>none
   |true=>match yT (Dl Dk) p w s t with
    |some (s',t')=>me p w n₀ ann n s' t'
    |none=>none
theorem oV {p:Program}{w:World}{n₀:Nat}{ann:Option Value}:∀{n:Nat} {s s':SharedT} {t:Thread},me p w n₀ ann n s t=some s'->topRun treeTable p w n₀ ann n s.abs t=some s'.abs
 | 0,_,_,_,h=>by cases h
 |n + 1,s,s',t,h=>by
  unfold me at h
  unfold topRun
  cases ht:through t with
  |true=>rw[ht] at h;cases h;rfl
  |false=>
   rw[ht] at h
   have hq:G8 n₀ ann t=stepOk n₀ ann t:=by unfold G8;rw[<-PySem.W.Fast.te6613529449190102663]
   dsimp only at h
   rw[hq] at h
   cases hk:stepOk n₀ ann t with
   |false=>rw[hk] at h;cases h
   |true=>
    rw[hk] at h
    have hq:yT (Dl Dk) p w s t=stepT (denote treeTable) p w s t:=by unfold yT Dl Dk;rw[<-PySem.W.Fast.te10156331382660048174,<-PySem.W.Fast.te11892475500146522536,<-PySem.W.Fast.te14364793385576792824]
    dsimp only at h
    rw[hq] at h
    cases hs:stepT (denote treeTable) p w s t with
    |none=>rw[hs] at h;cases h
    |some r=>obtain⟨s₂,t₂⟩:=r;rw[hs] at h;rw[stepT_spec hs];exact oV h
def treeOf (l:List Obj):BT:=(l.foldl (fun (x:BT×Nat) o=>(x.1.ins x.2 o,x.2 + 1)) (.nil,0)).1
noncomputable def yc (P:Params):BT:=treeOf (boot_heap P).objs.toList
abbrev rF:Nat:=11
abbrev x6:Life:={}
theorem boot_abs (P:Params):absHeap (yc P) rF x6=boot_heap P:=by kernel_rfl
theorem wo (w:World):((boot_heap w.params).isNs mainGlobals && (Array.mk ([]:List GenState)).size == 0,(boot_heap w.params).objs.size,(boot_heap w.params).nsMap mainGlobals "__annotations__")=(true,rF,some (.ref 6)):=by kernel_rfl
noncomputable def zO (w:World)(os:OsState):SharedT:=⟨yc w.params,rF,x6,Array.mk [],boot_drawn,boot_toks,os⟩
noncomputable def Cu (p:Program)(w:World)(s:Shared):Bool:=staticsOk (importedModules p.main.body) (boot_heap w.params) s.heap && namesBound p s.heap && gensDone s && laidKept (boot_heap w.params) s.heap
theorem AK {p q:Program}{loose:List Str}{Xt:Shared->Bool}{α:Type}{Yf:Shared->α}{Ya:World->α}{N:Nat}{g0:Bool}
  (e:opening p=plainProg p.main.scope.names) (hN:Nat.ble 600 N=true) (f:∀s,fenceModules? p s=some s)
  (run:∀(w:World) (os:OsState),(me p w rF (some (.ref 6)) N (zO w os) (zt p)).map (fun s=>(Cu p w s.abs,openSeen q loose (importedModules p.main.body) Xt g0 s.abs,Yf s.abs))=some (true,openGood q loose,Ya w)):LeftO p q loose Xt Yf Ya N g0:=fun w=>by
 obtain⟨⟨h,gs,d,k,os⟩,e,e'⟩:=Option.map_eq_some_iff.mp (boot_open e hN f w)
 obtain⟨rfl,rfl,rfl,rfl⟩:h=boot_heap w.params/\gs=Array.mk []/\d=boot_drawn/\k=boot_toks:=by simpa using e'
 obtain⟨z1,z2,z3⟩:_/\_/\_:=by simpa only [Prod.mk.injEq] using wo w
 obtain⟨s',r,ls⟩:=Option.map_eq_some_iff.mp (run w os)
 obtain⟨l1,l2,l3⟩:_/\_/\_:=by simpa only [Prod.mk.injEq] using ls
 have r:=oV r
 have ha:(zO w os).abs=⟨boot_heap w.params,Array.mk [],boot_drawn,boot_toks,os⟩:=by
  show Shared.mk (absHeap (yc w.params) rF x6) _ _ _ _=_
  rw[boot_abs]
  rfl
 rw[ha,<-zX] at r
 have t:topFrom treeTable p w N ⟨boot_heap w.params,Array.mk [],boot_drawn,boot_toks,os⟩=some s'.abs:=by
  unfold topFrom
  dsimp only
  rw[z1,z2,z3,r]
  show (match Cu p w s'.abs with |true=>_ |false=>_)=_
  rw[l1]
 unfold openEnds
 rw[e]
 show (topFrom treeTable p w N _).map _=_
 rw[t]
 exact congrArg some (Prod.ext l2 l3)
end HD

end

section
namespace L2
open PySem
section
variable {α γ:Type}
@[simp] theorem j6 (a:α)(β:Int)(k:α->Int->R γ):(R.ok a β).bnd k=k a β:=rfl
@[simp] theorem FH (c:Str)(k:α->Int->R γ):(R.exc c:R α).bnd k=.exc c:=rfl
@[simp] theorem FP (k:α->Int->R γ):(R.bad:R α).bnd k=.bad:=rfl
@[simp] theorem Gj (a:α)(β:Int)(k:α->Int->R γ):(R.ok a β).okb k=k a β:=rfl
@[simp] theorem qp (a:α)(β:Int):R.of (some a) β=.ok a β:=rfl
@[simp] theorem of_none (β:Int):(R.of none β:R α)=.bad:=rfl
@[simp] theorem He (a:α)(β:Int)(k:α->Int->SO):toS (.ok a β) k=k a β:=rfl
@[simp] theorem F0 (c:Str)(k:α->Int->SO):toS (.exc c:R α) k=.exc c:=rfl
@[simp] theorem FJ (k:α->Int->SO):toS (.bad:R α) k=.bad:=rfl
end
section
variable (f fa fb fc:VF D)(t u:VF Bool)(m m':SF)(vs:List Nv)(β:Int)(env:En)(i j:Nat)(L:List Nat)
@[simp] theorem Ci:gv i vs β=R.of (dat vs[i]?) β:=rfl
@[simp] theorem tD (d:D):dat (some (.da d))=some d:=rfl
@[simp] theorem G7 (d:D):cst d vs β=.ok d β:=rfl
@[simp] theorem Hj (g:D->Option D):f1 fa g vs β=(fa vs β).bnd fun x β1=>R.of (g x) β1:=rfl
@[simp] theorem Hs (g:D->D->Option D):f2 fa fb g vs β=(fa vs β).bnd fun x β1=>(fb vs β1).bnd fun y β2=>R.of (g x y) β2:=rfl
@[simp] theorem vB:ah vs β=.ok [] β:=rfl
@[simp] theorem cu (fr:VF (List D)):ae fa fr vs β=(fa vs β).bnd fun x β1=>(fr vs β1).bnd fun xs β2=>.ok (x :: xs) β2:=rfl
@[simp] theorem p0:jT fa vs β=(fa vs β).bnd fun x β1=>R.of (DC x) β1:=rfl
@[simp] theorem pY:lK t vs β=(t vs β).bnd fun c β1=>.ok (!c) β1:=rfl
@[simp] theorem C9:yL t u vs β=(t vs β).bnd fun c β1=>if c=true then u vs β1 else .ok false β1:=rfl
@[simp] theorem p5:iy t u vs β=(t vs β).bnd fun c β1=>if c=true then .ok true β1 else u vs β1:=rfl
@[simp] theorem Ho (n:Bool):tN fa n vs β=(fa vs β).bnd fun x β1=>.ok (if n then !AH x else AH x) β1:=rfl
@[simp] theorem GG:Hx t fa fb vs β=(t vs β).bnd fun c β1=>if c=true then fa vs β1 else fb vs β1:=rfl
@[simp] theorem g9 (c:Bool){β1:Int}(h:fa vs β=.ok (.bool c) β1):c5 fa vs β=.ok c β1:=by unfold c5;rw[h];rfl
@[simp] theorem tI:vl []= []:=rfl
@[simp] theorem qg (s:Sl):vl (s :: env)=s.val :: vl env:=rfl
@[simp] theorem tw (d:D):(Sl.fz d).val=.da d:=rfl
@[simp] theorem Ha (d:D):(Sl.ow d).val=.da d:=rfl
@[simp] theorem Gh:Sl.no.val=.no:=rfl
@[simp] theorem GL:Sl.bx.val=.bx:=rfl
@[simp] theorem FO:a7 [] env=env:=rfl
@[simp] theorem Eu:a7 (i :: L) env=a7 L (iq env i):=rfl
@[simp] theorem FY:aH m m' env β=(match m env β with
 | .nx env' β'=>m' env' β'
 |r=>r):=rfl
@[simp] theorem GU:ko L t m m' env β=toS (t (vl env) β) fun c β'=>if c=true then m (a7 L env) β' else m' (a7 L env) β':=rfl
@[simp] theorem gV:bR f env β=toS (f (vl env) β) fun d β'=>.rt d false β':=rfl
@[simp] theorem sk:oN f env β=toS (f (vl env) β) fun d β'=>.rt d true β':=rfl
@[simp] theorem GW:lR env β=.nx env β:=rfl
@[simp] theorem bV:aZ i L f env β=toS (f (vl env) β) fun d β'=>.nx ((a7 L env).set i (.fz d)) β':=rfl
@[simp] theorem m9:k8 i L f env β=toS (f (vl env) β) fun d β'=>.nx ((a7 L env).set i (.ow d)) β':=rfl
@[simp] theorem yn:zY L f env β=toS (f (vl env) β) fun _ β'=>.nx (a7 L env) β':=rfl
end
theorem aq {m m':SF}{env env':En}{β β':Int}(h:m env β=.nx env' β'):aH m m' env β=m' env' β':=by unfold aH;rw[h]
theorem cg {m m':SF}{env:En}{β β':Int}{d:D}{b:Bool}(h:m env β=.rt d b β'):aH m m' env β=.rt d b β':=by unfold aH;rw[h]
theorem eV {L:List Nat}{t:VF Bool}{m m':SF}{env:En}{β β':Int}(h:t (vl env) β=.ok true β'):ko L t m m' env β=m (a7 L env) β':=by unfold ko;rw[h];rfl
theorem fF {L:List Nat}{t:VF Bool}{m m':SF}{env:En}{β β':Int}(h:t (vl env) β=.ok false β'):ko L t m m' env β=m' (a7 L env) β':=by unfold ko;rw[h];rfl
theorem aP {F:List D->FR}{fr:VF (List D)}{vs:List Nv}{β β1:Int}{ds:List D}{d:D}{b:Bool}(h:fr vs β=.ok ds β1)(e:F ds=.ok d b):aE F fr vs β=.ok d β1:=by unfold aE;rw[h];dsimp only[R.bnd];rw[e]
theorem yy {F:List D->FR}{fr:VF (List D)}{vs:List Nv}{β β1:Int}{ds:List D}{d:D}(h:fr vs β=.ok ds β1)(e:F ds=.ok d true):o9 F fr vs β=.ok d β1:=by unfold o9;rw[h];dsimp only[R.bnd];rw[e]
theorem cc {fa:VF D}{g:D->Option D}{vs:List Nv}{β β1:Int}{x d:D}(h:fa vs β=.ok x β1)(e:g x=some d):f1 fa g vs β=.ok d β1:=by unfold f1;rw[h];dsimp only[R.bnd];rw[e];rfl
theorem aA {fa fb:VF D}{g:D->D->Option D}{vs:List Nv}{β β1 β2:Int}{x y d:D}(h:fa vs β=.ok x β1)(h':fb vs β1=.ok y β2)(e:g x y=some d):f2 fa fb g vs β=.ok d β2:=by unfold f2;rw[h];dsimp only[R.bnd];rw[h'];dsimp only[R.bnd];rw[e];rfl
theorem dF {i:Nat}{F:List D->Int->FB}{fr:VF (List D)}{vs:List Nv}{β β1 β2:Int}{ds:List D}{d:D}{b:Bool}(hi:uF vs i=true)(h:fr vs β=.ok ds β1)(e:F ds β1=.ok d b β2):hZ i F fr vs β=.ok d β2:=by unfold hZ;rw[if_pos hi,h];dsimp only[R.bnd];rw[e]
theorem sz (n:Nat)(h:n<=1000):n<=sizeLine:=by rw[sizeLine_eq];omega
theorem Fw (n:Nat)(h:n<=1000):n < sizeLine:=by rw[sizeLine_eq];omega
theorem kJ {fr:VF (List D)}{vs:List Nv}{β β1:Int}{ds:List D}(h:fr vs β=.ok ds β1)(hz:ds.length<=1000):aX fr vs β=.ok (.tuple ds) β1:=by unfold aX;rw[h];exact if_pos (sz _ hz)
theorem eM {fr:VF (List D)}{vs:List Nv}{β β1:Int}{ds:List D}(h:fr vs β=.ok ds β1)(hz:ds.length<=1000):ba fr vs β=.ok (.list ds) β1:=by unfold ba;rw[h];exact if_pos (sz _ hz)
theorem tY {i:Nat}{env:En}{β:Int}{g:List D->Option (List D)}{ds es:List D}(h:env[i]? =some (.ow (.list ds)))(e:g ds=some es):D0 i env β g=.nx (env.set i (.ow (.list es))) β:=by unfold D0;rw[h];dsimp only;rw[e]
theorem p8 {i:Nat}{L:List Nat}{f:VF D}{env:En}{β β':Int}{ds:List D}{d:D}(hi:env[i]? =some (.ow (.list ds)))(hf:f (vl env) β=.ok d β')(hL:(a7 L env)[i]? =some (.ow (.list ds)))(hz:ds.length<=1000):l7 i L f env β=.nx ((a7 L env).set i (.ow (.list (ds ++ [d])))) β':=by
 unfold l7
 rw[if_pos (by rw[hi];rfl),hf]
 exact tY hL (if_pos (Fw _ hz))
theorem tP {i j:Nat}{L:List Nat}{f:VF D}{env:En}{β β':Int}{ds es es':List D}{k d:D}(hi:env[i]? =some (.ow (.list ds)))(hj:env[j]? =some (.ow (.list es)))(hij:i≠j)(hf:f (vl env) β=.ok k β')(hL:a7 L env=env)(hp:xp es k=some (d,es'))(hz:ds.length<=1000):iO i j L f env β=.nx ((env.set j (.ow (.list es'))).set i (.ow (.list (ds ++ [d])))) β':=by
 unfold iO
 rw[if_pos ⟨by rw[hi];rfl,by rw[hj];rfl,hij⟩,hf,hL]
 dsimp only[toS]
 rw[hj]
 dsimp only
 rw[hp]
 exact tY (by rw[List.getElem?_set_ne (Ne.symm hij)];exact hi) (if_pos (Fw _ hz))
theorem mO {t:Tg}{ft:VF Bool}{fe:VF D}{vs:List Nv}(g:D->Bool)(h:D->D):∀{ds:List D} {β:Int},(∀d,d∈ds->∃vs1,kG t d vs=some vs1/\ft vs1 β=.ok (g d) β/\(g d=true->fe vs1 β=.ok (h d) β))->fm t ft fe vs ds β=.ok ((ds.filter g).map h) β
 | [],β,_=>rfl
 |d :: ds,β,hh=>by
  obtain⟨vs1,e1,e2,e3⟩:=hh d (List.mem_cons_self ..)
  have ih:=mO (t:=t) (ft:=ft) (fe:=fe) (vs:=vs) g h (ds:=ds) (β:=β) fun d' hd=>hh d' (List.mem_cons_of_mem _ hd)
  unfold fm
  rw[e1]
  dsimp only
  rw[e2]
  dsimp only[R.okb]
  cases q:g d with
  |true=>
   rw[if_pos rfl,e3 q]
   dsimp only
   rw[ih,List.filter_cons_of_pos q];rfl
  |false=>
   rw[if_neg Bool.false_ne_true,ih,List.filter_cons_of_neg (by rw[q];exact Bool.false_ne_true)]
theorem tq {own:Nat}{ixs:List Nat}{t:Tg}{fi:VF (List D)}{ft:VF Bool}{fe:VF D}{vs:List Nv}{β β1:Int}{ds:List D}(g:D->Bool)(h:D->D)(hi:fi vs β=.ok ds β1)(hz:ds.length<=1000)
  (hh:∀d,d∈ds->∃vs1,kG t d (eS own ixs vs)=some vs1/\ft vs1 β1=.ok (g d) β1/\(g d=true->fe vs1 β1=.ok (h d) β1)):aG own ixs t fi ft fe vs β=.ok (.list ((ds.filter g).map h)) β1:=by
 unfold aG
 rw[hi]
 dsimp only[R.bnd]
 rw[if_pos (sz _ hz),mO g h hh];rfl
theorem lB {own:Nat}{ixs:List Nat}{t:Tg}{fi:VF (List D)}{fe:VF D}{vs:List Nv}{β β1:Int}{ds:List D}(h:D->D)(hi:fi vs β=.ok ds β1)(hz:ds.length<=1000)
  (hh:∀d,d∈ds->∃vs1,kG t d (eS own ixs vs)=some vs1/\fe vs1 β1=.ok (h d) β1):aG own ixs t fi gy fe vs β=.ok (.list (ds.map h)) β1:=by
 rw[tq (ft:=gy) (fun _=>true) h hi hz fun d hd=>let ⟨vs1,e1,e2⟩:=hh d hd;⟨vs1,e1,rfl,fun _=>e2⟩]
 rw[List.filter_eq_self.mpr (fun _ _=>rfl)]
theorem cq {α:Type}{own:Nat}{ixs:List Nat}{t:Tg}{fi:VF (List D)}{fe:VF D}{vs:List Nv}{β β1:Int}{l:List α}{e:α->D}(h:α->D)(hi:fi vs β=.ok (l.map e) β1)(hz:l.length<=1000)
  (hh:∀x,x∈l->∃vs1,kG t (e x) (eS own ixs vs)=some vs1/\fe vs1 β1=.ok (h x) β1):aG own ixs t fi gy fe vs β=.ok (.list (l.map h)) β1:=by
 unfold aG
 rw[hi]
 dsimp only[R.bnd]
 rw[if_pos (sz _ (by rw[List.length_map];exact hz))]
 have key:∀m:List α,(∀x,x∈m->x∈l)->fm t gy fe (eS own ixs vs) (m.map e) β1=.ok (m.map h) β1:=by
  intro m
  induction m with
  |nil=>intro _;rfl
  |cons x m ih=>
   intro hm
   obtain⟨vs1,e1,e2⟩:=hh x (hm x (List.mem_cons_self ..))
   rw[List.map_cons]
   unfold fm
   rw[e1]
   dsimp only
   show (R.ok true β1).okb _=_
   dsimp only[R.okb]
   rw[if_pos rfl,e2]
   dsimp only
   rw[ih fun y hy=>hm y (List.mem_cons_of_mem _ hy)];rfl
 rw[key l fun _ h=>h];rfl
theorem iH {α:Type}{own:Nat}{ixs:List Nat}{t:Tg}{fi:VF (List D)}{ft:VF Bool}{fe:VF D}{vs:List Nv}{β β1:Int}{l:List α}{e:α->D}(g:α->Bool)(h:α->D)(hi:fi vs β=.ok (l.map e) β1)(hz:l.length<=1000)
  (hh:∀x,x∈l->∃vs1,kG t (e x) (eS own ixs vs)=some vs1/\ft vs1 β1=.ok (g x) β1/\(g x=true->fe vs1 β1=.ok (h x) β1)):aG own ixs t fi ft fe vs β=.ok (.list ((l.filter g).map h)) β1:=by
 unfold aG
 rw[hi]
 dsimp only[R.bnd]
 rw[if_pos (sz _ (by rw[List.length_map];exact hz))]
 have key:∀m:List α,(∀x,x∈m->x∈l)->fm t ft fe (eS own ixs vs) (m.map e) β1=.ok ((m.filter g).map h) β1:=by
  intro m
  induction m with
  |nil=>intro _;rfl
  |cons x m ih=>
   intro hm
   obtain⟨vs1,e1,e2,e3⟩:=hh x (hm x (List.mem_cons_self ..))
   have ih:=ih fun y hy=>hm y (List.mem_cons_of_mem _ hy)
   rw[List.map_cons]
   unfold fm
   rw[e1]
   dsimp only
   rw[e2]
   dsimp only[R.okb]
   cases q:g x with
   |true=>
    rw[if_pos rfl,e3 q]
    dsimp only
    rw[ih,List.filter_cons_of_pos q];rfl
   |false=>
    rw[if_neg Bool.false_ne_true,ih,List.filter_cons_of_neg (by rw[q];exact Bool.false_ne_true)]
 rw[key l fun _ h=>h];rfl
theorem cv {t:Tg}{m:SF}(Pv:Nat->En->Int->Prop):∀{ds:List D} {k:Nat} {env:En} {β:Int},Pv k env β->
  (∀i d env β,ds[i]? =some d->Pv (k + i) env β->∃env1,fq t d env=some env1/\∃env2 β2,m env1 β=.nx env2 β2/\Pv (k + i + 1) env2 β2)->∃env' β',lV t m ds env β=.nx env' β'/\Pv (k + ds.length) env' β'
 | [],k,env,β,h0,_=>⟨env,β,rfl,h0⟩
 |d :: ds,k,env,β,h0,hs=>by
  obtain⟨env1,e1,env2,β2,e2,h1⟩:=hs 0 d env β rfl h0
  obtain⟨env',β',e3,h2⟩:=cv Pv (t:=t) (m:=m) (ds:=ds) (k:=k + 1) h1 fun i d' en be hi hp=>by
   have:=hs (i + 1) d' en be (by simpa using hi) (by rw[show k + (i + 1)=k + 1 + i by omega];exact hp)
   rw[show k + (i + 1) + 1=k + 1 + i + 1 by omega] at this
   exact this
  refine⟨env',β',?_,by rw[List.length_cons,show k + (ds.length + 1)=k + 1 + ds.length by omega];exact h2⟩
  unfold lV
  rw[e1]
  dsimp only
  rw[e2]
  exact e3
theorem ke {L:List Nat}{t:VF Bool}{m:SF}(Pv:Nat->En->Int->Prop)(Dn:En->Int->Prop):∀{n k:Nat} {env:En} {β:Int},k < n->Pv k env β->
  (∀k env β,Pv k env β->∃c β1,t (vl env) β=.ok c β1/\((c=false/\Dn (a7 L env) β1)\/(c=true/\∃env2 β2 k',m (a7 L env) β1=.nx env2 β2/\k' < k/\Pv k' env2 β2)))->∃env' β',iE L t m n env β=.nx env' β'/\Dn env' β'
 | 0,k,env,β,hk,_,_=>by omega
 |n + 1,k,env,β,hk,h0,hs=>by
  obtain⟨c,β1,e1,hc⟩:=hs k env β h0
  unfold iE
  rw[e1]
  dsimp only[toS]
  rcases hc with⟨rfl,hd⟩ | ⟨rfl,env2,β2,k',e2,hl,h1⟩
  ·exact⟨_,_,rfl,hd⟩
  ·rw[if_pos rfl,e2]
   exact ke Pv Dn (n:=n) (k:=k') (by omega) h1 hs
end L2

end

section
namespace RM
open PySem L2
def nC:SF:=(bR (fg (f1 (gv 0) (dJ "int")) (f1 (f1 (gv 0) (dJ "bool")) vX)))
def ny (bI:List D->FR):SF:=(bR (fg (aE bI (ae (gv 0) ah)) (i0 (cst (.int 0)) (gv 0) (gv 1) Ab qt)))
def oS (bI:List D->FR):SF:=(bR (fg (aE bI (ae (gv 0) ah)) (i0 (cst (.int 1)) (gv 0) (cst (.int 8)) Ab Ab)))
def iw (bA:List D->FR):SF:=(aH (ko ([] ++ ([] ++ [])) (iy (lK (jT (f1 (gv 0) (dJ "tuple")))) (c5 (f2 (f1 (gv 0) c8) (cst (.int 2)) (dv true))))
 (bR (cst (.bool false)))
 lR)
 (bR (fg (aE bA (ae (f2 (gv 0) (cst (.int 0)) bz) (ae (gv 1) ah))) (aE bA (ae (f2 (gv 0) (cst (.int 1)) bz) (ae (gv 1) ah))))))
def fP:SF:=(oN (aG 1 [0] (.nm 0) (bF (f2 (gv 0) (gv 0) dw)) gy (aX (ae (f2 (gv 0) (gv 1) xN) (ae (f2 (gv 0) (gv 1) j5) ah)))))
def nt:SF:=(bR (f1 (aG 2 [] (.two 0 1) (bh (gv 0)) gy (f2 (gv 0) (gv 1) (dv false))) (di fun bs=>bs.any id)))
def gp (fT bQ ig dP:List D->FR):SF:=(aH (ko ([] ++ ([] ++ [])) (iy (lK (jT (f1 (gv 0) (dJ "tuple")))) (c5 (f2 (f1 (gv 0) c8) (cst (.int 2)) (dv true))))
 (bR (cst (.bool false)))
 lR)
 (aH (aZ 1 ([] ++ []) (f2 (gv 0) (cst (.int 0)) bz))
 (aH (aZ 2 ([] ++ []) (f2 (gv 0) (cst (.int 1)) bz))
 (aH (ko (([1] ++ []) ++ []) (iy (lK (jT (aE fT (ae (gv 1) ah)))) (lK (jT (f1 (gv 2) (dJ "tuple")))))
 (bR (cst (.bool false)))
 lR)
 (aH (ko ([] ++ [1]) (lK (jT (f1 (aG 1 [1] (.nm 0) (bh (gv 2)) gy (aE bQ (ae (gv 0) (ae (gv 1) ah)))) (di fun bs=>bs.all id))))
 (bR (cst (.bool false)))
 lR)
 (bR (fg (f2 (gv 2) (aE ig (ae (gv 1) (ae (gv 2) ah))) (dv false)) (f1 (aE dP (ae (gv 2) ah)) vX))))))))
def fL (dO:List D->FR):SF:=(ko ([0] ++ []) (lK (jT (aE dO (ae (gv 0) ah))))
 (fun env β=>toS ((ae (cst (.str "this is no order")) ah) (vl env) β) fun ds _=>if ds.length<=sizeLine then .exc "NoOrder" else .bad)
 lR)
def fy:SF:=(aH (ko ([] ++ []) (c5 (f2 (gv 1) (f1 (gv 0) c8) qt))
 (bR (f2 (gv 0) (gv 1) bz))
 lR)
 (bR (cst (.int 0))))
def iZ:SF:=(aH (aZ 2 [] (ba (Hm [48271,69621,16807,39373,30269,40014,40692,50021,61687,71993,83869,95561,30307]))) (aH (aZ 3 ((((([] ++ []) ++ []) ++ ([] ++ ([] ++ []))) ++ ([] ++ [])) ++ ([] ++ ([] ++ []))) (f2 (f2 (f2 (f2 (f2 (gv 0) (cst (.int 2147483647)) j5) (cst (.int 12345)) bW) (f2 (gv 2) (f2 (gv 1) (cst (.int 13)) j5) bz) dw) (f2 (cst (.int 977)) (gv 1) dw) bW) (f2 (cst (.int 7919)) (f2 (gv 1) (cst (.int 13)) xN) dw) bW))
 (aH (aZ 3 ([] ++ []) (f2 (gv 3) (cst (.int 1000000007)) j5))
 (bR (f2 (f2 (f2 (f2 (gv 3) (gv 3) dw) (f2 (cst (.int 48271)) (gv 1) dw) bW) (cst (.int 1000000007)) j5) (cst (.int 7)) xN)))))
def iR (dq dU:List D->FR):SF:=(aH (aZ 2 ([0] ++ ([1] ++ [])) (aE dq (ae (gv 0) (ae (gv 1) ah))))
 (aH (ko (([] ++ []) ++ []) (c5 (f2 (f2 (gv 2) (cst (.int 2)) j5) (cst (.int 0)) (dv false)))
 (oN (ba (ae (f2 (f1 (gv 2) AR) (cst (.int 2)) xN) ah)))
 lR)
 (aH (aZ 3 [] (cst (.int 0)))
 (aH (cE (.nm 4) [] (bF (cst (.int 40)))
 (aZ 3 (([] ++ []) ++ ([2] ++ ([4] ++ []))) (f2 (f2 (gv 3) (cst (.int 142857143)) dw) (aE dU (ae (gv 2) (ae (gv 4) ah))) bW)))
 (oN (ba (ae (gv 3) ah)))))))
def df (ay:List D->Int->FB):SF:=(aH (k8 2 [] (f1 (gv 1) vU))
 (aH (k8 3 [] (ba ah))
 (aH (iE ([] ++ []) (c5 (f2 (gv 2) (ba ah) (dv true)))
 (iO 3 2 ([] ++ []) (hZ 0 ay (ae (f1 (gv 2) c8) ah))) 1000)
 (y6 3))))
noncomputable def eN:SF:=(aH (aZ 1 [] (f1 (gv 0) cA))
 (aH (aZ 2 [] (f1 (cst (.int 1)) EN))
 (aH (iE ([] ++ []) (c5 (f2 (gv 2) (f1 (gv 1) c8) (dv true)))
 (aH (aZ 2 [] (f1 (gv 1) c8))
 (aH (aZ 3 [] (ba ah))
 (aH (cE (.two 4 5) [1] (bh (gv 1))
 (aZ 3 ([] ++ ([] ++ [4])) (f2 (gv 3) (aG 2 [5,4] (.two 0 1) (bh (gv 1)) (c5 (f2 (gv 0) (gv 2) (dv false))) (aX (ae (gv 3) (ae (gv 1) ah)))) c6)))
 (aZ 1 ([] ++ []) (f1 (f2 (gv 1) (gv 3) c6) cA))))) 1000)
 (bR (f1 (gv 1) bX)))))
def fI (cB:List D->FR)(ay aN:List D->Int->FB):SF:=(aH (aZ 2 ([] ++ ([1] ++ [])) (f2 (cst (.int 1)) (hZ 0 ay (ae (gv 1) ah)) bW))
 (aH (aZ 3 ([] ++ []) (hZ 0 aN (ae (f1 (gv 2) bS) ah)))
 (aH (aZ 4 (([] ++ ([] ++ ([] ++ ([] ++ [])))) ++ ([] ++ [])) (f2 (ba (ae (cst (.int 2)) (ae (cst (.int 3)) (ae (cst (.int 4)) (ae (cst (.int 7)) ah))))) (hZ 0 ay (ae (cst (.int 4)) ah)) bz))
 (aH (k8 5 [] (ba ah))
 (aH (cE (.nm 6) [] (bF (gv 2))
 (cE (.nm 7) (([] ++ []) ++ []) (pC (f2 (gv 6) (cst (.int 1)) bW) (gv 2))
 (ko (([4] ++ []) ++ []) (c5 (f2 (hZ 0 ay (ae (gv 4) ah)) (cst (.int 0)) (dv false)))
 (l7 5 (([] ++ []) ++ (([] ++ []) ++ [])) (aX (ae (f2 (gv 3) (gv 6) bz) (ae (f2 (gv 3) (gv 7) bz) ah))))
 lR)))
 (bR (aX (ae (gv 2) (ae (aE cB (ae (gv 5) ah)) ah)))))))))
end RM

end

section
namespace RM
open PySem L2
def ou:D->Bool
 | .int _=>true
 |_=>false
def ji:List D->FR
 | [d]=>if cM d=true then .bad else .ok (.bool (ou d)) false
 |_=>.bad
theorem kW {d:D}(h:cM d=false):ji [d]=.ok (.bool (ou d)) false:=if_neg (by rw[h];exact Bool.false_ne_true)
theorem u4 (ds:List D)(h:ji ds≠.bad):bJ 1 1 nC ds=ji ds:=by
 unfold ji at h
 split at h
 ·rename_i d
  cases q:cM d with
  |true=>rw[q] at h;exact absurd rfl h
  |false=>
   rw[kW q]
   have e1:dJ "int" d=some (.bool (yf d "int")):=by unfold dJ;rw[q];rfl
   have e2:dJ "bool" d=some (.bool (yf d "bool")):=by unfold dJ;rw[q];rfl
   show fin (bR (fg (f1 (gv 0) (dJ "int")) (f1 (f1 (gv 0) (dJ "bool")) vX)) [.fz d] 0)=_
   unfold bR fg f1 gv
   simp only[qg,tI,tw,List.getElem?_cons_zero,tD,qp,j6,e1,e2]
   cases d <;> rfl
 ·exact absurd rfl h
def fD (d:D)(n:Int):Bool:=match d with
 | .int i=>decide (0<=i/\i < n)
 |_=>false
def c3:List D->FR
 | [d,.int n]=>if cM d=true then .bad else .ok (.bool (fD d n)) false
 |_=>.bad
theorem mr {d:D}{n:Int}(h:cM d=false):c3 [d,.int n]=.ok (.bool (fD d n)) false:=if_neg (by rw[h];exact Bool.false_ne_true)
theorem rH {i lo n:Int}{vs:List Nv}{β:Int}{fa fb fc:VF D}{g':D->D->Option D}{q:Bool}(ha:fa vs β=.ok (.int lo) β)(hb:fb vs β=.ok (.int i) β)(hc:fc vs β=.ok (.int n) β)(hq:g' (.int i) (.int n)=some (.bool q)):i0 fa fb fc Ab g' vs β=.ok (.bool (decide (lo<=i) && q)) β:=by
 unfold i0
 rw[ha];dsimp only[R.bnd];rw[hb];dsimp only[R.bnd]
 show (match (some (PyData.bool (decide (lo<=i))):Option D) with
  |some (.bool true)=>_
  |some (.bool false)=>_
  |_=>_)=_
 by_cases h:lo<=i
 ·rw[decide_eq_true h]
  dsimp only
  rw[hc]
  dsimp only[R.bnd]
  rw[hq];rfl
 ·rw[decide_eq_false h];rfl
theorem AU (ds:List D)(h:c3 ds≠.bad):bJ 2 2 (ny ji) ds=c3 ds:=by
 unfold c3 at h
 split at h
 ·rename_i d n
  cases q:cM d with
  |true=>rw[q] at h;exact absurd rfl h
  |false=>
   rw[mr q]
   show fin (bR (fg (aE ji (ae (gv 0) ah)) (i0 (cst (.int 0)) (gv 0) (gv 1) Ab qt)) [.fz d,.fz (.int n)] 0)=_
   unfold bR fg aE
   simp only[qg,tI,tw,cu,vB,Ci,List.getElem?_cons_zero,tD,qp,j6,kW q]
   cases d with
   |int i=>
    show fin (toS (i0 (cst (.int 0)) (gv 0) (gv 1) Ab qt [.da (.int i),.da (.int n)] 0) _)=_
    rw[rH (lo:=0) (i:=i) (n:=n) rfl rfl rfl rfl]
    show FR.ok (.bool (decide (0<=i) && decide (i < n))) false=.ok (.bool (decide (0<=i/\i < n))) false
    rw[Bool.decide_and]
   |_=>rfl
 ·exact absurd rfl h
def Cm (d:D):Bool:=match d with
 | .int i=>decide (1<=i/\i<=8)
 |_=>false
def jW:List D->FR
 | [d]=>if cM d=true then .bad else .ok (.bool (Cm d)) false
 |_=>.bad
theorem Ag {d:D}(h:cM d=false):jW [d]=.ok (.bool (Cm d)) false:=if_neg (by rw[h];exact Bool.false_ne_true)
theorem DT (ds:List D)(h:jW ds≠.bad):bJ 1 1 (oS ji) ds=jW ds:=by
 unfold jW at h
 split at h
 ·rename_i d
  cases q:cM d with
  |true=>rw[q] at h;exact absurd rfl h
  |false=>
   rw[Ag q]
   show fin (bR (fg (aE ji (ae (gv 0) ah)) (i0 (cst (.int 1)) (gv 0) (cst (.int 8)) Ab Ab)) [.fz d] 0)=_
   unfold bR fg aE
   simp only[qg,tI,tw,cu,vB,Ci,List.getElem?_cons_zero,tD,qp,j6,kW q]
   cases d with
   |int i=>
    show fin (toS (i0 (cst (.int 1)) (gv 0) (cst (.int 8)) Ab Ab [.da (.int i)] 0) _)=_
    rw[rH (lo:=1) (i:=i) (n:=8) rfl rfl rfl rfl]
    show FR.ok (.bool (decide (1<=i) && decide (i<=8))) false=.ok (.bool (decide (1<=i/\i<=8))) false
    rw[Bool.decide_and]
   |_=>rfl
 ·exact absurd rfl h
def pairF:List D->FR
 | [d,.int n]=>(match nu d with
  |some p=>.ok (.bool (decide ((0<=p.1/\p.1 < n)/\(0<=p.2/\p.2 < n)))) false
  |none=>.bad)
 |_=>.bad
theorem zJ (p:Pr)(n:Int):pairF [ao p,.int n]=.ok (.bool (decide ((0<=p.1/\p.1 < n)/\(0<=p.2/\p.2 < n)))) false:=rfl
theorem DM (ds:List D)(h:pairF ds≠.bad):bJ 2 2 (iw c3) ds=pairF ds:=by
 unfold pairF at h
 split at h
 ·rename_i d n
  cases q:nu d with
  |none=>rw[q] at h;exact absurd rfl h
  |some p=>
   obtain rfl:=qQ q
   rw[zJ]
   obtain⟨a,b⟩:=p
   show fin (toS (fg (aE c3 (ae (f2 (gv 0) (cst (.int 0)) bz) (ae (gv 1) ah))) (aE c3 (ae (f2 (gv 0) (cst (.int 1)) bz) (ae (gv 1) ah))) [.da (.tuple [.int a,.int b]),.da (.int n)] 0) fun d β'=>.rt d false β')=_
   have e1:aE c3 (ae (f2 (gv 0) (cst (.int 0)) bz) (ae (gv 1) ah)) [.da (.tuple [.int a,.int b]),.da (.int n)] 0=.ok (.bool (decide (0<=a/\a < n))) 0:=rfl
   have e2:aE c3 (ae (f2 (gv 0) (cst (.int 1)) bz) (ae (gv 1) ah)) [.da (.tuple [.int a,.int b]),.da (.int n)] 0=.ok (.bool (decide (0<=b/\b < n))) 0:=rfl
   unfold fg
   rw[e1]
   dsimp only[R.bnd]
   by_cases c:0<=a/\a < n
   ·rw[decide_eq_true c,e2]
    show FR.ok (.bool (decide (0<=b/\b < n))) false=.ok (.bool (decide ((0<=a/\a < n)/\(0<=b/\b < n)))) false
    simp[c]
   ·rw[decide_eq_false c]
    show FR.ok (.bool false) false=.ok (.bool (decide ((0<=a/\a < n)/\(0<=b/\b < n)))) false
    simp[c]
 ·exact absurd rfl h
def aK (n:Nat)(l:List Pr):D:=.tuple [.int n,.tuple (l.map ao)]
open Classical in
noncomputable def oU (f:Nat->List Pr->FR):D->FR:=fun d=>if h:∃nl:Nat×List Pr,d=aK nl.1 nl.2/\OM.Ord nl.1 nl.2 then f (Classical.choose h).1 (Classical.choose h).2 else .bad
theorem Cd {p q:Pr}(h:ao p=ao q):p=q:=by
 obtain⟨a,b⟩:=p
 obtain⟨c,d⟩:=q
 unfold ao at h
 simp at h
 rw[h.1,h.2]
theorem jj:∀{l m:List Pr},l.map ao=m.map ao->l=m
 | [],[],_=>rfl
 | [],_ :: _,h=>by cases h
 |_ :: _,[],h=>by cases h
 |p :: l,q :: m,h=>by
  simp only[List.map_cons,List.cons.injEq] at h
  rw[Cd h.1,jj h.2]
theorem yP {n m:Nat}{l k:List Pr}(h:aK n l=aK m k):n=m/\l=k:=by
 unfold aK at h
 simp only[PyData.tuple.injEq,List.cons.injEq,PyData.int.injEq,and_true] at h
 exact⟨by omega,jj h.2⟩
theorem sh {f:Nat->List Pr->FR}{n:Nat}{l:List Pr}(O:OM.Ord n l):oU f (aK n l)=f n l:=by
 unfold oU
 have h:∃nl:Nat×List Pr,aK n l=aK nl.1 nl.2/\OM.Ord nl.1 nl.2:=⟨(n,l),rfl,O⟩
 rw[dif_pos h]
 obtain⟨e,_⟩:=Classical.choose_spec h
 obtain⟨e1,e2⟩:=yP e
 rw[<-e1,<-e2]
theorem qM {f:Nat->List Pr->FR}{d:D}(h:oU f d≠.bad):∃n l,d=aK n l/\OM.Ord n l:=by
 unfold oU at h
 by_cases q:∃nl:Nat×List Pr,d=aK nl.1 nl.2/\OM.Ord nl.1 nl.2
 ·obtain⟨nl,e,O⟩:=q;exact⟨nl.1,nl.2,e,O⟩
 ·rw[dif_neg q] at h;exact absurd rfl h
noncomputable def cZ:List D->FR
 | [.int n,d]=>(match l9 d with
  |some ds=>(match fB ds with
   |some ps=>(open Classical in if 1<=n/\n<=8/\OM.Wn n.toNat ps then .ok (.tuple ((OM.b4 n.toNat (OM.Tr (OM.Mem ps))).map ao)) false else .bad)
   |none=>.bad)
  |none=>.bad)
 |_=>.bad
theorem xV {n:Nat}{ps:List Pr}(h1:1<=n)(h8:n<=8)(w:OM.Wn n ps):cZ [.int n,.tuple (ps.map ao)]=.ok (.tuple ((OM.b4 n (OM.Tr (OM.Mem ps))).map ao)) false:=by
 unfold cZ
 simp only[l9,gj]
 rw[if_pos ⟨by omega,by omega,by rw[Int.toNat_natCast];exact w⟩,Int.toNat_natCast]
def jd:List D->FR
 | [.tuple ds]=>(match fB ds with
  |some ps=>if ps.length<=1000 then .ok (.bool (ps.any fun p=>decide (p.1=p.2))) false else .bad
  |none=>.bad)
 |_=>.bad
theorem jy {α:Type}(f:α->Bool):∀l:List α,js (l.map fun x=>PyData.bool (f x))=some (l.map f)
 | []=>rfl
 |x :: l=>by
  show (js (l.map fun x=>PyData.bool (f x))).map (f x :: ·)=_
  rw[jy f l];rfl
theorem CY (ds:List D)(h:jd ds≠.bad):bJ 1 1 nt ds=jd ds:=by
 unfold jd at h
 split at h
 ·rename_i ds
  cases q:fB ds with
  |none=>rw[q] at h;exact absurd rfl h
  |some ps=>
   rw[q] at h
   dsimp only at h
   by_cases hz:ps.length<=1000
   case neg=>rw[if_neg hz] at h;exact absurd rfl h
   obtain rfl:=jE q
   have e:jd [.tuple (ps.map ao)]=.ok (.bool (ps.any fun p=>decide (p.1=p.2))) false:=by
    unfold jd;simp only[gj];rw[if_pos hz]
   rw[e]
   have ec:aG 2 [] (.two 0 1) (bh (gv 0)) gy (f2 (gv 0) (gv 1) (dv false)) [.da (.tuple (ps.map ao))] 0=.ok (.list (ps.map fun p=>PyData.bool (decide (p.1=p.2)))) 0:=by
    exact cq (l:=ps) (e:=ao) (fun p=>PyData.bool (decide (p.1=p.2))) rfl hz fun p hp=>⟨_,rfl,rfl⟩
   show fin (toS ((aG 2 [] (.two 0 1) (bh (gv 0)) gy (f2 (gv 0) (gv 1) (dv false)) [.da (.tuple (ps.map ao))] 0).bnd fun x β1=>R.of (di (fun bs=>bs.any id) x) β1) fun d β'=>.rt d false β')=_
   rw[ec]
   simp only[j6,di]
   rw[jy]
   simp[fin,List.any_map]
 ·exact absurd rfl h
theorem uG:∀l:List Pr,PyData.canLayAll0 (l.map ao)=true
 | []=>rfl
 |p :: l=>by
  show ((ao p).canLay0 && PyData.canLayAll0 (l.map ao))=true
  rw[uG l];rfl
theorem uX:∀l:List Pr,PyData.depthAll (l.map ao)<=1
 | []=>by show (0:Nat)<=1;omega
 |p :: l=>by
  show max (ao p).depth (PyData.depthAll (l.map ao))<=1
  have h1:(ao p).depth=1:=by simp[ao,PyData.depth,PyData.depthAll]
  have h2:=uX l
  omega
theorem nU (l:List Pr):SeqAt.shaped (.tuple (l.map ao))=true:=by
 unfold SeqAt.shaped
 have h1:(PyData.tuple (l.map ao)).canLay0=true:=by simp only[PyData.canLay0];exact uG l
 have h2:(PyData.tuple (l.map ao)).depth<=64:=by simp only[PyData.depth];have:=uX l;omega
 rw[h1,decide_eq_true h2];rfl
theorem DY (p q:Pr):PyData.eqv (ao p) (ao q)=decide (p=q):=by
 obtain⟨a,b⟩:=p
 obtain⟨c,d⟩:=q
 simp only[ao,PyData.eqv,PyData.eqvAll,Bool.and_true]
 rw[Bool.eq_iff_iff]
 simp
theorem uV:∀l m:List Pr,PyData.eqvAll (l.map ao) (m.map ao)=decide (l=m)
 | [],[]=>rfl
 | [],_ :: _=>rfl
 |_ :: _,[]=>rfl
 |p :: l,q :: m=>by
  show (PyData.eqv (ao p) (ao q) && PyData.eqvAll (l.map ao) (m.map ao))=_
  rw[DY,uV l m,Bool.eq_iff_iff]
  simp
theorem u5 {n:Nat}{l:List Pr}(O:OM.Ord n l):l.length < 64:=by
 have h8:=O.hi
 have e:=O.closed
 by_cases h:l.length < 64
 ·exact h
 ·exfalso
  have h1:l.length<=n * n:=by rw[<-e];exact OM.zA _ _
  have h2:n * n<=64:=Nat.mul_le_mul h8 h8
  have hn:n=8:=by
   by_cases h7:n<=7
   ·have:n * n<=7 * 7:=Nat.mul_le_mul h7 h7
    omega
   ·omega
  have hlen:l.length=n * n:=by subst hn;omega
  have hg:l=OM.b6 n:=by
   refine OM.sub_eq O.ris (OM.gr n) (fun x hx=>OM.a8.mpr (O.wn x hx)) ?_
   rw[hlen];unfold OM.b6;simp
  have:((0:Int),(0:Int))∈l:=by rw[hg];exact OM.a8.mpr ⟨⟨by omega,by omega⟩,by omega,by omega⟩
  exact O.irr 0 this
theorem za {n:Nat}(h1:1<=n)(h8:n<=8):jW [.int n]=.ok (.bool true) false:=by
 rw[Ag rfl]
 show FR.ok (.bool (decide (1<=(n:Int)/\(n:Int)<=8))) false=_
 rw[decide_eq_true (by omega)]
theorem nv (neg:Bool)(l m:List Pr):dv neg (.tuple (l.map ao)) (.tuple (m.map ao))=some (.bool (if neg then !decide (l=m) else decide (l=m))):=by
 unfold dv
 rw[nU,nU]
 simp only[Bool.and_self,if_true,PyData.eqv,uV]
theorem AY {n:Nat}{l:List Pr}(O:OM.Ord n l):jd [.tuple (l.map ao)]=.ok (.bool false) false:=by
 have hl:=u5 O
 unfold jd
 simp only[gj]
 rw[if_pos (by omega)]
 have:(l.any fun p=>decide (p.1=p.2))=false:=by
  rw[List.any_eq_false]
  intro p hp
  simp only[decide_eq_true_eq]
  intro e
  obtain⟨a,b⟩:=p
  simp only at e
  subst e
  exact O.irr a hp
 rw[this]
theorem wC {n:Nat}{l:List Pr}(O:OM.Ord n l):bJ 3 1 (gp jW pairF cZ jd) [aK n l]=.ok (.bool true) false:=by
 have hl:=u5 O
 show fin (gp jW pairF cZ jd [.fz (aK n l),.no,.no] 0)=_
 unfold gp
 rw[aq (env':=[.fz (aK n l),.no,.no]) (β':=0) (by rfl)]
 rw[aq (env':=[.fz (aK n l),.fz (.int n),.no]) (β':=0) (by rfl)]
 rw[aq (env':=[.fz (aK n l),.fz (.int n),.fz (.tuple (l.map ao))]) (β':=0) (by rfl)]
 have e4:aE jW (ae (gv 1) ah) [.da (aK n l),.da (.int n),.da (.tuple (l.map ao))] 0=.ok (.bool true) 0:=aP rfl (za O.lo O.hi)
 rw[aq (env':=[.fz (aK n l),.fz (.int n),.fz (.tuple (l.map ao))]) (β':=0) ?h4]
 case h4=>
  refine fF ?_
  show iy (lK (jT (aE jW (ae (gv 1) ah)))) _ [.da (aK n l),.da (.int n),.da (.tuple (l.map ao))] 0=_
  rw[p5,pY,p0,e4]
  rfl
 have e5:aG 1 [1] (.nm 0) (bh (gv 2)) gy (aE pairF (ae (gv 0) (ae (gv 1) ah))) [.da (aK n l),.da (.int n),.da (.tuple (l.map ao))] 0=.ok (.list (l.map fun _=>PyData.bool true)) 0:=by
  refine cq (l:=l) (e:=ao) (fun _=>PyData.bool true) rfl (by omega) fun p hp=>⟨_,rfl,?_⟩
  refine aP (b:=false) (ds:=[ao p,.int n]) rfl ?_
  rw[zJ,decide_eq_true (by have:=O.wn p hp;exact this)]
 rw[aq (env':=[.fz (aK n l),.fz (.int n),.fz (.tuple (l.map ao))]) (β':=0) ?h5]
 case h5=>
  refine fF ?_
  show lK (jT (f1 (aG 1 [1] (.nm 0) (bh (gv 2)) gy (aE pairF (ae (gv 0) (ae (gv 1) ah)))) (di fun bs=>bs.all id))) [.da (aK n l),.da (.int n),.da (.tuple (l.map ao))] 0=_
  rw[pY,p0,cc (d:=.bool true) e5 (by simp only[di];rw[jy];simp)]
  rfl
 have e6:aE cZ (ae (gv 1) (ae (gv 2) ah)) [.da (aK n l),.da (.int n),.da (.tuple (l.map ao))] 0=.ok (.tuple (l.map ao)) 0:=aP rfl (by rw[xV O.lo O.hi O.wn,O.closed])
 have e7:aE jd (ae (gv 2) ah) [.da (aK n l),.da (.int n),.da (.tuple (l.map ao))] 0=.ok (.bool false) 0:=aP rfl (AY O)
 show fin (toS (fg (f2 (gv 2) (aE cZ (ae (gv 1) (ae (gv 2) ah))) (dv false)) (f1 (aE jd (ae (gv 2) ah)) vX) [.da (aK n l),.da (.int n),.da (.tuple (l.map ao))] 0) _)=_
 unfold fg
 rw[aA (d:=.bool true) (x:=.tuple (l.map ao)) rfl e6 (by rw[nv];simp)]
 dsimp only[R.bnd]
 rw[cc (d:=.bool true) e7 rfl]
 rfl
noncomputable def dH:List D->FR
 | [d]=>oU (fun _ _=>.ok (.bool true) false) d
 |_=>.bad
theorem oP {n:Nat}{l:List Pr}(O:OM.Ord n l):dH [aK n l]=.ok (.bool true) false:=by simp only[dH];exact sh O
theorem uC (ds:List D)(h:dH ds≠.bad):bJ 3 1 (gp jW pairF cZ jd) ds=dH ds:=by
 unfold dH at h
 split at h
 ·obtain⟨n,l,rfl,O⟩:=qM h
  rw[wC O,oP O]
 ·exact absurd rfl h
noncomputable def nN:List D->FR
 | [d]=>oU (fun _ _=>.ok .none false) d
 |_=>.bad
theorem z6 {n:Nat}{l:List Pr}(O:OM.Ord n l):nN [aK n l]=.ok .none false:=by simp only[nN];exact sh O
theorem BG (ds:List D)(h:nN ds≠.bad):bJ 1 1 (fL dH) ds=nN ds:=by
 unfold nN at h
 split at h
 ·obtain⟨n,l,rfl,O⟩:=qM h
  rw[z6 O]
  have e:aE dH (ae (gv 0) ah) [.da (aK n l)] 0=.ok (.bool true) 0:=aP (ds:=[aK n l]) rfl (oP O)
  show fin (fL dH [.fz (aK n l)] 0)=_
  unfold fL
  rw[fF (β':=0)]
  ·rfl
  ·show lK (jT (aE dH (ae (gv 0) ah))) [.da (aK n l)] 0=_
   rw[pY,p0,e];rfl
 ·exact absurd rfl h
end RM

end

section
namespace RM
open PySem L2
abbrev bo (ns:List Int):D:=.dict [(.none,.list (ns.map PyData.int))]
theorem lC {i j:Int}(h: -(2 ^ 64) < i/\i < 2 ^ 64):dw (.int i) (.int j)=some (.int (i * j)):=if_pos (by dsimp only;rw[decide_eq_true h.1,decide_eq_true h.2];rfl)
theorem Dp {i j:Int}(h: -(2 ^ 64) < j/\j < 2 ^ 64):dw (.int i) (.int j)=some (.int (i * j)):=if_pos (by dsimp only;rw[decide_eq_true h.1,decide_eq_true h.2,Bool.and_self,Bool.or_true])
theorem lI {i j:Int}(h:0 < j):j5 (.int i) (.int j)=some (.int (i % j)):=if_pos (decide_eq_true h)
theorem uU {i j:Int}(h:0 < j)(h2:j < 1073741824):xN (.int i) (.int j)=some (.int (i / j)):=if_pos (by dsimp only;rw[decide_eq_true h,decide_eq_true h2];rfl)
theorem gz {α β:Type}(f:α->β)(l:List α)(i:Int):jA (l.map f) i=(jA l i).map f:=by
 unfold jA
 rw[List.length_map]
 cases sx l.length i with
 |none=>rfl
 |some j=>simp
theorem nZ {α:Type}{l:List α}{k:Nat}(h:k < l.length):jA l (k:Int)=some l[k]:=i8 (List.getElem?_eq_getElem h)
theorem C6 {fa fb:VF D}{vs:List Nv}{β β1 β2:Int}{i j:Int}(h:fa vs β=.ok (.int i) β1)(h':fb vs β1=.ok (.int j) β2):c5 (f2 fa fb qt) vs β=.ok (decide (i < j)) β2:=g9 _ _ _ _ (aA h h' rfl)
theorem gH {neg:Bool}{fa fb:VF D}{vs:List Nv}{β β1 β2:Int}{i j:Int}(h:fa vs β=.ok (.int i) β1)(h':fb vs β1=.ok (.int j) β2):c5 (f2 fa fb (dv neg)) vs β=.ok (if neg then !decide (i=j) else decide (i=j)) β2:=by
 refine g9 _ _ _ _ (aA h h' ?_)
 cases neg <;> rfl
theorem Dh (ns:List Int)(k:Nat):∃z,bJ 2 2 fy [bo ns,.int k]=.ok (.int z) false:=by
 show ∃z,fin (fy [.fz (bo ns),.fz (.int k)] 0)=.ok (.int z) false
 unfold fy
 have e:c5 (f2 (gv 1) (f1 (gv 0) c8) qt) [.da (bo ns),.da (.int k)] 0=.ok (decide ((k:Int) < (ns.map PyData.int).length)) 0:=C6 rfl rfl
 by_cases h:k < ns.length
 ·refine⟨ns[k],?_⟩
  rw[decide_eq_true (by simp;exact h)] at e
  rw[cg (d:=.int ns[k]) (b:=false) (β':=0)]
  ·rfl
  ·rw[eV e]
   show toS (f2 (gv 0) (gv 1) bz [.da (bo ns),.da (.int k)] 0) _=_
   rw[aA (x:=bo ns) (y:=.int k) (d:=.int ns[k]) (β1:=0) (β2:=0) rfl rfl]
   ·rfl
   ·show jA (ns.map PyData.int) (k:Int)=_
    rw[gz,nZ h];rfl
 ·refine⟨0,?_⟩
  rw[decide_eq_false (by simp;omega)] at e
  rw[aq (env':=[.fz (bo ns),.fz (.int k)]) (β':=0)]
  ·rfl
  ·rw[fF e];rfl
noncomputable def uH:List D->FR:=bJ 2 2 fy
noncomputable def yz:List D->FR:=bJ 4 2 iZ
abbrev tm:List Int:=[48271,69621,16807,39373,30269,40014,40692,50021,61687,71993,83869,95561,30307]
theorem EL (c k:Int):∃z,yz [.int c,.int k]=.ok (.int z) false:=by
 show ∃z,fin (iZ [.fz (.int c),.fz (.int k),.no,.no] 0)=.ok (.int z) false
 unfold iZ
 rw[aq (env':=[.fz (.int c),.fz (.int k),.fz (.list (tm.map PyData.int)),.no]) (β':=0) (by rfl)]
 obtain⟨j,hj⟩:∃j:Nat,k % 13=j:=⟨(k % 13).toNat,by omega⟩
 have hj13:j < tm.length:=by show j < 13;omega
 have e1:f2 (f2 (f2 (f2 (f2 (gv 0) (cst (.int 2147483647)) j5) (cst (.int 12345)) bW) (f2 (gv 2) (f2 (gv 1) (cst (.int 13)) j5) bz) dw) (f2 (cst (.int 977)) (gv 1) dw) bW) (f2 (cst (.int 7919)) (f2 (gv 1) (cst (.int 13)) xN) dw) bW [.da (.int c),.da (.int k),.da (.list (tm.map PyData.int)),.no] 0
   =.ok (.int ((c % 2147483647 + 12345) * tm[j] + 977 * k + 7919 * (k / 13))) 0:=by
  refine aA (aA (aA (aA (aA (x:=.int c) (y:=.int 2147483647) rfl rfl (lI (by omega))) rfl rfl) (aA (x:=.list (tm.map PyData.int)) rfl (aA (x:=.int k) (y:=.int 13) rfl rfl (lI (by omega))) (d:=.int tm[j]) ?_) (lC ⟨by omega,by omega⟩)) (aA (x:=.int 977) (y:=.int k) rfl rfl (lC ⟨by omega,by omega⟩)) rfl) (aA (x:=.int 7919) rfl (aA (x:=.int k) (y:=.int 13) rfl rfl (uU (by omega) (by omega))) (lC ⟨by omega,by omega⟩)) rfl
  show jA (tm.map PyData.int) (k % 13)=_
  rw[hj,gz,nZ hj13];rfl
 generalize ((c % 2147483647 + 12345) * tm[j] + 977 * k + 7919 * (k / 13))=st at e1
 rw[aq (env':=[.fz (.int c),.fz (.int k),.fz (.list (tm.map PyData.int)),.fz (.int st)]) (β':=0) ?h]
 case h=>
  show toS (f2 _ _ bW [.da (.int c),.da (.int k),.da (.list (tm.map PyData.int)),.no] 0) _=_
  rw[e1];rfl
 have e2:f2 (gv 3) (cst (.int 1000000007)) j5 [.da (.int c),.da (.int k),.da (.list (tm.map PyData.int)),.da (.int st)] 0=.ok (.int (st % 1000000007)) 0:=aA rfl rfl (lI (by omega))
 rw[aq (env':=[.fz (.int c),.fz (.int k),.fz (.list (tm.map PyData.int)),.fz (.int (st % 1000000007))]) (β':=0) ?h2]
 case h2=>
  show toS (f2 (gv 3) (cst (.int 1000000007)) j5 [.da (.int c),.da (.int k),.da (.list (tm.map PyData.int)),.da (.int st)] 0) _=_
  rw[e2];rfl
 have hb: -(2 ^ 64) < st % 1000000007/\st % 1000000007 < 2 ^ 64:=⟨by omega,by omega⟩
 generalize st % 1000000007=u at hb
 have e3:f2 (f2 (f2 (f2 (gv 3) (gv 3) dw) (f2 (cst (.int 48271)) (gv 1) dw) bW) (cst (.int 1000000007)) j5) (cst (.int 7)) xN [.da (.int c),.da (.int k),.da (.list (tm.map PyData.int)),.da (.int u)] 0=.ok (.int ((u * u + 48271 * k) % 1000000007 / 7)) 0:=
  aA (aA (aA (aA (x:=.int u) (y:=.int u) rfl rfl (lC hb)) (aA (x:=.int 48271) (y:=.int k) rfl rfl (lC ⟨by omega,by omega⟩)) rfl) rfl (lI (by omega))) rfl (uU (by omega) (by omega))
 refine⟨(u * u + 48271 * k) % 1000000007 / 7,?_⟩
 show fin (toS (f2 _ (cst (.int 7)) xN [.da (.int c),.da (.int k),.da (.list (tm.map PyData.int)),.da (.int u)] 0) _)=_
 rw[e3];rfl
noncomputable def BB:List D->FR:=bJ 5 2 (iR uH yz)
theorem Fl (ns:List Int)(k:Nat):∃z,BB [bo ns,.int k]=.ok (.list [.int z]) true:=by
 obtain⟨c,hc⟩:=Dh ns k
 show ∃z,fin (iR uH yz [.fz (bo ns),.fz (.int k),.no,.no,.no] 0)=.ok (.list [.int z]) true
 unfold iR
 have e0:aE uH (ae (gv 0) (ae (gv 1) ah)) [.da (bo ns),.da (.int k),.no,.no,.no] 0=.ok (.int c) 0:=aP rfl hc
 rw[aq (env':=[.fz (bo ns),.fz (.int k),.fz (.int c),.no,.no]) (β':=0) ?h]
 case h=>
  show toS (aE uH _ [.da (bo ns),.da (.int k),.no,.no,.no] 0) _=_
  rw[e0];rfl
 have e1:c5 (f2 (f2 (gv 2) (cst (.int 2)) j5) (cst (.int 0)) (dv false)) [.da (bo ns),.da (.int k),.da (.int c),.no,.no] 0=.ok (decide (c % 2=0)) 0:=gH (neg:=false) (aA rfl rfl (lI (by omega))) rfl
 by_cases h:c % 2=0
 ·rw[decide_eq_true h] at e1
  refine⟨(if c < 0 then -c else c) / 2,?_⟩
  rw[cg (d:=.list [.int ((if c < 0 then -c else c) / 2)]) (b:=true) (β':=0)]
  ·rfl
  ·rw[eV e1]
   show toS (ba (ae (f2 (f1 (gv 2) AR) (cst (.int 2)) xN) ah) [.da (bo ns),.da (.int k),.da (.int c),.no,.no] 0) _=_
   rw[eM (ds:=[.int ((if c < 0 then -c else c) / 2)]) (β1:=0)]
   ·rfl
   ·have e2:f2 (f1 (gv 2) AR) (cst (.int 2)) xN [.da (bo ns),.da (.int k),.da (.int c),.no,.no] 0=.ok (.int ((if c < 0 then -c else c) / 2)) 0:=aA (cc (x:=.int c) rfl rfl) rfl (uU (by omega) (by omega))
    rw[cu,e2];rfl
   ·simp
 ·rw[decide_eq_false h] at e1
  rw[aq (env':=[.fz (bo ns),.fz (.int k),.fz (.int c),.no,.no]) (β':=0) (by rw[fF e1];rfl)]
  rw[aq (env':=[.fz (bo ns),.fz (.int k),.fz (.int c),.fz (.int 0),.no]) (β':=0) (by rfl)]
  obtain⟨env',β',el,z,x,rfl,rfl⟩:=cv (t:=.nm 4) (m:=aZ 3 (([] ++ []) ++ ([2] ++ ([4] ++ []))) (f2 (f2 (gv 3) (cst (.int 142857143)) dw) (aE yz (ae (gv 2) (ae (gv 4) ah))) bW)) (ds:=bG 0 40) (k:=0)
   (fun _ env β=>∃(z:Int) (x:Sl),env= [.fz (bo ns),.fz (.int k),.fz (.int c),.fz (.int z),x]/\β=0) (env:=[.fz (bo ns),.fz (.int k),.fz (.int c),.fz (.int 0),.no]) (β:=0) ⟨0,.no,rfl,rfl⟩ (by
    rintro i d env β hi ⟨z,x,rfl,rfl⟩
    obtain⟨j,rfl⟩:∃j:Int,d=.int j:=by
     unfold bG at hi
     rw[List.getElem?_map] at hi
     cases q:(List.range 40)[i]? with
     |none=>rw[q] at hi;cases hi
     |some j=>rw[q] at hi;cases hi;exact⟨_,rfl⟩
    obtain⟨y,hy⟩:=EL c j
    refine⟨_,rfl,_,_,?_,z * 142857143 + y,.fz (.int j),rfl,rfl⟩
    show toS (f2 (f2 (gv 3) (cst (.int 142857143)) dw) (aE yz (ae (gv 2) (ae (gv 4) ah))) bW [.da (bo ns),.da (.int k),.da (.int c),.da (.int z),.da (.int j)] 0) _=_
    rw[aA (d:=.int (z * 142857143 + y)) (aA (x:=.int z) (y:=.int 142857143) (β1:=0) (β2:=0) rfl rfl (Dp ⟨by omega,by omega⟩)) (aP (ds:=[.int c,.int j]) (β1:=0) rfl hy) rfl]
    rfl)
  refine⟨z,?_⟩
  rw[aq (env':=[.fz (bo ns),.fz (.int k),.fz (.int c),.fz (.int z),x]) (β':=0) ?h2]
  case h2=>exact el
  show fin (toS (ba (ae (gv 3) ah) [.da (bo ns),.da (.int k),.da (.int c),.da (.int z),x.val] 0) _)=_
  rw[eM (ds:=[.int z]) (β1:=0) rfl (by simp)]
  rfl
noncomputable def g7:List D->Int->FB:=l0 4 1 (df bZ)
theorem lay_ints:∀ns:List Int,PyData.canLayAll0 (ns.map PyData.int)=true
 | []=>rfl
 |n :: ns=>by
  show ((PyData.int n).canLay0 && PyData.canLayAll0 (ns.map PyData.int))=true
  rw[lay_ints ns];rfl
theorem sy:∀ns:List Int,PyData.depthAll (ns.map PyData.int)=0
 | []=>rfl
 |n :: ns=>by
  show max (PyData.int n).depth (PyData.depthAll (ns.map PyData.int))=0
  rw[sy ns];rfl
theorem shaped_ints (ns:List Int):SeqAt.shaped (.list (ns.map PyData.int))=true:=by
 unfold SeqAt.shaped
 have h1:(PyData.list (ns.map PyData.int)).canLay0=true:=by simp only[PyData.canLay0];exact lay_ints ns
 have h2:(PyData.list (ns.map PyData.int)).depth<=64:=by simp only[PyData.depth];rw[sy];omega
 rw[h1,decide_eq_true h2];rfl
theorem sC:∀l m:List Int,PyData.eqvAll (l.map PyData.int) (m.map PyData.int)=decide (l=m)
 | [],[]=>rfl
 | [],_ :: _=>rfl
 |_ :: _,[]=>rfl
 |p :: l,q :: m=>by
  show ((p == q) && PyData.eqvAll (l.map PyData.int) (m.map PyData.int))=_
  rw[sC l m,Bool.eq_iff_iff]
  simp
theorem mV (neg:Bool)(l m:List Int):dv neg (.list (l.map PyData.int)) (.list (m.map PyData.int))=some (.bool (if neg then !decide (l=m) else decide (l=m))):=by
 unfold dv
 rw[shaped_ints,shaped_ints]
 simp only[Bool.and_self,if_true,PyData.eqv,sC]
theorem gk {α:Type}:∀{l:List α} {k:Nat} {x:α},l[k]? =some x->(x :: l.eraseIdx k).Perm l
 | [],_,_,h=>by simp at h
 |y :: l,0,x,h=>by simp at h;subst h;exact List.Perm.refl _
 |y :: l,k + 1,x,h=>by
  have h:l[k]? =some x:=by simpa using h
  have ih:=gk h
  show (x :: y :: l.eraseIdx k).Perm (y :: l)
  exact (List.Perm.swap y x _).trans (ih.cons y)
theorem oO {α β:Type}(f:α->β):∀(l:List α) (k:Nat),(l.map f).eraseIdx k=(l.eraseIdx k).map f
 | [],_=>rfl
 |_ :: _,0=>rfl
 |x :: l,k + 1=>by simp[oO f l k]
theorem uT (ns:List Int)(hz:ns.length<=100)(β:Int):∃(ms:List Int) (β':Int),g7 [.list (ns.map PyData.int)] β=.ok (.list (ms.map PyData.int)) true β'/\ms.Perm ns:=by
 show ∃(ms:List Int) (β':Int),wm (df bZ [.bx,.fz (.list (ns.map PyData.int)),.no,.no] β)=.ok (.list (ms.map PyData.int)) true β'/\ms.Perm ns
 unfold df
 rw[aq (env':=[.bx,.fz (.list (ns.map PyData.int)),.ow (.list (ns.map PyData.int)),.no]) (β':=β) (by rfl)]
 have ez:ba ah [Nv.bx,.da (.list (ns.map PyData.int)),.da (.list (ns.map PyData.int)),.no] β=.ok (.list []) β:=eM rfl (by simp)
 rw[aq (env':=[.bx,.fz (.list (ns.map PyData.int)),.ow (.list (ns.map PyData.int)),.ow (.list [])]) (β':=β) ?h]
 case h=>
  show toS (ba ah [Nv.bx,.da (.list (ns.map PyData.int)),.da (.list (ns.map PyData.int)),.no] β) _=_
  rw[ez];rfl
 obtain⟨env',β',ew,ms,rfl,hp⟩:=ke (L:=[] ++ []) (t:=c5 (f2 (gv 2) (ba ah) (dv true))) (m:=iO 3 2 ([] ++ []) (hZ 0 bZ (ae (f1 (gv 2) c8) ah)))
  (fun k env β=>∃ls ms:List Int,env= [.bx,.fz (.list (ns.map PyData.int)),.ow (.list (ls.map PyData.int)),.ow (.list (ms.map PyData.int))]/\(ms ++ ls).Perm ns/\k=ls.length)
  (fun env β=>∃ms:List Int,env= [.bx,.fz (.list (ns.map PyData.int)),.ow (.list []),.ow (.list (ms.map PyData.int))]/\ms.Perm ns) (n:=1000) (k:=ns.length) (env:=[.bx,.fz (.list (ns.map PyData.int)),.ow (.list (ns.map PyData.int)),.ow (.list [])]) (β:=β) (by omega) ⟨ns,[],rfl,by simp,rfl⟩ (by
   rintro k env β ⟨ls,ms,rfl,hp,rfl⟩
   have e1:ba ah [Nv.bx,.da (.list (ns.map PyData.int)),.da (.list (ls.map PyData.int)),.da (.list (ms.map PyData.int))] β=.ok (.list (([]:List Int).map PyData.int)) β:=eM rfl (by simp)
   have et:c5 (f2 (gv 2) (ba ah) (dv true)) [Nv.bx,.da (.list (ns.map PyData.int)),.da (.list (ls.map PyData.int)),.da (.list (ms.map PyData.int))] β=.ok (!decide (ls= [])) β:=
    g9 _ _ _ _ (aA (x:=.list (ls.map PyData.int)) rfl e1 (by rw[mV];rfl))
   refine⟨_,_,et,?_⟩
   have hlen:=hp.length_eq
   rw[List.length_append] at hlen
   cases ls with
   |nil=>exact .inl ⟨rfl,ms,rfl,by simpa using hp⟩
   |cons y ys=>
    refine .inr ⟨rfl,?_⟩
    have hm:(0:Int) < ((y :: ys).length:Nat)/\(((y :: ys).length:Nat):Int) < 1073741824:=by
     have:(y :: ys).length<=100:=by omega
     constructor
     ·simp
     ·omega
    obtain⟨j,hj⟩:∃j:Nat,β % (((y :: ys).length:Nat):Int)=j:=⟨(β % (((y :: ys).length:Nat):Int)).toNat,by have:=Int.emod_nonneg β (b:=(((y :: ys).length:Nat):Int)) (by omega);omega⟩
    have hj2:j < (y :: ys).length:=by have:=Int.emod_lt_of_pos β hm.1;omega
    have ef:hZ 0 bZ (ae (f1 (gv 2) c8) ah) [Nv.bx,.da (.list (ns.map PyData.int)),.da (.list ((y :: ys).map PyData.int)),.da (.list (ms.map PyData.int))] β=.ok (.int (j:Int)) (β / (((y :: ys).length:Nat):Int)):=by
     refine dF (ds:=[.int (((y :: ys).length:Nat):Int)]) (b:=false) (by rfl) ?_ (by rw[qj hm.1 hm.2,hj])
     show R.ok [PyData.int ((((y :: ys).map PyData.int).length:Nat):Int)] β=_
     rw[List.length_map]
    have hpop:xp ((y :: ys).map PyData.int) (.int (j:Int))=some (.int (y :: ys)[j],((y :: ys).eraseIdx j).map PyData.int):=by
     unfold xp
     dsimp only
     rw[if_pos ⟨by omega,by omega⟩]
     have es:seqIndex? (j:Int) ((y :: ys).map PyData.int).length=some j:=by
      rw[List.length_map]
      exact PySem.StrLaws.seqIndex_nonneg (by omega) (by omega)
     rw[es]
     dsimp only
     rw[List.getElem?_map,List.getElem?_eq_getElem hj2,oO];rfl
    refine⟨[.bx,.fz (.list (ns.map PyData.int)),.ow (.list (((y :: ys).eraseIdx j).map PyData.int)),.ow (.list ((ms ++ [(y :: ys)[j]]).map PyData.int))],β / (((y :: ys).length:Nat):Int),((y :: ys).eraseIdx j).length,?_,?_,(y :: ys).eraseIdx j,ms ++ [(y :: ys)[j]],rfl,?_,rfl⟩
    ·show iO 3 2 ([] ++ []) (hZ 0 bZ (ae (f1 (gv 2) c8) ah)) [.bx,.fz (.list (ns.map PyData.int)),.ow (.list ((y :: ys).map PyData.int)),.ow (.list (ms.map PyData.int))] β=_
     rw[tP (ds:=ms.map PyData.int) (es:=(y :: ys).map PyData.int) (by rfl) (by rfl) (by decide) ef (by rfl) hpop (by rw[List.length_map];omega),List.map_append]
     rfl
    ·rw[List.length_eraseIdx]
     rw[if_pos hj2]
     show (y :: ys).length - 1 < (y :: ys).length
     simp
    ·rw[List.append_assoc]
     exact (List.Perm.append_left ms (gk (List.getElem?_eq_getElem hj2))).trans hp)
 refine⟨ms,β',?_,hp⟩
 rw[aq ew]
 rfl
end RM

end

section
namespace RM
open PySem L2
theorem FE {n:Nat}{l:List Pr}(h8:n<=8)(w:OM.Wn n l):OM.b4 8 (OM.Mem l)=OM.b4 n (OM.Mem l):=by
 refine OM.fQ (OM.c7 _ _) (OM.c7 _ _) fun x=>?_
 rw[OM.aR,OM.aR]
 constructor
 ·rintro⟨_,h⟩;exact⟨w x h,h⟩
 ·rintro⟨h1,h⟩;exact⟨⟨⟨h1.1.1,by omega⟩,h1.2.1,by omega⟩,h⟩
theorem B4 {n:Nat}{l:List Pr}(h1:1<=n)(h8:n<=8)(w:OM.Wn n l)(nd:l.Nodup)(irr:∀a,(a,a)∉l):l.length < 64:=by
 have:=OM.mF (l:=(0,0) :: l) (m:=OM.b6 n) (List.nodup_cons.mpr ⟨irr 0,nd⟩) (fun x hx=>by
  rcases List.mem_cons.mp hx with e |e
  ·subst e;exact OM.a8.mpr ⟨⟨by simp,by simp;omega⟩,by simp,by simp;omega⟩
  ·exact OM.a8.mpr (w x e))
 have hg:(OM.b6 n).length=n * n:=by unfold OM.b6;simp
 have hn:n * n<=64:=Nat.mul_le_mul h8 h8
 rw[hg,List.length_cons] at this
 omega
theorem CO {n:Nat}{l:List Pr}(h8:n<=8)(w:OM.Wn n l):l.all Eh=true:=by
 rw[List.all_eq_true]
 intro p hp
 have:=w p hp
 unfold Eh
 rw[decide_eq_true this.1.1,decide_eq_true (by omega:p.1 < 8),decide_eq_true this.2.1,decide_eq_true (by omega:p.2 < 8)];rfl
theorem lO {n:Nat}{l:List Pr}{d:D}(h8:n<=8)(w:OM.Wn n l)(hl:(OM.b4 n (OM.Mem l)).length < 64)(hd:l9 d=some (l.map ao)):cA d=some (.list ((OM.b4 n (OM.Mem l)).map ao)):=by
 unfold cA
 rw[hd]
 simp only[gj]
 rw[FE h8 w,if_pos ⟨CO h8 w,hl⟩]
def sO (l:List Pr)(p:Pr):List Pr:=(l.filter fun q=>decide (q.1=p.2)).map fun q=>(p.1,q.2)
theorem uQ (l:List Pr)(p:Pr):(sO l p).length<=l.length:=by unfold sO;rw[List.length_map];exact List.length_filter_le ..
theorem rX (l m:List Pr):(m.flatMap (sO l)).length<=m.length * l.length:=by
 induction m with
 |nil=>simp
 |cons p m ih=>
  rw[List.flatMap_cons,List.length_append,List.length_cons,Nat.succ_mul]
  have:=uQ l p
  omega
theorem dE {a b:List D}(h:a.length + b.length<=10000):c6 (.list a) (.list b)=some (.list (a ++ b)):=if_pos (by rw[sizeLine_eq];omega)
noncomputable def iu:List D->FR:=bJ 6 1 eN
theorem wW {n:Nat}{ps:List Pr}(h1:1<=n)(h8:n<=8)(w:OM.Wn n ps)(irr:∀a,¬OM.Tr (OM.Mem ps) a a):iu [.list (ps.map ao)]=.ok (.tuple ((OM.b4 n (OM.Tr (OM.Mem ps))).map ao)) false:=by
 have blen:∀{l:List Pr},OM.CF n ps l->l.length < 64:=fun {l} B=>B4 h1 h8 B.wn (OM.jI B.ris) fun a ha=>irr a (B.sup _ ha)
 show fin (eN [.fz (.list (ps.map ao)),.no,.no,.no,.no,.no] 0)=_
 unfold eN
 have B0:=OM.xy (ps:=ps) w
 have e0:f1 (gv 0) cA [.da (.list (ps.map ao)),.no,.no,.no,.no,.no] 0=.ok (.list ((OM.b4 n (OM.Mem ps)).map ao)) 0:=cc rfl (lO h8 w (blen B0) rfl)
 rw[aq (env':=[.fz (.list (ps.map ao)),.fz (.list ((OM.b4 n (OM.Mem ps)).map ao)),.no,.no,.no,.no]) (β':=0) ?h0]
 case h0=>
  show toS (f1 (gv 0) cA [.da (.list (ps.map ao)),.no,.no,.no,.no,.no] 0) _=_
  rw[e0];rfl
 rw[aq (env':=[.fz (.list (ps.map ao)),.fz (.list ((OM.b4 n (OM.Mem ps)).map ao)),.fz (.int (-1)),.no,.no,.no]) (β':=0) (by rfl)]
 obtain⟨env',β',ew,rfl,x,sz,a,b,rfl⟩:=ke (L:=[] ++ []) (t:=c5 (f2 (gv 2) (f1 (gv 1) c8) (dv true)))
  (m:=aH (aZ 2 [] (f1 (gv 1) c8)) (aH (aZ 3 [] (ba ah)) (aH (cE (.two 4 5) [1] (bh (gv 1)) (aZ 3 ([] ++ ([] ++ [4])) (f2 (gv 3) (aG 2 [5,4] (.two 0 1) (bh (gv 1)) (c5 (f2 (gv 0) (gv 2) (dv false))) (aX (ae (gv 3) (ae (gv 1) ah)))) c6))) (aZ 1 ([] ++ []) (f1 (f2 (gv 1) (gv 3) c6) cA)))))
  (fun k env β=>β=0/\∃(l:List Pr) (sz:Int) (x a b:Sl),env= [.fz (.list (ps.map ao)),.fz (.list (l.map ao)),.fz (.int sz),x,a,b]/\OM.CF n ps l/\(sz= -1\/∃lp,OM.CF n ps lp/\l=OM.jt n lp/\sz=lp.length)/\k=2 * (64 - l.length) + (if sz=l.length then 0 else 1))
  (fun env β=>β=0/\∃(x sz a b:Sl),env= [.fz (.list (ps.map ao)),.fz (.list ((OM.b4 n (OM.Tr (OM.Mem ps))).map ao)),sz,x,a,b])
  (n:=1000) (k:=2 * (64 - (OM.b4 n (OM.Mem ps)).length) + (if (-1:Int)=(OM.b4 n (OM.Mem ps)).length then 0 else 1)) (env:=[.fz (.list (ps.map ao)),.fz (.list ((OM.b4 n (OM.Mem ps)).map ao)),.fz (.int (-1)),.no,.no,.no]) (β:=0)
  (by split <;> omega) ⟨rfl,_,_,_,_,_,rfl,B0,.inl rfl,rfl⟩ (by
   rintro k env β ⟨rfl,l,sz,x,a,b,rfl,B,hsz,rfl⟩
   have hl:=blen B
   have et:c5 (f2 (gv 2) (f1 (gv 1) c8) (dv true)) [.da (.list (ps.map ao)),.da (.list (l.map ao)),.da (.int sz),x.val,a.val,b.val] 0=.ok (!decide (sz=((l.map ao).length:Nat))) 0:=gH (neg:=true) rfl rfl
   rw[List.length_map] at et
   refine⟨_,_,et,?_⟩
   by_cases c:sz=(l.length:Nat)
   ·refine .inl ⟨by rw[decide_eq_true c];rfl,rfl,x,.fz (.int sz),a,b,?_⟩
    rcases hsz with h | ⟨lp,Bp,rfl,h⟩
    ·omega
    ·show [Sl.fz (.list (ps.map ao)),.fz (.list ((OM.jt n lp).map ao)),.fz (.int sz),x,a,b]=_
     rw[OM.Ai Bp (by omega)]
   ·refine .inr ⟨by rw[decide_eq_false c];rfl,?_⟩
    obtain⟨B2,hs⟩:=OM.rz B
    have hl2:=blen B2
    have hge:l.length<=(OM.jt n l).length:=OM.mF (OM.jI B.ris) hs
    have eturn:∃x' a' b':Sl,aH (aZ 2 [] (f1 (gv 1) c8)) (aH (aZ 3 [] (ba ah)) (aH (cE (.two 4 5) [1] (bh (gv 1)) (aZ 3 ([] ++ ([] ++ [4])) (f2 (gv 3) (aG 2 [5,4] (.two 0 1) (bh (gv 1)) (c5 (f2 (gv 0) (gv 2) (dv false))) (aX (ae (gv 3) (ae (gv 1) ah)))) c6))) (aZ 1 ([] ++ []) (f1 (f2 (gv 1) (gv 3) c6) cA)))) [.fz (.list (ps.map ao)),.fz (.list (l.map ao)),.fz (.int sz),x,a,b] 0
      =.nx [.fz (.list (ps.map ao)),.fz (.list ((OM.jt n l).map ao)),.fz (.int (l.length:Nat)),x',a',b'] 0:=by
     rw[aq (env':=[.fz (.list (ps.map ao)),.fz (.list (l.map ao)),.fz (.int (l.length:Nat)),x,a,b]) (β':=0) ?g1]
     case g1=>
      show SO.nx [.fz (.list (ps.map ao)),.fz (.list (l.map ao)),.fz (.int ((l.map ao).length:Nat)),x,a,b] 0=_
      rw[List.length_map]
     have e3:ba ah [.da (.list (ps.map ao)),.da (.list (l.map ao)),.da (.int (l.length:Nat)),x.val,a.val,b.val] 0=.ok (.list []) 0:=eM rfl (by simp)
     rw[aq (env':=[.fz (.list (ps.map ao)),.fz (.list (l.map ao)),.fz (.int (l.length:Nat)),.fz (.list []),a,b]) (β':=0) ?g2]
     case g2=>
      show toS (ba ah [.da (.list (ps.map ao)),.da (.list (l.map ao)),.da (.int (l.length:Nat)),x.val,a.val,b.val] 0) _=_
      rw[e3];rfl
     obtain⟨env2,β2,ef,rfl,a2,b2,rfl⟩:=cv (t:=.two 4 5) (m:=aZ 3 ([] ++ ([] ++ [4])) (f2 (gv 3) (aG 2 [5,4] (.two 0 1) (bh (gv 1)) (c5 (f2 (gv 0) (gv 2) (dv false))) (aX (ae (gv 3) (ae (gv 1) ah)))) c6)) (ds:=l.map ao) (k:=0)
      (fun i env β=>β=0/\∃a b:Sl,env= [.fz (.list (ps.map ao)),.fz (.list (l.map ao)),.fz (.int (l.length:Nat)),.fz (.list (((l.take i).flatMap (sO l)).map ao)),a,b]) (env:=[.fz (.list (ps.map ao)),.fz (.list (l.map ao)),.fz (.int (l.length:Nat)),.fz (.list []),a,b]) (β:=0) ⟨rfl,a,b,rfl⟩ (by
       rintro i d env β hi ⟨rfl,a,b,rfl⟩
       rw[List.getElem?_map] at hi
       cases q:l[i]? with
       |none=>rw[q] at hi;cases hi
       |some p=>
        rw[q] at hi
        cases hi
        have hil:i < l.length:=(List.getElem?_eq_some_iff.mp q).1
        refine⟨[.fz (.list (ps.map ao)),.fz (.list (l.map ao)),.fz (.int (l.length:Nat)),.fz (.list (((l.take (0 + i)).flatMap (sO l)).map ao)),.fz (.int p.1),.fz (.int p.2)],rfl,[.fz (.list (ps.map ao)),.fz (.list (l.map ao)),.fz (.int (l.length:Nat)),.fz (.list (((l.take (0 + i + 1)).flatMap (sO l)).map ao)),.fz (.int p.1),.fz (.int p.2)],0,?_,rfl,_,_,rfl⟩
        have ec:aG 2 [5,4] (.two 0 1) (bh (gv 1)) (c5 (f2 (gv 0) (gv 2) (dv false))) (aX (ae (gv 3) (ae (gv 1) ah))) [.da (.list (ps.map ao)),.da (.list (l.map ao)),.da (.int (l.length:Nat)),.da (.list (((l.take (0 + i)).flatMap (sO l)).map ao)),.da (.int p.1),.da (.int p.2)] 0=.ok (.list ((sO l p).map ao)) 0:=by
         rw[iH (l:=l) (e:=ao) (fun q=>decide (q.1=p.2)) (fun q=>ao (p.1,q.2)) rfl (by omega) (β1:=0)]
         ·unfold sO;rw[List.map_map];rfl
         ·intro q hq
          refine⟨_,rfl,gH (neg:=false) (i:=q.1) (j:=p.2) rfl rfl,fun _=>?_⟩
          exact kJ (ds:=[.int p.1,.int q.2]) rfl (by simp)
        have hk:(l.take (0 + i)).length<=63:=by rw[List.length_take];omega
        have hfl:=rX l (l.take (0 + i))
        have hfl2:(l.take (0 + i)).length * l.length<=63 * 63:=Nat.mul_le_mul hk (by omega)
        have hm1:=uQ l p
        have e5:f2 (gv 3) (aG 2 [5,4] (.two 0 1) (bh (gv 1)) (c5 (f2 (gv 0) (gv 2) (dv false))) (aX (ae (gv 3) (ae (gv 1) ah)))) c6 [.da (.list (ps.map ao)),.da (.list (l.map ao)),.da (.int (l.length:Nat)),.da (.list (((l.take (0 + i)).flatMap (sO l)).map ao)),.da (.int p.1),.da (.int p.2)] 0=.ok (.list (((l.take (0 + i + 1)).flatMap (sO l)).map ao)) 0:=by
         refine aA rfl ec ?_
         rw[dE (by rw[List.length_map,List.length_map];omega),<-List.map_append]
         have:l.take (0 + i + 1)=l.take (0 + i) ++ [p]:=by rw[Nat.zero_add,List.take_add_one,q];rfl
         rw[this,List.flatMap_append,List.flatMap_cons,List.flatMap_nil,List.append_nil]
        show toS (f2 (gv 3) (aG 2 [5,4] (.two 0 1) (bh (gv 1)) (c5 (f2 (gv 0) (gv 2) (dv false))) (aX (ae (gv 3) (ae (gv 1) ah)))) c6 [.da (.list (ps.map ao)),.da (.list (l.map ao)),.da (.int (l.length:Nat)),.da (.list (((l.take (0 + i)).flatMap (sO l)).map ao)),.da (.int p.1),.da (.int p.2)] 0) _=_
        rw[e5];rfl)
     rw[Nat.zero_add,List.length_map,List.take_of_length_le (Nat.le_refl _)] at ef
     rw[aq (env':=[.fz (.list (ps.map ao)),.fz (.list (l.map ao)),.fz (.int (l.length:Nat)),.fz (.list ((l.flatMap (sO l)).map ao)),a2,b2]) (β':=0) ?g3]
     case g3=>exact ef
     have hfl:=rX l l
     have hfl2:l.length * l.length<=63 * 63:=Nat.mul_le_mul (by omega) (by omega)
     have e6:f1 (f2 (gv 1) (gv 3) c6) cA [.da (.list (ps.map ao)),.da (.list (l.map ao)),.da (.int (l.length:Nat)),.da (.list ((l.flatMap (sO l)).map ao)),a2.val,b2.val] 0=.ok (.list ((OM.jt n l).map ao)) 0:=by
      refine cc (x:=.list ((l ++ OM.more l).map ao)) (aA rfl rfl ?_) (lO h8 (OM.zw B) hl2 rfl)
      rw[dE (by rw[List.length_map,List.length_map];omega),<-List.map_append];rfl
     refine⟨.fz (.list ((l.flatMap (sO l)).map ao)),a2,b2,?_⟩
     show toS (f1 (f2 (gv 1) (gv 3) c6) cA [.da (.list (ps.map ao)),.da (.list (l.map ao)),.da (.int (l.length:Nat)),.da (.list ((l.flatMap (sO l)).map ao)),a2.val,b2.val] 0) _=_
     rw[e6];rfl
    obtain⟨x',a',b',et2⟩:=eturn
    refine⟨_,_,_,et2,?_,rfl,_,_,_,_,_,rfl,B2,.inr ⟨l,B,rfl,rfl⟩,rfl⟩
    rw[if_neg c]
    split <;> omega)
 rw[aq ew]
 rfl
end RM

end

section
namespace RM
open PySem L2
def sI (ms:List Int)(ps:List Pr):Prop:=∀p,p∈ps->∃i j:Nat,i < j/\ms[i]? =some p.1/\ms[j]? =some p.2
theorem mH {α:Type}:∀{l:List α} {i j:Nat} {x:α},l.Nodup->l[i]? =some x->l[j]? =some x->i=j
 | [],_,_,_,_,h,_=>by simp at h
 |y :: l,0,0,_,_,_,_=>rfl
 |y :: l,0,j + 1,x,nd,h1,h2=>by
  simp at h1
  subst h1
  exact absurd (List.mem_of_getElem? (by simpa using h2)) (List.nodup_cons.mp nd).1
 |y :: l,i + 1,0,x,nd,h1,h2=>by
  simp at h2
  subst h2
  exact absurd (List.mem_of_getElem? (by simpa using h1)) (List.nodup_cons.mp nd).1
 |y :: l,i + 1,j + 1,x,nd,h1,h2=>by
  rw[mH (l:=l) (i:=i) (j:=j) (List.nodup_cons.mp nd).2 (by simpa using h1) (by simpa using h2)]
theorem yx {ms:List Int}{ps:List Pr}(nd:ms.Nodup)(h:sI ms ps){a b:Int}(t:OM.Tr (OM.Mem ps) a b):∃i j:Nat,i < j/\ms[i]? =some a/\ms[j]? =some b:=by
 refine t.least (S:=fun a b=>∃i j:Nat,i < j/\ms[i]? =some a/\ms[j]? =some b) (fun a b r=>h _ r) ?_
 rintro a b c ⟨i,j,hij,h1,h2⟩ ⟨k,l,hkl,h3,h4⟩
 have:=mH nd h2 h3
 exact⟨i,l,by omega,h1,h4⟩
theorem wU {ms:List Int}{ps:List Pr}(nd:ms.Nodup)(h:sI ms ps)(a:Int):¬OM.Tr (OM.Mem ps) a a:=fun t=>by
 obtain⟨i,j,hij,h1,h2⟩:=yx nd h t
 have:=mH nd h1 h2
 omega
def dt (n:Nat):List Int:=(List.range n).map fun (k:Nat)=>(k:Int)
theorem cF (n:Nat):(dt n).length=n:=by unfold dt;simp
theorem cG {n:Nat}{x:Int}:x∈dt n↔0<=x/\x < n:=by
 unfold dt
 rw[List.mem_map]
 constructor
 ·rintro⟨k,hk,rfl⟩
  have:=List.mem_range.mp hk
  omega
 ·intro h
  exact⟨x.toNat,List.mem_range.mpr (by omega),by omega⟩
theorem oX (n:Nat):(dt n).Nodup:=by
 unfold dt
 rw[List.nodup_iff_pairwise_ne,List.pairwise_map]
 exact (List.nodup_iff_pairwise_ne.mp List.nodup_range).imp fun {a b} h e=>h (by omega)
theorem jJ (n:Nat):bG 0 n=(dt n).map PyData.int:=by
 unfold bG dt
 rw[List.map_map]
 refine List.map_congr_left fun k _=>?_
 show PyData.int (0 + (k:Int))=_
 rw[Int.zero_add];rfl
theorem gq {lo:Int}{n i:Nat}{d:D}(h:(bG lo n)[i]? =some d):i < n/\d=.int (lo + i):=by
 unfold bG at h
 rw[List.getElem?_map] at h
 cases q:(List.range n)[i]? with
 |none=>rw[q] at h;cases h
 |some j=>
  rw[q] at h
  cases h
  obtain⟨hi,ej⟩:=List.getElem?_eq_some_iff.mp q
  rw[List.length_range] at hi
  rw[List.getElem_range] at ej
  subst ej
  exact⟨hi,rfl⟩
theorem jg {n:Nat}(h:n<=1000):bS (.int n)=some (.list ((dt n).map PyData.int)):=by
 unfold bS
 dsimp only
 rw[if_pos ⟨by omega,by omega⟩,Int.toNat_natCast,jJ]
theorem cz {fa:VF D}{vs:List Nv}{β β1:Int}{n:Nat}(h:fa vs β=.ok (.int n) β1)(hn:n<=1000):bF fa vs β=.ok (bG 0 n) β1:=by
 unfold bF
 rw[h]
 simp only[j6]
 rw[if_pos (lz (by omega) (by omega)),Int.toNat_natCast]
theorem xY {fa fb:VF D}{vs:List Nv}{β β1 β2:Int}{i j:Int}(h:fa vs β=.ok (.int i) β1)(h':fb vs β1=.ok (.int j) β2)(hi:0<=i/\i<=1000)(hj:0<=j/\j<=1000):pC fa fb vs β=.ok (bG i (j - i).toNat) β2:=by
 unfold pC
 rw[h]
 simp only[j6]
 rw[h']
 simp only[j6]
 rw[if_pos (by rw[lz (by omega) (by omega),lz (by omega) (by omega)];rfl)]
theorem b9 {t:Tg}{L:List Nat}{fi:VF (List D)}{m:SF}{env:En}{β β1:Int}{ds:List D}(h:fi (vl env) β=.ok ds β1):cE t L fi m env β=lV t m ds (a7 L env) β1:=by unfold cE;rw[h];rfl
noncomputable def ml:List D->Int->FB:=l0 8 1 (fI iu bZ g7)
theorem xC {n:Nat}{ms:List Int}{ps:List Pr}(h1:1<=n)(h8:n<=8)(hp:ms.Perm (dt n))(ha:sI ms ps):OM.Wn n ps/\(∀a,¬OM.Tr (OM.Mem ps) a a)/\OM.Ord n (OM.b4 n (OM.Tr (OM.Mem ps))):=by
 have nd:ms.Nodup:=hp.nodup_iff.mpr (oX n)
 have w:OM.Wn n ps:=fun p hm=>by
  obtain⟨i,j,_,e1,e2⟩:=ha p hm
  have m1:=cG.mp (hp.mem_iff.mp (List.mem_of_getElem? e1))
  have m2:=cG.mp (hp.mem_iff.mp (List.mem_of_getElem? e2))
  exact⟨m1,m2⟩
 have ir:=fun a=>wU nd ha a
 exact⟨w,ir,OM.C5 h1 h8 w ir⟩
theorem fo {m:Nat}(h:1<=m)(h2:m<=1000)(β:Int):∃j:Nat,j < m/\bZ [.int m] β=.ok (.int (j:Int)) false (β / m):=by
 refine⟨(β % m).toNat,?_,?_⟩
 ·have h0:=Int.emod_nonneg β (b:=(m:Int)) (by omega)
  have h3:=Int.emod_lt_of_pos β (b:=(m:Int)) (by omega)
  omega
 ·rw[qj (by omega) (by omega)]
  have h0:=Int.emod_nonneg β (b:=(m:Int)) (by omega)
  rw[show ((β % m).toNat:Int)=β % m by omega]
theorem yD {most:Nat}(hm1:1<=most)(hm8:most<=8)(β:Int):∃(n:Nat) (l:List Pr) (β':Int),ml [.int most] β=.ok (aK n l) false β'/\OM.Ord n l/\n<=most:=by
 obtain⟨j,hj,ej⟩:=fo hm1 (by omega) β
 show ∃(n:Nat) (l:List Pr) (β':Int),wm (fI iu bZ g7 [.bx,.fz (.int most),.no,.no,.no,.no,.no,.no] β)=.ok (aK n l) false β'/\OM.Ord n l/\n<=most
 unfold fI
 generalize hβ1:β / (most:Int)=β1 at ej
 have n8:1 + j<=8:=by omega
 have e1:f2 (cst (.int 1)) (hZ 0 bZ (ae (gv 1) ah)) bW [Nv.bx,.da (.int most),.no,.no,.no,.no,.no,.no] β=.ok (.int ((1 + j:Nat):Int)) β1:=by
  refine aA (x:=.int 1) rfl (dF (by rfl) rfl ej) ?_
  show some (PyData.int (1 + (j:Int)))=_
  rw[show ((1 + j:Nat):Int)=1 + (j:Int) by omega]
 rw[aq (env':=[.bx,.fz (.int most),.fz (.int ((1 + j:Nat):Int)),.no,.no,.no,.no,.no]) (β':=β1) ?g1]
 case g1=>
  show toS (f2 (cst (.int 1)) (hZ 0 bZ (ae (gv 1) ah)) bW [Nv.bx,.da (.int most),.no,.no,.no,.no,.no,.no] β) _=_
  rw[e1];rfl
 generalize hn:1 + j=n at n8
 have n1:1<=n:=by omega
 obtain⟨ms,β2,em,hp⟩:=uT (dt n) (by rw[cF];omega) β1
 have hml:ms.length=n:=by rw[hp.length_eq,cF]
 have e2:hZ 0 g7 (ae (f1 (gv 2) bS) ah) [Nv.bx,.da (.int most),.da (.int n),.no,.no,.no,.no,.no] β1=.ok (.list (ms.map PyData.int)) β2:=by
  refine dF (ds:=[.list ((dt n).map PyData.int)]) (b:=true) (β1:=β1) (by rfl) ?_ em
  rw[cu,cc (x:=.int n) (d:=.list ((dt n).map PyData.int)) (β1:=β1) rfl (jg (by omega))];rfl
 rw[aq (env':=[.bx,.fz (.int most),.fz (.int n),.fz (.list (ms.map PyData.int)),.no,.no,.no,.no]) (β':=β2) ?g2]
 case g2=>
  show toS (hZ 0 g7 (ae (f1 (gv 2) bS) ah) [Nv.bx,.da (.int most),.da (.int n),.no,.no,.no,.no,.no] β1) _=_
  rw[e2];rfl
 obtain⟨q,hq,eq⟩:=fo (m:=4) (by omega) (by omega) β2
 obtain⟨th,hth,hthv⟩:∃th:Nat,([2,3,4,7]:List Nat)[q]? =some th/\1<=th/\th<=7:=by
  rcases (show q=0\/q=1\/q=2\/q=3 by omega) with rfl |rfl |rfl |rfl
  ·exact⟨2,rfl,by omega,by omega⟩
  ·exact⟨3,rfl,by omega,by omega⟩
  ·exact⟨4,rfl,by omega,by omega⟩
  ·exact⟨7,rfl,by omega,by omega⟩
 generalize hβ3:β2 / ((4:Nat):Int)=β3 at eq
 have e3:f2 (ba (ae (cst (.int 2)) (ae (cst (.int 3)) (ae (cst (.int 4)) (ae (cst (.int 7)) ah))))) (hZ 0 bZ (ae (cst (.int 4)) ah)) bz [Nv.bx,.da (.int most),.da (.int n),.da (.list (ms.map PyData.int)),.no,.no,.no,.no] β2=.ok (.int th) β3:=by
  refine aA (x:=.list (([2,3,4,7]:List Nat).map fun (k:Nat)=>PyData.int (k:Int))) (y:=.int q) (eM rfl (by simp)) (dF (ds:=[.int 4]) (by rfl) rfl eq) ?_
  show jA (([2,3,4,7]:List Nat).map fun (k:Nat)=>PyData.int (k:Int)) (q:Int)=_
  rw[gz,i8 hth];rfl
 rw[aq (env':=[.bx,.fz (.int most),.fz (.int n),.fz (.list (ms.map PyData.int)),.fz (.int th),.no,.no,.no]) (β':=β3) ?g3]
 case g3=>
  show toS (f2 (ba (ae (cst (.int 2)) (ae (cst (.int 3)) (ae (cst (.int 4)) (ae (cst (.int 7)) ah))))) (hZ 0 bZ (ae (cst (.int 4)) ah)) bz [Nv.bx,.da (.int most),.da (.int n),.da (.list (ms.map PyData.int)),.no,.no,.no,.no] β2) _=_
  rw[e3];rfl
 have e4:ba ah [Nv.bx,.da (.int most),.da (.int n),.da (.list (ms.map PyData.int)),.da (.int th),.no,.no,.no] β3=.ok (.list []) β3:=eM rfl (by simp)
 rw[aq (env':=[.bx,.fz (.int most),.fz (.int n),.fz (.list (ms.map PyData.int)),.fz (.int th),.ow (.list []),.no,.no]) (β':=β3) ?g4]
 case g4=>
  show toS (ba ah [Nv.bx,.da (.int most),.da (.int n),.da (.list (ms.map PyData.int)),.da (.int th),.no,.no,.no] β3) _=_
  rw[e4];rfl
 obtain⟨env',β',ef,ps,a,b,rfl,hal,hpl⟩:=cv (t:=.nm 6) (m:=cE (.nm 7) (([] ++ []) ++ []) (pC (f2 (gv 6) (cst (.int 1)) bW) (gv 2))
   (ko (([4] ++ []) ++ []) (c5 (f2 (hZ 0 bZ (ae (gv 4) ah)) (cst (.int 0)) (dv false)))
   (l7 5 (([] ++ []) ++ (([] ++ []) ++ [])) (aX (ae (f2 (gv 3) (gv 6) bz) (ae (f2 (gv 3) (gv 7) bz) ah)))) lR)) (ds:=bG 0 n) (k:=0)
  (fun i env β=>∃(ps:List Pr) (a b:Sl),env= [.bx,.fz (.int most),.fz (.int n),.fz (.list (ms.map PyData.int)),.fz (.int th),.ow (.list (ps.map ao)),a,b]/\sI ms ps/\ps.length<=8 * i)
  (env:=[.bx,.fz (.int most),.fz (.int n),.fz (.list (ms.map PyData.int)),.fz (.int th),.ow (.list []),.no,.no]) (β:=β3) ⟨[],.no,.no,rfl,fun p hp=>(by cases hp),by simp⟩ (by
   rintro i d env β hi ⟨ps,a,b,rfl,hal,hpl⟩
   obtain⟨hin,rfl⟩:=gq hi
   refine⟨[.bx,.fz (.int most),.fz (.int n),.fz (.list (ms.map PyData.int)),.fz (.int th),.ow (.list (ps.map ao)),.fz (.int (0 + (i:Int))),b],rfl,?_⟩
   have er:pC (f2 (gv 6) (cst (.int 1)) bW) (gv 2) [Nv.bx,.da (.int most),.da (.int n),.da (.list (ms.map PyData.int)),.da (.int th),.da (.list (ps.map ao)),.da (.int (0 + (i:Int))),b.val] β=.ok (bG (0 + (i:Int) + 1) ((n:Int) - (0 + (i:Int) + 1)).toNat) β:=xY rfl rfl ⟨by omega,by omega⟩ ⟨by omega,by omega⟩
   rw[b9 (env:=[.bx,.fz (.int most),.fz (.int n),.fz (.list (ms.map PyData.int)),.fz (.int th),.ow (.list (ps.map ao)),.fz (.int (0 + (i:Int))),b]) er]
   obtain⟨env',β',ef,qs,b,rfl,hal2,hql⟩:=cv (t:=.nm 7) (m:=ko (([4] ++ []) ++ []) (c5 (f2 (hZ 0 bZ (ae (gv 4) ah)) (cst (.int 0)) (dv false)))
     (l7 5 (([] ++ []) ++ (([] ++ []) ++ [])) (aX (ae (f2 (gv 3) (gv 6) bz) (ae (f2 (gv 3) (gv 7) bz) ah)))) lR) (ds:=bG (0 + (i:Int) + 1) ((n:Int) - (0 + (i:Int) + 1)).toNat) (k:=0)
    (fun k env β=>∃(qs:List Pr) (b:Sl),env= [.bx,.fz (.int most),.fz (.int n),.fz (.list (ms.map PyData.int)),.fz (.int th),.ow (.list (qs.map ao)),.fz (.int (0 + (i:Int))),b]/\sI ms qs/\qs.length<=8 * i + k)
    (env:=[.bx,.fz (.int most),.fz (.int n),.fz (.list (ms.map PyData.int)),.fz (.int th),.ow (.list (ps.map ao)),.fz (.int (0 + (i:Int))),b]) (β:=β) ⟨ps,b,rfl,hal,by omega⟩ (by
     rintro k d env β hk ⟨qs,b,rfl,hal,hql⟩
     obtain⟨hkn,rfl⟩:=gq hk
     have hkn:i + 1 + k < n:=by omega
     refine⟨[.bx,.fz (.int most),.fz (.int n),.fz (.list (ms.map PyData.int)),.fz (.int th),.ow (.list (qs.map ao)),.fz (.int (0 + (i:Int))),.fz (.int (0 + (i:Int) + 1 + (k:Int)))],rfl,?_⟩
     obtain⟨z,hz,ez⟩:=fo hthv.1 (by omega) β
     have et:c5 (f2 (hZ 0 bZ (ae (gv 4) ah)) (cst (.int 0)) (dv false)) [Nv.bx,.da (.int most),.da (.int n),.da (.list (ms.map PyData.int)),.da (.int th),.da (.list (qs.map ao)),.da (.int (0 + (i:Int))),.da (.int (0 + (i:Int) + 1 + (k:Int)))] β=.ok (decide ((z:Int)=0)) (β / th):=gH (neg:=false) (dF (ds:=[.int th]) (by rfl) rfl ez) rfl
     by_cases c:(z:Int)=0
     ·rw[decide_eq_true c] at et
      have h1:i < ms.length:=by omega
      have h2:i + 1 + k < ms.length:=by omega
      refine⟨[.bx,.fz (.int most),.fz (.int n),.fz (.list (ms.map PyData.int)),.fz (.int th),.ow (.list ((qs ++ [(ms[i],ms[i + 1 + k])]).map ao)),.fz (.int (0 + (i:Int))),.fz (.int (0 + (i:Int) + 1 + (k:Int)))],β / th,?_,qs ++ [(ms[i],ms[i + 1 + k])],_,rfl,?_,?_⟩
      ·rw[eV et]
       have ep:aX (ae (f2 (gv 3) (gv 6) bz) (ae (f2 (gv 3) (gv 7) bz) ah)) [Nv.bx,.da (.int most),.da (.int n),.da (.list (ms.map PyData.int)),.da (.int th),.da (.list (qs.map ao)),.da (.int (0 + (i:Int))),.da (.int (0 + (i:Int) + 1 + (k:Int)))] (β / th)=.ok (ao (ms[i],ms[i + 1 + k])) (β / th):=by
        refine kJ (ds:=[.int ms[i],.int ms[i + 1 + k]]) ?_ (by simp)
        have a1:f2 (gv 3) (gv 6) bz [Nv.bx,.da (.int most),.da (.int n),.da (.list (ms.map PyData.int)),.da (.int th),.da (.list (qs.map ao)),.da (.int (0 + (i:Int))),.da (.int (0 + (i:Int) + 1 + (k:Int)))] (β / th)=.ok (.int ms[i]) (β / th):=by
         refine aA rfl rfl ?_
         show jA (ms.map PyData.int) (0 + (i:Int))=_
         rw[Int.zero_add,gz,nZ h1];rfl
        have a2:f2 (gv 3) (gv 7) bz [Nv.bx,.da (.int most),.da (.int n),.da (.list (ms.map PyData.int)),.da (.int th),.da (.list (qs.map ao)),.da (.int (0 + (i:Int))),.da (.int (0 + (i:Int) + 1 + (k:Int)))] (β / th)=.ok (.int ms[i + 1 + k]) (β / th):=by
         refine aA rfl rfl ?_
         show jA (ms.map PyData.int) (0 + (i:Int) + 1 + (k:Int))=_
         rw[show (0 + (i:Int) + 1 + (k:Int))=((i + 1 + k:Nat):Int) by omega,gz,nZ h2];rfl
        rw[cu,a1]
        dsimp only[R.bnd]
        rw[cu,a2];rfl
       have:=p8 (i:=5) (L:=([] ++ []) ++ (([] ++ []) ++ [])) (env:=[.bx,.fz (.int most),.fz (.int n),.fz (.list (ms.map PyData.int)),.fz (.int th),.ow (.list (qs.map ao)),.fz (.int (0 + (i:Int))),.fz (.int (0 + (i:Int) + 1 + (k:Int)))]) (ds:=qs.map ao) (by rfl) ep (by rfl) (by rw[List.length_map];omega)
       rw[List.map_append]
       exact this
      ·intro p hp
       rcases List.mem_append.mp hp with hp |hp
       ·exact hal p hp
       ·have:p=(ms[i],ms[i + 1 + k]):=by simpa using hp
        subst this
        exact⟨i,i + 1 + k,by omega,List.getElem?_eq_getElem h1,List.getElem?_eq_getElem h2⟩
      ·rw[List.length_append];simp;omega
     ·rw[decide_eq_false c] at et
      refine⟨_,_,by rw[fF et];rfl,qs,_,rfl,hal,by omega⟩)
   have hlen:(bG (0 + (i:Int) + 1) ((n:Int) - (0 + (i:Int) + 1)).toNat).length<=7:=by rw[b8];omega
   exact⟨_,_,ef,qs,_,b,rfl,hal2,by omega⟩)
 rw[aq (env':=[.bx,.fz (.int most),.fz (.int n),.fz (.list (ms.map PyData.int)),.fz (.int th),.ow (.list (ps.map ao)),a,b]) (β':=β') ?g5]
 case g5=>
  rw[b9 (env:=[.bx,.fz (.int most),.fz (.int n),.fz (.list (ms.map PyData.int)),.fz (.int th),.ow (.list []),.no,.no]) (cz (n:=n) rfl (by omega))]
  exact ef
 obtain⟨w,ir,O⟩:=xC n1 n8 hp hal
 refine⟨n,OM.b4 n (OM.Tr (OM.Mem ps)),β',?_,O,by omega⟩
 have e9:aX (ae (gv 2) (ae (aE iu (ae (gv 5) ah)) ah)) [Nv.bx,.da (.int most),.da (.int n),.da (.list (ms.map PyData.int)),.da (.int th),.da (.list (ps.map ao)),a.val,b.val] β'=.ok (aK n (OM.b4 n (OM.Tr (OM.Mem ps)))) β':=by
  refine kJ (ds:=[.int n,.tuple ((OM.b4 n (OM.Tr (OM.Mem ps))).map ao)]) ?_ (by simp)
  have a1:aE iu (ae (gv 5) ah) [Nv.bx,.da (.int most),.da (.int n),.da (.list (ms.map PyData.int)),.da (.int th),.da (.list (ps.map ao)),a.val,b.val] β'=.ok (.tuple ((OM.b4 n (OM.Tr (OM.Mem ps))).map ao)) β':=aP rfl (wW n1 n8 w ir)
  rw[cu]
  show (R.ok (PyData.int n) β').bnd _=_
  dsimp only[R.bnd]
  rw[cu,a1];rfl
 show wm (toS (aX (ae (gv 2) (ae (aE iu (ae (gv 5) ah)) ah)) [Nv.bx,.da (.int most),.da (.int n),.da (.list (ms.map PyData.int)),.da (.int th),.da (.list (ps.map ao)),a.val,b.val] β') _)=_
 rw[e9];rfl
end RM

end

section
namespace RM
open PySem L2
theorem uJ (neg:Bool)(i j:Int):dv neg (.int i) (.int j)=some (.bool (if neg then !decide (i=j) else decide (i=j))):=rfl
theorem vW {fa fb:VF D}{vs:List Nv}{β:Int}{a b:Bool}(h:fa vs β=.ok (.bool a) β)(h':fb vs β=.ok (.bool b) β):fg fa fb vs β=.ok (.bool (a && b)) β:=by
 unfold fg
 rw[h]
 dsimp only[R.bnd]
 cases a with
 |true=>exact h'
 |false=>rfl
theorem h9 {fa fb:VF D}{vs:List Nv}{β:Int}{a b:Int}(h:fa vs β=.ok (.int a) β)(h':fb vs β=.ok (.int b) β):aX (ae fa (ae fb ah)) vs β=.ok (ao (a,b)) β:=by
 refine kJ (ds:=[.int a,.int b]) ?_ (by simp)
 rw[cu,h]
 dsimp only[R.bnd]
 rw[cu,h'];rfl
theorem Hu {n:Nat}{l:List Pr}{fa:VF D}{vs:List Nv}{β:Int}(h:fa vs β=.ok (aK n l) β):f2 fa (cst (.int 1)) bz vs β=.ok (.tuple (l.map ao)) β:=aA h rfl rfl
theorem Hf {n:Nat}{l:List Pr}{fa:VF D}{vs:List Nv}{β:Int}(h:fa vs β=.ok (aK n l) β):f2 fa (cst (.int 0)) bz vs β=.ok (.int n) β:=aA h rfl rfl
def pG:List D->FR:=bJ 1 1 fP
theorem A5 {n:Nat}(h1:1<=n)(h8:n<=8):pG [.int n]=.ok (.list ((OM.b6 n).map ao)) true:=by
 have hm:n * n<=64:=Nat.mul_le_mul h8 h8
 have e:aG 1 [0] (.nm 0) (bF (f2 (gv 0) (gv 0) dw)) gy (aX (ae (f2 (gv 0) (gv 1) xN) (ae (f2 (gv 0) (gv 1) j5) ah))) [.da (.int n)] 0=.ok (.list ((OM.b6 n).map ao)) 0:=by
  have hi:bF (f2 (gv 0) (gv 0) dw) [.da (.int n)] 0=.ok ((List.range (n * n)).map fun (k:Nat)=>PyData.int (0 + (k:Int))) 0:=by
   refine cz (n:=n * n) (aA (x:=.int n) (y:=.int n) rfl rfl ?_) (by omega)
   rw[lC ⟨by omega,by omega⟩];rfl
  rw[cq (l:=List.range (n * n)) (e:=fun (k:Nat)=>PyData.int (0 + (k:Int))) (fun k=>ao (((k / n:Nat):Int),((k % n:Nat):Int))) hi (by rw[List.length_range];omega) fun k hk=>⟨_,rfl,?_⟩]
  ·unfold OM.b6;rw[List.map_map];rfl
  ·refine h9 (aA (x:=.int (0 + (k:Int))) (y:=.int n) rfl rfl ?_) (aA (x:=.int (0 + (k:Int))) (y:=.int n) rfl rfl ?_)
   ·rw[uU (by omega) (by omega),Int.zero_add];rfl
   ·rw[lI (by omega),Int.zero_add];rfl
 show fin (fP [.fz (.int n)] 0)=_
 unfold fP
 rw[sk,show vl [Sl.fz (.int n)]= [.da (.int n)] from rfl,e];rfl
theorem eT (n:Nat):(OM.b6 n).length=n * n:=by unfold OM.b6;simp
theorem gM {fa:VF D}{vs:List Nv}{β:Int}{c:Bool}(h:fa vs β=.ok (.bool c) β):jT fa vs β=.ok c β:=by rw[p0,h];rfl
theorem mI {t:Tg}{m:SF}{ds:List D}(g:Nat->Bool)(r:D)(Pv:En->Int->Prop):∀{es:List D} {k:Nat} {env:En} {β:Int},ds.drop k=es->Pv env β->
  (∀i d env β,ds[i]? =some d->Pv env β->∃env1,fq t d env=some env1/\((g i=true/\∃β2,m env1 β=.rt r false β2)\/(g i=false/\∃env2 β2,m env1 β=.nx env2 β2/\Pv env2 β2)))->
  ((∃i,k<=i/\i < ds.length/\g i=true)/\∃β',lV t m es env β=.rt r false β')\/((∀i,k<=i->i < ds.length->g i=false)/\∃env' β',lV t m es env β=.nx env' β'/\Pv env' β')
 | [],k,env,β,hd,h0,_=>.inr ⟨fun i hi hl=>by
   have:ds.length<=k:=by
    have:=congrArg List.length hd
    rw[List.length_drop] at this
    simp at this;omega
   omega,env,β,rfl,h0⟩
 |d :: es,k,env,β,hd,h0,hs=>by
  have hk:k < ds.length:=by
   have:=congrArg List.length hd
   rw[List.length_drop] at this
   simp at this;omega
  rw[List.drop_eq_getElem_cons hk] at hd
  obtain⟨e1,e2⟩:=List.cons.inj hd
  obtain⟨env1,q1,q⟩:=hs k d env β (by rw[List.getElem?_eq_getElem hk,e1]) h0
  unfold lV
  rw[q1]
  dsimp only
  rcases q with⟨hg,β2,q⟩ | ⟨hg,env2,β2,q,h1⟩
  ·rw[q]
   exact .inl ⟨⟨k,Nat.le_refl _,hk,hg⟩,β2,rfl⟩
  ·rw[q]
   dsimp only
   rcases mI g r Pv (es:=es) (k:=k + 1) e2 h1 hs with⟨⟨i,hi,hl,hgi⟩,h⟩ | ⟨h,h'⟩
   ·exact .inl ⟨⟨i,by omega,hl,hgi⟩,h⟩
   ·refine .inr ⟨fun i hi hl=>?_,h'⟩
    by_cases z:i=k
    ·subst z;exact hg
    ·exact h i (by omega) hl
end RM

end

section
namespace RM
open PySem L2
theorem yq {c:Nat}:∀(ts:List Str) (k:Nat) (acc:Str),(∀t∈ts,t.length + 2<=c)->(textFrom k acc ts).length<=acc.length + c * ts.length
 | [],k,acc,_=>by show acc.length<=_;omega
 |t :: r,k,acc,h=>by
  have ih:=yq r (k + 1) (acc ++ (if k > 0 then ", " else "":String) ++ t) fun u hu=>h u (List.mem_cons_of_mem _ hu)
  have e:(acc ++ (if k > 0 then ", " else "":String) ++ t).length=acc.length + (if k > 0 then 2 else 0) + t.length:=by
   rw[strLen_append,strLen_append]
   split <;> rfl
  rw[e] at ih
  have ht:=h t (List.mem_cons_self ..)
  show (textFrom (k + 1) _ r).length<=_
  have e2:c * (t :: r).length=c * r.length + c:=by rw[List.length_cons,Nat.mul_succ]
  rw[e2]
  have:(if k > 0 then 2 else 0:Nat)<=2:=by split <;> omega
  omega
end RM

end

section
namespace RM
open PySem L2
theorem yw {t u:VF Bool}{vs:List Nv}{β:Int}{a b:Bool}(h:t vs β=.ok a β)(h':u vs β=.ok b β):yL t u vs β=.ok (a && b) β:=by
 rw[C9,h];dsimp only[R.bnd]
 cases a with
 |true=>rw[if_pos rfl,h'];rfl
 |false=>rfl
theorem bC {t:VF Bool}{vs:List Nv}{β:Int}{a:Bool}(h:t vs β=.ok a β):lK t vs β=.ok (!a) β:=by rw[pY,h];rfl
theorem yb (n:Nat):(dt n).Pairwise (· < ·):=by
 unfold dt
 rw[List.pairwise_map]
 exact List.pairwise_lt_range.imp fun {a b} h=>by omega
def upTo (n:Nat)(f:Pr->Bool)(i k:Nat):List Pr:=(OM.b6 n).filter fun p=>(decide (p.1 < i) || (decide (p.1=i) && decide (p.2 < k))) && f p
theorem yI {n:Nat}(f:Pr->Bool)(i k:Nat)(h8:n<=8):(upTo n f i k).length<=64:=by
 have h1:(upTo n f i k).length<=(OM.b6 n).length:=List.length_filter_le _ _
 rw[eT] at h1
 have:n * n<=64:=Nat.mul_le_mul h8 h8
 omega
theorem wQ (n:Nat)(f:Pr->Bool):upTo n f 0 0= []:=by
 unfold upTo
 rw[List.filter_eq_nil_iff]
 intro p hp
 have:=OM.a8.mp hp
 rw[decide_eq_false (by omega),decide_eq_false (p:=p.2 < ((0:Nat):Int)) (by omega)];simp
theorem zy (n:Nat)(f:Pr->Bool):upTo n f n 0=(OM.b6 n).filter f:=by
 unfold upTo
 refine List.filter_congr fun p hp=>?_
 have:=(OM.a8.mp hp).1.2
 rw[decide_eq_true this];simp
theorem zc (n:Nat)(f:Pr->Bool)(i:Nat):upTo n f i n=upTo n f (i + 1) 0:=by
 unfold upTo
 refine List.filter_congr fun p hp=>?_
 have h:=OM.a8.mp hp
 congr 1
 rw[Bool.eq_iff_iff]
 simp only[Bool.or_eq_true,Bool.and_eq_true,decide_eq_true_eq]
 omega
theorem o7 {n i k:Nat}(f:Pr->Bool)(hi:i < n)(hk:k < n):upTo n f i (k + 1)=upTo n f i k ++ if f ((i:Int),(k:Int))=true then [((i:Int),(k:Int))] else []:=by
 refine OM.fQ (OM.dN _ (OM.gr n)) ?_ fun x=>?_
 ·show List.Pairwise OM.AD _
  rw[List.pairwise_append]
  refine⟨OM.dN _ (OM.gr n),?_,fun p hp q hq=>?_⟩
  ·split <;> simp
  ·unfold upTo at hp
   have h1:=(List.mem_filter.mp hp).2
   simp only[Bool.or_eq_true,Bool.and_eq_true,decide_eq_true_eq] at h1
   split at hq
   ·have:q=((i:Int),(k:Int)):=by simpa using hq
    subst this
    show p.1 < (i:Int)\/(p.1=(i:Int)/\p.2 < (k:Int))
    exact h1.1
   ·cases hq
 ·rw[List.mem_append]
  unfold upTo
  rw[List.mem_filter,List.mem_filter,OM.a8]
  simp only[Bool.or_eq_true,Bool.and_eq_true,decide_eq_true_eq]
  constructor
  ·rintro⟨h1,h2,h3⟩
   by_cases z:x.1=i/\x.2=k
   ·obtain⟨xa,xb⟩:=x
    simp only at z h3
    obtain⟨rfl,rfl⟩:=z
    rw[if_pos h3]
    exact .inr (List.mem_singleton.mpr rfl)
   ·exact .inl ⟨h1,by omega,h3⟩
  ·rintro (⟨h1,h2,h3⟩ |h)
   ·exact⟨h1,by omega,h3⟩
   ·split at h
    ·rename_i hf
     have:x=((i:Int),(k:Int)):=by simpa using h
     subst this
     exact⟨⟨⟨by show (0:Int)<=(i:Int);omega,by show (i:Int) < n;omega⟩,by show (0:Int)<=(k:Int);omega,by show (k:Int) < n;omega⟩,.inr ⟨rfl,by show (k:Int) < ((k + 1:Nat):Int);omega⟩,hf⟩
    ·cases h
def tupI (r:List Int):D:=.tuple (r.map PyData.int)
theorem mw {fa fb:VF D}{vs:List Nv}{β:Int}{r:List Int}{k:Int}(h:fa vs β=.ok (tupI r) β)(h':fb vs β=.ok (.int k) β)(hk:k∈r):iL fa fb vs β=.ok (.int (r.idxOf k:Nat)) β:=by
 unfold iL
 rw[h]
 dsimp only[R.bnd]
 rw[if_pos (by rfl),h']
 dsimp only[R.bnd,BD,tupI]
 rw[fW]
 dsimp only
 rw[if_pos hk];rfl
theorem Br {r:List Int}{a b:Int}(ha:a∈r)(hb:b∈r)(h:r.idxOf a=r.idxOf b):a=b:=by
 have h1:=List.getElem_idxOf (List.idxOf_lt_length_iff.mpr ha)
 have h2:=List.getElem_idxOf (List.idxOf_lt_length_iff.mpr hb)
 rw[<-h1,<-h2]
 congr 1
end RM

end

section

end

section
namespace RM
open PySem L2
theorem nP {α:Type}{t:Tg}{fe:VF D}{vs:List Nv}(e:α->D)(P:α->Prop):∀{ds:List D} {β:Int},(∀d,d∈ds->∃vs1,kG t d vs=some vs1/\∀β,∃a β',fe vs1 β=.ok (e a) β'/\P a)->
  ∃(as:List α) (β':Int),fm t gy fe vs ds β=.ok (as.map e) β'/\as.length=ds.length/\∀a,a∈as->P a
 | [],β,_=>⟨[],β,rfl,rfl,fun a h=>(by cases h)⟩
 |d :: ds,β,h=>by
  obtain⟨vs1,hb,hf⟩:=h d (List.mem_cons_self ..)
  obtain⟨a,β1,ef,pa⟩:=hf β
  obtain⟨as,β2,ec,hl,hP⟩:=nP e P (ds:=ds) (β:=β1) fun d' hd=>h d' (List.mem_cons_of_mem _ hd)
  refine⟨a :: as,β2,?_,by rw[List.length_cons,List.length_cons,hl],fun x hx=>?_⟩
  ·unfold fm
   rw[hb]
   dsimp only[gy,R.okb]
   rw[if_pos rfl,ef]
   dsimp only
   rw[ec];rfl
  ·rcases List.mem_cons.mp hx with z |z
   ·rw[z];exact pa
   ·exact hP x z
end RM

end

section

end

section
namespace RM
open PySem L2
def xq:D->Bool
 | .tuple _=>true
 |_=>false
theorem qE {d:D}(h:xq d=true):∃ds,d=.tuple ds:=by
 cases d with
 |tuple ds=>exact⟨ds,rfl⟩
 |_=>cases h
theorem yU {d:D}(h:cM d=false):dJ "tuple" d=some (.bool (xq d)):=by
 unfold dJ;rw[h];cases d <;> rfl
section
variable {fa fb:VF D}{vs:List Nv}{β:Int}
theorem x8 {d:D}(ha:fa vs β=.ok d β)(h:cM d=false):jT (f1 fa (dJ "tuple")) vs β=.ok (xq d) β:=gM (cc ha (yU h))
theorem pK {l:List D}{f:D->Bool}(h:fa vs β=.ok (.list (l.map fun q=>PyData.bool (f q))) β):f1 fa (di fun bs=>bs.all id) vs β=.ok (.bool (l.all f)) β:=by
 refine cc h ?_
 simp only[di]
 rw[jy]
 simp[List.all_map]
theorem CG {ds:List D}(ha:fa vs β=.ok (.tuple ds) β):f1 fa c8 vs β=.ok (.int ds.length) β:=cc ha rfl
theorem yJ {ds:List D}{k:Int}(ha:fa vs β=.ok (.tuple ds) β):c5 (f2 (f1 fa c8) (cst (.int k)) (dv true)) vs β=.ok (!decide ((ds.length:Int)=k)) β:=gH (neg:=true) (CG ha) rfl
theorem nI {t u:VF Bool}(h:t vs β=.ok true β):iy t u vs β=.ok true β:=by rw[p5,h];rfl
theorem gR {t u:VF Bool}{c:Bool}(h:t vs β=.ok false β)(h':u vs β=.ok c β):iy t u vs β=.ok c β:=by rw[p5,h];exact h'
theorem Ew (h:fa vs β=.ok (.bool false) β):fg fa fb vs β=.ok (.bool false) β:=by unfold fg;rw[h];rfl
theorem Em {d:D}(h:fa vs β=.ok (.bool true) β)(h':fb vs β=.ok d β):fg fa fb vs β=.ok d β:=by unfold fg;rw[h];exact h'
end
def Sq (c k:Nat)(d:D):Prop:=d.showable=true/\d.depth<=k/\d.shown.length<=c
theorem Sq.mono {c k c' k':Nat}{d:D}(h:Sq c k d)(h1:c<=c')(h2:k<=k'):Sq c' k' d:=⟨h.1,Nat.le_trans h.2.1 h2,Nat.le_trans h.2.2 h1⟩
theorem ur {c k:Nat}:∀{ds:List D},(∀d,d∈ds->Sq c k d)->PyData.showableAll ds=true/\PyData.depthAll ds<=k/\(∀t,t∈PyData.shownAll ds->t.length<=c)/\(PyData.shownAll ds).length=ds.length
 | [],_=>⟨by simp[PyData.showableAll],by simp[PyData.depthAll],fun t h=>by simp[PyData.shownAll] at h,by simp[PyData.shownAll]⟩
 |d :: ds,h=>by
  obtain⟨h1,h2,h3,h4⟩:=ur fun x hx=>h x (List.mem_cons_of_mem _ hx)
  obtain⟨q1,q2,q3⟩:=h d (List.mem_cons_self ..)
  refine⟨?_,?_,fun t ht=>?_,?_⟩
  ·rw[PyData.showableAll,q1,h1];rfl
  ·rw[PyData.depthAll];omega
  ·rw[PyData.shownAll] at ht
   rcases List.mem_cons.mp ht with rfl |ht
   ·exact q3
   ·exact h3 t ht
  ·rw[PyData.shownAll,List.length_cons,List.length_cons,h4]
theorem rQ {c:Nat}:∀{ts:List Str},(∀t,t∈ts->t.length<=c)->(Str.join ", " ts).length<=(c + 2) * ts.length
 | [],_=>by show (Str.join ", " []).length<=_;exact Nat.zero_le _
 | [x],h=>by
  have:=h x (List.mem_cons_self ..)
  show x.length<=(c + 2) * 1
  omega
 |x :: y :: r,h=>by
  have ih:=rQ (ts:=y :: r) fun t ht=>h t (List.mem_cons_of_mem _ ht)
  have:=h x (List.mem_cons_self ..)
  show (x ++ ", " ++ Str.join ", " (y :: r)).length<=_
  rw[strLen_append,strLen_append]
  have e2:((", ":String):Str).length=2:=rfl
  rw[e2]
  have e:(c + 2) * (x :: y :: r).length=(c + 2) * (y :: r).length + (c + 2):=by rw[List.length_cons,Nat.mul_succ]
  omega
theorem Aa {c k:Nat}{ds:List D}(h:∀d,d∈ds->Sq c k d):Sq (3 + (c + 2) * ds.length) (k + 1) (.tuple ds):=by
 obtain⟨h1,h2,h3,h4⟩:=ur h
 refine⟨by rw[PyData.showable];exact h1,by rw[PyData.depth];omega,?_⟩
 rw[PyData.shown]
 unfold tupleText
 rw[strLen_append,strLen_append]
 have j:=rQ h3
 rw[h4] at j
 have e1:((("(":String):Str)).length=1:=rfl
 have e3:((if (PyData.shownAll ds).length == 1 then ",)" else ")":String):Str).length<=2:=by split <;> exact by decide
 rw[e1]
 omega
theorem zV {c k:Nat}{ds:List D}(h:∀d,d∈ds->Sq c k d):Sq (2 + (c + 2) * ds.length) (k + 1) (.list ds):=by
 obtain⟨h1,h2,h3,h4⟩:=ur h
 refine⟨by rw[PyData.showable];exact h1,by rw[PyData.depth];omega,?_⟩
 rw[PyData.shown]
 unfold listText
 rw[strLen_append]
 have:=yq (c:=c + 2) (PyData.shownAll ds) 0 "[" fun t ht=>by have:=h3 t ht;omega
 rw[h4] at this
 have e1:((("[":String):Str)).length=1:=rfl
 have e2:((("]":String):Str)).length=1:=rfl
 rw[e1] at this
 rw[e2];omega
def Bf (d:D):Prop:=u6 d=true
theorem sX:∀{ds:List D},(∀d,d∈ds->Bf d)->ue ds=true
 | [],_=>rfl
 |d :: ds,h=>by
  have h1:=sX fun x hx=>h x (List.mem_cons_of_mem _ hx)
  have q1:u6 d=true:=h d (List.mem_cons_self ..)
  rw[ue,q1,h1];rfl
theorem Aj {ds:List D}(h:∀d,d∈ds->Bf d):Bf (.tuple ds):=by show u6 (.tuple ds)=true;rw[u6];exact sX h
theorem yB {ds:List D}(h:∀d,d∈ds->Bf d):Bf (.list ds):=by show u6 (.list ds)=true;rw[u6];exact sX h
theorem zf {c k:Nat}{d:D}(h:Sq c k d)(hc:c<=100000)(hk:k<=64)(hf:Bf d):v3 d=true:=by
 unfold v3
 have h1:d.depth<=64:=Nat.le_trans h.2.1 hk
 have h2:d.shown.length<=sizeLine:=Nat.le_trans (Nat.le_trans h.2.2 hc) (by rw[sizeLine_eq];omega)
 rw[h.1,decide_eq_true h1,decide_eq_true h2]
 have b:u6 d=true:=hf
 rw[b,Bool.or_true];rfl
def Gp:List Int:=[-1,0,1,2,3,4,5,6,7,8,9]
theorem Ah:∀i∈Gp,(PyData.int i).showable=true/\(PyData.int i).shown.length<=20:=by decide +kernel
theorem uL {i:Int}(h: -1<=i/\i<=9):i∈Gp:=by
 simp only[Gp,List.mem_cons,List.not_mem_nil,or_false]
 omega
def A1 (d:D):Prop:=d=.none\/(∃b,d=.bool b)\/∃i:Int,d=.int i/\ -1<=i/\i<=9
theorem A1.sq {d:D}(h:A1 d):Sq 20 0 d:=by
 rcases h with rfl | ⟨b,rfl⟩ | ⟨i,rfl,h⟩
 ·exact⟨by simp[PyData.showable],by simp[PyData.depth],by rw[PyData.shown];decide⟩
 ·exact⟨by simp[PyData.showable],by simp[PyData.depth],by rw[PyData.shown];cases b <;> decide⟩
 ·exact⟨(Ah i (uL h)).1,by simp[PyData.depth],(Ah i (uL h)).2⟩
theorem A1.bf {d:D}(h:A1 d):Bf d:=by
 rcases h with rfl | ⟨b,rfl⟩ | ⟨i,rfl,h⟩ <;> exact by simp[Bf,u6]
theorem A1.scr {d:D}(h:A1 d):cM d=false:=by
 rcases h with rfl | ⟨b,rfl⟩ | ⟨i,rfl,h⟩ <;> rfl
section
variable {vs:List Nv}{β β1 β2:Int}{fa:VF D}{fr:VF (List D)}{d:D}{ds:List D}
theorem ac {fa:VF D}{fr:VF (List D)}(h:fa vs β=.ok d β)(h':fr vs β=.ok ds β):ae fa fr vs β=.ok (d :: ds) β:=by rw[cu,h];dsimp only[R.bnd];rw[h']
theorem an:ah vs β=.ok [] β:=rfl
theorem tp (h:fr vs β=.ok ds β)(hz:ds.length<=1000:=by simp):aX fr vs β=.ok (.tuple ds) β:=kJ h hz
theorem lp (h:fr vs β=.ok ds β)(hz:ds.length<=1000:=by simp):ba fr vs β=.ok (.list ds) β:=eM h hz
theorem ck (d:D):cst d vs β=.ok d β:=rfl
end
theorem EC {vs:List Nv}{β:Int}:f2 (cst (.int 10)) (cst (.int 39)) yZ vs β=.ok (.int 1000000000000000000000000000000000000000) β:=aA (x:=.int 10) (y:=.int 39) rfl rfl (by rfl)
theorem gS {P:D->Prop}{x y:D}(hx:P x)(hy:P y):∀d,d∈ [x,y]->P d:=fun d hd=>by
 rcases List.mem_cons.mp hd with rfl |hd
 ·exact hx
 ·rw[List.mem_singleton] at hd;subst hd;exact hy
theorem fK {i:Int}(h: -1<=i/\i<=9):A1 (.int i):=.inr (.inr ⟨i,rfl,h⟩)
theorem yd {d:D}(h:cM d=false):dJ "list" d=some (.bool (match d with | .list _=>true |_=>false)):=by
 unfold dJ;rw[h];cases d <;> rfl
def BA:D->Bool
 | .list _=>true
 |_=>false
theorem vv {d:D}(h:BA d=true):∃ds,d=.list ds:=by
 cases d with
 |list ds=>exact⟨ds,rfl⟩
 |_=>cases h
theorem Cy {fa:VF D}{vs:List Nv}{β:Int}{d:D}(ha:fa vs β=.ok d β)(h:cM d=false):f1 fa (dJ "list") vs β=.ok (.bool (BA d)) β:=cc ha (by rw[yd h];cases d <;> rfl)
theorem Ae {fa:VF D}{vs:List Nv}{β:Int}{ds:List D}(ha:fa vs β=.ok (.list ds) β):f1 fa c8 vs β=.ok (.int ds.length) β:=cc ha rfl
end RM

end

section
namespace RM
open PySem L2
def kP:SF:=(bR (fg (f1 (gv 0) (dJ "int")) (f1 (f1 (gv 0) (dJ "bool")) vX)))
def kK:SF:=(bR (fg (f1 (gv 0) (dJ "bool")) (f2 (gv 0) (gv 1) (dv false))))
def iK (ay:List D->Int->FB):SF:=(aH (aZ 1 ([] ++ ([] ++ ([] ++ ([] ++ ([] ++ ([] ++ ([] ++ ([] ++ ([] ++ ([] ++ (([] ++ []) ++ (([] ++ ([] ++ [])) ++ (([] ++ []) ++ []))))))))))))) (ba (ae (cst .none) (ae (cst (.bool true)) (ae (cst (.bool false)) (ae (cst (.int (-1))) (ae (cst (.int 0)) (ae (cst (.int 1)) (ae (cst (.str "")) (ae (cst (.str "1")) (ae (aX ah) (ae (ba ah) (ae (aX (ae (cst (.int 0)) ah)) (ae (aX (ae (cst (.int 1)) (ae (aX ah) ah))) (ae (ba (ae (cst (.int 0)) ah)) ah)))))))))))))))
 (aH (aZ 1 ([] ++ ([] ++ (([] ++ ([] ++ [])) ++ ([] ++ ((([] ++ ([] ++ [])) ++ []) ++ ([] ++ [])))))) (f2 (gv 1) (ba (ae (cst (.dict [(.str "a",.int 1)])) (ae (aX (ae (cst (.int 0)) (ae (cst (.int 1)) ah))) (ae (f2 (cst (.int 10)) (cst (.int 39)) yZ) (ae (aX (ae (aX (ae (cst (.int 0)) (ae (cst (.int 1)) ah))) ah)) (ae (cst (.str "a")) ah)))))) c6))
 (bR (f2 (gv 1) (hZ 0 ay (ae (cst (.int 18)) ah)) bz))))
def jD (bA:List D->FR):SF:=(aH (ko ([] ++ ([] ++ [])) (iy (lK (jT (f1 (gv 0) (dJ "tuple")))) (c5 (f2 (f1 (gv 0) c8) (gv 1) (dv true))))
 (bR (cst (.bool false)))
 lR)
 (bR (fg (f1 (aG 1 [1] (.nm 0) (bh (gv 0)) gy (aE bA (ae (gv 0) (ae (gv 1) ah)))) (di fun bs=>bs.all id)) (f2 (f1 (gv 0) mB) (gv 1) (dv false)))))
end RM

end

section
namespace RM
open PySem L2
def Ge (e:D):Prop:=cM e=false/\∀es,e=.tuple es->es.length<=100/\∀x,x∈es->cM x=false
def xZ (n:Int):D->Bool
 | .tuple [x,y]=>fD x n && fD y n
 |_=>false
theorem Fp {n:Int}{d:D}(h:xZ n d=true):∃p:Pr,d=ao p/\(0<=p.1/\p.1 < n)/\(0<=p.2/\p.2 < n):=by
 unfold xZ at h
 split at h
 ·rename_i x y
  rw[Bool.and_eq_true] at h
  cases x with
  |int a=>
   cases y with
   |int b=>exact⟨(a,b),rfl,of_decide_eq_true h.1,of_decide_eq_true h.2⟩
   |_=>cases h.2
  |_=>cases h.1
 ·cases h
def FN:List D->FR:=bJ 2 2 (iw c3)
theorem nR {es:List D}:(decide ((es.length:Int)=2)=false/\∀n,xZ n (.tuple es)=false)\/∃x y,es= [x,y]:=by
 match es with
 | []=>exact .inl ⟨rfl,fun _=>rfl⟩
 | [_]=>exact .inl ⟨rfl,fun _=>rfl⟩
 | [x,y]=>exact .inr ⟨x,y,rfl⟩
 |_ :: _ :: _ :: _=>exact .inl ⟨decide_eq_false (by simp;omega),fun _=>rfl⟩
theorem GI {d:D}{n:Int}(h:Ge d):FN [d,.int n]=.ok (.bool (xZ n d)) false:=by
 show fin (iw c3 [.fz d,.fz (.int n)] 0)=_
 unfold iw
 have g0:gv 0 (vl [.fz d,.fz (.int n)]) 0=.ok d 0:=rfl
 have t1:=x8 g0 h.1
 cases hy:xq d with
 |false=>
  rw[hy] at t1
  rw[cg (d:=.bool false) (b:=false) (β':=0) ?a]
  ·cases d <;> first |rfl |cases hy
  case a=>rw[eV (nI (bC t1))];rfl
 |true=>
  obtain⟨es,rfl⟩:=qE hy
  rw[hy] at t1
  have t2:=yJ (k:=2) g0
  rcases nR (es:=es) with⟨q,z⟩ | ⟨x,y,rfl⟩
  ·rw[q] at t2
   rw[z n,cg (d:=.bool false) (b:=false) (β':=0) (by rw[eV (gR (bC t1) t2)];rfl)];rfl
  ·rw[aq (env':=[.fz (.tuple [x,y]),.fz (.int n)]) (β':=0) (by rw[fF (gR (bC t1) t2)];rfl)]
   have hx:=(h.2 _ rfl).2 x (List.mem_cons_self ..)
   have hy':=(h.2 _ rfl).2 y (List.mem_cons_of_mem _ (List.mem_cons_self ..))
   have e1:aE c3 (ae (f2 (gv 0) (cst (.int 0)) bz) (ae (gv 1) ah)) (vl [.fz (.tuple [x,y]),.fz (.int n)]) 0=.ok (.bool (fD x n)) 0:=aP (ds:=[x,.int n]) rfl (mr hx)
   have e2:aE c3 (ae (f2 (gv 0) (cst (.int 1)) bz) (ae (gv 1) ah)) (vl [.fz (.tuple [x,y]),.fz (.int n)]) 0=.ok (.bool (fD y n)) 0:=aP (ds:=[y,.int n]) rfl (mr hy')
   rw[gV,vW e1 e2];rfl
def Ei:List D->FR:=bJ 1 1 kP
theorem Hd {d:D}(h:cM d=false):Ei [d]=.ok (.bool (ou d)) false:=by
 have:=u4 [d] (by rw[kW h];exact fun z=>by cases z)
 rw[kW h] at this
 exact this
def Sp (p:Pr):Prop:=(0<=p.1/\p.1<=8)/\(0<=p.2/\p.2<=8)
def El (e:D):Prop:=Ge e/\Sq 100 8 e/\Bf e
theorem zv {es:List D}(hl:es.length<=100)(h:∀x,x∈es->cM x=false):Ge (.tuple es):=⟨rfl,fun es' e=>by cases e;exact⟨hl,h⟩⟩
theorem j7 {es:List D}(hl:es.length<=3)(h:∀x,x∈es->A1 x):El (.tuple es):=by
 refine⟨zv (by omega) fun x hx=>(h x hx).scr,(Aa (c:=20) (k:=0) fun d hd=>(h d hd).sq).mono ?_ (by omega),Aj fun d hd=>(h d hd).bf⟩
 omega
theorem Ba {es:List D}(hl:es.length<=3)(h:∀x,x∈es->A1 x):El (.list es):=by
 refine⟨⟨rfl,fun es' e=>by cases e⟩,(zV (c:=20) (k:=0) fun d hd=>(h d hd).sq).mono ?_ (by omega),yB fun d hd=>(h d hd).bf⟩
 omega
theorem zm {p:Pr}(h:Sp p):El (ao p):=j7 (es:=[.int p.1,.int p.2]) (by simp) (gS (fK (by have:=h.1;omega)) (fK (by have:=h.2;omega)))
def Hy:D->Bool
 | .tuple es=>decide (es.length<=100) && es.all fun x=> !cM x
 |_=>true
def gc:List D:=[.none,.bool true,.bool false,.int (-1),.int 0,.int 1,.str "",.str "1",.tuple [],.list [],.tuple [.int 0],.tuple [.int 1,.tuple []],.list [.int 0],.dict [(.str "a",.int 1)],.tuple [.int 0,.int 1],.int 1000000000000000000000000000000000000000,.tuple [.tuple [.int 0,.int 1]],.str "a"]
theorem vH:∀x∈gc,(x.showable=true/\x.depth<=5/\x.shown.length<=60)/\u6 x=true/\cM x=false/\Hy x=true:=by decide +kernel
theorem DX {o:D}(h:o∈gc):El o:=by
 obtain⟨h1,h2,h3,h4⟩:=vH o h
 refine⟨⟨h3,fun es e=>?_⟩,Sq.mono (c:=60) (k:=5) h1 (by omega) (by omega),h2⟩
 subst e
 have hb:(decide (es.length<=100) && es.all fun x=> !cM x)=true:=h4
 rw[Bool.and_eq_true,decide_eq_true_eq,List.all_eq_true] at hb
 exact⟨hb.1,fun x hx=>by have:=hb.2 x hx;rwa [Bool.not_eq_true'] at this⟩
theorem mh {fa fb:VF D}{vs:List Nv}{β:Int}{ds:List D}{i:Nat}(ha:fa vs β=.ok (.list ds) β)(hb:fb vs β=.ok (.int ((i:Nat):Int)) β):xh fa (xl fb) (fun _ β=>.ok none β) vs β=.ok (.list (ds.drop i)) β:=by
 unfold xh xl
 rw[ha];dsimp only[R.bnd]
 rw[hb];dsimp only[R.bnd]
 congr 2
 unfold cutD
 rw[HT.rN,HT.uZ]
 by_cases h:i<=ds.length
 ·rw[Nat.min_eq_left h];exact List.take_of_length_le (by rw[List.length_drop];omega)
 ·rw[Nat.min_eq_right (by omega),List.drop_length,List.drop_of_length_le (by omega)];simp
theorem kz {fa fb:VF D}{vs:List Nv}{β:Int}{ds:List D}{i:Nat}(ha:fa vs β=.ok (.list ds) β)(hb:fb vs β=.ok (.int ((i:Nat):Int)) β):xh fa (fun _ β=>.ok none β) (xl fb) vs β=.ok (.list (ds.take i)) β:=by
 unfold xh xl
 rw[ha];dsimp only[R.bnd]
 rw[hb];dsimp only[R.bnd]
 congr 2
 unfold cutD
 rw[HT.rN,HT.uZ]
 by_cases h:i<=ds.length
 ·rw[Nat.min_eq_left h];rfl
 ·rw[Nat.min_eq_right (by omega),List.take_of_length_le (show ds.length<=i by omega)];simp
noncomputable def Bu:List D->Int->FB:=l0 2 0 (iK bZ)
theorem EZ (β:Int):∃o β',Bu [] β=.ok o false β'/\o∈gc:=by
 show ∃o β',wm (iK bZ [.bx,.no] β)=.ok o false β'/\o∈gc
 unfold iK
 rw[aq (env':=[.bx,.fz (.list (gc.take 13))]) (β':=β) ?a]
 case a=>
  rw[bV,lp (ds:=gc.take 13) (ac (ck _) (ac (ck _) (ac (ck _) (ac (ck _) (ac (ck _) (ac (ck _) (ac (ck _) (ac (ck _) (ac (tp an) (ac (lp an) (ac (tp (ac (ck _) an)) (ac (tp (ac (ck _) (ac (tp an) an))) (ac (lp (ac (ck _) an)) an))))))))))))) (by show (13:Nat)<=1000;omega)]
  rfl
 rw[aq (env':=[.bx,.fz (.list gc)]) (β':=β) ?b]
 case b=>
  rw[bV,aA (x:=.list (gc.take 13)) (y:=.list (gc.drop 13)) (d:=.list gc) (β1:=β) (β2:=β) rfl (lp (ds:=gc.drop 13) (ac (ck _) (ac (tp (ac (ck _) (ac (ck _) an))) (ac EC (ac (tp (ac (tp (ac (ck _) (ac (ck _) an))) an)) (ac (ck _) an))))) (by show (5:Nat)<=1000;omega)) ?c]
  ·rfl
  case c=>rw[dE (by show (13 + 5:Nat)<=10000;omega)];rfl
 obtain⟨j,hj,ej⟩:=fo (m:=18) (by omega) (by omega) β
 have hlen:gc.length=18:=rfl
 obtain⟨o,ho⟩:∃o,gc[j]? =some o:=⟨_,List.getElem?_eq_getElem (by omega)⟩
 have e:f2 (gv 1) (hZ 0 bZ (ae (cst (.int 18)) ah)) bz (vl [.bx,.fz (.list gc)]) β=.ok o (β / ((18:Nat):Int)):=aA (x:=.list gc) (y:=.int j) rfl (dF (ds:=[.int 18]) (by rfl) rfl ej) (show jA gc (j:Int)=some o from i8 ho)
 rw[gV,e]
 exact⟨o,_,rfl,List.mem_of_getElem? ho⟩
noncomputable def Au:List D->FR:=bJ 2 2 kK
theorem EU (b:Bool):Au [.bool b,.bool b]=.ok (.bool true) false:=by cases b <;> rfl
end RM

end

section
namespace RM
open PySem PySem.Spec L2 PyProof.Rows
theorem nO:∀(ns acc:List Int),acc.Nodup->(ns.foldl step_dedup acc).length<=acc.length + ns.length/\((ns.foldl step_dedup acc).length=acc.length + ns.length↔(ns.Nodup/\∀x,x∈ns->x∉acc))
 | [],acc,_=>by simp
 |n :: ns,acc,hn=>by
  rw[List.foldl_cons]
  by_cases h:n∈acc
  ·have e:step_dedup acc n=acc:=by unfold step_dedup;rw[if_pos (by simpa using h)]
   rw[e]
   obtain⟨h1,h2⟩:=nO ns acc hn
   refine⟨by rw[List.length_cons];omega,⟨fun z=>?_,fun z=>absurd h (z.2 n (List.mem_cons_self ..))⟩⟩
   rw[List.length_cons] at z;omega
  ·have e:step_dedup acc n=acc ++ [n]:=by unfold step_dedup;rw[if_neg (by simpa using h)]
   have hn':(acc ++ [n]).Nodup:=by
    rw[List.nodup_append]
    refine⟨hn,List.nodup_cons.mpr ⟨by simp,List.nodup_nil⟩,fun a ha b hb=>?_⟩
    rw[List.mem_singleton] at hb
    subst hb
    exact fun q=>h (q▸ha)
   rw[e]
   obtain⟨h1,h2⟩:=nO ns (acc ++ [n]) hn'
   rw[List.length_append,List.length_singleton] at h1 h2
   refine⟨by rw[List.length_cons];omega,?_⟩
   rw[List.length_cons,show acc.length + (ns.length + 1)=acc.length + 1 + ns.length by omega,h2,List.nodup_cons]
   constructor
   ·rintro⟨z1,z2⟩
    refine⟨⟨fun q=>z2 n q (by simp),z1⟩,fun x hx=>?_⟩
    rcases List.mem_cons.mp hx with rfl |hx
    ·exact h
    ·exact fun q=>z2 x hx (List.mem_append_left _ q)
   ·rintro⟨⟨z1,z2⟩,z3⟩
    refine⟨z2,fun x hx q=>?_⟩
    rcases List.mem_append.mp q with q |q
    ·exact z3 x (List.mem_cons_of_mem _ hx) q
    ·rw[List.mem_singleton] at q;subst q;exact z1 hx
theorem qR (ns:List Int):oC ns=ns.length↔ns.Nodup:=by
 have e:firstMet (fun i=>ns.getD i 0) ns.length=ns.foldl step_dedup []:=by
  unfold firstMet
  congr 1
  refine List.ext_getElem (by simp) fun i h1 h2=>?_
  simp[List.getD_eq_getElem?_getD,h2]
 unfold oC
 rw[e]
 have:=(nO ns [] List.nodup_nil).2
 simpa using this
theorem lP:∀{l m:List Int},l.Nodup->(∀x,x∈l->x∈m)->m.length<=l.length->l.Perm m
 | [],m,_,_,h=>by
  have:m= []:=List.length_eq_zero_iff.mp (by simpa using h)
  rw[this]
 |x :: l,m,nd,hs,h=>by
  obtain⟨h1,h2⟩:=List.nodup_cons.mp nd
  have hx:x∈m:=hs x (List.mem_cons_self ..)
  have pm:m.Perm (x :: m.erase x):=List.perm_cons_erase hx
  refine (List.Perm.cons x (lP (m:=m.erase x) h2 (fun y hy=>?_) ?_)).trans pm.symm
  ·have hy':=pm.mem_iff.mp (hs y (List.mem_cons_of_mem _ hy))
   rcases List.mem_cons.mp hy' with rfl |q
   ·exact absurd hy h1
   ·exact q
  ·have:=pm.length_eq
   rw[List.length_cons] at this h
   omega
theorem yp {n:Nat}{r:List Int}(hl:r.length=n)(hb:∀x,x∈r->0<=x/\x < n)(nd:r.Nodup):r.Perm (dt n):=lP nd (fun x hx=>cG.mpr (hb x hx)) (by rw[cF];omega)
noncomputable def jQ (n:Nat)(d:D):Bool:=@decide (∃r:List Int,d=tupI r/\r.Perm (dt n)) (Classical.propDecidable _)
theorem zS {n:Nat}{d:D}(h:jQ n d=true):∃r:List Int,d=tupI r/\r.Perm (dt n):=@of_decide_eq_true _ (Classical.propDecidable _) h
theorem rP {n:Nat}{r:List Int}(h:r.Perm (dt n)):jQ n (tupI r)=true:=@decide_eq_true _ (Classical.propDecidable _) ⟨r,rfl,h⟩
theorem qe {n:Nat}{d:D}(h:∀r:List Int,d=tupI r->¬r.Perm (dt n)):jQ n d=false:=@decide_eq_false _ (Classical.propDecidable _) fun⟨r,e,p⟩=>h r e p
theorem mY {r q:List Int}(h:tupI r=tupI q):r=q:=by
 unfold tupI at h
 have h:=PyData.tuple.inj h
 exact List.map_inj_right (fun a b e=>PyData.int.inj e) |>.mp h
theorem xw {d:D}{n:Int}(h:fD d n=true):∃i:Int,d=.int i/\0<=i/\i < n:=by
 cases d with
 |int i=>exact⟨i,rfl,of_decide_eq_true h⟩
 |_=>cases h
theorem oM {n:Int}:∀{ds:List D},(ds.all fun e=>fD e n)=true->∃r:List Int,ds=r.map PyData.int/\∀x,x∈r->0<=x/\x < n
 | [],_=>⟨[],rfl,fun x hx=>by cases hx⟩
 |d :: ds,h=>by
  rw[List.all_cons,Bool.and_eq_true] at h
  obtain⟨i,rfl,hi⟩:=xw h.1
  obtain⟨r,rfl,hr⟩:=oM h.2
  refine⟨i :: r,rfl,fun x hx=>?_⟩
  rcases List.mem_cons.mp hx with rfl |hx
  ·exact hi
  ·exact hr x hx
theorem wB {n:Nat}{r:List Int}(h:∀x,x∈r->0<=x/\x < (n:Int)):((r.map PyData.int).all fun e=>fD e n)=true:=by
 rw[List.all_map,List.all_eq_true]
 intro x hx
 exact decide_eq_true (h x hx)
theorem fW:∀r:List Int,fX (r.map PyData.int)=some r
 | []=>rfl
 |x :: r=>by
  have:=fW r
  simp only[List.map_cons,fX,this]
  try rfl
def rn:List D->FR:=bJ 2 2 (jD c3)
theorem y2 {n:Nat}{d:D}(h8:n<=100)(h:Ge d):rn [d,.int n]=.ok (.bool (jQ n d)) false:=by
 show fin (jD c3 [.fz d,.fz (.int n)] 0)=_
 unfold jD
 have g0:gv 0 (vl [.fz d,.fz (.int n)]) 0=.ok d 0:=rfl
 have t1:=x8 g0 h.1
 cases hy:xq d with
 |false=>
  rw[hy] at t1
  rw[cg (d:=.bool false) (b:=false) (β':=0) (by rw[eV (nI (bC t1))];rfl),qe]
  ·rfl
  ·intro r e;subst e;cases hy
 |true=>
  obtain⟨es,rfl⟩:=qE hy
  rw[hy] at t1
  have t2:c5 (f2 (f1 (gv 0) c8) (gv 1) (dv true)) (vl [.fz (.tuple es),.fz (.int n)]) 0=.ok (!decide ((es.length:Int)=n)) 0:=gH (neg:=true) (CG g0) rfl
  by_cases hl:es.length=n
  ·rw[decide_eq_true (show (es.length:Int)=n by omega)] at t2
   rw[aq (env':=[.fz (.tuple es),.fz (.int n)]) (β':=0) (by rw[fF (gR (bC t1) t2)];rfl)]
   have hs:=(h.2 _ rfl).2
   have ec:aG 1 [1] (.nm 0) (bh (gv 0)) gy (aE c3 (ae (gv 0) (ae (gv 1) ah))) (vl [.fz (.tuple es),.fz (.int n)]) 0=.ok (.list (es.map fun e=>PyData.bool (fD e n))) 0:=
    lB (fun e=>PyData.bool (fD e n)) rfl (by omega) fun e he=>⟨_,rfl,aP (ds:=[e,.int n]) rfl (mr (hs e he))⟩
   have ea:=pK ec
   rw[gV]
   cases hb:(es.all fun e=>fD e n) with
   |false=>
    rw[hb] at ea
    rw[Ew ea,qe]
    ·rfl
    ·intro r e pm
     have e:=PyData.tuple.inj e
     subst e
     rw[wB fun x hx=>cG.mp (pm.mem_iff.mp hx)] at hb
     cases hb
   |true=>
    rw[hb] at ea
    obtain⟨r,rfl,hr⟩:=oM hb
    have hrl:r.length=n:=by rw[List.length_map] at hl;exact hl
    have es:f1 (gv 0) mB (vl [.fz (.tuple (r.map PyData.int)),.fz (.int n)]) 0=.ok (.int (oC r)) 0:=by
     refine cc g0 ?_
     show (match fX (r.map PyData.int) with |some ns=>if ns.length<=1000 then some (PyData.int (oC ns)) else none |none=>none)=_
     rw[fW]
     exact if_pos (by omega)
    rw[Em ea (aA es rfl (uJ false (oC r) n))]
    show FR.ok (.bool (decide ((oC r:Int)=(n:Int)))) false=_
    by_cases nd:r.Nodup
    ·have:=(qR r).mpr nd
     rw[decide_eq_true (by omega),show jQ n (.tuple (r.map PyData.int))=true from rP (yp hrl hr nd)]
    ·have:oC r≠r.length:=fun q=>nd ((qR r).mp q)
     rw[decide_eq_false (by omega),qe]
     intro q e pm
     have e:=mY (r:=r) e
     subst e
     exact nd (pm.nodup_iff.mpr (oX n))
  ·rw[decide_eq_false (show ¬(es.length:Int)=n by omega)] at t2
   rw[cg (d:=.bool false) (b:=false) (β':=0) (by rw[eV (gR (bC t1) t2)];rfl),qe]
   ·rfl
   ·intro r e pm
    have e:=PyData.tuple.inj e
    subst e
    have:=pm.length_eq
    rw[cF] at this
    rw[List.length_map] at hl
    exact hl this
end RM

end

section
namespace RM
open PySem L2
def iW:SF:=(bR (fg (f2 (f2 (gv 0) (cst (.int 0)) bz) (f2 (gv 1) (cst (.int 0)) bz) qt) (f2 (f2 (gv 0) (cst (.int 1)) bz) (f2 (gv 1) (cst (.int 1)) bz) qt)))
def fM (cR bQ eG cn dS:List D->FR):SF:=(aH (zY ([1] ++ []) (aE cR (ae (gv 1) ah)))
 (aH (aZ 2 ([] ++ []) (f2 (gv 1) (cst (.int 0)) bz))
 (aH (ko ([] ++ ([] ++ [2])) (iy (lK (jT (f1 (gv 0) (dJ "list")))) (lK (jT (f1 (aG 1 [2] (.nm 0) (bh (gv 0)) gy (aE bQ (ae (gv 0) (ae (gv 1) ah)))) (di fun bs=>bs.all id)))))
 (bR (cst (.bool false)))
 lR)
 (aH (ko ((([] ++ []) ++ ([2] ++ [])) ++ (([] ++ []) ++ ([2] ++ []))) (iy (lK (jT (aE eG (ae (f1 (aG 2 [] (.two 0 1) (bh (gv 0)) gy (gv 0)) bX) (ae (gv 2) ah))))) (lK (jT (aE eG (ae (f1 (aG 2 [] (.two 0 1) (bh (gv 0)) gy (gv 1)) bX) (ae (gv 2) ah))))))
 (bR (cst (.bool false)))
 lR)
 (bR (f2 (f1 (aG 2 [0] (.two 0 1) (bh (aE cn (ae (gv 2) ah))) (jT (aE dS (ae (f2 (gv 2) (gv 0) bz) (ae (f2 (gv 2) (gv 1) bz) ah)))) (aX (ae (gv 0) (ae (gv 1) ah)))) bX) (f2 (gv 1) (cst (.int 1)) bz) (dv false)))))))
def dz:SF:=(aH (k8 2 [] (ba ah))
 (aH (cE (.nm 3) [] (bF (gv 0))
 (cE (.nm 4) [] (bF (gv 0))
 (aH (aZ 5 ([] ++ []) (aG 1 [3,4] (.nm 0) (bh (gv 1)) (c5 (f2 (iL (gv 0) (gv 1)) (iL (gv 0) (gv 2)) Ef)) (cst (.int 1))))
 (ko (([] ++ []) ++ ([] ++ [])) (yL (c5 (f2 (gv 3) (gv 4) (dv true))) (c5 (f2 (gv 5) (ba ah) (dv false))))
 (l7 2 ([3] ++ ([4] ++ [])) (aX (ae (gv 3) (ae (gv 4) ah))))
 lR))))
 (bR (f1 (gv 2) bX))))
noncomputable def cK (cV:List D->FR):SF:=(aH (aZ 2 ([] ++ []) (f2 (gv 1) (cst (.int 0)) bz))
 (aH (ko ([] ++ ([] ++ [])) (iy (lK (jT (f1 (gv 0) (dJ "list")))) (c5 (f2 (f1 (gv 0) c8) (gv 2) (dv true))))
 (bR (cst (.bool false)))
 lR)
 (aH (cE (.nm 3) [0] (bh (gv 0))
 (ko ([] ++ (([] ++ []) ++ ([] ++ []))) (iy (lK (jT (f1 (gv 3) (dJ "tuple")))) (iy (c5 (f2 (f1 (gv 3) c8) (cst (.int 2)) (dv true))) (lK (jT (f1 (aG 1 [] (.nm 0) (bh (gv 3)) gy (aE cV (ae (gv 0) ah))) (di fun bs=>bs.all id))))))
 (bR (cst (.bool false)))
 lR))
 (aH (cE (.nm 4) [] (bF (cst (.int 2)))
 (ko (([] ++ []) ++ []) (c5 (f2 (f1 (aG 1 [4] (.nm 0) (bh (gv 0)) gy (f2 (gv 0) (gv 1) bz)) lu) (f1 (gv 2) bS) (dv true)))
 (bR (cst (.bool false)))
 lR))
 (aH (aZ 5 [] (ba ah))
 (aH (cE (.nm 6) [] (bF (gv 2))
 (aZ 5 ([] ++ ([] ++ [6])) (f2 (gv 5) (aG 1 [0,6] (.nm 0) (bF (gv 2)) (yL (c5 (f2 (f2 (f2 (gv 1) (gv 2) bz) (cst (.int 0)) bz) (f2 (f2 (gv 1) (gv 0) bz) (cst (.int 0)) bz) qt)) (c5 (f2 (f2 (f2 (gv 1) (gv 2) bz) (cst (.int 1)) bz) (f2 (f2 (gv 1) (gv 0) bz) (cst (.int 1)) bz) qt))) (aX (ae (gv 2) (ae (gv 0) ah)))) c6)))
 (bR (f2 (f1 (gv 5) bX) (f2 (gv 1) (cst (.int 1)) bz) (dv false)))))))))
def gN (ay:List D->Int->FB):SF:=(aH (yF 3 4 ([] ++ []) ([] ++ []) (hZ 0 ay (ae (f1 (gv 1) c8) ah)) (hZ 0 ay (ae (f1 (gv 1) c8) ah)))
 (aH (yG (.two 5 6) ([] ++ []) (f2 (gv 1) (gv 3) bz))
 (aH (k8 7 [] (f1 (gv 1) vU))
 (aH (DU 7 (([] ++ []) ++ (([] ++ []) ++ [])) [] [] (aX (ae (f2 (gv 7) (gv 4) bz) (ae (f2 (gv 7) (gv 3) bz) ah))) (gv 3) (gv 4))
 (aH (aZ 8 (([6] ++ ([5] ++ [])) ++ (([5] ++ (([] ++ []) ++ [])) ++ (([5] ++ (([] ++ []) ++ [])) ++ (([5] ++ ([6] ++ [])) ++ (([5] ++ ([6] ++ ([] ++ []))) ++ ([2] ++ ((([] ++ []) ++ ([6] ++ [])) ++ []))))))) (ba (ae (aX (ae (gv 6) (ae (gv 5) ah))) (ae (aX (ae (gv 5) (ae (f2 (gv 6) (cst (.int 1)) bW) ah))) (ae (aX (ae (gv 5) (ae (f2 (gv 6) (cst (.int 1)) (dv false)) ah))) (ae (ba (ae (gv 5) (ae (gv 6) ah))) (ae (aX (ae (gv 5) (ae (gv 6) (ae (cst (.int 0)) ah)))) (ae (gv 2) (ae (aX (ae (f2 (gv 5) (cst (.int 1)) bW) (ae (gv 6) ah))) ah)))))))))
 (aH (aZ 9 ([] ++ []) (hZ 0 ay (ae (cst (.int 14)) ah)))
 (aH (ko ([] ++ []) (c5 (f2 (gv 9) (cst (.int 7)) qt))
 (oN (f2 (f2 (xh (gv 1) (fun _ β=>.ok none β) (xl (gv 3))) (ba (ae (f2 (gv 8) (gv 9) bz) ah)) c6) (xh (gv 1) (xl (f2 (gv 3) (cst (.int 1)) bW)) (fun _ β=>.ok none β)) c6))
 lR)
 (aH (aZ 10 ([7] ++ (((([] ++ []) ++ []) ++ (([] ++ ([] ++ [])) ++ [])) ++ ((((([] ++ []) ++ []) ++ (([5] ++ ([6] ++ [])) ++ [])) ++ (([] ++ []) ++ [])) ++ ([] ++ ([] ++ []))))) (ba (ae (gv 7) (ae (f2 (xh (gv 1) (fun _ β=>.ok none β) (xl (gv 3))) (xh (gv 1) (xl (f2 (gv 3) (cst (.int 1)) bW)) (fun _ β=>.ok none β)) c6) (ae (f2 (f2 (xh (gv 1) (fun _ β=>.ok none β) (xl (gv 3))) (ba (ae (aX (ae (gv 5) (ae (gv 6) ah))) ah)) c6) (xh (gv 1) (xl (gv 3)) (fun _ β=>.ok none β)) c6) (ae (f1 (gv 1) yV) (ae (f1 (gv 1) bX) ah)))))))
 (bR (f2 (f2 (gv 10) (ba (ae (aG 2 [] (.two 0 1) (bh (gv 1)) gy (aX (ae (gv 1) (ae (gv 0) ah)))) (ae (f2 (xh (gv 1) (xl (cst (.int 1))) (fun _ β=>.ok none β)) (xh (gv 1) (fun _ β=>.ok none β) (xl (cst (.int 1)))) c6) ah))) c6) (f2 (gv 9) (cst (.int 7)) zl) bz))))))))))
def uM (eB dr cX cS bw:List D->FR)(ay aN eH cT dm:List D->Int->FB):SF:=(aH (cE (.nm 1) ([] ++ ([] ++ [])) (bF (f2 (cst (.int 1)) (f2 (f1 (gv 0) c8) (cst (.int 5)) (tZ fun i j=>.int (if j < i then j else i))) (tZ fun i j=>.int (if j > i then j else i))))
 (aH (ve 2 ([0] ++ ([1] ++ [])) (o9 eB (ae (gv 0) (ae (gv 1) ah))))
 (aH (aZ 3 ([] ++ ([] ++ [])) (f2 (cst (.int 1)) (hZ 2 ay (ae (cst (.int 7)) ah)) bW))
 (aH (aZ 4 ([] ++ []) (aG 1 [2,3] (.nm 0) (bF (cst (.int 2))) gy (f1 (hZ 1 aN (ae (f1 (gv 2) bS) ah)) bX)))
 (aH (aZ 5 ([3] ++ (([3] ++ ([4] ++ [])) ++ [])) (aX (ae (gv 3) (ae (aE dr (ae (gv 3) (ae (gv 4) ah))) ah))))
 (aH (aZ 6 ([] ++ []) (aG 1 [4] (.nm 0) (bF (gv 3)) gy (aX (ae (iL (f2 (gv 1) (cst (.int 0)) bz) (gv 0)) (ae (iL (f2 (gv 1) (cst (.int 1)) bz) (gv 0)) ah)))))
 (aH (aZ 7 [] (hZ 2 eH ah))
 (aH (aZ 8 ([] ++ []) (hZ 2 cT (ae (cst (.int 7)) ah)))
 (cE (.nm 9) ([5] ++ ([8] ++ [])) (bh (ba (ae (gv 5) (ae (gv 8) ah))))
 (aH (k8 10 ([6] ++ ([7] ++ ([] ++ ((([] ++ []) ++ []) ++ [])))) (ba (ae (gv 6) (ae (gv 7) (ae (ba ah) (ae (aG 1 [] (.nm 0) (bF (f2 (gv 9) (cst (.int 0)) bz)) gy (aX (ae (gv 0) (ae (gv 0) ah)))) ah))))))
 (aH (cE (.nm 11) [] (bF (cst (.int 3)))
 (l7 10 ([6] ++ ([7] ++ [])) (hZ 2 dm (ae (gv 6) (ae (gv 7) ah)))))
 (cE (.nm 12) [10] (bh (gv 10))
 (aH (aZ 13 [] (f1 (gv 12) jk))
 (ko ((([12] ++ ([9] ++ [])) ++ (([12] ++ ([9] ++ [])) ++ [])) ++ ([] ++ [])) (iy (lK (jT (aE cX (ae (aE cS (ae (gv 12) (ae (gv 9) ah))) (ae (aE bw (ae (gv 12) (ae (gv 9) ah))) ah))))) (c5 (f2 (f1 (gv 12) jk) (gv 13) (As true))))
 (bR (cst (.bool false)))
 lR))))))))))))))
 (bR (cst (.bool true))))
end RM

end

section
namespace RM
open PySem L2
def Gt (d:D):Prop:=cM d=false/\∀ds,d=.list ds->ds.length<=60/\∀e,e∈ds->Ge e
def uv (p q:Pr):Bool:=decide (p.1 < q.1) && decide (p.2 < q.2)
def FI:List D->FR:=bJ 2 2 iW
theorem Gg (p q:Pr):FI [ao p,ao q]=.ok (.bool (uv p q)) false:=by
 show fin (iW [.fz (ao p),.fz (ao q)] 0)=_
 unfold iW
 rw[gV,vW (a:=decide (p.1 < q.1)) (b:=decide (p.2 < q.2)) rfl rfl];rfl
def gf (ps:List Pr)(a:Int):Pr:=ps.getD a.toNat (0,0)
def xO (n:Nat)(ps:List Pr):List Pr:=(OM.b6 n).filter fun p=>uv (gf ps p.1) (gf ps p.2)
def EV (n:Nat)(l:List Pr)(ps:List Pr):Prop:=(ps.map (·.1)).Perm (dt n)/\(ps.map (·.2)).Perm (dt n)/\xO n ps=l
noncomputable def zF (n:Nat)(l:List Pr)(d:D):Bool:=@decide (∃ps:List Pr,d=.list (ps.map ao)/\EV n l ps) (Classical.propDecidable _)
theorem vh {n:Nat}{l ps:List Pr}(h:EV n l ps):zF n l (.list (ps.map ao))=true:=@decide_eq_true _ (Classical.propDecidable _) ⟨ps,rfl,h⟩
theorem pw {n:Nat}{l:List Pr}{d:D}(h:∀ps:List Pr,d=.list (ps.map ao)->¬EV n l ps):zF n l d=false:=@decide_eq_false _ (Classical.propDecidable _) fun⟨ps,e,p⟩=>h ps e p
theorem nK {n:Nat}{l ps:List Pr}(h:¬EV n l ps):zF n l (.list (ps.map ao))=false:=pw fun qs e hq=>h (jj (PyData.list.inj e)▸hq)
theorem yi {n:Nat}:∀{ds:List D},ds.all (xZ n)=true->∃ps:List Pr,ds=ps.map ao/\OM.Wn n ps
 | [],_=>⟨[],rfl,fun p hp=>by cases hp⟩
 |d :: ds,h=>by
  rw[List.all_cons,Bool.and_eq_true] at h
  obtain⟨p,rfl,hp⟩:=Fp h.1
  obtain⟨ps,rfl,hps⟩:=yi h.2
  refine⟨p :: ps,rfl,fun q hq=>?_⟩
  rcases List.mem_cons.mp hq with rfl |hq
  ·exact hp
  ·exact hps q hq
theorem DZ {n:Nat}{ps:List Pr}(h:OM.Wn n ps):(ps.map ao).all (xZ n)=true:=by
 rw[List.all_map,List.all_eq_true]
 intro p hp
 have:=h p hp
 show (decide (0<=p.1/\p.1 < (n:Int)) && decide (0<=p.2/\p.2 < (n:Int)))=true
 rw[decide_eq_true this.1,decide_eq_true this.2];rfl
theorem C8 {n:Nat}{l ps:List Pr}(h:EV n l ps):OM.Wn n ps:=fun p hp=>⟨cG.mp (h.1.mem_iff.mp (List.mem_map_of_mem hp)),cG.mp (h.2.1.mem_iff.mp (List.mem_map_of_mem hp))⟩
theorem qf {ps:List Pr}{a:Int}(h:0<=a/\a < ps.length):jA (ps.map ao) a=some (ao (gf ps a)):=by
 have e:((a.toNat:Nat):Int)=a:=by omega
 have hl:a.toNat < ps.length:=by omega
 rw[gz,<-e,nZ hl]
 unfold gf
 rw[show ((a.toNat:Nat):Int).toNat=a.toNat by omega,List.getD_eq_getElem?_getD,List.getElem?_eq_getElem hl];rfl
noncomputable def Eg:List D->FR:=bJ 3 2 (fM nN FN rn pG FI)
theorem GA {n:Nat}{l:List Pr}{d:D}(O:OM.Ord n l)(h:Gt d):Eg [d,aK n l]=.ok (.bool (zF n l d)) false:=by
 have h8:=O.hi
 show fin (fM nN FN rn pG FI [.fz d,.fz (aK n l),.no] 0)=_
 unfold fM
 rw[aq (env':=[.fz d,.fz (aK n l),.no]) (β':=0) (by rw[yn,aP (ds:=[aK n l]) (β1:=0) rfl (z6 O)];rfl)]
 rw[aq (env':=[.fz d,.fz (aK n l),.fz (.int n)]) (β':=0) (by rw[bV,Hf (n:=n) (l:=l) rfl];rfl)]
 have e1:=Cy (fa:=gv 0) (vs:=vl [.fz d,.fz (aK n l),.fz (.int n)]) (β:=0) rfl h.1
 cases q:BA d with
 |false=>
  rw[q] at e1
  rw[cg (d:=.bool false) (b:=false) (β':=0) (by rw[eV (nI (bC (gM e1)))];rfl),pw]
  ·rfl
  ·rintro ps rfl;cases q
 |true=>
  rw[q] at e1
  obtain⟨ds,rfl⟩:=vv q
  have hd:=h.2 ds rfl
  have ec:aG 1 [2] (.nm 0) (bh (gv 0)) gy (aE FN (ae (gv 0) (ae (gv 1) ah))) (vl [.fz (.list ds),.fz (aK n l),.fz (.int n)]) 0=.ok (.list (ds.map fun e=>PyData.bool (xZ n e))) 0:=
   lB (fun e=>PyData.bool (xZ n e)) rfl (by omega) fun e he=>⟨_,rfl,aP (ds:=[e,.int n]) rfl (GI (hd.2 e he))⟩
  have ea:=pK ec
  cases hb:ds.all (xZ n) with
  |false=>
   have ea:f1 _ _ _ _=R.ok (.bool (ds.all (xZ n))) 0:=ea
   rw[hb] at ea
   rw[cg (d:=.bool false) (b:=false) (β':=0) (by rw[eV (gR (bC (gM e1)) (bC (gM ea)))];rfl),pw]
   ·rfl
   ·intro ps e hp
    have e:=PyData.list.inj e
    subst e
    rw[DZ (C8 hp)] at hb;cases hb
  |true=>
   have ea:f1 _ _ _ _=R.ok (.bool (ds.all (xZ n))) 0:=ea
   rw[hb] at ea
   obtain⟨ps,rfl,wn⟩:=yi hb
   have hpl:ps.length<=60:=by have:=hd.1;rwa [List.length_map] at this
   rw[aq (env':=[.fz (.list (ps.map ao)),.fz (aK n l),.fz (.int n)]) (β':=0) (by rw[fF (gR (bC (gM e1)) (bC (gM ea)))];rfl)]
   have x1:f1 (aG 2 [] (.two 0 1) (bh (gv 0)) gy (gv 0)) bX (vl [.fz (.list (ps.map ao)),.fz (aK n l),.fz (.int n)]) 0=.ok (tupI (ps.map (·.1))) 0:=by
    refine cc (x:=.list (ps.map fun p=>PyData.int p.1)) (cq (l:=ps) (e:=ao) (fun p=>PyData.int p.1) rfl (by omega) fun p hp=>⟨_,rfl,rfl⟩) ?_
    unfold tupI;rw[List.map_map];rfl
   have x2:f1 (aG 2 [] (.two 0 1) (bh (gv 0)) gy (gv 1)) bX (vl [.fz (.list (ps.map ao)),.fz (aK n l),.fz (.int n)]) 0=.ok (tupI (ps.map (·.2))) 0:=by
    refine cc (x:=.list (ps.map fun p=>PyData.int p.2)) (cq (l:=ps) (e:=ao) (fun p=>PyData.int p.2) rfl (by omega) fun p hp=>⟨_,rfl,rfl⟩) ?_
    unfold tupI;rw[List.map_map];rfl
   have ge:∀r:List Int,r.length<=100->Ge (tupI r):=fun r hr=>zv (by rw[List.length_map];exact hr) fun x hx=>by obtain⟨i,_,rfl⟩:=List.mem_map.mp hx;rfl
   have t1:jT (aE rn (ae (f1 (aG 2 [] (.two 0 1) (bh (gv 0)) gy (gv 0)) bX) (ae (gv 2) ah))) (vl [.fz (.list (ps.map ao)),.fz (aK n l),.fz (.int n)]) 0=.ok (jQ n (tupI (ps.map (·.1)))) 0:=gM (aP (ds:=[tupI (ps.map (·.1)),.int n]) (ac x1 (ac rfl an)) (y2 (by omega) (ge _ (by rw[List.length_map];omega))))
   have t2:jT (aE rn (ae (f1 (aG 2 [] (.two 0 1) (bh (gv 0)) gy (gv 1)) bX) (ae (gv 2) ah))) (vl [.fz (.list (ps.map ao)),.fz (aK n l),.fz (.int n)]) 0=.ok (jQ n (tupI (ps.map (·.2)))) 0:=gM (aP (ds:=[tupI (ps.map (·.2)),.int n]) (ac x2 (ac rfl an)) (y2 (by omega) (ge _ (by rw[List.length_map];omega))))
   have no:∀r:List Int,jQ n (tupI r)=false->¬r.Perm (dt n):=fun r hr pm=>by rw[rP pm] at hr;cases hr
   cases q1:jQ n (tupI (ps.map (·.1))) with
   |false=>
    rw[q1] at t1
    rw[cg (d:=.bool false) (b:=false) (β':=0) (by rw[eV (nI (bC t1))];rfl),nK fun hp=>no _ q1 hp.1]
    rfl
   |true=>
    rw[q1] at t1
    cases q2:jQ n (tupI (ps.map (·.2))) with
    |false=>
     rw[q2] at t2
     rw[cg (d:=.bool false) (b:=false) (β':=0) (by rw[eV (gR (bC t1) (bC t2))];rfl),nK fun hp=>no _ q2 hp.2.1]
     rfl
    |true=>
     rw[q2] at t2
     rw[aq (env':=[.fz (.list (ps.map ao)),.fz (aK n l),.fz (.int n)]) (β':=0) (by rw[fF (gR (bC t1) (bC t2))];rfl)]
     obtain⟨r1,z1,pm1⟩:=zS q1
     have z1:=mY z1
     subst z1
     obtain⟨r2,z2,pm2⟩:=zS q2
     have z2:=mY z2
     subst z2
     have hlen:ps.length=n:=by have:=pm1.length_eq;rwa [List.length_map,cF] at this
     have hg:(OM.b6 n).length<=64:=by rw[eT];exact Nat.mul_le_mul h8 h8
     have e9:aG 2 [0] (.two 0 1) (bh (aE pG (ae (gv 2) ah))) (jT (aE FI (ae (f2 (gv 2) (gv 0) bz) (ae (f2 (gv 2) (gv 1) bz) ah)))) (aX (ae (gv 0) (ae (gv 1) ah))) (vl [.fz (.list (ps.map ao)),.fz (aK n l),.fz (.int n)]) 0=.ok (.list ((xO n ps).map ao)) 0:=by
      refine iH (l:=OM.b6 n) (e:=ao) (fun p=>uv (gf ps p.1) (gf ps p.2)) ao ?_ (by omega) fun p hp'=>⟨_,rfl,?_,fun _=>h9 rfl rfl⟩
      ·unfold bh
       rw[aP (ds:=[.int n]) (β1:=0) rfl (A5 O.lo h8)];rfl
      ·have:=OM.a8.mp hp'
       refine gM (aP (ds:=[ao (gf ps p.1),ao (gf ps p.2)]) (ac (aA (x:=.list (ps.map ao)) (y:=.int p.1) rfl rfl (qf ⟨this.1.1,by omega⟩)) (ac (aA (x:=.list (ps.map ao)) (y:=.int p.2) rfl rfl (qf ⟨this.2.1,by omega⟩)) an)) (Gg _ _))
     rw[gV,aA (x:=.tuple ((xO n ps).map ao)) (y:=.tuple (l.map ao)) (β1:=0) (cc (g:=bX) e9 rfl) (Hu (n:=n) (l:=l) rfl) (nv false (xO n ps) l)]
     show FR.ok (.bool (decide (xO n ps=l))) false=_
     by_cases z:xO n ps=l
     ·rw[decide_eq_true z,vh ⟨pm1,pm2,z⟩]
     ·rw[decide_eq_false z,nK fun hp=>z hp.2.2]
end RM

end

section
namespace RM
open PySem L2
def y9:D->Bool
 | .tuple [.int _,.int _]=>true
 |_=>false
theorem Fb {d:D}(h:y9 d=true):∃p:Pr,d=ao p:=by
 unfold y9 at h
 split at h
 ·rename_i a b;exact⟨(a,b),rfl⟩
 ·cases h
theorem zR:∀{ds:List D},ds.all y9=true->∃ps:List Pr,ds=ps.map ao
 | [],_=>⟨[],rfl⟩
 |d :: ds,h=>by
  rw[List.all_cons,Bool.and_eq_true] at h
  obtain⟨p,rfl⟩:=Fb h.1
  obtain⟨ps,rfl⟩:=zR h.2
  exact⟨p :: ps,rfl⟩
theorem Ea {es:List D}(h:∀x y,es≠ [x,y]):y9 (.tuple es)=false:=by
 unfold y9
 split
 ·rename_i a b e;cases e;exact absurd rfl (h _ _)
 ·rfl
theorem Hb {fa:VF D}{vs:List Nv}{d:D}{ixs:List Nat}{β:Int}(hg:∀b,fa vs b=.ok d b)(h:Ge d):iy (lK (jT (f1 fa (dJ "tuple")))) (iy (c5 (f2 (f1 fa c8) (cst (.int 2)) (dv true))) (lK (jT (f1 (aG 1 [] (.nm 0) (bh fa) gy (aE Ei (ae (gv 0) ah))) (di fun bs=>bs.all id))))) vs β=.ok (!y9 d) β:=by
 have t1:=x8 (hg β) h.1
 cases hy:xq d with
 |false=>
  rw[hy] at t1
  rw[nI (bC t1)]
  cases d <;> first |rfl |cases hy
 |true=>
  obtain⟨es,rfl⟩:=qE hy
  rw[hy] at t1
  have t2:=yJ (k:=2) (hg β)
  rcases nR (es:=es) with⟨q,z⟩ | ⟨x,y,rfl⟩
  ·rw[q] at t2
   rw[gR (bC t1) (nI t2),Ea]
   ·rfl
   ·rintro x y rfl;cases q
  ·have hs:=(h.2 _ rfl).2
   have ec:aG 1 [] (.nm 0) (bh fa) gy (aE Ei (ae (gv 0) ah)) vs β=.ok (.list ([x,y].map fun e=>PyData.bool (ou e))) β:=
    lB (fun e=>PyData.bool (ou e)) (by unfold bh;rw[hg β];rfl) (by simp) fun e he=>⟨_,rfl,aP (ds:=[e]) rfl (Hd (hs e he))⟩
   have ea:=pK ec
   have e2: [x,y].all ou=(ou x && ou y):=by simp
   rw[e2] at ea
   rw[gR (bC t1) (gR t2 (bC (gM ea)))]
   congr 1
   cases x with
   |int a=>cases y <;> first |rfl | (simp[ou,y9])
   |_=>first |rfl | (simp[ou,y9])
def qK (n:Nat)(f:Pr->Bool)(i:Nat):List Pr:=(OM.b6 n).filter fun p=>decide (p.1 < i) && f p
theorem yR (n:Nat)(f:Pr->Bool):qK n f 0= []:=by
 unfold qK
 rw[List.filter_eq_nil_iff]
 intro p hp
 have:=(OM.a8.mp hp).1.1
 rw[decide_eq_false (by omega)];simp
theorem A9 (n:Nat)(f:Pr->Bool):qK n f n=(OM.b6 n).filter f:=by
 unfold qK
 refine List.filter_congr fun p hp=>?_
 have:=(OM.a8.mp hp).1.2
 rw[decide_eq_true this,Bool.true_and]
theorem zC {n i:Nat}(f:Pr->Bool)(hi:i < n):qK n f (i + 1)=qK n f i ++ ((dt n).filter fun b=>f ((i:Int),b)).map fun b=>((i:Int),b):=by
 refine OM.fQ (OM.dN _ (OM.gr n)) ?_ fun x=>?_
 ·show List.Pairwise OM.AD _
  rw[List.pairwise_append]
  refine⟨OM.dN _ (OM.gr n),?_,fun p hp q hq=>?_⟩
  ·rw[List.pairwise_map]
   exact ((yb n).filter _).imp fun {a b} h=>.inr ⟨rfl,h⟩
  ·unfold qK at hp
   have h1:=(List.mem_filter.mp hp).2
   rw[Bool.and_eq_true,decide_eq_true_eq] at h1
   obtain⟨b,_,rfl⟩:=List.mem_map.mp hq
   exact .inl h1.1
 ·rw[List.mem_append]
  unfold qK
  rw[List.mem_filter,List.mem_filter,List.mem_map,OM.a8]
  simp only[Bool.and_eq_true,decide_eq_true_eq]
  constructor
  ·rintro⟨h1,h2,h3⟩
   by_cases z:x.1 < i
   ·exact .inl ⟨h1,z,h3⟩
   ·have e:x.1=i:=by omega
    obtain⟨xa,xb⟩:=x
    simp only at e h1 h3
    subst e
    exact .inr ⟨xb,List.mem_filter.mpr ⟨cG.mpr h1.2,h3⟩,rfl⟩
  ·rintro (⟨h1,h2,h3⟩ | ⟨b,hb,rfl⟩)
   ·exact⟨h1,by omega,h3⟩
   ·obtain⟨hb1,hb2⟩:=List.mem_filter.mp hb
    have:=cG.mp hb1
    exact⟨⟨⟨by omega,by omega⟩,this⟩,by omega,hb2⟩
theorem BH {n:Nat}(f:Pr->Bool)(i:Nat)(h8:n<=8):(qK n f i).length<=64:=by
 have h1:(qK n f i).length<=(OM.b6 n).length:=List.length_filter_le _ _
 rw[eT] at h1
 have:n * n<=64:=Nat.mul_le_mul h8 h8
 omega
abbrev kX (d:D)(n:Nat)(l:List Pr)(s3 s4 s5 s6:Sl):En:=[.fz d,.fz (aK n l),.fz (.int n),s3,s4,s5,s6]
noncomputable def Ej:List D->FR:=bJ 7 2 (cK Ei)
abbrev yX:SF:=ko ([] ++ (([] ++ []) ++ ([] ++ []))) (iy (lK (jT (f1 (gv 3) (dJ "tuple")))) (iy (c5 (f2 (f1 (gv 3) c8) (cst (.int 2)) (dv true))) (lK (jT (f1 (aG 1 [] (.nm 0) (bh (gv 3)) gy (aE Ei (ae (gv 0) ah))) (di fun bs=>bs.all id))))))
 (bR (cst (.bool false)))
 lR
abbrev zZ:SF:=ko (([] ++ []) ++ []) (c5 (f2 (f1 (aG 1 [4] (.nm 0) (bh (gv 0)) gy (f2 (gv 0) (gv 1) bz)) lu) (f1 (gv 2) bS) (dv true)))
 (bR (cst (.bool false)))
 lR
def sd (j:Nat)(p:Pr):Int:=if j=0 then p.1 else p.2
theorem nz {n:Nat}{r:List Int}:(sortI r=dt n)↔r.Perm (dt n):=by
 constructor
 ·intro h;rw[<-h];exact (sortI_perm r).symm
 ·intro h;exact (nG h.symm ((yb n).imp fun h=>Int.le_of_lt h)).symm
theorem AM {n:Nat}{l ps:List Pr}{j:Nat}{s3 s5 s6:Sl}(h8:n<=8)(hl:ps.length < 60)(hj:j < 2):c5 (f2 (f1 (aG 1 [4] (.nm 0) (bh (gv 0)) gy (f2 (gv 0) (gv 1) bz)) lu) (f1 (gv 2) bS) (dv true)) (vl (kX (.list (ps.map ao)) n l s3 (.fz (.int j)) s5 s6)) 0=.ok (!decide (sortI (ps.map (sd j))=dt n)) 0:=by
 have ec:aG 1 [4] (.nm 0) (bh (gv 0)) gy (f2 (gv 0) (gv 1) bz) (vl (kX (.list (ps.map ao)) n l s3 (.fz (.int j)) s5 s6)) 0=.ok (.list ((ps.map (sd j)).map PyData.int)) 0:=by
  rw[List.map_map]
  refine cq (l:=ps) (e:=ao) (fun p=>PyData.int (sd j p)) rfl (by omega) fun p hp=>⟨_,rfl,aA (x:=ao p) (y:=.int j) rfl rfl ?_⟩
  have:j=0\/j=1:=by omega
  rcases this with rfl |rfl <;> rfl
 refine g9 _ _ _ _ (aA (x:=.list ((sortI (ps.map (sd j))).map PyData.int)) (y:=.list ((dt n).map PyData.int)) (cc ec ?_) (cc (x:=.int n) rfl (jg (by omega))) (mV true _ _))
 unfold lu
 dsimp only
 rw[fW]
 dsimp only
 rw[if_pos (by rw[List.length_map];omega)]
theorem E5 {n:Nat}{l ps:List Pr}(O:OM.Ord n l)(hl:ps.length=n)(h1:(ps.map (·.1)).Perm (dt n))(h2:(ps.map (·.2)).Perm (dt n))(s3 s4:Sl):fin (aH (aZ 5 [] (ba ah))
 (aH (cE (.nm 6) [] (bF (gv 2))
 (aZ 5 ([] ++ ([] ++ [6])) (f2 (gv 5) (aG 1 [0,6] (.nm 0) (bF (gv 2)) (yL (c5 (f2 (f2 (f2 (gv 1) (gv 2) bz) (cst (.int 0)) bz) (f2 (f2 (gv 1) (gv 0) bz) (cst (.int 0)) bz) qt)) (c5 (f2 (f2 (f2 (gv 1) (gv 2) bz) (cst (.int 1)) bz) (f2 (f2 (gv 1) (gv 0) bz) (cst (.int 1)) bz) qt))) (aX (ae (gv 2) (ae (gv 0) ah)))) c6)))
 (bR (f2 (f1 (gv 5) bX) (f2 (gv 1) (cst (.int 1)) bz) (dv false)))) (kX (.list (ps.map ao)) n l s3 s4 .no .no) 0)=.ok (.bool (decide (xO n ps=l))) false:=by
 have h8:=O.hi
 rw[aq (env':=kX (.list (ps.map ao)) n l s3 s4 (.fz (.list ((qK n (fun p=>uv (gf ps p.1) (gf ps p.2)) 0).map ao))) .no) (β':=0) (by rw[bV,lp (ds:=[]) an,yR];rfl)]
 obtain⟨env',β',ef,s6,rfl,rfl⟩:=cv (t:=.nm 6) (m:=aZ 5 ([] ++ ([] ++ [6])) (f2 (gv 5) (aG 1 [0,6] (.nm 0) (bF (gv 2)) (yL (c5 (f2 (f2 (f2 (gv 1) (gv 2) bz) (cst (.int 0)) bz) (f2 (f2 (gv 1) (gv 0) bz) (cst (.int 0)) bz) qt)) (c5 (f2 (f2 (f2 (gv 1) (gv 2) bz) (cst (.int 1)) bz) (f2 (f2 (gv 1) (gv 0) bz) (cst (.int 1)) bz) qt))) (aX (ae (gv 2) (ae (gv 0) ah)))) c6)) (ds:=bG 0 n) (k:=0)
  (fun i env b=>∃s6,env=kX (.list (ps.map ao)) n l s3 s4 (.fz (.list ((qK n (fun p=>uv (gf ps p.1) (gf ps p.2)) i).map ao))) s6/\b=0)
  (env:=kX (.list (ps.map ao)) n l s3 s4 (.fz (.list ((qK n (fun p=>uv (gf ps p.1) (gf ps p.2)) 0).map ao))) .no) (β:=0) ⟨.no,rfl,rfl⟩ (by
   rintro i d env b hi ⟨s6,rfl,rfl⟩
   obtain⟨hin,rfl⟩:=gq hi
   refine⟨kX (.list (ps.map ao)) n l s3 s4 (.fz (.list ((qK n (fun p=>uv (gf ps p.1) (gf ps p.2)) (0 + i)).map ao))) (.fz (.int (0 + (i:Int)))),rfl,?_⟩
   rw[Nat.zero_add,Int.zero_add]
   have ec:aG 1 [0,6] (.nm 0) (bF (gv 2)) (yL (c5 (f2 (f2 (f2 (gv 1) (gv 2) bz) (cst (.int 0)) bz) (f2 (f2 (gv 1) (gv 0) bz) (cst (.int 0)) bz) qt)) (c5 (f2 (f2 (f2 (gv 1) (gv 2) bz) (cst (.int 1)) bz) (f2 (f2 (gv 1) (gv 0) bz) (cst (.int 1)) bz) qt))) (aX (ae (gv 2) (ae (gv 0) ah))) (vl (kX (.list (ps.map ao)) n l s3 s4 (.fz (.list ((qK n (fun p=>uv (gf ps p.1) (gf ps p.2)) i).map ao))) (.fz (.int i)))) 0=.ok (.list (((dt n).filter fun b=>uv (gf ps i) (gf ps b)).map fun b=>ao ((i:Int),b))) 0:=by
    refine iH (l:=dt n) (e:=PyData.int) (fun b=>uv (gf ps i) (gf ps b)) (fun b=>ao ((i:Int),b)) ?_ (by rw[cF];omega) fun b hb=>⟨_,rfl,?_,fun _=>h9 rfl rfl⟩
    ·rw[<-jJ];exact cz (n:=n) rfl (by omega)
    ·have hb:=cG.mp hb
     have ai:=qf (ps:=ps) (a:=i) ⟨by omega,by omega⟩
     have ab:=qf (ps:=ps) (a:=b) ⟨hb.1,by omega⟩
     have gi:f2 (gv 1) (gv 2) bz [.da (.int b),.da (.list (ps.map ao)),.da (.int i)] 0=.ok (ao (gf ps i)) 0:=aA (x:=.list (ps.map ao)) (y:=.int i) rfl rfl ai
     have gb:f2 (gv 1) (gv 0) bz [.da (.int b),.da (.list (ps.map ao)),.da (.int i)] 0=.ok (ao (gf ps b)) 0:=aA (x:=.list (ps.map ao)) (y:=.int b) rfl rfl ab
     exact yw (g9 _ _ _ _ (aA (x:=.int (gf ps i).1) (y:=.int (gf ps b).1) (aA gi rfl rfl) (aA gb rfl rfl) rfl)) (g9 _ _ _ _ (aA (x:=.int (gf ps i).2) (y:=.int (gf ps b).2) (aA gi rfl rfl) (aA gb rfl rfl) rfl))
   refine⟨kX (.list (ps.map ao)) n l s3 s4 (.fz (.list ((qK n (fun p=>uv (gf ps p.1) (gf ps p.2)) (i + 1)).map ao))) (.fz (.int i)),0,?_,_,rfl,rfl⟩
   rw[bV,aA (x:=.list ((qK n (fun p=>uv (gf ps p.1) (gf ps p.2)) i).map ao)) (β1:=0) rfl ec (dE (by
    rw[List.length_map,List.length_map]
    have h1:=BH (fun p=>uv (gf ps p.1) (gf ps p.2)) i h8
    have h2:((dt n).filter fun b=>uv (gf ps i) (gf ps b)).length<=(dt n).length:=List.length_filter_le _ _
    rw[cF] at h2
    omega)),zC _ hin,List.map_append,List.map_map]
   rfl)
 rw[b8,Nat.zero_add,A9] at ef
 rw[aq (env':=kX (.list (ps.map ao)) n l s3 s4 (.fz (.list ((xO n ps).map ao))) s6) (β':=0) (by
  rw[b9 (env:=kX (.list (ps.map ao)) n l s3 s4 (.fz (.list ((qK n (fun p=>uv (gf ps p.1) (gf ps p.2)) 0).map ao))) .no) (cz (n:=n) rfl (by omega))]
  exact ef)]
 rw[gV,aA (x:=.tuple ((xO n ps).map ao)) (y:=.tuple (l.map ao)) (β1:=0) (cc (g:=bX) (x:=.list ((xO n ps).map ao)) rfl rfl) (Hu (n:=n) (l:=l) rfl) (nv false (xO n ps) l)]
 rfl
theorem Gz {n:Nat}{l:List Pr}{d:D}(O:OM.Ord n l)(h:Gt d):Ej [d,aK n l]=.ok (.bool (zF n l d)) false:=by
 have h8:=O.hi
 show fin (cK Ei [.fz d,.fz (aK n l),.no,.no,.no,.no,.no] 0)=_
 unfold cK
 rw[aq (env':=kX d n l .no .no .no .no) (β':=0) (by rw[bV,Hf (n:=n) (l:=l) rfl];rfl)]
 have e1:=Cy (fa:=gv 0) (vs:=vl (kX d n l .no .no .no .no)) (β:=0) rfl h.1
 cases q:BA d with
 |false=>
  rw[q] at e1
  rw[cg (d:=.bool false) (b:=false) (β':=0) (by rw[eV (nI (bC (gM e1)))];rfl),pw]
  ·rfl
  ·rintro ps rfl;cases q
 |true=>
  rw[q] at e1
  obtain⟨ds,rfl⟩:=vv q
  have hd:=h.2 ds rfl
  have t2:c5 (f2 (f1 (gv 0) c8) (gv 2) (dv true)) (vl (kX (.list ds) n l .no .no .no .no)) 0=.ok (!decide ((ds.length:Int)=n)) 0:=gH (neg:=true) (Ae rfl) rfl
  by_cases hl:ds.length=n
  ·rw[decide_eq_true (by omega)] at t2
   rw[aq (env':=kX (.list ds) n l .no .no .no .no) (β':=0) (by rw[fF (gR (bC (gM e1)) t2)];rfl)]
   have hF:=mI (t:=.nm 3) (m:=yX) (ds:=ds) (fun i=> !y9 (ds.getD i .none)) (.bool false) (fun env b=>∃s3,env=kX (.list ds) n l s3 .no .no .no/\b=0) (es:=ds) (k:=0) (env:=kX (.list ds) n l .no .no .no .no) (β:=0) rfl ⟨.no,rfl,rfl⟩ (by
    rintro i d env b hi ⟨s3,rfl,rfl⟩
    refine⟨kX (.list ds) n l (.fz d) .no .no .no,rfl,?_⟩
    have hgd:ds.getD i .none=d:=by rw[List.getD_eq_getElem?_getD,hi];rfl
    rw[hgd]
    have t:=Hb (ixs:=[]) (fa:=gv 3) (vs:=vl (kX (.list ds) n l (.fz d) .no .no .no)) (d:=d) (β:=0) (fun _=>rfl) (hd.2 d (List.mem_of_getElem? hi))
    cases c:y9 d with
    |false=>rw[c] at t;exact .inl ⟨rfl,0,by unfold yX;rw[eV t];rfl⟩
    |true=>rw[c] at t;exact .inr ⟨rfl,_,0,by unfold yX;rw[fF t];rfl,_,rfl,rfl⟩)
   rcases hF with⟨⟨i,_,hil,hg⟩,β',ef⟩ | ⟨hg,env',β',ef,s3,rfl,rfl⟩
   ·rw[cg (d:=.bool false) (b:=false) (β':=β') (by rw[b9 (env:=kX (.list ds) n l .no .no .no .no) (ds:=ds) (β1:=0) rfl];exact ef),pw]
    ·rfl
    ·intro ps e _
     have e:=PyData.list.inj e
     subst e
     rw[List.length_map] at hil
     rw[List.getD_eq_getElem?_getD,List.getElem?_map,List.getElem?_eq_getElem hil] at hg
     cases hg
   ·have hall:ds.all y9=true:=by
     rw[List.all_eq_true]
     intro d hm
     obtain⟨i,hi,e⟩:=List.getElem_of_mem hm
     have:=hg i (Nat.zero_le _) hi
     rw[List.getD_eq_getElem?_getD,List.getElem?_eq_getElem hi] at this
     rw[<-e]
     simpa using this
    obtain⟨ps,rfl⟩:=zR hall
    have hpl:ps.length=n:=by rw[List.length_map] at hl;exact hl
    rw[aq (env':=kX (.list (ps.map ao)) n l s3 .no .no .no) (β':=0) (by rw[b9 (env:=kX (.list (ps.map ao)) n l .no .no .no .no) (ds:=ps.map ao) (β1:=0) rfl];exact ef)]
    have hS:=mI (t:=.nm 4) (m:=zZ) (ds:=bG 0 2) (fun j=> !decide (sortI (ps.map (sd j))=dt n)) (.bool false) (fun env b=>∃s4,env=kX (.list (ps.map ao)) n l s3 s4 .no .no/\b=0) (es:=bG 0 2) (k:=0) (env:=kX (.list (ps.map ao)) n l s3 .no .no .no) (β:=0) rfl ⟨.no,rfl,rfl⟩ (by
     rintro j d env b hj ⟨s4,rfl,rfl⟩
     obtain⟨hj2,rfl⟩:=gq hj
     refine⟨kX (.list (ps.map ao)) n l s3 (.fz (.int (0 + (j:Int)))) .no .no,rfl,?_⟩
     rw[Int.zero_add]
     have t:=AM (l:=l) (s3:=s3) (s5:=.no) (s6:=.no) h8 (show ps.length < 60 by omega) hj2
     cases c:(!decide (sortI (ps.map (sd j))=dt n)) with
     |true=>rw[c] at t;exact .inl ⟨rfl,0,by unfold zZ;rw[eV t];rfl⟩
     |false=>rw[c] at t;exact .inr ⟨rfl,_,0,by unfold zZ;rw[fF t];rfl,_,rfl,rfl⟩)
    have er:bF (cst (.int 2)) (vl (kX (.list (ps.map ao)) n l s3 .no .no .no)) 0=.ok (bG 0 2) 0:=cz (n:=2) rfl (by omega)
    rcases hS with⟨⟨j,_,hjl,hg2⟩,β',ef2⟩ | ⟨hg2,env',β',ef2,s4,rfl,rfl⟩
    ·rw[cg (d:=.bool false) (b:=false) (β':=β') (by rw[b9 (env:=kX (.list (ps.map ao)) n l s3 .no .no .no) er];exact ef2),nK]
     ·rfl
     ·intro hp
      rw[b8] at hjl
      rw[Bool.not_eq_true',decide_eq_false_iff_not,nz] at hg2
      have:j=0\/j=1:=by omega
      rcases this with rfl |rfl
      ·exact hg2 hp.1
      ·exact hg2 hp.2.1
    ·rw[aq (env':=kX (.list (ps.map ao)) n l s3 s4 .no .no) (β':=0) (by rw[b9 (env:=kX (.list (ps.map ao)) n l s3 .no .no .no) er];exact ef2)]
     have p1:(ps.map (·.1)).Perm (dt n):=by
      have:=hg2 0 (by omega) (by rw[b8];omega)
      rw[Bool.not_eq_false',decide_eq_true_eq,nz] at this
      exact this
     have p2:(ps.map (·.2)).Perm (dt n):=by
      have:=hg2 1 (by omega) (by rw[b8];omega)
      rw[Bool.not_eq_false',decide_eq_true_eq,nz] at this
      exact this
     rw[E5 O hpl p1 p2]
     by_cases z:xO n ps=l
     ·rw[decide_eq_true z,vh ⟨p1,p2,z⟩]
     ·rw[decide_eq_false z,nK fun hp=>z hp.2.2]
  ·rw[decide_eq_false (by omega)] at t2
   rw[cg (d:=.bool false) (b:=false) (β':=0) (by rw[eV (gR (bC (gM e1)) t2)];rfl),pw]
   ·rfl
   ·intro ps e hp
    have e:=PyData.list.inj e
    subst e
    have:=hp.1.length_eq
    rw[List.length_map,cF] at this
    rw[List.length_map] at hl
    exact hl this
end RM

end

section
namespace RM
open PySem L2
def AA (d:D):Prop:=Gt d/\v3 d=true
theorem eQ {ds:List D}(hl:ds.length<=60)(h:∀e,e∈ds->El e):AA (.list ds):=by
 refine⟨⟨rfl,fun es e=>by cases e;exact⟨hl,fun x hx=>(h x hx).1⟩⟩,zf (zV (c:=100) (k:=8) fun d hd=>(h d hd).2.1) ?_ (by omega) (yB fun d hd=>(h d hd).2.2)⟩
 have:(100 + 2) * ds.length<=102 * 60:=Nat.mul_le_mul_left _ hl
 omega
theorem BC {ds:List D}(hl:ds.length<=60)(h:∀e,e∈ds->El e):AA (.tuple ds):=by
 refine⟨⟨rfl,fun es e=>by cases e⟩,zf (Aa (c:=100) (k:=8) fun d hd=>(h d hd).2.1) ?_ (by omega) (Aj fun d hd=>(h d hd).2.2)⟩
 have:(100 + 2) * ds.length<=102 * 60:=Nat.mul_le_mul_left _ hl
 omega
theorem Bs {o:D}(h:o∈gc):AA o:=by
 obtain⟨h1,h2,h3,h4⟩:=vH o h
 refine⟨⟨h3,fun ds e=>?_⟩,zf (c:=60) (k:=5) h1 (by omega) (by omega) h2⟩
 subst e
 simp only[gc,List.mem_cons,List.not_mem_nil,or_false,PyData.list.injEq,reduceCtorEq,false_or] at h
 rcases h with rfl |rfl
 ·exact⟨by simp,fun e he=>by cases he⟩
 ·exact⟨by simp,fun e he=>by rw[List.mem_singleton] at he;subst he;exact⟨rfl,fun es e=>by cases e⟩⟩
theorem mD {ps:List Pr}(h:∀p,p∈ps->Sp p):∀e,e∈ps.map ao->El e:=fun e he=>by
 obtain⟨p,hp,rfl⟩:=List.mem_map.mp he
 exact zm (h p hp)
noncomputable def vf:List D->Int->FB:=l0 11 2 (gN bZ)
abbrev be (ps:List Pr)(o:D)(s3 s4 s5 s6 s7 s8 s9 s10:Sl):En:=[.bx,.fz (.list (ps.map ao)),.fz o,s3,s4,s5,s6,s7,s8,s9,s10]
def xH (p:Pr):Prop:=(0<=p.1/\p.1<=7)/\(0<=p.2/\p.2<=7)
theorem xH.sp {p:Pr}(h:xH p):Sp p:=⟨⟨h.1.1,by have:=h.1.2;omega⟩,⟨h.2.1,by have:=h.2.2;omega⟩⟩
def news (p:Pr)(o:D):List D:=[.tuple [.int p.2,.int p.1],.tuple [.int p.1,.int (p.2 + 1)],.tuple [.int p.1,.bool (decide (p.2=1))],.list [.int p.1,.int p.2],.tuple [.int p.1,.int p.2,.int 0],o,.tuple [.int (p.1 + 1),.int p.2]]
theorem BY {p:Pr}{o:D}(hp:xH p)(ho:o∈gc):∀w,w∈news p o->El w:=by
 have a:=fK (i:=p.1) (by have:=hp.1;omega)
 have b:=fK (i:=p.2) (by have:=hp.2;omega)
 intro w hw
 simp only[news,List.mem_cons,List.not_mem_nil,or_false] at hw
 rcases hw with rfl |rfl |rfl |rfl |rfl |rfl |rfl
 ·exact j7 (by simp) (gS b a)
 ·exact j7 (by simp) (gS a (fK (by have:=hp.2;omega)))
 ·exact j7 (by simp) (gS a (.inr (.inl ⟨_,rfl⟩)))
 ·exact Ba (by simp) (gS a b)
 ·refine j7 (by simp) fun x hx=>?_
  rcases List.mem_cons.mp hx with rfl |hx
  ·exact a
  ·exact gS b (fK (by omega)) x hx
 ·exact DX ho
 ·exact j7 (by simp) (gS (fK (by have:=hp.1;omega)) b)
def jb (ps qs:List Pr)(p:Pr)(a:Nat):List D:=[.list (qs.map ao),.list ((ps.map ao).take a ++ (ps.map ao).drop (a + 1)),.list ((ps.map ao).take a ++ [ao p] ++ (ps.map ao).drop a),.list (ps.map ao).reverse,.tuple (ps.map ao),.list (ps.map fun p=>.tuple [.int p.2,.int p.1]),.list ((ps.map ao).drop 1 ++ (ps.map ao).take 1)]
theorem wI {ps qs:List Pr}{p:Pr}{a:Nat}(hl:ps.length<=8)(hq:qs.length<=8)(h:∀p,p∈ps->xH p)(h':∀p,p∈qs->xH p)(hp:xH p):∀d,d∈jb ps qs p a->AA d:=by
 have hE:=mD fun p hp=>(h p hp).sp
 have hE':=mD fun p hp=>(h' p hp).sp
 have hlm:(ps.map ao).length=ps.length:=List.length_map _
 intro d hd
 simp only[jb,List.mem_cons,List.not_mem_nil,or_false] at hd
 rcases hd with rfl |rfl |rfl |rfl |rfl |rfl |rfl
 ·exact eQ (by rw[List.length_map];omega) hE'
 ·refine eQ (by rw[List.length_append,List.length_take,List.length_drop];omega) fun e he=>?_
  rcases List.mem_append.mp he with he |he
  ·exact hE e (List.mem_of_mem_take he)
  ·exact hE e (List.mem_of_mem_drop he)
 ·refine eQ (by rw[List.length_append,List.length_append,List.length_take,List.length_drop];simp;omega) fun e he=>?_
  rcases List.mem_append.mp he with he |he
  ·rcases List.mem_append.mp he with he |he
   ·exact hE e (List.mem_of_mem_take he)
   ·rw[List.mem_singleton] at he;subst he;exact zm hp.sp
  ·exact hE e (List.mem_of_mem_drop he)
 ·exact eQ (by rw[List.length_reverse];omega) fun e he=>hE e (List.mem_reverse.mp he)
 ·exact BC (by omega) hE
 ·refine eQ (by rw[List.length_map];omega) fun e he=>?_
  obtain⟨p,hp,rfl⟩:=List.mem_map.mp he
  have:=h p hp
  exact j7 (by simp) (gS (fK (by have:=this.2;omega)) (fK (by have:=this.1;omega)))
 ·refine eQ (by rw[List.length_append,List.length_take,List.length_drop];omega) fun e he=>?_
  rcases List.mem_append.mp he with he |he
  ·exact hE e (List.mem_of_mem_drop he)
  ·exact hE e (List.mem_of_mem_take he)
theorem yQ {n k:Nat}(h:k < n):sx n (k:Int)=some k:=by
 unfold sx
 rw[if_pos (by omega),if_pos (by omega)];congr 1
theorem vJ {i:Nat}{La:List Nat}{d:D}{fa:VF D}{env:En}{β β2 k:Int}{ds:List D}{n:Nat}(h0:env[i]? =some (.ow (.list ds)))(hf:fa (vl env) β=.ok (.int k) β2)(h1:(a7 La env)[i]? =some (.ow (.list ds)))(hk:sx ds.length k=some n):qz i La d fa env β=.nx ((a7 La env).set i (.ow (.list (ds.set n d)))) β2:=by
 unfold qz
 rw[if_pos (by rw[h0];rfl),hf]
 exact tY h1 (by dsimp only;rw[hk];rfl)
theorem Eb {ps:List Pr}{o:D}(hl:ps.length<=8)(hne:1<=ps.length)(h:∀p,p∈ps->xH p)(ho:o∈gc)(β:Int):∃d b β',vf [.list (ps.map ao),o] β=.ok d b β'/\AA d:=by
 show ∃d b β',wm (gN bZ (be ps o .no .no .no .no .no .no .no .no) β)=.ok d b β'/\AA d
 unfold gN
 obtain⟨a,ha,ea⟩:=fo (m:=ps.length) hne (by omega) β
 generalize hβ1:β / (ps.length:Int)=β1 at ea
 obtain⟨c,hc,ec⟩:=fo (m:=ps.length) hne (by omega) β1
 generalize hβ2:β1 / (ps.length:Int)=β2 at ec
 have el:∀b,f1 (gv 1) c8 (vl (be ps o .no .no .no .no .no .no .no .no)) b=.ok (.int ps.length) b:=fun b=>by rw[Ae (ds:=ps.map ao) rfl,List.length_map]
 rw[aq (env':=be ps o (.fz (.int a)) (.fz (.int c)) .no .no .no .no .no .no) (β':=β2) ?g1]
 case g1=>
  unfold yF
  rw[dF (ds:=[.int ps.length]) (β1:=β) (by rfl) (ac (el β) an) ea]
  dsimp only[toS]
  rw[dF (ds:=[.int ps.length]) (β1:=β1) (by rfl) (ac (el β1) an) ec]
  rfl
 have hap:ps[a]? =some ps[a]:=List.getElem?_eq_getElem ha
 have ham:ps[a]∈ps:=List.getElem_mem ha
 have hcp:ps[c]? =some ps[c]:=List.getElem?_eq_getElem hc
 have hcm:ps[c]∈ps:=List.getElem_mem hc
 generalize ps[a]=p at hap ham
 generalize ps[c]=r at hcp hcm
 have at_a:jA (ps.map ao) (a:Int)=some (ao p):=by rw[gz,i8 hap];rfl
 have at_c:jA (ps.map ao) (c:Int)=some (ao r):=by rw[gz,i8 hcp];rfl
 rw[aq (env':=be ps o (.fz (.int a)) (.fz (.int c)) (.fz (.int p.1)) (.fz (.int p.2)) .no .no .no .no) (β':=β2) ?g2]
 case g2=>
  have e:f2 (gv 1) (gv 3) bz (vl (be ps o (.fz (.int a)) (.fz (.int c)) .no .no .no .no .no .no)) β2=.ok (ao p) β2:=aA (x:=.list (ps.map ao)) (y:=.int a) rfl rfl at_a
  unfold yG
  rw[e];rfl
 rw[aq (env':=be ps o (.fz (.int a)) (.fz (.int c)) (.fz (.int p.1)) (.fz (.int p.2)) (.ow (.list (ps.map ao))) .no .no .no) (β':=β2) (by rw[m9,cc (g:=vU) (x:=.list (ps.map ao)) (d:=.list (ps.map ao)) (β1:=β2) rfl rfl];rfl)]
 have hqs:∃qs:List Pr,qs=(ps.set a r).set c p:=⟨_,rfl⟩
 obtain⟨qs,hqs⟩:=hqs
 have hql:qs.length<=8:=by rw[hqs];simp;omega
 have hqm:∀q,q∈qs->xH q:=fun q hq=>by
  rw[hqs] at hq
  rcases List.mem_or_eq_of_mem_set hq with hq |rfl
  ·rcases List.mem_or_eq_of_mem_set hq with hq |rfl
   ·exact h q hq
   ·exact h _ hcm
  ·exact h _ ham
 rw[aq (env':=be ps o (.fz (.int a)) (.fz (.int c)) (.fz (.int p.1)) (.fz (.int p.2)) (.ow (.list (qs.map ao))) .no .no .no) (β':=β2) ?g3]
 case g3=>
  unfold DU
  have e:aX (ae (f2 (gv 7) (gv 4) bz) (ae (f2 (gv 7) (gv 3) bz) ah)) (vl (be ps o (.fz (.int a)) (.fz (.int c)) (.fz (.int p.1)) (.fz (.int p.2)) (.ow (.list (ps.map ao))) .no .no .no)) β2=.ok (.tuple [ao r,ao p]) β2:=tp (ac (aA (x:=.list (ps.map ao)) (y:=.int c) rfl rfl at_c) (ac (aA (x:=.list (ps.map ao)) (y:=.int a) rfl rfl at_a) an))
  rw[e]
  dsimp only[toS]
  rw[aq (env':=be ps o (.fz (.int a)) (.fz (.int c)) (.fz (.int p.1)) (.fz (.int p.2)) (.ow (.list ((ps.map ao).set a (ao r)))) .no .no .no) (β':=β2) ?k1]
  case k1=>
   rw[vJ (ds:=ps.map ao) (k:=a) (n:=a) (β2:=β2) (by rfl) (by rfl) (by rfl) (yQ (by rw[List.length_map];exact ha))];rfl
  rw[vJ (ds:=(ps.map ao).set a (ao r)) (k:=c) (n:=c) (β2:=β2) (by rfl) (by rfl) (by rfl) (yQ (by rw[List.length_set,List.length_map];exact hc)),<-List.map_set,<-List.map_set,<-hqs]
  rfl
 generalize hen:be ps o (.fz (.int a)) (.fz (.int c)) (.fz (.int p.1)) (.fz (.int p.2)) (.ow (.list (qs.map ao))) .no .no .no=en
 have k5:gv 5 (vl en) β2=.ok (.int p.1) β2:=by rw[<-hen];rfl
 have k6:gv 6 (vl en) β2=.ok (.int p.2) β2:=by rw[<-hen];rfl
 have k2:gv 2 (vl en) β2=.ok o β2:=by rw[<-hen];rfl
 have e8:=lp (ds:=news p o) (vs:=vl en) (β:=β2) (ac (tp (ac k6 (ac k5 an))) (ac (tp (ac k5 (ac (aA (g:=bW) (fb:=cst (.int 1)) (y:=.int 1) (d:=.int (p.2 + 1)) k6 rfl rfl) an))) (ac (tp (ac k5 (ac (aA k6 (ck _) (uJ false p.2 1)) an))) (ac (lp (ac k5 (ac k6 an))) (ac (tp (ac k5 (ac k6 (ac (ck _) an)))) (ac k2 (ac (tp (ac (aA (g:=bW) (fb:=cst (.int 1)) (y:=.int 1) (d:=.int (p.1 + 1)) k5 rfl rfl) (ac k6 an))) an))))))) (by show (7:Nat)<=1000;omega)
 rw[aq (env':=be ps o (.fz (.int a)) (.fz (.int c)) (.fz (.int p.1)) (.fz (.int p.2)) (.ow (.list (qs.map ao))) (.fz (.list (news p o))) .no .no) (β':=β2) (by
  rw[bV]
  refine (congrArg (fun r=>toS r _) e8).trans ?_
  rw[<-hen];rfl)]
 obtain⟨j,hj,ej⟩:=fo (m:=14) (by omega) (by omega) β2
 generalize hβ3:β2 / ((14:Nat):Int)=β3 at ej
 rw[aq (env':=be ps o (.fz (.int a)) (.fz (.int c)) (.fz (.int p.1)) (.fz (.int p.2)) (.ow (.list (qs.map ao))) (.fz (.list (news p o))) (.fz (.int j)) .no) (β':=β3) (by rw[bV,dF (ds:=[.int 14]) (β1:=β2) (by rfl) rfl ej];rfl)]
 generalize hen2:be ps o (.fz (.int a)) (.fz (.int c)) (.fz (.int p.1)) (.fz (.int p.2)) (.ow (.list (qs.map ao))) (.fz (.list (news p o))) (.fz (.int j)) .no=en2
 have q1:gv 1 (vl en2) β3=.ok (.list (ps.map ao)) β3:=by rw[<-hen2];rfl
 have q3:gv 3 (vl en2) β3=.ok (.int a) β3:=by rw[<-hen2];rfl
 have q31:f2 (gv 3) (cst (.int 1)) bW (vl en2) β3=.ok (.int ((a + 1:Nat):Int)) β3:=aA (x:=.int a) (y:=.int 1) q3 rfl (by show some (PyData.int ((a:Int) + 1))=_;rw[show ((a + 1:Nat):Int)=(a:Int) + 1 by omega])
 have q5:gv 5 (vl en2) β3=.ok (.int p.1) β3:=by rw[<-hen2];rfl
 have q6:gv 6 (vl en2) β3=.ok (.int p.2) β3:=by rw[<-hen2];rfl
 have q7:gv 7 (vl en2) β3=.ok (.list (qs.map ao)) β3:=by rw[<-hen2];rfl
 have q8:gv 8 (vl en2) β3=.ok (.list (news p o)) β3:=by rw[<-hen2];rfl
 have q9:gv 9 (vl en2) β3=.ok (.int j) β3:=by rw[<-hen2];rfl
 have hlm:(ps.map ao).length=ps.length:=List.length_map _
 have hE:=mD fun p hp=>(h p hp).sp
 have t2:c5 (f2 (gv 9) (cst (.int 7)) qt) (vl en2) β3=.ok (decide ((j:Int) < 7)) β3:=g9 _ _ _ _ (aA (x:=.int j) (y:=.int 7) q9 rfl rfl)
 have hfz:a7 ([] ++ []) en2=en2:=rfl
 by_cases hj7:j < 7
 ·rw[decide_eq_true (show (j:Int) < 7 by omega)] at t2
  have hlen:(news p o).length=7:=rfl
  have hw:(news p o)[j]? =some (news p o)[j]:=List.getElem?_eq_getElem (by omega)
  have hwm:(news p o)[j]∈news p o:=List.getElem_mem _
  generalize (news p o)[j]=w at hw hwm
  have hEw:=BY (h p ham) ho w hwm
  refine⟨.list ((ps.map ao).take a ++ [w] ++ (ps.map ao).drop (a + 1)),true,β3,?_,eQ ?_ ?_⟩
  ·rw[cg (d:=.list ((ps.map ao).take a ++ [w] ++ (ps.map ao).drop (a + 1))) (b:=true) (β':=β3) ?ii]
   ·rfl
   case ii=>
    rw[eV t2,sk,hfz]
    have c1:=aA (g:=c6) (d:=.list ((ps.map ao).take a ++ [w])) (kz q1 q3) (lp (ac (aA (g:=bz) (d:=w) q8 q9 (show jA (news p o) (j:Int)=_ from i8 hw)) an)) (dE (by rw[List.length_take];simp;omega))
    rw[aA (g:=c6) c1 (mh q1 q31) (dE (by rw[List.length_append,List.length_take,List.length_drop];simp;omega))];rfl
  ·rw[List.length_append,List.length_append,List.length_take,List.length_drop];simp;omega
  ·intro e he
   rcases List.mem_append.mp he with he |he
   ·rcases List.mem_append.mp he with he |he
    ·exact hE e (List.mem_of_mem_take he)
    ·rw[List.mem_singleton] at he;subst he;exact hEw
   ·exact hE e (List.mem_of_mem_drop he)
 ·rw[decide_eq_false (show ¬(j:Int) < 7 by omega)] at t2
  rw[aq (env':=en2) (β':=β3) (by rw[fF t2];rfl)]
  have hlen:(jb ps qs p a).length=7:=rfl
  obtain⟨d,hd⟩:∃d,(jb ps qs p a)[j - 7]? =some d:=⟨_,List.getElem?_eq_getElem (by omega)⟩
  refine⟨d,false,β3,?_,wI hl hql h hqm (h p ham) d (List.mem_of_getElem? hd)⟩
  have e3:=lp (ds:=(jb ps qs p a).take 5) (vs:=vl en2) (β:=β3) (ac q7 (ac (aA (g:=c6) (kz q1 q3) (mh q1 q31) (dE (by rw[List.length_drop,List.length_take];omega))) (ac (aA (g:=c6) (aA (g:=c6) (d:=.list ((ps.map ao).take a ++ [ao p])) (kz q1 q3) (lp (ac (tp (ac q5 (ac q6 an))) an)) (dE (by rw[List.length_take];simp;omega))) (mh q1 q3) (dE (by rw[List.length_append,List.length_drop,List.length_take];simp;omega))) (ac (cc (g:=yV) q1 rfl) (ac (cc (g:=bX) q1 rfl) an))))) (by show (5:Nat)<=1000;omega)
  obtain⟨u7,hu7⟩:∃u7,toS (R.ok (PyData.list ((jb ps qs p a).take 5)) β3) (fun d β'=>SO.nx ((a7 ([7] ++ (((([] ++ []) ++ []) ++ (([] ++ ([] ++ [])) ++ [])) ++ ((((([] ++ []) ++ []) ++ (([5] ++ ([6] ++ [])) ++ [])) ++ (([] ++ []) ++ [])) ++ ([] ++ ([] ++ []))))) en2).set 10 (.fz d)) β')=.nx (be ps o (.fz (.int a)) (.fz (.int c)) (.fz (.int p.1)) (.fz (.int p.2)) u7 (.fz (.list (news p o))) (.fz (.int j)) (.fz (.list ((jb ps qs p a).take 5)))) β3:=by rw[<-hen2];exact⟨_,rfl⟩
  rw[aq (env':=be ps o (.fz (.int a)) (.fz (.int c)) (.fz (.int p.1)) (.fz (.int p.2)) u7 (.fz (.list (news p o))) (.fz (.int j)) (.fz (.list ((jb ps qs p a).take 5)))) (β':=β3) (by
   rw[bV]
   exact (congrArg (fun r=>toS r _) e3).trans hu7)]
  generalize hen3:be ps o (.fz (.int a)) (.fz (.int c)) (.fz (.int p.1)) (.fz (.int p.2)) u7 (.fz (.list (news p o))) (.fz (.int j)) (.fz (.list ((jb ps qs p a).take 5)))=en3
  have v1:gv 1 (vl en3) β3=.ok (.list (ps.map ao)) β3:=by rw[<-hen3];rfl
  have v9:gv 9 (vl en3) β3=.ok (.int j) β3:=by rw[<-hen3];rfl
  have v10:gv 10 (vl en3) β3=.ok (.list ((jb ps qs p a).take 5)) β3:=by rw[<-hen3];rfl
  have w1:aG 2 [] (.two 0 1) (bh (gv 1)) gy (aX (ae (gv 1) (ae (gv 0) ah))) (vl en3) β3=.ok (.list (ps.map fun p=>.tuple [.int p.2,.int p.1])) β3:=by
   refine cq (l:=ps) (e:=ao) (fun p=>.tuple [.int p.2,.int p.1]) (by unfold bh;rw[v1];rfl) (by omega) fun p hp=>⟨_,rfl,tp (ac rfl (ac rfl an))⟩
  have w2:=aA (g:=c6) (mh (fb:=cst (.int 1)) (i:=1) v1 rfl) (kz (fb:=cst (.int 1)) (i:=1) v1 rfl) (dE (by rw[List.length_drop,List.length_take];omega))
  have e9:=aA (g:=c6) (d:=.list (jb ps qs p a)) v10 (lp (ac w1 (ac w2 an))) (dE (by show (5 + 2:Nat)<=10000;omega))
  have e10:f2 (gv 9) (cst (.int 7)) zl (vl en3) β3=.ok (.int ((j - 7:Nat):Int)) β3:=aA (x:=.int j) (y:=.int 7) v9 rfl (by show some (PyData.int ((j:Int) - 7))=_;rw[show ((j - 7:Nat):Int)=(j:Int) - 7 by omega])
  rw[gV]
  rw[aA (g:=bz) e9 e10 (show jA (jb ps qs p a) ((j - 7:Nat):Int)=some d from i8 hd)]
  rfl
end RM

end

section
namespace RM
open PySem L2
def kq (rows:List (List Int))(p:Pr):Bool:= !decide (p.1=p.2) && (rows.filter fun r=>decide (r.idxOf p.1 > r.idxOf p.2)).isEmpty
def vV:List D->FR:=bJ 6 2 dz
theorem DO {n:Nat}{rows:List (List Int)}(h8:n<=8)(hr:rows.length<=100)(hp:∀r,r∈rows->r.Perm (dt n)):vV [.int n,.list (rows.map tupI)]=.ok (.tuple (((OM.b6 n).filter (kq rows)).map ao)) false:=by
 show fin (dz [.fz (.int n),.fz (.list (rows.map tupI)),.no,.no,.no,.no] 0)=_
 unfold dz
 rw[aq (env':=[.fz (.int n),.fz (.list (rows.map tupI)),.ow (.list []),.no,.no,.no]) (β':=0) ?g1]
 case g1=>rw[m9,eM (ds:=[]) rfl (by simp)];rfl
 obtain⟨env',β',ef,s,t,u,rfl,rfl⟩:=cv (t:=.nm 3) (m:=cE (.nm 4) [] (bF (gv 0))
   (aH (aZ 5 ([] ++ []) (aG 1 [3,4] (.nm 0) (bh (gv 1)) (c5 (f2 (iL (gv 0) (gv 1)) (iL (gv 0) (gv 2)) Ef)) (cst (.int 1))))
   (ko (([] ++ []) ++ ([] ++ [])) (yL (c5 (f2 (gv 3) (gv 4) (dv true))) (c5 (f2 (gv 5) (ba ah) (dv false))))
   (l7 2 ([3] ++ ([4] ++ [])) (aX (ae (gv 3) (ae (gv 4) ah))))
   lR))) (ds:=bG 0 n) (k:=0)
  (fun i env β=>∃s t u:Sl,env= [.fz (.int n),.fz (.list (rows.map tupI)),.ow (.list ((upTo n (kq rows) i 0).map ao)),s,t,u]/\β=0)
  (env:=[.fz (.int n),.fz (.list (rows.map tupI)),.ow (.list []),.no,.no,.no]) (β:=0) ⟨.no,.no,.no,by rw[wQ];rfl,rfl⟩ (by
   rintro i d env β hi ⟨s,t,u,rfl,rfl⟩
   obtain⟨hin,rfl⟩:=gq hi
   refine⟨[.fz (.int n),.fz (.list (rows.map tupI)),.ow (.list ((upTo n (kq rows) (0 + i) 0).map ao)),.fz (.int (0 + (i:Int))),t,u],rfl,?_⟩
   rw[Nat.zero_add,Int.zero_add]
   obtain⟨env',β',ef,t2,u2,rfl,rfl⟩:=cv (t:=.nm 4) (m:=aH (aZ 5 ([] ++ []) (aG 1 [3,4] (.nm 0) (bh (gv 1)) (c5 (f2 (iL (gv 0) (gv 1)) (iL (gv 0) (gv 2)) Ef)) (cst (.int 1))))
     (ko (([] ++ []) ++ ([] ++ [])) (yL (c5 (f2 (gv 3) (gv 4) (dv true))) (c5 (f2 (gv 5) (ba ah) (dv false))))
     (l7 2 ([3] ++ ([4] ++ [])) (aX (ae (gv 3) (ae (gv 4) ah))))
     lR)) (ds:=bG 0 n) (k:=0)
    (fun k env β=>∃t u:Sl,env= [.fz (.int n),.fz (.list (rows.map tupI)),.ow (.list ((upTo n (kq rows) i k).map ao)),.fz (.int i),t,u]/\β=0)
    (env:=[.fz (.int n),.fz (.list (rows.map tupI)),.ow (.list ((upTo n (kq rows) i 0).map ao)),.fz (.int i),t,u]) (β:=0) ⟨t,u,rfl,rfl⟩ (by
     rintro k d env β hk ⟨t,u,rfl,rfl⟩
     obtain⟨hkn,rfl⟩:=gq hk
     refine⟨[.fz (.int n),.fz (.list (rows.map tupI)),.ow (.list ((upTo n (kq rows) i (0 + k)).map ao)),.fz (.int i),.fz (.int (0 + (k:Int))),u],rfl,?_⟩
     rw[Nat.zero_add,Int.zero_add]
     have ec:aG 1 [3,4] (.nm 0) (bh (gv 1)) (c5 (f2 (iL (gv 0) (gv 1)) (iL (gv 0) (gv 2)) Ef)) (cst (.int 1)) [.da (.int n),.da (.list (rows.map tupI)),.da (.list ((upTo n (kq rows) i k).map ao)),.da (.int i),.da (.int k),u.val] 0=.ok (.list ((rows.filter fun r=>decide (r.idxOf (i:Int) > r.idxOf (k:Int))).map fun _=>PyData.int 1)) 0:=by
      refine iH (l:=rows) (e:=tupI) (fun r=>decide (r.idxOf (i:Int) > r.idxOf (k:Int))) (fun _=>PyData.int 1) rfl (by omega) fun r hr=>⟨_,rfl,?_,fun _=>rfl⟩
      have hp:=hp r hr
      refine g9 _ _ _ _ (aA (mw (r:=r) (k:=i) rfl rfl (hp.mem_iff.mpr (cG.mpr ⟨by omega,by omega⟩))) (mw (r:=r) (k:=k) rfl rfl (hp.mem_iff.mpr (cG.mpr ⟨by omega,by omega⟩))) ?_)
      show some (PyData.bool (decide (((r.idxOf (i:Int):Nat):Int) > ((r.idxOf (k:Int):Nat):Int))))=_
      congr 2
      rw[Bool.eq_iff_iff,decide_eq_true_eq,decide_eq_true_eq]
      omega
     rw[aq (env':=[.fz (.int n),.fz (.list (rows.map tupI)),.ow (.list ((upTo n (kq rows) i k).map ao)),.fz (.int i),.fz (.int k),.fz (.list ((rows.filter fun r=>decide (r.idxOf (i:Int) > r.idxOf (k:Int))).map fun _=>PyData.int 1))]) (β':=0) ?g]
     case g=>
      rw[bV]
      show toS (aG 1 [3,4] (.nm 0) (bh (gv 1)) (c5 (f2 (iL (gv 0) (gv 1)) (iL (gv 0) (gv 2)) Ef)) (cst (.int 1)) [.da (.int n),.da (.list (rows.map tupI)),.da (.list ((upTo n (kq rows) i k).map ao)),.da (.int i),.da (.int k),u.val] 0) _=_
      rw[ec];rfl
     generalize hL:(rows.filter fun r=>decide (r.idxOf (i:Int) > r.idxOf (k:Int)))=L
     have et:yL (c5 (f2 (gv 3) (gv 4) (dv true))) (c5 (f2 (gv 5) (ba ah) (dv false))) (vl [.fz (.int n),.fz (.list (rows.map tupI)),.ow (.list ((upTo n (kq rows) i k).map ao)),.fz (.int i),.fz (.int k),.fz (.list (L.map fun _=>PyData.int 1))]) 0=.ok (kq rows ((i:Int),(k:Int))) 0:=by
      have h1:c5 (f2 (gv 5) (ba ah) (dv false)) (vl [.fz (.int n),.fz (.list (rows.map tupI)),.ow (.list ((upTo n (kq rows) i k).map ao)),.fz (.int i),.fz (.int k),.fz (.list (L.map fun _=>PyData.int 1))]) 0=.ok L.isEmpty 0:=by
       refine g9 _ _ _ _ (aA (x:=.list (L.map fun _=>PyData.int 1)) (y:=.list []) rfl (eM (ds:=[]) rfl (by simp)) ?_)
       have e9:(L.map fun _=>PyData.int 1)=(L.map fun _=>(1:Int)).map PyData.int:=by rw[List.map_map];rfl
       rw[e9,show ([]:List D)=([]:List Int).map PyData.int from rfl,mV]
       congr 2
       cases L <;> simp
      have:=yw (gH (neg:=true) (fa:=gv 3) (fb:=gv 4) (vs:=vl [.fz (.int n),.fz (.list (rows.map tupI)),.ow (.list ((upTo n (kq rows) i k).map ao)),.fz (.int i),.fz (.int k),.fz (.list (L.map fun _=>PyData.int 1))]) (β:=0) (i:=i) (j:=k) rfl rfl) h1
      rw[this]
      unfold kq
      rw[hL];rfl
     cases c:kq rows ((i:Int),(k:Int)) with
     |true=>
      rw[c] at et
      refine⟨[.fz (.int n),.fz (.list (rows.map tupI)),.ow (.list ((upTo n (kq rows) i (k + 1)).map ao)),.fz (.int i),.fz (.int k),.fz (.list (L.map fun _=>PyData.int 1))],0,?_,_,_,rfl,rfl⟩
      rw[eV et]
      have:=p8 (i:=2) (L:=[3] ++ ([4] ++ [])) (env:=[.fz (.int n),.fz (.list (rows.map tupI)),.ow (.list ((upTo n (kq rows) i k).map ao)),.fz (.int i),.fz (.int k),.fz (.list (L.map fun _=>PyData.int 1))]) (ds:=(upTo n (kq rows) i k).map ao) (β:=0) (by rfl) (h9 (fa:=gv 3) (fb:=gv 4) (a:=i) (b:=k) rfl rfl) (by rfl) (by rw[List.length_map];have:=yI (kq rows) i k h8;omega)
      rw[o7 _ hin hkn,if_pos c,List.map_append]
      exact this
     |false=>
      rw[c] at et
      refine⟨[.fz (.int n),.fz (.list (rows.map tupI)),.ow (.list ((upTo n (kq rows) i (k + 1)).map ao)),.fz (.int i),.fz (.int k),.fz (.list (L.map fun _=>PyData.int 1))],0,?_,_,_,rfl,rfl⟩
      have e8:=o7 (kq rows) hin hkn
      rw[if_neg (by rw[c];exact Bool.false_ne_true),List.append_nil] at e8
      rw[fF et,e8];rfl)
   rw[b8,Nat.zero_add,zc] at ef
   refine⟨[.fz (.int n),.fz (.list (rows.map tupI)),.ow (.list ((upTo n (kq rows) (i + 1) 0).map ao)),.fz (.int i),t2,u2],0,?_,_,_,_,rfl,rfl⟩
   rw[b9 (env:=[.fz (.int n),.fz (.list (rows.map tupI)),.ow (.list ((upTo n (kq rows) i 0).map ao)),.fz (.int i),t,u]) (cz (n:=n) rfl (by omega))]
   exact ef)
 rw[b8,Nat.zero_add,zy] at ef
 rw[aq (env':=[.fz (.int n),.fz (.list (rows.map tupI)),.ow (.list (((OM.b6 n).filter (kq rows)).map ao)),s,t,u]) (β':=0) ?g2]
 case g2=>
  rw[b9 (env:=[.fz (.int n),.fz (.list (rows.map tupI)),.ow (.list []),.no,.no,.no]) (cz (n:=n) rfl (by omega))]
  exact ef
 rw[gV,cc (x:=.list (((OM.b6 n).filter (kq rows)).map ao)) (d:=.tuple (((OM.b6 n).filter (kq rows)).map ao)) (β1:=0) rfl ?g3]
 case g3=>rfl
 rfl
theorem mE {rows:List (List Int)}{p:Pr}:kq rows p=true↔p.1≠p.2/\∀r,r∈rows->r.idxOf p.1<=r.idxOf p.2:=by
 unfold kq
 rw[Bool.and_eq_true,Bool.not_eq_true',decide_eq_false_iff_not,List.isEmpty_iff,List.filter_eq_nil_iff]
 simp only[decide_eq_true_eq,Nat.not_lt,gt_iff_lt]
theorem zh {n:Nat}{rows:List (List Int)}(h1:1<=n)(h8:n<=8)(hne:rows≠ [])(hp:∀r,r∈rows->r.Perm (dt n)):OM.Ord n ((OM.b6 n).filter (kq rows)):=by
 refine⟨h1,h8,fun p hm=>OM.a8.mp (List.mem_filter.mp hm).1,OM.dN _ (OM.gr n),fun a h=>?_,fun a b c hab hbc=>?_⟩
 ·exact (mE.mp (List.mem_filter.mp h).2).1 rfl
 ·obtain⟨g1,t1⟩:=List.mem_filter.mp hab
  obtain⟨g2,t2⟩:=List.mem_filter.mp hbc
  have g1:=OM.a8.mp g1
  have g2:=OM.a8.mp g2
  obtain⟨n1,q1⟩:=mE.mp t1
  obtain⟨n2,q2⟩:=mE.mp t2
  refine List.mem_filter.mpr ⟨OM.a8.mpr ⟨g1.1,g2.2⟩,mE.mpr ⟨fun e=>?_,fun r hr=>Nat.le_trans (q1 r hr) (q2 r hr)⟩⟩
  simp only at e n1 q1 q2
  subst e
  cases rows with
  |nil=>exact hne rfl
  |cons r rest=>
   have hr:r∈r :: rest:=List.mem_cons_self ..
   have pm:=hp r hr
   exact n1 (Br (pm.mem_iff.mpr (cG.mpr g1.1)) (pm.mem_iff.mpr (cG.mpr g1.2)) (Nat.le_antisymm (q1 r hr) (q2 r hr)))
noncomputable def DQ:List D->FR:=bJ 14 1 (uM BB vV Au Eg Ej bZ g7 Bu ml vf)
theorem both {n:Nat}{l:List Pr}{d:D}(O:OM.Ord n l)(h:Gt d):∃b,Eg [d,aK n l]=.ok (.bool b) false/\Ej [d,aK n l]=.ok (.bool b) false:=⟨_,GA O h,Gz O h⟩
noncomputable abbrev vQ:SF:=aH (aZ 13 [] (f1 (gv 12) jk))
 (ko ((([12] ++ ([9] ++ [])) ++ (([12] ++ ([9] ++ [])) ++ [])) ++ ([] ++ [])) (iy (lK (jT (aE Au (ae (aE Eg (ae (gv 12) (ae (gv 9) ah))) (ae (aE Ej (ae (gv 12) (ae (gv 9) ah))) ah))))) (c5 (f2 (f1 (gv 12) jk) (gv 13) (As true))))
 (bR (cst (.bool false)))
 lR)
abbrev te (ns:List Int)(k:Nat)(s3 s4 s5:Sl)(ps:List Pr)(o:D)(s8:Sl)(n:Nat)(l:List Pr)(s10 s11 s12 s13:Sl):En:=[.fz (bo ns),.fz (.int k),.bx,s3,s4,s5,.fz (.list (ps.map ao)),.fz o,s8,.fz (aK n l),s10,s11,s12,s13]
theorem GN {ns:List Int}{k n:Nat}{l ps:List Pr}{o d:D}{s3 s4 s5 s8 s10 s11 s13:Sl}(O:OM.Ord n l)(h:AA d)(β:Int)(h3:∀d,s3≠.ow d)(h4:∀d,s4≠.ow d)(h5:∀d,s5≠.ow d)(h8:∀d,s8≠.ow d):∃s13',vQ (te ns k s3 s4 s5 ps o s8 n l s10 s11 (.fz d) s13) β=.nx (te ns k s3 s4 s5 ps o s8 n l s10 s11 (.fz d) s13') β:=by
 obtain⟨b,e1,e2⟩:=both O h.1
 have hr:jk d=some (.str d.shown):=if_pos h.2
 unfold vQ
 rw[aq (env':=te ns k s3 s4 s5 ps o s8 n l s10 s11 (.fz d) (.fz (.str d.shown))) (β':=β) ?aa]
 case aa=>rw[bV,cc (x:=d) (β1:=β) rfl hr];rfl
 have t1:jT (aE Au (ae (aE Eg (ae (gv 12) (ae (gv 9) ah))) (ae (aE Ej (ae (gv 12) (ae (gv 9) ah))) ah))) (vl (te ns k s3 s4 s5 ps o s8 n l s10 s11 (.fz d) (.fz (.str d.shown)))) β=.ok true β:=gM (aP (ds:=[.bool b,.bool b]) (ac (aP (ds:=[d,aK n l]) rfl e1) (ac (aP (ds:=[d,aK n l]) rfl e2) an)) (EU b))
 have t3:c5 (f2 (f1 (gv 12) jk) (gv 13) (As true)) (vl (te ns k s3 s4 s5 ps o s8 n l s10 s11 (.fz d) (.fz (.str d.shown)))) β=.ok false β:=g9 _ _ _ _ (aA (x:=.str d.shown) (y:=.str d.shown) (cc (x:=d) rfl hr) rfl (by simp[As]))
 rw[fF (gR (bC t1) t3)]
 exact⟨_,rfl⟩
noncomputable abbrev vS:SF:=l7 10 ([6] ++ ([7] ++ [])) (hZ 2 vf (ae (gv 6) (ae (gv 7) ah)))
theorem Gf {ns:List Int}{k n:Nat}{l ps:List Pr}{o:D}{ts:List D}{s3 s4 s5 s8 s11 s12 s13:Sl}(hl:ps.length<=8)(hne:1<=ps.length)(h:∀p,p∈ps->xH p)(ho:o∈gc)(ht:ts.length<=50)(β:Int):∃d β',vS (te ns k s3 s4 s5 ps o s8 n l (.ow (.list ts)) s11 s12 s13) β=.nx (te ns k s3 s4 s5 ps o s8 n l (.ow (.list (ts ++ [d]))) s11 s12 s13) β'/\AA d:=by
 obtain⟨d,b,β',e,hd⟩:=Eb hl hne h ho β
 refine⟨d,β',?_,hd⟩
 unfold vS
 rw[p8 (i:=10) (ds:=ts) (d:=d) (β':=β') (by rfl) (dF (ds:=[.list (ps.map ao),o]) (β1:=β) (by rfl) (ac rfl (ac rfl an)) e) (by rfl) (by omega)]
 rfl
noncomputable abbrev vn:SF:=aH (k8 10 ([6] ++ ([7] ++ ([] ++ ((([] ++ []) ++ []) ++ [])))) (ba (ae (gv 6) (ae (gv 7) (ae (ba ah) (ae (aG 1 [] (.nm 0) (bF (f2 (gv 9) (cst (.int 0)) bz)) gy (aX (ae (gv 0) (ae (gv 0) ah)))) ah))))))
 (aH (cE (.nm 11) [] (bF (cst (.int 3))) vS)
 (cE (.nm 12) [10] (bh (gv 10)) vQ))
def four (ps:List Pr)(o:D)(n:Nat):List D:=[.list (ps.map ao),o,.list [],.list ((dt n).map fun i=>ao (i,i))]
theorem yj {ps:List Pr}{o:D}{n:Nat}(hl:ps.length<=8)(h:∀p,p∈ps->xH p)(ho:o∈gc)(hn:n<=8):∀d,d∈four ps o n->AA d:=by
 intro d hd
 simp only[four,List.mem_cons,List.not_mem_nil,or_false] at hd
 rcases hd with rfl |rfl |rfl |rfl
 ·exact eQ (by rw[List.length_map];omega) (mD fun p hp=>(h p hp).sp)
 ·exact Bs ho
 ·exact eQ (by simp) fun e he=>by cases he
 ·refine eQ (by rw[List.length_map,cF];omega) fun e he=>?_
  obtain⟨i,hi,rfl⟩:=List.mem_map.mp he
  have:=cG.mp hi
  exact zm ⟨⟨this.1,by omega⟩,⟨this.1,by omega⟩⟩
theorem GO {ns:List Int}{k n:Nat}{l ps:List Pr}{o:D}{s3 s4 s5 s8 s10 s11 s12 s13:Sl}(O:OM.Ord n l)(hl:ps.length<=8)(hne:1<=ps.length)(h:∀p,p∈ps->xH p)(ho:o∈gc)(h3:∀d,s3≠.ow d)(h4:∀d,s4≠.ow d)(h5:∀d,s5≠.ow d)(h8:∀d,s8≠.ow d)(β:Int):∃t10 t11 t12 t13 β',vn (te ns k s3 s4 s5 ps o s8 n l s10 s11 s12 s13) β=.nx (te ns k s3 s4 s5 ps o s8 n l t10 t11 t12 t13) β':=by
 have hn:=O.hi
 unfold vn
 rw[aq (env':=te ns k s3 s4 s5 ps o s8 n l (.ow (.list (four ps o n))) s11 s12 s13) (β':=β) ?g1]
 case g1=>
  have e4:aG 1 [] (.nm 0) (bF (f2 (gv 9) (cst (.int 0)) bz)) gy (aX (ae (gv 0) (ae (gv 0) ah))) (vl (te ns k s3 s4 s5 ps o s8 n l s10 s11 s12 s13)) β=.ok (.list ((dt n).map fun i=>ao (i,i))) β:=by
   refine cq (l:=dt n) (e:=PyData.int) (fun i=>ao (i,i)) ?_ (by rw[cF];omega) fun i hi=>⟨_,rfl,h9 rfl rfl⟩
   rw[<-jJ];exact cz (n:=n) (Hf (n:=n) (l:=l) rfl) (by omega)
  rw[m9,lp (ds:=four ps o n) (ac rfl (ac rfl (ac (lp an) (ac e4 an)))) (by show (4:Nat)<=1000;omega)]
  rfl
 have er:bF (cst (.int 3)) (vl (te ns k s3 s4 s5 ps o s8 n l (.ow (.list (four ps o n))) s11 s12 s13)) β=.ok (bG 0 3) β:=cz (n:=3) rfl (by omega)
 obtain⟨env',β5,ef,ts,u11,rfl,htl,htm⟩:=cv (t:=.nm 11) (m:=vS) (ds:=bG 0 3) (k:=0)
  (fun j env _=>∃(ts:List D) (u11:Sl),env=te ns k s3 s4 s5 ps o s8 n l (.ow (.list ts)) u11 s12 s13/\ts.length<=4 + j/\∀d,d∈ts->AA d)
  (env:=te ns k s3 s4 s5 ps o s8 n l (.ow (.list (four ps o n))) s11 s12 s13) (β:=β) ⟨four ps o n,s11,rfl,by show (4:Nat)<=4 + 0;omega,yj hl h ho hn⟩ (by
   rintro j d env β hj ⟨ts,u11,rfl,htl,htm⟩
   have hj4:j < 3:=by have:=(List.getElem?_eq_some_iff.mp hj).1;rwa [b8] at this
   obtain⟨x,β',e,hx⟩:=Gf (ns:=ns) (k:=k) (n:=n) (l:=l) (s3:=s3) (s4:=s4) (s5:=s5) (s8:=s8) (s11:=.fz d) (s12:=s12) (s13:=s13) hl hne h ho (show ts.length<=50 by omega) β
   refine⟨te ns k s3 s4 s5 ps o s8 n l (.ow (.list ts)) (.fz d) s12 s13,rfl,_,_,e,ts ++ [x],.fz d,rfl,by rw[List.length_append];simp;omega,fun y hy=>?_⟩
   rcases List.mem_append.mp hy with hy |hy
   ·exact htm y hy
   ·rw[List.mem_singleton] at hy;subst hy;exact hx)
 rw[aq (env':=te ns k s3 s4 s5 ps o s8 n l (.ow (.list ts)) u11 s12 s13) (β':=β5) (by
  rw[b9 (env:=te ns k s3 s4 s5 ps o s8 n l (.ow (.list (four ps o n))) s11 s12 s13) (ds:=bG 0 3) (β1:=β) er]
  exact ef)]
 obtain⟨env',β',ef2,u12,u13,rfl⟩:=cv (t:=.nm 12) (m:=vQ) (ds:=ts) (k:=0)
  (fun _ env _=>∃u12 u13:Sl,env=te ns k s3 s4 s5 ps o s8 n l (.fz (.list ts)) u11 u12 u13) (env:=te ns k s3 s4 s5 ps o s8 n l (.fz (.list ts)) u11 s12 s13) (β:=β5) ⟨s12,s13,rfl⟩ (by
   rintro j d env β hj ⟨u12,u13,rfl⟩
   obtain⟨v13,e⟩:=GN (ns:=ns) (k:=k) (ps:=ps) (o:=o) (s3:=s3) (s4:=s4) (s5:=s5) (s8:=s8) (s10:=.fz (.list ts)) (s11:=u11) (s13:=u13) O (htm d (List.mem_of_getElem? hj)) β h3 h4 h5 h8
   exact⟨te ns k s3 s4 s5 ps o s8 n l (.fz (.list ts)) u11 (.fz d) u13,rfl,_,_,e,_,_,rfl⟩)
 refine⟨.fz (.list ts),u11,u12,u13,β',?_⟩
 rw[b9 (env:=te ns k s3 s4 s5 ps o s8 n l (.ow (.list ts)) u11 s12 s13) (ds:=ts) (β1:=β5) rfl]
 exact ef2
end RM

end

section
namespace RM
open PySem L2
noncomputable abbrev zP:SF:=aH (ve 2 ([0] ++ ([1] ++ [])) (o9 BB (ae (gv 0) (ae (gv 1) ah))))
 (aH (aZ 3 ([] ++ ([] ++ [])) (f2 (cst (.int 1)) (hZ 2 bZ (ae (cst (.int 7)) ah)) bW))
 (aH (aZ 4 ([] ++ []) (aG 1 [2,3] (.nm 0) (bF (cst (.int 2))) gy (f1 (hZ 1 g7 (ae (f1 (gv 2) bS) ah)) bX)))
 (aH (aZ 5 ([3] ++ (([3] ++ ([4] ++ [])) ++ [])) (aX (ae (gv 3) (ae (aE vV (ae (gv 3) (ae (gv 4) ah))) ah))))
 (aH (aZ 6 ([] ++ []) (aG 1 [4] (.nm 0) (bF (gv 3)) gy (aX (ae (iL (f2 (gv 1) (cst (.int 0)) bz) (gv 0)) (ae (iL (f2 (gv 1) (cst (.int 1)) bz) (gv 0)) ah)))))
 (aH (aZ 7 [] (hZ 2 Bu ah))
 (aH (aZ 8 ([] ++ []) (hZ 2 ml (ae (cst (.int 7)) ah)))
 (cE (.nm 9) ([5] ++ ([8] ++ [])) (bh (ba (ae (gv 5) (ae (gv 8) ah)))) vn)))))))
def oI (r q:List Int)(n:Nat):List Pr:=(dt n).map fun t=>(((r.idxOf t:Nat):Int),((q.idxOf t:Nat):Int))
theorem GD (ns:List Int)(i:Nat)(s2 s3 s4 s5 s6 s7 s8 s9 s10 s11 s12 s13:Sl)(β:Int):∃t2 t3 t4 t5 t6 t7 t8 t9 t10 t11 t12 t13 β',zP [.fz (bo ns),.fz (.int i),s2,s3,s4,s5,s6,s7,s8,s9,s10,s11,s12,s13] β=.nx [.fz (bo ns),.fz (.int i),t2,t3,t4,t5,t6,t7,t8,t9,t10,t11,t12,t13] β':=by
 obtain⟨z,ez⟩:=Fl ns i
 obtain⟨t3,t4,t5,t6,t7,t8,t9,t10,t11,t12,t13,hcl⟩:∃t3 t4 t5 t6 t7 t8 t9 t10 t11 t12 t13:Sl,(pF (a7 ([0] ++ ([1] ++ [])) [.fz (bo ns),.fz (.int i),s2,s3,s4,s5,s6,s7,s8,s9,s10,s11,s12,s13])).set 2 .bx= [.fz (bo ns),.fz (.int i),.bx,t3,t4,t5,t6,t7,t8,t9,t10,t11,t12,t13]:=⟨_,_,_,_,_,_,_,_,_,_,_,rfl⟩
 unfold zP
 rw[aq (env':=[.fz (bo ns),.fz (.int i),.bx,t3,t4,t5,t6,t7,t8,t9,t10,t11,t12,t13]) (β':=z) ?g1]
 case g1=>
  unfold ve
  rw[yy (ds:=[bo ns,.int i]) (β1:=β) rfl ez]
  show SO.nx _ z=_
  rw[<-hcl]
 obtain⟨j,hj,ej⟩:=fo (m:=7) (by omega) (by omega) z
 generalize hβ1:z / ((7:Nat):Int)=β1 at ej
 have e1:f2 (cst (.int 1)) (hZ 2 bZ (ae (cst (.int 7)) ah)) bW (vl [.fz (bo ns),.fz (.int i),.bx,t3,t4,t5,t6,t7,t8,t9,t10,t11,t12,t13]) z=.ok (.int ((1 + j:Nat):Int)) β1:=by
  refine aA (x:=.int 1) rfl (dF (ds:=[.int 7]) (by rfl) rfl ej) ?_
  show some (PyData.int (1 + (j:Int)))=_
  rw[show ((1 + j:Nat):Int)=1 + (j:Int) by omega]
 rw[aq (env':=[.fz (bo ns),.fz (.int i),.bx,.fz (.int ((1 + j:Nat):Int)),t4,t5,t6,t7,t8,t9,t10,t11,t12,t13]) (β':=β1) (by rw[bV,e1];rfl)]
 have n1:1<=1 + j:=by omega
 have n7:1 + j<=7:=by omega
 generalize 1 + j=n at n1 n7
 obtain⟨rs,β2,ec,hl,hP⟩:=nP (t:=.nm 0) (fe:=f1 (hZ 1 g7 (ae (f1 (gv 2) bS) ah)) bX) (vs:=eS 1 [2,3] (vl [.fz (bo ns),.fz (.int i),.bx,.fz (.int n),t4,t5,t6,t7,t8,t9,t10,t11,t12,t13])) tupI (fun r:List Int=>r.Perm (dt n)) (ds:=bG 0 2) (β:=β1) (by
  intro d hd
  refine⟨[.da d,.bx,.da (.int n)],rfl,fun b=>?_⟩
  obtain⟨ms,b',em,pm⟩:=uT (dt n) (by rw[cF];omega) b
  refine⟨ms,b',cc (g:=bX) (dF (ds:=[.list ((dt n).map PyData.int)]) (β1:=b) (by rfl) ?_ em) rfl,pm⟩
  rw[cu,cc (x:=.int n) (d:=.list ((dt n).map PyData.int)) (β1:=b) rfl (jg (by omega))];rfl)
 rw[b8] at hl
 have ef:aG 1 [2,3] (.nm 0) (bF (cst (.int 2))) gy (f1 (hZ 1 g7 (ae (f1 (gv 2) bS) ah)) bX) (vl [.fz (bo ns),.fz (.int i),.bx,.fz (.int n),t4,t5,t6,t7,t8,t9,t10,t11,t12,t13]) β1=.ok (.list (rs.map tupI)) β2:=by
  unfold aG
  rw[cz (n:=2) (β1:=β1) rfl (by omega)]
  dsimp only[R.bnd]
  rw[if_pos (sz _ (by rw[b8];omega)),ec];rfl
 obtain⟨r,q,rfl⟩:∃r q,rs= [r,q]:=by
  match rs,hl with
  | [r,q],_=>exact⟨r,q,rfl⟩
 have pr:r.Perm (dt n):=hP r (by simp)
 have pq:q.Perm (dt n):=hP q (by simp)
 rw[aq (env':=[.fz (bo ns),.fz (.int i),.bx,.fz (.int n),.fz (.list ([r,q].map tupI)),t5,t6,t7,t8,t9,t10,t11,t12,t13]) (β':=β2) (by rw[bV,ef];rfl)]
 have O:=zh n1 (by omega:n<=8) (rows:=[r,q]) (by simp) hP
 have et:=DO (n:=n) (rows:=[r,q]) (by omega) (by simp) hP
 generalize (OM.b6 n).filter (kq [r,q])=l at O et
 rw[aq (env':=[.fz (bo ns),.fz (.int i),.bx,.fz (.int n),.fz (.list ([r,q].map tupI)),.fz (aK n l),t6,t7,t8,t9,t10,t11,t12,t13]) (β':=β2) (by
  rw[bV,tp (ds:=[.int n,.tuple (l.map ao)]) (ac rfl (ac (aP (ds:=[.int n,.list ([r,q].map tupI)]) rfl et) an))];rfl)]
 have ep:aG 1 [4] (.nm 0) (bF (gv 3)) gy (aX (ae (iL (f2 (gv 1) (cst (.int 0)) bz) (gv 0)) (ae (iL (f2 (gv 1) (cst (.int 1)) bz) (gv 0)) ah))) (vl [.fz (bo ns),.fz (.int i),.bx,.fz (.int n),.fz (.list ([r,q].map tupI)),.fz (aK n l),t6,t7,t8,t9,t10,t11,t12,t13]) β2=.ok (.list ((oI r q n).map ao)) β2:=by
  unfold oI
  rw[List.map_map]
  refine cq (l:=dt n) (e:=PyData.int) (fun t=>ao (((r.idxOf t:Nat):Int),((q.idxOf t:Nat):Int))) ?_ (by rw[cF];omega) fun t ht=>⟨[.da (.int t),.da (.list ([r,q].map tupI))],rfl,?_⟩
  ·rw[<-jJ];exact cz (n:=n) rfl (by omega)
  ·refine h9 (mw (r:=r) (k:=t) (aA (x:=.list ([r,q].map tupI)) (y:=.int 0) rfl rfl rfl) rfl (pr.mem_iff.mpr ht)) (mw (r:=q) (k:=t) (aA (x:=.list ([r,q].map tupI)) (y:=.int 1) rfl rfl rfl) rfl (pq.mem_iff.mpr ht))
 have hps:(oI r q n).length=n:=by unfold oI;rw[List.length_map,cF]
 have hsq:∀p,p∈oI r q n->xH p:=fun p hp=>by
  obtain⟨t,ht,rfl⟩:=List.mem_map.mp hp
  have h1:=List.idxOf_lt_length_iff.mpr (pr.mem_iff.mpr ht)
  have h2:=List.idxOf_lt_length_iff.mpr (pq.mem_iff.mpr ht)
  have l1:=pr.length_eq
  have l2:=pq.length_eq
  rw[cF] at l1 l2
  exact⟨⟨by simp only;omega,by simp only;omega⟩,⟨by simp only;omega,by simp only;omega⟩⟩
 generalize oI r q n=ps at ep hps hsq
 rw[aq (env':=[.fz (bo ns),.fz (.int i),.bx,.fz (.int n),.fz (.list ([r,q].map tupI)),.fz (aK n l),.fz (.list (ps.map ao)),t7,t8,t9,t10,t11,t12,t13]) (β':=β2) (by rw[bV,ep];rfl)]
 obtain⟨o,β3,eod,ho⟩:=EZ β2
 rw[aq (env':=[.fz (bo ns),.fz (.int i),.bx,.fz (.int n),.fz (.list ([r,q].map tupI)),.fz (aK n l),.fz (.list (ps.map ao)),.fz o,t8,t9,t10,t11,t12,t13]) (β':=β3) (by rw[bV,dF (ds:=[]) (β1:=β2) (by rfl) rfl eod];rfl)]
 obtain⟨n',l',β4,eo,O',hn7'⟩:=yD (most:=7) (by omega) (by omega) β3
 rw[aq (env':=[.fz (bo ns),.fz (.int i),.bx,.fz (.int n),.fz (.list ([r,q].map tupI)),.fz (aK n l),.fz (.list (ps.map ao)),.fz o,.fz (aK n' l'),t9,t10,t11,t12,t13]) (β':=β4) (by rw[bV,dF (ds:=[.int 7]) (β1:=β3) (by rfl) rfl eo];rfl)]
 have es:bh (ba (ae (gv 5) (ae (gv 8) ah))) (vl [.fz (bo ns),.fz (.int i),.bx,.fz (.int n),.fz (.list ([r,q].map tupI)),.fz (aK n l),.fz (.list (ps.map ao)),.fz o,.fz (aK n' l'),t9,t10,t11,t12,t13]) β4=.ok [aK n l,aK n' l'] β4:=by
  unfold bh
  rw[lp (ds:=[aK n l,aK n' l']) (ac rfl (ac rfl an))];rfl
 obtain⟨w9,w10,w11,w12,w13,hfz⟩:∃w9 w10 w11 w12 w13,a7 ([5] ++ ([8] ++ [])) [.fz (bo ns),.fz (.int i),.bx,.fz (.int n),.fz (.list ([r,q].map tupI)),.fz (aK n l),.fz (.list (ps.map ao)),.fz o,.fz (aK n' l'),t9,t10,t11,t12,t13]= [.fz (bo ns),.fz (.int i),.bx,.fz (.int n),.fz (.list ([r,q].map tupI)),.fz (aK n l),.fz (.list (ps.map ao)),.fz o,.fz (aK n' l'),w9,w10,w11,w12,w13]:=⟨_,_,_,_,_,rfl⟩
 obtain⟨env',β',ef2,x9,x10,x11,x12,x13,rfl⟩:=cv (t:=.nm 9) (m:=vn) (ds:=[aK n l,aK n' l']) (k:=0)
  (fun _ env _=>∃x9 x10 x11 x12 x13,env= [.fz (bo ns),.fz (.int i),.bx,.fz (.int n),.fz (.list ([r,q].map tupI)),.fz (aK n l),.fz (.list (ps.map ao)),.fz o,.fz (aK n' l'),x9,x10,x11,x12,x13]) (env:=[.fz (bo ns),.fz (.int i),.bx,.fz (.int n),.fz (.list ([r,q].map tupI)),.fz (aK n l),.fz (.list (ps.map ao)),.fz o,.fz (aK n' l'),w9,w10,w11,w12,w13]) (β:=β4) ⟨_,_,_,_,_,rfl⟩ (by
   rintro k d env b hk ⟨x9,x10,x11,x12,x13,rfl⟩
   obtain⟨m,lm,rfl,Om⟩:∃m lm,d=aK m lm/\OM.Ord m lm:=by
    have:=List.mem_of_getElem? hk
    simp only[List.mem_cons,List.not_mem_nil,or_false] at this
    rcases this with rfl |rfl
    ·exact⟨_,_,rfl,O⟩
    ·exact⟨_,_,rfl,O'⟩
   obtain⟨y10,y11,y12,y13,β',e⟩:=GO (ns:=ns) (k:=i) (s3:=.fz (.int n)) (s4:=.fz (.list ([r,q].map tupI))) (s5:=.fz (aK n l)) (s8:=.fz (aK n' l')) (s10:=x10) (s11:=x11) (s12:=x12) (s13:=x13) Om (by omega:ps.length<=8) (by omega) hsq ho (fun d e=>by cases e) (fun d e=>by cases e) (fun d e=>by cases e) (fun d e=>by cases e) b
   exact⟨te ns i (.fz (.int n)) (.fz (.list ([r,q].map tupI))) (.fz (aK n l)) ps o (.fz (aK n' l')) m lm x10 x11 x12 x13,rfl,_,_,e,_,_,_,_,_,rfl⟩)
 refine⟨.bx,.fz (.int n),.fz (.list ([r,q].map tupI)),.fz (aK n l),.fz (.list (ps.map ao)),.fz o,.fz (aK n' l'),x9,x10,x11,x12,x13,β',?_⟩
 rw[b9 (env:=[.fz (bo ns),.fz (.int i),.bx,.fz (.int n),.fz (.list ([r,q].map tupI)),.fz (aK n l),.fz (.list (ps.map ao)),.fz o,.fz (aK n' l'),t9,t10,t11,t12,t13]) es,hfz]
 exact ef2
theorem Fg (ns:List Int):DQ [bo ns]=.ok (.bool true) false:=by
 show fin (uM BB vV Au Eg Ej bZ g7 Bu ml vf [.fz (bo ns),.no,.no,.no,.no,.no,.no,.no,.no,.no,.no,.no,.no,.no] 0)=_
 unfold uM
 obtain⟨m,hm5,em⟩:∃m:Nat,m<=5/\f2 (cst (.int 1)) (f2 (f1 (gv 0) c8) (cst (.int 5)) (tZ fun i j=>.int (if j < i then j else i))) (tZ fun i j=>.int (if j > i then j else i)) (vl [.fz (bo ns),.no,.no,.no,.no,.no,.no,.no,.no,.no,.no,.no,.no,.no]) 0=.ok (.int (m:Nat)) 0:=by
  have e1:f2 (cst (.int 1)) (f2 (f1 (gv 0) c8) (cst (.int 5)) (tZ fun i j=>.int (if j < i then j else i))) (tZ fun i j=>.int (if j > i then j else i)) (vl [.fz (bo ns),.no,.no,.no,.no,.no,.no,.no,.no,.no,.no,.no,.no,.no]) 0=.ok (.int (if (if (5:Int) < ((ns.map PyData.int).length:Int) then (5:Int) else ((ns.map PyData.int).length:Int)) > 1 then (if (5:Int) < ((ns.map PyData.int).length:Int) then (5:Int) else ((ns.map PyData.int).length:Int)) else 1)) 0:=rfl
  rw[e1]
  generalize ((ns.map PyData.int).length:Nat)=k
  refine⟨(if (if (5:Int) < (k:Int) then (5:Int) else (k:Int)) > 1 then (if (5:Int) < (k:Int) then (5:Int) else (k:Int)) else 1).toNat,?_,?_⟩
  ·split <;> split <;> omega
  ·congr 2
   split <;> split <;> omega
 obtain⟨env',β',ef,s1,s2,s3,s4,s5,s6,s7,s8,s9,s10,s11,s12,s13,rfl⟩:=cv (t:=.nm 1) (m:=zP) (ds:=bG 0 m) (k:=0)
  (fun _ env _=>∃s1 s2 s3 s4 s5 s6 s7 s8 s9 s10 s11 s12 s13:Sl,env= [.fz (bo ns),s1,s2,s3,s4,s5,s6,s7,s8,s9,s10,s11,s12,s13])
  (env:=[.fz (bo ns),.no,.no,.no,.no,.no,.no,.no,.no,.no,.no,.no,.no,.no]) (β:=0) ⟨_,_,_,_,_,_,_,_,_,_,_,_,_,rfl⟩ (by
   rintro i d env β hi ⟨s1,s2,s3,s4,s5,s6,s7,s8,s9,s10,s11,s12,s13,rfl⟩
   obtain⟨hin,rfl⟩:=gq hi
   rw[Int.zero_add]
   refine⟨[.fz (bo ns),.fz (.int i),s2,s3,s4,s5,s6,s7,s8,s9,s10,s11,s12,s13],rfl,?_⟩
   obtain⟨t2,t3,t4,t5,t6,t7,t8,t9,t10,t11,t12,t13,β',e⟩:=GD ns i s2 s3 s4 s5 s6 s7 s8 s9 s10 s11 s12 s13 β
   exact⟨_,_,e,_,_,_,_,_,_,_,_,_,_,_,_,_,rfl⟩)
 rw[aq (env':=[.fz (bo ns),s1,s2,s3,s4,s5,s6,s7,s8,s9,s10,s11,s12,s13]) (β':=β') ?z]
 ·rfl
 case z=>
  rw[b9 (env:=[.fz (bo ns),.no,.no,.no,.no,.no,.no,.no,.no,.no,.no,.no,.no,.no]) (ds:=bG 0 m) (β1:=0) (cz (n:=m) em (by omega))]
  exact ef
end RM

end

section
namespace RQ
open PySem L2 RM
def top (i:Nat):Stmt:=PySem.Challenge.pw_rowsorder_k31_points_looked_at.main.body.getD i (.Pass ⟨0,0,0,0⟩)
section
variable {P:Program}{w:World}{K:PySem.W.Frag}{mg:Str->Option Value}{base:Heap}{ca:Str->Addr}
abbrev iz:Stmt:=top 2
theorem ra:aL ["thing"] ["thing"] (ax iz):=⟨rfl,rfl,rfl,by decide +kernel,rfl,by decide +kernel,by decide +kernel⟩
theorem qB {f:Addr}{fd:FuncData}(F:kn K mg "is_whole" iz ["thing"] f fd)(B:kO mg):fV P w K mg base ca "is_whole" ["thing"] 1 (bJ 1 1 (nC)):=
 ⟨⟨f,fd,F.mg,F.F.kp,F.b,bu (N:=["thing"]) (k:=0) F.F ra fun cdv A outer s H G E hr=>
  (@aC _ _ _ _ _ (aQ (iP (fA "int" (by decide) rfl rfl B.isinstance rfl B.int (by decide +kernel) (ag 0)) (iC (ua (fA "bool" (by decide) rfl rfl B.isinstance rfl B.bool (by decide +kernel) (ag 0)))) (fun _ _=>rfl))))⟩,fun ds h=>a9 ds h⟩
abbrev i4:Stmt:=top 3
theorem qW:aL ["thing","bound"] ["thing","bound"] (ax i4):=⟨rfl,rfl,rfl,by decide +kernel,rfl,by decide +kernel,by decide +kernel⟩
theorem qc {f:Addr}{fd:FuncData}{bI:List D->FR}(F:kn K mg "is_below" i4 ["thing","bound"] f fd)(B:kO mg)(dZ:fV P w K mg base ca "is_whole" ["thing"] 1 bI):fV P w K mg base ca "is_below" ["thing","bound"] 2 (bJ 2 2 (ny bI)):=
 ⟨⟨f,fd,F.mg,F.F.kp,F.b,bu (N:=["thing","bound"]) (k:=1) F.F qW fun cdv A outer s H G E hr=>
  (@aC _ _ _ _ _ (aQ (iP (aY dZ (hr.mono (by decide)) bB rfl rfl (af (aB 0 rfl) ar)) (iC (rM zN m6 Dx tJ av (ag 0) (ag 1))) (fun _ _=>rfl))))⟩,fun ds h=>a9 ds h⟩
abbrev jC:Stmt:=top 4
theorem uw:aL ["thing"] ["thing"] (ax jC):=⟨rfl,rfl,rfl,by decide +kernel,rfl,by decide +kernel,by decide +kernel⟩
theorem sD {f:Addr}{fd:FuncData}{bI:List D->FR}(F:kn K mg "is_many" jC ["thing"] f fd)(B:kO mg)(dZ:fV P w K mg base ca "is_whole" ["thing"] 1 bI){oq:Tok}(g8:mg "MOST_THINGS"=some (.int 8 oq)):fV P w K mg base ca "is_many" ["thing"] 2 (bJ 1 1 (oS bI)):=
 ⟨⟨f,fd,F.mg,F.F.kp,F.b,bu (N:=["thing"]) (k:=1) F.F uw fun cdv A outer s H G E hr=>
  (@aC _ _ _ _ _ (aQ (iP (aY dZ (hr.mono (by decide)) bB rfl rfl (af (aB 0 rfl) ar)) (iC (rM zN zN Dx Dx av (ag 0) (A2 (by rfl) g8))) (fun _ _=>rfl))))⟩,fun ds h=>a9 ds h⟩
abbrev jx:Stmt:=top 5
theorem um:aL ["thing","many"] ["thing","many"] (ax jx):=⟨rfl,rfl,rfl,by decide +kernel,rfl,by decide +kernel,by decide +kernel⟩
theorem lM {f:Addr}{fd:FuncData}{bA:List D->FR}(F:kn K mg "is_pair" jx ["thing","many"] f fd)(B:kO mg)(cQ:fV P w K mg base ca "is_below" ["thing","bound"] 2 bA):fV P w K mg base ca "is_pair" ["thing","many"] 3 (bJ 2 2 (iw bA)):=
 ⟨⟨f,fd,F.mg,F.F.kp,F.b,bu (N:=["thing","many"]) (k:=2) F.F um fun cdv A outer s H G E hr=>
  (@au _ _ _ _ _ _ _ (fu (qA.t (jV (dg (c4 rfl (fA "tuple" (by decide) rfl rfl B.isinstance rfl B.tuple (by decide +kernel) (ag 0)))) (i3 (cf (i6 hr.units) ip (aS cw ja rfl B.len PySem.boot_len (ag 0)) av (bb _))) (fun _ _=>rfl)))
  (@aC _ _ _ _ _ (aQ ij))
  cO)
  (@aC _ _ _ _ _ (aQ (iP (aY cQ (hr.mono (by decide)) bB rfl rfl (af (bc aO cC (ag 0) av (fun _ _=>rfl)) (af (aB 1 rfl) ar))) (iC (aY cQ (hr.mono (by decide)) bB rfl rfl (af (bc aO cC (ag 0) av (fun _ _=>rfl)) (af (aB 1 rfl) ar)))) (fun _ _=>rfl)))))⟩,fun ds h=>a9 ds h⟩
abbrev jz:Stmt:=top 6
theorem tS:aL ["thing","many"] ["thing","many"] (ax jz):=⟨rfl,rfl,rfl,by decide +kernel,rfl,by decide +kernel,by decide +kernel⟩
theorem rq {f:Addr}{fd:FuncData}{bA:List D->FR}(F:kn K mg "is_line" jz ["thing","many"] f fd)(B:kO mg)(cQ:fV P w K mg base ca "is_below" ["thing","bound"] 2 bA):fV P w K mg base ca "is_line" ["thing","many"] 3 (bJ 2 2 (jD bA)):=
 ⟨⟨f,fd,F.mg,F.F.kp,F.b,bu (N:=["thing","many"]) (k:=2) F.F tS fun cdv A outer s H G E hr=>
  (@au _ _ _ _ _ _ _ (fu (qA.t (jV (dg (c4 rfl (fA "tuple" (by decide) rfl rfl B.isinstance rfl B.tuple (by decide +kernel) (ag 0)))) (i3 (cf (i6 hr.units) ip (aS cw ja rfl B.len PySem.boot_len (ag 0)) (ag 1) (bb _))) (fun _ _=>rfl)))
  (@aC _ _ _ _ _ (aQ ij))
  cO)
  (@aC _ _ _ _ _ (aQ (iP (aS (kZ rfl) kE rfl B.all (by decide +kernel) (cj (NB:=["one","many"]) (own:=1) (ixs:=[1]) [1] rfl (cP (by kernel_rfl)) (fun _ _=>rfl) (l4 rfl (ag 0)) (fun H0 G0 par br bx C ex s3 H3 pn=>(cN (i:=0) (show (["one","many"]:List Str).Nodup by decide +kernel))) (fun H0 G0 par br bx C ex s3 H3 pn hB1=>cY) (fun H0 G0 par br bx C ex s3 H3 pn hB1=>(aY cQ (hr.mono (by decide)) o6 rfl rfl (af (aB 0 (hB1 0 (by decide))) (af (aB 1 (hB1 1 (by decide))) ar)))))) (iC (iU (fZ hr.units) ip (wY rfl rfl rfl B.len rfl B.set (ag 0)) (ag 1) (bb _))) (fun _ _=>rfl)))))⟩,fun ds h=>a9 ds h⟩
abbrev dG:Stmt:=top 7
theorem ot:aL ["many"] ["many"] (ax dG):=⟨rfl,rfl,rfl,by decide +kernel,rfl,by decide +kernel,by decide +kernel⟩
theorem nX {f:Addr}{fd:FuncData}(F:kn K mg "every_pair" dG ["many"] f fd)(B:kO mg):fV P w K mg base ca "every_pair" ["many"] 1 (bJ 1 1 (fP)):=
 ⟨⟨f,fd,F.mg,F.F.kp,F.b,bu (N:=["many"]) (k:=0) F.F ot fun cdv A outer s H G E hr=>
  (@aC _ _ _ _ _ (mn (cj (NB:=["number","many"]) (own:=1) (ixs:=[0]) [] rfl (cP (by kernel_rfl)) (fun _ _=>rfl) (hW rfl B.range (aV jv j4 (ag 0) (ag 0))) (fun H0 G0 par br bx C ex s3 H3 pn=>(cN (i:=0) (show (["number","many"]:List Str).Nodup by decide +kernel))) (fun H0 G0 par br bx C ex s3 H3 pn hB1=>cY) (fun H0 G0 par br bx C ex s3 H3 pn hB1=>(cp (af (aV kr Bb (ag 0) (ag 1)) (af (aV kf oR (ag 0) (ag 1)) ar)))))))⟩,fun ds h=>a9 ds h⟩
abbrev i7:Stmt:=top 14
theorem r6:aL ["pairs"] ["pairs"] (ax i7):=⟨rfl,rfl,rfl,by decide +kernel,rfl,by decide +kernel,by decide +kernel⟩
theorem qr {f:Addr}{fd:FuncData}(F:kn K mg "has_ring" i7 ["pairs"] f fd)(B:kO mg):fV P w K mg base ca "has_ring" ["pairs"] 1 (bJ 1 1 (nt)):=
 ⟨⟨f,fd,F.mg,F.F.kp,F.b,bu (N:=["pairs"]) (k:=0) F.F r6 fun cdv A outer s H G E hr=>
  (@aC _ _ _ _ _ (aQ (aS (ye rfl) kE rfl B.any (by decide +kernel) (cj (NB:=["a","b"]) (own:=2) (ixs:=[]) [] rfl (cP (by kernel_rfl)) (fun _ _=>rfl) (l4 rfl (ag 0)) (fun H0 G0 par br bx C ex s3 H3 pn=>(jm (i:=0) (j:=1) (show (["a","b"]:List Str).Nodup by decide +kernel))) (fun H0 G0 par br bx C ex s3 H3 pn hB1=>cY) (fun H0 G0 par br bx C ex s3 H3 pn hB1=>(iU (fZ hr.units) ip (ag 0) (ag 1) (bb _)))))))⟩,fun ds h=>a9 ds h⟩
abbrev iA:Stmt:=top 12
theorem jl:aL ["thing","many","pairs"] ["thing"] (ax iA):=⟨rfl,rfl,rfl,by decide +kernel,rfl,by decide +kernel,by decide +kernel⟩
theorem qH {f:Addr}{fd:FuncData}{fT bQ ig dP:List D->FR}(F:kn K mg "is_order" iA ["thing"] f fd)(B:kO mg)(lG:fV P w K mg base ca "is_many" ["thing"] 2 fT)(ie:fV P w K mg base ca "is_pair" ["thing","many"] 3 bQ)(nE:fV P w K mg base ca "closed" ["many","pairs"] 3 ig)(jZ:fV P w K mg base ca "has_ring" ["pairs"] 1 dP):fV P w K mg base ca "is_order" ["thing"] 4 (bJ 3 1 (gp fT bQ ig dP)):=
 ⟨⟨f,fd,F.mg,F.F.kp,F.b,bu (N:=["thing","many","pairs"]) (k:=3) F.F jl fun cdv A outer s H G E hr=>
  (@au _ _ _ _ _ _ _ (fu (qA.t (jV (dg (c4 rfl (fA "tuple" (by decide) rfl rfl B.isinstance rfl B.tuple (by decide +kernel) (ag 0)))) (i3 (cf (i6 hr.units) ip (aS cw ja rfl B.len PySem.boot_len (ag 0)) av (bb _))) (fun _ _=>rfl)))
  (@aC _ _ _ _ _ (aQ ij))
  cO)
  (@au _ _ _ _ _ _ _ (aU (i:=1) (bc aO cC (ag 0) av (fun _ _=>rfl)) jl.nd)
  (@au _ _ _ _ _ _ _ (aU (i:=2) (bc aO cC (ag 0) av (fun _ _=>rfl)) jl.nd)
  (@au _ _ _ _ _ _ _ (fu (qA.t (jV (dg (c4 rfl (aY lG (hr.mono (by decide)) bB rfl rfl (af (aB 1 rfl) ar)))) (i3 (dg (c4 rfl (fA "tuple" (by decide) rfl rfl B.isinstance rfl B.tuple (by decide +kernel) (ag 2))))) (fun _ _=>rfl)))
  (@aC _ _ _ _ _ (aQ ij))
  cO)
  (@au _ _ _ _ _ _ _ (fu (dg (c4 rfl (aS (kZ rfl) kE rfl B.all (by decide +kernel) (cj (NB:=["pair","many"]) (own:=1) (ixs:=[1]) [1] rfl (cP (by kernel_rfl)) (fun _ _=>rfl) (l4 rfl (ag 2)) (fun H0 G0 par br bx C ex s3 H3 pn=>(cN (i:=0) (show (["pair","many"]:List Str).Nodup by decide +kernel))) (fun H0 G0 par br bx C ex s3 H3 pn hB1=>cY) (fun H0 G0 par br bx C ex s3 H3 pn hB1=>(aY ie (hr.mono (by decide)) o6 rfl rfl (af (aB 0 (hB1 0 (by decide))) (af (aB 1 (hB1 1 (by decide))) ar))))))))
  (@aC _ _ _ _ _ (aQ ij))
  cO)
  (@aC _ _ _ _ _ (aQ (iP (iU (fZ hr.units) ip (ag 2) (aY nE (hr.mono (by decide)) bB rfl rfl (af (aB 1 rfl) (af (aB 2 rfl) ar))) (bb _)) (iC (ua (aY jZ (hr.mono (by decide)) bB rfl rfl (af (aB 2 rfl) ar)))) (fun _ _=>rfl)))))))))⟩,fun ds h=>a9 ds h⟩
abbrev fR:Stmt:=top 15
theorem oz:aL ["thing"] ["thing"] (ax fR):=⟨rfl,rfl,rfl,by decide +kernel,rfl,by decide +kernel,by decide +kernel⟩
theorem nH {f:Addr}{fd:FuncData}{dO:List D->FR}(F:kn K mg "need_order" fR ["thing"] f fd)(B:kO mg)(j9:fV P w K mg base ca "is_order" ["thing"] 4 dO)(hV:Exc K mg ca "NoOrder"):fV P w K mg base ca "need_order" ["thing"] 5 (bJ 1 1 (fL dO)):=
 ⟨⟨f,fd,F.mg,F.F.kp,F.b,bu (N:=["thing"]) (k:=4) F.F oz fun cdv A outer s H G E hr=>
  (@aC _ _ _ _ _ (fu (dg (c4 rfl (aY j9 (hr.mono (by decide)) bB rfl rfl (af (aB 0 rfl) ar))))
  (@aC _ _ _ _ _ (Am hV.ex hV.ca rfl hV.mg (af zb ar)))
  cO))⟩,fun ds h=>a9 ds h⟩
abbrev iD:Stmt:=top 18
theorem qO:aL ["point","other"] ["point","other"] (ax iD):=⟨rfl,rfl,rfl,by decide +kernel,rfl,by decide +kernel,by decide +kernel⟩
theorem qd {f:Addr}{fd:FuncData}(F:kn K mg "is_under" iD ["point","other"] f fd)(B:kO mg):fV P w K mg base ca "is_under" ["point","other"] 1 (bJ 2 2 (iW)):=
 ⟨⟨f,fd,F.mg,F.F.kp,F.b,bu (N:=["point","other"]) (k:=0) F.F qO fun cdv A outer s H G E hr=>
  (@aC _ _ _ _ _ (aQ (iP (iU m6 tJ (bc aO cC (ag 0) av (fun _ _=>rfl)) (bc aO cC (ag 1) av (fun _ _=>rfl)) (bb _)) (iC (iU m6 tJ (bc aO cC (ag 0) av (fun _ _=>rfl)) (bc aO cC (ag 1) av (fun _ _=>rfl)) (bb _))) (fun _ _=>rfl))))⟩,fun ds h=>a9 ds h⟩
abbrev fN:Stmt:=top 17
theorem jX:aL ["thing","order","many"] ["thing","order"] (ax fN):=⟨rfl,rfl,rfl,by decide +kernel,rfl,by decide +kernel,by decide +kernel⟩
theorem mR {f:Addr}{fd:FuncData}{cR bQ eG cn dS:List D->FR}(F:kn K mg "are_points" fN ["thing","order"] f fd)(B:kO mg)(iM:fV P w K mg base ca "need_order" ["thing"] 5 cR)(ie:fV P w K mg base ca "is_pair" ["thing","many"] 3 bQ)(jF:fV P w K mg base ca "is_line" ["thing","many"] 3 eG)(iF:fV P w K mg base ca "every_pair" ["many"] 1 cn)(km:fV P w K mg base ca "is_under" ["point","other"] 1 dS):fV P w K mg base ca "are_points" ["thing","order"] 6 (bJ 3 2 (fM cR bQ eG cn dS)):=
 ⟨⟨f,fd,F.mg,F.F.kp,F.b,bu (N:=["thing","order","many"]) (k:=5) F.F jX fun cdv A outer s H G E hr=>
  (@au _ _ _ _ _ _ _ (Be (aY iM (hr.mono (by decide)) bB rfl rfl (af (aB 1 rfl) ar)))
  (@au _ _ _ _ _ _ _ (aU (i:=2) (bc aO cC (ag 1) av (fun _ _=>rfl)) jX.nd)
  (@au _ _ _ _ _ _ _ (fu (qA.t (jV (dg (c4 rfl (fA "list" (by decide) rfl rfl B.isinstance rfl B.list (by decide +kernel) (ag 0)))) (i3 (dg (c4 rfl (aS (kZ rfl) kE rfl B.all (by decide +kernel) (cj (NB:=["point","many"]) (own:=1) (ixs:=[2]) [2] rfl (cP (by kernel_rfl)) (fun _ _=>rfl) (l4 rfl (ag 0)) (fun H0 G0 par br bx C ex s3 H3 pn=>(cN (i:=0) (show (["point","many"]:List Str).Nodup by decide +kernel))) (fun H0 G0 par br bx C ex s3 H3 pn hB1=>cY) (fun H0 G0 par br bx C ex s3 H3 pn hB1=>(aY ie (hr.mono (by decide)) o6 rfl rfl (af (aB 0 (hB1 0 (by decide))) (af (aB 1 (hB1 1 (by decide))) ar))))))))) (fun _ _=>rfl)))
  (@aC _ _ _ _ _ (aQ ij))
  cO)
  (@au _ _ _ _ _ _ _ (fu (qA.t (jV (dg (c4 rfl (aY jF (hr.mono (by decide)) bB rfl rfl (af (c9 bp gY rfl B.tuple (by decide +kernel) (cj (NB:=["x","y"]) (own:=2) (ixs:=[]) [] rfl (cP (by kernel_rfl)) (fun _ _=>rfl) (l4 rfl (ag 0)) (fun H0 G0 par br bx C ex s3 H3 pn=>(jm (i:=0) (j:=1) (show (["x","y"]:List Str).Nodup by decide +kernel))) (fun H0 G0 par br bx C ex s3 H3 pn hB2=>cY) (fun H0 G0 par br bx C ex s3 H3 pn hB2=>(aB 0 (hB2 0 (by decide)))))) (af (aB 2 rfl) ar))))) (i3 (dg (c4 rfl (aY jF (hr.mono (by decide)) bB rfl rfl (af (c9 bp gY rfl B.tuple (by decide +kernel) (cj (NB:=["x","y"]) (own:=2) (ixs:=[]) [] rfl (cP (by kernel_rfl)) (fun _ _=>rfl) (l4 rfl (ag 0)) (fun H0 G0 par br bx C ex s3 H3 pn=>(jm (i:=0) (j:=1) (show (["x","y"]:List Str).Nodup by decide +kernel))) (fun H0 G0 par br bx C ex s3 H3 pn hB3=>cY) (fun H0 G0 par br bx C ex s3 H3 pn hB3=>(aB 1 (hB3 1 (by decide)))))) (af (aB 2 rfl) ar)))))) (fun _ _=>rfl)))
  (@aC _ _ _ _ _ (aQ ij))
  cO)
  (@aC _ _ _ _ _ (aQ (iU (fZ hr.units) ip (c9 bp gY rfl B.tuple (by decide +kernel) (cj (NB:=["a","b","thing"]) (own:=2) (ixs:=[0]) [] rfl (cP (by kernel_rfl)) (fun _ _=>rfl) (l4 rfl (aY iF (hr.mono (by decide)) bB rfl rfl (af (aB 2 rfl) ar))) (fun H0 G0 par br bx C ex s3 H3 pn=>(jm (i:=0) (j:=1) (show (["a","b","thing"]:List Str).Nodup by decide +kernel))) (fun H0 G0 par br bx C ex s3 H3 pn hB4=>(mi (c4 rfl (aY km (hr.mono (by decide)) o6 rfl rfl (af (bc aO cC (ag 2) (ag 0) (fun _ _=>rfl)) (af (bc aO cC (ag 2) (ag 1) (fun _ _=>rfl)) ar)))))) (fun H0 G0 par br bx C ex s3 H3 pn hB4=>(cp (af (aB 0 (hB4 0 (by decide))) (af (aB 1 (hB4 1 (by decide))) ar)))))) (bc aO cC (ag 1) av (fun _ _=>rfl)) (bb _))))))))⟩,fun ds h=>a9 ds h⟩
abbrev gP:Stmt:=top 20
theorem qF:aL ["script","k"] ["script","k"] (ax gP):=⟨rfl,rfl,rfl,by decide +kernel,rfl,by decide +kernel,by decide +kernel⟩
theorem oD {f:Addr}{fd:FuncData}(F:kn K mg "_law_cell" gP ["script","k"] f fd)(B:kO mg):fV P w K mg base ca "_law_cell" ["script","k"] 1 (bJ 2 2 (fy)):=
 ⟨⟨f,fd,F.mg,F.F.kp,F.b,bu (N:=["script","k"]) (k:=0) F.F qF fun cdv A outer s H G E hr=>
  (@au _ _ _ _ _ _ _ (fu (cf m6 tJ (ag 1) (aS cw ja rfl B.len PySem.boot_len (ag 0)) (bb _))
  (@aC _ _ _ _ _ (aQ (bc aO cC (ag 0) (ag 1) (fun _ _=>rfl))))
  cO)
  (@aC _ _ _ _ _ (aQ av)))⟩,fun ds h=>a9 ds h⟩
abbrev dX:Stmt:=top 21
theorem gE:aL ["cell","k","some","stir"] ["cell","k"] (ax dX):=⟨rfl,rfl,rfl,by decide +kernel,rfl,by decide +kernel,by decide +kernel⟩
theorem qq:∃(es:List Expr) (p1 p2 p3:Pos),cL dX=.Assign [.Name "some" p1] (.List es p2) p3 :: (cL dX).drop 1/\constsOf es=some [48271,69621,16807,39373,30269,40014,40692,50021,61687,71993,83869,95561,30307]:=⟨_,_,_,_,rfl,by kernel_rfl⟩
theorem pM {f:Addr}{fd:FuncData}(F:kn K mg "_law_mix" dX ["cell","k"] f fd)(B:kO mg):fV P w K mg base ca "_law_mix" ["cell","k"] 1 (bJ 4 2 (iZ)):=by
 obtain⟨es,p1,p2,p3,hb,hes⟩:=qq
 refine⟨⟨f,fd,F.mg,F.F.kp,F.b,bu (N:=["cell","k","some","stir"]) (k:=0) F.F gE fun cdv A outer s H G E hr=>?_⟩,fun ds h=>a9 ds h⟩
 rw[hb]
 exact (au (aU (i:=2) (SE.wv (bM (pD hes))) gE.nd) (@au _ _ _ _ _ _ _ (aU (i:=3) (aV fC fE (aV fC fE (aV jv j4 (aV fC fE (aV kf oR (ag 0) av) av) (bc aO cC (ag 2) (aV kf oR (ag 1) av) (fun _ _=>rfl))) (aV jv j4 av (ag 1))) (aV jv j4 av (aV kr Bb (ag 1) av))) gE.nd)
  (@au _ _ _ _ _ _ _ (aU (i:=3) (aV kf oR (ag 3) av) gE.nd)
  (@aC _ _ _ _ _ (aQ (aV kr Bb (aV kf oR (aV fC fE (aV jv j4 (ag 3) (ag 3)) (aV jv j4 av (ag 1))) av) av))))))
abbrev iQ:Stmt:=top 22
theorem fw:aL ["script","k","cell","number","j"] ["script","k"] (ax iQ):=⟨rfl,rfl,rfl,by decide +kernel,rfl,by decide +kernel,by decide +kernel⟩
theorem qh {f:Addr}{fd:FuncData}{dq dU:List D->FR}(F:kn K mg "_law_box" iQ ["script","k"] f fd)(B:kO mg)(jf:fV P w K mg base ca "_law_cell" ["script","k"] 1 dq)(kh:fV P w K mg base ca "_law_mix" ["cell","k"] 1 dU):fV P w K mg base ca "_law_box" ["script","k"] 2 (bJ 5 2 (iR dq dU)):=
 ⟨⟨f,fd,F.mg,F.F.kp,F.b,bu (N:=["script","k","cell","number","j"]) (k:=1) F.F fw fun cdv A outer s H G E hr=>
  (@au _ _ _ _ _ _ _ (aU (i:=2) (aY jf (hr.mono (by decide)) bB rfl rfl (af (aB 0 rfl) (af (aB 1 rfl) ar))) fw.nd)
  (@au _ _ _ _ _ _ _ (fu (cf (fZ hr.units) ip (aV kf oR (ag 2) av) av (bb _))
  (@aC _ _ _ _ _ (mn (bM (af (aV kr Bb (aS Ad FA rfl B.abs (by decide +kernel) (ag 2)) av) ar))))
  cO)
  (@au _ _ _ _ _ _ _ (aU (i:=3) av fw.nd)
  (@au _ _ _ _ _ _ _ (dR PassesOwn.leaving rfl (hW rfl B.range av) (cN (i:=4) fw.nd)
  (@aC _ _ _ _ _ (aU (i:=3) (aV fC fE (aV jv j4 (ag 3) av) (aY kh (hr.mono (by decide)) bB rfl rfl (af (aB 2 rfl) (af (aB 4 rfl) ar)))) fw.nd)))
  (@aC _ _ _ _ _ (mn (bM (af (aB 3 rfl) ar))))))))⟩,fun ds h=>a9 ds h⟩
abbrev gA:Stmt:=top 23
theorem kx:aL ["box","many","left","digit"] ["box","many"] (ax gA):=⟨rfl,rfl,rfl,by decide +kernel,rfl,by decide +kernel,by decide +kernel⟩
theorem oi {f:Addr}{fd:FuncData}(F:kn K mg "_law_take" gA ["box","many"] f fd)(B:kO mg):jN P w K mg base "_law_take" ["box","many"] 1 bZ:=by
 refine⟨⟨f,fd,F.mg,F.F.kp,F.b,?_⟩,fun ds β h=>?_⟩
 ·refine F.F.xQ kx (fun vs H Q E h=>?_) (fun cdv A outer s H vs Q E hr h=>?_)
  ·obtain⟨b,rest,G,ds,β,rfl,hb,gb,sG,hl,r,_⟩:=h
   rw[List.length_cons,r.len,hl];rfl
  ·obtain⟨b,rest,G,ds,β,rfl,hb,gb,sG,hl,r,h⟩:=h
   obtain⟨m,rfl,h0,h1⟩:=vp (fun z=>by rw[z] at h;exact h)
   rw[qj h0 h1] at h
   have kk:∀v G' H',gW (some b) H H'->H' b=some (.lst [.int (β / m)])->ak G G'->ak G' H'->(∀c,Mx H c->G c=none->G' c=none)->FV K H G' H' false (.int (β % m)) v->Q v H':=h
   cases r with
   |cons r1 r2=>
    cases r1
    cases r2
    refine⟨_,fY (lh (ik rV rfl B.divmod (by decide +kernel) (aJ (jU fO (pv 0) n5 (fun _ _=>rfl)) (aJ (pv 1) bg))) (Bo (i:=2) (j:=3) kx.nd rfl rfl rfl rfl rfl))
     (fY (lh (pv 2) (nc (pv 0) n5 set_list)) (gG (k9 (pv 3)))),?_⟩
    refine⟨_,rfl,b,_,0,.int β,rfl,rfl,.inl (.inl hb),rfl,_,rfl,β,m,rfl,⟨h0,h1⟩,fun p hp=>⟨p,_,rfl,.inl (.inl aw),rfl,_,_,rfl,_,_,rfl,rfl,?_⟩⟩
    have hbp:b≠p:=aF hb hp
    exact⟨_,rfl,_,rfl,b,[.int β],0,0,rfl,rfl,by rw[az hbp];exact hb,rfl,_,rfl,zg hb sG hp kk gb⟩
 ·obtain⟨m,rfl,_⟩:=vp h
  rfl
abbrev fJ:Stmt:=top 24
theorem oA:aL ["thing"] ["thing"] (ax fJ):=⟨rfl,rfl,rfl,by decide +kernel,rfl,by decide +kernel,by decide +kernel⟩
theorem mX {f:Addr}{fd:FuncData}(F:kn K mg "_law_whole" fJ ["thing"] f fd)(B:kO mg):fV P w K mg base ca "_law_whole" ["thing"] 1 (bJ 1 1 (kP)):=
 ⟨⟨f,fd,F.mg,F.F.kp,F.b,bu (N:=["thing"]) (k:=0) F.F oA fun cdv A outer s H G E hr=>
  (@aC _ _ _ _ _ (aQ (iP (fA "int" (by decide) rfl rfl B.isinstance rfl B.int (by decide +kernel) (ag 0)) (iC (ua (fA "bool" (by decide) rfl rfl B.isinstance rfl B.bool (by decide +kernel) (ag 0)))) (fun _ _=>rfl))))⟩,fun ds h=>a9 ds h⟩
abbrev fH:Stmt:=top 25
theorem oj:aL ["found","due"] ["found","due"] (ax fH):=⟨rfl,rfl,rfl,by decide +kernel,rfl,by decide +kernel,by decide +kernel⟩
theorem mK {f:Addr}{fd:FuncData}(F:kn K mg "_law_truth" fH ["found","due"] f fd)(B:kO mg):fV P w K mg base ca "_law_truth" ["found","due"] 1 (bJ 2 2 (kK)):=
 ⟨⟨f,fd,F.mg,F.F.kp,F.b,bu (N:=["found","due"]) (k:=0) F.F oj fun cdv A outer s H G E hr=>
  (@aC _ _ _ _ _ (aQ (iP (fA "bool" (by decide) rfl rfl B.isinstance rfl B.bool (by decide +kernel) (ag 0)) (iC (iU (fZ hr.units) ip (ag 0) (ag 1) (bb _))) (fun _ _=>rfl))))⟩,fun ds h=>a9 ds h⟩
abbrev iI:Stmt:=top 26
theorem jo:aL ["box","some"] ["box"] (ax iI):=⟨rfl,rfl,rfl,by decide +kernel,rfl,by decide +kernel,by decide +kernel⟩
theorem pZ {f:Addr}{fd:FuncData}{ay:List D->Int->FB}(F:kn K mg "_law_odd" iI ["box"] f fd)(B:kO mg)(aI:jN P w K mg base "_law_take" ["box","many"] 1 ay):jN P w K mg base "_law_odd" ["box"] 2 (l0 2 0 (iK ay)):=
 ⟨⟨f,fd,F.mg,F.F.kp,F.b,ku (ca:=fun _=>0) (N:=["box","some"]) (k:=1) F.F jo (by decide) fun cdv A outer s H G b E hr=>
  (@au _ _ _ _ _ _ _ (@E2 _ _ _ 1 _ _ (ae (cst .none) (ae (cst (.bool true)) (ae (cst (.bool false)) (ae (cst (.int (-1))) (ae (cst (.int 0)) (ae (cst (.int 1)) (ae (cst (.str "")) (ae (cst (.str "1")) (ae (aX ah) (ae (ba ah) (ae (aX (ae (cst (.int 0)) ah)) (ae (aX (ae (cst (.int 1)) (ae (aX ah) ah))) (ae (ba (ae (cst (.int 0)) ah)) ah))))))))))))) ([] ++ ([] ++ ([] ++ ([] ++ ([] ++ ([] ++ ([] ++ ([] ++ ([] ++ ([] ++ (([] ++ []) ++ (([] ++ ([] ++ [])) ++ (([] ++ []) ++ []))))))))))))) _ _ _ [] (by kernel_rfl) (fun _=>rfl) (by kernel_rfl) jo.nd rfl (by first |exact Or.inl rfl |exact Or.inr rfl) (by first |exact .inl rfl |exact .inr rfl))
  (@au _ _ _ _ _ _ _ (aU (i:=1) (@SE.wv _ _ _ _ _ _ (aV dA ju (ag 1) (@CB _ _ _ _ (ae (cst (.dict [(.str "a",.int 1)])) (ae (aX (ae (cst (.int 0)) (ae (cst (.int 1)) ah))) (ae (f2 (cst (.int 10)) (cst (.int 39)) yZ) (ae (aX (ae (aX (ae (cst (.int 0)) (ae (cst (.int 1)) ah))) ah)) (ae (cst (.str "a")) ah))))) ([] ++ (([] ++ ([] ++ [])) ++ ([] ++ ((([] ++ ([] ++ [])) ++ []) ++ ([] ++ []))))) _ [] (by kernel_rfl) (fun _=>rfl) (by kernel_rfl)))) jo.nd)
  (@aC _ _ _ _ _ (aQ (bc aO cC (ag 1) (gJ 0 aI (hr.mono (by decide)) bB rfl rfl (af av ar)) (fun _ _=>rfl))))))⟩,fun ds β h=>kQ ds β h⟩
abbrev dc:Stmt:=top 27
theorem dY:aL ["box","some","left","found"] ["box","some"] (ax dc):=⟨rfl,rfl,rfl,by decide +kernel,rfl,by decide +kernel,by decide +kernel⟩
theorem kC {f:Addr}{fd:FuncData}{ay:List D->Int->FB}(F:kn K mg "_law_mixed_up" dc ["box","some"] f fd)(B:kO mg)(aI:jN P w K mg base "_law_take" ["box","many"] 1 ay):jN P w K mg base "_law_mixed_up" ["box","some"] 2 (l0 4 1 (df ay)):=
 ⟨⟨f,fd,F.mg,F.F.kp,F.b,ku (ca:=fun _=>0) (N:=["box","some","left","found"]) (k:=1) F.F dY (by decide) fun cdv A outer s H G b E hr=>
  (@au _ _ _ _ _ _ _ (jK (i:=2) (c9 kH yg rfl B.list (by decide +kernel) (ag 1)) dY.nd)
  (@au _ _ _ _ _ _ _ (jK (i:=3) (bM ar) dY.nd)
  (@au _ _ _ _ _ _ _ (sF 1000 PassesOwn.leaving (cf (i6 hr.units) ip (ag 2) (bM ar) (bb _))
  (@aC _ _ _ _ _ (wK 3 2 (fun _=>rfl) (gJ 0 aI (hr.mono (by decide)) bB rfl rfl (af (aS cw ja rfl B.len PySem.boot_len (ag 2)) ar)))))
  (@aC _ _ _ _ _ (BJ 3)))))⟩,fun ds β h=>kQ ds β h⟩
abbrev eO:Stmt:=top 28
theorem bt:aL ["pairs","found","size","more","a","b"] ["pairs"] (ax eO):=⟨rfl,rfl,rfl,by decide +kernel,rfl,by decide +kernel,by decide +kernel⟩
theorem lX {f:Addr}{fd:FuncData}(F:kn K mg "_law_closed" eO ["pairs"] f fd)(B:kO mg):fV P w K mg base ca "_law_closed" ["pairs"] 1 (bJ 6 1 (eN)):=
 ⟨⟨f,fd,F.mg,F.F.kp,F.b,bu (N:=["pairs","found","size","more","a","b"]) (k:=0) F.F bt fun cdv A outer s H G E hr=>
  (@au _ _ _ _ _ _ _ (aU (i:=1) (@SE.wv _ _ _ _ _ _ (nA rfl hr.units rfl rfl B.sorted rfl B.set (ag 0))) bt.nd)
  (@au _ _ _ _ _ _ _ (aU (i:=2) (CK uA CJ av) bt.nd)
  (@au _ _ _ _ _ _ _ (sF 1000 PassesOwn.leaving (cf (i6 hr.units) ip (ag 2) (aS cw ja rfl B.len PySem.boot_len (ag 1)) (bb _))
  (@au _ _ _ _ _ _ _ (aU (i:=2) (aS cw ja rfl B.len PySem.boot_len (ag 1)) bt.nd)
  (@au _ _ _ _ _ _ _ (aU (i:=3) (@SE.wv _ _ _ _ _ _ (bM ar)) bt.nd)
  (@au _ _ _ _ _ _ _ (dR PassesOwn.leaving rfl (Bj rfl (aB 1 rfl)) (jm (i:=4) (j:=5) bt.nd)
  (@aC _ _ _ _ _ (aU (i:=3) (@SE.wv _ _ _ _ _ _ (aV dA ju (ag 3) (cj (NB:=["c","d","b","a"]) (own:=2) (ixs:=[5,4]) [4] rfl (cP (by kernel_rfl)) (fun _ _=>rfl) (l4 rfl (ag 1)) (fun H0 G0 par br bx C ex s3 H3 pn=>(jm (i:=0) (j:=1) (show (["c","d","b","a"]:List Str).Nodup by decide +kernel))) (fun H0 G0 par br bx C ex s3 H3 pn hB1=>(mi (cf (fZ hr.units) ip (ag 0) (ag 2) (bb _)))) (fun H0 G0 par br bx C ex s3 H3 pn hB1=>(cp (af (aB 3 (hB1 3 (by decide))) (af (aB 1 (hB1 1 (by decide))) ar))))))) bt.nd)))
  (@aC _ _ _ _ _ (aU (i:=1) (@SE.wv _ _ _ _ _ _ (nA rfl hr.units rfl rfl B.sorted rfl B.set (aV dA ju (ag 1) (ag 3)))) bt.nd))))))
  (@aC _ _ _ _ _ (aQ (c9 bp gY rfl B.tuple (by decide +kernel) (ag 1)))))))⟩,fun ds h=>a9 ds h⟩
abbrev fS:Stmt:=top 29
theorem bY:aL ["box","most","many","names","thin","pairs","i","j"] ["box","most"] (ax fS):=⟨rfl,rfl,rfl,by decide +kernel,rfl,by decide +kernel,by decide +kernel⟩
theorem nr {f:Addr}{fd:FuncData}{cB:List D->FR}{ay aN:List D->Int->FB}(F:kn K mg "_law_order" fS ["box","most"] f fd)(B:kO mg)(gZ:fV P w K mg base ca "_law_closed" ["pairs"] 1 cB)(aI:jN P w K mg base "_law_take" ["box","many"] 1 ay)(bP:jN P w K mg base "_law_mixed_up" ["box","some"] 2 aN):jN P w K mg base "_law_order" ["box","most"] 3 (l0 8 1 (fI cB ay aN)):=
 ⟨⟨f,fd,F.mg,F.F.kp,F.b,ku (ca:=ca) (N:=["box","most","many","names","thin","pairs","i","j"]) (k:=2) F.F bY (by decide) fun cdv A outer s H G b E hr=>
  (@au _ _ _ _ _ _ _ (aU (i:=2) (aV fC fE av (gJ 0 aI (hr.mono (by decide)) bB rfl rfl (af (aB 1 rfl) ar))) bY.nd)
  (@au _ _ _ _ _ _ _ (aU (i:=3) (gJ 0 bP (hr.mono (by decide)) bB rfl rfl (af (@SE.wv _ _ _ _ _ _ (kl rfl rfl B.list rfl B.range (ag 2))) ar)) bY.nd)
  (@au _ _ _ _ _ _ _ (aU (i:=4) (bc aO cC (bM (af av (af av (af av (af av ar))))) (gJ 0 aI (hr.mono (by decide)) bB rfl rfl (af av ar)) (fun _ _=>rfl)) bY.nd)
  (@au _ _ _ _ _ _ _ (jK (i:=5) (bM ar) bY.nd)
  (@au _ _ _ _ _ _ _ (dR PassesOwn.leaving rfl (hW rfl B.range (ag 2)) (cN (i:=6) bY.nd)
  (@aC _ _ _ _ _ (dR PassesOwn.leaving rfl (EM rfl B.range (aV fC fE (ag 6) av) (ag 2)) (cN (i:=7) bY.nd)
  (@aC _ _ _ _ _ (fu (cf (fZ hr.units) ip (gJ 0 aI (hr.mono (by decide)) bB rfl rfl (af (aB 4 rfl) ar)) av (bb _))
  (@aC _ _ _ _ _ (lH 5 (fun _=>rfl) (cp (af (bc aO cC (ag 3) (ag 6) (fun _ _=>rfl)) (af (bc aO cC (ag 3) (ag 7) (fun _ _=>rfl)) ar)))))
  cO)))))
  (@aC _ _ _ _ _ (aQ (cp (af (aB 2 rfl) (af (aY gZ (hr.mono (by decide)) bB rfl rfl (af (aB 5 rfl) ar)) ar))))))))))⟩,fun ds β h=>kQ ds β h⟩
abbrev gC:Stmt:=top 30
theorem dI:aL ["many","rows","found","a","b","left"] ["many","rows"] (ax gC):=⟨rfl,rfl,rfl,by decide +kernel,rfl,by decide +kernel,by decide +kernel⟩
theorem oB {f:Addr}{fd:FuncData}(F:kn K mg "_law_told" gC ["many","rows"] f fd)(B:kO mg):fV P w K mg base ca "_law_told" ["many","rows"] 1 (bJ 6 2 (dz)):=
 ⟨⟨f,fd,F.mg,F.F.kp,F.b,bu (N:=["many","rows","found","a","b","left"]) (k:=0) F.F dI fun cdv A outer s H G E hr=>
  (@au _ _ _ _ _ _ _ (jK (i:=2) (bM ar) dI.nd)
  (@au _ _ _ _ _ _ _ (dR PassesOwn.leaving rfl (hW rfl B.range (ag 0)) (cN (i:=3) dI.nd)
  (@aC _ _ _ _ _ (dR PassesOwn.leaving rfl (hW rfl B.range (ag 0)) (cN (i:=4) dI.nd)
  (@au _ _ _ _ _ _ _ (vD (i:=5) (NB:=["one","a","b"]) (own:=1) (ixs:=[3,4]) [] rfl (cP (by kernel_rfl)) (fun _ _=>rfl) (l4 rfl (ag 1)) (fun H0 G0 par br bx C ex s3 H3 pn=>(cN (i:=0) (show (["one","a","b"]:List Str).Nodup by decide +kernel))) (fun H0 G0 par br bx C ex s3 H3 pn hB1=>(mi (cf EX GB (kR rfl (ag 0) (ag 1)) (kR rfl (ag 0) (ag 2)) (bb _)))) (fun H0 G0 par br bx C ex s3 H3 pn hB1=>av) dI.nd)
  (@aC _ _ _ _ _ (fu (qA.t (xU (cf (i6 hr.units) ip (ag 3) (ag 4) (bb _)) (vO (cf (fZ hr.units) ip (ag 5) (bM ar) (bb _))) (fun _ _=>rfl)))
  (@aC _ _ _ _ _ (lH 2 (fun _=>rfl) (cp (af (aB 3 rfl) (af (aB 4 rfl) ar)))))
  cO))))))
  (@aC _ _ _ _ _ (aQ (c9 bp gY rfl B.tuple (by decide +kernel) (ag 2))))))⟩,fun ds h=>a9 ds h⟩
abbrev cD:Stmt:=top 31
theorem aW:aL ["thing","order","many","point","side","told","a"] ["thing","order"] (ax cD):=⟨rfl,rfl,rfl,by decide +kernel,rfl,by decide +kernel,by decide +kernel⟩
theorem jM {f:Addr}{fd:FuncData}{cV:List D->FR}(F:kn K mg "_law_are_points" cD ["thing","order"] f fd)(B:kO mg)(i5:fV P w K mg base ca "_law_whole" ["thing"] 1 cV):fV P w K mg base ca "_law_are_points" ["thing","order"] 2 (bJ 7 2 (cK cV)):=
 ⟨⟨f,fd,F.mg,F.F.kp,F.b,bu (N:=["thing","order","many","point","side","told","a"]) (k:=1) F.F aW fun cdv A outer s H G E hr=>
  (@au _ _ _ _ _ _ _ (aU (i:=2) (bc aO cC (ag 1) av (fun _ _=>rfl)) aW.nd)
  (@au _ _ _ _ _ _ _ (fu (qA.t (jV (dg (c4 rfl (fA "list" (by decide) rfl rfl B.isinstance rfl B.list (by decide +kernel) (ag 0)))) (i3 (cf (i6 hr.units) ip (aS cw ja rfl B.len PySem.boot_len (ag 0)) (ag 2) (bb _))) (fun _ _=>rfl)))
  (@aC _ _ _ _ _ (aQ ij))
  cO)
  (@au _ _ _ _ _ _ _ (dR PassesOwn.leaving rfl (Bj rfl (aB 0 rfl)) (cN (i:=3) aW.nd)
  (@aC _ _ _ _ _ (fu (qA.t (jV (dg (c4 rfl (fA "tuple" (by decide) rfl rfl B.isinstance rfl B.tuple (by decide +kernel) (ag 3)))) (jV (cf (i6 hr.units) ip (aS cw ja rfl B.len PySem.boot_len (ag 3)) av (bb _)) (i3 (dg (c4 rfl (aS (kZ rfl) kE rfl B.all (by decide +kernel) (cj (NB:=["one"]) (own:=1) (ixs:=[]) [] rfl (cP (by kernel_rfl)) (fun _ _=>rfl) (l4 rfl (ag 3)) (fun H0 G0 par br bx C ex s3 H3 pn=>(cN (i:=0) (show (["one"]:List Str).Nodup by decide +kernel))) (fun H0 G0 par br bx C ex s3 H3 pn hB1=>cY) (fun H0 G0 par br bx C ex s3 H3 pn hB1=>(aY i5 (hr.mono (by decide)) o6 rfl rfl (af (aB 0 (hB1 0 (by decide))) ar)))))))) (fun _ _=>rfl)) (fun _ _=>rfl)))
  (@aC _ _ _ _ _ (aQ ij))
  cO)))
  (@au _ _ _ _ _ _ _ (dR PassesOwn.leaving rfl (hW rfl B.range av) (cN (i:=4) aW.nd)
  (@aC _ _ _ _ _ (fu (cf (i6 hr.units) ip (aS tV Bl rfl B.sorted (by decide +kernel) (cj (NB:=["point","side"]) (own:=1) (ixs:=[4]) [] rfl (cP (by kernel_rfl)) (fun _ _=>rfl) (l4 rfl (ag 0)) (fun H0 G0 par br bx C ex s3 H3 pn=>(cN (i:=0) (show (["point","side"]:List Str).Nodup by decide +kernel))) (fun H0 G0 par br bx C ex s3 H3 pn hB2=>cY) (fun H0 G0 par br bx C ex s3 H3 pn hB2=>(bc aO cC (ag 0) (ag 1) (fun _ _=>rfl))))) (kl rfl rfl B.list rfl B.range (ag 2)) (bb _))
  (@aC _ _ _ _ _ (aQ ij))
  cO)))
  (@au _ _ _ _ _ _ _ (aU (i:=5) (@SE.wv _ _ _ _ _ _ (bM ar)) aW.nd)
  (@au _ _ _ _ _ _ _ (dR PassesOwn.leaving rfl (hW rfl B.range (ag 2)) (cN (i:=6) aW.nd)
  (@aC _ _ _ _ _ (aU (i:=5) (@SE.wv _ _ _ _ _ _ (aV dA ju (ag 5) (cj (NB:=["b","thing","a"]) (own:=1) (ixs:=[0,6]) [6] rfl (cP (by kernel_rfl)) (fun _ _=>rfl) (hW rfl B.range (ag 2)) (fun H0 G0 par br bx C ex s3 H3 pn=>(cN (i:=0) (show (["b","thing","a"]:List Str).Nodup by decide +kernel))) (fun H0 G0 par br bx C ex s3 H3 pn hB3=>(mi (qA.t (xU (cf m6 tJ (bc aO cC (bc aO cC (ag 1) (ag 2) (fun _ _=>rfl)) av (fun _ _=>rfl)) (bc aO cC (bc aO cC (ag 1) (ag 0) (fun _ _=>rfl)) av (fun _ _=>rfl)) (bb _)) (vO (cf m6 tJ (bc aO cC (bc aO cC (ag 1) (ag 2) (fun _ _=>rfl)) av (fun _ _=>rfl)) (bc aO cC (bc aO cC (ag 1) (ag 0) (fun _ _=>rfl)) av (fun _ _=>rfl)) (bb _))) (fun i hi=>hB3 i (by revert i hi;decide)))))) (fun H0 G0 par br bx C ex s3 H3 pn hB3=>(cp (af (aB 2 (hB3 2 (by decide))) (af (aB 0 (hB3 0 (by decide))) ar))))))) aW.nd)))
  (@aC _ _ _ _ _ (aQ (iU (fZ hr.units) ip (c9 bp gY rfl B.tuple (by decide +kernel) (ag 5)) (bc aO cC (ag 1) av (fun _ _=>rfl)) (bb _))))))))))⟩,fun ds h=>a9 ds h⟩
abbrev gL:Stmt:=top 32
theorem cm:aL ["box","points","odd","at","to","x","y","other","news","kind","some"] ["box","points","odd"] (ax gL):=⟨rfl,rfl,rfl,by decide +kernel,rfl,by decide +kernel,by decide +kernel⟩
theorem om {f:Addr}{fd:FuncData}{ay:List D->Int->FB}(F:kn K mg "_law_bent" gL ["box","points","odd"] f fd)(B:kO mg)(aI:jN P w K mg base "_law_take" ["box","many"] 1 ay):jN P w K mg base "_law_bent" ["box","points","odd"] 2 (l0 11 2 (gN ay)):=
 ⟨⟨f,fd,F.mg,F.F.kp,F.b,ku (ca:=fun _=>0) (N:=["box","points","odd","at","to","x","y","other","news","kind","some"]) (k:=1) F.F cm (by decide) fun cdv A outer s H G b E hr=>
  (@au _ _ _ _ _ _ _ (BI (i:=3) (j:=4) cm.nd (by decide) (gJ 0 aI (hr.mono (by decide)) bB rfl rfl (af (aS cw ja rfl B.len PySem.boot_len (ag 1)) ar)) (gJ 0 aI (hr.mono (by decide)) bB rfl rfl (af (aS cw ja rfl B.len PySem.boot_len (ag 1)) ar)))
  (@au _ _ _ _ _ _ _ (D9 (bc aO cC (ag 1) (ag 3) (fun _ _=>rfl)) (jm (i:=5) (j:=6) cm.nd))
  (@au _ _ _ _ _ _ _ (jK (i:=7) (c9 kH yg rfl B.list (by decide +kernel) (ag 1)) cm.nd)
  (@au _ _ _ _ _ _ _ (Dc 7 (fun _=>rfl) rfl (cp (af (bc aO cC (ag 7) (ag 4) (fun _ _=>rfl)) (af (bc aO cC (ag 7) (ag 3) (fun _ _=>rfl)) ar))) (ag 3) (ag 4))
  (@au _ _ _ _ _ _ _ (aU (i:=8) (@SE.wv _ _ _ _ _ _ (bM (af (cp (af (aB 6 rfl) (af (aB 5 rfl) ar))) (af (cp (af (aB 5 rfl) (af (aV fC fE (ag 6) av) ar))) (af (cp (af (aB 5 rfl) (af (iU (fZ hr.units) ip (ag 6) av (bb _)) ar))) (af (@SE.wv _ _ _ _ _ _ (bM (af (aB 5 rfl) (af (aB 6 rfl) ar)))) (af (cp (af (aB 5 rfl) (af (aB 6 rfl) (af av ar)))) (af (aB 2 rfl) (af (cp (af (aV fC fE (ag 5) av) (af (aB 6 rfl) ar))) ar))))))))) cm.nd)
  (@au _ _ _ _ _ _ _ (aU (i:=9) (gJ 0 aI (hr.mono (by decide)) bB rfl rfl (af av ar)) cm.nd)
  (@au _ _ _ _ _ _ _ (fu (cf m6 tJ (ag 9) av (bb _))
  (@aC _ _ _ _ _ (mn (aV dA ju (aV dA ju (eZ rfl (ag 1) gB (gO (ag 3))) (bM (af (bc aO cC (ag 8) (ag 9) (fun _ _=>rfl)) ar))) (eZ rfl (ag 1) (gO (aV fC fE (ag 3) av)) gB))))
  cO)
  (@au _ _ _ _ _ _ _ (aU (i:=10) (@SE.wv _ _ _ _ _ _ (bM (af (aB 7 rfl) (af (@SE.wv _ _ _ _ _ _ (aV dA ju (eZ rfl (ag 1) gB (gO (ag 3))) (eZ rfl (ag 1) (gO (aV fC fE (ag 3) av)) gB))) (af (@SE.wv _ _ _ _ _ _ (aV dA ju (aV dA ju (eZ rfl (ag 1) gB (gO (ag 3))) (bM (af (cp (af (aB 5 rfl) (af (aB 6 rfl) ar))) ar))) (eZ rfl (ag 1) (gO (ag 3)) gB))) (af (@SE.wv _ _ _ _ _ _ (yM rfl (ag 1))) (af (c9 bp gY rfl B.tuple (by decide +kernel) (ag 1)) ar))))))) cm.nd)
  (@aC _ _ _ _ _ (aQ (bc aO cC (aV dA ju (ag 10) (bM (af (@SE.wv _ _ _ _ _ _ (cj (NB:=["a","b"]) (own:=2) (ixs:=[]) [] rfl (cP (by kernel_rfl)) (fun _ _=>rfl) (l4 rfl (ag 1)) (fun H0 G0 par br bx C ex s3 H3 pn=>(jm (i:=0) (j:=1) (show (["a","b"]:List Str).Nodup by decide +kernel))) (fun H0 G0 par br bx C ex s3 H3 pn hB1=>cY) (fun H0 G0 par br bx C ex s3 H3 pn hB1=>(cp (af (aB 1 (hB1 1 (by decide))) (af (aB 0 (hB1 0 (by decide))) ar)))))) (af (@SE.wv _ _ _ _ _ _ (aV dA ju (eZ rfl (ag 1) (gO av) gB) (eZ rfl (ag 1) gB (gO av)))) ar)))) (aV Di Ek (ag 9) av) (fun _ _=>rfl))))))))))))⟩,fun ds β h=>kQ ds β h⟩
abbrev jR:Stmt:=top 33
theorem dB:aL ["script","k","box","many","rows","order","points","odd","other","own","things","turn","thing","kept"] ["script"] (ax jR):=⟨rfl,rfl,rfl,by decide +kernel,rfl,by decide +kernel,by decide +kernel⟩
theorem AI {f:Addr}{fd:FuncData}{eB dr cX cS bw:List D->FR}{ay aN eH cT dm:List D->Int->FB}(F:kn K mg "law" jR ["script"] f fd)(B:kO mg)(kg:fV P w K mg base ca "_law_box" ["script","k"] 2 eB)(jq:fV P w K mg base ca "_law_told" ["many","rows"] 1 dr)(iB:fV P w K mg base ca "_law_truth" ["found","due"] 1 cX)(iS:fV P w K mg base ca "are_points" ["thing","order"] 6 cS)(dD:fV P w K mg base ca "_law_are_points" ["thing","order"] 2 bw)(aI:jN P w K mg base "_law_take" ["box","many"] 1 ay)(bP:jN P w K mg base "_law_mixed_up" ["box","some"] 2 aN)(ki:jN P w K mg base "_law_odd" ["box"] 2 eH)(iY:jN P w K mg base "_law_order" ["box","most"] 3 cT)(jw:jN P w K mg base "_law_bent" ["box","points","odd"] 2 dm):fx P w K mg base (l5 P w) 7 f fd ["script"] (AB K ca 1 (bJ 14 1 (uM eB dr cX cS bw ay aN eH cT dm))):=
 bu (N:=["script","k","box","many","rows","order","points","odd","other","own","things","turn","thing","kept"]) (k:=6) F.F dB fun cdv A outer s H G E hr=>
  (@au _ _ _ _ _ _ _ (dR PassesOwn.leaving rfl (hW rfl B.range (sJ (xk rfl) DS rfl B.max (by decide +kernel) av (sJ (wZ rfl) Ds rfl B.min (by decide +kernel) (aS cw ja rfl B.len PySem.boot_len (ag 0)) av))) (cN (i:=1) dB.nd)
  (@au _ _ _ _ _ _ _ (Bk (i:=2) rfl (yr kg (hr.mono (by decide)) bB rfl rfl (af (aB 0 rfl) (af (aB 1 rfl) ar))) dB.nd)
  (@au _ _ _ _ _ _ _ (aU (i:=3) (aV fC fE av (gJ 2 aI (hr.mono (by decide)) bB rfl rfl (af av ar))) dB.nd)
  (@au _ _ _ _ _ _ _ (aU (i:=4) (@SE.wv _ _ _ _ _ _ (cj (NB:=["side","box","many"]) (own:=1) (ixs:=[2,3]) [] rfl (cP (by kernel_rfl)) (fun _ _=>rfl) (hW rfl B.range av) (fun H0 G0 par br bx C ex s3 H3 pn=>(cN (i:=0) (show (["side","box","many"]:List Str).Nodup by decide +kernel))) (fun H0 G0 par br bx C ex s3 H3 pn hB1=>cY) (fun H0 G0 par br bx C ex s3 H3 pn hB1=>(c9 bp gY rfl B.tuple (by decide +kernel) (gJ 1 bP (hr.mono (by decide)) o6 rfl rfl (af (@SE.wv _ _ _ _ _ _ (kl rfl rfl B.list rfl B.range (ag 2))) ar)))))) dB.nd)
  (@au _ _ _ _ _ _ _ (aU (i:=5) (cp (af (aB 3 rfl) (af (aY jq (hr.mono (by decide)) bB rfl rfl (af (aB 3 rfl) (af (aB 4 rfl) ar))) ar))) dB.nd)
  (@au _ _ _ _ _ _ _ (vD (i:=6) (NB:=["thing","rows"]) (own:=1) (ixs:=[4]) [] rfl (cP (by kernel_rfl)) (fun _ _=>rfl) (hW rfl B.range (ag 3)) (fun H0 G0 par br bx C ex s3 H3 pn=>(cN (i:=0) (show (["thing","rows"]:List Str).Nodup by decide +kernel))) (fun H0 G0 par br bx C ex s3 H3 pn hB2=>cY) (fun H0 G0 par br bx C ex s3 H3 pn hB2=>(cp (af (kR rfl (bc aO cC (ag 1) av (fun _ _=>rfl)) (ag 0)) (af (kR rfl (bc aO cC (ag 1) av (fun _ _=>rfl)) (ag 0)) ar)))) dB.nd)
  (@au _ _ _ _ _ _ _ (aU (i:=7) (gJ 2 ki (hr.mono (by decide)) bB rfl rfl ar) dB.nd)
  (@au _ _ _ _ _ _ _ (aU (i:=8) (gJ 2 iY (hr.mono (by decide)) bB rfl rfl (af av ar)) dB.nd)
  (@aC _ _ _ _ _ (dR PassesOwn.leaving rfl (Bj rfl (@SE.wv _ _ _ _ _ _ (bM (af (aB 5 rfl) (af (aB 8 rfl) ar))))) (cN (i:=9) dB.nd)
  (@au _ _ _ _ _ _ _ (jK (i:=10) (bM (af (aB 6 rfl) (af (aB 7 rfl) (af (@SE.wv _ _ _ _ _ _ (bM ar)) (af (@SE.wv _ _ _ _ _ _ (cj (NB:=["place"]) (own:=1) (ixs:=[]) [] rfl (cP (by kernel_rfl)) (fun _ _=>rfl) (hW rfl B.range (bc aO cC (ag 9) av (fun _ _=>rfl))) (fun H0 G0 par br bx C ex s3 H3 pn=>(cN (i:=0) (show (["place"]:List Str).Nodup by decide +kernel))) (fun H0 G0 par br bx C ex s3 H3 pn hB3=>cY) (fun H0 G0 par br bx C ex s3 H3 pn hB3=>(cp (af (aB 0 (hB3 0 (by decide))) (af (aB 0 (hB3 0 (by decide))) ar)))))) ar))))) dB.nd)
  (@au _ _ _ _ _ _ _ (dR PassesOwn.leaving rfl (hW rfl B.range av) (cN (i:=11) dB.nd)
  (@aC _ _ _ _ _ (lH 10 (fun _=>rfl) (gJ 2 jw (hr.mono (by decide)) bB rfl rfl (af (aB 6 rfl) (af (aB 7 rfl) ar))))))
  (@aC _ _ _ _ _ (dR PassesOwn.leaving rfl (Bj rfl (aB 10 rfl)) (cN (i:=12) dB.nd)
  (@au _ _ _ _ _ _ _ (aU (i:=13) (aS (nM hr.gd hr.u1) u0 rfl B.repr (by decide +kernel) (ag 12)) dB.nd)
  (@aC _ _ _ _ _ (fu (qA.t (jV (dg (c4 rfl (aY iB (hr.mono (by decide)) bB rfl rfl (af (aY iS (hr.mono (by decide)) bB rfl rfl (af (aB 12 rfl) (af (aB 9 rfl) ar))) (af (aY dD (hr.mono (by decide)) bB rfl rfl (af (aB 12 rfl) (af (aB 9 rfl) ar))) ar))))) (i3 (cf E3 Ff (aS (nM hr.gd hr.u1) u0 rfl B.repr (by decide +kernel) (ag 12)) (ag 13) (bb _))) (fun _ _=>rfl)))
  (@aC _ _ _ _ _ (aQ ij))
  cO)))))))))))))))))
  (@aC _ _ _ _ _ (aQ ij)))
end
end RQ

end

section
namespace RO
open PySem L2
abbrev iV:Stmt:=RQ.dG
abbrev kU:Stmt:=RQ.top 13
abbrev Fn (K:PySem.W.Frag)(mg:Str->Option Value)(x:Str)(st:Stmt)(ps:List Str)(f:Addr)(fd:FuncData):Prop:=kn K mg x st ps f fd
abbrev Bt (mg:Str->Option Value):Prop:=kO mg
end RO

end

section
namespace L2
open PySem PySem.Spec PyProof.Rows
section
variable {K:PySem.W.Frag}{H H':Hp}{a:Addr}
theorem aM.snoc {x y:Int}(q:fG K H a [.int x,.int y]):∀{vs:List V} {ps:List (Int×Int)},aM K H vs ps->aM K H (vs ++ [.ref a]) (ps ++ [(x,y)])
 |_,_,.nil=>.cons ⟨a,rfl,q⟩ .nil
 |_,_,.cons r t=>.cons r (aM.snoc q t)
theorem aM.len {vs:List V}{ps:List (Int×Int)}(h:aM K H vs ps):vs.length=ps.length:=Paired.length h
theorem aM.same {vs:List V}{ps:List (Int×Int)}(h:aM K H vs ps)(s:ak H H'):aM K H' vs ps:=h.grow s.grow
theorem aM.at {vs:List V}{ps:List (Int×Int)}{i:Nat}{v:V}(h:aM K H vs ps)(e:vs[i]? =some v):∃p:Int×Int,ps[i]? =some p/\∃b,v=.ref b/\fG K H b [.int p.1,.int p.2]:=Paired.getP h e
theorem ak.put {o:HO}(s:ak H H')(h:H a=none):ak H (L2.upd H' a o):=fun b u e=>by rw[az (aF e h)];exact s b u e
end
end L2
namespace RO
open PySem L2
def yK (N:List Str)(sc:Scope)(NB:List Str)(own:Nat)(ixs:List Nat)(scope:Scope):Bool:=
 decide (scope.kind=.function) && (scope.names.all fun y=>decide (y.2≠.cell)) && (scope.names.all fun y=>decide (scope.names.lookup y.1=some y.2)) &&
 (scope.names.all fun y=>decide (y.2=.free->(sc.names.lookup y.1=some .cell\/sc.names.lookup y.1=some .free))) && decide NB.Nodup && decide (NB.length=own + ixs.length) &&
 ((List.range ixs.length).all fun k=>decide (NB[own + k]? =N[ixs.getD k 0]?) && (match NB[own + k]? with |some x=>decide ((x,NameKind.free)∈scope.names) |none=>true))
theorem lj {X:Cx}{NB:List Str}{own:Nat}{ixs:List Nat}{scope:Scope}(h:yK X.N X.env.scope NB own ixs scope=true):cW X NB own ixs scope:=by
 unfold yK at h
 simp only[Bool.and_eq_true,List.all_eq_true,decide_eq_true_eq,List.mem_range] at h
 obtain⟨⟨⟨⟨⟨⟨h1,h2⟩,h3⟩,h4⟩,h5⟩,h6⟩,h7⟩:=h
 refine⟨h1,h2,h3,h4,h5,h6,fun k hk=>⟨(h7 k hk).1,fun x hx=>?_⟩⟩
 have:=(h7 k hk).2
 rw[hx] at this
 simpa using this
section
variable {X:Cx}{tg l:Expr}{tl:TE}{K:PySem.W.Frag}{H H1:Hp}{a:Addr}{xs:List V}{σ:St}
def Gk (K:PySem.W.Frag)(tl:TE):TI:=fun σ H R=>tl σ H fun x H1=>∃a xs,x=.ref a/\((gu K H1 a xs/\R (v8 K a) H1)\/(fG K H1 a xs/\R (CD K a) H1))
end
theorem Hk (K:PySem.W.Frag){X:Cx}(h:X.K=K:=by rfl):yY X (DJ K):=by subst h;exact fO
theorem Df (K:PySem.W.Frag)(i j:Nat){X:Cx}{x y:Str}{px py pos:Pos}{k:Nat}(hN:X.N.Nodup)(hi:X.N[i]? =some x)(hj:X.N[j]? =some y)(hx:X.env.scope.names.lookup x=some .local)(hy:X.env.scope.names.lookup y=some .local)(hc:X.calm=true)(hK:X.K=K) :
  PG X (.Tuple [.Name x px,.Name y py] k pos) (A4 K 2 (nW (jY i) (nW (jY j) BE))):=by
 subst hK
 exact ly hc (cy (cH hN hi (Or.inl hx) (Or.inr hx)) (cy (cH hN hj (Or.inl hy) (Or.inr hy)) jL))
section
open PySem.Spec PyProof.Rows
variable {X:Cx}{tg l:Expr}{tl:TE}
theorem CQ (hl:PE X l tl):PI X tg l (Gk X.K tl):=by
 intro pins s σ H R I h
 refine b7 (hl pins s σ H _ I h) fun v s1 ⟨x,H1,I1,r1,q1⟩=>?_
 obtain⟨a,xs,e,q⟩:=q1
 subst e
 cases r1
 rcases q with⟨hq,q⟩ | ⟨hq,q⟩
 ·obtain⟨its,rv,p,hz⟩:=I1.list hq
  refine wpAny_pyIter_list p.isList ?_
  refine⟨s1.heap.objs.size,[s1.heap.objs.size],_,_,H1,rfl,I1.kept (t':=s1.toks) fun b o e=>Heap.get?_push_of_some _ e,lE a _,⟨_,Heap.get?_push_size _ rfl,rfl,rfl⟩,fun b hb=>?_,q⟩
  have e:b=s1.heap.objs.size:=by simpa using hb
  subst e
  exact I1.fpOk (Nat.le_refl _) (I1.hok.fresh (Nat.le_refl _))
 ·obtain⟨its,rv,p,hz⟩:=I1.tuple hq
  refine wpAny_pyIter_tuple (show s1.heap.IsTuple a its.toArray from p) ?_
  refine⟨s1.heap.objs.size,[s1.heap.objs.size],_,_,H1,rfl,I1.kept (t':=s1.toks) fun b o e=>Heap.get?_push_of_some _ e,nj a _,⟨_,Heap.get?_push_size _ rfl,rfl,rfl⟩,fun b hb=>?_,q⟩
  have e:b=s1.heap.objs.size:=by simpa using hb
  subst e
  exact I1.fpOk (Nat.le_refl _) (I1.hok.fresh (Nat.le_refl _))
end
section
variable {K:PySem.W.Frag}{H H1 H':Hp}{a:Addr}{xs:List V}{σ:St}
abbrev FG (J:It)(g:TG)(tb:TS)(D:Ends)(σ:St)(H:Hp):Prop:=∃W:Nat->Nat->St->Hp->Prop,(∃m,W 0 m σ H)/\∀i m σ H,W i m σ H->
   (J.stop i H/\D.nx σ H)\/(J.go i H/\∃N:St->Hp->Prop,(∀σ' H',N σ' H'->∃m',m' < m/\W (i + 1) m' σ' H')/\∀x H',J.yld i H x H'->g x σ H' fun σ2 H2=>tb {D with nx:=N,ct:=N,bk:=D.nx} σ2 H2)
theorem AG (s:ak H1 H')(hq:gu K H1 a xs\/fG K H1 a xs):gu K H' a xs\/fG K H' a xs:=hq.elim (fun q=>.inl (s.seq q)) fun q=>.inr (q.grow s.grow)
theorem B3 {g:TG}{tb:TS}{D:Ends}(hq:gu K H1 a xs\/fG K H1 a xs)(Pv:Nat->St->Hp->Prop)(h0:Pv 0 σ H)(hl:∀i σ H',Pv i σ H'->ak H1 H')
  (hs:∀i x σ H,xs[i]? =some x->Pv i σ H->g x σ H fun σ2 H2=>tb {D with nx:=Pv (i + 1),ct:=Pv (i + 1),bk:=D.nx} σ2 H2) (hd:∀σ H,Pv xs.length σ H->D.nx σ H) :
  (gu K H a xs/\FG (v8 K a) g tb D σ H)\/(fG K H a xs/\FG (CD K a) g tb D σ H):=
 hq.elim (fun q=>.inl ⟨(hl _ _ _ h0).seq q,rO Pv h0 (fun i σ H' _ p=>(hl i σ H' p).seq q) hs hd⟩) fun q=>.inr ⟨q.grow (hl _ _ _ h0).grow,AJ Pv h0 (fun i σ H' _ p=>q.grow (hl i σ H' p).grow) hs hd⟩
def uN (J:It)(own:Nat)(ixs:List Nat)(g:TG)(tt:TT)(te:TE)(Q:VK)(D:Addr)(σ:St)(H:Hp):Prop:=∃W:Nat->Nat->St->Hp->Prop,(∃m,W 0 m (qu own ixs σ) (upd H D (.lst [])))/\∀i m σ' H',W i m σ' H'->
   (J.stop i H'/\(∃acc,H' D=some (.lst acc))/\Q (.ref D) H')\/
   (J.go i H'/\∃N:St->Hp->Prop,(∀σ2 H2,N σ2 H2->∃m',m' < m/\W (i + 1) m' σ2 H2)/\∀x H2,J.yld i H' x H2->dC g tt te D x σ' H2 N)
structure rZ (own:Nat)(ixs:List Nat)(wi:TI)(g:TG)(tt:TT)(te:TE)(σ:St)(H:Hp)(Q:VK):Prop where
 out:wi σ H fun J H1=>∀D,H1 D=none->uN J own ixs g tt te Q D σ H1
theorem uc {own:Nat}{ixs:List Nat}{wi:TI}{g:TG}{tt:TT}{te:TE}{Q:VK}(h:wi σ H fun J H1=>∀D,H1 D=none->uN J own ixs g tt te Q D σ H1):rZ own ixs wi g tt te σ H Q:=⟨h⟩
theorem qw {X:Cx}{NB:List Str}{own:Nat}{ixs:List Nat}{scope:Scope}{tg iter elt:Expr}{ifs:List Expr}{wi:TI}{g:TG}{tt:TT}{te:TE}{pos:Pos}(hc:X.calm=true)(S:cW X NB own ixs scope)(hi:PI X tg iter wi)
  (hg:∀C ex s3 H3 pn,PG (hG X NB scope C ex s3 H3 pn) tg g) (ht:∀C ex s3 H3 pn,z8 (hG X NB scope C ex s3 H3 pn) ifs tt) (he:∀C ex s3 H3 pn,PE (hG X NB scope C ex s3 H3 pn) elt te)
  (hs:∀x,foldedSetIterable iter X.env x=pure x:=by intro _;rfl):PE X (.ListComp elt [⟨tg,iter,ifs,0⟩] scope pos) (rZ own ixs wi g tt te):=
 fun pins s σ H Q I h=>sg hc S hi hg ht he hs pins s σ H Q I h.out
section
variable {own:Nat}{ixs:List Nat}{g:TG}{tt:TT}{te:TE}{Q:VK}{D:Addr}
theorem BN (Pv:Nat->St->Hp->Prop)(h0:Pv 0 (qu own ixs σ) (upd H D (.lst [])))(hl:∀i σ H,i<=xs.length->Pv i σ H->gu K H a xs)
  (hs:∀i x σ H,xs[i]? =some x->Pv i σ H->dC g tt te D x σ H (Pv (i + 1))) (hd:∀σ H,Pv xs.length σ H->(∃acc,H D=some (.lst acc))/\Q (.ref D) H):uN (v8 K a) own ixs g tt te Q D σ H:=vY Pv h0 hl hs hd
theorem su {lo:Int}{n:Nat}(Pv:Nat->St->Hp->Prop)(h0:Pv 0 (qu own ixs σ) (upd H D (.lst [])))
  (hs:∀i σ H,i < n->Pv i σ H->dC g tt te D (.int (lo + i)) σ H (Pv (i + 1))) (hd:∀σ H,Pv n σ H->(∃acc,H D=some (.lst acc))/\Q (.ref D) H):uN (xE lo n) own ixs g tt te Q D σ H:=tQ Pv h0 hs hd
end
theorem qU {i:Nat}{te:TE}{D:Addr}{x:V}{N:St->Hp->Prop}(h:te (σ.set i (some x)) H fun v H5=>∃acc,H5 D=some (.lst acc)/\acc.length < sizeLine/\N (σ.set i (some x)) (upd H5 D (.lst (acc ++ [v])))):dC (jY i) Dq te D x σ H N:=by
 unfold dC jY Dq
 exact si h
theorem zu {i j:Nat}{x y:V}{Q:St->Hp->Prop}(h:fG K H a [x,y])(q:Q ((σ.set i (some x)).set j (some y)) H):A4 K 2 (nW (jY i) (nW (jY j) BE)) (.ref a) σ H Q:=⟨a,_,rfl,h,rfl,x,_,rfl,y,_,rfl,rfl,q⟩
theorem GX {c A B:Prop}[Decidable c](h:c)(a:A):if c then A else B:=by rw[if_pos h];exact a
theorem Gs {c A B:Prop}[Decidable c](h:¬c)(b:B):if c then A else B:=by rw[if_neg h];exact b
theorem take_snoc {α:Type}{l:List α}{i:Nat}{x:α}(h:l[i]? =some x):l.take (i + 1)=l.take i ++ [x]:=by
 rw[List.take_add_one,h];rfl
theorem take_all {α:Type}(l:List α):l.take l.length=l:=List.take_of_length_le (Nat.le_refl _)
end
theorem eT (n:Nat):(OM.b6 n).length=n * n:=by unfold OM.b6;simp
theorem A7 {n i:Nat}(h:i < n * n):(OM.b6 n)[i]? =some (((i / n:Nat):Int),((i % n:Nat):Int)):=by
 unfold OM.b6
 rw[List.getElem?_map,List.getElem?_range h];rfl
theorem Hn {n:Nat}(h:n<=8):n * n<=64:=Nat.mul_le_mul h h
section
variable {P:Program}{w:World}{K:PySem.W.Frag}{mg:Str->Option Value}{base:Heap}
def vC (K:PySem.W.Frag):Sp:=fun vs H Q _=>∃n:Nat,vs= [.int n]/\1<=n/\n<=8/\∀H' l ws,ak H H'->H l=none->H' l=some (.lst ws)->aM K H' ws (OM.b6 n)->Q (.ref l) H'
theorem Bh:aL ["many"] ["many"] (ax iV):=⟨rfl,rfl,rfl,by decide +kernel,rfl,by decide +kernel,by decide +kernel⟩
theorem EK:(["number","many"]:List Str).Nodup:=by decide +kernel
theorem zI {f:Addr}{fd:FuncData}(F:Fn K mg "every_pair" iV ["many"] f fd)(B:Bt mg):fx P w K mg base D4 1 f fd ["many"] (vC K):=by
 refine F.F.ok Bh (fun vs H Q E h=>?_) (fun cdv A outer s H vs Q E hr h=>?_)
 ·obtain⟨n,rfl,_⟩:=h;rfl
 ·obtain⟨n,rfl,h1,h8,k⟩:=h
  refine⟨_,gG (k9 (qw (NB:=["number","many"]) (own:=1) (ixs:=[0]) rfl (lj (by kernel_rfl)) (jH rfl B.range (aJ (rK jv (pv 0) (pv 0)) bg))
   (fun C ex s3 H3 pn=>cH (i:=0) EK rfl (Or.inl rfl) (hf:=Or.inr rfl)) (fun C ex s3 H3 pn=>pV)
   (fun C ex s3 H3 pn=>ui (aJ (rK kr (pv 0) (pv 1)) (aJ (rK kf (pv 0) (pv 1)) bg))))),?_⟩
  have hn:=Hn h8
  have e0:((n:Int) * (n:Int))=((n * n:Nat):Int):=by rw[Int.natCast_mul]
  refine uc ⟨_,rfl,_,rfl,_,_,rfl,rfl,.inl ⟨by omega,by omega⟩,_,rfl,by rw[e0];omega,by rw[e0];omega,fun D hD=>?_⟩
  rw[e0,Int.toNat_natCast]
  refine su (fun i σ' H'=>(∃v,σ'= [v,some (.int n)])/\ak H H'/\∃vs,H' D=some (.lst vs)/\aM K H' vs ((OM.b6 n).take i)) ⟨⟨none,rfl⟩,(ak.refl H).put hD,[],aw,.nil⟩ ?_ ?_
  ·rintro i σ' H' hi ⟨⟨v,rfl⟩,s1,vs,hv,hp⟩
   have hn0:(0:Int) < (n:Int):=by omega
   refine qU ⟨_,rfl,_,rfl,_,_,rfl,rfl,⟨hn0,by omega⟩,_,rfl,_,rfl,_,_,rfl,rfl,hn0,by show 2<=sizeLine;rw[sizeLine_eq];omega,fun p hp0=>?_⟩
   have hpD:D≠p:=aF hv hp0
   have hl:=hp.len
   refine⟨vs,by rw[az hpD];exact hv,?_,⟨_,rfl⟩,?_,vs ++ [.ref p],aw,?_⟩
   ·rw[hl,List.length_take,sizeLine_eq];rw[eT];omega
   ·exact (s1.put (s1.free hp0)).put hD
   ·rw[take_snoc (A7 hi)]
    have g1:gx H' (upd H' p (.tup [.int ((0 + (i:Int)) / n),.int ((0 + (i:Int)) % n)])):=gx.new hp0
    have g2:∀o,gx (upd H' p (.tup [.int ((0 + (i:Int)) / n),.int ((0 + (i:Int)) % n)])) (upd (upd H' p (.tup [.int ((0 + (i:Int)) / n),.int ((0 + (i:Int)) % n)])) D o):=fun o=>gx.list (by rw[az hpD];exact hv)
    refine aM.snoc ?_ (hp.grow (g1.trans (g2 _)))
    refine (fG.grow ?_ (g2 _))
    refine .inl (.inl ?_)
    rw[aw,Int.zero_add];rfl
  ·rintro σ' H' ⟨_,s1,vs,hv,hp⟩
   refine⟨⟨_,hv⟩,k H' D vs s1 hD hv ?_⟩
   rw[<-eT n,take_all] at hp
   exact hp
end
end RO

end

section
namespace RO
open PySem L2
structure TabAt (n:Nat)(M:OM.Tb)(L:Addr)(r:Nat->Addr)(H:Hp):Prop where
 top:H L=some (.lst ((List.range n).map fun i=>V.ref (r i)))
 row:∀i,i < n->H (r i)=some (.lst ((List.range n).map fun j=>V.bl (M i j)))
 inj:∀i j,i < n->j < n->r i=r j->i=j
 ne:∀i,i < n->r i≠L
theorem uI {n x:Nat}(h:x < n):sx n (x:Int)=some x:=by
 unfold sx;rw[if_pos (by omega),if_pos (by omega)];simp
theorem Dg {α:Type}{xs:List α}{x:Nat}(h:x < xs.length):jA xs (x:Int)=xs[x]?:=by
 unfold jA;rw[uI h];rfl
theorem eY {f:Nat->V}{n x:Nat}(h:x < n):jA ((List.range n).map f) (x:Int)=some (f x):=by
 rw[Dg (by simpa using h),List.getElem?_map,List.getElem?_range h];rfl
theorem o8 {f:Nat->V}{n x:Nat}(h:x < n):sx ((List.range n).map f).length (x:Int)=some x:=by
 rw[List.length_map,List.length_range];exact uI h
theorem xc {f:Nat->V}{n y:Nat}{v:V}:((List.range n).map f).set y v=(List.range n).map fun j=>if j=y then v else f j:=by
 apply List.ext_getElem?
 intro i
 by_cases hi:i < n
 ·by_cases e:y=i
  ·subst e;simp[List.getElem?_set,hi]
  ·have e':¬i=y:=fun z=>e z.symm
   simp[List.getElem?_set,hi,e,e']
 ·rw[List.getElem?_eq_none (by simp;omega),List.getElem?_eq_none (by simp;omega)]
section
variable {n:Nat}{M:OM.Tb}{L:Addr}{r:Nat->Addr}{H H':Hp}
theorem TabAt.set (T:TabAt n M L r H){x y:Nat}(hx:x < n):TabAt n (M.set x y) L r (upd H (r x) (.lst (((List.range n).map fun j=>V.bl (M x j)).set y (.bl true)))):=by
 refine⟨by rw[az (T.ne x hx).symm];exact T.top,fun i hi=>?_,T.inj,T.ne⟩
 by_cases e:i=x
 ·subst e
  rw[aw,xc]
  refine congrArg _ (congrArg _ (List.map_congr_left fun j _=>?_))
  unfold OM.Tb.set
  by_cases c:j=y
  ·simp[c]
  ·simp[c]
 ·rw[az (fun z=>e (T.inj i x hi hx z)),T.row i hi]
  refine congrArg _ (congrArg _ (List.map_congr_left fun j _=>?_))
  unfold OM.Tb.set;simp[e]
theorem TabAt.same (T:TabAt n M L r H)(s:ak H H'):TabAt n M L r H':=⟨s _ _ T.top,fun i hi=>s _ _ (T.row i hi),T.inj,T.ne⟩
end
theorem pW {n:Nat}{ps:List (Int×Int)}(w:OM.Wn n ps){p:Int×Int}(h:p∈ps):∃u v:Nat,p=((u:Int),(v:Int))/\u < n/\v < n:=by
 obtain⟨x,y⟩:=p
 have q:=w _ h
 simp only at q
 exact⟨x.toNat,y.toNat,by rw[Int.toNat_of_nonneg q.1.1,Int.toNat_of_nonneg q.2.1],by omega,by omega⟩
theorem gX {M0 M:OM.Tb}{m:Nat}{D D':Nat->Nat->Prop}(P:OM.Phase M0 M m D)(h:∀a b,D a b↔D' a b):OM.Phase M0 M m D':=fun a b=>by rw[P a b,h a b]
theorem jB {l:List (Int×Int)}{u v a b:Nat}:(((a:Int),(b:Int))∈l\/(a=u/\b=v))↔((a:Int),(b:Int))∈l ++ [((u:Int),(v:Int))]:=by
 rw[List.mem_append,List.mem_singleton,Prod.mk.injEq]
 constructor
 ·rintro (h | ⟨h1,h2⟩)
  ·exact .inl h
  ·exact .inr ⟨by omega,by omega⟩
 ·rintro (h | ⟨h1,h2⟩)
  ·exact .inl h
  ·exact .inr ⟨by omega,by omega⟩
theorem AL {M:OM.Tb}{u v a b:Nat}:M.set u v a b=true↔M a b=true\/(a=u/\b=v):=by
 unfold OM.Tb.set
 by_cases c:a=u/\b=v
 ·simp[c]
 ·rw[if_neg c];exact⟨.inl,fun h=>h.resolve_right c⟩
theorem Fi (n:Nat)(x:V):(List.replicate n [x]).flatten=(List.range n).map fun _=>x:=by
 rw[List.flatten_replicate_singleton,List.map_const',List.length_range]
section
variable {P:Program}{w:World}{K:PySem.W.Frag}{mg:Str->Option Value}{base:Heap}
def An (K:PySem.W.Frag):Sp:=fun vs H Q _=>∃(n:Nat) (a:Addr) (xs:List V) (ps:List (Int×Int)),vs= [.int n,.ref a]/\1<=n/\n<=8/\(gu K H a xs\/fG K H a xs)/\aM K H xs ps/\OM.Wn n ps/\
 ∀H' t ws,ak H H'->H t=none->H' t=some (.tup ws)->aM K H' ws (OM.b4 n (OM.Tr (OM.Mem ps)))->Q (.ref t) H'
theorem eR:aL ["many","pairs","corners","leads","a","b","middle"] ["many","pairs"] (ax kU):=⟨rfl,rfl,rfl,by decide +kernel,rfl,by decide +kernel,by decide +kernel⟩
theorem Fm:(["start","many"]:List Str).Nodup:=by decide +kernel
theorem CP:(["a","b","leads"]:List Str).Nodup:=by decide +kernel
set_option maxHeartbeats 1000000 in
theorem wj {f g:Addr}{fd gd:FuncData}(F:Fn K mg "closed" kU ["many","pairs"] f fd)(G:Fn K mg "every_pair" iV ["many"] g gd)(GE:fx P w K mg base D4 1 g gd ["many"] (vC K))(B:Bt mg):fx P w K mg base D4 2 f fd ["many","pairs"] (An K):=by
 refine F.F.ok eR (fun vs H Q E h=>?_) (fun cdv A outer s H vs Q E hr h=>?_)
 ·obtain⟨n,a,xs,ps,rfl,_⟩:=h;rfl
 ·obtain⟨n,a,xs,ps,rfl,h1,h8,hq,hp,wn,k⟩:=h
  refine⟨_,fY (nV (i:=2) eR.nd rfl (Or.inl rfl) (mz GE hr rfl G.mg G.F.kp G.b .nil EH (aJ (pv 0) bg)))
   (fY (nV (i:=3) eR.nd rfl (Or.inr rfl) (qw (NB:=["start","many"]) (own:=1) (ixs:=[0]) rfl (lj (by kernel_rfl)) (jH rfl B.range (aJ (pv 0) bg))
    (fun C ex s3 H3 pn=>cH (i:=0) Fm rfl (Or.inl rfl) (hf:=Or.inr rfl)) (fun C ex s3 H3 pn=>pV) (fun C ex s3 H3 pn=>rK Ed (zG (aJ uP bg)) (pv 1))))
   (fY (qk PassesOwn.never rfl (CQ (pv 1)) (ly rfl (cy (cH (i:=4) eR.nd rfl (Or.inl rfl)) (cy (cH (i:=5) eR.nd rfl (Or.inl rfl)) jL)))
    (gG (lh uP (nc (jU fO (pv 3) (pv 4) (fun _ _=>rfl)) (pv 5) set_list))))
   (fY (qk PassesOwn.never rfl (jH rfl B.range (aJ (pv 0) bg)) (cH (i:=6) eR.nd rfl (Or.inl rfl))
    (gG (qk PassesOwn.never rfl (vP (pv 2)) (ly rfl (cy (cH (i:=4) eR.nd rfl (Or.inl rfl)) (cy (cH (i:=5) eR.nd rfl (Or.inl rfl)) jL)))
     (gG (Cv (PW.pt (xT (tO (jU fO (jU fO (pv 3) (pv 4) (fun _ _=>rfl)) (pv 6) (fun _ _=>rfl))) (vj (tO (jU fO (jU fO (pv 3) (pv 6) (fun _ _=>rfl)) (pv 5) (fun _ _=>rfl))))))
      (gG (lh uP (nc (jU fO (pv 3) (pv 4) (fun _ _=>rfl)) (pv 5) set_list))) uS)))))
   (gG (k9 (fU bp rfl B.tuple (by decide +kernel) (aJ (qw (NB:=["a","b","leads"]) (own:=2) (ixs:=[3]) rfl (lj (by kernel_rfl)) (vP (pv 2))
    (fun C ex s3 H3 pn=>Df K 0 1 CP rfl rfl rfl rfl rfl rfl)
    (fun C ex s3 H3 pn=>vd (tO (jU (Hk K) (jU (Hk K) (pv 2) (pv 0) (fun _ _=>rfl)) (pv 1) (fun _ _=>rfl)))) (fun C ex s3 H3 pn=>ui (aJ (pv 0) (aJ (pv 1) bg)))) bg))))))),?_⟩
  have hn:=Hn h8
  have hn0:(0:Int)<=(n:Int):=by omega
  refine⟨_,rfl,n,rfl,h1,h8,fun H1 c ws s1 hc0 hc hw=>?_⟩
  have hwl:ws.length=n * n:=by rw[hw.len,eT]
  have gw:OM.Wn n (OM.b6 n):=fun p hp=>OM.a8.mp hp
  refine uc ?_
  refine⟨_,rfl,n,rfl,by omega,by omega,fun D hD=>?_⟩
  rw[Int.toNat_natCast]
  refine su (fun i σ' H'=>(∃v,σ'= [v,some (.int n)])/\ak H1 H'/\∃r:Nat->Addr,H' D=some (.lst ((List.range i).map fun k=>V.ref (r k)))/\
   (∀k,k < i->H' (r k)=some (.lst ((List.range n).map fun _=>V.bl false))/\H1 (r k)=none/\r k≠D)/\∀j k,j < i->k < i->r j=r k->j=k)
   ?_ ?_ ?_
  ·exact⟨⟨none,rfl⟩,(ak.refl H1).put hD,fun _=>0,aw,fun k hk=>absurd hk (Nat.not_lt_zero _),fun j k hj=>absurd hj (Nat.not_lt_zero _)⟩
  ·rintro i σ' H' hi ⟨⟨v,rfl⟩,s2,r,hr0,hr1,hr2⟩
   refine qU ⟨by show 1<=sizeLine;rw[sizeLine_eq];omega,fun p hp0=>⟨_,rfl,p,n,[.bl false],rfl,rfl,aw,by omega,by omega,by show 1 * (n:Int).toNat<=sizeLine;rw[sizeLine_eq];omega,fun q hq0=>?_⟩⟩
   have hqp:q≠p:=by intro e;subst e;rw[aw] at hq0;cases hq0
   have hq1:H' q=none:=by rw[az hqp] at hq0;exact hq0
   have hDp:D≠p:=aF hr0 hp0
   have hDq:D≠q:=aF hr0 hq1
   rw[Int.toNat_natCast,Fi]
   refine⟨_,by rw[az hDq,az hDp];exact hr0,by rw[List.length_map,List.length_range,sizeLine_eq];omega,⟨_,rfl⟩,((s2.put (s2.free hp0)).put (s2.free hq1)).put hD,fun k=>if k=i then q else r k,?_,fun k hk=>?_,fun j k hj hk e=>?_⟩
   ·have e:(List.range i).map (fun k=>V.ref (r k))=(List.range i).map (fun k=>V.ref (if k=i then q else r k)):=List.map_congr_left fun k hk=>by
     have:=List.mem_range.mp hk
     rw[if_neg (by omega)]
    rw[aw,List.range_succ,List.map_append,e]
    simp
   ·dsimp only
    by_cases e:k=i
    ·rw[if_pos e]
     exact⟨by rw[az hDq.symm,aw],s2.free hq1,hDq.symm⟩
    ·rw[if_neg e]
     obtain⟨a1,a2,a3⟩:=hr1 k (by omega)
     exact⟨by rw[az a3,az (aF a1 hq1),az (aF a1 hp0)];exact a1,a2,a3⟩
   ·dsimp only at e
    by_cases ej:j=i
    ·by_cases ek:k=i
     ·omega
     ·rw[if_pos ej,if_neg ek] at e
      exact absurd e.symm (aF (hr1 k (by omega)).1 hq1)
    ·by_cases ek:k=i
     ·rw[if_neg ej,if_pos ek] at e
      exact absurd e (aF (hr1 j (by omega)).1 hq1)
     ·rw[if_neg ej,if_neg ek] at e
      exact hr2 j k (by omega) (by omega) e
  rintro σ2 H2 ⟨_,s2,r,hr0,hr1,hr2⟩
  refine⟨⟨_,hr0⟩,?_⟩
  have sep:∀i,i < n->H1 (r i)=none:=fun i hi=>(hr1 i hi).2.1
  have T0:TabAt n (fun _ _=>false) D r H2:=⟨hr0,fun i hi=>(hr1 i hi).1,hr2,fun i hi=>(hr1 i hi).2.2⟩
  refine⟨_,rfl,a,xs,rfl,B3 (H1:=H1) (AG s1 hq) (fun i σ' H'=>(∃x y,σ'= [some (.int n),some (.ref a),some (.ref c),some (.ref D),x,y,none])/\ak H1 H'/\∃M,TabAt n M D r H'/\∀u v:Nat,M u v=true↔((u:Int),(v:Int))∈ps.take i)
   ⟨⟨none,none,rfl⟩,s2,_,T0,fun u v=>by simp⟩ (fun i σ' H' q=>q.2.1) ?_ ?_⟩
  ·rintro i x σ' H' hx ⟨⟨_,_,rfl⟩,s3,M,T,hM⟩
   obtain⟨p,hpi,b,rfl,hb⟩:=(hp.same (s1.trans s3)).at hx
   obtain⟨u,v,rfl,hu,hv⟩:=pW wn (List.mem_of_getElem? hpi)
   refine zu hb ?_
   refine⟨_,rfl,_,rfl,D,_,u,_,rfl,rfl,.inl (.inl T.top),eY hu,_,rfl,r u,_,v,v,rfl,rfl,T.row u hu,o8 hv,⟨_,_,rfl⟩,s3.put (sep u hu),_,T.set hu,fun x y=>?_⟩
   rw[take_snoc hpi,<-jB,AL,hM]
  rintro σ3 H3 ⟨⟨x3,y3,rfl⟩,s3,M3,T3,hM3⟩
  rw[hp.len,take_all] at hM3
  refine⟨_,rfl,n,rfl,by omega,by omega,?_⟩
  rw[Int.toNat_natCast]
  refine wb (fun m σ' H'=>(∃x y z,σ'= [some (.int n),some (.ref a),some (.ref c),some (.ref D),x,y,z])/\ak H1 H'/\∃M,TabAt n M D r H'/\OM.Tab n ps M/\OM.Ce M m)
   ⟨⟨_,_,_,rfl⟩,s3,M3,T3,⟨fun a b h=>by have:=wn _ ((hM3 a b).mp h);simp only at this;omega,fun a b h=>(hM3 a b).mpr h,fun a b h=>.one ((hM3 a b).mp h)⟩,fun k a b hk=>absurd hk (Nat.not_lt_zero _)⟩ ?_ ?_
  ·rintro m σ' H' hm ⟨⟨_,_,_,rfl⟩,s4,M,T,TT,Th⟩
   rw[Int.zero_add]
   refine⟨_,rfl,c,rfl,⟨ws,.inl (.inl (s4 _ _ hc))⟩,rO (xs:=ws) (fun i σ' H'=>(∃x y,σ'= [some (.int n),some (.ref a),some (.ref c),some (.ref D),x,y,some (.int m)])/\ak H1 H'/\∃M',TabAt n M' D r H'/\OM.Phase M M' m fun u v=>((u:Int),(v:Int))∈(OM.b6 n).take i)
    ⟨⟨_,_,rfl⟩,s4,M,T,gX (OM.Phase.start M m) fun a b=>by simp⟩ (fun i σ' H' _ q=>.inl (.inl (q.2.1 _ _ hc))) ?_ ?_⟩
   ·rintro i x σ' H' hx ⟨⟨_,_,rfl⟩,s5,M',T',Ph⟩
    obtain⟨p,hpi,b,rfl,hb⟩:=(hw.same s5).at hx
    obtain⟨u,v,rfl,hu,hv⟩:=pW gw (List.mem_of_getElem? hpi)
    refine zu hb ?_
    have st:=Ph.step u v
    refine⟨_,rfl,_,rfl,D,_,u,_,rfl,rfl,.inl (.inl T'.top),eY hu,_,rfl,r u,_,m,_,rfl,rfl,.inl (.inl (T'.row u hu)),eY hm,_,rfl,?_⟩
    by_cases c1:M' u m=true
    ·refine GX c1 ?_
     refine⟨_,rfl,_,rfl,D,_,m,_,rfl,rfl,.inl (.inl T'.top),eY hm,_,rfl,r m,_,v,_,rfl,rfl,.inl (.inl (T'.row m hm)),eY hv,_,rfl,?_⟩
     by_cases c2:M' m v=true
     ·refine GX c2 ?_
      rw[if_pos ⟨c1,c2⟩] at st
      refine⟨_,rfl,_,rfl,D,_,u,_,rfl,rfl,.inl (.inl T'.top),eY hu,_,rfl,r u,_,v,v,rfl,rfl,T'.row u hu,o8 hv,⟨_,_,rfl⟩,s5.put (sep u hu),_,T'.set hu,gX st fun a b=>?_⟩
      rw[take_snoc hpi];exact jB
     ·refine Gs c2 ?_
      rw[if_neg fun z=>c2 z.2] at st
      refine⟨⟨_,_,rfl⟩,s5,_,T',gX st fun a b=>?_⟩
      rw[take_snoc hpi];exact jB
    ·refine Gs c1 ?_
     rw[if_neg fun z=>c1 z.1] at st
     refine rj ⟨⟨_,_,rfl⟩,s5,_,T',gX st fun a b=>?_⟩
     rw[take_snoc hpi];exact jB
   ·rintro σ' H' ⟨⟨_,_,rfl⟩,s5,M',T',Ph⟩
    rw[hw.len,take_all] at Ph
    have dn:=Ph.done (n:=n) (fun a b ha hb=>OM.a8.mpr ⟨⟨by simp,by simp;omega⟩,by simp,by simp;omega⟩) TT.inn Th
    exact⟨⟨_,_,_,rfl⟩,s5,M',T',TT.phase Ph,dn.1⟩
  rintro σ4 H4 ⟨⟨x4,y4,z4,rfl⟩,s4,M,T,TT,Th⟩
  refine uc ⟨_,rfl,c,rfl,⟨ws,.inl (.inl (s4 _ _ hc))⟩,fun D' hD'=>BN (xs:=ws) (fun i σ' H'=>(∃x y,σ'= [x,y,some (.ref D)])/\ak H4 H'/\∃vs,H' D'=some (.lst vs)/\aM K H' vs (((OM.b6 n).take i).filter fun p=>M p.1.toNat p.2.toNat))
   ⟨⟨_,_,rfl⟩,(ak.refl H4).put hD',[],aw,.nil⟩ (fun i σ' H' _ q=>.inl (.inl (q.2.1 _ _ (s4 _ _ hc)))) ?_ ?_⟩
  ·rintro i x σ' H' hx ⟨⟨_,_,rfl⟩,s5,vs,hv,hpv⟩
   obtain⟨p,hpi,b,rfl,hb⟩:=(hw.same (s4.trans s5)).at hx
   obtain⟨u,v,rfl,hu,hv'⟩:=pW gw (List.mem_of_getElem? hpi)
   refine zu hb ?_
   have T':=T.same s5
   refine⟨_,rfl,_,rfl,D,_,u,_,rfl,rfl,.inl (.inl T'.top),eY hu,_,rfl,r u,_,v,_,rfl,rfl,.inl (.inl (T'.row u hu)),eY hv',_,rfl,?_⟩
   by_cases c1:M u v=true
   ·refine GX c1 ?_
    refine⟨_,rfl,_,rfl,by show 2<=sizeLine;rw[sizeLine_eq];omega,fun p hp0=>?_⟩
    have hpD:D'≠p:=aF hv hp0
    refine⟨vs,by rw[az hpD];exact hv,?_,⟨_,_,rfl⟩,(s5.put (s5.free hp0)).put hD',_,aw,?_⟩
    ·rw[hpv.len]
     refine Nat.lt_of_le_of_lt (List.length_filter_le ..) ?_
     rw[List.length_take,eT,sizeLine_eq];omega
    ·rw[take_snoc hpi,List.filter_append,List.filter_cons_of_pos (by simpa using c1),List.filter_nil]
     have g1:gx H' (upd H' p (.tup [.int u,.int v])):=gx.new hp0
     have g2:∀o,gx (upd H' p (.tup [.int u,.int v])) (upd (upd H' p (.tup [.int u,.int v])) D' o):=fun o=>gx.list (by rw[az hpD];exact hv)
     refine aM.snoc ?_ (hpv.grow (g1.trans (g2 _)))
     exact fG.grow (.inl (.inl aw)) (g2 _)
   ·refine Gs c1 ?_
    refine⟨⟨_,_,rfl⟩,s5,vs,hv,?_⟩
    rw[take_snoc hpi,List.filter_append,List.filter_cons_of_neg (by simpa using c1),List.filter_nil,List.append_nil]
    exact hpv
  ·rintro σ' H' ⟨_,s5,vs,hv,hpv⟩
   rw[hw.len,take_all] at hpv
   refine⟨⟨_,hv⟩,D',vs,rfl,.inl ⟨.inl (.inl hv),fun t ht=>?_⟩⟩
   have sA:ak H H':=(s1.trans s4).trans s5
   refine k _ t vs (sA.put (sA.free ht)) (sA.free ht) aw ?_
   have e:((OM.b6 n).filter fun p=>M p.1.toNat p.2.toNat)=OM.b4 n (OM.Tr (OM.Mem ps)):=by
    unfold OM.b4
    refine List.filter_congr fun p hp=>?_
    obtain⟨u,v,rfl,hu,hv⟩:=pW gw hp
    have:=TT.all wn Th u v
    simp only[Int.toNat_natCast]
    rw[Bool.eq_iff_iff,this]
    simp
   rw[e] at hpv
   exact hpv.grow (gx.new ht)
end
end RO

end

section
namespace RO
open PySem L2 RM
section
variable {P:Program}{w:World}{K:PySem.W.Frag}{mg:Str->Option Value}{base:Heap}{ca:Str->Addr}
theorem HI {k:Nat}{f:Addr}{fd:FuncData}{ps:List Str}{sp:Sp}(F:fx P w K mg base D4 k f fd ps sp):fx P w K mg base (l5 P w) k f fd ps sp:=
 ⟨F.len,fun A outer s H args us vs Q E hr he hb hv hs=>codeAny_mono (F.run A outer s H args us vs Q E hr he hb hv hs) fun r s' h=>by
  cases r with
  |ok x=>cases x <;> exact h
  |error e=>exact h.elim⟩
theorem tj {G H:Hp}(s:ak G H){ws:List V}{ps:List Pr}(h:aM K H ws ps):aM K (kA G H) ws ps:=Paired.mapP h fun v p ⟨a,e,q⟩=>⟨a,e,nk s q⟩
theorem mU {ds:List D}(h:cZ ds≠.bad):∃(n:Nat) (d:D) (ps:List Pr),ds= [.int n,d]/\l9 d=some (ps.map ao)/\1<=n/\n<=8/\OM.Wn n ps/\cZ ds=.ok (.tuple ((OM.b4 n (OM.Tr (OM.Mem ps))).map ao)) false:=by
 unfold cZ at h
 split at h
 ·rename_i n d
  cases q:l9 d with
  |none=>rw[q] at h;exact absurd rfl h
  |some es=>
   rw[q] at h
   dsimp only at h
   cases q2:fB es with
   |none=>rw[q2] at h;exact absurd rfl h
   |some ps=>
    rw[q2] at h
    dsimp only at h
    by_cases c:1<=n/\n<=8/\OM.Wn n.toNat ps
    ·have e:((n.toNat:Nat):Int)=n:=by omega
     refine⟨n.toNat,d,ps,by rw[e],by rw[q,jE q2],by omega,by omega,c.2.2,?_⟩
     unfold cZ
     dsimp only
     rw[q]
     dsimp only
     rw[q2]
     dsimp only
     rw[if_pos c]
    ·rw[if_neg c] at h;exact absurd rfl h
 ·exact absurd rfl h
theorem ug {f g:Addr}{fd gd:FuncData}(F:kn K mg "closed" kU ["many","pairs"] f fd)(E:kn K mg "every_pair" iV ["many"] g gd)(B:kO mg):fV P w K mg base ca "closed" ["many","pairs"] 3 cZ:=by
 refine⟨⟨f,fd,F.mg,F.F.kp,F.b,((HI (wj F E (zI E B) B)).mono (by decide)).imp ?_⟩,fun ds h=>?_⟩
 ·rintro vs H Q X ⟨G,ds,s,hl,r,h⟩
  have hb:cZ ds≠.bad:=fun z=>by rw[z] at h;exact h
  obtain⟨n,d,ps,rfl,hd,h1,h8,wn,e⟩:=mU hb
  rw[e] at h
  cases r with
  |cons r1 r=>
   cases r with
   |cons r2 r=>
    cases r
    cases r1
    obtain⟨a,xs,rfl,hq,hr⟩:=(kc.seq (B:=none) (G:=G) (H:=G) (.inl r2) hd (ak.refl _))
    refine⟨n,a,xs,ps,rfl,h1,h8,hq.elim (fun q=>.inl (s.seq q)) (fun q=>.inr (q.grow s.grow)),(hr.pairs).grow s.grow,wn,fun H' t ws hh ht ht' hp=>?_⟩
    have s2:=s.trans hh
    refine h (.ref t) (kA G H') H' hh oY (rT s2) (fun b m hb=>by rw[vM hh m];exact hb) ?_
    exact .tup (nk s2 (.inl (.inl ht'))) (aM.rps (tj s2 hp))
 ·obtain⟨n,d,ps,rfl,_⟩:=mU h
  rfl
end
end RO

end

section
namespace RO
open PySem L2 RM
def vc (K:PySem.W.Frag):Sp:=fun vs H Q _=>∃(a:Addr) (ns:List Int),vs= [.ref a]/\gu K H a (ns.map V.int)/\∀H',ak H H'->Q (.bl true) H'
theorem DE {K:PySem.W.Frag}{ca:Str->Addr}(vs:List V)(H:Hp)(Q:VK)(E:XK)(h:vc K vs H Q E):AB K ca 1 DQ vs H Q E:=by
 obtain⟨a,ns,rfl,hS,q⟩:=h
 refine⟨H,[bo ns],ak.refl _,rfl,.cons (.scr hS) .nil,?_⟩
 rw[Fg]
 intro v G' H' s1 s2 s3 s4 fv
 have fv:Rp K G' v (.bool true):=fv
 cases fv
 exact q H' s1
theorem tL:bq "is_whole" RQ.iz ["thing"]:=fun _ _ _ _ _ _=>Ax fun _=>rfl
theorem tx:bq "is_below" RQ.i4 ["thing","bound"]:=fun _ _ _ _ _ _=>ln2 fun _ _=>rfl
theorem wG:bq "is_many" RQ.jC ["thing"]:=fun _ _ _ _ _ _=>Ax fun _=>rfl
theorem wc:bq "is_pair" RQ.jx ["thing","many"]:=fun _ _ _ _ _ _=>ln2 fun _ _=>rfl
theorem we:bq "is_line" RQ.jz ["thing","many"]:=fun _ _ _ _ _ _=>ln2 fun _ _=>rfl
theorem p9:bq "every_pair" RQ.dG ["many"]:=fun _ _ _ _ _ _=>Ax fun _=>rfl
theorem yh:bq "closed" kU ["many","pairs"]:=fun _ _ _ _ _ _=>ln2 fun _ _=>rfl
theorem uj:bq "has_ring" RQ.i7 ["pairs"]:=fun _ _ _ _ _ _=>Ax fun _=>rfl
theorem sW:bq "is_order" RQ.iA ["thing"]:=fun _ _ _ _ _ _=>Ax fun _=>rfl
theorem qm:bq "need_order" RQ.fR ["thing"]:=fun _ _ _ _ _ _=>Ax fun _=>rfl
theorem tT:bq "is_under" RQ.iD ["point","other"]:=fun _ _ _ _ _ _=>ln2 fun _ _=>rfl
theorem pH:bq "are_points" RQ.fN ["thing","order"]:=fun _ _ _ _ _ _=>ln2 fun _ _=>rfl
theorem rE:bq "_law_cell" RQ.gP ["script","k"]:=fun _ _ _ _ _ _=>ln2 fun _ _=>rfl
theorem sQ:bq "_law_mix" RQ.dX ["cell","k"]:=fun _ _ _ _ _ _=>ln2 fun _ _=>rfl
theorem uy:bq "_law_box" RQ.iQ ["script","k"]:=fun _ _ _ _ _ _=>ln2 fun _ _=>rfl
theorem qY:bq "_law_take" RQ.gA ["box","many"]:=fun _ _ _ _ _ _=>ln2 fun _ _=>rfl
theorem pO:bq "_law_whole" RQ.fJ ["thing"]:=fun _ _ _ _ _ _=>Ax fun _=>rfl
theorem qx:bq "_law_truth" RQ.fH ["found","due"]:=fun _ _ _ _ _ _=>ln2 fun _ _=>rfl
theorem sS:bq "_law_odd" RQ.iI ["box"]:=fun _ _ _ _ _ _=>Ax fun _=>rfl
theorem lZ:bq "_law_mixed_up" RQ.dc ["box","some"]:=fun _ _ _ _ _ _=>ln2 fun _ _=>rfl
theorem oE:bq "_law_closed" RQ.eO ["pairs"]:=fun _ _ _ _ _ _=>Ax fun _=>rfl
theorem pI:bq "_law_order" RQ.fS ["box","most"]:=fun _ _ _ _ _ _=>ln2 fun _ _=>rfl
theorem qN:bq "_law_told" RQ.gC ["many","rows"]:=fun _ _ _ _ _ _=>ln2 fun _ _=>rfl
theorem kT:bq "_law_are_points" RQ.cD ["thing","order"]:=fun _ _ _ _ _ _=>ln2 fun _ _=>rfl
theorem sv:bq "_law_bent" RQ.gL ["box","points","odd"]:=fun _ _ _ _ _ _=>HF fun _ _ _=>rfl
theorem all_mk {l:PySem.W.OpenLaw}{w:World}{K:PySem.W.Frag}{h:Heap}{mg:Str->Option Value}{fa f26 x0:Addr}(X:K.In h)(G:h.Ns mainGlobals mg)(hfa:mg "law"=some (.ref fa))
  {od26 an26:Option Addr} {sl26:Array (Option Value)} {oc26 kV26 dc26 pm26 cd26 ct26:Value} {tMOST_THINGS:Tok}
  (F1:Fo K mg "is_whole" RQ.iz ["thing"])
  (F2:Fo K mg "is_below" RQ.i4 ["thing","bound"])
  (F3:Fo K mg "is_many" RQ.jC ["thing"])
  (F4:Fo K mg "is_pair" RQ.jx ["thing","many"])
  (F5:Fo K mg "is_line" RQ.jz ["thing","many"])
  (F6:Fo K mg "every_pair" RQ.dG ["many"])
  (F7:Fo K mg "closed" kU ["many","pairs"])
  (F8:Fo K mg "has_ring" RQ.i7 ["pairs"])
  (F9:Fo K mg "is_order" RQ.iA ["thing"])
  (F10:Fo K mg "need_order" RQ.fR ["thing"])
  (F11:Fo K mg "is_under" RQ.iD ["point","other"])
  (F12:Fo K mg "are_points" RQ.fN ["thing","order"])
  (F13:Fo K mg "_law_cell" RQ.gP ["script","k"])
  (F14:Fo K mg "_law_mix" RQ.dX ["cell","k"])
  (F15:Fo K mg "_law_box" RQ.iQ ["script","k"])
  (F16:Fo K mg "_law_take" RQ.gA ["box","many"])
  (F17:Fo K mg "_law_whole" RQ.fJ ["thing"])
  (F18:Fo K mg "_law_truth" RQ.fH ["found","due"])
  (F19:Fo K mg "_law_odd" RQ.iI ["box"])
  (F20:Fo K mg "_law_mixed_up" RQ.dc ["box","some"])
  (F21:Fo K mg "_law_closed" RQ.eO ["pairs"])
  (F22:Fo K mg "_law_order" RQ.fS ["box","most"])
  (F23:Fo K mg "_law_told" RQ.gC ["many","rows"])
  (F24:Fo K mg "_law_are_points" RQ.cD ["thing","order"])
  (F25:Fo K mg "_law_bent" RQ.gL ["box","points","odd"])
  (a26:PySem.W.nsIn K mainGlobals "law"=some (some (.ref f26))) (l26:K.lookup f26=some ⟨oc26,od26,.func (PySem.W.fnOf "law" "law" (gK RQ.jR) (cL RQ.jR) (ax RQ.jR) .none kV26 dc26 pm26 an26 cd26 ct26),sl26⟩) (c26:PySem.W.codeIn K cd26 "law"=true) (k26:PySem.W.keepIn K (.ref f26)=true)
  (zB:GQ K=true)
  (yMOST_THINGS:PySem.W.nsIn K mainGlobals "MOST_THINGS"=some (some (.int 8 tMOST_THINGS)))
  (m0:PySem.W.nsIn K mainGlobals "NoOrder"=some (some (.ref x0)))
  (e0:PySem.W.excIn K x0 [.type "ValueError",.type "Exception",.type "BaseException",.type "object"] "ValueError.__new__"=true)
  :∃fd:FuncData,(∀(s:Shared) (v:Value),BindsTo s fd ⟨[v],[]⟩ [("script",v)])/\∀base:Heap,K.In base->base.Ns mainGlobals mg->fx l.prog w K mg base (l5 l.prog w) 7 fa fd ["script"] (vc K):=by
 have e:=hfa.symm.trans (PySem.W.mg_of X G a26)
 cases e
 have B:kO mg:=E7 X G zB
 have g8:=PySem.W.mg_of X G yMOST_THINGS
 obtain⟨f1,d1,bI⟩:=F1.ex
 obtain⟨f2,d2,bA⟩:=F2.ex
 obtain⟨f3,d3,fT⟩:=F3.ex
 obtain⟨f4,d4,bQ⟩:=F4.ex
 obtain⟨f5,d5,eG⟩:=F5.ex
 obtain⟨f6,d6,cn⟩:=F6.ex
 obtain⟨f7,d7,ig⟩:=F7.ex
 obtain⟨f8,d8,dP⟩:=F8.ex
 obtain⟨f9,d9,dO⟩:=F9.ex
 obtain⟨f10,d10,cR⟩:=F10.ex
 obtain⟨f11,d11,dS⟩:=F11.ex
 obtain⟨f12,d12,cS⟩:=F12.ex
 obtain⟨f13,d13,dq⟩:=F13.ex
 obtain⟨f14,d14,dU⟩:=F14.ex
 obtain⟨f15,d15,eB⟩:=F15.ex
 obtain⟨f16,d16,ay⟩:=F16.ex
 obtain⟨f17,d17,cV⟩:=F17.ex
 obtain⟨f18,d18,cX⟩:=F18.ex
 obtain⟨f19,d19,eH⟩:=F19.ex
 obtain⟨f20,d20,aN⟩:=F20.ex
 obtain⟨f21,d21,cB⟩:=F21.ex
 obtain⟨f22,d22,cT⟩:=F22.ex
 obtain⟨f23,d23,dr⟩:=F23.ex
 obtain⟨f24,d24,bw⟩:=F24.ex
 obtain⟨f25,d25,dm⟩:=F25.ex
 have U26:=uB (st:=RQ.jR) l26 c26 k26
 have Fj:kn K mg "law" RQ.jR ["script"] fa _:=⟨PySem.W.mg_of X G a26,U26,U26.binds (ps:=["script"]) fun _ _ _ _ _ _=>Ax fun _=>rfl⟩
 obtain⟨ca,hca⟩:∃ca:Str->Addr,ca "NoOrder"=x0:=⟨fun _=>x0,by first |rfl |decide |simp⟩
 have hV:Exc K mg ca "NoOrder":=⟨by rw[hca];exact PySem.W.mg_of X G m0,by rw[hca];exact e0⟩
 refine⟨PySem.W.fnOf "law" "law" (gK RQ.jR) (cL RQ.jR) (ax RQ.jR) .none kV26 dc26 pm26 an26 cd26 ct26,fun s v=>.of_eq rfl,fun base _ _=>?_⟩
 have dZ:=(RQ.qB (P:=l.prog) (w:=w) (base:=base) (ca:=ca) bI B).imp u4
 have cQ:=(RQ.qc (P:=l.prog) (w:=w) (base:=base) (ca:=ca) bA B dZ).imp AU
 have lG:=(RQ.sD (P:=l.prog) (w:=w) (base:=base) (ca:=ca) fT B dZ g8).imp DT
 have ux:=RQ.lM (P:=l.prog) (w:=w) (base:=base) (ca:=ca) bQ B cQ
 have ie:=(RQ.lM (P:=l.prog) (w:=w) (base:=base) (ca:=ca) bQ B cQ).imp DM
 have jF:=RQ.rq (P:=l.prog) (w:=w) (base:=base) (ca:=ca) eG B cQ
 have iF:=RQ.nX (P:=l.prog) (w:=w) (base:=base) (ca:=ca) cn B
 have nE:=ug (P:=l.prog) (w:=w) (base:=base) (ca:=ca) ig cn B
 have jZ:=(RQ.qr (P:=l.prog) (w:=w) (base:=base) (ca:=ca) dP B).imp CY
 have j9:=(RQ.qH (P:=l.prog) (w:=w) (base:=base) (ca:=ca) dO B lG ie nE jZ).imp uC
 have iM:=(RQ.nH (P:=l.prog) (w:=w) (base:=base) (ca:=ca) cR B j9 hV).imp BG
 have km:=RQ.qd (P:=l.prog) (w:=w) (base:=base) (ca:=ca) dS B
 have iS:=RQ.mR (P:=l.prog) (w:=w) (base:=base) (ca:=ca) cS B iM ux jF iF km
 have jf:=RQ.oD (P:=l.prog) (w:=w) (base:=base) (ca:=ca) dq B
 have kh:=RQ.pM (P:=l.prog) (w:=w) (base:=base) (ca:=ca) dU B
 have kg:=RQ.qh (P:=l.prog) (w:=w) (base:=base) (ca:=ca) eB B jf kh
 have aI:=RQ.oi (P:=l.prog) (w:=w) (base:=base) ay B
 have i5:=RQ.mX (P:=l.prog) (w:=w) (base:=base) (ca:=ca) cV B
 have iB:=RQ.mK (P:=l.prog) (w:=w) (base:=base) (ca:=ca) cX B
 have ki:=RQ.pZ (P:=l.prog) (w:=w) (base:=base) eH B aI
 have bP:=RQ.kC (P:=l.prog) (w:=w) (base:=base) aN B aI
 have gZ:=RQ.lX (P:=l.prog) (w:=w) (base:=base) (ca:=ca) cB B
 have iY:=RQ.nr (P:=l.prog) (w:=w) (base:=base) (ca:=ca) cT B gZ aI bP
 have jq:=RQ.oB (P:=l.prog) (w:=w) (base:=base) (ca:=ca) dr B
 have dD:=RQ.jM (P:=l.prog) (w:=w) (base:=base) (ca:=ca) bw B i5
 have jw:=RQ.om (P:=l.prog) (w:=w) (base:=base) dm B aI
 have EG:=RQ.AI (P:=l.prog) (w:=w) (base:=base) (ca:=ca) Fj B kg jq iB iS dD aI bP ki iY jw
 exact fx.imp (sp:=AB K ca 1 DQ) EG DE
theorem walk {l:PySem.W.OpenLaw}{q:Program}{loose:List Str}{XP:(Str->Option Value)->Heap->Prop}{YP:World->Heap->Prop}{d:DefRec}{K:Params->PySem.W.Frag}(hn:l.most=some 63)(hdf:d.params.defaults= [])(hi:PyProof.Rows.importsNone q=true)
  (hY:∀(w:World) (h:Heap),YP w h->(K w.params).In h)
  (F:∀(w:World) (mg:Str->Option Value) (fa:Addr) (h:Heap),(K w.params).In h->h.Ns mainGlobals mg->mg d.name=some (.ref fa)->
   ∃fd:FuncData,(∀(s:Shared) (u:Value),BindsTo s fd ⟨[u],[]⟩ [("script",u)])/\∀base:Heap,(K w.params).In base->base.Ns mainGlobals mg->fx l.prog w (K w.params) mg base (l5 l.prog w) 7 fa fd ["script"] (vc (K w.params))) :
  PySem.W.WalkO q loose XP YP l.row.toRowW d [] (fun f vs=>PySem.call f vs):=
 L2.BS (n:=63) (k:=7) (x:="script") (CX:=fun w=>l5 l.prog w) (sp:=fun w=>vc (K w.params)) hn (by decide) hdf hi ⟨rfl,by decide,by decide,rfl⟩ hY F (fun _ _ a ns hl _ hS=>⟨a,ns,rfl,hS,fun _ _=>rfl⟩) fun _ _ _ _ _ z=>by
  obtain⟨_,_,_,_,_,_,_,_,_,z⟩:=z
  exact z
end RO
namespace HD
noncomputable def vw:PySem.Program:=PySem.W.view PySem.Challenge.pw_rowsorder_k31_points_looked_at [1,2,3,4,5,6,7,9,10,12,13,14,15,17,18,20,21,22,23,24,25,26,27,28,29,30,31,32,33]
theorem EW:PySem.Challenge.rw_rowsorder_k31_points_looked_at.wellSaid=true:=by kernel_rfl
end HD
local macro_rules | `(tactic|o_head $H)=>`(tactic| (
 refine PySem.W.holds_open (q:=HD.vw) (loose:=[]) (Xt:=fun s=>PySem.W.xlAt HD.vw [] s && PySem.W.recOk (PySem.W.RowW.records _) s) (XP:=PySem.W.XL HD.vw []) (Yf:=PySem.W.Hook.obs $H) (Ya:=PySem.W.Hook.val $H) (YP:=PySem.W.Hook.says $H) (N:=2526) ?hl (PySem.W.Hook.of $H) (PySem.W.Hook.keeps $H) (fun s e=>PySem.W.xl_of s (Bool.and_eq_true_iff.mp e).1) PySem.W.XL.keeps (by rfl) (by rfl) (by rfl) (fun s e=>PySem.W.recFacts_of (Bool.and_eq_true_iff.mp e).2) (by rfl) (by first |assumption |decide +kernel) (by decide +kernel) ⟨rfl,rfl,rfl,rfl,rfl,by decide +kernel⟩ ?hw ?hc
 case hl=>exact HD.AK (by kernel_rfl) (by kernel_rfl) (fun s=>by kernel_rfl) (fun w os=>by kernel_rfl)))
open PySem PySem.W PyProof.Rows L2
set_option maxRecDepth 100000 in
set_option maxHeartbeats 0 in
theorem PySem.Challenge.cw_rowsorder_k31_points_looked_at_holds : PySem.Challenge.rw_rowsorder_k31_points_looked_at.Holds := by
 w_on;(refine holds_law HD.EW fun EW=>?_);k_head;(case hw=>w_witness2)
 k_fill
 refine RO.walk (l:=PySem.Challenge.rw_rowsorder_k31_points_looked_at) rfl rfl ?hi (fun w h Y=>PySem.W.kIn_of Y) ?F
 case hi=>kernel_rfl
 case F=>
  intro w mg fa h KX G hmg
  refine' RO.all_mk KX G hmg ?F1 ?F2 ?F3 ?F4 ?F5 ?F6 ?F7 ?F8 ?F9 ?F10 ?F11 ?F12 ?F13 ?F14 ?F15 ?F16 ?F17 ?F18 ?F19 ?F20 ?F21 ?F22 ?F23 ?F24 ?F25 ?a26 ?l26 ?c26 ?k26 ?zB ?yMOST_THINGS ?m0 ?e0
  case F1=>refine' cx KX G RO.tL ?a ?l ?c ?k;(case a=>k_is);(case l=>k_is);(case c=>k_is);(case k=>k_is)
  case F2=>refine' cx KX G RO.tx ?a ?l ?c ?k;(case a=>k_is);(case l=>k_is);(case c=>k_is);(case k=>k_is)
  case F3=>refine' cx KX G RO.wG ?a ?l ?c ?k;(case a=>k_is);(case l=>k_is);(case c=>k_is);(case k=>k_is)
  case F4=>refine' cx KX G RO.wc ?a ?l ?c ?k;(case a=>k_is);(case l=>k_is);(case c=>k_is);(case k=>k_is)
  case F5=>refine' cx KX G RO.we ?a ?l ?c ?k;(case a=>k_is);(case l=>k_is);(case c=>k_is);(case k=>k_is)
  case F6=>refine' cx KX G RO.p9 ?a ?l ?c ?k;(case a=>k_is);(case l=>k_is);(case c=>k_is);(case k=>k_is)
  case F7=>refine' cx KX G RO.yh ?a ?l ?c ?k;(case a=>k_is);(case l=>k_is);(case c=>k_is);(case k=>k_is)
  case F8=>refine' cx KX G RO.uj ?a ?l ?c ?k;(case a=>k_is);(case l=>k_is);(case c=>k_is);(case k=>k_is)
  case F9=>refine' cx KX G RO.sW ?a ?l ?c ?k;(case a=>k_is);(case l=>k_is);(case c=>k_is);(case k=>k_is)
  case F10=>refine' cx KX G RO.qm ?a ?l ?c ?k;(case a=>k_is);(case l=>k_is);(case c=>k_is);(case k=>k_is)
  case F11=>refine' cx KX G RO.tT ?a ?l ?c ?k;(case a=>k_is);(case l=>k_is);(case c=>k_is);(case k=>k_is)
  case F12=>refine' cx KX G RO.pH ?a ?l ?c ?k;(case a=>k_is);(case l=>k_is);(case c=>k_is);(case k=>k_is)
  case F13=>refine' cx KX G RO.rE ?a ?l ?c ?k;(case a=>k_is);(case l=>k_is);(case c=>k_is);(case k=>k_is)
  case F14=>refine' cx KX G RO.sQ ?a ?l ?c ?k;(case a=>k_is);(case l=>k_is);(case c=>k_is);(case k=>k_is)
  case F15=>refine' cx KX G RO.uy ?a ?l ?c ?k;(case a=>k_is);(case l=>k_is);(case c=>k_is);(case k=>k_is)
  case F16=>refine' cx KX G RO.qY ?a ?l ?c ?k;(case a=>k_is);(case l=>k_is);(case c=>k_is);(case k=>k_is)
  case F17=>refine' cx KX G RO.pO ?a ?l ?c ?k;(case a=>k_is);(case l=>k_is);(case c=>k_is);(case k=>k_is)
  case F18=>refine' cx KX G RO.qx ?a ?l ?c ?k;(case a=>k_is);(case l=>k_is);(case c=>k_is);(case k=>k_is)
  case F19=>refine' cx KX G RO.sS ?a ?l ?c ?k;(case a=>k_is);(case l=>k_is);(case c=>k_is);(case k=>k_is)
  case F20=>refine' cx KX G RO.lZ ?a ?l ?c ?k;(case a=>k_is);(case l=>k_is);(case c=>k_is);(case k=>k_is)
  case F21=>refine' cx KX G RO.oE ?a ?l ?c ?k;(case a=>k_is);(case l=>k_is);(case c=>k_is);(case k=>k_is)
  case F22=>refine' cx KX G RO.pI ?a ?l ?c ?k;(case a=>k_is);(case l=>k_is);(case c=>k_is);(case k=>k_is)
  case F23=>refine' cx KX G RO.qN ?a ?l ?c ?k;(case a=>k_is);(case l=>k_is);(case c=>k_is);(case k=>k_is)
  case F24=>refine' cx KX G RO.kT ?a ?l ?c ?k;(case a=>k_is);(case l=>k_is);(case c=>k_is);(case k=>k_is)
  case F25=>refine' cx KX G RO.sv ?a ?l ?c ?k;(case a=>k_is);(case l=>k_is);(case c=>k_is);(case k=>k_is)
  case a26=>k_is
  case l26=>k_is
  case c26=>k_is
  case k26=>k_is
  case zB=>kernel_rfl
  case yMOST_THINGS=>k_is
  case m0=>k_is
  case e0=>kernel_rfl

end
