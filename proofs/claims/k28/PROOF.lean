import PyProof.Rows.All
import Wide.All
import OpenK.AllK
import Wide.FinOn
import Lean
import PyProof.EqAt
import PyProof.EqKinds
import PyProof.TupleCall
import PySem.SetOps
import PyProof.SetKind
import PyProof.TupleKey
import PyProof.DictKinds
import PyProof.Rows.SetFrom
import PyProof.WalksMore
import KE.KSortTup
import PyProof.CollectWalk
import PyProof.ExcArgsOwn
import PyProof.Rows.CountFlat
import PyProof.Rows.SeqMore2
import PyProof.Rows.FStr
import PyProof.Rows.StrWeight2
import PyProof.Rows.StrNews
import PyProof.StrLawsTight
import PyProof.ExcBaseAll.ValueError
import PyProof.ZipIter
import PyProof.CallFns
import PyProof.Draws
import PyProof.EnumMake
import PyProof.SetRoads
import PyProof.Rows.SortWalk
import PyProof.SeqI3
import PyProof.Rows.SortShell
import PyProof.Rows.Range3
import KE.KStateDown
import PyProof.Rows.SumAny
import PyProof.ListRange
import PyProof.Rows.BitMore
import PySem.Challenge.RW_rowsorder_k28_whole_sharp_turns_do
set_option Elab.async false
set_option linter.all false
set_option maxRecDepth 100000
set_option maxHeartbeats 1000000
section
set_option Elab.async false
namespace L2
open PySem PySem.Spec PyProof.Rows
abbrev Key:=Sum Int Str
def Eo:Key->Value->Bool
 | .inl k,v=>Value.isInt k v
 | .inr x,v=>Value.isStrOf x v
def JX (w:World):Key->Int
 | .inl k=>hashInt k
 | .inr x=>hashStr w x
theorem bX:∀{k:Key} {v:Value},Eo k v=true->(∃i t,k=Sum.inl i/\v=Value.int i t)\/(∃x t,k=Sum.inr x/\v=Value.str x t)
 | .inl i,v,h=>by
  obtain⟨t,e⟩:=Value.isInt_shape (k:=i) (v:=v) h
  exact .inl ⟨i,t,rfl,e⟩
 | .inr x,v,h=>by
  obtain⟨t,e⟩:=Value.isStrOf_shape (x:=x) (v:=v) h
  exact .inr ⟨x,t,rfl,e⟩
theorem Gb (a b:Int):decide ((Sum.inl a:Key)=Sum.inl b)=(a == b):=by
 by_cases e:a=b
 ·subst e;simp
 ·have h:¬(Sum.inl a:Key)=Sum.inl b:=fun q=>e (Sum.inl.inj q)
  rw[decide_eq_false h]
  exact (beq_eq_false_iff_ne.mpr e).symm
theorem GJ (a b:Str):decide ((Sum.inr a:Key)=Sum.inr b)=decide (a=b):=by
 by_cases e:a=b
 ·subst e;simp
 ·have h:¬(Sum.inr a:Key)=Sum.inr b:=fun q=>e (Sum.inr.inj q)
  rw[decide_eq_false h,decide_eq_false e]
theorem E3 (a:Int)(b:Str):decide ((Sum.inl a:Key)=Sum.inr b)=false:=decide_eq_false (fun q=>nomatch q)
theorem Gk (a:Str)(b:Int):decide ((Sum.inr a:Key)=Sum.inl b)=false:=decide_eq_false (fun q=>nomatch q)
def tf (prog:Program)(w:World):PySem.KeyKind prog w Key where
 is:=Eo
 hash:=JX w
 inj:=fun v a b ha hb=>by
  rcases bX ha with⟨i,t,rfl,rfl⟩ | ⟨x,t,rfl,rfl⟩
  ·rcases bX hb with⟨j,u,rfl,e⟩ | ⟨y,u,rfl,e⟩
   ·injection e with e1 _;rw[e1]
   ·exact nomatch e
  ·rcases bX hb with⟨j,u,rfl,e⟩ | ⟨y,u,rfl,e⟩
   ·exact nomatch e
   ·injection e with e1 _;rw[e1]
 byValue:=fun k v h=>by
  rcases bX h with⟨i,t,rfl,rfl⟩ | ⟨x,t,rfl,rfl⟩ <;> rfl
 pyHash:=fun hv h=>by
  rcases bX hv with⟨i,t,rfl,rfl⟩ | ⟨x,t,rfl,rfl⟩
  ·exact wpAny_pyHash_int h
  ·exact wpAny_pyHash_str h
 eqBool:=fun hu hv h=>by
  rcases bX hu with⟨i,t,rfl,rfl⟩ | ⟨x,t,rfl,rfl⟩
  ·rcases bX hv with⟨j,u,rfl,rfl⟩ | ⟨y,u,rfl,rfl⟩
   ·rw[Gb] at h;exact wpAny_eqBool_int h
   ·rw[E3] at h;exact SeqAt.EqAt.int_str i t y u _ _ _ _ h
  ·rcases bX hv with⟨j,u,rfl,rfl⟩ | ⟨y,u,rfl,rfl⟩
   ·rw[Gk] at h;exact SeqAt.EqAt.str_int x t j u _ _ _ _ h
   ·rw[GJ] at h;exact wpAny_eqBool_str h
 «strs»:=fun k x t v h=>by
  rcases bX h with⟨i,u,rfl,e⟩ | ⟨y,u,rfl,e⟩
  ·exact nomatch e
  ·injection e with e1 _
   subst e1
   cases v <;> rfl
end L2
namespace L2
open PySem PySem.Spec PyProof.Rows
inductive V where
 |non |bl (b:Bool) |int (i:Int) |str (x:Str) |byt (b:Array UInt8) |flt (b:UInt64) |ref (a:Addr) |ty (n:String)
 deriving DecidableEq
def RelV:V->Value->Prop
 | .non,u=>u=Value.none
 | .bl b,u=>u=Value.bool b
 | .int i,u=>∃t,u=Value.int i t
 | .str x,u=>∃t,u=Value.str x t
 | .byt b,u=>∃t,u=Value.bytes b t
 | .flt b,u=>∃t,u=Value.float b t
 | .ref a,u=>u=Value.ref a
 | .ty n,u=>u=Value.type n
abbrev Vals:List V->List Value->Prop:=Paired RelV
theorem Vals.length {xs:List V}{us:List Value}(r:Vals xs us):xs.length=us.length:=Paired.length r
theorem Vals.get:∀{xs:List V} {us:List Value} {i:Nat} {x:V},Vals xs us->xs[i]? =some x->∃u,us[i]? =some u/\RelV x u
 |_,_,_,_,.nil,e=>by simp at e
 |_,_,0,_,.cons r _,e=>by simp at e;subst e;exact⟨_,rfl,r⟩
 |_,_,i + 1,x,.cons _ t,e=>by
  obtain⟨u,h1,h2⟩:=Vals.get (i:=i) (x:=x) t (by simpa using e)
  exact⟨u,by simpa using h1,h2⟩
theorem Vals.set {x:V}{u:Value}(r:RelV x u):∀{xs:List V} {us:List Value} (i:Nat),Vals xs us->Vals (xs.set i x) (us.set i u)
 |_,_,_,.nil=>.nil
 |_,_,0,.cons _ t=>.cons r t
 |_,_,i + 1,.cons q t=>.cons q (Vals.set r i t)
theorem Vals.append:∀{xs ys:List V} {us ws:List Value},Vals xs us->Vals ys ws->Vals (xs ++ ys) (us ++ ws)
 |_,_,_,_,.nil,s=>s
 |_,_,_,_,.cons r t,s=>.cons r (Vals.append t s)
theorem Vals.take:∀{xs:List V} {us:List Value} (n:Nat),Vals xs us->Vals (xs.take n) (us.take n)
 |_,_,0,_=>.nil
 |_,_,_ + 1,.nil=>.nil
 |_,_,n + 1,.cons r t=>.cons r (Vals.take n t)
theorem Vals.drop:∀{xs:List V} {us:List Value} (n:Nat),Vals xs us->Vals (xs.drop n) (us.drop n)
 |_,_,0,r=>r
 |_,_,_ + 1,.nil=>.nil
 |_,_,n + 1,.cons _ t=>Vals.drop n t
def EJ:Option V->Option Value->Prop
 |some v,some u=>RelV v u
 |none,none=>True
 |_,_=>False
def KV {κ:Type}:List (κ×V)->List (κ×Value)->Prop:=Paired fun (p:κ×V) (q:κ×Value)=>p.1=q.1/\RelV p.2 q.2
def kV:Key->V
 | .inl i=>.int i
 | .inr x=>.str x
inductive HO where
 |lst (xs:List V)
 |tup (xs:List V)
 |dK (kvs:List (Key×V)) |dT (kvs:List (List Key×V))
 |set (S:Int->Bool) (n:Nat)
 |ins (C dx:Addr) (fs:List (Str×V))
 |own (x:Addr)
 |xd (fs:List (Str×V))
 |met (f x:Addr)
 |eZ (lo hi:Int)
 |bo (o:Obj) (u:HO)
 |tbl (ps:Array Value)
 |ext (φ:Heap->Prop)
abbrev Hp:=Addr->Option HO
def upd (H:Hp)(a:Addr)(o:HO):Hp:=fun b=>if b=a then some o else H b
theorem az {H:Hp}{a:Addr}{o:HO}:upd H a o a=some o:=by unfold upd;rw[if_pos rfl]
theorem ay {H:Hp}{a b:Addr}{o:HO}(h:b≠a):upd H a o b=H b:=by unfold upd;rw[if_neg h]
theorem EH {H:Hp}{a b:Addr}{o u:HO}(h:H a=some o)(h':H b=some u)(d:o≠u):a≠b:=by
 intro e;subst e;rw[h] at h';exact d (Option.some.inj h')
theorem aK {H:Hp}{a b:Addr}{o:HO}(h:H a=some o)(h':H b=none):a≠b:=by
 intro e;subst e;rw[h] at h';cases h'
section
variable (P:Program)(w:World)
def rM (h:Heap)(a:Addr)(items:Array Value):Prop:=∃o,h.get? a=some o/\o.cls=.type "tuple"/\∃n,o.data=.seq items n/\o.dict=none
theorem rM.isTup {h:Heap}{a:Addr}{items:Array Value}(x:rM h a items):IsTup h a items:=let ⟨o,e,c,n,d,_⟩:=x;⟨o,e,c,n,d⟩
theorem rM.new (h:Heap)(items:Array Value):rM (h.push {cls:=.type "tuple",data:=.seq items}) h.objs.size items:=⟨_,Heap.get?_push_size _ rfl,rfl,_,rfl,rfl⟩
def cB (H:Hp)(h:Heap)(a:Addr):HO->Prop
 | .lst xs=>xs.length<=sizeLine/\∃(its:List Value) (n:Nat),Vals xs its/\h.get? a=some {cls:=.type "list",data:=.seq its.toArray n}
 | .tup xs=>xs.length<=sizeLine/\∃its:List Value,Vals xs its/\rM h a its.toArray
 | .dK kvs=>kvs.length<=sizeLine/\(a == sysModules)=false/\∃vs,KV kvs vs/\h.DictOf (tf P w) a vs
 | .dT kvs=>kvs.length<=sizeLine/\(a == sysModules)=false/\∃xs:List (List Key×Addr×Value),
   Paired (fun (p:List Key×V) (q:List Key×Addr×Value)=>p.1=q.1/\H q.2.1=some (.tup (p.1.map kV))/\RelV p.2 q.2.2) kvs xs/\
   ∃o es ep,h.get? a=some o/\o.ExactDict/\o.data=.dict es ep/\es.toList=xs.map (entryOfKey (tupleKind (tf P w)))/\(xs.map (·.1)).Nodup
 | .set S n=>h.SetOf (intKind P w) a S n
 | .ins C dx fs=>H dx=some (.own a)/\fs.length<=1000/\dx≠a/\h.get? a=some (PySem.W.instObj C dx)/\
   ∃mA,h.Ns1 dx mA/\(∀f,EJ (fs.lookup f) (mA f))/\PySem.Within mA (fs.map (·.1))
 | .own _=>∃o,h.get? a=some o
 | .xd fs=>∃mA,h.Ns1 a mA/\∀f,EJ (fs.lookup f) (mA f)
 | .eZ lo hi=>∃t u v,h.get? a=some {cls:=.type "range",data:=.fields #[.int lo t,.int hi u,.int 1 v]}
 | .bo o u=>h.get? a=some o/\cB H h a u
 | .tbl ps=>h.get? a=some {cls:=.none,data:=.fields ps}
 | .met f x=>h.get? a=some (PySem.W.methodObj (.ref f) (.ref x))
 | .ext φ=>φ h/\(∃o,h.get? a=some o)/\∀h1 h2:Heap,φ h1->(∀o,h1.get? a=some o->h2.get? a=some o)->φ h2
def lh (H:Hp)(h:Heap):Prop:=∀a o,H a=some o->cB P w H h a o
end
section
variable {P:Program}{w:World}{H H':Hp}{h h':Heap}{a:Addr}{o:HO}
theorem cB.lt (x:cB P w H h a o):a < h.objs.size:=by
 cases o with
 |lst xs=>obtain⟨_,_,_,_,e⟩:=x;exact Heap.lt_size e
 |tup xs=>obtain⟨_,_,_,p⟩:=x;exact p.isTup.lt
 |dK kvs=>obtain⟨_,_,_,_,o,_,_,e,_⟩:=x;exact Heap.lt_size e
 |dT kvs=>obtain⟨_,_,_,_,o,_,_,e,_⟩:=x;exact Heap.lt_size e
 |set S n=>obtain⟨o,_,_,_,e,_⟩:=x;exact Heap.lt_size e
 |ins C dx fs=>obtain⟨_,_,_,e,_⟩:=x;exact Heap.lt_size e
 |own y=>obtain⟨_,e⟩:=x;exact Heap.lt_size e
 |xd fs=>obtain⟨_,⟨_,_,_,e,_⟩,_⟩:=x;exact Heap.lt_size e
 |eZ lo hi=>obtain⟨_,_,_,e⟩:=x;exact Heap.lt_size e
 |bo ob u=>obtain⟨e,_⟩:=x;exact Heap.lt_size e
 |tbl ps=>exact Heap.lt_size (show h.get? a=some _ from x)
 |met f y=>exact Heap.lt_size (show h.get? a=some _ from x)
 |ext φ=>obtain⟨_,⟨_,e⟩,_⟩:=x;exact Heap.lt_size e
theorem Paired.mapP {α β:Type}{F G:α->β->Prop}:∀{l₁:List α} {l₂:List β},Paired F l₁ l₂->(∀a b,F a b->G a b)->Paired G l₁ l₂
 |_,_,.nil,_=>.nil
 |_,_,.cons r t,f=>.cons (f _ _ r) (Paired.mapP t f)
theorem cB.stay (x:cB P w H h a o)(k:∀b u,(b=a\/H b=some (.own a))->h.get? b=some u->h'.get? b=some u)
  (ho:∀b,H b=some (.own a)->H' b=some (.own a)) (ht:∀b xs,H b=some (.tup xs)->H' b=some (.tup xs)):cB P w H' h' a o:=by
 induction o with
 |lst xs=>obtain⟨z,its,n,r,e⟩:=x;exact⟨z,its,n,r,k _ _ (.inl rfl) e⟩
 |tup xs=>obtain⟨z,its,r,ob,e,c⟩:=x;exact⟨z,its,r,ob,k _ _ (.inl rfl) e,c⟩
 |dK kvs=>obtain⟨z,y,vs,r,ob,es,ep,e,c⟩:=x;exact⟨z,y,vs,r,ob,es,ep,k _ _ (.inl rfl) e,c⟩
 |dT kvs=>
  obtain⟨z,y,xs,r,ob,es,ep,e,c⟩:=x
  exact⟨z,y,xs,Paired.mapP r fun p q z=>⟨z.1,ht _ _ z.2.1,z.2.2⟩,ob,es,ep,k _ _ (.inl rfl) e,c⟩
 |set S n=>obtain⟨ob,es,ep,t,e,c⟩:=x;exact⟨ob,es,ep,t,k _ _ (.inl rfl) e,c⟩
 |ins C dx fs=>
  obtain⟨d,z,ne,e,mA,⟨od,es,ep,e2,c⟩,r⟩:=x
  exact⟨ho _ d,z,ne,k _ _ (.inl rfl) e,mA,⟨od,es,ep,k _ _ (.inr d) e2,c⟩,r⟩
 |own y=>obtain⟨ob,e⟩:=x;exact⟨ob,k _ _ (.inl rfl) e⟩
 |xd fs=>obtain⟨mA,⟨od,es,ep,e,c⟩,r⟩:=x;exact⟨mA,⟨od,es,ep,k _ _ (.inl rfl) e,c⟩,r⟩
 |eZ lo hi=>obtain⟨t,u,v,e⟩:=x;exact⟨t,u,v,k _ _ (.inl rfl) e⟩
 |bo ob u ih=>obtain⟨e,q⟩:=x;exact⟨k _ _ (.inl rfl) e,ih q⟩
 |tbl ps=>
  have e:h.get? a=some {cls:=.none,data:=.fields ps}:=x
  show h'.get? a=some {cls:=.none,data:=.fields ps}
  exact k a _ (.inl rfl) e
 |met f y=>
  have e:h.get? a=some (PySem.W.methodObj (.ref f) (.ref y)):=x
  show h'.get? a=some (PySem.W.methodObj (.ref f) (.ref y))
  exact k a _ (.inl rfl) e
 |ext φ=>obtain⟨p,⟨o,e⟩,st⟩:=x;exact⟨st _ _ p fun o q=>k _ _ (.inl rfl) q,⟨o,k _ _ (.inl rfl) e⟩,st⟩
theorem lh.lt (x:lh P w H h)(e:H a=some o):a < h.objs.size:=(x a o e).lt
theorem lh.fresh (x:lh P w H h)(e:h.objs.size<=a):H a=none:=by
 cases q:H a with
 |none=>rfl
 |some u=>exact absurd (Nat.lt_of_lt_of_le (x.lt q) e) (Nat.lt_irrefl _)
theorem lh.kept (x:lh P w H h)(k:∀b u,h.get? b=some u->h'.get? b=some u):lh P w H h':=fun a o e=>
 (x a o e).stay (fun b u _ q=>k b u q) (fun _ q=>q) fun _ _ q=>q
theorem lh.laid (x:lh P w H h)(k:∀b u,h.get? b=some u->h'.get? b=some u)(hp:h.objs.size<=a)(new:cB P w (upd H a o) h' a o):lh P w (upd H a o) h':=fun b u e=>by
 have hn:=x.fresh hp
 by_cases hb:b=a
 ·subst hb;rw[az] at e;cases e;exact new
 ·rw[ay hb] at e
  exact (x b u e).stay (fun c v _ q=>k c v q) (fun c q=>by rw[ay (aK q hn)];exact q) fun c xs q=>by rw[ay (aK q hn)];exact q
end
def Rd (H:Hp)(a:Addr)(u:HO):Prop:=H a=some u\/∃o,H a=some (.bo o u)
theorem Rd.ok {P:Program}{w:World}{H:Hp}{h:Heap}{a:Addr}{u:HO}(r:Rd H a u)(x:lh P w H h):cB P w H h a u:=by
 rcases r with r | ⟨o,r⟩
 ·exact x a u r
 ·obtain⟨_,q⟩:=x a _ r
  exact q
def ID:Option HO->Prop
 |some (.lst _)=>True
 |some (.dK _)=>True
 |some (.dT _)=>True
 |some (.set _ _)=>True
 |some (.ins _ _ _)=>True
 |some (.ext _)=>True
 |_=>False
section
variable {P:Program}{w:World}{H:Hp}{h h':Heap}{x e:Addr}{o':HO}
theorem lh.write (ok:lh P w H h)(mu:ID (H x))(he:e=x\/H e=some (.own x))(k:∀b u,b≠e->h.get? b=some u->h'.get? b=some u)(heo:∃u,h'.get? e=some u)
  (new:cB P w (upd H x o') h' x o'):lh P w (upd H x o') h':=fun b u q=>by
 have nown:∀c y,H c=some (.own y)->c≠x:=fun c y r z=>by subst z;rw[r] at mu;exact mu
 have ntup:∀c xs,H c=some (.tup xs)->c≠x:=fun c xs r z=>by subst z;rw[r] at mu;exact mu
 by_cases hb:b=x
 ·subst hb;rw[az] at q;cases q;exact new
 ·rw[ay hb] at q
  by_cases hbe:b=e
  ·have q':H b=some (.own x):=by
    rcases he with z |z
    ·exact absurd (hbe.trans z) hb
    ·rw[hbe];exact z
   rw[q] at q';cases q'
   obtain⟨v,hv⟩:=heo
   exact⟨v,by rw[hbe];exact hv⟩
  ·refine (ok b u q).stay (fun c v hc r=>k c v ?_ r) (fun c r=>by rw[ay (nown c b r)];exact r) fun c xs r=>by rw[ay (ntup c xs r)];exact r
   rcases hc with rfl |hc
   ·exact hbe
   ·rintro rfl
    rcases he with z |z
    ·exact nown c b hc z
    ·rw[hc] at z;cases z;exact hb rfl
end
structure Un (fs ex:List Addr)(H H':Hp)(h h':Heap):Prop where
 keep:∀b o,h.get? b=some o->H b=none->b∉fs->b∉ex->h'.get? b=some o
 slot:∀b o,h.get? b=some o->H b=none->b∈fs->b∉ex->∃sl,h'.get? b=some {o with slots:=sl}
 free:∀b o,h.get? b=some o->H b=none->b∉ex->H' b=none
 there:∀b o,h.get? b=some o->b∉ex->∃o',h'.get? b=some o'
 tups:∀b xs,H b=some (.tup xs)->H' b=some (.tup xs)
 frzs:∀b o u,H b=some (.bo o u)->H' b=some (.bo o u)
 tbls:∀b ps,H b=some (.tbl ps)->∃more,H' b=some (.tbl (ps ++ more))
section
variable {fs fs' ex ex':List Addr}{H H1 H2:Hp}{h h1 h2 h':Heap}{a x e:Addr}{o:HO}
theorem Un.any (u:Un fs ex H H1 h h1){b:Addr}{ob:Obj}(q:h.get? b=some ob)(n:H b=none)(hx:b∉ex):∃sl,h1.get? b=some {ob with slots:=sl}:=by
 by_cases hb:b∈fs
 ·exact u.slot b ob q n hb hx
 ·exact⟨ob.slots,u.keep b ob q n hb hx⟩
theorem Un.kept (k:∀b u,h.get? b=some u->h'.get? b=some u):Un fs ex H H h h':=
 ⟨fun b ob q _ _ _=>k b ob q,fun b ob q _ _ _=>⟨ob.slots,k b ob q⟩,fun _ _ _ n _=>n,fun b ob q _=>⟨ob,k b ob q⟩,fun _ _ q=>q,fun _ _ _ q=>q,fun _ ps q=>⟨#[],by rw[q];simp⟩⟩
theorem Un.refl:Un fs ex H H h h:=Un.kept fun _ _ q=>q
theorem Un.laid (k:∀b u,h.get? b=some u->h'.get? b=some u)(hp:h.objs.size<=a)(hn:H a=none):Un fs ex H (upd H a o) h h' where
 keep:=fun b u q _ _ _=>k b u q
 slot:=fun b u q _ _ _=>⟨u.slots,k b u q⟩
 free:=fun b u q n _=>by rw[ay (Nat.ne_of_lt (Nat.lt_of_lt_of_le (Heap.lt_size q) hp))];exact n
 there:=fun b u q _=>⟨u,k b u q⟩
 tups:=fun b xs q=>by rw[ay (aK q hn)];exact q
 frzs:=fun b u xs q=>by rw[ay (aK q hn)];exact q
 tbls:=fun b ps q=>⟨#[],by rw[ay (aK q hn),q];simp⟩
theorem Un.write (mu:ID (H x))(he:e=x\/H e=some (.own x))(k:∀b u,b≠e->h.get? b=some u->h'.get? b=some u)(heo:∃u,h'.get? e=some u):Un fs ex H (upd H x o) h h':=by
 have hx:∀b,H b=none->b≠x:=fun b n z=>by subst z;rw[n] at mu;exact mu
 have hb:∀b,H b=none->b≠e:=fun b n z=>by
  subst z
  rcases he with r |r
  ·exact hx b n r
  ·rw[n] at r;cases r
 have hm:∀b u,H b=some u->¬ID (some u)->b≠x:=fun b u q nm z=>by subst z;rw[q] at mu;exact nm mu
 refine⟨fun b u q n _ _=>k b u (hb b n) q,fun b u q n _ _=>⟨u.slots,k b u (hb b n) q⟩,fun b u q n _=>by rw[ay (hx b n)];exact n,fun b u q _=>?_,
  fun b xs q=>by rw[ay (hm b _ q fun z=>z)];exact q,fun b u xs q=>by rw[ay (hm b _ q fun z=>z)];exact q,fun b ps q=>⟨#[],by rw[ay (hm b _ q fun z=>z),q];simp⟩⟩
 by_cases hbe:b=e
 ·subst hbe;exact heo
 ·exact⟨u,k b u hbe q⟩
end
def IM (h:Heap)(H:Hp):List Addr:=(List.range h.objs.size).filter fun a=>(H a).isSome
def sD (h:Heap)(H:Hp):Heap:=PySem.W.hideAll h (IM h H)
theorem yG (h:Heap)(H:Hp):(sD h H).objs.size=h.objs.size:=PySem.W.hideAll_size _ _
theorem Ab {h:Heap}{H:Hp}{b:Addr}{o:Obj}(e:h.get? b=some o)(n:H b=none):(sD h H).get? b=some o:=
 PySem.W.hideAll_get _ e fun hm=>by
  have q:(H b).isSome=true:=(List.mem_filter.mp hm).2
  rw[n] at q;simp at q
theorem C0 {h:Heap}{H:Hp}{b:Addr}{o:Obj}(e:(sD h H).get? b=some o):h.get? b=some o/\H b=none:=by
 have e':h.get? b=some o:=PySem.W.of_hideAll (IM h H) e
 refine⟨e',?_⟩
 cases q:H b with
 |none=>rfl
 |some x=>
  have hm:b∈IM h H:=List.mem_filter.mpr ⟨List.mem_range.mpr (Heap.lt_size e'),by simp[q]⟩
  have z:(sD h H).get? b=none:=PySem.W.hideAll_none (IM h H) hm
  rw[z] at e;cases e
def D7 (g h:Heap)(L:Addr):List (Addr×Obj):=(List.range h.objs.size).filterMap fun a=>if a=L\/(g.get? a).isSome=true then none else (h.get? a).map fun o=>(a,o)
def rest (g h:Heap)(L d:Addr):List (Addr×Obj):=(D7 g h L).filter fun p=>decide (p.1≠d)
end L2
namespace L2
open PySem PySem.Spec PyProof.Rows
structure Mod (K:PySem.W.Frag)(mg:Str->Option Value)(base:Heap):Prop where
 kin:K.In base
 glob:base.Ns mainGlobals mg
 blt:∃mb,base.Ns builtinsNs mb/\∀x:Str,x≠"__name__"->mb x=bootBuiltins x
 nolimit:base.NoLimit
 sys:∃mm,base.Ns sysModules mm
structure Cx where
 prog:Program
 w:World
 K:PySem.W.Frag
 mg:Str->Option Value
 base:Heap
 A:Around
 N:List Str
 s₀:Shared
 H₀:Hp
 env:Env
 outer:List Env
 stack:List Env
 ex:List Addr
 fn:Str->Bool
 calm:Bool
 pn:List (Addr×Obj)
 xe:Value->Shared->Prop
def iO (l:List Env):List Addr:=l.filterMap (·.frame)
abbrev Cx.fs (X:Cx):List Addr:=iO X.outer
def zS (sc:Scope)(x:Str):Prop:=sc.names.lookup x=some .local\/sc.names.lookup x=some .cell\/sc.names.lookup x=some .free
def Loc (sc:Scope)(x:Str):Prop:=sc.names.lookup x=some .local\/sc.names.lookup x=some .cell
def Look (env:Env)(h:Heap)(m:Str->Option Value)(x:Str)(u:Value):Prop:=
 (env.kindOf x=some .local/\m x=some u)\/((env.kindOf x=some .cell\/env.kindOf x=some .free)/\∃c,env.cells.lookup x=some c/\h.IsCell c (some u))
structure Cx.Ok (X:Cx):Prop where
 mod:Mod X.K X.mg X.base
 kind:X.env.scope.kind=.function
 glob:X.env.globals=mainGlobals
 blt:X.env.builtins=builtinsNs
 above:X.s₀.heap.objs.size<=X.env.locals
 inj:∀x y c,X.env.cells.lookup x=some c->X.env.cells.lookup y=some c->x=y
 has:∀x,(X.env.kindOf x=some .cell\/X.env.kindOf x=some .free)->∃c,X.env.cells.lookup x=some c
 cab:∀x c,X.fn x=true->X.env.cells.lookup x=some c->X.s₀.heap.objs.size<=c
 hd:X.calm=true->X.A.handled=none
 frames:X.A.frames=some X.stack
 stk:X.stack=X.outer\/(X.stack=X.env :: X.outer/\X.env.frame=some X.env.locals)
 exf:∀b∈X.ex,b≠X.env.locals/\∀x c,X.env.cells.lookup x=some c->c≠b
 bs:∀b o,X.base.get? b=some o->X.s₀.heap.get? b=some o/\X.H₀ b=none
 bsz:X.base.objs.size<=X.s₀.heap.objs.size
 noex:∀b o,X.base.get? b=some o->b∉X.ex
 exfs:∀b∈X.ex,b∉X.fs
 funs:X.s₀.heap.FunFrames X.base X.outer
 frf:∀b∈X.fs,X.H₀ b=none
structure Inv (X:Cx)(pins:List (Addr×Obj))(σ:List (Option V))(H:Hp)(s:Shared):Prop where
 ok:X.Ok
 os:s.os=X.s₀.os
 bare:AllBare s.gens
 base:Un X.fs X.ex X.H₀ H X.s₀.heap s.heap
 loc:∃m,s.heap.Ns X.env.locals m/\∀(i:Nat) (x:Str) (v:V),X.N[i]? =some x->σ[i]? =some (some v)->zS X.env.scope x->∃u,RelV v u/\Look X.env s.heap m x u
 cell:∀x c,X.env.cells.lookup x=some c->∃v,s.heap.IsCell c v
 free:H X.env.locals=none
 freeC:∀x c,X.env.cells.lookup x=some c->H c=none
 pin:∀p∈X.pn ++ pins,s.heap.get? p.1=some p.2/\H p.1=none/\p.1≠X.env.locals/\p.1∉X.fs/\∀v,p.2.data≠.cell v
 hok:lh X.prog X.w H s.heap
 len:σ.length=X.N.length
section
variable {X:Cx}{pins:List (Addr×Obj)}{σ:List (Option V)}{H H':Hp}{s:Shared}{h':Heap}
theorem Cx.Ok.nofr (ok:X.Ok){b:Addr}{o:Obj}(e:X.base.get? b=some o):b∉X.fs:=fun hb=>by
 have:=(ok.funs.mem hb).1
 rw[e] at this;cases this
theorem Inv.bs (I:Inv X pins σ H s):∀b o,X.base.get? b=some o->s.heap.get? b=some o/\H b=none:=fun b o e=>
 ⟨I.base.keep b o (I.ok.bs b o e).1 (I.ok.bs b o e).2 (I.ok.nofr e) (I.ok.noex b o e),I.base.free b o (I.ok.bs b o e).1 (I.ok.bs b o e).2 (I.ok.noex b o e)⟩
theorem Inv.bk (I:Inv X pins σ H s):∀b o,X.base.get? b=some o->s.heap.get? b=some o:=fun b o e=>(I.bs b o e).1
theorem Inv.mod (I:Inv X pins σ H s):Mod X.K X.mg X.base:=I.ok.mod
theorem Inv.kIn (I:Inv X pins σ H s):X.K.In s.heap:=I.ok.mod.kin.keeps I.bk
theorem Inv.lt (I:Inv X pins σ H s):X.env.locals < s.heap.objs.size:=let ⟨_,hn,_⟩:=I.loc;hn.lt
theorem Inv.sz (I:Inv X pins σ H s):X.s₀.heap.objs.size<=s.heap.objs.size:=Nat.le_trans I.ok.above (Nat.le_of_lt I.lt)
theorem Inv.nofs (I:Inv X pins σ H s){a:Addr}(h:s.heap.objs.size<=a):a∉X.fs:=fun hb=>by
 obtain⟨_,o,ho,_⟩:=I.ok.funs.mem hb
 exact absurd (Nat.lt_of_lt_of_le (Heap.lt_size ho) (Nat.le_trans I.sz h)) (Nat.lt_irrefl _)
theorem Inv.cne (I:Inv X pins σ H s):∀x c,X.env.cells.lookup x=some c->c≠X.env.locals:=fun x c e z=>by
 obtain⟨v,o,ho,hd⟩:=I.cell x c e
 obtain⟨m,⟨o',es,ep,ho',hd',_⟩,_⟩:=I.loc
 rw[z,ho'] at ho;cases ho;rw[hd'] at hd;cases hd
theorem Inv.funs (I:Inv X pins σ H s):s.heap.FunFrames X.base X.outer:=by
 have all:∀(l:List Env),(∀b∈iO l,b∈X.fs)->X.s₀.heap.FunFrames X.base l->s.heap.FunFrames X.base l:=by
  intro l
  induction l with
  |nil=>intro _ _;trivial
  |cons env r ih=>
   intro hs hl
   obtain⟨hk,⟨L,o,hf,hn,ho,hd⟩,hr⟩:=hl
   have hL:L∈X.fs:=hs L (by unfold iO;rw[List.filterMap_cons,hf];exact List.mem_cons_self)
   obtain⟨sl,e⟩:=I.base.slot L o ho (I.ok.frf L hL) hL fun z=>I.ok.exfs L z hL
   exact⟨hk,⟨L,_,hf,hn,e,hd⟩,ih (fun b hb=>hs b (by unfold iO;rw[List.filterMap_cons,hf];exact List.mem_cons_of_mem _ hb)) hr⟩
 exact all X.outer (fun _ hb=>hb) I.ok.funs
theorem Inv.stack (I:Inv X pins σ H s):s.heap.FunFrames X.base X.stack:=by
 rcases I.ok.stk with e | ⟨e,hf⟩
 ·rw[e];exact I.funs
 ·rw[e]
  obtain⟨m,hn,_⟩:=I.loc
  refine .cons (by rw[I.ok.kind];decide) hf hn ?_ I.funs
  exact Heap.get?_none_of_le (Nat.le_trans I.ok.bsz I.ok.above)
theorem Inv.stkSub (I:Inv X pins σ H s):∀b∈iO X.stack,b∈X.env.locals :: X.fs:=fun b hb=>by
 rcases I.ok.stk with e | ⟨e,hf⟩
 ·rw[e] at hb;exact List.mem_cons_of_mem _ hb
 ·rw[e] at hb
  unfold iO at hb
  rw[List.filterMap_cons,hf] at hb
  exact hb
theorem Inv.stkFree (I:Inv X pins σ H s):∀b∈iO X.stack,H b=none:=fun b hb=>by
 rcases List.mem_cons.mp (I.stkSub b hb) with e |hb
 ·rw[e];exact I.free
 ·obtain⟨_,o,ho,_⟩:=I.ok.funs.mem hb
  exact I.base.free b o ho (I.ok.frf b hb) fun z=>I.ok.exfs b z hb
theorem Inv.step {g':Array GenState}{t':Nat}{d':Drawn}{ch:List Addr}(I:Inv X pins σ H s)
  (hch:∀b∈ch,(b∈X.ex\/X.s₀.heap.objs.size<=b)/\b≠X.env.locals/\(∀x c,X.env.cells.lookup x=some c->c≠b)/\∀p∈X.pn ++ pins,p.1≠b)
  (keep:∀b o,b≠X.env.locals->b∉X.fs->b∉ch->s.heap.get? b=some o->H b=none->h'.get? b=some o)
  (slot:∀b o,b≠X.env.locals->b∈X.fs->b∉ch->s.heap.get? b=some o->H b=none->∃sl,h'.get? b=some {o with slots:=sl}) (free:∀b o,b∉ch->s.heap.get? b=some o->H b=none->H' b=none)
  (there:∀b o,b∉ch->s.heap.get? b=some o->∃o',h'.get? b=some o')
  (tups:∀b xs,H b=some (.tup xs)->H' b=some (.tup xs)) (frzs:∀b o u,H b=some (.bo o u)->H' b=some (.bo o u)) (tbls:∀b ps,H b=some (.tbl ps)->∃more,H' b=some (.tbl (ps ++ more)))
  (ns:∀m,s.heap.Ns X.env.locals m->h'.Ns X.env.locals m) (hok:lh X.prog X.w H' h') (hg:AllBare g') :
  Inv X pins σ H' {s with heap:=h',gens:=g',drawn:=d',toks:=t'}:=by
 have neL:∀b o,X.s₀.heap.get? b=some o->b≠X.env.locals:=fun b o e=>Nat.ne_of_lt (Nat.lt_of_lt_of_le (Heap.lt_size e) I.ok.above)
 have neC:∀b o,X.s₀.heap.get? b=some o->b∉X.ex->b∉ch:=fun b o e hx hb=>by
  rcases (hch b hb).1 with z |z
  ·exact hx z
  ·exact absurd (Nat.lt_of_lt_of_le (Heap.lt_size e) z) (Nat.lt_irrefl _)
 have cellK:∀x c,X.env.cells.lookup x=some c->∀v,s.heap.IsCell c v->h'.IsCell c v:=fun x c e v ⟨o,ho,hd⟩=>by
  have nch:c∉ch:=fun z=>(hch c z).2.2.1 x c e rfl
  by_cases hc:c∈X.fs
  ·obtain⟨sl,q⟩:=slot c o (I.cne x c e) hc nch ho (I.freeC x c e)
   exact⟨_,q,hd⟩
  ·exact⟨o,keep c o (I.cne x c e) hc nch ho (I.freeC x c e),hd⟩
 refine⟨I.ok,I.os,hg,⟨fun b o e n hb hx=>?_,fun b o e n hb hx=>?_,fun b o e n hx=>?_,fun b o e hx=>?_,fun b xs e=>tups b xs (I.base.tups b xs e),fun b o xs e=>frzs b o xs (I.base.frzs b o xs e),fun b ps e=>?_⟩,?_,fun x c e=>?_,?_,fun x c e=>?_,fun p hp=>?_,hok,I.len⟩
 ·exact keep b o (neL b o e) hb (neC b o e hx) (I.base.keep b o e n hb hx) (I.base.free b o e n hx)
 ·obtain⟨sl,e1⟩:=I.base.slot b o e n hb hx
  obtain⟨sl',e2⟩:=slot b _ (neL b o e) hb (neC b o e hx) e1 (I.base.free b o e n hx)
  exact⟨sl',e2⟩
 ·obtain⟨o',e1⟩:=I.base.there b o e hx
  exact free b o' (neC b o e hx) e1 (I.base.free b o e n hx)
 ·obtain⟨o',e1⟩:=I.base.there b o e hx
  exact there b o' (neC b o e hx) e1
 ·obtain⟨m1,e1⟩:=I.base.tbls b ps e
  obtain⟨m2,e2⟩:=tbls b _ e1
  exact⟨m1 ++ m2,by rw[e2,Array.append_assoc]⟩
 ·obtain⟨m,hn,hl⟩:=I.loc
  refine⟨m,ns m hn,fun i x v e1 e2 e3=>?_⟩
  obtain⟨u,r,l⟩:=hl i x v e1 e2 e3
  refine⟨u,r,?_⟩
  rcases l with l | ⟨k,c,e,z⟩
  ·exact .inl l
  ·exact .inr ⟨k,c,e,cellK x c e _ z⟩
 ·obtain⟨v,z⟩:=I.cell x c e
  exact⟨v,cellK x c e v z⟩
 ·obtain⟨m,⟨o,_,_,ho,_⟩,_⟩:=I.loc
  exact free _ o (fun z=>(hch _ z).2.1 rfl) ho I.free
 ·obtain⟨v,o,ho,hd⟩:=I.cell x c e
  exact free c o (fun z=>(hch c z).2.2.1 x c e rfl) ho (I.freeC x c e)
 ·obtain⟨e,n,ne,nf,d⟩:=I.pin p hp
  have nch:p.1∉ch:=fun z=>(hch p.1 z).2.2.2 p hp rfl
  exact⟨keep p.1 p.2 ne nf nch e n,free p.1 p.2 nch e n,ne,nf,d⟩
theorem Inv.un {t':Nat}(I:Inv X pins σ H s)(u:Un X.fs [] H H' s.heap h')(hok:lh X.prog X.w H' h'):Inv X pins σ H' {s with heap:=h',toks:=t'}:=by
 obtain⟨m,⟨o,es,ep,ho,r⟩,_⟩:=id I.loc
 obtain⟨sl,hL⟩:=u.any ho I.free (by simp)
 exact I.step (g':=s.gens) (d':=s.drawn) (ch:=[]) (fun _ z=>nomatch z) (fun b o _ hb _ e n=>u.keep b o e n hb (by simp)) (fun b o _ hb _ e n=>u.slot b o e n hb (by simp)) (fun b o _ e n=>u.free b o e n (by simp)) (fun b o _ e=>u.there b o e (by simp)) u.tups u.frzs u.tbls (fun m' hm=>by
  obtain⟨o',es',ep',ho',r'⟩:=hm
  rw[ho] at ho';cases ho'
  exact⟨_,es',ep',hL,r'⟩) hok I.bare
theorem Inv.call {g':Array GenState}{t':Nat}{d':Drawn}{ch:List Addr}(I:Inv X pins σ H s)(u:Un (iO X.stack) ch H H' s.heap h')(hok:lh X.prog X.w H' h')(hg:AllBare g')
  (hch:∀b∈ch,(b∈X.ex\/X.s₀.heap.objs.size<=b)/\b≠X.env.locals/\(∀x c,X.env.cells.lookup x=some c->c≠b)/\∀p∈X.pn ++ pins,p.1≠b) :
  Inv X pins σ H' {s with heap:=h',gens:=g',drawn:=d',toks:=t'}:=by
 obtain⟨m,⟨o,es,ep,ho,r⟩,_⟩:=id I.loc
 obtain⟨sl,hL⟩:=u.any ho I.free fun z=>(hch _ z).2.1 rfl
 exact I.step (ch:=ch) hch (fun b o hL hb hc e n=>u.keep b o e n (fun z=>(List.mem_cons.mp (I.stkSub b z)).elim hL hb) hc) (fun b o _ _ hc e n=>u.any e n hc) (fun b o hc e n=>u.free b o e n hc) (fun b o hc e=>u.there b o e hc) u.tups u.frzs u.tbls (fun m' hm=>by
  obtain⟨o',es',ep',ho',r'⟩:=hm
  rw[ho] at ho';cases ho'
  exact⟨_,es',ep',hL,r'⟩) hok hg
theorem Inv.turned {t':Nat}{it:Addr}(I:Inv X pins σ H s)(k:∀b o,b≠it->s.heap.get? b=some o->h'.get? b=some o)(hn:H it=none)(hL:it≠X.env.locals)
  (h1:it∈X.ex\/X.s₀.heap.objs.size<=it) (h2:∀x c,X.env.cells.lookup x=some c->c≠it) (h3:∀p∈X.pn ++ pins,p.1≠it):Inv X pins σ H {s with heap:=h',toks:=t'}:=by
 have nit:∀b u,H b=some u->b≠it:=fun b u e z=>by rw[z,hn] at e;cases e
 refine I.step (g':=s.gens) (d':=s.drawn) (ch:=[it]) (fun b hb=>?_) (fun b o _ _ hc e _=>k b o (fun z=>hc (by simp[z])) e) (fun b o _ _ hc e _=>⟨o.slots,k b o (fun z=>hc (by simp[z])) e⟩) (fun _ _ _ _ n=>n)
  (fun b o hc e=>⟨o,k b o (fun z=>hc (by simp[z])) e⟩) (fun _ _ e=>e) (fun _ _ _ e=>e) (fun b ps e=>⟨#[],by rw[e];simp⟩) (fun m hm=>?_) (fun b u e=>?_) I.bare
 ·have e:b=it:=by simpa using hb
  subst e
  exact⟨h1,hL,h2,h3⟩
 ·obtain⟨o,es,ep,ho,r⟩:=hm
  exact⟨o,es,ep,k _ o (Ne.symm hL) ho,r⟩
 ·refine (I.hok b u e).stay (fun c v hc q=>k c v ?_ q) (fun _ q=>q) fun _ _ q=>q
  rcases hc with z |z
  ·rw[z];exact nit b u e
  ·exact nit c _ z
theorem Inv.tok (I:Inv X pins σ H s)(t:Nat):Inv X pins σ H {s with toks:=t}:=I.un (h':=s.heap) (t':=t) Un.refl I.hok
theorem Inv.kept {t':Nat}(I:Inv X pins σ H s)(k:∀b u,s.heap.get? b=some u->h'.get? b=some u):Inv X pins σ H {s with heap:=h',toks:=t'}:=I.un (Un.kept k) (I.hok.kept k)
theorem Inv.laid {a:Addr}{o:HO}{t':Nat}(I:Inv X pins σ H s)(k:∀b u,s.heap.get? b=some u->h'.get? b=some u)(hp:s.heap.objs.size<=a)(new:cB X.prog X.w (upd H a o) h' a o) :
  Inv X pins σ (upd H a o) {s with heap:=h',toks:=t'}:=I.un (Un.laid k hp (I.hok.fresh hp)) (I.hok.laid k hp new)
theorem Inv.write {x e:Addr}{o:HO}{t':Nat}(I:Inv X pins σ H s)(mu:ID (H x))(he:e=x\/H e=some (.own x))(k:∀b u,b≠e->s.heap.get? b=some u->h'.get? b=some u)(heo:∃u,h'.get? e=some u)
  (new:cB X.prog X.w (upd H x o) h' x o):Inv X pins σ (upd H x o) {s with heap:=h',toks:=t'}:=I.un (Un.write mu he k heo) (I.hok.write mu he k heo new)
theorem Inv.pins_of {pins':List (Addr×Obj)}(I:Inv X pins σ H s)(h:∀p∈pins',s.heap.get? p.1=some p.2/\H p.1=none/\p.1≠X.env.locals/\p.1∉X.fs/\∀v,p.2.data≠.cell v):Inv X pins' σ H s:=
 ⟨I.ok,I.os,I.bare,I.base,I.loc,I.cell,I.free,I.freeC,fun p hp=>(List.mem_append.mp hp).elim (fun z=>I.pin p (List.mem_append_left _ z)) (h p),I.hok,I.len⟩
theorem tT {N:List Str}(hN:N.Nodup){i j:Nat}{x:Str}(a:N[i]? =some x)(b:N[j]? =some x):i=j:=by
 obtain⟨h1,e1⟩:=List.getElem?_eq_some_iff.mp a
 obtain⟨h2,e2⟩:=List.getElem?_eq_some_iff.mp b
 exact (List.getElem_inj hN).mp (e1.trans e2.symm)
theorem qS {M:Model}{A:Around}{E:Value->Shared->Prop}{i:Nat}{x:Str}{v:V}{u:Value}{Q:Unit->Shared->Prop}(I:Inv X pins σ H s)(hN:X.N.Nodup)(hi:X.N[i]? =some x)(hx:Loc X.env.scope x)(r:RelV v u)
  (h:∀s',Inv X pins (σ.set i (some v)) H s'->(∃a,Heap.SameBut a s.heap s'.heap/\(a=X.env.locals\/X.env.cells.lookup x=some a))->Q () s') (hf:X.fn x=true\/X.env.scope.names.lookup x=some .local:=by first |exact .inl rfl |exact .inr rfl |assumption):wpAny M A (storeName X.env x u) Q E s:=by
 obtain⟨m,hn,hl⟩:=id I.loc
 have hcls:(X.env.scope.kind == .class || (X.env.scope.kind == .module && X.env.locals != X.env.globals))=false:=by rw[I.ok.kind];rfl
 have hiσ:i < σ.length:=by rw[I.len];exact (List.getElem?_eq_some_iff.mp hi).1
 have cne:=I.cne
 have tracked:∀{a:Addr} {h':Heap},(∃o,s.heap.get? a=some o/\H a=none)->Heap.SameBut a s.heap h'->lh X.prog X.w H h':=fun {a h'} ha hs b ob e=>by
  obtain⟨_,_,hfree⟩:=ha
  refine (I.hok b ob e).stay (fun c w' hc q=>(hs.2 c ?_).trans q) (fun _ q=>q) fun _ _ q=>q
  rintro rfl
  rcases hc with rfl |hc
  ·rw[hfree] at e;cases e
  ·rw[hfree] at hc;cases hc
 rcases hx with hk |hk
 ·refine wpAny_storeName_local hk hn (fun h' hn' hs=>?_) hcls
  obtain⟨oL,_,_,hoL,_⟩:=id hn
  refine h _ ⟨I.ok,I.os,I.bare,⟨fun b o e n hb hx=>?_,fun b o e n hb hx=>?_,I.base.free,fun b o e hx=>?_,I.base.tups,I.base.frzs,I.base.tbls⟩,⟨_,hn',fun j y v' e1 e2 e3=>?_⟩,fun y c e=>?_,I.free,I.freeC,fun p hp=>?_,tracked ⟨oL,hoL,I.free⟩ hs,by simpa using I.len⟩ ⟨_,hs,.inl rfl⟩
  ·exact (hs.2 b (Nat.ne_of_lt (Nat.lt_of_lt_of_le (Heap.lt_size e) I.ok.above))).trans (I.base.keep b o e n hb hx)
  ·obtain⟨sl,e1⟩:=I.base.slot b o e n hb hx
   exact⟨sl,(hs.2 b (Nat.ne_of_lt (Nat.lt_of_lt_of_le (Heap.lt_size e) I.ok.above))).trans e1⟩
  ·obtain⟨o',e1⟩:=I.base.there b o e hx
   exact⟨o',(hs.2 b (Nat.ne_of_lt (Nat.lt_of_lt_of_le (Heap.lt_size e) I.ok.above))).trans e1⟩
  ·by_cases hj:j=i
   ·subst hj
    rw[hi] at e1;cases e1
    rw[List.getElem?_set_self hiσ] at e2
    cases e2
    exact⟨u,r,.inl ⟨hk,by simp⟩⟩
   ·rw[List.getElem?_set_ne (Ne.symm hj)] at e2
    obtain⟨u',r',q⟩:=hl j y v' e1 e2 e3
    refine⟨u',r',?_⟩
    rcases q with⟨k,e⟩ | ⟨k,c,e,z⟩
    ·refine .inl ⟨k,?_⟩
     have:y≠x:=fun e=>hj (tT hN e1 (e▸hi))
     simp[this,e]
    ·exact .inr ⟨k,c,e,z.sameBut hs (cne y c e)⟩
  ·obtain⟨w',z⟩:=I.cell y c e
   exact⟨w',z.sameBut hs (cne y c e)⟩
  ·obtain⟨e,n,ne,nf,d⟩:=I.pin p hp
   exact⟨(hs.2 p.1 ne).trans e,n,ne,nf,d⟩
 ·have hfn:X.fn x=true:=by
   rcases hf with z |z
   ·exact z
   ·rw[z] at hk;cases hk
  obtain⟨c,hc⟩:=I.ok.has x (.inl hk)
  obtain⟨w',z⟩:=I.cell x c hc
  refine wpAny_storeName_cell I.ok.kind hk hc z (fun h' hc' hs=>?_)
  obtain⟨oc,hoc,hocd⟩:=id z
  refine h {s with heap:=h'} ⟨I.ok,I.os,I.bare,⟨fun b o e n hb hx=>?_,fun b o e n hb hx=>?_,I.base.free,fun b o e hx=>?_,I.base.tups,I.base.frzs,I.base.tbls⟩,⟨m,hn.sameBut hs (Ne.symm (cne x c hc)),fun j y v' e1 e2 e3=>?_⟩,fun y c' e=>?_,I.free,I.freeC,fun p hp=>?_,tracked ⟨oc,hoc,I.freeC x c hc⟩ hs,by simpa using I.len⟩ ⟨c,hs,.inr hc⟩
  ·exact (hs.2 b (Nat.ne_of_lt (Nat.lt_of_lt_of_le (Heap.lt_size e) (I.ok.cab x c hfn hc)))).trans (I.base.keep b o e n hb hx)
  ·obtain⟨sl,e1⟩:=I.base.slot b o e n hb hx
   exact⟨sl,(hs.2 b (Nat.ne_of_lt (Nat.lt_of_lt_of_le (Heap.lt_size e) (I.ok.cab x c hfn hc)))).trans e1⟩
  ·obtain⟨o',e1⟩:=I.base.there b o e hx
   exact⟨o',(hs.2 b (Nat.ne_of_lt (Nat.lt_of_lt_of_le (Heap.lt_size e) (I.ok.cab x c hfn hc)))).trans e1⟩
  ·by_cases hj:j=i
   ·subst hj
    rw[hi] at e1;cases e1
    rw[List.getElem?_set_self hiσ] at e2
    cases e2
    exact⟨u,r,.inr ⟨.inl hk,c,hc,hc'⟩⟩
   ·rw[List.getElem?_set_ne (Ne.symm hj)] at e2
    obtain⟨u',r',q⟩:=hl j y v' e1 e2 e3
    refine⟨u',r',?_⟩
    rcases q with q | ⟨k,c',e,z'⟩
    ·exact .inl q
    ·refine .inr ⟨k,c',e,z'.sameBut hs ?_⟩
     rintro rfl
     exact hj (tT hN e1 (I.ok.inj _ _ _ e hc▸hi))
  ·by_cases hcc:c'=c
   ·subst hcc;exact⟨_,hc'⟩
   ·obtain⟨w2,z2⟩:=I.cell y c' e
    exact⟨w2,z2.sameBut hs hcc⟩
  ·obtain⟨e,n,ne,nf,d⟩:=I.pin p hp
   refine⟨(hs.2 p.1 ?_).trans e,n,ne,nf,d⟩
   intro q
   rw[q,hoc] at e
   have q':oc=p.2:=Option.some.inj e
   exact d w' (by rw[<-q'];exact hocd)
theorem tY {M:Model}{A:Around}{E:Value->Shared->Prop}{i:Nat}{x:Str}{v:V}{u:Value}{Q:Unit->Shared->Prop}(I:Inv X pins σ H s)(hN:X.N.Nodup)(hi:X.N[i]? =some x)(hx:Loc X.env.scope x)(r:RelV v u)
  (h:∀s',Inv X pins (σ.set i (some v)) H s'->Q () s') (hf:X.fn x=true\/X.env.scope.names.lookup x=some .local:=by first |exact .inl rfl |exact .inr rfl |assumption):wpAny M A (storeName X.env x u) Q E s:=
 qS I hN hi hx r (fun s' I' _=>h s' I') hf
theorem Inv.call' {s':Shared}{ch:List Addr}(I:Inv X pins σ H s)(ho:s'.os=s.os)(u:Un (iO X.stack) ch H H' s.heap s'.heap)(hok:lh X.prog X.w H' s'.heap)(hg:AllBare s'.gens)
  (hch:∀b∈ch,(b∈X.ex\/X.s₀.heap.objs.size<=b)/\b≠X.env.locals/\(∀x c,X.env.cells.lookup x=some c->c≠b)/\∀p∈X.pn ++ pins,p.1≠b):Inv X pins σ H' s':=by
 obtain⟨h',g',d',t',o'⟩:=s'
 have e:o'=s.os:=ho
 subst e
 exact I.call (g':=g') (t':=t') (d':=d') u hok hg hch
end
abbrev XK:=Value->Option Addr->Hp->Prop
abbrev St:=List (Option V)
abbrev VK:=V->Hp->Prop
abbrev TE:=St->Hp->VK->Prop
abbrev TT:=St->Hp->(Bool->Hp->Prop)->Prop
abbrev TA:=St->Hp->(List V->Hp->Prop)->Prop
structure Ends where
 nx:St->Hp->Prop
 rt:VK
 bk:St->Hp->Prop:=fun _ _=>False
 ct:St->Hp->Prop:=fun _ _=>False
abbrev TS:=Ends->St->Hp->Prop
def EP (X:Cx)(pins:List (Addr×Obj))(σ:St)(Q:VK)(u:Value)(s':Shared):Prop:=∃v H',Inv X pins σ H' s'/\RelV v u/\Q v H'
def TP (X:Cx)(pins:List (Addr×Obj))(σ:St)(Q:Bool->Hp->Prop)(b:Bool)(s':Shared):Prop:=∃H',Inv X pins σ H' s'/\Q b H'
def AP (X:Cx)(pins:List (Addr×Obj))(σ:St)(Q:List V->Hp->Prop)(us:List Value)(s':Shared):Prop:=∃vs H',Inv X pins σ H' s'/\Vals vs us/\Q vs H'
def SP (X:Cx)(pins:List (Addr×Obj))(D:Ends)(f:Flow)(s':Shared):Prop:=
 match f with
 | .next=>∃σ' H',Inv X pins σ' H' s'/\D.nx σ' H'
 | .brk=>∃σ' H',Inv X pins σ' H' s'/\D.bk σ' H'
 | .cont=>∃σ' H',Inv X pins σ' H' s'/\D.ct σ' H'
 | .ret u=>∃v σ' H',Inv X pins σ' H' s'/\RelV v u/\D.rt v H'
def PE (X:Cx)(e:Expr)(t:TE):Prop:=
 ∀(pins:List (Addr×Obj)) (s:Shared) (σ:St) (H:Hp) (Q:VK),Inv X pins σ H s->t σ H Q->wpAny (model X.prog X.w) X.A (eval e X.env) (EP X pins σ Q) X.xe s
def PT (X:Cx)(e:Expr)(t:TT):Prop:=
 ∀(pins:List (Addr×Obj)) (s:Shared) (σ:St) (H:Hp) (Q:Bool->Hp->Prop),Inv X pins σ H s->t σ H Q->wpAny (model X.prog X.w) X.A (isTrue e X.env (eval e X.env)) (TP X pins σ Q) X.xe s
def PW (X:Cx)(e:Expr)(t:TT):Prop:=
 ∀(whole:Sem Value) (pins:List (Addr×Obj)) (s:Shared) (σ:St) (H:Hp) (Q:Bool->Hp->Prop),Inv X pins σ H s->t σ H Q->wpAny (model X.prog X.w) X.A (isTrue e X.env whole) (TP X pins σ Q) X.xe s
theorem PW.pt {X:Cx}{e:Expr}{t:TT}(h:PW X e t):PT X e t:=h _
def PA (X:Cx)(es:List Expr)(t:TA):Prop:=
 ∀(pos:Pos) (pins:List (Addr×Obj)) (s:Shared) (σ:St) (H:Hp) (Q:List V->Hp->Prop),Inv X pins σ H s->t σ H Q->wpAny (model X.prog X.w) X.A (spliced (backTo pos (starEach es X.env))) (AP X pins σ Q) X.xe s
def PS (X:Cx)(st:Stmt)(t:TS):Prop:=
 ∀(pins:List (Addr×Obj)) (s:Shared) (σ:St) (H:Hp) (D:Ends),Inv X pins σ H s->t D σ H->wpAny (model X.prog X.w) X.A (exec st X.env) (SP X pins D) X.xe s
def rb (X:Cx)(st:List Stmt)(t:TS):Prop:=
 ∀(pins:List (Addr×Obj)) (s:Shared) (σ:St) (H:Hp) (D:Ends),Inv X pins σ H s->t D σ H->wpAny (model X.prog X.w) X.A (execs st X.env) (SP X pins D) X.xe s
theorem cK {α:Type}{t:Sem α}{Q Q':α->Shared->Prop}{M:Model}{A:Around}{E:Value->Shared->Prop}{s:Shared}(h:wpAny M A t Q E s)(hQ:∀a s,Q a s->Q' a s):wpAny M A t Q' E s:=wpAny_mono h hQ fun _ _ x=>x
end L2
namespace L2
open PySem PySem.Spec PyProof.Rows
section
variable {X:Cx}
theorem bin {a b:Expr}{ta tb:TE}(ha:PE X a ta)(hb:PE X b tb){pins:List (Addr×Obj)}{s:Shared}{σ:St}{H:Hp}{R:V->V->Hp->Prop}(I:Inv X pins σ H s)(h:ta σ H fun x H1=>tb σ H1 fun y H2=>R x y H2)
  {α:Type} {Q:α->Shared->Prop} {f:Value->Value->Sem α}
  (hf:∀v u s2 x y H2,Inv X pins σ H2 s2->RelV x v->RelV y u->R x y H2->wpAny (model X.prog X.w) X.A (f v u) Q X.xe s2) :
  wpAny (model X.prog X.w) X.A (eval a X.env) (fun v s₁=>wpAny (model X.prog X.w) X.A (eval b X.env) (fun u s₂=>wpAny (model X.prog X.w) X.A (f v u) Q X.xe s₂) X.xe s₁) X.xe s:=by
 refine cK (ha pins s σ H _ I h) fun v s1 ⟨x,H1,I1,r1,q1⟩=>?_
 refine cK (hb pins s1 σ H1 _ I1 q1) fun u s2 ⟨y,H2,I2,r2,q2⟩=>?_
 exact hf v u s2 x y H2 I2 r1 r2 q2
def Dv (i:Nat):TE:=fun σ H Q=>∃v,σ[i]? =some (some v)/\Q v H
def tC (v:V):TE:=fun _ H Q=>Q v H
theorem jG {i:Nat}{x:Str}{pos:Pos}(hN:X.N[i]? =some x)(hv:zS X.env.scope x)(hd:(x == ("__debug__":Str))=false:=by decide)(hcd:(x == ("__classdict__":Str))=false:=by decide):PE X (.Name x pos) (Dv i):=by
 intro pins s σ H Q I h
 obtain⟨v,e,h⟩:=h
 obtain⟨m,hn,hl⟩:=I.loc
 obtain⟨u,r,l⟩:=hl i x v hN e hv
 have fin:EP X pins σ Q u s:=⟨v,H,I,r,h⟩
 rcases l with⟨hk,hm⟩ | ⟨hk,c,hc,hcell⟩
 ·exact wpAny_Name (wpAny_loadName_local I.ok.kind hk hn hm fin) hd
 ·rcases hk with hk |hk
  ·exact wpAny_Name (wpAny_loadName_cell I.ok.kind hk hc hcell fin) hd
  ·exact wpAny_Name (wpAny_loadName_free I.ok.kind hk hc hcell fin hcd) hd
theorem vV {i j pos}:PE X (.Constant (.int i) j pos) (tC (.int i)):=fun _ _ _ H _ I h=>wpAny_Constant_int ⟨.int i,H,I.tok _,⟨_,rfl⟩,h⟩
theorem xJ {b j pos}:PE X (.Constant (.bool b) j pos) (tC (.bl b)):=fun _ _ _ H _ I h=>Constant_bool ⟨.bl b,H,I,rfl,h⟩
theorem Fm {x j pos}:PE X (.Constant (.str x) j pos) (tC (.str x)):=fun _ _ _ H _ I h=>Calls.Constant_str ⟨.str x,H,I.tok _,⟨_,rfl⟩,h⟩
def Gl (X:Cx)(x:Str):Prop:=X.env.kindOf x=some .globalImplicit
theorem sW {E:Value->Shared->Prop}{pins:List (Addr×Obj)}{s:Shared}{σ:St}{H:Hp}{x:Str}{u:Value}{pos:Pos}{Q:Value->Shared->Prop}(I:Inv X pins σ H s)(hg:Gl X x)(hm:X.mg x=some u)(h:Q u s)
  (hd:(x == ("__debug__":Str))=false:=by decide):wpAny (model X.prog X.w) X.A (eval (.Name x pos) X.env) Q E s:=
 Calls.Name_function_global I.ok.kind hg (Calls.loadGlobal_global (by rw[I.ok.glob];exact I.mod.glob.keeps I.bk) hm h) hd
theorem ki {E:Value->Shared->Prop}{pins:List (Addr×Obj)}{s:Shared}{σ:St}{H:Hp}{x:Str}{u:Value}{pos:Pos}{Q:Value->Shared->Prop}(I:Inv X pins σ H s)(hg:Gl X x)(hm:X.mg x=none)(hv:bootBuiltins x=some u)(h:Q u s)
  (hn:x≠"__name__":=by decide) (hd:(x == ("__debug__":Str))=false:=by decide):wpAny (model X.prog X.w) X.A (eval (.Name x pos) X.env) Q E s:=by
 obtain⟨mb,h1,h2⟩:=I.mod.blt
 exact Calls.Name_function_global I.ok.kind hg (Calls.loadGlobal_builtin (by rw[I.ok.glob];exact I.mod.glob.keeps I.bk) hm (by rw[I.ok.blt];exact h1.keeps I.bk) ((h2 x hn).trans hv) h) hd
theorem D1 {x:Str}{v:V}{u:Value}{pos:Pos}(hg:Gl X x)(hm:X.mg x=some u)(r:RelV v u)(hd:(x == ("__debug__":Str))=false:=by decide):PE X (.Name x pos) (tC v):=
 fun _ _ _ H _ I h=>sW I hg hm ⟨v,H,I,r,h⟩ hd
theorem DG {x:Str}{v:V}{u:Value}{pos:Pos}(hg:Gl X x)(hm:X.mg x=none)(hv:bootBuiltins x=some u)(r:RelV v u)(hn:x≠"__name__":=by decide)(hd:(x == ("__debug__":Str))=false:=by decide):PE X (.Name x pos) (tC v):=
 fun _ _ _ H _ I h=>ki I hg hm hv ⟨v,H,I,r,h⟩ hn hd
variable {a b:Expr}{ta tb:TE}{pos:Pos}
def PC (X:Cx)(op:CmpOp)(a b:Expr)(t:TE):Prop:=
 ∀(pins:List (Addr×Obj)) (s:Shared) (σ:St) (H:Hp) (Q:VK),Inv X pins σ H s->t σ H Q->
  wpAny (model X.prog X.w) X.A (eval a X.env) (fun v s₁=>wpAny (model X.prog X.w) X.A (eval b X.env) (fun u s₂=>wpAny (model X.prog X.w) X.A (compareOp op v u) (EP X pins σ Q) X.xe s₂) X.xe s₁) X.xe s
theorem BH (b:Expr){op:CmpOp}(h:op≠.In)(h2:op≠.NotIn):behindInMarks op b=false:=by
 have e1:(op == CmpOp.In)=false:=by cases op <;> first |rfl |exact absurd rfl h
 have e2:(op == CmpOp.NotIn)=false:=by cases op <;> first |rfl |exact absurd rfl h2
 cases b <;> simp[behindInMarks,e1,e2]
def tB (t:TE):TT:=fun σ H Q=>t σ H fun x H1=>∃c,x=.bl c/\Q c H1
theorem JK {op:CmpOp}{t:TE}(h:PC X op a b t)(h1:behindInMarks op b=false:=by first |exact BH _ (by decide) (by decide) |rfl):PT X (.Compare a [op] [b] pos) (tB t):=by
 intro pins s σ H Q I hw
 refine wpAny_isTrue_Compare1 (cK (h pins s σ H _ I hw) fun v s1 h1=>cK h1 fun u s2 h2=>cK h2 fun c s3 ⟨x,H1,I1,r1,q1⟩=>?_) h1
 obtain⟨d,rfl,q⟩:=q1
 cases r1
 exact wpAny_truthy_bool ⟨H1,I1,q⟩
theorem vG {e:Expr}{t:TE}(h:PE X e t)(he:∀whole,isTrue e X.env whole=(do let v <-whole;standAt e.pos;holding [v] (truthy v)):=by intro _;rfl):PT X e (tB t):=by
 intro pins s σ H Q I hw
 refine isTrue_plain (cK (h pins s σ H _ I hw) fun v s1 ⟨x,H1,I1,r1,q1⟩=>?_) (he _)
 obtain⟨d,rfl,q⟩:=q1
 cases r1
 exact wpAny_truthy_bool ⟨H1,I1,q⟩
variable {tA tB':TT}{rest:List Expr}
def JC (t u:TT):TT:=fun σ H Q=>t σ H fun c H1=>if c=true then u σ H1 Q else Q false H1
def Km (t u:TT):TT:=fun σ H Q=>t σ H fun c H1=>if c=true then Q true H1 else u σ H1 Q
def J2 (t:TT):TT:=fun σ H Q=>t σ H fun c H1=>Q (!c) H1
theorem xN (ha:PT X a tA):PW X (.BoolOp .And [a] pos) tA:=by
 intro wh pins s σ H Q I h
 refine isTrue_and (cK (ha pins s σ H Q I h) fun c s1 e=>?_)
 cases c with
 |true=>exact isTrue_and_nil e
 |false=>exact e
theorem EI (ha:PT X a tA):PW X (.BoolOp .Or [a] pos) tA:=by
 intro wh pins s σ H Q I h
 refine isTrue_or (cK (ha pins s σ H Q I h) fun c s1 e=>?_)
 cases c with
 |false=>exact isTrue_or_nil e
 |true=>exact e
theorem Bh (ha:PT X a tA)(hb:PW X (.BoolOp .And (b :: rest) pos) tB'):PW X (.BoolOp .And (a :: b :: rest) pos) (JC tA tB'):=by
 intro wh pins s σ H Q I h
 refine isTrue_and (cK (ha pins s σ H _ I h) fun c s1 ⟨H1,I1,q1⟩=>?_)
 cases c with
 |true=>exact hb wh pins s1 σ H1 Q I1 q1
 |false=>exact⟨H1,I1,q1⟩
theorem Hy (ha:PT X a tA)(hb:PW X (.BoolOp .Or (b :: rest) pos) tB'):PW X (.BoolOp .Or (a :: b :: rest) pos) (Km tA tB'):=by
 intro wh pins s σ H Q I h
 refine isTrue_or (cK (ha pins s σ H _ I h) fun c s1 ⟨H1,I1,q1⟩=>?_)
 cases c with
 |true=>exact⟨H1,I1,q1⟩
 |false=>exact hb wh pins s1 σ H1 Q I1 q1
theorem FT (ha:PT X a tA):PT X (.UnaryOp .Not a pos) (J2 tA):=by
 intro pins s σ H Q I h
 exact isTrue_not (ha pins s σ H (fun c H1=>Q (!c) H1) I h)
def Iv (ta tb:TE):TE:=fun σ H Q=>ta σ H fun x H1=>∃c,x=.bl c/\if c=true then tb σ H1 Q else Q (.bl false) H1
def Hb (ta:TE):TE:=fun σ H Q=>ta σ H fun x H1=>∃c,x=.bl c/\Q (.bl (!c)) H1
theorem FL {op}{t:TE}(h:PE X a t):PE X (.BoolOp op [a] pos) t:=fun pins s σ H Q I hw=>BoolOp_one (h pins s σ H Q I hw)
theorem EX (ha:PE X a ta)(hb:PE X (.BoolOp .And (b :: rest) pos) tb):PE X (.BoolOp .And (a :: b :: rest) pos) (Iv ta tb):=by
 intro pins s σ H Q I h
 refine BoolOp_and (cK (ha pins s σ H _ I h) fun v s1 ⟨x,H1,I1,r1,q1⟩=>?_)
 obtain⟨c,rfl,q1⟩:=q1
 cases r1
 refine wpAny_truthy_bool ?_
 cases c with
 |true=>exact hb pins s1 σ H1 Q I1 q1
 |false=>exact⟨.bl false,H1,I1,rfl,q1⟩
theorem Gp (ha:PE X a ta):PE X (.UnaryOp .Not a pos) (Hb ta):=by
 intro pins s σ H Q I h
 refine UnaryOp_ (cK (ha pins s σ H _ I h) fun v s1 ⟨x,H1,I1,r1,q1⟩=>?_)
 obtain⟨c,rfl,q1⟩:=q1
 cases r1
 exact not_of (wpAny_truthy_bool ⟨.bl (!c),H1,I1,rfl,q1⟩)
end
end L2
namespace L2
open PySem PySem.Spec PyProof.Rows
def gk (K:PySem.W.Frag)(H:Hp)(a:Addr)(xs:List V):Prop:=
 Rd H a (.lst xs)\/
  ∃(o:Obj) (its:Array Value) (n:Nat),K.lookup a=some o/\o.cls=.type "list"/\o.dict=none/\o.data=.seq its n/\its.size<=sizeLine/\Vals xs its.toList
def fy (K:PySem.W.Frag)(H:Hp)(a:Addr)(xs:List V):Prop:=
 Rd H a (.tup xs)\/
  ∃(o:Obj) (its:Array Value) (n:Nat),K.lookup a=some o/\o.cls=.type "tuple"/\o.data=.seq its n/\its.size<=sizeLine/\Vals xs its.toList/\o.dict=none
def JW:Value->Option V
 | .none=>some .non
 | .bool b=>some (.bl b)
 | .int i _=>some (.int i)
 | .str x _=>some (.str x)
 | .bytes b _=>some (.byt b)
 | .float b _=>some (.flt b)
 | .ref a=>some (.ref a)
 | .type n=>some (.ty n)
 |_=>none
theorem RelV.abs {x:V}{u:Value}(r:RelV x u):JW u=some x:=by
 cases x with
 |non=>cases r;rfl
 |bl _=>cases r;rfl
 |int _=>obtain⟨t,rfl⟩:=r;rfl
 |str _=>obtain⟨t,rfl⟩:=r;rfl
 |byt _=>obtain⟨t,rfl⟩:=r;rfl
 |flt _=>obtain⟨t,rfl⟩:=r;rfl
 |ref _=>cases r;rfl
 |ty _=>cases r;rfl
theorem RelV.inj {x y:V}{u:Value}(r:RelV x u)(q:RelV y u):x=y:=Option.some.inj (r.abs.symm.trans q.abs)
theorem Vals.inj:∀{xs ys:List V} {us:List Value},Vals xs us->Vals ys us->xs=ys
 |_,_,_,.nil,.nil=>rfl
 |_,_,_,.cons r t,.cons r' t'=>by rw[r.inj r',Vals.inj t t']
section
variable {X:Cx}{pins:List (Addr×Obj)}{σ:St}{H:Hp}{s:Shared}{a:Addr}{xs ys:List V}
theorem Inv.list (I:Inv X pins σ H s)(h:gk X.K H a xs):∃its:List Value,Vals xs its/\PlainL s.heap a its.toArray/\xs.length<=sizeLine:=by
 rcases h with h | ⟨o,its,n,hk,hc,hd,hs,hz,r⟩
 ·obtain⟨z,its,n,r,e⟩:=h.ok I.hok
  exact⟨its,r,⟨_,n,e,rfl,rfl,rfl⟩,z⟩
 ·refine⟨its.toList,r,⟨o,n,I.kIn a o hk,hc,hd,by simpa using hs⟩,?_⟩
  have e:=r.length
  simp only[Array.length_toList] at e
  omega
theorem Inv.tuple (I:Inv X pins σ H s)(h:fy X.K H a xs):∃its:List Value,Vals xs its/\IsTup s.heap a its.toArray/\xs.length<=sizeLine:=by
 rcases h with h | ⟨o,its,n,hk,hc,hs,hz,r,_⟩
 ·obtain⟨z,its,r,p⟩:=h.ok I.hok
  exact⟨its,r,p.isTup,z⟩
 ·refine⟨its.toList,r,⟨o,I.kIn a o hk,hc,n,by simpa using hs⟩,?_⟩
  have e:=r.length
  simp only[Array.length_toList] at e
  omega
theorem Inv.list_inj (I:Inv X pins σ H s)(h:gk X.K H a xs)(h':gk X.K H a ys):xs=ys:=by
 obtain⟨its,r,⟨o,n,e,_,_,d⟩,_⟩:=I.list h
 obtain⟨its',r',⟨o',n',e',_,_,d'⟩,_⟩:=I.list h'
 rw[e] at e';cases e'
 rw[d] at d'
 injection d' with d1 _
 have:its=its':=by simpa using congrArg Array.toList d1
 subst this
 exact r.inj r'
theorem Inv.tuple_inj (I:Inv X pins σ H s)(h:fy X.K H a xs)(h':fy X.K H a ys):xs=ys:=by
 obtain⟨its,r,⟨o,e,_,n,d⟩,_⟩:=I.tuple h
 obtain⟨its',r',⟨o',e',_,n',d'⟩,_⟩:=I.tuple h'
 rw[e] at e';cases e'
 rw[d] at d'
 injection d' with d1 _
 have:its=its':=by simpa using congrArg Array.toList d1
 subst this
 exact r.inj r'
end
abbrev Cx.wish (X:Cx)(E:Value->Shared->Prop):Cx:={X with xe:=E}
abbrev Cx.nox (X:Cx):Cx:=X.wish fun _ _=>False
theorem Cx.Ok.wish {X:Cx}(ok:X.Ok)(E:Value->Shared->Prop):(X.wish E).Ok:=
 ⟨ok.mod,ok.kind,ok.glob,ok.blt,ok.above,ok.inj,ok.has,ok.cab,ok.hd,ok.frames,ok.stk,ok.exf,ok.bs,ok.bsz,ok.noex,ok.exfs,ok.funs,ok.frf⟩
theorem Cx.Ok.unwish {X:Cx}{E:Value->Shared->Prop}(ok:(X.wish E).Ok):X.Ok:=
 ⟨ok.mod,ok.kind,ok.glob,ok.blt,ok.above,ok.inj,ok.has,ok.cab,ok.hd,ok.frames,ok.stk,ok.exf,ok.bs,ok.bsz,ok.noex,ok.exfs,ok.funs,ok.frf⟩
section
variable {X:Cx}{pins:List (Addr×Obj)}{σ:St}{H:Hp}{s:Shared}{E:Value->Shared->Prop}
theorem Inv.wish (I:Inv X pins σ H s)(E:Value->Shared->Prop):Inv (X.wish E) pins σ H s:=⟨I.ok.wish E,I.os,I.bare,I.base,I.loc,I.cell,I.free,I.freeC,I.pin,I.hok,I.len⟩
theorem Inv.unwish (I:Inv (X.wish E) pins σ H s):Inv X pins σ H s:=⟨I.ok.unwish,I.os,I.bare,I.base,I.loc,I.cell,I.free,I.freeC,I.pin,I.hok,I.len⟩
theorem SP.unwish {D:Ends}{f:Flow}{s':Shared}(h:SP (X.wish E) pins D f s'):SP X pins D f s':=by
 cases f with
 |next=>obtain⟨σ',H',I,q⟩:=h;exact⟨σ',H',I.unwish,q⟩
 |brk=>obtain⟨σ',H',I,q⟩:=h;exact⟨σ',H',I.unwish,q⟩
 |cont=>obtain⟨σ',H',I,q⟩:=h;exact⟨σ',H',I.unwish,q⟩
 |ret u=>obtain⟨v,σ',H',I,r,q⟩:=h;exact⟨v,σ',H',I.unwish,r,q⟩
theorem rb.nox {st:List Stmt}{t:TS}(h:rb X.nox st t):rb X st t:=fun pins s σ H D I hw=>
 wpAny_mono (h pins s σ H D (I.wish _) hw) (fun _ _ q=>q.unwish) fun _ _ z=>False.elim z
end
section
variable {X:Cx}{st:Stmt}{rest:List Stmt}{t u:TS}{e:Expr}{te:TE}{pos:Pos}
def Hf:TS:=fun D σ H=>D.nx σ H
def Jz (t u:TS):TS:=fun D σ H=>t {D with nx:=u D} σ H
theorem xW:rb X [] Hf:=fun _ _ σ H _ I h=>wpAny_execs_nil ⟨σ,H,I,h⟩
theorem gS (h1:PS X st t)(h2:rb X rest u):rb X (st :: rest) (Jz t u):=by
 intro pins s σ H D I h
 refine wpAny_execs_cons (cK (h1 pins s σ H {D with nx:=u D} I h) fun f s1 q=>?_)
 cases f with
 |next=>
  obtain⟨σ',H',I',q⟩:=q
  exact h2 pins s1 σ' H' D I' q
 |ret v=>exact q
 |brk=>exact q
 |cont=>exact q
theorem ij (h1:PS X st t):rb X [st] t:=by
 intro pins s σ H D I h
 refine wpAny_execs_cons (cK (h1 pins s σ H D I h) fun f s1 q=>?_)
 cases f with
 |next=>exact wpAny_execs_nil q
 |ret v=>exact q
 |brk=>exact q
 |cont=>exact q
theorem Inv.quiet {pins:List (Addr×Obj)}{σ:St}{H:Hp}{s:Shared}(I:Inv X pins σ H s):interactive X.env=false:=by simp[interactive,I.ok.kind]
def Hz (te:TE):TS:=fun D σ H=>te σ H fun _ H1=>D.nx σ H1
theorem sP (he:PE X e te)(hs:swapsWith e none pos.line X.env=pure false:=by rfl):PS X (.Expr e pos) (Hz te):=by
 intro pins s σ H D I h
 exact wpAny_Expr_any (cK (he pins s σ H _ I h) fun v s1 ⟨x,H1,I1,r1,q1⟩=>⟨σ,H1,I1,q1⟩) I.quiet hs
def JY (te:TE):TS:=fun D σ H=>te σ H D.rt
theorem mP (he:PE X e te):PS X (.Return (some e) pos) (JY te):=by
 intro pins s σ H D I h
 exact wpAny_Return_some (cK (he pins s σ H _ I h) fun v s1 ⟨x,H1,I1,r1,q1⟩=>⟨x,σ,H1,I1,r1,q1⟩)
def JI (c:TT)(t u:TS):TS:=fun D σ H=>c σ H fun b H1=>if b=true then t D σ H1 else u D σ H1
theorem Ex {c:Expr}{a b:List Stmt}{tc:TT}(hc:PT X c tc)(ha:rb X a t)(hb:rb X b u):PS X (.If c a b pos) (JI tc t u):=by
 intro pins s σ H D I h
 refine wpAny_If (cK (hc pins s σ H _ I h) fun d s1 ⟨H1,I1,q1⟩=>?_)
 cases d with
 |true=>exact ha pins s1 σ H1 D I1 q1
 |false=>exact hb pins s1 σ H1 D I1 q1
end
abbrev TG:=V->St->Hp->(St->Hp->Prop)->Prop
abbrev E9:=List V->St->Hp->(St->Hp->Prop)->Prop
def PG (X:Cx)(target:Expr)(t:TG):Prop:=
 ∀(pins:List (Addr×Obj)) (s:Shared) (σ:St) (H:Hp) (v:V) (u:Value) (Q:St->Hp->Prop),Inv X pins σ H s->RelV v u->t v σ H Q->
  wpAny (model X.prog X.w) X.A (assign target X.env u) (fun _ s'=>∃σ' H',Inv X pins σ' H' s'/\Q σ' H') X.xe s
def IT (X:Cx)(ts:List Expr)(t:E9):Prop:=
 ∀(pins:List (Addr×Obj)) (s:Shared) (σ:St) (H:Hp) (vs:List V) (us:List Value) (Q:St->Hp->Prop),Inv X pins σ H s->Vals vs us->t vs σ H Q->
  wpAny (model X.prog X.w) X.A (assignInOrder ((assignEach ts X.env).map (·.2)) us) (fun _ s'=>∃σ' H',Inv X pins σ' H' s'/\Q σ' H') X.xe s
abbrev EL:=V->V->V->Hp->(Hp->Prop)->Prop
def oj (X:Cx)(t:EL):Prop:=
 ∀(pins:List (Addr×Obj)) (s:Shared) (σ:St) (H:Hp) (o i v:V) (ov iv u:Value) (Q:Hp->Prop),Inv X pins σ H s->RelV o ov->RelV i iv->RelV v u->t o i v H Q->
  wpAny (model X.prog X.w) X.A (setItem ov iv u) (fun _ s'=>∃H',Inv X pins σ H' s'/\Q H') X.xe s
section
variable {X:Cx}{pos:Pos}
def kT (i:Nat):TG:=fun v σ H Q=>Q (σ.set i (some v)) H
theorem cM {i:Nat}{x:Str}(hN:X.N.Nodup)(hi:X.N[i]? =some x)(hx:Loc X.env.scope x)(hf:X.fn x=true\/X.env.scope.names.lookup x=some .local:=by first |exact .inl rfl |exact .inr rfl |assumption):PG X (.Name x pos) (kT i):=by
 intro pins s σ H v u Q I r h
 exact wpAny_assign_Name (tY I hN hi hx r (fun s' I'=>⟨_,H,I',h⟩) hf)
def CD:E9:=fun vs σ H Q=>vs= []/\Q σ H
def oF (t:TG)(u:E9):E9:=fun vs σ H Q=>∃v r,vs=v :: r/\t v σ H fun σ' H'=>u r σ' H' Q
theorem l7:IT X [] CD:=by
 intro pins s σ H vs us Q I r h
 obtain⟨e,h⟩:=h
 subst e
 cases r
 exact assignInOrder_nil ⟨σ,H,I,h⟩
theorem dq {e:Expr}{es:List Expr}{t:TG}{u:E9}(h1:PG X e t)(h2:IT X es u)
  (hs:(assignEach (e :: es) X.env).map (·.2)=assign e X.env :: (assignEach es X.env).map (·.2):=by rfl):IT X (e :: es) (oF t u):=by
 intro pins s σ H vs us Q I r h
 obtain⟨v,vr,e1,h⟩:=h
 subst e1
 cases r with
 |cons r rr=>
  rw[hs]
  refine assignInOrder_cons (cK (h1 pins s σ H _ _ _ I r h) fun _ s1 ⟨σ1,H1,I1,q1⟩=>?_)
  exact h2 pins s1 σ1 H1 _ _ Q I1 rr q1
def C7 (K:PySem.W.Frag)(n:Nat)(t:E9):TG:=fun v σ H Q=>∃a xs,v=.ref a/\fy K H a xs/\xs.length=n/\t xs σ H Q
theorem oW {es:List Expr}{k:Nat}{t:E9}{n:Nat}(hc:X.calm=true)(h:IT X es t)
  (hn:(assignEach es X.env).length=n:=by rfl) (hst:(assignEach es X.env).findIdx? (·.1)=none:=by rfl):PG X (.Tuple es k pos) (C7 X.K n t):=by
 intro pins s σ H v u Q I r hw
 obtain⟨a,xs,e1,hq,hl,hw⟩:=hw
 subst e1
 cases r
 obtain⟨its,rv,ht,hz⟩:=I.tuple hq
 refine assign_Tuple_tuple (I.ok.hd hc) ht (by simp[hn,<-hl,rv.length]) hst fun h' hx=>?_
 have I1:Inv X pins σ H {s with heap:=h'}:=I.kept (t':=s.toks) fun b o e=>hx b o (Nat.ne_of_lt (Heap.lt_size e)) e
 exact h pins _ σ H xs _ Q I1 (by simpa using rv) hw
def JV (to ti:TE)(t:EL):TG:=fun v σ H Q=>to σ H fun o H1=>ti σ H1 fun i H2=>t o i v H2 fun H3=>Q σ H3
theorem tu {o i:Expr}{to ti:TE}{t:EL}(ho:PE X o to)(hi:PE X i ti)(hs:oj X t)
  (ha:∀v,assign (.Subscript o i pos) X.env v=(do
   let ov <-holding [v] (eval o X.env)
   let iv <-holding [v,ov] (eval i X.env)
   standAt pos
   holding [v,ov,iv] (setItem ov iv v)
   release [v,ov,iv] []):=by intro _;rfl):PG X (.Subscript o i pos) (JV to ti t):=by
 intro pins s σ H v u Q I r h
 rw[ha]
 refine wpAny_bind (wpAny_holding (cK (ho pins s σ H _ I h) fun ov s1 ⟨x,H1,I1,r1,q1⟩=>?_))
 refine wpAny_bind (wpAny_holding (cK (hi pins s1 σ H1 _ I1 q1) fun iv s2 ⟨y,H2,I2,r2,q2⟩=>?_))
 refine wpAny_bind (wpAny_standAt (wpAny_bind (wpAny_holding (cK (hs pins s2 σ H2 x y v ov iv u _ I2 r1 r2 r q2) fun _ s3 ⟨H3,I3,q3⟩=>?_))))
 exact wpAny_release ⟨σ,H3,I3,q3⟩
def Hn (te:TE)(g:TG):TS:=fun D σ H=>te σ H fun x H1=>g x σ H1 D.nx
theorem mO {tg e:Expr}{te:TE}{g:TG}(he:PE X e te)(hg:PG X tg g)(hs:swapsWithSole [tg] e pos.line X.env=pure false:=by rfl)(hw:swappedStores [tg] e X.env=pure none:=by rfl)
  (h1:(assignEach [tg] X.env).map (·.2)= [assign tg X.env]:=by rfl):PS X (.Assign [tg] e pos) (Hn te g):=by
 intro pins s σ H D I h
 refine wpAny_Assign_stores (cK (he pins s σ H _ I h) fun v s1 ⟨x,H1,I1,r1,q1⟩=>?_) hs hw
 rw[h1]
 exact cK (hg pins s1 σ H1 x v _ I1 r1 q1) fun _ s2 q=>q
theorem oH {i:Nat}{x:Str}{e:Expr}{te:TE}{pos':Pos}(hN:X.N.Nodup)(hi:X.N[i]? =some x)(hx:Loc X.env.scope x)(he:PE X e te)(hs:swapsWith e (some (.Name x pos')) pos.line X.env=pure false:=by rfl)(hf:X.fn x=true\/X.env.scope.names.lookup x=some .local:=by first |exact .inl rfl |exact .inr rfl |assumption) :
  PS X (.Assign [.Name x pos'] e pos) (Hn te (kT i)):=by
 intro pins s σ H D I h
 refine wpAny_Assign_Name (cK (he pins s σ H _ I h) fun v s1 ⟨y,H1,I1,r1,q1⟩=>?_) hs
 exact tY I1 hN hi hx r1 (fun s2 I2=>⟨_,H1,I2,q1⟩) hf
end
section
variable {X:Cx}{pos:Pos}
def Ft (c:TT)(tb:TS):TS:=fun D σ H=>∃W:Nat->St->Hp->Prop,(∃m,W m σ H)/\∀m σ H,W m σ H->
 c σ H fun b H1=>if b=true then ∃N:St->Hp->Prop,(∀σ' H',N σ' H'->∃m',m' < m/\W m' σ' H')/\tb {D with nx:=N,ct:=N,bk:=D.nx} σ H1 else D.nx σ H1
theorem AS {c:Expr}{body:List Stmt}{tc:TT}{tb:TS}(hp:PassesOwn (model X.prog X.w) X.A X.env X.xe)(hc:PT X c tc)(hb:rb X body tb):PS X (.While c body [] pos) (Ft tc tb):=by
 intro pins s σ H D I h
 obtain⟨W,⟨m0,w0⟩,turn⟩:=h
 refine wpAny_While (codeAny_whileLoop (fun n s'=>∃σ' H',Inv X pins σ' H' s'/\W n σ' H') ?_ m0 ⟨σ,H,I,w0⟩)
 rintro n s1 ⟨σ1,H1,I1,w1⟩
 refine wpAny_passesOwn hp (cK (hc pins s1 σ1 H1 _ I1 (turn n σ1 H1 w1)) fun b s2 ⟨H2,I2,q2⟩=>?_)
 cases b with
 |true=>
  obtain⟨N,hN,q2⟩:=q2
  rw[if_pos rfl]
  refine wpAny_passesOwn hp (cK (hb pins s2 σ1 H2 _ I2 q2) fun f s3 q3=>?_)
  cases f with
  |next=>
   obtain⟨σ3,H3,I3,n3⟩:=q3
   obtain⟨m',hm,w3⟩:=hN σ3 H3 n3
   exact⟨m',hm,σ3,H3,I3,w3⟩
  |cont=>
   obtain⟨σ3,H3,I3,n3⟩:=q3
   obtain⟨m',hm,w3⟩:=hN σ3 H3 n3
   exact⟨m',hm,σ3,H3,I3,w3⟩
  |brk=>exact q3
  |ret v=>exact q3
 |false=>
  rw[if_neg Bool.false_ne_true]
  exact wpAny_execs_nil ⟨σ1,H2,I2,q2⟩
end
structure It where
 go:Nat->Hp->Prop
 yld:Nat->Hp->V->Hp->Prop
 stop:Nat->Hp->Prop
def mU (X:Cx)(pins:List (Addr×Obj))(H:Hp)(b:Addr):Prop:=
 H b=none/\b≠X.env.locals/\b∉X.fs/\(b∈X.ex\/X.s₀.heap.objs.size<=b)/\(∀x c,X.env.cells.lookup x=some c->c≠b)/\∀p∈X.pn ++ pins,p.1≠b
theorem Inv.fpOk {X:Cx}{pins:List (Addr×Obj)}{σ:St}{H H':Hp}{s:Shared}{b:Addr}(I:Inv X pins σ H s)(hb:s.heap.objs.size<=b)(hn:H' b=none):mU X pins H' b:=by
 refine⟨hn,Nat.ne_of_gt (Nat.lt_of_lt_of_le I.lt hb),I.nofs hb,.inr (Nat.le_trans I.sz hb),fun x c e z=>?_,fun p hp z=>?_⟩
 ·obtain⟨v,q⟩:=I.cell x c e
  exact absurd (Nat.lt_of_lt_of_le q.lt (by rw[z];exact hb)) (Nat.lt_irrefl _)
 ·exact absurd (Nat.lt_of_lt_of_le (Heap.lt_size (I.pin p hp).1) (by rw[z];exact hb)) (Nat.lt_irrefl _)
structure Turn (P:Program)(w:World)(K:PySem.W.Frag)(tg:Expr)(J:It)(fp:List Addr)(it:Addr)(tn:Nat->Heap->Prop):Prop where
 mem:it∈fp
 obj:∀i h,tn i h->∀b∈fp,∃o,h.get? b=some o/\∀v,o.data≠.cell v
 keep:∀i h h',tn i h->(∀b∈fp,∀o,h.get? b=some o->h'.get? b=some o)->tn i h'
 item:∀(X:Cx),X.prog=P->X.w=w->X.K=K->X.calm=true->∀(i:Nat) (pins:List (Addr×Obj)) (s:Shared) (σ:St) (H:Hp) (E:Value->Shared->Prop),Inv X pins σ H s->(∀b∈fp,mU X pins H b)->tn i s.heap->J.go i H->
  wpAny (model P w) X.A (pyNext (.ref it)) (fun r s1=>∃u,r=some u/\
   wpAny (model P w) X.A (letOwnedTupleGo tg (.ref it) u) (fun _ s2=>∃x H',Inv X pins σ H' s2/\RelV x u/\J.yld i H x H'/\tn (i + 1) s2.heap/\∀b∈fp,H' b=none) E s1) E s
 done:∀(X:Cx),X.prog=P->X.w=w->X.K=K->X.calm=true->∀(i:Nat) (pins:List (Addr×Obj)) (s:Shared) (σ:St) (H:Hp) (E:Value->Shared->Prop),Inv X pins σ H s->(∀b∈fp,mU X pins H b)->tn i s.heap->J.stop i H->
  wpAny (model P w) X.A (pyNext (.ref it)) (fun r s1=>r=none/\Inv X pins σ H s1) E s
 self:∀(A:Around) (i:Nat) (s:Shared) (Q:Value->Shared->Prop) (E:Value->Shared->Prop),tn i s.heap->Q (.ref it) s->wpAny (model P w) A (pyIter (.ref it)) Q E s
abbrev TI:=St->Hp->(It->Hp->Prop)->Prop
def JE (X:Cx)(pins:List (Addr×Obj))(σ:St)(tg:Expr)(R:It->Hp->Prop)(itv:Value)(s2:Shared):Prop:=
 ∃(it:Addr) (fp:List Addr) (tn:Nat->Heap->Prop) (J:It) (H':Hp),itv=.ref it/\Inv X pins σ H' s2/\Turn X.prog X.w X.K tg J fp it tn/\tn 0 s2.heap/\(∀b∈fp,mU X pins H' b)/\R J H'
def PI (X:Cx)(tg iter:Expr)(wi:TI):Prop:=
 ∀(pins:List (Addr×Obj)) (s:Shared) (σ:St) (H:Hp) (R:It->Hp->Prop),Inv X pins σ H s->wi σ H R->
  wpAny (model X.prog X.w) X.A (eval iter X.env) (fun v s1=>wpAny (model X.prog X.w) X.A (pyIter v) (JE X pins σ tg R) X.xe s1) X.xe s
theorem ym {M:Model}{A:Around}{E:Value->Shared->Prop}{s:Shared}{tg:Expr}{it:Addr}{u:Value}{o:Obj}{n:String}{vs:Array Value}{Q:Unit->Shared->Prop}(ho:s.heap.get? it=some o)(hc:o.cls=.type n)(hd:o.data=.fields vs)
  (hn: ["enumerate","zip","dict_itemiterator","dict_reverseitemiterator","odict_iterator","itertools.zip_longest","itertools.pairwise"].contains n=false) (hQ:Q () s):wpAny M A (letOwnedTupleGo tg (.ref it) u) Q E s:=by
 unfold letOwnedTupleGo
 cases tg <;> first
  |exact wpAny_pure hQ
  | (cases u <;> first
    |exact wpAny_pure hQ
    | (refine wpAny_bind (wpAny_load ho ?_)
       rw[hc,hd]
       show wpAny M A (if (["enumerate","zip","dict_itemiterator","dict_reverseitemiterator","odict_iterator","itertools.zip_longest","itertools.pairwise"].contains n && vs[0]? == some (rawInt _))=true then _ else _) Q E s
       rw[if_neg (by intro h;rw[hn,Bool.false_and] at h;cases h)]
       exact wpAny_pure hQ))
def zO (K:PySem.W.Frag)(a:Addr):It:=
 ⟨fun i H=>∃xs x,gk K H a xs/\xs[i]? =some x,fun i H x H'=>H'=H/\∀xs,gk K H a xs->xs[i]? =some x,fun i H=>∃xs,gk K H a xs/\xs.length<=i⟩
def EF (K:PySem.W.Frag)(a:Addr):It:=
 ⟨fun i H=>∃xs x,fy K H a xs/\xs[i]? =some x,fun i H x H'=>H'=H/\∀xs,fy K H a xs->xs[i]? =some x,fun i H=>∃xs,fy K H a xs/\xs.length<=i⟩
def zk (lo:Int)(n:Nat):It:=⟨fun i _=>i < n,fun i H x H'=>H'=H/\x=.int (lo + i),fun i _=>n<=i⟩
theorem mW {P:Program}{w:World}{K:PySem.W.Frag}{tg:Expr}(a it:Addr):Turn P w K tg (zO K a) [it] it (fun i h=>h.IsListIter it a i) where
 mem:=by simp
 obj:=fun i h st b hb=>by
  have e:b=it:=by simpa using hb
  subst e
  obtain⟨o,e,c,d⟩:=st
  exact⟨o,e,fun v z=>by rw[d] at z;cases z⟩
 keep:=fun i h h' st k=>st.at fun o e=>k it (by simp) o e
 item:=by
  intro X hP hw hK hc i pins s σ H E I hf st hg
  subst hP hw hK
  obtain⟨xs,x,hq,hx⟩:=hg
  obtain⟨its,rv,p,hz⟩:=I.list hq
  obtain⟨u,hu,ru⟩:=rv.get hx
  obtain⟨f0,f1,f2,f3,f4,f5⟩:=hf it (by simp)
  refine wpAny_pyNext_list_item st p.isList (x:=u) (by simpa using hu) fun h' st' sb=>?_
  have I1:Inv X pins σ H {s with heap:=h'}:=I.turned (t':=s.toks) (fun b o hb e=>(sb.2 b hb).trans e) f0 f1 f3 f4 f5
  obtain⟨o,e,c,d⟩:=id st'
  exact⟨u,rfl,ym (s:={s with heap:=h'}) e c d (by decide) ⟨x,H,I1,ru,⟨rfl,fun ys hy=>by rw[I.list_inj hy hq];exact hx⟩,st',fun b hb=>(hf b hb).1⟩⟩
 done:=by
  intro X hP hw hK hc i pins s σ H E I hf st hg
  subst hP hw hK
  obtain⟨xs,hq,hx⟩:=hg
  obtain⟨its,rv,p,hz⟩:=I.list hq
  obtain⟨f0,f1,f2,f3,f4,f5⟩:=hf it (by simp)
  have hl:=rv.length
  exact wpAny_pyNext_list_end (I.ok.hd hc) st p.isList (by simp;omega) fun h' eb=>⟨rfl,I.turned (t':=s.toks) (fun b o hb e=>eb b o hb e) f0 f1 f3 f4 f5⟩
 self:=fun _ _ _ _ _ st h=>wpAny_pyIter_listiter st h
theorem pO {P:Program}{w:World}{K:PySem.W.Frag}{tg:Expr}(a it:Addr):Turn P w K tg (EF K a) [it] it (fun i h=>h.IsTupleIter it a i) where
 mem:=by simp
 obj:=fun i h st b hb=>by
  have e:b=it:=by simpa using hb
  subst e
  obtain⟨o,e,c,d⟩:=st
  exact⟨o,e,fun v z=>by rw[d] at z;cases z⟩
 keep:=fun i h h' st k=>st.at fun o e=>k it (by simp) o e
 item:=by
  intro X hP hw hK hc i pins s σ H E I hf st hg
  subst hP hw hK
  obtain⟨xs,x,hq,hx⟩:=hg
  obtain⟨its,rv,p,hz⟩:=I.tuple hq
  obtain⟨u,hu,ru⟩:=rv.get hx
  obtain⟨f0,f1,f2,f3,f4,f5⟩:=hf it (by simp)
  refine wpAny_pyNext_tuple_item st (show s.heap.IsTuple a its.toArray from p) (x:=u) (by simpa using hu) fun h' st' sb=>?_
  have I1:Inv X pins σ H {s with heap:=h'}:=I.turned (t':=s.toks) (fun b o hb e=>(sb.2 b hb).trans e) f0 f1 f3 f4 f5
  obtain⟨o,e,c,d⟩:=id st'
  exact⟨u,rfl,ym (s:={s with heap:=h'}) e c d (by decide) ⟨x,H,I1,ru,⟨rfl,fun ys hy=>by rw[I.tuple_inj hy hq];exact hx⟩,st',fun b hb=>(hf b hb).1⟩⟩
 done:=by
  intro X hP hw hK hc i pins s σ H E I hf st hg
  subst hP hw hK
  obtain⟨xs,hq,hx⟩:=hg
  obtain⟨its,rv,p,hz⟩:=I.tuple hq
  obtain⟨f0,f1,f2,f3,f4,f5⟩:=hf it (by simp)
  have hl:=rv.length
  exact wpAny_pyNext_tuple_end (I.ok.hd hc) st (show s.heap.IsTuple a its.toArray from p) (by simp;omega) fun h' eb=>⟨rfl,I.turned (t':=s.toks) (fun b o hb e=>eb b o hb e) f0 f1 f3 f4 f5⟩
 self:=fun _ _ _ _ _ st h=>wpAny_pyIter_tupleiter st h
theorem wA {P:Program}{w:World}{K:PySem.W.Frag}{tg:Expr}(it:Addr)(lo:Int)(n:Nat):Turn P w K tg (zk lo n) [it] it (fun i h=>IsRangeIter h it (lo + (i:Nat) * 1) ((n:Int) - (i:Nat)) 1) where
 mem:=by simp
 obj:=fun i h st b hb=>by
  have e:b=it:=by simpa using hb
  subst e
  exact⟨_,st,fun v z=>by
   have z':Data.fields _=Data.cell v:=z
   cases z'⟩
 keep:=fun i h h' st k=>k it (by simp) _ st
 item:=by
  intro X hP hw hK hc i pins s σ H E I hf st hg
  subst hP hw hK
  obtain⟨f0,f1,f2,f3,f4,f5⟩:=hf it (by simp)
  have W:=Walks.range (prog:=X.prog) (w:=X.w) (I.ok.hd hc) it lo 1 n
  refine W.item i s _ _ hg st fun v h' tk hv st' kk=>?_
  obtain⟨t,rfl⟩:=hv
  have I1:Inv X pins σ H {s with heap:=h',toks:=tk}:=I.turned (fun b o hb e=>kk b o (by simpa using hb) e) f0 f1 f3 f4 f5
  refine⟨_,rfl,ym (s:={s with heap:=h',toks:=tk}) (n:="range_iterator") st' rfl rfl (by decide) ⟨.int (lo + i),H,I1,⟨t,?_⟩,⟨rfl,rfl⟩,st',fun b hb=>(hf b hb).1⟩⟩
  rw[Int.mul_one]
 done:=by
  intro X hP hw hK hc i pins s σ H E I hf st hg
  subst hP hw hK
  obtain⟨f0,f1,f2,f3,f4,f5⟩:=hf it (by simp)
  exact wpAny_pyNext_range_end (I.ok.hd hc) st (by have:n<=i:=hg;omega) fun h' eb=>⟨rfl,I.turned (t':=s.toks) (fun b o hb e=>eb b o hb e) f0 f1 f3 f4 f5⟩
 self:=fun _ _ _ _ _ st h=>wpAny_pyIter_rangeiter st h
end L2
namespace L2
open PySem PySem.Spec PyProof.Rows
section
variable {X:Cx}{tg:Expr}
def Hh (K:PySem.W.Frag)(tl:TE):TI:=fun σ H R=>tl σ H fun x H1=>∃a,x=.ref a/\(∃xs,gk K H1 a xs)/\R (zO K a) H1
theorem xO {l:Expr}{tl:TE}(hl:PE X l tl):PI X tg l (Hh X.K tl):=by
 intro pins s σ H R I h
 refine cK (hl pins s σ H _ I h) fun v s1 ⟨x,H1,I1,r1,q1⟩=>?_
 obtain⟨a,e,⟨xs,hq⟩,q⟩:=q1
 subst e
 cases r1
 obtain⟨its,rv,p,hz⟩:=I1.list hq
 refine wpAny_pyIter_list p.isList ?_
 refine⟨s1.heap.objs.size,[s1.heap.objs.size],_,_,H1,rfl,I1.kept (t':=s1.toks) fun b o e=>Heap.get?_push_of_some _ e,mW a _,⟨_,Heap.get?_push_size _ rfl,rfl,rfl⟩,fun b hb=>?_,q⟩
 have e:b=s1.heap.objs.size:=by simpa using hb
 subst e
 exact I1.fpOk (Nat.le_refl _) (I1.hok.fresh (Nat.le_refl _))
theorem ur {pins:List (Addr×Obj)}{σ:St}{H:Hp}{s:Shared}{R:It->Hp->Prop}{E:Value->Shared->Prop}{lo hi:Int}{t u v:Tok}{tk:Nat}(I:Inv X pins σ H s)(h1: -(2 ^ 62)<=lo)(h2:lo < 2 ^ 62)(h3: -(2 ^ 62)<=hi)(h4:hi < 2 ^ 62)
  (q:R (zk lo (hi - lo).toNat) H):wpAny (model X.prog X.w) X.A (pyIter (.ref s.heap.objs.size)) (JE X pins σ tg R) E {s with heap:=s.heap.push {cls:=.type "range",data:=.fields #[.int lo t,.int hi u,.int 1 v]},toks:=tk}:=by
 refine wpAny_pyIter_range (IsRange.new ..) (small_one h1 h2 h3 h4) ?_
 have I1:Inv X pins σ H {s with heap:=s.heap.push {cls:=.type "range",data:=.fields #[.int lo t,.int hi u,.int 1 v]},toks:=tk}:=I.kept fun b o e=>Heap.get?_push_of_some _ e
 refine⟨(s.heap.push {cls:=.type "range",data:=.fields #[.int lo t,.int hi u,.int 1 v]}).objs.size,[(s.heap.push {cls:=.type "range",data:=.fields #[.int lo t,.int hi u,.int 1 v]}).objs.size],_,_,H,rfl,
  I1.kept (t':=tk) fun b o e=>Heap.get?_push_of_some _ e,wA _ lo (hi - lo).toNat,?_,fun b hb=>?_,q⟩
 ·have e1:lo + ((0:Nat):Int) * 1=lo:=by simp
  have e2:(((hi - lo).toNat:Nat):Int) - ((0:Nat):Int)=Builtin.Range.rangeSize lo hi 1:=by rw[rangeSize_one];split <;> omega
  show IsRangeIter _ _ (lo + ((0:Nat):Int) * 1) ((((hi - lo).toNat:Nat):Int) - ((0:Nat):Int)) 1
  rw[e1,e2]
  exact Heap.get?_push_size _ rfl
 ·have e:b=(s.heap.push {cls:=.type "range",data:=.fields #[.int lo t,.int hi u,.int 1 v]}).objs.size:=by simpa using hb
  subst e
  exact I1.fpOk (Nat.le_refl _) (I1.hok.fresh (Nat.le_refl _))
def HC (ta:TA):TI:=fun σ H R=>ta σ H fun vs H1=>∃j:Int,vs= [.int j]/\ -(2 ^ 62)<=j/\j < 2 ^ 62/\R (zk 0 j.toNat) H1
def Hr (ta:TA):TI:=fun σ H R=>ta σ H fun vs H1=>∃i j:Int,vs= [.int i,.int j]/\(-(2 ^ 62)<=i/\i < 2 ^ 62/\ -(2 ^ 62)<=j/\j < 2 ^ 62)/\R (zk i (j - i).toNat) H1
theorem kE {a:Expr}{ta:TA}{p pos:Pos}(hg:Gl X "range")(hm:X.mg "range"=none)(ha:PA X [a] ta)(hs:starEach [a] X.env= [(false,eval a X.env)]:=by rfl):PI X tg (.Call (.Name "range" p) [a] [] pos) (HC ta):=by
 intro pins s σ H R I h
 refine Call_ (ki I hg hm boot_range (PyProof.Rows.callWith_type1 (cK (ha pos pins s σ H _ I h) fun us s1 ⟨vs,H1,I1,r1,q1⟩=>?_) hs rfl))
 obtain⟨j,e,q1,q2,q⟩:=q1
 subst e
 cases r1 with
 |cons r rr=>
  cases rr
  obtain⟨t,rfl⟩:=r
  exact call_range_1 (ur I1 (by omega) (by omega) q1 q2 (by simpa using q))
theorem yE {a b:Expr}{ta:TA}{p pos:Pos}(hg:Gl X "range")(hm:X.mg "range"=none)(ha:PA X [a,b] ta)(hs:starEach [a,b] X.env= [(false,eval a X.env),(false,eval b X.env)]:=by rfl)(hs2:starEach [b] X.env= [(false,eval b X.env)]:=by rfl) :
  PI X tg (.Call (.Name "range" p) [a,b] [] pos) (Hr ta):=by
 intro pins s σ H R I h
 refine Call_ (ki I hg hm boot_range (PyProof.Rows.callWith_type1 (cK (ha pos pins s σ H _ I h) fun us s1 ⟨vs,H1,I1,r1,q1⟩=>?_) (by rw[hs,hs2]) (by rw[hs2];rfl)))
 obtain⟨i,j,e,⟨q1,q2,q3,q4⟩,q⟩:=q1
 subst e
 cases r1 with
 |cons r rr=>
  cases rr with
  |cons r' rr=>
   cases rr
   obtain⟨t,rfl⟩:=r
   obtain⟨t',rfl⟩:=r'
   exact call_range_2 (ur I1 q1 q2 q3 q4 q)
def J4 (wi:TI)(g:TG)(tb:TS):TS:=fun D σ H=>wi σ H fun J H1=>∃W:Nat->Nat->St->Hp->Prop,(∃m,W 0 m σ H1)/\∀i m σ H,W i m σ H->
 (J.stop i H/\D.nx σ H)\/(J.go i H/\∃N:St->Hp->Prop,(∀σ' H',N σ' H'->∃m',m' < m/\W (i + 1) m' σ' H')/\∀x H',J.yld i H x H'->g x σ H' fun σ2 H2=>tb {D with nx:=N,ct:=N,bk:=D.nx} σ2 H2)
def oB (fp:List Addr)(h:Heap):List (Addr×Obj):=fp.filterMap fun b=>(h.get? b).map fun o=>(b,o)
theorem js {fp:List Addr}{h:Heap}{b:Addr}{o:Obj}(hb:b∈fp)(e:h.get? b=some o):(b,o)∈oB fp h:=List.mem_filterMap.mpr ⟨b,hb,by rw[e];rfl⟩
theorem zE {fp:List Addr}{h:Heap}{p:Addr×Obj}(hp:p∈oB fp h):p.1∈fp/\h.get? p.1=some p.2:=by
 obtain⟨b,hb,e⟩:=List.mem_filterMap.mp hp
 cases q:h.get? b with
 |none=>rw[q] at e;cases e
 |some o=>
  rw[q] at e
  have e':(b,o)=p:=Option.some.inj e
  subst e'
  exact⟨hb,q⟩
theorem Inv.pinned {pins:List (Addr×Obj)}{σ:St}{H:Hp}{s:Shared}{fp:List Addr}(I:Inv X pins σ H s)(hf:∀b∈fp,mU X pins H b)(ho:∀b∈fp,∃o,s.heap.get? b=some o/\∀v,o.data≠.cell v):Inv X (pins ++ oB fp s.heap) σ H s:=
 I.pins_of fun p hp=>(List.mem_append.mp hp).elim (fun z=>I.pin p (List.mem_append_right _ z)) fun z=>by
  obtain⟨hb,e⟩:=zE z
  obtain⟨f0,f1,f2,_⟩:=hf p.1 hb
  obtain⟨o,e',d⟩:=ho p.1 hb
  rw[e] at e';cases e'
  exact⟨e,f0,f1,f2,d⟩
theorem Inv.unpinned {pins pl:List (Addr×Obj)}{σ:St}{H:Hp}{s:Shared}(I:Inv X (pins ++ pl) σ H s):Inv X pins σ H s:=I.pins_of fun p hp=>I.pin p (List.mem_append_right _ (List.mem_append_left _ hp))
theorem sg {iter:Expr}{body:List Stmt}{wi:TI}{g:TG}{tb:TS}{pos:Pos}(hp:PassesOwn (model X.prog X.w) X.A X.env X.xe)(hc:X.calm=true)(hi:PI X tg iter wi)(hg:PG X tg g)(hb:rb X body tb)
  (hs:∀x,foldedSetIterable iter X.env x=pure x:=by intro _;rfl):PS X (.For tg iter body [] pos) (J4 wi g tb):=by
 intro pins s σ H D I h
 refine wpAny_For (cK (hi pins s σ H _ I h) fun v s1 h1=>cK h1 fun itv s2 h2=>?_) hs
 obtain⟨it,fp,tn,J,H2,e,I2,T,st2,f2,W,⟨m0,w0⟩,turn⟩:=h2
 subst e
 have stat:∀{H':Hp},(∀b∈fp,H' b=none)->∀b∈fp,mU X pins H' b:=fun hn b hb=>⟨hn b hb,(f2 b hb).2⟩
 refine codeAny_forLoop_any (fun n s'=>∃i σ' H',Inv X pins σ' H' s'/\tn i s'.heap/\(∀b∈fp,H' b=none)/\W i n σ' H') ?_ m0 ⟨0,σ,H2,I2,st2,fun b hb=>(f2 b hb).1,w0⟩
 rintro n s3 ⟨i,σ3,H3,I3,st3,fr3,w3⟩
 rcases turn i n σ3 H3 w3 with⟨stop,qn⟩ | ⟨go,N,hN,step⟩
 ·refine wpAny_passesOwn hp (cK (T.done X rfl rfl rfl hc i pins s3 σ3 H3 X.xe I3 (stat fr3) st3 stop) fun r s4 ⟨hr,I4⟩=>?_)
  subst hr
  exact wpAny_execs_nil ⟨σ3,H3,I4,qn⟩
 ·refine wpAny_passesOwn hp (cK (T.item X rfl rfl rfl hc i pins s3 σ3 H3 X.xe I3 (stat fr3) st3 go) fun r s4 ⟨u,hr,h4⟩=>?_)
  subst hr
  refine wpAny_passesOwn hp (cK h4 fun _ s5 ⟨x,H5,I5,r5,y5,st5,fr5⟩=>?_)
  have I5':=I5.pinned (stat fr5) (T.obj _ _ st5)
  refine wpAny_passesOwn hp (cK (hg _ s5 σ3 H5 x u _ I5' r5 (step x H5 y5)) fun _ s6 ⟨σ6,H6,I6,q6⟩=>?_)
  refine wpAny_passesOwn hp (cK (hb _ s6 σ6 H6 _ I6 q6) fun f s7 q7=>?_)
  have again:∀{σ7:St} {H7:Hp},Inv X (pins ++ oB fp s5.heap) σ7 H7 s7->N σ7 H7->∃m,m < n/\∃i σ' H',Inv X pins σ' H' s7/\tn i s7.heap/\(∀b∈fp,H' b=none)/\W i m σ' H':=fun {σ7 H7} I7 n7=>by
   obtain⟨m',hm,w7⟩:=hN σ7 H7 n7
   refine⟨m',hm,i + 1,σ7,H7,I7.unpinned,T.keep _ _ _ st5 fun b hb o e=>(I7.pin (b,o) (List.mem_append_right _ (List.mem_append_right _ (js hb e)))).1,fun b hb=>?_,w7⟩
   obtain⟨o,e,d⟩:=T.obj _ _ st5 b hb
   exact (I7.pin (b,o) (List.mem_append_right _ (List.mem_append_right _ (js hb e)))).2.1
  cases f with
  |next=>obtain⟨σ7,H7,I7,n7⟩:=q7;exact again I7 n7
  |cont=>obtain⟨σ7,H7,I7,n7⟩:=q7;exact again I7 n7
  |brk=>obtain⟨σ7,H7,I7,q7⟩:=q7;exact⟨σ7,H7,I7.unpinned,q7⟩
  |ret v=>obtain⟨x7,σ7,H7,I7,r7,q7⟩:=q7;exact⟨x7,σ7,H7,I7.unpinned,r7,q7⟩
end
theorem u4 {K:PySem.W.Frag}{a:Addr}{xs:List V}{g:TG}{tb:TS}{D:Ends}{σ:St}{H:Hp}(Pv:Nat->St->Hp->Prop)(h0:Pv 0 σ H)(hl:∀i σ H,i<=xs.length->Pv i σ H->gk K H a xs)
  (hs:∀i x σ H,xs[i]? =some x->Pv i σ H->g x σ H fun σ2 H2=>tb {D with nx:=Pv (i + 1),ct:=Pv (i + 1),bk:=D.nx} σ2 H2) (hd:∀σ H,Pv xs.length σ H->D.nx σ H) :
  ∃W:Nat->Nat->St->Hp->Prop,(∃m,W 0 m σ H)/\∀i m σ H,W i m σ H->
   ((zO K a).stop i H/\D.nx σ H)\/((zO K a).go i H/\∃N:St->Hp->Prop,(∀σ' H',N σ' H'->∃m',m' < m/\W (i + 1) m' σ' H')/\∀x H',(zO K a).yld i H x H'->g x σ H' fun σ2 H2=>tb {D with nx:=N,ct:=N,bk:=D.nx} σ2 H2):=by
 refine⟨fun i m σ H=>m=xs.length - i/\i<=xs.length/\Pv i σ H,⟨xs.length,by simp,Nat.zero_le _,h0⟩,?_⟩
 rintro i m σ H ⟨rfl,hi,p⟩
 have q:=hl i σ H hi p
 by_cases hlt:i < xs.length
 ·refine .inr ⟨⟨xs,xs[i],q,by simp[hlt]⟩,Pv (i + 1),fun σ' H' p'=>⟨xs.length - (i + 1),by omega,rfl,hlt,p'⟩,fun x H' y=>?_⟩
  obtain⟨e,y⟩:=y
  subst e
  exact hs i x σ _ (y xs q) p
 ·have e:i=xs.length:=by omega
  subst e
  exact .inl ⟨⟨xs,q,Nat.le_refl _⟩,hd σ H p⟩
theorem Dc {K:PySem.W.Frag}{a:Addr}{xs:List V}{g:TG}{tb:TS}{D:Ends}{σ:St}{H:Hp}(Pv:Nat->St->Hp->Prop)(h0:Pv 0 σ H)(hl:∀i σ H,i<=xs.length->Pv i σ H->fy K H a xs)
  (hs:∀i x σ H,xs[i]? =some x->Pv i σ H->g x σ H fun σ2 H2=>tb {D with nx:=Pv (i + 1),ct:=Pv (i + 1),bk:=D.nx} σ2 H2) (hd:∀σ H,Pv xs.length σ H->D.nx σ H) :
  ∃W:Nat->Nat->St->Hp->Prop,(∃m,W 0 m σ H)/\∀i m σ H,W i m σ H->
   ((EF K a).stop i H/\D.nx σ H)\/((EF K a).go i H/\∃N:St->Hp->Prop,(∀σ' H',N σ' H'->∃m',m' < m/\W (i + 1) m' σ' H')/\∀x H',(EF K a).yld i H x H'->g x σ H' fun σ2 H2=>tb {D with nx:=N,ct:=N,bk:=D.nx} σ2 H2):=by
 refine⟨fun i m σ H=>m=xs.length - i/\i<=xs.length/\Pv i σ H,⟨xs.length,by simp,Nat.zero_le _,h0⟩,?_⟩
 rintro i m σ H ⟨rfl,hi,p⟩
 have q:=hl i σ H hi p
 by_cases hlt:i < xs.length
 ·refine .inr ⟨⟨xs,xs[i],q,by simp[hlt]⟩,Pv (i + 1),fun σ' H' p'=>⟨xs.length - (i + 1),by omega,rfl,hlt,p'⟩,fun x H' y=>?_⟩
  obtain⟨e,y⟩:=y
  subst e
  exact hs i x σ _ (y xs q) p
 ·have e:i=xs.length:=by omega
  subst e
  exact .inl ⟨⟨xs,q,Nat.le_refl _⟩,hd σ H p⟩
theorem yA {lo:Int}{n:Nat}{g:TG}{tb:TS}{D:Ends}{σ:St}{H:Hp}(Pv:Nat->St->Hp->Prop)(h0:Pv 0 σ H)
  (hs:∀i σ H,i < n->Pv i σ H->g (.int (lo + i)) σ H fun σ2 H2=>tb {D with nx:=Pv (i + 1),ct:=Pv (i + 1),bk:=D.nx} σ2 H2) (hd:∀σ H,Pv n σ H->D.nx σ H) :
  ∃W:Nat->Nat->St->Hp->Prop,(∃m,W 0 m σ H)/\∀i m σ H,W i m σ H->
   ((zk lo n).stop i H/\D.nx σ H)\/((zk lo n).go i H/\∃N:St->Hp->Prop,(∀σ' H',N σ' H'->∃m',m' < m/\W (i + 1) m' σ' H')/\∀x H',(zk lo n).yld i H x H'->g x σ H' fun σ2 H2=>tb {D with nx:=N,ct:=N,bk:=D.nx} σ2 H2):=by
 refine⟨fun i m σ H=>m=n - i/\i<=n/\Pv i σ H,⟨n,by simp,Nat.zero_le _,h0⟩,?_⟩
 rintro i m σ H ⟨rfl,hi,p⟩
 by_cases hlt:i < n
 ·refine .inr ⟨hlt,Pv (i + 1),fun σ' H' p'=>⟨n - (i + 1),by omega,rfl,hlt,p'⟩,fun x H' y=>?_⟩
  obtain⟨e,y⟩:=y
  subst e y
  exact hs i σ _ hlt p
 ·have e:i=n:=by omega
  subst e
  exact .inl ⟨Nat.le_refl _,hd σ H p⟩
end L2
namespace L2
open PySem PySem.Spec PyProof.Rows
abbrev R2:=V->V->Hp->VK->Prop
def lG (X:Cx)(f:Value->Value->Sem Value)(r:R2):Prop:=
 ∀(pins:List (Addr×Obj)) (s:Shared) (σ:St) (H:Hp) (x y:V) (v u:Value) (Q:VK),Inv X pins σ H s->RelV x v->RelV y u->r x y H Q->
  wpAny (model X.prog X.w) X.A (f v u) (EP X pins σ Q) X.xe s
def IU (X:Cx)(f:Value->Sem Value)(r:V->Hp->VK->Prop):Prop:=
 ∀(pins:List (Addr×Obj)) (s:Shared) (σ:St) (H:Hp) (x:V) (v:Value) (Q:VK),Inv X pins σ H s->RelV x v->r x H Q->
  wpAny (model X.prog X.w) X.A (f v) (EP X pins σ Q) X.xe s
def cX (X:Cx)(f:Value)(r:List V->Hp->VK->Prop):Prop:=
 ∀(pins:List (Addr×Obj)) (s:Shared) (σ:St) (H:Hp) (xs:List V) (us:List Value) (Q:VK),Inv X pins σ H s->Vals xs us->r xs H Q->
  wpAny (model X.prog X.w) X.A (call f us) (EP X pins σ Q) X.xe s
def IY (X:Cx)(r:V->Hp->(Bool->Hp->Prop)->Prop):Prop:=
 ∀(pins:List (Addr×Obj)) (s:Shared) (σ:St) (H:Hp) (x:V) (v:Value) (Q:Bool->Hp->Prop),Inv X pins σ H s->RelV x v->r x H Q->
  wpAny (model X.prog X.w) X.A (truthy v) (TP X pins σ Q) X.xe s
def IE (r:R2)(ta tb:TE):TE:=fun σ H Q=>ta σ H fun x H1=>tb σ H1 fun y H2=>r x y H2 Q
def Kl (r:V->Hp->VK->Prop)(ta:TE):TE:=fun σ H Q=>ta σ H fun x H1=>r x H1 Q
def rI (C:Int->Int->Prop)(g:Int->Int->V):R2:=fun x y H Q=>∃i j,x=.int i/\y=.int j/\C i j/\Q (g i j) H
def si (g:Int->Int->V):R2:=fun x y H Q=>∃i j,x=.int i/\y=.int j/\Q (g i j) H
def rU (g:Int->V):V->Hp->VK->Prop:=fun x H Q=>∃i,x=.int i/\Q (g i) H
section
variable {X:Cx}{a b c:Expr}{ta tb tc:TE}{pos:Pos}
theorem EK (ha:PE X a ta)(hb:PE X b tb){pins:List (Addr×Obj)}{s:Shared}{σ:St}{H:Hp}{R:V->V->Hp->Prop}(I:Inv X pins σ H s)
  (h:ta σ H fun x H1=>tb σ H1 fun y H2=>R x y H2) {Q:Value->Shared->Prop} {f:Value->Value->Sem Value}
  (hf:∀v u s2 x y H2,Inv X pins σ H2 s2->RelV x v->RelV y u->R x y H2->wpAny (model X.prog X.w) X.A (f v u) Q X.xe s2) :
  wpAny (model X.prog X.w) X.A (eval a X.env) (fun v s₁=>wpAny (model X.prog X.w) X.A (eval b X.env) (fun u s₂=>wpAny (model X.prog X.w) X.A (f v u) Q X.xe s₂) X.xe s₁) X.xe s:=by
 refine cK (ha pins s σ H _ I h) fun v s1 ⟨x,H1,I1,r1,q1⟩=>?_
 refine cK (hb pins s1 σ H1 _ I1 q1) fun u s2 ⟨y,H2,I2,r2,q2⟩=>?_
 exact hf v u s2 x y H2 I2 r1 r2 q2
theorem qz {op:Operator}{r:R2}(ho:lG X (binaryOp op) r)(ha:PE X a ta)(hb:PE X b tb):PE X (.BinOp a op b pos) (IE r ta tb):=by
 intro pins s σ H Q I h
 exact wpAny_BinOp (EK ha hb I h fun v u s2 x y H2 I2 rx ry q=>ho pins s2 σ H2 x y v u Q I2 rx ry q)
theorem Ic {op:UnaryOp}{r:V->Hp->VK->Prop}(ho:IU X (unaryOp op) r)(ha:PE X a ta):PE X (.UnaryOp op a pos) (Kl r ta):=by
 intro pins s σ H Q I h
 exact UnaryOp_ (cK (ha pins s σ H _ I h) fun v s1 ⟨x,H1,I1,r1,q1⟩=>ho pins s1 σ H1 x v Q I1 r1 q1)
theorem IB {f:Value->Value->Sem Value}{C:Int->Int->Prop}{g:Int->Int->Int}
  (rule:∀(i j:Int) (t u:Tok) (s:Shared) (Q:Value->Shared->Prop) (E:Value->Shared->Prop),C i j->Q (.int (g i j) s.toks) {s with toks:=s.toks + 1}->wpAny (model X.prog X.w) X.A (f (.int i t) (.int j u)) Q E s) :
  lG X f (rI C fun i j=>.int (g i j)):=by
 intro pins s σ H x y v u Q I rx ry h
 obtain⟨i,j,rfl,rfl,hc,q⟩:=h
 obtain⟨t,rfl⟩:=rx
 obtain⟨t',rfl⟩:=ry
 exact rule i j t t' s _ _ hc ⟨.int (g i j),H,I.tok _,⟨_,rfl⟩,q⟩
theorem DF {f:Value->Value->Sem Value}{g:Int->Int->Int}
  (rule:∀(i j:Int) (t u:Tok) (s:Shared) (Q:Value->Shared->Prop) (E:Value->Shared->Prop),Q (.int (g i j) s.toks) {s with toks:=s.toks + 1}->wpAny (model X.prog X.w) X.A (f (.int i t) (.int j u)) Q E s) :
  lG X f (si fun i j=>.int (g i j)):=by
 intro pins s σ H x y v u Q I rx ry h
 obtain⟨i,j,rfl,rfl,q⟩:=h
 obtain⟨t,rfl⟩:=rx
 obtain⟨t',rfl⟩:=ry
 exact rule i j t t' s _ _ ⟨.int (g i j),H,I.tok _,⟨_,rfl⟩,q⟩
theorem DD {f:Value->Value->Sem Value}{g:Int->Int->Bool}
  (rule:∀(i j:Int) (t u:Tok) (s:Shared) (Q:Value->Shared->Prop) (E:Value->Shared->Prop),Q (.bool (g i j)) s->wpAny (model X.prog X.w) X.A (f (.int i t) (.int j u)) Q E s) :
  lG X f (si fun i j=>.bl (g i j)):=by
 intro pins s σ H x y v u Q I rx ry h
 obtain⟨i,j,rfl,rfl,q⟩:=h
 obtain⟨t,rfl⟩:=rx
 obtain⟨t',rfl⟩:=ry
 exact rule i j t t' s _ _ ⟨.bl (g i j),H,I,rfl,q⟩
def Cz (i j:Int):Prop:=0 < j/\j < 1073741824
def Fv (i j:Int):Prop:=0<=j/\j<=1000000/\i.natAbs < 2 ^ 64
def A5 (i j:Int):Prop:=(-(2 ^ 64) < i/\i < 2 ^ 64)\/(-(2 ^ 64) < j/\j < 2 ^ 64)
theorem A5.ok {i j:Int}(h:A5 i j):IntMulOk i j:=by
 rcases h with⟨h1,h2⟩ | ⟨h1,h2⟩
 ·exact .of_left (intBits_le_64 h1 h2)
 ·exact .of_right (intBits_le_64 h1 h2)
theorem jA:lG X (binaryOp .Add) (si fun i j=>.int (i + j)):=DF fun _ _ _ _ _ _ _ q=>add_int q
theorem wI:lG X (binaryOp .Sub) (si fun i j=>.int (i - j)):=DF fun _ _ _ _ _ _ _ q=>sub_int q
theorem kq:lG X (binaryOp .Mult) (rI A5 fun i j=>.int (i * j)):=IB fun _ _ _ _ _ _ _ hc q=>mul_int q hc.ok
theorem mf:lG X (binaryOp .FloorDiv) (rI Cz fun i j=>.int (i / j)):=IB fun i j _ _ _ _ _ hc q=>by
 have h1:(0:Int) < j:=hc.1
 have h2:j < 1073741824:=hc.2
 exact floordiv_int (by omega) (by rw[Int.fdiv_eq_ediv_of_nonneg i (by omega)];exact q) (.inl (PyProof.noPylong_small (by omega)))
theorem lu:lG X (binaryOp .Mod) (rI (fun _ j=>0 < j) fun i j=>.int (i % j)):=IB fun i j _ _ _ _ _ hc q=>by
 have h1:(0:Int) < j:=hc
 exact mod_int' (by omega) (by rw[Int.fmod_eq_emod_of_nonneg i (by omega)];exact q)
theorem zY:lG X (binaryOp .LShift) (rI Fv fun i j=>.int (i * 2 ^ j.toNat)):=IB fun _ _ _ _ _ _ _ hc q=>lshift_int_small hc.1 hc.2.1 hc.2.2 q
theorem Gw:lG X (binaryOp .BitAnd) (si fun i j=>.int (Builtin.bitAnd i j)):=DF fun _ _ _ _ _ _ _ q=>and_int q
theorem Ie:lG X (binaryOp .BitOr) (si fun i j=>.int (Builtin.bitOr i j)):=DF fun _ _ _ _ _ _ _ q=>or_int q
theorem Kt {f:Value->Sem Value}{g:Int->Int}
  (rule:∀(i:Int) (t:Tok) (s:Shared) (Q:Value->Shared->Prop) (E:Value->Shared->Prop),Q (.int (g i) s.toks) {s with toks:=s.toks + 1}->wpAny (model X.prog X.w) X.A (f (.int i t)) Q E s) :
  IU X f (rU fun i=>.int (g i)):=by
 intro pins s σ H x v Q I rx h
 obtain⟨i,rfl,q⟩:=h
 obtain⟨t,rfl⟩:=rx
 exact rule i t s _ _ ⟨.int (g i),H,I.tok _,⟨_,rfl⟩,q⟩
theorem vC:IU X (unaryOp .USub) (rU fun i=>.int (-i)):=Kt fun _ _ _ _ _ q=>neg_int q
end
section
variable {X:Cx}{a b c:Expr}{ta tb tc:TE}{pos:Pos}
theorem uc:lG X (compareOp .Lt) (si fun i j=>.bl (decide (i < j))):=DD fun _ _ _ _ _ _ _ q=>lt_int q
theorem Bl:lG X (compareOp .LtE) (si fun i j=>.bl (decide (i<=j))):=DD fun _ _ _ _ _ _ _ q=>le_int q
theorem GY:lG X (compareOp .Gt) (si fun i j=>.bl (decide (j < i))):=DD fun _ _ _ _ _ _ _ q=>gt_int q
theorem HE:lG X (compareOp .GtE) (si fun i j=>.bl (decide (j<=i))):=DD fun _ _ _ _ _ _ _ q=>ge_int q
theorem a9 (b:Expr){op:CmpOp}(h:op≠.In:=by decide)(h2:op≠.NotIn:=by decide):behindInMarks op b=false:=by
 have e1:(op == CmpOp.In)=false:=by cases op <;> first |rfl |exact absurd rfl h
 have e2:(op == CmpOp.NotIn)=false:=by cases op <;> first |rfl |exact absurd rfl h2
 cases b <;> simp[behindInMarks,e1,e2]
theorem Dy {op:CmpOp}{r:R2}(ho:lG X (compareOp op) r)(ha:PE X a ta)(hb:PE X b tb)(hm:behindInMarks op b=false):PE X (.Compare a [op] [b] pos) (IE r ta tb):=by
 intro pins s σ H Q I h
 exact wpAny_Compare1 (EK ha hb I h fun v u s2 x y H2 I2 rx ry q=>ho pins s2 σ H2 x y v u Q I2 rx ry q) hm
def HV (t:TE):TT:=fun σ H Q=>t σ H fun x H'=>∃k,x=.bl k/\Q k H'
theorem DO {op:CmpOp}{r:R2}(ho:lG X (compareOp op) r)(ha:PE X a ta)(hb:PE X b tb)(hm:behindInMarks op b=false):PT X (.Compare a [op] [b] pos) (HV (IE r ta tb)):=by
 intro pins s σ H Q I h
 refine wpAny_isTrue_Compare1 (cK (ha pins s σ H _ I h) fun v s1 ⟨x,H1,I1,r1,q1⟩=>cK (hb pins s1 σ H1 _ I1 q1) fun u s2 ⟨y,H2,I2,r2,q2⟩=>
  cK (ho pins s2 σ H2 x y v u _ I2 r1 r2 q2) fun c s3 ⟨z,H3,I3,r3,k,e,q3⟩=>?_) hm
 subst e
 cases r3
 exact wpAny_truthy_bool ⟨H3,I3,q3⟩
def Fg (r r':R2)(ta tb tc:TE):TE:=fun σ H Q=>ta σ H fun x H1=>tb σ H1 fun y H2=>r x y H2 fun z H3=>∃k,z=.bl k/\
 (if k=true then tc σ H3 fun w' H4=>r' y w' H4 Q else Q (.bl false) H3)
theorem Af {op op':CmpOp}{r r':R2}(ho:lG X (compareOp op) r)(ho':lG X (compareOp op') r')(ha:PE X a ta)(hb:PE X b tb)(hc:PE X c tc)
  (hm:lastMarks [op,op'] [b,c]=false:=by with_unfolding_all rfl):PE X (.Compare a [op,op'] [b,c] pos) (Fg r r' ta tb tc):=by
 intro pins s σ H Q I h
 refine Compare_chain (cK (ha pins s σ H _ I h) fun v s1 ⟨x,H1,I1,r1,q1⟩=>chain_link (cK (hb pins s1 σ H1 _ I1 q1) fun u s2 ⟨y,H2,I2,r2,q2⟩=>
  cK (ho pins s2 σ H2 x y v u _ I2 r1 r2 q2) fun d s3 ⟨z,H3,I3,r3,k,e,q3⟩=>?_)) hm
 subst e
 cases r3
 refine wpAny_truthy_bool ?_
 cases k with
 |false=>exact ite_ff ⟨.bl false,H3,I3,rfl,q3⟩
 |true=>exact ite_tt (chain_last (cK (hc pins s3 σ H3 _ I3 q3) fun w' s4 ⟨z',H4,I4,r4,q4⟩=>ho' pins s4 σ H4 y z' u w' Q I4 r2 r4 q4))
def Hx (K:PySem.W.Frag)(x:V)(H:Hp)(k:Bool):Prop:=
 match x with
 | .non=>k=false
 | .bl b=>k=b
 | .int i=>k=(i != 0)
 | .str y=>y.length<=sizeLine/\k=((y.length:Int) != 0)
 | .byt y=>y.size<=sizeLine/\k=((y.size:Int) != 0)
 | .ref p=>(∃xs,gk K H p xs/\k= !xs.isEmpty)\/(∃xs,fy K H p xs/\k= !xs.isEmpty)\/∃kvs,H p=some (.dK kvs)/\k= !kvs.isEmpty
 |_=>False
theorem wq {κ:Type}{kvs:List (κ×V)}{vs:List (κ×Value)}(r:KV kvs vs):(!vs.isEmpty)= !kvs.isEmpty:=by
 cases r <;> rfl
theorem pK {xs:List V}{its:List Value}(r:Vals xs its):(!its.toArray.isEmpty)= !xs.isEmpty:=by
 cases r <;> simp
theorem mJ:(sizeLine:Nat) < 2 ^ 63:=by rw[sizeLine_eq];decide
theorem FK:IY X (fun x H Q=>∃k,Hx X.K x H k/\Q k H):=by
 intro pins s σ H x v Q I rx h
 obtain⟨k,e,q⟩:=h
 have hl:=mJ
 have hs:sizeLine=16777216:=sizeLine_eq
 cases x with
 |non=>
  cases rx
  have e':k=false:=e
  subst e'
  exact truthy_none ⟨H,I,q⟩
 |bl b=>
  cases rx
  have e':k=b:=e
  subst e'
  exact wpAny_truthy_bool ⟨H,I,q⟩
 |int i=>
  obtain⟨t,rfl⟩:=rx
  have e':k=(i != 0):=e
  subst e'
  exact PySem.P.truthy_int ⟨H,I,q⟩
 |str y=>
  obtain⟨t,rfl⟩:=rx
  obtain⟨hy,e'⟩:y.length<=sizeLine/\k=((y.length:Int) != 0):=e
  subst e'
  exact PySem.P.truthy_str (by omega) ⟨H,I.tok _,q⟩
 |byt y=>
  obtain⟨t,rfl⟩:=rx
  obtain⟨hy,e'⟩:y.size<=sizeLine/\k=((y.size:Int) != 0):=e
  subst e'
  exact PySem.W.truthy_bytes (by omega) ⟨H,I.tok _,q⟩
 |ref p=>
  cases rx
  have e':(∃xs,gk X.K H p xs/\k= !xs.isEmpty)\/(∃xs,fy X.K H p xs/\k= !xs.isEmpty)\/∃kvs,H p=some (.dK kvs)/\k= !kvs.isEmpty:=e
  rcases e' with⟨xs,hx,e'⟩ | ⟨xs,hx,e'⟩ | ⟨kvs,hx,e'⟩
  ·subst e'
   obtain⟨its,r,pl,hz⟩:=I.list hx
   have hlen:=r.length
   exact wpAny_truthy_list pl.isList (by simp only[List.size_toArray];omega) ⟨H,I.tok _,by rw[pK r];exact q⟩
  ·subst e'
   obtain⟨its,r,pl,hz⟩:=I.tuple hx
   have hlen:=r.length
   exact truthy_tuple pl (by simp only[List.size_toArray];omega) ⟨H,I.tok _,by rw[pK r];exact q⟩
  ·subst e'
   obtain⟨hz,hS,vs,r,m⟩:kvs.length<=sizeLine/\(p == sysModules)=false/\∃vs,KV kvs vs/\s.heap.DictOf (tf X.prog X.w) p vs:=I.hok p _ hx
   have hlen:kvs.length=vs.length:=Paired.length r
   exact wpAny_truthy_dict hS m (by omega) ⟨H,I.tok _,by rw[wq r];exact q⟩
 |_=>exact (show False from e).elim
theorem Au (ha:PE X a ta)(he:∀whole,isTrue a X.env whole=(do let v <-whole;standAt a.pos;holding [v] (truthy v))) :
  PT X a (fun σ H Q=>ta σ H fun x H'=>∃k,Hx X.K x H' k/\Q k H'):=by
 intro pins s σ H Q I h
 exact isTrue_plain (cK (ha pins s σ H _ I h) fun v s1 ⟨x,H1,I1,r1,q1⟩=>FK pins s1 σ H1 x v Q I1 r1 q1) (he _)
theorem vals1 {x:V}{us:List Value}(r:Vals [x] us):∃u,us= [u]/\RelV x u:=by
 cases r with
 |cons r1 r2=>cases r2;exact⟨_,rfl,r1⟩
theorem vals2 {x y:V}{us:List Value}(r:Vals [x,y] us):∃u w',us= [u,w']/\RelV x u/\RelV y w':=by
 cases r with
 |cons r1 r2=>
  cases r2 with
  |cons r3 r4=>cases r4;exact⟨_,_,rfl,r1,r3⟩
theorem Bw:cX X (.builtin "abs") (fun xs H Q=>∃i,xs= [.int i]/\Q (.int (if i < 0 then -i else i)) H):=by
 intro pins s σ H xs us Q I r h
 obtain⟨i,rfl,q⟩:=h
 obtain⟨u,rfl,t,rfl⟩:=vals1 r
 exact call_abs_int fun u tk=>⟨.int (if i < 0 then -i else i),H,I.tok _,⟨_,rfl⟩,q⟩
theorem yV (hc:X.calm=true):cX X (.builtin "max") (fun xs H Q=>∃i j,xs= [.int i,.int j]/\Q (.int (if j > i then j else i)) H):=by
 intro pins s σ H xs us Q I r h
 obtain⟨i,j,rfl,q⟩:=h
 obtain⟨u,w',rfl,⟨t,rfl⟩,⟨t',rfl⟩⟩:=vals2 r
 refine max_two_ints (I.ok.hd hc) fun h' tk k=>⟨_,H,I.kept k,?_,q⟩
 by_cases hj:j > i
 ·rw[if_pos hj,if_pos hj];exact⟨_,rfl⟩
 ·rw[if_neg hj,if_neg hj];exact⟨_,rfl⟩
theorem yQ (hc:X.calm=true):cX X (.builtin "min") (fun xs H Q=>∃i j,xs= [.int i,.int j]/\Q (.int (if j < i then j else i)) H):=by
 intro pins s σ H xs us Q I r h
 obtain⟨i,j,rfl,q⟩:=h
 obtain⟨u,w',rfl,⟨t,rfl⟩,⟨t',rfl⟩⟩:=vals2 r
 refine min_two_ints (I.ok.hd hc) fun h' tk k=>⟨_,H,I.kept k,?_,q⟩
 by_cases hj:j < i
 ·rw[if_pos hj,if_pos hj];exact⟨_,rfl⟩
 ·rw[if_neg hj,if_neg hj];exact⟨_,rfl⟩
def HZ (K:PySem.W.Frag)(x:V)(H:Hp)(n:Nat):Prop:=
 match x with
 | .str y=>y.length<=sizeLine/\n=y.length
 | .byt y=>y.size<=sizeLine/\n=y.size
 | .ref p=>(∃xs,gk K H p xs/\n=xs.length)\/∃xs,fy K H p xs/\n=xs.length
 |_=>False
theorem cV:cX X (.builtin "len") (fun xs H Q=>∃x n,xs= [x]/\HZ X.K x H n/\Q (.int n) H):=by
 intro pins s σ H xs us Q I r h
 obtain⟨x,n,rfl,e,q⟩:=h
 obtain⟨u,rfl,rx⟩:=vals1 r
 have hl:=mJ
 have hs:sizeLine=16777216:=sizeLine_eq
 cases x with
 |str y=>
  obtain⟨t,rfl⟩:=rx
  obtain⟨hy,e'⟩:y.length<=sizeLine/\n=y.length:=e
  subst e'
  exact len_str (by omega) ⟨.int _,H,I.tok _,⟨_,rfl⟩,q⟩
 |byt y=>
  obtain⟨t,rfl⟩:=rx
  obtain⟨hy,e'⟩:y.size<=sizeLine/\n=y.size:=e
  subst e'
  exact PySem.W.len_bytes (by omega) ⟨.int _,H,I.tok _,⟨_,rfl⟩,q⟩
 |ref p=>
  cases rx
  have e':(∃xs,gk X.K H p xs/\n=xs.length)\/∃xs,fy X.K H p xs/\n=xs.length:=e
  rcases e' with⟨xs,hx,e'⟩ | ⟨xs,hx,e'⟩
  ·subst e'
   obtain⟨its,r',pl,hz⟩:=I.list hx
   have hlen:=r'.length
   exact Calls.call_len_list pl.isList (by simp only[List.size_toArray];omega) ⟨.int xs.length,H,I.tok _,⟨_,by simp only[List.size_toArray];rw[hlen]⟩,q⟩
  ·subst e'
   obtain⟨its,r',pl,hz⟩:=I.tuple hx
   have hlen:=r'.length
   exact len_tuple pl (by simp only[List.size_toArray];omega) ⟨.int xs.length,H,I.tok _,⟨_,by simp only[List.size_toArray];rw[hlen]⟩,q⟩
 |_=>exact (show False from e).elim
theorem uB:cX X (.builtin "divmod") (fun xs H Q=>∃i j,xs= [.int i,.int j]/\Cz i j/\∀p,H p=none->Q (.ref p) (upd H p (.tup [.int (i / j),.int (i % j)]))):=by
 intro pins s σ H xs us Q I r h
 obtain⟨i,j,rfl,⟨h1,h2⟩,q⟩:=h
 obtain⟨u,w',rfl,⟨t,rfl⟩,⟨t',rfl⟩⟩:=vals2 r
 refine divmod_int (by omega) ?_ (.inl (PyProof.noPylong_small (by omega)))
 rw[Int.fdiv_eq_ediv_of_nonneg i (by omega),Int.fmod_eq_emod_of_nonneg i (by omega)]
 have hn:H s.heap.objs.size=none:=I.hok.fresh (Nat.le_refl _)
 refine⟨.ref s.heap.objs.size,_,?_,rfl,q _ hn⟩
 refine I.laid (fun b o e=>Heap.get?_push_of_some _ e) (Nat.le_refl _) ⟨by simp only[List.length_cons,List.length_nil];rw[sizeLine_eq];decide,[.int (i / j) s.toks,.int (i % j) (s.toks + 1)],.cons ⟨_,rfl⟩ (.cons ⟨_,rfl⟩ .nil),?_⟩
 exact⟨_,Heap.get?_push_size s.heap rfl,rfl,0,rfl,rfl⟩
end
end L2
namespace L2
open PySem PySem.Spec PyProof.Rows
structure Gy (h:Heap)(x dx C:Addr)(mA:Str->Option Value):Prop where
 obj:h.get? x=some (PySem.W.instObj C dx)
 ns:h.Ns1 dx mA
 ne:dx≠x
theorem zf {h:Heap}{dx:Addr}{mA:Str->Option Value}(n:h.Ns1 dx mA):∃od,h.get? dx=some od/\∀name,PySem.W.lookIn name od=some (mA name):=by
 obtain⟨o,es,ep,ho,hd,hk,_,hm⟩:=n
 refine⟨o,ho,fun name=>?_⟩
 have e:=hm name
 unfold nsFind findBy at e
 rw[<-Array.find?_toList] at e
 unfold PySem.W.lookIn
 rw[hd]
 dsimp only
 split
 ·rename_i y q
  rw[q] at e
  exact congrArg some e
 ·rename_i q
  rw[q] at e
  have a:es.toList.any (·.refKey)=false:=by
   rw[List.any_eq_false]
   intro y hy
   obtain⟨z,t,hkey⟩:=hk y (Array.mem_toList_iff.mp hy)
   simp[DictEntry.refKey,hkey]
  have a':¬es.toList.any (·.refKey)=true:=by rw[a];exact Bool.false_ne_true
  rw[if_neg a']
  exact congrArg some e
theorem Gy.look {h:Heap}{x dx C:Addr}{mA:Str->Option Value}(I:Gy h x dx C mA):∃od,PySem.W.InstAt h x (PySem.W.instObj C dx) C (some od)/\∀name,PySem.W.lookIn name od=some (mA name):=
 let ⟨od,ho,hl⟩:=zf I.ns
 ⟨od,⟨I.obj,rfl,rfl,ho⟩,hl⟩
section
variable {P:Program}{w:World}{H H':Hp}{h h':Heap}{a C dx:Addr}{fs fs':List (Str×V)}
theorem CF (hok:lh P w H h)(e:H a=some (.ins C dx fs)):∃mA,Gy h a dx C mA/\(∀f,EJ (fs.lookup f) (mA f))/\PySem.Within mA (fs.map (·.1))/\fs.length<=1000/\H dx=some (.own a):=by
 obtain⟨d,z,ne,ob,mA,n,r,q⟩:=(show cB P w H h a (.ins C dx fs) from hok a _ e)
 exact⟨mA,⟨ob,n,ne⟩,r,q,z,d⟩
end
structure JR (K:PySem.W.Frag)(C:Addr):Prop where
 pg:PySem.W.plainGet K C Str.empty=true
 hd:PySem.W.hasDictIn K C=true
 po:PySem.W.plainOver K C=true
 sa:PySem.W.findIn K (.ref C) "__setattr__"=some (some (.builtin "object.__setattr__"))
theorem JR.get {K:PySem.W.Frag}{C:Addr}(c:JR K C)(f:Str):PySem.W.plainGet K C f=true:=c.pg
section
variable {X:Cx}{pins:List (Addr×Obj)}{σ:St}{H:Hp}{s:Shared}{A:Around}{E:Value->Shared->Prop}{Q:Value->Shared->Prop}{c:Value}{b:Bool}
inductive nH (K:PySem.W.Frag)(H:Hp):V->Value->Prop where
 |non:nH K H .non (.type "NoneType")
 |bl (x:Bool):nH K H (.bl x) (.type "bool")
 |int (i:Int):nH K H (.int i) (.type "int")
 |str (x:Str):nH K H (.str x) (.type "str")
 |flt (x:UInt64):nH K H (.flt x) (.type "float")
 |lst {a:Addr} {xs:List V} (e:H a=some (.lst xs)):nH K H (.ref a) (.type "list")
 |bo {a:Addr} {o:Obj} {xs:List V} (e:H a=some (.bo o (.lst xs))):nH K H (.ref a) (.type "list")
 |tup {a:Addr} {xs:List V} (e:H a=some (.tup xs)):nH K H (.ref a) (.type "tuple")
 |dK {a:Addr} {kvs:List (Key×V)} (e:H a=some (.dK kvs)):nH K H (.ref a) (.type "dict")
 |dT {a:Addr} {kvs:List (List Key×V)} (e:H a=some (.dT kvs)):nH K H (.ref a) (.type "dict")
 |ins {a C dx:Addr} {fs:List (Str×V)} (e:H a=some (.ins C dx fs)) (cl:JR K C) (ha:PySem.W.findIn K (.ref C) "__class__"=some (some (.builtin "object.__class__")))
   (hn:PySem.W.specialIn K (.builtin "object.__class__") "__get__"=some (some (.builtin "getset_descriptor.__get__"))) (htk:PySem.W.takesIn K (.builtin "object.__class__")=some true)
   (hm:PySem.W.mroIn K C (.type "object")=some true):nH K H (.ref a) (.ref C)
theorem iV {x:V}{u t:Value}(I:Inv X pins σ H s)(rx:RelV x u)(ty:nH X.K H x t)(e:PySem.W.kitOne X.K t c=some b)(h:∀tk,Q (.bool b) {s with toks:=tk}) :
  wpAny (model X.prog X.w) A (call (.builtin "isinstance") [u,c]) Q E s:=by
 cases ty with
 |non=>cases (show u=Value.none from rx);exact PySem.W.kia_one PySem.W.kitx_none I.kIn True.intro e (fun z=>nomatch z) h
 |bl y=>cases (show u=Value.bool y from rx);exact PySem.W.kia_one PySem.W.kitx_bool I.kIn True.intro e (fun z=>nomatch z) h
 |int i=>obtain⟨t,q⟩:=(show ∃t,u=Value.int i t from rx);cases q;exact PySem.W.kia_one PySem.W.kitx_int I.kIn True.intro e (fun z=>nomatch z) h
 |str y=>obtain⟨t,q⟩:=(show ∃t,u=Value.str y t from rx);cases q;exact PySem.W.kia_one PySem.W.kitx_str I.kIn True.intro e (fun z=>nomatch z) h
 |flt y=>obtain⟨t,q⟩:=(show ∃t,u=Value.float y t from rx);cases q;exact PySem.W.kia_one PySem.W.kitx_float I.kIn True.intro e (fun z=>nomatch z) h
 | @lst a xs ea=>
  cases (show u=Value.ref a from rx)
  obtain⟨_,_,n,_,h1⟩:=(show cB X.prog X.w H s.heap a (.lst xs) from I.hok a _ ea)
  exact PySem.W.kia_one PySem.W.kitx_list I.kIn ⟨_,h1,rfl⟩ e (fun z=>nomatch z) h
 | @bo a ob xs ea=>
  cases (show u=Value.ref a from rx)
  obtain⟨_,_,_,n,_,h1⟩:=(show cB X.prog X.w H s.heap a (.bo ob (.lst xs)) from I.hok a _ ea)
  exact PySem.W.kia_one PySem.W.kitx_list I.kIn ⟨_,h1,rfl⟩ e (fun z=>nomatch z) h
 | @tup a xs ea=>
  cases (show u=Value.ref a from rx)
  obtain⟨_,_,_,p⟩:=(show cB X.prog X.w H s.heap a (.tup xs) from I.hok a _ ea)
  obtain⟨o,h1,h2,_⟩:=p
  exact PySem.W.kia_one PySem.W.kitx_tuple I.kIn ⟨o,h1,h2⟩ e (fun z=>nomatch z) h
 | @dK a kvs ea=>
  cases (show u=Value.ref a from rx)
  obtain⟨_,_,vs,_,p⟩:=(show cB X.prog X.w H s.heap a (.dK kvs) from I.hok a _ ea)
  obtain⟨o,es,ep,h1,h2,_⟩:=p
  exact PySem.W.kia_one PySem.W.kitx_dict I.kIn ⟨o,h1,h2.1⟩ e (fun z=>nomatch z) h
 | @dT a kvs ea=>
  cases (show u=Value.ref a from rx)
  obtain⟨_,_,xs,_,o,es,ep,h1,h2,_⟩:=(show cB X.prog X.w H s.heap a (.dT kvs) from I.hok a _ ea)
  exact PySem.W.kia_one PySem.W.kitx_dict I.kIn ⟨o,h1,h2.1⟩ e (fun z=>nomatch z) h
 | @ins a C dx fs ea cl ha hn htk hm=>
  cases (show u=Value.ref a from rx)
  obtain⟨mA,O,_⟩:=CF I.hok ea
  obtain⟨od,J,_⟩:=O.look
  exact PySem.W.kia_one (PySem.W.kitx_own (cl.get _) cl.hd ha hn htk hm) I.kIn J e (fun z=>nomatch z) h
end
end L2
namespace L2
open PySem PySem.Spec PyProof.Rows
structure fo (k:Nat)(A:Around):Prop where
 hd:A.handled=none
 dp:A.depth + 3 * k + 5 < recursionLimit
 un:A.units + 16 * k + 200 < cLine
 gd:A.guards=some []
theorem fo.mono {j k:Nat}{A:Around}(r:fo k A)(h:j<=k):fo j A:=⟨r.hd,by have:=r.dp;omega,by have:=r.un;omega,r.gd⟩
theorem fo.deeper {k:Nat}{A:Around}(r:fo (k + 1) A)(env:Env):fo k (A.deeper env):=
 ⟨r.hd,by have:=r.dp;show A.depth + 1 + 3 * k + 5 < _;omega,by have:=r.un;show A.units + 3 + 16 * k + 200 < _;omega,r.gd⟩
theorem fo.depth {k:Nat}{A:Around}(r:fo k A):A.depth < recursionLimit:=by have:=r.dp;omega
theorem fo.units {k:Nat}{A:Around}(r:fo k A):A.units + 64 < cLine:=by have:=r.un;omega
def JT:TA:=fun _ H Q=>Q [] H
def Hq (ta:TE)(tr:TA):TA:=fun σ H Q=>ta σ H fun x H1=>tr σ H1 fun xs H2=>Q (x :: xs) H2
section
variable {X:Cx}{e:Expr}{es:List Expr}{te:TE}{t:TA}{pos:Pos}
theorem bA:PA X [] JT:=fun _ _ _ _ H Q I h=>Calls.spliced_nil ⟨[],H,I,.nil,h⟩
theorem aN (ha:PE X e te)(hr:PA X es t)(hs:starEach (e :: es) X.env=(false,eval e X.env) :: starEach es X.env:=by rfl):PA X (e :: es) (Hq te t):=by
 intro pos pins s σ H Q I h
 rw[hs]
 show wpAny _ _ (spliced ((false,eval e X.env) :: backTo pos (starEach es X.env))) _ _ s
 refine Calls.spliced_cons (cK (ha pins s σ H _ I h) fun u s1 ⟨x,H1,I1,r1,q1⟩=>?_)
 exact cK (hr pos pins s1 σ H1 _ I1 q1) fun us s2 ⟨xs,H2,I2,r2,q2⟩=>⟨x :: xs,H2,I2,.cons r1 r2,q2⟩
def JJ (t:TA):TE:=fun σ H Q=>t σ H fun xs H1=>xs.length<=sizeLine/\∀p,H1 p=none->Q (.ref p) (upd H1 p (.tup xs))
def Jl (t:TA):TE:=fun σ H Q=>t σ H fun xs H1=>xs.length<=sizeLine/\∀p,H1 p=none->Q (.ref p) (upd H1 p (.lst xs))
theorem v8 {x1}(h:PA X es t):PE X (.Tuple es x1 pos) (JJ t):=by
 intro pins s σ H Q I hq
 refine wpAny_Tuple_spliced (cK (h pos pins s σ H _ I hq) fun us s1 ⟨xs,H1,I1,r,z,q⟩=>⟨by rw[<-r.length];exact z,?_⟩)
 have hf:H1 s1.heap.objs.size=none:=I1.hok.fresh (Nat.le_refl _)
 refine⟨.ref s1.heap.objs.size,upd H1 s1.heap.objs.size (.tup xs),I1.laid (t':=s1.toks) (fun b u e=>Heap.get?_push_of_some _ e) (Nat.le_refl _) ?_,rfl,q _ hf⟩
 exact⟨z,us,r,rM.new _ _⟩
theorem Br (h:PA X es t):PE X (.List es pos) (Jl t):=by
 intro pins s σ H Q I hq
 refine wpAny_List_spliced (cK (h pos pins s σ H _ I hq) fun us s1 ⟨xs,H1,I1,r,z,q⟩=>⟨by rw[<-r.length];exact z,?_⟩)
 have hf:H1 s1.heap.objs.size=none:=I1.hok.fresh (Nat.le_refl _)
 refine⟨.ref s1.heap.objs.size,upd H1 s1.heap.objs.size (.lst xs),I1.laid (t':=s1.toks) (fun b u e=>Heap.get?_push_of_some _ e) (Nat.le_refl _) ?_,rfl,q _ hf⟩
 exact⟨z,us,0,r,Heap.get?_push_size _ rfl⟩
end
abbrev Sp:=List V->Hp->VK->XK->Prop
abbrev yK:=List Env->Hp->Shared->XK->Value->Shared->Prop
structure De (P:Program)(w:World)(K:PySem.W.Frag)(mg:Str->Option Value)(base:Heap)(A:Around)(outer:List Env)(s:Shared)(H:Hp):Prop where
 frames:A.frames=some outer
 mod:Mod K mg base
 bs:∀b o,base.get? b=some o->s.heap.get? b=some o/\H b=none
 bsz:base.objs.size<=s.heap.objs.size
 funs:s.heap.FunFrames base outer
 frf:∀b∈iO outer,H b=none
 hok:lh P w H s.heap
 bare:AllBare s.gens
def CE (outer:List Env)(P:Program)(w:World)(H:Hp)(s:Shared)(Q:VK)(u:Value)(s':Shared):Prop:=
 ∃v H',s'.os=s.os/\AllBare s'.gens/\Un (iO outer) [] H H' s.heap s'.heap/\lh P w H' s'.heap/\RelV v u/\Q v H'
def CR (CX:yK)(outer:List Env)(P:Program)(w:World)(H:Hp)(s:Shared)(Q:VK)(E:XK)(r:Result)(s':Shared):Prop:=
 match r with
 | .ok (.ret u)=>CE outer P w H s Q u s'
 | .ok _=>False
 | .error e=>CX outer H s E e s'
structure fR (P:Program)(w:World)(K:PySem.W.Frag)(mg:Str->Option Value)(base:Heap)(CX:yK)(k:Nat)(f:Addr)(fd:FuncData)(ps:List Str)(sp:Sp):Prop where
 len:∀vs H Q E,sp vs H Q E->vs.length=ps.length
 run:∀(A:Around) (outer:List Env) (s:Shared) (H:Hp) (args:Args) (us:List Value) (vs:List V) (Q:VK) (E:XK),fo k A->De P w K mg base A outer s H->BindsTo s fd args (ps.zip us)->Vals vs us->sp vs H Q E->
  codeAny (model P w) A (.call (.ref f) args) (CR CX outer P w H s Q E) s
theorem fR.mono {P:Program}{w:World}{K:PySem.W.Frag}{mg:Str->Option Value}{base:Heap}{CX:yK}{j k:Nat}{f:Addr}{fd:FuncData}{ps:List Str}{sp:Sp}(F:fR P w K mg base CX j f fd ps sp)(h:j<=k) :
  fR P w K mg base CX k f fd ps sp:=⟨F.len,fun A outer s H args us vs Q E hr=>F.run A outer s H args us vs Q E (hr.mono h)⟩
theorem fR.imp {P:Program}{w:World}{K:PySem.W.Frag}{mg:Str->Option Value}{base:Heap}{CX:yK}{k:Nat}{f:Addr}{fd:FuncData}{ps:List Str}{sp sp':Sp}(F:fR P w K mg base CX k f fd ps sp)
  (h:∀vs H Q E,sp' vs H Q E->sp vs H Q E):fR P w K mg base CX k f fd ps sp':=
 ⟨fun vs H Q E q=>F.len vs H Q E (h _ _ _ _ q),fun A outer s H args us vs Q E hr he hb hv hs=>F.run A outer s H args us vs Q E hr he hb hv (h _ _ _ _ hs)⟩
section
variable {X:Cx}{pins:List (Addr×Obj)}{σ:St}{H:Hp}{s s':Shared}
theorem Inv.env0 (I:Inv X pins σ H s):De X.prog X.w X.K X.mg X.base X.A X.stack s H:=
 ⟨I.ok.frames,I.ok.mod,I.bs,Nat.le_trans I.ok.bsz I.sz,I.stack,I.stkFree,I.hok,I.bare⟩
theorem Inv.after {Q:VK}{u:Value}(I:Inv X pins σ H s)(h:CE X.stack X.prog X.w H s Q u s'):EP X pins σ Q u s':=by
 obtain⟨v,H',os,bare,un,hok,r,q⟩:=h
 obtain⟨hh,g,d,t,os'⟩:=s'
 obtain rfl:os'=s.os:=os
 exact⟨v,H',I.call (h':=hh) (g':=g) (d':=d) (t':=t) (ch:=[]) un hok bare (fun b z=>absurd z (by simp)),r,q⟩
end
def HA (sp:Sp)(dvs:List V)(E:XK)(t:TA):TE:=fun σ H Q=>t σ H fun vs H1=>sp (vs ++ dvs) H1 Q E
def Binds (K:PySem.W.Frag)(fd:FuncData)(ps:List Str)(ds:List Value):Prop:=
 ∀(s:Shared) (us:List Value),K.In s.heap->(us ++ ds).length=ps.length->BindsTo s fd ⟨us,[]⟩ (ps.zip (us ++ ds))
theorem Binds.all {K:PySem.W.Frag}{fd:FuncData}{ps:List Str}(h:∀us:List Value,us.length=ps.length->bindArgs fd ⟨us,[]⟩=pure (ps.zip us)):Binds K fd ps []:=fun s us _ hl=>by
 rw[List.append_nil] at hl ⊢
 exact .of_eq (h us hl)
def Passes (CX:yK)(X:Cx)(E:XK):Prop:=∀(pins:List (Addr×Obj)) (σ:St) (H:Hp) (s:Shared) (e:Value) (s':Shared),Inv X pins σ H s->CX X.stack H s E e s'->X.xe e s'
section
variable {X:Cx}{CX:yK}{k:Nat}{f C:Addr}{fd:FuncData}{ps:List Str}{sp:Sp}{dvs:List V}{ds:List Value}{E:XK}{x m:Str}{p pos apos:Pos}{e o:Expr}{es:List Expr}{ta:TE}{t:TA}
theorem GA {pins:List (Addr×Obj)}{σ:St}{H:Hp}{s:Shared}{Q:VK}{us:List Value}{vs:List V}(F:fR X.prog X.w X.K X.mg X.base CX k f fd ps sp)(hr:fo k X.A)(hb:Binds X.K fd ps ds)(hd:Vals dvs ds)(hx:Passes CX X E)
  (I:Inv X pins σ H s) (r:Vals vs us) (h:sp (vs ++ dvs) H Q E):wpAny (model X.prog X.w) X.A (call (.ref f) us) (EP X pins σ Q) X.xe s:=by
 have r2:Vals (vs ++ dvs) (us ++ ds):=r.append hd
 have hl:(us ++ ds).length=ps.length:=by rw[<-r2.length];exact F.len _ _ _ _ h
 refine wpAny_call (codeAny_mono (F.run X.A X.stack s H ⟨us,[]⟩ (us ++ ds) (vs ++ dvs) Q E hr I.env0 (hb s us I.kIn hl) r2 h) fun r s' hq=>?_)
 cases r with
 |error e=>exact hx pins σ H s e s' I hq
 |ok fl=>
  cases fl with
  |ret u=>exact I.after hq
  |next=>exact False.elim hq
  |brk=>exact False.elim hq
  |cont=>exact False.elim hq
theorem oh (F:fR X.prog X.w X.K X.mg X.base CX k f fd ps sp)(hr:fo k X.A)(hg:Gl X x)(hm:X.mg x=some (.ref f))(hk:PySem.W.keepIn X.K (.ref f)=true)(hb:Binds X.K fd ps ds)(hd:Vals dvs ds)(hx:Passes CX X E)
  (ha:PA X (e :: es) t) (hdb:(x == ("__debug__":Str))=false:=by decide) (he:starEach (e :: es) X.env=(false,eval e X.env) :: starEach es X.env:=by rfl) (hpl:(backTo pos (starEach es X.env)).any (·.1)=false:=by rfl) :
  PE X (.Call (.Name x p) (e :: es) [] pos) (HA sp dvs E t):=by
 intro pins s σ H Q I h
 refine wpAny_Call_Name_kw (sW I hg hm ?_ hdb)
 refine PySem.W.callWith_K (h₀:=X.base) I.ok.mod.kin hk (cK (ha pos pins s σ H _ I h) fun us s1 ⟨vs,H1,I1,r,q⟩=>⟨I1.kIn,?_⟩) he hpl
 exact GA F hr hb hd hx I1 r q
end
structure aH (N P:List Str)(sc:Scope):Prop where
 kind:sc.kind=.function
 co:sc.isCoroutine=false
 gen:sc.isGenerator=false
 nd:N.Nodup
 pre:N.take P.length=P
 par:∀x∈P,sc.names.lookup x=some .local\/sc.names.lookup x=some .cell
 nofree:∀y∈sc.names,y.2≠.free
theorem qK {kindOf:Str->Option NameKind}{x:Str}:∀{binds:List (Str×Value)} {m:Str->Option Value},(∀v,(x,v)∉binds)->bindL kindOf binds m x=m x
 | [],_,_=>rfl
 | (n,v) :: r,m,h=>by
  unfold bindL
  rw[qK fun w hw=>h w (List.mem_cons_of_mem _ hw)]
  split
  ·have:x≠n:=by rintro rfl;exact h v List.mem_cons_self
   simp[this]
  ·rfl
theorem qV {kindOf:Str->Option NameKind}{x:Str}:∀{binds:List (Str×Value)} {m:Str->Option Value},(∀v,(x,v)∉binds)->bindC kindOf binds m x=m x
 | [],_,_=>rfl
 | (n,v) :: r,m,h=>by
  unfold bindC
  rw[qV fun w hw=>h w (List.mem_cons_of_mem _ hw)]
  split
  ·rfl
  ·have:x≠n:=by rintro rfl;exact h v List.mem_cons_self
   simp[this]
theorem qy {kindOf:Str->Option NameKind}{x:Str}{v:Value}:∀{P:List Str} {vs:List Value} {i:Nat} {m:Str->Option Value},P.Nodup->P[i]? =some x->vs[i]? =some v->kindOf x=some .local->
  bindL kindOf (P.zip vs) m x=some v
 | [],_,_,_,_,h,_,_=>by simp at h
 |_ :: _,[],_,_,_,_,h,_=>by simp at h
 |p :: P,w :: vs,0,m,nd,h1,h2,hk=>by
  simp at h1 h2;subst h1;subst h2
  show bindL kindOf ((p,w) :: P.zip vs) m p=_
  unfold bindL
  rw[qK fun v hv=>(List.nodup_cons.mp nd).1 (List.of_mem_zip hv).1,if_pos hk]
  simp
 |p :: P,w :: vs,i + 1,m,nd,h1,h2,hk=>by
  show bindL kindOf ((p,w) :: P.zip vs) m x=_
  unfold bindL
  exact qy (i:=i) (List.nodup_cons.mp nd).2 (by simpa using h1) (by simpa using h2) hk
theorem qQ {kindOf:Str->Option NameKind}{x:Str}{v:Value}:∀{P:List Str} {vs:List Value} {i:Nat} {m:Str->Option Value},P.Nodup->P[i]? =some x->vs[i]? =some v->kindOf x≠some .local->
  bindC kindOf (P.zip vs) m x=some v
 | [],_,_,_,_,h,_,_=>by simp at h
 |_ :: _,[],_,_,_,_,h,_=>by simp at h
 |p :: P,w :: vs,0,m,nd,h1,h2,hk=>by
  simp at h1 h2;subst h1;subst h2
  show bindC kindOf ((p,w) :: P.zip vs) m p=_
  unfold bindC
  rw[qV fun v hv=>(List.nodup_cons.mp nd).1 (List.of_mem_zip hv).1,if_neg hk]
  simp
 |p :: P,w :: vs,i + 1,m,nd,h1,h2,hk=>by
  show bindC kindOf ((p,w) :: P.zip vs) m x=_
  unfold bindC
  exact qQ (i:=i) (List.nodup_cons.mp nd).2 (by simpa using h1) (by simpa using h2) hk
def start (N:List Str)(vs:List V):St:=vs.map some ++ List.replicate (N.length - vs.length) none
def kQ (CX:yK)(P:Program)(w:World)(K:PySem.W.Frag)(mg:Str->Option Value)(base:Heap)(N:List Str)(qual:Str)(scope:Scope)(f:Addr)(cd:Value)(A:Around)(outer:List Env)(s:Shared)(H:Hp)(E:XK):Cx where
 prog:=P
 w:=w
 K:=K
 mg:=mg
 base:=base
 A:=A.deeper (envOfC qual scope s.heap.objs.size f cd)
 N:=N
 s₀:=s
 H₀:=H
 env:=envOfC qual scope s.heap.objs.size f cd
 outer:=outer
 stack:=envOfC qual scope s.heap.objs.size f cd :: outer
 ex:=[]
 calm:=true
 fn:=fun _=>true
 pn:=[]
 xe:=fun e s'=>wpAny (model P w) (A.deeper (envOfC qual scope s.heap.objs.size f cd)) (leaving (envOfC qual scope s.heap.objs.size f cd) e) (fun _ s''=>CX outer H s E e s'') (fun e' s''=>CX outer H s E e' s'') s'
theorem vg {sc:Scope}{n:Nat}{x:Str}(h:sc.names.lookup x=some .cell):∃c,(cellsFrom n sc.names []).lookup x=some c:=by
 have q:=PySem.W.cellsFrom_some sc.names n [] (.inl h)
 exact Option.isSome_iff_exists.mp q
theorem y2 {CX:yK}{P:Program}{w:World}{K:PySem.W.Frag}{mg:Str->Option Value}{base:Heap}{N ps:List Str}{qual:Str}{scope:Scope}{f:Addr}{cd:Value}{A:Around}{outer:List Env}{s s1:Shared}{H:Hp}{E:XK}{us:List Value}{vs:List V}
  (S:aH N ps scope) (hd:A.handled=none) (e0:De P w K mg base A outer s H) (hl:vs.length=ps.length) (r:Vals vs us)
  (x:InCallC s s.heap.objs.size (bindL (envOfC qual scope s.heap.objs.size f cd).kindOf (ps.zip us) fun _=>none) (cellsFrom (s.heap.objs.size + 1) scope.names []) (bindC (envOfC qual scope s.heap.objs.size f cd).kindOf (ps.zip us) fun _=>none) s1) :
  Inv (kQ CX P w K mg base N qual scope f cd A outer s H E) [] (start N vs) H s1:=by
 have hpl:ps.length<=N.length:=by have:=congrArg List.length S.pre;rw[List.length_take] at this;omega
 obtain⟨h1,tk,rfl,hk⟩:=x.done
 have noA:∀b:Addr,b∉(kQ CX P w K mg base N qual scope f cd A outer s H E).ex:=fun b z=>absurd (show b∈([]:List Addr) from z) (by simp)
 refine⟨⟨e0.mod,S.kind,rfl,rfl,Nat.le_refl _,fun y z c h1 h2=>?_,fun y hy=>?_,fun y c _ h=>?_,fun _=>hd,Around.frames_deeper e0.frames,.inr ⟨rfl,rfl⟩,fun b z=>absurd z (noA b),e0.bs,e0.bsz,fun b _ _=>noA b,fun b z=>absurd z (noA b),e0.funs,e0.frf⟩,
  rfl,e0.bare,Un.kept hk,⟨_,x.toInCall.ns,fun i y v h1 h2 h3=>?_⟩,fun y c h=>⟨_,x.cell y c h⟩,e0.hok.fresh (Nat.le_refl _),fun y c h=>?_,fun p hp=>absurd (show p∈([]:List (Addr×Obj)) from hp) (by simp),e0.hok.kept hk,?_⟩
 ·exact name_of_addr x.apart (PySem.mem_of_lookup h1) (PySem.mem_of_lookup h2)
 ·have hy:scope.names.lookup y=some .cell\/scope.names.lookup y=some .free:=hy
  rcases hy with hy |hy
  ·exact vg hy
  ·exact absurd rfl (S.nofree _ (PySem.mem_of_lookup hy))
 ·exact Nat.le_of_lt (x.above y c (PySem.mem_of_lookup h))
 ·have hi:i < vs.length:=by
   unfold start at h2
   by_cases hi:i < vs.length
   ·exact hi
   ·rw[List.getElem?_append_right (by simpa using hi)] at h2
    rw[List.getElem?_replicate] at h2
    split at h2 <;> cases h2
  have ha:vs[i]? =some v:=by
   unfold start at h2
   rw[List.getElem?_append_left (by simpa using hi),List.getElem?_map] at h2
   cases e:vs[i]? with
   |none=>rw[e] at h2;cases h2
   |some a=>rw[e] at h2;cases h2;rfl
  obtain⟨u,hu,rv⟩:=r.get ha
  have hp:ps[i]? =some y:=by
   rw[<-S.pre,List.getElem?_take_of_lt (by omega)];exact h1
  have ndP:ps.Nodup:=by rw[<-S.pre];exact S.nd.sublist (List.take_sublist _ _)
  refine⟨u,rv,?_⟩
  rcases S.par y (List.mem_of_getElem? hp) with k |k
  ·exact .inl ⟨k,qy ndP hp hu k⟩
  ·obtain⟨c,e⟩:=vg (n:=s.heap.objs.size + 1) k
   refine .inr ⟨.inl k,c,e,?_⟩
   have q:=x.cell y c e
   rw[qQ ndP hp hu (by show scope.names.lookup y≠_;rw[k];decide)] at q
   exact q
 ·exact e0.hok.fresh (Nat.le_of_lt (x.above y c (PySem.mem_of_lookup h)))
 ·unfold start
  show _=N.length
  rw[List.length_append,List.length_map,List.length_replicate]
  omega
theorem Ec {CX:yK}{P:Program}{w:World}{K:PySem.W.Frag}{mg:Str->Option Value}{base:Heap}{k:Nat}{f:Addr}{name qual:Str}{params:Arguments}{body:List Stmt}{scope:Scope}{dV kV doc pm cdv ct oc:Value}{an od:Option Addr}
  {osl:Array (Option Value)} {N ps:List Str} {sp:Sp} (lk:K.lookup f=some ⟨oc,od,.func (PySem.W.fnOf name qual params body scope dV kV doc pm an cdv ct),osl⟩) (hcd:PySem.W.codeIn K cdv qual=true) (S:aH N ps scope)
  (len:∀vs H Q E,sp vs H Q E->vs.length=ps.length)
  (hbody:∀(A:Around) (outer:List Env) (s:Shared) (H:Hp) (vs:List V) (Q:VK) (E:XK),fo k (A.deeper (envOfC qual scope s.heap.objs.size f cdv))->sp vs H Q E->
   ∃t,rb (kQ CX P w K mg base N qual scope f cdv A outer s H E) body t/\t {nx:=fun _ H'=>Q .non H',rt:=Q} (start N vs) H) :
  fR P w K mg base CX (k + 1) f (PySem.W.fnOf name qual params body scope dV kV doc pm an cdv ct) ps sp:=by
 refine⟨len,fun A outer s H args us vs Q E hr e0 hb r hsp=>?_⟩
 have hl:=len _ _ _ _ hsp
 have KX:K.In s.heap:=e0.mod.kin.keeps fun b o e=>(e0.bs b o e).1
 have lim:s.heap.NoLimit:=e0.mod.nolimit.keeps fun b o e=>(e0.bs b o e).1
 have hkind:∀y∈ps.zip us,scope.names.lookup y.1=some .local\/(scope.names.lookup y.1=some .cell/\((cellsFrom (s.heap.objs.size + 1) scope.names []).lookup y.1).isSome=true):=fun⟨n,v⟩ hy=>by
  rcases S.par n (List.of_mem_zip hy).1 with q |q
  ·exact .inl q
  ·exact .inr ⟨q,PySem.W.cellsFrom_some _ _ _ (.inl q)⟩
 refine codeAny_call_function hr.depth (KX _ _ lk) rfl S.co S.gen rfl (PySem.W.codeRec_of KX hcd) (hb _ _ _ _ ?_)
 refine wpAny_newFunctionEnv_cells S.kind hkind fun env he s1 x=>?_
 subst he
 refine⟨lim.keeps x.toInCall.keep,codeAny_func ?_⟩
 obtain⟨t,ht,hq⟩:=hbody A outer s H vs Q E (hr.deeper _) hsp
 have I:Inv (kQ CX P w K mg base N qual scope f cdv A outer s H E) [] (start N vs) H s1:=y2 S hr.hd e0 hl r x
 refine wpAny_mono (ht [] s1 (start N vs) H _ I hq) (fun fl s' hs=>?_) fun e s' hs=>hs
 have fin:∀{σ':St} {H':Hp} {v:V} {u:Value},Inv (kQ CX P w K mg base N qual scope f cdv A outer s H E) [] σ' H' s'->RelV v u->Q v H'->CE outer P w H s Q u s':=
  fun {σ' H' v u} J rv q=>⟨v,H',J.os,J.bare,J.base,J.hok,rv,q⟩
 cases fl with
 |ret u=>
  obtain⟨v,σ',H',J,rv,q⟩:=hs
  exact fin J rv q
 |next=>
  obtain⟨σ',H',J,q⟩:=hs
  exact fin (v:=V.non) (u:=Value.none) J rfl q
 |brk=>
  obtain⟨_,_,_,q⟩:=hs
  exact False.elim q
 |cont=>
  obtain⟨_,_,_,q⟩:=hs
  exact False.elim q
end L2
namespace L2
open PySem PySem.Spec PyProof.Rows
section
variable {X:Cx}{x:Str}{p pos:Pos}{e:Expr}{es:List Expr}{t:TA}{id T:String}{r:List V->Hp->VK->Prop}
def J6 (r:List V->Hp->VK->Prop)(t:TA):TE:=fun σ H Q=>t σ H fun vs H1=>r vs H1 Q
theorem iQ (hc:cX X (.builtin id) r)(hg:Gl X x)(hm:X.mg x=none)(hv:bootBuiltins x=some (.builtin id))(ha:PA X (e :: es) t)(hn:x≠"__name__":=by decide)(hdb:(x == ("__debug__":Str))=false:=by decide)
  (he:starEach (e :: es) X.env=(false,eval e X.env) :: starEach es X.env:=by rfl) (hpl:(backTo pos (starEach es X.env)).any (·.1)=false:=by rfl):PE X (.Call (.Name x p) (e :: es) [] pos) (J6 r t):=by
 intro pins s σ H Q I h
 refine wpAny_Call_Name_kw (ki I hg hm hv ?_ hn hdb)
 exact PyProof.Rows.callWith_builtin1 (cK (ha pos pins s σ H _ I h) fun us s1 ⟨vs,H1,I1,r1,q1⟩=>hc pins s1 σ H1 vs us Q I1 r1 q1) he hpl
theorem gK (hc:cX X (.type T) r)(hg:Gl X x)(hm:X.mg x=none)(hv:bootBuiltins x=some (.type T))(ha:PA X (e :: es) t)(hn:x≠"__name__":=by decide)(hdb:(x == ("__debug__":Str))=false:=by decide)
  (he:starEach (e :: es) X.env=(false,eval e X.env) :: starEach es X.env:=by rfl) (hpl:(backTo pos (starEach es X.env)).any (·.1)=false:=by rfl):PE X (.Call (.Name x p) (e :: es) [] pos) (J6 r t):=by
 intro pins s σ H Q I h
 refine wpAny_Call_Name_kw (ki I hg hm hv ?_ hn hdb)
 exact PyProof.Rows.callWith_type1 (cK (ha pos pins s σ H _ I h) fun us s1 ⟨vs,H1,I1,r1,q1⟩=>hc pins s1 σ H1 vs us Q I1 r1 q1) he hpl
end
end L2
namespace HT
open PySem PyProof.Rows
section
open PySem.SeqAt
open PySem.AutoSeq1 (wpAny_loadPart')
open PySem.MeetsSeq PySem.MeetsSeq2 PySem.MeetsSeq3
end
section
variable {prog:Program}{w:World}{A:Around}{E:Value->Shared->Prop}{s:Shared}
def wz (n d:Nat):Option Int->Nat
 |none=>d
 |some v=>if v < 0 then (v + (n:Int)).toNat else min v.toNat n
end
end HT
namespace L2
open PySem PySem.Spec PyProof.Rows
abbrev TO:=St->Hp->(Option Int->Hp->Prop)->Prop
theorem intsAre_of {ns:List Int}:∀{us:List Value},Vals (ns.map V.int) us->IntsAre us ns:=by
 induction ns with
 |nil=>intro us r;rw[List.map_nil] at r;cases r;exact .nil
 |cons n ns ih=>
  intro us r
  rw[List.map_cons] at r
  cases r with
  |cons r1 r2=>
   obtain⟨t,e⟩:=r1
   subst e
   exact .cons n t (ih r2)
section
variable {X:Cx}{e:Expr}{te:TE}{lo hi:Option Expr}{tl th:TO}{pos p2:Pos}
def Kq (X:Cx)(r:V->Option Int->Option Int->Hp->VK->Prop):Prop:=
 ∀(pins:List (Addr×Obj)) (s:Shared) (σ:St) (H:Hp) (x:V) (v vl vu:Value) (lo hi:Option Int) (sl:Addr) (Q:VK),Inv X pins σ H s->RelV x v->s.heap.IsSliceOf sl vl vu .none->IsPart vl lo->IsPart vu hi->r x lo hi H Q->
  ∃T id,typeLookup (.type T) "__getitem__"=pure (some (.builtin id))/\s.TypeIs v T/\wpAny (model X.prog X.w) X.A (getItem v (.ref sl)) (EP X pins σ Q) X.xe s
def CS (xs:List V)(lo hi:Option Int):List V:=(xs.drop (HT.wz xs.length 0 lo)).take (HT.wz xs.length xs.length hi - HT.wz xs.length 0 lo)
theorem uS (xs:List V)(lo hi:Option Int):(CS xs lo hi).length<=xs.length:=by
 unfold CS
 rw[List.length_take,List.length_drop]
 omega
end
end L2
namespace L2
open PySem PySem.Spec PyProof.Rows
def tJ (n:Nat)(i:Int):Option Nat:=if 0<=i then (if i < n then some i.toNat else none) else if -(n:Int)<=i then some (i + n).toNat else none
def jN {α:Type}(xs:List α)(i:Int):Option α:=(tJ xs.length i).bind fun j=>xs[j]?
theorem yr {n:Nat}{i:Int}{j:Nat}(h:tJ n i=some j):seqIndex? i n=some j/\j < n/\ -(n:Int)<=i/\i < n:=by
 unfold tJ at h
 by_cases h0:0<=i
 ·rw[if_pos h0] at h
  by_cases h1:i < n
  ·rw[if_pos h1] at h
   have e:i.toNat=j:=Option.some.inj h
   exact⟨by rw[seqIndex_of h0 h1,e],by omega,by omega,h1⟩
  ·rw[if_neg h1] at h;cases h
 ·rw[if_neg h0] at h
  by_cases h1: -(n:Int)<=i
  ·rw[if_pos h1] at h
   have e:(i + n).toNat=j:=Option.some.inj h
   exact⟨by rw[seqIndex_neg (by omega) h1,e],by omega,h1,by omega⟩
  ·rw[if_neg h1] at h;cases h
theorem tx {α:Type}{xs:List α}{i:Int}{v:α}(h:jN xs i=some v):∃j,seqIndex? i xs.length=some j/\xs[j]? =some v/\j < xs.length/\ -(xs.length:Int)<=i/\i < xs.length:=by
 unfold jN at h
 cases e:tJ xs.length i with
 |none=>rw[e] at h;cases h
 |some j=>
  rw[e] at h
  obtain⟨h1,h2,h3,h4⟩:=yr e
  exact⟨j,h1,h,h2,h3,h4⟩
theorem lK {α:Type}{xs:List α}{j:Nat}{v:α}(h:xs[j]? =some v):jN xs (j:Int)=some v:=by
 have hj:j < xs.length:=(List.getElem?_eq_some_iff.mp h).1
 have e:tJ xs.length (j:Int)=some j:=by
  unfold tJ
  rw[if_pos (by omega),if_pos (by omega)];simp
 unfold jN;rw[e];exact h
def yg (b:Expr):Prop:=∀o i,subscripted b false o i=operate [o,i] (getItem o i)
def AD (X:Cx)(r:R2):Prop:=
 ∀(value slice:Expr) (pins:List (Addr×Obj)) (s:Shared) (σ:St) (H:Hp) (x y:V) (v u:Value) (Q:VK),Inv X pins σ H s->RelV x v->RelV y u->r x y H Q->
  subscripted slice false v u=operate [v,u] (getItem v u)->wpAny (model X.prog X.w) X.A (subscriptTail value slice v u) (EP X pins σ Q) X.xe s
def Ki (X:Cx)(id:String)(r:V->List V->Hp->VK->Prop):Prop:=
 ∀(pins:List (Addr×Obj)) (s:Shared) (σ:St) (H:Hp) (x:V) (xs:List V) (v:Value) (us:List Value) (Q:VK),Inv X pins σ H s->RelV x v->Vals xs us->r x xs H Q->
  wpAny (model X.prog X.w) X.A (call (.builtin id) (v :: us)) (EP X pins σ Q) X.xe s
section
variable {X:Cx}{a b:Expr}{ta tb:TE}{pos:Pos}
theorem AD.or {r r':R2}(h:AD X r)(h':AD X r'):AD X (fun x y H Q=>r x y H Q\/r' x y H Q):=by
 intro value slice pins s σ H x y v u Q I rx ry q hs
 rcases q with q |q
 ·exact h value slice pins s σ H x y v u Q I rx ry q hs
 ·exact h' value slice pins s σ H x y v u Q I rx ry q hs
theorem k8 {r:R2}(hr:AD X r)(ha:PE X a ta)(hb:PE X b tb)(hs:yg b):PE X (.Subscript a b pos) (IE r ta tb):=by
 intro pins s σ H Q I h
 exact Subscript_ (EK ha hb I h fun v u s2 x y H2 I2 rx ry q=>hr a b pins s2 σ H2 x y v u Q I2 rx ry q (hs _ _))
def Ff (K:PySem.W.Frag):R2:=fun x y H Q=>∃p xs i v,x=.ref p/\y=.int i/\gk K H p xs/\jN xs i=some v/\Q v H
def Hv (K:PySem.W.Frag):R2:=fun x y H Q=>∃p xs i v,x=.ref p/\y=.int i/\fy K H p xs/\jN xs i=some v/\Q v H
def Im:R2:=fun x y H Q=>∃z i c,x=.str z/\y=.int i/\z.length<=sizeLine/\jN z.cps.toList i=some c/\Q (.str ⟨#[c]⟩) H
theorem gH:AD X (Ff X.K):=by
 intro value slice pins s σ H x y v u Q I rx ry h hs
 obtain⟨p,xs,i,z,rfl,rfl,hq,he,q⟩:=h
 cases rx
 obtain⟨t,rfl⟩:=ry
 obtain⟨its,r,pl,hz⟩:=I.list hq
 obtain⟨j,h1,h2,h3,h4,h5⟩:=tx he
 obtain⟨w,ew,rw'⟩:=r.get h2
 have hl:=r.length
 have hn:=mJ
 have fin:EP X pins σ Q w s:=⟨z,H,I,rw',q⟩
 by_cases h0:0<=i
 ·have hj:i.toNat=j:=by
   rw[seqIndex_of h0 h5] at h1
   exact Option.some.inj h1
  exact item_listR pl.isList h0 (by omega) (by rw[hj];simpa using ew) fin hs
 ·have hj:(i + (its.toArray.size:Int)).toNat=j:=by
   rw[seqIndex_neg (by omega) h4] at h1
   rw[List.size_toArray,<-hl]
   exact Option.some.inj h1
  exact subscriptTail_builtinR (x:=w) pl.isList.typeIs slot_list_getitem.lookup
   (wpAny_getItem_list_neg (Q:=fun r s'=>r=w/\EP X pins σ Q r s') pl.isList (by omega) (by rw[List.size_toArray] <;> omega) (by omega) (by rw[hj];simpa using ew) ⟨rfl,fin⟩) hs
theorem FD:AD X (Hv X.K):=by
 intro value slice pins s σ H x y v u Q I rx ry h hs
 obtain⟨p,xs,i,z,rfl,rfl,hq,he,q⟩:=h
 cases rx
 obtain⟨t,rfl⟩:=ry
 obtain⟨its,r,pl,hz⟩:=I.tuple hq
 obtain⟨j,h1,h2,h3,h4,h5⟩:=tx he
 obtain⟨w,ew,rw'⟩:=r.get h2
 have hl:=r.length
 have hn:=mJ
 have fin:EP X pins σ Q w s:=⟨z,H,I,rw',q⟩
 exact subscriptTail_builtinR (x:=w) pl.typeIs slot_tuple_getitem.lookup
  (getItem_tuple (j:=j) (Q:=fun r s'=>r=w/\EP X pins σ Q r s') pl (by omega) (by omega) (by rw[List.size_toArray,<-hl];exact h1) (by simpa using ew) ⟨rfl,fin⟩) hs
theorem EU:AD X Im:=by
 intro value slice pins s σ H x y v u Q I rx ry h hs
 obtain⟨z,i,c,rfl,rfl,hz,he,q⟩:=h
 obtain⟨t,rfl⟩:=rx
 obtain⟨t',rfl⟩:=ry
 obtain⟨j,h1,h2,h3,h4,h5⟩:=tx he
 have hl:z.cps.toList.length=z.length:=by simp[Str.length]
 rw[hl] at h1 h4 h5
 have hn:=mJ
 exact tail_any (typeIs_str s z t) slot_str_getitem.lookup (getItem_str (c:=c) (by
  have e1:decide (i < -(2 ^ 63:Int))=false:=decide_eq_false (by omega)
  have e2:decide (i>=2 ^ 63)=false:=decide_eq_false (by omega)
  rw[e1,e2,Bool.or_false]) (by rw[h1];simpa using h2) ⟨.str ⟨#[c]⟩,H,I.tok _,⟨_,rfl⟩,q⟩) hs
def J9 (K:PySem.W.Frag):R2:=fun x y H Q=>Ff K x y H Q\/Hv K x y H Q\/Im x y H Q
theorem aU:AD X (J9 X.K):=gH.or (FD.or EU)
theorem vL (its:List Value)(n j:Nat)(u:Value):Obj.mapSeq (·.setIfInBounds j u) {cls:=.type "list",data:=.seq its.toArray n}={cls:=.type "list",data:=.seq (its.set j u).toArray n}:=by
 simp[Obj.mapSeq]
theorem Inv.lst {pins:List (Addr×Obj)}{σ:St}{H:Hp}{s:Shared}{p:Addr}{xs:List V}(I:Inv X pins σ H s)(h:H p=some (.lst xs)) :
  ∃(its:List Value) (n:Nat),Vals xs its/\s.heap.get? p=some {cls:=.type "list",data:=.seq its.toArray n}/\xs.length<=sizeLine:=by
 obtain⟨z,its,n,r,e⟩:=I.hok p _ h
 exact⟨its,n,r,e,z⟩
theorem Inv.lstUpd {pins:List (Addr×Obj)}{σ:St}{H:Hp}{s:Shared}{p:Addr}{xs ys:List V}{its its':List Value}{n n':Nat}{f:Obj->Obj}(I:Inv X pins σ H s)(h:H p=some (.lst xs))
  (ho:s.heap.get? p=some {cls:=.type "list",data:=.seq its.toArray n}) (hf:f {cls:=.type "list",data:=.seq its.toArray n}={cls:=.type "list",data:=.seq its'.toArray n'}) (r:Vals ys its') (hz:ys.length<=sizeLine) (t:Nat) :
  Inv X pins σ (upd H p (.lst ys)) {s with heap:=s.heap.update p f,toks:=t}:=by
 have e:(s.heap.update p f).get? p=some {cls:=.type "list",data:=.seq its'.toArray n'}:=by
  rw[Heap.get?_update_self f ho (by rw[hf] <;> rfl),hf]
 refine I.write (x:=p) (e:=p) (by rw[h];trivial) (.inl rfl) (fun b u hb q=>(Heap.get?_update_other _ _ (Ne.symm hb)).trans q) ⟨_,e⟩ ?_
 exact⟨hz,its',n',r,e⟩
def Hk:V->V->V->Hp->(Hp->Prop)->Prop:=fun o i v H Q=>∃p xs k j,o=.ref p/\i=.int k/\H p=some (.lst xs)/\tJ xs.length k=some j/\Q (upd H p (.lst (xs.set j v)))
theorem set_list:oj X Hk:=by
 intro pins s σ H o i v ov iv u Q I ro ri rv h
 obtain⟨p,xs,k,j,rfl,rfl,hp,hj,q⟩:=h
 cases ro
 obtain⟨t,rfl⟩:=ri
 obtain⟨its,n,r,ho,hz⟩:=I.lst hp
 obtain⟨h1,h2,h3,h4⟩:=yr hj
 have hl:=r.length
 have hn:=mJ
 have I':Inv X pins σ (upd H p (.lst (xs.set j v))) {s with heap:=s.heap.update p (Obj.mapSeq (·.setIfInBounds j u))}:=
  I.lstUpd hp ho (vL its n j u) (r.set rv j) (by rw[List.length_set];exact hz) s.toks
 by_cases h0:0<=k
 ·have hk:k.toNat=j:=by
   rw[seqIndex_of h0 h4] at h1
   exact Option.some.inj h1
  exact PySem.W.ki_setAt ho h0 (by omega) (by rw[List.size_toArray,<-hl];exact h4) (by rw[hk];exact⟨_,I',q⟩)
 ·have hk:(k + (its.toArray.size:Int)).toNat=j:=by
   rw[seqIndex_neg (by omega) h3] at h1
   rw[List.size_toArray,<-hl]
   exact Option.some.inj h1
  exact PySem.W.ki_setBack ho (by omega) (by rw[List.size_toArray,<-hl];exact h3) (by omega) (by rw[hk];exact⟨_,I',q⟩)
theorem sI (lo hi:Option Int)(n:Nat):(sliceBounds lo hi none n).1=((HT.wz n 0 lo:Nat):Int)/\(sliceBounds lo hi none n).2.1=((HT.wz n n hi:Nat):Int)/\(sliceBounds lo hi none n).2.2=1:=by
 refine⟨?_,?_,rfl⟩
 ·cases lo with
  |none=>simp[sliceBounds,HT.wz]
  |some i=>
   simp only[sliceBounds,HT.wz,Option.getD_none,show (1:Int) > 0 by decide,if_true]
   by_cases h:i < 0
   ·simp only[h,if_true] <;> omega
   ·simp only[h,if_false] <;> omega
 ·cases hi with
  |none=>simp[sliceBounds,HT.wz]
  |some i=>
   simp only[sliceBounds,HT.wz,Option.getD_none,show (1:Int) > 0 by decide,if_true]
   by_cases h:i < 0
   ·simp only[h,if_true] <;> omega
   ·simp only[h,if_false] <;> omega
theorem qk (its:List Value)(lo hi:Option Int):slicePick its.toArray lo hi none=((its.drop (HT.wz its.length 0 lo)).take (HT.wz its.length its.length hi - HT.wz its.length 0 lo)).toArray:=by
 obtain⟨h1,h2,h3⟩:=sI lo hi its.toArray.size
 unfold slicePick
 rw[h1,h2,h3]
 simp only[sliceRange_one,pick_run,List.size_toArray] <;> rfl
def Js (K:PySem.W.Frag):V->Option Int->Option Int->Hp->VK->Prop:=fun x lo hi H Q=>∃a xs,x=.ref a/\gk K H a xs/\∀p,H p=none->Q (.ref p) (upd H p (.lst (CS xs lo hi)))
theorem IX:Kq X (Js X.K):=by
 intro pins s σ H x v vl vu lo hi sl Q I rx hs pl pu h
 obtain⟨a,xs,rfl,hx,q⟩:=h
 cases rx
 obtain⟨its,r,ht,hz⟩:=I.list hx
 have hlen:=r.length
 refine⟨"list",_,slot_list_getitem.lookup,ht.isList.typeIs,?_⟩
 refine wpAny_getItem_list_slice ht.isList hs pl pu .none (by simp) ?_ (by rw[List.size_toArray] <;> omega)
 rw[qk,<-hlen]
 refine⟨.ref s.heap.objs.size,_,I.laid (t':=s.toks) (o:=.lst (CS xs lo hi)) (fun b ob q=>Heap.get?_push_of_some _ q) (Nat.le_refl _) ?_,rfl,q _ (I.hok.fresh (Nat.le_refl _))⟩
 exact⟨Nat.le_trans (uS xs lo hi) hz,_,0,(r.drop (HT.wz xs.length 0 lo)).take (HT.wz xs.length xs.length hi - HT.wz xs.length 0 lo),Heap.get?_push_size _ rfl⟩
theorem rB:cX X (.type "list") (fun xs H Q=>∃p ys,xs= [.ref p]/\(gk X.K H p ys\/fy X.K H p ys)/\∀l,H l=none->Q (.ref l) (upd H l (.lst ys))):=by
 intro pins s σ H xs us Q I r h
 obtain⟨p,ys,rfl,hq,q⟩:=h
 obtain⟨u,rfl,rx⟩:=vals1 r
 cases rx
 have fin:∀(its:List Value),Vals ys its->ys.length<=sizeLine->∀(h':Heap) (c':Nat),(∀b o',s.heap.get? b=some o'->h'.get? b=some o')->
   h'.get? s.heap.objs.size=some {cls:=.type "list",dict:=none,data:=.seq its.toArray c',slots:=#[]}->EP X pins σ Q (.ref s.heap.objs.size) {s with heap:=h'}:=fun its r' hz h' c' kp e=>
  ⟨.ref s.heap.objs.size,_,I.laid (t':=s.toks) kp (Nat.le_refl _) (show cB X.prog X.w _ h' _ (.lst ys) from⟨hz,its,c',r',e⟩),rfl,q _ (I.hok.fresh (Nat.le_refl _))⟩
 rcases hq with hq |hq
 ·obtain⟨its,r',pl,hz⟩:=I.list hq
  have hlen:=r'.length
  obtain⟨o,ho,hc,n,hd⟩:=pl.isList
  exact call_list_seq p (.inl rfl) ho hc hd (fun h' c' kp e=>fin its r' hz h' c' kp e) (by simp only[List.size_toArray] <;> omega)
 ·obtain⟨its,r',pl,hz⟩:=I.tuple hq
  have hlen:=r'.length
  obtain⟨o,ho,hc,n,hd⟩:=pl
  exact call_list_seq p (.inr rfl) ho hc hd (fun h' c' kp e=>fin its r' hz h' c' kp e) (by simp only[List.size_toArray] <;> omega)
theorem cD:cX X (.type "tuple") (fun xs H Q=>∃p ys,xs= [.ref p]/\((gk X.K H p ys/\∀l,H l=none->Q (.ref l) (upd H l (.tup ys)))\/(fy X.K H p ys/\Q (.ref p) H))):=by
 intro pins s σ H xs us Q I r h
 obtain⟨p,ys,rfl,h⟩:=h
 obtain⟨u,rfl,rx⟩:=vals1 r
 cases rx
 rcases h with⟨hq,q⟩ | ⟨hq,q⟩
 ·obtain⟨its,r',pl,hz⟩:=I.list hq
  have hlen:=r'.length
  refine call_tuple_list pl.isList (fun h' kp=>?_) (by simp only[List.size_toArray] <;> omega)
  have I1:Inv X pins σ H {s with heap:=h'}:=I.kept (t':=s.toks) kp
  have I2:Inv X pins σ (upd H h'.objs.size (.tup ys)) {s with heap:=h'.push {cls:=.type "tuple",data:=.seq its.toArray}}:=
   I1.laid (t':=s.toks) (fun b o e=>Heap.get?_push_of_some _ e) (Nat.le_refl _) (show cB X.prog X.w _ _ _ (.tup ys) from⟨hz,its,r',rM.new _ _⟩)
  exact⟨.ref h'.objs.size,_,I2,rfl,q _ (I1.hok.fresh (Nat.le_refl _))⟩
 ·obtain⟨its,r',pl,hz⟩:=I.tuple hq
  exact call_tuple_same pl ⟨.ref p,H,I,rfl,q⟩
def Kh (K:PySem.W.Frag)(T:String)(x:V)(H:Hp):Prop:=match x with
 | .str _=>T="str"
 | .int _=>T="int"
 | .ref p=>(T="list"/\∃xs,gk K H p xs)\/(T="tuple"/\∃o,K.lookup p=some o/\o.cls=.type "tuple"/\o.dict=none)\/
   (T="dict"/\((∃kvs,H p=some (.dK kvs))\/∃kvs,H p=some (.dT kvs)))\/(T="set"/\∃S n,H p=some (.set S n))
 |_=>False
theorem FZ {pins:List (Addr×Obj)}{σ:St}{H:Hp}{s:Shared}{T:String}{x:V}{v:Value}(I:Inv X pins σ H s)(r:RelV x v)(ty:Kh X.K T x H) :
  s.TypeIs v T/\∀a,v=.ref a->∃ob,s.heap.get? a=some ob/\ob.dict=none:=by
 cases x with
 |str z=>
  obtain⟨t,rfl⟩:=r
  cases (show T="str" from ty)
  exact⟨typeIs_str s z t,fun _ e=>nomatch e⟩
 |int i=>
  obtain⟨t,rfl⟩:=r
  cases (show T="int" from ty)
  exact⟨typeIs_int s i t,fun _ e=>nomatch e⟩
 |ref p=>
  cases r
  rcases ty with⟨rfl,xs,hq⟩ | ⟨rfl,o,hk,hc,hd⟩ | ⟨rfl,hk⟩ | ⟨rfl,S,n,hk⟩
  ·obtain⟨its,_,pl,_⟩:=I.list hq
   refine⟨pl.isList.typeIs,fun a e=>?_⟩
   cases e
   obtain⟨o,n,e,c,hd,_⟩:=pl
   exact⟨o,e,hd⟩
  ·refine⟨⟨o,I.kIn p o hk,hc⟩,fun a e=>?_⟩
   cases e
   exact⟨o,I.kIn _ o hk,hd⟩
  ·have z:∃o,s.heap.get? p=some o/\o.ExactDict:=by
    rcases hk with⟨kvs,hk⟩ | ⟨kvs,hk⟩
    ·obtain⟨_,_,_,_,o,_,_,e,ex,_⟩:=I.hok p _ hk
     exact⟨o,e,ex⟩
    ·obtain⟨_,_,_,_,o,_,_,e,ex,_⟩:=I.hok p _ hk
     exact⟨o,e,ex⟩
   obtain⟨o,e,ex⟩:=z
   refine⟨⟨o,e,ex.1⟩,fun a e2=>?_⟩
   cases e2
   exact⟨o,e,ex.2.1⟩
  ·obtain⟨o,_,_,_,e,ex,_⟩:=I.hok p _ hk
   refine⟨⟨o,e,ex.1⟩,fun a e2=>?_⟩
   cases e2
   exact⟨o,e,ex.2.1⟩
 |_=>exact False.elim ty
def Kk (K:PySem.W.Frag)(T:String)(r:V->List V->Hp->VK->Prop)(to:TE)(t:TA):TE:=fun σ H Q=>to σ H fun x H1=>Kh K T x H1/\t σ H1 fun xs H2=>r x xs H2 Q
variable {o e:Expr}{es:List Expr}{to:TE}{t:TA}{name:Str}{apos cpos:Pos}{T id:String}{r:V->List V->Hp->VK->Prop}
theorem AO (pa:PlainAttrs T)(slot:Slot T name id)(hty:typeOf (.builtin id)=pure (.type "method_descriptor"))(hm:Ki X id r)(ho:PE X o to)(ha:PA X (e :: es) t)
  (hbase:attributeBase o name X.env (eval o X.env)=eval o X.env:=by rfl)
  (hfew:((backTo cpos (starEach (e :: es) X.env)).all (fun x=> !x.1) && (backToKw cpos (keywordEach [] X.env)).all (fun x=>x.1.isSome)
   && decide ((e :: es).length + ([]:List Keyword).length + (if ([]:List Keyword).isEmpty then 0 else 1) < 30))=true:=by rfl)
  (hline:(apos.endLine == cpos.line)=true:=by rfl) (hs:starEach (e :: es) X.env=(false,eval e X.env) :: starEach es X.env:=by rfl) (hplain:(backTo cpos (starEach es X.env)).any (·.1)=false:=by rfl) :
  PE X (.Call (.Attribute o name apos) (e :: es) [] cpos) (Kk X.K T r to t):=by
 intro pins s σ H Q I h
 refine wpAny_Call_method_late hbase hfew hline rfl (cK (ho pins s σ H _ I h) fun v s1 ⟨x,H1,I1,r1,ty,q1⟩=>?_)
 obtain⟨h1,h2⟩:=FZ I1 r1 ty
 refine⟨T,id,pa,slot,hty,h1,h2,?_⟩
 have hA:=ha cpos pins s1 σ H1 _ I1 q1
 rw[hs] at hA ⊢
 refine Calls.callWith_builtin (by show (false || (backTo cpos (starEach es X.env)).any (·.1))=false;rw[hplain] <;> rfl) (Calls.evalArgs_plain ?_)
 exact cK hA fun us s2 ⟨vs,H2,I2,r2,q2⟩=>hm pins s2 σ H2 x vs v us Q I2 r1 r2 q2
end
end L2
namespace L2
open PySem PySem.Spec PyProof.Rows
def II (X:Cx)(id:String)(r:V->List V->Hp->VK->Prop):Prop:=
 ∀(pins:List (Addr×Obj)) (s:Shared) (σ:St) (H:Hp) (x:V) (xs:List V) (v:Value) (us:List Value) (Q:VK),Inv X pins σ H s->RelV x v->Vals xs us->r x xs H Q->
  wpAny (model X.prog X.w) X.A (call (.builtin id) (v :: us)) (EP X pins σ Q) X.xe s
theorem Vals.one:∀{x:V} {us:List Value},Vals [x] us->∃u,us= [u]/\RelV x u
 |_,_,.cons r .nil=>⟨_,rfl,r⟩
theorem Vals.eraseIdx:∀{xs:List V} {us:List Value} (i:Nat),Vals xs us->Vals (xs.eraseIdx i) (us.eraseIdx i)
 |_,_,_,.nil=>.nil
 |_,_,0,.cons _ t=>t
 |_,_,i + 1,.cons r t=>.cons r (Vals.eraseIdx i t)
theorem Vals.rep {xs:List V}{us:List Value}(h:Vals xs us):∀k:Nat,Vals (List.replicate k xs).flatten (List.replicate k us).flatten
 | 0=>.nil
 |k + 1=>by
  rw[List.replicate_succ,List.replicate_succ,List.flatten_cons,List.flatten_cons]
  exact Vals.append h (Vals.rep h k)
theorem qW {α:Type}:∀(l:List α) (i:Nat),(l.eraseIdx i).length<=l.length
 | [],_=>Nat.le_refl _
 |_ :: _,0=>Nat.le_succ _
 |_ :: r,i + 1=>Nat.succ_le_succ (qW r i)
theorem foldl_rep (its:List Value):∀(k:Nat) (acc:List Value),
  List.foldl (fun x1 x2=>x1 ++ x2) acc.toArray (List.replicate k its.toArray)=(acc ++ (List.replicate k its).flatten).toArray
 | 0,acc=>by simp
 |k + 1,acc=>by
  have e:acc.toArray ++ its.toArray=(acc ++ its).toArray:=by simp
  have e2:(acc ++ its) ++ (List.replicate k its).flatten=acc ++ (List.replicate (k + 1) its).flatten:=by
   rw[List.replicate_succ,List.flatten_cons,List.append_assoc]
  rw[<-e2,<-foldl_rep its k (acc ++ its),<-e,List.replicate_succ,List.foldl_cons]
section
variable {X:Cx}{pins:List (Addr×Obj)}{σ:St}{H:Hp}{s:Shared}{l b:Addr}{xs ys zs:List V}
theorem Inv.lset {its its':List Value}{n:Nat}{f:Array Value->Array Value}{t':Nat}(I:Inv X pins σ H s)(hH:H l=some (.lst xs))
  (e:s.heap.get? l=some {cls:=.type "list",data:=.seq its.toArray n}) (hf:f its.toArray=its'.toArray) (hv:Vals ys its') (hz:ys.length<=sizeLine) :
  Inv X pins σ (upd H l (.lst ys)) {s with heap:=s.heap.update l (Obj.mapSeq f),toks:=t'}:=by
 have q:=PySem.IsL.update e f
 rw[hf] at q
 refine I.write (x:=l) (e:=l) (by rw[hH];exact trivial) (.inl rfl) (fun b' u hb hu=>(Heap.get?_update_other s.heap (Obj.mapSeq f) (Ne.symm hb)).trans hu) ⟨_,q⟩ ?_
 exact⟨hz,its',_,hv,q⟩
theorem Inv.lnew {its:List Value}{t':Nat}(I:Inv X pins σ H s)(hv:Vals ys its)(hz:ys.length<=sizeLine) :
  Inv X pins σ (upd H s.heap.objs.size (.lst ys)) {s with heap:=s.heap.push {cls:=.type "list",data:=.seq its.toArray},toks:=t'}:=
 I.laid (fun _ _ q=>Heap.get?_push_of_some _ q) (Nat.le_refl _) ⟨hz,its,0,hv,Heap.get?_push_size _ rfl⟩
theorem Inv.fresh (I:Inv X pins σ H s):H s.heap.objs.size=none:=I.hok.fresh (Nat.le_refl _)
theorem Inv.lstM (I:Inv X pins σ H s)(hH:H l=some (.lst xs)):xs.length<=sizeLine/\∃(its:List Value) (n:Nat),Vals xs its/\xs.length=its.length/\s.heap.get? l=some {cls:=.type "list",data:=.seq its.toArray n}:=by
 obtain⟨z,its,n,r,e⟩:=I.hok l _ hH
 exact⟨z,its,n,r,r.length,e⟩
theorem A0 {n:Nat}(h:n<=sizeLine):Builtin.List.listTooLong n=false:=by
 unfold Builtin.List.listTooLong
 exact decide_eq_false (by omega)
end
section
variable {X:Cx}
def DA:V->List V->Hp->VK->Prop:=fun x vs H Q=>∃l xs y,x=.ref l/\vs= [y]/\H l=some (.lst xs)/\xs.length < sizeLine/\Q .non (upd H l (.lst (xs ++ [y])))
theorem mr:II X "list.append" DA:=by
 intro pins s σ H x vs v us Q I rx rv h
 obtain⟨l,xs,y,rfl,rfl,hH,hz,q⟩:=h
 cases rx
 obtain⟨u,rfl,ru⟩:=rv.one
 obtain⟨z,its,n,r,hl,e⟩:=I.lstM hH
 refine call_meets F.slot_list_append ⟨_,e,rfl⟩ F.entry_list_append (F.args_list_append_2 _ _) (PySem.list_append l its.toArray n u (by rw[List.size_toArray];omega)) ⟨e,?_⟩
 refine⟨.non,_,I.lset (its':=its ++ [u]) hH e (by simp) (r.append (.cons ru .nil)) ?_,rfl,q⟩
 rw[List.length_append,List.length_singleton]
 omega
def FU:V->List V->Hp->VK->Prop:=fun x vs H Q=>∃l xs i k y,x=.ref l/\vs= [.int i]/\H l=some (.lst xs)/\ -(2 ^ 63)<=i/\i < 2 ^ 63/\seqIndex? i xs.length=some k/\xs[k]? =some y/\Q y (upd H l (.lst (xs.eraseIdx k)))
theorem BR:II X "list.pop" FU:=by
 intro pins s σ H x vs v us Q I rx rv h
 obtain⟨l,xs,i,k,y,rfl,rfl,hH,h1,h2,hk,hy,q⟩:=h
 cases rx
 obtain⟨u,rfl,ru⟩:=rv.one
 obtain⟨t,rfl⟩:=ru
 obtain⟨z,its,n,r,hl,e⟩:=I.lstM hH
 obtain⟨w,hw,rw'⟩:=r.get hy
 refine call_meets F.slot_list_pop ⟨_,e,rfl⟩ F.entry_list_pop (F.args_list_pop_2 _ _)
  (MeetsSeq.list_pop_at l its.toArray n i t k w (fitsIndex_both h1 h2) (by rw[List.size_toArray,<-hl];exact hk) (by rw[<-Array.getElem?_toList];exact hw) (by rw[List.size_toArray];omega)) ⟨e,?_⟩
 refine⟨y,_,I.lset (its':=its.eraseIdx k) hH e ?_ (r.eraseIdx k) ?_,rw',q⟩
 ·show its.toArray.eraseIdxIfInBounds k=(its.eraseIdx k).toArray
  rw[List.eraseIdxIfInBounds_toArray]
 ·have:=qW xs k
  omega
def Jx:R2:=fun x y H Q=>∃l k xs,x=.ref l/\y=.int k/\H l=some (.lst xs)/\ -(2 ^ 63)<=k/\k < 2 ^ 63/\xs.length * k.toNat<=sizeLine/\
 ∀p,H p=none->Q (.ref p) (upd H p (.lst (List.replicate k.toNat xs).flatten))
theorem len_rep {α:Type}(xs:List α)(k:Nat):(List.replicate k xs).flatten.length=k * xs.length:=by
 induction k with
 |zero=>simp
 |succ k ih=>rw[List.replicate_succ,List.flatten_cons,List.length_append,ih,Nat.succ_mul,Nat.add_comm]
theorem Bo:lG X (binaryOp .Mult) Jx:=by
 intro pins s σ H x y v u Q I rx ry h
 obtain⟨l,k,xs,rfl,rfl,hH,h1,h2,hz,q⟩:=h
 cases rx
 obtain⟨t,rfl⟩:=ry
 obtain⟨z,its,n,r,hl,e⟩:=I.lstM hH
 have hlen:its.toArray.size * k.toNat<=sizeLine:=by rw[List.size_toArray,<-hl];exact hz
 have hcap:¬its.toArray.size * k.toNat > (2 ^ 63 - 1) / 8:=by
  have:(sizeLine:Nat)<=(2 ^ 63 - 1) / 8:=by decide
  omega
 have hfit:¬(!Builtin.List.listFitsIndex k)=true:=by
  rw[fitsIndex_both h1 h2]
  exact Bool.false_ne_true
 have hlong:¬Builtin.List.listTooLong (its.toArray.size * k.toNat)=true:=by
  rw[A0 hlen]
  exact Bool.false_ne_true
 have hnew:List.foldl (fun x1 x2=>x1 ++ x2) #[] (List.replicate (if its.toArray.isEmpty=true then 0 else k.toNat) its.toArray)=(List.replicate k.toNat its).flatten.toArray:=by
  have f0:∀m:Nat,List.foldl (fun x1 x2=>x1 ++ x2) #[] (List.replicate m its.toArray)=(List.replicate m its).flatten.toArray:=fun m=>by
   have:=foldl_rep its m []
   rw[List.nil_append] at this
   exact this
  rw[f0]
  cases its with
  |nil=>simp
  |cons a r'=>rw[if_neg (by simp)]
 refine wpAny_binaryOp_repeat_ref (T:="list") (U:="int") (by decide) ⟨_,e,rfl⟩ (fun s'=>typeIs_int s' k t) noFill_list_mul F.fills_int_mul F.slot_int_rmul repeat_list F.slot_int_index.lookup
  (call_meets F.slot_int_rmul (typeIs_int s k t) F.entry_int_rmul (F.args_int_rmul_2 _ _) (int___rmul___int_list k t l its.toArray n)
   ⟨e,rfl,⟨_,e,rfl⟩,call_meets F.slot_list_mul ⟨_,e,rfl⟩ F.entry_list_mul (F.args_list_mul_2 _ _) (AutoListH.list___mul___list_int_3 l its.toArray n k t hfit hcap hlong) ⟨e,?_⟩⟩)
 rw[hnew]
 exact⟨.ref _,_,I.lnew (t':=s.toks) (r.rep k.toNat) (by rw[len_rep,Nat.mul_comm];exact hz),rfl,q _ I.fresh⟩
end
end L2
namespace Att
open PySem PySem.W PySem.Calls PyProof.Rows
theorem nO {P:Params}{h:Heap}:∀(ns:List Int) (vs:List Value),WellAll P h vs (ns.map WData.int)->IntsAre vs ns:=by
 intro ns
 induction ns with
 |nil=>
  intro vs w
  rw[List.map_nil] at w
  cases w
  exact .nil
 |cons n ns ih=>
  intro vs w
  rw[List.map_cons] at w
  cases w with
  |cons a b=>
   cases a
   exact .cons _ _ (ih _ b)
theorem yW {l:OpenLaw}{n:Nat}(hn:l.most=some n){P:Params}{h:Heap}{args:List WData}{vals:List Value}
  (hpre:l.row.toRowW.claim.pre args=true) (hwl:WellAll P h vals args) :
  ∃a vs ns,vals= [Value.ref a]/\args= [WData.list (ns.map WData.int)]/\h.get? a=some {cls:=.type "list",data:=.seq vs.toArray}/\IntsAre vs ns/\ns.length<=n:=by
 have hsh:WShape.hasAll [] args [.list .int]=true:=(pre_splitW hpre).1
 have hc:l.pre.holds [] {args:=args}=true:=(pre_splitW hpre).2
 obtain⟨d,r,rfl,h1,h2⟩:=hasAllW_cons hsh
 obtain rfl:=hasAllW_nil h2
 obtain⟨xs,rfl,h3⟩:=hasW_list h1
 obtain⟨ns,rfl⟩:=items_int h3
 have hlen:ns.length<=n:=by
  unfold OpenLaw.pre at hc
  have h4:(WTm.not (.lt (.lit (.int (n:Int))) (.len (.arg 0)))).holds [] {args:=[.list (ns.map .int)]}=true:=by
   have h4:=(holds_andW hc).1
   rw[hn] at h4
   exact h4
  have h5:=condW_of h4 (w_not (w_lt w_lit (w_len_list (w_arg rfl))))
  rw[List.length_map] at h5
  refine Nat.le_of_not_lt fun q=>?_
  have q':(n:Int) < ((ns.length:Nat):Int):=by omega
  first
   | (rw[decide_eq_true q'] at h5;exact absurd h5 (by decide))
   | (simp at h5;omega)
 cases hwl with
 |cons w1 w2=>
  cases w2
  cases w1 with
  |list ho hall=>exact⟨_,_,ns,rfl,rfl,ho,nO ns _ hall,hlen⟩
theorem zJ (l:OpenLaw)(args:List WData):l.row.toRowW.claim.post args (.bool true) args=true:=
 postW_of (r:=l.row.toRowW) (X:=(true == true))
  (show WShape.has [] (.bool true) .bool=true by first |rfl |decide |simp[WShape.has,WShape.arms,WShape.armsAll])
  (show (WTm.eq .res (.lit (.bool true))).value [] {args:=args,res:=some (.bool true),after:=args}=some (.bool (true == true)) from w_eq_bool (w_res rfl) w_lit) rfl
theorem ub {l:OpenLaw}{n:Nat}{q:Program}{loose:List Str}{XP:(Str->Option Value)->Heap->Prop}{YP:World->Heap->Prop}{d:DefRec}
  (hn:l.most=some n) (hdf:d.params.defaults= [])
  (call:∀(w:World) (s₀ s₁:Shared) (mg mb:Str->Option Value) (fa:Addr) (o:Obj) (pm cd doc:Value) (a:Addr) (vs:List Value) (ns:List Int),
   Ground q loose [] XP w s₀ mg mb s₁.heap->YP w s₁.heap->
   s₁.heap.get? fa=some o->o.data=.func (docDef d.name d.params d.body d.scope pm cd doc)->s₁.heap.CodeRec cd d.name->mg d.name=some (.ref fa)->
   s₁.heap.get? a=some {cls:=.type "list",data:=.seq vs.toArray}->IntsAre vs ns->ns.length<=n->s₁.gens=#[]->
   codeAny (model l.prog w) callerA (.call (.ref fa) ⟨[.ref a],[]⟩) (fun r s'=>r=.ok (.ret (.bool true))/\OldK s₁.heap s'.heap/\s'.os=s₁.os/\AllBare s'.gens) s₁) :
  WalkO q loose XP YP l.row.toRowW d [] (fun f vs=>PySem.call f vs):=by
 intro w s₀ s₁ mg mb G Y fa o pm cd doc dV kV ho hd hcd hD hmg hg args vals as hpre hlay hrd hwl hlo
 obtain rfl:dV=.none:=Dflts.none hD hdf
 obtain rfl:kV=.none:=Dflts.noKw hD
 obtain⟨a,vs,ns,rfl,rfl,hobj,hints,hlen⟩:=yW hn hpre hwl
 refine enter_call (codeAny_mono (call w s₀ s₁ mg mb fa o pm cd doc a vs ns G Y ho (fd_plain hd) hcd hmg hobj hints hlen hg) fun r s' hq=>?_)
 obtain⟨rfl,h2,h3,h4⟩:=hq
 exact⟨.inl ⟨.bool true,.bool true,[],rfl,fun _=>rfl,.bool true,zJ l _,fun _=>⟨List.Pairwise.nil,fun _ hm=>(nomatch hm)⟩⟩,h2,h3,h4⟩
end Att
namespace L2
open PySem PySem.Spec PyProof.Rows
theorem qP:∀{vs:List Value} {ns:List Int},IntsAre vs ns->Vals (ns.map V.int) vs
 |_,_,.nil=>.nil
 |_,_,.cons n t h=>.cons ⟨t,rfl⟩ (qP h)
def Fh (H:Hp):Prop:=∀b,H b=none\/∃o xs,H b=some (.bo o (.lst xs))
theorem z7 {P:Program}{w:World}{K:PySem.W.Frag}{mg mb:Str->Option Value}{CX:yK}{k:Nat}{fa a:Addr}{fd:FuncData}{x:Str}{sp:Sp}{s₁:Shared}{vs:List Value}{ns:List Int}
  (KX:K.In s₁.heap) (hns:s₁.heap.Ns mainGlobals mg) (hb:s₁.heap.Ns builtinsNs mb) (hbb:∀x:Str,x≠"__name__"->mb x=bootBuiltins x) (hlim:s₁.heap.NoLimit) (hsys:∃mm,s₁.heap.Ns sysModules mm) (hg:s₁.gens=#[])
  (ha:s₁.heap.get? a=some {cls:=.type "list",data:=.seq vs.toArray}) (hi:IntsAre vs ns) (hl:ns.length<=sizeLine) (hr:fo k callerA)
  (F:∀base:Heap,K.In base->base.Ns mainGlobals mg->fR P w K mg base CX k fa fd [x] sp) (hbind:∀(s:Shared) (u:Value),BindsTo s fd ⟨[u],[]⟩ [(x,u)])
  (hsp:∀H:Hp,Fh H->gk K H a (ns.map V.int)->sp [.ref a] H (fun v _=>v=.bl true) fun _ _ _=>False)
  (hCX:∀H e s',CX [] H s₁ (fun _ _ _=>False) e s'->False) :
  codeAny (model P w) callerA (.call (.ref fa) ⟨[.ref a],[]⟩) (fun r s'=>r=.ok (.ret (.bool true))/\OldK s₁.heap s'.heap/\s'.os=s₁.os/\AllBare s'.gens) s₁:=by
 have rv:=qP hi
 have lenV:=hi.length
 have core:∀H:Hp,Fh H->gk K H a (ns.map V.int)->lh P w H s₁.heap->(∀b,H b≠none->b=a)->(H a≠none->K.lookup a=none)->
   codeAny (model P w) callerA (.call (.ref fa) ⟨[.ref a],[]⟩) (fun r s'=>r=.ok (.ret (.bool true))/\OldK s₁.heap s'.heap/\s'.os=s₁.os/\AllBare s'.gens) s₁:=by
  intro H hO hS hok hA hK
  have base_of:∀{b:Addr} {o:Obj},s₁.heap.get? b=some o->H b=none->(sD s₁.heap H).get? b=some o:=fun e n=>Ab e n
  have noA:∀{b:Addr} {o:Obj} {es:Array DictEntry} {ep:Nat},s₁.heap.get? b=some o->o.data=.dict es ep->H b=none:=fun {b o es ep} e d=>by
   cases q:H b with
   |none=>rfl
   |some u=>
    have e':b=a:=hA b (by rw[q];simp)
    subst e'
    rw[ha] at e;cases e
    have d':Data.seq vs.toArray _=Data.dict es ep:=d
    cases d'
  have nsK:∀{b:Addr} {m:Str->Option Value},s₁.heap.Ns b m->(sD s₁.heap H).Ns b m:=fun {b m} ⟨o,es,ep,e,d,r⟩=>⟨o,es,ep,base_of e (noA e d),d,r⟩
  have hKb:K.In (sD s₁.heap H):=fun b o e=>base_of (KX b o e) (by
   cases q:H b with
   |none=>rfl
   |some u=>
    have e':b=a:=hA b (by rw[q];simp)
    subst e'
    rw[hK (by rw[q];simp)] at e;cases e)
  have hM:Mod K mg (sD s₁.heap H):=⟨hKb,nsK hns,⟨mb,nsK hb,hbb⟩,let ⟨mc,h1,h2⟩:=hlim;⟨mc,nsK h1,h2⟩,let ⟨mm,h1⟩:=hsys;⟨mm,nsK h1⟩⟩
  have e0:De P w K mg (sD s₁.heap H) callerA [] s₁ H:=⟨rfl,hM,fun b o e=>C0 e,Nat.le_of_eq (yG _ _),trivial,fun b hb=>absurd (show b∈([]:List Addr) from hb) (by simp),hok,.of_eq hg⟩
  refine codeAny_mono ((F _ hKb (nsK hns)).run callerA [] s₁ H ⟨[.ref a],[]⟩ [.ref a] [.ref a] _ _ hr e0 (hbind s₁ (.ref a)) (.cons rfl .nil) (hsp H hO hS)) fun r s' h=>?_
  cases r with
  |error e=>exact (hCX H e s' h).elim
  |ok fl=>
   cases fl with
   |next=>exact False.elim h
   |brk=>exact False.elim h
   |cont=>exact False.elim h
   |ret u=>
    obtain⟨v,H',os,bare,un,hok',r',q⟩:=h
    have q':v=.bl true:=q
    subst q'
    obtain rfl:u=Value.bool true:=r'
    refine⟨rfl,OldK.of_keep fun b o e=>?_,os,bare⟩
    cases q:H b with
    |none=>exact un.keep b o e q (by intro z;exact absurd (show b∈([]:List Addr) from z) (by simp)) (by simp)
    |some u=>
     rcases hO b with z | ⟨ob,xs,z⟩
     ·rw[q] at z;cases z
     ·have z2:=un.frzs b ob _ z
      obtain⟨e1,_⟩:=hok b _ z
      obtain⟨e2,_⟩:=hok' b _ z2
      rw[e] at e1;cases e1
      exact e2
 cases hk:K.lookup a with
 |some o=>
  have e:=KX a o hk
  rw[ha] at e
  cases e
  refine core (fun _=>none) (fun _=>.inl rfl) (.inr ⟨_,vs.toArray,_,hk,rfl,rfl,rfl,by rw[List.size_toArray,lenV];exact hl,by simpa using rv⟩) (fun b u z=>by have z':(none:Option HO)=some u:=z;cases z') (fun b z=>absurd rfl z) fun z=>absurd rfl z
 |none=>
  refine core (fun b=>if b=a then some (.bo {cls:=.type "list",data:=.seq vs.toArray} (.lst (ns.map V.int))) else none) (fun b=>?_) (.inl (.inr ⟨{cls:=.type "list",data:=.seq vs.toArray},if_pos rfl⟩)) (fun b u z=>?_) (fun b z=>?_) fun _=>hk
  ·by_cases hb:b=a
   ·exact .inr ⟨_,_,if_pos hb⟩
   ·exact .inl (if_neg hb)
  ·by_cases hb:b=a
   ·have z':=(if_pos hb).symm.trans z
    cases z'
    subst hb
    exact⟨ha,by rw[List.length_map];exact hl,vs,_,rv,ha⟩
   ·have z':=(if_neg hb).symm.trans z
    cases z'
  ·by_cases hb:b=a
   ·exact hb
   ·exact absurd (if_neg hb) z
end L2
namespace L2
open PySem PySem.Spec PyProof.Rows
theorem CO {l:PySem.W.OpenLaw}{n k:Nat}{q:Program}{loose:List Str}{XP:(Str->Option Value)->Heap->Prop}{YP:World->Heap->Prop}{d:DefRec}{K:Params->PySem.W.Frag}{CX:World->yK}{sp:World->Sp}{x:Str}
  (hn:l.most=some n) (hn2:n<=sizeLine) (hdf:d.params.defaults= []) (hi:PyProof.Rows.importsNone q=true) (hr:fo k callerA)
  (hY:∀(w:World) (h:Heap),YP w h->(K w.params).In h)
  (F:∀(w:World) (mg:Str->Option Value) (fa:Addr) (h:Heap),(K w.params).In h->h.Ns mainGlobals mg->mg d.name=some (.ref fa)->
   ∃fd:FuncData,(∀(s:Shared) (u:Value),BindsTo s fd ⟨[u],[]⟩ [(x,u)])/\
    ∀base:Heap,(K w.params).In base->base.Ns mainGlobals mg->fR l.prog w (K w.params) mg base (CX w) k fa fd [x] (sp w))
  (hsp:∀(w:World) (H:Hp) (a:Addr) (ns:List Int),ns.length<=n->Fh H->gk (K w.params) H a (ns.map V.int)->sp w [.ref a] H (fun v _=>v=.bl true) fun _ _ _=>False)
  (hCX:∀(w:World) (H:Hp) (s:Shared) (e:Value) (s':Shared),CX w [] H s (fun _ _ _=>False) e s'->False) :
  PySem.W.WalkO q loose XP YP l.row.toRowW d [] (fun f vs=>PySem.call f vs):=by
 refine Att.ub hn hdf fun w s₀ s₁ mg mb fa o pm cd doc a vs ns G Y ho hd hcd hmg hobj hints hlen hg=>?_
 have KX:=hY w _ Y
 obtain⟨fd,hb,hF⟩:=F w mg fa _ KX G.T.g hmg
 exact z7 KX G.T.g G.T.b G.T.builtins G.T.nolimit (let ⟨mm,h1,_⟩:=(G.T.seer hi).mods;⟨mm,h1⟩) hg hobj hints (Nat.le_trans hlen hn2) hr hF hb (fun H hO hS=>hsp w H a ns hlen hO hS) fun H e s'=>hCX w H s₁ e s'
end L2
namespace L2
open PySem PySem.Spec PyProof.Rows
def iw (s:Stmt):Arguments:=match s with
 | .FunctionDef _ a _ _ _ _ _ _ _ _=>a
 |_=>{posonlyargs:=[],args:=[],vararg:=none,kwonlyargs:=[],kw_defaults:=[],kwarg:=none,defaults:=[]}
def cO (s:Stmt):List Stmt:=match s with
 | .FunctionDef _ _ b _ _ _ _ _ _ _=>b
 |_=>[]
def aq (s:Stmt):Scope:=match s with
 | .FunctionDef _ _ _ _ _ _ sc _ _ _=>sc
 |_=>{kind:=.function,names:=[],isGenerator:=false,isCoroutine:=false}
abbrev Gu:yK:=fun _ _ _ _ _ _=>False
abbrev E0:XK:=fun _ _ _=>False
theorem Hg {X:Cx}:Passes Gu X E0:=fun _ _ _ _ _ _ _ h=>h.elim
structure Cw (K:PySem.W.Frag)(x qual:Str)(st:Stmt)(f:Addr)(fd:FuncData):Prop where
 ex:∃(oc:Value) (od:Option Addr) (kV doc pm:Value) (an:Option Addr) (cdv ct:Value) (osl:Array (Option Value)),
  fd=PySem.W.fnOf x qual (iw st) (cO st) (aq st) .none kV doc pm an cdv ct/\K.lookup f=some ⟨oc,od,.func fd,osl⟩/\PySem.W.codeIn K cdv qual=true
 kp:PySem.W.keepIn K (.ref f)=true
section
variable {P:Program}{w:World}{K:PySem.W.Frag}{mg:Str->Option Value}{base:Heap}
theorem Cw.ok {x qual:Str}{st:Stmt}{f:Addr}{fd:FuncData}{N ps:List Str}{k:Nat}{sp:Sp}(F:Cw K x qual st f fd)(S:aH N ps (aq st))(len:∀vs H Q E,sp vs H Q E->vs.length=ps.length)
  (hbody:∀(cdv:Value) (A:Around) (outer:List Env) (s:Shared) (H:Hp) (vs:List V) (Q:VK) (E:XK),fo k (A.deeper (envOfC qual (aq st) s.heap.objs.size f cdv))->sp vs H Q E->
   ∃t,rb (kQ Gu P w K mg base N qual (aq st) f cdv A outer s H E).nox (cO st) t/\t {nx:=fun _ H'=>Q .non H',rt:=Q} (start N vs) H):fR P w K mg base Gu (k + 1) f fd ps sp:=by
 obtain⟨oc,od,kV,doc,pm,an,cdv,ct,osl,rfl,lk,hcd⟩:=F.ex
 refine Ec lk hcd S len fun A outer s H vs Q E hr hsp=>?_
 obtain⟨t,h,q⟩:=hbody cdv A outer s H vs Q E hr hsp
 exact⟨t,h.nox,q⟩
theorem Cw.binds {x qual:Str}{st:Stmt}{f:Addr}{fd:FuncData}{ps:List Str}(F:Cw K x qual st f fd)
  (h:∀(kV doc pm:Value) (an:Option Addr) (cdv ct:Value) (us:List Value),us.length=ps.length->bindArgs (PySem.W.fnOf x qual (iw st) (cO st) (aq st) .none kV doc pm an cdv ct) ⟨us,[]⟩=pure (ps.zip us)):Binds K fd ps []:=by
 obtain⟨oc,od,kV,doc,pm,an,cdv,ct,osl,rfl,lk,hcd⟩:=F.ex
 exact .all (h kV doc pm an cdv ct)
theorem xc {x qual:Str}{st:Stmt}{f:Addr}{oc:Value}{od an:Option Addr}{osl:Array (Option Value)}{kV doc pm cdv ct:Value}(l:K.lookup f=some ⟨oc,od,.func (PySem.W.fnOf x qual (iw st) (cO st) (aq st) .none kV doc pm an cdv ct),osl⟩)
  (c:PySem.W.codeIn K cdv qual=true) (k:PySem.W.keepIn K (.ref f)=true):Cw K x qual st f (PySem.W.fnOf x qual (iw st) (cO st) (aq st) .none kV doc pm an cdv ct):=⟨⟨oc,od,kV,doc,pm,an,cdv,ct,osl,rfl,l,c⟩,k⟩
end
section
variable {X:Cx}
theorem pv (i:Nat){x:Str}{pos:Pos}(hN:X.N[i]? =some x:=by rfl)(hv:zS X.env.scope x:=by first |exact Or.inl rfl |exact Or.inr (Or.inl rfl) |exact Or.inr (Or.inr rfl))(hd:(x == ("__debug__":Str))=false:=by decide)
  (hcd:(x == ("__classdict__":Str))=false:=by decide):PE X (.Name x pos) (Dv i):=jG hN hv hd hcd
end
theorem vh {A B:Prop}(h:B):if false=true then A else B:=by
 rw[if_neg Bool.false_ne_true]
 exact h
theorem uT {A B:Prop}(h:A):if true=true then A else B:=by
 rw[if_pos rfl]
 exact h
def ar (H H':Hp):Prop:=∀b o,H b=some o->H' b=some o
theorem ar.refl (H:Hp):ar H H:=fun _ _ h=>h
theorem ar.trans {H H1 H2:Hp}(a:ar H H1)(b:ar H1 H2):ar H H2:=fun c o h=>b c o (a c o h)
theorem ar.free {H H':Hp}(e:ar H H'){l:Addr}(h:H' l=Option.none):H l=Option.none:=by
 cases q:H l with
 |none=>rfl
 |some o=>
  rw[e l o q] at h
  cases h
theorem ar.seq {K:PySem.W.Frag}{H H':Hp}{a:Addr}{xs:List V}(e:ar H H')(h:gk K H a xs):gk K H' a xs:=by
 rcases h with (h | ⟨o,h⟩) |h
 ·exact .inl (.inl (e _ _ h))
 ·exact .inl (.inr ⟨o,e _ _ h⟩)
 ·exact .inr h
end L2

end

section
namespace L2.ST
open PySem PySem.SetTable
abbrev jC (xs:Array Nat):Prop:=xs.toList.Pairwise (· < ·)
theorem hW {xs:Array Nat}(h:jC xs){i k d:Nat}(hik:i < k)(hk:k < xs.size):xs.getD i d < xs.getD k d:=by
 have hi:i < xs.size:=Nat.lt_trans hik hk
 have:=List.pairwise_iff_getElem.mp h i k (by simpa using hi) (by simpa using hk) hik
 simpa[Array.getD,hi,hk] using this
theorem As {xs:Array Nat}{j:Nat}(h:jC xs):∀(fuel lo hi:Nat),lo<=hi->hi<=xs.size->hi - lo<=fuel->
  (∀i,i < lo->xs.getD i j < j)->(∀i,hi<=i->i < xs.size->j<=xs.getD i j)->
  below.go xs j fuel lo hi<=xs.size/\(∀i,i < below.go xs j fuel lo hi->xs.getD i j < j)/\(∀i,below.go xs j fuel lo hi<=i->i < xs.size->j<=xs.getD i j):=by
 intro fuel
 induction fuel with
 |zero=>
  intro lo hi h1 h2 h3 h4 h5
  have:lo=hi:=by omega
  subst this
  exact⟨h2,h4,h5⟩
 |succ fuel ih=>
  intro lo hi h1 h2 h3 h4 h5
  unfold below.go
  by_cases hlt:lo < hi
  ·rw[if_pos hlt]
   dsimp only
   by_cases hm:xs.getD ((lo + hi) / 2) j < j
   ·rw[if_pos hm]
    refine ih _ _ (by omega) h2 (by omega) (fun i hi'=>?_) h5
    by_cases e:i=(lo + hi) / 2
    ·rw[e];exact hm
    ·exact Nat.lt_trans (hW h (show i < (lo + hi) / 2 by omega) (by omega)) hm
   ·rw[if_neg hm]
    refine ih _ _ (by omega) (by omega) (by omega) h4 (fun i hi' hs=>?_)
    by_cases e:i=(lo + hi) / 2
    ·rw[e];omega
    ·have:=hW (d:=j) h (show (lo + hi) / 2 < i by omega) hs
     omega
  ·rw[if_neg hlt]
   have:lo=hi:=by omega
   subst this
   exact⟨h2,h4,h5⟩
theorem dF {xs:Array Nat}(h:jC xs)(j:Nat) :
  below xs j<=xs.size/\(∀i,i < below xs j->xs.getD i j < j)/\(∀i,below xs j<=i->i < xs.size->j<=xs.getD i j):=
 As h xs.size 0 xs.size (Nat.zero_le _) (Nat.le_refl _) (by omega) (fun i hi=>by omega) (fun i h1 h2=>by omega)
theorem zx {xs:Array Nat}(h:jC xs){i j:Nat}(hi:xs[i]? =some j):below xs j=i:=by
 obtain⟨b1,b2,b3⟩:=dF h j
 have hs:i < xs.size:=(Array.getElem?_eq_some_iff.mp hi).1
 have hv:xs.getD i j=j:=by rw[Array.getD_eq_getD_getElem?,hi];rfl
 rcases Nat.lt_trichotomy i (below xs j) with c |c |c
 ·have:=b2 i c;omega
 ·exact c.symm
 ·have hb:below xs j < xs.size:=by omega
  have q:=b3 (below xs j) (Nat.le_refl _) hb
  have:=hW (d:=j) h c hs
  omega
theorem yq (j:Nat):has #[] j=false:=by
 unfold has
 simp
theorem qC {t:SetTable}(h:jC t.place){i j:Nat}(hi:t.place[i]? =some j):t.slot j=.live i:=by
 unfold slot
 dsimp only
 rw[zx h hi,if_pos (by simp[hi])]
theorem vP {t:SetTable}(hd:t.dummies=#[]){j:Nat}(hj:j∉t.place):t.slot j=.empty:=by
 unfold slot
 dsimp only
 have:¬(t.place[below t.place j]? == some j)=true:=by
  intro e
  have e':t.place[below t.place j]? =some j:=by simpa using e
  obtain⟨h1,h2⟩:=Array.getElem?_eq_some_iff.mp e'
  exact hj (Array.mem_iff_getElem.mpr ⟨_,h1,h2⟩)
 rw[if_neg this,hd,yq]
 rfl
def vA (mask:Nat)(p:Probe):Probe:=
 if p.more > 0 then {p with j:=p.j + 1,more:=p.more - 1} else
 {p with j:=(leap mask p.i p.perturb).1,more:=runEnd mask (leap mask p.i p.perturb).1 - (leap mask p.i p.perturb).1,i:=(leap mask p.i p.perturb).1,perturb:=(leap mask p.i p.perturb).2}
def yZ (mask i perturb:Nat):Probe:={j:=i,more:=runEnd mask i - i,i,perturb,dummy:=none}
def st (mask:Nat)(h:Int):Probe:=yZ mask (bits h % (mask + 1)) (bits h)
theorem z0 (t:SetTable)(p:Probe):t.advance p=vA t.mask p:=rfl
theorem Ef (t:SetTable)(h:Int):t.probeStart h=st t.mask h:=rfl
def fk (mask:Nat):Nat->Probe->Probe
 | 0,p=>p
 |n + 1,p=>fk mask n (vA mask p)
theorem j4 (mask:Nat):∀(n m:Nat) (p:Probe),fk mask (n + m) p=fk mask m (fk mask n p)
 | 0,m,p=>by rw[Nat.zero_add];rfl
 |n + 1,m,p=>by rw[Nat.add_right_comm];exact j4 mask n m (vA mask p)
theorem z5 {mask:Nat}{p:Probe}(h:p.dummy=none):(vA mask p).dummy=none:=by
 unfold vA;split <;> exact h
theorem iS {mask i:Nat}(h:i<=mask):i<=runEnd mask i/\runEnd mask i<=mask/\runEnd mask i - i<=9:=by
 unfold runEnd;split <;> omega
def In (mask:Nat)(p:Probe):Prop:=p.j + p.more<=mask/\p.more<=9
theorem EO {mask i q:Nat}(h:i<=mask):In mask (yZ mask i q):=by
 have:=iS h
 unfold In yZ;dsimp only;omega
theorem lZ (mask i q:Nat):(leap mask i q).1<=mask:=by
 unfold leap;exact Nat.lt_succ_iff.mp (Nat.mod_lt _ (Nat.succ_pos _))
theorem FE {mask:Nat}{p:Probe}(h:In mask p):In mask (vA mask p):=by
 unfold vA
 by_cases hm:p.more > 0
 ·rw[if_pos hm];unfold In at *;dsimp only;omega
 ·rw[if_neg hm]
  have:=iS (lZ mask p.i p.perturb)
  unfold In;dsimp only;omega
theorem xo {mask:Nat}:∀(n:Nat) {p:Probe},In mask p->In mask (fk mask n p)
 | 0,_,h=>h
 |n + 1,_,h=>xo n (FE h)
theorem Ih (mask:Nat)(h:Int):In mask (st mask h):=EO (Nat.lt_succ_iff.mp (Nat.mod_lt _ (Nat.succ_pos _)))
theorem tW (mask:Nat):∀(k:Nat) (p:Probe),p.more=k->fk mask (k + 1) p={p with j:=(leap mask p.i p.perturb).1,more:=runEnd mask (leap mask p.i p.perturb).1 - (leap mask p.i p.perturb).1,i:=(leap mask p.i p.perturb).1,perturb:=(leap mask p.i p.perturb).2}
 | 0,p,h=>by
  show vA mask p=_
  unfold vA
  rw[if_neg (by omega)]
 |k + 1,p,h=>by
  have e:vA mask p={p with j:=p.j + 1,more:=p.more - 1}:=by unfold vA;rw[if_pos (by omega)]
  show fk mask (k + 1) (vA mask p)=_
  rw[e,tW mask k _ (by dsimp only;omega)]
theorem mG (mask i q:Nat):fk mask (runEnd mask i - i + 1) (yZ mask i q)=yZ mask (leap mask i q).1 (leap mask i q).2:=by
 exact tW mask _ (yZ mask i q) rfl
theorem ji (mask i q:Nat):∀(k:Nat),k<=runEnd mask i - i->(fk mask k (yZ mask i q))={yZ mask i q with j:=i + k,more:=runEnd mask i - i - k}
 | 0,_=>rfl
 |k + 1,h=>by
  rw[j4 mask k 1,ji mask i q k (by omega)]
  show vA mask _=_
  unfold vA
  rw[if_pos (by dsimp only;omega)]
  simp only[Probe.mk.injEq]
  refine⟨by omega,by omega,?_⟩
  trivial
def fS (mask:Nat):Nat->Nat×Nat->Nat×Nat
 | 0,x=>x
 |k + 1,x=>fS mask k (leap mask x.1 x.2)
theorem nc (mask:Nat):∀(k i q:Nat),i<=mask->∃n,n<=10 * k/\fk mask n (yZ mask i q)=yZ mask (fS mask k (i,q)).1 (fS mask k (i,q)).2
 | 0,i,q,_=>⟨0,Nat.le_refl _,rfl⟩
 |k + 1,i,q,h=>by
  obtain⟨n,hn,e⟩:=nc mask k (leap mask i q).1 (leap mask i q).2 (lZ _ _ _)
  have:=iS h
  refine⟨(runEnd mask i - i + 1) + n,by omega,?_⟩
  rw[j4,mG,e]
  rfl
theorem qL (mask:Nat):∀(a b:Nat) (x:Nat×Nat),fS mask (a + b) x=fS mask b (fS mask a x)
 | 0,b,x=>by rw[Nat.zero_add];rfl
 |a + 1,b,x=>by rw[Nat.add_right_comm];exact qL mask a b (leap mask x.1 x.2)
theorem vk (mask:Nat):∀(k:Nat) (x:Nat×Nat),x.1<=mask->(fS mask k x).1<=mask
 | 0,_,h=>h
 |k + 1,x,_=>vk mask k _ (lZ mask x.1 x.2)
theorem kU (mask:Nat):∀(k:Nat) (x:Nat×Nat),(fS mask k x).2=x.2 / 32 ^ k
 | 0,x=>by simp[fS]
 |k + 1,x=>by
  show (fS mask k (leap mask x.1 x.2)).2=_
  rw[kU mask k,Nat.pow_succ,Nat.mul_comm,<-Nat.div_div_eq_div_mul]
  rfl
def nx (mask i:Nat):Nat:=(i * 5 + 1) % (mask + 1)
def zX (mask:Nat):Nat->Nat->Nat
 | 0,i=>i
 |k + 1,i=>zX mask k (nx mask i)
theorem n6 (mask:Nat):∀(a b i:Nat),zX mask (a + b) i=zX mask b (zX mask a i)
 | 0,b,i=>by rw[Nat.zero_add];rfl
 |a + 1,b,i=>by rw[Nat.add_right_comm];exact n6 mask a b (nx mask i)
theorem pE (mask:Nat):∀(k i:Nat),fS mask k (i,0)=(zX mask k i,0)
 | 0,_=>rfl
 |k + 1,i=>by
  show fS mask k (leap mask i 0)=_
  have:leap mask i 0=(nx mask i,0):=by simp[leap,nx]
  rw[this,pE mask k]
  rfl
def Cg (mask:Nat):Prop:=mask=7\/mask=31\/mask=127
theorem HR (mask:Nat)(hm:Cg mask):zX mask (mask + 1) 0=0/\∀j,j<=mask->∃k,k<=mask/\zX mask k 0=j:=by
 have h7:∀j:Nat,j < 8->∃k,k < 8/\zX 7 k 0=j:=by decide +kernel
 have h31:∀j:Nat,j < 32->∃k,k < 32/\zX 31 k 0=j:=by decide +kernel
 have h127:∀j:Nat,j < 128->∃k,k < 128/\zX 127 k 0=j:=by decide +kernel
 rcases hm with rfl |rfl |rfl
 ·exact⟨by decide +kernel,fun j hj=>let ⟨k,a,b⟩:=h7 j (by omega);⟨k,by omega,b⟩⟩
 ·exact⟨by decide +kernel,fun j hj=>let ⟨k,a,b⟩:=h31 j (by omega);⟨k,by omega,b⟩⟩
 ·exact⟨by decide +kernel,fun j hj=>let ⟨k,a,b⟩:=h127 j (by omega);⟨k,by omega,b⟩⟩
theorem G9 {mask:Nat}(hm:Cg mask){i j:Nat}(hi:i<=mask)(hj:j<=mask):∃k,k<=mask/\zX mask k i=j:=by
 obtain⟨z,o⟩:=HR mask hm
 obtain⟨a,ha,ea⟩:=o i hi
 obtain⟨b,hb,eb⟩:=o j hj
 have back:zX mask (mask + 1 - a) i=0:=by
  rw[<-ea,<-n6,show a + (mask + 1 - a)=mask + 1 by omega];exact z
 by_cases hab:a<=b
 ·refine⟨b - a,by omega,?_⟩
  rw[<-ea,<-n6,show a + (b - a)=b by omega];exact eb
 ·refine⟨mask + 1 - a + b,by omega,?_⟩
  rw[n6,back];exact eb
theorem o5 {mask:Nat}(hm:Cg mask){i q j:Nat}(hi:i<=mask)(hq:q < 2 ^ 64)(hj:j<=mask):∃k,k<=mask + 13/\(fS mask k (i,q)).1=j:=by
 have hz:(fS mask 13 (i,q)).2=0:=by
  rw[kU]
  exact Nat.div_eq_of_lt (Nat.lt_of_lt_of_le hq (by decide))
 obtain⟨k,hk,e⟩:=G9 hm (vk mask 13 (i,q) hi) hj
 refine⟨13 + k,by omega,?_⟩
 rw[qL]
 have:fS mask 13 (i,q)=((fS mask 13 (i,q)).1,0):=Prod.ext rfl hz
 rw[this,pE]
 exact e
theorem xr (h:Int):bits h < 2 ^ 64:=by
 unfold bits
 have:=Int.emod_lt_of_pos h (show (0:Int) < 2 ^ 64 by decide)
 have:=Int.emod_nonneg h (show (2 ^ 64:Int)≠0 by decide)
 omega
theorem AI {mask:Nat}(hm:Cg mask)(h:Int){j:Nat}(hj:j<=mask):∃n,n < 10 * turns mask/\(fk mask n (st mask h)).j=j:=by
 have hi:bits h % (mask + 1)<=mask:=Nat.lt_succ_iff.mp (Nat.mod_lt _ (Nat.succ_pos _))
 obtain⟨k,hk,e⟩:=o5 hm hi (xr h) hj
 obtain⟨n,hn,q⟩:=nc mask k (bits h % (mask + 1)) (bits h) hi
 refine⟨n,by unfold turns;omega,?_⟩
 show (fk mask n (yZ mask _ _)).j=j
 rw[q];exact e
end L2.ST

end

section
namespace L2.ST
open PySem PySem.SetTable
theorem AW {t:SetTable}{hashAt:Nat->Int}{h:Int}:∀(n fuel:Nat) (p:Probe),n < fuel->p.dummy=none->
  (∀m,m < n->∃i,t.slot (fk t.mask m p).j=.live i/\hashAt i≠h)->t.slot (fk t.mask n p).j=.empty->
  probe.go t hashAt h fuel p=some (.empty (fk t.mask n p).j none):=by
 intro n
 induction n with
 |zero=>
  intro fuel p hf hd _ he
  obtain⟨f,rfl⟩:∃f,fuel=f + 1:=⟨fuel - 1,by omega⟩
  unfold probe.go
  have he':t.slot p.j=.empty:=he
  rw[he',hd]
  rfl
 |succ n ih=>
  intro fuel p hf hd hl he
  obtain⟨f,rfl⟩:∃f,fuel=f + 1:=⟨fuel - 1,by omega⟩
  unfold probe.go
  obtain⟨i,e,ne⟩:=hl 0 (by omega)
  have e':t.slot p.j=.live i:=e
  rw[e']
  dsimp only
  rw[if_neg (by simpa using ne),z0]
  exact ih f (vA t.mask p) (by omega) (z5 hd) (fun m hm=>hl (m + 1) (by omega)) he
theorem AN {t:SetTable}{hashAt:Nat->Int}{h:Int}:∀(n fuel:Nat) (p:Probe),n < fuel->
  (∀m,m<=n->∃i,t.slot (fk t.mask m p).j=.live i)->(∃i,t.slot (fk t.mask n p).j=.live i/\hashAt i=h)->
  ∃j i next,probe.go t hashAt h fuel p=some (.candidate j i next)/\t.slot j=.live i/\hashAt i=h:=by
 intro n
 induction n with
 |zero=>
  intro fuel p hf _ he
  obtain⟨f,rfl⟩:∃f,fuel=f + 1:=⟨fuel - 1,by omega⟩
  obtain⟨i,e,eh⟩:=he
  have e':t.slot p.j=.live i:=e
  unfold probe.go
  rw[e']
  dsimp only
  rw[if_pos (by simpa using eh)]
  exact⟨p.j,i,_,rfl,e',eh⟩
 |succ n ih=>
  intro fuel p hf hl he
  obtain⟨f,rfl⟩:∃f,fuel=f + 1:=⟨fuel - 1,by omega⟩
  obtain⟨i,e⟩:=hl 0 (by omega)
  have e':t.slot p.j=.live i:=e
  unfold probe.go
  rw[e']
  dsimp only
  by_cases hh:hashAt i=h
  ·rw[if_pos (by simpa using hh)]
   exact⟨p.j,i,_,rfl,e',hh⟩
  ·rw[if_neg (by simpa using hh),z0]
   exact ih f (vA t.mask p) (by omega) (fun m hm=>hl (m + 1) (by omega)) he
def Reach (mask:Nat)(L:Nat->Prop)(h:Int)(j:Nat):Prop:=∃n,n < 10 * turns mask/\(fk mask n (st mask h)).j=j/\∀m,m < n->L (fk mask m (st mask h)).j
theorem Reach.mono {mask:Nat}{L L':Nat->Prop}{h:Int}{j:Nat}(r:Reach mask L h j)(k:∀x,L x->L' x):Reach mask L' h j:=
 let ⟨n,a,b,c⟩:=r;⟨n,a,b,fun m hm=>k _ (c m hm)⟩
structure Tab (t:SetTable)(hs:List Int):Prop where
 mask:Cg t.mask
 dum:t.dummies=#[]
 rise:jC t.place
 le:∀j,j∈t.place->j<=t.mask
 size:t.place.size=hs.length
 load:t.place.size * 5 < t.mask * 3
 reach:∀(i j:Nat) (h:Int),t.place[i]? =some j->hs[i]? =some h->Reach t.mask (· ∈t.place) h j
 plain:t.plain=true
theorem bC {α:Type}[DecidableEq α]:∀{l m:List α},l.Nodup->(∀x,x∈l->x∈m)->l.length<=m.length
 | [],_,_,_=>Nat.zero_le _
 |a :: l,m,hn,hs=>by
  have ha:=hs a (List.mem_cons_self ..)
  have hl:=List.nodup_cons.mp hn
  have:=bC (l:=l) (m:=m.erase a) hl.2 fun x hx=>by
   refine (List.mem_erase_of_ne ?_).mpr (hs x (List.mem_cons_of_mem _ hx))
   rintro rfl;exact hl.1 hx
  rw[List.length_erase_of_mem ha] at this
  have:0 < m.length:=List.length_pos_of_mem ha
  simp only[List.length_cons];omega
theorem vM {mask:Nat}{xs:Array Nat}(hl:xs.size<=mask):∃j,j<=mask/\j∉xs:=by
 refine Classical.byContradiction fun hc=>?_
 have all:∀j,j∈List.range (mask + 1)->j∈xs.toList:=fun j hj=>by
  have:=List.mem_range.mp hj
  refine Classical.byContradiction fun hn=>hc ⟨j,by omega,fun z=>hn (by simpa using z)⟩
 have:=bC List.nodup_range all
 simp at this
 omega
theorem tw {P:Nat->Prop}(h:∃n,P n):∃n,P n/\∀m,m < n->¬P m:=by
 obtain⟨n,hn⟩:=h
 induction n using Nat.strongRecOn with
 |_ n ih=>
  by_cases hc:∃m,m < n/\P m
  ·obtain⟨m,hm,hp⟩:=hc
   exact ih m hm hp
  ·exact⟨n,hn,fun m hm hp=>hc ⟨m,hm,hp⟩⟩
section
variable {t:SetTable}{hs:List Int}
theorem Tab.load' (T:Tab t hs):t.place.size<=t.mask:=by have:=T.load;omega
theorem Tab.slotL (T:Tab t hs){j:Nat}(hj:j∈t.place):∃i,t.slot j=.live i/\t.place[i]? =some j:=by
 obtain⟨i,hi,e⟩:=Array.mem_iff_getElem.mp hj
 have q:t.place[i]? =some j:=by rw[Array.getElem?_eq_getElem hi,e]
 exact⟨i,qC T.rise q,q⟩
theorem Tab.slotE (T:Tab t hs){j:Nat}(hj:j∉t.place):t.slot j=.empty:=vP T.dum hj
theorem Tab.first (T:Tab t hs)(h:Int):∃n,n < 10 * turns t.mask/\(fk t.mask n (st t.mask h)).j∉t.place/\∀m,m < n->(fk t.mask m (st t.mask h)).j∈t.place:=by
 obtain⟨j,hj,hn⟩:=vM T.load'
 obtain⟨n,h1,h2⟩:=AI T.mask h hj
 obtain⟨k,hk,hlt⟩:=tw (P:=fun n=>(fk t.mask n (st t.mask h)).j∉t.place) ⟨n,by rw[h2];exact hn⟩
 refine⟨k,?_,hk,fun m hm=>Classical.byContradiction fun z=>hlt m hm z⟩
 rcases Nat.lt_or_ge n k with c |c
 ·exact absurd (show (fk t.mask n (st t.mask h)).j∉t.place by rw[h2];exact hn) (hlt n c)
 ·omega
theorem Tab.absent (T:Tab t hs){hashAt:Nat->Int}(ha:∀i,i < hs.length->some (hashAt i)=hs[i]?){h:Int}(hn:h∉hs) :
  ∃j,t.probe hashAt h (t.probeStart h)=some (.empty j none)/\j∉t.place/\j<=t.mask/\Reach t.mask (· ∈t.place) h j:=by
 obtain⟨n,h1,h2,h3⟩:=T.first h
 refine⟨(fk t.mask n (st t.mask h)).j,?_,h2,?_,⟨n,h1,rfl,h3⟩⟩
 ·unfold probe
  rw[Ef]
  refine AW n _ _ h1 rfl (fun m hm=>?_) (T.slotE h2)
  obtain⟨i,e,q⟩:=T.slotL (h3 m hm)
  refine⟨i,e,fun z=>hn ?_⟩
  have hi:i < hs.length:=by rw[<-T.size];exact (Array.getElem?_eq_some_iff.mp q).1
  have:=ha i hi
  rw[z] at this
  exact List.mem_of_getElem? this.symm
 ·have:=xo n (Ih t.mask h)
  unfold In at this;omega
theorem Tab.present (T:Tab t hs){hashAt:Nat->Int}(ha:∀i,i < hs.length->some (hashAt i)=hs[i]?){h:Int}(hm:h∈hs) :
  ∃j i next,t.probe hashAt h (t.probeStart h)=some (.candidate j i next)/\t.slot j=.live i/\i < hs.length/\hs[i]? =some h:=by
 obtain⟨i,hi,e⟩:=List.mem_iff_getElem.mp hm
 have hi':hs[i]? =some h:=by rw[List.getElem?_eq_getElem hi,e]
 have hp:i < t.place.size:=by rw[T.size];exact hi
 obtain⟨n,h1,h2,h3⟩:=T.reach i t.place[i] h (Array.getElem?_eq_getElem hp) hi'
 have hj:(fk t.mask n (st t.mask h)).j∈t.place:=by rw[h2];exact Array.getElem_mem hp
 obtain⟨j',i',nx,g1,g2,g3⟩:=AN (t:=t) (hashAt:=hashAt) (h:=h) n (10 * turns t.mask) (st t.mask h) h1 (fun m hm=>by
   rcases Nat.lt_or_ge m n with c |c
   ·obtain⟨i,e,_⟩:=T.slotL (h3 m c);exact⟨i,e⟩
   ·have:m=n:=by omega
    subst this
    obtain⟨i,e,_⟩:=T.slotL hj;exact⟨i,e⟩)
  ⟨i,by rw[h2];exact qC T.rise (Array.getElem?_eq_getElem hp),by
   have:=ha i hi
   rw[hi'] at this
   exact Option.some.inj this⟩
 have hi2:i' < t.place.size:=by
  unfold slot at g2
  dsimp only at g2
  split at g2
  ·rename_i c
   have c':t.place[below t.place j']? =some j':=by simpa using c
   cases g2
   exact (Array.getElem?_eq_some_iff.mp c').1
  ·split at g2 <;> cases g2
 refine⟨j',i',nx,by unfold probe;rw[Ef];exact g1,g2,by rw[<-T.size];exact hi2,?_⟩
 have:=ha i' (by rw[<-T.size];exact hi2)
 rw[g3] at this
 exact this.symm
end
theorem bV {α:Type}(xs:Array α)(p:Nat)(x:α)(_:p<=xs.size):(insertAt xs p x).toList=xs.toList.take p ++ x :: xs.toList.drop p:=by
 unfold insertAt
 simp[Array.toList_extract,List.extract_eq_take_drop]
 rw[List.take_of_length_le (by simp)]
theorem qx (t:SetTable)(j:Nat)(hd:t.dummies=#[]):(t.put j).1={t with place:=insertAt t.place (below t.place j) j}/\(t.put j).2=below t.place j:=by
 unfold put
 dsimp only
 rw[hd,yq]
 exact⟨by simp,rfl⟩
section
variable {t:SetTable}{hs:List Int}
theorem lL {α:Type}{xs:Array α}{p:Nat}{x y:α}(hp:p<=xs.size):y∈insertAt xs p x↔y∈xs\/y=x:=by
 rw[<-Array.mem_toList_iff,bV xs p x hp,List.mem_append,List.mem_cons,<-Array.mem_toList_iff]
 have:y∈xs.toList↔y∈xs.toList.take p\/y∈xs.toList.drop p:=by
  conv=>lhs;rw[<-List.take_append_drop p xs.toList]
  exact List.mem_append
 rw[this]
 constructor
 ·rintro (a |a |a)
  ·exact .inl (.inl a)
  ·exact .inr a
  ·exact .inl (.inr a)
 ·rintro ((a |a) |a)
  ·exact .inl a
  ·exact .inr (.inr a)
  ·exact .inr (.inl a)
theorem p9 {xs:Array Nat}(h:jC xs){j:Nat}(hj:j∉xs):jC (insertAt xs (below xs j) j):=by
 obtain⟨b1,b2,b3⟩:=dF h j
 unfold jC
 rw[bV _ _ _ b1]
 have hl:∀y,y∈xs.toList.take (below xs j)->y < j:=fun y hy=>by
  obtain⟨i,hi,e⟩:=List.mem_iff_getElem.mp hy
  have hi1:i < below xs j:=by simp at hi;omega
  have hi2:i < xs.size:=by omega
  have:=b2 i hi1
  rw[Array.getD_eq_getD_getElem?,Array.getElem?_eq_getElem hi2] at this
  simp at e this
  omega
 have hr:∀y,y∈xs.toList.drop (below xs j)->j < y:=fun y hy=>by
  obtain⟨i,hi,e⟩:=List.mem_iff_getElem.mp hy
  have hi2:below xs j + i < xs.size:=by simp at hi;omega
  have:=b3 (below xs j + i) (by omega) hi2
  rw[Array.getD_eq_getD_getElem?,Array.getElem?_eq_getElem hi2] at this
  simp at e this
  rcases Nat.lt_or_ge j y with c |c
  ·exact c
  ·have:j=y:=by omega
   exact absurd (by rw[this,<-e];exact Array.getElem_mem _) hj
 refine List.pairwise_append.mpr ⟨List.Pairwise.sublist (List.take_sublist ..) h,List.pairwise_cons.mpr ⟨fun y hy=>hr y hy,List.Pairwise.sublist (List.drop_sublist ..) h⟩,fun a ha b hb=>?_⟩
 rcases List.mem_cons.mp hb with rfl |hb
 ·exact hl a ha
 ·exact Nat.lt_trans (hl a ha) (hr b hb)
theorem uK {α:Type}(l:List α)(p:Nat)(x:α)(hp:p<=l.length)(i:Nat):(l.take p ++ x :: l.drop p)[i]? =if i < p then l[i]? else if i=p then some x else l[i - 1]?:=by
 rcases Nat.lt_trichotomy i p with c |c |c
 ·rw[if_pos c,List.getElem?_append_left (by simp;omega),List.getElem?_take_of_lt c]
 ·subst c
  rw[if_neg (Nat.lt_irrefl _),if_pos rfl,List.getElem?_append_right (by simp;omega),List.length_take,Nat.min_eq_left hp,Nat.sub_self]
  rfl
 ·rw[if_neg (by omega),if_neg (by omega),List.getElem?_append_right (by simp;omega),List.length_take,Nat.min_eq_left hp]
  obtain⟨k,rfl⟩:∃k,i=p + 1 + k:=⟨i - (p + 1),by omega⟩
  rw[show p + 1 + k - p=k + 1 by omega,List.getElem?_cons_succ,List.getElem?_drop]
  congr 1
  omega
theorem Tab.put (T:Tab t hs){j:Nat}{h:Int}(hj:j∉t.place)(hm:j<=t.mask)(r:Reach t.mask (· ∈t.place) h j)(hf:(t.place.size + 1) * 5 < t.mask * 3) :
  Tab (t.put j).1 (hs.take (t.put j).2 ++ h :: hs.drop (t.put j).2)/\(t.put j).2<=hs.length:=by
 obtain⟨e1,e2⟩:=qx t j T.dum
 obtain⟨b1,b2,b3⟩:=dF T.rise j
 have hsz:(insertAt t.place (below t.place j) j).size=t.place.size + 1:=by
  rw[<-Array.length_toList,bV _ _ _ b1]
  simp;omega
 have hl:below t.place j<=hs.length:=by rw[<-T.size];exact b1
 rw[e1,e2]
 refine⟨⟨T.mask,T.dum,p9 T.rise hj,fun y hy=>?_,?_,?_,fun i y g hy hg=>?_,T.plain⟩,hl⟩
 ·rcases (lL b1).mp hy with z |z
  ·exact T.le y z
  ·rw[z];exact hm
 ·show (insertAt t.place _ j).size=_
  rw[hsz,T.size];simp;omega
 ·show (insertAt t.place _ j).size * 5 < t.mask * 3
  rw[hsz];exact hf
 ·show Reach t.mask (· ∈insertAt t.place (below t.place j) j) g y
  have hy':(t.place.toList.take (below t.place j) ++ j :: t.place.toList.drop (below t.place j))[i]? =some y:=by
   rw[<-bV _ _ _ b1,Array.getElem?_toList];exact hy
  rw[uK _ _ _ (by simpa using b1)] at hy'
  rw[uK _ _ _ hl] at hg
  have old:∀{g y},Reach t.mask (· ∈t.place) g y->Reach t.mask (· ∈insertAt t.place (below t.place j) j) g y:=fun r=>r.mono fun x hx=>(lL b1).mpr (.inl hx)
  split at hy'
  ·rename_i c
   rw[if_pos c] at hg
   exact old (T.reach i y g (by simpa using hy') hg)
  ·rename_i c
   rw[if_neg c] at hg
   split at hy'
   ·rename_i c2
    rw[if_pos c2] at hg
    cases hg;cases hy'
    exact old r
   ·rename_i c2
    rw[if_neg c2] at hg
    exact old (T.reach (i - 1) y g (by simpa using hy') hg)
end
end L2.ST

end

section
namespace L2.ST
open PySem PySem.SetTable
abbrev own (o:Array (Option Nat))(j:Nat):Option Nat:=o.getD j none
theorem y1 {mask:Nat}{o:Array (Option Nat)}(hsz:o.size=mask + 1):∀(fuel i q:Nat) (j:Nat),i<=mask->layClean.free mask o fuel i q=some j->
  ∃n,n < 10 * fuel/\(fk mask n (yZ mask i q)).j=j/\(∀m,m < n->(own o (fk mask m (yZ mask i q)).j).isSome=true)/\own o j=none/\j<=mask:=by
 intro fuel
 induction fuel with
 |zero=>intro i q j _ h;unfold layClean.free at h;cases h
 |succ fuel ih=>
  intro i q j hi h
  unfold layClean.free at h
  have hr:=iS hi
  have ind:∀k,k<=runEnd mask i - i->o.getD (i + k) (some 0)=own o (i + k):=fun k hk=>by
   have:i + k < o.size:=by omega
   simp[own,Array.getD,this]
  cases hf:(List.range (runEnd mask i + 1 - i)).find? fun k=>(o.getD (i + k) (some 0)).isNone with
  |some k=>
   rw[hf] at h
   dsimp only at h
   have hk:=List.find?_eq_some_iff_getElem.mp hf
   obtain⟨hn,ix,hix,eix,hbef⟩:=hk
   have ek:ix=k:=by simpa using eix
   subst ek
   have hix':ix < runEnd mask i + 1 - i:=by simpa using hix
   cases h
   refine⟨ix,by omega,?_,fun m hm=>?_,?_,by omega⟩
   ·rw[ji mask i q ix (by omega)]
   ·rw[ji mask i q m (by omega)]
    have:=hbef m hm
    simp only[List.getElem_range] at this
    rw[ind m (by omega)] at this
    dsimp only
    cases e:own o (i + m) with
    |none=>rw[e] at this;simp at this
    |some _=>rfl
   ·rw[ind ix (by omega)] at hn
    cases e:own o (i + ix) with
    |none=>rfl
    |some _=>rw[e] at hn;simp at hn
  |none=>
   rw[hf] at h
   dsimp only at h
   obtain⟨n,h1,h2,h3,h4,h5⟩:=ih _ _ j (lZ mask i q) h
   have hnone:=List.find?_eq_none.mp hf
   refine⟨(runEnd mask i - i + 1) + n,by omega,?_,fun m hm=>?_,h4,h5⟩
   ·rw[j4,mG];exact h2
   ·rcases Nat.lt_or_ge m (runEnd mask i - i + 1) with c |c
    ·rw[ji mask i q m (by omega)]
     have:=hnone m (List.mem_range.mpr (by omega))
     rw[ind m (by omega)] at this
     dsimp only
     cases e:own o (i + m) with
     |none=>rw[e] at this;simp at this
     |some _=>rfl
    ·obtain⟨k,rfl⟩:∃k,m=(runEnd mask i - i + 1) + k:=⟨m - (runEnd mask i - i + 1),by omega⟩
     rw[j4,mG]
     exact h3 k (by omega)
theorem zr {mask:Nat}{o:Array (Option Nat)}(hsz:o.size=mask + 1):∀(fuel i q k:Nat),i<=mask->k < fuel->own o (fS mask k (i,q)).1=none->∃j,layClean.free mask o fuel i q=some j:=by
 intro fuel
 induction fuel with
 |zero=>intro i q k _ hk;omega
 |succ fuel ih=>
  intro i q k hi hk hn
  unfold layClean.free
  cases hf:(List.range (runEnd mask i + 1 - i)).find? fun k=>(o.getD (i + k) (some 0)).isNone with
  |some k=>exact⟨_,rfl⟩
  |none=>
   dsimp only
   cases k with
   |zero=>
    have hr:=iS hi
    have:=List.find?_eq_none.mp hf 0 (List.mem_range.mpr (by omega))
    have e:own o i=none:=hn
    have hi2:i < o.size:=by omega
    simp[own,Array.getD,hi2] at e this
    rw[e] at this;simp at this
   |succ k=>exact ih _ _ k (lZ mask i q) (by omega) hn
structure Lay (mask:Nat)(o:Array (Option Nat))(hs:List Int):Prop where
 size:o.size=mask + 1
 all:∀k h,hs[k]? =some h->∃j,own o j=some k/\Reach mask (fun x=>(own o x).isSome=true) h j
 one:∀j j' k,own o j=some k->own o j'=some k->j=j'
 le:∀j k,own o j=some k->j<=mask/\k < hs.length
theorem lO {o:Array (Option Nat)}{j x k:Nat}(hj:j < o.size):own (o.setIfInBounds j (some k)) x=if x=j then some k else own o x:=by
 unfold own
 rw[Array.getD_eq_getD_getElem?,Array.getD_eq_getD_getElem?,Array.getElem?_setIfInBounds]
 by_cases e:x=j
 ·subst e;simp[hj]
 ·rw[if_neg e,if_neg (fun z=>e z.symm)]
theorem A6 {mask:Nat}(hm:Cg mask){o:Array (Option Nat)}{hs:List Int}(L:Lay mask o hs)(h:Int)(hl:hs.length<=mask) :
  ∃j,layClean.free mask o (turns mask) (bits h % (mask + 1)) (bits h)=some j/\Lay mask (o.setIfInBounds j (some hs.length)) (hs ++ [h]):=by
 have hi:bits h % (mask + 1)<=mask:=Nat.lt_succ_iff.mp (Nat.mod_lt _ (Nat.succ_pos _))
 have hfree:∃j,j<=mask/\own o j=none:=by
  refine Classical.byContradiction fun hc=>?_
  have hall:∀j,j<=mask->∃k,own o j=some k:=fun j hj=>by
   cases e:own o j with
   |none=>exact absurd ⟨j,hj,e⟩ hc
   |some k=>exact⟨k,rfl⟩
  have nd:((List.range (mask + 1)).map fun j=>(own o j).getD 0).Nodup:=by
   refine List.pairwise_map.mpr ?_
   refine List.Pairwise.imp_of_mem ?_ List.nodup_range
   intro a b ha hb hab e
   obtain⟨ka,ea⟩:=hall a (by have:=List.mem_range.mp ha;omega)
   obtain⟨kb,eb⟩:=hall b (by have:=List.mem_range.mp hb;omega)
   rw[ea,eb] at e
   simp at e
   subst e
   exact hab (L.one a b ka ea eb)
  have:=bC (m:=List.range hs.length) nd fun x hx=>by
   obtain⟨j,hj,rfl⟩:=List.mem_map.mp hx
   obtain⟨k,e⟩:=hall j (by have:=List.mem_range.mp hj;omega)
   rw[e]
   exact List.mem_range.mpr (L.le j k e).2
  simp at this
  omega
 obtain⟨j0,hj0,hn0⟩:=hfree
 obtain⟨k,hk,ek⟩:=o5 hm hi (xr h) hj0
 obtain⟨j,hj⟩:=zr L.size (turns mask) _ (bits h) k hi (by unfold turns;omega) (by rw[ek];exact hn0)
 refine⟨j,hj,?_⟩
 obtain⟨n,h1,h2,h3,h4,h5⟩:=y1 L.size _ _ _ _ hi hj
 have hjs:j < o.size:=by rw[L.size];omega
 have grow:∀x,(own o x).isSome=true->(own (o.setIfInBounds j (some hs.length)) x).isSome=true:=fun x hx=>by
  rw[lO hjs];split
  ·rfl
  ·exact hx
 refine⟨by rw[Array.size_setIfInBounds];exact L.size,fun k g hg=>?_,fun a b c ea eb=>?_,fun a c ea=>?_⟩
 ·rcases Nat.lt_or_ge k hs.length with c |c
  ·rw[List.getElem?_append_left c] at hg
   obtain⟨x,ex,rx⟩:=L.all k g hg
   refine⟨x,?_,rx.mono grow⟩
   rw[lO hjs,if_neg (fun z=>?_)]
   ·exact ex
   ·subst z;rw[ex] at h4;cases h4
  ·rw[List.getElem?_append_right c] at hg
   have:k=hs.length:=by
    have:=(List.getElem?_eq_some_iff.mp hg).1
    simp at this;omega
   subst this
   simp at hg
   subst hg
   exact⟨j,by rw[lO hjs,if_pos rfl],n,h1,h2,fun m hm=>grow _ (h3 m hm)⟩
 ·rw[lO hjs] at ea eb
  split at ea
  ·cases ea
   split at eb
   ·omega
   ·have:=(L.le _ _ eb).2;omega
  ·split at eb
   ·cases eb
    have:=(L.le _ _ ea).2;omega
   ·exact L.one _ _ _ ea eb
 ·rw[lO hjs] at ea
  rw[List.length_append]
  split at ea
  ·cases ea;simp;omega
  ·have:=L.le _ _ ea;simp;omega
theorem yk {mask:Nat}(hm:Cg mask):∀(rest hs:List Int) (o:Array (Option Nat)),Lay mask o hs->hs.length + rest.length<=mask->
  ∃o',rest.foldl (init:=some (o,hs.length)) (fun acc h=>do
   let (owner,k) <-acc
   let j <-layClean.free mask owner (turns mask) (bits h % (mask + 1)) (bits h)
   pure (owner.setIfInBounds j (some k),k + 1))=some (o',hs.length + rest.length)/\Lay mask o' (hs ++ rest)
 | [],hs,o,L,_=>⟨o,rfl,by rw[List.append_nil];exact L⟩
 |h :: rest,hs,o,L,hl=>by
  simp only[List.length_cons] at hl
  obtain⟨j,e,L'⟩:=A6 hm L h (by omega)
  obtain⟨o',e',L2⟩:=yk hm rest (hs ++ [h]) _ L' (by simp;omega)
  refine⟨o',?_,by rw[List.append_assoc] at L2;exact L2⟩
  rw[List.foldl_cons]
  simp only[Option.bind_eq_bind,Option.bind_some,e,Option.pure_def]
  have el:(hs ++ [h]).length=hs.length + 1:=by simp
  rw[el] at e'
  simp only[Option.bind_eq_bind,Option.pure_def] at e'
  rw[e']
  simp;omega
theorem xR (n j:Nat):own (Array.replicate n none) j=none:=by
 unfold own
 rw[Array.getD_eq_getD_getElem?,Array.getElem?_replicate]
 split <;> rfl
theorem CN (mask:Nat):Lay mask (Array.replicate (mask + 1) none) []:=
 ⟨by simp,fun k h e=>by simp at e,fun j j' k e _=>by (rw[xR] at e;cases e),fun j k e=>by (rw[xR] at e;cases e)⟩
theorem yz {mask:Nat}(hm:Cg mask)(hs:Array Int)(hl:hs.size * 5 < mask * 3)(finger moves:Nat)(led:Bool) :
  ∃t order,laid mask finger moves led true hs=some (t,order)/\t.led=led/\t.mask=mask/\order.toList.Nodup/\(∀k,k∈order.toList↔k < hs.size)/\
   Tab t (order.toList.map fun k=>hs.toList.getD k 0):=by
 obtain⟨o,e,L⟩:=yk hm hs.toList [] _ (CN mask) (by simp;omega)
 simp only[List.nil_append] at L
 have ec:layClean mask hs=some o:=by
  unfold layClean
  rw[<-Array.foldl_toList]
  simp only[List.length_nil] at e
  rw[e];rfl
 have hlive:∀j k,(j,k)∈((List.range (mask + 1)).filterMap fun j=>(o.getD j none).map (j, ·))↔own o j=some k:=fun j k=>by
  rw[List.mem_filterMap]
  constructor
  ·rintro⟨x,_,q⟩
   cases ex:o.getD x none with
   |none=>rw[ex] at q;cases q
   |some y=>rw[ex] at q;simp at q;rw[<-q.1,<-q.2];exact ex
  ·intro q
   refine⟨j,List.mem_range.mpr (by have:=(L.le j k q).1;omega),?_⟩
   have:o.getD j none=some k:=q
   rw[this];rfl
 have hpw:((List.range (mask + 1)).filterMap fun j=>(o.getD j none).map (j, ·)).Pairwise (fun a b=>a.1 < b.1):=by
  refine List.pairwise_filterMap.mpr ?_
  refine List.Pairwise.imp ?_ List.pairwise_lt_range
  intro a b hab x hx y hy
  cases ea:o.getD a none with
  |none=>rw[ea] at hx;cases hx
  |some u=>
   cases eb:o.getD b none with
   |none=>rw[eb] at hy;cases hy
   |some v=>
    rw[ea] at hx;rw[eb] at hy
    simp at hx hy
    rw[<-hx,<-hy];exact hab
 generalize hlv:((List.range (mask + 1)).filterMap fun j=>(o.getD j none).map (j, ·))=live at hlive hpw
 refine⟨{mask,place:=(live.map (·.1)).toArray,dummies:=#[],finger,led,moves,plain:=true},(live.map (·.2)).toArray,?_,rfl,rfl,?_,fun k=>?_,?_⟩
 ·unfold laid
  rw[ec]
  simp only[Option.bind_eq_bind,Option.bind_some,Option.pure_def,hlv]
 ·have:(live.map (·.2)).Nodup:=by
   refine List.pairwise_map.mpr (List.Pairwise.imp_of_mem ?_ hpw)
   intro a b ha hb hab ee
   have h1:=(hlive a.1 a.2).mp ha
   have h2:=(hlive b.1 b.2).mp hb
   rw[ee] at h1
   have:=L.one _ _ _ h1 h2
   omega
  simpa using this
 ·rw[List.mem_map]
  constructor
  ·rintro⟨x,hx,rfl⟩
   have:=(L.le x.1 x.2 ((hlive x.1 x.2).mp hx)).2
   simpa using this
  ·intro hk
   have hk':k < hs.toList.length:=by simpa using hk
   obtain⟨j,ej,_⟩:=L.all k _ (List.getElem?_eq_getElem hk')
   exact⟨(j,k),(hlive j k).mpr ej,rfl⟩
 ·have hord:live.length=hs.size:=by
   have a1:(live.map (·.2)).Nodup:=by
    refine List.pairwise_map.mpr (List.Pairwise.imp_of_mem ?_ hpw)
    intro a b ha hb hab ee
    have h1:=(hlive a.1 a.2).mp ha
    have h2:=(hlive b.1 b.2).mp hb
    rw[ee] at h1
    have:=L.one _ _ _ h1 h2
    omega
   have b1:=bC (m:=List.range hs.size) a1 fun x hx=>by
    obtain⟨y,hy,rfl⟩:=List.mem_map.mp hx
    have:=(L.le y.1 y.2 ((hlive y.1 y.2).mp hy)).2
    exact List.mem_range.mpr (by simpa using this)
   have b2:=bC (l:=List.range hs.size) (m:=live.map (·.2)) List.nodup_range fun x hx=>by
    have hk':x < hs.toList.length:=by simpa using List.mem_range.mp hx
    obtain⟨j,ej,_⟩:=L.all x _ (List.getElem?_eq_getElem hk')
    exact List.mem_map.mpr ⟨(j,x),(hlive j x).mpr ej,rfl⟩
   simp at b1 b2
   omega
  refine⟨hm,rfl,?_,fun j hj=>?_,?_,?_,fun i j h hi hh=>?_,rfl⟩
  ·show (live.map (·.1)).toArray.toList.Pairwise _
   rw[List.toList_toArray]
   exact List.pairwise_map.mpr hpw
  ·have:j∈live.map (·.1):=by simpa using hj
   obtain⟨x,hx,rfl⟩:=List.mem_map.mp this
   exact (L.le x.1 x.2 ((hlive x.1 x.2).mp hx)).1
  ·simp
  ·show (live.map (·.1)).toArray.size * 5 < mask * 3
   simp[hord];exact hl
  ·have hi':(live.map (·.1))[i]? =some j:=by simpa using hi
   have hh':((live.map (·.2)).map fun k=>hs.toList.getD k 0)[i]? =some h:=by simpa using hh
   rw[List.getElem?_map] at hi'
   rw[List.getElem?_map,List.getElem?_map] at hh'
   cases ex:live[i]? with
   |none=>rw[ex] at hi';cases hi'
   |some x=>
    rw[ex] at hi' hh'
    simp at hi' hh'
    have hxl:=(hlive x.1 x.2).mp (List.mem_of_getElem? ex)
    have hk:=(L.le _ _ hxl).2
    have hk2:x.2 < hs.size:=by simpa using hk
    obtain⟨j2,ej2,r⟩:=L.all x.2 h (by
     rw[List.getElem?_eq_getElem hk]
     simp[hk2] at hh'
     simpa using hh')
    have:j2=j:=by rw[<-hi'];exact L.one _ _ _ ej2 hxl
    subst this
    refine r.mono fun y hy=>?_
    show y∈(live.map (·.1)).toArray
    cases ey:own o y with
    |none=>rw[ey] at hy;cases hy
    |some k=>
     have:y∈live.map (·.1):=List.mem_map.mpr ⟨(y,k),(hlive y k).mpr ey,rfl⟩
     simpa using this
end L2.ST

end

section
namespace L2.ST
open PySem PySem.SetTable
abbrev Pr:=Int×Int
def hp (p:Pr):Int:=reduceHash (Builtin.Tuple.tupleHashOf [hashInt p.1,hashInt p.2])
def Sm (p:Pr):Prop:=(0<=p.1/\p.1 < 8)/\(0<=p.2/\p.2 < 8)
def oQ:List Pr:=(List.range 64).map fun k=>(((k / 8:Nat):Int),((k % 8:Nat):Int))
theorem lE {p:Pr}(h:Sm p):p∈oQ:=by
 unfold oQ
 obtain⟨⟨a,b⟩,c,d⟩:=h
 refine List.mem_map.mpr ⟨p.1.toNat * 8 + p.2.toNat,List.mem_range.mpr (by omega),?_⟩
 refine Prod.ext ?_ ?_ <;> dsimp only <;> omega
theorem An:(oQ.map hp).Nodup:=by decide +kernel
theorem l8 {α β:Type}{f:α->β}:∀{l:List α},(l.map f).Nodup->∀a b,a∈l->b∈l->f a=f b->a=b
 | [],_,_,_,h,_,_=>by cases h
 |x :: l,hn,a,b,ha,hb,e=>by
  have hn':=List.nodup_cons.mp hn
  rcases List.mem_cons.mp ha with ea |ha
  ·rcases List.mem_cons.mp hb with eb |hb
   ·rw[ea,eb]
   ·exact absurd (List.mem_map.mpr ⟨b,hb,by rw[<-e,ea]⟩) hn'.1
  ·rcases List.mem_cons.mp hb with eb |hb
   ·exact absurd (List.mem_map.mpr ⟨a,ha,by rw[e,eb]⟩) hn'.1
   ·exact l8 hn'.2 a b ha hb e
theorem Fs {p q:Pr}(hp1:Sm p)(hq:Sm q)(e:hp p=hp q):p=q:=l8 An p q (lE hp1) (lE hq) e
theorem o9 {l:List Pr}(hn:l.Nodup)(h:∀p,p∈l->Sm p):l.length<=64:=by
 have:=bC (m:=oQ) hn fun x hx=>lE (h x hx)
 simpa[oQ] using this
section
variable {prog:Program}{w:World}{A:Around}{E:Value->Shared->Prop}{s:Shared}
abbrev bL (prog:Program)(w:World)(h:Heap)(p:Pr)(a:Addr):Prop:=IsTupleKey (intKind prog w) h [p.1,p.2] a
theorem bL.inj {h:Heap}{p q:Pr}{a:Addr}(x:bL prog w h p a)(y:bL prog w h q a):p=q:=by
 have:=IsTupleKey.inj x y
 simp at this
 exact Prod.ext this.1 this.2
structure oj (f:Pr->Int)(prog:Program)(w:World)(led:Bool)(h:Heap)(S:Addr)(ps:List (Addr×Pr)):Prop where
 ex:∃o ep t,h.get? S=some o/\o.ExactSet/\o.data=.set (ps.map fun q=>(f q.2,Value.ref q.1)).toArray ep t/\Tab t (ps.map fun q=>f q.2)/\t.led=led
 at':∀q,q∈ps->bL prog w h q.2 q.1/\Sm q.2
 nd:(ps.map (·.2)).Nodup
theorem oj.len {f:Pr->Int}{led:Bool}{h:Heap}{S:Addr}{ps:List (Addr×Pr)}(P:oj f prog w led h S ps):ps.length<=64:=by
 have:=o9 P.nd fun p hp=>by
  obtain⟨q,hq,rfl⟩:=List.mem_map.mp hp
  exact (P.at' q hq).2
 simpa using this
theorem oI {t:SetTable}{hs:List Int}(T:Tab t hs){n:Nat}(e:n=hs.length):t.fits n=true:=by
 unfold SetTable.fits SetTable.fill
 have:=T.load'
 simp[T.size,T.dum,e]
 rw[T.size] at this;exact this
theorem Bs (a:Addr)(wanted:Nat):setRelay a wanted=(do
  let (es,_,t) <-setState a
  if SetTable.sizeAbove wanted > sizeLine then unsupported "set:memory"
  let (es,t) <-(do
   let some (t,order):=t.relaid (es.map (·.1)) wanted |unsupported "internal:set-table-without-room"
   let es':=order.filterMap (es[·]?)
   if es'.size != es.size then unsupported "internal:set-table-lost-an-element"
   pure (es',t))
  storeSet a es t):=rfl
theorem yL (a:Addr)(x:Value)(h:Int)(fuel:Nat):setSearchFrom a x h true (fuel + 1) none=(do
  let (es,_,t) <-setState a
  if t.gaveWay then unsupported "set:on-a-table-that-gave-way"
  let some met:=t.probe (fun i=>(es[i]?.map (·.1)).getD 0) h (t.probeStart h) |unsupported "internal:set-table-without-an-empty-slot"
  match met with
  | .empty j dummy=>
   match dummy with
   |none=>return .free j false
   |some d=>
    if true && t.slot d != .dummy then rule "set.search.the-dummy-was-taken";return <-setSearchFrom a x h true fuel none
    return .free d true
  | .candidate j i next=>
   if !t.led then
    if <-searchCouldBeSeen x ((es.filter (·.1 == h)).toList.map (·.2)) then unsupported "set:the-search-would-show-the-table"
   let some (_,y):=es[i]? |unsupported "internal:set-entry"
   let equal <-holding [y] (eqBool y x)
   let (es',_,t') <-setState a
   if true && equal then return .there none
   let some same:=t'.sameMemory t.moves t.mask |unsupported "set.changed-during-lookup:is-the-new-block-at-the-old-address"
   let still <-match (if same then t'.slot j else .empty) with
    | .live i'=>match es'[i']? with
     |some (_,y')=>do pure (if <-isSame y' y then some i' else none)
     |none=>pure none
    |_=>pure none
   match still with
   |none=>rule "set.search.anew";setSearchFrom a x h true fuel none
   |some i'=>if equal then return .there (some i') else setSearchFrom a x h true fuel (some next)):=rfl
theorem tO (n:Nat){v:Value}(h:carriedByValue v=true):ofAClassStatement n v=pure false:=by
 cases v with
 |ref a=>simp[carriedByValue] at h
 |_=>first |rfl | (unfold ofAClassStatement;rfl)
theorem xg (n:Nat){v:Value}{k:Int}(h:(intKind prog w).is k v=true):hashByValue n v=pure true:=by
 obtain⟨t,rfl⟩:=Value.isInt_shape h
 cases n <;> rfl
theorem mj {p:Pr}{a:Addr}{Q:Bool->Shared->Prop}(hk:bL prog w s.heap p a)(h:Q false s):wpAny (model prog w) A (ofAClassStatement 8 (.ref a)) Q E s:=by
 have hT:=hk.typeIs
 obtain⟨o,items,n,ho,hc,hd,hi⟩:=hk
 unfold ofAClassStatement
 refine wpAny_bind (wpAny_typeOf hT ?_)
 dsimp only
 rw[if_pos (by decide)]
 refine wpAny_bind (wpAny_pure ?_)
 simp only[Bool.not_true,Bool.false_eq_true,if_false]
 refine wpAny_bind (wpAny_seqItems ho hd ?_)
 dsimp only
 refine wpAny_bind ?_
 rw[<-Array.forIn_toList]
 refine wpAny_forIn_list _ (fun rest r s'=>r.1=none/\s'=s/\∀v∈rest,carriedByValue v=true) _ ?_ ?_ _ _ ⟨rfl,rfl,hi.byValue⟩
 ·rintro v rest r s' ⟨hr,rfl,hall⟩
  rw[tO _ (hall v List.mem_cons_self)]
  refine wpAny_bind (wpAny_pure ?_)
  simp only[Bool.false_eq_true,if_false]
  exact wpAny_pure ⟨rfl,rfl,fun u hu'=>hall u (List.mem_cons_of_mem _ hu')⟩
 ·rintro⟨r1,r2⟩ s' ⟨hr,rfl,_⟩
  simp only at hr
  subst hr
  exact wpAny_pure h
theorem tZ {p:Pr}{a:Addr}{Q:Bool->Shared->Prop}(hk:bL prog w s.heap p a)(h:Q true s):wpAny (model prog w) A (hashByValue 8 (.ref a)) Q E s:=by
 have hT:=hk.typeIs
 obtain⟨o,items,n,ho,hc,hd,hi⟩:=hk
 unfold hashByValue
 refine wpAny_bind (wpAny_specialOf hT F.slot_tuple_hash.lookup ?_)
 dsimp only
 refine wpAny_bind (wpAny_seqItems ho hd ?_)
 simp only[Option.getD_some]
 refine wpAny_bind ?_
 rw[<-Array.forIn_toList]
 refine wpAny_forIn_list _ (fun rest r s'=>r.1=none/\s'=s/\∀v∈rest,∃k,(intKind prog w).is k v=true) _ ?_ ?_ _ _ ⟨rfl,rfl,fun v hv=>?_⟩
 ·rintro v rest r s' ⟨hr,rfl,hall⟩
  obtain⟨k,hk⟩:=hall v List.mem_cons_self
  rw[xg _ hk]
  refine wpAny_bind (wpAny_pure ?_)
  simp only[Bool.not_true,Bool.false_eq_true,if_false]
  exact wpAny_pure ⟨rfl,rfl,fun u hu'=>hall u (List.mem_cons_of_mem _ hu')⟩
 ·rintro⟨r1,r2⟩ s' ⟨hr,rfl,_⟩
  simp only at hr
  subst hr
  exact wpAny_pure h
 ·generalize items.toList=l at *
  cases hi with
  |cons h1 hi=>
   cases hi with
   |cons h2 hi=>
    cases hi
    rcases List.mem_cons.mp hv with rfl |hv
    ·exact⟨_,h1⟩
    ·rcases List.mem_cons.mp hv with rfl |hv
     ·exact⟨_,h2⟩
     ·cases hv
theorem wJ {p:Pr}{a:Addr}(hk:bL prog w s.heap p a):∀(l:List Value) {Q:Bool->Shared->Prop},(∀v∈l,∃q b,v=.ref b/\bL prog w s.heap q b)->Q false s->wpAny (model prog w) A (searchCouldBeSeen (.ref a) l) Q E s:=by
 intro l Q hl h
 unfold searchCouldBeSeen
 refine wpAny_bind ?_
 refine wpAny_forIn_list _ (fun rest r s'=>r.1=none/\s'=s/\∀v∈rest,∃q b,v=.ref b/\bL prog w s.heap q b) _ ?_ ?_ _ _ ⟨rfl,rfl,hl⟩
 ·rintro v rest r s' ⟨hr,rfl,hall⟩
  obtain⟨q,b,rfl,hb⟩:=hall v List.mem_cons_self
  have hrest:=fun u hu'=>hall u (List.mem_cons_of_mem _ hu')
  dsimp only
  split
  ·exact wpAny_pure ⟨rfl,rfl,hrest⟩
  ·refine wpAny_bind (wpAny_eqIsQuiet_tuple hk ?_)
   simp only[Bool.not_true,Bool.false_eq_true,if_false]
   refine wpAny_bind (wpAny_eqIsQuiet_tuple hb ?_)
   simp only[Bool.not_true,Bool.false_eq_true,if_false]
   refine wpAny_bind (mj hk ?_)
   simp only[Bool.false_eq_true,if_false]
   refine wpAny_bind (mj hb ?_)
   simp only[Bool.false_eq_true,if_false]
   exact wpAny_pure ⟨rfl,rfl,hrest⟩
 ·rintro⟨r1,r2⟩ s' ⟨hr,rfl,_⟩
  simp only at hr
  subst hr
  exact wpAny_pure h
end
end L2.ST

end

section
namespace L2.ST
open PySem PySem.SetTable
section
variable {prog:Program}{w:World}{A:Around}{E:Value->Shared->Prop}{s:Shared}
theorem uJ (t:SetTable)(hs:Array Int)(wanted:Nat)(hp:t.plain=true):t.relaid hs wanted=laid (sizeAbove wanted - 1) t.finger (t.movedTo (sizeAbove wanted - 1)) t.led true hs:=by
 unfold relaid;rw[hp]
theorem Ej:sizeAbove (grown 5)=32/\sizeAbove (grown 19)=128:=by decide +kernel
theorem filterMap_get {α:Type}(es:Array α):∀(order:List Nat),(∀k,k∈order->k < es.size)->∃l:List α,order.filterMap (fun i=>es[i]?)=l/\l.length=order.length/\(∀(i k:Nat),order[i]? =some k->l[i]? =es[k]?)/\∀x,x∈l->∃k,k∈order/\es[k]? =some x
 | [],_=>⟨[],rfl,rfl,fun i k h=>by simp at h,fun x hx=>by cases hx⟩
 |k :: r,h=>by
  obtain⟨l,e1,e2,e3,e4⟩:=filterMap_get es r fun x hx=>h x (List.mem_cons_of_mem _ hx)
  have hk:=h k (List.mem_cons_self ..)
  refine⟨es[k] :: l,by rw[List.filterMap_cons,Array.getElem?_eq_getElem hk,e1],by simp[e2],fun i x hi=>?_,fun x hx=>?_⟩
  ·cases i with
   |zero=>simp at hi;subst hi;simp[hk]
   |succ i=>simp at hi;simpa using e3 i x hi
  ·rcases List.mem_cons.mp hx with rfl |hx
   ·exact⟨k,List.mem_cons_self ..,by simp[hk]⟩
   ·obtain⟨y,hy,q⟩:=e4 x hx
    exact⟨y,List.mem_cons_of_mem _ hy,q⟩
abbrev dO (f:Pr->Int)(q:Addr×Pr):Int×Value:=(f q.2,Value.ref q.1)
theorem rD (f:Pr->Int){mask:Nat}(hm:Cg mask){ps:List (Addr×Pr)}(hl:ps.length * 5 < mask * 3)(finger moves:Nat)(led:Bool) :
  ∃(t:SetTable) (order:Array Nat) (ps':List (Addr×Pr)),laid mask finger moves led true ((ps.map (dO f)).toArray.map (·.1))=some (t,order)/\order.filterMap (fun i=>(ps.map (dO f)).toArray[i]?)=(ps'.map (dO f)).toArray/\ps'.length=ps.length/\
   (∀q,q∈ps'↔q∈ps)/\Tab t (ps'.map fun q=>f q.2)/\t.led=led:=by
 obtain⟨t,order,e,el,em,nd,mem,T⟩:=yz hm ((ps.map (dO f)).toArray.map (·.1)) (by simpa using hl) finger moves led
 have hsz:((ps.map (dO f)).toArray.map (·.1)).size=ps.length:=by simp
 obtain⟨ps',f1,f2,f3,f4⟩:=filterMap_get ps.toArray order.toList fun k hk=>by
  have:=(mem k).mp hk;rw[hsz] at this;simpa using this
 have hlen:order.toList.length=ps.length:=by
  have a1:=bC (m:=List.range ps.length) nd fun x hx=>List.mem_range.mpr (by have:=(mem x).mp hx;rwa [hsz] at this)
  have a2:=bC (l:=List.range ps.length) (m:=order.toList) List.nodup_range fun x hx=>(mem x).mpr (by rw[hsz];exact List.mem_range.mp hx)
  simp at a1 a2 ⊢;omega
 refine⟨t,order,ps',e,?_,by omega,fun q=>⟨fun hq=>?_,fun hq=>?_⟩,?_,el⟩
 ·apply Array.toList_inj.mp
  rw[Array.toList_filterMap,<-f1]
  simp only[List.toList_toArray]
  rw[List.map_filterMap]
  congr 1
  funext i
  simp
 ·obtain⟨k,_,q2⟩:=f4 q hq
  rw[List.getElem?_toArray] at q2
  exact List.mem_of_getElem? q2
 ·obtain⟨k,hk,q2⟩:=List.mem_iff_getElem.mp hq
  have hko:k∈order.toList:=(mem k).mpr (by rw[hsz];exact hk)
  obtain⟨i,hi,e2⟩:=List.mem_iff_getElem.mp hko
  have:=f3 i k (by rw[List.getElem?_eq_getElem hi,e2])
  rw[List.getElem?_toArray,List.getElem?_eq_getElem hk,q2] at this
  exact List.mem_of_getElem? this
 ·have:(order.toList.map fun k=>((ps.map (dO f)).toArray.map (·.1)).toList.getD k 0)=ps'.map fun q=>f q.2:=by
   apply List.ext_getElem?
   intro i
   rw[List.getElem?_map,List.getElem?_map]
   cases hi:order.toList[i]? with
   |none=>
    have:ps'[i]? =none:=List.getElem?_eq_none_iff.mpr (by rw[f2];exact List.getElem?_eq_none_iff.mp hi)
    rw[this];rfl
   |some k=>
    have hk:k < ps.length:=by have:=(mem k).mp (List.mem_of_getElem? hi);rwa [hsz] at this
    have:=f3 i k hi
    rw[List.getElem?_toArray,List.getElem?_eq_getElem hk] at this
    rw[this]
    simp[hk]
  rw[<-this];exact T
theorem nr:∀{l m:List Int},m.Nodup->(∀x,x∈m->x∈l)->l.length<=m.length->l.Nodup
 | [],_,_,_,_=>List.nodup_nil
 |a :: l,m,hn,hs,hl=>by
  by_cases ha:a∈m
  ·have hnot:a∉l:=fun z=>by
    have:=bC (m:=l) hn fun x hx=>by
     rcases List.mem_cons.mp (hs x hx) with e |e
     ·rw[e];exact z
     ·exact e
    simp only[List.length_cons] at hl;omega
   refine List.nodup_cons.mpr ⟨hnot,nr (m:=m.erase a) (hn.erase a) (fun x hx=>?_) ?_⟩
   ·have:=(hn.mem_erase_iff).mp hx
    rcases List.mem_cons.mp (hs x this.2) with e |e
    ·exact absurd e this.1
    ·exact e
   ·rw[List.length_erase_of_mem ha];simp only[List.length_cons] at hl;omega
  ·have:=bC (m:=l) hn fun x hx=>by
    rcases List.mem_cons.mp (hs x hx) with e |e
    ·exact absurd (e▸hx) ha
    ·exact e
   simp only[List.length_cons] at hl;omega
theorem rY (a:Addr)(es:Array (Int×Value)):byScan (.ref a) es=false:=by unfold byScan Value.scannable;simp
theorem v7 {t:SetTable}(h:Cg t.mask):t.gaveWay=false:=by
 unfold SetTable.gaveWay
 rcases h with e |e |e <;> rw[e] <;> decide
theorem oj.add {f:Pr->Int}(hinj:∀p q,Sm p->Sm q->f p=f q->p=q){led:Bool}{S a:Addr}{ps:List (Addr×Pr)}{p:Pr}{Q:Bool->Shared->Prop}(P:oj f prog w led s.heap S ps)(hk:bL prog w s.heap p a)(hs:Sm p)(hu:A.units < cLine)
  (h:∀(b:Bool) (h':Heap) (ps':List (Addr×Pr)),Heap.SameBut S s.heap h'->oj f prog w led h' S ps'->(∀q,q∈ps'->q∈ps\/q=(a,p))->(∀q,q∈ps->q∈ps')->(∃q,q∈ps'/\q.2=p)->Q b {s with heap:=h'}) :
  wpAny (model prog w) A (setAddHashed S (.ref a) (f p)) Q E s:=by
 obtain⟨o,ep,t,ho,hex,hd,T,hled⟩:=P.ex
 have hfit:t.fits (ps.map (dO f)).toArray.size=true:=oI T (by simp)
 have ha:∀i,i < (ps.map fun q=>f q.2).length->some ((((ps.map (dO f)).toArray)[i]?.map (·.1)).getD 0)=(ps.map fun q=>f q.2)[i]?:=fun i hi=>by
  have hi':i < ps.length:=by simpa using hi
  simp[hi']
 unfold setAddHashed
 refine wpAny_holding ?_
 unfold setAddHashedIn
 refine wpAny_bind (wpAny_setState_of ho hd hfit ?_)
 dsimp only
 rw[rY]
 simp only[Bool.false_eq_true,if_false]
 unfold setSearch
 rw[yL]
 refine wpAny_bind (wpAny_bind (wpAny_setState_of ho hd hfit ?_))
 dsimp only
 rw[v7 T.mask]
 simp only[Bool.false_eq_true,if_false]
 by_cases hm:f p∈ps.map fun q=>f q.2
 ·
  obtain⟨j,i,nx,e1,e2,e3,e4⟩:=T.present ha hm
  rw[e1]
  dsimp only
  have hi:i < ps.length:=by simpa using e3
  have e5:f (ps[i].2)=f p:=by
   rw[List.getElem?_map,List.getElem?_eq_getElem hi] at e4
   simpa using e4
  have hq:=P.at' ps[i] (List.getElem_mem hi)
  have e6:ps[i].2=p:=hinj _ _ hq.2 hs e5
  have hget:((ps.map (dO f)).toArray)[i]? =some (f ps[i].2,.ref ps[i].1):=by simp[hi]
  have rest:wpAny (model prog w) A (do
    let some (_,y):=((ps.map (dO f)).toArray)[i]? |unsupported "internal:set-entry"
    let equal <-holding [y] (eqBool y (.ref a))
    let (es',_,t') <-setState S
    if true && equal then return SetFound.there none
    let some same:=t'.sameMemory t.moves t.mask |unsupported "set.changed-during-lookup:is-the-new-block-at-the-old-address"
    let still <-match (if same then t'.slot j else .empty) with
     | .live i'=>match es'[i']? with
      |some (_,y')=>do pure (if <-isSame y' y then some i' else none)
      |none=>pure none
     |_=>pure none
    match still with
    |none=>rule "set.search.anew";setSearchFrom S (.ref a) (f p) true 99999 none
    |some i'=>if equal then return .there (some i') else setSearchFrom S (.ref a) (f p) true 99999 (some nx))
    (fun r s'=>s'=s/\r=.there none) E s:=by
   rw[hget]
   dsimp only
   refine wpAny_bind (wpAny_holding (wpAny_eqBool_tuple hu hq.1 hk ?_))
   rw[decide_eq_true (by rw[e6])]
   refine wpAny_bind (wpAny_setState_of ho hd hfit ?_)
   dsimp only
   simp only[Bool.and_self,if_true]
   exact wpAny_pure ⟨rfl,rfl⟩
  have fin:∀r s',s'=s/\r=SetFound.there none->wpAny (model prog w) A (match r with
    | .free slot wasDummy=>(do
     let (es,_,t) <-setState S
     let (t,p'):=t.put slot
     let byValue <-if t.plain then hashByValue 8 (.ref a) else pure true
     let t:=if byValue then t else {t with plain:=false}
     storeSet S (SetTable.insertAt es p' (f p,.ref a)) t
     if !wasDummy && t.tooFull then setRelay S (SetTable.grown (es.size + 1))
     return true)
    |_=>pure false) Q E s':=by
   rintro r s' ⟨rfl,rfl⟩
   exact wpAny_pure (h false s'.heap ps (Heap.SameBut.refl ..) P (fun q hq=>.inl hq) (fun q hq=>hq) ⟨ps[i],List.getElem_mem hi,e6⟩)
  cases hl:led with
  |true=>
   rw[hled,hl]
   simp only[Bool.not_true,Bool.false_eq_true,if_false]
   exact wpAny_mono rest (fun r s' hr=>fin r s' hr) fun _ _ x=>x
  |false=>
   rw[hled,hl]
   simp only[Bool.not_false,if_true]
   refine wpAny_bind (wJ hk _ (fun v hv=>?_) ?_)
   ·obtain⟨x,hx,rfl⟩:=List.mem_map.mp hv
    have hx':x∈(ps.map (dO f)).toArray:=(Array.mem_filter.mp (Array.mem_toList_iff.mp hx)).1
    have hx2:x∈ps.map (dO f):=by simpa using hx'
    obtain⟨q,hq,rfl⟩:=List.mem_map.mp hx2
    exact⟨q.2,q.1,rfl,(P.at' q hq).1⟩
   ·simp only[Bool.false_eq_true,if_false]
    exact wpAny_mono rest (fun r s' hr=>fin r s' hr) fun _ _ x=>x
 ·
  obtain⟨j,e1,e2,e3,e4⟩:=T.absent ha hm
  rw[e1]
  dsimp only
  refine wpAny_pure ?_
  dsimp only
  refine wpAny_bind (wpAny_setState_of ho hd hfit ?_)
  dsimp only
  obtain⟨q1,q2⟩:=qx t j T.dum
  have hpl:(t.put j).1.plain=true:=by rw[q1];exact T.plain
  rw[hpl]
  simp only[if_true]
  refine wpAny_bind (tZ hk ?_)
  simp only[if_true]
  have hb:(t.put j).2<=ps.length:=by
   rw[q2]
   have:=(dF T.rise j).1
   rw[T.size] at this;simpa using this
  have hins:insertAt (ps.map (dO f)).toArray (t.put j).2 (f p,Value.ref a)=((ps.take (t.put j).2 ++ (a,p) :: ps.drop (t.put j).2).map (dO f)).toArray:=by
   apply Array.toList_inj.mp
   rw[bV _ _ _ (by simpa using hb)]
   simp[List.map_take,List.map_drop]
  rw[hins]
  generalize hps':ps.take (t.put j).2 ++ (a,p) :: ps.drop (t.put j).2=ps1
  have mem1:∀q,q∈ps1↔q∈ps\/q=(a,p):=fun q=>by
   rw[<-hps',List.mem_append,List.mem_cons]
   conv=>rhs;rw[<-List.take_append_drop (t.put j).2 ps,List.mem_append]
   constructor
   ·rintro (z |z |z)
    ·exact .inl (.inl z)
    ·exact .inr z
    ·exact .inl (.inr z)
   ·rintro ((z |z) |z)
    ·exact .inl z
    ·exact .inr (.inr z)
    ·exact .inr (.inl z)
  have len1:ps1.length=ps.length + 1:=by rw[<-hps'];simp;omega
  have nd1:(ps1.map (·.2)).Nodup:=by
   have hnot:p∉ps.map (·.2):=fun z=>by
    obtain⟨q,hq,e⟩:=List.mem_map.mp z
    exact hm (List.mem_map.mpr ⟨q,hq,by rw[e]⟩)
   have perm:(ps1.map (·.2)).Perm (p :: ps.map (·.2)):=by
    rw[<-hps']
    have:(ps.take (t.put j).2 ++ (a,p) :: ps.drop (t.put j).2).Perm ((a,p) :: ps):=by
     refine List.perm_middle.trans ?_
     rw[List.take_append_drop]
    exact this.map (·.2)
   exact perm.nodup_iff.mpr (List.nodup_cons.mpr ⟨hnot,P.nd⟩)
  have ne:∀b q,bL prog w s.heap q b->b≠S:=fun b q ⟨o',_,_,ho',_,hd',_⟩ e=>by
   subst e
   rw[ho] at ho';cases ho'
   rw[hd] at hd';cases hd'
  have at1:∀{h':Heap},Heap.SameBut S s.heap h'->∀q,q∈ps1->bL prog w h' q.2 q.1/\Sm q.2:=fun {h'} hsb q hq=>by
   have key:∀{b:Addr} {q:Pr},bL prog w s.heap q b->bL prog w h' q b:=fun {b q} hb=>by
    have hne:=ne b q hb
    obtain⟨o',i',n',ho',r'⟩:=hb
    exact⟨o',i',n',(hsb.2 b hne).trans ho',r'⟩
   rcases (mem1 q).mp hq with z |z
   ·exact⟨key (P.at' q z).1,(P.at' q z).2⟩
   ·subst z;exact⟨key hk,hs⟩
  have hlen64:ps1.length<=64:=by
   have:=o9 nd1 fun x hx=>by
    obtain⟨q,hq,rfl⟩:=List.mem_map.mp hx
    exact (at1 (Heap.SameBut.refl ..) q hq).2
   simpa using this
  have hsize:((ps1.map (dO f)).toArray).size<=sizeLine:=by rw[sizeLine_eq];simp;omega
  refine wpAny_bind (wpAny_storeSet_of ho hd ?_ hsize)
  have ho1:(s.heap.update S (Obj.putSet (ps1.map (dO f)).toArray (t.put j).1)).get? S=some {o with data:=.set (ps1.map (dO f)).toArray (ep + 1) (t.put j).1}:=by
   have:=Heap.get?_update_self (Obj.putSet (ps1.map (dO f)).toArray (t.put j).1) ho (by rw[putSet_of _ _ hd];rfl)
   rw[putSet_of _ _ hd] at this;exact this
  have sb1:=Heap.SameBut.update s.heap S (Obj.putSet (ps1.map (dO f)).toArray (t.put j).1)
  have hex1:({o with data:=.set (ps1.map (dO f)).toArray (ep + 1) (t.put j).1}:Obj).ExactSet:=hex
  have psz:(t.put j).1.place.size=ps.length + 1:=by
   rw[q1]
   show (insertAt t.place (below t.place j) j).size=_
   rw[<-Array.length_toList,bV _ _ _ (dF T.rise j).1]
   have:=T.size
   simp at this ⊢
   have:=(dF T.rise j).1
   omega
  have dum1:(t.put j).1.dummies=#[]:=by rw[q1];exact T.dum
  have mask1:(t.put j).1.mask=t.mask:=by rw[q1]
  have tsz:t.place.size=ps.length:=by simpa using T.size
  simp only[Bool.not_false,Bool.true_and]
  cases htf:(t.put j).1.tooFull with
  |false=>
   simp only[Bool.false_eq_true,if_false]
   have hload:(t.place.size + 1) * 5 < t.mask * 3:=by
    unfold SetTable.tooFull SetTable.fill at htf
    rw[psz,dum1,mask1] at htf
    simp at htf
    rw[tsz];exact htf
   obtain⟨T1,_⟩:=T.put e2 e3 e4 hload
   refine wpAny_bind (wpAny_pure (wpAny_pure (h true _ ps1 sb1 ⟨⟨_,ep + 1,_,ho1,hex1,rfl,?_,?_⟩,at1 sb1,nd1⟩ (fun q hq=>(mem1 q).mp hq) (fun q hq=>(mem1 q).mpr (.inl hq)) ⟨(a,p),(mem1 _).mpr (.inr rfl),rfl⟩)))
   ·rw[<-hps']
    simpa[List.map_take,List.map_drop] using T1
   ·rw[q1];exact hled
  |true=>
   simp only[if_true]
   have hfull:t.mask * 3<=(ps.length + 1) * 5:=by
    unfold SetTable.tooFull SetTable.fill at htf
    rw[psz,dum1,mask1] at htf
    simpa using htf
   have hload:=T.load
   rw[tsz] at hload
   have hcase:∃mask',Cg mask'/\sizeAbove (grown (ps.length + 1)) - 1=mask'/\sizeAbove (grown (ps.length + 1))<=sizeLine/\(ps.length + 1) * 5 < mask' * 3:=by
    rcases T.mask with e |e |e
    ·have:ps.length + 1=5:=by rw[e] at hfull hload;omega
     rw[this,Ej.1]
     exact⟨31,.inr (.inl rfl),rfl,by rw[sizeLine_eq];decide,by decide⟩
    ·have:ps.length + 1=19:=by rw[e] at hfull hload;omega
     rw[this,Ej.2]
     exact⟨127,.inr (.inr rfl),rfl,by rw[sizeLine_eq];decide,by decide⟩
    ·rw[e] at hfull;omega
   obtain⟨mask',hm3,em,hline,hl2⟩:=hcase
   have hes:(ps.map (dO f)).toArray.size + 1=ps.length + 1:=by simp
   rw[hes,Bs]
   have hfit1:(t.put j).1.fits ((ps1.map (dO f)).toArray).size=true:=by
    unfold SetTable.fits SetTable.fill
    have hpl2:ps.length + 1<=t.mask:=by
     rcases T.mask with e |e |e <;> rw[e] at hload ⊢ <;> omega
    rw[psz,dum1,mask1]
    simp[len1,hpl2]
   refine wpAny_bind (wpAny_bind (wpAny_setState_of ho1 rfl hfit1 ?_))
   dsimp only
   rw[if_neg (by omega)]
   rw[uJ _ _ _ hpl,em]
   obtain⟨t2,order,ps2,g1,g2,g3,g4,g5,g6⟩:=rD f hm3 (ps:=ps1) (by rw[len1];exact hl2) (t.put j).1.finger ((t.put j).1.movedTo mask') (t.put j).1.led
   rw[g1]
   simp only[bind_pure_comp,pure_bind]
   rw[g2]
   have hne:((ps2.map (dO f)).toArray.size != (ps1.map (dO f)).toArray.size)=false:=by simp[g3]
   rw[hne]
   simp only[Bool.false_eq_true,if_false]
   have hsize2:((ps2.map (dO f)).toArray).size<=sizeLine:=by rw[sizeLine_eq];simp;omega
   refine wpAny_bind (wpAny_pure ?_)
   refine wpAny_storeSet_of ho1 rfl ?_ hsize2
   have ho2:((s.heap.update S (Obj.putSet (ps1.map (dO f)).toArray (t.put j).1)).update S (Obj.putSet (ps2.map (dO f)).toArray t2)).get? S=some {o with data:=.set (ps2.map (dO f)).toArray (ep + 1 + 1) t2}:=by
    have:=Heap.get?_update_self (Obj.putSet (ps2.map (dO f)).toArray t2) ho1 (by rw[putSet_of (ep:=ep + 1) _ _ rfl];rfl)
    rw[putSet_of (ep:=ep + 1) _ _ rfl] at this;exact this
   have sb2:=sb1.trans (Heap.SameBut.update _ S (Obj.putSet (ps2.map (dO f)).toArray t2))
   have nd2:(ps2.map (·.2)).Nodup:=by
    have hmem:∀q,q∈ps2.map (·.2)↔q∈ps1.map (·.2):=fun q=>by
     rw[List.mem_map,List.mem_map]
     exact⟨fun⟨x,hx,e⟩=>⟨x,(g4 x).mp hx,e⟩,fun⟨x,hx,e⟩=>⟨x,(g4 x).mpr hx,e⟩⟩
    have hnd:(ps2.map fun q=>f q.2).Nodup:=by
     refine nr (m:=ps1.map fun q=>f q.2) ?_ (fun x hx=>?_) (by simp[g3])
     ·have:(ps1.map fun q=>f q.2)=(ps1.map (·.2)).map f:=by simp
      rw[this]
      refine List.pairwise_map.mpr (List.Pairwise.imp_of_mem ?_ nd1)
      intro x y hx hy hxy e
      obtain⟨q,hq,rfl⟩:=List.mem_map.mp hx
      obtain⟨r,hr,rfl⟩:=List.mem_map.mp hy
      exact hxy (hinj _ _ (at1 sb1 q hq).2 (at1 sb1 r hr).2 e)
     ·obtain⟨q,hq,rfl⟩:=List.mem_map.mp hx
      exact List.mem_map.mpr ⟨q,(g4 q).mpr hq,rfl⟩
    have:(ps2.map fun q=>f q.2)=(ps2.map (·.2)).map f:=by simp
    rw[this] at hnd
    exact (List.pairwise_map.mp hnd).imp fun hxy e=>hxy (by rw[e])
   refine wpAny_pure (h true _ ps2 sb2 ⟨⟨_,ep + 1 + 1,t2,ho2,hex,rfl,g5,?_⟩,fun q hq=>at1 sb2 q ((g4 q).mp hq),nd2⟩ (fun q hq=>(mem1 q).mp ((g4 q).mp hq)) (fun q hq=>(g4 q).mpr ((mem1 q).mpr (.inl hq))) ⟨(a,p),(g4 _).mpr ((mem1 _).mpr (.inr rfl)),rfl⟩)
   rw[g6,q1];exact hled
end
end L2.ST

end

section
namespace L2.ST
open PySem PySem.SetTable
def fY (w:World):Bool:= !(w.params.followText "set-order")
def zV (prog:Program)(w:World)(p:Pr):Int:=tupleKeyHash (intKind prog w) [p.1,p.2]
theorem DT (prog:Program)(w:World):∀p q,Sm p->Sm q->zV prog w p=zV prog w q->p=q:=fun p q h1 h2 e=>Fs h1 h2 e
section
variable {prog:Program}{w:World}{A:Around}{E:Value->Shared->Prop}{s:Shared}{R:Result->Shared->Prop}{I:Addr}{fp wr:List Addr}{n:Nat}{P:Nat->Value->Prop}{St:Nat->Heap->Prop}
def c5 (prog:Program)(w:World)(h:Heap)(vs:List Value)(ps:List Pr):Prop:=vs.length=ps.length/\∀(i:Nat) (v:Value) (p:Pr),vs[i]? =some v->ps[i]? =some p->∃a,v=.ref a/\bL prog w h p a/\Sm p
abbrev og (prog:Program)(w:World)(h:Heap)(S:Addr)(vs:List Value)(ps:List Pr)(k:Nat):Prop:=∃qs:List (Addr×Pr),oj (zV prog w) prog w (fY w) h S qs/\
 (∀q,q∈qs->Value.ref q.1∈vs.take k/\q.2∈ps.take k)/\∀p,p∈ps.take k->p∈qs.map (·.2)
theorem ml (W:Walks prog w A.in1 I fp wr n P St)(S:Addr)(hSf:S∉fp){vs:List Value}{ps:List Pr}(hn:vs.length=n)(hP:∀i v,P i v->vs[i]? =some v)(hu:A.in1.units < cLine)(h₀:Heap)
  (hps:c5 prog w h₀ vs ps) (hwr:∀b o,b∈S :: wr->h₀.get? b=some o->False):∀(k i:Nat) (s:Shared),n - i=k->i<=n->St i s.heap->(∀b o,h₀.get? b=some o->s.heap.get? b=some o)->og prog w s.heap S vs ps i->
   (∀h' tk,(∀b o,b∉S :: wr->s.heap.get? b=some o->h'.get? b=some o)->og prog w h' S vs ps n->R (.ok (.ret .none)) {s with heap:=h',toks:=tk})->
   codeAny (model prog w) A (.builtin "set.update.loop" ⟨[.ref S,.ref I],[]⟩) R s:=by
 have nw:S∉wr:=fun h=>hSf (W.sub _ h)
 intro k
 induction k with
 |zero=>
  intro i s hk hi hst hk0 hF hR
  obtain rfl:i=n:=by omega
  refine codeAny_builtin PyProof.Rows.F.entry_set_update_loop ?_
  rw[Around.under_plainId PyProof.Rows.F.plain_set_update_loop _]
  show wpAny _ A.in1 (pyNext (.ref I) >>= fun r=>_) _ _ s
  refine wpAny_bind (W.done s _ _ hst fun h' tk hm=>?_)
  show wpAny _ A.in1 (ret Value.none) _ _ _
  refine wpAny_pure (hR h' tk (fun b o hb e=>hm b o (fun z=>hb (List.mem_cons_of_mem _ z)) e) ?_)
  obtain⟨qs,Q1,Q2,Q3⟩:=hF
  obtain⟨o,ep,t,ho,r⟩:=Q1.ex
  refine⟨qs,⟨⟨o,ep,t,hm S o nw ho,r⟩,fun q hq=>⟨?_,(Q1.at' q hq).2⟩,Q1.nd⟩,Q2,Q3⟩
  obtain⟨m,hm1,hm2⟩:=List.mem_iff_getElem.mp (List.mem_of_mem_take (Q2 q hq).1)
  have hm1':m < ps.length:=by rw[<-hps.1];exact hm1
  obtain⟨a,ea,ha,_⟩:=hps.2 m vs[m] ps[m] (List.getElem?_eq_getElem hm1) (List.getElem?_eq_getElem hm1')
  rw[hm2] at ea
  cases ea
  obtain⟨o',it',n',ho',r'⟩:=(Q1.at' q hq).1
  obtain⟨o2,it2,n2,ho2,r2⟩:=ha
  have:o'=o2:=Option.some.inj (ho'.symm.trans (hk0 _ _ ho2))
  subst this
  exact⟨o',it',n',hm _ _ (fun z=>hwr _ _ (List.mem_cons_of_mem _ z) ho2) ho',r'⟩
 |succ k ih=>
  intro i s hk hi hst hk0 hF hR
  have hlt:i < n:=by omega
  refine codeAny_builtin PyProof.Rows.F.entry_set_update_loop ?_
  rw[Around.under_plainId PyProof.Rows.F.plain_set_update_loop _]
  show wpAny _ A.in1 (pyNext (.ref I) >>= fun r=>_) _ _ s
  refine wpAny_bind (W.item i s _ _ hlt hst fun v h1 tk1 hv hst1 hm=>?_)
  have hvi:=hP i v hv
  have hip:i < ps.length:=by rw[<-hps.1,hn];exact hlt
  obtain⟨a,rfl,ha,hsm⟩:=hps.2 i v ps[i] hvi (List.getElem?_eq_getElem hip)
  have k1:∀b o,h₀.get? b=some o->h1.get? b=some o:=fun b o e=>hm b o (fun z=>hwr b o (List.mem_cons_of_mem _ z) e) (hk0 b o e)
  obtain⟨qs,Q1,Q2,Q3⟩:=hF
  have old:∀{q:Addr×Pr} {h:Heap},q∈qs->(∀b o,h₀.get? b=some o->h.get? b=some o)->bL prog w h q.2 q.1:=fun {q h} hq kk=>by
   obtain⟨m,hm1,hm2⟩:=List.mem_iff_getElem.mp (List.mem_of_mem_take (Q2 q hq).1)
   have hm1':m < ps.length:=by rw[<-hps.1];exact hm1
   obtain⟨a,ea,ha,_⟩:=hps.2 m vs[m] ps[m] (List.getElem?_eq_getElem hm1) (List.getElem?_eq_getElem hm1')
   rw[hm2] at ea
   cases ea
   obtain⟨o',it',n',ho',r'⟩:=(Q1.at' q hq).1
   obtain⟨o2,it2,n2,ho2,r2⟩:=ha
   have:o'=o2:=Option.some.inj (ho'.symm.trans (hk0 _ _ ho2))
   subst this
   exact⟨o',it',n',kk _ _ ho2,r'⟩
  have P1:oj (zV prog w) prog w (fY w) h1 S qs:=by
   obtain⟨o,ep,t,ho,r⟩:=Q1.ex
   exact⟨⟨o,ep,t,hm S o nw ho,r⟩,fun q hq=>⟨old hq k1,(Q1.at' q hq).2⟩,Q1.nd⟩
  have ha1:bL prog w h1 ps[i] a:=by
   obtain⟨o',it',n',ho',r'⟩:=ha
   exact⟨o',it',n',k1 _ _ ho',r'⟩
  show wpAny _ A.in1 (holding [Value.ref a] (setAdd S (.ref a)) >>= fun _=>_) _ _ _
  refine wpAny_bind (wpAny_holding ?_)
  unfold setAdd
  refine wpAny_holding (wpAny_bind (wpAny_pyHash_tuple hu ha1 ?_))
  refine oj.add (DT prog w) (s:={s with heap:=h1,toks:=tk1 + ([ps[i].1,ps[i].2].length + 1)}) P1 ha1 hsm hu fun b h2 qs' sb P2 m1 m2 m3=>?_
  have sbS:∀b o,h₀.get? b=some o->h2.get? b=some o:=fun b o e=>(sb.2 b (fun z=>hwr b o (by rw[z];exact List.mem_cons_self) e)).trans (k1 b o e)
  refine wpAny_pure ⟨plainId_quiet PyProof.Rows.F.plain_set_update_loop _,ih (i + 1) _ (by omega) hlt (W.frame _ _ _ hst1 fun b hb o e=>?_) sbS ⟨qs',P2,fun q hq=>?_,fun p hp=>?_⟩ fun h' tk hm' F'=>?_⟩
  ·rw[sb.2 b fun z=>hSf (by rw[<-z];exact hb)];exact e
  ·have htk:∀{α:Type} {l:List α} {x:α},x∈l.take i->x∈l.take (i + 1):=fun {α l x} hx=>by
    rw[List.take_add_one];exact List.mem_append_left _ hx
   rcases m1 q hq with z |z
   ·exact⟨htk (Q2 q z).1,htk (Q2 q z).2⟩
   ·subst z
    refine⟨?_,?_⟩
    ·rw[List.take_add_one,hvi];exact List.mem_append_right _ (by simp)
    ·rw[List.take_add_one,List.getElem?_eq_getElem hip];exact List.mem_append_right _ (by simp)
  ·rw[List.take_add_one,List.getElem?_eq_getElem hip] at hp
   rcases List.mem_append.mp hp with z |z
   ·obtain⟨q,hq,rfl⟩:=List.mem_map.mp (Q3 p z)
    exact List.mem_map.mpr ⟨q,m2 q hq,rfl⟩
   ·have:p=ps[i]:=by simpa using z
    obtain⟨q,hq,e⟩:=m3
    exact List.mem_map.mpr ⟨q,hq,by rw[e,this]⟩
  ·refine hR h' tk (fun b o hb e=>hm' b o hb ?_) F'
   show h2.get? b=some o
   rw[sb.2 b fun z=>hb (by rw[z];exact List.mem_cons_self)]
   exact hm b o (fun z=>hb (List.mem_cons_of_mem _ z)) e
theorem nq (a:Value){Q1:Value->Shared->Prop}
  (h:Q1 (.ref s.heap.objs.size) {s with heap:=s.heap.push {cls:=.type "set",dict:=none,data:=.set #[] 0 (.fresh 0 0 (fY w))}}) :
  codeAny (model prog w) A (.call (.builtin "set.__new__") ⟨[.type "set",a],[]⟩) (wants Q1 E) s:=by
 refine codeAny_of_tree ?_
 show wpAny _ A.in1 (do (checkBuiltinCall "set.__new__" ⟨[.type "set",a],[]⟩);again (.builtin "set.__new__" ⟨[.type "set",a],[]⟩)) _ _ s
 refine wpAny_bind (wpAny_of_eq (F.newCall_set_1 a) (wpAny_pure ⟨plainId_quiet F.plain_set_new _,codeAny_builtin F.entry_set_new ?_⟩))
 rw[Around.under_plainId F.plain_set_new _]
 (unfold Builtin.«set.__new__» Builtin.Frozenset.newClass)
 have hsub0:=sub_set_self
 obtain⟨hp0,g0,d0,tk0,os0⟩:=s
 dsimp only
 wp_walk
 (refine wpAny_askSetting (wpAny_pure ?_))
 dsimp only
 simp only[newObj]
 (refine wpAny_bind (wpAny_alloc (wpAny_pure ?_)))
 exact wpAny_pure h
theorem yH (led:Bool):Tab (.fresh 0 0 led) []:=
 ⟨.inl rfl,rfl,List.Pairwise.nil,fun j h=>(by cases (Array.mem_toList_iff.mpr h)),rfl,(by show (0:Nat) * 5 < 7 * 3;decide),fun i j h e=>(by simp[SetTable.fresh] at e),rfl⟩
structure Src (prog:Program)(w:World)(h:Heap)(l:Addr)(vs:List Value)(T:String)(itO:Obj)(St:Addr->Nat->Heap->Prop):Prop where
 ty:∃o,h.get? l=some o/\o.cls=.type T
 ns:isSubtype (.type T) (.type "set")=pure false
 nf:isSubtype (.type T) (.type "frozenset")=pure false
 nd:(Value.type T == Value.type "dict")=false
 it:∀(A:Around) (s1:Shared) (Q:Value->Shared->Prop) (E:Value->Shared->Prop),(∀b o,h.get? b=some o->s1.heap.get? b=some o)->Q (.ref s1.heap.objs.size) {s1 with heap:=s1.heap.push itO}->wpAny (model prog w) A (pyIter (.ref l)) Q E s1
 st:∀(h1:Heap),(∀b o,h.get? b=some o->h1.get? b=some o)->St h1.objs.size 0 (h1.push itO)
 wk:∀(A:Around) (I:Addr),A.handled=none->l≠I->Walks prog w A I [I,l] [I] vs.length (fun i v=>vs[i]? =some v) (St I)
theorem Src.list {h:Heap}{l:Addr}{vs:List Value}(hl:h.IsList l vs.toArray):Src prog w h l vs "list" {cls:=.type "list_iterator",data:=.fields #[.ref l,.int 0 0]} (fun I i h'=>h'.IsListIter I l i/\h'.IsList l vs.toArray):=by
 obtain⟨o,ho,hc,n,hd⟩:=id hl
 refine⟨⟨o,ho,hc⟩,F.sub_list_set,F.sub_list_frozenset,by decide,fun A s1 Q E k hQ=>wpAny_pyIter_list ⟨o,k _ _ ho,hc,n,hd⟩ hQ,fun h1 k=>⟨⟨_,Heap.get?_push_size _ rfl,rfl,rfl⟩,⟨o,Heap.get?_push_of_some _ (k _ _ ho),hc,n,hd⟩⟩,fun A I hh hne=>?_⟩
 have:=Walks.list (prog:=prog) (w:=w) hh I l hne vs.toArray
 simpa using this
theorem sub_tuple_set:isSubtype (.type "tuple") (.type "set")=pure false:=by rw[isSubtype_type];kernel_rfl
theorem sub_tuple_frozenset:isSubtype (.type "tuple") (.type "frozenset")=pure false:=by rw[isSubtype_type];kernel_rfl
theorem Src.tuple {h:Heap}{l:Addr}{vs:List Value}(hl:h.IsTuple l vs.toArray):Src prog w h l vs "tuple" {cls:=.type "tuple_iterator",data:=.fields #[.ref l,.int 0 0]} (fun I i h'=>h'.IsTupleIter I l i/\h'.IsTuple l vs.toArray):=by
 obtain⟨o,ho,hc,n,hd⟩:=id hl
 refine⟨⟨o,ho,hc⟩,sub_tuple_set,sub_tuple_frozenset,by decide,fun A s1 Q E k hQ=>wpAny_pyIter_tuple ⟨o,k _ _ ho,hc,n,hd⟩ hQ,fun h1 k=>⟨⟨_,Heap.get?_push_size _ rfl,rfl,rfl⟩,⟨o,Heap.get?_push_of_some _ (k _ _ ho),hc,n,hd⟩⟩,fun A I hh hne=>?_⟩
 have:=Walks.tuple (prog:=prog) (w:=w) hh I l hne vs.toArray
 simpa using this
set_option maxHeartbeats 3200000 in
theorem oS {l:Addr}{vs:List Value}{ps:List Pr}{T:String}{itO:Obj}{St:Addr->Nat->Heap->Prop}{Q:Value->Shared->Prop}(X:Src prog w s.heap l vs T itO St)(hh:A.handled=none)(hu:A.units + 64 < cLine)(hps:c5 prog w s.heap vs ps)
  (h:∀(h':Heap) (tk:Nat),og prog w h' s.heap.objs.size vs ps vs.length->(∀b o,s.heap.get? b=some o->h'.get? b=some o)->Q (.ref s.heap.objs.size) {s with heap:=h',toks:=tk}) :
  wpAny (model prog w) A (call (.type "set") [.ref l]) Q E s:=by
 obtain⟨c0,tl0,hmro0⟩:=F.called_set.mro
 have hmade0:=F.called_set.made
 have hsub0:=F.called_set.sub
 refine wpAny_call (codeAny_of_tree ?_)
 show wpAny _ _ (callAny (.type "set") ⟨[.ref l],[]⟩) _ _ _
 refine wpAny_pure ⟨Code.quiet_builtin _ (by decide +kernel),codeAny_builtin F.entry_type_call ?_⟩
 (rw[Around.under_plain (weight_type_call_type "set" [.ref l] []) rfl])
 have g1:=F.called_set.notType
 have g2:=F.called_set.canCreate
 have g3:=F.typeCall_set_1 (.ref l)
 repeat (any_goals (first |assumption |wp_step))
 refine codeAny_mono (nq (.ref l) (E:=E) (Q1:=fun obj s1=>obj=.ref s.heap.objs.size/\s1={s with heap:=s.heap.push {cls:=.type "set",dict:=none,data:=.set #[] 0 (.fresh 0 0 (fY w))}}) ⟨rfl,rfl⟩) fun r s1 hr=>?_
 cases r with
 |error e=>exact hr
 |ok fl=>
  cases fl with
  |ret obj=>
   obtain⟨rfl,rfl⟩:=hr
   generalize hO:({cls:=.type "set",dict:=none,data:=.set #[] 0 (.fresh 0 0 (fY w))}:Obj)=O
   have hS0:(s.heap.push O).get? s.heap.objs.size=some O:=Heap.get?_push_size _ (by rw[<-hO];rfl)
   have hT0:Shared.TypeIs {s with heap:=s.heap.push O} (.ref s.heap.objs.size) "set":=⟨_,hS0,by rw[<-hO]⟩
   have g4:=F.called_set.init.lookup
   have g5:=F.called_set.init.bind (.ref s.heap.objs.size)
   repeat (any_goals (first |assumption |wp_step))
   refine codeAny_mono (codeAny_call_builtin (R:=wants (fun r s2=>r=.none/\∃h' tk,s2={s with heap:=h',toks:=tk}/\og prog w h' s.heap.objs.size vs ps vs.length/\(∀b o,s.heap.get? b=some o->h'.get? b=some o)) E)
    F.called_set.init.plain F.entry_set_init (check_set_init_1 hT0 ?_)) fun r2 s2 hr2=>?_
   ·obtain⟨ol,hol,hcl⟩:=X.ty
    have hol':(s.heap.push O).get? l=some ol:=Heap.get?_push_of_some _ hol
    have e1:=X.ns
    have e2:=X.nf
    have e3:=X.nd
    have hTl:Shared.TypeIs {s with heap:=s.heap.push O} (.ref l) T:=⟨ol,hol',hcl⟩
    have hdat:O.data=.set #[] 0 (.fresh 0 0 (fY w)):=by rw[<-hO]
    (unfold Builtin.«set.__init__» noKeywords Builtin.Frozenset.updateFrom)
    subst hO
    obtain⟨oc,od,odt,osl⟩:=ol
    simp only at hcl
    subst hcl
    (generalize hPI0:pyIter=PI0)
    wp_walk
    subst hPI0
    have kp:∀b o,s.heap.get? b=some o->(s.heap.push {cls:=.type "set",dict:=none,data:=.set #[] 0 (.fresh 0 0 (fY w))}).get? b=some o:=fun b o e=>Heap.get?_push_of_some _ e
    refine X.it _ _ _ _ kp ?_
    refine wpAny_bind (wpAny_runValue ?_)
    have hlS:l < s.heap.objs.size:=Heap.lt_size hol
    have hh3:A.in1.in1.in1.handled=none:=by simp[hh]
    have hneI:l≠(s.heap.push {cls:=.type "set",dict:=none,data:=.set #[] 0 (.fresh 0 0 (fY w))}).objs.size:=by
     rw[Heap.size_push];exact Nat.ne_of_lt (Nat.lt_succ_of_lt hlS)
    have hSf:s.heap.objs.size∉ [(s.heap.push {cls:=.type "set",dict:=none,data:=.set #[] 0 (.fresh 0 0 (fY w))}).objs.size,l]:=by
     rw[Heap.size_push]
     intro z
     rcases List.mem_cons.mp z with e |z
     ·exact absurd e (Nat.ne_of_lt (Nat.lt_succ_self _))
     ·exact absurd (List.mem_singleton.mp z) (Nat.ne_of_gt hlS)
    refine ml (X.wk _ _ hh3 hneI) s.heap.objs.size hSf rfl (fun i v e=>e) (by simp;omega) s.heap hps (fun b o hb e=>?_) (vs.length - 0) 0 _ (by omega) (Nat.zero_le _) (X.st _ kp) (fun b o e=>Heap.get?_push_of_some _ (kp b o e)) ?_ ?_
    ·have hlt:=Heap.lt_size e
     rw[Heap.size_push] at hb
     rcases List.mem_cons.mp hb with z |z
     ·exact absurd hlt (by rw[z];exact Nat.lt_irrefl _)
     ·rw[List.mem_singleton.mp z] at hlt
      exact absurd hlt (Nat.not_lt.mpr (Nat.le_succ _))
    ·refine⟨[],⟨⟨_,0,_,Heap.get?_push_of_some _ hS0,⟨rfl,rfl,rfl⟩,rfl,yH _,rfl⟩,fun q hq=>(by cases hq),List.nodup_nil⟩,fun q hq=>(by cases hq),fun p hp=>(by simp at hp)⟩
    ·intro h' tk hm F'
     show wpAny _ _ _ _ _ _
     refine wpAny_pure ?_
     show wpAny _ _ (ret Value.none) _ _ _
     refine wpAny_pure ⟨rfl,h',tk,rfl,F',fun b o e=>hm b o (fun z=>?_) (Heap.get?_push_of_some _ (kp b o e))⟩
     have hlt:=Heap.lt_size e
     rw[Heap.size_push] at z
     rcases List.mem_cons.mp z with z |z
     ·exact absurd hlt (by rw[z];exact Nat.lt_irrefl _)
     ·rw[List.mem_singleton.mp z] at hlt
      exact absurd hlt (Nat.not_lt.mpr (Nat.le_succ _))
   ·cases r2 with
    |error e=>exact hr2
    |ok fl2=>
     cases fl2 with
     |ret r=>
      obtain⟨rfl,h',tk,rfl,hF,hk⟩:=hr2
      repeat (any_goals (first |assumption |wp_step))
      exact h _ _ hF hk
     |_=>exact hr2.elim
  |_=>exact hr.elim
end
end L2.ST

end

section
namespace L2.SO
open PySem PySem.W PyProof.Rows
def jU {α:Type}(lt:Nat->Nat->Bool):KasT α->α
 | .ret a=>a
 | .ask i j k=>jU lt (k (lt i j))
theorem fm {α β:Type}(lt:Nat->Nat->Bool)(f:α->KasT β):∀t:KasT α,jU lt (t.bind f)=jU lt (f (jU lt t))
 | .ret _=>rfl
 | .ask i j k=>fm lt f (k (lt i j))
def tG {α:Type}(n:Nat)(lt:Nat->Nat->Bool):KasT α->Prop
 | .ret _=>True
 | .ask i j k=>i < n/\j < n/\tG n lt (k (lt i j))
theorem hG {α β:Type}{n:Nat}{lt:Nat->Nat->Bool}{f:α->KasT β}:∀{t:KasT α},tG n lt t->tG n lt (f (jU lt t))->tG n lt (t.bind f)
 | .ret _,_,h=>h
 | .ask i j k,h,h'=>⟨h.1,h.2.1,hG h.2.2 h'⟩
section
variable {n:Nat}{key:Nat->Int}
abbrev nt (key:Nat->Int)(i j:Nat):Bool:=decide (key i < key j)
abbrev Kp (key:Nat->Int)(p:Array Nat)(k:Nat):Int:=key (p.getD k 0)
structure Pm (n:Nat)(p:Array Nat):Prop where
 sz:p.size=n
 nd:p.toList.Nodup
 lt:∀x,x∈p->x < n
theorem Pm.at {p:Array Nat}(P:Pm n p){k:Nat}(hk:k < n):p.getD k 0 < n:=by
 have h:k < p.size:=by rw[P.sz];exact hk
 simp only[Array.getD,h,dif_pos]
 exact P.lt _ (Array.getElem_mem h)
theorem Pm.ne {p:Array Nat}(P:Pm n p){i k:Nat}(hi:i < n)(hk:k < n)(hne:i≠k):p.getD i 0≠p.getD k 0:=by
 have h1:i < p.toList.length:=by simpa using (by rw[P.sz];exact hi:i < p.size)
 have h2:k < p.toList.length:=by simpa using (by rw[P.sz];exact hk:k < p.size)
 have h1':i < p.size:=by rw[P.sz];exact hi
 have h2':k < p.size:=by rw[P.sz];exact hk
 have a1:p.getD i 0=p.toList[i]:=by simp[Array.getD,h1']
 have a2:p.getD k 0=p.toList[k]:=by simp[Array.getD,h2']
 rw[a1,a2]
 have q:=List.pairwise_iff_getElem.mp P.nd
 rcases Nat.lt_or_ge i k with c |c
 ·exact q i k h1 h2 c
 ·exact (q k i h2 h1 (by omega)).symm
theorem Pm.perm {p q:Array Nat}(P:Pm n p)(h:q.Perm p):Pm n q:=by
 have h':=Array.perm_iff_toList_perm.mp h
 exact⟨by rw[h.size_eq];exact P.sz,h'.nodup_iff.mpr P.nd,fun x hx=>P.lt x (by simpa using h'.mem_iff.mp (by simpa using hx))⟩
theorem tX (n:Nat):Pm n (List.toArray (List.range n)):=⟨by simp,by simpa using List.nodup_range,fun x hx=>by simpa using hx⟩
def Inj (n:Nat)(key:Nat->Int):Prop:=∀i j,i < n->j < n->key i=key j->i=j
theorem Pm.tri {p:Array Nat}(P:Pm n p)(hi:Inj n key){i k:Nat}(h1:i < n)(h2:k < n)(hne:i≠k):Kp key p i < Kp key p k\/Kp key p k < Kp key p i:=by
 have:Kp key p i≠Kp key p k:=fun e=>P.ne h1 h2 hne (hi _ _ (P.at h1) (P.at h2) e)
 omega
def Up (key:Nat->Int)(p:Array Nat)(m:Nat):Prop:=∀i j,i < j->j < m->Kp key p i < Kp key p j
def Dn (key:Nat->Int)(p:Array Nat)(m:Nat):Prop:=∀i j,i < j->j < m->Kp key p j < Kp key p i
theorem Up.snoc {p:Array Nat}{m:Nat}(U:Up key p m)(h1:1<=m)(h:Kp key p (m - 1) < Kp key p m):Up key p (m + 1):=fun i j hij hj=>by
 rcases Nat.lt_or_ge j m with c |c
 ·exact U i j hij c
 ·have:j=m:=by omega
  subst this
  rcases Nat.lt_or_ge i (j - 1) with d |d
  ·exact Int.lt_trans (U i (j - 1) d (by omega)) h
  ·have:i=j - 1:=by omega
   rw[this];exact h
theorem Dn.snoc {p:Array Nat}{m:Nat}(U:Dn key p m)(h1:1<=m)(h:Kp key p m < Kp key p (m - 1)):Dn key p (m + 1):=fun i j hij hj=>by
 rcases Nat.lt_or_ge j m with c |c
 ·exact U i j hij c
 ·have:j=m:=by omega
  subst this
  rcases Nat.lt_or_ge i (j - 1) with d |d
  ·exact Int.lt_trans h (U i (j - 1) d (by omega))
  ·have:i=j - 1:=by omega
   rw[this];exact h
theorem pP {p:Array Nat}(P:Pm n p)(hi:Inj n key):∀(f m:Nat),1<=m->m + f<=n->Up key p m->
  ∃r,(jU (nt key) (kas_asc p f m)=r/\tG n (nt key) (kas_asc p f m))/\m<=r/\r<=m + f/\Up key p r/\(r < m + f->Kp key p r < Kp key p (r - 1))
 | 0,m,_,_,U=>⟨m,⟨rfl,trivial⟩,Nat.le_refl _,Nat.le_refl _,U,fun h=>absurd h (Nat.lt_irrefl _)⟩
 |f + 1,m,h1,hn,U=>by
  have b1:p.getD m 0 < n:=P.at (by omega)
  have b2:p.getD (m - 1) 0 < n:=P.at (by omega)
  unfold kas_asc jU tG
  by_cases c:Kp key p m < Kp key p (m - 1)
  ·rw[show nt key (p.getD m 0) (p.getD (m - 1) 0)=true from decide_eq_true c]
   simp only[if_true]
   exact⟨m,⟨rfl,b1,b2,trivial⟩,Nat.le_refl _,by omega,U,fun _=>c⟩
  ·rw[show nt key (p.getD m 0) (p.getD (m - 1) 0)=false from decide_eq_false c]
   simp only[Bool.false_eq_true,if_false]
   have up:Kp key p (m - 1) < Kp key p m:=(P.tri hi (by omega) (by omega) (by omega)).resolve_right c
   obtain⟨r,⟨e,o⟩,a,b,u,d⟩:=pP P hi f (m + 1) (by omega) (by omega) (U.snoc h1 up)
   exact⟨r,⟨e,b1,b2,o⟩,by omega,by omega,u,fun h=>d (by omega)⟩
theorem qN {p:Array Nat}(P:Pm n p)(hi:Inj n key):∀(f m:Nat),1<=m->m + f<=n->Dn key p m->
  ∃r,(jU (nt key) (kas_desc f p m 0)=(p,r,0)/\tG n (nt key) (kas_desc f p m 0))/\m<=r/\r<=m + f/\Dn key p r
 | 0,m,_,_,U=>⟨m,⟨rfl,trivial⟩,Nat.le_refl _,Nat.le_refl _,U⟩
 |f + 1,m,h1,hn,U=>by
  have b1:p.getD m 0 < n:=P.at (by omega)
  have b2:p.getD (m - 1) 0 < n:=P.at (by omega)
  unfold kas_desc jU tG
  by_cases c:Kp key p m < Kp key p (m - 1)
  ·rw[show nt key (p.getD m 0) (p.getD (m - 1) 0)=true from decide_eq_true c]
   simp only[if_true,Nat.lt_irrefl,gt_iff_lt,if_false]
   obtain⟨r,⟨e,o⟩,a,b,u⟩:=qN P hi f (m + 1) (by omega) (by omega) (U.snoc h1 c)
   exact⟨r,⟨e,b1,b2,o⟩,by omega,by omega,u⟩
  ·rw[show nt key (p.getD m 0) (p.getD (m - 1) 0)=false from decide_eq_false c]
   simp only[Bool.false_eq_true,if_false]
   unfold jU tG
   have up:Kp key p (m - 1) < Kp key p m:=(P.tri hi (by omega) (by omega) (by omega)).resolve_right c
   rw[show nt key (p.getD (m - 1) 0) (p.getD m 0)=true from decide_eq_true up]
   simp only[if_true]
   exact⟨m,⟨rfl,b1,b2,b2,b1,trivial⟩,Nat.le_refl _,by omega,U⟩
theorem Bu {p:Array Nat}{j k:Nat}(hj:j<=p.size)(hk:k < j):(kas_rev p 0 j).getD k 0=p.getD (j - 1 - k) 0:=by
 unfold kas_rev
 rw[Array.getD_eq_getD_getElem?,getElem?_mirror_all hj k,if_pos ⟨Nat.zero_le _,hk⟩,Array.getD_eq_getD_getElem?]
 congr 2
 omega
theorem Fc {p:Array Nat}{m:Nat}(hm:m<=p.size)(D:Dn key p m):Up key (kas_rev p 0 m) m:=fun i j hij hj=>by
 unfold Kp
 rw[Bu hm (by omega),Bu hm hj]
 exact D (m - 1 - j) (m - 1 - i) (by omega) (by omega)
theorem Pm.rev {p:Array Nat}(P:Pm n p)(j:Nat):Pm n (kas_rev p 0 j):=P.perm (mirror_perm ..)
theorem wa {p:Array Nat}(P:Pm n p)(hi:Inj n key)(h1:1<=n) :
  ∃m q,(jU (nt key) (kas_count n p)=(m,q)/\tG n (nt key) (kas_count n p))/\Pm n q/\1<=m/\m<=n/\Up key q m:=by
 obtain⟨r,⟨e,o⟩,a,b,u,d⟩:=pP P hi (n - 1) 1 (Nat.le_refl _) (by omega) (fun i j hij hj=>by omega)
 have rest:∃m q,(jU (nt key) (if (r == n)=true then KasT.ret (r,p) else if r > 1 then .ask (p.getD 0 0) (p.getD (r - 1) 0) fun c=>if c=true then .ret (r,p) else kas_descPart r n (kas_rev p 0 r) else kas_descPart r n p)=(m,q)/\
   tG n (nt key) (if (r == n)=true then KasT.ret (r,p) else if r > 1 then .ask (p.getD 0 0) (p.getD (r - 1) 0) fun c=>if c=true then .ret (r,p) else kas_descPart r n (kas_rev p 0 r) else kas_descPart r n p))/\Pm n q/\1<=m/\m<=n/\Up key q m:=by
  by_cases c:(r == n)=true
  ·rw[if_pos c]
   exact⟨r,p,⟨rfl,trivial⟩,P,a,by omega,u⟩
  ·rw[if_neg c]
   have hrn:r≠n:=by simpa using c
   have dd:=d (by omega)
   by_cases c2:r > 1
   ·rw[if_pos c2]
    unfold jU tG
    rw[show nt key (p.getD 0 0) (p.getD (r - 1) 0)=true from decide_eq_true (u 0 (r - 1) (by omega) (by omega))]
    simp only[if_true]
    exact⟨r,p,⟨rfl,P.at (by omega),P.at (by omega),trivial⟩,P,a,by omega,u⟩
   ·rw[if_neg c2]
    have hr1:r=1:=by omega
    subst hr1
    unfold kas_descPart
    rw[fm]
    have D2:Dn key p 2:=fun i j hij hj=>by
     have e1:i=0:=by omega
     have e2:j=1:=by omega
     rw[e1,e2];exact dd
    obtain⟨x,⟨e2,o2⟩,a2,b2,u2⟩:=qN P hi (n - 2) 2 (by omega) (by omega) D2
    obtain⟨y,⟨e3,o3⟩,a3,b3,u3,_⟩:=pP (P.rev x) hi (n - x) x (by omega) (by omega) (Fc (by rw[P.sz];omega) u2)
    rw[show n - (1 + 1)=n - 2 from rfl,show (1 + 1:Nat)=2 from rfl]
    have t3:tG n (nt key) (kas_tail3 x n p):=by
     unfold kas_tail3
     exact hG o3 trivial
    refine⟨y,kas_rev p 0 x,⟨?_,hG o2 ?_⟩,P.rev x,by omega,by omega,u3⟩
    ·rw[e2]
     simp only[Nat.lt_irrefl,gt_iff_lt,if_false]
     unfold kas_tail3
     rw[fm,e3]
     rfl
    ·rw[e2]
     simp only[Nat.lt_irrefl,gt_iff_lt,if_false]
     exact t3
 obtain⟨m,q,⟨f1,f2⟩,f3⟩:=rest
 refine⟨m,q,⟨?_,?_⟩,f3⟩
 ·unfold kas_count
  rw[fm,e]
  exact f1
 ·unfold kas_count
  refine hG o ?_
  rw[e]
  exact f2
theorem place_spec {p:Array Nat}{k:Nat}(P:Pm n p)(hi:Inj n key)(hk:k < n)(U:Up key p k):∀(f l r:Nat),l<=r->r<=k->r - l<=f->(∀i,i < l->Kp key p i < Kp key p k)->(∀i,r<=i->i < k->Kp key p k < Kp key p i)->
  ∃x,(jU (nt key) (kas_place p k f l r)=x/\tG n (nt key) (kas_place p k f l r))/\x<=k/\(∀i,i < x->Kp key p i < Kp key p k)/\(∀i,x<=i->i < k->Kp key p k < Kp key p i)
 | 0,l,r,h1,h2,h3,a,b=>⟨l,⟨rfl,trivial⟩,by omega,a,fun i hi=>b i (by omega)⟩
 |f + 1,l,r,h1,h2,h3,a,b=>by
  unfold kas_place
  by_cases c:l>=r
  ·rw[if_pos c]
   exact⟨l,⟨rfl,trivial⟩,by omega,a,fun i hi=>b i (by omega)⟩
  ·rw[if_neg c]
   have b1:p.getD k 0 < n:=P.at hk
   have b2:p.getD ((l + r) / 2) 0 < n:=P.at (by omega)
   unfold jU tG
   by_cases d:Kp key p k < Kp key p ((l + r) / 2)
   ·rw[show nt key (p.getD k 0) (p.getD ((l + r) / 2) 0)=true from decide_eq_true d]
    simp only[if_true]
    have side:∀i,(l + r) / 2<=i->i < k->Kp key p k < Kp key p i:=fun i h1 h2=>by
     rcases Nat.lt_or_ge ((l + r) / 2) i with z |z
     ·exact Int.lt_trans d (U _ _ z h2)
     ·have:i=(l + r) / 2:=by omega
      rw[this];exact d
    obtain⟨x,⟨e1,e2⟩,e3⟩:=place_spec P hi hk U f l ((l + r) / 2) (by omega) (by omega) (by omega) a side
    exact⟨x,⟨e1,b1,b2,e2⟩,e3⟩
   ·rw[show nt key (p.getD k 0) (p.getD ((l + r) / 2) 0)=false from decide_eq_false d]
    simp only[Bool.false_eq_true,if_false]
    have d':Kp key p ((l + r) / 2) < Kp key p k:=(P.tri hi (by omega) hk (by omega)).resolve_right d
    have side:∀i,i < (l + r) / 2 + 1->Kp key p i < Kp key p k:=fun i h=>by
     rcases Nat.lt_or_ge i ((l + r) / 2) with z |z
     ·exact Int.lt_trans (U _ _ z (by omega)) d'
     ·have:i=(l + r) / 2:=by omega
      rw[this];exact d'
    obtain⟨x,⟨e1,e2⟩,e3⟩:=place_spec P hi hk U f ((l + r) / 2 + 1) r (by omega) h2 (by omega) side b
    exact⟨x,⟨e1,b1,b2,e2⟩,e3⟩
theorem BC {p:Array Nat}{k l j:Nat}(hk:k < p.size)(hl:l<=k):(bubble p k (k - l)).getD j 0=if j=l then p.getD k 0 else if l < j/\j<=k then p.getD (j - 1) 0 else p.getD j 0:=by
 rw[Array.getD_eq_getD_getElem?,getElem?_bubble hk (k - l) (by omega) j,show k - (k - l)=l by omega]
 simp only[Array.getD_eq_getD_getElem?]
 split
 ·rfl
 ·split <;> rfl
theorem vn (hi:Inj n key):∀(f k:Nat) (p:Array Nat),Pm n p->1<=k->k + f=n->Up key p k->∃q,(jU (nt key) (kas_bin f p k)=q/\tG n (nt key) (kas_bin f p k))/\Pm n q/\Up key q n
 | 0,k,p,P,_,e,U=>⟨p,⟨rfl,trivial⟩,P,by rw[<-e];exact U⟩
 |f + 1,k,p,P,h1,e,U=>by
  have hk:k < n:=by omega
  obtain⟨l,⟨el,ol⟩,hl,a,b⟩:=place_spec P hi hk U k 0 k (Nat.zero_le _) (Nat.le_refl _) (by omega) (fun i h=>by omega) (fun i h h'=>by omega)
  have side:Up key (bubble p k (k - l)) (k + 1):=fun i j hij hj=>by
   have hks:k < p.size:=by rw[P.sz];exact hk
   unfold Kp
   rw[BC hks hl,BC hks hl]
   by_cases i1:i=l
   ·rw[if_pos i1,if_neg (by omega)]
    by_cases j2:l < j/\j<=k
    ·rw[if_pos j2];exact b _ (by omega) (by omega)
    ·omega
   ·rw[if_neg i1]
    by_cases i2:l < i/\i<=k
    ·rw[if_pos i2,if_neg (by omega),if_pos (by omega)]
     exact U _ _ (by omega) (by omega)
    ·rw[if_neg i2]
     by_cases j1:j=l
     ·rw[if_pos j1];exact a _ (by omega)
     ·rw[if_neg j1]
      by_cases j2:l < j/\j<=k
      ·rw[if_pos j2]
       rcases Nat.lt_or_ge i (j - 1) with z |z
       ·exact U _ _ z (by omega)
       ·omega
      ·rw[if_neg j2];exact U _ _ hij (by omega)
  obtain⟨q,⟨q1,q2⟩,q3⟩:=vn hi f (k + 1) (bubble p k (k - l)) (P.perm (bubble_perm ..)) (by omega) (by omega) side
  refine⟨q,⟨?_,?_⟩,q3⟩
  ·unfold kas_bin;rw[fm,el];exact q1
  ·unfold kas_bin;refine hG ol ?_;rw[el];exact q2
theorem za (hi:Inj n key)(h2:2<=n):∃q,(jU (nt key) (kas_sort n)=q/\tG n (nt key) (kas_sort n))/\Pm n q/\Up key q n:=by
 obtain⟨m,q,⟨e,o⟩,P,a,b,u⟩:=wa (tX n) hi (by omega)
 by_cases c:m < n
 ·obtain⟨q',⟨e1,o1⟩,r⟩:=vn hi (n - m) m q P a (by omega) u
  refine⟨q',⟨?_,?_⟩,r⟩
  ·unfold kas_sort;rw[fm,e];dsimp only;rw[if_pos c,Nat.max_eq_left a];exact e1
  ·unfold kas_sort;refine hG o ?_;rw[e];dsimp only;rw[if_pos c,Nat.max_eq_left a];exact o1
 ·refine⟨q,⟨?_,?_⟩,P,fun i j hij hj=>u i j hij (by omega)⟩
  ·unfold kas_sort;rw[fm,e];dsimp only;rw[if_neg c];rfl
  ·unfold kas_sort;refine hG o ?_;rw[e];dsimp only;rw[if_neg c];trivial
theorem wp_run {α:Type}{n:Nat}{lt:Nat->Nat->Bool}{cmp:Nat->Nat->(Bool->Shared->Prop)->Shared->Prop}{Q:α->Shared->Prop}{s:Shared} :
  ∀(t:KasT α),(∀i j C,i < n->j < n->C (lt i j) s->cmp i j C s)->tG n lt t->Q (jU lt t) s->t.kasWp cmp Q s
 | .ret a,_,_,h=>h
 | .ask i j k,hc,ho,h=>hc i j _ ho.1 ho.2.1 (wp_run (k (lt i j)) hc ho.2.2 h)
end
end L2.SO

end

section
namespace L2.ST
open PySem PySem.SetTable PySem.W PyProof.Rows
def code (p:Pr):Int:=p.1 * 8 + p.2
theorem yf {p q:Pr}(h1:Sm p)(h2:Sm q):code p < code q↔p.1 < q.1\/(p.1=q.1/\p.2 < q.2):=by
 unfold code Sm at *;omega
theorem code_inj {p q:Pr}(h1:Sm p)(h2:Sm q)(e:code p=code q):p=q:=by
 unfold code Sm at *
 refine Prod.ext ?_ ?_ <;> omega
section
variable {prog:Program}{w:World}{A:Around}{E:Value->Shared->Prop}{s:Shared}
abbrev p7 (ps:List Pr)(i:Nat):Int:=code (ps.getD i (0,0))
theorem AE {ps:List Pr}(nd:ps.Nodup)(hs:∀p,p∈ps->Sm p):L2.SO.Inj ps.length (p7 ps):=fun i j hi hj e=>by
 have a1:ps.getD i (0,0)=ps[i]:=by simp[hi]
 have a2:ps.getD j (0,0)=ps[j]:=by simp[hj]
 unfold p7 at e
 rw[a1,a2] at e
 have e':=code_inj (hs _ (List.getElem_mem hi)) (hs _ (List.getElem_mem hj)) e
 have q:=List.pairwise_iff_getElem.mp nd
 rcases Nat.lt_trichotomy i j with c |c |c
 ·exact absurd e' (q i j hi hj c)
 ·exact c
 ·exact absurd e'.symm (q j i hj hi c)
theorem DY {a b:Addr}{p q:Pr}{Q:Bool->Shared->Prop}(ha:bL prog w s.heap p a)(hb:bL prog w s.heap q b)(hp:Sm p)(hq:Sm q)(h:Q (decide (code p < code q)) s) :
  wpAny (model prog w) A (keyLt' (tuples' true) (.ref a) (.ref b)) Q E s:=by
 obtain⟨oa,ia,na,hoa,hca,hda,hia⟩:=ha
 obtain⟨ob,ib,nb,hob,hcb,hdb,hib⟩:=hb
 obtain⟨l1,rfl⟩:∃l,ia=List.toArray l:=⟨ia.toList,by simp⟩
 obtain⟨l2,rfl⟩:∃l,ib=List.toArray l:=⟨ib.toList,by simp⟩
 simp only[List.toList_toArray] at hia hib
 cases hia with
 | @cons _ v1 _ _ h1 hia=>
  cases hia with
  | @cons _ v2 _ _ h2 hia=>
   cases hia
   cases hib with
   | @cons _ u1 _ _ g1 hib=>
    cases hib with
    | @cons _ u2 _ _ g2 hib=>
     cases hib
     obtain⟨t1,rfl⟩:=Value.isInt_shape h1
     obtain⟨t2,rfl⟩:=Value.isInt_shape h2
     obtain⟨t3,rfl⟩:=Value.isInt_shape g1
     obtain⟨t4,rfl⟩:=Value.isInt_shape g2
     refine kat_lt hoa hda hob hdb ?_
     have hc:=yf hp hq
     refine kat_cons (wpAny_eqBool_int ?_)
     by_cases e1:p.1=q.1
     ·rw[show (p.1 == q.1)=true by simpa using e1]
      refine kat_yes (kat_cons (wpAny_eqBool_int ?_))
      by_cases e2:p.2=q.2
      ·rw[show (p.2 == q.2)=true by simpa using e2]
       refine kat_yes (kat_nil ?_)
       have:decide (code p < code q)=false:=decide_eq_false (by rw[hc];omega)
       rw[this] at h
       simpa using h
      ·rw[show (p.2 == q.2)=false by simpa using e2]
       refine kat_no ?_
       show wpAny _ _ (oneLt' false _ _) _ _ _
       refine kat_one _ _ (lt_int ?_)
       have:decide (code p < code q)=decide (p.2 < q.2):=by
        by_cases z:p.2 < q.2
        ·rw[decide_eq_true z];exact decide_eq_true (hc.mpr (.inr ⟨e1,z⟩))
        ·rw[decide_eq_false z];exact decide_eq_false (by rw[hc];omega)
       rw[this] at h;exact h
     ·rw[show (p.1 == q.1)=false by simpa using e1]
      refine kat_no ?_
      show wpAny _ _ (oneLt' true _ _) _ _ _
      refine oneLt_int ?_
      have:decide (code p < code q)=decide (p.1 < q.1):=by
       by_cases z:p.1 < q.1
       ·rw[decide_eq_true z];exact decide_eq_true (hc.mpr (.inl z))
       ·rw[decide_eq_false z];exact decide_eq_false (by rw[hc];omega)
      rw[this] at h;exact h
theorem xK:∀{vs:List Value} {ps:List Pr},c5 prog w s.heap vs ps->∃fs,KatTups s.heap vs fs/\fs.length=vs.length/\∀v∈fs,∃(i:Int) (t:Tok),v=.int i t
 | [],ps,_=>⟨[],KatTups.nil,rfl,fun v hv=>by cases hv⟩
 |v :: vs,[],h=>by have:=h.1;simp at this
 |v :: vs,p :: ps,h=>by
  obtain⟨a,rfl,⟨o,items,n,ho,hc,hd,hi⟩,_⟩:=h.2 0 v p rfl rfl
  obtain⟨fs,k,e,f⟩:=xK (vs:=vs) (ps:=ps) ⟨by simpa using h.1,fun i v p h1 h2=>h.2 (i + 1) v p (by simpa using h1) (by simpa using h2)⟩
  obtain⟨l1,rfl⟩:∃l,items=List.toArray l:=⟨items.toList,by simp⟩
  simp only[List.toList_toArray] at hi
  cases hi with
  | @cons _ v1 _ _ h1 hi=>
   obtain⟨t1,rfl⟩:=Value.isInt_shape h1
   exact⟨_ :: fs,KatTups.cons ho hc hd rfl k,by simp[e],fun v hv=>by
    rcases List.mem_cons.mp hv with z |z
    ·exact⟨_,_,z⟩
    ·exact f v z⟩
theorem uA {a:Addr}{vs:List Value}{ps:List Pr}{n:Nat}{P:PySem.Fin->Shared->Prop}(ho:s.heap.get? a=some (seqObj "list" vs.toArray n))(hps:c5 prog w s.heap vs ps)(nd:ps.Nodup)(h64:vs.length < 64)
  (h:∀(h':Heap) (c:Nat) (ix:Array Nat),L2.SO.Pm vs.length ix->L2.SO.Up (p7 ps) ix vs.length->(∀b o,b≠a->s.heap.get? b=some o->h'.get? b=some o)->
   h'.get? a=some (seqObj "list" (ix.toList.map fun i=>vs.getD i Value.none).toArray c)->P (.done (.ret .none)) {s with heap:=h'}) :
  wpAny (model prog w) A (Builtin.«list.sort» ⟨[.ref a],[]⟩) P E s:=by
 have ha:a < s.heap.objs.size:=Heap.lt_size ho
 obtain⟨e1,ho1⟩:∃e1,(s.heap.update a (Obj.mapSeq fun _=>(#[]:Array Value))).get? a=some (seqObj "list" #[] e1):=⟨_,get?_update_seq ho fun _=>#[]⟩
 generalize hH1:(s.heap.update a (Obj.mapSeq fun _=>(#[]:Array Value)))=H1 at ho1
 have sb1:Heap.SameBut a s.heap H1:=by rw[<-hH1];exact Heap.SameBut.update ..
 have kp2:∀b o,H1.get? b=some o->((H1.push (seqObj "tuple" vs.toArray 0)).push (seqObj "list" #[] 0)).get? b=some o:=fun b o e=>Heap.get?_push_of_some _ (Heap.get?_push_of_some _ e)
 generalize hH2:((H1.push (seqObj "tuple" vs.toArray 0)).push (seqObj "list" #[] 0))=H2 at kp2
 have kp:∀b o,b≠a->s.heap.get? b=some o->H2.get? b=some o:=fun b o hb e=>kp2 b o ((sb1.2 b hb).trans e)
 have ho2:=kp2 _ _ ho1
 have hps2:c5 prog w H2 vs ps:=⟨hps.1,fun i v p h1 h2=>by
  obtain⟨b,e,⟨o,it,m,hb,hc,hd,r⟩,hs⟩:=hps.2 i v p h1 h2
  refine⟨b,e,⟨o,it,m,kp b o (fun z=>?_) hb,hc,hd,r⟩,hs⟩
  subst z
  rw[ho] at hb;cases hb
  exact absurd hc (by simp[seqObj])⟩
 have hz:vs.length<=sizeLine:=by rw[sizeLine_eq];omega
 rw[list_sort_plain]
 refine wpAny_bind (listItems_at ho rfl (wpAny_bind (listUpdate_at ho rfl ?_ (by simpa using hz) (Nat.zero_le _))))
 rw[hH1]
 refine wpAny_bind (seqEpoch_at (s:={s with heap:=H1}) ho1 rfl (wpAny_bind (wpAny_newTuple ?_ (by simpa using hz))))
 refine wpAny_bind (wpAny_newList ?_ (Nat.zero_le _))
 refine wpAny_holding ?_
 show wpAny (model prog w) A _ P E {s with heap:=(H1.push (seqObj "tuple" vs.toArray 0)).push (seqObj "list" #[] 0)}
 rw[hH2]
 have fin:∀(ix:Array Nat) (st:SortSt),L2.SO.Pm vs.length ix->L2.SO.Up (p7 ps) ix vs.length->(arrOf st).map (·.2)=List.toArray (ix.toList.map fun i=>vs.getD i Value.none)->failedOf st=none->
   wpAny (model prog w) A (do
    let sorted:=(arrOf st).map (·.2)
    let touched:=(<-seqEpoch a) != e1
    Builtin.List.listUpdate (.ref a) fun _=>sorted
    if let some e:=failedOf st then rule "list.sort.comparison-raised";throw e
    if touched then rule "list.sort.modified";raiseError "ValueError" "list modified during sort"
    ret .none) P E {s with heap:=H2}:=fun ix st P1 U1 hout hf=>by
  dsimp only
  rw[hout]
  have hsz:(List.toArray (ix.toList.map fun i=>vs.getD i Value.none)).size=vs.length:=by simp[P1.sz]
  refine wpAny_bind (seqEpoch_at (s:={s with heap:=H2}) ho2 rfl ?_)
  refine wpAny_bind (listUpdate_at (s:={s with heap:=H2}) ho2 rfl ?_ (Nat.zero_le _) (Nat.le_trans (Nat.le_of_eq hsz) (Nat.le_succ_of_le hz)))
  rw[hf]
  simp only[bne_self_eq_false,Bool.false_eq_true,if_false]
  obtain⟨c2,hc2⟩:∃c2,(H2.update a (Obj.mapSeq fun _=>List.toArray (ix.toList.map fun i=>vs.getD i Value.none))).get? a=some (seqObj "list" (List.toArray (ix.toList.map fun i=>vs.getD i Value.none)) c2):=⟨_,get?_update_seq ho2 fun _=>List.toArray (ix.toList.map fun i=>vs.getD i Value.none)⟩
  exact wpAny_pure (h _ c2 ix P1 U1 (fun b o hb e=>((Heap.SameBut.update H2 a _).2 b hb).trans (kp b o hb e)) hc2)
 by_cases h2:vs.length < 2
 ·have h2':vs.toArray.size < 2:=by simpa using h2
  dsimp only
  rw[if_pos h2',if_pos h2']
  refine wpAny_bind (wpAny_pure ?_)
  rw[StateT.run_pure]
  refine wpAny_bind (wpAny_pure ?_)
  refine fin (List.toArray (List.range vs.length)) (SortSt.mk' general' (vs.toArray.zip vs.toArray) #[] 7 none) (L2.SO.tX _) (fun i j hij hj=>by omega) ?_ rfl
  have:∀{l:List Value},l.length < 2->((l.toArray.zip l.toArray).map (·.2))=List.toArray ((List.range l.length).map fun i=>l.getD i Value.none):=fun {l} hl=>by
   match l,hl with
   | [],_=>simp
   | [x],_=>simp
  exact (this h2).trans (by simp)
 ·have h2':¬vs.toArray.size < 2:=by simpa using h2
  dsimp only
  rw[if_neg h2',if_neg h2']
  obtain⟨fs,kt,fl,ff⟩:=xK (s:={s with heap:=H2}) hps2
  refine wpAny_bind (kat_kind (s:={s with heap:=H2}) (T:=.type "int") kt (by omega) (fun v hv=>?_) (by decide) ?_)
  ·obtain⟨i,t,rfl⟩:=ff v hv
   exact .now
  ·rw[show ((Value.type "int" != Value.type "tuple"):Bool)=true by decide]
   have hinj:L2.SO.Inj vs.length (p7 ps):=by
    rw[hps.1]
    refine AE nd fun p hp=>?_
    obtain⟨i,hi,e⟩:=List.mem_iff_getElem.mp hp
    have hi':i < vs.length:=by rw[hps.1];exact hi
    obtain⟨_,_,_,hs⟩:=hps.2 i vs[i] p (List.getElem?_eq_getElem hi') (by rw[List.getElem?_eq_getElem hi,e])
    exact hs
   obtain⟨ix,⟨er,ok⟩,P1,U1⟩:=L2.SO.za hinj (by omega)
   refine wpAny_bind (wpAny_mono (kat_run (s:={s with heap:=H2}) (κ:=tuples' true) (ks:=vs) (Q:=fun st s'=>s'={s with heap:=H2}/\arrOf st=ix.map (kas_item (vs.toArray.zip vs.toArray))/\failedOf st=none)
    (G:=fun p s'=>p=ix/\s'={s with heap:=H2}) rfl (by omega) h64 (fun p st s' a1 a2 a3 a4=>?_) (L2.SO.wp_run (n:=vs.length) (lt:=L2.SO.nt (p7 ps)) _ (fun i j C hi hj hC=>?_) ok ⟨er,rfl⟩)) ?_ fun _ _ x=>x)
   ·obtain⟨rfl,rfl⟩:=a4
    exact⟨rfl,a2,a3⟩
   ·unfold kas_ask
    have hi':i < ps.length:=by rw[<-hps.1];exact hi
    have hj':j < ps.length:=by rw[<-hps.1];exact hj
    obtain⟨b1,eb1,hb1,s1⟩:=hps2.2 i vs[i] ps[i] (List.getElem?_eq_getElem hi) (List.getElem?_eq_getElem hi')
    obtain⟨b2,eb2,hb2,s2⟩:=hps2.2 j vs[j] ps[j] (List.getElem?_eq_getElem hj) (List.getElem?_eq_getElem hj')
    have e1:vs.getD i Value.none=.ref b1:=by rw[<-eb1];simp[hi]
    have e2:vs.getD j Value.none=.ref b2:=by rw[<-eb2];simp[hj]
    rw[e1,e2]
    refine DY (s:={s with heap:=H2}) hb1 hb2 s1 s2 ?_
    have:L2.SO.nt (p7 ps) i j=decide (code ps[i] < code ps[j]):=by
     unfold L2.SO.nt p7;simp[hi',hj']
    rw[<-this];exact hC
   ·rintro⟨⟨⟩,st⟩ s' ⟨rfl,har,hf⟩
    exact fin ix st P1 U1 (kat_snds rfl har) hf
end
end L2.ST

end

section
namespace L2.ST
open PySem PySem.SetTable PySem.W PyProof.Rows
theorem bR:Slot "set_iterator" "__next__" "set_iterator.__next__":=
 Slot.of (owner:="set_iterator") (n:="__next__") (by rw[typeLookup_type,builtinLookup_eq_fast];kernel_rfl) (by decide +kernel) (by decide +kernel) (by decide +kernel) (by first |exact .inl (by decide +kernel) |exact .inr (by decide +kernel)) (by rw[isSubtype_type];kernel_rfl)
theorem i5:entryFor table "set_iterator.__next__"=some Builtin.«set_iterator.__next__»:=entryFor_of_tree (by kernel_rfl)
theorem jM (a:Value):argsOk "set_iterator.__next__" ⟨[a],[]⟩:=by unfold argsOk;kernel_rfl
theorem pQ:entryFor table "set.__iter__"=some Builtin.«frozenset.__iter__»:=entryFor_alias (id':="frozenset.__iter__") (by kernel_rfl) rfl (by decide +kernel) (by kernel_rfl)
theorem jP:Slot "set_iterator" "__iter__" "set_iterator.__iter__":=
 Slot.of (owner:="set_iterator") (n:="__iter__") (by rw[typeLookup_type,builtinLookup_eq_fast];kernel_rfl) (by decide +kernel) (by decide +kernel) (by decide +kernel) (by first |exact .inl (by decide +kernel) |exact .inr (by decide +kernel)) (by rw[isSubtype_type];kernel_rfl)
theorem mD:entryFor table "set_iterator.__iter__"=some Builtin.«dict_keyiterator.__iter__»:=entryFor_alias (id':="dict_keyiterator.__iter__") (by kernel_rfl) rfl (by decide +kernel) (by kernel_rfl)
theorem nI (a:Value):argsOk "set_iterator.__iter__" ⟨[a],[]⟩:=by unfold argsOk;kernel_rfl
theorem Dw (a:Addr)(slot given ep0:Nat):setNext a slot given ep0=(do
  let (es,epoch,t) <-setState a
  if (<-ask).params.followText "set-order" then
   if epoch != ep0 then unsupported "set_iterator.__next__:elements-changed"
   return ((<-setWalk a)[given]?).map fun e=>(e.2,slot)
  if !t.plain && es.size > 1 then unsupported "set_iterator.__next__:the-table-is-plain-no-more"
  let u:Unit <-(show Sem Unit from do if !t.led && !es.isEmpty then unsupported "set:maker-not-led")
  let i:=SetTable.below t.place slot
  return match es[i]?,t.place[i]? with
   |some (_,x),some j=>some (x,j + 1)
   |_,_=>none):=by
 unfold setNext setsByText
 simp only[bind_assoc,pure_bind]
 rfl
theorem Df (a:Addr):setWalk a=(do
  let (es,epoch,t) <-setState a
  if (<-ask).params.followText "set-order" then return pickOrder ((<-ask).params.setOrder a epoch) es
  if !t.plain && es.size > 1 then return (<-drawOrder es.size es.toList).toArray
  let u:Unit <-(show Sem Unit from do if !t.led && es.size > 1 then unsupported "set:maker-not-led")
  return es):=by
 unfold setWalk setsByText
 simp only[bind_assoc,pure_bind]
 rfl
theorem BK (a:Addr):setDrawn a=(do
  let (es,_,t) <-setState a
  let byText <-(do return (<-ask).params.followText "set-order")
  return !byText && (!t.plain && es.size > 1)):=rfl
theorem hU {α:Type}:∀(l:List α) (i:Nat) (h:i < l.length),(l[i] :: l.eraseIdx i).Perm l
 |a :: l,0,_=>List.Perm.refl _
 |a :: l,i + 1,h=>by
  have hi:i < l.length:=by simpa using h
  show (l[i] :: a :: l.eraseIdx i).Perm (a :: l)
  exact (List.Perm.swap ..).trans ((hU l i hi).cons a)
theorem qF {α:Type}(next:Nat->Nat):∀(fuel k:Nat) (left:List α) (out:Array α),left.length=fuel->(pickOrder.go next fuel k left out).toList.Perm (out.toList ++ left)
 | 0,k,left,out,h=>by
  have:left= []:=List.length_eq_zero_iff.mp h
  subst this
  unfold pickOrder.go
  simp
 |fuel + 1,k,left,out,h=>by
  unfold pickOrder.go
  have hlt:next k % left.length < left.length:=Nat.mod_lt _ (by omega)
  rw[List.getElem?_eq_getElem hlt]
  dsimp only
  refine (qF next fuel (k + 1) _ _ (by rw[List.length_eraseIdx_of_lt hlt];omega)).trans ?_
  rw[Array.toList_push,List.append_assoc]
  refine List.Perm.append_left _ ?_
  exact hU left _ hlt
theorem kg {α:Type}(next:Nat->Nat)(xs:Array α):(pickOrder next xs).toList.Perm xs.toList:=by
 have:=qF next xs.size 0 xs.toList #[] (by simp)
 simpa[pickOrder] using this
section
variable {prog:Program}{w:World}{A:Around}{E:Value->Shared->Prop}{s:Shared}
def told (w:World)(S:Addr)(ep:Nat)(es:Array (Int×Value)):Array (Int×Value):=if w.params.followText "set-order" then pickOrder (w.params.setOrder S ep) es else es
theorem ra (w:World)(S:Addr)(ep:Nat)(es:Array (Int×Value)):(told w S ep es).toList.Perm es.toList:=by
 unfold told;split
 ·exact kg _ _
 ·exact List.Perm.refl _
abbrev uw (S:Addr)(slot k n ep:Nat):Obj:={cls:=.type "set_iterator",data:=.fields #[.int (slot:Int) 0,.int (k:Int) 0,.ref S,.int (n:Int) 0,.int (ep:Int) 0]}
structure l6 (w:World)(S:Addr)(o:Obj)(es:Array (Int×Value))(ep:Nat)(t:SetTable)(I:Addr)(k:Nat)(h:Heap):Prop where
 set:h.get? S=some o
 data:o.data=.set es ep t
 cls:o.cls=.type "set"
 tab:Tab t (es.toList.map (·.1))
 led:t.led=fY w
 it:∃slot,h.get? I=some (uw S slot k es.size ep)/\(fY w=true->slot=if k=0 then 0 else t.place.getD (k - 1) 0 + 1)
theorem l6.fits {S I:Addr}{o:Obj}{es:Array (Int×Value)}{ep k:Nat}{t:SetTable}{h:Heap}(X:l6 w S o es ep t I k h):t.fits es.size=true:=oI X.tab (by simp)
theorem x6 {S I:Addr}{o:Obj}{es:Array (Int×Value)}{ep k slot:Nat}{t:SetTable}{Q:Option (Value×Nat)->Shared->Prop}(X:l6 w S o es ep t I k s.heap)(hk:k<=es.size)(hs:fY w=true->slot=if k=0 then 0 else t.place.getD (k - 1) 0 + 1)
  (h:∀(r:Option (Value×Nat)),(k < es.size->∃x nx,r=some (x,nx)/\(told w S ep es)[k]?.map (·.2)=some x/\(fY w=true->nx=t.place.getD k 0 + 1))->(k=es.size->r=none)->Q r s) :
  wpAny (model prog w) A (setNext S slot k ep) Q E s:=by
 rw[Dw]
 refine wpAny_bind (wpAny_setState_of X.set X.data X.fits ?_)
 dsimp only
 refine wpAny_bind (wpAny_askSetting ?_)
 dsimp only
 cases hb:w.params.followText "set-order" with
 |true=>
  rw[if_pos (show (model prog w).w.params.followText "set-order"=true from hb)]
  simp only[bne_self_eq_false,Bool.false_eq_true,if_false]
  rw[Df]
  refine wpAny_bind (wpAny_bind (wpAny_setState_of X.set X.data X.fits ?_))
  dsimp only
  refine wpAny_bind (wpAny_askSetting ?_)
  dsimp only
  rw[if_pos (show (model prog w).w.params.followText "set-order"=true from hb)]
  refine wpAny_bind (wpAny_askSetting (wpAny_pure (wpAny_pure ?_)))
  have et:told w S ep es=pickOrder (w.params.setOrder S ep) es:=by unfold told;rw[if_pos hb]
  have hsz:(pickOrder (w.params.setOrder S ep) es).size=es.size:=by
   have:=(kg (w.params.setOrder S ep) es).length_eq;simpa using this
  refine h _ (fun hlt=>?_) (fun e=>?_)
  ·have hlt':k < (pickOrder (w.params.setOrder S ep) es).size:=by rw[hsz];exact hlt
   refine⟨(pickOrder (w.params.setOrder S ep) es)[k].2,slot,?_,?_,fun z=>?_⟩
   ·show Option.map _ (pickOrder (w.params.setOrder S ep) es)[k]? =_
    rw[Array.getElem?_eq_getElem hlt'];rfl
   ·rw[et,Array.getElem?_eq_getElem hlt'];rfl
   ·unfold fY at z;rw[hb] at z;cases z
  ·show Option.map _ (pickOrder (w.params.setOrder S ep) es)[k]? =_
   rw[Array.getElem?_eq_none (by rw[hsz];omega)];rfl
 |false=>
  rw[if_neg (show ¬(model prog w).w.params.followText "set-order"=true by intro z;rw[show (model prog w).w.params.followText "set-order"=false from hb] at z;cases z)]
  have hl:fY w=true:=by unfold fY;rw[hb];rfl
  rw[X.tab.plain,X.led,hl]
  simp only[Bool.not_true,Bool.false_and,Bool.false_eq_true,if_false]
  have et:told w S ep es=es:=by unfold told;rw[hb];simp
  have hps:t.place.size=es.size:=by simpa using X.tab.size
  have hbl:below t.place slot=k:=by
   rw[hs hl]
   obtain⟨b1,b2,b3⟩:=dF X.tab.rise (if k=0 then 0 else t.place.getD (k - 1) 0 + 1)
   by_cases k0:k=0
   ·subst k0
    simp only[if_true] at b1 b2 b3 ⊢
    rcases Nat.eq_zero_or_pos (below t.place 0) with z |z
    ·exact z
    ·have:=b2 0 z;omega
   ·rw[if_neg k0] at b1 b2 b3 ⊢
    have hk1:k - 1 < t.place.size:=by omega
    rcases Nat.lt_trichotomy (below t.place (t.place.getD (k - 1) 0 + 1)) k with z |z |z
    ·have q:=b3 (k - 1) (by omega) hk1
     have e:t.place.getD (k - 1) (t.place.getD (k - 1) 0 + 1)=t.place.getD (k - 1) 0:=by simp[Array.getD,hk1]
     omega
    ·exact z
    ·have hks:k < t.place.size:=by omega
     have q:=b2 k z
     have e:t.place.getD k (t.place.getD (k - 1) 0 + 1)=t.place.getD k 0:=by simp[Array.getD,hks]
     have:=hW (d:=0) X.tab.rise (show k - 1 < k by omega) hks
     omega
  refine wpAny_pure ?_
  rw[hbl]
  refine h _ (fun hlt=>?_) (fun e=>?_)
  ·have hlt2:k < t.place.size:=by omega
   refine⟨es[k].2,t.place[k] + 1,?_,?_,fun _=>?_⟩
   ·rw[Array.getElem?_eq_getElem hlt,Array.getElem?_eq_getElem hlt2]
   ·rw[et,Array.getElem?_eq_getElem hlt];rfl
   ·simp[Array.getD,hlt2]
  ·rw[Array.getElem?_eq_none (by omega)]
theorem zF {S I:Addr}{o:Obj}{es:Array (Int×Value)}{ep:Nat}{t:SetTable}(hh:A.handled=none)(hne:S≠I) :
  Walks prog w A I [I,S] [I] es.size (fun i v=>(told w S ep es)[i]?.map (·.2)=some v) (fun i h=>l6 w S o es ep t I i h) where
 sub:=fun b hb=>List.mem_cons.mpr (.inl (List.mem_singleton.mp hb))
 frame:=fun i h h' X k=>by
  obtain⟨slot,e,r⟩:=X.it
  exact⟨k S (by simp) _ X.set,X.data,X.cls,X.tab,X.led,slot,k I (by simp) _ e,r⟩
 item:=fun i s Q E hi X hQ=>by
  obtain⟨slot,e,r⟩:=X.it
  have hT:s.TypeIs (.ref I) "set_iterator":=⟨_,e,rfl⟩
  unfold pyNext
  refine wpAny_bind (wpAny_attempt (wpAny_callSpecial?_slot (name:=Str.ofString "__next__") hT bR (wpAny_call_entry bR hT i5 ?_ (jM _))))
  unfold Builtin.«set_iterator.__next__»
  refine wpAny_bind (m:=slotArgs "__next__" 0 _) (wpAny_pure ?_)
  dsimp only
  unfold fieldsOf
  refine wpAny_bind (wpAny_bind (wpAny_load e (wpAny_pure ?_)))
  dsimp only
  unfold setEntries
  refine wpAny_bind (wpAny_bind (wpAny_setState_of X.set X.data X.fits (wpAny_pure ?_)))
  dsimp only
  rw[if_neg (by simp)]
  refine wpAny_bind ?_
  simp only[Int.toNat_natCast]
  refine x6 X (Nat.le_of_lt hi) r fun rr h1 _=>?_
  obtain⟨x,nx,rfl,h2,h3⟩:=h1 hi
  dsimp only
  refine wpAny_bind (wpAny_setField e rfl (by simp) ?_)
  have e2:=Heap.get?_update_self (Obj.mapFields fun vs=>vs.setIfInBounds 0 (rawInt (nx:Int))) e rfl
  refine wpAny_bind (wpAny_setField e2 rfl (by simp) ?_)
  refine wpAny_pure ⟨x,rfl,wpAny_pure ?_⟩
  have sb:=(Heap.SameBut.update s.heap I (Obj.mapFields fun vs=>vs.setIfInBounds 0 (rawInt (nx:Int)))).trans (Heap.SameBut.update _ I (Obj.mapFields fun vs=>vs.setIfInBounds 1 (rawInt ((i:Int) + 1))))
  refine hQ x _ _ h2 ⟨(sb.2 S hne).trans X.set,X.data,X.cls,X.tab,X.led,nx,?_,fun z=>?_⟩ fun b o hb eb=>(sb.2 b (by simpa using hb)).trans eb
  ·exact Heap.get?_update_self (Obj.mapFields fun vs=>vs.setIfInBounds 1 (rawInt ((i:Int) + 1))) e2 rfl
  ·rw[if_neg (by omega)];exact h3 z
 done:=fun s Q E X hQ=>by
  obtain⟨slot,e,r⟩:=X.it
  have hT:s.TypeIs (.ref I) "set_iterator":=⟨_,e,rfl⟩
  unfold pyNext
  refine wpAny_bind (wpAny_attempt (wpAny_callSpecial?_slot (name:=Str.ofString "__next__") hT bR (wpAny_call_entry bR hT i5 ?_ (jM _))))
  unfold Builtin.«set_iterator.__next__»
  refine wpAny_bind (m:=slotArgs "__next__" 0 _) (wpAny_pure ?_)
  dsimp only
  unfold fieldsOf
  refine wpAny_bind (wpAny_bind (wpAny_load e (wpAny_pure ?_)))
  dsimp only
  unfold setEntries
  refine wpAny_bind (wpAny_bind (wpAny_setState_of X.set X.data X.fits (wpAny_pure ?_)))
  dsimp only
  rw[if_neg (by simp)]
  refine wpAny_bind ?_
  simp only[Int.toNat_natCast]
  refine x6 X (Nat.le_refl _) r fun rr _ h1=>?_
  rw[h1 rfl]
  dsimp only
  refine wpAny_bind (wpAny_setField e rfl (by simp) ?_)
  (show wpAny _ _ (newExc (.type "StopIteration") [] >>= fun x=>raiseNew x) _ _ _)
  refine wpAny_bind ?_
  simp only[newExc,newTuple]
  (refine wpAny_bind (wpAny_newObj_type ?_ (by size_fits)))
  (refine wpAny_bind (m:=firstArgMember _ _) (wpAny_of_eq (a:=Value.none) (by first |rfl | (simp only[firstArgMember];rfl)) ?_))
  (refine wpAny_newObj_type ?_ (by size_fits))
  simp only[raiseNew]
  refine wpAny_bind (wpAny_handled ?_)
  (rw[show A.in1.handled=none from hh])
  refine wpAny_bind (wpAny_pure (wpAny_throw ?_))
  refine wpAny_bind (wpAny_isInstance (T:="StopIteration") (b:=true) ⟨_,Heap.get?_push_size _ rfl,rfl⟩ isSubtype_stop (wpAny_pure (hQ _ _ fun b o hb eb=>?_)))
  exact Heap.get?_push_of_some _ (Heap.get?_push_of_some _ (((Heap.SameBut.update ..).2 b (by simpa using hb)).trans eb))
 self:=fun i s Q E X hQ=>by
  obtain⟨slot,e,r⟩:=X.it
  have hT:s.TypeIs (.ref I) "set_iterator":=⟨_,e,rfl⟩
  refine wpAny_pyIter_slot hT jP (wpAny_call_entry jP hT mD ?_ (nI _))
  show wpAny _ _ (ret (.ref I)) _ _ s
  exact wpAny_pure ⟨_,rfl,"set_iterator",_,hT,bR.lookup,hQ⟩
theorem A4 {S:Addr}{o:Obj}{es:Array (Int×Value)}{ep:Nat}{t:SetTable}{Q:Value->Shared->Prop}(ho:s.heap.get? S=some o)(hd:o.data=.set es ep t)(hc:o.cls=.type "set")(T:Tab t (es.toList.map (·.1)))(hl:t.led=fY w)
  (h:Q (.ref s.heap.objs.size) {s with heap:=s.heap.push (uw S 0 0 es.size ep)}):wpAny (model prog w) A (pyIter (.ref S)) Q E s:=by
 have hT:s.TypeIs (.ref S) "set":=⟨o,ho,hc⟩
 have hf:t.fits es.size=true:=oI T (by simp)
 refine wpAny_pyIter_slot hT F.slot_set_iter (wpAny_call_entry F.slot_set_iter hT pQ ?_ (F.args_set_iter_1 _))
 unfold Builtin.«frozenset.__iter__» Builtin.Frozenset.slot0
 refine wpAny_bind (wpAny_bind (m:=slotArgs "__iter__" 0 _) (wpAny_pure (wpAny_pure ?_)))
 unfold Builtin.Frozenset.sizeOf setEntries
 refine wpAny_bind (wpAny_bind (wpAny_bind (wpAny_setState_of ho hd hf (wpAny_pure (wpAny_pure ?_)))))
 rw[BK]
 refine wpAny_bind (wpAny_bind (wpAny_setState_of ho hd hf ?_))
 dsimp only
 refine wpAny_bind (wpAny_bind (wpAny_askSetting (wpAny_pure (wpAny_pure ?_))))
 rw[T.plain]
 simp only[Bool.not_true,Bool.false_and,Bool.and_false,Bool.false_eq_true,if_false]
 refine wpAny_bind (wpAny_pure ?_)
 unfold setEpoch
 refine wpAny_bind (wpAny_bind (wpAny_setState_of ho hd hf (wpAny_pure ?_)))
 refine wpAny_bind (wpAny_newObj_type (wpAny_pure ⟨_,rfl,"set_iterator",_,⟨_,Heap.get?_push_size _ rfl,rfl⟩,bR.lookup,h⟩))
theorem uN {S:Addr}{o:Obj}{es:Array (Int×Value)}{ep:Nat}{t:SetTable}{Q:List Value->Shared->Prop}(hh:A.handled=none)(ho:s.heap.get? S=some o)(hd:o.data=.set es ep t)(hc:o.cls=.type "set")(T:Tab t (es.toList.map (·.1)))(hl:t.led=fY w)
  (hn:es.size<=64) (h:∀h' tk vs,vs=(told w S ep es).toList.map (·.2)->(∀b o,s.heap.get? b=some o->h'.get? b=some o)->Q vs {s with heap:=h',toks:=tk}):wpAny (model prog w) A (collect (.ref S)) Q E s:=by
 have hz:es.size<=sizeLine:=by rw[sizeLine_eq];omega
 unfold collect
 (refine wpAny_bind (wpAny_runValue (codeAny_builtin F.entry_proto_collect ?_)))
 (rw[Around.under_plainId F.plain_proto_collect _])
 show wpAny _ A.in1 (newList [] >>= fun l=>again (.builtin "list.__iadd__" ⟨[l,.ref S],[]⟩)) _ _ s
 refine wpAny_bind (wpAny_newObj_type ?_)
 (refine wpAny_pure ⟨plainId_quiet F.plain_list_iadd _,codeAny_builtin F.entry_list_iadd ?_⟩)
 (rw[Around.under_plainId F.plain_list_iadd _])
 show wpAny _ A.in1 (Builtin.List.listExtendWith (.ref s.heap.objs.size) (.ref S) (.ref s.heap.objs.size)) _ _ {s with heap:=s.heap.push (seqObj "list" #[] 0)}
 generalize hH:s.heap.push (seqObj "list" #[] 0)=H1
 have kp1:∀b o,s.heap.get? b=some o->H1.get? b=some o:=fun b o e=>by rw[<-hH];exact Heap.get?_push_of_some _ e
 have hD:H1.get? s.heap.objs.size=some (seqObj "list" #[] 0):=by rw[<-hH];exact Heap.get?_push_size _ rfl
 have hHs:H1.objs.size=s.heap.objs.size + 1:=by rw[<-hH];exact Heap.size_push ..
 have hSD:S≠s.heap.objs.size:=Nat.ne_of_lt (Heap.lt_size ho)
 have hT:Shared.TypeIs {s with heap:=H1} (.ref S) "set":=⟨o,kp1 _ _ ho,hc⟩
 unfold Builtin.List.listExtendWith
 refine wpAny_bind (wpAny_typeOf hT ?_)
 have h1:Builtin.List.listSameRef (.ref s.heap.objs.size) (.ref S)=false:=by simp[Builtin.List.listSameRef,Ne.symm hSD]
 have h2:(Value.type "set" == Value.type "list")=false:=by decide
 have h3:(Value.type "set" == Value.type "tuple")=false:=by decide
 rw[h1,h2,h3]
 simp only[Bool.or_false,Bool.false_eq_true,if_false]
 refine wpAny_bind (A4 (s:={s with heap:=H1}) (kp1 _ _ ho) hd hc T hl ?_)
 refine wpAny_bind (wpAny_holding ?_)
 unfold Builtin.List.listLengthHint
 have hT2:Shared.TypeIs {s with heap:=H1.push (uw S 0 0 es.size ep)} (.ref S) "set":=⟨o,Heap.get?_push_of_some _ (kp1 _ _ ho),hc⟩
 refine wpAny_bind (wpAny_specialOf hT2 F.slot_set_len.lookup ?_)
 wp_delta
 refine wpAny_bind (wpAny_isInstance hT2 (b:=true) (by rw[isSubtype_type];kernel_rfl) ?_)
 show wpAny _ A.in1 (typeOf (Value.ref S) >>= fun _=>_) _ _ _
 refine wpAny_bind (wpAny_typeOf hT2 ?_)
 refine wpAny_pure ?_
 show wpAny _ A.in1 (rule "list.extend.makes-room" >>= fun _=>Builtin.List.listTouch (.ref s.heap.objs.size) >>= fun _=>again (.builtin "list.extend.loop" ⟨[.ref s.heap.objs.size,.ref H1.objs.size,.ref s.heap.objs.size],[]⟩)) _ _ _
 refine wpAny_bind (wpAny_rule (wpAny_bind ?_))
 generalize hH2:H1.push (uw S 0 0 es.size ep)=H2
 have kp2:∀b o,H1.get? b=some o->H2.get? b=some o:=fun b o e=>by rw[<-hH2];exact Heap.get?_push_of_some _ e
 have hI:H2.get? H1.objs.size=some (uw S 0 0 es.size ep):=by rw[<-hH2];exact Heap.get?_push_size _ rfl
 have hS0:=kp2 _ _ hD
 show wpAny _ A.in1 (updateSeq s.heap.objs.size (·.push .none) >>= fun _=>updateSeq s.heap.objs.size (·.pop)) _ _ _
 refine wpAny_bind (wpAny_updateSeq (s:={s with heap:=H2}) hS0 rfl ?_)
 have hS2:=Heap.get?_update_self (Obj.mapSeq (·.push Value.none)) hS0 rfl
 refine wpAny_updateSeq (hz:=by seq_fits) hS2 rfl ?_
 have hS3:=Heap.get?_update_self (Obj.mapSeq (·.pop)) hS2 rfl
 have oth:∀b o,b≠s.heap.objs.size->H2.get? b=some o->((H2.update s.heap.objs.size (Obj.mapSeq (·.push Value.none))).update s.heap.objs.size (Obj.mapSeq (·.pop))).get? b=some o:=fun b o hb e=>
  ((Heap.SameBut.update _ s.heap.objs.size (Obj.mapSeq (·.pop))).2 b hb).trans (((Heap.SameBut.update H2 s.heap.objs.size (Obj.mapSeq (·.push Value.none))).2 b hb).trans e)
 have hIS:S≠H1.objs.size:=by rw[hHs];exact Nat.ne_of_lt (Nat.lt_succ_of_lt (Heap.lt_size ho))
 have hID:H1.objs.size≠s.heap.objs.size:=by rw[hHs];exact Nat.succ_ne_self _
 have hDf:s.heap.objs.size∉ [H1.objs.size,S]:=fun z=>by
  rcases List.mem_cons.mp z with e |z
  ·exact hID e.symm
  ·exact hSD (List.mem_singleton.mp z).symm
 have X0:l6 w S o es ep t H1.objs.size 0 ((H2.update s.heap.objs.size (Obj.mapSeq (·.push Value.none))).update s.heap.objs.size (Obj.mapSeq (·.pop))):=
  ⟨oth _ _ hSD (kp2 _ _ (kp1 _ _ ho)),hd,hc,T,hl,0,oth _ _ hID hI,fun _=>rfl⟩
 refine wpAny_pure ⟨plainId_quiet F.plain_extend_loop _,codeAny_extend_loopS (zF (A:=A.in1) (o:=o) (t:=t) hh hIS).toS hz _ hDf _ es.size 0 _ _ _ rfl (Nat.zero_le _) X0 hS3 (ItemsOf.nil _) fun s' acc' c' hm hS' hacc=>?_⟩
 show wpAny _ A (load s.heap.objs.size >>= fun _=>_) _ _ s'
 refine wpAny_bind (wpAny_load hS' (wpAny_pure ?_))
 obtain⟨h',g',d',tk',os'⟩:=s'
 have eg:g'=s.gens:=hm.gens
 have ed:d'=s.drawn:=hm.drawn
 have eo:os'=s.os:=hm.os
 subst eg ed eo
 refine h h' tk' acc'.toList ?_ fun b ob e=>hm.heap b ob (fun hb=>?_) (oth b ob (Nat.ne_of_lt (Heap.lt_size e)) (kp2 _ _ (kp1 _ _ e)))
 ·have hts:(told w S ep es).size=es.size:=by have:=(ra w S ep es).length_eq;simpa using this
  apply List.ext_getElem?
  intro i
  rw[List.getElem?_map]
  by_cases hi:i < es.size
  ·have hi1:i < acc'.size:=by rw[hacc.1];exact hi
   have q:=hacc.2 i acc'[i] (Array.getElem?_eq_getElem hi1)
   rw[Array.getElem?_toList,Array.getElem?_toList,Array.getElem?_eq_getElem hi1]
   exact q.symm
  ·rw[Array.getElem?_toList,Array.getElem?_toList,Array.getElem?_eq_none (by rw[hacc.1];omega),Array.getElem?_eq_none (by omega)];rfl
 ·have hlt:=Heap.lt_size e
  rcases List.mem_cons.mp hb with z |z
  ·rw[z] at hlt;exact Nat.lt_irrefl _ hlt
  ·rw[List.mem_singleton.mp z,hHs] at hlt;exact absurd hlt (Nat.not_lt.mpr (Nat.le_succ _))
end
end L2.ST

end

section
namespace OM
abbrev Pr:=Int×Int
def DN (p q:Pr):Prop:=p.1 < q.1\/(p.1=q.1/\p.2 < q.2)
theorem jk (p:Pr):¬DN p p:=by unfold DN;omega
theorem yR {p q r:Pr}(a:DN p q)(b:DN q r):DN p r:=by unfold DN at *;omega
abbrev tV (l:List Pr):Prop:=l.Pairwise DN
theorem gC:∀{l m:List Pr},tV l->tV m->(∀x,x∈l↔x∈m)->l=m
 | [],[],_,_,_=>rfl
 | [],b :: m,_,_,h=>absurd ((h b).mpr (List.mem_cons_self ..)) (by simp)
 |a :: l,[],_,_,h=>absurd ((h a).mp (List.mem_cons_self ..)) (by simp)
 |a :: l,b :: m,hl,hm,h=>by
  have hl':=List.pairwise_cons.mp hl
  have hm':=List.pairwise_cons.mp hm
  have e:a=b:=by
   rcases List.mem_cons.mp ((h a).mp (List.mem_cons_self ..)) with e |e
   ·exact e
   ·rcases List.mem_cons.mp ((h b).mpr (List.mem_cons_self ..)) with e' |e'
    ·exact e'.symm
    ·exact absurd (yR (hm'.1 a e) (hl'.1 b e')) (jk _)
  subst e
  congr 1
  refine gC hl'.2 hm'.2 fun x=>⟨fun hx=>?_,fun hx=>?_⟩
  ·rcases List.mem_cons.mp ((h x).mp (List.mem_cons_of_mem _ hx)) with e |e
   ·subst e;exact absurd (hl'.1 x hx) (jk _)
   ·exact e
  ·rcases List.mem_cons.mp ((h x).mpr (List.mem_cons_of_mem _ hx)) with e |e
   ·subst e;exact absurd (hm'.1 x hx) (jk _)
   ·exact e
theorem iR {l:List Pr}(h:tV l):l.Nodup:=h.imp fun {a b} hab e=>by subst e;exact jk _ hab
theorem g7 {l:List Pr}(p:Pr->Bool)(h:tV l):tV (l.filter p):=h.sublist List.filter_sublist
def bM (n:Nat):List Pr:=(List.range (n * n)).map fun k=>(((k / n:Nat):Int),((k % n:Nat):Int))
theorem bt {n:Nat}{p:Pr}:p∈bM n↔(0<=p.1/\p.1 < n)/\(0<=p.2/\p.2 < n):=by
 unfold bM
 rw[List.mem_map]
 constructor
 ·rintro⟨k,hk,rfl⟩
  have hk:=List.mem_range.mp hk
  have hn:0 < n:=by
   rcases Nat.eq_zero_or_pos n with e |e
   ·subst e;omega
   ·exact e
  have h1:k / n < n:=Nat.div_lt_of_lt_mul hk
  have h2:k % n < n:=Nat.mod_lt _ hn
  generalize k / n=q at h1
  generalize k % n=r at h2
  exact⟨⟨Int.natCast_nonneg _,by dsimp only;omega⟩,⟨Int.natCast_nonneg _,by dsimp only;omega⟩⟩
 ·rintro⟨⟨a0,a1⟩,⟨b0,b1⟩⟩
  have hn:0 < n:=by omega
  refine⟨p.1.toNat * n + p.2.toNat,List.mem_range.mpr ?_,?_⟩
  ·have h1:p.1.toNat + 1<=n:=by omega
   have h2:p.2.toNat < n:=by omega
   have:=Nat.mul_le_mul_right n h1
   rw[Nat.add_mul] at this
   omega
  ·have h2:p.2.toNat < n:=by omega
   have e1:(p.1.toNat * n + p.2.toNat) / n=p.1.toNat:=by
    rw[Nat.mul_comm,Nat.mul_add_div hn,Nat.div_eq_of_lt h2];rfl
   have e2:(p.1.toNat * n + p.2.toNat) % n=p.2.toNat:=by
    rw[Nat.mul_comm,Nat.mul_add_mod,Nat.mod_eq_of_lt h2]
   rw[e1,e2]
   refine Prod.ext ?_ ?_ <;> dsimp only <;> omega
theorem jb (n:Nat):tV (bM n):=by
 unfold bM
 refine List.pairwise_map.mpr (List.Pairwise.imp_of_mem ?_ List.pairwise_lt_range)
 intro a b ha hb hab
 have ha:=List.mem_range.mp ha
 have hb:=List.mem_range.mp hb
 have hn:0 < n:=by
  rcases Nat.eq_zero_or_pos n with e |e
  ·subst e;omega
  ·exact e
 have h1:a / n<=b / n:=Nat.div_le_div_right (Nat.le_of_lt hab)
 have e1:=Nat.div_add_mod a n
 have e2:=Nat.div_add_mod b n
 unfold DN
 dsimp only
 rcases Nat.lt_or_ge (a / n) (b / n) with c |c
 ·left;omega
 ·right
  have e:a / n=b / n:=by omega
  rw[e] at e1
  omega
open Classical in
noncomputable def b9 (n:Nat)(R:Int->Int->Prop):List Pr:=(bM n).filter fun p=>decide (R p.1 p.2)
theorem bc {n:Nat}{R:Int->Int->Prop}{p:Pr}:p∈b9 n R↔((0<=p.1/\p.1 < n)/\(0<=p.2/\p.2 < n))/\R p.1 p.2:=by
 unfold b9
 rw[List.mem_filter,bt]
 simp
theorem dh (n:Nat)(R:Int->Int->Prop):tV (b9 n R):=g7 _ (jb n)
theorem wN {n:Nat}{R S:Int->Int->Prop}(h:∀a b:Int,0<=a->a < n->0<=b->b < n->(R a b↔S a b)):b9 n R=b9 n S:=by
 refine gC (dh n R) (dh n S) fun x=>?_
 rw[bc,bc]
 constructor
 ·rintro⟨⟨⟨a,b⟩,c,d⟩,r⟩;exact⟨⟨⟨a,b⟩,c,d⟩,(h _ _ a b c d).mp r⟩
 ·rintro⟨⟨⟨a,b⟩,c,d⟩,r⟩;exact⟨⟨⟨a,b⟩,c,d⟩,(h _ _ a b c d).mpr r⟩
def Wn (n:Nat)(l:List Pr):Prop:=∀p,p∈l->(0<=p.1/\p.1 < n)/\(0<=p.2/\p.2 < n)
abbrev Mem (l:List Pr)(a b:Int):Prop:=(a,b)∈l
theorem yD {n:Nat}{l:List Pr}(w:Wn n l)(r:tV l):b9 n (Mem l)=l:=by
 refine gC (dh n _) r fun x=>?_
 rw[bc]
 exact⟨fun h=>h.2,fun h=>⟨w x h,h⟩⟩
theorem rL (n:Nat)(R:Int->Int->Prop):Wn n (b9 n R):=fun _ h=>(bc.mp h).1
theorem Cp (n:Nat)(R:Int->Int->Prop):(b9 n R).length<=n * n:=by
 unfold b9
 refine Nat.le_trans (List.length_filter_le ..) ?_
 unfold bM;simp
inductive Tr (R:Int->Int->Prop):Int->Int->Prop
 |one {a b}:R a b->Tr R a b
 |more {a b c}:R a b->Tr R b c->Tr R a c
theorem Tr.trans {R:Int->Int->Prop}{a b c:Int}(h:Tr R a b)(k:Tr R b c):Tr R a c:=by
 induction h with
 |one r=>exact .more r k
 |more r _ ih=>exact .more r (ih k)
theorem Tr.least {R S:Int->Int->Prop}(f:∀a b,R a b->S a b)(t:∀a b c,S a b->S b c->S a c){a b:Int}(h:Tr R a b):S a b:=by
 induction h with
 |one r=>exact f _ _ r
 |more r _ ih=>exact t _ _ _ (f _ _ r) ih
structure Ord (n:Nat)(l:List Pr):Prop where
 lo:1<=n
 hi:n<=8
 wn:Wn n l
 ris:tV l
 irr:∀a,(a,a)∉l
 tr:∀a b c,(a,b)∈l->(b,c)∈l->(a,c)∈l
theorem Ord.tr_mem {n:Nat}{l:List Pr}(O:Ord n l){a b:Int}:Tr (Mem l) a b↔(a,b)∈l:=
 ⟨fun h=>h.least (fun _ _ r=>r) fun a b c=>O.tr a b c,fun h=>.one h⟩
theorem Ord.closed {n:Nat}{l:List Pr}(O:Ord n l):b9 n (Tr (Mem l))=l:=by
 rw[wN (S:=Mem l) fun a b _ _ _ _=>O.tr_mem,yD O.wn O.ris]
theorem Gh {n:Nat}{l:List Pr}(h1:1<=n)(h8:n<=8)(w:Wn n l)(hr:∀a,¬Tr (Mem l) a a):Ord n (b9 n (Tr (Mem l))):=
 ⟨h1,h8,rL n _,dh n _,fun a h=>hr a (bc.mp h).2,fun a b c h k=>bc.mpr ⟨⟨(bc.mp h).1.1,(bc.mp k).1.2⟩,(bc.mp h).2.trans (bc.mp k).2⟩⟩
theorem o4 {l m:List Pr}(hl:l.Nodup)(h:∀x,x∈l->x∈m):l.length<=m.length:=by
 induction l generalizing m with
 |nil=>exact Nat.zero_le _
 |cons a l ih=>
  have ha:=h a (List.mem_cons_self ..)
  have hl':=List.nodup_cons.mp hl
  have:=ih (m:=m.erase a) hl'.2 fun x hx=>by
   refine (List.mem_erase_of_ne ?_).mpr (h x (List.mem_cons_of_mem _ hx))
   rintro rfl;exact hl'.1 hx
  rw[List.length_erase_of_mem ha] at this
  have:0 < m.length:=List.length_pos_of_mem ha
  simp only[List.length_cons];omega
theorem sub_eq {l m:List Pr}(hl:tV l)(hm:tV m)(h:∀x,x∈l->x∈m)(e:l.length=m.length):l=m:=by
 refine gC hl hm fun x=>⟨h x,fun hx=>Classical.byContradiction fun hn=>?_⟩
 have:=o4 (l:=x :: l) (m:=m) (List.nodup_cons.mpr ⟨hn,iR hl⟩) fun y hy=>by
  rcases List.mem_cons.mp hy with e |e
  ·subst e;exact hx
  ·exact h y e
 simp only[List.length_cons] at this
 omega
def more (l:List Pr):List Pr:=l.flatMap fun p=>(l.filter fun q=>decide (q.1=p.2)).map fun q=>(p.1,q.2)
theorem oM {l:List Pr}{x:Pr}:x∈more l↔∃b,(x.1,b)∈l/\(b,x.2)∈l:=by
 unfold more
 rw[List.mem_flatMap]
 constructor
 ·rintro⟨p,hp,hx⟩
  obtain⟨q,hq,rfl⟩:=List.mem_map.mp hx
  obtain⟨hq,e⟩:=List.mem_filter.mp hq
  have e:q.1=p.2:=by simpa using e
  exact⟨p.2,hp,by rw[<-e];exact hq⟩
 ·rintro⟨b,h1,h2⟩
  exact⟨(x.1,b),h1,List.mem_map.mpr ⟨(b,x.2),List.mem_filter.mpr ⟨h2,by simp⟩,rfl⟩⟩
noncomputable def kf (n:Nat)(l:List Pr):List Pr:=b9 n (Mem (l ++ more l))
structure Ez (n:Nat)(ps l:List Pr):Prop where
 wn:Wn n l
 ris:tV l
 sub:∀x,x∈ps->x∈l
 sup:∀x,x∈l->Tr (Mem ps) x.1 x.2
theorem zh {n:Nat}{ps:List Pr}(w:Wn n ps):Ez n ps (b9 n (Mem ps)):=
 ⟨rL n _,dh n _,fun x hx=>bc.mpr ⟨w x hx,hx⟩,fun _ hx=>.one (bc.mp hx).2⟩
theorem AR {n:Nat}{ps l:List Pr}(B:Ez n ps l):Wn n (l ++ more l):=fun x hx=>by
 rcases List.mem_append.mp hx with h |h
 ·exact B.wn x h
 ·obtain⟨b,h1,h2⟩:=oM.mp h
  exact⟨(B.wn _ h1).1,(B.wn _ h2).2⟩
theorem ua {n:Nat}{ps l:List Pr}(B:Ez n ps l):Ez n ps (kf n l)/\∀x,x∈l->x∈kf n l:=by
 have hs:∀x,x∈l->x∈kf n l:=fun x hx=>bc.mpr ⟨B.wn x hx,List.mem_append_left _ hx⟩
 refine⟨⟨rL n _,dh n _,fun x hx=>hs x (B.sub x hx),fun x hx=>?_⟩,hs⟩
 rcases List.mem_append.mp (bc.mp hx).2 with h |h
 ·exact B.sup _ h
 ·obtain⟨b,h1,h2⟩:=oM.mp h
  exact (B.sup _ h1).trans (B.sup _ h2)
theorem Bz {n:Nat}{ps l:List Pr}(B:Ez n ps l)(e:(kf n l).length=l.length):kf n l=b9 n (Tr (Mem ps)):=by
 obtain⟨B2,hs⟩:=ua B
 have q:l=kf n l:=sub_eq B.ris B2.ris hs e.symm
 refine gC B2.ris (dh n _) fun x=>⟨fun h=>bc.mpr ⟨B2.wn x h,B2.sup x h⟩,fun h=>?_⟩
 rw[<-q]
 have tr:∀a b c:Int,(a,b)∈l->(b,c)∈l->(a,c)∈l:=fun a b c h1 h2=>by
  rw[q]
  exact bc.mpr ⟨⟨(B.wn _ h1).1,(B.wn _ h2).2⟩,List.mem_append_right _ (oM.mpr ⟨b,h1,h2⟩)⟩
 exact (bc.mp h).2.least (S:=Mem l) (fun a b r=>B.sub _ r) tr
abbrev Tb:=Nat->Nat->Bool
def Tb.set (M:Tb)(a b:Nat):Tb:=fun x y=>if x=a/\y=b then true else M x y
def DP (M:Tb)(m:Nat):Prop:=∀k a b,k < m->M a k=true->M k b=true->M a b=true
def Phase (M0 M:Tb)(m:Nat)(D:Nat->Nat->Prop):Prop:=∀a b,M a b=true↔M0 a b=true\/(D a b/\M0 a m=true/\M0 m b=true)
theorem Phase.start (M:Tb)(m:Nat):Phase M M m fun _ _=>False:=fun a b=>by simp
theorem Phase.row {M0 M:Tb}{m:Nat}{D:Nat->Nat->Prop}(P:Phase M0 M m D)(a:Nat):M a m=true↔M0 a m=true:=by
 rw[P]
 exact⟨fun h=>h.elim id fun h=>h.2.1,.inl⟩
theorem Phase.col {M0 M:Tb}{m:Nat}{D:Nat->Nat->Prop}(P:Phase M0 M m D)(b:Nat):M m b=true↔M0 m b=true:=by
 rw[P]
 exact⟨fun h=>h.elim id fun h=>h.2.2,.inl⟩
theorem Phase.step {M0 M:Tb}{m:Nat}{D:Nat->Nat->Prop}(P:Phase M0 M m D)(x y:Nat) :
  Phase M0 (if M x m=true/\M m y=true then M.set x y else M) m (fun a b=>D a b\/(a=x/\b=y)):=fun a b=>by
 have r:=P.row x
 have c:=P.col y
 by_cases h:M x m=true/\M m y=true
 ·rw[if_pos h]
  unfold Tb.set
  by_cases e:a=x/\b=y
  ·rw[if_pos e]
   obtain⟨rfl,rfl⟩:=e
   simp only[true_iff]
   exact .inr ⟨.inr (by simp),r.mp h.1,c.mp h.2⟩
  ·rw[if_neg e,P]
   constructor
   ·rintro (q | ⟨d,q⟩)
    ·exact .inl q
    ·exact .inr ⟨.inl d,q⟩
   ·rintro (q | ⟨d |d,q⟩)
    ·exact .inl q
    ·exact .inr ⟨d,q⟩
    ·exact absurd d e
 ·rw[if_neg h,P]
  constructor
  ·rintro (q | ⟨d,q⟩)
   ·exact .inl q
   ·exact .inr ⟨.inl d,q⟩
  ·rintro (q | ⟨d | ⟨rfl,rfl⟩,q1,q2⟩)
   ·exact .inl q
   ·exact .inr ⟨d,q1,q2⟩
   ·exact absurd ⟨r.mpr q1,c.mpr q2⟩ h
theorem Phase.done {M0 M:Tb}{m n:Nat}{D:Nat->Nat->Prop}(P:Phase M0 M m D)(hD:∀a b,a < n->b < n->D a b)(hM:∀a b,M0 a b=true->a < n/\b < n)(T:DP M0 m) :
  DP M (m + 1)/\∀a b,M a b=true->a < n/\b < n:=by
 have hM':∀a b,M a b=true->a < n/\b < n:=fun a b h=>by
  rcases (P a b).mp h with q | ⟨_,q1,q2⟩
  ·exact hM a b q
  ·exact⟨(hM _ _ q1).1,(hM _ _ q2).2⟩
 have put:∀a b,M0 a m=true->M0 m b=true->M a b=true:=fun a b h1 h2=>(P a b).mpr (.inr ⟨hD a b (hM _ _ h1).1 (hM _ _ h2).2,h1,h2⟩)
 refine⟨fun k a b hk h1 h2=>?_,hM'⟩
 rcases Nat.lt_or_ge k m with c |c
 ·rcases (P a k).mp h1 with q1 | ⟨_,q1,q1'⟩
  ·rcases (P k b).mp h2 with q2 | ⟨_,q2,q2'⟩
   ·exact (P a b).mpr (.inl (T k a b c q1 q2))
   ·exact put a b (T k a m c q1 q2) q2'
  ·rcases (P k b).mp h2 with q2 | ⟨_,q2,q2'⟩
   ·exact put a b q1 (T k m b c q1' q2)
   ·exact put a b q1 q2'
 ·have e:k=m:=by omega
  subst e
  exact put a b ((P.row a).mp h1) ((P.col b).mp h2)
structure Tab (n:Nat)(ps:List Pr)(M:Tb):Prop where
 inn:∀a b,M a b=true->a < n/\b < n
 sub:∀a b:Nat,((a:Int),(b:Int))∈ps->M a b=true
 sup:∀a b:Nat,M a b=true->Tr (Mem ps) a b
theorem Tab.phase {n:Nat}{ps:List Pr}{M0 M:Tb}{m:Nat}{D:Nat->Nat->Prop}(T:Tab n ps M0)(P:Phase M0 M m D):Tab n ps M:=
 ⟨fun a b h=>by
  rcases (P a b).mp h with q | ⟨_,q1,q2⟩
  ·exact T.inn a b q
  ·exact⟨(T.inn _ _ q1).1,(T.inn _ _ q2).2⟩,
  fun a b h=>(P a b).mpr (.inl (T.sub a b h)),
  fun a b h=>by
  rcases (P a b).mp h with q | ⟨_,q1,q2⟩
  ·exact T.sup a b q
  ·exact (T.sup _ _ q1).trans (T.sup _ _ q2)⟩
theorem Tab.all {n:Nat}{ps:List Pr}{M:Tb}(w:Wn n ps)(T:Tab n ps M)(H:DP M n)(a b:Nat):M a b=true↔Tr (Mem ps) a b:=by
 refine⟨T.sup a b,fun h=>?_⟩
 have key:∀{x y:Int},Tr (Mem ps) x y->M x.toNat y.toNat=true:=fun {x y} h=>by
  induction h with
  | @one x y r=>
   have:=w _ r
   refine T.sub _ _ ?_
   have e1:((x.toNat:Nat):Int)=x:=by simp only at this;omega
   have e2:((y.toNat:Nat):Int)=y:=by simp only at this;omega
   rw[e1,e2];exact r
  | @more x y z r _ ih=>
   have:=w _ r
   have e1:((x.toNat:Nat):Int)=x:=by simp only at this;omega
   have e2:((y.toNat:Nat):Int)=y:=by simp only at this;omega
   have q:M x.toNat y.toNat=true:=T.sub _ _ (by rw[e1,e2];exact r)
   exact H y.toNat _ _ (T.inn _ _ q).2 q ih
 have:=key h
 simpa using this
end OM

end

section
namespace L2.ST
open PySem PySem.SetTable PySem.W PyProof.Rows
section
variable {prog:Program}{w:World}{A:Around}{E:Value->Shared->Prop}{s:Shared}
theorem Fp {ps:List Pr}(hs:∀p,p∈ps->Sm p){ix:Array Nat}(P:L2.SO.Pm ps.length ix)(U:L2.SO.Up (p7 ps) ix ps.length):OM.tV (ix.toList.map fun i=>ps.getD i (0,0)):=by
 refine List.pairwise_map.mpr (List.pairwise_iff_getElem.mpr fun i j hi hj hij=>?_)
 have hi':i < ix.size:=by simpa using hi
 have hj':j < ix.size:=by simpa using hj
 have q:=U i j hij (by rw[<-P.sz];exact hj')
 unfold L2.SO.Kp p7 at q
 have ei:ix.getD i 0=ix.toList[i]:=by simp[Array.getD,hi']
 have ej:ix.getD j 0=ix.toList[j]:=by simp[Array.getD,hj']
 rw[ei,ej] at q
 have ai:ix.toList[i] < ps.length:=P.lt _ (by simp)
 have aj:ix.toList[j] < ps.length:=P.lt _ (by simp)
 have bi:Sm (ps.getD ix.toList[i] (0,0)):=by rw[List.getD_eq_getElem?_getD,List.getElem?_eq_getElem ai];exact hs _ (List.getElem_mem ai)
 have bj:Sm (ps.getD ix.toList[j] (0,0)):=by rw[List.getD_eq_getElem?_getD,List.getElem?_eq_getElem aj];exact hs _ (List.getElem_mem aj)
 exact (yf bi bj).mp q
theorem Gr {n:Nat}{ix:Array Nat}(P:L2.SO.Pm n ix){k:Nat}(hk:k < n):k∈ix.toList:=by
 refine Classical.byContradiction fun hn=>?_
 have:=bC (l:=k :: ix.toList) (m:=List.range n) (List.nodup_cons.mpr ⟨hn,P.nd⟩) fun x hx=>by
  rcases List.mem_cons.mp hx with e |e
  ·rw[e];exact List.mem_range.mpr hk
  ·exact List.mem_range.mpr (P.lt x (by simpa using e))
 simp[P.sz] at this
 omega
theorem HB {h:Heap}{vs:List Value}{ps:List Pr}(hps:c5 prog w h vs ps){ix:Array Nat}(P:L2.SO.Pm vs.length ix) :
  c5 prog w h (ix.toList.map fun i=>vs.getD i Value.none) (ix.toList.map fun i=>ps.getD i (0,0)):=by
 refine⟨by simp,fun i v p h1 h2=>?_⟩
 rw[List.getElem?_map] at h1 h2
 cases e:ix.toList[i]? with
 |none=>rw[e] at h1;cases h1
 |some k=>
  rw[e] at h1 h2
  have hk:k < vs.length:=P.lt k (by simpa using List.mem_of_getElem? e)
  have hk':k < ps.length:=by rw[<-hps.1];exact hk
  simp[hk,hk'] at h1 h2
  exact hps.2 k v p (by rw[List.getElem?_eq_getElem hk,h1]) (by rw[List.getElem?_eq_getElem hk',h2])
theorem zp {v:Value}{vs:List Value}{ps:List Pr}{Q:Value->Shared->Prop}(hps:c5 prog w s.heap vs ps)(nd:ps.Nodup)(h64:vs.length < 64)
  (hcol:∀(Q':List Value->Shared->Prop),(∀h' tk,(∀b o,s.heap.get? b=some o->h'.get? b=some o)->Q' vs {s with heap:=h',toks:=tk})->wpAny (model prog w) A.in1 (collect v) Q' (fun e s'=>E e s') s)
  (h:∀(h1 h':Heap) (tk:Nat) (D:Addr) (out:List Value) (qs:List Pr) (c:Nat),(∀b o,s.heap.get? b=some o->h1.get? b=some o)->D=h1.objs.size->(∀b o,h1.get? b=some o->h'.get? b=some o)->h'.get? D=some (seqObj "list" out.toArray c)->c5 prog w h' out qs->(∀u,u∈out->u∈vs)->OM.tV qs->(∀p,p∈qs↔p∈ps)->
   Q (.ref D) {s with heap:=h',toks:=tk}):wpAny (model prog w) A (call (.builtin "sorted") [v]) Q E s:=by
 have hsm:∀p,p∈ps->Sm p:=fun p hp=>by
  obtain⟨i,hi,e⟩:=List.mem_iff_getElem.mp hp
  have hi':i < vs.length:=by rw[hps.1];exact hi
  obtain⟨_,_,_,hs⟩:=hps.2 i vs[i] p (List.getElem?_eq_getElem hi') (by rw[List.getElem?_eq_getElem hi,e])
  exact hs
 (refine Calls.call_function_entry kind_sorted plain_sorted entry_sorted (args_sorted1 _) ?_)
 unfold Builtin.«sorted»
 refine wpAny_bind (m:=checkCount "sorted" 1 1 ([v]:List Value).length) (wpAny_pure ?_)
 refine wpAny_bind (hcol _ fun h1 tk1 k1=>?_)
 have hz:vs.length<=sizeLine:=by rw[sizeLine_eq];omega
 refine wpAny_bind (wpAny_newList ?_ hz)
 show wpAny _ _ _ _ _ {s with heap:=h1.push (seqObj "list" vs.toArray 0),toks:=tk1}
 have hoL:(h1.push (seqObj "list" vs.toArray 0)).get? h1.objs.size=some (seqObj "list" vs.toArray 0):=Heap.get?_push_size _ rfl
 have kp:∀b o,s.heap.get? b=some o->(h1.push (seqObj "list" vs.toArray 0)).get? b=some o:=fun b o e=>Heap.get?_push_of_some _ (k1 b o e)
 have hp1:c5 prog w (h1.push (seqObj "list" vs.toArray 0)) vs ps:=⟨hps.1,fun i v p a b=>by
  obtain⟨c,e,⟨o,it,n,ho,r⟩,hs⟩:=hps.2 i v p a b
  exact⟨c,e,⟨o,it,n,kp _ _ ho,r⟩,hs⟩⟩
 have hne:∀b o,s.heap.get? b=some o->b≠h1.objs.size:=fun b o e=>Nat.ne_of_lt (Heap.lt_size (k1 b o e))
 refine wpAny_bind (wpAny_holding (wpAny_call_entry slot_list_sort ⟨_,hoL,rfl⟩ entry_list_sort ?_ (args_list_sort _)))
 refine uA (s:={s with heap:=h1.push (seqObj "list" vs.toArray 0),toks:=tk1}) hoL hp1 nd h64 fun h' c ix P U hk ho=>?_
 refine⟨_,rfl,wpAny_pure ⟨_,rfl,?_⟩⟩
 have kk:∀b o,s.heap.get? b=some o->h'.get? b=some o:=fun b o e=>hk b o (hne b o e) (kp b o e)
 have P':L2.SO.Pm ps.length ix:=by rw[<-hps.1];exact P
 have k2:∀b o,h1.get? b=some o->h'.get? b=some o:=fun b o e=>hk b o (Nat.ne_of_lt (Heap.lt_size e)) (Heap.get?_push_of_some _ e)
 refine h h1 h' tk1 h1.objs.size _ (ix.toList.map fun i=>ps.getD i (0,0)) c k1 rfl k2 ho (HB ⟨hps.1,fun i v p a b=>?_⟩ P) (fun u hu=>?_) (Fp hsm P' (by rw[<-hps.1];exact U)) fun p=>⟨fun hp=>?_,fun hp=>?_⟩
 ·obtain⟨c,e,⟨o,it,n,ho,r⟩,hs⟩:=hps.2 i v p a b
  exact⟨c,e,⟨o,it,n,kk _ _ ho,r⟩,hs⟩
 ·obtain⟨i,hi,rfl⟩:=List.mem_map.mp hu
  have:i < vs.length:=P.lt i (by simpa using hi)
  rw[List.getD_eq_getElem?_getD,List.getElem?_eq_getElem this]
  exact List.getElem_mem this
 ·obtain⟨i,hi,rfl⟩:=List.mem_map.mp hp
  have:i < ps.length:=P'.lt i (by simpa using hi)
  rw[List.getD_eq_getElem?_getD,List.getElem?_eq_getElem this]
  exact List.getElem_mem this
 ·obtain⟨i,hi,e⟩:=List.mem_iff_getElem.mp hp
  refine List.mem_map.mpr ⟨i,Gr P' hi,?_⟩
  rw[List.getD_eq_getElem?_getD,List.getElem?_eq_getElem hi,e];rfl
end
end L2.ST

end

section
namespace L2
open PySem PySem.Spec PyProof.Rows
abbrev Pr:=Int×Int
abbrev Sm:=L2.ST.Sm
section
variable {X:Cx}{pins:List (Addr×Obj)}{σ:St}{H H':Hp}{s:Shared}
def gy (H H':Hp):Prop:=(∀b xs,H b=some (.tup xs)->H' b=some (.tup xs))/\∀b o u,H b=some (.bo o u)->H' b=some (.bo o u)
theorem gy.refl (H:Hp):gy H H:=⟨fun _ _ h=>h,fun _ _ _ h=>h⟩
theorem gy.trans {H H1 H2:Hp}(a:gy H H1)(b:gy H1 H2):gy H H2:=⟨fun c xs h=>b.1 c xs (a.1 c xs h),fun c o u h=>b.2 c o u (a.2 c o u h)⟩
theorem ar.grow {H H':Hp}(e:ar H H'):gy H H':=⟨fun b xs h=>e b _ h,fun b o u h=>e b _ h⟩
theorem gy.new {H:Hp}{l:Addr}{o:HO}(h:H l=none):gy H (upd H l o):=⟨fun b xs e=>by rw[ay (aK e h)];exact e,fun b o' u e=>by rw[ay (aK e h)];exact e⟩
theorem ar.new {H:Hp}{l:Addr}{o:HO}(h:H l=none):ar H (upd H l o):=fun b u e=>by rw[ay (aK e h)];exact e
theorem fy.grow {K:PySem.W.Frag}{a:Addr}{xs:List V}(h:fy K H a xs)(g:gy H H'):fy K H' a xs:=by
 rcases h with (h | ⟨o,h⟩) |h
 ·exact .inl (.inl (g.1 _ _ h))
 ·exact .inl (.inr ⟨o,g.2 _ _ _ h⟩)
 ·exact .inr h
theorem gy.list {a:Addr}{ys:List V}{o:HO}(h:H a=some (.lst ys)):gy H (upd H a o):=
 ⟨fun b xs e=>by rw[ay (EH e h (by intro z;cases z))];exact e,fun b o' u e=>by rw[ay (EH e h (by intro z;cases z))];exact e⟩
theorem pS {α β:Type}{f:α->β}:∀{l:List α} {m:List β},m.Perm (l.map f)->∃l':List α,m=l'.map f/\l'.Perm l:=by
 intro l m h
 generalize hk:l.map f=k at h
 induction h generalizing l with
 |nil=>
  have:l= []:=by simpa using hk
  exact⟨[],rfl,by rw[this]⟩
 | @cons x m1 m2 _ ih=>
  cases l with
  |nil=>cases hk
  |cons a l=>
   simp only[List.map_cons,List.cons.injEq] at hk
   obtain⟨l',e,p⟩:=ih hk.2
   exact⟨a :: l',by rw[List.map_cons,hk.1,e],p.cons a⟩
 |swap x y m1=>
  cases l with
  |nil=>cases hk
  |cons a l=>
   cases l with
   |nil=>simp at hk
   |cons b l=>
    simp only[List.map_cons,List.cons.injEq] at hk
    exact⟨b :: a :: l,by rw[List.map_cons,List.map_cons,hk.1,hk.2.1,hk.2.2],List.Perm.swap ..⟩
 |trans _ _ ih1 ih2=>
  obtain⟨l1,e1,p1⟩:=ih2 hk
  obtain⟨l2,e2,p2⟩:=ih1 e1.symm
  exact⟨l2,e2,p2.trans p1⟩
def aS (K:PySem.W.Frag)(H:Hp):List V->List Pr->Prop:=Paired fun v p=>∃a,v=.ref a/\fy K H a [.int p.1,.int p.2]
theorem aS.grow {K:PySem.W.Frag}{vs:List V}{ps:List Pr}(h:aS K H vs ps)(g:gy H H'):aS K H' vs ps:=Paired.mapP h fun v p ⟨a,e,q⟩=>⟨a,e,q.grow g⟩
theorem Paired.getP {α β:Type}{F:α->β->Prop}:∀{l:List α} {m:List β} {i:Nat} {x:α},Paired F l m->l[i]? =some x->∃y,m[i]? =some y/\F x y
 |_,_,_,_,.nil,e=>by simp at e
 |_,_,0,_,.cons r _,e=>by simp at e;subst e;exact⟨_,rfl,r⟩
 |_,_,i + 1,x,.cons _ t,e=>by
  obtain⟨u,h1,h2⟩:=Paired.getP (i:=i) (x:=x) t (by simpa using e)
  exact⟨u,by simpa using h1,h2⟩
theorem Paired.getQ {α β:Type}{F:α->β->Prop}:∀{l:List α} {m:List β} {i:Nat} {y:β},Paired F l m->m[i]? =some y->∃x,l[i]? =some x/\F x y
 |_,_,_,_,.nil,e=>by simp at e
 |_,_,0,_,.cons r _,e=>by simp at e;subst e;exact⟨_,rfl,r⟩
 |_,_,i + 1,x,.cons _ t,e=>by
  obtain⟨u,h1,h2⟩:=Paired.getQ (i:=i) (y:=x) t (by simpa using e)
  exact⟨u,by simpa using h1,h2⟩
theorem sH (I:Inv X pins σ H s){a:Addr}{p:Pr}(h:fy X.K H a [.int p.1,.int p.2]):L2.ST.bL X.prog X.w s.heap p a:=by
 obtain⟨its,r,⟨o,ho,hc,n,hd⟩,_⟩:=I.tuple h
 cases r with
 |cons r1 r=>
  cases r with
  |cons r2 r=>
   cases r
   obtain⟨t1,rfl⟩:=r1
   obtain⟨t2,rfl⟩:=r2
   exact⟨o,_,n,ho,hc,hd,.cons (intKind_is ..) (.cons (intKind_is ..) .nil)⟩
theorem pairs_at (I:Inv X pins σ H s){vs:List V}{us:List Value}{ps:List Pr}(hv:Vals vs us)(h:aS X.K H vs ps)(hs:∀p,p∈ps->Sm p):L2.ST.c5 X.prog X.w s.heap us ps:=by
 refine⟨by rw[<-hv.length];exact Paired.length h,fun i u p e1 e2=>?_⟩
 obtain⟨v,ev,a,rfl,q⟩:=Paired.getQ h e2
 obtain⟨u',eu,ru⟩:=hv.get ev
 rw[e1] at eu;cases eu
 cases ru
 exact⟨a,rfl,sH I q,hs p (List.mem_of_getElem? e2)⟩
theorem pG (I:Inv X pins σ H s){vs:List V}{us:List Value}{ps:List Pr}(hv:Vals vs us)(h:aS X.K H vs ps){h':Heap}(k:∀b o,s.heap.get? b=some o->h'.get? b=some o):∀{out:List Value} {qs:List Pr},
  (∀u,u∈out->u∈us)->L2.ST.c5 X.prog X.w h' out qs->∃ws,Vals ws out/\aS X.K H ws qs
 | [],[],_,_=>⟨[],.nil,.nil⟩
 | [],_ :: _,_,hp=>by have:=hp.1;simp at this
 |_ :: _,[],_,hp=>by have:=hp.1;simp at this
 |u :: out,q :: qs,hm,hp=>by
  obtain⟨ws,a1,a2⟩:=pG I hv h k (out:=out) (qs:=qs) (fun x hx=>hm x (List.mem_cons_of_mem _ hx)) ⟨by have:=hp.1;simpa using this,fun i v p e1 e2=>hp.2 (i + 1) v p (by simpa using e1) (by simpa using e2)⟩
  obtain⟨i,hi,e⟩:=List.mem_iff_getElem.mp (hm u (List.mem_cons_self ..))
  have hi':i < vs.length:=by rw[hv.length];exact hi
  obtain⟨u',eu,ru⟩:=hv.get (List.getElem?_eq_getElem hi')
  rw[List.getElem?_eq_getElem hi,e] at eu
  cases eu
  obtain⟨p,ep,a,ea,qa⟩:=Paired.getP h (List.getElem?_eq_getElem hi')
  rw[ea] at ru
  cases ru
  obtain⟨b,eb,hb,_⟩:=hp.2 0 (.ref a) q rfl rfl
  cases eb
  have pa:L2.ST.bL X.prog X.w h' p a:=by
   obtain⟨o,it,n,ho,r⟩:=sH I qa
   exact⟨o,it,n,k _ _ ho,r⟩
  have:p=q:=L2.ST.bL.inj pa hb
  subst this
  exact⟨.ref a :: ws,.cons rfl a1,.cons ⟨a,rfl,qa⟩ a2⟩
theorem wy (I:Inv X pins σ H s){vs:List V}{us:List Value}{ps:List Pr}(hv:Vals vs us)(hp:aS X.K H vs ps)(hlen:ps.length < 64){Q:VK}
  (q:∀l ws qs,H l=none->aS X.K H ws qs->OM.tV qs->(∀p,p∈qs↔p∈ps)->Q (.ref l) (upd H l (.lst ws)))
  {h1 h':Heap} {tk:Nat} {D:Addr} {out:List Value} {qs:List Pr} {c:Nat} (k1:∀b o,s.heap.get? b=some o->h1.get? b=some o) (eD:D=h1.objs.size) (k2:∀b o,h1.get? b=some o->h'.get? b=some o)
  (ho:h'.get? D=some (seqObj "list" out.toArray c)) (hpq:L2.ST.c5 X.prog X.w h' out qs) (hm:∀u,u∈out->u∈us) (hr:OM.tV qs) (hmem:∀p,p∈qs↔p∈ps):EP X pins σ Q (.ref D) {s with heap:=h',toks:=tk}:=by
 obtain⟨ws,r1,r2⟩:=pG I hv hp (fun b o e=>k2 b o (k1 b o e)) hm hpq
 have I1:Inv X pins σ H {s with heap:=h1,toks:=tk}:=I.kept k1
 have hf:H D=none:=by rw[eD];exact I1.hok.fresh (Nat.le_refl _)
 have hz:ws.length<=sizeLine:=by
  have e1:=r1.length
  have e2:out.length=qs.length:=hpq.1
  have e3:=OM.o4 (OM.iR hr) fun x hx=>(hmem x).mp hx
  rw[sizeLine_eq];omega
 have I2:Inv X pins σ (upd H D (.lst ws)) {s with heap:=h',toks:=tk}:=I1.laid (t':=tk) k2 (by rw[eD];exact Nat.le_refl _) (show cB X.prog X.w _ h' _ (.lst ws) from⟨hz,out,c,r1,ho⟩)
 exact⟨.ref D,_,I2,rfl,q D ws qs hf r2 hr hmem⟩
abbrev vq (qs:List (Addr×Pr)):List V:=qs.map fun q=>V.ref q.1
abbrev pq (qs:List (Addr×Pr)):List Pr:=qs.map (·.2)
def Ew (prog:Program)(w:World)(S:Addr)(qs:List (Addr×Pr))(h:Heap):Prop:=∃o ep t,h.get? S=some o/\o.ExactSet/\o.data=.set (qs.map fun q=>(L2.ST.zV prog w q.2,Value.ref q.1)).toArray ep t/\L2.ST.Tab t (qs.map fun q=>L2.ST.zV prog w q.2)/\t.led=L2.ST.fY w
def zC (prog:Program)(w:World)(S:Addr)(qs:List (Addr×Pr)):HO:=.ext (Ew prog w S qs)
def Ij (P:Program)(w:World)(K:PySem.W.Frag):List V->Hp->VK->Prop:=fun xs H Q=>∃a vs ps,xs= [.ref a]/\(gk K H a vs\/fy K H a vs)/\aS K H vs ps/\(∀p,p∈ps->Sm p)/\
 ∀S qs,H S=none->aS K H (vq qs) (pq qs)->(pq qs).Nodup->(∀p,p∈pq qs↔p∈ps)->Q (.ref S) (upd H S (zC P w S qs))
theorem BZ (hc:X.calm=true)(hu:X.A.units + 64 < cLine):cX X (.type "set") (Ij X.prog X.w X.K):=by
 intro pins s σ H xs us Q I r h
 obtain⟨a,vs,ps,rfl,hq,hp,hs,q⟩:=h
 obtain⟨u,rfl,rx⟩:=vals1 r
 cases rx
 have hh:=I.ok.hd hc
 have core:∀{its:List Value} {T:String} {itO:Obj} {St:Addr->Nat->Heap->Prop},Vals vs its->L2.ST.Src X.prog X.w s.heap a its T itO St->wpAny (model X.prog X.w) X.A (call (.type "set") [.ref a]) (EP X pins σ Q) X.xe s:=fun {its T itO St} rv src=>by
  refine L2.ST.oS src hh hu (pairs_at I rv hp hs) fun h' tk F k=>?_
  obtain⟨qs,P1,P2,P3⟩:=F
  have hlen:its.length=vs.length:=rv.length.symm
  have back:∀qv:Addr×Pr,qv∈qs->∃b,b=qv.1/\fy X.K H b [.int qv.2.1,.int qv.2.2]:=fun qv hqv=>by
   obtain⟨i,hi,e⟩:=List.mem_iff_getElem.mp (List.mem_of_mem_take (P2 qv hqv).1)
   have hi':i < vs.length:=by rw[<-hlen];exact hi
   obtain⟨u',eu,ru⟩:=rv.get (List.getElem?_eq_getElem hi')
   rw[List.getElem?_eq_getElem hi,e] at eu
   cases eu
   obtain⟨p,ep,b,eb,qb⟩:=Paired.getP hp (List.getElem?_eq_getElem hi')
   rw[eb] at ru
   cases ru
   have pa:L2.ST.bL X.prog X.w h' p qv.1:=by
    obtain⟨o,it,n,ho,r⟩:=sH I qb
    exact⟨o,it,n,k _ _ ho,r⟩
   have:p=qv.2:=L2.ST.bL.inj pa (P1.at' qv hqv).1
   subst this
   exact⟨_,rfl,qb⟩
  have hpv:∀{l:List (Addr×Pr)},(∀x,x∈l->x∈qs)->aS X.K H (vq l) (pq l):=fun {l}=>by
   induction l with
   |nil=>intro _;exact .nil
   |cons y l ih=>
    intro hl
    obtain⟨b,eb,qb⟩:=back y (hl y (List.mem_cons_self ..))
    subst eb
    exact .cons ⟨_,rfl,qb⟩ (ih fun x hx=>hl x (List.mem_cons_of_mem _ hx))
  have hmem:∀p,p∈pq qs↔p∈ps:=fun p=>by
   have hpl:ps.length=its.length:=by rw[hlen];exact (Paired.length hp).symm
   constructor
   ·intro hx
    obtain⟨qv,hqv,rfl⟩:=List.mem_map.mp hx
    exact List.mem_of_mem_take (P2 qv hqv).2
   ·intro hx
    exact P3 p (by rw[<-hpl,List.take_of_length_le (Nat.le_refl _)];exact hx)
  have hf:H s.heap.objs.size=none:=I.hok.fresh (Nat.le_refl _)
  obtain⟨o,ep,t,ho,r1⟩:=P1.ex
  have new:cB X.prog X.w (upd H s.heap.objs.size (zC X.prog X.w s.heap.objs.size qs)) h' s.heap.objs.size (zC X.prog X.w s.heap.objs.size qs):=
   ⟨⟨o,ep,t,ho,r1⟩,⟨o,ho⟩,fun h1 h2 ⟨o1,ep1,t1,g1,g2⟩ kk=>⟨o1,ep1,t1,kk _ g1,g2⟩⟩
  exact⟨.ref _,_,I.laid (t':=tk) k (Nat.le_refl _) new,rfl,q _ qs hf (hpv fun x hx=>hx) P1.nd hmem⟩
 rcases hq with hq |hq
 ·obtain⟨its,rv,pl,hz⟩:=I.list hq
  exact core rv (L2.ST.Src.list pl.isList)
 ·obtain⟨its,rv,pl,hz⟩:=I.tuple hq
  exact core rv (L2.ST.Src.tuple pl)
def va (P:Program)(w:World)(K:PySem.W.Frag):List V->Hp->VK->Prop:=fun xs H Q=>∃S qs,xs= [.ref S]/\H S=some (zC P w S qs)/\aS K H (vq qs) (pq qs)/\(∀p,p∈pq qs->Sm p)/\(pq qs).Nodup/\qs.length < 64/\
 ∀l ws rs,H l=none->aS K H ws rs->OM.tV rs->(∀p,p∈rs↔p∈pq qs)->Q (.ref l) (upd H l (.lst ws))
theorem tq (hc:X.calm=true):cX X (.builtin "sorted") (va X.prog X.w X.K):=by
 intro pins s σ H xs us Q I r h
 obtain⟨S,qs,rfl,hS,hp,hs,nd,hl,q⟩:=h
 obtain⟨u,rfl,rx⟩:=vals1 r
 cases rx
 have hh:=I.ok.hd hc
 obtain⟨⟨o,ep,t,ho,hex,hd,T,hled⟩,_,_⟩:Ew X.prog X.w S qs s.heap/\_:=I.hok S _ hS
 have T':L2.ST.Tab t ((qs.map fun q=>(L2.ST.zV X.prog X.w q.2,Value.ref q.1)).toArray.toList.map (·.1)):=by
  rw[List.toList_toArray,List.map_map];exact T
 have htp:=L2.ST.ra X.w S ep (qs.map fun q=>(L2.ST.zV X.prog X.w q.2,Value.ref q.1)).toArray
 have hmem:∀x,x∈(L2.ST.told X.w S ep (qs.map fun q=>(L2.ST.zV X.prog X.w q.2,Value.ref q.1)).toArray).toList->∃q,q∈qs/\x=(L2.ST.zV X.prog X.w q.2,Value.ref q.1):=fun x hx=>by
  have:=htp.mem_iff.mp hx
  simp only[List.toList_toArray] at this
  obtain⟨q,hq,e⟩:=List.mem_map.mp this
  exact⟨q,hq,e.symm⟩
 obtain⟨q2,e2,p2⟩:∃q2:List (Addr×Pr),(L2.ST.told X.w S ep (qs.map fun q=>(L2.ST.zV X.prog X.w q.2,Value.ref q.1)).toArray).toList=q2.map (fun q=>(L2.ST.zV X.prog X.w q.2,Value.ref q.1))/\q2.Perm qs:=by
  have:=htp
  simp only[List.toList_toArray] at this
  exact pS this
 have hp2:aS X.K H (vq q2) (pq q2):=by
  have key:∀{l:List (Addr×Pr)},(∀x,x∈l->x∈qs)->aS X.K H (vq l) (pq l):=fun {l}=>by
   induction l with
   |nil=>intro _;exact .nil
   |cons y l ih=>
    intro hl
    obtain⟨i,hi,e⟩:=List.mem_iff_getElem.mp (hl y (List.mem_cons_self ..))
    obtain⟨p,ep',a,ea,qa⟩:=Paired.getP (l:=vq qs) (m:=pq qs) (i:=i) (x:=.ref y.1) hp (by simp[hi,e])
    have:p=y.2:=by simp[hi,e] at ep';exact ep'.symm
    subst this
    exact .cons ⟨a,ea,qa⟩ (ih fun x hx=>hl x (List.mem_cons_of_mem _ hx))
  exact key fun x hx=>p2.mem_iff.mp hx
 have hv2:Vals (vq q2) (q2.map fun q=>Value.ref q.1):=by
  induction q2 with
  |nil=>exact .nil
  |cons y l ih=>exact .cons rfl (by
    clear ih e2 p2 hp2
    induction l with
    |nil=>exact .nil
    |cons z l ih2=>exact .cons rfl ih2)
 have hm2:∀p,p∈pq q2↔p∈pq qs:=fun p=>(p2.map (·.2)).mem_iff
 have hpa:=pairs_at I hv2 hp2 fun p hpp=>hs p ((hm2 p).mp hpp)
 have hl2:q2.length < 64:=by rw[p2.length_eq];exact hl
 refine L2.ST.zp (v:=.ref S) hpa ((p2.map (·.2)).nodup_iff.mpr nd) (by simpa using hl2) (fun Q' hQ'=>L2.ST.uN (by simpa using hh) ho hd hex.1 T' hled (by simp;omega) fun h' tk vs ev k=>?_) fun h1 h' tk D out qs' c k1 eD k2 ho' hpq hm hr hmem'=>?_
 ·rw[ev,e2]
  rw[List.map_map]
  exact hQ' h' tk k
 ·exact wy I hv2 hp2 (by simpa using hl2) (fun l ws rs a1 a2 a3 a4=>q l ws rs a1 a2 a3 fun p=>(a4 p).trans (hm2 p)) k1 eD k2 ho' hpq hm hr hmem'
end
end L2

end

section
namespace L2
open PySem PySem.Spec PyProof.Rows
def mV (cells:List (Str×Addr)):List (Str×NameKind)->List (Str×Addr)->List (Str×Addr)
 | [],cs=>cs
 | (n,k) :: r,cs=>mV cells r (if k == .free then (n,(cells.lookup n).getD 0) :: cs else cs)
theorem o8 {scope:Scope}{env:Env}(h:∀y∈scope.names,y.2=.free->∃c,env.cells.lookup y.1=some c):closureFor scope env=pure (mV env.cells scope.names []):=by
 unfold closureFor
 have key:∀(l:List (Str×NameKind)) (cs:List (Str×Addr)),(∀y∈l,y.2=.free->∃c,env.cells.lookup y.1=some c)->
   (forIn l cs (fun (x:Str×NameKind) (r:List (Str×Addr))=>if (x.2 == NameKind.free)=true then (do let a <-cellOf env x.1;pure (ForInStep.yield ((x.1,a) :: r)):Sem _) else pure (ForInStep.yield r)):Sem (List (Str×Addr)))=pure (mV env.cells l cs):=by
  intro l
  induction l with
  |nil=>intro cs _;rfl
  |cons y l ih=>
   intro cs hy
   obtain⟨n,k⟩:=y
   rw[List.forIn_cons]
   unfold mV
   by_cases hk:(k == NameKind.free)=true
   ·have hk':k=.free:=by simpa using hk
    obtain⟨c,hc⟩:=hy (n,k) (List.mem_cons_self ..) hk'
    have hce:cellOf env n=pure c:=by unfold cellOf;rw[hc]
    simp only[hk,if_true]
    have hc':env.cells.lookup n=some c:=hc
    rw[hce,hc']
    simp only[pure_bind,Option.getD_some]
    exact ih _ fun z hz=>hy z (List.mem_cons_of_mem _ hz)
   ·simp only[hk,if_false,Bool.false_eq_true]
    simp only[pure_bind]
    exact ih _ fun z hz=>hy z (List.mem_cons_of_mem _ hz)
 have:=key scope.names [] h
 simp only[bind_pure_comp] at this ⊢
 first
  |exact this
  | (rw[this];rfl)
  | (simpa using this)
theorem mL {cells:List (Str×Addr)}{x:Str}:∀{l:List (Str×NameKind)} {cs:List (Str×Addr)},((x,NameKind.free)∈l\/cs.lookup x=some ((cells.lookup x).getD 0))->(mV cells l cs).lookup x=some ((cells.lookup x).getD 0)
 | [],cs,h=>by
  rcases h with h |h
  ·cases h
  ·exact h
 | (n,k) :: r,cs,h=>by
  unfold mV
  refine mL ?_
  by_cases hk:(k == NameKind.free)=true
  ·rw[if_pos hk]
   by_cases hx:x=n
   ·subst hx;right;simp
   ·rcases h with h |h
    ·rcases List.mem_cons.mp h with e |e
     ·injection e with e1 _;exact absurd e1 hx
     ·exact .inl e
    ·right
     rw[List.lookup_cons,show (x == n)=false by simpa using hx]
     exact h
  ·rw[if_neg hk]
   rcases h with h |h
   ·rcases List.mem_cons.mp h with e |e
    ·injection e with _ e2;exact absurd (by rw[<-e2];rfl) hk
    ·exact .inl e
   ·exact .inr h
theorem mT {cells:List (Str×Addr)}{x:Str}{c:Addr}:∀{l:List (Str×NameKind)} {cs:List (Str×Addr)},(mV cells l cs).lookup x=some c->((x,NameKind.free)∈l/\c=(cells.lookup x).getD 0)\/cs.lookup x=some c
 | [],cs,h=>.inr h
 | (n,k) :: r,cs,h=>by
  unfold mV at h
  rcases mT h with⟨a,b⟩ |a
  ·exact .inl ⟨List.mem_cons_of_mem _ a,b⟩
  ·by_cases hk:(k == NameKind.free)=true
   ·rw[if_pos hk,List.lookup_cons] at a
    by_cases hx:x=n
    ·subst hx
     simp at a
     have:k=.free:=by simpa using hk
     subst this
     exact .inl ⟨List.mem_cons_self ..,a.symm⟩
    ·rw[show (x == n)=false by simpa using hx] at a
     exact .inr a
   ·rw[if_neg hk] at a
    exact .inr a
theorem nj {f:Str->NameKind->NameKind}{x:Str}:∀(l:List (Str×NameKind)),(l.map fun y=>(y.1,f y.1 y.2)).lookup x=(l.lookup x).map (f x)
 | []=>rfl
 | (n,k) :: l=>by
  rw[List.map_cons,List.lookup_cons,List.lookup_cons]
  by_cases hx:x=n
  ·subst hx;simp
  ·have hb:(x == n)=false:=by simpa using hx
   simp only[hb]
   exact nj l
theorem pF (scope:Scope)(env:Env)(x:Str):(relabel scope env).names.lookup x=(scope.names.lookup x).map fun k=>if (k == .free && env.scope.kind == .function && env.kindOf x == some .cell) then .cell else k:=by
 have e:(relabel scope env).names=scope.names.map fun y=>(y.1,if (y.2 == .free && env.scope.kind == .function && env.kindOf y.1 == some .cell) then .cell else y.2):=by
  unfold relabel
  dsimp only
  refine List.map_congr_left fun y _=>?_
  obtain⟨n,k⟩:=y
  dsimp only
  split <;> rfl
 rw[e]
 exact nj (f:=fun n k=>if (k == .free && env.scope.kind == .function && env.kindOf n == some .cell) then .cell else k) scope.names
def iJ (X:Cx)(NB:List Str)(scope:Scope)(C:Addr)(ex:List Addr)(s3:Shared)(H3:Hp)(pn:List (Addr×Obj)):Cx:=
 {X with N:=NB,s₀:=s3,H₀:=H3,env:=compEnvC scope (mV X.env.cells scope.names []) C X.env,outer:=X.stack,ex:=ex,fn:=fun _=>false,pn:=pn,xe:=fun _ _=>False}
def bJ (own:Nat)(ixs:List Nat)(σ:St):St:=List.replicate own none ++ ixs.map fun i=>(σ[i]?).join
structure c7 (X:Cx)(NB:List Str)(own:Nat)(ixs:List Nat)(scope:Scope):Prop where
 kind:scope.kind=.function
 nocell:∀y∈scope.names,y.2≠.cell
 names:∀y∈scope.names,scope.names.lookup y.1=some y.2
 frees:∀y∈scope.names,y.2=.free->X.env.kindOf y.1=some .cell\/X.env.kindOf y.1=some .free
 nd:NB.Nodup
 len:NB.length=own + ixs.length
 at':∀k,k < ixs.length->NB[own + k]? =X.N[ixs.getD k 0]?/\∀x,NB[own + k]? =some x->(x,NameKind.free)∈scope.names
section
variable {X:Cx}{NB:List Str}{own:Nat}{ixs:List Nat}{scope:Scope}{pins:List (Addr×Obj)}{σ:St}{H:Hp}{s:Shared}
theorem yX (S:c7 X NB own ixs scope)(I:Inv X pins σ H s){fp:List Addr}(hfp:∀b∈fp,mU X pins H b)(hob:∀b∈fp,∃o,s.heap.get? b=some o){h1:Heap}{tk:Nat}
  (hn:h1.Ns s.heap.objs.size (fun _=>none)) (hk:∀b o,s.heap.get? b=some o->h1.get? b=some o) :
  Inv (iJ X NB scope s.heap.objs.size fp s H (X.pn ++ pins)) [] (bJ own ixs σ) H {s with heap:=h1,toks:=tk}:=by
 have stk:=I.stack
 have frees:∀{x:Str},(x,NameKind.free)∈scope.names->∃c,X.env.cells.lookup x=some c:=fun {x} hx=>I.ok.has x (S.frees _ hx rfl)
 have clE:∀{x:Str} {c:Addr},(mV X.env.cells scope.names []).lookup x=some c->(x,NameKind.free)∈scope.names/\X.env.cells.lookup x=some c:=fun {x c} h=>by
  rcases mT h with⟨a,b⟩ |a
  ·obtain⟨c',e⟩:=frees a
   rw[e] at b
   exact⟨a,by rw[e,b];rfl⟩
  ·simp at a
 have kindB:∀x,(iJ X NB scope s.heap.objs.size fp s H (X.pn ++ pins)).env.kindOf x=(scope.names.lookup x).map fun k=>if (k == .free && X.env.scope.kind == .function && X.env.kindOf x == some .cell) then .cell else k:=fun x=>pF scope X.env x
 have isFree:∀{x:Str},((iJ X NB scope s.heap.objs.size fp s H (X.pn ++ pins)).env.kindOf x=some .cell\/(iJ X NB scope s.heap.objs.size fp s H (X.pn ++ pins)).env.kindOf x=some .free)->(x,NameKind.free)∈scope.names:=fun {x} h=>by
  rw[kindB] at h
  cases e:scope.names.lookup x with
  |none=>rw[e] at h;simp at h
  |some k=>
   have hm:=PySem.mem_of_lookup e
   cases k with
   |free=>exact hm
   |cell=>exact absurd rfl (S.nocell _ hm)
   |_=>rw[e] at h;simp at h
 have neN:∀b o,s.heap.get? b=some o->b≠s.heap.objs.size:=fun b o e=>Nat.ne_of_lt (Heap.lt_size e)
 have cellN:∀{x:Str} {c:Addr},X.env.cells.lookup x=some c->c < s.heap.objs.size:=fun {x c} e=>by
  obtain⟨v,o,ho,_⟩:=I.cell x c e
  exact Heap.lt_size ho
 have ok:(iJ X NB scope s.heap.objs.size fp s H (X.pn ++ pins)).Ok:=by
  refine⟨I.ok.mod,S.kind,I.ok.glob,I.ok.blt,Nat.le_refl _,fun x y c h1 h2=>I.ok.inj x y c (clE h1).2 (clE h2).2,fun x hx=>?_,fun x c h=>(by cases h),I.ok.hd,I.ok.frames,.inl rfl,fun b hb=>?_,I.bs,Nat.le_trans I.ok.bsz I.sz,fun b o e hb=>?_,fun b hb hs=>?_,stk,I.stkFree⟩
  ·have hm:=isFree hx
   exact⟨_,mL (.inl hm)⟩
  ·obtain⟨_,f1,f2,f3,f4,f5⟩:=hfp b hb
   refine⟨?_,fun x c h z=>f4 x c (clE h).2 z⟩
   obtain⟨o,ho⟩:=hob b hb
   exact neN b o ho
  ·obtain⟨_,f1,f2,f3,f4,f5⟩:=hfp b hb
   rcases f3 with f3 |f3
   ·exact I.ok.noex b o e f3
   ·exact absurd (Nat.lt_of_lt_of_le (Heap.lt_size e) (Nat.le_trans I.ok.bsz f3)) (Nat.lt_irrefl _)
  ·obtain⟨_,f1,f2,f3,f4,f5⟩:=hfp b hb
   rcases List.mem_cons.mp (I.stkSub b hs) with z |z
   ·exact f1 z
   ·exact f2 z
 refine⟨ok,rfl,I.bare,Un.kept hk,⟨_,hn,fun i x v h1' h2' h3'=>?_⟩,fun x c h=>?_,I.hok.fresh (Nat.le_refl _),fun x c h=>I.freeC x c (clE h).2,fun p hp=>?_,I.hok.kept hk,?_⟩
 ·
  have h1':NB[i]? =some x:=h1'
  have hown:own<=i:=by
   refine Classical.byContradiction fun hc=>?_
   have hlt:i < own:=Nat.lt_of_not_le hc
   unfold bJ at h2'
   rw[List.getElem?_append_left (by simpa using hlt),List.getElem?_replicate,if_pos hlt] at h2'
   cases h2'
  obtain⟨k,rfl⟩:∃k,i=own + k:=⟨i - own,by omega⟩
  have hk':k < ixs.length:=by
   have:=(List.getElem?_eq_some_iff.mp h1').1
   rw[S.len] at this;omega
  obtain⟨e1,e2⟩:=S.at' k hk'
  have hm:=e2 x h1'
  unfold bJ at h2'
  rw[List.getElem?_append_right (by simp),List.length_replicate,Nat.add_sub_cancel_left,List.getElem?_map,List.getElem?_eq_getElem hk'] at h2'
  simp only[Option.map_some,Option.some.injEq] at h2'
  have hix:ixs.getD k 0=ixs[k]:=by simp[hk']
  have hσ:σ[ixs[k]]? =some (some v):=by
   cases e:σ[ixs[k]]? with
   |none=>rw[e] at h2';cases h2'
   |some o=>rw[e] at h2';simp at h2';rw[h2']
  rw[e1,hix] at h1'
  have hkind:=S.frees _ hm rfl
  have hvis:zS X.env.scope x:=hkind.elim (fun z=>.inr (.inl z)) (fun z=>.inr (.inr z))
  obtain⟨m,hm',hl⟩:=I.loc
  obtain⟨u,r,look⟩:=hl _ x v h1' hσ hvis
  refine⟨u,r,.inr ⟨?_,?_⟩⟩
  ·rw[kindB]
   have hfr:scope.names.lookup x=some .free:=S.names _ hm
   rw[hfr]
   simp only[Option.map_some]
   split
   ·exact .inl rfl
   ·exact .inr rfl
  ·rcases look with⟨z,_⟩ | ⟨_,c,hc,hcell⟩
   ·rcases hkind with q |q
    ·rw[q] at z;cases z
    ·rw[q] at z;cases z
   ·refine⟨c,?_,?_⟩
    ·have:=mL (cells:=X.env.cells) (cs:=[]) (.inl hm)
     rw[hc] at this
     exact this
    ·obtain⟨o,ho,hd⟩:=hcell
     exact⟨o,hk _ _ ho,hd⟩
 ·obtain⟨v,o,ho,hd⟩:=I.cell x c (clE h).2
  exact⟨v,o,hk _ _ ho,hd⟩
 ·have hp':p∈X.pn ++ pins:=by
   rcases List.mem_append.mp hp with z |z
   ·exact z
   ·cases z
  obtain⟨e,n,ne,nf,d⟩:=I.pin p hp'
  refine⟨hk _ _ e,n,neN _ _ e,fun z=>?_,d⟩
  rcases List.mem_cons.mp (I.stkSub _ z) with q |q
  ·exact ne q
  ·exact nf q
 ·show (bJ own ixs σ).length=NB.length
  unfold bJ
  rw[S.len];simp
end
end L2

end

section
namespace L2
open PySem PySem.Spec PyProof.Rows
abbrev xt (ifs:List Expr)(env:Env):Sem Bool:=forIn ifs true fun c r=>if r=true then do let ok <-isTrue c env (eval c env);pure (ForInStep.yield ok) else pure (ForInStep.yield r)
theorem yS {prog:Program}{w:World}{A:Around}{R:Result->Shared->Prop}{s:Shared}{elt target iter:Expr}{ifs:List Expr}{scope:Scope}{pos:Pos}{it acc:Value}{env:Env}(I:Nat->Shared->Prop)
  (turn:∀n s,I n s->wpAny (model prog w) A (pyNext it) (fun r s1=>match r with
   |none=>R (.ok .next) s1
   |some v=>wpAny (model prog w) A (letOwnedTupleGo target it v) (fun _ s1'=>wpAny (model prog w) A (assign target env v) (fun _ s2=>
     wpAny (model prog w) A (xt ifs env) (fun ok s3=>
      if ok=true then wpAny (model prog w) A (eval elt env) (fun x s4=>wpAny (model prog w) A (call (.builtin "list.append") [acc,x]) (fun _ s5=>∃m,m < n/\I m s5) (fun _ _=>False) s4) (fun _ _=>False) s3
      else ∃m,m < n/\I m s3) (fun _ _=>False) s2) (fun _ _=>False) s1') (fun _ _=>False) s1) (fun _ _=>False) s)
  (n:Nat) (h:I n s):codeAny (model prog w) A (.compLoop (.ListComp elt [⟨target,iter,ifs,0⟩] scope pos) 0 it acc env) R s:=by
 refine codeAny_loop rfl I (fun n s hI=>?_) n h
 (show wpAny _ A ((compTurn (.ListComp elt [⟨target,iter,ifs,0⟩] scope pos) 0 it acc env).onRaise (fun x=>do (noteFrame x env);theTreesLotGoes x)) _ _ s)
 refine wpAny_noted ?_
 rw[compTurn_list]
 refine wpAny_bind (wpAny_standAt (wpAny_bind (wpAny_mono (turn n s hI) (fun r s1 h1=>?_) fun _ _ z=>z.elim)))
 cases r with
 |none=>exact wpAny_pure h1
 |some v=>
  refine wpAny_bind (wpAny_mono h1 (fun _ s1' h1'=>?_) fun _ _ z=>z.elim)
  refine wpAny_bind (wpAny_mono h1' (fun _ s2 h2=>wpAny_bind (wpAny_mono h2 (fun ok s3 h3=>?_) fun _ _ z=>z.elim)) fun _ _ z=>z.elim)
  cases ok with
  |false=>exact wpAny_pure ⟨rfl,h3⟩
  |true=>exact wpAny_bind (wpAny_bind (wpAny_mono h3 (fun x s4 h4=>wpAny_bind (wpAny_mono h4 (fun _ s5 h5=>wpAny_pure (wpAny_pure ⟨rfl,h5⟩)) fun _ _ z=>z.elim)) fun _ _ z=>z.elim))
def Ce (X:Cx)(ifs:List Expr)(t:TT):Prop:=
 ∀(pins:List (Addr×Obj)) (s:Shared) (σ:St) (H:Hp) (Q:Bool->Hp->Prop),Inv X pins σ H s->t σ H Q->wpAny (model X.prog X.w) X.A (xt ifs X.env) (TP X pins σ Q) X.xe s
def GG:TT:=fun _ H Q=>Q true H
theorem se {X:Cx}:Ce X [] GG:=fun pins s σ H Q I h=>wpAny_pure ⟨H,I,h⟩
theorem xM {X:Cx}{c:Expr}{t:TT}(h:PT X c t):Ce X [c] t:=fun pins s σ H Q I q=>wpAny_tests_one (h pins s σ H Q I q)
def vS (own:Nat)(ixs:List Nat)(wi:TI)(g:TG)(tt:TT)(te:TE)(σ:St)(H:Hp)(Q:VK):Prop:=wi σ H fun J H1=>∀D,H1 D=none->∃W:Nat->Nat->St->Hp->Prop,(∃m,W 0 m (bJ own ixs σ) (upd H1 D (.lst [])))/\∀i m σ' H',W i m σ' H'->
 (J.stop i H'/\(∃acc,H' D=some (.lst acc))/\Q (.ref D) H')\/
 (J.go i H'/\∃N:St->Hp->Prop,(∀σ2 H2,N σ2 H2->∃m',m' < m/\W (i + 1) m' σ2 H2)/\∀x H2,J.yld i H' x H2->g x σ' H2 fun σ3 H3=>tt σ3 H3 fun b H4=>
  if b=true then te σ3 H4 fun v H5=>∃acc,H5 D=some (.lst acc)/\acc.length < sizeLine/\N σ3 (upd H5 D (.lst (acc ++ [v]))) else N σ3 H4)
section
variable {X:Cx}{NB:List Str}{own:Nat}{ixs:List Nat}{scope:Scope}{elt tg iter:Expr}{ifs:List Expr}{pos:Pos}{wi:TI}{g:TG}{tt:TT}{te:TE}
theorem qZ (hc:X.calm=true)(S:c7 X NB own ixs scope)
  (hg:∀C ex s3 H3 pn,PG (iJ X NB scope C ex s3 H3 pn) tg g) (ht:∀C ex s3 H3 pn,Ce (iJ X NB scope C ex s3 H3 pn) ifs tt) (he:∀C ex s3 H3 pn,PE (iJ X NB scope C ex s3 H3 pn) elt te)
  {pins:List (Addr×Obj)} {σ:St} {H1:Hp} {s2:Shared} {it:Addr} {fp:List Addr} {tn:Nat->Heap->Prop} {J:It} {Q:VK} (I2:Inv X pins σ H1 s2) (T:Turn X.prog X.w X.K tg J fp it tn) (st2:tn 0 s2.heap) (f2:∀b∈fp,mU X pins H1 b)
  (hQ:∀D,H1 D=none->∃W:Nat->Nat->St->Hp->Prop,(∃m,W 0 m (bJ own ixs σ) (upd H1 D (.lst [])))/\∀i m σ' H',W i m σ' H'->
   (J.stop i H'/\(∃acc,H' D=some (.lst acc))/\Q (.ref D) H')\/
   (J.go i H'/\∃N:St->Hp->Prop,(∀σ2 H2,N σ2 H2->∃m',m' < m/\W (i + 1) m' σ2 H2)/\∀x H2,J.yld i H' x H2->g x σ' H2 fun σ3 H3=>tt σ3 H3 fun b H4=>
    if b=true then te σ3 H4 fun v H5=>∃acc,H5 D=some (.lst acc)/\acc.length < sizeLine/\N σ3 (upd H5 D (.lst (acc ++ [v]))) else N σ3 H4))
  {E:Value->Shared->Prop} {RR:Value->Addr->Result->Shared->Prop}
  (fin:∀D C H' s' m,Inv X pins σ H' s'->Q (.ref D) H'->s'.heap.Ns C m->H' C=none->C≠X.env.locals->(∀x c,X.env.cells.lookup x=some c->c≠C)->X.s₀.heap.objs.size<=C->(∀p∈X.pn ++ pins,p.1≠C)->RR (.ref D) C (.ok .next) s') :
  wpAny (model X.prog X.w) X.A (newList []) (fun acc s3=>wpAny (model X.prog X.w) X.A (newFunctionEnv scope X.env.globals (mV X.env.cells scope.names []) [] X.env.qual none .none (some X.env)) (fun cenv s4=>
   codeAny (model X.prog X.w) X.A (.compStart (.ListComp elt [⟨tg,iter,ifs,0⟩] scope pos) 0 (.ref it) acc {cenv with scope:=relabel scope X.env}) (RR acc cenv.locals) s4) E s3) E s2:=by
 refine wpAny_newList ?_ (Nat.zero_le _)
 have hD:H1 s2.heap.objs.size=none:=I2.hok.fresh (Nat.le_refl _)
 obtain⟨W,⟨m0,w0⟩,turn⟩:=hQ s2.heap.objs.size hD
 generalize hs3:({s2 with heap:=s2.heap.push (seqObj "list" ([]:List Value).toArray 0)}:Shared)=s3
 have I3:Inv X pins σ (upd H1 s2.heap.objs.size (.lst [])) s3:=by
  rw[<-hs3]
  exact I2.lnew (ys:=[]) (its:=[]) (t':=s2.toks) .nil (Nat.zero_le _)
 have k3:∀b o,s2.heap.get? b=some o->s3.heap.get? b=some o:=fun b o e=>by rw[<-hs3];exact Heap.get?_push_of_some _ e
 have sz3:s3.heap.objs.size=s2.heap.objs.size + 1:=by rw[<-hs3];exact Heap.size_push ..
 have ob2:∀b∈fp,∃o,s2.heap.get? b=some o:=fun b hb=>let ⟨o,e,_⟩:=T.obj 0 _ st2 b hb;⟨o,e⟩
 have neD:∀b∈fp,b≠s2.heap.objs.size:=fun b hb=>let ⟨o,e⟩:=ob2 b hb;Nat.ne_of_lt (Heap.lt_size e)
 have f3:∀b∈fp,mU X pins (upd H1 s2.heap.objs.size (.lst [])) b:=fun b hb=>by
  obtain⟨a1,a2⟩:=f2 b hb
  exact⟨by rw[ay (neD b hb)];exact a1,a2⟩
 have st3:tn 0 s3.heap:=T.keep _ _ _ st2 fun b _ o e=>k3 b o e
 refine wpAny_newFunctionEnv S.nocell (fun y hy=>by simp at hy) (fun h4 hn4 sb4=>?_) S.kind
 have k4:∀b o,s3.heap.get? b=some o->h4.get? b=some o:=fun b o e=>sb4.extBut b o (Nat.ne_of_lt (Heap.lt_size e)) (Heap.get?_push_of_some _ e)
 have I4:Inv (iJ X NB scope s3.heap.objs.size fp s3 (upd H1 s2.heap.objs.size (.lst [])) (X.pn ++ pins)) [] (bJ own ixs σ) (upd H1 s2.heap.objs.size (.lst [])) {s3 with heap:=h4,toks:=s3.toks + ([]:List (Str×Value)).length}:=
  yX S I3 f3 (fun b hb=>let ⟨o,e⟩:=ob2 b hb;⟨o,k3 _ _ e⟩) (by simpa using hn4) k4
 have st4:tn 0 h4:=T.keep _ _ _ st3 fun b _ o e=>k4 b o e
 generalize hB:iJ X NB scope s3.heap.objs.size fp s3 (upd H1 s2.heap.objs.size (.lst [])) (X.pn ++ pins)=B at I4
 have hgB:PG B tg g:=by rw[<-hB];exact hg _ _ _ _ _
 have htB:Ce B ifs tt:=by rw[<-hB];exact ht _ _ _ _ _
 have heB:PE B elt te:=by rw[<-hB];exact he _ _ _ _ _
 have eP:B.prog=X.prog:=by rw[<-hB];rfl
 have eW:B.w=X.w:=by rw[<-hB];rfl
 have eK:B.K=X.K:=by rw[<-hB];rfl
 have eA:B.A=X.A:=by rw[<-hB];rfl
 have eC:B.calm=true:=by rw[<-hB];exact hc
 have eX:B.xe=fun _ _=>False:=by rw[<-hB];rfl
 have eE:B.env=compEnvC scope (mV X.env.cells scope.names []) s3.heap.objs.size X.env:=by rw[<-hB];rfl
 have ex:B.ex=fp:=by rw[<-hB];rfl
 have eL:B.env.locals=s3.heap.objs.size:=by rw[eE];rfl
 have stat:∀{H':Hp},(∀b∈fp,H' b=none)->∀b∈fp,mU B [] H' b:=fun {H'} hn b hb=>by
  obtain⟨a1,a2,a3,a4,a5,a6⟩:=f3 b hb
  obtain⟨o,eo⟩:=ob2 b hb
  refine⟨hn b hb,?_,fun z=>?_,.inl (by rw[ex];exact hb),fun x c e z=>?_,fun p hp z=>?_⟩
  ·rw[eL];exact Nat.ne_of_lt (Heap.lt_size (k3 _ _ eo))
  ·have hz:b∈iO X.stack:=by rw[<-hB] at z;exact z
   rcases List.mem_cons.mp (I3.stkSub b hz) with q |q
   ·exact a2 q
   ·exact a3 q
  ·rw[eE] at e
   rcases mT e with⟨m1,m2⟩ |m1
   ·obtain⟨c',e'⟩:=I3.ok.has x (S.frees _ m1 rfl)
    rw[e'] at m2
    exact a5 x c' e' (by rw[<-z,m2];rfl)
   ·simp at m1
  ·have hp':p∈X.pn ++ pins:=by
    rw[<-hB] at hp
    rcases List.mem_append.mp hp with q |q
    ·exact q
    ·cases q
   exact a6 p hp' z
 have back:∀{σ':St} {H':Hp} {s':Shared},Inv B [] σ' H' s'->Inv X pins σ H' s':=fun {σ' H' s'} J'=>by
  have u:=J'.base
  have os:=J'.os
  have bare:=J'.bare
  have hok:=J'.hok
  subst hB
  exact I3.call' (ch:=fp) os u hok bare fun b hb=>by
   obtain⟨a1,a2,a3,a4,a5,a6⟩:=f3 b hb
   exact⟨a4,a2,a5,a6⟩
 have loop:∀s5:Shared,s5={s3 with heap:=h4,toks:=s3.toks + ([]:List (Str×Value)).length}->
   codeAny (model X.prog X.w) X.A (.compLoop (.ListComp elt [⟨tg,iter,ifs,0⟩] scope pos) 0 (.ref it) (.ref s2.heap.objs.size) (compEnvC scope (mV X.env.cells scope.names []) s3.heap.objs.size X.env)) (RR (.ref s2.heap.objs.size) s3.heap.objs.size) s5:=by
  rintro s5 rfl
  refine yS (fun n s'=>∃i σ' H',Inv B [] σ' H' s'/\tn i s'.heap/\(∀b∈fp,H' b=none)/\W i n σ' H') ?_ m0 ⟨0,_,_,I4,st4,fun b hb=>(f3 b hb).1,w0⟩
  rintro n s6 ⟨i,σ6,H6,I6,st6,fr6,w6⟩
  rcases turn i n σ6 H6 w6 with⟨stop,⟨acc,hacc⟩,qn⟩ | ⟨go,N,hN,step⟩
  ·have:=T.done B eP eW eK eC i [] s6 σ6 H6 (fun _ _=>False) I6 (stat fr6) st6 stop
   rw[eA] at this
   refine cK this fun r s7 ⟨hr,I7⟩=>?_
   subst hr
   obtain⟨m7,hn7,_⟩:=I7.loc
   rw[eL] at hn7
   have J7:=back I7
   refine fin _ _ H6 s7 m7 J7 qn hn7 (by rw[<-eL];exact I7.free) (fun z=>?_) (fun x c e z=>?_) ?_ fun p hp z=>?_
   ·have:=I3.lt
    rw[<-z] at this
    exact Nat.lt_irrefl _ this
   ·obtain⟨v,o,ho,_⟩:=I3.cell x c e
    exact absurd (Heap.lt_size ho) (by rw[z];exact Nat.lt_irrefl _)
   ·exact I3.sz
   ·have:=Heap.lt_size (I3.pin p hp).1
    rw[z] at this
    exact Nat.lt_irrefl _ this
  ·have hitem:=T.item B eP eW eK eC i [] s6 σ6 H6 (fun _ _=>False) I6 (stat fr6) st6 go
   rw[eA] at hitem
   refine cK hitem fun r s7 ⟨u,hr,h7⟩=>?_
   subst hr
   refine cK h7 fun _ s8 ⟨x,H8,I8,r8,y8,st8,fr8⟩=>?_
   have I8':=I8.pinned (stat fr8) (T.obj _ _ st8)
   have ha:=hgB _ s8 σ6 H8 x u _ I8' r8 (step x H8 y8)
   rw[eP,eW,eA,eE,eX] at ha
   refine cK ha fun _ s9 ⟨σ9,H9,I9,q9⟩=>?_
   have hb:=htB _ s9 σ9 H9 _ I9 q9
   rw[eP,eW,eA,eE,eX] at hb
   refine cK hb fun ok s10 ⟨H10,I10,q10⟩=>?_
   have again:∀{σ7:St} {H7:Hp} {s7:Shared},Inv B ([] ++ oB fp s8.heap) σ7 H7 s7->N σ7 H7->∃m,m < n/\∃i σ' H',Inv B [] σ' H' s7/\tn i s7.heap/\(∀b∈fp,H' b=none)/\W i m σ' H':=fun {σ7 H7 s7} I7 n7=>by
    obtain⟨m',hm,w7⟩:=hN σ7 H7 n7
    refine⟨m',hm,i + 1,σ7,H7,I7.unpinned,T.keep _ _ _ st8 fun b hb o e=>(I7.pin (b,o) (List.mem_append_right _ (List.mem_append_right _ (js hb e)))).1,fun b hb=>?_,w7⟩
    obtain⟨o,e,d⟩:=T.obj _ _ st8 b hb
    exact (I7.pin (b,o) (List.mem_append_right _ (List.mem_append_right _ (js hb e)))).2.1
   cases ok with
   |false=>
    simp only[Bool.false_eq_true,if_false] at q10 ⊢
    exact again I10 q10
   |true=>
    simp only[if_true] at q10 ⊢
    have hv:=heB _ s10 σ9 H10 _ I10 q10
    rw[eP,eW,eA,eE,eX] at hv
    refine cK hv fun y s11 ⟨v,H11,I11,r11,acc,hacc,hz,q11⟩=>?_
    have hap:=mr (X:=B) _ s11 σ9 H11 (.ref s2.heap.objs.size) [v] (.ref s2.heap.objs.size) [y] (fun z H'=>z=.non/\N σ9 H') I11 rfl (.cons r11 .nil) ⟨_,acc,v,rfl,rfl,hacc,hz,rfl,q11⟩
    rw[eP,eW,eA,eX] at hap
    exact cK hap fun _ s12 ⟨_,H12,I12,_,_,q12⟩=>again I12 q12
 exact codeAny_compStart_list (loop _ rfl) (T.self X.A 0 _ _ _ st4 (loop _ rfl))
theorem vc (hc:X.calm=true)(S:c7 X NB own ixs scope)(hi:PI X tg iter wi)
  (hg:∀C ex s3 H3 pn,PG (iJ X NB scope C ex s3 H3 pn) tg g) (ht:∀C ex s3 H3 pn,Ce (iJ X NB scope C ex s3 H3 pn) ifs tt) (he:∀C ex s3 H3 pn,PE (iJ X NB scope C ex s3 H3 pn) elt te)
  (hs:∀x,foldedSetIterable iter X.env x=pure x:=by intro _;rfl) :
  PE X (.ListComp elt [⟨tg,iter,ifs,0⟩] scope pos) (vS own ixs wi g tt te):=by
 intro pins s σ H Q I h
 rw[eval_ListComp]
 refine wpAny_comprehension_free (use:=none) rfl hs (o8 fun y hy e=>I.ok.has _ (S.frees y hy e)) S.kind (fun y hy e=>by rw[S.names y hy,e]) ?_
 refine cK (hi pins s σ H _ I h) fun v s1 h1=>cK h1 fun itv s2 h2=>?_
 obtain⟨it,fp,tn,J,H2,e,I2,T,st2,f2,q2⟩:=h2
 subst e
 refine qZ hc S hg ht he I2 T st2 f2 q2 (RR:=fun acc C=>compPost (model X.prog X.w) X.A X.xe none (EP X pins σ Q) acc C) fun D C H' s' m J' q hn hC n1 n2 n3 n4=>?_
 refine⟨m,hn,fun h'' sb=>⟨.ref D,H',?_,rfl,q⟩⟩
 exact J'.turned (t':=s'.toks) (it:=C) (fun b o hb e=>sb.extBut b o hb e) hC n1 (.inr n3) n2 n4
theorem Av {i:Nat}{y:Str}{py spos:Pos}(hc:X.calm=true)(S:c7 X NB own ixs scope)(hi:PI X tg iter wi)
  (hg:∀C ex s3 H3 pn,PG (iJ X NB scope C ex s3 H3 pn) tg g) (ht:∀C ex s3 H3 pn,Ce (iJ X NB scope C ex s3 H3 pn) ifs tt) (he:∀C ex s3 H3 pn,PE (iJ X NB scope C ex s3 H3 pn) elt te)
  (hN:X.N.Nodup) (hy:X.N[i]? =some y) (hl:X.env.scope.names.lookup y=some .local)
  (hsw:swapsWith (.ListComp elt [⟨tg,iter,ifs,0⟩] scope pos) (some (.Name y py)) spos.line X.env=pure true)
  (hs:∀x,foldedSetIterable iter X.env x=pure x:=by intro _;rfl) :
  PS X (.Assign [.Name y py] (.ListComp elt [⟨tg,iter,ifs,0⟩] scope pos) spos) (fun D σ H=>vS own ixs wi g tt te σ H fun v H'=>D.nx (σ.set i (some v)) H'):=by
 intro pins s σ H D I h
 rw[exec_Assign_Name_used _ _ _ _ hsw]
 refine wpAny_bind (wpAny_standAt (wpAny_bind ?_))
 show wpAny _ X.A (comprehension (.ListComp elt [⟨tg,iter,ifs,0⟩] scope pos) scope X.env _ (newList []) false (eval iter X.env) (some (assign (.Name y py) X.env)) >>= fun _=>pure ()) _ _ s
 refine wpAny_bind (wpAny_mono (wpAny_comprehension_free (use:=some (assign (.Name y py) X.env)) (Q:=fun _ s'=>SP X pins D .next s') rfl hs (o8 fun y hy e=>I.ok.has _ (S.frees y hy e)) S.kind (fun y hy e=>by rw[S.names y hy,e]) ?_)
  (fun _ s' hq=>wpAny_pure (wpAny_pure hq)) fun _ _ e=>e)
 refine cK (hi pins s σ H _ I h) fun v s1 h1=>cK h1 fun itv s2 h2=>?_
 obtain⟨it,fp,tn,J,H2,e,I2,T,st2,f2,q2⟩:=h2
 subst e
 refine qZ hc S hg ht he I2 T st2 f2 q2 (Q:=fun v H'=>D.nx (σ.set i (some v)) H') (RR:=fun acc C=>compPost (model X.prog X.w) X.A X.xe (some (assign (.Name y py) X.env)) (fun _ s'=>SP X pins D .next s') acc C) fun D' C H' s' m J' q hn hC n1 n2 n3 n4=>?_
 show wpAny _ X.A (assign (.Name y py) X.env (.ref D')) _ _ s'
 refine wpAny_assign_Name (qS J' hN hy (.inl hl) (v:=.ref D') rfl (fun s'' I'' ⟨a,sb,ha⟩=>?_) (.inr hl))
 have hCa:C≠a:=by
  rcases ha with z |z
  ·rw[z];exact n1
  ·exact (n2 _ _ z).symm
 refine⟨m,hn.sameBut sb hCa,fun h3 sb3=>⟨_,H',?_,q⟩⟩
 exact I''.turned (t':=s''.toks) (it:=C) (fun b o hb e=>sb3.extBut b o hb e) hC n1 (.inr n3) n2 n4
end
section
variable {own:Nat}{ixs:List Nat}{g:TG}{tt:TT}{te:TE}{σ:St}{H:Hp}{Q:VK}{K:PySem.W.Frag}{D a:Addr}{xs:List V}
abbrev eT (g:TG)(tt:TT)(te:TE)(D:Addr)(x:V)(σ:St)(H:Hp)(N:St->Hp->Prop):Prop:=g x σ H fun σ3 H3=>tt σ3 H3 fun b H4=>
  if b=true then te σ3 H4 fun v H5=>∃acc,H5 D=some (.lst acc)/\acc.length < sizeLine/\N σ3 (upd H5 D (.lst (acc ++ [v]))) else N σ3 H4
theorem zH (Pv:Nat->St->Hp->Prop)(h0:Pv 0 (bJ own ixs σ) (upd H D (.lst [])))(hl:∀i σ H,i<=xs.length->Pv i σ H->gk K H a xs)
  (hs:∀i x σ H,xs[i]? =some x->Pv i σ H->eT g tt te D x σ H (Pv (i + 1))) (hd:∀σ H,Pv xs.length σ H->(∃acc,H D=some (.lst acc))/\Q (.ref D) H) :
  ∃W:Nat->Nat->St->Hp->Prop,(∃m,W 0 m (bJ own ixs σ) (upd H D (.lst [])))/\∀i m σ' H',W i m σ' H'->
   ((zO K a).stop i H'/\(∃acc,H' D=some (.lst acc))/\Q (.ref D) H')\/
   ((zO K a).go i H'/\∃N:St->Hp->Prop,(∀σ2 H2,N σ2 H2->∃m',m' < m/\W (i + 1) m' σ2 H2)/\∀x H2,(zO K a).yld i H' x H2->eT g tt te D x σ' H2 N):=by
 refine⟨fun i m σ H=>m=xs.length - i/\i<=xs.length/\Pv i σ H,⟨xs.length,by simp,Nat.zero_le _,h0⟩,?_⟩
 rintro i m σ H ⟨rfl,hi,p⟩
 have q:=hl i σ H hi p
 by_cases hlt:i < xs.length
 ·refine .inr ⟨⟨xs,xs[i],q,by simp[hlt]⟩,Pv (i + 1),fun σ' H' p'=>⟨xs.length - (i + 1),by omega,rfl,hlt,p'⟩,fun x H' y=>?_⟩
  obtain⟨e,y⟩:=y
  subst e
  exact hs i x σ _ (y xs q) p
 ·have e:i=xs.length:=by omega
  subst e
  exact .inl ⟨⟨xs,q,Nat.le_refl _⟩,hd σ H p⟩
theorem vH {lo:Int}{n:Nat}(Pv:Nat->St->Hp->Prop)(h0:Pv 0 (bJ own ixs σ) (upd H D (.lst [])))
  (hs:∀i σ H,i < n->Pv i σ H->eT g tt te D (.int (lo + i)) σ H (Pv (i + 1))) (hd:∀σ H,Pv n σ H->(∃acc,H D=some (.lst acc))/\Q (.ref D) H) :
  ∃W:Nat->Nat->St->Hp->Prop,(∃m,W 0 m (bJ own ixs σ) (upd H D (.lst [])))/\∀i m σ' H',W i m σ' H'->
   ((zk lo n).stop i H'/\(∃acc,H' D=some (.lst acc))/\Q (.ref D) H')\/
   ((zk lo n).go i H'/\∃N:St->Hp->Prop,(∀σ2 H2,N σ2 H2->∃m',m' < m/\W (i + 1) m' σ2 H2)/\∀x H2,(zk lo n).yld i H' x H2->eT g tt te D x σ' H2 N):=by
 refine⟨fun i m σ H=>m=n - i/\i<=n/\Pv i σ H,⟨n,by simp,Nat.zero_le _,h0⟩,?_⟩
 rintro i m σ H ⟨rfl,hi,p⟩
 by_cases hlt:i < n
 ·refine .inr ⟨hlt,Pv (i + 1),fun σ' H' p'=>⟨n - (i + 1),by omega,rfl,hlt,p'⟩,fun x H' y=>?_⟩
  obtain⟨e,y⟩:=y
  subst e y
  exact hs i σ _ hlt p
 ·have e:i=n:=by omega
  subst e
  exact .inl ⟨Nat.le_refl _,hd σ H p⟩
end
end L2

end

section
namespace L2
open PySem PySem.Spec PyProof.Rows
mutual
inductive Rep (K:PySem.W.Frag)(H:Hp):V->PyData->Prop
 |non:Rep K H .non .none
 |bl (b:Bool):Rep K H (.bl b) (.bool b)
 |int (i:Int):Rep K H (.int i) (.int i)
 |str (x:Str):Rep K H (.str x) (.str x)
 |tup {a:Addr} {xs:List V} {ds:List PyData}:fy K H a xs->iW K H xs ds->Rep K H (.ref a) (.tuple ds)
 |lst {a:Addr} {xs:List V} {ds:List PyData}:gk K H a xs->iW K H xs ds->Rep K H (.ref a) (.list ds)
inductive iW (K:PySem.W.Frag)(H:Hp):List V->List PyData->Prop
 |nil:iW K H [] []
 |cons {x:V} {xs:List V} {d:PyData} {ds:List PyData}:Rep K H x d->iW K H xs ds->iW K H (x :: xs) (d :: ds)
end
section
variable {X:Cx}{pins:List (Addr×Obj)}{σ:St}{H H':Hp}{s:Shared}
mutual
theorem Rep.reads (I:Inv X pins σ H s):∀{x:V} {d:PyData} {u:Value},Rep X.K H x d->RelV x u->∃as,Reads s.heap u d as
 |_,_,_,.non,r=>by cases r;exact⟨_,.none⟩
 |_,_,_,.bl b,r=>by cases r;exact⟨_,.bool b⟩
 |_,_,_,.int i,r=>by obtain⟨t,rfl⟩:=r;exact⟨_,.int i t⟩
 |_,_,_,.str x,r=>by obtain⟨t,rfl⟩:=r;exact⟨_,.str x t⟩
 |_,_,_,.tup h hs,r=>by
  cases r
  obtain⟨its,rv,⟨o,ho,hc,n,hd⟩,_⟩:=I.tuple h
  obtain⟨as,q⟩:=iW.reads I hs rv
  exact⟨_,.tuple ho hc hd (by simpa using q)⟩
 |_,_,_,.lst h hs,r=>by
  cases r
  obtain⟨its,rv,pl,_⟩:=I.list h
  obtain⟨o,ho,hc,n,hd⟩:=pl.isList
  obtain⟨as,q⟩:=iW.reads I hs rv
  exact⟨_,.list ho hc hd (by simpa using q)⟩
theorem iW.reads (I:Inv X pins σ H s):∀{xs:List V} {ds:List PyData} {us:List Value},iW X.K H xs ds->Vals xs us->∃as,ReadsAll s.heap us ds as
 |_,_,_,.nil,r=>by cases r;exact⟨_,.nil⟩
 |_,_,_,.cons h hs,r=>by
  cases r with
  |cons r1 r2=>
   obtain⟨as,q⟩:=Rep.reads I h r1
   obtain⟨bs,q'⟩:=iW.reads I hs r2
   exact⟨_,.cons q q'⟩
end
def GC (K:PySem.W.Frag)(neg:Bool):R2:=fun x y H Q=>∃d e,Rep K H x d/\Rep K H y e/\SeqAt.shaped d=true/\SeqAt.shaped e=true/\Q (.bl (if neg then !PyData.eqv d e else PyData.eqv d e)) H
theorem cv (hu:X.A.units + 64 < cLine):lG X (compareOp .Eq) (GC X.K false):=by
 intro pins s σ H x y v u Q I rx ry h
 obtain⟨d,e,h1,h2,s1,s2,q⟩:=h
 obtain⟨as,r1⟩:=h1.reads I rx
 obtain⟨bs,r2⟩:=h2.reads I ry
 exact SeqAt.compareEq_shaped r1 r2 s1 s2 hu ⟨.bl _,H,I,rfl,q⟩
theorem iF (hu:X.A.units + 64 < cLine):lG X (compareOp .NotEq) (GC X.K true):=by
 intro pins s σ H x y v u Q I rx ry h
 obtain⟨d,e,h1,h2,s1,s2,q⟩:=h
 obtain⟨as,r1⟩:=h1.reads I rx
 obtain⟨bs,r2⟩:=h2.reads I ry
 exact SeqAt.compareNe_shaped r1 r2 s1 s2 hu ⟨.bl _,H,I,rfl,q⟩
def Gq (K:PySem.W.Frag)(neg:Bool):R2:=fun x y H Q=>∃p xs d ds,y=.ref p/\(gk K H p xs\/fy K H p xs)/\iW K H xs ds/\Rep K H x d/\SeqAt.shaped d=true/\(∀e,e∈ds->SeqAt.shaped e=true)/\
 Q (.bl (if neg then !(ds.any fun e=>PyData.eqv e d) else ds.any fun e=>PyData.eqv e d)) H
theorem iW.at' {K:PySem.W.Frag}:∀{xs:List V} {ds:List PyData} {i:Nat} {x:V},iW K H xs ds->xs[i]? =some x->∃d,ds[i]? =some d/\Rep K H x d
 |_,_,_,_,.nil,e=>by simp at e
 |_,_,0,_,.cons r _,e=>by simp at e;subst e;exact⟨_,rfl,r⟩
 |_,_,i + 1,x,.cons _ t,e=>by
  obtain⟨u,h1,h2⟩:=iW.at' (i:=i) (x:=x) t (by simpa using e)
  exact⟨u,by simpa using h1,h2⟩
theorem iW.len {K:PySem.W.Frag}:∀{xs:List V} {ds:List PyData},iW K H xs ds->xs.length=ds.length
 |_,_,.nil=>rfl
 |_,_,.cons _ t=>by simp[iW.len t]
open Classical in
theorem lP (I:Inv X pins σ H s)(d:PyData):∀{xs:List V} {us:List Value} {ds:List PyData},Vals xs us->iW X.K H xs ds->(∀e,e∈ds->SeqAt.shaped e=true)->∃f:Value->Bool,us.any f=(ds.any fun e=>PyData.eqv e d)/\∀u,u∈us->∃e as,e∈ds/\Reads s.heap u e as/\f u=PyData.eqv e d:=by
 intro xs us ds hv hr hs
 let f:Value->Bool:=fun u=>if h:∃e as,SeqAt.shaped e=true/\Reads s.heap u e as then PyData.eqv (Classical.choose h) d else false
 have hf:∀{u:Value} {e:PyData} {as:List Addr},SeqAt.shaped e=true->Reads s.heap u e as->f u=PyData.eqv e d:=fun {u e as} h1 h2=>by
  have hx:∃e as,SeqAt.shaped e=true/\Reads s.heap u e as:=⟨e,as,h1,h2⟩
  show (if h:∃e as,SeqAt.shaped e=true/\Reads s.heap u e as then PyData.eqv (Classical.choose h) d else false)=_
  rw[dif_pos hx]
  obtain⟨bs,q1,q2⟩:=Classical.choose_spec hx
  rw[SeqAt.Reads.unique _ _ _ _ _ (SeqAt.canLay_of_shaped q1) q2 h2]
 refine⟨f,?_,?_⟩
 ·induction hv generalizing ds with
  |nil=>cases hr;rfl
  | @cons x u xs us r1 r2 ih=>
   cases hr with
   | @cons _ _ e es h1 h2=>
    obtain⟨as,q⟩:=h1.reads I r1
    rw[List.any_cons,List.any_cons,hf (hs e (List.mem_cons_self ..)) q,ih h2 fun z hz=>hs z (List.mem_cons_of_mem _ hz)]
 ·intro u hu
  obtain⟨i,hi,e0⟩:=List.mem_iff_getElem.mp hu
  have hi':i < xs.length:=by rw[hv.length];exact hi
  obtain⟨u',eu,ru⟩:=hv.get (List.getElem?_eq_getElem hi')
  rw[List.getElem?_eq_getElem hi,e0] at eu
  cases eu
  obtain⟨e,ee,re⟩:=iW.at' hr (List.getElem?_eq_getElem hi')
  obtain⟨as,q⟩:=re.reads I ru
  have hm:=List.mem_of_getElem? ee
  exact⟨e,as,hm,q,hf (hs e hm) q⟩
theorem sM (hu:X.A.units + 100 < cLine):lG X (compareOp .In) (Gq X.K false):=by
 intro pins s σ H x y v u Q I rx ry h
 obtain⟨p,xs,d,ds,rfl,hq,hs,hx,s1,s2,q⟩:=h
 cases ry
 obtain⟨bs,r2⟩:=hx.reads I rx
 have key:∀{e:PyData} {as:List Addr} {u:Value},SeqAt.shaped e=true->Reads s.heap u e as->SeqAt.EqAt X.A.in1 s u v (PyData.eqv e d):=fun {e as u} h1 h2=>by
  refine SeqAt.eqAt_reads _ _ _ _ _ _ _ _ h2 r2 (SeqAt.canLay_of_shaped h1) (SeqAt.canLay_of_shaped s1) ?_
  have:=SeqAt.depth_of_shaped h1
  show X.A.units + 1 + _ < _
  omega
 rcases hq with hq |hq
 ·obtain⟨its,r,pl,hz⟩:=I.list hq
  obtain⟨f,e1,e2⟩:=lP I d r hs s2
  refine SeqAt.in_listAt f pl.isList (fun w hw=>?_) ⟨.bl _,H,I,rfl,?_⟩
  ·obtain⟨e,as,hm,rd,ef⟩:=e2 w (by simpa using hw)
   rw[ef];exact key (s2 e hm) rd
  ·rw[show its.toArray.any f=its.any f by simp,e1];exact q
 ·obtain⟨its,r,pl,hz⟩:=I.tuple hq
  obtain⟨f,e1,e2⟩:=lP I d r hs s2
  refine SeqAt.in_tupleAt f pl (fun w hw=>?_) ⟨.bl _,H,I,rfl,?_⟩
  ·obtain⟨e,as,hm,rd,ef⟩:=e2 w (by simpa using hw)
   rw[ef];exact key (s2 e hm) rd
  ·rw[show its.toArray.any f=its.any f by simp,e1];exact q
inductive Dt (K:PySem.W.Frag)(H:Hp):V->String->Prop
 |non:Dt K H .non "NoneType"
 |bl (b:Bool):Dt K H (.bl b) "bool"
 |int (i:Int):Dt K H (.int i) "int"
 |str (x:Str):Dt K H (.str x) "str"
 |tup {a:Addr} {xs:List V}:fy K H a xs->Dt K H (.ref a) "tuple"
 |lst {a:Addr} {xs:List V}:gk K H a xs->Dt K H (.ref a) "list"
 |dic {a:Addr} {kvs:List (Key×V)}:H a=some (.dK kvs)->Dt K H (.ref a) "dict"
def JZ (K:PySem.W.Frag):List V->Hp->VK->Prop:=fun xs H Q=>∃x T t b,xs= [x,.ty T]/\Dt K H x t/\PySem.W.kitOne K (.type t) (.type T)=some b/\Q (.bl b) H
theorem Co:cX X (.builtin "isinstance") (JZ X.K):=by
 intro pins s σ H xs us Q I r h
 obtain⟨x,T,t,b,rfl,ty,e,q⟩:=h
 obtain⟨u,c,rfl,rx,rc⟩:=vals2 r
 cases rc
 have fin:∀tk,EP X pins σ Q (.bool b) {s with toks:=tk}:=fun tk=>⟨.bl b,H,I.tok tk,rfl,q⟩
 cases ty with
 |non=>exact iV I rx .non e fin
 |bl b=>exact iV I rx (.bl b) e fin
 |int i=>exact iV I rx (.int i) e fin
 |str z=>exact iV I rx (.str z) e fin
 |dic hk=>exact iV I rx (.dK hk) e fin
 |tup hq=>
  cases rx
  obtain⟨its,rv,⟨o,h1,h2,_⟩,_⟩:=I.tuple hq
  exact PySem.W.kia_one PySem.W.kitx_tuple I.kIn ⟨o,h1,h2⟩ e (fun z=>nomatch z) fin
 |lst hq=>
  cases rx
  obtain⟨its,rv,pl,_⟩:=I.list hq
  obtain⟨o,h1,h2,_⟩:=pl.isList
  exact PySem.W.kia_one PySem.W.kitx_list I.kIn ⟨o,h1,h2⟩ e (fun z=>nomatch z) fin
theorem uX {A:Around}{its:List Value}{bs:List Bool}(hv:Vals (bs.map V.bl) its):TruthOf X.prog X.w A (fun i v=>its[i]? =some v) (fun i=>bs.getD i false):=fun i v s Q E hi hq=>by
 have hl:=hv.length
 have hi2:i < bs.length:=by
  have:=(List.getElem?_eq_some_iff.mp hi).1
  rw[<-hl] at this;simpa using this
 obtain⟨u,eu,ru⟩:=hv.get (i:=i) (x:=.bl bs[i]) (by simp[hi2])
 rw[hi] at eu;cases eu
 cases ru
 refine wpAny_truthy_bool ?_
 have:bs.getD i false=bs[i]:=by simp[hi2]
 rw[<-this];exact hq
theorem range_all (bs:List Bool):(List.range bs.length).all (fun i=>bs.getD i false)=bs.all id:=by
 induction bs with
 |nil=>rfl
 |cons b bs ih=>
  rw[List.length_cons,List.range_succ_eq_map,List.all_cons,List.all_map,List.all_cons,<-ih]
  rfl
theorem range_any (bs:List Bool):(List.range bs.length).any (fun i=>bs.getD i false)=bs.any id:=by
 induction bs with
 |nil=>rfl
 |cons b bs ih=>
  rw[List.length_cons,List.range_succ_eq_map,List.any_cons,List.any_map,List.any_cons,<-ih]
  rfl
def w9 (K:PySem.W.Frag)(f:List Bool->Bool):List V->Hp->VK->Prop:=fun xs H Q=>∃a bs,xs= [.ref a]/\gk K H a (bs.map V.bl)/\Q (.bl (f bs)) H
theorem pJ (hc:X.calm=true){a:Addr}{bs:List Bool}{Q:VK}(I:Inv X pins σ H s)(hq:gk X.K H a (bs.map V.bl)){f:List Bool->Bool}{g:(Nat->Bool)->Nat->Bool}(hfg:g (fun i=>bs.getD i false) bs.length=f bs)(q:Q (.bl (f bs)) H) :
  wpAny (model X.prog X.w) X.A.in1 (pyIter (.ref a)) (fun it s2=>∃Ii fp wr n P St tr,it=.ref Ii/\Walks X.prog X.w X.A.in1 Ii fp wr n P St/\St 0 s2.heap/\TruthOf X.prog X.w X.A.in1 P tr/\
   ∀h' tk,(∀b o,b∉wr->s2.heap.get? b=some o->h'.get? b=some o)->EP X pins σ Q (.bool (g tr n)) {s2 with heap:=h',toks:=tk}) X.xe s:=by
 obtain⟨its,rv,pl,hz⟩:=I.list hq
 have hh:X.A.in1.handled=none:=I.ok.hd hc
 have hlen:its.length=bs.length:=by rw[<-rv.length];simp
 obtain⟨o,ho,_⟩:=id pl.isList
 refine wpAny_pyIter_list pl.isList ?_
 have W:=Walks.list (prog:=X.prog) (w:=X.w) hh s.heap.objs.size a (Nat.ne_of_lt (Heap.lt_size ho)) its.toArray
 refine⟨s.heap.objs.size,_,_,_,_,_,fun i=>bs.getD i false,rfl,W,⟨⟨_,Heap.get?_push_size _ rfl,rfl,rfl⟩,pl.isList.push _⟩,?_,fun h' tk k=>?_⟩
 ·have:=uX (X:=X) (A:=X.A.in1) rv
  simpa using this
 ·have e:its.toArray.size=bs.length:=by simpa using hlen
  rw[e,hfg]
  have I1:Inv X pins σ H {s with heap:=s.heap.push {cls:=.type "list_iterator",data:=.fields #[.ref a,.int 0 0]}}:=I.kept (t':=s.toks) fun b o e=>Heap.get?_push_of_some _ e
  have hf:H s.heap.objs.size=none:=I.hok.fresh (Nat.le_refl _)
  have fp:=I.fpOk (H':=H) (b:=s.heap.objs.size) (Nat.le_refl _) hf
  refine⟨.bl _,H,I1.turned (it:=s.heap.objs.size) (t':=tk) (fun b o hb e=>k b o (by simpa using hb) e) hf fp.2.1 fp.2.2.2.1 fp.2.2.2.2.1 fp.2.2.2.2.2,rfl,q⟩
theorem fQ (hc:X.calm=true):cX X (.builtin "all") (w9 X.K fun bs=>bs.all id):=by
 intro pins s σ H xs us Q I r h
 obtain⟨a,bs,rfl,hq,q⟩:=h
 obtain⟨u,rfl,rx⟩:=vals1 r
 cases rx
 exact call_all_walk (pJ hc I hq (f:=fun bs=>bs.all id) (g:=fun tr n=>(List.range n).all tr) (range_all bs) q)
theorem B4 (hc:X.calm=true):cX X (.builtin "any") (w9 X.K fun bs=>bs.any id):=by
 intro pins s σ H xs us Q I r h
 obtain⟨a,bs,rfl,hq,q⟩:=h
 obtain⟨u,rfl,rx⟩:=vals1 r
 cases rx
 exact call_any_walk (pJ hc I hq (f:=fun bs=>bs.any id) (g:=fun tr n=>(List.range n).any tr) (range_any bs) q)
theorem BJ:cX X (.type "range") (fun xs H Q=>∃n:Int,xs= [.int n]/\∀p,H p=none->Q (.ref p) (upd H p (.eZ 0 n))):=by
 intro pins s σ H xs us Q I r h
 obtain⟨n,rfl,q⟩:=h
 obtain⟨u,rfl,rx⟩:=vals1 r
 obtain⟨t,rfl⟩:=rx
 refine call_range_1 ⟨.ref s.heap.objs.size,upd H s.heap.objs.size (.eZ 0 n),?_,rfl,q _ (I.hok.fresh (Nat.le_refl _))⟩
 exact I.laid (fun b o e=>Heap.get?_push_of_some _ e) (Nat.le_refl _) ⟨_,_,_,Heap.get?_push_size _ rfl⟩
theorem p4 (hc:X.calm=true):cX X (.type "list") (fun xs H Q=>∃p n,xs= [.ref p]/\H p=some (.eZ 0 n)/\0<=n/\n<=1000/\∀l,H l=none->Q (.ref l) (upd H l (.lst ((List.range n.toNat).map fun (i:Nat)=>V.int (i:Int))))):=by
 intro pins s σ H xs us Q I r h
 obtain⟨p,n,rfl,hp,h0,h1,q⟩:=h
 obtain⟨u,rfl,rx⟩:=vals1 r
 cases rx
 obtain⟨t,u,v,hr⟩:∃t u v,s.heap.get? p=some {cls:=.type "range",data:=.fields #[.int 0 t,.int n u,.int 1 v]}:=I.hok p _ hp
 have hsz:Builtin.Range.rangeSize 0 n 1=(n.toNat:Int):=by rw[rangeSize_one];split <;> omega
 refine call_list_range (I.ok.hd hc) hr (small_one (by omega) (by omega) (by omega) (by omega)) hsz (by omega) fun h' tk acc c k hS hacc=>?_
 have hv:Vals ((List.range n.toNat).map fun (i:Nat)=>V.int (i:Int)) acc.toList:=by
  have key:∀(m:Nat) (us:List Value) (j:Nat),us.length=m->(∀(i:Nat) (v:Value),us[i]? =some v->∃t,v=Value.int ((j + i:Nat):Int) t)->Vals ((List.range' j m).map fun (i:Nat)=>V.int (i:Int)) us:=by
   intro m
   induction m with
   |zero=>intro us j hl _;cases us with
    |nil=>exact .nil
    |cons a b=>simp at hl
   |succ m ih=>
    intro us j hl hh
    cases us with
    |nil=>simp at hl
    |cons u us=>
     rw[List.range'_succ,List.map_cons]
     refine .cons (by have:=hh 0 u rfl;simp at this;exact this) (ih us (j + 1) (by simpa using hl) fun i v hi=>?_)
     obtain⟨t,e⟩:=hh (i + 1) v (by simpa using hi)
     exact⟨t,by rw[e];congr 2;omega⟩
  have:=key n.toNat acc.toList 0 (by simpa using hacc.1) fun i v hi=>by
   obtain⟨t,e⟩:=hacc.2 i v (by simpa using hi)
   exact⟨t,by rw[e];simp⟩
  rw[List.range_eq_range'];exact this
 refine⟨.ref s.heap.objs.size,_,I.laid (t':=tk) k (Nat.le_refl _) (show cB X.prog X.w _ h' _ (.lst _) from⟨by simp;rw[sizeLine_eq];omega,acc.toList,c,hv,by simpa using hS⟩),rfl,q _ (I.hok.fresh (Nat.le_refl _))⟩
end
end L2

end

section
namespace L2
open PySem PySem.Spec PyProof.Rows
def Rc (h:Heap)(e:Addr)(cls:Value)(T:Addr)(fl:Value):Prop:=∃oe vs oT ts,h.get? e=some oe/\oe.cls=cls/\oe.dict=none/\oe.data=.fields vs/\vs[1]? =some (.ref T)/\T≠e/\h.get? T=some oT/\oT.data=.fields ts/\ts[3]? =some fl
abbrev Keeps (F:List Addr)(ch:List Addr)(h h':Heap):Prop:=∀b o,h.get? b=some o->b∉F->b∉ch->h'.get? b=some o
abbrev Slots (F:List Addr)(h h':Heap):Prop:=∀b o,h.get? b=some o->b∈F->∃sl,h'.get? b=some {o with slots:=sl}
section
variable {M:Model}{A:Around}{E:Value->Shared->Prop}{s:Shared}{base:Heap}{env:Env}{outer:List Env}{L e:Addr}{cls:Value}{Q:Unit->Shared->Prop}
theorem A2 {oe:Obj}{vs:Array Value}{head:Value}{hadNext:Bool}(hfr:A.frames=some (env :: outer))(hl:s.heap.FunFrames base (env :: outer))(hf:env.frame=some L)(he:s.heap.get? e=some oe)(hc:oe.cls=cls)(hdd:oe.dict=none)(hd:oe.data=.fields vs)(hsz:1 < vs.size)
  (h:∀h' T,Keeps (iO (env :: outer)) [e] s.heap h'->Slots (iO (env :: outer)) s.heap h'->s.heap.get? T=none->Rc h' e cls T (rawInt L)->Q () {s with heap:=h'}) :
  wpAny M A (do let a <-frameOf env;let pl <-entryPlaceOf L hadNext;let b <-EntryCells.newEntry head a .none (rawInt L) .none pl;setField (.ref e) 1 b) Q E s:=by
 have eF:e∉iO (env :: outer):=fun z=>by
  obtain⟨_,o,q,n⟩:=hl.mem z
  rw[he] at q;cases q;exact n _ hd
 refine wpAny_bind (wpAny_frameOf_fun hfr hl hf fun h1 s1=>?_)
 refine wpAny_bind (wpAny_entryPlaceOf fun pl hpl=>?_)
 unfold EntryCells.newEntry newFields
 refine wpAny_bind (wpAny_newObj_type ?_ (hpl.sizeOk5 _ _ _ _ _))
 have e1:h1.get? e=some oe:=(s1.2.1 e eF).trans he
 have e2:=Heap.get?_push_of_some (h:=h1) {cls:=.type "traceback",dict:=none,data:=.fields ([head,.ref L,.none,rawInt L,.none] ++ (if pl.isEmpty then List.replicate 6 Value.none else pl)).toArray} e1
 have tn:h1.objs.size≠e:=Nat.ne_of_gt (Heap.lt_size e1)
 refine wpAny_setField e2 hd hsz (h _ h1.objs.size (fun b o q hb hn=>?_) (fun b o q hb=>?_) ?_ ?_)
 ·have hbe:b≠e:=by simpa using hn
  have q1:h1.get? b=some o:=(s1.2.1 b hb).trans q
  rw[Heap.get?_update_other _ _ (Ne.symm hbe)]
  exact Heap.get?_push_of_some _ q1
 ·obtain⟨sl,q1⟩:=s1.2.2 b o q
  have hbe:b≠e:=fun z=>eF (z▸hb)
  refine⟨sl,?_⟩
  rw[Heap.get?_update_other _ _ (Ne.symm hbe)]
  exact Heap.get?_push_of_some _ q1
 ·cases q:s.heap.get? h1.objs.size with
  |none=>rfl
  |some o=>obtain⟨sl,q1⟩:=s1.2.2 _ o q;exact absurd (Heap.lt_size q1) (Nat.lt_irrefl _)
 ·have d3:=Obj.data_mapFields hd (·.setIfInBounds 1 (Value.ref h1.objs.size))
  have e3:=Heap.get?_update_self (Obj.mapFields (·.setIfInBounds 1 (Value.ref h1.objs.size))) e2 (Obj.isFreed_of_fields d3)
  refine⟨_,_,_,_,e3,(Obj.cls_mapFields _ _).trans hc,?_,d3,by simp[hsz],tn,(Heap.get?_update_other _ _ (Ne.symm tn)).trans (Heap.get?_push_size h1 rfl),rfl,?_⟩
  ·unfold Obj.mapFields
   split <;> exact hdd
  ·rcases hpl with rfl | ⟨_,_,_,_,_,_,_,rfl⟩ <;> simp
theorem xj {oe:Obj}{vs:Array Value}(hfr:A.frames=some (env :: outer))(hl:s.heap.FunFrames base (env :: outer))(hf:env.frame=some L)(he:s.heap.get? e=some oe)(hc:oe.cls=cls)(hdd:oe.dict=none)(hd:oe.data=.fields vs)(h1:vs[1]? =some .none)
  (h:∀h' T,Keeps (iO (env :: outer)) [e] s.heap h'->Slots (iO (env :: outer)) s.heap h'->s.heap.get? T=none->Rc h' e cls T (rawInt L)->Q () {s with heap:=h'}):wpAny M A (noteFrame (.ref e) env) Q E s:=by
 unfold noteFrame
 simp only[hf]
 refine wpAny_bind (wpAny_field he hd h1 ?_)
 rw[if_neg (by decide)]
 exact A2 hfr hl hf he hc hdd hd (Array.getElem?_eq_some_iff.mp h1).1 h
theorem y9 {T0:Addr}(hfr:A.frames=some (env :: outer))(hl:s.heap.FunFrames base (env :: outer))(hf:env.frame=some L)(r:Rc s.heap e cls T0 .none)
  (h:∀h' T,Keeps (iO (env :: outer)) [e,T0] s.heap h'->Slots (iO (env :: outer)) s.heap h'->(s.heap.get? T=none\/T=T0)->Rc h' e cls T (rawInt L)->Q () {s with heap:=h'}):wpAny M A (noteFrame (.ref e) env) Q E s:=by
 obtain⟨oe,vs,oT,ts,he,hc,hdd,hd,h1,hTe,hT,hdT,h3⟩:=r
 have tF:T0∉iO (env :: outer):=fun z=>by
  obtain⟨_,o,q,n⟩:=hl.mem z
  rw[hT] at q;cases q;exact n _ hdT
 unfold noteFrame
 simp only[hf]
 refine wpAny_bind (wpAny_field he hd h1 ?_)
 rw[if_pos (show (Value.ref T0 != Value.none)=true from by simp)]
 refine wpAny_bind (wpAny_field hT hdT h3 ?_)
 rw[if_neg (show ¬((Value.none == rawInt L)=true) from by simp[rawInt])]
 refine wpAny_bind (wpAny_setField hT hdT (Array.getElem?_eq_some_iff.mp h3).1 ?_)
 have oth:∀b,b≠T0->(s.heap.update T0 (Obj.mapFields (·.setIfInBounds 3 Value.none))).get? b=s.heap.get? b:=fun b hb=>Heap.get?_update_other _ _ (Ne.symm hb)
 have nf:∀b o,s.heap.get? b=some o->(∀ws,o.data≠.fields ws)->b≠T0:=fun b o q n z=>by
  rw[z,hT] at q;cases q;exact n _ hdT
 refine A2 (base:=base) hfr (hl.of_keeps fun b o q n=>⟨o,(oth b (nf b o q n)).trans q,rfl⟩) hf ((oth e (Ne.symm hTe)).trans he) hc hdd hd (Array.getElem?_eq_some_iff.mp h1).1 fun h' T kp sl tn rc=>?_
 refine h h' T (fun b o q hb hn=>?_) (fun b o q hb=>?_) ?_ rc
 ·simp only[List.mem_cons,List.not_mem_nil,or_false,not_or] at hn
  exact kp b o ((oth b hn.2).trans q) hb (by simp[hn.1])
 ·exact sl b o ((oth b fun z=>tF (z▸hb)).trans q) hb
 ·by_cases z:T=T0
  ·exact .inr z
  ·exact .inl ((oth T z).symm.trans tn)
theorem xT {T:Addr}{fl:Value}(r:Rc s.heap e cls T fl)(h:∀h',Keeps [] [T] s.heap h'->Rc h' e cls T .none->Q () {s with heap:=h'}):wpAny M A (setFlight (.ref e) none) Q E s:=by
 obtain⟨oe,vs,oT,ts,he,hc,hdd,hd,h1,hTe,hT,hdT,h3⟩:=r
 have sz:3 < ts.size:=(Array.getElem?_eq_some_iff.mp h3).1
 unfold setFlight
 refine wpAny_bind (wpAny_field he hd h1 ?_)
 rw[if_pos (show (Value.ref T != Value.none)=true from by simp)]
 refine wpAny_setField hT hdT sz (h _ (fun b o q _ hn=>?_) ?_)
 ·have hb:b≠T:=by simpa using hn
  exact (Heap.get?_update_other _ _ (Ne.symm hb)).trans q
 ·have d3:=Obj.data_mapFields hdT (·.setIfInBounds 3 ((none:Option Addr).elim Value.none fun f=>rawInt f))
  exact⟨oe,vs,_,_,(Heap.get?_update_other _ _ hTe).trans he,hc,hdd,hd,h1,hTe,Heap.get?_update_self _ hT (Obj.isFreed_of_fields d3),d3,by simp[sz]⟩
end
end L2

end

section
namespace L2
open PySem PySem.Spec PyProof.Rows
section
variable {P:Program}{w:World}
theorem cB.there {H:Hp}{h:Heap}{a:Addr}{o:HO}(x:cB P w H h a o):∃u,h.get? a=some u:=by
 cases o with
 |lst xs=>obtain⟨_,_,_,_,e⟩:=x;exact⟨_,e⟩
 |tup xs=>obtain⟨_,_,_,u,e,_⟩:=x;exact⟨u,e⟩
 |dK kvs=>obtain⟨_,_,_,_,o,_,_,e,_⟩:=x;exact⟨_,e⟩
 |dT kvs=>obtain⟨_,_,_,_,o,_,_,e,_⟩:=x;exact⟨_,e⟩
 |set S n=>obtain⟨o,_,_,_,e,_⟩:=x;exact⟨_,e⟩
 |ins C dx fs=>obtain⟨_,_,_,e,_⟩:=x;exact⟨_,e⟩
 |own y=>obtain⟨_,e⟩:=x;exact⟨_,e⟩
 |xd fs=>obtain⟨_,⟨_,_,_,e,_⟩,_⟩:=x;exact⟨_,e⟩
 |eZ lo hi=>obtain⟨_,_,_,e⟩:=x;exact⟨_,e⟩
 |bo ob u=>obtain⟨e,_⟩:=x;exact⟨_,e⟩
 |tbl ps=>exact⟨_,show h.get? a=some _ from x⟩
 |met f y=>exact⟨_,show h.get? a=some _ from x⟩
 |ext φ=>obtain⟨_,⟨_,e⟩,_⟩:=x;exact⟨_,e⟩
end
structure Lies (h₀:Heap)(H:Hp)(h:Heap)(e:Addr)(cls:Value):Prop where
 free:H e=none
 new:h₀.get? e=none
 ob:∃T,Rc h e cls T .none/\H T=none/\h₀.get? T=none
def nJ (P:Program)(w:World):yK:=fun outer H s E e s'=>∃ea cls H',e=.ref ea/\s'.os=s.os/\AllBare s'.gens/\Un (iO outer) [] H H' s.heap s'.heap/\lh P w H' s'.heap/\Lies s.heap H' s'.heap ea cls/\E cls none H'
section
variable {P:Program}{w:World}{M:Model}{A:Around}{E':Value->Shared->Prop}{s:Shared}{env:Env}{outer:List Env}{L e:Addr}{cls:Value}{base h₀:Heap}{H:Hp}{Q:Unit->Shared->Prop}
theorem uy {h h':Heap}(hok:lh P w H h)(k:∀b o,h.get? b=some o->(∃u,H b=some u)->h'.get? b=some o):lh P w H h':=fun a o ha=>
 (hok a o ha).stay (fun b u hb q=>k b u q (hb.elim (fun z=>⟨o,by rw[z];exact ha⟩) fun z=>⟨_,z⟩)) (fun _ q=>q) fun _ _ q=>q
theorem Cj (hfr:A.frames=some (env :: outer))(hf:env.frame=some L)(hfn:s.heap.FunFrames base (env :: outer))(hok:lh P w H s.heap)(hff:∀b∈iO (env :: outer),H b=none)(Ly:Lies h₀ H s.heap e cls)(hex:∀b o,h₀.get? b=some o->∃o',s.heap.get? b=some o')
  (hQ:∀h',(∀b o,s.heap.get? b=some o->b∉iO (env :: outer)->((∃o0,h₀.get? b=some o0)\/∃u,H b=some u)->h'.get? b=some o)->(∀b o,s.heap.get? b=some o->b∈iO (env :: outer)->∃sl,h'.get? b=some {o with slots:=sl})->Lies h₀ H h' e cls->lh P w H h'->Q () {s with heap:=h'}) :
  wpAny M A (leaving env (.ref e)) Q E' s:=by
 obtain⟨fr,nw,T0,rc,hHT,hnT⟩:=Ly
 obtain⟨oe,vs,oT,ts,he,hc,hdd,hd,h1,hTe,hT,hdT,h3⟩:=id rc
 have tF:T0∉iO (env :: outer):=fun z=>by
  obtain⟨_,o,q,n⟩:=hfn.mem z
  rw[hT] at q;cases q;exact n _ hdT
 unfold leaving
 refine wpAny_bind (y9 hfr hfn hf rc fun h4 T kp sl tn rc4=>xT rc4 fun h5 kp5 rc5=>?_)
 have nT:∀b o,s.heap.get? b=some o->b≠T0->b≠T:=fun b o q n z=>by
  rcases tn with tn |tn
  ·rw[z,tn] at q;cases q
  ·exact n (z.trans tn)
 have kept:∀b o,s.heap.get? b=some o->b∉iO (env :: outer)->((∃o0,h₀.get? b=some o0)\/∃u,H b=some u)->h5.get? b=some o:=fun b o q hb hor=>by
  have be:b≠e:=fun z=>by subst z;rcases hor with⟨_,z⟩ | ⟨_,z⟩ <;> simp_all
  have bT:b≠T0:=fun z=>by subst z;rcases hor with⟨_,z⟩ | ⟨_,z⟩ <;> simp_all
  exact kp5 b o (kp b o q hb (by simp[be,bT])) (by simp) (by simp[nT b o q bT])
 have slot:∀b o,s.heap.get? b=some o->b∈iO (env :: outer)->∃sl,h5.get? b=some {o with slots:=sl}:=fun b o q hb=>by
  obtain⟨x,q4⟩:=sl b o q hb
  exact⟨x,kp5 b _ q4 (by simp) (by simp[nT b o q fun z=>tF (z▸hb)])⟩
 have fresh:H T=none/\h₀.get? T=none:=by
  rcases tn with tn |tn
  ·refine⟨?_,?_⟩
   ·cases q:H T with
    |none=>rfl
    |some u=>obtain⟨o,qo⟩:=(hok T u q).there;rw[tn] at qo;cases qo
   ·cases q:h₀.get? T with
    |none=>rfl
    |some u=>obtain⟨o,qo⟩:=hex T u q;rw[tn] at qo;cases qo
  ·rw[tn];exact⟨hHT,hnT⟩
 refine hQ h5 kept slot ⟨fr,nw,T,rc5,fresh.1,fresh.2⟩ (uy hok fun b o q hu=>kept b o q (fun z=>?_) (.inr hu))
 obtain⟨u,hu⟩:=hu
 rw[hff b z] at hu;cases hu
theorem vJ {h:Heap}{args:List Value}(hfr:A.frames=some (env :: outer))(hf:env.frame=some L)(hfn:h.FunFrames base (env :: outer))(hok:lh P w H h)(hff:∀b∈iO (env :: outer),H b=none)(hex:∀b o,h₀.get? b=some o->∃o',h.get? b=some o')(hx:Heap.MadeExcOf h s.heap e cls args)
  (hQ:∀h',(∀b o,h.get? b=some o->b∉iO (env :: outer)->h'.get? b=some o)->(∀b o,h.get? b=some o->b∈iO (env :: outer)->∃sl,h'.get? b=some {o with slots:=sl})->Lies h₀ H h' e cls->lh P w H h'->Q () {s with heap:=h'}) :
  wpAny M A (leaving env (.ref e)) Q E' s:=by
 obtain⟨t,he,_,_⟩:=hx.there
 unfold leaving
 refine wpAny_bind (xj (cls:=cls) hfr (hfn.of_keeps fun b o q _=>⟨o,hx.keeps b o q,rfl⟩) hf he rfl rfl rfl rfl fun h4 T kp sl tn rc4=>xT rc4 fun h5 kp5 rc5=>?_)
 have ne:∀b o,h.get? b=some o->b≠e:=fun b o q z=>by rw[z,hx.new] at q;cases q
 have nT:∀b o,h.get? b=some o->b≠T:=fun b o q z=>by
  have:=hx.keeps b o q
  rw[z,tn] at this;cases this
 have kept:∀b o,h.get? b=some o->b∉iO (env :: outer)->h5.get? b=some o:=fun b o q hb=>kp5 b o (kp b o (hx.keeps b o q) hb (by simp[ne b o q])) (by simp) (by simp[nT b o q])
 have slot:∀b o,h.get? b=some o->b∈iO (env :: outer)->∃sl,h5.get? b=some {o with slots:=sl}:=fun b o q hb=>by
  obtain⟨x,q4⟩:=sl b o (hx.keeps b o q) hb
  exact⟨x,kp5 b _ q4 (by simp) (by simp[nT b o q])⟩
 have fresh:∀{b:Addr},h.get? b=none->H b=none/\h₀.get? b=none:=fun {b} hb=>by
  refine⟨?_,?_⟩
  ·cases q:H b with
   |none=>rfl
   |some u=>obtain⟨o,qo⟩:=(hok b u q).there;rw[hb] at qo;cases qo
  ·cases q:h₀.get? b with
   |none=>rfl
   |some u=>obtain⟨o,qo⟩:=hex b u q;rw[hb] at qo;cases qo
 have no:h.get? T=none:=by
  cases q:h.get? T with
  |none=>rfl
  |some o=>exact absurd rfl (nT T o q)
 obtain⟨f1,f2⟩:=fresh hx.new
 obtain⟨g1,g2⟩:=fresh no
 refine hQ h5 kept slot ⟨f1,f2,T,rc5,g1,g2⟩ (uy hok fun b o q hu=>kept b o q fun z=>?_)
 obtain⟨u,hu⟩:=hu
 rw[hff b z] at hu;cases hu
end
section
variable {P:Program}{w:World}{K:PySem.W.Frag}{mg:Str->Option Value}{base:Heap}{N:List Str}{qual:Str}{scope:Scope}{f:Addr}{cd:Value}{A:Around}{outer:List Env}{s0:Shared}{H0:Hp}{E:XK}
theorem aY:Passes (nJ P w) (kQ (nJ P w) P w K mg base N qual scope f cd A outer s0 H0 E) E:=by
 intro pins σ H s e s' I hcx
 obtain⟨ea,cls,H',rfl,os,bare,un,hok,Ly,q⟩:=hcx
 have I':=I.call' os un hok bare (fun b hb=>absurd hb (by simp))
 have old:∀{b:Addr},s.heap.get? b=none->s0.heap.get? b=none:=fun {b} hb=>by
  cases z:s0.heap.get? b with
  |none=>rfl
  |some o=>obtain⟨o',z'⟩:=I.base.there b o z (show b∉([]:List Addr) by simp);rw[hb] at z';cases z'
 have Ly0:Lies s0.heap H' s'.heap ea cls:=by
  obtain⟨fr,nw,T,rc,hHT,hnT⟩:=Ly
  exact⟨fr,old nw,T,rc,hHT,old hnT⟩
 have above:s0.heap.objs.size<=(envOfC qual scope s0.heap.objs.size f cd).locals:=I.ok.above
 refine Cj (base:=base) (h₀:=s0.heap) I'.ok.frames rfl I'.stack I'.hok I'.stkFree Ly0 (fun b o z=>I'.base.there b o z (show b∉([]:List Addr) by simp)) fun h' kept slot Ly' hok'=>?_
 have nL:∀{b:Addr} {o:Obj},s0.heap.get? b=some o->b∉iO outer->b∉iO (envOfC qual scope s0.heap.objs.size f cd :: outer):=fun {b o} z hb hm=>by
  rcases List.mem_cons.mp (I'.stkSub b hm) with e |e
  ·have:=Heap.lt_size z
   rw[e] at this
   exact absurd (Nat.lt_of_lt_of_le this above) (Nat.lt_irrefl _)
  ·exact hb e
 have inn:∀{b:Addr},b∈iO outer->b∈iO (envOfC qual scope s0.heap.objs.size f cd :: outer):=fun {b} hb=>by
  obtain⟨en,h1,h2⟩:=List.mem_filterMap.mp hb
  exact List.mem_filterMap.mpr ⟨en,List.mem_cons_of_mem _ h1,h2⟩
 refine⟨ea,cls,H',rfl,os.trans I.os,bare,⟨fun b o z n hb _=>?_,fun b o z n hb _=>?_,fun b o z n _=>I'.base.free b o z n (show b∉([]:List Addr) by simp),fun b o z _=>?_,I'.base.tups,I'.base.frzs,I'.base.tbls⟩,hok',Ly',q⟩
 ·exact kept b o (I'.base.keep b o z n hb (show b∉([]:List Addr) by simp)) (nL z hb) (.inl ⟨o,z⟩)
 ·obtain⟨sl,z1⟩:=I'.base.slot b o z n hb (show b∉([]:List Addr) by simp)
  obtain⟨sl2,z2⟩:=slot b _ z1 (inn hb)
  exact⟨sl2,z2⟩
 ·obtain⟨o',z1⟩:=I'.base.there b o z (show b∉([]:List Addr) by simp)
  by_cases hb:b∈iO (envOfC qual scope s0.heap.objs.size f cd :: outer)
  ·obtain⟨sl,z2⟩:=slot b o' z1 hb
   exact⟨_,z2⟩
  ·exact⟨o',kept b o' z1 hb (.inl ⟨o,z⟩)⟩
def Gj (C:Addr)(E:XK)(t:TA):TS:=fun _ σ H=>t σ H fun vs H1=>vs.length<=sizeLine/\E (.ref C) none H1
theorem A9 {x:Str}{C:Addr}{np cpos pos:Pos}{e0:Expr}{es:List Expr}{t:TA}{Bn newId initId:String}{bmB:List Value}(FB:ExcBaseFacts Bn newId initId bmB)(hbb:bmB.contains (.type "BaseException")=true)(q:PySem.W.excIn K C bmB newId=true)
  (hg:Gl (kQ (nJ P w) P w K mg base N qual scope f cd A outer s0 H0 E) x) (hm:mg x=some (.ref C)) (ha:PA (kQ (nJ P w) P w K mg base N qual scope f cd A outer s0 H0 E) (e0 :: es) t)
  (he:starEach (e0 :: es) (envOfC qual scope s0.heap.objs.size f cd)=(false,eval e0 (envOfC qual scope s0.heap.objs.size f cd)) :: starEach es (envOfC qual scope s0.heap.objs.size f cd):=by rfl)
  (hpl:(backTo cpos (starEach es (envOfC qual scope s0.heap.objs.size f cd))).any (·.1)=false:=by rfl) (hdb:(x == ("__debug__":Str))=false:=by decide) :
  PS (kQ (nJ P w) P w K mg base N qual scope f cd A outer s0 H0 E) (.Raise (some (.Call (.Name x np) (e0 :: es) [] cpos)) none pos) (Gj C E t):=by
 intro pins s σ H D I h
 have own:∀{hh:Heap},K.In hh->∃bm Nn nm qn bs hdct sn sub ab col dd k0 k1 k2 k3 k5 mN,hh.get? C=some (excClassObj nm qn C Nn bs bm hdct sn sub ab col dd k0 k1 k2 k3 k5 newId)/\hh.Ns Nn mN/\mN "__init__"=none/\OwnTail hh bmB bm:=fun {hh} X=>by
  have q:=q
  unfold PySem.W.excIn at q
  split at q
  ·rename_i dd cdd sl ho
   split at q
   ·rename_i C' bm k0 k1 k2 k3 n k5 hm hs
    simp only[Bool.and_eq_true,beq_iff_eq,Bool.not_eq_true'] at q
    obtain⟨⟨⟨⟨⟨rfl,rfl⟩,hdel⟩,ht⟩,hok⟩,hni⟩:=q
    obtain⟨nm,bs,mro,ns,qn,hd,sn,sub,ab,col,del⟩:=cdd
    dsimp only at hm hdel hok hni
    subst hm hdel
    have hsl:sl=#[k0,k1,k2,k3,some (.builtin n),k5]:=by
     obtain⟨l⟩:=sl
     simp only at hs
     rw[hs]
    subst hsl
    exact⟨bm,ns,nm,qn,bs,hd,sn,sub,ab,col,dd,k0,k1,k2,k3,k5,_,X _ _ ho,.of_isNs (PySem.W.isNs_of_in X hok),PySem.W.nsMap_none_of_in X hok hni,PySem.W.tail_of_in X ht⟩
   ·cases q
  ·cases q
 obtain⟨bm,Nn,nm,qn,bs,hdct,sn,sub,ab,col,dd,k0,k1,k2,k3,k5,mN,hC,hN,hni,TL⟩:=own I.ok.mod.kin
 have hA:=ha cpos pins s σ H _ I h
 refine wpAny_Raise_call_subT (C:=C) (nm:=nm) (q:=qn) (N:=Nn) (bs:=bs) (bm:=bm) (hdct:=hdct) (sn:=sn) (sub:=sub) (ab:=ab) (col:=col) (dd:=dd) (k0:=k0) (k1:=k1) (k2:=k2) (k3:=k3) (k5:=k5) FB (mN:=mN) (TL.hasType hbb) (I.ok.hd rfl) ?_ hni (sW I hg hm ⟨rfl,?_⟩ hdb)
 ·show (backTo cpos (starEach (e0 :: es) (envOfC qual scope s0.heap.objs.size f cd))).any (·.1)=false
  rw[he]
  show (false || (backTo cpos (starEach es (envOfC qual scope s0.heap.objs.size f cd))).any (·.1))=false
  rw[hpl];rfl
 have hA:wpAny _ _ (spliced (backTo cpos (starEach (e0 :: es) (envOfC qual scope s0.heap.objs.size f cd)))) _ _ s:=hA
 show wpAny _ _ (evalArgs (.ref C) true (backTo cpos (starEach (e0 :: es) (envOfC qual scope s0.heap.objs.size f cd))) []) _ _ s
 rw[he] at hA ⊢
 refine Calls.evalArgs_plain (cK hA fun us s2 ⟨vs,H2,I2,r2,hl2,q2⟩=>⟨rfl,by show us.length<=_;rw[<-r2.length];exact hl2,I2.bk _ _ hC,hN.keeps I2.bk,TL.keeps I2.bk,fun h' e hx=>?_⟩)
 have above:s0.heap.objs.size<=(envOfC qual scope s0.heap.objs.size f cd).locals:=I2.ok.above
 have nil:∀b:Addr,b∉([]:List Addr):=fun b=>by simp
 refine vJ (s:={s2 with heap:=h'}) (h:=s2.heap) (base:=base) (h₀:=s0.heap) I2.ok.frames rfl I2.stack I2.hok I2.stkFree (fun b o z=>I2.base.there b o z (nil b)) hx fun h2 kept slot Ly hok=>?_
 have nL:∀{b:Addr} {o:Obj},s0.heap.get? b=some o->b∉iO outer->b∉iO (envOfC qual scope s0.heap.objs.size f cd :: outer):=fun {b o} z hb hm=>by
  rcases List.mem_cons.mp (I2.stkSub b hm) with e |e
  ·have:=Heap.lt_size z
   rw[e] at this
   exact absurd (Nat.lt_of_lt_of_le this above) (Nat.lt_irrefl _)
  ·exact hb e
 have inn:∀{b:Addr},b∈iO outer->b∈iO (envOfC qual scope s0.heap.objs.size f cd :: outer):=fun {b} hb=>by
  obtain⟨en,h1,h2⟩:=List.mem_filterMap.mp hb
  exact List.mem_filterMap.mpr ⟨en,List.mem_cons_of_mem _ h1,h2⟩
 refine⟨e,.ref C,H2,rfl,I2.os,I2.bare,⟨fun b o z n hb _=>?_,fun b o z n hb _=>?_,fun b o z n _=>I2.base.free b o z n (nil b),fun b o z _=>?_,I2.base.tups,I2.base.frzs,I2.base.tbls⟩,hok,Ly,q2⟩
 ·exact kept b o (I2.base.keep b o z n hb (nil b)) (nL z hb)
 ·obtain⟨sl,z1⟩:=I2.base.slot b o z n hb (nil b)
  obtain⟨sl2,z2⟩:=slot b _ z1 (inn hb)
  exact⟨sl2,z2⟩
 ·obtain⟨o',z1⟩:=I2.base.there b o z (nil b)
  by_cases hb:b∈iO (envOfC qual scope s0.heap.objs.size f cd :: outer)
  ·obtain⟨sl,z2⟩:=slot b o' z1 hb
   exact⟨_,z2⟩
  ·exact⟨o',kept b o' z1 hb⟩
end
end L2

end

section

end

section
namespace L2
open PySem PySem.Spec PyProof.Rows
def mroIn (K:PySem.W.Frag)(C:Addr):List Value:=match K.lookup C with
 |some ⟨_,_,.cls cd,_⟩=>cd.mro
 |_=>[]
end L2

end

section
namespace L2
open PySem PySem.Spec PyProof.Rows
structure Ah (k:Nat)(A:Around):Prop where
 dp:A.depth + 3 * k + 5 < recursionLimit
 un:A.units + 16 * k + 200 < cLine
 gd:A.guards=some []
theorem fo.h {k:Nat}{A:Around}(r:fo k A):Ah k A:=⟨r.dp,r.un,r.gd⟩
theorem Ah.units {k:Nat}{A:Around}(r:Ah k A):A.units + 64 < cLine:=by have:=r.un;omega
section
variable {P:Program}{w:World}{K:PySem.W.Frag}{mg:Str->Option Value}{base:Heap}
theorem Cw.tI {x qual:Str}{st:Stmt}{f:Addr}{fd:FuncData}{N ps:List Str}{k:Nat}{sp:Sp}(F:Cw K x qual st f fd)(S:aH N ps (aq st))(len:∀vs H Q E,sp vs H Q E->vs.length=ps.length)
  (hbody:∀(cdv:Value) (A:Around) (outer:List Env) (s:Shared) (H:Hp) (vs:List V) (Q:VK) (E:XK),fo k (A.deeper (envOfC qual (aq st) s.heap.objs.size f cdv))->sp vs H Q E->
   ∃t,rb (kQ (nJ P w) P w K mg base N qual (aq st) f cdv A outer s H E) (cO st) t/\t {nx:=fun _ H'=>Q .non H',rt:=Q} (start N vs) H):fR P w K mg base (nJ P w) (k + 1) f fd ps sp:=by
 obtain⟨oc,od,kV,doc,pm,an,cdv,ct,osl,rfl,lk,hcd⟩:=F.ex
 exact Ec lk hcd S len fun A outer s H vs Q E hr hsp=>hbody cdv A outer s H vs Q E hr hsp
end
end L2

end

section

end

section

end

section
namespace L2
open PySem PySem.Spec PyProof.Rows
section
variable {X:Cx}
theorem rh (hu:X.A.units + 100 < cLine):lG X (compareOp .NotIn) (Gq X.K true):=by
 intro pins s σ H x y v u Q I rx ry h
 obtain⟨p,xs,d,ds,rfl,hq,hs,hx,s1,s2,q⟩:=h
 cases ry
 obtain⟨bs,r2⟩:=hx.reads I rx
 have key:∀{e:PyData} {as:List Addr} {u:Value},SeqAt.shaped e=true->Reads s.heap u e as->SeqAt.EqAt X.A.in1 s u v (PyData.eqv e d):=fun {e as u} h1 h2=>by
  refine SeqAt.eqAt_reads _ _ _ _ _ _ _ _ h2 r2 (SeqAt.canLay_of_shaped h1) (SeqAt.canLay_of_shaped s1) ?_
  have:=SeqAt.depth_of_shaped h1
  show X.A.units + 1 + _ < _
  omega
 rcases hq with hq |hq
 ·obtain⟨its,r,pl,hz⟩:=I.list hq
  obtain⟨f,e1,e2⟩:=lP I d r hs s2
  refine SeqAt.notIn_listAt f pl.isList (fun w hw=>?_) ⟨.bl _,H,I,rfl,?_⟩
  ·obtain⟨e,as,hm,rd,ef⟩:=e2 w (by simpa using hw)
   rw[ef];exact key (s2 e hm) rd
  ·rw[show its.toArray.any f=its.any f by simp,e1];exact q
 ·obtain⟨its,r,pl,hz⟩:=I.tuple hq
  obtain⟨f,e1,e2⟩:=lP I d r hs s2
  refine SeqAt.notIn_tupleAt f pl (fun w hw=>?_) ⟨.bl _,H,I,rfl,?_⟩
  ·obtain⟨e,as,hm,rd,ef⟩:=e2 w (by simpa using hw)
   rw[ef];exact key (s2 e hm) rd
  ·rw[show its.toArray.any f=its.any f by simp,e1];exact q
end
end L2

end

section

end

section

end

section
namespace L2
open PySem PySem.Spec PyProof.Rows
abbrev D:=PyData
def kD:Key->D
 | .inl i=>.int i
 | .inr x=>.str x
mutual
inductive Rp (K:PySem.W.Frag)(G:Hp):V->D->Prop
 |non:Rp K G .non .none
 |bl (b:Bool):Rp K G (.bl b) (.bool b)
 |int (i:Int):Rp K G (.int i) (.int i)
 |str (x:Str):Rp K G (.str x) (.str x)
 |tup {a:Addr} {xs:List V} {ds:List D}:fy K G a xs->b8 K G xs ds->Rp K G (.ref a) (.tuple ds)
 |lst {a:Addr} {xs:List V} {ds:List D}:G a=some (.lst xs)->b8 K G xs ds->Rp K G (.ref a) (.list ds)
 |scr {a:Addr} {ns:List Int}:gk K G a (ns.map V.int)->Rp K G (.ref a) (.dict [(.none,.list (ns.map PyData.int))])
 |dK {a:Addr} {kvs:List (Key×V)} {ds:List (D×D)}:G a=some (.dK kvs)->zU K G kvs ds->Rp K G (.ref a) (.dict ds)
 |dT {a:Addr} {kvs:List (List Key×V)} {ds:List (D×D)}:G a=some (.dT kvs)->zT K G kvs ds->Rp K G (.ref a) (.dict ds)
inductive b8 (K:PySem.W.Frag)(G:Hp):List V->List D->Prop
 |nil:b8 K G [] []
 |cons {x:V} {xs:List V} {d:D} {ds:List D}:Rp K G x d->b8 K G xs ds->b8 K G (x :: xs) (d :: ds)
inductive zU (K:PySem.W.Frag)(G:Hp):List (Key×V)->List (D×D)->Prop
 |nil:zU K G [] []
 |cons {k:Key} {x:V} {xs:List (Key×V)} {d:D} {ds:List (D×D)}:Rp K G x d->zU K G xs ds->zU K G ((k,x) :: xs) ((kD k,d) :: ds)
inductive zT (K:PySem.W.Frag)(G:Hp):List (List Key×V)->List (D×D)->Prop
 |nil:zT K G [] []
 |cons {k:List Key} {x:V} {xs:List (List Key×V)} {d:D} {ds:List (D×D)}:Rp K G x d->zT K G xs ds->zT K G ((k,x) :: xs) ((.tuple (k.map kD),d) :: ds)
end
section
variable {K:PySem.W.Frag}{G G' H H':Hp}
theorem Rd.mono {a:Addr}{u:HO}(h:Rd G a u)(s:ar G G'):Rd G' a u:=h.elim (fun e=>.inl (s _ _ e)) fun⟨o,e⟩=>.inr ⟨o,s _ _ e⟩
mutual
theorem Rp.mono (s:ar G G'):∀{x:V} {d:D},Rp K G x d->Rp K G' x d
 |_,_,.non=>.non
 |_,_,.bl b=>.bl b
 |_,_,.int i=>.int i
 |_,_,.str x=>.str x
 |_,_,.tup h hs=>.tup (h.grow s.grow) (b8.mono s hs)
 |_,_,.lst h hs=>.lst (s _ _ h) (b8.mono s hs)
 |_,_,.scr h=>.scr (s.seq h)
 |_,_,.dK h hs=>.dK (s _ _ h) (zU.mono s hs)
 |_,_,.dT h hs=>.dT (s _ _ h) (zT.mono s hs)
theorem b8.mono (s:ar G G'):∀{xs:List V} {ds:List D},b8 K G xs ds->b8 K G' xs ds
 |_,_,.nil=>.nil
 |_,_,.cons h hs=>.cons (Rp.mono s h) (b8.mono s hs)
theorem zU.mono (s:ar G G'):∀{xs:List (Key×V)} {ds:List (D×D)},zU K G xs ds->zU K G' xs ds
 |_,_,.nil=>.nil
 |_,_,.cons h hs=>.cons (Rp.mono s h) (zU.mono s hs)
theorem zT.mono (s:ar G G'):∀{xs:List (List Key×V)} {ds:List (D×D)},zT K G xs ds->zT K G' xs ds
 |_,_,.nil=>.nil
 |_,_,.cons h hs=>.cons (Rp.mono s h) (zT.mono s hs)
end
theorem b8.len:∀{xs:List V} {ds:List D},b8 K G xs ds->xs.length=ds.length
 |_,_,.nil=>rfl
 |_,_,.cons _ t=>by simp[b8.len t]
theorem b8.at:∀{xs:List V} {ds:List D} {i:Nat} {d:D},b8 K G xs ds->ds[i]? =some d->∃x,xs[i]? =some x/\Rp K G x d
 |_,_,_,_,.nil,e=>by simp at e
 |_,_,0,_,.cons r _,e=>by simp at e;subst e;exact⟨_,rfl,r⟩
 |_,_,i + 1,x,.cons _ t,e=>by
  obtain⟨u,h1,h2⟩:=b8.at (i:=i) (d:=x) t (by simpa using e)
  exact⟨u,by simpa using h1,h2⟩
theorem b8.at':∀{xs:List V} {ds:List D} {i:Nat} {x:V},b8 K G xs ds->xs[i]? =some x->∃d,ds[i]? =some d/\Rp K G x d
 |_,_,_,_,.nil,e=>by simp at e
 |_,_,0,_,.cons r _,e=>by simp at e;subst e;exact⟨_,rfl,r⟩
 |_,_,i + 1,x,.cons _ t,e=>by
  obtain⟨u,h1,h2⟩:=b8.at' (i:=i) (x:=x) t (by simpa using e)
  exact⟨u,by simpa using h1,h2⟩
theorem b8.append:∀{xs ys:List V} {ds es:List D},b8 K G xs ds->b8 K G ys es->b8 K G (xs ++ ys) (ds ++ es)
 |_,_,_,_,.nil,s=>s
 |_,_,_,_,.cons r t,s=>.cons r (b8.append t s)
theorem b8.snoc {xs:List V}{ds:List D}{x:V}{d:D}(h:b8 K G xs ds)(q:Rp K G x d):b8 K G (xs ++ [x]) (ds ++ [d]):=h.append (.cons q .nil)
theorem b8.take:∀{xs:List V} {ds:List D} (n:Nat),b8 K G xs ds->b8 K G (xs.take n) (ds.take n)
 |_,_,0,_=>.nil
 |_,_,_ + 1,.nil=>.nil
 |_,_,n + 1,.cons r t=>.cons r (b8.take n t)
theorem b8.drop:∀{xs:List V} {ds:List D} (n:Nat),b8 K G xs ds->b8 K G (xs.drop n) (ds.drop n)
 |_,_,0,r=>r
 |_,_,_ + 1,.nil=>.nil
 |_,_,n + 1,.cons _ t=>b8.drop n t
theorem b8.set {x:V}{d:D}(r:Rp K G x d):∀{xs:List V} {ds:List D} (i:Nat),b8 K G xs ds->b8 K G (xs.set i x) (ds.set i d)
 |_,_,_,.nil=>.nil
 |_,_,0,.cons _ t=>.cons r t
 |_,_,i + 1,.cons q t=>.cons q (b8.set r i t)
theorem b8.rep {n:Nat}{xs:List V}{ds:List D}(h:b8 K G xs ds):b8 K G (List.replicate n xs).flatten (List.replicate n ds).flatten:=by
 induction n with
 |zero=>exact .nil
 |succ n ih=>rw[List.replicate_succ,List.replicate_succ,List.flatten_cons,List.flatten_cons];exact h.append ih
mutual
def B9:D->Bool
 | .dict _=>false
 | .list ds=>qg ds
 | .tuple ds=>qg ds
 |_=>true
def qg:List D->Bool
 | []=>true
 |d :: ds=>B9 d && qg ds
end
mutual
theorem Rp.rep:∀{x:V} {d:D},Rp K G x d->B9 d=true->Rep K G x d
 |_,_,.non,_=>.non
 |_,_,.bl b,_=>.bl b
 |_,_,.int i,_=>.int i
 |_,_,.str x,_=>.str x
 |_,_,.tup h hs,e=>.tup h (b8.reps hs (by simpa[B9] using e))
 |_,_,.lst h hs,e=>.lst (.inl (.inl h)) (b8.reps hs (by simpa[B9] using e))
 |_,_,.scr _,e=>by simp[B9] at e
 |_,_,.dK _ _,e=>by simp[B9] at e
 |_,_,.dT _ _,e=>by simp[B9] at e
theorem b8.reps:∀{xs:List V} {ds:List D},b8 K G xs ds->qg ds=true->iW K G xs ds
 |_,_,.nil,_=>.nil
 |_,_,.cons h hs,e=>.cons (Rp.rep h (by simp[qg] at e;exact e.1)) (b8.reps hs (by simp[qg] at e;exact e.2))
end
def Own (K:PySem.W.Frag)(G H:Hp)(a:Addr):D->Prop
 | .list ds=>∃xs,H a=some (.lst xs)/\b8 K G xs ds
 | .dict ds=>(∃kvs,H a=some (.dK kvs)/\zU K G kvs ds)\/∃kvs,H a=some (.dT kvs)/\zT K G kvs ds
 |_=>False
theorem Own.obj {a:Addr}{d:D}(h:Own K G H a d):∃o,H a=some o:=by
 cases d <;> first |exact h.elim |skip
 ·obtain⟨xs,e,_⟩:=h;exact⟨_,e⟩
 ·rcases h with⟨_,e,_⟩ | ⟨_,e,_⟩ <;> exact⟨_,e⟩
theorem Own.mono {a:Addr}{d:D}(h:Own K G H a d)(s:ar G G')(m:∀o,H a=some o->H' a=some o):Own K G' H' a d:=by
 cases d <;> first |exact h.elim |skip
 ·obtain⟨xs,e,r⟩:=h;exact⟨xs,m _ e,r.mono s⟩
 ·rcases h with⟨k,e,r⟩ | ⟨k,e,r⟩
  ·exact .inl ⟨k,m _ e,r.mono s⟩
  ·exact .inr ⟨k,m _ e,r.mono s⟩
theorem Own.rp {a:Addr}{d:D}(h:Own K G H a d)(n:G a=none){G':Hp}(s:ar G G')(e:∀o,H a=some o->G' a=some o):Rp K G' (.ref a) d:=by
 cases d <;> first |exact h.elim |skip
 ·obtain⟨xs,q,r⟩:=h;exact .lst (e _ q) (r.mono s)
 ·rcases h with⟨k,q,r⟩ | ⟨k,q,r⟩
  ·exact .dK (e _ q) (r.mono s)
  ·exact .dT (e _ q) (r.mono s)
def lA (K:PySem.W.Frag)(B:Option Addr)(G H:Hp)(v:V)(d:D):Prop:=Rp K G v d\/∃a,v=.ref a/\B≠some a/\Own K G H a d
def iK (B:Option Addr)(H H':Hp):Prop:=∀b o,H b=some o->B≠some b->H' b=some o
theorem iK.refl (B:Option Addr)(H:Hp):iK B H H:=fun _ _ h _=>h
theorem iK.trans {B:Option Addr}{H1:Hp}(x:iK B H H1)(y:iK B H1 H'):iK B H H':=fun b o h n=>y b o (x b o h n) n
theorem ar.mov (s:ar H H')(B:Option Addr):iK B H H':=fun b o h _=>s b o h
theorem lA.mono {B:Option Addr}{v:V}{d:D}(h:lA K B G H v d)(s:ar G G')(m:iK B H H'):lA K B G' H' v d:=by
 rcases h with h | ⟨a,e,n,h⟩
 ·exact .inl (h.mono s)
 ·exact .inr ⟨a,e,n,h.mono s fun o q=>m a o q n⟩
theorem lA.rpH {B:Option Addr}{v:V}{d:D}(h:lA K B G H v d)(s:ar G H):Rp K H v d:=by
 rcases h with h | ⟨a,rfl,n,h⟩
 ·exact h.mono s
 ·cases d <;> first |exact h.elim |skip
  ·obtain⟨xs,q,r⟩:=h;exact .lst q (r.mono s)
  ·rcases h with⟨k,q,r⟩ | ⟨k,q,r⟩
   ·exact .dK q (r.mono s)
   ·exact .dT q (r.mono s)
theorem lA.list {B:Option Addr}{v:V}{ds:List D}(h:lA K B G H v (.list ds))(s:ar G H):∃a xs,v=.ref a/\Rd H a (.lst xs)/\b8 K G xs ds:=by
 rcases h with h | ⟨a,rfl,n,xs,q,r⟩
 ·cases h with
  |lst h r=>exact⟨_,_,rfl,.inl (s _ _ h),r⟩
 ·exact⟨a,xs,rfl,.inl q,r⟩
theorem lA.tuple {B:Option Addr}{v:V}{ds:List D}(h:lA K B G H v (.tuple ds))(s:ar G H):∃a xs,v=.ref a/\fy K H a xs/\b8 K G xs ds:=by
 rcases h with h | ⟨a,rfl,n,h⟩
 ·cases h with
  |tup h r=>exact⟨_,_,rfl,h.grow s.grow,r⟩
 ·exact h.elim
theorem lA.int {B:Option Addr}{v:V}{i:Int}(h:lA K B G H v (.int i)):v=.int i:=by
 rcases h with h | ⟨a,rfl,n,h⟩
 ·cases h;rfl
 ·exact h.elim
theorem lA.bool {B:Option Addr}{v:V}{b:Bool}(h:lA K B G H v (.bool b)):v=.bl b:=by
 rcases h with h | ⟨a,rfl,n,h⟩
 ·cases h;rfl
 ·exact h.elim
theorem lA.str {B:Option Addr}{v:V}{x:Str}(h:lA K B G H v (.str x)):v=.str x:=by
 rcases h with h | ⟨a,rfl,n,h⟩
 ·cases h;rfl
 ·exact h.elim
theorem lA.none {B:Option Addr}{v:V}(h:lA K B G H v .none):v=.non:=by
 rcases h with h | ⟨a,rfl,n,h⟩
 ·cases h;rfl
 ·exact h.elim
end
def Fz:HO->Prop
 | .tup _=>True
 | .bo _ _=>True
 |_=>False
def Mx (H:Hp)(b:Addr):Prop:=H b≠none/\∀o,H b=some o->¬Fz o
theorem Mx.lst {H:Hp}{b:Addr}{xs:List V}(h:H b=some (.lst xs)):Mx H b:=⟨by rw[h];simp,fun ys z=>by rw[h] at z;cases z;exact fun y=>y⟩
theorem Mx.same {H H':Hp}{b:Addr}(h:Mx H b)(m:∀o,H b=some o->H' b=some o):Mx H' b:=by
 obtain⟨h1,h2⟩:=h
 cases e:H b with
 |none=>exact absurd e h1
 |some o=>
  refine⟨by rw[m o e];simp,fun xs z=>?_⟩
  rw[m o e] at z
  cases z
  exact h2 o e
theorem Own.mx {K:PySem.W.Frag}{G H:Hp}{a:Addr}{d:D}(h:Own K G H a d):Mx H a:=by
 cases d <;> first |exact h.elim |skip
 ·obtain⟨xs,e,_⟩:=h;exact Mx.lst e
 ·rcases h with⟨k,e,_⟩ | ⟨k,e,_⟩ <;> exact⟨by rw[e];simp,fun ys z=>by rw[e] at z;cases z;exact fun y=>y⟩
open Classical in
noncomputable def mQ (G H:Hp):Hp:=fun b=>match G b with
 |some o=>some o
 |none=>match H b with
  |some o=>if Fz o then some o else none
  |none=>none
theorem rl {G H:Hp}:ar G (mQ G H):=fun b o e=>by unfold mQ;rw[e]
theorem xP {G H:Hp}(s:ar G H){b:Addr}{o:HO}(e:H b=some o)(f:Fz o):mQ G H b=some o:=by
 unfold mQ
 cases q:G b with
 |some u=>have:=s b u q;rw[e] at this;cases this;rfl
 |none=>simp only[e];rw[if_pos f]
theorem u7 {G H:Hp}(s:ar G H):ar (mQ G H) H:=fun b o e=>by
 unfold mQ at e
 cases q:G b with
 |some u=>rw[q] at e;cases e;exact s b _ q
 |none=>
  rw[q] at e
  cases q2:H b with
  |none=>rw[q2] at e;cases e
  |some u=>
   rw[q2] at e
   dsimp only at e
   split at e
   ·cases e;rfl
   ·cases e
theorem xX {G H H':Hp}(hh:ar H H'){b:Addr}(m:Mx H b):mQ G H' b=G b:=by
 unfold mQ
 cases q:G b with
 |some u=>rfl
 |none=>
  obtain⟨h1,h2⟩:=m
  cases e:H b with
  |none=>exact absurd e h1
  |some o=>
   simp only[hh b o e]
   rw[if_neg (h2 o e)]
theorem pM {K:PySem.W.Frag}{G H:Hp}(s:ar G H){a:Addr}{xs:List V}(h:fy K H a xs):fy K (mQ G H) a xs:=by
 rcases h with (h | ⟨o,h⟩) |h
 ·exact .inl (.inl (xP s h trivial))
 ·exact .inl (.inr ⟨o,xP s h trivial⟩)
 ·exact .inr h
structure Fx where
 K:PySem.W.Frag
 H0:Hp
 G0:Hp
 par:List Addr
 ca:Str->Addr
 br:Nat->Bool
 bx:Option Addr
inductive Sl where
 |no |fz (d:D) |ow (d:D) |bx |br (d:D)
abbrev En:=List Sl
inductive Nv where
 |no |da (d:D) |bx
def Sl.val:Sl->Nv
 | .no=>.no
 | .fz d=>.da d
 | .ow d=>.da d
 | .br d=>.da d
 | .bx=>.bx
def vl (env:En):List Nv:=env.map Sl.val
def JO (Γ:Fx)(B:Option Addr)(G H:Hp)(i:Nat)(o:Option (Option V)):Sl->Prop
 | .no=>True
 | .fz d=>∃v,o=some (some v)/\Rp Γ.K G v d
 | .ow d=>∃a,o=some (some (.ref a))/\Γ.H0 a=none/\G a=none/\B≠some a/\Own Γ.K G H a d
 | .bx=>∃a,o=some (some (.ref a))/\B=some a
 | .br d=>Γ.br i=true/\∃a,o=some (some (.ref a))/\B≠some a/\a∉Γ.par/\Own Γ.K G H a d
structure SR (Γ:Fx)(B:Option Addr)(G H:Hp)(σ:St)(env:En)(β:Int):Prop where
 sub:ar G H
 old:ar Γ.G0 G
 new:∀b,Mx Γ.H0 b->Γ.G0 b=none->G b=none
 keep:∀b o,Γ.H0 b=some o->b∉Γ.par->H b=some o
 pin:∀b,b∈Γ.par->Mx H b
 fix:∀b,Γ.bx=some b->B=some b
 box:∀b,B=some b->H b=some (.lst [.int β])/\G b=none/\(b∈Γ.par\/Γ.H0 b=none)
 len:σ.length=env.length
 slot:∀(i:Nat) (s:Sl),env[i]? =some s->JO Γ B G H i (σ[i]?) s
 sep:∀(i j:Nat) (a:Addr) (d e:D),env[i]? =some (.ow d)->env[j]? =some (.ow e)->σ[i]? =some (some (.ref a))->σ[j]? =some (some (.ref a))->i=j
structure Ext (G H G' H':Hp):Prop where
 hh:ar H H'
 gg:ar G G'
 gh:ar G' H'
 on:∀b,Mx H b->G' b=G b
theorem Ext.refl {G H:Hp}(s:ar G H):Ext G H G H:=⟨ar.refl _,ar.refl _,s,fun _ _=>rfl⟩
theorem Ext.tups {G H H':Hp}(s:ar G H)(hh:ar H H'):Ext G H (mQ G H') H':=⟨hh,rl,u7 (s.trans hh),fun _ m=>xX hh m⟩
theorem Ext.new {G H:Hp}(s:ar G H){p:Addr}{o:HO}(h:H p=none):Ext G H (upd G p o) (upd H p o):=by
 refine⟨ar.new h,ar.new (s.free h),fun b u e=>?_,fun b hb=>?_⟩
 ·by_cases z:b=p
  ·subst z;rw[az] at e ⊢;exact e
  ·rw[ay z] at e ⊢;exact s b u e
 ·exact ay (fun z=>hb.1 (by rw[z];exact h))
theorem Ext.own {G H:Hp}(s:ar G H){p:Addr}{o:HO}(h:H p=none):Ext G H G (upd H p o):=
 ⟨ar.new h,ar.refl _,s.trans (ar.new h),fun _ _=>rfl⟩
theorem Ext.trans {G H G1 H1 G2 H2:Hp}(x:Ext G H G1 H1)(y:Ext G1 H1 G2 H2):Ext G H G2 H2:=by
 refine⟨x.hh.trans y.hh,x.gg.trans y.gg,y.gh,fun b hb=>?_⟩
 rw[y.on b (hb.same fun o e=>x.hh b o e),x.on b hb]
section
variable {Γ:Fx}{B:Option Addr}{G H G' H':Hp}{σ:St}{env:En}{β:Int}
theorem SR.there (I:SR Γ B G H σ env β){b:Addr}(h:Γ.H0 b≠none):H b≠none:=by
 by_cases hp:b∈Γ.par
 ·exact (I.pin b hp).1
 ·cases e:Γ.H0 b with
  |none=>exact absurd e h
  |some o=>rw[I.keep b o e hp];simp
theorem SR.thereM (I:SR Γ B G H σ env β){b:Addr}(h:Mx Γ.H0 b):Mx H b:=by
 by_cases hp:b∈Γ.par
 ·exact I.pin b hp
 ·exact h.same fun o e=>I.keep b o e hp
theorem SR.ext (I:SR Γ B G H σ env β)(x:Ext G H G' H'):SR Γ B G' H' σ env β:=by
 refine⟨x.gh,I.old.trans x.gg,fun b h1 h2=>?_,fun b o h1 h2=>x.hh b o (I.keep b o h1 h2),fun b hb=>?_,I.fix,fun b e=>?_,I.len,fun i s e=>?_,I.sep⟩
 ·rw[x.on b (I.thereM h1)];exact I.new b h1 h2
 ·exact (I.pin b hb).same fun o e=>x.hh b o e
 ·obtain⟨h1,h2,h3⟩:=I.box b e
  exact⟨x.hh b _ h1,by rw[x.on b (Mx.lst h1)];exact h2,h3⟩
 ·have q:=I.slot i s e
  cases s with
  |no=>trivial
  |fz d=>obtain⟨v,h1,h2⟩:=q;exact⟨v,h1,h2.mono x.gg⟩
  |ow d=>
   obtain⟨a,h1,h2,h3,h4,h5⟩:=q
   exact⟨a,h1,h2,by rw[x.on a h5.mx];exact h3,h4,h5.mono x.gg fun o q=>x.hh a o q⟩
  |bx=>exact q
  |br d=>obtain⟨b1,a,h1,h4,hp,h5⟩:=q;exact⟨b1,a,h1,h4,hp,h5.mono x.gg fun o q=>x.hh a o q⟩
def jc (env:En)(i:Nat):En:=match env[i]? with
 |some (.ow d)=>env.set i (.fz d)
 |_=>env
def bo (L:List Nat)(env:En):En:=L.foldl jc env
theorem cR (L M:List Nat)(env:En):bo (L ++ M) env=bo M (bo L env):=by unfold bo;rw[List.foldl_append]
theorem wL (env:En)(i:Nat)(s:Sl)(h:∀t,env[i]? =some t->t.val=s.val):vl (env.set i s)=vl env:=by
 unfold vl
 apply List.ext_getElem?
 intro j
 rw[List.getElem?_map,List.getElem?_map,List.getElem?_set]
 by_cases e:i=j
 ·subst e
  by_cases hi:i < env.length
  ·simp only[if_true,hi]
   have:=h _ (List.getElem?_eq_getElem hi)
   simp[List.getElem?_eq_getElem hi,this]
  ·simp only[if_true,hi,if_false]
   rw[List.getElem?_eq_none (by omega)]
 ·simp[e]
theorem Dr (env:En)(i:Nat):vl (jc env i)=vl env:=by
 unfold jc
 split
 ·rename_i d e
  exact wL _ _ _ fun t ht=>by rw[e] at ht;cases ht;rfl
 ·rfl
theorem iC (L:List Nat)(env:En):vl (bo L env)=vl env:=by
 unfold bo
 induction L generalizing env with
 |nil=>rfl
 |cons i L ih=>rw[List.foldl_cons,ih,Dr]
theorem ED {i:Nat}{d:D}(h:(vl env)[i]? =some (.da d)):env[i]? =some (.fz d)\/env[i]? =some (.ow d)\/env[i]? =some (.br d):=by
 unfold vl at h
 rw[List.getElem?_map] at h
 cases e:env[i]? with
 |none=>rw[e] at h;simp at h
 |some s=>
  rw[e] at h
  cases s with
  |no=>simp[Sl.val] at h
  |fz d'=>simp[Sl.val] at h;subst h;exact .inl rfl
  |ow d'=>simp[Sl.val] at h;subst h;exact .inr (.inl rfl)
  |bx=>simp[Sl.val] at h
  |br d'=>simp[Sl.val] at h;subst h;exact .inr (.inr rfl)
theorem HH {i:Nat}(h:(vl env)[i]? =some .bx):env[i]? =some .bx:=by
 unfold vl at h
 rw[List.getElem?_map] at h
 cases e:env[i]? with
 |none=>rw[e] at h;simp at h
 |some s=>
  rw[e] at h
  cases s with
  |bx=>rfl
  |_=>simp[Sl.val] at h
theorem SR.freeze (I:SR Γ B G H σ env β)(i:Nat)(hb:Γ.br i=false){d:D}(h:(vl env)[i]? =some (.da d)):∃G' v,SR Γ B G' H σ (jc env i) β/\ar G G'/\σ[i]? =some (some v)/\Rp Γ.K G' v d:=by
 rcases ED h with e |e |e
 ·obtain⟨v,h1,h2⟩:=I.slot i _ e
  exact⟨G,v,by unfold jc;rw[e];exact I,ar.refl _,h1,h2⟩
 rotate_left
 ·obtain⟨z,_⟩:=I.slot i _ e
  rw[hb] at z;cases z
 ·obtain⟨a,h1,h2,h3,h4,h5⟩:=I.slot i _ e
  obtain⟨o,ho⟩:=h5.obj
  have sG:ar G (upd G a o):=ar.new h3
  have hi:i < env.length:=(List.getElem?_eq_some_iff.mp e).1
  have hr:Rp Γ.K (upd G a o) (.ref a) d:=h5.rp h3 sG fun o' q=>by rw[ho] at q;cases q;exact az
  refine⟨upd G a o,.ref a,?_,sG,h1,hr⟩
  unfold jc
  rw[e]
  refine⟨fun b u q=>?_,I.old.trans sG,fun b n1 n2=>?_,I.keep,I.pin,I.fix,fun b q=>?_,by rw[List.length_set];exact I.len,fun j s q=>?_,fun j k c d1 d2 q1 q2 q3 q4=>?_⟩
  ·by_cases z:b=a
   ·subst z;rw[az] at q;cases q;exact ho
   ·rw[ay z] at q;exact I.sub b u q
  ·rw[ay (fun z=>n1.1 (by rw[z];exact h2))];exact I.new b n1 n2
  ·obtain⟨k1,k2,k3⟩:=I.box b q
   exact⟨k1,by rw[ay (fun z=>h4 (by rw[<-z];exact q))];exact k2,k3⟩
  ·by_cases z:j=i
   ·subst z
    rw[List.getElem?_set_self hi] at q
    cases q
    exact⟨.ref a,h1,hr⟩
   ·rw[List.getElem?_set_ne (Ne.symm z)] at q
    have w:=I.slot j s q
    cases s with
    |no=>trivial
    |fz d'=>obtain⟨v,w1,w2⟩:=w;exact⟨v,w1,w2.mono sG⟩
    |ow d'=>
     obtain⟨c,w1,w2,w3,w4,w5⟩:=w
     have ca:c≠a:=fun z2=>z (I.sep j i c d' d q e w1 (by rw[z2];exact h1))
     exact⟨c,w1,w2,by rw[ay ca];exact w3,w4,w5.mono sG fun o q=>q⟩
    |bx=>exact w
    |br d'=>obtain⟨b1,c,w1,w4,wp,w5⟩:=w;exact⟨b1,c,w1,w4,wp,w5.mono sG fun o q=>q⟩
  ·have ne:∀{j:Nat} {d':D},(env.set i (Sl.fz d))[j]? =some (.ow d')->env[j]? =some (.ow d'):=fun {j d'} q=>by
    by_cases z:j=i
    ·subst z;rw[List.getElem?_set_self hi] at q;cases q
    ·rw[List.getElem?_set_ne (Ne.symm z)] at q;exact q
   exact I.sep j k c d1 d2 (ne q1) (ne q2) q3 q4
theorem SR.bo (I:SR Γ B G H σ env β)(L:List Nat)(hb:∀i,i∈L->Γ.br i=false):∃G',SR Γ B G' H σ (bo L env) β/\ar G G':=by
 induction L generalizing env G with
 |nil=>exact⟨G,I,ar.refl _⟩
 |cons i L ih=>
  show ∃G',SR Γ B G' H σ (L2.bo L (jc env i)) β/\ar G G'
  have key:∃G1,SR Γ B G1 H σ (jc env i) β/\ar G G1:=by
   cases e:env[i]? with
   |none=>exact⟨G,by unfold jc;rw[e];exact I,ar.refl _⟩
   |some s=>
    cases s with
    |ow d=>
     obtain⟨G1,v,h1,h2,_⟩:=I.freeze i (hb i (List.mem_cons_self ..)) (d:=d) (by unfold vl;rw[List.getElem?_map,e];rfl)
     exact⟨G1,h1,h2⟩
    |_=>exact⟨G,by unfold jc;rw[e];exact I,ar.refl _⟩
  obtain⟨G1,I1,s1⟩:=key
  obtain⟨G2,I2,s2⟩:=ih I1 fun j hj=>hb j (List.mem_cons_of_mem _ hj)
  exact⟨G2,I2,s1.trans s2⟩
theorem SR.set (I:SR Γ B G H σ env β){i:Nat}(hi:i < env.length){v:V}{d:D}(h:Rp Γ.K G v d):SR Γ B G H (σ.set i (some v)) (env.set i (.fz d)) β:=by
 have hs:i < σ.length:=by rw[I.len];exact hi
 refine⟨I.sub,I.old,I.new,I.keep,I.pin,I.fix,I.box,by rw[List.length_set,List.length_set];exact I.len,fun j s q=>?_,fun j k c d1 d2 q1 q2 q3 q4=>?_⟩
 ·by_cases z:j=i
  ·subst z
   rw[List.getElem?_set_self hi] at q
   cases q
   exact⟨v,by rw[List.getElem?_set_self hs],h⟩
  ·rw[List.getElem?_set_ne (Ne.symm z)] at q ⊢
   exact I.slot j s q
 ·have ne:∀{j:Nat} {d':D},(env.set i (Sl.fz d))[j]? =some (.ow d')->j≠i/\env[j]? =some (.ow d'):=fun {j d'} q=>by
   by_cases z:j=i
   ·subst z;rw[List.getElem?_set_self hi] at q;cases q
   ·rw[List.getElem?_set_ne (Ne.symm z)] at q;exact⟨z,q⟩
  obtain⟨n1,e1⟩:=ne q1
  obtain⟨n2,e2⟩:=ne q2
  rw[List.getElem?_set_ne (Ne.symm n1)] at q3
  rw[List.getElem?_set_ne (Ne.symm n2)] at q4
  exact I.sep j k c d1 d2 e1 e2 q3 q4
theorem SR.setOw (I:SR Γ B G H σ env β){i:Nat}(hi:i < env.length){a:Addr}{d:D}(h0:Γ.H0 a=none)(hg:G a=none)(hb:B≠some a)(h:Own Γ.K G H a d)(hn:∀(j:Nat) (d':D),env[j]? =some (.ow d')->j≠i->σ[j]?≠some (some (.ref a))):SR Γ B G H (σ.set i (some (.ref a))) (env.set i (.ow d)) β:=by
 have hs:i < σ.length:=by rw[I.len];exact hi
 refine⟨I.sub,I.old,I.new,I.keep,I.pin,I.fix,I.box,by rw[List.length_set,List.length_set];exact I.len,fun j s q=>?_,fun j k c d1 d2 q1 q2 q3 q4=>?_⟩
 ·by_cases z:j=i
  ·subst z
   rw[List.getElem?_set_self hi] at q
   cases q
   exact⟨a,by rw[List.getElem?_set_self hs],h0,hg,hb,h⟩
  ·rw[List.getElem?_set_ne (Ne.symm z)] at q ⊢
   exact I.slot j s q
 ·by_cases z1:j=i
  ·by_cases z2:k=i
   ·rw[z1,z2]
   ·subst z1
    rw[List.getElem?_set_ne (Ne.symm z2)] at q2 q4
    rw[List.getElem?_set_self hs] at q3
    cases q3
    exact absurd q4 (hn k d2 q2 z2)
  ·by_cases z2:k=i
   ·subst z2
    rw[List.getElem?_set_ne (Ne.symm z1)] at q1 q3
    rw[List.getElem?_set_self hs] at q4
    cases q4
    exact absurd q3 (hn j d1 q1 z1)
   ·rw[List.getElem?_set_ne (Ne.symm z1)] at q1 q3
    rw[List.getElem?_set_ne (Ne.symm z2)] at q2 q4
    exact I.sep j k c d1 d2 q1 q2 q3 q4
theorem SR.fresh (I:SR Γ B G H σ env β){a:Addr}(h:H a=none):Γ.H0 a=none/\G a=none/\B≠some a/\∀(j:Nat) (d:D),env[j]? =some (.ow d)->σ[j]?≠some (some (.ref a)):=by
 have hB:B≠some a:=fun z=>by rw[(I.box a z).1] at h;cases h
 refine⟨?_,I.sub.free h,hB,fun j d e z=>?_⟩
 ·cases e:Γ.H0 a with
  |none=>rfl
  |some o=>exact absurd h (I.there (by rw[e];simp))
 ·obtain⟨c,h1,_,_,_,h5⟩:=I.slot j _ e
  rw[z] at h1
  cases h1
  obtain⟨o,ho⟩:=h5.obj
  rw[h] at ho;cases ho
theorem SR.write (I:SR Γ B G H σ env β)(hb:∀j,Γ.br j=false){i:Nat}{a:Addr}{d d':D}{o:HO}(e:env[i]? =some (.ow d))(ea:σ[i]? =some (some (.ref a)))(h:∀H',H' a=some o->ar G H'->Own Γ.K G H' a d'):SR Γ B G (upd H a o) σ (env.set i (.ow d')) β:=by
 obtain⟨a',h1,h2,h3,h4,h5⟩:=I.slot i _ e
 rw[ea] at h1;cases h1
 have hi:i < env.length:=(List.getElem?_eq_some_iff.mp e).1
 have sub:ar G (upd H a o):=fun b u q=>by rw[ay (fun z=>by rw[z,h3] at q;cases q)];exact I.sub b u q
 refine⟨sub,I.old,I.new,fun b u q n=>?_,fun b q=>?_,I.fix,fun b q=>?_,by rw[List.length_set];exact I.len,fun j s q=>?_,fun j k c d1 d2 q1 q2 q3 q4=>?_⟩
 ·rw[ay (fun z=>by rw[z,h2] at q;cases q)];exact I.keep b u q n
 ·by_cases z:b=a
  ·subst z;exact (h _ az sub).mx
  ·exact (I.pin b q).same fun o e=>by rw[ay z];exact e
 ·obtain⟨k1,k2,k3⟩:=I.box b q
  exact⟨by rw[ay (fun z=>h4 (by rw[<-z];exact q))];exact k1,k2,k3⟩
 ·by_cases z:j=i
  ·subst z
   rw[List.getElem?_set_self hi] at q
   cases q
   exact⟨a,ea,h2,h3,h4,h _ az sub⟩
  ·rw[List.getElem?_set_ne (Ne.symm z)] at q
   have w:=I.slot j s q
   cases s with
   |no=>trivial
   |fz d1=>exact w
   |ow d1=>
    obtain⟨c,w1,w2,w3,w4,w5⟩:=w
    have ca:c≠a:=fun z2=>z (I.sep j i c d1 d q e w1 (by rw[z2];exact ea))
    exact⟨c,w1,w2,w3,w4,w5.mono (ar.refl _) fun o q=>by rw[ay ca];exact q⟩
   |bx=>exact w
   |br d1=>obtain⟨b1,_⟩:=w;rw[hb j] at b1;cases b1
 ·have back:∀{j:Nat} {d1:D},(env.set i (Sl.ow d'))[j]? =some (.ow d1)->∃d2,env[j]? =some (.ow d2):=fun {j d1} q=>by
   by_cases z:j=i
   ·subst z;exact⟨d,e⟩
   ·rw[List.getElem?_set_ne (Ne.symm z)] at q;exact⟨d1,q⟩
  obtain⟨_,b1⟩:=back q1
  obtain⟨_,b2⟩:=back q2
  exact I.sep j k c _ _ b1 b2 q3 q4
end
end L2

end

section
namespace L2
open PySem PySem.Spec PyProof.Rows
inductive R (α:Type) where
 |ok (a:α) (β:Int)
 |exc (c:Str)
 |bad
def R.bnd {α γ:Type}(r:R α)(k:α->Int->R γ):R γ:=match r with
 | .ok a β=>k a β
 | .exc c=>.exc c
 | .bad=>.bad
def R.of {α:Type}(o:Option α)(β:Int):R α:=match o with
 |some a=>.ok a β
 |none=>.bad
abbrev VF (α:Type):=List Nv->Int->R α
def Kp (Γ:Fx)(H':Hp):Prop:=∀b o,Γ.H0 b=some o->b∉Γ.par->H' b=some o
def Out {α:Type}(Γ:Fx)(E:XK)(r:R α)(P:α->Int->Prop):Prop:=match r with
 | .ok a β=>P a β
 | .exc c=>∀H',Kp Γ H'->E (.ref (Γ.ca c)) none H'
 | .bad=>False
section
variable {α γ:Type}{Γ:Fx}{E:XK}
theorem Out.bnd {r:R α}{k:α->Int->R γ}{P:γ->Int->Prop}(h:Out Γ E (r.bnd k) P):Out Γ E r fun a β=>Out Γ E (k a β) P:=by
 cases r with
 |ok a β=>exact h
 |exc c=>exact h
 |bad=>exact h
theorem Out.imp {r:R α}{P P':α->Int->Prop}(h:Out Γ E r P)(i:∀a β,P a β->P' a β):Out Γ E r P':=by
 cases r with
 |ok a β=>exact i a β h
 |exc c=>exact h
 |bad=>exact h
theorem Out.of {o:Option α}{β:Int}{P:α->Int->Prop}(h:Out Γ E (R.of o β) P):∃a,o=some a/\P a β:=by
 cases o with
 |none=>exact h.elim
 |some a=>exact⟨a,rfl,h⟩
end
inductive Md where
 |b |v |w
def VO (K:PySem.W.Frag)(B:Option Addr)(H G' H':Hp):Md->D->V->Prop
 | .b,d,v=>lA K B G' H' v d
 | .v,d,v=>Rp K G' v d
 | .w,d,v=>∃a,v=.ref a/\H a=none/\G' a=none/\Own K G' H' a d
def pT (Γ:Fx)(E:XK)(f:VF D)(L:List Nat)(md:Md):TE:=fun σ H Q=>∃env G B β,SR Γ B G H σ env β/\
 Out Γ E (f (vl env) β) fun d β'=>∀v G' H',SR Γ B G' H' σ (bo L env) β'->ar G G'->iK B H H'->VO Γ.K B H G' H' md d v->Q v H'
def SE (X:Cx)(Γ:Fx)(E:XK)(e:Expr)(f:VF D)(L:List Nat)(md:Md):Prop:=PE X e (pT Γ E f L md)
def qT (Γ:Fx)(E:XK)(f:VF Bool)(L:List Nat):TT:=fun σ H Q=>∃env G B β,SR Γ B G H σ env β/\
 Out Γ E (f (vl env) β) fun c β'=>∀G' H',SR Γ B G' H' σ (bo L env) β'->ar G G'->iK B H H'->Q c H'
def zW (X:Cx)(Γ:Fx)(E:XK)(e:Expr)(f:VF Bool)(L:List Nat):Prop:=PT X e (qT Γ E f L)
def sX (X:Cx)(Γ:Fx)(E:XK)(e:Expr)(f:VF Bool)(L:List Nat):Prop:=PW X e (qT Γ E f L)
def aT (Γ:Fx)(E:XK)(f:VF (List D))(L:List Nat):TA:=fun σ H Q=>∃env G B β,SR Γ B G H σ env β/\
 Out Γ E (f (vl env) β) fun ds β'=>∀vs G' H',SR Γ B G' H' σ (bo L env) β'->ar G G'->iK B H H'->b8 Γ.K G' vs ds->Q vs H'
def SA (X:Cx)(Γ:Fx)(E:XK)(es:List Expr)(f:VF (List D))(L:List Nat):Prop:=PA X es (aT Γ E f L)
theorem PE.post' {X:Cx}{e:Expr}{t u:TE}(h:PE X e t)(m:∀σ H Q,u σ H Q->t σ H Q):PE X e u:=fun pins s σ H Q I q=>h pins s σ H Q I (m σ H Q q)
theorem PT.post {X:Cx}{e:Expr}{t u:TT}(h:PT X e t)(m:∀σ H Q,u σ H Q->t σ H Q):PT X e u:=fun pins s σ H Q I q=>h pins s σ H Q I (m σ H Q q)
theorem PW.post {X:Cx}{e:Expr}{t u:TT}(h:PW X e t)(m:∀σ H Q,u σ H Q->t σ H Q):PW X e u:=fun wh pins s σ H Q I q=>h wh pins s σ H Q I (m σ H Q q)
theorem PA.post {X:Cx}{es:List Expr}{t u:TA}(h:PA X es t)(m:∀σ H Q,u σ H Q->t σ H Q):PA X es u:=fun pos pins s σ H Q I q=>h pos pins s σ H Q I (m σ H Q q)
theorem PS.post {X:Cx}{st:Stmt}{t u:TS}(h:PS X st t)(m:∀D σ H,u D σ H->t D σ H):PS X st u:=fun pins s σ H D I q=>h pins s σ H D I (m D σ H q)
def dat:Option Nv->Option D
 |some (.da d)=>some d
 |_=>none
def gv (i:Nat):VF D:=fun vs β=>R.of (dat vs[i]?) β
def cst (d:D):VF D:=fun _ β=>.ok d β
section
variable {X:Cx}{Γ:Fx}{E:XK}{e a b c:Expr}{f fa fb fc:VF D}{L La Lb Lc:List Nat}{md ma mb mc:Md}{pos:Pos}
theorem join_some {o:Option Nv}{d:D}(h:dat o=some d):o=some (.da d):=by
 cases o with
 |none=>cases h
 |some o=>cases o with
  |da x=>cases h;rfl
  |_=>cases h
theorem SR.letIn {B:Option Addr}{G H:Hp}{σ:St}{env:En}{β:Int}(I:SR Γ B G H σ env β){p:Addr}{d:D}(h0:Γ.H0 p=none)(hg:G p=none)(hb:B≠some p)(hn:∀(j:Nat) (d':D),env[j]? =some (.ow d')->σ[j]?≠some (some (.ref p)))(h:Own Γ.K G H p d) :
  ∃G',SR Γ B G' H σ env β/\ar G G'/\Rp Γ.K G' (.ref p) d:=by
 obtain⟨o,ho⟩:=h.obj
 have sG:ar G (upd G p o):=ar.new hg
 refine⟨upd G p o,⟨fun b u q=>?_,I.old.trans sG,fun b n1 n2=>?_,I.keep,I.pin,I.fix,fun b q=>?_,I.len,fun j s q=>?_,I.sep⟩,sG,h.rp hg sG fun o' q=>by rw[ho] at q;cases q;exact az⟩
 ·by_cases z:b=p
  ·subst z;rw[az] at q;cases q;exact ho
  ·rw[ay z] at q;exact I.sub b u q
 ·rw[ay (fun z=>n1.1 (by rw[z];exact h0))];exact I.new b n1 n2
 ·obtain⟨k1,k2,k3⟩:=I.box b q
  exact⟨k1,by rw[ay (fun z=>hb (by rw[<-z];exact q))];exact k2,k3⟩
 ·have w:=I.slot j s q
  cases s with
  |no=>trivial
  |fz d'=>obtain⟨v,w1,w2⟩:=w;exact⟨v,w1,w2.mono sG⟩
  |ow d'=>
   obtain⟨c,w1,w2,w3,w4,w5⟩:=w
   have ca:c≠p:=fun z2=>hn j d' q (by rw[<-z2];exact w1)
   exact⟨c,w1,w2,by rw[ay ca];exact w3,w4,w5.mono sG fun o q=>q⟩
  |bx=>exact w
  |br d'=>obtain⟨b1,c,w1,w4,wp,w5⟩:=w;exact⟨b1,c,w1,w4,wp,w5.mono sG fun o q=>q⟩
theorem x8 {env:En}{i j:Nat}{d:D}(h:(jc env i)[j]? =some (.ow d)):env[j]? =some (.ow d):=by
 unfold jc at h
 split at h
 ·rename_i d' e
  by_cases z:i=j
  ·subst z
   rw[List.getElem?_set_self (List.getElem?_eq_some_iff.mp e).1] at h;cases h
  ·rw[List.getElem?_set_ne z] at h;exact h
 ·exact h
theorem rE {L:List Nat}{env:En}{j:Nat}{d:D}(h:(bo L env)[j]? =some (.ow d)):env[j]? =some (.ow d):=by
 unfold bo at h
 induction L generalizing env with
 |nil=>exact h
 |cons i L ih=>exact x8 (ih h)
theorem SR.letW {B:Option Addr}{G H G' H':Hp}{σ:St}{env:En}{β β':Int}{L:List Nat}{d:D}{v:V}(I:SR Γ B G H σ env β)(I':SR Γ B G' H' σ (L2.bo L env) β')(h:VO Γ.K B H G' H' .w d v):∃G2,SR Γ B G2 H' σ (L2.bo L env) β'/\ar G' G2/\Rp Γ.K G2 v d:=by
 obtain⟨p,rfl,h1,h2,h3⟩:=h
 obtain⟨q1,q2,q3,q4⟩:=I.fresh h1
 exact I'.letIn q1 h2 q3 (fun j d' e=>q4 j d' (rE e)) h3
theorem SE.wv (h:SE X Γ E e f L .w):SE X Γ E e f L .v:=by
 refine PE.post' h fun σ H Q ⟨env,G,B,β,I,o⟩=>⟨env,G,B,β,I,o.imp fun d β' k v G' H' I' s m vo=>?_⟩
 obtain⟨G2,I2,s2,r⟩:=I.letW I' vo
 exact k v G2 H' I2 (s.trans s2) m r
theorem VO.brw {B:Option Addr}{H G' H':Hp}{d:D}{v:V}{K:PySem.W.Frag}(h:VO K B H G' H' md d v)(hB:∀x,B=some x->H x≠none):lA K B G' H' v d:=by
 cases md with
 |b=>exact h
 |v=>exact .inl h
 |w=>
  obtain⟨p,rfl,h1,h2,h3⟩:=h
  exact .inr ⟨p,rfl,fun z=>hB p z h1,h3⟩
theorem SR.boxThere {B:Option Addr}{G H:Hp}{σ:St}{env:En}{β:Int}(I:SR Γ B G H σ env β):∀x,B=some x->H x≠none:=fun x e=>by rw[(I.box x e).1];simp
theorem af (i:Nat){x:Str}(hN:X.N[i]? =some x:=by rfl)(hv:zS X.env.scope x:=by first |exact Or.inl rfl |exact Or.inr (Or.inl rfl) |exact Or.inr (Or.inr rfl))(hd:(x == ("__debug__":Str))=false:=by decide)
  (hcd:(x == ("__classdict__":Str))=false:=by decide):SE X Γ E (.Name x pos) (gv i) [] .b:=by
 refine PE.post' (jG hN hv hd hcd) fun σ H Q ⟨env,G,B,β,I,o⟩=>?_
 obtain⟨d,e,k⟩:=o.of
 have e:=join_some e
 rcases ED e with q |q |q
 ·obtain⟨v,h1,h2⟩:=I.slot i _ q
  exact⟨v,h1,k v G H I (ar.refl _) (iK.refl _ _) (.inl h2)⟩
 ·obtain⟨p,h1,h2,h3,h4,h5⟩:=I.slot i _ q
  exact⟨.ref p,h1,k _ G H I (ar.refl _) (iK.refl _ _) (.inr ⟨p,rfl,h4,h5⟩)⟩
 ·obtain⟨_,p,h1,h4,_,h5⟩:=I.slot i _ q
  exact⟨.ref p,h1,k _ G H I (ar.refl _) (iK.refl _ _) (.inr ⟨p,rfl,h4,h5⟩)⟩
theorem au (i:Nat)(hb:Γ.br i=false){x:Str}(hN:X.N[i]? =some x:=by rfl)(hv:zS X.env.scope x:=by first |exact Or.inl rfl |exact Or.inr (Or.inl rfl) |exact Or.inr (Or.inr rfl))(hd:(x == ("__debug__":Str))=false:=by decide)
  (hcd:(x == ("__classdict__":Str))=false:=by decide):SE X Γ E (.Name x pos) (gv i) [i] .v:=by
 refine PE.post' (jG hN hv hd hcd) fun σ H Q ⟨env,G,B,β,I,o⟩=>?_
 obtain⟨d,e,k⟩:=o.of
 obtain⟨G',v,I',s,h1,h2⟩:=I.freeze i hb (join_some e)
 exact⟨v,h1,k v G' H I' s (iK.refl _ _) h2⟩
theorem DE {v:V}{d:D}(h:PE X e (tC v))(r:∀G,Rp Γ.K G v d):SE X Γ E e (cst d) [] .v:=by
 refine PE.post' h fun σ H Q ⟨env,G,B,β,I,o⟩=>?_
 exact o v G H I (ar.refl _) (iK.refl _ _) (r G)
theorem aw {i:Int}{j}:SE X Γ E (.Constant (.int i) j pos) (cst (.int i)) [] .v:=DE vV fun _=>.int i
theorem iZ {i:Bool}{j}:SE X Γ E (.Constant (.bool i) j pos) (cst (.bool i)) [] .v:=DE xJ fun _=>.bl i
theorem Ae {x:Str}{j}:SE X Γ E (.Constant (.str x) j pos) (cst (.str x)) [] .v:=DE Fm fun _=>.str x
theorem CJ {x:Str}{i:Int}{t:Tok}(hg:Gl X x)(hm:X.mg x=some (.int i t))(hd:(x == ("__debug__":Str))=false:=by decide):SE X Γ E (.Name x pos) (cst (.int i)) [] .v:=DE (D1 hg hm (show RelV (.int i) _ from⟨_,rfl⟩) hd) fun _=>.int i
theorem two {W:V->V->Hp->Prop}{B:Option Addr}{G H:Hp}{σ:St}{env:En}{β:Int}(I:SR Γ B G H σ env β)
  (h:Out Γ E (fa (vl env) β) fun d1 β1=>Out Γ E (fb (vl env) β1) fun d2 β2=>∀x y G2 H2,SR Γ B G2 H2 σ (bo (La ++ Lb) env) β2->ar G G2->iK B H H2->lA Γ.K B G2 H2 x d1->lA Γ.K B G2 H2 y d2->W x y H2) :
  pT Γ E fa La ma σ H fun x H1=>pT Γ E fb Lb mb σ H1 fun y H2=>W x y H2:=by
 refine⟨env,G,B,β,I,h.imp fun d1 β1 h x G1 H1 I1 s1 m1 vx=>⟨bo La env,G1,B,β1,I1,?_⟩⟩
 rw[iC]
 refine h.imp fun d2 β2 k y G2 H2 I2 s2 m2 vy=>?_
 refine k x y G2 H2 (by rw[cR];exact I2) (s1.trans s2) (m1.trans m2) ((vx.brw I.boxThere).mono s2 m2) (vy.brw I1.boxThere)
def mq (K:PySem.W.Frag)(r:R2)(g:D->D->Option D)(md:Md):Prop:=∀(B:Option Addr) (G H:Hp) (x y:V) (dx dy d:D) (Q:VK),ar G H->(∀x,B=some x->H x≠none)->lA K B G H x dx->lA K B G H y dy->g dx dy=some d->
 (∀v G' H',Ext G H G' H'->VO K B H G' H' md d v->Q v H')->r x y H Q
def f2 (fa fb:VF D)(g:D->D->Option D):VF D:=fun vs β=>(fa vs β).bnd fun x β1=>(fb vs β1).bnd fun y β2=>R.of (g x y) β2
theorem gO {B:Option Addr}{H H2:Hp}(m:iK B H H2)(hB:∀x,B=some x->H2 x≠none){p:Addr}(h:H2 p=none):H p=none:=by
 cases e:H p with
 |none=>rfl
 |some o=>rw[m p o e fun z=>hB p z h] at h;cases h
theorem VO.back {K:PySem.W.Frag}{B:Option Addr}{H H2 G' H':Hp}{d:D}{v:V}(h:VO K B H2 G' H' md d v)(m:iK B H H2)(hB:∀x,B=some x->H2 x≠none):VO K B H G' H' md d v:=by
 cases md with
 |b=>exact h
 |v=>exact h
 |w=>obtain⟨p,e,h1,h2,h3⟩:=h;exact⟨p,e,gO m hB h1,h2,h3⟩
theorem lT {r:R2}{g:D->D->Option D}{Q:VK}(pr:mq Γ.K r g md){B:Option Addr}{G H:Hp}{σ:St}{env:En}{β:Int}(I:SR Γ B G H σ env β)
  (h:Out Γ E (f2 fa fb g (vl env) β) fun d β'=>∀v G' H',SR Γ B G' H' σ (bo (La ++ Lb) env) β'->ar G G'->iK B H H'->VO Γ.K B H G' H' md d v->Q v H') :
  pT Γ E fa La ma σ H fun x H1=>pT Γ E fb Lb mb σ H1 fun y H2=>r x y H2 Q:=by
 refine two I (h.bnd.imp fun d1 β1 h=>h.bnd.imp fun d2 β2 h x y G2 H2 I2 s2 m2 bx by'=>?_)
 obtain⟨d,e,k⟩:=h.of
 refine pr B G2 H2 x y d1 d2 d Q I2.sub I2.boxThere bx by' e fun v G' H' x' vo=>?_
 exact k v G' H' (I2.ext x') (s2.trans x'.gg) (m2.trans (x'.hh.mov B)) (vo.back m2 I2.boxThere)
theorem bE {op:Operator}{r:R2}{g:D->D->Option D}(ho:lG X (binaryOp op) r)(pr:mq Γ.K r g md)(ha:SE X Γ E a fa La ma)(hb:SE X Γ E b fb Lb mb):SE X Γ E (.BinOp a op b pos) (f2 fa fb g) (La ++ Lb) md:=
 PE.post' (qz ho ha hb) fun σ H Q ⟨env,G,B,β,I,o⟩=>lT pr I o
theorem dW {op:CmpOp}{r:R2}{g:D->D->Option D}(ho:lG X (compareOp op) r)(pr:mq Γ.K r g md)(ha:SE X Γ E a fa La ma)(hb:SE X Γ E b fb Lb mb)(hm:behindInMarks op b=false):SE X Γ E (.Compare a [op] [b] pos) (f2 fa fb g) (La ++ Lb) md:=
 PE.post' (Dy ho ha hb hm) fun σ H Q ⟨env,G,B,β,I,o⟩=>lT pr I o
theorem bB {r:R2}{g:D->D->Option D}(hr:AD X r)(pr:mq Γ.K r g md)(ha:SE X Γ E a fa La ma)(hb:SE X Γ E b fb Lb mb)(hs:yg b):SE X Γ E (.Subscript a b pos) (f2 fa fb g) (La ++ Lb) md:=
 PE.post' (k8 hr ha hb hs) fun σ H Q ⟨env,G,B,β,I,o⟩=>lT pr I o
def Am (K:PySem.W.Frag)(r:V->Hp->VK->Prop)(g:D->Option D)(md:Md):Prop:=∀(B:Option Addr) (G H:Hp) (x:V) (dx d:D) (Q:VK),ar G H->(∀x,B=some x->H x≠none)->lA K B G H x dx->g dx=some d->
 (∀v G' H',Ext G H G' H'->VO K B H G' H' md d v->Q v H')->r x H Q
def f1 (fa:VF D)(g:D->Option D):VF D:=fun vs β=>(fa vs β).bnd fun x β1=>R.of (g x) β1
theorem ig {r:V->Hp->VK->Prop}{g:D->Option D}{Q:VK}(pr:Am Γ.K r g md){B:Option Addr}{G H:Hp}{σ:St}{env:En}{β:Int}(I:SR Γ B G H σ env β)
  (h:Out Γ E (f1 fa g (vl env) β) fun d β'=>∀v G' H',SR Γ B G' H' σ (bo La env) β'->ar G G'->iK B H H'->VO Γ.K B H G' H' md d v->Q v H') :
  pT Γ E fa La ma σ H fun x H1=>r x H1 Q:=by
 refine⟨env,G,B,β,I,h.bnd.imp fun d1 β1 h x G1 H1 I1 s1 m1 vx=>?_⟩
 obtain⟨d,e,k⟩:=h.of
 refine pr B G1 H1 x d1 d Q I1.sub I1.boxThere (vx.brw I.boxThere) e fun v G' H' x' vo=>?_
 exact k v G' H' (I1.ext x') (s1.trans x'.gg) (m1.trans (x'.hh.mov B)) (vo.back m1 I1.boxThere)
theorem A8 {op:UnaryOp}{r:V->Hp->VK->Prop}{g:D->Option D}(ho:IU X (unaryOp op) r)(pr:Am Γ.K r g md)(ha:SE X Γ E a fa La ma):SE X Γ E (.UnaryOp op a pos) (f1 fa g) La md:=
 PE.post' (Ic ho ha) fun σ H Q ⟨env,G,B,β,I,o⟩=>ig pr I o
theorem ba {id:String}{r:List V->Hp->VK->Prop}{g:D->Option D}{x:Str}{p:Pos}(hc:cX X (.builtin id) r)(pr:Am Γ.K (fun x=>r [x]) g md)(hg:Gl X x)(hm:X.mg x=none)(hv:bootBuiltins x=some (.builtin id))(ha:SE X Γ E a fa La ma)(hn:x≠"__name__":=by decide)(hdb:(x == ("__debug__":Str))=false:=by decide)
  (he:starEach [a] X.env=(false,eval a X.env) :: starEach [] X.env:=by rfl):SE X Γ E (.Call (.Name x p) [a] [] pos) (f1 fa g) La md:=
 PE.post' (iQ hc hg hm hv (aN ha bA he) hn hdb he) fun σ H Q ⟨env,G,B,β,I,o⟩=>ig (r:=fun x=>r [x]) pr I o
theorem ja {id:String}{r:List V->Hp->VK->Prop}{g:D->Option D}{x:Str}{p:Pos}(hc:cX X (.type id) r)(pr:Am Γ.K (fun x=>r [x]) g md)(hg:Gl X x)(hm:X.mg x=none)(hv:bootBuiltins x=some (.type id))(ha:SE X Γ E a fa La ma)(hn:x≠"__name__":=by decide)(hdb:(x == ("__debug__":Str))=false:=by decide)
  (he:starEach [a] X.env=(false,eval a X.env) :: starEach [] X.env:=by rfl):SE X Γ E (.Call (.Name x p) [a] [] pos) (f1 fa g) La md:=
 PE.post' (gK hc hg hm hv (aN ha bA he) hn hdb he) fun σ H Q ⟨env,G,B,β,I,o⟩=>ig (r:=fun x=>r [x]) pr I o
theorem vt {id:String}{r:List V->Hp->VK->Prop}{g:D->D->Option D}{x:Str}{p:Pos}(hc:cX X (.builtin id) r)(pr:mq Γ.K (fun x y=>r [x,y]) g md)(hg:Gl X x)(hm:X.mg x=none)(hv:bootBuiltins x=some (.builtin id))(ha:SE X Γ E a fa La ma)(hb:SE X Γ E b fb Lb mb)(hn:x≠"__name__":=by decide)(hdb:(x == ("__debug__":Str))=false:=by decide)
  (he:starEach [a,b] X.env=(false,eval a X.env) :: starEach [b] X.env:=by rfl) (he2:starEach [b] X.env=(false,eval b X.env) :: starEach [] X.env:=by rfl) (hpl:(backTo pos (starEach [b] X.env)).any (·.1)=false:=by rfl):SE X Γ E (.Call (.Name x p) [a,b] [] pos) (f2 fa fb g) (La ++ Lb) md:=
 PE.post' (iQ hc hg hm hv (aN ha (aN hb bA he2) he) hn hdb he hpl) fun σ H Q ⟨env,G,B,β,I,o⟩=>lT (r:=fun x y=>r [x,y]) pr I o
def eV (fa fb:VF D):VF D:=fun vs β=>(fa vs β).bnd fun x β1=>match x with
 | .bool true=>fb vs β1
 | .bool false=>.ok (.bool false) β1
 |_=>.bad
theorem j8 {op}(h:SE X Γ E a fa La md):SE X Γ E (.BoolOp op [a] pos) fa La md:=FL h
theorem jw {rest:List Expr}(ha:SE X Γ E a fa La ma)(hb:SE X Γ E (.BoolOp .And (b :: rest) pos) fb Lb .v)(hbr:∀i,i∈Lb->Γ.br i=false):SE X Γ E (.BoolOp .And (a :: b :: rest) pos) (eV fa fb) (La ++ Lb) .v:=by
 refine PE.post' (EX ha hb) fun σ H Q ⟨env,G,B,β,I,o⟩=>?_
 refine⟨env,G,B,β,I,o.bnd.imp fun d1 β1 h x G1 H1 I1 s1 m1 vx=>?_⟩
 have bx:=vx.brw I.boxThere
 cases d1 with
 |bool c=>
  obtain rfl:=bx.bool
  refine⟨c,rfl,?_⟩
  cases c with
  |true=>exact uT ⟨_,G1,B,β1,I1,by rw[iC];exact h.imp fun d β' k v G' H' I' s' m' vo=>k v G' H' (by rw[cR];exact I') (s1.trans s') (m1.trans m') vo⟩
  |false=>
   obtain⟨G2,I2,s2⟩:=I1.bo Lb hbr
   exact vh (h _ G2 H1 (by rw[cR];exact I2) (s1.trans s2) m1 (.bl false))
 |_=>exact h.elim
def BA:D->Option D
 | .bool c=>some (.bool (!c))
 |_=>none
theorem Bk (ha:SE X Γ E a fa La ma):SE X Γ E (.UnaryOp .Not a pos) (f1 fa BA) La .v:=by
 refine PE.post' (Gp ha) fun σ H Q ⟨env,G,B,β,I,o⟩=>?_
 refine ig (r:=fun x H1 Q=>∃c,x=.bl c/\Q (.bl (!c)) H1) ?_ I o
 intro B G H x dx d Q s hB bx e k
 cases dx with
 |bool c=>
  obtain rfl:=bx.bool
  cases e
  exact⟨c,rfl,k _ G H (Ext.refl s) (.bl _)⟩
 |_=>cases e
def EZ:D->Option Bool
 | .none=>some false
 | .bool b=>some b
 | .int i=>some (i != 0)
 | .str y=>if y.length<=sizeLine then some ((y.length:Int) != 0) else none
 | .list ds=>some (!ds.isEmpty)
 | .tuple ds=>some (!ds.isEmpty)
 | .dict _=>none
def lI (fa:VF D):VF Bool:=fun vs β=>(fa vs β).bnd fun x β1=>R.of (EZ x) β1
theorem nz {K:PySem.W.Frag}{G:Hp}{xs:List V}{ds:List D}(r:b8 K G xs ds):(!ds.isEmpty)= !xs.isEmpty:=by cases r <;> rfl
theorem dC (hK:X.K=Γ.K)(ha:SE X Γ E a fa La ma)(he:∀whole,isTrue a X.env whole=(do let v <-whole;standAt a.pos;holding [v] (truthy v)):=by intro _;rfl):zW X Γ E a (lI fa) La:=by
 refine PT.post (Au ha he) fun σ H Q ⟨env,G,B,β,I,o⟩=>?_
 refine⟨env,G,B,β,I,o.bnd.imp fun d1 β1 h x G1 H1 I1 s1 m1 vx=>?_⟩
 obtain⟨c,e,k⟩:=h.of
 have bx:=vx.brw I.boxThere
 refine⟨c,?_,k G1 H1 I1 s1 m1⟩
 rw[hK]
 cases d1 with
 |none=>obtain rfl:=bx.none;cases e;rfl
 |bool b=>obtain rfl:=bx.bool;cases e;rfl
 |int i=>obtain rfl:=bx.int;cases e;rfl
 |str y=>
  obtain rfl:=bx.str
  simp only[EZ] at e
  split at e
  ·cases e;exact⟨by assumption,rfl⟩
  ·cases e
 |list ds=>obtain⟨p,xs,rfl,hq,r⟩:=bx.list I1.sub;cases e;exact .inl ⟨xs,.inl hq,nz r⟩
 |tuple ds=>obtain⟨p,xs,rfl,hq,r⟩:=bx.tuple I1.sub;cases e;exact .inr (.inl ⟨xs,hq,nz r⟩)
 |dict ds=>cases e
def cJ (fa:VF D):VF Bool:=fun vs β=>(fa vs β).bnd fun x β1=>match x with
 | .bool c=>.ok c β1
 |_=>.bad
theorem bD {op:CmpOp}{r:R2}{g:D->D->Option D}(ho:lG X (compareOp op) r)(pr:mq Γ.K r g .v)(ha:SE X Γ E a fa La ma)(hb:SE X Γ E b fb Lb mb)(hm:behindInMarks op b=false):zW X Γ E (.Compare a [op] [b] pos) (cJ (f2 fa fb g)) (La ++ Lb):=by
 refine PT.post (DO ho ha hb hm) fun σ H Q ⟨env,G,B,β,I,o⟩=>?_
 refine lT pr I (o.bnd.imp fun d β' h v G' H' I' s' m' vo=>?_)
 cases d with
 |bool c=>cases vo;exact⟨c,rfl,h G' H' I' s' m'⟩
 |_=>exact h.elim
def td (t:VF Bool):VF Bool:=fun vs β=>(t vs β).bnd fun c β1=>.ok (!c) β1
def yO (t u:VF Bool):VF Bool:=fun vs β=>(t vs β).bnd fun c β1=>if c=true then u vs β1 else .ok false β1
def kS (t u:VF Bool):VF Bool:=fun vs β=>(t vs β).bnd fun c β1=>if c=true then .ok true β1 else u vs β1
variable {ta tb tc:VF Bool}
theorem gj (ha:zW X Γ E a ta La):zW X Γ E (.UnaryOp .Not a pos) (td ta) La:=by
 refine PT.post (FT ha) fun σ H Q ⟨env,G,B,β,I,o⟩=>?_
 exact⟨env,G,B,β,I,o.bnd.imp fun c β1 h=>h⟩
theorem sX.t (h:sX X Γ E e ta La):zW X Γ E e ta La:=PW.pt h
theorem rP (ha:zW X Γ E a ta La):sX X Γ E (.BoolOp .And [a] pos) ta La:=xN ha
theorem j5 (ha:zW X Γ E a ta La):sX X Γ E (.BoolOp .Or [a] pos) ta La:=EI ha
theorem wO {rest:List Expr}(ha:zW X Γ E a ta La)(hb:sX X Γ E (.BoolOp .And (b :: rest) pos) tb Lb)(hbr:∀i,i∈Lb->Γ.br i=false):sX X Γ E (.BoolOp .And (a :: b :: rest) pos) (yO ta tb) (La ++ Lb):=by
 refine PW.post (Bh ha hb) fun σ H Q ⟨env,G,B,β,I,o⟩=>?_
 refine⟨env,G,B,β,I,o.bnd.imp fun c β1 h G1 H1 I1 s1 m1=>?_⟩
 cases c with
 |true=>exact uT ⟨_,G1,B,β1,I1,by rw[iC];exact Out.imp h fun d β' k G' H' I' s' m'=>k G' H' (by rw[cR];exact I') (s1.trans s') (m1.trans m')⟩
 |false=>
  obtain⟨G2,I2,s2⟩:=I1.bo Lb hbr
  exact vh (h G2 H1 (by rw[cR];exact I2) (s1.trans s2) m1)
theorem ng {rest:List Expr}(ha:zW X Γ E a ta La)(hb:sX X Γ E (.BoolOp .Or (b :: rest) pos) tb Lb)(hbr:∀i,i∈Lb->Γ.br i=false):sX X Γ E (.BoolOp .Or (a :: b :: rest) pos) (kS ta tb) (La ++ Lb):=by
 refine PW.post (Hy ha hb) fun σ H Q ⟨env,G,B,β,I,o⟩=>?_
 refine⟨env,G,B,β,I,o.bnd.imp fun c β1 h G1 H1 I1 s1 m1=>?_⟩
 cases c with
 |true=>
  obtain⟨G2,I2,s2⟩:=I1.bo Lb hbr
  exact uT (h G2 H1 (by rw[cR];exact I2) (s1.trans s2) m1)
 |false=>exact vh ⟨_,G1,B,β1,I1,by rw[iC];exact Out.imp h fun d β' k G' H' I' s' m'=>k G' H' (by rw[cR];exact I') (s1.trans s') (m1.trans m')⟩
def Ks (t:VF Bool)(fa fb:VF D):VF D:=fun vs β=>(t vs β).bnd fun c β1=>if c=true then fa vs β1 else fb vs β1
def ag:VF (List D):=fun _ β=>.ok [] β
def aa (fa:VF D)(fr:VF (List D)):VF (List D):=fun vs β=>(fa vs β).bnd fun x β1=>(fr vs β1).bnd fun xs β2=>.ok (x :: xs) β2
variable {fr:VF (List D)}{es:List Expr}
theorem ah:SA X Γ E [] ag []:=PA.post bA fun σ H Q ⟨env,G,B,β,I,o⟩=>o [] G H I (ar.refl _) (iK.refl _ _) .nil
theorem ae (ha:SE X Γ E a fa La .v)(hr:SA X Γ E es fr Lb)(hs:starEach (a :: es) X.env=(false,eval a X.env) :: starEach es X.env:=by rfl):SA X Γ E (a :: es) (aa fa fr) (La ++ Lb):=by
 refine PA.post (aN ha hr hs) fun σ H Q ⟨env,G,B,β,I,o⟩=>?_
 refine⟨env,G,B,β,I,o.bnd.imp fun d1 β1 h x G1 H1 I1 s1 m1 vx=>⟨bo La env,G1,B,β1,I1,?_⟩⟩
 rw[iC]
 refine h.bnd.imp fun ds β2 k xs G2 H2 I2 s2 m2 r=>?_
 exact k (x :: xs) G2 H2 (by rw[cR];exact I2) (s1.trans s2) (m1.trans m2) (.cons (vx.mono s2) r)
def bI (fr:VF (List D)):VF D:=fun vs β=>(fr vs β).bnd fun ds β1=>if ds.length<=sizeLine then .ok (.tuple ds) β1 else .bad
def bK (fr:VF (List D)):VF D:=fun vs β=>(fr vs β).bnd fun ds β1=>if ds.length<=sizeLine then .ok (.list ds) β1 else .bad
theorem cL {x1}(h:SA X Γ E es fr L):SE X Γ E (.Tuple es x1 pos) (bI fr) L .v:=by
 refine PE.post' (v8 h) fun σ H Q ⟨env,G,B,β,I,o⟩=>?_
 refine⟨env,G,B,β,I,o.bnd.imp fun ds β1 k xs G1 H1 I1 s1 m1 r=>?_⟩
 by_cases hz:ds.length<=sizeLine
 ·rw[if_pos hz] at k
  refine⟨by rw[r.len];exact hz,fun p hp=>?_⟩
  have x:=Ext.new I1.sub (o:=.tup xs) hp
  exact k _ _ _ (I1.ext x) (s1.trans x.gg) (m1.trans (x.hh.mov B)) (.tup (.inl (.inl az)) (r.mono x.gg))
 ·rw[if_neg hz] at k;exact k.elim
theorem b6 (h:SA X Γ E es fr L):SE X Γ E (.List es pos) (bK fr) L .w:=by
 refine PE.post' (Br h) fun σ H Q ⟨env,G,B,β,I,o⟩=>?_
 refine⟨env,G,B,β,I,o.bnd.imp fun ds β1 k xs G1 H1 I1 s1 m1 r=>?_⟩
 by_cases hz:ds.length<=sizeLine
 ·rw[if_pos hz] at k
  refine⟨by rw[r.len];exact hz,fun p hp=>?_⟩
  have x:=Ext.own I1.sub (o:=.lst xs) hp
  exact k _ _ _ (I1.ext x) s1 (m1.trans (x.hh.mov B)) ⟨p,rfl,gO m1 I1.boxThere hp,I1.sub.free hp,xs,az,r⟩
 ·rw[if_neg hz] at k;exact k.elim
inductive FR where
 |ok (d:D) (fresh:Bool)
 |exc (c:Str)
 |bad
def FV (K:PySem.W.Frag)(H G' H':Hp)(fr:Bool)(d:D)(v:V):Prop:=if fr=true then ∃a,v=.ref a/\H a=none/\G' a=none/\Own K G' H' a d else Rp K G' v d
def Cv (K:PySem.W.Frag)(ca:Str->Addr)(n:Nat)(F:List D->FR):Sp:=fun vs H Q E=>∃G ds,ar G H/\ds.length=n/\b8 K G vs ds/\match F ds with
 | .ok d fr=>∀v G' H',ar H H'->ar G G'->ar G' H'->(∀b,Mx H b->G b=none->G' b=none)->FV K H G' H' fr d v->Q v H'
 | .exc c=>∀H',ar H H'->E (.ref (ca c)) none H'
 | .bad=>False
structure b4 (P:Program)(w:World)(K:PySem.W.Frag)(mg:Str->Option Value)(base:Heap)(ca:Str->Addr)(x:Str)(ps:List Str)(k:Nat)(F:List D->FR):Prop where
 ex:∃f fd,mg x=some (.ref f)/\PySem.W.keepIn K (.ref f)=true/\Binds K fd ps []/\fR P w K mg base (nJ P w) k f fd ps (Cv K ca ps.length F)
 len:∀ds,F ds≠.bad->ds.length=ps.length
def ao (F:List D->FR)(fr:VF (List D)):VF D:=fun vs β=>(fr vs β).bnd fun ds β1=>match F ds with
 | .ok d _=>.ok d β1
 | .exc c=>.exc c
 | .bad=>.bad
def vm (F:List D->FR)(fr:VF (List D)):VF D:=fun vs β=>(fr vs β).bnd fun ds β1=>match F ds with
 | .ok d true=>.ok d β1
 | .ok _ false=>.bad
 | .exc c=>.exc c
 | .bad=>.bad
theorem SR.called {B:Option Addr}{G1 H1 G2 H2:Hp}{σ:St}{env:En}{β:Int}(I1:SR Γ B G1 H1 σ env β)(h:ar H1 H2)(g:ar G1 G2)(s:ar G2 H2)(n:∀b,Mx H1 b->G1 b=none->G2 b=none):SR Γ B G2 H2 σ env β/\iK B H1 H2:=by
 refine⟨⟨s,I1.old.trans g,fun b n1 n2=>?_,fun b o e np=>h b o (I1.keep b o e np),fun b hb=>?_,I1.fix,fun b e=>?_,I1.len,fun i t e=>?_,I1.sep⟩,h.mov B⟩
 ·exact n b (I1.thereM n1) (I1.new b n1 n2)
 ·exact (I1.pin b hb).same fun o e=>h b o e
 ·obtain⟨h1,h2,h3⟩:=I1.box b e
  exact⟨h b _ h1,n b (Mx.lst h1) h2,h3⟩
 ·have q:=I1.slot i t e
  cases t with
  |no=>trivial
  |fz d=>obtain⟨v,h1,h2⟩:=q;exact⟨v,h1,h2.mono g⟩
  |ow d=>
   obtain⟨p,h1,h2,h3,h4,h5⟩:=q
   exact⟨p,h1,h2,n p h5.mx h3,h4,h5.mono g fun o q=>h p o q⟩
  |bx=>exact q
  |br d=>obtain⟨b1,p,h1,h4,hp,h5⟩:=q;exact⟨b1,p,h1,h4,hp,h5.mono g fun o q=>h p o q⟩
theorem SR.kp {B:Option Addr}{G H H':Hp}{σ:St}{env:En}{β:Int}(I:SR Γ B G H σ env β)(h:ar H H'):Kp Γ H':=fun b o e n=>h b o (I.keep b o e n)
theorem qR {F:List D->FR}{ps:List Str}{Q:VK}{B:Option Addr}{G H:Hp}{σ:St}{env:En}{β:Int}(I:SR Γ B G H σ env β)(hK:X.K=Γ.K){wv:Bool}
  (h:Out Γ E (if wv=true then vm F fr (vl env) β else ao F fr (vl env) β) fun d β'=>∀v G' H',SR Γ B G' H' σ (bo L env) β'->ar G G'->iK B H H'->VO Γ.K B H G' H' (if wv=true then .w else .v) d v->Q v H') (hl:∀ds,F ds≠.bad->ds.length=ps.length) :
  aT Γ E fr L σ H fun vs H1=>Cv X.K Γ.ca ps.length F vs H1 Q E:=by
 refine⟨env,G,B,β,I,?_⟩
 have h:Out Γ E (fr (vl env) β) fun ds β1=>Out Γ E (match F ds with
   | .ok d true=>.ok d β1
   | .ok d false=>if wv=true then .bad else .ok d β1
   | .exc c=>.exc c
   | .bad=>.bad) fun d β'=>∀v G' H',SR Γ B G' H' σ (bo L env) β'->ar G G'->iK B H H'->VO Γ.K B H G' H' (if wv=true then .w else .v) d v->Q v H':=by
  cases wv with
  |true=>
   simp only[if_true] at h ⊢
   refine h.bnd.imp fun ds β1 h=>?_
   cases q:F ds with
   |ok d b=>rw[q] at h;cases b <;> exact h
   |exc c=>rw[q] at h;exact h
   |bad=>rw[q] at h;exact h
  |false=>
   simp only[Bool.false_eq_true,if_false] at h ⊢
   refine h.bnd.imp fun ds β1 h=>?_
   cases q:F ds with
   |ok d b=>rw[q] at h;cases b <;> exact h
   |exc c=>rw[q] at h;exact h
   |bad=>rw[q] at h;exact h
 refine h.imp fun ds β1 k vs G1 H1 I1 s1 m1 r=>?_
 refine⟨G1,ds,I1.sub,?_,by rw[hK];exact r,?_⟩
 ·exact hl ds fun z=>by rw[z] at k;exact k
 cases q:F ds with
 |bad=>rw[q] at k;exact k
 |exc c=>rw[q] at k;exact fun H' s=>k H' (I1.kp s)
 |ok d b=>
  rw[q] at k
  intro v G' H' hh hg hs hn fv
  obtain⟨I2,m2⟩:=I1.called hh hg hs hn
  cases b with
  |true=>
   obtain⟨p,rfl,p1,p2,p3⟩:∃a,v=.ref a/\H1 a=none/\G' a=none/\Own X.K G' H' a d:=fv
   rw[hK] at p3
   have hp:=gO m1 I1.boxThere p1
   cases wv with
   |true=>exact k _ G' H' I2 (s1.trans hg) (m1.trans m2) ⟨p,rfl,hp,p2,p3⟩
   |false=>
    obtain⟨q1,q2,q3,q4⟩:=I1.fresh p1
    obtain⟨G3,I3,s3,r3⟩:=I2.letIn q1 p2 q3 q4 p3
    exact k _ G3 H' I3 ((s1.trans hg).trans s3) (m1.trans m2) r3
  |false=>
   cases wv with
   |true=>exact k.elim
   |false=>
    have fv:Rp X.K G' v d:=fv
    rw[hK] at fv
    exact k _ G' H' I2 (s1.trans hg) (m1.trans m2) fv
theorem aF {x:Str}{ps:List Str}{k:Nat}{F:List D->FR}{p:Pos}(hf:b4 X.prog X.w X.K X.mg X.base Γ.ca x ps k F)(hr:fo k X.A)(hx:Passes (nJ X.prog X.w) X E)(hK:X.K=Γ.K)(hg:Gl X x)(ha:SA X Γ E (a :: es) fr L)(hdb:(x == ("__debug__":Str))=false:=by decide)
  (he:starEach (a :: es) X.env=(false,eval a X.env) :: starEach es X.env:=by rfl) (hpl:(backTo pos (starEach es X.env)).any (·.1)=false:=by rfl):SE X Γ E (.Call (.Name x p) (a :: es) [] pos) (ao F fr) L .v:=by
 obtain⟨f,fd,hm,hk,hb,hF⟩:=hf.ex
 refine PE.post' (oh (dvs:=[]) hF hr hg hm hk hb .nil hx ha hdb he hpl) fun σ H Q ⟨env,G,B,β,I,o⟩=>?_
 show aT Γ E fr L σ H fun vs H1=>Cv X.K Γ.ca ps.length F (vs ++ []) H1 Q E
 have:=qR (Q:=Q) (wv:=false) (ps:=ps) I hK o hf.len
 simpa using this
theorem Bm {x:Str}{ps:List Str}{k:Nat}{F:List D->FR}{p:Pos}(hf:b4 X.prog X.w X.K X.mg X.base Γ.ca x ps k F)(hr:fo k X.A)(hx:Passes (nJ X.prog X.w) X E)(hK:X.K=Γ.K)(hg:Gl X x)(ha:SA X Γ E (a :: es) fr L)(hdb:(x == ("__debug__":Str))=false:=by decide)
  (he:starEach (a :: es) X.env=(false,eval a X.env) :: starEach es X.env:=by rfl) (hpl:(backTo pos (starEach es X.env)).any (·.1)=false:=by rfl):SE X Γ E (.Call (.Name x p) (a :: es) [] pos) (vm F fr) L .w:=by
 obtain⟨f,fd,hm,hk,hb,hF⟩:=hf.ex
 refine PE.post' (oh (dvs:=[]) hF hr hg hm hk hb .nil hx ha hdb he hpl) fun σ H Q ⟨env,G,B,β,I,o⟩=>?_
 show aT Γ E fr L σ H fun vs H1=>Cv X.K Γ.ca ps.length F (vs ++ []) H1 Q E
 have:=qR (Q:=Q) (wv:=true) (ps:=ps) I hK o hf.len
 simpa using this
end
end L2

end

section
namespace L2
open PySem PySem.Spec PyProof.Rows
inductive SO where
 |nx (env:En) (β:Int)
 |bk (env:En) (β:Int)
 |ct (env:En) (β:Int)
 |rt (d:D) (fr:Bool) (β:Int)
 |exc (c:Str)
 |bad
abbrev SF:=En->Int->SO
def RV (Γ:Fx)(G' H':Hp)(fr:Bool)(d:D)(v:V):Prop:=if fr=true then ∃a,v=.ref a/\Γ.H0 a=none/\G' a=none/\Own Γ.K G' H' a d else Rp Γ.K G' v d
def qq (Γ:Fx)(E:XK)(G:Hp)(N:Ends):SO->Prop
 | .nx env β=>∀B G' H' σ,SR Γ B G' H' σ env β->ar G G'->N.nx σ H'
 | .bk env β=>∀B G' H' σ,SR Γ B G' H' σ env β->ar G G'->N.bk σ H'
 | .ct env β=>∀B G' H' σ,SR Γ B G' H' σ env β->ar G G'->N.ct σ H'
 | .rt d fr β=>∀B G' H' σ env v,SR Γ B G' H' σ env β->ar G G'->RV Γ G' H' fr d v->N.rt v H'
 | .exc c=>∀H',Kp Γ H'->E (.ref (Γ.ca c)) none H'
 | .bad=>False
def sT (Γ:Fx)(E:XK)(m:SF):TS:=fun N σ H=>∃env G B β,SR Γ B G H σ env β/\qq Γ E G N (m env β)
def SS (X:Cx)(Γ:Fx)(E:XK)(st:Stmt)(m:SF):Prop:=PS X st (sT Γ E m)
def Cy (X:Cx)(Γ:Fx)(E:XK)(st:List Stmt)(m:SF):Prop:=rb X st (sT Γ E m)
theorem rb.post {X:Cx}{st:List Stmt}{t u:TS}(h:rb X st t)(m:∀D σ H,u D σ H->t D σ H):rb X st u:=fun pins s σ H D I q=>h pins s σ H D I (m D σ H q)
def aI (m m':SF):SF:=fun env β=>match m env β with
 | .nx env' β'=>m' env' β'
 |r=>r
def lB:SF:=fun env β=>.nx env β
section
variable {X:Cx}{Γ:Fx}{E:XK}{e a b c:Expr}{f fa fb:VF D}{L La Lb:List Nat}{md ma mb:Md}{pos:Pos}{st:Stmt}{sts:List Stmt}{m m':SF}{ta:VF Bool}
theorem qq.weak {G G1:Hp}{N:Ends}{r:SO}(h:qq Γ E G N r)(s:ar G G1):qq Γ E G1 N r:=by
 cases r with
 |nx env β=>exact fun B G' H' σ I s'=>h B G' H' σ I (s.trans s')
 |bk env β=>exact fun B G' H' σ I s'=>h B G' H' σ I (s.trans s')
 |ct env β=>exact fun B G' H' σ I s'=>h B G' H' σ I (s.trans s')
 |rt d fr β=>exact fun B G' H' σ env v I s'=>h B G' H' σ env v I (s.trans s')
 |exc c=>exact h
 |bad=>exact h
theorem cp:Cy X Γ E [] lB:=rb.post xW fun N σ H ⟨env,G,B,β,I,o⟩=>o B G H σ I (ar.refl _)
theorem ak (h:SS X Γ E st m)(h':Cy X Γ E sts m'):Cy X Γ E (st :: sts) (aI m m'):=by
 refine rb.post (gS h h') fun N σ H ⟨env,G,B,β,I,o⟩=>?_
 refine⟨env,G,B,β,I,?_⟩
 unfold aI at o
 cases q:m env β with
 |nx env' β'=>rw[q] at o;exact fun B' G' H' σ' I' s'=>⟨env',G',B',β',I',o.weak s'⟩
 |bk env' β'=>rw[q] at o;exact o
 |ct env' β'=>rw[q] at o;exact o
 |rt d fr β'=>rw[q] at o;exact o
 |exc c=>rw[q] at o;exact o
 |bad=>rw[q] at o;exact o
theorem ax (h:SS X Γ E st m):Cy X Γ E [st] m:=ij h
def toS {α:Type}(r:R α)(k:α->Int->SO):SO:=match r with
 | .ok x β=>k x β
 | .exc c=>.exc c
 | .bad=>.bad
theorem cc {α:Type}{G:Hp}{N:Ends}{r:R α}{k:α->Int->SO}{P:α->Int->Prop}(h:qq Γ E G N (toS r k))(i:∀x β,qq Γ E G N (k x β)->P x β):Out Γ E r P:=by
 cases r with
 |ok x β=>exact i x β h
 |exc c=>exact h
 |bad=>exact h
theorem SR.set' {B:Option Addr}{G H:Hp}{σ:St}{env:En}{β:Int}(I:SR Γ B G H σ env β)(i:Nat){v:V}{d:D}(h:Rp Γ.K G v d):SR Γ B G H (σ.set i (some v)) (env.set i (.fz d)) β:=by
 by_cases hi:i < env.length
 ·exact I.set hi h
 ·have h1:env.set i (.fz d)=env:=List.set_eq_of_length_le (by omega)
  have h2:σ.set i (some v)=σ:=List.set_eq_of_length_le (by rw[I.len];omega)
  rw[h1,h2];exact I
theorem SR.setOw' {B:Option Addr}{G H:Hp}{σ:St}{env:En}{β:Int}(I:SR Γ B G H σ env β)(i:Nat){a:Addr}{d:D}(h0:Γ.H0 a=none)(hg:G a=none)(hb:B≠some a)(h:Own Γ.K G H a d)(hn:∀(j:Nat) (d':D),env[j]? =some (.ow d')->σ[j]?≠some (some (.ref a))):SR Γ B G H (σ.set i (some (.ref a))) (env.set i (.ow d)) β:=by
 by_cases hi:i < env.length
 ·exact I.setOw hi h0 hg hb h fun j d' e _=>hn j d' e
 ·have h1:env.set i (.ow d)=env:=List.set_eq_of_length_le (by omega)
  have h2:σ.set i (some (.ref a))=σ:=List.set_eq_of_length_le (by rw[I.len];omega)
  rw[h1,h2];exact I
def bw (i:Nat)(L:List Nat)(f:VF D):SF:=fun env β=>toS (f (vl env) β) fun d β'=>.nx ((bo L env).set i (.fz d)) β'
theorem a7 {i:Nat}{x:Str}{pos':Pos}(he:SE X Γ E e f L .v)(hN:X.N.Nodup)(hi:X.N[i]? =some x:=by rfl)(hx:Loc X.env.scope x:=by first |exact Or.inl rfl |exact Or.inr rfl)(hs:swapsWith e (some (.Name x pos')) pos.line X.env=pure false:=by rfl)(hf:X.fn x=true\/X.env.scope.names.lookup x=some .local:=by first |exact .inl rfl |exact .inr rfl |assumption) :
  SS X Γ E (.Assign [.Name x pos'] e pos) (bw i L f):=by
 refine PS.post (oH hN hi hx he hs hf) fun N σ H ⟨env,G,B,β,I,o⟩=>?_
 refine⟨env,G,B,β,I,cc o fun d β' k v G' H' I' s' m' vo=>?_⟩
 exact k B G' H' _ (I'.set' i vo) s'
def il (i:Nat)(L:List Nat)(f:VF D):SF:=fun env β=>toS (f (vl env) β) fun d β'=>.nx ((bo L env).set i (.ow d)) β'
theorem fM {i:Nat}{x:Str}{pos':Pos}(he:SE X Γ E e f L .w)(hN:X.N.Nodup)(hi:X.N[i]? =some x:=by rfl)(hx:Loc X.env.scope x:=by first |exact Or.inl rfl |exact Or.inr rfl)(hs:swapsWith e (some (.Name x pos')) pos.line X.env=pure false:=by rfl)(hf:X.fn x=true\/X.env.scope.names.lookup x=some .local:=by first |exact .inl rfl |exact .inr rfl |assumption) :
  SS X Γ E (.Assign [.Name x pos'] e pos) (il i L f):=by
 refine PS.post (oH hN hi hx he hs hf) fun N σ H ⟨env,G,B,β,I,o⟩=>?_
 refine⟨env,G,B,β,I,cc o fun d β' k v G' H' I' s' m' vo=>?_⟩
 obtain⟨p,rfl,h1,h2,h3⟩:=vo
 obtain⟨q1,q2,q3,q4⟩:=I.fresh h1
 exact k B G' H' _ (I'.setOw' i q1 h2 q3 h3 fun j d' z=>q4 j d' (rE z)) s'
def m9 (L:List Nat)(f:VF D):SF:=fun env β=>toS (f (vl env) β) fun _ β'=>.nx (bo L env) β'
theorem n9 (he:SE X Γ E e f L md)(hs:swapsWith e none pos.line X.env=pure false:=by rfl):SS X Γ E (.Expr e pos) (m9 L f):=by
 refine PS.post (sP he hs) fun N σ H ⟨env,G,B,β,I,o⟩=>?_
 exact⟨env,G,B,β,I,cc o fun d β' k v G' H' I' s' m' vo=>k B G' H' _ I' s'⟩
def bO (f:VF D):SF:=fun env β=>toS (f (vl env) β) fun d β'=>.rt d false β'
theorem aW (he:SE X Γ E e f L .v):SS X Γ E (.Return (some e) pos) (bO f):=by
 refine PS.post (mP he) fun N σ H ⟨env,G,B,β,I,o⟩=>?_
 exact⟨env,G,B,β,I,cc o fun d β' k v G' H' I' s' m' vo=>k B G' H' σ _ v I' s' vo⟩
def oR (f:VF D):SF:=fun env β=>toS (f (vl env) β) fun d β'=>.rt d true β'
theorem l5 (he:SE X Γ E e f L .w):SS X Γ E (.Return (some e) pos) (oR f):=by
 refine PS.post (mP he) fun N σ H ⟨env,G,B,β,I,o⟩=>?_
 refine⟨env,G,B,β,I,cc o fun d β' k v G' H' I' s' m' vo=>?_⟩
 obtain⟨p,rfl,h1,h2,h3⟩:=vo
 obtain⟨q1,_⟩:=I.fresh h1
 exact k B G' H' σ _ _ I' s' ⟨p,rfl,q1,h2,h3⟩
def pw (i:Nat):SF:=fun env β=>match env[i]? with
 |some (.fz d)=>.rt d false β
 |some (.ow d)=>.rt d true β
 |_=>.bad
theorem mi (i:Nat){x:Str}{p:Pos}(hN:X.N[i]? =some x:=by rfl)(hv:zS X.env.scope x:=by first |exact Or.inl rfl |exact Or.inr (Or.inl rfl) |exact Or.inr (Or.inr rfl))(hd:(x == ("__debug__":Str))=false:=by decide)
  (hcd:(x == ("__classdict__":Str))=false:=by decide):SS X Γ E (.Return (some (.Name x p)) pos) (pw i):=by
 refine PS.post (mP (jG hN hv hd hcd)) fun N σ H ⟨env,G,B,β,I,o⟩=>?_
 unfold pw at o
 cases q:env[i]? with
 |none=>rw[q] at o;exact o.elim
 |some s=>
  rw[q] at o
  cases s with
  |no=>exact o.elim
  |bx=>exact o.elim
  |br d=>exact o.elim
  |fz d=>
   obtain⟨v,h1,h2⟩:=I.slot i _ q
   exact⟨v,h1,o B G H σ env v I (ar.refl _) h2⟩
  |ow d=>
   obtain⟨p,h1,h2,h3,h4,h5⟩:=I.slot i _ q
   exact⟨_,h1,o B G H σ env _ I (ar.refl _) ⟨p,rfl,h2,h3,h5⟩⟩
def jV (L:List Nat)(t:VF Bool)(m m':SF):SF:=fun env β=>toS (t (vl env) β) fun c β'=>if c=true then m (bo L env) β' else m' (bo L env) β'
theorem dN {x y:List Stmt}(hc:zW X Γ E c ta L)(ha:Cy X Γ E x m)(hb:Cy X Γ E y m'):SS X Γ E (.If c x y pos) (jV L ta m m'):=by
 refine PS.post (Ex hc ha hb) fun N σ H ⟨env,G,B,β,I,o⟩=>?_
 refine⟨env,G,B,β,I,cc o fun d β' k G' H' I' s' m'=>?_⟩
 cases d with
 |true=>exact uT ⟨_,G',B,β',I',qq.weak k s'⟩
 |false=>exact vh ⟨_,G',B,β',I',qq.weak k s'⟩
def iN (L:List Nat)(t:VF Bool)(m:SF):Nat->SF
 | 0=>fun _ _=>.bad
 |n + 1=>fun env β=>toS (t (vl env) β) fun c β'=>if c=true then (match m (bo L env) β' with
   | .nx env2 β2=>iN L t m n env2 β2
   | .ct env2 β2=>iN L t m n env2 β2
   | .bk env2 β2=>.nx env2 β2
   |r=>r) else .nx (bo L env) β'
theorem oY {x:List Stmt}(n:Nat)(hp:PassesOwn (model X.prog X.w) X.A X.env X.xe)(hc:zW X Γ E c ta L)(hb:Cy X Γ E x m):SS X Γ E (.While c x [] pos) (iN L ta m n):=by
 refine PS.post (AS hp hc hb) fun N σ H ⟨env,G,B,β,I,o⟩=>?_
 refine⟨fun k σ H=>∃env G1 B β,SR Γ B G1 H σ env β/\ar G G1/\qq Γ E G1 N (iN L ta m k env β),⟨n,env,G,B,β,I,ar.refl _,o⟩,?_⟩
 rintro k σ H ⟨env,G1,B,β,I,sG,o⟩
 cases k with
 |zero=>exact o.elim
 |succ k=>
  refine⟨env,G1,B,β,I,cc o fun d β' q G' H' I' s' m'=>?_⟩
  cases d with
  |false=>exact vh (q B G' H' σ I' s')
  |true=>
   refine uT ⟨fun σ H=>∃env G1 B β,SR Γ B G1 H σ env β/\ar G G1/\qq Γ E G1 N (iN L ta m k env β),fun σ' H' h=>⟨k,Nat.lt_succ_self k,h⟩,bo L env,G',B,β',I',?_⟩
   rw[if_pos rfl] at q
   cases r:m (bo L env) β' with
   |nx env2 β2=>rw[r] at q;exact fun B2 G2 H2 σ2 I2 s2=>⟨env2,G2,B2,β2,I2,(sG.trans s').trans s2,qq.weak q (s'.trans s2)⟩
   |ct env2 β2=>rw[r] at q;exact fun B2 G2 H2 σ2 I2 s2=>⟨env2,G2,B2,β2,I2,(sG.trans s').trans s2,qq.weak q (s'.trans s2)⟩
   |bk env2 β2=>rw[r] at q;exact fun B2 G2 H2 σ2 I2 s2=>q B2 G2 H2 σ2 I2 (s'.trans s2)
   |rt d fr β2=>rw[r] at q;exact qq.weak q s'
   |exc c=>rw[r] at q;exact q
   |bad=>rw[r] at q;exact q
def Walk (K:PySem.W.Frag)(B:Option Addr)(G H1:Hp)(ds:List D)(J:It):Prop:=∀Gc H (i:Nat),ar G Gc->ar Gc H->iK B H1 H->
 (i < ds.length->J.go i H/\∀x H',J.yld i H x H'->∃G' d,Ext Gc H G' H'/\ds[i]? =some d/\Rp K G' x d)/\(ds.length<=i->J.stop i H)
theorem Walk.any {K:PySem.W.Frag}{B:Option Addr}{G H1:Hp}{ds:List D}{J:It}(h:Walk K B G (fun _=>none) ds J):Walk K B G H1 ds J:=fun Gc H i s1 s2 _=>h Gc H i s1 s2 fun b o e=>by cases e
def iT (Γ:Fx)(E:XK)(f:VF (List D))(L:List Nat)(md:Md):TI:=fun σ H Rr=>∃env G B β,SR Γ B G H σ env β/\
 Out Γ E (f (vl env) β) fun ds β'=>∀J G' H',SR Γ B G' H' σ (bo L env) β'->ar G G'->iK B H H'->Walk Γ.K B G' (match md with | .b=>H' |_=>fun _=>none) ds J->Rr J H'
def SI (X:Cx)(Γ:Fx)(E:XK)(tg e:Expr)(f:VF (List D))(L:List Nat)(md:Md):Prop:=PI X tg e (iT Γ E f L md)
theorem PI.post {X:Cx}{tg e:Expr}{t u:TI}(h:PI X tg e t)(m:∀σ H Q,u σ H Q->t σ H Q):PI X tg e u:=fun pins s σ H Q I q=>h pins s σ H Q I (m σ H Q q)
variable {tg:Expr}
def lx:D->Option (List D)
 | .list ds=>some ds
 | .tuple ds=>some ds
 |_=>none
def bh (fa:VF D):VF (List D):=fun vs β=>(fa vs β).bnd fun x β1=>R.of (lx x) β1
end
end L2

end

section
namespace L2
open PySem PySem.Spec PyProof.Rows
def Kj (K:PySem.W.Frag)(tl:TE):TI:=fun σ H R=>tl σ H fun x H1=>∃a xs,x=.ref a/\((gk K H1 a xs/\R (zO K a) H1)\/(fy K H1 a xs/\R (EF K a) H1))
section
variable {X:Cx}{tg l:Expr}{tl:TE}
theorem EG (hl:PE X l tl):PI X tg l (Kj X.K tl):=by
 intro pins s σ H R I h
 refine cK (hl pins s σ H _ I h) fun v s1 ⟨x,H1,I1,r1,q1⟩=>?_
 obtain⟨a,xs,e,q⟩:=q1
 subst e
 cases r1
 rcases q with⟨hq,q⟩ | ⟨hq,q⟩
 ·obtain⟨its,rv,p,hz⟩:=I1.list hq
  refine wpAny_pyIter_list p.isList ?_
  refine⟨s1.heap.objs.size,[s1.heap.objs.size],_,_,H1,rfl,I1.kept (t':=s1.toks) fun b o e=>Heap.get?_push_of_some _ e,mW a _,⟨_,Heap.get?_push_size _ rfl,rfl,rfl⟩,fun b hb=>?_,q⟩
  have e:b=s1.heap.objs.size:=by simpa using hb
  subst e
  exact I1.fpOk (Nat.le_refl _) (I1.hok.fresh (Nat.le_refl _))
 ·obtain⟨its,rv,p,hz⟩:=I1.tuple hq
  refine wpAny_pyIter_tuple (show s1.heap.IsTuple a its.toArray from p) ?_
  refine⟨s1.heap.objs.size,[s1.heap.objs.size],_,_,H1,rfl,I1.kept (t':=s1.toks) fun b o e=>Heap.get?_push_of_some _ e,pO a _,⟨_,Heap.get?_push_size _ rfl,rfl,rfl⟩,fun b hb=>?_,q⟩
  have e:b=s1.heap.objs.size:=by simpa using hb
  subst e
  exact I1.fpOk (Nat.le_refl _) (I1.hok.fresh (Nat.le_refl _))
end
section
variable {X:Cx}{Γ:Fx}{E:XK}{e a b c:Expr}{f fa fb:VF D}{L La Lb:List Nat}{md ma mb:Md}{pos:Pos}{st:Stmt}{sts:List Stmt}{m m':SF}{ta:VF Bool}{tg:Expr}
theorem mK {K:PySem.W.Frag}{B:Option Addr}{G H1:Hp}{p:Addr}{xs:List V}{ds:List D}(h:∀Gc H,ar G Gc->ar Gc H->iK B H1 H->gk K H p xs)(r:b8 K G xs ds):Walk K B G H1 ds (zO K p):=fun Gc H i s1 s2 m=>by
 have hq:=h Gc H s1 s2 m
 refine⟨fun hi=>⟨?_,fun x H' y=>?_⟩,fun hi=>⟨xs,hq,by rw[r.len];exact hi⟩⟩
 ·have hi':i < xs.length:=by rw[r.len];exact hi
  exact⟨xs,xs[i],hq,by simp[hi']⟩
 ·obtain⟨rfl,y⟩:=y
  obtain⟨d,e,q⟩:=r.at' (y xs hq)
  exact⟨Gc,d,Ext.refl s2,e,q.mono s1⟩
theorem tL {K:PySem.W.Frag}{B:Option Addr}{G H1:Hp}{p:Addr}{xs:List V}{ds:List D}(h:∀Gc H,ar G Gc->ar Gc H->iK B H1 H->fy K H p xs)(r:b8 K G xs ds):Walk K B G H1 ds (EF K p):=fun Gc H i s1 s2 m=>by
 have hq:=h Gc H s1 s2 m
 refine⟨fun hi=>⟨?_,fun x H' y=>?_⟩,fun hi=>⟨xs,hq,by rw[r.len];exact hi⟩⟩
 ·have hi':i < xs.length:=by rw[r.len];exact hi
  exact⟨xs,xs[i],hq,by simp[hi']⟩
 ·obtain⟨rfl,y⟩:=y
  obtain⟨d,e,q⟩:=r.at' (y xs hq)
  exact⟨Gc,d,Ext.refl s2,e,q.mono s1⟩
theorem D3 (hK:X.K=Γ.K)(ha:SE X Γ E a fa La .v):SI X Γ E tg a (bh fa) La .v:=by
 refine PI.post (EG ha) fun σ H Q ⟨env,G,B,β,I,o⟩=>?_
 refine⟨env,G,B,β,I,o.bnd.imp fun d1 β1 h x G1 H1 I1 s1 m1 vx=>?_⟩
 obtain⟨ds,e,k⟩:=h.of
 rw[hK]
 have vx:Rp Γ.K G1 x d1:=vx
 cases d1 with
 |list l=>
  cases e
  cases vx with
  | @lst p xs _ hq r=>exact⟨p,xs,rfl,.inl ⟨.inl (Rd.mono (.inl hq) I1.sub),k _ G1 H1 I1 s1 m1 (mK (fun Gc H t1 t2 _=>.inl (Rd.mono (.inl hq) (t1.trans t2))) r)⟩⟩
 |tuple l=>
  cases e
  cases vx with
  | @tup p xs _ hq r=>exact⟨p,xs,rfl,.inr ⟨hq.grow I1.sub.grow,k _ G1 H1 I1 s1 m1 (tL (fun Gc H t1 t2 _=>hq.grow (t1.trans t2).grow) r)⟩⟩
 |_=>cases e
theorem j6 (hK:X.K=Γ.K)(ha:SE X Γ E a fa La ma):SI X Γ E tg a (bh fa) La .b:=by
 refine PI.post (EG ha) fun σ H Q ⟨env,G,B,β,I,o⟩=>?_
 refine⟨env,G,B,β,I,o.bnd.imp fun d1 β1 h x G1 H1 I1 s1 m1 vx=>?_⟩
 obtain⟨ds,e,k⟩:=h.of
 rw[hK]
 have vx:=vx.brw I.boxThere
 cases d1 with
 |list l=>
  cases e
  rcases vx with vx | ⟨p,rfl,hb,xs,q,r⟩
  ·cases vx with
   | @lst p xs _ hq r=>exact⟨p,xs,rfl,.inl ⟨.inl (Rd.mono (.inl hq) I1.sub),k _ G1 H1 I1 s1 m1 (mK (fun Gc H t1 t2 _=>.inl (Rd.mono (.inl hq) (t1.trans t2))) r)⟩⟩
  ·exact⟨p,xs,rfl,.inl ⟨.inl (.inl q),k _ G1 H1 I1 s1 m1 (mK (fun Gc H t1 t2 mv=>.inl (.inl (mv p _ q hb))) r)⟩⟩
 |tuple l=>
  cases e
  rcases vx with vx | ⟨p,rfl,hb,q⟩
  ·cases vx with
   | @tup p xs _ hq r=>exact⟨p,xs,rfl,.inr ⟨hq.grow I1.sub.grow,k _ G1 H1 I1 s1 m1 (tL (fun Gc H t1 t2 _=>hq.grow (t1.trans t2).grow) r)⟩⟩
  ·exact q.elim
 |_=>cases e
def cu (lo:Int)(n:Nat):List D:=(List.range n).map fun (k:Nat)=>PyData.int (lo + k)
theorem c8 (lo:Int)(n:Nat):(cu lo n).length=n:=by unfold cu;simp
theorem tQ {K:PySem.W.Frag}{B:Option Addr}{G H1:Hp}(lo:Int)(n:Nat):Walk K B G H1 (cu lo n) (zk lo n):=fun Gc H i s1 s2 m=>by
 rw[c8]
 refine⟨fun hi=>⟨hi,fun x H' y=>?_⟩,fun hi=>hi⟩
 obtain⟨rfl,rfl⟩:=y
 refine⟨Gc,.int (lo + i),Ext.refl s2,?_,.int _⟩
 unfold cu
 rw[List.getElem?_map,List.getElem?_range hi];rfl
def tI (j:Int):Bool:=Nat.ble j.natAbs 1000000
theorem iL {j:Int}(h:tI j=true): -(2 ^ 62)<=j/\j < 2 ^ 62:=by
 have:=Nat.le_of_ble_eq_true h
 omega
theorem kC {j:Int}(h: -1000<=j)(h2:j<=10000):tI j=true:=Nat.ble_eq_true_of_le (by omega)
def dX (fa:VF D):VF (List D):=fun vs β=>(fa vs β).bnd fun x β1=>match x with
 | .int j=>if tI j=true then .ok (cu 0 j.toNat) β1 else .bad
 |_=>.bad
def qO (fa fb:VF D):VF (List D):=fun vs β=>(fa vs β).bnd fun x β1=>(fb vs β1).bnd fun y β2=>match x,y with
 | .int i,.int j=>if (tI i && tI j)=true then .ok (cu i (j - i).toNat) β2 else .bad
 |_,_=>.bad
theorem kY {p:Pos}(hg:Gl X "range")(hm:X.mg "range"=none)(ha:SE X Γ E a fa La ma)(hs:starEach [a] X.env= [(false,eval a X.env)]:=by rfl)(hs':starEach [a] X.env=(false,eval a X.env) :: starEach [] X.env:=by rfl):SI X Γ E tg (.Call (.Name "range" p) [a] [] pos) (dX fa) La md:=by
 refine PI.post (kE hg hm (aN ha bA hs') hs) fun σ H Q ⟨env,G,B,β,I,o⟩=>?_
 refine⟨env,G,B,β,I,o.bnd.imp fun d1 β1 h x G1 H1 I1 s1 m1 vx=>?_⟩
 have vx:=vx.brw I.boxThere
 cases d1 with
 |int j=>
  obtain rfl:=vx.int
  dsimp only at h
  by_cases hj:tI j=true
  ·rw[if_pos hj] at h
   exact⟨j,rfl,(iL hj).1,(iL hj).2,h _ G1 H1 I1 s1 m1 (tQ 0 _)⟩
  ·rw[if_neg hj] at h;exact h.elim
 |_=>exact h.elim
theorem G6 {p:Pos}(hg:Gl X "range")(hm:X.mg "range"=none)(ha:SE X Γ E a fa La ma)(hb:SE X Γ E b fb Lb mb)(hs:starEach [a,b] X.env= [(false,eval a X.env),(false,eval b X.env)]:=by rfl)(hs2:starEach [b] X.env= [(false,eval b X.env)]:=by rfl)(hs':starEach [a,b] X.env=(false,eval a X.env) :: starEach [b] X.env:=by rfl)(hs3:starEach [b] X.env=(false,eval b X.env) :: starEach [] X.env:=by rfl):SI X Γ E tg (.Call (.Name "range" p) [a,b] [] pos) (qO fa fb) (La ++ Lb) md:=by
 refine PI.post (yE hg hm (aN ha (aN hb bA hs3) hs') hs hs2) fun σ H Q ⟨env,G,B,β,I,o⟩=>?_
 refine two (W:=fun x y H2=>∃i j:Int,[x,y]= [.int i,.int j]/\(-(2 ^ 62)<=i/\i < 2 ^ 62/\ -(2 ^ 62)<=j/\j < 2 ^ 62)/\Q (zk i (j - i).toNat) H2) I (o.bnd.imp fun d1 β1 h=>h.bnd.imp fun d2 β2 h x y G2 H2 I2 s2 m2 bx by'=>?_)
 obtain⟨i,j,rfl,rfl⟩:∃i j,d1=.int i/\d2=.int j:=by
  cases d1 <;> cases d2 <;> first |exact h.elim |exact⟨_,_,rfl,rfl⟩
 obtain rfl:=bx.int
 obtain rfl:=by'.int
 dsimp only at h
 by_cases hj:(tI i && tI j)=true
 ·rw[if_pos hj] at h
  rw[Bool.and_eq_true] at hj
  exact⟨i,j,rfl,⟨(iL hj.1).1,(iL hj.1).2,(iL hj.2).1,(iL hj.2).2⟩,h _ G2 H2 I2 s2 m2 (tQ i _)⟩
 ·rw[if_neg hj] at h;exact h.elim
inductive Tg where
 |nm (i:Nat)
 |two (i j:Nat)
def pairD:D->Option (D×D)
 | .tuple [x,y]=>some (x,y)
 |_=>none
theorem BX {d x y:D}(h:pairD d=some (x,y)):d=.tuple [x,y]:=by
 unfold pairD at h
 split at h
 ·cases h;rfl
 ·cases h
def dH:Tg->D->En->Option En
 | .nm i,d,env=>some (env.set i (.fz d))
 | .two i j,d,env=>(pairD d).map fun p=>(env.set i (.fz p.1)).set j (.fz p.2)
def kX:Tg->D->List Nv->Option (List Nv)
 | .nm i,d,vs=>some (vs.set i (.da d))
 | .two i j,d,vs=>(pairD d).map fun p=>(vs.set i (.da p.1)).set j (.da p.2)
theorem vO (env:En)(i:Nat)(s:Sl):vl (env.set i s)=(vl env).set i s.val:=by unfold vl;rw[List.map_set]
theorem DR (t:Tg)(d:D)(env:En):(dH t d env).map vl=kX t d (vl env):=by
 cases t with
 |nm i=>show some (vl _)=some _;rw[vO];rfl
 |two i j=>
  show ((pairD d).map _).map vl=(pairD d).map _
  cases pairD d with
  |none=>rfl
  |some p=>show some (vl _)=some _;rw[vO,vO];rfl
def gT (Γ:Fx)(t:Tg):TG:=fun v σ H Q=>∃env G B β d env',SR Γ B G H σ env β/\Rp Γ.K G v d/\dH t d env=some env'/\∀σ',SR Γ B G H σ' env' β->Q σ' H
def SG (X:Cx)(Γ:Fx)(tg:Expr)(t:Tg):Prop:=PG X tg (gT Γ t)
theorem PG.post {X:Cx}{tg:Expr}{t u:TG}(h:PG X tg t)(m:∀v σ H Q,u v σ H Q->t v σ H Q):PG X tg u:=fun pins s σ H v uu Q I r q=>h pins s σ H v uu Q I r (m v σ H Q q)
theorem dr {i:Nat}{x:Str}(hN:X.N.Nodup)(hi:X.N[i]? =some x:=by rfl)(hx:Loc X.env.scope x:=by first |exact Or.inl rfl |exact Or.inr rfl)(hf:X.fn x=true\/X.env.scope.names.lookup x=some .local:=by first |exact .inl rfl |exact .inr rfl |assumption):SG X Γ (.Name x pos) (.nm i):=by
 refine PG.post (cM hN hi hx hf) fun v σ H Q ⟨env,G,B,β,d,env',I,r,e,k⟩=>?_
 cases e
 exact k _ (I.set' i r)
theorem de {i j:Nat}{x y:Str}{px py:Pos}{n:Nat}(hN:X.N.Nodup)(hc:X.calm=true:=by rfl)(hK:X.K=Γ.K:=by rfl)(hi:X.N[i]? =some x:=by rfl)(hj:X.N[j]? =some y:=by rfl)(hx:Loc X.env.scope x:=by first |exact Or.inl rfl |exact Or.inr rfl)(hy:Loc X.env.scope y:=by first |exact Or.inl rfl |exact Or.inr rfl)
  (hf:X.fn x=true\/X.env.scope.names.lookup x=some .local:=by first |exact .inl rfl |exact .inr rfl |assumption) (hf':X.fn y=true\/X.env.scope.names.lookup y=some .local:=by first |exact .inl rfl |exact .inr rfl |assumption):SG X Γ (.Tuple [.Name x px,.Name y py] n pos) (.two i j):=by
 refine PG.post (oW (n:=2) hc (dq (cM hN hi hx hf) (dq (cM hN hj hy hf') l7))) fun v σ H Q ⟨env,G,B,β,d,env',I,r,e,k⟩=>?_
 rw[hK]
 have e:(pairD d).map (fun p=>(env.set i (.fz p.1)).set j (.fz p.2))=some env':=e
 cases q:pairD d with
 |none=>rw[q] at e;cases e
 |some p=>
  obtain⟨dx,dy⟩:=p
  rw[q] at e
  cases e
  obtain rfl:=BX q
  cases r with
  | @tup p xs _ hq r=>
   cases r with
   |cons r1 r=>
    cases r with
    |cons r2 r=>
     cases r
     exact⟨p,_,rfl,hq.grow I.sub.grow,rfl,_,_,rfl,_,_,rfl,rfl,k _ ((I.set' i r1).set' j r2)⟩
def jS (t:Tg)(m:SF):List D->SF
 | []=>fun env β=>.nx env β
 |d :: ds=>fun env β=>match dH t d env with
  |none=>.bad
  |some env1=>match m env1 β with
   | .nx env2 β2=>jS t m ds env2 β2
   | .ct env2 β2=>jS t m ds env2 β2
   | .bk env2 β2=>.nx env2 β2
   |r=>r
def cN (t:Tg)(L:List Nat)(fi:VF (List D))(m:SF):SF:=fun env β=>toS (fi (vl env) β) fun ds β'=>jS t m ds (bo L env) β'
theorem dE {t:Tg}{fi:VF (List D)}{x:List Stmt}(hp:PassesOwn (model X.prog X.w) X.A X.env X.xe)(hc:X.calm=true)(hi:SI X Γ E tg e fi L .v)(hg:SG X Γ tg t)(hb:Cy X Γ E x m)(hs:∀x,foldedSetIterable e X.env x=pure x:=by intro _;rfl):SS X Γ E (.For tg e x [] pos) (cN t L fi m):=by
 refine PS.post (sg hp hc hi hg hb hs) fun N σ H ⟨env,G,B,β,I,o⟩=>?_
 refine⟨env,G,B,β,I,cc o fun ds β' q J G' H' I' s' m' w=>?_⟩
 have w:Walk Γ.K B G' (fun _=>none) ds J:=w
 refine⟨fun i n σ H=>n=ds.length - i/\i<=ds.length/\∃env G1 B β,SR Γ B G1 H σ env β/\ar G' G1/\qq Γ E G1 N (jS t m (ds.drop i) env β),⟨ds.length,by simp,Nat.zero_le _,bo L env,G',B,β',I',ar.refl _,by rw[List.drop_zero];exact qq.weak q s'⟩,?_⟩
 rintro i n σ H ⟨rfl,hi,env,G1,B1,β1,I1,s1,q⟩
 obtain⟨w1,w2⟩:=w G1 H i s1 I1.sub fun b o e=>by cases e
 by_cases hlt:i < ds.length
 ·obtain⟨go,yl⟩:=w1 hlt
  refine .inr ⟨go,fun σ H=>∃env G2 B β,SR Γ B G2 H σ env β/\ar G' G2/\qq Γ E G2 N (jS t m (ds.drop (i + 1)) env β),fun σ2 H2 h=>⟨ds.length - (i + 1),by omega,rfl,hlt,h⟩,fun x H2 y=>?_⟩
  obtain⟨G2,d,x2,ed,rd⟩:=yl x H2 y
  have I2:=I1.ext x2
  have q:=qq.weak q x2.gg
  rw[List.drop_eq_getElem_cons hlt] at q
  have ed':ds[i]=d:=by rw[List.getElem?_eq_getElem hlt] at ed;exact Option.some.inj ed
  rw[ed'] at q
  unfold jS at q
  cases eb:dH t d env with
  |none=>rw[eb] at q;exact q.elim
  |some env1=>
   rw[eb] at q
   refine⟨env,G2,B1,β1,d,env1,I2,rd,eb,fun σ3 I3=>⟨env1,G2,B1,β1,I3,?_⟩⟩
   have s2:=s1.trans x2.gg
   dsimp only at q
   cases r:m env1 β1 with
   |nx env2 β2=>rw[r] at q;exact fun B2 G3 H3 σ2 I2 s3=>⟨env2,G3,B2,β2,I2,s2.trans s3,qq.weak q s3⟩
   |ct env2 β2=>rw[r] at q;exact fun B2 G3 H3 σ2 I2 s3=>⟨env2,G3,B2,β2,I2,s2.trans s3,qq.weak q s3⟩
   |bk env2 β2=>rw[r] at q;exact fun B2 G3 H3 σ2 I2 s3=>q B2 G3 H3 σ2 I2 s3
   |rt d fr β2=>rw[r] at q;exact q
   |exc c=>rw[r] at q;exact q
   |bad=>rw[r] at q;exact q
 ·have e:i=ds.length:=by omega
  subst e
  rw[List.drop_length] at q
  exact .inl ⟨w2 (Nat.le_refl _),q B1 G1 H σ I1 (ar.refl _)⟩
end
end L2

end

section
namespace L2
open PySem PySem.Spec PyProof.Rows
abbrev Fx.iJ (Γ:Fx)(H0 G0:Hp)(par:List Addr)(br:Nat->Bool)(bx:Option Addr):Fx:=⟨Γ.K,H0,G0,par,Γ.ca,br,bx⟩
def eY (own:Nat)(ixs:List Nat)(vs:List Nv):List Nv:=List.replicate own .no ++ ixs.map fun i=>(vs[i]?).getD .no
def Hd:Option Sl->Sl
 |some (.ow d)=>.br d
 |some s=>s
 |none=>.no
def benv (own:Nat)(ixs:List Nat)(env:En):En:=List.replicate own .no ++ ixs.map fun i=>Hd env[i]?
theorem CG (o:Option Sl):(Hd o).val=(o.map Sl.val).getD .no:=by
 cases o with
 |none=>rfl
 |some s=>cases s <;> rfl
theorem Dg (own:Nat)(ixs:List Nat)(env:En):vl (benv own ixs env)=eY own ixs (vl env):=by
 unfold vl benv eY
 rw[List.map_append,List.map_replicate,List.map_map]
 congr 1
 refine List.map_congr_left fun i _=>?_
 show (Hd env[i]?).val=_
 rw[CG,List.getElem?_map]
def wG (env:En):Prop:=∀(i:Nat) (d:D),env[i]?≠some (.ow d)
theorem tS {env:En}(h:wG env)(L:List Nat):bo L env=env:=by
 unfold bo
 induction L with
 |nil=>rfl
 |cons i L ih=>
  rw[List.foldl_cons]
  have:jc env i=env:=by
   unfold jc
   split
   ·rename_i d e;exact absurd e (h i d)
   ·rfl
  rw[this];exact ih
theorem qM (own:Nat)(ixs:List Nat)(env:En):wG (benv own ixs env):=fun i d e=>by
 unfold benv at e
 have hm:=List.mem_of_getElem? e
 rcases List.mem_append.mp hm with h |h
 ·have:=List.eq_of_mem_replicate h;cases this
 ·obtain⟨k,_,hk⟩:=List.mem_map.mp h
  cases q:env[k]? with
  |none=>rw[q] at hk;cases hk
  |some s=>rw[q] at hk;cases s <;> cases hk
theorem oz {env:En}(h:wG env)(i:Nat)(d:D):wG (env.set i (.fz d)):=fun j d' e=>by
 by_cases z:i=j
 ·subst z
  by_cases hi:i < env.length
  ·rw[List.getElem?_set_self hi] at e;cases e
  ·rw[List.set_eq_of_length_le (by omega)] at e;exact h _ _ e
 ·rw[List.getElem?_set_ne z] at e;exact h _ _ e
theorem zD {env env1:En}{t:Tg}{d:D}(h:wG env)(e:dH t d env=some env1):wG env1:=by
 cases t with
 |nm i=>cases e;exact oz h i d
 |two i j=>
  have e:(pairD d).map _=some env1:=e
  cases q:pairD d with
  |none=>rw[q] at e;cases e
  |some p=>rw[q] at e;cases e;exact oz (oz h _ _) _ _
theorem y6 {env env1:En}{t:Tg}{d:D}(e:dH t d env=some env1)(d':D):dH t d' env1=dH t d' env:=by
 cases t with
 |nm i=>cases e;show some _=some _;rw[List.set_set]
 |two i j=>
  have e:(pairD d).map _=some env1:=e
  cases q:pairD d with
  |none=>rw[q] at e;cases e
  |some p=>
   rw[q] at e;cases e
   show (pairD d').map _=(pairD d').map _
   cases pairD d' with
   |none=>rfl
   |some p'=>
    show some _=some _
    congr 1
    dsimp only
    by_cases z:i=j
    ·subst z;simp[List.set_set]
    ·rw[List.set_comm _ _ (Ne.symm z),List.set_set,List.set_set]
theorem Ext.mov {G H G' H':Hp}(x:Ext G H G' H')(B:Option Addr):iK B H H':=x.hh.mov B
section
variable {Γ:Fx}{B:Option Addr}{G H G1 H1 Gc Hc:Hp}{σ σ':St}{env envb:En}{β β':Int}{own:Nat}{ixs:List Nat}{Da:Addr}{acc:List V}
def wV (envb:En):Nat->Bool:=fun j=>match envb[j]? with
 |some (.br _)=>true
 |_=>false
theorem SR.block (I:SR Γ B G H σ env β)(own:Nat)(ixs:List Nat)(hD:H Da=none):SR (Γ.iJ (upd H Da (.lst [])) G (Da :: B.toList) (wV (benv own ixs env)) B) B G (upd H Da (.lst [])) (bJ own ixs σ) (benv own ixs env) β:=by
 obtain⟨q1,q2,q3,q4⟩:=I.fresh hD
 have nB:∀b,B=some b->b≠Da:=fun b e z=>q3 (by rw[<-z];exact e)
 refine⟨I.sub.trans (ar.new hD),ar.refl _,fun b _ h=>h,fun b o h _=>h,fun b hb=>?_,fun b e=>e,fun b e=>?_,?_,fun i s e=>?_,fun i j c d d' e=>absurd e (qM own ixs env i d)⟩
 ·rcases List.mem_cons.mp hb with z |z
  ·subst z;exact Mx.lst az
  ·have z':B=some b:=by simpa using z
   exact Mx.lst (by rw[ay (nB b z')];exact (I.box b z').1)
 ·obtain⟨h1,h2,_⟩:=I.box b e
  exact⟨by rw[ay (nB b e)];exact h1,h2,.inl (List.mem_cons_of_mem _ (by simpa using e))⟩
 ·unfold bJ benv;simp
 ·by_cases hi:i < own
  ·unfold benv at e
   rw[List.getElem?_append_left (by simpa using hi),List.getElem?_replicate,if_pos hi] at e
   cases e;trivial
  ·have e0:=e
   unfold benv at e
   rw[List.getElem?_append_right (by simpa using hi),List.length_replicate,List.getElem?_map] at e
   cases ek:ixs[i - own]? with
   |none=>rw[ek] at e;cases e
   |some k=>
    rw[ek] at e
    have e:Hd env[k]? =s:=Option.some.inj e
    have es:(bJ own ixs σ)[i]? =some ((σ[k]?).join):=by
     unfold bJ
     rw[List.getElem?_append_right (by simpa using hi),List.length_replicate,List.getElem?_map,ek];rfl
    rw[es]
    cases q:env[k]? with
    |none=>rw[q] at e;subst e;trivial
    |some t=>
     rw[q] at e
     have w:=I.slot k t q
     cases t with
     |no=>subst e;trivial
     |fz d=>subst e;obtain⟨v,h1,h2⟩:=w;exact⟨v,by rw[h1];rfl,h2⟩
     |bx=>subst e;obtain⟨a,h1,h2⟩:=w;exact⟨a,by rw[h1];rfl,h2⟩
     |ow d=>
      subst e
      obtain⟨a,h1,h2,h3,h4,h5⟩:=w
      obtain⟨o,ho⟩:=h5.obj
      have aD:a≠Da:=aK ho hD
      refine⟨by show wV _ i=true;unfold wV;rw[e0];rfl,a,by rw[h1];rfl,h4,?_,h5.mono (ar.refl _) fun o q=>by rw[ay aD];exact q⟩
      intro hm
      rcases List.mem_cons.mp hm with z |z
      ·exact aD z
      ·exact h4 (by simpa using z)
     |br d=>
      subst e
      obtain⟨b1,a,h1,h4,hp,h5⟩:=w
      obtain⟨o,ho⟩:=h5.obj
      have aD:a≠Da:=aK ho hD
      refine⟨by show wV _ i=true;unfold wV;rw[e0];rfl,a,by rw[h1];rfl,h4,?_,h5.mono (ar.refl _) fun o q=>by rw[ay aD];exact q⟩
      intro hm
      rcases List.mem_cons.mp hm with z |z
      ·exact aD z
      ·exact h4 (by simpa using z)
theorem SR.unblock (I:SR Γ B G H σ env β){br:Nat->Bool}(hD:H Da=none)(J:SR (Γ.iJ (upd H Da (.lst [])) G (Da :: B.toList) br B) B Gc Hc σ' envb β'):SR Γ B Gc Hc σ env β'/\iK B H Hc/\Gc Da=none:=by
 obtain⟨q1,q2,q3,q4⟩:=I.fresh hD
 have up:∀{b:Addr},Mx H b->Mx (upd H Da (.lst [])) b:=fun {b} h=>h.same fun o e=>by rw[ay (aK e hD)];exact e
 have mv:iK B H Hc:=fun b o e n=>J.keep b o (show upd H Da (.lst []) b=some o by rw[ay (aK e hD)];exact e) fun hm=>by
  rcases List.mem_cons.mp hm with z |z
  ·rw[z,hD] at e;cases e
  ·exact n (by simpa using z)
 refine⟨⟨J.sub,I.old.trans J.old,fun b h1 h2=>J.new b (up (I.thereM h1)) (I.new b h1 h2),fun b o h1 h2=>mv b o (I.keep b o h1 h2) fun z=>?_,fun b hb=>J.thereM (up (I.pin b hb)),I.fix,fun b e=>?_,I.len,fun i s e=>?_,I.sep⟩,mv,J.new Da (Mx.lst (show upd H Da (.lst []) Da=some (.lst []) from az)) q2⟩
 ·obtain⟨_,_,h3⟩:=I.box b z
  rcases h3 with h3 |h3
  ·exact h2 h3
  ·rw[h1] at h3;cases h3
 ·obtain⟨j1,j2,_⟩:=J.box b e
  exact⟨j1,j2,(I.box b e).2.2⟩
 ·have w:=I.slot i s e
  cases s with
  |no=>trivial
  |fz d=>obtain⟨v,h1,h2⟩:=w;exact⟨v,h1,h2.mono J.old⟩
  |bx=>exact w
  |ow d=>
   obtain⟨a,h1,h2,h3,h4,h5⟩:=w
   exact⟨a,h1,h2,J.new a (up h5.mx) h3,h4,h5.mono J.old fun o q=>mv a o q h4⟩
  |br d=>
   obtain⟨b1,a,h1,h4,hp,h5⟩:=w
   exact⟨b1,a,h1,h4,hp,h5.mono J.old fun o q=>mv a o q h4⟩
theorem SR.updD {ys:List V}(J:SR Γ B G H σ env β)(hp:Da∈Γ.par)(h0:Mx Γ.H0 Da)(g0:Γ.G0 Da=none)(hB:B≠some Da):SR Γ B G (upd H Da (.lst ys)) σ env β:=by
 have gD:=J.new Da h0 g0
 refine⟨fun b u q=>by rw[ay (fun z=>by rw[z,gD] at q;cases q)];exact J.sub b u q,J.old,J.new,fun b u q n=>by rw[ay (fun z=>n (by rw[z];exact hp))];exact J.keep b u q n,fun b hb=>?_,J.fix,fun b e=>?_,J.len,fun i s e=>?_,J.sep⟩
 ·by_cases z:b=Da
  ·subst z;exact Mx.lst az
  ·exact (J.pin b hb).same fun o e=>by rw[ay z];exact e
 ·obtain⟨h1,h2⟩:=J.box b e
  exact⟨by rw[ay (fun z=>hB (by rw[<-z];exact e))];exact h1,h2⟩
 ·have w:=J.slot i s e
  cases s with
  |no=>trivial
  |fz d=>exact w
  |bx=>exact w
  |ow d=>
   obtain⟨a,h1,h2,h3,h4,h5⟩:=w
   have aD:a≠Da:=fun z=>h0.1 (by rw[<-z];exact h2)
   exact⟨a,h1,h2,h3,h4,h5.mono (ar.refl _) fun o q=>by rw[ay aD];exact q⟩
  |br d=>
   obtain⟨b1,a,h1,h4,hpa,h5⟩:=w
   have aD:a≠Da:=fun z=>hpa (by rw[z];exact hp)
   exact⟨b1,a,h1,h4,hpa,h5.mono (ar.refl _) fun o q=>by rw[ay aD];exact q⟩
end
def R.okb {α γ:Type}(r:R α)(k:α->Int->R γ):R γ:=match r with
 | .ok a β=>k a β
 |_=>.bad
def gc (t:Tg)(ft:VF Bool)(fe:VF D)(vs:List Nv):List D->Int->R (List D)
 | [],β=>.ok [] β
 |d :: ds,β=>match kX t d vs with
  |none=>.bad
  |some vs1=>(ft vs1 β).okb fun c β1=>if c=true then (fe vs1 β1).okb fun x β2=>(gc t ft fe vs ds β2).okb fun xs β3=>.ok (x :: xs) β3 else gc t ft fe vs ds β1
def aM (own:Nat)(ixs:List Nat)(t:Tg)(fi:VF (List D))(ft:VF Bool)(fe:VF D):VF D:=fun vs β=>(fi vs β).bnd fun ds β1=>if ds.length<=sizeLine then (gc t ft fe (eY own ixs vs) ds β1).okb fun xs β2=>.ok (.list xs) β2 else .bad
def kB:VF Bool:=fun _ β=>.ok true β
def Er (own:Nat)(ixs Lc:List Nat)(j:Nat):Bool:=decide (j < own) || (match ixs[j - own]? with
 |some i=>Lc.contains i
 |none=>false)
theorem DI {α γ:Type}{Γ:Fx}{E:XK}{r:R α}{k:α->Int->R γ}{P:γ->Int->Prop}(h:Out Γ E (r.okb k) P):∃a β,r=.ok a β/\Out Γ E (k a β) P:=by
 cases r with
 |ok a β=>exact⟨a,β,rfl,h⟩
 |exc c=>exact h.elim
 |bad=>exact h.elim
section
variable {X:Cx}{Γ:Fx}{E:XK}{tg iter elt:Expr}{ifs:List Expr}{scope:Scope}{NB:List Str}{own:Nat}{ixs Li Lc Lt Le:List Nat}{t:Tg}{fi:VF (List D)}{ft:VF Bool}{fe:VF D}{pos:Pos}
theorem dA {X:Cx}{Γ:Fx}{E:XK}:Ce X [] (qT Γ E kB []):=fun pins s σ H Q I ⟨env,G,B,β,J,o⟩=>se pins s σ H Q I (o G H J (ar.refl _) (iK.refl _ _))
theorem iy {X:Cx}{Γ:Fx}{E:XK}{c:Expr}{ta:VF Bool}{L:List Nat}(h:zW X Γ E c ta L):Ce X [c] (qT Γ E ta L):=xM h
theorem jQ {NB:List Str}{scope:Scope}{C:Addr}{ex:List Addr}{s3:Shared}{H3:Hp}{pn:List (Addr×Obj)}{P:Program}{w:World}:Passes (nJ P w) (iJ X NB scope C ex s3 H3 pn) E0:=fun pins σ H s e s' I h=>by
 obtain⟨_,_,_,_,_,_,_,_,_,q⟩:=h
 exact q.elim
abbrev gU (Γ:Fx)(t:Tg):TG:=fun v σ H Q=>∃H0 G0 par br bx,gT (Γ.iJ H0 G0 par br bx) t v σ H Q
abbrev tU (Γ:Fx)(own:Nat)(ixs Lc:List Nat)(ft:VF Bool)(Lt:List Nat):TT:=fun σ H Q=>∃H0 G0 par br bx,(∀j,Er own ixs Lc j=true->br j=false)/\qT (Γ.iJ H0 G0 par br bx) E0 ft Lt σ H Q
abbrev eU (Γ:Fx)(own:Nat)(ixs Lc:List Nat)(fe:VF D)(Le:List Nat):TE:=fun σ H Q=>∃H0 G0 par br bx,(∀j,Er own ixs Lc j=true->br j=false)/\pT (Γ.iJ H0 G0 par br bx) E0 fe Le .v σ H Q
theorem Eh {σ:St}{H:Hp}{Q:VK}(hLc:∀i,i∈Lc->Γ.br i=false)(h:pT Γ E (aM own ixs t fi ft fe) (Li ++ Lc) .w σ H Q):vS own ixs (iT Γ E fi Li .b) (gU Γ t) (tU Γ own ixs Lc ft Lt) (eU Γ own ixs Lc fe Le) σ H Q:=by
 obtain⟨env,G,B,β,I,o⟩:=h
 refine⟨env,G,B,β,I,o.bnd.imp fun ds β1 h J G1 H1 I1 s1 m1 wk Da hD=>?_⟩
 have wk:Walk Γ.K B G1 H1 ds J:=wk
 by_cases hz:ds.length<=sizeLine
 case neg=>rw[if_neg hz] at h;exact h.elim
 rw[if_pos hz] at h
 obtain⟨xs0,β0,e0,h⟩:=DI h
 have h:∀v G' H',SR Γ B G' H' σ (bo (Li ++ Lc) env) β0->ar G G'->iK B H H'->VO Γ.K B H G' H' .w (.list xs0) v->Q v H':=h
 obtain⟨G2,I2,s2⟩:=I1.bo Lc hLc
 rw[<-cR] at I2
 obtain⟨q1,q2,q3,q4⟩:=I2.fresh hD
 have Ib0:=I2.block own ixs hD
 generalize hbr:wV (benv own ixs (bo (Li ++ Lc) env))=br at Ib0
 have hbo:∀j,Er own ixs Lc j=true->br j=false:=by
  intro j hj
  rw[<-hbr]
  unfold wV
  split
  ·rename_i d e
   exfalso
   unfold benv at e
   by_cases hjo:j < own
   ·rw[List.getElem?_append_left (by simpa using hjo),List.getElem?_replicate,if_pos hjo] at e;cases e
   ·rw[List.getElem?_append_right (by simpa using hjo),List.length_replicate,List.getElem?_map] at e
    unfold Er at hj
    rw[decide_eq_false hjo,Bool.false_or] at hj
    cases ek:ixs[j - own]? with
    |none=>rw[ek] at hj;cases hj
    |some k=>
     rw[ek] at hj e
     have hk:k∈Lc:=by simpa using hj
     have e:Hd (bo (Li ++ Lc) env)[k]? =.br d:=Option.some.inj e
     cases q:(bo (Li ++ Lc) env)[k]? with
     |none=>rw[q] at e;cases e
     |some s=>
      rw[q] at e
      cases s with
      |no=>cases e
      |fz _=>cases e
      |bx=>cases e
      |br d'=>
       obtain⟨b1,_⟩:=I2.slot k _ q
       rw[hLc k hk] at b1;cases b1
      |ow d'=>
       rw[cR] at q
       have key:∀(M:List Nat) (en:En),k∈M->∀d',(bo M en)[k]?≠some (.ow d'):=by
        intro M
        induction M with
        |nil=>intro en hm;cases hm
        |cons i M ih=>
         intro en hm d' z
         rcases List.mem_cons.mp hm with y |y
         ·subst y
          have z1:(jc en k)[k]? =some (.ow d'):=rE (L:=M) z
          have z2:=x8 z1
          unfold jc at z1
          rw[z2] at z1
          dsimp only at z1
          rw[List.getElem?_set_self (List.getElem?_eq_some_iff.mp z2).1] at z1;cases z1
         ·exact ih (jc en i) y d' z
       exact key Lc _ hk d' q
  ·rfl
 have evb:vl (benv own ixs (bo (Li ++ Lc) env))=eY own ixs (vl env):=by rw[Dg,iC]
 refine⟨fun i n σ' H'=>n=ds.length - i/\i<=ds.length/\∃envb Gc β' acc accd,SR (Γ.iJ (upd H1 Da (.lst [])) G2 (Da :: B.toList) br B) B Gc H' σ' envb β'/\(envb=benv own ixs (bo (Li ++ Lc) env)\/∃d,dH t d (benv own ixs (bo (Li ++ Lc) env))=some envb)/\
   H' Da=some (.lst acc)/\b8 Γ.K Gc acc accd/\accd.length<=i/\∃xs,gc t ft fe (eY own ixs (vl env)) (ds.drop i) β'=.ok xs β0/\accd ++ xs=xs0,
  ⟨ds.length,by simp,Nat.zero_le _,_,G2,β1,[],[],Ib0,.inl rfl,az,.nil,Nat.zero_le _,xs0,by rw[List.drop_zero];exact e0,rfl⟩,?_⟩
 rintro i n σ' H' ⟨rfl,hi',envb,Gc,β',acc,accd,Ib,eb,hacc,racc,lacc,xs,ec,exs⟩
 obtain⟨Io,mv,gD⟩:=I2.unblock hD Ib
 obtain⟨w1,w2⟩:=wk Gc H' i (s2.trans Ib.old) Ib.sub mv
 by_cases hlt:i < ds.length
 ·obtain⟨go,yl⟩:=w1 hlt
  refine .inr ⟨go,fun σ' H'=>∃envb Gc β' acc accd,SR (Γ.iJ (upd H1 Da (.lst [])) G2 (Da :: B.toList) br B) B Gc H' σ' envb β'/\(envb=benv own ixs (bo (Li ++ Lc) env)\/∃d,dH t d (benv own ixs (bo (Li ++ Lc) env))=some envb)/\
   H' Da=some (.lst acc)/\b8 Γ.K Gc acc accd/\accd.length<=i + 1/\∃xs,gc t ft fe (eY own ixs (vl env)) (ds.drop (i + 1)) β'=.ok xs β0/\accd ++ xs=xs0,fun σ2 H2 hh=>⟨ds.length - (i + 1),by omega,rfl,hlt,hh⟩,fun x H2 y=>?_⟩
  obtain⟨G3,d,x3,ed,rd⟩:=yl x H2 y
  have I3:=Ib.ext x3
  have ed':ds[i]=d:=by rw[List.getElem?_eq_getElem hlt] at ed;exact Option.some.inj ed
  rw[List.drop_eq_getElem_cons hlt,ed'] at ec
  unfold gc at ec
  cases ebv:kX t d (eY own ixs (vl env)) with
  |none=>rw[ebv] at ec;cases ec
  |some vs1=>
   rw[ebv] at ec
   dsimp only at ec
   obtain⟨env1,eb1,ev1⟩:∃env1,dH t d (benv own ixs (bo (Li ++ Lc) env))=some env1/\vl env1=vs1:=by
    have:=DR t d (benv own ixs (bo (Li ++ Lc) env))
    rw[evb,ebv] at this
    cases q:dH t d (benv own ixs (bo (Li ++ Lc) env)) with
    |none=>rw[q] at this;cases this
    |some env1=>rw[q] at this;exact⟨env1,rfl,Option.some.inj this⟩
   have eb2:dH t d envb=some env1:=by
    rcases eb with rfl | ⟨d0,eb⟩
    ·exact eb1
    ·rw[y6 eb];exact eb1
   have no1:wG env1:=zD (qM _ _ _) eb1
   have a2:H2 Da=some (.lst acc):=x3.hh _ _ hacc
   refine⟨_,_,_,_,_,envb,G3,B,β',d,env1,I3,rd,eb2,fun σ3 I4=>?_⟩
   refine⟨_,_,_,_,_,hbo,env1,G3,B,β',I4,?_⟩
   rw[ev1]
   cases et:ft vs1 β' with
   |exc c=>rw[et] at ec;cases ec
   |bad=>rw[et] at ec;cases ec
   |ok c β2=>
    rw[et] at ec
    intro G4 H4 I5 s4 m4
    rw[tS no1] at I5
    have a4:H4 Da=some (.lst acc):=m4 _ _ a2 q3
    cases c with
    |false=>
     refine vh ⟨env1,G4,β2,acc,accd,I5,.inr ⟨d,eb1⟩,a4,racc.mono (x3.gg.trans s4),by omega,xs,?_,exs⟩
     exact ec
    |true=>
     refine uT ⟨_,_,_,_,_,hbo,env1,G4,B,β2,I5,?_⟩
     rw[ev1]
     have ec:((fe vs1 β2).okb fun x β3=>(gc t ft fe (eY own ixs (vl env)) (ds.drop (i + 1)) β3).okb fun xs β4=>R.ok (x :: xs) β4)=R.ok xs β0:=ec
     cases ee:fe vs1 β2 with
     |exc c=>rw[ee] at ec;cases ec
     |bad=>rw[ee] at ec;cases ec
     |ok dx β3=>
      rw[ee] at ec
      intro v G5 H5 I6 s5 m5 vo
      rw[tS no1] at I6
      have a5:H5 Da=some (.lst acc):=m5 _ _ a4 q3
      have ec:((gc t ft fe (eY own ixs (vl env)) (ds.drop (i + 1)) β3).okb fun xs β4=>R.ok (dx :: xs) β4)=R.ok xs β0:=ec
      cases er:gc t ft fe (eY own ixs (vl env)) (ds.drop (i + 1)) β3 with
      |exc c=>rw[er] at ec;cases ec
      |bad=>rw[er] at ec;cases ec
      |ok ys β4=>
       rw[er] at ec
       cases ec
       refine⟨acc,a5,by rw[racc.len];omega,env1,G5,β3,acc ++ [v],accd ++ [dx],?_,.inr ⟨d,eb1⟩,az,(racc.mono ((x3.gg.trans s4).trans s5)).snoc vo,by rw[List.length_append];simp;omega,ys,er,by rw[<-exs,List.append_assoc];rfl⟩
       refine I6.updD (List.mem_cons_self ..) (Mx.lst (show upd H1 Da (.lst []) Da=some (.lst []) from az)) (I2.sub.free hD) q3
 ·have e:i=ds.length:=by omega
  subst e
  rw[List.drop_length] at ec
  cases ec
  rw[List.append_nil] at exs
  subst exs
  refine .inl ⟨w2 (Nat.le_refl _),⟨acc,hacc⟩,h _ Gc H' Io ((s1.trans s2).trans Ib.old) (m1.trans mv) ⟨Da,rfl,gO m1 I1.boxThere hD,gD,acc,hacc,racc⟩⟩
theorem bU (hg:∀H0 G0 par br bx C ex s3 H3 pn,SG (iJ X NB scope C ex s3 H3 pn) (Γ.iJ H0 G0 par br bx) tg t)(C:Addr)(ex:List Addr)(s3:Shared)(H3:Hp)(pn:List (Addr×Obj)):PG (iJ X NB scope C ex s3 H3 pn) tg (gU Γ t):=by
 rintro pins s σ H v u Q I r ⟨H0,G0,par,br,bx,q⟩
 exact hg H0 G0 par br bx C ex s3 H3 pn pins s σ H v u Q I r q
theorem bW (Lc:List Nat)(hc:X.calm=true)(S:c7 X NB own ixs scope)(hLc:∀i,i∈Lc->Γ.br i=false)(hi:SI X Γ E tg iter fi Li .b)
  (hg:∀H0 G0 par br bx C ex s3 H3 pn,SG (iJ X NB scope C ex s3 H3 pn) (Γ.iJ H0 G0 par br bx) tg t)
  (ht:∀H0 G0 par br bx C ex s3 H3 pn,(∀j,Er own ixs Lc j=true->br j=false)->Ce (iJ X NB scope C ex s3 H3 pn) ifs (qT (Γ.iJ H0 G0 par br bx) E0 ft Lt))
  (he:∀H0 G0 par br bx C ex s3 H3 pn,(∀j,Er own ixs Lc j=true->br j=false)->SE (iJ X NB scope C ex s3 H3 pn) (Γ.iJ H0 G0 par br bx) E0 elt fe Le .v)
  (hs:∀x,foldedSetIterable iter X.env x=pure x:=by intro _;rfl) :
  SE X Γ E (.ListComp elt [⟨tg,iter,ifs,0⟩] scope pos) (aM own ixs t fi ft fe) (Li ++ Lc) .w:=by
 refine PE.post' (vc (g:=gU Γ t) (tt:=tU Γ own ixs Lc ft Lt) (te:=eU Γ own ixs Lc fe Le) hc S hi (bU hg) (fun C ex s3 H3 pn=>?_) (fun C ex s3 H3 pn=>?_) hs) fun σ H Q h=>Eh hLc h
 ·rintro pins s σ H Q I ⟨H0,G0,par,br,bx,b,q⟩
  exact ht H0 G0 par br bx C ex s3 H3 pn b pins s σ H Q I q
 ·rintro pins s σ H Q I ⟨H0,G0,par,br,bx,b,q⟩
  exact he H0 G0 par br bx C ex s3 H3 pn b pins s σ H Q I q
theorem r0 {i:Nat}{y:Str}{py spos:Pos}(Lc:List Nat)(hc:X.calm=true)(S:c7 X NB own ixs scope)(hLc:∀i,i∈Lc->Γ.br i=false)(hi:SI X Γ E tg iter fi Li .b)
  (hg:∀H0 G0 par br bx C ex s3 H3 pn,SG (iJ X NB scope C ex s3 H3 pn) (Γ.iJ H0 G0 par br bx) tg t)
  (ht:∀H0 G0 par br bx C ex s3 H3 pn,(∀j,Er own ixs Lc j=true->br j=false)->Ce (iJ X NB scope C ex s3 H3 pn) ifs (qT (Γ.iJ H0 G0 par br bx) E0 ft Lt))
  (he:∀H0 G0 par br bx C ex s3 H3 pn,(∀j,Er own ixs Lc j=true->br j=false)->SE (iJ X NB scope C ex s3 H3 pn) (Γ.iJ H0 G0 par br bx) E0 elt fe Le .v)
  (hN:X.N.Nodup) (hy:X.N[i]? =some y:=by rfl) (hl:X.env.scope.names.lookup y=some .local:=by rfl)
  (hsw:swapsWith (.ListComp elt [⟨tg,iter,ifs,0⟩] scope pos) (some (.Name y py)) spos.line X.env=pure true:=by rfl)
  (hs:∀x,foldedSetIterable iter X.env x=pure x:=by intro _;rfl) :
  SS X Γ E (.Assign [.Name y py] (.ListComp elt [⟨tg,iter,ifs,0⟩] scope pos) spos) (bw i (Li ++ Lc) (aM own ixs t fi ft fe)):=by
 refine PS.post (Av (g:=gU Γ t) (tt:=tU Γ own ixs Lc ft Lt) (te:=eU Γ own ixs Lc fe Le) hc S hi (bU hg) (fun C ex s3 H3 pn=>?_) (fun C ex s3 H3 pn=>?_) hN hy hl hsw hs) fun N σ H ⟨env,G,B,β,I,o⟩=>?_
 ·rintro pins s σ H Q I ⟨H0,G0,par,br,bx,b,q⟩
  exact ht H0 G0 par br bx C ex s3 H3 pn b pins s σ H Q I q
 ·rintro pins s σ H Q I ⟨H0,G0,par,br,bx,b,q⟩
  exact he H0 G0 par br bx C ex s3 H3 pn b pins s σ H Q I q
 refine Eh hLc ⟨env,G,B,β,I,cc o fun d β' k v G' H' I' s' m' vo=>?_⟩
 obtain⟨G2,I2,s2,r⟩:=I.letW I' vo
 exact k B G2 H' _ (I2.set' i r) (s'.trans s2)
end
end L2

end

section
namespace L2
open PySem PySem.Spec PyProof.Rows
def fin:SO->FR
 | .nx _ _=>.ok .none false
 | .rt d fr _=>.ok d fr
 | .exc c=>.exc c
 |_=>.bad
def zd (n:Nat)(ds:List D):En:=ds.map Sl.fz ++ List.replicate (n - ds.length) .no
def aZ (n p:Nat)(m:SF):List D->FR:=fun ds=>if ds.length=p then fin (m (zd n ds) 0) else .bad
abbrev Fx.fn (K:PySem.W.Frag)(H G:Hp)(ca:Str->Addr):Fx:=⟨K,H,G,[],ca,fun _=>false,none⟩
theorem SR.start {K:PySem.W.Frag}{H G:Hp}{ca:Str->Addr}{N:List Str}{vs:List V}{ds:List D}(s:ar G H)(r:b8 K G vs ds)(hn:ds.length<=N.length):SR (Fx.fn K H G ca) none G H (start N vs) (zd N.length ds) 0:=by
 have hl:=r.len
 refine⟨s,ar.refl _,fun b _ h=>h,fun b o h _=>h,fun b h=>(by cases h),fun b h=>(by cases h),fun b h=>(by cases h),?_,fun i t e=>?_,fun i j a d e h=>?_⟩
 ·unfold L2.start zd;simp;omega
 ·unfold zd at e
  by_cases hi:i < ds.length
  ·rw[List.getElem?_append_left (by simpa using hi),List.getElem?_map,List.getElem?_eq_getElem hi] at e
   cases e
   obtain⟨x,hx,rx⟩:=r.at (List.getElem?_eq_getElem hi)
   refine⟨x,?_,rx⟩
   unfold L2.start
   rw[List.getElem?_append_left (by simpa[hl] using hi),List.getElem?_map,hx];rfl
  ·rw[List.getElem?_append_right (by simpa using hi),List.getElem?_replicate] at e
   split at e
   ·cases e;trivial
   ·cases e
 ·unfold zd at h
  have hm:=List.mem_of_getElem? h
  rcases List.mem_append.mp hm with z |z
  ·obtain⟨_,_,z⟩:=List.mem_map.mp z;cases z
  ·have:=List.eq_of_mem_replicate z;cases this
section
variable {P:Program}{w:World}{K:PySem.W.Frag}{mg:Str->Option Value}{base:Heap}{ca:Str->Addr}
theorem aR {x qual:Str}{st:Stmt}{f:Addr}{fd:FuncData}{N ps:List Str}{k:Nat}{m:SF}(F:Cw K x qual st f fd)(S:aH N ps (aq st))
  (hbody:∀(cdv:Value) (A:Around) (outer:List Env) (s:Shared) (H G:Hp) (E:XK),fo k (A.deeper (envOfC qual (aq st) s.heap.objs.size f cdv))->Cy (kQ (nJ P w) P w K mg base N qual (aq st) f cdv A outer s H E) (Fx.fn K H G ca) E (cO st) m) :
  fR P w K mg base (nJ P w) (k + 1) f fd ps (Cv K ca ps.length (aZ N.length ps.length m)):=by
 have hpn:ps.length<=N.length:=by have:=congrArg List.length S.pre;rw[List.length_take] at this;omega
 refine F.tI S (fun vs H Q E h=>?_) (fun cdv A outer s H vs Q E hr h=>?_)
 ·obtain⟨G,ds,sG,hl,r,_⟩:=h
  rw[r.len];exact hl
 ·obtain⟨G,ds,sG,hl,r,h⟩:=h
  refine⟨_,hbody cdv A outer s H G E hr,?_⟩
  have I:=SR.start (ca:=ca) (N:=N) sG r (by omega)
  refine⟨_,G,none,0,I,?_⟩
  unfold aZ at h
  rw[if_pos hl] at h
  have fin':∀{B G' H' σ env β},SR (Fx.fn K H G ca) B G' H' σ env β->ar H H':=fun J b o e=>J.keep b o e (fun z=>by cases z)
  cases q:m (zd N.length ds) 0 with
  |nx env β=>rw[q] at h;exact fun B G' H' σ J s'=>h .non G' H' (fin' J) s' J.sub (fun b h1 h2=>J.new b h1 h2) Rp.non
  |bk env β=>rw[q] at h;exact h.elim
  |ct env β=>rw[q] at h;exact h.elim
  |rt d fr β=>
   rw[q] at h
   refine fun B G' H' σ env v J s' rv=>h v G' H' (fin' J) s' J.sub (fun b h1 h2=>J.new b h1 h2) ?_
   cases fr with
   |true=>exact rv
   |false=>exact rv
  |exc c=>rw[q] at h;exact fun H' kp=>h H' fun b o e=>kp b o e (fun z=>by cases z)
  |bad=>rw[q] at h;exact h.elim
theorem DB {n:Nat}{F F':List D->FR}(h:∀ds,ds.length=n->F' ds≠.bad->F ds=F' ds){vs:List V}{H:Hp}{Q:VK}{E:XK}(q:Cv K ca n F' vs H Q E):Cv K ca n F vs H Q E:=by
 obtain⟨G,ds,s,hl,r,q⟩:=q
 refine⟨G,ds,s,hl,r,?_⟩
 by_cases hb:F' ds=.bad
 ·rw[hb] at q;exact q.elim
 ·rw[h ds hl hb];exact q
theorem b4.imp {x:Str}{ps:List Str}{k:Nat}{F F':List D->FR}(h:b4 P w K mg base ca x ps k F)(i:∀ds,F' ds≠.bad->F ds=F' ds):b4 P w K mg base ca x ps k F':=by
 obtain⟨f,fd,a,b,c,d⟩:=h.ex
 exact⟨⟨f,fd,a,b,c,d.imp fun vs H Q E q=>DB (fun ds _=>i ds) q⟩,fun ds hn=>h.len ds (by rw[i ds hn];exact hn)⟩
theorem aL {n p:Nat}{m:SF}(ds:List D)(h:aZ n p m ds≠.bad):ds.length=p:=by
 unfold aZ at h
 by_cases hl:ds.length=p
 ·exact hl
 ·rw[if_neg hl] at h;exact absurd rfl h
theorem uC {N:List Str}{qual:Str}{scope:Scope}{f:Addr}{cd:Value}{A:Around}{outer:List Env}{s0:Shared}{H0:Hp}{E:XK}{Γ:Fx}{x:Str}{C:Addr}{np cpos pos:Pos}{e0:Expr}{es:List Expr}{fr:VF (List D)}{L:List Nat}(q:PySem.W.excIn K C [.type "ValueError",.type "Exception",.type "BaseException",.type "object"] "ValueError.__new__"=true)(hca:Γ.ca x=C)
  (hg:Gl (kQ (nJ P w) P w K mg base N qual scope f cd A outer s0 H0 E) x) (hm:mg x=some (.ref C)) (ha:SA (kQ (nJ P w) P w K mg base N qual scope f cd A outer s0 H0 E) Γ E (e0 :: es) fr L)
  (he:starEach (e0 :: es) (envOfC qual scope s0.heap.objs.size f cd)=(false,eval e0 (envOfC qual scope s0.heap.objs.size f cd)) :: starEach es (envOfC qual scope s0.heap.objs.size f cd):=by rfl)
  (hpl:(backTo cpos (starEach es (envOfC qual scope s0.heap.objs.size f cd))).any (·.1)=false:=by rfl) (hdb:(x == ("__debug__":Str))=false:=by decide) :
  SS (kQ (nJ P w) P w K mg base N qual scope f cd A outer s0 H0 E) Γ E (.Raise (some (.Call (.Name x np) (e0 :: es) [] cpos)) none pos) (fun env β=>toS (fr (vl env) β) fun ds _=>if ds.length<=sizeLine then .exc x else .bad):=by
 refine PS.post (A9 PySem.F.excBase_ValueError (by decide +kernel) q hg hm ha he hpl hdb) fun D σ H ⟨env,G,B,β,I,o⟩=>?_
 refine⟨env,G,B,β,I,cc o fun ds β' k vs G' H' I' s' m' r=>?_⟩
 by_cases hz:ds.length<=sizeLine
 ·rw[if_pos hz] at k
  refine⟨by rw[r.len];exact hz,?_⟩
  have:=k H' (I'.kp (ar.refl _))
  rw[hca] at this
  exact this
 ·rw[if_neg hz] at k;exact k.elim
end
section
variable {X:Cx}{Γ:Fx}{E:XK}{e a b c:Expr}{f fa fb:VF D}{L La Lb:List Nat}{md ma mb:Md}{pos apos cpos np:Pos}
def sF:Option Sl->Bool
 |some (.ow (.list _))=>true
 |_=>false
theorem nU {o:Option Sl}(h:sF o=true):∃ds,o=some (.ow (.list ds)):=by
 cases o with
 |none=>cases h
 |some s=>
  cases s with
  |ow d=>cases d with
   |list ds=>exact⟨ds,rfl⟩
   |_=>cases h
  |_=>cases h
def Fq (i:Nat)(env:En)(β:Int)(g:List D->Option (List D)):SO:=match env[i]? with
 |some (.ow (.list ds))=>(match g ds with
  |some es=>.nx (env.set i (.ow (.list es))) β
  |none=>.bad)
 |_=>.bad
def jY (i:Nat)(L:List Nat)(f:VF D):SF:=fun env β=>if sF env[i]? =true then toS (f (vl env) β) fun d β'=>Fq i (bo L env) β' fun ds=>if ds.length < sizeLine then some (ds ++ [d]) else none else .bad
theorem rC {Γ:Fx}{E:XK}{G:Hp}{N:Ends}{i:Nat}{env:En}{β:Int}{g:List D->Option (List D)}(h:qq Γ E G N (Fq i env β g)):∃ds es,env[i]? =some (.ow (.list ds))/\g ds=some es/\qq Γ E G N (.nx (env.set i (.ow (.list es))) β):=by
 unfold Fq at h
 split at h
 ·rename_i ds q
  cases e:g ds with
  |none=>rw[e] at h;exact h.elim
  |some es=>rw[e] at h;exact⟨ds,es,q,e,h⟩
 ·exact h.elim
theorem iY (i:Nat){x:Str}(hb:∀j,Γ.br j=false)(he:SE X Γ E e f L .v)(hN:X.N[i]? =some x:=by rfl)(hv:zS X.env.scope x:=by first |exact Or.inl rfl |exact Or.inr (Or.inl rfl) |exact Or.inr (Or.inr rfl))(hd:(x == ("__debug__":Str))=false:=by decide)
  (hcd:(x == ("__classdict__":Str))=false:=by decide)
  (hbase:attributeBase (.Name x np) "append" X.env (eval (.Name x np) X.env)=eval (.Name x np) X.env:=by rfl)
  (hfew:((backTo cpos (starEach [e] X.env)).all (fun x=> !x.1) && (backToKw cpos (keywordEach [] X.env)).all (fun x=>x.1.isSome)
   && decide ([e].length + ([]:List Keyword).length + (if ([]:List Keyword).isEmpty then 0 else 1) < 30))=true:=by rfl)
  (hline:(apos.endLine == cpos.line)=true:=by rfl) (hs:starEach [e] X.env=(false,eval e X.env) :: starEach [] X.env:=by rfl)
  (hsw:swapsWith (.Call (.Attribute (.Name x np) "append" apos) [e] [] cpos) none pos.line X.env=pure false:=by rfl) :
  SS X Γ E (.Expr (.Call (.Attribute (.Name x np) "append" apos) [e] [] cpos) pos) (jY i L f):=by
 refine PS.post (sP (AO PySem.F.plainAttrs_list PySem.F.slot_list_append PySem.F.type_list_append mr (jG hN hv hd hcd) (aN he bA hs) hbase hfew hline hs rfl) hsw) fun N σ H ⟨env,G,B,β,I,o⟩=>?_
 unfold jY at o
 by_cases hO:sF env[i]? =true
 case neg=>rw[if_neg hO] at o;exact o.elim
 rw[if_pos hO] at o
 obtain⟨ds0,q0⟩:=nU hO
 obtain⟨p,h1,_,_,_,xs,h5,_⟩:=I.slot i _ q0
 refine⟨_,h1,.inl ⟨rfl,xs,.inl (.inl h5)⟩,?_⟩
 refine⟨env,G,B,β,I,cc o fun d β' k v G' H' I' s' m' vo=>?_⟩
 obtain⟨ds,es,q,eg,k⟩:=rC k
 by_cases hz:ds.length < sizeLine
 case neg=>rw[if_neg hz] at eg;cases eg
 rw[if_pos hz] at eg
 cases eg
 obtain⟨p',g1,_,_,_,ys,g5,g6⟩:=I'.slot i _ q
 rw[h1] at g1;cases g1
 refine⟨p,ys,v,rfl,rfl,g5,by rw[g6.len];exact hz,?_⟩
 exact k B G' _ σ (I'.write hb q h1 fun H2 e2 s2=>⟨_,e2,g6.snoc vo⟩) s'
theorem Inv.lstR {pins:List (Addr×Obj)}{σ:St}{H:Hp}{s:Shared}{l:Addr}{xs:List V}(I:Inv X pins σ H s)(hH:Rd H l (.lst xs)):xs.length<=sizeLine/\∃(its:List Value) (n:Nat),Vals xs its/\xs.length=its.length/\s.heap.get? l=some {cls:=.type "list",data:=.seq its.toArray n}:=by
 obtain⟨z,its,n,r,e⟩:=hH.ok I.hok
 exact⟨z,its,n,r,r.length,e⟩
def lY (i:Nat)(Le Li:List Nat)(fe fi:VF D):SF:=fun env β=>toS (fe (vl env) β) fun d β1=>if sF (bo Le env)[i]? =true then toS (fi (vl env) β1) fun k β2=>Fq i (bo (Le ++ Li) env) β2 fun ds=>match k with
 | .int j=>(tJ ds.length j).map fun n=>ds.set n d
 |_=>none else .bad
theorem sY (i:Nat){x:Str}{spos:Pos}(hb:∀j,Γ.br j=false)(he:SE X Γ E e f La .v)(hi:SE X Γ E a fa Lb mb)(hN:X.N[i]? =some x:=by rfl)(hv:zS X.env.scope x:=by first |exact Or.inl rfl |exact Or.inr (Or.inl rfl) |exact Or.inr (Or.inr rfl))(hd:(x == ("__debug__":Str))=false:=by decide)
  (hcd:(x == ("__classdict__":Str))=false:=by decide)
  (hA:∀v,assign (.Subscript (.Name x np) a spos) X.env v=(do
   let ov <-holding [v] (eval (.Name x np) X.env)
   let iv <-holding [v,ov] (eval a X.env)
   standAt spos
   holding [v,ov,iv] (setItem ov iv v)
   release [v,ov,iv] []):=by intro _;rfl)
  (hs:swapsWithSole [.Subscript (.Name x np) a spos] e pos.line X.env=pure false:=by rfl) (hw:swappedStores [.Subscript (.Name x np) a spos] e X.env=pure none:=by rfl)
  (h1:(assignEach [.Subscript (.Name x np) a spos] X.env).map (·.2)= [assign (.Subscript (.Name x np) a spos) X.env]:=by rfl) :
  SS X Γ E (.Assign [.Subscript (.Name x np) a spos] e pos) (lY i La Lb f fa):=by
 refine PS.post (mO he (tu (jG hN hv hd hcd) hi set_list hA) hs hw h1) fun N σ H ⟨env,G,B,β,I,o⟩=>?_
 refine⟨env,G,B,β,I,cc o fun d β1 o v G1 H1 I1 s1 m1 vo=>?_⟩
 by_cases hO:sF (bo La env)[i]? =true
 case neg=>rw[if_neg hO] at o;exact o.elim
 rw[if_pos hO] at o
 obtain⟨ds0,q0⟩:=nU hO
 obtain⟨p,h1,_,_,_,xs,h5,_⟩:=I1.slot i _ q0
 refine⟨_,h1,bo La env,G1,B,β1,I1,?_⟩
 rw[iC]
 refine cc o fun k β2 o w G2 H2 I2 s2 m2 vi=>?_
 rw[<-cR] at I2
 obtain⟨ds,es,q,eg,o⟩:=rC o
 cases k with
 |int j=>
  dsimp only at eg
  obtain rfl:=(vi.brw I1.boxThere).int
  obtain⟨p',g1,_,_,_,ys,g5,g6⟩:=I2.slot i _ q
  rw[h1] at g1;cases g1
  cases en:tJ ds.length j with
  |none=>rw[en] at eg;cases eg
  |some n=>
   rw[en] at eg
   cases eg
   have vo:Rp Γ.K G1 v d:=vo
   refine⟨p,ys,j,n,rfl,rfl,g5,by rw[g6.len];exact en,?_⟩
   exact o B G2 _ σ (I2.write hb q h1 fun H3 e3 s3=>⟨_,e3,g6.set (vo.mono s2) n⟩) (s1.trans s2)
 |_=>cases eg
end
end L2

end

section
namespace L2
open PySem PySem.Spec PyProof.Rows
section
variable {K:PySem.W.Frag}{X:Cx}
theorem nk {g:Int->Int->V}{gd:D->D->Option D}(h:∀dx dy d,gd dx dy=some d->∃i j,dx=.int i/\dy=.int j/\∀G,Rp K G (g i j) d):mq K (si g) gd .v:=by
 intro B G H x y dx dy d Q s hB bx by' e k
 obtain⟨i,j,rfl,rfl,r⟩:=h _ _ _ e
 obtain rfl:=bx.int
 obtain rfl:=by'.int
 exact⟨i,j,rfl,rfl,k _ G H (Ext.refl s) (r G)⟩
theorem xU {C:Int->Int->Prop}{g:Int->Int->V}{gd:D->D->Option D}(h:∀dx dy d,gd dx dy=some d->∃i j,dx=.int i/\dy=.int j/\C i j/\∀G,Rp K G (g i j) d):mq K (rI C g) gd .v:=by
 intro B G H x y dx dy d Q s hB bx by' e k
 obtain⟨i,j,rfl,rfl,c,r⟩:=h _ _ _ e
 obtain rfl:=bx.int
 obtain rfl:=by'.int
 exact⟨i,j,rfl,rfl,c,k _ G H (Ext.refl s) (r G)⟩
def gI (c:Int->Int->Bool)(g:Int->Int->D):D->D->Option D
 | .int i,.int j=>if c i j=true then some (g i j) else none
 |_,_=>none
def tE (g:Int->Int->D):D->D->Option D
 | .int i,.int j=>some (g i j)
 |_,_=>none
theorem xY {c:Int->Int->Bool}{g:Int->Int->D}{dx dy d:D}(h:gI c g dx dy=some d):∃i j,dx=.int i/\dy=.int j/\c i j=true/\d=g i j:=by
 unfold gI at h
 split at h
 ·split at h
  ·cases h;exact⟨_,_,rfl,rfl,by assumption,rfl⟩
  ·cases h
 ·cases h
theorem iD {g:Int->Int->D}{dx dy d:D}(h:tE g dx dy=some d):∃i j,dx=.int i/\dy=.int j/\d=g i j:=by
 unfold tE at h
 split at h
 ·cases h;exact⟨_,_,rfl,rfl,rfl⟩
 ·cases h
def rm:D->D->Option D:=tE fun i j=>.int (i - j)
theorem BM:mq K (si fun i j=>.int (i - j)) rm .v:=nk fun dx dy d h=>by obtain⟨i,j,rfl,rfl,rfl⟩:=iD h;exact⟨i,j,rfl,rfl,fun _=>.int _⟩
def zQ:D->D->Option D:=gI (fun _ j=>decide (0 < j) && decide (j < 1073741824)) fun i j=>.int (i / j)
theorem CH:mq K (rI Cz fun i j=>.int (i / j)) zQ .v:=xU fun dx dy d h=>by obtain⟨i,j,rfl,rfl,c,rfl⟩:=xY h;exact⟨i,j,rfl,rfl,by simpa[Cz] using c,fun _=>.int _⟩
def lb:D->D->Option D:=gI (fun _ j=>decide (0 < j)) fun i j=>.int (i % j)
theorem qY:mq K (rI (fun _ j=>0 < j) fun i j=>.int (i % j)) lb .v:=xU fun dx dy d h=>by obtain⟨i,j,rfl,rfl,c,rfl⟩:=xY h;exact⟨i,j,rfl,rfl,by simpa using c,fun _=>.int _⟩
def FC (i j:Int):Bool:=decide (0<=j) && decide (j<=1000000) && decide (i.natAbs < 2 ^ 64)
theorem DZ {i j:Int}(h:FC i j=true):Fv i j:=by
 unfold FC at h
 simp only[Bool.and_eq_true,decide_eq_true_eq] at h
 exact⟨h.1.1,h.1.2,h.2⟩
def vK:D->D->Option D:=gI FC fun i j=>.int (i * 2 ^ j.toNat)
theorem EC:mq K (rI Fv fun i j=>.int (i * 2 ^ j.toNat)) vK .v:=xU fun dx dy d h=>by obtain⟨i,j,rfl,rfl,c,rfl⟩:=xY h;exact⟨i,j,rfl,rfl,DZ c,fun _=>.int _⟩
def AM:D->D->Option D:=tE fun i j=>.int (Builtin.bitAnd i j)
theorem Ht:mq K (si fun i j=>.int (Builtin.bitAnd i j)) AM .v:=nk fun dx dy d h=>by obtain⟨i,j,rfl,rfl,rfl⟩:=iD h;exact⟨i,j,rfl,rfl,fun _=>.int _⟩
def Kb:D->D->Option D:=tE fun i j=>.int (Builtin.bitOr i j)
theorem Jp:mq K (si fun i j=>.int (Builtin.bitOr i j)) Kb .v:=nk fun dx dy d h=>by obtain⟨i,j,rfl,rfl,rfl⟩:=iD h;exact⟨i,j,rfl,rfl,fun _=>.int _⟩
def xB:D->D->Option D:=tE fun i j=>.bool (decide (i < j))
def AU:D->D->Option D:=tE fun i j=>.bool (decide (i<=j))
def GP:D->D->Option D:=tE fun i j=>.bool (decide (j < i))
def J3:D->D->Option D:=tE fun i j=>.bool (decide (j<=i))
theorem Bi:mq K (si fun i j=>.bl (decide (i < j))) xB .v:=nk fun dx dy d h=>by obtain⟨i,j,rfl,rfl,rfl⟩:=iD h;exact⟨i,j,rfl,rfl,fun _=>.bl _⟩
theorem Gd:mq K (si fun i j=>.bl (decide (i<=j))) AU .v:=nk fun dx dy d h=>by obtain⟨i,j,rfl,rfl,rfl⟩:=iD h;exact⟨i,j,rfl,rfl,fun _=>.bl _⟩
theorem JA:mq K (si fun i j=>.bl (decide (j < i))) GP .v:=nk fun dx dy d h=>by obtain⟨i,j,rfl,rfl,rfl⟩:=iD h;exact⟨i,j,rfl,rfl,fun _=>.bl _⟩
theorem Ju:mq K (si fun i j=>.bl (decide (j<=i))) J3 .v:=nk fun dx dy d h=>by obtain⟨i,j,rfl,rfl,rfl⟩:=iD h;exact⟨i,j,rfl,rfl,fun _=>.bl _⟩
mutual
theorem xH:∀d:D,d.canLay0=true->B9 d=true
 | .none,_=>rfl
 | .bool _,_=>rfl
 | .int _,_=>rfl
 | .str _,_=>rfl
 | .list ds,h=>by simp only[PyData.canLay0] at h;simp only[B9];exact oX ds h
 | .tuple ds,h=>by simp only[PyData.canLay0] at h;simp only[B9];exact oX ds h
 | .dict _,h=>by simp[PyData.canLay0] at h
theorem oX:∀ds:List D,PyData.canLayAll0 ds=true->qg ds=true
 | [],_=>rfl
 |d :: ds,h=>by
  simp only[PyData.canLayAll0,Bool.and_eq_true] at h
  simp only[qg,Bool.and_eq_true]
  exact⟨xH d h.1,oX ds h.2⟩
end
theorem sL {d:D}(h:SeqAt.shaped d=true):B9 d=true:=xH d (SeqAt.canLay_of_shaped h)
theorem xD:∀{ds:List D},(ds.all SeqAt.shaped)=true->qg ds=true
 | [],_=>rfl
 |d :: ds,h=>by
  rw[List.all_cons,Bool.and_eq_true] at h
  simp only[qg,Bool.and_eq_true]
  exact⟨sL h.1,xD h.2⟩
def cq (neg:Bool)(x y:D):Option D:=if (SeqAt.shaped x && SeqAt.shaped y)=true then some (.bool (if neg then !PyData.eqv x y else PyData.eqv x y)) else none
theorem eR {neg:Bool}:mq K (GC K neg) (cq neg) .v:=by
 intro B G H x y dx dy d Q s hB bx by' e k
 unfold cq at e
 split at e
 ·rename_i h
  rw[Bool.and_eq_true] at h
  cases e
  exact⟨dx,dy,(bx.rpH s).rep (sL h.1),(by'.rpH s).rep (sL h.2),h.1,h.2,k _ G H (Ext.refl s) (.bl _)⟩
 ·cases e
def tK (neg:Bool)(x y:D):Option D:=match lx y with
 |some ds=>if (SeqAt.shaped x && ds.all SeqAt.shaped)=true then some (.bool (if neg then !(ds.any fun e=>PyData.eqv e x) else ds.any fun e=>PyData.eqv e x)) else none
 |none=>none
theorem lA.seq {B:Option Addr}{G H:Hp}{v:V}{d:D}{ds:List D}(h:lA K B G H v d)(e:lx d=some ds)(s:ar G H):∃a xs,v=.ref a/\(gk K H a xs\/fy K H a xs)/\b8 K G xs ds:=by
 cases d with
 |list l=>cases e;obtain⟨a,xs,e,q,r⟩:=h.list s;exact⟨a,xs,e,.inl (.inl q),r⟩
 |tuple l=>cases e;obtain⟨a,xs,e,q,r⟩:=h.tuple s;exact⟨a,xs,e,.inr q,r⟩
 |_=>cases e
theorem yT {neg:Bool}:mq K (Gq K neg) (tK neg) .v:=by
 intro B G H x y dx dy d Q s hB bx by' e k
 unfold tK at e
 cases q:lx dy with
 |none=>rw[q] at e;cases e
 |some ds=>
  rw[q] at e
  dsimp only at e
  split at e
  ·rename_i h
   rw[Bool.and_eq_true] at h
   cases e
   obtain⟨a,xs,rfl,hq,r⟩:=by'.seq q s
   refine⟨a,xs,dx,ds,rfl,hq,(r.mono s).reps (xD h.2),(bx.rpH s).rep (sL h.1),h.1,fun e he=>List.all_eq_true.mp h.2 e he,k _ G H (Ext.refl s) (.bl _)⟩
  ·cases e
def CP:D->Bool
 | .none=>true
 |_=>false
theorem b8.ints {G:Hp}:∀ns:List Int,b8 K G (ns.map V.int) (ns.map PyData.int)
 | []=>.nil
 |n :: ns=>.cons (.int n) (b8.ints ns)
theorem zU.noNone {G:Hp}{kvs:List (Key×V)}{d:D}{r:List (D×D)}(h:zU K G kvs ((.none,d) :: r)):False:=by
 generalize e:(PyData.none,d) :: r=l at h
 cases h with
 |nil=>cases e
 | @cons k x xs d' ds _ _=>
  injection e with e1 _
  injection e1 with e2 _
  cases k <;> cases e2
theorem zT.noNone {G:Hp}{kvs:List (List Key×V)}{d:D}{r:List (D×D)}(h:zT K G kvs ((.none,d) :: r)):False:=by
 generalize e:(PyData.none,d) :: r=l at h
 cases h with
 |nil=>cases e
 | @cons k x xs d' ds _ _=>
  injection e with e1 _
  injection e1 with e2 _
  cases e2
theorem lA.scr {B:Option Addr}{G H:Hp}{v:V}{ds:List D}(h:lA K B G H v (.dict [(.none,.list ds)]))(s:ar G H):∃a xs,v=.ref a/\gk K H a xs/\b8 K G xs ds:=by
 rcases h with h | ⟨a,rfl,n,h⟩
 ·cases h with
  | @scr a ns q=>exact⟨a,_,rfl,s.seq q,b8.ints ns⟩
  |dK _ r=>exact r.noNone.elim
  |dT _ r=>exact r.noNone.elim
 ·rcases h with⟨_,_,r⟩ | ⟨_,_,r⟩
  ·exact r.noNone.elim
  ·exact r.noNone.elim
def bQ:D->D->Option D
 | .list ds,.int i=>jN ds i
 | .tuple ds,.int i=>jN ds i
 | .str z,.int i=>if z.length<=sizeLine then (jN z.cps.toList i).map fun c=>.str ⟨#[c]⟩ else none
 | .dict [(.none,.list ds)],.int i=>jN ds i
 |_,_=>none
theorem so {G:Hp}{xs:List V}{ds:List D}{i:Int}{d:D}(r:b8 K G xs ds)(h:jN ds i=some d):∃x,jN xs i=some x/\Rp K G x d:=by
 unfold jN at h ⊢
 rw[r.len]
 cases e:tJ ds.length i with
 |none=>rw[e] at h;cases h
 |some j=>rw[e] at h;exact r.at h
theorem cz:mq K (J9 K) bQ .v:=by
 intro B G H x y dx dy d Q s hB bx by' e k
 cases dx with
 |list ds=>
  cases dy with
  |int i=>
   obtain rfl:=by'.int
   obtain⟨a,xs,rfl,q,r⟩:=bx.list s
   obtain⟨v,ev,rv⟩:=so r e
   exact .inl ⟨a,xs,i,v,rfl,rfl,.inl q,ev,k _ G H (Ext.refl s) rv⟩
  |_=>cases e
 |tuple ds=>
  cases dy with
  |int i=>
   obtain rfl:=by'.int
   obtain⟨a,xs,rfl,q,r⟩:=bx.tuple s
   obtain⟨v,ev,rv⟩:=so r e
   exact .inr (.inl ⟨a,xs,i,v,rfl,rfl,q,ev,k _ G H (Ext.refl s) rv⟩)
  |_=>cases e
 |str z=>
  cases dy with
  |int i=>
   obtain rfl:=by'.int
   obtain rfl:=bx.str
   simp only[bQ] at e
   split at e
   ·rename_i hz
    cases q:jN z.cps.toList i with
    |none=>rw[q] at e;cases e
    |some c=>rw[q] at e;cases e;exact .inr (.inr ⟨z,i,c,rfl,rfl,hz,q,k _ G H (Ext.refl s) (.str _)⟩)
   ·cases e
  |_=>cases e
 |none=>cases dy <;> cases e
 |bool b=>cases dy <;> cases e
 |int b=>cases dy <;> cases e
 |dict b=>
  obtain⟨ds,i,rfl,rfl,e⟩:∃ds i,b= [(.none,.list ds)]/\dy=.int i/\jN ds i=some d:=by
   unfold bQ at e
   split at e
   ·contradiction
   ·contradiction
   ·contradiction
   ·rename_i h;cases h;exact⟨_,_,rfl,rfl,e⟩
   ·cases e
  obtain rfl:=by'.int
  obtain⟨a,xs,rfl,q,r⟩:=bx.scr s
  obtain⟨v,ev,rv⟩:=so r e
  exact .inl ⟨a,xs,i,v,rfl,rfl,q,ev,k _ G H (Ext.refl s) rv⟩
def dP:D->Option D
 | .list ds=>some (.int ds.length)
 | .tuple ds=>some (.int ds.length)
 | .str z=>if z.length<=sizeLine then some (.int z.length) else none
 | .dict [(.none,.list ds)]=>some (.int ds.length)
 |_=>none
def Jq (K:PySem.W.Frag):List V->Hp->VK->Prop:=fun xs H Q=>∃x n,xs= [x]/\HZ K x H n/\Q (.int n) H
theorem jX:Am K (fun x=>Jq K [x]) dP .v:=by
 intro B G H x dx d Q s hB bx e k
 unfold dP at e
 split at e
 ·cases e;obtain⟨a,xs,rfl,q,r⟩:=bx.list s;exact⟨_,_,rfl,.inl ⟨xs,.inl q,r.len.symm⟩,k _ G H (Ext.refl s) (.int _)⟩
 ·cases e;obtain⟨a,xs,rfl,q,r⟩:=bx.tuple s;exact⟨_,_,rfl,.inr ⟨xs,q,r.len.symm⟩,k _ G H (Ext.refl s) (.int _)⟩
 ·obtain rfl:=bx.str
  split at e
  ·rename_i hz;cases e;exact⟨_,_,rfl,⟨hz,rfl⟩,k _ G H (Ext.refl s) (.int _)⟩
  ·cases e
 ·cases e;obtain⟨a,xs,rfl,q,r⟩:=bx.scr s;exact⟨_,_,rfl,.inl ⟨xs,q,r.len.symm⟩,k _ G H (Ext.refl s) (.int _)⟩
 ·cases e
def jF:D->Option D
 | .list ds=>some (.tuple ds)
 | .tuple ds=>some (.tuple ds)
 |_=>none
theorem lV:Am K (fun x H Q=>∃p ys,[x]= [.ref p]/\((gk K H p ys/\∀l,H l=none->Q (.ref l) (upd H l (.tup ys)))\/(fy K H p ys/\Q (.ref p) H))) jF .v:=by
 intro B G H x dx d Q s hB bx e k
 cases dx with
 |list ds=>
  cases e
  obtain⟨a,xs,rfl,q,r⟩:=bx.list s
  refine⟨a,xs,rfl,.inl ⟨.inl q,fun l hl=>?_⟩⟩
  have x:=Ext.new s (o:=.tup xs) hl
  exact k _ _ _ x (.tup (.inl (.inl az)) (r.mono x.gg))
 |tuple ds=>
  cases e
  rcases bx with bx | ⟨_,_,_,z⟩
  ·cases bx with
   | @tup a xs _ hq r=>exact⟨a,xs,rfl,.inr ⟨hq.grow s.grow,k _ G H (Ext.refl s) (.tup hq r)⟩⟩
  ·exact z.elim
 |_=>cases e
def Et:D->Option D
 | .list ds=>some (.list ds)
 | .tuple ds=>some (.list ds)
 |_=>none
theorem FO:Am K (fun x H Q=>∃p ys,[x]= [.ref p]/\(gk K H p ys\/fy K H p ys)/\∀l,H l=none->Q (.ref l) (upd H l (.lst ys))) Et .w:=by
 intro B G H x dx d Q s hB bx e k
 obtain⟨ds,e1,rfl⟩:∃ds,lx dx=some ds/\d=.list ds:=by
  cases dx <;> cases e <;> exact⟨_,rfl,rfl⟩
 obtain⟨a,xs,rfl,hq,r⟩:=bx.seq e1 s
 refine⟨a,xs,rfl,hq,fun l hl=>?_⟩
 exact k _ _ _ (Ext.own s (o:=.lst xs) hl) ⟨l,rfl,hl,s.free hl,xs,az,r⟩
def kj:List D->Option (List Bool)
 | []=>some []
 | .bool b :: ds=>(kj ds).map (b :: ·)
 |_=>none
theorem qu {G:Hp}:∀{ds:List D} {bs:List Bool} {xs:List V},kj ds=some bs->b8 K G xs ds->xs=bs.map V.bl
 | [],bs,xs,e,r=>by cases e;cases r;rfl
 | .bool b :: ds,bs,xs,e,r=>by
  cases r with
  |cons r1 r2=>
   cases r1
   simp only[kj] at e
   cases q:kj ds with
   |none=>rw[q] at e;cases e
   |some cs=>rw[q] at e;cases e;rw[qu q r2];rfl
 | .none :: _,_,_,e,_=>by cases e
 | .int _ :: _,_,_,e,_=>by cases e
 | .str _ :: _,_,_,e,_=>by cases e
 | .list _ :: _,_,_,e,_=>by cases e
 | .tuple _ :: _,_,_,e,_=>by cases e
 | .dict _ :: _,_,_,e,_=>by cases e
def bN (f:List Bool->Bool):D->Option D
 | .list ds=>(kj ds).map fun bs=>.bool (f bs)
 |_=>none
theorem gF {f:List Bool->Bool}:Am K (fun x=>w9 K f [x]) (bN f) .v:=by
 intro B G H x dx d Q s hB bx e k
 cases dx with
 |list ds=>
  simp only[bN] at e
  cases q:kj ds with
  |none=>rw[q] at e;cases e
  |some bs=>
   rw[q] at e
   cases e
   obtain⟨a,xs,rfl,hq,r⟩:=bx.list s
   obtain rfl:=qu q r
   exact⟨a,bs,rfl,.inl hq,k _ G H (Ext.refl s) (.bl _)⟩
 |_=>cases e
def Em:R2:=fun x y H Q=>∃l b xs zs,x=.ref l/\y=.ref b/\Rd H l (.lst xs)/\Rd H b (.lst zs)/\xs.length + zs.length<=sizeLine/\∀p,H p=none->Q (.ref p) (upd H p (.lst (xs ++ zs)))
theorem rR:lG X (binaryOp .Add) Em:=by
 intro pins s σ H x y v u Q I rx ry h
 obtain⟨l,b,xs,zs,rfl,rfl,hH,hB,hz,q⟩:=h
 cases rx
 cases ry
 obtain⟨z,its,n,r,hl,e⟩:=I.lstR hH
 obtain⟨z2,its2,n2,r2,hl2,e2⟩:=I.lstR hB
 refine PySem.P.add_list e e2 ?_ (by rw[List.size_toArray,List.size_toArray];omega)
 have ea:its.toArray ++ its2.toArray=(its ++ its2).toArray:=by simp
 rw[ea]
 exact⟨.ref _,_,I.lnew (t':=s.toks) (r.append r2) (by rw[List.length_append];omega),rfl,q _ I.fresh⟩
def kR:D->D->Option D
 | .list a,.list b=>if a.length + b.length<=sizeLine then some (.list (a ++ b)) else none
 |_,_=>none
theorem Bq:mq K Em kR .w:=by
 intro B G H x y dx dy d Q s hB bx by' e k
 cases dx <;> cases dy <;> first | (cases e;done) |skip
 rename_i a b
 simp only[kR] at e
 split at e
 ·rename_i hz
  cases e
  obtain⟨p,xs,rfl,q1,r1⟩:=bx.list s
  obtain⟨p2,ys,rfl,q2,r2⟩:=by'.list s
  refine⟨p,p2,xs,ys,rfl,rfl,q1,q2,by rw[r1.len,r2.len];exact hz,fun l hl=>?_⟩
  exact k _ _ _ (Ext.own s (o:=.lst (xs ++ ys)) hl) ⟨l,rfl,hl,s.free hl,_,az,r1.append r2⟩
 ·cases e
def cQ:D->D->Option D:=tE fun i j=>.int (i + j)
theorem ju:mq K (si fun i j=>.int (i + j)) cQ .v:=nk fun dx dy d h=>by obtain⟨i,j,rfl,rfl,rfl⟩:=iD h;exact⟨i,j,rfl,rfl,fun _=>.int _⟩
def dR:D->D->Option D:=gI (fun i j=>(decide (-(2 ^ 64) < i) && decide (i < 2 ^ 64)) || (decide (-(2 ^ 64) < j) && decide (j < 2 ^ 64))) fun i j=>.int (i * j)
theorem lF:mq K (rI A5 fun i j=>.int (i * j)) dR .v:=xU fun dx dy d h=>by obtain⟨i,j,rfl,rfl,c,rfl⟩:=xY h;exact⟨i,j,rfl,rfl,by simpa[A5] using c,fun _=>.int _⟩
def nD:D->D->Option D
 | .list a,.int k=>if -(2 ^ 63)<=k/\k < 2 ^ 63/\a.length * k.toNat<=sizeLine then some (.list (List.replicate k.toNat a).flatten) else none
 |_,_=>none
theorem wg {a b:Expr}{fa fb:VF D}{La Lb:List Nat}{mb:Md}{Γ:Fx}{E:XK}{pos:Pos}(ha:SE X Γ E a fa La .w)(hb:SE X Γ E b fb Lb mb):SE X Γ E (.BinOp a .Mult b pos) (f2 fa fb nD) (La ++ Lb) .w:=by
 refine PE.post' (qz Bo ha hb) fun σ H Q ⟨env,G,B,β,I,o⟩=>?_
 refine⟨env,G,B,β,I,o.bnd.imp fun d1 β1 h x G1 H1 I1 s1 m1 vx=>⟨bo La env,G1,B,β1,I1,?_⟩⟩
 rw[iC]
 refine h.bnd.imp fun d2 β2 h y G2 H2 I2 s2 m2 vy=>?_
 obtain⟨d,e,k⟩:=h.of
 rw[<-cR] at I2
 obtain⟨p,rfl,p1,p2,p3⟩:=vx
 have by':=vy.brw I1.boxThere
 cases d1 <;> cases d2 <;> first | (cases e;done) |skip
 rename_i l j
 obtain rfl:=by'.int
 simp only[nD] at e
 split at e
 ·rename_i hz
  cases e
  obtain⟨xs,q,r⟩:=p3
  obtain⟨q1,q2,q3,q4⟩:=I.fresh p1
  have r2:=r.mono s2
  refine⟨p,j,xs,rfl,rfl,m2 _ _ q q3,hz.1,hz.2.1,by rw[r.len];exact hz.2.2,fun l hl=>?_⟩
  have x:=Ext.own I2.sub (o:=.lst (List.replicate j.toNat xs).flatten) hl
  exact k _ _ _ (I2.ext x) ((s1.trans s2).trans x.gg) ((m1.trans m2).trans (x.hh.mov B)) ⟨l,rfl,gO (m1.trans m2) I2.boxThere hl,I2.sub.free hl,_,az,r2.rep⟩
 ·cases e
def DC:D->Option D
 | .int i=>some (.int (-i))
 |_=>none
theorem Ac:Am K (rU fun i=>.int (-i)) DC .v:=by
 intro B G H x dx d Q s hB bx e k
 cases dx with
 |int i=>cases e;obtain rfl:=bx.int;exact⟨i,rfl,k _ G H (Ext.refl s) (.int _)⟩
 |_=>cases e
def HI:D->String
 | .none=>"NoneType"
 | .bool _=>"bool"
 | .int _=>"int"
 | .str _=>"str"
 | .list _=>"list"
 | .tuple _=>"tuple"
 | .dict _=>"dict"
def Bc (d:D)(T:String):Bool:=HI d == T || (T == "int" && HI d == "bool")
def c9:D->Bool
 | .dict ((.none,_) :: _)=>true
 |_=>false
def iM (T:String)(d:D):Option D:=if c9 d=true then none else some (.bool (Bc d T))
def Kc (K:PySem.W.Frag)(H:Hp)(x:V)(t:String):Prop:=Dt K H x t\/(t="dict"/\∃a kvs,x=.ref a/\H a=some (.dT kvs))
def G8 (K:PySem.W.Frag):List V->Hp->VK->Prop:=fun xs H Q=>∃x T t b,xs= [x,.ty T]/\Kc K H x t/\PySem.W.kitOne K (.type t) (.type T)=some b/\Q (.bl b) H
theorem A1:cX X (.builtin "isinstance") (G8 X.K):=by
 intro pins s σ H xs us Q I r h
 obtain⟨x,T,t,b,rfl,ty,e,q⟩:=h
 rcases ty with ty | ⟨rfl,a,kvs,rfl,hk⟩
 ·exact Co pins s σ H _ us Q I r ⟨x,T,t,b,rfl,ty,e,q⟩
 ·obtain⟨u,c,rfl,rx,rc⟩:=vals2 r
  cases rc
  cases rx
  obtain⟨_,_,_,_,o,_,_,e2,ex,_⟩:=I.hok a _ hk
  exact PySem.W.kia_one PySem.W.kitx_dict I.kIn ⟨o,e2,ex.1⟩ e (fun z=>nomatch z) fun tk=>⟨.bl b,H,I.tok tk,rfl,q⟩
theorem lA.ty {B:Option Addr}{G H:Hp}{v:V}{d:D}(h:lA K B G H v d)(s:ar G H)(n:c9 d=false):Kc K H v (HI d):=by
 cases d with
 |none=>obtain rfl:=h.none;exact .inl .non
 |bool b=>obtain rfl:=h.bool;exact .inl (.bl b)
 |int b=>obtain rfl:=h.int;exact .inl (.int b)
 |str b=>obtain rfl:=h.str;exact .inl (.str b)
 |list b=>obtain⟨a,xs,rfl,q,_⟩:=h.list s;exact .inl (.lst (.inl q))
 |tuple b=>obtain⟨a,xs,rfl,q,_⟩:=h.tuple s;exact .inl (.tup q)
 |dict b=>
  rcases h with h | ⟨a,rfl,_,h⟩
  ·cases h with
   |scr _=>cases n
   |dK q _=>exact .inl (.dic (s _ _ q))
   |dT q _=>exact .inr ⟨rfl,_,_,rfl,s _ _ q⟩
  ·rcases h with⟨_,q,_⟩ | ⟨_,q,_⟩
   ·exact .inl (.dic q)
   ·exact .inr ⟨rfl,_,_,rfl,q⟩
theorem Ir {d:D}{T:String}(hT:T∈ ["int","bool","str","list","tuple","dict"]):PySem.W.kitOne K (.type (HI d)) (.type T)=some (Bc d T):=by
 simp only[List.mem_cons,List.not_mem_nil,or_false] at hT
 cases d with
 |dict l=>rcases hT with rfl |rfl |rfl |rfl |rfl |rfl <;> rfl
 |none=>rcases hT with rfl |rfl |rfl |rfl |rfl |rfl <;> rfl
 |bool _=>rcases hT with rfl |rfl |rfl |rfl |rfl |rfl <;> rfl
 |int _=>rcases hT with rfl |rfl |rfl |rfl |rfl |rfl <;> rfl
 |str _=>rcases hT with rfl |rfl |rfl |rfl |rfl |rfl <;> rfl
 |list _=>rcases hT with rfl |rfl |rfl |rfl |rfl |rfl <;> rfl
 |tuple _=>rcases hT with rfl |rfl |rfl |rfl |rfl |rfl <;> rfl
theorem lq {a:Expr}{fa:VF D}{La:List Nat}{ma:Md}{Γ:Fx}{E:XK}{pos p p2:Pos}(T:String){y:Str}(hT:T∈ ["int","bool","str","list","tuple","dict"])(hK:X.K=Γ.K)(hg:Gl X "isinstance")(hm:X.mg "isinstance"=none)(hgT:Gl X y)(hmT:X.mg y=none)(hvT:bootBuiltins y=some (.type T))(ha:SE X Γ E a fa La ma)
  (hnT:y≠"__name__":=by decide) (hdT:(y == ("__debug__":Str))=false:=by decide)
  (he:starEach [a,.Name y p2] X.env=(false,eval a X.env) :: starEach [.Name y p2] X.env:=by rfl) (he2:starEach [.Name y p2] X.env=(false,eval (.Name y p2) X.env) :: starEach [] X.env:=by rfl) (hpl:(backTo pos (starEach [.Name y p2] X.env)).any (·.1)=false:=by rfl) :
  SE X Γ E (.Call (.Name "isinstance" p) [a,.Name y p2] [] pos) (f1 fa (iM T)) La .v:=by
 refine PE.post' (iQ A1 hg hm (by decide +kernel) (aN ha (aN (DG hgT hmT hvT (show RelV (.ty T) _ from rfl) hnT hdT) bA he2) he) (by decide) (by decide) he hpl) fun σ H Q ⟨env,G,B,β,I,o⟩=>?_
 refine ig (r:=fun x H1 Q=>G8 X.K [x,.ty T] H1 Q) ?_ I o
 intro B G H x dx d Q s hB bx e k
 unfold iM at e
 split at e
 ·cases e
 ·rename_i hn
  cases e
  rw[hK]
  exact⟨x,T,HI dx,Bc dx T,rfl,bx.ty s (by simpa using hn),Ir hT,k _ G H (Ext.refl s) (.bl _)⟩
def jv (fa fb fc:VF D)(g g':D->D->Option D):VF D:=fun vs β=>(fa vs β).bnd fun x β1=>(fb vs β1).bnd fun y β2=>match g x y with
 |some (.bool true)=>(fc vs β2).bnd fun z β3=>R.of (g' y z) β3
 |some (.bool false)=>.ok (.bool false) β2
 |_=>.bad
theorem uY {a b c:Expr}{fa fb fc:VF D}{ma mb mc:Md}{Γ:Fx}{E:XK}{pos:Pos}{op op':CmpOp}{r r':R2}{g g':D->D->Option D}(ho:lG X (compareOp op) r)(ho':lG X (compareOp op') r')(pr:mq Γ.K r g .v)(pr':mq Γ.K r' g' .v)(ha:SE X Γ E a fa [] ma)(hb:SE X Γ E b fb [] mb)(hc:SE X Γ E c fc [] mc)
  (hm:lastMarks [op,op'] [b,c]=false:=by with_unfolding_all rfl):SE X Γ E (.Compare a [op,op'] [b,c] pos) (jv fa fb fc g g') [] .v:=by
 refine PE.post' (Af ho ho' ha hb hc hm) fun σ H Q ⟨env,G,B,β,I,o⟩=>?_
 refine two (W:=fun x y H2=>r x y H2 fun z H3=>∃k,z=.bl k/\(if k=true then pT Γ E fc [] mc σ H3 fun w' H4=>r' y w' H4 Q else Q (.bl false) H3)) I (o.bnd.imp fun d1 β1 h=>h.bnd.imp fun d2 β2 h x y G2 H2 I2 s2 m2 bx by'=>?_)
 obtain⟨cb,ec,h⟩:∃cb,g d1 d2=some (.bool cb)/\Out Γ E (if cb=true then (fc (vl env) β2).bnd fun z β3=>R.of (g' d2 z) β3 else .ok (.bool false) β2) fun d β'=>∀v G' H',SR Γ B G' H' σ (bo [] env) β'->ar G G'->iK B H H'->VO Γ.K B H G' H' .v d v->Q v H':=by
  split at h
  ·rename_i q;exact⟨true,q,by rw[if_pos rfl];exact h⟩
  ·rename_i q;exact⟨false,q,by rw[if_neg Bool.false_ne_true];exact h⟩
  ·exact h.elim
 refine pr B G2 H2 x y d1 d2 _ _ I2.sub I2.boxThere bx by' ec fun v G' H' x' vo=>?_
 cases vo
 refine⟨cb,rfl,?_⟩
 have I3:=I2.ext x'
 cases cb with
 |false=>rw[if_neg Bool.false_ne_true] at h;exact vh (h _ G' H' I3 (s2.trans x'.gg) (m2.trans (x'.mov B)) (.bl false))
 |true=>
  rw[if_pos rfl] at h
  refine uT ⟨env,G',B,β2,I3,h.bnd.imp fun d3 β3 h z G4 H4 I4 s4 m4 vz=>?_⟩
  obtain⟨d,e,k⟩:=h.of
  refine pr' B G4 H4 y z d2 d3 d Q I4.sub I4.boxThere (by'.mono (x'.gg.trans s4) ((x'.mov B).trans m4)) (vz.brw I3.boxThere) e fun v G5 H5 x5 vo=>?_
  exact k v G5 H5 (I4.ext x5) (((s2.trans x'.gg).trans s4).trans x5.gg) (((m2.trans (x'.mov B)).trans m4).trans (x5.mov B)) vo
end
end L2

end

section
namespace L2
open PySem PySem.Spec PyProof.Rows
theorem fo.u1 {k:Nat}{A:Around}(r:fo k A):A.units + 100 < cLine:=by have:=r.un;omega
def Ka (N:List Str)(sc:Scope)(NB:List Str)(own:Nat)(ixs:List Nat)(scope:Scope):Bool:=
 decide (scope.kind=.function) && (scope.names.all fun y=>decide (y.2≠.cell)) && (scope.names.all fun y=>decide (scope.names.lookup y.1=some y.2)) &&
 (scope.names.all fun y=>decide (y.2=.free->(sc.names.lookup y.1=some .cell\/sc.names.lookup y.1=some .free))) && decide NB.Nodup && decide (NB.length=own + ixs.length) &&
 ((List.range ixs.length).all fun k=>decide (NB[own + k]? =N[ixs.getD k 0]?) && (match NB[own + k]? with |some x=>decide ((x,NameKind.free)∈scope.names) |none=>true))
theorem cm {X:Cx}{NB:List Str}{own:Nat}{ixs:List Nat}{scope:Scope}(h:Ka X.N X.env.scope NB own ixs scope=true):c7 X NB own ixs scope:=by
 unfold Ka at h
 simp only[Bool.and_eq_true,List.all_eq_true,decide_eq_true_eq,List.mem_range] at h
 obtain⟨⟨⟨⟨⟨⟨h1,h2⟩,h3⟩,h4⟩,h5⟩,h6⟩,h7⟩:=h
 refine⟨h1,h2,h3,h4,h5,h6,fun k hk=>⟨(h7 k hk).1,fun x hx=>?_⟩⟩
 have:=(h7 k hk).2
 rw[hx] at this
 simpa using this
section
variable {X:Cx}{Γ:Fx}{E:XK}{e a b c:Expr}{f fa fb fc:VF D}{L La Lb:List Nat}{md ma mb mc:Md}{pos:Pos}{K:PySem.W.Frag}
def tN (fa:VF D)(neg:Bool):VF Bool:=fun vs β=>(fa vs β).bnd fun x β1=>.ok (if neg then !CP x else CP x) β1
def oT (Γ:Fx)(E:XK)(f:VF (Option Int))(L:List Nat):TO:=fun σ H Q=>∃env G B β,SR Γ B G H σ env β/\
 Out Γ E (f (vl env) β) fun d β'=>∀G' H',SR Γ B G' H' σ (bo L env) β'->ar G G'->iK B H H'->Q d H'
theorem E6:mq K (fun x y H Q=>∃i j,[x,y]= [.int i,.int j]/\Q (.int (if j > i then j else i)) H) (tE fun i j=>.int (if j > i then j else i)) .v:=by
 intro B G H x y dx dy d Q s hB bx by' e k
 obtain⟨i,j,rfl,rfl,rfl⟩:=iD e
 obtain rfl:=bx.int
 obtain rfl:=by'.int
 exact⟨i,j,rfl,k _ G H (Ext.refl s) (.int _)⟩
theorem Fj:mq K (fun x y H Q=>∃i j,[x,y]= [.int i,.int j]/\Q (.int (if j < i then j else i)) H) (tE fun i j=>.int (if j < i then j else i)) .v:=by
 intro B G H x y dx dy d Q s hB bx by' e k
 obtain⟨i,j,rfl,rfl,rfl⟩:=iD e
 obtain rfl:=bx.int
 obtain rfl:=by'.int
 exact⟨i,j,rfl,k _ G H (Ext.refl s) (.int _)⟩
end
end L2

end

section
namespace L2
open PySem PySem.Spec PyProof.Rows
structure jd (K:PySem.W.Frag)(mg:Str->Option Value)(x:Str)(st:Stmt)(ps:List Str)(f:Addr)(fd:FuncData):Prop where
 mg:mg x=some (.ref f)
 F:Cw K x x st f fd
 b:Binds K fd ps []
structure Exc (K:PySem.W.Frag)(mg:Str->Option Value)(ca:Str->Addr)(x:Str):Prop where
 mg:mg x=some (.ref (ca x))
 ex:PySem.W.excIn K (ca x) [.type "ValueError",.type "Exception",.type "BaseException",.type "object"] "ValueError.__new__"=true
theorem Exc.ca {K:PySem.W.Frag}{mg:Str->Option Value}{ca:Str->Addr}{x:Str}(h:Exc K mg ca x):ca x=ca x:=rfl
structure jg (mg:Str->Option Value):Prop where
 len:mg "len"=none
 range:mg "range"=none
 enumerate:mg "enumerate"=none
 zip:mg "zip"=none
 min:mg "min"=none
 max:mg "max"=none
 sum:mg "sum"=none
 abs:mg "abs"=none
 sorted:mg "sorted"=none
 reversed:mg "reversed"=none
 int:mg "int"=none
 str:mg "str"=none
 bool:mg "bool"=none
 list:mg "list"=none
 tuple:mg "tuple"=none
 dict:mg "dict"=none
 set:mg "set"=none
 isinstance:mg "isinstance"=none
 repr:mg "repr"=none
 any:mg "any"=none
 all:mg "all"=none
 divmod:mg "divmod"=none
end L2

end

section
namespace L2
open PySem PySem.Spec PyProof.Rows
inductive FB where
 |ok (d:D) (fresh:Bool) (β:Int)
 |bad
def nV (K:PySem.W.Frag)(n:Nat)(F:List D->Int->FB):Sp:=fun vs H Q _=>∃b rest G ds β,vs=.ref b :: rest/\H b=some (.lst [.int β])/\G b=none/\ar G H/\ds.length=n/\b8 K G rest ds/\match F ds β with
 | .ok d fr β'=>∀v G' H',iK (some b) H H'->H' b=some (.lst [.int β'])->ar G G'->ar G' H'->(∀c,Mx H c->G c=none->G' c=none)->FV K H G' H' fr d v->Q v H'
 | .bad=>False
structure pV (P:Program)(w:World)(K:PySem.W.Frag)(mg:Str->Option Value)(base:Heap)(x:Str)(ps:List Str)(k:Nat)(F:List D->Int->FB):Prop where
 ex:∃f fd,mg x=some (.ref f)/\PySem.W.keepIn K (.ref f)=true/\Binds K fd ps []/\fR P w K mg base (nJ P w) k f fd ps (nV K (ps.length - 1) F)
 len:∀ds β,F ds β≠.bad->ds.length=ps.length - 1
def vZ (vs:List Nv)(i:Nat):Bool:=match vs[i]? with
 |some .bx=>true
 |_=>false
def k9 (i:Nat)(F:List D->Int->FB)(fr:VF (List D)):VF D:=fun vs β=>if vZ vs i=true then (fr vs β).bnd fun ds β1=>match F ds β1 with
 | .ok d _ β2=>.ok d β2
 | .bad=>.bad else .bad
def JM (i:Nat)(F:List D->Int->FB)(fr:VF (List D)):VF D:=fun vs β=>if vZ vs i=true then (fr vs β).bnd fun ds β1=>match F ds β1 with
 | .ok d true β2=>.ok d β2
 |_=>.bad else .bad
section
variable {X:Cx}{Γ:Fx}{E:XK}{e a b c:Expr}{f fa fb fc:VF D}{L La Lb:List Nat}{md ma mb mc:Md}{pos:Pos}{K:PySem.W.Frag}{es:List Expr}{fr:VF (List D)}
theorem Dx {env:En}{i:Nat}(h:vZ (vl env) i=true):env[i]? =some .bx:=by
 unfold vZ at h
 split at h
 ·exact HH (by assumption)
 ·cases h
theorem CC {env:En}{i j:Nat}{d:D}(h:(jc env i)[j]? =some (.br d)):env[j]? =some (.br d):=by
 unfold jc at h
 split at h
 ·rename_i d' e
  by_cases z:i=j
  ·subst z
   rw[List.getElem?_set_self (List.getElem?_eq_some_iff.mp e).1] at h;cases h
  ·rw[List.getElem?_set_ne z] at h;exact h
 ·exact h
theorem Gn {L:List Nat}{env:En}{j:Nat}{d:D}(h:(bo L env)[j]? =some (.br d)):env[j]? =some (.br d):=by
 unfold bo at h
 induction L generalizing env with
 |nil=>exact h
 |cons i L ih=>exact CC (ih h)
theorem SR.calledB {p:Addr}{β β':Int}{G1 H1 G2 H2:Hp}{σ:St}{env:En}(I1:SR Γ (some p) G1 H1 σ env β)(h:iK (some p) H1 H2)(hp:H2 p=some (.lst [.int β']))(g:ar G1 G2)(s:ar G2 H2)(n:∀b,Mx H1 b->G1 b=none->G2 b=none):SR Γ (some p) G2 H2 σ env β':=by
 obtain⟨b1,b2,b3⟩:=I1.box p rfl
 refine⟨s,I1.old.trans g,fun b n1 n2=>n b (I1.thereM n1) (I1.new b n1 n2),fun b o e np=>h b o (I1.keep b o e np) fun z=>?_,fun b hb=>?_,I1.fix,fun b e=>?_,I1.len,fun i t e=>?_,I1.sep⟩
 ·cases z
  rcases b3 with b3 |b3
  ·exact np b3
  ·rw[e] at b3;cases b3
 ·by_cases z:p=b
  ·subst z;exact Mx.lst hp
  ·exact (I1.pin b hb).same fun o q=>h b o q fun y=>z (Option.some.inj y)
 ·cases e
  exact⟨hp,n p (Mx.lst b1) b2,b3⟩
 ·have q:=I1.slot i t e
  cases t with
  |no=>trivial
  |fz d=>obtain⟨v,h1,h2⟩:=q;exact⟨v,h1,h2.mono g⟩
  |ow d=>
   obtain⟨c,h1,h2,h3,h4,h5⟩:=q
   exact⟨c,h1,h2,n c h5.mx h3,h4,h5.mono g fun o q=>h c o q h4⟩
  |bx=>exact q
  |br d=>obtain⟨b1,c,h1,h4,hpp,h5⟩:=q;exact⟨b1,c,h1,h4,hpp,h5.mono g fun o q=>h c o q h4⟩
theorem DW {F:List D->Int->FB}{ps:List Str}{Q:VK}{B:Option Addr}{G H:Hp}{σ:St}{env:En}{β:Int}{i:Nat}{p:Addr}(I:SR Γ B G H σ env β)(hK:X.K=Γ.K)(hp:B=some p){wv:Bool}
  (h:Out Γ E (fr (vl env) β) fun ds β1=>Out Γ E (match F ds β1 with
   | .ok d true β2=>.ok d β2
   | .ok d false β2=>if wv=true then .bad else .ok d β2
   | .bad=>.bad) fun d β'=>∀v G' H',SR Γ B G' H' σ (bo L env) β'->ar G G'->iK B H H'->VO Γ.K B H G' H' (if wv=true then .w else .v) d v->Q v H') (hl:∀ds β,F ds β≠.bad->ds.length=ps.length - 1) :
  aT Γ E fr L σ H fun vs H1=>nV X.K (ps.length - 1) F (.ref p :: vs) H1 Q E:=by
 subst hp
 refine⟨env,G,_,β,I,h.imp fun ds β1 k vs G1 H1 I1 s1 m1 r=>?_⟩
 obtain⟨b1,b2,b3⟩:=I1.box p rfl
 refine⟨p,vs,G1,ds,β1,rfl,b1,b2,I1.sub,hl ds β1 fun z=>by rw[z] at k;exact k,by rw[hK];exact r,?_⟩
 cases q:F ds β1 with
 |bad=>rw[q] at k;exact k
 |ok d fr' β2=>
  rw[q] at k
  intro v G' H' hh hb hg hs hn fv
  have I2:=I1.calledB hh hb hg hs hn
  cases fr' with
  |true=>
   obtain⟨c,rfl,p1,p2,p3⟩:∃a,v=.ref a/\H1 a=none/\G' a=none/\Own X.K G' H' a d:=fv
   rw[hK] at p3
   have hp:=gO m1 I1.boxThere p1
   cases wv with
   |true=>exact k _ G' H' I2 (s1.trans hg) (m1.trans hh) ⟨c,rfl,hp,p2,p3⟩
   |false=>
    obtain⟨q1,q2,q3,q4⟩:=I1.fresh p1
    obtain⟨G3,I3,s3,r3⟩:=I2.letIn q1 p2 q3 q4 p3
    exact k _ G3 H' I3 ((s1.trans hg).trans s3) (m1.trans hh) r3
  |false=>
   cases wv with
   |true=>exact k.elim
   |false=>
    have fv:Rp X.K G' v d:=fv
    rw[hK] at fv
    exact k _ G' H' I2 (s1.trans hg) (m1.trans hh) fv
theorem Ga {F:List D->Int->FB}{ps:List Str}{Q:VK}{i:Nat}{σ:St}{H:Hp}(hK:X.K=Γ.K){wv:Bool}(hl:∀ds β,F ds β≠.bad->ds.length=ps.length - 1)(h:pT Γ E (if wv=true then JM i F fr else k9 i F fr) L (if wv=true then .w else .v) σ H Q) :
  Dv i σ H fun x H1=>aT Γ E fr L σ H1 fun vs H2=>nV X.K (ps.length - 1) F (x :: vs) H2 Q E:=by
 obtain⟨env,G,B,β,I,o⟩:=h
 have hi:vZ (vl env) i=true:=by
  by_cases hi:vZ (vl env) i=true
  ·exact hi
  ·exfalso
   cases wv with
   |true=>simp only[if_true] at o;unfold JM at o;rw[if_neg hi] at o;exact o
   |false=>simp only[Bool.false_eq_true,if_false] at o;unfold k9 at o;rw[if_neg hi] at o;exact o
 obtain⟨p,e1,e2⟩:=I.slot i _ (Dx hi)
 refine⟨.ref p,e1,DW (i:=i) (ps:=ps) I hK e2 (wv:=wv) ?_ hl⟩
 cases wv with
 |true=>
  simp only[if_true] at o ⊢
  unfold JM at o
  rw[if_pos hi] at o
  refine o.bnd.imp fun ds β1 h=>?_
  cases q:F ds β1 with
  |bad=>rw[q] at h;exact h
  |ok d b β2=>rw[q] at h;cases b <;> exact h
 |false=>
  simp only[Bool.false_eq_true,if_false] at o ⊢
  unfold k9 at o
  rw[if_pos hi] at o
  refine o.bnd.imp fun ds β1 h=>?_
  cases q:F ds β1 with
  |bad=>rw[q] at h;exact h
  |ok d b β2=>rw[q] at h;cases b <;> exact h
theorem kZ {x y:Str}{ps:List Str}{k:Nat}{F:List D->Int->FB}{p np:Pos}(i:Nat)(hf:pV X.prog X.w X.K X.mg X.base x ps k F)(hr:fo k X.A)(hx:Passes (nJ X.prog X.w) X E)(hK:X.K=Γ.K)(hg:Gl X x)(ha:SA X Γ E es fr L)(hN:X.N[i]? =some y:=by rfl)(hv:zS X.env.scope y:=by first |exact Or.inl rfl |exact Or.inr (Or.inl rfl) |exact Or.inr (Or.inr rfl))(hd:(y == ("__debug__":Str))=false:=by decide)
  (hcd:(y == ("__classdict__":Str))=false:=by decide) (hdb:(x == ("__debug__":Str))=false:=by decide)
  (he:starEach (.Name y np :: es) X.env=(false,eval (.Name y np) X.env) :: starEach es X.env:=by rfl) (hpl:(backTo pos (starEach es X.env)).any (·.1)=false:=by rfl):SE X Γ E (.Call (.Name x p) (.Name y np :: es) [] pos) (k9 i F fr) L .v:=by
 obtain⟨f,fd,hm,hk,hb,hF⟩:=hf.ex
 refine PE.post' (oh (dvs:=[]) hF hr hg hm hk hb .nil hx (aN (jG hN hv hd hcd) ha he) hdb he hpl) fun σ H Q h=>?_
 have:=Ga (Q:=Q) (wv:=false) (ps:=ps) hK hf.len (by simpa using h)
 show Dv i σ H fun x H1=>aT Γ E fr L σ H1 fun vs H2=>nV X.K (ps.length - 1) F ((x :: vs) ++ []) H2 Q E
 simpa using this
def AA:D->Option Int
 | .list [.int z]=>some z
 |_=>none
theorem Dj {d:D}{z:Int}(h:AA d=some z):d=.list [.int z]:=by
 unfold AA at h
 split at h
 ·cases h;rfl
 ·cases h
def Ku (f0:VF D)(F:List D->Int->FB)(n:Int):VF D:=fun vs β=>(f0 vs β).bnd fun d0 β1=>match AA d0 with
 |some z=>(match F [.int n] z with
  | .ok d _ _=>.ok d β1
  | .bad=>.bad)
 |none=>.bad
def p6 (env:En):En:=env.map fun s=>match s with
 | .bx=>.no
 |s=>s
theorem Bb {env:En}{i:Nat}{s:Sl}(h:(p6 env)[i]? =some s)(n:s≠.no):env[i]? =some s/\s≠.bx:=by
 unfold p6 at h
 rw[List.getElem?_map] at h
 cases e:env[i]? with
 |none=>rw[e] at h;cases h
 |some t=>
  rw[e] at h
  have h:=Option.some.inj h
  cases t with
  |bx=>exact absurd h.symm n
  |no=>exact absurd h.symm n
  |fz d=>subst h;exact⟨rfl,fun z=>by cases z⟩
  |ow d=>subst h;exact⟨rfl,fun z=>by cases z⟩
  |br d=>subst h;exact⟨rfl,fun z=>by cases z⟩
def xp (i:Nat)(L:List Nat)(f:VF D):SF:=fun env β=>toS (f (vl env) β) fun d _=>match AA d with
 |some z=>.nx ((p6 (bo L env)).set i .bx) z
 |none=>.bad
theorem CV {i:Nat}{x:Str}{pos':Pos}(hbx:Γ.bx=none)(he:SE X Γ E e f L .w)(hN:X.N.Nodup)(hi:X.N[i]? =some x:=by rfl)(hx:Loc X.env.scope x:=by first |exact Or.inl rfl |exact Or.inr rfl)(hs:swapsWith e (some (.Name x pos')) pos.line X.env=pure false:=by rfl)(hf:X.fn x=true\/X.env.scope.names.lookup x=some .local:=by first |exact .inl rfl |exact .inr rfl |assumption) :
  SS X Γ E (.Assign [.Name x pos'] e pos) (xp i L f):=by
 refine PS.post (oH hN hi hx he hs hf) fun N σ H ⟨env,G,B,β,I,o⟩=>?_
 refine⟨env,G,B,β,I,cc o fun d β' k v G' H' I' s' m' vo=>?_⟩
 cases q:AA d with
 |none=>rw[q] at k;exact k.elim
 |some z=>
  rw[q] at k
  obtain rfl:=Dj q
  obtain⟨p,rfl,h1,h2,xs,h3,r⟩:=vo
  have hx2:H' p=some (.lst [.int z]):=by
   cases r with
   |cons r1 r2=>
    cases r1
    cases r2
    exact h3
  obtain⟨q1,q2,q3,q4⟩:=I.fresh h1
  refine k (some p) G' H' _ ⟨I'.sub,I'.old,I'.new,I'.keep,I'.pin,fun b e=>(by rw[hbx] at e;cases e),fun b e=>?_,?_,fun j t e=>?_,fun j j' c d1 d2 e1 e2 e3 e4=>?_⟩ s'
  ·cases e;exact⟨hx2,h2,.inr q1⟩
  ·rw[List.length_set,List.length_set];unfold p6;rw[List.length_map];exact I'.len
  ·by_cases hj:j=i
   ·subst hj
    by_cases hl:j < (p6 (bo L env)).length
    ·rw[List.getElem?_set_self hl] at e
     cases e
     refine⟨p,?_,rfl⟩
     rw[List.getElem?_set_self]
     rw[I'.len];unfold p6 at hl;simpa using hl
    ·rw[List.getElem?_eq_none (by rw[List.length_set];omega)] at e;cases e
   ·rw[List.getElem?_set_ne (Ne.symm hj)] at e ⊢
    by_cases hn:t=.no
    ·subst hn;trivial
    ·obtain⟨e1,nb⟩:=Bb e hn
     have w:=I'.slot j t e1
     cases t with
     |no=>trivial
     |fz d=>exact w
     |bx=>exact absurd rfl nb
     |ow d=>
      obtain⟨a',g1,g2,g3,g4,g5⟩:=w
      exact⟨a',g1,g2,g3,fun y=>q4 j d (rE e1) (by cases y;exact g1),g5⟩
     |br d=>
      obtain⟨b1,a',g1,g4,hpp,g5⟩:=w
      have e0:env[j]? =some (.br d):=Gn e1
      obtain⟨_,a2,f1,_,_,f5⟩:=I.slot j _ e0
      rw[g1] at f1;cases f1
      obtain⟨o,ho⟩:=f5.obj
      exact⟨b1,a',g1,fun y=>(by cases y;rw[h1] at ho;cases ho),hpp,g5⟩
  ·have back:∀{j:Nat} {d1:D},((p6 (bo L env)).set i Sl.bx)[j]? =some (.ow d1)->j≠i/\(bo L env)[j]? =some (.ow d1):=fun {j d1} e=>by
    by_cases hj:j=i
    ·subst hj
     by_cases hl:j < (p6 (bo L env)).length
     ·rw[List.getElem?_set_self hl] at e;cases e
     ·rw[List.getElem?_eq_none (by rw[List.length_set];omega)] at e;cases e
    ·rw[List.getElem?_set_ne (Ne.symm hj)] at e
     exact⟨hj,(Bb e (fun y=>by cases y)).1⟩
   obtain⟨n1,w1⟩:=back e1
   obtain⟨n2,w2⟩:=back e2
   rw[List.getElem?_set_ne (Ne.symm n1)] at e3
   rw[List.getElem?_set_ne (Ne.symm n2)] at e4
   exact I'.sep j j' c d1 d2 w1 w2 e3 e4
end
section
variable {P:Program}{w:World}{K:PySem.W.Frag}{mg:Str->Option Value}{base:Heap}{ca:Str->Addr}
def DS:SO->FB
 | .nx _ β=>.ok .none false β
 | .rt d fr β=>.ok d fr β
 |_=>.bad
def vD (n:Nat)(ds:List D):En:=.bx :: ds.map Sl.fz ++ List.replicate (n - 1 - ds.length) .no
def ud (n p:Nat)(m:SF):List D->Int->FB:=fun ds β=>if ds.length=p then DS (m (vD n ds) β) else .bad
abbrev Fx.fb (K:PySem.W.Frag)(H G:Hp)(ca:Str->Addr)(b:Addr):Fx:=⟨K,H,G,[b],ca,fun _=>false,some b⟩
theorem SR.startB {H G:Hp}{N:List Str}{b:Addr}{vs:List V}{ds:List D}{β:Int}(s:ar G H)(hb:H b=some (.lst [.int β]))(gb:G b=none)(r:b8 K G vs ds)(hn:ds.length + 1<=N.length):SR (Fx.fb K H G ca b) (some b) G H (L2.start N (.ref b :: vs)) (vD N.length ds) β:=by
 have hl:=r.len
 refine⟨s,ar.refl _,fun c _ h=>h,fun c o h _=>h,fun c h=>?_,fun c h=>h,fun c h=>?_,?_,fun i t e=>?_,fun i j a d e h=>?_⟩
 ·have:c=b:=by simpa using h
  subst this;exact Mx.lst hb
 ·cases h;exact⟨hb,gb,.inl (by simp)⟩
 ·unfold L2.start vD;simp;omega
 ·cases i with
  |zero=>
   unfold vD at e
   cases e
   exact⟨b,rfl,rfl⟩
  |succ i=>
   unfold vD at e
   have e:(ds.map Sl.fz ++ List.replicate (N.length - 1 - ds.length) Sl.no)[i]? =some t:=by simpa using e
   by_cases hi:i < ds.length
   ·rw[List.getElem?_append_left (by simpa using hi),List.getElem?_map,List.getElem?_eq_getElem hi] at e
    cases e
    obtain⟨x,hx,rx⟩:=r.at (List.getElem?_eq_getElem hi)
    refine⟨x,?_,rx⟩
    unfold L2.start
    have hi':i < vs.length:=by rw[hl];exact hi
    rw[List.getElem?_append_left (by simp;exact hi'),List.getElem?_map,List.getElem?_cons_succ,hx];rfl
   ·rw[List.getElem?_append_right (by simpa using hi),List.getElem?_replicate] at e
    split at e
    ·cases e;trivial
    ·cases e
 ·unfold vD at h
  have hm:=List.mem_of_getElem? h
  rcases List.mem_cons.mp hm with z |hm
  ·cases z
  rcases List.mem_append.mp hm with z |z
  ·obtain⟨_,_,z⟩:=List.mem_map.mp z;cases z
  ·have:=List.eq_of_mem_replicate z;cases this
theorem vp {x qual:Str}{st:Stmt}{f:Addr}{fd:FuncData}{N:List Str}{ps:List Str}{k:Nat}{m:SF}(F:Cw K x qual st f fd)(S:aH N ps (aq st))(hp:1<=ps.length)
  (hbody:∀(cdv:Value) (A:Around) (outer:List Env) (s:Shared) (H G:Hp) (b:Addr) (E:XK),fo k (A.deeper (envOfC qual (aq st) s.heap.objs.size f cdv))->Cy (kQ (nJ P w) P w K mg base N qual (aq st) f cdv A outer s H E) (Fx.fb K H G ca b) E (cO st) m) :
  fR P w K mg base (nJ P w) (k + 1) f fd ps (nV K (ps.length - 1) (ud N.length (ps.length - 1) m)):=by
 have hpn:ps.length<=N.length:=by have:=congrArg List.length S.pre;rw[List.length_take] at this;omega
 refine F.tI S (fun vs H Q E h=>?_) (fun cdv A outer s H vs Q E hr h=>?_)
 ·obtain⟨b,rest,G,ds,β,rfl,hb,gb,sG,hl,r,_⟩:=h
  rw[List.length_cons,r.len];omega
 ·obtain⟨b,rest,G,ds,β,rfl,hb,gb,sG,hl,r,h⟩:=h
  refine⟨_,hbody cdv A outer s H G b E hr,?_⟩
  have I:=SR.startB (ca:=ca) (N:=N) sG hb gb r (by omega)
  refine⟨_,G,some b,β,I,?_⟩
  unfold ud at h
  rw[if_pos hl] at h
  have fin':∀{B G' H' σ env β},SR (Fx.fb K H G ca b) B G' H' σ env β->iK (some b) H H'/\H' b=some (.lst [.int β]):=fun J=>by
   have e:=J.fix b rfl
   refine⟨fun c o ec n=>J.keep c o ec fun z=>n ?_,(J.box b e).1⟩
   have:c=b:=by simpa using z
   rw[this]
  cases q:m (vD N.length ds) β with
  |nx env β'=>rw[q] at h;exact fun B G' H' σ J s'=>h .non G' H' (fin' J).1 (fin' J).2 s' J.sub (fun c h1 h2=>J.new c h1 h2) Rp.non
  |bk env β'=>rw[q] at h;exact h.elim
  |ct env β'=>rw[q] at h;exact h.elim
  |rt d fr β'=>
   rw[q] at h
   refine fun B G' H' σ env v J s' rv=>h v G' H' (fin' J).1 (fin' J).2 s' J.sub (fun c h1 h2=>J.new c h1 h2) ?_
   cases fr with
   |true=>exact rv
   |false=>exact rv
  |exc c=>rw[q] at h;exact h.elim
  |bad=>rw[q] at h;exact h.elim
theorem uM {n p:Nat}{m:SF}(ds:List D)(β:Int)(h:ud n p m ds β≠.bad):ds.length=p:=by
 unfold ud at h
 by_cases hl:ds.length=p
 ·exact hl
 ·rw[if_neg hl] at h;exact absurd rfl h
end
end L2

end

section
namespace L2
open PySem PySem.Spec PyProof.Rows
def aC (p:Pr):D:=.tuple [.int p.1,.int p.2]
def oo:D->Option Pr
 | .tuple [.int a,.int b]=>some (a,b)
 |_=>none
theorem uE {d:D}{p:Pr}(h:oo d=some p):d=aC p:=by
 unfold oo at h
 split at h
 ·cases h;rfl
 ·cases h
theorem yP (p:Pr):oo (aC p)=some p:=rfl
def gi:List D->Option (List Pr)
 | []=>some []
 |d :: ds=>match oo d,gi ds with
  |some p,some ps=>some (p :: ps)
  |_,_=>none
theorem kH:∀{ds:List D} {ps:List Pr},gi ds=some ps->ds=ps.map aC
 | [],ps,h=>by cases h;rfl
 |d :: ds,ps,h=>by
  unfold gi at h
  split at h
  ·rename_i p qs h1 h2;cases h;rw[uE h1,kH h2];rfl
  ·cases h
theorem hV:∀ps:List Pr,gi (ps.map aC)=some ps
 | []=>rfl
 |p :: ps=>by
  show (match oo (aC p),gi (ps.map aC) with
   |some p,some ps=>some (p :: ps)
   |_,_=>none)=_
  rw[yP,hV ps]
section
variable {K:PySem.W.Frag}{X:Cx}{G H:Hp}
theorem b8.pairs:∀{ps:List Pr} {xs:List V},b8 K G xs (ps.map aC)->aS K G xs ps
 | [],_,.nil=>.nil
 |p :: ps,_,.cons r t=>by
  cases r with
  |tup hq r=>
   cases r with
   |cons r1 r=>
    cases r with
    |cons r2 r=>cases r;cases r1;cases r2;exact .cons ⟨_,rfl,hq⟩ (b8.pairs t)
theorem aS.rps:∀{ps:List Pr} {xs:List V},aS K G xs ps->b8 K G xs (ps.map aC)
 | [],_,.nil=>.nil
 |p :: ps,_,.cons r t=>by
  obtain⟨a,rfl,q⟩:=r
  exact .cons (.tup q (.cons (.int _) (.cons (.int _) .nil))) (aS.rps t)
def GQ (p:Pr):Bool:=decide (0<=p.1) && decide (p.1 < 8) && decide (0<=p.2) && decide (p.2 < 8)
theorem E4 {p:Pr}(h:GQ p=true):Sm p:=by
 unfold GQ at h
 simp only[Bool.and_eq_true,decide_eq_true_eq] at h
 exact⟨⟨h.1.1.1,h.1.1.2⟩,h.1.2,h.2⟩
noncomputable def cx (d:D):Option D:=match lx d with
 |some ds=>(match gi ds with
  |some ps=>if ps.all GQ=true/\(OM.b9 8 (OM.Mem ps)).length < 64 then some (.list ((OM.b9 8 (OM.Mem ps)).map aC)) else none
  |none=>none)
 |none=>none
variable {Γ:Fx}{E:XK}{e a b c:Expr}{f fa fb fc:VF D}{L La Lb:List Nat}{md ma mb mc:Md}{pos:Pos}
theorem pC {p1 p2 pos2:Pos}(hc:X.calm=true)(hu:X.A.units + 64 < cLine)(hK:X.K=Γ.K)(hg:Gl X "sorted")(hm:X.mg "sorted"=none)(hg2:Gl X "set")(hm2:X.mg "set"=none)(ha:SE X Γ E a fa La ma)
  (he:starEach [a] X.env=(false,eval a X.env) :: starEach [] X.env:=by rfl)
  (he2:starEach [.Call (.Name "set" p2) [a] [] pos2] X.env=(false,eval (.Call (.Name "set" p2) [a] [] pos2) X.env) :: starEach [] X.env:=by rfl) :
  SE X Γ E (.Call (.Name "sorted" p1) [.Call (.Name "set" p2) [a] [] pos2] [] pos) (f1 fa cx) La .w:=by
 refine PE.post' (iQ (tq hc) hg hm (by decide +kernel) (aN (gK (BZ hc hu) hg2 hm2 (by decide +kernel) (aN ha bA he) (by decide) (by decide) he) bA he2) (by decide) (by decide) he2) fun σ H Q ⟨env,G,B,β,I,o⟩=>?_
 refine ig (r:=fun x H1 Q=>Ij X.prog X.w X.K [x] H1 fun y H2=>va X.prog X.w X.K [y] H2 Q) ?_ I o
 intro B G H x dx d Q s hB bx e k
 rw[hK]
 unfold cx at e
 cases q:lx dx with
 |none=>rw[q] at e;cases e
 |some ds=>
  rw[q] at e
  dsimp only at e
  cases q2:gi ds with
  |none=>rw[q2] at e;cases e
  |some ps=>
   rw[q2] at e
   dsimp only at e
   split at e
   ·rename_i hh
    obtain⟨h1,h2⟩:=hh
    cases e
    obtain⟨p,xs,rfl,hq,r⟩:=bx.seq q s
    rw[kH q2] at r
    have pv:=(r.mono s).pairs
    have sm:∀p,p∈ps->Sm p:=fun p hp=>E4 (List.all_eq_true.mp h1 p hp)
    refine⟨p,xs,ps,rfl,hq,pv,sm,fun S qs hS hpv nd hm=>?_⟩
    have qsl:qs.length < 64:=by
     have:(pq qs).length<=(OM.b9 8 (OM.Mem ps)).length:=OM.o4 nd fun x hx=>by
      have hx':=(hm x).mp hx
      have hs:=sm x hx'
      exact OM.bc.mpr ⟨⟨⟨hs.1.1,hs.1.2⟩,hs.2.1,hs.2.2⟩,hx'⟩
     simp only[List.length_map] at this
     omega
    have xS:=Ext.own s (o:=zC X.prog X.w S qs) hS
    refine⟨S,qs,rfl,az,hpv.grow (gy.new hS),fun p hp=>sm p ((hm p).mp hp),nd,qsl,fun l ws rs hl hpw hr hmem=>?_⟩
    have ers:rs=OM.b9 8 (OM.Mem ps):=OM.gC hr (OM.dh _ _) fun x=>by
     rw[hmem x,hm x,OM.bc]
     constructor
     ·intro hx;have hs:=sm x hx;exact⟨⟨⟨hs.1.1,hs.1.2⟩,hs.2.1,hs.2.2⟩,hx⟩
     ·intro hx;exact hx.2
    subst ers
    have hlH:H l=none:=by
     by_cases z:l=S
     ·subst z;exact hS
     ·rw[ay z] at hl;exact hl
    have lS:l≠S:=fun z=>by subst z;rw[az] at hl;cases hl
    have hh:ar H (upd (upd H S (zC X.prog X.w S qs)) l (.lst ws)):=(ar.new hS).trans (ar.new hl)
    have xx:=Ext.tups s hh
    refine k _ _ _ xx ⟨l,rfl,hlH,?_,ws,az,?_⟩
    ·unfold mQ
     rw[s.free hlH,az]
     exact if_neg fun y=>y
    ·refine aS.rps (Paired.mapP hpw fun v p ⟨a,ea,qa⟩=>⟨a,ea,pM (s.trans hh) ?_⟩)
     exact qa.grow (gy.new hl)
   ·cases e
end
end L2

end

section
namespace L2
open PySem PySem.Spec PyProof.Rows
section
variable {K:PySem.W.Frag}{X:Cx}{G H:Hp}{Γ:Fx}{E:XK}{e a b c:Expr}{f fa fb fc:VF D}{L La Lb:List Nat}{md ma mb mc:Md}{pos apos cpos np:Pos}
def eO:D->Option D
 | .int n=>if 0<=n/\n<=1000 then some (.list (cu 0 n.toNat)) else none
 |_=>none
theorem yN (n:Nat):b8 K G ((List.range n).map fun (i:Nat)=>V.int (i:Int)) (cu 0 n):=by
 have key:∀l:List Nat,b8 K G (l.map fun (i:Nat)=>V.int (i:Int)) (l.map fun (k:Nat)=>PyData.int (0 + k)):=by
  intro l
  induction l with
  |nil=>exact .nil
  |cons x l ih=>exact .cons (by show Rp K G (.int (x:Int)) (.int (0 + (x:Int)));rw[Int.zero_add];exact .int _) ih
 exact key _
theorem oK {p1 p2 pos2:Pos}(hc:X.calm=true)(hg:Gl X "list")(hm:X.mg "list"=none)(hg2:Gl X "range")(hm2:X.mg "range"=none)(ha:SE X Γ E a fa La ma)
  (he:starEach [a] X.env=(false,eval a X.env) :: starEach [] X.env:=by rfl)
  (he2:starEach [.Call (.Name "range" p2) [a] [] pos2] X.env=(false,eval (.Call (.Name "range" p2) [a] [] pos2) X.env) :: starEach [] X.env:=by rfl) :
  SE X Γ E (.Call (.Name "list" p1) [.Call (.Name "range" p2) [a] [] pos2] [] pos) (f1 fa eO) La .w:=by
 refine PE.post' (gK (p4 hc) hg hm (by decide +kernel) (aN (gK BJ hg2 hm2 (by decide +kernel) (aN ha bA he) (by decide) (by decide) he) bA he2) (by decide) (by decide) he2) fun σ H Q ⟨env,G,B,β,I,o⟩=>?_
 refine ig (r:=fun x H1 Q=>∃n:Int,[x]= [.int n]/\∀p,H1 p=none->(fun (y:V) (H2:Hp)=>∃(p:Addr) (n:Int),[y]= [V.ref p]/\H2 p=some (.eZ 0 n)/\0<=n/\n<=1000/\∀l,H2 l=none->Q (.ref l) (upd H2 l (.lst ((List.range n.toNat).map fun (i:Nat)=>V.int (i:Int))))) (V.ref p) (upd H1 p (.eZ 0 n))) ?_ I o
 intro B G H x dx d Q s hB bx e k
 cases dx with
 |int n=>
  obtain rfl:=bx.int
  simp only[eO] at e
  split at e
  ·rename_i hh
   cases e
   refine⟨n,rfl,fun p hp=>⟨p,n,rfl,az,hh.1,hh.2,fun l hl=>?_⟩⟩
   have hlp:l≠p:=fun z=>by subst z;rw[az] at hl;cases hl
   have hlH:H l=none:=by rw[ay hlp] at hl;exact hl
   have x1:=Ext.own s (o:=.eZ 0 n) hp
   have x2:=Ext.own x1.gh (o:=.lst ((List.range n.toNat).map fun (i:Nat)=>V.int (i:Int))) hl
   exact k _ _ _ (x1.trans x2) ⟨l,rfl,hlH,s.free hlH,_,az,yN _⟩
  ·cases e
 |_=>cases e
def D0:D->Option D
 | .int i=>some (.int (if i < 0 then -i else i))
 |_=>none
theorem HS:Am K (fun x H Q=>∃i,[x]= [.int i]/\Q (.int (if i < 0 then -i else i)) H) D0 .v:=by
 intro B G H x dx d Q s hB bx e k
 cases dx with
 |int i=>cases e;obtain rfl:=bx.int;exact⟨i,rfl,k _ G H (Ext.refl s) (.int _)⟩
 |_=>cases e
noncomputable def Jn (d:D):Option D:=match d with
 | .list ds=>(match gi ds with
  |some ps=>if ps.all GQ=true/\ps.Nodup/\ps.length < 64 then some (.list ((OM.b9 8 (OM.Mem ps)).map aC)) else none
  |none=>none)
 |_=>none
def zM (ds:List D)(k:D):Option (D×List D):=match k with
 | .int i=>if -(2 ^ 63)<=i/\i < 2 ^ 63 then (match seqIndex? i ds.length with
  |some n=>(match ds[n]? with
   |some d=>some (d,ds.eraseIdx n)
   |none=>none)
  |none=>none) else none
 |_=>none
def jh (i j:Nat)(L:List Nat)(f:VF D):SF:=fun env β=>if sF env[i]? =true/\sF env[j]? =true/\i≠j then toS (f (vl env) β) fun k β'=>match (bo L env)[j]? with
 |some (.ow (.list es))=>(match zM es k with
  |some (d,es')=>Fq i ((bo L env).set j (.ow (.list es'))) β' fun ds=>if ds.length < sizeLine then some (ds ++ [d]) else none
  |none=>.bad)
 |_=>.bad else .bad
theorem b8.eraseIdx:∀{xs:List V} {ds:List D} (i:Nat),b8 K G xs ds->b8 K G (xs.eraseIdx i) (ds.eraseIdx i)
 |_,_,_,.nil=>.nil
 |_,_,0,.cons _ t=>t
 |_,_,i + 1,.cons r t=>.cons r (b8.eraseIdx i t)
theorem zP (i j:Nat){x y:Str}{np2 apos2 cpos2:Pos}(hb:∀j,Γ.br j=false)(he:SE X Γ E e f L md)(hN:X.N[i]? =some x:=by rfl)(hv:zS X.env.scope x:=by first |exact Or.inl rfl |exact Or.inr (Or.inl rfl) |exact Or.inr (Or.inr rfl))(hd:(x == ("__debug__":Str))=false:=by decide)
  (hcd:(x == ("__classdict__":Str))=false:=by decide)
  (hN2:X.N[j]? =some y:=by rfl) (hv2:zS X.env.scope y:=by first |exact Or.inl rfl |exact Or.inr (Or.inl rfl) |exact Or.inr (Or.inr rfl)) (hd2:(y == ("__debug__":Str))=false:=by decide)
  (hcd2:(y == ("__classdict__":Str))=false:=by decide)
  (hbase:attributeBase (.Name x np) "append" X.env (eval (.Name x np) X.env)=eval (.Name x np) X.env:=by rfl)
  (hfew:((backTo cpos (starEach [.Call (.Attribute (.Name y np2) "pop" apos2) [e] [] cpos2] X.env)).all (fun x=> !x.1) && (backToKw cpos (keywordEach [] X.env)).all (fun x=>x.1.isSome)
   && decide ([Expr.Call (.Attribute (.Name y np2) "pop" apos2) [e] [] cpos2].length + ([]:List Keyword).length + (if ([]:List Keyword).isEmpty then 0 else 1) < 30))=true:=by rfl)
  (hline:(apos.endLine == cpos.line)=true:=by rfl) (hs:starEach [.Call (.Attribute (.Name y np2) "pop" apos2) [e] [] cpos2] X.env=(false,eval (.Call (.Attribute (.Name y np2) "pop" apos2) [e] [] cpos2) X.env) :: starEach [] X.env:=by rfl)
  (hbase2:attributeBase (.Name y np2) "pop" X.env (eval (.Name y np2) X.env)=eval (.Name y np2) X.env:=by rfl)
  (hfew2:((backTo cpos2 (starEach [e] X.env)).all (fun x=> !x.1) && (backToKw cpos2 (keywordEach [] X.env)).all (fun x=>x.1.isSome)
   && decide ([e].length + ([]:List Keyword).length + (if ([]:List Keyword).isEmpty then 0 else 1) < 30))=true:=by rfl)
  (hline2:(apos2.endLine == cpos2.line)=true:=by rfl) (hs2:starEach [e] X.env=(false,eval e X.env) :: starEach [] X.env:=by rfl)
  (hsw:swapsWith (.Call (.Attribute (.Name x np) "append" apos) [.Call (.Attribute (.Name y np2) "pop" apos2) [e] [] cpos2] [] cpos) none pos.line X.env=pure false:=by rfl) :
  SS X Γ E (.Expr (.Call (.Attribute (.Name x np) "append" apos) [.Call (.Attribute (.Name y np2) "pop" apos2) [e] [] cpos2] [] cpos) pos) (jh i j L f):=by
 refine PS.post (sP (AO PySem.F.plainAttrs_list PySem.F.slot_list_append PySem.F.type_list_append mr (jG hN hv hd hcd)
  (aN (AO PySem.F.plainAttrs_list PySem.F.slot_list_pop PySem.F.type_list_pop BR (jG hN2 hv2 hd2 hcd2) (aN he bA hs2) hbase2 hfew2 hline2 hs2 rfl) bA hs) hbase hfew hline hs rfl) hsw) fun N σ H ⟨env,G,B,β,I,o⟩=>?_
 unfold jh at o
 by_cases hO:sF env[i]? =true/\sF env[j]? =true/\i≠j
 case neg=>rw[if_neg hO] at o;exact o.elim
 rw[if_pos hO] at o
 obtain⟨hO1,hO2,hij⟩:=hO
 obtain⟨ds0,q0⟩:=nU hO1
 obtain⟨es0,w0⟩:=nU hO2
 obtain⟨p,h1,_,_,_,xs,h5,_⟩:=I.slot i _ q0
 obtain⟨q,k1,_,_,_,ys,k5,_⟩:=I.slot j _ w0
 refine⟨_,h1,.inl ⟨rfl,xs,.inl (.inl h5)⟩,?_⟩
 refine⟨_,k1,.inl ⟨rfl,ys,.inl (.inl k5)⟩,?_⟩
 refine⟨env,G,B,β,I,cc o fun kd β' k v G' H' I' s' m' vo=>?_⟩
 cases ej:(bo L env)[j]? with
 |none=>rw[ej] at k;exact k.elim
 |some sj=>
  rw[ej] at k
  cases sj with
  |ow dj=>
   cases dj with
   |list es=>
    dsimp only at k
    cases ep:zM es kd with
    |none=>rw[ep] at k;exact k.elim
    |some pr=>
     obtain⟨d,es'⟩:=pr
     rw[ep] at k
     dsimp only at k
     unfold zM at ep
     cases kd <;> first | (cases ep;done) |skip
     rename_i ii
     dsimp only at ep
     split at ep
     ·rename_i hr
      cases eI:seqIndex? ii es.length with
      |none=>rw[eI] at ep;cases ep
      |some n=>
       rw[eI] at ep
       dsimp only at ep
       cases eD:es[n]? with
       |none=>rw[eD] at ep;cases ep
       |some d0=>
        rw[eD] at ep
        cases ep
        obtain rfl:=(vo.brw I.boxThere).int
        obtain⟨q',g1,_,_,_,zs,g5,g6⟩:=I'.slot j _ ej
        rw[k1] at g1;cases g1
        obtain⟨xv,ex,rx⟩:=g6.at eD
        refine⟨q,zs,ii,n,xv,rfl,rfl,g5,hr.1,hr.2,by rw[g6.len];exact eI,ex,?_⟩
        have I2:=I'.write hb ej k1 (o:=.lst (zs.eraseIdx n)) (d':=.list (es.eraseIdx n)) fun H2 e2 s2=>⟨_,e2,g6.eraseIdx n⟩
        obtain⟨ds,fs,eq,eg,k⟩:=rC k
        by_cases hz:ds.length < sizeLine
        case neg=>rw[if_neg hz] at eg;cases eg
        rw[if_pos hz] at eg
        cases eg
        obtain⟨p',f1,_,_,_,us,f5,f6⟩:=I2.slot i _ eq
        rw[h1] at f1;cases f1
        refine⟨p,us,xv,rfl,rfl,f5,by rw[f6.len];exact hz,?_⟩
        exact k B G' _ σ (I2.write hb eq h1 fun H2 e2 s2=>⟨_,e2,f6.snoc rx⟩) s'
     ·cases ep
   |_=>exact k.elim
  |_=>exact k.elim
end
def cP:List D->Int->FB
 | [.int m],β=>if 0 < m/\m < 1073741824 then .ok (.int (β % m)) false (β / m) else .bad
 |_,_=>.bad
theorem xA {ds:List D}{β:Int}(h:cP ds β≠.bad):∃m,ds= [.int m]/\0 < m/\m < 1073741824:=by
 unfold cP at h
 split at h
 ·rename_i m
  by_cases hh:0 < m/\m < 1073741824
  ·exact⟨m,rfl,hh.1,hh.2⟩
  ·rw[if_neg hh] at h;exact absurd rfl h
 ·exact absurd rfl h
theorem nY {m β:Int}(h0:0 < m)(h1:m < 1073741824):cP [.int m] β=.ok (.int (β % m)) false (β / m):=if_pos ⟨h0,h1⟩
def constsOf:List Expr->Option (List Int)
 | []=>some []
 | .Constant (.int i) _ _ :: es=>(constsOf es).map fun r=>i :: r
 |_=>none
def J5 (ns:List Int):VF (List D):=fun _ β=>.ok (ns.map PyData.int) β
theorem qB {X:Cx}{Γ:Fx}{E:XK}:∀{es:List Expr} {ns:List Int},constsOf es=some ns->SA X Γ E es (J5 ns) []
 | [],ns,h=>by
  have e:ns= []:=by unfold constsOf at h;exact (Option.some.inj h).symm
  subst e
  exact ah
 |e :: es,ns,h=>by
  unfold constsOf at h
  split at h
  ·cases ‹_ :: _= []›
  ·next i a b es' heq=>
   cases heq
   cases q:constsOf es with
   |none=>rw[q] at h;cases h
   |some r=>
    rw[q] at h
    have e2:i :: r=ns:=Option.some.inj h
    subst e2
    exact ae aw (qB q) rfl
  ·cases h
section
variable {P:Program}{w:World}{K:PySem.W.Frag}{mg:Str->Option Value}{base:Heap}
theorem Dk {X:Cx}{i j:Nat}{x y:Str}{px py pos:Pos}{k:Nat}(hN:X.N.Nodup)(hi:X.N[i]? =some x)(hj:X.N[j]? =some y)(hx:X.env.scope.names.lookup x=some .local)(hy:X.env.scope.names.lookup y=some .local)(hc:X.calm=true) :
  PG X (.Tuple [.Name x px,.Name y py] k pos) (C7 X.K 2 (oF (kT i) (oF (kT j) CD))):=
 oW hc (dq (cM hN hi (Or.inl hx) (Or.inr hx)) (dq (cM hN hj (Or.inl hy) (Or.inr hy)) l7))
theorem AL {b:Addr}{β m:Int}{H:Hp}{Q:VK}{G:Hp}(hb:H b=some (.lst [.int β]))(s:ar G H){p:Addr}(hp:H p=none)
  (kk:∀v G' H',iK (some b) H H'->H' b=some (.lst [.int (β / m)])->ar G G'->ar G' H'->(∀c,Mx H c->G c=none->G' c=none)->FV K H G' H' false (.int (β % m)) v->Q v H') (gb:G b=none) :
  Q (.int (β % m)) (upd (upd H p (.tup [.int (β / m),.int (β % m)])) b (.lst [.int (β / m)])):=by
 have hbp:b≠p:=aK hb hp
 refine kk _ G _ (fun c o e n=>?_) az (ar.refl _) (fun c o e=>?_) (fun c _ h=>h) (.int _)
 ·rw[ay (fun z=>n (by rw[z])),ay (aK e hp)];exact e
 ·rw[ay (fun z=>by rw[z,gb] at e;cases e),ay (aK (s c o e) hp)];exact s c o e
end
end L2

end

section
namespace L2
open PySem PySem.SeqAt PySem.Spec PyProof.Rows
theorem sQ {M:Model}{A:Around}{E:Value->Shared->Prop}{s:Shared}{β:Type}{b:Nat}(f:Nat->β->Sem (ForInStep β))(I:List Nat->β->Shared->Prop)(Q:β->Shared->Prop)
  (turn:∀x rest b s,I (x :: rest) b s->wpAny M A (f x b) (fun r s'=>match r with | .yield b'=>I rest b' s' | .done b'=>Q b' s') E s)
  (fin:∀b s,I [] b s->Q b s) (c:β) (h:I (List.range' 0 b) c s):wpAny M A (forIn [0:b] c f) Q E s:=by
 rw[Std.Legacy.Range.forIn_eq_forIn_range']
 simp only[Std.Legacy.Range.size,Nat.sub_zero,Nat.add_sub_cancel,Nat.div_one]
 exact wpAny_forIn_list f I Q turn fin _ c h
theorem qd (l:Addr)(items:Array Value)(n:Nat)(dd:Option Addr)(sl:Array (Option Value))(x:Value)(e:Value->Bool)(j:Nat)(hj:j < items.size)
  (hit:e items[j]=true) (hno:∀m (hm:m < items.size),m < j->e items[m]=false) :
  Meets (Builtin.«tuple.index» ⟨[.ref l,x],[]⟩)
   (fun A R s=>s.heap.get? l=some {cls:=.type "tuple",dict:=dd,data:=.seq items n,slots:=sl}/\(∀y,y∈items->EqAt A.in1 s y x (e y))/\R (.ok (.ret (.int j s.toks))) {s with toks:=s.toks + 1}):=
 .of_wp fun prog w A R s h=>by
  obtain⟨hp,g,d,tk,os⟩:=s;obtain⟨hl,he,h⟩:=h
  wp_walk using wpAny_loadPart' hl,sQ _ (fun rest b s'=>b.1=none/\s'=⟨hp,g,d,tk,os⟩/\∃i,i<=j/\rest=List.range' i (items.size - i)) _
  case turn=>
   rintro y rest b s' ⟨hb,rfl,i,hi,hr⟩
   obtain⟨m,hm⟩:∃m,items.size - i=m + 1:=⟨items.size - i - 1,by omega⟩
   rw[hm,List.range'_succ] at hr
   obtain⟨rfl,rfl⟩:=List.cons.inj hr
   have hlt:y < items.size:=by omega
   have e1:items[y]? =some items[y]:=by simp[hlt]
   simp only[e1]
   refine wpAny_bind (he _ (Array.getElem_mem hlt) prog w _ _ ?_)
   by_cases z:y=j
   ·subst z
    rw[hit]
    wp_walk
    exact⟨_,rfl,h⟩
   ·rw[hno y hlt (by omega)]
    wp_walk
    exact⟨rfl,rfl,y + 1,by omega,by congr 1;omega⟩
  case fin=>
   rintro b s' ⟨hb,rfl,i,hi,hr⟩
   obtain⟨m,hm⟩:∃m,items.size - i=m + 1:=⟨items.size - i - 1,by omega⟩
   rw[hm,List.range'_succ] at hr
   cases hr
  case h=>
   exact⟨rfl,rfl,0,Nat.zero_le _,by rw[Nat.min_self];rfl⟩
section
variable {K:PySem.W.Frag}{X:Cx}{G H:Hp}{Γ:Fx}{E:XK}{e a b c:Expr}{f fa fb fc:VF D}{L La Lb:List Nat}{md ma mb mc:Md}{pos apos cpos np:Pos}
def wY (k:Int):Value->Bool
 | .int i _=>i == k
 |_=>false
theorem lC {k:Int}:∀{ns:List Int} {us:List Value} (i:Nat) (h:i < us.length) (h2:i < ns.length),Vals (ns.map V.int) us->wY k us[i]=(ns[i] == k)
 | [],_,_,_,h2,_=>absurd h2 (Nat.not_lt_zero _)
 |n :: ns,_,0,_,_,.cons r _=>by obtain⟨t,rfl⟩:=r;rfl
 |n :: ns,_,i + 1,h,h2,.cons _ rs=>lC i (Nat.lt_of_succ_lt_succ h) (Nat.lt_of_succ_lt_succ h2) rs
theorem uH {k:Int}{t:Tok}(A:Around)(s:Shared):∀{ns:List Int} {us:List Value},Vals (ns.map V.int) us->∀y∈us,EqAt A s y (.int k t) (wY k y)
 | [],_,.nil,y,hy=>by cases hy
 |n :: ns,_,.cons r rs,y,hy=>by
  rcases List.mem_cons.mp hy with z |z
  ·subst z;obtain⟨t',rfl⟩:=r;exact EqAt.int_int n t' k t
  ·exact uH A s rs y z
def CL (K:PySem.W.Frag):V->List V->Hp->VK->Prop:=fun x vs H Q=>∃(a:Addr) (ns:List Int) (k:Int),x=.ref a/\vs= [.int k]/\fy K H a (ns.map V.int)/\k∈ns/\Q (.int (ns.idxOf k:Nat)) H
theorem yC:II X "tuple.index" (CL X.K):=by
 intro pins s σ H x vs v us Q I rx rv h
 obtain⟨a,ns,k,rfl,rfl,hq,hk,q⟩:=h
 cases rx
 obtain⟨u,rfl,ru⟩:=vals1 rv
 obtain⟨t,rfl⟩:=ru
 obtain⟨its,rs,pl,hz⟩:=I.tuple hq
 obtain⟨⟨cls,dd,data,sl⟩,ho,hc,n,hd⟩:=id pl
 simp only at hc hd
 subst hc hd
 have hj:ns.idxOf k < ns.length:=List.idxOf_lt_length_iff.mpr hk
 have hlen:its.length=ns.length:=by rw[<-rs.length,List.length_map]
 refine call_meets PySem.F.slot_tuple_index ⟨_,ho,rfl⟩ PySem.F.entry_tuple_index (PySem.F.args_tuple_index_2 _ _)
  (qd a its.toArray n dd sl (.int k t) (wY k) (ns.idxOf k) (by simpa[hlen] using hj) ?_ ?_) ⟨ho,fun y hy=>uH _ _ rs y (by simpa using hy),?_⟩
 ·have:=lC (k:=k) (ns.idxOf k) (by omega) hj rs
  simpa[List.getElem_idxOf hj] using this
 ·intro m hm hlt
  have hm':m < ns.length:=by simpa[hlen] using hm
  have hne:ns[m]≠k:=fun z=>by
   have:=List.not_of_lt_findIdx (p:=(· == k)) hlt
   simp[z] at this
  have:=lC (k:=k) m (by omega) hm' rs
  rw[beq_eq_false_iff_ne.mpr hne] at this;simpa using this
 ·exact⟨.int (ns.idxOf k:Nat),H,I.tok _,⟨_,rfl⟩,q⟩
theorem Inv.tupleP {pins:List (Addr×Obj)}{σ:St}{s:Shared}{p:Addr}{xs:List V}(I:Inv X pins σ H s)(h:fy X.K H p xs):s.TypeIs (.ref p) "tuple"/\∀a,Value.ref p=.ref a->∃ob,s.heap.get? a=some ob/\ob.dict=none:=by
 rcases h with h | ⟨o,its,n,hk,hc,hs,hz,r,hd⟩
 ·obtain⟨_,_,_,o,e,c,n,d,hd⟩:=h.ok I.hok
  exact⟨⟨o,e,c⟩,fun a z=>by cases z;exact⟨o,e,hd⟩⟩
 ·exact⟨⟨o,I.kIn p o hk,hc⟩,fun a z=>by cases z;exact⟨o,I.kIn p o hk,hd⟩⟩
def JQ (K:PySem.W.Frag)(r:V->List V->Hp->VK->Prop)(to:TE)(t:TA):TE:=fun σ H Q=>to σ H fun x H1=>(∃p xs,x=.ref p/\fy K H1 p xs)/\t σ H1 fun xs H2=>r x xs H2 Q
theorem Fy {o e:Expr}{es:List Expr}{to:TE}{t:TA}{name:Str}{apos cpos:Pos}{id:String}{r:V->List V->Hp->VK->Prop}(slot:Slot "tuple" name id)(hty:typeOf (.builtin id)=pure (.type "method_descriptor"))(hm:II X id r)(ho:PE X o to)(ha:PA X (e :: es) t)
  (hbase:attributeBase o name X.env (eval o X.env)=eval o X.env:=by rfl)
  (hfew:((backTo cpos (starEach (e :: es) X.env)).all (fun x=> !x.1) && (backToKw cpos (keywordEach [] X.env)).all (fun x=>x.1.isSome)
   && decide ((e :: es).length + ([]:List Keyword).length + (if ([]:List Keyword).isEmpty then 0 else 1) < 30))=true:=by rfl)
  (hline:(apos.endLine == cpos.line)=true:=by rfl) (hs:starEach (e :: es) X.env=(false,eval e X.env) :: starEach es X.env:=by rfl) (hplain:(backTo cpos (starEach es X.env)).any (·.1)=false:=by rfl) :
  PE X (.Call (.Attribute o name apos) (e :: es) [] cpos) (JQ X.K r to t):=by
 intro pins s σ H Q I h
 refine wpAny_Call_method_late hbase hfew hline rfl (cK (ho pins s σ H _ I h) fun v s1 ⟨x,H1,I1,r1,⟨p,ys,ex,hr⟩,q1⟩=>?_)
 subst ex
 cases r1
 obtain⟨h1,h2⟩:=I1.tupleP hr
 refine⟨"tuple",id,PySem.F.plainAttrs_tuple,slot,hty,h1,h2,?_⟩
 have hA:=ha cpos pins s1 σ H1 _ I1 q1
 rw[hs] at hA ⊢
 refine Calls.callWith_builtin (by show (false || (backTo cpos (starEach es X.env)).any (·.1))=false;rw[hplain] <;> rfl) (Calls.evalArgs_plain ?_)
 exact cK hA fun us s2 ⟨vs,H2,I2,r2,q2⟩=>hm pins s2 σ H2 (.ref p) vs (.ref p) us Q I2 rfl r2 q2
def gW:List D->Option (List Int)
 | []=>some []
 | .int i :: ds=>(gW ds).map (i :: ·)
 |_=>none
theorem mh:∀{ds:List D} {ns:List Int},gW ds=some ns->ds=ns.map PyData.int
 | [],ns,h=>by cases h;rfl
 | .int i :: ds,ns,h=>by
  unfold gW at h
  cases q:gW ds with
  |none=>rw[q] at h;cases h
  |some ms=>rw[q] at h;cases h;rw[mh q];rfl
 | .none :: _,_,h=>by cases h
 | .bool _ :: _,_,h=>by cases h
 | .str _ :: _,_,h=>by cases h
 | .list _ :: _,_,h=>by cases h
 | .tuple _ :: _,_,h=>by cases h
 | .dict _ :: _,_,h=>by cases h
theorem gR:∀ns:List Int,gW (ns.map PyData.int)=some ns
 | []=>rfl
 |n :: ns=>by show (gW (ns.map PyData.int)).map (n :: ·)=_;rw[gR ns];rfl
theorem pz:∀{ns:List Int} {xs:List V},b8 K G xs (ns.map PyData.int)->xs=ns.map V.int
 | [],_,.nil=>rfl
 |n :: ns,_,.cons r t=>by cases r;rw[pz t];rfl
def C8 (d y:D):Option D:=match d,y with
 | .tuple ds,.int k=>(match gW ds with
  |some ns=>if k∈ns then some (.int (ns.idxOf k:Nat)) else none
  |none=>none)
 |_,_=>none
def yu:D->Bool
 | .tuple _=>true
 |_=>false
def j9 (fa fb:VF D):VF D:=fun vs β=>(fa vs β).bnd fun x β1=>if yu x=true then (fb vs β1).bnd fun y β2=>R.of (C8 x y) β2 else .bad
theorem lR (hK:X.K=Γ.K)(ha:SE X Γ E a fa La ma)(hb:SE X Γ E b fb Lb mb)
  (hbase:attributeBase a "index" X.env (eval a X.env)=eval a X.env:=by rfl)
  (hfew:((backTo cpos (starEach [b] X.env)).all (fun x=> !x.1) && (backToKw cpos (keywordEach [] X.env)).all (fun x=>x.1.isSome)
   && decide ([b].length + ([]:List Keyword).length + (if ([]:List Keyword).isEmpty then 0 else 1) < 30))=true:=by rfl)
  (hline:(apos.endLine == cpos.line)=true:=by rfl) (hs:starEach [b] X.env=(false,eval b X.env) :: starEach [] X.env:=by rfl) :
  SE X Γ E (.Call (.Attribute a "index" apos) [b] [] cpos) (j9 fa fb) (La ++ Lb) .v:=by
 refine PE.post' (Fy PySem.F.slot_tuple_index PySem.F.type_tuple_index yC ha (aN hb bA hs) hbase hfew hline hs rfl) fun σ H Q ⟨env,G,B,β,I,o⟩=>?_
 refine⟨env,G,B,β,I,o.bnd.imp fun d1 β1 h x G1 H1 I1 s1 m1 vx=>?_⟩
 have vx:=vx.brw I.boxThere
 cases d1 with
 |tuple ds=>
  rw[if_pos (show yu (.tuple ds)=true from rfl)] at h
  obtain⟨p,xs,rfl,hq,r⟩:=vx.tuple I1.sub
  refine⟨⟨p,xs,rfl,by rw[hK];exact hq⟩,?_⟩
  refine⟨bo La env,G1,B,β1,I1,?_⟩
  rw[iC]
  refine h.bnd.imp fun d2 β2 h y G2 H2 I2 s2 m2 vy=>?_
  obtain⟨d,e,k⟩:=h.of
  have vy:=vy.brw I1.boxThere
  cases d2 with
  |int kk=>
   obtain rfl:=vy.int
   simp only[C8] at e
   cases q:gW ds with
   |none=>rw[q] at e;cases e
   |some ns=>
    rw[q] at e
    dsimp only at e
    split at e
    ·rename_i hk
     cases e
     have eds:=mh q
     subst eds
     have exs:=pz r
     subst exs
     have hq2:fy X.K H2 p (ns.map V.int):=by
      rw[hK]
      rcases hq with hq |hq
      ·rcases vx with vx | ⟨_,_,_,vx⟩
       ·cases vx with
        |tup g1 r9=>have z9:=pz r9;subst z9;exact (g1.grow (s2.trans I2.sub).grow)
       ·exact vx.elim
      ·exact .inr hq
     exact⟨p,ns,kk,rfl,rfl,hq2,hk,k _ G2 H2 (by rw[cR];exact I2) (s1.trans s2) (m1.trans m2) (.int _)⟩
    ·cases e
  |_=>simp only[C8] at e;cases e
 |_=>exact h.elim
def uI (t:Tg)(L:List Nat)(f:VF D):SF:=fun env β=>toS (f (vl env) β) fun d β'=>match dH t d (bo L env) with
 |some env'=>.nx env' β'
 |none=>.bad
theorem BW {t:Tg}{tg:Expr}(he:SE X Γ E e f L .v)(hg:SG X Γ tg t)(hs:swapsWithSole [tg] e pos.line X.env=pure false:=by rfl)(hw:swappedStores [tg] e X.env=pure none:=by rfl)
  (h1:(assignEach [tg] X.env).map (·.2)= [assign tg X.env]:=by rfl):SS X Γ E (.Assign [tg] e pos) (uI t L f):=by
 refine PS.post (mO he hg hs hw h1) fun N σ H ⟨env,G,B,β,I,o⟩=>?_
 refine⟨env,G,B,β,I,cc o fun d β' k v G' H' I' s' m' vo=>?_⟩
 cases q:dH t d (bo L env) with
 |none=>rw[q] at k;exact k.elim
 |some env'=>
  rw[q] at k
  exact⟨_,G',B,β',d,env',I',vo,q,fun σ' J=>k B G' H' σ' J s'⟩
abbrev Fx.at (Γ:Fx)(H0:Hp):Fx:=⟨Γ.K,H0,Γ.G0,Γ.par,Γ.ca,Γ.br,Γ.bx⟩
end
end L2

end

section

end

section
namespace L2
open PySem PySem.Spec PyProof.Rows
def sU:En->Bool
 | []=>true
 | .no :: env=>sU env
 | .fz _ :: env=>sU env
 |_=>false
theorem kF:∀{env:En} {i:Nat} {s:Sl},sU env=true->env[i]? =some s->s=.no\/∃d,s=.fz d
 | [],_,_,_,e=>by simp at e
 | .no :: env,0,_,_,e=>by simp at e;exact .inl e.symm
 | .fz d :: env,0,_,_,e=>by simp at e;exact .inr ⟨d,e.symm⟩
 | .no :: env,i + 1,s,h,e=>kF (env:=env) h (by simpa using e)
 | .fz d :: env,i + 1,s,h,e=>kF (env:=env) h (by simpa using e)
 | .ow _ :: _,_,_,h,_=>by cases h
 | .br _ :: _,_,_,h,_=>by cases h
 | .bx :: _,_,_,h,_=>by cases h
section
variable {X:Cx}{Γ:Fx}{E:XK}{m:SF}
theorem SR.drop {B:Option Addr}{G H:Hp}{σ:St}{env:En}{β:Int}(I:SR Γ B G H σ env β)(hf:sU env=true):SR (Fx.fn Γ.K H G Γ.ca) none G H σ env 0:=by
 refine⟨I.sub,ar.refl _,fun b _ h=>h,fun b o h _=>h,fun b h=>(by cases h),fun b h=>(by cases h),fun b h=>(by cases h),I.len,fun i s e=>?_,fun i j a d e h=>?_⟩
 ·rcases kF hf e with rfl | ⟨d,rfl⟩
  ·trivial
  ·exact I.slot i _ e
 ·rcases kF hf h with z | ⟨_,z⟩ <;> cases z
end
end L2

end

section

end

section
namespace L2
open PySem
section
variable {α γ:Type}
@[simp] theorem lg (a:α)(β:Int)(k:α->Int->R γ):(R.ok a β).bnd k=k a β:=rfl
@[simp] theorem IF (c:Str)(k:α->Int->R γ):(R.exc c:R α).bnd k=.exc c:=rfl
@[simp] theorem IJ (k:α->Int->R γ):(R.bad:R α).bnd k=.bad:=rfl
@[simp] theorem Je (a:α)(β:Int)(k:α->Int->R γ):(R.ok a β).okb k=k a β:=rfl
@[simp] theorem sE (a:α)(β:Int):R.of (some a) β=.ok a β:=rfl
@[simp] theorem of_none (β:Int):(R.of none β:R α)=.bad:=rfl
@[simp] theorem JB (a:α)(β:Int)(k:α->Int->SO):toS (.ok a β) k=k a β:=rfl
@[simp] theorem IG (c:Str)(k:α->Int->SO):toS (.exc c:R α) k=.exc c:=rfl
@[simp] theorem IS (k:α->Int->SO):toS (.bad:R α) k=.bad:=rfl
end
section
variable (f fa fb fc:VF D)(t u:VF Bool)(m m':SF)(vs:List Nv)(β:Int)(env:En)(i j:Nat)(L:List Nat)
@[simp] theorem EA:gv i vs β=R.of (dat vs[i]?) β:=rfl
@[simp] theorem wQ (d:D):dat (some (.da d))=some d:=rfl
@[simp] theorem I0 (d:D):cst d vs β=.ok d β:=rfl
@[simp] theorem Kf (g:D->Option D):f1 fa g vs β=(fa vs β).bnd fun x β1=>R.of (g x) β1:=rfl
@[simp] theorem Kd (g:D->D->Option D):f2 fa fb g vs β=(fa vs β).bnd fun x β1=>(fb vs β1).bnd fun y β2=>R.of (g x y) β2:=rfl
@[simp] theorem xl:ag vs β=.ok [] β:=rfl
@[simp] theorem cj (fr:VF (List D)):aa fa fr vs β=(fa vs β).bnd fun x β1=>(fr vs β1).bnd fun xs β2=>.ok (x :: xs) β2:=rfl
@[simp] theorem rQ:lI fa vs β=(fa vs β).bnd fun x β1=>R.of (EZ x) β1:=rfl
@[simp] theorem tD:td t vs β=(t vs β).bnd fun c β1=>.ok (!c) β1:=rfl
@[simp] theorem Gm:yO t u vs β=(t vs β).bnd fun c β1=>if c=true then u vs β1 else .ok false β1:=rfl
@[simp] theorem nS:kS t u vs β=(t vs β).bnd fun c β1=>if c=true then .ok true β1 else u vs β1:=rfl
@[simp] theorem J8 (n:Bool):tN fa n vs β=(fa vs β).bnd fun x β1=>.ok (if n then !CP x else CP x) β1:=rfl
@[simp] theorem JG:Ks t fa fb vs β=(t vs β).bnd fun c β1=>if c=true then fa vs β1 else fb vs β1:=rfl
@[simp] theorem eS (c:Bool){β1:Int}(h:fa vs β=.ok (.bool c) β1):cJ fa vs β=.ok c β1:=by unfold cJ;rw[h];rfl
@[simp] theorem vY:vl []= []:=rfl
@[simp] theorem tj (s:Sl):vl (s :: env)=s.val :: vl env:=rfl
@[simp] theorem v3 (d:D):(Sl.fz d).val=.da d:=rfl
@[simp] theorem JH (d:D):(Sl.ow d).val=.da d:=rfl
@[simp] theorem Jr:Sl.no.val=.no:=rfl
@[simp] theorem JS:Sl.bx.val=.bx:=rfl
@[simp] theorem IV:bo [] env=env:=rfl
@[simp] theorem G7:bo (i :: L) env=bo L (jc env i):=rfl
@[simp] theorem IW:aI m m' env β=(match m env β with
 | .nx env' β'=>m' env' β'
 |r=>r):=rfl
@[simp] theorem IZ:jV L t m m' env β=toS (t (vl env) β) fun c β'=>if c=true then m (bo L env) β' else m' (bo L env) β':=rfl
@[simp] theorem dQ:bO f env β=toS (f (vl env) β) fun d β'=>.rt d false β':=rfl
@[simp] theorem AZ:oR f env β=toS (f (vl env) β) fun d β'=>.rt d true β':=rfl
@[simp] theorem J0:lB env β=.nx env β:=rfl
@[simp] theorem dS:bw i L f env β=toS (f (vl env) β) fun d β'=>.nx ((bo L env).set i (.fz d)) β':=rfl
@[simp] theorem iU:il i L f env β=toS (f (vl env) β) fun d β'=>.nx ((bo L env).set i (.ow d)) β':=rfl
@[simp] theorem uD:m9 L f env β=toS (f (vl env) β) fun _ β'=>.nx (bo L env) β':=rfl
end
theorem av {m m':SF}{env env':En}{β β':Int}(h:m env β=.nx env' β'):aI m m' env β=m' env' β':=by unfold aI;rw[h]
theorem gE {m m':SF}{env:En}{β β':Int}{d:D}{b:Bool}(h:m env β=.rt d b β'):aI m m' env β=.rt d b β':=by unfold aI;rw[h]
theorem i8 {L:List Nat}{t:VF Bool}{m m':SF}{env:En}{β β':Int}(h:t (vl env) β=.ok true β'):jV L t m m' env β=m (bo L env) β':=by unfold jV;rw[h];rfl
theorem gm {L:List Nat}{t:VF Bool}{m m':SF}{env:En}{β β':Int}(h:t (vl env) β=.ok false β'):jV L t m m' env β=m' (bo L env) β':=by unfold jV;rw[h];rfl
theorem aA {F:List D->FR}{fr:VF (List D)}{vs:List Nv}{β β1:Int}{ds:List D}{d:D}{b:Bool}(h:fr vs β=.ok ds β1)(e:F ds=.ok d b):ao F fr vs β=.ok d β1:=by unfold ao;rw[h];dsimp only[R.bnd];rw[e]
theorem Aq {F:List D->FR}{fr:VF (List D)}{vs:List Nv}{β β1:Int}{ds:List D}{d:D}(h:fr vs β=.ok ds β1)(e:F ds=.ok d true):vm F fr vs β=.ok d β1:=by unfold vm;rw[h];dsimp only[R.bnd];rw[e]
theorem di {fa:VF D}{g:D->Option D}{vs:List Nv}{β β1:Int}{x d:D}(h:fa vs β=.ok x β1)(e:g x=some d):f1 fa g vs β=.ok d β1:=by unfold f1;rw[h];dsimp only[R.bnd];rw[e];rfl
theorem aG {fa fb:VF D}{g:D->D->Option D}{vs:List Nv}{β β1 β2:Int}{x y d:D}(h:fa vs β=.ok x β1)(h':fb vs β1=.ok y β2)(e:g x y=some d):f2 fa fb g vs β=.ok d β2:=by unfold f2;rw[h];dsimp only[R.bnd];rw[h'];dsimp only[R.bnd];rw[e];rfl
theorem iG {i:Nat}{F:List D->Int->FB}{fr:VF (List D)}{vs:List Nv}{β β1 β2:Int}{ds:List D}{d:D}{b:Bool}(hi:vZ vs i=true)(h:fr vs β=.ok ds β1)(e:F ds β1=.ok d b β2):k9 i F fr vs β=.ok d β2:=by unfold k9;rw[if_pos hi,h];dsimp only[R.bnd];rw[e]
theorem sz (n:Nat)(h:n<=1000):n<=sizeLine:=by rw[sizeLine_eq];omega
theorem Hj (n:Nat)(h:n<=1000):n < sizeLine:=by rw[sizeLine_eq];omega
theorem kJ {fr:VF (List D)}{vs:List Nv}{β β1:Int}{ds:List D}(h:fr vs β=.ok ds β1)(hz:ds.length<=1000):bI fr vs β=.ok (.tuple ds) β1:=by unfold bI;rw[h];exact if_pos (sz _ hz)
theorem fP {fr:VF (List D)}{vs:List Nv}{β β1:Int}{ds:List D}(h:fr vs β=.ok ds β1)(hz:ds.length<=1000):bK fr vs β=.ok (.list ds) β1:=by unfold bK;rw[h];exact if_pos (sz _ hz)
theorem wZ {i:Nat}{env:En}{β:Int}{g:List D->Option (List D)}{ds es:List D}(h:env[i]? =some (.ow (.list ds)))(e:g ds=some es):Fq i env β g=.nx (env.set i (.ow (.list es))) β:=by unfold Fq;rw[h];dsimp only;rw[e]
theorem me {i:Nat}{L:List Nat}{f:VF D}{env:En}{β β':Int}{ds:List D}{d:D}(hi:env[i]? =some (.ow (.list ds)))(hf:f (vl env) β=.ok d β')(hL:(bo L env)[i]? =some (.ow (.list ds)))(hz:ds.length<=1000):jY i L f env β=.nx ((bo L env).set i (.ow (.list (ds ++ [d])))) β':=by
 unfold jY
 rw[if_pos (by rw[hi];rfl),hf]
 exact wZ hL (if_pos (Hj _ hz))
theorem vQ {i j:Nat}{L:List Nat}{f:VF D}{env:En}{β β':Int}{ds es es':List D}{k d:D}(hi:env[i]? =some (.ow (.list ds)))(hj:env[j]? =some (.ow (.list es)))(hij:i≠j)(hf:f (vl env) β=.ok k β')(hL:bo L env=env)(hp:zM es k=some (d,es'))(hz:ds.length<=1000):jh i j L f env β=.nx ((env.set j (.ow (.list es'))).set i (.ow (.list (ds ++ [d])))) β':=by
 unfold jh
 rw[if_pos ⟨by rw[hi];rfl,by rw[hj];rfl,hij⟩,hf,hL]
 dsimp only[toS]
 rw[hj]
 dsimp only
 rw[hp]
 exact wZ (by rw[List.getElem?_set_ne (Ne.symm hij)];exact hi) (if_pos (Hj _ hz))
theorem ot {i:Nat}{Le Li:List Nat}{fe fi:VF D}{env:En}{β β1 β2:Int}{ds:List D}{d:D}{k:Int}{n:Nat}(he:fe (vl env) β=.ok d β1)(h1:(bo Le env)[i]? =some (.ow (.list ds)))(hi:fi (vl env) β1=.ok (.int k) β2)(h2:(bo (Le ++ Li) env)[i]? =some (.ow (.list ds)))(hk:tJ ds.length k=some n):lY i Le Li fe fi env β=.nx ((bo (Le ++ Li) env).set i (.ow (.list (ds.set n d)))) β2:=by
 unfold lY
 rw[he]
 dsimp only[toS]
 rw[if_pos (by rw[h1];rfl),hi]
 exact wZ h2 (by dsimp only;rw[hk];rfl)
theorem ph {t:Tg}{ft:VF Bool}{fe:VF D}{vs:List Nv}(g:D->Bool)(h:D->D):∀{ds:List D} {β:Int},(∀d,d∈ds->∃vs1,kX t d vs=some vs1/\ft vs1 β=.ok (g d) β/\(g d=true->fe vs1 β=.ok (h d) β))->gc t ft fe vs ds β=.ok ((ds.filter g).map h) β
 | [],β,_=>rfl
 |d :: ds,β,hh=>by
  obtain⟨vs1,e1,e2,e3⟩:=hh d (List.mem_cons_self ..)
  have ih:=ph (t:=t) (ft:=ft) (fe:=fe) (vs:=vs) g h (ds:=ds) (β:=β) fun d' hd=>hh d' (List.mem_cons_of_mem _ hd)
  unfold gc
  rw[e1]
  dsimp only
  rw[e2]
  dsimp only[R.okb]
  cases q:g d with
  |true=>
   rw[if_pos rfl,e3 q]
   dsimp only
   rw[ih,List.filter_cons_of_pos q];rfl
  |false=>
   rw[if_neg Bool.false_ne_true,ih,List.filter_cons_of_neg (by rw[q];exact Bool.false_ne_true)]
theorem vI {own:Nat}{ixs:List Nat}{t:Tg}{fi:VF (List D)}{ft:VF Bool}{fe:VF D}{vs:List Nv}{β β1:Int}{ds:List D}(g:D->Bool)(h:D->D)(hi:fi vs β=.ok ds β1)(hz:ds.length<=1000)
  (hh:∀d,d∈ds->∃vs1,kX t d (eY own ixs vs)=some vs1/\ft vs1 β1=.ok (g d) β1/\(g d=true->fe vs1 β1=.ok (h d) β1)):aM own ixs t fi ft fe vs β=.ok (.list ((ds.filter g).map h)) β1:=by
 unfold aM
 rw[hi]
 dsimp only[R.bnd]
 rw[if_pos (sz _ hz),ph g h hh];rfl
theorem q8 {own:Nat}{ixs:List Nat}{t:Tg}{fi:VF (List D)}{fe:VF D}{vs:List Nv}{β β1:Int}{ds:List D}(h:D->D)(hi:fi vs β=.ok ds β1)(hz:ds.length<=1000)
  (hh:∀d,d∈ds->∃vs1,kX t d (eY own ixs vs)=some vs1/\fe vs1 β1=.ok (h d) β1):aM own ixs t fi kB fe vs β=.ok (.list (ds.map h)) β1:=by
 rw[vI (ft:=kB) (fun _=>true) h hi hz fun d hd=>let ⟨vs1,e1,e2⟩:=hh d hd;⟨vs1,e1,rfl,fun _=>e2⟩]
 rw[List.filter_eq_self.mpr (fun _ _=>rfl)]
theorem cU {α:Type}{own:Nat}{ixs:List Nat}{t:Tg}{fi:VF (List D)}{fe:VF D}{vs:List Nv}{β β1:Int}{l:List α}{e:α->D}(h:α->D)(hi:fi vs β=.ok (l.map e) β1)(hz:l.length<=1000)
  (hh:∀x,x∈l->∃vs1,kX t (e x) (eY own ixs vs)=some vs1/\fe vs1 β1=.ok (h x) β1):aM own ixs t fi kB fe vs β=.ok (.list (l.map h)) β1:=by
 unfold aM
 rw[hi]
 dsimp only[R.bnd]
 rw[if_pos (sz _ (by rw[List.length_map];exact hz))]
 have key:∀m:List α,(∀x,x∈m->x∈l)->gc t kB fe (eY own ixs vs) (m.map e) β1=.ok (m.map h) β1:=by
  intro m
  induction m with
  |nil=>intro _;rfl
  |cons x m ih=>
   intro hm
   obtain⟨vs1,e1,e2⟩:=hh x (hm x (List.mem_cons_self ..))
   rw[List.map_cons]
   unfold gc
   rw[e1]
   dsimp only
   show (R.ok true β1).okb _=_
   dsimp only[R.okb]
   rw[if_pos rfl,e2]
   dsimp only
   rw[ih fun y hy=>hm y (List.mem_cons_of_mem _ hy)];rfl
 rw[key l fun _ h=>h];rfl
theorem cT {α:Type}{own:Nat}{ixs:List Nat}{t:Tg}{fi:VF (List D)}{ft:VF Bool}{fe:VF D}{vs:List Nv}{β β1:Int}{l:List α}{e:α->D}(g:α->Bool)(h:α->D)(hi:fi vs β=.ok (l.map e) β1)(hz:l.length<=1000)
  (hh:∀x,x∈l->∃vs1,kX t (e x) (eY own ixs vs)=some vs1/\ft vs1 β1=.ok (g x) β1/\(g x=true->fe vs1 β1=.ok (h x) β1)):aM own ixs t fi ft fe vs β=.ok (.list ((l.filter g).map h)) β1:=by
 unfold aM
 rw[hi]
 dsimp only[R.bnd]
 rw[if_pos (sz _ (by rw[List.length_map];exact hz))]
 have key:∀m:List α,(∀x,x∈m->x∈l)->gc t ft fe (eY own ixs vs) (m.map e) β1=.ok ((m.filter g).map h) β1:=by
  intro m
  induction m with
  |nil=>intro _;rfl
  |cons x m ih=>
   intro hm
   obtain⟨vs1,e1,e2,e3⟩:=hh x (hm x (List.mem_cons_self ..))
   have ih:=ih fun y hy=>hm y (List.mem_cons_of_mem _ hy)
   rw[List.map_cons]
   unfold gc
   rw[e1]
   dsimp only
   rw[e2]
   dsimp only[R.okb]
   cases q:g x with
   |true=>
    rw[if_pos rfl,e3 q]
    dsimp only
    rw[ih,List.filter_cons_of_pos q];rfl
   |false=>
    rw[if_neg Bool.false_ne_true,ih,List.filter_cons_of_neg (by rw[q];exact Bool.false_ne_true)]
 rw[key l fun _ h=>h];rfl
theorem cA {t:Tg}{m:SF}(Pv:Nat->En->Int->Prop):∀{ds:List D} {k:Nat} {env:En} {β:Int},Pv k env β->
  (∀i d env β,ds[i]? =some d->Pv (k + i) env β->∃env1,dH t d env=some env1/\∃env2 β2,m env1 β=.nx env2 β2/\Pv (k + i + 1) env2 β2)->∃env' β',jS t m ds env β=.nx env' β'/\Pv (k + ds.length) env' β'
 | [],k,env,β,h0,_=>⟨env,β,rfl,h0⟩
 |d :: ds,k,env,β,h0,hs=>by
  obtain⟨env1,e1,env2,β2,e2,h1⟩:=hs 0 d env β rfl h0
  obtain⟨env',β',e3,h2⟩:=cA Pv (t:=t) (m:=m) (ds:=ds) (k:=k + 1) h1 fun i d' en be hi hp=>by
   have:=hs (i + 1) d' en be (by simpa using hi) (by rw[show k + (i + 1)=k + 1 + i by omega];exact hp)
   rw[show k + (i + 1) + 1=k + 1 + i + 1 by omega] at this
   exact this
  refine⟨env',β',?_,by rw[List.length_cons,show k + (ds.length + 1)=k + 1 + ds.length by omega];exact h2⟩
  unfold jS
  rw[e1]
  dsimp only
  rw[e2]
  exact e3
theorem jD {L:List Nat}{t:VF Bool}{m:SF}(Pv:Nat->En->Int->Prop)(Dn:En->Int->Prop):∀{n k:Nat} {env:En} {β:Int},k < n->Pv k env β->
  (∀k env β,Pv k env β->∃c β1,t (vl env) β=.ok c β1/\((c=false/\Dn (bo L env) β1)\/(c=true/\∃env2 β2 k',m (bo L env) β1=.nx env2 β2/\k' < k/\Pv k' env2 β2)))->∃env' β',iN L t m n env β=.nx env' β'/\Dn env' β'
 | 0,k,env,β,hk,_,_=>by omega
 |n + 1,k,env,β,hk,h0,hs=>by
  obtain⟨c,β1,e1,hc⟩:=hs k env β h0
  unfold iN
  rw[e1]
  dsimp only[toS]
  rcases hc with⟨rfl,hd⟩ | ⟨rfl,env2,β2,k',e2,hl,h1⟩
  ·exact⟨_,_,rfl,hd⟩
  ·rw[if_pos rfl,e2]
   exact jD Pv Dn (n:=n) (k:=k') (by omega) h1 hs
end L2

end

section
namespace RM
open PySem L2
def oP:SF:=(bO (eV (f1 (gv 0) (iM "int")) (f1 (f1 (gv 0) (iM "bool")) BA)))
def oA (bP:List D->FR):SF:=(bO (eV (ao bP (aa (gv 0) ag)) (jv (cst (.int 0)) (gv 0) (gv 1) AU xB)))
def rf (bP:List D->FR):SF:=(bO (eV (ao bP (aa (gv 0) ag)) (jv (cst (.int 1)) (gv 0) (cst (.int 8)) AU AU)))
def qE (a8:List D->FR):SF:=(aI (jV ([] ++ ([] ++ [])) (kS (td (lI (f1 (gv 0) (iM "tuple")))) (cJ (f2 (f1 (gv 0) dP) (cst (.int 2)) (cq true))))
 (bO (cst (.bool false)))
 lB)
 (bO (eV (ao a8 (aa (f2 (gv 0) (cst (.int 0)) bQ) (aa (gv 1) ag))) (ao a8 (aa (f2 (gv 0) (cst (.int 1)) bQ) (aa (gv 1) ag))))))
def gx:SF:=(oR (aM 1 [0] (.nm 0) (dX (f2 (gv 0) (gv 0) dR)) kB (bI (aa (f2 (gv 0) (gv 1) zQ) (aa (f2 (gv 0) (gv 1) lb) ag)))))
def oq:SF:=(bO (f1 (aM 2 [] (.two 0 1) (bh (gv 0)) kB (f2 (gv 0) (gv 1) (cq false))) (bN fun bs=>bs.any id)))
def hJ (gP gM iX fu:List D->FR):SF:=(aI (jV ([] ++ ([] ++ [])) (kS (td (lI (f1 (gv 0) (iM "tuple")))) (cJ (f2 (f1 (gv 0) dP) (cst (.int 2)) (cq true))))
 (bO (cst (.bool false)))
 lB)
 (aI (bw 1 ([] ++ []) (f2 (gv 0) (cst (.int 0)) bQ))
 (aI (bw 2 ([] ++ []) (f2 (gv 0) (cst (.int 1)) bQ))
 (aI (jV (([1] ++ []) ++ []) (kS (td (lI (ao gP (aa (gv 1) ag)))) (td (lI (f1 (gv 2) (iM "tuple")))))
 (bO (cst (.bool false)))
 lB)
 (aI (jV ([] ++ [1]) (td (lI (f1 (aM 1 [1] (.nm 0) (bh (gv 2)) kB (ao gM (aa (gv 0) (aa (gv 1) ag)))) (bN fun bs=>bs.all id))))
 (bO (cst (.bool false)))
 lB)
 (bO (eV (f2 (gv 2) (ao iX (aa (gv 1) (aa (gv 2) ag))) (cq false)) (f1 (ao fu (aa (gv 2) ag)) BA))))))))
def gu (fC:List D->FR):SF:=(jV ([0] ++ []) (td (lI (ao fC (aa (gv 0) ag))))
 (fun env β=>toS ((aa (cst (.str "this is no order")) ag) (vl env) β) fun ds _=>if ds.length<=sizeLine then .exc "NoOrder" else .bad)
 lB)
def nu:SF:=(bO (eV (f2 (gv 1) (gv 2) (cq true)) (eV (f2 (bI (aa (gv 1) (aa (gv 2) ag))) (f2 (gv 0) (cst (.int 1)) bQ) (tK true)) (f2 (bI (aa (gv 2) (aa (gv 1) ag))) (f2 (gv 0) (cst (.int 1)) bQ) (tK true)))))
def fW:SF:=(aI (jV ([] ++ []) (cJ (f2 (gv 1) (f1 (gv 0) dP) xB))
 (bO (f2 (gv 0) (gv 1) bQ))
 lB)
 (bO (cst (.int 0))))
def jL:SF:=(aI (bw 2 [] (bK (J5 [48271,69621,16807,39373,30269,40014,40692,50021,61687,71993,83869,95561,30307]))) (aI (bw 3 ((((([] ++ []) ++ []) ++ ([] ++ ([] ++ []))) ++ ([] ++ [])) ++ ([] ++ ([] ++ []))) (f2 (f2 (f2 (f2 (f2 (gv 0) (cst (.int 2147483647)) lb) (cst (.int 12345)) cQ) (f2 (gv 2) (f2 (gv 1) (cst (.int 13)) lb) bQ) dR) (f2 (cst (.int 977)) (gv 1) dR) cQ) (f2 (cst (.int 7919)) (f2 (gv 1) (cst (.int 13)) zQ) dR) cQ))
 (aI (bw 3 ([] ++ []) (f2 (gv 3) (cst (.int 1000000007)) lb))
 (bO (f2 (f2 (f2 (f2 (gv 3) (gv 3) dR) (f2 (cst (.int 48271)) (gv 1) dR) cQ) (cst (.int 1000000007)) lb) (cst (.int 7)) zQ)))))
def jK (dJ fq:List D->FR):SF:=(aI (bw 2 ([0] ++ ([1] ++ [])) (ao dJ (aa (gv 0) (aa (gv 1) ag))))
 (aI (jV (([] ++ []) ++ []) (cJ (f2 (f2 (gv 2) (cst (.int 2)) lb) (cst (.int 0)) (cq false)))
 (oR (bK (aa (f2 (f1 (gv 2) D0) (cst (.int 2)) zQ) ag)))
 lB)
 (aI (bw 3 [] (cst (.int 0)))
 (aI (cN (.nm 4) [] (dX (cst (.int 40)))
 (bw 3 (([] ++ []) ++ ([2] ++ ([4] ++ []))) (f2 (f2 (gv 3) (cst (.int 142857143)) dR) (ao fq (aa (gv 2) (aa (gv 4) ag))) cQ)))
 (oR (bK (aa (gv 3) ag)))))))
def dv (aO:List D->Int->FB):SF:=(aI (il 2 [] (f1 (gv 1) Et))
 (aI (il 3 [] (bK ag))
 (aI (iN ([] ++ []) (cJ (f2 (gv 2) (bK ag) (cq true)))
 (jh 3 2 ([] ++ []) (k9 0 aO (aa (f1 (gv 2) dP) ag))) 1000)
 (pw 3))))
noncomputable def fG:SF:=(aI (bw 1 [] (f1 (gv 0) cx))
 (aI (bw 2 [] (f1 (cst (.int 1)) DC))
 (aI (iN ([] ++ []) (cJ (f2 (gv 2) (f1 (gv 1) dP) (cq true)))
 (aI (bw 2 [] (f1 (gv 1) dP))
 (aI (bw 3 [] (bK ag))
 (aI (cN (.two 4 5) [1] (bh (gv 1))
 (bw 3 ([] ++ ([] ++ [4])) (f2 (gv 3) (aM 2 [5,4] (.two 0 1) (bh (gv 1)) (cJ (f2 (gv 0) (gv 2) (cq false))) (bI (aa (gv 3) (aa (gv 1) ag)))) kR)))
 (bw 1 ([] ++ []) (f1 (f2 (gv 1) (gv 3) kR) cx))))) 1000)
 (bO (f1 (gv 1) jF)))))
def gG (cC:List D->FR)(aO aV:List D->Int->FB):SF:=(aI (bw 2 ([] ++ ([1] ++ [])) (f2 (cst (.int 1)) (k9 0 aO (aa (gv 1) ag)) cQ))
 (aI (bw 3 ([] ++ []) (k9 0 aV (aa (f1 (gv 2) eO) ag)))
 (aI (bw 4 (([] ++ ([] ++ ([] ++ ([] ++ [])))) ++ ([] ++ [])) (f2 (bK (aa (cst (.int 2)) (aa (cst (.int 3)) (aa (cst (.int 4)) (aa (cst (.int 7)) ag))))) (k9 0 aO (aa (cst (.int 4)) ag)) bQ))
 (aI (il 5 [] (bK ag))
 (aI (cN (.nm 6) [] (dX (gv 2))
 (cN (.nm 7) (([] ++ []) ++ []) (qO (f2 (gv 6) (cst (.int 1)) cQ) (gv 2))
 (jV (([4] ++ []) ++ []) (cJ (f2 (k9 0 aO (aa (gv 4) ag)) (cst (.int 0)) (cq false)))
 (jY 5 (([] ++ []) ++ (([] ++ []) ++ [])) (bI (aa (f2 (gv 3) (gv 6) bQ) (aa (f2 (gv 3) (gv 7) bQ) ag))))
 lB)))
 (bO (bI (aa (gv 2) (aa (ao cC (aa (gv 5) ag)) ag)))))))))
def nQ (aJ bq dM:List D->FR):SF:=(aI (m9 ([0] ++ []) (ao aJ (aa (gv 0) ag)))
 (oR (aM 2 [0] (.two 0 1) (bh (ao bq (aa (f2 (gv 0) (cst (.int 0)) bQ) ag))) (lI (ao dM (aa (gv 2) (aa (gv 0) (aa (gv 1) ag))))) (bI (aa (gv 0) (aa (gv 1) ag))))))
def jE:SF:=(aI (bw 3 ([] ++ []) (f2 (gv 0) (cst (.int 1)) bQ))
 (aI (jV ([] ++ [2]) (td (lI (f1 (aM 2 [1,2,3] (.two 0 1) (bh (gv 3)) (cJ (f2 (gv 1) (gv 2) (cq false))) (f2 (bI (aa (gv 0) (aa (gv 3) ag))) (gv 4) (tK false))) (bN fun bs=>bs.all id))))
 (bO (cst (.bool false)))
 lB)
 (bO (f1 (aM 2 [2,1,3] (.two 0 1) (bh (gv 3)) (cJ (f2 (gv 0) (gv 2) (cq false))) (f2 (bI (aa (gv 3) (aa (gv 1) ag))) (gv 4) (tK false))) (bN fun bs=>bs.all id)))))
def kW (eJ fA:List D->FR):SF:=(oR (aM 2 [0] (.two 0 1) (bh (ao eJ (aa (gv 0) ag))) (lI (ao fA (aa (gv 2) (aa (gv 0) (aa (gv 1) ag))))) (bI (aa (gv 0) (aa (gv 1) ag)))))
end RM

end

section
namespace RM
open PySem L2
def GU:D->Bool
 | .int _=>true
 |_=>false
def kn:List D->FR
 | [d]=>if c9 d=true then .bad else .ok (.bool (GU d)) false
 |_=>.bad
theorem rG {d:D}(h:c9 d=false):kn [d]=.ok (.bool (GU d)) false:=if_neg (by rw[h];exact Bool.false_ne_true)
theorem DK (ds:List D)(h:kn ds≠.bad):aZ 1 1 oP ds=kn ds:=by
 unfold kn at h
 split at h
 ·rename_i d
  cases q:c9 d with
  |true=>rw[q] at h;exact absurd rfl h
  |false=>
   rw[rG q]
   have e1:iM "int" d=some (.bool (Bc d "int")):=by unfold iM;rw[q];rfl
   have e2:iM "bool" d=some (.bool (Bc d "bool")):=by unfold iM;rw[q];rfl
   show fin (bO (eV (f1 (gv 0) (iM "int")) (f1 (f1 (gv 0) (iM "bool")) BA)) [.fz d] 0)=_
   unfold bO eV f1 gv
   simp only[tj,vY,v3,List.getElem?_cons_zero,wQ,sE,lg,e1,e2]
   cases d <;> rfl
 ·exact absurd rfl h
def iH (d:D)(n:Int):Bool:=match d with
 | .int i=>decide (0<=i/\i < n)
 |_=>false
def dD:List D->FR
 | [d,.int n]=>if c9 d=true then .bad else .ok (.bool (iH d n)) false
 |_=>.bad
theorem sZ {d:D}{n:Int}(h:c9 d=false):dD [d,.int n]=.ok (.bool (iH d n)) false:=if_neg (by rw[h];exact Bool.false_ne_true)
theorem uG {i lo n:Int}{vs:List Nv}{β:Int}{fa fb fc:VF D}{g':D->D->Option D}{q:Bool}(ha:fa vs β=.ok (.int lo) β)(hb:fb vs β=.ok (.int i) β)(hc:fc vs β=.ok (.int n) β)(hq:g' (.int i) (.int n)=some (.bool q)):jv fa fb fc AU g' vs β=.ok (.bool (decide (lo<=i) && q)) β:=by
 unfold jv
 rw[ha];dsimp only[R.bnd];rw[hb];dsimp only[R.bnd]
 show (match (some (PyData.bool (decide (lo<=i))):Option D) with
  |some (.bool true)=>_
  |some (.bool false)=>_
  |_=>_)=_
 by_cases h:lo<=i
 ·rw[decide_eq_true h]
  dsimp only
  rw[hc]
  dsimp only[R.bnd]
  rw[hq];rfl
 ·rw[decide_eq_false h];rfl
theorem Dz (ds:List D)(h:dD ds≠.bad):aZ 2 2 (oA kn) ds=dD ds:=by
 unfold dD at h
 split at h
 ·rename_i d n
  cases q:c9 d with
  |true=>rw[q] at h;exact absurd rfl h
  |false=>
   rw[sZ q]
   show fin (bO (eV (ao kn (aa (gv 0) ag)) (jv (cst (.int 0)) (gv 0) (gv 1) AU xB)) [.fz d,.fz (.int n)] 0)=_
   unfold bO eV ao
   simp only[tj,vY,v3,cj,xl,EA,List.getElem?_cons_zero,wQ,sE,lg,rG q]
   cases d with
   |int i=>
    show fin (toS (jv (cst (.int 0)) (gv 0) (gv 1) AU xB [.da (.int i),.da (.int n)] 0) _)=_
    rw[uG (lo:=0) (i:=i) (n:=n) rfl rfl rfl rfl]
    show FR.ok (.bool (decide (0<=i) && decide (i < n))) false=.ok (.bool (decide (0<=i/\i < n))) false
    rw[Bool.decide_and]
   |_=>rfl
 ·exact absurd rfl h
def Ea (d:D):Bool:=match d with
 | .int i=>decide (1<=i/\i<=8)
 |_=>false
def k6:List D->FR
 | [d]=>if c9 d=true then .bad else .ok (.bool (Ea d)) false
 |_=>.bad
theorem Az {d:D}(h:c9 d=false):k6 [d]=.ok (.bool (Ea d)) false:=if_neg (by rw[h];exact Bool.false_ne_true)
theorem GH (ds:List D)(h:k6 ds≠.bad):aZ 1 1 (rf kn) ds=k6 ds:=by
 unfold k6 at h
 split at h
 ·rename_i d
  cases q:c9 d with
  |true=>rw[q] at h;exact absurd rfl h
  |false=>
   rw[Az q]
   show fin (bO (eV (ao kn (aa (gv 0) ag)) (jv (cst (.int 1)) (gv 0) (cst (.int 8)) AU AU)) [.fz d] 0)=_
   unfold bO eV ao
   simp only[tj,vY,v3,cj,xl,EA,List.getElem?_cons_zero,wQ,sE,lg,rG q]
   cases d with
   |int i=>
    show fin (toS (jv (cst (.int 1)) (gv 0) (cst (.int 8)) AU AU [.da (.int i)] 0) _)=_
    rw[uG (lo:=1) (i:=i) (n:=8) rfl rfl rfl rfl]
    show FR.ok (.bool (decide (1<=i) && decide (i<=8))) false=.ok (.bool (decide (1<=i/\i<=8))) false
    rw[Bool.decide_and]
   |_=>rfl
 ·exact absurd rfl h
def pairF:List D->FR
 | [d,.int n]=>(match oo d with
  |some p=>.ok (.bool (decide ((0<=p.1/\p.1 < n)/\(0<=p.2/\p.2 < n)))) false
  |none=>.bad)
 |_=>.bad
theorem Ar (p:Pr)(n:Int):pairF [aC p,.int n]=.ok (.bool (decide ((0<=p.1/\p.1 < n)/\(0<=p.2/\p.2 < n)))) false:=rfl
theorem Fu (ds:List D)(h:pairF ds≠.bad):aZ 2 2 (qE dD) ds=pairF ds:=by
 unfold pairF at h
 split at h
 ·rename_i d n
  cases q:oo d with
  |none=>rw[q] at h;exact absurd rfl h
  |some p=>
   obtain rfl:=uE q
   rw[Ar]
   obtain⟨a,b⟩:=p
   show fin (toS (eV (ao dD (aa (f2 (gv 0) (cst (.int 0)) bQ) (aa (gv 1) ag))) (ao dD (aa (f2 (gv 0) (cst (.int 1)) bQ) (aa (gv 1) ag))) [.da (.tuple [.int a,.int b]),.da (.int n)] 0) fun d β'=>.rt d false β')=_
   have e1:ao dD (aa (f2 (gv 0) (cst (.int 0)) bQ) (aa (gv 1) ag)) [.da (.tuple [.int a,.int b]),.da (.int n)] 0=.ok (.bool (decide (0<=a/\a < n))) 0:=rfl
   have e2:ao dD (aa (f2 (gv 0) (cst (.int 1)) bQ) (aa (gv 1) ag)) [.da (.tuple [.int a,.int b]),.da (.int n)] 0=.ok (.bool (decide (0<=b/\b < n))) 0:=rfl
   unfold eV
   rw[e1]
   dsimp only[R.bnd]
   by_cases c:0<=a/\a < n
   ·rw[decide_eq_true c,e2]
    show FR.ok (.bool (decide (0<=b/\b < n))) false=.ok (.bool (decide ((0<=a/\a < n)/\(0<=b/\b < n)))) false
    simp[c]
   ·rw[decide_eq_false c]
    show FR.ok (.bool false) false=.ok (.bool (decide ((0<=a/\a < n)/\(0<=b/\b < n)))) false
    simp[c]
 ·exact absurd rfl h
def aE (n:Nat)(l:List Pr):D:=.tuple [.int n,.tuple (l.map aC)]
open Classical in
noncomputable def qA (f:Nat->List Pr->FR):D->FR:=fun d=>if h:∃nl:Nat×List Pr,d=aE nl.1 nl.2/\OM.Ord nl.1 nl.2 then f (Classical.choose h).1 (Classical.choose h).2 else .bad
theorem DX {p q:Pr}(h:aC p=aC q):p=q:=by
 obtain⟨a,b⟩:=p
 obtain⟨c,d⟩:=q
 unfold aC at h
 simp at h
 rw[h.1,h.2]
theorem nv:∀{l m:List Pr},l.map aC=m.map aC->l=m
 | [],[],_=>rfl
 | [],_ :: _,h=>by cases h
 |_ :: _,[],h=>by cases h
 |p :: l,q :: m,h=>by
  simp only[List.map_cons,List.cons.injEq] at h
  rw[DX h.1,nv h.2]
theorem Cs {n m:Nat}{l k:List Pr}(h:aE n l=aE m k):n=m/\l=k:=by
 unfold aE at h
 simp only[PyData.tuple.injEq,List.cons.injEq,PyData.int.injEq,and_true] at h
 exact⟨by omega,nv h.2⟩
theorem ve {f:Nat->List Pr->FR}{n:Nat}{l:List Pr}(O:OM.Ord n l):qA f (aE n l)=f n l:=by
 unfold qA
 have h:∃nl:Nat×List Pr,aE n l=aE nl.1 nl.2/\OM.Ord nl.1 nl.2:=⟨(n,l),rfl,O⟩
 rw[dif_pos h]
 obtain⟨e,_⟩:=Classical.choose_spec h
 obtain⟨e1,e2⟩:=Cs e
 rw[<-e1,<-e2]
theorem uk {f:Nat->List Pr->FR}{d:D}(h:qA f d≠.bad):∃n l,d=aE n l/\OM.Ord n l:=by
 unfold qA at h
 by_cases q:∃nl:Nat×List Pr,d=aE nl.1 nl.2/\OM.Ord nl.1 nl.2
 ·obtain⟨nl,e,O⟩:=q;exact⟨nl.1,nl.2,e,O⟩
 ·rw[dif_neg q] at h;exact absurd rfl h
noncomputable def c4:List D->FR
 | [.int n,d]=>(match lx d with
  |some ds=>(match gi ds with
   |some ps=>(open Classical in if 1<=n/\n<=8/\OM.Wn n.toNat ps then .ok (.tuple ((OM.b9 n.toNat (OM.Tr (OM.Mem ps))).map aC)) false else .bad)
   |none=>.bad)
  |none=>.bad)
 |_=>.bad
theorem Ct {n:Nat}{ps:List Pr}(h1:1<=n)(h8:n<=8)(w:OM.Wn n ps):c4 [.int n,.tuple (ps.map aC)]=.ok (.tuple ((OM.b9 n (OM.Tr (OM.Mem ps))).map aC)) false:=by
 unfold c4
 simp only[lx,hV]
 rw[if_pos ⟨by omega,by omega,by rw[Int.toNat_natCast];exact w⟩,Int.toNat_natCast]
def jO:List D->FR
 | [.tuple ds]=>(match gi ds with
  |some ps=>if ps.length<=1000 then .ok (.bool (ps.any fun p=>decide (p.1=p.2))) false else .bad
  |none=>.bad)
 |_=>.bad
theorem gQ {α:Type}(f:α->Bool):∀l:List α,kj (l.map fun x=>PyData.bool (f x))=some (l.map f)
 | []=>rfl
 |x :: l=>by
  show (kj (l.map fun x=>PyData.bool (f x))).map (f x :: ·)=_
  rw[gQ f l];rfl
theorem FI (ds:List D)(h:jO ds≠.bad):aZ 1 1 oq ds=jO ds:=by
 unfold jO at h
 split at h
 ·rename_i ds
  cases q:gi ds with
  |none=>rw[q] at h;exact absurd rfl h
  |some ps=>
   rw[q] at h
   dsimp only at h
   by_cases hz:ps.length<=1000
   case neg=>rw[if_neg hz] at h;exact absurd rfl h
   obtain rfl:=kH q
   have e:jO [.tuple (ps.map aC)]=.ok (.bool (ps.any fun p=>decide (p.1=p.2))) false:=by
    unfold jO;simp only[hV];rw[if_pos hz]
   rw[e]
   have ec:aM 2 [] (.two 0 1) (bh (gv 0)) kB (f2 (gv 0) (gv 1) (cq false)) [.da (.tuple (ps.map aC))] 0=.ok (.list (ps.map fun p=>PyData.bool (decide (p.1=p.2)))) 0:=by
    exact cU (l:=ps) (e:=aC) (fun p=>PyData.bool (decide (p.1=p.2))) rfl hz fun p hp=>⟨_,rfl,rfl⟩
   show fin (toS ((aM 2 [] (.two 0 1) (bh (gv 0)) kB (f2 (gv 0) (gv 1) (cq false)) [.da (.tuple (ps.map aC))] 0).bnd fun x β1=>R.of (bN (fun bs=>bs.any id) x) β1) fun d β'=>.rt d false β')=_
   rw[ec]
   simp only[lg,bN]
   rw[gQ]
   simp[fin,List.any_map]
 ·exact absurd rfl h
theorem qJ (p:Pr):SeqAt.shaped (aC p)=true:=rfl
theorem sR:∀l:List Pr,PyData.canLayAll0 (l.map aC)=true
 | []=>rfl
 |p :: l=>by
  show ((aC p).canLay0 && PyData.canLayAll0 (l.map aC))=true
  rw[sR l];rfl
theorem rS:∀l:List Pr,PyData.depthAll (l.map aC)<=1
 | []=>by show (0:Nat)<=1;omega
 |p :: l=>by
  show max (aC p).depth (PyData.depthAll (l.map aC))<=1
  have h1:(aC p).depth=1:=by simp[aC,PyData.depth,PyData.depthAll]
  have h2:=rS l
  omega
theorem oV (l:List Pr):SeqAt.shaped (.tuple (l.map aC))=true:=by
 unfold SeqAt.shaped
 have h1:(PyData.tuple (l.map aC)).canLay0=true:=by simp only[PyData.canLay0];exact sR l
 have h2:(PyData.tuple (l.map aC)).depth<=64:=by simp only[PyData.depth];have:=rS l;omega
 rw[h1,decide_eq_true h2];rfl
theorem oy (l:List Pr):SeqAt.shaped (.list (l.map aC))=true:=by
 unfold SeqAt.shaped
 have h1:(PyData.list (l.map aC)).canLay0=true:=by simp only[PyData.canLay0];exact sR l
 have h2:(PyData.list (l.map aC)).depth<=64:=by simp only[PyData.depth];have:=rS l;omega
 rw[h1,decide_eq_true h2];rfl
theorem Aj (p q:Pr):PyData.eqv (aC p) (aC q)=decide (p=q):=by
 obtain⟨a,b⟩:=p
 obtain⟨c,d⟩:=q
 simp only[aC,PyData.eqv,PyData.eqvAll,Bool.and_true]
 rw[Bool.eq_iff_iff]
 simp
theorem rZ:∀l m:List Pr,PyData.eqvAll (l.map aC) (m.map aC)=decide (l=m)
 | [],[]=>rfl
 | [],_ :: _=>rfl
 |_ :: _,[]=>rfl
 |p :: l,q :: m=>by
  show (PyData.eqv (aC p) (aC q) && PyData.eqvAll (l.map aC) (m.map aC))=_
  rw[Aj,rZ l m,Bool.eq_iff_iff]
  simp
theorem nP {n:Nat}{l:List Pr}(O:OM.Ord n l):l.length < 64:=by
 have h8:=O.hi
 have e:=O.closed
 by_cases h:l.length < 64
 ·exact h
 ·exfalso
  have h1:l.length<=n * n:=by rw[<-e];exact OM.Cp _ _
  have h2:n * n<=64:=Nat.mul_le_mul h8 h8
  have hn:n=8:=by
   by_cases h7:n<=7
   ·have:n * n<=7 * 7:=Nat.mul_le_mul h7 h7
    omega
   ·omega
  have hlen:l.length=n * n:=by subst hn;omega
  have hg:l=OM.bM n:=by
   refine OM.sub_eq O.ris (OM.jb n) (fun x hx=>OM.bt.mpr (O.wn x hx)) ?_
   rw[hlen];unfold OM.bM;simp
  have:((0:Int),(0:Int))∈l:=by rw[hg];exact OM.bt.mpr ⟨⟨by omega,by omega⟩,by omega,by omega⟩
  exact O.irr 0 this
theorem AK {n:Nat}(h1:1<=n)(h8:n<=8):k6 [.int n]=.ok (.bool true) false:=by
 rw[Az rfl]
 show FR.ok (.bool (decide (1<=(n:Int)/\(n:Int)<=8))) false=_
 rw[decide_eq_true (by omega)]
theorem ui (neg:Bool)(l m:List Pr):cq neg (.tuple (l.map aC)) (.tuple (m.map aC))=some (.bool (if neg then !decide (l=m) else decide (l=m))):=by
 unfold cq
 rw[oV,oV]
 simp only[Bool.and_self,if_true,PyData.eqv,rZ]
theorem o6 (neg:Bool)(l m:List Pr):cq neg (.list (l.map aC)) (.list (m.map aC))=some (.bool (if neg then !decide (l=m) else decide (l=m))):=by
 unfold cq
 rw[oy,oy]
 simp only[Bool.and_self,if_true,PyData.eqv,rZ]
theorem D5 {n:Nat}{l:List Pr}(O:OM.Ord n l):jO [.tuple (l.map aC)]=.ok (.bool false) false:=by
 have hl:=nP O
 unfold jO
 simp only[hV]
 rw[if_pos (by omega)]
 have:(l.any fun p=>decide (p.1=p.2))=false:=by
  rw[List.any_eq_false]
  intro p hp
  simp only[decide_eq_true_eq]
  intro e
  obtain⟨a,b⟩:=p
  simp only at e
  subst e
  exact O.irr a hp
 rw[this]
theorem y7 {n:Nat}{l:List Pr}(O:OM.Ord n l):aZ 3 1 (hJ k6 pairF c4 jO) [aE n l]=.ok (.bool true) false:=by
 have hl:=nP O
 show fin (hJ k6 pairF c4 jO [.fz (aE n l),.no,.no] 0)=_
 unfold hJ
 rw[av (env':=[.fz (aE n l),.no,.no]) (β':=0) (by rfl)]
 rw[av (env':=[.fz (aE n l),.fz (.int n),.no]) (β':=0) (by rfl)]
 rw[av (env':=[.fz (aE n l),.fz (.int n),.fz (.tuple (l.map aC))]) (β':=0) (by rfl)]
 have e4:ao k6 (aa (gv 1) ag) [.da (aE n l),.da (.int n),.da (.tuple (l.map aC))] 0=.ok (.bool true) 0:=aA rfl (AK O.lo O.hi)
 rw[av (env':=[.fz (aE n l),.fz (.int n),.fz (.tuple (l.map aC))]) (β':=0) ?h4]
 case h4=>
  refine gm ?_
  show kS (td (lI (ao k6 (aa (gv 1) ag)))) _ [.da (aE n l),.da (.int n),.da (.tuple (l.map aC))] 0=_
  rw[nS,tD,rQ,e4]
  rfl
 have e5:aM 1 [1] (.nm 0) (bh (gv 2)) kB (ao pairF (aa (gv 0) (aa (gv 1) ag))) [.da (aE n l),.da (.int n),.da (.tuple (l.map aC))] 0=.ok (.list (l.map fun _=>PyData.bool true)) 0:=by
  refine cU (l:=l) (e:=aC) (fun _=>PyData.bool true) rfl (by omega) fun p hp=>⟨_,rfl,?_⟩
  refine aA (b:=false) (ds:=[aC p,.int n]) rfl ?_
  rw[Ar,decide_eq_true (by have:=O.wn p hp;exact this)]
 rw[av (env':=[.fz (aE n l),.fz (.int n),.fz (.tuple (l.map aC))]) (β':=0) ?h5]
 case h5=>
  refine gm ?_
  show td (lI (f1 (aM 1 [1] (.nm 0) (bh (gv 2)) kB (ao pairF (aa (gv 0) (aa (gv 1) ag)))) (bN fun bs=>bs.all id))) [.da (aE n l),.da (.int n),.da (.tuple (l.map aC))] 0=_
  rw[tD,rQ,di (d:=.bool true) e5 (by simp only[bN];rw[gQ];simp)]
  rfl
 have e6:ao c4 (aa (gv 1) (aa (gv 2) ag)) [.da (aE n l),.da (.int n),.da (.tuple (l.map aC))] 0=.ok (.tuple (l.map aC)) 0:=aA rfl (by rw[Ct O.lo O.hi O.wn,O.closed])
 have e7:ao jO (aa (gv 2) ag) [.da (aE n l),.da (.int n),.da (.tuple (l.map aC))] 0=.ok (.bool false) 0:=aA rfl (D5 O)
 show fin (toS (eV (f2 (gv 2) (ao c4 (aa (gv 1) (aa (gv 2) ag))) (cq false)) (f1 (ao jO (aa (gv 2) ag)) BA) [.da (aE n l),.da (.int n),.da (.tuple (l.map aC))] 0) _)=_
 unfold eV
 rw[aG (d:=.bool true) (x:=.tuple (l.map aC)) rfl e6 (by rw[ui];simp)]
 dsimp only[R.bnd]
 rw[di (d:=.bool true) e7 rfl]
 rfl
noncomputable def dY:List D->FR
 | [d]=>qA (fun _ _=>.ok (.bool true) false) d
 |_=>.bad
theorem rg {n:Nat}{l:List Pr}(O:OM.Ord n l):dY [aE n l]=.ok (.bool true) false:=by simp only[dY];exact ve O
theorem wb (ds:List D)(h:dY ds≠.bad):aZ 3 1 (hJ k6 pairF c4 jO) ds=dY ds:=by
 unfold dY at h
 split at h
 ·obtain⟨n,l,rfl,O⟩:=uk h
  rw[y7 O,rg O]
 ·exact absurd rfl h
noncomputable def iu:List D->FR
 | [d]=>qA (fun _ _=>.ok .none false) d
 |_=>.bad
theorem pf {n:Nat}{l:List Pr}(O:OM.Ord n l):iu [aE n l]=.ok .none false:=by simp only[iu];exact ve O
theorem DH (ds:List D)(h:iu ds≠.bad):aZ 1 1 (gu dY) ds=iu ds:=by
 unfold iu at h
 split at h
 ·obtain⟨n,l,rfl,O⟩:=uk h
  rw[pf O]
  have e:ao dY (aa (gv 0) ag) [.da (aE n l)] 0=.ok (.bool true) 0:=aA (ds:=[aE n l]) rfl (rg O)
  show fin (gu dY [.fz (aE n l)] 0)=_
  unfold gu
  rw[gm (β':=0)]
  ·rfl
  ·show td (lI (ao dY (aa (gv 0) ag))) [.da (aE n l)] 0=_
   rw[tD,rQ,e];rfl
 ·exact absurd rfl h
end RM

end

section
namespace RM
open PySem L2
abbrev bZ (ns:List Int):D:=.dict [(.none,.list (ns.map PyData.int))]
theorem mY {i j:Int}(h: -(2 ^ 64) < i/\i < 2 ^ 64):dR (.int i) (.int j)=some (.int (i * j)):=if_pos (by dsimp only;rw[decide_eq_true h.1,decide_eq_true h.2];rfl)
theorem F0 {i j:Int}(h: -(2 ^ 64) < j/\j < 2 ^ 64):dR (.int i) (.int j)=some (.int (i * j)):=if_pos (by dsimp only;rw[decide_eq_true h.1,decide_eq_true h.2,Bool.and_self,Bool.or_true])
theorem mE {i j:Int}(h:0 < j):lb (.int i) (.int j)=some (.int (i % j)):=if_pos (decide_eq_true h)
theorem yi {i j:Int}(h:0 < j)(h2:j < 1073741824):zQ (.int i) (.int j)=some (.int (i / j)):=if_pos (by dsimp only;rw[decide_eq_true h,decide_eq_true h2];rfl)
theorem du {α β:Type}(f:α->β)(l:List α)(i:Int):jN (l.map f) i=(jN l i).map f:=by
 unfold jN
 rw[List.length_map]
 cases tJ l.length i with
 |none=>rfl
 |some j=>simp
theorem jB {α:Type}{l:List α}{k:Nat}(h:k < l.length):jN l (k:Int)=some l[k]:=lK (List.getElem?_eq_getElem h)
theorem FF {fa fb:VF D}{vs:List Nv}{β β1 β2:Int}{i j:Int}(h:fa vs β=.ok (.int i) β1)(h':fb vs β1=.ok (.int j) β2):cJ (f2 fa fb xB) vs β=.ok (decide (i < j)) β2:=eS _ _ _ _ (aG h h' rfl)
theorem dw {neg:Bool}{fa fb:VF D}{vs:List Nv}{β β1 β2:Int}{i j:Int}(h:fa vs β=.ok (.int i) β1)(h':fb vs β1=.ok (.int j) β2):cJ (f2 fa fb (cq neg)) vs β=.ok (if neg then !decide (i=j) else decide (i=j)) β2:=by
 refine eS _ _ _ _ (aG h h' ?_)
 cases neg <;> rfl
theorem E5 (ns:List Int)(k:Nat):∃z,aZ 2 2 fW [bZ ns,.int k]=.ok (.int z) false:=by
 show ∃z,fin (fW [.fz (bZ ns),.fz (.int k)] 0)=.ok (.int z) false
 unfold fW
 have e:cJ (f2 (gv 1) (f1 (gv 0) dP) xB) [.da (bZ ns),.da (.int k)] 0=.ok (decide ((k:Int) < (ns.map PyData.int).length)) 0:=FF rfl rfl
 by_cases h:k < ns.length
 ·refine⟨ns[k],?_⟩
  rw[decide_eq_true (by simp;exact h)] at e
  rw[gE (d:=.int ns[k]) (b:=false) (β':=0)]
  ·rfl
  ·rw[i8 e]
   show toS (f2 (gv 0) (gv 1) bQ [.da (bZ ns),.da (.int k)] 0) _=_
   rw[aG (x:=bZ ns) (y:=.int k) (d:=.int ns[k]) (β1:=0) (β2:=0) rfl rfl]
   ·rfl
   ·show jN (ns.map PyData.int) (k:Int)=_
    rw[du,jB h];rfl
 ·refine⟨0,?_⟩
  rw[decide_eq_false (by simp;omega)] at e
  rw[av (env':=[.fz (bZ ns),.fz (.int k)]) (β':=0)]
  ·rfl
  ·rw[gm e];rfl
noncomputable def xC:List D->FR:=aZ 2 2 fW
noncomputable def Cd:List D->FR:=aZ 4 2 jL
abbrev vN:List Int:=[48271,69621,16807,39373,30269,40014,40692,50021,61687,71993,83869,95561,30307]
theorem GW (c k:Int):∃z,Cd [.int c,.int k]=.ok (.int z) false:=by
 show ∃z,fin (jL [.fz (.int c),.fz (.int k),.no,.no] 0)=.ok (.int z) false
 unfold jL
 rw[av (env':=[.fz (.int c),.fz (.int k),.fz (.list (vN.map PyData.int)),.no]) (β':=0) (by rfl)]
 obtain⟨j,hj⟩:∃j:Nat,k % 13=j:=⟨(k % 13).toNat,by omega⟩
 have hj13:j < vN.length:=by show j < 13;omega
 have e1:f2 (f2 (f2 (f2 (f2 (gv 0) (cst (.int 2147483647)) lb) (cst (.int 12345)) cQ) (f2 (gv 2) (f2 (gv 1) (cst (.int 13)) lb) bQ) dR) (f2 (cst (.int 977)) (gv 1) dR) cQ) (f2 (cst (.int 7919)) (f2 (gv 1) (cst (.int 13)) zQ) dR) cQ [.da (.int c),.da (.int k),.da (.list (vN.map PyData.int)),.no] 0
   =.ok (.int ((c % 2147483647 + 12345) * vN[j] + 977 * k + 7919 * (k / 13))) 0:=by
  refine aG (aG (aG (aG (aG (x:=.int c) (y:=.int 2147483647) rfl rfl (mE (by omega))) rfl rfl) (aG (x:=.list (vN.map PyData.int)) rfl (aG (x:=.int k) (y:=.int 13) rfl rfl (mE (by omega))) (d:=.int vN[j]) ?_) (mY ⟨by omega,by omega⟩)) (aG (x:=.int 977) (y:=.int k) rfl rfl (mY ⟨by omega,by omega⟩)) rfl) (aG (x:=.int 7919) rfl (aG (x:=.int k) (y:=.int 13) rfl rfl (yi (by omega) (by omega))) (mY ⟨by omega,by omega⟩)) rfl
  show jN (vN.map PyData.int) (k % 13)=_
  rw[hj,du,jB hj13];rfl
 generalize ((c % 2147483647 + 12345) * vN[j] + 977 * k + 7919 * (k / 13))=st at e1
 rw[av (env':=[.fz (.int c),.fz (.int k),.fz (.list (vN.map PyData.int)),.fz (.int st)]) (β':=0) ?h]
 case h=>
  show toS (f2 _ _ cQ [.da (.int c),.da (.int k),.da (.list (vN.map PyData.int)),.no] 0) _=_
  rw[e1];rfl
 have e2:f2 (gv 3) (cst (.int 1000000007)) lb [.da (.int c),.da (.int k),.da (.list (vN.map PyData.int)),.da (.int st)] 0=.ok (.int (st % 1000000007)) 0:=aG rfl rfl (mE (by omega))
 rw[av (env':=[.fz (.int c),.fz (.int k),.fz (.list (vN.map PyData.int)),.fz (.int (st % 1000000007))]) (β':=0) ?h2]
 case h2=>
  show toS (f2 (gv 3) (cst (.int 1000000007)) lb [.da (.int c),.da (.int k),.da (.list (vN.map PyData.int)),.da (.int st)] 0) _=_
  rw[e2];rfl
 have hb: -(2 ^ 64) < st % 1000000007/\st % 1000000007 < 2 ^ 64:=⟨by omega,by omega⟩
 generalize st % 1000000007=u at hb
 have e3:f2 (f2 (f2 (f2 (gv 3) (gv 3) dR) (f2 (cst (.int 48271)) (gv 1) dR) cQ) (cst (.int 1000000007)) lb) (cst (.int 7)) zQ [.da (.int c),.da (.int k),.da (.list (vN.map PyData.int)),.da (.int u)] 0=.ok (.int ((u * u + 48271 * k) % 1000000007 / 7)) 0:=
  aG (aG (aG (aG (x:=.int u) (y:=.int u) rfl rfl (mY hb)) (aG (x:=.int 48271) (y:=.int k) rfl rfl (mY ⟨by omega,by omega⟩)) rfl) rfl (mE (by omega))) rfl (yi (by omega) (by omega))
 refine⟨(u * u + 48271 * k) % 1000000007 / 7,?_⟩
 show fin (toS (f2 _ (cst (.int 7)) zQ [.da (.int c),.da (.int k),.da (.list (vN.map PyData.int)),.da (.int u)] 0) _)=_
 rw[e3];rfl
noncomputable def EV:List D->FR:=aZ 5 2 (jK xC Cd)
theorem HJ (ns:List Int)(k:Nat):∃z,EV [bZ ns,.int k]=.ok (.list [.int z]) true:=by
 obtain⟨c,hc⟩:=E5 ns k
 show ∃z,fin (jK xC Cd [.fz (bZ ns),.fz (.int k),.no,.no,.no] 0)=.ok (.list [.int z]) true
 unfold jK
 have e0:ao xC (aa (gv 0) (aa (gv 1) ag)) [.da (bZ ns),.da (.int k),.no,.no,.no] 0=.ok (.int c) 0:=aA rfl hc
 rw[av (env':=[.fz (bZ ns),.fz (.int k),.fz (.int c),.no,.no]) (β':=0) ?h]
 case h=>
  show toS (ao xC _ [.da (bZ ns),.da (.int k),.no,.no,.no] 0) _=_
  rw[e0];rfl
 have e1:cJ (f2 (f2 (gv 2) (cst (.int 2)) lb) (cst (.int 0)) (cq false)) [.da (bZ ns),.da (.int k),.da (.int c),.no,.no] 0=.ok (decide (c % 2=0)) 0:=dw (neg:=false) (aG rfl rfl (mE (by omega))) rfl
 by_cases h:c % 2=0
 ·rw[decide_eq_true h] at e1
  refine⟨(if c < 0 then -c else c) / 2,?_⟩
  rw[gE (d:=.list [.int ((if c < 0 then -c else c) / 2)]) (b:=true) (β':=0)]
  ·rfl
  ·rw[i8 e1]
   show toS (bK (aa (f2 (f1 (gv 2) D0) (cst (.int 2)) zQ) ag) [.da (bZ ns),.da (.int k),.da (.int c),.no,.no] 0) _=_
   rw[fP (ds:=[.int ((if c < 0 then -c else c) / 2)]) (β1:=0)]
   ·rfl
   ·have e2:f2 (f1 (gv 2) D0) (cst (.int 2)) zQ [.da (bZ ns),.da (.int k),.da (.int c),.no,.no] 0=.ok (.int ((if c < 0 then -c else c) / 2)) 0:=aG (di (x:=.int c) rfl rfl) rfl (yi (by omega) (by omega))
    rw[cj,e2];rfl
   ·simp
 ·rw[decide_eq_false h] at e1
  rw[av (env':=[.fz (bZ ns),.fz (.int k),.fz (.int c),.no,.no]) (β':=0) (by rw[gm e1];rfl)]
  rw[av (env':=[.fz (bZ ns),.fz (.int k),.fz (.int c),.fz (.int 0),.no]) (β':=0) (by rfl)]
  obtain⟨env',β',el,z,x,rfl,rfl⟩:=cA (t:=.nm 4) (m:=bw 3 (([] ++ []) ++ ([2] ++ ([4] ++ []))) (f2 (f2 (gv 3) (cst (.int 142857143)) dR) (ao Cd (aa (gv 2) (aa (gv 4) ag))) cQ)) (ds:=cu 0 40) (k:=0)
   (fun _ env β=>∃(z:Int) (x:Sl),env= [.fz (bZ ns),.fz (.int k),.fz (.int c),.fz (.int z),x]/\β=0) (env:=[.fz (bZ ns),.fz (.int k),.fz (.int c),.fz (.int 0),.no]) (β:=0) ⟨0,.no,rfl,rfl⟩ (by
    rintro i d env β hi ⟨z,x,rfl,rfl⟩
    obtain⟨j,rfl⟩:∃j:Int,d=.int j:=by
     unfold cu at hi
     rw[List.getElem?_map] at hi
     cases q:(List.range 40)[i]? with
     |none=>rw[q] at hi;cases hi
     |some j=>rw[q] at hi;cases hi;exact⟨_,rfl⟩
    obtain⟨y,hy⟩:=GW c j
    refine⟨_,rfl,_,_,?_,z * 142857143 + y,.fz (.int j),rfl,rfl⟩
    show toS (f2 (f2 (gv 3) (cst (.int 142857143)) dR) (ao Cd (aa (gv 2) (aa (gv 4) ag))) cQ [.da (bZ ns),.da (.int k),.da (.int c),.da (.int z),.da (.int j)] 0) _=_
    rw[aG (d:=.int (z * 142857143 + y)) (aG (x:=.int z) (y:=.int 142857143) (β1:=0) (β2:=0) rfl rfl (F0 ⟨by omega,by omega⟩)) (aA (ds:=[.int c,.int j]) (β1:=0) rfl hy) rfl]
    rfl)
  refine⟨z,?_⟩
  rw[av (env':=[.fz (bZ ns),.fz (.int k),.fz (.int c),.fz (.int z),x]) (β':=0) ?h2]
  case h2=>exact el
  show fin (toS (bK (aa (gv 3) ag) [.da (bZ ns),.da (.int k),.da (.int c),.da (.int z),x.val] 0) _)=_
  rw[fP (ds:=[.int z]) (β1:=0) rfl (by simp)]
  rfl
noncomputable def kl:List D->Int->FB:=ud 4 1 (dv cP)
theorem lay_ints:∀ns:List Int,PyData.canLayAll0 (ns.map PyData.int)=true
 | []=>rfl
 |n :: ns=>by
  show ((PyData.int n).canLay0 && PyData.canLayAll0 (ns.map PyData.int))=true
  rw[lay_ints ns];rfl
theorem ox:∀ns:List Int,PyData.depthAll (ns.map PyData.int)=0
 | []=>rfl
 |n :: ns=>by
  show max (PyData.int n).depth (PyData.depthAll (ns.map PyData.int))=0
  rw[ox ns];rfl
theorem shaped_ints (ns:List Int):SeqAt.shaped (.list (ns.map PyData.int))=true:=by
 unfold SeqAt.shaped
 have h1:(PyData.list (ns.map PyData.int)).canLay0=true:=by simp only[PyData.canLay0];exact lay_ints ns
 have h2:(PyData.list (ns.map PyData.int)).depth<=64:=by simp only[PyData.depth];rw[ox];omega
 rw[h1,decide_eq_true h2];rfl
theorem pk:∀l m:List Int,PyData.eqvAll (l.map PyData.int) (m.map PyData.int)=decide (l=m)
 | [],[]=>rfl
 | [],_ :: _=>rfl
 |_ :: _,[]=>rfl
 |p :: l,q :: m=>by
  show ((p == q) && PyData.eqvAll (l.map PyData.int) (m.map PyData.int))=_
  rw[pk l m,Bool.eq_iff_iff]
  simp
theorem uf (neg:Bool)(l m:List Int):cq neg (.list (l.map PyData.int)) (.list (m.map PyData.int))=some (.bool (if neg then !decide (l=m) else decide (l=m))):=by
 unfold cq
 rw[shaped_ints,shaped_ints]
 simp only[Bool.and_self,if_true,PyData.eqv,pk]
theorem hU {α:Type}:∀{l:List α} {k:Nat} {x:α},l[k]? =some x->(x :: l.eraseIdx k).Perm l
 | [],_,_,h=>by simp at h
 |y :: l,0,x,h=>by simp at h;subst h;exact List.Perm.refl _
 |y :: l,k + 1,x,h=>by
  have h:l[k]? =some x:=by simpa using h
  have ih:=hU h
  show (x :: y :: l.eraseIdx k).Perm (y :: l)
  exact (List.Perm.swap y x _).trans (ih.cons y)
theorem qX {α β:Type}(f:α->β):∀(l:List α) (k:Nat),(l.map f).eraseIdx k=(l.eraseIdx k).map f
 | [],_=>rfl
 |_ :: _,0=>rfl
 |x :: l,k + 1=>by simp[qX f l k]
theorem yj (ns:List Int)(hz:ns.length<=100)(β:Int):∃(ms:List Int) (β':Int),kl [.list (ns.map PyData.int)] β=.ok (.list (ms.map PyData.int)) true β'/\ms.Perm ns:=by
 show ∃(ms:List Int) (β':Int),DS (dv cP [.bx,.fz (.list (ns.map PyData.int)),.no,.no] β)=.ok (.list (ms.map PyData.int)) true β'/\ms.Perm ns
 unfold dv
 rw[av (env':=[.bx,.fz (.list (ns.map PyData.int)),.ow (.list (ns.map PyData.int)),.no]) (β':=β) (by rfl)]
 have ez:bK ag [Nv.bx,.da (.list (ns.map PyData.int)),.da (.list (ns.map PyData.int)),.no] β=.ok (.list []) β:=fP rfl (by simp)
 rw[av (env':=[.bx,.fz (.list (ns.map PyData.int)),.ow (.list (ns.map PyData.int)),.ow (.list [])]) (β':=β) ?h]
 case h=>
  show toS (bK ag [Nv.bx,.da (.list (ns.map PyData.int)),.da (.list (ns.map PyData.int)),.no] β) _=_
  rw[ez];rfl
 obtain⟨env',β',ew,ms,rfl,hp⟩:=jD (L:=[] ++ []) (t:=cJ (f2 (gv 2) (bK ag) (cq true))) (m:=jh 3 2 ([] ++ []) (k9 0 cP (aa (f1 (gv 2) dP) ag)))
  (fun k env β=>∃ls ms:List Int,env= [.bx,.fz (.list (ns.map PyData.int)),.ow (.list (ls.map PyData.int)),.ow (.list (ms.map PyData.int))]/\(ms ++ ls).Perm ns/\k=ls.length)
  (fun env β=>∃ms:List Int,env= [.bx,.fz (.list (ns.map PyData.int)),.ow (.list []),.ow (.list (ms.map PyData.int))]/\ms.Perm ns) (n:=1000) (k:=ns.length) (env:=[.bx,.fz (.list (ns.map PyData.int)),.ow (.list (ns.map PyData.int)),.ow (.list [])]) (β:=β) (by omega) ⟨ns,[],rfl,by simp,rfl⟩ (by
   rintro k env β ⟨ls,ms,rfl,hp,rfl⟩
   have e1:bK ag [Nv.bx,.da (.list (ns.map PyData.int)),.da (.list (ls.map PyData.int)),.da (.list (ms.map PyData.int))] β=.ok (.list (([]:List Int).map PyData.int)) β:=fP rfl (by simp)
   have et:cJ (f2 (gv 2) (bK ag) (cq true)) [Nv.bx,.da (.list (ns.map PyData.int)),.da (.list (ls.map PyData.int)),.da (.list (ms.map PyData.int))] β=.ok (!decide (ls= [])) β:=
    eS _ _ _ _ (aG (x:=.list (ls.map PyData.int)) rfl e1 (by rw[uf];rfl))
   refine⟨_,_,et,?_⟩
   have hlen:=hp.length_eq
   rw[List.length_append] at hlen
   cases ls with
   |nil=>exact .inl ⟨rfl,ms,rfl,by simpa using hp⟩
   |cons y ys=>
    refine .inr ⟨rfl,?_⟩
    have hm:(0:Int) < ((y :: ys).length:Nat)/\(((y :: ys).length:Nat):Int) < 1073741824:=by
     have:(y :: ys).length<=100:=by omega
     constructor
     ·simp
     ·omega
    obtain⟨j,hj⟩:∃j:Nat,β % (((y :: ys).length:Nat):Int)=j:=⟨(β % (((y :: ys).length:Nat):Int)).toNat,by have:=Int.emod_nonneg β (b:=(((y :: ys).length:Nat):Int)) (by omega);omega⟩
    have hj2:j < (y :: ys).length:=by have:=Int.emod_lt_of_pos β hm.1;omega
    have ef:k9 0 cP (aa (f1 (gv 2) dP) ag) [Nv.bx,.da (.list (ns.map PyData.int)),.da (.list ((y :: ys).map PyData.int)),.da (.list (ms.map PyData.int))] β=.ok (.int (j:Int)) (β / (((y :: ys).length:Nat):Int)):=by
     refine iG (ds:=[.int (((y :: ys).length:Nat):Int)]) (b:=false) (by rfl) ?_ (by rw[nY hm.1 hm.2,hj])
     show R.ok [PyData.int ((((y :: ys).map PyData.int).length:Nat):Int)] β=_
     rw[List.length_map]
    have hpop:zM ((y :: ys).map PyData.int) (.int (j:Int))=some (.int (y :: ys)[j],((y :: ys).eraseIdx j).map PyData.int):=by
     unfold zM
     dsimp only
     rw[if_pos ⟨by omega,by omega⟩]
     have es:seqIndex? (j:Int) ((y :: ys).map PyData.int).length=some j:=by
      rw[List.length_map]
      exact PySem.StrLaws.seqIndex_nonneg (by omega) (by omega)
     rw[es]
     dsimp only
     rw[List.getElem?_map,List.getElem?_eq_getElem hj2,qX];rfl
    refine⟨[.bx,.fz (.list (ns.map PyData.int)),.ow (.list (((y :: ys).eraseIdx j).map PyData.int)),.ow (.list ((ms ++ [(y :: ys)[j]]).map PyData.int))],β / (((y :: ys).length:Nat):Int),((y :: ys).eraseIdx j).length,?_,?_,(y :: ys).eraseIdx j,ms ++ [(y :: ys)[j]],rfl,?_,rfl⟩
    ·show jh 3 2 ([] ++ []) (k9 0 cP (aa (f1 (gv 2) dP) ag)) [.bx,.fz (.list (ns.map PyData.int)),.ow (.list ((y :: ys).map PyData.int)),.ow (.list (ms.map PyData.int))] β=_
     rw[vQ (ds:=ms.map PyData.int) (es:=(y :: ys).map PyData.int) (by rfl) (by rfl) (by decide) ef (by rfl) hpop (by rw[List.length_map];omega),List.map_append]
     rfl
    ·rw[List.length_eraseIdx]
     rw[if_pos hj2]
     show (y :: ys).length - 1 < (y :: ys).length
     simp
    ·rw[List.append_assoc]
     exact (List.Perm.append_left ms (hU (List.getElem?_eq_getElem hj2))).trans hp)
 refine⟨ms,β',?_,hp⟩
 rw[av ew]
 rfl
end RM

end

section
namespace RM
open PySem L2
theorem Iw {n:Nat}{l:List Pr}(h8:n<=8)(w:OM.Wn n l):OM.b9 8 (OM.Mem l)=OM.b9 n (OM.Mem l):=by
 refine OM.gC (OM.dh _ _) (OM.dh _ _) fun x=>?_
 rw[OM.bc,OM.bc]
 constructor
 ·rintro⟨_,h⟩;exact⟨w x h,h⟩
 ·rintro⟨h1,h⟩;exact⟨⟨⟨h1.1.1,by omega⟩,h1.2.1,by omega⟩,h⟩
theorem Dh {n:Nat}{l:List Pr}(h1:1<=n)(h8:n<=8)(w:OM.Wn n l)(nd:l.Nodup)(irr:∀a,(a,a)∉l):l.length < 64:=by
 have:=OM.o4 (l:=(0,0) :: l) (m:=OM.bM n) (List.nodup_cons.mpr ⟨irr 0,nd⟩) (fun x hx=>by
  rcases List.mem_cons.mp hx with e |e
  ·subst e;exact OM.bt.mpr ⟨⟨by simp,by simp;omega⟩,by simp,by simp;omega⟩
  ·exact OM.bt.mpr (w x e))
 have hg:(OM.bM n).length=n * n:=by unfold OM.bM;simp
 have hn:n * n<=64:=Nat.mul_le_mul h8 h8
 rw[hg,List.length_cons] at this
 omega
theorem FY {n:Nat}{l:List Pr}(h8:n<=8)(w:OM.Wn n l):l.all GQ=true:=by
 rw[List.all_eq_true]
 intro p hp
 have:=w p hp
 unfold GQ
 rw[decide_eq_true this.1.1,decide_eq_true (by omega:p.1 < 8),decide_eq_true this.2.1,decide_eq_true (by omega:p.2 < 8)];rfl
theorem m6 {n:Nat}{l:List Pr}{d:D}(h8:n<=8)(w:OM.Wn n l)(hl:(OM.b9 n (OM.Mem l)).length < 64)(hd:lx d=some (l.map aC)):cx d=some (.list ((OM.b9 n (OM.Mem l)).map aC)):=by
 unfold cx
 rw[hd]
 simp only[hV]
 rw[Iw h8 w,if_pos ⟨FY h8 w,hl⟩]
def vB (l:List Pr)(p:Pr):List Pr:=(l.filter fun q=>decide (q.1=p.2)).map fun q=>(p.1,q.2)
theorem xk (l:List Pr)(p:Pr):(vB l p).length<=l.length:=by unfold vB;rw[List.length_map];exact List.length_filter_le ..
theorem uj (l m:List Pr):(m.flatMap (vB l)).length<=m.length * l.length:=by
 induction m with
 |nil=>simp
 |cons p m ih=>
  rw[List.flatMap_cons,List.length_append,List.length_cons,Nat.succ_mul]
  have:=xk l p
  omega
theorem rT {a b:List D}(h:a.length + b.length<=10000):kR (.list a) (.list b)=some (.list (a ++ b)):=if_pos (by rw[sizeLine_eq];omega)
noncomputable def i3:List D->FR:=aZ 6 1 fG
theorem zL {n:Nat}{ps:List Pr}(h1:1<=n)(h8:n<=8)(w:OM.Wn n ps)(irr:∀a,¬OM.Tr (OM.Mem ps) a a):i3 [.list (ps.map aC)]=.ok (.tuple ((OM.b9 n (OM.Tr (OM.Mem ps))).map aC)) false:=by
 have blen:∀{l:List Pr},OM.Ez n ps l->l.length < 64:=fun {l} B=>Dh h1 h8 B.wn (OM.iR B.ris) fun a ha=>irr a (B.sup _ ha)
 show fin (fG [.fz (.list (ps.map aC)),.no,.no,.no,.no,.no] 0)=_
 unfold fG
 have B0:=OM.zh (ps:=ps) w
 have e0:f1 (gv 0) cx [.da (.list (ps.map aC)),.no,.no,.no,.no,.no] 0=.ok (.list ((OM.b9 n (OM.Mem ps)).map aC)) 0:=di rfl (m6 h8 w (blen B0) rfl)
 rw[av (env':=[.fz (.list (ps.map aC)),.fz (.list ((OM.b9 n (OM.Mem ps)).map aC)),.no,.no,.no,.no]) (β':=0) ?h0]
 case h0=>
  show toS (f1 (gv 0) cx [.da (.list (ps.map aC)),.no,.no,.no,.no,.no] 0) _=_
  rw[e0];rfl
 rw[av (env':=[.fz (.list (ps.map aC)),.fz (.list ((OM.b9 n (OM.Mem ps)).map aC)),.fz (.int (-1)),.no,.no,.no]) (β':=0) (by rfl)]
 obtain⟨env',β',ew,rfl,x,sz,a,b,rfl⟩:=jD (L:=[] ++ []) (t:=cJ (f2 (gv 2) (f1 (gv 1) dP) (cq true)))
  (m:=aI (bw 2 [] (f1 (gv 1) dP)) (aI (bw 3 [] (bK ag)) (aI (cN (.two 4 5) [1] (bh (gv 1)) (bw 3 ([] ++ ([] ++ [4])) (f2 (gv 3) (aM 2 [5,4] (.two 0 1) (bh (gv 1)) (cJ (f2 (gv 0) (gv 2) (cq false))) (bI (aa (gv 3) (aa (gv 1) ag)))) kR))) (bw 1 ([] ++ []) (f1 (f2 (gv 1) (gv 3) kR) cx)))))
  (fun k env β=>β=0/\∃(l:List Pr) (sz:Int) (x a b:Sl),env= [.fz (.list (ps.map aC)),.fz (.list (l.map aC)),.fz (.int sz),x,a,b]/\OM.Ez n ps l/\(sz= -1\/∃lp,OM.Ez n ps lp/\l=OM.kf n lp/\sz=lp.length)/\k=2 * (64 - l.length) + (if sz=l.length then 0 else 1))
  (fun env β=>β=0/\∃(x sz a b:Sl),env= [.fz (.list (ps.map aC)),.fz (.list ((OM.b9 n (OM.Tr (OM.Mem ps))).map aC)),sz,x,a,b])
  (n:=1000) (k:=2 * (64 - (OM.b9 n (OM.Mem ps)).length) + (if (-1:Int)=(OM.b9 n (OM.Mem ps)).length then 0 else 1)) (env:=[.fz (.list (ps.map aC)),.fz (.list ((OM.b9 n (OM.Mem ps)).map aC)),.fz (.int (-1)),.no,.no,.no]) (β:=0)
  (by split <;> omega) ⟨rfl,_,_,_,_,_,rfl,B0,.inl rfl,rfl⟩ (by
   rintro k env β ⟨rfl,l,sz,x,a,b,rfl,B,hsz,rfl⟩
   have hl:=blen B
   have et:cJ (f2 (gv 2) (f1 (gv 1) dP) (cq true)) [.da (.list (ps.map aC)),.da (.list (l.map aC)),.da (.int sz),x.val,a.val,b.val] 0=.ok (!decide (sz=((l.map aC).length:Nat))) 0:=dw (neg:=true) rfl rfl
   rw[List.length_map] at et
   refine⟨_,_,et,?_⟩
   by_cases c:sz=(l.length:Nat)
   ·refine .inl ⟨by rw[decide_eq_true c];rfl,rfl,x,.fz (.int sz),a,b,?_⟩
    rcases hsz with h | ⟨lp,Bp,rfl,h⟩
    ·omega
    ·show [Sl.fz (.list (ps.map aC)),.fz (.list ((OM.kf n lp).map aC)),.fz (.int sz),x,a,b]=_
     rw[OM.Bz Bp (by omega)]
   ·refine .inr ⟨by rw[decide_eq_false c];rfl,?_⟩
    obtain⟨B2,hs⟩:=OM.ua B
    have hl2:=blen B2
    have hge:l.length<=(OM.kf n l).length:=OM.o4 (OM.iR B.ris) hs
    have eturn:∃x' a' b':Sl,aI (bw 2 [] (f1 (gv 1) dP)) (aI (bw 3 [] (bK ag)) (aI (cN (.two 4 5) [1] (bh (gv 1)) (bw 3 ([] ++ ([] ++ [4])) (f2 (gv 3) (aM 2 [5,4] (.two 0 1) (bh (gv 1)) (cJ (f2 (gv 0) (gv 2) (cq false))) (bI (aa (gv 3) (aa (gv 1) ag)))) kR))) (bw 1 ([] ++ []) (f1 (f2 (gv 1) (gv 3) kR) cx)))) [.fz (.list (ps.map aC)),.fz (.list (l.map aC)),.fz (.int sz),x,a,b] 0
      =.nx [.fz (.list (ps.map aC)),.fz (.list ((OM.kf n l).map aC)),.fz (.int (l.length:Nat)),x',a',b'] 0:=by
     rw[av (env':=[.fz (.list (ps.map aC)),.fz (.list (l.map aC)),.fz (.int (l.length:Nat)),x,a,b]) (β':=0) ?g1]
     case g1=>
      show SO.nx [.fz (.list (ps.map aC)),.fz (.list (l.map aC)),.fz (.int ((l.map aC).length:Nat)),x,a,b] 0=_
      rw[List.length_map]
     have e3:bK ag [.da (.list (ps.map aC)),.da (.list (l.map aC)),.da (.int (l.length:Nat)),x.val,a.val,b.val] 0=.ok (.list []) 0:=fP rfl (by simp)
     rw[av (env':=[.fz (.list (ps.map aC)),.fz (.list (l.map aC)),.fz (.int (l.length:Nat)),.fz (.list []),a,b]) (β':=0) ?g2]
     case g2=>
      show toS (bK ag [.da (.list (ps.map aC)),.da (.list (l.map aC)),.da (.int (l.length:Nat)),x.val,a.val,b.val] 0) _=_
      rw[e3];rfl
     obtain⟨env2,β2,ef,rfl,a2,b2,rfl⟩:=cA (t:=.two 4 5) (m:=bw 3 ([] ++ ([] ++ [4])) (f2 (gv 3) (aM 2 [5,4] (.two 0 1) (bh (gv 1)) (cJ (f2 (gv 0) (gv 2) (cq false))) (bI (aa (gv 3) (aa (gv 1) ag)))) kR)) (ds:=l.map aC) (k:=0)
      (fun i env β=>β=0/\∃a b:Sl,env= [.fz (.list (ps.map aC)),.fz (.list (l.map aC)),.fz (.int (l.length:Nat)),.fz (.list (((l.take i).flatMap (vB l)).map aC)),a,b]) (env:=[.fz (.list (ps.map aC)),.fz (.list (l.map aC)),.fz (.int (l.length:Nat)),.fz (.list []),a,b]) (β:=0) ⟨rfl,a,b,rfl⟩ (by
       rintro i d env β hi ⟨rfl,a,b,rfl⟩
       rw[List.getElem?_map] at hi
       cases q:l[i]? with
       |none=>rw[q] at hi;cases hi
       |some p=>
        rw[q] at hi
        cases hi
        have hil:i < l.length:=(List.getElem?_eq_some_iff.mp q).1
        refine⟨[.fz (.list (ps.map aC)),.fz (.list (l.map aC)),.fz (.int (l.length:Nat)),.fz (.list (((l.take (0 + i)).flatMap (vB l)).map aC)),.fz (.int p.1),.fz (.int p.2)],rfl,[.fz (.list (ps.map aC)),.fz (.list (l.map aC)),.fz (.int (l.length:Nat)),.fz (.list (((l.take (0 + i + 1)).flatMap (vB l)).map aC)),.fz (.int p.1),.fz (.int p.2)],0,?_,rfl,_,_,rfl⟩
        have ec:aM 2 [5,4] (.two 0 1) (bh (gv 1)) (cJ (f2 (gv 0) (gv 2) (cq false))) (bI (aa (gv 3) (aa (gv 1) ag))) [.da (.list (ps.map aC)),.da (.list (l.map aC)),.da (.int (l.length:Nat)),.da (.list (((l.take (0 + i)).flatMap (vB l)).map aC)),.da (.int p.1),.da (.int p.2)] 0=.ok (.list ((vB l p).map aC)) 0:=by
         rw[cT (l:=l) (e:=aC) (fun q=>decide (q.1=p.2)) (fun q=>aC (p.1,q.2)) rfl (by omega) (β1:=0)]
         ·unfold vB;rw[List.map_map];rfl
         ·intro q hq
          refine⟨_,rfl,dw (neg:=false) (i:=q.1) (j:=p.2) rfl rfl,fun _=>?_⟩
          exact kJ (ds:=[.int p.1,.int q.2]) rfl (by simp)
        have hk:(l.take (0 + i)).length<=63:=by rw[List.length_take];omega
        have hfl:=uj l (l.take (0 + i))
        have hfl2:(l.take (0 + i)).length * l.length<=63 * 63:=Nat.mul_le_mul hk (by omega)
        have hm1:=xk l p
        have e5:f2 (gv 3) (aM 2 [5,4] (.two 0 1) (bh (gv 1)) (cJ (f2 (gv 0) (gv 2) (cq false))) (bI (aa (gv 3) (aa (gv 1) ag)))) kR [.da (.list (ps.map aC)),.da (.list (l.map aC)),.da (.int (l.length:Nat)),.da (.list (((l.take (0 + i)).flatMap (vB l)).map aC)),.da (.int p.1),.da (.int p.2)] 0=.ok (.list (((l.take (0 + i + 1)).flatMap (vB l)).map aC)) 0:=by
         refine aG rfl ec ?_
         rw[rT (by rw[List.length_map,List.length_map];omega),<-List.map_append]
         have:l.take (0 + i + 1)=l.take (0 + i) ++ [p]:=by rw[Nat.zero_add,List.take_add_one,q];rfl
         rw[this,List.flatMap_append,List.flatMap_cons,List.flatMap_nil,List.append_nil]
        show toS (f2 (gv 3) (aM 2 [5,4] (.two 0 1) (bh (gv 1)) (cJ (f2 (gv 0) (gv 2) (cq false))) (bI (aa (gv 3) (aa (gv 1) ag)))) kR [.da (.list (ps.map aC)),.da (.list (l.map aC)),.da (.int (l.length:Nat)),.da (.list (((l.take (0 + i)).flatMap (vB l)).map aC)),.da (.int p.1),.da (.int p.2)] 0) _=_
        rw[e5];rfl)
     rw[Nat.zero_add,List.length_map,List.take_of_length_le (Nat.le_refl _)] at ef
     rw[av (env':=[.fz (.list (ps.map aC)),.fz (.list (l.map aC)),.fz (.int (l.length:Nat)),.fz (.list ((l.flatMap (vB l)).map aC)),a2,b2]) (β':=0) ?g3]
     case g3=>exact ef
     have hfl:=uj l l
     have hfl2:l.length * l.length<=63 * 63:=Nat.mul_le_mul (by omega) (by omega)
     have e6:f1 (f2 (gv 1) (gv 3) kR) cx [.da (.list (ps.map aC)),.da (.list (l.map aC)),.da (.int (l.length:Nat)),.da (.list ((l.flatMap (vB l)).map aC)),a2.val,b2.val] 0=.ok (.list ((OM.kf n l).map aC)) 0:=by
      refine di (x:=.list ((l ++ OM.more l).map aC)) (aG rfl rfl ?_) (m6 h8 (OM.AR B) hl2 rfl)
      rw[rT (by rw[List.length_map,List.length_map];omega),<-List.map_append];rfl
     refine⟨.fz (.list ((l.flatMap (vB l)).map aC)),a2,b2,?_⟩
     show toS (f1 (f2 (gv 1) (gv 3) kR) cx [.da (.list (ps.map aC)),.da (.list (l.map aC)),.da (.int (l.length:Nat)),.da (.list ((l.flatMap (vB l)).map aC)),a2.val,b2.val] 0) _=_
     rw[e6];rfl
    obtain⟨x',a',b',et2⟩:=eturn
    refine⟨_,_,_,et2,?_,rfl,_,_,_,_,_,rfl,B2,.inr ⟨l,B,rfl,rfl⟩,rfl⟩
    rw[if_neg c]
    split <;> omega)
 rw[av ew]
 rfl
end RM

end

section
namespace RM
open PySem L2
def u6 (ms:List Int)(ps:List Pr):Prop:=∀p,p∈ps->∃i j:Nat,i < j/\ms[i]? =some p.1/\ms[j]? =some p.2
theorem oC {α:Type}:∀{l:List α} {i j:Nat} {x:α},l.Nodup->l[i]? =some x->l[j]? =some x->i=j
 | [],_,_,_,_,h,_=>by simp at h
 |y :: l,0,0,_,_,_,_=>rfl
 |y :: l,0,j + 1,x,nd,h1,h2=>by
  simp at h1
  subst h1
  exact absurd (List.mem_of_getElem? (by simpa using h2)) (List.nodup_cons.mp nd).1
 |y :: l,i + 1,0,x,nd,h1,h2=>by
  simp at h2
  subst h2
  exact absurd (List.mem_of_getElem? (by simpa using h1)) (List.nodup_cons.mp nd).1
 |y :: l,i + 1,j + 1,x,nd,h1,h2=>by
  rw[oC (l:=l) (i:=i) (j:=j) (List.nodup_cons.mp nd).2 (by simpa using h1) (by simpa using h2)]
theorem Bd {ms:List Int}{ps:List Pr}(nd:ms.Nodup)(h:u6 ms ps){a b:Int}(t:OM.Tr (OM.Mem ps) a b):∃i j:Nat,i < j/\ms[i]? =some a/\ms[j]? =some b:=by
 refine t.least (S:=fun a b=>∃i j:Nat,i < j/\ms[i]? =some a/\ms[j]? =some b) (fun a b r=>h _ r) ?_
 rintro a b c ⟨i,j,hij,h1,h2⟩ ⟨k,l,hkl,h3,h4⟩
 have:=oC nd h2 h3
 exact⟨i,l,by omega,h1,h4⟩
theorem zK {ms:List Int}{ps:List Pr}(nd:ms.Nodup)(h:u6 ms ps)(a:Int):¬OM.Tr (OM.Mem ps) a a:=fun t=>by
 obtain⟨i,j,hij,h1,h2⟩:=Bd nd h t
 have:=oC nd h1 h2
 omega
def eZ (n:Nat):List Int:=(List.range n).map fun (k:Nat)=>(k:Int)
theorem cS (n:Nat):(eZ n).length=n:=by unfold eZ;simp
theorem aP {n:Nat}{x:Int}:x∈eZ n↔0<=x/\x < n:=by
 unfold eZ
 rw[List.mem_map]
 constructor
 ·rintro⟨k,hk,rfl⟩
  have:=List.mem_range.mp hk
  omega
 ·intro h
  exact⟨x.toNat,List.mem_range.mpr (by omega),by omega⟩
theorem i0 (n:Nat):(eZ n).Nodup:=by
 unfold eZ
 rw[List.nodup_iff_pairwise_ne,List.pairwise_map]
 exact (List.nodup_iff_pairwise_ne.mp List.nodup_range).imp fun {a b} h e=>h (by omega)
theorem zu (n:Nat):cu 0 n=(eZ n).map PyData.int:=by
 unfold cu eZ
 rw[List.map_map]
 refine List.map_congr_left fun k _=>?_
 show PyData.int (0 + (k:Int))=_
 rw[Int.zero_add];rfl
theorem i4 {lo:Int}{n i:Nat}{d:D}(h:(cu lo n)[i]? =some d):i < n/\d=.int (lo + i):=by
 unfold cu at h
 rw[List.getElem?_map] at h
 cases q:(List.range n)[i]? with
 |none=>rw[q] at h;cases h
 |some j=>
  rw[q] at h
  cases h
  obtain⟨hi,ej⟩:=List.getElem?_eq_some_iff.mp q
  rw[List.length_range] at hi
  rw[List.getElem_range] at ej
  subst ej
  exact⟨hi,rfl⟩
theorem ni {n:Nat}(h:n<=1000):eO (.int n)=some (.list ((eZ n).map PyData.int)):=by
 unfold eO
 dsimp only
 rw[if_pos ⟨by omega,by omega⟩,Int.toNat_natCast,zu]
theorem eQ {fa:VF D}{vs:List Nv}{β β1:Int}{n:Nat}(h:fa vs β=.ok (.int n) β1)(hn:n<=1000):dX fa vs β=.ok (cu 0 n) β1:=by
 unfold dX
 rw[h]
 simp only[lg]
 rw[if_pos (kC (by omega) (by omega)),Int.toNat_natCast]
theorem BO {fa fb:VF D}{vs:List Nv}{β β1 β2:Int}{i j:Int}(h:fa vs β=.ok (.int i) β1)(h':fb vs β1=.ok (.int j) β2)(hi:0<=i/\i<=1000)(hj:0<=j/\j<=1000):qO fa fb vs β=.ok (cu i (j - i).toNat) β2:=by
 unfold qO
 rw[h]
 simp only[lg]
 rw[h']
 simp only[lg]
 rw[if_pos (by rw[kC (by omega) (by omega),kC (by omega) (by omega)];rfl)]
theorem cy {t:Tg}{L:List Nat}{fi:VF (List D)}{m:SF}{env:En}{β β1:Int}{ds:List D}(h:fi (vl env) β=.ok ds β1):cN t L fi m env β=jS t m ds (bo L env) β1:=by unfold cN;rw[h];rfl
noncomputable def rN:List D->Int->FB:=ud 8 1 (gG i3 cP kl)
theorem zq {n:Nat}{ms:List Int}{ps:List Pr}(h1:1<=n)(h8:n<=8)(hp:ms.Perm (eZ n))(ha:u6 ms ps):OM.Wn n ps/\(∀a,¬OM.Tr (OM.Mem ps) a a)/\OM.Ord n (OM.b9 n (OM.Tr (OM.Mem ps))):=by
 have nd:ms.Nodup:=hp.nodup_iff.mpr (i0 n)
 have w:OM.Wn n ps:=fun p hm=>by
  obtain⟨i,j,_,e1,e2⟩:=ha p hm
  have m1:=aP.mp (hp.mem_iff.mp (List.mem_of_getElem? e1))
  have m2:=aP.mp (hp.mem_iff.mp (List.mem_of_getElem? e2))
  exact⟨m1,m2⟩
 have ir:=fun a=>zK nd ha a
 exact⟨w,ir,OM.Gh h1 h8 w ir⟩
theorem jZ {m:Nat}(h:1<=m)(h2:m<=1000)(β:Int):∃j:Nat,j < m/\cP [.int m] β=.ok (.int (j:Int)) false (β / m):=by
 refine⟨(β % m).toNat,?_,?_⟩
 ·have h0:=Int.emod_nonneg β (b:=(m:Int)) (by omega)
  have h3:=Int.emod_lt_of_pos β (b:=(m:Int)) (by omega)
  omega
 ·rw[nY (by omega) (by omega)]
  have h0:=Int.emod_nonneg β (b:=(m:Int)) (by omega)
  rw[show ((β % m).toNat:Int)=β % m by omega]
theorem Ak {most:Nat}(hm1:1<=most)(hm8:most<=8)(β:Int):∃(n:Nat) (l:List Pr) (β':Int),rN [.int most] β=.ok (aE n l) false β'/\OM.Ord n l/\n<=most:=by
 obtain⟨j,hj,ej⟩:=jZ hm1 (by omega) β
 show ∃(n:Nat) (l:List Pr) (β':Int),DS (gG i3 cP kl [.bx,.fz (.int most),.no,.no,.no,.no,.no,.no] β)=.ok (aE n l) false β'/\OM.Ord n l/\n<=most
 unfold gG
 generalize hβ1:β / (most:Int)=β1 at ej
 have n8:1 + j<=8:=by omega
 have e1:f2 (cst (.int 1)) (k9 0 cP (aa (gv 1) ag)) cQ [Nv.bx,.da (.int most),.no,.no,.no,.no,.no,.no] β=.ok (.int ((1 + j:Nat):Int)) β1:=by
  refine aG (x:=.int 1) rfl (iG (by rfl) rfl ej) ?_
  show some (PyData.int (1 + (j:Int)))=_
  rw[show ((1 + j:Nat):Int)=1 + (j:Int) by omega]
 rw[av (env':=[.bx,.fz (.int most),.fz (.int ((1 + j:Nat):Int)),.no,.no,.no,.no,.no]) (β':=β1) ?g1]
 case g1=>
  show toS (f2 (cst (.int 1)) (k9 0 cP (aa (gv 1) ag)) cQ [Nv.bx,.da (.int most),.no,.no,.no,.no,.no,.no] β) _=_
  rw[e1];rfl
 generalize hn:1 + j=n at n8
 have n1:1<=n:=by omega
 obtain⟨ms,β2,em,hp⟩:=yj (eZ n) (by rw[cS];omega) β1
 have hml:ms.length=n:=by rw[hp.length_eq,cS]
 have e2:k9 0 kl (aa (f1 (gv 2) eO) ag) [Nv.bx,.da (.int most),.da (.int n),.no,.no,.no,.no,.no] β1=.ok (.list (ms.map PyData.int)) β2:=by
  refine iG (ds:=[.list ((eZ n).map PyData.int)]) (b:=true) (β1:=β1) (by rfl) ?_ em
  rw[cj,di (x:=.int n) (d:=.list ((eZ n).map PyData.int)) (β1:=β1) rfl (ni (by omega))];rfl
 rw[av (env':=[.bx,.fz (.int most),.fz (.int n),.fz (.list (ms.map PyData.int)),.no,.no,.no,.no]) (β':=β2) ?g2]
 case g2=>
  show toS (k9 0 kl (aa (f1 (gv 2) eO) ag) [Nv.bx,.da (.int most),.da (.int n),.no,.no,.no,.no,.no] β1) _=_
  rw[e2];rfl
 obtain⟨q,hq,eq⟩:=jZ (m:=4) (by omega) (by omega) β2
 obtain⟨th,hth,hthv⟩:∃th:Nat,([2,3,4,7]:List Nat)[q]? =some th/\1<=th/\th<=7:=by
  rcases (show q=0\/q=1\/q=2\/q=3 by omega) with rfl |rfl |rfl |rfl
  ·exact⟨2,rfl,by omega,by omega⟩
  ·exact⟨3,rfl,by omega,by omega⟩
  ·exact⟨4,rfl,by omega,by omega⟩
  ·exact⟨7,rfl,by omega,by omega⟩
 generalize hβ3:β2 / ((4:Nat):Int)=β3 at eq
 have e3:f2 (bK (aa (cst (.int 2)) (aa (cst (.int 3)) (aa (cst (.int 4)) (aa (cst (.int 7)) ag))))) (k9 0 cP (aa (cst (.int 4)) ag)) bQ [Nv.bx,.da (.int most),.da (.int n),.da (.list (ms.map PyData.int)),.no,.no,.no,.no] β2=.ok (.int th) β3:=by
  refine aG (x:=.list (([2,3,4,7]:List Nat).map fun (k:Nat)=>PyData.int (k:Int))) (y:=.int q) (fP rfl (by simp)) (iG (ds:=[.int 4]) (by rfl) rfl eq) ?_
  show jN (([2,3,4,7]:List Nat).map fun (k:Nat)=>PyData.int (k:Int)) (q:Int)=_
  rw[du,lK hth];rfl
 rw[av (env':=[.bx,.fz (.int most),.fz (.int n),.fz (.list (ms.map PyData.int)),.fz (.int th),.no,.no,.no]) (β':=β3) ?g3]
 case g3=>
  show toS (f2 (bK (aa (cst (.int 2)) (aa (cst (.int 3)) (aa (cst (.int 4)) (aa (cst (.int 7)) ag))))) (k9 0 cP (aa (cst (.int 4)) ag)) bQ [Nv.bx,.da (.int most),.da (.int n),.da (.list (ms.map PyData.int)),.no,.no,.no,.no] β2) _=_
  rw[e3];rfl
 have e4:bK ag [Nv.bx,.da (.int most),.da (.int n),.da (.list (ms.map PyData.int)),.da (.int th),.no,.no,.no] β3=.ok (.list []) β3:=fP rfl (by simp)
 rw[av (env':=[.bx,.fz (.int most),.fz (.int n),.fz (.list (ms.map PyData.int)),.fz (.int th),.ow (.list []),.no,.no]) (β':=β3) ?g4]
 case g4=>
  show toS (bK ag [Nv.bx,.da (.int most),.da (.int n),.da (.list (ms.map PyData.int)),.da (.int th),.no,.no,.no] β3) _=_
  rw[e4];rfl
 obtain⟨env',β',ef,ps,a,b,rfl,hal,hpl⟩:=cA (t:=.nm 6) (m:=cN (.nm 7) (([] ++ []) ++ []) (qO (f2 (gv 6) (cst (.int 1)) cQ) (gv 2))
   (jV (([4] ++ []) ++ []) (cJ (f2 (k9 0 cP (aa (gv 4) ag)) (cst (.int 0)) (cq false)))
   (jY 5 (([] ++ []) ++ (([] ++ []) ++ [])) (bI (aa (f2 (gv 3) (gv 6) bQ) (aa (f2 (gv 3) (gv 7) bQ) ag)))) lB)) (ds:=cu 0 n) (k:=0)
  (fun i env β=>∃(ps:List Pr) (a b:Sl),env= [.bx,.fz (.int most),.fz (.int n),.fz (.list (ms.map PyData.int)),.fz (.int th),.ow (.list (ps.map aC)),a,b]/\u6 ms ps/\ps.length<=8 * i)
  (env:=[.bx,.fz (.int most),.fz (.int n),.fz (.list (ms.map PyData.int)),.fz (.int th),.ow (.list []),.no,.no]) (β:=β3) ⟨[],.no,.no,rfl,fun p hp=>(by cases hp),by simp⟩ (by
   rintro i d env β hi ⟨ps,a,b,rfl,hal,hpl⟩
   obtain⟨hin,rfl⟩:=i4 hi
   refine⟨[.bx,.fz (.int most),.fz (.int n),.fz (.list (ms.map PyData.int)),.fz (.int th),.ow (.list (ps.map aC)),.fz (.int (0 + (i:Int))),b],rfl,?_⟩
   have er:qO (f2 (gv 6) (cst (.int 1)) cQ) (gv 2) [Nv.bx,.da (.int most),.da (.int n),.da (.list (ms.map PyData.int)),.da (.int th),.da (.list (ps.map aC)),.da (.int (0 + (i:Int))),b.val] β=.ok (cu (0 + (i:Int) + 1) ((n:Int) - (0 + (i:Int) + 1)).toNat) β:=BO rfl rfl ⟨by omega,by omega⟩ ⟨by omega,by omega⟩
   rw[cy (env:=[.bx,.fz (.int most),.fz (.int n),.fz (.list (ms.map PyData.int)),.fz (.int th),.ow (.list (ps.map aC)),.fz (.int (0 + (i:Int))),b]) er]
   obtain⟨env',β',ef,qs,b,rfl,hal2,hql⟩:=cA (t:=.nm 7) (m:=jV (([4] ++ []) ++ []) (cJ (f2 (k9 0 cP (aa (gv 4) ag)) (cst (.int 0)) (cq false)))
     (jY 5 (([] ++ []) ++ (([] ++ []) ++ [])) (bI (aa (f2 (gv 3) (gv 6) bQ) (aa (f2 (gv 3) (gv 7) bQ) ag)))) lB) (ds:=cu (0 + (i:Int) + 1) ((n:Int) - (0 + (i:Int) + 1)).toNat) (k:=0)
    (fun k env β=>∃(qs:List Pr) (b:Sl),env= [.bx,.fz (.int most),.fz (.int n),.fz (.list (ms.map PyData.int)),.fz (.int th),.ow (.list (qs.map aC)),.fz (.int (0 + (i:Int))),b]/\u6 ms qs/\qs.length<=8 * i + k)
    (env:=[.bx,.fz (.int most),.fz (.int n),.fz (.list (ms.map PyData.int)),.fz (.int th),.ow (.list (ps.map aC)),.fz (.int (0 + (i:Int))),b]) (β:=β) ⟨ps,b,rfl,hal,by omega⟩ (by
     rintro k d env β hk ⟨qs,b,rfl,hal,hql⟩
     obtain⟨hkn,rfl⟩:=i4 hk
     have hkn:i + 1 + k < n:=by omega
     refine⟨[.bx,.fz (.int most),.fz (.int n),.fz (.list (ms.map PyData.int)),.fz (.int th),.ow (.list (qs.map aC)),.fz (.int (0 + (i:Int))),.fz (.int (0 + (i:Int) + 1 + (k:Int)))],rfl,?_⟩
     obtain⟨z,hz,ez⟩:=jZ hthv.1 (by omega) β
     have et:cJ (f2 (k9 0 cP (aa (gv 4) ag)) (cst (.int 0)) (cq false)) [Nv.bx,.da (.int most),.da (.int n),.da (.list (ms.map PyData.int)),.da (.int th),.da (.list (qs.map aC)),.da (.int (0 + (i:Int))),.da (.int (0 + (i:Int) + 1 + (k:Int)))] β=.ok (decide ((z:Int)=0)) (β / th):=dw (neg:=false) (iG (ds:=[.int th]) (by rfl) rfl ez) rfl
     by_cases c:(z:Int)=0
     ·rw[decide_eq_true c] at et
      have h1:i < ms.length:=by omega
      have h2:i + 1 + k < ms.length:=by omega
      refine⟨[.bx,.fz (.int most),.fz (.int n),.fz (.list (ms.map PyData.int)),.fz (.int th),.ow (.list ((qs ++ [(ms[i],ms[i + 1 + k])]).map aC)),.fz (.int (0 + (i:Int))),.fz (.int (0 + (i:Int) + 1 + (k:Int)))],β / th,?_,qs ++ [(ms[i],ms[i + 1 + k])],_,rfl,?_,?_⟩
      ·rw[i8 et]
       have ep:bI (aa (f2 (gv 3) (gv 6) bQ) (aa (f2 (gv 3) (gv 7) bQ) ag)) [Nv.bx,.da (.int most),.da (.int n),.da (.list (ms.map PyData.int)),.da (.int th),.da (.list (qs.map aC)),.da (.int (0 + (i:Int))),.da (.int (0 + (i:Int) + 1 + (k:Int)))] (β / th)=.ok (aC (ms[i],ms[i + 1 + k])) (β / th):=by
        refine kJ (ds:=[.int ms[i],.int ms[i + 1 + k]]) ?_ (by simp)
        have a1:f2 (gv 3) (gv 6) bQ [Nv.bx,.da (.int most),.da (.int n),.da (.list (ms.map PyData.int)),.da (.int th),.da (.list (qs.map aC)),.da (.int (0 + (i:Int))),.da (.int (0 + (i:Int) + 1 + (k:Int)))] (β / th)=.ok (.int ms[i]) (β / th):=by
         refine aG rfl rfl ?_
         show jN (ms.map PyData.int) (0 + (i:Int))=_
         rw[Int.zero_add,du,jB h1];rfl
        have a2:f2 (gv 3) (gv 7) bQ [Nv.bx,.da (.int most),.da (.int n),.da (.list (ms.map PyData.int)),.da (.int th),.da (.list (qs.map aC)),.da (.int (0 + (i:Int))),.da (.int (0 + (i:Int) + 1 + (k:Int)))] (β / th)=.ok (.int ms[i + 1 + k]) (β / th):=by
         refine aG rfl rfl ?_
         show jN (ms.map PyData.int) (0 + (i:Int) + 1 + (k:Int))=_
         rw[show (0 + (i:Int) + 1 + (k:Int))=((i + 1 + k:Nat):Int) by omega,du,jB h2];rfl
        rw[cj,a1]
        dsimp only[R.bnd]
        rw[cj,a2];rfl
       have:=me (i:=5) (L:=([] ++ []) ++ (([] ++ []) ++ [])) (env:=[.bx,.fz (.int most),.fz (.int n),.fz (.list (ms.map PyData.int)),.fz (.int th),.ow (.list (qs.map aC)),.fz (.int (0 + (i:Int))),.fz (.int (0 + (i:Int) + 1 + (k:Int)))]) (ds:=qs.map aC) (by rfl) ep (by rfl) (by rw[List.length_map];omega)
       rw[List.map_append]
       exact this
      ·intro p hp
       rcases List.mem_append.mp hp with hp |hp
       ·exact hal p hp
       ·have:p=(ms[i],ms[i + 1 + k]):=by simpa using hp
        subst this
        exact⟨i,i + 1 + k,by omega,List.getElem?_eq_getElem h1,List.getElem?_eq_getElem h2⟩
      ·rw[List.length_append];simp;omega
     ·rw[decide_eq_false c] at et
      refine⟨_,_,by rw[gm et];rfl,qs,_,rfl,hal,by omega⟩)
   have hlen:(cu (0 + (i:Int) + 1) ((n:Int) - (0 + (i:Int) + 1)).toNat).length<=7:=by rw[c8];omega
   exact⟨_,_,ef,qs,_,b,rfl,hal2,by omega⟩)
 rw[av (env':=[.bx,.fz (.int most),.fz (.int n),.fz (.list (ms.map PyData.int)),.fz (.int th),.ow (.list (ps.map aC)),a,b]) (β':=β') ?g5]
 case g5=>
  rw[cy (env:=[.bx,.fz (.int most),.fz (.int n),.fz (.list (ms.map PyData.int)),.fz (.int th),.ow (.list []),.no,.no]) (eQ (n:=n) rfl (by omega))]
  exact ef
 obtain⟨w,ir,O⟩:=zq n1 n8 hp hal
 refine⟨n,OM.b9 n (OM.Tr (OM.Mem ps)),β',?_,O,by omega⟩
 have e9:bI (aa (gv 2) (aa (ao i3 (aa (gv 5) ag)) ag)) [Nv.bx,.da (.int most),.da (.int n),.da (.list (ms.map PyData.int)),.da (.int th),.da (.list (ps.map aC)),a.val,b.val] β'=.ok (aE n (OM.b9 n (OM.Tr (OM.Mem ps)))) β':=by
  refine kJ (ds:=[.int n,.tuple ((OM.b9 n (OM.Tr (OM.Mem ps))).map aC)]) ?_ (by simp)
  have a1:ao i3 (aa (gv 5) ag) [Nv.bx,.da (.int most),.da (.int n),.da (.list (ms.map PyData.int)),.da (.int th),.da (.list (ps.map aC)),a.val,b.val] β'=.ok (.tuple ((OM.b9 n (OM.Tr (OM.Mem ps))).map aC)) β':=aA rfl (zL n1 n8 w ir)
  rw[cj]
  show (R.ok (PyData.int n) β').bnd _=_
  dsimp only[R.bnd]
  rw[cj,a1];rfl
 show DS (toS (bI (aa (gv 2) (aa (ao i3 (aa (gv 5) ag)) ag)) [Nv.bx,.da (.int most),.da (.int n),.da (.list (ms.map PyData.int)),.da (.int th),.da (.list (ps.map aC)),a.val,b.val] β') _)=_
 rw[e9];rfl
end RM

end

section
namespace RM
open PySem L2
theorem yn (p:Pr):∀l:List Pr,((l.map aC).any fun e=>PyData.eqv e (aC p))=decide (p∈l)
 | []=>rfl
 |q :: l=>by
  rw[List.map_cons,List.any_cons,yn p l,Aj,Bool.eq_iff_iff]
  simp only[Bool.or_eq_true,decide_eq_true_eq,List.mem_cons]
  exact⟨fun h=>h.imp Eq.symm id,fun h=>h.imp Eq.symm id⟩
theorem CM (l:List Pr):(l.map aC).all SeqAt.shaped=true:=by
 rw[List.all_eq_true]
 intro d hd
 obtain⟨p,_,rfl⟩:=List.mem_map.mp hd
 exact qJ p
theorem kO (neg:Bool)(p:Pr)(l:List Pr):tK neg (aC p) (.tuple (l.map aC))=some (.bool (if neg then !decide (p∈l) else decide (p∈l))):=by
 unfold tK
 simp only[lx,qJ,CM,Bool.and_self,if_true,yn]
theorem oi (neg:Bool)(i j:Int):cq neg (.int i) (.int j)=some (.bool (if neg then !decide (i=j) else decide (i=j))):=rfl
theorem xw {fa fb:VF D}{vs:List Nv}{β:Int}{a b:Bool}(h:fa vs β=.ok (.bool a) β)(h':fb vs β=.ok (.bool b) β):eV fa fb vs β=.ok (.bool (a && b)) β:=by
 unfold eV
 rw[h]
 dsimp only[R.bnd]
 cases a with
 |true=>exact h'
 |false=>rfl
theorem cw {fa fb:VF D}{vs:List Nv}{β:Int}{a b:Int}(h:fa vs β=.ok (.int a) β)(h':fb vs β=.ok (.int b) β):bI (aa fa (aa fb ag)) vs β=.ok (aC (a,b)) β:=by
 refine kJ (ds:=[.int a,.int b]) ?_ (by simp)
 rw[cj,h]
 dsimp only[R.bnd]
 rw[cj,h'];rfl
def GO (l:List Pr)(p:Pr):Bool:= !decide (p.1=p.2) && (!decide ((p.1,p.2)∈l) && !decide ((p.2,p.1)∈l))
theorem GS {n:Nat}{l:List Pr}{fa:VF D}{vs:List Nv}{β:Int}(h:fa vs β=.ok (aE n l) β):f2 fa (cst (.int 1)) bQ vs β=.ok (.tuple (l.map aC)) β:=aG h rfl rfl
theorem IQ {n:Nat}{l:List Pr}{fa:VF D}{vs:List Nv}{β:Int}(h:fa vs β=.ok (aE n l) β):f2 fa (cst (.int 0)) bQ vs β=.ok (.int n) β:=aG h rfl rfl
def Ia:List D->FR:=aZ 3 3 nu
theorem Ji (n:Nat)(l:List Pr)(a b:Int):Ia [aE n l,.int a,.int b]=.ok (.bool (GO l (a,b))) false:=by
 show fin (toS (eV (f2 (gv 1) (gv 2) (cq true)) (eV (f2 (bI (aa (gv 1) (aa (gv 2) ag))) (f2 (gv 0) (cst (.int 1)) bQ) (tK true)) (f2 (bI (aa (gv 2) (aa (gv 1) ag))) (f2 (gv 0) (cst (.int 1)) bQ) (tK true))) [.da (aE n l),.da (.int a),.da (.int b)] 0) _)=_
 rw[xw (aG (x:=.int a) (y:=.int b) rfl rfl (oi true a b)) (xw (aG (cw (a:=a) (b:=b) rfl rfl) (GS (n:=n) (l:=l) rfl) (kO true (a,b) l)) (aG (cw (a:=b) (b:=a) rfl rfl) (GS (n:=n) (l:=l) rfl) (kO true (b,a) l)))]
 rfl
def jI:List D->FR:=aZ 1 1 gx
theorem xZ {n:Nat}(h1:1<=n)(h8:n<=8):jI [.int n]=.ok (.list ((OM.bM n).map aC)) true:=by
 have hm:n * n<=64:=Nat.mul_le_mul h8 h8
 have e:aM 1 [0] (.nm 0) (dX (f2 (gv 0) (gv 0) dR)) kB (bI (aa (f2 (gv 0) (gv 1) zQ) (aa (f2 (gv 0) (gv 1) lb) ag))) [.da (.int n)] 0=.ok (.list ((OM.bM n).map aC)) 0:=by
  have hi:dX (f2 (gv 0) (gv 0) dR) [.da (.int n)] 0=.ok ((List.range (n * n)).map fun (k:Nat)=>PyData.int (0 + (k:Int))) 0:=by
   refine eQ (n:=n * n) (aG (x:=.int n) (y:=.int n) rfl rfl ?_) (by omega)
   rw[mY ⟨by omega,by omega⟩];rfl
  rw[cU (l:=List.range (n * n)) (e:=fun (k:Nat)=>PyData.int (0 + (k:Int))) (fun k=>aC (((k / n:Nat):Int),((k % n:Nat):Int))) hi (by rw[List.length_range];omega) fun k hk=>⟨_,rfl,?_⟩]
  ·unfold OM.bM;rw[List.map_map];rfl
  ·refine cw (aG (x:=.int (0 + (k:Int))) (y:=.int n) rfl rfl ?_) (aG (x:=.int (0 + (k:Int))) (y:=.int n) rfl rfl ?_)
   ·rw[yi (by omega) (by omega),Int.zero_add];rfl
   ·rw[mE (by omega),Int.zero_add];rfl
 show fin (gx [.fz (.int n)] 0)=_
 unfold gx
 rw[AZ,show vl [Sl.fz (.int n)]= [.da (.int n)] from rfl,e];rfl
def iP (n:Nat)(l:List Pr):List Pr:=(OM.bM n).filter (GO l)
theorem eN (n:Nat):(OM.bM n).length=n * n:=by unfold OM.bM;simp
theorem xF {n:Nat}{l:List Pr}(h8:n<=8):(iP n l).length<=64:=by
 have h1:(iP n l).length<=(OM.bM n).length:=List.length_filter_le _ _
 rw[eN] at h1
 have:n * n<=64:=Nat.mul_le_mul h8 h8
 omega
theorem kM {n:Nat}{l:List Pr}{p:Pr}:p∈iP n l↔((0<=p.1/\p.1 < n)/\(0<=p.2/\p.2 < n))/\GO l p=true:=by
 unfold iP;rw[List.mem_filter,OM.bt]
noncomputable def lr:List D->FR:=aZ 1 1 (nQ iu jI Ia)
theorem j7 {fa:VF D}{vs:List Nv}{β:Int}{c:Bool}(h:fa vs β=.ok (.bool c) β):lI fa vs β=.ok c β:=by rw[rQ,h];rfl
theorem x9 {n:Nat}{l:List Pr}(O:OM.Ord n l):lr [aE n l]=.ok (.list ((iP n l).map aC)) true:=by
 have hm:n * n<=64:=Nat.mul_le_mul O.hi O.hi
 show fin (nQ iu jI Ia [.fz (aE n l)] 0)=_
 unfold nQ
 rw[av (env':=[.fz (aE n l)]) (β':=0) ?g1]
 case g1=>
  show toS (ao iu (aa (gv 0) ag) [.da (aE n l)] 0) _=_
  rw[aA (ds:=[aE n l]) rfl (pf O)];rfl
 have e:aM 2 [0] (.two 0 1) (bh (ao jI (aa (f2 (gv 0) (cst (.int 0)) bQ) ag))) (lI (ao Ia (aa (gv 2) (aa (gv 0) (aa (gv 1) ag))))) (bI (aa (gv 0) (aa (gv 1) ag))) [.da (aE n l)] 0=.ok (.list ((iP n l).map aC)) 0:=by
  have hi:bh (ao jI (aa (f2 (gv 0) (cst (.int 0)) bQ) ag)) [.da (aE n l)] 0=.ok ((OM.bM n).map aC) 0:=by
   unfold bh
   rw[aA (ds:=[.int n]) rfl (xZ O.lo O.hi)];rfl
  exact cT (l:=OM.bM n) (e:=aC) (GO l) aC hi (by rw[eN];omega) fun p hp=>⟨_,rfl,j7 (aA (ds:=[aE n l,.int p.1,.int p.2]) rfl (Ji n l p.1 p.2)),fun _=>cw rfl rfl⟩
 show fin (toS (aM 2 [0] (.two 0 1) (bh (ao jI (aa (f2 (gv 0) (cst (.int 0)) bQ) ag))) (lI (ao Ia (aa (gv 2) (aa (gv 0) (aa (gv 1) ag))))) (bI (aa (gv 0) (aa (gv 1) ag))) [.da (aE n l)] 0) _)=_
 rw[e];rfl
end RM

end

section
namespace RM
open PySem L2
theorem A3 {c:Nat}:∀(ts:List Str) (k:Nat) (acc:Str),(∀t∈ts,t.length + 2<=c)->(textFrom k acc ts).length<=acc.length + c * ts.length
 | [],k,acc,_=>by show acc.length<=_;omega
 |t :: r,k,acc,h=>by
  have ih:=A3 r (k + 1) (acc ++ (if k > 0 then ", " else "":String) ++ t) fun u hu=>h u (List.mem_cons_of_mem _ hu)
  have e:(acc ++ (if k > 0 then ", " else "":String) ++ t).length=acc.length + (if k > 0 then 2 else 0) + t.length:=by
   rw[strLen_append,strLen_append]
   split <;> rfl
  rw[e] at ih
  have ht:=h t (List.mem_cons_self ..)
  show (textFrom (k + 1) _ r).length<=_
  have e2:c * (t :: r).length=c * r.length + c:=by rw[List.length_cons,Nat.mul_succ]
  rw[e2]
  have:(if k > 0 then 2 else 0:Nat)<=2:=by split <;> omega
  omega
end RM

end

section
namespace L2
open PySem PySem.Spec PyProof.Rows
section
variable {X:Cx}{pins:List (Addr×Obj)}{σ:St}{H:Hp}{s:Shared}
theorem Inv.turnedL {t':Nat}{ch:List Addr}{h':Heap}(I:Inv X pins σ H s)(k:∀b o,b∉ch->s.heap.get? b=some o->h'.get? b=some o)(hf:∀b∈ch,mU X pins H b):Inv X pins σ H {s with heap:=h',toks:=t'}:=by
 have nit:∀b u,H b=some u->b∉ch:=fun b u e z=>by rw[(hf b z).1] at e;cases e
 have nL:X.env.locals∉ch:=fun z=>(hf _ z).2.1 rfl
 refine I.step (g':=s.gens) (d':=s.drawn) (ch:=ch) (fun b hb=>?_) (fun b o _ _ hc e _=>k b o hc e) (fun b o _ _ hc e _=>⟨o.slots,k b o hc e⟩) (fun _ _ _ _ n=>n)
  (fun b o hc e=>⟨o,k b o hc e⟩) (fun _ _ e=>e) (fun _ _ _ e=>e) (fun b ps e=>⟨#[],by rw[e];simp⟩) (fun m hm=>?_) (fun b u e=>?_) I.bare
 ·obtain⟨f0,f1,f2,f3,f4,f5⟩:=hf b hb
  exact⟨f3,f1,f4,f5⟩
 ·obtain⟨o,es,ep,ho,r⟩:=hm
  exact⟨o,es,ep,k _ o nL ho,r⟩
 ·refine (I.hok b u e).stay (fun c v hc q=>k c v ?_ q) (fun _ q=>q) fun _ _ q=>q
  rcases hc with z |z
  ·rw[z];exact nit b u e
  ·exact nit c _ z
end
theorem GR {n:Nat}(i j:Nat)(h:(i == j)=false):(n + i:Nat)≠n + j:=by
 have:i≠j:=by simpa using h
 omega
end L2

end

section

end

section
namespace L2
open PySem PySem.Spec PyProof.Rows
section
variable {κ:Type}[DecidableEq κ]
def CA (kvs:List (κ×V))(k:κ):Option V:=(kvs.find? fun kv=>decide (kv.1=k)).map (·.2)
def putK (kvs:List (κ×V))(k:κ)(v:V):List (κ×V):=
 if (kvs.any fun kv=>decide (kv.1=k))=true then kvs.map (fun kv=>if kv.1=k then (kv.1,v) else kv) else kvs ++ [(k,v)]
def D9 (kvs:List (κ×V))(k:κ):List (κ×V):=kvs.filter fun kv=>decide (kv.1≠k)
theorem KV.any {kvs:List (κ×V)}{vs:List (κ×Value)}(r:KV kvs vs)(k:κ):(kvs.any fun kv=>decide (kv.1=k))=vs.any fun kv=>decide (kv.1=k):=by
 unfold KV at r
 induction r with
 |nil=>rfl
 |cons h t ih=>rw[List.any_cons,List.any_cons,ih,h.1]
theorem KV.drop {kvs:List (κ×V)}{vs:List (κ×Value)}(r:KV kvs vs)(k:κ):KV (D9 kvs k) (without vs k):=by
 unfold KV at r ⊢
 unfold D9 without
 induction r with
 |nil=>exact .nil
 | @cons p q ps qs h t ih=>
  obtain⟨h1,h2⟩:=h
  rw[List.filter_cons,List.filter_cons]
  by_cases e:p.1=k
  ·have a:¬decide (p.1≠k)=true:=by simp[e]
   have b:¬decide (q.1≠k)=true:=by simp[h1.symm.trans e]
   rw[if_neg a,if_neg b];exact ih
  ·have e':¬q.1=k:=fun z=>e (h1.trans z)
   have a:decide (p.1≠k)=true:=by simp[e]
   have b:decide (q.1≠k)=true:=by simp[e']
   rw[if_pos a,if_pos b];exact .cons ⟨h1,h2⟩ ih
end
def Dm (H:Hp)(a:Addr)(y:V)(r:Option V):Prop:=
 (∃kvs k,Rd H a (.dK kvs)/\y=kV k/\r=CA kvs k)\/∃kvs k b,Rd H a (.dT kvs)/\y=.ref b/\H b=some (.tup (k.map kV))/\r=CA kvs k
def Dp (H:Hp)(a:Addr)(y v:V)(H':Hp):Prop:=
 (∃kvs k,H a=some (.dK kvs)/\y=kV k/\kvs.length < sizeLine/\H'=upd H a (.dK (putK kvs k v)))\/
 ∃kvs k b,H a=some (.dT kvs)/\y=.ref b/\H b=some (.tup (k.map kV))/\kvs.length < sizeLine/\H'=upd H a (.dT (putK kvs k v))
theorem Dm.k {H:Hp}{a:Addr}{kvs:List (Key×V)}{k:Key}(e:H a=some (.dK kvs)):Dm H a (kV k) (CA kvs k):=.inl ⟨kvs,k,.inl e,rfl,rfl⟩
theorem Dm.t {H:Hp}{a b:Addr}{kvs:List (List Key×V)}{k:List Key}(e:H a=some (.dT kvs))(eb:H b=some (.tup (k.map kV))):Dm H a (.ref b) (CA kvs k):=.inr ⟨kvs,k,b,.inl e,rfl,eb,rfl⟩
theorem Dp.k {H:Hp}{a:Addr}{kvs:List (Key×V)}{k:Key}{v:V}(e:H a=some (.dK kvs))(hl:kvs.length < sizeLine):Dp H a (kV k) v (upd H a (.dK (putK kvs k v))):=.inl ⟨kvs,k,e,rfl,hl,rfl⟩
theorem Dp.t {H:Hp}{a b:Addr}{kvs:List (List Key×V)}{k:List Key}{v:V}(e:H a=some (.dT kvs))(eb:H b=some (.tup (k.map kV)))(hl:kvs.length < sizeLine) :
  Dp H a (.ref b) v (upd H a (.dT (putK kvs k v))):=.inr ⟨kvs,k,b,e,rfl,eb,hl,rfl⟩
section
variable {X:Cx}{pos:Pos}
end
end L2

end

section
namespace L2
open PySem PySem.Spec PyProof.Rows
mutual
def Ep:D->Bool
 | .list ds=>B6 ds
 | .tuple ds=>B6 ds
 | .dict kvs=> !kvs.isEmpty && kvs.all fun kv=>match kv.1,kv.2 with
  | .str _,.int _=>true
  |_,_=>false
 |_=>true
def B6:List D->Bool
 | []=>true
 |d :: ds=>Ep d && B6 ds
end
end L2

end

section
namespace L2
open PySem PySem.Spec PyProof.Rows
section
variable {prog:Program}{w:World}{A:Around}{E:Value->Shared->Prop}{s:Shared}{it t:Addr}{i:Nat}{xs:Array Value}{Q:Value->Shared->Prop}
theorem Jo (hi:s.heap.IsTupleIter it t i)(ht:s.heap.IsTuple t xs)
  (k1:∀x,xs[i]? =some x->∀h',h'.IsTupleIter it t (i + 1)->Heap.SameBut it s.heap h'->Q x {s with heap:=h'})
  (k2:xs[i]? =none->A.handled=none/\∀h' e,Heap.ExtBut it s.heap h'->(∃o,h'.get? e=some o/\o.cls=.type "StopIteration")->E (.ref e) {s with heap:=h'}) :
  wpAny (model prog w) A (Builtin.SmallTypes.nextOf (.ref it)) Q E s:=by
 obtain⟨o,ho,hc,hd⟩:=id hi
 obtain⟨ol,hol, -,nl,hdl⟩:=ht
 refine wpAny_bind (wpAny_callSpecial?_slot (name:=Str.ofString "__next__") hi.typeIs F.slot_tuple_iterator_next (wpAny_call_entry F.slot_tuple_iterator_next hi.typeIs F.entry_tuple_iterator_next ?_ (F.args_tuple_iterator_next_1 _)))
 refine (show wpAny _ _ (field (.ref it) 0 >>= _) _ _ s from wpAny_bind (wpAny_field ho hd (x:=.ref t) rfl ?_))
 refine (show wpAny _ _ (if (Value.ref t == Value.none)=true then _ else _) _ _ s from ?_)
 rw[if_neg (by exact Bool.false_ne_true)]
 refine (show wpAny _ _ (field (.ref it) 1 >>= _) _ _ s from wpAny_bind (wpAny_field ho hd (x:=.int i 0) rfl ?_))
 refine (show wpAny _ _ (seqItems? (.ref t) >>= _) _ _ s from wpAny_bind (wpAny_seqItems hol hdl ?_))
 cases hx:xs[i]? with
 |some x=>
  simp only[Int.toNat_natCast,hx]
  refine wpAny_bind (wpAny_setField ho hd (by simp) (wpAny_pure ⟨x,rfl,wpAny_pure (k1 x hx _ ?_ (Heap.SameBut.update ..))⟩))
  refine⟨_,Heap.get?_update_self _ ho (Obj.isFreed_of_fields (Obj.data_mapFields hd _)),(Obj.cls_mapFields ..).trans hc,?_⟩
  rw[Obj.data_mapFields hd]
  simp[rawInt]
 |none=>
  obtain⟨hh,hE⟩:=k2 hx
  simp only[Int.toNat_natCast,hx]
  refine wpAny_bind (wpAny_rule (wpAny_bind (wpAny_setField ho hd (by simp) (show wpAny _ _ (newExc (.type "StopIteration") [] >>= _) _ _ _ from wpAny_bind ?_))))
  simp only[newExc,newTuple]
  refine wpAny_bind (wpAny_newObj_type (wpAny_bind (m:=firstArgMember _ _) (wpAny_of_eq (a:=Value.none) (by first |rfl | (simp only[firstArgMember];rfl)) (wpAny_newObj_type ?_ (by size_fits)))) (by size_fits))
  simp only[raiseNew]
  refine wpAny_bind (wpAny_handled ?_)
  have hh':A.in1.handled=none:=hh
  first |rw[hh'] |rw[hh]
  exact wpAny_bind (wpAny_pure (wpAny_throw (hE _ _ (((Heap.SameBut.update ..).extBut.push _).push _) ⟨_,Heap.get?_push_size _ rfl,rfl⟩)))
theorem EW (hh:A.handled=none)(hne:t≠it)(xs:Array Value):Draws prog w A it [it,t] xs.size (fun i v=>xs[i]? =some v) (fun i h=>h.IsTupleIter it t i/\h.IsTuple t xs) where
 live:=fun _ _ st=>let ⟨o,ho,_⟩:=st.1;⟨o,ho⟩
 frame:=fun _ _ _ st hk=>⟨st.1.at fun o e=>hk it (by simp) o e,st.2.at fun o e=>hk t (by simp) o e⟩
 item:=fun i s Q E hi st k=>Jo st.1 st.2 (fun x hx h' q1 q2=>k x h' s.toks hx ⟨q1,st.2.extBut q2.extBut hne⟩ q2) fun z=>by simp at z;omega
 done:=fun s Q E st k=>Jo st.1 st.2 (fun x hx=>by simp at hx) fun _=>⟨hh,k⟩
end
abbrev GB (t:Addr):Obj:={cls:=.type "tuple_iterator",data:=.fields #[.ref t,.int 0 0]}
abbrev IA (it:Addr):Obj:={cls:=.type "enumerate",data:=.fields #[.none,.bool false,.ref it,rawInt 0,.none,.none]}
theorem BD (t:Addr)(xs:Array Value)(n:Nat)(dc:Option Addr)(sl:Array (Option Value)) :
  Meets (Builtin.«enumerate.__new__» ⟨[.type "enumerate",.ref t],[]⟩) (fun _ R s=>s.heap.get? t=some ⟨.type "tuple",dc,.seq xs n,sl⟩/\
   R (.ok (.ret (.ref (s.heap.push (GB t)).objs.size))) {s with heap:=(s.heap.push (GB t)).push (IA s.heap.objs.size)}):=by
 refine .of_wp fun prog w A R s h=>?_
 obtain⟨hp,g,d,tk,os⟩:=s
 obtain⟨hl,h⟩:=h
 have sb:=sub_enumerate
 have hT:Heap.IsTuple (Shared.heap ⟨hp,g,d,tk,os⟩) t xs:=⟨_,hl,rfl,n,rfl⟩
 wp_walk using AutoSeq1.wpAny_loadPart' hl
 refine wpAny_stack_any fun st=>wpAny_pure ?_
 split
 ·rename_i c _ _ _ _ _
  cases (c == Value.type "enumerate") <;> (wp_walk using AutoSeq1.wpAny_loadPart' hl,wpAny_pyIter_tuple hT;exact⟨_,rfl,h⟩)
 ·wp_walk using AutoSeq1.wpAny_loadPart' hl,wpAny_pyIter_tuple hT
  exact⟨_,rfl,h⟩
section
variable {prog:Program}{w:World}{A:Around}{E:Value->Shared->Prop}{s:Shared}
theorem wd {t:Addr}{xs:Array Value}{Q:Value->Shared->Prop}(hT:s.heap.IsTuple t xs)
  (k:∀h',IsEnum h' (s.heap.objs.size + 1) s.heap.objs.size 0 .none->h'.IsTupleIter s.heap.objs.size t 0->(∀b o,s.heap.get? b=some o->h'.get? b=some o)->Q (.ref (s.heap.objs.size + 1)) {s with heap:=h'}) :
  wpAny (model prog w) A (call (.type "enumerate") [.ref t]) Q E s:=by
 obtain⟨⟨c,dc,dt,sl⟩,hl,hc,n,hd⟩:=hT
 have hc:c=.type "tuple":=hc
 have hd:dt=.seq xs n:=hd
 subst hc hd
 refine callType_new F.called_enumerate (by decide) (F.typeCall_enumerate_1 _) (F.newCall_enumerate_1 _) (fun ob=>F.args_object_init_2 ob _) F.entry_enumerate_new (BD t xs n dc sl) ⟨hl,?_⟩
 have hz:(s.heap.push (GB t)).objs.size=s.heap.objs.size + 1:=Heap.size_push ..
 have g2:((s.heap.push (GB t)).push (IA s.heap.objs.size)).get? (s.heap.push (GB t)).objs.size=some (IA s.heap.objs.size):=Heap.get?_push_size _ rfl
 have g1:((s.heap.push (GB t)).push (IA s.heap.objs.size)).get? s.heap.objs.size=some (GB t):=Heap.get?_push_of_some _ (Heap.get?_push_size _ rfl)
 rw[hz] at g2
 show _/\_
 rw[hz]
 exact⟨⟨_,g2,rfl⟩,k _ g2 ⟨_,g1,rfl,rfl⟩ fun b o e=>Heap.get?_push_of_some _ (Heap.get?_push_of_some _ e)⟩
end
end L2

end

section
namespace L2
open PySem PySem.Spec PyProof.Rows
theorem FJ {prog:Program}{w:World}{A:Around}{it t:Addr}{xs:Array Value}(hh:A.handled=none)(i:Nat)(hx:xs[i]? =none):Draws prog w A it [it,t] i (fun _ _=>False) (fun j h=>j=i/\h.IsTupleIter it t i/\h.IsTuple t xs) where
 live:=fun _ _ st=>let ⟨o,ho,_⟩:=st.2.1;⟨o,ho⟩
 frame:=fun _ _ _ st hk=>⟨st.1,st.2.1.at fun o e=>hk it (by simp) o e,st.2.2.at fun o e=>hk t (by simp) o e⟩
 item:=fun j s Q E hi st k=>absurd st.1 (by omega)
 done:=fun s Q E st k=>Jo st.2.1 st.2.2 (fun x h=>by rw[hx] at h;cases h) fun _=>⟨hh,k⟩
def Jy (K:PySem.W.Frag)(a:Addr):It:=
 ⟨fun i H=>∃xs x,fy K H a xs/\xs[i]? =some x,
  fun i H v H'=>∃x t,H t=none/\(∀xs,fy K H a xs->xs[i]? =some x)/\v=.ref t/\H'=upd H t (.tup [.int i,x]),
  fun i H=>∃xs,fy K H a xs/\xs.length<=i⟩
abbrev rk (n:Nat):List Nat:=[n + 1,n]
theorem yM {h:Heap}{a n:Addr}{i:Nat}{its:Array Value}{b:Addr}(p:h.IsTuple a its)(q:h.IsTupleIter n b i):a≠n:=fun z=>by
 subst z
 obtain⟨o,e,c,_⟩:=p
 obtain⟨o',e',c',_⟩:=q
 rw[e] at e';cases e'
 rw[c] at c'
 simp at c'
theorem zN {h:Heap}{a n it:Addr}{i:Int}{its:Array Value}{old:Value}(p:h.IsTuple a its)(q:IsEnum h n it i old):n≠a:=fun z=>by
 subst z
 obtain⟨o,e,c,_⟩:=p
 rw[q] at e;cases e
 simp at c
theorem wj {P:Program}{w:World}{K:PySem.W.Frag}{elts:List Expr}{x1}{pos:Pos}(a:Addr)(n:Nat):Turn P w K (.Tuple elts x1 pos) (Jy K a) (rk n) (n + 1)
  (fun i h=>(∃old,IsEnum h (n + 1) n i old)/\h.IsTupleIter n a i) where
 mem:=by simp
 obj:=fun i h st c hc=>by
  obtain⟨⟨old,z1⟩,⟨o2,z2,_,d2⟩⟩:=st
  simp only[rk,List.mem_cons,List.not_mem_nil,or_false] at hc
  rcases hc with rfl |rfl
  ·exact⟨_,z1,fun v z=>by
    have z':Data.fields _=Data.cell v:=z
    cases z'⟩
  ·exact⟨o2,z2,fun v z=>by rw[d2] at z;cases z⟩
 keep:=fun i h h' st k=>by
  obtain⟨⟨old,z1⟩,z2⟩:=st
  exact⟨⟨old,k _ (by simp) _ z1⟩,z2.at fun o e=>k _ (by simp) o e⟩
 item:=by
  intro X hP hw hK hc i pins s σ H E I hf st hg
  subst hP hw hK
  obtain⟨xs,x,ha,hx⟩:=hg
  obtain⟨its,rv,p,hz⟩:=I.tuple ha
  have p:s.heap.IsTuple a its.toArray:=p
  obtain⟨u0,hu0,ru0⟩:=rv.get hx
  obtain⟨⟨old,z1⟩,z2⟩:=st
  have hh:X.A.in1.handled=none:=I.ok.hd hc
  have hlt:i < its.toArray.size:=by
   have:=List.getElem?_eq_some_iff.mp hu0
   simpa using this.1
  refine wpAny_pyNext_enum_itemD (EW hh (yM p z2) its.toArray) z1 ⟨z2,p⟩ hlt (GR 1 0 rfl) (by
   simp only[List.mem_cons,List.not_mem_nil,or_false,not_or]
   exact⟨GR 1 0 rfl,zN p z1⟩) fun u h' tk hu q1 q2 q3 q4 q5=>?_
  have eu:u0=u:=by
   have hu:its.toArray[i]? =some u:=hu
   rw[List.getElem?_toArray,hu0] at hu
   exact Option.some.inj hu
  subst eu
  refine⟨_,rfl,wpAny_letOwnedTupleGo_enum (s:={s with heap:=h',toks:=tk + 1}) q1 fun h2 r1 r2=>?_⟩
  have r2:∀c,c≠n + 1->h2.get? c=h'.get? c:=r2.2
  have lz:n + 1 < s.heap.objs.size:=Heap.lt_size z1
  have hT:H s.heap.objs.size=none:=I.hok.fresh (Nat.le_refl _)
  have I1:Inv X pins σ (upd H s.heap.objs.size (.tup [.int i,x])) {s with heap:=s.heap.push {cls:=.type "tuple",data:=.seq #[.int i tk,u0]},toks:=s.toks}:=
   I.laid (fun b o e=>Heap.get?_push_of_some _ e) (Nat.le_refl _) ⟨by show 2<=sizeLine;rw[sizeLine_eq];omega,[.int i tk,u0],.cons ⟨tk,rfl⟩ (.cons ru0 .nil),rM.new _ _⟩
  have hf':∀c∈rk n,mU X pins (upd H s.heap.objs.size (.tup [.int i,x])) c:=fun c hc=>⟨by
   rw[ay (fun z=>?_)]
   ·exact (hf c hc).1
   ·subst z
    simp only[rk,List.mem_cons,List.not_mem_nil,or_false] at hc
    omega,(hf c hc).2⟩
  have I2:Inv X pins σ (upd H s.heap.objs.size (.tup [.int i,x])) {s with heap:=h2,toks:=tk + 1}:=by
   refine I1.turnedL (ch:=rk n) (fun c o hc e=>?_) hf'
   have e:(s.heap.push {cls:=.type "tuple",data:=.seq #[.int i tk,u0]}).get? c=some o:=e
   simp only[rk,List.mem_cons,List.not_mem_nil,or_false,not_or] at hc
   rw[r2 c hc.1]
   by_cases z:c=s.heap.objs.size
   ·subst z
    rw[Heap.get?_push_size _ rfl] at e
    rw[<-e];exact q3
   ·refine q5 c o hc.1 hc.2 ?_
    rw[Heap.get?_push_ne _ _ _ z] at e
    exact e
  refine⟨.ref s.heap.objs.size,_,I2,rfl,⟨x,_,hT,fun xs' h'=>?_,rfl,rfl⟩,⟨⟨u0,r1⟩,q2.1.at fun o e=>(r2 _ (GR 0 1 rfl)).trans e⟩,fun c hc=>(hf' c hc).1⟩
  rw[I.tuple_inj h' ha];exact hx
 done:=by
  intro X hP hw hK hc i pins s σ H E I hf st hg
  subst hP hw hK
  obtain⟨xs,ha,hl⟩:=hg
  obtain⟨its,rv,p,hz⟩:=I.tuple ha
  obtain⟨⟨old,z1⟩,z2⟩:=st
  have hh:X.A.in1.handled=none:=I.ok.hd hc
  have l1:=rv.length
  refine wpAny_pyNext_enum_endD (FJ hh i (xs:=its.toArray) (by simp;omega)) z1 ⟨rfl,z2,p⟩ fun h' q=>⟨rfl,?_⟩
  refine I.turnedL (t':=s.toks) (ch:=rk n) (fun c o hc e=>?_) hf
  simp only[rk,List.mem_cons,List.not_mem_nil,or_false,not_or] at hc
  exact q c o hc.2 e
 self:=fun _ _ _ _ _ st h=>by
  obtain⟨⟨old,z1⟩,_⟩:=st
  exact wpAny_pyIter_enum z1 h
def Kn (K:PySem.W.Frag)(ta:TA):TI:=fun σ H R=>ta σ H fun vs H2=>∃a xs,vs= [.ref a]/\fy K H2 a xs/\R (Jy K a) H2
theorem qG:bootBuiltins "enumerate"=some (.type "enumerate"):=by decide +kernel
section
variable {X:Cx}
theorem Gs {a:Expr}{ta:TA}{p pos pt:Pos}{elts:List Expr}{x1}(hg:Gl X "enumerate")(hm:X.mg "enumerate"=none)(ha:PA X [a] ta)(hs:starEach [a] X.env= [(false,eval a X.env)]:=by rfl) :
  PI X (.Tuple elts x1 pt) (.Call (.Name "enumerate" p) [a] [] pos) (Kn X.K ta):=by
 intro pins s σ H R I h
 refine Call_ (ki I hg hm qG (PyProof.Rows.callWith_type1 (cK (ha pos pins s σ H _ I h) fun us s1 ⟨vs,H1,I1,r1,q1⟩=>?_) hs rfl))
 obtain⟨a,xs,e,h1,q⟩:=q1
 subst e
 cases r1 with
 |cons r rr=>
  cases rr
  cases r
  obtain⟨its,rv,p1,hz⟩:=I1.tuple h1
  refine wd (show s1.heap.IsTuple a its.toArray from p1) fun h' z1 z2 z3=>?_
  refine wpAny_pyIter_enum z1 ⟨_,rk s1.heap.objs.size,_,_,H1,rfl,I1.kept (t':=s1.toks) z3,wj a s1.heap.objs.size,⟨⟨_,z1⟩,z2⟩,fun c hc=>?_,q⟩
  have:s1.heap.objs.size<=c:=by
   simp only[rk,List.mem_cons,List.not_mem_nil,or_false] at hc
   rcases hc with rfl |rfl <;> first |exact Nat.le_refl _ |exact Nat.le_add_right _ _
  exact I1.fpOk this (I1.hok.fresh this)
end
section
variable {X:Cx}{Γ:Fx}{E:XK}{e a b c:Expr}{f fa fb:VF D}{L La Lb:List Nat}{md ma mb:Md}{pos:Pos}
def dm (ds:List D):List D:=ds.mapIdx fun i d=>.tuple [.int i,d]
def AX (fa:VF D):VF (List D):=fun vs β=>(fa vs β).bnd fun x β1=>match x with
 | .tuple ds=>.ok (dm ds) β1
 |_=>.bad
theorem Ck {K:PySem.W.Frag}{B:Option Addr}{G H1:Hp}{p:Addr}{xs:List V}{ds:List D}(hp:fy K G p xs)(r:b8 K G xs ds):Walk K B G H1 (dm ds) (Jy K p):=fun Gc H i s1 s2 m=>by
 have hp':=hp.grow (s1.trans s2).grow
 have l1:=r.len
 have lz:(dm ds).length=ds.length:=by unfold dm;rw[List.length_mapIdx]
 refine⟨fun hi=>⟨?_,fun x H' y=>?_⟩,fun hi=>⟨xs,hp',by omega⟩⟩
 ·have h1:i < xs.length:=by omega
  exact⟨xs,xs[i],hp',by simp[h1]⟩
 ·obtain⟨x,t,ht,hx,rfl,rfl⟩:=y
  obtain⟨d,ed,rd⟩:=r.at' (hx xs hp')
  have xn:=Ext.new s2 (o:=.tup [.int i,x]) ht
  refine⟨upd Gc t (.tup [.int i,x]),.tuple [.int i,d],xn,?_,.tup (.inl (.inl az)) (.cons (.int i) (.cons (rd.mono (s1.trans xn.gg)) .nil))⟩
  unfold dm
  rw[List.getElem?_mapIdx,ed];rfl
theorem Ax {p pt:Pos}{elts:List Expr}{x1}(hK:X.K=Γ.K)(hg:Gl X "enumerate")(hm:X.mg "enumerate"=none)(ha:SE X Γ E a fa La ma)(hs:starEach [a] X.env= [(false,eval a X.env)]:=by rfl)(hs':starEach [a] X.env=(false,eval a X.env) :: starEach [] X.env:=by rfl) :
  SI X Γ E (.Tuple elts x1 pt) (.Call (.Name "enumerate" p) [a] [] pos) (AX fa) La md:=by
 refine PI.post (Gs hg hm (aN ha bA hs') hs) ?_
 rintro σ H Q ⟨env,G,B,β,I,o⟩
 refine⟨env,G,B,β,I,o.bnd.imp fun d1 β1 h x G1 H1 I1 s1 m1 vx=>?_⟩
 have vx:=vx.brw I.boxThere
 rw[hK]
 cases d1 with
 |tuple ds=>
  rcases vx with vx | ⟨p,rfl,hb,q⟩
  ·cases vx with
   | @tup p xs _ hq r=>exact⟨p,xs,rfl,hq.grow I1.sub.grow,h _ G1 H1 I1 s1 m1 (Ck hq r)⟩
  ·exact q.elim
 |_=>exact h.elim
end
end L2

end

section

end

section

end

section

end

section

end

section

end

section

end

section
namespace L2.ST
open PySem PySem.SetTable
section
variable {prog:Program}{w:World}{A:Around}{E:Value->Shared->Prop}{s:Shared}
set_option maxHeartbeats 3200000 in
theorem qi {l:Addr}{vs:List Value}{ns:List Int}{T:String}{itO:Obj}{St:Addr->Nat->Heap->Prop}{Q:Value->Shared->Prop}(X:Src prog w s.heap l vs T itO St)(hh:A.handled=none)(hi:PyProof.Rows.IntsAre vs ns)(hb:vs.length + 1 < scanBound)
  (h:∀(h':Heap) (tk:Nat),h'.SetOf (intKind prog w) s.heap.objs.size (fun k'=>(PyProof.Rows.firstMet (fun i=>ns.getD i 0) vs.length).any (· == k')) (PyProof.Rows.firstMet (fun i=>ns.getD i 0) vs.length).length->(∀b o,s.heap.get? b=some o->h'.get? b=some o)->Q (.ref s.heap.objs.size) {s with heap:=h',toks:=tk}) :
  wpAny (model prog w) A (call (.type "set") [.ref l]) Q E s:=by
 obtain⟨c0,tl0,hmro0⟩:=F.called_set.mro
 have hmade0:=F.called_set.made
 have hsub0:=F.called_set.sub
 refine wpAny_call (codeAny_of_tree ?_)
 show wpAny _ _ (callAny (.type "set") ⟨[.ref l],[]⟩) _ _ _
 refine wpAny_pure ⟨Code.quiet_builtin _ (by decide +kernel),codeAny_builtin F.entry_type_call ?_⟩
 (rw[Around.under_plain (weight_type_call_type "set" [.ref l] []) rfl])
 have g1:=F.called_set.notType
 have g2:=F.called_set.canCreate
 have g3:=F.typeCall_set_1 (.ref l)
 repeat (any_goals (first |assumption |wp_step))
 refine codeAny_mono (nq (.ref l) (E:=E) (Q1:=fun obj s1=>obj=.ref s.heap.objs.size/\s1={s with heap:=s.heap.push {cls:=.type "set",dict:=none,data:=.set #[] 0 (.fresh 0 0 (fY w))}}) ⟨rfl,rfl⟩) fun r s1 hr=>?_
 cases r with
 |error e=>exact hr
 |ok fl=>
  cases fl with
  |ret obj=>
   obtain⟨rfl,rfl⟩:=hr
   generalize hO:({cls:=.type "set",dict:=none,data:=.set #[] 0 (.fresh 0 0 (fY w))}:Obj)=O
   have hS0:(s.heap.push O).get? s.heap.objs.size=some O:=Heap.get?_push_size _ (by rw[<-hO];rfl)
   have hT0:Shared.TypeIs {s with heap:=s.heap.push O} (.ref s.heap.objs.size) "set":=⟨_,hS0,by rw[<-hO]⟩
   have g4:=F.called_set.init.lookup
   have g5:=F.called_set.init.bind (.ref s.heap.objs.size)
   repeat (any_goals (first |assumption |wp_step))
   refine codeAny_mono (codeAny_call_builtin (R:=wants (fun r s2=>r=.none/\∃h' tk,s2={s with heap:=h',toks:=tk}/\h'.SetOf (intKind prog w) s.heap.objs.size (fun k'=>(PyProof.Rows.firstMet (fun i=>ns.getD i 0) vs.length).any (· == k')) (PyProof.Rows.firstMet (fun i=>ns.getD i 0) vs.length).length/\(∀b o,s.heap.get? b=some o->h'.get? b=some o)) E)
    F.called_set.init.plain F.entry_set_init (check_set_init_1 hT0 ?_)) fun r2 s2 hr2=>?_
   ·obtain⟨ol,hol,hcl⟩:=X.ty
    have hol':(s.heap.push O).get? l=some ol:=Heap.get?_push_of_some _ hol
    have e1:=X.ns
    have e2:=X.nf
    have e3:=X.nd
    have hTl:Shared.TypeIs {s with heap:=s.heap.push O} (.ref l) T:=⟨ol,hol',hcl⟩
    have hdat:O.data=.set #[] 0 (.fresh 0 0 (fY w)):=by rw[<-hO]
    (unfold Builtin.«set.__init__» noKeywords Builtin.Frozenset.updateFrom)
    subst hO
    obtain⟨oc,od,odt,osl⟩:=ol
    simp only at hcl
    subst hcl
    (generalize hPI0:pyIter=PI0)
    wp_walk
    subst hPI0
    have kp:∀b o,s.heap.get? b=some o->(s.heap.push {cls:=.type "set",dict:=none,data:=.set #[] 0 (.fresh 0 0 (fY w))}).get? b=some o:=fun b o e=>Heap.get?_push_of_some _ e
    refine X.it _ _ _ _ kp ?_
    refine wpAny_bind (wpAny_runValue ?_)
    have hlS:l < s.heap.objs.size:=Heap.lt_size hol
    have hh3:A.in1.in1.in1.handled=none:=by simp[hh]
    have hneI:l≠(s.heap.push {cls:=.type "set",dict:=none,data:=.set #[] 0 (.fresh 0 0 (fY w))}).objs.size:=by
     rw[Heap.size_push];exact Nat.ne_of_lt (Nat.lt_succ_of_lt hlS)
    have hSf:s.heap.objs.size∉ [(s.heap.push {cls:=.type "set",dict:=none,data:=.set #[] 0 (.fresh 0 0 (fY w))}).objs.size,l]:=by
     rw[Heap.size_push]
     intro z
     rcases List.mem_cons.mp z with e |z
     ·exact absurd e (Nat.ne_of_lt (Nat.lt_succ_self _))
     ·exact absurd (List.mem_singleton.mp z) (Nat.ne_of_gt hlS)
    refine PyProof.Rows.codeAny_set_update_loopS ((X.wk _ _ hh3 hneI).toS) s.heap.objs.size hSf (fun i=>ns.getD i 0) (fun i v e=>PyProof.Rows.IntsAre.int_at hi i v e) hb (vs.length - 0) 0 _ (by omega) (Nat.zero_le _) (X.st _ kp) ?_ ?_
    ·exact PyProof.Rows.SetOf_congr ((PyProof.Rows.setObjOf_fresh (knd:=intKind prog w) (fY w)).setOf (Heap.get?_push_of_some _ hS0) (by unfold scanBound;omega)) (fun _=>rfl) rfl
    ·intro s' hm F'
     obtain⟨h',g',d',tk,os'⟩:=s'
     have eg:g'=s.gens:=hm.gens
     have ed:d'=s.drawn:=hm.drawn
     have eo:os'=s.os:=hm.os
     subst eg;subst ed;subst eo
     show wpAny _ _ _ _ _ _
     refine wpAny_pure ?_
     show wpAny _ _ (ret Value.none) _ _ _
     refine wpAny_pure ⟨rfl,h',tk,rfl,F',fun b o e=>hm.heap b o (fun z=>?_) (Heap.get?_push_of_some _ (kp b o e))⟩
     have hlt:=Heap.lt_size e
     rw[Heap.size_push] at z
     rcases List.mem_cons.mp z with z |z
     ·exact absurd hlt (by rw[z];exact Nat.lt_irrefl _)
     ·rw[List.mem_singleton.mp z] at hlt
      exact absurd hlt (Nat.not_lt.mpr (Nat.le_succ _))
   ·cases r2 with
    |error e=>exact hr2
    |ok fl2=>
     cases fl2 with
     |ret r=>
      obtain⟨rfl,h',tk,rfl,hF,hk⟩:=hr2
      repeat (any_goals (first |assumption |wp_step))
      exact h _ _ hF hk
     |_=>exact hr2.elim
  |_=>exact hr.elim
end
end L2.ST

end

section
namespace L2
open PySem PyProof.Rows
section
variable {X:Cx}{K:PySem.W.Frag}{pins:List V}{σ:St}{H:Hp}{s:Shared}{E:XK}
def Hm (ns:List Int)(k:Int):Bool:=(firstMet (fun i=>ns.getD i 0) ns.length).any (· == k)
def pU (ns:List Int):Nat:=(firstMet (fun i=>ns.getD i 0) ns.length).length
def El (K:PySem.W.Frag):List V->Hp->VK->Prop:=fun xs H Q=>∃a ns,xs= [.ref a]/\(gk K H a (ns.map V.int)\/fy K H a (ns.map V.int))/\ns.length<=1000/\∀S,H S=none->Q (.ref S) (upd H S (.set (Hm ns) (pU ns)))
theorem zj (hc:X.calm=true):cX X (.type "set") (El X.K):=by
 intro pins s σ H xs us Q I r h
 obtain⟨a,ns,rfl,hq,hz,q⟩:=h
 obtain⟨u,rfl,rx⟩:=vals1 r
 cases rx
 have hh:=I.ok.hd hc
 have core:∀{its:List Value} {T:String} {itO:Obj} {St:Addr->Nat->Heap->Prop},Vals (ns.map V.int) its->L2.ST.Src X.prog X.w s.heap a its T itO St->wpAny (model X.prog X.w) X.A (call (.type "set") [.ref a]) (EP X pins σ Q) X.xe s:=fun {its T itO St} rv src=>by
  have hl:its.length=ns.length:=by rw[<-rv.length,List.length_map]
  refine L2.ST.qi src hh (intsAre_of rv) (by unfold scanBound;omega) fun h' tk F k=>?_
  rw[hl] at F
  exact⟨.ref _,_,I.laid (t':=tk) (o:=.set (Hm ns) (pU ns)) k (Nat.le_refl _) F,rfl,q _ (I.hok.fresh (Nat.le_refl _))⟩
 rcases hq with hq |hq
 ·obtain⟨its,rv,pl,hz⟩:=I.list hq
  exact core rv (L2.ST.Src.list pl.isList)
 ·obtain⟨its,rv,pl,hz⟩:=I.tuple hq
  exact core rv (L2.ST.Src.tuple pl)
theorem yJ:cX X (.builtin "len") (fun xs H Q=>∃S f n,xs= [.ref S]/\H S=some (.set f n)/\Q (.int n) H):=by
 intro pins s σ H xs us Q I r h
 obtain⟨S,f,n,rfl,hS,q⟩:=h
 obtain⟨u,rfl,rx⟩:=vals1 r
 cases rx
 obtain⟨o,es,ep,t,ho,hex,hd,_,_,hb,hf,e⟩:s.heap.SetOf (intKind X.prog X.w) S f n:=I.hok _ _ hS
 refine call_len_set ho hex hd hf (by unfold scanBound at hb;omega) ⟨.int n,H,I.tok _,⟨_,by rw[e]⟩,q⟩
def nW (d:D):Option D:=match lx d with
 |some ds=>(match gW ds with
  |some ns=>if ns.length<=1000 then some (.int (pU ns)) else none
  |none=>none)
 |none=>none
theorem b8.intsB {G:Hp}:∀{ns:List Int} {xs:List V},b8 K G xs (ns.map PyData.int)->xs=ns.map V.int
 | [],_,.nil=>rfl
 |n :: ns,_,.cons r t=>by cases r;rw[b8.intsB t];rfl
variable {Γ:Fx}{e a b c:Expr}{f fa fb fc:VF D}{L La Lb:List Nat}{md ma mb mc:Md}{pos:Pos}
theorem ze {p1 p2 pos2:Pos}(hc:X.calm=true)(hK:X.K=Γ.K)(hg:Gl X "len")(hm:X.mg "len"=none)(hg2:Gl X "set")(hm2:X.mg "set"=none)(ha:SE X Γ E a fa La ma)
  (he:starEach [a] X.env=(false,eval a X.env) :: starEach [] X.env:=by rfl)
  (he2:starEach [.Call (.Name "set" p2) [a] [] pos2] X.env=(false,eval (.Call (.Name "set" p2) [a] [] pos2) X.env) :: starEach [] X.env:=by rfl) :
  SE X Γ E (.Call (.Name "len" p1) [.Call (.Name "set" p2) [a] [] pos2] [] pos) (f1 fa nW) La .v:=by
 refine PE.post' (iQ yJ hg hm (by decide +kernel) (aN (gK (zj hc) hg2 hm2 (by decide +kernel) (aN ha bA he) (by decide) (by decide) he) bA he2) (by decide) (by decide) he2) fun σ H Q ⟨env,G,B,β,I,o⟩=>?_
 refine ig (r:=fun x H1 Q=>El X.K [x] H1 fun y H2=>∃S f n,[y]= [V.ref S]/\H2 S=some (.set f n)/\Q (.int n) H2) ?_ I o
 intro B G H x dx d Q s hB bx e k
 rw[hK]
 unfold nW at e
 cases q:lx dx with
 |none=>rw[q] at e;cases e
 |some ds=>
  rw[q] at e
  dsimp only at e
  cases q2:gW ds with
  |none=>rw[q2] at e;cases e
  |some ns=>
   rw[q2] at e
   dsimp only at e
   split at e
   ·rename_i hz
    cases e
    obtain⟨p,xs,rfl,hq,r⟩:=bx.seq q s
    rw[mh q2] at r
    have r:=r.intsB
    subst r
    exact⟨p,ns,rfl,hq,hz,fun S hS=>⟨S,_,_,rfl,az,k _ _ _ (Ext.own s hS) (.int _)⟩⟩
   ·cases e
end
end L2

end

section

end

section

end

section
namespace L2
open PySem
section
variable {K:PySem.W.Frag}{h:Heap}{mg:Str->Option Value}
theorem yo {α:Type}{P:List α->Prop}(q:∀a,P [a]):∀us:List α,us.length=1->P us
 | [a],_=>q a
theorem ln2 {α:Type}{P:List α->Prop}(q:∀a b,P [a,b]):∀us:List α,us.length=2->P us
 | [a,b],_=>q a b
theorem IL {α:Type}{P:List α->Prop}(q:∀a b c,P [a,b,c]):∀us:List α,us.length=3->P us
 | [a,b,c],_=>q a b c
theorem Kr {α:Type}{P:List α->Prop}(q:∀a b c d,P [a,b,c,d]):∀us:List α,us.length=4->P us
 | [a,b,c,d],_=>q a b c d
def aX (x:Str)(st:Stmt)(ps:List Str):Prop:=∀(kV doc pm:Value) (an:Option Addr) (cdv ct:Value) (us:List Value),us.length=ps.length->bindArgs (PySem.W.fnOf x x (iw st) (cO st) (aq st) .none kV doc pm an cdv ct) ⟨us,[]⟩=pure (ps.zip us)
structure Fo (K:PySem.W.Frag)(mg:Str->Option Value)(x:Str)(st:Stmt)(ps:List Str):Prop where
 ex:∃f fd,jd K mg x st ps f fd
theorem bF {x:Str}{st:Stmt}{ps:List Str}{f:Addr}{oc:Value}{od an:Option Addr}{sl:Array (Option Value)}{kV doc pm cdv ct:Value}(X:K.In h)(G:h.Ns mainGlobals mg)(b:aX x st ps)(a:PySem.W.nsIn K mainGlobals x=some (some (.ref f)))
  (l:K.lookup f=some ⟨oc,od,.func (PySem.W.fnOf x x (iw st) (cO st) (aq st) .none kV doc pm an cdv ct),sl⟩) (c:PySem.W.codeIn K cdv x=true) (k:PySem.W.keepIn K (.ref f)=true):Fo K mg x st ps:=
 ⟨⟨f,_,PySem.W.mg_of X G a,xc l c k,(xc l c k).binds b⟩⟩
def JU:List Str:=["len","range","enumerate","zip","min","max","sum","abs","sorted","reversed","int","str","bool","list","tuple","dict","set","isinstance","repr","any","all","divmod"]
def Jj (K:PySem.W.Frag):Bool:=JU.all fun x=>match PySem.W.nsIn K mainGlobals x with
 |some none=>true
 |_=>false
theorem GK (q:Jj K=true){x:Str}(hx:x∈JU):PySem.W.nsIn K mainGlobals x=some none:=by
 have:=List.all_eq_true.mp q x hx
 split at this
 ·assumption
 ·cases this
theorem HP (X:K.In h)(G:h.Ns mainGlobals mg)(q:Jj K=true):jg mg:=by
 have key:∀{x:Str},x∈JU->mg x=none:=fun hx=>PySem.W.mg_none_of X G (GK q hx)
 constructor <;> exact key (by decide)
end
end L2

end

section

end

section
namespace L2
open PySem PySem.Spec PyProof.Rows
theorem DV {prog:Program}{w:World}{A:Around}{it t:Addr}{xs:Array Value}(hh:A.handled=none)(i:Nat)(hx:xs[i]? =none):Draws prog w A it [it,t] i (fun _ _=>False) (fun j h=>j=i/\h.IsListIter it t i/\h.IsList t xs) where
 live:=fun _ _ st=>let ⟨o,ho,_⟩:=st.2.1;⟨o,ho⟩
 frame:=fun _ _ _ st hk=>⟨st.1,st.2.1.at fun o e=>hk it (by simp) o e,st.2.2.at fun o e=>hk t (by simp) o e⟩
 item:=fun j s Q E hi st k=>absurd st.1 (by omega)
 done:=fun s Q E st k=>wpAny_nextOf_list_end hh st.2.1 st.2.2 hx k
def ES (K:PySem.W.Frag)(a:Addr):It:=
 ⟨fun i H=>∃xs x,gk K H a xs/\xs[i]? =some x,
  fun i H v H'=>∃x t,H t=none/\(∀xs,gk K H a xs->xs[i]? =some x)/\v=.ref t/\H'=upd H t (.tup [.int i,x]),
  fun i H=>∃xs,gk K H a xs/\xs.length<=i⟩
theorem yx {h:Heap}{a n:Addr}{i:Nat}{its:Array Value}{b:Addr}(p:h.IsList a its)(q:h.IsListIter n b i):a≠n:=fun z=>by
 subst z
 obtain⟨o,e,c,_⟩:=p
 obtain⟨o',e',c',_⟩:=q
 rw[e] at e';cases e'
 rw[c] at c'
 simp at c'
theorem zi {h:Heap}{a n it:Addr}{i:Int}{its:Array Value}{old:Value}(p:h.IsList a its)(q:IsEnum h n it i old):n≠a:=fun z=>by
 subst z
 obtain⟨o,e,c,_⟩:=p
 rw[q] at e;cases e
 simp at c
theorem wt {P:Program}{w:World}{K:PySem.W.Frag}{elts:List Expr}{x1}{pos:Pos}(a:Addr)(n:Nat):Turn P w K (.Tuple elts x1 pos) (ES K a) (rk n) (n + 1)
  (fun i h=>(∃old,IsEnum h (n + 1) n i old)/\h.IsListIter n a i) where
 mem:=by simp
 obj:=fun i h st c hc=>by
  obtain⟨⟨old,z1⟩,⟨o2,z2,_,d2⟩⟩:=st
  simp only[rk,List.mem_cons,List.not_mem_nil,or_false] at hc
  rcases hc with rfl |rfl
  ·exact⟨_,z1,fun v z=>by
    have z':Data.fields _=Data.cell v:=z
    cases z'⟩
  ·exact⟨o2,z2,fun v z=>by rw[d2] at z;cases z⟩
 keep:=fun i h h' st k=>by
  obtain⟨⟨old,z1⟩,z2⟩:=st
  exact⟨⟨old,k _ (by simp) _ z1⟩,z2.at fun o e=>k _ (by simp) o e⟩
 item:=by
  intro X hP hw hK hc i pins s σ H E I hf st hg
  subst hP hw hK
  obtain⟨xs,x,ha,hx⟩:=hg
  obtain⟨its,rv,p,hz⟩:=I.list ha
  have p:s.heap.IsList a its.toArray:=p.isList
  obtain⟨u0,hu0,ru0⟩:=rv.get hx
  obtain⟨⟨old,z1⟩,z2⟩:=st
  have hh:X.A.in1.handled=none:=I.ok.hd hc
  have hlt:i < its.toArray.size:=by
   have:=List.getElem?_eq_some_iff.mp hu0
   simpa using this.1
  refine wpAny_pyNext_enum_itemD (Draws.list hh n a (yx p z2) its.toArray) z1 ⟨z2,p⟩ hlt (GR 1 0 rfl) (by
   simp only[List.mem_cons,List.not_mem_nil,or_false,not_or]
   exact⟨GR 1 0 rfl,zi p z1⟩) fun u h' tk hu q1 q2 q3 q4 q5=>?_
  have eu:u0=u:=by
   have hu:its.toArray[i]? =some u:=hu
   rw[List.getElem?_toArray,hu0] at hu
   exact Option.some.inj hu
  subst eu
  refine⟨_,rfl,wpAny_letOwnedTupleGo_enum (s:={s with heap:=h',toks:=tk + 1}) q1 fun h2 r1 r2=>?_⟩
  have r2:∀c,c≠n + 1->h2.get? c=h'.get? c:=r2.2
  have lz:n + 1 < s.heap.objs.size:=Heap.lt_size z1
  have hT:H s.heap.objs.size=none:=I.hok.fresh (Nat.le_refl _)
  have I1:Inv X pins σ (upd H s.heap.objs.size (.tup [.int i,x])) {s with heap:=s.heap.push {cls:=.type "tuple",data:=.seq #[.int i tk,u0]},toks:=s.toks}:=
   I.laid (fun b o e=>Heap.get?_push_of_some _ e) (Nat.le_refl _) ⟨by show 2<=sizeLine;rw[sizeLine_eq];omega,[.int i tk,u0],.cons ⟨tk,rfl⟩ (.cons ru0 .nil),rM.new _ _⟩
  have hf':∀c∈rk n,mU X pins (upd H s.heap.objs.size (.tup [.int i,x])) c:=fun c hc=>⟨by
   rw[ay (fun z=>?_)]
   ·exact (hf c hc).1
   ·subst z
    simp only[rk,List.mem_cons,List.not_mem_nil,or_false] at hc
    omega,(hf c hc).2⟩
  have I2:Inv X pins σ (upd H s.heap.objs.size (.tup [.int i,x])) {s with heap:=h2,toks:=tk + 1}:=by
   refine I1.turnedL (ch:=rk n) (fun c o hc e=>?_) hf'
   have e:(s.heap.push {cls:=.type "tuple",data:=.seq #[.int i tk,u0]}).get? c=some o:=e
   simp only[rk,List.mem_cons,List.not_mem_nil,or_false,not_or] at hc
   rw[r2 c hc.1]
   by_cases z:c=s.heap.objs.size
   ·subst z
    rw[Heap.get?_push_size _ rfl] at e
    rw[<-e];exact q3
   ·refine q5 c o hc.1 hc.2 ?_
    rw[Heap.get?_push_ne _ _ _ z] at e
    exact e
  refine⟨.ref s.heap.objs.size,_,I2,rfl,⟨x,_,hT,fun xs' h'=>?_,rfl,rfl⟩,⟨⟨u0,r1⟩,q2.1.at fun o e=>(r2 _ (GR 0 1 rfl)).trans e⟩,fun c hc=>(hf' c hc).1⟩
  rw[I.list_inj h' ha];exact hx
 done:=by
  intro X hP hw hK hc i pins s σ H E I hf st hg
  subst hP hw hK
  obtain⟨xs,ha,hl⟩:=hg
  obtain⟨its,rv,p,hz⟩:=I.list ha
  obtain⟨⟨old,z1⟩,z2⟩:=st
  have hh:X.A.in1.handled=none:=I.ok.hd hc
  have l1:=rv.length
  refine wpAny_pyNext_enum_endD (DV hh i (xs:=its.toArray) (by simp;omega)) z1 ⟨rfl,z2,p.isList⟩ fun h' q=>⟨rfl,?_⟩
  refine I.turnedL (t':=s.toks) (ch:=rk n) (fun c o hc e=>?_) hf
  simp only[rk,List.mem_cons,List.not_mem_nil,or_false,not_or] at hc
  exact q c o hc.2 e
 self:=fun _ _ _ _ _ st h=>by
  obtain⟨⟨old,z1⟩,_⟩:=st
  exact wpAny_pyIter_enum z1 h
def Jk (K:PySem.W.Frag)(ta:TA):TI:=fun σ H R=>ta σ H fun vs H2=>∃a xs,vs= [.ref a]/\gk K H2 a xs/\R (ES K a) H2
section
variable {X:Cx}
theorem Gx {a:Expr}{ta:TA}{p pos pt:Pos}{elts:List Expr}{x1}(hg:Gl X "enumerate")(hm:X.mg "enumerate"=none)(ha:PA X [a] ta)(hs:starEach [a] X.env= [(false,eval a X.env)]:=by rfl) :
  PI X (.Tuple elts x1 pt) (.Call (.Name "enumerate" p) [a] [] pos) (Jk X.K ta):=by
 intro pins s σ H R I h
 refine Call_ (ki I hg hm qG (PyProof.Rows.callWith_type1 (cK (ha pos pins s σ H _ I h) fun us s1 ⟨vs,H1,I1,r1,q1⟩=>?_) hs rfl))
 obtain⟨a,xs,e,h1,q⟩:=q1
 subst e
 cases r1 with
 |cons r rr=>
  cases rr
  cases r
  obtain⟨its,rv,p1,hz⟩:=I1.list h1
  refine call_enumerate_list p1.isList fun h' z1 z2 _ z3=>?_
  refine wpAny_pyIter_enum z1 ⟨_,rk s1.heap.objs.size,_,_,H1,rfl,I1.kept (t':=s1.toks) z3,wt a s1.heap.objs.size,⟨⟨_,z1⟩,z2⟩,fun c hc=>?_,q⟩
  have:s1.heap.objs.size<=c:=by
   simp only[rk,List.mem_cons,List.not_mem_nil,or_false] at hc
   rcases hc with rfl |rfl <;> first |exact Nat.le_refl _ |exact Nat.le_add_right _ _
  exact I1.fpOk this (I1.hok.fresh this)
end
section
variable {X:Cx}{Γ:Fx}{E:XK}{e a b c:Expr}{f fa fb:VF D}{L La Lb:List Nat}{md ma mb:Md}{pos:Pos}
def Ho (fa:VF D):VF (List D):=fun vs β=>(fa vs β).bnd fun x β1=>match x with
 | .list ds=>.ok (dm ds) β1
 |_=>.bad
theorem B5 {K:PySem.W.Frag}{B:Option Addr}{G H1:Hp}{p:Addr}{xs:List V}{ds:List D}(hp:∀Gc H,ar G Gc->ar Gc H->iK B H1 H->gk K H p xs)(r:b8 K G xs ds):Walk K B G H1 (dm ds) (ES K p):=fun Gc H i s1 s2 m=>by
 have hp':=hp Gc H s1 s2 m
 have l1:=r.len
 have lz:(dm ds).length=ds.length:=by unfold dm;rw[List.length_mapIdx]
 refine⟨fun hi=>⟨?_,fun x H' y=>?_⟩,fun hi=>⟨xs,hp',by omega⟩⟩
 ·have h1:i < xs.length:=by omega
  exact⟨xs,xs[i],hp',by simp[h1]⟩
 ·obtain⟨x,t,ht,hx,rfl,rfl⟩:=y
  obtain⟨d,ed,rd⟩:=r.at' (hx xs hp')
  have xn:=Ext.new s2 (o:=.tup [.int i,x]) ht
  refine⟨upd Gc t (.tup [.int i,x]),.tuple [.int i,d],xn,?_,.tup (.inl (.inl az)) (.cons (.int i) (.cons (rd.mono (s1.trans xn.gg)) .nil))⟩
  unfold dm
  rw[List.getElem?_mapIdx,ed];rfl
theorem By {p pt:Pos}{elts:List Expr}{x1}(hK:X.K=Γ.K)(hg:Gl X "enumerate")(hm:X.mg "enumerate"=none)(ha:SE X Γ E a fa La .v)(hs:starEach [a] X.env= [(false,eval a X.env)]:=by rfl)(hs':starEach [a] X.env=(false,eval a X.env) :: starEach [] X.env:=by rfl) :
  SI X Γ E (.Tuple elts x1 pt) (.Call (.Name "enumerate" p) [a] [] pos) (Ho fa) La .v:=by
 refine PI.post (Gx hg hm (aN ha bA hs') hs) ?_
 rintro σ H Q ⟨env,G,B,β,I,o⟩
 refine⟨env,G,B,β,I,o.bnd.imp fun d1 β1 h x G1 H1 I1 s1 m1 vx=>?_⟩
 have vx:Rp Γ.K G1 x d1:=vx
 rw[hK]
 cases d1 with
 |list ds=>
  cases vx with
  | @lst p xs _ hq r=>exact⟨p,xs,rfl,.inl (Rd.mono (.inl hq) I1.sub),h _ G1 H1 I1 s1 m1 (B5 (fun Gc H t1 t2 _=>.inl (Rd.mono (.inl hq) (t1.trans t2))) r)⟩
 |_=>exact h.elim
end
end L2

end

section

end

section

end

section
namespace L2
open PySem PyProof.Rows
section
variable {X:Cx}{K:PySem.W.Frag}{pins:List V}{σ:St}{H:Hp}{s:Shared}{E:XK}
theorem pI:∀{us:List Value} {ns:List Int},IntsAre us ns->∃xs:List (Int×Tok),us=xs.map (fun p=>Value.int p.1 p.2)/\xs.map (·.1)=ns
 |_,_,.nil=>⟨[],rfl,rfl⟩
 |_,_,.cons n t hr=>by
  obtain⟨xs,e1,e2⟩:=pI hr
  exact⟨(n,t) :: xs,by rw[e1];rfl,by rw[<-e2];rfl⟩
theorem BV {us:List Value}{ns:List Int}(h:IntsAre us ns):∃xs:Array (Int×Tok),us.toArray=intItems xs/\(∀i,numAt xs i=ns.getD i 0)/\xs.size=ns.length:=by
 obtain⟨xs,e1,e2⟩:=pI h
 refine⟨xs.toArray,?_,fun i=>?_,?_⟩
 ·rw[e1,intItems,List.map_toArray]
 ·rw[numAt_eq];show ((xs.map (·.1)).getD i 0)=_;rw[e2]
 ·rw[<-e2];simp
end
end L2

end

section

end

section

end

section

end

section
namespace RM
open PySem L2
def kG (a8:List D->FR):SF:=(aI (jV ([] ++ ([] ++ [])) (kS (td (lI (f1 (gv 0) (iM "tuple")))) (cJ (f2 (f1 (gv 0) dP) (gv 1) (cq true))))
 (bO (cst (.bool false)))
 lB)
 (bO (eV (f1 (aM 1 [1] (.nm 0) (bh (gv 0)) kB (ao a8 (aa (gv 0) (aa (gv 1) ag)))) (bN fun bs=>bs.all id)) (f2 (f1 (gv 0) nW) (gv 1) (cq false)))))
def lW:SF:=(aI (il 1 (([] ++ []) ++ []) (f2 (bK (aa (cst (.int 0)) ag)) (f1 (gv 0) dP) nD))
 (aI (cN (.two 2 3) [] (AX (gv 0))
 (lY 1 [2] [] (gv 2) (gv 3)))
 (pw 1)))
def fN (gJ cW:List D->FR):SF:=(aI (jV ([0] ++ (([] ++ []) ++ [])) (td (lI (ao gJ (aa (gv 0) (aa (f2 (gv 1) (cst (.int 0)) bQ) ag)))))
 (bO (cst (.bool false)))
 lB)
 (aI (bw 2 ([0] ++ []) (ao cW (aa (gv 0) ag)))
 (bO (f1 (aM 2 [2] (.two 0 1) (bh (f2 (gv 1) (cst (.int 1)) bQ)) kB (f2 (f2 (gv 2) (gv 0) bQ) (f2 (gv 2) (gv 1) bQ) xB)) (bN fun bs=>bs.all id)))))
def eM:SF:=(bO (f1 (aM 1 [1,2] (.nm 0) (bh (gv 0)) kB (f2 (f2 (gv 0) (gv 1) bQ) (f2 (gv 0) (gv 2) bQ) xB)) (bN fun bs=>bs.all id)))
def eH (cW bq cg:List D->FR):SF:=(aI (bw 2 ([] ++ []) (aM 1 [] (.nm 0) (bh (gv 1)) kB (ao cW (aa (gv 0) ag))))
 (bO (f1 (aM 2 [2] (.two 0 1) (bh (ao bq (aa (gv 0) ag))) (lI (ao cg (aa (gv 2) (aa (gv 0) (aa (gv 1) ag))))) (bI (aa (gv 0) (aa (gv 1) ag)))) jF)))
def jH (cH:List D->FR):SF:=(aI (jV ([] ++ ([] ++ [])) (kS (td (lI (f1 (gv 0) (iM "list")))) (cJ (f2 (f1 (gv 0) dP) (cst (.int 0)) (cq false))))
 (bO (cst (.bool false)))
 lB)
 (bO (f1 (aM 1 [1] (.nm 0) (bh (gv 0)) kB (ao cH (aa (gv 0) (aa (gv 1) ag)))) (bN fun bs=>bs.all id))))
def wR (aJ fj cn:List D->FR):SF:=(aI (m9 ([1] ++ []) (ao aJ (aa (gv 1) ag)))
 (bO (eV (ao fj (aa (gv 0) (aa (gv 1) ag))) (f2 (ao cn (aa (f2 (gv 1) (cst (.int 0)) bQ) (aa (gv 0) ag))) (f2 (gv 1) (cst (.int 1)) bQ) (cq false)))))
end RM

end

section
namespace RM
open PySem L2
def gq:SF:=(bO (f2 (gv 0) (f2 (cst (.int 1)) (gv 1) vK) Kb))
def fI (aB:List D->FR):SF:=(aI (il 1 (([] ++ []) ++ ([] ++ [])) (f2 (bK (aa (cst (.int 0)) ag)) (f2 (gv 0) (cst (.int 0)) bQ) nD))
 (aI (cN (.two 2 3) ([] ++ []) (bh (f2 (gv 0) (cst (.int 1)) bQ))
 (lY 1 (([] ++ []) ++ ([2] ++ [])) [] (ao aB (aa (f2 (gv 1) (gv 3) bQ) (aa (gv 2) ag))) (gv 3)))
 (pw 1)))
def fO (aB:List D->FR):SF:=(aI (il 2 [] (bK ag))
 (aI (cN (.two 3 4) [0] (Ho (gv 0))
 (jV ((([1] ++ ([3] ++ [])) ++ []) ++ (([] ++ []) ++ [])) (yO (cJ (f2 (ao aB (aa (gv 1) (aa (gv 3) ag))) (gv 1) (cq true))) (cJ (f2 (f2 (gv 1) (gv 4) AM) (gv 4) (cq false))))
 (jY 2 [3] (gv 3))
 lB))
 (pw 2)))
end RM

end

section

end

section
namespace L2
open PySem PySem.Spec PyProof.Rows
section
variable {X:Cx}{tg:Expr}
def HQ (lo:Int)(n:Nat):It:=⟨fun i _=>i < n,fun i H x H'=>H'=H/\x=.int (lo - i),fun i _=>n<=i⟩
theorem vb {P:Program}{w:World}{K:PySem.W.Frag}{tg:Expr}(it:Addr)(lo:Int)(n:Nat):Turn P w K tg (HQ lo n) [it] it (fun i h=>IsRangeIter h it (lo + (i:Nat) * (-1)) ((n:Int) - (i:Nat)) (-1)) where
 mem:=by simp
 obj:=fun i h st b hb=>by
  have e:b=it:=by simpa using hb
  subst e
  exact⟨_,st,fun v z=>by
   have z':Data.fields _=Data.cell v:=z
   cases z'⟩
 keep:=fun i h h' st k=>k it (by simp) _ st
 item:=by
  intro X hP hw hK hc i pins s σ H E I hf st hg
  subst hP hw hK
  obtain⟨f0,f1,f2,f3,f4,f5⟩:=hf it (by simp)
  have W:=Walks.range (prog:=X.prog) (w:=X.w) (I.ok.hd hc) it lo (-1) n
  refine W.item i s _ _ hg st fun v h' tk hv st' kk=>?_
  obtain⟨t,rfl⟩:=hv
  have I1:Inv X pins σ H {s with heap:=h',toks:=tk}:=I.turned (fun b o hb e=>kk b o (by simpa using hb) e) f0 f1 f3 f4 f5
  refine⟨_,rfl,ym (s:={s with heap:=h',toks:=tk}) (n:="range_iterator") st' rfl rfl (by decide) ⟨.int (lo - i),H,I1,⟨t,?_⟩,⟨rfl,rfl⟩,st',fun b hb=>(hf b hb).1⟩⟩
  rw[show lo + (i:Int) * (-1)=lo - i by omega]
 done:=by
  intro X hP hw hK hc i pins s σ H E I hf st hg
  subst hP hw hK
  obtain⟨f0,f1,f2,f3,f4,f5⟩:=hf it (by simp)
  exact wpAny_pyNext_range_end (I.ok.hd hc) st (by have:n<=i:=hg;omega) fun h' eb=>⟨rfl,I.turned (t':=s.toks) (fun b o hb e=>eb b o hb e) f0 f1 f3 f4 f5⟩
 self:=fun _ _ _ _ _ st h=>wpAny_pyIter_rangeiter st h
theorem yy {pins:List (Addr×Obj)}{σ:St}{H:Hp}{s:Shared}{R:It->Hp->Prop}{E:Value->Shared->Prop}{lo hi:Int}{t u v:Tok}{tk:Nat}(I:Inv X pins σ H s)(h1: -(2 ^ 62)<=lo)(h2:lo < 2 ^ 62)(h3: -(2 ^ 62)<=hi)(h4:hi < 2 ^ 62)
  (q:R (HQ lo (lo - hi).toNat) H):wpAny (model X.prog X.w) X.A (pyIter (.ref s.heap.objs.size)) (JE X pins σ tg R) E {s with heap:=s.heap.push {cls:=.type "range",data:=.fields #[.int lo t,.int hi u,.int (-1) v]},toks:=tk}:=by
 refine wpAny_pyIter_range (IsRange.new ..) (PySem.W.small_down h1 h2 h3 h4) ?_
 have I1:Inv X pins σ H {s with heap:=s.heap.push {cls:=.type "range",data:=.fields #[.int lo t,.int hi u,.int (-1) v]},toks:=tk}:=I.kept fun b o e=>Heap.get?_push_of_some _ e
 refine⟨(s.heap.push {cls:=.type "range",data:=.fields #[.int lo t,.int hi u,.int (-1) v]}).objs.size,[(s.heap.push {cls:=.type "range",data:=.fields #[.int lo t,.int hi u,.int (-1) v]}).objs.size],_,_,H,rfl,
  I1.kept (t':=tk) fun b o e=>Heap.get?_push_of_some _ e,vb _ lo (lo - hi).toNat,?_,fun b hb=>?_,q⟩
 ·have e1:lo + ((0:Nat):Int) * (-1)=lo:=by simp
  have e2:(((lo - hi).toNat:Nat):Int) - ((0:Nat):Int)=Builtin.Range.rangeSize lo hi (-1):=by rw[PySem.W.rangeSize_downNat];omega
  show IsRangeIter _ _ (lo + ((0:Nat):Int) * (-1)) ((((lo - hi).toNat:Nat):Int) - ((0:Nat):Int)) (-1)
  rw[e1,e2]
  exact Heap.get?_push_size _ rfl
 ·have e:b=(s.heap.push {cls:=.type "range",data:=.fields #[.int lo t,.int hi u,.int (-1) v]}).objs.size:=by simpa using hb
  subst e
  exact I1.fpOk (Nat.le_refl _) (I1.hok.fresh (Nat.le_refl _))
def HX (ta:TA):TI:=fun σ H R=>ta σ H fun vs H1=>∃i j:Int,vs= [.int i,.int j,.int (-1)]/\(-(2 ^ 62)<=i/\i < 2 ^ 62/\ -(2 ^ 62)<=j/\j < 2 ^ 62)/\R (HQ i (i - j).toNat) H1
theorem zo {a b c:Expr}{ta:TA}{p pos:Pos}(hg:Gl X "range")(hm:X.mg "range"=none)(ha:PA X [a,b,c] ta)(hs:starEach [a,b,c] X.env= [(false,eval a X.env),(false,eval b X.env),(false,eval c X.env)]:=by rfl)(hs2:starEach [b,c] X.env= [(false,eval b X.env),(false,eval c X.env)]:=by rfl) :
  PI X tg (.Call (.Name "range" p) [a,b,c] [] pos) (HX ta):=by
 intro pins s σ H R I h
 refine Call_ (ki I hg hm boot_range (PyProof.Rows.callWith_type1 (cK (ha pos pins s σ H _ I h) fun us s1 ⟨vs,H1,I1,r1,q1⟩=>?_) (by rw[hs,hs2]) (by rw[hs2];rfl)))
 obtain⟨i,j,e,⟨q1,q2,q3,q4⟩,q⟩:=q1
 subst e
 cases r1 with
 |cons r rr=>
  cases rr with
  |cons r' rr=>
   cases rr with
   |cons r'' rr=>
    cases rr
    obtain⟨t,rfl⟩:=r
    obtain⟨t',rfl⟩:=r'
    obtain⟨t'',rfl⟩:=r''
    exact call_range_3 (by decide) (yy I1 q1 q2 q3 q4 q) (.inl (PyProof.noPylong_small (by omega)))
end
def mn (lo:Int)(n:Nat):List D:=(List.range n).map fun (k:Nat)=>PyData.int (lo - k)
theorem mB (lo:Int)(n:Nat):(mn lo n).length=n:=by unfold mn;simp
theorem zy {K:PySem.W.Frag}{B:Option Addr}{G H1:Hp}(lo:Int)(n:Nat):Walk K B G H1 (mn lo n) (HQ lo n):=fun Gc H i s1 s2 m=>by
 rw[mB]
 refine⟨fun hi=>⟨hi,fun x H' y=>?_⟩,fun hi=>hi⟩
 obtain⟨rfl,rfl⟩:=y
 refine⟨Gc,.int (lo - i),Ext.refl s2,?_,.int _⟩
 unfold mn
 rw[List.getElem?_map,List.getElem?_range hi];rfl
def Ee (fa fb fc:VF D):VF (List D):=fun vs β=>(fa vs β).bnd fun x β1=>(fb vs β1).bnd fun y β2=>(fc vs β2).bnd fun z β3=>match x,y,z with
 | .int i,.int j,.int k=>if (tI i && tI j && k == -1)=true then .ok (mn i (i - j).toNat) β3 else .bad
 |_,_,_=>.bad
section
variable {X:Cx}{Γ:Fx}{tg:Expr}{a b c:Expr}{fa fb fc:VF D}{La Lb Lc:List Nat}{md ma mb mc:Md}{pos:Pos}{E:XK}
theorem HM {p:Pos}(hg:Gl X "range")(hm:X.mg "range"=none)(ha:SE X Γ E a fa La ma)(hb:SE X Γ E b fb Lb mb)(hc:SE X Γ E c fc Lc mc)(hs:starEach [a,b,c] X.env= [(false,eval a X.env),(false,eval b X.env),(false,eval c X.env)]:=by rfl)(hs2:starEach [b,c] X.env= [(false,eval b X.env),(false,eval c X.env)]:=by rfl)(hs':starEach [a,b,c] X.env=(false,eval a X.env) :: starEach [b,c] X.env:=by rfl)(hs3:starEach [b,c] X.env=(false,eval b X.env) :: starEach [c] X.env:=by rfl)(hs4:starEach [c] X.env=(false,eval c X.env) :: starEach [] X.env:=by rfl):SI X Γ E tg (.Call (.Name "range" p) [a,b,c] [] pos) (Ee fa fb fc) (La ++ Lb ++ Lc) md:=by
 refine PI.post (zo hg hm (aN ha (aN hb (aN hc bA hs4) hs3) hs') hs hs2) fun σ H Q ⟨env,G,B,β,I,o⟩=>?_
 refine two (W:=fun x y H2=>pT Γ E fc Lc mc σ H2 fun z H3=>∃i j:Int,[x,y,z]= [.int i,.int j,.int (-1)]/\(-(2 ^ 62)<=i/\i < 2 ^ 62/\ -(2 ^ 62)<=j/\j < 2 ^ 62)/\Q (HQ i (i - j).toNat) H3) I (o.bnd.imp fun d1 β1 h=>h.bnd.imp fun d2 β2 h x y G2 H2 I2 s2 m2 bx by'=>?_)
 refine⟨_,G2,B,β2,I2,?_⟩
 rw[iC]
 refine h.bnd.imp fun d3 β3 h z G3 H3 I3 s3 m3 bz=>?_
 have bz:=bz.brw I2.boxThere
 obtain⟨i,j,k,rfl,rfl,rfl⟩:∃i j k,d1=.int i/\d2=.int j/\d3=.int k:=by
  cases d1 <;> cases d2 <;> cases d3 <;> first |exact h.elim |exact⟨_,_,_,rfl,rfl,rfl⟩
 obtain rfl:=bx.int
 obtain rfl:=by'.int
 obtain rfl:=bz.int
 dsimp only at h
 by_cases hj:(tI i && tI j && k == -1)=true
 ·rw[if_pos hj] at h
  rw[Bool.and_eq_true,Bool.and_eq_true,beq_iff_eq] at hj
  obtain⟨⟨hi,hj⟩,rfl⟩:=hj
  exact⟨i,j,rfl,⟨(iL hi).1,(iL hi).2,(iL hj).1,(iL hj).2⟩,h _ G3 H3 (by rw[cR];exact I3) (s2.trans s3) (m2.trans m3) (zy i _)⟩
 ·rw[if_neg hj] at h;exact h.elim
end
end L2

end

section
namespace L2
open PySem PyProof.Rows
section
variable {X:Cx}{K:PySem.W.Frag}{pins:List V}{σ:St}{H:Hp}{s:Shared}{E:XK}
def Iy (K:PySem.W.Frag):List V->Hp->VK->Prop:=fun xs H Q=>∃(a:Addr) (ns:List Int),xs= [.ref a]/\gk K H a (ns.map V.int)/\Q (.int ns.sum) H
theorem Bx (hc:X.calm=true):cX X (.builtin "sum") (Iy X.K):=by
 intro pins s σ H xs us Q I r h
 obtain⟨a,ns,rfl,hq,q⟩:=h
 obtain⟨u,rfl,rx⟩:=vals1 r
 cases rx
 have hh:=I.ok.hd hc
 obtain⟨its,rv,pl,_⟩:=I.list hq
 obtain⟨xs,e,hx,hs⟩:=BV (intsAre_of rv)
 refine sum_intListG (xs:=xs) hh (e▸pl.isList) fun h' tk t' k=>⟨.int ns.sum,H,I.kept k,⟨t',?_⟩,q⟩
 have:preSum (numAt xs) xs.size=ns.sum:=by
  rw[show numAt xs=fun i=>ns.getD i 0 from funext hx,preSum_getD,hs,List.take_of_length_le (Nat.le_refl _)]
 rw[this]
def zI (d:D):Option D:=match d with
 | .list ds=>(gW ds).map fun ns=>.int ns.sum
 |_=>none
theorem HF:Am K (fun x=>Iy K [x]) zI .v:=by
 intro B G H x dx d Q s hB bx e k
 unfold zI at e
 split at e
 ·rename_i ds
  cases q2:gW ds with
  |none=>rw[q2] at e;cases e
  |some ns=>
   rw[q2] at e
   cases e
   obtain⟨p,xs,rfl,hq,r⟩:=bx.list s
   rw[mh q2] at r
   have r:=r.intsB
   subst r
   exact⟨p,ns,rfl,.inl hq,k _ G H (Ext.refl s) (.int _)⟩
 ·cases e
end
end L2

end

section

end

section

end

section
namespace RM
open PySem L2
def kI (bb aB:List D->FR):SF:=(aI (bw 1 (([] ++ []) ++ []) (f2 (f2 (cst (.int 1)) (f1 (gv 0) dP) vK) (cst (.int 1)) rm))
 (aI (il 2 ((([] ++ []) ++ []) ++ ([] ++ [])) (f2 (f2 (bK (aa (cst (.int 0)) ag)) (gv 1) nD) (bK (aa (cst (.int 1)) ag)) kR))
 (aI (cN (.nm 3) ((([] ++ []) ++ []) ++ []) (Ee (f2 (gv 1) (cst (.int 1)) rm) (f1 (cst (.int 1)) DC) (f1 (cst (.int 1)) DC))
 (lY 2 (([0] ++ ([3] ++ [])) ++ [3]) [] (f1 (aM 1 [2,3] (.nm 0) (bh (ao bb (aa (gv 0) (aa (gv 3) ag)))) kB (f2 (gv 1) (ao aB (aa (gv 2) (aa (gv 0) ag))) bQ)) zI) (gv 3)))
 (pw 2))))
def hX (aJ cf bg:List D->FR):SF:=(aI (m9 ([0] ++ []) (ao aJ (aa (gv 0) ag)))
 (bO (f2 (ao cf (aa (ao bg (aa (gv 0) ag)) ag)) (cst (.int 0)) bQ)))
def lQ (bb aB:List D->FR):SF:=(aI (bw 4 ([0] ++ ([2] ++ [])) (ao bb (aa (gv 0) (aa (gv 2) ag))))
 (aI (bw 5 [] (cst (.int 0)))
 (aI (iN ([] ++ ([] ++ ([2] ++ (([] ++ []) ++ [])))) (cJ (f2 (gv 3) (f2 (gv 1) (ao aB (aa (gv 2) (aa (f2 (gv 4) (gv 5) bQ) ag))) bQ) J3))
 (aI (bw 3 ([] ++ ([] ++ ([2] ++ (([] ++ []) ++ [])))) (f2 (gv 3) (f2 (gv 1) (ao aB (aa (gv 2) (aa (f2 (gv 4) (gv 5) bQ) ag))) bQ) rm))
 (bw 5 ([] ++ []) (f2 (gv 5) (cst (.int 1)) cQ))) 1000)
 (bO (bI (aa (f2 (gv 4) (gv 5) bQ) (aa (gv 3) ag)))))))
def kz (aJ bg cf a8 i7 aB:List D->FR):SF:=(aI (m9 ([0] ++ []) (ao aJ (aa (gv 0) ag)))
 (aI (bw 2 ([0] ++ []) (ao bg (aa (gv 0) ag)))
 (aI (bw 3 ([2] ++ []) (ao cf (aa (gv 2) ag)))
 (aI (jV ([1] ++ (([] ++ []) ++ [])) (td (lI (ao a8 (aa (gv 1) (aa (f2 (gv 3) (cst (.int 0)) bQ) ag)))))
 (fun env β=>toS ((aa (cst (.str "this is no number of a row of the order")) ag) (vl env) β) fun ds _=>if ds.length<=sizeLine then .exc "NoNumber" else .bad)
 lB)
 (aI (il 4 [] (bK ag))
 (aI (bw 5 [] (cst (.int 0)))
 (aI (bw 6 [1] (gv 1))
 (aI (cN (.nm 7) ([] ++ []) (dX (f2 (gv 0) (cst (.int 0)) bQ))
 (aI (bw 8 ([2] ++ ([3] ++ ([5] ++ ([6] ++ [])))) (ao i7 (aa (gv 2) (aa (gv 3) (aa (gv 5) (aa (gv 6) ag))))))
 (aI (jY 4 ([] ++ []) (f2 (gv 8) (cst (.int 0)) bQ))
 (aI (bw 5 ([5] ++ (([] ++ []) ++ [])) (ao aB (aa (gv 5) (aa (f2 (gv 8) (cst (.int 0)) bQ) ag))))
 (bw 6 ([] ++ []) (f2 (gv 8) (cst (.int 1)) bQ))))))
 (bO (f1 (gv 4) jF))))))))))
def fF:SF:=(aI (il 2 [] (bK ag))
 (aI (cN (.nm 3) [] (dX (gv 0))
 (cN (.nm 4) [] (dX (gv 0))
 (aI (bw 5 ([] ++ []) (aM 1 [3,4] (.nm 0) (bh (gv 1)) (cJ (f2 (j9 (gv 0) (gv 1)) (j9 (gv 0) (gv 2)) GP)) (cst (.int 1))))
 (jV (([] ++ []) ++ ([] ++ [])) (yO (cJ (f2 (gv 3) (gv 4) (cq true))) (cJ (f2 (gv 5) (bK ag) (cq false))))
 (jY 2 ([3] ++ ([4] ++ [])) (bI (aa (gv 3) (aa (gv 4) ag))))
 lB))))
 (bO (f1 (gv 2) jF))))
end RM

end

section
namespace RM
open PySem L2
def gr:SF:=(aI (uI (.two 3 4) [2] (gv 2))
 (aI (cN (.two 5 6) [1] (bh (gv 1))
 (jV ((([] ++ []) ++ (([5] ++ ([3] ++ [])) ++ ([] ++ []))) ++ (([] ++ []) ++ (([4] ++ ([6] ++ [])) ++ ([] ++ [])))) (yO (kS (cJ (f2 (gv 5) (gv 3) (cq false))) (cJ (f2 (bI (aa (gv 5) (aa (gv 3) ag))) (f2 (gv 0) (cst (.int 1)) bQ) (tK false)))) (kS (cJ (f2 (gv 6) (gv 4) (cq false))) (cJ (f2 (bI (aa (gv 4) (aa (gv 6) ag))) (f2 (gv 0) (cst (.int 1)) bQ) (tK false)))))
 (bO (cst (.bool true)))
 lB))
 (bO (cst (.bool false)))))
def yp (fh dG eJ cF c3 dI gL mw:List D->FR)(cZ aO aV:List D->Int->FB):SF:=(aI (cN (.nm 1) ([] ++ ([] ++ [])) (dX (f2 (cst (.int 1)) (f2 (f1 (gv 0) dP) (cst (.int 2)) (tE fun i j=>.int (if j < i then j else i))) (tE fun i j=>.int (if j > i then j else i))))
 (aI (xp 2 ([0] ++ ([1] ++ [])) (vm fh (aa (gv 0) (aa (gv 1) ag))))
 (aI (bw 3 ([] ++ []) (k9 2 cZ (aa (cst (.int 5)) ag)))
 (aI (jV (([] ++ []) ++ []) (cJ (f2 (k9 2 aO (aa (cst (.int 3)) ag)) (cst (.int 2)) (cq false)))
 (aI (bw 4 ([] ++ []) (aM 1 [2] (.nm 0) (dX (cst (.int 2))) kB (f1 (k9 1 aV (aa (f1 (cst (.int 5)) eO) ag)) jF)))
 (bw 3 ([] ++ (([] ++ ([4] ++ [])) ++ [])) (bI (aa (cst (.int 5)) (aa (ao dG (aa (cst (.int 5)) (aa (gv 4) ag))) ag)))))
 lB)
 (aI (uI (.two 5 6) (([3] ++ []) ++ (([3] ++ []) ++ [])) (bI (aa (ao eJ (aa (gv 3) ag)) (aa (ao cF (aa (gv 3) ag)) ag))))
 (aI (jV ((([] ++ []) ++ ([] ++ [])) ++ ([] ++ [3,6])) (kS (cJ (f2 (f2 (gv 5) (bK ag) (cq false)) (f2 (gv 6) (bK ag) (cq false)) (cq true))) (td (lI (f1 (aM 1 [3,6] (.nm 0) (bh (gv 5)) kB (ao c3 (aa (gv 1) (aa (gv 2) (aa (gv 0) ag))))) (bN fun bs=>bs.all id)))))
 (bO (cst (.bool false)))
 lB)
 (aI (bw 7 ([3] ++ []) (ao dI (aa (gv 3) ag)))
 (cN (.nm 8) [] (dX (cst (.int 4)))
 (aI (bw 4 (([] ++ ([] ++ [])) ++ [3,7]) (aM 1 [3,2,7] (.nm 0) (dX (f2 (cst (.int 1)) (k9 2 aO (aa (cst (.int 3)) ag)) cQ)) kB (ao gL (aa (gv 1) (aa (k9 2 aO (aa (gv 3) ag)) ag)))))
 (aI (il 9 [] (bK ag))
 (aI (cN (.two 10 11) [6] (bh (gv 6))
 (jV (([] ++ []) ++ []) (cJ (f2 (aM 1 [11,10] (.nm 0) (bh (gv 4)) (cJ (f2 (j9 (gv 0) (gv 1)) (j9 (gv 0) (gv 2)) xB)) (gv 0)) (bK ag) (cq false)))
 (jY 9 ([10] ++ ([11] ++ [])) (bI (aa (gv 10) (aa (gv 11) ag))))
 lB))
 (jV (([4] ++ ([3] ++ [])) ++ ([] ++ [])) (cJ (f2 (ao mw (aa (gv 4) (aa (gv 3) ag))) (f2 (gv 9) (bK ag) (cq false)) (cq true)))
 (bO (cst (.bool false)))
 lB))))))))))))
 (bO (cst (.bool true))))
end RM

end

section
namespace RQ
open PySem L2 RM
def top (i:Nat):Stmt:=PySem.Challenge.pw_rowsorder_k28_whole_sharp_turns_do.main.body.getD i (.Pass ⟨0,0,0,0⟩)
section
variable {P:Program}{w:World}{K:PySem.W.Frag}{mg:Str->Option Value}{base:Heap}{ca:Str->Addr}
abbrev jz:Stmt:=top 2
theorem uL:aH ["thing"] ["thing"] (aq jz):=⟨rfl,rfl,rfl,by decide +kernel,rfl,by decide +kernel,by decide +kernel⟩
theorem sO {f:Addr}{fd:FuncData}(F:jd K mg "is_whole" jz ["thing"] f fd)(B:jg mg):b4 P w K mg base ca "is_whole" ["thing"] 1 (aZ 1 1 (oP)):=
 ⟨⟨f,fd,F.mg,F.F.kp,F.b,aR (N:=["thing"]) (k:=0) F.F uL fun cdv A outer s H G E hr=>
  (@ax _ _ _ _ _ (aW (jw (lq "int" (by decide) rfl rfl B.isinstance rfl B.int (by decide +kernel) (af 0)) (j8 (Bk (lq "bool" (by decide) rfl rfl B.isinstance rfl B.bool (by decide +kernel) (af 0)))) (fun _ _=>rfl))))⟩,fun ds h=>aL ds h⟩
abbrev jo:Stmt:=top 3
theorem vf:aH ["thing","bound"] ["thing","bound"] (aq jo):=⟨rfl,rfl,rfl,by decide +kernel,rfl,by decide +kernel,by decide +kernel⟩
theorem r6 {f:Addr}{fd:FuncData}{bP:List D->FR}(F:jd K mg "is_below" jo ["thing","bound"] f fd)(B:jg mg)(fD:b4 P w K mg base ca "is_whole" ["thing"] 1 bP):b4 P w K mg base ca "is_below" ["thing","bound"] 2 (aZ 2 2 (oA bP)):=
 ⟨⟨f,fd,F.mg,F.F.kp,F.b,aR (N:=["thing","bound"]) (k:=1) F.F vf fun cdv A outer s H G E hr=>
  (@ax _ _ _ _ _ (aW (jw (aF fD (hr.mono (by decide)) aY rfl rfl (ae (au 0 rfl) ah)) (j8 (uY Bl uc Gd Bi aw (af 0) (af 1))) (fun _ _=>rfl))))⟩,fun ds h=>aL ds h⟩
abbrev ky:Stmt:=top 4
theorem wu:aH ["thing"] ["thing"] (aq ky):=⟨rfl,rfl,rfl,by decide +kernel,rfl,by decide +kernel,by decide +kernel⟩
theorem vj {f:Addr}{fd:FuncData}{bP:List D->FR}(F:jd K mg "is_many" ky ["thing"] f fd)(B:jg mg)(fD:b4 P w K mg base ca "is_whole" ["thing"] 1 bP){qm:Tok}(iA:mg "MOST_THINGS"=some (.int 8 qm)):b4 P w K mg base ca "is_many" ["thing"] 2 (aZ 1 1 (rf bP)):=
 ⟨⟨f,fd,F.mg,F.F.kp,F.b,aR (N:=["thing"]) (k:=1) F.F wu fun cdv A outer s H G E hr=>
  (@ax _ _ _ _ _ (aW (jw (aF fD (hr.mono (by decide)) aY rfl rfl (ae (au 0 rfl) ah)) (j8 (uY Bl Bl Gd Gd aw (af 0) (CJ (by rfl) iA))) (fun _ _=>rfl))))⟩,fun ds h=>aL ds h⟩
abbrev kL:Stmt:=top 5
theorem wm:aH ["thing","many"] ["thing","many"] (aq kL):=⟨rfl,rfl,rfl,by decide +kernel,rfl,by decide +kernel,by decide +kernel⟩
theorem u5 {f:Addr}{fd:FuncData}{a8:List D->FR}(F:jd K mg "is_pair" kL ["thing","many"] f fd)(B:jg mg)(b5:b4 P w K mg base ca "is_below" ["thing","bound"] 2 a8):b4 P w K mg base ca "is_pair" ["thing","many"] 3 (aZ 2 2 (qE a8)):=
 ⟨⟨f,fd,F.mg,F.F.kp,F.b,aR (N:=["thing","many"]) (k:=2) F.F wm fun cdv A outer s H G E hr=>
  (@ak _ _ _ _ _ _ _ (dN (sX.t (ng (gj (dC rfl (lq "tuple" (by decide) rfl rfl B.isinstance rfl B.tuple (by decide +kernel) (af 0)))) (j5 (bD (iF hr.units) eR (ba cV jX rfl B.len PySem.boot_len (af 0)) aw (a9 _))) (fun _ _=>rfl)))
  (@ax _ _ _ _ _ (aW iZ))
  cp)
  (@ax _ _ _ _ _ (aW (jw (aF b5 (hr.mono (by decide)) aY rfl rfl (ae (bB aU cz (af 0) aw (fun _ _=>rfl)) (ae (au 1 rfl) ah))) (j8 (aF b5 (hr.mono (by decide)) aY rfl rfl (ae (bB aU cz (af 0) aw (fun _ _=>rfl)) (ae (au 1 rfl) ah)))) (fun _ _=>rfl)))))⟩,fun ds h=>aL ds h⟩
abbrev kN:Stmt:=top 6
theorem wC:aH ["thing","many"] ["thing","many"] (aq kN):=⟨rfl,rfl,rfl,by decide +kernel,rfl,by decide +kernel,by decide +kernel⟩
theorem vd {f:Addr}{fd:FuncData}{a8:List D->FR}(F:jd K mg "is_line" kN ["thing","many"] f fd)(B:jg mg)(b5:b4 P w K mg base ca "is_below" ["thing","bound"] 2 a8):b4 P w K mg base ca "is_line" ["thing","many"] 3 (aZ 2 2 (kG a8)):=
 ⟨⟨f,fd,F.mg,F.F.kp,F.b,aR (N:=["thing","many"]) (k:=2) F.F wC fun cdv A outer s H G E hr=>
  (@ak _ _ _ _ _ _ _ (dN (sX.t (ng (gj (dC rfl (lq "tuple" (by decide) rfl rfl B.isinstance rfl B.tuple (by decide +kernel) (af 0)))) (j5 (bD (iF hr.units) eR (ba cV jX rfl B.len PySem.boot_len (af 0)) (af 1) (a9 _))) (fun _ _=>rfl)))
  (@ax _ _ _ _ _ (aW iZ))
  cp)
  (@ax _ _ _ _ _ (aW (jw (ba (fQ rfl) gF rfl B.all (by decide +kernel) (bW (NB:=["one","many"]) (own:=1) (ixs:=[1]) [1] rfl (cm (by kernel_rfl)) (fun _ _=>rfl) (j6 rfl (af 0)) (fun H0 G0 par br bx C ex s3 H3 pn=>(dr (i:=0) (show (["one","many"]:List Str).Nodup by decide +kernel))) (fun H0 G0 par br bx C ex s3 H3 pn hB1=>dA) (fun H0 G0 par br bx C ex s3 H3 pn hB1=>(aF b5 (hr.mono (by decide)) jQ rfl rfl (ae (au 0 (hB1 0 (by decide))) (ae (au 1 (hB1 1 (by decide))) ah)))))) (j8 (dW (cv hr.units) eR (ze rfl rfl rfl B.len rfl B.set (af 0)) (af 1) (a9 _))) (fun _ _=>rfl)))))⟩,fun ds h=>aL ds h⟩
abbrev eG:Stmt:=top 7
theorem qe:aH ["many"] ["many"] (aq eG):=⟨rfl,rfl,rfl,by decide +kernel,rfl,by decide +kernel,by decide +kernel⟩
theorem oE {f:Addr}{fd:FuncData}(F:jd K mg "every_pair" eG ["many"] f fd)(B:jg mg):b4 P w K mg base ca "every_pair" ["many"] 1 (aZ 1 1 (gx)):=
 ⟨⟨f,fd,F.mg,F.F.kp,F.b,aR (N:=["many"]) (k:=0) F.F qe fun cdv A outer s H G E hr=>
  (@ax _ _ _ _ _ (l5 (bW (NB:=["number","many"]) (own:=1) (ixs:=[0]) [] rfl (cm (by kernel_rfl)) (fun _ _=>rfl) (kY rfl B.range (bE kq lF (af 0) (af 0))) (fun H0 G0 par br bx C ex s3 H3 pn=>(dr (i:=0) (show (["number","many"]:List Str).Nodup by decide +kernel))) (fun H0 G0 par br bx C ex s3 H3 pn hB1=>dA) (fun H0 G0 par br bx C ex s3 H3 pn hB1=>(cL (ae (bE mf CH (af 0) (af 1)) (ae (bE lu qY (af 0) (af 1)) ah)))))))⟩,fun ds h=>aL ds h⟩
abbrev jy:Stmt:=top 15
theorem uP:aH ["pairs"] ["pairs"] (aq jy):=⟨rfl,rfl,rfl,by decide +kernel,rfl,by decide +kernel,by decide +kernel⟩
theorem sr {f:Addr}{fd:FuncData}(F:jd K mg "has_ring" jy ["pairs"] f fd)(B:jg mg):b4 P w K mg base ca "has_ring" ["pairs"] 1 (aZ 1 1 (oq)):=
 ⟨⟨f,fd,F.mg,F.F.kp,F.b,aR (N:=["pairs"]) (k:=0) F.F uP fun cdv A outer s H G E hr=>
  (@ax _ _ _ _ _ (aW (ba (B4 rfl) gF rfl B.any (by decide +kernel) (bW (NB:=["a","b"]) (own:=2) (ixs:=[]) [] rfl (cm (by kernel_rfl)) (fun _ _=>rfl) (j6 rfl (af 0)) (fun H0 G0 par br bx C ex s3 H3 pn=>(de (i:=0) (j:=1) (show (["a","b"]:List Str).Nodup by decide +kernel))) (fun H0 G0 par br bx C ex s3 H3 pn hB1=>dA) (fun H0 G0 par br bx C ex s3 H3 pn hB1=>(dW (cv hr.units) eR (af 0) (af 1) (a9 _)))))))⟩,fun ds h=>aL ds h⟩
abbrev jJ:Stmt:=top 13
theorem ku:aH ["thing","many","pairs"] ["thing"] (aq jJ):=⟨rfl,rfl,rfl,by decide +kernel,rfl,by decide +kernel,by decide +kernel⟩
theorem rH {f:Addr}{fd:FuncData}{gP gM iX fu:List D->FR}(F:jd K mg "is_order" jJ ["thing"] f fd)(B:jg mg)(mH:b4 P w K mg base ca "is_many" ["thing"] 2 gP)(mS:b4 P w K mg base ca "is_pair" ["thing","many"] 3 gM)(pH:b4 P w K mg base ca "closed" ["many","pairs"] 3 iX)(ly:b4 P w K mg base ca "has_ring" ["pairs"] 1 fu):b4 P w K mg base ca "is_order" ["thing"] 4 (aZ 3 1 (hJ gP gM iX fu)):=
 ⟨⟨f,fd,F.mg,F.F.kp,F.b,aR (N:=["thing","many","pairs"]) (k:=3) F.F ku fun cdv A outer s H G E hr=>
  (@ak _ _ _ _ _ _ _ (dN (sX.t (ng (gj (dC rfl (lq "tuple" (by decide) rfl rfl B.isinstance rfl B.tuple (by decide +kernel) (af 0)))) (j5 (bD (iF hr.units) eR (ba cV jX rfl B.len PySem.boot_len (af 0)) aw (a9 _))) (fun _ _=>rfl)))
  (@ax _ _ _ _ _ (aW iZ))
  cp)
  (@ak _ _ _ _ _ _ _ (a7 (i:=1) (bB aU cz (af 0) aw (fun _ _=>rfl)) ku.nd)
  (@ak _ _ _ _ _ _ _ (a7 (i:=2) (bB aU cz (af 0) aw (fun _ _=>rfl)) ku.nd)
  (@ak _ _ _ _ _ _ _ (dN (sX.t (ng (gj (dC rfl (aF mH (hr.mono (by decide)) aY rfl rfl (ae (au 1 rfl) ah)))) (j5 (gj (dC rfl (lq "tuple" (by decide) rfl rfl B.isinstance rfl B.tuple (by decide +kernel) (af 2))))) (fun _ _=>rfl)))
  (@ax _ _ _ _ _ (aW iZ))
  cp)
  (@ak _ _ _ _ _ _ _ (dN (gj (dC rfl (ba (fQ rfl) gF rfl B.all (by decide +kernel) (bW (NB:=["pair","many"]) (own:=1) (ixs:=[1]) [1] rfl (cm (by kernel_rfl)) (fun _ _=>rfl) (j6 rfl (af 2)) (fun H0 G0 par br bx C ex s3 H3 pn=>(dr (i:=0) (show (["pair","many"]:List Str).Nodup by decide +kernel))) (fun H0 G0 par br bx C ex s3 H3 pn hB1=>dA) (fun H0 G0 par br bx C ex s3 H3 pn hB1=>(aF mS (hr.mono (by decide)) jQ rfl rfl (ae (au 0 (hB1 0 (by decide))) (ae (au 1 (hB1 1 (by decide))) ah))))))))
  (@ax _ _ _ _ _ (aW iZ))
  cp)
  (@ax _ _ _ _ _ (aW (jw (dW (cv hr.units) eR (af 2) (aF pH (hr.mono (by decide)) aY rfl rfl (ae (au 1 rfl) (ae (au 2 rfl) ah))) (a9 _)) (j8 (Bk (aF ly (hr.mono (by decide)) aY rfl rfl (ae (au 2 rfl) ah)))) (fun _ _=>rfl)))))))))⟩,fun ds h=>aL ds h⟩
abbrev gA:Stmt:=top 16
theorem pY:aH ["thing"] ["thing"] (aq gA):=⟨rfl,rfl,rfl,by decide +kernel,rfl,by decide +kernel,by decide +kernel⟩
theorem oG {f:Addr}{fd:FuncData}{fC:List D->FR}(F:jd K mg "need_order" gA ["thing"] f fd)(B:jg mg)(la:b4 P w K mg base ca "is_order" ["thing"] 4 fC)(je:Exc K mg ca "NoOrder"):b4 P w K mg base ca "need_order" ["thing"] 5 (aZ 1 1 (gu fC)):=
 ⟨⟨f,fd,F.mg,F.F.kp,F.b,aR (N:=["thing"]) (k:=4) F.F pY fun cdv A outer s H G E hr=>
  (@ax _ _ _ _ _ (dN (gj (dC rfl (aF la (hr.mono (by decide)) aY rfl rfl (ae (au 0 rfl) ah))))
  (@ax _ _ _ _ _ (uC je.ex je.ca rfl je.mg (ae Ae ah)))
  cp))⟩,fun ds h=>aL ds h⟩
abbrev h9:Stmt:=top 17
theorem rV:aH ["order","a","b"] ["order","a","b"] (aq h9):=⟨rfl,rfl,rfl,by decide +kernel,rfl,by decide +kernel,by decide +kernel⟩
theorem qh {f:Addr}{fd:FuncData}(F:jd K mg "are_apart" h9 ["order","a","b"] f fd)(B:jg mg):b4 P w K mg base ca "are_apart" ["order","a","b"] 1 (aZ 3 3 (nu)):=
 ⟨⟨f,fd,F.mg,F.F.kp,F.b,aR (N:=["order","a","b"]) (k:=0) F.F rV fun cdv A outer s H G E hr=>
  (@ax _ _ _ _ _ (aW (jw (dW (iF hr.units) eR (af 1) (af 2) (a9 _)) (jw (dW (rh hr.u1) yT (cL (ae (au 1 rfl) (ae (au 2 rfl) ah))) (bB aU cz (af 0) aw (fun _ _=>rfl)) (by with_unfolding_all rfl)) (j8 (dW (rh hr.u1) yT (cL (ae (au 2 rfl) (ae (au 1 rfl) ah))) (bB aU cz (af 0) aw (fun _ _=>rfl)) (by with_unfolding_all rfl))) (fun _ _=>rfl)) (fun _ _=>rfl))))⟩,fun ds h=>aL ds h⟩
abbrev l9:Stmt:=top 20
theorem mC:aH ["row","found","place","thing"] ["row"] (aq l9):=⟨rfl,rfl,rfl,by decide +kernel,rfl,by decide +kernel,by decide +kernel⟩
theorem wc {f:Addr}{fd:FuncData}(F:jd K mg "places" l9 ["row"] f fd)(B:jg mg):b4 P w K mg base ca "places" ["row"] 1 (aZ 4 1 (lW)):=
 ⟨⟨f,fd,F.mg,F.F.kp,F.b,aR (N:=["row","found","place","thing"]) (k:=0) F.F mC fun cdv A outer s H G E hr=>
  (@ak _ _ _ _ _ _ _ (fM (i:=1) (wg (b6 (ae aw ah)) (ba cV jX rfl B.len PySem.boot_len (af 0))) mC.nd)
  (@ak _ _ _ _ _ _ _ (dE PassesOwn.leaving rfl (Ax rfl rfl B.enumerate (af 0)) (de (i:=2) (j:=3) mC.nd)
  (@ax _ _ _ _ _ (sY 1 (fun _=>rfl) (au 2 rfl) (af 3))))
  (@ax _ _ _ _ _ (mi 1))))⟩,fun ds h=>aL ds h⟩
abbrev fJ:Stmt:=top 19
theorem jW:aH ["thing","order","place"] ["thing","order"] (aq fJ):=⟨rfl,rfl,rfl,by decide +kernel,rfl,by decide +kernel,by decide +kernel⟩
theorem nC {f:Addr}{fd:FuncData}{gJ cW:List D->FR}(F:jd K mg "keeps_order" fJ ["thing","order"] f fd)(B:jg mg)(my:b4 P w K mg base ca "is_line" ["thing","many"] 3 gJ)(jf:b4 P w K mg base ca "places" ["row"] 1 cW):b4 P w K mg base ca "keeps_order" ["thing","order"] 4 (aZ 3 2 (fN gJ cW)):=
 ⟨⟨f,fd,F.mg,F.F.kp,F.b,aR (N:=["thing","order","place"]) (k:=3) F.F jW fun cdv A outer s H G E hr=>
  (@ak _ _ _ _ _ _ _ (dN (gj (dC rfl (aF my (hr.mono (by decide)) aY rfl rfl (ae (au 0 rfl) (ae (bB aU cz (af 1) aw (fun _ _=>rfl)) ah)))))
  (@ax _ _ _ _ _ (aW iZ))
  cp)
  (@ak _ _ _ _ _ _ _ (a7 (i:=2) (aF jf (hr.mono (by decide)) aY rfl rfl (ae (au 0 rfl) ah)) jW.nd)
  (@ax _ _ _ _ _ (aW (ba (fQ rfl) gF rfl B.all (by decide +kernel) (bW (NB:=["a","b","place"]) (own:=2) (ixs:=[2]) [] rfl (cm (by kernel_rfl)) (fun _ _=>rfl) (j6 rfl (bB aU cz (af 1) aw (fun _ _=>rfl))) (fun H0 G0 par br bx C ex s3 H3 pn=>(de (i:=0) (j:=1) (show (["a","b","place"]:List Str).Nodup by decide +kernel))) (fun H0 G0 par br bx C ex s3 H3 pn hB1=>dA) (fun H0 G0 par br bx C ex s3 H3 pn hB1=>(dW uc Bi (bB aU cz (af 2) (af 0) (fun _ _=>rfl)) (bB aU cz (af 2) (af 1) (fun _ _=>rfl)) (a9 _)))))))))⟩,fun ds h=>aL ds h⟩
abbrev gB:Stmt:=top 24
theorem p8:aH ["placed","thing"] ["placed","thing"] (aq gB):=⟨rfl,rfl,rfl,by decide +kernel,rfl,by decide +kernel,by decide +kernel⟩
theorem oD {f:Addr}{fd:FuncData}(F:jd K mg "with_thing" gB ["placed","thing"] f fd)(B:jg mg):b4 P w K mg base ca "with_thing" ["placed","thing"] 1 (aZ 2 2 (gq)):=
 ⟨⟨f,fd,F.mg,F.F.kp,F.b,aR (N:=["placed","thing"]) (k:=0) F.F p8 fun cdv A outer s H G E hr=>
  (@ax _ _ _ _ _ (aW (bE Ie Jp (af 0) (bE zY EC aw (af 1)))))⟩,fun ds h=>aL ds h⟩
abbrev fK:Stmt:=top 26
theorem gY:aH ["masks","placed","free","thing","mask"] ["masks","placed"] (aq fK):=⟨rfl,rfl,rfl,by decide +kernel,rfl,by decide +kernel,by decide +kernel⟩
theorem nN {f:Addr}{fd:FuncData}{aB:List D->FR}(F:jd K mg "free_things" fK ["masks","placed"] f fd)(B:jg mg)(aQ:b4 P w K mg base ca "with_thing" ["placed","thing"] 1 aB):b4 P w K mg base ca "free_things" ["masks","placed"] 2 (aZ 5 2 (fO aB)):=
 ⟨⟨f,fd,F.mg,F.F.kp,F.b,aR (N:=["masks","placed","free","thing","mask"]) (k:=1) F.F gY fun cdv A outer s H G E hr=>
  (@ak _ _ _ _ _ _ _ (fM (i:=2) (b6 ah) gY.nd)
  (@ak _ _ _ _ _ _ _ (dE PassesOwn.leaving rfl (By rfl rfl B.enumerate (au 0 rfl)) (de (i:=3) (j:=4) gY.nd)
  (@ax _ _ _ _ _ (dN (sX.t (wO (bD (iF hr.units) eR (aF aQ (hr.mono (by decide)) aY rfl rfl (ae (au 1 rfl) (ae (au 3 rfl) ah))) (af 1) (a9 _)) (rP (bD (cv hr.units) eR (bE Gw Ht (af 1) (af 4)) (af 4) (a9 _))) (fun _ _=>rfl)))
  (@ax _ _ _ _ _ (iY 2 (fun _=>rfl) (au 3 rfl)))
  cp)))
  (@ax _ _ _ _ _ (mi 2))))⟩,fun ds h=>aL ds h⟩
abbrev kK:Stmt:=top 27
theorem jt:aH ["masks","full","ways","placed"] ["masks"] (aq kK):=⟨rfl,rfl,rfl,by decide +kernel,rfl,by decide +kernel,by decide +kernel⟩
theorem uz {f:Addr}{fd:FuncData}{bb aB:List D->FR}(F:jd K mg "ways_on" kK ["masks"] f fd)(B:jg mg)(cG:b4 P w K mg base ca "free_things" ["masks","placed"] 2 bb)(aQ:b4 P w K mg base ca "with_thing" ["placed","thing"] 1 aB):b4 P w K mg base ca "ways_on" ["masks"] 3 (aZ 4 1 (kI bb aB)):=
 ⟨⟨f,fd,F.mg,F.F.kp,F.b,aR (N:=["masks","full","ways","placed"]) (k:=2) F.F jt fun cdv A outer s H G E hr=>
  (@ak _ _ _ _ _ _ _ (a7 (i:=1) (bE wI BM (bE zY EC aw (ba cV jX rfl B.len PySem.boot_len (af 0))) aw) jt.nd)
  (@ak _ _ _ _ _ _ _ (fM (i:=2) (bE rR Bq (wg (b6 (ae aw ah)) (af 1)) (b6 (ae aw ah))) jt.nd)
  (@ak _ _ _ _ _ _ _ (dE PassesOwn.leaving rfl (HM rfl B.range (bE wI BM (af 1) aw) (A8 vC Ac aw) (A8 vC Ac aw)) (dr (i:=3) jt.nd)
  (@ax _ _ _ _ _ (sY 2 (fun _=>rfl) (ba (Bx rfl) HF rfl B.sum (by decide +kernel) (bW (NB:=["thing","ways","placed"]) (own:=1) (ixs:=[2,3]) [3] rfl (cm (by kernel_rfl)) (fun _ _=>rfl) (j6 rfl (aF cG (hr.mono (by decide)) aY rfl rfl (ae (au 0 rfl) (ae (au 3 rfl) ah)))) (fun H0 G0 par br bx C ex s3 H3 pn=>(dr (i:=0) (show (["thing","ways","placed"]:List Str).Nodup by decide +kernel))) (fun H0 G0 par br bx C ex s3 H3 pn hB1=>dA) (fun H0 G0 par br bx C ex s3 H3 pn hB1=>(bB aU cz (af 1) (aF aQ (hr.mono (by decide)) jQ rfl rfl (ae (au 2 (hB1 2 (by decide))) (ae (au 0 (hB1 0 (by decide))) ah))) (fun _ _=>rfl))))) (af 3))))
  (@ax _ _ _ _ _ (mi 2)))))⟩,fun ds h=>aL ds h⟩
abbrev fL:Stmt:=top 25
theorem g8:aH ["order","masks","a","b"] ["order"] (aq fL):=⟨rfl,rfl,rfl,by decide +kernel,rfl,by decide +kernel,by decide +kernel⟩
theorem nM {f:Addr}{fd:FuncData}{aB:List D->FR}(F:jd K mg "masks_ahead" fL ["order"] f fd)(B:jg mg)(aQ:b4 P w K mg base ca "with_thing" ["placed","thing"] 1 aB):b4 P w K mg base ca "masks_ahead" ["order"] 2 (aZ 4 1 (fI aB)):=
 ⟨⟨f,fd,F.mg,F.F.kp,F.b,aR (N:=["order","masks","a","b"]) (k:=1) F.F g8 fun cdv A outer s H G E hr=>
  (@ak _ _ _ _ _ _ _ (fM (i:=1) (wg (b6 (ae aw ah)) (bB aU cz (af 0) aw (fun _ _=>rfl))) g8.nd)
  (@ak _ _ _ _ _ _ _ (dE PassesOwn.leaving rfl (D3 rfl (bB aU cz (af 0) aw (fun _ _=>rfl))) (de (i:=2) (j:=3) g8.nd)
  (@ax _ _ _ _ _ (sY 1 (fun _=>rfl) (aF aQ (hr.mono (by decide)) aY rfl rfl (ae (bB aU cz (af 1) (af 3) (fun _ _=>rfl)) (ae (au 2 rfl) ah))) (af 3))))
  (@ax _ _ _ _ _ (mi 1))))⟩,fun ds h=>aL ds h⟩
abbrev ie:Stmt:=top 21
theorem rW:aH ["order"] ["order"] (aq ie):=⟨rfl,rfl,rfl,by decide +kernel,rfl,by decide +kernel,by decide +kernel⟩
theorem pR {f:Addr}{fd:FuncData}{aJ cf bg:List D->FR}(F:jd K mg "rows_many" ie ["order"] f fd)(B:jg mg)(bp:b4 P w K mg base ca "need_order" ["thing"] 5 aJ)(gN:b4 P w K mg base ca "ways_on" ["masks"] 3 cf)(cI:b4 P w K mg base ca "masks_ahead" ["order"] 2 bg):b4 P w K mg base ca "rows_many" ["order"] 6 (aZ 1 1 (hX aJ cf bg)):=
 ⟨⟨f,fd,F.mg,F.F.kp,F.b,aR (N:=["order"]) (k:=5) F.F rW fun cdv A outer s H G E hr=>
  (@ak _ _ _ _ _ _ _ (n9 (aF bp (hr.mono (by decide)) aY rfl rfl (ae (au 0 rfl) ah)))
  (@ax _ _ _ _ _ (aW (bB aU cz (aF gN (hr.mono (by decide)) aY rfl rfl (ae (aF cI (hr.mono (by decide)) aY rfl rfl (ae (au 0 rfl) ah)) ah)) aw (fun _ _=>rfl)))))⟩,fun ds h=>aL ds h⟩
abbrev lN:Stmt:=top 23
theorem i6:aH ["masks","ways","placed","left","free","at"] ["masks","ways","placed","left"] (aq lN):=⟨rfl,rfl,rfl,by decide +kernel,rfl,by decide +kernel,by decide +kernel⟩
theorem wM {f:Addr}{fd:FuncData}{bb aB:List D->FR}(F:jd K mg "choose" lN ["masks","ways","placed","left"] f fd)(B:jg mg)(cG:b4 P w K mg base ca "free_things" ["masks","placed"] 2 bb)(aQ:b4 P w K mg base ca "with_thing" ["placed","thing"] 1 aB):b4 P w K mg base ca "choose" ["masks","ways","placed","left"] 3 (aZ 6 4 (lQ bb aB)):=
 ⟨⟨f,fd,F.mg,F.F.kp,F.b,aR (N:=["masks","ways","placed","left","free","at"]) (k:=2) F.F i6 fun cdv A outer s H G E hr=>
  (@ak _ _ _ _ _ _ _ (a7 (i:=4) (aF cG (hr.mono (by decide)) aY rfl rfl (ae (au 0 rfl) (ae (au 2 rfl) ah))) i6.nd)
  (@ak _ _ _ _ _ _ _ (a7 (i:=5) aw i6.nd)
  (@ak _ _ _ _ _ _ _ (oY 1000 PassesOwn.leaving (bD HE Ju (af 3) (bB aU cz (af 1) (aF aQ (hr.mono (by decide)) aY rfl rfl (ae (au 2 rfl) (ae (bB aU cz (af 4) (af 5) (fun _ _=>rfl)) ah))) (fun _ _=>rfl)) (a9 _))
  (@ak _ _ _ _ _ _ _ (a7 (i:=3) (bE wI BM (af 3) (bB aU cz (af 1) (aF aQ (hr.mono (by decide)) aY rfl rfl (ae (au 2 rfl) (ae (bB aU cz (af 4) (af 5) (fun _ _=>rfl)) ah))) (fun _ _=>rfl))) i6.nd)
  (@ax _ _ _ _ _ (a7 (i:=5) (bE jA ju (af 5) aw) i6.nd))))
  (@ax _ _ _ _ _ (aW (cL (ae (bB aU cz (af 4) (af 5) (fun _ _=>rfl)) (ae (au 3 rfl) ah))))))))⟩,fun ds h=>aL ds h⟩
abbrev kA:Stmt:=top 22
theorem b7:aH ["order","number","masks","ways","row","placed","left","step","choice"] ["order","number"] (aq kA):=⟨rfl,rfl,rfl,by decide +kernel,rfl,by decide +kernel,by decide +kernel⟩
theorem uq {f:Addr}{fd:FuncData}{aJ bg cf a8 i7 aB:List D->FR}(F:jd K mg "nth_row" kA ["order","number"] f fd)(B:jg mg)(bp:b4 P w K mg base ca "need_order" ["thing"] 5 aJ)(cI:b4 P w K mg base ca "masks_ahead" ["order"] 2 bg)(gN:b4 P w K mg base ca "ways_on" ["masks"] 3 cf)(b5:b4 P w K mg base ca "is_below" ["thing","bound"] 2 a8)(pe:b4 P w K mg base ca "choose" ["masks","ways","placed","left"] 3 i7)(aQ:b4 P w K mg base ca "with_thing" ["placed","thing"] 1 aB)(gZ:Exc K mg ca "NoNumber"):b4 P w K mg base ca "nth_row" ["order","number"] 6 (aZ 9 2 (kz aJ bg cf a8 i7 aB)):=
 ⟨⟨f,fd,F.mg,F.F.kp,F.b,aR (N:=["order","number","masks","ways","row","placed","left","step","choice"]) (k:=5) F.F b7 fun cdv A outer s H G E hr=>
  (@ak _ _ _ _ _ _ _ (n9 (aF bp (hr.mono (by decide)) aY rfl rfl (ae (au 0 rfl) ah)))
  (@ak _ _ _ _ _ _ _ (a7 (i:=2) (aF cI (hr.mono (by decide)) aY rfl rfl (ae (au 0 rfl) ah)) b7.nd)
  (@ak _ _ _ _ _ _ _ (a7 (i:=3) (aF gN (hr.mono (by decide)) aY rfl rfl (ae (au 2 rfl) ah)) b7.nd)
  (@ak _ _ _ _ _ _ _ (dN (gj (dC rfl (aF b5 (hr.mono (by decide)) aY rfl rfl (ae (au 1 rfl) (ae (bB aU cz (af 3) aw (fun _ _=>rfl)) ah)))))
  (@ax _ _ _ _ _ (uC gZ.ex gZ.ca rfl gZ.mg (ae Ae ah)))
  cp)
  (@ak _ _ _ _ _ _ _ (fM (i:=4) (b6 ah) b7.nd)
  (@ak _ _ _ _ _ _ _ (a7 (i:=5) aw b7.nd)
  (@ak _ _ _ _ _ _ _ (a7 (i:=6) (au 1 rfl) b7.nd)
  (@ak _ _ _ _ _ _ _ (dE PassesOwn.leaving rfl (kY rfl B.range (bB aU cz (af 0) aw (fun _ _=>rfl))) (dr (i:=7) b7.nd)
  (@ak _ _ _ _ _ _ _ (a7 (i:=8) (aF pe (hr.mono (by decide)) aY rfl rfl (ae (au 2 rfl) (ae (au 3 rfl) (ae (au 5 rfl) (ae (au 6 rfl) ah))))) b7.nd)
  (@ak _ _ _ _ _ _ _ (iY 4 (fun _=>rfl) (bB aU cz (af 8) aw (fun _ _=>rfl)))
  (@ak _ _ _ _ _ _ _ (a7 (i:=5) (aF aQ (hr.mono (by decide)) aY rfl rfl (ae (au 5 rfl) (ae (bB aU cz (af 8) aw (fun _ _=>rfl)) ah))) b7.nd)
  (@ax _ _ _ _ _ (a7 (i:=6) (bB aU cz (af 8) aw (fun _ _=>rfl)) b7.nd))))))
  (@ax _ _ _ _ _ (aW (ja cD lV rfl B.tuple (by decide +kernel) (af 4))))))))))))⟩,fun ds h=>aL ds h⟩
abbrev dZ:Stmt:=top 29
theorem nA:aH ["tables","a","b"] ["tables","a","b"] (aq dZ):=⟨rfl,rfl,rfl,by decide +kernel,rfl,by decide +kernel,by decide +kernel⟩
theorem mR {f:Addr}{fd:FuncData}(F:jd K mg "stands_ahead" dZ ["tables","a","b"] f fd)(B:jg mg):b4 P w K mg base ca "stands_ahead" ["tables","a","b"] 1 (aZ 3 3 (eM)):=
 ⟨⟨f,fd,F.mg,F.F.kp,F.b,aR (N:=["tables","a","b"]) (k:=0) F.F nA fun cdv A outer s H G E hr=>
  (@ax _ _ _ _ _ (aW (ba (fQ rfl) gF rfl B.all (by decide +kernel) (bW (NB:=["place","a","b"]) (own:=1) (ixs:=[1,2]) [] rfl (cm (by kernel_rfl)) (fun _ _=>rfl) (j6 rfl (af 0)) (fun H0 G0 par br bx C ex s3 H3 pn=>(dr (i:=0) (show (["place","a","b"]:List Str).Nodup by decide +kernel))) (fun H0 G0 par br bx C ex s3 H3 pn hB1=>dA) (fun H0 G0 par br bx C ex s3 H3 pn hB1=>(dW uc Bi (bB aU cz (af 0) (af 1) (fun _ _=>rfl)) (bB aU cz (af 0) (af 2) (fun _ _=>rfl)) (a9 _)))))))⟩,fun ds h=>aL ds h⟩
abbrev eB:Stmt:=top 28
theorem jR:aH ["many","rows","tables"] ["many","rows"] (aq eB):=⟨rfl,rfl,rfl,by decide +kernel,rfl,by decide +kernel,by decide +kernel⟩
theorem mF {f:Addr}{fd:FuncData}{cW bq cg:List D->FR}(F:jd K mg "shared_pairs" eB ["many","rows"] f fd)(B:jg mg)(jf:b4 P w K mg base ca "places" ["row"] 1 cW)(c6:b4 P w K mg base ca "every_pair" ["many"] 1 bq)(gV:b4 P w K mg base ca "stands_ahead" ["tables","a","b"] 1 cg):b4 P w K mg base ca "shared_pairs" ["many","rows"] 2 (aZ 3 2 (eH cW bq cg)):=
 ⟨⟨f,fd,F.mg,F.F.kp,F.b,aR (N:=["many","rows","tables"]) (k:=1) F.F jR fun cdv A outer s H G E hr=>
  (@ak _ _ _ _ _ _ _ (a7 (i:=2) (@SE.wv _ _ _ _ _ _ (bW (NB:=["row"]) (own:=1) (ixs:=[]) [] rfl (cm (by kernel_rfl)) (fun _ _=>rfl) (j6 rfl (af 1)) (fun H0 G0 par br bx C ex s3 H3 pn=>(dr (i:=0) (show (["row"]:List Str).Nodup by decide +kernel))) (fun H0 G0 par br bx C ex s3 H3 pn hB1=>dA) (fun H0 G0 par br bx C ex s3 H3 pn hB1=>(aF jf (hr.mono (by decide)) jQ rfl rfl (ae (au 0 (hB1 0 (by decide))) ah))))) jR.nd)
  (@ax _ _ _ _ _ (aW (ja cD lV rfl B.tuple (by decide +kernel) (bW (NB:=["a","b","tables"]) (own:=2) (ixs:=[2]) [2] rfl (cm (by kernel_rfl)) (fun _ _=>rfl) (j6 rfl (aF c6 (hr.mono (by decide)) aY rfl rfl (ae (au 0 rfl) ah))) (fun H0 G0 par br bx C ex s3 H3 pn=>(de (i:=0) (j:=1) (show (["a","b","tables"]:List Str).Nodup by decide +kernel))) (fun H0 G0 par br bx C ex s3 H3 pn hB2=>(iy (dC rfl (aF gV (hr.mono (by decide)) jQ rfl rfl (ae (au 2 (hB2 2 (by decide))) (ae (au 0 (hB2 0 (by decide))) (ae (au 1 (hB2 1 (by decide))) ah))))))) (fun H0 G0 par br bx C ex s3 H3 pn hB2=>(cL (ae (au 0 (hB2 0 (by decide))) (ae (au 1 (hB2 1 (by decide))) ah)))))))))⟩,fun ds h=>aL ds h⟩
abbrev jq:Stmt:=top 30
theorem uh:aH ["thing","order"] ["thing","order"] (aq jq):=⟨rfl,rfl,rfl,by decide +kernel,rfl,by decide +kernel,by decide +kernel⟩
theorem su {f:Addr}{fd:FuncData}{cH:List D->FR}(F:jd K mg "are_rows" jq ["thing","order"] f fd)(B:jg mg)(iI:b4 P w K mg base ca "keeps_order" ["thing","order"] 4 cH):b4 P w K mg base ca "are_rows" ["thing","order"] 5 (aZ 2 2 (jH cH)):=
 ⟨⟨f,fd,F.mg,F.F.kp,F.b,aR (N:=["thing","order"]) (k:=4) F.F uh fun cdv A outer s H G E hr=>
  (@ak _ _ _ _ _ _ _ (dN (sX.t (ng (gj (dC rfl (lq "list" (by decide) rfl rfl B.isinstance rfl B.list (by decide +kernel) (af 0)))) (j5 (bD (cv hr.units) eR (ba cV jX rfl B.len PySem.boot_len (af 0)) aw (a9 _))) (fun _ _=>rfl)))
  (@ax _ _ _ _ _ (aW iZ))
  cp)
  (@ax _ _ _ _ _ (aW (ba (fQ rfl) gF rfl B.all (by decide +kernel) (bW (NB:=["row","order"]) (own:=1) (ixs:=[1]) [1] rfl (cm (by kernel_rfl)) (fun _ _=>rfl) (j6 rfl (af 0)) (fun H0 G0 par br bx C ex s3 H3 pn=>(dr (i:=0) (show (["row","order"]:List Str).Nodup by decide +kernel))) (fun H0 G0 par br bx C ex s3 H3 pn hB1=>dA) (fun H0 G0 par br bx C ex s3 H3 pn hB1=>(aF iI (hr.mono (by decide)) jQ rfl rfl (ae (au 0 (hB1 0 (by decide))) (ae (au 1 (hB1 1 (by decide))) ah)))))))))⟩,fun ds h=>aL ds h⟩
abbrev sy:Stmt:=top 31
theorem C3:aH ["thing","order"] ["thing","order"] (aq sy):=⟨rfl,rfl,rfl,by decide +kernel,rfl,by decide +kernel,by decide +kernel⟩
theorem z8 {f:Addr}{fd:FuncData}{aJ fj cn:List D->FR}(F:jd K mg "tell" sy ["thing","order"] f fd)(B:jg mg)(bp:b4 P w K mg base ca "need_order" ["thing"] 5 aJ)(ll:b4 P w K mg base ca "are_rows" ["thing","order"] 5 fj)(gX:b4 P w K mg base ca "shared_pairs" ["many","rows"] 2 cn):b4 P w K mg base ca "tell" ["thing","order"] 6 (aZ 2 2 (wR aJ fj cn)):=
 ⟨⟨f,fd,F.mg,F.F.kp,F.b,aR (N:=["thing","order"]) (k:=5) F.F C3 fun cdv A outer s H G E hr=>
  (@ak _ _ _ _ _ _ _ (n9 (aF bp (hr.mono (by decide)) aY rfl rfl (ae (au 1 rfl) ah)))
  (@ax _ _ _ _ _ (aW (jw (aF ll (hr.mono (by decide)) aY rfl rfl (ae (au 0 rfl) (ae (au 1 rfl) ah))) (j8 (dW (cv hr.units) eR (aF gX (hr.mono (by decide)) aY rfl rfl (ae (bB aU cz (af 1) aw (fun _ _=>rfl)) (ae (au 0 rfl) ah))) (bB aU cz (af 1) aw (fun _ _=>rfl)) (a9 _))) (fun _ _=>rfl)))))⟩,fun ds h=>aL ds h⟩
abbrev n5:Stmt:=top 33
theorem Bg:aH ["order"] ["order"] (aq n5):=⟨rfl,rfl,rfl,by decide +kernel,rfl,by decide +kernel,by decide +kernel⟩
theorem yY {f:Addr}{fd:FuncData}{aJ bq dM:List D->FR}(F:jd K mg "turns" n5 ["order"] f fd)(B:jg mg)(bp:b4 P w K mg base ca "need_order" ["thing"] 5 aJ)(c6:b4 P w K mg base ca "every_pair" ["many"] 1 bq)(j3:b4 P w K mg base ca "are_apart" ["order","a","b"] 1 dM):b4 P w K mg base ca "turns" ["order"] 6 (aZ 1 1 (nQ aJ bq dM)):=
 ⟨⟨f,fd,F.mg,F.F.kp,F.b,aR (N:=["order"]) (k:=5) F.F Bg fun cdv A outer s H G E hr=>
  (@ak _ _ _ _ _ _ _ (n9 (aF bp (hr.mono (by decide)) aY rfl rfl (ae (au 0 rfl) ah)))
  (@ax _ _ _ _ _ (l5 (bW (NB:=["a","b","order"]) (own:=2) (ixs:=[0]) [0] rfl (cm (by kernel_rfl)) (fun _ _=>rfl) (j6 rfl (aF c6 (hr.mono (by decide)) aY rfl rfl (ae (bB aU cz (af 0) aw (fun _ _=>rfl)) ah))) (fun H0 G0 par br bx C ex s3 H3 pn=>(de (i:=0) (j:=1) (show (["a","b","order"]:List Str).Nodup by decide +kernel))) (fun H0 G0 par br bx C ex s3 H3 pn hB1=>(iy (dC rfl (aF j3 (hr.mono (by decide)) jQ rfl rfl (ae (au 2 (hB1 2 (by decide))) (ae (au 0 (hB1 0 (by decide))) (ae (au 1 (hB1 1 (by decide))) ah))))))) (fun H0 G0 par br bx C ex s3 H3 pn hB1=>(cL (ae (au 0 (hB1 0 (by decide))) (ae (au 1 (hB1 1 (by decide))) ah))))))))⟩,fun ds h=>aL ds h⟩
abbrev jl:Stmt:=top 35
theorem mZ:aH ["order","a","b","pairs"] ["order","a","b"] (aq jl):=⟨rfl,rfl,rfl,by decide +kernel,rfl,by decide +kernel,by decide +kernel⟩
theorem rJ {f:Addr}{fd:FuncData}(F:jd K mg "is_sharp" jl ["order","a","b"] f fd)(B:jg mg):b4 P w K mg base ca "is_sharp" ["order","a","b"] 1 (aZ 4 3 (jE)):=
 ⟨⟨f,fd,F.mg,F.F.kp,F.b,aR (N:=["order","a","b","pairs"]) (k:=0) F.F mZ fun cdv A outer s H G E hr=>
  (@ak _ _ _ _ _ _ _ (a7 (i:=3) (bB aU cz (af 0) aw (fun _ _=>rfl)) mZ.nd)
  (@ak _ _ _ _ _ _ _ (dN (gj (dC rfl (ba (fQ rfl) gF rfl B.all (by decide +kernel) (bW (NB:=["one","other","a","b","pairs"]) (own:=2) (ixs:=[1,2,3]) [2] rfl (cm (by kernel_rfl)) (fun _ _=>rfl) (j6 rfl (af 3)) (fun H0 G0 par br bx C ex s3 H3 pn=>(de (i:=0) (j:=1) (show (["one","other","a","b","pairs"]:List Str).Nodup by decide +kernel))) (fun H0 G0 par br bx C ex s3 H3 pn hB1=>(iy (bD (cv hr.units) eR (af 1) (af 2) (a9 _)))) (fun H0 G0 par br bx C ex s3 H3 pn hB1=>(dW (sM hr.u1) yT (cL (ae (au 0 (hB1 0 (by decide))) (ae (au 3 (hB1 3 (by decide))) ah))) (af 4) (by with_unfolding_all rfl)))))))
  (@ax _ _ _ _ _ (aW iZ))
  cp)
  (@ax _ _ _ _ _ (aW (ba (fQ rfl) gF rfl B.all (by decide +kernel) (bW (NB:=["one","other","b","a","pairs"]) (own:=2) (ixs:=[2,1,3]) [1] rfl (cm (by kernel_rfl)) (fun _ _=>rfl) (j6 rfl (af 3)) (fun H0 G0 par br bx C ex s3 H3 pn=>(de (i:=0) (j:=1) (show (["one","other","b","a","pairs"]:List Str).Nodup by decide +kernel))) (fun H0 G0 par br bx C ex s3 H3 pn hB2=>(iy (bD (cv hr.units) eR (af 0) (af 2) (a9 _)))) (fun H0 G0 par br bx C ex s3 H3 pn hB2=>(dW (sM hr.u1) yT (cL (ae (au 3 (hB2 3 (by decide))) (ae (au 1 (hB2 1 (by decide))) ah))) (af 4) (by with_unfolding_all rfl)))))))))⟩,fun ds h=>aL ds h⟩
abbrev fE:Stmt:=top 34
theorem ou:aH ["order"] ["order"] (aq fE):=⟨rfl,rfl,rfl,by decide +kernel,rfl,by decide +kernel,by decide +kernel⟩
theorem nG {f:Addr}{fd:FuncData}{eJ fA:List D->FR}(F:jd K mg "sharp_turns" fE ["order"] f fd)(B:jg mg)(kP:b4 P w K mg base ca "turns" ["order"] 6 eJ)(lD:b4 P w K mg base ca "is_sharp" ["order","a","b"] 1 fA):b4 P w K mg base ca "sharp_turns" ["order"] 7 (aZ 1 1 (kW eJ fA)):=
 ⟨⟨f,fd,F.mg,F.F.kp,F.b,aR (N:=["order"]) (k:=6) F.F ou fun cdv A outer s H G E hr=>
  (@ax _ _ _ _ _ (l5 (bW (NB:=["a","b","order"]) (own:=2) (ixs:=[0]) [0] rfl (cm (by kernel_rfl)) (fun _ _=>rfl) (j6 rfl (aF kP (hr.mono (by decide)) aY rfl rfl (ae (au 0 rfl) ah))) (fun H0 G0 par br bx C ex s3 H3 pn=>(de (i:=0) (j:=1) (show (["a","b","order"]:List Str).Nodup by decide +kernel))) (fun H0 G0 par br bx C ex s3 H3 pn hB1=>(iy (dC rfl (aF lD (hr.mono (by decide)) jQ rfl rfl (ae (au 2 (hB1 2 (by decide))) (ae (au 0 (hB1 0 (by decide))) (ae (au 1 (hB1 1 (by decide))) ah))))))) (fun H0 G0 par br bx C ex s3 H3 pn hB1=>(cL (ae (au 0 (hB1 0 (by decide))) (ae (au 1 (hB1 1 (by decide))) ah)))))))⟩,fun ds h=>aL ds h⟩
abbrev iq:Stmt:=top 37
theorem sd:aH ["script","k"] ["script","k"] (aq iq):=⟨rfl,rfl,rfl,by decide +kernel,rfl,by decide +kernel,by decide +kernel⟩
theorem qr {f:Addr}{fd:FuncData}(F:jd K mg "_law_cell" iq ["script","k"] f fd)(B:jg mg):b4 P w K mg base ca "_law_cell" ["script","k"] 1 (aZ 2 2 (fW)):=
 ⟨⟨f,fd,F.mg,F.F.kp,F.b,aR (N:=["script","k"]) (k:=0) F.F sd fun cdv A outer s H G E hr=>
  (@ak _ _ _ _ _ _ _ (dN (bD uc Bi (af 1) (ba cV jX rfl B.len PySem.boot_len (af 0)) (a9 _))
  (@ax _ _ _ _ _ (aW (bB aU cz (af 0) (af 1) (fun _ _=>rfl))))
  cp)
  (@ax _ _ _ _ _ (aW aw)))⟩,fun ds h=>aL ds h⟩
abbrev fg:Stmt:=top 38
theorem ip:aH ["cell","k","some","stir"] ["cell","k"] (aq fg):=⟨rfl,rfl,rfl,by decide +kernel,rfl,by decide +kernel,by decide +kernel⟩
theorem tv:∃(es:List Expr) (p1 p2 p3:Pos),cO fg=.Assign [.Name "some" p1] (.List es p2) p3 :: (cO fg).drop 1/\constsOf es=some [48271,69621,16807,39373,30269,40014,40692,50021,61687,71993,83869,95561,30307]:=⟨_,_,_,_,rfl,by kernel_rfl⟩
theorem rA {f:Addr}{fd:FuncData}(F:jd K mg "_law_mix" fg ["cell","k"] f fd)(B:jg mg):b4 P w K mg base ca "_law_mix" ["cell","k"] 1 (aZ 4 2 (jL)):=by
 obtain⟨es,p1,p2,p3,hb,hes⟩:=tv
 refine⟨⟨f,fd,F.mg,F.F.kp,F.b,aR (N:=["cell","k","some","stir"]) (k:=0) F.F ip fun cdv A outer s H G E hr=>?_⟩,fun ds h=>aL ds h⟩
 rw[hb]
 exact (ak (a7 (i:=2) (SE.wv (b6 (qB hes))) ip.nd) (@ak _ _ _ _ _ _ _ (a7 (i:=3) (bE jA ju (bE jA ju (bE kq lF (bE jA ju (bE lu qY (af 0) aw) aw) (bB aU cz (af 2) (bE lu qY (af 1) aw) (fun _ _=>rfl))) (bE kq lF aw (af 1))) (bE kq lF aw (bE mf CH (af 1) aw))) ip.nd)
  (@ak _ _ _ _ _ _ _ (a7 (i:=3) (bE lu qY (af 3) aw) ip.nd)
  (@ax _ _ _ _ _ (aW (bE mf CH (bE lu qY (bE jA ju (bE kq lF (af 3) (af 3)) (bE kq lF aw (af 1))) aw) aw))))))
abbrev jr:Stmt:=top 39
theorem fT:aH ["script","k","cell","number","j"] ["script","k"] (aq jr):=⟨rfl,rfl,rfl,by decide +kernel,rfl,by decide +kernel,by decide +kernel⟩
theorem sV {f:Addr}{fd:FuncData}{dJ fq:List D->FR}(F:jd K mg "_law_box" jr ["script","k"] f fd)(B:jg mg)(ko:b4 P w K mg base ca "_law_cell" ["script","k"] 1 dJ)(lH:b4 P w K mg base ca "_law_mix" ["cell","k"] 1 fq):b4 P w K mg base ca "_law_box" ["script","k"] 2 (aZ 5 2 (jK dJ fq)):=
 ⟨⟨f,fd,F.mg,F.F.kp,F.b,aR (N:=["script","k","cell","number","j"]) (k:=1) F.F fT fun cdv A outer s H G E hr=>
  (@ak _ _ _ _ _ _ _ (a7 (i:=2) (aF ko (hr.mono (by decide)) aY rfl rfl (ae (au 0 rfl) (ae (au 1 rfl) ah))) fT.nd)
  (@ak _ _ _ _ _ _ _ (dN (bD (cv hr.units) eR (bE lu qY (af 2) aw) aw (a9 _))
  (@ax _ _ _ _ _ (l5 (b6 (ae (bE mf CH (ba Bw HS rfl B.abs (by decide +kernel) (af 2)) aw) ah))))
  cp)
  (@ak _ _ _ _ _ _ _ (a7 (i:=3) aw fT.nd)
  (@ak _ _ _ _ _ _ _ (dE PassesOwn.leaving rfl (kY rfl B.range aw) (dr (i:=4) fT.nd)
  (@ax _ _ _ _ _ (a7 (i:=3) (bE jA ju (bE kq lF (af 3) aw) (aF lH (hr.mono (by decide)) aY rfl rfl (ae (au 2 rfl) (ae (au 4 rfl) ah)))) fT.nd)))
  (@ax _ _ _ _ _ (l5 (b6 (ae (au 3 rfl) ah))))))))⟩,fun ds h=>aL ds h⟩
abbrev hZ:Stmt:=top 40
theorem l4:aH ["box","many","left","digit"] ["box","many"] (aq hZ):=⟨rfl,rfl,rfl,by decide +kernel,rfl,by decide +kernel,by decide +kernel⟩
theorem qp {f:Addr}{fd:FuncData}(F:jd K mg "_law_take" hZ ["box","many"] f fd)(B:jg mg):pV P w K mg base "_law_take" ["box","many"] 1 cP:=by
 refine⟨⟨f,fd,F.mg,F.F.kp,F.b,?_⟩,fun ds β h=>?_⟩
 ·refine F.F.tI l4 (fun vs H Q E h=>?_) (fun cdv A outer s H vs Q E hr h=>?_)
  ·obtain⟨b,rest,G,ds,β,rfl,hb,gb,sG,hl,r,_⟩:=h
   rw[List.length_cons,r.len,hl];rfl
  ·obtain⟨b,rest,G,ds,β,rfl,hb,gb,sG,hl,r,h⟩:=h
   obtain⟨m,rfl,h0,h1⟩:=xA (fun z=>by rw[z] at h;exact h)
   rw[nY h0 h1] at h
   have kk:∀v G' H',iK (some b) H H'->H' b=some (.lst [.int (β / m)])->ar G G'->ar G' H'->(∀c,Mx H c->G c=none->G' c=none)->FV K H G' H' false (.int (β % m)) v->Q v H':=h
   cases r with
   |cons r1 r2=>
    cases r1
    cases r2
    refine⟨_,gS (mO (iQ uB rfl B.divmod (by decide +kernel) (aN (k8 gH (pv 0) vV (fun _ _=>rfl)) (aN (pv 1) bA))) (Dk (i:=2) (j:=3) l4.nd rfl rfl rfl rfl rfl))
     (gS (mO (pv 2) (tu (pv 0) vV set_list)) (ij (mP (pv 3)))),?_⟩
    refine⟨_,rfl,b,_,0,.int β,rfl,rfl,.inl (.inl hb),rfl,_,rfl,β,m,rfl,⟨h0,h1⟩,fun p hp=>⟨p,_,rfl,.inl (.inl az),rfl,_,_,rfl,_,_,rfl,rfl,?_⟩⟩
    have hbp:b≠p:=aK hb hp
    exact⟨_,rfl,_,rfl,b,[.int β],0,0,rfl,rfl,by rw[ay hbp];exact hb,rfl,_,rfl,AL hb sG hp kk gb⟩
 ·obtain⟨m,rfl,_⟩:=xA h
  rfl
abbrev dB:Stmt:=top 41
theorem fB:aH ["box","some","left","found"] ["box","some"] (aq dB):=⟨rfl,rfl,rfl,by decide +kernel,rfl,by decide +kernel,by decide +kernel⟩
theorem lM {f:Addr}{fd:FuncData}{aO:List D->Int->FB}(F:jd K mg "_law_mixed_up" dB ["box","some"] f fd)(B:jg mg)(bu:pV P w K mg base "_law_take" ["box","many"] 1 aO):pV P w K mg base "_law_mixed_up" ["box","some"] 2 (ud 4 1 (dv aO)):=
 ⟨⟨f,fd,F.mg,F.F.kp,F.b,vp (ca:=fun _=>0) (N:=["box","some","left","found"]) (k:=1) F.F fB (by decide) fun cdv A outer s H G b E hr=>
  (@ak _ _ _ _ _ _ _ (fM (i:=2) (ja rB FO rfl B.list (by decide +kernel) (af 1)) fB.nd)
  (@ak _ _ _ _ _ _ _ (fM (i:=3) (b6 ah) fB.nd)
  (@ak _ _ _ _ _ _ _ (oY 1000 PassesOwn.leaving (bD (iF hr.units) eR (af 2) (b6 ah) (a9 _))
  (@ax _ _ _ _ _ (zP 3 2 (fun _=>rfl) (kZ 0 bu (hr.mono (by decide)) aY rfl rfl (ae (ba cV jX rfl B.len PySem.boot_len (af 2)) ah)))))
  (@ax _ _ _ _ _ (mi 3)))))⟩,fun ds β h=>uM ds β h⟩
abbrev fH:Stmt:=top 42
theorem bG:aH ["pairs","found","size","more","a","b"] ["pairs"] (aq fH):=⟨rfl,rfl,rfl,by decide +kernel,rfl,by decide +kernel,by decide +kernel⟩
theorem nK {f:Addr}{fd:FuncData}(F:jd K mg "_law_closed" fH ["pairs"] f fd)(B:jg mg):b4 P w K mg base ca "_law_closed" ["pairs"] 1 (aZ 6 1 (fG)):=
 ⟨⟨f,fd,F.mg,F.F.kp,F.b,aR (N:=["pairs","found","size","more","a","b"]) (k:=0) F.F bG fun cdv A outer s H G E hr=>
  (@ak _ _ _ _ _ _ _ (a7 (i:=1) (@SE.wv _ _ _ _ _ _ (pC rfl hr.units rfl rfl B.sorted rfl B.set (af 0))) bG.nd)
  (@ak _ _ _ _ _ _ _ (a7 (i:=2) (A8 vC Ac aw) bG.nd)
  (@ak _ _ _ _ _ _ _ (oY 1000 PassesOwn.leaving (bD (iF hr.units) eR (af 2) (ba cV jX rfl B.len PySem.boot_len (af 1)) (a9 _))
  (@ak _ _ _ _ _ _ _ (a7 (i:=2) (ba cV jX rfl B.len PySem.boot_len (af 1)) bG.nd)
  (@ak _ _ _ _ _ _ _ (a7 (i:=3) (@SE.wv _ _ _ _ _ _ (b6 ah)) bG.nd)
  (@ak _ _ _ _ _ _ _ (dE PassesOwn.leaving rfl (D3 rfl (au 1 rfl)) (de (i:=4) (j:=5) bG.nd)
  (@ax _ _ _ _ _ (a7 (i:=3) (@SE.wv _ _ _ _ _ _ (bE rR Bq (af 3) (bW (NB:=["c","d","b","a"]) (own:=2) (ixs:=[5,4]) [4] rfl (cm (by kernel_rfl)) (fun _ _=>rfl) (j6 rfl (af 1)) (fun H0 G0 par br bx C ex s3 H3 pn=>(de (i:=0) (j:=1) (show (["c","d","b","a"]:List Str).Nodup by decide +kernel))) (fun H0 G0 par br bx C ex s3 H3 pn hB1=>(iy (bD (cv hr.units) eR (af 0) (af 2) (a9 _)))) (fun H0 G0 par br bx C ex s3 H3 pn hB1=>(cL (ae (au 3 (hB1 3 (by decide))) (ae (au 1 (hB1 1 (by decide))) ah))))))) bG.nd)))
  (@ax _ _ _ _ _ (a7 (i:=1) (@SE.wv _ _ _ _ _ _ (pC rfl hr.units rfl rfl B.sorted rfl B.set (bE rR Bq (af 1) (af 3)))) bG.nd))))))
  (@ax _ _ _ _ _ (aW (ja cD lV rfl B.tuple (by decide +kernel) (af 1)))))))⟩,fun ds h=>aL ds h⟩
abbrev gz:Stmt:=top 43
theorem bY:aH ["box","most","many","names","thin","pairs","i","j"] ["box","most"] (aq gz):=⟨rfl,rfl,rfl,by decide +kernel,rfl,by decide +kernel,by decide +kernel⟩
theorem pN {f:Addr}{fd:FuncData}{cC:List D->FR}{aO aV:List D->Int->FB}(F:jd K mg "_law_order" gz ["box","most"] f fd)(B:jg mg)(iE:b4 P w K mg base ca "_law_closed" ["pairs"] 1 cC)(bu:pV P w K mg base "_law_take" ["box","many"] 1 aO)(bS:pV P w K mg base "_law_mixed_up" ["box","some"] 2 aV):pV P w K mg base "_law_order" ["box","most"] 3 (ud 8 1 (gG cC aO aV)):=
 ⟨⟨f,fd,F.mg,F.F.kp,F.b,vp (ca:=ca) (N:=["box","most","many","names","thin","pairs","i","j"]) (k:=2) F.F bY (by decide) fun cdv A outer s H G b E hr=>
  (@ak _ _ _ _ _ _ _ (a7 (i:=2) (bE jA ju aw (kZ 0 bu (hr.mono (by decide)) aY rfl rfl (ae (au 1 rfl) ah))) bY.nd)
  (@ak _ _ _ _ _ _ _ (a7 (i:=3) (kZ 0 bS (hr.mono (by decide)) aY rfl rfl (ae (@SE.wv _ _ _ _ _ _ (oK rfl rfl B.list rfl B.range (af 2))) ah)) bY.nd)
  (@ak _ _ _ _ _ _ _ (a7 (i:=4) (bB aU cz (b6 (ae aw (ae aw (ae aw (ae aw ah))))) (kZ 0 bu (hr.mono (by decide)) aY rfl rfl (ae aw ah)) (fun _ _=>rfl)) bY.nd)
  (@ak _ _ _ _ _ _ _ (fM (i:=5) (b6 ah) bY.nd)
  (@ak _ _ _ _ _ _ _ (dE PassesOwn.leaving rfl (kY rfl B.range (af 2)) (dr (i:=6) bY.nd)
  (@ax _ _ _ _ _ (dE PassesOwn.leaving rfl (G6 rfl B.range (bE jA ju (af 6) aw) (af 2)) (dr (i:=7) bY.nd)
  (@ax _ _ _ _ _ (dN (bD (cv hr.units) eR (kZ 0 bu (hr.mono (by decide)) aY rfl rfl (ae (au 4 rfl) ah)) aw (a9 _))
  (@ax _ _ _ _ _ (iY 5 (fun _=>rfl) (cL (ae (bB aU cz (af 3) (af 6) (fun _ _=>rfl)) (ae (bB aU cz (af 3) (af 7) (fun _ _=>rfl)) ah)))))
  cp)))))
  (@ax _ _ _ _ _ (aW (cL (ae (au 2 rfl) (ae (aF iE (hr.mono (by decide)) aY rfl rfl (ae (au 5 rfl) ah)) ah))))))))))⟩,fun ds β h=>uM ds β h⟩
abbrev ik:Stmt:=top 44
theorem dU:aH ["many","rows","found","a","b","left"] ["many","rows"] (aq ik):=⟨rfl,rfl,rfl,by decide +kernel,rfl,by decide +kernel,by decide +kernel⟩
theorem pW {f:Addr}{fd:FuncData}(F:jd K mg "_law_told" ik ["many","rows"] f fd)(B:jg mg):b4 P w K mg base ca "_law_told" ["many","rows"] 1 (aZ 6 2 (fF)):=
 ⟨⟨f,fd,F.mg,F.F.kp,F.b,aR (N:=["many","rows","found","a","b","left"]) (k:=0) F.F dU fun cdv A outer s H G E hr=>
  (@ak _ _ _ _ _ _ _ (fM (i:=2) (b6 ah) dU.nd)
  (@ak _ _ _ _ _ _ _ (dE PassesOwn.leaving rfl (kY rfl B.range (af 0)) (dr (i:=3) dU.nd)
  (@ax _ _ _ _ _ (dE PassesOwn.leaving rfl (kY rfl B.range (af 0)) (dr (i:=4) dU.nd)
  (@ak _ _ _ _ _ _ _ (r0 (i:=5) (NB:=["one","a","b"]) (own:=1) (ixs:=[3,4]) [] rfl (cm (by kernel_rfl)) (fun _ _=>rfl) (j6 rfl (af 1)) (fun H0 G0 par br bx C ex s3 H3 pn=>(dr (i:=0) (show (["one","a","b"]:List Str).Nodup by decide +kernel))) (fun H0 G0 par br bx C ex s3 H3 pn hB1=>(iy (bD GY JA (lR rfl (af 0) (af 1)) (lR rfl (af 0) (af 2)) (a9 _)))) (fun H0 G0 par br bx C ex s3 H3 pn hB1=>aw) dU.nd)
  (@ax _ _ _ _ _ (dN (sX.t (wO (bD (iF hr.units) eR (af 3) (af 4) (a9 _)) (rP (bD (cv hr.units) eR (af 5) (b6 ah) (a9 _))) (fun _ _=>rfl)))
  (@ax _ _ _ _ _ (iY 2 (fun _=>rfl) (cL (ae (au 3 rfl) (ae (au 4 rfl) ah)))))
  cp))))))
  (@ax _ _ _ _ _ (aW (ja cD lV rfl B.tuple (by decide +kernel) (af 2))))))⟩,fun ds h=>aL ds h⟩
abbrev gp:Stmt:=top 45
theorem iz:aH ["order","sharp","turn","a","b","c","d"] ["order","sharp","turn"] (aq gp):=⟨rfl,rfl,rfl,by decide +kernel,rfl,by decide +kernel,by decide +kernel⟩
theorem pd {f:Addr}{fd:FuncData}(F:jd K mg "_law_under" gp ["order","sharp","turn"] f fd)(B:jg mg):b4 P w K mg base ca "_law_under" ["order","sharp","turn"] 1 (aZ 7 3 (gr)):=
 ⟨⟨f,fd,F.mg,F.F.kp,F.b,aR (N:=["order","sharp","turn","a","b","c","d"]) (k:=0) F.F iz fun cdv A outer s H G E hr=>
  (@ak _ _ _ _ _ _ _ (BW (au 2 rfl) (de (i:=3) (j:=4) iz.nd))
  (@ak _ _ _ _ _ _ _ (dE PassesOwn.leaving rfl (D3 rfl (au 1 rfl)) (de (i:=5) (j:=6) iz.nd)
  (@ax _ _ _ _ _ (dN (sX.t (wO (sX.t (ng (bD (cv hr.units) eR (af 5) (af 3) (a9 _)) (j5 (bD (sM hr.u1) yT (cL (ae (au 5 rfl) (ae (au 3 rfl) ah))) (bB aU cz (af 0) aw (fun _ _=>rfl)) (by with_unfolding_all rfl))) (fun _ _=>rfl))) (rP (sX.t (ng (bD (cv hr.units) eR (af 6) (af 4) (a9 _)) (j5 (bD (sM hr.u1) yT (cL (ae (au 4 rfl) (ae (au 6 rfl) ah))) (bB aU cz (af 0) aw (fun _ _=>rfl)) (by with_unfolding_all rfl))) (fun _ _=>rfl)))) (fun _ _=>rfl)))
  (@ax _ _ _ _ _ (aW iZ))
  cp)))
  (@ax _ _ _ _ _ (aW iZ))))⟩,fun ds h=>aL ds h⟩
abbrev k7:Stmt:=top 46
theorem gf:aH ["script","k","box","order","rows","every","sharp","many","turn","left","a","b"] ["script"] (aq k7):=⟨rfl,rfl,rfl,by decide +kernel,rfl,by decide +kernel,by decide +kernel⟩
theorem D6 {f:Addr}{fd:FuncData}{fh dG eJ cF c3 dI gL mw:List D->FR}{cZ aO aV:List D->Int->FB}(F:jd K mg "law" k7 ["script"] f fd)(B:jg mg)(lj:b4 P w K mg base ca "_law_box" ["script","k"] 2 fh)(kh:b4 P w K mg base ca "_law_told" ["many","rows"] 1 dG)(kP:b4 P w K mg base ca "turns" ["order"] 6 eJ)(iB:b4 P w K mg base ca "sharp_turns" ["order"] 7 cF)(jx:b4 P w K mg base ca "_law_under" ["order","sharp","turn"] 1 c3)(kc:b4 P w K mg base ca "rows_many" ["order"] 6 dI)(mM:b4 P w K mg base ca "nth_row" ["order","number"] 6 gL)(wH:b4 P w K mg base ca "tell" ["thing","order"] 6 mw)(jm:pV P w K mg base "_law_order" ["box","most"] 3 cZ)(bu:pV P w K mg base "_law_take" ["box","many"] 1 aO)(bS:pV P w K mg base "_law_mixed_up" ["box","some"] 2 aV):fR P w K mg base (nJ P w) 8 f fd ["script"] (Cv K ca 1 (aZ 12 1 (yp fh dG eJ cF c3 dI gL mw cZ aO aV))):=
 aR (N:=["script","k","box","order","rows","every","sharp","many","turn","left","a","b"]) (k:=7) F.F gf fun cdv A outer s H G E hr=>
  (@ak _ _ _ _ _ _ _ (dE PassesOwn.leaving rfl (kY rfl B.range (vt (yV rfl) E6 rfl B.max (by decide +kernel) aw (vt (yQ rfl) Fj rfl B.min (by decide +kernel) (ba cV jX rfl B.len PySem.boot_len (af 0)) aw))) (dr (i:=1) gf.nd)
  (@ak _ _ _ _ _ _ _ (CV (i:=2) rfl (Bm lj (hr.mono (by decide)) aY rfl rfl (ae (au 0 rfl) (ae (au 1 rfl) ah))) gf.nd)
  (@ak _ _ _ _ _ _ _ (a7 (i:=3) (kZ 2 jm (hr.mono (by decide)) aY rfl rfl (ae aw ah)) gf.nd)
  (@ak _ _ _ _ _ _ _ (dN (bD (cv hr.units) eR (kZ 2 bu (hr.mono (by decide)) aY rfl rfl (ae aw ah)) aw (a9 _))
  (@ak _ _ _ _ _ _ _ (r0 (i:=4) (NB:=["side","box"]) (own:=1) (ixs:=[2]) [] rfl (cm (by kernel_rfl)) (fun _ _=>rfl) (kY rfl B.range aw) (fun H0 G0 par br bx C ex s3 H3 pn=>(dr (i:=0) (show (["side","box"]:List Str).Nodup by decide +kernel))) (fun H0 G0 par br bx C ex s3 H3 pn hB1=>dA) (fun H0 G0 par br bx C ex s3 H3 pn hB1=>(ja cD lV rfl B.tuple (by decide +kernel) (kZ 1 bS (hr.mono (by decide)) jQ rfl rfl (ae (@SE.wv _ _ _ _ _ _ (oK rfl rfl B.list rfl B.range aw)) ah)))) gf.nd)
  (@ax _ _ _ _ _ (a7 (i:=3) (cL (ae aw (ae (aF kh (hr.mono (by decide)) aY rfl rfl (ae aw (ae (au 4 rfl) ah))) ah))) gf.nd)))
  cp)
  (@ak _ _ _ _ _ _ _ (BW (cL (ae (aF kP (hr.mono (by decide)) aY rfl rfl (ae (au 3 rfl) ah)) (ae (aF iB (hr.mono (by decide)) aY rfl rfl (ae (au 3 rfl) ah)) ah))) (de (i:=5) (j:=6) gf.nd))
  (@ak _ _ _ _ _ _ _ (dN (sX.t (ng (bD (iF hr.units) eR (dW (cv hr.units) eR (af 5) (b6 ah) (a9 _)) (dW (cv hr.units) eR (af 6) (b6 ah) (a9 _)) (a9 _)) (j5 (gj (dC rfl (ba (fQ rfl) gF rfl B.all (by decide +kernel) (bW (NB:=["turn","order","sharp"]) (own:=1) (ixs:=[3,6]) [3,6] rfl (cm (by kernel_rfl)) (fun _ _=>rfl) (j6 rfl (af 5)) (fun H0 G0 par br bx C ex s3 H3 pn=>(dr (i:=0) (show (["turn","order","sharp"]:List Str).Nodup by decide +kernel))) (fun H0 G0 par br bx C ex s3 H3 pn hB2=>dA) (fun H0 G0 par br bx C ex s3 H3 pn hB2=>(aF jx (hr.mono (by decide)) jQ rfl rfl (ae (au 1 (hB2 1 (by decide))) (ae (au 2 (hB2 2 (by decide))) (ae (au 0 (hB2 0 (by decide))) ah)))))))))) (fun _ _=>rfl)))
  (@ax _ _ _ _ _ (aW iZ))
  cp)
  (@ak _ _ _ _ _ _ _ (a7 (i:=7) (aF kc (hr.mono (by decide)) aY rfl rfl (ae (au 3 rfl) ah)) gf.nd)
  (@ax _ _ _ _ _ (dE PassesOwn.leaving rfl (kY rfl B.range aw) (dr (i:=8) gf.nd)
  (@ak _ _ _ _ _ _ _ (r0 (i:=4) (NB:=["some","order","box","many"]) (own:=1) (ixs:=[3,2,7]) [3,7] rfl (cm (by kernel_rfl)) (fun _ _=>rfl) (kY rfl B.range (bE jA ju aw (kZ 2 bu (hr.mono (by decide)) aY rfl rfl (ae aw ah)))) (fun H0 G0 par br bx C ex s3 H3 pn=>(dr (i:=0) (show (["some","order","box","many"]:List Str).Nodup by decide +kernel))) (fun H0 G0 par br bx C ex s3 H3 pn hB3=>dA) (fun H0 G0 par br bx C ex s3 H3 pn hB3=>(aF mM (hr.mono (by decide)) jQ rfl rfl (ae (au 1 (hB3 1 (by decide))) (ae (kZ 2 bu (hr.mono (by decide)) jQ rfl rfl (ae (au 3 (hB3 3 (by decide))) ah)) ah)))) gf.nd)
  (@ak _ _ _ _ _ _ _ (fM (i:=9) (b6 ah) gf.nd)
  (@ak _ _ _ _ _ _ _ (dE PassesOwn.leaving rfl (D3 rfl (au 6 rfl)) (de (i:=10) (j:=11) gf.nd)
  (@ax _ _ _ _ _ (dN (bD (cv hr.units) eR (bW (NB:=["row","b","a"]) (own:=1) (ixs:=[11,10]) [] rfl (cm (by kernel_rfl)) (fun _ _=>rfl) (j6 rfl (af 4)) (fun H0 G0 par br bx C ex s3 H3 pn=>(dr (i:=0) (show (["row","b","a"]:List Str).Nodup by decide +kernel))) (fun H0 G0 par br bx C ex s3 H3 pn hB4=>(iy (bD uc Bi (lR rfl (af 0) (af 1)) (lR rfl (af 0) (af 2)) (a9 _)))) (fun H0 G0 par br bx C ex s3 H3 pn hB4=>(au 0 (hB4 0 (by decide))))) (b6 ah) (a9 _))
  (@ax _ _ _ _ _ (iY 9 (fun _=>rfl) (cL (ae (au 10 rfl) (ae (au 11 rfl) ah)))))
  cp)))
  (@ax _ _ _ _ _ (dN (bD (iF hr.units) eR (aF wH (hr.mono (by decide)) aY rfl rfl (ae (au 4 rfl) (ae (au 3 rfl) ah))) (dW (cv hr.units) eR (af 9) (b6 ah) (a9 _)) (a9 _))
  (@ax _ _ _ _ _ (aW iZ))
  cp))))))))))))))
  (@ax _ _ _ _ _ (aW iZ)))
end
end RQ

end

section
namespace RM
open PySem L2
theorem vE {t u:VF Bool}{vs:List Nv}{β:Int}{a b:Bool}(h:t vs β=.ok a β)(h':u vs β=.ok b β):yO t u vs β=.ok (a && b) β:=by
 rw[Gm,h];dsimp only[R.bnd]
 cases a with
 |true=>rw[if_pos rfl,h'];rfl
 |false=>rfl
theorem xq {t u:VF Bool}{vs:List Nv}{β:Int}{a b:Bool}(h:t vs β=.ok a β)(h':u vs β=.ok b β):kS t u vs β=.ok (a || b) β:=by
 rw[nS,h];dsimp only[R.bnd]
 cases a with
 |true=>rfl
 |false=>rw[if_neg Bool.false_ne_true,h'];rfl
theorem g9 {t:VF Bool}{vs:List Nv}{β:Int}{a:Bool}(h:t vs β=.ok a β):td t vs β=.ok (!a) β:=by rw[tD,h];rfl
theorem vR {fa:VF D}{vs:List Nv}{β:Int}{l:List Pr}{f:Pr->Bool}(h:fa vs β=.ok (.list (l.map fun q=>PyData.bool (f q))) β):f1 fa (bN fun bs=>bs.all id) vs β=.ok (.bool (l.all f)) β:=by
 refine di h ?_
 simp only[bN]
 rw[gQ]
 simp[List.all_map]
def upTo (n:Nat)(f:Pr->Bool)(i k:Nat):List Pr:=(OM.bM n).filter fun p=>(decide (p.1 < i) || (decide (p.1=i) && decide (p.2 < k))) && f p
theorem BL {n:Nat}(f:Pr->Bool)(i k:Nat)(h8:n<=8):(upTo n f i k).length<=64:=by
 have h1:(upTo n f i k).length<=(OM.bM n).length:=List.length_filter_le _ _
 rw[eN] at h1
 have:n * n<=64:=Nat.mul_le_mul h8 h8
 omega
theorem yv (n:Nat)(f:Pr->Bool):upTo n f 0 0= []:=by
 unfold upTo
 rw[List.filter_eq_nil_iff]
 intro p hp
 have:=OM.bt.mp hp
 rw[decide_eq_false (by omega),decide_eq_false (p:=p.2 < ((0:Nat):Int)) (by omega)];simp
theorem Be (n:Nat)(f:Pr->Bool):upTo n f n 0=(OM.bM n).filter f:=by
 unfold upTo
 refine List.filter_congr fun p hp=>?_
 have:=(OM.bt.mp hp).1.2
 rw[decide_eq_true this];simp
theorem Ci (n:Nat)(f:Pr->Bool)(i:Nat):upTo n f i n=upTo n f (i + 1) 0:=by
 unfold upTo
 refine List.filter_congr fun p hp=>?_
 have h:=OM.bt.mp hp
 congr 1
 rw[Bool.eq_iff_iff]
 simp only[Bool.or_eq_true,Bool.and_eq_true,decide_eq_true_eq]
 omega
theorem qI {n i k:Nat}(f:Pr->Bool)(hi:i < n)(hk:k < n):upTo n f i (k + 1)=upTo n f i k ++ if f ((i:Int),(k:Int))=true then [((i:Int),(k:Int))] else []:=by
 refine OM.gC (OM.g7 _ (OM.jb n)) ?_ fun x=>?_
 ·show List.Pairwise OM.DN _
  rw[List.pairwise_append]
  refine⟨OM.g7 _ (OM.jb n),?_,fun p hp q hq=>?_⟩
  ·split <;> simp
  ·unfold upTo at hp
   have h1:=(List.mem_filter.mp hp).2
   simp only[Bool.or_eq_true,Bool.and_eq_true,decide_eq_true_eq] at h1
   split at hq
   ·have:q=((i:Int),(k:Int)):=by simpa using hq
    subst this
    show p.1 < (i:Int)\/(p.1=(i:Int)/\p.2 < (k:Int))
    exact h1.1
   ·cases hq
 ·rw[List.mem_append]
  unfold upTo
  rw[List.mem_filter,List.mem_filter,OM.bt]
  simp only[Bool.or_eq_true,Bool.and_eq_true,decide_eq_true_eq]
  constructor
  ·rintro⟨h1,h2,h3⟩
   by_cases z:x.1=i/\x.2=k
   ·obtain⟨xa,xb⟩:=x
    simp only at z h3
    obtain⟨rfl,rfl⟩:=z
    rw[if_pos h3]
    exact .inr (List.mem_singleton.mpr rfl)
   ·exact .inl ⟨h1,by omega,h3⟩
  ·rintro (⟨h1,h2,h3⟩ |h)
   ·exact⟨h1,by omega,h3⟩
   ·split at h
    ·rename_i hf
     have:x=((i:Int),(k:Int)):=by simpa using h
     subst this
     exact⟨⟨⟨by show (0:Int)<=(i:Int);omega,by show (i:Int) < n;omega⟩,by show (0:Int)<=(k:Int);omega,by show (k:Int) < n;omega⟩,.inr ⟨rfl,by show (k:Int) < ((k + 1:Nat):Int);omega⟩,hf⟩
    ·cases h
def tupI (r:List Int):D:=.tuple (r.map PyData.int)
theorem nR {fa fb:VF D}{vs:List Nv}{β:Int}{r:List Int}{k:Int}(h:fa vs β=.ok (tupI r) β)(h':fb vs β=.ok (.int k) β)(hk:k∈r):j9 fa fb vs β=.ok (.int (r.idxOf k:Nat)) β:=by
 unfold j9
 rw[h]
 dsimp only[R.bnd]
 rw[if_pos (by rfl),h']
 dsimp only[R.bnd,C8,tupI]
 rw[gR]
 dsimp only
 rw[if_pos hk];rfl
theorem ya {r:List Int}{a b:Int}(ha:a∈r)(hb:b∈r)(h:r.idxOf a=r.idxOf b):a=b:=by
 have h1:=List.getElem_idxOf (List.idxOf_lt_length_iff.mpr ha)
 have h2:=List.getElem_idxOf (List.idxOf_lt_length_iff.mpr hb)
 rw[<-h1,<-h2]
 congr 1
end RM

end

section
namespace RM
open PySem L2
theorem pL {α:Type}{t:Tg}{fe:VF D}{vs:List Nv}(e:α->D)(P:α->Prop):∀{ds:List D} {β:Int},(∀d,d∈ds->∃vs1,kX t d vs=some vs1/\∀β,∃a β',fe vs1 β=.ok (e a) β'/\P a)->
  ∃(as:List α) (β':Int),gc t kB fe vs ds β=.ok (as.map e) β'/\as.length=ds.length/\∀a,a∈as->P a
 | [],β,_=>⟨[],β,rfl,rfl,fun a h=>(by cases h)⟩
 |d :: ds,β,h=>by
  obtain⟨vs1,hb,hf⟩:=h d (List.mem_cons_self ..)
  obtain⟨a,β1,ef,pa⟩:=hf β
  obtain⟨as,β2,ec,hl,hP⟩:=pL e P (ds:=ds) (β:=β1) fun d' hd=>h d' (List.mem_cons_of_mem _ hd)
  refine⟨a :: as,β2,?_,by rw[List.length_cons,List.length_cons,hl],fun x hx=>?_⟩
  ·unfold gc
   rw[hb]
   dsimp only[kB,R.okb]
   rw[if_pos rfl,ef]
   dsimp only
   rw[ec];rfl
  ·rcases List.mem_cons.mp hx with z |z
   ·rw[z];exact pa
   ·exact hP x z
end RM

end

section

end

section
namespace RM
open PySem L2
def D8:D->Bool
 | .tuple _=>true
 |_=>false
theorem DU {d:D}(h:D8 d=true):∃ds,d=.tuple ds:=by
 cases d with
 |tuple ds=>exact⟨ds,rfl⟩
 |_=>cases h
theorem AJ {d:D}(h:c9 d=false):iM "tuple" d=some (.bool (D8 d)):=by
 unfold iM;rw[h];cases d <;> rfl
section
variable {fa fb:VF D}{vs:List Nv}{β:Int}
theorem GX {d:D}(ha:fa vs β=.ok d β)(h:c9 d=false):lI (f1 fa (iM "tuple")) vs β=.ok (D8 d) β:=j7 (di ha (AJ h))
theorem xG {l:List D}{f:D->Bool}(h:fa vs β=.ok (.list (l.map fun q=>PyData.bool (f q))) β):f1 fa (bN fun bs=>bs.all id) vs β=.ok (.bool (l.all f)) β:=by
 refine di h ?_
 simp only[bN]
 rw[gQ]
 simp[List.all_map]
theorem Ed {ds:List D}(ha:fa vs β=.ok (.tuple ds) β):f1 fa dP vs β=.ok (.int ds.length) β:=di ha rfl
theorem Eg {t u:VF Bool}(h:t vs β=.ok true β):kS t u vs β=.ok true β:=by rw[nS,h];rfl
theorem uZ {t u:VF Bool}{c:Bool}(h:t vs β=.ok false β)(h':u vs β=.ok c β):kS t u vs β=.ok c β:=by rw[nS,h];exact h'
theorem EB (h:fa vs β=.ok (.bool false) β):eV fa fb vs β=.ok (.bool false) β:=by unfold eV;rw[h];rfl
theorem Ey {d:D}(h:fa vs β=.ok (.bool true) β)(h':fb vs β=.ok d β):eV fa fb vs β=.ok d β:=by unfold eV;rw[h];exact h'
end
def Sq (c k:Nat)(d:D):Prop:=d.showable=true/\d.depth<=k/\d.shown.length<=c
theorem Sq.mono {c k c' k':Nat}{d:D}(h:Sq c k d)(h1:c<=c')(h2:k<=k'):Sq c' k' d:=⟨h.1,Nat.le_trans h.2.1 h2,Nat.le_trans h.2.2 h1⟩
theorem xf {c k:Nat}:∀{ds:List D},(∀d,d∈ds->Sq c k d)->PyData.showableAll ds=true/\PyData.depthAll ds<=k/\(∀t,t∈PyData.shownAll ds->t.length<=c)/\(PyData.shownAll ds).length=ds.length
 | [],_=>⟨by simp[PyData.showableAll],by simp[PyData.depthAll],fun t h=>by simp[PyData.shownAll] at h,by simp[PyData.shownAll]⟩
 |d :: ds,h=>by
  obtain⟨h1,h2,h3,h4⟩:=xf fun x hx=>h x (List.mem_cons_of_mem _ hx)
  obtain⟨q1,q2,q3⟩:=h d (List.mem_cons_self ..)
  refine⟨?_,?_,fun t ht=>?_,?_⟩
  ·rw[PyData.showableAll,q1,h1];rfl
  ·rw[PyData.depthAll];omega
  ·rw[PyData.shownAll] at ht
   rcases List.mem_cons.mp ht with rfl |ht
   ·exact q3
   ·exact h3 t ht
  ·rw[PyData.shownAll,List.length_cons,List.length_cons,h4]
theorem uV {c:Nat}:∀{ts:List Str},(∀t,t∈ts->t.length<=c)->(Str.join ", " ts).length<=(c + 2) * ts.length
 | [],_=>by show (Str.join ", " []).length<=_;exact Nat.zero_le _
 | [x],h=>by
  have:=h x (List.mem_cons_self ..)
  show x.length<=(c + 2) * 1
  omega
 |x :: y :: r,h=>by
  have ih:=uV (ts:=y :: r) fun t ht=>h t (List.mem_cons_of_mem _ ht)
  have:=h x (List.mem_cons_self ..)
  show (x ++ ", " ++ Str.join ", " (y :: r)).length<=_
  rw[strLen_append,strLen_append]
  have e2:((", ":String):Str).length=2:=rfl
  rw[e2]
  have e:(c + 2) * (x :: y :: r).length=(c + 2) * (y :: r).length + (c + 2):=by rw[List.length_cons,Nat.mul_succ]
  omega
theorem Aa {c k:Nat}{ds:List D}(h:∀d,d∈ds->Sq c k d):Sq (3 + (c + 2) * ds.length) (k + 1) (.tuple ds):=by
 obtain⟨h1,h2,h3,h4⟩:=xf h
 refine⟨by rw[PyData.showable];exact h1,by rw[PyData.depth];omega,?_⟩
 rw[PyData.shown]
 unfold tupleText
 rw[strLen_append,strLen_append]
 have j:=uV h3
 rw[h4] at j
 have e1:((("(":String):Str)).length=1:=rfl
 have e3:((if (PyData.shownAll ds).length == 1 then ",)" else ")":String):Str).length<=2:=by split <;> exact by decide
 rw[e1]
 omega
theorem FQ {c k:Nat}{ds:List D}(h:∀d,d∈ds->Sq c k d):Sq (2 + (c + 2) * ds.length) (k + 1) (.list ds):=by
 obtain⟨h1,h2,h3,h4⟩:=xf h
 refine⟨by rw[PyData.showable];exact h1,by rw[PyData.depth];omega,?_⟩
 rw[PyData.shown]
 unfold listText
 rw[strLen_append]
 have:=A3 (c:=c + 2) (PyData.shownAll ds) 0 "[" fun t ht=>by have:=h3 t ht;omega
 rw[h4] at this
 have e1:((("[":String):Str)).length=1:=rfl
 have e2:((("]":String):Str)).length=1:=rfl
 rw[e1] at this
 rw[e2];omega
def Bf (d:D):Prop:=Ep d=true
theorem vT:∀{ds:List D},(∀d,d∈ds->Bf d)->B6 ds=true
 | [],_=>rfl
 |d :: ds,h=>by
  have h1:=vT fun x hx=>h x (List.mem_cons_of_mem _ hx)
  have q1:Ep d=true:=h d (List.mem_cons_self ..)
  rw[B6,q1,h1];rfl
theorem AV {ds:List D}(h:∀d,d∈ds->Bf d):Bf (.tuple ds):=by show Ep (.tuple ds)=true;rw[Ep];exact vT h
theorem GF {ds:List D}(h:∀d,d∈ds->Bf d):Bf (.list ds):=by show Ep (.list ds)=true;rw[Ep];exact vT h
def Jc:List Int:=[-1,0,1,2,3,4,5,6,7,8,9]
theorem Cf:∀i∈Jc,(PyData.int i).showable=true/\(PyData.int i).shown.length<=20:=by decide +kernel
theorem xE {i:Int}(h: -1<=i/\i<=9):i∈Jc:=by
 simp only[Jc,List.mem_cons,List.not_mem_nil,or_false]
 omega
def Cu (d:D):Prop:=d=.none\/(∃b,d=.bool b)\/∃i:Int,d=.int i/\ -1<=i/\i<=9
theorem Cu.sq {d:D}(h:Cu d):Sq 20 0 d:=by
 rcases h with rfl | ⟨b,rfl⟩ | ⟨i,rfl,h⟩
 ·exact⟨by simp[PyData.showable],by simp[PyData.depth],by rw[PyData.shown];decide⟩
 ·exact⟨by simp[PyData.showable],by simp[PyData.depth],by rw[PyData.shown];cases b <;> decide⟩
 ·exact⟨(Cf i (xE h)).1,by simp[PyData.depth],(Cf i (xE h)).2⟩
theorem Cu.bf {d:D}(h:Cu d):Bf d:=by
 rcases h with rfl | ⟨b,rfl⟩ | ⟨i,rfl,h⟩ <;> exact by simp[Bf,Ep]
theorem Cu.scr {d:D}(h:Cu d):c9 d=false:=by
 rcases h with rfl | ⟨b,rfl⟩ | ⟨i,rfl,h⟩ <;> rfl
section
variable {vs:List Nv}{β β1 β2:Int}{fa:VF D}{fr:VF (List D)}{d:D}{ds:List D}
theorem ac {fa:VF D}{fr:VF (List D)}(h:fa vs β=.ok d β)(h':fr vs β=.ok ds β):aa fa fr vs β=.ok (d :: ds) β:=by rw[cj,h];dsimp only[R.bnd];rw[h']
theorem an:ag vs β=.ok [] β:=rfl
theorem tp (h:fr vs β=.ok ds β)(hz:ds.length<=1000:=by simp):bI fr vs β=.ok (.tuple ds) β:=kJ h hz
theorem lp (h:fr vs β=.ok ds β)(hz:ds.length<=1000:=by simp):bK fr vs β=.ok (.list ds) β:=fP h hz
theorem ck (d:D):cst d vs β=.ok d β:=rfl
end
theorem xy {i:Int}(h: -1<=i/\i<=9):Cu (.int i):=.inr (.inr ⟨i,rfl,h⟩)
theorem BB {d:D}(h:c9 d=false):iM "list" d=some (.bool (match d with | .list _=>true |_=>false)):=by
 unfold iM;rw[h];cases d <;> rfl
def FX:D->Bool
 | .list _=>true
 |_=>false
theorem Dl {d:D}(h:FX d=true):∃ds,d=.list ds:=by
 cases d with
 |list ds=>exact⟨ds,rfl⟩
 |_=>cases h
theorem Ha {fa:VF D}{vs:List Nv}{β:Int}{d:D}(ha:fa vs β=.ok d β)(h:c9 d=false):f1 fa (iM "list") vs β=.ok (.bool (FX d)) β:=di ha (by rw[BB h];cases d <;> rfl)
theorem AY {fa:VF D}{vs:List Nv}{β:Int}{ds:List D}(ha:fa vs β=.ok (.list ds) β):f1 fa dP vs β=.ok (.int ds.length) β:=di ha rfl
end RM

end

section
namespace RM
open PySem L2
def Ge (e:D):Prop:=c9 e=false/\∀es,e=.tuple es->es.length<=100/\∀x,x∈es->c9 x=false
def Sp (p:Pr):Prop:=(0<=p.1/\p.1<=8)/\(0<=p.2/\p.2<=8)
theorem Gz {es:List D}(hl:es.length<=100)(h:∀x,x∈es->c9 x=false):Ge (.tuple es):=⟨rfl,fun es' e=>by cases e;exact⟨hl,h⟩⟩
end RM

end

section
namespace RM
open PySem PySem.Spec L2 PyProof.Rows
theorem oN:∀(ns acc:List Int),acc.Nodup->(ns.foldl step_dedup acc).length<=acc.length + ns.length/\((ns.foldl step_dedup acc).length=acc.length + ns.length↔(ns.Nodup/\∀x,x∈ns->x∉acc))
 | [],acc,_=>by simp
 |n :: ns,acc,hn=>by
  rw[List.foldl_cons]
  by_cases h:n∈acc
  ·have e:step_dedup acc n=acc:=by unfold step_dedup;rw[if_pos (by simpa using h)]
   rw[e]
   obtain⟨h1,h2⟩:=oN ns acc hn
   refine⟨by rw[List.length_cons];omega,⟨fun z=>?_,fun z=>absurd h (z.2 n (List.mem_cons_self ..))⟩⟩
   rw[List.length_cons] at z;omega
  ·have e:step_dedup acc n=acc ++ [n]:=by unfold step_dedup;rw[if_neg (by simpa using h)]
   have hn':(acc ++ [n]).Nodup:=by
    rw[List.nodup_append]
    refine⟨hn,List.nodup_cons.mpr ⟨by simp,List.nodup_nil⟩,fun a ha b hb=>?_⟩
    rw[List.mem_singleton] at hb
    subst hb
    exact fun q=>h (q▸ha)
   rw[e]
   obtain⟨h1,h2⟩:=oN ns (acc ++ [n]) hn'
   rw[List.length_append,List.length_singleton] at h1 h2
   refine⟨by rw[List.length_cons];omega,?_⟩
   rw[List.length_cons,show acc.length + (ns.length + 1)=acc.length + 1 + ns.length by omega,h2,List.nodup_cons]
   constructor
   ·rintro⟨z1,z2⟩
    refine⟨⟨fun q=>z2 n q (by simp),z1⟩,fun x hx=>?_⟩
    rcases List.mem_cons.mp hx with rfl |hx
    ·exact h
    ·exact fun q=>z2 x hx (List.mem_append_left _ q)
   ·rintro⟨⟨z1,z2⟩,z3⟩
    refine⟨z2,fun x hx q=>?_⟩
    rcases List.mem_append.mp q with q |q
    ·exact z3 x (List.mem_cons_of_mem _ hx) q
    ·rw[List.mem_singleton] at q;subst q;exact z1 hx
theorem uv (ns:List Int):pU ns=ns.length↔ns.Nodup:=by
 have e:firstMet (fun i=>ns.getD i 0) ns.length=ns.foldl step_dedup []:=by
  unfold firstMet
  congr 1
  refine List.ext_getElem (by simp) fun i h1 h2=>?_
  simp[List.getD_eq_getElem?_getD,h2]
 unfold pU
 rw[e]
 have:=(oN ns [] List.nodup_nil).2
 simpa using this
theorem nh:∀{l m:List Int},l.Nodup->(∀x,x∈l->x∈m)->m.length<=l.length->l.Perm m
 | [],m,_,_,h=>by
  have:m= []:=List.length_eq_zero_iff.mp (by simpa using h)
  rw[this]
 |x :: l,m,nd,hs,h=>by
  obtain⟨h1,h2⟩:=List.nodup_cons.mp nd
  have hx:x∈m:=hs x (List.mem_cons_self ..)
  have pm:m.Perm (x :: m.erase x):=List.perm_cons_erase hx
  refine (List.Perm.cons x (nh (m:=m.erase x) h2 (fun y hy=>?_) ?_)).trans pm.symm
  ·have hy':=pm.mem_iff.mp (hs y (List.mem_cons_of_mem _ hy))
   rcases List.mem_cons.mp hy' with rfl |q
   ·exact absurd hy h1
   ·exact q
  ·have:=pm.length_eq
   rw[List.length_cons] at this h
   omega
theorem o7 {n:Nat}{r:List Int}(hl:r.length=n)(hb:∀x,x∈r->0<=x/\x < n)(nd:r.Nodup):r.Perm (eZ n):=nh nd (fun x hx=>aP.mpr (hb x hx)) (by rw[cS];omega)
noncomputable def om (n:Nat)(d:D):Bool:=@decide (∃r:List Int,d=tupI r/\r.Perm (eZ n)) (Classical.propDecidable _)
theorem E7 {n:Nat}{d:D}(h:om n d=true):∃r:List Int,d=tupI r/\r.Perm (eZ n):=@of_decide_eq_true _ (Classical.propDecidable _) h
theorem uW {n:Nat}{r:List Int}(h:r.Perm (eZ n)):om n (tupI r)=true:=@decide_eq_true _ (Classical.propDecidable _) ⟨r,rfl,h⟩
theorem tm {n:Nat}{d:D}(h:∀r:List Int,d=tupI r->¬r.Perm (eZ n)):om n d=false:=@decide_eq_false _ (Classical.propDecidable _) fun⟨r,e,p⟩=>h r e p
theorem pD {r q:List Int}(h:tupI r=tupI q):r=q:=by
 unfold tupI at h
 have h:=PyData.tuple.inj h
 exact List.map_inj_right (fun a b e=>PyData.int.inj e) |>.mp h
theorem zw {d:D}{n:Int}(h:iH d n=true):∃i:Int,d=.int i/\0<=i/\i < n:=by
 cases d with
 |int i=>exact⟨i,rfl,of_decide_eq_true h⟩
 |_=>cases h
theorem qH {n:Int}:∀{ds:List D},(ds.all fun e=>iH e n)=true->∃r:List Int,ds=r.map PyData.int/\∀x,x∈r->0<=x/\x < n
 | [],_=>⟨[],rfl,fun x hx=>by cases hx⟩
 |d :: ds,h=>by
  rw[List.all_cons,Bool.and_eq_true] at h
  obtain⟨i,rfl,hi⟩:=zw h.1
  obtain⟨r,rfl,hr⟩:=qH h.2
  refine⟨i :: r,rfl,fun x hx=>?_⟩
  rcases List.mem_cons.mp hx with rfl |hx
  ·exact hi
  ·exact hr x hx
theorem yB {n:Nat}{r:List Int}(h:∀x,x∈r->0<=x/\x < (n:Int)):((r.map PyData.int).all fun e=>iH e n)=true:=by
 rw[List.all_map,List.all_eq_true]
 intro x hx
 exact decide_eq_true (h x hx)
theorem gR:∀r:List Int,gW (r.map PyData.int)=some r
 | []=>rfl
 |x :: r=>by
  have:=gR r
  simp only[List.map_cons,gW,this]
  try rfl
def yc:List D->FR:=aZ 2 2 (kG dD)
theorem Fw {n:Nat}{d:D}(h8:n<=100)(h:Ge d):yc [d,.int n]=.ok (.bool (om n d)) false:=by
 show fin (kG dD [.fz d,.fz (.int n)] 0)=_
 unfold kG
 have g0:gv 0 (vl [.fz d,.fz (.int n)]) 0=.ok d 0:=rfl
 have t1:=GX g0 h.1
 cases hy:D8 d with
 |false=>
  rw[hy] at t1
  rw[gE (d:=.bool false) (b:=false) (β':=0) (by rw[i8 (Eg (g9 t1))];rfl),tm]
  ·rfl
  ·intro r e;subst e;cases hy
 |true=>
  obtain⟨es,rfl⟩:=DU hy
  rw[hy] at t1
  have t2:cJ (f2 (f1 (gv 0) dP) (gv 1) (cq true)) (vl [.fz (.tuple es),.fz (.int n)]) 0=.ok (!decide ((es.length:Int)=n)) 0:=dw (neg:=true) (Ed g0) rfl
  by_cases hl:es.length=n
  ·rw[decide_eq_true (show (es.length:Int)=n by omega)] at t2
   rw[av (env':=[.fz (.tuple es),.fz (.int n)]) (β':=0) (by rw[gm (uZ (g9 t1) t2)];rfl)]
   have hs:=(h.2 _ rfl).2
   have ec:aM 1 [1] (.nm 0) (bh (gv 0)) kB (ao dD (aa (gv 0) (aa (gv 1) ag))) (vl [.fz (.tuple es),.fz (.int n)]) 0=.ok (.list (es.map fun e=>PyData.bool (iH e n))) 0:=
    q8 (fun e=>PyData.bool (iH e n)) rfl (by omega) fun e he=>⟨_,rfl,aA (ds:=[e,.int n]) rfl (sZ (hs e he))⟩
   have ea:=xG ec
   rw[dQ]
   cases hb:(es.all fun e=>iH e n) with
   |false=>
    rw[hb] at ea
    rw[EB ea,tm]
    ·rfl
    ·intro r e pm
     have e:=PyData.tuple.inj e
     subst e
     rw[yB fun x hx=>aP.mp (pm.mem_iff.mp hx)] at hb
     cases hb
   |true=>
    rw[hb] at ea
    obtain⟨r,rfl,hr⟩:=qH hb
    have hrl:r.length=n:=by rw[List.length_map] at hl;exact hl
    have es:f1 (gv 0) nW (vl [.fz (.tuple (r.map PyData.int)),.fz (.int n)]) 0=.ok (.int (pU r)) 0:=by
     refine di g0 ?_
     show (match gW (r.map PyData.int) with |some ns=>if ns.length<=1000 then some (PyData.int (pU ns)) else none |none=>none)=_
     rw[gR]
     exact if_pos (by omega)
    rw[Ey ea (aG es rfl (oi false (pU r) n))]
    show FR.ok (.bool (decide ((pU r:Int)=(n:Int)))) false=_
    by_cases nd:r.Nodup
    ·have:=(uv r).mpr nd
     rw[decide_eq_true (by omega),show om n (.tuple (r.map PyData.int))=true from uW (o7 hrl hr nd)]
    ·have:pU r≠r.length:=fun q=>nd ((uv r).mp q)
     rw[decide_eq_false (by omega),tm]
     intro q e pm
     have e:=pD (r:=r) e
     subst e
     exact nd (pm.nodup_iff.mpr (i0 n))
  ·rw[decide_eq_false (show ¬(es.length:Int)=n by omega)] at t2
   rw[gE (d:=.bool false) (b:=false) (β':=0) (by rw[i8 (uZ (g9 t1) t2)];rfl),tm]
   ·rfl
   ·intro r e pm
    have e:=PyData.tuple.inj e
    subst e
    have:=pm.length_eq
    rw[cS] at this
    rw[List.length_map] at hl
    exact hl this
end RM

end

section
namespace RM
open PySem L2
def pX (r:List Int):List Int:=(List.range r.length).map fun (a:Nat)=>((r.idxOf (a:Int):Nat):Int)
def fX (r:List Int)(k:Nat):List Int:=(List.range r.length).map fun (a:Nat)=>if r.idxOf (a:Int) < k then ((r.idxOf (a:Int):Nat):Int) else 0
theorem zg {n:Nat}{r:List Int}(h:r.Perm (eZ n)):fX r r.length=pX r:=by
 unfold fX pX
 refine List.map_congr_left fun a ha=>?_
 have hl:=h.length_eq
 rw[cS] at hl
 have:=List.mem_range.mp ha
 rw[if_pos (List.idxOf_lt_length_iff.mpr (h.mem_iff.mpr (aP.mpr ⟨by omega,by omega⟩)))]
theorem v5 (r:List Int):fX r 0=List.replicate r.length 0:=by
 unfold fX
 refine List.ext_getElem (by simp) fun i h1 h2=>by simp
theorem vX {n:Nat}{r:List Int}(h:r.Perm (eZ n)){k:Nat}{x:Int}(hk:r[k]? =some x):(fX r k).set x.toNat (k:Int)=fX r (k + 1):=by
 have hl:=h.length_eq
 rw[cS] at hl
 have hx:=aP.mp (h.mem_iff.mp (List.mem_of_getElem? hk))
 have nd:r.Nodup:=h.nodup_iff.mpr (i0 n)
 obtain⟨hkl,hke⟩:=List.getElem?_eq_some_iff.mp hk
 have hix:r.idxOf x=k:=by rw[<-hke];exact nd.idxOf_getElem k hkl
 unfold fX
 refine List.ext_getElem (by simp) fun i h1 h2=>?_
 have hi:i < r.length:=by simpa using h2
 rw[List.getElem_set]
 simp only[List.getElem_map,List.getElem_range]
 by_cases e:x.toNat=i
 ·rw[if_pos e]
  have ex:(i:Int)=x:=by omega
  rw[ex,hix,if_pos (by omega)]
 ·rw[if_neg e]
  have:r.idxOf (i:Int)≠k:=fun q=>by
   have hm:(i:Int)∈r:=h.mem_iff.mpr (aP.mpr ⟨by omega,by omega⟩)
   have h3:=List.getElem_idxOf (List.idxOf_lt_length_iff.mpr hm)
   simp only[q] at h3
   rw[hke] at h3
   omega
  by_cases z:r.idxOf (i:Int) < k
  ·rw[if_pos z,if_pos (by omega)]
  ·rw[if_neg z,if_neg (by omega)]
theorem Ca {n:Nat}{r:List Int}(h:r.Perm (eZ n)){a:Int}(ha:0<=a/\a < n):jN (pX r) a=some ((r.idxOf a:Nat):Int):=by
 have hl:=h.length_eq
 rw[cS] at hl
 have e:(a.toNat:Int)=a:=by omega
 have:=lK (xs:=pX r) (j:=a.toNat) (v:=((r.idxOf a:Nat):Int)) (by
  unfold pX
  rw[List.getElem?_map,List.getElem?_range (by omega)]
  simp only[Option.map_some,e])
 rw[e] at this
 exact this
def GL:List D->FR:=aZ 4 1 lW
theorem GV {n:Nat}{r:List Int}(h100:n<=100)(h:r.Perm (eZ n)):GL [tupI r]=.ok (.list ((pX r).map PyData.int)) true:=by
 have hl:=h.length_eq
 rw[cS] at hl
 show fin (lW [.fz (tupI r),.no,.no,.no] 0)=_
 unfold lW
 rw[av (env':=[.fz (tupI r),.ow (.list ((fX r 0).map PyData.int)),.no,.no]) (β':=0) ?a]
 case a=>
  have e:f2 (bK (aa (cst (.int 0)) ag)) (f1 (gv 0) dP) nD (vl [.fz (tupI r),.no,.no,.no]) 0=.ok (.list ((fX r 0).map PyData.int)) 0:=by
   refine aG (lp (ac (ck _) an)) (Ed (ds:=r.map PyData.int) rfl) ?_
   rw[List.length_map,v5,List.map_replicate]
   simp only[nD]
   rw[if_pos ?q]
   ·congr 2
    rw[Int.toNat_natCast]
    induction r.length with
    |zero=>rfl
    |succ m ih=>first |rw[List.replicate_succ,List.replicate_succ,List.flatten_cons,ih];rfl | (simp[List.replicate_succ] at ih ⊢;try exact ih)
   case q=>first | (constructor <;> first |omega | (show _<=_;simp;try omega)) | (rw[sizeLine_eq];simp;omega)
  rw[iU,e];rfl
 have ee:AX (gv 0) (vl [.fz (tupI r),.ow (.list ((fX r 0).map PyData.int)),.no,.no]) 0=.ok (dm (r.map PyData.int)) 0:=rfl
 obtain⟨env',β',ef,s,t,rfl,rfl⟩:=cA (t:=.two 2 3) (m:=lY 1 [2] [] (gv 2) (gv 3)) (ds:=dm (r.map PyData.int)) (k:=0)
  (fun k env β=>∃s t:Sl,env= [.fz (tupI r),.ow (.list ((fX r k).map PyData.int)),s,t]/\β=0)
  (env:=[.fz (tupI r),.ow (.list ((fX r 0).map PyData.int)),.no,.no]) (β:=0) ⟨.no,.no,rfl,rfl⟩ (by
   rintro k d env β hk ⟨s,t,rfl,rfl⟩
   unfold dm at hk
   rw[List.getElem?_mapIdx,List.getElem?_map] at hk
   cases hx:r[k]? with
   |none=>rw[hx] at hk;cases hk
   |some x=>
    rw[hx] at hk
    cases hk
    have hxm:=aP.mp (h.mem_iff.mp (List.mem_of_getElem? hx))
    refine⟨[.fz (tupI r),.ow (.list ((fX r (0 + k)).map PyData.int)),.fz (.int k),.fz (.int x)],rfl,?_⟩
    rw[Nat.zero_add]
    refine⟨[.fz (tupI r),.ow (.list ((fX r (k + 1)).map PyData.int)),.fz (.int k),.fz (.int x)],0,?_,_,_,rfl,rfl⟩
    rw[ot (ds:=(fX r k).map PyData.int) (d:=.int k) (k:=x) (n:=x.toNat) (β1:=0) (β2:=0) rfl (by rfl) rfl (by rfl) ?b]
    ·rw[<-vX h hx,List.map_set];rfl
    case b=>
     unfold tJ
     rw[if_pos hxm.1,if_pos (by rw[List.length_map];unfold fX;simp;omega)])
 have hle:(dm (r.map PyData.int)).length=r.length:=by unfold dm;simp
 rw[Nat.zero_add,hle,zg h] at ef
 rw[av (env':=[.fz (tupI r),.ow (.list ((pX r).map PyData.int)),s,t]) (β':=0) (by
  rw[cy (env:=[.fz (tupI r),.ow (.list ((fX r 0).map PyData.int)),.no,.no]) ee]
  exact ef)]
 rfl
def E2 (l:List Pr)(r:List Int):Bool:=l.all fun p=>decide (r.idxOf p.1 < r.idxOf p.2)
def Row (n:Nat)(l:List Pr)(r:List Int):Prop:=r.Perm (eZ n)/\E2 l r=true
noncomputable def rq (n:Nat)(l:List Pr)(d:D):Bool:=@decide (∃r:List Int,d=tupI r/\Row n l r) (Classical.propDecidable _)
theorem Il {n:Nat}{l:List Pr}{d:D}(h:rq n l d=true):∃r:List Int,d=tupI r/\Row n l r:=@of_decide_eq_true _ (Classical.propDecidable _) h
theorem yh {n:Nat}{l:List Pr}{r:List Int}(h:Row n l r):rq n l (tupI r)=true:=@decide_eq_true _ (Classical.propDecidable _) ⟨r,rfl,h⟩
theorem Es {n:Nat}{l:List Pr}{d:D}(h:∀r:List Int,d=tupI r->¬Row n l r):rq n l d=false:=@decide_eq_false _ (Classical.propDecidable _) fun⟨r,e,p⟩=>h r e p
noncomputable def IP:List D->FR:=aZ 3 2 (fN yc GL)
theorem Ad {n:Nat}{r:List Int}(h:r.Perm (eZ n)){a b:Int}(ha:0<=a/\a < n)(hb:0<=b/\b < n){fp fa fb:VF D}{vs:List Nv}{β:Int}(hp:fp vs β=.ok (.list ((pX r).map PyData.int)) β)(h1:fa vs β=.ok (.int a) β)(h2:fb vs β=.ok (.int b) β) :
  f2 (f2 fp fa bQ) (f2 fp fb bQ) xB vs β=.ok (.bool (decide (r.idxOf a < r.idxOf b))) β:=by
 refine aG (aG hp h1 (show jN ((pX r).map PyData.int) a=_ by rw[du,Ca h ha];rfl)) (aG hp h2 (show jN ((pX r).map PyData.int) b=_ by rw[du,Ca h hb];rfl)) ?_
 show some (PyData.bool (decide (((r.idxOf a:Nat):Int) < ((r.idxOf b:Nat):Int))))=_
 congr 2
 rw[Bool.eq_iff_iff,decide_eq_true_eq,decide_eq_true_eq]
 omega
theorem Jv {n:Nat}{l:List Pr}{d:D}(O:OM.Ord n l)(h:Ge d):IP [d,aE n l]=.ok (.bool (rq n l d)) false:=by
 have h8:=O.hi
 show fin (fN yc GL [.fz d,.fz (aE n l),.no] 0)=_
 unfold fN
 have t:lI (ao yc (aa (gv 0) (aa (f2 (gv 1) (cst (.int 0)) bQ) ag))) (vl [.fz d,.fz (aE n l),.no]) 0=.ok (om n d) 0:=j7 (aA (ds:=[d,.int n]) (ac rfl (ac (IQ (n:=n) (l:=l) rfl) an)) (Fw (by omega) h))
 cases q:om n d with
 |false=>
  rw[q] at t
  rw[gE (d:=.bool false) (b:=false) (β':=0) (by rw[i8 (g9 t)];rfl),Es]
  ·rfl
  ·rintro r rfl hr
   rw[uW hr.1] at q;cases q
 |true=>
  rw[q] at t
  obtain⟨r,rfl,pm⟩:=E7 q
  rw[av (env':=[.fz (tupI r),.fz (aE n l),.no]) (β':=0) (by rw[gm (g9 t)];rfl)]
  rw[av (env':=[.fz (tupI r),.fz (aE n l),.fz (.list ((pX r).map PyData.int))]) (β':=0) (by rw[dS,aA (ds:=[tupI r]) (β1:=0) rfl (GV (by omega) pm)];rfl)]
  have ec:aM 2 [2] (.two 0 1) (bh (f2 (gv 1) (cst (.int 1)) bQ)) kB (f2 (f2 (gv 2) (gv 0) bQ) (f2 (gv 2) (gv 1) bQ) xB) (vl [.fz (tupI r),.fz (aE n l),.fz (.list ((pX r).map PyData.int))]) 0=.ok (.list (l.map fun p=>PyData.bool (decide (r.idxOf p.1 < r.idxOf p.2)))) 0:=by
   refine cU (l:=l) (e:=aC) (fun p=>PyData.bool (decide (r.idxOf p.1 < r.idxOf p.2))) rfl (by have:=nP O;omega) fun p hp=>⟨_,rfl,?_⟩
   have hw:=O.wn p hp
   exact Ad pm hw.1 hw.2 rfl rfl rfl
  rw[dQ,vR (f:=fun p=>decide (r.idxOf p.1 < r.idxOf p.2)) ec]
  show FR.ok (.bool (E2 l r)) false=_
  cases qf:E2 l r with
  |true=>rw[yh ⟨pm,qf⟩]
  |false=>
   rw[Es]
   rintro r' e hr
   have e:=pD e
   subst e
   rw[hr.2] at qf;cases qf
def Gt (d:D):Prop:=c9 d=false/\∀ds,d=.list ds->ds.length<=100/\∀e,e∈ds->Ge e
noncomputable def uR (n:Nat)(l:List Pr)(d:D):Bool:=@decide (∃rs:List (List Int),d=.list (rs.map tupI)/\rs≠ []/\∀r,r∈rs->Row n l r) (Classical.propDecidable _)
theorem FA {n:Nat}{l:List Pr}{d:D}(h:uR n l d=true):∃rs:List (List Int),d=.list (rs.map tupI)/\rs≠ []/\∀r,r∈rs->Row n l r:=@of_decide_eq_true _ (Classical.propDecidable _) h
theorem qU {n:Nat}{l:List Pr}{rs:List (List Int)}(h1:rs≠ [])(h:∀r,r∈rs->Row n l r):uR n l (.list (rs.map tupI))=true:=@decide_eq_true _ (Classical.propDecidable _) ⟨rs,rfl,h1,h⟩
theorem wx {n:Nat}{l:List Pr}{d:D}(h:∀rs:List (List Int),d=.list (rs.map tupI)->rs≠ []->∃r,r∈rs/\¬Row n l r):uR n l d=false:=@decide_eq_false _ (Classical.propDecidable _) fun⟨r,e,h1,h2⟩=>by
 obtain⟨x,hx,hn⟩:=h r e h1
 exact hn (h2 x hx)
theorem all_rows {n:Nat}{l:List Pr}:∀{ds:List D},ds.all (rq n l)=true->∃rs:List (List Int),ds=rs.map tupI/\∀r,r∈rs->Row n l r
 | [],_=>⟨[],rfl,fun r hr=>by cases hr⟩
 |d :: ds,h=>by
  rw[List.all_cons,Bool.and_eq_true] at h
  obtain⟨r,rfl,hr⟩:=Il h.1
  obtain⟨rs,rfl,hrs⟩:=all_rows h.2
  refine⟨r :: rs,rfl,fun x hx=>?_⟩
  rcases List.mem_cons.mp hx with rfl |hx
  ·exact hr
  ·exact hrs x hx
noncomputable def Ja:List D->FR:=aZ 2 2 (jH IP)
theorem Jm {n:Nat}{l:List Pr}{d:D}(O:OM.Ord n l)(h:Gt d):Ja [d,aE n l]=.ok (.bool (uR n l d)) false:=by
 show fin (jH IP [.fz d,.fz (aE n l)] 0)=_
 unfold jH
 have e1:=Ha (fa:=gv 0) (vs:=vl [.fz d,.fz (aE n l)]) (β:=0) rfl h.1
 cases q:FX d with
 |false=>
  rw[q] at e1
  rw[gE (d:=.bool false) (b:=false) (β':=0) (by rw[i8 (Eg (g9 (j7 e1)))];rfl),wx]
  ·rfl
  ·rintro rs rfl;cases q
 |true=>
  rw[q] at e1
  obtain⟨ds,rfl⟩:=Dl q
  have hd:=h.2 ds rfl
  have t2:cJ (f2 (f1 (gv 0) dP) (cst (.int 0)) (cq false)) (vl [.fz (.list ds),.fz (aE n l)]) 0=.ok (decide ((ds.length:Int)=0)) 0:=dw (neg:=false) (AY rfl) rfl
  cases ds with
  |nil=>
   rw[gE (d:=.bool false) (b:=false) (β':=0) (by rw[i8 (uZ (g9 (j7 e1)) t2)];rfl),wx]
   ·rfl
   ·intro rs e hne
    have e:=PyData.list.inj e
    cases rs with
    |nil=>exact absurd rfl hne
    |cons=>cases e
  |cons x ds=>
   rw[decide_eq_false (by simp;omega)] at t2
   rw[av (env':=[.fz (.list (x :: ds)),.fz (aE n l)]) (β':=0) (by rw[gm (uZ (g9 (j7 e1)) t2)];rfl)]
   have ec:aM 1 [1] (.nm 0) (bh (gv 0)) kB (ao IP (aa (gv 0) (aa (gv 1) ag))) (vl [.fz (.list (x :: ds)),.fz (aE n l)]) 0=.ok (.list ((x :: ds).map fun e=>PyData.bool (rq n l e))) 0:=
    q8 (fun e=>PyData.bool (rq n l e)) rfl (by omega) fun e he=>⟨_,rfl,aA (ds:=[e,aE n l]) rfl (Jv O (hd.2 e he))⟩
   rw[dQ,xG (f:=rq n l) ec]
   cases qa:(x :: ds).all (rq n l) with
   |true=>
    obtain⟨rs,e,hrs⟩:=all_rows qa
    rw[e,qU (by rintro rfl;cases e) hrs];rfl
   |false=>
    rw[wx]
    ·rfl
    ·intro rs e hne
     have e:=PyData.list.inj e
     rw[e,List.all_map,List.all_eq_false] at qa
     obtain⟨r,hr,hx⟩:=qa
     exact⟨r,hr,fun z=>hx (yh z)⟩
def zR (rs:List (List Int))(p:Pr):Bool:=rs.all fun r=>decide (r.idxOf p.1 < r.idxOf p.2)
def Iz:List D->FR:=aZ 3 3 eM
theorem xV {α:Type}{fa:VF D}{vs:List Nv}{β:Int}{l:List α}{f:α->Bool}(h:fa vs β=.ok (.list (l.map fun q=>PyData.bool (f q))) β):f1 fa (bN fun bs=>bs.all id) vs β=.ok (.bool (l.all f)) β:=by
 refine di h ?_
 simp only[bN]
 rw[gQ]
 simp[List.all_map,Function.comp_def]
theorem JP {n:Nat}{rs:List (List Int)}(hz:rs.length<=100)(hp:∀r,r∈rs->r.Perm (eZ n)){a b:Int}(ha:0<=a/\a < n)(hb:0<=b/\b < n):Iz [.list (rs.map fun r=>.list ((pX r).map PyData.int)),.int a,.int b]=.ok (.bool (zR rs (a,b))) false:=by
 show fin (eM [.fz (.list (rs.map fun r=>.list ((pX r).map PyData.int))),.fz (.int a),.fz (.int b)] 0)=_
 unfold eM
 have ec:aM 1 [1,2] (.nm 0) (bh (gv 0)) kB (f2 (f2 (gv 0) (gv 1) bQ) (f2 (gv 0) (gv 2) bQ) xB) (vl [.fz (.list (rs.map fun r=>.list ((pX r).map PyData.int))),.fz (.int a),.fz (.int b)]) 0=.ok (.list (rs.map fun r=>PyData.bool (decide (r.idxOf a < r.idxOf b)))) 0:=
  cU (l:=rs) (e:=fun r=>.list ((pX r).map PyData.int)) (fun r=>PyData.bool (decide (r.idxOf a < r.idxOf b))) rfl (by omega) fun r hr=>⟨_,rfl,Ad (hp r hr) ha hb rfl rfl rfl⟩
 rw[dQ,xV ec];rfl
noncomputable def JD:List D->FR:=aZ 3 2 (eH GL jI Iz)
theorem HL {n:Nat}{rs:List (List Int)}(h1:1<=n)(h8:n<=8)(hz:rs.length<=100)(hp:∀r,r∈rs->r.Perm (eZ n)):JD [.int n,.list (rs.map tupI)]=.ok (.tuple (((OM.bM n).filter (zR rs)).map aC)) false:=by
 show fin (eH GL jI Iz [.fz (.int n),.fz (.list (rs.map tupI)),.no] 0)=_
 unfold eH
 have e1:aM 1 [] (.nm 0) (bh (gv 1)) kB (ao GL (aa (gv 0) ag)) (vl [.fz (.int n),.fz (.list (rs.map tupI)),.no]) 0=.ok (.list (rs.map fun r=>.list ((pX r).map PyData.int))) 0:=
  cU (l:=rs) (e:=tupI) (fun r=>.list ((pX r).map PyData.int)) rfl (by omega) fun r hr=>⟨_,rfl,aA (ds:=[tupI r]) rfl (GV (by omega) (hp r hr))⟩
 rw[av (env':=[.fz (.int n),.fz (.list (rs.map tupI)),.fz (.list (rs.map fun r=>.list ((pX r).map PyData.int)))]) (β':=0) (by rw[dS,e1];rfl)]
 have hg:(OM.bM n).length<=64:=by rw[eN];exact Nat.mul_le_mul h8 h8
 have e2:aM 2 [2] (.two 0 1) (bh (ao jI (aa (gv 0) ag))) (lI (ao Iz (aa (gv 2) (aa (gv 0) (aa (gv 1) ag))))) (bI (aa (gv 0) (aa (gv 1) ag))) (vl [.fz (.int n),.fz (.list (rs.map tupI)),.fz (.list (rs.map fun r=>.list ((pX r).map PyData.int)))]) 0=.ok (.list (((OM.bM n).filter (zR rs)).map aC)) 0:=by
  refine cT (l:=OM.bM n) (e:=aC) (zR rs) aC ?_ (by omega) fun p hp'=>⟨_,rfl,?_,fun _=>cw rfl rfl⟩
  ·unfold bh
   rw[aA (ds:=[.int n]) (β1:=0) rfl (xZ h1 h8)];rfl
  ·have:=OM.bt.mp hp'
   exact j7 (aA (ds:=[.list (rs.map fun r=>.list ((pX r).map PyData.int)),.int p.1,.int p.2]) rfl (JP hz hp this.1 this.2))
 rw[dQ,di (g:=jF) e2 rfl];rfl
end RM

end

section
namespace RM
open PySem L2
def zt (l:List Pr)(r:List Int)(x:Int):List Int:=(l.filter fun p=>decide (p.2=x) && !decide (p.1∈r)).map (·.1)
theorem jj {l:List Pr}{r:List Int}{x a:Int}:a∈zt l r x↔(a,x)∈l/\a∉r:=by
 unfold zt
 rw[List.mem_map]
 constructor
 ·rintro⟨p,hp,rfl⟩
  have:=List.mem_filter.mp hp
  simp only[Bool.and_eq_true,decide_eq_true_eq,Bool.not_eq_true',decide_eq_false_iff_not] at this
  obtain⟨pa,pb⟩:=p
  obtain⟨h1,h2,h3⟩:=this
  simp only at h2 h3
  subst h2
  exact⟨h1,h3⟩
 ·rintro⟨h1,h2⟩
  exact⟨(a,x),List.mem_filter.mpr ⟨h1,by simp[h2]⟩,rfl⟩
theorem zG {n:Nat}{l:List Pr}(O:OM.Ord n l)(r:List Int)(x:Int):(zt l r x).Nodup:=by
 unfold zt
 rw[List.nodup_iff_pairwise_ne,List.pairwise_map]
 refine List.Pairwise.imp_of_mem (fun {a b} ha hb h e=>h ?_) (List.nodup_iff_pairwise_ne.mp ((OM.iR O.ris).filter _))
 have h1:=(List.mem_filter.mp ha).2
 have h2:=(List.mem_filter.mp hb).2
 simp only[Bool.and_eq_true,decide_eq_true_eq] at h1 h2
 exact Prod.ext e (h1.1.trans h2.1.symm)
theorem least {n:Nat}{l:List Pr}(O:OM.Ord n l)(r:List Int):∀(k:Nat) (x:Int),(0<=x/\x < n)->x∉r->(zt l r x).length<=k->∃y:Int,(0<=y/\y < n)/\y∉r/\zt l r y= []
 | 0,x,hx,hr,hk=>⟨x,hx,hr,List.length_eq_zero_iff.mp (by omega)⟩
 |k + 1,x,hx,hr,hk=>by
  by_cases he:zt l r x= []
  ·exact⟨x,hx,hr,he⟩
  ·obtain⟨a,ha⟩:=List.exists_mem_of_ne_nil _ he
   obtain⟨h1,h2⟩:=jj.mp ha
   refine least O r k a (O.wn _ h1).1 h2 ?_
   have nd:(a :: zt l r a).Nodup:=List.nodup_cons.mpr ⟨fun q=>O.irr a (jj.mp q).1,zG O r a⟩
   have:=L2.ST.bC nd (m:=zt l r x) fun y hy=>by
    rcases List.mem_cons.mp hy with rfl |hy
    ·exact ha
    ·obtain⟨q1,q2⟩:=jj.mp hy
     exact jj.mpr ⟨O.tr _ _ _ q1 h1,q2⟩
   rw[List.length_cons] at this
   omega
structure tH (n:Nat)(l:List Pr)(r:List Int):Prop where
 nd:r.Nodup
 inn:∀x,x∈r->0<=x/\x < (n:Int)
 fit:∀p,p∈l->p.2∈r->p.1∈r/\r.idxOf p.1 < r.idxOf p.2
theorem tH.len {n:Nat}{l:List Pr}{r:List Int}(B:tH n l r):r.length<=n:=by
 have:=L2.ST.bC B.nd (m:=eZ n) fun x hx=>aP.mpr (B.inn x hx)
 rwa [cS] at this
theorem tH.row {n:Nat}{l:List Pr}{r:List Int}(O:OM.Ord n l)(B:tH n l r)(h:n<=r.length):Row n l r:=by
 have pm:=o7 (Nat.le_antisymm B.len h) B.inn B.nd
 refine⟨pm,List.all_eq_true.mpr fun p hp=>decide_eq_true ?_⟩
 exact (B.fit p hp (pm.mem_iff.mpr (aP.mpr (O.wn p hp).2))).2
def gn (l:List Pr)(r:List Int)(x:Int):Bool:= !decide (x∈r) && decide (zt l r x= [])
theorem tH.more {n:Nat}{l:List Pr}{r:List Int}{x:Int}(B:tH n l r)(hx:0<=x/\x < (n:Int))(hf:gn l r x=true):tH n l (r ++ [x]):=by
 unfold gn at hf
 rw[Bool.and_eq_true,Bool.not_eq_true',decide_eq_false_iff_not,decide_eq_true_eq] at hf
 obtain⟨h1,h2⟩:=hf
 refine⟨?_,fun y hy=>?_,fun p hp hm=>?_⟩
 ·rw[List.nodup_append]
  refine⟨B.nd,List.nodup_cons.mpr ⟨by simp,List.nodup_nil⟩,fun a ha b hb=>?_⟩
  rw[List.mem_singleton] at hb
  subst hb
  exact fun q=>h1 (q▸ha)
 ·rcases List.mem_append.mp hy with hy |hy
  ·exact B.inn y hy
  ·rw[List.mem_singleton] at hy;subst hy;exact hx
 ·rcases List.mem_append.mp hm with hm |hm
  ·obtain⟨q1,q2⟩:=B.fit p hp hm
   refine⟨List.mem_append_left _ q1,?_⟩
   rw[List.idxOf_append,List.idxOf_append,if_pos q1,if_pos hm]
   exact q2
  ·rw[List.mem_singleton] at hm
   have hp1:p.1∈r:=by
    by_cases z:p.1∈r
    ·exact z
    ·have:p.1∈zt l r x:=jj.mpr ⟨by rw[<-hm];exact hp,z⟩
     rw[h2] at this;cases this
   refine⟨List.mem_append_left _ hp1,?_⟩
   rw[List.idxOf_append,List.idxOf_append,if_pos hp1,if_neg (by rw[hm];exact h1)]
   have:=List.idxOf_lt_length_iff.mpr hp1
   omega
theorem tH.free {n:Nat}{l:List Pr}{r:List Int}(O:OM.Ord n l)(B:tH n l r)(h:r.length < n):(eZ n).filter (gn l r)≠ []:=by
 have:∃x,x∈eZ n/\x∉r:=by
  apply Classical.byContradiction
  intro z
  have:=L2.ST.bC (i0 n) (m:=r) fun x hx=>Classical.byContradiction fun q=>z ⟨x,hx,q⟩
  rw[cS] at this
  omega
 obtain⟨x,hx,hr⟩:=this
 obtain⟨y,hy,hyr,hp⟩:=least O r _ x (aP.mp hx) hr (Nat.le_refl _)
 intro q
 have:y∈(eZ n).filter (gn l r):=List.mem_filter.mpr ⟨aP.mpr hy,by unfold gn;simp[hyr,hp]⟩
 rw[q] at this
 cases this
def bH (l:List Pr)(r:List Int)(i:Nat):List Int:=(eZ i).filter (gn l r)
theorem AG (i:Nat):eZ (i + 1)=eZ i ++ [(i:Int)]:=by unfold eZ;rw[List.range_succ,List.map_append];rfl
theorem rj (l:List Pr)(r:List Int)(i:Nat):bH l r (i + 1)=bH l r i ++ if gn l r (i:Int)=true then [(i:Int)] else []:=by
 unfold bH
 rw[AG,List.filter_append]
 congr 1
 by_cases h:gn l r (i:Int)=true
 ·rw[if_pos h];simp[h]
 ·rw[if_neg h];simp[h]
theorem lX (l:List Pr)(r:List Int)(i:Nat):(bH l r i).length<=i:=by
 have:(bH l r i).length<=(eZ i).length:=List.length_filter_le _ _
 rwa [cS] at this
end RM

end

section
namespace RM
open PySem L2
theorem ux:∀rs:List (List Int),PyData.canLayAll0 (rs.map tupI)=true
 | []=>rfl
 |r :: rs=>by
  show ((tupI r).canLay0 && PyData.canLayAll0 (rs.map tupI))=true
  rw[ux rs,show (tupI r).canLay0=true by unfold tupI;simp only[PyData.canLay0];exact lay_ints r];rfl
theorem C9 (r:List Int):(tupI r).depth=1:=by unfold tupI;simp only[PyData.depth];rw[ox]
theorem tR:∀rs:List (List Int),PyData.depthAll (rs.map tupI)<=1
 | []=>by show (0:Nat)<=1;omega
 |r :: rs=>by
  show max (tupI r).depth (PyData.depthAll (rs.map tupI))<=1
  have h1:=C9 r
  have h2:=tR rs
  omega
theorem m8 (rs:List (List Int)):SeqAt.shaped (.list (rs.map tupI))=true:=by
 unfold SeqAt.shaped
 have h1:(PyData.list (rs.map tupI)).canLay0=true:=by simp only[PyData.canLay0];exact ux rs
 have h2:(PyData.list (rs.map tupI)).depth<=64:=by simp only[PyData.depth];have:=tR rs;omega
 rw[h1,decide_eq_true h2];rfl
theorem CY (r q:List Int):PyData.eqv (tupI r) (tupI q)=decide (r=q):=by
 unfold tupI
 simp only[PyData.eqv,pk]
theorem uQ:∀l m:List (List Int),PyData.eqvAll (l.map tupI) (m.map tupI)=decide (l=m)
 | [],[]=>rfl
 | [],_ :: _=>rfl
 |_ :: _,[]=>rfl
 |p :: l,q :: m=>by
  show (PyData.eqv (tupI p) (tupI q) && PyData.eqvAll (l.map tupI) (m.map tupI))=_
  rw[CY,uQ l m,Bool.eq_iff_iff]
  simp
theorem B8 (neg:Bool)(l m:List (List Int)):cq neg (.list (l.map tupI)) (.list (m.map tupI))=some (.bool (if neg then !decide (l=m) else decide (l=m))):=by
 unfold cq
 rw[m8,m8]
 simp only[Bool.and_self,if_true,PyData.eqv,uQ]
end RM

end

section
namespace RM
open PySem L2
structure WP (r:SO)(Q:SO->Prop):Prop where
 out:Q r
section
variable {m m' m1 m2:SF}{env env1:En}{β β1 β2 z:Int}{Q:SO->Prop}{f fa fb:VF D}{t:VF Bool}{d e:D}{L La Lb:List Nat}{i j:Nat}{c:Bool}
theorem wp_at (env1:En)(e:env=env1)(k:WP (m env1 β) Q):WP (m env β) Q:=by rw[e];exact k
theorem wp_seq (h:m env β=.nx env1 β1)(k:WP (m' env1 β1) Q):WP (aI m m' env β) Q:=by rw[av h];exact k
theorem rK (h:WP (aI m lB env β) Q):WP (m env β) Q:=by
 obtain⟨h⟩:=h
 unfold aI at h
 cases e:m env β with
 |_=>rw[e] at h;exact⟨h⟩
theorem pB (q:Q (.nx env β)):WP (lB env β) Q:=⟨q⟩
theorem oZ (h:f (vl env) β=.ok d β1)(k:WP (m' ((bo L env).set i (.fz d)) β1) Q):WP (aI (bw i L f) m' env β) Q:=wp_seq (by unfold bw;rw[h];rfl) k
theorem DM (h:f (vl env) β=.ok d β1)(k:WP (m' ((bo L env).set i (.ow d)) β1) Q):WP (aI (il i L f) m' env β) Q:=wp_seq (by unfold il;rw[h];rfl) k
theorem CB (h:f (vl env) β=.ok (.list [.int z]) β1)(k:WP (m' ((p6 (bo L env)).set i .bx) z) Q):WP (aI (xp i L f) m' env β) Q:=wp_seq (by unfold xp;rw[h];rfl) k
theorem DQ (h:f (vl env) β=.ok d β1)(k:WP (m' (bo L env) β1) Q):WP (aI (m9 L f) m' env β) Q:=wp_seq (by unfold m9;rw[h];rfl) k
theorem wp_bind {t:Tg}(h:f (vl env) β=.ok d β1)(hb:dH t d (bo L env)=some env1)(k:WP (m' env1 β1) Q):WP (aI (uI t L f) m' env β) Q:=wp_seq (by unfold uI;rw[h];dsimp only[toS];rw[hb]) k
theorem EY {ds:List D}(hi:env[i]? =some (.ow (.list ds)))(h:f (vl env) β=.ok d β1)(hL:(bo L env)[i]? =some (.ow (.list ds)))(hz:ds.length<=1000)(k:WP (m' ((bo L env).set i (.ow (.list (ds ++ [d])))) β1) Q):WP (aI (jY i L f) m' env β) Q:=wp_seq (me hi h hL hz) k
theorem xu (h:t (vl env) β=.ok false β1)(k:WP (m' (bo L env) β1) Q):WP (aI (jV L t m1 lB) m' env β) Q:=wp_seq (by rw[gm h];rfl) k
theorem Iq (h:t (vl env) β=.ok true β1)(k:WP (m1 (bo L env) β1) Q):WP (jV L t m1 m2 env β) Q:=by rw[i8 h];exact k
theorem HU (h:t (vl env) β=.ok false β1)(k:WP (m2 (bo L env) β1) Q):WP (jV L t m1 m2 env β) Q:=by rw[gm h];exact k
theorem oJ (h:f (vl env) β=.ok d β1)(q:Q (.rt d false β1)):WP (bO f env β) Q:=⟨by unfold bO;rw[h];exact q⟩
theorem w8 {R:FR}(h:WP (m env β) fun r=>fin r=R):fin (m env β)=R:=h.out
theorem wo {t:Tg}{fi:VF (List D)}{ds:List D}(I:Nat->En->Int->Prop)(hi:fi (vl env) β=.ok ds β1)(h0:I 0 (bo L env) β1)
  (hs:∀i d env β,ds[i]? =some d->I i env β->∃env1,dH t d env=some env1/\WP (m env1 β) fun r=>∃env2 β2,r=.nx env2 β2/\I (i + 1) env2 β2)
  (k:∀env β,I ds.length env β->WP (m' env β) Q):WP (aI (cN t L fi m) m' env β) Q:=by
 obtain⟨env',β',e,h⟩:=cA (t:=t) (m:=m) I (ds:=ds) (k:=0) h0 fun i d env β hd h=>by
  rw[Nat.zero_add] at h
  obtain⟨env1,e1,⟨env2,β2,e2,h2⟩⟩:=hs i d env β hd h
  exact⟨env1,e1,env2,β2,e2,by rw[Nat.zero_add];exact h2⟩
 rw[Nat.zero_add] at h
 exact wp_seq ((cy hi).trans e) (k _ _ h)
end
theorem Aw (c:Int)(hc:0<=c/\c<=100)(ns:List Int)(vs:List Nv)(β:Int)(h:gv 0 vs β=.ok (bZ ns) β):∃m:Nat,m<=101/\dX (f2 (cst (.int 1)) (f2 (f1 (gv 0) dP) (cst (.int c)) (tE fun i j=>.int (if j < i then j else i))) (tE fun i j=>.int (if j > i then j else i))) vs β=.ok (cu 0 m) β:=by
 have e1:f2 (cst (.int 1)) (f2 (f1 (gv 0) dP) (cst (.int c)) (tE fun i j=>.int (if j < i then j else i))) (tE fun i j=>.int (if j > i then j else i)) vs β=.ok (.int (if (if c < ((ns.map PyData.int).length:Int) then c else ((ns.map PyData.int).length:Int)) > 1 then (if c < ((ns.map PyData.int).length:Int) then c else ((ns.map PyData.int).length:Int)) else 1)) β:=
  aG (x:=.int 1) rfl (aG (x:=.int (ns.map PyData.int).length) (y:=.int c) (di h rfl) rfl rfl) rfl
 generalize ((ns.map PyData.int).length:Nat)=k at e1
 refine⟨(if (if c < (k:Int) then c else (k:Int)) > 1 then (if c < (k:Int) then c else (k:Int)) else 1).toNat,?_,eQ (e1.trans ?_) ?_⟩
 ·split <;> split <;> omega
 ·congr 2
  split <;> split <;> omega
 ·split <;> split <;> omega
end RM

end

section

end

section
namespace RM
open PySem L2
def It (d:D):Prop:=c9 d=false/\Sq 400 8 d/\Bf d
def Th (d:D):Prop:=Ge d/\Sq 10000 9 d/\Bf d
def Ap (P:D->Prop)(k:Nat)(es:List D):Prop:=es.length<=k/\∀x,x∈es->P x
abbrev Al:Nat->List D->Prop:=Ap It
theorem Cu.it {d:D}(h:Cu d):It d:=⟨h.scr,h.sq.mono (by omega) (by omega),h.bf⟩
theorem FP {i:Int}(h: -1<=i/\i<=9):It (.int i):=(xy h).it
theorem Ap.take {P:D->Prop}{k:Nat}{a:List D}(h:Ap P k a)(n:Nat):Ap P k (a.take n):=⟨by have:=h.1;rw[List.length_take];omega,fun x hx=>h.2 x (List.mem_of_mem_take hx)⟩
theorem Ap.drop {P:D->Prop}{k:Nat}{a:List D}(h:Ap P k a)(n:Nat):Ap P k (a.drop n):=⟨by have:=h.1;rw[List.length_drop];omega,fun x hx=>h.2 x (List.mem_of_mem_drop hx)⟩
theorem C2 {k:Nat}{r:List Int}(hl:r.length<=k)(h:∀x,x∈r->0<=x/\x < 9):Al k (r.map PyData.int):=⟨by rw[List.length_map];exact hl,fun x hx=>by
 obtain⟨y,hy,rfl⟩:=List.mem_map.mp hx
 exact FP (by have:=h y hy;omega)⟩
theorem Ap.tup {k:Nat}{a:List D}(h:Al k a)(hk:k<=24):Th (.tuple a):=by
 have:=h.1
 refine⟨Gz (by omega) fun x hx=>(h.2 x hx).1,(Aa (c:=400) (k:=8) fun d hd=>(h.2 d hd).2.1).mono ?_ (by omega),AV fun d hd=>(h.2 d hd).2.2⟩
 have:(400 + 2) * a.length<=402 * 24:=Nat.mul_le_mul (by omega) (by omega)
 omega
theorem Ap.lst {k:Nat}{a:List D}(h:Al k a)(hk:k<=24):Th (.list a):=by
 have:=h.1
 refine⟨⟨rfl,fun es' e=>by cases e⟩,(FQ (c:=400) (k:=8) fun d hd=>(h.2 d hd).2.1).mono ?_ (by omega),GF fun d hd=>(h.2 d hd).2.2⟩
 have:(400 + 2) * a.length<=402 * 24:=Nat.mul_le_mul (by omega) (by omega)
 omega
theorem Fb {r:List Int}(hl:r.length<=9)(h:∀x,x∈r->0<=x/\x < 9):It (tupI r):=by
 have sm:∀d,d∈r.map PyData.int->Cu d:=fun d hd=>by
  obtain⟨y,hy,rfl⟩:=List.mem_map.mp hd
  exact xy (by have:=h y hy;omega)
 refine⟨rfl,(Aa (c:=20) (k:=0) fun d hd=>(sm d hd).sq).mono ?_ (by omega),AV fun d hd=>(sm d hd).bf⟩
 rw[List.length_map]
 have:(20 + 2) * r.length<=22 * 9:=Nat.mul_le_mul (by omega) hl
 omega
theorem GZ {n:Nat}{r:List Int}(h8:n<=8)(hp:r.Perm (eZ n)):r.length=n/\∀x,x∈r->0<=x/\x < 9:=⟨by rw[hp.length_eq,cS],fun x hx=>by have:=aP.mp (hp.mem_iff.mp hx);omega⟩
theorem BI {ds:List D}{k:Nat}(h:k < ds.length):∃d,ds[k]? =some d/\d∈ds/\jN ds (k:Int)=some d:=⟨ds[k],List.getElem?_eq_getElem h,List.getElem_mem h,lK (List.getElem?_eq_getElem h)⟩
end RM

end

section
namespace RM
open PySem L2
section
variable {m m' m1 m2:SF}{env env1:En}{β β1 β2 z:Int}{Q:SO->Prop}{f fa fb:VF D}{t:VF Bool}{d e:D}{L La Lb:List Nat}{i j:Nat}{c:Bool}
theorem E8 (J:En->Int->Prop)(h:∃c β1,t (vl env) β=.ok c β1/\(c=true->WP (m1 (bo L env) β1) fun s=>∃env2 β2,s=.nx env2 β2/\J env2 β2)/\(c=false->WP (m2 (bo L env) β1) fun s=>∃env2 β2,s=.nx env2 β2/\J env2 β2))(k:∀env β,J env β->WP (m' env β) Q):WP (aI (jV L t m1 m2) m' env β) Q:=by
 obtain⟨c,β1,e,h1,h2⟩:=h
 cases c with
 |true=>obtain⟨env2,β2,e2,hj⟩:=(h1 rfl).out;exact wp_seq ((i8 e).trans e2) (k _ _ hj)
 |false=>obtain⟨env2,β2,e2,hj⟩:=(h2 rfl).out;exact wp_seq ((gm e).trans e2) (k _ _ hj)
end
theorem qt {α:Type}{own:Nat}{ixs:List Nat}{t:Tg}{fi:VF (List D)}{fe:VF D}{vs:List Nv}{β β1:Int}{ds:List D}(e:α->D)(P:α->Prop)(hi:fi vs β=.ok ds β1)(hz:ds.length<=1000)
  (h:∀d,d∈ds->∃vs1,kX t d (eY own ixs vs)=some vs1/\∀β,∃a β',fe vs1 β=.ok (e a) β'/\P a):∃(as:List α) (β':Int),aM own ixs t fi kB fe vs β=.ok (.list (as.map e)) β'/\as.length=ds.length/\∀a,a∈as->P a:=by
 obtain⟨as,β',ec,hl,hP⟩:=pL (t:=t) (fe:=fe) (vs:=eY own ixs vs) e P (ds:=ds) (β:=β1) h
 refine⟨as,β',?_,hl,hP⟩
 unfold aM
 rw[hi]
 dsimp only[R.bnd]
 rw[if_pos (sz _ hz),ec];rfl
def Ig (d:D):Prop:=Ge d/\Sq 400 8 d/\Bf d
theorem FG {r:List Int}(hl:r.length<=9)(h:∀x,x∈r->0<=x/\x < 9):Ig (tupI r):=⟨(C2 (k:=9) hl h).tup (by omega) |>.1,(Fb hl h).2⟩
end RM

end

section
namespace RM
open PySem L2
def lJ (rows:List (List Int))(p:Pr):Bool:= !decide (p.1=p.2) && (rows.filter fun r=>decide (r.idxOf p.1 > r.idxOf p.2)).isEmpty
def BS:List D->FR:=aZ 6 2 fF
theorem Fl {n:Nat}{rows:List (List Int)}(h8:n<=8)(hr:rows.length<=100)(hp:∀r,r∈rows->r.Perm (eZ n)):BS [.int n,.list (rows.map tupI)]=.ok (.tuple (((OM.bM n).filter (lJ rows)).map aC)) false:=by
 show fin (fF [.fz (.int n),.fz (.list (rows.map tupI)),.no,.no,.no,.no] 0)=_
 unfold fF
 rw[av (env':=[.fz (.int n),.fz (.list (rows.map tupI)),.ow (.list []),.no,.no,.no]) (β':=0) ?g1]
 case g1=>rw[iU,fP (ds:=[]) rfl (by simp)];rfl
 obtain⟨env',β',ef,s,t,u,rfl,rfl⟩:=cA (t:=.nm 3) (m:=cN (.nm 4) [] (dX (gv 0))
   (aI (bw 5 ([] ++ []) (aM 1 [3,4] (.nm 0) (bh (gv 1)) (cJ (f2 (j9 (gv 0) (gv 1)) (j9 (gv 0) (gv 2)) GP)) (cst (.int 1))))
   (jV (([] ++ []) ++ ([] ++ [])) (yO (cJ (f2 (gv 3) (gv 4) (cq true))) (cJ (f2 (gv 5) (bK ag) (cq false))))
   (jY 2 ([3] ++ ([4] ++ [])) (bI (aa (gv 3) (aa (gv 4) ag))))
   lB))) (ds:=cu 0 n) (k:=0)
  (fun i env β=>∃s t u:Sl,env= [.fz (.int n),.fz (.list (rows.map tupI)),.ow (.list ((upTo n (lJ rows) i 0).map aC)),s,t,u]/\β=0)
  (env:=[.fz (.int n),.fz (.list (rows.map tupI)),.ow (.list []),.no,.no,.no]) (β:=0) ⟨.no,.no,.no,by rw[yv];rfl,rfl⟩ (by
   rintro i d env β hi ⟨s,t,u,rfl,rfl⟩
   obtain⟨hin,rfl⟩:=i4 hi
   refine⟨[.fz (.int n),.fz (.list (rows.map tupI)),.ow (.list ((upTo n (lJ rows) (0 + i) 0).map aC)),.fz (.int (0 + (i:Int))),t,u],rfl,?_⟩
   rw[Nat.zero_add,Int.zero_add]
   obtain⟨env',β',ef,t2,u2,rfl,rfl⟩:=cA (t:=.nm 4) (m:=aI (bw 5 ([] ++ []) (aM 1 [3,4] (.nm 0) (bh (gv 1)) (cJ (f2 (j9 (gv 0) (gv 1)) (j9 (gv 0) (gv 2)) GP)) (cst (.int 1))))
     (jV (([] ++ []) ++ ([] ++ [])) (yO (cJ (f2 (gv 3) (gv 4) (cq true))) (cJ (f2 (gv 5) (bK ag) (cq false))))
     (jY 2 ([3] ++ ([4] ++ [])) (bI (aa (gv 3) (aa (gv 4) ag))))
     lB)) (ds:=cu 0 n) (k:=0)
    (fun k env β=>∃t u:Sl,env= [.fz (.int n),.fz (.list (rows.map tupI)),.ow (.list ((upTo n (lJ rows) i k).map aC)),.fz (.int i),t,u]/\β=0)
    (env:=[.fz (.int n),.fz (.list (rows.map tupI)),.ow (.list ((upTo n (lJ rows) i 0).map aC)),.fz (.int i),t,u]) (β:=0) ⟨t,u,rfl,rfl⟩ (by
     rintro k d env β hk ⟨t,u,rfl,rfl⟩
     obtain⟨hkn,rfl⟩:=i4 hk
     refine⟨[.fz (.int n),.fz (.list (rows.map tupI)),.ow (.list ((upTo n (lJ rows) i (0 + k)).map aC)),.fz (.int i),.fz (.int (0 + (k:Int))),u],rfl,?_⟩
     rw[Nat.zero_add,Int.zero_add]
     have ec:aM 1 [3,4] (.nm 0) (bh (gv 1)) (cJ (f2 (j9 (gv 0) (gv 1)) (j9 (gv 0) (gv 2)) GP)) (cst (.int 1)) [.da (.int n),.da (.list (rows.map tupI)),.da (.list ((upTo n (lJ rows) i k).map aC)),.da (.int i),.da (.int k),u.val] 0=.ok (.list ((rows.filter fun r=>decide (r.idxOf (i:Int) > r.idxOf (k:Int))).map fun _=>PyData.int 1)) 0:=by
      refine cT (l:=rows) (e:=tupI) (fun r=>decide (r.idxOf (i:Int) > r.idxOf (k:Int))) (fun _=>PyData.int 1) rfl (by omega) fun r hr=>⟨_,rfl,?_,fun _=>rfl⟩
      have hp:=hp r hr
      refine eS _ _ _ _ (aG (nR (r:=r) (k:=i) rfl rfl (hp.mem_iff.mpr (aP.mpr ⟨by omega,by omega⟩))) (nR (r:=r) (k:=k) rfl rfl (hp.mem_iff.mpr (aP.mpr ⟨by omega,by omega⟩))) ?_)
      show some (PyData.bool (decide (((r.idxOf (i:Int):Nat):Int) > ((r.idxOf (k:Int):Nat):Int))))=_
      congr 2
      rw[Bool.eq_iff_iff,decide_eq_true_eq,decide_eq_true_eq]
      omega
     rw[av (env':=[.fz (.int n),.fz (.list (rows.map tupI)),.ow (.list ((upTo n (lJ rows) i k).map aC)),.fz (.int i),.fz (.int k),.fz (.list ((rows.filter fun r=>decide (r.idxOf (i:Int) > r.idxOf (k:Int))).map fun _=>PyData.int 1))]) (β':=0) ?g]
     case g=>
      rw[dS]
      show toS (aM 1 [3,4] (.nm 0) (bh (gv 1)) (cJ (f2 (j9 (gv 0) (gv 1)) (j9 (gv 0) (gv 2)) GP)) (cst (.int 1)) [.da (.int n),.da (.list (rows.map tupI)),.da (.list ((upTo n (lJ rows) i k).map aC)),.da (.int i),.da (.int k),u.val] 0) _=_
      rw[ec];rfl
     generalize hL:(rows.filter fun r=>decide (r.idxOf (i:Int) > r.idxOf (k:Int)))=L
     have et:yO (cJ (f2 (gv 3) (gv 4) (cq true))) (cJ (f2 (gv 5) (bK ag) (cq false))) (vl [.fz (.int n),.fz (.list (rows.map tupI)),.ow (.list ((upTo n (lJ rows) i k).map aC)),.fz (.int i),.fz (.int k),.fz (.list (L.map fun _=>PyData.int 1))]) 0=.ok (lJ rows ((i:Int),(k:Int))) 0:=by
      have h1:cJ (f2 (gv 5) (bK ag) (cq false)) (vl [.fz (.int n),.fz (.list (rows.map tupI)),.ow (.list ((upTo n (lJ rows) i k).map aC)),.fz (.int i),.fz (.int k),.fz (.list (L.map fun _=>PyData.int 1))]) 0=.ok L.isEmpty 0:=by
       refine eS _ _ _ _ (aG (x:=.list (L.map fun _=>PyData.int 1)) (y:=.list []) rfl (fP (ds:=[]) rfl (by simp)) ?_)
       have e9:(L.map fun _=>PyData.int 1)=(L.map fun _=>(1:Int)).map PyData.int:=by rw[List.map_map];rfl
       rw[e9,show ([]:List D)=([]:List Int).map PyData.int from rfl,uf]
       congr 2
       cases L <;> simp
      have:=vE (dw (neg:=true) (fa:=gv 3) (fb:=gv 4) (vs:=vl [.fz (.int n),.fz (.list (rows.map tupI)),.ow (.list ((upTo n (lJ rows) i k).map aC)),.fz (.int i),.fz (.int k),.fz (.list (L.map fun _=>PyData.int 1))]) (β:=0) (i:=i) (j:=k) rfl rfl) h1
      rw[this]
      unfold lJ
      rw[hL];rfl
     cases c:lJ rows ((i:Int),(k:Int)) with
     |true=>
      rw[c] at et
      refine⟨[.fz (.int n),.fz (.list (rows.map tupI)),.ow (.list ((upTo n (lJ rows) i (k + 1)).map aC)),.fz (.int i),.fz (.int k),.fz (.list (L.map fun _=>PyData.int 1))],0,?_,_,_,rfl,rfl⟩
      rw[i8 et]
      have:=me (i:=2) (L:=[3] ++ ([4] ++ [])) (env:=[.fz (.int n),.fz (.list (rows.map tupI)),.ow (.list ((upTo n (lJ rows) i k).map aC)),.fz (.int i),.fz (.int k),.fz (.list (L.map fun _=>PyData.int 1))]) (ds:=(upTo n (lJ rows) i k).map aC) (β:=0) (by rfl) (cw (fa:=gv 3) (fb:=gv 4) (a:=i) (b:=k) rfl rfl) (by rfl) (by rw[List.length_map];have:=BL (lJ rows) i k h8;omega)
      rw[qI _ hin hkn,if_pos c,List.map_append]
      exact this
     |false=>
      rw[c] at et
      refine⟨[.fz (.int n),.fz (.list (rows.map tupI)),.ow (.list ((upTo n (lJ rows) i (k + 1)).map aC)),.fz (.int i),.fz (.int k),.fz (.list (L.map fun _=>PyData.int 1))],0,?_,_,_,rfl,rfl⟩
      have e8:=qI (lJ rows) hin hkn
      rw[if_neg (by rw[c];exact Bool.false_ne_true),List.append_nil] at e8
      rw[gm et,e8];rfl)
   rw[c8,Nat.zero_add,Ci] at ef
   refine⟨[.fz (.int n),.fz (.list (rows.map tupI)),.ow (.list ((upTo n (lJ rows) (i + 1) 0).map aC)),.fz (.int i),t2,u2],0,?_,_,_,_,rfl,rfl⟩
   rw[cy (env:=[.fz (.int n),.fz (.list (rows.map tupI)),.ow (.list ((upTo n (lJ rows) i 0).map aC)),.fz (.int i),t,u]) (eQ (n:=n) rfl (by omega))]
   exact ef)
 rw[c8,Nat.zero_add,Be] at ef
 rw[av (env':=[.fz (.int n),.fz (.list (rows.map tupI)),.ow (.list (((OM.bM n).filter (lJ rows)).map aC)),s,t,u]) (β':=0) ?g2]
 case g2=>
  rw[cy (env:=[.fz (.int n),.fz (.list (rows.map tupI)),.ow (.list []),.no,.no,.no]) (eQ (n:=n) rfl (by omega))]
  exact ef
 rw[dQ,di (x:=.list (((OM.bM n).filter (lJ rows)).map aC)) (d:=.tuple (((OM.bM n).filter (lJ rows)).map aC)) (β1:=0) rfl ?g3]
 case g3=>rfl
 rfl
theorem nZ {rows:List (List Int)}{p:Pr}:lJ rows p=true↔p.1≠p.2/\∀r,r∈rows->r.idxOf p.1<=r.idxOf p.2:=by
 unfold lJ
 rw[Bool.and_eq_true,Bool.not_eq_true',decide_eq_false_iff_not,List.isEmpty_iff,List.filter_eq_nil_iff]
 simp only[decide_eq_true_eq,Nat.not_lt,gt_iff_lt]
theorem z6 {n:Nat}{rows:List (List Int)}(h1:1<=n)(h8:n<=8)(hne:rows≠ [])(hp:∀r,r∈rows->r.Perm (eZ n)):OM.Ord n ((OM.bM n).filter (lJ rows)):=by
 refine⟨h1,h8,fun p hm=>OM.bt.mp (List.mem_filter.mp hm).1,OM.g7 _ (OM.jb n),fun a h=>?_,fun a b c hab hbc=>?_⟩
 ·exact (nZ.mp (List.mem_filter.mp h).2).1 rfl
 ·obtain⟨g1,t1⟩:=List.mem_filter.mp hab
  obtain⟨g2,t2⟩:=List.mem_filter.mp hbc
  have g1:=OM.bt.mp g1
  have g2:=OM.bt.mp g2
  obtain⟨n1,q1⟩:=nZ.mp t1
  obtain⟨n2,q2⟩:=nZ.mp t2
  refine List.mem_filter.mpr ⟨OM.bt.mpr ⟨g1.1,g2.2⟩,nZ.mpr ⟨fun e=>?_,fun r hr=>Nat.le_trans (q1 r hr) (q2 r hr)⟩⟩
  simp only at e n1 q1 q2
  subst e
  cases rows with
  |nil=>exact hne rfl
  |cons r rest=>
   have hr:r∈r :: rest:=List.mem_cons_self ..
   have pm:=hp r hr
   exact n1 (ya (pm.mem_iff.mpr (aP.mpr g1.1)) (pm.mem_iff.mpr (aP.mpr g1.2)) (Nat.le_antisymm (q1 r hr) (q2 r hr)))
end RM

end

section
namespace RM
open PySem L2
def Tells (n:Nat)(l:List Pr)(d:D):Prop:=∃rs:List (List Int),d=.list (rs.map tupI)/\rs≠ []/\(∀r,r∈rs->Row n l r)/\(OM.bM n).filter (zR rs)=l
noncomputable def ug (n:Nat)(l:List Pr)(d:D):Bool:=@decide (Tells n l d) (Classical.propDecidable _)
theorem ER {n:Nat}{l:List Pr}{d:D}(h:Tells n l d):ug n l d=true:=@decide_eq_true _ (Classical.propDecidable _) h
theorem Ai {n:Nat}{l:List Pr}{d:D}(h:¬Tells n l d):ug n l d=false:=@decide_eq_false _ (Classical.propDecidable _) h
theorem tM:∀{rs qs:List (List Int)},rs.map tupI=qs.map tupI->rs=qs
 | [],[],_=>rfl
 | [],_ :: _,h=>by cases h
 |_ :: _,[],h=>by cases h
 |r :: rs,q :: qs,h=>by
  rw[List.map_cons,List.map_cons,List.cons.injEq] at h
  rw[pD h.1,tM h.2]
theorem rn {n:Nat}{l:List Pr}{rs:List (List Int)}(h1:rs≠ [])(h:∀r,r∈rs->Row n l r):ug n l (.list (rs.map tupI))=decide ((OM.bM n).filter (zR rs)=l):=by
 by_cases c:(OM.bM n).filter (zR rs)=l
 ·rw[decide_eq_true c];exact ER ⟨rs,rfl,h1,h,c⟩
 ·rw[decide_eq_false c]
  refine Ai fun⟨qs,e,_,_,c'⟩=>c ?_
  have:=tM (PyData.list.inj e)
  rw[this];exact c'
noncomputable def AQ:List D->FR:=aZ 2 2 (wR iu Ja JD)
theorem FN {n:Nat}{l:List Pr}{d:D}(O:OM.Ord n l)(h:Gt d):AQ [d,aE n l]=.ok (.bool (ug n l d)) false:=by
 show fin (wR iu Ja JD [.fz d,.fz (aE n l)] 0)=_
 refine w8 (DQ (aA (ds:=[aE n l]) rfl (pf O)) ?_)
 have ea:=Jm O h
 cases c:uR n l d with
 |false=>
  rw[c] at ea
  rw[Ai fun⟨rs,e,h1,h2,_⟩=>by rw[e,qU h1 h2] at c;cases c]
  exact oJ (EB (aA (ds:=[d,aE n l]) rfl ea)) rfl
 |true=>
  rw[c] at ea
  obtain⟨rs,rfl,h1,h2⟩:=FA c
  rw[rn h1 h2]
  have hz:rs.length<=100:=by have:=(h.2 _ rfl).1;rw[List.length_map] at this;exact this
  exact oJ (Ey (aA (ds:=[.list (rs.map tupI),aE n l]) rfl ea) (aG (aA (ds:=[.int n,.list (rs.map tupI)]) (ac (IQ (n:=n) (l:=l) rfl) (ac rfl an)) (HL O.lo O.hi hz fun r hr=>(h2 r hr).1)) (GS (n:=n) (l:=l) rfl) (ui false _ _))) rfl
end RM

end

section
namespace RM
open PySem L2
def nV (l:List Pr)(p:Pr):Bool:=((l.filter fun q=>decide (q.2=p.1)).all fun q=>decide ((q.1,p.2)∈l)) && ((l.filter fun q=>decide (q.1=p.2)).all fun q=>decide ((p.1,q.2)∈l))
def sN:List D->FR:=aZ 4 3 jE
theorem DL {n:Nat}{l:List Pr}(hl:l.length<=1000)(a b:Int):sN [aE n l,.int a,.int b]=.ok (.bool (nV l (a,b))) false:=by
 show fin (jE [.fz (aE n l),.fz (.int a),.fz (.int b),.no] 0)=_
 unfold jE
 rw[av (env':=[.fz (aE n l),.fz (.int a),.fz (.int b),.fz (.tuple (l.map aC))]) (β':=0) (by rfl)]
 have e1:aM 2 [1,2,3] (.two 0 1) (bh (gv 3)) (cJ (f2 (gv 1) (gv 2) (cq false))) (f2 (bI (aa (gv 0) (aa (gv 3) ag))) (gv 4) (tK false)) [.da (aE n l),.da (.int a),.da (.int b),.da (.tuple (l.map aC))] 0=.ok (.list ((l.filter fun q=>decide (q.2=a)).map fun q=>PyData.bool (decide ((q.1,b)∈l)))) 0:=
  cT (l:=l) (e:=aC) (fun q=>decide (q.2=a)) (fun q=>PyData.bool (decide ((q.1,b)∈l))) rfl hl fun q hq=>⟨_,rfl,dw (neg:=false) (i:=q.2) (j:=a) rfl rfl,fun _=>aG (cw (a:=q.1) (b:=b) rfl rfl) rfl (kO false (q.1,b) l)⟩
 have e2:aM 2 [2,1,3] (.two 0 1) (bh (gv 3)) (cJ (f2 (gv 0) (gv 2) (cq false))) (f2 (bI (aa (gv 3) (aa (gv 1) ag))) (gv 4) (tK false)) [.da (aE n l),.da (.int a),.da (.int b),.da (.tuple (l.map aC))] 0=.ok (.list ((l.filter fun q=>decide (q.1=b)).map fun q=>PyData.bool (decide ((a,q.2)∈l)))) 0:=
  cT (l:=l) (e:=aC) (fun q=>decide (q.1=b)) (fun q=>PyData.bool (decide ((a,q.2)∈l))) rfl hl fun q hq=>⟨_,rfl,dw (neg:=false) (i:=q.1) (j:=b) rfl rfl,fun _=>aG (cw (a:=a) (b:=q.2) rfl rfl) rfl (kO false (a,q.2) l)⟩
 have t1:td (lI (f1 (aM 2 [1,2,3] (.two 0 1) (bh (gv 3)) (cJ (f2 (gv 1) (gv 2) (cq false))) (f2 (bI (aa (gv 0) (aa (gv 3) ag))) (gv 4) (tK false))) (bN fun bs=>bs.all id))) (vl [.fz (aE n l),.fz (.int a),.fz (.int b),.fz (.tuple (l.map aC))]) 0=.ok (!((l.filter fun q=>decide (q.2=a)).all fun q=>decide ((q.1,b)∈l))) 0:=g9 (j7 (vR e1))
 unfold nV
 dsimp only
 cases c:((l.filter fun q=>decide (q.2=a)).all fun q=>decide ((q.1,b)∈l)) with
 |false=>
  rw[c] at t1
  rw[gE (d:=.bool false) (b:=false) (β':=0) ?g]
  case g=>rw[i8 t1];rfl
  rfl
 |true=>
  rw[c] at t1
  rw[av (env':=[.fz (aE n l),.fz (.int a),.fz (.int b),.fz (.tuple (l.map aC))]) (β':=0) ?g]
  case g=>rw[gm t1];rfl
  rw[dQ]
  show fin (toS (f1 (aM 2 [2,1,3] (.two 0 1) (bh (gv 3)) (cJ (f2 (gv 0) (gv 2) (cq false))) (f2 (bI (aa (gv 3) (aa (gv 1) ag))) (gv 4) (tK false))) (bN fun bs=>bs.all id) [.da (aE n l),.da (.int a),.da (.int b),.da (.tuple (l.map aC))] 0) _)=_
  rw[vR e2];rfl
noncomputable def sS:List D->FR:=aZ 1 1 (kW lr sN)
theorem AB {n:Nat}{l:List Pr}(O:OM.Ord n l):sS [aE n l]=.ok (.list (((iP n l).filter (nV l)).map aC)) true:=by
 have hl:=nP O
 have e:aM 2 [0] (.two 0 1) (bh (ao lr (aa (gv 0) ag))) (lI (ao sN (aa (gv 2) (aa (gv 0) (aa (gv 1) ag))))) (bI (aa (gv 0) (aa (gv 1) ag))) [.da (aE n l)] 0=.ok (.list (((iP n l).filter (nV l)).map aC)) 0:=by
  have hi:bh (ao lr (aa (gv 0) ag)) [.da (aE n l)] 0=.ok ((iP n l).map aC) 0:=by
   unfold bh
   rw[aA (ds:=[aE n l]) rfl (x9 O)];rfl
  exact cT (l:=iP n l) (e:=aC) (nV l) aC hi (by have:=xF (l:=l) O.hi;omega) fun p hp=>⟨_,rfl,j7 (aA (ds:=[aE n l,.int p.1,.int p.2]) rfl (DL (by omega) p.1 p.2)),fun _=>cw rfl rfl⟩
 show fin (toS (aM 2 [0] (.two 0 1) (bh (ao lr (aa (gv 0) ag))) (lI (ao sN (aa (gv 2) (aa (gv 0) (aa (gv 1) ag))))) (bI (aa (gv 0) (aa (gv 1) ag))) [.da (aE n l)] 0) _)=_
 rw[e];rfl
end RM

end

section
namespace RM
open PySem L2 PyProof.Rows
def mk (f:Nat->Bool):Nat->Nat
 | 0=>0
 |n + 1=>mk f n ||| if f n=true then 2 ^ n else 0
theorem dg (f:Nat->Bool):∀(n i:Nat),(mk f n).testBit i=(decide (i < n) && f i)
 | 0,i=>by simp[mk]
 |n + 1,i=>by
  unfold mk
  rw[Nat.testBit_or,dg f n i]
  by_cases h:f n=true
  ·rw[if_pos h,Nat.testBit_two_pow]
   by_cases e:n=i
   ·subst e;simp[h]
   ·have e2:decide (i < n)=decide (i < n + 1):=by
     rw[decide_eq_decide];omega
    simp[e,e2]
  ·rw[if_neg h]
   by_cases e:i=n
   ·subst e;simp[h]
   ·have e2:decide (i < n)=decide (i < n + 1):=by
     rw[decide_eq_decide];omega
    simp[e2]
theorem mk_eq {f g:Nat->Bool}{n:Nat}:mk f n=mk g n↔∀i,i < n->f i=g i:=by
 constructor
 ·intro h i hi
  have:=congrArg (fun x=>x.testBit i) h
  simp only[dg,decide_eq_true hi,Bool.true_and] at this
  exact this
 ·intro h
  apply Nat.eq_of_testBit_eq
  intro i
  rw[dg,dg]
  by_cases hi:i < n
  ·rw[h i hi]
  ·rw[decide_eq_false hi];simp
def i9 (f:Nat->Bool)(t:Nat):Nat->Bool:=fun i=>f i || decide (i=t)
theorem Eb {f:Nat->Bool}{n t:Nat}(h:t < n):mk f n ||| 2 ^ t=mk (i9 f t) n:=by
 apply Nat.eq_of_testBit_eq
 intro i
 rw[Nat.testBit_or,dg,dg,Nat.testBit_two_pow]
 unfold i9
 by_cases e:t=i
 ·subst e;simp[h]
 ·have e':¬i=t:=fun q=>e q.symm
  simp[e,e']
theorem Fd {f g:Nat->Bool}{n:Nat}:(mk f n &&& mk g n=mk g n)↔∀i,i < n->g i=true->f i=true:=by
 have e:mk f n &&& mk g n=mk (fun i=>f i && g i) n:=by
  apply Nat.eq_of_testBit_eq
  intro i
  rw[Nat.testBit_and,dg,dg,dg]
  by_cases h:i < n
  ·simp[h]
  ·simp[h]
 rw[e,mk_eq]
 constructor
 ·intro h i hi hg
  have:=h i hi
  rw[hg,Bool.and_true] at this
  exact this
 ·intro h i hi
  cases hg:g i with
  |false=>simp
  |true=>rw[h i hi hg];rfl
theorem zz (a b:Nat):Builtin.bitOr (a:Int) (b:Int)=((a ||| b:Nat):Int):=by
 have h1:¬(0<=Builtin.bitNot (a:Int)):=by show ¬(0<= -(a:Int) - 1);omega
 have h2:¬(0<=Builtin.bitNot (b:Int)):=by show ¬(0<= -(b:Int) - 1);omega
 show Builtin.bitNot (Builtin.bitAnd (Builtin.bitNot a) (Builtin.bitNot b))=_
 rw[bitAnd_nn h1 h2]
 have e1:Builtin.bitNot (Builtin.bitNot (a:Int))=a:=by show -(-(a:Int) - 1) - 1=a;omega
 have e2:Builtin.bitNot (Builtin.bitNot (b:Int))=b:=by show -(-(b:Int) - 1) - 1=b;omega
 rw[e1,e2]
 show -(-((((a:Int).toNat ||| (b:Int).toNat:Nat):Int)) - 1) - 1=_
 rw[Int.toNat_natCast,Int.toNat_natCast];omega
theorem vW (a b:Nat):Builtin.bitAnd (a:Int) (b:Int)=((a &&& b:Nat):Int):=by
 rw[bitAnd_pp (by omega) (by omega),Int.toNat_natCast,Int.toNat_natCast]
def mI (f:Nat->Bool)(n:Nat):D:=.int ((mk f n:Nat):Int)
theorem BF:∀t:Nat,t < 8->vK (.int 1) (.int (t:Int))=some (.int ((2 ^ t:Nat):Int)):=by
 intro t ht
 have:t=0\/t=1\/t=2\/t=3\/t=4\/t=5\/t=6\/t=7:=by omega
 rcases this with rfl |rfl |rfl |rfl |rfl |rfl |rfl |rfl <;> rfl
def ny:List D->FR:=aZ 2 2 gq
theorem Ba {f:Nat->Bool}{n t:Nat}(h8:n<=8)(h:t < n):ny [mI f n,.int (t:Int)]=.ok (mI (i9 f t) n) false:=by
 show fin (gq [.fz (mI f n),.fz (.int t)] 0)=_
 unfold gq
 rw[dQ,aG (x:=mI f n) (y:=.int ((2 ^ t:Nat):Int)) (d:=mI (i9 f t) n) (β1:=0) (β2:=0) rfl (aG (x:=.int 1) (y:=.int t) rfl rfl (BF t (by omega))) ?a]
 ·rfl
 case a=>
  show some (PyData.int (Builtin.bitOr _ _))=_
  rw[zz,Eb h];rfl
def dz (n:Nat)(M:Nat->Nat->Bool):D:=.list ((List.range n).map fun b=>mI (M b) n)
def cY (l:List Pr)(b a:Nat):Bool:=decide ((((a:Nat):Int),((b:Nat):Int))∈l)
theorem Ip {n b:Nat}{M:Nat->Nat->Bool}(h:b < n):jN ((List.range n).map fun b=>mI (M b) n) (b:Int)=some (mI (M b) n):=lK (by rw[List.getElem?_map,List.getElem?_range h];rfl)
def GN:List D->FR:=aZ 4 1 (fI ny)
def orM (M:Nat->Nat->Bool)(p:Pr)(b a:Nat):Bool:=M b a || (decide ((b:Int)=p.2) && decide ((a:Int)=p.1))
theorem GD {n:Nat}{M:Nat->Nat->Bool}{p:Pr}(h1:0<=p.1/\p.1 < n)(h2:0<=p.2/\p.2 < n):((List.range n).map fun b=>mI (M b) n).set p.2.toNat (mI (i9 (M p.2.toNat) p.1.toNat) n)=(List.range n).map fun b=>mI (orM M p b) n:=by
 refine List.ext_getElem (by simp) fun i h3 h4=>?_
 rw[List.getElem_set]
 simp only[List.getElem_map,List.getElem_range]
 unfold mI
 by_cases e:p.2.toNat=i
 ·rw[if_pos e]
  congr 2
  rw[mk_eq]
  intro j hj
  unfold i9 orM
  rw[e]
  have e1:((i:Nat):Int)=p.2:=by omega
  rw[decide_eq_true e1,Bool.true_and]
  congr 1
  rw[decide_eq_decide];omega
 ·rw[if_neg e]
  congr 2
  rw[mk_eq]
  intro j hj
  unfold orM
  rw[decide_eq_false (by omega:¬((i:Nat):Int)=p.2)];simp
theorem xm {n:Nat}{l:List Pr}(h8:n<=8):∀(ps:List Pr) (M:Nat->Nat->Bool) (s2 s3:Sl),OM.Wn n ps->∃M' s2' s3',jS (.two 2 3) (lY 1 (([] ++ []) ++ ([2] ++ [])) [] (ao ny (aa (f2 (gv 1) (gv 3) bQ) (aa (gv 2) ag))) (gv 3)) (ps.map aC) [.fz (aE n l),.ow (dz n M),s2,s3] 0=.nx [.fz (aE n l),.ow (dz n M'),s2',s3'] 0/\∀b a,b < n->a < n->M' b a=(M b a || cY ps b a)
 | [],M,s2,s3,_=>⟨M,s2,s3,rfl,fun b a _ _=>by unfold cY;simp⟩
 |p :: ps,M,s2,s3,wn=>by
  have hp:=wn p (List.mem_cons_self ..)
  obtain⟨M',s2',s3',e,hM⟩:=xm (l:=l) h8 ps (orM M p) (.fz (.int p.1)) (.fz (.int p.2)) fun q hq=>wn q (List.mem_cons_of_mem _ hq)
  refine⟨M',s2',s3',?_,fun b a hb ha=>?_⟩
  ·rw[List.map_cons]
   unfold jS
   rw[show dH (.two 2 3) (aC p) [.fz (aE n l),.ow (dz n M),s2,s3]=some [.fz (aE n l),.ow (dz n M),.fz (.int p.1),.fz (.int p.2)] from rfl]
   dsimp only
   have e1:(p.2.toNat:Int)=p.2:=by omega
   have e2:(p.1.toNat:Int)=p.1:=by omega
   have ew:ao ny (aa (f2 (gv 1) (gv 3) bQ) (aa (gv 2) ag)) (vl [.fz (aE n l),.ow (dz n M),.fz (.int p.1),.fz (.int p.2)]) 0=.ok (mI (i9 (M p.2.toNat) p.1.toNat) n) 0:=by
    refine aA (b:=false) (ds:=[mI (M p.2.toNat) n,.int (p.1.toNat:Int)]) (ac (aG (x:=dz n M) (y:=.int p.2) rfl rfl ?_) (ac ?_ an)) (Ba h8 (by omega))
    ·have:=Ip (n:=n) (M:=M) (b:=p.2.toNat) (by omega)
     rw[e1] at this
     exact this
    ·show R.ok (PyData.int p.1) 0=_
     rw[e2]
   rw[ot (ds:=(List.range n).map fun b=>mI (M b) n) (d:=mI (i9 (M p.2.toNat) p.1.toNat) n) (k:=p.2) (n:=p.2.toNat) (β1:=0) (β2:=0) ew (by rfl) rfl (by rfl) (by
    unfold tJ
    rw[if_pos hp.2.1,if_pos (by simp;omega)]),GD hp.1 hp.2]
   dsimp only
   exact e
  ·rw[hM b a hb ha]
   unfold orM cY
   obtain⟨p1,p2⟩:=p
   rw[Bool.or_assoc]
   congr 1
   rw[Bool.eq_iff_iff]
   simp only[Bool.or_eq_true,Bool.and_eq_true,decide_eq_true_eq,List.mem_cons,Prod.mk.injEq]
   constructor
   ·rintro (⟨h1,h2⟩ |h)
    ·exact .inl ⟨h2,h1⟩
    ·exact .inr h
   ·rintro (⟨h1,h2⟩ |h)
    ·exact .inl ⟨h2,h1⟩
    ·exact .inr h
theorem yF {n:Nat}{M N:Nat->Nat->Bool}(h:∀b a,b < n->a < n->M b a=N b a):dz n M=dz n N:=by
 unfold dz
 congr 1
 refine List.map_congr_left fun b hb=>?_
 unfold mI
 congr 2
 rw[mk_eq]
 exact fun a ha=>h b a (List.mem_range.mp hb) ha
theorem Hl {n:Nat}{l:List Pr}(O:OM.Ord n l):GN [aE n l]=.ok (dz n (cY l)) true:=by
 have h8:=O.hi
 show fin (fI ny [.fz (aE n l),.no,.no,.no] 0)=_
 unfold fI
 rw[av (env':=[.fz (aE n l),.ow (dz n fun _ _=>false),.no,.no]) (β':=0) ?a]
 case a=>
  have e:f2 (bK (aa (cst (.int 0)) ag)) (f2 (gv 0) (cst (.int 0)) bQ) nD (vl [.fz (aE n l),.no,.no,.no]) 0=.ok (dz n fun _ _=>false) 0:=by
   refine aG (lp (ac (ck _) an)) (IQ (n:=n) (l:=l) rfl) ?_
   simp only[nD]
   rw[if_pos ⟨by omega,by omega,by rw[sizeLine_eq];simp;omega⟩]
   unfold dz
   congr 2
   rw[Int.toNat_natCast]
   have hz:∀m,mk (fun _=>false) m=0:=fun m=>by
    induction m with
    |zero=>rfl
    |succ m ih=>unfold mk;rw[ih];simp
   unfold mI
   simp only[hz]
   have:∀m:Nat,(List.replicate m [PyData.int 0]).flatten=List.replicate m (PyData.int 0):=fun m=>by
    induction m with
    |zero=>rfl
    |succ m ih=>rw[List.replicate_succ,List.replicate_succ,List.flatten_cons,ih];rfl
   rw[this]
   refine List.ext_getElem (by simp) fun i h1 h2=>by simp
  rw[iU,e];rfl
 obtain⟨M',s2,s3,e,hM⟩:=xm (l:=l) h8 l (fun _ _=>false) .no .no O.wn
 have hm:dz n M'=dz n (cY l):=yF fun b a hb ha=>by rw[hM b a hb ha];rfl
 rw[hm] at e
 rw[av (env':=[.fz (aE n l),.ow (dz n (cY l)),s2,s3]) (β':=0) (by
  rw[cy (env:=[.fz (aE n l),.ow (dz n fun _ _=>false),.no,.no]) (ds:=l.map aC) (β1:=0) (by unfold bh;rw[GS (n:=n) (l:=l) rfl];rfl)]
  exact e)]
 rfl
end RM

end

section
namespace RM
open PySem L2
def bJ (r:List Int)(i:Nat):Bool:=decide ((i:Int)∈r)
def D4:List D->FR:=aZ 5 2 (fO ny)
theorem A7 {n:Nat}{l:List Pr}(O:OM.Ord n l){r:List Int}{t:Nat}(ht:t < n):(!decide (mk (i9 (bJ r) t) n=mk (bJ r) n) && decide (mk (bJ r) n &&& mk (cY l t) n=mk (cY l t) n))=gn l r t:=by
 unfold gn
 congr 1
 ·congr 1
  rw[decide_eq_decide,mk_eq]
  constructor
  ·intro h
   have:=h t ht
   unfold i9 bJ at this
   simp at this
   exact this
  ·intro h i hi
   unfold i9 bJ
   by_cases e:i=t
   ·subst e;simp[h]
   ·simp[e]
 ·rw[decide_eq_decide,Fd]
  constructor
  ·intro h
   rw[List.eq_nil_iff_forall_not_mem]
   intro a ha
   obtain⟨h1,h2⟩:=jj.mp ha
   have hw:=(O.wn _ h1).1
   simp only at hw
   have e:((a.toNat:Nat):Int)=a:=by omega
   have:=h a.toNat (by omega) (by unfold cY;rw[e];exact decide_eq_true h1)
   unfold bJ at this
   rw[e] at this
   exact h2 (of_decide_eq_true this)
  ·intro h i hi hg
   unfold bJ
   refine decide_eq_true (Classical.byContradiction fun q=>?_)
   have:(i:Int)∈zt l r t:=jj.mpr ⟨of_decide_eq_true hg,q⟩
   rw[h] at this;cases this
theorem Ds {n:Nat}{l:List Pr}(O:OM.Ord n l)(r:List Int):∃s3 s4,jS (.two 3 4) (jV ((([1] ++ ([3] ++ [])) ++ []) ++ (([] ++ []) ++ [])) (yO (cJ (f2 (ao ny (aa (gv 1) (aa (gv 3) ag))) (gv 1) (cq true))) (cJ (f2 (f2 (gv 1) (gv 4) AM) (gv 4) (cq false))))
  (jY 2 [3] (gv 3)) lB) (dm ((List.range n).map fun b=>mI (cY l b) n)) [.fz (dz n (cY l)),.fz (mI (bJ r) n),.ow (.list []),.no,.no] 0=.nx [.fz (dz n (cY l)),.fz (mI (bJ r) n),.ow (.list ((bH l r n).map PyData.int)),s3,s4] 0:=by
 have h8:=O.hi
 obtain⟨env',β',ef,s3,s4,rfl,rfl⟩:=cA (t:=.two 3 4) (m:=jV ((([1] ++ ([3] ++ [])) ++ []) ++ (([] ++ []) ++ [])) (yO (cJ (f2 (ao ny (aa (gv 1) (aa (gv 3) ag))) (gv 1) (cq true))) (cJ (f2 (f2 (gv 1) (gv 4) AM) (gv 4) (cq false))))
  (jY 2 [3] (gv 3)) lB) (ds:=dm ((List.range n).map fun b=>mI (cY l b) n)) (k:=0)
  (fun k env b=>∃s3 s4,env= [.fz (dz n (cY l)),.fz (mI (bJ r) n),.ow (.list ((bH l r k).map PyData.int)),s3,s4]/\b=0)
  (env:=[.fz (dz n (cY l)),.fz (mI (bJ r) n),.ow (.list []),.no,.no]) (β:=0) ⟨.no,.no,rfl,rfl⟩ (by
   rintro k d env b hk ⟨s3,s4,rfl,rfl⟩
   unfold dm at hk
   rw[List.getElem?_mapIdx,List.getElem?_map] at hk
   have hkn:k < n:=by
    by_cases h:k < n
    ·exact h
    ·rw[List.getElem?_eq_none (by simp;omega)] at hk;cases hk
   rw[List.getElem?_range hkn] at hk
   cases hk
   refine⟨[.fz (dz n (cY l)),.fz (mI (bJ r) n),.ow (.list ((bH l r (0 + k)).map PyData.int)),.fz (.int k),.fz (mI (cY l k) n)],rfl,?_⟩
   rw[Nat.zero_add]
   have et:yO (cJ (f2 (ao ny (aa (gv 1) (aa (gv 3) ag))) (gv 1) (cq true))) (cJ (f2 (f2 (gv 1) (gv 4) AM) (gv 4) (cq false))) (vl [.fz (dz n (cY l)),.fz (mI (bJ r) n),.ow (.list ((bH l r k).map PyData.int)),.fz (.int k),.fz (mI (cY l k) n)]) 0=.ok (gn l r k) 0:=by
    rw[<-A7 O hkn]
    refine vE (eS _ _ _ _ (aG (x:=mI (i9 (bJ r) k) n) (y:=mI (bJ r) n) (aA (ds:=[mI (bJ r) n,.int k]) rfl (Ba h8 hkn)) rfl ?_)) (eS _ _ _ _ (aG (x:=.int ((mk (bJ r) n &&& mk (cY l k) n:Nat):Int)) (y:=mI (cY l k) n) (aG (x:=mI (bJ r) n) (y:=mI (cY l k) n) rfl rfl ?_) rfl ?_))
    ·unfold mI;rw[oi,if_pos rfl];congr 3;rw[decide_eq_decide];omega
    ·show some (PyData.int (Builtin.bitAnd _ _))=_
     rw[vW]
    ·unfold mI;rw[oi,if_neg Bool.false_ne_true];congr 2;rw[decide_eq_decide];omega
   cases c:gn l r (k:Int) with
   |true=>
    rw[c] at et
    refine⟨[.fz (dz n (cY l)),.fz (mI (bJ r) n),.ow (.list ((bH l r (k + 1)).map PyData.int)),.fz (.int k),.fz (mI (cY l k) n)],0,?_,_,_,rfl,rfl⟩
    rw[i8 et]
    have hz:=lX l r k
    rw[show bo ((([1] ++ ([3] ++ [])) ++ []) ++ (([] ++ []) ++ [])) [.fz (dz n (cY l)),.fz (mI (bJ r) n),.ow (.list ((bH l r k).map PyData.int)),.fz (.int k),.fz (mI (cY l k) n)]= [.fz (dz n (cY l)),.fz (mI (bJ r) n),.ow (.list ((bH l r k).map PyData.int)),.fz (.int k),.fz (mI (cY l k) n)] from rfl]
    rw[me (i:=2) (ds:=(bH l r k).map PyData.int) (d:=.int k) (β':=0) (by rfl) rfl (by rfl) (by rw[List.length_map];omega),rj,if_pos c,List.map_append]
    rfl
   |false=>
    rw[c] at et
    refine⟨[.fz (dz n (cY l)),.fz (mI (bJ r) n),.ow (.list ((bH l r (k + 1)).map PyData.int)),.fz (.int k),.fz (mI (cY l k) n)],0,?_,_,_,rfl,rfl⟩
    rw[gm et,rj,c,show bH l r k ++ (if false=true then [(k:Int)] else [])=bH l r k by simp]
    rfl)
 have hle:(dm ((List.range n).map fun b=>mI (cY l b) n)).length=n:=by unfold dm;simp
 rw[Nat.zero_add,hle] at ef
 exact⟨s3,s4,ef⟩
theorem HK {n:Nat}{l:List Pr}(O:OM.Ord n l)(r:List Int):D4 [dz n (cY l),mI (bJ r) n]=.ok (.list ((bH l r n).map PyData.int)) true:=by
 show fin (fO ny [.fz (dz n (cY l)),.fz (mI (bJ r) n),.no,.no,.no] 0)=_
 unfold fO
 rw[av (env':=[.fz (dz n (cY l)),.fz (mI (bJ r) n),.ow (.list []),.no,.no]) (β':=0) (by rw[iU,lp (ds:=[]) an];rfl)]
 obtain⟨s3,s4,e⟩:=Ds O r
 rw[av (env':=[.fz (dz n (cY l)),.fz (mI (bJ r) n),.ow (.list ((bH l r n).map PyData.int)),s3,s4]) (β':=0) (by
  rw[cy (env:=[.fz (dz n (cY l)),.fz (mI (bJ r) n),.ow (.list []),.no,.no]) (ds:=dm ((List.range n).map fun b=>mI (cY l b) n)) (β1:=0) rfl]
  exact e)]
 rfl
theorem GI (n:Nat):mI (bJ []) n=.int 0:=by
 unfold mI
 congr 1
 have:mk (bJ []) n=0:=by
  induction n with
  |zero=>rfl
  |succ m ih=>unfold mk;rw[ih];simp[bJ]
 rw[this];rfl
theorem Cm {n:Nat}{r:List Int}{x:Int}(h:0<=x/\x < n):mI (i9 (bJ r) x.toNat) n=mI (bJ (r ++ [x])) n:=by
 unfold mI
 congr 2
 rw[mk_eq]
 intro i hi
 unfold i9 bJ
 rw[Bool.eq_iff_iff]
 simp only[Bool.or_eq_true,decide_eq_true_eq,List.mem_append,List.mem_singleton]
 constructor
 ·rintro (h |h)
  ·exact .inl h
  ·exact .inr (by omega)
 ·rintro (h |h)
  ·exact .inl h
  ·exact .inr (by omega)
end RM

end

section
namespace RM
open PySem L2
theorem yt (f:Nat->Bool)(n:Nat):mk f n < 2 ^ n:=by
 apply Nat.lt_pow_two_of_testBit
 intro i hi
 rw[dg,decide_eq_false (by omega)];rfl
def ofM (n m:Nat):List Int:=(eZ n).filter fun x=>m.testBit x.toNat
theorem Cc {n m:Nat}(h:m < 2 ^ n):mk (bJ (ofM n m)) n=m:=by
 apply Nat.eq_of_testBit_eq
 intro i
 rw[dg]
 by_cases c:i < n
 ·rw[decide_eq_true c,Bool.true_and]
  unfold bJ ofM
  rw[Bool.eq_iff_iff,decide_eq_true_eq,List.mem_filter]
  constructor
  ·intro h;simpa using h.2
  ·intro h;exact⟨aP.mpr ⟨by omega,by omega⟩,by simpa using h⟩
 ·rw[decide_eq_false c,Bool.false_and]
  exact (Nat.testBit_lt_two_pow (Nat.lt_of_lt_of_le h (Nat.pow_le_pow_right (by omega) (by omega)))).symm
theorem C5 {f:Nat->Bool}{n t:Nat}(ht:t < n)(hf:f t=false):mk f n < mk (i9 f t) n:=by
 have h1:mk f n<=mk (i9 f t) n:=by rw[<-Eb ht];exact Nat.left_le_or
 have h2:mk f n≠mk (i9 f t) n:=fun e=>by
  have:=mk_eq.mp e t ht
  unfold i9 at this
  rw[hf] at this
  simp at this
 omega
def Bj (n m:Nat)(x:Int):Nat:=mk (i9 (bJ (ofM n m)) x.toNat) n
theorem Eu (n m:Nat)(x:Int):Bj n m x < 2 ^ n:=yt _ _
theorem EE {n m:Nat}{l:List Pr}{x:Int}(hm:m < 2 ^ n)(hx:x∈bH l (ofM n m) n):m < Bj n m x:=by
 unfold bH at hx
 obtain⟨h1,h2⟩:=List.mem_filter.mp hx
 have h1:=aP.mp h1
 unfold gn at h2
 rw[Bool.and_eq_true,Bool.not_eq_true',decide_eq_false_iff_not] at h2
 have:=C5 (f:=bJ (ofM n m)) (n:=n) (t:=x.toNat) (by omega) (by
  unfold bJ
  rw[decide_eq_false]
  rw[show ((x.toNat:Nat):Int)=x by omega]
  exact h2.1)
 rw[Cc hm] at this
 exact this
def qj (n:Nat)(l:List Pr)(T:List Int)(m:Nat):Int:=((bH l (ofM n m) n).map fun x=>T.getD (Bj n m x) 0).sum
structure Wt (n:Nat)(l:List Pr)(lo:Nat)(T:List Int):Prop where
 len:T.length=2 ^ n
 top:T.getD (2 ^ n - 1) 0=1
 eq:∀m,lo<=m->m < 2 ^ n - 1->T.getD m 0=qj n l T m
theorem km {T:List Int}{i j:Nat}{v:Int}(h:i≠j):(T.set i v).getD j 0=T.getD j 0:=by
 rw[List.getD_eq_getElem?_getD,List.getD_eq_getElem?_getD,List.getElem?_set_ne h]
theorem Wt.step {n:Nat}{l:List Pr}{lo:Nat}{T:List Int}(W:Wt n l (lo + 1) T)(h:lo < 2 ^ n - 1):Wt n l lo (T.set lo (qj n l T lo)):=by
 have key:∀m,lo<=m->m < 2 ^ n->qj n l (T.set lo (qj n l T lo)) m=qj n l T m:=fun m h1 h2=>by
  unfold qj
  congr 1
  refine List.map_congr_left fun x hx=>km ?_
  have:=EE h2 hx
  omega
 refine⟨by rw[List.length_set];exact W.len,by rw[km (by omega)];exact W.top,fun m h1 h2=>?_⟩
 rw[key m h1 (by omega)]
 by_cases c:m=lo
 ·subst c
  rw[List.getD_eq_getElem?_getD,List.getElem?_set_self (by rw[W.len];omega)];rfl
 ·rw[km (by omega)]
  exact W.eq m (by omega) h2
noncomputable def Dd:List D->FR:=aZ 4 1 (kI D4 ny)
theorem JF {n:Nat}{l:List Pr}(O:OM.Ord n l):∃T,Dd [dz n (cY l)]=.ok (.list (T.map PyData.int)) true/\Wt n l 0 T:=by
 have h8:=O.hi
 have hp:2 ^ n<=256:=Nat.pow_le_pow_right (n:=2) (by omega) h8
 have hp0:1<=2 ^ n:=Nat.one_le_two_pow
 show ∃T,fin (kI D4 ny [.fz (dz n (cY l)),.no,.no,.no] 0)=_/\_
 unfold kI
 have ef:f2 (f2 (cst (.int 1)) (f1 (gv 0) dP) vK) (cst (.int 1)) rm (vl [.fz (dz n (cY l)),.no,.no,.no]) 0=.ok (.int ((2 ^ n - 1:Nat):Int)) 0:=by
  have el:f1 (gv 0) dP (vl [.fz (dz n (cY l)),.no,.no,.no]) 0=.ok (.int n) 0:=by
   rw[AY (ds:=(List.range n).map fun b=>mI (cY l b) n) rfl,List.length_map,List.length_range]
  have es:vK (.int 1) (.int (n:Int))=some (.int ((2 ^ n:Nat):Int)):=by
   obtain⟨k,hk⟩:∃k,k=n:=⟨_,rfl⟩
   have:∀t:Nat,t < 9->vK (.int 1) (.int (t:Int))=some (.int ((2 ^ t:Nat):Int)):=by
    intro t ht
    rcases (by omega:t < 8\/t=8) with h |rfl
    ·exact BF t h
    ·rfl
   exact this n (by omega)
  refine aG (x:=.int ((2 ^ n:Nat):Int)) (y:=.int 1) (aG (x:=.int 1) (y:=.int n) rfl el es) rfl ?_
  show some (PyData.int (((2 ^ n:Nat):Int) - 1))=_
  congr 2
  omega
 rw[av (env':=[.fz (dz n (cY l)),.fz (.int ((2 ^ n - 1:Nat):Int)),.no,.no]) (β':=0) (by rw[dS,ef];rfl)]
 generalize hF:2 ^ n - 1=F
 have hF8:F<=255:=by omega
 obtain⟨L0,hL⟩:∃L0,L0=List.replicate F (0:Int) ++ [1]:=⟨_,rfl⟩
 rw[av (env':=[.fz (dz n (cY l)),.fz (.int ((F:Nat):Int)),.ow (.list (L0.map PyData.int)),.no]) (β':=0) ?g1]
 case g1=>
  have er:f2 (bK (aa (cst (.int 0)) ag)) (gv 1) nD (vl [.fz (dz n (cY l)),.fz (.int ((F:Nat):Int)),.no,.no]) 0=.ok (.list ((List.replicate F (0:Int)).map PyData.int)) 0:=by
   refine aG (x:=.list [.int 0]) (y:=.int F) (lp (ds:=[.int 0]) (ac rfl an)) rfl ?_
   unfold nD
   dsimp only
   rw[if_pos ⟨by omega,by omega,by rw[sizeLine_eq];simp;omega⟩]
   congr 2
   simp
  have ec:f2 (f2 (bK (aa (cst (.int 0)) ag)) (gv 1) nD) (bK (aa (cst (.int 1)) ag)) kR (vl [.fz (dz n (cY l)),.fz (.int ((F:Nat):Int)),.no,.no]) 0=.ok (.list ((List.replicate F (0:Int) ++ [1]).map PyData.int)) 0:=by
   refine aG (y:=.list [.int 1]) er (lp (ds:=[.int 1]) (ac rfl an)) ?_
   rw[rT (by simp;omega),List.map_append];rfl
  rw[iU,ec,hL];rfl
 obtain⟨env',β',el,T,s3,rfl,rfl,W⟩:=cA (t:=.nm 3) (m:=lY 2 (([0] ++ ([3] ++ [])) ++ [3]) [] (f1 (aM 1 [2,3] (.nm 0) (bh (ao D4 (aa (gv 0) (aa (gv 3) ag)))) kB (f2 (gv 1) (ao ny (aa (gv 2) (aa (gv 0) ag))) bQ)) zI) (gv 3)) (ds:=mn ((F:Int) - 1) F) (k:=0)
  (fun k env b=>∃(T:List Int) (s3:Sl),env= [.fz (dz n (cY l)),.fz (.int ((F:Nat):Int)),.ow (.list (T.map PyData.int)),s3]/\b=0/\Wt n l (F - k) T)
  (env:=[.fz (dz n (cY l)),.fz (.int ((F:Nat):Int)),.ow (.list (L0.map PyData.int)),.no]) (β:=0)
  ⟨_,.no,rfl,rfl,by rw[hL];simp;omega,by
   rw[hL,hF,List.getD_eq_getElem?_getD,List.getElem?_append_right (by simp)];simp,fun m h1 h2=>by omega⟩ (by
   rintro k d env b hk ⟨T,s3,rfl,rfl,W⟩
   have hkF:k < F:=by have:=(List.getElem?_eq_some_iff.mp hk).1;rwa [mB] at this
   have hd:d=.int ((F - 1 - k:Nat):Int):=by
    unfold mn at hk
    rw[List.getElem?_map,List.getElem?_range hkF] at hk
    cases hk
    rw[show ((F - 1 - k:Nat):Int)=(F:Int) - 1 - (k:Int) by omega]
   subst hd
   rw[Nat.zero_add] at W
   generalize hm:F - 1 - k=m
   rw[show F - k=m + 1 by omega] at W
   have hmN:m < 2 ^ n:=by omega
   refine⟨[.fz (dz n (cY l)),.fz (.int ((F:Nat):Int)),.ow (.list (T.map PyData.int)),.fz (.int ((m:Nat):Int))],rfl,?_⟩
   have emk:PyData.int ((m:Nat):Int)=mI (bJ (ofM n m)) n:=by unfold mI;rw[Cc hmN]
   have ec:aM 1 [2,3] (.nm 0) (bh (ao D4 (aa (gv 0) (aa (gv 3) ag)))) kB (f2 (gv 1) (ao ny (aa (gv 2) (aa (gv 0) ag))) bQ) (vl [.fz (dz n (cY l)),.fz (.int ((F:Nat):Int)),.ow (.list (T.map PyData.int)),.fz (.int ((m:Nat):Int))]) 0=.ok (.list ((bH l (ofM n m) n).map fun x=>PyData.int (T.getD (Bj n m x) 0))) 0:=by
    refine cU (l:=bH l (ofM n m) n) (e:=PyData.int) (fun x=>PyData.int (T.getD (Bj n m x) 0)) ?_ (by have:=lX l (ofM n m) n;omega) fun x hx=>⟨[.da (.int x),.da (.list (T.map PyData.int)),.da (.int ((m:Nat):Int))],rfl,?_⟩
    ·have:=aA (F:=D4) (fr:=aa (gv 0) (aa (gv 3) ag)) (vs:=vl [.fz (dz n (cY l)),.fz (.int ((F:Nat):Int)),.ow (.list (T.map PyData.int)),.fz (.int ((m:Nat):Int))]) (β:=0) (β1:=0) (ds:=[dz n (cY l),mI (bJ (ofM n m)) n]) (by rw[<-emk];rfl) (HK O (ofM n m))
     unfold bh
     rw[this];rfl
    ·have hxr:=aP.mp (List.mem_filter.mp hx).1
     have ew:ao ny (aa (gv 2) (aa (gv 0) ag)) [.da (.int x),.da (.list (T.map PyData.int)),.da (.int ((m:Nat):Int))] 0=.ok (.int ((Bj n m x:Nat):Int)) 0:=aA (ds:=[mI (bJ (ofM n m)) n,.int (x.toNat:Int)]) (by rw[<-emk,show ((x.toNat:Nat):Int)=x by omega];rfl) (Ba h8 (by omega))
     refine aG (x:=.list (T.map PyData.int)) rfl ew ?_
     have hl:=Eu n m x
     show jN (T.map PyData.int) ((Bj n m x:Nat):Int)=_
     rw[du,jB (by rw[W.len];exact hl),List.getD_eq_getElem?_getD,List.getElem?_eq_getElem (by rw[W.len];exact hl)];rfl
   have es:f1 (aM 1 [2,3] (.nm 0) (bh (ao D4 (aa (gv 0) (aa (gv 3) ag)))) kB (f2 (gv 1) (ao ny (aa (gv 2) (aa (gv 0) ag))) bQ)) zI (vl [.fz (dz n (cY l)),.fz (.int ((F:Nat):Int)),.ow (.list (T.map PyData.int)),.fz (.int ((m:Nat):Int))]) 0=.ok (.int (qj n l T m)) 0:=by
    refine di ec ?_
    have e9:((bH l (ofM n m) n).map fun x=>PyData.int (T.getD (Bj n m x) 0))=((bH l (ofM n m) n).map fun x=>T.getD (Bj n m x) 0).map PyData.int:=by rw[List.map_map];rfl
    unfold zI
    dsimp only
    rw[e9,gR];rfl
   refine⟨[.fz (dz n (cY l)),.fz (.int ((F:Nat):Int)),.ow (.list ((T.set m (qj n l T m)).map PyData.int)),.fz (.int ((m:Nat):Int))],0,?_,_,_,rfl,rfl,?_⟩
   ·rw[ot (i:=2) (ds:=T.map PyData.int) (d:=.int (qj n l T m)) (k:=m) (n:=m) (β1:=0) (β2:=0) es (by rfl) rfl (by rfl) (by
     unfold tJ
     rw[if_pos (by omega),if_pos (by rw[List.length_map,W.len];omega)];rfl),<-List.map_set];rfl
   ·rw[Nat.zero_add,show F - (k + 1)=m by omega]
    exact W.step (by omega))
 rw[Nat.zero_add,mB,Nat.sub_self] at W
 refine⟨T,?_,W⟩
 rw[av (env':=[.fz (dz n (cY l)),.fz (.int ((F:Nat):Int)),.ow (.list (T.map PyData.int)),s3]) (β':=0) ?g2]
 case g2=>
  rw[cy (env:=[.fz (dz n (cY l)),.fz (.int ((F:Nat):Int)),.ow (.list (L0.map PyData.int)),.no]) (ds:=mn ((F:Int) - 1) F) (β1:=0) ?g3]
  ·exact el
  case g3=>
   show (if (tI ((F:Int) - 1) && tI (-1) && (-1:Int) == -1)=true then R.ok (mn ((F:Int) - 1) (((F:Int) - 1) - (-1)).toNat) 0 else R.bad)=_
   rw[if_pos (by rw[kC (by omega) (by omega)];rfl),show (((F:Int) - 1) - (-1)).toNat=F by omega]
 rfl
end RM

end

section
namespace RM
open PySem L2
theorem v9:∀{L:List Int},(∀x,x∈L->0<=x)->0<=L.sum
 | [],_=>by simp
 |x :: L,h=>by
  rw[List.sum_cons]
  have h1:=h x (List.mem_cons_self ..)
  have h2:=v9 (L:=L) fun y hy=>h y (List.mem_cons_of_mem _ hy)
  omega
theorem BG:∀{L:List Int} {x:Int},(∀x,x∈L->0<=x)->x∈L->x<=L.sum
 |y :: L,x,h,hx=>by
  rw[List.sum_cons]
  have h1:=h y (List.mem_cons_self ..)
  have h2:=v9 (L:=L) fun z hz=>h z (List.mem_cons_of_mem _ hz)
  rcases List.mem_cons.mp hx with rfl |hx
  ·omega
  ·have:=BG (L:=L) (fun z hz=>h z (List.mem_cons_of_mem _ hz)) hx
   omega
theorem Wt.nn {n:Nat}{l:List Pr}{T:List Int}(W:Wt n l 0 T):∀d m,m < 2 ^ n->2 ^ n - m<=d->0<=T.getD m 0
 | 0,m,h,hd=>by omega
 |d + 1,m,h,hd=>by
  by_cases c:m=2 ^ n - 1
  ·rw[c,W.top];omega
  ·rw[W.eq m (Nat.zero_le _) (by omega)]
   refine v9 fun y hy=>?_
   obtain⟨x,hx,rfl⟩:=List.mem_map.mp hy
   have:=EE h hx
   exact W.nn d _ (Eu n m x) (by omega)
def df (n:Nat)(T:List Int)(r:List Int):Int:=T.getD (mk (bJ r) n) 0
theorem Cn {l:List Pr}{r r':List Int}(h:∀x,x∈r↔x∈r')(x:Int):gn l r x=gn l r' x:=by
 unfold gn zt
 have e1:decide (x∈r)=decide (x∈r'):=by rw[decide_eq_decide];exact h x
 rw[e1]
 congr 2
 simp only[h]
theorem Ay {n:Nat}{r:List Int}(hr:∀x,x∈r->0<=x/\x < (n:Int))(x:Int):x∈r↔x∈ofM n (mk (bJ r) n):=by
 unfold ofM
 rw[List.mem_filter,aP]
 constructor
 ·intro h
  have hx:=hr x h
  refine⟨hx,?_⟩
  rw[dg,decide_eq_true (by omega)]
  unfold bJ
  rw[show ((x.toNat:Nat):Int)=x by omega]
  simp[h]
 ·rintro⟨hx,hb⟩
  rw[dg,decide_eq_true (by omega)] at hb
  unfold bJ at hb
  rw[show ((x.toNat:Nat):Int)=x by omega] at hb
  simpa using hb
theorem Hw {n:Nat}{r:List Int}(hr:∀x,x∈r->0<=x/\x < (n:Int)){x:Int}(hx:0<=x/\x < (n:Int)):Bj n (mk (bJ r) n) x=mk (bJ (r ++ [x])) n:=by
 unfold Bj
 rw[mk_eq]
 intro i hi
 unfold i9 bJ
 rw[Bool.eq_iff_iff]
 simp only[Bool.or_eq_true,decide_eq_true_eq,List.mem_append,List.mem_singleton]
 constructor
 ·rintro (h |h)
  ·exact .inl ((Ay hr _).mpr h)
  ·exact .inr (by omega)
 ·rintro (h |h)
  ·exact .inl ((Ay hr _).mp h)
  ·exact .inr (by omega)
theorem ke {n:Nat}{l:List Pr}{r:List Int}(B:tH n l r):mk (bJ r) n=2 ^ n - 1↔n<=r.length:=by
 constructor
 ·intro e
  have:(eZ n).length<=r.length:=L2.ST.bC (i0 n) fun x hx=>by
   have hx:=aP.mp hx
   have hb:(mk (bJ r) n).testBit x.toNat=true:=by rw[e,Nat.testBit_two_pow_sub_one,decide_eq_true (by omega)]
   rw[dg,decide_eq_true (by omega)] at hb
   unfold bJ at hb
   rw[show ((x.toNat:Nat):Int)=x by omega] at hb
   simpa using hb
  rw[cS] at this
  exact this
 ·intro h
  apply Nat.eq_of_testBit_eq
  intro i
  rw[dg,Nat.testBit_two_pow_sub_one]
  by_cases c:i < n
  ·have hl:=B.len
   have hp:=o7 (n:=n) (r:=r) (by omega) B.inn B.nd
   rw[decide_eq_true c,Bool.true_and]
   unfold bJ
   rw[decide_eq_true]
   exact hp.mem_iff.mpr (aP.mpr ⟨by omega,by omega⟩)
  ·rw[decide_eq_false c];rfl
theorem Wt.at {n:Nat}{l:List Pr}{T:List Int}{r:List Int}(W:Wt n l 0 T)(B:tH n l r)(h:r.length < n):df n T r=((bH l r n).map fun x=>df n T (r ++ [x])).sum:=by
 have hm:=yt (bJ r) n
 have hne:RM.mk (bJ r) n≠2 ^ n - 1:=fun e=>by have:=(ke B).mp e;omega
 unfold df
 rw[W.eq _ (Nat.zero_le _) (by omega)]
 unfold qj
 have e1:bH l (ofM n (RM.mk (bJ r) n)) n=bH l r n:=by
  unfold bH
  refine List.filter_congr fun x _=>(Cn (fun y=>Ay B.inn y) x).symm
 rw[e1]
 congr 1
 refine List.map_congr_left fun x hx=>?_
 rw[Hw B.inn (aP.mp (List.mem_filter.mp hx).1)]
theorem Wt.ways0 {n:Nat}{l:List Pr}{T:List Int}(W:Wt n l 0 T)(r:List Int):0<=df n T r:=W.nn (2 ^ n) _ (yt _ _) (Nat.sub_le _ _)
theorem wB {n:Nat}{l:List Pr}{r:List Int}{x:Int}(B:tH n l r)(hx:x∈bH l r n):tH n l (r ++ [x]):=B.more (aP.mp (List.mem_filter.mp hx).1) (List.mem_filter.mp hx).2
theorem Wt.pos {n:Nat}{l:List Pr}{T:List Int}(O:OM.Ord n l)(W:Wt n l 0 T):∀(k:Nat) (r:List Int),n - r.length<=k->tH n l r->1<=df n T r
 | 0,r,hk,B=>by
  unfold df
  rw[(ke B).mpr (by omega),W.top];omega
 |k + 1,r,hk,B=>by
  by_cases c:r.length < n
  ·have hne:=B.free O c
   obtain⟨x,hx⟩:=List.exists_mem_of_ne_nil _ hne
   have h1:=W.pos O k (r ++ [x]) (by rw[List.length_append,List.length_singleton];omega) (wB B hx)
   rw[W.at B c]
   have:=BG (L:=(bH l r n).map fun x=>df n T (r ++ [x])) (x:=df n T (r ++ [x])) (fun y hy=>by
    obtain⟨z,_,rfl⟩:=List.mem_map.mp hy
    exact W.ways0 _) (List.mem_map.mpr ⟨x,hx,rfl⟩)
   omega
  ·unfold df
   rw[(ke B).mpr (by omega),W.top];omega
end RM

end

section
namespace RM
open PySem L2
theorem Fi {n:Nat}{l:List Pr}{T r:List Int}{x:Int}(h8:n<=8)(hT:T.length=2 ^ n)(hx:0<=x/\x < (n:Int)){fw fp fx:VF D}{vs:List Nv}{β:Int}(hw:fw vs β=.ok (.list (T.map PyData.int)) β)(hp:fp vs β=.ok (mI (bJ r) n) β)(hfx:fx vs β=.ok (.int x) β) :
  f2 fw (ao ny (aa fp (aa fx ag))) bQ vs β=.ok (.int (df n T (r ++ [x]))) β:=by
 have ew:ao ny (aa fp (aa fx ag)) vs β=.ok (mI (bJ (r ++ [x])) n) β:=by
  rw[<-Cm hx]
  exact aA (ds:=[mI (bJ r) n,.int (x.toNat:Int)]) (ac hp (ac (by rw[hfx,show ((x.toNat:Nat):Int)=x by omega]) an)) (Ba h8 (by omega))
 refine aG (x:=.list (T.map PyData.int)) hw ew ?_
 have hl:=yt (bJ (r ++ [x])) n
 show jN (T.map PyData.int) ((mk (bJ (r ++ [x])) n:Nat):Int)=_
 unfold df
 rw[du,jB (by rw[hT];exact hl),List.getD_eq_getElem?_getD,List.getElem?_eq_getElem (by rw[hT];exact hl)];rfl
noncomputable def IK:List D->FR:=aZ 6 4 (lQ D4 ny)
abbrev cE (n:Nat)(l:List Pr)(T r:List Int)(a:Int)(j:Nat):En:=[.fz (dz n (cY l)),.fz (.list (T.map PyData.int)),.fz (mI (bJ r) n),.fz (.int a),.fz (.list ((bH l r n).map PyData.int)),.fz (.int ((j:Nat):Int))]
theorem Jh {n:Nat}{l:List Pr}{T r:List Int}{a:Int}(O:OM.Ord n l)(W:Wt n l 0 T)(B:tH n l r)(hlt:r.length < n)(h0:0<=a)(h1:a < df n T r):∃x b,IK [dz n (cY l),.list (T.map PyData.int),mI (bJ r) n,.int a]=.ok (.tuple [.int x,.int b]) false/\x∈bH l r n/\0<=b/\b < df n T (r ++ [x]):=by
 have h8:=O.hi
 show ∃x b,fin (lQ D4 ny [.fz (dz n (cY l)),.fz (.list (T.map PyData.int)),.fz (mI (bJ r) n),.fz (.int a),.no,.no] 0)=_/\_
 unfold lQ
 rw[av (env':=[.fz (dz n (cY l)),.fz (.list (T.map PyData.int)),.fz (mI (bJ r) n),.fz (.int a),.fz (.list ((bH l r n).map PyData.int)),.no]) (β':=0) (by rw[dS,aA (ds:=[dz n (cY l),mI (bJ r) n]) (β1:=0) rfl (HK O r)];rfl)]
 rw[av (env':=cE n l T r a 0) (β':=0) (by rfl)]
 have hfl:=lX l r n
 obtain⟨env',β',ew,b,j,x,rfl,rfl,hx,hb0,hb1⟩:=jD (L:=[] ++ ([] ++ ([2] ++ (([] ++ []) ++ [])))) (t:=cJ (f2 (gv 3) (f2 (gv 1) (ao ny (aa (gv 2) (aa (f2 (gv 4) (gv 5) bQ) ag))) bQ) J3))
  (m:=aI (bw 3 ([] ++ ([] ++ ([2] ++ (([] ++ []) ++ [])))) (f2 (gv 3) (f2 (gv 1) (ao ny (aa (gv 2) (aa (f2 (gv 4) (gv 5) bQ) ag))) bQ) rm))
   (bw 5 ([] ++ []) (f2 (gv 5) (cst (.int 1)) cQ)))
  (fun k env β=>∃(b:Int) (j:Nat),env=cE n l T r b j/\β=0/\k=(bH l r n).length - j/\0<=b/\b < (((bH l r n).drop j).map fun x=>df n T (r ++ [x])).sum)
  (fun env β=>∃(b:Int) (j:Nat) (x:Int),env=cE n l T r b j/\β=0/\(bH l r n)[j]? =some x/\0<=b/\b < df n T (r ++ [x]))
  (n:=1000) (k:=(bH l r n).length) (env:=cE n l T r a 0) (β:=0) (by omega)
  ⟨a,0,rfl,rfl,rfl,h0,by rw[W.at B hlt] at h1;exact h1⟩ (by
   rintro k env β ⟨b,j,rfl,rfl,rfl,hb0,hb1⟩
   have hj:j < (bH l r n).length:=by
    apply Classical.byContradiction
    intro hn
    rw[List.drop_eq_nil_of_le (by omega)] at hb1
    simp at hb1
    omega
   obtain⟨x,hx⟩:∃x,(bH l r n)[j]? =some x:=⟨_,List.getElem?_eq_getElem hj⟩
   have hxm:x∈bH l r n:=List.mem_of_getElem? hx
   have hxr:=aP.mp (List.mem_filter.mp hxm).1
   have hdr:(bH l r n).drop j=x :: (bH l r n).drop (j + 1):=by
    rw[List.drop_eq_getElem_cons hj]
    rw[List.getElem?_eq_getElem hj] at hx
    rw[Option.some.inj hx]
   rw[hdr,List.map_cons,List.sum_cons] at hb1
   have ei:∀c:Int,f2 (gv 4) (gv 5) bQ (vl (cE n l T r c j)) 0=.ok (.int x) 0:=fun c=>by
    refine aG (x:=.list ((bH l r n).map PyData.int)) (y:=.int j) rfl rfl ?_
    show jN ((bH l r n).map PyData.int) (j:Int)=_
    rw[du,jB hj]
    rw[List.getElem?_eq_getElem hj] at hx
    rw[Option.some.inj hx];rfl
   have ev:f2 (gv 1) (ao ny (aa (gv 2) (aa (f2 (gv 4) (gv 5) bQ) ag))) bQ (vl (cE n l T r b j)) 0=.ok (.int (df n T (r ++ [x]))) 0:=Fi (l:=l) h8 W.len hxr rfl rfl (ei b)
   refine⟨decide (b>=df n T (r ++ [x])),0,eS _ _ _ _ (aG (x:=.int b) (y:=.int (df n T (r ++ [x]))) rfl ev rfl),?_⟩
   by_cases c:b>=df n T (r ++ [x])
   ·refine .inr ⟨decide_eq_true c,?_⟩
    show ∃env2 β2 k',aI _ _ (cE n l T r b j) 0=.nx env2 β2/\k' < (bH l r n).length - j/\_
    rw[av (env':=cE n l T r (b - df n T (r ++ [x])) j) (β':=0) (by
     rw[dS,aG (x:=.int b) (y:=.int (df n T (r ++ [x]))) (d:=.int (b - df n T (r ++ [x]))) (β1:=0) (β2:=0) rfl ev rfl];rfl)]
    refine⟨cE n l T r (b - df n T (r ++ [x])) (j + 1),0,(bH l r n).length - (j + 1),?_,by omega,_,_,rfl,rfl,rfl,by omega,by omega⟩
    show bw 5 ([] ++ []) (f2 (gv 5) (cst (.int 1)) cQ) (cE n l T r (b - df n T (r ++ [x])) j) 0=.nx [.fz (dz n (cY l)),.fz (.list (T.map PyData.int)),.fz (mI (bJ r) n),.fz (.int (b - df n T (r ++ [x]))),.fz (.list ((bH l r n).map PyData.int)),.fz (.int ((j + 1:Nat):Int))] 0
    rw[show ((j + 1:Nat):Int)=(j:Int) + 1 by omega];rfl
   ·exact .inl ⟨decide_eq_false c,b,j,x,rfl,rfl,hx,hb0,by omega⟩)
 have hxm:x∈bH l r n:=List.mem_of_getElem? hx
 refine⟨x,b,?_,hxm,hb0,hb1⟩
 have hj:=(List.getElem?_eq_some_iff.mp hx).1
 have ei:f2 (gv 4) (gv 5) bQ (vl (cE n l T r b j)) 0=.ok (.int x) 0:=by
  refine aG (x:=.list ((bH l r n).map PyData.int)) (y:=.int j) rfl rfl ?_
  show jN ((bH l r n).map PyData.int) (j:Int)=_
  rw[du,jB hj]
  rw[List.getElem?_eq_getElem hj] at hx
  rw[Option.some.inj hx];rfl
 rw[av ew,dQ,kJ (ds:=[.int x,.int b]) (β1:=0) (ac ei (ac rfl an)) (by simp)];rfl
noncomputable def Jw:List D->FR:=aZ 1 1 (hX iu Dd GN)
theorem Du (n:Nat)(T:List Int):df n T []=T.getD 0 0:=by
 unfold df
 have:mk (bJ []) n=0:=by
  apply Nat.eq_of_testBit_eq
  intro i
  rw[dg]
  unfold bJ
  simp
 rw[this]
end RM

end

section
namespace RM
open PySem L2
noncomputable def rz (n:Nat)(l:List Pr):List Int:=Classical.epsilon fun T:List Int=>Dd [dz n (cY l)]=.ok (.list (T.map PyData.int)) true/\Wt n l 0 T
theorem mX {n:Nat}{l:List Pr}(O:OM.Ord n l):Dd [dz n (cY l)]=.ok (.list ((rz n l).map PyData.int)) true/\Wt n l 0 (rz n l):=Classical.epsilon_spec (p:=fun T:List Int=>Dd [dz n (cY l)]=.ok (.list (T.map PyData.int)) true/\Wt n l 0 T) (JF O)
noncomputable def jT (n:Nat)(l:List Pr):Int:=df n (rz n l) []
theorem sC (n:Nat)(l:List Pr):tH n l []:=⟨List.nodup_nil,(fun x hx=>by cases hx),(fun p _ h=>by cases h)⟩
theorem CW {n:Nat}{l:List Pr}(O:OM.Ord n l):1<=jT n l:=(mX O).2.pos O n [] (by simp) (sC n l)
theorem xQ {n:Nat}{l:List Pr}(O:OM.Ord n l):jN ((rz n l).map PyData.int) 0=some (.int (jT n l)):=by
 have hl:=(mX O).2.len
 have hp0:1<=2 ^ n:=Nat.one_le_two_pow
 unfold jT
 rw[Du,show (0:Int)=((0:Nat):Int) from rfl,du,jB (by omega),List.getD_eq_getElem?_getD,List.getElem?_eq_getElem (by omega)];rfl
theorem J1 {n:Nat}{l:List Pr}(O:OM.Ord n l):Jw [aE n l]=.ok (.int (jT n l)) false:=by
 show fin (hX iu Dd GN [.fz (aE n l)] 0)=_
 unfold hX
 rw[av (env':=[.fz (aE n l)]) (β':=0) (by rw[uD,aA (ds:=[aE n l]) (β1:=0) rfl (pf O)];rfl)]
 have e1:ao Dd (aa (ao GN (aa (gv 0) ag)) ag) (vl [.fz (aE n l)]) 0=.ok (.list ((rz n l).map PyData.int)) 0:=aA (ds:=[dz n (cY l)]) (ac (aA (ds:=[aE n l]) rfl (Hl O)) an) (mX O).1
 rw[dQ,aG (y:=.int 0) (β1:=0) (β2:=0) e1 rfl (xQ O)];rfl
noncomputable def IC:List D->FR:=aZ 9 2 (kz iu GN Dd dD IK ny)
noncomputable abbrev nE (n:Nat)(l:List Pr)(d:D)(a b c e f:Sl):En:=[.fz (aE n l),.fz d,.fz (dz n (cY l)),.fz (.list ((rz n l).map PyData.int)),a,b,c,e,f]
theorem CQ {n:Nat}{l:List Pr}{d:D}(O:OM.Ord n l)(h:c9 d=false):lI (ao dD (aa (gv 1) (aa (f2 (gv 3) (cst (.int 0)) bQ) ag))) (vl (nE n l d .no .no .no .no .no)) 0=.ok (iH d (jT n l)) 0:=
 j7 (aA (ds:=[d,.int (jT n l)]) (ac rfl (ac (aG (x:=.list ((rz n l).map PyData.int)) (y:=.int 0) rfl rfl (xQ O)) an)) (sZ h))
theorem Jf {n:Nat}{l:List Pr}{a:Int}(O:OM.Ord n l)(h0:0<=a)(h1:a < jT n l):∃r,IC [aE n l,.int a]=.ok (tupI r) false/\Row n l r:=by
 have h8:=O.hi
 have W:=(mX O).2
 show ∃r,fin (kz iu GN Dd dD IK ny [.fz (aE n l),.fz (.int a),.no,.no,.no,.no,.no,.no,.no] 0)=_/\_
 unfold kz
 rw[av (env':=[.fz (aE n l),.fz (.int a),.no,.no,.no,.no,.no,.no,.no]) (β':=0) (by rw[uD,aA (ds:=[aE n l]) (β1:=0) rfl (pf O)];rfl)]
 rw[av (env':=[.fz (aE n l),.fz (.int a),.fz (dz n (cY l)),.no,.no,.no,.no,.no,.no]) (β':=0) (by rw[dS,aA (ds:=[aE n l]) (β1:=0) rfl (Hl O)];rfl)]
 rw[av (env':=nE n l (.int a) .no .no .no .no .no) (β':=0) (by rw[dS,aA (ds:=[dz n (cY l)]) (β1:=0) rfl (mX O).1];rfl)]
 have t:=CQ (d:=.int a) O rfl
 rw[show iH (.int a) (jT n l)=true from decide_eq_true ⟨h0,h1⟩] at t
 rw[av (env':=nE n l (.int a) .no .no .no .no .no) (β':=0) (by rw[gm (g9 t)];rfl)]
 rw[av (env':=nE n l (.int a) (.ow (.list (([]:List Int).map PyData.int))) .no .no .no .no) (β':=0) (by rw[iU,lp (ds:=[]) an];rfl)]
 rw[av (env':=nE n l (.int a) (.ow (.list (([]:List Int).map PyData.int))) (.fz (mI (bJ []) n)) .no .no .no) (β':=0) (by rw[dS,GI];rfl)]
 rw[av (env':=nE n l (.int a) (.ow (.list (([]:List Int).map PyData.int))) (.fz (mI (bJ []) n)) (.fz (.int a)) .no .no) (β':=0) (by rfl)]
 obtain⟨env',β',ef,r,b,s7,s8,rfl,rfl,B,hl,hb⟩:=cA (t:=.nm 7) (m:=aI (bw 8 ([2] ++ ([3] ++ ([5] ++ ([6] ++ [])))) (ao IK (aa (gv 2) (aa (gv 3) (aa (gv 5) (aa (gv 6) ag))))))
   (aI (jY 4 ([] ++ []) (f2 (gv 8) (cst (.int 0)) bQ))
   (aI (bw 5 ([5] ++ (([] ++ []) ++ [])) (ao ny (aa (gv 5) (aa (f2 (gv 8) (cst (.int 0)) bQ) ag))))
   (bw 6 ([] ++ []) (f2 (gv 8) (cst (.int 1)) bQ))))) (ds:=cu 0 n) (k:=0)
  (fun k env β=>∃(r:List Int) (b:Int) (s7 s8:Sl),env=nE n l (.int a) (.ow (.list (r.map PyData.int))) (.fz (mI (bJ r) n)) (.fz (.int b)) s7 s8/\β=0/\tH n l r/\r.length=k/\0<=b/\b < df n (rz n l) r)
  (env:=nE n l (.int a) (.ow (.list (([]:List Int).map PyData.int))) (.fz (mI (bJ []) n)) (.fz (.int a)) .no .no) (β:=0) ⟨[],a,.no,.no,rfl,rfl,sC n l,rfl,h0,h1⟩ (by
   rintro k d env β hk ⟨r,b,s7,s8,rfl,rfl,B,hl,hb0,hb1⟩
   obtain⟨hkn,rfl⟩:=i4 hk
   rw[Nat.zero_add] at hl
   obtain⟨x,c,ec,hx,hc0,hc1⟩:=Jh O W B (by omega) hb0 hb1
   have hxr:=aP.mp (List.mem_filter.mp hx).1
   refine⟨nE n l (.int a) (.ow (.list (r.map PyData.int))) (.fz (mI (bJ r) n)) (.fz (.int b)) (.fz (.int (0 + (k:Int)))) s8,rfl,?_⟩
   generalize PyData.int (0 + (k:Int))=dk
   rw[av (env':=nE n l (.int a) (.ow (.list (r.map PyData.int))) (.fz (mI (bJ r) n)) (.fz (.int b)) (.fz dk) (.fz (.tuple [.int x,.int c]))) (β':=0) (by
    rw[dS,aA (ds:=[dz n (cY l),.list ((rz n l).map PyData.int),mI (bJ r) n,.int b]) (β1:=0) rfl ec];rfl)]
   rw[av (env':=nE n l (.int a) (.ow (.list ((r ++ [x]).map PyData.int))) (.fz (mI (bJ r) n)) (.fz (.int b)) (.fz dk) (.fz (.tuple [.int x,.int c]))) (β':=0) (by
    rw[me (i:=4) (ds:=r.map PyData.int) (d:=.int x) (β':=0) (by rfl) (aG (x:=.tuple [.int x,.int c]) (y:=.int 0) rfl rfl rfl) (by rfl) (by rw[List.length_map];omega),List.map_append];rfl)]
   rw[av (env':=nE n l (.int a) (.ow (.list ((r ++ [x]).map PyData.int))) (.fz (mI (bJ (r ++ [x])) n)) (.fz (.int b)) (.fz dk) (.fz (.tuple [.int x,.int c]))) (β':=0) (by
    rw[dS,aA (ds:=[mI (bJ r) n,.int (x.toNat:Int)]) (β1:=0) (ac rfl (ac (aG (x:=.tuple [.int x,.int c]) (y:=.int 0) rfl rfl (by rw[show ((x.toNat:Nat):Int)=x by omega];rfl)) an)) (Ba h8 (by omega)),Cm hxr];rfl)]
   refine⟨nE n l (.int a) (.ow (.list ((r ++ [x]).map PyData.int))) (.fz (mI (bJ (r ++ [x])) n)) (.fz (.int c)) (.fz dk) (.fz (.tuple [.int x,.int c])),0,by rfl,r ++ [x],c,_,_,rfl,rfl,wB B hx,by rw[List.length_append,List.length_singleton];omega,hc0,hc1⟩)
 rw[Nat.zero_add,c8] at hl
 refine⟨r,?_,B.row O (by omega)⟩
 rw[av (env':=nE n l (.int a) (.ow (.list (r.map PyData.int))) (.fz (mI (bJ r) n)) (.fz (.int b)) s7 s8) (β':=0) ?g]
 case g=>
  rw[cy (env:=nE n l (.int a) (.ow (.list (([]:List Int).map PyData.int))) (.fz (mI (bJ []) n)) (.fz (.int a)) .no .no) (ds:=cu 0 n) (β1:=0) (eQ (n:=n) (IQ (n:=n) (l:=l) rfl) (by omega))]
  exact ef
 rw[dQ,di (x:=.list (r.map PyData.int)) (d:=tupI r) (β1:=0) rfl (by rfl)];rfl
end RM

end

section

end

section
namespace RM
open PySem L2
theorem B3 {c:Int}:∀{L:List Int},(∀x,x∈L->x<=c)->L.sum<=L.length * c
 | [],_=>by simp
 |x :: L,h=>by
  rw[List.sum_cons,List.length_cons]
  have h1:=h x (List.mem_cons_self ..)
  have h2:=B3 (L:=L) fun y hy=>h y (List.mem_cons_of_mem _ hy)
  have:((L.length + 1:Nat):Int) * c=(L.length:Int) * c + c:=by rw[Int.natCast_add,Int.add_mul];simp
  omega
theorem Wt.bd {n:Nat}{l:List Pr}{T:List Int}(h8:n<=8)(W:Wt n l 0 T):∀(k:Nat) (r:List Int),n - r.length<=k->tH n l r->df n T r<=((8 ^ k:Nat):Int)
 | 0,r,hk,B=>by
  unfold df
  rw[(ke B).mpr (by omega),W.top];simp
 |k + 1,r,hk,B=>by
  by_cases c:r.length < n
  ·rw[W.at B c]
   have h1:=B3 (c:=((8 ^ k:Nat):Int)) (L:=(bH l r n).map fun x=>df n T (r ++ [x])) fun y hy=>by
    obtain⟨x,hx,rfl⟩:=List.mem_map.mp hy
    exact W.bd h8 k (r ++ [x]) (by rw[List.length_append,List.length_singleton];omega) (wB B hx)
   rw[List.length_map] at h1
   have h2:=lX l r n
   have h3:(((bH l r n).length * 8 ^ k:Nat):Int)<=((8 ^ (k + 1):Nat):Int):=by
    apply Int.ofNat_le.mpr
    rw[Nat.pow_succ,Nat.mul_comm (8 ^ k) 8]
    exact Nat.mul_le_mul_right _ (by omega)
   rw[Int.natCast_mul] at h3
   omega
  ·unfold df
   rw[(ke B).mpr (by omega),W.top]
   have:1<=8 ^ (k + 1):=Nat.one_le_pow _ _ (by omega)
   omega
theorem Gg {n:Nat}{l:List Pr}(O:OM.Ord n l):jT n l<=16777216:=by
 have h8:=O.hi
 have h:=(mX O).2.bd h8 8 [] (by simp;omega) (sC n l)
 have e:((8 ^ 8:Nat):Int)=16777216:=by decide
 rw[e] at h
 exact h
end RM

end

section
namespace RM
open PySem L2
theorem pA {l:List Pr}{p:Pr}:GO l p=true↔p.1≠p.2/\(p.1,p.2)∉l/\(p.2,p.1)∉l:=by
 unfold GO
 simp only[Bool.and_eq_true,Bool.not_eq_true',decide_eq_false_iff_not,ne_eq]
theorem FH {l:List Pr}{p:Pr}:nV l p=true↔(∀c,(c,p.1)∈l->(c,p.2)∈l)/\∀c,(p.2,c)∈l->(p.1,c)∈l:=by
 unfold nV
 rw[Bool.and_eq_true,List.all_eq_true,List.all_eq_true]
 constructor
 ·rintro⟨h1,h2⟩
  exact⟨fun c hc=>of_decide_eq_true (h1 (c,p.1) (List.mem_filter.mpr ⟨hc,decide_eq_true rfl⟩)),fun c hc=>of_decide_eq_true (h2 (p.2,c) (List.mem_filter.mpr ⟨hc,decide_eq_true rfl⟩))⟩
 ·rintro⟨h1,h2⟩
  constructor
  ·intro q hq
   obtain⟨hm,he⟩:=List.mem_filter.mp hq
   have he:=of_decide_eq_true he
   refine decide_eq_true (h1 q.1 ?_)
   rw[<-he];exact hm
  ·intro q hq
   obtain⟨hm,he⟩:=List.mem_filter.mp hq
   have he:=of_decide_eq_true he
   refine decide_eq_true (h2 q.2 ?_)
   rw[<-he];exact hm
def Jb (n:Nat)(l:List Pr)(a:Int):Nat:=((eZ n).filter fun x=>decide ((x,a)∈l)).length
def JN (n:Nat)(l:List Pr)(a:Int):Nat:=((eZ n).filter fun x=>decide ((a,x)∈l)).length
theorem filter_lt {L:List Int}{p q:Int->Bool}(h:∀x,x∈L->p x=true->q x=true){y:Int}(hy:y∈L)(h1:q y=true)(h2:p y=false):(L.filter p).length < (L.filter q).length:=by
 have e:L.filter p=(L.filter q).filter p:=by
  rw[List.filter_filter]
  refine List.filter_congr fun x hx=>?_
  cases c:p x with
  |false=>rfl
  |true=>rw[h x hx c];rfl
 rw[e]
 exact List.length_filter_lt_length_iff_exists.mpr ⟨y,List.mem_filter.mpr ⟨hy,h1⟩,by rw[h2];simp⟩
theorem Ik {n:Nat}{l:List Pr}(O:OM.Ord n l){a c:Int}(h:(c,a)∈l):Jb n l c < Jb n l a:=by
 refine filter_lt (y:=c) (fun x _ hx=>decide_eq_true (O.tr x c a (of_decide_eq_true hx) h)) (aP.mpr (O.wn _ h).1) (decide_eq_true h) (decide_eq_false (O.irr c))
theorem He {n:Nat}{l:List Pr}(O:OM.Ord n l){a c:Int}(h:(a,c)∈l):JN n l c < JN n l a:=by
 refine filter_lt (y:=c) (fun x _ hx=>decide_eq_true (O.tr a c x h (of_decide_eq_true hx))) (aP.mpr (O.wn _ h).2) (decide_eq_true h) (decide_eq_false (O.irr c))
def IH (l:List Pr)(q p:Pr):Prop:=(q.1=p.1\/(q.1,p.1)∈l)/\(q.2=p.2\/(p.2,q.2)∈l)
theorem fU {n:Nat}{l:List Pr}(O:OM.Ord n l):∀(k:Nat) (p:Pr),Jb n l p.1 + JN n l p.2<=k->p∈iP n l->∃q,q∈iP n l/\nV l q=true/\IH l q p
 |k,p,hk,hp=>by
  by_cases hs:nV l p=true
  ·exact⟨p,hp,hs,.inl rfl,.inl rfl⟩
  ·rw[FH,Classical.not_and_iff_not_or_not] at hs
   obtain⟨hg,ha⟩:=kM.mp hp
   obtain⟨a1,a2,a3⟩:=pA.mp ha
   rcases hs with hs |hs
   ·obtain⟨c,hc⟩:=Classical.not_forall.mp hs
    obtain⟨hc1,hc2⟩:=Classical.not_imp.mp hc
    have hlt:=Ik O hc1
    have hm:((c,p.2):Pr)∈iP n l:=kM.mpr ⟨⟨(O.wn _ hc1).1,hg.2⟩,pA.mpr ⟨fun e=>by
     simp only at e
     exact a3 (e▸hc1),hc2,fun h=>a3 (O.tr _ _ _ h hc1)⟩⟩
    match k,hk with
    | 0,hk=>omega
    |k + 1,hk=>
     obtain⟨q,h1,h2,h3,h4⟩:=fU O k (c,p.2) (by simp only;omega) hm
     refine⟨q,h1,h2,.inr ?_,h4⟩
     rcases h3 with h3 |h3
     ·rw[h3];exact hc1
     ·exact O.tr _ _ _ h3 hc1
   ·obtain⟨c,hc⟩:=Classical.not_forall.mp hs
    obtain⟨hc1,hc2⟩:=Classical.not_imp.mp hc
    have hlt:=He O hc1
    have hm:((p.1,c):Pr)∈iP n l:=kM.mpr ⟨⟨hg.1,(O.wn _ hc1).2⟩,pA.mpr ⟨fun e=>by
     simp only at e
     exact a3 (e▸hc1),hc2,fun h=>a3 (O.tr _ _ _ hc1 h)⟩⟩
    match k,hk with
    | 0,hk=>omega
    |k + 1,hk=>
     obtain⟨q,h1,h2,h3,h4⟩:=fU O k (p.1,c) (by simp only;omega) hm
     refine⟨q,h1,h2,h3,.inr ?_⟩
     rcases h4 with h4 |h4
     ·rw[h4];exact hc1
     ·exact O.tr _ _ _ hc1 h4
theorem yI {n:Nat}{l:List Pr}{q p:Pr}{r:List Int}(hR:Row n l r)(h:IH l q p)(ht:r.idxOf q.2 < r.idxOf q.1):r.idxOf p.2 < r.idxOf p.1:=by
 have fit:∀{a b:Int},(a,b)∈l->r.idxOf a < r.idxOf b:=fun {a b} hm=>of_decide_eq_true (List.all_eq_true.mp hR.2 (a,b) hm)
 obtain⟨h1,h2⟩:=h
 have g1:r.idxOf q.1<=r.idxOf p.1:=h1.elim (fun e=>by rw[e];exact Nat.le_refl _) fun h=>Nat.le_of_lt (fit h)
 have g2:r.idxOf p.2<=r.idxOf q.2:=h2.elim (fun e=>by rw[e];exact Nat.le_refl _) fun h=>Nat.le_of_lt (fit h)
 omega
theorem zv {n:Nat}{l:List Pr}{rs:List (List Int)}(O:OM.Ord n l)(h1:rs≠ [])(h:∀r,r∈rs->Row n l r):(OM.bM n).filter (zR rs)=l↔∀p,p∈iP n l->∃r,r∈rs/\r.idxOf p.2 < r.idxOf p.1:=by
 have sh:∀p,zR rs p=true↔∀r,r∈rs->r.idxOf p.1 < r.idxOf p.2:=fun p=>by
  unfold zR
  rw[List.all_eq_true]
  exact⟨fun h r hr=>of_decide_eq_true (h r hr),fun h r hr=>decide_eq_true (h r hr)⟩
 have fit:∀{a b:Int} {r:List Int},r∈rs->(a,b)∈l->r.idxOf a < r.idxOf b:=fun {a b r} hr hm=>of_decide_eq_true (List.all_eq_true.mp (h r hr).2 (a,b) hm)
 constructor
 ·intro e p hp
  obtain⟨hg,ha⟩:=kM.mp hp
  obtain⟨a1,a2,a3⟩:=pA.mp ha
  have hn:¬zR rs p=true:=fun hs=>a2 (by rw[<-e];exact List.mem_filter.mpr ⟨OM.bt.mpr hg,hs⟩)
  rw[sh] at hn
  obtain⟨r,hr⟩:=Classical.not_forall.mp hn
  obtain⟨hr1,hr2⟩:=Classical.not_imp.mp hr
  refine⟨r,hr1,Nat.lt_of_le_of_ne (Nat.le_of_not_lt hr2) fun z=>a1 ?_⟩
  have pm:=(h r hr1).1
  exact (ya (pm.mem_iff.mpr (aP.mpr hg.2)) (pm.mem_iff.mpr (aP.mpr hg.1)) z).symm
 ·intro ht
  refine OM.gC (OM.g7 _ (OM.jb n)) O.ris fun p=>?_
  rw[List.mem_filter,sh]
  constructor
  ·rintro⟨hg,hs⟩
   by_cases c:p∈l
   ·exact c
   ·obtain⟨r,rs',rfl⟩:∃r rs',rs=r :: rs':=by
     cases rs with
     |nil=>exact absurd rfl h1
     |cons r rs'=>exact⟨r,rs',rfl⟩
    have hr:r∈r :: rs':=List.mem_cons_self ..
    have l1:=hs r hr
    obtain⟨q,hq1,hq2⟩:=ht p (kM.mpr ⟨OM.bt.mp hg,pA.mpr ⟨fun e=>by rw[e] at l1;omega,c,fun z=>by have:=fit hr z;omega⟩⟩)
    have:=hs q hq1
    omega
  ·intro hm
   exact⟨OM.bt.mpr (O.wn p hm),fun r hr=>fit hr hm⟩
theorem BN {n:Nat}{l:List Pr}{rs:List (List Int)}(O:OM.Ord n l)(h1:rs≠ [])(h:∀r,r∈rs->Row n l r):(OM.bM n).filter (zR rs)=l↔∀p,p∈(iP n l).filter (nV l)->∃r,r∈rs/\r.idxOf p.2 < r.idxOf p.1:=by
 rw[zv O h1 h]
 constructor
 ·exact fun k p hp=>k p (List.mem_filter.mp hp).1
 ·intro k p hp
  obtain⟨q,hq1,hq2,hu⟩:=fU O _ p (Nat.le_refl _) hp
  obtain⟨r,hr,ht⟩:=k q (List.mem_filter.mpr ⟨hq1,hq2⟩)
  exact⟨r,hr,yI (h r hr) hu ht⟩
end RM

end

section
namespace RM
open PySem L2
theorem Di {α:Type}{m m':SF}{env:En}{β β1:Int}{Q:SO->Prop}{Lx:List Nat}{t:Tg}{fi:VF (List D)}{L:List α}{e:α->D}(g:α->Bool)(r:D)(I:En->Int->Prop)(hi:fi (vl env) β=.ok (L.map e) β1)(h0:I (bo Lx env) β1)
  (hs:∀a,a∈L->∀env β,I env β->∃env1,dH t (e a) env=some env1/\WP (m env1 β) fun s=>(g a=true/\∃β2,s=.rt r false β2)\/(g a=false/\∃env2 β2,s=.nx env2 β2/\I env2 β2))
  (kr:∀a β,a∈L->g a=true->Q (.rt r false β)) (k:(∀a,a∈L->g a=false)->∀env β,I env β->WP (m' env β) Q):WP (aI (cN t Lx fi m) m' env β) Q:=by
 have key:∀(M:List α),(∀a,a∈M->a∈L)->∀env β,I env β->(∃a β2,a∈M/\g a=true/\jS t m (M.map e) env β=.rt r false β2)\/((∀a,a∈M->g a=false)/\∃env2 β2,jS t m (M.map e) env β=.nx env2 β2/\I env2 β2):=by
  intro M
  induction M with
  |nil=>exact fun _ env β h=>.inr ⟨(fun d hd=>by cases hd),env,β,rfl,h⟩
  |cons a M ih=>
   intro hd env β h
   obtain⟨env1,e1,⟨h1⟩⟩:=hs a (hd a (List.mem_cons_self ..)) env β h
   rcases h1 with⟨hg,β2,e2⟩ | ⟨hg,env2,β2,e2,h2⟩
   ·exact .inl ⟨a,β2,List.mem_cons_self ..,hg,by rw[List.map_cons];unfold jS;rw[e1];dsimp only;rw[e2]⟩
   ·have e3:jS t m ((a :: M).map e) env β=jS t m (M.map e) env2 β2:=by rw[List.map_cons];conv=>lhs;unfold jS;rw[e1];dsimp only;rw[e2]
    rw[e3]
    rcases ih (fun d h=>hd d (List.mem_cons_of_mem _ h)) env2 β2 h2 with⟨d',β3,hm,hg',e4⟩ | ⟨hn,env3,β3,e4,h3⟩
    ·exact .inl ⟨d',β3,List.mem_cons_of_mem _ hm,hg',e4⟩
    ·exact .inr ⟨fun d' hd'=>(List.mem_cons.mp hd').elim (fun e=>e▸hg) (hn d'),env3,β3,e4,h3⟩
 rcases key L (fun _ h=>h) _ _ h0 with⟨d,β2,hm,hg,e⟩ | ⟨hn,env2,β2,e,h2⟩
 ·exact⟨by rw[gE ((cy hi).trans e)];exact kr d β2 hm hg⟩
 ·exact wp_seq ((cy hi).trans e) (k hn _ _ h2)
theorem BE {m:Int}(h1:1<=m)(h2:m < 1073741824)(β:Int):∃j:Int,(0<=j/\j < m)/\cP [.int m] β=.ok (.int j) false (β / m):=⟨β % m,⟨Int.emod_nonneg _ (by omega),Int.emod_lt_of_pos _ (by omega)⟩,nY (by omega) h2⟩
def CZ (l:List Pr)(q p:Pr):Bool:=(decide (q.1=p.1) || decide ((q.1,p.1)∈l)) && (decide (q.2=p.2) || decide ((p.2,q.2)∈l))
theorem FW {l:List Pr}{q p:Pr}:CZ l q p=true↔IH l q p:=by
 unfold CZ IH
 simp only[Bool.and_eq_true,Bool.or_eq_true,decide_eq_true_eq]
def rF:List D->FR:=aZ 7 3 gr
theorem CT {n:Nat}{l S:List Pr}{p:Pr}:rF [aE n l,.list (S.map aC),aC p]=.ok (.bool (S.any fun q=>CZ l q p)) false:=by
 show fin (gr [.fz (aE n l),.fz (.list (S.map aC)),.fz (aC p),.no,.no,.no,.no] 0)=_
 refine w8 ?_
 unfold gr
 refine wp_bind (d:=aC p) (β1:=0) rfl (env1:=[.fz (aE n l),.fz (.list (S.map aC)),.fz (aC p),.fz (.int p.1),.fz (.int p.2),.no,.no]) rfl ?_
 refine Di (L:=S) (e:=aC) (fun q=>CZ l q p) (.bool true) (fun env _=>∃s5 s6,env= [.fz (aE n l),.fz (.list (S.map aC)),.fz (aC p),.fz (.int p.1),.fz (.int p.2),s5,s6]) rfl ⟨_,_,rfl⟩ ?_ ?_ ?_
 ·rintro q hq env β ⟨s5,s6,rfl⟩
  refine⟨[.fz (aE n l),.fz (.list (S.map aC)),.fz (aC p),.fz (.int p.1),.fz (.int p.2),.fz (.int q.1),.fz (.int q.2)],rfl,?_⟩
  have t:yO (kS (cJ (f2 (gv 5) (gv 3) (cq false))) (cJ (f2 (bI (aa (gv 5) (aa (gv 3) ag))) (f2 (gv 0) (cst (.int 1)) bQ) (tK false)))) (kS (cJ (f2 (gv 6) (gv 4) (cq false))) (cJ (f2 (bI (aa (gv 4) (aa (gv 6) ag))) (f2 (gv 0) (cst (.int 1)) bQ) (tK false)))) (vl [.fz (aE n l),.fz (.list (S.map aC)),.fz (aC p),.fz (.int p.1),.fz (.int p.2),.fz (.int q.1),.fz (.int q.2)]) β=.ok (CZ l q p) β:=
   vE (xq (dw (neg:=false) rfl rfl) (eS _ _ _ _ (aG (cw (a:=q.1) (b:=p.1) rfl rfl) (GS (n:=n) (l:=l) rfl) (kO false _ _)))) (xq (dw (neg:=false) rfl rfl) (eS _ _ _ _ (aG (cw (a:=p.2) (b:=q.2) rfl rfl) (GS (n:=n) (l:=l) rfl) (kO false _ _))))
  cases c:CZ l q p with
  |true=>rw[c] at t;exact Iq t (oJ (d:=.bool true) rfl (.inl ⟨rfl,_,rfl⟩))
  |false=>rw[c] at t;exact HU t (pB (.inr ⟨rfl,_,_,rfl,_,_,rfl⟩))
 ·intro q β hq hg
  rw[List.any_eq_true.mpr ⟨q,hq,hg⟩];rfl
 ·rintro hn env β ⟨s5,s6,rfl⟩
  rw[List.any_eq_false.mpr fun q hq=>by rw[hn q hq];simp]
  exact oJ (d:=.bool false) rfl rfl
def ltB (rs:List (List Int))(p:Pr):Bool:=(rs.filter fun r=>decide (r.idxOf p.2 < r.idxOf p.1)).isEmpty
theorem lt_iff {rs:List (List Int)}{p:Pr}:ltB rs p=false↔∃r,r∈rs/\r.idxOf p.2 < r.idxOf p.1:=by
 unfold ltB
 rw[<-Bool.not_eq_true,List.isEmpty_iff,List.filter_eq_nil_iff]
 simp only[decide_eq_true_eq,Classical.not_forall,Classical.not_not,exists_prop]
noncomputable def E1:List D->FR:=aZ 12 1 (yp EV BS lr sS rF Jw IC AQ rN cP kl)
end RM

end

section
namespace RM
open PySem L2
theorem HW (ns:List Int):E1 [bZ ns]=.ok (.bool true) false:=by
 show fin (yp EV BS lr sS rF Jw IC AQ rN cP kl [.fz (bZ ns),.no,.no,.no,.no,.no,.no,.no,.no,.no,.no,.no] 0)=_
 refine w8 ?_
 obtain⟨m,hm,em⟩:=Aw 2 (by omega) ns (vl [.fz (bZ ns),.no,.no,.no,.no,.no,.no,.no,.no,.no,.no,.no]) 0 rfl
 unfold yp
 refine wo (fun _ env _=>∃s1 s2 s3 s4 s5 s6 s7 s8 s9 s10 s11,env= [.fz (bZ ns),s1,s2,s3,s4,s5,s6,s7,s8,s9,s10,s11]) em ⟨_,_,_,_,_,_,_,_,_,_,_,rfl⟩ ?_ fun env β ⟨s1,s2,s3,s4,s5,s6,s7,s8,s9,s10,s11,e⟩=>oJ (d:=.bool true) rfl rfl
 rintro i d env β hi ⟨s1,s2,s3,s4,s5,s6,s7,s8,s9,s10,s11,rfl⟩
 obtain⟨_,rfl⟩:=i4 hi
 rw[Int.zero_add]
 refine⟨[.fz (bZ ns),.fz (.int i),s2,s3,s4,s5,s6,s7,s8,s9,s10,s11],rfl,?_⟩
 obtain⟨z,ez⟩:=HJ ns i
 obtain⟨n0,l0,β1,eo,O0,hn5⟩:=Ak (most:=5) (by omega) (by omega) z
 obtain⟨q,hq,eq⟩:=jZ (m:=3) (by omega) (by omega) β1
 generalize β1 / ((3:Nat):Int)=β2 at eq
 obtain⟨t3,t4,t5,t6,t7,t8,t9,t10,t11,hcl⟩:∃t3 t4 t5 t6 t7 t8 t9 t10 t11:Sl,(p6 (bo ([0] ++ ([1] ++ [])) [.fz (bZ ns),.fz (.int i),s2,s3,s4,s5,s6,s7,s8,s9,s10,s11])).set 2 .bx= [.fz (bZ ns),.fz (.int i),.bx,t3,t4,t5,t6,t7,t8,t9,t10,t11]:=⟨_,_,_,_,_,_,_,_,_,rfl⟩
 refine CB (Aq (ds:=[bZ ns,.int i]) rfl ez) (wp_at _ hcl ?_)
 refine oZ (iG (ds:=[.int 5]) rfl rfl eo) (wp_at [.fz (bZ ns),.fz (.int i),.bx,.fz (aE n0 l0),t4,t5,t6,t7,t8,t9,t10,t11] rfl ?_)
 refine E8 (fun env _=>∃(n:Nat) (l:List Pr) (s4:Sl),env= [.fz (bZ ns),.fz (.int i),.bx,.fz (aE n l),s4,t5,t6,t7,t8,t9,t10,t11]/\OM.Ord n l) ⟨_,_,dw (neg:=false) (i:=(q:Int)) (j:=2) (iG (ds:=[.int 3]) rfl rfl eq) rfl,fun _=>?_,fun _=>pB ⟨_,_,rfl,n0,l0,t4,rfl,O0⟩⟩ ?_
 ·obtain⟨rs,β3,ec,hl,hP⟩:=qt (own:=1) (ixs:=[2]) (t:=.nm 0) (fi:=dX (cst (.int 2))) (fe:=f1 (k9 1 kl (aa (f1 (cst (.int 5)) eO) ag)) jF) (vs:=vl [.fz (bZ ns),.fz (.int i),.bx,.fz (aE n0 l0),t4,t5,t6,t7,t8,t9,t10,t11]) (β:=β2) tupI (fun r=>r.Perm (eZ 5)) (eQ (n:=2) rfl (by omega)) (by rw[c8];omega) fun d hd=>⟨[.da d,.bx],rfl,fun b=>by
   obtain⟨ms,b',em,pm⟩:=yj (eZ 5) (by rw[cS];omega) b
   exact⟨ms,b',di (g:=jF) (x:=.list (ms.map PyData.int)) (iG (ds:=[.list ((eZ 5).map PyData.int)]) (b:=true) rfl (ac (di (x:=.int (5:Nat)) rfl (ni (by omega))) an) em) rfl,pm⟩⟩
  rw[c8] at hl
  have hne:rs≠ []:=fun e=>by rw[e] at hl;cases hl
  have O:=z6 (n:=5) (by omega) (by omega) hne hP
  have et:=Fl (n:=5) (rows:=rs) (by omega) (by omega) hP
  generalize (OM.bM 5).filter (lJ rs)=l at O et
  exact oZ ec (rK (oZ (tp (ds:=[.int (5:Nat),.tuple (l.map aC)]) (ac rfl (ac (aA (ds:=[.int (5:Nat),.list (rs.map tupI)]) rfl et) an))) (pB ⟨_,_,rfl,5,l,_,rfl,O⟩)))
 rintro env β ⟨n,l,s4,rfl,O⟩
 have h1:=O.lo
 have h8:=O.hi
 refine wp_bind (tp (ds:=[.list ((iP n l).map aC),.list (((iP n l).filter (nV l)).map aC)]) (ac (aA (ds:=[aE n l]) rfl (x9 O)) (ac (aA (ds:=[aE n l]) rfl (AB O)) an))) (env1:=[.fz (bZ ns),.fz (.int i),.bx,.fz (aE n l),s4,.fz (.list ((iP n l).map aC)),.fz (.list (((iP n l).filter (nV l)).map aC)),t7,t8,t9,t10,t11]) rfl ?_
 have hz:(iP n l).length<=64:=xF h8
 have hzs:((iP n l).filter (nV l)).length<=64:=Nat.le_trans (List.length_filter_le ..) hz
 have en:decide (iP n l= [])=decide ((iP n l).filter (nV l)= []):=by
  rw[Bool.eq_iff_iff,decide_eq_true_eq,decide_eq_true_eq]
  constructor
  ·intro e;rw[e];rfl
  ·intro e
   cases c:iP n l with
   |nil=>rfl
   |cons p ps=>
    obtain⟨q,hq1,hq2,_⟩:=fU O _ p (Nat.le_refl _) (by rw[c];exact List.mem_cons_self ..)
    have:q∈(iP n l).filter (nV l):=List.mem_filter.mpr ⟨hq1,hq2⟩
    rw[e] at this;cases this
 have hall:(iP n l).all (fun p=>((iP n l).filter (nV l)).any fun q=>CZ l q p)=true:=by
  rw[List.all_eq_true]
  intro p hp
  obtain⟨q,hq1,hq2,hu⟩:=fU O _ p (Nat.le_refl _) hp
  exact List.any_eq_true.mpr ⟨q,List.mem_filter.mpr ⟨hq1,hq2⟩,FW.mpr hu⟩
 have sdo:=fun rs h1 h=>BN (rs:=rs) O h1 h
 have hsm:∀p,p∈(iP n l).filter (nV l)->(0<=p.1/\p.1 < n)/\(0<=p.2/\p.2 < n):=fun p hp=>(kM.mp (List.mem_filter.mp hp).1).1
 generalize (iP n l).filter (nV l)=S at en hall sdo hsm hzs
 refine xu (uZ (c:=false) (eS _ _ _ _ (aG (x:=.bool (decide (iP n l= []))) (y:=.bool (decide (S= []))) (aG (x:=.list ((iP n l).map aC)) (y:=.list (([]:List Pr).map aC)) rfl (lp (ds:=[]) an) (o6 false _ _)) (aG (x:=.list (S.map aC)) (y:=.list (([]:List Pr).map aC)) rfl (lp (ds:=[]) an) (o6 false _ _)) (by rw[en];cases decide (S= []) <;> rfl))) (g9 (j7 (c:=true) ?_))) ?_
 ·have e:=xV (l:=iP n l) (f:=fun p=>S.any fun q=>CZ l q p) (fa:=aM 1 [3,6] (.nm 0) (bh (gv 5)) kB (ao rF (aa (gv 1) (aa (gv 2) (aa (gv 0) ag))))) (vs:=vl [.fz (bZ ns),.fz (.int i),.bx,.fz (aE n l),s4,.fz (.list ((iP n l).map aC)),.fz (.list (S.map aC)),t7,t8,t9,t10,t11]) (β:=β) (cU (l:=iP n l) (e:=aC) (fun p=>PyData.bool (S.any fun q=>CZ l q p)) rfl (by omega) fun p hp=>⟨[.da (aC p),.da (aE n l),.da (.list (S.map aC))],rfl,aA (ds:=[aE n l,.list (S.map aC),aC p]) rfl CT⟩)
  rw[hall] at e
  exact e
 have hc1:=CW O
 have hc2:=Gg O
 refine oZ (aA (ds:=[aE n l]) rfl (J1 O)) ?_
 refine rK (wo (fun _ env _=>∃s4 s8 s9 s10 s11,env= [.fz (bZ ns),.fz (.int i),.bx,.fz (aE n l),s4,.fz (.list ((iP n l).map aC)),.fz (.list (S.map aC)),.fz (.int (jT n l)),s8,s9,s10,s11]) (eQ (n:=4) rfl (by omega)) ⟨_,_,_,_,_,rfl⟩ ?_ fun env β ⟨s4,s8,s9,s10,s11,e⟩=>pB ⟨_,_,rfl,_,_,_,_,_,_,_,_,_,_,_,e⟩)
 rintro k d env β hk ⟨s4,s8,s9,s10,s11,rfl⟩
 refine⟨[.fz (bZ ns),.fz (.int i),.bx,.fz (aE n l),s4,.fz (.list ((iP n l).map aC)),.fz (.list (S.map aC)),.fz (.int (jT n l)),.fz d,s9,s10,s11],rfl,?_⟩
 obtain⟨j,hj,ej⟩:=jZ (m:=3) (by omega) (by omega) β
 generalize β / ((3:Nat):Int)=β3 at ej
 have ei:dX (f2 (cst (.int 1)) (k9 2 cP (aa (cst (.int 3)) ag)) cQ) (vl [.fz (bZ ns),.fz (.int i),.bx,.fz (aE n l),s4,.fz (.list ((iP n l).map aC)),.fz (.list (S.map aC)),.fz (.int (jT n l)),.fz d,s9,s10,s11]) β=.ok (cu 0 (1 + j)) β3:=
  eQ (aG (x:=.int 1) (y:=.int j) rfl (iG (ds:=[.int 3]) rfl rfl ej) (by show some (PyData.int (1 + (j:Int)))=_;rw[show ((1 + j:Nat):Int)=1 + (j:Int) by omega])) (by omega)
 obtain⟨rs,β4,ec,hl,hR⟩:=qt (own:=1) (ixs:=[3,2,7]) (t:=.nm 0) (fe:=ao IC (aa (gv 1) (aa (k9 2 cP (aa (gv 3) ag)) ag))) tupI (fun r=>Row n l r) ei (by rw[c8];omega) fun d hd=>⟨[.da d,.da (aE n l),.bx,.da (.int (jT n l))],rfl,fun b=>by
  obtain⟨a,ha,ea⟩:=BE hc1 (by omega) b
  obtain⟨r,er,hr⟩:=Jf O ha.1 ha.2
  exact⟨r,_,aA (ds:=[aE n l,.int a]) (by rw[cj,show gv 1 _ b=.ok (aE n l) b from rfl];dsimp only[R.bnd];rw[cj,iG (ds:=[.int (jT n l)]) (β1:=b) rfl rfl ea];rfl) er,hr⟩⟩
 rw[c8] at hl
 have hne:rs≠ []:=fun e=>by rw[e] at hl;simp at hl;omega
 refine oZ ec (DM (lp (ds:=[]) an) ?_)
 refine wp_at [.fz (bZ ns),.fz (.int i),.bx,.fz (aE n l),.fz (.list (rs.map tupI)),.fz (.list ((iP n l).map aC)),.fz (.list (S.map aC)),.fz (.int (jT n l)),.fz d,.ow (.list []),s10,s11] rfl ?_
 refine wo (fun k env _=>∃s10 s11,env= [.fz (bZ ns),.fz (.int i),.bx,.fz (aE n l),.fz (.list (rs.map tupI)),.fz (.list ((iP n l).map aC)),.fz (.list (S.map aC)),.fz (.int (jT n l)),.fz d,.ow (.list (((S.take k).filter (ltB rs)).map aC)),s10,s11]) (ds:=S.map aC) rfl ⟨_,_,rfl⟩ ?_ ?_
 ·rintro k dp env β hk ⟨s10,s11,rfl⟩
  rw[List.getElem?_map] at hk
  cases hp:S[k]? with
  |none=>rw[hp] at hk;cases hk
  |some p=>
   rw[hp] at hk
   cases hk
   have hb:=hsm p (List.mem_of_getElem? hp)
   have es:((S.take (k + 1)).filter (ltB rs))=(S.take k).filter (ltB rs) ++ if ltB rs p=true then [p] else []:=by
    rw[List.take_add_one,hp,List.filter_append]
    congr 1
    show List.filter _ [p]=_
    rw[List.filter_cons]
    split <;> rfl
   have hA:((S.take k).filter (ltB rs)).length<=64:=Nat.le_trans (List.length_filter_le ..) (by rw[List.length_take];omega)
   rw[es]
   generalize (S.take k).filter (ltB rs)=A at hA
   refine⟨[.fz (bZ ns),.fz (.int i),.bx,.fz (aE n l),.fz (.list (rs.map tupI)),.fz (.list ((iP n l).map aC)),.fz (.list (S.map aC)),.fz (.int (jT n l)),.fz d,.ow (.list (A.map aC)),.fz (.int p.1),.fz (.int p.2)],rfl,?_⟩
   have t:=eS _ _ _ _ (aG (fb:=bK ag) (β2:=β) (cT (own:=1) (ixs:=[11,10]) (t:=.nm 0) (fi:=bh (gv 4)) (ft:=cJ (f2 (j9 (gv 0) (gv 1)) (j9 (gv 0) (gv 2)) xB)) (fe:=gv 0) (vs:=vl [.fz (bZ ns),.fz (.int i),.bx,.fz (aE n l),.fz (.list (rs.map tupI)),.fz (.list ((iP n l).map aC)),.fz (.list (S.map aC)),.fz (.int (jT n l)),.fz d,.ow (.list (A.map aC)),.fz (.int p.1),.fz (.int p.2)]) (β:=β) (l:=rs) (e:=tupI) (fun r=>decide (r.idxOf p.2 < r.idxOf p.1)) tupI rfl (by omega) fun r hr=>⟨[.da (tupI r),.da (.int p.2),.da (.int p.1)],rfl,by
    have pm:=(hR r hr).1
    refine eS _ _ _ _ (aG (nR (r:=r) (k:=p.2) rfl rfl (pm.mem_iff.mpr (aP.mpr hb.2))) (nR (r:=r) (k:=p.1) rfl rfl (pm.mem_iff.mpr (aP.mpr hb.1))) ?_)
    show some (PyData.bool (decide (((r.idxOf p.2:Nat):Int) < ((r.idxOf p.1:Nat):Int))))=_
    congr 2
    rw[Bool.eq_iff_iff,decide_eq_true_eq,decide_eq_true_eq]
    omega,fun _=>rfl⟩) (lp (ds:=([]:List (List Int)).map tupI) an) (B8 false _ _))
   have et:(if false=true then !decide ((rs.filter fun r=>decide (r.idxOf p.2 < r.idxOf p.1))= []) else decide ((rs.filter fun r=>decide (r.idxOf p.2 < r.idxOf p.1))= []))=ltB rs p:=by
    unfold ltB
    rw[if_neg (by simp),Bool.eq_iff_iff,decide_eq_true_eq,List.isEmpty_iff]
   rw[et] at t
   cases c:ltB rs p with
   |true=>
    rw[c] at t
    refine Iq t (rK (EY (ds:=A.map aC) (d:=aC p) (β1:=β) rfl (cw (a:=p.1) (b:=p.2) rfl rfl) rfl (by rw[List.length_map];omega) (pB ⟨_,_,rfl,.fz (.int p.1),.fz (.int p.2),?_⟩)))
    rw[if_pos rfl,List.map_append];rfl
   |false=>
    rw[c] at t
    refine HU t (pB ⟨_,_,rfl,.fz (.int p.1),.fz (.int p.2),?_⟩)
    rw[if_neg (by simp),List.append_nil A];rfl
 rintro env β ⟨s10,s11,rfl⟩
 rw[List.length_map,List.take_length]
 have hb:ug n l (.list (rs.map tupI))=decide (S.filter (ltB rs)= []):=by
  rw[rn hne hR,Bool.eq_iff_iff,decide_eq_true_eq,decide_eq_true_eq,sdo rs hne hR,List.filter_eq_nil_iff]
  constructor
  ·exact fun h p hp=>by rw[lt_iff.mpr (h p hp)];simp
  ·exact fun h p hp=>lt_iff.mp (by simpa using h p hp)
 have hgt:Gt (.list (rs.map tupI)):=⟨rfl,fun es e=>by
  cases e
  refine⟨by rw[List.length_map];omega,fun x hx=>?_⟩
  obtain⟨q,hq,rfl⟩:=List.mem_map.mp hx
  obtain⟨hl,hrb⟩:=GZ h8 (hR q hq).1
  exact (FG (by omega) hrb).1⟩
 have ett:=FN O hgt
 rw[hb] at ett
 generalize S.filter (ltB rs)=W at ett
 exact rK (xu (eS _ _ _ _ (aG (x:=.bool (decide (W= []))) (y:=.bool (decide (W= []))) (aA (ds:=[.list (rs.map tupI),aE n l]) rfl ett) (aG (x:=.list (W.map aC)) (y:=.list (([]:List Pr).map aC)) rfl (lp (ds:=[]) an) (o6 false _ _)) (by cases decide (W= []) <;> rfl))) (pB ⟨_,_,rfl,_,_,_,_,_,rfl⟩))
end RM

end

section
namespace RO
open PySem L2
abbrev jn:Stmt:=RQ.eG
abbrev lU:Stmt:=RQ.top 14
abbrev Fn (K:PySem.W.Frag)(mg:Str->Option Value)(x:Str)(st:Stmt)(ps:List Str)(f:Addr)(fd:FuncData):Prop:=jd K mg x st ps f fd
abbrev Bt (mg:Str->Option Value):Prop:=jg mg
end RO

end

section
namespace L2
open PySem PySem.Spec PyProof.Rows
section
variable {K:PySem.W.Frag}{H H':Hp}{a:Addr}
theorem aS.snoc {x y:Int}(q:fy K H a [.int x,.int y]):∀{vs:List V} {ps:List (Int×Int)},aS K H vs ps->aS K H (vs ++ [.ref a]) (ps ++ [(x,y)])
 |_,_,.nil=>.cons ⟨a,rfl,q⟩ .nil
 |_,_,.cons r t=>.cons r (aS.snoc q t)
theorem aS.len {vs:List V}{ps:List (Int×Int)}(h:aS K H vs ps):vs.length=ps.length:=Paired.length h
theorem aS.same {vs:List V}{ps:List (Int×Int)}(h:aS K H vs ps)(s:ar H H'):aS K H' vs ps:=h.grow s.grow
theorem aS.at {vs:List V}{ps:List (Int×Int)}{i:Nat}{v:V}(h:aS K H vs ps)(e:vs[i]? =some v):∃p:Int×Int,ps[i]? =some p/\∃b,v=.ref b/\fy K H b [.int p.1,.int p.2]:=Paired.getP h e
theorem ar.put {o:HO}(s:ar H H')(h:H a=none):ar H (L2.upd H' a o):=fun b u e=>by rw[ay (aK e h)];exact s b u e
end
end L2
namespace RO
open PySem L2
def AF (N:List Str)(sc:Scope)(NB:List Str)(own:Nat)(ixs:List Nat)(scope:Scope):Bool:=
 decide (scope.kind=.function) && (scope.names.all fun y=>decide (y.2≠.cell)) && (scope.names.all fun y=>decide (scope.names.lookup y.1=some y.2)) &&
 (scope.names.all fun y=>decide (y.2=.free->(sc.names.lookup y.1=some .cell\/sc.names.lookup y.1=some .free))) && decide NB.Nodup && decide (NB.length=own + ixs.length) &&
 ((List.range ixs.length).all fun k=>decide (NB[own + k]? =N[ixs.getD k 0]?) && (match NB[own + k]? with |some x=>decide ((x,NameKind.free)∈scope.names) |none=>true))
theorem mz {X:Cx}{NB:List Str}{own:Nat}{ixs:List Nat}{scope:Scope}(h:AF X.N X.env.scope NB own ixs scope=true):c7 X NB own ixs scope:=by
 unfold AF at h
 simp only[Bool.and_eq_true,List.all_eq_true,decide_eq_true_eq,List.mem_range] at h
 obtain⟨⟨⟨⟨⟨⟨h1,h2⟩,h3⟩,h4⟩,h5⟩,h6⟩,h7⟩:=h
 refine⟨h1,h2,h3,h4,h5,h6,fun k hk=>⟨(h7 k hk).1,fun x hx=>?_⟩⟩
 have:=(h7 k hk).2
 rw[hx] at this
 simpa using this
section
variable {X:Cx}{tg l:Expr}{tl:TE}{K:PySem.W.Frag}{H H1:Hp}{a:Addr}{xs:List V}{σ:St}
def Jd (K:PySem.W.Frag)(tl:TE):TI:=fun σ H R=>tl σ H fun x H1=>∃a xs,x=.ref a/\((gk K H1 a xs/\R (zO K a) H1)\/(fy K H1 a xs/\R (EF K a) H1))
end
theorem Ke (K:PySem.W.Frag){X:Cx}(h:X.K=K:=by rfl):AD X (Ff K):=by subst h;exact gH
theorem Gi (K:PySem.W.Frag)(i j:Nat){X:Cx}{x y:Str}{px py pos:Pos}{k:Nat}(hN:X.N.Nodup)(hi:X.N[i]? =some x)(hj:X.N[j]? =some y)(hx:X.env.scope.names.lookup x=some .local)(hy:X.env.scope.names.lookup y=some .local)(hc:X.calm=true)(hK:X.K=K) :
  PG X (.Tuple [.Name x px,.Name y py] k pos) (C7 K 2 (oF (kT i) (oF (kT j) CD))):=by
 subst hK
 exact oW hc (dq (cM hN hi (Or.inl hx) (Or.inr hx)) (dq (cM hN hj (Or.inl hy) (Or.inr hy)) l7))
section
open PySem.Spec PyProof.Rows
variable {X:Cx}{tg l:Expr}{tl:TE}
theorem Gv (hl:PE X l tl):PI X tg l (Jd X.K tl):=by
 intro pins s σ H R I h
 refine cK (hl pins s σ H _ I h) fun v s1 ⟨x,H1,I1,r1,q1⟩=>?_
 obtain⟨a,xs,e,q⟩:=q1
 subst e
 cases r1
 rcases q with⟨hq,q⟩ | ⟨hq,q⟩
 ·obtain⟨its,rv,p,hz⟩:=I1.list hq
  refine wpAny_pyIter_list p.isList ?_
  refine⟨s1.heap.objs.size,[s1.heap.objs.size],_,_,H1,rfl,I1.kept (t':=s1.toks) fun b o e=>Heap.get?_push_of_some _ e,mW a _,⟨_,Heap.get?_push_size _ rfl,rfl,rfl⟩,fun b hb=>?_,q⟩
  have e:b=s1.heap.objs.size:=by simpa using hb
  subst e
  exact I1.fpOk (Nat.le_refl _) (I1.hok.fresh (Nat.le_refl _))
 ·obtain⟨its,rv,p,hz⟩:=I1.tuple hq
  refine wpAny_pyIter_tuple (show s1.heap.IsTuple a its.toArray from p) ?_
  refine⟨s1.heap.objs.size,[s1.heap.objs.size],_,_,H1,rfl,I1.kept (t':=s1.toks) fun b o e=>Heap.get?_push_of_some _ e,pO a _,⟨_,Heap.get?_push_size _ rfl,rfl,rfl⟩,fun b hb=>?_,q⟩
  have e:b=s1.heap.objs.size:=by simpa using hb
  subst e
  exact I1.fpOk (Nat.le_refl _) (I1.hok.fresh (Nat.le_refl _))
end
section
variable {K:PySem.W.Frag}{H H1 H':Hp}{a:Addr}{xs:List V}{σ:St}
abbrev Hi (J:It)(g:TG)(tb:TS)(D:Ends)(σ:St)(H:Hp):Prop:=∃W:Nat->Nat->St->Hp->Prop,(∃m,W 0 m σ H)/\∀i m σ H,W i m σ H->
   (J.stop i H/\D.nx σ H)\/(J.go i H/\∃N:St->Hp->Prop,(∀σ' H',N σ' H'->∃m',m' < m/\W (i + 1) m' σ' H')/\∀x H',J.yld i H x H'->g x σ H' fun σ2 H2=>tb {D with nx:=N,ct:=N,bk:=D.nx} σ2 H2)
theorem C4 (s:ar H1 H')(hq:gk K H1 a xs\/fy K H1 a xs):gk K H' a xs\/fy K H' a xs:=hq.elim (fun q=>.inl (s.seq q)) fun q=>.inr (q.grow s.grow)
theorem DJ {g:TG}{tb:TS}{D:Ends}(hq:gk K H1 a xs\/fy K H1 a xs)(Pv:Nat->St->Hp->Prop)(h0:Pv 0 σ H)(hl:∀i σ H',Pv i σ H'->ar H1 H')
  (hs:∀i x σ H,xs[i]? =some x->Pv i σ H->g x σ H fun σ2 H2=>tb {D with nx:=Pv (i + 1),ct:=Pv (i + 1),bk:=D.nx} σ2 H2) (hd:∀σ H,Pv xs.length σ H->D.nx σ H) :
  (gk K H a xs/\Hi (zO K a) g tb D σ H)\/(fy K H a xs/\Hi (EF K a) g tb D σ H):=
 hq.elim (fun q=>.inl ⟨(hl _ _ _ h0).seq q,u4 Pv h0 (fun i σ H' _ p=>(hl i σ H' p).seq q) hs hd⟩) fun q=>.inr ⟨q.grow (hl _ _ _ h0).grow,Dc Pv h0 (fun i σ H' _ p=>q.grow (hl i σ H' p).grow) hs hd⟩
def xI (J:It)(own:Nat)(ixs:List Nat)(g:TG)(tt:TT)(te:TE)(Q:VK)(D:Addr)(σ:St)(H:Hp):Prop:=∃W:Nat->Nat->St->Hp->Prop,(∃m,W 0 m (bJ own ixs σ) (upd H D (.lst [])))/\∀i m σ' H',W i m σ' H'->
   (J.stop i H'/\(∃acc,H' D=some (.lst acc))/\Q (.ref D) H')\/
   (J.go i H'/\∃N:St->Hp->Prop,(∀σ2 H2,N σ2 H2->∃m',m' < m/\W (i + 1) m' σ2 H2)/\∀x H2,J.yld i H' x H2->eT g tt te D x σ' H2 N)
structure um (own:Nat)(ixs:List Nat)(wi:TI)(g:TG)(tt:TT)(te:TE)(σ:St)(H:Hp)(Q:VK):Prop where
 out:wi σ H fun J H1=>∀D,H1 D=none->xI J own ixs g tt te Q D σ H1
theorem xh {own:Nat}{ixs:List Nat}{wi:TI}{g:TG}{tt:TT}{te:TE}{Q:VK}(h:wi σ H fun J H1=>∀D,H1 D=none->xI J own ixs g tt te Q D σ H1):um own ixs wi g tt te σ H Q:=⟨h⟩
theorem rX {X:Cx}{NB:List Str}{own:Nat}{ixs:List Nat}{scope:Scope}{tg iter elt:Expr}{ifs:List Expr}{wi:TI}{g:TG}{tt:TT}{te:TE}{pos:Pos}(hc:X.calm=true)(S:c7 X NB own ixs scope)(hi:PI X tg iter wi)
  (hg:∀C ex s3 H3 pn,PG (iJ X NB scope C ex s3 H3 pn) tg g) (ht:∀C ex s3 H3 pn,Ce (iJ X NB scope C ex s3 H3 pn) ifs tt) (he:∀C ex s3 H3 pn,PE (iJ X NB scope C ex s3 H3 pn) elt te)
  (hs:∀x,foldedSetIterable iter X.env x=pure x:=by intro _;rfl):PE X (.ListComp elt [⟨tg,iter,ifs,0⟩] scope pos) (um own ixs wi g tt te):=
 fun pins s σ H Q I h=>vc hc S hi hg ht he hs pins s σ H Q I h.out
section
variable {own:Nat}{ixs:List Nat}{g:TG}{tt:TT}{te:TE}{Q:VK}{D:Addr}
theorem C6 (Pv:Nat->St->Hp->Prop)(h0:Pv 0 (bJ own ixs σ) (upd H D (.lst [])))(hl:∀i σ H,i<=xs.length->Pv i σ H->gk K H a xs)
  (hs:∀i x σ H,xs[i]? =some x->Pv i σ H->eT g tt te D x σ H (Pv (i + 1))) (hd:∀σ H,Pv xs.length σ H->(∃acc,H D=some (.lst acc))/\Q (.ref D) H):xI (zO K a) own ixs g tt te Q D σ H:=zH Pv h0 hl hs hd
theorem uO {lo:Int}{n:Nat}(Pv:Nat->St->Hp->Prop)(h0:Pv 0 (bJ own ixs σ) (upd H D (.lst [])))
  (hs:∀i σ H,i < n->Pv i σ H->eT g tt te D (.int (lo + i)) σ H (Pv (i + 1))) (hd:∀σ H,Pv n σ H->(∃acc,H D=some (.lst acc))/\Q (.ref D) H):xI (zk lo n) own ixs g tt te Q D σ H:=vH Pv h0 hs hd
end
theorem uU {i:Nat}{te:TE}{D:Addr}{x:V}{N:St->Hp->Prop}(h:te (σ.set i (some x)) H fun v H5=>∃acc,H5 D=some (.lst acc)/\acc.length < sizeLine/\N (σ.set i (some x)) (upd H5 D (.lst (acc ++ [v])))):eT (kT i) GG te D x σ H N:=by
 unfold eT kT GG
 exact uT h
theorem zZ {i j:Nat}{x y:V}{Q:St->Hp->Prop}(h:fy K H a [x,y])(q:Q ((σ.set i (some x)).set j (some y)) H):C7 K 2 (oF (kT i) (oF (kT j) CD)) (.ref a) σ H Q:=⟨a,_,rfl,h,rfl,x,_,rfl,y,_,rfl,rfl,q⟩
theorem Jt {c A B:Prop}[Decidable c](h:c)(a:A):if c then A else B:=by rw[if_pos h];exact a
theorem JL {c A B:Prop}[Decidable c](h:¬c)(b:B):if c then A else B:=by rw[if_neg h];exact b
theorem take_snoc {α:Type}{l:List α}{i:Nat}{x:α}(h:l[i]? =some x):l.take (i + 1)=l.take i ++ [x]:=by
 rw[List.take_add_one,h];rfl
theorem take_all {α:Type}(l:List α):l.take l.length=l:=List.take_of_length_le (Nat.le_refl _)
end
theorem eN (n:Nat):(OM.bM n).length=n * n:=by unfold OM.bM;simp
theorem CU {n i:Nat}(h:i < n * n):(OM.bM n)[i]? =some (((i / n:Nat):Int),((i % n:Nat):Int)):=by
 unfold OM.bM
 rw[List.getElem?_map,List.getElem?_range h];rfl
theorem Kg {n:Nat}(h:n<=8):n * n<=64:=Nat.mul_le_mul h h
section
variable {P:Program}{w:World}{K:PySem.W.Frag}{mg:Str->Option Value}{base:Heap}
def ye (K:PySem.W.Frag):Sp:=fun vs H Q _=>∃n:Nat,vs= [.int n]/\1<=n/\n<=8/\∀H' l ws,ar H H'->H l=none->H' l=some (.lst ws)->aS K H' ws (OM.bM n)->Q (.ref l) H'
theorem CI:aH ["many"] ["many"] (aq jn):=⟨rfl,rfl,rfl,by decide +kernel,rfl,by decide +kernel,by decide +kernel⟩
theorem Hs:(["number","many"]:List Str).Nodup:=by decide +kernel
theorem AH {f:Addr}{fd:FuncData}(F:Fn K mg "every_pair" jn ["many"] f fd)(B:Bt mg):fR P w K mg base Gu 1 f fd ["many"] (ye K):=by
 refine F.F.ok CI (fun vs H Q E h=>?_) (fun cdv A outer s H vs Q E hr h=>?_)
 ·obtain⟨n,rfl,_⟩:=h;rfl
 ·obtain⟨n,rfl,h1,h8,k⟩:=h
  refine⟨_,ij (mP (rX (NB:=["number","many"]) (own:=1) (ixs:=[0]) rfl (mz (by kernel_rfl)) (kE rfl B.range (aN (qz kq (pv 0) (pv 0)) bA))
   (fun C ex s3 H3 pn=>cM (i:=0) Hs rfl (Or.inl rfl) (hf:=Or.inr rfl)) (fun C ex s3 H3 pn=>se)
   (fun C ex s3 H3 pn=>v8 (aN (qz mf (pv 0) (pv 1)) (aN (qz lu (pv 0) (pv 1)) bA))))),?_⟩
  have hn:=Kg h8
  have e0:((n:Int) * (n:Int))=((n * n:Nat):Int):=by rw[Int.natCast_mul]
  refine xh ⟨_,rfl,_,rfl,_,_,rfl,rfl,.inl ⟨by omega,by omega⟩,_,rfl,by rw[e0];omega,by rw[e0];omega,fun D hD=>?_⟩
  rw[e0,Int.toNat_natCast]
  refine uO (fun i σ' H'=>(∃v,σ'= [v,some (.int n)])/\ar H H'/\∃vs,H' D=some (.lst vs)/\aS K H' vs ((OM.bM n).take i)) ⟨⟨none,rfl⟩,(ar.refl H).put hD,[],az,.nil⟩ ?_ ?_
  ·rintro i σ' H' hi ⟨⟨v,rfl⟩,s1,vs,hv,hp⟩
   have hn0:(0:Int) < (n:Int):=by omega
   refine uU ⟨_,rfl,_,rfl,_,_,rfl,rfl,⟨hn0,by omega⟩,_,rfl,_,rfl,_,_,rfl,rfl,hn0,by show 2<=sizeLine;rw[sizeLine_eq];omega,fun p hp0=>?_⟩
   have hpD:D≠p:=aK hv hp0
   have hl:=hp.len
   refine⟨vs,by rw[ay hpD];exact hv,?_,⟨_,rfl⟩,?_,vs ++ [.ref p],az,?_⟩
   ·rw[hl,List.length_take,sizeLine_eq];rw[eN];omega
   ·exact (s1.put (s1.free hp0)).put hD
   ·rw[take_snoc (CU hi)]
    have g1:gy H' (upd H' p (.tup [.int ((0 + (i:Int)) / n),.int ((0 + (i:Int)) % n)])):=gy.new hp0
    have g2:∀o,gy (upd H' p (.tup [.int ((0 + (i:Int)) / n),.int ((0 + (i:Int)) % n)])) (upd (upd H' p (.tup [.int ((0 + (i:Int)) / n),.int ((0 + (i:Int)) % n)])) D o):=fun o=>gy.list (by rw[ay hpD];exact hv)
    refine aS.snoc ?_ (hp.grow (g1.trans (g2 _)))
    refine (fy.grow ?_ (g2 _))
    refine .inl (.inl ?_)
    rw[az,Int.zero_add];rfl
  ·rintro σ' H' ⟨_,s1,vs,hv,hp⟩
   refine⟨⟨_,hv⟩,k H' D vs s1 hD hv ?_⟩
   rw[<-eN n,take_all] at hp
   exact hp
end
end RO

end

section
namespace RO
open PySem L2
structure TabAt (n:Nat)(M:OM.Tb)(L:Addr)(r:Nat->Addr)(H:Hp):Prop where
 top:H L=some (.lst ((List.range n).map fun i=>V.ref (r i)))
 row:∀i,i < n->H (r i)=some (.lst ((List.range n).map fun j=>V.bl (M i j)))
 inj:∀i j,i < n->j < n->r i=r j->i=j
 ne:∀i,i < n->r i≠L
theorem yd {n x:Nat}(h:x < n):tJ n (x:Int)=some x:=by
 unfold tJ;rw[if_pos (by omega),if_pos (by omega)];simp
theorem BI {α:Type}{xs:List α}{x:Nat}(h:x < xs.length):jN xs (x:Int)=xs[x]?:=by
 unfold jN;rw[yd h];rfl
theorem fZ {f:Nat->V}{n x:Nat}(h:x < n):jN ((List.range n).map f) (x:Int)=some (f x):=by
 rw[BI (by simpa using h),List.getElem?_map,List.getElem?_range h];rfl
theorem qw {f:Nat->V}{n x:Nat}(h:x < n):tJ ((List.range n).map f).length (x:Int)=some x:=by
 rw[List.length_map,List.length_range];exact yd h
theorem zA {f:Nat->V}{n y:Nat}{v:V}:((List.range n).map f).set y v=(List.range n).map fun j=>if j=y then v else f j:=by
 apply List.ext_getElem?
 intro i
 by_cases hi:i < n
 ·by_cases e:y=i
  ·subst e;simp[List.getElem?_set,hi]
  ·have e':¬i=y:=fun z=>e z.symm
   simp[List.getElem?_set,hi,e,e']
 ·rw[List.getElem?_eq_none (by simp;omega),List.getElem?_eq_none (by simp;omega)]
section
variable {n:Nat}{M:OM.Tb}{L:Addr}{r:Nat->Addr}{H H':Hp}
theorem TabAt.set (T:TabAt n M L r H){x y:Nat}(hx:x < n):TabAt n (M.set x y) L r (upd H (r x) (.lst (((List.range n).map fun j=>V.bl (M x j)).set y (.bl true)))):=by
 refine⟨by rw[ay (T.ne x hx).symm];exact T.top,fun i hi=>?_,T.inj,T.ne⟩
 by_cases e:i=x
 ·subst e
  rw[az,zA]
  refine congrArg _ (congrArg _ (List.map_congr_left fun j _=>?_))
  unfold OM.Tb.set
  by_cases c:j=y
  ·simp[c]
  ·simp[c]
 ·rw[ay (fun z=>e (T.inj i x hi hx z)),T.row i hi]
  refine congrArg _ (congrArg _ (List.map_congr_left fun j _=>?_))
  unfold OM.Tb.set;simp[e]
theorem TabAt.same (T:TabAt n M L r H)(s:ar H H'):TabAt n M L r H':=⟨s _ _ T.top,fun i hi=>s _ _ (T.row i hi),T.inj,T.ne⟩
end
theorem sk {n:Nat}{ps:List (Int×Int)}(w:OM.Wn n ps){p:Int×Int}(h:p∈ps):∃u v:Nat,p=((u:Int),(v:Int))/\u < n/\v < n:=by
 obtain⟨x,y⟩:=p
 have q:=w _ h
 simp only at q
 exact⟨x.toNat,y.toNat,by rw[Int.toNat_of_nonneg q.1.1,Int.toNat_of_nonneg q.2.1],by omega,by omega⟩
theorem ic {M0 M:OM.Tb}{m:Nat}{D D':Nat->Nat->Prop}(P:OM.Phase M0 M m D)(h:∀a b,D a b↔D' a b):OM.Phase M0 M m D':=fun a b=>by rw[P a b,h a b]
theorem kx {l:List (Int×Int)}{u v a b:Nat}:(((a:Int),(b:Int))∈l\/(a=u/\b=v))↔((a:Int),(b:Int))∈l ++ [((u:Int),(v:Int))]:=by
 rw[List.mem_append,List.mem_singleton,Prod.mk.injEq]
 constructor
 ·rintro (h | ⟨h1,h2⟩)
  ·exact .inl h
  ·exact .inr ⟨by omega,by omega⟩
 ·rintro (h | ⟨h1,h2⟩)
  ·exact .inl h
  ·exact .inr ⟨by omega,by omega⟩
theorem CK {M:OM.Tb}{u v a b:Nat}:M.set u v a b=true↔M a b=true\/(a=u/\b=v):=by
 unfold OM.Tb.set
 by_cases c:a=u/\b=v
 ·simp[c]
 ·rw[if_neg c];exact⟨.inl,fun h=>h.resolve_right c⟩
theorem HY (n:Nat)(x:V):(List.replicate n [x]).flatten=(List.range n).map fun _=>x:=by
 rw[List.flatten_replicate_singleton,List.map_const',List.length_range]
section
variable {P:Program}{w:World}{K:PySem.W.Frag}{mg:Str->Option Value}{base:Heap}
def Ao (K:PySem.W.Frag):Sp:=fun vs H Q _=>∃(n:Nat) (a:Addr) (xs:List V) (ps:List (Int×Int)),vs= [.int n,.ref a]/\1<=n/\n<=8/\(gk K H a xs\/fy K H a xs)/\aS K H xs ps/\OM.Wn n ps/\
 ∀H' t ws,ar H H'->H t=none->H' t=some (.tup ws)->aS K H' ws (OM.b9 n (OM.Tr (OM.Mem ps)))->Q (.ref t) H'
theorem fV:aH ["many","pairs","corners","leads","a","b","middle"] ["many","pairs"] (aq lU):=⟨rfl,rfl,rfl,by decide +kernel,rfl,by decide +kernel,by decide +kernel⟩
theorem HN:(["start","many"]:List Str).Nodup:=by decide +kernel
theorem ET:(["a","b","leads"]:List Str).Nodup:=by decide +kernel
set_option maxHeartbeats 1000000 in
theorem y0 {f g:Addr}{fd gd:FuncData}(F:Fn K mg "closed" lU ["many","pairs"] f fd)(G:Fn K mg "every_pair" jn ["many"] g gd)(GE:fR P w K mg base Gu 1 g gd ["many"] (ye K))(B:Bt mg):fR P w K mg base Gu 2 f fd ["many","pairs"] (Ao K):=by
 refine F.F.ok fV (fun vs H Q E h=>?_) (fun cdv A outer s H vs Q E hr h=>?_)
 ·obtain⟨n,a,xs,ps,rfl,_⟩:=h;rfl
 ·obtain⟨n,a,xs,ps,rfl,h1,h8,hq,hp,wn,k⟩:=h
  refine⟨_,gS (oH (i:=2) fV.nd rfl (Or.inl rfl) (oh GE hr rfl G.mg G.F.kp G.b .nil Hg (aN (pv 0) bA)))
   (gS (oH (i:=3) fV.nd rfl (Or.inr rfl) (rX (NB:=["start","many"]) (own:=1) (ixs:=[0]) rfl (mz (by kernel_rfl)) (kE rfl B.range (aN (pv 0) bA))
    (fun C ex s3 H3 pn=>cM (i:=0) HN rfl (Or.inl rfl) (hf:=Or.inr rfl)) (fun C ex s3 H3 pn=>se) (fun C ex s3 H3 pn=>qz Bo (Br (aN xJ bA)) (pv 1))))
   (gS (sg PassesOwn.never rfl (Gv (pv 1)) (oW rfl (dq (cM (i:=4) fV.nd rfl (Or.inl rfl)) (dq (cM (i:=5) fV.nd rfl (Or.inl rfl)) l7)))
    (ij (mO xJ (tu (k8 gH (pv 3) (pv 4) (fun _ _=>rfl)) (pv 5) set_list))))
   (gS (sg PassesOwn.never rfl (kE rfl B.range (aN (pv 0) bA)) (cM (i:=6) fV.nd rfl (Or.inl rfl))
    (ij (sg PassesOwn.never rfl (xO (pv 2)) (oW rfl (dq (cM (i:=4) fV.nd rfl (Or.inl rfl)) (dq (cM (i:=5) fV.nd rfl (Or.inl rfl)) l7)))
     (ij (Ex (PW.pt (Bh (vG (k8 gH (k8 gH (pv 3) (pv 4) (fun _ _=>rfl)) (pv 6) (fun _ _=>rfl))) (xN (vG (k8 gH (k8 gH (pv 3) (pv 6) (fun _ _=>rfl)) (pv 5) (fun _ _=>rfl))))))
      (ij (mO xJ (tu (k8 gH (pv 3) (pv 4) (fun _ _=>rfl)) (pv 5) set_list))) xW)))))
   (ij (mP (gK cD rfl B.tuple (by decide +kernel) (aN (rX (NB:=["a","b","leads"]) (own:=2) (ixs:=[3]) rfl (mz (by kernel_rfl)) (xO (pv 2))
    (fun C ex s3 H3 pn=>Gi K 0 1 ET rfl rfl rfl rfl rfl rfl)
    (fun C ex s3 H3 pn=>xM (vG (k8 (Ke K) (k8 (Ke K) (pv 2) (pv 0) (fun _ _=>rfl)) (pv 1) (fun _ _=>rfl)))) (fun C ex s3 H3 pn=>v8 (aN (pv 0) (aN (pv 1) bA)))) bA))))))),?_⟩
  have hn:=Kg h8
  have hn0:(0:Int)<=(n:Int):=by omega
  refine⟨_,rfl,n,rfl,h1,h8,fun H1 c ws s1 hc0 hc hw=>?_⟩
  have hwl:ws.length=n * n:=by rw[hw.len,eN]
  have gw:OM.Wn n (OM.bM n):=fun p hp=>OM.bt.mp hp
  refine xh ?_
  refine⟨_,rfl,n,rfl,by omega,by omega,fun D hD=>?_⟩
  rw[Int.toNat_natCast]
  refine uO (fun i σ' H'=>(∃v,σ'= [v,some (.int n)])/\ar H1 H'/\∃r:Nat->Addr,H' D=some (.lst ((List.range i).map fun k=>V.ref (r k)))/\
   (∀k,k < i->H' (r k)=some (.lst ((List.range n).map fun _=>V.bl false))/\H1 (r k)=none/\r k≠D)/\∀j k,j < i->k < i->r j=r k->j=k)
   ?_ ?_ ?_
  ·exact⟨⟨none,rfl⟩,(ar.refl H1).put hD,fun _=>0,az,fun k hk=>absurd hk (Nat.not_lt_zero _),fun j k hj=>absurd hj (Nat.not_lt_zero _)⟩
  ·rintro i σ' H' hi ⟨⟨v,rfl⟩,s2,r,hr0,hr1,hr2⟩
   refine uU ⟨by show 1<=sizeLine;rw[sizeLine_eq];omega,fun p hp0=>⟨_,rfl,p,n,[.bl false],rfl,rfl,az,by omega,by omega,by show 1 * (n:Int).toNat<=sizeLine;rw[sizeLine_eq];omega,fun q hq0=>?_⟩⟩
   have hqp:q≠p:=by intro e;subst e;rw[az] at hq0;cases hq0
   have hq1:H' q=none:=by rw[ay hqp] at hq0;exact hq0
   have hDp:D≠p:=aK hr0 hp0
   have hDq:D≠q:=aK hr0 hq1
   rw[Int.toNat_natCast,HY]
   refine⟨_,by rw[ay hDq,ay hDp];exact hr0,by rw[List.length_map,List.length_range,sizeLine_eq];omega,⟨_,rfl⟩,((s2.put (s2.free hp0)).put (s2.free hq1)).put hD,fun k=>if k=i then q else r k,?_,fun k hk=>?_,fun j k hj hk e=>?_⟩
   ·have e:(List.range i).map (fun k=>V.ref (r k))=(List.range i).map (fun k=>V.ref (if k=i then q else r k)):=List.map_congr_left fun k hk=>by
     have:=List.mem_range.mp hk
     rw[if_neg (by omega)]
    rw[az,List.range_succ,List.map_append,e]
    simp
   ·dsimp only
    by_cases e:k=i
    ·rw[if_pos e]
     exact⟨by rw[ay hDq.symm,az],s2.free hq1,hDq.symm⟩
    ·rw[if_neg e]
     obtain⟨a1,a2,a3⟩:=hr1 k (by omega)
     exact⟨by rw[ay a3,ay (aK a1 hq1),ay (aK a1 hp0)];exact a1,a2,a3⟩
   ·dsimp only at e
    by_cases ej:j=i
    ·by_cases ek:k=i
     ·omega
     ·rw[if_pos ej,if_neg ek] at e
      exact absurd e.symm (aK (hr1 k (by omega)).1 hq1)
    ·by_cases ek:k=i
     ·rw[if_neg ej,if_pos ek] at e
      exact absurd e (aK (hr1 j (by omega)).1 hq1)
     ·rw[if_neg ej,if_neg ek] at e
      exact hr2 j k (by omega) (by omega) e
  rintro σ2 H2 ⟨_,s2,r,hr0,hr1,hr2⟩
  refine⟨⟨_,hr0⟩,?_⟩
  have sep:∀i,i < n->H1 (r i)=none:=fun i hi=>(hr1 i hi).2.1
  have T0:TabAt n (fun _ _=>false) D r H2:=⟨hr0,fun i hi=>(hr1 i hi).1,hr2,fun i hi=>(hr1 i hi).2.2⟩
  refine⟨_,rfl,a,xs,rfl,DJ (H1:=H1) (C4 s1 hq) (fun i σ' H'=>(∃x y,σ'= [some (.int n),some (.ref a),some (.ref c),some (.ref D),x,y,none])/\ar H1 H'/\∃M,TabAt n M D r H'/\∀u v:Nat,M u v=true↔((u:Int),(v:Int))∈ps.take i)
   ⟨⟨none,none,rfl⟩,s2,_,T0,fun u v=>by simp⟩ (fun i σ' H' q=>q.2.1) ?_ ?_⟩
  ·rintro i x σ' H' hx ⟨⟨_,_,rfl⟩,s3,M,T,hM⟩
   obtain⟨p,hpi,b,rfl,hb⟩:=(hp.same (s1.trans s3)).at hx
   obtain⟨u,v,rfl,hu,hv⟩:=sk wn (List.mem_of_getElem? hpi)
   refine zZ hb ?_
   refine⟨_,rfl,_,rfl,D,_,u,_,rfl,rfl,.inl (.inl T.top),fZ hu,_,rfl,r u,_,v,v,rfl,rfl,T.row u hu,qw hv,⟨_,_,rfl⟩,s3.put (sep u hu),_,T.set hu,fun x y=>?_⟩
   rw[take_snoc hpi,<-kx,CK,hM]
  rintro σ3 H3 ⟨⟨x3,y3,rfl⟩,s3,M3,T3,hM3⟩
  rw[hp.len,take_all] at hM3
  refine⟨_,rfl,n,rfl,by omega,by omega,?_⟩
  rw[Int.toNat_natCast]
  refine yA (fun m σ' H'=>(∃x y z,σ'= [some (.int n),some (.ref a),some (.ref c),some (.ref D),x,y,z])/\ar H1 H'/\∃M,TabAt n M D r H'/\OM.Tab n ps M/\OM.DP M m)
   ⟨⟨_,_,_,rfl⟩,s3,M3,T3,⟨fun a b h=>by have:=wn _ ((hM3 a b).mp h);simp only at this;omega,fun a b h=>(hM3 a b).mpr h,fun a b h=>.one ((hM3 a b).mp h)⟩,fun k a b hk=>absurd hk (Nat.not_lt_zero _)⟩ ?_ ?_
  ·rintro m σ' H' hm ⟨⟨_,_,_,rfl⟩,s4,M,T,TT,Th⟩
   rw[Int.zero_add]
   refine⟨_,rfl,c,rfl,⟨ws,.inl (.inl (s4 _ _ hc))⟩,u4 (xs:=ws) (fun i σ' H'=>(∃x y,σ'= [some (.int n),some (.ref a),some (.ref c),some (.ref D),x,y,some (.int m)])/\ar H1 H'/\∃M',TabAt n M' D r H'/\OM.Phase M M' m fun u v=>((u:Int),(v:Int))∈(OM.bM n).take i)
    ⟨⟨_,_,rfl⟩,s4,M,T,ic (OM.Phase.start M m) fun a b=>by simp⟩ (fun i σ' H' _ q=>.inl (.inl (q.2.1 _ _ hc))) ?_ ?_⟩
   ·rintro i x σ' H' hx ⟨⟨_,_,rfl⟩,s5,M',T',Ph⟩
    obtain⟨p,hpi,b,rfl,hb⟩:=(hw.same s5).at hx
    obtain⟨u,v,rfl,hu,hv⟩:=sk gw (List.mem_of_getElem? hpi)
    refine zZ hb ?_
    have st:=Ph.step u v
    refine⟨_,rfl,_,rfl,D,_,u,_,rfl,rfl,.inl (.inl T'.top),fZ hu,_,rfl,r u,_,m,_,rfl,rfl,.inl (.inl (T'.row u hu)),fZ hm,_,rfl,?_⟩
    by_cases c1:M' u m=true
    ·refine Jt c1 ?_
     refine⟨_,rfl,_,rfl,D,_,m,_,rfl,rfl,.inl (.inl T'.top),fZ hm,_,rfl,r m,_,v,_,rfl,rfl,.inl (.inl (T'.row m hm)),fZ hv,_,rfl,?_⟩
     by_cases c2:M' m v=true
     ·refine Jt c2 ?_
      rw[if_pos ⟨c1,c2⟩] at st
      refine⟨_,rfl,_,rfl,D,_,u,_,rfl,rfl,.inl (.inl T'.top),fZ hu,_,rfl,r u,_,v,v,rfl,rfl,T'.row u hu,qw hv,⟨_,_,rfl⟩,s5.put (sep u hu),_,T'.set hu,ic st fun a b=>?_⟩
      rw[take_snoc hpi];exact kx
     ·refine JL c2 ?_
      rw[if_neg fun z=>c2 z.2] at st
      refine⟨⟨_,_,rfl⟩,s5,_,T',ic st fun a b=>?_⟩
      rw[take_snoc hpi];exact kx
    ·refine JL c1 ?_
     rw[if_neg fun z=>c1 z.1] at st
     refine vh ⟨⟨_,_,rfl⟩,s5,_,T',ic st fun a b=>?_⟩
     rw[take_snoc hpi];exact kx
   ·rintro σ' H' ⟨⟨_,_,rfl⟩,s5,M',T',Ph⟩
    rw[hw.len,take_all] at Ph
    have dn:=Ph.done (n:=n) (fun a b ha hb=>OM.bt.mpr ⟨⟨by simp,by simp;omega⟩,by simp,by simp;omega⟩) TT.inn Th
    exact⟨⟨_,_,_,rfl⟩,s5,M',T',TT.phase Ph,dn.1⟩
  rintro σ4 H4 ⟨⟨x4,y4,z4,rfl⟩,s4,M,T,TT,Th⟩
  refine xh ⟨_,rfl,c,rfl,⟨ws,.inl (.inl (s4 _ _ hc))⟩,fun D' hD'=>C6 (xs:=ws) (fun i σ' H'=>(∃x y,σ'= [x,y,some (.ref D)])/\ar H4 H'/\∃vs,H' D'=some (.lst vs)/\aS K H' vs (((OM.bM n).take i).filter fun p=>M p.1.toNat p.2.toNat))
   ⟨⟨_,_,rfl⟩,(ar.refl H4).put hD',[],az,.nil⟩ (fun i σ' H' _ q=>.inl (.inl (q.2.1 _ _ (s4 _ _ hc)))) ?_ ?_⟩
  ·rintro i x σ' H' hx ⟨⟨_,_,rfl⟩,s5,vs,hv,hpv⟩
   obtain⟨p,hpi,b,rfl,hb⟩:=(hw.same (s4.trans s5)).at hx
   obtain⟨u,v,rfl,hu,hv'⟩:=sk gw (List.mem_of_getElem? hpi)
   refine zZ hb ?_
   have T':=T.same s5
   refine⟨_,rfl,_,rfl,D,_,u,_,rfl,rfl,.inl (.inl T'.top),fZ hu,_,rfl,r u,_,v,_,rfl,rfl,.inl (.inl (T'.row u hu)),fZ hv',_,rfl,?_⟩
   by_cases c1:M u v=true
   ·refine Jt c1 ?_
    refine⟨_,rfl,_,rfl,by show 2<=sizeLine;rw[sizeLine_eq];omega,fun p hp0=>?_⟩
    have hpD:D'≠p:=aK hv hp0
    refine⟨vs,by rw[ay hpD];exact hv,?_,⟨_,_,rfl⟩,(s5.put (s5.free hp0)).put hD',_,az,?_⟩
    ·rw[hpv.len]
     refine Nat.lt_of_le_of_lt (List.length_filter_le ..) ?_
     rw[List.length_take,eN,sizeLine_eq];omega
    ·rw[take_snoc hpi,List.filter_append,List.filter_cons_of_pos (by simpa using c1),List.filter_nil]
     have g1:gy H' (upd H' p (.tup [.int u,.int v])):=gy.new hp0
     have g2:∀o,gy (upd H' p (.tup [.int u,.int v])) (upd (upd H' p (.tup [.int u,.int v])) D' o):=fun o=>gy.list (by rw[ay hpD];exact hv)
     refine aS.snoc ?_ (hpv.grow (g1.trans (g2 _)))
     exact fy.grow (.inl (.inl az)) (g2 _)
   ·refine JL c1 ?_
    refine⟨⟨_,_,rfl⟩,s5,vs,hv,?_⟩
    rw[take_snoc hpi,List.filter_append,List.filter_cons_of_neg (by simpa using c1),List.filter_nil,List.append_nil]
    exact hpv
  ·rintro σ' H' ⟨_,s5,vs,hv,hpv⟩
   rw[hw.len,take_all] at hpv
   refine⟨⟨_,hv⟩,D',vs,rfl,.inl ⟨.inl (.inl hv),fun t ht=>?_⟩⟩
   have sA:ar H H':=(s1.trans s4).trans s5
   refine k _ t vs (sA.put (sA.free ht)) (sA.free ht) az ?_
   have e:((OM.bM n).filter fun p=>M p.1.toNat p.2.toNat)=OM.b9 n (OM.Tr (OM.Mem ps)):=by
    unfold OM.b9
    refine List.filter_congr fun p hp=>?_
    obtain⟨u,v,rfl,hu,hv⟩:=sk gw hp
    have:=TT.all wn Th u v
    simp only[Int.toNat_natCast]
    rw[Bool.eq_iff_iff,this]
    simp
   rw[e] at hpv
   exact hpv.grow (gy.new ht)
end
end RO

end

section
namespace RO
open PySem L2 RM
section
variable {P:Program}{w:World}{K:PySem.W.Frag}{mg:Str->Option Value}{base:Heap}{ca:Str->Addr}
theorem Ko {k:Nat}{f:Addr}{fd:FuncData}{ps:List Str}{sp:Sp}(F:fR P w K mg base Gu k f fd ps sp):fR P w K mg base (nJ P w) k f fd ps sp:=
 ⟨F.len,fun A outer s H args us vs Q E hr he hb hv hs=>codeAny_mono (F.run A outer s H args us vs Q E hr he hb hv hs) fun r s' h=>by
  cases r with
  |ok x=>cases x <;> exact h
  |error e=>exact h.elim⟩
theorem we {G H:Hp}(s:ar G H){ws:List V}{ps:List Pr}(h:aS K H ws ps):aS K (mQ G H) ws ps:=Paired.mapP h fun v p ⟨a,e,q⟩=>⟨a,e,pM s q⟩
theorem oO {ds:List D}(h:c4 ds≠.bad):∃(n:Nat) (d:D) (ps:List Pr),ds= [.int n,d]/\lx d=some (ps.map aC)/\1<=n/\n<=8/\OM.Wn n ps/\c4 ds=.ok (.tuple ((OM.b9 n (OM.Tr (OM.Mem ps))).map aC)) false:=by
 unfold c4 at h
 split at h
 ·rename_i n d
  cases q:lx d with
  |none=>rw[q] at h;exact absurd rfl h
  |some es=>
   rw[q] at h
   dsimp only at h
   cases q2:gi es with
   |none=>rw[q2] at h;exact absurd rfl h
   |some ps=>
    rw[q2] at h
    dsimp only at h
    by_cases c:1<=n/\n<=8/\OM.Wn n.toNat ps
    ·have e:((n.toNat:Nat):Int)=n:=by omega
     refine⟨n.toNat,d,ps,by rw[e],by rw[q,kH q2],by omega,by omega,c.2.2,?_⟩
     unfold c4
     dsimp only
     rw[q]
     dsimp only
     rw[q2]
     dsimp only
     rw[if_pos c]
    ·rw[if_neg c] at h;exact absurd rfl h
 ·exact absurd rfl h
theorem wW {f g:Addr}{fd gd:FuncData}(F:jd K mg "closed" lU ["many","pairs"] f fd)(E:jd K mg "every_pair" jn ["many"] g gd)(B:jg mg):b4 P w K mg base ca "closed" ["many","pairs"] 3 c4:=by
 refine⟨⟨f,fd,F.mg,F.F.kp,F.b,((Ko (y0 F E (AH E B) B)).mono (by decide)).imp ?_⟩,fun ds h=>?_⟩
 ·rintro vs H Q X ⟨G,ds,s,hl,r,h⟩
  have hb:c4 ds≠.bad:=fun z=>by rw[z] at h;exact h
  obtain⟨n,d,ps,rfl,hd,h1,h8,wn,e⟩:=oO hb
  rw[e] at h
  cases r with
  |cons r1 r=>
   cases r with
   |cons r2 r=>
    cases r
    cases r1
    obtain⟨a,xs,rfl,hq,hr⟩:=(lA.seq (B:=none) (G:=G) (H:=G) (.inl r2) hd (ar.refl _))
    refine⟨n,a,xs,ps,rfl,h1,h8,hq.elim (fun q=>.inl (s.seq q)) (fun q=>.inr (q.grow s.grow)),(hr.pairs).grow s.grow,wn,fun H' t ws hh ht ht' hp=>?_⟩
    have s2:=s.trans hh
    refine h (.ref t) (mQ G H') H' hh rl (u7 s2) (fun b m hb=>by rw[xX hh m];exact hb) ?_
    exact .tup (pM s2 (.inl (.inl ht'))) (aS.rps (we s2 hp))
 ·obtain⟨n,d,ps,rfl,_⟩:=oO h
  rfl
end
end RO

end

section
namespace HD
open PySem PySem.W
noncomputable abbrev BU:=@PySem.W.Fast.tw10156331382660048174
noncomputable abbrev Fe:=@PySem.W.Fast.tw11892475500146522536
noncomputable abbrev Jg:=@PySem.W.Fast.tw6613529449190102663
noncomputable abbrev EN:=@PySem.W.Fast.tw14364793385576792824
noncomputable abbrev Ek:=@PySem.W.Fast.tw17154629097778926822
noncomputable abbrev BY:=@PySem.W.Fast.tw12822647523644345616
noncomputable def Cq (p:Program):Thread:=
 ⟨do
  let code <-Ek p.main
  let frame <-BY code mainNs mainNs
  let _ <-run (.body (behindTheImports p) {scope:=p.main.scope,locals:=mainNs,globals:=mainNs,cells:=[],code,frame:=some frame})
  ret .none,
  .builtin "claim.caller" {},default,[]⟩
theorem BQ (p:Program):topStub p=Cq p:=by
 unfold topStub Cq Ek BY
 rw[<-PySem.W.Fast.te17154629097778926822,<-PySem.W.Fast.te12822647523644345616]
noncomputable def nX (p:Program)(w:World)(n₀:Nat)(ann:Option Value):Nat->SharedT->Thread->Option SharedT
 | 0,_,_=>none
 |n + 1,s,t=>match through t with
  |true=>some s
  |false=>match Jg n₀ ann t with
   |false=>none
   |true=>match BU (Fe EN) p w s t with
    |some (s',t')=>nX p w n₀ ann n s' t'
    |none=>none
theorem qD {p:Program}{w:World}{n₀:Nat}{ann:Option Value}:∀{n:Nat} {s s':SharedT} {t:Thread},nX p w n₀ ann n s t=some s'->topRun treeTable p w n₀ ann n s.abs t=some s'.abs
 | 0,_,_,_,h=>by cases h
 |n + 1,s,s',t,h=>by
  unfold nX at h
  unfold topRun
  cases ht:through t with
  |true=>rw[ht] at h;cases h;rfl
  |false=>
   rw[ht] at h
   have hq:Jg n₀ ann t=stepOk n₀ ann t:=by unfold Jg;rw[<-PySem.W.Fast.te6613529449190102663]
   dsimp only at h
   rw[hq] at h
   cases hk:stepOk n₀ ann t with
   |false=>rw[hk] at h;cases h
   |true=>
    rw[hk] at h
    have hq:BU (Fe EN) p w s t=stepT (denote treeTable) p w s t:=by unfold BU Fe EN;rw[<-PySem.W.Fast.te10156331382660048174,<-PySem.W.Fast.te11892475500146522536,<-PySem.W.Fast.te14364793385576792824]
    dsimp only at h
    rw[hq] at h
    cases hs:stepT (denote treeTable) p w s t with
    |none=>rw[hs] at h;cases h
    |some r=>obtain⟨s₂,t₂⟩:=r;rw[hs] at h;rw[stepT_spec hs];exact qD h
def treeOf (l:List Obj):BT:=(l.foldl (fun (x:BT×Nat) o=>(x.1.ins x.2 o,x.2 + 1)) (.nil,0)).1
noncomputable def Ag (P:Params):BT:=treeOf (boot_heap P).objs.toList
abbrev uo:Nat:=11
abbrev B7:Life:={}
theorem boot_abs (P:Params):absHeap (Ag P) uo B7=boot_heap P:=by kernel_rfl
theorem zc (w:World):((boot_heap w.params).isNs mainGlobals && (Array.mk ([]:List GenState)).size == 0,(boot_heap w.params).objs.size,(boot_heap w.params).nsMap mainGlobals "__annotations__")=(true,uo,some (.ref 6)):=by kernel_rfl
noncomputable def Cb (w:World)(os:OsState):SharedT:=⟨Ag w.params,uo,B7,Array.mk [],boot_drawn,boot_toks,os⟩
noncomputable def Ei (p:Program)(w:World)(s:Shared):Bool:=staticsOk (importedModules p.main.body) (boot_heap w.params) s.heap && namesBound p s.heap && gensDone s && laidKept (boot_heap w.params) s.heap
theorem C1 {p q:Program}{loose:List Str}{Xt:Shared->Bool}{α:Type}{Yf:Shared->α}{Ya:World->α}{N:Nat}{g0:Bool}
  (e:opening p=plainProg p.main.scope.names) (hN:Nat.ble 600 N=true) (f:∀s,fenceModules? p s=some s)
  (run:∀(w:World) (os:OsState),(nX p w uo (some (.ref 6)) N (Cb w os) (Cq p)).map (fun s=>(Ei p w s.abs,openSeen q loose (importedModules p.main.body) Xt g0 s.abs,Yf s.abs))=some (true,openGood q loose,Ya w)):LeftO p q loose Xt Yf Ya N g0:=fun w=>by
 obtain⟨⟨h,gs,d,k,os⟩,e,e'⟩:=Option.map_eq_some_iff.mp (boot_open e hN f w)
 obtain⟨rfl,rfl,rfl,rfl⟩:h=boot_heap w.params/\gs=Array.mk []/\d=boot_drawn/\k=boot_toks:=by simpa using e'
 obtain⟨z1,z2,z3⟩:_/\_/\_:=by simpa only [Prod.mk.injEq] using zc w
 obtain⟨s',r,ls⟩:=Option.map_eq_some_iff.mp (run w os)
 obtain⟨l1,l2,l3⟩:_/\_/\_:=by simpa only [Prod.mk.injEq] using ls
 have r:=qD r
 have ha:(Cb w os).abs=⟨boot_heap w.params,Array.mk [],boot_drawn,boot_toks,os⟩:=by
  show Shared.mk (absHeap (Ag w.params) uo B7) _ _ _ _=_
  rw[boot_abs]
  rfl
 rw[ha,<-BQ] at r
 have t:topFrom treeTable p w N ⟨boot_heap w.params,Array.mk [],boot_drawn,boot_toks,os⟩=some s'.abs:=by
  unfold topFrom
  dsimp only
  rw[z1,z2,z3,r]
  show (match Ei p w s'.abs with |true=>_ |false=>_)=_
  rw[l1]
 unfold openEnds
 rw[e]
 show (topFrom treeTable p w N _).map _=_
 rw[t]
 exact congrArg some (Prod.ext l2 l3)
end HD

end

section
namespace RO
open PySem L2 RM
def yb (K:PySem.W.Frag):Sp:=fun vs H Q _=>∃(a:Addr) (ns:List Int),vs= [.ref a]/\gk K H a (ns.map V.int)/\∀H',ar H H'->Q (.bl true) H'
theorem EM {K:PySem.W.Frag}{ca:Str->Addr}(vs:List V)(H:Hp)(Q:VK)(E:XK)(h:yb K vs H Q E):Cv K ca 1 E1 vs H Q E:=by
 obtain⟨a,ns,rfl,hS,q⟩:=h
 refine⟨H,[bZ ns],ar.refl _,rfl,.cons (.scr hS) .nil,?_⟩
 rw[HW]
 intro v G' H' s1 s2 s3 s4 fv
 have fv:Rp K G' v (.bool true):=fv
 cases fv
 exact q H' s1
theorem wK:aX "is_whole" RQ.jz ["thing"]:=fun _ _ _ _ _ _=>yo fun _=>rfl
theorem xi:aX "is_below" RQ.jo ["thing","bound"]:=fun _ _ _ _ _ _=>ln2 fun _ _=>rfl
theorem yw:aX "is_many" RQ.ky ["thing"]:=fun _ _ _ _ _ _=>yo fun _=>rfl
theorem zm:aX "is_pair" RQ.kL ["thing","many"]:=fun _ _ _ _ _ _=>ln2 fun _ _=>rfl
theorem zl:aX "is_line" RQ.kN ["thing","many"]:=fun _ _ _ _ _ _=>ln2 fun _ _=>rfl
theorem sf:aX "every_pair" RQ.eG ["many"]:=fun _ _ _ _ _ _=>yo fun _=>rfl
theorem BP:aX "closed" lU ["many","pairs"]:=fun _ _ _ _ _ _=>ln2 fun _ _=>rfl
theorem wD:aX "has_ring" RQ.jy ["pairs"]:=fun _ _ _ _ _ _=>yo fun _=>rfl
theorem vU:aX "is_order" RQ.jJ ["thing"]:=fun _ _ _ _ _ _=>yo fun _=>rfl
theorem sx:aX "need_order" RQ.gA ["thing"]:=fun _ _ _ _ _ _=>yo fun _=>rfl
theorem ue:aX "are_apart" RQ.h9 ["order","a","b"]:=fun _ _ _ _ _ _=>IL fun _ _ _=>rfl
theorem Cr:aX "places" RQ.l9 ["row"]:=fun _ _ _ _ _ _=>yo fun _=>rfl
theorem ql:aX "keeps_order" RQ.fJ ["thing","order"]:=fun _ _ _ _ _ _=>ln2 fun _ _=>rfl
theorem rO:aX "with_thing" RQ.gB ["placed","thing"]:=fun _ _ _ _ _ _=>ln2 fun _ _=>rfl
theorem qc:aX "free_things" RQ.fK ["masks","placed"]:=fun _ _ _ _ _ _=>ln2 fun _ _=>rfl
theorem zb:aX "ways_on" RQ.kK ["masks"]:=fun _ _ _ _ _ _=>yo fun _=>rfl
theorem p5:aX "masks_ahead" RQ.fL ["order"]:=fun _ _ _ _ _ _=>yo fun _=>rfl
theorem uF:aX "rows_many" RQ.ie ["order"]:=fun _ _ _ _ _ _=>yo fun _=>rfl
theorem Bv:aX "choose" RQ.lN ["masks","ways","placed","left"]:=fun _ _ _ _ _ _=>Kr fun _ _ _ _=>rfl
theorem yU:aX "nth_row" RQ.kA ["order","number"]:=fun _ _ _ _ _ _=>ln2 fun _ _=>rfl
theorem pj:aX "stands_ahead" RQ.dZ ["tables","a","b"]:=fun _ _ _ _ _ _=>IL fun _ _ _=>rfl
theorem oU:aX "shared_pairs" RQ.eB ["many","rows"]:=fun _ _ _ _ _ _=>ln2 fun _ _=>rfl
theorem wF:aX "are_rows" RQ.jq ["thing","order"]:=fun _ _ _ _ _ _=>ln2 fun _ _=>rfl
theorem Gf:aX "tell" RQ.sy ["thing","order"]:=fun _ _ _ _ _ _=>ln2 fun _ _=>rfl
theorem Dq:aX "turns" RQ.n5 ["order"]:=fun _ _ _ _ _ _=>yo fun _=>rfl
theorem wX:aX "is_sharp" RQ.jl ["order","a","b"]:=fun _ _ _ _ _ _=>IL fun _ _ _=>rfl
theorem pZ:aX "sharp_turns" RQ.fE ["order"]:=fun _ _ _ _ _ _=>yo fun _=>rfl
theorem vv:aX "_law_cell" RQ.iq ["script","k"]:=fun _ _ _ _ _ _=>ln2 fun _ _=>rfl
theorem vF:aX "_law_mix" RQ.fg ["cell","k"]:=fun _ _ _ _ _ _=>ln2 fun _ _=>rfl
theorem wU:aX "_law_box" RQ.jr ["script","k"]:=fun _ _ _ _ _ _=>ln2 fun _ _=>rfl
theorem u9:aX "_law_take" RQ.hZ ["box","many"]:=fun _ _ _ _ _ _=>ln2 fun _ _=>rfl
theorem nF:aX "_law_mixed_up" RQ.dB ["box","some"]:=fun _ _ _ _ _ _=>ln2 fun _ _=>rfl
theorem p0:aX "_law_closed" RQ.fH ["pairs"]:=fun _ _ _ _ _ _=>yo fun _=>rfl
theorem sv:aX "_law_order" RQ.gz ["box","most"]:=fun _ _ _ _ _ _=>ln2 fun _ _=>rfl
theorem tP:aX "_law_told" RQ.ik ["many","rows"]:=fun _ _ _ _ _ _=>ln2 fun _ _=>rfl
theorem sJ:aX "_law_under" RQ.gp ["order","sharp","turn"]:=fun _ _ _ _ _ _=>IL fun _ _ _=>rfl
theorem all_mk {l:PySem.W.OpenLaw}{w:World}{K:PySem.W.Frag}{h:Heap}{mg:Str->Option Value}{fa f37 x0 x1:Addr}(X:K.In h)(G:h.Ns mainGlobals mg)(hfa:mg "law"=some (.ref fa))
  {od37 an37:Option Addr} {sl37:Array (Option Value)} {oc37 kV37 dc37 pm37 cd37 ct37:Value} {tMOST_THINGS:Tok}
  (F1:Fo K mg "is_whole" RQ.jz ["thing"])
  (F2:Fo K mg "is_below" RQ.jo ["thing","bound"])
  (F3:Fo K mg "is_many" RQ.ky ["thing"])
  (F4:Fo K mg "is_pair" RQ.kL ["thing","many"])
  (F5:Fo K mg "is_line" RQ.kN ["thing","many"])
  (F6:Fo K mg "every_pair" RQ.eG ["many"])
  (F7:Fo K mg "closed" lU ["many","pairs"])
  (F8:Fo K mg "has_ring" RQ.jy ["pairs"])
  (F9:Fo K mg "is_order" RQ.jJ ["thing"])
  (F10:Fo K mg "need_order" RQ.gA ["thing"])
  (F11:Fo K mg "are_apart" RQ.h9 ["order","a","b"])
  (F12:Fo K mg "places" RQ.l9 ["row"])
  (F13:Fo K mg "keeps_order" RQ.fJ ["thing","order"])
  (F14:Fo K mg "with_thing" RQ.gB ["placed","thing"])
  (F15:Fo K mg "free_things" RQ.fK ["masks","placed"])
  (F16:Fo K mg "ways_on" RQ.kK ["masks"])
  (F17:Fo K mg "masks_ahead" RQ.fL ["order"])
  (F18:Fo K mg "rows_many" RQ.ie ["order"])
  (F19:Fo K mg "choose" RQ.lN ["masks","ways","placed","left"])
  (F20:Fo K mg "nth_row" RQ.kA ["order","number"])
  (F21:Fo K mg "stands_ahead" RQ.dZ ["tables","a","b"])
  (F22:Fo K mg "shared_pairs" RQ.eB ["many","rows"])
  (F23:Fo K mg "are_rows" RQ.jq ["thing","order"])
  (F24:Fo K mg "tell" RQ.sy ["thing","order"])
  (F25:Fo K mg "turns" RQ.n5 ["order"])
  (F26:Fo K mg "is_sharp" RQ.jl ["order","a","b"])
  (F27:Fo K mg "sharp_turns" RQ.fE ["order"])
  (F28:Fo K mg "_law_cell" RQ.iq ["script","k"])
  (F29:Fo K mg "_law_mix" RQ.fg ["cell","k"])
  (F30:Fo K mg "_law_box" RQ.jr ["script","k"])
  (F31:Fo K mg "_law_take" RQ.hZ ["box","many"])
  (F32:Fo K mg "_law_mixed_up" RQ.dB ["box","some"])
  (F33:Fo K mg "_law_closed" RQ.fH ["pairs"])
  (F34:Fo K mg "_law_order" RQ.gz ["box","most"])
  (F35:Fo K mg "_law_told" RQ.ik ["many","rows"])
  (F36:Fo K mg "_law_under" RQ.gp ["order","sharp","turn"])
  (a37:PySem.W.nsIn K mainGlobals "law"=some (some (.ref f37))) (l37:K.lookup f37=some ⟨oc37,od37,.func (PySem.W.fnOf "law" "law" (iw RQ.k7) (cO RQ.k7) (aq RQ.k7) .none kV37 dc37 pm37 an37 cd37 ct37),sl37⟩) (c37:PySem.W.codeIn K cd37 "law"=true) (k37:PySem.W.keepIn K (.ref f37)=true)
  (zB:Jj K=true)
  (yMOST_THINGS:PySem.W.nsIn K mainGlobals "MOST_THINGS"=some (some (.int 8 tMOST_THINGS)))
  (m0:PySem.W.nsIn K mainGlobals "NoNumber"=some (some (.ref x0)))
  (e0:PySem.W.excIn K x0 [.type "ValueError",.type "Exception",.type "BaseException",.type "object"] "ValueError.__new__"=true)
  (m1:PySem.W.nsIn K mainGlobals "NoOrder"=some (some (.ref x1)))
  (e1:PySem.W.excIn K x1 [.type "ValueError",.type "Exception",.type "BaseException",.type "object"] "ValueError.__new__"=true)
  :∃fd:FuncData,(∀(s:Shared) (v:Value),BindsTo s fd ⟨[v],[]⟩ [("script",v)])/\∀base:Heap,K.In base->base.Ns mainGlobals mg->fR l.prog w K mg base (nJ l.prog w) 8 fa fd ["script"] (yb K):=by
 have e:=hfa.symm.trans (PySem.W.mg_of X G a37)
 cases e
 have B:jg mg:=HP X G zB
 have iA:=PySem.W.mg_of X G yMOST_THINGS
 obtain⟨f1,d1,bP⟩:=F1.ex
 obtain⟨f2,d2,a8⟩:=F2.ex
 obtain⟨f3,d3,gP⟩:=F3.ex
 obtain⟨f4,d4,gM⟩:=F4.ex
 obtain⟨f5,d5,gJ⟩:=F5.ex
 obtain⟨f6,d6,bq⟩:=F6.ex
 obtain⟨f7,d7,iX⟩:=F7.ex
 obtain⟨f8,d8,fu⟩:=F8.ex
 obtain⟨f9,d9,fC⟩:=F9.ex
 obtain⟨f10,d10,aJ⟩:=F10.ex
 obtain⟨f11,d11,dM⟩:=F11.ex
 obtain⟨f12,d12,cW⟩:=F12.ex
 obtain⟨f13,d13,cH⟩:=F13.ex
 obtain⟨f14,d14,aB⟩:=F14.ex
 obtain⟨f15,d15,bb⟩:=F15.ex
 obtain⟨f16,d16,cf⟩:=F16.ex
 obtain⟨f17,d17,bg⟩:=F17.ex
 obtain⟨f18,d18,dI⟩:=F18.ex
 obtain⟨f19,d19,i7⟩:=F19.ex
 obtain⟨f20,d20,gL⟩:=F20.ex
 obtain⟨f21,d21,cg⟩:=F21.ex
 obtain⟨f22,d22,cn⟩:=F22.ex
 obtain⟨f23,d23,fj⟩:=F23.ex
 obtain⟨f24,d24,mw⟩:=F24.ex
 obtain⟨f25,d25,eJ⟩:=F25.ex
 obtain⟨f26,d26,fA⟩:=F26.ex
 obtain⟨f27,d27,cF⟩:=F27.ex
 obtain⟨f28,d28,dJ⟩:=F28.ex
 obtain⟨f29,d29,fq⟩:=F29.ex
 obtain⟨f30,d30,fh⟩:=F30.ex
 obtain⟨f31,d31,aO⟩:=F31.ex
 obtain⟨f32,d32,aV⟩:=F32.ex
 obtain⟨f33,d33,cC⟩:=F33.ex
 obtain⟨f34,d34,cZ⟩:=F34.ex
 obtain⟨f35,d35,dG⟩:=F35.ex
 obtain⟨f36,d36,c3⟩:=F36.ex
 have U37:=xc (st:=RQ.k7) l37 c37 k37
 have Iu:jd K mg "law" RQ.k7 ["script"] fa _:=⟨PySem.W.mg_of X G a37,U37,U37.binds (ps:=["script"]) fun _ _ _ _ _ _=>yo fun _=>rfl⟩
 obtain⟨ca,hca⟩:∃ca:Str->Addr,ca "NoNumber"=x0/\ca "NoOrder"=x1:=⟨fun s=>if s="NoNumber" then x0 else if s="NoOrder" then x1 else 0,by first |rfl |decide |simp,by first |rfl |decide |simp⟩
 have gZ:Exc K mg ca "NoNumber":=⟨by rw[hca.1];exact PySem.W.mg_of X G m0,by rw[hca.1];exact e0⟩
 have je:Exc K mg ca "NoOrder":=⟨by rw[hca.2];exact PySem.W.mg_of X G m1,by rw[hca.2];exact e1⟩
 refine⟨PySem.W.fnOf "law" "law" (iw RQ.k7) (cO RQ.k7) (aq RQ.k7) .none kV37 dc37 pm37 an37 cd37 ct37,fun s v=>.of_eq rfl,fun base _ _=>?_⟩
 have fD:=(RQ.sO (P:=l.prog) (w:=w) (base:=base) (ca:=ca) bP B).imp DK
 have b5:=(RQ.r6 (P:=l.prog) (w:=w) (base:=base) (ca:=ca) a8 B fD).imp Dz
 have mH:=(RQ.vj (P:=l.prog) (w:=w) (base:=base) (ca:=ca) gP B fD iA).imp GH
 have mS:=(RQ.u5 (P:=l.prog) (w:=w) (base:=base) (ca:=ca) gM B b5).imp Fu
 have my:=RQ.vd (P:=l.prog) (w:=w) (base:=base) (ca:=ca) gJ B b5
 have c6:=RQ.oE (P:=l.prog) (w:=w) (base:=base) (ca:=ca) bq B
 have pH:=wW (P:=l.prog) (w:=w) (base:=base) (ca:=ca) iX bq B
 have ly:=(RQ.sr (P:=l.prog) (w:=w) (base:=base) (ca:=ca) fu B).imp FI
 have la:=(RQ.rH (P:=l.prog) (w:=w) (base:=base) (ca:=ca) fC B mH mS pH ly).imp wb
 have bp:=(RQ.oG (P:=l.prog) (w:=w) (base:=base) (ca:=ca) aJ B la je).imp DH
 have j3:=RQ.qh (P:=l.prog) (w:=w) (base:=base) (ca:=ca) dM B
 have jf:=RQ.wc (P:=l.prog) (w:=w) (base:=base) (ca:=ca) cW B
 have iI:=RQ.nC (P:=l.prog) (w:=w) (base:=base) (ca:=ca) cH B my jf
 have aQ:=RQ.oD (P:=l.prog) (w:=w) (base:=base) (ca:=ca) aB B
 have cG:=RQ.nN (P:=l.prog) (w:=w) (base:=base) (ca:=ca) bb B aQ
 have gN:=RQ.uz (P:=l.prog) (w:=w) (base:=base) (ca:=ca) cf B cG aQ
 have cI:=RQ.nM (P:=l.prog) (w:=w) (base:=base) (ca:=ca) bg B aQ
 have kc:=RQ.pR (P:=l.prog) (w:=w) (base:=base) (ca:=ca) dI B bp gN cI
 have pe:=RQ.wM (P:=l.prog) (w:=w) (base:=base) (ca:=ca) i7 B cG aQ
 have mM:=RQ.uq (P:=l.prog) (w:=w) (base:=base) (ca:=ca) gL B bp cI gN b5 pe aQ gZ
 have gV:=RQ.mR (P:=l.prog) (w:=w) (base:=base) (ca:=ca) cg B
 have gX:=RQ.mF (P:=l.prog) (w:=w) (base:=base) (ca:=ca) cn B jf c6 gV
 have ll:=RQ.su (P:=l.prog) (w:=w) (base:=base) (ca:=ca) fj B iI
 have wH:=RQ.z8 (P:=l.prog) (w:=w) (base:=base) (ca:=ca) mw B bp ll gX
 have kP:=RQ.yY (P:=l.prog) (w:=w) (base:=base) (ca:=ca) eJ B bp c6 j3
 have lD:=RQ.rJ (P:=l.prog) (w:=w) (base:=base) (ca:=ca) fA B
 have iB:=RQ.nG (P:=l.prog) (w:=w) (base:=base) (ca:=ca) cF B kP lD
 have ko:=RQ.qr (P:=l.prog) (w:=w) (base:=base) (ca:=ca) dJ B
 have lH:=RQ.rA (P:=l.prog) (w:=w) (base:=base) (ca:=ca) fq B
 have lj:=RQ.sV (P:=l.prog) (w:=w) (base:=base) (ca:=ca) fh B ko lH
 have bu:=RQ.qp (P:=l.prog) (w:=w) (base:=base) aO B
 have bS:=RQ.lM (P:=l.prog) (w:=w) (base:=base) aV B bu
 have iE:=RQ.nK (P:=l.prog) (w:=w) (base:=base) (ca:=ca) cC B
 have jm:=RQ.pN (P:=l.prog) (w:=w) (base:=base) (ca:=ca) cZ B iE bu bS
 have kh:=RQ.pW (P:=l.prog) (w:=w) (base:=base) (ca:=ca) dG B
 have jx:=RQ.pd (P:=l.prog) (w:=w) (base:=base) (ca:=ca) c3 B
 have Hu:=RQ.D6 (P:=l.prog) (w:=w) (base:=base) (ca:=ca) Iu B lj kh kP iB jx kc mM wH jm bu bS
 exact fR.imp (sp:=Cv K ca 1 E1) Hu EM
theorem walk {l:PySem.W.OpenLaw}{q:Program}{loose:List Str}{XP:(Str->Option Value)->Heap->Prop}{YP:World->Heap->Prop}{d:DefRec}{K:Params->PySem.W.Frag}(hn:l.most=some 63)(hdf:d.params.defaults= [])(hi:PyProof.Rows.importsNone q=true)
  (hY:∀(w:World) (h:Heap),YP w h->(K w.params).In h)
  (F:∀(w:World) (mg:Str->Option Value) (fa:Addr) (h:Heap),(K w.params).In h->h.Ns mainGlobals mg->mg d.name=some (.ref fa)->
   ∃fd:FuncData,(∀(s:Shared) (u:Value),BindsTo s fd ⟨[u],[]⟩ [("script",u)])/\∀base:Heap,(K w.params).In base->base.Ns mainGlobals mg->fR l.prog w (K w.params) mg base (nJ l.prog w) 8 fa fd ["script"] (yb (K w.params))) :
  PySem.W.WalkO q loose XP YP l.row.toRowW d [] (fun f vs=>PySem.call f vs):=
 L2.CO (n:=63) (k:=8) (x:="script") (CX:=fun w=>nJ l.prog w) (sp:=fun w=>yb (K w.params)) hn (by decide) hdf hi ⟨rfl,by decide,by decide,rfl⟩ hY F (fun _ _ a ns hl _ hS=>⟨a,ns,rfl,hS,fun _ _=>rfl⟩) fun _ _ _ _ _ z=>by
  obtain⟨_,_,_,_,_,_,_,_,_,z⟩:=z
  exact z
end RO
namespace HD
noncomputable def vw:PySem.Program:=PySem.W.view PySem.Challenge.pw_rowsorder_k28_whole_sharp_turns_do [1,2,3,4,5,6,7,9,10,11,13,14,15,16,17,19,20,21,22,23,24,25,26,27,28,29,30,31,33,34,35,37,38,39,40,41,42,43,44,45,46]
theorem HG:PySem.Challenge.rw_rowsorder_k28_whole_sharp_turns_do.wellSaid=true:=by kernel_rfl
end HD
local macro_rules | `(tactic|o_head $H)=>`(tactic| (
 refine PySem.W.holds_open (q:=HD.vw) (loose:=[]) (Xt:=fun s=>PySem.W.xlAt HD.vw [] s && PySem.W.recOk (PySem.W.RowW.records _) s) (XP:=PySem.W.XL HD.vw []) (Yf:=PySem.W.Hook.obs $H) (Ya:=PySem.W.Hook.val $H) (YP:=PySem.W.Hook.says $H) (N:=3638) ?hl (PySem.W.Hook.of $H) (PySem.W.Hook.keeps $H) (fun s e=>PySem.W.xl_of s (Bool.and_eq_true_iff.mp e).1) PySem.W.XL.keeps (by rfl) (by rfl) (by rfl) (fun s e=>PySem.W.recFacts_of (Bool.and_eq_true_iff.mp e).2) (by rfl) (by first |assumption |decide +kernel) (by decide +kernel) ⟨rfl,rfl,rfl,rfl,rfl,by decide +kernel⟩ ?hw ?hc
 case hl=>exact HD.C1 (by kernel_rfl) (by kernel_rfl) (fun s=>by kernel_rfl) (fun w os=>by kernel_rfl)))
open PySem PySem.W PyProof.Rows L2
set_option maxRecDepth 100000 in
set_option maxHeartbeats 0 in
theorem PySem.Challenge.cw_rowsorder_k28_whole_sharp_turns_do_holds : PySem.Challenge.rw_rowsorder_k28_whole_sharp_turns_do.Holds := by
 w_on;(refine holds_law HD.HG fun HG=>?_);k_head;(case hw=>w_witness2)
 k_fill
 refine RO.walk (l:=PySem.Challenge.rw_rowsorder_k28_whole_sharp_turns_do) rfl rfl ?hi (fun w h Y=>PySem.W.kIn_of Y) ?F
 case hi=>kernel_rfl
 case F=>
  intro w mg fa h KX G hmg
  refine' RO.all_mk KX G hmg ?F1 ?F2 ?F3 ?F4 ?F5 ?F6 ?F7 ?F8 ?F9 ?F10 ?F11 ?F12 ?F13 ?F14 ?F15 ?F16 ?F17 ?F18 ?F19 ?F20 ?F21 ?F22 ?F23 ?F24 ?F25 ?F26 ?F27 ?F28 ?F29 ?F30 ?F31 ?F32 ?F33 ?F34 ?F35 ?F36 ?a37 ?l37 ?c37 ?k37 ?zB ?yMOST_THINGS ?m0 ?e0 ?m1 ?e1
  case F1=>refine' bF KX G RO.wK ?a ?l ?c ?k;(case a=>k_is);(case l=>k_is);(case c=>k_is);(case k=>k_is)
  case F2=>refine' bF KX G RO.xi ?a ?l ?c ?k;(case a=>k_is);(case l=>k_is);(case c=>k_is);(case k=>k_is)
  case F3=>refine' bF KX G RO.yw ?a ?l ?c ?k;(case a=>k_is);(case l=>k_is);(case c=>k_is);(case k=>k_is)
  case F4=>refine' bF KX G RO.zm ?a ?l ?c ?k;(case a=>k_is);(case l=>k_is);(case c=>k_is);(case k=>k_is)
  case F5=>refine' bF KX G RO.zl ?a ?l ?c ?k;(case a=>k_is);(case l=>k_is);(case c=>k_is);(case k=>k_is)
  case F6=>refine' bF KX G RO.sf ?a ?l ?c ?k;(case a=>k_is);(case l=>k_is);(case c=>k_is);(case k=>k_is)
  case F7=>refine' bF KX G RO.BP ?a ?l ?c ?k;(case a=>k_is);(case l=>k_is);(case c=>k_is);(case k=>k_is)
  case F8=>refine' bF KX G RO.wD ?a ?l ?c ?k;(case a=>k_is);(case l=>k_is);(case c=>k_is);(case k=>k_is)
  case F9=>refine' bF KX G RO.vU ?a ?l ?c ?k;(case a=>k_is);(case l=>k_is);(case c=>k_is);(case k=>k_is)
  case F10=>refine' bF KX G RO.sx ?a ?l ?c ?k;(case a=>k_is);(case l=>k_is);(case c=>k_is);(case k=>k_is)
  case F11=>refine' bF KX G RO.ue ?a ?l ?c ?k;(case a=>k_is);(case l=>k_is);(case c=>k_is);(case k=>k_is)
  case F12=>refine' bF KX G RO.Cr ?a ?l ?c ?k;(case a=>k_is);(case l=>k_is);(case c=>k_is);(case k=>k_is)
  case F13=>refine' bF KX G RO.ql ?a ?l ?c ?k;(case a=>k_is);(case l=>k_is);(case c=>k_is);(case k=>k_is)
  case F14=>refine' bF KX G RO.rO ?a ?l ?c ?k;(case a=>k_is);(case l=>k_is);(case c=>k_is);(case k=>k_is)
  case F15=>refine' bF KX G RO.qc ?a ?l ?c ?k;(case a=>k_is);(case l=>k_is);(case c=>k_is);(case k=>k_is)
  case F16=>refine' bF KX G RO.zb ?a ?l ?c ?k;(case a=>k_is);(case l=>k_is);(case c=>k_is);(case k=>k_is)
  case F17=>refine' bF KX G RO.p5 ?a ?l ?c ?k;(case a=>k_is);(case l=>k_is);(case c=>k_is);(case k=>k_is)
  case F18=>refine' bF KX G RO.uF ?a ?l ?c ?k;(case a=>k_is);(case l=>k_is);(case c=>k_is);(case k=>k_is)
  case F19=>refine' bF KX G RO.Bv ?a ?l ?c ?k;(case a=>k_is);(case l=>k_is);(case c=>k_is);(case k=>k_is)
  case F20=>refine' bF KX G RO.yU ?a ?l ?c ?k;(case a=>k_is);(case l=>k_is);(case c=>k_is);(case k=>k_is)
  case F21=>refine' bF KX G RO.pj ?a ?l ?c ?k;(case a=>k_is);(case l=>k_is);(case c=>k_is);(case k=>k_is)
  case F22=>refine' bF KX G RO.oU ?a ?l ?c ?k;(case a=>k_is);(case l=>k_is);(case c=>k_is);(case k=>k_is)
  case F23=>refine' bF KX G RO.wF ?a ?l ?c ?k;(case a=>k_is);(case l=>k_is);(case c=>k_is);(case k=>k_is)
  case F24=>refine' bF KX G RO.Gf ?a ?l ?c ?k;(case a=>k_is);(case l=>k_is);(case c=>k_is);(case k=>k_is)
  case F25=>refine' bF KX G RO.Dq ?a ?l ?c ?k;(case a=>k_is);(case l=>k_is);(case c=>k_is);(case k=>k_is)
  case F26=>refine' bF KX G RO.wX ?a ?l ?c ?k;(case a=>k_is);(case l=>k_is);(case c=>k_is);(case k=>k_is)
  case F27=>refine' bF KX G RO.pZ ?a ?l ?c ?k;(case a=>k_is);(case l=>k_is);(case c=>k_is);(case k=>k_is)
  case F28=>refine' bF KX G RO.vv ?a ?l ?c ?k;(case a=>k_is);(case l=>k_is);(case c=>k_is);(case k=>k_is)
  case F29=>refine' bF KX G RO.vF ?a ?l ?c ?k;(case a=>k_is);(case l=>k_is);(case c=>k_is);(case k=>k_is)
  case F30=>refine' bF KX G RO.wU ?a ?l ?c ?k;(case a=>k_is);(case l=>k_is);(case c=>k_is);(case k=>k_is)
  case F31=>refine' bF KX G RO.u9 ?a ?l ?c ?k;(case a=>k_is);(case l=>k_is);(case c=>k_is);(case k=>k_is)
  case F32=>refine' bF KX G RO.nF ?a ?l ?c ?k;(case a=>k_is);(case l=>k_is);(case c=>k_is);(case k=>k_is)
  case F33=>refine' bF KX G RO.p0 ?a ?l ?c ?k;(case a=>k_is);(case l=>k_is);(case c=>k_is);(case k=>k_is)
  case F34=>refine' bF KX G RO.sv ?a ?l ?c ?k;(case a=>k_is);(case l=>k_is);(case c=>k_is);(case k=>k_is)
  case F35=>refine' bF KX G RO.tP ?a ?l ?c ?k;(case a=>k_is);(case l=>k_is);(case c=>k_is);(case k=>k_is)
  case F36=>refine' bF KX G RO.sJ ?a ?l ?c ?k;(case a=>k_is);(case l=>k_is);(case c=>k_is);(case k=>k_is)
  case a37=>k_is
  case l37=>k_is
  case c37=>k_is
  case k37=>k_is
  case zB=>kernel_rfl
  case yMOST_THINGS=>k_is
  case m0=>k_is
  case e0=>kernel_rfl
  case m1=>k_is
  case e1=>kernel_rfl

end
