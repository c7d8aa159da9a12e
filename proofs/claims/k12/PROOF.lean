import PyProof.Rows.All
import Wide.All
import OpenK.AllK
import Wide.FinOn
import Lean
import PyProof.EqAt
import PyProof.EqKinds
import PyProof.TupleCall
import PySem.SetOps
import PyProof.SetKind
import PyProof.TupleKey
import PyProof.DictKinds
import PyProof.Rows.SetFrom
import PyProof.WalksMore
import KE.KSortTup
import PyProof.CollectWalk
import PyProof.ExcArgsOwn
import PyProof.Rows.CountFlat
import PyProof.Rows.SeqMore2
import PyProof.Rows.FStr
import PyProof.Rows.StrWeight2
import PyProof.Rows.StrNews
import PyProof.StrLawsTight
import PyProof.ExcBaseAll.ValueError
import PyProof.ZipIter
import PyProof.CallFns
import PyProof.Draws
import PyProof.EnumMake
import PyProof.SetRoads
import PyProof.Rows.SortWalk
import PyProof.SeqI3
import PyProof.Rows.SortShell
import PyProof.Rows.Range3
import KE.KStateDown
import PyProof.Rows.SumAny
import PyProof.ListRange
import PySem.Challenge.RW_rowsorder_k12_rows_that_tell
set_option Elab.async false
set_option linter.all false
set_option maxRecDepth 100000
set_option maxHeartbeats 1000000
section
set_option Elab.async false
namespace L2
open PySem PySem.Spec PyProof.Rows
abbrev Key:=Sum Int Str
def oq:Key->Value->Bool
 | .inl k,v=>Value.isInt k v
 | .inr x,v=>Value.isStrOf x v
def Ki (w:World):Key->Int
 | .inl k=>hashInt k
 | .inr x=>hashStr w x
theorem bC:∀{k:Key} {v:Value},oq k v=true->(∃i t,k=Sum.inl i/\v=Value.int i t)\/(∃x t,k=Sum.inr x/\v=Value.str x t)
 | .inl i,v,h=>by
  obtain⟨t,e⟩:=Value.isInt_shape (k:=i) (v:=v) h
  exact .inl ⟨i,t,rfl,e⟩
 | .inr x,v,h=>by
  obtain⟨t,e⟩:=Value.isStrOf_shape (x:=x) (v:=v) h
  exact .inr ⟨x,t,rfl,e⟩
theorem zx (i:Int)(t:Tok):oq (.inl i) (.int i t)=true:=by simp[oq,Value.isInt]
theorem zd (x:Str)(t:Tok):oq (.inr x) (.str x t)=true:=by simp[oq,Value.isStrOf]
theorem Gn (a b:Int):decide ((Sum.inl a:Key)=Sum.inl b)=(a == b):=by
 by_cases e:a=b
 ·subst e;simp
 ·have h:¬(Sum.inl a:Key)=Sum.inl b:=fun q=>e (Sum.inl.inj q)
  rw[decide_eq_false h]
  exact (beq_eq_false_iff_ne.mpr e).symm
theorem FO (a b:Str):decide ((Sum.inr a:Key)=Sum.inr b)=decide (a=b):=by
 by_cases e:a=b
 ·subst e;simp
 ·have h:¬(Sum.inr a:Key)=Sum.inr b:=fun q=>e (Sum.inr.inj q)
  rw[decide_eq_false h,decide_eq_false e]
theorem GB (a:Int)(b:Str):decide ((Sum.inl a:Key)=Sum.inr b)=false:=decide_eq_false (fun q=>nomatch q)
theorem FX (a:Str)(b:Int):decide ((Sum.inr a:Key)=Sum.inl b)=false:=decide_eq_false (fun q=>nomatch q)
def c4 (prog:Program)(w:World):PySem.KeyKind prog w Key where
 is:=oq
 hash:=Ki w
 inj:=fun v a b ha hb=>by
  rcases bC ha with⟨i,t,rfl,rfl⟩ | ⟨x,t,rfl,rfl⟩
  ·rcases bC hb with⟨j,u,rfl,e⟩ | ⟨y,u,rfl,e⟩
   ·injection e with e1 _;rw[e1]
   ·exact nomatch e
  ·rcases bC hb with⟨j,u,rfl,e⟩ | ⟨y,u,rfl,e⟩
   ·exact nomatch e
   ·injection e with e1 _;rw[e1]
 byValue:=fun k v h=>by
  rcases bC h with⟨i,t,rfl,rfl⟩ | ⟨x,t,rfl,rfl⟩ <;> rfl
 pyHash:=fun hv h=>by
  rcases bC hv with⟨i,t,rfl,rfl⟩ | ⟨x,t,rfl,rfl⟩
  ·exact wpAny_pyHash_int h
  ·exact wpAny_pyHash_str h
 eqBool:=fun hu hv h=>by
  rcases bC hu with⟨i,t,rfl,rfl⟩ | ⟨x,t,rfl,rfl⟩
  ·rcases bC hv with⟨j,u,rfl,rfl⟩ | ⟨y,u,rfl,rfl⟩
   ·rw[Gn] at h;exact wpAny_eqBool_int h
   ·rw[GB] at h;exact SeqAt.EqAt.int_str i t y u _ _ _ _ h
  ·rcases bC hv with⟨j,u,rfl,rfl⟩ | ⟨y,u,rfl,rfl⟩
   ·rw[FX] at h;exact SeqAt.EqAt.str_int x t j u _ _ _ _ h
   ·rw[FO] at h;exact wpAny_eqBool_str h
 «strs»:=fun k x t v h=>by
  rcases bC h with⟨i,u,rfl,e⟩ | ⟨y,u,rfl,e⟩
  ·exact nomatch e
  ·injection e with e1 _
   subst e1
   cases v <;> rfl
theorem tW (prog:Program)(w:World)(i:Int)(t:Tok):(c4 prog w).is (.inl i) (.int i t)=true:=zx i t
theorem tO (prog:Program)(w:World)(x:Str)(t:Tok):(c4 prog w).is (.inr x) (.str x t)=true:=zd x t
end L2
namespace L2
open PySem PySem.Spec PyProof.Rows
inductive V where
 |non |bl (b:Bool) |int (i:Int) |str (x:Str) |byt (b:Array UInt8) |flt (b:UInt64) |ref (a:Addr) |ty (n:String)
 deriving DecidableEq
def RelV:V->Value->Prop
 | .non,u=>u=Value.none
 | .bl b,u=>u=Value.bool b
 | .int i,u=>∃t,u=Value.int i t
 | .str x,u=>∃t,u=Value.str x t
 | .byt b,u=>∃t,u=Value.bytes b t
 | .flt b,u=>∃t,u=Value.float b t
 | .ref a,u=>u=Value.ref a
 | .ty n,u=>u=Value.type n
abbrev Vals:List V->List Value->Prop:=Paired RelV
theorem Vals.length {xs:List V}{us:List Value}(r:Vals xs us):xs.length=us.length:=Paired.length r
theorem Vals.get:∀{xs:List V} {us:List Value} {i:Nat} {x:V},Vals xs us->xs[i]? =some x->∃u,us[i]? =some u/\RelV x u
 |_,_,_,_,.nil,e=>by simp at e
 |_,_,0,_,.cons r _,e=>by simp at e;subst e;exact⟨_,rfl,r⟩
 |_,_,i + 1,x,.cons _ t,e=>by
  obtain⟨u,h1,h2⟩:=Vals.get (i:=i) (x:=x) t (by simpa using e)
  exact⟨u,by simpa using h1,h2⟩
theorem Vals.set {x:V}{u:Value}(r:RelV x u):∀{xs:List V} {us:List Value} (i:Nat),Vals xs us->Vals (xs.set i x) (us.set i u)
 |_,_,_,.nil=>.nil
 |_,_,0,.cons _ t=>.cons r t
 |_,_,i + 1,.cons q t=>.cons q (Vals.set r i t)
theorem Vals.append:∀{xs ys:List V} {us ws:List Value},Vals xs us->Vals ys ws->Vals (xs ++ ys) (us ++ ws)
 |_,_,_,_,.nil,s=>s
 |_,_,_,_,.cons r t,s=>.cons r (Vals.append t s)
theorem Vals.take:∀{xs:List V} {us:List Value} (n:Nat),Vals xs us->Vals (xs.take n) (us.take n)
 |_,_,0,_=>.nil
 |_,_,_ + 1,.nil=>.nil
 |_,_,n + 1,.cons r t=>.cons r (Vals.take n t)
theorem Vals.drop:∀{xs:List V} {us:List Value} (n:Nat),Vals xs us->Vals (xs.drop n) (us.drop n)
 |_,_,0,r=>r
 |_,_,_ + 1,.nil=>.nil
 |_,_,n + 1,.cons _ t=>Vals.drop n t
def Fp:Option V->Option Value->Prop
 |some v,some u=>RelV v u
 |none,none=>True
 |_,_=>False
def KV {κ:Type}:List (κ×V)->List (κ×Value)->Prop:=Paired fun (p:κ×V) (q:κ×Value)=>p.1=q.1/\RelV p.2 q.2
def kV:Key->V
 | .inl i=>.int i
 | .inr x=>.str x
inductive HO where
 |lst (xs:List V)
 |tup (xs:List V)
 |dK (kvs:List (Key×V)) |dT (kvs:List (List Key×V))
 |set (S:Int->Bool) (n:Nat)
 |ins (C dx:Addr) (fs:List (Str×V))
 |own (x:Addr)
 |xd (fs:List (Str×V))
 |met (f x:Addr)
 |cA (lo hi:Int)
 |a7 (o:Obj) (u:HO)
 |tbl (ps:Array Value)
 |ext (φ:Heap->Prop)
abbrev Hp:=Addr->Option HO
def upd (H:Hp)(a:Addr)(o:HO):Hp:=fun b=>if b=a then some o else H b
theorem aq {H:Hp}{a:Addr}{o:HO}:upd H a o a=some o:=by unfold upd;rw[if_pos rfl]
theorem ay {H:Hp}{a b:Addr}{o:HO}(h:b≠a):upd H a o b=H b:=by unfold upd;rw[if_neg h]
theorem DW {H:Hp}{a:Addr}{o u:HO}:upd (upd H a o) a u=upd H a u:=by
 funext b;unfold upd;split <;> rfl
theorem E9 {H:Hp}{a b:Addr}{o u:HO}(h:H a=some o)(h':H b=some u)(d:o≠u):a≠b:=by
 intro e;subst e;rw[h] at h';exact d (Option.some.inj h')
theorem aG {H:Hp}{a b:Addr}{o:HO}(h:H a=some o)(h':H b=none):a≠b:=by
 intro e;subst e;rw[h] at h';cases h'
section
variable (P:Program)(w:World)
def nE (h:Heap)(a:Addr)(items:Array Value):Prop:=∃o,h.get? a=some o/\o.cls=.type "tuple"/\∃n,o.data=.seq items n/\o.dict=none
theorem nE.isTup {h:Heap}{a:Addr}{items:Array Value}(x:nE h a items):IsTup h a items:=let ⟨o,e,c,n,d,_⟩:=x;⟨o,e,c,n,d⟩
theorem nE.new (h:Heap)(items:Array Value):nE (h.push {cls:=.type "tuple",data:=.seq items}) h.objs.size items:=⟨_,Heap.get?_push_size _ rfl,rfl,_,rfl,rfl⟩
def bw (H:Hp)(h:Heap)(a:Addr):HO->Prop
 | .lst xs=>xs.length<=sizeLine/\∃(its:List Value) (n:Nat),Vals xs its/\h.get? a=some {cls:=.type "list",data:=.seq its.toArray n}
 | .tup xs=>xs.length<=sizeLine/\∃its:List Value,Vals xs its/\nE h a its.toArray
 | .dK kvs=>kvs.length<=sizeLine/\(a == sysModules)=false/\∃vs,KV kvs vs/\h.DictOf (c4 P w) a vs
 | .dT kvs=>kvs.length<=sizeLine/\(a == sysModules)=false/\∃xs:List (List Key×Addr×Value),
   Paired (fun (p:List Key×V) (q:List Key×Addr×Value)=>p.1=q.1/\H q.2.1=some (.tup (p.1.map kV))/\RelV p.2 q.2.2) kvs xs/\
   ∃o es ep,h.get? a=some o/\o.ExactDict/\o.data=.dict es ep/\es.toList=xs.map (entryOfKey (tupleKind (c4 P w)))/\(xs.map (·.1)).Nodup
 | .set S n=>h.SetOf (intKind P w) a S n
 | .ins C dx fs=>H dx=some (.own a)/\fs.length<=1000/\dx≠a/\h.get? a=some (PySem.W.instObj C dx)/\
   ∃mA,h.Ns1 dx mA/\(∀f,Fp (fs.lookup f) (mA f))/\PySem.Within mA (fs.map (·.1))
 | .own _=>∃o,h.get? a=some o
 | .xd fs=>∃mA,h.Ns1 a mA/\∀f,Fp (fs.lookup f) (mA f)
 | .cA lo hi=>∃t u v,h.get? a=some {cls:=.type "range",data:=.fields #[.int lo t,.int hi u,.int 1 v]}
 | .a7 o u=>h.get? a=some o/\bw H h a u
 | .tbl ps=>h.get? a=some {cls:=.none,data:=.fields ps}
 | .met f x=>h.get? a=some (PySem.W.methodObj (.ref f) (.ref x))
 | .ext φ=>φ h/\(∃o,h.get? a=some o)/\∀h1 h2:Heap,φ h1->(∀o,h1.get? a=some o->h2.get? a=some o)->φ h2
def kf (H:Hp)(h:Heap):Prop:=∀a o,H a=some o->bw P w H h a o
end
section
variable {P:Program}{w:World}{H H':Hp}{h h':Heap}{a:Addr}{o:HO}
theorem bw.lt (x:bw P w H h a o):a < h.objs.size:=by
 cases o with
 |lst xs=>obtain⟨_,_,_,_,e⟩:=x;exact Heap.lt_size e
 |tup xs=>obtain⟨_,_,_,p⟩:=x;exact p.isTup.lt
 |dK kvs=>obtain⟨_,_,_,_,o,_,_,e,_⟩:=x;exact Heap.lt_size e
 |dT kvs=>obtain⟨_,_,_,_,o,_,_,e,_⟩:=x;exact Heap.lt_size e
 |set S n=>obtain⟨o,_,_,_,e,_⟩:=x;exact Heap.lt_size e
 |ins C dx fs=>obtain⟨_,_,_,e,_⟩:=x;exact Heap.lt_size e
 |own y=>obtain⟨_,e⟩:=x;exact Heap.lt_size e
 |xd fs=>obtain⟨_,⟨_,_,_,e,_⟩,_⟩:=x;exact Heap.lt_size e
 |cA lo hi=>obtain⟨_,_,_,e⟩:=x;exact Heap.lt_size e
 |a7 ob u=>obtain⟨e,_⟩:=x;exact Heap.lt_size e
 |tbl ps=>exact Heap.lt_size (show h.get? a=some _ from x)
 |met f y=>exact Heap.lt_size (show h.get? a=some _ from x)
 |ext φ=>obtain⟨_,⟨_,e⟩,_⟩:=x;exact Heap.lt_size e
theorem Paired.mapP {α β:Type}{F G:α->β->Prop}:∀{l₁:List α} {l₂:List β},Paired F l₁ l₂->(∀a b,F a b->G a b)->Paired G l₁ l₂
 |_,_,.nil,_=>.nil
 |_,_,.cons r t,f=>.cons (f _ _ r) (Paired.mapP t f)
theorem bw.stay (x:bw P w H h a o)(k:∀b u,(b=a\/H b=some (.own a))->h.get? b=some u->h'.get? b=some u)
  (ho:∀b,H b=some (.own a)->H' b=some (.own a)) (ht:∀b xs,H b=some (.tup xs)->H' b=some (.tup xs)):bw P w H' h' a o:=by
 induction o with
 |lst xs=>obtain⟨z,its,n,r,e⟩:=x;exact⟨z,its,n,r,k _ _ (.inl rfl) e⟩
 |tup xs=>obtain⟨z,its,r,ob,e,c⟩:=x;exact⟨z,its,r,ob,k _ _ (.inl rfl) e,c⟩
 |dK kvs=>obtain⟨z,y,vs,r,ob,es,ep,e,c⟩:=x;exact⟨z,y,vs,r,ob,es,ep,k _ _ (.inl rfl) e,c⟩
 |dT kvs=>
  obtain⟨z,y,xs,r,ob,es,ep,e,c⟩:=x
  exact⟨z,y,xs,Paired.mapP r fun p q z=>⟨z.1,ht _ _ z.2.1,z.2.2⟩,ob,es,ep,k _ _ (.inl rfl) e,c⟩
 |set S n=>obtain⟨ob,es,ep,t,e,c⟩:=x;exact⟨ob,es,ep,t,k _ _ (.inl rfl) e,c⟩
 |ins C dx fs=>
  obtain⟨d,z,ne,e,mA,⟨od,es,ep,e2,c⟩,r⟩:=x
  exact⟨ho _ d,z,ne,k _ _ (.inl rfl) e,mA,⟨od,es,ep,k _ _ (.inr d) e2,c⟩,r⟩
 |own y=>obtain⟨ob,e⟩:=x;exact⟨ob,k _ _ (.inl rfl) e⟩
 |xd fs=>obtain⟨mA,⟨od,es,ep,e,c⟩,r⟩:=x;exact⟨mA,⟨od,es,ep,k _ _ (.inl rfl) e,c⟩,r⟩
 |cA lo hi=>obtain⟨t,u,v,e⟩:=x;exact⟨t,u,v,k _ _ (.inl rfl) e⟩
 |a7 ob u ih=>obtain⟨e,q⟩:=x;exact⟨k _ _ (.inl rfl) e,ih q⟩
 |tbl ps=>
  have e:h.get? a=some {cls:=.none,data:=.fields ps}:=x
  show h'.get? a=some {cls:=.none,data:=.fields ps}
  exact k a _ (.inl rfl) e
 |met f y=>
  have e:h.get? a=some (PySem.W.methodObj (.ref f) (.ref y)):=x
  show h'.get? a=some (PySem.W.methodObj (.ref f) (.ref y))
  exact k a _ (.inl rfl) e
 |ext φ=>obtain⟨p,⟨o,e⟩,st⟩:=x;exact⟨st _ _ p fun o q=>k _ _ (.inl rfl) q,⟨o,k _ _ (.inl rfl) e⟩,st⟩
theorem kf.lt (x:kf P w H h)(e:H a=some o):a < h.objs.size:=(x a o e).lt
theorem kf.fresh (x:kf P w H h)(e:h.objs.size<=a):H a=none:=by
 cases q:H a with
 |none=>rfl
 |some u=>exact absurd (Nat.lt_of_lt_of_le (x.lt q) e) (Nat.lt_irrefl _)
theorem kf.kept (x:kf P w H h)(k:∀b u,h.get? b=some u->h'.get? b=some u):kf P w H h':=fun a o e=>
 (x a o e).stay (fun b u _ q=>k b u q) (fun _ q=>q) fun _ _ q=>q
theorem kf.laid (x:kf P w H h)(k:∀b u,h.get? b=some u->h'.get? b=some u)(hp:h.objs.size<=a)(new:bw P w (upd H a o) h' a o):kf P w (upd H a o) h':=fun b u e=>by
 have hn:=x.fresh hp
 by_cases hb:b=a
 ·subst hb;rw[aq] at e;cases e;exact new
 ·rw[ay hb] at e
  exact (x b u e).stay (fun c v _ q=>k c v q) (fun c q=>by rw[ay (aG q hn)];exact q) fun c xs q=>by rw[ay (aG q hn)];exact q
end
def Rd (H:Hp)(a:Addr)(u:HO):Prop:=H a=some u\/∃o,H a=some (.a7 o u)
theorem Rd.ok {P:Program}{w:World}{H:Hp}{h:Heap}{a:Addr}{u:HO}(r:Rd H a u)(x:kf P w H h):bw P w H h a u:=by
 rcases r with r | ⟨o,r⟩
 ·exact x a u r
 ·obtain⟨_,q⟩:=x a _ r
  exact q
def IH:Option HO->Prop
 |some (.lst _)=>True
 |some (.dK _)=>True
 |some (.dT _)=>True
 |some (.set _ _)=>True
 |some (.ins _ _ _)=>True
 |some (.ext _)=>True
 |_=>False
section
variable {P:Program}{w:World}{H:Hp}{h h':Heap}{x e:Addr}{o':HO}
theorem kf.write (ok:kf P w H h)(mu:IH (H x))(he:e=x\/H e=some (.own x))(k:∀b u,b≠e->h.get? b=some u->h'.get? b=some u)(heo:∃u,h'.get? e=some u)
  (new:bw P w (upd H x o') h' x o'):kf P w (upd H x o') h':=fun b u q=>by
 have nown:∀c y,H c=some (.own y)->c≠x:=fun c y r z=>by subst z;rw[r] at mu;exact mu
 have ntup:∀c xs,H c=some (.tup xs)->c≠x:=fun c xs r z=>by subst z;rw[r] at mu;exact mu
 by_cases hb:b=x
 ·subst hb;rw[aq] at q;cases q;exact new
 ·rw[ay hb] at q
  by_cases hbe:b=e
  ·have q':H b=some (.own x):=by
    rcases he with z |z
    ·exact absurd (hbe.trans z) hb
    ·rw[hbe];exact z
   rw[q] at q';cases q'
   obtain⟨v,hv⟩:=heo
   exact⟨v,by rw[hbe];exact hv⟩
  ·refine (ok b u q).stay (fun c v hc r=>k c v ?_ r) (fun c r=>by rw[ay (nown c b r)];exact r) fun c xs r=>by rw[ay (ntup c xs r)];exact r
   rcases hc with rfl |hc
   ·exact hbe
   ·rintro rfl
    rcases he with z |z
    ·exact nown c b hc z
    ·rw[hc] at z;cases z;exact hb rfl
end
structure Un (fs ex:List Addr)(H H':Hp)(h h':Heap):Prop where
 keep:∀b o,h.get? b=some o->H b=none->b∉fs->b∉ex->h'.get? b=some o
 slot:∀b o,h.get? b=some o->H b=none->b∈fs->b∉ex->∃sl,h'.get? b=some {o with slots:=sl}
 free:∀b o,h.get? b=some o->H b=none->b∉ex->H' b=none
 there:∀b o,h.get? b=some o->b∉ex->∃o',h'.get? b=some o'
 tups:∀b xs,H b=some (.tup xs)->H' b=some (.tup xs)
 frzs:∀b o u,H b=some (.a7 o u)->H' b=some (.a7 o u)
 tbls:∀b ps,H b=some (.tbl ps)->∃more,H' b=some (.tbl (ps ++ more))
section
variable {fs fs' ex ex':List Addr}{H H1 H2:Hp}{h h1 h2 h':Heap}{a x e:Addr}{o:HO}
theorem Un.any (u:Un fs ex H H1 h h1){b:Addr}{ob:Obj}(q:h.get? b=some ob)(n:H b=none)(hx:b∉ex):∃sl,h1.get? b=some {ob with slots:=sl}:=by
 by_cases hb:b∈fs
 ·exact u.slot b ob q n hb hx
 ·exact⟨ob.slots,u.keep b ob q n hb hx⟩
theorem Un.kept (k:∀b u,h.get? b=some u->h'.get? b=some u):Un fs ex H H h h':=
 ⟨fun b ob q _ _ _=>k b ob q,fun b ob q _ _ _=>⟨ob.slots,k b ob q⟩,fun _ _ _ n _=>n,fun b ob q _=>⟨ob,k b ob q⟩,fun _ _ q=>q,fun _ _ _ q=>q,fun _ ps q=>⟨#[],by rw[q];simp⟩⟩
theorem Un.refl:Un fs ex H H h h:=Un.kept fun _ _ q=>q
theorem Un.laid (k:∀b u,h.get? b=some u->h'.get? b=some u)(hp:h.objs.size<=a)(hn:H a=none):Un fs ex H (upd H a o) h h' where
 keep:=fun b u q _ _ _=>k b u q
 slot:=fun b u q _ _ _=>⟨u.slots,k b u q⟩
 free:=fun b u q n _=>by rw[ay (Nat.ne_of_lt (Nat.lt_of_lt_of_le (Heap.lt_size q) hp))];exact n
 there:=fun b u q _=>⟨u,k b u q⟩
 tups:=fun b xs q=>by rw[ay (aG q hn)];exact q
 frzs:=fun b u xs q=>by rw[ay (aG q hn)];exact q
 tbls:=fun b ps q=>⟨#[],by rw[ay (aG q hn),q];simp⟩
theorem Un.write (mu:IH (H x))(he:e=x\/H e=some (.own x))(k:∀b u,b≠e->h.get? b=some u->h'.get? b=some u)(heo:∃u,h'.get? e=some u):Un fs ex H (upd H x o) h h':=by
 have hx:∀b,H b=none->b≠x:=fun b n z=>by subst z;rw[n] at mu;exact mu
 have hb:∀b,H b=none->b≠e:=fun b n z=>by
  subst z
  rcases he with r |r
  ·exact hx b n r
  ·rw[n] at r;cases r
 have hm:∀b u,H b=some u->¬IH (some u)->b≠x:=fun b u q nm z=>by subst z;rw[q] at mu;exact nm mu
 refine⟨fun b u q n _ _=>k b u (hb b n) q,fun b u q n _ _=>⟨u.slots,k b u (hb b n) q⟩,fun b u q n _=>by rw[ay (hx b n)];exact n,fun b u q _=>?_,
  fun b xs q=>by rw[ay (hm b _ q fun z=>z)];exact q,fun b u xs q=>by rw[ay (hm b _ q fun z=>z)];exact q,fun b ps q=>⟨#[],by rw[ay (hm b _ q fun z=>z),q];simp⟩⟩
 by_cases hbe:b=e
 ·subst hbe;exact heo
 ·exact⟨u,k b u hbe q⟩
end
def JD (h:Heap)(H:Hp):List Addr:=(List.range h.objs.size).filter fun a=>(H a).isSome
def rP (h:Heap)(H:Hp):Heap:=PySem.W.hideAll h (JD h H)
theorem yZ (h:Heap)(H:Hp):(rP h H).objs.size=h.objs.size:=PySem.W.hideAll_size _ _
theorem Cu {h:Heap}{H:Hp}{b:Addr}{o:Obj}(e:h.get? b=some o)(n:H b=none):(rP h H).get? b=some o:=
 PySem.W.hideAll_get _ e fun hm=>by
  have q:(H b).isSome=true:=(List.mem_filter.mp hm).2
  rw[n] at q;simp at q
theorem Ef {h:Heap}{H:Hp}{b:Addr}{o:Obj}(e:(rP h H).get? b=some o):h.get? b=some o/\H b=none:=by
 have e':h.get? b=some o:=PySem.W.of_hideAll (JD h H) e
 refine⟨e',?_⟩
 cases q:H b with
 |none=>rfl
 |some x=>
  have hm:b∈JD h H:=List.mem_filter.mpr ⟨List.mem_range.mpr (Heap.lt_size e'),by simp[q]⟩
  have z:(rP h H).get? b=none:=PySem.W.hideAll_none (JD h H) hm
  rw[z] at e;cases e
def DI (g h:Heap)(L:Addr):List (Addr×Obj):=(List.range h.objs.size).filterMap fun a=>if a=L\/(g.get? a).isSome=true then none else (h.get? a).map fun o=>(a,o)
def rest (g h:Heap)(L d:Addr):List (Addr×Obj):=(DI g h L).filter fun p=>decide (p.1≠d)
end L2
namespace L2
open PySem PySem.Spec PyProof.Rows
structure Mod (K:PySem.W.Frag)(mg:Str->Option Value)(base:Heap):Prop where
 kin:K.In base
 glob:base.Ns mainGlobals mg
 blt:∃mb,base.Ns builtinsNs mb/\∀x:Str,x≠"__name__"->mb x=bootBuiltins x
 nolimit:base.NoLimit
 sys:∃mm,base.Ns sysModules mm
structure Cx where
 prog:Program
 w:World
 K:PySem.W.Frag
 mg:Str->Option Value
 base:Heap
 A:Around
 N:List Str
 s₀:Shared
 H₀:Hp
 env:Env
 outer:List Env
 stack:List Env
 ex:List Addr
 fn:Str->Bool
 calm:Bool
 pn:List (Addr×Obj)
 xe:Value->Shared->Prop
def iB (l:List Env):List Addr:=l.filterMap (·.frame)
abbrev Cx.fs (X:Cx):List Addr:=iB X.outer
def v7 (sc:Scope)(x:Str):Prop:=sc.names.lookup x=some .local\/sc.names.lookup x=some .cell\/sc.names.lookup x=some .free
def Loc (sc:Scope)(x:Str):Prop:=sc.names.lookup x=some .local\/sc.names.lookup x=some .cell
def Look (env:Env)(h:Heap)(m:Str->Option Value)(x:Str)(u:Value):Prop:=
 (env.kindOf x=some .local/\m x=some u)\/((env.kindOf x=some .cell\/env.kindOf x=some .free)/\∃c,env.cells.lookup x=some c/\h.IsCell c (some u))
structure Cx.Ok (X:Cx):Prop where
 mod:Mod X.K X.mg X.base
 kind:X.env.scope.kind=.function
 glob:X.env.globals=mainGlobals
 blt:X.env.builtins=builtinsNs
 above:X.s₀.heap.objs.size<=X.env.locals
 inj:∀x y c,X.env.cells.lookup x=some c->X.env.cells.lookup y=some c->x=y
 has:∀x,(X.env.kindOf x=some .cell\/X.env.kindOf x=some .free)->∃c,X.env.cells.lookup x=some c
 cab:∀x c,X.fn x=true->X.env.cells.lookup x=some c->X.s₀.heap.objs.size<=c
 hd:X.calm=true->X.A.handled=none
 frames:X.A.frames=some X.stack
 stk:X.stack=X.outer\/(X.stack=X.env :: X.outer/\X.env.frame=some X.env.locals)
 exf:∀b∈X.ex,b≠X.env.locals/\∀x c,X.env.cells.lookup x=some c->c≠b
 bs:∀b o,X.base.get? b=some o->X.s₀.heap.get? b=some o/\X.H₀ b=none
 bsz:X.base.objs.size<=X.s₀.heap.objs.size
 noex:∀b o,X.base.get? b=some o->b∉X.ex
 exfs:∀b∈X.ex,b∉X.fs
 funs:X.s₀.heap.FunFrames X.base X.outer
 frf:∀b∈X.fs,X.H₀ b=none
structure Inv (X:Cx)(pins:List (Addr×Obj))(σ:List (Option V))(H:Hp)(s:Shared):Prop where
 ok:X.Ok
 os:s.os=X.s₀.os
 bare:AllBare s.gens
 base:Un X.fs X.ex X.H₀ H X.s₀.heap s.heap
 loc:∃m,s.heap.Ns X.env.locals m/\∀(i:Nat) (x:Str) (v:V),X.N[i]? =some x->σ[i]? =some (some v)->v7 X.env.scope x->∃u,RelV v u/\Look X.env s.heap m x u
 cell:∀x c,X.env.cells.lookup x=some c->∃v,s.heap.IsCell c v
 free:H X.env.locals=none
 freeC:∀x c,X.env.cells.lookup x=some c->H c=none
 pin:∀p∈X.pn ++ pins,s.heap.get? p.1=some p.2/\H p.1=none/\p.1≠X.env.locals/\p.1∉X.fs/\∀v,p.2.data≠.cell v
 hok:kf X.prog X.w H s.heap
 len:σ.length=X.N.length
section
variable {X:Cx}{pins:List (Addr×Obj)}{σ:List (Option V)}{H H':Hp}{s:Shared}{h':Heap}
theorem Cx.Ok.nofr (ok:X.Ok){b:Addr}{o:Obj}(e:X.base.get? b=some o):b∉X.fs:=fun hb=>by
 have:=(ok.funs.mem hb).1
 rw[e] at this;cases this
theorem Inv.bs (I:Inv X pins σ H s):∀b o,X.base.get? b=some o->s.heap.get? b=some o/\H b=none:=fun b o e=>
 ⟨I.base.keep b o (I.ok.bs b o e).1 (I.ok.bs b o e).2 (I.ok.nofr e) (I.ok.noex b o e),I.base.free b o (I.ok.bs b o e).1 (I.ok.bs b o e).2 (I.ok.noex b o e)⟩
theorem Inv.bk (I:Inv X pins σ H s):∀b o,X.base.get? b=some o->s.heap.get? b=some o:=fun b o e=>(I.bs b o e).1
theorem Inv.mod (I:Inv X pins σ H s):Mod X.K X.mg X.base:=I.ok.mod
theorem Inv.kIn (I:Inv X pins σ H s):X.K.In s.heap:=I.ok.mod.kin.keeps I.bk
theorem Inv.lt (I:Inv X pins σ H s):X.env.locals < s.heap.objs.size:=let ⟨_,hn,_⟩:=I.loc;hn.lt
theorem Inv.sz (I:Inv X pins σ H s):X.s₀.heap.objs.size<=s.heap.objs.size:=Nat.le_trans I.ok.above (Nat.le_of_lt I.lt)
theorem Inv.nofs (I:Inv X pins σ H s){a:Addr}(h:s.heap.objs.size<=a):a∉X.fs:=fun hb=>by
 obtain⟨_,o,ho,_⟩:=I.ok.funs.mem hb
 exact absurd (Nat.lt_of_lt_of_le (Heap.lt_size ho) (Nat.le_trans I.sz h)) (Nat.lt_irrefl _)
theorem Inv.cne (I:Inv X pins σ H s):∀x c,X.env.cells.lookup x=some c->c≠X.env.locals:=fun x c e z=>by
 obtain⟨v,o,ho,hd⟩:=I.cell x c e
 obtain⟨m,⟨o',es,ep,ho',hd',_⟩,_⟩:=I.loc
 rw[z,ho'] at ho;cases ho;rw[hd'] at hd;cases hd
theorem Inv.funs (I:Inv X pins σ H s):s.heap.FunFrames X.base X.outer:=by
 have all:∀(l:List Env),(∀b∈iB l,b∈X.fs)->X.s₀.heap.FunFrames X.base l->s.heap.FunFrames X.base l:=by
  intro l
  induction l with
  |nil=>intro _ _;trivial
  |cons env r ih=>
   intro hs hl
   obtain⟨hk,⟨L,o,hf,hn,ho,hd⟩,hr⟩:=hl
   have hL:L∈X.fs:=hs L (by unfold iB;rw[List.filterMap_cons,hf];exact List.mem_cons_self)
   obtain⟨sl,e⟩:=I.base.slot L o ho (I.ok.frf L hL) hL fun z=>I.ok.exfs L z hL
   exact⟨hk,⟨L,_,hf,hn,e,hd⟩,ih (fun b hb=>hs b (by unfold iB;rw[List.filterMap_cons,hf];exact List.mem_cons_of_mem _ hb)) hr⟩
 exact all X.outer (fun _ hb=>hb) I.ok.funs
theorem Inv.stack (I:Inv X pins σ H s):s.heap.FunFrames X.base X.stack:=by
 rcases I.ok.stk with e | ⟨e,hf⟩
 ·rw[e];exact I.funs
 ·rw[e]
  obtain⟨m,hn,_⟩:=I.loc
  refine .cons (by rw[I.ok.kind];decide) hf hn ?_ I.funs
  exact Heap.get?_none_of_le (Nat.le_trans I.ok.bsz I.ok.above)
theorem Inv.stkSub (I:Inv X pins σ H s):∀b∈iB X.stack,b∈X.env.locals :: X.fs:=fun b hb=>by
 rcases I.ok.stk with e | ⟨e,hf⟩
 ·rw[e] at hb;exact List.mem_cons_of_mem _ hb
 ·rw[e] at hb
  unfold iB at hb
  rw[List.filterMap_cons,hf] at hb
  exact hb
theorem Inv.stkFree (I:Inv X pins σ H s):∀b∈iB X.stack,H b=none:=fun b hb=>by
 rcases List.mem_cons.mp (I.stkSub b hb) with e |hb
 ·rw[e];exact I.free
 ·obtain⟨_,o,ho,_⟩:=I.ok.funs.mem hb
  exact I.base.free b o ho (I.ok.frf b hb) fun z=>I.ok.exfs b z hb
theorem Inv.step {g':Array GenState}{t':Nat}{d':Drawn}{ch:List Addr}(I:Inv X pins σ H s)
  (hch:∀b∈ch,(b∈X.ex\/X.s₀.heap.objs.size<=b)/\b≠X.env.locals/\(∀x c,X.env.cells.lookup x=some c->c≠b)/\∀p∈X.pn ++ pins,p.1≠b)
  (keep:∀b o,b≠X.env.locals->b∉X.fs->b∉ch->s.heap.get? b=some o->H b=none->h'.get? b=some o)
  (slot:∀b o,b≠X.env.locals->b∈X.fs->b∉ch->s.heap.get? b=some o->H b=none->∃sl,h'.get? b=some {o with slots:=sl}) (free:∀b o,b∉ch->s.heap.get? b=some o->H b=none->H' b=none)
  (there:∀b o,b∉ch->s.heap.get? b=some o->∃o',h'.get? b=some o')
  (tups:∀b xs,H b=some (.tup xs)->H' b=some (.tup xs)) (frzs:∀b o u,H b=some (.a7 o u)->H' b=some (.a7 o u)) (tbls:∀b ps,H b=some (.tbl ps)->∃more,H' b=some (.tbl (ps ++ more)))
  (ns:∀m,s.heap.Ns X.env.locals m->h'.Ns X.env.locals m) (hok:kf X.prog X.w H' h') (hg:AllBare g') :
  Inv X pins σ H' {s with heap:=h',gens:=g',drawn:=d',toks:=t'}:=by
 have neL:∀b o,X.s₀.heap.get? b=some o->b≠X.env.locals:=fun b o e=>Nat.ne_of_lt (Nat.lt_of_lt_of_le (Heap.lt_size e) I.ok.above)
 have neC:∀b o,X.s₀.heap.get? b=some o->b∉X.ex->b∉ch:=fun b o e hx hb=>by
  rcases (hch b hb).1 with z |z
  ·exact hx z
  ·exact absurd (Nat.lt_of_lt_of_le (Heap.lt_size e) z) (Nat.lt_irrefl _)
 have cellK:∀x c,X.env.cells.lookup x=some c->∀v,s.heap.IsCell c v->h'.IsCell c v:=fun x c e v ⟨o,ho,hd⟩=>by
  have nch:c∉ch:=fun z=>(hch c z).2.2.1 x c e rfl
  by_cases hc:c∈X.fs
  ·obtain⟨sl,q⟩:=slot c o (I.cne x c e) hc nch ho (I.freeC x c e)
   exact⟨_,q,hd⟩
  ·exact⟨o,keep c o (I.cne x c e) hc nch ho (I.freeC x c e),hd⟩
 refine⟨I.ok,I.os,hg,⟨fun b o e n hb hx=>?_,fun b o e n hb hx=>?_,fun b o e n hx=>?_,fun b o e hx=>?_,fun b xs e=>tups b xs (I.base.tups b xs e),fun b o xs e=>frzs b o xs (I.base.frzs b o xs e),fun b ps e=>?_⟩,?_,fun x c e=>?_,?_,fun x c e=>?_,fun p hp=>?_,hok,I.len⟩
 ·exact keep b o (neL b o e) hb (neC b o e hx) (I.base.keep b o e n hb hx) (I.base.free b o e n hx)
 ·obtain⟨sl,e1⟩:=I.base.slot b o e n hb hx
  obtain⟨sl',e2⟩:=slot b _ (neL b o e) hb (neC b o e hx) e1 (I.base.free b o e n hx)
  exact⟨sl',e2⟩
 ·obtain⟨o',e1⟩:=I.base.there b o e hx
  exact free b o' (neC b o e hx) e1 (I.base.free b o e n hx)
 ·obtain⟨o',e1⟩:=I.base.there b o e hx
  exact there b o' (neC b o e hx) e1
 ·obtain⟨m1,e1⟩:=I.base.tbls b ps e
  obtain⟨m2,e2⟩:=tbls b _ e1
  exact⟨m1 ++ m2,by rw[e2,Array.append_assoc]⟩
 ·obtain⟨m,hn,hl⟩:=I.loc
  refine⟨m,ns m hn,fun i x v e1 e2 e3=>?_⟩
  obtain⟨u,r,l⟩:=hl i x v e1 e2 e3
  refine⟨u,r,?_⟩
  rcases l with l | ⟨k,c,e,z⟩
  ·exact .inl l
  ·exact .inr ⟨k,c,e,cellK x c e _ z⟩
 ·obtain⟨v,z⟩:=I.cell x c e
  exact⟨v,cellK x c e v z⟩
 ·obtain⟨m,⟨o,_,_,ho,_⟩,_⟩:=I.loc
  exact free _ o (fun z=>(hch _ z).2.1 rfl) ho I.free
 ·obtain⟨v,o,ho,hd⟩:=I.cell x c e
  exact free c o (fun z=>(hch c z).2.2.1 x c e rfl) ho (I.freeC x c e)
 ·obtain⟨e,n,ne,nf,d⟩:=I.pin p hp
  have nch:p.1∉ch:=fun z=>(hch p.1 z).2.2.2 p hp rfl
  exact⟨keep p.1 p.2 ne nf nch e n,free p.1 p.2 nch e n,ne,nf,d⟩
theorem Inv.un {t':Nat}(I:Inv X pins σ H s)(u:Un X.fs [] H H' s.heap h')(hok:kf X.prog X.w H' h'):Inv X pins σ H' {s with heap:=h',toks:=t'}:=by
 obtain⟨m,⟨o,es,ep,ho,r⟩,_⟩:=id I.loc
 obtain⟨sl,hL⟩:=u.any ho I.free (by simp)
 exact I.step (g':=s.gens) (d':=s.drawn) (ch:=[]) (fun _ z=>nomatch z) (fun b o _ hb _ e n=>u.keep b o e n hb (by simp)) (fun b o _ hb _ e n=>u.slot b o e n hb (by simp)) (fun b o _ e n=>u.free b o e n (by simp)) (fun b o _ e=>u.there b o e (by simp)) u.tups u.frzs u.tbls (fun m' hm=>by
  obtain⟨o',es',ep',ho',r'⟩:=hm
  rw[ho] at ho';cases ho'
  exact⟨_,es',ep',hL,r'⟩) hok I.bare
theorem Inv.call {g':Array GenState}{t':Nat}{d':Drawn}{ch:List Addr}(I:Inv X pins σ H s)(u:Un (iB X.stack) ch H H' s.heap h')(hok:kf X.prog X.w H' h')(hg:AllBare g')
  (hch:∀b∈ch,(b∈X.ex\/X.s₀.heap.objs.size<=b)/\b≠X.env.locals/\(∀x c,X.env.cells.lookup x=some c->c≠b)/\∀p∈X.pn ++ pins,p.1≠b) :
  Inv X pins σ H' {s with heap:=h',gens:=g',drawn:=d',toks:=t'}:=by
 obtain⟨m,⟨o,es,ep,ho,r⟩,_⟩:=id I.loc
 obtain⟨sl,hL⟩:=u.any ho I.free fun z=>(hch _ z).2.1 rfl
 exact I.step (ch:=ch) hch (fun b o hL hb hc e n=>u.keep b o e n (fun z=>(List.mem_cons.mp (I.stkSub b z)).elim hL hb) hc) (fun b o _ _ hc e n=>u.any e n hc) (fun b o hc e n=>u.free b o e n hc) (fun b o hc e=>u.there b o e hc) u.tups u.frzs u.tbls (fun m' hm=>by
  obtain⟨o',es',ep',ho',r'⟩:=hm
  rw[ho] at ho';cases ho'
  exact⟨_,es',ep',hL,r'⟩) hok hg
theorem Inv.turned {t':Nat}{it:Addr}(I:Inv X pins σ H s)(k:∀b o,b≠it->s.heap.get? b=some o->h'.get? b=some o)(hn:H it=none)(hL:it≠X.env.locals)
  (h1:it∈X.ex\/X.s₀.heap.objs.size<=it) (h2:∀x c,X.env.cells.lookup x=some c->c≠it) (h3:∀p∈X.pn ++ pins,p.1≠it):Inv X pins σ H {s with heap:=h',toks:=t'}:=by
 have nit:∀b u,H b=some u->b≠it:=fun b u e z=>by rw[z,hn] at e;cases e
 refine I.step (g':=s.gens) (d':=s.drawn) (ch:=[it]) (fun b hb=>?_) (fun b o _ _ hc e _=>k b o (fun z=>hc (by simp[z])) e) (fun b o _ _ hc e _=>⟨o.slots,k b o (fun z=>hc (by simp[z])) e⟩) (fun _ _ _ _ n=>n)
  (fun b o hc e=>⟨o,k b o (fun z=>hc (by simp[z])) e⟩) (fun _ _ e=>e) (fun _ _ _ e=>e) (fun b ps e=>⟨#[],by rw[e];simp⟩) (fun m hm=>?_) (fun b u e=>?_) I.bare
 ·have e:b=it:=by simpa using hb
  subst e
  exact⟨h1,hL,h2,h3⟩
 ·obtain⟨o,es,ep,ho,r⟩:=hm
  exact⟨o,es,ep,k _ o (Ne.symm hL) ho,r⟩
 ·refine (I.hok b u e).stay (fun c v hc q=>k c v ?_ q) (fun _ q=>q) fun _ _ q=>q
  rcases hc with z |z
  ·rw[z];exact nit b u e
  ·exact nit c _ z
theorem Inv.tok (I:Inv X pins σ H s)(t:Nat):Inv X pins σ H {s with toks:=t}:=I.un (h':=s.heap) (t':=t) Un.refl I.hok
theorem Inv.kept {t':Nat}(I:Inv X pins σ H s)(k:∀b u,s.heap.get? b=some u->h'.get? b=some u):Inv X pins σ H {s with heap:=h',toks:=t'}:=I.un (Un.kept k) (I.hok.kept k)
theorem Inv.laid {a:Addr}{o:HO}{t':Nat}(I:Inv X pins σ H s)(k:∀b u,s.heap.get? b=some u->h'.get? b=some u)(hp:s.heap.objs.size<=a)(new:bw X.prog X.w (upd H a o) h' a o) :
  Inv X pins σ (upd H a o) {s with heap:=h',toks:=t'}:=I.un (Un.laid k hp (I.hok.fresh hp)) (I.hok.laid k hp new)
theorem Inv.write {x e:Addr}{o:HO}{t':Nat}(I:Inv X pins σ H s)(mu:IH (H x))(he:e=x\/H e=some (.own x))(k:∀b u,b≠e->s.heap.get? b=some u->h'.get? b=some u)(heo:∃u,h'.get? e=some u)
  (new:bw X.prog X.w (upd H x o) h' x o):Inv X pins σ (upd H x o) {s with heap:=h',toks:=t'}:=I.un (Un.write mu he k heo) (I.hok.write mu he k heo new)
theorem Inv.pins_of {pins':List (Addr×Obj)}(I:Inv X pins σ H s)(h:∀p∈pins',s.heap.get? p.1=some p.2/\H p.1=none/\p.1≠X.env.locals/\p.1∉X.fs/\∀v,p.2.data≠.cell v):Inv X pins' σ H s:=
 ⟨I.ok,I.os,I.bare,I.base,I.loc,I.cell,I.free,I.freeC,fun p hp=>(List.mem_append.mp hp).elim (fun z=>I.pin p (List.mem_append_left _ z)) (h p),I.hok,I.len⟩
theorem tZ {N:List Str}(hN:N.Nodup){i j:Nat}{x:Str}(a:N[i]? =some x)(b:N[j]? =some x):i=j:=by
 obtain⟨h1,e1⟩:=List.getElem?_eq_some_iff.mp a
 obtain⟨h2,e2⟩:=List.getElem?_eq_some_iff.mp b
 exact (List.getElem_inj hN).mp (e1.trans e2.symm)
theorem qw {M:Model}{A:Around}{E:Value->Shared->Prop}{i:Nat}{x:Str}{v:V}{u:Value}{Q:Unit->Shared->Prop}(I:Inv X pins σ H s)(hN:X.N.Nodup)(hi:X.N[i]? =some x)(hx:Loc X.env.scope x)(r:RelV v u)
  (h:∀s',Inv X pins (σ.set i (some v)) H s'->(∃a,Heap.SameBut a s.heap s'.heap/\(a=X.env.locals\/X.env.cells.lookup x=some a))->Q () s') (hf:X.fn x=true\/X.env.scope.names.lookup x=some .local:=by first |exact .inl rfl |exact .inr rfl |assumption):wpAny M A (storeName X.env x u) Q E s:=by
 obtain⟨m,hn,hl⟩:=id I.loc
 have hcls:(X.env.scope.kind == .class || (X.env.scope.kind == .module && X.env.locals != X.env.globals))=false:=by rw[I.ok.kind];rfl
 have hiσ:i < σ.length:=by rw[I.len];exact (List.getElem?_eq_some_iff.mp hi).1
 have cne:=I.cne
 have tracked:∀{a:Addr} {h':Heap},(∃o,s.heap.get? a=some o/\H a=none)->Heap.SameBut a s.heap h'->kf X.prog X.w H h':=fun {a h'} ha hs b ob e=>by
  obtain⟨_,_,hfree⟩:=ha
  refine (I.hok b ob e).stay (fun c w' hc q=>(hs.2 c ?_).trans q) (fun _ q=>q) fun _ _ q=>q
  rintro rfl
  rcases hc with rfl |hc
  ·rw[hfree] at e;cases e
  ·rw[hfree] at hc;cases hc
 rcases hx with hk |hk
 ·refine wpAny_storeName_local hk hn (fun h' hn' hs=>?_) hcls
  obtain⟨oL,_,_,hoL,_⟩:=id hn
  refine h _ ⟨I.ok,I.os,I.bare,⟨fun b o e n hb hx=>?_,fun b o e n hb hx=>?_,I.base.free,fun b o e hx=>?_,I.base.tups,I.base.frzs,I.base.tbls⟩,⟨_,hn',fun j y v' e1 e2 e3=>?_⟩,fun y c e=>?_,I.free,I.freeC,fun p hp=>?_,tracked ⟨oL,hoL,I.free⟩ hs,by simpa using I.len⟩ ⟨_,hs,.inl rfl⟩
  ·exact (hs.2 b (Nat.ne_of_lt (Nat.lt_of_lt_of_le (Heap.lt_size e) I.ok.above))).trans (I.base.keep b o e n hb hx)
  ·obtain⟨sl,e1⟩:=I.base.slot b o e n hb hx
   exact⟨sl,(hs.2 b (Nat.ne_of_lt (Nat.lt_of_lt_of_le (Heap.lt_size e) I.ok.above))).trans e1⟩
  ·obtain⟨o',e1⟩:=I.base.there b o e hx
   exact⟨o',(hs.2 b (Nat.ne_of_lt (Nat.lt_of_lt_of_le (Heap.lt_size e) I.ok.above))).trans e1⟩
  ·by_cases hj:j=i
   ·subst hj
    rw[hi] at e1;cases e1
    rw[List.getElem?_set_self hiσ] at e2
    cases e2
    exact⟨u,r,.inl ⟨hk,by simp⟩⟩
   ·rw[List.getElem?_set_ne (Ne.symm hj)] at e2
    obtain⟨u',r',q⟩:=hl j y v' e1 e2 e3
    refine⟨u',r',?_⟩
    rcases q with⟨k,e⟩ | ⟨k,c,e,z⟩
    ·refine .inl ⟨k,?_⟩
     have:y≠x:=fun e=>hj (tZ hN e1 (e▸hi))
     simp[this,e]
    ·exact .inr ⟨k,c,e,z.sameBut hs (cne y c e)⟩
  ·obtain⟨w',z⟩:=I.cell y c e
   exact⟨w',z.sameBut hs (cne y c e)⟩
  ·obtain⟨e,n,ne,nf,d⟩:=I.pin p hp
   exact⟨(hs.2 p.1 ne).trans e,n,ne,nf,d⟩
 ·have hfn:X.fn x=true:=by
   rcases hf with z |z
   ·exact z
   ·rw[z] at hk;cases hk
  obtain⟨c,hc⟩:=I.ok.has x (.inl hk)
  obtain⟨w',z⟩:=I.cell x c hc
  refine wpAny_storeName_cell I.ok.kind hk hc z (fun h' hc' hs=>?_)
  obtain⟨oc,hoc,hocd⟩:=id z
  refine h {s with heap:=h'} ⟨I.ok,I.os,I.bare,⟨fun b o e n hb hx=>?_,fun b o e n hb hx=>?_,I.base.free,fun b o e hx=>?_,I.base.tups,I.base.frzs,I.base.tbls⟩,⟨m,hn.sameBut hs (Ne.symm (cne x c hc)),fun j y v' e1 e2 e3=>?_⟩,fun y c' e=>?_,I.free,I.freeC,fun p hp=>?_,tracked ⟨oc,hoc,I.freeC x c hc⟩ hs,by simpa using I.len⟩ ⟨c,hs,.inr hc⟩
  ·exact (hs.2 b (Nat.ne_of_lt (Nat.lt_of_lt_of_le (Heap.lt_size e) (I.ok.cab x c hfn hc)))).trans (I.base.keep b o e n hb hx)
  ·obtain⟨sl,e1⟩:=I.base.slot b o e n hb hx
   exact⟨sl,(hs.2 b (Nat.ne_of_lt (Nat.lt_of_lt_of_le (Heap.lt_size e) (I.ok.cab x c hfn hc)))).trans e1⟩
  ·obtain⟨o',e1⟩:=I.base.there b o e hx
   exact⟨o',(hs.2 b (Nat.ne_of_lt (Nat.lt_of_lt_of_le (Heap.lt_size e) (I.ok.cab x c hfn hc)))).trans e1⟩
  ·by_cases hj:j=i
   ·subst hj
    rw[hi] at e1;cases e1
    rw[List.getElem?_set_self hiσ] at e2
    cases e2
    exact⟨u,r,.inr ⟨.inl hk,c,hc,hc'⟩⟩
   ·rw[List.getElem?_set_ne (Ne.symm hj)] at e2
    obtain⟨u',r',q⟩:=hl j y v' e1 e2 e3
    refine⟨u',r',?_⟩
    rcases q with q | ⟨k,c',e,z'⟩
    ·exact .inl q
    ·refine .inr ⟨k,c',e,z'.sameBut hs ?_⟩
     rintro rfl
     exact hj (tZ hN e1 (I.ok.inj _ _ _ e hc▸hi))
  ·by_cases hcc:c'=c
   ·subst hcc;exact⟨_,hc'⟩
   ·obtain⟨w2,z2⟩:=I.cell y c' e
    exact⟨w2,z2.sameBut hs hcc⟩
  ·obtain⟨e,n,ne,nf,d⟩:=I.pin p hp
   refine⟨(hs.2 p.1 ?_).trans e,n,ne,nf,d⟩
   intro q
   rw[q,hoc] at e
   have q':oc=p.2:=Option.some.inj e
   exact d w' (by rw[<-q'];exact hocd)
theorem uo {M:Model}{A:Around}{E:Value->Shared->Prop}{i:Nat}{x:Str}{v:V}{u:Value}{Q:Unit->Shared->Prop}(I:Inv X pins σ H s)(hN:X.N.Nodup)(hi:X.N[i]? =some x)(hx:Loc X.env.scope x)(r:RelV v u)
  (h:∀s',Inv X pins (σ.set i (some v)) H s'->Q () s') (hf:X.fn x=true\/X.env.scope.names.lookup x=some .local:=by first |exact .inl rfl |exact .inr rfl |assumption):wpAny M A (storeName X.env x u) Q E s:=
 qw I hN hi hx r (fun s' I' _=>h s' I') hf
theorem Inv.call' {s':Shared}{ch:List Addr}(I:Inv X pins σ H s)(ho:s'.os=s.os)(u:Un (iB X.stack) ch H H' s.heap s'.heap)(hok:kf X.prog X.w H' s'.heap)(hg:AllBare s'.gens)
  (hch:∀b∈ch,(b∈X.ex\/X.s₀.heap.objs.size<=b)/\b≠X.env.locals/\(∀x c,X.env.cells.lookup x=some c->c≠b)/\∀p∈X.pn ++ pins,p.1≠b):Inv X pins σ H' s':=by
 obtain⟨h',g',d',t',o'⟩:=s'
 have e:o'=s.os:=ho
 subst e
 exact I.call (g':=g') (t':=t') (d':=d') u hok hg hch
end
abbrev XK:=Value->Option Addr->Hp->Prop
abbrev St:=List (Option V)
abbrev VK:=V->Hp->Prop
abbrev TE:=St->Hp->VK->Prop
abbrev TT:=St->Hp->(Bool->Hp->Prop)->Prop
abbrev TA:=St->Hp->(List V->Hp->Prop)->Prop
structure Ends where
 nx:St->Hp->Prop
 rt:VK
 bk:St->Hp->Prop:=fun _ _=>False
 ct:St->Hp->Prop:=fun _ _=>False
abbrev TS:=Ends->St->Hp->Prop
def EP (X:Cx)(pins:List (Addr×Obj))(σ:St)(Q:VK)(u:Value)(s':Shared):Prop:=∃v H',Inv X pins σ H' s'/\RelV v u/\Q v H'
def TP (X:Cx)(pins:List (Addr×Obj))(σ:St)(Q:Bool->Hp->Prop)(b:Bool)(s':Shared):Prop:=∃H',Inv X pins σ H' s'/\Q b H'
def AP (X:Cx)(pins:List (Addr×Obj))(σ:St)(Q:List V->Hp->Prop)(us:List Value)(s':Shared):Prop:=∃vs H',Inv X pins σ H' s'/\Vals vs us/\Q vs H'
def SP (X:Cx)(pins:List (Addr×Obj))(D:Ends)(f:Flow)(s':Shared):Prop:=
 match f with
 | .next=>∃σ' H',Inv X pins σ' H' s'/\D.nx σ' H'
 | .brk=>∃σ' H',Inv X pins σ' H' s'/\D.bk σ' H'
 | .cont=>∃σ' H',Inv X pins σ' H' s'/\D.ct σ' H'
 | .ret u=>∃v σ' H',Inv X pins σ' H' s'/\RelV v u/\D.rt v H'
def PE (X:Cx)(e:Expr)(t:TE):Prop:=
 ∀(pins:List (Addr×Obj)) (s:Shared) (σ:St) (H:Hp) (Q:VK),Inv X pins σ H s->t σ H Q->wpAny (model X.prog X.w) X.A (eval e X.env) (EP X pins σ Q) X.xe s
def PT (X:Cx)(e:Expr)(t:TT):Prop:=
 ∀(pins:List (Addr×Obj)) (s:Shared) (σ:St) (H:Hp) (Q:Bool->Hp->Prop),Inv X pins σ H s->t σ H Q->wpAny (model X.prog X.w) X.A (isTrue e X.env (eval e X.env)) (TP X pins σ Q) X.xe s
def PW (X:Cx)(e:Expr)(t:TT):Prop:=
 ∀(whole:Sem Value) (pins:List (Addr×Obj)) (s:Shared) (σ:St) (H:Hp) (Q:Bool->Hp->Prop),Inv X pins σ H s->t σ H Q->wpAny (model X.prog X.w) X.A (isTrue e X.env whole) (TP X pins σ Q) X.xe s
theorem PW.pt {X:Cx}{e:Expr}{t:TT}(h:PW X e t):PT X e t:=h _
def PA (X:Cx)(es:List Expr)(t:TA):Prop:=
 ∀(pos:Pos) (pins:List (Addr×Obj)) (s:Shared) (σ:St) (H:Hp) (Q:List V->Hp->Prop),Inv X pins σ H s->t σ H Q->wpAny (model X.prog X.w) X.A (spliced (backTo pos (starEach es X.env))) (AP X pins σ Q) X.xe s
def PS (X:Cx)(st:Stmt)(t:TS):Prop:=
 ∀(pins:List (Addr×Obj)) (s:Shared) (σ:St) (H:Hp) (D:Ends),Inv X pins σ H s->t D σ H->wpAny (model X.prog X.w) X.A (exec st X.env) (SP X pins D) X.xe s
def qW (X:Cx)(st:List Stmt)(t:TS):Prop:=
 ∀(pins:List (Addr×Obj)) (s:Shared) (σ:St) (H:Hp) (D:Ends),Inv X pins σ H s->t D σ H->wpAny (model X.prog X.w) X.A (execs st X.env) (SP X pins D) X.xe s
theorem bW {α:Type}{t:Sem α}{Q Q':α->Shared->Prop}{M:Model}{A:Around}{E:Value->Shared->Prop}{s:Shared}(h:wpAny M A t Q E s)(hQ:∀a s,Q a s->Q' a s):wpAny M A t Q' E s:=wpAny_mono h hQ fun _ _ x=>x
end L2
namespace L2
open PySem PySem.Spec PyProof.Rows
section
variable {X:Cx}
theorem bin {a b:Expr}{ta tb:TE}(ha:PE X a ta)(hb:PE X b tb){pins:List (Addr×Obj)}{s:Shared}{σ:St}{H:Hp}{R:V->V->Hp->Prop}(I:Inv X pins σ H s)(h:ta σ H fun x H1=>tb σ H1 fun y H2=>R x y H2)
  {α:Type} {Q:α->Shared->Prop} {f:Value->Value->Sem α}
  (hf:∀v u s2 x y H2,Inv X pins σ H2 s2->RelV x v->RelV y u->R x y H2->wpAny (model X.prog X.w) X.A (f v u) Q X.xe s2) :
  wpAny (model X.prog X.w) X.A (eval a X.env) (fun v s₁=>wpAny (model X.prog X.w) X.A (eval b X.env) (fun u s₂=>wpAny (model X.prog X.w) X.A (f v u) Q X.xe s₂) X.xe s₁) X.xe s:=by
 refine bW (ha pins s σ H _ I h) fun v s1 ⟨x,H1,I1,r1,q1⟩=>?_
 refine bW (hb pins s1 σ H1 _ I1 q1) fun u s2 ⟨y,H2,I2,r2,q2⟩=>?_
 exact hf v u s2 x y H2 I2 r1 r2 q2
def DB (i:Nat):TE:=fun σ H Q=>∃v,σ[i]? =some (some v)/\Q v H
def tC (v:V):TE:=fun _ H Q=>Q v H
theorem jd {i:Nat}{x:Str}{pos:Pos}(hN:X.N[i]? =some x)(hv:v7 X.env.scope x)(hd:(x == ("__debug__":Str))=false:=by decide)(hcd:(x == ("__classdict__":Str))=false:=by decide):PE X (.Name x pos) (DB i):=by
 intro pins s σ H Q I h
 obtain⟨v,e,h⟩:=h
 obtain⟨m,hn,hl⟩:=I.loc
 obtain⟨u,r,l⟩:=hl i x v hN e hv
 have fin:EP X pins σ Q u s:=⟨v,H,I,r,h⟩
 rcases l with⟨hk,hm⟩ | ⟨hk,c,hc,hcell⟩
 ·exact wpAny_Name (wpAny_loadName_local I.ok.kind hk hn hm fin) hd
 ·rcases hk with hk |hk
  ·exact wpAny_Name (wpAny_loadName_cell I.ok.kind hk hc hcell fin) hd
  ·exact wpAny_Name (wpAny_loadName_free I.ok.kind hk hc hcell fin hcd) hd
theorem mO {i j pos}:PE X (.Constant (.int i) j pos) (tC (.int i)):=fun _ _ _ H _ I h=>wpAny_Constant_int ⟨.int i,H,I.tok _,⟨_,rfl⟩,h⟩
theorem ya {b j pos}:PE X (.Constant (.bool b) j pos) (tC (.bl b)):=fun _ _ _ H _ I h=>Constant_bool ⟨.bl b,H,I,rfl,h⟩
theorem FJ {j pos}:PE X (.Constant .none j pos) (tC .non):=fun _ _ _ H _ I h=>Constant_none ⟨.non,H,I,rfl,h⟩
theorem As {x j pos}:PE X (.Constant (.str x) j pos) (tC (.str x)):=fun _ _ _ H _ I h=>Calls.Constant_str ⟨.str x,H,I.tok _,⟨_,rfl⟩,h⟩
def Gl (X:Cx)(x:Str):Prop:=X.env.kindOf x=some .globalImplicit
theorem sX {E:Value->Shared->Prop}{pins:List (Addr×Obj)}{s:Shared}{σ:St}{H:Hp}{x:Str}{u:Value}{pos:Pos}{Q:Value->Shared->Prop}(I:Inv X pins σ H s)(hg:Gl X x)(hm:X.mg x=some u)(h:Q u s)
  (hd:(x == ("__debug__":Str))=false:=by decide):wpAny (model X.prog X.w) X.A (eval (.Name x pos) X.env) Q E s:=
 Calls.Name_function_global I.ok.kind hg (Calls.loadGlobal_global (by rw[I.ok.glob];exact I.mod.glob.keeps I.bk) hm h) hd
theorem mM {E:Value->Shared->Prop}{pins:List (Addr×Obj)}{s:Shared}{σ:St}{H:Hp}{x:Str}{u:Value}{pos:Pos}{Q:Value->Shared->Prop}(I:Inv X pins σ H s)(hg:Gl X x)(hm:X.mg x=none)(hv:bootBuiltins x=some u)(h:Q u s)
  (hn:x≠"__name__":=by decide) (hd:(x == ("__debug__":Str))=false:=by decide):wpAny (model X.prog X.w) X.A (eval (.Name x pos) X.env) Q E s:=by
 obtain⟨mb,h1,h2⟩:=I.mod.blt
 exact Calls.Name_function_global I.ok.kind hg (Calls.loadGlobal_builtin (by rw[I.ok.glob];exact I.mod.glob.keeps I.bk) hm (by rw[I.ok.blt];exact h1.keeps I.bk) ((h2 x hn).trans hv) h) hd
theorem Dq {x:Str}{v:V}{u:Value}{pos:Pos}(hg:Gl X x)(hm:X.mg x=some u)(r:RelV v u)(hd:(x == ("__debug__":Str))=false:=by decide):PE X (.Name x pos) (tC v):=
 fun _ _ _ H _ I h=>sX I hg hm ⟨v,H,I,r,h⟩ hd
theorem DL {x:Str}{v:V}{u:Value}{pos:Pos}(hg:Gl X x)(hm:X.mg x=none)(hv:bootBuiltins x=some u)(r:RelV v u)(hn:x≠"__name__":=by decide)(hd:(x == ("__debug__":Str))=false:=by decide):PE X (.Name x pos) (tC v):=
 fun _ _ _ H _ I h=>mM I hg hm hv ⟨v,H,I,r,h⟩ hn hd
variable {a b:Expr}{ta tb:TE}{pos:Pos}
def PC (X:Cx)(op:CmpOp)(a b:Expr)(t:TE):Prop:=
 ∀(pins:List (Addr×Obj)) (s:Shared) (σ:St) (H:Hp) (Q:VK),Inv X pins σ H s->t σ H Q->
  wpAny (model X.prog X.w) X.A (eval a X.env) (fun v s₁=>wpAny (model X.prog X.w) X.A (eval b X.env) (fun u s₂=>wpAny (model X.prog X.w) X.A (compareOp op v u) (EP X pins σ Q) X.xe s₂) X.xe s₁) X.xe s
theorem A7 (b:Expr){op:CmpOp}(h:op≠.In)(h2:op≠.NotIn):behindInMarks op b=false:=by
 have e1:(op == CmpOp.In)=false:=by cases op <;> first |rfl |exact absurd rfl h
 have e2:(op == CmpOp.NotIn)=false:=by cases op <;> first |rfl |exact absurd rfl h2
 cases b <;> simp[behindInMarks,e1,e2]
def tB (t:TE):TT:=fun σ H Q=>t σ H fun x H1=>∃c,x=.bl c/\Q c H1
theorem Ko {op:CmpOp}{t:TE}(h:PC X op a b t)(h1:behindInMarks op b=false:=by first |exact A7 _ (by decide) (by decide) |rfl):PT X (.Compare a [op] [b] pos) (tB t):=by
 intro pins s σ H Q I hw
 refine wpAny_isTrue_Compare1 (bW (h pins s σ H _ I hw) fun v s1 h1=>bW h1 fun u s2 h2=>bW h2 fun c s3 ⟨x,H1,I1,r1,q1⟩=>?_) h1
 obtain⟨d,rfl,q⟩:=q1
 cases r1
 exact wpAny_truthy_bool ⟨H1,I1,q⟩
theorem v9 {e:Expr}{t:TE}(h:PE X e t)(he:∀whole,isTrue e X.env whole=(do let v <-whole;standAt e.pos;holding [v] (truthy v)):=by intro _;rfl):PT X e (tB t):=by
 intro pins s σ H Q I hw
 refine isTrue_plain (bW (h pins s σ H _ I hw) fun v s1 ⟨x,H1,I1,r1,q1⟩=>?_) (he _)
 obtain⟨d,rfl,q⟩:=q1
 cases r1
 exact wpAny_truthy_bool ⟨H1,I1,q⟩
variable {tA tB':TT}{rest:List Expr}
def J3 (t u:TT):TT:=fun σ H Q=>t σ H fun c H1=>if c=true then u σ H1 Q else Q false H1
def K9 (t u:TT):TT:=fun σ H Q=>t σ H fun c H1=>if c=true then Q true H1 else u σ H1 Q
def Kj (t:TT):TT:=fun σ H Q=>t σ H fun c H1=>Q (!c) H1
theorem yv (ha:PT X a tA):PW X (.BoolOp .And [a] pos) tA:=by
 intro wh pins s σ H Q I h
 refine isTrue_and (bW (ha pins s σ H Q I h) fun c s1 e=>?_)
 cases c with
 |true=>exact isTrue_and_nil e
 |false=>exact e
theorem GY (ha:PT X a tA):PW X (.BoolOp .Or [a] pos) tA:=by
 intro wh pins s σ H Q I h
 refine isTrue_or (bW (ha pins s σ H Q I h) fun c s1 e=>?_)
 cases c with
 |false=>exact isTrue_or_nil e
 |true=>exact e
theorem Bb (ha:PT X a tA)(hb:PW X (.BoolOp .And (b :: rest) pos) tB'):PW X (.BoolOp .And (a :: b :: rest) pos) (J3 tA tB'):=by
 intro wh pins s σ H Q I h
 refine isTrue_and (bW (ha pins s σ H _ I h) fun c s1 ⟨H1,I1,q1⟩=>?_)
 cases c with
 |true=>exact hb wh pins s1 σ H1 Q I1 q1
 |false=>exact⟨H1,I1,q1⟩
theorem IG (ha:PT X a tA)(hb:PW X (.BoolOp .Or (b :: rest) pos) tB'):PW X (.BoolOp .Or (a :: b :: rest) pos) (K9 tA tB'):=by
 intro wh pins s σ H Q I h
 refine isTrue_or (bW (ha pins s σ H _ I h) fun c s1 ⟨H1,I1,q1⟩=>?_)
 cases c with
 |true=>exact⟨H1,I1,q1⟩
 |false=>exact hb wh pins s1 σ H1 Q I1 q1
theorem Ht (ha:PT X a tA):PT X (.UnaryOp .Not a pos) (Kj tA):=by
 intro pins s σ H Q I h
 exact isTrue_not (ha pins s σ H (fun c H1=>Q (!c) H1) I h)
def Iz (ta tb:TE):TE:=fun σ H Q=>ta σ H fun x H1=>∃c,x=.bl c/\if c=true then tb σ H1 Q else Q (.bl false) H1
def IY (ta:TE):TE:=fun σ H Q=>ta σ H fun x H1=>∃c,x=.bl c/\Q (.bl (!c)) H1
theorem FC {op}{t:TE}(h:PE X a t):PE X (.BoolOp op [a] pos) t:=fun pins s σ H Q I hw=>BoolOp_one (h pins s σ H Q I hw)
theorem Gj (ha:PE X a ta)(hb:PE X (.BoolOp .And (b :: rest) pos) tb):PE X (.BoolOp .And (a :: b :: rest) pos) (Iz ta tb):=by
 intro pins s σ H Q I h
 refine BoolOp_and (bW (ha pins s σ H _ I h) fun v s1 ⟨x,H1,I1,r1,q1⟩=>?_)
 obtain⟨c,rfl,q1⟩:=q1
 cases r1
 refine wpAny_truthy_bool ?_
 cases c with
 |true=>exact hb pins s1 σ H1 Q I1 q1
 |false=>exact⟨.bl false,H1,I1,rfl,q1⟩
theorem Gh (ha:PE X a ta):PE X (.UnaryOp .Not a pos) (IY ta):=by
 intro pins s σ H Q I h
 refine UnaryOp_ (bW (ha pins s σ H _ I h) fun v s1 ⟨x,H1,I1,r1,q1⟩=>?_)
 obtain⟨c,rfl,q1⟩:=q1
 cases r1
 exact not_of (wpAny_truthy_bool ⟨.bl (!c),H1,I1,rfl,q1⟩)
end
end L2
namespace L2
open PySem PySem.Spec PyProof.Rows
def fR (K:PySem.W.Frag)(H:Hp)(a:Addr)(xs:List V):Prop:=
 Rd H a (.lst xs)\/
  ∃(o:Obj) (its:Array Value) (n:Nat),K.lookup a=some o/\o.cls=.type "list"/\o.dict=none/\o.data=.seq its n/\its.size<=sizeLine/\Vals xs its.toList
def c7 (K:PySem.W.Frag)(H:Hp)(a:Addr)(xs:List V):Prop:=
 Rd H a (.tup xs)\/
  ∃(o:Obj) (its:Array Value) (n:Nat),K.lookup a=some o/\o.cls=.type "tuple"/\o.data=.seq its n/\its.size<=sizeLine/\Vals xs its.toList/\o.dict=none
def KP:Value->Option V
 | .none=>some .non
 | .bool b=>some (.bl b)
 | .int i _=>some (.int i)
 | .str x _=>some (.str x)
 | .bytes b _=>some (.byt b)
 | .float b _=>some (.flt b)
 | .ref a=>some (.ref a)
 | .type n=>some (.ty n)
 |_=>none
theorem RelV.abs {x:V}{u:Value}(r:RelV x u):KP u=some x:=by
 cases x with
 |non=>cases r;rfl
 |bl _=>cases r;rfl
 |int _=>obtain⟨t,rfl⟩:=r;rfl
 |str _=>obtain⟨t,rfl⟩:=r;rfl
 |byt _=>obtain⟨t,rfl⟩:=r;rfl
 |flt _=>obtain⟨t,rfl⟩:=r;rfl
 |ref _=>cases r;rfl
 |ty _=>cases r;rfl
theorem RelV.inj {x y:V}{u:Value}(r:RelV x u)(q:RelV y u):x=y:=Option.some.inj (r.abs.symm.trans q.abs)
theorem Vals.inj:∀{xs ys:List V} {us:List Value},Vals xs us->Vals ys us->xs=ys
 |_,_,_,.nil,.nil=>rfl
 |_,_,_,.cons r t,.cons r' t'=>by rw[r.inj r',Vals.inj t t']
section
variable {X:Cx}{pins:List (Addr×Obj)}{σ:St}{H:Hp}{s:Shared}{a:Addr}{xs ys:List V}
theorem Inv.list (I:Inv X pins σ H s)(h:fR X.K H a xs):∃its:List Value,Vals xs its/\PlainL s.heap a its.toArray/\xs.length<=sizeLine:=by
 rcases h with h | ⟨o,its,n,hk,hc,hd,hs,hz,r⟩
 ·obtain⟨z,its,n,r,e⟩:=h.ok I.hok
  exact⟨its,r,⟨_,n,e,rfl,rfl,rfl⟩,z⟩
 ·refine⟨its.toList,r,⟨o,n,I.kIn a o hk,hc,hd,by simpa using hs⟩,?_⟩
  have e:=r.length
  simp only[Array.length_toList] at e
  omega
theorem Inv.tuple (I:Inv X pins σ H s)(h:c7 X.K H a xs):∃its:List Value,Vals xs its/\IsTup s.heap a its.toArray/\xs.length<=sizeLine:=by
 rcases h with h | ⟨o,its,n,hk,hc,hs,hz,r,_⟩
 ·obtain⟨z,its,r,p⟩:=h.ok I.hok
  exact⟨its,r,p.isTup,z⟩
 ·refine⟨its.toList,r,⟨o,I.kIn a o hk,hc,n,by simpa using hs⟩,?_⟩
  have e:=r.length
  simp only[Array.length_toList] at e
  omega
theorem Inv.list_inj (I:Inv X pins σ H s)(h:fR X.K H a xs)(h':fR X.K H a ys):xs=ys:=by
 obtain⟨its,r,⟨o,n,e,_,_,d⟩,_⟩:=I.list h
 obtain⟨its',r',⟨o',n',e',_,_,d'⟩,_⟩:=I.list h'
 rw[e] at e';cases e'
 rw[d] at d'
 injection d' with d1 _
 have:its=its':=by simpa using congrArg Array.toList d1
 subst this
 exact r.inj r'
theorem Inv.tuple_inj (I:Inv X pins σ H s)(h:c7 X.K H a xs)(h':c7 X.K H a ys):xs=ys:=by
 obtain⟨its,r,⟨o,e,_,n,d⟩,_⟩:=I.tuple h
 obtain⟨its',r',⟨o',e',_,n',d'⟩,_⟩:=I.tuple h'
 rw[e] at e';cases e'
 rw[d] at d'
 injection d' with d1 _
 have:its=its':=by simpa using congrArg Array.toList d1
 subst this
 exact r.inj r'
end
abbrev Cx.wish (X:Cx)(E:Value->Shared->Prop):Cx:={X with xe:=E}
abbrev Cx.nox (X:Cx):Cx:=X.wish fun _ _=>False
theorem Cx.Ok.wish {X:Cx}(ok:X.Ok)(E:Value->Shared->Prop):(X.wish E).Ok:=
 ⟨ok.mod,ok.kind,ok.glob,ok.blt,ok.above,ok.inj,ok.has,ok.cab,ok.hd,ok.frames,ok.stk,ok.exf,ok.bs,ok.bsz,ok.noex,ok.exfs,ok.funs,ok.frf⟩
theorem Cx.Ok.unwish {X:Cx}{E:Value->Shared->Prop}(ok:(X.wish E).Ok):X.Ok:=
 ⟨ok.mod,ok.kind,ok.glob,ok.blt,ok.above,ok.inj,ok.has,ok.cab,ok.hd,ok.frames,ok.stk,ok.exf,ok.bs,ok.bsz,ok.noex,ok.exfs,ok.funs,ok.frf⟩
section
variable {X:Cx}{pins:List (Addr×Obj)}{σ:St}{H:Hp}{s:Shared}{E:Value->Shared->Prop}
theorem Inv.wish (I:Inv X pins σ H s)(E:Value->Shared->Prop):Inv (X.wish E) pins σ H s:=⟨I.ok.wish E,I.os,I.bare,I.base,I.loc,I.cell,I.free,I.freeC,I.pin,I.hok,I.len⟩
theorem Inv.unwish (I:Inv (X.wish E) pins σ H s):Inv X pins σ H s:=⟨I.ok.unwish,I.os,I.bare,I.base,I.loc,I.cell,I.free,I.freeC,I.pin,I.hok,I.len⟩
theorem SP.unwish {D:Ends}{f:Flow}{s':Shared}(h:SP (X.wish E) pins D f s'):SP X pins D f s':=by
 cases f with
 |next=>obtain⟨σ',H',I,q⟩:=h;exact⟨σ',H',I.unwish,q⟩
 |brk=>obtain⟨σ',H',I,q⟩:=h;exact⟨σ',H',I.unwish,q⟩
 |cont=>obtain⟨σ',H',I,q⟩:=h;exact⟨σ',H',I.unwish,q⟩
 |ret u=>obtain⟨v,σ',H',I,r,q⟩:=h;exact⟨v,σ',H',I.unwish,r,q⟩
theorem qW.nox {st:List Stmt}{t:TS}(h:qW X.nox st t):qW X st t:=fun pins s σ H D I hw=>
 wpAny_mono (h pins s σ H D (I.wish _) hw) (fun _ _ q=>q.unwish) fun _ _ z=>False.elim z
end
section
variable {X:Cx}{st:Stmt}{rest:List Stmt}{t u:TS}{e:Expr}{te:TE}{pos:Pos}
def HN:TS:=fun D σ H=>D.nx σ H
def KG (t u:TS):TS:=fun D σ H=>t {D with nx:=u D} σ H
theorem ym:qW X [] HN:=fun _ _ σ H _ I h=>wpAny_execs_nil ⟨σ,H,I,h⟩
theorem gG (h1:PS X st t)(h2:qW X rest u):qW X (st :: rest) (KG t u):=by
 intro pins s σ H D I h
 refine wpAny_execs_cons (bW (h1 pins s σ H {D with nx:=u D} I h) fun f s1 q=>?_)
 cases f with
 |next=>
  obtain⟨σ',H',I',q⟩:=q
  exact h2 pins s1 σ' H' D I' q
 |ret v=>exact q
 |brk=>exact q
 |cont=>exact q
theorem gP (h1:PS X st t):qW X [st] t:=by
 intro pins s σ H D I h
 refine wpAny_execs_cons (bW (h1 pins s σ H D I h) fun f s1 q=>?_)
 cases f with
 |next=>exact wpAny_execs_nil q
 |ret v=>exact q
 |brk=>exact q
 |cont=>exact q
theorem Inv.quiet {pins:List (Addr×Obj)}{σ:St}{H:Hp}{s:Shared}(I:Inv X pins σ H s):interactive X.env=false:=by simp[interactive,I.ok.kind]
def HK (te:TE):TS:=fun D σ H=>te σ H fun _ H1=>D.nx σ H1
theorem tD (he:PE X e te)(hs:swapsWith e none pos.line X.env=pure false:=by rfl):PS X (.Expr e pos) (HK te):=by
 intro pins s σ H D I h
 exact wpAny_Expr_any (bW (he pins s σ H _ I h) fun v s1 ⟨x,H1,I1,r1,q1⟩=>⟨σ,H1,I1,q1⟩) I.quiet hs
def Kl (te:TE):TS:=fun D σ H=>te σ H D.rt
theorem mD (he:PE X e te):PS X (.Return (some e) pos) (Kl te):=by
 intro pins s σ H D I h
 exact wpAny_Return_some (bW (he pins s σ H _ I h) fun v s1 ⟨x,H1,I1,r1,q1⟩=>⟨x,σ,H1,I1,r1,q1⟩)
def KN (c:TT)(t u:TS):TS:=fun D σ H=>c σ H fun b H1=>if b=true then t D σ H1 else u D σ H1
theorem EU {c:Expr}{a b:List Stmt}{tc:TT}(hc:PT X c tc)(ha:qW X a t)(hb:qW X b u):PS X (.If c a b pos) (KN tc t u):=by
 intro pins s σ H D I h
 refine wpAny_If (bW (hc pins s σ H _ I h) fun d s1 ⟨H1,I1,q1⟩=>?_)
 cases d with
 |true=>exact ha pins s1 σ H1 D I1 q1
 |false=>exact hb pins s1 σ H1 D I1 q1
end
abbrev TG:=V->St->Hp->(St->Hp->Prop)->Prop
abbrev FT:=List V->St->Hp->(St->Hp->Prop)->Prop
def PG (X:Cx)(target:Expr)(t:TG):Prop:=
 ∀(pins:List (Addr×Obj)) (s:Shared) (σ:St) (H:Hp) (v:V) (u:Value) (Q:St->Hp->Prop),Inv X pins σ H s->RelV v u->t v σ H Q->
  wpAny (model X.prog X.w) X.A (assign target X.env u) (fun _ s'=>∃σ' H',Inv X pins σ' H' s'/\Q σ' H') X.xe s
def JF (X:Cx)(ts:List Expr)(t:FT):Prop:=
 ∀(pins:List (Addr×Obj)) (s:Shared) (σ:St) (H:Hp) (vs:List V) (us:List Value) (Q:St->Hp->Prop),Inv X pins σ H s->Vals vs us->t vs σ H Q->
  wpAny (model X.prog X.w) X.A (assignInOrder ((assignEach ts X.env).map (·.2)) us) (fun _ s'=>∃σ' H',Inv X pins σ' H' s'/\Q σ' H') X.xe s
abbrev Gs:=V->V->V->Hp->(Hp->Prop)->Prop
def tu (X:Cx)(t:Gs):Prop:=
 ∀(pins:List (Addr×Obj)) (s:Shared) (σ:St) (H:Hp) (o i v:V) (ov iv u:Value) (Q:Hp->Prop),Inv X pins σ H s->RelV o ov->RelV i iv->RelV v u->t o i v H Q->
  wpAny (model X.prog X.w) X.A (setItem ov iv u) (fun _ s'=>∃H',Inv X pins σ H' s'/\Q H') X.xe s
section
variable {X:Cx}{pos:Pos}
def kI (i:Nat):TG:=fun v σ H Q=>Q (σ.set i (some v)) H
theorem cy {i:Nat}{x:Str}(hN:X.N.Nodup)(hi:X.N[i]? =some x)(hx:Loc X.env.scope x)(hf:X.fn x=true\/X.env.scope.names.lookup x=some .local:=by first |exact .inl rfl |exact .inr rfl |assumption):PG X (.Name x pos) (kI i):=by
 intro pins s σ H v u Q I r h
 exact wpAny_assign_Name (uo I hN hi hx r (fun s' I'=>⟨_,H,I',h⟩) hf)
def Dp:FT:=fun vs σ H Q=>vs= []/\Q σ H
def o7 (t:TG)(u:FT):FT:=fun vs σ H Q=>∃v r,vs=v :: r/\t v σ H fun σ' H'=>u r σ' H' Q
theorem lX:JF X [] Dp:=by
 intro pins s σ H vs us Q I r h
 obtain⟨e,h⟩:=h
 subst e
 cases r
 exact assignInOrder_nil ⟨σ,H,I,h⟩
theorem cU {e:Expr}{es:List Expr}{t:TG}{u:FT}(h1:PG X e t)(h2:JF X es u)
  (hs:(assignEach (e :: es) X.env).map (·.2)=assign e X.env :: (assignEach es X.env).map (·.2):=by rfl):JF X (e :: es) (o7 t u):=by
 intro pins s σ H vs us Q I r h
 obtain⟨v,vr,e1,h⟩:=h
 subst e1
 cases r with
 |cons r rr=>
  rw[hs]
  refine assignInOrder_cons (bW (h1 pins s σ H _ _ _ I r h) fun _ s1 ⟨σ1,H1,I1,q1⟩=>?_)
  exact h2 pins s1 σ1 H1 _ _ Q I1 rr q1
def Dv (K:PySem.W.Frag)(n:Nat)(t:FT):TG:=fun v σ H Q=>∃a xs,v=.ref a/\c7 K H a xs/\xs.length=n/\t xs σ H Q
theorem o4 {es:List Expr}{k:Nat}{t:FT}{n:Nat}(hc:X.calm=true)(h:JF X es t)
  (hn:(assignEach es X.env).length=n:=by rfl) (hst:(assignEach es X.env).findIdx? (·.1)=none:=by rfl):PG X (.Tuple es k pos) (Dv X.K n t):=by
 intro pins s σ H v u Q I r hw
 obtain⟨a,xs,e1,hq,hl,hw⟩:=hw
 subst e1
 cases r
 obtain⟨its,rv,ht,hz⟩:=I.tuple hq
 refine assign_Tuple_tuple (I.ok.hd hc) ht (by simp[hn,<-hl,rv.length]) hst fun h' hx=>?_
 have I1:Inv X pins σ H {s with heap:=h'}:=I.kept (t':=s.toks) fun b o e=>hx b o (Nat.ne_of_lt (Heap.lt_size e)) e
 exact h pins _ σ H xs _ Q I1 (by simpa using rv) hw
def J0 (to ti:TE)(t:Gs):TG:=fun v σ H Q=>to σ H fun o H1=>ti σ H1 fun i H2=>t o i v H2 fun H3=>Q σ H3
theorem tq {o i:Expr}{to ti:TE}{t:Gs}(ho:PE X o to)(hi:PE X i ti)(hs:tu X t)
  (ha:∀v,assign (.Subscript o i pos) X.env v=(do
   let ov <-holding [v] (eval o X.env)
   let iv <-holding [v,ov] (eval i X.env)
   standAt pos
   holding [v,ov,iv] (setItem ov iv v)
   release [v,ov,iv] []):=by intro _;rfl):PG X (.Subscript o i pos) (J0 to ti t):=by
 intro pins s σ H v u Q I r h
 rw[ha]
 refine wpAny_bind (wpAny_holding (bW (ho pins s σ H _ I h) fun ov s1 ⟨x,H1,I1,r1,q1⟩=>?_))
 refine wpAny_bind (wpAny_holding (bW (hi pins s1 σ H1 _ I1 q1) fun iv s2 ⟨y,H2,I2,r2,q2⟩=>?_))
 refine wpAny_bind (wpAny_standAt (wpAny_bind (wpAny_holding (bW (hs pins s2 σ H2 x y v ov iv u _ I2 r1 r2 r q2) fun _ s3 ⟨H3,I3,q3⟩=>?_))))
 exact wpAny_release ⟨σ,H3,I3,q3⟩
def HV (te:TE)(g:TG):TS:=fun D σ H=>te σ H fun x H1=>g x σ H1 D.nx
theorem pk {tg e:Expr}{te:TE}{g:TG}(he:PE X e te)(hg:PG X tg g)(hs:swapsWithSole [tg] e pos.line X.env=pure false:=by rfl)(hw:swappedStores [tg] e X.env=pure none:=by rfl)
  (h1:(assignEach [tg] X.env).map (·.2)= [assign tg X.env]:=by rfl):PS X (.Assign [tg] e pos) (HV te g):=by
 intro pins s σ H D I h
 refine wpAny_Assign_stores (bW (he pins s σ H _ I h) fun v s1 ⟨x,H1,I1,r1,q1⟩=>?_) hs hw
 rw[h1]
 exact bW (hg pins s1 σ H1 x v _ I1 r1 q1) fun _ s2 q=>q
theorem o6 {i:Nat}{x:Str}{e:Expr}{te:TE}{pos':Pos}(hN:X.N.Nodup)(hi:X.N[i]? =some x)(hx:Loc X.env.scope x)(he:PE X e te)(hs:swapsWith e (some (.Name x pos')) pos.line X.env=pure false:=by rfl)(hf:X.fn x=true\/X.env.scope.names.lookup x=some .local:=by first |exact .inl rfl |exact .inr rfl |assumption) :
  PS X (.Assign [.Name x pos'] e pos) (HV te (kI i)):=by
 intro pins s σ H D I h
 refine wpAny_Assign_Name (bW (he pins s σ H _ I h) fun v s1 ⟨y,H1,I1,r1,q1⟩=>?_) hs
 exact uo I1 hN hi hx r1 (fun s2 I2=>⟨_,H1,I2,q1⟩) hf
end
section
variable {X:Cx}{pos:Pos}
def Ho (c:TT)(tb:TS):TS:=fun D σ H=>∃W:Nat->St->Hp->Prop,(∃m,W m σ H)/\∀m σ H,W m σ H->
 c σ H fun b H1=>if b=true then ∃N:St->Hp->Prop,(∀σ' H',N σ' H'->∃m',m' < m/\W m' σ' H')/\tb {D with nx:=N,ct:=N,bk:=D.nx} σ H1 else D.nx σ H1
theorem Bu {c:Expr}{body:List Stmt}{tc:TT}{tb:TS}(hp:PassesOwn (model X.prog X.w) X.A X.env X.xe)(hc:PT X c tc)(hb:qW X body tb):PS X (.While c body [] pos) (Ho tc tb):=by
 intro pins s σ H D I h
 obtain⟨W,⟨m0,w0⟩,turn⟩:=h
 refine wpAny_While (codeAny_whileLoop (fun n s'=>∃σ' H',Inv X pins σ' H' s'/\W n σ' H') ?_ m0 ⟨σ,H,I,w0⟩)
 rintro n s1 ⟨σ1,H1,I1,w1⟩
 refine wpAny_passesOwn hp (bW (hc pins s1 σ1 H1 _ I1 (turn n σ1 H1 w1)) fun b s2 ⟨H2,I2,q2⟩=>?_)
 cases b with
 |true=>
  obtain⟨N,hN,q2⟩:=q2
  rw[if_pos rfl]
  refine wpAny_passesOwn hp (bW (hb pins s2 σ1 H2 _ I2 q2) fun f s3 q3=>?_)
  cases f with
  |next=>
   obtain⟨σ3,H3,I3,n3⟩:=q3
   obtain⟨m',hm,w3⟩:=hN σ3 H3 n3
   exact⟨m',hm,σ3,H3,I3,w3⟩
  |cont=>
   obtain⟨σ3,H3,I3,n3⟩:=q3
   obtain⟨m',hm,w3⟩:=hN σ3 H3 n3
   exact⟨m',hm,σ3,H3,I3,w3⟩
  |brk=>exact q3
  |ret v=>exact q3
 |false=>
  rw[if_neg Bool.false_ne_true]
  exact wpAny_execs_nil ⟨σ1,H2,I2,q2⟩
end
structure It where
 go:Nat->Hp->Prop
 yld:Nat->Hp->V->Hp->Prop
 stop:Nat->Hp->Prop
def ny (X:Cx)(pins:List (Addr×Obj))(H:Hp)(b:Addr):Prop:=
 H b=none/\b≠X.env.locals/\b∉X.fs/\(b∈X.ex\/X.s₀.heap.objs.size<=b)/\(∀x c,X.env.cells.lookup x=some c->c≠b)/\∀p∈X.pn ++ pins,p.1≠b
theorem Inv.fpOk {X:Cx}{pins:List (Addr×Obj)}{σ:St}{H H':Hp}{s:Shared}{b:Addr}(I:Inv X pins σ H s)(hb:s.heap.objs.size<=b)(hn:H' b=none):ny X pins H' b:=by
 refine⟨hn,Nat.ne_of_gt (Nat.lt_of_lt_of_le I.lt hb),I.nofs hb,.inr (Nat.le_trans I.sz hb),fun x c e z=>?_,fun p hp z=>?_⟩
 ·obtain⟨v,q⟩:=I.cell x c e
  exact absurd (Nat.lt_of_lt_of_le q.lt (by rw[z];exact hb)) (Nat.lt_irrefl _)
 ·exact absurd (Nat.lt_of_lt_of_le (Heap.lt_size (I.pin p hp).1) (by rw[z];exact hb)) (Nat.lt_irrefl _)
structure Turn (P:Program)(w:World)(K:PySem.W.Frag)(tg:Expr)(J:It)(fp:List Addr)(it:Addr)(tn:Nat->Heap->Prop):Prop where
 mem:it∈fp
 obj:∀i h,tn i h->∀b∈fp,∃o,h.get? b=some o/\∀v,o.data≠.cell v
 keep:∀i h h',tn i h->(∀b∈fp,∀o,h.get? b=some o->h'.get? b=some o)->tn i h'
 item:∀(X:Cx),X.prog=P->X.w=w->X.K=K->X.calm=true->∀(i:Nat) (pins:List (Addr×Obj)) (s:Shared) (σ:St) (H:Hp) (E:Value->Shared->Prop),Inv X pins σ H s->(∀b∈fp,ny X pins H b)->tn i s.heap->J.go i H->
  wpAny (model P w) X.A (pyNext (.ref it)) (fun r s1=>∃u,r=some u/\
   wpAny (model P w) X.A (letOwnedTupleGo tg (.ref it) u) (fun _ s2=>∃x H',Inv X pins σ H' s2/\RelV x u/\J.yld i H x H'/\tn (i + 1) s2.heap/\∀b∈fp,H' b=none) E s1) E s
 done:∀(X:Cx),X.prog=P->X.w=w->X.K=K->X.calm=true->∀(i:Nat) (pins:List (Addr×Obj)) (s:Shared) (σ:St) (H:Hp) (E:Value->Shared->Prop),Inv X pins σ H s->(∀b∈fp,ny X pins H b)->tn i s.heap->J.stop i H->
  wpAny (model P w) X.A (pyNext (.ref it)) (fun r s1=>r=none/\Inv X pins σ H s1) E s
 self:∀(A:Around) (i:Nat) (s:Shared) (Q:Value->Shared->Prop) (E:Value->Shared->Prop),tn i s.heap->Q (.ref it) s->wpAny (model P w) A (pyIter (.ref it)) Q E s
abbrev TI:=St->Hp->(It->Hp->Prop)->Prop
def KZ (X:Cx)(pins:List (Addr×Obj))(σ:St)(tg:Expr)(R:It->Hp->Prop)(itv:Value)(s2:Shared):Prop:=
 ∃(it:Addr) (fp:List Addr) (tn:Nat->Heap->Prop) (J:It) (H':Hp),itv=.ref it/\Inv X pins σ H' s2/\Turn X.prog X.w X.K tg J fp it tn/\tn 0 s2.heap/\(∀b∈fp,ny X pins H' b)/\R J H'
def PI (X:Cx)(tg iter:Expr)(wi:TI):Prop:=
 ∀(pins:List (Addr×Obj)) (s:Shared) (σ:St) (H:Hp) (R:It->Hp->Prop),Inv X pins σ H s->wi σ H R->
  wpAny (model X.prog X.w) X.A (eval iter X.env) (fun v s1=>wpAny (model X.prog X.w) X.A (pyIter v) (KZ X pins σ tg R) X.xe s1) X.xe s
theorem AB {M:Model}{A:Around}{E:Value->Shared->Prop}{s:Shared}{tg:Expr}{it:Addr}{u:Value}{o:Obj}{n:String}{vs:Array Value}{Q:Unit->Shared->Prop}(ho:s.heap.get? it=some o)(hc:o.cls=.type n)(hd:o.data=.fields vs)
  (hn: ["enumerate","zip","dict_itemiterator","dict_reverseitemiterator","odict_iterator","itertools.zip_longest","itertools.pairwise"].contains n=false) (hQ:Q () s):wpAny M A (letOwnedTupleGo tg (.ref it) u) Q E s:=by
 unfold letOwnedTupleGo
 cases tg <;> first
  |exact wpAny_pure hQ
  | (cases u <;> first
    |exact wpAny_pure hQ
    | (refine wpAny_bind (wpAny_load ho ?_)
       rw[hc,hd]
       show wpAny M A (if (["enumerate","zip","dict_itemiterator","dict_reverseitemiterator","odict_iterator","itertools.zip_longest","itertools.pairwise"].contains n && vs[0]? == some (rawInt _))=true then _ else _) Q E s
       rw[if_neg (by intro h;rw[hn,Bool.false_and] at h;cases h)]
       exact wpAny_pure hQ))
def zb (K:PySem.W.Frag)(a:Addr):It:=
 ⟨fun i H=>∃xs x,fR K H a xs/\xs[i]? =some x,fun i H x H'=>H'=H/\∀xs,fR K H a xs->xs[i]? =some x,fun i H=>∃xs,fR K H a xs/\xs.length<=i⟩
def EW (K:PySem.W.Frag)(a:Addr):It:=
 ⟨fun i H=>∃xs x,c7 K H a xs/\xs[i]? =some x,fun i H x H'=>H'=H/\∀xs,c7 K H a xs->xs[i]? =some x,fun i H=>∃xs,c7 K H a xs/\xs.length<=i⟩
def y9 (lo:Int)(n:Nat):It:=⟨fun i _=>i < n,fun i H x H'=>H'=H/\x=.int (lo + i),fun i _=>n<=i⟩
theorem mQ {P:Program}{w:World}{K:PySem.W.Frag}{tg:Expr}(a it:Addr):Turn P w K tg (zb K a) [it] it (fun i h=>h.IsListIter it a i) where
 mem:=by simp
 obj:=fun i h st b hb=>by
  have e:b=it:=by simpa using hb
  subst e
  obtain⟨o,e,c,d⟩:=st
  exact⟨o,e,fun v z=>by rw[d] at z;cases z⟩
 keep:=fun i h h' st k=>st.at fun o e=>k it (by simp) o e
 item:=by
  intro X hP hw hK hc i pins s σ H E I hf st hg
  subst hP hw hK
  obtain⟨xs,x,hq,hx⟩:=hg
  obtain⟨its,rv,p,hz⟩:=I.list hq
  obtain⟨u,hu,ru⟩:=rv.get hx
  obtain⟨f0,f1,f2,f3,f4,f5⟩:=hf it (by simp)
  refine wpAny_pyNext_list_item st p.isList (x:=u) (by simpa using hu) fun h' st' sb=>?_
  have I1:Inv X pins σ H {s with heap:=h'}:=I.turned (t':=s.toks) (fun b o hb e=>(sb.2 b hb).trans e) f0 f1 f3 f4 f5
  obtain⟨o,e,c,d⟩:=id st'
  exact⟨u,rfl,AB (s:={s with heap:=h'}) e c d (by decide) ⟨x,H,I1,ru,⟨rfl,fun ys hy=>by rw[I.list_inj hy hq];exact hx⟩,st',fun b hb=>(hf b hb).1⟩⟩
 done:=by
  intro X hP hw hK hc i pins s σ H E I hf st hg
  subst hP hw hK
  obtain⟨xs,hq,hx⟩:=hg
  obtain⟨its,rv,p,hz⟩:=I.list hq
  obtain⟨f0,f1,f2,f3,f4,f5⟩:=hf it (by simp)
  have hl:=rv.length
  exact wpAny_pyNext_list_end (I.ok.hd hc) st p.isList (by simp;omega) fun h' eb=>⟨rfl,I.turned (t':=s.toks) (fun b o hb e=>eb b o hb e) f0 f1 f3 f4 f5⟩
 self:=fun _ _ _ _ _ st h=>wpAny_pyIter_listiter st h
theorem pM {P:Program}{w:World}{K:PySem.W.Frag}{tg:Expr}(a it:Addr):Turn P w K tg (EW K a) [it] it (fun i h=>h.IsTupleIter it a i) where
 mem:=by simp
 obj:=fun i h st b hb=>by
  have e:b=it:=by simpa using hb
  subst e
  obtain⟨o,e,c,d⟩:=st
  exact⟨o,e,fun v z=>by rw[d] at z;cases z⟩
 keep:=fun i h h' st k=>st.at fun o e=>k it (by simp) o e
 item:=by
  intro X hP hw hK hc i pins s σ H E I hf st hg
  subst hP hw hK
  obtain⟨xs,x,hq,hx⟩:=hg
  obtain⟨its,rv,p,hz⟩:=I.tuple hq
  obtain⟨u,hu,ru⟩:=rv.get hx
  obtain⟨f0,f1,f2,f3,f4,f5⟩:=hf it (by simp)
  refine wpAny_pyNext_tuple_item st (show s.heap.IsTuple a its.toArray from p) (x:=u) (by simpa using hu) fun h' st' sb=>?_
  have I1:Inv X pins σ H {s with heap:=h'}:=I.turned (t':=s.toks) (fun b o hb e=>(sb.2 b hb).trans e) f0 f1 f3 f4 f5
  obtain⟨o,e,c,d⟩:=id st'
  exact⟨u,rfl,AB (s:={s with heap:=h'}) e c d (by decide) ⟨x,H,I1,ru,⟨rfl,fun ys hy=>by rw[I.tuple_inj hy hq];exact hx⟩,st',fun b hb=>(hf b hb).1⟩⟩
 done:=by
  intro X hP hw hK hc i pins s σ H E I hf st hg
  subst hP hw hK
  obtain⟨xs,hq,hx⟩:=hg
  obtain⟨its,rv,p,hz⟩:=I.tuple hq
  obtain⟨f0,f1,f2,f3,f4,f5⟩:=hf it (by simp)
  have hl:=rv.length
  exact wpAny_pyNext_tuple_end (I.ok.hd hc) st (show s.heap.IsTuple a its.toArray from p) (by simp;omega) fun h' eb=>⟨rfl,I.turned (t':=s.toks) (fun b o hb e=>eb b o hb e) f0 f1 f3 f4 f5⟩
 self:=fun _ _ _ _ _ st h=>wpAny_pyIter_tupleiter st h
theorem xw {P:Program}{w:World}{K:PySem.W.Frag}{tg:Expr}(it:Addr)(lo:Int)(n:Nat):Turn P w K tg (y9 lo n) [it] it (fun i h=>IsRangeIter h it (lo + (i:Nat) * 1) ((n:Int) - (i:Nat)) 1) where
 mem:=by simp
 obj:=fun i h st b hb=>by
  have e:b=it:=by simpa using hb
  subst e
  exact⟨_,st,fun v z=>by
   have z':Data.fields _=Data.cell v:=z
   cases z'⟩
 keep:=fun i h h' st k=>k it (by simp) _ st
 item:=by
  intro X hP hw hK hc i pins s σ H E I hf st hg
  subst hP hw hK
  obtain⟨f0,f1,f2,f3,f4,f5⟩:=hf it (by simp)
  have W:=Walks.range (prog:=X.prog) (w:=X.w) (I.ok.hd hc) it lo 1 n
  refine W.item i s _ _ hg st fun v h' tk hv st' kk=>?_
  obtain⟨t,rfl⟩:=hv
  have I1:Inv X pins σ H {s with heap:=h',toks:=tk}:=I.turned (fun b o hb e=>kk b o (by simpa using hb) e) f0 f1 f3 f4 f5
  refine⟨_,rfl,AB (s:={s with heap:=h',toks:=tk}) (n:="range_iterator") st' rfl rfl (by decide) ⟨.int (lo + i),H,I1,⟨t,?_⟩,⟨rfl,rfl⟩,st',fun b hb=>(hf b hb).1⟩⟩
  rw[Int.mul_one]
 done:=by
  intro X hP hw hK hc i pins s σ H E I hf st hg
  subst hP hw hK
  obtain⟨f0,f1,f2,f3,f4,f5⟩:=hf it (by simp)
  exact wpAny_pyNext_range_end (I.ok.hd hc) st (by have:n<=i:=hg;omega) fun h' eb=>⟨rfl,I.turned (t':=s.toks) (fun b o hb e=>eb b o hb e) f0 f1 f3 f4 f5⟩
 self:=fun _ _ _ _ _ st h=>wpAny_pyIter_rangeiter st h
end L2
namespace L2
open PySem PySem.Spec PyProof.Rows
section
variable {X:Cx}{tg:Expr}
def IT (K:PySem.W.Frag)(tl:TE):TI:=fun σ H R=>tl σ H fun x H1=>∃a,x=.ref a/\(∃xs,fR K H1 a xs)/\R (zb K a) H1
theorem yd {l:Expr}{tl:TE}(hl:PE X l tl):PI X tg l (IT X.K tl):=by
 intro pins s σ H R I h
 refine bW (hl pins s σ H _ I h) fun v s1 ⟨x,H1,I1,r1,q1⟩=>?_
 obtain⟨a,e,⟨xs,hq⟩,q⟩:=q1
 subst e
 cases r1
 obtain⟨its,rv,p,hz⟩:=I1.list hq
 refine wpAny_pyIter_list p.isList ?_
 refine⟨s1.heap.objs.size,[s1.heap.objs.size],_,_,H1,rfl,I1.kept (t':=s1.toks) fun b o e=>Heap.get?_push_of_some _ e,mQ a _,⟨_,Heap.get?_push_size _ rfl,rfl,rfl⟩,fun b hb=>?_,q⟩
 have e:b=s1.heap.objs.size:=by simpa using hb
 subst e
 exact I1.fpOk (Nat.le_refl _) (I1.hok.fresh (Nat.le_refl _))
theorem vB {pins:List (Addr×Obj)}{σ:St}{H:Hp}{s:Shared}{R:It->Hp->Prop}{E:Value->Shared->Prop}{lo hi:Int}{t u v:Tok}{tk:Nat}(I:Inv X pins σ H s)(h1: -(2 ^ 62)<=lo)(h2:lo < 2 ^ 62)(h3: -(2 ^ 62)<=hi)(h4:hi < 2 ^ 62)
  (q:R (y9 lo (hi - lo).toNat) H):wpAny (model X.prog X.w) X.A (pyIter (.ref s.heap.objs.size)) (KZ X pins σ tg R) E {s with heap:=s.heap.push {cls:=.type "range",data:=.fields #[.int lo t,.int hi u,.int 1 v]},toks:=tk}:=by
 refine wpAny_pyIter_range (IsRange.new ..) (small_one h1 h2 h3 h4) ?_
 have I1:Inv X pins σ H {s with heap:=s.heap.push {cls:=.type "range",data:=.fields #[.int lo t,.int hi u,.int 1 v]},toks:=tk}:=I.kept fun b o e=>Heap.get?_push_of_some _ e
 refine⟨(s.heap.push {cls:=.type "range",data:=.fields #[.int lo t,.int hi u,.int 1 v]}).objs.size,[(s.heap.push {cls:=.type "range",data:=.fields #[.int lo t,.int hi u,.int 1 v]}).objs.size],_,_,H,rfl,
  I1.kept (t':=tk) fun b o e=>Heap.get?_push_of_some _ e,xw _ lo (hi - lo).toNat,?_,fun b hb=>?_,q⟩
 ·have e1:lo + ((0:Nat):Int) * 1=lo:=by simp
  have e2:(((hi - lo).toNat:Nat):Int) - ((0:Nat):Int)=Builtin.Range.rangeSize lo hi 1:=by rw[rangeSize_one];split <;> omega
  show IsRangeIter _ _ (lo + ((0:Nat):Int) * 1) ((((hi - lo).toNat:Nat):Int) - ((0:Nat):Int)) 1
  rw[e1,e2]
  exact Heap.get?_push_size _ rfl
 ·have e:b=(s.heap.push {cls:=.type "range",data:=.fields #[.int lo t,.int hi u,.int 1 v]}).objs.size:=by simpa using hb
  subst e
  exact I1.fpOk (Nat.le_refl _) (I1.hok.fresh (Nat.le_refl _))
def HS (ta:TA):TI:=fun σ H R=>ta σ H fun vs H1=>∃j:Int,vs= [.int j]/\ -(2 ^ 62)<=j/\j < 2 ^ 62/\R (y9 0 j.toNat) H1
def Jh (ta:TA):TI:=fun σ H R=>ta σ H fun vs H1=>∃i j:Int,vs= [.int i,.int j]/\(-(2 ^ 62)<=i/\i < 2 ^ 62/\ -(2 ^ 62)<=j/\j < 2 ^ 62)/\R (y9 i (j - i).toNat) H1
theorem kh {a:Expr}{ta:TA}{p pos:Pos}(hg:Gl X "range")(hm:X.mg "range"=none)(ha:PA X [a] ta)(hs:starEach [a] X.env= [(false,eval a X.env)]:=by rfl):PI X tg (.Call (.Name "range" p) [a] [] pos) (HS ta):=by
 intro pins s σ H R I h
 refine Call_ (mM I hg hm boot_range (PyProof.Rows.callWith_type1 (bW (ha pos pins s σ H _ I h) fun us s1 ⟨vs,H1,I1,r1,q1⟩=>?_) hs rfl))
 obtain⟨j,e,q1,q2,q⟩:=q1
 subst e
 cases r1 with
 |cons r rr=>
  cases rr
  obtain⟨t,rfl⟩:=r
  exact call_range_1 (vB I1 (by omega) (by omega) q1 q2 (by simpa using q))
theorem yN {a b:Expr}{ta:TA}{p pos:Pos}(hg:Gl X "range")(hm:X.mg "range"=none)(ha:PA X [a,b] ta)(hs:starEach [a,b] X.env= [(false,eval a X.env),(false,eval b X.env)]:=by rfl)(hs2:starEach [b] X.env= [(false,eval b X.env)]:=by rfl) :
  PI X tg (.Call (.Name "range" p) [a,b] [] pos) (Jh ta):=by
 intro pins s σ H R I h
 refine Call_ (mM I hg hm boot_range (PyProof.Rows.callWith_type1 (bW (ha pos pins s σ H _ I h) fun us s1 ⟨vs,H1,I1,r1,q1⟩=>?_) (by rw[hs,hs2]) (by rw[hs2];rfl)))
 obtain⟨i,j,e,⟨q1,q2,q3,q4⟩,q⟩:=q1
 subst e
 cases r1 with
 |cons r rr=>
  cases rr with
  |cons r' rr=>
   cases rr
   obtain⟨t,rfl⟩:=r
   obtain⟨t',rfl⟩:=r'
   exact call_range_2 (vB I1 q1 q2 q3 q4 q)
def Ka (wi:TI)(g:TG)(tb:TS):TS:=fun D σ H=>wi σ H fun J H1=>∃W:Nat->Nat->St->Hp->Prop,(∃m,W 0 m σ H1)/\∀i m σ H,W i m σ H->
 (J.stop i H/\D.nx σ H)\/(J.go i H/\∃N:St->Hp->Prop,(∀σ' H',N σ' H'->∃m',m' < m/\W (i + 1) m' σ' H')/\∀x H',J.yld i H x H'->g x σ H' fun σ2 H2=>tb {D with nx:=N,ct:=N,bk:=D.nx} σ2 H2)
def ox (fp:List Addr)(h:Heap):List (Addr×Obj):=fp.filterMap fun b=>(h.get? b).map fun o=>(b,o)
theorem ju {fp:List Addr}{h:Heap}{b:Addr}{o:Obj}(hb:b∈fp)(e:h.get? b=some o):(b,o)∈ox fp h:=List.mem_filterMap.mpr ⟨b,hb,by rw[e];rfl⟩
theorem zo {fp:List Addr}{h:Heap}{p:Addr×Obj}(hp:p∈ox fp h):p.1∈fp/\h.get? p.1=some p.2:=by
 obtain⟨b,hb,e⟩:=List.mem_filterMap.mp hp
 cases q:h.get? b with
 |none=>rw[q] at e;cases e
 |some o=>
  rw[q] at e
  have e':(b,o)=p:=Option.some.inj e
  subst e'
  exact⟨hb,q⟩
theorem Inv.pinned {pins:List (Addr×Obj)}{σ:St}{H:Hp}{s:Shared}{fp:List Addr}(I:Inv X pins σ H s)(hf:∀b∈fp,ny X pins H b)(ho:∀b∈fp,∃o,s.heap.get? b=some o/\∀v,o.data≠.cell v):Inv X (pins ++ ox fp s.heap) σ H s:=
 I.pins_of fun p hp=>(List.mem_append.mp hp).elim (fun z=>I.pin p (List.mem_append_right _ z)) fun z=>by
  obtain⟨hb,e⟩:=zo z
  obtain⟨f0,f1,f2,_⟩:=hf p.1 hb
  obtain⟨o,e',d⟩:=ho p.1 hb
  rw[e] at e';cases e'
  exact⟨e,f0,f1,f2,d⟩
theorem Inv.unpinned {pins pl:List (Addr×Obj)}{σ:St}{H:Hp}{s:Shared}(I:Inv X (pins ++ pl) σ H s):Inv X pins σ H s:=I.pins_of fun p hp=>I.pin p (List.mem_append_right _ (List.mem_append_left _ hp))
theorem rz {iter:Expr}{body:List Stmt}{wi:TI}{g:TG}{tb:TS}{pos:Pos}(hp:PassesOwn (model X.prog X.w) X.A X.env X.xe)(hc:X.calm=true)(hi:PI X tg iter wi)(hg:PG X tg g)(hb:qW X body tb)
  (hs:∀x,foldedSetIterable iter X.env x=pure x:=by intro _;rfl):PS X (.For tg iter body [] pos) (Ka wi g tb):=by
 intro pins s σ H D I h
 refine wpAny_For (bW (hi pins s σ H _ I h) fun v s1 h1=>bW h1 fun itv s2 h2=>?_) hs
 obtain⟨it,fp,tn,J,H2,e,I2,T,st2,f2,W,⟨m0,w0⟩,turn⟩:=h2
 subst e
 have stat:∀{H':Hp},(∀b∈fp,H' b=none)->∀b∈fp,ny X pins H' b:=fun hn b hb=>⟨hn b hb,(f2 b hb).2⟩
 refine codeAny_forLoop_any (fun n s'=>∃i σ' H',Inv X pins σ' H' s'/\tn i s'.heap/\(∀b∈fp,H' b=none)/\W i n σ' H') ?_ m0 ⟨0,σ,H2,I2,st2,fun b hb=>(f2 b hb).1,w0⟩
 rintro n s3 ⟨i,σ3,H3,I3,st3,fr3,w3⟩
 rcases turn i n σ3 H3 w3 with⟨stop,qn⟩ | ⟨go,N,hN,step⟩
 ·refine wpAny_passesOwn hp (bW (T.done X rfl rfl rfl hc i pins s3 σ3 H3 X.xe I3 (stat fr3) st3 stop) fun r s4 ⟨hr,I4⟩=>?_)
  subst hr
  exact wpAny_execs_nil ⟨σ3,H3,I4,qn⟩
 ·refine wpAny_passesOwn hp (bW (T.item X rfl rfl rfl hc i pins s3 σ3 H3 X.xe I3 (stat fr3) st3 go) fun r s4 ⟨u,hr,h4⟩=>?_)
  subst hr
  refine wpAny_passesOwn hp (bW h4 fun _ s5 ⟨x,H5,I5,r5,y5,st5,fr5⟩=>?_)
  have I5':=I5.pinned (stat fr5) (T.obj _ _ st5)
  refine wpAny_passesOwn hp (bW (hg _ s5 σ3 H5 x u _ I5' r5 (step x H5 y5)) fun _ s6 ⟨σ6,H6,I6,q6⟩=>?_)
  refine wpAny_passesOwn hp (bW (hb _ s6 σ6 H6 _ I6 q6) fun f s7 q7=>?_)
  have again:∀{σ7:St} {H7:Hp},Inv X (pins ++ ox fp s5.heap) σ7 H7 s7->N σ7 H7->∃m,m < n/\∃i σ' H',Inv X pins σ' H' s7/\tn i s7.heap/\(∀b∈fp,H' b=none)/\W i m σ' H':=fun {σ7 H7} I7 n7=>by
   obtain⟨m',hm,w7⟩:=hN σ7 H7 n7
   refine⟨m',hm,i + 1,σ7,H7,I7.unpinned,T.keep _ _ _ st5 fun b hb o e=>(I7.pin (b,o) (List.mem_append_right _ (List.mem_append_right _ (ju hb e)))).1,fun b hb=>?_,w7⟩
   obtain⟨o,e,d⟩:=T.obj _ _ st5 b hb
   exact (I7.pin (b,o) (List.mem_append_right _ (List.mem_append_right _ (ju hb e)))).2.1
  cases f with
  |next=>obtain⟨σ7,H7,I7,n7⟩:=q7;exact again I7 n7
  |cont=>obtain⟨σ7,H7,I7,n7⟩:=q7;exact again I7 n7
  |brk=>obtain⟨σ7,H7,I7,q7⟩:=q7;exact⟨σ7,H7,I7.unpinned,q7⟩
  |ret v=>obtain⟨x7,σ7,H7,I7,r7,q7⟩:=q7;exact⟨x7,σ7,H7,I7.unpinned,r7,q7⟩
end
theorem uz {K:PySem.W.Frag}{a:Addr}{xs:List V}{g:TG}{tb:TS}{D:Ends}{σ:St}{H:Hp}(Pv:Nat->St->Hp->Prop)(h0:Pv 0 σ H)(hl:∀i σ H,i<=xs.length->Pv i σ H->fR K H a xs)
  (hs:∀i x σ H,xs[i]? =some x->Pv i σ H->g x σ H fun σ2 H2=>tb {D with nx:=Pv (i + 1),ct:=Pv (i + 1),bk:=D.nx} σ2 H2) (hd:∀σ H,Pv xs.length σ H->D.nx σ H) :
  ∃W:Nat->Nat->St->Hp->Prop,(∃m,W 0 m σ H)/\∀i m σ H,W i m σ H->
   ((zb K a).stop i H/\D.nx σ H)\/((zb K a).go i H/\∃N:St->Hp->Prop,(∀σ' H',N σ' H'->∃m',m' < m/\W (i + 1) m' σ' H')/\∀x H',(zb K a).yld i H x H'->g x σ H' fun σ2 H2=>tb {D with nx:=N,ct:=N,bk:=D.nx} σ2 H2):=by
 refine⟨fun i m σ H=>m=xs.length - i/\i<=xs.length/\Pv i σ H,⟨xs.length,by simp,Nat.zero_le _,h0⟩,?_⟩
 rintro i m σ H ⟨rfl,hi,p⟩
 have q:=hl i σ H hi p
 by_cases hlt:i < xs.length
 ·refine .inr ⟨⟨xs,xs[i],q,by simp[hlt]⟩,Pv (i + 1),fun σ' H' p'=>⟨xs.length - (i + 1),by omega,rfl,hlt,p'⟩,fun x H' y=>?_⟩
  obtain⟨e,y⟩:=y
  subst e
  exact hs i x σ _ (y xs q) p
 ·have e:i=xs.length:=by omega
  subst e
  exact .inl ⟨⟨xs,q,Nat.le_refl _⟩,hd σ H p⟩
theorem D6 {K:PySem.W.Frag}{a:Addr}{xs:List V}{g:TG}{tb:TS}{D:Ends}{σ:St}{H:Hp}(Pv:Nat->St->Hp->Prop)(h0:Pv 0 σ H)(hl:∀i σ H,i<=xs.length->Pv i σ H->c7 K H a xs)
  (hs:∀i x σ H,xs[i]? =some x->Pv i σ H->g x σ H fun σ2 H2=>tb {D with nx:=Pv (i + 1),ct:=Pv (i + 1),bk:=D.nx} σ2 H2) (hd:∀σ H,Pv xs.length σ H->D.nx σ H) :
  ∃W:Nat->Nat->St->Hp->Prop,(∃m,W 0 m σ H)/\∀i m σ H,W i m σ H->
   ((EW K a).stop i H/\D.nx σ H)\/((EW K a).go i H/\∃N:St->Hp->Prop,(∀σ' H',N σ' H'->∃m',m' < m/\W (i + 1) m' σ' H')/\∀x H',(EW K a).yld i H x H'->g x σ H' fun σ2 H2=>tb {D with nx:=N,ct:=N,bk:=D.nx} σ2 H2):=by
 refine⟨fun i m σ H=>m=xs.length - i/\i<=xs.length/\Pv i σ H,⟨xs.length,by simp,Nat.zero_le _,h0⟩,?_⟩
 rintro i m σ H ⟨rfl,hi,p⟩
 have q:=hl i σ H hi p
 by_cases hlt:i < xs.length
 ·refine .inr ⟨⟨xs,xs[i],q,by simp[hlt]⟩,Pv (i + 1),fun σ' H' p'=>⟨xs.length - (i + 1),by omega,rfl,hlt,p'⟩,fun x H' y=>?_⟩
  obtain⟨e,y⟩:=y
  subst e
  exact hs i x σ _ (y xs q) p
 ·have e:i=xs.length:=by omega
  subst e
  exact .inl ⟨⟨xs,q,Nat.le_refl _⟩,hd σ H p⟩
theorem zl {lo:Int}{n:Nat}{g:TG}{tb:TS}{D:Ends}{σ:St}{H:Hp}(Pv:Nat->St->Hp->Prop)(h0:Pv 0 σ H)
  (hs:∀i σ H,i < n->Pv i σ H->g (.int (lo + i)) σ H fun σ2 H2=>tb {D with nx:=Pv (i + 1),ct:=Pv (i + 1),bk:=D.nx} σ2 H2) (hd:∀σ H,Pv n σ H->D.nx σ H) :
  ∃W:Nat->Nat->St->Hp->Prop,(∃m,W 0 m σ H)/\∀i m σ H,W i m σ H->
   ((y9 lo n).stop i H/\D.nx σ H)\/((y9 lo n).go i H/\∃N:St->Hp->Prop,(∀σ' H',N σ' H'->∃m',m' < m/\W (i + 1) m' σ' H')/\∀x H',(y9 lo n).yld i H x H'->g x σ H' fun σ2 H2=>tb {D with nx:=N,ct:=N,bk:=D.nx} σ2 H2):=by
 refine⟨fun i m σ H=>m=n - i/\i<=n/\Pv i σ H,⟨n,by simp,Nat.zero_le _,h0⟩,?_⟩
 rintro i m σ H ⟨rfl,hi,p⟩
 by_cases hlt:i < n
 ·refine .inr ⟨hlt,Pv (i + 1),fun σ' H' p'=>⟨n - (i + 1),by omega,rfl,hlt,p'⟩,fun x H' y=>?_⟩
  obtain⟨e,y⟩:=y
  subst e y
  exact hs i σ _ hlt p
 ·have e:i=n:=by omega
  subst e
  exact .inl ⟨Nat.le_refl _,hd σ H p⟩
end L2
namespace L2
open PySem PySem.Spec PyProof.Rows
abbrev R2:=V->V->Hp->VK->Prop
def k9 (X:Cx)(f:Value->Value->Sem Value)(r:R2):Prop:=
 ∀(pins:List (Addr×Obj)) (s:Shared) (σ:St) (H:Hp) (x y:V) (v u:Value) (Q:VK),Inv X pins σ H s->RelV x v->RelV y u->r x y H Q->
  wpAny (model X.prog X.w) X.A (f v u) (EP X pins σ Q) X.xe s
def JN (X:Cx)(f:Value->Sem Value)(r:V->Hp->VK->Prop):Prop:=
 ∀(pins:List (Addr×Obj)) (s:Shared) (σ:St) (H:Hp) (x:V) (v:Value) (Q:VK),Inv X pins σ H s->RelV x v->r x H Q->
  wpAny (model X.prog X.w) X.A (f v) (EP X pins σ Q) X.xe s
def b8 (X:Cx)(f:Value)(r:List V->Hp->VK->Prop):Prop:=
 ∀(pins:List (Addr×Obj)) (s:Shared) (σ:St) (H:Hp) (xs:List V) (us:List Value) (Q:VK),Inv X pins σ H s->Vals xs us->r xs H Q->
  wpAny (model X.prog X.w) X.A (call f us) (EP X pins σ Q) X.xe s
def Kb (X:Cx)(r:V->Hp->(Bool->Hp->Prop)->Prop):Prop:=
 ∀(pins:List (Addr×Obj)) (s:Shared) (σ:St) (H:Hp) (x:V) (v:Value) (Q:Bool->Hp->Prop),Inv X pins σ H s->RelV x v->r x H Q->
  wpAny (model X.prog X.w) X.A (truthy v) (TP X pins σ Q) X.xe s
def Jx (r:R2)(ta tb:TE):TE:=fun σ H Q=>ta σ H fun x H1=>tb σ H1 fun y H2=>r x y H2 Q
def Lo (r:V->Hp->VK->Prop)(ta:TE):TE:=fun σ H Q=>ta σ H fun x H1=>r x H1 Q
def rI (C:Int->Int->Prop)(g:Int->Int->V):R2:=fun x y H Q=>∃i j,x=.int i/\y=.int j/\C i j/\Q (g i j) H
def zp (g:Int->Int->V):R2:=fun x y H Q=>∃i j,x=.int i/\y=.int j/\Q (g i j) H
def rU (g:Int->V):V->Hp->VK->Prop:=fun x H Q=>∃i,x=.int i/\Q (g i) H
section
variable {X:Cx}{a b c:Expr}{ta tb tc:TE}{pos:Pos}
theorem Gv (ha:PE X a ta)(hb:PE X b tb){pins:List (Addr×Obj)}{s:Shared}{σ:St}{H:Hp}{R:V->V->Hp->Prop}(I:Inv X pins σ H s)
  (h:ta σ H fun x H1=>tb σ H1 fun y H2=>R x y H2) {Q:Value->Shared->Prop} {f:Value->Value->Sem Value}
  (hf:∀v u s2 x y H2,Inv X pins σ H2 s2->RelV x v->RelV y u->R x y H2->wpAny (model X.prog X.w) X.A (f v u) Q X.xe s2) :
  wpAny (model X.prog X.w) X.A (eval a X.env) (fun v s₁=>wpAny (model X.prog X.w) X.A (eval b X.env) (fun u s₂=>wpAny (model X.prog X.w) X.A (f v u) Q X.xe s₂) X.xe s₁) X.xe s:=by
 refine bW (ha pins s σ H _ I h) fun v s1 ⟨x,H1,I1,r1,q1⟩=>?_
 refine bW (hb pins s1 σ H1 _ I1 q1) fun u s2 ⟨y,H2,I2,r2,q2⟩=>?_
 exact hf v u s2 x y H2 I2 r1 r2 q2
theorem qA {op:Operator}{r:R2}(ho:k9 X (binaryOp op) r)(ha:PE X a ta)(hb:PE X b tb):PE X (.BinOp a op b pos) (Jx r ta tb):=by
 intro pins s σ H Q I h
 exact wpAny_BinOp (Gv ha hb I h fun v u s2 x y H2 I2 rx ry q=>ho pins s2 σ H2 x y v u Q I2 rx ry q)
theorem BQ {op:UnaryOp}{r:V->Hp->VK->Prop}(ho:JN X (unaryOp op) r)(ha:PE X a ta):PE X (.UnaryOp op a pos) (Lo r ta):=by
 intro pins s σ H Q I h
 exact UnaryOp_ (bW (ha pins s σ H _ I h) fun v s1 ⟨x,H1,I1,r1,q1⟩=>ho pins s1 σ H1 x v Q I1 r1 q1)
theorem JE {f:Value->Value->Sem Value}{C:Int->Int->Prop}{g:Int->Int->Int}
  (rule:∀(i j:Int) (t u:Tok) (s:Shared) (Q:Value->Shared->Prop) (E:Value->Shared->Prop),C i j->Q (.int (g i j) s.toks) {s with toks:=s.toks + 1}->wpAny (model X.prog X.w) X.A (f (.int i t) (.int j u)) Q E s) :
  k9 X f (rI C fun i j=>.int (g i j)):=by
 intro pins s σ H x y v u Q I rx ry h
 obtain⟨i,j,rfl,rfl,hc,q⟩:=h
 obtain⟨t,rfl⟩:=rx
 obtain⟨t',rfl⟩:=ry
 exact rule i j t t' s _ _ hc ⟨.int (g i j),H,I.tok _,⟨_,rfl⟩,q⟩
theorem HE {f:Value->Value->Sem Value}{g:Int->Int->Int}
  (rule:∀(i j:Int) (t u:Tok) (s:Shared) (Q:Value->Shared->Prop) (E:Value->Shared->Prop),Q (.int (g i j) s.toks) {s with toks:=s.toks + 1}->wpAny (model X.prog X.w) X.A (f (.int i t) (.int j u)) Q E s) :
  k9 X f (zp fun i j=>.int (g i j)):=by
 intro pins s σ H x y v u Q I rx ry h
 obtain⟨i,j,rfl,rfl,q⟩:=h
 obtain⟨t,rfl⟩:=rx
 obtain⟨t',rfl⟩:=ry
 exact rule i j t t' s _ _ ⟨.int (g i j),H,I.tok _,⟨_,rfl⟩,q⟩
theorem GN {f:Value->Value->Sem Value}{g:Int->Int->Bool}
  (rule:∀(i j:Int) (t u:Tok) (s:Shared) (Q:Value->Shared->Prop) (E:Value->Shared->Prop),Q (.bool (g i j)) s->wpAny (model X.prog X.w) X.A (f (.int i t) (.int j u)) Q E s) :
  k9 X f (zp fun i j=>.bl (g i j)):=by
 intro pins s σ H x y v u Q I rx ry h
 obtain⟨i,j,rfl,rfl,q⟩:=h
 obtain⟨t,rfl⟩:=rx
 obtain⟨t',rfl⟩:=ry
 exact rule i j t t' s _ _ ⟨.bl (g i j),H,I,rfl,q⟩
def Dg (i j:Int):Prop:=0 < j/\j < 1073741824
def GA (i j:Int):Prop:=0<=j/\j<=1000000/\i.natAbs < 2 ^ 64
def Co (i j:Int):Prop:=(-(2 ^ 64) < i/\i < 2 ^ 64)\/(-(2 ^ 64) < j/\j < 2 ^ 64)
theorem Co.ok {i j:Int}(h:Co i j):IntMulOk i j:=by
 rcases h with⟨h1,h2⟩ | ⟨h1,h2⟩
 ·exact .of_left (intBits_le_64 h1 h2)
 ·exact .of_right (intBits_le_64 h1 h2)
theorem ji:k9 X (binaryOp .Add) (zp fun i j=>.int (i + j)):=HE fun _ _ _ _ _ _ _ q=>add_int q
theorem GC:k9 X (binaryOp .Sub) (zp fun i j=>.int (i - j)):=HE fun _ _ _ _ _ _ _ q=>sub_int q
theorem jR:k9 X (binaryOp .Mult) (rI Co fun i j=>.int (i * j)):=JE fun _ _ _ _ _ _ _ hc q=>mul_int q hc.ok
theorem lE:k9 X (binaryOp .FloorDiv) (rI Dg fun i j=>.int (i / j)):=JE fun i j _ _ _ _ _ hc q=>by
 have h1:(0:Int) < j:=hc.1
 have h2:j < 1073741824:=hc.2
 exact floordiv_int (by omega) (by rw[Int.fdiv_eq_ediv_of_nonneg i (by omega)];exact q) (.inl (PyProof.noPylong_small (by omega)))
theorem ll:k9 X (binaryOp .Mod) (rI (fun _ j=>0 < j) fun i j=>.int (i % j)):=JE fun i j _ _ _ _ _ hc q=>by
 have h1:(0:Int) < j:=hc
 exact mod_int' (by omega) (by rw[Int.fmod_eq_emod_of_nonneg i (by omega)];exact q)
theorem Ha:k9 X (binaryOp .Pow) (rI GA fun i j=>.int (i ^ j.toNat)):=JE fun _ _ _ _ _ _ _ hc q=>pow_int_small hc.1 hc.2.1 hc.2.2 q
theorem Lk {f:Value->Sem Value}{g:Int->Int}
  (rule:∀(i:Int) (t:Tok) (s:Shared) (Q:Value->Shared->Prop) (E:Value->Shared->Prop),Q (.int (g i) s.toks) {s with toks:=s.toks + 1}->wpAny (model X.prog X.w) X.A (f (.int i t)) Q E s) :
  JN X f (rU fun i=>.int (g i)):=by
 intro pins s σ H x v Q I rx h
 obtain⟨i,rfl,q⟩:=h
 obtain⟨t,rfl⟩:=rx
 exact rule i t s _ _ ⟨.int (g i),H,I.tok _,⟨_,rfl⟩,q⟩
theorem si:JN X (unaryOp .USub) (rU fun i=>.int (-i)):=Lk fun _ _ _ _ _ q=>neg_int q
end
def Kc:V->V->Bool
 | .non,.non=>true | .non,.int _=>true | .int _,.non=>true | .non,.bl _=>true | .bl _,.non=>true | .non,.str _=>true | .str _,.non=>true
 | .int _,.int _=>true | .bl _,.bl _=>true | .str _,.str _=>true | .byt _,.byt _=>true
 | .int _,.str _=>true | .str _,.int _=>true | .bl _,.str _=>true | .str _,.bl _=>true
 |_,_=>false
def K0:R2:=fun x y H Q=>Kc x y=true/\Q (.bl (!decide (x=y))) H
theorem Dt {i j:Int}:decide (V.int i=V.int j)=(i == j):=by
 rw[Bool.eq_iff_iff]
 simp
theorem Fm {i j:Bool}:decide (V.bl i=V.bl j)=(i == j):=by
 rw[Bool.eq_iff_iff]
 simp
theorem DK {i j:Str}:decide (V.str i=V.str j)=(i == j):=by
 rw[Bool.eq_iff_iff]
 simp
theorem DV {i j:Array UInt8}:decide (V.byt i=V.byt j)=(i.toList == j.toList):=by
 rw[Bool.eq_iff_iff]
 cases i
 cases j
 simp
section
variable {X:Cx}{a b c:Expr}{ta tb tc:TE}{pos:Pos}
theorem de {pins:List (Addr×Obj)}{σ:St}{H:Hp}{s:Shared}{Q:VK}{k k':Bool}(I:Inv X pins σ H s)(q:Q (.bl k) H)(e:k=k'):EP X pins σ Q (.bool k') s:=by
 subst e
 exact⟨.bl k,H,I,rfl,q⟩
theorem Ie:k9 X (compareOp .NotEq) K0:=by
 intro pins s σ H x y v u Q I rx ry h
 obtain⟨hs,q⟩:=h
 cases x with
 |non=>
  cases rx
  cases y with
  |non=>cases ry;exact PySem.EqNone.ne_none_none (de I q (by simp))
  |bl j=>cases ry;exact PySem.EqNone.ne_none_bool (de I q (by simp))
  |int j=>obtain⟨t',rfl⟩:=ry;exact PySem.EqNone.ne_none_int (de I q (by simp))
  |str j=>obtain⟨t',rfl⟩:=ry;exact PySem.EqNone.ne_none_str (de I q (by simp))
  |_=>exact absurd (show false=true from hs) Bool.false_ne_true
 |bl i=>
  cases rx
  cases y with
  |non=>cases ry;exact PySem.EqNone.ne_bool_none (de I q (by simp))
  |bl j=>cases ry;exact ne_bool (de I q (congrArg not Fm))
  |str j=>obtain⟨t',rfl⟩:=ry;exact PySem.EqMixed.ne_bool_str (de I q (by simp))
  |_=>exact absurd (show false=true from hs) Bool.false_ne_true
 |int i=>
  obtain⟨t,rfl⟩:=rx
  cases y with
  |non=>cases ry;exact PySem.EqNone.ne_int_none (de I q (by simp))
  |int j=>obtain⟨t',rfl⟩:=ry;exact ne_int (de I q (congrArg not Dt))
  |str j=>obtain⟨t',rfl⟩:=ry;exact PySem.EqMixed.ne_int_str (de I q (by simp))
  |_=>exact absurd (show false=true from hs) Bool.false_ne_true
 |str i=>
  obtain⟨t,rfl⟩:=rx
  cases y with
  |non=>cases ry;exact PySem.EqNone.ne_str_none (de I q (by simp))
  |bl j=>cases ry;exact PySem.EqMixed.ne_str_bool (de I q (by simp))
  |int j=>obtain⟨t',rfl⟩:=ry;exact PySem.EqMixed.ne_str_int (de I q (by simp))
  |str j=>obtain⟨t',rfl⟩:=ry;exact ne_str (de I q (congrArg not DK))
  |_=>exact absurd (show false=true from hs) Bool.false_ne_true
 |byt i=>
  obtain⟨t,rfl⟩:=rx
  cases y with
  |byt j=>obtain⟨t',rfl⟩:=ry;exact PySem.W.ne_bytes (de I q (congrArg not DV))
  |_=>exact absurd (show false=true from hs) Bool.false_ne_true
 |_=>cases y <;> exact absurd (show false=true from hs) Bool.false_ne_true
theorem oU:k9 X (compareOp .Lt) (zp fun i j=>.bl (decide (i < j))):=GN fun _ _ _ _ _ _ _ q=>lt_int q
theorem CD:k9 X (compareOp .LtE) (zp fun i j=>.bl (decide (i<=j))):=GN fun _ _ _ _ _ _ _ q=>le_int q
theorem A9:k9 X (compareOp .Gt) (zp fun i j=>.bl (decide (j < i))):=GN fun _ _ _ _ _ _ _ q=>gt_int q
theorem aX (b:Expr){op:CmpOp}(h:op≠.In:=by decide)(h2:op≠.NotIn:=by decide):behindInMarks op b=false:=by
 have e1:(op == CmpOp.In)=false:=by cases op <;> first |rfl |exact absurd rfl h
 have e2:(op == CmpOp.NotIn)=false:=by cases op <;> first |rfl |exact absurd rfl h2
 cases b <;> simp[behindInMarks,e1,e2]
theorem CZ {op:CmpOp}{r:R2}(ho:k9 X (compareOp op) r)(ha:PE X a ta)(hb:PE X b tb)(hm:behindInMarks op b=false):PE X (.Compare a [op] [b] pos) (Jx r ta tb):=by
 intro pins s σ H Q I h
 exact wpAny_Compare1 (Gv ha hb I h fun v u s2 x y H2 I2 rx ry q=>ho pins s2 σ H2 x y v u Q I2 rx ry q) hm
def Jp (t:TE):TT:=fun σ H Q=>t σ H fun x H'=>∃k,x=.bl k/\Q k H'
theorem Eo {op:CmpOp}{r:R2}(ho:k9 X (compareOp op) r)(ha:PE X a ta)(hb:PE X b tb)(hm:behindInMarks op b=false):PT X (.Compare a [op] [b] pos) (Jp (Jx r ta tb)):=by
 intro pins s σ H Q I h
 refine wpAny_isTrue_Compare1 (bW (ha pins s σ H _ I h) fun v s1 ⟨x,H1,I1,r1,q1⟩=>bW (hb pins s1 σ H1 _ I1 q1) fun u s2 ⟨y,H2,I2,r2,q2⟩=>
  bW (ho pins s2 σ H2 x y v u _ I2 r1 r2 q2) fun c s3 ⟨z,H3,I3,r3,k,e,q3⟩=>?_) hm
 subst e
 cases r3
 exact wpAny_truthy_bool ⟨H3,I3,q3⟩
def GH (r r':R2)(ta tb tc:TE):TE:=fun σ H Q=>ta σ H fun x H1=>tb σ H1 fun y H2=>r x y H2 fun z H3=>∃k,z=.bl k/\
 (if k=true then tc σ H3 fun w' H4=>r' y w' H4 Q else Q (.bl false) H3)
theorem Ar {op op':CmpOp}{r r':R2}(ho:k9 X (compareOp op) r)(ho':k9 X (compareOp op') r')(ha:PE X a ta)(hb:PE X b tb)(hc:PE X c tc)
  (hm:lastMarks [op,op'] [b,c]=false:=by with_unfolding_all rfl):PE X (.Compare a [op,op'] [b,c] pos) (GH r r' ta tb tc):=by
 intro pins s σ H Q I h
 refine Compare_chain (bW (ha pins s σ H _ I h) fun v s1 ⟨x,H1,I1,r1,q1⟩=>chain_link (bW (hb pins s1 σ H1 _ I1 q1) fun u s2 ⟨y,H2,I2,r2,q2⟩=>
  bW (ho pins s2 σ H2 x y v u _ I2 r1 r2 q2) fun d s3 ⟨z,H3,I3,r3,k,e,q3⟩=>?_)) hm
 subst e
 cases r3
 refine wpAny_truthy_bool ?_
 cases k with
 |false=>exact ite_ff ⟨.bl false,H3,I3,rfl,q3⟩
 |true=>exact ite_tt (chain_last (bW (hc pins s3 σ H3 _ I3 q3) fun w' s4 ⟨z',H4,I4,r4,q4⟩=>ho' pins s4 σ H4 y z' u w' Q I4 r2 r4 q4))
def Im (K:PySem.W.Frag)(x:V)(H:Hp)(k:Bool):Prop:=
 match x with
 | .non=>k=false
 | .bl b=>k=b
 | .int i=>k=(i != 0)
 | .str y=>y.length<=sizeLine/\k=((y.length:Int) != 0)
 | .byt y=>y.size<=sizeLine/\k=((y.size:Int) != 0)
 | .ref p=>(∃xs,fR K H p xs/\k= !xs.isEmpty)\/(∃xs,c7 K H p xs/\k= !xs.isEmpty)\/∃kvs,H p=some (.dK kvs)/\k= !kvs.isEmpty
 |_=>False
theorem wI {κ:Type}{kvs:List (κ×V)}{vs:List (κ×Value)}(r:KV kvs vs):(!vs.isEmpty)= !kvs.isEmpty:=by
 cases r <;> rfl
theorem oY {xs:List V}{its:List Value}(r:Vals xs its):(!its.toArray.isEmpty)= !xs.isEmpty:=by
 cases r <;> simp
theorem mI:(sizeLine:Nat) < 2 ^ 63:=by rw[sizeLine_eq];decide
theorem Fj:Kb X (fun x H Q=>∃k,Im X.K x H k/\Q k H):=by
 intro pins s σ H x v Q I rx h
 obtain⟨k,e,q⟩:=h
 have hl:=mI
 have hs:sizeLine=16777216:=sizeLine_eq
 cases x with
 |non=>
  cases rx
  have e':k=false:=e
  subst e'
  exact truthy_none ⟨H,I,q⟩
 |bl b=>
  cases rx
  have e':k=b:=e
  subst e'
  exact wpAny_truthy_bool ⟨H,I,q⟩
 |int i=>
  obtain⟨t,rfl⟩:=rx
  have e':k=(i != 0):=e
  subst e'
  exact PySem.P.truthy_int ⟨H,I,q⟩
 |str y=>
  obtain⟨t,rfl⟩:=rx
  obtain⟨hy,e'⟩:y.length<=sizeLine/\k=((y.length:Int) != 0):=e
  subst e'
  exact PySem.P.truthy_str (by omega) ⟨H,I.tok _,q⟩
 |byt y=>
  obtain⟨t,rfl⟩:=rx
  obtain⟨hy,e'⟩:y.size<=sizeLine/\k=((y.size:Int) != 0):=e
  subst e'
  exact PySem.W.truthy_bytes (by omega) ⟨H,I.tok _,q⟩
 |ref p=>
  cases rx
  have e':(∃xs,fR X.K H p xs/\k= !xs.isEmpty)\/(∃xs,c7 X.K H p xs/\k= !xs.isEmpty)\/∃kvs,H p=some (.dK kvs)/\k= !kvs.isEmpty:=e
  rcases e' with⟨xs,hx,e'⟩ | ⟨xs,hx,e'⟩ | ⟨kvs,hx,e'⟩
  ·subst e'
   obtain⟨its,r,pl,hz⟩:=I.list hx
   have hlen:=r.length
   exact wpAny_truthy_list pl.isList (by simp only[List.size_toArray];omega) ⟨H,I.tok _,by rw[oY r];exact q⟩
  ·subst e'
   obtain⟨its,r,pl,hz⟩:=I.tuple hx
   have hlen:=r.length
   exact truthy_tuple pl (by simp only[List.size_toArray];omega) ⟨H,I.tok _,by rw[oY r];exact q⟩
  ·subst e'
   obtain⟨hz,hS,vs,r,m⟩:kvs.length<=sizeLine/\(p == sysModules)=false/\∃vs,KV kvs vs/\s.heap.DictOf (c4 X.prog X.w) p vs:=I.hok p _ hx
   have hlen:kvs.length=vs.length:=Paired.length r
   exact wpAny_truthy_dict hS m (by omega) ⟨H,I.tok _,by rw[wI r];exact q⟩
 |_=>exact (show False from e).elim
theorem Cg (ha:PE X a ta)(he:∀whole,isTrue a X.env whole=(do let v <-whole;standAt a.pos;holding [v] (truthy v))) :
  PT X a (fun σ H Q=>ta σ H fun x H'=>∃k,Im X.K x H' k/\Q k H'):=by
 intro pins s σ H Q I h
 exact isTrue_plain (bW (ha pins s σ H _ I h) fun v s1 ⟨x,H1,I1,r1,q1⟩=>Fj pins s1 σ H1 x v Q I1 r1 q1) (he _)
theorem vals1 {x:V}{us:List Value}(r:Vals [x] us):∃u,us= [u]/\RelV x u:=by
 cases r with
 |cons r1 r2=>cases r2;exact⟨_,rfl,r1⟩
theorem vals2 {x y:V}{us:List Value}(r:Vals [x,y] us):∃u w',us= [u,w']/\RelV x u/\RelV y w':=by
 cases r with
 |cons r1 r2=>
  cases r2 with
  |cons r3 r4=>cases r4;exact⟨_,_,rfl,r1,r3⟩
theorem AF:b8 X (.builtin "abs") (fun xs H Q=>∃i,xs= [.int i]/\Q (.int (if i < 0 then -i else i)) H):=by
 intro pins s σ H xs us Q I r h
 obtain⟨i,rfl,q⟩:=h
 obtain⟨u,rfl,t,rfl⟩:=vals1 r
 exact call_abs_int fun u tk=>⟨.int (if i < 0 then -i else i),H,I.tok _,⟨_,rfl⟩,q⟩
theorem zz (hc:X.calm=true):b8 X (.builtin "max") (fun xs H Q=>∃i j,xs= [.int i,.int j]/\Q (.int (if j > i then j else i)) H):=by
 intro pins s σ H xs us Q I r h
 obtain⟨i,j,rfl,q⟩:=h
 obtain⟨u,w',rfl,⟨t,rfl⟩,⟨t',rfl⟩⟩:=vals2 r
 refine max_two_ints (I.ok.hd hc) fun h' tk k=>⟨_,H,I.kept k,?_,q⟩
 by_cases hj:j > i
 ·rw[if_pos hj,if_pos hj];exact⟨_,rfl⟩
 ·rw[if_neg hj,if_neg hj];exact⟨_,rfl⟩
theorem zc (hc:X.calm=true):b8 X (.builtin "min") (fun xs H Q=>∃i j,xs= [.int i,.int j]/\Q (.int (if j < i then j else i)) H):=by
 intro pins s σ H xs us Q I r h
 obtain⟨i,j,rfl,q⟩:=h
 obtain⟨u,w',rfl,⟨t,rfl⟩,⟨t',rfl⟩⟩:=vals2 r
 refine min_two_ints (I.ok.hd hc) fun h' tk k=>⟨_,H,I.kept k,?_,q⟩
 by_cases hj:j < i
 ·rw[if_pos hj,if_pos hj];exact⟨_,rfl⟩
 ·rw[if_neg hj,if_neg hj];exact⟨_,rfl⟩
def IP (K:PySem.W.Frag)(x:V)(H:Hp)(n:Nat):Prop:=
 match x with
 | .str y=>y.length<=sizeLine/\n=y.length
 | .byt y=>y.size<=sizeLine/\n=y.size
 | .ref p=>(∃xs,fR K H p xs/\n=xs.length)\/∃xs,c7 K H p xs/\n=xs.length
 |_=>False
theorem bN:b8 X (.builtin "len") (fun xs H Q=>∃x n,xs= [x]/\IP X.K x H n/\Q (.int n) H):=by
 intro pins s σ H xs us Q I r h
 obtain⟨x,n,rfl,e,q⟩:=h
 obtain⟨u,rfl,rx⟩:=vals1 r
 have hl:=mI
 have hs:sizeLine=16777216:=sizeLine_eq
 cases x with
 |str y=>
  obtain⟨t,rfl⟩:=rx
  obtain⟨hy,e'⟩:y.length<=sizeLine/\n=y.length:=e
  subst e'
  exact len_str (by omega) ⟨.int _,H,I.tok _,⟨_,rfl⟩,q⟩
 |byt y=>
  obtain⟨t,rfl⟩:=rx
  obtain⟨hy,e'⟩:y.size<=sizeLine/\n=y.size:=e
  subst e'
  exact PySem.W.len_bytes (by omega) ⟨.int _,H,I.tok _,⟨_,rfl⟩,q⟩
 |ref p=>
  cases rx
  have e':(∃xs,fR X.K H p xs/\n=xs.length)\/∃xs,c7 X.K H p xs/\n=xs.length:=e
  rcases e' with⟨xs,hx,e'⟩ | ⟨xs,hx,e'⟩
  ·subst e'
   obtain⟨its,r',pl,hz⟩:=I.list hx
   have hlen:=r'.length
   exact Calls.call_len_list pl.isList (by simp only[List.size_toArray];omega) ⟨.int xs.length,H,I.tok _,⟨_,by simp only[List.size_toArray];rw[hlen]⟩,q⟩
  ·subst e'
   obtain⟨its,r',pl,hz⟩:=I.tuple hx
   have hlen:=r'.length
   exact len_tuple pl (by simp only[List.size_toArray];omega) ⟨.int xs.length,H,I.tok _,⟨_,by simp only[List.size_toArray];rw[hlen]⟩,q⟩
 |_=>exact (show False from e).elim
theorem vb:b8 X (.builtin "divmod") (fun xs H Q=>∃i j,xs= [.int i,.int j]/\Dg i j/\∀p,H p=none->Q (.ref p) (upd H p (.tup [.int (i / j),.int (i % j)]))):=by
 intro pins s σ H xs us Q I r h
 obtain⟨i,j,rfl,⟨h1,h2⟩,q⟩:=h
 obtain⟨u,w',rfl,⟨t,rfl⟩,⟨t',rfl⟩⟩:=vals2 r
 refine divmod_int (by omega) ?_ (.inl (PyProof.noPylong_small (by omega)))
 rw[Int.fdiv_eq_ediv_of_nonneg i (by omega),Int.fmod_eq_emod_of_nonneg i (by omega)]
 have hn:H s.heap.objs.size=none:=I.hok.fresh (Nat.le_refl _)
 refine⟨.ref s.heap.objs.size,_,?_,rfl,q _ hn⟩
 refine I.laid (fun b o e=>Heap.get?_push_of_some _ e) (Nat.le_refl _) ⟨by simp only[List.length_cons,List.length_nil];rw[sizeLine_eq];decide,[.int (i / j) s.toks,.int (i % j) (s.toks + 1)],.cons ⟨_,rfl⟩ (.cons ⟨_,rfl⟩ .nil),?_⟩
 exact⟨_,Heap.get?_push_size s.heap rfl,rfl,0,rfl,rfl⟩
end
end L2
namespace L2
open PySem PySem.Spec PyProof.Rows
structure GF (h:Heap)(x dx C:Addr)(mA:Str->Option Value):Prop where
 obj:h.get? x=some (PySem.W.instObj C dx)
 ns:h.Ns1 dx mA
 ne:dx≠x
theorem zf {h:Heap}{dx:Addr}{mA:Str->Option Value}(n:h.Ns1 dx mA):∃od,h.get? dx=some od/\∀name,PySem.W.lookIn name od=some (mA name):=by
 obtain⟨o,es,ep,ho,hd,hk,_,hm⟩:=n
 refine⟨o,ho,fun name=>?_⟩
 have e:=hm name
 unfold nsFind findBy at e
 rw[<-Array.find?_toList] at e
 unfold PySem.W.lookIn
 rw[hd]
 dsimp only
 split
 ·rename_i y q
  rw[q] at e
  exact congrArg some e
 ·rename_i q
  rw[q] at e
  have a:es.toList.any (·.refKey)=false:=by
   rw[List.any_eq_false]
   intro y hy
   obtain⟨z,t,hkey⟩:=hk y (Array.mem_toList_iff.mp hy)
   simp[DictEntry.refKey,hkey]
  have a':¬es.toList.any (·.refKey)=true:=by rw[a];exact Bool.false_ne_true
  rw[if_neg a']
  exact congrArg some e
theorem GF.look {h:Heap}{x dx C:Addr}{mA:Str->Option Value}(I:GF h x dx C mA):∃od,PySem.W.InstAt h x (PySem.W.instObj C dx) C (some od)/\∀name,PySem.W.lookIn name od=some (mA name):=
 let ⟨od,ho,hl⟩:=zf I.ns
 ⟨od,⟨I.obj,rfl,rfl,ho⟩,hl⟩
section
variable {P:Program}{w:World}{H H':Hp}{h h':Heap}{a C dx:Addr}{fs fs':List (Str×V)}
theorem EF (hok:kf P w H h)(e:H a=some (.ins C dx fs)):∃mA,GF h a dx C mA/\(∀f,Fp (fs.lookup f) (mA f))/\PySem.Within mA (fs.map (·.1))/\fs.length<=1000/\H dx=some (.own a):=by
 obtain⟨d,z,ne,ob,mA,n,r,q⟩:=(show bw P w H h a (.ins C dx fs) from hok a _ e)
 exact⟨mA,⟨ob,n,ne⟩,r,q,z,d⟩
end
structure J5 (K:PySem.W.Frag)(C:Addr):Prop where
 pg:PySem.W.plainGet K C Str.empty=true
 hd:PySem.W.hasDictIn K C=true
 po:PySem.W.plainOver K C=true
 sa:PySem.W.findIn K (.ref C) "__setattr__"=some (some (.builtin "object.__setattr__"))
theorem J5.get {K:PySem.W.Frag}{C:Addr}(c:J5 K C)(f:Str):PySem.W.plainGet K C f=true:=c.pg
section
variable {X:Cx}{pins:List (Addr×Obj)}{σ:St}{H:Hp}{s:Shared}{A:Around}{E:Value->Shared->Prop}{Q:Value->Shared->Prop}{c:Value}{b:Bool}
inductive nq (K:PySem.W.Frag)(H:Hp):V->Value->Prop where
 |non:nq K H .non (.type "NoneType")
 |bl (x:Bool):nq K H (.bl x) (.type "bool")
 |int (i:Int):nq K H (.int i) (.type "int")
 |str (x:Str):nq K H (.str x) (.type "str")
 |flt (x:UInt64):nq K H (.flt x) (.type "float")
 |lst {a:Addr} {xs:List V} (e:H a=some (.lst xs)):nq K H (.ref a) (.type "list")
 |a7 {a:Addr} {o:Obj} {xs:List V} (e:H a=some (.a7 o (.lst xs))):nq K H (.ref a) (.type "list")
 |tup {a:Addr} {xs:List V} (e:H a=some (.tup xs)):nq K H (.ref a) (.type "tuple")
 |dK {a:Addr} {kvs:List (Key×V)} (e:H a=some (.dK kvs)):nq K H (.ref a) (.type "dict")
 |dT {a:Addr} {kvs:List (List Key×V)} (e:H a=some (.dT kvs)):nq K H (.ref a) (.type "dict")
 |ins {a C dx:Addr} {fs:List (Str×V)} (e:H a=some (.ins C dx fs)) (cl:J5 K C) (ha:PySem.W.findIn K (.ref C) "__class__"=some (some (.builtin "object.__class__")))
   (hn:PySem.W.specialIn K (.builtin "object.__class__") "__get__"=some (some (.builtin "getset_descriptor.__get__"))) (htk:PySem.W.takesIn K (.builtin "object.__class__")=some true)
   (hm:PySem.W.mroIn K C (.type "object")=some true):nq K H (.ref a) (.ref C)
theorem iS {x:V}{u t:Value}(I:Inv X pins σ H s)(rx:RelV x u)(ty:nq X.K H x t)(e:PySem.W.kitOne X.K t c=some b)(h:∀tk,Q (.bool b) {s with toks:=tk}) :
  wpAny (model X.prog X.w) A (call (.builtin "isinstance") [u,c]) Q E s:=by
 cases ty with
 |non=>cases (show u=Value.none from rx);exact PySem.W.kia_one PySem.W.kitx_none I.kIn True.intro e (fun z=>nomatch z) h
 |bl y=>cases (show u=Value.bool y from rx);exact PySem.W.kia_one PySem.W.kitx_bool I.kIn True.intro e (fun z=>nomatch z) h
 |int i=>obtain⟨t,q⟩:=(show ∃t,u=Value.int i t from rx);cases q;exact PySem.W.kia_one PySem.W.kitx_int I.kIn True.intro e (fun z=>nomatch z) h
 |str y=>obtain⟨t,q⟩:=(show ∃t,u=Value.str y t from rx);cases q;exact PySem.W.kia_one PySem.W.kitx_str I.kIn True.intro e (fun z=>nomatch z) h
 |flt y=>obtain⟨t,q⟩:=(show ∃t,u=Value.float y t from rx);cases q;exact PySem.W.kia_one PySem.W.kitx_float I.kIn True.intro e (fun z=>nomatch z) h
 | @lst a xs ea=>
  cases (show u=Value.ref a from rx)
  obtain⟨_,_,n,_,h1⟩:=(show bw X.prog X.w H s.heap a (.lst xs) from I.hok a _ ea)
  exact PySem.W.kia_one PySem.W.kitx_list I.kIn ⟨_,h1,rfl⟩ e (fun z=>nomatch z) h
 | @a7 a ob xs ea=>
  cases (show u=Value.ref a from rx)
  obtain⟨_,_,_,n,_,h1⟩:=(show bw X.prog X.w H s.heap a (.a7 ob (.lst xs)) from I.hok a _ ea)
  exact PySem.W.kia_one PySem.W.kitx_list I.kIn ⟨_,h1,rfl⟩ e (fun z=>nomatch z) h
 | @tup a xs ea=>
  cases (show u=Value.ref a from rx)
  obtain⟨_,_,_,p⟩:=(show bw X.prog X.w H s.heap a (.tup xs) from I.hok a _ ea)
  obtain⟨o,h1,h2,_⟩:=p
  exact PySem.W.kia_one PySem.W.kitx_tuple I.kIn ⟨o,h1,h2⟩ e (fun z=>nomatch z) h
 | @dK a kvs ea=>
  cases (show u=Value.ref a from rx)
  obtain⟨_,_,vs,_,p⟩:=(show bw X.prog X.w H s.heap a (.dK kvs) from I.hok a _ ea)
  obtain⟨o,es,ep,h1,h2,_⟩:=p
  exact PySem.W.kia_one PySem.W.kitx_dict I.kIn ⟨o,h1,h2.1⟩ e (fun z=>nomatch z) h
 | @dT a kvs ea=>
  cases (show u=Value.ref a from rx)
  obtain⟨_,_,xs,_,o,es,ep,h1,h2,_⟩:=(show bw X.prog X.w H s.heap a (.dT kvs) from I.hok a _ ea)
  exact PySem.W.kia_one PySem.W.kitx_dict I.kIn ⟨o,h1,h2.1⟩ e (fun z=>nomatch z) h
 | @ins a C dx fs ea cl ha hn htk hm=>
  cases (show u=Value.ref a from rx)
  obtain⟨mA,O,_⟩:=EF I.hok ea
  obtain⟨od,J,_⟩:=O.look
  exact PySem.W.kia_one (PySem.W.kitx_own (cl.get _) cl.hd ha hn htk hm) I.kIn J e (fun z=>nomatch z) h
end
end L2
namespace L2
open PySem PySem.Spec PyProof.Rows
structure eT (k:Nat)(A:Around):Prop where
 hd:A.handled=none
 dp:A.depth + 3 * k + 5 < recursionLimit
 un:A.units + 16 * k + 200 < cLine
 gd:A.guards=some []
theorem eT.mono {j k:Nat}{A:Around}(r:eT k A)(h:j<=k):eT j A:=⟨r.hd,by have:=r.dp;omega,by have:=r.un;omega,r.gd⟩
theorem eT.deeper {k:Nat}{A:Around}(r:eT (k + 1) A)(env:Env):eT k (A.deeper env):=
 ⟨r.hd,by have:=r.dp;show A.depth + 1 + 3 * k + 5 < _;omega,by have:=r.un;show A.units + 3 + 16 * k + 200 < _;omega,r.gd⟩
theorem eT.depth {k:Nat}{A:Around}(r:eT k A):A.depth < recursionLimit:=by have:=r.dp;omega
theorem eT.units {k:Nat}{A:Around}(r:eT k A):A.units + 64 < cLine:=by have:=r.un;omega
def J2:TA:=fun _ H Q=>Q [] H
def Jm (ta:TE)(tr:TA):TA:=fun σ H Q=>ta σ H fun x H1=>tr σ H1 fun xs H2=>Q (x :: xs) H2
section
variable {X:Cx}{e:Expr}{es:List Expr}{te:TE}{t:TA}{pos:Pos}
theorem bg:PA X [] J2:=fun _ _ _ _ H Q I h=>Calls.spliced_nil ⟨[],H,I,.nil,h⟩
theorem aK (ha:PE X e te)(hr:PA X es t)(hs:starEach (e :: es) X.env=(false,eval e X.env) :: starEach es X.env:=by rfl):PA X (e :: es) (Jm te t):=by
 intro pos pins s σ H Q I h
 rw[hs]
 show wpAny _ _ (spliced ((false,eval e X.env) :: backTo pos (starEach es X.env))) _ _ s
 refine Calls.spliced_cons (bW (ha pins s σ H _ I h) fun u s1 ⟨x,H1,I1,r1,q1⟩=>?_)
 exact bW (hr pos pins s1 σ H1 _ I1 q1) fun us s2 ⟨xs,H2,I2,r2,q2⟩=>⟨x :: xs,H2,I2,.cons r1 r2,q2⟩
def KO (t:TA):TE:=fun σ H Q=>t σ H fun xs H1=>xs.length<=sizeLine/\∀p,H1 p=none->Q (.ref p) (upd H1 p (.tup xs))
def KL (t:TA):TE:=fun σ H Q=>t σ H fun xs H1=>xs.length<=sizeLine/\∀p,H1 p=none->Q (.ref p) (upd H1 p (.lst xs))
theorem wO {x1}(h:PA X es t):PE X (.Tuple es x1 pos) (KO t):=by
 intro pins s σ H Q I hq
 refine wpAny_Tuple_spliced (bW (h pos pins s σ H _ I hq) fun us s1 ⟨xs,H1,I1,r,z,q⟩=>⟨by rw[<-r.length];exact z,?_⟩)
 have hf:H1 s1.heap.objs.size=none:=I1.hok.fresh (Nat.le_refl _)
 refine⟨.ref s1.heap.objs.size,upd H1 s1.heap.objs.size (.tup xs),I1.laid (t':=s1.toks) (fun b u e=>Heap.get?_push_of_some _ e) (Nat.le_refl _) ?_,rfl,q _ hf⟩
 exact⟨z,us,r,nE.new _ _⟩
theorem Az (h:PA X es t):PE X (.List es pos) (KL t):=by
 intro pins s σ H Q I hq
 refine wpAny_List_spliced (bW (h pos pins s σ H _ I hq) fun us s1 ⟨xs,H1,I1,r,z,q⟩=>⟨by rw[<-r.length];exact z,?_⟩)
 have hf:H1 s1.heap.objs.size=none:=I1.hok.fresh (Nat.le_refl _)
 refine⟨.ref s1.heap.objs.size,upd H1 s1.heap.objs.size (.lst xs),I1.laid (t':=s1.toks) (fun b u e=>Heap.get?_push_of_some _ e) (Nat.le_refl _) ?_,rfl,q _ hf⟩
 exact⟨z,us,0,r,Heap.get?_push_size _ rfl⟩
end
abbrev Sp:=List V->Hp->VK->XK->Prop
abbrev zW:=List Env->Hp->Shared->XK->Value->Shared->Prop
structure Ds (P:Program)(w:World)(K:PySem.W.Frag)(mg:Str->Option Value)(base:Heap)(A:Around)(outer:List Env)(s:Shared)(H:Hp):Prop where
 frames:A.frames=some outer
 mod:Mod K mg base
 bs:∀b o,base.get? b=some o->s.heap.get? b=some o/\H b=none
 bsz:base.objs.size<=s.heap.objs.size
 funs:s.heap.FunFrames base outer
 frf:∀b∈iB outer,H b=none
 hok:kf P w H s.heap
 bare:AllBare s.gens
def CE (outer:List Env)(P:Program)(w:World)(H:Hp)(s:Shared)(Q:VK)(u:Value)(s':Shared):Prop:=
 ∃v H',s'.os=s.os/\AllBare s'.gens/\Un (iB outer) [] H H' s.heap s'.heap/\kf P w H' s'.heap/\RelV v u/\Q v H'
def CR (CX:zW)(outer:List Env)(P:Program)(w:World)(H:Hp)(s:Shared)(Q:VK)(E:XK)(r:Result)(s':Shared):Prop:=
 match r with
 | .ok (.ret u)=>CE outer P w H s Q u s'
 | .ok _=>False
 | .error e=>CX outer H s E e s'
structure fy (P:Program)(w:World)(K:PySem.W.Frag)(mg:Str->Option Value)(base:Heap)(CX:zW)(k:Nat)(f:Addr)(fd:FuncData)(ps:List Str)(sp:Sp):Prop where
 len:∀vs H Q E,sp vs H Q E->vs.length=ps.length
 run:∀(A:Around) (outer:List Env) (s:Shared) (H:Hp) (args:Args) (us:List Value) (vs:List V) (Q:VK) (E:XK),eT k A->Ds P w K mg base A outer s H->BindsTo s fd args (ps.zip us)->Vals vs us->sp vs H Q E->
  codeAny (model P w) A (.call (.ref f) args) (CR CX outer P w H s Q E) s
theorem fy.mono {P:Program}{w:World}{K:PySem.W.Frag}{mg:Str->Option Value}{base:Heap}{CX:zW}{j k:Nat}{f:Addr}{fd:FuncData}{ps:List Str}{sp:Sp}(F:fy P w K mg base CX j f fd ps sp)(h:j<=k) :
  fy P w K mg base CX k f fd ps sp:=⟨F.len,fun A outer s H args us vs Q E hr=>F.run A outer s H args us vs Q E (hr.mono h)⟩
theorem fy.imp {P:Program}{w:World}{K:PySem.W.Frag}{mg:Str->Option Value}{base:Heap}{CX:zW}{k:Nat}{f:Addr}{fd:FuncData}{ps:List Str}{sp sp':Sp}(F:fy P w K mg base CX k f fd ps sp)
  (h:∀vs H Q E,sp' vs H Q E->sp vs H Q E):fy P w K mg base CX k f fd ps sp':=
 ⟨fun vs H Q E q=>F.len vs H Q E (h _ _ _ _ q),fun A outer s H args us vs Q E hr he hb hv hs=>F.run A outer s H args us vs Q E hr he hb hv (h _ _ _ _ hs)⟩
section
variable {X:Cx}{pins:List (Addr×Obj)}{σ:St}{H:Hp}{s s':Shared}
theorem Inv.env0 (I:Inv X pins σ H s):Ds X.prog X.w X.K X.mg X.base X.A X.stack s H:=
 ⟨I.ok.frames,I.ok.mod,I.bs,Nat.le_trans I.ok.bsz I.sz,I.stack,I.stkFree,I.hok,I.bare⟩
theorem Inv.after {Q:VK}{u:Value}(I:Inv X pins σ H s)(h:CE X.stack X.prog X.w H s Q u s'):EP X pins σ Q u s':=by
 obtain⟨v,H',os,bare,un,hok,r,q⟩:=h
 obtain⟨hh,g,d,t,os'⟩:=s'
 obtain rfl:os'=s.os:=os
 exact⟨v,H',I.call (h':=hh) (g':=g) (d':=d) (t':=t) (ch:=[]) un hok bare (fun b z=>absurd z (by simp)),r,q⟩
end
def HM (sp:Sp)(dvs:List V)(E:XK)(t:TA):TE:=fun σ H Q=>t σ H fun vs H1=>sp (vs ++ dvs) H1 Q E
def Binds (K:PySem.W.Frag)(fd:FuncData)(ps:List Str)(ds:List Value):Prop:=
 ∀(s:Shared) (us:List Value),K.In s.heap->(us ++ ds).length=ps.length->BindsTo s fd ⟨us,[]⟩ (ps.zip (us ++ ds))
theorem Binds.all {K:PySem.W.Frag}{fd:FuncData}{ps:List Str}(h:∀us:List Value,us.length=ps.length->bindArgs fd ⟨us,[]⟩=pure (ps.zip us)):Binds K fd ps []:=fun s us _ hl=>by
 rw[List.append_nil] at hl ⊢
 exact .of_eq (h us hl)
def Passes (CX:zW)(X:Cx)(E:XK):Prop:=∀(pins:List (Addr×Obj)) (σ:St) (H:Hp) (s:Shared) (e:Value) (s':Shared),Inv X pins σ H s->CX X.stack H s E e s'->X.xe e s'
section
variable {X:Cx}{CX:zW}{k:Nat}{f C:Addr}{fd:FuncData}{ps:List Str}{sp:Sp}{dvs:List V}{ds:List Value}{E:XK}{x m:Str}{p pos apos:Pos}{e o:Expr}{es:List Expr}{ta:TE}{t:TA}
theorem Gr {pins:List (Addr×Obj)}{σ:St}{H:Hp}{s:Shared}{Q:VK}{us:List Value}{vs:List V}(F:fy X.prog X.w X.K X.mg X.base CX k f fd ps sp)(hr:eT k X.A)(hb:Binds X.K fd ps ds)(hd:Vals dvs ds)(hx:Passes CX X E)
  (I:Inv X pins σ H s) (r:Vals vs us) (h:sp (vs ++ dvs) H Q E):wpAny (model X.prog X.w) X.A (call (.ref f) us) (EP X pins σ Q) X.xe s:=by
 have r2:Vals (vs ++ dvs) (us ++ ds):=r.append hd
 have hl:(us ++ ds).length=ps.length:=by rw[<-r2.length];exact F.len _ _ _ _ h
 refine wpAny_call (codeAny_mono (F.run X.A X.stack s H ⟨us,[]⟩ (us ++ ds) (vs ++ dvs) Q E hr I.env0 (hb s us I.kIn hl) r2 h) fun r s' hq=>?_)
 cases r with
 |error e=>exact hx pins σ H s e s' I hq
 |ok fl=>
  cases fl with
  |ret u=>exact I.after hq
  |next=>exact False.elim hq
  |brk=>exact False.elim hq
  |cont=>exact False.elim hq
theorem nX (F:fy X.prog X.w X.K X.mg X.base CX k f fd ps sp)(hr:eT k X.A)(hg:Gl X x)(hm:X.mg x=some (.ref f))(hk:PySem.W.keepIn X.K (.ref f)=true)(hb:Binds X.K fd ps ds)(hd:Vals dvs ds)(hx:Passes CX X E)
  (ha:PA X (e :: es) t) (hdb:(x == ("__debug__":Str))=false:=by decide) (he:starEach (e :: es) X.env=(false,eval e X.env) :: starEach es X.env:=by rfl) (hpl:(backTo pos (starEach es X.env)).any (·.1)=false:=by rfl) :
  PE X (.Call (.Name x p) (e :: es) [] pos) (HM sp dvs E t):=by
 intro pins s σ H Q I h
 refine wpAny_Call_Name_kw (sX I hg hm ?_ hdb)
 refine PySem.W.callWith_K (h₀:=X.base) I.ok.mod.kin hk (bW (ha pos pins s σ H _ I h) fun us s1 ⟨vs,H1,I1,r,q⟩=>⟨I1.kIn,?_⟩) he hpl
 exact Gr F hr hb hd hx I1 r q
end
structure aF (N P:List Str)(sc:Scope):Prop where
 kind:sc.kind=.function
 co:sc.isCoroutine=false
 gen:sc.isGenerator=false
 nd:N.Nodup
 pre:N.take P.length=P
 par:∀x∈P,sc.names.lookup x=some .local\/sc.names.lookup x=some .cell
 nofree:∀y∈sc.names,y.2≠.free
theorem qU {kindOf:Str->Option NameKind}{x:Str}:∀{binds:List (Str×Value)} {m:Str->Option Value},(∀v,(x,v)∉binds)->bindL kindOf binds m x=m x
 | [],_,_=>rfl
 | (n,v) :: r,m,h=>by
  unfold bindL
  rw[qU fun w hw=>h w (List.mem_cons_of_mem _ hw)]
  split
  ·have:x≠n:=by rintro rfl;exact h v List.mem_cons_self
   simp[this]
  ·rfl
theorem q8 {kindOf:Str->Option NameKind}{x:Str}:∀{binds:List (Str×Value)} {m:Str->Option Value},(∀v,(x,v)∉binds)->bindC kindOf binds m x=m x
 | [],_,_=>rfl
 | (n,v) :: r,m,h=>by
  unfold bindC
  rw[q8 fun w hw=>h w (List.mem_cons_of_mem _ hw)]
  split
  ·rfl
  ·have:x≠n:=by rintro rfl;exact h v List.mem_cons_self
   simp[this]
theorem qK {kindOf:Str->Option NameKind}{x:Str}{v:Value}:∀{P:List Str} {vs:List Value} {i:Nat} {m:Str->Option Value},P.Nodup->P[i]? =some x->vs[i]? =some v->kindOf x=some .local->
  bindL kindOf (P.zip vs) m x=some v
 | [],_,_,_,_,h,_,_=>by simp at h
 |_ :: _,[],_,_,_,_,h,_=>by simp at h
 |p :: P,w :: vs,0,m,nd,h1,h2,hk=>by
  simp at h1 h2;subst h1;subst h2
  show bindL kindOf ((p,w) :: P.zip vs) m p=_
  unfold bindL
  rw[qU fun v hv=>(List.nodup_cons.mp nd).1 (List.of_mem_zip hv).1,if_pos hk]
  simp
 |p :: P,w :: vs,i + 1,m,nd,h1,h2,hk=>by
  show bindL kindOf ((p,w) :: P.zip vs) m x=_
  unfold bindL
  exact qK (i:=i) (List.nodup_cons.mp nd).2 (by simpa using h1) (by simpa using h2) hk
theorem qC {kindOf:Str->Option NameKind}{x:Str}{v:Value}:∀{P:List Str} {vs:List Value} {i:Nat} {m:Str->Option Value},P.Nodup->P[i]? =some x->vs[i]? =some v->kindOf x≠some .local->
  bindC kindOf (P.zip vs) m x=some v
 | [],_,_,_,_,h,_,_=>by simp at h
 |_ :: _,[],_,_,_,_,h,_=>by simp at h
 |p :: P,w :: vs,0,m,nd,h1,h2,hk=>by
  simp at h1 h2;subst h1;subst h2
  show bindC kindOf ((p,w) :: P.zip vs) m p=_
  unfold bindC
  rw[q8 fun v hv=>(List.nodup_cons.mp nd).1 (List.of_mem_zip hv).1,if_neg hk]
  simp
 |p :: P,w :: vs,i + 1,m,nd,h1,h2,hk=>by
  show bindC kindOf ((p,w) :: P.zip vs) m x=_
  unfold bindC
  exact qC (i:=i) (List.nodup_cons.mp nd).2 (by simpa using h1) (by simpa using h2) hk
def start (N:List Str)(vs:List V):St:=vs.map some ++ List.replicate (N.length - vs.length) none
def ky (CX:zW)(P:Program)(w:World)(K:PySem.W.Frag)(mg:Str->Option Value)(base:Heap)(N:List Str)(qual:Str)(scope:Scope)(f:Addr)(cd:Value)(A:Around)(outer:List Env)(s:Shared)(H:Hp)(E:XK):Cx where
 prog:=P
 w:=w
 K:=K
 mg:=mg
 base:=base
 A:=A.deeper (envOfC qual scope s.heap.objs.size f cd)
 N:=N
 s₀:=s
 H₀:=H
 env:=envOfC qual scope s.heap.objs.size f cd
 outer:=outer
 stack:=envOfC qual scope s.heap.objs.size f cd :: outer
 ex:=[]
 calm:=true
 fn:=fun _=>true
 pn:=[]
 xe:=fun e s'=>wpAny (model P w) (A.deeper (envOfC qual scope s.heap.objs.size f cd)) (leaving (envOfC qual scope s.heap.objs.size f cd) e) (fun _ s''=>CX outer H s E e s'') (fun e' s''=>CX outer H s E e' s'') s'
theorem ur {sc:Scope}{n:Nat}{x:Str}(h:sc.names.lookup x=some .cell):∃c,(cellsFrom n sc.names []).lookup x=some c:=by
 have q:=PySem.W.cellsFrom_some sc.names n [] (.inl h)
 exact Option.isSome_iff_exists.mp q
theorem y7 {CX:zW}{P:Program}{w:World}{K:PySem.W.Frag}{mg:Str->Option Value}{base:Heap}{N ps:List Str}{qual:Str}{scope:Scope}{f:Addr}{cd:Value}{A:Around}{outer:List Env}{s s1:Shared}{H:Hp}{E:XK}{us:List Value}{vs:List V}
  (S:aF N ps scope) (hd:A.handled=none) (e0:Ds P w K mg base A outer s H) (hl:vs.length=ps.length) (r:Vals vs us)
  (x:InCallC s s.heap.objs.size (bindL (envOfC qual scope s.heap.objs.size f cd).kindOf (ps.zip us) fun _=>none) (cellsFrom (s.heap.objs.size + 1) scope.names []) (bindC (envOfC qual scope s.heap.objs.size f cd).kindOf (ps.zip us) fun _=>none) s1) :
  Inv (ky CX P w K mg base N qual scope f cd A outer s H E) [] (start N vs) H s1:=by
 have hpl:ps.length<=N.length:=by have:=congrArg List.length S.pre;rw[List.length_take] at this;omega
 obtain⟨h1,tk,rfl,hk⟩:=x.done
 have noA:∀b:Addr,b∉(ky CX P w K mg base N qual scope f cd A outer s H E).ex:=fun b z=>absurd (show b∈([]:List Addr) from z) (by simp)
 refine⟨⟨e0.mod,S.kind,rfl,rfl,Nat.le_refl _,fun y z c h1 h2=>?_,fun y hy=>?_,fun y c _ h=>?_,fun _=>hd,Around.frames_deeper e0.frames,.inr ⟨rfl,rfl⟩,fun b z=>absurd z (noA b),e0.bs,e0.bsz,fun b _ _=>noA b,fun b z=>absurd z (noA b),e0.funs,e0.frf⟩,
  rfl,e0.bare,Un.kept hk,⟨_,x.toInCall.ns,fun i y v h1 h2 h3=>?_⟩,fun y c h=>⟨_,x.cell y c h⟩,e0.hok.fresh (Nat.le_refl _),fun y c h=>?_,fun p hp=>absurd (show p∈([]:List (Addr×Obj)) from hp) (by simp),e0.hok.kept hk,?_⟩
 ·exact name_of_addr x.apart (PySem.mem_of_lookup h1) (PySem.mem_of_lookup h2)
 ·have hy:scope.names.lookup y=some .cell\/scope.names.lookup y=some .free:=hy
  rcases hy with hy |hy
  ·exact ur hy
  ·exact absurd rfl (S.nofree _ (PySem.mem_of_lookup hy))
 ·exact Nat.le_of_lt (x.above y c (PySem.mem_of_lookup h))
 ·have hi:i < vs.length:=by
   unfold start at h2
   by_cases hi:i < vs.length
   ·exact hi
   ·rw[List.getElem?_append_right (by simpa using hi)] at h2
    rw[List.getElem?_replicate] at h2
    split at h2 <;> cases h2
  have ha:vs[i]? =some v:=by
   unfold start at h2
   rw[List.getElem?_append_left (by simpa using hi),List.getElem?_map] at h2
   cases e:vs[i]? with
   |none=>rw[e] at h2;cases h2
   |some a=>rw[e] at h2;cases h2;rfl
  obtain⟨u,hu,rv⟩:=r.get ha
  have hp:ps[i]? =some y:=by
   rw[<-S.pre,List.getElem?_take_of_lt (by omega)];exact h1
  have ndP:ps.Nodup:=by rw[<-S.pre];exact S.nd.sublist (List.take_sublist _ _)
  refine⟨u,rv,?_⟩
  rcases S.par y (List.mem_of_getElem? hp) with k |k
  ·exact .inl ⟨k,qK ndP hp hu k⟩
  ·obtain⟨c,e⟩:=ur (n:=s.heap.objs.size + 1) k
   refine .inr ⟨.inl k,c,e,?_⟩
   have q:=x.cell y c e
   rw[qC ndP hp hu (by show scope.names.lookup y≠_;rw[k];decide)] at q
   exact q
 ·exact e0.hok.fresh (Nat.le_of_lt (x.above y c (PySem.mem_of_lookup h)))
 ·unfold start
  show _=N.length
  rw[List.length_append,List.length_map,List.length_replicate]
  omega
theorem EK {CX:zW}{P:Program}{w:World}{K:PySem.W.Frag}{mg:Str->Option Value}{base:Heap}{k:Nat}{f:Addr}{name qual:Str}{params:Arguments}{body:List Stmt}{scope:Scope}{dV kV doc pm cdv ct oc:Value}{an od:Option Addr}
  {osl:Array (Option Value)} {N ps:List Str} {sp:Sp} (lk:K.lookup f=some ⟨oc,od,.func (PySem.W.fnOf name qual params body scope dV kV doc pm an cdv ct),osl⟩) (hcd:PySem.W.codeIn K cdv qual=true) (S:aF N ps scope)
  (len:∀vs H Q E,sp vs H Q E->vs.length=ps.length)
  (hbody:∀(A:Around) (outer:List Env) (s:Shared) (H:Hp) (vs:List V) (Q:VK) (E:XK),eT k (A.deeper (envOfC qual scope s.heap.objs.size f cdv))->sp vs H Q E->
   ∃t,qW (ky CX P w K mg base N qual scope f cdv A outer s H E) body t/\t {nx:=fun _ H'=>Q .non H',rt:=Q} (start N vs) H) :
  fy P w K mg base CX (k + 1) f (PySem.W.fnOf name qual params body scope dV kV doc pm an cdv ct) ps sp:=by
 refine⟨len,fun A outer s H args us vs Q E hr e0 hb r hsp=>?_⟩
 have hl:=len _ _ _ _ hsp
 have KX:K.In s.heap:=e0.mod.kin.keeps fun b o e=>(e0.bs b o e).1
 have lim:s.heap.NoLimit:=e0.mod.nolimit.keeps fun b o e=>(e0.bs b o e).1
 have hkind:∀y∈ps.zip us,scope.names.lookup y.1=some .local\/(scope.names.lookup y.1=some .cell/\((cellsFrom (s.heap.objs.size + 1) scope.names []).lookup y.1).isSome=true):=fun⟨n,v⟩ hy=>by
  rcases S.par n (List.of_mem_zip hy).1 with q |q
  ·exact .inl q
  ·exact .inr ⟨q,PySem.W.cellsFrom_some _ _ _ (.inl q)⟩
 refine codeAny_call_function hr.depth (KX _ _ lk) rfl S.co S.gen rfl (PySem.W.codeRec_of KX hcd) (hb _ _ _ _ ?_)
 refine wpAny_newFunctionEnv_cells S.kind hkind fun env he s1 x=>?_
 subst he
 refine⟨lim.keeps x.toInCall.keep,codeAny_func ?_⟩
 obtain⟨t,ht,hq⟩:=hbody A outer s H vs Q E (hr.deeper _) hsp
 have I:Inv (ky CX P w K mg base N qual scope f cdv A outer s H E) [] (start N vs) H s1:=y7 S hr.hd e0 hl r x
 refine wpAny_mono (ht [] s1 (start N vs) H _ I hq) (fun fl s' hs=>?_) fun e s' hs=>hs
 have fin:∀{σ':St} {H':Hp} {v:V} {u:Value},Inv (ky CX P w K mg base N qual scope f cdv A outer s H E) [] σ' H' s'->RelV v u->Q v H'->CE outer P w H s Q u s':=
  fun {σ' H' v u} J rv q=>⟨v,H',J.os,J.bare,J.base,J.hok,rv,q⟩
 cases fl with
 |ret u=>
  obtain⟨v,σ',H',J,rv,q⟩:=hs
  exact fin J rv q
 |next=>
  obtain⟨σ',H',J,q⟩:=hs
  exact fin (v:=V.non) (u:=Value.none) J rfl q
 |brk=>
  obtain⟨_,_,_,q⟩:=hs
  exact False.elim q
 |cont=>
  obtain⟨_,_,_,q⟩:=hs
  exact False.elim q
end L2
namespace L2
open PySem PySem.Spec PyProof.Rows
section
variable {X:Cx}{x:Str}{p pos:Pos}{e:Expr}{es:List Expr}{t:TA}{id T:String}{r:List V->Hp->VK->Prop}
def K2 (r:List V->Hp->VK->Prop)(t:TA):TE:=fun σ H Q=>t σ H fun vs H1=>r vs H1 Q
theorem iR (hc:b8 X (.builtin id) r)(hg:Gl X x)(hm:X.mg x=none)(hv:bootBuiltins x=some (.builtin id))(ha:PA X (e :: es) t)(hn:x≠"__name__":=by decide)(hdb:(x == ("__debug__":Str))=false:=by decide)
  (he:starEach (e :: es) X.env=(false,eval e X.env) :: starEach es X.env:=by rfl) (hpl:(backTo pos (starEach es X.env)).any (·.1)=false:=by rfl):PE X (.Call (.Name x p) (e :: es) [] pos) (K2 r t):=by
 intro pins s σ H Q I h
 refine wpAny_Call_Name_kw (mM I hg hm hv ?_ hn hdb)
 exact PyProof.Rows.callWith_builtin1 (bW (ha pos pins s σ H _ I h) fun us s1 ⟨vs,H1,I1,r1,q1⟩=>hc pins s1 σ H1 vs us Q I1 r1 q1) he hpl
theorem dr (hc:b8 X (.type T) r)(hg:Gl X x)(hm:X.mg x=none)(hv:bootBuiltins x=some (.type T))(ha:PA X (e :: es) t)(hn:x≠"__name__":=by decide)(hdb:(x == ("__debug__":Str))=false:=by decide)
  (he:starEach (e :: es) X.env=(false,eval e X.env) :: starEach es X.env:=by rfl) (hpl:(backTo pos (starEach es X.env)).any (·.1)=false:=by rfl):PE X (.Call (.Name x p) (e :: es) [] pos) (K2 r t):=by
 intro pins s σ H Q I h
 refine wpAny_Call_Name_kw (mM I hg hm hv ?_ hn hdb)
 exact PyProof.Rows.callWith_type1 (bW (ha pos pins s σ H _ I h) fun us s1 ⟨vs,H1,I1,r1,q1⟩=>hc pins s1 σ H1 vs us Q I1 r1 q1) he hpl
end
end L2
namespace HT
open PySem PyProof.Rows
section
open PySem.SeqAt
open PySem.AutoSeq1 (wpAny_loadPart')
open PySem.MeetsSeq PySem.MeetsSeq2 PySem.MeetsSeq3
end
section
variable {prog:Program}{w:World}{A:Around}{E:Value->Shared->Prop}{s:Shared}
theorem Dx {t b:Addr}{vs ws:List Value}{Q:Value->Shared->Prop}(ht:IsTup s.heap t vs.toArray)(hb:IsTup s.heap b ws.toArray)(hv:vs≠ [])
  (h1:ws= []->Q (.ref t) s) (h2:ws≠ []->Q (.ref s.heap.objs.size) {s with heap:=s.heap.push {cls:=.type "tuple",data:=.seq (vs ++ ws).toArray}})
  (hsz:vs.length + ws.length<=sizeLine):wpAny (model prog w) A (binaryOp .Add (.ref t) (.ref b)) Q E s:=by
 obtain⟨⟨cls,dd,data,sl⟩,ho,hc,n,hd⟩:=id ht
 obtain⟨⟨cls2,dd2,data2,sl2⟩,ho2,hc2,n2,hd2⟩:=id hb
 simp only at hc hd hc2 hd2
 subst hc hd hc2 hd2
 have e:vs.toArray ++ ws.toArray=(vs ++ ws).toArray:=by simp
 by_cases hw:ws= []
 ·exact concat_meets ⟨_,ho,rfl⟩ ⟨_,ho2,rfl⟩ noFill_tuple_add seq_tuple_add PySem.F.slot_tuple_add PySem.F.entry_tuple_add (PySem.F.args_tuple_add_2 _ _)
   (tuple_addW1 t b vs.toArray ws.toArray n n2 dd dd2 sl sl2 (by simpa using hv) (by simp[hw])) ⟨ho,ho2,h1 hw⟩
 ·refine concat_meets ⟨_,ho,rfl⟩ ⟨_,ho2,rfl⟩ noFill_tuple_add seq_tuple_add PySem.F.slot_tuple_add PySem.F.entry_tuple_add (PySem.F.args_tuple_add_2 _ _)
   (tuple_addW2 t b vs.toArray ws.toArray n n2 dd dd2 sl sl2 (by simpa using hv) (by simpa using hw) (by rw[List.size_toArray,List.size_toArray];exact hsz)) ⟨ho,ho2,?_⟩
  rw[e]
  exact h2 hw
def cS (n d:Nat):Option Int->Nat
 |none=>d
 |some v=>if v < 0 then (v + (n:Int)).toNat else min v.toNat n
theorem l0 (n d:Nat):cS n d none=d:=rfl
theorem nS (n d k:Nat):cS n d (some (k:Int))=min k n:=by
 show (if (k:Int) < 0 then ((k:Int) + (n:Int)).toNat else min (k:Int).toNat n)=min k n
 rw[if_neg (by omega),Int.toNat_natCast]
theorem Gd (n d:Nat)(hd:d<=n)(o:Option Int):cS n d o<=n:=by
 cases o with
 |none=>exact hd
 |some v=>
  show (if v < 0 then (v + (n:Int)).toNat else min v.toNat n)<=n
  by_cases hv:v < 0
  ·rw[if_pos hv];omega
  ·rw[if_neg hv];exact Nat.min_le_right _ _
theorem xH (v:Int)(n d:Nat):(if v < 0 then max (v + (n:Int)) 0 else min v (n:Int))=((cS n d (some v):Nat):Int):=by
 show (if v < 0 then max (v + (n:Int)) 0 else min v (n:Int))=(((if v < 0 then (v + (n:Int)).toNat else min v.toNat n):Nat):Int)
 by_cases hv:v < 0
 ·simp only[if_pos hv];omega
 ·simp only[if_neg hv];omega
theorem wQ (lo hi:Option Int)(n:Nat):Builtin.Slice.sliceAdjust lo hi 1 (n:Int)=(((cS n 0 lo:Nat):Int),((cS n n hi:Nat):Int)):=by
 have h1:¬((1:Int) < 0):=by omega
 unfold Builtin.Slice.sliceAdjust
 simp only[h1,if_false]
 refine Prod.ext ?_ ?_
 ·cases lo with
  |none=>rfl
  |some v=>exact xH v n 0
 ·cases hi with
  |none=>rfl
  |some v=>exact xH v n n
theorem vO (i j:Nat):Builtin.Slice.slicePlaces (i:Int) (j:Int) 1=j - i:=by
 unfold Builtin.Slice.slicePlaces
 have h1:(1:Int) > 0:=by omega
 simp only[h1,if_true,Int.ediv_one]
 split <;> omega
theorem kT {v:Value}{o:Option Int}{Q:Option Int->Shared->Prop}(p:IsPart v o)(h:Q o s):wpAny (model prog w) A (Builtin.Slice.slicePartIndex v) Q E s:=by
 cases p with
 |none=>exact slicePart_none h
 |int i t=>exact slicePart_int h
theorem iE {sl:Addr}{vl vu:Value}{lo hi:Option Int}{n:Nat}{Q:Int×Int×Nat->Shared->Prop}(hs:s.heap.IsSliceOf sl vl vu .none)(pl:IsPart vl lo)(pu:IsPart vu hi)
  (h:Q (((cS n 0 lo:Nat):Int),1,cS n n hi - cS n 0 lo) s):wpAny (model prog w) A (Builtin.Slice.sliceApplied (.ref sl) (pure (n:Int))) Q E s:=by
 obtain⟨os,hos,hcs,hds⟩:=id hs
 unfold Builtin.Slice.sliceApplied Builtin.Slice.sliceFields
 refine wpAny_bind (wpAny_bind (wpAny_field hos hds (x:=vl) rfl (wpAny_bind (wpAny_field hos hds (x:=vu) rfl (wpAny_bind (wpAny_field hos hds (x:=.none) rfl (wpAny_pure ?_)))))))
 refine wpAny_bind (slicePart_none ?_)
 show wpAny _ _ (if ((1:Int) == 0)=true then _ else _) _ _ s
 rw[if_neg (by decide)]
 refine wpAny_bind (kT pl (wpAny_bind (kT pu (wpAny_bind (wpAny_pure ?_)))))
 show wpAny _ _ (match Builtin.Slice.sliceAdjust lo hi 1 (n:Int) with | (lo,hi)=>pure (lo,(1:Int),Builtin.Slice.slicePlaces lo hi 1)) _ _ s
 rw[wQ lo hi n]
 show wpAny _ _ (pure (((cS n 0 lo:Nat):Int),(1:Int),Builtin.Slice.slicePlaces ((cS n 0 lo:Nat):Int) ((cS n n hi:Nat):Int) 1)) _ _ s
 rw[vO]
 exact wpAny_pure h
theorem Ca (xs:Array Value)(i k:Nat):((List.range k).filterMap fun (m:Nat)=>xs[((i:Int) + (m:Int) * 1).toNat]?).toArray=((xs.toList.drop i).take k).toArray:=by
 have e:(fun (m:Nat)=>xs[((i:Int) + (m:Int) * 1).toNat]?)=fun m=>xs[i + m]?:=by
  funext m
  have:((i:Int) + (m:Int) * 1).toNat=i + m:=by omega
  rw[this]
 rw[e]
 have:=pick_run xs i k
 rw[List.filterMap_map] at this
 have e2:((fun x=>xs[x]?) ∘ fun x=>i + x)=fun m=>xs[i + m]?:=rfl
 rw[e2] at this
 rw[this]
theorem l9 {t sl:Addr}{items:Array Value}{vl vu:Value}{lo hi:Option Int}{Q:Value->Shared->Prop}(ht:IsTup s.heap t items)(hs:s.heap.IsSliceOf sl vl vu .none)(pl:IsPart vl lo)(pu:IsPart vu hi)
  (hw:¬(cS items.size 0 lo=0/\cS items.size items.size hi=items.size))
  (h:Q (.ref s.heap.objs.size) {s with heap:=s.heap.push {cls:=.type "tuple",data:=.seq ((items.toList.drop (cS items.size 0 lo)).take (cS items.size items.size hi - cS items.size 0 lo)).toArray}})
  (hsz:items.size<=sizeLine):wpAny (model prog w) A (getItem (.ref t) (.ref sl)) Q E s:=by
 have htake:sizeOk (.seq ((items.toList.drop (cS items.size 0 lo)).take (cS items.size items.size hi - cS items.size 0 lo)).toArray):=by
  show ((items.toList.drop (cS items.size 0 lo)).take (cS items.size items.size hi - cS items.size 0 lo)).toArray.size<=sizeLine
  rw[List.size_toArray,List.length_take,List.length_drop,Array.length_toList]
  omega
 have hj:cS items.size items.size hi<=items.size:=Gd _ _ (Nat.le_refl _) hi
 obtain⟨os,hos,hcs,hds⟩:=id hs
 have hTs:s.TypeIs (.ref sl) "slice":=⟨os,hos,hcs⟩
 unfold getItem
 try with_reducible refine wpAny_holding ?_
 first |refine wpAny_bind (wpAny_pure ?_) |skip
 refine wpAny_bind (wpAny_sequenceKey ht.typeIs (by decide) ?_)
 refine wpAny_bind (wpAny_callSpecial?_slot (name:=Str.ofString "__getitem__") ht.typeIs PyProof.Rows.slot_tuple_getitem
  (wpAny_call_entry PyProof.Rows.slot_tuple_getitem ht.typeIs entry_tuple_getitem ?_ (args_tuple_getitem _ _)))
 show wpAny _ _ (Builtin.Tuple.tupleItemsOf (.ref t) >>= _) _ _ s
 refine wpAny_bind (tupleItemsOf_ ht ?_)
 refine wpAny_bind (wpAny_typeOf hTs ?_)
 rw[if_pos (by decide)]
 refine wpAny_bind (iE hs pl pu ?_)
 have hno:¬((((cS items.size 0 lo:Nat):Int) == 0 && (1:Int) == 1 && (cS items.size items.size hi - cS items.size 0 lo) == items.size)=true):=by
  intro q
  rw[Bool.and_eq_true,Bool.and_eq_true] at q
  have q1:((cS items.size 0 lo:Nat):Int)=0:=eq_of_beq q.1.1
  have q2:cS items.size items.size hi - cS items.size 0 lo=items.size:=eq_of_beq q.2
  exact hw ⟨by omega,by omega⟩
 show wpAny _ _ (if (((cS items.size 0 lo:Nat):Int) == 0 && (1:Int) == 1 && (cS items.size items.size hi - cS items.size 0 lo) == items.size)=true then _ else _) _ _ s
 rw[if_neg hno,Ca]
 first
  |exact wpAny_bind (m:=Builtin.Tuple.tupleExact _) (wpAny_newObj_type (wpAny_pure ⟨_,rfl,wpAny_pure h⟩) htake)
  |exact wpAny_bind (m:=Builtin.Tuple.tupleExact _) (wpAny_newObj_type (wpAny_bind (wpAny_pure (wpAny_pure ⟨_,rfl,wpAny_pure h⟩))) htake)
  |exact wpAny_bind (wpAny_bind (m:=Builtin.Tuple.tupleExact _) (wpAny_newObj_type (wpAny_pure (wpAny_pure ⟨_,rfl,wpAny_pure h⟩)) htake))
  |exact wpAny_bind (wpAny_bind (m:=Builtin.Tuple.tupleExact _) (wpAny_newObj_type (wpAny_pure ⟨_,rfl,wpAny_pure h⟩) htake))
end
end HT
namespace L2
open PySem PySem.Spec PyProof.Rows
abbrev TO:=St->Hp->(Option Int->Hp->Prop)->Prop
def PO (X:Cx)(e:Option Expr)(t:TO):Prop:=
 ∀(pins:List (Addr×Obj)) (s:Shared) (σ:St) (H:Hp) (Q:Option Int->Hp->Prop),Inv X pins σ H s->t σ H Q->
  wpAny (model X.prog X.w) X.A (evalPart e X.env) (fun u s'=>∃o H',Inv X pins σ H' s'/\IsPart u o/\Q o H') X.xe s
def ED:TO:=fun _ H Q=>Q none H
def Jj (t:TE):TO:=fun σ H Q=>t σ H fun x H1=>∃i,x=.int i/\Q (some i) H1
theorem intsAre_of {ns:List Int}:∀{us:List Value},Vals (ns.map V.int) us->IntsAre us ns:=by
 induction ns with
 |nil=>intro us r;rw[List.map_nil] at r;cases r;exact .nil
 |cons n ns ih=>
  intro us r
  rw[List.map_cons] at r
  cases r with
  |cons r1 r2=>
   obtain⟨t,e⟩:=r1
   subst e
   exact .cons n t (ih r2)
section
variable {X:Cx}{e:Expr}{te:TE}{lo hi:Option Expr}{tl th:TO}{pos p2:Pos}
theorem Ey:PO X none ED:=by
 intro pins s σ H Q I h
 rw[evalPart_none]
 exact wpAny_pure ⟨none,H,I,.none,h⟩
theorem sP (h:PE X e te):PO X (some e) (Jj te):=by
 intro pins s σ H Q I hw
 rw[evalPart_some]
 refine bW (h pins s σ H _ I hw) fun u s1 ⟨x,H1,I1,r1,q1⟩=>?_
 obtain⟨i,rfl,q⟩:=q1
 obtain⟨t,rfl⟩:=r1
 exact⟨some i,H1,I1,.int i t,q⟩
def Jz (X:Cx)(r:V->Option Int->Option Int->Hp->VK->Prop):Prop:=
 ∀(pins:List (Addr×Obj)) (s:Shared) (σ:St) (H:Hp) (x:V) (v vl vu:Value) (lo hi:Option Int) (sl:Addr) (Q:VK),Inv X pins σ H s->RelV x v->s.heap.IsSliceOf sl vl vu .none->IsPart vl lo->IsPart vu hi->r x lo hi H Q->
  ∃T id,typeLookup (.type T) "__getitem__"=pure (some (.builtin id))/\s.TypeIs v T/\wpAny (model X.prog X.w) X.A (getItem v (.ref sl)) (EP X pins σ Q) X.xe s
def Lg (r:V->Option Int->Option Int->Hp->VK->Prop)(te:TE)(tl th:TO):TE:=fun σ H Q=>te σ H fun x H1=>tl σ H1 fun l H2=>th σ H2 fun u H3=>r x l u H3 Q
theorem vv {r:V->Option Int->Option Int->Hp->VK->Prop}(hr:Jz X r)(he:PE X e te)(hl:PO X lo tl)(hu:PO X hi th):PE X (.Subscript e (.Slice lo hi none p2) pos) (Lg r te tl th):=by
 intro pins s σ H Q I h
 refine Subscript_ (bW (he pins s σ H _ I h) fun v s1 ⟨x,H1,I1,r1,q1⟩=>?_)
 refine wpAny_Slice (bW (hl pins s1 σ H1 _ I1 q1) fun vl s2 ⟨l,H2,I2,pl,q2⟩=>bW (hu pins s2 σ H2 _ I2 q2) fun vu s3 ⟨u,H3,I3,pu,q3⟩=>?_)
 rw[evalPart_none]
 refine wpAny_pure ?_
 have I4:Inv X pins σ H3 {s3 with heap:=s3.heap.push {cls:=.type "slice",data:=.fields #[vl,vu,.none]}}:=I3.kept (t':=s3.toks) fun b ob q=>Heap.get?_push_of_some _ q
 obtain⟨T,id,hT,ht,hg⟩:=hr pins {s3 with heap:=s3.heap.push {cls:=.type "slice",data:=.fields #[vl,vu,.none]}} σ H3 x v vl vu l u s3.heap.objs.size Q I4 r1 (Heap.IsSliceOf.new ..) pl pu q3
 show wpAny (model X.prog X.w) X.A (subscriptTail e (.Slice lo hi none p2) v (.ref s3.heap.objs.size)) (EP X pins σ Q) X.xe {s3 with heap:=s3.heap.push {cls:=.type "slice",data:=.fields #[vl,vu,.none]}}
 exact tail_any (ops:=[.ref s3.heap.objs.size,v]) ht hT hg (by with_unfolding_all rfl)
def oA (xs:List V)(lo hi:Option Int):List V:=(xs.drop (HT.cS xs.length 0 lo)).take (HT.cS xs.length xs.length hi - HT.cS xs.length 0 lo)
theorem mY (xs:List V)(lo hi:Option Int):(oA xs lo hi).length<=xs.length:=by
 unfold oA
 rw[List.length_take,List.length_drop]
 omega
def Ky (K:PySem.W.Frag):V->Option Int->Option Int->Hp->VK->Prop:=fun x lo hi H Q=>∃a xs,x=.ref a/\c7 K H a xs/\
 ¬(HT.cS xs.length 0 lo=0/\HT.cS xs.length xs.length hi=xs.length)/\∀p,H p=none->Q (.ref p) (upd H p (.tup (oA xs lo hi)))
theorem GG:Jz X (Ky X.K):=by
 intro pins s σ H x v vl vu lo hi sl Q I rx hs pl pu h
 obtain⟨a,xs,rfl,hx,hw,q⟩:=h
 cases rx
 obtain⟨its,r,ht,hz⟩:=I.tuple hx
 have hlen:its.toArray.size=xs.length:=by rw[List.size_toArray];exact r.length.symm
 refine⟨"tuple",_,PyProof.Rows.slot_tuple_getitem.lookup,ht.typeIs,?_⟩
 refine HT.l9 ht hs pl pu (by rw[hlen];exact hw) ?_ (by rw[hlen];exact hz)
 rw[hlen]
 refine⟨.ref s.heap.objs.size,_,I.laid (t':=s.toks) (o:=.tup (oA xs lo hi)) (fun b ob q=>Heap.get?_push_of_some _ q) (Nat.le_refl _) ?_,rfl,q _ (I.hok.fresh (Nat.le_refl _))⟩
 exact⟨Nat.le_trans (mY xs lo hi) hz,_,(r.drop (HT.cS xs.length 0 lo)).take (HT.cS xs.length xs.length hi - HT.cS xs.length 0 lo),nE.new _ _⟩
def Jr (K:PySem.W.Frag):R2:=fun x y H Q=>∃a b xs ys,x=.ref a/\y=.ref b/\c7 K H a xs/\c7 K H b ys/\xs≠ []/\xs.length + ys.length<=sizeLine/\
 (ys= []->Q (.ref a) H)/\(ys≠ []->∀p,H p=none->Q (.ref p) (upd H p (.tup (xs ++ ys))))
theorem Vals.nil_iff {xs:List V}{us:List Value}(r:Vals xs us):us= []↔xs= []:=by
 cases r with
 |nil=>simp
 |cons _ _=>simp
theorem DC:k9 X (binaryOp .Add) (Jr X.K):=by
 intro pins s σ H x y v u Q I rx ry h
 obtain⟨a,b,xs,ys,rfl,rfl,ha,hb,hx,hz,q1,q2⟩:=h
 cases rx
 cases ry
 obtain⟨its,r1,p1,_⟩:=I.tuple ha
 obtain⟨its2,r2,p2,_⟩:=I.tuple hb
 refine HT.Dx p1 p2 (fun z=>hx (r1.nil_iff.mp z)) (fun z=>⟨.ref a,H,I,rfl,q1 (r2.nil_iff.mp z)⟩) (fun z=>?_) (by rw[<-r1.length,<-r2.length];exact hz)
 refine⟨.ref s.heap.objs.size,_,I.laid (t':=s.toks) (o:=.tup (xs ++ ys)) (fun b ob q=>Heap.get?_push_of_some _ q) (Nat.le_refl _) ?_,rfl,q2 (fun w=>z (r2.nil_iff.mpr w)) _ (I.hok.fresh (Nat.le_refl _))⟩
 exact⟨by rw[List.length_append];exact hz,_,r1.append r2,nE.new _ _⟩
end
end L2
namespace L2
open PySem PySem.Spec PyProof.Rows
def vD (n:Nat)(i:Int):Option Nat:=if 0<=i then (if i < n then some i.toNat else none) else if -(n:Int)<=i then some (i + n).toNat else none
def jI {α:Type}(xs:List α)(i:Int):Option α:=(vD xs.length i).bind fun j=>xs[j]?
theorem yI {n:Nat}{i:Int}{j:Nat}(h:vD n i=some j):seqIndex? i n=some j/\j < n/\ -(n:Int)<=i/\i < n:=by
 unfold vD at h
 by_cases h0:0<=i
 ·rw[if_pos h0] at h
  by_cases h1:i < n
  ·rw[if_pos h1] at h
   have e:i.toNat=j:=Option.some.inj h
   exact⟨by rw[seqIndex_of h0 h1,e],by omega,by omega,h1⟩
  ·rw[if_neg h1] at h;cases h
 ·rw[if_neg h0] at h
  by_cases h1: -(n:Int)<=i
  ·rw[if_pos h1] at h
   have e:(i + n).toNat=j:=Option.some.inj h
   exact⟨by rw[seqIndex_neg (by omega) h1,e],by omega,h1,by omega⟩
  ·rw[if_neg h1] at h;cases h
theorem rK {α:Type}{xs:List α}{i:Int}{v:α}(h:jI xs i=some v):∃j,seqIndex? i xs.length=some j/\xs[j]? =some v/\j < xs.length/\ -(xs.length:Int)<=i/\i < xs.length:=by
 unfold jI at h
 cases e:vD xs.length i with
 |none=>rw[e] at h;cases h
 |some j=>
  rw[e] at h
  obtain⟨h1,h2,h3,h4⟩:=yI e
  exact⟨j,h1,h,h2,h3,h4⟩
theorem gW {α:Type}{xs:List α}{j:Nat}{v:α}(h:xs[j]? =some v):jI xs (j:Int)=some v:=by
 have hj:j < xs.length:=(List.getElem?_eq_some_iff.mp h).1
 have e:vD xs.length (j:Int)=some j:=by
  unfold vD
  rw[if_pos (by omega),if_pos (by omega)];simp
 unfold jI;rw[e];exact h
def yJ (b:Expr):Prop:=∀o i,subscripted b false o i=operate [o,i] (getItem o i)
def AJ (X:Cx)(r:R2):Prop:=
 ∀(value slice:Expr) (pins:List (Addr×Obj)) (s:Shared) (σ:St) (H:Hp) (x y:V) (v u:Value) (Q:VK),Inv X pins σ H s->RelV x v->RelV y u->r x y H Q->
  subscripted slice false v u=operate [v,u] (getItem v u)->wpAny (model X.prog X.w) X.A (subscriptTail value slice v u) (EP X pins σ Q) X.xe s
def Ln (X:Cx)(id:String)(r:V->List V->Hp->VK->Prop):Prop:=
 ∀(pins:List (Addr×Obj)) (s:Shared) (σ:St) (H:Hp) (x:V) (xs:List V) (v:Value) (us:List Value) (Q:VK),Inv X pins σ H s->RelV x v->Vals xs us->r x xs H Q->
  wpAny (model X.prog X.w) X.A (call (.builtin id) (v :: us)) (EP X pins σ Q) X.xe s
section
variable {X:Cx}{a b:Expr}{ta tb:TE}{pos:Pos}
theorem AJ.or {r r':R2}(h:AJ X r)(h':AJ X r'):AJ X (fun x y H Q=>r x y H Q\/r' x y H Q):=by
 intro value slice pins s σ H x y v u Q I rx ry q hs
 rcases q with q |q
 ·exact h value slice pins s σ H x y v u Q I rx ry q hs
 ·exact h' value slice pins s σ H x y v u Q I rx ry q hs
theorem kB {r:R2}(hr:AJ X r)(ha:PE X a ta)(hb:PE X b tb)(hs:yJ b):PE X (.Subscript a b pos) (Jx r ta tb):=by
 intro pins s σ H Q I h
 exact Subscript_ (Gv ha hb I h fun v u s2 x y H2 I2 rx ry q=>hr a b pins s2 σ H2 x y v u Q I2 rx ry q (hs _ _))
def Hd (K:PySem.W.Frag):R2:=fun x y H Q=>∃p xs i v,x=.ref p/\y=.int i/\fR K H p xs/\jI xs i=some v/\Q v H
def Ji (K:PySem.W.Frag):R2:=fun x y H Q=>∃p xs i v,x=.ref p/\y=.int i/\c7 K H p xs/\jI xs i=some v/\Q v H
def Ja:R2:=fun x y H Q=>∃z i c,x=.str z/\y=.int i/\z.length<=sizeLine/\jI z.cps.toList i=some c/\Q (.str ⟨#[c]⟩) H
theorem gf:AJ X (Hd X.K):=by
 intro value slice pins s σ H x y v u Q I rx ry h hs
 obtain⟨p,xs,i,z,rfl,rfl,hq,he,q⟩:=h
 cases rx
 obtain⟨t,rfl⟩:=ry
 obtain⟨its,r,pl,hz⟩:=I.list hq
 obtain⟨j,h1,h2,h3,h4,h5⟩:=rK he
 obtain⟨w,ew,rw'⟩:=r.get h2
 have hl:=r.length
 have hn:=mI
 have fin:EP X pins σ Q w s:=⟨z,H,I,rw',q⟩
 by_cases h0:0<=i
 ·have hj:i.toNat=j:=by
   rw[seqIndex_of h0 h5] at h1
   exact Option.some.inj h1
  exact item_listR pl.isList h0 (by omega) (by rw[hj];simpa using ew) fin hs
 ·have hj:(i + (its.toArray.size:Int)).toNat=j:=by
   rw[seqIndex_neg (by omega) h4] at h1
   rw[List.size_toArray,<-hl]
   exact Option.some.inj h1
  exact subscriptTail_builtinR (x:=w) pl.isList.typeIs slot_list_getitem.lookup
   (wpAny_getItem_list_neg (Q:=fun r s'=>r=w/\EP X pins σ Q r s') pl.isList (by omega) (by rw[List.size_toArray] <;> omega) (by omega) (by rw[hj];simpa using ew) ⟨rfl,fin⟩) hs
theorem FW:AJ X (Ji X.K):=by
 intro value slice pins s σ H x y v u Q I rx ry h hs
 obtain⟨p,xs,i,z,rfl,rfl,hq,he,q⟩:=h
 cases rx
 obtain⟨t,rfl⟩:=ry
 obtain⟨its,r,pl,hz⟩:=I.tuple hq
 obtain⟨j,h1,h2,h3,h4,h5⟩:=rK he
 obtain⟨w,ew,rw'⟩:=r.get h2
 have hl:=r.length
 have hn:=mI
 have fin:EP X pins σ Q w s:=⟨z,H,I,rw',q⟩
 exact subscriptTail_builtinR (x:=w) pl.typeIs slot_tuple_getitem.lookup
  (getItem_tuple (j:=j) (Q:=fun r s'=>r=w/\EP X pins σ Q r s') pl (by omega) (by omega) (by rw[List.size_toArray,<-hl];exact h1) (by simpa using ew) ⟨rfl,fin⟩) hs
theorem Gu:AJ X Ja:=by
 intro value slice pins s σ H x y v u Q I rx ry h hs
 obtain⟨z,i,c,rfl,rfl,hz,he,q⟩:=h
 obtain⟨t,rfl⟩:=rx
 obtain⟨t',rfl⟩:=ry
 obtain⟨j,h1,h2,h3,h4,h5⟩:=rK he
 have hl:z.cps.toList.length=z.length:=by simp[Str.length]
 rw[hl] at h1 h4 h5
 have hn:=mI
 exact tail_any (typeIs_str s z t) slot_str_getitem.lookup (getItem_str (c:=c) (by
  have e1:decide (i < -(2 ^ 63:Int))=false:=decide_eq_false (by omega)
  have e2:decide (i>=2 ^ 63)=false:=decide_eq_false (by omega)
  rw[e1,e2,Bool.or_false]) (by rw[h1];simpa using h2) ⟨.str ⟨#[c]⟩,H,I.tok _,⟨_,rfl⟩,q⟩) hs
def K6 (K:PySem.W.Frag):R2:=fun x y H Q=>Hd K x y H Q\/Ji K x y H Q\/Ja x y H Q
theorem aU:AJ X (K6 X.K):=gf.or (FW.or Gu)
theorem wV (its:List Value)(n j:Nat)(u:Value):Obj.mapSeq (·.setIfInBounds j u) {cls:=.type "list",data:=.seq its.toArray n}={cls:=.type "list",data:=.seq (its.set j u).toArray n}:=by
 simp[Obj.mapSeq]
theorem Inv.lst {pins:List (Addr×Obj)}{σ:St}{H:Hp}{s:Shared}{p:Addr}{xs:List V}(I:Inv X pins σ H s)(h:H p=some (.lst xs)) :
  ∃(its:List Value) (n:Nat),Vals xs its/\s.heap.get? p=some {cls:=.type "list",data:=.seq its.toArray n}/\xs.length<=sizeLine:=by
 obtain⟨z,its,n,r,e⟩:=I.hok p _ h
 exact⟨its,n,r,e,z⟩
theorem Inv.lstUpd {pins:List (Addr×Obj)}{σ:St}{H:Hp}{s:Shared}{p:Addr}{xs ys:List V}{its its':List Value}{n n':Nat}{f:Obj->Obj}(I:Inv X pins σ H s)(h:H p=some (.lst xs))
  (ho:s.heap.get? p=some {cls:=.type "list",data:=.seq its.toArray n}) (hf:f {cls:=.type "list",data:=.seq its.toArray n}={cls:=.type "list",data:=.seq its'.toArray n'}) (r:Vals ys its') (hz:ys.length<=sizeLine) (t:Nat) :
  Inv X pins σ (upd H p (.lst ys)) {s with heap:=s.heap.update p f,toks:=t}:=by
 have e:(s.heap.update p f).get? p=some {cls:=.type "list",data:=.seq its'.toArray n'}:=by
  rw[Heap.get?_update_self f ho (by rw[hf] <;> rfl),hf]
 refine I.write (x:=p) (e:=p) (by rw[h];trivial) (.inl rfl) (fun b u hb q=>(Heap.get?_update_other _ _ (Ne.symm hb)).trans q) ⟨_,e⟩ ?_
 exact⟨hz,its',n',r,e⟩
def Jg:V->V->V->Hp->(Hp->Prop)->Prop:=fun o i v H Q=>∃p xs k j,o=.ref p/\i=.int k/\H p=some (.lst xs)/\vD xs.length k=some j/\Q (upd H p (.lst (xs.set j v)))
theorem set_list:tu X Jg:=by
 intro pins s σ H o i v ov iv u Q I ro ri rv h
 obtain⟨p,xs,k,j,rfl,rfl,hp,hj,q⟩:=h
 cases ro
 obtain⟨t,rfl⟩:=ri
 obtain⟨its,n,r,ho,hz⟩:=I.lst hp
 obtain⟨h1,h2,h3,h4⟩:=yI hj
 have hl:=r.length
 have hn:=mI
 have I':Inv X pins σ (upd H p (.lst (xs.set j v))) {s with heap:=s.heap.update p (Obj.mapSeq (·.setIfInBounds j u))}:=
  I.lstUpd hp ho (wV its n j u) (r.set rv j) (by rw[List.length_set];exact hz) s.toks
 by_cases h0:0<=k
 ·have hk:k.toNat=j:=by
   rw[seqIndex_of h0 h4] at h1
   exact Option.some.inj h1
  exact PySem.W.ki_setAt ho h0 (by omega) (by rw[List.size_toArray,<-hl];exact h4) (by rw[hk];exact⟨_,I',q⟩)
 ·have hk:(k + (its.toArray.size:Int)).toNat=j:=by
   rw[seqIndex_neg (by omega) h3] at h1
   rw[List.size_toArray,<-hl]
   exact Option.some.inj h1
  exact PySem.W.ki_setBack ho (by omega) (by rw[List.size_toArray,<-hl];exact h3) (by omega) (by rw[hk];exact⟨_,I',q⟩)
theorem rF (lo hi:Option Int)(n:Nat):(sliceBounds lo hi none n).1=((HT.cS n 0 lo:Nat):Int)/\(sliceBounds lo hi none n).2.1=((HT.cS n n hi:Nat):Int)/\(sliceBounds lo hi none n).2.2=1:=by
 refine⟨?_,?_,rfl⟩
 ·cases lo with
  |none=>simp[sliceBounds,HT.cS]
  |some i=>
   simp only[sliceBounds,HT.cS,Option.getD_none,show (1:Int) > 0 by decide,if_true]
   by_cases h:i < 0
   ·simp only[h,if_true] <;> omega
   ·simp only[h,if_false] <;> omega
 ·cases hi with
  |none=>simp[sliceBounds,HT.cS]
  |some i=>
   simp only[sliceBounds,HT.cS,Option.getD_none,show (1:Int) > 0 by decide,if_true]
   by_cases h:i < 0
   ·simp only[h,if_true] <;> omega
   ·simp only[h,if_false] <;> omega
theorem pX (its:List Value)(lo hi:Option Int):slicePick its.toArray lo hi none=((its.drop (HT.cS its.length 0 lo)).take (HT.cS its.length its.length hi - HT.cS its.length 0 lo)).toArray:=by
 obtain⟨h1,h2,h3⟩:=rF lo hi its.toArray.size
 unfold slicePick
 rw[h1,h2,h3]
 simp only[sliceRange_one,pick_run,List.size_toArray] <;> rfl
def Kk (K:PySem.W.Frag):V->Option Int->Option Int->Hp->VK->Prop:=fun x lo hi H Q=>∃a xs,x=.ref a/\fR K H a xs/\∀p,H p=none->Q (.ref p) (upd H p (.lst (oA xs lo hi)))
theorem Ed:Jz X (Kk X.K):=by
 intro pins s σ H x v vl vu lo hi sl Q I rx hs pl pu h
 obtain⟨a,xs,rfl,hx,q⟩:=h
 cases rx
 obtain⟨its,r,ht,hz⟩:=I.list hx
 have hlen:=r.length
 refine⟨"list",_,slot_list_getitem.lookup,ht.isList.typeIs,?_⟩
 refine wpAny_getItem_list_slice ht.isList hs pl pu .none (by simp) ?_ (by rw[List.size_toArray] <;> omega)
 rw[pX,<-hlen]
 refine⟨.ref s.heap.objs.size,_,I.laid (t':=s.toks) (o:=.lst (oA xs lo hi)) (fun b ob q=>Heap.get?_push_of_some _ q) (Nat.le_refl _) ?_,rfl,q _ (I.hok.fresh (Nat.le_refl _))⟩
 exact⟨Nat.le_trans (mY xs lo hi) hz,_,0,(r.drop (HT.cS xs.length 0 lo)).take (HT.cS xs.length xs.length hi - HT.cS xs.length 0 lo),Heap.get?_push_size _ rfl⟩
theorem l5:b8 X (.type "list") (fun xs H Q=>∃p ys,xs= [.ref p]/\(fR X.K H p ys\/c7 X.K H p ys)/\∀l,H l=none->Q (.ref l) (upd H l (.lst ys))):=by
 intro pins s σ H xs us Q I r h
 obtain⟨p,ys,rfl,hq,q⟩:=h
 obtain⟨u,rfl,rx⟩:=vals1 r
 cases rx
 have fin:∀(its:List Value),Vals ys its->ys.length<=sizeLine->∀(h':Heap) (c':Nat),(∀b o',s.heap.get? b=some o'->h'.get? b=some o')->
   h'.get? s.heap.objs.size=some {cls:=.type "list",dict:=none,data:=.seq its.toArray c',slots:=#[]}->EP X pins σ Q (.ref s.heap.objs.size) {s with heap:=h'}:=fun its r' hz h' c' kp e=>
  ⟨.ref s.heap.objs.size,_,I.laid (t':=s.toks) kp (Nat.le_refl _) (show bw X.prog X.w _ h' _ (.lst ys) from⟨hz,its,c',r',e⟩),rfl,q _ (I.hok.fresh (Nat.le_refl _))⟩
 rcases hq with hq |hq
 ·obtain⟨its,r',pl,hz⟩:=I.list hq
  have hlen:=r'.length
  obtain⟨o,ho,hc,n,hd⟩:=pl.isList
  exact call_list_seq p (.inl rfl) ho hc hd (fun h' c' kp e=>fin its r' hz h' c' kp e) (by simp only[List.size_toArray] <;> omega)
 ·obtain⟨its,r',pl,hz⟩:=I.tuple hq
  have hlen:=r'.length
  obtain⟨o,ho,hc,n,hd⟩:=pl
  exact call_list_seq p (.inr rfl) ho hc hd (fun h' c' kp e=>fin its r' hz h' c' kp e) (by simp only[List.size_toArray] <;> omega)
theorem cX:b8 X (.type "tuple") (fun xs H Q=>∃p ys,xs= [.ref p]/\((fR X.K H p ys/\∀l,H l=none->Q (.ref l) (upd H l (.tup ys)))\/(c7 X.K H p ys/\Q (.ref p) H))):=by
 intro pins s σ H xs us Q I r h
 obtain⟨p,ys,rfl,h⟩:=h
 obtain⟨u,rfl,rx⟩:=vals1 r
 cases rx
 rcases h with⟨hq,q⟩ | ⟨hq,q⟩
 ·obtain⟨its,r',pl,hz⟩:=I.list hq
  have hlen:=r'.length
  refine call_tuple_list pl.isList (fun h' kp=>?_) (by simp only[List.size_toArray] <;> omega)
  have I1:Inv X pins σ H {s with heap:=h'}:=I.kept (t':=s.toks) kp
  have I2:Inv X pins σ (upd H h'.objs.size (.tup ys)) {s with heap:=h'.push {cls:=.type "tuple",data:=.seq its.toArray}}:=
   I1.laid (t':=s.toks) (fun b o e=>Heap.get?_push_of_some _ e) (Nat.le_refl _) (show bw X.prog X.w _ _ _ (.tup ys) from⟨hz,its,r',nE.new _ _⟩)
  exact⟨.ref h'.objs.size,_,I2,rfl,q _ (I1.hok.fresh (Nat.le_refl _))⟩
 ·obtain⟨its,r',pl,hz⟩:=I.tuple hq
  exact call_tuple_same pl ⟨.ref p,H,I,rfl,q⟩
def KU (K:PySem.W.Frag)(T:String)(x:V)(H:Hp):Prop:=match x with
 | .str _=>T="str"
 | .int _=>T="int"
 | .ref p=>(T="list"/\∃xs,fR K H p xs)\/(T="tuple"/\∃o,K.lookup p=some o/\o.cls=.type "tuple"/\o.dict=none)\/
   (T="dict"/\((∃kvs,H p=some (.dK kvs))\/∃kvs,H p=some (.dT kvs)))\/(T="set"/\∃S n,H p=some (.set S n))
 |_=>False
theorem GX {pins:List (Addr×Obj)}{σ:St}{H:Hp}{s:Shared}{T:String}{x:V}{v:Value}(I:Inv X pins σ H s)(r:RelV x v)(ty:KU X.K T x H) :
  s.TypeIs v T/\∀a,v=.ref a->∃ob,s.heap.get? a=some ob/\ob.dict=none:=by
 cases x with
 |str z=>
  obtain⟨t,rfl⟩:=r
  cases (show T="str" from ty)
  exact⟨typeIs_str s z t,fun _ e=>nomatch e⟩
 |int i=>
  obtain⟨t,rfl⟩:=r
  cases (show T="int" from ty)
  exact⟨typeIs_int s i t,fun _ e=>nomatch e⟩
 |ref p=>
  cases r
  rcases ty with⟨rfl,xs,hq⟩ | ⟨rfl,o,hk,hc,hd⟩ | ⟨rfl,hk⟩ | ⟨rfl,S,n,hk⟩
  ·obtain⟨its,_,pl,_⟩:=I.list hq
   refine⟨pl.isList.typeIs,fun a e=>?_⟩
   cases e
   obtain⟨o,n,e,c,hd,_⟩:=pl
   exact⟨o,e,hd⟩
  ·refine⟨⟨o,I.kIn p o hk,hc⟩,fun a e=>?_⟩
   cases e
   exact⟨o,I.kIn _ o hk,hd⟩
  ·have z:∃o,s.heap.get? p=some o/\o.ExactDict:=by
    rcases hk with⟨kvs,hk⟩ | ⟨kvs,hk⟩
    ·obtain⟨_,_,_,_,o,_,_,e,ex,_⟩:=I.hok p _ hk
     exact⟨o,e,ex⟩
    ·obtain⟨_,_,_,_,o,_,_,e,ex,_⟩:=I.hok p _ hk
     exact⟨o,e,ex⟩
   obtain⟨o,e,ex⟩:=z
   refine⟨⟨o,e,ex.1⟩,fun a e2=>?_⟩
   cases e2
   exact⟨o,e,ex.2.1⟩
  ·obtain⟨o,_,_,_,e,ex,_⟩:=I.hok p _ hk
   refine⟨⟨o,e,ex.1⟩,fun a e2=>?_⟩
   cases e2
   exact⟨o,e,ex.2.1⟩
 |_=>exact False.elim ty
def K7 (K:PySem.W.Frag)(T:String)(r:V->List V->Hp->VK->Prop)(to:TE)(t:TA):TE:=fun σ H Q=>to σ H fun x H1=>KU K T x H1/\t σ H1 fun xs H2=>r x xs H2 Q
variable {o e:Expr}{es:List Expr}{to:TE}{t:TA}{name:Str}{apos cpos:Pos}{T id:String}{r:V->List V->Hp->VK->Prop}
theorem Ck (pa:PlainAttrs T)(slot:Slot T name id)(hty:typeOf (.builtin id)=pure (.type "method_descriptor"))(hm:Ln X id r)(ho:PE X o to)(ha:PA X (e :: es) t)
  (hbase:attributeBase o name X.env (eval o X.env)=eval o X.env:=by rfl)
  (hfew:((backTo cpos (starEach (e :: es) X.env)).all (fun x=> !x.1) && (backToKw cpos (keywordEach [] X.env)).all (fun x=>x.1.isSome)
   && decide ((e :: es).length + ([]:List Keyword).length + (if ([]:List Keyword).isEmpty then 0 else 1) < 30))=true:=by rfl)
  (hline:(apos.endLine == cpos.line)=true:=by rfl) (hs:starEach (e :: es) X.env=(false,eval e X.env) :: starEach es X.env:=by rfl) (hplain:(backTo cpos (starEach es X.env)).any (·.1)=false:=by rfl) :
  PE X (.Call (.Attribute o name apos) (e :: es) [] cpos) (K7 X.K T r to t):=by
 intro pins s σ H Q I h
 refine wpAny_Call_method_late hbase hfew hline rfl (bW (ho pins s σ H _ I h) fun v s1 ⟨x,H1,I1,r1,ty,q1⟩=>?_)
 obtain⟨h1,h2⟩:=GX I1 r1 ty
 refine⟨T,id,pa,slot,hty,h1,h2,?_⟩
 have hA:=ha cpos pins s1 σ H1 _ I1 q1
 rw[hs] at hA ⊢
 refine Calls.callWith_builtin (by show (false || (backTo cpos (starEach es X.env)).any (·.1))=false;rw[hplain] <;> rfl) (Calls.evalArgs_plain ?_)
 exact bW hA fun us s2 ⟨vs,H2,I2,r2,q2⟩=>hm pins s2 σ H2 x vs v us Q I2 r1 r2 q2
end
end L2
namespace L2
open PySem PySem.Spec PyProof.Rows
def JG (X:Cx)(id:String)(r:V->List V->Hp->VK->Prop):Prop:=
 ∀(pins:List (Addr×Obj)) (s:Shared) (σ:St) (H:Hp) (x:V) (xs:List V) (v:Value) (us:List Value) (Q:VK),Inv X pins σ H s->RelV x v->Vals xs us->r x xs H Q->
  wpAny (model X.prog X.w) X.A (call (.builtin id) (v :: us)) (EP X pins σ Q) X.xe s
theorem Vals.one:∀{x:V} {us:List Value},Vals [x] us->∃u,us= [u]/\RelV x u
 |_,_,.cons r .nil=>⟨_,rfl,r⟩
theorem Vals.eraseIdx:∀{xs:List V} {us:List Value} (i:Nat),Vals xs us->Vals (xs.eraseIdx i) (us.eraseIdx i)
 |_,_,_,.nil=>.nil
 |_,_,0,.cons _ t=>t
 |_,_,i + 1,.cons r t=>.cons r (Vals.eraseIdx i t)
theorem Vals.reverse {xs:List V}{us:List Value}(h:Vals xs us):Vals xs.reverse us.reverse:=by
 induction h with
 |nil=>exact .nil
 |cons r t ih=>rw[List.reverse_cons,List.reverse_cons];exact Vals.append ih (.cons r .nil)
theorem Vals.rep {xs:List V}{us:List Value}(h:Vals xs us):∀k:Nat,Vals (List.replicate k xs).flatten (List.replicate k us).flatten
 | 0=>.nil
 |k + 1=>by
  rw[List.replicate_succ,List.replicate_succ,List.flatten_cons,List.flatten_cons]
  exact Vals.append h (Vals.rep h k)
theorem qM {α:Type}:∀(l:List α) (i:Nat),(l.eraseIdx i).length<=l.length
 | [],_=>Nat.le_refl _
 |_ :: _,0=>Nat.le_succ _
 |_ :: r,i + 1=>Nat.succ_le_succ (qM r i)
theorem foldl_rep (its:List Value):∀(k:Nat) (acc:List Value),
  List.foldl (fun x1 x2=>x1 ++ x2) acc.toArray (List.replicate k its.toArray)=(acc ++ (List.replicate k its).flatten).toArray
 | 0,acc=>by simp
 |k + 1,acc=>by
  have e:acc.toArray ++ its.toArray=(acc ++ its).toArray:=by simp
  have e2:(acc ++ its) ++ (List.replicate k its).flatten=acc ++ (List.replicate (k + 1) its).flatten:=by
   rw[List.replicate_succ,List.flatten_cons,List.append_assoc]
  rw[<-e2,<-foldl_rep its k (acc ++ its),<-e,List.replicate_succ,List.foldl_cons]
section
variable {X:Cx}{pins:List (Addr×Obj)}{σ:St}{H:Hp}{s:Shared}{l b:Addr}{xs ys zs:List V}
theorem Inv.lset {its its':List Value}{n:Nat}{f:Array Value->Array Value}{t':Nat}(I:Inv X pins σ H s)(hH:H l=some (.lst xs))
  (e:s.heap.get? l=some {cls:=.type "list",data:=.seq its.toArray n}) (hf:f its.toArray=its'.toArray) (hv:Vals ys its') (hz:ys.length<=sizeLine) :
  Inv X pins σ (upd H l (.lst ys)) {s with heap:=s.heap.update l (Obj.mapSeq f),toks:=t'}:=by
 have q:=PySem.IsL.update e f
 rw[hf] at q
 refine I.write (x:=l) (e:=l) (by rw[hH];exact trivial) (.inl rfl) (fun b' u hb hu=>(Heap.get?_update_other s.heap (Obj.mapSeq f) (Ne.symm hb)).trans hu) ⟨_,q⟩ ?_
 exact⟨hz,its',_,hv,q⟩
theorem Inv.lnew {its:List Value}{t':Nat}(I:Inv X pins σ H s)(hv:Vals ys its)(hz:ys.length<=sizeLine) :
  Inv X pins σ (upd H s.heap.objs.size (.lst ys)) {s with heap:=s.heap.push {cls:=.type "list",data:=.seq its.toArray},toks:=t'}:=
 I.laid (fun _ _ q=>Heap.get?_push_of_some _ q) (Nat.le_refl _) ⟨hz,its,0,hv,Heap.get?_push_size _ rfl⟩
theorem Inv.fresh (I:Inv X pins σ H s):H s.heap.objs.size=none:=I.hok.fresh (Nat.le_refl _)
theorem Inv.lstM (I:Inv X pins σ H s)(hH:H l=some (.lst xs)):xs.length<=sizeLine/\∃(its:List Value) (n:Nat),Vals xs its/\xs.length=its.length/\s.heap.get? l=some {cls:=.type "list",data:=.seq its.toArray n}:=by
 obtain⟨z,its,n,r,e⟩:=I.hok l _ hH
 exact⟨z,its,n,r,r.length,e⟩
theorem Bl {n:Nat}(h:n<=sizeLine):Builtin.List.listTooLong n=false:=by
 unfold Builtin.List.listTooLong
 exact decide_eq_false (by omega)
end
section
variable {X:Cx}
def Ex:V->List V->Hp->VK->Prop:=fun x vs H Q=>∃l xs y,x=.ref l/\vs= [y]/\H l=some (.lst xs)/\xs.length < sizeLine/\Q .non (upd H l (.lst (xs ++ [y])))
theorem mU:JG X "list.append" Ex:=by
 intro pins s σ H x vs v us Q I rx rv h
 obtain⟨l,xs,y,rfl,rfl,hH,hz,q⟩:=h
 cases rx
 obtain⟨u,rfl,ru⟩:=rv.one
 obtain⟨z,its,n,r,hl,e⟩:=I.lstM hH
 refine call_meets F.slot_list_append ⟨_,e,rfl⟩ F.entry_list_append (F.args_list_append_2 _ _) (PySem.list_append l its.toArray n u (by rw[List.size_toArray];omega)) ⟨e,?_⟩
 refine⟨.non,_,I.lset (its':=its ++ [u]) hH e (by simp) (r.append (.cons ru .nil)) ?_,rfl,q⟩
 rw[List.length_append,List.length_singleton]
 omega
def FK:V->List V->Hp->VK->Prop:=fun x vs H Q=>∃l xs i k y,x=.ref l/\vs= [.int i]/\H l=some (.lst xs)/\ -(2 ^ 63)<=i/\i < 2 ^ 63/\seqIndex? i xs.length=some k/\xs[k]? =some y/\Q y (upd H l (.lst (xs.eraseIdx k)))
theorem B7:JG X "list.pop" FK:=by
 intro pins s σ H x vs v us Q I rx rv h
 obtain⟨l,xs,i,k,y,rfl,rfl,hH,h1,h2,hk,hy,q⟩:=h
 cases rx
 obtain⟨u,rfl,ru⟩:=rv.one
 obtain⟨t,rfl⟩:=ru
 obtain⟨z,its,n,r,hl,e⟩:=I.lstM hH
 obtain⟨w,hw,rw'⟩:=r.get hy
 refine call_meets F.slot_list_pop ⟨_,e,rfl⟩ F.entry_list_pop (F.args_list_pop_2 _ _)
  (MeetsSeq.list_pop_at l its.toArray n i t k w (fitsIndex_both h1 h2) (by rw[List.size_toArray,<-hl];exact hk) (by rw[<-Array.getElem?_toList];exact hw) (by rw[List.size_toArray];omega)) ⟨e,?_⟩
 refine⟨y,_,I.lset (its':=its.eraseIdx k) hH e ?_ (r.eraseIdx k) ?_,rw',q⟩
 ·show its.toArray.eraseIdxIfInBounds k=(its.eraseIdx k).toArray
  rw[List.eraseIdxIfInBounds_toArray]
 ·have:=qM xs k
  omega
def J4:R2:=fun x y H Q=>∃l k xs,x=.ref l/\y=.int k/\H l=some (.lst xs)/\ -(2 ^ 63)<=k/\k < 2 ^ 63/\xs.length * k.toNat<=sizeLine/\
 ∀p,H p=none->Q (.ref p) (upd H p (.lst (List.replicate k.toNat xs).flatten))
theorem len_rep {α:Type}(xs:List α)(k:Nat):(List.replicate k xs).flatten.length=k * xs.length:=by
 induction k with
 |zero=>simp
 |succ k ih=>rw[List.replicate_succ,List.flatten_cons,List.length_append,ih,Nat.succ_mul,Nat.add_comm]
theorem CJ:k9 X (binaryOp .Mult) J4:=by
 intro pins s σ H x y v u Q I rx ry h
 obtain⟨l,k,xs,rfl,rfl,hH,h1,h2,hz,q⟩:=h
 cases rx
 obtain⟨t,rfl⟩:=ry
 obtain⟨z,its,n,r,hl,e⟩:=I.lstM hH
 have hlen:its.toArray.size * k.toNat<=sizeLine:=by rw[List.size_toArray,<-hl];exact hz
 have hcap:¬its.toArray.size * k.toNat > (2 ^ 63 - 1) / 8:=by
  have:(sizeLine:Nat)<=(2 ^ 63 - 1) / 8:=by decide
  omega
 have hfit:¬(!Builtin.List.listFitsIndex k)=true:=by
  rw[fitsIndex_both h1 h2]
  exact Bool.false_ne_true
 have hlong:¬Builtin.List.listTooLong (its.toArray.size * k.toNat)=true:=by
  rw[Bl hlen]
  exact Bool.false_ne_true
 have hnew:List.foldl (fun x1 x2=>x1 ++ x2) #[] (List.replicate (if its.toArray.isEmpty=true then 0 else k.toNat) its.toArray)=(List.replicate k.toNat its).flatten.toArray:=by
  have f0:∀m:Nat,List.foldl (fun x1 x2=>x1 ++ x2) #[] (List.replicate m its.toArray)=(List.replicate m its).flatten.toArray:=fun m=>by
   have:=foldl_rep its m []
   rw[List.nil_append] at this
   exact this
  rw[f0]
  cases its with
  |nil=>simp
  |cons a r'=>rw[if_neg (by simp)]
 refine wpAny_binaryOp_repeat_ref (T:="list") (U:="int") (by decide) ⟨_,e,rfl⟩ (fun s'=>typeIs_int s' k t) noFill_list_mul F.fills_int_mul F.slot_int_rmul repeat_list F.slot_int_index.lookup
  (call_meets F.slot_int_rmul (typeIs_int s k t) F.entry_int_rmul (F.args_int_rmul_2 _ _) (int___rmul___int_list k t l its.toArray n)
   ⟨e,rfl,⟨_,e,rfl⟩,call_meets F.slot_list_mul ⟨_,e,rfl⟩ F.entry_list_mul (F.args_list_mul_2 _ _) (AutoListH.list___mul___list_int_3 l its.toArray n k t hfit hcap hlong) ⟨e,?_⟩⟩)
 rw[hnew]
 exact⟨.ref _,_,I.lnew (t':=s.toks) (r.rep k.toNat) (by rw[len_rep,Nat.mul_comm];exact hz),rfl,q _ I.fresh⟩
end
end L2
namespace Att
open PySem PySem.W PySem.Calls PyProof.Rows
theorem nu {P:Params}{h:Heap}:∀(ns:List Int) (vs:List Value),WellAll P h vs (ns.map WData.int)->IntsAre vs ns:=by
 intro ns
 induction ns with
 |nil=>
  intro vs w
  rw[List.map_nil] at w
  cases w
  exact .nil
 |cons n ns ih=>
  intro vs w
  rw[List.map_cons] at w
  cases w with
  |cons a b=>
   cases a
   exact .cons _ _ (ih _ b)
theorem zO {l:OpenLaw}{n:Nat}(hn:l.most=some n){P:Params}{h:Heap}{args:List WData}{vals:List Value}
  (hpre:l.row.toRowW.claim.pre args=true) (hwl:WellAll P h vals args) :
  ∃a vs ns,vals= [Value.ref a]/\args= [WData.list (ns.map WData.int)]/\h.get? a=some {cls:=.type "list",data:=.seq vs.toArray}/\IntsAre vs ns/\ns.length<=n:=by
 have hsh:WShape.hasAll [] args [.list .int]=true:=(pre_splitW hpre).1
 have hc:l.pre.holds [] {args:=args}=true:=(pre_splitW hpre).2
 obtain⟨d,r,rfl,h1,h2⟩:=hasAllW_cons hsh
 obtain rfl:=hasAllW_nil h2
 obtain⟨xs,rfl,h3⟩:=hasW_list h1
 obtain⟨ns,rfl⟩:=items_int h3
 have hlen:ns.length<=n:=by
  unfold OpenLaw.pre at hc
  have h4:(WTm.not (.lt (.lit (.int (n:Int))) (.len (.arg 0)))).holds [] {args:=[.list (ns.map .int)]}=true:=by
   have h4:=(holds_andW hc).1
   rw[hn] at h4
   exact h4
  have h5:=condW_of h4 (w_not (w_lt w_lit (w_len_list (w_arg rfl))))
  rw[List.length_map] at h5
  refine Nat.le_of_not_lt fun q=>?_
  have q':(n:Int) < ((ns.length:Nat):Int):=by omega
  first
   | (rw[decide_eq_true q'] at h5;exact absurd h5 (by decide))
   | (simp at h5;omega)
 cases hwl with
 |cons w1 w2=>
  cases w2
  cases w1 with
  |list ho hall=>exact⟨_,_,ns,rfl,rfl,ho,nu ns _ hall,hlen⟩
theorem yY (l:OpenLaw)(args:List WData):l.row.toRowW.claim.post args (.bool true) args=true:=
 postW_of (r:=l.row.toRowW) (X:=(true == true))
  (show WShape.has [] (.bool true) .bool=true by first |rfl |decide |simp[WShape.has,WShape.arms,WShape.armsAll])
  (show (WTm.eq .res (.lit (.bool true))).value [] {args:=args,res:=some (.bool true),after:=args}=some (.bool (true == true)) from w_eq_bool (w_res rfl) w_lit) rfl
theorem tL {l:OpenLaw}{n:Nat}{q:Program}{loose:List Str}{XP:(Str->Option Value)->Heap->Prop}{YP:World->Heap->Prop}{d:DefRec}
  (hn:l.most=some n) (hdf:d.params.defaults= [])
  (call:∀(w:World) (s₀ s₁:Shared) (mg mb:Str->Option Value) (fa:Addr) (o:Obj) (pm cd doc:Value) (a:Addr) (vs:List Value) (ns:List Int),
   Ground q loose [] XP w s₀ mg mb s₁.heap->YP w s₁.heap->
   s₁.heap.get? fa=some o->o.data=.func (docDef d.name d.params d.body d.scope pm cd doc)->s₁.heap.CodeRec cd d.name->mg d.name=some (.ref fa)->
   s₁.heap.get? a=some {cls:=.type "list",data:=.seq vs.toArray}->IntsAre vs ns->ns.length<=n->s₁.gens=#[]->
   codeAny (model l.prog w) callerA (.call (.ref fa) ⟨[.ref a],[]⟩) (fun r s'=>r=.ok (.ret (.bool true))/\OldK s₁.heap s'.heap/\s'.os=s₁.os/\AllBare s'.gens) s₁) :
  WalkO q loose XP YP l.row.toRowW d [] (fun f vs=>PySem.call f vs):=by
 intro w s₀ s₁ mg mb G Y fa o pm cd doc dV kV ho hd hcd hD hmg hg args vals as hpre hlay hrd hwl hlo
 obtain rfl:dV=.none:=Dflts.none hD hdf
 obtain rfl:kV=.none:=Dflts.noKw hD
 obtain⟨a,vs,ns,rfl,rfl,hobj,hints,hlen⟩:=zO hn hpre hwl
 refine enter_call (codeAny_mono (call w s₀ s₁ mg mb fa o pm cd doc a vs ns G Y ho (fd_plain hd) hcd hmg hobj hints hlen hg) fun r s' hq=>?_)
 obtain⟨rfl,h2,h3,h4⟩:=hq
 exact⟨.inl ⟨.bool true,.bool true,[],rfl,fun _=>rfl,.bool true,yY l _,fun _=>⟨List.Pairwise.nil,fun _ hm=>(nomatch hm)⟩⟩,h2,h3,h4⟩
end Att
namespace L2
open PySem PySem.Spec PyProof.Rows
theorem qE:∀{vs:List Value} {ns:List Int},IntsAre vs ns->Vals (ns.map V.int) vs
 |_,_,.nil=>.nil
 |_,_,.cons n t h=>.cons ⟨t,rfl⟩ (qE h)
def GK (H:Hp):Prop:=∀b,H b=none\/∃o xs,H b=some (.a7 o (.lst xs))
theorem BI {P:Program}{w:World}{K:PySem.W.Frag}{mg mb:Str->Option Value}{CX:zW}{k:Nat}{fa a:Addr}{fd:FuncData}{x:Str}{sp:Sp}{s₁:Shared}{vs:List Value}{ns:List Int}
  (KX:K.In s₁.heap) (hns:s₁.heap.Ns mainGlobals mg) (hb:s₁.heap.Ns builtinsNs mb) (hbb:∀x:Str,x≠"__name__"->mb x=bootBuiltins x) (hlim:s₁.heap.NoLimit) (hsys:∃mm,s₁.heap.Ns sysModules mm) (hg:s₁.gens=#[])
  (ha:s₁.heap.get? a=some {cls:=.type "list",data:=.seq vs.toArray}) (hi:IntsAre vs ns) (hl:ns.length<=sizeLine) (hr:eT k callerA)
  (F:∀base:Heap,K.In base->base.Ns mainGlobals mg->fy P w K mg base CX k fa fd [x] sp) (hbind:∀(s:Shared) (u:Value),BindsTo s fd ⟨[u],[]⟩ [(x,u)])
  (hsp:∀H:Hp,GK H->fR K H a (ns.map V.int)->sp [.ref a] H (fun v _=>v=.bl true) fun _ _ _=>False)
  (hCX:∀H e s',CX [] H s₁ (fun _ _ _=>False) e s'->False) :
  codeAny (model P w) callerA (.call (.ref fa) ⟨[.ref a],[]⟩) (fun r s'=>r=.ok (.ret (.bool true))/\OldK s₁.heap s'.heap/\s'.os=s₁.os/\AllBare s'.gens) s₁:=by
 have rv:=qE hi
 have lenV:=hi.length
 have core:∀H:Hp,GK H->fR K H a (ns.map V.int)->kf P w H s₁.heap->(∀b,H b≠none->b=a)->(H a≠none->K.lookup a=none)->
   codeAny (model P w) callerA (.call (.ref fa) ⟨[.ref a],[]⟩) (fun r s'=>r=.ok (.ret (.bool true))/\OldK s₁.heap s'.heap/\s'.os=s₁.os/\AllBare s'.gens) s₁:=by
  intro H hO hS hok hA hK
  have base_of:∀{b:Addr} {o:Obj},s₁.heap.get? b=some o->H b=none->(rP s₁.heap H).get? b=some o:=fun e n=>Cu e n
  have noA:∀{b:Addr} {o:Obj} {es:Array DictEntry} {ep:Nat},s₁.heap.get? b=some o->o.data=.dict es ep->H b=none:=fun {b o es ep} e d=>by
   cases q:H b with
   |none=>rfl
   |some u=>
    have e':b=a:=hA b (by rw[q];simp)
    subst e'
    rw[ha] at e;cases e
    have d':Data.seq vs.toArray _=Data.dict es ep:=d
    cases d'
  have nsK:∀{b:Addr} {m:Str->Option Value},s₁.heap.Ns b m->(rP s₁.heap H).Ns b m:=fun {b m} ⟨o,es,ep,e,d,r⟩=>⟨o,es,ep,base_of e (noA e d),d,r⟩
  have hKb:K.In (rP s₁.heap H):=fun b o e=>base_of (KX b o e) (by
   cases q:H b with
   |none=>rfl
   |some u=>
    have e':b=a:=hA b (by rw[q];simp)
    subst e'
    rw[hK (by rw[q];simp)] at e;cases e)
  have hM:Mod K mg (rP s₁.heap H):=⟨hKb,nsK hns,⟨mb,nsK hb,hbb⟩,let ⟨mc,h1,h2⟩:=hlim;⟨mc,nsK h1,h2⟩,let ⟨mm,h1⟩:=hsys;⟨mm,nsK h1⟩⟩
  have e0:Ds P w K mg (rP s₁.heap H) callerA [] s₁ H:=⟨rfl,hM,fun b o e=>Ef e,Nat.le_of_eq (yZ _ _),trivial,fun b hb=>absurd (show b∈([]:List Addr) from hb) (by simp),hok,.of_eq hg⟩
  refine codeAny_mono ((F _ hKb (nsK hns)).run callerA [] s₁ H ⟨[.ref a],[]⟩ [.ref a] [.ref a] _ _ hr e0 (hbind s₁ (.ref a)) (.cons rfl .nil) (hsp H hO hS)) fun r s' h=>?_
  cases r with
  |error e=>exact (hCX H e s' h).elim
  |ok fl=>
   cases fl with
   |next=>exact False.elim h
   |brk=>exact False.elim h
   |cont=>exact False.elim h
   |ret u=>
    obtain⟨v,H',os,bare,un,hok',r',q⟩:=h
    have q':v=.bl true:=q
    subst q'
    obtain rfl:u=Value.bool true:=r'
    refine⟨rfl,OldK.of_keep fun b o e=>?_,os,bare⟩
    cases q:H b with
    |none=>exact un.keep b o e q (by intro z;exact absurd (show b∈([]:List Addr) from z) (by simp)) (by simp)
    |some u=>
     rcases hO b with z | ⟨ob,xs,z⟩
     ·rw[q] at z;cases z
     ·have z2:=un.frzs b ob _ z
      obtain⟨e1,_⟩:=hok b _ z
      obtain⟨e2,_⟩:=hok' b _ z2
      rw[e] at e1;cases e1
      exact e2
 cases hk:K.lookup a with
 |some o=>
  have e:=KX a o hk
  rw[ha] at e
  cases e
  refine core (fun _=>none) (fun _=>.inl rfl) (.inr ⟨_,vs.toArray,_,hk,rfl,rfl,rfl,by rw[List.size_toArray,lenV];exact hl,by simpa using rv⟩) (fun b u z=>by have z':(none:Option HO)=some u:=z;cases z') (fun b z=>absurd rfl z) fun z=>absurd rfl z
 |none=>
  refine core (fun b=>if b=a then some (.a7 {cls:=.type "list",data:=.seq vs.toArray} (.lst (ns.map V.int))) else none) (fun b=>?_) (.inl (.inr ⟨{cls:=.type "list",data:=.seq vs.toArray},if_pos rfl⟩)) (fun b u z=>?_) (fun b z=>?_) fun _=>hk
  ·by_cases hb:b=a
   ·exact .inr ⟨_,_,if_pos hb⟩
   ·exact .inl (if_neg hb)
  ·by_cases hb:b=a
   ·have z':=(if_pos hb).symm.trans z
    cases z'
    subst hb
    exact⟨ha,by rw[List.length_map];exact hl,vs,_,rv,ha⟩
   ·have z':=(if_neg hb).symm.trans z
    cases z'
  ·by_cases hb:b=a
   ·exact hb
   ·exact absurd (if_neg hb) z
end L2
namespace L2
open PySem PySem.Spec PyProof.Rows
theorem Dr {l:PySem.W.OpenLaw}{n k:Nat}{q:Program}{loose:List Str}{XP:(Str->Option Value)->Heap->Prop}{YP:World->Heap->Prop}{d:DefRec}{K:Params->PySem.W.Frag}{CX:World->zW}{sp:World->Sp}{x:Str}
  (hn:l.most=some n) (hn2:n<=sizeLine) (hdf:d.params.defaults= []) (hi:PyProof.Rows.importsNone q=true) (hr:eT k callerA)
  (hY:∀(w:World) (h:Heap),YP w h->(K w.params).In h)
  (F:∀(w:World) (mg:Str->Option Value) (fa:Addr) (h:Heap),(K w.params).In h->h.Ns mainGlobals mg->mg d.name=some (.ref fa)->
   ∃fd:FuncData,(∀(s:Shared) (u:Value),BindsTo s fd ⟨[u],[]⟩ [(x,u)])/\
    ∀base:Heap,(K w.params).In base->base.Ns mainGlobals mg->fy l.prog w (K w.params) mg base (CX w) k fa fd [x] (sp w))
  (hsp:∀(w:World) (H:Hp) (a:Addr) (ns:List Int),ns.length<=n->GK H->fR (K w.params) H a (ns.map V.int)->sp w [.ref a] H (fun v _=>v=.bl true) fun _ _ _=>False)
  (hCX:∀(w:World) (H:Hp) (s:Shared) (e:Value) (s':Shared),CX w [] H s (fun _ _ _=>False) e s'->False) :
  PySem.W.WalkO q loose XP YP l.row.toRowW d [] (fun f vs=>PySem.call f vs):=by
 refine Att.tL hn hdf fun w s₀ s₁ mg mb fa o pm cd doc a vs ns G Y ho hd hcd hmg hobj hints hlen hg=>?_
 have KX:=hY w _ Y
 obtain⟨fd,hb,hF⟩:=F w mg fa _ KX G.T.g hmg
 exact BI KX G.T.g G.T.b G.T.builtins G.T.nolimit (let ⟨mm,h1,_⟩:=(G.T.seer hi).mods;⟨mm,h1⟩) hg hobj hints (Nat.le_trans hlen hn2) hr hF hb (fun H hO hS=>hsp w H a ns hlen hO hS) fun H e s'=>hCX w H s₁ e s'
end L2
namespace L2
open PySem PySem.Spec PyProof.Rows
def gQ (s:Stmt):Arguments:=match s with
 | .FunctionDef _ a _ _ _ _ _ _ _ _=>a
 |_=>{posonlyargs:=[],args:=[],vararg:=none,kwonlyargs:=[],kw_defaults:=[],kwarg:=none,defaults:=[]}
def cx (s:Stmt):List Stmt:=match s with
 | .FunctionDef _ _ b _ _ _ _ _ _ _=>b
 |_=>[]
def au (s:Stmt):Scope:=match s with
 | .FunctionDef _ _ _ _ _ _ sc _ _ _=>sc
 |_=>{kind:=.function,names:=[],isGenerator:=false,isCoroutine:=false}
abbrev GQ:zW:=fun _ _ _ _ _ _=>False
abbrev E0:XK:=fun _ _ _=>False
theorem Jt {X:Cx}:Passes GQ X E0:=fun _ _ _ _ _ _ _ h=>h.elim
structure CP (K:PySem.W.Frag)(x qual:Str)(st:Stmt)(f:Addr)(fd:FuncData):Prop where
 ex:∃(oc:Value) (od:Option Addr) (kV doc pm:Value) (an:Option Addr) (cdv ct:Value) (osl:Array (Option Value)),
  fd=PySem.W.fnOf x qual (gQ st) (cx st) (au st) .none kV doc pm an cdv ct/\K.lookup f=some ⟨oc,od,.func fd,osl⟩/\PySem.W.codeIn K cdv qual=true
 kp:PySem.W.keepIn K (.ref f)=true
section
variable {P:Program}{w:World}{K:PySem.W.Frag}{mg:Str->Option Value}{base:Heap}
theorem CP.ok {x qual:Str}{st:Stmt}{f:Addr}{fd:FuncData}{N ps:List Str}{k:Nat}{sp:Sp}(F:CP K x qual st f fd)(S:aF N ps (au st))(len:∀vs H Q E,sp vs H Q E->vs.length=ps.length)
  (hbody:∀(cdv:Value) (A:Around) (outer:List Env) (s:Shared) (H:Hp) (vs:List V) (Q:VK) (E:XK),eT k (A.deeper (envOfC qual (au st) s.heap.objs.size f cdv))->sp vs H Q E->
   ∃t,qW (ky GQ P w K mg base N qual (au st) f cdv A outer s H E).nox (cx st) t/\t {nx:=fun _ H'=>Q .non H',rt:=Q} (start N vs) H):fy P w K mg base GQ (k + 1) f fd ps sp:=by
 obtain⟨oc,od,kV,doc,pm,an,cdv,ct,osl,rfl,lk,hcd⟩:=F.ex
 refine EK lk hcd S len fun A outer s H vs Q E hr hsp=>?_
 obtain⟨t,h,q⟩:=hbody cdv A outer s H vs Q E hr hsp
 exact⟨t,h.nox,q⟩
theorem CP.binds {x qual:Str}{st:Stmt}{f:Addr}{fd:FuncData}{ps:List Str}(F:CP K x qual st f fd)
  (h:∀(kV doc pm:Value) (an:Option Addr) (cdv ct:Value) (us:List Value),us.length=ps.length->bindArgs (PySem.W.fnOf x qual (gQ st) (cx st) (au st) .none kV doc pm an cdv ct) ⟨us,[]⟩=pure (ps.zip us)):Binds K fd ps []:=by
 obtain⟨oc,od,kV,doc,pm,an,cdv,ct,osl,rfl,lk,hcd⟩:=F.ex
 exact .all (h kV doc pm an cdv ct)
theorem xi {x qual:Str}{st:Stmt}{f:Addr}{oc:Value}{od an:Option Addr}{osl:Array (Option Value)}{kV doc pm cdv ct:Value}(l:K.lookup f=some ⟨oc,od,.func (PySem.W.fnOf x qual (gQ st) (cx st) (au st) .none kV doc pm an cdv ct),osl⟩)
  (c:PySem.W.codeIn K cdv qual=true) (k:PySem.W.keepIn K (.ref f)=true):CP K x qual st f (PySem.W.fnOf x qual (gQ st) (cx st) (au st) .none kV doc pm an cdv ct):=⟨⟨oc,od,kV,doc,pm,an,cdv,ct,osl,rfl,l,c⟩,k⟩
end
section
variable {X:Cx}
theorem pv (i:Nat){x:Str}{pos:Pos}(hN:X.N[i]? =some x:=by rfl)(hv:v7 X.env.scope x:=by first |exact Or.inl rfl |exact Or.inr (Or.inl rfl) |exact Or.inr (Or.inr rfl))(hd:(x == ("__debug__":Str))=false:=by decide)
  (hcd:(x == ("__classdict__":Str))=false:=by decide):PE X (.Name x pos) (DB i):=jd hN hv hd hcd
end
theorem vp {A B:Prop}(h:B):if false=true then A else B:=by
 rw[if_neg Bool.false_ne_true]
 exact h
theorem vm {A B:Prop}(h:A):if true=true then A else B:=by
 rw[if_pos rfl]
 exact h
def ao (H H':Hp):Prop:=∀b o,H b=some o->H' b=some o
theorem ao.refl (H:Hp):ao H H:=fun _ _ h=>h
theorem ao.trans {H H1 H2:Hp}(a:ao H H1)(b:ao H1 H2):ao H H2:=fun c o h=>b c o (a c o h)
theorem ao.free {H H':Hp}(e:ao H H'){l:Addr}(h:H' l=Option.none):H l=Option.none:=by
 cases q:H l with
 |none=>rfl
 |some o=>
  rw[e l o q] at h
  cases h
theorem ao.seq {K:PySem.W.Frag}{H H':Hp}{a:Addr}{xs:List V}(e:ao H H')(h:fR K H a xs):fR K H' a xs:=by
 rcases h with (h | ⟨o,h⟩) |h
 ·exact .inl (.inl (e _ _ h))
 ·exact .inl (.inr ⟨o,e _ _ h⟩)
 ·exact .inr h
end L2

end

section
namespace L2.ST
open PySem PySem.SetTable
abbrev jq (xs:Array Nat):Prop:=xs.toList.Pairwise (· < ·)
theorem g7 {xs:Array Nat}(h:jq xs){i k d:Nat}(hik:i < k)(hk:k < xs.size):xs.getD i d < xs.getD k d:=by
 have hi:i < xs.size:=Nat.lt_trans hik hk
 have:=List.pairwise_iff_getElem.mp h i k (by simpa using hi) (by simpa using hk) hik
 simpa[Array.getD,hi,hk] using this
theorem B6 {xs:Array Nat}{j:Nat}(h:jq xs):∀(fuel lo hi:Nat),lo<=hi->hi<=xs.size->hi - lo<=fuel->
  (∀i,i < lo->xs.getD i j < j)->(∀i,hi<=i->i < xs.size->j<=xs.getD i j)->
  below.go xs j fuel lo hi<=xs.size/\(∀i,i < below.go xs j fuel lo hi->xs.getD i j < j)/\(∀i,below.go xs j fuel lo hi<=i->i < xs.size->j<=xs.getD i j):=by
 intro fuel
 induction fuel with
 |zero=>
  intro lo hi h1 h2 h3 h4 h5
  have:lo=hi:=by omega
  subst this
  exact⟨h2,h4,h5⟩
 |succ fuel ih=>
  intro lo hi h1 h2 h3 h4 h5
  unfold below.go
  by_cases hlt:lo < hi
  ·rw[if_pos hlt]
   dsimp only
   by_cases hm:xs.getD ((lo + hi) / 2) j < j
   ·rw[if_pos hm]
    refine ih _ _ (by omega) h2 (by omega) (fun i hi'=>?_) h5
    by_cases e:i=(lo + hi) / 2
    ·rw[e];exact hm
    ·exact Nat.lt_trans (g7 h (show i < (lo + hi) / 2 by omega) (by omega)) hm
   ·rw[if_neg hm]
    refine ih _ _ (by omega) (by omega) (by omega) h4 (fun i hi' hs=>?_)
    by_cases e:i=(lo + hi) / 2
    ·rw[e];omega
    ·have:=g7 (d:=j) h (show (lo + hi) / 2 < i by omega) hs
     omega
  ·rw[if_neg hlt]
   have:lo=hi:=by omega
   subst this
   exact⟨h2,h4,h5⟩
theorem c6 {xs:Array Nat}(h:jq xs)(j:Nat) :
  below xs j<=xs.size/\(∀i,i < below xs j->xs.getD i j < j)/\(∀i,below xs j<=i->i < xs.size->j<=xs.getD i j):=
 B6 h xs.size 0 xs.size (Nat.zero_le _) (Nat.le_refl _) (by omega) (fun i hi=>by omega) (fun i h1 h2=>by omega)
theorem yS {xs:Array Nat}(h:jq xs){i j:Nat}(hi:xs[i]? =some j):below xs j=i:=by
 obtain⟨b1,b2,b3⟩:=c6 h j
 have hs:i < xs.size:=(Array.getElem?_eq_some_iff.mp hi).1
 have hv:xs.getD i j=j:=by rw[Array.getD_eq_getD_getElem?,hi];rfl
 rcases Nat.lt_trichotomy i (below xs j) with c |c |c
 ·have:=b2 i c;omega
 ·exact c.symm
 ·have hb:below xs j < xs.size:=by omega
  have q:=b3 (below xs j) (Nat.le_refl _) hb
  have:=g7 (d:=j) h c hs
  omega
theorem yF (j:Nat):has #[] j=false:=by
 unfold has
 simp
theorem qY {t:SetTable}(h:jq t.place){i j:Nat}(hi:t.place[i]? =some j):t.slot j=.live i:=by
 unfold slot
 dsimp only
 rw[yS h hi,if_pos (by simp[hi])]
theorem wc {t:SetTable}(hd:t.dummies=#[]){j:Nat}(hj:j∉t.place):t.slot j=.empty:=by
 unfold slot
 dsimp only
 have:¬(t.place[below t.place j]? == some j)=true:=by
  intro e
  have e':t.place[below t.place j]? =some j:=by simpa using e
  obtain⟨h1,h2⟩:=Array.getElem?_eq_some_iff.mp e'
  exact hj (Array.mem_iff_getElem.mpr ⟨_,h1,h2⟩)
 rw[if_neg this,hd,yF]
 rfl
def vF (mask:Nat)(p:Probe):Probe:=
 if p.more > 0 then {p with j:=p.j + 1,more:=p.more - 1} else
 {p with j:=(leap mask p.i p.perturb).1,more:=runEnd mask (leap mask p.i p.perturb).1 - (leap mask p.i p.perturb).1,i:=(leap mask p.i p.perturb).1,perturb:=(leap mask p.i p.perturb).2}
def zv (mask i perturb:Nat):Probe:={j:=i,more:=runEnd mask i - i,i,perturb,dummy:=none}
def st (mask:Nat)(h:Int):Probe:=zv mask (bits h % (mask + 1)) (bits h)
theorem BC (t:SetTable)(p:Probe):t.advance p=vF t.mask p:=rfl
theorem E7 (t:SetTable)(h:Int):t.probeStart h=st t.mask h:=rfl
def dX (mask:Nat):Nat->Probe->Probe
 | 0,p=>p
 |n + 1,p=>dX mask n (vF mask p)
theorem jL (mask:Nat):∀(n m:Nat) (p:Probe),dX mask (n + m) p=dX mask m (dX mask n p)
 | 0,m,p=>by rw[Nat.zero_add];rfl
 |n + 1,m,p=>by rw[Nat.add_right_comm];exact jL mask n m (vF mask p)
theorem AY {mask:Nat}{p:Probe}(h:p.dummy=none):(vF mask p).dummy=none:=by
 unfold vF;split <;> exact h
theorem iN {mask i:Nat}(h:i<=mask):i<=runEnd mask i/\runEnd mask i<=mask/\runEnd mask i - i<=9:=by
 unfold runEnd;split <;> omega
def In (mask:Nat)(p:Probe):Prop:=p.j + p.more<=mask/\p.more<=9
theorem GW {mask i q:Nat}(h:i<=mask):In mask (zv mask i q):=by
 have:=iN h
 unfold In zv;dsimp only;omega
theorem lR (mask i q:Nat):(leap mask i q).1<=mask:=by
 unfold leap;exact Nat.lt_succ_iff.mp (Nat.mod_lt _ (Nat.succ_pos _))
theorem Hx {mask:Nat}{p:Probe}(h:In mask p):In mask (vF mask p):=by
 unfold vF
 by_cases hm:p.more > 0
 ·rw[if_pos hm];unfold In at *;dsimp only;omega
 ·rw[if_neg hm]
  have:=iN (lR mask p.i p.perturb)
  unfold In;dsimp only;omega
theorem xD {mask:Nat}:∀(n:Nat) {p:Probe},In mask p->In mask (dX mask n p)
 | 0,_,h=>h
 |n + 1,_,h=>xD n (Hx h)
theorem IS (mask:Nat)(h:Int):In mask (st mask h):=GW (Nat.lt_succ_iff.mp (Nat.mod_lt _ (Nat.succ_pos _)))
theorem uO (mask:Nat):∀(k:Nat) (p:Probe),p.more=k->dX mask (k + 1) p={p with j:=(leap mask p.i p.perturb).1,more:=runEnd mask (leap mask p.i p.perturb).1 - (leap mask p.i p.perturb).1,i:=(leap mask p.i p.perturb).1,perturb:=(leap mask p.i p.perturb).2}
 | 0,p,h=>by
  show vF mask p=_
  unfold vF
  rw[if_neg (by omega)]
 |k + 1,p,h=>by
  have e:vF mask p={p with j:=p.j + 1,more:=p.more - 1}:=by unfold vF;rw[if_pos (by omega)]
  show dX mask (k + 1) (vF mask p)=_
  rw[e,uO mask k _ (by dsimp only;omega)]
theorem mh (mask i q:Nat):dX mask (runEnd mask i - i + 1) (zv mask i q)=zv mask (leap mask i q).1 (leap mask i q).2:=by
 exact uO mask _ (zv mask i q) rfl
theorem i4 (mask i q:Nat):∀(k:Nat),k<=runEnd mask i - i->(dX mask k (zv mask i q))={zv mask i q with j:=i + k,more:=runEnd mask i - i - k}
 | 0,_=>rfl
 |k + 1,h=>by
  rw[jL mask k 1,i4 mask i q k (by omega)]
  show vF mask _=_
  unfold vF
  rw[if_pos (by dsimp only;omega)]
  simp only[Probe.mk.injEq]
  refine⟨by omega,by omega,?_⟩
  trivial
def fK (mask:Nat):Nat->Nat×Nat->Nat×Nat
 | 0,x=>x
 |k + 1,x=>fK mask k (leap mask x.1 x.2)
theorem m9 (mask:Nat):∀(k i q:Nat),i<=mask->∃n,n<=10 * k/\dX mask n (zv mask i q)=zv mask (fK mask k (i,q)).1 (fK mask k (i,q)).2
 | 0,i,q,_=>⟨0,Nat.le_refl _,rfl⟩
 |k + 1,i,q,h=>by
  obtain⟨n,hn,e⟩:=m9 mask k (leap mask i q).1 (leap mask i q).2 (lR _ _ _)
  have:=iN h
  refine⟨(runEnd mask i - i + 1) + n,by omega,?_⟩
  rw[jL,mh,e]
  rfl
theorem qx (mask:Nat):∀(a b:Nat) (x:Nat×Nat),fK mask (a + b) x=fK mask b (fK mask a x)
 | 0,b,x=>by rw[Nat.zero_add];rfl
 |a + 1,b,x=>by rw[Nat.add_right_comm];exact qx mask a b (leap mask x.1 x.2)
theorem uq (mask:Nat):∀(k:Nat) (x:Nat×Nat),x.1<=mask->(fK mask k x).1<=mask
 | 0,_,h=>h
 |k + 1,x,_=>uq mask k _ (lR mask x.1 x.2)
theorem kG (mask:Nat):∀(k:Nat) (x:Nat×Nat),(fK mask k x).2=x.2 / 32 ^ k
 | 0,x=>by simp[fK]
 |k + 1,x=>by
  show (fK mask k (leap mask x.1 x.2)).2=_
  rw[kG mask k,Nat.pow_succ,Nat.mul_comm,<-Nat.div_div_eq_div_mul]
  rfl
def nx (mask i:Nat):Nat:=(i * 5 + 1) % (mask + 1)
def z8 (mask:Nat):Nat->Nat->Nat
 | 0,i=>i
 |k + 1,i=>z8 mask k (nx mask i)
theorem nH (mask:Nat):∀(a b i:Nat),z8 mask (a + b) i=z8 mask b (z8 mask a i)
 | 0,b,i=>by rw[Nat.zero_add];rfl
 |a + 1,b,i=>by rw[Nat.add_right_comm];exact nH mask a b (nx mask i)
theorem pC (mask:Nat):∀(k i:Nat),fK mask k (i,0)=(z8 mask k i,0)
 | 0,_=>rfl
 |k + 1,i=>by
  show fK mask k (leap mask i 0)=_
  have:leap mask i 0=(nx mask i,0):=by simp[leap,nx]
  rw[this,pC mask k]
  rfl
def BY (mask:Nat):Prop:=mask=7\/mask=31\/mask=127
theorem Jf (mask:Nat)(hm:BY mask):z8 mask (mask + 1) 0=0/\∀j,j<=mask->∃k,k<=mask/\z8 mask k 0=j:=by
 have h7:∀j:Nat,j < 8->∃k,k < 8/\z8 7 k 0=j:=by decide +kernel
 have h31:∀j:Nat,j < 32->∃k,k < 32/\z8 31 k 0=j:=by decide +kernel
 have h127:∀j:Nat,j < 128->∃k,k < 128/\z8 127 k 0=j:=by decide +kernel
 rcases hm with rfl |rfl |rfl
 ·exact⟨by decide +kernel,fun j hj=>let ⟨k,a,b⟩:=h7 j (by omega);⟨k,by omega,b⟩⟩
 ·exact⟨by decide +kernel,fun j hj=>let ⟨k,a,b⟩:=h31 j (by omega);⟨k,by omega,b⟩⟩
 ·exact⟨by decide +kernel,fun j hj=>let ⟨k,a,b⟩:=h127 j (by omega);⟨k,by omega,b⟩⟩
theorem IW {mask:Nat}(hm:BY mask){i j:Nat}(hi:i<=mask)(hj:j<=mask):∃k,k<=mask/\z8 mask k i=j:=by
 obtain⟨z,o⟩:=Jf mask hm
 obtain⟨a,ha,ea⟩:=o i hi
 obtain⟨b,hb,eb⟩:=o j hj
 have back:z8 mask (mask + 1 - a) i=0:=by
  rw[<-ea,<-nH,show a + (mask + 1 - a)=mask + 1 by omega];exact z
 by_cases hab:a<=b
 ·refine⟨b - a,by omega,?_⟩
  rw[<-ea,<-nH,show a + (b - a)=b by omega];exact eb
 ·refine⟨mask + 1 - a + b,by omega,?_⟩
  rw[nH,back];exact eb
theorem og {mask:Nat}(hm:BY mask){i q j:Nat}(hi:i<=mask)(hq:q < 2 ^ 64)(hj:j<=mask):∃k,k<=mask + 13/\(fK mask k (i,q)).1=j:=by
 have hz:(fK mask 13 (i,q)).2=0:=by
  rw[kG]
  exact Nat.div_eq_of_lt (Nat.lt_of_lt_of_le hq (by decide))
 obtain⟨k,hk,e⟩:=IW hm (uq mask 13 (i,q) hi) hj
 refine⟨13 + k,by omega,?_⟩
 rw[qx]
 have:fK mask 13 (i,q)=((fK mask 13 (i,q)).1,0):=Prod.ext rfl hz
 rw[this,pC]
 exact e
theorem xT (h:Int):bits h < 2 ^ 64:=by
 unfold bits
 have:=Int.emod_lt_of_pos h (show (0:Int) < 2 ^ 64 by decide)
 have:=Int.emod_nonneg h (show (2 ^ 64:Int)≠0 by decide)
 omega
theorem Ay {mask:Nat}(hm:BY mask)(h:Int){j:Nat}(hj:j<=mask):∃n,n < 10 * turns mask/\(dX mask n (st mask h)).j=j:=by
 have hi:bits h % (mask + 1)<=mask:=Nat.lt_succ_iff.mp (Nat.mod_lt _ (Nat.succ_pos _))
 obtain⟨k,hk,e⟩:=og hm hi (xT h) hj
 obtain⟨n,hn,q⟩:=m9 mask k (bits h % (mask + 1)) (bits h) hi
 refine⟨n,by unfold turns;omega,?_⟩
 show (dX mask n (zv mask _ _)).j=j
 rw[q];exact e
end L2.ST

end

section
namespace L2.ST
open PySem PySem.SetTable
theorem BE {t:SetTable}{hashAt:Nat->Int}{h:Int}:∀(n fuel:Nat) (p:Probe),n < fuel->p.dummy=none->
  (∀m,m < n->∃i,t.slot (dX t.mask m p).j=.live i/\hashAt i≠h)->t.slot (dX t.mask n p).j=.empty->
  probe.go t hashAt h fuel p=some (.empty (dX t.mask n p).j none):=by
 intro n
 induction n with
 |zero=>
  intro fuel p hf hd _ he
  obtain⟨f,rfl⟩:∃f,fuel=f + 1:=⟨fuel - 1,by omega⟩
  unfold probe.go
  have he':t.slot p.j=.empty:=he
  rw[he',hd]
  rfl
 |succ n ih=>
  intro fuel p hf hd hl he
  obtain⟨f,rfl⟩:∃f,fuel=f + 1:=⟨fuel - 1,by omega⟩
  unfold probe.go
  obtain⟨i,e,ne⟩:=hl 0 (by omega)
  have e':t.slot p.j=.live i:=e
  rw[e']
  dsimp only
  rw[if_neg (by simpa using ne),BC]
  exact ih f (vF t.mask p) (by omega) (AY hd) (fun m hm=>hl (m + 1) (by omega)) he
theorem CC {t:SetTable}{hashAt:Nat->Int}{h:Int}:∀(n fuel:Nat) (p:Probe),n < fuel->
  (∀m,m<=n->∃i,t.slot (dX t.mask m p).j=.live i)->(∃i,t.slot (dX t.mask n p).j=.live i/\hashAt i=h)->
  ∃j i next,probe.go t hashAt h fuel p=some (.candidate j i next)/\t.slot j=.live i/\hashAt i=h:=by
 intro n
 induction n with
 |zero=>
  intro fuel p hf _ he
  obtain⟨f,rfl⟩:∃f,fuel=f + 1:=⟨fuel - 1,by omega⟩
  obtain⟨i,e,eh⟩:=he
  have e':t.slot p.j=.live i:=e
  unfold probe.go
  rw[e']
  dsimp only
  rw[if_pos (by simpa using eh)]
  exact⟨p.j,i,_,rfl,e',eh⟩
 |succ n ih=>
  intro fuel p hf hl he
  obtain⟨f,rfl⟩:∃f,fuel=f + 1:=⟨fuel - 1,by omega⟩
  obtain⟨i,e⟩:=hl 0 (by omega)
  have e':t.slot p.j=.live i:=e
  unfold probe.go
  rw[e']
  dsimp only
  by_cases hh:hashAt i=h
  ·rw[if_pos (by simpa using hh)]
   exact⟨p.j,i,_,rfl,e',hh⟩
  ·rw[if_neg (by simpa using hh),BC]
   exact ih f (vF t.mask p) (by omega) (fun m hm=>hl (m + 1) (by omega)) he
def Reach (mask:Nat)(L:Nat->Prop)(h:Int)(j:Nat):Prop:=∃n,n < 10 * turns mask/\(dX mask n (st mask h)).j=j/\∀m,m < n->L (dX mask m (st mask h)).j
theorem Reach.mono {mask:Nat}{L L':Nat->Prop}{h:Int}{j:Nat}(r:Reach mask L h j)(k:∀x,L x->L' x):Reach mask L' h j:=
 let ⟨n,a,b,c⟩:=r;⟨n,a,b,fun m hm=>k _ (c m hm)⟩
structure Tab (t:SetTable)(hs:List Int):Prop where
 mask:BY t.mask
 dum:t.dummies=#[]
 rise:jq t.place
 le:∀j,j∈t.place->j<=t.mask
 size:t.place.size=hs.length
 load:t.place.size * 5 < t.mask * 3
 reach:∀(i j:Nat) (h:Int),t.place[i]? =some j->hs[i]? =some h->Reach t.mask (· ∈t.place) h j
 plain:t.plain=true
theorem bp {α:Type}[DecidableEq α]:∀{l m:List α},l.Nodup->(∀x,x∈l->x∈m)->l.length<=m.length
 | [],_,_,_=>Nat.zero_le _
 |a :: l,m,hn,hs=>by
  have ha:=hs a (List.mem_cons_self ..)
  have hl:=List.nodup_cons.mp hn
  have:=bp (l:=l) (m:=m.erase a) hl.2 fun x hx=>by
   refine (List.mem_erase_of_ne ?_).mpr (hs x (List.mem_cons_of_mem _ hx))
   rintro rfl;exact hl.1 hx
  rw[List.length_erase_of_mem ha] at this
  have:0 < m.length:=List.length_pos_of_mem ha
  simp only[List.length_cons];omega
theorem xk {mask:Nat}{xs:Array Nat}(hl:xs.size<=mask):∃j,j<=mask/\j∉xs:=by
 refine Classical.byContradiction fun hc=>?_
 have all:∀j,j∈List.range (mask + 1)->j∈xs.toList:=fun j hj=>by
  have:=List.mem_range.mp hj
  refine Classical.byContradiction fun hn=>hc ⟨j,by omega,fun z=>hn (by simpa using z)⟩
 have:=bp List.nodup_range all
 simp at this
 omega
theorem rY {P:Nat->Prop}(h:∃n,P n):∃n,P n/\∀m,m < n->¬P m:=by
 obtain⟨n,hn⟩:=h
 induction n using Nat.strongRecOn with
 |_ n ih=>
  by_cases hc:∃m,m < n/\P m
  ·obtain⟨m,hm,hp⟩:=hc
   exact ih m hm hp
  ·exact⟨n,hn,fun m hm hp=>hc ⟨m,hm,hp⟩⟩
section
variable {t:SetTable}{hs:List Int}
theorem Tab.load' (T:Tab t hs):t.place.size<=t.mask:=by have:=T.load;omega
theorem Tab.slotL (T:Tab t hs){j:Nat}(hj:j∈t.place):∃i,t.slot j=.live i/\t.place[i]? =some j:=by
 obtain⟨i,hi,e⟩:=Array.mem_iff_getElem.mp hj
 have q:t.place[i]? =some j:=by rw[Array.getElem?_eq_getElem hi,e]
 exact⟨i,qY T.rise q,q⟩
theorem Tab.slotE (T:Tab t hs){j:Nat}(hj:j∉t.place):t.slot j=.empty:=wc T.dum hj
theorem Tab.first (T:Tab t hs)(h:Int):∃n,n < 10 * turns t.mask/\(dX t.mask n (st t.mask h)).j∉t.place/\∀m,m < n->(dX t.mask m (st t.mask h)).j∈t.place:=by
 obtain⟨j,hj,hn⟩:=xk T.load'
 obtain⟨n,h1,h2⟩:=Ay T.mask h hj
 obtain⟨k,hk,hlt⟩:=rY (P:=fun n=>(dX t.mask n (st t.mask h)).j∉t.place) ⟨n,by rw[h2];exact hn⟩
 refine⟨k,?_,hk,fun m hm=>Classical.byContradiction fun z=>hlt m hm z⟩
 rcases Nat.lt_or_ge n k with c |c
 ·exact absurd (show (dX t.mask n (st t.mask h)).j∉t.place by rw[h2];exact hn) (hlt n c)
 ·omega
theorem Tab.absent (T:Tab t hs){hashAt:Nat->Int}(ha:∀i,i < hs.length->some (hashAt i)=hs[i]?){h:Int}(hn:h∉hs) :
  ∃j,t.probe hashAt h (t.probeStart h)=some (.empty j none)/\j∉t.place/\j<=t.mask/\Reach t.mask (· ∈t.place) h j:=by
 obtain⟨n,h1,h2,h3⟩:=T.first h
 refine⟨(dX t.mask n (st t.mask h)).j,?_,h2,?_,⟨n,h1,rfl,h3⟩⟩
 ·unfold probe
  rw[E7]
  refine BE n _ _ h1 rfl (fun m hm=>?_) (T.slotE h2)
  obtain⟨i,e,q⟩:=T.slotL (h3 m hm)
  refine⟨i,e,fun z=>hn ?_⟩
  have hi:i < hs.length:=by rw[<-T.size];exact (Array.getElem?_eq_some_iff.mp q).1
  have:=ha i hi
  rw[z] at this
  exact List.mem_of_getElem? this.symm
 ·have:=xD n (IS t.mask h)
  unfold In at this;omega
theorem Tab.present (T:Tab t hs){hashAt:Nat->Int}(ha:∀i,i < hs.length->some (hashAt i)=hs[i]?){h:Int}(hm:h∈hs) :
  ∃j i next,t.probe hashAt h (t.probeStart h)=some (.candidate j i next)/\t.slot j=.live i/\i < hs.length/\hs[i]? =some h:=by
 obtain⟨i,hi,e⟩:=List.mem_iff_getElem.mp hm
 have hi':hs[i]? =some h:=by rw[List.getElem?_eq_getElem hi,e]
 have hp:i < t.place.size:=by rw[T.size];exact hi
 obtain⟨n,h1,h2,h3⟩:=T.reach i t.place[i] h (Array.getElem?_eq_getElem hp) hi'
 have hj:(dX t.mask n (st t.mask h)).j∈t.place:=by rw[h2];exact Array.getElem_mem hp
 obtain⟨j',i',nx,g1,g2,g3⟩:=CC (t:=t) (hashAt:=hashAt) (h:=h) n (10 * turns t.mask) (st t.mask h) h1 (fun m hm=>by
   rcases Nat.lt_or_ge m n with c |c
   ·obtain⟨i,e,_⟩:=T.slotL (h3 m c);exact⟨i,e⟩
   ·have:m=n:=by omega
    subst this
    obtain⟨i,e,_⟩:=T.slotL hj;exact⟨i,e⟩)
  ⟨i,by rw[h2];exact qY T.rise (Array.getElem?_eq_getElem hp),by
   have:=ha i hi
   rw[hi'] at this
   exact Option.some.inj this⟩
 have hi2:i' < t.place.size:=by
  unfold slot at g2
  dsimp only at g2
  split at g2
  ·rename_i c
   have c':t.place[below t.place j']? =some j':=by simpa using c
   cases g2
   exact (Array.getElem?_eq_some_iff.mp c').1
  ·split at g2 <;> cases g2
 refine⟨j',i',nx,by unfold probe;rw[E7];exact g1,g2,by rw[<-T.size];exact hi2,?_⟩
 have:=ha i' (by rw[<-T.size];exact hi2)
 rw[g3] at this
 exact this.symm
end
theorem bJ {α:Type}(xs:Array α)(p:Nat)(x:α)(_:p<=xs.size):(insertAt xs p x).toList=xs.toList.take p ++ x :: xs.toList.drop p:=by
 unfold insertAt
 simp[Array.toList_extract,List.extract_eq_take_drop]
 rw[List.take_of_length_le (by simp)]
theorem rm (t:SetTable)(j:Nat)(hd:t.dummies=#[]):(t.put j).1={t with place:=insertAt t.place (below t.place j) j}/\(t.put j).2=below t.place j:=by
 unfold put
 dsimp only
 rw[hd,yF]
 exact⟨by simp,rfl⟩
section
variable {t:SetTable}{hs:List Int}
theorem lG {α:Type}{xs:Array α}{p:Nat}{x y:α}(hp:p<=xs.size):y∈insertAt xs p x↔y∈xs\/y=x:=by
 rw[<-Array.mem_toList_iff,bJ xs p x hp,List.mem_append,List.mem_cons,<-Array.mem_toList_iff]
 have:y∈xs.toList↔y∈xs.toList.take p\/y∈xs.toList.drop p:=by
  conv=>lhs;rw[<-List.take_append_drop p xs.toList]
  exact List.mem_append
 rw[this]
 constructor
 ·rintro (a |a |a)
  ·exact .inl (.inl a)
  ·exact .inr a
  ·exact .inl (.inr a)
 ·rintro ((a |a) |a)
  ·exact .inl a
  ·exact .inr (.inr a)
  ·exact .inr (.inl a)
theorem qd {xs:Array Nat}(h:jq xs){j:Nat}(hj:j∉xs):jq (insertAt xs (below xs j) j):=by
 obtain⟨b1,b2,b3⟩:=c6 h j
 unfold jq
 rw[bJ _ _ _ b1]
 have hl:∀y,y∈xs.toList.take (below xs j)->y < j:=fun y hy=>by
  obtain⟨i,hi,e⟩:=List.mem_iff_getElem.mp hy
  have hi1:i < below xs j:=by simp at hi;omega
  have hi2:i < xs.size:=by omega
  have:=b2 i hi1
  rw[Array.getD_eq_getD_getElem?,Array.getElem?_eq_getElem hi2] at this
  simp at e this
  omega
 have hr:∀y,y∈xs.toList.drop (below xs j)->j < y:=fun y hy=>by
  obtain⟨i,hi,e⟩:=List.mem_iff_getElem.mp hy
  have hi2:below xs j + i < xs.size:=by simp at hi;omega
  have:=b3 (below xs j + i) (by omega) hi2
  rw[Array.getD_eq_getD_getElem?,Array.getElem?_eq_getElem hi2] at this
  simp at e this
  rcases Nat.lt_or_ge j y with c |c
  ·exact c
  ·have:j=y:=by omega
   exact absurd (by rw[this,<-e];exact Array.getElem_mem _) hj
 refine List.pairwise_append.mpr ⟨List.Pairwise.sublist (List.take_sublist ..) h,List.pairwise_cons.mpr ⟨fun y hy=>hr y hy,List.Pairwise.sublist (List.drop_sublist ..) h⟩,fun a ha b hb=>?_⟩
 rcases List.mem_cons.mp hb with rfl |hb
 ·exact hl a ha
 ·exact Nat.lt_trans (hl a ha) (hr b hb)
theorem uE {α:Type}(l:List α)(p:Nat)(x:α)(hp:p<=l.length)(i:Nat):(l.take p ++ x :: l.drop p)[i]? =if i < p then l[i]? else if i=p then some x else l[i - 1]?:=by
 rcases Nat.lt_trichotomy i p with c |c |c
 ·rw[if_pos c,List.getElem?_append_left (by simp;omega),List.getElem?_take_of_lt c]
 ·subst c
  rw[if_neg (Nat.lt_irrefl _),if_pos rfl,List.getElem?_append_right (by simp;omega),List.length_take,Nat.min_eq_left hp,Nat.sub_self]
  rfl
 ·rw[if_neg (by omega),if_neg (by omega),List.getElem?_append_right (by simp;omega),List.length_take,Nat.min_eq_left hp]
  obtain⟨k,rfl⟩:∃k,i=p + 1 + k:=⟨i - (p + 1),by omega⟩
  rw[show p + 1 + k - p=k + 1 by omega,List.getElem?_cons_succ,List.getElem?_drop]
  congr 1
  omega
theorem Tab.put (T:Tab t hs){j:Nat}{h:Int}(hj:j∉t.place)(hm:j<=t.mask)(r:Reach t.mask (· ∈t.place) h j)(hf:(t.place.size + 1) * 5 < t.mask * 3) :
  Tab (t.put j).1 (hs.take (t.put j).2 ++ h :: hs.drop (t.put j).2)/\(t.put j).2<=hs.length:=by
 obtain⟨e1,e2⟩:=rm t j T.dum
 obtain⟨b1,b2,b3⟩:=c6 T.rise j
 have hsz:(insertAt t.place (below t.place j) j).size=t.place.size + 1:=by
  rw[<-Array.length_toList,bJ _ _ _ b1]
  simp;omega
 have hl:below t.place j<=hs.length:=by rw[<-T.size];exact b1
 rw[e1,e2]
 refine⟨⟨T.mask,T.dum,qd T.rise hj,fun y hy=>?_,?_,?_,fun i y g hy hg=>?_,T.plain⟩,hl⟩
 ·rcases (lG b1).mp hy with z |z
  ·exact T.le y z
  ·rw[z];exact hm
 ·show (insertAt t.place _ j).size=_
  rw[hsz,T.size];simp;omega
 ·show (insertAt t.place _ j).size * 5 < t.mask * 3
  rw[hsz];exact hf
 ·show Reach t.mask (· ∈insertAt t.place (below t.place j) j) g y
  have hy':(t.place.toList.take (below t.place j) ++ j :: t.place.toList.drop (below t.place j))[i]? =some y:=by
   rw[<-bJ _ _ _ b1,Array.getElem?_toList];exact hy
  rw[uE _ _ _ (by simpa using b1)] at hy'
  rw[uE _ _ _ hl] at hg
  have old:∀{g y},Reach t.mask (· ∈t.place) g y->Reach t.mask (· ∈insertAt t.place (below t.place j) j) g y:=fun r=>r.mono fun x hx=>(lG b1).mpr (.inl hx)
  split at hy'
  ·rename_i c
   rw[if_pos c] at hg
   exact old (T.reach i y g (by simpa using hy') hg)
  ·rename_i c
   rw[if_neg c] at hg
   split at hy'
   ·rename_i c2
    rw[if_pos c2] at hg
    cases hg;cases hy'
    exact old r
   ·rename_i c2
    rw[if_neg c2] at hg
    exact old (T.reach (i - 1) y g (by simpa using hy') hg)
end
end L2.ST

end

section
namespace L2.ST
open PySem PySem.SetTable
abbrev own (o:Array (Option Nat))(j:Nat):Option Nat:=o.getD j none
theorem zY {mask:Nat}{o:Array (Option Nat)}(hsz:o.size=mask + 1):∀(fuel i q:Nat) (j:Nat),i<=mask->layClean.free mask o fuel i q=some j->
  ∃n,n < 10 * fuel/\(dX mask n (zv mask i q)).j=j/\(∀m,m < n->(own o (dX mask m (zv mask i q)).j).isSome=true)/\own o j=none/\j<=mask:=by
 intro fuel
 induction fuel with
 |zero=>intro i q j _ h;unfold layClean.free at h;cases h
 |succ fuel ih=>
  intro i q j hi h
  unfold layClean.free at h
  have hr:=iN hi
  have ind:∀k,k<=runEnd mask i - i->o.getD (i + k) (some 0)=own o (i + k):=fun k hk=>by
   have:i + k < o.size:=by omega
   simp[own,Array.getD,this]
  cases hf:(List.range (runEnd mask i + 1 - i)).find? fun k=>(o.getD (i + k) (some 0)).isNone with
  |some k=>
   rw[hf] at h
   dsimp only at h
   have hk:=List.find?_eq_some_iff_getElem.mp hf
   obtain⟨hn,ix,hix,eix,hbef⟩:=hk
   have ek:ix=k:=by simpa using eix
   subst ek
   have hix':ix < runEnd mask i + 1 - i:=by simpa using hix
   cases h
   refine⟨ix,by omega,?_,fun m hm=>?_,?_,by omega⟩
   ·rw[i4 mask i q ix (by omega)]
   ·rw[i4 mask i q m (by omega)]
    have:=hbef m hm
    simp only[List.getElem_range] at this
    rw[ind m (by omega)] at this
    dsimp only
    cases e:own o (i + m) with
    |none=>rw[e] at this;simp at this
    |some _=>rfl
   ·rw[ind ix (by omega)] at hn
    cases e:own o (i + ix) with
    |none=>rfl
    |some _=>rw[e] at hn;simp at hn
  |none=>
   rw[hf] at h
   dsimp only at h
   obtain⟨n,h1,h2,h3,h4,h5⟩:=ih _ _ j (lR mask i q) h
   have hnone:=List.find?_eq_none.mp hf
   refine⟨(runEnd mask i - i + 1) + n,by omega,?_,fun m hm=>?_,h4,h5⟩
   ·rw[jL,mh];exact h2
   ·rcases Nat.lt_or_ge m (runEnd mask i - i + 1) with c |c
    ·rw[i4 mask i q m (by omega)]
     have:=hnone m (List.mem_range.mpr (by omega))
     rw[ind m (by omega)] at this
     dsimp only
     cases e:own o (i + m) with
     |none=>rw[e] at this;simp at this
     |some _=>rfl
    ·obtain⟨k,rfl⟩:∃k,m=(runEnd mask i - i + 1) + k:=⟨m - (runEnd mask i - i + 1),by omega⟩
     rw[jL,mh]
     exact h3 k (by omega)
theorem y2 {mask:Nat}{o:Array (Option Nat)}(hsz:o.size=mask + 1):∀(fuel i q k:Nat),i<=mask->k < fuel->own o (fK mask k (i,q)).1=none->∃j,layClean.free mask o fuel i q=some j:=by
 intro fuel
 induction fuel with
 |zero=>intro i q k _ hk;omega
 |succ fuel ih=>
  intro i q k hi hk hn
  unfold layClean.free
  cases hf:(List.range (runEnd mask i + 1 - i)).find? fun k=>(o.getD (i + k) (some 0)).isNone with
  |some k=>exact⟨_,rfl⟩
  |none=>
   dsimp only
   cases k with
   |zero=>
    have hr:=iN hi
    have:=List.find?_eq_none.mp hf 0 (List.mem_range.mpr (by omega))
    have e:own o i=none:=hn
    have hi2:i < o.size:=by omega
    simp[own,Array.getD,hi2] at e this
    rw[e] at this;simp at this
   |succ k=>exact ih _ _ k (lR mask i q) (by omega) hn
structure Lay (mask:Nat)(o:Array (Option Nat))(hs:List Int):Prop where
 size:o.size=mask + 1
 all:∀k h,hs[k]? =some h->∃j,own o j=some k/\Reach mask (fun x=>(own o x).isSome=true) h j
 one:∀j j' k,own o j=some k->own o j'=some k->j=j'
 le:∀j k,own o j=some k->j<=mask/\k < hs.length
theorem lJ {o:Array (Option Nat)}{j x k:Nat}(hj:j < o.size):own (o.setIfInBounds j (some k)) x=if x=j then some k else own o x:=by
 unfold own
 rw[Array.getD_eq_getD_getElem?,Array.getD_eq_getD_getElem?,Array.getElem?_setIfInBounds]
 by_cases e:x=j
 ·subst e;simp[hj]
 ·rw[if_neg e,if_neg (fun z=>e z.symm)]
theorem Aj {mask:Nat}(hm:BY mask){o:Array (Option Nat)}{hs:List Int}(L:Lay mask o hs)(h:Int)(hl:hs.length<=mask) :
  ∃j,layClean.free mask o (turns mask) (bits h % (mask + 1)) (bits h)=some j/\Lay mask (o.setIfInBounds j (some hs.length)) (hs ++ [h]):=by
 have hi:bits h % (mask + 1)<=mask:=Nat.lt_succ_iff.mp (Nat.mod_lt _ (Nat.succ_pos _))
 have hfree:∃j,j<=mask/\own o j=none:=by
  refine Classical.byContradiction fun hc=>?_
  have hall:∀j,j<=mask->∃k,own o j=some k:=fun j hj=>by
   cases e:own o j with
   |none=>exact absurd ⟨j,hj,e⟩ hc
   |some k=>exact⟨k,rfl⟩
  have nd:((List.range (mask + 1)).map fun j=>(own o j).getD 0).Nodup:=by
   refine List.pairwise_map.mpr ?_
   refine List.Pairwise.imp_of_mem ?_ List.nodup_range
   intro a b ha hb hab e
   obtain⟨ka,ea⟩:=hall a (by have:=List.mem_range.mp ha;omega)
   obtain⟨kb,eb⟩:=hall b (by have:=List.mem_range.mp hb;omega)
   rw[ea,eb] at e
   simp at e
   subst e
   exact hab (L.one a b ka ea eb)
  have:=bp (m:=List.range hs.length) nd fun x hx=>by
   obtain⟨j,hj,rfl⟩:=List.mem_map.mp hx
   obtain⟨k,e⟩:=hall j (by have:=List.mem_range.mp hj;omega)
   rw[e]
   exact List.mem_range.mpr (L.le j k e).2
  simp at this
  omega
 obtain⟨j0,hj0,hn0⟩:=hfree
 obtain⟨k,hk,ek⟩:=og hm hi (xT h) hj0
 obtain⟨j,hj⟩:=y2 L.size (turns mask) _ (bits h) k hi (by unfold turns;omega) (by rw[ek];exact hn0)
 refine⟨j,hj,?_⟩
 obtain⟨n,h1,h2,h3,h4,h5⟩:=zY L.size _ _ _ _ hi hj
 have hjs:j < o.size:=by rw[L.size];omega
 have grow:∀x,(own o x).isSome=true->(own (o.setIfInBounds j (some hs.length)) x).isSome=true:=fun x hx=>by
  rw[lJ hjs];split
  ·rfl
  ·exact hx
 refine⟨by rw[Array.size_setIfInBounds];exact L.size,fun k g hg=>?_,fun a b c ea eb=>?_,fun a c ea=>?_⟩
 ·rcases Nat.lt_or_ge k hs.length with c |c
  ·rw[List.getElem?_append_left c] at hg
   obtain⟨x,ex,rx⟩:=L.all k g hg
   refine⟨x,?_,rx.mono grow⟩
   rw[lJ hjs,if_neg (fun z=>?_)]
   ·exact ex
   ·subst z;rw[ex] at h4;cases h4
  ·rw[List.getElem?_append_right c] at hg
   have:k=hs.length:=by
    have:=(List.getElem?_eq_some_iff.mp hg).1
    simp at this;omega
   subst this
   simp at hg
   subst hg
   exact⟨j,by rw[lJ hjs,if_pos rfl],n,h1,h2,fun m hm=>grow _ (h3 m hm)⟩
 ·rw[lJ hjs] at ea eb
  split at ea
  ·cases ea
   split at eb
   ·omega
   ·have:=(L.le _ _ eb).2;omega
  ·split at eb
   ·cases eb
    have:=(L.le _ _ ea).2;omega
   ·exact L.one _ _ _ ea eb
 ·rw[lJ hjs] at ea
  rw[List.length_append]
  split at ea
  ·cases ea;simp;omega
  ·have:=L.le _ _ ea;simp;omega
theorem ye {mask:Nat}(hm:BY mask):∀(rest hs:List Int) (o:Array (Option Nat)),Lay mask o hs->hs.length + rest.length<=mask->
  ∃o',rest.foldl (init:=some (o,hs.length)) (fun acc h=>do
   let (owner,k) <-acc
   let j <-layClean.free mask owner (turns mask) (bits h % (mask + 1)) (bits h)
   pure (owner.setIfInBounds j (some k),k + 1))=some (o',hs.length + rest.length)/\Lay mask o' (hs ++ rest)
 | [],hs,o,L,_=>⟨o,rfl,by rw[List.append_nil];exact L⟩
 |h :: rest,hs,o,L,hl=>by
  simp only[List.length_cons] at hl
  obtain⟨j,e,L'⟩:=Aj hm L h (by omega)
  obtain⟨o',e',L2⟩:=ye hm rest (hs ++ [h]) _ L' (by simp;omega)
  refine⟨o',?_,by rw[List.append_assoc] at L2;exact L2⟩
  rw[List.foldl_cons]
  simp only[Option.bind_eq_bind,Option.bind_some,e,Option.pure_def]
  have el:(hs ++ [h]).length=hs.length + 1:=by simp
  rw[el] at e'
  simp only[Option.bind_eq_bind,Option.pure_def] at e'
  rw[e']
  simp;omega
theorem xU (n j:Nat):own (Array.replicate n none) j=none:=by
 unfold own
 rw[Array.getD_eq_getD_getElem?,Array.getElem?_replicate]
 split <;> rfl
theorem Ew (mask:Nat):Lay mask (Array.replicate (mask + 1) none) []:=
 ⟨by simp,fun k h e=>by simp at e,fun j j' k e _=>by (rw[xU] at e;cases e),fun j k e=>by (rw[xU] at e;cases e)⟩
theorem y0 {mask:Nat}(hm:BY mask)(hs:Array Int)(hl:hs.size * 5 < mask * 3)(finger moves:Nat)(led:Bool) :
  ∃t order,laid mask finger moves led true hs=some (t,order)/\t.led=led/\t.mask=mask/\order.toList.Nodup/\(∀k,k∈order.toList↔k < hs.size)/\
   Tab t (order.toList.map fun k=>hs.toList.getD k 0):=by
 obtain⟨o,e,L⟩:=ye hm hs.toList [] _ (Ew mask) (by simp;omega)
 simp only[List.nil_append] at L
 have ec:layClean mask hs=some o:=by
  unfold layClean
  rw[<-Array.foldl_toList]
  simp only[List.length_nil] at e
  rw[e];rfl
 have hlive:∀j k,(j,k)∈((List.range (mask + 1)).filterMap fun j=>(o.getD j none).map (j, ·))↔own o j=some k:=fun j k=>by
  rw[List.mem_filterMap]
  constructor
  ·rintro⟨x,_,q⟩
   cases ex:o.getD x none with
   |none=>rw[ex] at q;cases q
   |some y=>rw[ex] at q;simp at q;rw[<-q.1,<-q.2];exact ex
  ·intro q
   refine⟨j,List.mem_range.mpr (by have:=(L.le j k q).1;omega),?_⟩
   have:o.getD j none=some k:=q
   rw[this];rfl
 have hpw:((List.range (mask + 1)).filterMap fun j=>(o.getD j none).map (j, ·)).Pairwise (fun a b=>a.1 < b.1):=by
  refine List.pairwise_filterMap.mpr ?_
  refine List.Pairwise.imp ?_ List.pairwise_lt_range
  intro a b hab x hx y hy
  cases ea:o.getD a none with
  |none=>rw[ea] at hx;cases hx
  |some u=>
   cases eb:o.getD b none with
   |none=>rw[eb] at hy;cases hy
   |some v=>
    rw[ea] at hx;rw[eb] at hy
    simp at hx hy
    rw[<-hx,<-hy];exact hab
 generalize hlv:((List.range (mask + 1)).filterMap fun j=>(o.getD j none).map (j, ·))=live at hlive hpw
 refine⟨{mask,place:=(live.map (·.1)).toArray,dummies:=#[],finger,led,moves,plain:=true},(live.map (·.2)).toArray,?_,rfl,rfl,?_,fun k=>?_,?_⟩
 ·unfold laid
  rw[ec]
  simp only[Option.bind_eq_bind,Option.bind_some,Option.pure_def,hlv]
 ·have:(live.map (·.2)).Nodup:=by
   refine List.pairwise_map.mpr (List.Pairwise.imp_of_mem ?_ hpw)
   intro a b ha hb hab ee
   have h1:=(hlive a.1 a.2).mp ha
   have h2:=(hlive b.1 b.2).mp hb
   rw[ee] at h1
   have:=L.one _ _ _ h1 h2
   omega
  simpa using this
 ·rw[List.mem_map]
  constructor
  ·rintro⟨x,hx,rfl⟩
   have:=(L.le x.1 x.2 ((hlive x.1 x.2).mp hx)).2
   simpa using this
  ·intro hk
   have hk':k < hs.toList.length:=by simpa using hk
   obtain⟨j,ej,_⟩:=L.all k _ (List.getElem?_eq_getElem hk')
   exact⟨(j,k),(hlive j k).mpr ej,rfl⟩
 ·have hord:live.length=hs.size:=by
   have a1:(live.map (·.2)).Nodup:=by
    refine List.pairwise_map.mpr (List.Pairwise.imp_of_mem ?_ hpw)
    intro a b ha hb hab ee
    have h1:=(hlive a.1 a.2).mp ha
    have h2:=(hlive b.1 b.2).mp hb
    rw[ee] at h1
    have:=L.one _ _ _ h1 h2
    omega
   have b1:=bp (m:=List.range hs.size) a1 fun x hx=>by
    obtain⟨y,hy,rfl⟩:=List.mem_map.mp hx
    have:=(L.le y.1 y.2 ((hlive y.1 y.2).mp hy)).2
    exact List.mem_range.mpr (by simpa using this)
   have b2:=bp (l:=List.range hs.size) (m:=live.map (·.2)) List.nodup_range fun x hx=>by
    have hk':x < hs.toList.length:=by simpa using List.mem_range.mp hx
    obtain⟨j,ej,_⟩:=L.all x _ (List.getElem?_eq_getElem hk')
    exact List.mem_map.mpr ⟨(j,x),(hlive j x).mpr ej,rfl⟩
   simp at b1 b2
   omega
  refine⟨hm,rfl,?_,fun j hj=>?_,?_,?_,fun i j h hi hh=>?_,rfl⟩
  ·show (live.map (·.1)).toArray.toList.Pairwise _
   rw[List.toList_toArray]
   exact List.pairwise_map.mpr hpw
  ·have:j∈live.map (·.1):=by simpa using hj
   obtain⟨x,hx,rfl⟩:=List.mem_map.mp this
   exact (L.le x.1 x.2 ((hlive x.1 x.2).mp hx)).1
  ·simp
  ·show (live.map (·.1)).toArray.size * 5 < mask * 3
   simp[hord];exact hl
  ·have hi':(live.map (·.1))[i]? =some j:=by simpa using hi
   have hh':((live.map (·.2)).map fun k=>hs.toList.getD k 0)[i]? =some h:=by simpa using hh
   rw[List.getElem?_map] at hi'
   rw[List.getElem?_map,List.getElem?_map] at hh'
   cases ex:live[i]? with
   |none=>rw[ex] at hi';cases hi'
   |some x=>
    rw[ex] at hi' hh'
    simp at hi' hh'
    have hxl:=(hlive x.1 x.2).mp (List.mem_of_getElem? ex)
    have hk:=(L.le _ _ hxl).2
    have hk2:x.2 < hs.size:=by simpa using hk
    obtain⟨j2,ej2,r⟩:=L.all x.2 h (by
     rw[List.getElem?_eq_getElem hk]
     simp[hk2] at hh'
     simpa using hh')
    have:j2=j:=by rw[<-hi'];exact L.one _ _ _ ej2 hxl
    subst this
    refine r.mono fun y hy=>?_
    show y∈(live.map (·.1)).toArray
    cases ey:own o y with
    |none=>rw[ey] at hy;cases hy
    |some k=>
     have:y∈live.map (·.1):=List.mem_map.mpr ⟨(y,k),(hlive y k).mpr ey,rfl⟩
     simpa using this
end L2.ST

end

section
namespace L2.ST
open PySem PySem.SetTable
abbrev Pr:=Int×Int
def hp (p:Pr):Int:=reduceHash (Builtin.Tuple.tupleHashOf [hashInt p.1,hashInt p.2])
def Sm (p:Pr):Prop:=(0<=p.1/\p.1 < 8)/\(0<=p.2/\p.2 < 8)
def oR:List Pr:=(List.range 64).map fun k=>(((k / 8:Nat):Int),((k % 8:Nat):Int))
theorem lh {p:Pr}(h:Sm p):p∈oR:=by
 unfold oR
 obtain⟨⟨a,b⟩,c,d⟩:=h
 refine List.mem_map.mpr ⟨p.1.toNat * 8 + p.2.toNat,List.mem_range.mpr (by omega),?_⟩
 refine Prod.ext ?_ ?_ <;> dsimp only <;> omega
theorem BN:(oR.map hp).Nodup:=by decide +kernel
theorem lB {α β:Type}{f:α->β}:∀{l:List α},(l.map f).Nodup->∀a b,a∈l->b∈l->f a=f b->a=b
 | [],_,_,_,h,_,_=>by cases h
 |x :: l,hn,a,b,ha,hb,e=>by
  have hn':=List.nodup_cons.mp hn
  rcases List.mem_cons.mp ha with ea |ha
  ·rcases List.mem_cons.mp hb with eb |hb
   ·rw[ea,eb]
   ·exact absurd (List.mem_map.mpr ⟨b,hb,by rw[<-e,ea]⟩) hn'.1
  ·rcases List.mem_cons.mp hb with eb |hb
   ·exact absurd (List.mem_map.mpr ⟨a,ha,by rw[e,eb]⟩) hn'.1
   ·exact lB hn'.2 a b ha hb e
theorem Gy {p q:Pr}(hp1:Sm p)(hq:Sm q)(e:hp p=hp q):p=q:=lB BN p q (lh hp1) (lh hq) e
theorem vN {l:List Pr}(hn:l.Nodup)(h:∀p,p∈l->Sm p):l.length<=64:=by
 have:=bp (m:=oR) hn fun x hx=>lh (h x hx)
 simpa[oR] using this
section
variable {prog:Program}{w:World}{A:Around}{E:Value->Shared->Prop}{s:Shared}
abbrev bB (prog:Program)(w:World)(h:Heap)(p:Pr)(a:Addr):Prop:=IsTupleKey (intKind prog w) h [p.1,p.2] a
theorem bB.inj {h:Heap}{p q:Pr}{a:Addr}(x:bB prog w h p a)(y:bB prog w h q a):p=q:=by
 have:=IsTupleKey.inj x y
 simp at this
 exact Prod.ext this.1 this.2
structure tu (f:Pr->Int)(prog:Program)(w:World)(led:Bool)(h:Heap)(S:Addr)(ps:List (Addr×Pr)):Prop where
 ex:∃o ep t,h.get? S=some o/\o.ExactSet/\o.data=.set (ps.map fun q=>(f q.2,Value.ref q.1)).toArray ep t/\Tab t (ps.map fun q=>f q.2)/\t.led=led
 at':∀q,q∈ps->bB prog w h q.2 q.1/\Sm q.2
 nd:(ps.map (·.2)).Nodup
theorem n9 {t:SetTable}{hs:List Int}(T:Tab t hs){n:Nat}(e:n=hs.length):t.fits n=true:=by
 unfold SetTable.fits SetTable.fill
 have:=T.load'
 simp[T.size,T.dum,e]
 rw[T.size] at this;exact this
theorem AL (a:Addr)(wanted:Nat):setRelay a wanted=(do
  let (es,_,t) <-setState a
  if SetTable.sizeAbove wanted > sizeLine then unsupported "set:memory"
  let (es,t) <-(do
   let some (t,order):=t.relaid (es.map (·.1)) wanted |unsupported "internal:set-table-without-room"
   let es':=order.filterMap (es[·]?)
   if es'.size != es.size then unsupported "internal:set-table-lost-an-element"
   pure (es',t))
  storeSet a es t):=rfl
theorem zS (a:Addr)(x:Value)(h:Int)(fuel:Nat):setSearchFrom a x h true (fuel + 1) none=(do
  let (es,_,t) <-setState a
  if t.gaveWay then unsupported "set:on-a-table-that-gave-way"
  let some met:=t.probe (fun i=>(es[i]?.map (·.1)).getD 0) h (t.probeStart h) |unsupported "internal:set-table-without-an-empty-slot"
  match met with
  | .empty j dummy=>
   match dummy with
   |none=>return .free j false
   |some d=>
    if true && t.slot d != .dummy then rule "set.search.the-dummy-was-taken";return <-setSearchFrom a x h true fuel none
    return .free d true
  | .candidate j i next=>
   if !t.led then
    if <-searchCouldBeSeen x ((es.filter (·.1 == h)).toList.map (·.2)) then unsupported "set:the-search-would-show-the-table"
   let some (_,y):=es[i]? |unsupported "internal:set-entry"
   let equal <-holding [y] (eqBool y x)
   let (es',_,t') <-setState a
   if true && equal then return .there none
   let some same:=t'.sameMemory t.moves t.mask |unsupported "set.changed-during-lookup:is-the-new-block-at-the-old-address"
   let still <-match (if same then t'.slot j else .empty) with
    | .live i'=>match es'[i']? with
     |some (_,y')=>do pure (if <-isSame y' y then some i' else none)
     |none=>pure none
    |_=>pure none
   match still with
   |none=>rule "set.search.anew";setSearchFrom a x h true fuel none
   |some i'=>if equal then return .there (some i') else setSearchFrom a x h true fuel (some next)):=rfl
theorem ve (n:Nat){v:Value}(h:carriedByValue v=true):ofAClassStatement n v=pure false:=by
 cases v with
 |ref a=>simp[carriedByValue] at h
 |_=>first |rfl | (unfold ofAClassStatement;rfl)
theorem wx (n:Nat){v:Value}{k:Int}(h:(intKind prog w).is k v=true):hashByValue n v=pure true:=by
 obtain⟨t,rfl⟩:=Value.isInt_shape h
 cases n <;> rfl
theorem lC {p:Pr}{a:Addr}{Q:Bool->Shared->Prop}(hk:bB prog w s.heap p a)(h:Q false s):wpAny (model prog w) A (ofAClassStatement 8 (.ref a)) Q E s:=by
 have hT:=hk.typeIs
 obtain⟨o,items,n,ho,hc,hd,hi⟩:=hk
 unfold ofAClassStatement
 refine wpAny_bind (wpAny_typeOf hT ?_)
 dsimp only
 rw[if_pos (by decide)]
 refine wpAny_bind (wpAny_pure ?_)
 simp only[Bool.not_true,Bool.false_eq_true,if_false]
 refine wpAny_bind (wpAny_seqItems ho hd ?_)
 dsimp only
 refine wpAny_bind ?_
 rw[<-Array.forIn_toList]
 refine wpAny_forIn_list _ (fun rest r s'=>r.1=none/\s'=s/\∀v∈rest,carriedByValue v=true) _ ?_ ?_ _ _ ⟨rfl,rfl,hi.byValue⟩
 ·rintro v rest r s' ⟨hr,rfl,hall⟩
  rw[ve _ (hall v List.mem_cons_self)]
  refine wpAny_bind (wpAny_pure ?_)
  simp only[Bool.false_eq_true,if_false]
  exact wpAny_pure ⟨rfl,rfl,fun u hu'=>hall u (List.mem_cons_of_mem _ hu')⟩
 ·rintro⟨r1,r2⟩ s' ⟨hr,rfl,_⟩
  simp only at hr
  subst hr
  exact wpAny_pure h
theorem tT {p:Pr}{a:Addr}{Q:Bool->Shared->Prop}(hk:bB prog w s.heap p a)(h:Q true s):wpAny (model prog w) A (hashByValue 8 (.ref a)) Q E s:=by
 have hT:=hk.typeIs
 obtain⟨o,items,n,ho,hc,hd,hi⟩:=hk
 unfold hashByValue
 refine wpAny_bind (wpAny_specialOf hT F.slot_tuple_hash.lookup ?_)
 dsimp only
 refine wpAny_bind (wpAny_seqItems ho hd ?_)
 simp only[Option.getD_some]
 refine wpAny_bind ?_
 rw[<-Array.forIn_toList]
 refine wpAny_forIn_list _ (fun rest r s'=>r.1=none/\s'=s/\∀v∈rest,∃k,(intKind prog w).is k v=true) _ ?_ ?_ _ _ ⟨rfl,rfl,fun v hv=>?_⟩
 ·rintro v rest r s' ⟨hr,rfl,hall⟩
  obtain⟨k,hk⟩:=hall v List.mem_cons_self
  rw[wx _ hk]
  refine wpAny_bind (wpAny_pure ?_)
  simp only[Bool.not_true,Bool.false_eq_true,if_false]
  exact wpAny_pure ⟨rfl,rfl,fun u hu'=>hall u (List.mem_cons_of_mem _ hu')⟩
 ·rintro⟨r1,r2⟩ s' ⟨hr,rfl,_⟩
  simp only at hr
  subst hr
  exact wpAny_pure h
 ·generalize items.toList=l at *
  cases hi with
  |cons h1 hi=>
   cases hi with
   |cons h2 hi=>
    cases hi
    rcases List.mem_cons.mp hv with rfl |hv
    ·exact⟨_,h1⟩
    ·rcases List.mem_cons.mp hv with rfl |hv
     ·exact⟨_,h2⟩
     ·cases hv
theorem vM {p:Pr}{a:Addr}(hk:bB prog w s.heap p a):∀(l:List Value) {Q:Bool->Shared->Prop},(∀v∈l,∃q b,v=.ref b/\bB prog w s.heap q b)->Q false s->wpAny (model prog w) A (searchCouldBeSeen (.ref a) l) Q E s:=by
 intro l Q hl h
 unfold searchCouldBeSeen
 refine wpAny_bind ?_
 refine wpAny_forIn_list _ (fun rest r s'=>r.1=none/\s'=s/\∀v∈rest,∃q b,v=.ref b/\bB prog w s.heap q b) _ ?_ ?_ _ _ ⟨rfl,rfl,hl⟩
 ·rintro v rest r s' ⟨hr,rfl,hall⟩
  obtain⟨q,b,rfl,hb⟩:=hall v List.mem_cons_self
  have hrest:=fun u hu'=>hall u (List.mem_cons_of_mem _ hu')
  dsimp only
  split
  ·exact wpAny_pure ⟨rfl,rfl,hrest⟩
  ·refine wpAny_bind (wpAny_eqIsQuiet_tuple hk ?_)
   simp only[Bool.not_true,Bool.false_eq_true,if_false]
   refine wpAny_bind (wpAny_eqIsQuiet_tuple hb ?_)
   simp only[Bool.not_true,Bool.false_eq_true,if_false]
   refine wpAny_bind (lC hk ?_)
   simp only[Bool.false_eq_true,if_false]
   refine wpAny_bind (lC hb ?_)
   simp only[Bool.false_eq_true,if_false]
   exact wpAny_pure ⟨rfl,rfl,hrest⟩
 ·rintro⟨r1,r2⟩ s' ⟨hr,rfl,_⟩
  simp only at hr
  subst hr
  exact wpAny_pure h
end
end L2.ST

end

section
namespace L2.ST
open PySem PySem.SetTable
section
variable {prog:Program}{w:World}{A:Around}{E:Value->Shared->Prop}{s:Shared}
theorem uN (t:SetTable)(hs:Array Int)(wanted:Nat)(hp:t.plain=true):t.relaid hs wanted=laid (sizeAbove wanted - 1) t.finger (t.movedTo (sizeAbove wanted - 1)) t.led true hs:=by
 unfold relaid;rw[hp]
theorem E2:sizeAbove (grown 5)=32/\sizeAbove (grown 19)=128:=by decide +kernel
theorem filterMap_get {α:Type}(es:Array α):∀(order:List Nat),(∀k,k∈order->k < es.size)->∃l:List α,order.filterMap (fun i=>es[i]?)=l/\l.length=order.length/\(∀(i k:Nat),order[i]? =some k->l[i]? =es[k]?)/\∀x,x∈l->∃k,k∈order/\es[k]? =some x
 | [],_=>⟨[],rfl,rfl,fun i k h=>by simp at h,fun x hx=>by cases hx⟩
 |k :: r,h=>by
  obtain⟨l,e1,e2,e3,e4⟩:=filterMap_get es r fun x hx=>h x (List.mem_cons_of_mem _ hx)
  have hk:=h k (List.mem_cons_self ..)
  refine⟨es[k] :: l,by rw[List.filterMap_cons,Array.getElem?_eq_getElem hk,e1],by simp[e2],fun i x hi=>?_,fun x hx=>?_⟩
  ·cases i with
   |zero=>simp at hi;subst hi;simp[hk]
   |succ i=>simp at hi;simpa using e3 i x hi
  ·rcases List.mem_cons.mp hx with rfl |hx
   ·exact⟨k,List.mem_cons_self ..,by simp[hk]⟩
   ·obtain⟨y,hy,q⟩:=e4 x hx
    exact⟨y,List.mem_cons_of_mem _ hy,q⟩
abbrev dE (f:Pr->Int)(q:Addr×Pr):Int×Value:=(f q.2,Value.ref q.1)
theorem rC (f:Pr->Int){mask:Nat}(hm:BY mask){ps:List (Addr×Pr)}(hl:ps.length * 5 < mask * 3)(finger moves:Nat)(led:Bool) :
  ∃(t:SetTable) (order:Array Nat) (ps':List (Addr×Pr)),laid mask finger moves led true ((ps.map (dE f)).toArray.map (·.1))=some (t,order)/\order.filterMap (fun i=>(ps.map (dE f)).toArray[i]?)=(ps'.map (dE f)).toArray/\ps'.length=ps.length/\
   (∀q,q∈ps'↔q∈ps)/\Tab t (ps'.map fun q=>f q.2)/\t.led=led:=by
 obtain⟨t,order,e,el,em,nd,mem,T⟩:=y0 hm ((ps.map (dE f)).toArray.map (·.1)) (by simpa using hl) finger moves led
 have hsz:((ps.map (dE f)).toArray.map (·.1)).size=ps.length:=by simp
 obtain⟨ps',f1,f2,f3,f4⟩:=filterMap_get ps.toArray order.toList fun k hk=>by
  have:=(mem k).mp hk;rw[hsz] at this;simpa using this
 have hlen:order.toList.length=ps.length:=by
  have a1:=bp (m:=List.range ps.length) nd fun x hx=>List.mem_range.mpr (by have:=(mem x).mp hx;rwa [hsz] at this)
  have a2:=bp (l:=List.range ps.length) (m:=order.toList) List.nodup_range fun x hx=>(mem x).mpr (by rw[hsz];exact List.mem_range.mp hx)
  simp at a1 a2 ⊢;omega
 refine⟨t,order,ps',e,?_,by omega,fun q=>⟨fun hq=>?_,fun hq=>?_⟩,?_,el⟩
 ·apply Array.toList_inj.mp
  rw[Array.toList_filterMap,<-f1]
  simp only[List.toList_toArray]
  rw[List.map_filterMap]
  congr 1
  funext i
  simp
 ·obtain⟨k,_,q2⟩:=f4 q hq
  rw[List.getElem?_toArray] at q2
  exact List.mem_of_getElem? q2
 ·obtain⟨k,hk,q2⟩:=List.mem_iff_getElem.mp hq
  have hko:k∈order.toList:=(mem k).mpr (by rw[hsz];exact hk)
  obtain⟨i,hi,e2⟩:=List.mem_iff_getElem.mp hko
  have:=f3 i k (by rw[List.getElem?_eq_getElem hi,e2])
  rw[List.getElem?_toArray,List.getElem?_eq_getElem hk,q2] at this
  exact List.mem_of_getElem? this
 ·have:(order.toList.map fun k=>((ps.map (dE f)).toArray.map (·.1)).toList.getD k 0)=ps'.map fun q=>f q.2:=by
   apply List.ext_getElem?
   intro i
   rw[List.getElem?_map,List.getElem?_map]
   cases hi:order.toList[i]? with
   |none=>
    have:ps'[i]? =none:=List.getElem?_eq_none_iff.mpr (by rw[f2];exact List.getElem?_eq_none_iff.mp hi)
    rw[this];rfl
   |some k=>
    have hk:k < ps.length:=by have:=(mem k).mp (List.mem_of_getElem? hi);rwa [hsz] at this
    have:=f3 i k hi
    rw[List.getElem?_toArray,List.getElem?_eq_getElem hk] at this
    rw[this]
    simp[hk]
  rw[<-this];exact T
theorem ni:∀{l m:List Int},m.Nodup->(∀x,x∈m->x∈l)->l.length<=m.length->l.Nodup
 | [],_,_,_,_=>List.nodup_nil
 |a :: l,m,hn,hs,hl=>by
  by_cases ha:a∈m
  ·have hnot:a∉l:=fun z=>by
    have:=bp (m:=l) hn fun x hx=>by
     rcases List.mem_cons.mp (hs x hx) with e |e
     ·rw[e];exact z
     ·exact e
    simp only[List.length_cons] at hl;omega
   refine List.nodup_cons.mpr ⟨hnot,ni (m:=m.erase a) (hn.erase a) (fun x hx=>?_) ?_⟩
   ·have:=(hn.mem_erase_iff).mp hx
    rcases List.mem_cons.mp (hs x this.2) with e |e
    ·exact absurd e this.1
    ·exact e
   ·rw[List.length_erase_of_mem ha];simp only[List.length_cons] at hl;omega
  ·have:=bp (m:=l) hn fun x hx=>by
    rcases List.mem_cons.mp (hs x hx) with e |e
    ·exact absurd (e▸hx) ha
    ·exact e
   simp only[List.length_cons] at hl;omega
theorem sL (a:Addr)(es:Array (Int×Value)):byScan (.ref a) es=false:=by unfold byScan Value.scannable;simp
theorem xB {t:SetTable}(h:BY t.mask):t.gaveWay=false:=by
 unfold SetTable.gaveWay
 rcases h with e |e |e <;> rw[e] <;> decide
theorem tu.add {f:Pr->Int}(hinj:∀p q,Sm p->Sm q->f p=f q->p=q){led:Bool}{S a:Addr}{ps:List (Addr×Pr)}{p:Pr}{Q:Bool->Shared->Prop}(P:tu f prog w led s.heap S ps)(hk:bB prog w s.heap p a)(hs:Sm p)(hu:A.units < cLine)
  (h:∀(b:Bool) (h':Heap) (ps':List (Addr×Pr)),Heap.SameBut S s.heap h'->tu f prog w led h' S ps'->(∀q,q∈ps'->q∈ps\/q=(a,p))->(∀q,q∈ps->q∈ps')->(∃q,q∈ps'/\q.2=p)->Q b {s with heap:=h'}) :
  wpAny (model prog w) A (setAddHashed S (.ref a) (f p)) Q E s:=by
 obtain⟨o,ep,t,ho,hex,hd,T,hled⟩:=P.ex
 have hfit:t.fits (ps.map (dE f)).toArray.size=true:=n9 T (by simp)
 have ha:∀i,i < (ps.map fun q=>f q.2).length->some ((((ps.map (dE f)).toArray)[i]?.map (·.1)).getD 0)=(ps.map fun q=>f q.2)[i]?:=fun i hi=>by
  have hi':i < ps.length:=by simpa using hi
  simp[hi']
 unfold setAddHashed
 refine wpAny_holding ?_
 unfold setAddHashedIn
 refine wpAny_bind (wpAny_setState_of ho hd hfit ?_)
 dsimp only
 rw[sL]
 simp only[Bool.false_eq_true,if_false]
 unfold setSearch
 rw[zS]
 refine wpAny_bind (wpAny_bind (wpAny_setState_of ho hd hfit ?_))
 dsimp only
 rw[xB T.mask]
 simp only[Bool.false_eq_true,if_false]
 by_cases hm:f p∈ps.map fun q=>f q.2
 ·
  obtain⟨j,i,nx,e1,e2,e3,e4⟩:=T.present ha hm
  rw[e1]
  dsimp only
  have hi:i < ps.length:=by simpa using e3
  have e5:f (ps[i].2)=f p:=by
   rw[List.getElem?_map,List.getElem?_eq_getElem hi] at e4
   simpa using e4
  have hq:=P.at' ps[i] (List.getElem_mem hi)
  have e6:ps[i].2=p:=hinj _ _ hq.2 hs e5
  have hget:((ps.map (dE f)).toArray)[i]? =some (f ps[i].2,.ref ps[i].1):=by simp[hi]
  have rest:wpAny (model prog w) A (do
    let some (_,y):=((ps.map (dE f)).toArray)[i]? |unsupported "internal:set-entry"
    let equal <-holding [y] (eqBool y (.ref a))
    let (es',_,t') <-setState S
    if true && equal then return SetFound.there none
    let some same:=t'.sameMemory t.moves t.mask |unsupported "set.changed-during-lookup:is-the-new-block-at-the-old-address"
    let still <-match (if same then t'.slot j else .empty) with
     | .live i'=>match es'[i']? with
      |some (_,y')=>do pure (if <-isSame y' y then some i' else none)
      |none=>pure none
     |_=>pure none
    match still with
    |none=>rule "set.search.anew";setSearchFrom S (.ref a) (f p) true 99999 none
    |some i'=>if equal then return .there (some i') else setSearchFrom S (.ref a) (f p) true 99999 (some nx))
    (fun r s'=>s'=s/\r=.there none) E s:=by
   rw[hget]
   dsimp only
   refine wpAny_bind (wpAny_holding (wpAny_eqBool_tuple hu hq.1 hk ?_))
   rw[decide_eq_true (by rw[e6])]
   refine wpAny_bind (wpAny_setState_of ho hd hfit ?_)
   dsimp only
   simp only[Bool.and_self,if_true]
   exact wpAny_pure ⟨rfl,rfl⟩
  have fin:∀r s',s'=s/\r=SetFound.there none->wpAny (model prog w) A (match r with
    | .free slot wasDummy=>(do
     let (es,_,t) <-setState S
     let (t,p'):=t.put slot
     let byValue <-if t.plain then hashByValue 8 (.ref a) else pure true
     let t:=if byValue then t else {t with plain:=false}
     storeSet S (SetTable.insertAt es p' (f p,.ref a)) t
     if !wasDummy && t.tooFull then setRelay S (SetTable.grown (es.size + 1))
     return true)
    |_=>pure false) Q E s':=by
   rintro r s' ⟨rfl,rfl⟩
   exact wpAny_pure (h false s'.heap ps (Heap.SameBut.refl ..) P (fun q hq=>.inl hq) (fun q hq=>hq) ⟨ps[i],List.getElem_mem hi,e6⟩)
  cases hl:led with
  |true=>
   rw[hled,hl]
   simp only[Bool.not_true,Bool.false_eq_true,if_false]
   exact wpAny_mono rest (fun r s' hr=>fin r s' hr) fun _ _ x=>x
  |false=>
   rw[hled,hl]
   simp only[Bool.not_false,if_true]
   refine wpAny_bind (vM hk _ (fun v hv=>?_) ?_)
   ·obtain⟨x,hx,rfl⟩:=List.mem_map.mp hv
    have hx':x∈(ps.map (dE f)).toArray:=(Array.mem_filter.mp (Array.mem_toList_iff.mp hx)).1
    have hx2:x∈ps.map (dE f):=by simpa using hx'
    obtain⟨q,hq,rfl⟩:=List.mem_map.mp hx2
    exact⟨q.2,q.1,rfl,(P.at' q hq).1⟩
   ·simp only[Bool.false_eq_true,if_false]
    exact wpAny_mono rest (fun r s' hr=>fin r s' hr) fun _ _ x=>x
 ·
  obtain⟨j,e1,e2,e3,e4⟩:=T.absent ha hm
  rw[e1]
  dsimp only
  refine wpAny_pure ?_
  dsimp only
  refine wpAny_bind (wpAny_setState_of ho hd hfit ?_)
  dsimp only
  obtain⟨q1,q2⟩:=rm t j T.dum
  have hpl:(t.put j).1.plain=true:=by rw[q1];exact T.plain
  rw[hpl]
  simp only[if_true]
  refine wpAny_bind (tT hk ?_)
  simp only[if_true]
  have hb:(t.put j).2<=ps.length:=by
   rw[q2]
   have:=(c6 T.rise j).1
   rw[T.size] at this;simpa using this
  have hins:insertAt (ps.map (dE f)).toArray (t.put j).2 (f p,Value.ref a)=((ps.take (t.put j).2 ++ (a,p) :: ps.drop (t.put j).2).map (dE f)).toArray:=by
   apply Array.toList_inj.mp
   rw[bJ _ _ _ (by simpa using hb)]
   simp[List.map_take,List.map_drop]
  rw[hins]
  generalize hps':ps.take (t.put j).2 ++ (a,p) :: ps.drop (t.put j).2=ps1
  have mem1:∀q,q∈ps1↔q∈ps\/q=(a,p):=fun q=>by
   rw[<-hps',List.mem_append,List.mem_cons]
   conv=>rhs;rw[<-List.take_append_drop (t.put j).2 ps,List.mem_append]
   constructor
   ·rintro (z |z |z)
    ·exact .inl (.inl z)
    ·exact .inr z
    ·exact .inl (.inr z)
   ·rintro ((z |z) |z)
    ·exact .inl z
    ·exact .inr (.inr z)
    ·exact .inr (.inl z)
  have len1:ps1.length=ps.length + 1:=by rw[<-hps'];simp;omega
  have nd1:(ps1.map (·.2)).Nodup:=by
   have hnot:p∉ps.map (·.2):=fun z=>by
    obtain⟨q,hq,e⟩:=List.mem_map.mp z
    exact hm (List.mem_map.mpr ⟨q,hq,by rw[e]⟩)
   have perm:(ps1.map (·.2)).Perm (p :: ps.map (·.2)):=by
    rw[<-hps']
    have:(ps.take (t.put j).2 ++ (a,p) :: ps.drop (t.put j).2).Perm ((a,p) :: ps):=by
     refine List.perm_middle.trans ?_
     rw[List.take_append_drop]
    exact this.map (·.2)
   exact perm.nodup_iff.mpr (List.nodup_cons.mpr ⟨hnot,P.nd⟩)
  have ne:∀b q,bB prog w s.heap q b->b≠S:=fun b q ⟨o',_,_,ho',_,hd',_⟩ e=>by
   subst e
   rw[ho] at ho';cases ho'
   rw[hd] at hd';cases hd'
  have at1:∀{h':Heap},Heap.SameBut S s.heap h'->∀q,q∈ps1->bB prog w h' q.2 q.1/\Sm q.2:=fun {h'} hsb q hq=>by
   have key:∀{b:Addr} {q:Pr},bB prog w s.heap q b->bB prog w h' q b:=fun {b q} hb=>by
    have hne:=ne b q hb
    obtain⟨o',i',n',ho',r'⟩:=hb
    exact⟨o',i',n',(hsb.2 b hne).trans ho',r'⟩
   rcases (mem1 q).mp hq with z |z
   ·exact⟨key (P.at' q z).1,(P.at' q z).2⟩
   ·subst z;exact⟨key hk,hs⟩
  have hlen64:ps1.length<=64:=by
   have:=vN nd1 fun x hx=>by
    obtain⟨q,hq,rfl⟩:=List.mem_map.mp hx
    exact (at1 (Heap.SameBut.refl ..) q hq).2
   simpa using this
  have hsize:((ps1.map (dE f)).toArray).size<=sizeLine:=by rw[sizeLine_eq];simp;omega
  refine wpAny_bind (wpAny_storeSet_of ho hd ?_ hsize)
  have ho1:(s.heap.update S (Obj.putSet (ps1.map (dE f)).toArray (t.put j).1)).get? S=some {o with data:=.set (ps1.map (dE f)).toArray (ep + 1) (t.put j).1}:=by
   have:=Heap.get?_update_self (Obj.putSet (ps1.map (dE f)).toArray (t.put j).1) ho (by rw[putSet_of _ _ hd];rfl)
   rw[putSet_of _ _ hd] at this;exact this
  have sb1:=Heap.SameBut.update s.heap S (Obj.putSet (ps1.map (dE f)).toArray (t.put j).1)
  have hex1:({o with data:=.set (ps1.map (dE f)).toArray (ep + 1) (t.put j).1}:Obj).ExactSet:=hex
  have psz:(t.put j).1.place.size=ps.length + 1:=by
   rw[q1]
   show (insertAt t.place (below t.place j) j).size=_
   rw[<-Array.length_toList,bJ _ _ _ (c6 T.rise j).1]
   have:=T.size
   simp at this ⊢
   have:=(c6 T.rise j).1
   omega
  have dum1:(t.put j).1.dummies=#[]:=by rw[q1];exact T.dum
  have mask1:(t.put j).1.mask=t.mask:=by rw[q1]
  have tsz:t.place.size=ps.length:=by simpa using T.size
  simp only[Bool.not_false,Bool.true_and]
  cases htf:(t.put j).1.tooFull with
  |false=>
   simp only[Bool.false_eq_true,if_false]
   have hload:(t.place.size + 1) * 5 < t.mask * 3:=by
    unfold SetTable.tooFull SetTable.fill at htf
    rw[psz,dum1,mask1] at htf
    simp at htf
    rw[tsz];exact htf
   obtain⟨T1,_⟩:=T.put e2 e3 e4 hload
   refine wpAny_bind (wpAny_pure (wpAny_pure (h true _ ps1 sb1 ⟨⟨_,ep + 1,_,ho1,hex1,rfl,?_,?_⟩,at1 sb1,nd1⟩ (fun q hq=>(mem1 q).mp hq) (fun q hq=>(mem1 q).mpr (.inl hq)) ⟨(a,p),(mem1 _).mpr (.inr rfl),rfl⟩)))
   ·rw[<-hps']
    simpa[List.map_take,List.map_drop] using T1
   ·rw[q1];exact hled
  |true=>
   simp only[if_true]
   have hfull:t.mask * 3<=(ps.length + 1) * 5:=by
    unfold SetTable.tooFull SetTable.fill at htf
    rw[psz,dum1,mask1] at htf
    simpa using htf
   have hload:=T.load
   rw[tsz] at hload
   have hcase:∃mask',BY mask'/\sizeAbove (grown (ps.length + 1)) - 1=mask'/\sizeAbove (grown (ps.length + 1))<=sizeLine/\(ps.length + 1) * 5 < mask' * 3:=by
    rcases T.mask with e |e |e
    ·have:ps.length + 1=5:=by rw[e] at hfull hload;omega
     rw[this,E2.1]
     exact⟨31,.inr (.inl rfl),rfl,by rw[sizeLine_eq];decide,by decide⟩
    ·have:ps.length + 1=19:=by rw[e] at hfull hload;omega
     rw[this,E2.2]
     exact⟨127,.inr (.inr rfl),rfl,by rw[sizeLine_eq];decide,by decide⟩
    ·rw[e] at hfull;omega
   obtain⟨mask',hm3,em,hline,hl2⟩:=hcase
   have hes:(ps.map (dE f)).toArray.size + 1=ps.length + 1:=by simp
   rw[hes,AL]
   have hfit1:(t.put j).1.fits ((ps1.map (dE f)).toArray).size=true:=by
    unfold SetTable.fits SetTable.fill
    have hpl2:ps.length + 1<=t.mask:=by
     rcases T.mask with e |e |e <;> rw[e] at hload ⊢ <;> omega
    rw[psz,dum1,mask1]
    simp[len1,hpl2]
   refine wpAny_bind (wpAny_bind (wpAny_setState_of ho1 rfl hfit1 ?_))
   dsimp only
   rw[if_neg (by omega)]
   rw[uN _ _ _ hpl,em]
   obtain⟨t2,order,ps2,g1,g2,g3,g4,g5,g6⟩:=rC f hm3 (ps:=ps1) (by rw[len1];exact hl2) (t.put j).1.finger ((t.put j).1.movedTo mask') (t.put j).1.led
   rw[g1]
   simp only[bind_pure_comp,pure_bind]
   rw[g2]
   have hne:((ps2.map (dE f)).toArray.size != (ps1.map (dE f)).toArray.size)=false:=by simp[g3]
   rw[hne]
   simp only[Bool.false_eq_true,if_false]
   have hsize2:((ps2.map (dE f)).toArray).size<=sizeLine:=by rw[sizeLine_eq];simp;omega
   refine wpAny_bind (wpAny_pure ?_)
   refine wpAny_storeSet_of ho1 rfl ?_ hsize2
   have ho2:((s.heap.update S (Obj.putSet (ps1.map (dE f)).toArray (t.put j).1)).update S (Obj.putSet (ps2.map (dE f)).toArray t2)).get? S=some {o with data:=.set (ps2.map (dE f)).toArray (ep + 1 + 1) t2}:=by
    have:=Heap.get?_update_self (Obj.putSet (ps2.map (dE f)).toArray t2) ho1 (by rw[putSet_of (ep:=ep + 1) _ _ rfl];rfl)
    rw[putSet_of (ep:=ep + 1) _ _ rfl] at this;exact this
   have sb2:=sb1.trans (Heap.SameBut.update _ S (Obj.putSet (ps2.map (dE f)).toArray t2))
   have nd2:(ps2.map (·.2)).Nodup:=by
    have hmem:∀q,q∈ps2.map (·.2)↔q∈ps1.map (·.2):=fun q=>by
     rw[List.mem_map,List.mem_map]
     exact⟨fun⟨x,hx,e⟩=>⟨x,(g4 x).mp hx,e⟩,fun⟨x,hx,e⟩=>⟨x,(g4 x).mpr hx,e⟩⟩
    have hnd:(ps2.map fun q=>f q.2).Nodup:=by
     refine ni (m:=ps1.map fun q=>f q.2) ?_ (fun x hx=>?_) (by simp[g3])
     ·have:(ps1.map fun q=>f q.2)=(ps1.map (·.2)).map f:=by simp
      rw[this]
      refine List.pairwise_map.mpr (List.Pairwise.imp_of_mem ?_ nd1)
      intro x y hx hy hxy e
      obtain⟨q,hq,rfl⟩:=List.mem_map.mp hx
      obtain⟨r,hr,rfl⟩:=List.mem_map.mp hy
      exact hxy (hinj _ _ (at1 sb1 q hq).2 (at1 sb1 r hr).2 e)
     ·obtain⟨q,hq,rfl⟩:=List.mem_map.mp hx
      exact List.mem_map.mpr ⟨q,(g4 q).mpr hq,rfl⟩
    have:(ps2.map fun q=>f q.2)=(ps2.map (·.2)).map f:=by simp
    rw[this] at hnd
    exact (List.pairwise_map.mp hnd).imp fun hxy e=>hxy (by rw[e])
   refine wpAny_pure (h true _ ps2 sb2 ⟨⟨_,ep + 1 + 1,t2,ho2,hex,rfl,g5,?_⟩,fun q hq=>at1 sb2 q ((g4 q).mp hq),nd2⟩ (fun q hq=>(mem1 q).mp ((g4 q).mp hq)) (fun q hq=>(g4 q).mpr ((mem1 q).mpr (.inl hq))) ⟨(a,p),(g4 _).mpr ((mem1 _).mpr (.inr rfl)),rfl⟩)
   rw[g6,q1];exact hled
end
end L2.ST

end

section
namespace L2.ST
open PySem PySem.SetTable
def fH (w:World):Bool:= !(w.params.followText "set-order")
def Ab (prog:Program)(w:World)(p:Pr):Int:=tupleKeyHash (intKind prog w) [p.1,p.2]
theorem DO (prog:Program)(w:World):∀p q,Sm p->Sm q->Ab prog w p=Ab prog w q->p=q:=fun p q h1 h2 e=>Gy h1 h2 e
section
variable {prog:Program}{w:World}{A:Around}{E:Value->Shared->Prop}{s:Shared}{R:Result->Shared->Prop}{I:Addr}{fp wr:List Addr}{n:Nat}{P:Nat->Value->Prop}{St:Nat->Heap->Prop}
def cF (prog:Program)(w:World)(h:Heap)(vs:List Value)(ps:List Pr):Prop:=vs.length=ps.length/\∀(i:Nat) (v:Value) (p:Pr),vs[i]? =some v->ps[i]? =some p->∃a,v=.ref a/\bB prog w h p a/\Sm p
abbrev nZ (prog:Program)(w:World)(h:Heap)(S:Addr)(vs:List Value)(ps:List Pr)(k:Nat):Prop:=∃qs:List (Addr×Pr),tu (Ab prog w) prog w (fH w) h S qs/\
 (∀q,q∈qs->Value.ref q.1∈vs.take k/\q.2∈ps.take k)/\∀p,p∈ps.take k->p∈qs.map (·.2)
theorem lI (W:Walks prog w A.in1 I fp wr n P St)(S:Addr)(hSf:S∉fp){vs:List Value}{ps:List Pr}(hn:vs.length=n)(hP:∀i v,P i v->vs[i]? =some v)(hu:A.in1.units < cLine)(h₀:Heap)
  (hps:cF prog w h₀ vs ps) (hwr:∀b o,b∈S :: wr->h₀.get? b=some o->False):∀(k i:Nat) (s:Shared),n - i=k->i<=n->St i s.heap->(∀b o,h₀.get? b=some o->s.heap.get? b=some o)->nZ prog w s.heap S vs ps i->
   (∀h' tk,(∀b o,b∉S :: wr->s.heap.get? b=some o->h'.get? b=some o)->nZ prog w h' S vs ps n->R (.ok (.ret .none)) {s with heap:=h',toks:=tk})->
   codeAny (model prog w) A (.builtin "set.update.loop" ⟨[.ref S,.ref I],[]⟩) R s:=by
 have nw:S∉wr:=fun h=>hSf (W.sub _ h)
 intro k
 induction k with
 |zero=>
  intro i s hk hi hst hk0 hF hR
  obtain rfl:i=n:=by omega
  refine codeAny_builtin PyProof.Rows.F.entry_set_update_loop ?_
  rw[Around.under_plainId PyProof.Rows.F.plain_set_update_loop _]
  show wpAny _ A.in1 (pyNext (.ref I) >>= fun r=>_) _ _ s
  refine wpAny_bind (W.done s _ _ hst fun h' tk hm=>?_)
  show wpAny _ A.in1 (ret Value.none) _ _ _
  refine wpAny_pure (hR h' tk (fun b o hb e=>hm b o (fun z=>hb (List.mem_cons_of_mem _ z)) e) ?_)
  obtain⟨qs,Q1,Q2,Q3⟩:=hF
  obtain⟨o,ep,t,ho,r⟩:=Q1.ex
  refine⟨qs,⟨⟨o,ep,t,hm S o nw ho,r⟩,fun q hq=>⟨?_,(Q1.at' q hq).2⟩,Q1.nd⟩,Q2,Q3⟩
  obtain⟨m,hm1,hm2⟩:=List.mem_iff_getElem.mp (List.mem_of_mem_take (Q2 q hq).1)
  have hm1':m < ps.length:=by rw[<-hps.1];exact hm1
  obtain⟨a,ea,ha,_⟩:=hps.2 m vs[m] ps[m] (List.getElem?_eq_getElem hm1) (List.getElem?_eq_getElem hm1')
  rw[hm2] at ea
  cases ea
  obtain⟨o',it',n',ho',r'⟩:=(Q1.at' q hq).1
  obtain⟨o2,it2,n2,ho2,r2⟩:=ha
  have:o'=o2:=Option.some.inj (ho'.symm.trans (hk0 _ _ ho2))
  subst this
  exact⟨o',it',n',hm _ _ (fun z=>hwr _ _ (List.mem_cons_of_mem _ z) ho2) ho',r'⟩
 |succ k ih=>
  intro i s hk hi hst hk0 hF hR
  have hlt:i < n:=by omega
  refine codeAny_builtin PyProof.Rows.F.entry_set_update_loop ?_
  rw[Around.under_plainId PyProof.Rows.F.plain_set_update_loop _]
  show wpAny _ A.in1 (pyNext (.ref I) >>= fun r=>_) _ _ s
  refine wpAny_bind (W.item i s _ _ hlt hst fun v h1 tk1 hv hst1 hm=>?_)
  have hvi:=hP i v hv
  have hip:i < ps.length:=by rw[<-hps.1,hn];exact hlt
  obtain⟨a,rfl,ha,hsm⟩:=hps.2 i v ps[i] hvi (List.getElem?_eq_getElem hip)
  have k1:∀b o,h₀.get? b=some o->h1.get? b=some o:=fun b o e=>hm b o (fun z=>hwr b o (List.mem_cons_of_mem _ z) e) (hk0 b o e)
  obtain⟨qs,Q1,Q2,Q3⟩:=hF
  have old:∀{q:Addr×Pr} {h:Heap},q∈qs->(∀b o,h₀.get? b=some o->h.get? b=some o)->bB prog w h q.2 q.1:=fun {q h} hq kk=>by
   obtain⟨m,hm1,hm2⟩:=List.mem_iff_getElem.mp (List.mem_of_mem_take (Q2 q hq).1)
   have hm1':m < ps.length:=by rw[<-hps.1];exact hm1
   obtain⟨a,ea,ha,_⟩:=hps.2 m vs[m] ps[m] (List.getElem?_eq_getElem hm1) (List.getElem?_eq_getElem hm1')
   rw[hm2] at ea
   cases ea
   obtain⟨o',it',n',ho',r'⟩:=(Q1.at' q hq).1
   obtain⟨o2,it2,n2,ho2,r2⟩:=ha
   have:o'=o2:=Option.some.inj (ho'.symm.trans (hk0 _ _ ho2))
   subst this
   exact⟨o',it',n',kk _ _ ho2,r'⟩
  have P1:tu (Ab prog w) prog w (fH w) h1 S qs:=by
   obtain⟨o,ep,t,ho,r⟩:=Q1.ex
   exact⟨⟨o,ep,t,hm S o nw ho,r⟩,fun q hq=>⟨old hq k1,(Q1.at' q hq).2⟩,Q1.nd⟩
  have ha1:bB prog w h1 ps[i] a:=by
   obtain⟨o',it',n',ho',r'⟩:=ha
   exact⟨o',it',n',k1 _ _ ho',r'⟩
  show wpAny _ A.in1 (holding [Value.ref a] (setAdd S (.ref a)) >>= fun _=>_) _ _ _
  refine wpAny_bind (wpAny_holding ?_)
  unfold setAdd
  refine wpAny_holding (wpAny_bind (wpAny_pyHash_tuple hu ha1 ?_))
  refine tu.add (DO prog w) (s:={s with heap:=h1,toks:=tk1 + ([ps[i].1,ps[i].2].length + 1)}) P1 ha1 hsm hu fun b h2 qs' sb P2 m1 m2 m3=>?_
  have sbS:∀b o,h₀.get? b=some o->h2.get? b=some o:=fun b o e=>(sb.2 b (fun z=>hwr b o (by rw[z];exact List.mem_cons_self) e)).trans (k1 b o e)
  refine wpAny_pure ⟨plainId_quiet PyProof.Rows.F.plain_set_update_loop _,ih (i + 1) _ (by omega) hlt (W.frame _ _ _ hst1 fun b hb o e=>?_) sbS ⟨qs',P2,fun q hq=>?_,fun p hp=>?_⟩ fun h' tk hm' F'=>?_⟩
  ·rw[sb.2 b fun z=>hSf (by rw[<-z];exact hb)];exact e
  ·have htk:∀{α:Type} {l:List α} {x:α},x∈l.take i->x∈l.take (i + 1):=fun {α l x} hx=>by
    rw[List.take_add_one];exact List.mem_append_left _ hx
   rcases m1 q hq with z |z
   ·exact⟨htk (Q2 q z).1,htk (Q2 q z).2⟩
   ·subst z
    refine⟨?_,?_⟩
    ·rw[List.take_add_one,hvi];exact List.mem_append_right _ (by simp)
    ·rw[List.take_add_one,List.getElem?_eq_getElem hip];exact List.mem_append_right _ (by simp)
  ·rw[List.take_add_one,List.getElem?_eq_getElem hip] at hp
   rcases List.mem_append.mp hp with z |z
   ·obtain⟨q,hq,rfl⟩:=List.mem_map.mp (Q3 p z)
    exact List.mem_map.mpr ⟨q,m2 q hq,rfl⟩
   ·have:p=ps[i]:=by simpa using z
    obtain⟨q,hq,e⟩:=m3
    exact List.mem_map.mpr ⟨q,hq,by rw[e,this]⟩
  ·refine hR h' tk (fun b o hb e=>hm' b o hb ?_) F'
   show h2.get? b=some o
   rw[sb.2 b fun z=>hb (by rw[z];exact List.mem_cons_self)]
   exact hm b o (fun z=>hb (List.mem_cons_of_mem _ z)) e
theorem nj (a:Value){Q1:Value->Shared->Prop}
  (h:Q1 (.ref s.heap.objs.size) {s with heap:=s.heap.push {cls:=.type "set",dict:=none,data:=.set #[] 0 (.fresh 0 0 (fH w))}}) :
  codeAny (model prog w) A (.call (.builtin "set.__new__") ⟨[.type "set",a],[]⟩) (wants Q1 E) s:=by
 refine codeAny_of_tree ?_
 show wpAny _ A.in1 (do (checkBuiltinCall "set.__new__" ⟨[.type "set",a],[]⟩);again (.builtin "set.__new__" ⟨[.type "set",a],[]⟩)) _ _ s
 refine wpAny_bind (wpAny_of_eq (F.newCall_set_1 a) (wpAny_pure ⟨plainId_quiet F.plain_set_new _,codeAny_builtin F.entry_set_new ?_⟩))
 rw[Around.under_plainId F.plain_set_new _]
 (unfold Builtin.«set.__new__» Builtin.Frozenset.newClass)
 have hsub0:=sub_set_self
 obtain⟨hp0,g0,d0,tk0,os0⟩:=s
 dsimp only
 wp_walk
 (refine wpAny_askSetting (wpAny_pure ?_))
 dsimp only
 simp only[newObj]
 (refine wpAny_bind (wpAny_alloc (wpAny_pure ?_)))
 exact wpAny_pure h
theorem z5 (led:Bool):Tab (.fresh 0 0 led) []:=
 ⟨.inl rfl,rfl,List.Pairwise.nil,fun j h=>(by cases (Array.mem_toList_iff.mpr h)),rfl,(by show (0:Nat) * 5 < 7 * 3;decide),fun i j h e=>(by simp[SetTable.fresh] at e),rfl⟩
structure Src (prog:Program)(w:World)(h:Heap)(l:Addr)(vs:List Value)(T:String)(itO:Obj)(St:Addr->Nat->Heap->Prop):Prop where
 ty:∃o,h.get? l=some o/\o.cls=.type T
 ns:isSubtype (.type T) (.type "set")=pure false
 nf:isSubtype (.type T) (.type "frozenset")=pure false
 nd:(Value.type T == Value.type "dict")=false
 it:∀(A:Around) (s1:Shared) (Q:Value->Shared->Prop) (E:Value->Shared->Prop),(∀b o,h.get? b=some o->s1.heap.get? b=some o)->Q (.ref s1.heap.objs.size) {s1 with heap:=s1.heap.push itO}->wpAny (model prog w) A (pyIter (.ref l)) Q E s1
 st:∀(h1:Heap),(∀b o,h.get? b=some o->h1.get? b=some o)->St h1.objs.size 0 (h1.push itO)
 wk:∀(A:Around) (I:Addr),A.handled=none->l≠I->Walks prog w A I [I,l] [I] vs.length (fun i v=>vs[i]? =some v) (St I)
theorem Src.list {h:Heap}{l:Addr}{vs:List Value}(hl:h.IsList l vs.toArray):Src prog w h l vs "list" {cls:=.type "list_iterator",data:=.fields #[.ref l,.int 0 0]} (fun I i h'=>h'.IsListIter I l i/\h'.IsList l vs.toArray):=by
 obtain⟨o,ho,hc,n,hd⟩:=id hl
 refine⟨⟨o,ho,hc⟩,F.sub_list_set,F.sub_list_frozenset,by decide,fun A s1 Q E k hQ=>wpAny_pyIter_list ⟨o,k _ _ ho,hc,n,hd⟩ hQ,fun h1 k=>⟨⟨_,Heap.get?_push_size _ rfl,rfl,rfl⟩,⟨o,Heap.get?_push_of_some _ (k _ _ ho),hc,n,hd⟩⟩,fun A I hh hne=>?_⟩
 have:=Walks.list (prog:=prog) (w:=w) hh I l hne vs.toArray
 simpa using this
theorem sub_tuple_set:isSubtype (.type "tuple") (.type "set")=pure false:=by rw[isSubtype_type];kernel_rfl
theorem sub_tuple_frozenset:isSubtype (.type "tuple") (.type "frozenset")=pure false:=by rw[isSubtype_type];kernel_rfl
theorem Src.tuple {h:Heap}{l:Addr}{vs:List Value}(hl:h.IsTuple l vs.toArray):Src prog w h l vs "tuple" {cls:=.type "tuple_iterator",data:=.fields #[.ref l,.int 0 0]} (fun I i h'=>h'.IsTupleIter I l i/\h'.IsTuple l vs.toArray):=by
 obtain⟨o,ho,hc,n,hd⟩:=id hl
 refine⟨⟨o,ho,hc⟩,sub_tuple_set,sub_tuple_frozenset,by decide,fun A s1 Q E k hQ=>wpAny_pyIter_tuple ⟨o,k _ _ ho,hc,n,hd⟩ hQ,fun h1 k=>⟨⟨_,Heap.get?_push_size _ rfl,rfl,rfl⟩,⟨o,Heap.get?_push_of_some _ (k _ _ ho),hc,n,hd⟩⟩,fun A I hh hne=>?_⟩
 have:=Walks.tuple (prog:=prog) (w:=w) hh I l hne vs.toArray
 simpa using this
set_option maxHeartbeats 3200000 in
theorem om {l:Addr}{vs:List Value}{ps:List Pr}{T:String}{itO:Obj}{St:Addr->Nat->Heap->Prop}{Q:Value->Shared->Prop}(X:Src prog w s.heap l vs T itO St)(hh:A.handled=none)(hu:A.units + 64 < cLine)(hps:cF prog w s.heap vs ps)
  (h:∀(h':Heap) (tk:Nat),nZ prog w h' s.heap.objs.size vs ps vs.length->(∀b o,s.heap.get? b=some o->h'.get? b=some o)->Q (.ref s.heap.objs.size) {s with heap:=h',toks:=tk}) :
  wpAny (model prog w) A (call (.type "set") [.ref l]) Q E s:=by
 obtain⟨c0,tl0,hmro0⟩:=F.called_set.mro
 have hmade0:=F.called_set.made
 have hsub0:=F.called_set.sub
 refine wpAny_call (codeAny_of_tree ?_)
 show wpAny _ _ (callAny (.type "set") ⟨[.ref l],[]⟩) _ _ _
 refine wpAny_pure ⟨Code.quiet_builtin _ (by decide +kernel),codeAny_builtin F.entry_type_call ?_⟩
 (rw[Around.under_plain (weight_type_call_type "set" [.ref l] []) rfl])
 have g1:=F.called_set.notType
 have g2:=F.called_set.canCreate
 have g3:=F.typeCall_set_1 (.ref l)
 repeat (any_goals (first |assumption |wp_step))
 refine codeAny_mono (nj (.ref l) (E:=E) (Q1:=fun obj s1=>obj=.ref s.heap.objs.size/\s1={s with heap:=s.heap.push {cls:=.type "set",dict:=none,data:=.set #[] 0 (.fresh 0 0 (fH w))}}) ⟨rfl,rfl⟩) fun r s1 hr=>?_
 cases r with
 |error e=>exact hr
 |ok fl=>
  cases fl with
  |ret obj=>
   obtain⟨rfl,rfl⟩:=hr
   generalize hO:({cls:=.type "set",dict:=none,data:=.set #[] 0 (.fresh 0 0 (fH w))}:Obj)=O
   have hS0:(s.heap.push O).get? s.heap.objs.size=some O:=Heap.get?_push_size _ (by rw[<-hO];rfl)
   have hT0:Shared.TypeIs {s with heap:=s.heap.push O} (.ref s.heap.objs.size) "set":=⟨_,hS0,by rw[<-hO]⟩
   have g4:=F.called_set.init.lookup
   have g5:=F.called_set.init.bind (.ref s.heap.objs.size)
   repeat (any_goals (first |assumption |wp_step))
   refine codeAny_mono (codeAny_call_builtin (R:=wants (fun r s2=>r=.none/\∃h' tk,s2={s with heap:=h',toks:=tk}/\nZ prog w h' s.heap.objs.size vs ps vs.length/\(∀b o,s.heap.get? b=some o->h'.get? b=some o)) E)
    F.called_set.init.plain F.entry_set_init (check_set_init_1 hT0 ?_)) fun r2 s2 hr2=>?_
   ·obtain⟨ol,hol,hcl⟩:=X.ty
    have hol':(s.heap.push O).get? l=some ol:=Heap.get?_push_of_some _ hol
    have e1:=X.ns
    have e2:=X.nf
    have e3:=X.nd
    have hTl:Shared.TypeIs {s with heap:=s.heap.push O} (.ref l) T:=⟨ol,hol',hcl⟩
    have hdat:O.data=.set #[] 0 (.fresh 0 0 (fH w)):=by rw[<-hO]
    (unfold Builtin.«set.__init__» noKeywords Builtin.Frozenset.updateFrom)
    subst hO
    obtain⟨oc,od,odt,osl⟩:=ol
    simp only at hcl
    subst hcl
    (generalize hPI0:pyIter=PI0)
    wp_walk
    subst hPI0
    have kp:∀b o,s.heap.get? b=some o->(s.heap.push {cls:=.type "set",dict:=none,data:=.set #[] 0 (.fresh 0 0 (fH w))}).get? b=some o:=fun b o e=>Heap.get?_push_of_some _ e
    refine X.it _ _ _ _ kp ?_
    refine wpAny_bind (wpAny_runValue ?_)
    have hlS:l < s.heap.objs.size:=Heap.lt_size hol
    have hh3:A.in1.in1.in1.handled=none:=by simp[hh]
    have hneI:l≠(s.heap.push {cls:=.type "set",dict:=none,data:=.set #[] 0 (.fresh 0 0 (fH w))}).objs.size:=by
     rw[Heap.size_push];exact Nat.ne_of_lt (Nat.lt_succ_of_lt hlS)
    have hSf:s.heap.objs.size∉ [(s.heap.push {cls:=.type "set",dict:=none,data:=.set #[] 0 (.fresh 0 0 (fH w))}).objs.size,l]:=by
     rw[Heap.size_push]
     intro z
     rcases List.mem_cons.mp z with e |z
     ·exact absurd e (Nat.ne_of_lt (Nat.lt_succ_self _))
     ·exact absurd (List.mem_singleton.mp z) (Nat.ne_of_gt hlS)
    refine lI (X.wk _ _ hh3 hneI) s.heap.objs.size hSf rfl (fun i v e=>e) (by simp;omega) s.heap hps (fun b o hb e=>?_) (vs.length - 0) 0 _ (by omega) (Nat.zero_le _) (X.st _ kp) (fun b o e=>Heap.get?_push_of_some _ (kp b o e)) ?_ ?_
    ·have hlt:=Heap.lt_size e
     rw[Heap.size_push] at hb
     rcases List.mem_cons.mp hb with z |z
     ·exact absurd hlt (by rw[z];exact Nat.lt_irrefl _)
     ·rw[List.mem_singleton.mp z] at hlt
      exact absurd hlt (Nat.not_lt.mpr (Nat.le_succ _))
    ·refine⟨[],⟨⟨_,0,_,Heap.get?_push_of_some _ hS0,⟨rfl,rfl,rfl⟩,rfl,z5 _,rfl⟩,fun q hq=>(by cases hq),List.nodup_nil⟩,fun q hq=>(by cases hq),fun p hp=>(by simp at hp)⟩
    ·intro h' tk hm F'
     show wpAny _ _ _ _ _ _
     refine wpAny_pure ?_
     show wpAny _ _ (ret Value.none) _ _ _
     refine wpAny_pure ⟨rfl,h',tk,rfl,F',fun b o e=>hm b o (fun z=>?_) (Heap.get?_push_of_some _ (kp b o e))⟩
     have hlt:=Heap.lt_size e
     rw[Heap.size_push] at z
     rcases List.mem_cons.mp z with z |z
     ·exact absurd hlt (by rw[z];exact Nat.lt_irrefl _)
     ·rw[List.mem_singleton.mp z] at hlt
      exact absurd hlt (Nat.not_lt.mpr (Nat.le_succ _))
   ·cases r2 with
    |error e=>exact hr2
    |ok fl2=>
     cases fl2 with
     |ret r=>
      obtain⟨rfl,h',tk,rfl,hF,hk⟩:=hr2
      repeat (any_goals (first |assumption |wp_step))
      exact h _ _ hF hk
     |_=>exact hr2.elim
  |_=>exact hr.elim
end
end L2.ST

end

section
namespace L2.SO
open PySem PySem.W PyProof.Rows
def jE {α:Type}(lt:Nat->Nat->Bool):KasT α->α
 | .ret a=>a
 | .ask i j k=>jE lt (k (lt i j))
theorem eB {α β:Type}(lt:Nat->Nat->Bool)(f:α->KasT β):∀t:KasT α,jE lt (t.bind f)=jE lt (f (jE lt t))
 | .ret _=>rfl
 | .ask i j k=>eB lt f (k (lt i j))
def tH {α:Type}(n:Nat)(lt:Nat->Nat->Bool):KasT α->Prop
 | .ret _=>True
 | .ask i j k=>i < n/\j < n/\tH n lt (k (lt i j))
theorem gA {α β:Type}{n:Nat}{lt:Nat->Nat->Bool}{f:α->KasT β}:∀{t:KasT α},tH n lt t->tH n lt (f (jE lt t))->tH n lt (t.bind f)
 | .ret _,_,h=>h
 | .ask i j k,h,h'=>⟨h.1,h.2.1,gA h.2.2 h'⟩
section
variable {n:Nat}{key:Nat->Int}
abbrev ng (key:Nat->Int)(i j:Nat):Bool:=decide (key i < key j)
abbrev Kp (key:Nat->Int)(p:Array Nat)(k:Nat):Int:=key (p.getD k 0)
structure Pm (n:Nat)(p:Array Nat):Prop where
 sz:p.size=n
 nd:p.toList.Nodup
 lt:∀x,x∈p->x < n
theorem Pm.at {p:Array Nat}(P:Pm n p){k:Nat}(hk:k < n):p.getD k 0 < n:=by
 have h:k < p.size:=by rw[P.sz];exact hk
 simp only[Array.getD,h,dif_pos]
 exact P.lt _ (Array.getElem_mem h)
theorem Pm.ne {p:Array Nat}(P:Pm n p){i k:Nat}(hi:i < n)(hk:k < n)(hne:i≠k):p.getD i 0≠p.getD k 0:=by
 have h1:i < p.toList.length:=by simpa using (by rw[P.sz];exact hi:i < p.size)
 have h2:k < p.toList.length:=by simpa using (by rw[P.sz];exact hk:k < p.size)
 have h1':i < p.size:=by rw[P.sz];exact hi
 have h2':k < p.size:=by rw[P.sz];exact hk
 have a1:p.getD i 0=p.toList[i]:=by simp[Array.getD,h1']
 have a2:p.getD k 0=p.toList[k]:=by simp[Array.getD,h2']
 rw[a1,a2]
 have q:=List.pairwise_iff_getElem.mp P.nd
 rcases Nat.lt_or_ge i k with c |c
 ·exact q i k h1 h2 c
 ·exact (q k i h2 h1 (by omega)).symm
theorem Pm.perm {p q:Array Nat}(P:Pm n p)(h:q.Perm p):Pm n q:=by
 have h':=Array.perm_iff_toList_perm.mp h
 exact⟨by rw[h.size_eq];exact P.sz,h'.nodup_iff.mpr P.nd,fun x hx=>P.lt x (by simpa using h'.mem_iff.mp (by simpa using hx))⟩
theorem uj (n:Nat):Pm n (List.toArray (List.range n)):=⟨by simp,by simpa using List.nodup_range,fun x hx=>by simpa using hx⟩
def Inj (n:Nat)(key:Nat->Int):Prop:=∀i j,i < n->j < n->key i=key j->i=j
theorem Pm.tri {p:Array Nat}(P:Pm n p)(hi:Inj n key){i k:Nat}(h1:i < n)(h2:k < n)(hne:i≠k):Kp key p i < Kp key p k\/Kp key p k < Kp key p i:=by
 have:Kp key p i≠Kp key p k:=fun e=>P.ne h1 h2 hne (hi _ _ (P.at h1) (P.at h2) e)
 omega
def Up (key:Nat->Int)(p:Array Nat)(m:Nat):Prop:=∀i j,i < j->j < m->Kp key p i < Kp key p j
def Dn (key:Nat->Int)(p:Array Nat)(m:Nat):Prop:=∀i j,i < j->j < m->Kp key p j < Kp key p i
theorem Up.snoc {p:Array Nat}{m:Nat}(U:Up key p m)(h1:1<=m)(h:Kp key p (m - 1) < Kp key p m):Up key p (m + 1):=fun i j hij hj=>by
 rcases Nat.lt_or_ge j m with c |c
 ·exact U i j hij c
 ·have:j=m:=by omega
  subst this
  rcases Nat.lt_or_ge i (j - 1) with d |d
  ·exact Int.lt_trans (U i (j - 1) d (by omega)) h
  ·have:i=j - 1:=by omega
   rw[this];exact h
theorem Dn.snoc {p:Array Nat}{m:Nat}(U:Dn key p m)(h1:1<=m)(h:Kp key p m < Kp key p (m - 1)):Dn key p (m + 1):=fun i j hij hj=>by
 rcases Nat.lt_or_ge j m with c |c
 ·exact U i j hij c
 ·have:j=m:=by omega
  subst this
  rcases Nat.lt_or_ge i (j - 1) with d |d
  ·exact Int.lt_trans h (U i (j - 1) d (by omega))
  ·have:i=j - 1:=by omega
   rw[this];exact h
theorem oi {p:Array Nat}(P:Pm n p)(hi:Inj n key):∀(f m:Nat),1<=m->m + f<=n->Up key p m->
  ∃r,(jE (ng key) (kas_asc p f m)=r/\tH n (ng key) (kas_asc p f m))/\m<=r/\r<=m + f/\Up key p r/\(r < m + f->Kp key p r < Kp key p (r - 1))
 | 0,m,_,_,U=>⟨m,⟨rfl,trivial⟩,Nat.le_refl _,Nat.le_refl _,U,fun h=>absurd h (Nat.lt_irrefl _)⟩
 |f + 1,m,h1,hn,U=>by
  have b1:p.getD m 0 < n:=P.at (by omega)
  have b2:p.getD (m - 1) 0 < n:=P.at (by omega)
  unfold kas_asc jE tH
  by_cases c:Kp key p m < Kp key p (m - 1)
  ·rw[show ng key (p.getD m 0) (p.getD (m - 1) 0)=true from decide_eq_true c]
   simp only[if_true]
   exact⟨m,⟨rfl,b1,b2,trivial⟩,Nat.le_refl _,by omega,U,fun _=>c⟩
  ·rw[show ng key (p.getD m 0) (p.getD (m - 1) 0)=false from decide_eq_false c]
   simp only[Bool.false_eq_true,if_false]
   have up:Kp key p (m - 1) < Kp key p m:=(P.tri hi (by omega) (by omega) (by omega)).resolve_right c
   obtain⟨r,⟨e,o⟩,a,b,u,d⟩:=oi P hi f (m + 1) (by omega) (by omega) (U.snoc h1 up)
   exact⟨r,⟨e,b1,b2,o⟩,by omega,by omega,u,fun h=>d (by omega)⟩
theorem qR {p:Array Nat}(P:Pm n p)(hi:Inj n key):∀(f m:Nat),1<=m->m + f<=n->Dn key p m->
  ∃r,(jE (ng key) (kas_desc f p m 0)=(p,r,0)/\tH n (ng key) (kas_desc f p m 0))/\m<=r/\r<=m + f/\Dn key p r
 | 0,m,_,_,U=>⟨m,⟨rfl,trivial⟩,Nat.le_refl _,Nat.le_refl _,U⟩
 |f + 1,m,h1,hn,U=>by
  have b1:p.getD m 0 < n:=P.at (by omega)
  have b2:p.getD (m - 1) 0 < n:=P.at (by omega)
  unfold kas_desc jE tH
  by_cases c:Kp key p m < Kp key p (m - 1)
  ·rw[show ng key (p.getD m 0) (p.getD (m - 1) 0)=true from decide_eq_true c]
   simp only[if_true,Nat.lt_irrefl,gt_iff_lt,if_false]
   obtain⟨r,⟨e,o⟩,a,b,u⟩:=qR P hi f (m + 1) (by omega) (by omega) (U.snoc h1 c)
   exact⟨r,⟨e,b1,b2,o⟩,by omega,by omega,u⟩
  ·rw[show ng key (p.getD m 0) (p.getD (m - 1) 0)=false from decide_eq_false c]
   simp only[Bool.false_eq_true,if_false]
   unfold jE tH
   have up:Kp key p (m - 1) < Kp key p m:=(P.tri hi (by omega) (by omega) (by omega)).resolve_right c
   rw[show ng key (p.getD (m - 1) 0) (p.getD m 0)=true from decide_eq_true up]
   simp only[if_true]
   exact⟨m,⟨rfl,b1,b2,b2,b1,trivial⟩,Nat.le_refl _,by omega,U⟩
theorem AZ {p:Array Nat}{j k:Nat}(hj:j<=p.size)(hk:k < j):(kas_rev p 0 j).getD k 0=p.getD (j - 1 - k) 0:=by
 unfold kas_rev
 rw[Array.getD_eq_getD_getElem?,getElem?_mirror_all hj k,if_pos ⟨Nat.zero_le _,hk⟩,Array.getD_eq_getD_getElem?]
 congr 2
 omega
theorem Gz {p:Array Nat}{m:Nat}(hm:m<=p.size)(D:Dn key p m):Up key (kas_rev p 0 m) m:=fun i j hij hj=>by
 unfold Kp
 rw[AZ hm (by omega),AZ hm hj]
 exact D (m - 1 - j) (m - 1 - i) (by omega) (by omega)
theorem Pm.rev {p:Array Nat}(P:Pm n p)(j:Nat):Pm n (kas_rev p 0 j):=P.perm (mirror_perm ..)
theorem w9 {p:Array Nat}(P:Pm n p)(hi:Inj n key)(h1:1<=n) :
  ∃m q,(jE (ng key) (kas_count n p)=(m,q)/\tH n (ng key) (kas_count n p))/\Pm n q/\1<=m/\m<=n/\Up key q m:=by
 obtain⟨r,⟨e,o⟩,a,b,u,d⟩:=oi P hi (n - 1) 1 (Nat.le_refl _) (by omega) (fun i j hij hj=>by omega)
 have rest:∃m q,(jE (ng key) (if (r == n)=true then KasT.ret (r,p) else if r > 1 then .ask (p.getD 0 0) (p.getD (r - 1) 0) fun c=>if c=true then .ret (r,p) else kas_descPart r n (kas_rev p 0 r) else kas_descPart r n p)=(m,q)/\
   tH n (ng key) (if (r == n)=true then KasT.ret (r,p) else if r > 1 then .ask (p.getD 0 0) (p.getD (r - 1) 0) fun c=>if c=true then .ret (r,p) else kas_descPart r n (kas_rev p 0 r) else kas_descPart r n p))/\Pm n q/\1<=m/\m<=n/\Up key q m:=by
  by_cases c:(r == n)=true
  ·rw[if_pos c]
   exact⟨r,p,⟨rfl,trivial⟩,P,a,by omega,u⟩
  ·rw[if_neg c]
   have hrn:r≠n:=by simpa using c
   have dd:=d (by omega)
   by_cases c2:r > 1
   ·rw[if_pos c2]
    unfold jE tH
    rw[show ng key (p.getD 0 0) (p.getD (r - 1) 0)=true from decide_eq_true (u 0 (r - 1) (by omega) (by omega))]
    simp only[if_true]
    exact⟨r,p,⟨rfl,P.at (by omega),P.at (by omega),trivial⟩,P,a,by omega,u⟩
   ·rw[if_neg c2]
    have hr1:r=1:=by omega
    subst hr1
    unfold kas_descPart
    rw[eB]
    have D2:Dn key p 2:=fun i j hij hj=>by
     have e1:i=0:=by omega
     have e2:j=1:=by omega
     rw[e1,e2];exact dd
    obtain⟨x,⟨e2,o2⟩,a2,b2,u2⟩:=qR P hi (n - 2) 2 (by omega) (by omega) D2
    obtain⟨y,⟨e3,o3⟩,a3,b3,u3,_⟩:=oi (P.rev x) hi (n - x) x (by omega) (by omega) (Gz (by rw[P.sz];omega) u2)
    rw[show n - (1 + 1)=n - 2 from rfl,show (1 + 1:Nat)=2 from rfl]
    have t3:tH n (ng key) (kas_tail3 x n p):=by
     unfold kas_tail3
     exact gA o3 trivial
    refine⟨y,kas_rev p 0 x,⟨?_,gA o2 ?_⟩,P.rev x,by omega,by omega,u3⟩
    ·rw[e2]
     simp only[Nat.lt_irrefl,gt_iff_lt,if_false]
     unfold kas_tail3
     rw[eB,e3]
     rfl
    ·rw[e2]
     simp only[Nat.lt_irrefl,gt_iff_lt,if_false]
     exact t3
 obtain⟨m,q,⟨f1,f2⟩,f3⟩:=rest
 refine⟨m,q,⟨?_,?_⟩,f3⟩
 ·unfold kas_count
  rw[eB,e]
  exact f1
 ·unfold kas_count
  refine gA o ?_
  rw[e]
  exact f2
theorem place_spec {p:Array Nat}{k:Nat}(P:Pm n p)(hi:Inj n key)(hk:k < n)(U:Up key p k):∀(f l r:Nat),l<=r->r<=k->r - l<=f->(∀i,i < l->Kp key p i < Kp key p k)->(∀i,r<=i->i < k->Kp key p k < Kp key p i)->
  ∃x,(jE (ng key) (kas_place p k f l r)=x/\tH n (ng key) (kas_place p k f l r))/\x<=k/\(∀i,i < x->Kp key p i < Kp key p k)/\(∀i,x<=i->i < k->Kp key p k < Kp key p i)
 | 0,l,r,h1,h2,h3,a,b=>⟨l,⟨rfl,trivial⟩,by omega,a,fun i hi=>b i (by omega)⟩
 |f + 1,l,r,h1,h2,h3,a,b=>by
  unfold kas_place
  by_cases c:l>=r
  ·rw[if_pos c]
   exact⟨l,⟨rfl,trivial⟩,by omega,a,fun i hi=>b i (by omega)⟩
  ·rw[if_neg c]
   have b1:p.getD k 0 < n:=P.at hk
   have b2:p.getD ((l + r) / 2) 0 < n:=P.at (by omega)
   unfold jE tH
   by_cases d:Kp key p k < Kp key p ((l + r) / 2)
   ·rw[show ng key (p.getD k 0) (p.getD ((l + r) / 2) 0)=true from decide_eq_true d]
    simp only[if_true]
    have side:∀i,(l + r) / 2<=i->i < k->Kp key p k < Kp key p i:=fun i h1 h2=>by
     rcases Nat.lt_or_ge ((l + r) / 2) i with z |z
     ·exact Int.lt_trans d (U _ _ z h2)
     ·have:i=(l + r) / 2:=by omega
      rw[this];exact d
    obtain⟨x,⟨e1,e2⟩,e3⟩:=place_spec P hi hk U f l ((l + r) / 2) (by omega) (by omega) (by omega) a side
    exact⟨x,⟨e1,b1,b2,e2⟩,e3⟩
   ·rw[show ng key (p.getD k 0) (p.getD ((l + r) / 2) 0)=false from decide_eq_false d]
    simp only[Bool.false_eq_true,if_false]
    have d':Kp key p ((l + r) / 2) < Kp key p k:=(P.tri hi (by omega) hk (by omega)).resolve_right d
    have side:∀i,i < (l + r) / 2 + 1->Kp key p i < Kp key p k:=fun i h=>by
     rcases Nat.lt_or_ge i ((l + r) / 2) with z |z
     ·exact Int.lt_trans (U _ _ z (by omega)) d'
     ·have:i=(l + r) / 2:=by omega
      rw[this];exact d'
    obtain⟨x,⟨e1,e2⟩,e3⟩:=place_spec P hi hk U f ((l + r) / 2 + 1) r (by omega) h2 (by omega) side b
    exact⟨x,⟨e1,b1,b2,e2⟩,e3⟩
theorem AK {p:Array Nat}{k l j:Nat}(hk:k < p.size)(hl:l<=k):(bubble p k (k - l)).getD j 0=if j=l then p.getD k 0 else if l < j/\j<=k then p.getD (j - 1) 0 else p.getD j 0:=by
 rw[Array.getD_eq_getD_getElem?,getElem?_bubble hk (k - l) (by omega) j,show k - (k - l)=l by omega]
 simp only[Array.getD_eq_getD_getElem?]
 split
 ·rfl
 ·split <;> rfl
theorem ug (hi:Inj n key):∀(f k:Nat) (p:Array Nat),Pm n p->1<=k->k + f=n->Up key p k->∃q,(jE (ng key) (kas_bin f p k)=q/\tH n (ng key) (kas_bin f p k))/\Pm n q/\Up key q n
 | 0,k,p,P,_,e,U=>⟨p,⟨rfl,trivial⟩,P,by rw[<-e];exact U⟩
 |f + 1,k,p,P,h1,e,U=>by
  have hk:k < n:=by omega
  obtain⟨l,⟨el,ol⟩,hl,a,b⟩:=place_spec P hi hk U k 0 k (Nat.zero_le _) (Nat.le_refl _) (by omega) (fun i h=>by omega) (fun i h h'=>by omega)
  have side:Up key (bubble p k (k - l)) (k + 1):=fun i j hij hj=>by
   have hks:k < p.size:=by rw[P.sz];exact hk
   unfold Kp
   rw[AK hks hl,AK hks hl]
   by_cases i1:i=l
   ·rw[if_pos i1,if_neg (by omega)]
    by_cases j2:l < j/\j<=k
    ·rw[if_pos j2];exact b _ (by omega) (by omega)
    ·omega
   ·rw[if_neg i1]
    by_cases i2:l < i/\i<=k
    ·rw[if_pos i2,if_neg (by omega),if_pos (by omega)]
     exact U _ _ (by omega) (by omega)
    ·rw[if_neg i2]
     by_cases j1:j=l
     ·rw[if_pos j1];exact a _ (by omega)
     ·rw[if_neg j1]
      by_cases j2:l < j/\j<=k
      ·rw[if_pos j2]
       rcases Nat.lt_or_ge i (j - 1) with z |z
       ·exact U _ _ z (by omega)
       ·omega
      ·rw[if_neg j2];exact U _ _ hij (by omega)
  obtain⟨q,⟨q1,q2⟩,q3⟩:=ug hi f (k + 1) (bubble p k (k - l)) (P.perm (bubble_perm ..)) (by omega) (by omega) side
  refine⟨q,⟨?_,?_⟩,q3⟩
  ·unfold kas_bin;rw[eB,el];exact q1
  ·unfold kas_bin;refine gA ol ?_;rw[el];exact q2
theorem zh (hi:Inj n key)(h2:2<=n):∃q,(jE (ng key) (kas_sort n)=q/\tH n (ng key) (kas_sort n))/\Pm n q/\Up key q n:=by
 obtain⟨m,q,⟨e,o⟩,P,a,b,u⟩:=w9 (uj n) hi (by omega)
 by_cases c:m < n
 ·obtain⟨q',⟨e1,o1⟩,r⟩:=ug hi (n - m) m q P a (by omega) u
  refine⟨q',⟨?_,?_⟩,r⟩
  ·unfold kas_sort;rw[eB,e];dsimp only;rw[if_pos c,Nat.max_eq_left a];exact e1
  ·unfold kas_sort;refine gA o ?_;rw[e];dsimp only;rw[if_pos c,Nat.max_eq_left a];exact o1
 ·refine⟨q,⟨?_,?_⟩,P,fun i j hij hj=>u i j hij (by omega)⟩
  ·unfold kas_sort;rw[eB,e];dsimp only;rw[if_neg c];rfl
  ·unfold kas_sort;refine gA o ?_;rw[e];dsimp only;rw[if_neg c];trivial
theorem wp_run {α:Type}{n:Nat}{lt:Nat->Nat->Bool}{cmp:Nat->Nat->(Bool->Shared->Prop)->Shared->Prop}{Q:α->Shared->Prop}{s:Shared} :
  ∀(t:KasT α),(∀i j C,i < n->j < n->C (lt i j) s->cmp i j C s)->tH n lt t->Q (jE lt t) s->t.kasWp cmp Q s
 | .ret a,_,_,h=>h
 | .ask i j k,hc,ho,h=>hc i j _ ho.1 ho.2.1 (wp_run (k (lt i j)) hc ho.2.2 h)
end
end L2.SO

end

section
namespace L2.ST
open PySem PySem.SetTable PySem.W PyProof.Rows
def code (p:Pr):Int:=p.1 * 8 + p.2
theorem yA {p q:Pr}(h1:Sm p)(h2:Sm q):code p < code q↔p.1 < q.1\/(p.1=q.1/\p.2 < q.2):=by
 unfold code Sm at *;omega
theorem code_inj {p q:Pr}(h1:Sm p)(h2:Sm q)(e:code p=code q):p=q:=by
 unfold code Sm at *
 refine Prod.ext ?_ ?_ <;> omega
section
variable {prog:Program}{w:World}{A:Around}{E:Value->Shared->Prop}{s:Shared}
abbrev pU (ps:List Pr)(i:Nat):Int:=code (ps.getD i (0,0))
theorem Bi {ps:List Pr}(nd:ps.Nodup)(hs:∀p,p∈ps->Sm p):L2.SO.Inj ps.length (pU ps):=fun i j hi hj e=>by
 have a1:ps.getD i (0,0)=ps[i]:=by simp[hi]
 have a2:ps.getD j (0,0)=ps[j]:=by simp[hj]
 unfold pU at e
 rw[a1,a2] at e
 have e':=code_inj (hs _ (List.getElem_mem hi)) (hs _ (List.getElem_mem hj)) e
 have q:=List.pairwise_iff_getElem.mp nd
 rcases Nat.lt_trichotomy i j with c |c |c
 ·exact absurd e' (q i j hi hj c)
 ·exact c
 ·exact absurd e'.symm (q j i hj hi c)
theorem Er {a b:Addr}{p q:Pr}{Q:Bool->Shared->Prop}(ha:bB prog w s.heap p a)(hb:bB prog w s.heap q b)(hp:Sm p)(hq:Sm q)(h:Q (decide (code p < code q)) s) :
  wpAny (model prog w) A (keyLt' (tuples' true) (.ref a) (.ref b)) Q E s:=by
 obtain⟨oa,ia,na,hoa,hca,hda,hia⟩:=ha
 obtain⟨ob,ib,nb,hob,hcb,hdb,hib⟩:=hb
 obtain⟨l1,rfl⟩:∃l,ia=List.toArray l:=⟨ia.toList,by simp⟩
 obtain⟨l2,rfl⟩:∃l,ib=List.toArray l:=⟨ib.toList,by simp⟩
 simp only[List.toList_toArray] at hia hib
 cases hia with
 | @cons _ v1 _ _ h1 hia=>
  cases hia with
  | @cons _ v2 _ _ h2 hia=>
   cases hia
   cases hib with
   | @cons _ u1 _ _ g1 hib=>
    cases hib with
    | @cons _ u2 _ _ g2 hib=>
     cases hib
     obtain⟨t1,rfl⟩:=Value.isInt_shape h1
     obtain⟨t2,rfl⟩:=Value.isInt_shape h2
     obtain⟨t3,rfl⟩:=Value.isInt_shape g1
     obtain⟨t4,rfl⟩:=Value.isInt_shape g2
     refine kat_lt hoa hda hob hdb ?_
     have hc:=yA hp hq
     refine kat_cons (wpAny_eqBool_int ?_)
     by_cases e1:p.1=q.1
     ·rw[show (p.1 == q.1)=true by simpa using e1]
      refine kat_yes (kat_cons (wpAny_eqBool_int ?_))
      by_cases e2:p.2=q.2
      ·rw[show (p.2 == q.2)=true by simpa using e2]
       refine kat_yes (kat_nil ?_)
       have:decide (code p < code q)=false:=decide_eq_false (by rw[hc];omega)
       rw[this] at h
       simpa using h
      ·rw[show (p.2 == q.2)=false by simpa using e2]
       refine kat_no ?_
       show wpAny _ _ (oneLt' false _ _) _ _ _
       refine kat_one _ _ (lt_int ?_)
       have:decide (code p < code q)=decide (p.2 < q.2):=by
        by_cases z:p.2 < q.2
        ·rw[decide_eq_true z];exact decide_eq_true (hc.mpr (.inr ⟨e1,z⟩))
        ·rw[decide_eq_false z];exact decide_eq_false (by rw[hc];omega)
       rw[this] at h;exact h
     ·rw[show (p.1 == q.1)=false by simpa using e1]
      refine kat_no ?_
      show wpAny _ _ (oneLt' true _ _) _ _ _
      refine oneLt_int ?_
      have:decide (code p < code q)=decide (p.1 < q.1):=by
       by_cases z:p.1 < q.1
       ·rw[decide_eq_true z];exact decide_eq_true (hc.mpr (.inl z))
       ·rw[decide_eq_false z];exact decide_eq_false (by rw[hc];omega)
      rw[this] at h;exact h
theorem yr:∀{vs:List Value} {ps:List Pr},cF prog w s.heap vs ps->∃fs,KatTups s.heap vs fs/\fs.length=vs.length/\∀v∈fs,∃(i:Int) (t:Tok),v=.int i t
 | [],ps,_=>⟨[],KatTups.nil,rfl,fun v hv=>by cases hv⟩
 |v :: vs,[],h=>by have:=h.1;simp at this
 |v :: vs,p :: ps,h=>by
  obtain⟨a,rfl,⟨o,items,n,ho,hc,hd,hi⟩,_⟩:=h.2 0 v p rfl rfl
  obtain⟨fs,k,e,f⟩:=yr (vs:=vs) (ps:=ps) ⟨by simpa using h.1,fun i v p h1 h2=>h.2 (i + 1) v p (by simpa using h1) (by simpa using h2)⟩
  obtain⟨l1,rfl⟩:∃l,items=List.toArray l:=⟨items.toList,by simp⟩
  simp only[List.toList_toArray] at hi
  cases hi with
  | @cons _ v1 _ _ h1 hi=>
   obtain⟨t1,rfl⟩:=Value.isInt_shape h1
   exact⟨_ :: fs,KatTups.cons ho hc hd rfl k,by simp[e],fun v hv=>by
    rcases List.mem_cons.mp hv with z |z
    ·exact⟨_,_,z⟩
    ·exact f v z⟩
theorem uc {a:Addr}{vs:List Value}{ps:List Pr}{n:Nat}{P:PySem.Fin->Shared->Prop}(ho:s.heap.get? a=some (seqObj "list" vs.toArray n))(hps:cF prog w s.heap vs ps)(nd:ps.Nodup)(h64:vs.length < 64)
  (h:∀(h':Heap) (c:Nat) (ix:Array Nat),L2.SO.Pm vs.length ix->L2.SO.Up (pU ps) ix vs.length->(∀b o,b≠a->s.heap.get? b=some o->h'.get? b=some o)->
   h'.get? a=some (seqObj "list" (ix.toList.map fun i=>vs.getD i Value.none).toArray c)->P (.done (.ret .none)) {s with heap:=h'}) :
  wpAny (model prog w) A (Builtin.«list.sort» ⟨[.ref a],[]⟩) P E s:=by
 have ha:a < s.heap.objs.size:=Heap.lt_size ho
 obtain⟨e1,ho1⟩:∃e1,(s.heap.update a (Obj.mapSeq fun _=>(#[]:Array Value))).get? a=some (seqObj "list" #[] e1):=⟨_,get?_update_seq ho fun _=>#[]⟩
 generalize hH1:(s.heap.update a (Obj.mapSeq fun _=>(#[]:Array Value)))=H1 at ho1
 have sb1:Heap.SameBut a s.heap H1:=by rw[<-hH1];exact Heap.SameBut.update ..
 have kp2:∀b o,H1.get? b=some o->((H1.push (seqObj "tuple" vs.toArray 0)).push (seqObj "list" #[] 0)).get? b=some o:=fun b o e=>Heap.get?_push_of_some _ (Heap.get?_push_of_some _ e)
 generalize hH2:((H1.push (seqObj "tuple" vs.toArray 0)).push (seqObj "list" #[] 0))=H2 at kp2
 have kp:∀b o,b≠a->s.heap.get? b=some o->H2.get? b=some o:=fun b o hb e=>kp2 b o ((sb1.2 b hb).trans e)
 have ho2:=kp2 _ _ ho1
 have hps2:cF prog w H2 vs ps:=⟨hps.1,fun i v p h1 h2=>by
  obtain⟨b,e,⟨o,it,m,hb,hc,hd,r⟩,hs⟩:=hps.2 i v p h1 h2
  refine⟨b,e,⟨o,it,m,kp b o (fun z=>?_) hb,hc,hd,r⟩,hs⟩
  subst z
  rw[ho] at hb;cases hb
  exact absurd hc (by simp[seqObj])⟩
 have hz:vs.length<=sizeLine:=by rw[sizeLine_eq];omega
 rw[list_sort_plain]
 refine wpAny_bind (listItems_at ho rfl (wpAny_bind (listUpdate_at ho rfl ?_ (by simpa using hz) (Nat.zero_le _))))
 rw[hH1]
 refine wpAny_bind (seqEpoch_at (s:={s with heap:=H1}) ho1 rfl (wpAny_bind (wpAny_newTuple ?_ (by simpa using hz))))
 refine wpAny_bind (wpAny_newList ?_ (Nat.zero_le _))
 refine wpAny_holding ?_
 show wpAny (model prog w) A _ P E {s with heap:=(H1.push (seqObj "tuple" vs.toArray 0)).push (seqObj "list" #[] 0)}
 rw[hH2]
 have fin:∀(ix:Array Nat) (st:SortSt),L2.SO.Pm vs.length ix->L2.SO.Up (pU ps) ix vs.length->(arrOf st).map (·.2)=List.toArray (ix.toList.map fun i=>vs.getD i Value.none)->failedOf st=none->
   wpAny (model prog w) A (do
    let sorted:=(arrOf st).map (·.2)
    let touched:=(<-seqEpoch a) != e1
    Builtin.List.listUpdate (.ref a) fun _=>sorted
    if let some e:=failedOf st then rule "list.sort.comparison-raised";throw e
    if touched then rule "list.sort.modified";raiseError "ValueError" "list modified during sort"
    ret .none) P E {s with heap:=H2}:=fun ix st P1 U1 hout hf=>by
  dsimp only
  rw[hout]
  have hsz:(List.toArray (ix.toList.map fun i=>vs.getD i Value.none)).size=vs.length:=by simp[P1.sz]
  refine wpAny_bind (seqEpoch_at (s:={s with heap:=H2}) ho2 rfl ?_)
  refine wpAny_bind (listUpdate_at (s:={s with heap:=H2}) ho2 rfl ?_ (Nat.zero_le _) (Nat.le_trans (Nat.le_of_eq hsz) (Nat.le_succ_of_le hz)))
  rw[hf]
  simp only[bne_self_eq_false,Bool.false_eq_true,if_false]
  obtain⟨c2,hc2⟩:∃c2,(H2.update a (Obj.mapSeq fun _=>List.toArray (ix.toList.map fun i=>vs.getD i Value.none))).get? a=some (seqObj "list" (List.toArray (ix.toList.map fun i=>vs.getD i Value.none)) c2):=⟨_,get?_update_seq ho2 fun _=>List.toArray (ix.toList.map fun i=>vs.getD i Value.none)⟩
  exact wpAny_pure (h _ c2 ix P1 U1 (fun b o hb e=>((Heap.SameBut.update H2 a _).2 b hb).trans (kp b o hb e)) hc2)
 by_cases h2:vs.length < 2
 ·have h2':vs.toArray.size < 2:=by simpa using h2
  dsimp only
  rw[if_pos h2',if_pos h2']
  refine wpAny_bind (wpAny_pure ?_)
  rw[StateT.run_pure]
  refine wpAny_bind (wpAny_pure ?_)
  refine fin (List.toArray (List.range vs.length)) (SortSt.mk' general' (vs.toArray.zip vs.toArray) #[] 7 none) (L2.SO.uj _) (fun i j hij hj=>by omega) ?_ rfl
  have:∀{l:List Value},l.length < 2->((l.toArray.zip l.toArray).map (·.2))=List.toArray ((List.range l.length).map fun i=>l.getD i Value.none):=fun {l} hl=>by
   match l,hl with
   | [],_=>simp
   | [x],_=>simp
  exact (this h2).trans (by simp)
 ·have h2':¬vs.toArray.size < 2:=by simpa using h2
  dsimp only
  rw[if_neg h2',if_neg h2']
  obtain⟨fs,kt,fl,ff⟩:=yr (s:={s with heap:=H2}) hps2
  refine wpAny_bind (kat_kind (s:={s with heap:=H2}) (T:=.type "int") kt (by omega) (fun v hv=>?_) (by decide) ?_)
  ·obtain⟨i,t,rfl⟩:=ff v hv
   exact .now
  ·rw[show ((Value.type "int" != Value.type "tuple"):Bool)=true by decide]
   have hinj:L2.SO.Inj vs.length (pU ps):=by
    rw[hps.1]
    refine Bi nd fun p hp=>?_
    obtain⟨i,hi,e⟩:=List.mem_iff_getElem.mp hp
    have hi':i < vs.length:=by rw[hps.1];exact hi
    obtain⟨_,_,_,hs⟩:=hps.2 i vs[i] p (List.getElem?_eq_getElem hi') (by rw[List.getElem?_eq_getElem hi,e])
    exact hs
   obtain⟨ix,⟨er,ok⟩,P1,U1⟩:=L2.SO.zh hinj (by omega)
   refine wpAny_bind (wpAny_mono (kat_run (s:={s with heap:=H2}) (κ:=tuples' true) (ks:=vs) (Q:=fun st s'=>s'={s with heap:=H2}/\arrOf st=ix.map (kas_item (vs.toArray.zip vs.toArray))/\failedOf st=none)
    (G:=fun p s'=>p=ix/\s'={s with heap:=H2}) rfl (by omega) h64 (fun p st s' a1 a2 a3 a4=>?_) (L2.SO.wp_run (n:=vs.length) (lt:=L2.SO.ng (pU ps)) _ (fun i j C hi hj hC=>?_) ok ⟨er,rfl⟩)) ?_ fun _ _ x=>x)
   ·obtain⟨rfl,rfl⟩:=a4
    exact⟨rfl,a2,a3⟩
   ·unfold kas_ask
    have hi':i < ps.length:=by rw[<-hps.1];exact hi
    have hj':j < ps.length:=by rw[<-hps.1];exact hj
    obtain⟨b1,eb1,hb1,s1⟩:=hps2.2 i vs[i] ps[i] (List.getElem?_eq_getElem hi) (List.getElem?_eq_getElem hi')
    obtain⟨b2,eb2,hb2,s2⟩:=hps2.2 j vs[j] ps[j] (List.getElem?_eq_getElem hj) (List.getElem?_eq_getElem hj')
    have e1:vs.getD i Value.none=.ref b1:=by rw[<-eb1];simp[hi]
    have e2:vs.getD j Value.none=.ref b2:=by rw[<-eb2];simp[hj]
    rw[e1,e2]
    refine Er (s:={s with heap:=H2}) hb1 hb2 s1 s2 ?_
    have:L2.SO.ng (pU ps) i j=decide (code ps[i] < code ps[j]):=by
     unfold L2.SO.ng pU;simp[hi',hj']
    rw[<-this];exact hC
   ·rintro⟨⟨⟩,st⟩ s' ⟨rfl,har,hf⟩
    exact fin ix st P1 U1 (kat_snds rfl har) hf
end
end L2.ST

end

section
namespace L2.ST
open PySem PySem.SetTable PySem.W PyProof.Rows
theorem bK:Slot "set_iterator" "__next__" "set_iterator.__next__":=
 Slot.of (owner:="set_iterator") (n:="__next__") (by rw[typeLookup_type,builtinLookup_eq_fast];kernel_rfl) (by decide +kernel) (by decide +kernel) (by decide +kernel) (by first |exact .inl (by decide +kernel) |exact .inr (by decide +kernel)) (by rw[isSubtype_type];kernel_rfl)
theorem iJ:entryFor table "set_iterator.__next__"=some Builtin.«set_iterator.__next__»:=entryFor_of_tree (by kernel_rfl)
theorem jx (a:Value):argsOk "set_iterator.__next__" ⟨[a],[]⟩:=by unfold argsOk;kernel_rfl
theorem oz:entryFor table "set.__iter__"=some Builtin.«frozenset.__iter__»:=entryFor_alias (id':="frozenset.__iter__") (by kernel_rfl) rfl (by decide +kernel) (by kernel_rfl)
theorem jB:Slot "set_iterator" "__iter__" "set_iterator.__iter__":=
 Slot.of (owner:="set_iterator") (n:="__iter__") (by rw[typeLookup_type,builtinLookup_eq_fast];kernel_rfl) (by decide +kernel) (by decide +kernel) (by decide +kernel) (by first |exact .inl (by decide +kernel) |exact .inr (by decide +kernel)) (by rw[isSubtype_type];kernel_rfl)
theorem mL:entryFor table "set_iterator.__iter__"=some Builtin.«dict_keyiterator.__iter__»:=entryFor_alias (id':="dict_keyiterator.__iter__") (by kernel_rfl) rfl (by decide +kernel) (by kernel_rfl)
theorem nt (a:Value):argsOk "set_iterator.__iter__" ⟨[a],[]⟩:=by unfold argsOk;kernel_rfl
theorem D8 (a:Addr)(slot given ep0:Nat):setNext a slot given ep0=(do
  let (es,epoch,t) <-setState a
  if (<-ask).params.followText "set-order" then
   if epoch != ep0 then unsupported "set_iterator.__next__:elements-changed"
   return ((<-setWalk a)[given]?).map fun e=>(e.2,slot)
  if !t.plain && es.size > 1 then unsupported "set_iterator.__next__:the-table-is-plain-no-more"
  let u:Unit <-(show Sem Unit from do if !t.led && !es.isEmpty then unsupported "set:maker-not-led")
  let i:=SetTable.below t.place slot
  return match es[i]?,t.place[i]? with
   |some (_,x),some j=>some (x,j + 1)
   |_,_=>none):=by
 unfold setNext setsByText
 simp only[bind_assoc,pure_bind]
 rfl
theorem EE (a:Addr):setWalk a=(do
  let (es,epoch,t) <-setState a
  if (<-ask).params.followText "set-order" then return pickOrder ((<-ask).params.setOrder a epoch) es
  if !t.plain && es.size > 1 then return (<-drawOrder es.size es.toList).toArray
  let u:Unit <-(show Sem Unit from do if !t.led && es.size > 1 then unsupported "set:maker-not-led")
  return es):=by
 unfold setWalk setsByText
 simp only[bind_assoc,pure_bind]
 rfl
theorem Au (a:Addr):setDrawn a=(do
  let (es,_,t) <-setState a
  let byText <-(do return (<-ask).params.followText "set-order")
  return !byText && (!t.plain && es.size > 1)):=rfl
theorem gE {α:Type}:∀(l:List α) (i:Nat) (h:i < l.length),(l[i] :: l.eraseIdx i).Perm l
 |a :: l,0,_=>List.Perm.refl _
 |a :: l,i + 1,h=>by
  have hi:i < l.length:=by simpa using h
  show (l[i] :: a :: l.eraseIdx i).Perm (a :: l)
  exact (List.Perm.swap ..).trans ((gE l i hi).cons a)
theorem rl {α:Type}(next:Nat->Nat):∀(fuel k:Nat) (left:List α) (out:Array α),left.length=fuel->(pickOrder.go next fuel k left out).toList.Perm (out.toList ++ left)
 | 0,k,left,out,h=>by
  have:left= []:=List.length_eq_zero_iff.mp h
  subst this
  unfold pickOrder.go
  simp
 |fuel + 1,k,left,out,h=>by
  unfold pickOrder.go
  have hlt:next k % left.length < left.length:=Nat.mod_lt _ (by omega)
  rw[List.getElem?_eq_getElem hlt]
  dsimp only
  refine (rl next fuel (k + 1) _ _ (by rw[List.length_eraseIdx_of_lt hlt];omega)).trans ?_
  rw[Array.toList_push,List.append_assoc]
  refine List.Perm.append_left _ ?_
  exact gE left _ hlt
theorem jU {α:Type}(next:Nat->Nat)(xs:Array α):(pickOrder next xs).toList.Perm xs.toList:=by
 have:=rl next xs.size 0 xs.toList #[] (by simp)
 simpa[pickOrder] using this
section
variable {prog:Program}{w:World}{A:Around}{E:Value->Shared->Prop}{s:Shared}
def told (w:World)(S:Addr)(ep:Nat)(es:Array (Int×Value)):Array (Int×Value):=if w.params.followText "set-order" then pickOrder (w.params.setOrder S ep) es else es
theorem rf (w:World)(S:Addr)(ep:Nat)(es:Array (Int×Value)):(told w S ep es).toList.Perm es.toList:=by
 unfold told;split
 ·exact jU _ _
 ·exact List.Perm.refl _
abbrev u6 (S:Addr)(slot k n ep:Nat):Obj:={cls:=.type "set_iterator",data:=.fields #[.int (slot:Int) 0,.int (k:Int) 0,.ref S,.int (n:Int) 0,.int (ep:Int) 0]}
structure lD (w:World)(S:Addr)(o:Obj)(es:Array (Int×Value))(ep:Nat)(t:SetTable)(I:Addr)(k:Nat)(h:Heap):Prop where
 set:h.get? S=some o
 data:o.data=.set es ep t
 cls:o.cls=.type "set"
 tab:Tab t (es.toList.map (·.1))
 led:t.led=fH w
 it:∃slot,h.get? I=some (u6 S slot k es.size ep)/\(fH w=true->slot=if k=0 then 0 else t.place.getD (k - 1) 0 + 1)
theorem lD.fits {S I:Addr}{o:Obj}{es:Array (Int×Value)}{ep k:Nat}{t:SetTable}{h:Heap}(X:lD w S o es ep t I k h):t.fits es.size=true:=n9 X.tab (by simp)
theorem yx {S I:Addr}{o:Obj}{es:Array (Int×Value)}{ep k slot:Nat}{t:SetTable}{Q:Option (Value×Nat)->Shared->Prop}(X:lD w S o es ep t I k s.heap)(hk:k<=es.size)(hs:fH w=true->slot=if k=0 then 0 else t.place.getD (k - 1) 0 + 1)
  (h:∀(r:Option (Value×Nat)),(k < es.size->∃x nx,r=some (x,nx)/\(told w S ep es)[k]?.map (·.2)=some x/\(fH w=true->nx=t.place.getD k 0 + 1))->(k=es.size->r=none)->Q r s) :
  wpAny (model prog w) A (setNext S slot k ep) Q E s:=by
 rw[D8]
 refine wpAny_bind (wpAny_setState_of X.set X.data X.fits ?_)
 dsimp only
 refine wpAny_bind (wpAny_askSetting ?_)
 dsimp only
 cases hb:w.params.followText "set-order" with
 |true=>
  rw[if_pos (show (model prog w).w.params.followText "set-order"=true from hb)]
  simp only[bne_self_eq_false,Bool.false_eq_true,if_false]
  rw[EE]
  refine wpAny_bind (wpAny_bind (wpAny_setState_of X.set X.data X.fits ?_))
  dsimp only
  refine wpAny_bind (wpAny_askSetting ?_)
  dsimp only
  rw[if_pos (show (model prog w).w.params.followText "set-order"=true from hb)]
  refine wpAny_bind (wpAny_askSetting (wpAny_pure (wpAny_pure ?_)))
  have et:told w S ep es=pickOrder (w.params.setOrder S ep) es:=by unfold told;rw[if_pos hb]
  have hsz:(pickOrder (w.params.setOrder S ep) es).size=es.size:=by
   have:=(jU (w.params.setOrder S ep) es).length_eq;simpa using this
  refine h _ (fun hlt=>?_) (fun e=>?_)
  ·have hlt':k < (pickOrder (w.params.setOrder S ep) es).size:=by rw[hsz];exact hlt
   refine⟨(pickOrder (w.params.setOrder S ep) es)[k].2,slot,?_,?_,fun z=>?_⟩
   ·show Option.map _ (pickOrder (w.params.setOrder S ep) es)[k]? =_
    rw[Array.getElem?_eq_getElem hlt'];rfl
   ·rw[et,Array.getElem?_eq_getElem hlt'];rfl
   ·unfold fH at z;rw[hb] at z;cases z
  ·show Option.map _ (pickOrder (w.params.setOrder S ep) es)[k]? =_
   rw[Array.getElem?_eq_none (by rw[hsz];omega)];rfl
 |false=>
  rw[if_neg (show ¬(model prog w).w.params.followText "set-order"=true by intro z;rw[show (model prog w).w.params.followText "set-order"=false from hb] at z;cases z)]
  have hl:fH w=true:=by unfold fH;rw[hb];rfl
  rw[X.tab.plain,X.led,hl]
  simp only[Bool.not_true,Bool.false_and,Bool.false_eq_true,if_false]
  have et:told w S ep es=es:=by unfold told;rw[hb];simp
  have hps:t.place.size=es.size:=by simpa using X.tab.size
  have hbl:below t.place slot=k:=by
   rw[hs hl]
   obtain⟨b1,b2,b3⟩:=c6 X.tab.rise (if k=0 then 0 else t.place.getD (k - 1) 0 + 1)
   by_cases k0:k=0
   ·subst k0
    simp only[if_true] at b1 b2 b3 ⊢
    rcases Nat.eq_zero_or_pos (below t.place 0) with z |z
    ·exact z
    ·have:=b2 0 z;omega
   ·rw[if_neg k0] at b1 b2 b3 ⊢
    have hk1:k - 1 < t.place.size:=by omega
    rcases Nat.lt_trichotomy (below t.place (t.place.getD (k - 1) 0 + 1)) k with z |z |z
    ·have q:=b3 (k - 1) (by omega) hk1
     have e:t.place.getD (k - 1) (t.place.getD (k - 1) 0 + 1)=t.place.getD (k - 1) 0:=by simp[Array.getD,hk1]
     omega
    ·exact z
    ·have hks:k < t.place.size:=by omega
     have q:=b2 k z
     have e:t.place.getD k (t.place.getD (k - 1) 0 + 1)=t.place.getD k 0:=by simp[Array.getD,hks]
     have:=g7 (d:=0) X.tab.rise (show k - 1 < k by omega) hks
     omega
  refine wpAny_pure ?_
  rw[hbl]
  refine h _ (fun hlt=>?_) (fun e=>?_)
  ·have hlt2:k < t.place.size:=by omega
   refine⟨es[k].2,t.place[k] + 1,?_,?_,fun _=>?_⟩
   ·rw[Array.getElem?_eq_getElem hlt,Array.getElem?_eq_getElem hlt2]
   ·rw[et,Array.getElem?_eq_getElem hlt];rfl
   ·simp[Array.getD,hlt2]
  ·rw[Array.getElem?_eq_none (by omega)]
theorem zG {S I:Addr}{o:Obj}{es:Array (Int×Value)}{ep:Nat}{t:SetTable}(hh:A.handled=none)(hne:S≠I) :
  Walks prog w A I [I,S] [I] es.size (fun i v=>(told w S ep es)[i]?.map (·.2)=some v) (fun i h=>lD w S o es ep t I i h) where
 sub:=fun b hb=>List.mem_cons.mpr (.inl (List.mem_singleton.mp hb))
 frame:=fun i h h' X k=>by
  obtain⟨slot,e,r⟩:=X.it
  exact⟨k S (by simp) _ X.set,X.data,X.cls,X.tab,X.led,slot,k I (by simp) _ e,r⟩
 item:=fun i s Q E hi X hQ=>by
  obtain⟨slot,e,r⟩:=X.it
  have hT:s.TypeIs (.ref I) "set_iterator":=⟨_,e,rfl⟩
  unfold pyNext
  refine wpAny_bind (wpAny_attempt (wpAny_callSpecial?_slot (name:=Str.ofString "__next__") hT bK (wpAny_call_entry bK hT iJ ?_ (jx _))))
  unfold Builtin.«set_iterator.__next__»
  refine wpAny_bind (m:=slotArgs "__next__" 0 _) (wpAny_pure ?_)
  dsimp only
  unfold fieldsOf
  refine wpAny_bind (wpAny_bind (wpAny_load e (wpAny_pure ?_)))
  dsimp only
  unfold setEntries
  refine wpAny_bind (wpAny_bind (wpAny_setState_of X.set X.data X.fits (wpAny_pure ?_)))
  dsimp only
  rw[if_neg (by simp)]
  refine wpAny_bind ?_
  simp only[Int.toNat_natCast]
  refine yx X (Nat.le_of_lt hi) r fun rr h1 _=>?_
  obtain⟨x,nx,rfl,h2,h3⟩:=h1 hi
  dsimp only
  refine wpAny_bind (wpAny_setField e rfl (by simp) ?_)
  have e2:=Heap.get?_update_self (Obj.mapFields fun vs=>vs.setIfInBounds 0 (rawInt (nx:Int))) e rfl
  refine wpAny_bind (wpAny_setField e2 rfl (by simp) ?_)
  refine wpAny_pure ⟨x,rfl,wpAny_pure ?_⟩
  have sb:=(Heap.SameBut.update s.heap I (Obj.mapFields fun vs=>vs.setIfInBounds 0 (rawInt (nx:Int)))).trans (Heap.SameBut.update _ I (Obj.mapFields fun vs=>vs.setIfInBounds 1 (rawInt ((i:Int) + 1))))
  refine hQ x _ _ h2 ⟨(sb.2 S hne).trans X.set,X.data,X.cls,X.tab,X.led,nx,?_,fun z=>?_⟩ fun b o hb eb=>(sb.2 b (by simpa using hb)).trans eb
  ·exact Heap.get?_update_self (Obj.mapFields fun vs=>vs.setIfInBounds 1 (rawInt ((i:Int) + 1))) e2 rfl
  ·rw[if_neg (by omega)];exact h3 z
 done:=fun s Q E X hQ=>by
  obtain⟨slot,e,r⟩:=X.it
  have hT:s.TypeIs (.ref I) "set_iterator":=⟨_,e,rfl⟩
  unfold pyNext
  refine wpAny_bind (wpAny_attempt (wpAny_callSpecial?_slot (name:=Str.ofString "__next__") hT bK (wpAny_call_entry bK hT iJ ?_ (jx _))))
  unfold Builtin.«set_iterator.__next__»
  refine wpAny_bind (m:=slotArgs "__next__" 0 _) (wpAny_pure ?_)
  dsimp only
  unfold fieldsOf
  refine wpAny_bind (wpAny_bind (wpAny_load e (wpAny_pure ?_)))
  dsimp only
  unfold setEntries
  refine wpAny_bind (wpAny_bind (wpAny_setState_of X.set X.data X.fits (wpAny_pure ?_)))
  dsimp only
  rw[if_neg (by simp)]
  refine wpAny_bind ?_
  simp only[Int.toNat_natCast]
  refine yx X (Nat.le_refl _) r fun rr _ h1=>?_
  rw[h1 rfl]
  dsimp only
  refine wpAny_bind (wpAny_setField e rfl (by simp) ?_)
  (show wpAny _ _ (newExc (.type "StopIteration") [] >>= fun x=>raiseNew x) _ _ _)
  refine wpAny_bind ?_
  simp only[newExc,newTuple]
  (refine wpAny_bind (wpAny_newObj_type ?_ (by size_fits)))
  (refine wpAny_bind (m:=firstArgMember _ _) (wpAny_of_eq (a:=Value.none) (by first |rfl | (simp only[firstArgMember];rfl)) ?_))
  (refine wpAny_newObj_type ?_ (by size_fits))
  simp only[raiseNew]
  refine wpAny_bind (wpAny_handled ?_)
  (rw[show A.in1.handled=none from hh])
  refine wpAny_bind (wpAny_pure (wpAny_throw ?_))
  refine wpAny_bind (wpAny_isInstance (T:="StopIteration") (b:=true) ⟨_,Heap.get?_push_size _ rfl,rfl⟩ isSubtype_stop (wpAny_pure (hQ _ _ fun b o hb eb=>?_)))
  exact Heap.get?_push_of_some _ (Heap.get?_push_of_some _ (((Heap.SameBut.update ..).2 b (by simpa using hb)).trans eb))
 self:=fun i s Q E X hQ=>by
  obtain⟨slot,e,r⟩:=X.it
  have hT:s.TypeIs (.ref I) "set_iterator":=⟨_,e,rfl⟩
  refine wpAny_pyIter_slot hT jB (wpAny_call_entry jB hT mL ?_ (nt _))
  show wpAny _ _ (ret (.ref I)) _ _ s
  exact wpAny_pure ⟨_,rfl,"set_iterator",_,hT,bK.lookup,hQ⟩
theorem BR {S:Addr}{o:Obj}{es:Array (Int×Value)}{ep:Nat}{t:SetTable}{Q:Value->Shared->Prop}(ho:s.heap.get? S=some o)(hd:o.data=.set es ep t)(hc:o.cls=.type "set")(T:Tab t (es.toList.map (·.1)))(hl:t.led=fH w)
  (h:Q (.ref s.heap.objs.size) {s with heap:=s.heap.push (u6 S 0 0 es.size ep)}):wpAny (model prog w) A (pyIter (.ref S)) Q E s:=by
 have hT:s.TypeIs (.ref S) "set":=⟨o,ho,hc⟩
 have hf:t.fits es.size=true:=n9 T (by simp)
 refine wpAny_pyIter_slot hT F.slot_set_iter (wpAny_call_entry F.slot_set_iter hT oz ?_ (F.args_set_iter_1 _))
 unfold Builtin.«frozenset.__iter__» Builtin.Frozenset.slot0
 refine wpAny_bind (wpAny_bind (m:=slotArgs "__iter__" 0 _) (wpAny_pure (wpAny_pure ?_)))
 unfold Builtin.Frozenset.sizeOf setEntries
 refine wpAny_bind (wpAny_bind (wpAny_bind (wpAny_setState_of ho hd hf (wpAny_pure (wpAny_pure ?_)))))
 rw[Au]
 refine wpAny_bind (wpAny_bind (wpAny_setState_of ho hd hf ?_))
 dsimp only
 refine wpAny_bind (wpAny_bind (wpAny_askSetting (wpAny_pure (wpAny_pure ?_))))
 rw[T.plain]
 simp only[Bool.not_true,Bool.false_and,Bool.and_false,Bool.false_eq_true,if_false]
 refine wpAny_bind (wpAny_pure ?_)
 unfold setEpoch
 refine wpAny_bind (wpAny_bind (wpAny_setState_of ho hd hf (wpAny_pure ?_)))
 refine wpAny_bind (wpAny_newObj_type (wpAny_pure ⟨_,rfl,"set_iterator",_,⟨_,Heap.get?_push_size _ rfl,rfl⟩,bK.lookup,h⟩))
theorem uS {S:Addr}{o:Obj}{es:Array (Int×Value)}{ep:Nat}{t:SetTable}{Q:List Value->Shared->Prop}(hh:A.handled=none)(ho:s.heap.get? S=some o)(hd:o.data=.set es ep t)(hc:o.cls=.type "set")(T:Tab t (es.toList.map (·.1)))(hl:t.led=fH w)
  (hn:es.size<=64) (h:∀h' tk vs,vs=(told w S ep es).toList.map (·.2)->(∀b o,s.heap.get? b=some o->h'.get? b=some o)->Q vs {s with heap:=h',toks:=tk}):wpAny (model prog w) A (collect (.ref S)) Q E s:=by
 have hz:es.size<=sizeLine:=by rw[sizeLine_eq];omega
 unfold collect
 (refine wpAny_bind (wpAny_runValue (codeAny_builtin F.entry_proto_collect ?_)))
 (rw[Around.under_plainId F.plain_proto_collect _])
 show wpAny _ A.in1 (newList [] >>= fun l=>again (.builtin "list.__iadd__" ⟨[l,.ref S],[]⟩)) _ _ s
 refine wpAny_bind (wpAny_newObj_type ?_)
 (refine wpAny_pure ⟨plainId_quiet F.plain_list_iadd _,codeAny_builtin F.entry_list_iadd ?_⟩)
 (rw[Around.under_plainId F.plain_list_iadd _])
 show wpAny _ A.in1 (Builtin.List.listExtendWith (.ref s.heap.objs.size) (.ref S) (.ref s.heap.objs.size)) _ _ {s with heap:=s.heap.push (seqObj "list" #[] 0)}
 generalize hH:s.heap.push (seqObj "list" #[] 0)=H1
 have kp1:∀b o,s.heap.get? b=some o->H1.get? b=some o:=fun b o e=>by rw[<-hH];exact Heap.get?_push_of_some _ e
 have hD:H1.get? s.heap.objs.size=some (seqObj "list" #[] 0):=by rw[<-hH];exact Heap.get?_push_size _ rfl
 have hHs:H1.objs.size=s.heap.objs.size + 1:=by rw[<-hH];exact Heap.size_push ..
 have hSD:S≠s.heap.objs.size:=Nat.ne_of_lt (Heap.lt_size ho)
 have hT:Shared.TypeIs {s with heap:=H1} (.ref S) "set":=⟨o,kp1 _ _ ho,hc⟩
 unfold Builtin.List.listExtendWith
 refine wpAny_bind (wpAny_typeOf hT ?_)
 have h1:Builtin.List.listSameRef (.ref s.heap.objs.size) (.ref S)=false:=by simp[Builtin.List.listSameRef,Ne.symm hSD]
 have h2:(Value.type "set" == Value.type "list")=false:=by decide
 have h3:(Value.type "set" == Value.type "tuple")=false:=by decide
 rw[h1,h2,h3]
 simp only[Bool.or_false,Bool.false_eq_true,if_false]
 refine wpAny_bind (BR (s:={s with heap:=H1}) (kp1 _ _ ho) hd hc T hl ?_)
 refine wpAny_bind (wpAny_holding ?_)
 unfold Builtin.List.listLengthHint
 have hT2:Shared.TypeIs {s with heap:=H1.push (u6 S 0 0 es.size ep)} (.ref S) "set":=⟨o,Heap.get?_push_of_some _ (kp1 _ _ ho),hc⟩
 refine wpAny_bind (wpAny_specialOf hT2 F.slot_set_len.lookup ?_)
 wp_delta
 refine wpAny_bind (wpAny_isInstance hT2 (b:=true) (by rw[isSubtype_type];kernel_rfl) ?_)
 show wpAny _ A.in1 (typeOf (Value.ref S) >>= fun _=>_) _ _ _
 refine wpAny_bind (wpAny_typeOf hT2 ?_)
 refine wpAny_pure ?_
 show wpAny _ A.in1 (rule "list.extend.makes-room" >>= fun _=>Builtin.List.listTouch (.ref s.heap.objs.size) >>= fun _=>again (.builtin "list.extend.loop" ⟨[.ref s.heap.objs.size,.ref H1.objs.size,.ref s.heap.objs.size],[]⟩)) _ _ _
 refine wpAny_bind (wpAny_rule (wpAny_bind ?_))
 generalize hH2:H1.push (u6 S 0 0 es.size ep)=H2
 have kp2:∀b o,H1.get? b=some o->H2.get? b=some o:=fun b o e=>by rw[<-hH2];exact Heap.get?_push_of_some _ e
 have hI:H2.get? H1.objs.size=some (u6 S 0 0 es.size ep):=by rw[<-hH2];exact Heap.get?_push_size _ rfl
 have hS0:=kp2 _ _ hD
 show wpAny _ A.in1 (updateSeq s.heap.objs.size (·.push .none) >>= fun _=>updateSeq s.heap.objs.size (·.pop)) _ _ _
 refine wpAny_bind (wpAny_updateSeq (s:={s with heap:=H2}) hS0 rfl ?_)
 have hS2:=Heap.get?_update_self (Obj.mapSeq (·.push Value.none)) hS0 rfl
 refine wpAny_updateSeq (hz:=by seq_fits) hS2 rfl ?_
 have hS3:=Heap.get?_update_self (Obj.mapSeq (·.pop)) hS2 rfl
 have oth:∀b o,b≠s.heap.objs.size->H2.get? b=some o->((H2.update s.heap.objs.size (Obj.mapSeq (·.push Value.none))).update s.heap.objs.size (Obj.mapSeq (·.pop))).get? b=some o:=fun b o hb e=>
  ((Heap.SameBut.update _ s.heap.objs.size (Obj.mapSeq (·.pop))).2 b hb).trans (((Heap.SameBut.update H2 s.heap.objs.size (Obj.mapSeq (·.push Value.none))).2 b hb).trans e)
 have hIS:S≠H1.objs.size:=by rw[hHs];exact Nat.ne_of_lt (Nat.lt_succ_of_lt (Heap.lt_size ho))
 have hID:H1.objs.size≠s.heap.objs.size:=by rw[hHs];exact Nat.succ_ne_self _
 have hDf:s.heap.objs.size∉ [H1.objs.size,S]:=fun z=>by
  rcases List.mem_cons.mp z with e |z
  ·exact hID e.symm
  ·exact hSD (List.mem_singleton.mp z).symm
 have X0:lD w S o es ep t H1.objs.size 0 ((H2.update s.heap.objs.size (Obj.mapSeq (·.push Value.none))).update s.heap.objs.size (Obj.mapSeq (·.pop))):=
  ⟨oth _ _ hSD (kp2 _ _ (kp1 _ _ ho)),hd,hc,T,hl,0,oth _ _ hID hI,fun _=>rfl⟩
 refine wpAny_pure ⟨plainId_quiet F.plain_extend_loop _,codeAny_extend_loopS (zG (A:=A.in1) (o:=o) (t:=t) hh hIS).toS hz _ hDf _ es.size 0 _ _ _ rfl (Nat.zero_le _) X0 hS3 (ItemsOf.nil _) fun s' acc' c' hm hS' hacc=>?_⟩
 show wpAny _ A (load s.heap.objs.size >>= fun _=>_) _ _ s'
 refine wpAny_bind (wpAny_load hS' (wpAny_pure ?_))
 obtain⟨h',g',d',tk',os'⟩:=s'
 have eg:g'=s.gens:=hm.gens
 have ed:d'=s.drawn:=hm.drawn
 have eo:os'=s.os:=hm.os
 subst eg ed eo
 refine h h' tk' acc'.toList ?_ fun b ob e=>hm.heap b ob (fun hb=>?_) (oth b ob (Nat.ne_of_lt (Heap.lt_size e)) (kp2 _ _ (kp1 _ _ e)))
 ·have hts:(told w S ep es).size=es.size:=by have:=(rf w S ep es).length_eq;simpa using this
  apply List.ext_getElem?
  intro i
  rw[List.getElem?_map]
  by_cases hi:i < es.size
  ·have hi1:i < acc'.size:=by rw[hacc.1];exact hi
   have q:=hacc.2 i acc'[i] (Array.getElem?_eq_getElem hi1)
   rw[Array.getElem?_toList,Array.getElem?_toList,Array.getElem?_eq_getElem hi1]
   exact q.symm
  ·rw[Array.getElem?_toList,Array.getElem?_toList,Array.getElem?_eq_none (by rw[hacc.1];omega),Array.getElem?_eq_none (by omega)];rfl
 ·have hlt:=Heap.lt_size e
  rcases List.mem_cons.mp hb with z |z
  ·rw[z] at hlt;exact Nat.lt_irrefl _ hlt
  ·rw[List.mem_singleton.mp z,hHs] at hlt;exact absurd hlt (Nat.not_lt.mpr (Nat.le_succ _))
end
end L2.ST

end

section
namespace OM
abbrev Pr:=Int×Int
def D0 (p q:Pr):Prop:=p.1 < q.1\/(p.1=q.1/\p.2 < q.2)
theorem jk (p:Pr):¬D0 p p:=by unfold D0;omega
theorem zt {p q r:Pr}(a:D0 p q)(b:D0 q r):D0 p r:=by unfold D0 at *;omega
abbrev uC (l:List Pr):Prop:=l.Pairwise D0
theorem gX:∀{l m:List Pr},uC l->uC m->(∀x,x∈l↔x∈m)->l=m
 | [],[],_,_,_=>rfl
 | [],b :: m,_,_,h=>absurd ((h b).mpr (List.mem_cons_self ..)) (by simp)
 |a :: l,[],_,_,h=>absurd ((h a).mp (List.mem_cons_self ..)) (by simp)
 |a :: l,b :: m,hl,hm,h=>by
  have hl':=List.pairwise_cons.mp hl
  have hm':=List.pairwise_cons.mp hm
  have e:a=b:=by
   rcases List.mem_cons.mp ((h a).mp (List.mem_cons_self ..)) with e |e
   ·exact e
   ·rcases List.mem_cons.mp ((h b).mpr (List.mem_cons_self ..)) with e' |e'
    ·exact e'.symm
    ·exact absurd (zt (hm'.1 a e) (hl'.1 b e')) (jk _)
  subst e
  congr 1
  refine gX hl'.2 hm'.2 fun x=>⟨fun hx=>?_,fun hx=>?_⟩
  ·rcases List.mem_cons.mp ((h x).mp (List.mem_cons_of_mem _ hx)) with e |e
   ·subst e;exact absurd (hl'.1 x hx) (jk _)
   ·exact e
  ·rcases List.mem_cons.mp ((h x).mpr (List.mem_cons_of_mem _ hx)) with e |e
   ·subst e;exact absurd (hm'.1 x hx) (jk _)
   ·exact e
theorem gu {l:List Pr}(h:uC l):l.Nodup:=h.imp fun {a b} hab e=>by subst e;exact jk _ hab
theorem kO {l:List Pr}(p:Pr->Bool)(h:uC l):uC (l.filter p):=h.sublist List.filter_sublist
def bR (n:Nat):List Pr:=(List.range (n * n)).map fun k=>(((k / n:Nat):Int),((k % n:Nat):Int))
theorem bO {n:Nat}{p:Pr}:p∈bR n↔(0<=p.1/\p.1 < n)/\(0<=p.2/\p.2 < n):=by
 unfold bR
 rw[List.mem_map]
 constructor
 ·rintro⟨k,hk,rfl⟩
  have hk:=List.mem_range.mp hk
  have hn:0 < n:=by
   rcases Nat.eq_zero_or_pos n with e |e
   ·subst e;omega
   ·exact e
  have h1:k / n < n:=Nat.div_lt_of_lt_mul hk
  have h2:k % n < n:=Nat.mod_lt _ hn
  generalize k / n=q at h1
  generalize k % n=r at h2
  exact⟨⟨Int.natCast_nonneg _,by dsimp only;omega⟩,⟨Int.natCast_nonneg _,by dsimp only;omega⟩⟩
 ·rintro⟨⟨a0,a1⟩,⟨b0,b1⟩⟩
  have hn:0 < n:=by omega
  refine⟨p.1.toNat * n + p.2.toNat,List.mem_range.mpr ?_,?_⟩
  ·have h1:p.1.toNat + 1<=n:=by omega
   have h2:p.2.toNat < n:=by omega
   have:=Nat.mul_le_mul_right n h1
   rw[Nat.add_mul] at this
   omega
  ·have h2:p.2.toNat < n:=by omega
   have e1:(p.1.toNat * n + p.2.toNat) / n=p.1.toNat:=by
    rw[Nat.mul_comm,Nat.mul_add_div hn,Nat.div_eq_of_lt h2];rfl
   have e2:(p.1.toNat * n + p.2.toNat) % n=p.2.toNat:=by
    rw[Nat.mul_comm,Nat.mul_add_mod,Nat.mod_eq_of_lt h2]
   rw[e1,e2]
   refine Prod.ext ?_ ?_ <;> dsimp only <;> omega
theorem lO (n:Nat):uC (bR n):=by
 unfold bR
 refine List.pairwise_map.mpr (List.Pairwise.imp_of_mem ?_ List.pairwise_lt_range)
 intro a b ha hb hab
 have ha:=List.mem_range.mp ha
 have hb:=List.mem_range.mp hb
 have hn:0 < n:=by
  rcases Nat.eq_zero_or_pos n with e |e
  ·subst e;omega
  ·exact e
 have h1:a / n<=b / n:=Nat.div_le_div_right (Nat.le_of_lt hab)
 have e1:=Nat.div_add_mod a n
 have e2:=Nat.div_add_mod b n
 unfold D0
 dsimp only
 rcases Nat.lt_or_ge (a / n) (b / n) with c |c
 ·left;omega
 ·right
  have e:a / n=b / n:=by omega
  rw[e] at e1
  omega
open Classical in
noncomputable def bV (n:Nat)(R:Int->Int->Prop):List Pr:=(bR n).filter fun p=>decide (R p.1 p.2)
theorem a8 {n:Nat}{R:Int->Int->Prop}{p:Pr}:p∈bV n R↔((0<=p.1/\p.1 < n)/\(0<=p.2/\p.2 < n))/\R p.1 p.2:=by
 unfold bV
 rw[List.mem_filter,bO]
 simp
theorem cT (n:Nat)(R:Int->Int->Prop):uC (bV n R):=kO _ (lO n)
theorem xp {n:Nat}{R S:Int->Int->Prop}(h:∀a b:Int,0<=a->a < n->0<=b->b < n->(R a b↔S a b)):bV n R=bV n S:=by
 refine gX (cT n R) (cT n S) fun x=>?_
 rw[a8,a8]
 constructor
 ·rintro⟨⟨⟨a,b⟩,c,d⟩,r⟩;exact⟨⟨⟨a,b⟩,c,d⟩,(h _ _ a b c d).mp r⟩
 ·rintro⟨⟨⟨a,b⟩,c,d⟩,r⟩;exact⟨⟨⟨a,b⟩,c,d⟩,(h _ _ a b c d).mpr r⟩
def Wn (n:Nat)(l:List Pr):Prop:=∀p,p∈l->(0<=p.1/\p.1 < n)/\(0<=p.2/\p.2 < n)
abbrev Mem (l:List Pr)(a b:Int):Prop:=(a,b)∈l
theorem zq {n:Nat}{l:List Pr}(w:Wn n l)(r:uC l):bV n (Mem l)=l:=by
 refine gX (cT n _) r fun x=>?_
 rw[a8]
 exact⟨fun h=>h.2,fun h=>⟨w x h,h⟩⟩
theorem sk (n:Nat)(R:Int->Int->Prop):Wn n (bV n R):=fun _ h=>(a8.mp h).1
theorem Bs (n:Nat)(R:Int->Int->Prop):(bV n R).length<=n * n:=by
 unfold bV
 refine Nat.le_trans (List.length_filter_le ..) ?_
 unfold bR;simp
inductive Tr (R:Int->Int->Prop):Int->Int->Prop
 |one {a b}:R a b->Tr R a b
 |more {a b c}:R a b->Tr R b c->Tr R a c
theorem Tr.trans {R:Int->Int->Prop}{a b c:Int}(h:Tr R a b)(k:Tr R b c):Tr R a c:=by
 induction h with
 |one r=>exact .more r k
 |more r _ ih=>exact .more r (ih k)
theorem Tr.least {R S:Int->Int->Prop}(f:∀a b,R a b->S a b)(t:∀a b c,S a b->S b c->S a c){a b:Int}(h:Tr R a b):S a b:=by
 induction h with
 |one r=>exact f _ _ r
 |more r _ ih=>exact t _ _ _ (f _ _ r) ih
structure Ord (n:Nat)(l:List Pr):Prop where
 lo:1<=n
 hi:n<=8
 wn:Wn n l
 ris:uC l
 irr:∀a,(a,a)∉l
 tr:∀a b c,(a,b)∈l->(b,c)∈l->(a,c)∈l
theorem Ord.tr_mem {n:Nat}{l:List Pr}(O:Ord n l){a b:Int}:Tr (Mem l) a b↔(a,b)∈l:=
 ⟨fun h=>h.least (fun _ _ r=>r) fun a b c=>O.tr a b c,fun h=>.one h⟩
theorem Ord.closed {n:Nat}{l:List Pr}(O:Ord n l):bV n (Tr (Mem l))=l:=by
 rw[xp (S:=Mem l) fun a b _ _ _ _=>O.tr_mem,zq O.wn O.ris]
theorem Fw {n:Nat}{l:List Pr}(h1:1<=n)(h8:n<=8)(w:Wn n l)(hr:∀a,¬Tr (Mem l) a a):Ord n (bV n (Tr (Mem l))):=
 ⟨h1,h8,sk n _,cT n _,fun a h=>hr a (a8.mp h).2,fun a b c h k=>a8.mpr ⟨⟨(a8.mp h).1.1,(a8.mp k).1.2⟩,(a8.mp h).2.trans (a8.mp k).2⟩⟩
theorem mi {l m:List Pr}(hl:l.Nodup)(h:∀x,x∈l->x∈m):l.length<=m.length:=by
 induction l generalizing m with
 |nil=>exact Nat.zero_le _
 |cons a l ih=>
  have ha:=h a (List.mem_cons_self ..)
  have hl':=List.nodup_cons.mp hl
  have:=ih (m:=m.erase a) hl'.2 fun x hx=>by
   refine (List.mem_erase_of_ne ?_).mpr (h x (List.mem_cons_of_mem _ hx))
   rintro rfl;exact hl'.1 hx
  rw[List.length_erase_of_mem ha] at this
  have:0 < m.length:=List.length_pos_of_mem ha
  simp only[List.length_cons];omega
theorem sub_eq {l m:List Pr}(hl:uC l)(hm:uC m)(h:∀x,x∈l->x∈m)(e:l.length=m.length):l=m:=by
 refine gX hl hm fun x=>⟨h x,fun hx=>Classical.byContradiction fun hn=>?_⟩
 have:=mi (l:=x :: l) (m:=m) (List.nodup_cons.mpr ⟨hn,gu hl⟩) fun y hy=>by
  rcases List.mem_cons.mp hy with e |e
  ·subst e;exact hx
  ·exact h y e
 simp only[List.length_cons] at this
 omega
def more (l:List Pr):List Pr:=l.flatMap fun p=>(l.filter fun q=>decide (q.1=p.2)).map fun q=>(p.1,q.2)
theorem pB {l:List Pr}{x:Pr}:x∈more l↔∃b,(x.1,b)∈l/\(b,x.2)∈l:=by
 unfold more
 rw[List.mem_flatMap]
 constructor
 ·rintro⟨p,hp,hx⟩
  obtain⟨q,hq,rfl⟩:=List.mem_map.mp hx
  obtain⟨hq,e⟩:=List.mem_filter.mp hq
  have e:q.1=p.2:=by simpa using e
  exact⟨p.2,hp,by rw[<-e];exact hq⟩
 ·rintro⟨b,h1,h2⟩
  exact⟨(x.1,b),h1,List.mem_map.mpr ⟨(b,x.2),List.mem_filter.mpr ⟨h2,by simp⟩,rfl⟩⟩
noncomputable def j5 (n:Nat)(l:List Pr):List Pr:=bV n (Mem (l ++ more l))
structure Ff (n:Nat)(ps l:List Pr):Prop where
 wn:Wn n l
 ris:uC l
 sub:∀x,x∈ps->x∈l
 sup:∀x,x∈l->Tr (Mem ps) x.1 x.2
theorem zH {n:Nat}{ps:List Pr}(w:Wn n ps):Ff n ps (bV n (Mem ps)):=
 ⟨sk n _,cT n _,fun x hx=>a8.mpr ⟨w x hx,hx⟩,fun _ hx=>.one (a8.mp hx).2⟩
theorem Cj {n:Nat}{ps l:List Pr}(B:Ff n ps l):Wn n (l ++ more l):=fun x hx=>by
 rcases List.mem_append.mp hx with h |h
 ·exact B.wn x h
 ·obtain⟨b,h1,h2⟩:=pB.mp h
  exact⟨(B.wn _ h1).1,(B.wn _ h2).2⟩
theorem uA {n:Nat}{ps l:List Pr}(B:Ff n ps l):Ff n ps (j5 n l)/\∀x,x∈l->x∈j5 n l:=by
 have hs:∀x,x∈l->x∈j5 n l:=fun x hx=>a8.mpr ⟨B.wn x hx,List.mem_append_left _ hx⟩
 refine⟨⟨sk n _,cT n _,fun x hx=>hs x (B.sub x hx),fun x hx=>?_⟩,hs⟩
 rcases List.mem_append.mp (a8.mp hx).2 with h |h
 ·exact B.sup _ h
 ·obtain⟨b,h1,h2⟩:=pB.mp h
  exact (B.sup _ h1).trans (B.sup _ h2)
theorem Bm {n:Nat}{ps l:List Pr}(B:Ff n ps l)(e:(j5 n l).length=l.length):j5 n l=bV n (Tr (Mem ps)):=by
 obtain⟨B2,hs⟩:=uA B
 have q:l=j5 n l:=sub_eq B.ris B2.ris hs e.symm
 refine gX B2.ris (cT n _) fun x=>⟨fun h=>a8.mpr ⟨B2.wn x h,B2.sup x h⟩,fun h=>?_⟩
 rw[<-q]
 have tr:∀a b c:Int,(a,b)∈l->(b,c)∈l->(a,c)∈l:=fun a b c h1 h2=>by
  rw[q]
  exact a8.mpr ⟨⟨(B.wn _ h1).1,(B.wn _ h2).2⟩,List.mem_append_right _ (pB.mpr ⟨b,h1,h2⟩)⟩
 exact (a8.mp h).2.least (S:=Mem l) (fun a b r=>B.sub _ r) tr
abbrev Tb:=Nat->Nat->Bool
def Tb.set (M:Tb)(a b:Nat):Tb:=fun x y=>if x=a/\y=b then true else M x y
def CY (M:Tb)(m:Nat):Prop:=∀k a b,k < m->M a k=true->M k b=true->M a b=true
def Phase (M0 M:Tb)(m:Nat)(D:Nat->Nat->Prop):Prop:=∀a b,M a b=true↔M0 a b=true\/(D a b/\M0 a m=true/\M0 m b=true)
theorem Phase.start (M:Tb)(m:Nat):Phase M M m fun _ _=>False:=fun a b=>by simp
theorem Phase.row {M0 M:Tb}{m:Nat}{D:Nat->Nat->Prop}(P:Phase M0 M m D)(a:Nat):M a m=true↔M0 a m=true:=by
 rw[P]
 exact⟨fun h=>h.elim id fun h=>h.2.1,.inl⟩
theorem Phase.col {M0 M:Tb}{m:Nat}{D:Nat->Nat->Prop}(P:Phase M0 M m D)(b:Nat):M m b=true↔M0 m b=true:=by
 rw[P]
 exact⟨fun h=>h.elim id fun h=>h.2.2,.inl⟩
theorem Phase.step {M0 M:Tb}{m:Nat}{D:Nat->Nat->Prop}(P:Phase M0 M m D)(x y:Nat) :
  Phase M0 (if M x m=true/\M m y=true then M.set x y else M) m (fun a b=>D a b\/(a=x/\b=y)):=fun a b=>by
 have r:=P.row x
 have c:=P.col y
 by_cases h:M x m=true/\M m y=true
 ·rw[if_pos h]
  unfold Tb.set
  by_cases e:a=x/\b=y
  ·rw[if_pos e]
   obtain⟨rfl,rfl⟩:=e
   simp only[true_iff]
   exact .inr ⟨.inr (by simp),r.mp h.1,c.mp h.2⟩
  ·rw[if_neg e,P]
   constructor
   ·rintro (q | ⟨d,q⟩)
    ·exact .inl q
    ·exact .inr ⟨.inl d,q⟩
   ·rintro (q | ⟨d |d,q⟩)
    ·exact .inl q
    ·exact .inr ⟨d,q⟩
    ·exact absurd d e
 ·rw[if_neg h,P]
  constructor
  ·rintro (q | ⟨d,q⟩)
   ·exact .inl q
   ·exact .inr ⟨.inl d,q⟩
  ·rintro (q | ⟨d | ⟨rfl,rfl⟩,q1,q2⟩)
   ·exact .inl q
   ·exact .inr ⟨d,q1,q2⟩
   ·exact absurd ⟨r.mpr q1,c.mpr q2⟩ h
theorem Phase.done {M0 M:Tb}{m n:Nat}{D:Nat->Nat->Prop}(P:Phase M0 M m D)(hD:∀a b,a < n->b < n->D a b)(hM:∀a b,M0 a b=true->a < n/\b < n)(T:CY M0 m) :
  CY M (m + 1)/\∀a b,M a b=true->a < n/\b < n:=by
 have hM':∀a b,M a b=true->a < n/\b < n:=fun a b h=>by
  rcases (P a b).mp h with q | ⟨_,q1,q2⟩
  ·exact hM a b q
  ·exact⟨(hM _ _ q1).1,(hM _ _ q2).2⟩
 have put:∀a b,M0 a m=true->M0 m b=true->M a b=true:=fun a b h1 h2=>(P a b).mpr (.inr ⟨hD a b (hM _ _ h1).1 (hM _ _ h2).2,h1,h2⟩)
 refine⟨fun k a b hk h1 h2=>?_,hM'⟩
 rcases Nat.lt_or_ge k m with c |c
 ·rcases (P a k).mp h1 with q1 | ⟨_,q1,q1'⟩
  ·rcases (P k b).mp h2 with q2 | ⟨_,q2,q2'⟩
   ·exact (P a b).mpr (.inl (T k a b c q1 q2))
   ·exact put a b (T k a m c q1 q2) q2'
  ·rcases (P k b).mp h2 with q2 | ⟨_,q2,q2'⟩
   ·exact put a b q1 (T k m b c q1' q2)
   ·exact put a b q1 q2'
 ·have e:k=m:=by omega
  subst e
  exact put a b ((P.row a).mp h1) ((P.col b).mp h2)
structure Tab (n:Nat)(ps:List Pr)(M:Tb):Prop where
 inn:∀a b,M a b=true->a < n/\b < n
 sub:∀a b:Nat,((a:Int),(b:Int))∈ps->M a b=true
 sup:∀a b:Nat,M a b=true->Tr (Mem ps) a b
theorem Tab.phase {n:Nat}{ps:List Pr}{M0 M:Tb}{m:Nat}{D:Nat->Nat->Prop}(T:Tab n ps M0)(P:Phase M0 M m D):Tab n ps M:=
 ⟨fun a b h=>by
  rcases (P a b).mp h with q | ⟨_,q1,q2⟩
  ·exact T.inn a b q
  ·exact⟨(T.inn _ _ q1).1,(T.inn _ _ q2).2⟩,
  fun a b h=>(P a b).mpr (.inl (T.sub a b h)),
  fun a b h=>by
  rcases (P a b).mp h with q | ⟨_,q1,q2⟩
  ·exact T.sup a b q
  ·exact (T.sup _ _ q1).trans (T.sup _ _ q2)⟩
theorem Tab.all {n:Nat}{ps:List Pr}{M:Tb}(w:Wn n ps)(T:Tab n ps M)(H:CY M n)(a b:Nat):M a b=true↔Tr (Mem ps) a b:=by
 refine⟨T.sup a b,fun h=>?_⟩
 have key:∀{x y:Int},Tr (Mem ps) x y->M x.toNat y.toNat=true:=fun {x y} h=>by
  induction h with
  | @one x y r=>
   have:=w _ r
   refine T.sub _ _ ?_
   have e1:((x.toNat:Nat):Int)=x:=by simp only at this;omega
   have e2:((y.toNat:Nat):Int)=y:=by simp only at this;omega
   rw[e1,e2];exact r
  | @more x y z r _ ih=>
   have:=w _ r
   have e1:((x.toNat:Nat):Int)=x:=by simp only at this;omega
   have e2:((y.toNat:Nat):Int)=y:=by simp only at this;omega
   have q:M x.toNat y.toNat=true:=T.sub _ _ (by rw[e1,e2];exact r)
   exact H y.toNat _ _ (T.inn _ _ q).2 q ih
 have:=key h
 simpa using this
end OM

end

section
namespace L2.ST
open PySem PySem.SetTable PySem.W PyProof.Rows
section
variable {prog:Program}{w:World}{A:Around}{E:Value->Shared->Prop}{s:Shared}
theorem FE {ps:List Pr}(hs:∀p,p∈ps->Sm p){ix:Array Nat}(P:L2.SO.Pm ps.length ix)(U:L2.SO.Up (pU ps) ix ps.length):OM.uC (ix.toList.map fun i=>ps.getD i (0,0)):=by
 refine List.pairwise_map.mpr (List.pairwise_iff_getElem.mpr fun i j hi hj hij=>?_)
 have hi':i < ix.size:=by simpa using hi
 have hj':j < ix.size:=by simpa using hj
 have q:=U i j hij (by rw[<-P.sz];exact hj')
 unfold L2.SO.Kp pU at q
 have ei:ix.getD i 0=ix.toList[i]:=by simp[Array.getD,hi']
 have ej:ix.getD j 0=ix.toList[j]:=by simp[Array.getD,hj']
 rw[ei,ej] at q
 have ai:ix.toList[i] < ps.length:=P.lt _ (by simp)
 have aj:ix.toList[j] < ps.length:=P.lt _ (by simp)
 have bi:Sm (ps.getD ix.toList[i] (0,0)):=by rw[List.getD_eq_getElem?_getD,List.getElem?_eq_getElem ai];exact hs _ (List.getElem_mem ai)
 have bj:Sm (ps.getD ix.toList[j] (0,0)):=by rw[List.getD_eq_getElem?_getD,List.getElem?_eq_getElem aj];exact hs _ (List.getElem_mem aj)
 exact (yA bi bj).mp q
theorem GJ {n:Nat}{ix:Array Nat}(P:L2.SO.Pm n ix){k:Nat}(hk:k < n):k∈ix.toList:=by
 refine Classical.byContradiction fun hn=>?_
 have:=bp (l:=k :: ix.toList) (m:=List.range n) (List.nodup_cons.mpr ⟨hn,P.nd⟩) fun x hx=>by
  rcases List.mem_cons.mp hx with e |e
  ·rw[e];exact List.mem_range.mpr hk
  ·exact List.mem_range.mpr (P.lt x (by simpa using e))
 simp[P.sz] at this
 omega
theorem Ia {h:Heap}{vs:List Value}{ps:List Pr}(hps:cF prog w h vs ps){ix:Array Nat}(P:L2.SO.Pm vs.length ix) :
  cF prog w h (ix.toList.map fun i=>vs.getD i Value.none) (ix.toList.map fun i=>ps.getD i (0,0)):=by
 refine⟨by simp,fun i v p h1 h2=>?_⟩
 rw[List.getElem?_map] at h1 h2
 cases e:ix.toList[i]? with
 |none=>rw[e] at h1;cases h1
 |some k=>
  rw[e] at h1 h2
  have hk:k < vs.length:=P.lt k (by simpa using List.mem_of_getElem? e)
  have hk':k < ps.length:=by rw[<-hps.1];exact hk
  simp[hk,hk'] at h1 h2
  exact hps.2 k v p (by rw[List.getElem?_eq_getElem hk,h1]) (by rw[List.getElem?_eq_getElem hk',h2])
theorem yU {v:Value}{vs:List Value}{ps:List Pr}{Q:Value->Shared->Prop}(hps:cF prog w s.heap vs ps)(nd:ps.Nodup)(h64:vs.length < 64)
  (hcol:∀(Q':List Value->Shared->Prop),(∀h' tk,(∀b o,s.heap.get? b=some o->h'.get? b=some o)->Q' vs {s with heap:=h',toks:=tk})->wpAny (model prog w) A.in1 (collect v) Q' (fun e s'=>E e s') s)
  (h:∀(h1 h':Heap) (tk:Nat) (D:Addr) (out:List Value) (qs:List Pr) (c:Nat),(∀b o,s.heap.get? b=some o->h1.get? b=some o)->D=h1.objs.size->(∀b o,h1.get? b=some o->h'.get? b=some o)->h'.get? D=some (seqObj "list" out.toArray c)->cF prog w h' out qs->(∀u,u∈out->u∈vs)->OM.uC qs->(∀p,p∈qs↔p∈ps)->
   Q (.ref D) {s with heap:=h',toks:=tk}):wpAny (model prog w) A (call (.builtin "sorted") [v]) Q E s:=by
 have hsm:∀p,p∈ps->Sm p:=fun p hp=>by
  obtain⟨i,hi,e⟩:=List.mem_iff_getElem.mp hp
  have hi':i < vs.length:=by rw[hps.1];exact hi
  obtain⟨_,_,_,hs⟩:=hps.2 i vs[i] p (List.getElem?_eq_getElem hi') (by rw[List.getElem?_eq_getElem hi,e])
  exact hs
 (refine Calls.call_function_entry kind_sorted plain_sorted entry_sorted (args_sorted1 _) ?_)
 unfold Builtin.«sorted»
 refine wpAny_bind (m:=checkCount "sorted" 1 1 ([v]:List Value).length) (wpAny_pure ?_)
 refine wpAny_bind (hcol _ fun h1 tk1 k1=>?_)
 have hz:vs.length<=sizeLine:=by rw[sizeLine_eq];omega
 refine wpAny_bind (wpAny_newList ?_ hz)
 show wpAny _ _ _ _ _ {s with heap:=h1.push (seqObj "list" vs.toArray 0),toks:=tk1}
 have hoL:(h1.push (seqObj "list" vs.toArray 0)).get? h1.objs.size=some (seqObj "list" vs.toArray 0):=Heap.get?_push_size _ rfl
 have kp:∀b o,s.heap.get? b=some o->(h1.push (seqObj "list" vs.toArray 0)).get? b=some o:=fun b o e=>Heap.get?_push_of_some _ (k1 b o e)
 have hp1:cF prog w (h1.push (seqObj "list" vs.toArray 0)) vs ps:=⟨hps.1,fun i v p a b=>by
  obtain⟨c,e,⟨o,it,n,ho,r⟩,hs⟩:=hps.2 i v p a b
  exact⟨c,e,⟨o,it,n,kp _ _ ho,r⟩,hs⟩⟩
 have hne:∀b o,s.heap.get? b=some o->b≠h1.objs.size:=fun b o e=>Nat.ne_of_lt (Heap.lt_size (k1 b o e))
 refine wpAny_bind (wpAny_holding (wpAny_call_entry slot_list_sort ⟨_,hoL,rfl⟩ entry_list_sort ?_ (args_list_sort _)))
 refine uc (s:={s with heap:=h1.push (seqObj "list" vs.toArray 0),toks:=tk1}) hoL hp1 nd h64 fun h' c ix P U hk ho=>?_
 refine⟨_,rfl,wpAny_pure ⟨_,rfl,?_⟩⟩
 have kk:∀b o,s.heap.get? b=some o->h'.get? b=some o:=fun b o e=>hk b o (hne b o e) (kp b o e)
 have P':L2.SO.Pm ps.length ix:=by rw[<-hps.1];exact P
 have k2:∀b o,h1.get? b=some o->h'.get? b=some o:=fun b o e=>hk b o (Nat.ne_of_lt (Heap.lt_size e)) (Heap.get?_push_of_some _ e)
 refine h h1 h' tk1 h1.objs.size _ (ix.toList.map fun i=>ps.getD i (0,0)) c k1 rfl k2 ho (Ia ⟨hps.1,fun i v p a b=>?_⟩ P) (fun u hu=>?_) (FE hsm P' (by rw[<-hps.1];exact U)) fun p=>⟨fun hp=>?_,fun hp=>?_⟩
 ·obtain⟨c,e,⟨o,it,n,ho,r⟩,hs⟩:=hps.2 i v p a b
  exact⟨c,e,⟨o,it,n,kk _ _ ho,r⟩,hs⟩
 ·obtain⟨i,hi,rfl⟩:=List.mem_map.mp hu
  have:i < vs.length:=P.lt i (by simpa using hi)
  rw[List.getD_eq_getElem?_getD,List.getElem?_eq_getElem this]
  exact List.getElem_mem this
 ·obtain⟨i,hi,rfl⟩:=List.mem_map.mp hp
  have:i < ps.length:=P'.lt i (by simpa using hi)
  rw[List.getD_eq_getElem?_getD,List.getElem?_eq_getElem this]
  exact List.getElem_mem this
 ·obtain⟨i,hi,e⟩:=List.mem_iff_getElem.mp hp
  refine List.mem_map.mpr ⟨i,GJ P' hi,?_⟩
  rw[List.getD_eq_getElem?_getD,List.getElem?_eq_getElem hi,e];rfl
end
end L2.ST

end

section
namespace L2
open PySem PySem.Spec PyProof.Rows
abbrev Pr:=Int×Int
abbrev Sm:=L2.ST.Sm
section
variable {X:Cx}{pins:List (Addr×Obj)}{σ:St}{H H':Hp}{s:Shared}
def gM (H H':Hp):Prop:=(∀b xs,H b=some (.tup xs)->H' b=some (.tup xs))/\∀b o u,H b=some (.a7 o u)->H' b=some (.a7 o u)
theorem gM.trans {H H1 H2:Hp}(a:gM H H1)(b:gM H1 H2):gM H H2:=⟨fun c xs h=>b.1 c xs (a.1 c xs h),fun c o u h=>b.2 c o u (a.2 c o u h)⟩
theorem ao.grow {H H':Hp}(e:ao H H'):gM H H':=⟨fun b xs h=>e b _ h,fun b o u h=>e b _ h⟩
theorem gM.new {H:Hp}{l:Addr}{o:HO}(h:H l=none):gM H (upd H l o):=⟨fun b xs e=>by rw[ay (aG e h)];exact e,fun b o' u e=>by rw[ay (aG e h)];exact e⟩
theorem ao.new {H:Hp}{l:Addr}{o:HO}(h:H l=none):ao H (upd H l o):=fun b u e=>by rw[ay (aG e h)];exact e
theorem c7.grow {K:PySem.W.Frag}{a:Addr}{xs:List V}(h:c7 K H a xs)(g:gM H H'):c7 K H' a xs:=by
 rcases h with (h | ⟨o,h⟩) |h
 ·exact .inl (.inl (g.1 _ _ h))
 ·exact .inl (.inr ⟨o,g.2 _ _ _ h⟩)
 ·exact .inr h
theorem gM.list {a:Addr}{ys:List V}{o:HO}(h:H a=some (.lst ys)):gM H (upd H a o):=
 ⟨fun b xs e=>by rw[ay (E9 e h (by intro z;cases z))];exact e,fun b o' u e=>by rw[ay (E9 e h (by intro z;cases z))];exact e⟩
theorem qh {α β:Type}{f:α->β}:∀{l:List α} {m:List β},m.Perm (l.map f)->∃l':List α,m=l'.map f/\l'.Perm l:=by
 intro l m h
 generalize hk:l.map f=k at h
 induction h generalizing l with
 |nil=>
  have:l= []:=by simpa using hk
  exact⟨[],rfl,by rw[this]⟩
 | @cons x m1 m2 _ ih=>
  cases l with
  |nil=>cases hk
  |cons a l=>
   simp only[List.map_cons,List.cons.injEq] at hk
   obtain⟨l',e,p⟩:=ih hk.2
   exact⟨a :: l',by rw[List.map_cons,hk.1,e],p.cons a⟩
 |swap x y m1=>
  cases l with
  |nil=>cases hk
  |cons a l=>
   cases l with
   |nil=>simp at hk
   |cons b l=>
    simp only[List.map_cons,List.cons.injEq] at hk
    exact⟨b :: a :: l,by rw[List.map_cons,List.map_cons,hk.1,hk.2.1,hk.2.2],List.Perm.swap ..⟩
 |trans _ _ ih1 ih2=>
  obtain⟨l1,e1,p1⟩:=ih2 hk
  obtain⟨l2,e2,p2⟩:=ih1 e1.symm
  exact⟨l2,e2,p2.trans p1⟩
def aL (K:PySem.W.Frag)(H:Hp):List V->List Pr->Prop:=Paired fun v p=>∃a,v=.ref a/\c7 K H a [.int p.1,.int p.2]
theorem aL.grow {K:PySem.W.Frag}{vs:List V}{ps:List Pr}(h:aL K H vs ps)(g:gM H H'):aL K H' vs ps:=Paired.mapP h fun v p ⟨a,e,q⟩=>⟨a,e,q.grow g⟩
theorem Paired.getP {α β:Type}{F:α->β->Prop}:∀{l:List α} {m:List β} {i:Nat} {x:α},Paired F l m->l[i]? =some x->∃y,m[i]? =some y/\F x y
 |_,_,_,_,.nil,e=>by simp at e
 |_,_,0,_,.cons r _,e=>by simp at e;subst e;exact⟨_,rfl,r⟩
 |_,_,i + 1,x,.cons _ t,e=>by
  obtain⟨u,h1,h2⟩:=Paired.getP (i:=i) (x:=x) t (by simpa using e)
  exact⟨u,by simpa using h1,h2⟩
theorem Paired.getQ {α β:Type}{F:α->β->Prop}:∀{l:List α} {m:List β} {i:Nat} {y:β},Paired F l m->m[i]? =some y->∃x,l[i]? =some x/\F x y
 |_,_,_,_,.nil,e=>by simp at e
 |_,_,0,_,.cons r _,e=>by simp at e;subst e;exact⟨_,rfl,r⟩
 |_,_,i + 1,x,.cons _ t,e=>by
  obtain⟨u,h1,h2⟩:=Paired.getQ (i:=i) (y:=x) t (by simpa using e)
  exact⟨u,by simpa using h1,h2⟩
theorem se (I:Inv X pins σ H s){a:Addr}{p:Pr}(h:c7 X.K H a [.int p.1,.int p.2]):L2.ST.bB X.prog X.w s.heap p a:=by
 obtain⟨its,r,⟨o,ho,hc,n,hd⟩,_⟩:=I.tuple h
 cases r with
 |cons r1 r=>
  cases r with
  |cons r2 r=>
   cases r
   obtain⟨t1,rfl⟩:=r1
   obtain⟨t2,rfl⟩:=r2
   exact⟨o,_,n,ho,hc,hd,.cons (intKind_is ..) (.cons (intKind_is ..) .nil)⟩
theorem pairs_at (I:Inv X pins σ H s){vs:List V}{us:List Value}{ps:List Pr}(hv:Vals vs us)(h:aL X.K H vs ps)(hs:∀p,p∈ps->Sm p):L2.ST.cF X.prog X.w s.heap us ps:=by
 refine⟨by rw[<-hv.length];exact Paired.length h,fun i u p e1 e2=>?_⟩
 obtain⟨v,ev,a,rfl,q⟩:=Paired.getQ h e2
 obtain⟨u',eu,ru⟩:=hv.get ev
 rw[e1] at eu;cases eu
 cases ru
 exact⟨a,rfl,se I q,hs p (List.mem_of_getElem? e2)⟩
theorem oQ (I:Inv X pins σ H s){vs:List V}{us:List Value}{ps:List Pr}(hv:Vals vs us)(h:aL X.K H vs ps){h':Heap}(k:∀b o,s.heap.get? b=some o->h'.get? b=some o):∀{out:List Value} {qs:List Pr},
  (∀u,u∈out->u∈us)->L2.ST.cF X.prog X.w h' out qs->∃ws,Vals ws out/\aL X.K H ws qs
 | [],[],_,_=>⟨[],.nil,.nil⟩
 | [],_ :: _,_,hp=>by have:=hp.1;simp at this
 |_ :: _,[],_,hp=>by have:=hp.1;simp at this
 |u :: out,q :: qs,hm,hp=>by
  obtain⟨ws,a1,a2⟩:=oQ I hv h k (out:=out) (qs:=qs) (fun x hx=>hm x (List.mem_cons_of_mem _ hx)) ⟨by have:=hp.1;simpa using this,fun i v p e1 e2=>hp.2 (i + 1) v p (by simpa using e1) (by simpa using e2)⟩
  obtain⟨i,hi,e⟩:=List.mem_iff_getElem.mp (hm u (List.mem_cons_self ..))
  have hi':i < vs.length:=by rw[hv.length];exact hi
  obtain⟨u',eu,ru⟩:=hv.get (List.getElem?_eq_getElem hi')
  rw[List.getElem?_eq_getElem hi,e] at eu
  cases eu
  obtain⟨p,ep,a,ea,qa⟩:=Paired.getP h (List.getElem?_eq_getElem hi')
  rw[ea] at ru
  cases ru
  obtain⟨b,eb,hb,_⟩:=hp.2 0 (.ref a) q rfl rfl
  cases eb
  have pa:L2.ST.bB X.prog X.w h' p a:=by
   obtain⟨o,it,n,ho,r⟩:=se I qa
   exact⟨o,it,n,k _ _ ho,r⟩
  have:p=q:=L2.ST.bB.inj pa hb
  subst this
  exact⟨.ref a :: ws,.cons rfl a1,.cons ⟨a,rfl,qa⟩ a2⟩
theorem xy (I:Inv X pins σ H s){vs:List V}{us:List Value}{ps:List Pr}(hv:Vals vs us)(hp:aL X.K H vs ps)(hlen:ps.length < 64){Q:VK}
  (q:∀l ws qs,H l=none->aL X.K H ws qs->OM.uC qs->(∀p,p∈qs↔p∈ps)->Q (.ref l) (upd H l (.lst ws)))
  {h1 h':Heap} {tk:Nat} {D:Addr} {out:List Value} {qs:List Pr} {c:Nat} (k1:∀b o,s.heap.get? b=some o->h1.get? b=some o) (eD:D=h1.objs.size) (k2:∀b o,h1.get? b=some o->h'.get? b=some o)
  (ho:h'.get? D=some (seqObj "list" out.toArray c)) (hpq:L2.ST.cF X.prog X.w h' out qs) (hm:∀u,u∈out->u∈us) (hr:OM.uC qs) (hmem:∀p,p∈qs↔p∈ps):EP X pins σ Q (.ref D) {s with heap:=h',toks:=tk}:=by
 obtain⟨ws,r1,r2⟩:=oQ I hv hp (fun b o e=>k2 b o (k1 b o e)) hm hpq
 have I1:Inv X pins σ H {s with heap:=h1,toks:=tk}:=I.kept k1
 have hf:H D=none:=by rw[eD];exact I1.hok.fresh (Nat.le_refl _)
 have hz:ws.length<=sizeLine:=by
  have e1:=r1.length
  have e2:out.length=qs.length:=hpq.1
  have e3:=OM.mi (OM.gu hr) fun x hx=>(hmem x).mp hx
  rw[sizeLine_eq];omega
 have I2:Inv X pins σ (upd H D (.lst ws)) {s with heap:=h',toks:=tk}:=I1.laid (t':=tk) k2 (by rw[eD];exact Nat.le_refl _) (show bw X.prog X.w _ h' _ (.lst ws) from⟨hz,out,c,r1,ho⟩)
 exact⟨.ref D,_,I2,rfl,q D ws qs hf r2 hr hmem⟩
abbrev vq (qs:List (Addr×Pr)):List V:=qs.map fun q=>V.ref q.1
abbrev pq (qs:List (Addr×Pr)):List Pr:=qs.map (·.2)
def EY (prog:Program)(w:World)(S:Addr)(qs:List (Addr×Pr))(h:Heap):Prop:=∃o ep t,h.get? S=some o/\o.ExactSet/\o.data=.set (qs.map fun q=>(L2.ST.Ab prog w q.2,Value.ref q.1)).toArray ep t/\L2.ST.Tab t (qs.map fun q=>L2.ST.Ab prog w q.2)/\t.led=L2.ST.fH w
def yR (prog:Program)(w:World)(S:Addr)(qs:List (Addr×Pr)):HO:=.ext (EY prog w S qs)
def Iy (P:Program)(w:World)(K:PySem.W.Frag):List V->Hp->VK->Prop:=fun xs H Q=>∃a vs ps,xs= [.ref a]/\(fR K H a vs\/c7 K H a vs)/\aL K H vs ps/\(∀p,p∈ps->Sm p)/\
 ∀S qs,H S=none->aL K H (vq qs) (pq qs)->(pq qs).Nodup->(∀p,p∈pq qs↔p∈ps)->Q (.ref S) (upd H S (yR P w S qs))
theorem Cr (hc:X.calm=true)(hu:X.A.units + 64 < cLine):b8 X (.type "set") (Iy X.prog X.w X.K):=by
 intro pins s σ H xs us Q I r h
 obtain⟨a,vs,ps,rfl,hq,hp,hs,q⟩:=h
 obtain⟨u,rfl,rx⟩:=vals1 r
 cases rx
 have hh:=I.ok.hd hc
 have core:∀{its:List Value} {T:String} {itO:Obj} {St:Addr->Nat->Heap->Prop},Vals vs its->L2.ST.Src X.prog X.w s.heap a its T itO St->wpAny (model X.prog X.w) X.A (call (.type "set") [.ref a]) (EP X pins σ Q) X.xe s:=fun {its T itO St} rv src=>by
  refine L2.ST.om src hh hu (pairs_at I rv hp hs) fun h' tk F k=>?_
  obtain⟨qs,P1,P2,P3⟩:=F
  have hlen:its.length=vs.length:=rv.length.symm
  have back:∀qv:Addr×Pr,qv∈qs->∃b,b=qv.1/\c7 X.K H b [.int qv.2.1,.int qv.2.2]:=fun qv hqv=>by
   obtain⟨i,hi,e⟩:=List.mem_iff_getElem.mp (List.mem_of_mem_take (P2 qv hqv).1)
   have hi':i < vs.length:=by rw[<-hlen];exact hi
   obtain⟨u',eu,ru⟩:=rv.get (List.getElem?_eq_getElem hi')
   rw[List.getElem?_eq_getElem hi,e] at eu
   cases eu
   obtain⟨p,ep,b,eb,qb⟩:=Paired.getP hp (List.getElem?_eq_getElem hi')
   rw[eb] at ru
   cases ru
   have pa:L2.ST.bB X.prog X.w h' p qv.1:=by
    obtain⟨o,it,n,ho,r⟩:=se I qb
    exact⟨o,it,n,k _ _ ho,r⟩
   have:p=qv.2:=L2.ST.bB.inj pa (P1.at' qv hqv).1
   subst this
   exact⟨_,rfl,qb⟩
  have hpv:∀{l:List (Addr×Pr)},(∀x,x∈l->x∈qs)->aL X.K H (vq l) (pq l):=fun {l}=>by
   induction l with
   |nil=>intro _;exact .nil
   |cons y l ih=>
    intro hl
    obtain⟨b,eb,qb⟩:=back y (hl y (List.mem_cons_self ..))
    subst eb
    exact .cons ⟨_,rfl,qb⟩ (ih fun x hx=>hl x (List.mem_cons_of_mem _ hx))
  have hmem:∀p,p∈pq qs↔p∈ps:=fun p=>by
   have hpl:ps.length=its.length:=by rw[hlen];exact (Paired.length hp).symm
   constructor
   ·intro hx
    obtain⟨qv,hqv,rfl⟩:=List.mem_map.mp hx
    exact List.mem_of_mem_take (P2 qv hqv).2
   ·intro hx
    exact P3 p (by rw[<-hpl,List.take_of_length_le (Nat.le_refl _)];exact hx)
  have hf:H s.heap.objs.size=none:=I.hok.fresh (Nat.le_refl _)
  obtain⟨o,ep,t,ho,r1⟩:=P1.ex
  have new:bw X.prog X.w (upd H s.heap.objs.size (yR X.prog X.w s.heap.objs.size qs)) h' s.heap.objs.size (yR X.prog X.w s.heap.objs.size qs):=
   ⟨⟨o,ep,t,ho,r1⟩,⟨o,ho⟩,fun h1 h2 ⟨o1,ep1,t1,g1,g2⟩ kk=>⟨o1,ep1,t1,kk _ g1,g2⟩⟩
  exact⟨.ref _,_,I.laid (t':=tk) k (Nat.le_refl _) new,rfl,q _ qs hf (hpv fun x hx=>hx) P1.nd hmem⟩
 rcases hq with hq |hq
 ·obtain⟨its,rv,pl,hz⟩:=I.list hq
  exact core rv (L2.ST.Src.list pl.isList)
 ·obtain⟨its,rv,pl,hz⟩:=I.tuple hq
  exact core rv (L2.ST.Src.tuple pl)
def uU (P:Program)(w:World)(K:PySem.W.Frag):List V->Hp->VK->Prop:=fun xs H Q=>∃S qs,xs= [.ref S]/\H S=some (yR P w S qs)/\aL K H (vq qs) (pq qs)/\(∀p,p∈pq qs->Sm p)/\(pq qs).Nodup/\qs.length < 64/\
 ∀l ws rs,H l=none->aL K H ws rs->OM.uC rs->(∀p,p∈rs↔p∈pq qs)->Q (.ref l) (upd H l (.lst ws))
theorem sF (hc:X.calm=true):b8 X (.builtin "sorted") (uU X.prog X.w X.K):=by
 intro pins s σ H xs us Q I r h
 obtain⟨S,qs,rfl,hS,hp,hs,nd,hl,q⟩:=h
 obtain⟨u,rfl,rx⟩:=vals1 r
 cases rx
 have hh:=I.ok.hd hc
 obtain⟨⟨o,ep,t,ho,hex,hd,T,hled⟩,_,_⟩:EY X.prog X.w S qs s.heap/\_:=I.hok S _ hS
 have T':L2.ST.Tab t ((qs.map fun q=>(L2.ST.Ab X.prog X.w q.2,Value.ref q.1)).toArray.toList.map (·.1)):=by
  rw[List.toList_toArray,List.map_map];exact T
 have htp:=L2.ST.rf X.w S ep (qs.map fun q=>(L2.ST.Ab X.prog X.w q.2,Value.ref q.1)).toArray
 have hmem:∀x,x∈(L2.ST.told X.w S ep (qs.map fun q=>(L2.ST.Ab X.prog X.w q.2,Value.ref q.1)).toArray).toList->∃q,q∈qs/\x=(L2.ST.Ab X.prog X.w q.2,Value.ref q.1):=fun x hx=>by
  have:=htp.mem_iff.mp hx
  simp only[List.toList_toArray] at this
  obtain⟨q,hq,e⟩:=List.mem_map.mp this
  exact⟨q,hq,e.symm⟩
 obtain⟨q2,e2,p2⟩:∃q2:List (Addr×Pr),(L2.ST.told X.w S ep (qs.map fun q=>(L2.ST.Ab X.prog X.w q.2,Value.ref q.1)).toArray).toList=q2.map (fun q=>(L2.ST.Ab X.prog X.w q.2,Value.ref q.1))/\q2.Perm qs:=by
  have:=htp
  simp only[List.toList_toArray] at this
  exact qh this
 have hp2:aL X.K H (vq q2) (pq q2):=by
  have key:∀{l:List (Addr×Pr)},(∀x,x∈l->x∈qs)->aL X.K H (vq l) (pq l):=fun {l}=>by
   induction l with
   |nil=>intro _;exact .nil
   |cons y l ih=>
    intro hl
    obtain⟨i,hi,e⟩:=List.mem_iff_getElem.mp (hl y (List.mem_cons_self ..))
    obtain⟨p,ep',a,ea,qa⟩:=Paired.getP (l:=vq qs) (m:=pq qs) (i:=i) (x:=.ref y.1) hp (by simp[hi,e])
    have:p=y.2:=by simp[hi,e] at ep';exact ep'.symm
    subst this
    exact .cons ⟨a,ea,qa⟩ (ih fun x hx=>hl x (List.mem_cons_of_mem _ hx))
  exact key fun x hx=>p2.mem_iff.mp hx
 have hv2:Vals (vq q2) (q2.map fun q=>Value.ref q.1):=by
  induction q2 with
  |nil=>exact .nil
  |cons y l ih=>exact .cons rfl (by
    clear ih e2 p2 hp2
    induction l with
    |nil=>exact .nil
    |cons z l ih2=>exact .cons rfl ih2)
 have hm2:∀p,p∈pq q2↔p∈pq qs:=fun p=>(p2.map (·.2)).mem_iff
 have hpa:=pairs_at I hv2 hp2 fun p hpp=>hs p ((hm2 p).mp hpp)
 have hl2:q2.length < 64:=by rw[p2.length_eq];exact hl
 refine L2.ST.yU (v:=.ref S) hpa ((p2.map (·.2)).nodup_iff.mpr nd) (by simpa using hl2) (fun Q' hQ'=>L2.ST.uS (by simpa using hh) ho hd hex.1 T' hled (by simp;omega) fun h' tk vs ev k=>?_) fun h1 h' tk D out qs' c k1 eD k2 ho' hpq hm hr hmem'=>?_
 ·rw[ev,e2]
  rw[List.map_map]
  exact hQ' h' tk k
 ·exact xy I hv2 hp2 (by simpa using hl2) (fun l ws rs a1 a2 a3 a4=>q l ws rs a1 a2 a3 fun p=>(a4 p).trans (hm2 p)) k1 eD k2 ho' hpq hm hr hmem'
end
end L2

end

section
namespace L2
open PySem PySem.Spec PyProof.Rows
def mn (cells:List (Str×Addr)):List (Str×NameKind)->List (Str×Addr)->List (Str×Addr)
 | [],cs=>cs
 | (n,k) :: r,cs=>mn cells r (if k == .free then (n,(cells.lookup n).getD 0) :: cs else cs)
theorem oJ {scope:Scope}{env:Env}(h:∀y∈scope.names,y.2=.free->∃c,env.cells.lookup y.1=some c):closureFor scope env=pure (mn env.cells scope.names []):=by
 unfold closureFor
 have key:∀(l:List (Str×NameKind)) (cs:List (Str×Addr)),(∀y∈l,y.2=.free->∃c,env.cells.lookup y.1=some c)->
   (forIn l cs (fun (x:Str×NameKind) (r:List (Str×Addr))=>if (x.2 == NameKind.free)=true then (do let a <-cellOf env x.1;pure (ForInStep.yield ((x.1,a) :: r)):Sem _) else pure (ForInStep.yield r)):Sem (List (Str×Addr)))=pure (mn env.cells l cs):=by
  intro l
  induction l with
  |nil=>intro cs _;rfl
  |cons y l ih=>
   intro cs hy
   obtain⟨n,k⟩:=y
   rw[List.forIn_cons]
   unfold mn
   by_cases hk:(k == NameKind.free)=true
   ·have hk':k=.free:=by simpa using hk
    obtain⟨c,hc⟩:=hy (n,k) (List.mem_cons_self ..) hk'
    have hce:cellOf env n=pure c:=by unfold cellOf;rw[hc]
    simp only[hk,if_true]
    have hc':env.cells.lookup n=some c:=hc
    rw[hce,hc']
    simp only[pure_bind,Option.getD_some]
    exact ih _ fun z hz=>hy z (List.mem_cons_of_mem _ hz)
   ·simp only[hk,if_false,Bool.false_eq_true]
    simp only[pure_bind]
    exact ih _ fun z hz=>hy z (List.mem_cons_of_mem _ hz)
 have:=key scope.names [] h
 simp only[bind_pure_comp] at this ⊢
 first
  |exact this
  | (rw[this];rfl)
  | (simpa using this)
theorem mq {cells:List (Str×Addr)}{x:Str}:∀{l:List (Str×NameKind)} {cs:List (Str×Addr)},((x,NameKind.free)∈l\/cs.lookup x=some ((cells.lookup x).getD 0))->(mn cells l cs).lookup x=some ((cells.lookup x).getD 0)
 | [],cs,h=>by
  rcases h with h |h
  ·cases h
  ·exact h
 | (n,k) :: r,cs,h=>by
  unfold mn
  refine mq ?_
  by_cases hk:(k == NameKind.free)=true
  ·rw[if_pos hk]
   by_cases hx:x=n
   ·subst hx;right;simp
   ·rcases h with h |h
    ·rcases List.mem_cons.mp h with e |e
     ·injection e with e1 _;exact absurd e1 hx
     ·exact .inl e
    ·right
     rw[List.lookup_cons,show (x == n)=false by simpa using hx]
     exact h
  ·rw[if_neg hk]
   rcases h with h |h
   ·rcases List.mem_cons.mp h with e |e
    ·injection e with _ e2;exact absurd (by rw[<-e2];rfl) hk
    ·exact .inl e
   ·exact .inr h
theorem mV {cells:List (Str×Addr)}{x:Str}{c:Addr}:∀{l:List (Str×NameKind)} {cs:List (Str×Addr)},(mn cells l cs).lookup x=some c->((x,NameKind.free)∈l/\c=(cells.lookup x).getD 0)\/cs.lookup x=some c
 | [],cs,h=>.inr h
 | (n,k) :: r,cs,h=>by
  unfold mn at h
  rcases mV h with⟨a,b⟩ |a
  ·exact .inl ⟨List.mem_cons_of_mem _ a,b⟩
  ·by_cases hk:(k == NameKind.free)=true
   ·rw[if_pos hk,List.lookup_cons] at a
    by_cases hx:x=n
    ·subst hx
     simp at a
     have:k=.free:=by simpa using hk
     subst this
     exact .inl ⟨List.mem_cons_self ..,a.symm⟩
    ·rw[show (x == n)=false by simpa using hx] at a
     exact .inr a
   ·rw[if_neg hk] at a
    exact .inr a
theorem nc {f:Str->NameKind->NameKind}{x:Str}:∀(l:List (Str×NameKind)),(l.map fun y=>(y.1,f y.1 y.2)).lookup x=(l.lookup x).map (f x)
 | []=>rfl
 | (n,k) :: l=>by
  rw[List.map_cons,List.lookup_cons,List.lookup_cons]
  by_cases hx:x=n
  ·subst hx;simp
  ·have hb:(x == n)=false:=by simpa using hx
   simp only[hb]
   exact nc l
theorem o5 (scope:Scope)(env:Env)(x:Str):(relabel scope env).names.lookup x=(scope.names.lookup x).map fun k=>if (k == .free && env.scope.kind == .function && env.kindOf x == some .cell) then .cell else k:=by
 have e:(relabel scope env).names=scope.names.map fun y=>(y.1,if (y.2 == .free && env.scope.kind == .function && env.kindOf y.1 == some .cell) then .cell else y.2):=by
  unfold relabel
  dsimp only
  refine List.map_congr_left fun y _=>?_
  obtain⟨n,k⟩:=y
  dsimp only
  split <;> rfl
 rw[e]
 exact nc (f:=fun n k=>if (k == .free && env.scope.kind == .function && env.kindOf n == some .cell) then .cell else k) scope.names
def ij (X:Cx)(NB:List Str)(scope:Scope)(C:Addr)(ex:List Addr)(s3:Shared)(H3:Hp)(pn:List (Addr×Obj)):Cx:=
 {X with N:=NB,s₀:=s3,H₀:=H3,env:=compEnvC scope (mn X.env.cells scope.names []) C X.env,outer:=X.stack,ex:=ex,fn:=fun _=>false,pn:=pn,xe:=fun _ _=>False}
def rG (own:Nat)(ixs:List Nat)(σ:St):St:=List.replicate own none ++ ixs.map fun i=>(σ[i]?).join
structure cG (X:Cx)(NB:List Str)(own:Nat)(ixs:List Nat)(scope:Scope):Prop where
 kind:scope.kind=.function
 nocell:∀y∈scope.names,y.2≠.cell
 names:∀y∈scope.names,scope.names.lookup y.1=some y.2
 frees:∀y∈scope.names,y.2=.free->X.env.kindOf y.1=some .cell\/X.env.kindOf y.1=some .free
 nd:NB.Nodup
 len:NB.length=own + ixs.length
 at':∀k,k < ixs.length->NB[own + k]? =X.N[ixs.getD k 0]?/\∀x,NB[own + k]? =some x->(x,NameKind.free)∈scope.names
section
variable {X:Cx}{NB:List Str}{own:Nat}{ixs:List Nat}{scope:Scope}{pins:List (Addr×Obj)}{σ:St}{H:Hp}{s:Shared}
theorem y6 (S:cG X NB own ixs scope)(I:Inv X pins σ H s){fp:List Addr}(hfp:∀b∈fp,ny X pins H b)(hob:∀b∈fp,∃o,s.heap.get? b=some o){h1:Heap}{tk:Nat}
  (hn:h1.Ns s.heap.objs.size (fun _=>none)) (hk:∀b o,s.heap.get? b=some o->h1.get? b=some o) :
  Inv (ij X NB scope s.heap.objs.size fp s H (X.pn ++ pins)) [] (rG own ixs σ) H {s with heap:=h1,toks:=tk}:=by
 have stk:=I.stack
 have frees:∀{x:Str},(x,NameKind.free)∈scope.names->∃c,X.env.cells.lookup x=some c:=fun {x} hx=>I.ok.has x (S.frees _ hx rfl)
 have clE:∀{x:Str} {c:Addr},(mn X.env.cells scope.names []).lookup x=some c->(x,NameKind.free)∈scope.names/\X.env.cells.lookup x=some c:=fun {x c} h=>by
  rcases mV h with⟨a,b⟩ |a
  ·obtain⟨c',e⟩:=frees a
   rw[e] at b
   exact⟨a,by rw[e,b];rfl⟩
  ·simp at a
 have kindB:∀x,(ij X NB scope s.heap.objs.size fp s H (X.pn ++ pins)).env.kindOf x=(scope.names.lookup x).map fun k=>if (k == .free && X.env.scope.kind == .function && X.env.kindOf x == some .cell) then .cell else k:=fun x=>o5 scope X.env x
 have isFree:∀{x:Str},((ij X NB scope s.heap.objs.size fp s H (X.pn ++ pins)).env.kindOf x=some .cell\/(ij X NB scope s.heap.objs.size fp s H (X.pn ++ pins)).env.kindOf x=some .free)->(x,NameKind.free)∈scope.names:=fun {x} h=>by
  rw[kindB] at h
  cases e:scope.names.lookup x with
  |none=>rw[e] at h;simp at h
  |some k=>
   have hm:=PySem.mem_of_lookup e
   cases k with
   |free=>exact hm
   |cell=>exact absurd rfl (S.nocell _ hm)
   |_=>rw[e] at h;simp at h
 have neN:∀b o,s.heap.get? b=some o->b≠s.heap.objs.size:=fun b o e=>Nat.ne_of_lt (Heap.lt_size e)
 have cellN:∀{x:Str} {c:Addr},X.env.cells.lookup x=some c->c < s.heap.objs.size:=fun {x c} e=>by
  obtain⟨v,o,ho,_⟩:=I.cell x c e
  exact Heap.lt_size ho
 have ok:(ij X NB scope s.heap.objs.size fp s H (X.pn ++ pins)).Ok:=by
  refine⟨I.ok.mod,S.kind,I.ok.glob,I.ok.blt,Nat.le_refl _,fun x y c h1 h2=>I.ok.inj x y c (clE h1).2 (clE h2).2,fun x hx=>?_,fun x c h=>(by cases h),I.ok.hd,I.ok.frames,.inl rfl,fun b hb=>?_,I.bs,Nat.le_trans I.ok.bsz I.sz,fun b o e hb=>?_,fun b hb hs=>?_,stk,I.stkFree⟩
  ·have hm:=isFree hx
   exact⟨_,mq (.inl hm)⟩
  ·obtain⟨_,f1,f2,f3,f4,f5⟩:=hfp b hb
   refine⟨?_,fun x c h z=>f4 x c (clE h).2 z⟩
   obtain⟨o,ho⟩:=hob b hb
   exact neN b o ho
  ·obtain⟨_,f1,f2,f3,f4,f5⟩:=hfp b hb
   rcases f3 with f3 |f3
   ·exact I.ok.noex b o e f3
   ·exact absurd (Nat.lt_of_lt_of_le (Heap.lt_size e) (Nat.le_trans I.ok.bsz f3)) (Nat.lt_irrefl _)
  ·obtain⟨_,f1,f2,f3,f4,f5⟩:=hfp b hb
   rcases List.mem_cons.mp (I.stkSub b hs) with z |z
   ·exact f1 z
   ·exact f2 z
 refine⟨ok,rfl,I.bare,Un.kept hk,⟨_,hn,fun i x v h1' h2' h3'=>?_⟩,fun x c h=>?_,I.hok.fresh (Nat.le_refl _),fun x c h=>I.freeC x c (clE h).2,fun p hp=>?_,I.hok.kept hk,?_⟩
 ·
  have h1':NB[i]? =some x:=h1'
  have hown:own<=i:=by
   refine Classical.byContradiction fun hc=>?_
   have hlt:i < own:=Nat.lt_of_not_le hc
   unfold rG at h2'
   rw[List.getElem?_append_left (by simpa using hlt),List.getElem?_replicate,if_pos hlt] at h2'
   cases h2'
  obtain⟨k,rfl⟩:∃k,i=own + k:=⟨i - own,by omega⟩
  have hk':k < ixs.length:=by
   have:=(List.getElem?_eq_some_iff.mp h1').1
   rw[S.len] at this;omega
  obtain⟨e1,e2⟩:=S.at' k hk'
  have hm:=e2 x h1'
  unfold rG at h2'
  rw[List.getElem?_append_right (by simp),List.length_replicate,Nat.add_sub_cancel_left,List.getElem?_map,List.getElem?_eq_getElem hk'] at h2'
  simp only[Option.map_some,Option.some.injEq] at h2'
  have hix:ixs.getD k 0=ixs[k]:=by simp[hk']
  have hσ:σ[ixs[k]]? =some (some v):=by
   cases e:σ[ixs[k]]? with
   |none=>rw[e] at h2';cases h2'
   |some o=>rw[e] at h2';simp at h2';rw[h2']
  rw[e1,hix] at h1'
  have hkind:=S.frees _ hm rfl
  have hvis:v7 X.env.scope x:=hkind.elim (fun z=>.inr (.inl z)) (fun z=>.inr (.inr z))
  obtain⟨m,hm',hl⟩:=I.loc
  obtain⟨u,r,look⟩:=hl _ x v h1' hσ hvis
  refine⟨u,r,.inr ⟨?_,?_⟩⟩
  ·rw[kindB]
   have hfr:scope.names.lookup x=some .free:=S.names _ hm
   rw[hfr]
   simp only[Option.map_some]
   split
   ·exact .inl rfl
   ·exact .inr rfl
  ·rcases look with⟨z,_⟩ | ⟨_,c,hc,hcell⟩
   ·rcases hkind with q |q
    ·rw[q] at z;cases z
    ·rw[q] at z;cases z
   ·refine⟨c,?_,?_⟩
    ·have:=mq (cells:=X.env.cells) (cs:=[]) (.inl hm)
     rw[hc] at this
     exact this
    ·obtain⟨o,ho,hd⟩:=hcell
     exact⟨o,hk _ _ ho,hd⟩
 ·obtain⟨v,o,ho,hd⟩:=I.cell x c (clE h).2
  exact⟨v,o,hk _ _ ho,hd⟩
 ·have hp':p∈X.pn ++ pins:=by
   rcases List.mem_append.mp hp with z |z
   ·exact z
   ·cases z
  obtain⟨e,n,ne,nf,d⟩:=I.pin p hp'
  refine⟨hk _ _ e,n,neN _ _ e,fun z=>?_,d⟩
  rcases List.mem_cons.mp (I.stkSub _ z) with q |q
  ·exact ne q
  ·exact nf q
 ·show (rG own ixs σ).length=NB.length
  unfold rG
  rw[S.len];simp
end
end L2

end

section
namespace L2
open PySem PySem.Spec PyProof.Rows
abbrev xO (ifs:List Expr)(env:Env):Sem Bool:=forIn ifs true fun c r=>if r=true then do let ok <-isTrue c env (eval c env);pure (ForInStep.yield ok) else pure (ForInStep.yield r)
theorem yO {prog:Program}{w:World}{A:Around}{R:Result->Shared->Prop}{s:Shared}{elt target iter:Expr}{ifs:List Expr}{scope:Scope}{pos:Pos}{it acc:Value}{env:Env}(I:Nat->Shared->Prop)
  (turn:∀n s,I n s->wpAny (model prog w) A (pyNext it) (fun r s1=>match r with
   |none=>R (.ok .next) s1
   |some v=>wpAny (model prog w) A (letOwnedTupleGo target it v) (fun _ s1'=>wpAny (model prog w) A (assign target env v) (fun _ s2=>
     wpAny (model prog w) A (xO ifs env) (fun ok s3=>
      if ok=true then wpAny (model prog w) A (eval elt env) (fun x s4=>wpAny (model prog w) A (call (.builtin "list.append") [acc,x]) (fun _ s5=>∃m,m < n/\I m s5) (fun _ _=>False) s4) (fun _ _=>False) s3
      else ∃m,m < n/\I m s3) (fun _ _=>False) s2) (fun _ _=>False) s1') (fun _ _=>False) s1) (fun _ _=>False) s)
  (n:Nat) (h:I n s):codeAny (model prog w) A (.compLoop (.ListComp elt [⟨target,iter,ifs,0⟩] scope pos) 0 it acc env) R s:=by
 refine codeAny_loop rfl I (fun n s hI=>?_) n h
 (show wpAny _ A ((compTurn (.ListComp elt [⟨target,iter,ifs,0⟩] scope pos) 0 it acc env).onRaise (fun x=>do (noteFrame x env);theTreesLotGoes x)) _ _ s)
 refine wpAny_noted ?_
 rw[compTurn_list]
 refine wpAny_bind (wpAny_standAt (wpAny_bind (wpAny_mono (turn n s hI) (fun r s1 h1=>?_) fun _ _ z=>z.elim)))
 cases r with
 |none=>exact wpAny_pure h1
 |some v=>
  refine wpAny_bind (wpAny_mono h1 (fun _ s1' h1'=>?_) fun _ _ z=>z.elim)
  refine wpAny_bind (wpAny_mono h1' (fun _ s2 h2=>wpAny_bind (wpAny_mono h2 (fun ok s3 h3=>?_) fun _ _ z=>z.elim)) fun _ _ z=>z.elim)
  cases ok with
  |false=>exact wpAny_pure ⟨rfl,h3⟩
  |true=>exact wpAny_bind (wpAny_bind (wpAny_mono h3 (fun x s4 h4=>wpAny_bind (wpAny_mono h4 (fun _ s5 h5=>wpAny_pure (wpAny_pure ⟨rfl,h5⟩)) fun _ _ z=>z.elim)) fun _ _ z=>z.elim))
def A8 (X:Cx)(ifs:List Expr)(t:TT):Prop:=
 ∀(pins:List (Addr×Obj)) (s:Shared) (σ:St) (H:Hp) (Q:Bool->Hp->Prop),Inv X pins σ H s->t σ H Q->wpAny (model X.prog X.w) X.A (xO ifs X.env) (TP X pins σ Q) X.xe s
def Hu:TT:=fun _ H Q=>Q true H
theorem rH {X:Cx}:A8 X [] Hu:=fun pins s σ H Q I h=>wpAny_pure ⟨H,I,h⟩
theorem xQ {X:Cx}{c:Expr}{t:TT}(h:PT X c t):A8 X [c] t:=fun pins s σ H Q I q=>wpAny_tests_one (h pins s σ H Q I q)
def wd (own:Nat)(ixs:List Nat)(wi:TI)(g:TG)(tt:TT)(te:TE)(σ:St)(H:Hp)(Q:VK):Prop:=wi σ H fun J H1=>∀D,H1 D=none->∃W:Nat->Nat->St->Hp->Prop,(∃m,W 0 m (rG own ixs σ) (upd H1 D (.lst [])))/\∀i m σ' H',W i m σ' H'->
 (J.stop i H'/\(∃acc,H' D=some (.lst acc))/\Q (.ref D) H')\/
 (J.go i H'/\∃N:St->Hp->Prop,(∀σ2 H2,N σ2 H2->∃m',m' < m/\W (i + 1) m' σ2 H2)/\∀x H2,J.yld i H' x H2->g x σ' H2 fun σ3 H3=>tt σ3 H3 fun b H4=>
  if b=true then te σ3 H4 fun v H5=>∃acc,H5 D=some (.lst acc)/\acc.length < sizeLine/\N σ3 (upd H5 D (.lst (acc ++ [v]))) else N σ3 H4)
section
variable {X:Cx}{NB:List Str}{own:Nat}{ixs:List Nat}{scope:Scope}{elt tg iter:Expr}{ifs:List Expr}{pos:Pos}{wi:TI}{g:TG}{tt:TT}{te:TE}
theorem qO (hc:X.calm=true)(S:cG X NB own ixs scope)
  (hg:∀C ex s3 H3 pn,PG (ij X NB scope C ex s3 H3 pn) tg g) (ht:∀C ex s3 H3 pn,A8 (ij X NB scope C ex s3 H3 pn) ifs tt) (he:∀C ex s3 H3 pn,PE (ij X NB scope C ex s3 H3 pn) elt te)
  {pins:List (Addr×Obj)} {σ:St} {H1:Hp} {s2:Shared} {it:Addr} {fp:List Addr} {tn:Nat->Heap->Prop} {J:It} {Q:VK} (I2:Inv X pins σ H1 s2) (T:Turn X.prog X.w X.K tg J fp it tn) (st2:tn 0 s2.heap) (f2:∀b∈fp,ny X pins H1 b)
  (hQ:∀D,H1 D=none->∃W:Nat->Nat->St->Hp->Prop,(∃m,W 0 m (rG own ixs σ) (upd H1 D (.lst [])))/\∀i m σ' H',W i m σ' H'->
   (J.stop i H'/\(∃acc,H' D=some (.lst acc))/\Q (.ref D) H')\/
   (J.go i H'/\∃N:St->Hp->Prop,(∀σ2 H2,N σ2 H2->∃m',m' < m/\W (i + 1) m' σ2 H2)/\∀x H2,J.yld i H' x H2->g x σ' H2 fun σ3 H3=>tt σ3 H3 fun b H4=>
    if b=true then te σ3 H4 fun v H5=>∃acc,H5 D=some (.lst acc)/\acc.length < sizeLine/\N σ3 (upd H5 D (.lst (acc ++ [v]))) else N σ3 H4))
  {E:Value->Shared->Prop} {RR:Value->Addr->Result->Shared->Prop}
  (fin:∀D C H' s' m,Inv X pins σ H' s'->Q (.ref D) H'->s'.heap.Ns C m->H' C=none->C≠X.env.locals->(∀x c,X.env.cells.lookup x=some c->c≠C)->X.s₀.heap.objs.size<=C->(∀p∈X.pn ++ pins,p.1≠C)->RR (.ref D) C (.ok .next) s') :
  wpAny (model X.prog X.w) X.A (newList []) (fun acc s3=>wpAny (model X.prog X.w) X.A (newFunctionEnv scope X.env.globals (mn X.env.cells scope.names []) [] X.env.qual none .none (some X.env)) (fun cenv s4=>
   codeAny (model X.prog X.w) X.A (.compStart (.ListComp elt [⟨tg,iter,ifs,0⟩] scope pos) 0 (.ref it) acc {cenv with scope:=relabel scope X.env}) (RR acc cenv.locals) s4) E s3) E s2:=by
 refine wpAny_newList ?_ (Nat.zero_le _)
 have hD:H1 s2.heap.objs.size=none:=I2.hok.fresh (Nat.le_refl _)
 obtain⟨W,⟨m0,w0⟩,turn⟩:=hQ s2.heap.objs.size hD
 generalize hs3:({s2 with heap:=s2.heap.push (seqObj "list" ([]:List Value).toArray 0)}:Shared)=s3
 have I3:Inv X pins σ (upd H1 s2.heap.objs.size (.lst [])) s3:=by
  rw[<-hs3]
  exact I2.lnew (ys:=[]) (its:=[]) (t':=s2.toks) .nil (Nat.zero_le _)
 have k3:∀b o,s2.heap.get? b=some o->s3.heap.get? b=some o:=fun b o e=>by rw[<-hs3];exact Heap.get?_push_of_some _ e
 have sz3:s3.heap.objs.size=s2.heap.objs.size + 1:=by rw[<-hs3];exact Heap.size_push ..
 have ob2:∀b∈fp,∃o,s2.heap.get? b=some o:=fun b hb=>let ⟨o,e,_⟩:=T.obj 0 _ st2 b hb;⟨o,e⟩
 have neD:∀b∈fp,b≠s2.heap.objs.size:=fun b hb=>let ⟨o,e⟩:=ob2 b hb;Nat.ne_of_lt (Heap.lt_size e)
 have f3:∀b∈fp,ny X pins (upd H1 s2.heap.objs.size (.lst [])) b:=fun b hb=>by
  obtain⟨a1,a2⟩:=f2 b hb
  exact⟨by rw[ay (neD b hb)];exact a1,a2⟩
 have st3:tn 0 s3.heap:=T.keep _ _ _ st2 fun b _ o e=>k3 b o e
 refine wpAny_newFunctionEnv S.nocell (fun y hy=>by simp at hy) (fun h4 hn4 sb4=>?_) S.kind
 have k4:∀b o,s3.heap.get? b=some o->h4.get? b=some o:=fun b o e=>sb4.extBut b o (Nat.ne_of_lt (Heap.lt_size e)) (Heap.get?_push_of_some _ e)
 have I4:Inv (ij X NB scope s3.heap.objs.size fp s3 (upd H1 s2.heap.objs.size (.lst [])) (X.pn ++ pins)) [] (rG own ixs σ) (upd H1 s2.heap.objs.size (.lst [])) {s3 with heap:=h4,toks:=s3.toks + ([]:List (Str×Value)).length}:=
  y6 S I3 f3 (fun b hb=>let ⟨o,e⟩:=ob2 b hb;⟨o,k3 _ _ e⟩) (by simpa using hn4) k4
 have st4:tn 0 h4:=T.keep _ _ _ st3 fun b _ o e=>k4 b o e
 generalize hB:ij X NB scope s3.heap.objs.size fp s3 (upd H1 s2.heap.objs.size (.lst [])) (X.pn ++ pins)=B at I4
 have hgB:PG B tg g:=by rw[<-hB];exact hg _ _ _ _ _
 have htB:A8 B ifs tt:=by rw[<-hB];exact ht _ _ _ _ _
 have heB:PE B elt te:=by rw[<-hB];exact he _ _ _ _ _
 have eP:B.prog=X.prog:=by rw[<-hB];rfl
 have eW:B.w=X.w:=by rw[<-hB];rfl
 have eK:B.K=X.K:=by rw[<-hB];rfl
 have eA:B.A=X.A:=by rw[<-hB];rfl
 have eC:B.calm=true:=by rw[<-hB];exact hc
 have eX:B.xe=fun _ _=>False:=by rw[<-hB];rfl
 have eE:B.env=compEnvC scope (mn X.env.cells scope.names []) s3.heap.objs.size X.env:=by rw[<-hB];rfl
 have ex:B.ex=fp:=by rw[<-hB];rfl
 have eL:B.env.locals=s3.heap.objs.size:=by rw[eE];rfl
 have stat:∀{H':Hp},(∀b∈fp,H' b=none)->∀b∈fp,ny B [] H' b:=fun {H'} hn b hb=>by
  obtain⟨a1,a2,a3,a4,a5,a6⟩:=f3 b hb
  obtain⟨o,eo⟩:=ob2 b hb
  refine⟨hn b hb,?_,fun z=>?_,.inl (by rw[ex];exact hb),fun x c e z=>?_,fun p hp z=>?_⟩
  ·rw[eL];exact Nat.ne_of_lt (Heap.lt_size (k3 _ _ eo))
  ·have hz:b∈iB X.stack:=by rw[<-hB] at z;exact z
   rcases List.mem_cons.mp (I3.stkSub b hz) with q |q
   ·exact a2 q
   ·exact a3 q
  ·rw[eE] at e
   rcases mV e with⟨m1,m2⟩ |m1
   ·obtain⟨c',e'⟩:=I3.ok.has x (S.frees _ m1 rfl)
    rw[e'] at m2
    exact a5 x c' e' (by rw[<-z,m2];rfl)
   ·simp at m1
  ·have hp':p∈X.pn ++ pins:=by
    rw[<-hB] at hp
    rcases List.mem_append.mp hp with q |q
    ·exact q
    ·cases q
   exact a6 p hp' z
 have back:∀{σ':St} {H':Hp} {s':Shared},Inv B [] σ' H' s'->Inv X pins σ H' s':=fun {σ' H' s'} J'=>by
  have u:=J'.base
  have os:=J'.os
  have bare:=J'.bare
  have hok:=J'.hok
  subst hB
  exact I3.call' (ch:=fp) os u hok bare fun b hb=>by
   obtain⟨a1,a2,a3,a4,a5,a6⟩:=f3 b hb
   exact⟨a4,a2,a5,a6⟩
 have loop:∀s5:Shared,s5={s3 with heap:=h4,toks:=s3.toks + ([]:List (Str×Value)).length}->
   codeAny (model X.prog X.w) X.A (.compLoop (.ListComp elt [⟨tg,iter,ifs,0⟩] scope pos) 0 (.ref it) (.ref s2.heap.objs.size) (compEnvC scope (mn X.env.cells scope.names []) s3.heap.objs.size X.env)) (RR (.ref s2.heap.objs.size) s3.heap.objs.size) s5:=by
  rintro s5 rfl
  refine yO (fun n s'=>∃i σ' H',Inv B [] σ' H' s'/\tn i s'.heap/\(∀b∈fp,H' b=none)/\W i n σ' H') ?_ m0 ⟨0,_,_,I4,st4,fun b hb=>(f3 b hb).1,w0⟩
  rintro n s6 ⟨i,σ6,H6,I6,st6,fr6,w6⟩
  rcases turn i n σ6 H6 w6 with⟨stop,⟨acc,hacc⟩,qn⟩ | ⟨go,N,hN,step⟩
  ·have:=T.done B eP eW eK eC i [] s6 σ6 H6 (fun _ _=>False) I6 (stat fr6) st6 stop
   rw[eA] at this
   refine bW this fun r s7 ⟨hr,I7⟩=>?_
   subst hr
   obtain⟨m7,hn7,_⟩:=I7.loc
   rw[eL] at hn7
   have J7:=back I7
   refine fin _ _ H6 s7 m7 J7 qn hn7 (by rw[<-eL];exact I7.free) (fun z=>?_) (fun x c e z=>?_) ?_ fun p hp z=>?_
   ·have:=I3.lt
    rw[<-z] at this
    exact Nat.lt_irrefl _ this
   ·obtain⟨v,o,ho,_⟩:=I3.cell x c e
    exact absurd (Heap.lt_size ho) (by rw[z];exact Nat.lt_irrefl _)
   ·exact I3.sz
   ·have:=Heap.lt_size (I3.pin p hp).1
    rw[z] at this
    exact Nat.lt_irrefl _ this
  ·have hitem:=T.item B eP eW eK eC i [] s6 σ6 H6 (fun _ _=>False) I6 (stat fr6) st6 go
   rw[eA] at hitem
   refine bW hitem fun r s7 ⟨u,hr,h7⟩=>?_
   subst hr
   refine bW h7 fun _ s8 ⟨x,H8,I8,r8,y8,st8,fr8⟩=>?_
   have I8':=I8.pinned (stat fr8) (T.obj _ _ st8)
   have ha:=hgB _ s8 σ6 H8 x u _ I8' r8 (step x H8 y8)
   rw[eP,eW,eA,eE,eX] at ha
   refine bW ha fun _ s9 ⟨σ9,H9,I9,q9⟩=>?_
   have hb:=htB _ s9 σ9 H9 _ I9 q9
   rw[eP,eW,eA,eE,eX] at hb
   refine bW hb fun ok s10 ⟨H10,I10,q10⟩=>?_
   have again:∀{σ7:St} {H7:Hp} {s7:Shared},Inv B ([] ++ ox fp s8.heap) σ7 H7 s7->N σ7 H7->∃m,m < n/\∃i σ' H',Inv B [] σ' H' s7/\tn i s7.heap/\(∀b∈fp,H' b=none)/\W i m σ' H':=fun {σ7 H7 s7} I7 n7=>by
    obtain⟨m',hm,w7⟩:=hN σ7 H7 n7
    refine⟨m',hm,i + 1,σ7,H7,I7.unpinned,T.keep _ _ _ st8 fun b hb o e=>(I7.pin (b,o) (List.mem_append_right _ (List.mem_append_right _ (ju hb e)))).1,fun b hb=>?_,w7⟩
    obtain⟨o,e,d⟩:=T.obj _ _ st8 b hb
    exact (I7.pin (b,o) (List.mem_append_right _ (List.mem_append_right _ (ju hb e)))).2.1
   cases ok with
   |false=>
    simp only[Bool.false_eq_true,if_false] at q10 ⊢
    exact again I10 q10
   |true=>
    simp only[if_true] at q10 ⊢
    have hv:=heB _ s10 σ9 H10 _ I10 q10
    rw[eP,eW,eA,eE,eX] at hv
    refine bW hv fun y s11 ⟨v,H11,I11,r11,acc,hacc,hz,q11⟩=>?_
    have hap:=mU (X:=B) _ s11 σ9 H11 (.ref s2.heap.objs.size) [v] (.ref s2.heap.objs.size) [y] (fun z H'=>z=.non/\N σ9 H') I11 rfl (.cons r11 .nil) ⟨_,acc,v,rfl,rfl,hacc,hz,rfl,q11⟩
    rw[eP,eW,eA,eX] at hap
    exact bW hap fun _ s12 ⟨_,H12,I12,_,_,q12⟩=>again I12 q12
 exact codeAny_compStart_list (loop _ rfl) (T.self X.A 0 _ _ _ st4 (loop _ rfl))
theorem ue (hc:X.calm=true)(S:cG X NB own ixs scope)(hi:PI X tg iter wi)
  (hg:∀C ex s3 H3 pn,PG (ij X NB scope C ex s3 H3 pn) tg g) (ht:∀C ex s3 H3 pn,A8 (ij X NB scope C ex s3 H3 pn) ifs tt) (he:∀C ex s3 H3 pn,PE (ij X NB scope C ex s3 H3 pn) elt te)
  (hs:∀x,foldedSetIterable iter X.env x=pure x:=by intro _;rfl) :
  PE X (.ListComp elt [⟨tg,iter,ifs,0⟩] scope pos) (wd own ixs wi g tt te):=by
 intro pins s σ H Q I h
 rw[eval_ListComp]
 refine wpAny_comprehension_free (use:=none) rfl hs (oJ fun y hy e=>I.ok.has _ (S.frees y hy e)) S.kind (fun y hy e=>by rw[S.names y hy,e]) ?_
 refine bW (hi pins s σ H _ I h) fun v s1 h1=>bW h1 fun itv s2 h2=>?_
 obtain⟨it,fp,tn,J,H2,e,I2,T,st2,f2,q2⟩:=h2
 subst e
 refine qO hc S hg ht he I2 T st2 f2 q2 (RR:=fun acc C=>compPost (model X.prog X.w) X.A X.xe none (EP X pins σ Q) acc C) fun D C H' s' m J' q hn hC n1 n2 n3 n4=>?_
 refine⟨m,hn,fun h'' sb=>⟨.ref D,H',?_,rfl,q⟩⟩
 exact J'.turned (t':=s'.toks) (it:=C) (fun b o hb e=>sb.extBut b o hb e) hC n1 (.inr n3) n2 n4
theorem BD {i:Nat}{y:Str}{py spos:Pos}(hc:X.calm=true)(S:cG X NB own ixs scope)(hi:PI X tg iter wi)
  (hg:∀C ex s3 H3 pn,PG (ij X NB scope C ex s3 H3 pn) tg g) (ht:∀C ex s3 H3 pn,A8 (ij X NB scope C ex s3 H3 pn) ifs tt) (he:∀C ex s3 H3 pn,PE (ij X NB scope C ex s3 H3 pn) elt te)
  (hN:X.N.Nodup) (hy:X.N[i]? =some y) (hl:X.env.scope.names.lookup y=some .local)
  (hsw:swapsWith (.ListComp elt [⟨tg,iter,ifs,0⟩] scope pos) (some (.Name y py)) spos.line X.env=pure true)
  (hs:∀x,foldedSetIterable iter X.env x=pure x:=by intro _;rfl) :
  PS X (.Assign [.Name y py] (.ListComp elt [⟨tg,iter,ifs,0⟩] scope pos) spos) (fun D σ H=>wd own ixs wi g tt te σ H fun v H'=>D.nx (σ.set i (some v)) H'):=by
 intro pins s σ H D I h
 rw[exec_Assign_Name_used _ _ _ _ hsw]
 refine wpAny_bind (wpAny_standAt (wpAny_bind ?_))
 show wpAny _ X.A (comprehension (.ListComp elt [⟨tg,iter,ifs,0⟩] scope pos) scope X.env _ (newList []) false (eval iter X.env) (some (assign (.Name y py) X.env)) >>= fun _=>pure ()) _ _ s
 refine wpAny_bind (wpAny_mono (wpAny_comprehension_free (use:=some (assign (.Name y py) X.env)) (Q:=fun _ s'=>SP X pins D .next s') rfl hs (oJ fun y hy e=>I.ok.has _ (S.frees y hy e)) S.kind (fun y hy e=>by rw[S.names y hy,e]) ?_)
  (fun _ s' hq=>wpAny_pure (wpAny_pure hq)) fun _ _ e=>e)
 refine bW (hi pins s σ H _ I h) fun v s1 h1=>bW h1 fun itv s2 h2=>?_
 obtain⟨it,fp,tn,J,H2,e,I2,T,st2,f2,q2⟩:=h2
 subst e
 refine qO hc S hg ht he I2 T st2 f2 q2 (Q:=fun v H'=>D.nx (σ.set i (some v)) H') (RR:=fun acc C=>compPost (model X.prog X.w) X.A X.xe (some (assign (.Name y py) X.env)) (fun _ s'=>SP X pins D .next s') acc C) fun D' C H' s' m J' q hn hC n1 n2 n3 n4=>?_
 show wpAny _ X.A (assign (.Name y py) X.env (.ref D')) _ _ s'
 refine wpAny_assign_Name (qw J' hN hy (.inl hl) (v:=.ref D') rfl (fun s'' I'' ⟨a,sb,ha⟩=>?_) (.inr hl))
 have hCa:C≠a:=by
  rcases ha with z |z
  ·rw[z];exact n1
  ·exact (n2 _ _ z).symm
 refine⟨m,hn.sameBut sb hCa,fun h3 sb3=>⟨_,H',?_,q⟩⟩
 exact I''.turned (t':=s''.toks) (it:=C) (fun b o hb e=>sb3.extBut b o hb e) hC n1 (.inr n3) n2 n4
end
section
variable {own:Nat}{ixs:List Nat}{g:TG}{tt:TT}{te:TE}{σ:St}{H:Hp}{Q:VK}{K:PySem.W.Frag}{D a:Addr}{xs:List V}
abbrev dG (g:TG)(tt:TT)(te:TE)(D:Addr)(x:V)(σ:St)(H:Hp)(N:St->Hp->Prop):Prop:=g x σ H fun σ3 H3=>tt σ3 H3 fun b H4=>
  if b=true then te σ3 H4 fun v H5=>∃acc,H5 D=some (.lst acc)/\acc.length < sizeLine/\N σ3 (upd H5 D (.lst (acc ++ [v]))) else N σ3 H4
theorem yW (Pv:Nat->St->Hp->Prop)(h0:Pv 0 (rG own ixs σ) (upd H D (.lst [])))(hl:∀i σ H,i<=xs.length->Pv i σ H->fR K H a xs)
  (hs:∀i x σ H,xs[i]? =some x->Pv i σ H->dG g tt te D x σ H (Pv (i + 1))) (hd:∀σ H,Pv xs.length σ H->(∃acc,H D=some (.lst acc))/\Q (.ref D) H) :
  ∃W:Nat->Nat->St->Hp->Prop,(∃m,W 0 m (rG own ixs σ) (upd H D (.lst [])))/\∀i m σ' H',W i m σ' H'->
   ((zb K a).stop i H'/\(∃acc,H' D=some (.lst acc))/\Q (.ref D) H')\/
   ((zb K a).go i H'/\∃N:St->Hp->Prop,(∀σ2 H2,N σ2 H2->∃m',m' < m/\W (i + 1) m' σ2 H2)/\∀x H2,(zb K a).yld i H' x H2->dG g tt te D x σ' H2 N):=by
 refine⟨fun i m σ H=>m=xs.length - i/\i<=xs.length/\Pv i σ H,⟨xs.length,by simp,Nat.zero_le _,h0⟩,?_⟩
 rintro i m σ H ⟨rfl,hi,p⟩
 have q:=hl i σ H hi p
 by_cases hlt:i < xs.length
 ·refine .inr ⟨⟨xs,xs[i],q,by simp[hlt]⟩,Pv (i + 1),fun σ' H' p'=>⟨xs.length - (i + 1),by omega,rfl,hlt,p'⟩,fun x H' y=>?_⟩
  obtain⟨e,y⟩:=y
  subst e
  exact hs i x σ _ (y xs q) p
 ·have e:i=xs.length:=by omega
  subst e
  exact .inl ⟨⟨xs,q,Nat.le_refl _⟩,hd σ H p⟩
theorem wU {lo:Int}{n:Nat}(Pv:Nat->St->Hp->Prop)(h0:Pv 0 (rG own ixs σ) (upd H D (.lst [])))
  (hs:∀i σ H,i < n->Pv i σ H->dG g tt te D (.int (lo + i)) σ H (Pv (i + 1))) (hd:∀σ H,Pv n σ H->(∃acc,H D=some (.lst acc))/\Q (.ref D) H) :
  ∃W:Nat->Nat->St->Hp->Prop,(∃m,W 0 m (rG own ixs σ) (upd H D (.lst [])))/\∀i m σ' H',W i m σ' H'->
   ((y9 lo n).stop i H'/\(∃acc,H' D=some (.lst acc))/\Q (.ref D) H')\/
   ((y9 lo n).go i H'/\∃N:St->Hp->Prop,(∀σ2 H2,N σ2 H2->∃m',m' < m/\W (i + 1) m' σ2 H2)/\∀x H2,(y9 lo n).yld i H' x H2->dG g tt te D x σ' H2 N):=by
 refine⟨fun i m σ H=>m=n - i/\i<=n/\Pv i σ H,⟨n,by simp,Nat.zero_le _,h0⟩,?_⟩
 rintro i m σ H ⟨rfl,hi,p⟩
 by_cases hlt:i < n
 ·refine .inr ⟨hlt,Pv (i + 1),fun σ' H' p'=>⟨n - (i + 1),by omega,rfl,hlt,p'⟩,fun x H' y=>?_⟩
  obtain⟨e,y⟩:=y
  subst e y
  exact hs i σ _ hlt p
 ·have e:i=n:=by omega
  subst e
  exact .inl ⟨Nat.le_refl _,hd σ H p⟩
end
end L2

end

section
namespace L2
open PySem PySem.Spec PyProof.Rows
mutual
inductive Rep (K:PySem.W.Frag)(H:Hp):V->PyData->Prop
 |non:Rep K H .non .none
 |bl (b:Bool):Rep K H (.bl b) (.bool b)
 |int (i:Int):Rep K H (.int i) (.int i)
 |str (x:Str):Rep K H (.str x) (.str x)
 |tup {a:Addr} {xs:List V} {ds:List PyData}:c7 K H a xs->j3 K H xs ds->Rep K H (.ref a) (.tuple ds)
 |lst {a:Addr} {xs:List V} {ds:List PyData}:fR K H a xs->j3 K H xs ds->Rep K H (.ref a) (.list ds)
inductive j3 (K:PySem.W.Frag)(H:Hp):List V->List PyData->Prop
 |nil:j3 K H [] []
 |cons {x:V} {xs:List V} {d:PyData} {ds:List PyData}:Rep K H x d->j3 K H xs ds->j3 K H (x :: xs) (d :: ds)
end
section
variable {X:Cx}{pins:List (Addr×Obj)}{σ:St}{H H':Hp}{s:Shared}
mutual
theorem Rep.reads (I:Inv X pins σ H s):∀{x:V} {d:PyData} {u:Value},Rep X.K H x d->RelV x u->∃as,Reads s.heap u d as
 |_,_,_,.non,r=>by cases r;exact⟨_,.none⟩
 |_,_,_,.bl b,r=>by cases r;exact⟨_,.bool b⟩
 |_,_,_,.int i,r=>by obtain⟨t,rfl⟩:=r;exact⟨_,.int i t⟩
 |_,_,_,.str x,r=>by obtain⟨t,rfl⟩:=r;exact⟨_,.str x t⟩
 |_,_,_,.tup h hs,r=>by
  cases r
  obtain⟨its,rv,⟨o,ho,hc,n,hd⟩,_⟩:=I.tuple h
  obtain⟨as,q⟩:=j3.reads I hs rv
  exact⟨_,.tuple ho hc hd (by simpa using q)⟩
 |_,_,_,.lst h hs,r=>by
  cases r
  obtain⟨its,rv,pl,_⟩:=I.list h
  obtain⟨o,ho,hc,n,hd⟩:=pl.isList
  obtain⟨as,q⟩:=j3.reads I hs rv
  exact⟨_,.list ho hc hd (by simpa using q)⟩
theorem j3.reads (I:Inv X pins σ H s):∀{xs:List V} {ds:List PyData} {us:List Value},j3 X.K H xs ds->Vals xs us->∃as,ReadsAll s.heap us ds as
 |_,_,_,.nil,r=>by cases r;exact⟨_,.nil⟩
 |_,_,_,.cons h hs,r=>by
  cases r with
  |cons r1 r2=>
   obtain⟨as,q⟩:=Rep.reads I h r1
   obtain⟨bs,q'⟩:=j3.reads I hs r2
   exact⟨_,.cons q q'⟩
end
def GR (K:PySem.W.Frag)(neg:Bool):R2:=fun x y H Q=>∃d e,Rep K H x d/\Rep K H y e/\SeqAt.shaped d=true/\SeqAt.shaped e=true/\Q (.bl (if neg then !PyData.eqv d e else PyData.eqv d e)) H
theorem cB (hu:X.A.units + 64 < cLine):k9 X (compareOp .Eq) (GR X.K false):=by
 intro pins s σ H x y v u Q I rx ry h
 obtain⟨d,e,h1,h2,s1,s2,q⟩:=h
 obtain⟨as,r1⟩:=h1.reads I rx
 obtain⟨bs,r2⟩:=h2.reads I ry
 exact SeqAt.compareEq_shaped r1 r2 s1 s2 hu ⟨.bl _,H,I,rfl,q⟩
theorem kX (hu:X.A.units + 64 < cLine):k9 X (compareOp .NotEq) (GR X.K true):=by
 intro pins s σ H x y v u Q I rx ry h
 obtain⟨d,e,h1,h2,s1,s2,q⟩:=h
 obtain⟨as,r1⟩:=h1.reads I rx
 obtain⟨bs,r2⟩:=h2.reads I ry
 exact SeqAt.compareNe_shaped r1 r2 s1 s2 hu ⟨.bl _,H,I,rfl,q⟩
def IB (K:PySem.W.Frag)(neg:Bool):R2:=fun x y H Q=>∃p xs d ds,y=.ref p/\(fR K H p xs\/c7 K H p xs)/\j3 K H xs ds/\Rep K H x d/\SeqAt.shaped d=true/\(∀e,e∈ds->SeqAt.shaped e=true)/\
 Q (.bl (if neg then !(ds.any fun e=>PyData.eqv e d) else ds.any fun e=>PyData.eqv e d)) H
theorem j3.at' {K:PySem.W.Frag}:∀{xs:List V} {ds:List PyData} {i:Nat} {x:V},j3 K H xs ds->xs[i]? =some x->∃d,ds[i]? =some d/\Rep K H x d
 |_,_,_,_,.nil,e=>by simp at e
 |_,_,0,_,.cons r _,e=>by simp at e;subst e;exact⟨_,rfl,r⟩
 |_,_,i + 1,x,.cons _ t,e=>by
  obtain⟨u,h1,h2⟩:=j3.at' (i:=i) (x:=x) t (by simpa using e)
  exact⟨u,by simpa using h1,h2⟩
open Classical in
theorem uh (I:Inv X pins σ H s)(d:PyData):∀{xs:List V} {us:List Value} {ds:List PyData},Vals xs us->j3 X.K H xs ds->(∀e,e∈ds->SeqAt.shaped e=true)->∃f:Value->Bool,us.any f=(ds.any fun e=>PyData.eqv e d)/\∀u,u∈us->∃e as,e∈ds/\Reads s.heap u e as/\f u=PyData.eqv e d:=by
 intro xs us ds hv hr hs
 let f:Value->Bool:=fun u=>if h:∃e as,SeqAt.shaped e=true/\Reads s.heap u e as then PyData.eqv (Classical.choose h) d else false
 have hf:∀{u:Value} {e:PyData} {as:List Addr},SeqAt.shaped e=true->Reads s.heap u e as->f u=PyData.eqv e d:=fun {u e as} h1 h2=>by
  have hx:∃e as,SeqAt.shaped e=true/\Reads s.heap u e as:=⟨e,as,h1,h2⟩
  show (if h:∃e as,SeqAt.shaped e=true/\Reads s.heap u e as then PyData.eqv (Classical.choose h) d else false)=_
  rw[dif_pos hx]
  obtain⟨bs,q1,q2⟩:=Classical.choose_spec hx
  rw[SeqAt.Reads.unique _ _ _ _ _ (SeqAt.canLay_of_shaped q1) q2 h2]
 refine⟨f,?_,?_⟩
 ·induction hv generalizing ds with
  |nil=>cases hr;rfl
  | @cons x u xs us r1 r2 ih=>
   cases hr with
   | @cons _ _ e es h1 h2=>
    obtain⟨as,q⟩:=h1.reads I r1
    rw[List.any_cons,List.any_cons,hf (hs e (List.mem_cons_self ..)) q,ih h2 fun z hz=>hs z (List.mem_cons_of_mem _ hz)]
 ·intro u hu
  obtain⟨i,hi,e0⟩:=List.mem_iff_getElem.mp hu
  have hi':i < xs.length:=by rw[hv.length];exact hi
  obtain⟨u',eu,ru⟩:=hv.get (List.getElem?_eq_getElem hi')
  rw[List.getElem?_eq_getElem hi,e0] at eu
  cases eu
  obtain⟨e,ee,re⟩:=j3.at' hr (List.getElem?_eq_getElem hi')
  obtain⟨as,q⟩:=re.reads I ru
  have hm:=List.mem_of_getElem? ee
  exact⟨e,as,hm,q,hf (hs e hm) q⟩
inductive Dk (K:PySem.W.Frag)(H:Hp):V->String->Prop
 |non:Dk K H .non "NoneType"
 |bl (b:Bool):Dk K H (.bl b) "bool"
 |int (i:Int):Dk K H (.int i) "int"
 |str (x:Str):Dk K H (.str x) "str"
 |tup {a:Addr} {xs:List V}:c7 K H a xs->Dk K H (.ref a) "tuple"
 |lst {a:Addr} {xs:List V}:fR K H a xs->Dk K H (.ref a) "list"
 |dic {a:Addr} {kvs:List (Key×V)}:H a=some (.dK kvs)->Dk K H (.ref a) "dict"
def Kz (K:PySem.W.Frag):List V->Hp->VK->Prop:=fun xs H Q=>∃x T t b,xs= [x,.ty T]/\Dk K H x t/\PySem.W.kitOne K (.type t) (.type T)=some b/\Q (.bl b) H
theorem Cw:b8 X (.builtin "isinstance") (Kz X.K):=by
 intro pins s σ H xs us Q I r h
 obtain⟨x,T,t,b,rfl,ty,e,q⟩:=h
 obtain⟨u,c,rfl,rx,rc⟩:=vals2 r
 cases rc
 have fin:∀tk,EP X pins σ Q (.bool b) {s with toks:=tk}:=fun tk=>⟨.bl b,H,I.tok tk,rfl,q⟩
 cases ty with
 |non=>exact iS I rx .non e fin
 |bl b=>exact iS I rx (.bl b) e fin
 |int i=>exact iS I rx (.int i) e fin
 |str z=>exact iS I rx (.str z) e fin
 |dic hk=>exact iS I rx (.dK hk) e fin
 |tup hq=>
  cases rx
  obtain⟨its,rv,⟨o,h1,h2,_⟩,_⟩:=I.tuple hq
  exact PySem.W.kia_one PySem.W.kitx_tuple I.kIn ⟨o,h1,h2⟩ e (fun z=>nomatch z) fin
 |lst hq=>
  cases rx
  obtain⟨its,rv,pl,_⟩:=I.list hq
  obtain⟨o,h1,h2,_⟩:=pl.isList
  exact PySem.W.kia_one PySem.W.kitx_list I.kIn ⟨o,h1,h2⟩ e (fun z=>nomatch z) fin
theorem uD {A:Around}{its:List Value}{bs:List Bool}(hv:Vals (bs.map V.bl) its):TruthOf X.prog X.w A (fun i v=>its[i]? =some v) (fun i=>bs.getD i false):=fun i v s Q E hi hq=>by
 have hl:=hv.length
 have hi2:i < bs.length:=by
  have:=(List.getElem?_eq_some_iff.mp hi).1
  rw[<-hl] at this;simpa using this
 obtain⟨u,eu,ru⟩:=hv.get (i:=i) (x:=.bl bs[i]) (by simp[hi2])
 rw[hi] at eu;cases eu
 cases ru
 refine wpAny_truthy_bool ?_
 have:bs.getD i false=bs[i]:=by simp[hi2]
 rw[<-this];exact hq
theorem range_all (bs:List Bool):(List.range bs.length).all (fun i=>bs.getD i false)=bs.all id:=by
 induction bs with
 |nil=>rfl
 |cons b bs ih=>
  rw[List.length_cons,List.range_succ_eq_map,List.all_cons,List.all_map,List.all_cons,<-ih]
  rfl
theorem range_any (bs:List Bool):(List.range bs.length).any (fun i=>bs.getD i false)=bs.any id:=by
 induction bs with
 |nil=>rfl
 |cons b bs ih=>
  rw[List.length_cons,List.range_succ_eq_map,List.any_cons,List.any_map,List.any_cons,<-ih]
  rfl
def xj (K:PySem.W.Frag)(f:List Bool->Bool):List V->Hp->VK->Prop:=fun xs H Q=>∃a bs,xs= [.ref a]/\fR K H a (bs.map V.bl)/\Q (.bl (f bs)) H
theorem pF (hc:X.calm=true){a:Addr}{bs:List Bool}{Q:VK}(I:Inv X pins σ H s)(hq:fR X.K H a (bs.map V.bl)){f:List Bool->Bool}{g:(Nat->Bool)->Nat->Bool}(hfg:g (fun i=>bs.getD i false) bs.length=f bs)(q:Q (.bl (f bs)) H) :
  wpAny (model X.prog X.w) X.A.in1 (pyIter (.ref a)) (fun it s2=>∃Ii fp wr n P St tr,it=.ref Ii/\Walks X.prog X.w X.A.in1 Ii fp wr n P St/\St 0 s2.heap/\TruthOf X.prog X.w X.A.in1 P tr/\
   ∀h' tk,(∀b o,b∉wr->s2.heap.get? b=some o->h'.get? b=some o)->EP X pins σ Q (.bool (g tr n)) {s2 with heap:=h',toks:=tk}) X.xe s:=by
 obtain⟨its,rv,pl,hz⟩:=I.list hq
 have hh:X.A.in1.handled=none:=I.ok.hd hc
 have hlen:its.length=bs.length:=by rw[<-rv.length];simp
 obtain⟨o,ho,_⟩:=id pl.isList
 refine wpAny_pyIter_list pl.isList ?_
 have W:=Walks.list (prog:=X.prog) (w:=X.w) hh s.heap.objs.size a (Nat.ne_of_lt (Heap.lt_size ho)) its.toArray
 refine⟨s.heap.objs.size,_,_,_,_,_,fun i=>bs.getD i false,rfl,W,⟨⟨_,Heap.get?_push_size _ rfl,rfl,rfl⟩,pl.isList.push _⟩,?_,fun h' tk k=>?_⟩
 ·have:=uD (X:=X) (A:=X.A.in1) rv
  simpa using this
 ·have e:its.toArray.size=bs.length:=by simpa using hlen
  rw[e,hfg]
  have I1:Inv X pins σ H {s with heap:=s.heap.push {cls:=.type "list_iterator",data:=.fields #[.ref a,.int 0 0]}}:=I.kept (t':=s.toks) fun b o e=>Heap.get?_push_of_some _ e
  have hf:H s.heap.objs.size=none:=I.hok.fresh (Nat.le_refl _)
  have fp:=I.fpOk (H':=H) (b:=s.heap.objs.size) (Nat.le_refl _) hf
  refine⟨.bl _,H,I1.turned (it:=s.heap.objs.size) (t':=tk) (fun b o hb e=>k b o (by simpa using hb) e) hf fp.2.1 fp.2.2.2.1 fp.2.2.2.2.1 fp.2.2.2.2.2,rfl,q⟩
theorem iC (hc:X.calm=true):b8 X (.builtin "all") (xj X.K fun bs=>bs.all id):=by
 intro pins s σ H xs us Q I r h
 obtain⟨a,bs,rfl,hq,q⟩:=h
 obtain⟨u,rfl,rx⟩:=vals1 r
 cases rx
 exact call_all_walk (pF hc I hq (f:=fun bs=>bs.all id) (g:=fun tr n=>(List.range n).all tr) (range_all bs) q)
theorem AG (hc:X.calm=true):b8 X (.builtin "any") (xj X.K fun bs=>bs.any id):=by
 intro pins s σ H xs us Q I r h
 obtain⟨a,bs,rfl,hq,q⟩:=h
 obtain⟨u,rfl,rx⟩:=vals1 r
 cases rx
 exact call_any_walk (pF hc I hq (f:=fun bs=>bs.any id) (g:=fun tr n=>(List.range n).any tr) (range_any bs) q)
theorem uX:b8 X (.type "range") (fun xs H Q=>∃n:Int,xs= [.int n]/\∀p,H p=none->Q (.ref p) (upd H p (.cA 0 n))):=by
 intro pins s σ H xs us Q I r h
 obtain⟨n,rfl,q⟩:=h
 obtain⟨u,rfl,rx⟩:=vals1 r
 obtain⟨t,rfl⟩:=rx
 refine call_range_1 ⟨.ref s.heap.objs.size,upd H s.heap.objs.size (.cA 0 n),?_,rfl,q _ (I.hok.fresh (Nat.le_refl _))⟩
 exact I.laid (fun b o e=>Heap.get?_push_of_some _ e) (Nat.le_refl _) ⟨_,_,_,Heap.get?_push_size _ rfl⟩
theorem qj (hc:X.calm=true):b8 X (.type "list") (fun xs H Q=>∃p n,xs= [.ref p]/\H p=some (.cA 0 n)/\0<=n/\n<=1000/\∀l,H l=none->Q (.ref l) (upd H l (.lst ((List.range n.toNat).map fun (i:Nat)=>V.int (i:Int))))):=by
 intro pins s σ H xs us Q I r h
 obtain⟨p,n,rfl,hp,h0,h1,q⟩:=h
 obtain⟨u,rfl,rx⟩:=vals1 r
 cases rx
 obtain⟨t,u,v,hr⟩:∃t u v,s.heap.get? p=some {cls:=.type "range",data:=.fields #[.int 0 t,.int n u,.int 1 v]}:=I.hok p _ hp
 have hsz:Builtin.Range.rangeSize 0 n 1=(n.toNat:Int):=by rw[rangeSize_one];split <;> omega
 refine call_list_range (I.ok.hd hc) hr (small_one (by omega) (by omega) (by omega) (by omega)) hsz (by omega) fun h' tk acc c k hS hacc=>?_
 have hv:Vals ((List.range n.toNat).map fun (i:Nat)=>V.int (i:Int)) acc.toList:=by
  have key:∀(m:Nat) (us:List Value) (j:Nat),us.length=m->(∀(i:Nat) (v:Value),us[i]? =some v->∃t,v=Value.int ((j + i:Nat):Int) t)->Vals ((List.range' j m).map fun (i:Nat)=>V.int (i:Int)) us:=by
   intro m
   induction m with
   |zero=>intro us j hl _;cases us with
    |nil=>exact .nil
    |cons a b=>simp at hl
   |succ m ih=>
    intro us j hl hh
    cases us with
    |nil=>simp at hl
    |cons u us=>
     rw[List.range'_succ,List.map_cons]
     refine .cons (by have:=hh 0 u rfl;simp at this;exact this) (ih us (j + 1) (by simpa using hl) fun i v hi=>?_)
     obtain⟨t,e⟩:=hh (i + 1) v (by simpa using hi)
     exact⟨t,by rw[e];congr 2;omega⟩
  have:=key n.toNat acc.toList 0 (by simpa using hacc.1) fun i v hi=>by
   obtain⟨t,e⟩:=hacc.2 i v (by simpa using hi)
   exact⟨t,by rw[e];simp⟩
  rw[List.range_eq_range'];exact this
 refine⟨.ref s.heap.objs.size,_,I.laid (t':=tk) k (Nat.le_refl _) (show bw X.prog X.w _ h' _ (.lst _) from⟨by simp;rw[sizeLine_eq];omega,acc.toList,c,hv,by simpa using hS⟩),rfl,q _ (I.hok.fresh (Nat.le_refl _))⟩
end
end L2

end

section
namespace L2
open PySem PySem.Spec PyProof.Rows
def Rc (h:Heap)(e:Addr)(cls:Value)(T:Addr)(fl:Value):Prop:=∃oe vs oT ts,h.get? e=some oe/\oe.cls=cls/\oe.dict=none/\oe.data=.fields vs/\vs[1]? =some (.ref T)/\T≠e/\h.get? T=some oT/\oT.data=.fields ts/\ts[3]? =some fl
abbrev Keeps (F:List Addr)(ch:List Addr)(h h':Heap):Prop:=∀b o,h.get? b=some o->b∉F->b∉ch->h'.get? b=some o
abbrev Slots (F:List Addr)(h h':Heap):Prop:=∀b o,h.get? b=some o->b∈F->∃sl,h'.get? b=some {o with slots:=sl}
section
variable {M:Model}{A:Around}{E:Value->Shared->Prop}{s:Shared}{base:Heap}{env:Env}{outer:List Env}{L e:Addr}{cls:Value}{Q:Unit->Shared->Prop}
theorem Bz {oe:Obj}{vs:Array Value}{head:Value}{hadNext:Bool}(hfr:A.frames=some (env :: outer))(hl:s.heap.FunFrames base (env :: outer))(hf:env.frame=some L)(he:s.heap.get? e=some oe)(hc:oe.cls=cls)(hdd:oe.dict=none)(hd:oe.data=.fields vs)(hsz:1 < vs.size)
  (h:∀h' T,Keeps (iB (env :: outer)) [e] s.heap h'->Slots (iB (env :: outer)) s.heap h'->s.heap.get? T=none->Rc h' e cls T (rawInt L)->Q () {s with heap:=h'}) :
  wpAny M A (do let a <-frameOf env;let pl <-entryPlaceOf L hadNext;let b <-EntryCells.newEntry head a .none (rawInt L) .none pl;setField (.ref e) 1 b) Q E s:=by
 have eF:e∉iB (env :: outer):=fun z=>by
  obtain⟨_,o,q,n⟩:=hl.mem z
  rw[he] at q;cases q;exact n _ hd
 refine wpAny_bind (wpAny_frameOf_fun hfr hl hf fun h1 s1=>?_)
 refine wpAny_bind (wpAny_entryPlaceOf fun pl hpl=>?_)
 unfold EntryCells.newEntry newFields
 refine wpAny_bind (wpAny_newObj_type ?_ (hpl.sizeOk5 _ _ _ _ _))
 have e1:h1.get? e=some oe:=(s1.2.1 e eF).trans he
 have e2:=Heap.get?_push_of_some (h:=h1) {cls:=.type "traceback",dict:=none,data:=.fields ([head,.ref L,.none,rawInt L,.none] ++ (if pl.isEmpty then List.replicate 6 Value.none else pl)).toArray} e1
 have tn:h1.objs.size≠e:=Nat.ne_of_gt (Heap.lt_size e1)
 refine wpAny_setField e2 hd hsz (h _ h1.objs.size (fun b o q hb hn=>?_) (fun b o q hb=>?_) ?_ ?_)
 ·have hbe:b≠e:=by simpa using hn
  have q1:h1.get? b=some o:=(s1.2.1 b hb).trans q
  rw[Heap.get?_update_other _ _ (Ne.symm hbe)]
  exact Heap.get?_push_of_some _ q1
 ·obtain⟨sl,q1⟩:=s1.2.2 b o q
  have hbe:b≠e:=fun z=>eF (z▸hb)
  refine⟨sl,?_⟩
  rw[Heap.get?_update_other _ _ (Ne.symm hbe)]
  exact Heap.get?_push_of_some _ q1
 ·cases q:s.heap.get? h1.objs.size with
  |none=>rfl
  |some o=>obtain⟨sl,q1⟩:=s1.2.2 _ o q;exact absurd (Heap.lt_size q1) (Nat.lt_irrefl _)
 ·have d3:=Obj.data_mapFields hd (·.setIfInBounds 1 (Value.ref h1.objs.size))
  have e3:=Heap.get?_update_self (Obj.mapFields (·.setIfInBounds 1 (Value.ref h1.objs.size))) e2 (Obj.isFreed_of_fields d3)
  refine⟨_,_,_,_,e3,(Obj.cls_mapFields _ _).trans hc,?_,d3,by simp[hsz],tn,(Heap.get?_update_other _ _ (Ne.symm tn)).trans (Heap.get?_push_size h1 rfl),rfl,?_⟩
  ·unfold Obj.mapFields
   split <;> exact hdd
  ·rcases hpl with rfl | ⟨_,_,_,_,_,_,_,rfl⟩ <;> simp
theorem w8 {oe:Obj}{vs:Array Value}(hfr:A.frames=some (env :: outer))(hl:s.heap.FunFrames base (env :: outer))(hf:env.frame=some L)(he:s.heap.get? e=some oe)(hc:oe.cls=cls)(hdd:oe.dict=none)(hd:oe.data=.fields vs)(h1:vs[1]? =some .none)
  (h:∀h' T,Keeps (iB (env :: outer)) [e] s.heap h'->Slots (iB (env :: outer)) s.heap h'->s.heap.get? T=none->Rc h' e cls T (rawInt L)->Q () {s with heap:=h'}):wpAny M A (noteFrame (.ref e) env) Q E s:=by
 unfold noteFrame
 simp only[hf]
 refine wpAny_bind (wpAny_field he hd h1 ?_)
 rw[if_neg (by decide)]
 exact Bz hfr hl hf he hc hdd hd (Array.getElem?_eq_some_iff.mp h1).1 h
theorem zL {T0:Addr}(hfr:A.frames=some (env :: outer))(hl:s.heap.FunFrames base (env :: outer))(hf:env.frame=some L)(r:Rc s.heap e cls T0 .none)
  (h:∀h' T,Keeps (iB (env :: outer)) [e,T0] s.heap h'->Slots (iB (env :: outer)) s.heap h'->(s.heap.get? T=none\/T=T0)->Rc h' e cls T (rawInt L)->Q () {s with heap:=h'}):wpAny M A (noteFrame (.ref e) env) Q E s:=by
 obtain⟨oe,vs,oT,ts,he,hc,hdd,hd,h1,hTe,hT,hdT,h3⟩:=r
 have tF:T0∉iB (env :: outer):=fun z=>by
  obtain⟨_,o,q,n⟩:=hl.mem z
  rw[hT] at q;cases q;exact n _ hdT
 unfold noteFrame
 simp only[hf]
 refine wpAny_bind (wpAny_field he hd h1 ?_)
 rw[if_pos (show (Value.ref T0 != Value.none)=true from by simp)]
 refine wpAny_bind (wpAny_field hT hdT h3 ?_)
 rw[if_neg (show ¬((Value.none == rawInt L)=true) from by simp[rawInt])]
 refine wpAny_bind (wpAny_setField hT hdT (Array.getElem?_eq_some_iff.mp h3).1 ?_)
 have oth:∀b,b≠T0->(s.heap.update T0 (Obj.mapFields (·.setIfInBounds 3 Value.none))).get? b=s.heap.get? b:=fun b hb=>Heap.get?_update_other _ _ (Ne.symm hb)
 have nf:∀b o,s.heap.get? b=some o->(∀ws,o.data≠.fields ws)->b≠T0:=fun b o q n z=>by
  rw[z,hT] at q;cases q;exact n _ hdT
 refine Bz (base:=base) hfr (hl.of_keeps fun b o q n=>⟨o,(oth b (nf b o q n)).trans q,rfl⟩) hf ((oth e (Ne.symm hTe)).trans he) hc hdd hd (Array.getElem?_eq_some_iff.mp h1).1 fun h' T kp sl tn rc=>?_
 refine h h' T (fun b o q hb hn=>?_) (fun b o q hb=>?_) ?_ rc
 ·simp only[List.mem_cons,List.not_mem_nil,or_false,not_or] at hn
  exact kp b o ((oth b hn.2).trans q) hb (by simp[hn.1])
 ·exact sl b o ((oth b fun z=>tF (z▸hb)).trans q) hb
 ·by_cases z:T=T0
  ·exact .inr z
  ·exact .inl ((oth T z).symm.trans tn)
theorem yn {T:Addr}{fl:Value}(r:Rc s.heap e cls T fl)(h:∀h',Keeps [] [T] s.heap h'->Rc h' e cls T .none->Q () {s with heap:=h'}):wpAny M A (setFlight (.ref e) none) Q E s:=by
 obtain⟨oe,vs,oT,ts,he,hc,hdd,hd,h1,hTe,hT,hdT,h3⟩:=r
 have sz:3 < ts.size:=(Array.getElem?_eq_some_iff.mp h3).1
 unfold setFlight
 refine wpAny_bind (wpAny_field he hd h1 ?_)
 rw[if_pos (show (Value.ref T != Value.none)=true from by simp)]
 refine wpAny_setField hT hdT sz (h _ (fun b o q _ hn=>?_) ?_)
 ·have hb:b≠T:=by simpa using hn
  exact (Heap.get?_update_other _ _ (Ne.symm hb)).trans q
 ·have d3:=Obj.data_mapFields hdT (·.setIfInBounds 3 ((none:Option Addr).elim Value.none fun f=>rawInt f))
  exact⟨oe,vs,_,_,(Heap.get?_update_other _ _ hTe).trans he,hc,hdd,hd,h1,hTe,Heap.get?_update_self _ hT (Obj.isFreed_of_fields d3),d3,by simp[sz]⟩
end
end L2

end

section
namespace L2
open PySem PySem.Spec PyProof.Rows
section
variable {P:Program}{w:World}
theorem bw.there {H:Hp}{h:Heap}{a:Addr}{o:HO}(x:bw P w H h a o):∃u,h.get? a=some u:=by
 cases o with
 |lst xs=>obtain⟨_,_,_,_,e⟩:=x;exact⟨_,e⟩
 |tup xs=>obtain⟨_,_,_,u,e,_⟩:=x;exact⟨u,e⟩
 |dK kvs=>obtain⟨_,_,_,_,o,_,_,e,_⟩:=x;exact⟨_,e⟩
 |dT kvs=>obtain⟨_,_,_,_,o,_,_,e,_⟩:=x;exact⟨_,e⟩
 |set S n=>obtain⟨o,_,_,_,e,_⟩:=x;exact⟨_,e⟩
 |ins C dx fs=>obtain⟨_,_,_,e,_⟩:=x;exact⟨_,e⟩
 |own y=>obtain⟨_,e⟩:=x;exact⟨_,e⟩
 |xd fs=>obtain⟨_,⟨_,_,_,e,_⟩,_⟩:=x;exact⟨_,e⟩
 |cA lo hi=>obtain⟨_,_,_,e⟩:=x;exact⟨_,e⟩
 |a7 ob u=>obtain⟨e,_⟩:=x;exact⟨_,e⟩
 |tbl ps=>exact⟨_,show h.get? a=some _ from x⟩
 |met f y=>exact⟨_,show h.get? a=some _ from x⟩
 |ext φ=>obtain⟨_,⟨_,e⟩,_⟩:=x;exact⟨_,e⟩
end
structure Lies (h₀:Heap)(H:Hp)(h:Heap)(e:Addr)(cls:Value):Prop where
 free:H e=none
 new:h₀.get? e=none
 ob:∃T,Rc h e cls T .none/\H T=none/\h₀.get? T=none
def nF (P:Program)(w:World):zW:=fun outer H s E e s'=>∃ea cls H',e=.ref ea/\s'.os=s.os/\AllBare s'.gens/\Un (iB outer) [] H H' s.heap s'.heap/\kf P w H' s'.heap/\Lies s.heap H' s'.heap ea cls/\E cls none H'
section
variable {P:Program}{w:World}{M:Model}{A:Around}{E':Value->Shared->Prop}{s:Shared}{env:Env}{outer:List Env}{L e:Addr}{cls:Value}{base h₀:Heap}{H:Hp}{Q:Unit->Shared->Prop}
theorem uk {h h':Heap}(hok:kf P w H h)(k:∀b o,h.get? b=some o->(∃u,H b=some u)->h'.get? b=some o):kf P w H h':=fun a o ha=>
 (hok a o ha).stay (fun b u hb q=>k b u q (hb.elim (fun z=>⟨o,by rw[z];exact ha⟩) fun z=>⟨_,z⟩)) (fun _ q=>q) fun _ _ q=>q
theorem Bx (hfr:A.frames=some (env :: outer))(hf:env.frame=some L)(hfn:s.heap.FunFrames base (env :: outer))(hok:kf P w H s.heap)(hff:∀b∈iB (env :: outer),H b=none)(Ly:Lies h₀ H s.heap e cls)(hex:∀b o,h₀.get? b=some o->∃o',s.heap.get? b=some o')
  (hQ:∀h',(∀b o,s.heap.get? b=some o->b∉iB (env :: outer)->((∃o0,h₀.get? b=some o0)\/∃u,H b=some u)->h'.get? b=some o)->(∀b o,s.heap.get? b=some o->b∈iB (env :: outer)->∃sl,h'.get? b=some {o with slots:=sl})->Lies h₀ H h' e cls->kf P w H h'->Q () {s with heap:=h'}) :
  wpAny M A (leaving env (.ref e)) Q E' s:=by
 obtain⟨fr,nw,T0,rc,hHT,hnT⟩:=Ly
 obtain⟨oe,vs,oT,ts,he,hc,hdd,hd,h1,hTe,hT,hdT,h3⟩:=id rc
 have tF:T0∉iB (env :: outer):=fun z=>by
  obtain⟨_,o,q,n⟩:=hfn.mem z
  rw[hT] at q;cases q;exact n _ hdT
 unfold leaving
 refine wpAny_bind (zL hfr hfn hf rc fun h4 T kp sl tn rc4=>yn rc4 fun h5 kp5 rc5=>?_)
 have nT:∀b o,s.heap.get? b=some o->b≠T0->b≠T:=fun b o q n z=>by
  rcases tn with tn |tn
  ·rw[z,tn] at q;cases q
  ·exact n (z.trans tn)
 have kept:∀b o,s.heap.get? b=some o->b∉iB (env :: outer)->((∃o0,h₀.get? b=some o0)\/∃u,H b=some u)->h5.get? b=some o:=fun b o q hb hor=>by
  have be:b≠e:=fun z=>by subst z;rcases hor with⟨_,z⟩ | ⟨_,z⟩ <;> simp_all
  have bT:b≠T0:=fun z=>by subst z;rcases hor with⟨_,z⟩ | ⟨_,z⟩ <;> simp_all
  exact kp5 b o (kp b o q hb (by simp[be,bT])) (by simp) (by simp[nT b o q bT])
 have slot:∀b o,s.heap.get? b=some o->b∈iB (env :: outer)->∃sl,h5.get? b=some {o with slots:=sl}:=fun b o q hb=>by
  obtain⟨x,q4⟩:=sl b o q hb
  exact⟨x,kp5 b _ q4 (by simp) (by simp[nT b o q fun z=>tF (z▸hb)])⟩
 have fresh:H T=none/\h₀.get? T=none:=by
  rcases tn with tn |tn
  ·refine⟨?_,?_⟩
   ·cases q:H T with
    |none=>rfl
    |some u=>obtain⟨o,qo⟩:=(hok T u q).there;rw[tn] at qo;cases qo
   ·cases q:h₀.get? T with
    |none=>rfl
    |some u=>obtain⟨o,qo⟩:=hex T u q;rw[tn] at qo;cases qo
  ·rw[tn];exact⟨hHT,hnT⟩
 refine hQ h5 kept slot ⟨fr,nw,T,rc5,fresh.1,fresh.2⟩ (uk hok fun b o q hu=>kept b o q (fun z=>?_) (.inr hu))
 obtain⟨u,hu⟩:=hu
 rw[hff b z] at hu;cases hu
theorem wM {h:Heap}{args:List Value}(hfr:A.frames=some (env :: outer))(hf:env.frame=some L)(hfn:h.FunFrames base (env :: outer))(hok:kf P w H h)(hff:∀b∈iB (env :: outer),H b=none)(hex:∀b o,h₀.get? b=some o->∃o',h.get? b=some o')(hx:Heap.MadeExcOf h s.heap e cls args)
  (hQ:∀h',(∀b o,h.get? b=some o->b∉iB (env :: outer)->h'.get? b=some o)->(∀b o,h.get? b=some o->b∈iB (env :: outer)->∃sl,h'.get? b=some {o with slots:=sl})->Lies h₀ H h' e cls->kf P w H h'->Q () {s with heap:=h'}) :
  wpAny M A (leaving env (.ref e)) Q E' s:=by
 obtain⟨t,he,_,_⟩:=hx.there
 unfold leaving
 refine wpAny_bind (w8 (cls:=cls) hfr (hfn.of_keeps fun b o q _=>⟨o,hx.keeps b o q,rfl⟩) hf he rfl rfl rfl rfl fun h4 T kp sl tn rc4=>yn rc4 fun h5 kp5 rc5=>?_)
 have ne:∀b o,h.get? b=some o->b≠e:=fun b o q z=>by rw[z,hx.new] at q;cases q
 have nT:∀b o,h.get? b=some o->b≠T:=fun b o q z=>by
  have:=hx.keeps b o q
  rw[z,tn] at this;cases this
 have kept:∀b o,h.get? b=some o->b∉iB (env :: outer)->h5.get? b=some o:=fun b o q hb=>kp5 b o (kp b o (hx.keeps b o q) hb (by simp[ne b o q])) (by simp) (by simp[nT b o q])
 have slot:∀b o,h.get? b=some o->b∈iB (env :: outer)->∃sl,h5.get? b=some {o with slots:=sl}:=fun b o q hb=>by
  obtain⟨x,q4⟩:=sl b o (hx.keeps b o q) hb
  exact⟨x,kp5 b _ q4 (by simp) (by simp[nT b o q])⟩
 have fresh:∀{b:Addr},h.get? b=none->H b=none/\h₀.get? b=none:=fun {b} hb=>by
  refine⟨?_,?_⟩
  ·cases q:H b with
   |none=>rfl
   |some u=>obtain⟨o,qo⟩:=(hok b u q).there;rw[hb] at qo;cases qo
  ·cases q:h₀.get? b with
   |none=>rfl
   |some u=>obtain⟨o,qo⟩:=hex b u q;rw[hb] at qo;cases qo
 have no:h.get? T=none:=by
  cases q:h.get? T with
  |none=>rfl
  |some o=>exact absurd rfl (nT T o q)
 obtain⟨f1,f2⟩:=fresh hx.new
 obtain⟨g1,g2⟩:=fresh no
 refine hQ h5 kept slot ⟨f1,f2,T,rc5,g1,g2⟩ (uk hok fun b o q hu=>kept b o q fun z=>?_)
 obtain⟨u,hu⟩:=hu
 rw[hff b z] at hu;cases hu
end
section
variable {P:Program}{w:World}{K:PySem.W.Frag}{mg:Str->Option Value}{base:Heap}{N:List Str}{qual:Str}{scope:Scope}{f:Addr}{cd:Value}{A:Around}{outer:List Env}{s0:Shared}{H0:Hp}{E:XK}
theorem bc:Passes (nF P w) (ky (nF P w) P w K mg base N qual scope f cd A outer s0 H0 E) E:=by
 intro pins σ H s e s' I hcx
 obtain⟨ea,cls,H',rfl,os,bare,un,hok,Ly,q⟩:=hcx
 have I':=I.call' os un hok bare (fun b hb=>absurd hb (by simp))
 have old:∀{b:Addr},s.heap.get? b=none->s0.heap.get? b=none:=fun {b} hb=>by
  cases z:s0.heap.get? b with
  |none=>rfl
  |some o=>obtain⟨o',z'⟩:=I.base.there b o z (show b∉([]:List Addr) by simp);rw[hb] at z';cases z'
 have Ly0:Lies s0.heap H' s'.heap ea cls:=by
  obtain⟨fr,nw,T,rc,hHT,hnT⟩:=Ly
  exact⟨fr,old nw,T,rc,hHT,old hnT⟩
 have above:s0.heap.objs.size<=(envOfC qual scope s0.heap.objs.size f cd).locals:=I.ok.above
 refine Bx (base:=base) (h₀:=s0.heap) I'.ok.frames rfl I'.stack I'.hok I'.stkFree Ly0 (fun b o z=>I'.base.there b o z (show b∉([]:List Addr) by simp)) fun h' kept slot Ly' hok'=>?_
 have nL:∀{b:Addr} {o:Obj},s0.heap.get? b=some o->b∉iB outer->b∉iB (envOfC qual scope s0.heap.objs.size f cd :: outer):=fun {b o} z hb hm=>by
  rcases List.mem_cons.mp (I'.stkSub b hm) with e |e
  ·have:=Heap.lt_size z
   rw[e] at this
   exact absurd (Nat.lt_of_lt_of_le this above) (Nat.lt_irrefl _)
  ·exact hb e
 have inn:∀{b:Addr},b∈iB outer->b∈iB (envOfC qual scope s0.heap.objs.size f cd :: outer):=fun {b} hb=>by
  obtain⟨en,h1,h2⟩:=List.mem_filterMap.mp hb
  exact List.mem_filterMap.mpr ⟨en,List.mem_cons_of_mem _ h1,h2⟩
 refine⟨ea,cls,H',rfl,os.trans I.os,bare,⟨fun b o z n hb _=>?_,fun b o z n hb _=>?_,fun b o z n _=>I'.base.free b o z n (show b∉([]:List Addr) by simp),fun b o z _=>?_,I'.base.tups,I'.base.frzs,I'.base.tbls⟩,hok',Ly',q⟩
 ·exact kept b o (I'.base.keep b o z n hb (show b∉([]:List Addr) by simp)) (nL z hb) (.inl ⟨o,z⟩)
 ·obtain⟨sl,z1⟩:=I'.base.slot b o z n hb (show b∉([]:List Addr) by simp)
  obtain⟨sl2,z2⟩:=slot b _ z1 (inn hb)
  exact⟨sl2,z2⟩
 ·obtain⟨o',z1⟩:=I'.base.there b o z (show b∉([]:List Addr) by simp)
  by_cases hb:b∈iB (envOfC qual scope s0.heap.objs.size f cd :: outer)
  ·obtain⟨sl,z2⟩:=slot b o' z1 hb
   exact⟨_,z2⟩
  ·exact⟨o',kept b o' z1 hb (.inl ⟨o,z⟩)⟩
def Hl (C:Addr)(E:XK)(t:TA):TS:=fun _ σ H=>t σ H fun vs H1=>vs.length<=sizeLine/\E (.ref C) none H1
theorem B8 {x:Str}{C:Addr}{np cpos pos:Pos}{e0:Expr}{es:List Expr}{t:TA}{Bn newId initId:String}{bmB:List Value}(FB:ExcBaseFacts Bn newId initId bmB)(hbb:bmB.contains (.type "BaseException")=true)(q:PySem.W.excIn K C bmB newId=true)
  (hg:Gl (ky (nF P w) P w K mg base N qual scope f cd A outer s0 H0 E) x) (hm:mg x=some (.ref C)) (ha:PA (ky (nF P w) P w K mg base N qual scope f cd A outer s0 H0 E) (e0 :: es) t)
  (he:starEach (e0 :: es) (envOfC qual scope s0.heap.objs.size f cd)=(false,eval e0 (envOfC qual scope s0.heap.objs.size f cd)) :: starEach es (envOfC qual scope s0.heap.objs.size f cd):=by rfl)
  (hpl:(backTo cpos (starEach es (envOfC qual scope s0.heap.objs.size f cd))).any (·.1)=false:=by rfl) (hdb:(x == ("__debug__":Str))=false:=by decide) :
  PS (ky (nF P w) P w K mg base N qual scope f cd A outer s0 H0 E) (.Raise (some (.Call (.Name x np) (e0 :: es) [] cpos)) none pos) (Hl C E t):=by
 intro pins s σ H D I h
 have own:∀{hh:Heap},K.In hh->∃bm Nn nm qn bs hdct sn sub ab col dd k0 k1 k2 k3 k5 mN,hh.get? C=some (excClassObj nm qn C Nn bs bm hdct sn sub ab col dd k0 k1 k2 k3 k5 newId)/\hh.Ns Nn mN/\mN "__init__"=none/\OwnTail hh bmB bm:=fun {hh} X=>by
  have q:=q
  unfold PySem.W.excIn at q
  split at q
  ·rename_i dd cdd sl ho
   split at q
   ·rename_i C' bm k0 k1 k2 k3 n k5 hm hs
    simp only[Bool.and_eq_true,beq_iff_eq,Bool.not_eq_true'] at q
    obtain⟨⟨⟨⟨⟨rfl,rfl⟩,hdel⟩,ht⟩,hok⟩,hni⟩:=q
    obtain⟨nm,bs,mro,ns,qn,hd,sn,sub,ab,col,del⟩:=cdd
    dsimp only at hm hdel hok hni
    subst hm hdel
    have hsl:sl=#[k0,k1,k2,k3,some (.builtin n),k5]:=by
     obtain⟨l⟩:=sl
     simp only at hs
     rw[hs]
    subst hsl
    exact⟨bm,ns,nm,qn,bs,hd,sn,sub,ab,col,dd,k0,k1,k2,k3,k5,_,X _ _ ho,.of_isNs (PySem.W.isNs_of_in X hok),PySem.W.nsMap_none_of_in X hok hni,PySem.W.tail_of_in X ht⟩
   ·cases q
  ·cases q
 obtain⟨bm,Nn,nm,qn,bs,hdct,sn,sub,ab,col,dd,k0,k1,k2,k3,k5,mN,hC,hN,hni,TL⟩:=own I.ok.mod.kin
 have hA:=ha cpos pins s σ H _ I h
 refine wpAny_Raise_call_subT (C:=C) (nm:=nm) (q:=qn) (N:=Nn) (bs:=bs) (bm:=bm) (hdct:=hdct) (sn:=sn) (sub:=sub) (ab:=ab) (col:=col) (dd:=dd) (k0:=k0) (k1:=k1) (k2:=k2) (k3:=k3) (k5:=k5) FB (mN:=mN) (TL.hasType hbb) (I.ok.hd rfl) ?_ hni (sX I hg hm ⟨rfl,?_⟩ hdb)
 ·show (backTo cpos (starEach (e0 :: es) (envOfC qual scope s0.heap.objs.size f cd))).any (·.1)=false
  rw[he]
  show (false || (backTo cpos (starEach es (envOfC qual scope s0.heap.objs.size f cd))).any (·.1))=false
  rw[hpl];rfl
 have hA:wpAny _ _ (spliced (backTo cpos (starEach (e0 :: es) (envOfC qual scope s0.heap.objs.size f cd)))) _ _ s:=hA
 show wpAny _ _ (evalArgs (.ref C) true (backTo cpos (starEach (e0 :: es) (envOfC qual scope s0.heap.objs.size f cd))) []) _ _ s
 rw[he] at hA ⊢
 refine Calls.evalArgs_plain (bW hA fun us s2 ⟨vs,H2,I2,r2,hl2,q2⟩=>⟨rfl,by show us.length<=_;rw[<-r2.length];exact hl2,I2.bk _ _ hC,hN.keeps I2.bk,TL.keeps I2.bk,fun h' e hx=>?_⟩)
 have above:s0.heap.objs.size<=(envOfC qual scope s0.heap.objs.size f cd).locals:=I2.ok.above
 have nil:∀b:Addr,b∉([]:List Addr):=fun b=>by simp
 refine wM (s:={s2 with heap:=h'}) (h:=s2.heap) (base:=base) (h₀:=s0.heap) I2.ok.frames rfl I2.stack I2.hok I2.stkFree (fun b o z=>I2.base.there b o z (nil b)) hx fun h2 kept slot Ly hok=>?_
 have nL:∀{b:Addr} {o:Obj},s0.heap.get? b=some o->b∉iB outer->b∉iB (envOfC qual scope s0.heap.objs.size f cd :: outer):=fun {b o} z hb hm=>by
  rcases List.mem_cons.mp (I2.stkSub b hm) with e |e
  ·have:=Heap.lt_size z
   rw[e] at this
   exact absurd (Nat.lt_of_lt_of_le this above) (Nat.lt_irrefl _)
  ·exact hb e
 have inn:∀{b:Addr},b∈iB outer->b∈iB (envOfC qual scope s0.heap.objs.size f cd :: outer):=fun {b} hb=>by
  obtain⟨en,h1,h2⟩:=List.mem_filterMap.mp hb
  exact List.mem_filterMap.mpr ⟨en,List.mem_cons_of_mem _ h1,h2⟩
 refine⟨e,.ref C,H2,rfl,I2.os,I2.bare,⟨fun b o z n hb _=>?_,fun b o z n hb _=>?_,fun b o z n _=>I2.base.free b o z n (nil b),fun b o z _=>?_,I2.base.tups,I2.base.frzs,I2.base.tbls⟩,hok,Ly,q2⟩
 ·exact kept b o (I2.base.keep b o z n hb (nil b)) (nL z hb)
 ·obtain⟨sl,z1⟩:=I2.base.slot b o z n hb (nil b)
  obtain⟨sl2,z2⟩:=slot b _ z1 (inn hb)
  exact⟨sl2,z2⟩
 ·obtain⟨o',z1⟩:=I2.base.there b o z (nil b)
  by_cases hb:b∈iB (envOfC qual scope s0.heap.objs.size f cd :: outer)
  ·obtain⟨sl,z2⟩:=slot b o' z1 hb
   exact⟨_,z2⟩
  ·exact⟨o',kept b o' z1 hb⟩
end
end L2

end

section

end

section
namespace L2
open PySem PySem.Spec PyProof.Rows
def mroIn (K:PySem.W.Frag)(C:Addr):List Value:=match K.lookup C with
 |some ⟨_,_,.cls cd,_⟩=>cd.mro
 |_=>[]
end L2

end

section
namespace L2
open PySem PySem.Spec PyProof.Rows
structure BP (k:Nat)(A:Around):Prop where
 dp:A.depth + 3 * k + 5 < recursionLimit
 un:A.units + 16 * k + 200 < cLine
 gd:A.guards=some []
theorem eT.h {k:Nat}{A:Around}(r:eT k A):BP k A:=⟨r.dp,r.un,r.gd⟩
theorem BP.units {k:Nat}{A:Around}(r:BP k A):A.units + 64 < cLine:=by have:=r.un;omega
section
variable {P:Program}{w:World}{K:PySem.W.Frag}{mg:Str->Option Value}{base:Heap}
theorem CP.Ai {x qual:Str}{st:Stmt}{f:Addr}{fd:FuncData}{N ps:List Str}{k:Nat}{sp:Sp}(F:CP K x qual st f fd)(S:aF N ps (au st))(len:∀vs H Q E,sp vs H Q E->vs.length=ps.length)
  (hbody:∀(cdv:Value) (A:Around) (outer:List Env) (s:Shared) (H:Hp) (vs:List V) (Q:VK) (E:XK),eT k (A.deeper (envOfC qual (au st) s.heap.objs.size f cdv))->sp vs H Q E->
   ∃t,qW (ky (nF P w) P w K mg base N qual (au st) f cdv A outer s H E) (cx st) t/\t {nx:=fun _ H'=>Q .non H',rt:=Q} (start N vs) H):fy P w K mg base (nF P w) (k + 1) f fd ps sp:=by
 obtain⟨oc,od,kV,doc,pm,an,cdv,ct,osl,rfl,lk,hcd⟩:=F.ex
 exact EK lk hcd S len fun A outer s H vs Q E hr hsp=>hbody cdv A outer s H vs Q E hr hsp
end
end L2

end

section

end

section

end

section
namespace L2
open PySem PySem.Spec PyProof.Rows
section
variable {X:Cx}
theorem kg (hu:X.A.units + 100 < cLine):k9 X (compareOp .NotIn) (IB X.K true):=by
 intro pins s σ H x y v u Q I rx ry h
 obtain⟨p,xs,d,ds,rfl,hq,hs,hx,s1,s2,q⟩:=h
 cases ry
 obtain⟨bs,r2⟩:=hx.reads I rx
 have key:∀{e:PyData} {as:List Addr} {u:Value},SeqAt.shaped e=true->Reads s.heap u e as->SeqAt.EqAt X.A.in1 s u v (PyData.eqv e d):=fun {e as u} h1 h2=>by
  refine SeqAt.eqAt_reads _ _ _ _ _ _ _ _ h2 r2 (SeqAt.canLay_of_shaped h1) (SeqAt.canLay_of_shaped s1) ?_
  have:=SeqAt.depth_of_shaped h1
  show X.A.units + 1 + _ < _
  omega
 rcases hq with hq |hq
 ·obtain⟨its,r,pl,hz⟩:=I.list hq
  obtain⟨f,e1,e2⟩:=uh I d r hs s2
  refine SeqAt.notIn_listAt f pl.isList (fun w hw=>?_) ⟨.bl _,H,I,rfl,?_⟩
  ·obtain⟨e,as,hm,rd,ef⟩:=e2 w (by simpa using hw)
   rw[ef];exact key (s2 e hm) rd
  ·rw[show its.toArray.any f=its.any f by simp,e1];exact q
 ·obtain⟨its,r,pl,hz⟩:=I.tuple hq
  obtain⟨f,e1,e2⟩:=uh I d r hs s2
  refine SeqAt.notIn_tupleAt f pl (fun w hw=>?_) ⟨.bl _,H,I,rfl,?_⟩
  ·obtain⟨e,as,hm,rd,ef⟩:=e2 w (by simpa using hw)
   rw[ef];exact key (s2 e hm) rd
  ·rw[show its.toArray.any f=its.any f by simp,e1];exact q
end
end L2

end

section

end

section

end

section
namespace L2
open PySem PySem.Spec PyProof.Rows
abbrev D:=PyData
def kD:Key->D
 | .inl i=>.int i
 | .inr x=>.str x
mutual
inductive Rp (K:PySem.W.Frag)(G:Hp):V->D->Prop
 |non:Rp K G .non .none
 |bl (b:Bool):Rp K G (.bl b) (.bool b)
 |int (i:Int):Rp K G (.int i) (.int i)
 |str (x:Str):Rp K G (.str x) (.str x)
 |tup {a:Addr} {xs:List V} {ds:List D}:c7 K G a xs->bE K G xs ds->Rp K G (.ref a) (.tuple ds)
 |lst {a:Addr} {xs:List V} {ds:List D}:G a=some (.lst xs)->bE K G xs ds->Rp K G (.ref a) (.list ds)
 |scr {a:Addr} {ns:List Int}:fR K G a (ns.map V.int)->Rp K G (.ref a) (.dict [(.none,.list (ns.map PyData.int))])
 |dK {a:Addr} {kvs:List (Key×V)} {ds:List (D×D)}:G a=some (.dK kvs)->zR K G kvs ds->Rp K G (.ref a) (.dict ds)
 |dT {a:Addr} {kvs:List (List Key×V)} {ds:List (D×D)}:G a=some (.dT kvs)->Aa K G kvs ds->Rp K G (.ref a) (.dict ds)
inductive bE (K:PySem.W.Frag)(G:Hp):List V->List D->Prop
 |nil:bE K G [] []
 |cons {x:V} {xs:List V} {d:D} {ds:List D}:Rp K G x d->bE K G xs ds->bE K G (x :: xs) (d :: ds)
inductive zR (K:PySem.W.Frag)(G:Hp):List (Key×V)->List (D×D)->Prop
 |nil:zR K G [] []
 |cons {k:Key} {x:V} {xs:List (Key×V)} {d:D} {ds:List (D×D)}:Rp K G x d->zR K G xs ds->zR K G ((k,x) :: xs) ((kD k,d) :: ds)
inductive Aa (K:PySem.W.Frag)(G:Hp):List (List Key×V)->List (D×D)->Prop
 |nil:Aa K G [] []
 |cons {k:List Key} {x:V} {xs:List (List Key×V)} {d:D} {ds:List (D×D)}:Rp K G x d->Aa K G xs ds->Aa K G ((k,x) :: xs) ((.tuple (k.map kD),d) :: ds)
end
section
variable {K:PySem.W.Frag}{G G' H H':Hp}
theorem Rd.mono {a:Addr}{u:HO}(h:Rd G a u)(s:ao G G'):Rd G' a u:=h.elim (fun e=>.inl (s _ _ e)) fun⟨o,e⟩=>.inr ⟨o,s _ _ e⟩
mutual
theorem Rp.mono (s:ao G G'):∀{x:V} {d:D},Rp K G x d->Rp K G' x d
 |_,_,.non=>.non
 |_,_,.bl b=>.bl b
 |_,_,.int i=>.int i
 |_,_,.str x=>.str x
 |_,_,.tup h hs=>.tup (h.grow s.grow) (bE.mono s hs)
 |_,_,.lst h hs=>.lst (s _ _ h) (bE.mono s hs)
 |_,_,.scr h=>.scr (s.seq h)
 |_,_,.dK h hs=>.dK (s _ _ h) (zR.mono s hs)
 |_,_,.dT h hs=>.dT (s _ _ h) (Aa.mono s hs)
theorem bE.mono (s:ao G G'):∀{xs:List V} {ds:List D},bE K G xs ds->bE K G' xs ds
 |_,_,.nil=>.nil
 |_,_,.cons h hs=>.cons (Rp.mono s h) (bE.mono s hs)
theorem zR.mono (s:ao G G'):∀{xs:List (Key×V)} {ds:List (D×D)},zR K G xs ds->zR K G' xs ds
 |_,_,.nil=>.nil
 |_,_,.cons h hs=>.cons (Rp.mono s h) (zR.mono s hs)
theorem Aa.mono (s:ao G G'):∀{xs:List (List Key×V)} {ds:List (D×D)},Aa K G xs ds->Aa K G' xs ds
 |_,_,.nil=>.nil
 |_,_,.cons h hs=>.cons (Rp.mono s h) (Aa.mono s hs)
end
theorem bE.len:∀{xs:List V} {ds:List D},bE K G xs ds->xs.length=ds.length
 |_,_,.nil=>rfl
 |_,_,.cons _ t=>by simp[bE.len t]
theorem bE.at:∀{xs:List V} {ds:List D} {i:Nat} {d:D},bE K G xs ds->ds[i]? =some d->∃x,xs[i]? =some x/\Rp K G x d
 |_,_,_,_,.nil,e=>by simp at e
 |_,_,0,_,.cons r _,e=>by simp at e;subst e;exact⟨_,rfl,r⟩
 |_,_,i + 1,x,.cons _ t,e=>by
  obtain⟨u,h1,h2⟩:=bE.at (i:=i) (d:=x) t (by simpa using e)
  exact⟨u,by simpa using h1,h2⟩
theorem bE.at':∀{xs:List V} {ds:List D} {i:Nat} {x:V},bE K G xs ds->xs[i]? =some x->∃d,ds[i]? =some d/\Rp K G x d
 |_,_,_,_,.nil,e=>by simp at e
 |_,_,0,_,.cons r _,e=>by simp at e;subst e;exact⟨_,rfl,r⟩
 |_,_,i + 1,x,.cons _ t,e=>by
  obtain⟨u,h1,h2⟩:=bE.at' (i:=i) (x:=x) t (by simpa using e)
  exact⟨u,by simpa using h1,h2⟩
theorem bE.append:∀{xs ys:List V} {ds es:List D},bE K G xs ds->bE K G ys es->bE K G (xs ++ ys) (ds ++ es)
 |_,_,_,_,.nil,s=>s
 |_,_,_,_,.cons r t,s=>.cons r (bE.append t s)
theorem bE.snoc {xs:List V}{ds:List D}{x:V}{d:D}(h:bE K G xs ds)(q:Rp K G x d):bE K G (xs ++ [x]) (ds ++ [d]):=h.append (.cons q .nil)
theorem bE.take:∀{xs:List V} {ds:List D} (n:Nat),bE K G xs ds->bE K G (xs.take n) (ds.take n)
 |_,_,0,_=>.nil
 |_,_,_ + 1,.nil=>.nil
 |_,_,n + 1,.cons r t=>.cons r (bE.take n t)
theorem bE.drop:∀{xs:List V} {ds:List D} (n:Nat),bE K G xs ds->bE K G (xs.drop n) (ds.drop n)
 |_,_,0,r=>r
 |_,_,_ + 1,.nil=>.nil
 |_,_,n + 1,.cons _ t=>bE.drop n t
theorem bE.set {x:V}{d:D}(r:Rp K G x d):∀{xs:List V} {ds:List D} (i:Nat),bE K G xs ds->bE K G (xs.set i x) (ds.set i d)
 |_,_,_,.nil=>.nil
 |_,_,0,.cons _ t=>.cons r t
 |_,_,i + 1,.cons q t=>.cons q (bE.set r i t)
theorem bE.rep {n:Nat}{xs:List V}{ds:List D}(h:bE K G xs ds):bE K G (List.replicate n xs).flatten (List.replicate n ds).flatten:=by
 induction n with
 |zero=>exact .nil
 |succ n ih=>rw[List.replicate_succ,List.replicate_succ,List.flatten_cons,List.flatten_cons];exact h.append ih
mutual
def Af:D->Bool
 | .dict _=>false
 | .list ds=>qq ds
 | .tuple ds=>qq ds
 |_=>true
def qq:List D->Bool
 | []=>true
 |d :: ds=>Af d && qq ds
end
mutual
theorem Rp.rep:∀{x:V} {d:D},Rp K G x d->Af d=true->Rep K G x d
 |_,_,.non,_=>.non
 |_,_,.bl b,_=>.bl b
 |_,_,.int i,_=>.int i
 |_,_,.str x,_=>.str x
 |_,_,.tup h hs,e=>.tup h (bE.reps hs (by simpa[Af] using e))
 |_,_,.lst h hs,e=>.lst (.inl (.inl h)) (bE.reps hs (by simpa[Af] using e))
 |_,_,.scr _,e=>by simp[Af] at e
 |_,_,.dK _ _,e=>by simp[Af] at e
 |_,_,.dT _ _,e=>by simp[Af] at e
theorem bE.reps:∀{xs:List V} {ds:List D},bE K G xs ds->qq ds=true->j3 K G xs ds
 |_,_,.nil,_=>.nil
 |_,_,.cons h hs,e=>.cons (Rp.rep h (by simp[qq] at e;exact e.1)) (bE.reps hs (by simp[qq] at e;exact e.2))
end
def Own (K:PySem.W.Frag)(G H:Hp)(a:Addr):D->Prop
 | .list ds=>∃xs,H a=some (.lst xs)/\bE K G xs ds
 | .dict ds=>(∃kvs,H a=some (.dK kvs)/\zR K G kvs ds)\/∃kvs,H a=some (.dT kvs)/\Aa K G kvs ds
 |_=>False
theorem Own.obj {a:Addr}{d:D}(h:Own K G H a d):∃o,H a=some o:=by
 cases d <;> first |exact h.elim |skip
 ·obtain⟨xs,e,_⟩:=h;exact⟨_,e⟩
 ·rcases h with⟨_,e,_⟩ | ⟨_,e,_⟩ <;> exact⟨_,e⟩
theorem Own.mono {a:Addr}{d:D}(h:Own K G H a d)(s:ao G G')(m:∀o,H a=some o->H' a=some o):Own K G' H' a d:=by
 cases d <;> first |exact h.elim |skip
 ·obtain⟨xs,e,r⟩:=h;exact⟨xs,m _ e,r.mono s⟩
 ·rcases h with⟨k,e,r⟩ | ⟨k,e,r⟩
  ·exact .inl ⟨k,m _ e,r.mono s⟩
  ·exact .inr ⟨k,m _ e,r.mono s⟩
theorem Own.rp {a:Addr}{d:D}(h:Own K G H a d)(n:G a=none){G':Hp}(s:ao G G')(e:∀o,H a=some o->G' a=some o):Rp K G' (.ref a) d:=by
 cases d <;> first |exact h.elim |skip
 ·obtain⟨xs,q,r⟩:=h;exact .lst (e _ q) (r.mono s)
 ·rcases h with⟨k,q,r⟩ | ⟨k,q,r⟩
  ·exact .dK (e _ q) (r.mono s)
  ·exact .dT (e _ q) (r.mono s)
def kU (K:PySem.W.Frag)(B:Option Addr)(G H:Hp)(v:V)(d:D):Prop:=Rp K G v d\/∃a,v=.ref a/\B≠some a/\Own K G H a d
def hV (B:Option Addr)(H H':Hp):Prop:=∀b o,H b=some o->B≠some b->H' b=some o
theorem hV.refl (B:Option Addr)(H:Hp):hV B H H:=fun _ _ h _=>h
theorem hV.trans {B:Option Addr}{H1:Hp}(x:hV B H H1)(y:hV B H1 H'):hV B H H':=fun b o h n=>y b o (x b o h n) n
theorem ao.mov (s:ao H H')(B:Option Addr):hV B H H':=fun b o h _=>s b o h
theorem kU.mono {B:Option Addr}{v:V}{d:D}(h:kU K B G H v d)(s:ao G G')(m:hV B H H'):kU K B G' H' v d:=by
 rcases h with h | ⟨a,e,n,h⟩
 ·exact .inl (h.mono s)
 ·exact .inr ⟨a,e,n,h.mono s fun o q=>m a o q n⟩
theorem kU.rpH {B:Option Addr}{v:V}{d:D}(h:kU K B G H v d)(s:ao G H):Rp K H v d:=by
 rcases h with h | ⟨a,rfl,n,h⟩
 ·exact h.mono s
 ·cases d <;> first |exact h.elim |skip
  ·obtain⟨xs,q,r⟩:=h;exact .lst q (r.mono s)
  ·rcases h with⟨k,q,r⟩ | ⟨k,q,r⟩
   ·exact .dK q (r.mono s)
   ·exact .dT q (r.mono s)
theorem kU.list {B:Option Addr}{v:V}{ds:List D}(h:kU K B G H v (.list ds))(s:ao G H):∃a xs,v=.ref a/\Rd H a (.lst xs)/\bE K G xs ds:=by
 rcases h with h | ⟨a,rfl,n,xs,q,r⟩
 ·cases h with
  |lst h r=>exact⟨_,_,rfl,.inl (s _ _ h),r⟩
 ·exact⟨a,xs,rfl,.inl q,r⟩
theorem kU.tuple {B:Option Addr}{v:V}{ds:List D}(h:kU K B G H v (.tuple ds))(s:ao G H):∃a xs,v=.ref a/\c7 K H a xs/\bE K G xs ds:=by
 rcases h with h | ⟨a,rfl,n,h⟩
 ·cases h with
  |tup h r=>exact⟨_,_,rfl,h.grow s.grow,r⟩
 ·exact h.elim
theorem kU.int {B:Option Addr}{v:V}{i:Int}(h:kU K B G H v (.int i)):v=.int i:=by
 rcases h with h | ⟨a,rfl,n,h⟩
 ·cases h;rfl
 ·exact h.elim
theorem kU.bool {B:Option Addr}{v:V}{b:Bool}(h:kU K B G H v (.bool b)):v=.bl b:=by
 rcases h with h | ⟨a,rfl,n,h⟩
 ·cases h;rfl
 ·exact h.elim
theorem kU.str {B:Option Addr}{v:V}{x:Str}(h:kU K B G H v (.str x)):v=.str x:=by
 rcases h with h | ⟨a,rfl,n,h⟩
 ·cases h;rfl
 ·exact h.elim
theorem kU.none {B:Option Addr}{v:V}(h:kU K B G H v .none):v=.non:=by
 rcases h with h | ⟨a,rfl,n,h⟩
 ·cases h;rfl
 ·exact h.elim
end
def Fz:HO->Prop
 | .tup _=>True
 | .a7 _ _=>True
 |_=>False
def Mx (H:Hp)(b:Addr):Prop:=H b≠none/\∀o,H b=some o->¬Fz o
theorem Mx.lst {H:Hp}{b:Addr}{xs:List V}(h:H b=some (.lst xs)):Mx H b:=⟨by rw[h];simp,fun ys z=>by rw[h] at z;cases z;exact fun y=>y⟩
theorem Mx.same {H H':Hp}{b:Addr}(h:Mx H b)(m:∀o,H b=some o->H' b=some o):Mx H' b:=by
 obtain⟨h1,h2⟩:=h
 cases e:H b with
 |none=>exact absurd e h1
 |some o=>
  refine⟨by rw[m o e];simp,fun xs z=>?_⟩
  rw[m o e] at z
  cases z
  exact h2 o e
theorem Own.mx {K:PySem.W.Frag}{G H:Hp}{a:Addr}{d:D}(h:Own K G H a d):Mx H a:=by
 cases d <;> first |exact h.elim |skip
 ·obtain⟨xs,e,_⟩:=h;exact Mx.lst e
 ·rcases h with⟨k,e,_⟩ | ⟨k,e,_⟩ <;> exact⟨by rw[e];simp,fun ys z=>by rw[e] at z;cases z;exact fun y=>y⟩
open Classical in
noncomputable def lL (G H:Hp):Hp:=fun b=>match G b with
 |some o=>some o
 |none=>match H b with
  |some o=>if Fz o then some o else none
  |none=>none
theorem rn {G H:Hp}:ao G (lL G H):=fun b o e=>by unfold lL;rw[e]
theorem yc {G H:Hp}(s:ao G H){b:Addr}{o:HO}(e:H b=some o)(f:Fz o):lL G H b=some o:=by
 unfold lL
 cases q:G b with
 |some u=>have:=s b u q;rw[e] at this;cases this;rfl
 |none=>simp only[e];rw[if_pos f]
theorem u9 {G H:Hp}(s:ao G H):ao (lL G H) H:=fun b o e=>by
 unfold lL at e
 cases q:G b with
 |some u=>rw[q] at e;cases e;exact s b _ q
 |none=>
  rw[q] at e
  cases q2:H b with
  |none=>rw[q2] at e;cases e
  |some u=>
   rw[q2] at e
   dsimp only at e
   split at e
   ·cases e;rfl
   ·cases e
theorem x6 {G H H':Hp}(hh:ao H H'){b:Addr}(m:Mx H b):lL G H' b=G b:=by
 unfold lL
 cases q:G b with
 |some u=>rfl
 |none=>
  obtain⟨h1,h2⟩:=m
  cases e:H b with
  |none=>exact absurd e h1
  |some o=>
   simp only[hh b o e]
   rw[if_neg (h2 o e)]
theorem pP {K:PySem.W.Frag}{G H:Hp}(s:ao G H){a:Addr}{xs:List V}(h:c7 K H a xs):c7 K (lL G H) a xs:=by
 rcases h with (h | ⟨o,h⟩) |h
 ·exact .inl (.inl (yc s h trivial))
 ·exact .inl (.inr ⟨o,yc s h trivial⟩)
 ·exact .inr h
structure Fx where
 K:PySem.W.Frag
 H0:Hp
 G0:Hp
 par:List Addr
 ca:Str->Addr
 br:Nat->Bool
 bx:Option Addr
inductive Sl where
 |no |fz (d:D) |ow (d:D) |bx |br (d:D)
abbrev En:=List Sl
inductive Nv where
 |no |da (d:D) |bx
def Sl.val:Sl->Nv
 | .no=>.no
 | .fz d=>.da d
 | .ow d=>.da d
 | .br d=>.da d
 | .bx=>.bx
def vl (env:En):List Nv:=env.map Sl.val
def Kv (Γ:Fx)(B:Option Addr)(G H:Hp)(i:Nat)(o:Option (Option V)):Sl->Prop
 | .no=>True
 | .fz d=>∃v,o=some (some v)/\Rp Γ.K G v d
 | .ow d=>∃a,o=some (some (.ref a))/\Γ.H0 a=none/\G a=none/\B≠some a/\Own Γ.K G H a d
 | .bx=>∃a,o=some (some (.ref a))/\B=some a
 | .br d=>Γ.br i=true/\∃a,o=some (some (.ref a))/\B≠some a/\a∉Γ.par/\Own Γ.K G H a d
structure SR (Γ:Fx)(B:Option Addr)(G H:Hp)(σ:St)(env:En)(β:Int):Prop where
 sub:ao G H
 old:ao Γ.G0 G
 new:∀b,Mx Γ.H0 b->Γ.G0 b=none->G b=none
 keep:∀b o,Γ.H0 b=some o->b∉Γ.par->H b=some o
 pin:∀b,b∈Γ.par->Mx H b
 fix:∀b,Γ.bx=some b->B=some b
 box:∀b,B=some b->H b=some (.lst [.int β])/\G b=none/\(b∈Γ.par\/Γ.H0 b=none)
 len:σ.length=env.length
 slot:∀(i:Nat) (s:Sl),env[i]? =some s->Kv Γ B G H i (σ[i]?) s
 sep:∀(i j:Nat) (a:Addr) (d e:D),env[i]? =some (.ow d)->env[j]? =some (.ow e)->σ[i]? =some (some (.ref a))->σ[j]? =some (some (.ref a))->i=j
structure Ext (G H G' H':Hp):Prop where
 hh:ao H H'
 gg:ao G G'
 gh:ao G' H'
 on:∀b,Mx H b->G' b=G b
theorem Ext.refl {G H:Hp}(s:ao G H):Ext G H G H:=⟨ao.refl _,ao.refl _,s,fun _ _=>rfl⟩
theorem Ext.tups {G H H':Hp}(s:ao G H)(hh:ao H H'):Ext G H (lL G H') H':=⟨hh,rn,u9 (s.trans hh),fun _ m=>x6 hh m⟩
theorem Ext.new {G H:Hp}(s:ao G H){p:Addr}{o:HO}(h:H p=none):Ext G H (upd G p o) (upd H p o):=by
 refine⟨ao.new h,ao.new (s.free h),fun b u e=>?_,fun b hb=>?_⟩
 ·by_cases z:b=p
  ·subst z;rw[aq] at e ⊢;exact e
  ·rw[ay z] at e ⊢;exact s b u e
 ·exact ay (fun z=>hb.1 (by rw[z];exact h))
theorem Ext.own {G H:Hp}(s:ao G H){p:Addr}{o:HO}(h:H p=none):Ext G H G (upd H p o):=
 ⟨ao.new h,ao.refl _,s.trans (ao.new h),fun _ _=>rfl⟩
theorem Ext.trans {G H G1 H1 G2 H2:Hp}(x:Ext G H G1 H1)(y:Ext G1 H1 G2 H2):Ext G H G2 H2:=by
 refine⟨x.hh.trans y.hh,x.gg.trans y.gg,y.gh,fun b hb=>?_⟩
 rw[y.on b (hb.same fun o e=>x.hh b o e),x.on b hb]
section
variable {Γ:Fx}{B:Option Addr}{G H G' H':Hp}{σ:St}{env:En}{β:Int}
theorem SR.there (I:SR Γ B G H σ env β){b:Addr}(h:Γ.H0 b≠none):H b≠none:=by
 by_cases hp:b∈Γ.par
 ·exact (I.pin b hp).1
 ·cases e:Γ.H0 b with
  |none=>exact absurd e h
  |some o=>rw[I.keep b o e hp];simp
theorem SR.thereM (I:SR Γ B G H σ env β){b:Addr}(h:Mx Γ.H0 b):Mx H b:=by
 by_cases hp:b∈Γ.par
 ·exact I.pin b hp
 ·exact h.same fun o e=>I.keep b o e hp
theorem SR.ext (I:SR Γ B G H σ env β)(x:Ext G H G' H'):SR Γ B G' H' σ env β:=by
 refine⟨x.gh,I.old.trans x.gg,fun b h1 h2=>?_,fun b o h1 h2=>x.hh b o (I.keep b o h1 h2),fun b hb=>?_,I.fix,fun b e=>?_,I.len,fun i s e=>?_,I.sep⟩
 ·rw[x.on b (I.thereM h1)];exact I.new b h1 h2
 ·exact (I.pin b hb).same fun o e=>x.hh b o e
 ·obtain⟨h1,h2,h3⟩:=I.box b e
  exact⟨x.hh b _ h1,by rw[x.on b (Mx.lst h1)];exact h2,h3⟩
 ·have q:=I.slot i s e
  cases s with
  |no=>trivial
  |fz d=>obtain⟨v,h1,h2⟩:=q;exact⟨v,h1,h2.mono x.gg⟩
  |ow d=>
   obtain⟨a,h1,h2,h3,h4,h5⟩:=q
   exact⟨a,h1,h2,by rw[x.on a h5.mx];exact h3,h4,h5.mono x.gg fun o q=>x.hh a o q⟩
  |bx=>exact q
  |br d=>obtain⟨b1,a,h1,h4,hp,h5⟩:=q;exact⟨b1,a,h1,h4,hp,h5.mono x.gg fun o q=>x.hh a o q⟩
def iH (env:En)(i:Nat):En:=match env[i]? with
 |some (.ow d)=>env.set i (.fz d)
 |_=>env
def a7 (L:List Nat)(env:En):En:=L.foldl iH env
theorem bP (L M:List Nat)(env:En):a7 (L ++ M) env=a7 M (a7 L env):=by unfold a7;rw[List.foldl_append]
theorem wz (env:En)(i:Nat)(s:Sl)(h:∀t,env[i]? =some t->t.val=s.val):vl (env.set i s)=vl env:=by
 unfold vl
 apply List.ext_getElem?
 intro j
 rw[List.getElem?_map,List.getElem?_map,List.getElem?_set]
 by_cases e:i=j
 ·subst e
  by_cases hi:i < env.length
  ·simp only[if_true,hi]
   have:=h _ (List.getElem?_eq_getElem hi)
   simp[List.getElem?_eq_getElem hi,this]
  ·simp only[if_true,hi,if_false]
   rw[List.getElem?_eq_none (by omega)]
 ·simp[e]
theorem Ez (env:En)(i:Nat):vl (iH env i)=vl env:=by
 unfold iH
 split
 ·rename_i d e
  exact wz _ _ _ fun t ht=>by rw[e] at ht;cases ht;rfl
 ·rfl
theorem df (L:List Nat)(env:En):vl (a7 L env)=vl env:=by
 unfold a7
 induction L generalizing env with
 |nil=>rfl
 |cons i L ih=>rw[List.foldl_cons,ih,Ez]
theorem Fe {i:Nat}{d:D}(h:(vl env)[i]? =some (.da d)):env[i]? =some (.fz d)\/env[i]? =some (.ow d)\/env[i]? =some (.br d):=by
 unfold vl at h
 rw[List.getElem?_map] at h
 cases e:env[i]? with
 |none=>rw[e] at h;simp at h
 |some s=>
  rw[e] at h
  cases s with
  |no=>simp[Sl.val] at h
  |fz d'=>simp[Sl.val] at h;subst h;exact .inl rfl
  |ow d'=>simp[Sl.val] at h;subst h;exact .inr (.inl rfl)
  |bx=>simp[Sl.val] at h
  |br d'=>simp[Sl.val] at h;subst h;exact .inr (.inr rfl)
theorem HL {i:Nat}(h:(vl env)[i]? =some .bx):env[i]? =some .bx:=by
 unfold vl at h
 rw[List.getElem?_map] at h
 cases e:env[i]? with
 |none=>rw[e] at h;simp at h
 |some s=>
  rw[e] at h
  cases s with
  |bx=>rfl
  |_=>simp[Sl.val] at h
theorem SR.freeze (I:SR Γ B G H σ env β)(i:Nat)(hb:Γ.br i=false){d:D}(h:(vl env)[i]? =some (.da d)):∃G' v,SR Γ B G' H σ (iH env i) β/\ao G G'/\σ[i]? =some (some v)/\Rp Γ.K G' v d:=by
 rcases Fe h with e |e |e
 ·obtain⟨v,h1,h2⟩:=I.slot i _ e
  exact⟨G,v,by unfold iH;rw[e];exact I,ao.refl _,h1,h2⟩
 rotate_left
 ·obtain⟨z,_⟩:=I.slot i _ e
  rw[hb] at z;cases z
 ·obtain⟨a,h1,h2,h3,h4,h5⟩:=I.slot i _ e
  obtain⟨o,ho⟩:=h5.obj
  have sG:ao G (upd G a o):=ao.new h3
  have hi:i < env.length:=(List.getElem?_eq_some_iff.mp e).1
  have hr:Rp Γ.K (upd G a o) (.ref a) d:=h5.rp h3 sG fun o' q=>by rw[ho] at q;cases q;exact aq
  refine⟨upd G a o,.ref a,?_,sG,h1,hr⟩
  unfold iH
  rw[e]
  refine⟨fun b u q=>?_,I.old.trans sG,fun b n1 n2=>?_,I.keep,I.pin,I.fix,fun b q=>?_,by rw[List.length_set];exact I.len,fun j s q=>?_,fun j k c d1 d2 q1 q2 q3 q4=>?_⟩
  ·by_cases z:b=a
   ·subst z;rw[aq] at q;cases q;exact ho
   ·rw[ay z] at q;exact I.sub b u q
  ·rw[ay (fun z=>n1.1 (by rw[z];exact h2))];exact I.new b n1 n2
  ·obtain⟨k1,k2,k3⟩:=I.box b q
   exact⟨k1,by rw[ay (fun z=>h4 (by rw[<-z];exact q))];exact k2,k3⟩
  ·by_cases z:j=i
   ·subst z
    rw[List.getElem?_set_self hi] at q
    cases q
    exact⟨.ref a,h1,hr⟩
   ·rw[List.getElem?_set_ne (Ne.symm z)] at q
    have w:=I.slot j s q
    cases s with
    |no=>trivial
    |fz d'=>obtain⟨v,w1,w2⟩:=w;exact⟨v,w1,w2.mono sG⟩
    |ow d'=>
     obtain⟨c,w1,w2,w3,w4,w5⟩:=w
     have ca:c≠a:=fun z2=>z (I.sep j i c d' d q e w1 (by rw[z2];exact h1))
     exact⟨c,w1,w2,by rw[ay ca];exact w3,w4,w5.mono sG fun o q=>q⟩
    |bx=>exact w
    |br d'=>obtain⟨b1,c,w1,w4,wp,w5⟩:=w;exact⟨b1,c,w1,w4,wp,w5.mono sG fun o q=>q⟩
  ·have ne:∀{j:Nat} {d':D},(env.set i (Sl.fz d))[j]? =some (.ow d')->env[j]? =some (.ow d'):=fun {j d'} q=>by
    by_cases z:j=i
    ·subst z;rw[List.getElem?_set_self hi] at q;cases q
    ·rw[List.getElem?_set_ne (Ne.symm z)] at q;exact q
   exact I.sep j k c d1 d2 (ne q1) (ne q2) q3 q4
theorem SR.a7 (I:SR Γ B G H σ env β)(L:List Nat)(hb:∀i,i∈L->Γ.br i=false):∃G',SR Γ B G' H σ (a7 L env) β/\ao G G':=by
 induction L generalizing env G with
 |nil=>exact⟨G,I,ao.refl _⟩
 |cons i L ih=>
  show ∃G',SR Γ B G' H σ (L2.a7 L (iH env i)) β/\ao G G'
  have key:∃G1,SR Γ B G1 H σ (iH env i) β/\ao G G1:=by
   cases e:env[i]? with
   |none=>exact⟨G,by unfold iH;rw[e];exact I,ao.refl _⟩
   |some s=>
    cases s with
    |ow d=>
     obtain⟨G1,v,h1,h2,_⟩:=I.freeze i (hb i (List.mem_cons_self ..)) (d:=d) (by unfold vl;rw[List.getElem?_map,e];rfl)
     exact⟨G1,h1,h2⟩
    |_=>exact⟨G,by unfold iH;rw[e];exact I,ao.refl _⟩
  obtain⟨G1,I1,s1⟩:=key
  obtain⟨G2,I2,s2⟩:=ih I1 fun j hj=>hb j (List.mem_cons_of_mem _ hj)
  exact⟨G2,I2,s1.trans s2⟩
theorem SR.set (I:SR Γ B G H σ env β){i:Nat}(hi:i < env.length){v:V}{d:D}(h:Rp Γ.K G v d):SR Γ B G H (σ.set i (some v)) (env.set i (.fz d)) β:=by
 have hs:i < σ.length:=by rw[I.len];exact hi
 refine⟨I.sub,I.old,I.new,I.keep,I.pin,I.fix,I.box,by rw[List.length_set,List.length_set];exact I.len,fun j s q=>?_,fun j k c d1 d2 q1 q2 q3 q4=>?_⟩
 ·by_cases z:j=i
  ·subst z
   rw[List.getElem?_set_self hi] at q
   cases q
   exact⟨v,by rw[List.getElem?_set_self hs],h⟩
  ·rw[List.getElem?_set_ne (Ne.symm z)] at q ⊢
   exact I.slot j s q
 ·have ne:∀{j:Nat} {d':D},(env.set i (Sl.fz d))[j]? =some (.ow d')->j≠i/\env[j]? =some (.ow d'):=fun {j d'} q=>by
   by_cases z:j=i
   ·subst z;rw[List.getElem?_set_self hi] at q;cases q
   ·rw[List.getElem?_set_ne (Ne.symm z)] at q;exact⟨z,q⟩
  obtain⟨n1,e1⟩:=ne q1
  obtain⟨n2,e2⟩:=ne q2
  rw[List.getElem?_set_ne (Ne.symm n1)] at q3
  rw[List.getElem?_set_ne (Ne.symm n2)] at q4
  exact I.sep j k c d1 d2 e1 e2 q3 q4
theorem SR.setOw (I:SR Γ B G H σ env β){i:Nat}(hi:i < env.length){a:Addr}{d:D}(h0:Γ.H0 a=none)(hg:G a=none)(hb:B≠some a)(h:Own Γ.K G H a d)(hn:∀(j:Nat) (d':D),env[j]? =some (.ow d')->j≠i->σ[j]?≠some (some (.ref a))):SR Γ B G H (σ.set i (some (.ref a))) (env.set i (.ow d)) β:=by
 have hs:i < σ.length:=by rw[I.len];exact hi
 refine⟨I.sub,I.old,I.new,I.keep,I.pin,I.fix,I.box,by rw[List.length_set,List.length_set];exact I.len,fun j s q=>?_,fun j k c d1 d2 q1 q2 q3 q4=>?_⟩
 ·by_cases z:j=i
  ·subst z
   rw[List.getElem?_set_self hi] at q
   cases q
   exact⟨a,by rw[List.getElem?_set_self hs],h0,hg,hb,h⟩
  ·rw[List.getElem?_set_ne (Ne.symm z)] at q ⊢
   exact I.slot j s q
 ·by_cases z1:j=i
  ·by_cases z2:k=i
   ·rw[z1,z2]
   ·subst z1
    rw[List.getElem?_set_ne (Ne.symm z2)] at q2 q4
    rw[List.getElem?_set_self hs] at q3
    cases q3
    exact absurd q4 (hn k d2 q2 z2)
  ·by_cases z2:k=i
   ·subst z2
    rw[List.getElem?_set_ne (Ne.symm z1)] at q1 q3
    rw[List.getElem?_set_self hs] at q4
    cases q4
    exact absurd q3 (hn j d1 q1 z1)
   ·rw[List.getElem?_set_ne (Ne.symm z1)] at q1 q3
    rw[List.getElem?_set_ne (Ne.symm z2)] at q2 q4
    exact I.sep j k c d1 d2 q1 q2 q3 q4
theorem SR.fresh (I:SR Γ B G H σ env β){a:Addr}(h:H a=none):Γ.H0 a=none/\G a=none/\B≠some a/\∀(j:Nat) (d:D),env[j]? =some (.ow d)->σ[j]?≠some (some (.ref a)):=by
 have hB:B≠some a:=fun z=>by rw[(I.box a z).1] at h;cases h
 refine⟨?_,I.sub.free h,hB,fun j d e z=>?_⟩
 ·cases e:Γ.H0 a with
  |none=>rfl
  |some o=>exact absurd h (I.there (by rw[e];simp))
 ·obtain⟨c,h1,_,_,_,h5⟩:=I.slot j _ e
  rw[z] at h1
  cases h1
  obtain⟨o,ho⟩:=h5.obj
  rw[h] at ho;cases ho
theorem SR.write (I:SR Γ B G H σ env β)(hb:∀j,Γ.br j=false){i:Nat}{a:Addr}{d d':D}{o:HO}(e:env[i]? =some (.ow d))(ea:σ[i]? =some (some (.ref a)))(h:∀H',H' a=some o->ao G H'->Own Γ.K G H' a d'):SR Γ B G (upd H a o) σ (env.set i (.ow d')) β:=by
 obtain⟨a',h1,h2,h3,h4,h5⟩:=I.slot i _ e
 rw[ea] at h1;cases h1
 have hi:i < env.length:=(List.getElem?_eq_some_iff.mp e).1
 have sub:ao G (upd H a o):=fun b u q=>by rw[ay (fun z=>by rw[z,h3] at q;cases q)];exact I.sub b u q
 refine⟨sub,I.old,I.new,fun b u q n=>?_,fun b q=>?_,I.fix,fun b q=>?_,by rw[List.length_set];exact I.len,fun j s q=>?_,fun j k c d1 d2 q1 q2 q3 q4=>?_⟩
 ·rw[ay (fun z=>by rw[z,h2] at q;cases q)];exact I.keep b u q n
 ·by_cases z:b=a
  ·subst z;exact (h _ aq sub).mx
  ·exact (I.pin b q).same fun o e=>by rw[ay z];exact e
 ·obtain⟨k1,k2,k3⟩:=I.box b q
  exact⟨by rw[ay (fun z=>h4 (by rw[<-z];exact q))];exact k1,k2,k3⟩
 ·by_cases z:j=i
  ·subst z
   rw[List.getElem?_set_self hi] at q
   cases q
   exact⟨a,ea,h2,h3,h4,h _ aq sub⟩
  ·rw[List.getElem?_set_ne (Ne.symm z)] at q
   have w:=I.slot j s q
   cases s with
   |no=>trivial
   |fz d1=>exact w
   |ow d1=>
    obtain⟨c,w1,w2,w3,w4,w5⟩:=w
    have ca:c≠a:=fun z2=>z (I.sep j i c d1 d q e w1 (by rw[z2];exact ea))
    exact⟨c,w1,w2,w3,w4,w5.mono (ao.refl _) fun o q=>by rw[ay ca];exact q⟩
   |bx=>exact w
   |br d1=>obtain⟨b1,_⟩:=w;rw[hb j] at b1;cases b1
 ·have back:∀{j:Nat} {d1:D},(env.set i (Sl.ow d'))[j]? =some (.ow d1)->∃d2,env[j]? =some (.ow d2):=fun {j d1} q=>by
   by_cases z:j=i
   ·subst z;exact⟨d,e⟩
   ·rw[List.getElem?_set_ne (Ne.symm z)] at q;exact⟨d1,q⟩
  obtain⟨_,b1⟩:=back q1
  obtain⟨_,b2⟩:=back q2
  exact I.sep j k c _ _ b1 b2 q3 q4
end
end L2

end

section
namespace L2
open PySem PySem.Spec PyProof.Rows
inductive R (α:Type) where
 |ok (a:α) (β:Int)
 |exc (c:Str)
 |bad
def R.bnd {α γ:Type}(r:R α)(k:α->Int->R γ):R γ:=match r with
 | .ok a β=>k a β
 | .exc c=>.exc c
 | .bad=>.bad
def R.of {α:Type}(o:Option α)(β:Int):R α:=match o with
 |some a=>.ok a β
 |none=>.bad
abbrev VF (α:Type):=List Nv->Int->R α
def Kp (Γ:Fx)(H':Hp):Prop:=∀b o,Γ.H0 b=some o->b∉Γ.par->H' b=some o
def Out {α:Type}(Γ:Fx)(E:XK)(r:R α)(P:α->Int->Prop):Prop:=match r with
 | .ok a β=>P a β
 | .exc c=>∀H',Kp Γ H'->E (.ref (Γ.ca c)) none H'
 | .bad=>False
section
variable {α γ:Type}{Γ:Fx}{E:XK}
theorem Out.bnd {r:R α}{k:α->Int->R γ}{P:γ->Int->Prop}(h:Out Γ E (r.bnd k) P):Out Γ E r fun a β=>Out Γ E (k a β) P:=by
 cases r with
 |ok a β=>exact h
 |exc c=>exact h
 |bad=>exact h
theorem Out.imp {r:R α}{P P':α->Int->Prop}(h:Out Γ E r P)(i:∀a β,P a β->P' a β):Out Γ E r P':=by
 cases r with
 |ok a β=>exact i a β h
 |exc c=>exact h
 |bad=>exact h
theorem Out.of {o:Option α}{β:Int}{P:α->Int->Prop}(h:Out Γ E (R.of o β) P):∃a,o=some a/\P a β:=by
 cases o with
 |none=>exact h.elim
 |some a=>exact⟨a,rfl,h⟩
end
inductive Md where
 |b |v |w
def VO (K:PySem.W.Frag)(B:Option Addr)(H G' H':Hp):Md->D->V->Prop
 | .b,d,v=>kU K B G' H' v d
 | .v,d,v=>Rp K G' v d
 | .w,d,v=>∃a,v=.ref a/\H a=none/\G' a=none/\Own K G' H' a d
def pT (Γ:Fx)(E:XK)(f:VF D)(L:List Nat)(md:Md):TE:=fun σ H Q=>∃env G B β,SR Γ B G H σ env β/\
 Out Γ E (f (vl env) β) fun d β'=>∀v G' H',SR Γ B G' H' σ (a7 L env) β'->ao G G'->hV B H H'->VO Γ.K B H G' H' md d v->Q v H'
def SE (X:Cx)(Γ:Fx)(E:XK)(e:Expr)(f:VF D)(L:List Nat)(md:Md):Prop:=PE X e (pT Γ E f L md)
def qT (Γ:Fx)(E:XK)(f:VF Bool)(L:List Nat):TT:=fun σ H Q=>∃env G B β,SR Γ B G H σ env β/\
 Out Γ E (f (vl env) β) fun c β'=>∀G' H',SR Γ B G' H' σ (a7 L env) β'->ao G G'->hV B H H'->Q c H'
def Ae (X:Cx)(Γ:Fx)(E:XK)(e:Expr)(f:VF Bool)(L:List Nat):Prop:=PT X e (qT Γ E f L)
def pO (X:Cx)(Γ:Fx)(E:XK)(e:Expr)(f:VF Bool)(L:List Nat):Prop:=PW X e (qT Γ E f L)
def aT (Γ:Fx)(E:XK)(f:VF (List D))(L:List Nat):TA:=fun σ H Q=>∃env G B β,SR Γ B G H σ env β/\
 Out Γ E (f (vl env) β) fun ds β'=>∀vs G' H',SR Γ B G' H' σ (a7 L env) β'->ao G G'->hV B H H'->bE Γ.K G' vs ds->Q vs H'
def SA (X:Cx)(Γ:Fx)(E:XK)(es:List Expr)(f:VF (List D))(L:List Nat):Prop:=PA X es (aT Γ E f L)
theorem PE.post' {X:Cx}{e:Expr}{t u:TE}(h:PE X e t)(m:∀σ H Q,u σ H Q->t σ H Q):PE X e u:=fun pins s σ H Q I q=>h pins s σ H Q I (m σ H Q q)
theorem PT.post {X:Cx}{e:Expr}{t u:TT}(h:PT X e t)(m:∀σ H Q,u σ H Q->t σ H Q):PT X e u:=fun pins s σ H Q I q=>h pins s σ H Q I (m σ H Q q)
theorem PW.post {X:Cx}{e:Expr}{t u:TT}(h:PW X e t)(m:∀σ H Q,u σ H Q->t σ H Q):PW X e u:=fun wh pins s σ H Q I q=>h wh pins s σ H Q I (m σ H Q q)
theorem PA.post {X:Cx}{es:List Expr}{t u:TA}(h:PA X es t)(m:∀σ H Q,u σ H Q->t σ H Q):PA X es u:=fun pos pins s σ H Q I q=>h pos pins s σ H Q I (m σ H Q q)
theorem PS.post {X:Cx}{st:Stmt}{t u:TS}(h:PS X st t)(m:∀D σ H,u D σ H->t D σ H):PS X st u:=fun pins s σ H D I q=>h pins s σ H D I (m D σ H q)
def dat:Option Nv->Option D
 |some (.da d)=>some d
 |_=>none
def gv (i:Nat):VF D:=fun vs β=>R.of (dat vs[i]?) β
def cst (d:D):VF D:=fun _ β=>.ok d β
section
variable {X:Cx}{Γ:Fx}{E:XK}{e a b c:Expr}{f fa fb fc:VF D}{L La Lb Lc:List Nat}{md ma mb mc:Md}{pos:Pos}
theorem join_some {o:Option Nv}{d:D}(h:dat o=some d):o=some (.da d):=by
 cases o with
 |none=>cases h
 |some o=>cases o with
  |da x=>cases h;rfl
  |_=>cases h
theorem SR.letIn {B:Option Addr}{G H:Hp}{σ:St}{env:En}{β:Int}(I:SR Γ B G H σ env β){p:Addr}{d:D}(h0:Γ.H0 p=none)(hg:G p=none)(hb:B≠some p)(hn:∀(j:Nat) (d':D),env[j]? =some (.ow d')->σ[j]?≠some (some (.ref p)))(h:Own Γ.K G H p d) :
  ∃G',SR Γ B G' H σ env β/\ao G G'/\Rp Γ.K G' (.ref p) d:=by
 obtain⟨o,ho⟩:=h.obj
 have sG:ao G (upd G p o):=ao.new hg
 refine⟨upd G p o,⟨fun b u q=>?_,I.old.trans sG,fun b n1 n2=>?_,I.keep,I.pin,I.fix,fun b q=>?_,I.len,fun j s q=>?_,I.sep⟩,sG,h.rp hg sG fun o' q=>by rw[ho] at q;cases q;exact aq⟩
 ·by_cases z:b=p
  ·subst z;rw[aq] at q;cases q;exact ho
  ·rw[ay z] at q;exact I.sub b u q
 ·rw[ay (fun z=>n1.1 (by rw[z];exact h0))];exact I.new b n1 n2
 ·obtain⟨k1,k2,k3⟩:=I.box b q
  exact⟨k1,by rw[ay (fun z=>hb (by rw[<-z];exact q))];exact k2,k3⟩
 ·have w:=I.slot j s q
  cases s with
  |no=>trivial
  |fz d'=>obtain⟨v,w1,w2⟩:=w;exact⟨v,w1,w2.mono sG⟩
  |ow d'=>
   obtain⟨c,w1,w2,w3,w4,w5⟩:=w
   have ca:c≠p:=fun z2=>hn j d' q (by rw[<-z2];exact w1)
   exact⟨c,w1,w2,by rw[ay ca];exact w3,w4,w5.mono sG fun o q=>q⟩
  |bx=>exact w
  |br d'=>obtain⟨b1,c,w1,w4,wp,w5⟩:=w;exact⟨b1,c,w1,w4,wp,w5.mono sG fun o q=>q⟩
theorem xV {env:En}{i j:Nat}{d:D}(h:(iH env i)[j]? =some (.ow d)):env[j]? =some (.ow d):=by
 unfold iH at h
 split at h
 ·rename_i d' e
  by_cases z:i=j
  ·subst z
   rw[List.getElem?_set_self (List.getElem?_eq_some_iff.mp e).1] at h;cases h
  ·rw[List.getElem?_set_ne z] at h;exact h
 ·exact h
theorem rT {L:List Nat}{env:En}{j:Nat}{d:D}(h:(a7 L env)[j]? =some (.ow d)):env[j]? =some (.ow d):=by
 unfold a7 at h
 induction L generalizing env with
 |nil=>exact h
 |cons i L ih=>exact xV (ih h)
theorem SR.letW {B:Option Addr}{G H G' H':Hp}{σ:St}{env:En}{β β':Int}{L:List Nat}{d:D}{v:V}(I:SR Γ B G H σ env β)(I':SR Γ B G' H' σ (L2.a7 L env) β')(h:VO Γ.K B H G' H' .w d v):∃G2,SR Γ B G2 H' σ (L2.a7 L env) β'/\ao G' G2/\Rp Γ.K G2 v d:=by
 obtain⟨p,rfl,h1,h2,h3⟩:=h
 obtain⟨q1,q2,q3,q4⟩:=I.fresh h1
 exact I'.letIn q1 h2 q3 (fun j d' e=>q4 j d' (rT e)) h3
theorem SE.wv (h:SE X Γ E e f L .w):SE X Γ E e f L .v:=by
 refine PE.post' h fun σ H Q ⟨env,G,B,β,I,o⟩=>⟨env,G,B,β,I,o.imp fun d β' k v G' H' I' s m vo=>?_⟩
 obtain⟨G2,I2,s2,r⟩:=I.letW I' vo
 exact k v G2 H' I2 (s.trans s2) m r
theorem VO.brw {B:Option Addr}{H G' H':Hp}{d:D}{v:V}{K:PySem.W.Frag}(h:VO K B H G' H' md d v)(hB:∀x,B=some x->H x≠none):kU K B G' H' v d:=by
 cases md with
 |b=>exact h
 |v=>exact .inl h
 |w=>
  obtain⟨p,rfl,h1,h2,h3⟩:=h
  exact .inr ⟨p,rfl,fun z=>hB p z h1,h3⟩
theorem SR.boxThere {B:Option Addr}{G H:Hp}{σ:St}{env:En}{β:Int}(I:SR Γ B G H σ env β):∀x,B=some x->H x≠none:=fun x e=>by rw[(I.box x e).1];simp
theorem af (i:Nat){x:Str}(hN:X.N[i]? =some x:=by rfl)(hv:v7 X.env.scope x:=by first |exact Or.inl rfl |exact Or.inr (Or.inl rfl) |exact Or.inr (Or.inr rfl))(hd:(x == ("__debug__":Str))=false:=by decide)
  (hcd:(x == ("__classdict__":Str))=false:=by decide):SE X Γ E (.Name x pos) (gv i) [] .b:=by
 refine PE.post' (jd hN hv hd hcd) fun σ H Q ⟨env,G,B,β,I,o⟩=>?_
 obtain⟨d,e,k⟩:=o.of
 have e:=join_some e
 rcases Fe e with q |q |q
 ·obtain⟨v,h1,h2⟩:=I.slot i _ q
  exact⟨v,h1,k v G H I (ao.refl _) (hV.refl _ _) (.inl h2)⟩
 ·obtain⟨p,h1,h2,h3,h4,h5⟩:=I.slot i _ q
  exact⟨.ref p,h1,k _ G H I (ao.refl _) (hV.refl _ _) (.inr ⟨p,rfl,h4,h5⟩)⟩
 ·obtain⟨_,p,h1,h4,_,h5⟩:=I.slot i _ q
  exact⟨.ref p,h1,k _ G H I (ao.refl _) (hV.refl _ _) (.inr ⟨p,rfl,h4,h5⟩)⟩
theorem aC (i:Nat)(hb:Γ.br i=false){x:Str}(hN:X.N[i]? =some x:=by rfl)(hv:v7 X.env.scope x:=by first |exact Or.inl rfl |exact Or.inr (Or.inl rfl) |exact Or.inr (Or.inr rfl))(hd:(x == ("__debug__":Str))=false:=by decide)
  (hcd:(x == ("__classdict__":Str))=false:=by decide):SE X Γ E (.Name x pos) (gv i) [i] .v:=by
 refine PE.post' (jd hN hv hd hcd) fun σ H Q ⟨env,G,B,β,I,o⟩=>?_
 obtain⟨d,e,k⟩:=o.of
 obtain⟨G',v,I',s,h1,h2⟩:=I.freeze i hb (join_some e)
 exact⟨v,h1,k v G' H I' s (hV.refl _ _) h2⟩
theorem AQ {v:V}{d:D}(h:PE X e (tC v))(r:∀G,Rp Γ.K G v d):SE X Γ E e (cst d) [] .v:=by
 refine PE.post' h fun σ H Q ⟨env,G,B,β,I,o⟩=>?_
 exact o v G H I (ao.refl _) (hV.refl _ _) (r G)
theorem aw {i:Int}{j}:SE X Γ E (.Constant (.int i) j pos) (cst (.int i)) [] .v:=AQ mO fun _=>.int i
theorem iL {i:Bool}{j}:SE X Γ E (.Constant (.bool i) j pos) (cst (.bool i)) [] .v:=AQ ya fun _=>.bl i
theorem FL {j}:SE X Γ E (.Constant .none j pos) (cst .none) [] .v:=AQ FJ fun _=>.non
theorem BG {x:Str}{j}:SE X Γ E (.Constant (.str x) j pos) (cst (.str x)) [] .v:=AQ As fun _=>.str x
theorem C9 {x:Str}{i:Int}{t:Tok}(hg:Gl X x)(hm:X.mg x=some (.int i t))(hd:(x == ("__debug__":Str))=false:=by decide):SE X Γ E (.Name x pos) (cst (.int i)) [] .v:=AQ (Dq hg hm (show RelV (.int i) _ from⟨_,rfl⟩) hd) fun _=>.int i
theorem two {W:V->V->Hp->Prop}{B:Option Addr}{G H:Hp}{σ:St}{env:En}{β:Int}(I:SR Γ B G H σ env β)
  (h:Out Γ E (fa (vl env) β) fun d1 β1=>Out Γ E (fb (vl env) β1) fun d2 β2=>∀x y G2 H2,SR Γ B G2 H2 σ (a7 (La ++ Lb) env) β2->ao G G2->hV B H H2->kU Γ.K B G2 H2 x d1->kU Γ.K B G2 H2 y d2->W x y H2) :
  pT Γ E fa La ma σ H fun x H1=>pT Γ E fb Lb mb σ H1 fun y H2=>W x y H2:=by
 refine⟨env,G,B,β,I,h.imp fun d1 β1 h x G1 H1 I1 s1 m1 vx=>⟨a7 La env,G1,B,β1,I1,?_⟩⟩
 rw[df]
 refine h.imp fun d2 β2 k y G2 H2 I2 s2 m2 vy=>?_
 refine k x y G2 H2 (by rw[bP];exact I2) (s1.trans s2) (m1.trans m2) ((vx.brw I.boxThere).mono s2 m2) (vy.brw I1.boxThere)
def mf (K:PySem.W.Frag)(r:R2)(g:D->D->Option D)(md:Md):Prop:=∀(B:Option Addr) (G H:Hp) (x y:V) (dx dy d:D) (Q:VK),ao G H->(∀x,B=some x->H x≠none)->kU K B G H x dx->kU K B G H y dy->g dx dy=some d->
 (∀v G' H',Ext G H G' H'->VO K B H G' H' md d v->Q v H')->r x y H Q
def f2 (fa fb:VF D)(g:D->D->Option D):VF D:=fun vs β=>(fa vs β).bnd fun x β1=>(fb vs β1).bnd fun y β2=>R.of (g x y) β2
theorem du {B:Option Addr}{H H2:Hp}(m:hV B H H2)(hB:∀x,B=some x->H2 x≠none){p:Addr}(h:H2 p=none):H p=none:=by
 cases e:H p with
 |none=>rfl
 |some o=>rw[m p o e fun z=>hB p z h] at h;cases h
theorem VO.back {K:PySem.W.Frag}{B:Option Addr}{H H2 G' H':Hp}{d:D}{v:V}(h:VO K B H2 G' H' md d v)(m:hV B H H2)(hB:∀x,B=some x->H2 x≠none):VO K B H G' H' md d v:=by
 cases md with
 |b=>exact h
 |v=>exact h
 |w=>obtain⟨p,e,h1,h2,h3⟩:=h;exact⟨p,e,du m hB h1,h2,h3⟩
theorem l6 {r:R2}{g:D->D->Option D}{Q:VK}(pr:mf Γ.K r g md){B:Option Addr}{G H:Hp}{σ:St}{env:En}{β:Int}(I:SR Γ B G H σ env β)
  (h:Out Γ E (f2 fa fb g (vl env) β) fun d β'=>∀v G' H',SR Γ B G' H' σ (a7 (La ++ Lb) env) β'->ao G G'->hV B H H'->VO Γ.K B H G' H' md d v->Q v H') :
  pT Γ E fa La ma σ H fun x H1=>pT Γ E fb Lb mb σ H1 fun y H2=>r x y H2 Q:=by
 refine two I (h.bnd.imp fun d1 β1 h=>h.bnd.imp fun d2 β2 h x y G2 H2 I2 s2 m2 bx by'=>?_)
 obtain⟨d,e,k⟩:=h.of
 refine pr B G2 H2 x y d1 d2 d Q I2.sub I2.boxThere bx by' e fun v G' H' x' vo=>?_
 exact k v G' H' (I2.ext x') (s2.trans x'.gg) (m2.trans (x'.hh.mov B)) (vo.back m2 I2.boxThere)
theorem bo {op:Operator}{r:R2}{g:D->D->Option D}(ho:k9 X (binaryOp op) r)(pr:mf Γ.K r g md)(ha:SE X Γ E a fa La ma)(hb:SE X Γ E b fb Lb mb):SE X Γ E (.BinOp a op b pos) (f2 fa fb g) (La ++ Lb) md:=
 PE.post' (qA ho ha hb) fun σ H Q ⟨env,G,B,β,I,o⟩=>l6 pr I o
theorem il {op:CmpOp}{r:R2}{g:D->D->Option D}(ho:k9 X (compareOp op) r)(pr:mf Γ.K r g md)(ha:SE X Γ E a fa La ma)(hb:SE X Γ E b fb Lb mb)(hm:behindInMarks op b=false):SE X Γ E (.Compare a [op] [b] pos) (f2 fa fb g) (La ++ Lb) md:=
 PE.post' (CZ ho ha hb hm) fun σ H Q ⟨env,G,B,β,I,o⟩=>l6 pr I o
theorem bt {r:R2}{g:D->D->Option D}(hr:AJ X r)(pr:mf Γ.K r g md)(ha:SE X Γ E a fa La ma)(hb:SE X Γ E b fb Lb mb)(hs:yJ b):SE X Γ E (.Subscript a b pos) (f2 fa fb g) (La ++ Lb) md:=
 PE.post' (kB hr ha hb hs) fun σ H Q ⟨env,G,B,β,I,o⟩=>l6 pr I o
def Ad (K:PySem.W.Frag)(r:V->Hp->VK->Prop)(g:D->Option D)(md:Md):Prop:=∀(B:Option Addr) (G H:Hp) (x:V) (dx d:D) (Q:VK),ao G H->(∀x,B=some x->H x≠none)->kU K B G H x dx->g dx=some d->
 (∀v G' H',Ext G H G' H'->VO K B H G' H' md d v->Q v H')->r x H Q
def f1 (fa:VF D)(g:D->Option D):VF D:=fun vs β=>(fa vs β).bnd fun x β1=>R.of (g x) β1
theorem fU {r:V->Hp->VK->Prop}{g:D->Option D}{Q:VK}(pr:Ad Γ.K r g md){B:Option Addr}{G H:Hp}{σ:St}{env:En}{β:Int}(I:SR Γ B G H σ env β)
  (h:Out Γ E (f1 fa g (vl env) β) fun d β'=>∀v G' H',SR Γ B G' H' σ (a7 La env) β'->ao G G'->hV B H H'->VO Γ.K B H G' H' md d v->Q v H') :
  pT Γ E fa La ma σ H fun x H1=>r x H1 Q:=by
 refine⟨env,G,B,β,I,h.bnd.imp fun d1 β1 h x G1 H1 I1 s1 m1 vx=>?_⟩
 obtain⟨d,e,k⟩:=h.of
 refine pr B G1 H1 x d1 d Q I1.sub I1.boxThere (vx.brw I.boxThere) e fun v G' H' x' vo=>?_
 exact k v G' H' (I1.ext x') (s1.trans x'.gg) (m1.trans (x'.hh.mov B)) (vo.back m1 I1.boxThere)
theorem E8 {op:UnaryOp}{r:V->Hp->VK->Prop}{g:D->Option D}(ho:JN X (unaryOp op) r)(pr:Ad Γ.K r g md)(ha:SE X Γ E a fa La ma):SE X Γ E (.UnaryOp op a pos) (f1 fa g) La md:=
 PE.post' (BQ ho ha) fun σ H Q ⟨env,G,B,β,I,o⟩=>fU pr I o
theorem aP {id:String}{r:List V->Hp->VK->Prop}{g:D->Option D}{x:Str}{p:Pos}(hc:b8 X (.builtin id) r)(pr:Ad Γ.K (fun x=>r [x]) g md)(hg:Gl X x)(hm:X.mg x=none)(hv:bootBuiltins x=some (.builtin id))(ha:SE X Γ E a fa La ma)(hn:x≠"__name__":=by decide)(hdb:(x == ("__debug__":Str))=false:=by decide)
  (he:starEach [a] X.env=(false,eval a X.env) :: starEach [] X.env:=by rfl):SE X Γ E (.Call (.Name x p) [a] [] pos) (f1 fa g) La md:=
 PE.post' (iR hc hg hm hv (aK ha bg he) hn hdb he) fun σ H Q ⟨env,G,B,β,I,o⟩=>fU (r:=fun x=>r [x]) pr I o
theorem iP {id:String}{r:List V->Hp->VK->Prop}{g:D->Option D}{x:Str}{p:Pos}(hc:b8 X (.type id) r)(pr:Ad Γ.K (fun x=>r [x]) g md)(hg:Gl X x)(hm:X.mg x=none)(hv:bootBuiltins x=some (.type id))(ha:SE X Γ E a fa La ma)(hn:x≠"__name__":=by decide)(hdb:(x == ("__debug__":Str))=false:=by decide)
  (he:starEach [a] X.env=(false,eval a X.env) :: starEach [] X.env:=by rfl):SE X Γ E (.Call (.Name x p) [a] [] pos) (f1 fa g) La md:=
 PE.post' (dr hc hg hm hv (aK ha bg he) hn hdb he) fun σ H Q ⟨env,G,B,β,I,o⟩=>fU (r:=fun x=>r [x]) pr I o
theorem vn {id:String}{r:List V->Hp->VK->Prop}{g:D->D->Option D}{x:Str}{p:Pos}(hc:b8 X (.builtin id) r)(pr:mf Γ.K (fun x y=>r [x,y]) g md)(hg:Gl X x)(hm:X.mg x=none)(hv:bootBuiltins x=some (.builtin id))(ha:SE X Γ E a fa La ma)(hb:SE X Γ E b fb Lb mb)(hn:x≠"__name__":=by decide)(hdb:(x == ("__debug__":Str))=false:=by decide)
  (he:starEach [a,b] X.env=(false,eval a X.env) :: starEach [b] X.env:=by rfl) (he2:starEach [b] X.env=(false,eval b X.env) :: starEach [] X.env:=by rfl) (hpl:(backTo pos (starEach [b] X.env)).any (·.1)=false:=by rfl):SE X Γ E (.Call (.Name x p) [a,b] [] pos) (f2 fa fb g) (La ++ Lb) md:=
 PE.post' (iR hc hg hm hv (aK ha (aK hb bg he2) he) hn hdb he hpl) fun σ H Q ⟨env,G,B,β,I,o⟩=>l6 (r:=fun x y=>r [x,y]) pr I o
def fT (fa fb:VF D):VF D:=fun vs β=>(fa vs β).bnd fun x β1=>match x with
 | .bool true=>fb vs β1
 | .bool false=>.ok (.bool false) β1
 |_=>.bad
theorem i8 {op}(h:SE X Γ E a fa La md):SE X Γ E (.BoolOp op [a] pos) fa La md:=FC h
theorem iZ {rest:List Expr}(ha:SE X Γ E a fa La ma)(hb:SE X Γ E (.BoolOp .And (b :: rest) pos) fb Lb .v)(hbr:∀i,i∈Lb->Γ.br i=false):SE X Γ E (.BoolOp .And (a :: b :: rest) pos) (fT fa fb) (La ++ Lb) .v:=by
 refine PE.post' (Gj ha hb) fun σ H Q ⟨env,G,B,β,I,o⟩=>?_
 refine⟨env,G,B,β,I,o.bnd.imp fun d1 β1 h x G1 H1 I1 s1 m1 vx=>?_⟩
 have bx:=vx.brw I.boxThere
 cases d1 with
 |bool c=>
  obtain rfl:=bx.bool
  refine⟨c,rfl,?_⟩
  cases c with
  |true=>exact vm ⟨_,G1,B,β1,I1,by rw[df];exact h.imp fun d β' k v G' H' I' s' m' vo=>k v G' H' (by rw[bP];exact I') (s1.trans s') (m1.trans m') vo⟩
  |false=>
   obtain⟨G2,I2,s2⟩:=I1.a7 Lb hbr
   exact vp (h _ G2 H1 (by rw[bP];exact I2) (s1.trans s2) m1 (.bl false))
 |_=>exact h.elim
def yV:D->Option D
 | .bool c=>some (.bool (!c))
 |_=>none
theorem wm (ha:SE X Γ E a fa La ma):SE X Γ E (.UnaryOp .Not a pos) (f1 fa yV) La .v:=by
 refine PE.post' (Gh ha) fun σ H Q ⟨env,G,B,β,I,o⟩=>?_
 refine fU (r:=fun x H1 Q=>∃c,x=.bl c/\Q (.bl (!c)) H1) ?_ I o
 intro B G H x dx d Q s hB bx e k
 cases dx with
 |bool c=>
  obtain rfl:=bx.bool
  cases e
  exact⟨c,rfl,k _ G H (Ext.refl s) (.bl _)⟩
 |_=>cases e
def Fu:D->Option Bool
 | .none=>some false
 | .bool b=>some b
 | .int i=>some (i != 0)
 | .str y=>if y.length<=sizeLine then some ((y.length:Int) != 0) else none
 | .list ds=>some (!ds.isEmpty)
 | .tuple ds=>some (!ds.isEmpty)
 | .dict _=>none
def nr (fa:VF D):VF Bool:=fun vs β=>(fa vs β).bnd fun x β1=>R.of (Fu x) β1
theorem mW {K:PySem.W.Frag}{G:Hp}{xs:List V}{ds:List D}(r:bE K G xs ds):(!ds.isEmpty)= !xs.isEmpty:=by cases r <;> rfl
theorem cP (hK:X.K=Γ.K)(ha:SE X Γ E a fa La ma)(he:∀whole,isTrue a X.env whole=(do let v <-whole;standAt a.pos;holding [v] (truthy v)):=by intro _;rfl):Ae X Γ E a (nr fa) La:=by
 refine PT.post (Cg ha he) fun σ H Q ⟨env,G,B,β,I,o⟩=>?_
 refine⟨env,G,B,β,I,o.bnd.imp fun d1 β1 h x G1 H1 I1 s1 m1 vx=>?_⟩
 obtain⟨c,e,k⟩:=h.of
 have bx:=vx.brw I.boxThere
 refine⟨c,?_,k G1 H1 I1 s1 m1⟩
 rw[hK]
 cases d1 with
 |none=>obtain rfl:=bx.none;cases e;rfl
 |bool b=>obtain rfl:=bx.bool;cases e;rfl
 |int i=>obtain rfl:=bx.int;cases e;rfl
 |str y=>
  obtain rfl:=bx.str
  simp only[Fu] at e
  split at e
  ·cases e;exact⟨by assumption,rfl⟩
  ·cases e
 |list ds=>obtain⟨p,xs,rfl,hq,r⟩:=bx.list I1.sub;cases e;exact .inl ⟨xs,.inl hq,mW r⟩
 |tuple ds=>obtain⟨p,xs,rfl,hq,r⟩:=bx.tuple I1.sub;cases e;exact .inr (.inl ⟨xs,hq,mW r⟩)
 |dict ds=>cases e
def cc (fa:VF D):VF Bool:=fun vs β=>(fa vs β).bnd fun x β1=>match x with
 | .bool c=>.ok c β1
 |_=>.bad
theorem bh {op:CmpOp}{r:R2}{g:D->D->Option D}(ho:k9 X (compareOp op) r)(pr:mf Γ.K r g .v)(ha:SE X Γ E a fa La ma)(hb:SE X Γ E b fb Lb mb)(hm:behindInMarks op b=false):Ae X Γ E (.Compare a [op] [b] pos) (cc (f2 fa fb g)) (La ++ Lb):=by
 refine PT.post (Eo ho ha hb hm) fun σ H Q ⟨env,G,B,β,I,o⟩=>?_
 refine l6 pr I (o.bnd.imp fun d β' h v G' H' I' s' m' vo=>?_)
 cases d with
 |bool c=>cases vo;exact⟨c,rfl,h G' H' I' s' m'⟩
 |_=>exact h.elim
def qg (t:VF Bool):VF Bool:=fun vs β=>(t vs β).bnd fun c β1=>.ok (!c) β1
def sS (t u:VF Bool):VF Bool:=fun vs β=>(t vs β).bnd fun c β1=>if c=true then u vs β1 else .ok false β1
def kN (t u:VF Bool):VF Bool:=fun vs β=>(t vs β).bnd fun c β1=>if c=true then .ok true β1 else u vs β1
variable {ta tb tc:VF Bool}
theorem c8 (ha:Ae X Γ E a ta La):Ae X Γ E (.UnaryOp .Not a pos) (qg ta) La:=by
 refine PT.post (Ht ha) fun σ H Q ⟨env,G,B,β,I,o⟩=>?_
 exact⟨env,G,B,β,I,o.bnd.imp fun c β1 h=>h⟩
theorem pO.t (h:pO X Γ E e ta La):Ae X Γ E e ta La:=PW.pt h
theorem kn (ha:Ae X Γ E a ta La):pO X Γ E (.BoolOp .And [a] pos) ta La:=yv ha
theorem ja (ha:Ae X Γ E a ta La):pO X Γ E (.BoolOp .Or [a] pos) ta La:=GY ha
theorem mS {rest:List Expr}(ha:Ae X Γ E a ta La)(hb:pO X Γ E (.BoolOp .And (b :: rest) pos) tb Lb)(hbr:∀i,i∈Lb->Γ.br i=false):pO X Γ E (.BoolOp .And (a :: b :: rest) pos) (sS ta tb) (La ++ Lb):=by
 refine PW.post (Bb ha hb) fun σ H Q ⟨env,G,B,β,I,o⟩=>?_
 refine⟨env,G,B,β,I,o.bnd.imp fun c β1 h G1 H1 I1 s1 m1=>?_⟩
 cases c with
 |true=>exact vm ⟨_,G1,B,β1,I1,by rw[df];exact Out.imp h fun d β' k G' H' I' s' m'=>k G' H' (by rw[bP];exact I') (s1.trans s') (m1.trans m')⟩
 |false=>
  obtain⟨G2,I2,s2⟩:=I1.a7 Lb hbr
  exact vp (h G2 H1 (by rw[bP];exact I2) (s1.trans s2) m1)
theorem kJ {rest:List Expr}(ha:Ae X Γ E a ta La)(hb:pO X Γ E (.BoolOp .Or (b :: rest) pos) tb Lb)(hbr:∀i,i∈Lb->Γ.br i=false):pO X Γ E (.BoolOp .Or (a :: b :: rest) pos) (kN ta tb) (La ++ Lb):=by
 refine PW.post (IG ha hb) fun σ H Q ⟨env,G,B,β,I,o⟩=>?_
 refine⟨env,G,B,β,I,o.bnd.imp fun c β1 h G1 H1 I1 s1 m1=>?_⟩
 cases c with
 |true=>
  obtain⟨G2,I2,s2⟩:=I1.a7 Lb hbr
  exact vm (h G2 H1 (by rw[bP];exact I2) (s1.trans s2) m1)
 |false=>exact vp ⟨_,G1,B,β1,I1,by rw[df];exact Out.imp h fun d β' k G' H' I' s' m'=>k G' H' (by rw[bP];exact I') (s1.trans s') (m1.trans m')⟩
def Ld (t:VF Bool)(fa fb:VF D):VF D:=fun vs β=>(t vs β).bnd fun c β1=>if c=true then fa vs β1 else fb vs β1
def ag:VF (List D):=fun _ β=>.ok [] β
def aa (fa:VF D)(fr:VF (List D)):VF (List D):=fun vs β=>(fa vs β).bnd fun x β1=>(fr vs β1).bnd fun xs β2=>.ok (x :: xs) β2
variable {fr:VF (List D)}{es:List Expr}
theorem ah:SA X Γ E [] ag []:=PA.post bg fun σ H Q ⟨env,G,B,β,I,o⟩=>o [] G H I (ao.refl _) (hV.refl _ _) .nil
theorem ae (ha:SE X Γ E a fa La .v)(hr:SA X Γ E es fr Lb)(hs:starEach (a :: es) X.env=(false,eval a X.env) :: starEach es X.env:=by rfl):SA X Γ E (a :: es) (aa fa fr) (La ++ Lb):=by
 refine PA.post (aK ha hr hs) fun σ H Q ⟨env,G,B,β,I,o⟩=>?_
 refine⟨env,G,B,β,I,o.bnd.imp fun d1 β1 h x G1 H1 I1 s1 m1 vx=>⟨a7 La env,G1,B,β1,I1,?_⟩⟩
 rw[df]
 refine h.bnd.imp fun ds β2 k xs G2 H2 I2 s2 m2 r=>?_
 exact k (x :: xs) G2 H2 (by rw[bP];exact I2) (s1.trans s2) (m1.trans m2) (.cons (vx.mono s2) r)
def bG (fr:VF (List D)):VF D:=fun vs β=>(fr vs β).bnd fun ds β1=>if ds.length<=sizeLine then .ok (.tuple ds) β1 else .bad
def aW (fr:VF (List D)):VF D:=fun vs β=>(fr vs β).bnd fun ds β1=>if ds.length<=sizeLine then .ok (.list ds) β1 else .bad
theorem gz {x1}(h:SA X Γ E es fr L):SE X Γ E (.Tuple es x1 pos) (bG fr) L .v:=by
 refine PE.post' (wO h) fun σ H Q ⟨env,G,B,β,I,o⟩=>?_
 refine⟨env,G,B,β,I,o.bnd.imp fun ds β1 k xs G1 H1 I1 s1 m1 r=>?_⟩
 by_cases hz:ds.length<=sizeLine
 ·rw[if_pos hz] at k
  refine⟨by rw[r.len];exact hz,fun p hp=>?_⟩
  have x:=Ext.new I1.sub (o:=.tup xs) hp
  exact k _ _ _ (I1.ext x) (s1.trans x.gg) (m1.trans (x.hh.mov B)) (.tup (.inl (.inl aq)) (r.mono x.gg))
 ·rw[if_neg hz] at k;exact k.elim
theorem aV (h:SA X Γ E es fr L):SE X Γ E (.List es pos) (aW fr) L .w:=by
 refine PE.post' (Az h) fun σ H Q ⟨env,G,B,β,I,o⟩=>?_
 refine⟨env,G,B,β,I,o.bnd.imp fun ds β1 k xs G1 H1 I1 s1 m1 r=>?_⟩
 by_cases hz:ds.length<=sizeLine
 ·rw[if_pos hz] at k
  refine⟨by rw[r.len];exact hz,fun p hp=>?_⟩
  have x:=Ext.own I1.sub (o:=.lst xs) hp
  exact k _ _ _ (I1.ext x) s1 (m1.trans (x.hh.mov B)) ⟨p,rfl,du m1 I1.boxThere hp,I1.sub.free hp,xs,aq,r⟩
 ·rw[if_neg hz] at k;exact k.elim
inductive FR where
 |ok (d:D) (fresh:Bool)
 |exc (c:Str)
 |bad
def FV (K:PySem.W.Frag)(H G' H':Hp)(fr:Bool)(d:D)(v:V):Prop:=if fr=true then ∃a,v=.ref a/\H a=none/\G' a=none/\Own K G' H' a d else Rp K G' v d
def CO (K:PySem.W.Frag)(ca:Str->Addr)(n:Nat)(F:List D->FR):Sp:=fun vs H Q E=>∃G ds,ao G H/\ds.length=n/\bE K G vs ds/\match F ds with
 | .ok d fr=>∀v G' H',ao H H'->ao G G'->ao G' H'->(∀b,Mx H b->G b=none->G' b=none)->FV K H G' H' fr d v->Q v H'
 | .exc c=>∀H',ao H H'->E (.ref (ca c)) none H'
 | .bad=>False
structure dB (P:Program)(w:World)(K:PySem.W.Frag)(mg:Str->Option Value)(base:Heap)(ca:Str->Addr)(x:Str)(ps:List Str)(k:Nat)(F:List D->FR):Prop where
 ex:∃f fd,mg x=some (.ref f)/\PySem.W.keepIn K (.ref f)=true/\Binds K fd ps []/\fy P w K mg base (nF P w) k f fd ps (CO K ca ps.length F)
 len:∀ds,F ds≠.bad->ds.length=ps.length
def aI (F:List D->FR)(fr:VF (List D)):VF D:=fun vs β=>(fr vs β).bnd fun ds β1=>match F ds with
 | .ok d _=>.ok d β1
 | .exc c=>.exc c
 | .bad=>.bad
def vk (F:List D->FR)(fr:VF (List D)):VF D:=fun vs β=>(fr vs β).bnd fun ds β1=>match F ds with
 | .ok d true=>.ok d β1
 | .ok _ false=>.bad
 | .exc c=>.exc c
 | .bad=>.bad
theorem SR.called {B:Option Addr}{G1 H1 G2 H2:Hp}{σ:St}{env:En}{β:Int}(I1:SR Γ B G1 H1 σ env β)(h:ao H1 H2)(g:ao G1 G2)(s:ao G2 H2)(n:∀b,Mx H1 b->G1 b=none->G2 b=none):SR Γ B G2 H2 σ env β/\hV B H1 H2:=by
 refine⟨⟨s,I1.old.trans g,fun b n1 n2=>?_,fun b o e np=>h b o (I1.keep b o e np),fun b hb=>?_,I1.fix,fun b e=>?_,I1.len,fun i t e=>?_,I1.sep⟩,h.mov B⟩
 ·exact n b (I1.thereM n1) (I1.new b n1 n2)
 ·exact (I1.pin b hb).same fun o e=>h b o e
 ·obtain⟨h1,h2,h3⟩:=I1.box b e
  exact⟨h b _ h1,n b (Mx.lst h1) h2,h3⟩
 ·have q:=I1.slot i t e
  cases t with
  |no=>trivial
  |fz d=>obtain⟨v,h1,h2⟩:=q;exact⟨v,h1,h2.mono g⟩
  |ow d=>
   obtain⟨p,h1,h2,h3,h4,h5⟩:=q
   exact⟨p,h1,h2,n p h5.mx h3,h4,h5.mono g fun o q=>h p o q⟩
  |bx=>exact q
  |br d=>obtain⟨b1,p,h1,h4,hp,h5⟩:=q;exact⟨b1,p,h1,h4,hp,h5.mono g fun o q=>h p o q⟩
theorem SR.kp {B:Option Addr}{G H H':Hp}{σ:St}{env:En}{β:Int}(I:SR Γ B G H σ env β)(h:ao H H'):Kp Γ H':=fun b o e n=>h b o (I.keep b o e n)
theorem qz {F:List D->FR}{ps:List Str}{Q:VK}{B:Option Addr}{G H:Hp}{σ:St}{env:En}{β:Int}(I:SR Γ B G H σ env β)(hK:X.K=Γ.K){wv:Bool}
  (h:Out Γ E (if wv=true then vk F fr (vl env) β else aI F fr (vl env) β) fun d β'=>∀v G' H',SR Γ B G' H' σ (a7 L env) β'->ao G G'->hV B H H'->VO Γ.K B H G' H' (if wv=true then .w else .v) d v->Q v H') (hl:∀ds,F ds≠.bad->ds.length=ps.length) :
  aT Γ E fr L σ H fun vs H1=>CO X.K Γ.ca ps.length F vs H1 Q E:=by
 refine⟨env,G,B,β,I,?_⟩
 have h:Out Γ E (fr (vl env) β) fun ds β1=>Out Γ E (match F ds with
   | .ok d true=>.ok d β1
   | .ok d false=>if wv=true then .bad else .ok d β1
   | .exc c=>.exc c
   | .bad=>.bad) fun d β'=>∀v G' H',SR Γ B G' H' σ (a7 L env) β'->ao G G'->hV B H H'->VO Γ.K B H G' H' (if wv=true then .w else .v) d v->Q v H':=by
  cases wv with
  |true=>
   simp only[if_true] at h ⊢
   refine h.bnd.imp fun ds β1 h=>?_
   cases q:F ds with
   |ok d b=>rw[q] at h;cases b <;> exact h
   |exc c=>rw[q] at h;exact h
   |bad=>rw[q] at h;exact h
  |false=>
   simp only[Bool.false_eq_true,if_false] at h ⊢
   refine h.bnd.imp fun ds β1 h=>?_
   cases q:F ds with
   |ok d b=>rw[q] at h;cases b <;> exact h
   |exc c=>rw[q] at h;exact h
   |bad=>rw[q] at h;exact h
 refine h.imp fun ds β1 k vs G1 H1 I1 s1 m1 r=>?_
 refine⟨G1,ds,I1.sub,?_,by rw[hK];exact r,?_⟩
 ·exact hl ds fun z=>by rw[z] at k;exact k
 cases q:F ds with
 |bad=>rw[q] at k;exact k
 |exc c=>rw[q] at k;exact fun H' s=>k H' (I1.kp s)
 |ok d b=>
  rw[q] at k
  intro v G' H' hh hg hs hn fv
  obtain⟨I2,m2⟩:=I1.called hh hg hs hn
  cases b with
  |true=>
   obtain⟨p,rfl,p1,p2,p3⟩:∃a,v=.ref a/\H1 a=none/\G' a=none/\Own X.K G' H' a d:=fv
   rw[hK] at p3
   have hp:=du m1 I1.boxThere p1
   cases wv with
   |true=>exact k _ G' H' I2 (s1.trans hg) (m1.trans m2) ⟨p,rfl,hp,p2,p3⟩
   |false=>
    obtain⟨q1,q2,q3,q4⟩:=I1.fresh p1
    obtain⟨G3,I3,s3,r3⟩:=I2.letIn q1 p2 q3 q4 p3
    exact k _ G3 H' I3 ((s1.trans hg).trans s3) (m1.trans m2) r3
  |false=>
   cases wv with
   |true=>exact k.elim
   |false=>
    have fv:Rp X.K G' v d:=fv
    rw[hK] at fv
    exact k _ G' H' I2 (s1.trans hg) (m1.trans m2) fv
theorem aQ {x:Str}{ps:List Str}{k:Nat}{F:List D->FR}{p:Pos}(hf:dB X.prog X.w X.K X.mg X.base Γ.ca x ps k F)(hr:eT k X.A)(hx:Passes (nF X.prog X.w) X E)(hK:X.K=Γ.K)(hg:Gl X x)(ha:SA X Γ E (a :: es) fr L)(hdb:(x == ("__debug__":Str))=false:=by decide)
  (he:starEach (a :: es) X.env=(false,eval a X.env) :: starEach es X.env:=by rfl) (hpl:(backTo pos (starEach es X.env)).any (·.1)=false:=by rfl):SE X Γ E (.Call (.Name x p) (a :: es) [] pos) (aI F fr) L .v:=by
 obtain⟨f,fd,hm,hk,hb,hF⟩:=hf.ex
 refine PE.post' (nX (dvs:=[]) hF hr hg hm hk hb .nil hx ha hdb he hpl) fun σ H Q ⟨env,G,B,β,I,o⟩=>?_
 show aT Γ E fr L σ H fun vs H1=>CO X.K Γ.ca ps.length F (vs ++ []) H1 Q E
 have:=qz (Q:=Q) (wv:=false) (ps:=ps) I hK o hf.len
 simpa using this
theorem BK {x:Str}{ps:List Str}{k:Nat}{F:List D->FR}{p:Pos}(hf:dB X.prog X.w X.K X.mg X.base Γ.ca x ps k F)(hr:eT k X.A)(hx:Passes (nF X.prog X.w) X E)(hK:X.K=Γ.K)(hg:Gl X x)(ha:SA X Γ E (a :: es) fr L)(hdb:(x == ("__debug__":Str))=false:=by decide)
  (he:starEach (a :: es) X.env=(false,eval a X.env) :: starEach es X.env:=by rfl) (hpl:(backTo pos (starEach es X.env)).any (·.1)=false:=by rfl):SE X Γ E (.Call (.Name x p) (a :: es) [] pos) (vk F fr) L .w:=by
 obtain⟨f,fd,hm,hk,hb,hF⟩:=hf.ex
 refine PE.post' (nX (dvs:=[]) hF hr hg hm hk hb .nil hx ha hdb he hpl) fun σ H Q ⟨env,G,B,β,I,o⟩=>?_
 show aT Γ E fr L σ H fun vs H1=>CO X.K Γ.ca ps.length F (vs ++ []) H1 Q E
 have:=qz (Q:=Q) (wv:=true) (ps:=ps) I hK o hf.len
 simpa using this
end
end L2

end

section
namespace L2
open PySem PySem.Spec PyProof.Rows
inductive SO where
 |nx (env:En) (β:Int)
 |bk (env:En) (β:Int)
 |ct (env:En) (β:Int)
 |rt (d:D) (fr:Bool) (β:Int)
 |exc (c:Str)
 |bad
abbrev SF:=En->Int->SO
def RV (Γ:Fx)(G' H':Hp)(fr:Bool)(d:D)(v:V):Prop:=if fr=true then ∃a,v=.ref a/\Γ.H0 a=none/\G' a=none/\Own Γ.K G' H' a d else Rp Γ.K G' v d
def p7 (Γ:Fx)(E:XK)(G:Hp)(N:Ends):SO->Prop
 | .nx env β=>∀B G' H' σ,SR Γ B G' H' σ env β->ao G G'->N.nx σ H'
 | .bk env β=>∀B G' H' σ,SR Γ B G' H' σ env β->ao G G'->N.bk σ H'
 | .ct env β=>∀B G' H' σ,SR Γ B G' H' σ env β->ao G G'->N.ct σ H'
 | .rt d fr β=>∀B G' H' σ env v,SR Γ B G' H' σ env β->ao G G'->RV Γ G' H' fr d v->N.rt v H'
 | .exc c=>∀H',Kp Γ H'->E (.ref (Γ.ca c)) none H'
 | .bad=>False
def sT (Γ:Fx)(E:XK)(m:SF):TS:=fun N σ H=>∃env G B β,SR Γ B G H σ env β/\p7 Γ E G N (m env β)
def SS (X:Cx)(Γ:Fx)(E:XK)(st:Stmt)(m:SF):Prop:=PS X st (sT Γ E m)
def CN (X:Cx)(Γ:Fx)(E:XK)(st:List Stmt)(m:SF):Prop:=qW X st (sT Γ E m)
theorem qW.post {X:Cx}{st:List Stmt}{t u:TS}(h:qW X st t)(m:∀D σ H,u D σ H->t D σ H):qW X st u:=fun pins s σ H D I q=>h pins s σ H D I (m D σ H q)
def aA (m m':SF):SF:=fun env β=>match m env β with
 | .nx env' β'=>m' env' β'
 |r=>r
def lq:SF:=fun env β=>.nx env β
section
variable {X:Cx}{Γ:Fx}{E:XK}{e a b c:Expr}{f fa fb:VF D}{L La Lb:List Nat}{md ma mb:Md}{pos:Pos}{st:Stmt}{sts:List Stmt}{m m':SF}{ta:VF Bool}
theorem p7.weak {G G1:Hp}{N:Ends}{r:SO}(h:p7 Γ E G N r)(s:ao G G1):p7 Γ E G1 N r:=by
 cases r with
 |nx env β=>exact fun B G' H' σ I s'=>h B G' H' σ I (s.trans s')
 |bk env β=>exact fun B G' H' σ I s'=>h B G' H' σ I (s.trans s')
 |ct env β=>exact fun B G' H' σ I s'=>h B G' H' σ I (s.trans s')
 |rt d fr β=>exact fun B G' H' σ env v I s'=>h B G' H' σ env v I (s.trans s')
 |exc c=>exact h
 |bad=>exact h
theorem bY:CN X Γ E [] lq:=qW.post ym fun N σ H ⟨env,G,B,β,I,o⟩=>o B G H σ I (ao.refl _)
theorem ak (h:SS X Γ E st m)(h':CN X Γ E sts m'):CN X Γ E (st :: sts) (aA m m'):=by
 refine qW.post (gG h h') fun N σ H ⟨env,G,B,β,I,o⟩=>?_
 refine⟨env,G,B,β,I,?_⟩
 unfold aA at o
 cases q:m env β with
 |nx env' β'=>rw[q] at o;exact fun B' G' H' σ' I' s'=>⟨env',G',B',β',I',o.weak s'⟩
 |bk env' β'=>rw[q] at o;exact o
 |ct env' β'=>rw[q] at o;exact o
 |rt d fr β'=>rw[q] at o;exact o
 |exc c=>rw[q] at o;exact o
 |bad=>rw[q] at o;exact o
theorem ax (h:SS X Γ E st m):CN X Γ E [st] m:=gP h
def toS {α:Type}(r:R α)(k:α->Int->SO):SO:=match r with
 | .ok x β=>k x β
 | .exc c=>.exc c
 | .bad=>.bad
theorem cf {α:Type}{G:Hp}{N:Ends}{r:R α}{k:α->Int->SO}{P:α->Int->Prop}(h:p7 Γ E G N (toS r k))(i:∀x β,p7 Γ E G N (k x β)->P x β):Out Γ E r P:=by
 cases r with
 |ok x β=>exact i x β h
 |exc c=>exact h
 |bad=>exact h
theorem SR.set' {B:Option Addr}{G H:Hp}{σ:St}{env:En}{β:Int}(I:SR Γ B G H σ env β)(i:Nat){v:V}{d:D}(h:Rp Γ.K G v d):SR Γ B G H (σ.set i (some v)) (env.set i (.fz d)) β:=by
 by_cases hi:i < env.length
 ·exact I.set hi h
 ·have h1:env.set i (.fz d)=env:=List.set_eq_of_length_le (by omega)
  have h2:σ.set i (some v)=σ:=List.set_eq_of_length_le (by rw[I.len];omega)
  rw[h1,h2];exact I
theorem SR.setOw' {B:Option Addr}{G H:Hp}{σ:St}{env:En}{β:Int}(I:SR Γ B G H σ env β)(i:Nat){a:Addr}{d:D}(h0:Γ.H0 a=none)(hg:G a=none)(hb:B≠some a)(h:Own Γ.K G H a d)(hn:∀(j:Nat) (d':D),env[j]? =some (.ow d')->σ[j]?≠some (some (.ref a))):SR Γ B G H (σ.set i (some (.ref a))) (env.set i (.ow d)) β:=by
 by_cases hi:i < env.length
 ·exact I.setOw hi h0 hg hb h fun j d' e _=>hn j d' e
 ·have h1:env.set i (.ow d)=env:=List.set_eq_of_length_le (by omega)
  have h2:σ.set i (some (.ref a))=σ:=List.set_eq_of_length_le (by rw[I.len];omega)
  rw[h1,h2];exact I
def bb (i:Nat)(L:List Nat)(f:VF D):SF:=fun env β=>toS (f (vl env) β) fun d β'=>.nx ((a7 L env).set i (.fz d)) β'
theorem aS {i:Nat}{x:Str}{pos':Pos}(he:SE X Γ E e f L .v)(hN:X.N.Nodup)(hi:X.N[i]? =some x:=by rfl)(hx:Loc X.env.scope x:=by first |exact Or.inl rfl |exact Or.inr rfl)(hs:swapsWith e (some (.Name x pos')) pos.line X.env=pure false:=by rfl)(hf:X.fn x=true\/X.env.scope.names.lookup x=some .local:=by first |exact .inl rfl |exact .inr rfl |assumption) :
  SS X Γ E (.Assign [.Name x pos'] e pos) (bb i L f):=by
 refine PS.post (o6 hN hi hx he hs hf) fun N σ H ⟨env,G,B,β,I,o⟩=>?_
 refine⟨env,G,B,β,I,cf o fun d β' k v G' H' I' s' m' vo=>?_⟩
 exact k B G' H' _ (I'.set' i vo) s'
def iI (i:Nat)(L:List Nat)(f:VF D):SF:=fun env β=>toS (f (vl env) β) fun d β'=>.nx ((a7 L env).set i (.ow d)) β'
theorem ic {i:Nat}{x:Str}{pos':Pos}(he:SE X Γ E e f L .w)(hN:X.N.Nodup)(hi:X.N[i]? =some x:=by rfl)(hx:Loc X.env.scope x:=by first |exact Or.inl rfl |exact Or.inr rfl)(hs:swapsWith e (some (.Name x pos')) pos.line X.env=pure false:=by rfl)(hf:X.fn x=true\/X.env.scope.names.lookup x=some .local:=by first |exact .inl rfl |exact .inr rfl |assumption) :
  SS X Γ E (.Assign [.Name x pos'] e pos) (iI i L f):=by
 refine PS.post (o6 hN hi hx he hs hf) fun N σ H ⟨env,G,B,β,I,o⟩=>?_
 refine⟨env,G,B,β,I,cf o fun d β' k v G' H' I' s' m' vo=>?_⟩
 obtain⟨p,rfl,h1,h2,h3⟩:=vo
 obtain⟨q1,q2,q3,q4⟩:=I.fresh h1
 exact k B G' H' _ (I'.setOw' i q1 h2 q3 h3 fun j d' z=>q4 j d' (rT z)) s'
def uv (L:List Nat)(f:VF D):SF:=fun env β=>toS (f (vl env) β) fun _ β'=>.nx (a7 L env) β'
theorem Dw (he:SE X Γ E e f L md)(hs:swapsWith e none pos.line X.env=pure false:=by rfl):SS X Γ E (.Expr e pos) (uv L f):=by
 refine PS.post (tD he hs) fun N σ H ⟨env,G,B,β,I,o⟩=>?_
 exact⟨env,G,B,β,I,cf o fun d β' k v G' H' I' s' m' vo=>k B G' H' _ I' s'⟩
def bA (f:VF D):SF:=fun env β=>toS (f (vl env) β) fun d β'=>.rt d false β'
theorem aR (he:SE X Γ E e f L .v):SS X Γ E (.Return (some e) pos) (bA f):=by
 refine PS.post (mD he) fun N σ H ⟨env,G,B,β,I,o⟩=>?_
 exact⟨env,G,B,β,I,cf o fun d β' k v G' H' I' s' m' vo=>k B G' H' σ _ v I' s' vo⟩
def m8 (f:VF D):SF:=fun env β=>toS (f (vl env) β) fun d β'=>.rt d true β'
theorem nW (he:SE X Γ E e f L .w):SS X Γ E (.Return (some e) pos) (m8 f):=by
 refine PS.post (mD he) fun N σ H ⟨env,G,B,β,I,o⟩=>?_
 refine⟨env,G,B,β,I,cf o fun d β' k v G' H' I' s' m' vo=>?_⟩
 obtain⟨p,rfl,h1,h2,h3⟩:=vo
 obtain⟨q1,_⟩:=I.fresh h1
 exact k B G' H' σ _ _ I' s' ⟨p,rfl,q1,h2,h3⟩
def qZ (i:Nat):SF:=fun env β=>match env[i]? with
 |some (.fz d)=>.rt d false β
 |some (.ow d)=>.rt d true β
 |_=>.bad
theorem nN (i:Nat){x:Str}{p:Pos}(hN:X.N[i]? =some x:=by rfl)(hv:v7 X.env.scope x:=by first |exact Or.inl rfl |exact Or.inr (Or.inl rfl) |exact Or.inr (Or.inr rfl))(hd:(x == ("__debug__":Str))=false:=by decide)
  (hcd:(x == ("__classdict__":Str))=false:=by decide):SS X Γ E (.Return (some (.Name x p)) pos) (qZ i):=by
 refine PS.post (mD (jd hN hv hd hcd)) fun N σ H ⟨env,G,B,β,I,o⟩=>?_
 unfold qZ at o
 cases q:env[i]? with
 |none=>rw[q] at o;exact o.elim
 |some s=>
  rw[q] at o
  cases s with
  |no=>exact o.elim
  |bx=>exact o.elim
  |br d=>exact o.elim
  |fz d=>
   obtain⟨v,h1,h2⟩:=I.slot i _ q
   exact⟨v,h1,o B G H σ env v I (ao.refl _) h2⟩
  |ow d=>
   obtain⟨p,h1,h2,h3,h4,h5⟩:=I.slot i _ q
   exact⟨_,h1,o B G H σ env _ I (ao.refl _) ⟨p,rfl,h2,h3,h5⟩⟩
def jH (L:List Nat)(t:VF Bool)(m m':SF):SF:=fun env β=>toS (t (vl env) β) fun c β'=>if c=true then m (a7 L env) β' else m' (a7 L env) β'
theorem dw {x y:List Stmt}(hc:Ae X Γ E c ta L)(ha:CN X Γ E x m)(hb:CN X Γ E y m'):SS X Γ E (.If c x y pos) (jH L ta m m'):=by
 refine PS.post (EU hc ha hb) fun N σ H ⟨env,G,B,β,I,o⟩=>?_
 refine⟨env,G,B,β,I,cf o fun d β' k G' H' I' s' m'=>?_⟩
 cases d with
 |true=>exact vm ⟨_,G',B,β',I',p7.weak k s'⟩
 |false=>exact vp ⟨_,G',B,β',I',p7.weak k s'⟩
def ip (L:List Nat)(t:VF Bool)(m:SF):Nat->SF
 | 0=>fun _ _=>.bad
 |n + 1=>fun env β=>toS (t (vl env) β) fun c β'=>if c=true then (match m (a7 L env) β' with
   | .nx env2 β2=>ip L t m n env2 β2
   | .ct env2 β2=>ip L t m n env2 β2
   | .bk env2 β2=>.nx env2 β2
   |r=>r) else .nx (a7 L env) β'
theorem pH {x:List Stmt}(n:Nat)(hp:PassesOwn (model X.prog X.w) X.A X.env X.xe)(hc:Ae X Γ E c ta L)(hb:CN X Γ E x m):SS X Γ E (.While c x [] pos) (ip L ta m n):=by
 refine PS.post (Bu hp hc hb) fun N σ H ⟨env,G,B,β,I,o⟩=>?_
 refine⟨fun k σ H=>∃env G1 B β,SR Γ B G1 H σ env β/\ao G G1/\p7 Γ E G1 N (ip L ta m k env β),⟨n,env,G,B,β,I,ao.refl _,o⟩,?_⟩
 rintro k σ H ⟨env,G1,B,β,I,sG,o⟩
 cases k with
 |zero=>exact o.elim
 |succ k=>
  refine⟨env,G1,B,β,I,cf o fun d β' q G' H' I' s' m'=>?_⟩
  cases d with
  |false=>exact vp (q B G' H' σ I' s')
  |true=>
   refine vm ⟨fun σ H=>∃env G1 B β,SR Γ B G1 H σ env β/\ao G G1/\p7 Γ E G1 N (ip L ta m k env β),fun σ' H' h=>⟨k,Nat.lt_succ_self k,h⟩,a7 L env,G',B,β',I',?_⟩
   rw[if_pos rfl] at q
   cases r:m (a7 L env) β' with
   |nx env2 β2=>rw[r] at q;exact fun B2 G2 H2 σ2 I2 s2=>⟨env2,G2,B2,β2,I2,(sG.trans s').trans s2,p7.weak q (s'.trans s2)⟩
   |ct env2 β2=>rw[r] at q;exact fun B2 G2 H2 σ2 I2 s2=>⟨env2,G2,B2,β2,I2,(sG.trans s').trans s2,p7.weak q (s'.trans s2)⟩
   |bk env2 β2=>rw[r] at q;exact fun B2 G2 H2 σ2 I2 s2=>q B2 G2 H2 σ2 I2 (s'.trans s2)
   |rt d fr β2=>rw[r] at q;exact p7.weak q s'
   |exc c=>rw[r] at q;exact q
   |bad=>rw[r] at q;exact q
def Walk (K:PySem.W.Frag)(B:Option Addr)(G H1:Hp)(ds:List D)(J:It):Prop:=∀Gc H (i:Nat),ao G Gc->ao Gc H->hV B H1 H->
 (i < ds.length->J.go i H/\∀x H',J.yld i H x H'->∃G' d,Ext Gc H G' H'/\ds[i]? =some d/\Rp K G' x d)/\(ds.length<=i->J.stop i H)
def iT (Γ:Fx)(E:XK)(f:VF (List D))(L:List Nat)(md:Md):TI:=fun σ H Rr=>∃env G B β,SR Γ B G H σ env β/\
 Out Γ E (f (vl env) β) fun ds β'=>∀J G' H',SR Γ B G' H' σ (a7 L env) β'->ao G G'->hV B H H'->Walk Γ.K B G' (match md with | .b=>H' |_=>fun _=>none) ds J->Rr J H'
def SI (X:Cx)(Γ:Fx)(E:XK)(tg e:Expr)(f:VF (List D))(L:List Nat)(md:Md):Prop:=PI X tg e (iT Γ E f L md)
theorem PI.post {X:Cx}{tg e:Expr}{t u:TI}(h:PI X tg e t)(m:∀σ H Q,u σ H Q->t σ H Q):PI X tg e u:=fun pins s σ H Q I q=>h pins s σ H Q I (m σ H Q q)
variable {tg:Expr}
def jD:D->Option (List D)
 | .list ds=>some ds
 | .tuple ds=>some ds
 |_=>none
def bF (fa:VF D):VF (List D):=fun vs β=>(fa vs β).bnd fun x β1=>R.of (jD x) β1
end
end L2

end

section
namespace L2
open PySem PySem.Spec PyProof.Rows
def Lq (K:PySem.W.Frag)(tl:TE):TI:=fun σ H R=>tl σ H fun x H1=>∃a xs,x=.ref a/\((fR K H1 a xs/\R (zb K a) H1)\/(c7 K H1 a xs/\R (EW K a) H1))
section
variable {X:Cx}{tg l:Expr}{tl:TE}
theorem EL (hl:PE X l tl):PI X tg l (Lq X.K tl):=by
 intro pins s σ H R I h
 refine bW (hl pins s σ H _ I h) fun v s1 ⟨x,H1,I1,r1,q1⟩=>?_
 obtain⟨a,xs,e,q⟩:=q1
 subst e
 cases r1
 rcases q with⟨hq,q⟩ | ⟨hq,q⟩
 ·obtain⟨its,rv,p,hz⟩:=I1.list hq
  refine wpAny_pyIter_list p.isList ?_
  refine⟨s1.heap.objs.size,[s1.heap.objs.size],_,_,H1,rfl,I1.kept (t':=s1.toks) fun b o e=>Heap.get?_push_of_some _ e,mQ a _,⟨_,Heap.get?_push_size _ rfl,rfl,rfl⟩,fun b hb=>?_,q⟩
  have e:b=s1.heap.objs.size:=by simpa using hb
  subst e
  exact I1.fpOk (Nat.le_refl _) (I1.hok.fresh (Nat.le_refl _))
 ·obtain⟨its,rv,p,hz⟩:=I1.tuple hq
  refine wpAny_pyIter_tuple (show s1.heap.IsTuple a its.toArray from p) ?_
  refine⟨s1.heap.objs.size,[s1.heap.objs.size],_,_,H1,rfl,I1.kept (t':=s1.toks) fun b o e=>Heap.get?_push_of_some _ e,pM a _,⟨_,Heap.get?_push_size _ rfl,rfl,rfl⟩,fun b hb=>?_,q⟩
  have e:b=s1.heap.objs.size:=by simpa using hb
  subst e
  exact I1.fpOk (Nat.le_refl _) (I1.hok.fresh (Nat.le_refl _))
end
section
variable {X:Cx}{Γ:Fx}{E:XK}{e a b c:Expr}{f fa fb:VF D}{L La Lb:List Nat}{md ma mb:Md}{pos:Pos}{st:Stmt}{sts:List Stmt}{m m':SF}{ta:VF Bool}{tg:Expr}
theorem mw {K:PySem.W.Frag}{B:Option Addr}{G H1:Hp}{p:Addr}{xs:List V}{ds:List D}(h:∀Gc H,ao G Gc->ao Gc H->hV B H1 H->fR K H p xs)(r:bE K G xs ds):Walk K B G H1 ds (zb K p):=fun Gc H i s1 s2 m=>by
 have hq:=h Gc H s1 s2 m
 refine⟨fun hi=>⟨?_,fun x H' y=>?_⟩,fun hi=>⟨xs,hq,by rw[r.len];exact hi⟩⟩
 ·have hi':i < xs.length:=by rw[r.len];exact hi
  exact⟨xs,xs[i],hq,by simp[hi']⟩
 ·obtain⟨rfl,y⟩:=y
  obtain⟨d,e,q⟩:=r.at' (y xs hq)
  exact⟨Gc,d,Ext.refl s2,e,q.mono s1⟩
theorem uL {K:PySem.W.Frag}{B:Option Addr}{G H1:Hp}{p:Addr}{xs:List V}{ds:List D}(h:∀Gc H,ao G Gc->ao Gc H->hV B H1 H->c7 K H p xs)(r:bE K G xs ds):Walk K B G H1 ds (EW K p):=fun Gc H i s1 s2 m=>by
 have hq:=h Gc H s1 s2 m
 refine⟨fun hi=>⟨?_,fun x H' y=>?_⟩,fun hi=>⟨xs,hq,by rw[r.len];exact hi⟩⟩
 ·have hi':i < xs.length:=by rw[r.len];exact hi
  exact⟨xs,xs[i],hq,by simp[hi']⟩
 ·obtain⟨rfl,y⟩:=y
  obtain⟨d,e,q⟩:=r.at' (y xs hq)
  exact⟨Gc,d,Ext.refl s2,e,q.mono s1⟩
theorem Ej (hK:X.K=Γ.K)(ha:SE X Γ E a fa La .v):SI X Γ E tg a (bF fa) La .v:=by
 refine PI.post (EL ha) fun σ H Q ⟨env,G,B,β,I,o⟩=>?_
 refine⟨env,G,B,β,I,o.bnd.imp fun d1 β1 h x G1 H1 I1 s1 m1 vx=>?_⟩
 obtain⟨ds,e,k⟩:=h.of
 rw[hK]
 have vx:Rp Γ.K G1 x d1:=vx
 cases d1 with
 |list l=>
  cases e
  cases vx with
  | @lst p xs _ hq r=>exact⟨p,xs,rfl,.inl ⟨.inl (Rd.mono (.inl hq) I1.sub),k _ G1 H1 I1 s1 m1 (mw (fun Gc H t1 t2 _=>.inl (Rd.mono (.inl hq) (t1.trans t2))) r)⟩⟩
 |tuple l=>
  cases e
  cases vx with
  | @tup p xs _ hq r=>exact⟨p,xs,rfl,.inr ⟨hq.grow I1.sub.grow,k _ G1 H1 I1 s1 m1 (uL (fun Gc H t1 t2 _=>hq.grow (t1.trans t2).grow) r)⟩⟩
 |_=>cases e
theorem lr (hK:X.K=Γ.K)(ha:SE X Γ E a fa La ma):SI X Γ E tg a (bF fa) La .b:=by
 refine PI.post (EL ha) fun σ H Q ⟨env,G,B,β,I,o⟩=>?_
 refine⟨env,G,B,β,I,o.bnd.imp fun d1 β1 h x G1 H1 I1 s1 m1 vx=>?_⟩
 obtain⟨ds,e,k⟩:=h.of
 rw[hK]
 have vx:=vx.brw I.boxThere
 cases d1 with
 |list l=>
  cases e
  rcases vx with vx | ⟨p,rfl,hb,xs,q,r⟩
  ·cases vx with
   | @lst p xs _ hq r=>exact⟨p,xs,rfl,.inl ⟨.inl (Rd.mono (.inl hq) I1.sub),k _ G1 H1 I1 s1 m1 (mw (fun Gc H t1 t2 _=>.inl (Rd.mono (.inl hq) (t1.trans t2))) r)⟩⟩
  ·exact⟨p,xs,rfl,.inl ⟨.inl (.inl q),k _ G1 H1 I1 s1 m1 (mw (fun Gc H t1 t2 mv=>.inl (.inl (mv p _ q hb))) r)⟩⟩
 |tuple l=>
  cases e
  rcases vx with vx | ⟨p,rfl,hb,q⟩
  ·cases vx with
   | @tup p xs _ hq r=>exact⟨p,xs,rfl,.inr ⟨hq.grow I1.sub.grow,k _ G1 H1 I1 s1 m1 (uL (fun Gc H t1 t2 _=>hq.grow (t1.trans t2).grow) r)⟩⟩
  ·exact q.elim
 |_=>cases e
def b7 (lo:Int)(n:Nat):List D:=(List.range n).map fun (k:Nat)=>PyData.int (lo + k)
theorem cH (lo:Int)(n:Nat):(b7 lo n).length=n:=by unfold b7;simp
theorem uB {K:PySem.W.Frag}{B:Option Addr}{G H1:Hp}(lo:Int)(n:Nat):Walk K B G H1 (b7 lo n) (y9 lo n):=fun Gc H i s1 s2 m=>by
 rw[cH]
 refine⟨fun hi=>⟨hi,fun x H' y=>?_⟩,fun hi=>hi⟩
 obtain⟨rfl,rfl⟩:=y
 refine⟨Gc,.int (lo + i),Ext.refl s2,?_,.int _⟩
 unfold b7
 rw[List.getElem?_map,List.getElem?_range hi];rfl
def Ai (j:Int):Bool:=Nat.ble j.natAbs 1000000
theorem mJ {j:Int}(h:Ai j=true): -(2 ^ 62)<=j/\j < 2 ^ 62:=by
 have:=Nat.le_of_ble_eq_true h
 omega
theorem mC {j:Int}(h: -1000<=j)(h2:j<=10000):Ai j=true:=Nat.ble_eq_true_of_le (by omega)
def dz (fa:VF D):VF (List D):=fun vs β=>(fa vs β).bnd fun x β1=>match x with
 | .int j=>if Ai j=true then .ok (b7 0 j.toNat) β1 else .bad
 |_=>.bad
def qQ (fa fb:VF D):VF (List D):=fun vs β=>(fa vs β).bnd fun x β1=>(fb vs β1).bnd fun y β2=>match x,y with
 | .int i,.int j=>if (Ai i && Ai j)=true then .ok (b7 i (j - i).toNat) β2 else .bad
 |_,_=>.bad
theorem j8 {p:Pos}(hg:Gl X "range")(hm:X.mg "range"=none)(ha:SE X Γ E a fa La ma)(hs:starEach [a] X.env= [(false,eval a X.env)]:=by rfl)(hs':starEach [a] X.env=(false,eval a X.env) :: starEach [] X.env:=by rfl):SI X Γ E tg (.Call (.Name "range" p) [a] [] pos) (dz fa) La md:=by
 refine PI.post (kh hg hm (aK ha bg hs') hs) fun σ H Q ⟨env,G,B,β,I,o⟩=>?_
 refine⟨env,G,B,β,I,o.bnd.imp fun d1 β1 h x G1 H1 I1 s1 m1 vx=>?_⟩
 have vx:=vx.brw I.boxThere
 cases d1 with
 |int j=>
  obtain rfl:=vx.int
  dsimp only at h
  by_cases hj:Ai j=true
  ·rw[if_pos hj] at h
   exact⟨j,rfl,(mJ hj).1,(mJ hj).2,h _ G1 H1 I1 s1 m1 (uB 0 _)⟩
  ·rw[if_neg hj] at h;exact h.elim
 |_=>exact h.elim
theorem IL {p:Pos}(hg:Gl X "range")(hm:X.mg "range"=none)(ha:SE X Γ E a fa La ma)(hb:SE X Γ E b fb Lb mb)(hs:starEach [a,b] X.env= [(false,eval a X.env),(false,eval b X.env)]:=by rfl)(hs2:starEach [b] X.env= [(false,eval b X.env)]:=by rfl)(hs':starEach [a,b] X.env=(false,eval a X.env) :: starEach [b] X.env:=by rfl)(hs3:starEach [b] X.env=(false,eval b X.env) :: starEach [] X.env:=by rfl):SI X Γ E tg (.Call (.Name "range" p) [a,b] [] pos) (qQ fa fb) (La ++ Lb) md:=by
 refine PI.post (yN hg hm (aK ha (aK hb bg hs3) hs') hs hs2) fun σ H Q ⟨env,G,B,β,I,o⟩=>?_
 refine two (W:=fun x y H2=>∃i j:Int,[x,y]= [.int i,.int j]/\(-(2 ^ 62)<=i/\i < 2 ^ 62/\ -(2 ^ 62)<=j/\j < 2 ^ 62)/\Q (y9 i (j - i).toNat) H2) I (o.bnd.imp fun d1 β1 h=>h.bnd.imp fun d2 β2 h x y G2 H2 I2 s2 m2 bx by'=>?_)
 obtain⟨i,j,rfl,rfl⟩:∃i j,d1=.int i/\d2=.int j:=by
  cases d1 <;> cases d2 <;> first |exact h.elim |exact⟨_,_,rfl,rfl⟩
 obtain rfl:=bx.int
 obtain rfl:=by'.int
 dsimp only at h
 by_cases hj:(Ai i && Ai j)=true
 ·rw[if_pos hj] at h
  rw[Bool.and_eq_true] at hj
  exact⟨i,j,rfl,⟨(mJ hj.1).1,(mJ hj.1).2,(mJ hj.2).1,(mJ hj.2).2⟩,h _ G2 H2 I2 s2 m2 (uB i _)⟩
 ·rw[if_neg hj] at h;exact h.elim
inductive Tg where
 |nm (i:Nat)
 |two (i j:Nat)
def pairD:D->Option (D×D)
 | .tuple [x,y]=>some (x,y)
 |_=>none
theorem Bc {d x y:D}(h:pairD d=some (x,y)):d=.tuple [x,y]:=by
 unfold pairD at h
 split at h
 ·cases h;rfl
 ·cases h
def fS:Tg->D->En->Option En
 | .nm i,d,env=>some (env.set i (.fz d))
 | .two i j,d,env=>(pairD d).map fun p=>(env.set i (.fz p.1)).set j (.fz p.2)
def kH:Tg->D->List Nv->Option (List Nv)
 | .nm i,d,vs=>some (vs.set i (.da d))
 | .two i j,d,vs=>(pairD d).map fun p=>(vs.set i (.da p.1)).set j (.da p.2)
theorem vG (env:En)(i:Nat)(s:Sl):vl (env.set i s)=(vl env).set i s.val:=by unfold vl;rw[List.map_set]
theorem DD (t:Tg)(d:D)(env:En):(fS t d env).map vl=kH t d (vl env):=by
 cases t with
 |nm i=>show some (vl _)=some _;rw[vG];rfl
 |two i j=>
  show ((pairD d).map _).map vl=(pairD d).map _
  cases pairD d with
  |none=>rfl
  |some p=>show some (vl _)=some _;rw[vG,vG];rfl
def gT (Γ:Fx)(t:Tg):TG:=fun v σ H Q=>∃env G B β d env',SR Γ B G H σ env β/\Rp Γ.K G v d/\fS t d env=some env'/\∀σ',SR Γ B G H σ' env' β->Q σ' H
def SG (X:Cx)(Γ:Fx)(tg:Expr)(t:Tg):Prop:=PG X tg (gT Γ t)
theorem PG.post {X:Cx}{tg:Expr}{t u:TG}(h:PG X tg t)(m:∀v σ H Q,u v σ H Q->t v σ H Q):PG X tg u:=fun pins s σ H v uu Q I r q=>h pins s σ H v uu Q I r (m v σ H Q q)
theorem cO {i:Nat}{x:Str}(hN:X.N.Nodup)(hi:X.N[i]? =some x:=by rfl)(hx:Loc X.env.scope x:=by first |exact Or.inl rfl |exact Or.inr rfl)(hf:X.fn x=true\/X.env.scope.names.lookup x=some .local:=by first |exact .inl rfl |exact .inr rfl |assumption):SG X Γ (.Name x pos) (.nm i):=by
 refine PG.post (cy hN hi hx hf) fun v σ H Q ⟨env,G,B,β,d,env',I,r,e,k⟩=>?_
 cases e
 exact k _ (I.set' i r)
theorem jf {i j:Nat}{x y:Str}{px py:Pos}{n:Nat}(hN:X.N.Nodup)(hc:X.calm=true:=by rfl)(hK:X.K=Γ.K:=by rfl)(hi:X.N[i]? =some x:=by rfl)(hj:X.N[j]? =some y:=by rfl)(hx:Loc X.env.scope x:=by first |exact Or.inl rfl |exact Or.inr rfl)(hy:Loc X.env.scope y:=by first |exact Or.inl rfl |exact Or.inr rfl)
  (hf:X.fn x=true\/X.env.scope.names.lookup x=some .local:=by first |exact .inl rfl |exact .inr rfl |assumption) (hf':X.fn y=true\/X.env.scope.names.lookup y=some .local:=by first |exact .inl rfl |exact .inr rfl |assumption):SG X Γ (.Tuple [.Name x px,.Name y py] n pos) (.two i j):=by
 refine PG.post (o4 (n:=2) hc (cU (cy hN hi hx hf) (cU (cy hN hj hy hf') lX))) fun v σ H Q ⟨env,G,B,β,d,env',I,r,e,k⟩=>?_
 rw[hK]
 have e:(pairD d).map (fun p=>(env.set i (.fz p.1)).set j (.fz p.2))=some env':=e
 cases q:pairD d with
 |none=>rw[q] at e;cases e
 |some p=>
  obtain⟨dx,dy⟩:=p
  rw[q] at e
  cases e
  obtain rfl:=Bc q
  cases r with
  | @tup p xs _ hq r=>
   cases r with
   |cons r1 r=>
    cases r with
    |cons r2 r=>
     cases r
     exact⟨p,_,rfl,hq.grow I.sub.grow,rfl,_,_,rfl,_,_,rfl,rfl,k _ ((I.set' i r1).set' j r2)⟩
def lg (t:Tg)(m:SF):List D->SF
 | []=>fun env β=>.nx env β
 |d :: ds=>fun env β=>match fS t d env with
  |none=>.bad
  |some env1=>match m env1 β with
   | .nx env2 β2=>lg t m ds env2 β2
   | .ct env2 β2=>lg t m ds env2 β2
   | .bk env2 β2=>.nx env2 β2
   |r=>r
def cm (t:Tg)(L:List Nat)(fi:VF (List D))(m:SF):SF:=fun env β=>toS (fi (vl env) β) fun ds β'=>lg t m ds (a7 L env) β'
theorem c9 {t:Tg}{fi:VF (List D)}{x:List Stmt}(hp:PassesOwn (model X.prog X.w) X.A X.env X.xe)(hc:X.calm=true)(hi:SI X Γ E tg e fi L .v)(hg:SG X Γ tg t)(hb:CN X Γ E x m)(hs:∀x,foldedSetIterable e X.env x=pure x:=by intro _;rfl):SS X Γ E (.For tg e x [] pos) (cm t L fi m):=by
 refine PS.post (rz hp hc hi hg hb hs) fun N σ H ⟨env,G,B,β,I,o⟩=>?_
 refine⟨env,G,B,β,I,cf o fun ds β' q J G' H' I' s' m' w=>?_⟩
 have w:Walk Γ.K B G' (fun _=>none) ds J:=w
 refine⟨fun i n σ H=>n=ds.length - i/\i<=ds.length/\∃env G1 B β,SR Γ B G1 H σ env β/\ao G' G1/\p7 Γ E G1 N (lg t m (ds.drop i) env β),⟨ds.length,by simp,Nat.zero_le _,a7 L env,G',B,β',I',ao.refl _,by rw[List.drop_zero];exact p7.weak q s'⟩,?_⟩
 rintro i n σ H ⟨rfl,hi,env,G1,B1,β1,I1,s1,q⟩
 obtain⟨w1,w2⟩:=w G1 H i s1 I1.sub fun b o e=>by cases e
 by_cases hlt:i < ds.length
 ·obtain⟨go,yl⟩:=w1 hlt
  refine .inr ⟨go,fun σ H=>∃env G2 B β,SR Γ B G2 H σ env β/\ao G' G2/\p7 Γ E G2 N (lg t m (ds.drop (i + 1)) env β),fun σ2 H2 h=>⟨ds.length - (i + 1),by omega,rfl,hlt,h⟩,fun x H2 y=>?_⟩
  obtain⟨G2,d,x2,ed,rd⟩:=yl x H2 y
  have I2:=I1.ext x2
  have q:=p7.weak q x2.gg
  rw[List.drop_eq_getElem_cons hlt] at q
  have ed':ds[i]=d:=by rw[List.getElem?_eq_getElem hlt] at ed;exact Option.some.inj ed
  rw[ed'] at q
  unfold lg at q
  cases eb:fS t d env with
  |none=>rw[eb] at q;exact q.elim
  |some env1=>
   rw[eb] at q
   refine⟨env,G2,B1,β1,d,env1,I2,rd,eb,fun σ3 I3=>⟨env1,G2,B1,β1,I3,?_⟩⟩
   have s2:=s1.trans x2.gg
   dsimp only at q
   cases r:m env1 β1 with
   |nx env2 β2=>rw[r] at q;exact fun B2 G3 H3 σ2 I2 s3=>⟨env2,G3,B2,β2,I2,s2.trans s3,p7.weak q s3⟩
   |ct env2 β2=>rw[r] at q;exact fun B2 G3 H3 σ2 I2 s3=>⟨env2,G3,B2,β2,I2,s2.trans s3,p7.weak q s3⟩
   |bk env2 β2=>rw[r] at q;exact fun B2 G3 H3 σ2 I2 s3=>q B2 G3 H3 σ2 I2 s3
   |rt d fr β2=>rw[r] at q;exact q
   |exc c=>rw[r] at q;exact q
   |bad=>rw[r] at q;exact q
 ·have e:i=ds.length:=by omega
  subst e
  rw[List.drop_length] at q
  exact .inl ⟨w2 (Nat.le_refl _),q B1 G1 H σ I1 (ao.refl _)⟩
end
end L2

end

section
namespace L2
open PySem PySem.Spec PyProof.Rows
abbrev Fx.ij (Γ:Fx)(H0 G0:Hp)(par:List Addr)(br:Nat->Bool)(bx:Option Addr):Fx:=⟨Γ.K,H0,G0,par,Γ.ca,br,bx⟩
def dW (own:Nat)(ixs:List Nat)(vs:List Nv):List Nv:=List.replicate own .no ++ ixs.map fun i=>(vs[i]?).getD .no
def HF:Option Sl->Sl
 |some (.ow d)=>.br d
 |some s=>s
 |none=>.no
def benv (own:Nat)(ixs:List Nat)(env:En):En:=List.replicate own .no ++ ixs.map fun i=>HF env[i]?
theorem DU (o:Option Sl):(HF o).val=(o.map Sl.val).getD .no:=by
 cases o with
 |none=>rfl
 |some s=>cases s <;> rfl
theorem CU (own:Nat)(ixs:List Nat)(env:En):vl (benv own ixs env)=dW own ixs (vl env):=by
 unfold vl benv dW
 rw[List.map_append,List.map_replicate,List.map_map]
 congr 1
 refine List.map_congr_left fun i _=>?_
 show (HF env[i]?).val=_
 rw[DU,List.getElem?_map]
def xm (env:En):Prop:=∀(i:Nat) (d:D),env[i]?≠some (.ow d)
theorem vh {env:En}(h:xm env)(L:List Nat):a7 L env=env:=by
 unfold a7
 induction L with
 |nil=>rfl
 |cons i L ih=>
  rw[List.foldl_cons]
  have:iH env i=env:=by
   unfold iH
   split
   ·rename_i d e;exact absurd e (h i d)
   ·rfl
  rw[this];exact ih
theorem rh (own:Nat)(ixs:List Nat)(env:En):xm (benv own ixs env):=fun i d e=>by
 unfold benv at e
 have hm:=List.mem_of_getElem? e
 rcases List.mem_append.mp hm with h |h
 ·have:=List.eq_of_mem_replicate h;cases this
 ·obtain⟨k,_,hk⟩:=List.mem_map.mp h
  cases q:env[k]? with
  |none=>rw[q] at hk;cases hk
  |some s=>rw[q] at hk;cases s <;> cases hk
theorem pQ {env:En}(h:xm env)(i:Nat)(d:D):xm (env.set i (.fz d)):=fun j d' e=>by
 by_cases z:i=j
 ·subst z
  by_cases hi:i < env.length
  ·rw[List.getElem?_set_self hi] at e;cases e
  ·rw[List.set_eq_of_length_le (by omega)] at e;exact h _ _ e
 ·rw[List.getElem?_set_ne z] at e;exact h _ _ e
theorem zD {env env1:En}{t:Tg}{d:D}(h:xm env)(e:fS t d env=some env1):xm env1:=by
 cases t with
 |nm i=>cases e;exact pQ h i d
 |two i j=>
  have e:(pairD d).map _=some env1:=e
  cases q:pairD d with
  |none=>rw[q] at e;cases e
  |some p=>rw[q] at e;cases e;exact pQ (pQ h _ _) _ _
theorem y1 {env env1:En}{t:Tg}{d:D}(e:fS t d env=some env1)(d':D):fS t d' env1=fS t d' env:=by
 cases t with
 |nm i=>cases e;show some _=some _;rw[List.set_set]
 |two i j=>
  have e:(pairD d).map _=some env1:=e
  cases q:pairD d with
  |none=>rw[q] at e;cases e
  |some p=>
   rw[q] at e;cases e
   show (pairD d').map _=(pairD d').map _
   cases pairD d' with
   |none=>rfl
   |some p'=>
    show some _=some _
    congr 1
    dsimp only
    by_cases z:i=j
    ·subst z;simp[List.set_set]
    ·rw[List.set_comm _ _ (Ne.symm z),List.set_set,List.set_set]
theorem Ext.mov {G H G' H':Hp}(x:Ext G H G' H')(B:Option Addr):hV B H H':=x.hh.mov B
section
variable {Γ:Fx}{B:Option Addr}{G H G1 H1 Gc Hc:Hp}{σ σ':St}{env envb:En}{β β':Int}{own:Nat}{ixs:List Nat}{Da:Addr}{acc:List V}
def vX (envb:En):Nat->Bool:=fun j=>match envb[j]? with
 |some (.br _)=>true
 |_=>false
theorem SR.block (I:SR Γ B G H σ env β)(own:Nat)(ixs:List Nat)(hD:H Da=none):SR (Γ.ij (upd H Da (.lst [])) G (Da :: B.toList) (vX (benv own ixs env)) B) B G (upd H Da (.lst [])) (rG own ixs σ) (benv own ixs env) β:=by
 obtain⟨q1,q2,q3,q4⟩:=I.fresh hD
 have nB:∀b,B=some b->b≠Da:=fun b e z=>q3 (by rw[<-z];exact e)
 refine⟨I.sub.trans (ao.new hD),ao.refl _,fun b _ h=>h,fun b o h _=>h,fun b hb=>?_,fun b e=>e,fun b e=>?_,?_,fun i s e=>?_,fun i j c d d' e=>absurd e (rh own ixs env i d)⟩
 ·rcases List.mem_cons.mp hb with z |z
  ·subst z;exact Mx.lst aq
  ·have z':B=some b:=by simpa using z
   exact Mx.lst (by rw[ay (nB b z')];exact (I.box b z').1)
 ·obtain⟨h1,h2,_⟩:=I.box b e
  exact⟨by rw[ay (nB b e)];exact h1,h2,.inl (List.mem_cons_of_mem _ (by simpa using e))⟩
 ·unfold rG benv;simp
 ·by_cases hi:i < own
  ·unfold benv at e
   rw[List.getElem?_append_left (by simpa using hi),List.getElem?_replicate,if_pos hi] at e
   cases e;trivial
  ·have e0:=e
   unfold benv at e
   rw[List.getElem?_append_right (by simpa using hi),List.length_replicate,List.getElem?_map] at e
   cases ek:ixs[i - own]? with
   |none=>rw[ek] at e;cases e
   |some k=>
    rw[ek] at e
    have e:HF env[k]? =s:=Option.some.inj e
    have es:(rG own ixs σ)[i]? =some ((σ[k]?).join):=by
     unfold rG
     rw[List.getElem?_append_right (by simpa using hi),List.length_replicate,List.getElem?_map,ek];rfl
    rw[es]
    cases q:env[k]? with
    |none=>rw[q] at e;subst e;trivial
    |some t=>
     rw[q] at e
     have w:=I.slot k t q
     cases t with
     |no=>subst e;trivial
     |fz d=>subst e;obtain⟨v,h1,h2⟩:=w;exact⟨v,by rw[h1];rfl,h2⟩
     |bx=>subst e;obtain⟨a,h1,h2⟩:=w;exact⟨a,by rw[h1];rfl,h2⟩
     |ow d=>
      subst e
      obtain⟨a,h1,h2,h3,h4,h5⟩:=w
      obtain⟨o,ho⟩:=h5.obj
      have aD:a≠Da:=aG ho hD
      refine⟨by show vX _ i=true;unfold vX;rw[e0];rfl,a,by rw[h1];rfl,h4,?_,h5.mono (ao.refl _) fun o q=>by rw[ay aD];exact q⟩
      intro hm
      rcases List.mem_cons.mp hm with z |z
      ·exact aD z
      ·exact h4 (by simpa using z)
     |br d=>
      subst e
      obtain⟨b1,a,h1,h4,hp,h5⟩:=w
      obtain⟨o,ho⟩:=h5.obj
      have aD:a≠Da:=aG ho hD
      refine⟨by show vX _ i=true;unfold vX;rw[e0];rfl,a,by rw[h1];rfl,h4,?_,h5.mono (ao.refl _) fun o q=>by rw[ay aD];exact q⟩
      intro hm
      rcases List.mem_cons.mp hm with z |z
      ·exact aD z
      ·exact h4 (by simpa using z)
theorem SR.unblock (I:SR Γ B G H σ env β){br:Nat->Bool}(hD:H Da=none)(J:SR (Γ.ij (upd H Da (.lst [])) G (Da :: B.toList) br B) B Gc Hc σ' envb β'):SR Γ B Gc Hc σ env β'/\hV B H Hc/\Gc Da=none:=by
 obtain⟨q1,q2,q3,q4⟩:=I.fresh hD
 have up:∀{b:Addr},Mx H b->Mx (upd H Da (.lst [])) b:=fun {b} h=>h.same fun o e=>by rw[ay (aG e hD)];exact e
 have mv:hV B H Hc:=fun b o e n=>J.keep b o (show upd H Da (.lst []) b=some o by rw[ay (aG e hD)];exact e) fun hm=>by
  rcases List.mem_cons.mp hm with z |z
  ·rw[z,hD] at e;cases e
  ·exact n (by simpa using z)
 refine⟨⟨J.sub,I.old.trans J.old,fun b h1 h2=>J.new b (up (I.thereM h1)) (I.new b h1 h2),fun b o h1 h2=>mv b o (I.keep b o h1 h2) fun z=>?_,fun b hb=>J.thereM (up (I.pin b hb)),I.fix,fun b e=>?_,I.len,fun i s e=>?_,I.sep⟩,mv,J.new Da (Mx.lst (show upd H Da (.lst []) Da=some (.lst []) from aq)) q2⟩
 ·obtain⟨_,_,h3⟩:=I.box b z
  rcases h3 with h3 |h3
  ·exact h2 h3
  ·rw[h1] at h3;cases h3
 ·obtain⟨j1,j2,_⟩:=J.box b e
  exact⟨j1,j2,(I.box b e).2.2⟩
 ·have w:=I.slot i s e
  cases s with
  |no=>trivial
  |fz d=>obtain⟨v,h1,h2⟩:=w;exact⟨v,h1,h2.mono J.old⟩
  |bx=>exact w
  |ow d=>
   obtain⟨a,h1,h2,h3,h4,h5⟩:=w
   exact⟨a,h1,h2,J.new a (up h5.mx) h3,h4,h5.mono J.old fun o q=>mv a o q h4⟩
  |br d=>
   obtain⟨b1,a,h1,h4,hp,h5⟩:=w
   exact⟨b1,a,h1,h4,hp,h5.mono J.old fun o q=>mv a o q h4⟩
theorem SR.updD {ys:List V}(J:SR Γ B G H σ env β)(hp:Da∈Γ.par)(h0:Mx Γ.H0 Da)(g0:Γ.G0 Da=none)(hB:B≠some Da):SR Γ B G (upd H Da (.lst ys)) σ env β:=by
 have gD:=J.new Da h0 g0
 refine⟨fun b u q=>by rw[ay (fun z=>by rw[z,gD] at q;cases q)];exact J.sub b u q,J.old,J.new,fun b u q n=>by rw[ay (fun z=>n (by rw[z];exact hp))];exact J.keep b u q n,fun b hb=>?_,J.fix,fun b e=>?_,J.len,fun i s e=>?_,J.sep⟩
 ·by_cases z:b=Da
  ·subst z;exact Mx.lst aq
  ·exact (J.pin b hb).same fun o e=>by rw[ay z];exact e
 ·obtain⟨h1,h2⟩:=J.box b e
  exact⟨by rw[ay (fun z=>hB (by rw[<-z];exact e))];exact h1,h2⟩
 ·have w:=J.slot i s e
  cases s with
  |no=>trivial
  |fz d=>exact w
  |bx=>exact w
  |ow d=>
   obtain⟨a,h1,h2,h3,h4,h5⟩:=w
   have aD:a≠Da:=fun z=>h0.1 (by rw[<-z];exact h2)
   exact⟨a,h1,h2,h3,h4,h5.mono (ao.refl _) fun o q=>by rw[ay aD];exact q⟩
  |br d=>
   obtain⟨b1,a,h1,h4,hpa,h5⟩:=w
   have aD:a≠Da:=fun z=>hpa (by rw[z];exact hp)
   exact⟨b1,a,h1,h4,hpa,h5.mono (ao.refl _) fun o q=>by rw[ay aD];exact q⟩
end
def R.okb {α γ:Type}(r:R α)(k:α->Int->R γ):R γ:=match r with
 | .ok a β=>k a β
 |_=>.bad
def fE (t:Tg)(ft:VF Bool)(fe:VF D)(vs:List Nv):List D->Int->R (List D)
 | [],β=>.ok [] β
 |d :: ds,β=>match kH t d vs with
  |none=>.bad
  |some vs1=>(ft vs1 β).okb fun c β1=>if c=true then (fe vs1 β1).okb fun x β2=>(fE t ft fe vs ds β2).okb fun xs β3=>.ok (x :: xs) β3 else fE t ft fe vs ds β1
def aN (own:Nat)(ixs:List Nat)(t:Tg)(fi:VF (List D))(ft:VF Bool)(fe:VF D):VF D:=fun vs β=>(fi vs β).bnd fun ds β1=>if ds.length<=sizeLine then (fE t ft fe (dW own ixs vs) ds β1).okb fun xs β2=>.ok (.list xs) β2 else .bad
def lN:VF Bool:=fun _ β=>.ok true β
def Fi (own:Nat)(ixs Lc:List Nat)(j:Nat):Bool:=decide (j < own) || (match ixs[j - own]? with
 |some i=>Lc.contains i
 |none=>false)
theorem Eb {α γ:Type}{Γ:Fx}{E:XK}{r:R α}{k:α->Int->R γ}{P:γ->Int->Prop}(h:Out Γ E (r.okb k) P):∃a β,r=.ok a β/\Out Γ E (k a β) P:=by
 cases r with
 |ok a β=>exact⟨a,β,rfl,h⟩
 |exc c=>exact h.elim
 |bad=>exact h.elim
section
variable {X:Cx}{Γ:Fx}{E:XK}{tg iter elt:Expr}{ifs:List Expr}{scope:Scope}{NB:List Str}{own:Nat}{ixs Li Lc Lt Le:List Nat}{t:Tg}{fi:VF (List D)}{ft:VF Bool}{fe:VF D}{pos:Pos}
theorem fq {X:Cx}{Γ:Fx}{E:XK}:A8 X [] (qT Γ E lN []):=fun pins s σ H Q I ⟨env,G,B,β,J,o⟩=>rH pins s σ H Q I (o G H J (ao.refl _) (hV.refl _ _))
theorem j9 {X:Cx}{Γ:Fx}{E:XK}{c:Expr}{ta:VF Bool}{L:List Nat}(h:Ae X Γ E c ta L):A8 X [c] (qT Γ E ta L):=xQ h
theorem pz {NB:List Str}{scope:Scope}{C:Addr}{ex:List Addr}{s3:Shared}{H3:Hp}{pn:List (Addr×Obj)}{P:Program}{w:World}:Passes (nF P w) (ij X NB scope C ex s3 H3 pn) E0:=fun pins σ H s e s' I h=>by
 obtain⟨_,_,_,_,_,_,_,_,_,q⟩:=h
 exact q.elim
abbrev gU (Γ:Fx)(t:Tg):TG:=fun v σ H Q=>∃H0 G0 par br bx,gT (Γ.ij H0 G0 par br bx) t v σ H Q
abbrev tU (Γ:Fx)(own:Nat)(ixs Lc:List Nat)(ft:VF Bool)(Lt:List Nat):TT:=fun σ H Q=>∃H0 G0 par br bx,(∀j,Fi own ixs Lc j=true->br j=false)/\qT (Γ.ij H0 G0 par br bx) E0 ft Lt σ H Q
abbrev eU (Γ:Fx)(own:Nat)(ixs Lc:List Nat)(fe:VF D)(Le:List Nat):TE:=fun σ H Q=>∃H0 G0 par br bx,(∀j,Fi own ixs Lc j=true->br j=false)/\pT (Γ.ij H0 G0 par br bx) E0 fe Le .v σ H Q
theorem EM {σ:St}{H:Hp}{Q:VK}(hLc:∀i,i∈Lc->Γ.br i=false)(h:pT Γ E (aN own ixs t fi ft fe) (Li ++ Lc) .w σ H Q):wd own ixs (iT Γ E fi Li .b) (gU Γ t) (tU Γ own ixs Lc ft Lt) (eU Γ own ixs Lc fe Le) σ H Q:=by
 obtain⟨env,G,B,β,I,o⟩:=h
 refine⟨env,G,B,β,I,o.bnd.imp fun ds β1 h J G1 H1 I1 s1 m1 wk Da hD=>?_⟩
 have wk:Walk Γ.K B G1 H1 ds J:=wk
 by_cases hz:ds.length<=sizeLine
 case neg=>rw[if_neg hz] at h;exact h.elim
 rw[if_pos hz] at h
 obtain⟨xs0,β0,e0,h⟩:=Eb h
 have h:∀v G' H',SR Γ B G' H' σ (a7 (Li ++ Lc) env) β0->ao G G'->hV B H H'->VO Γ.K B H G' H' .w (.list xs0) v->Q v H':=h
 obtain⟨G2,I2,s2⟩:=I1.a7 Lc hLc
 rw[<-bP] at I2
 obtain⟨q1,q2,q3,q4⟩:=I2.fresh hD
 have Ib0:=I2.block own ixs hD
 generalize hbr:vX (benv own ixs (a7 (Li ++ Lc) env))=br at Ib0
 have hbo:∀j,Fi own ixs Lc j=true->br j=false:=by
  intro j hj
  rw[<-hbr]
  unfold vX
  split
  ·rename_i d e
   exfalso
   unfold benv at e
   by_cases hjo:j < own
   ·rw[List.getElem?_append_left (by simpa using hjo),List.getElem?_replicate,if_pos hjo] at e;cases e
   ·rw[List.getElem?_append_right (by simpa using hjo),List.length_replicate,List.getElem?_map] at e
    unfold Fi at hj
    rw[decide_eq_false hjo,Bool.false_or] at hj
    cases ek:ixs[j - own]? with
    |none=>rw[ek] at hj;cases hj
    |some k=>
     rw[ek] at hj e
     have hk:k∈Lc:=by simpa using hj
     have e:HF (a7 (Li ++ Lc) env)[k]? =.br d:=Option.some.inj e
     cases q:(a7 (Li ++ Lc) env)[k]? with
     |none=>rw[q] at e;cases e
     |some s=>
      rw[q] at e
      cases s with
      |no=>cases e
      |fz _=>cases e
      |bx=>cases e
      |br d'=>
       obtain⟨b1,_⟩:=I2.slot k _ q
       rw[hLc k hk] at b1;cases b1
      |ow d'=>
       rw[bP] at q
       have key:∀(M:List Nat) (en:En),k∈M->∀d',(a7 M en)[k]?≠some (.ow d'):=by
        intro M
        induction M with
        |nil=>intro en hm;cases hm
        |cons i M ih=>
         intro en hm d' z
         rcases List.mem_cons.mp hm with y |y
         ·subst y
          have z1:(iH en k)[k]? =some (.ow d'):=rT (L:=M) z
          have z2:=xV z1
          unfold iH at z1
          rw[z2] at z1
          dsimp only at z1
          rw[List.getElem?_set_self (List.getElem?_eq_some_iff.mp z2).1] at z1;cases z1
         ·exact ih (iH en i) y d' z
       exact key Lc _ hk d' q
  ·rfl
 have evb:vl (benv own ixs (a7 (Li ++ Lc) env))=dW own ixs (vl env):=by rw[CU,df]
 refine⟨fun i n σ' H'=>n=ds.length - i/\i<=ds.length/\∃envb Gc β' acc accd,SR (Γ.ij (upd H1 Da (.lst [])) G2 (Da :: B.toList) br B) B Gc H' σ' envb β'/\(envb=benv own ixs (a7 (Li ++ Lc) env)\/∃d,fS t d (benv own ixs (a7 (Li ++ Lc) env))=some envb)/\
   H' Da=some (.lst acc)/\bE Γ.K Gc acc accd/\accd.length<=i/\∃xs,fE t ft fe (dW own ixs (vl env)) (ds.drop i) β'=.ok xs β0/\accd ++ xs=xs0,
  ⟨ds.length,by simp,Nat.zero_le _,_,G2,β1,[],[],Ib0,.inl rfl,aq,.nil,Nat.zero_le _,xs0,by rw[List.drop_zero];exact e0,rfl⟩,?_⟩
 rintro i n σ' H' ⟨rfl,hi',envb,Gc,β',acc,accd,Ib,eb,hacc,racc,lacc,xs,ec,exs⟩
 obtain⟨Io,mv,gD⟩:=I2.unblock hD Ib
 obtain⟨w1,w2⟩:=wk Gc H' i (s2.trans Ib.old) Ib.sub mv
 by_cases hlt:i < ds.length
 ·obtain⟨go,yl⟩:=w1 hlt
  refine .inr ⟨go,fun σ' H'=>∃envb Gc β' acc accd,SR (Γ.ij (upd H1 Da (.lst [])) G2 (Da :: B.toList) br B) B Gc H' σ' envb β'/\(envb=benv own ixs (a7 (Li ++ Lc) env)\/∃d,fS t d (benv own ixs (a7 (Li ++ Lc) env))=some envb)/\
   H' Da=some (.lst acc)/\bE Γ.K Gc acc accd/\accd.length<=i + 1/\∃xs,fE t ft fe (dW own ixs (vl env)) (ds.drop (i + 1)) β'=.ok xs β0/\accd ++ xs=xs0,fun σ2 H2 hh=>⟨ds.length - (i + 1),by omega,rfl,hlt,hh⟩,fun x H2 y=>?_⟩
  obtain⟨G3,d,x3,ed,rd⟩:=yl x H2 y
  have I3:=Ib.ext x3
  have ed':ds[i]=d:=by rw[List.getElem?_eq_getElem hlt] at ed;exact Option.some.inj ed
  rw[List.drop_eq_getElem_cons hlt,ed'] at ec
  unfold fE at ec
  cases ebv:kH t d (dW own ixs (vl env)) with
  |none=>rw[ebv] at ec;cases ec
  |some vs1=>
   rw[ebv] at ec
   dsimp only at ec
   obtain⟨env1,eb1,ev1⟩:∃env1,fS t d (benv own ixs (a7 (Li ++ Lc) env))=some env1/\vl env1=vs1:=by
    have:=DD t d (benv own ixs (a7 (Li ++ Lc) env))
    rw[evb,ebv] at this
    cases q:fS t d (benv own ixs (a7 (Li ++ Lc) env)) with
    |none=>rw[q] at this;cases this
    |some env1=>rw[q] at this;exact⟨env1,rfl,Option.some.inj this⟩
   have eb2:fS t d envb=some env1:=by
    rcases eb with rfl | ⟨d0,eb⟩
    ·exact eb1
    ·rw[y1 eb];exact eb1
   have no1:xm env1:=zD (rh _ _ _) eb1
   have a2:H2 Da=some (.lst acc):=x3.hh _ _ hacc
   refine⟨_,_,_,_,_,envb,G3,B,β',d,env1,I3,rd,eb2,fun σ3 I4=>?_⟩
   refine⟨_,_,_,_,_,hbo,env1,G3,B,β',I4,?_⟩
   rw[ev1]
   cases et:ft vs1 β' with
   |exc c=>rw[et] at ec;cases ec
   |bad=>rw[et] at ec;cases ec
   |ok c β2=>
    rw[et] at ec
    intro G4 H4 I5 s4 m4
    rw[vh no1] at I5
    have a4:H4 Da=some (.lst acc):=m4 _ _ a2 q3
    cases c with
    |false=>
     refine vp ⟨env1,G4,β2,acc,accd,I5,.inr ⟨d,eb1⟩,a4,racc.mono (x3.gg.trans s4),by omega,xs,?_,exs⟩
     exact ec
    |true=>
     refine vm ⟨_,_,_,_,_,hbo,env1,G4,B,β2,I5,?_⟩
     rw[ev1]
     have ec:((fe vs1 β2).okb fun x β3=>(fE t ft fe (dW own ixs (vl env)) (ds.drop (i + 1)) β3).okb fun xs β4=>R.ok (x :: xs) β4)=R.ok xs β0:=ec
     cases ee:fe vs1 β2 with
     |exc c=>rw[ee] at ec;cases ec
     |bad=>rw[ee] at ec;cases ec
     |ok dx β3=>
      rw[ee] at ec
      intro v G5 H5 I6 s5 m5 vo
      rw[vh no1] at I6
      have a5:H5 Da=some (.lst acc):=m5 _ _ a4 q3
      have ec:((fE t ft fe (dW own ixs (vl env)) (ds.drop (i + 1)) β3).okb fun xs β4=>R.ok (dx :: xs) β4)=R.ok xs β0:=ec
      cases er:fE t ft fe (dW own ixs (vl env)) (ds.drop (i + 1)) β3 with
      |exc c=>rw[er] at ec;cases ec
      |bad=>rw[er] at ec;cases ec
      |ok ys β4=>
       rw[er] at ec
       cases ec
       refine⟨acc,a5,by rw[racc.len];omega,env1,G5,β3,acc ++ [v],accd ++ [dx],?_,.inr ⟨d,eb1⟩,aq,(racc.mono ((x3.gg.trans s4).trans s5)).snoc vo,by rw[List.length_append];simp;omega,ys,er,by rw[<-exs,List.append_assoc];rfl⟩
       refine I6.updD (List.mem_cons_self ..) (Mx.lst (show upd H1 Da (.lst []) Da=some (.lst []) from aq)) (I2.sub.free hD) q3
 ·have e:i=ds.length:=by omega
  subst e
  rw[List.drop_length] at ec
  cases ec
  rw[List.append_nil] at exs
  subst exs
  refine .inl ⟨w2 (Nat.le_refl _),⟨acc,hacc⟩,h _ Gc H' Io ((s1.trans s2).trans Ib.old) (m1.trans mv) ⟨Da,rfl,du m1 I1.boxThere hD,gD,acc,hacc,racc⟩⟩
theorem bU (hg:∀H0 G0 par br bx C ex s3 H3 pn,SG (ij X NB scope C ex s3 H3 pn) (Γ.ij H0 G0 par br bx) tg t)(C:Addr)(ex:List Addr)(s3:Shared)(H3:Hp)(pn:List (Addr×Obj)):PG (ij X NB scope C ex s3 H3 pn) tg (gU Γ t):=by
 rintro pins s σ H v u Q I r ⟨H0,G0,par,br,bx,q⟩
 exact hg H0 G0 par br bx C ex s3 H3 pn pins s σ H v u Q I r q
theorem cY (Lc:List Nat)(hc:X.calm=true)(S:cG X NB own ixs scope)(hLc:∀i,i∈Lc->Γ.br i=false)(hi:SI X Γ E tg iter fi Li .b)
  (hg:∀H0 G0 par br bx C ex s3 H3 pn,SG (ij X NB scope C ex s3 H3 pn) (Γ.ij H0 G0 par br bx) tg t)
  (ht:∀H0 G0 par br bx C ex s3 H3 pn,(∀j,Fi own ixs Lc j=true->br j=false)->A8 (ij X NB scope C ex s3 H3 pn) ifs (qT (Γ.ij H0 G0 par br bx) E0 ft Lt))
  (he:∀H0 G0 par br bx C ex s3 H3 pn,(∀j,Fi own ixs Lc j=true->br j=false)->SE (ij X NB scope C ex s3 H3 pn) (Γ.ij H0 G0 par br bx) E0 elt fe Le .v)
  (hs:∀x,foldedSetIterable iter X.env x=pure x:=by intro _;rfl) :
  SE X Γ E (.ListComp elt [⟨tg,iter,ifs,0⟩] scope pos) (aN own ixs t fi ft fe) (Li ++ Lc) .w:=by
 refine PE.post' (ue (g:=gU Γ t) (tt:=tU Γ own ixs Lc ft Lt) (te:=eU Γ own ixs Lc fe Le) hc S hi (bU hg) (fun C ex s3 H3 pn=>?_) (fun C ex s3 H3 pn=>?_) hs) fun σ H Q h=>EM hLc h
 ·rintro pins s σ H Q I ⟨H0,G0,par,br,bx,b,q⟩
  exact ht H0 G0 par br bx C ex s3 H3 pn b pins s σ H Q I q
 ·rintro pins s σ H Q I ⟨H0,G0,par,br,bx,b,q⟩
  exact he H0 G0 par br bx C ex s3 H3 pn b pins s σ H Q I q
theorem nP {i:Nat}{y:Str}{py spos:Pos}(Lc:List Nat)(hc:X.calm=true)(S:cG X NB own ixs scope)(hLc:∀i,i∈Lc->Γ.br i=false)(hi:SI X Γ E tg iter fi Li .b)
  (hg:∀H0 G0 par br bx C ex s3 H3 pn,SG (ij X NB scope C ex s3 H3 pn) (Γ.ij H0 G0 par br bx) tg t)
  (ht:∀H0 G0 par br bx C ex s3 H3 pn,(∀j,Fi own ixs Lc j=true->br j=false)->A8 (ij X NB scope C ex s3 H3 pn) ifs (qT (Γ.ij H0 G0 par br bx) E0 ft Lt))
  (he:∀H0 G0 par br bx C ex s3 H3 pn,(∀j,Fi own ixs Lc j=true->br j=false)->SE (ij X NB scope C ex s3 H3 pn) (Γ.ij H0 G0 par br bx) E0 elt fe Le .v)
  (hN:X.N.Nodup) (hy:X.N[i]? =some y:=by rfl) (hl:X.env.scope.names.lookup y=some .local:=by rfl)
  (hsw:swapsWith (.ListComp elt [⟨tg,iter,ifs,0⟩] scope pos) (some (.Name y py)) spos.line X.env=pure true:=by rfl)
  (hs:∀x,foldedSetIterable iter X.env x=pure x:=by intro _;rfl) :
  SS X Γ E (.Assign [.Name y py] (.ListComp elt [⟨tg,iter,ifs,0⟩] scope pos) spos) (bb i (Li ++ Lc) (aN own ixs t fi ft fe)):=by
 refine PS.post (BD (g:=gU Γ t) (tt:=tU Γ own ixs Lc ft Lt) (te:=eU Γ own ixs Lc fe Le) hc S hi (bU hg) (fun C ex s3 H3 pn=>?_) (fun C ex s3 H3 pn=>?_) hN hy hl hsw hs) fun N σ H ⟨env,G,B,β,I,o⟩=>?_
 ·rintro pins s σ H Q I ⟨H0,G0,par,br,bx,b,q⟩
  exact ht H0 G0 par br bx C ex s3 H3 pn b pins s σ H Q I q
 ·rintro pins s σ H Q I ⟨H0,G0,par,br,bx,b,q⟩
  exact he H0 G0 par br bx C ex s3 H3 pn b pins s σ H Q I q
 refine EM hLc ⟨env,G,B,β,I,cf o fun d β' k v G' H' I' s' m' vo=>?_⟩
 obtain⟨G2,I2,s2,r⟩:=I.letW I' vo
 exact k B G2 H' _ (I2.set' i r) (s'.trans s2)
end
end L2

end

section
namespace L2
open PySem PySem.Spec PyProof.Rows
def fin:SO->FR
 | .nx _ _=>.ok .none false
 | .rt d fr _=>.ok d fr
 | .exc c=>.exc c
 |_=>.bad
def zV (n:Nat)(ds:List D):En:=ds.map Sl.fz ++ List.replicate (n - ds.length) .no
def ba (n p:Nat)(m:SF):List D->FR:=fun ds=>if ds.length=p then fin (m (zV n ds) 0) else .bad
abbrev Fx.fn (K:PySem.W.Frag)(H G:Hp)(ca:Str->Addr):Fx:=⟨K,H,G,[],ca,fun _=>false,none⟩
theorem SR.start {K:PySem.W.Frag}{H G:Hp}{ca:Str->Addr}{N:List Str}{vs:List V}{ds:List D}(s:ao G H)(r:bE K G vs ds)(hn:ds.length<=N.length):SR (Fx.fn K H G ca) none G H (start N vs) (zV N.length ds) 0:=by
 have hl:=r.len
 refine⟨s,ao.refl _,fun b _ h=>h,fun b o h _=>h,fun b h=>(by cases h),fun b h=>(by cases h),fun b h=>(by cases h),?_,fun i t e=>?_,fun i j a d e h=>?_⟩
 ·unfold L2.start zV;simp;omega
 ·unfold zV at e
  by_cases hi:i < ds.length
  ·rw[List.getElem?_append_left (by simpa using hi),List.getElem?_map,List.getElem?_eq_getElem hi] at e
   cases e
   obtain⟨x,hx,rx⟩:=r.at (List.getElem?_eq_getElem hi)
   refine⟨x,?_,rx⟩
   unfold L2.start
   rw[List.getElem?_append_left (by simpa[hl] using hi),List.getElem?_map,hx];rfl
  ·rw[List.getElem?_append_right (by simpa using hi),List.getElem?_replicate] at e
   split at e
   ·cases e;trivial
   ·cases e
 ·unfold zV at h
  have hm:=List.mem_of_getElem? h
  rcases List.mem_append.mp hm with z |z
  ·obtain⟨_,_,z⟩:=List.mem_map.mp z;cases z
  ·have:=List.eq_of_mem_replicate z;cases this
section
variable {P:Program}{w:World}{K:PySem.W.Frag}{mg:Str->Option Value}{base:Heap}{ca:Str->Addr}
theorem aZ {x qual:Str}{st:Stmt}{f:Addr}{fd:FuncData}{N ps:List Str}{k:Nat}{m:SF}(F:CP K x qual st f fd)(S:aF N ps (au st))
  (hbody:∀(cdv:Value) (A:Around) (outer:List Env) (s:Shared) (H G:Hp) (E:XK),eT k (A.deeper (envOfC qual (au st) s.heap.objs.size f cdv))->CN (ky (nF P w) P w K mg base N qual (au st) f cdv A outer s H E) (Fx.fn K H G ca) E (cx st) m) :
  fy P w K mg base (nF P w) (k + 1) f fd ps (CO K ca ps.length (ba N.length ps.length m)):=by
 have hpn:ps.length<=N.length:=by have:=congrArg List.length S.pre;rw[List.length_take] at this;omega
 refine F.Ai S (fun vs H Q E h=>?_) (fun cdv A outer s H vs Q E hr h=>?_)
 ·obtain⟨G,ds,sG,hl,r,_⟩:=h
  rw[r.len];exact hl
 ·obtain⟨G,ds,sG,hl,r,h⟩:=h
  refine⟨_,hbody cdv A outer s H G E hr,?_⟩
  have I:=SR.start (ca:=ca) (N:=N) sG r (by omega)
  refine⟨_,G,none,0,I,?_⟩
  unfold ba at h
  rw[if_pos hl] at h
  have fin':∀{B G' H' σ env β},SR (Fx.fn K H G ca) B G' H' σ env β->ao H H':=fun J b o e=>J.keep b o e (fun z=>by cases z)
  cases q:m (zV N.length ds) 0 with
  |nx env β=>rw[q] at h;exact fun B G' H' σ J s'=>h .non G' H' (fin' J) s' J.sub (fun b h1 h2=>J.new b h1 h2) Rp.non
  |bk env β=>rw[q] at h;exact h.elim
  |ct env β=>rw[q] at h;exact h.elim
  |rt d fr β=>
   rw[q] at h
   refine fun B G' H' σ env v J s' rv=>h v G' H' (fin' J) s' J.sub (fun b h1 h2=>J.new b h1 h2) ?_
   cases fr with
   |true=>exact rv
   |false=>exact rv
  |exc c=>rw[q] at h;exact fun H' kp=>h H' fun b o e=>kp b o e (fun z=>by cases z)
  |bad=>rw[q] at h;exact h.elim
theorem Dh {n:Nat}{F F':List D->FR}(h:∀ds,ds.length=n->F' ds≠.bad->F ds=F' ds){vs:List V}{H:Hp}{Q:VK}{E:XK}(q:CO K ca n F' vs H Q E):CO K ca n F vs H Q E:=by
 obtain⟨G,ds,s,hl,r,q⟩:=q
 refine⟨G,ds,s,hl,r,?_⟩
 by_cases hb:F' ds=.bad
 ·rw[hb] at q;exact q.elim
 ·rw[h ds hl hb];exact q
theorem dB.imp {x:Str}{ps:List Str}{k:Nat}{F F':List D->FR}(h:dB P w K mg base ca x ps k F)(i:∀ds,F' ds≠.bad->F ds=F' ds):dB P w K mg base ca x ps k F':=by
 obtain⟨f,fd,a,b,c,d⟩:=h.ex
 exact⟨⟨f,fd,a,b,c,d.imp fun vs H Q E q=>Dh (fun ds _=>i ds) q⟩,fun ds hn=>h.len ds (by rw[i ds hn];exact hn)⟩
theorem aO {n p:Nat}{m:SF}(ds:List D)(h:ba n p m ds≠.bad):ds.length=p:=by
 unfold ba at h
 by_cases hl:ds.length=p
 ·exact hl
 ·rw[if_neg hl] at h;exact absurd rfl h
theorem AH {N:List Str}{qual:Str}{scope:Scope}{f:Addr}{cd:Value}{A:Around}{outer:List Env}{s0:Shared}{H0:Hp}{E:XK}{Γ:Fx}{x:Str}{C:Addr}{np cpos pos:Pos}{e0:Expr}{es:List Expr}{fr:VF (List D)}{L:List Nat}(q:PySem.W.excIn K C [.type "ValueError",.type "Exception",.type "BaseException",.type "object"] "ValueError.__new__"=true)(hca:Γ.ca x=C)
  (hg:Gl (ky (nF P w) P w K mg base N qual scope f cd A outer s0 H0 E) x) (hm:mg x=some (.ref C)) (ha:SA (ky (nF P w) P w K mg base N qual scope f cd A outer s0 H0 E) Γ E (e0 :: es) fr L)
  (he:starEach (e0 :: es) (envOfC qual scope s0.heap.objs.size f cd)=(false,eval e0 (envOfC qual scope s0.heap.objs.size f cd)) :: starEach es (envOfC qual scope s0.heap.objs.size f cd):=by rfl)
  (hpl:(backTo cpos (starEach es (envOfC qual scope s0.heap.objs.size f cd))).any (·.1)=false:=by rfl) (hdb:(x == ("__debug__":Str))=false:=by decide) :
  SS (ky (nF P w) P w K mg base N qual scope f cd A outer s0 H0 E) Γ E (.Raise (some (.Call (.Name x np) (e0 :: es) [] cpos)) none pos) (fun env β=>toS (fr (vl env) β) fun ds _=>if ds.length<=sizeLine then .exc x else .bad):=by
 refine PS.post (B8 PySem.F.excBase_ValueError (by decide +kernel) q hg hm ha he hpl hdb) fun D σ H ⟨env,G,B,β,I,o⟩=>?_
 refine⟨env,G,B,β,I,cf o fun ds β' k vs G' H' I' s' m' r=>?_⟩
 by_cases hz:ds.length<=sizeLine
 ·rw[if_pos hz] at k
  refine⟨by rw[r.len];exact hz,?_⟩
  have:=k H' (I'.kp (ao.refl _))
  rw[hca] at this
  exact this
 ·rw[if_neg hz] at k;exact k.elim
end
section
variable {X:Cx}{Γ:Fx}{E:XK}{e a b c:Expr}{f fa fb:VF D}{L La Lb:List Nat}{md ma mb:Md}{pos apos cpos np:Pos}
def sC:Option Sl->Bool
 |some (.ow (.list _))=>true
 |_=>false
theorem nU {o:Option Sl}(h:sC o=true):∃ds,o=some (.ow (.list ds)):=by
 cases o with
 |none=>cases h
 |some s=>
  cases s with
  |ow d=>cases d with
   |list ds=>exact⟨ds,rfl⟩
   |_=>cases h
  |_=>cases h
def Gm (i:Nat)(env:En)(β:Int)(g:List D->Option (List D)):SO:=match env[i]? with
 |some (.ow (.list ds))=>(match g ds with
  |some es=>.nx (env.set i (.ow (.list es))) β
  |none=>.bad)
 |_=>.bad
def kx (i:Nat)(L:List Nat)(f:VF D):SF:=fun env β=>if sC env[i]? =true then toS (f (vl env) β) fun d β'=>Gm i (a7 L env) β' fun ds=>if ds.length < sizeLine then some (ds ++ [d]) else none else .bad
theorem sx {Γ:Fx}{E:XK}{G:Hp}{N:Ends}{i:Nat}{env:En}{β:Int}{g:List D->Option (List D)}(h:p7 Γ E G N (Gm i env β g)):∃ds es,env[i]? =some (.ow (.list ds))/\g ds=some es/\p7 Γ E G N (.nx (env.set i (.ow (.list es))) β):=by
 unfold Gm at h
 split at h
 ·rename_i ds q
  cases e:g ds with
  |none=>rw[e] at h;exact h.elim
  |some es=>rw[e] at h;exact⟨ds,es,q,e,h⟩
 ·exact h.elim
theorem gr (i:Nat){x:Str}(hb:∀j,Γ.br j=false)(he:SE X Γ E e f L .v)(hN:X.N[i]? =some x:=by rfl)(hv:v7 X.env.scope x:=by first |exact Or.inl rfl |exact Or.inr (Or.inl rfl) |exact Or.inr (Or.inr rfl))(hd:(x == ("__debug__":Str))=false:=by decide)
  (hcd:(x == ("__classdict__":Str))=false:=by decide)
  (hbase:attributeBase (.Name x np) "append" X.env (eval (.Name x np) X.env)=eval (.Name x np) X.env:=by rfl)
  (hfew:((backTo cpos (starEach [e] X.env)).all (fun x=> !x.1) && (backToKw cpos (keywordEach [] X.env)).all (fun x=>x.1.isSome)
   && decide ([e].length + ([]:List Keyword).length + (if ([]:List Keyword).isEmpty then 0 else 1) < 30))=true:=by rfl)
  (hline:(apos.endLine == cpos.line)=true:=by rfl) (hs:starEach [e] X.env=(false,eval e X.env) :: starEach [] X.env:=by rfl)
  (hsw:swapsWith (.Call (.Attribute (.Name x np) "append" apos) [e] [] cpos) none pos.line X.env=pure false:=by rfl) :
  SS X Γ E (.Expr (.Call (.Attribute (.Name x np) "append" apos) [e] [] cpos) pos) (kx i L f):=by
 refine PS.post (tD (Ck PySem.F.plainAttrs_list PySem.F.slot_list_append PySem.F.type_list_append mU (jd hN hv hd hcd) (aK he bg hs) hbase hfew hline hs rfl) hsw) fun N σ H ⟨env,G,B,β,I,o⟩=>?_
 unfold kx at o
 by_cases hO:sC env[i]? =true
 case neg=>rw[if_neg hO] at o;exact o.elim
 rw[if_pos hO] at o
 obtain⟨ds0,q0⟩:=nU hO
 obtain⟨p,h1,_,_,_,xs,h5,_⟩:=I.slot i _ q0
 refine⟨_,h1,.inl ⟨rfl,xs,.inl (.inl h5)⟩,?_⟩
 refine⟨env,G,B,β,I,cf o fun d β' k v G' H' I' s' m' vo=>?_⟩
 obtain⟨ds,es,q,eg,k⟩:=sx k
 by_cases hz:ds.length < sizeLine
 case neg=>rw[if_neg hz] at eg;cases eg
 rw[if_pos hz] at eg
 cases eg
 obtain⟨p',g1,_,_,_,ys,g5,g6⟩:=I'.slot i _ q
 rw[h1] at g1;cases g1
 refine⟨p,ys,v,rfl,rfl,g5,by rw[g6.len];exact hz,?_⟩
 exact k B G' _ σ (I'.write hb q h1 fun H2 e2 s2=>⟨_,e2,g6.snoc vo⟩) s'
theorem Inv.lstR {pins:List (Addr×Obj)}{σ:St}{H:Hp}{s:Shared}{l:Addr}{xs:List V}(I:Inv X pins σ H s)(hH:Rd H l (.lst xs)):xs.length<=sizeLine/\∃(its:List Value) (n:Nat),Vals xs its/\xs.length=its.length/\s.heap.get? l=some {cls:=.type "list",data:=.seq its.toArray n}:=by
 obtain⟨z,its,n,r,e⟩:=hH.ok I.hok
 exact⟨z,its,n,r,r.length,e⟩
def uf (i:Nat)(Le Li:List Nat)(fe fi:VF D):SF:=fun env β=>toS (fe (vl env) β) fun d β1=>if sC (a7 Le env)[i]? =true then toS (fi (vl env) β1) fun k β2=>Gm i (a7 (Le ++ Li) env) β2 fun ds=>match k with
 | .int j=>(vD ds.length j).map fun n=>ds.set n d
 |_=>none else .bad
theorem DF (i:Nat){x:Str}{spos:Pos}(hb:∀j,Γ.br j=false)(he:SE X Γ E e f La .v)(hi:SE X Γ E a fa Lb mb)(hN:X.N[i]? =some x:=by rfl)(hv:v7 X.env.scope x:=by first |exact Or.inl rfl |exact Or.inr (Or.inl rfl) |exact Or.inr (Or.inr rfl))(hd:(x == ("__debug__":Str))=false:=by decide)
  (hcd:(x == ("__classdict__":Str))=false:=by decide)
  (hA:∀v,assign (.Subscript (.Name x np) a spos) X.env v=(do
   let ov <-holding [v] (eval (.Name x np) X.env)
   let iv <-holding [v,ov] (eval a X.env)
   standAt spos
   holding [v,ov,iv] (setItem ov iv v)
   release [v,ov,iv] []):=by intro _;rfl)
  (hs:swapsWithSole [.Subscript (.Name x np) a spos] e pos.line X.env=pure false:=by rfl) (hw:swappedStores [.Subscript (.Name x np) a spos] e X.env=pure none:=by rfl)
  (h1:(assignEach [.Subscript (.Name x np) a spos] X.env).map (·.2)= [assign (.Subscript (.Name x np) a spos) X.env]:=by rfl) :
  SS X Γ E (.Assign [.Subscript (.Name x np) a spos] e pos) (uf i La Lb f fa):=by
 refine PS.post (pk he (tq (jd hN hv hd hcd) hi set_list hA) hs hw h1) fun N σ H ⟨env,G,B,β,I,o⟩=>?_
 refine⟨env,G,B,β,I,cf o fun d β1 o v G1 H1 I1 s1 m1 vo=>?_⟩
 by_cases hO:sC (a7 La env)[i]? =true
 case neg=>rw[if_neg hO] at o;exact o.elim
 rw[if_pos hO] at o
 obtain⟨ds0,q0⟩:=nU hO
 obtain⟨p,h1,_,_,_,xs,h5,_⟩:=I1.slot i _ q0
 refine⟨_,h1,a7 La env,G1,B,β1,I1,?_⟩
 rw[df]
 refine cf o fun k β2 o w G2 H2 I2 s2 m2 vi=>?_
 rw[<-bP] at I2
 obtain⟨ds,es,q,eg,o⟩:=sx o
 cases k with
 |int j=>
  dsimp only at eg
  obtain rfl:=(vi.brw I1.boxThere).int
  obtain⟨p',g1,_,_,_,ys,g5,g6⟩:=I2.slot i _ q
  rw[h1] at g1;cases g1
  cases en:vD ds.length j with
  |none=>rw[en] at eg;cases eg
  |some n=>
   rw[en] at eg
   cases eg
   have vo:Rp Γ.K G1 v d:=vo
   refine⟨p,ys,j,n,rfl,rfl,g5,by rw[g6.len];exact en,?_⟩
   exact o B G2 _ σ (I2.write hb q h1 fun H3 e3 s3=>⟨_,e3,g6.set (vo.mono s2) n⟩) (s1.trans s2)
 |_=>cases eg
end
end L2

end

section
namespace L2
open PySem PySem.Spec PyProof.Rows
section
variable {K:PySem.W.Frag}{X:Cx}
theorem uY {g:Int->Int->V}{gd:D->D->Option D}(h:∀dx dy d,gd dx dy=some d->∃i j,dx=.int i/\dy=.int j/\∀G,Rp K G (g i j) d):mf K (zp g) gd .v:=by
 intro B G H x y dx dy d Q s hB bx by' e k
 obtain⟨i,j,rfl,rfl,r⟩:=h _ _ _ e
 obtain rfl:=bx.int
 obtain rfl:=by'.int
 exact⟨i,j,rfl,rfl,k _ G H (Ext.refl s) (r G)⟩
theorem x8 {C:Int->Int->Prop}{g:Int->Int->V}{gd:D->D->Option D}(h:∀dx dy d,gd dx dy=some d->∃i j,dx=.int i/\dy=.int j/\C i j/\∀G,Rp K G (g i j) d):mf K (rI C g) gd .v:=by
 intro B G H x y dx dy d Q s hB bx by' e k
 obtain⟨i,j,rfl,rfl,c,r⟩:=h _ _ _ e
 obtain rfl:=bx.int
 obtain rfl:=by'.int
 exact⟨i,j,rfl,rfl,c,k _ G H (Ext.refl s) (r G)⟩
def gI (c:Int->Int->Bool)(g:Int->Int->D):D->D->Option D
 | .int i,.int j=>if c i j=true then some (g i j) else none
 |_,_=>none
def wa (g:Int->Int->D):D->D->Option D
 | .int i,.int j=>some (g i j)
 |_,_=>none
theorem xJ {c:Int->Int->Bool}{g:Int->Int->D}{dx dy d:D}(h:gI c g dx dy=some d):∃i j,dx=.int i/\dy=.int j/\c i j=true/\d=g i j:=by
 unfold gI at h
 split at h
 ·split at h
  ·cases h;exact⟨_,_,rfl,rfl,by assumption,rfl⟩
  ·cases h
 ·cases h
theorem kZ {g:Int->Int->D}{dx dy d:D}(h:wa g dx dy=some d):∃i j,dx=.int i/\dy=.int j/\d=g i j:=by
 unfold wa at h
 split at h
 ·cases h;exact⟨_,_,rfl,rfl,rfl⟩
 ·cases h
def Bq:D->D->Option D:=wa fun i j=>.int (i - j)
theorem Jd:mf K (zp fun i j=>.int (i - j)) Bq .v:=uY fun dx dy d h=>by obtain⟨i,j,rfl,rfl,rfl⟩:=kZ h;exact⟨i,j,rfl,rfl,fun _=>.int _⟩
def Ac:D->D->Option D:=gI (fun _ j=>decide (0 < j) && decide (j < 1073741824)) fun i j=>.int (i / j)
theorem De:mf K (rI Dg fun i j=>.int (i / j)) Ac .v:=x8 fun dx dy d h=>by obtain⟨i,j,rfl,rfl,c,rfl⟩:=xJ h;exact⟨i,j,rfl,rfl,by simpa[Dg] using c,fun _=>.int _⟩
def kL:D->D->Option D:=gI (fun _ j=>decide (0 < j)) fun i j=>.int (i % j)
theorem rg:mf K (rI (fun _ j=>0 < j) fun i j=>.int (i % j)) kL .v:=x8 fun dx dy d h=>by obtain⟨i,j,rfl,rfl,c,rfl⟩:=xJ h;exact⟨i,j,rfl,rfl,by simpa using c,fun _=>.int _⟩
def Gp (i j:Int):Bool:=decide (0<=j) && decide (j<=1000000) && decide (i.natAbs < 2 ^ 64)
def Cp:D->D->Option D:=gI Gp fun i j=>.int (i ^ j.toNat)
theorem DZ {i j:Int}(h:Gp i j=true):GA i j:=by
 unfold Gp at h
 simp only[Bool.and_eq_true,decide_eq_true_eq] at h
 exact⟨h.1.1,h.1.2,h.2⟩
theorem HP:mf K (rI GA fun i j=>.int (i ^ j.toNat)) Cp .v:=x8 fun dx dy d h=>by obtain⟨i,j,rfl,rfl,c,rfl⟩:=xJ h;exact⟨i,j,rfl,rfl,DZ c,fun _=>.int _⟩
def rX:D->D->Option D:=wa fun i j=>.bool (decide (i < j))
def BO:D->D->Option D:=wa fun i j=>.bool (decide (i<=j))
def CV:D->D->Option D:=wa fun i j=>.bool (decide (j < i))
theorem wo:mf K (zp fun i j=>.bl (decide (i < j))) rX .v:=uY fun dx dy d h=>by obtain⟨i,j,rfl,rfl,rfl⟩:=kZ h;exact⟨i,j,rfl,rfl,fun _=>.bl _⟩
theorem Hq:mf K (zp fun i j=>.bl (decide (i<=j))) BO .v:=uY fun dx dy d h=>by obtain⟨i,j,rfl,rfl,rfl⟩:=kZ h;exact⟨i,j,rfl,rfl,fun _=>.bl _⟩
theorem Gg:mf K (zp fun i j=>.bl (decide (j < i))) CV .v:=uY fun dx dy d h=>by obtain⟨i,j,rfl,rfl,rfl⟩:=kZ h;exact⟨i,j,rfl,rfl,fun _=>.bl _⟩
mutual
theorem yq:∀d:D,d.canLay0=true->Af d=true
 | .none,_=>rfl
 | .bool _,_=>rfl
 | .int _,_=>rfl
 | .str _,_=>rfl
 | .list ds,h=>by simp only[PyData.canLay0] at h;simp only[Af];exact pw ds h
 | .tuple ds,h=>by simp only[PyData.canLay0] at h;simp only[Af];exact pw ds h
 | .dict _,h=>by simp[PyData.canLay0] at h
theorem pw:∀ds:List D,PyData.canLayAll0 ds=true->qq ds=true
 | [],_=>rfl
 |d :: ds,h=>by
  simp only[PyData.canLayAll0,Bool.and_eq_true] at h
  simp only[qq,Bool.and_eq_true]
  exact⟨yq d h.1,pw ds h.2⟩
end
theorem tG {d:D}(h:SeqAt.shaped d=true):Af d=true:=yq d (SeqAt.canLay_of_shaped h)
theorem yy:∀{ds:List D},(ds.all SeqAt.shaped)=true->qq ds=true
 | [],_=>rfl
 |d :: ds,h=>by
  rw[List.all_cons,Bool.and_eq_true] at h
  simp only[qq,Bool.and_eq_true]
  exact⟨tG h.1,yy h.2⟩
def c5 (neg:Bool)(x y:D):Option D:=if (SeqAt.shaped x && SeqAt.shaped y)=true then some (.bool (if neg then !PyData.eqv x y else PyData.eqv x y)) else none
theorem fV {neg:Bool}:mf K (GR K neg) (c5 neg) .v:=by
 intro B G H x y dx dy d Q s hB bx by' e k
 unfold c5 at e
 split at e
 ·rename_i h
  rw[Bool.and_eq_true] at h
  cases e
  exact⟨dx,dy,(bx.rpH s).rep (tG h.1),(by'.rpH s).rep (tG h.2),h.1,h.2,k _ G H (Ext.refl s) (.bl _)⟩
 ·cases e
def zw (neg:Bool)(x y:D):Option D:=match jD y with
 |some ds=>if (SeqAt.shaped x && ds.all SeqAt.shaped)=true then some (.bool (if neg then !(ds.any fun e=>PyData.eqv e x) else ds.any fun e=>PyData.eqv e x)) else none
 |none=>none
theorem kU.seq {B:Option Addr}{G H:Hp}{v:V}{d:D}{ds:List D}(h:kU K B G H v d)(e:jD d=some ds)(s:ao G H):∃a xs,v=.ref a/\(fR K H a xs\/c7 K H a xs)/\bE K G xs ds:=by
 cases d with
 |list l=>cases e;obtain⟨a,xs,e,q,r⟩:=h.list s;exact⟨a,xs,e,.inl (.inl q),r⟩
 |tuple l=>cases e;obtain⟨a,xs,e,q,r⟩:=h.tuple s;exact⟨a,xs,e,.inr q,r⟩
 |_=>cases e
theorem Et {neg:Bool}:mf K (IB K neg) (zw neg) .v:=by
 intro B G H x y dx dy d Q s hB bx by' e k
 unfold zw at e
 cases q:jD dy with
 |none=>rw[q] at e;cases e
 |some ds=>
  rw[q] at e
  dsimp only at e
  split at e
  ·rename_i h
   rw[Bool.and_eq_true] at h
   cases e
   obtain⟨a,xs,rfl,hq,r⟩:=by'.seq q s
   refine⟨a,xs,dx,ds,rfl,hq,(r.mono s).reps (yy h.2),(bx.rpH s).rep (tG h.1),h.1,fun e he=>List.all_eq_true.mp h.2 e he,k _ G H (Ext.refl s) (.bl _)⟩
  ·cases e
def DJ:D->Bool
 | .none=>true
 |_=>false
theorem bE.ints {G:Hp}:∀ns:List Int,bE K G (ns.map V.int) (ns.map PyData.int)
 | []=>.nil
 |n :: ns=>.cons (.int n) (bE.ints ns)
theorem zR.noNone {G:Hp}{kvs:List (Key×V)}{d:D}{r:List (D×D)}(h:zR K G kvs ((.none,d) :: r)):False:=by
 generalize e:(PyData.none,d) :: r=l at h
 cases h with
 |nil=>cases e
 | @cons k x xs d' ds _ _=>
  injection e with e1 _
  injection e1 with e2 _
  cases k <;> cases e2
theorem Aa.noNone {G:Hp}{kvs:List (List Key×V)}{d:D}{r:List (D×D)}(h:Aa K G kvs ((.none,d) :: r)):False:=by
 generalize e:(PyData.none,d) :: r=l at h
 cases h with
 |nil=>cases e
 | @cons k x xs d' ds _ _=>
  injection e with e1 _
  injection e1 with e2 _
  cases e2
theorem kU.scr {B:Option Addr}{G H:Hp}{v:V}{ds:List D}(h:kU K B G H v (.dict [(.none,.list ds)]))(s:ao G H):∃a xs,v=.ref a/\fR K H a xs/\bE K G xs ds:=by
 rcases h with h | ⟨a,rfl,n,h⟩
 ·cases h with
  | @scr a ns q=>exact⟨a,_,rfl,s.seq q,bE.ints ns⟩
  |dK _ r=>exact r.noNone.elim
  |dT _ r=>exact r.noNone.elim
 ·rcases h with⟨_,_,r⟩ | ⟨_,_,r⟩
  ·exact r.noNone.elim
  ·exact r.noNone.elim
def cv:D->D->Option D
 | .list ds,.int i=>jI ds i
 | .tuple ds,.int i=>jI ds i
 | .str z,.int i=>if z.length<=sizeLine then (jI z.cps.toList i).map fun c=>.str ⟨#[c]⟩ else none
 | .dict [(.none,.list ds)],.int i=>jI ds i
 |_,_=>none
theorem tE {G:Hp}{xs:List V}{ds:List D}{i:Int}{d:D}(r:bE K G xs ds)(h:jI ds i=some d):∃x,jI xs i=some x/\Rp K G x d:=by
 unfold jI at h ⊢
 rw[r.len]
 cases e:vD ds.length i with
 |none=>rw[e] at h;cases h
 |some j=>rw[e] at h;exact r.at h
theorem cC:mf K (K6 K) cv .v:=by
 intro B G H x y dx dy d Q s hB bx by' e k
 cases dx with
 |list ds=>
  cases dy with
  |int i=>
   obtain rfl:=by'.int
   obtain⟨a,xs,rfl,q,r⟩:=bx.list s
   obtain⟨v,ev,rv⟩:=tE r e
   exact .inl ⟨a,xs,i,v,rfl,rfl,.inl q,ev,k _ G H (Ext.refl s) rv⟩
  |_=>cases e
 |tuple ds=>
  cases dy with
  |int i=>
   obtain rfl:=by'.int
   obtain⟨a,xs,rfl,q,r⟩:=bx.tuple s
   obtain⟨v,ev,rv⟩:=tE r e
   exact .inr (.inl ⟨a,xs,i,v,rfl,rfl,q,ev,k _ G H (Ext.refl s) rv⟩)
  |_=>cases e
 |str z=>
  cases dy with
  |int i=>
   obtain rfl:=by'.int
   obtain rfl:=bx.str
   simp only[cv] at e
   split at e
   ·rename_i hz
    cases q:jI z.cps.toList i with
    |none=>rw[q] at e;cases e
    |some c=>rw[q] at e;cases e;exact .inr (.inr ⟨z,i,c,rfl,rfl,hz,q,k _ G H (Ext.refl s) (.str _)⟩)
   ·cases e
  |_=>cases e
 |none=>cases dy <;> cases e
 |bool b=>cases dy <;> cases e
 |int b=>cases dy <;> cases e
 |dict b=>
  obtain⟨ds,i,rfl,rfl,e⟩:∃ds i,b= [(.none,.list ds)]/\dy=.int i/\jI ds i=some d:=by
   unfold cv at e
   split at e
   ·contradiction
   ·contradiction
   ·contradiction
   ·rename_i h;cases h;exact⟨_,_,rfl,rfl,e⟩
   ·cases e
  obtain rfl:=by'.int
  obtain⟨a,xs,rfl,q,r⟩:=bx.scr s
  obtain⟨v,ev,rv⟩:=tE r e
  exact .inl ⟨a,xs,i,v,rfl,rfl,q,ev,k _ G H (Ext.refl s) rv⟩
def cz:D->Option D
 | .list ds=>some (.int ds.length)
 | .tuple ds=>some (.int ds.length)
 | .str z=>if z.length<=sizeLine then some (.int z.length) else none
 | .dict [(.none,.list ds)]=>some (.int ds.length)
 |_=>none
def JV (K:PySem.W.Frag):List V->Hp->VK->Prop:=fun xs H Q=>∃x n,xs= [x]/\IP K x H n/\Q (.int n) H
theorem gV:Ad K (fun x=>JV K [x]) cz .v:=by
 intro B G H x dx d Q s hB bx e k
 unfold cz at e
 split at e
 ·cases e;obtain⟨a,xs,rfl,q,r⟩:=bx.list s;exact⟨_,_,rfl,.inl ⟨xs,.inl q,r.len.symm⟩,k _ G H (Ext.refl s) (.int _)⟩
 ·cases e;obtain⟨a,xs,rfl,q,r⟩:=bx.tuple s;exact⟨_,_,rfl,.inr ⟨xs,q,r.len.symm⟩,k _ G H (Ext.refl s) (.int _)⟩
 ·obtain rfl:=bx.str
  split at e
  ·rename_i hz;cases e;exact⟨_,_,rfl,⟨hz,rfl⟩,k _ G H (Ext.refl s) (.int _)⟩
  ·cases e
 ·cases e;obtain⟨a,xs,rfl,q,r⟩:=bx.scr s;exact⟨_,_,rfl,.inl ⟨xs,q,r.len.symm⟩,k _ G H (Ext.refl s) (.int _)⟩
 ·cases e
def mK:D->Option D
 | .list ds=>some (.tuple ds)
 | .tuple ds=>some (.tuple ds)
 |_=>none
theorem nO:Ad K (fun x H Q=>∃p ys,[x]= [.ref p]/\((fR K H p ys/\∀l,H l=none->Q (.ref l) (upd H l (.tup ys)))\/(c7 K H p ys/\Q (.ref p) H))) mK .v:=by
 intro B G H x dx d Q s hB bx e k
 cases dx with
 |list ds=>
  cases e
  obtain⟨a,xs,rfl,q,r⟩:=bx.list s
  refine⟨a,xs,rfl,.inl ⟨.inl q,fun l hl=>?_⟩⟩
  have x:=Ext.new s (o:=.tup xs) hl
  exact k _ _ _ x (.tup (.inl (.inl aq)) (r.mono x.gg))
 |tuple ds=>
  cases e
  rcases bx with bx | ⟨_,_,_,z⟩
  ·cases bx with
   | @tup a xs _ hq r=>exact⟨a,xs,rfl,.inr ⟨hq.grow s.grow,k _ G H (Ext.refl s) (.tup hq r)⟩⟩
  ·exact z.elim
 |_=>cases e
def Ax:D->Option D
 | .list ds=>some (.list ds)
 | .tuple ds=>some (.list ds)
 |_=>none
theorem Ao:Ad K (fun x H Q=>∃p ys,[x]= [.ref p]/\(fR K H p ys\/c7 K H p ys)/\∀l,H l=none->Q (.ref l) (upd H l (.lst ys))) Ax .w:=by
 intro B G H x dx d Q s hB bx e k
 obtain⟨ds,e1,rfl⟩:∃ds,jD dx=some ds/\d=.list ds:=by
  cases dx <;> cases e <;> exact⟨_,rfl,rfl⟩
 obtain⟨a,xs,rfl,hq,r⟩:=bx.seq e1 s
 refine⟨a,xs,rfl,hq,fun l hl=>?_⟩
 exact k _ _ _ (Ext.own s (o:=.lst xs) hl) ⟨l,rfl,hl,s.free hl,xs,aq,r⟩
def jZ:List D->Option (List Bool)
 | []=>some []
 | .bool b :: ds=>(jZ ds).map (b :: ·)
 |_=>none
theorem qN {G:Hp}:∀{ds:List D} {bs:List Bool} {xs:List V},jZ ds=some bs->bE K G xs ds->xs=bs.map V.bl
 | [],bs,xs,e,r=>by cases e;cases r;rfl
 | .bool b :: ds,bs,xs,e,r=>by
  cases r with
  |cons r1 r2=>
   cases r1
   simp only[jZ] at e
   cases q:jZ ds with
   |none=>rw[q] at e;cases e
   |some cs=>rw[q] at e;cases e;rw[qN q r2];rfl
 | .none :: _,_,_,e,_=>by cases e
 | .int _ :: _,_,_,e,_=>by cases e
 | .str _ :: _,_,_,e,_=>by cases e
 | .list _ :: _,_,_,e,_=>by cases e
 | .tuple _ :: _,_,_,e,_=>by cases e
 | .dict _ :: _,_,_,e,_=>by cases e
def b9 (f:List Bool->Bool):D->Option D
 | .list ds=>(jZ ds).map fun bs=>.bool (f bs)
 |_=>none
theorem jo {f:List Bool->Bool}:Ad K (fun x=>xj K f [x]) (b9 f) .v:=by
 intro B G H x dx d Q s hB bx e k
 cases dx with
 |list ds=>
  simp only[b9] at e
  cases q:jZ ds with
  |none=>rw[q] at e;cases e
  |some bs=>
   rw[q] at e
   cases e
   obtain⟨a,xs,rfl,hq,r⟩:=bx.list s
   obtain rfl:=qN q r
   exact⟨a,bs,rfl,.inl hq,k _ G H (Ext.refl s) (.bl _)⟩
 |_=>cases e
def E6:R2:=fun x y H Q=>∃l b xs zs,x=.ref l/\y=.ref b/\Rd H l (.lst xs)/\Rd H b (.lst zs)/\xs.length + zs.length<=sizeLine/\∀p,H p=none->Q (.ref p) (upd H p (.lst (xs ++ zs)))
theorem jg:k9 X (binaryOp .Add) E6:=by
 intro pins s σ H x y v u Q I rx ry h
 obtain⟨l,b,xs,zs,rfl,rfl,hH,hB,hz,q⟩:=h
 cases rx
 cases ry
 obtain⟨z,its,n,r,hl,e⟩:=I.lstR hH
 obtain⟨z2,its2,n2,r2,hl2,e2⟩:=I.lstR hB
 refine PySem.P.add_list e e2 ?_ (by rw[List.size_toArray,List.size_toArray];omega)
 have ea:its.toArray ++ its2.toArray=(its ++ its2).toArray:=by simp
 rw[ea]
 exact⟨.ref _,_,I.lnew (t':=s.toks) (r.append r2) (by rw[List.length_append];omega),rfl,q _ I.fresh⟩
def iO:D->D->Option D
 | .list a,.list b=>if a.length + b.length<=sizeLine then some (.list (a ++ b)) else none
 |_,_=>none
theorem n0:mf K E6 iO .w:=by
 intro B G H x y dx dy d Q s hB bx by' e k
 cases dx <;> cases dy <;> first | (cases e;done) |skip
 rename_i a b
 simp only[iO] at e
 split at e
 ·rename_i hz
  cases e
  obtain⟨p,xs,rfl,q1,r1⟩:=bx.list s
  obtain⟨p2,ys,rfl,q2,r2⟩:=by'.list s
  refine⟨p,p2,xs,ys,rfl,rfl,q1,q2,by rw[r1.len,r2.len];exact hz,fun l hl=>?_⟩
  exact k _ _ _ (Ext.own s (o:=.lst (xs ++ ys)) hl) ⟨l,rfl,hl,s.free hl,_,aq,r1.append r2⟩
 ·cases e
def cD:D->D->Option D:=wa fun i j=>.int (i + j)
theorem iW:mf K (zp fun i j=>.int (i + j)) cD .v:=uY fun dx dy d h=>by obtain⟨i,j,rfl,rfl,rfl⟩:=kZ h;exact⟨i,j,rfl,rfl,fun _=>.int _⟩
def dJ:D->D->Option D:=gI (fun i j=>(decide (-(2 ^ 64) < i) && decide (i < 2 ^ 64)) || (decide (-(2 ^ 64) < j) && decide (j < 2 ^ 64))) fun i j=>.int (i * j)
theorem kM:mf K (rI Co fun i j=>.int (i * j)) dJ .v:=x8 fun dx dy d h=>by obtain⟨i,j,rfl,rfl,c,rfl⟩:=xJ h;exact⟨i,j,rfl,rfl,by simpa[Co] using c,fun _=>.int _⟩
def BJ:D->D->Option D
 | .list a,.int k=>if -(2 ^ 63)<=k/\k < 2 ^ 63/\a.length * k.toNat<=sizeLine then some (.list (List.replicate k.toNat a).flatten) else none
 |_,_=>none
theorem Fq {a b:Expr}{fa fb:VF D}{La Lb:List Nat}{mb:Md}{Γ:Fx}{E:XK}{pos:Pos}(ha:SE X Γ E a fa La .w)(hb:SE X Γ E b fb Lb mb):SE X Γ E (.BinOp a .Mult b pos) (f2 fa fb BJ) (La ++ Lb) .w:=by
 refine PE.post' (qA CJ ha hb) fun σ H Q ⟨env,G,B,β,I,o⟩=>?_
 refine⟨env,G,B,β,I,o.bnd.imp fun d1 β1 h x G1 H1 I1 s1 m1 vx=>⟨a7 La env,G1,B,β1,I1,?_⟩⟩
 rw[df]
 refine h.bnd.imp fun d2 β2 h y G2 H2 I2 s2 m2 vy=>?_
 obtain⟨d,e,k⟩:=h.of
 rw[<-bP] at I2
 obtain⟨p,rfl,p1,p2,p3⟩:=vx
 have by':=vy.brw I1.boxThere
 cases d1 <;> cases d2 <;> first | (cases e;done) |skip
 rename_i l j
 obtain rfl:=by'.int
 simp only[BJ] at e
 split at e
 ·rename_i hz
  cases e
  obtain⟨xs,q,r⟩:=p3
  obtain⟨q1,q2,q3,q4⟩:=I.fresh p1
  have r2:=r.mono s2
  refine⟨p,j,xs,rfl,rfl,m2 _ _ q q3,hz.1,hz.2.1,by rw[r.len];exact hz.2.2,fun l hl=>?_⟩
  have x:=Ext.own I2.sub (o:=.lst (List.replicate j.toNat xs).flatten) hl
  exact k _ _ _ (I2.ext x) ((s1.trans s2).trans x.gg) ((m1.trans m2).trans (x.hh.mov B)) ⟨l,rfl,du (m1.trans m2) I2.boxThere hl,I2.sub.free hl,_,aq,r2.rep⟩
 ·cases e
def HU:D->Option D
 | .int i=>some (.int (-i))
 |_=>none
theorem Fh:Ad K (rU fun i=>.int (-i)) HU .v:=by
 intro B G H x dx d Q s hB bx e k
 cases dx with
 |int i=>cases e;obtain rfl:=bx.int;exact⟨i,rfl,k _ G H (Ext.refl s) (.int _)⟩
 |_=>cases e
def Jc:D->String
 | .none=>"NoneType"
 | .bool _=>"bool"
 | .int _=>"int"
 | .str _=>"str"
 | .list _=>"list"
 | .tuple _=>"tuple"
 | .dict _=>"dict"
def CI (d:D)(T:String):Bool:=Jc d == T || (T == "int" && Jc d == "bool")
def b5:D->Bool
 | .dict ((.none,_) :: _)=>true
 |_=>false
def fB (T:String)(d:D):Option D:=if b5 d=true then none else some (.bool (CI d T))
def KQ (K:PySem.W.Frag)(H:Hp)(x:V)(t:String):Prop:=Dk K H x t\/(t="dict"/\∃a kvs,x=.ref a/\H a=some (.dT kvs))
def IF (K:PySem.W.Frag):List V->Hp->VK->Prop:=fun xs H Q=>∃x T t b,xs= [x,.ty T]/\KQ K H x t/\PySem.W.kitOne K (.type t) (.type T)=some b/\Q (.bl b) H
theorem BW:b8 X (.builtin "isinstance") (IF X.K):=by
 intro pins s σ H xs us Q I r h
 obtain⟨x,T,t,b,rfl,ty,e,q⟩:=h
 rcases ty with ty | ⟨rfl,a,kvs,rfl,hk⟩
 ·exact Cw pins s σ H _ us Q I r ⟨x,T,t,b,rfl,ty,e,q⟩
 ·obtain⟨u,c,rfl,rx,rc⟩:=vals2 r
  cases rc
  cases rx
  obtain⟨_,_,_,_,o,_,_,e2,ex,_⟩:=I.hok a _ hk
  exact PySem.W.kia_one PySem.W.kitx_dict I.kIn ⟨o,e2,ex.1⟩ e (fun z=>nomatch z) fun tk=>⟨.bl b,H,I.tok tk,rfl,q⟩
theorem kU.ty {B:Option Addr}{G H:Hp}{v:V}{d:D}(h:kU K B G H v d)(s:ao G H)(n:b5 d=false):KQ K H v (Jc d):=by
 cases d with
 |none=>obtain rfl:=h.none;exact .inl .non
 |bool b=>obtain rfl:=h.bool;exact .inl (.bl b)
 |int b=>obtain rfl:=h.int;exact .inl (.int b)
 |str b=>obtain rfl:=h.str;exact .inl (.str b)
 |list b=>obtain⟨a,xs,rfl,q,_⟩:=h.list s;exact .inl (.lst (.inl q))
 |tuple b=>obtain⟨a,xs,rfl,q,_⟩:=h.tuple s;exact .inl (.tup q)
 |dict b=>
  rcases h with h | ⟨a,rfl,_,h⟩
  ·cases h with
   |scr _=>cases n
   |dK q _=>exact .inl (.dic (s _ _ q))
   |dT q _=>exact .inr ⟨rfl,_,_,rfl,s _ _ q⟩
  ·rcases h with⟨_,q,_⟩ | ⟨_,q,_⟩
   ·exact .inl (.dic q)
   ·exact .inr ⟨rfl,_,_,rfl,q⟩
theorem Jn {d:D}{T:String}(hT:T∈ ["int","bool","str","list","tuple","dict"]):PySem.W.kitOne K (.type (Jc d)) (.type T)=some (CI d T):=by
 simp only[List.mem_cons,List.not_mem_nil,or_false] at hT
 cases d with
 |dict l=>rcases hT with rfl |rfl |rfl |rfl |rfl |rfl <;> rfl
 |none=>rcases hT with rfl |rfl |rfl |rfl |rfl |rfl <;> rfl
 |bool _=>rcases hT with rfl |rfl |rfl |rfl |rfl |rfl <;> rfl
 |int _=>rcases hT with rfl |rfl |rfl |rfl |rfl |rfl <;> rfl
 |str _=>rcases hT with rfl |rfl |rfl |rfl |rfl |rfl <;> rfl
 |list _=>rcases hT with rfl |rfl |rfl |rfl |rfl |rfl <;> rfl
 |tuple _=>rcases hT with rfl |rfl |rfl |rfl |rfl |rfl <;> rfl
theorem fM {a:Expr}{fa:VF D}{La:List Nat}{ma:Md}{Γ:Fx}{E:XK}{pos p p2:Pos}(T:String){y:Str}(hT:T∈ ["int","bool","str","list","tuple","dict"])(hK:X.K=Γ.K)(hg:Gl X "isinstance")(hm:X.mg "isinstance"=none)(hgT:Gl X y)(hmT:X.mg y=none)(hvT:bootBuiltins y=some (.type T))(ha:SE X Γ E a fa La ma)
  (hnT:y≠"__name__":=by decide) (hdT:(y == ("__debug__":Str))=false:=by decide)
  (he:starEach [a,.Name y p2] X.env=(false,eval a X.env) :: starEach [.Name y p2] X.env:=by rfl) (he2:starEach [.Name y p2] X.env=(false,eval (.Name y p2) X.env) :: starEach [] X.env:=by rfl) (hpl:(backTo pos (starEach [.Name y p2] X.env)).any (·.1)=false:=by rfl) :
  SE X Γ E (.Call (.Name "isinstance" p) [a,.Name y p2] [] pos) (f1 fa (fB T)) La .v:=by
 refine PE.post' (iR BW hg hm (by decide +kernel) (aK ha (aK (DL hgT hmT hvT (show RelV (.ty T) _ from rfl) hnT hdT) bg he2) he) (by decide) (by decide) he hpl) fun σ H Q ⟨env,G,B,β,I,o⟩=>?_
 refine fU (r:=fun x H1 Q=>IF X.K [x,.ty T] H1 Q) ?_ I o
 intro B G H x dx d Q s hB bx e k
 unfold fB at e
 split at e
 ·cases e
 ·rename_i hn
  cases e
  rw[hK]
  exact⟨x,T,Jc dx,CI dx T,rfl,bx.ty s (by simpa using hn),Jn hT,k _ G H (Ext.refl s) (.bl _)⟩
def i0 (fa fb fc:VF D)(g g':D->D->Option D):VF D:=fun vs β=>(fa vs β).bnd fun x β1=>(fb vs β1).bnd fun y β2=>match g x y with
 |some (.bool true)=>(fc vs β2).bnd fun z β3=>R.of (g' y z) β3
 |some (.bool false)=>.ok (.bool false) β2
 |_=>.bad
theorem ud {a b c:Expr}{fa fb fc:VF D}{ma mb mc:Md}{Γ:Fx}{E:XK}{pos:Pos}{op op':CmpOp}{r r':R2}{g g':D->D->Option D}(ho:k9 X (compareOp op) r)(ho':k9 X (compareOp op') r')(pr:mf Γ.K r g .v)(pr':mf Γ.K r' g' .v)(ha:SE X Γ E a fa [] ma)(hb:SE X Γ E b fb [] mb)(hc:SE X Γ E c fc [] mc)
  (hm:lastMarks [op,op'] [b,c]=false:=by with_unfolding_all rfl):SE X Γ E (.Compare a [op,op'] [b,c] pos) (i0 fa fb fc g g') [] .v:=by
 refine PE.post' (Ar ho ho' ha hb hc hm) fun σ H Q ⟨env,G,B,β,I,o⟩=>?_
 refine two (W:=fun x y H2=>r x y H2 fun z H3=>∃k,z=.bl k/\(if k=true then pT Γ E fc [] mc σ H3 fun w' H4=>r' y w' H4 Q else Q (.bl false) H3)) I (o.bnd.imp fun d1 β1 h=>h.bnd.imp fun d2 β2 h x y G2 H2 I2 s2 m2 bx by'=>?_)
 obtain⟨cb,ec,h⟩:∃cb,g d1 d2=some (.bool cb)/\Out Γ E (if cb=true then (fc (vl env) β2).bnd fun z β3=>R.of (g' d2 z) β3 else .ok (.bool false) β2) fun d β'=>∀v G' H',SR Γ B G' H' σ (a7 [] env) β'->ao G G'->hV B H H'->VO Γ.K B H G' H' .v d v->Q v H':=by
  split at h
  ·rename_i q;exact⟨true,q,by rw[if_pos rfl];exact h⟩
  ·rename_i q;exact⟨false,q,by rw[if_neg Bool.false_ne_true];exact h⟩
  ·exact h.elim
 refine pr B G2 H2 x y d1 d2 _ _ I2.sub I2.boxThere bx by' ec fun v G' H' x' vo=>?_
 cases vo
 refine⟨cb,rfl,?_⟩
 have I3:=I2.ext x'
 cases cb with
 |false=>rw[if_neg Bool.false_ne_true] at h;exact vp (h _ G' H' I3 (s2.trans x'.gg) (m2.trans (x'.mov B)) (.bl false))
 |true=>
  rw[if_pos rfl] at h
  refine vm ⟨env,G',B,β2,I3,h.bnd.imp fun d3 β3 h z G4 H4 I4 s4 m4 vz=>?_⟩
  obtain⟨d,e,k⟩:=h.of
  refine pr' B G4 H4 y z d2 d3 d Q I4.sub I4.boxThere (by'.mono (x'.gg.trans s4) ((x'.mov B).trans m4)) (vz.brw I3.boxThere) e fun v G5 H5 x5 vo=>?_
  exact k v G5 H5 (I4.ext x5) (((s2.trans x'.gg).trans s4).trans x5.gg) (((m2.trans (x'.mov B)).trans m4).trans (x5.mov B)) vo
end
end L2

end

section
namespace L2
open PySem PySem.Spec PyProof.Rows
theorem eT.u1 {k:Nat}{A:Around}(r:eT k A):A.units + 100 < cLine:=by have:=r.un;omega
def KW (N:List Str)(sc:Scope)(NB:List Str)(own:Nat)(ixs:List Nat)(scope:Scope):Bool:=
 decide (scope.kind=.function) && (scope.names.all fun y=>decide (y.2≠.cell)) && (scope.names.all fun y=>decide (scope.names.lookup y.1=some y.2)) &&
 (scope.names.all fun y=>decide (y.2=.free->(sc.names.lookup y.1=some .cell\/sc.names.lookup y.1=some .free))) && decide NB.Nodup && decide (NB.length=own + ixs.length) &&
 ((List.range ixs.length).all fun k=>decide (NB[own + k]? =N[ixs.getD k 0]?) && (match NB[own + k]? with |some x=>decide ((x,NameKind.free)∈scope.names) |none=>true))
theorem cR {X:Cx}{NB:List Str}{own:Nat}{ixs:List Nat}{scope:Scope}(h:KW X.N X.env.scope NB own ixs scope=true):cG X NB own ixs scope:=by
 unfold KW at h
 simp only[Bool.and_eq_true,List.all_eq_true,decide_eq_true_eq,List.mem_range] at h
 obtain⟨⟨⟨⟨⟨⟨h1,h2⟩,h3⟩,h4⟩,h5⟩,h6⟩,h7⟩:=h
 refine⟨h1,h2,h3,h4,h5,h6,fun k hk=>⟨(h7 k hk).1,fun x hx=>?_⟩⟩
 have:=(h7 k hk).2
 rw[hx] at this
 simpa using this
section
variable {X:Cx}{Γ:Fx}{E:XK}{e a b c:Expr}{f fa fb fc:VF D}{L La Lb:List Nat}{md ma mb mc:Md}{pos:Pos}{K:PySem.W.Frag}
def tN (fa:VF D)(neg:Bool):VF Bool:=fun vs β=>(fa vs β).bnd fun x β1=>.ok (if neg then !DJ x else DJ x) β1
def oT (Γ:Fx)(E:XK)(f:VF (Option Int))(L:List Nat):TO:=fun σ H Q=>∃env G B β,SR Γ B G H σ env β/\
 Out Γ E (f (vl env) β) fun d β'=>∀G' H',SR Γ B G' H' σ (a7 L env) β'->ao G G'->hV B H H'->Q d H'
def HA (X:Cx)(Γ:Fx)(E:XK)(e:Option Expr)(f:VF (Option Int))(L:List Nat):Prop:=PO X e (oT Γ E f L)
theorem lT:HA X Γ E none (fun _ β=>.ok none β) []:=fun pins s σ H Q I ⟨env,G,B,β,J,o⟩=>Ey pins s σ H Q I (o G H J (ao.refl _) (hV.refl _ _))
def vE (fa:VF D):VF (Option Int):=fun vs β=>(fa vs β).bnd fun x β1=>match x with
 | .int i=>.ok (some i) β1
 |_=>.bad
theorem lu (ha:SE X Γ E a fa La ma):HA X Γ E (some a) (vE fa) La:=fun pins s σ H Q I ⟨env,G,B,β,J,o⟩=>by
 refine sP ha pins s σ H Q I ⟨env,G,B,β,J,o.bnd.imp fun d1 β1 h x G1 H1 I1 s1 m1 vx=>?_⟩
 cases d1 with
 |int i=>exact⟨i,(vx.brw J.boxThere).int,h G1 H1 I1 s1 m1⟩
 |_=>exact h.elim
def cutD (xs:List D)(lo hi:Option Int):List D:=(xs.drop (HT.cS xs.length 0 lo)).take (HT.cS xs.length xs.length hi - HT.cS xs.length 0 lo)
theorem yL {G:Hp}{xs:List V}{ds:List D}(r:bE K G xs ds)(lo hi:Option Int):bE K G (oA xs lo hi) (cutD ds lo hi):=by
 unfold oA cutD
 rw[r.len]
 exact (r.drop _).take _
def G9 (fa:VF D)(fl fh:VF (Option Int)):VF D:=fun vs β=>(fa vs β).bnd fun x β1=>(fl vs β1).bnd fun l β2=>(fh vs β2).bnd fun h β3=>match x with
 | .list ds=>.ok (.list (cutD ds l h)) β3
 |_=>.bad
theorem uT {lo hi:Option Expr}{fl fh:VF (Option Int)}{Ll Lh:List Nat}{p2:Pos}(hK:X.K=Γ.K)(ha:SE X Γ E a fa La ma)(hl:HA X Γ E lo fl Ll)(hh:HA X Γ E hi fh Lh):SE X Γ E (.Subscript a (.Slice lo hi none p2) pos) (G9 fa fl fh) (La ++ Ll ++ Lh) .w:=by
 refine PE.post' (vv Ed ha hl hh) fun σ H Q ⟨env,G,B,β,I,o⟩=>?_
 refine⟨env,G,B,β,I,o.bnd.imp fun d1 β1 h x G1 H1 I1 s1 m1 vx=>⟨a7 La env,G1,B,β1,I1,?_⟩⟩
 rw[df]
 refine h.bnd.imp fun l β2 h G2 H2 I2 s2 m2=>⟨a7 Ll (a7 La env),G2,B,β2,I2,?_⟩
 rw[df,df]
 refine h.bnd.imp fun u β3 h G3 H3 I3 s3 m3=>?_
 rw[<-bP,<-bP,<-List.append_assoc] at I3
 have bx:=((vx.brw I.boxThere).mono s2 m2).mono s3 m3
 cases d1 with
 |list ds=>
  obtain⟨p,xs,rfl,hq,r⟩:=bx.list I3.sub
  rw[hK]
  refine⟨p,xs,rfl,.inl hq,fun q hn=>?_⟩
  have x:=Ext.own I3.sub (o:=.lst (oA xs l u)) hn
  exact h _ _ _ (I3.ext x) ((s1.trans s2).trans s3) (((m1.trans m2).trans m3).trans (x.mov B)) ⟨q,rfl,du ((m1.trans m2).trans m3) I3.boxThere hn,I3.sub.free hn,_,aq,yL r l u⟩
 |_=>exact h.elim
theorem Hk:mf K (fun x y H Q=>∃i j,[x,y]= [.int i,.int j]/\Q (.int (if j > i then j else i)) H) (wa fun i j=>.int (if j > i then j else i)) .v:=by
 intro B G H x y dx dy d Q s hB bx by' e k
 obtain⟨i,j,rfl,rfl,rfl⟩:=kZ e
 obtain rfl:=bx.int
 obtain rfl:=by'.int
 exact⟨i,j,rfl,k _ G H (Ext.refl s) (.int _)⟩
theorem Fv:mf K (fun x y H Q=>∃i j,[x,y]= [.int i,.int j]/\Q (.int (if j < i then j else i)) H) (wa fun i j=>.int (if j < i then j else i)) .v:=by
 intro B G H x y dx dy d Q s hB bx by' e k
 obtain⟨i,j,rfl,rfl,rfl⟩:=kZ e
 obtain rfl:=bx.int
 obtain rfl:=by'.int
 exact⟨i,j,rfl,k _ G H (Ext.refl s) (.int _)⟩
end
end L2

end

section
namespace L2
open PySem PySem.Spec PyProof.Rows
structure jw (K:PySem.W.Frag)(mg:Str->Option Value)(x:Str)(st:Stmt)(ps:List Str)(f:Addr)(fd:FuncData):Prop where
 mg:mg x=some (.ref f)
 F:CP K x x st f fd
 b:Binds K fd ps []
structure Exc (K:PySem.W.Frag)(mg:Str->Option Value)(ca:Str->Addr)(x:Str):Prop where
 mg:mg x=some (.ref (ca x))
 ex:PySem.W.excIn K (ca x) [.type "ValueError",.type "Exception",.type "BaseException",.type "object"] "ValueError.__new__"=true
theorem Exc.ca {K:PySem.W.Frag}{mg:Str->Option Value}{ca:Str->Addr}{x:Str}(h:Exc K mg ca x):ca x=ca x:=rfl
structure jF (mg:Str->Option Value):Prop where
 len:mg "len"=none
 range:mg "range"=none
 enumerate:mg "enumerate"=none
 zip:mg "zip"=none
 min:mg "min"=none
 max:mg "max"=none
 sum:mg "sum"=none
 abs:mg "abs"=none
 sorted:mg "sorted"=none
 reversed:mg "reversed"=none
 int:mg "int"=none
 str:mg "str"=none
 bool:mg "bool"=none
 list:mg "list"=none
 tuple:mg "tuple"=none
 dict:mg "dict"=none
 set:mg "set"=none
 isinstance:mg "isinstance"=none
 repr:mg "repr"=none
 any:mg "any"=none
 all:mg "all"=none
 divmod:mg "divmod"=none
end L2

end

section
namespace L2
open PySem PySem.Spec PyProof.Rows
inductive FB where
 |ok (d:D) (fresh:Bool) (β:Int)
 |bad
def Jl (K:PySem.W.Frag)(n:Nat)(F:List D->Int->FB):Sp:=fun vs H Q _=>∃b rest G ds β,vs=.ref b :: rest/\H b=some (.lst [.int β])/\G b=none/\ao G H/\ds.length=n/\bE K G rest ds/\match F ds β with
 | .ok d fr β'=>∀v G' H',hV (some b) H H'->H' b=some (.lst [.int β'])->ao G G'->ao G' H'->(∀c,Mx H c->G c=none->G' c=none)->FV K H G' H' fr d v->Q v H'
 | .bad=>False
structure jG (P:Program)(w:World)(K:PySem.W.Frag)(mg:Str->Option Value)(base:Heap)(x:Str)(ps:List Str)(k:Nat)(F:List D->Int->FB):Prop where
 ex:∃f fd,mg x=some (.ref f)/\PySem.W.keepIn K (.ref f)=true/\Binds K fd ps []/\fy P w K mg base (nF P w) k f fd ps (Jl K (ps.length - 1) F)
 len:∀ds β,F ds β≠.bad->ds.length=ps.length - 1
def xu (vs:List Nv)(i:Nat):Bool:=match vs[i]? with
 |some .bx=>true
 |_=>false
def jA (i:Nat)(F:List D->Int->FB)(fr:VF (List D)):VF D:=fun vs β=>if xu vs i=true then (fr vs β).bnd fun ds β1=>match F ds β1 with
 | .ok d _ β2=>.ok d β2
 | .bad=>.bad else .bad
def JY (i:Nat)(F:List D->Int->FB)(fr:VF (List D)):VF D:=fun vs β=>if xu vs i=true then (fr vs β).bnd fun ds β1=>match F ds β1 with
 | .ok d true β2=>.ok d β2
 |_=>.bad else .bad
section
variable {X:Cx}{Γ:Fx}{E:XK}{e a b c:Expr}{f fa fb fc:VF D}{L La Lb:List Nat}{md ma mb mc:Md}{pos:Pos}{K:PySem.W.Frag}{es:List Expr}{fr:VF (List D)}
theorem Dl {env:En}{i:Nat}(h:xu (vl env) i=true):env[i]? =some .bx:=by
 unfold xu at h
 split at h
 ·exact HL (by assumption)
 ·cases h
theorem Ei {env:En}{i j:Nat}{d:D}(h:(iH env i)[j]? =some (.br d)):env[j]? =some (.br d):=by
 unfold iH at h
 split at h
 ·rename_i d' e
  by_cases z:i=j
  ·subst z
   rw[List.getElem?_set_self (List.getElem?_eq_some_iff.mp e).1] at h;cases h
  ·rw[List.getElem?_set_ne z] at h;exact h
 ·exact h
theorem Gk {L:List Nat}{env:En}{j:Nat}{d:D}(h:(a7 L env)[j]? =some (.br d)):env[j]? =some (.br d):=by
 unfold a7 at h
 induction L generalizing env with
 |nil=>exact h
 |cons i L ih=>exact Ei (ih h)
theorem SR.calledB {p:Addr}{β β':Int}{G1 H1 G2 H2:Hp}{σ:St}{env:En}(I1:SR Γ (some p) G1 H1 σ env β)(h:hV (some p) H1 H2)(hp:H2 p=some (.lst [.int β']))(g:ao G1 G2)(s:ao G2 H2)(n:∀b,Mx H1 b->G1 b=none->G2 b=none):SR Γ (some p) G2 H2 σ env β':=by
 obtain⟨b1,b2,b3⟩:=I1.box p rfl
 refine⟨s,I1.old.trans g,fun b n1 n2=>n b (I1.thereM n1) (I1.new b n1 n2),fun b o e np=>h b o (I1.keep b o e np) fun z=>?_,fun b hb=>?_,I1.fix,fun b e=>?_,I1.len,fun i t e=>?_,I1.sep⟩
 ·cases z
  rcases b3 with b3 |b3
  ·exact np b3
  ·rw[e] at b3;cases b3
 ·by_cases z:p=b
  ·subst z;exact Mx.lst hp
  ·exact (I1.pin b hb).same fun o q=>h b o q fun y=>z (Option.some.inj y)
 ·cases e
  exact⟨hp,n p (Mx.lst b1) b2,b3⟩
 ·have q:=I1.slot i t e
  cases t with
  |no=>trivial
  |fz d=>obtain⟨v,h1,h2⟩:=q;exact⟨v,h1,h2.mono g⟩
  |ow d=>
   obtain⟨c,h1,h2,h3,h4,h5⟩:=q
   exact⟨c,h1,h2,n c h5.mx h3,h4,h5.mono g fun o q=>h c o q h4⟩
  |bx=>exact q
  |br d=>obtain⟨b1,c,h1,h4,hpp,h5⟩:=q;exact⟨b1,c,h1,h4,hpp,h5.mono g fun o q=>h c o q h4⟩
theorem Dm {F:List D->Int->FB}{ps:List Str}{Q:VK}{B:Option Addr}{G H:Hp}{σ:St}{env:En}{β:Int}{i:Nat}{p:Addr}(I:SR Γ B G H σ env β)(hK:X.K=Γ.K)(hp:B=some p){wv:Bool}
  (h:Out Γ E (fr (vl env) β) fun ds β1=>Out Γ E (match F ds β1 with
   | .ok d true β2=>.ok d β2
   | .ok d false β2=>if wv=true then .bad else .ok d β2
   | .bad=>.bad) fun d β'=>∀v G' H',SR Γ B G' H' σ (a7 L env) β'->ao G G'->hV B H H'->VO Γ.K B H G' H' (if wv=true then .w else .v) d v->Q v H') (hl:∀ds β,F ds β≠.bad->ds.length=ps.length - 1) :
  aT Γ E fr L σ H fun vs H1=>Jl X.K (ps.length - 1) F (.ref p :: vs) H1 Q E:=by
 subst hp
 refine⟨env,G,_,β,I,h.imp fun ds β1 k vs G1 H1 I1 s1 m1 r=>?_⟩
 obtain⟨b1,b2,b3⟩:=I1.box p rfl
 refine⟨p,vs,G1,ds,β1,rfl,b1,b2,I1.sub,hl ds β1 fun z=>by rw[z] at k;exact k,by rw[hK];exact r,?_⟩
 cases q:F ds β1 with
 |bad=>rw[q] at k;exact k
 |ok d fr' β2=>
  rw[q] at k
  intro v G' H' hh hb hg hs hn fv
  have I2:=I1.calledB hh hb hg hs hn
  cases fr' with
  |true=>
   obtain⟨c,rfl,p1,p2,p3⟩:∃a,v=.ref a/\H1 a=none/\G' a=none/\Own X.K G' H' a d:=fv
   rw[hK] at p3
   have hp:=du m1 I1.boxThere p1
   cases wv with
   |true=>exact k _ G' H' I2 (s1.trans hg) (m1.trans hh) ⟨c,rfl,hp,p2,p3⟩
   |false=>
    obtain⟨q1,q2,q3,q4⟩:=I1.fresh p1
    obtain⟨G3,I3,s3,r3⟩:=I2.letIn q1 p2 q3 q4 p3
    exact k _ G3 H' I3 ((s1.trans hg).trans s3) (m1.trans hh) r3
  |false=>
   cases wv with
   |true=>exact k.elim
   |false=>
    have fv:Rp X.K G' v d:=fv
    rw[hK] at fv
    exact k _ G' H' I2 (s1.trans hg) (m1.trans hh) fv
theorem GS {F:List D->Int->FB}{ps:List Str}{Q:VK}{i:Nat}{σ:St}{H:Hp}(hK:X.K=Γ.K){wv:Bool}(hl:∀ds β,F ds β≠.bad->ds.length=ps.length - 1)(h:pT Γ E (if wv=true then JY i F fr else jA i F fr) L (if wv=true then .w else .v) σ H Q) :
  DB i σ H fun x H1=>aT Γ E fr L σ H1 fun vs H2=>Jl X.K (ps.length - 1) F (x :: vs) H2 Q E:=by
 obtain⟨env,G,B,β,I,o⟩:=h
 have hi:xu (vl env) i=true:=by
  by_cases hi:xu (vl env) i=true
  ·exact hi
  ·exfalso
   cases wv with
   |true=>simp only[if_true] at o;unfold JY at o;rw[if_neg hi] at o;exact o
   |false=>simp only[Bool.false_eq_true,if_false] at o;unfold jA at o;rw[if_neg hi] at o;exact o
 obtain⟨p,e1,e2⟩:=I.slot i _ (Dl hi)
 refine⟨.ref p,e1,Dm (i:=i) (ps:=ps) I hK e2 (wv:=wv) ?_ hl⟩
 cases wv with
 |true=>
  simp only[if_true] at o ⊢
  unfold JY at o
  rw[if_pos hi] at o
  refine o.bnd.imp fun ds β1 h=>?_
  cases q:F ds β1 with
  |bad=>rw[q] at h;exact h
  |ok d b β2=>rw[q] at h;cases b <;> exact h
 |false=>
  simp only[Bool.false_eq_true,if_false] at o ⊢
  unfold jA at o
  rw[if_pos hi] at o
  refine o.bnd.imp fun ds β1 h=>?_
  cases q:F ds β1 with
  |bad=>rw[q] at h;exact h
  |ok d b β2=>rw[q] at h;cases b <;> exact h
theorem gL {x y:Str}{ps:List Str}{k:Nat}{F:List D->Int->FB}{p np:Pos}(i:Nat)(hf:jG X.prog X.w X.K X.mg X.base x ps k F)(hr:eT k X.A)(hx:Passes (nF X.prog X.w) X E)(hK:X.K=Γ.K)(hg:Gl X x)(ha:SA X Γ E es fr L)(hN:X.N[i]? =some y:=by rfl)(hv:v7 X.env.scope y:=by first |exact Or.inl rfl |exact Or.inr (Or.inl rfl) |exact Or.inr (Or.inr rfl))(hd:(y == ("__debug__":Str))=false:=by decide)
  (hcd:(y == ("__classdict__":Str))=false:=by decide) (hdb:(x == ("__debug__":Str))=false:=by decide)
  (he:starEach (.Name y np :: es) X.env=(false,eval (.Name y np) X.env) :: starEach es X.env:=by rfl) (hpl:(backTo pos (starEach es X.env)).any (·.1)=false:=by rfl):SE X Γ E (.Call (.Name x p) (.Name y np :: es) [] pos) (jA i F fr) L .v:=by
 obtain⟨f,fd,hm,hk,hb,hF⟩:=hf.ex
 refine PE.post' (nX (dvs:=[]) hF hr hg hm hk hb .nil hx (aK (jd hN hv hd hcd) ha he) hdb he hpl) fun σ H Q h=>?_
 have:=GS (Q:=Q) (wv:=false) (ps:=ps) hK hf.len (by simpa using h)
 show DB i σ H fun x H1=>aT Γ E fr L σ H1 fun vs H2=>Jl X.K (ps.length - 1) F ((x :: vs) ++ []) H2 Q E
 simpa using this
def AX:D->Option Int
 | .list [.int z]=>some z
 |_=>none
theorem CQ {d:D}{z:Int}(h:AX d=some z):d=.list [.int z]:=by
 unfold AX at h
 split at h
 ·cases h;rfl
 ·cases h
def Ls (f0:VF D)(F:List D->Int->FB)(n:Int):VF D:=fun vs β=>(f0 vs β).bnd fun d0 β1=>match AX d0 with
 |some z=>(match F [.int n] z with
  | .ok d _ _=>.ok d β1
  | .bad=>.bad)
 |none=>.bad
def qr (env:En):En:=env.map fun s=>match s with
 | .bx=>.no
 |s=>s
theorem Cv {env:En}{i:Nat}{s:Sl}(h:(qr env)[i]? =some s)(n:s≠.no):env[i]? =some s/\s≠.bx:=by
 unfold qr at h
 rw[List.getElem?_map] at h
 cases e:env[i]? with
 |none=>rw[e] at h;cases h
 |some t=>
  rw[e] at h
  have h:=Option.some.inj h
  cases t with
  |bx=>exact absurd h.symm n
  |no=>exact absurd h.symm n
  |fz d=>subst h;exact⟨rfl,fun z=>by cases z⟩
  |ow d=>subst h;exact⟨rfl,fun z=>by cases z⟩
  |br d=>subst h;exact⟨rfl,fun z=>by cases z⟩
def xE (i:Nat)(L:List Nat)(f:VF D):SF:=fun env β=>toS (f (vl env) β) fun d _=>match AX d with
 |some z=>.nx ((qr (a7 L env)).set i .bx) z
 |none=>.bad
theorem DA {i:Nat}{x:Str}{pos':Pos}(hbx:Γ.bx=none)(he:SE X Γ E e f L .w)(hN:X.N.Nodup)(hi:X.N[i]? =some x:=by rfl)(hx:Loc X.env.scope x:=by first |exact Or.inl rfl |exact Or.inr rfl)(hs:swapsWith e (some (.Name x pos')) pos.line X.env=pure false:=by rfl)(hf:X.fn x=true\/X.env.scope.names.lookup x=some .local:=by first |exact .inl rfl |exact .inr rfl |assumption) :
  SS X Γ E (.Assign [.Name x pos'] e pos) (xE i L f):=by
 refine PS.post (o6 hN hi hx he hs hf) fun N σ H ⟨env,G,B,β,I,o⟩=>?_
 refine⟨env,G,B,β,I,cf o fun d β' k v G' H' I' s' m' vo=>?_⟩
 cases q:AX d with
 |none=>rw[q] at k;exact k.elim
 |some z=>
  rw[q] at k
  obtain rfl:=CQ q
  obtain⟨p,rfl,h1,h2,xs,h3,r⟩:=vo
  have hx2:H' p=some (.lst [.int z]):=by
   cases r with
   |cons r1 r2=>
    cases r1
    cases r2
    exact h3
  obtain⟨q1,q2,q3,q4⟩:=I.fresh h1
  refine k (some p) G' H' _ ⟨I'.sub,I'.old,I'.new,I'.keep,I'.pin,fun b e=>(by rw[hbx] at e;cases e),fun b e=>?_,?_,fun j t e=>?_,fun j j' c d1 d2 e1 e2 e3 e4=>?_⟩ s'
  ·cases e;exact⟨hx2,h2,.inr q1⟩
  ·rw[List.length_set,List.length_set];unfold qr;rw[List.length_map];exact I'.len
  ·by_cases hj:j=i
   ·subst hj
    by_cases hl:j < (qr (a7 L env)).length
    ·rw[List.getElem?_set_self hl] at e
     cases e
     refine⟨p,?_,rfl⟩
     rw[List.getElem?_set_self]
     rw[I'.len];unfold qr at hl;simpa using hl
    ·rw[List.getElem?_eq_none (by rw[List.length_set];omega)] at e;cases e
   ·rw[List.getElem?_set_ne (Ne.symm hj)] at e ⊢
    by_cases hn:t=.no
    ·subst hn;trivial
    ·obtain⟨e1,nb⟩:=Cv e hn
     have w:=I'.slot j t e1
     cases t with
     |no=>trivial
     |fz d=>exact w
     |bx=>exact absurd rfl nb
     |ow d=>
      obtain⟨a',g1,g2,g3,g4,g5⟩:=w
      exact⟨a',g1,g2,g3,fun y=>q4 j d (rT e1) (by cases y;exact g1),g5⟩
     |br d=>
      obtain⟨b1,a',g1,g4,hpp,g5⟩:=w
      have e0:env[j]? =some (.br d):=Gk e1
      obtain⟨_,a2,f1,_,_,f5⟩:=I.slot j _ e0
      rw[g1] at f1;cases f1
      obtain⟨o,ho⟩:=f5.obj
      exact⟨b1,a',g1,fun y=>(by cases y;rw[h1] at ho;cases ho),hpp,g5⟩
  ·have back:∀{j:Nat} {d1:D},((qr (a7 L env)).set i Sl.bx)[j]? =some (.ow d1)->j≠i/\(a7 L env)[j]? =some (.ow d1):=fun {j d1} e=>by
    by_cases hj:j=i
    ·subst hj
     by_cases hl:j < (qr (a7 L env)).length
     ·rw[List.getElem?_set_self hl] at e;cases e
     ·rw[List.getElem?_eq_none (by rw[List.length_set];omega)] at e;cases e
    ·rw[List.getElem?_set_ne (Ne.symm hj)] at e
     exact⟨hj,(Cv e (fun y=>by cases y)).1⟩
   obtain⟨n1,w1⟩:=back e1
   obtain⟨n2,w2⟩:=back e2
   rw[List.getElem?_set_ne (Ne.symm n1)] at e3
   rw[List.getElem?_set_ne (Ne.symm n2)] at e4
   exact I'.sep j j' c d1 d2 w1 w2 e3 e4
end
section
variable {P:Program}{w:World}{K:PySem.W.Frag}{mg:Str->Option Value}{base:Heap}{ca:Str->Addr}
def vV:SO->FB
 | .nx _ β=>.ok .none false β
 | .rt d fr β=>.ok d fr β
 |_=>.bad
def wN (n:Nat)(ds:List D):En:=.bx :: ds.map Sl.fz ++ List.replicate (n - 1 - ds.length) .no
def me (n p:Nat)(m:SF):List D->Int->FB:=fun ds β=>if ds.length=p then vV (m (wN n ds) β) else .bad
abbrev Fx.fb (K:PySem.W.Frag)(H G:Hp)(ca:Str->Addr)(b:Addr):Fx:=⟨K,H,G,[b],ca,fun _=>false,some b⟩
theorem SR.startB {H G:Hp}{N:List Str}{b:Addr}{vs:List V}{ds:List D}{β:Int}(s:ao G H)(hb:H b=some (.lst [.int β]))(gb:G b=none)(r:bE K G vs ds)(hn:ds.length + 1<=N.length):SR (Fx.fb K H G ca b) (some b) G H (L2.start N (.ref b :: vs)) (wN N.length ds) β:=by
 have hl:=r.len
 refine⟨s,ao.refl _,fun c _ h=>h,fun c o h _=>h,fun c h=>?_,fun c h=>h,fun c h=>?_,?_,fun i t e=>?_,fun i j a d e h=>?_⟩
 ·have:c=b:=by simpa using h
  subst this;exact Mx.lst hb
 ·cases h;exact⟨hb,gb,.inl (by simp)⟩
 ·unfold L2.start wN;simp;omega
 ·cases i with
  |zero=>
   unfold wN at e
   cases e
   exact⟨b,rfl,rfl⟩
  |succ i=>
   unfold wN at e
   have e:(ds.map Sl.fz ++ List.replicate (N.length - 1 - ds.length) Sl.no)[i]? =some t:=by simpa using e
   by_cases hi:i < ds.length
   ·rw[List.getElem?_append_left (by simpa using hi),List.getElem?_map,List.getElem?_eq_getElem hi] at e
    cases e
    obtain⟨x,hx,rx⟩:=r.at (List.getElem?_eq_getElem hi)
    refine⟨x,?_,rx⟩
    unfold L2.start
    have hi':i < vs.length:=by rw[hl];exact hi
    rw[List.getElem?_append_left (by simp;exact hi'),List.getElem?_map,List.getElem?_cons_succ,hx];rfl
   ·rw[List.getElem?_append_right (by simpa using hi),List.getElem?_replicate] at e
    split at e
    ·cases e;trivial
    ·cases e
 ·unfold wN at h
  have hm:=List.mem_of_getElem? h
  rcases List.mem_cons.mp hm with z |hm
  ·cases z
  rcases List.mem_append.mp hm with z |z
  ·obtain⟨_,_,z⟩:=List.mem_map.mp z;cases z
  ·have:=List.eq_of_mem_replicate z;cases this
theorem jM {x qual:Str}{st:Stmt}{f:Addr}{fd:FuncData}{N:List Str}{ps:List Str}{k:Nat}{m:SF}(F:CP K x qual st f fd)(S:aF N ps (au st))(hp:1<=ps.length)
  (hbody:∀(cdv:Value) (A:Around) (outer:List Env) (s:Shared) (H G:Hp) (b:Addr) (E:XK),eT k (A.deeper (envOfC qual (au st) s.heap.objs.size f cdv))->CN (ky (nF P w) P w K mg base N qual (au st) f cdv A outer s H E) (Fx.fb K H G ca b) E (cx st) m) :
  fy P w K mg base (nF P w) (k + 1) f fd ps (Jl K (ps.length - 1) (me N.length (ps.length - 1) m)):=by
 have hpn:ps.length<=N.length:=by have:=congrArg List.length S.pre;rw[List.length_take] at this;omega
 refine F.Ai S (fun vs H Q E h=>?_) (fun cdv A outer s H vs Q E hr h=>?_)
 ·obtain⟨b,rest,G,ds,β,rfl,hb,gb,sG,hl,r,_⟩:=h
  rw[List.length_cons,r.len];omega
 ·obtain⟨b,rest,G,ds,β,rfl,hb,gb,sG,hl,r,h⟩:=h
  refine⟨_,hbody cdv A outer s H G b E hr,?_⟩
  have I:=SR.startB (ca:=ca) (N:=N) sG hb gb r (by omega)
  refine⟨_,G,some b,β,I,?_⟩
  unfold me at h
  rw[if_pos hl] at h
  have fin':∀{B G' H' σ env β},SR (Fx.fb K H G ca b) B G' H' σ env β->hV (some b) H H'/\H' b=some (.lst [.int β]):=fun J=>by
   have e:=J.fix b rfl
   refine⟨fun c o ec n=>J.keep c o ec fun z=>n ?_,(J.box b e).1⟩
   have:c=b:=by simpa using z
   rw[this]
  cases q:m (wN N.length ds) β with
  |nx env β'=>rw[q] at h;exact fun B G' H' σ J s'=>h .non G' H' (fin' J).1 (fin' J).2 s' J.sub (fun c h1 h2=>J.new c h1 h2) Rp.non
  |bk env β'=>rw[q] at h;exact h.elim
  |ct env β'=>rw[q] at h;exact h.elim
  |rt d fr β'=>
   rw[q] at h
   refine fun B G' H' σ env v J s' rv=>h v G' H' (fin' J).1 (fin' J).2 s' J.sub (fun c h1 h2=>J.new c h1 h2) ?_
   cases fr with
   |true=>exact rv
   |false=>exact rv
  |exc c=>rw[q] at h;exact h.elim
  |bad=>rw[q] at h;exact h.elim
theorem jX {n p:Nat}{m:SF}(ds:List D)(β:Int)(h:me n p m ds β≠.bad):ds.length=p:=by
 unfold me at h
 by_cases hl:ds.length=p
 ·exact hl
 ·rw[if_neg hl] at h;exact absurd rfl h
end
end L2

end

section
namespace L2
open PySem PySem.Spec PyProof.Rows
def aJ (p:Pr):D:=.tuple [.int p.1,.int p.2]
def oh:D->Option Pr
 | .tuple [.int a,.int b]=>some (a,b)
 |_=>none
theorem vt {d:D}{p:Pr}(h:oh d=some p):d=aJ p:=by
 unfold oh at h
 split at h
 ·cases h;rfl
 ·cases h
theorem zJ (p:Pr):oh (aJ p)=some p:=rfl
def fP:List D->Option (List Pr)
 | []=>some []
 |d :: ds=>match oh d,fP ds with
  |some p,some ps=>some (p :: ps)
  |_,_=>none
theorem kq:∀{ds:List D} {ps:List Pr},fP ds=some ps->ds=ps.map aJ
 | [],ps,h=>by cases h;rfl
 |d :: ds,ps,h=>by
  unfold fP at h
  split at h
  ·rename_i p qs h1 h2;cases h;rw[vt h1,kq h2];rfl
  ·cases h
theorem gF:∀ps:List Pr,fP (ps.map aJ)=some ps
 | []=>rfl
 |p :: ps=>by
  show (match oh (aJ p),fP (ps.map aJ) with
   |some p,some ps=>some (p :: ps)
   |_,_=>none)=_
  rw[zJ,gF ps]
section
variable {K:PySem.W.Frag}{X:Cx}{G H:Hp}
theorem bE.pairs:∀{ps:List Pr} {xs:List V},bE K G xs (ps.map aJ)->aL K G xs ps
 | [],_,.nil=>.nil
 |p :: ps,_,.cons r t=>by
  cases r with
  |tup hq r=>
   cases r with
   |cons r1 r=>
    cases r with
    |cons r2 r=>cases r;cases r1;cases r2;exact .cons ⟨_,rfl,hq⟩ (bE.pairs t)
theorem aL.rps:∀{ps:List Pr} {xs:List V},aL K G xs ps->bE K G xs (ps.map aJ)
 | [],_,.nil=>.nil
 |p :: ps,_,.cons r t=>by
  obtain⟨a,rfl,q⟩:=r
  exact .cons (.tup q (.cons (.int _) (.cons (.int _) .nil))) (aL.rps t)
def Hz (p:Pr):Bool:=decide (0<=p.1) && decide (p.1 < 8) && decide (0<=p.2) && decide (p.2 < 8)
theorem FD {p:Pr}(h:Hz p=true):Sm p:=by
 unfold Hz at h
 simp only[Bool.and_eq_true,decide_eq_true_eq] at h
 exact⟨⟨h.1.1.1,h.1.1.2⟩,h.1.2,h.2⟩
noncomputable def cn (d:D):Option D:=match jD d with
 |some ds=>(match fP ds with
  |some ps=>if ps.all Hz=true/\(OM.bV 8 (OM.Mem ps)).length < 64 then some (.list ((OM.bV 8 (OM.Mem ps)).map aJ)) else none
  |none=>none)
 |none=>none
variable {Γ:Fx}{E:XK}{e a b c:Expr}{f fa fb fc:VF D}{L La Lb:List Nat}{md ma mb mc:Md}{pos:Pos}
theorem oG {p1 p2 pos2:Pos}(hc:X.calm=true)(hu:X.A.units + 64 < cLine)(hK:X.K=Γ.K)(hg:Gl X "sorted")(hm:X.mg "sorted"=none)(hg2:Gl X "set")(hm2:X.mg "set"=none)(ha:SE X Γ E a fa La ma)
  (he:starEach [a] X.env=(false,eval a X.env) :: starEach [] X.env:=by rfl)
  (he2:starEach [.Call (.Name "set" p2) [a] [] pos2] X.env=(false,eval (.Call (.Name "set" p2) [a] [] pos2) X.env) :: starEach [] X.env:=by rfl) :
  SE X Γ E (.Call (.Name "sorted" p1) [.Call (.Name "set" p2) [a] [] pos2] [] pos) (f1 fa cn) La .w:=by
 refine PE.post' (iR (sF hc) hg hm (by decide +kernel) (aK (dr (Cr hc hu) hg2 hm2 (by decide +kernel) (aK ha bg he) (by decide) (by decide) he) bg he2) (by decide) (by decide) he2) fun σ H Q ⟨env,G,B,β,I,o⟩=>?_
 refine fU (r:=fun x H1 Q=>Iy X.prog X.w X.K [x] H1 fun y H2=>uU X.prog X.w X.K [y] H2 Q) ?_ I o
 intro B G H x dx d Q s hB bx e k
 rw[hK]
 unfold cn at e
 cases q:jD dx with
 |none=>rw[q] at e;cases e
 |some ds=>
  rw[q] at e
  dsimp only at e
  cases q2:fP ds with
  |none=>rw[q2] at e;cases e
  |some ps=>
   rw[q2] at e
   dsimp only at e
   split at e
   ·rename_i hh
    obtain⟨h1,h2⟩:=hh
    cases e
    obtain⟨p,xs,rfl,hq,r⟩:=bx.seq q s
    rw[kq q2] at r
    have pv:=(r.mono s).pairs
    have sm:∀p,p∈ps->Sm p:=fun p hp=>FD (List.all_eq_true.mp h1 p hp)
    refine⟨p,xs,ps,rfl,hq,pv,sm,fun S qs hS hpv nd hm=>?_⟩
    have qsl:qs.length < 64:=by
     have:(pq qs).length<=(OM.bV 8 (OM.Mem ps)).length:=OM.mi nd fun x hx=>by
      have hx':=(hm x).mp hx
      have hs:=sm x hx'
      exact OM.a8.mpr ⟨⟨⟨hs.1.1,hs.1.2⟩,hs.2.1,hs.2.2⟩,hx'⟩
     simp only[List.length_map] at this
     omega
    have xS:=Ext.own s (o:=yR X.prog X.w S qs) hS
    refine⟨S,qs,rfl,aq,hpv.grow (gM.new hS),fun p hp=>sm p ((hm p).mp hp),nd,qsl,fun l ws rs hl hpw hr hmem=>?_⟩
    have ers:rs=OM.bV 8 (OM.Mem ps):=OM.gX hr (OM.cT _ _) fun x=>by
     rw[hmem x,hm x,OM.a8]
     constructor
     ·intro hx;have hs:=sm x hx;exact⟨⟨⟨hs.1.1,hs.1.2⟩,hs.2.1,hs.2.2⟩,hx⟩
     ·intro hx;exact hx.2
    subst ers
    have hlH:H l=none:=by
     by_cases z:l=S
     ·subst z;exact hS
     ·rw[ay z] at hl;exact hl
    have lS:l≠S:=fun z=>by subst z;rw[aq] at hl;cases hl
    have hh:ao H (upd (upd H S (yR X.prog X.w S qs)) l (.lst ws)):=(ao.new hS).trans (ao.new hl)
    have xx:=Ext.tups s hh
    refine k _ _ _ xx ⟨l,rfl,hlH,?_,ws,aq,?_⟩
    ·unfold lL
     rw[s.free hlH,aq]
     exact if_neg fun y=>y
    ·refine aL.rps (Paired.mapP hpw fun v p ⟨a,ea,qa⟩=>⟨a,ea,pP (s.trans hh) ?_⟩)
     exact qa.grow (gM.new hl)
   ·cases e
end
end L2

end

section
namespace L2
open PySem PySem.Spec PyProof.Rows
section
variable {K:PySem.W.Frag}{X:Cx}{G H:Hp}{Γ:Fx}{E:XK}{e a b c:Expr}{f fa fb fc:VF D}{L La Lb:List Nat}{md ma mb mc:Md}{pos apos cpos np:Pos}
def fD:D->Option D
 | .int n=>if 0<=n/\n<=1000 then some (.list (b7 0 n.toNat)) else none
 |_=>none
theorem qX (n:Nat):bE K G ((List.range n).map fun (i:Nat)=>V.int (i:Int)) (b7 0 n):=by
 have key:∀l:List Nat,bE K G (l.map fun (i:Nat)=>V.int (i:Int)) (l.map fun (k:Nat)=>PyData.int (0 + k)):=by
  intro l
  induction l with
  |nil=>exact .nil
  |cons x l ih=>exact .cons (by show Rp K G (.int (x:Int)) (.int (0 + (x:Int)));rw[Int.zero_add];exact .int _) ih
 exact key _
theorem oE {p1 p2 pos2:Pos}(hc:X.calm=true)(hg:Gl X "list")(hm:X.mg "list"=none)(hg2:Gl X "range")(hm2:X.mg "range"=none)(ha:SE X Γ E a fa La ma)
  (he:starEach [a] X.env=(false,eval a X.env) :: starEach [] X.env:=by rfl)
  (he2:starEach [.Call (.Name "range" p2) [a] [] pos2] X.env=(false,eval (.Call (.Name "range" p2) [a] [] pos2) X.env) :: starEach [] X.env:=by rfl) :
  SE X Γ E (.Call (.Name "list" p1) [.Call (.Name "range" p2) [a] [] pos2] [] pos) (f1 fa fD) La .w:=by
 refine PE.post' (dr (qj hc) hg hm (by decide +kernel) (aK (dr uX hg2 hm2 (by decide +kernel) (aK ha bg he) (by decide) (by decide) he) bg he2) (by decide) (by decide) he2) fun σ H Q ⟨env,G,B,β,I,o⟩=>?_
 refine fU (r:=fun x H1 Q=>∃n:Int,[x]= [.int n]/\∀p,H1 p=none->(fun (y:V) (H2:Hp)=>∃(p:Addr) (n:Int),[y]= [V.ref p]/\H2 p=some (.cA 0 n)/\0<=n/\n<=1000/\∀l,H2 l=none->Q (.ref l) (upd H2 l (.lst ((List.range n.toNat).map fun (i:Nat)=>V.int (i:Int))))) (V.ref p) (upd H1 p (.cA 0 n))) ?_ I o
 intro B G H x dx d Q s hB bx e k
 cases dx with
 |int n=>
  obtain rfl:=bx.int
  simp only[fD] at e
  split at e
  ·rename_i hh
   cases e
   refine⟨n,rfl,fun p hp=>⟨p,n,rfl,aq,hh.1,hh.2,fun l hl=>?_⟩⟩
   have hlp:l≠p:=fun z=>by subst z;rw[aq] at hl;cases hl
   have hlH:H l=none:=by rw[ay hlp] at hl;exact hl
   have x1:=Ext.own s (o:=.cA 0 n) hp
   have x2:=Ext.own x1.gh (o:=.lst ((List.range n.toNat).map fun (i:Nat)=>V.int (i:Int))) hl
   exact k _ _ _ (x1.trans x2) ⟨l,rfl,hlH,s.free hlH,_,aq,qX _⟩
  ·cases e
 |_=>cases e
def Dz:D->Option D
 | .int i=>some (.int (if i < 0 then -i else i))
 |_=>none
theorem HW:Ad K (fun x H Q=>∃i,[x]= [.int i]/\Q (.int (if i < 0 then -i else i)) H) Dz .v:=by
 intro B G H x dx d Q s hB bx e k
 cases dx with
 |int i=>cases e;obtain rfl:=bx.int;exact⟨i,rfl,k _ G H (Ext.refl s) (.int _)⟩
 |_=>cases e
noncomputable def Ke (d:D):Option D:=match d with
 | .list ds=>(match fP ds with
  |some ps=>if ps.all Hz=true/\ps.Nodup/\ps.length < 64 then some (.list ((OM.bV 8 (OM.Mem ps)).map aJ)) else none
  |none=>none)
 |_=>none
def yT (ds:List D)(k:D):Option (D×List D):=match k with
 | .int i=>if -(2 ^ 63)<=i/\i < 2 ^ 63 then (match seqIndex? i ds.length with
  |some n=>(match ds[n]? with
   |some d=>some (d,ds.eraseIdx n)
   |none=>none)
  |none=>none) else none
 |_=>none
def jl (i j:Nat)(L:List Nat)(f:VF D):SF:=fun env β=>if sC env[i]? =true/\sC env[j]? =true/\i≠j then toS (f (vl env) β) fun k β'=>match (a7 L env)[j]? with
 |some (.ow (.list es))=>(match yT es k with
  |some (d,es')=>Gm i ((a7 L env).set j (.ow (.list es'))) β' fun ds=>if ds.length < sizeLine then some (ds ++ [d]) else none
  |none=>.bad)
 |_=>.bad else .bad
theorem bE.eraseIdx:∀{xs:List V} {ds:List D} (i:Nat),bE K G xs ds->bE K G (xs.eraseIdx i) (ds.eraseIdx i)
 |_,_,_,.nil=>.nil
 |_,_,0,.cons _ t=>t
 |_,_,i + 1,.cons r t=>.cons r (bE.eraseIdx i t)
theorem zA (i j:Nat){x y:Str}{np2 apos2 cpos2:Pos}(hb:∀j,Γ.br j=false)(he:SE X Γ E e f L md)(hN:X.N[i]? =some x:=by rfl)(hv:v7 X.env.scope x:=by first |exact Or.inl rfl |exact Or.inr (Or.inl rfl) |exact Or.inr (Or.inr rfl))(hd:(x == ("__debug__":Str))=false:=by decide)
  (hcd:(x == ("__classdict__":Str))=false:=by decide)
  (hN2:X.N[j]? =some y:=by rfl) (hv2:v7 X.env.scope y:=by first |exact Or.inl rfl |exact Or.inr (Or.inl rfl) |exact Or.inr (Or.inr rfl)) (hd2:(y == ("__debug__":Str))=false:=by decide)
  (hcd2:(y == ("__classdict__":Str))=false:=by decide)
  (hbase:attributeBase (.Name x np) "append" X.env (eval (.Name x np) X.env)=eval (.Name x np) X.env:=by rfl)
  (hfew:((backTo cpos (starEach [.Call (.Attribute (.Name y np2) "pop" apos2) [e] [] cpos2] X.env)).all (fun x=> !x.1) && (backToKw cpos (keywordEach [] X.env)).all (fun x=>x.1.isSome)
   && decide ([Expr.Call (.Attribute (.Name y np2) "pop" apos2) [e] [] cpos2].length + ([]:List Keyword).length + (if ([]:List Keyword).isEmpty then 0 else 1) < 30))=true:=by rfl)
  (hline:(apos.endLine == cpos.line)=true:=by rfl) (hs:starEach [.Call (.Attribute (.Name y np2) "pop" apos2) [e] [] cpos2] X.env=(false,eval (.Call (.Attribute (.Name y np2) "pop" apos2) [e] [] cpos2) X.env) :: starEach [] X.env:=by rfl)
  (hbase2:attributeBase (.Name y np2) "pop" X.env (eval (.Name y np2) X.env)=eval (.Name y np2) X.env:=by rfl)
  (hfew2:((backTo cpos2 (starEach [e] X.env)).all (fun x=> !x.1) && (backToKw cpos2 (keywordEach [] X.env)).all (fun x=>x.1.isSome)
   && decide ([e].length + ([]:List Keyword).length + (if ([]:List Keyword).isEmpty then 0 else 1) < 30))=true:=by rfl)
  (hline2:(apos2.endLine == cpos2.line)=true:=by rfl) (hs2:starEach [e] X.env=(false,eval e X.env) :: starEach [] X.env:=by rfl)
  (hsw:swapsWith (.Call (.Attribute (.Name x np) "append" apos) [.Call (.Attribute (.Name y np2) "pop" apos2) [e] [] cpos2] [] cpos) none pos.line X.env=pure false:=by rfl) :
  SS X Γ E (.Expr (.Call (.Attribute (.Name x np) "append" apos) [.Call (.Attribute (.Name y np2) "pop" apos2) [e] [] cpos2] [] cpos) pos) (jl i j L f):=by
 refine PS.post (tD (Ck PySem.F.plainAttrs_list PySem.F.slot_list_append PySem.F.type_list_append mU (jd hN hv hd hcd)
  (aK (Ck PySem.F.plainAttrs_list PySem.F.slot_list_pop PySem.F.type_list_pop B7 (jd hN2 hv2 hd2 hcd2) (aK he bg hs2) hbase2 hfew2 hline2 hs2 rfl) bg hs) hbase hfew hline hs rfl) hsw) fun N σ H ⟨env,G,B,β,I,o⟩=>?_
 unfold jl at o
 by_cases hO:sC env[i]? =true/\sC env[j]? =true/\i≠j
 case neg=>rw[if_neg hO] at o;exact o.elim
 rw[if_pos hO] at o
 obtain⟨hO1,hO2,hij⟩:=hO
 obtain⟨ds0,q0⟩:=nU hO1
 obtain⟨es0,w0⟩:=nU hO2
 obtain⟨p,h1,_,_,_,xs,h5,_⟩:=I.slot i _ q0
 obtain⟨q,k1,_,_,_,ys,k5,_⟩:=I.slot j _ w0
 refine⟨_,h1,.inl ⟨rfl,xs,.inl (.inl h5)⟩,?_⟩
 refine⟨_,k1,.inl ⟨rfl,ys,.inl (.inl k5)⟩,?_⟩
 refine⟨env,G,B,β,I,cf o fun kd β' k v G' H' I' s' m' vo=>?_⟩
 cases ej:(a7 L env)[j]? with
 |none=>rw[ej] at k;exact k.elim
 |some sj=>
  rw[ej] at k
  cases sj with
  |ow dj=>
   cases dj with
   |list es=>
    dsimp only at k
    cases ep:yT es kd with
    |none=>rw[ep] at k;exact k.elim
    |some pr=>
     obtain⟨d,es'⟩:=pr
     rw[ep] at k
     dsimp only at k
     unfold yT at ep
     cases kd <;> first | (cases ep;done) |skip
     rename_i ii
     dsimp only at ep
     split at ep
     ·rename_i hr
      cases eI:seqIndex? ii es.length with
      |none=>rw[eI] at ep;cases ep
      |some n=>
       rw[eI] at ep
       dsimp only at ep
       cases eD:es[n]? with
       |none=>rw[eD] at ep;cases ep
       |some d0=>
        rw[eD] at ep
        cases ep
        obtain rfl:=(vo.brw I.boxThere).int
        obtain⟨q',g1,_,_,_,zs,g5,g6⟩:=I'.slot j _ ej
        rw[k1] at g1;cases g1
        obtain⟨xv,ex,rx⟩:=g6.at eD
        refine⟨q,zs,ii,n,xv,rfl,rfl,g5,hr.1,hr.2,by rw[g6.len];exact eI,ex,?_⟩
        have I2:=I'.write hb ej k1 (o:=.lst (zs.eraseIdx n)) (d':=.list (es.eraseIdx n)) fun H2 e2 s2=>⟨_,e2,g6.eraseIdx n⟩
        obtain⟨ds,fs,eq,eg,k⟩:=sx k
        by_cases hz:ds.length < sizeLine
        case neg=>rw[if_neg hz] at eg;cases eg
        rw[if_pos hz] at eg
        cases eg
        obtain⟨p',f1,_,_,_,us,f5,f6⟩:=I2.slot i _ eq
        rw[h1] at f1;cases f1
        refine⟨p,us,xv,rfl,rfl,f5,by rw[f6.len];exact hz,?_⟩
        exact k B G' _ σ (I2.write hb eq h1 fun H2 e2 s2=>⟨_,e2,f6.snoc rx⟩) s'
     ·cases ep
   |_=>exact k.elim
  |_=>exact k.elim
end
def bI:List D->Int->FB
 | [.int m],β=>if 0 < m/\m < 1073741824 then .ok (.int (β % m)) false (β / m) else .bad
 |_,_=>.bad
theorem yj {ds:List D}{β:Int}(h:bI ds β≠.bad):∃m,ds= [.int m]/\0 < m/\m < 1073741824:=by
 unfold bI at h
 split at h
 ·rename_i m
  by_cases hh:0 < m/\m < 1073741824
  ·exact⟨m,rfl,hh.1,hh.2⟩
  ·rw[if_neg hh] at h;exact absurd rfl h
 ·exact absurd rfl h
theorem rQ {m β:Int}(h0:0 < m)(h1:m < 1073741824):bI [.int m] β=.ok (.int (β % m)) false (β / m):=if_pos ⟨h0,h1⟩
def constsOf:List Expr->Option (List Int)
 | []=>some []
 | .Constant (.int i) _ _ :: es=>(constsOf es).map fun r=>i :: r
 |_=>none
def K3 (ns:List Int):VF (List D):=fun _ β=>.ok (ns.map PyData.int) β
theorem qB {X:Cx}{Γ:Fx}{E:XK}:∀{es:List Expr} {ns:List Int},constsOf es=some ns->SA X Γ E es (K3 ns) []
 | [],ns,h=>by
  have e:ns= []:=by unfold constsOf at h;exact (Option.some.inj h).symm
  subst e
  exact ah
 |e :: es,ns,h=>by
  unfold constsOf at h
  split at h
  ·cases ‹_ :: _= []›
  ·next i a b es' heq=>
   cases heq
   cases q:constsOf es with
   |none=>rw[q] at h;cases h
   |some r=>
    rw[q] at h
    have e2:i :: r=ns:=Option.some.inj h
    subst e2
    exact ae aw (qB q) rfl
  ·cases h
section
variable {P:Program}{w:World}{K:PySem.W.Frag}{mg:Str->Option Value}{base:Heap}
theorem C7 {X:Cx}{i j:Nat}{x y:Str}{px py pos:Pos}{k:Nat}(hN:X.N.Nodup)(hi:X.N[i]? =some x)(hj:X.N[j]? =some y)(hx:X.env.scope.names.lookup x=some .local)(hy:X.env.scope.names.lookup y=some .local)(hc:X.calm=true) :
  PG X (.Tuple [.Name x px,.Name y py] k pos) (Dv X.K 2 (o7 (kI i) (o7 (kI j) Dp))):=
 o4 hc (cU (cy hN hi (Or.inl hx) (Or.inr hx)) (cU (cy hN hj (Or.inl hy) (Or.inr hy)) lX))
theorem BL {b:Addr}{β m:Int}{H:Hp}{Q:VK}{G:Hp}(hb:H b=some (.lst [.int β]))(s:ao G H){p:Addr}(hp:H p=none)
  (kk:∀v G' H',hV (some b) H H'->H' b=some (.lst [.int (β / m)])->ao G G'->ao G' H'->(∀c,Mx H c->G c=none->G' c=none)->FV K H G' H' false (.int (β % m)) v->Q v H') (gb:G b=none) :
  Q (.int (β % m)) (upd (upd H p (.tup [.int (β / m),.int (β % m)])) b (.lst [.int (β / m)])):=by
 have hbp:b≠p:=aG hb hp
 refine kk _ G _ (fun c o e n=>?_) aq (ao.refl _) (fun c o e=>?_) (fun c _ h=>h) (.int _)
 ·rw[ay (fun z=>n (by rw[z])),ay (aG e hp)];exact e
 ·rw[ay (fun z=>by rw[z,gb] at e;cases e),ay (aG (s c o e) hp)];exact s c o e
end
end L2

end

section
namespace L2
open PySem PySem.SeqAt PySem.Spec PyProof.Rows
theorem rN {M:Model}{A:Around}{E:Value->Shared->Prop}{s:Shared}{β:Type}{b:Nat}(f:Nat->β->Sem (ForInStep β))(I:List Nat->β->Shared->Prop)(Q:β->Shared->Prop)
  (turn:∀x rest b s,I (x :: rest) b s->wpAny M A (f x b) (fun r s'=>match r with | .yield b'=>I rest b' s' | .done b'=>Q b' s') E s)
  (fin:∀b s,I [] b s->Q b s) (c:β) (h:I (List.range' 0 b) c s):wpAny M A (forIn [0:b] c f) Q E s:=by
 rw[Std.Legacy.Range.forIn_eq_forIn_range']
 simp only[Std.Legacy.Range.size,Nat.sub_zero,Nat.add_sub_cancel,Nat.div_one]
 exact wpAny_forIn_list f I Q turn fin _ c h
theorem p5 (l:Addr)(items:Array Value)(n:Nat)(dd:Option Addr)(sl:Array (Option Value))(x:Value)(e:Value->Bool)(j:Nat)(hj:j < items.size)
  (hit:e items[j]=true) (hno:∀m (hm:m < items.size),m < j->e items[m]=false) :
  Meets (Builtin.«tuple.index» ⟨[.ref l,x],[]⟩)
   (fun A R s=>s.heap.get? l=some {cls:=.type "tuple",dict:=dd,data:=.seq items n,slots:=sl}/\(∀y,y∈items->EqAt A.in1 s y x (e y))/\R (.ok (.ret (.int j s.toks))) {s with toks:=s.toks + 1}):=
 .of_wp fun prog w A R s h=>by
  obtain⟨hp,g,d,tk,os⟩:=s;obtain⟨hl,he,h⟩:=h
  wp_walk using wpAny_loadPart' hl,rN _ (fun rest b s'=>b.1=none/\s'=⟨hp,g,d,tk,os⟩/\∃i,i<=j/\rest=List.range' i (items.size - i)) _
  case turn=>
   rintro y rest b s' ⟨hb,rfl,i,hi,hr⟩
   obtain⟨m,hm⟩:∃m,items.size - i=m + 1:=⟨items.size - i - 1,by omega⟩
   rw[hm,List.range'_succ] at hr
   obtain⟨rfl,rfl⟩:=List.cons.inj hr
   have hlt:y < items.size:=by omega
   have e1:items[y]? =some items[y]:=by simp[hlt]
   simp only[e1]
   refine wpAny_bind (he _ (Array.getElem_mem hlt) prog w _ _ ?_)
   by_cases z:y=j
   ·subst z
    rw[hit]
    wp_walk
    exact⟨_,rfl,h⟩
   ·rw[hno y hlt (by omega)]
    wp_walk
    exact⟨rfl,rfl,y + 1,by omega,by congr 1;omega⟩
  case fin=>
   rintro b s' ⟨hb,rfl,i,hi,hr⟩
   obtain⟨m,hm⟩:∃m,items.size - i=m + 1:=⟨items.size - i - 1,by omega⟩
   rw[hm,List.range'_succ] at hr
   cases hr
  case h=>
   exact⟨rfl,rfl,0,Nat.zero_le _,by rw[Nat.min_self];rfl⟩
section
variable {K:PySem.W.Frag}{X:Cx}{G H:Hp}{Γ:Fx}{E:XK}{e a b c:Expr}{f fa fb fc:VF D}{L La Lb:List Nat}{md ma mb mc:Md}{pos apos cpos np:Pos}
def vJ (k:Int):Value->Bool
 | .int i _=>i == k
 |_=>false
theorem lb {k:Int}:∀{ns:List Int} {us:List Value} (i:Nat) (h:i < us.length) (h2:i < ns.length),Vals (ns.map V.int) us->vJ k us[i]=(ns[i] == k)
 | [],_,_,_,h2,_=>absurd h2 (Nat.not_lt_zero _)
 |n :: ns,_,0,_,_,.cons r _=>by obtain⟨t,rfl⟩:=r;rfl
 |n :: ns,_,i + 1,h,h2,.cons _ rs=>lb i (Nat.lt_of_succ_lt_succ h) (Nat.lt_of_succ_lt_succ h2) rs
theorem vc {k:Int}{t:Tok}(A:Around)(s:Shared):∀{ns:List Int} {us:List Value},Vals (ns.map V.int) us->∀y∈us,EqAt A s y (.int k t) (vJ k y)
 | [],_,.nil,y,hy=>by cases hy
 |n :: ns,_,.cons r rs,y,hy=>by
  rcases List.mem_cons.mp hy with z |z
  ·subst z;obtain⟨t',rfl⟩:=r;exact EqAt.int_int n t' k t
  ·exact vc A s rs y z
def D1 (K:PySem.W.Frag):V->List V->Hp->VK->Prop:=fun x vs H Q=>∃(a:Addr) (ns:List Int) (k:Int),x=.ref a/\vs= [.int k]/\c7 K H a (ns.map V.int)/\k∈ns/\Q (.int (ns.idxOf k:Nat)) H
theorem zC:JG X "tuple.index" (D1 X.K):=by
 intro pins s σ H x vs v us Q I rx rv h
 obtain⟨a,ns,k,rfl,rfl,hq,hk,q⟩:=h
 cases rx
 obtain⟨u,rfl,ru⟩:=vals1 rv
 obtain⟨t,rfl⟩:=ru
 obtain⟨its,rs,pl,hz⟩:=I.tuple hq
 obtain⟨⟨cls,dd,data,sl⟩,ho,hc,n,hd⟩:=id pl
 simp only at hc hd
 subst hc hd
 have hj:ns.idxOf k < ns.length:=List.idxOf_lt_length_iff.mpr hk
 have hlen:its.length=ns.length:=by rw[<-rs.length,List.length_map]
 refine call_meets PySem.F.slot_tuple_index ⟨_,ho,rfl⟩ PySem.F.entry_tuple_index (PySem.F.args_tuple_index_2 _ _)
  (p5 a its.toArray n dd sl (.int k t) (vJ k) (ns.idxOf k) (by simpa[hlen] using hj) ?_ ?_) ⟨ho,fun y hy=>vc _ _ rs y (by simpa using hy),?_⟩
 ·have:=lb (k:=k) (ns.idxOf k) (by omega) hj rs
  simpa[List.getElem_idxOf hj] using this
 ·intro m hm hlt
  have hm':m < ns.length:=by simpa[hlen] using hm
  have hne:ns[m]≠k:=fun z=>by
   have:=List.not_of_lt_findIdx (p:=(· == k)) hlt
   simp[z] at this
  have:=lb (k:=k) m (by omega) hm' rs
  rw[beq_eq_false_iff_ne.mpr hne] at this;simpa using this
 ·exact⟨.int (ns.idxOf k:Nat),H,I.tok _,⟨_,rfl⟩,q⟩
theorem Inv.tupleP {pins:List (Addr×Obj)}{σ:St}{s:Shared}{p:Addr}{xs:List V}(I:Inv X pins σ H s)(h:c7 X.K H p xs):s.TypeIs (.ref p) "tuple"/\∀a,Value.ref p=.ref a->∃ob,s.heap.get? a=some ob/\ob.dict=none:=by
 rcases h with h | ⟨o,its,n,hk,hc,hs,hz,r,hd⟩
 ·obtain⟨_,_,_,o,e,c,n,d,hd⟩:=h.ok I.hok
  exact⟨⟨o,e,c⟩,fun a z=>by cases z;exact⟨o,e,hd⟩⟩
 ·exact⟨⟨o,I.kIn p o hk,hc⟩,fun a z=>by cases z;exact⟨o,I.kIn p o hk,hd⟩⟩
def KD (K:PySem.W.Frag)(r:V->List V->Hp->VK->Prop)(to:TE)(t:TA):TE:=fun σ H Q=>to σ H fun x H1=>(∃p xs,x=.ref p/\c7 K H1 p xs)/\t σ H1 fun xs H2=>r x xs H2 Q
theorem FY {o e:Expr}{es:List Expr}{to:TE}{t:TA}{name:Str}{apos cpos:Pos}{id:String}{r:V->List V->Hp->VK->Prop}(slot:Slot "tuple" name id)(hty:typeOf (.builtin id)=pure (.type "method_descriptor"))(hm:JG X id r)(ho:PE X o to)(ha:PA X (e :: es) t)
  (hbase:attributeBase o name X.env (eval o X.env)=eval o X.env:=by rfl)
  (hfew:((backTo cpos (starEach (e :: es) X.env)).all (fun x=> !x.1) && (backToKw cpos (keywordEach [] X.env)).all (fun x=>x.1.isSome)
   && decide ((e :: es).length + ([]:List Keyword).length + (if ([]:List Keyword).isEmpty then 0 else 1) < 30))=true:=by rfl)
  (hline:(apos.endLine == cpos.line)=true:=by rfl) (hs:starEach (e :: es) X.env=(false,eval e X.env) :: starEach es X.env:=by rfl) (hplain:(backTo cpos (starEach es X.env)).any (·.1)=false:=by rfl) :
  PE X (.Call (.Attribute o name apos) (e :: es) [] cpos) (KD X.K r to t):=by
 intro pins s σ H Q I h
 refine wpAny_Call_method_late hbase hfew hline rfl (bW (ho pins s σ H _ I h) fun v s1 ⟨x,H1,I1,r1,⟨p,ys,ex,hr⟩,q1⟩=>?_)
 subst ex
 cases r1
 obtain⟨h1,h2⟩:=I1.tupleP hr
 refine⟨"tuple",id,PySem.F.plainAttrs_tuple,slot,hty,h1,h2,?_⟩
 have hA:=ha cpos pins s1 σ H1 _ I1 q1
 rw[hs] at hA ⊢
 refine Calls.callWith_builtin (by show (false || (backTo cpos (starEach es X.env)).any (·.1))=false;rw[hplain] <;> rfl) (Calls.evalArgs_plain ?_)
 exact bW hA fun us s2 ⟨vs,H2,I2,r2,q2⟩=>hm pins s2 σ H2 (.ref p) vs (.ref p) us Q I2 rfl r2 q2
def gC:List D->Option (List Int)
 | []=>some []
 | .int i :: ds=>(gC ds).map (i :: ·)
 |_=>none
theorem lx:∀{ds:List D} {ns:List Int},gC ds=some ns->ds=ns.map PyData.int
 | [],ns,h=>by cases h;rfl
 | .int i :: ds,ns,h=>by
  unfold gC at h
  cases q:gC ds with
  |none=>rw[q] at h;cases h
  |some ms=>rw[q] at h;cases h;rw[lx q];rfl
 | .none :: _,_,h=>by cases h
 | .bool _ :: _,_,h=>by cases h
 | .str _ :: _,_,h=>by cases h
 | .list _ :: _,_,h=>by cases h
 | .tuple _ :: _,_,h=>by cases h
 | .dict _ :: _,_,h=>by cases h
theorem gx:∀ns:List Int,gC (ns.map PyData.int)=some ns
 | []=>rfl
 |n :: ns=>by show (gC (ns.map PyData.int)).map (n :: ·)=_;rw[gx ns];rfl
theorem ou:∀{ns:List Int} {xs:List V},bE K G xs (ns.map PyData.int)->xs=ns.map V.int
 | [],_,.nil=>rfl
 |n :: ns,_,.cons r t=>by cases r;rw[ou t];rfl
def DS (d y:D):Option D:=match d,y with
 | .tuple ds,.int k=>(match gC ds with
  |some ns=>if k∈ns then some (.int (ns.idxOf k:Nat)) else none
  |none=>none)
 |_,_=>none
def xI:D->Bool
 | .tuple _=>true
 |_=>false
def jT (fa fb:VF D):VF D:=fun vs β=>(fa vs β).bnd fun x β1=>if xI x=true then (fb vs β1).bnd fun y β2=>R.of (DS x y) β2 else .bad
theorem lK (hK:X.K=Γ.K)(ha:SE X Γ E a fa La ma)(hb:SE X Γ E b fb Lb mb)
  (hbase:attributeBase a "index" X.env (eval a X.env)=eval a X.env:=by rfl)
  (hfew:((backTo cpos (starEach [b] X.env)).all (fun x=> !x.1) && (backToKw cpos (keywordEach [] X.env)).all (fun x=>x.1.isSome)
   && decide ([b].length + ([]:List Keyword).length + (if ([]:List Keyword).isEmpty then 0 else 1) < 30))=true:=by rfl)
  (hline:(apos.endLine == cpos.line)=true:=by rfl) (hs:starEach [b] X.env=(false,eval b X.env) :: starEach [] X.env:=by rfl) :
  SE X Γ E (.Call (.Attribute a "index" apos) [b] [] cpos) (jT fa fb) (La ++ Lb) .v:=by
 refine PE.post' (FY PySem.F.slot_tuple_index PySem.F.type_tuple_index zC ha (aK hb bg hs) hbase hfew hline hs rfl) fun σ H Q ⟨env,G,B,β,I,o⟩=>?_
 refine⟨env,G,B,β,I,o.bnd.imp fun d1 β1 h x G1 H1 I1 s1 m1 vx=>?_⟩
 have vx:=vx.brw I.boxThere
 cases d1 with
 |tuple ds=>
  rw[if_pos (show xI (.tuple ds)=true from rfl)] at h
  obtain⟨p,xs,rfl,hq,r⟩:=vx.tuple I1.sub
  refine⟨⟨p,xs,rfl,by rw[hK];exact hq⟩,?_⟩
  refine⟨a7 La env,G1,B,β1,I1,?_⟩
  rw[df]
  refine h.bnd.imp fun d2 β2 h y G2 H2 I2 s2 m2 vy=>?_
  obtain⟨d,e,k⟩:=h.of
  have vy:=vy.brw I1.boxThere
  cases d2 with
  |int kk=>
   obtain rfl:=vy.int
   simp only[DS] at e
   cases q:gC ds with
   |none=>rw[q] at e;cases e
   |some ns=>
    rw[q] at e
    dsimp only at e
    split at e
    ·rename_i hk
     cases e
     have eds:=lx q
     subst eds
     have exs:=ou r
     subst exs
     have hq2:c7 X.K H2 p (ns.map V.int):=by
      rw[hK]
      rcases hq with hq |hq
      ·rcases vx with vx | ⟨_,_,_,vx⟩
       ·cases vx with
        |tup g1 r9=>have z9:=ou r9;subst z9;exact (g1.grow (s2.trans I2.sub).grow)
       ·exact vx.elim
      ·exact .inr hq
     exact⟨p,ns,kk,rfl,rfl,hq2,hk,k _ G2 H2 (by rw[bP];exact I2) (s1.trans s2) (m1.trans m2) (.int _)⟩
    ·cases e
  |_=>simp only[DS] at e;cases e
 |_=>exact h.elim
abbrev Fx.at (Γ:Fx)(H0:Hp):Fx:=⟨Γ.K,H0,Γ.G0,Γ.par,Γ.ca,Γ.br,Γ.bx⟩
end
end L2

end

section
namespace L2
open PySem PySem.Spec PyProof.Rows
section
variable {K:PySem.W.Frag}{X:Cx}{G H:Hp}
def Hn (neg:Bool):D->D->Option D
 | .str x,.str y=>some (.bool (if neg then !decide (x=y) else decide (x=y)))
 |_,_=>none
theorem BF (x y:Str):decide (V.str x=V.str y)=decide (x=y):=by
 rw[Bool.eq_iff_iff];simp
theorem HH:mf K K0 (Hn true) .v:=by
 intro B G H x y dx dy d Q s hB bx by' e k
 cases dx <;> cases dy <;> first | (cases e;done) |skip
 cases e
 obtain rfl:=bx.str
 obtain rfl:=by'.str
 refine⟨rfl,?_⟩
 rw[BF]
 exact k _ G H (Ext.refl s) (.bl _)
end
end L2

end

section

end

section

end

section
namespace L2
open PySem
section
variable {α γ:Type}
@[simp] theorem lj (a:α)(β:Int)(k:α->Int->R γ):(R.ok a β).bnd k=k a β:=rfl
@[simp] theorem JL (c:Str)(k:α->Int->R γ):(R.exc c:R α).bnd k=.exc c:=rfl
@[simp] theorem JM (k:α->Int->R γ):(R.bad:R α).bnd k=.bad:=rfl
@[simp] theorem Kw (a:α)(β:Int)(k:α->Int->R γ):(R.ok a β).okb k=k a β:=rfl
@[simp] theorem sN (a:α)(β:Int):R.of (some a) β=.ok a β:=rfl
@[simp] theorem of_none (β:Int):(R.of none β:R α)=.bad:=rfl
@[simp] theorem JU (a:α)(β:Int)(k:α->Int->SO):toS (.ok a β) k=k a β:=rfl
@[simp] theorem JP (c:Str)(k:α->Int->SO):toS (.exc c:R α) k=.exc c:=rfl
@[simp] theorem JI (k:α->Int->SO):toS (.bad:R α) k=.bad:=rfl
end
section
variable (f fa fb fc:VF D)(t u:VF Bool)(m m':SF)(vs:List Nv)(β:Int)(env:En)(i j:Nat)(L:List Nat)
@[simp] theorem ER:gv i vs β=R.of (dat vs[i]?) β:=rfl
@[simp] theorem vW (d:D):dat (some (.da d))=some d:=rfl
@[simp] theorem Kq (d:D):cst d vs β=.ok d β:=rfl
@[simp] theorem KY (g:D->Option D):f1 fa g vs β=(fa vs β).bnd fun x β1=>R.of (g x) β1:=rfl
@[simp] theorem KS (g:D->D->Option D):f2 fa fb g vs β=(fa vs β).bnd fun x β1=>(fb vs β1).bnd fun y β2=>R.of (g x y) β2:=rfl
@[simp] theorem yo:ag vs β=.ok [] β:=rfl
@[simp] theorem cj (fr:VF (List D)):aa fa fr vs β=(fa vs β).bnd fun x β1=>(fr vs β1).bnd fun xs β2=>.ok (x :: xs) β2:=rfl
@[simp] theorem sE:nr fa vs β=(fa vs β).bnd fun x β1=>R.of (Fu x) β1:=rfl
@[simp] theorem sO:qg t vs β=(t vs β).bnd fun c β1=>.ok (!c) β1:=rfl
@[simp] theorem wJ:sS t u vs β=(t vs β).bnd fun c β1=>if c=true then u vs β1 else .ok false β1:=rfl
@[simp] theorem sR:kN t u vs β=(t vs β).bnd fun c β1=>if c=true then .ok true β1 else u vs β1:=rfl
@[simp] theorem K1 (n:Bool):tN fa n vs β=(fa vs β).bnd fun x β1=>.ok (if n then !DJ x else DJ x) β1:=rfl
@[simp] theorem Ku:Ld t fa fb vs β=(t vs β).bnd fun c β1=>if c=true then fa vs β1 else fb vs β1:=rfl
@[simp] theorem cQ (c:Bool){β1:Int}(h:fa vs β=.ok (.bool c) β1):cc fa vs β=.ok c β1:=by unfold cc;rw[h];rfl
@[simp] theorem we:vl []= []:=rfl
@[simp] theorem rL (s:Sl):vl (s :: env)=s.val :: vl env:=rfl
@[simp] theorem v8 (d:D):(Sl.fz d).val=.da d:=rfl
@[simp] theorem KJ (d:D):(Sl.ow d).val=.da d:=rfl
@[simp] theorem Km:Sl.no.val=.no:=rfl
@[simp] theorem Ks:Sl.bx.val=.bx:=rfl
@[simp] theorem JO:a7 [] env=env:=rfl
@[simp] theorem Ju:a7 (i :: L) env=a7 L (iH env i):=rfl
@[simp] theorem JH:aA m m' env β=(match m env β with
 | .nx env' β'=>m' env' β'
 |r=>r):=rfl
@[simp] theorem JR:jH L t m m' env β=toS (t (vl env) β) fun c β'=>if c=true then m (a7 L env) β' else m' (a7 L env) β':=rfl
@[simp] theorem fY:bA f env β=toS (f (vl env) β) fun d β'=>.rt d false β':=rfl
@[simp] theorem Bj:m8 f env β=toS (f (vl env) β) fun d β'=>.rt d true β':=rfl
@[simp] theorem KH:lq env β=.nx env β:=rfl
@[simp] theorem gR:bb i L f env β=toS (f (vl env) β) fun d β'=>.nx ((a7 L env).set i (.fz d)) β':=rfl
@[simp] theorem o8:iI i L f env β=toS (f (vl env) β) fun d β'=>.nx ((a7 L env).set i (.ow d)) β':=rfl
@[simp] theorem Ik:uv L f env β=toS (f (vl env) β) fun _ β'=>.nx (a7 L env) β':=rfl
end
theorem az {m m':SF}{env env':En}{β β':Int}(h:m env β=.nx env' β'):aA m m' env β=m' env' β':=by unfold aA;rw[h]
theorem dH {m m':SF}{env:En}{β β':Int}{d:D}{b:Bool}(h:m env β=.rt d b β'):aA m m' env β=.rt d b β':=by unfold aA;rw[h]
theorem fQ {L:List Nat}{t:VF Bool}{m m':SF}{env:En}{β β':Int}(h:t (vl env) β=.ok true β'):jH L t m m' env β=m (a7 L env) β':=by unfold jH;rw[h];rfl
theorem gK {L:List Nat}{t:VF Bool}{m m':SF}{env:En}{β β':Int}(h:t (vl env) β=.ok false β'):jH L t m m' env β=m' (a7 L env) β':=by unfold jH;rw[h];rfl
theorem aM {F:List D->FR}{fr:VF (List D)}{vs:List Nv}{β β1:Int}{ds:List D}{d:D}{b:Bool}(h:fr vs β=.ok ds β1)(e:F ds=.ok d b):aI F fr vs β=.ok d β1:=by unfold aI;rw[h];dsimp only[R.bnd];rw[e]
theorem Bv {F:List D->FR}{fr:VF (List D)}{vs:List Nv}{β β1:Int}{ds:List D}{d:D}(h:fr vs β=.ok ds β1)(e:F ds=.ok d true):vk F fr vs β=.ok d β1:=by unfold vk;rw[h];dsimp only[R.bnd];rw[e]
theorem bM {fa:VF D}{g:D->Option D}{vs:List Nv}{β β1:Int}{x d:D}(h:fa vs β=.ok x β1)(e:g x=some d):f1 fa g vs β=.ok d β1:=by unfold f1;rw[h];dsimp only[R.bnd];rw[e];rfl
theorem aE {fa fb:VF D}{g:D->D->Option D}{vs:List Nv}{β β1 β2:Int}{x y d:D}(h:fa vs β=.ok x β1)(h':fb vs β1=.ok y β2)(e:g x y=some d):f2 fa fb g vs β=.ok d β2:=by unfold f2;rw[h];dsimp only[R.bnd];rw[h'];dsimp only[R.bnd];rw[e];rfl
theorem di {i:Nat}{F:List D->Int->FB}{fr:VF (List D)}{vs:List Nv}{β β1 β2:Int}{ds:List D}{d:D}{b:Bool}(hi:xu vs i=true)(h:fr vs β=.ok ds β1)(e:F ds β1=.ok d b β2):jA i F fr vs β=.ok d β2:=by unfold jA;rw[if_pos hi,h];dsimp only[R.bnd];rw[e]
theorem sz (n:Nat)(h:n<=1000):n<=sizeLine:=by rw[sizeLine_eq];omega
theorem Iw (n:Nat)(h:n<=1000):n < sizeLine:=by rw[sizeLine_eq];omega
theorem km {fr:VF (List D)}{vs:List Nv}{β β1:Int}{ds:List D}(h:fr vs β=.ok ds β1)(hz:ds.length<=1000):bG fr vs β=.ok (.tuple ds) β1:=by unfold bG;rw[h];exact if_pos (sz _ hz)
theorem fx {fr:VF (List D)}{vs:List Nv}{β β1:Int}{ds:List D}(h:fr vs β=.ok ds β1)(hz:ds.length<=1000):aW fr vs β=.ok (.list ds) β1:=by unfold aW;rw[h];exact if_pos (sz _ hz)
theorem xh {i:Nat}{env:En}{β:Int}{g:List D->Option (List D)}{ds es:List D}(h:env[i]? =some (.ow (.list ds)))(e:g ds=some es):Gm i env β g=.nx (env.set i (.ow (.list es))) β:=by unfold Gm;rw[h];dsimp only;rw[e]
theorem nJ {i:Nat}{L:List Nat}{f:VF D}{env:En}{β β':Int}{ds:List D}{d:D}(hi:env[i]? =some (.ow (.list ds)))(hf:f (vl env) β=.ok d β')(hL:(a7 L env)[i]? =some (.ow (.list ds)))(hz:ds.length<=1000):kx i L f env β=.nx ((a7 L env).set i (.ow (.list (ds ++ [d])))) β':=by
 unfold kx
 rw[if_pos (by rw[hi];rfl),hf]
 exact xh hL (if_pos (Iw _ hz))
theorem vR {i j:Nat}{L:List Nat}{f:VF D}{env:En}{β β':Int}{ds es es':List D}{k d:D}(hi:env[i]? =some (.ow (.list ds)))(hj:env[j]? =some (.ow (.list es)))(hij:i≠j)(hf:f (vl env) β=.ok k β')(hL:a7 L env=env)(hp:yT es k=some (d,es'))(hz:ds.length<=1000):jl i j L f env β=.nx ((env.set j (.ow (.list es'))).set i (.ow (.list (ds ++ [d])))) β':=by
 unfold jl
 rw[if_pos ⟨by rw[hi];rfl,by rw[hj];rfl,hij⟩,hf,hL]
 dsimp only[toS]
 rw[hj]
 dsimp only
 rw[hp]
 exact xh (by rw[List.getElem?_set_ne (Ne.symm hij)];exact hi) (if_pos (Iw _ hz))
theorem B9 {i:Nat}{Le Li:List Nat}{fe fi:VF D}{env:En}{β β1 β2:Int}{ds:List D}{d:D}{k:Int}{n:Nat}(he:fe (vl env) β=.ok d β1)(h1:(a7 Le env)[i]? =some (.ow (.list ds)))(hi:fi (vl env) β1=.ok (.int k) β2)(h2:(a7 (Le ++ Li) env)[i]? =some (.ow (.list ds)))(hk:vD ds.length k=some n):uf i Le Li fe fi env β=.nx ((a7 (Le ++ Li) env).set i (.ow (.list (ds.set n d)))) β2:=by
 unfold uf
 rw[he]
 dsimp only[toS]
 rw[if_pos (by rw[h1];rfl),hi]
 exact xh h2 (by dsimp only;rw[hk];rfl)
theorem oW {t:Tg}{ft:VF Bool}{fe:VF D}{vs:List Nv}(g:D->Bool)(h:D->D):∀{ds:List D} {β:Int},(∀d,d∈ds->∃vs1,kH t d vs=some vs1/\ft vs1 β=.ok (g d) β/\(g d=true->fe vs1 β=.ok (h d) β))->fE t ft fe vs ds β=.ok ((ds.filter g).map h) β
 | [],β,_=>rfl
 |d :: ds,β,hh=>by
  obtain⟨vs1,e1,e2,e3⟩:=hh d (List.mem_cons_self ..)
  have ih:=oW (t:=t) (ft:=ft) (fe:=fe) (vs:=vs) g h (ds:=ds) (β:=β) fun d' hd=>hh d' (List.mem_cons_of_mem _ hd)
  unfold fE
  rw[e1]
  dsimp only
  rw[e2]
  dsimp only[R.okb]
  cases q:g d with
  |true=>
   rw[if_pos rfl,e3 q]
   dsimp only
   rw[ih,List.filter_cons_of_pos q];rfl
  |false=>
   rw[if_neg Bool.false_ne_true,ih,List.filter_cons_of_neg (by rw[q];exact Bool.false_ne_true)]
theorem wu {own:Nat}{ixs:List Nat}{t:Tg}{fi:VF (List D)}{ft:VF Bool}{fe:VF D}{vs:List Nv}{β β1:Int}{ds:List D}(g:D->Bool)(h:D->D)(hi:fi vs β=.ok ds β1)(hz:ds.length<=1000)
  (hh:∀d,d∈ds->∃vs1,kH t d (dW own ixs vs)=some vs1/\ft vs1 β1=.ok (g d) β1/\(g d=true->fe vs1 β1=.ok (h d) β1)):aN own ixs t fi ft fe vs β=.ok (.list ((ds.filter g).map h)) β1:=by
 unfold aN
 rw[hi]
 dsimp only[R.bnd]
 rw[if_pos (sz _ hz),oW g h hh];rfl
theorem mT {own:Nat}{ixs:List Nat}{t:Tg}{fi:VF (List D)}{fe:VF D}{vs:List Nv}{β β1:Int}{ds:List D}(h:D->D)(hi:fi vs β=.ok ds β1)(hz:ds.length<=1000)
  (hh:∀d,d∈ds->∃vs1,kH t d (dW own ixs vs)=some vs1/\fe vs1 β1=.ok (h d) β1):aN own ixs t fi lN fe vs β=.ok (.list (ds.map h)) β1:=by
 rw[wu (ft:=lN) (fun _=>true) h hi hz fun d hd=>let ⟨vs1,e1,e2⟩:=hh d hd;⟨vs1,e1,rfl,fun _=>e2⟩]
 rw[List.filter_eq_self.mpr (fun _ _=>rfl)]
theorem eJ {α:Type}{own:Nat}{ixs:List Nat}{t:Tg}{fi:VF (List D)}{fe:VF D}{vs:List Nv}{β β1:Int}{l:List α}{e:α->D}(h:α->D)(hi:fi vs β=.ok (l.map e) β1)(hz:l.length<=1000)
  (hh:∀x,x∈l->∃vs1,kH t (e x) (dW own ixs vs)=some vs1/\fe vs1 β1=.ok (h x) β1):aN own ixs t fi lN fe vs β=.ok (.list (l.map h)) β1:=by
 unfold aN
 rw[hi]
 dsimp only[R.bnd]
 rw[if_pos (sz _ (by rw[List.length_map];exact hz))]
 have key:∀m:List α,(∀x,x∈m->x∈l)->fE t lN fe (dW own ixs vs) (m.map e) β1=.ok (m.map h) β1:=by
  intro m
  induction m with
  |nil=>intro _;rfl
  |cons x m ih=>
   intro hm
   obtain⟨vs1,e1,e2⟩:=hh x (hm x (List.mem_cons_self ..))
   rw[List.map_cons]
   unfold fE
   rw[e1]
   dsimp only
   show (R.ok true β1).okb _=_
   dsimp only[R.okb]
   rw[if_pos rfl,e2]
   dsimp only
   rw[ih fun y hy=>hm y (List.mem_cons_of_mem _ hy)];rfl
 rw[key l fun _ h=>h];rfl
theorem eQ {α:Type}{own:Nat}{ixs:List Nat}{t:Tg}{fi:VF (List D)}{ft:VF Bool}{fe:VF D}{vs:List Nv}{β β1:Int}{l:List α}{e:α->D}(g:α->Bool)(h:α->D)(hi:fi vs β=.ok (l.map e) β1)(hz:l.length<=1000)
  (hh:∀x,x∈l->∃vs1,kH t (e x) (dW own ixs vs)=some vs1/\ft vs1 β1=.ok (g x) β1/\(g x=true->fe vs1 β1=.ok (h x) β1)):aN own ixs t fi ft fe vs β=.ok (.list ((l.filter g).map h)) β1:=by
 unfold aN
 rw[hi]
 dsimp only[R.bnd]
 rw[if_pos (sz _ (by rw[List.length_map];exact hz))]
 have key:∀m:List α,(∀x,x∈m->x∈l)->fE t ft fe (dW own ixs vs) (m.map e) β1=.ok ((m.filter g).map h) β1:=by
  intro m
  induction m with
  |nil=>intro _;rfl
  |cons x m ih=>
   intro hm
   obtain⟨vs1,e1,e2,e3⟩:=hh x (hm x (List.mem_cons_self ..))
   have ih:=ih fun y hy=>hm y (List.mem_cons_of_mem _ hy)
   rw[List.map_cons]
   unfold fE
   rw[e1]
   dsimp only
   rw[e2]
   dsimp only[R.okb]
   cases q:g x with
   |true=>
    rw[if_pos rfl,e3 q]
    dsimp only
    rw[ih,List.filter_cons_of_pos q];rfl
   |false=>
    rw[if_neg Bool.false_ne_true,ih,List.filter_cons_of_neg (by rw[q];exact Bool.false_ne_true)]
 rw[key l fun _ h=>h];rfl
theorem cW {t:Tg}{m:SF}(Pv:Nat->En->Int->Prop):∀{ds:List D} {k:Nat} {env:En} {β:Int},Pv k env β->
  (∀i d env β,ds[i]? =some d->Pv (k + i) env β->∃env1,fS t d env=some env1/\∃env2 β2,m env1 β=.nx env2 β2/\Pv (k + i + 1) env2 β2)->∃env' β',lg t m ds env β=.nx env' β'/\Pv (k + ds.length) env' β'
 | [],k,env,β,h0,_=>⟨env,β,rfl,h0⟩
 |d :: ds,k,env,β,h0,hs=>by
  obtain⟨env1,e1,env2,β2,e2,h1⟩:=hs 0 d env β rfl h0
  obtain⟨env',β',e3,h2⟩:=cW Pv (t:=t) (m:=m) (ds:=ds) (k:=k + 1) h1 fun i d' en be hi hp=>by
   have:=hs (i + 1) d' en be (by simpa using hi) (by rw[show k + (i + 1)=k + 1 + i by omega];exact hp)
   rw[show k + (i + 1) + 1=k + 1 + i + 1 by omega] at this
   exact this
  refine⟨env',β',?_,by rw[List.length_cons,show k + (ds.length + 1)=k + 1 + ds.length by omega];exact h2⟩
  unfold lg
  rw[e1]
  dsimp only
  rw[e2]
  exact e3
theorem je {L:List Nat}{t:VF Bool}{m:SF}(Pv:Nat->En->Int->Prop)(Dn:En->Int->Prop):∀{n k:Nat} {env:En} {β:Int},k < n->Pv k env β->
  (∀k env β,Pv k env β->∃c β1,t (vl env) β=.ok c β1/\((c=false/\Dn (a7 L env) β1)\/(c=true/\∃env2 β2 k',m (a7 L env) β1=.nx env2 β2/\k' < k/\Pv k' env2 β2)))->∃env' β',ip L t m n env β=.nx env' β'/\Dn env' β'
 | 0,k,env,β,hk,_,_=>by omega
 |n + 1,k,env,β,hk,h0,hs=>by
  obtain⟨c,β1,e1,hc⟩:=hs k env β h0
  unfold ip
  rw[e1]
  dsimp only[toS]
  rcases hc with⟨rfl,hd⟩ | ⟨rfl,env2,β2,k',e2,hl,h1⟩
  ·exact⟨_,_,rfl,hd⟩
  ·rw[if_pos rfl,e2]
   exact je Pv Dn (n:=n) (k:=k') (by omega) h1 hs
end L2

end

section
namespace RM
open PySem L2
def oP:SF:=(bA (fT (f1 (gv 0) (fB "int")) (f1 (f1 (gv 0) (fB "bool")) yV)))
def o9 (bH:List D->FR):SF:=(bA (fT (aI bH (aa (gv 0) ag)) (i0 (cst (.int 0)) (gv 0) (gv 1) BO rX)))
def qy (bH:List D->FR):SF:=(bA (fT (aI bH (aa (gv 0) ag)) (i0 (cst (.int 1)) (gv 0) (cst (.int 8)) BO BO)))
def qJ (bu:List D->FR):SF:=(aA (jH ([] ++ ([] ++ [])) (kN (qg (nr (f1 (gv 0) (fB "tuple")))) (cc (f2 (f1 (gv 0) cz) (cst (.int 2)) (c5 true))))
 (bA (cst (.bool false)))
 lq)
 (bA (fT (aI bu (aa (f2 (gv 0) (cst (.int 0)) cv) (aa (gv 1) ag))) (aI bu (aa (f2 (gv 0) (cst (.int 1)) cv) (aa (gv 1) ag))))))
def gk:SF:=(m8 (aN 1 [0] (.nm 0) (dz (f2 (gv 0) (gv 0) dJ)) lN (bG (aa (f2 (gv 0) (gv 1) Ac) (aa (f2 (gv 0) (gv 1) kL) ag)))))
def oF:SF:=(bA (f1 (aN 2 [] (.two 0 1) (bF (gv 0)) lN (f2 (gv 0) (gv 1) (c5 false))) (b9 fun bs=>bs.any id)))
def gJ (gp gq iG eG:List D->FR):SF:=(aA (jH ([] ++ ([] ++ [])) (kN (qg (nr (f1 (gv 0) (fB "tuple")))) (cc (f2 (f1 (gv 0) cz) (cst (.int 2)) (c5 true))))
 (bA (cst (.bool false)))
 lq)
 (aA (bb 1 ([] ++ []) (f2 (gv 0) (cst (.int 0)) cv))
 (aA (bb 2 ([] ++ []) (f2 (gv 0) (cst (.int 1)) cv))
 (aA (jH (([1] ++ []) ++ []) (kN (qg (nr (aI gp (aa (gv 1) ag)))) (qg (nr (f1 (gv 2) (fB "tuple")))))
 (bA (cst (.bool false)))
 lq)
 (aA (jH ([] ++ [1]) (qg (nr (f1 (aN 1 [1] (.nm 0) (bF (gv 2)) lN (aI gq (aa (gv 0) (aa (gv 1) ag)))) (b9 fun bs=>bs.all id))))
 (bA (cst (.bool false)))
 lq)
 (bA (fT (f2 (gv 2) (aI iG (aa (gv 1) (aa (gv 2) ag))) (c5 false)) (f1 (aI eG (aa (gv 2) ag)) yV))))))))
def gm (eM:List D->FR):SF:=(jH ([0] ++ []) (qg (nr (aI eM (aa (gv 0) ag))))
 (fun env β=>toS ((aa (cst (.str "this is no order")) ag) (vl env) β) fun ds _=>if ds.length<=sizeLine then .exc "NoOrder" else .bad)
 lq)
def fF:SF:=(aA (jH ([] ++ []) (cc (f2 (gv 1) (f1 (gv 0) cz) rX))
 (bA (f2 (gv 0) (gv 1) cv))
 lq)
 (bA (cst (.int 0))))
def i6:SF:=(aA (bb 2 [] (aW (K3 [48271,69621,16807,39373,30269,40014,40692,50021,61687,71993,83869,95561,30307]))) (aA (bb 3 ((((([] ++ []) ++ []) ++ ([] ++ ([] ++ []))) ++ ([] ++ [])) ++ ([] ++ ([] ++ []))) (f2 (f2 (f2 (f2 (f2 (gv 0) (cst (.int 2147483647)) kL) (cst (.int 12345)) cD) (f2 (gv 2) (f2 (gv 1) (cst (.int 13)) kL) cv) dJ) (f2 (cst (.int 977)) (gv 1) dJ) cD) (f2 (cst (.int 7919)) (f2 (gv 1) (cst (.int 13)) Ac) dJ) cD))
 (aA (bb 3 ([] ++ []) (f2 (gv 3) (cst (.int 1000000007)) kL))
 (bA (f2 (f2 (f2 (f2 (gv 3) (gv 3) dJ) (f2 (cst (.int 48271)) (gv 1) dJ) cD) (cst (.int 1000000007)) kL) (cst (.int 7)) Ac)))))
def iU (dv dY:List D->FR):SF:=(aA (bb 2 ([0] ++ ([1] ++ [])) (aI dv (aa (gv 0) (aa (gv 1) ag))))
 (aA (jH (([] ++ []) ++ []) (cc (f2 (f2 (gv 2) (cst (.int 2)) kL) (cst (.int 0)) (c5 false)))
 (m8 (aW (aa (f2 (f1 (gv 2) Dz) (cst (.int 2)) Ac) ag)))
 lq)
 (aA (bb 3 [] (cst (.int 0)))
 (aA (cm (.nm 4) [] (dz (cst (.int 40)))
 (bb 3 (([] ++ []) ++ ([2] ++ ([4] ++ []))) (f2 (f2 (gv 3) (cst (.int 142857143)) dJ) (aI dY (aa (gv 2) (aa (gv 4) ag))) cD)))
 (m8 (aW (aa (gv 3) ag)))))))
def cZ (av:List D->Int->FB):SF:=(aA (iI 2 [] (f1 (gv 1) Ax))
 (aA (iI 3 [] (aW ag))
 (aA (ip ([] ++ []) (cc (f2 (gv 2) (aW ag) (c5 true)))
 (jl 3 2 ([] ++ []) (jA 0 av (aa (f1 (gv 2) cz) ag))) 1000)
 (qZ 3))))
noncomputable def eZ:SF:=(aA (bb 1 [] (f1 (gv 0) cn))
 (aA (bb 2 [] (f1 (cst (.int 1)) HU))
 (aA (ip ([] ++ []) (cc (f2 (gv 2) (f1 (gv 1) cz) (c5 true)))
 (aA (bb 2 [] (f1 (gv 1) cz))
 (aA (bb 3 [] (aW ag))
 (aA (cm (.two 4 5) [1] (bF (gv 1))
 (bb 3 ([] ++ ([] ++ [4])) (f2 (gv 3) (aN 2 [5,4] (.two 0 1) (bF (gv 1)) (cc (f2 (gv 0) (gv 2) (c5 false))) (bG (aa (gv 3) (aa (gv 1) ag)))) iO)))
 (bb 1 ([] ++ []) (f1 (f2 (gv 1) (gv 3) iO) cn))))) 1000)
 (bA (f1 (gv 1) mK)))))
def gc (cp:List D->FR)(av bL:List D->Int->FB):SF:=(aA (bb 2 ([] ++ ([1] ++ [])) (f2 (cst (.int 1)) (jA 0 av (aa (gv 1) ag)) cD))
 (aA (bb 3 ([] ++ []) (jA 0 bL (aa (f1 (gv 2) fD) ag)))
 (aA (bb 4 (([] ++ ([] ++ ([] ++ ([] ++ [])))) ++ ([] ++ [])) (f2 (aW (aa (cst (.int 2)) (aa (cst (.int 3)) (aa (cst (.int 4)) (aa (cst (.int 7)) ag))))) (jA 0 av (aa (cst (.int 4)) ag)) cv))
 (aA (iI 5 [] (aW ag))
 (aA (cm (.nm 6) [] (dz (gv 2))
 (cm (.nm 7) (([] ++ []) ++ []) (qQ (f2 (gv 6) (cst (.int 1)) cD) (gv 2))
 (jH (([4] ++ []) ++ []) (cc (f2 (jA 0 av (aa (gv 4) ag)) (cst (.int 0)) (c5 false)))
 (kx 5 (([] ++ []) ++ (([] ++ []) ++ [])) (bG (aa (f2 (gv 3) (gv 6) cv) (aa (f2 (gv 3) (gv 7) cv) ag))))
 lq)))
 (bA (bG (aa (gv 2) (aa (aI cp (aa (gv 5) ag)) ag)))))))))
end RM

end

section
namespace RM
open PySem L2
def uQ:D->Bool
 | .int _=>true
 |_=>false
def jK:List D->FR
 | [d]=>if b5 d=true then .bad else .ok (.bool (uQ d)) false
 |_=>.bad
theorem lY {d:D}(h:b5 d=false):jK [d]=.ok (.bool (uQ d)) false:=if_neg (by rw[h];exact Bool.false_ne_true)
theorem yB (ds:List D)(h:jK ds≠.bad):ba 1 1 oP ds=jK ds:=by
 unfold jK at h
 split at h
 ·rename_i d
  cases q:b5 d with
  |true=>rw[q] at h;exact absurd rfl h
  |false=>
   rw[lY q]
   have e1:fB "int" d=some (.bool (CI d "int")):=by unfold fB;rw[q];rfl
   have e2:fB "bool" d=some (.bool (CI d "bool")):=by unfold fB;rw[q];rfl
   show fin (bA (fT (f1 (gv 0) (fB "int")) (f1 (f1 (gv 0) (fB "bool")) yV)) [.fz d] 0)=_
   unfold bA fT f1 gv
   simp only[rL,we,v8,List.getElem?_cons_zero,vW,sN,lj,e1,e2]
   cases d <;> rfl
 ·exact absurd rfl h
def iy (d:D)(n:Int):Bool:=match d with
 | .int i=>decide (0<=i/\i < n)
 |_=>false
def fN:List D->FR
 | [d,.int n]=>if b5 d=true then .bad else .ok (.bool (iy d n)) false
 |_=>.bad
theorem yu {d:D}{n:Int}(h:b5 d=false):fN [d,.int n]=.ok (.bool (iy d n)) false:=if_neg (by rw[h];exact Bool.false_ne_true)
theorem uH {i lo n:Int}{vs:List Nv}{β:Int}{fa fb fc:VF D}{g':D->D->Option D}{q:Bool}(ha:fa vs β=.ok (.int lo) β)(hb:fb vs β=.ok (.int i) β)(hc:fc vs β=.ok (.int n) β)(hq:g' (.int i) (.int n)=some (.bool q)):i0 fa fb fc BO g' vs β=.ok (.bool (decide (lo<=i) && q)) β:=by
 unfold i0
 rw[ha];dsimp only[R.bnd];rw[hb];dsimp only[R.bnd]
 show (match (some (PyData.bool (decide (lo<=i))):Option D) with
  |some (.bool true)=>_
  |some (.bool false)=>_
  |_=>_)=_
 by_cases h:lo<=i
 ·rw[decide_eq_true h]
  dsimp only
  rw[hc]
  dsimp only[R.bnd]
  rw[hq];rfl
 ·rw[decide_eq_false h];rfl
theorem D3 (ds:List D)(h:fN ds≠.bad):ba 2 2 (o9 jK) ds=fN ds:=by
 unfold fN at h
 split at h
 ·rename_i d n
  cases q:b5 d with
  |true=>rw[q] at h;exact absurd rfl h
  |false=>
   rw[yu q]
   show fin (bA (fT (aI jK (aa (gv 0) ag)) (i0 (cst (.int 0)) (gv 0) (gv 1) BO rX)) [.fz d,.fz (.int n)] 0)=_
   unfold bA fT aI
   simp only[rL,we,v8,cj,yo,ER,List.getElem?_cons_zero,vW,sN,lj,lY q]
   cases d with
   |int i=>
    show fin (toS (i0 (cst (.int 0)) (gv 0) (gv 1) BO rX [.da (.int i),.da (.int n)] 0) _)=_
    rw[uH (lo:=0) (i:=i) (n:=n) rfl rfl rfl rfl]
    show FR.ok (.bool (decide (0<=i) && decide (i < n))) false=.ok (.bool (decide (0<=i/\i < n))) false
    rw[Bool.decide_and]
   |_=>rfl
 ·exact absurd rfl h
def Fg (d:D):Bool:=match d with
 | .int i=>decide (1<=i/\i<=8)
 |_=>false
def kA:List D->FR
 | [d]=>if b5 d=true then .bad else .ok (.bool (Fg d)) false
 |_=>.bad
theorem Br {d:D}(h:b5 d=false):kA [d]=.ok (.bool (Fg d)) false:=if_neg (by rw[h];exact Bool.false_ne_true)
theorem FI (ds:List D)(h:kA ds≠.bad):ba 1 1 (qy jK) ds=kA ds:=by
 unfold kA at h
 split at h
 ·rename_i d
  cases q:b5 d with
  |true=>rw[q] at h;exact absurd rfl h
  |false=>
   rw[Br q]
   show fin (bA (fT (aI jK (aa (gv 0) ag)) (i0 (cst (.int 1)) (gv 0) (cst (.int 8)) BO BO)) [.fz d] 0)=_
   unfold bA fT aI
   simp only[rL,we,v8,cj,yo,ER,List.getElem?_cons_zero,vW,sN,lj,lY q]
   cases d with
   |int i=>
    show fin (toS (i0 (cst (.int 1)) (gv 0) (cst (.int 8)) BO BO [.da (.int i)] 0) _)=_
    rw[uH (lo:=1) (i:=i) (n:=8) rfl rfl rfl rfl]
    show FR.ok (.bool (decide (1<=i) && decide (i<=8))) false=.ok (.bool (decide (1<=i/\i<=8))) false
    rw[Bool.decide_and]
   |_=>rfl
 ·exact absurd rfl h
def pairF:List D->FR
 | [d,.int n]=>(match oh d with
  |some p=>.ok (.bool (decide ((0<=p.1/\p.1 < n)/\(0<=p.2/\p.2 < n)))) false
  |none=>.bad)
 |_=>.bad
theorem BV (p:Pr)(n:Int):pairF [aJ p,.int n]=.ok (.bool (decide ((0<=p.1/\p.1 < n)/\(0<=p.2/\p.2 < n)))) false:=rfl
theorem FU (ds:List D)(h:pairF ds≠.bad):ba 2 2 (qJ fN) ds=pairF ds:=by
 unfold pairF at h
 split at h
 ·rename_i d n
  cases q:oh d with
  |none=>rw[q] at h;exact absurd rfl h
  |some p=>
   obtain rfl:=vt q
   rw[BV]
   obtain⟨a,b⟩:=p
   show fin (toS (fT (aI fN (aa (f2 (gv 0) (cst (.int 0)) cv) (aa (gv 1) ag))) (aI fN (aa (f2 (gv 0) (cst (.int 1)) cv) (aa (gv 1) ag))) [.da (.tuple [.int a,.int b]),.da (.int n)] 0) fun d β'=>.rt d false β')=_
   have e1:aI fN (aa (f2 (gv 0) (cst (.int 0)) cv) (aa (gv 1) ag)) [.da (.tuple [.int a,.int b]),.da (.int n)] 0=.ok (.bool (decide (0<=a/\a < n))) 0:=rfl
   have e2:aI fN (aa (f2 (gv 0) (cst (.int 1)) cv) (aa (gv 1) ag)) [.da (.tuple [.int a,.int b]),.da (.int n)] 0=.ok (.bool (decide (0<=b/\b < n))) 0:=rfl
   unfold fT
   rw[e1]
   dsimp only[R.bnd]
   by_cases c:0<=a/\a < n
   ·rw[decide_eq_true c,e2]
    show FR.ok (.bool (decide (0<=b/\b < n))) false=.ok (.bool (decide ((0<=a/\a < n)/\(0<=b/\b < n)))) false
    simp[c]
   ·rw[decide_eq_false c]
    show FR.ok (.bool false) false=.ok (.bool (decide ((0<=a/\a < n)/\(0<=b/\b < n)))) false
    simp[c]
 ·exact absurd rfl h
def aB (n:Nat)(l:List Pr):D:=.tuple [.int n,.tuple (l.map aJ)]
open Classical in
noncomputable def qL (f:Nat->List Pr->FR):D->FR:=fun d=>if h:∃nl:Nat×List Pr,d=aB nl.1 nl.2/\OM.Ord nl.1 nl.2 then f (Classical.choose h).1 (Classical.choose h).2 else .bad
theorem Ep {p q:Pr}(h:aJ p=aJ q):p=q:=by
 obtain⟨a,b⟩:=p
 obtain⟨c,d⟩:=q
 unfold aJ at h
 simp at h
 rw[h.1,h.2]
theorem nh:∀{l m:List Pr},l.map aJ=m.map aJ->l=m
 | [],[],_=>rfl
 | [],_ :: _,h=>by cases h
 |_ :: _,[],h=>by cases h
 |p :: l,q :: m,h=>by
  simp only[List.map_cons,List.cons.injEq] at h
  rw[Ep h.1,nh h.2]
theorem Bk {n m:Nat}{l k:List Pr}(h:aB n l=aB m k):n=m/\l=k:=by
 unfold aB at h
 simp only[PyData.tuple.injEq,List.cons.injEq,PyData.int.injEq,and_true] at h
 exact⟨by omega,nh h.2⟩
theorem vf {f:Nat->List Pr->FR}{n:Nat}{l:List Pr}(O:OM.Ord n l):qL f (aB n l)=f n l:=by
 unfold qL
 have h:∃nl:Nat×List Pr,aB n l=aB nl.1 nl.2/\OM.Ord nl.1 nl.2:=⟨(n,l),rfl,O⟩
 rw[dif_pos h]
 obtain⟨e,_⟩:=Classical.choose_spec h
 obtain⟨e1,e2⟩:=Bk e
 rw[<-e1,<-e2]
theorem vj {f:Nat->List Pr->FR}{d:D}(h:qL f d≠.bad):∃n l,d=aB n l/\OM.Ord n l:=by
 unfold qL at h
 by_cases q:∃nl:Nat×List Pr,d=aB nl.1 nl.2/\OM.Ord nl.1 nl.2
 ·obtain⟨nl,e,O⟩:=q;exact⟨nl.1,nl.2,e,O⟩
 ·rw[dif_neg q] at h;exact absurd rfl h
noncomputable def cL:List D->FR
 | [.int n,d]=>(match jD d with
  |some ds=>(match fP ds with
   |some ps=>(open Classical in if 1<=n/\n<=8/\OM.Wn n.toNat ps then .ok (.tuple ((OM.bV n.toNat (OM.Tr (OM.Mem ps))).map aJ)) false else .bad)
   |none=>.bad)
  |none=>.bad)
 |_=>.bad
theorem AA {n:Nat}{ps:List Pr}(h1:1<=n)(h8:n<=8)(w:OM.Wn n ps):cL [.int n,.tuple (ps.map aJ)]=.ok (.tuple ((OM.bV n (OM.Tr (OM.Mem ps))).map aJ)) false:=by
 unfold cL
 simp only[jD,gF]
 rw[if_pos ⟨by omega,by omega,by rw[Int.toNat_natCast];exact w⟩,Int.toNat_natCast]
def jy:List D->FR
 | [.tuple ds]=>(match fP ds with
  |some ps=>if ps.length<=1000 then .ok (.bool (ps.any fun p=>decide (p.1=p.2))) false else .bad
  |none=>.bad)
 |_=>.bad
theorem gn {α:Type}(f:α->Bool):∀l:List α,jZ (l.map fun x=>PyData.bool (f x))=some (l.map f)
 | []=>rfl
 |x :: l=>by
  show (jZ (l.map fun x=>PyData.bool (f x))).map (f x :: ·)=_
  rw[gn f l];rfl
theorem Gi (ds:List D)(h:jy ds≠.bad):ba 1 1 oF ds=jy ds:=by
 unfold jy at h
 split at h
 ·rename_i ds
  cases q:fP ds with
  |none=>rw[q] at h;exact absurd rfl h
  |some ps=>
   rw[q] at h
   dsimp only at h
   by_cases hz:ps.length<=1000
   case neg=>rw[if_neg hz] at h;exact absurd rfl h
   obtain rfl:=kq q
   have e:jy [.tuple (ps.map aJ)]=.ok (.bool (ps.any fun p=>decide (p.1=p.2))) false:=by
    unfold jy;simp only[gF];rw[if_pos hz]
   rw[e]
   have ec:aN 2 [] (.two 0 1) (bF (gv 0)) lN (f2 (gv 0) (gv 1) (c5 false)) [.da (.tuple (ps.map aJ))] 0=.ok (.list (ps.map fun p=>PyData.bool (decide (p.1=p.2)))) 0:=by
    exact eJ (l:=ps) (e:=aJ) (fun p=>PyData.bool (decide (p.1=p.2))) rfl hz fun p hp=>⟨_,rfl,rfl⟩
   show fin (toS ((aN 2 [] (.two 0 1) (bF (gv 0)) lN (f2 (gv 0) (gv 1) (c5 false)) [.da (.tuple (ps.map aJ))] 0).bnd fun x β1=>R.of (b9 (fun bs=>bs.any id) x) β1) fun d β'=>.rt d false β')=_
   rw[ec]
   simp only[lj,b9]
   rw[gn]
   simp[fin,List.any_map]
 ·exact absurd rfl h
theorem xZ:∀l:List Pr,PyData.canLayAll0 (l.map aJ)=true
 | []=>rfl
 |p :: l=>by
  show ((aJ p).canLay0 && PyData.canLayAll0 (l.map aJ))=true
  rw[xZ l];rfl
theorem yt:∀l:List Pr,PyData.depthAll (l.map aJ)<=1
 | []=>by show (0:Nat)<=1;omega
 |p :: l=>by
  show max (aJ p).depth (PyData.depthAll (l.map aJ))<=1
  have h1:(aJ p).depth=1:=by simp[aJ,PyData.depth,PyData.depthAll]
  have h2:=yt l
  omega
theorem oV (l:List Pr):SeqAt.shaped (.tuple (l.map aJ))=true:=by
 unfold SeqAt.shaped
 have h1:(PyData.tuple (l.map aJ)).canLay0=true:=by simp only[PyData.canLay0];exact xZ l
 have h2:(PyData.tuple (l.map aJ)).depth<=64:=by simp only[PyData.depth];have:=yt l;omega
 rw[h1,decide_eq_true h2];rfl
theorem GI (p q:Pr):PyData.eqv (aJ p) (aJ q)=decide (p=q):=by
 obtain⟨a,b⟩:=p
 obtain⟨c,d⟩:=q
 simp only[aJ,PyData.eqv,PyData.eqvAll,Bool.and_true]
 rw[Bool.eq_iff_iff]
 simp
theorem xY:∀l m:List Pr,PyData.eqvAll (l.map aJ) (m.map aJ)=decide (l=m)
 | [],[]=>rfl
 | [],_ :: _=>rfl
 |_ :: _,[]=>rfl
 |p :: l,q :: m=>by
  show (PyData.eqv (aJ p) (aJ q) && PyData.eqvAll (l.map aJ) (m.map aJ))=_
  rw[GI,xY l m,Bool.eq_iff_iff]
  simp
theorem lM {n:Nat}{l:List Pr}(O:OM.Ord n l):l.length < 64:=by
 have h8:=O.hi
 have e:=O.closed
 by_cases h:l.length < 64
 ·exact h
 ·exfalso
  have h1:l.length<=n * n:=by rw[<-e];exact OM.Bs _ _
  have h2:n * n<=64:=Nat.mul_le_mul h8 h8
  have hn:n=8:=by
   by_cases h7:n<=7
   ·have:n * n<=7 * 7:=Nat.mul_le_mul h7 h7
    omega
   ·omega
  have hlen:l.length=n * n:=by subst hn;omega
  have hg:l=OM.bR n:=by
   refine OM.sub_eq O.ris (OM.lO n) (fun x hx=>OM.bO.mpr (O.wn x hx)) ?_
   rw[hlen];unfold OM.bR;simp
  have:((0:Int),(0:Int))∈l:=by rw[hg];exact OM.bO.mpr ⟨⟨by omega,by omega⟩,by omega,by omega⟩
  exact O.irr 0 this
theorem CA {n:Nat}(h1:1<=n)(h8:n<=8):kA [.int n]=.ok (.bool true) false:=by
 rw[Br rfl]
 show FR.ok (.bool (decide (1<=(n:Int)/\(n:Int)<=8))) false=_
 rw[decide_eq_true (by omega)]
theorem oD (neg:Bool)(l m:List Pr):c5 neg (.tuple (l.map aJ)) (.tuple (m.map aJ))=some (.bool (if neg then !decide (l=m) else decide (l=m))):=by
 unfold c5
 rw[oV,oV]
 simp only[Bool.and_self,if_true,PyData.eqv,xY]
theorem Di {n:Nat}{l:List Pr}(O:OM.Ord n l):jy [.tuple (l.map aJ)]=.ok (.bool false) false:=by
 have hl:=lM O
 unfold jy
 simp only[gF]
 rw[if_pos (by omega)]
 have:(l.any fun p=>decide (p.1=p.2))=false:=by
  rw[List.any_eq_false]
  intro p hp
  simp only[decide_eq_true_eq]
  intro e
  obtain⟨a,b⟩:=p
  simp only at e
  subst e
  exact O.irr a hp
 rw[this]
theorem z7 {n:Nat}{l:List Pr}(O:OM.Ord n l):ba 3 1 (gJ kA pairF cL jy) [aB n l]=.ok (.bool true) false:=by
 have hl:=lM O
 show fin (gJ kA pairF cL jy [.fz (aB n l),.no,.no] 0)=_
 unfold gJ
 rw[az (env':=[.fz (aB n l),.no,.no]) (β':=0) (by rfl)]
 rw[az (env':=[.fz (aB n l),.fz (.int n),.no]) (β':=0) (by rfl)]
 rw[az (env':=[.fz (aB n l),.fz (.int n),.fz (.tuple (l.map aJ))]) (β':=0) (by rfl)]
 have e4:aI kA (aa (gv 1) ag) [.da (aB n l),.da (.int n),.da (.tuple (l.map aJ))] 0=.ok (.bool true) 0:=aM rfl (CA O.lo O.hi)
 rw[az (env':=[.fz (aB n l),.fz (.int n),.fz (.tuple (l.map aJ))]) (β':=0) ?h4]
 case h4=>
  refine gK ?_
  show kN (qg (nr (aI kA (aa (gv 1) ag)))) _ [.da (aB n l),.da (.int n),.da (.tuple (l.map aJ))] 0=_
  rw[sR,sO,sE,e4]
  rfl
 have e5:aN 1 [1] (.nm 0) (bF (gv 2)) lN (aI pairF (aa (gv 0) (aa (gv 1) ag))) [.da (aB n l),.da (.int n),.da (.tuple (l.map aJ))] 0=.ok (.list (l.map fun _=>PyData.bool true)) 0:=by
  refine eJ (l:=l) (e:=aJ) (fun _=>PyData.bool true) rfl (by omega) fun p hp=>⟨_,rfl,?_⟩
  refine aM (b:=false) (ds:=[aJ p,.int n]) rfl ?_
  rw[BV,decide_eq_true (by have:=O.wn p hp;exact this)]
 rw[az (env':=[.fz (aB n l),.fz (.int n),.fz (.tuple (l.map aJ))]) (β':=0) ?h5]
 case h5=>
  refine gK ?_
  show qg (nr (f1 (aN 1 [1] (.nm 0) (bF (gv 2)) lN (aI pairF (aa (gv 0) (aa (gv 1) ag)))) (b9 fun bs=>bs.all id))) [.da (aB n l),.da (.int n),.da (.tuple (l.map aJ))] 0=_
  rw[sO,sE,bM (d:=.bool true) e5 (by simp only[b9];rw[gn];simp)]
  rfl
 have e6:aI cL (aa (gv 1) (aa (gv 2) ag)) [.da (aB n l),.da (.int n),.da (.tuple (l.map aJ))] 0=.ok (.tuple (l.map aJ)) 0:=aM rfl (by rw[AA O.lo O.hi O.wn,O.closed])
 have e7:aI jy (aa (gv 2) ag) [.da (aB n l),.da (.int n),.da (.tuple (l.map aJ))] 0=.ok (.bool false) 0:=aM rfl (Di O)
 show fin (toS (fT (f2 (gv 2) (aI cL (aa (gv 1) (aa (gv 2) ag))) (c5 false)) (f1 (aI jy (aa (gv 2) ag)) yV) [.da (aB n l),.da (.int n),.da (.tuple (l.map aJ))] 0) _)=_
 unfold fT
 rw[aE (d:=.bool true) (x:=.tuple (l.map aJ)) rfl e6 (by rw[oD];simp)]
 dsimp only[R.bnd]
 rw[bM (d:=.bool true) e7 rfl]
 rfl
noncomputable def dS:List D->FR
 | [d]=>qL (fun _ _=>.ok (.bool true) false) d
 |_=>.bad
theorem qS {n:Nat}{l:List Pr}(O:OM.Ord n l):dS [aB n l]=.ok (.bool true) false:=by simp only[dS];exact vf O
theorem xr (ds:List D)(h:dS ds≠.bad):ba 3 1 (gJ kA pairF cL jy) ds=dS ds:=by
 unfold dS at h
 split at h
 ·obtain⟨n,l,rfl,O⟩:=vj h
  rw[z7 O,qS O]
 ·exact absurd rfl h
noncomputable def n5:List D->FR
 | [d]=>qL (fun _ _=>.ok .none false) d
 |_=>.bad
theorem AD {n:Nat}{l:List Pr}(O:OM.Ord n l):n5 [aB n l]=.ok .none false:=by simp only[n5];exact vf O
theorem EG (ds:List D)(h:n5 ds≠.bad):ba 1 1 (gm dS) ds=n5 ds:=by
 unfold n5 at h
 split at h
 ·obtain⟨n,l,rfl,O⟩:=vj h
  rw[AD O]
  have e:aI dS (aa (gv 0) ag) [.da (aB n l)] 0=.ok (.bool true) 0:=aM (ds:=[aB n l]) rfl (qS O)
  show fin (gm dS [.fz (aB n l)] 0)=_
  unfold gm
  rw[gK (β':=0)]
  ·rfl
  ·show qg (nr (aI dS (aa (gv 0) ag))) [.da (aB n l)] 0=_
   rw[sO,sE,e];rfl
 ·exact absurd rfl h
end RM

end

section
namespace RM
open PySem L2
abbrev b6 (ns:List Int):D:=.dict [(.none,.list (ns.map PyData.int))]
theorem mH {i j:Int}(h: -(2 ^ 64) < i/\i < 2 ^ 64):dJ (.int i) (.int j)=some (.int (i * j)):=if_pos (by dsimp only;rw[decide_eq_true h.1,decide_eq_true h.2];rfl)
theorem GD {i j:Int}(h: -(2 ^ 64) < j/\j < 2 ^ 64):dJ (.int i) (.int j)=some (.int (i * j)):=if_pos (by dsimp only;rw[decide_eq_true h.1,decide_eq_true h.2,Bool.and_self,Bool.or_true])
theorem mB {i j:Int}(h:0 < j):kL (.int i) (.int j)=some (.int (i % j)):=if_pos (decide_eq_true h)
theorem yi {i j:Int}(h:0 < j)(h2:j < 1073741824):Ac (.int i) (.int j)=some (.int (i / j)):=if_pos (by dsimp only;rw[decide_eq_true h,decide_eq_true h2];rfl)
theorem fX {α β:Type}(f:α->β)(l:List α)(i:Int):jI (l.map f) i=(jI l i).map f:=by
 unfold jI
 rw[List.length_map]
 cases vD l.length i with
 |none=>rfl
 |some j=>simp
theorem rZ {α:Type}{l:List α}{k:Nat}(h:k < l.length):jI l (k:Int)=some l[k]:=gW (List.getElem?_eq_getElem h)
theorem wF {fa fb:VF D}{vs:List Nv}{β β1 β2:Int}{i j:Int}(h:fa vs β=.ok (.int i) β1)(h':fb vs β1=.ok (.int j) β2):cc (f2 fa fb rX) vs β=.ok (decide (i < j)) β2:=cQ _ _ _ _ (aE h h' rfl)
theorem fm {neg:Bool}{fa fb:VF D}{vs:List Nv}{β β1 β2:Int}{i j:Int}(h:fa vs β=.ok (.int i) β1)(h':fb vs β1=.ok (.int j) β2):cc (f2 fa fb (c5 neg)) vs β=.ok (if neg then !decide (i=j) else decide (i=j)) β2:=by
 refine cQ _ _ _ _ (aE h h' ?_)
 cases neg <;> rfl
theorem FN (ns:List Int)(k:Nat):∃z,ba 2 2 fF [b6 ns,.int k]=.ok (.int z) false:=by
 show ∃z,fin (fF [.fz (b6 ns),.fz (.int k)] 0)=.ok (.int z) false
 unfold fF
 have e:cc (f2 (gv 1) (f1 (gv 0) cz) rX) [.da (b6 ns),.da (.int k)] 0=.ok (decide ((k:Int) < (ns.map PyData.int).length)) 0:=wF rfl rfl
 by_cases h:k < ns.length
 ·refine⟨ns[k],?_⟩
  rw[decide_eq_true (by simp;exact h)] at e
  rw[dH (d:=.int ns[k]) (b:=false) (β':=0)]
  ·rfl
  ·rw[fQ e]
   show toS (f2 (gv 0) (gv 1) cv [.da (b6 ns),.da (.int k)] 0) _=_
   rw[aE (x:=b6 ns) (y:=.int k) (d:=.int ns[k]) (β1:=0) (β2:=0) rfl rfl]
   ·rfl
   ·show jI (ns.map PyData.int) (k:Int)=_
    rw[fX,rZ h];rfl
 ·refine⟨0,?_⟩
  rw[decide_eq_false (by simp;omega)] at e
  rw[az (env':=[.fz (b6 ns),.fz (.int k)]) (β':=0)]
  ·rfl
  ·rw[gK e];rfl
noncomputable def yE:List D->FR:=ba 2 2 fF
noncomputable def AO:List D->FR:=ba 4 2 i6
abbrev xq:List Int:=[48271,69621,16807,39373,30269,40014,40692,50021,61687,71993,83869,95561,30307]
theorem HR (c k:Int):∃z,AO [.int c,.int k]=.ok (.int z) false:=by
 show ∃z,fin (i6 [.fz (.int c),.fz (.int k),.no,.no] 0)=.ok (.int z) false
 unfold i6
 rw[az (env':=[.fz (.int c),.fz (.int k),.fz (.list (xq.map PyData.int)),.no]) (β':=0) (by rfl)]
 obtain⟨j,hj⟩:∃j:Nat,k % 13=j:=⟨(k % 13).toNat,by omega⟩
 have hj13:j < xq.length:=by show j < 13;omega
 have e1:f2 (f2 (f2 (f2 (f2 (gv 0) (cst (.int 2147483647)) kL) (cst (.int 12345)) cD) (f2 (gv 2) (f2 (gv 1) (cst (.int 13)) kL) cv) dJ) (f2 (cst (.int 977)) (gv 1) dJ) cD) (f2 (cst (.int 7919)) (f2 (gv 1) (cst (.int 13)) Ac) dJ) cD [.da (.int c),.da (.int k),.da (.list (xq.map PyData.int)),.no] 0
   =.ok (.int ((c % 2147483647 + 12345) * xq[j] + 977 * k + 7919 * (k / 13))) 0:=by
  refine aE (aE (aE (aE (aE (x:=.int c) (y:=.int 2147483647) rfl rfl (mB (by omega))) rfl rfl) (aE (x:=.list (xq.map PyData.int)) rfl (aE (x:=.int k) (y:=.int 13) rfl rfl (mB (by omega))) (d:=.int xq[j]) ?_) (mH ⟨by omega,by omega⟩)) (aE (x:=.int 977) (y:=.int k) rfl rfl (mH ⟨by omega,by omega⟩)) rfl) (aE (x:=.int 7919) rfl (aE (x:=.int k) (y:=.int 13) rfl rfl (yi (by omega) (by omega))) (mH ⟨by omega,by omega⟩)) rfl
  show jI (xq.map PyData.int) (k % 13)=_
  rw[hj,fX,rZ hj13];rfl
 generalize ((c % 2147483647 + 12345) * xq[j] + 977 * k + 7919 * (k / 13))=st at e1
 rw[az (env':=[.fz (.int c),.fz (.int k),.fz (.list (xq.map PyData.int)),.fz (.int st)]) (β':=0) ?h]
 case h=>
  show toS (f2 _ _ cD [.da (.int c),.da (.int k),.da (.list (xq.map PyData.int)),.no] 0) _=_
  rw[e1];rfl
 have e2:f2 (gv 3) (cst (.int 1000000007)) kL [.da (.int c),.da (.int k),.da (.list (xq.map PyData.int)),.da (.int st)] 0=.ok (.int (st % 1000000007)) 0:=aE rfl rfl (mB (by omega))
 rw[az (env':=[.fz (.int c),.fz (.int k),.fz (.list (xq.map PyData.int)),.fz (.int (st % 1000000007))]) (β':=0) ?h2]
 case h2=>
  show toS (f2 (gv 3) (cst (.int 1000000007)) kL [.da (.int c),.da (.int k),.da (.list (xq.map PyData.int)),.da (.int st)] 0) _=_
  rw[e2];rfl
 have hb: -(2 ^ 64) < st % 1000000007/\st % 1000000007 < 2 ^ 64:=⟨by omega,by omega⟩
 generalize st % 1000000007=u at hb
 have e3:f2 (f2 (f2 (f2 (gv 3) (gv 3) dJ) (f2 (cst (.int 48271)) (gv 1) dJ) cD) (cst (.int 1000000007)) kL) (cst (.int 7)) Ac [.da (.int c),.da (.int k),.da (.list (xq.map PyData.int)),.da (.int u)] 0=.ok (.int ((u * u + 48271 * k) % 1000000007 / 7)) 0:=
  aE (aE (aE (aE (x:=.int u) (y:=.int u) rfl rfl (mH hb)) (aE (x:=.int 48271) (y:=.int k) rfl rfl (mH ⟨by omega,by omega⟩)) rfl) rfl (mB (by omega))) rfl (yi (by omega) (by omega))
 refine⟨(u * u + 48271 * k) % 1000000007 / 7,?_⟩
 show fin (toS (f2 _ (cst (.int 7)) Ac [.da (.int c),.da (.int k),.da (.list (xq.map PyData.int)),.da (.int u)] 0) _)=_
 rw[e3];rfl
noncomputable def FH:List D->FR:=ba 5 2 (iU yE AO)
theorem II (ns:List Int)(k:Nat):∃z,FH [b6 ns,.int k]=.ok (.list [.int z]) true:=by
 obtain⟨c,hc⟩:=FN ns k
 show ∃z,fin (iU yE AO [.fz (b6 ns),.fz (.int k),.no,.no,.no] 0)=.ok (.list [.int z]) true
 unfold iU
 have e0:aI yE (aa (gv 0) (aa (gv 1) ag)) [.da (b6 ns),.da (.int k),.no,.no,.no] 0=.ok (.int c) 0:=aM rfl hc
 rw[az (env':=[.fz (b6 ns),.fz (.int k),.fz (.int c),.no,.no]) (β':=0) ?h]
 case h=>
  show toS (aI yE _ [.da (b6 ns),.da (.int k),.no,.no,.no] 0) _=_
  rw[e0];rfl
 have e1:cc (f2 (f2 (gv 2) (cst (.int 2)) kL) (cst (.int 0)) (c5 false)) [.da (b6 ns),.da (.int k),.da (.int c),.no,.no] 0=.ok (decide (c % 2=0)) 0:=fm (neg:=false) (aE rfl rfl (mB (by omega))) rfl
 by_cases h:c % 2=0
 ·rw[decide_eq_true h] at e1
  refine⟨(if c < 0 then -c else c) / 2,?_⟩
  rw[dH (d:=.list [.int ((if c < 0 then -c else c) / 2)]) (b:=true) (β':=0)]
  ·rfl
  ·rw[fQ e1]
   show toS (aW (aa (f2 (f1 (gv 2) Dz) (cst (.int 2)) Ac) ag) [.da (b6 ns),.da (.int k),.da (.int c),.no,.no] 0) _=_
   rw[fx (ds:=[.int ((if c < 0 then -c else c) / 2)]) (β1:=0)]
   ·rfl
   ·have e2:f2 (f1 (gv 2) Dz) (cst (.int 2)) Ac [.da (b6 ns),.da (.int k),.da (.int c),.no,.no] 0=.ok (.int ((if c < 0 then -c else c) / 2)) 0:=aE (bM (x:=.int c) rfl rfl) rfl (yi (by omega) (by omega))
    rw[cj,e2];rfl
   ·simp
 ·rw[decide_eq_false h] at e1
  rw[az (env':=[.fz (b6 ns),.fz (.int k),.fz (.int c),.no,.no]) (β':=0) (by rw[gK e1];rfl)]
  rw[az (env':=[.fz (b6 ns),.fz (.int k),.fz (.int c),.fz (.int 0),.no]) (β':=0) (by rfl)]
  obtain⟨env',β',el,z,x,rfl,rfl⟩:=cW (t:=.nm 4) (m:=bb 3 (([] ++ []) ++ ([2] ++ ([4] ++ []))) (f2 (f2 (gv 3) (cst (.int 142857143)) dJ) (aI AO (aa (gv 2) (aa (gv 4) ag))) cD)) (ds:=b7 0 40) (k:=0)
   (fun _ env β=>∃(z:Int) (x:Sl),env= [.fz (b6 ns),.fz (.int k),.fz (.int c),.fz (.int z),x]/\β=0) (env:=[.fz (b6 ns),.fz (.int k),.fz (.int c),.fz (.int 0),.no]) (β:=0) ⟨0,.no,rfl,rfl⟩ (by
    rintro i d env β hi ⟨z,x,rfl,rfl⟩
    obtain⟨j,rfl⟩:∃j:Int,d=.int j:=by
     unfold b7 at hi
     rw[List.getElem?_map] at hi
     cases q:(List.range 40)[i]? with
     |none=>rw[q] at hi;cases hi
     |some j=>rw[q] at hi;cases hi;exact⟨_,rfl⟩
    obtain⟨y,hy⟩:=HR c j
    refine⟨_,rfl,_,_,?_,z * 142857143 + y,.fz (.int j),rfl,rfl⟩
    show toS (f2 (f2 (gv 3) (cst (.int 142857143)) dJ) (aI AO (aa (gv 2) (aa (gv 4) ag))) cD [.da (b6 ns),.da (.int k),.da (.int c),.da (.int z),.da (.int j)] 0) _=_
    rw[aE (d:=.int (z * 142857143 + y)) (aE (x:=.int z) (y:=.int 142857143) (β1:=0) (β2:=0) rfl rfl (GD ⟨by omega,by omega⟩)) (aM (ds:=[.int c,.int j]) (β1:=0) rfl hy) rfl]
    rfl)
  refine⟨z,?_⟩
  rw[az (env':=[.fz (b6 ns),.fz (.int k),.fz (.int c),.fz (.int z),x]) (β':=0) ?h2]
  case h2=>exact el
  show fin (toS (aW (aa (gv 3) ag) [.da (b6 ns),.da (.int k),.da (.int c),.da (.int z),x.val] 0) _)=_
  rw[fx (ds:=[.int z]) (β1:=0) rfl (by simp)]
  rfl
noncomputable def pL:List D->Int->FB:=me 4 1 (cZ bI)
theorem lay_ints:∀ns:List Int,PyData.canLayAll0 (ns.map PyData.int)=true
 | []=>rfl
 |n :: ns=>by
  show ((PyData.int n).canLay0 && PyData.canLayAll0 (ns.map PyData.int))=true
  rw[lay_ints ns];rfl
theorem tX:∀ns:List Int,PyData.depthAll (ns.map PyData.int)=0
 | []=>rfl
 |n :: ns=>by
  show max (PyData.int n).depth (PyData.depthAll (ns.map PyData.int))=0
  rw[tX ns];rfl
theorem shaped_ints (ns:List Int):SeqAt.shaped (.list (ns.map PyData.int))=true:=by
 unfold SeqAt.shaped
 have h1:(PyData.list (ns.map PyData.int)).canLay0=true:=by simp only[PyData.canLay0];exact lay_ints ns
 have h2:(PyData.list (ns.map PyData.int)).depth<=64:=by simp only[PyData.depth];rw[tX];omega
 rw[h1,decide_eq_true h2];rfl
theorem vA:∀l m:List Int,PyData.eqvAll (l.map PyData.int) (m.map PyData.int)=decide (l=m)
 | [],[]=>rfl
 | [],_ :: _=>rfl
 |_ :: _,[]=>rfl
 |p :: l,q :: m=>by
  show ((p == q) && PyData.eqvAll (l.map PyData.int) (m.map PyData.int))=_
  rw[vA l m,Bool.eq_iff_iff]
  simp
theorem iD (neg:Bool)(l m:List Int):c5 neg (.list (l.map PyData.int)) (.list (m.map PyData.int))=some (.bool (if neg then !decide (l=m) else decide (l=m))):=by
 unfold c5
 rw[shaped_ints,shaped_ints]
 simp only[Bool.and_self,if_true,PyData.eqv,vA]
theorem gE {α:Type}:∀{l:List α} {k:Nat} {x:α},l[k]? =some x->(x :: l.eraseIdx k).Perm l
 | [],_,_,h=>by simp at h
 |y :: l,0,x,h=>by simp at h;subst h;exact List.Perm.refl _
 |y :: l,k + 1,x,h=>by
  have h:l[k]? =some x:=by simpa using h
  have ih:=gE h
  show (x :: y :: l.eraseIdx k).Perm (y :: l)
  exact (List.Perm.swap y x _).trans (ih.cons y)
theorem qF {α β:Type}(f:α->β):∀(l:List α) (k:Nat),(l.map f).eraseIdx k=(l.eraseIdx k).map f
 | [],_=>rfl
 |_ :: _,0=>rfl
 |x :: l,k + 1=>by simp[qF f l k]
theorem EC (ns:List Int)(hz:ns.length<=100)(β:Int):∃(ms:List Int) (β':Int),pL [.list (ns.map PyData.int)] β=.ok (.list (ms.map PyData.int)) true β'/\ms.Perm ns:=by
 show ∃(ms:List Int) (β':Int),vV (cZ bI [.bx,.fz (.list (ns.map PyData.int)),.no,.no] β)=.ok (.list (ms.map PyData.int)) true β'/\ms.Perm ns
 unfold cZ
 rw[az (env':=[.bx,.fz (.list (ns.map PyData.int)),.ow (.list (ns.map PyData.int)),.no]) (β':=β) (by rfl)]
 have ez:aW ag [Nv.bx,.da (.list (ns.map PyData.int)),.da (.list (ns.map PyData.int)),.no] β=.ok (.list []) β:=fx rfl (by simp)
 rw[az (env':=[.bx,.fz (.list (ns.map PyData.int)),.ow (.list (ns.map PyData.int)),.ow (.list [])]) (β':=β) ?h]
 case h=>
  show toS (aW ag [Nv.bx,.da (.list (ns.map PyData.int)),.da (.list (ns.map PyData.int)),.no] β) _=_
  rw[ez];rfl
 obtain⟨env',β',ew,ms,rfl,hp⟩:=je (L:=[] ++ []) (t:=cc (f2 (gv 2) (aW ag) (c5 true))) (m:=jl 3 2 ([] ++ []) (jA 0 bI (aa (f1 (gv 2) cz) ag)))
  (fun k env β=>∃ls ms:List Int,env= [.bx,.fz (.list (ns.map PyData.int)),.ow (.list (ls.map PyData.int)),.ow (.list (ms.map PyData.int))]/\(ms ++ ls).Perm ns/\k=ls.length)
  (fun env β=>∃ms:List Int,env= [.bx,.fz (.list (ns.map PyData.int)),.ow (.list []),.ow (.list (ms.map PyData.int))]/\ms.Perm ns) (n:=1000) (k:=ns.length) (env:=[.bx,.fz (.list (ns.map PyData.int)),.ow (.list (ns.map PyData.int)),.ow (.list [])]) (β:=β) (by omega) ⟨ns,[],rfl,by simp,rfl⟩ (by
   rintro k env β ⟨ls,ms,rfl,hp,rfl⟩
   have e1:aW ag [Nv.bx,.da (.list (ns.map PyData.int)),.da (.list (ls.map PyData.int)),.da (.list (ms.map PyData.int))] β=.ok (.list (([]:List Int).map PyData.int)) β:=fx rfl (by simp)
   have et:cc (f2 (gv 2) (aW ag) (c5 true)) [Nv.bx,.da (.list (ns.map PyData.int)),.da (.list (ls.map PyData.int)),.da (.list (ms.map PyData.int))] β=.ok (!decide (ls= [])) β:=
    cQ _ _ _ _ (aE (x:=.list (ls.map PyData.int)) rfl e1 (by rw[iD];rfl))
   refine⟨_,_,et,?_⟩
   have hlen:=hp.length_eq
   rw[List.length_append] at hlen
   cases ls with
   |nil=>exact .inl ⟨rfl,ms,rfl,by simpa using hp⟩
   |cons y ys=>
    refine .inr ⟨rfl,?_⟩
    have hm:(0:Int) < ((y :: ys).length:Nat)/\(((y :: ys).length:Nat):Int) < 1073741824:=by
     have:(y :: ys).length<=100:=by omega
     constructor
     ·simp
     ·omega
    obtain⟨j,hj⟩:∃j:Nat,β % (((y :: ys).length:Nat):Int)=j:=⟨(β % (((y :: ys).length:Nat):Int)).toNat,by have:=Int.emod_nonneg β (b:=(((y :: ys).length:Nat):Int)) (by omega);omega⟩
    have hj2:j < (y :: ys).length:=by have:=Int.emod_lt_of_pos β hm.1;omega
    have ef:jA 0 bI (aa (f1 (gv 2) cz) ag) [Nv.bx,.da (.list (ns.map PyData.int)),.da (.list ((y :: ys).map PyData.int)),.da (.list (ms.map PyData.int))] β=.ok (.int (j:Int)) (β / (((y :: ys).length:Nat):Int)):=by
     refine di (ds:=[.int (((y :: ys).length:Nat):Int)]) (b:=false) (by rfl) ?_ (by rw[rQ hm.1 hm.2,hj])
     show R.ok [PyData.int ((((y :: ys).map PyData.int).length:Nat):Int)] β=_
     rw[List.length_map]
    have hpop:yT ((y :: ys).map PyData.int) (.int (j:Int))=some (.int (y :: ys)[j],((y :: ys).eraseIdx j).map PyData.int):=by
     unfold yT
     dsimp only
     rw[if_pos ⟨by omega,by omega⟩]
     have es:seqIndex? (j:Int) ((y :: ys).map PyData.int).length=some j:=by
      rw[List.length_map]
      exact PySem.StrLaws.seqIndex_nonneg (by omega) (by omega)
     rw[es]
     dsimp only
     rw[List.getElem?_map,List.getElem?_eq_getElem hj2,qF];rfl
    refine⟨[.bx,.fz (.list (ns.map PyData.int)),.ow (.list (((y :: ys).eraseIdx j).map PyData.int)),.ow (.list ((ms ++ [(y :: ys)[j]]).map PyData.int))],β / (((y :: ys).length:Nat):Int),((y :: ys).eraseIdx j).length,?_,?_,(y :: ys).eraseIdx j,ms ++ [(y :: ys)[j]],rfl,?_,rfl⟩
    ·show jl 3 2 ([] ++ []) (jA 0 bI (aa (f1 (gv 2) cz) ag)) [.bx,.fz (.list (ns.map PyData.int)),.ow (.list ((y :: ys).map PyData.int)),.ow (.list (ms.map PyData.int))] β=_
     rw[vR (ds:=ms.map PyData.int) (es:=(y :: ys).map PyData.int) (by rfl) (by rfl) (by decide) ef (by rfl) hpop (by rw[List.length_map];omega),List.map_append]
     rfl
    ·rw[List.length_eraseIdx]
     rw[if_pos hj2]
     show (y :: ys).length - 1 < (y :: ys).length
     simp
    ·rw[List.append_assoc]
     exact (List.Perm.append_left ms (gE (List.getElem?_eq_getElem hj2))).trans hp)
 refine⟨ms,β',?_,hp⟩
 rw[az ew]
 rfl
end RM

end

section
namespace RM
open PySem L2
theorem Jo {n:Nat}{l:List Pr}(h8:n<=8)(w:OM.Wn n l):OM.bV 8 (OM.Mem l)=OM.bV n (OM.Mem l):=by
 refine OM.gX (OM.cT _ _) (OM.cT _ _) fun x=>?_
 rw[OM.a8,OM.a8]
 constructor
 ·rintro⟨_,h⟩;exact⟨w x h,h⟩
 ·rintro⟨h1,h⟩;exact⟨⟨⟨h1.1.1,by omega⟩,h1.2.1,by omega⟩,h⟩
theorem Ea {n:Nat}{l:List Pr}(h1:1<=n)(h8:n<=8)(w:OM.Wn n l)(nd:l.Nodup)(irr:∀a,(a,a)∉l):l.length < 64:=by
 have:=OM.mi (l:=(0,0) :: l) (m:=OM.bR n) (List.nodup_cons.mpr ⟨irr 0,nd⟩) (fun x hx=>by
  rcases List.mem_cons.mp hx with e |e
  ·subst e;exact OM.bO.mpr ⟨⟨by simp,by simp;omega⟩,by simp,by simp;omega⟩
  ·exact OM.bO.mpr (w x e))
 have hg:(OM.bR n).length=n * n:=by unfold OM.bR;simp
 have hn:n * n<=64:=Nat.mul_le_mul h8 h8
 rw[hg,List.length_cons] at this
 omega
theorem Hv {n:Nat}{l:List Pr}(h8:n<=8)(w:OM.Wn n l):l.all Hz=true:=by
 rw[List.all_eq_true]
 intro p hp
 have:=w p hp
 unfold Hz
 rw[decide_eq_true this.1.1,decide_eq_true (by omega:p.1 < 8),decide_eq_true this.2.1,decide_eq_true (by omega:p.2 < 8)];rfl
theorem m6 {n:Nat}{l:List Pr}{d:D}(h8:n<=8)(w:OM.Wn n l)(hl:(OM.bV n (OM.Mem l)).length < 64)(hd:jD d=some (l.map aJ)):cn d=some (.list ((OM.bV n (OM.Mem l)).map aJ)):=by
 unfold cn
 rw[hd]
 simp only[gF]
 rw[Jo h8 w,if_pos ⟨Hv h8 w,hl⟩]
def vC (l:List Pr)(p:Pr):List Pr:=(l.filter fun q=>decide (q.1=p.2)).map fun q=>(p.1,q.2)
theorem yh (l:List Pr)(p:Pr):(vC l p).length<=l.length:=by unfold vC;rw[List.length_map];exact List.length_filter_le ..
theorem ui (l m:List Pr):(m.flatMap (vC l)).length<=m.length * l.length:=by
 induction m with
 |nil=>simp
 |cons p m ih=>
  rw[List.flatMap_cons,List.length_append,List.length_cons,Nat.succ_mul]
  have:=yh l p
  omega
theorem nV {a b:List D}(h:a.length + b.length<=10000):iO (.list a) (.list b)=some (.list (a ++ b)):=if_pos (by rw[sizeLine_eq];omega)
noncomputable def iK:List D->FR:=ba 6 1 eZ
theorem zN {n:Nat}{ps:List Pr}(h1:1<=n)(h8:n<=8)(w:OM.Wn n ps)(irr:∀a,¬OM.Tr (OM.Mem ps) a a):iK [.list (ps.map aJ)]=.ok (.tuple ((OM.bV n (OM.Tr (OM.Mem ps))).map aJ)) false:=by
 have blen:∀{l:List Pr},OM.Ff n ps l->l.length < 64:=fun {l} B=>Ea h1 h8 B.wn (OM.gu B.ris) fun a ha=>irr a (B.sup _ ha)
 show fin (eZ [.fz (.list (ps.map aJ)),.no,.no,.no,.no,.no] 0)=_
 unfold eZ
 have B0:=OM.zH (ps:=ps) w
 have e0:f1 (gv 0) cn [.da (.list (ps.map aJ)),.no,.no,.no,.no,.no] 0=.ok (.list ((OM.bV n (OM.Mem ps)).map aJ)) 0:=bM rfl (m6 h8 w (blen B0) rfl)
 rw[az (env':=[.fz (.list (ps.map aJ)),.fz (.list ((OM.bV n (OM.Mem ps)).map aJ)),.no,.no,.no,.no]) (β':=0) ?h0]
 case h0=>
  show toS (f1 (gv 0) cn [.da (.list (ps.map aJ)),.no,.no,.no,.no,.no] 0) _=_
  rw[e0];rfl
 rw[az (env':=[.fz (.list (ps.map aJ)),.fz (.list ((OM.bV n (OM.Mem ps)).map aJ)),.fz (.int (-1)),.no,.no,.no]) (β':=0) (by rfl)]
 obtain⟨env',β',ew,rfl,x,sz,a,b,rfl⟩:=je (L:=[] ++ []) (t:=cc (f2 (gv 2) (f1 (gv 1) cz) (c5 true)))
  (m:=aA (bb 2 [] (f1 (gv 1) cz)) (aA (bb 3 [] (aW ag)) (aA (cm (.two 4 5) [1] (bF (gv 1)) (bb 3 ([] ++ ([] ++ [4])) (f2 (gv 3) (aN 2 [5,4] (.two 0 1) (bF (gv 1)) (cc (f2 (gv 0) (gv 2) (c5 false))) (bG (aa (gv 3) (aa (gv 1) ag)))) iO))) (bb 1 ([] ++ []) (f1 (f2 (gv 1) (gv 3) iO) cn)))))
  (fun k env β=>β=0/\∃(l:List Pr) (sz:Int) (x a b:Sl),env= [.fz (.list (ps.map aJ)),.fz (.list (l.map aJ)),.fz (.int sz),x,a,b]/\OM.Ff n ps l/\(sz= -1\/∃lp,OM.Ff n ps lp/\l=OM.j5 n lp/\sz=lp.length)/\k=2 * (64 - l.length) + (if sz=l.length then 0 else 1))
  (fun env β=>β=0/\∃(x sz a b:Sl),env= [.fz (.list (ps.map aJ)),.fz (.list ((OM.bV n (OM.Tr (OM.Mem ps))).map aJ)),sz,x,a,b])
  (n:=1000) (k:=2 * (64 - (OM.bV n (OM.Mem ps)).length) + (if (-1:Int)=(OM.bV n (OM.Mem ps)).length then 0 else 1)) (env:=[.fz (.list (ps.map aJ)),.fz (.list ((OM.bV n (OM.Mem ps)).map aJ)),.fz (.int (-1)),.no,.no,.no]) (β:=0)
  (by split <;> omega) ⟨rfl,_,_,_,_,_,rfl,B0,.inl rfl,rfl⟩ (by
   rintro k env β ⟨rfl,l,sz,x,a,b,rfl,B,hsz,rfl⟩
   have hl:=blen B
   have et:cc (f2 (gv 2) (f1 (gv 1) cz) (c5 true)) [.da (.list (ps.map aJ)),.da (.list (l.map aJ)),.da (.int sz),x.val,a.val,b.val] 0=.ok (!decide (sz=((l.map aJ).length:Nat))) 0:=fm (neg:=true) rfl rfl
   rw[List.length_map] at et
   refine⟨_,_,et,?_⟩
   by_cases c:sz=(l.length:Nat)
   ·refine .inl ⟨by rw[decide_eq_true c];rfl,rfl,x,.fz (.int sz),a,b,?_⟩
    rcases hsz with h | ⟨lp,Bp,rfl,h⟩
    ·omega
    ·show [Sl.fz (.list (ps.map aJ)),.fz (.list ((OM.j5 n lp).map aJ)),.fz (.int sz),x,a,b]=_
     rw[OM.Bm Bp (by omega)]
   ·refine .inr ⟨by rw[decide_eq_false c];rfl,?_⟩
    obtain⟨B2,hs⟩:=OM.uA B
    have hl2:=blen B2
    have hge:l.length<=(OM.j5 n l).length:=OM.mi (OM.gu B.ris) hs
    have eturn:∃x' a' b':Sl,aA (bb 2 [] (f1 (gv 1) cz)) (aA (bb 3 [] (aW ag)) (aA (cm (.two 4 5) [1] (bF (gv 1)) (bb 3 ([] ++ ([] ++ [4])) (f2 (gv 3) (aN 2 [5,4] (.two 0 1) (bF (gv 1)) (cc (f2 (gv 0) (gv 2) (c5 false))) (bG (aa (gv 3) (aa (gv 1) ag)))) iO))) (bb 1 ([] ++ []) (f1 (f2 (gv 1) (gv 3) iO) cn)))) [.fz (.list (ps.map aJ)),.fz (.list (l.map aJ)),.fz (.int sz),x,a,b] 0
      =.nx [.fz (.list (ps.map aJ)),.fz (.list ((OM.j5 n l).map aJ)),.fz (.int (l.length:Nat)),x',a',b'] 0:=by
     rw[az (env':=[.fz (.list (ps.map aJ)),.fz (.list (l.map aJ)),.fz (.int (l.length:Nat)),x,a,b]) (β':=0) ?g1]
     case g1=>
      show SO.nx [.fz (.list (ps.map aJ)),.fz (.list (l.map aJ)),.fz (.int ((l.map aJ).length:Nat)),x,a,b] 0=_
      rw[List.length_map]
     have e3:aW ag [.da (.list (ps.map aJ)),.da (.list (l.map aJ)),.da (.int (l.length:Nat)),x.val,a.val,b.val] 0=.ok (.list []) 0:=fx rfl (by simp)
     rw[az (env':=[.fz (.list (ps.map aJ)),.fz (.list (l.map aJ)),.fz (.int (l.length:Nat)),.fz (.list []),a,b]) (β':=0) ?g2]
     case g2=>
      show toS (aW ag [.da (.list (ps.map aJ)),.da (.list (l.map aJ)),.da (.int (l.length:Nat)),x.val,a.val,b.val] 0) _=_
      rw[e3];rfl
     obtain⟨env2,β2,ef,rfl,a2,b2,rfl⟩:=cW (t:=.two 4 5) (m:=bb 3 ([] ++ ([] ++ [4])) (f2 (gv 3) (aN 2 [5,4] (.two 0 1) (bF (gv 1)) (cc (f2 (gv 0) (gv 2) (c5 false))) (bG (aa (gv 3) (aa (gv 1) ag)))) iO)) (ds:=l.map aJ) (k:=0)
      (fun i env β=>β=0/\∃a b:Sl,env= [.fz (.list (ps.map aJ)),.fz (.list (l.map aJ)),.fz (.int (l.length:Nat)),.fz (.list (((l.take i).flatMap (vC l)).map aJ)),a,b]) (env:=[.fz (.list (ps.map aJ)),.fz (.list (l.map aJ)),.fz (.int (l.length:Nat)),.fz (.list []),a,b]) (β:=0) ⟨rfl,a,b,rfl⟩ (by
       rintro i d env β hi ⟨rfl,a,b,rfl⟩
       rw[List.getElem?_map] at hi
       cases q:l[i]? with
       |none=>rw[q] at hi;cases hi
       |some p=>
        rw[q] at hi
        cases hi
        have hil:i < l.length:=(List.getElem?_eq_some_iff.mp q).1
        refine⟨[.fz (.list (ps.map aJ)),.fz (.list (l.map aJ)),.fz (.int (l.length:Nat)),.fz (.list (((l.take (0 + i)).flatMap (vC l)).map aJ)),.fz (.int p.1),.fz (.int p.2)],rfl,[.fz (.list (ps.map aJ)),.fz (.list (l.map aJ)),.fz (.int (l.length:Nat)),.fz (.list (((l.take (0 + i + 1)).flatMap (vC l)).map aJ)),.fz (.int p.1),.fz (.int p.2)],0,?_,rfl,_,_,rfl⟩
        have ec:aN 2 [5,4] (.two 0 1) (bF (gv 1)) (cc (f2 (gv 0) (gv 2) (c5 false))) (bG (aa (gv 3) (aa (gv 1) ag))) [.da (.list (ps.map aJ)),.da (.list (l.map aJ)),.da (.int (l.length:Nat)),.da (.list (((l.take (0 + i)).flatMap (vC l)).map aJ)),.da (.int p.1),.da (.int p.2)] 0=.ok (.list ((vC l p).map aJ)) 0:=by
         rw[eQ (l:=l) (e:=aJ) (fun q=>decide (q.1=p.2)) (fun q=>aJ (p.1,q.2)) rfl (by omega) (β1:=0)]
         ·unfold vC;rw[List.map_map];rfl
         ·intro q hq
          refine⟨_,rfl,fm (neg:=false) (i:=q.1) (j:=p.2) rfl rfl,fun _=>?_⟩
          exact km (ds:=[.int p.1,.int q.2]) rfl (by simp)
        have hk:(l.take (0 + i)).length<=63:=by rw[List.length_take];omega
        have hfl:=ui l (l.take (0 + i))
        have hfl2:(l.take (0 + i)).length * l.length<=63 * 63:=Nat.mul_le_mul hk (by omega)
        have hm1:=yh l p
        have e5:f2 (gv 3) (aN 2 [5,4] (.two 0 1) (bF (gv 1)) (cc (f2 (gv 0) (gv 2) (c5 false))) (bG (aa (gv 3) (aa (gv 1) ag)))) iO [.da (.list (ps.map aJ)),.da (.list (l.map aJ)),.da (.int (l.length:Nat)),.da (.list (((l.take (0 + i)).flatMap (vC l)).map aJ)),.da (.int p.1),.da (.int p.2)] 0=.ok (.list (((l.take (0 + i + 1)).flatMap (vC l)).map aJ)) 0:=by
         refine aE rfl ec ?_
         rw[nV (by rw[List.length_map,List.length_map];omega),<-List.map_append]
         have:l.take (0 + i + 1)=l.take (0 + i) ++ [p]:=by rw[Nat.zero_add,List.take_add_one,q];rfl
         rw[this,List.flatMap_append,List.flatMap_cons,List.flatMap_nil,List.append_nil]
        show toS (f2 (gv 3) (aN 2 [5,4] (.two 0 1) (bF (gv 1)) (cc (f2 (gv 0) (gv 2) (c5 false))) (bG (aa (gv 3) (aa (gv 1) ag)))) iO [.da (.list (ps.map aJ)),.da (.list (l.map aJ)),.da (.int (l.length:Nat)),.da (.list (((l.take (0 + i)).flatMap (vC l)).map aJ)),.da (.int p.1),.da (.int p.2)] 0) _=_
        rw[e5];rfl)
     rw[Nat.zero_add,List.length_map,List.take_of_length_le (Nat.le_refl _)] at ef
     rw[az (env':=[.fz (.list (ps.map aJ)),.fz (.list (l.map aJ)),.fz (.int (l.length:Nat)),.fz (.list ((l.flatMap (vC l)).map aJ)),a2,b2]) (β':=0) ?g3]
     case g3=>exact ef
     have hfl:=ui l l
     have hfl2:l.length * l.length<=63 * 63:=Nat.mul_le_mul (by omega) (by omega)
     have e6:f1 (f2 (gv 1) (gv 3) iO) cn [.da (.list (ps.map aJ)),.da (.list (l.map aJ)),.da (.int (l.length:Nat)),.da (.list ((l.flatMap (vC l)).map aJ)),a2.val,b2.val] 0=.ok (.list ((OM.j5 n l).map aJ)) 0:=by
      refine bM (x:=.list ((l ++ OM.more l).map aJ)) (aE rfl rfl ?_) (m6 h8 (OM.Cj B) hl2 rfl)
      rw[nV (by rw[List.length_map,List.length_map];omega),<-List.map_append];rfl
     refine⟨.fz (.list ((l.flatMap (vC l)).map aJ)),a2,b2,?_⟩
     show toS (f1 (f2 (gv 1) (gv 3) iO) cn [.da (.list (ps.map aJ)),.da (.list (l.map aJ)),.da (.int (l.length:Nat)),.da (.list ((l.flatMap (vC l)).map aJ)),a2.val,b2.val] 0) _=_
     rw[e6];rfl
    obtain⟨x',a',b',et2⟩:=eturn
    refine⟨_,_,_,et2,?_,rfl,_,_,_,_,_,rfl,B2,.inr ⟨l,B,rfl,rfl⟩,rfl⟩
    rw[if_neg c]
    split <;> omega)
 rw[az ew]
 rfl
end RM

end

section
namespace RM
open PySem L2
def vg (ms:List Int)(ps:List Pr):Prop:=∀p,p∈ps->∃i j:Nat,i < j/\ms[i]? =some p.1/\ms[j]? =some p.2
theorem oj {α:Type}:∀{l:List α} {i j:Nat} {x:α},l.Nodup->l[i]? =some x->l[j]? =some x->i=j
 | [],_,_,_,_,h,_=>by simp at h
 |y :: l,0,0,_,_,_,_=>rfl
 |y :: l,0,j + 1,x,nd,h1,h2=>by
  simp at h1
  subst h1
  exact absurd (List.mem_of_getElem? (by simpa using h2)) (List.nodup_cons.mp nd).1
 |y :: l,i + 1,0,x,nd,h1,h2=>by
  simp at h2
  subst h2
  exact absurd (List.mem_of_getElem? (by simpa using h1)) (List.nodup_cons.mp nd).1
 |y :: l,i + 1,j + 1,x,nd,h1,h2=>by
  rw[oj (l:=l) (i:=i) (j:=j) (List.nodup_cons.mp nd).2 (by simpa using h1) (by simpa using h2)]
theorem Aw {ms:List Int}{ps:List Pr}(nd:ms.Nodup)(h:vg ms ps){a b:Int}(t:OM.Tr (OM.Mem ps) a b):∃i j:Nat,i < j/\ms[i]? =some a/\ms[j]? =some b:=by
 refine t.least (S:=fun a b=>∃i j:Nat,i < j/\ms[i]? =some a/\ms[j]? =some b) (fun a b r=>h _ r) ?_
 rintro a b c ⟨i,j,hij,h1,h2⟩ ⟨k,l,hkl,h3,h4⟩
 have:=oj nd h2 h3
 exact⟨i,l,by omega,h1,h4⟩
theorem z6 {ms:List Int}{ps:List Pr}(nd:ms.Nodup)(h:vg ms ps)(a:Int):¬OM.Tr (OM.Mem ps) a a:=fun t=>by
 obtain⟨i,j,hij,h1,h2⟩:=Aw nd h t
 have:=oj nd h1 h2
 omega
def cA (n:Nat):List Int:=(List.range n).map fun (k:Nat)=>(k:Int)
theorem cw (n:Nat):(cA n).length=n:=by unfold cA;simp
theorem a9 {n:Nat}{x:Int}:x∈cA n↔0<=x/\x < n:=by
 unfold cA
 rw[List.mem_map]
 constructor
 ·rintro⟨k,hk,rfl⟩
  have:=List.mem_range.mp hk
  omega
 ·intro h
  exact⟨x.toNat,List.mem_range.mpr (by omega),by omega⟩
theorem iF (n:Nat):(cA n).Nodup:=by
 unfold cA
 rw[List.nodup_iff_pairwise_ne,List.pairwise_map]
 exact (List.nodup_iff_pairwise_ne.mp List.nodup_range).imp fun {a b} h e=>h (by omega)
theorem qH (n:Nat):b7 0 n=(cA n).map PyData.int:=by
 unfold b7 cA
 rw[List.map_map]
 refine List.map_congr_left fun k _=>?_
 show PyData.int (0 + (k:Int))=_
 rw[Int.zero_add];rfl
theorem dI {lo:Int}{n i:Nat}{d:D}(h:(b7 lo n)[i]? =some d):i < n/\d=.int (lo + i):=by
 unfold b7 at h
 rw[List.getElem?_map] at h
 cases q:(List.range n)[i]? with
 |none=>rw[q] at h;cases h
 |some j=>
  rw[q] at h
  cases h
  obtain⟨hi,ej⟩:=List.getElem?_eq_some_iff.mp q
  rw[List.length_range] at hi
  rw[List.getElem_range] at ej
  subst ej
  exact⟨hi,rfl⟩
theorem mX {n:Nat}(h:n<=1000):fD (.int n)=some (.list ((cA n).map PyData.int)):=by
 unfold fD
 dsimp only
 rw[if_pos ⟨by omega,by omega⟩,Int.toNat_natCast,qH]
theorem cV {fa:VF D}{vs:List Nv}{β β1:Int}{n:Nat}(h:fa vs β=.ok (.int n) β1)(hn:n<=1000):dz fa vs β=.ok (b7 0 n) β1:=by
 unfold dz
 rw[h]
 simp only[lj]
 rw[if_pos (mC (by omega) (by omega)),Int.toNat_natCast]
theorem B4 {fa fb:VF D}{vs:List Nv}{β β1 β2:Int}{i j:Int}(h:fa vs β=.ok (.int i) β1)(h':fb vs β1=.ok (.int j) β2)(hi:0<=i/\i<=1000)(hj:0<=j/\j<=1000):qQ fa fb vs β=.ok (b7 i (j - i).toNat) β2:=by
 unfold qQ
 rw[h]
 simp only[lj]
 rw[h']
 simp only[lj]
 rw[if_pos (by rw[mC (by omega) (by omega),mC (by omega) (by omega)];rfl)]
theorem dO {t:Tg}{L:List Nat}{fi:VF (List D)}{m:SF}{env:En}{β β1:Int}{ds:List D}(h:fi (vl env) β=.ok ds β1):cm t L fi m env β=lg t m ds (a7 L env) β1:=by unfold cm;rw[h];rfl
noncomputable def rJ:List D->Int->FB:=me 8 1 (gc iK bI pL)
theorem zT {n:Nat}{ms:List Int}{ps:List Pr}(h1:1<=n)(h8:n<=8)(hp:ms.Perm (cA n))(ha:vg ms ps):OM.Wn n ps/\(∀a,¬OM.Tr (OM.Mem ps) a a)/\OM.Ord n (OM.bV n (OM.Tr (OM.Mem ps))):=by
 have nd:ms.Nodup:=hp.nodup_iff.mpr (iF n)
 have w:OM.Wn n ps:=fun p hm=>by
  obtain⟨i,j,_,e1,e2⟩:=ha p hm
  have m1:=a9.mp (hp.mem_iff.mp (List.mem_of_getElem? e1))
  have m2:=a9.mp (hp.mem_iff.mp (List.mem_of_getElem? e2))
  exact⟨m1,m2⟩
 have ir:=fun a=>z6 nd ha a
 exact⟨w,ir,OM.Fw h1 h8 w ir⟩
theorem dU {m:Nat}(h:1<=m)(h2:m<=1000)(β:Int):∃j:Nat,j < m/\bI [.int m] β=.ok (.int (j:Int)) false (β / m):=by
 refine⟨(β % m).toNat,?_,?_⟩
 ·have h0:=Int.emod_nonneg β (b:=(m:Int)) (by omega)
  have h3:=Int.emod_lt_of_pos β (b:=(m:Int)) (by omega)
  omega
 ·rw[rQ (by omega) (by omega)]
  have h0:=Int.emod_nonneg β (b:=(m:Int)) (by omega)
  rw[show ((β % m).toNat:Int)=β % m by omega]
theorem A2 {most:Nat}(hm1:1<=most)(hm8:most<=8)(β:Int):∃(n:Nat) (l:List Pr) (β':Int),rJ [.int most] β=.ok (aB n l) false β'/\OM.Ord n l/\n<=most:=by
 obtain⟨j,hj,ej⟩:=dU hm1 (by omega) β
 show ∃(n:Nat) (l:List Pr) (β':Int),vV (gc iK bI pL [.bx,.fz (.int most),.no,.no,.no,.no,.no,.no] β)=.ok (aB n l) false β'/\OM.Ord n l/\n<=most
 unfold gc
 generalize hβ1:β / (most:Int)=β1 at ej
 have n8:1 + j<=8:=by omega
 have e1:f2 (cst (.int 1)) (jA 0 bI (aa (gv 1) ag)) cD [Nv.bx,.da (.int most),.no,.no,.no,.no,.no,.no] β=.ok (.int ((1 + j:Nat):Int)) β1:=by
  refine aE (x:=.int 1) rfl (di (by rfl) rfl ej) ?_
  show some (PyData.int (1 + (j:Int)))=_
  rw[show ((1 + j:Nat):Int)=1 + (j:Int) by omega]
 rw[az (env':=[.bx,.fz (.int most),.fz (.int ((1 + j:Nat):Int)),.no,.no,.no,.no,.no]) (β':=β1) ?g1]
 case g1=>
  show toS (f2 (cst (.int 1)) (jA 0 bI (aa (gv 1) ag)) cD [Nv.bx,.da (.int most),.no,.no,.no,.no,.no,.no] β) _=_
  rw[e1];rfl
 generalize hn:1 + j=n at n8
 have n1:1<=n:=by omega
 obtain⟨ms,β2,em,hp⟩:=EC (cA n) (by rw[cw];omega) β1
 have hml:ms.length=n:=by rw[hp.length_eq,cw]
 have e2:jA 0 pL (aa (f1 (gv 2) fD) ag) [Nv.bx,.da (.int most),.da (.int n),.no,.no,.no,.no,.no] β1=.ok (.list (ms.map PyData.int)) β2:=by
  refine di (ds:=[.list ((cA n).map PyData.int)]) (b:=true) (β1:=β1) (by rfl) ?_ em
  rw[cj,bM (x:=.int n) (d:=.list ((cA n).map PyData.int)) (β1:=β1) rfl (mX (by omega))];rfl
 rw[az (env':=[.bx,.fz (.int most),.fz (.int n),.fz (.list (ms.map PyData.int)),.no,.no,.no,.no]) (β':=β2) ?g2]
 case g2=>
  show toS (jA 0 pL (aa (f1 (gv 2) fD) ag) [Nv.bx,.da (.int most),.da (.int n),.no,.no,.no,.no,.no] β1) _=_
  rw[e2];rfl
 obtain⟨q,hq,eq⟩:=dU (m:=4) (by omega) (by omega) β2
 obtain⟨th,hth,hthv⟩:∃th:Nat,([2,3,4,7]:List Nat)[q]? =some th/\1<=th/\th<=7:=by
  rcases (show q=0\/q=1\/q=2\/q=3 by omega) with rfl |rfl |rfl |rfl
  ·exact⟨2,rfl,by omega,by omega⟩
  ·exact⟨3,rfl,by omega,by omega⟩
  ·exact⟨4,rfl,by omega,by omega⟩
  ·exact⟨7,rfl,by omega,by omega⟩
 generalize hβ3:β2 / ((4:Nat):Int)=β3 at eq
 have e3:f2 (aW (aa (cst (.int 2)) (aa (cst (.int 3)) (aa (cst (.int 4)) (aa (cst (.int 7)) ag))))) (jA 0 bI (aa (cst (.int 4)) ag)) cv [Nv.bx,.da (.int most),.da (.int n),.da (.list (ms.map PyData.int)),.no,.no,.no,.no] β2=.ok (.int th) β3:=by
  refine aE (x:=.list (([2,3,4,7]:List Nat).map fun (k:Nat)=>PyData.int (k:Int))) (y:=.int q) (fx rfl (by simp)) (di (ds:=[.int 4]) (by rfl) rfl eq) ?_
  show jI (([2,3,4,7]:List Nat).map fun (k:Nat)=>PyData.int (k:Int)) (q:Int)=_
  rw[fX,gW hth];rfl
 rw[az (env':=[.bx,.fz (.int most),.fz (.int n),.fz (.list (ms.map PyData.int)),.fz (.int th),.no,.no,.no]) (β':=β3) ?g3]
 case g3=>
  show toS (f2 (aW (aa (cst (.int 2)) (aa (cst (.int 3)) (aa (cst (.int 4)) (aa (cst (.int 7)) ag))))) (jA 0 bI (aa (cst (.int 4)) ag)) cv [Nv.bx,.da (.int most),.da (.int n),.da (.list (ms.map PyData.int)),.no,.no,.no,.no] β2) _=_
  rw[e3];rfl
 have e4:aW ag [Nv.bx,.da (.int most),.da (.int n),.da (.list (ms.map PyData.int)),.da (.int th),.no,.no,.no] β3=.ok (.list []) β3:=fx rfl (by simp)
 rw[az (env':=[.bx,.fz (.int most),.fz (.int n),.fz (.list (ms.map PyData.int)),.fz (.int th),.ow (.list []),.no,.no]) (β':=β3) ?g4]
 case g4=>
  show toS (aW ag [Nv.bx,.da (.int most),.da (.int n),.da (.list (ms.map PyData.int)),.da (.int th),.no,.no,.no] β3) _=_
  rw[e4];rfl
 obtain⟨env',β',ef,ps,a,b,rfl,hal,hpl⟩:=cW (t:=.nm 6) (m:=cm (.nm 7) (([] ++ []) ++ []) (qQ (f2 (gv 6) (cst (.int 1)) cD) (gv 2))
   (jH (([4] ++ []) ++ []) (cc (f2 (jA 0 bI (aa (gv 4) ag)) (cst (.int 0)) (c5 false)))
   (kx 5 (([] ++ []) ++ (([] ++ []) ++ [])) (bG (aa (f2 (gv 3) (gv 6) cv) (aa (f2 (gv 3) (gv 7) cv) ag)))) lq)) (ds:=b7 0 n) (k:=0)
  (fun i env β=>∃(ps:List Pr) (a b:Sl),env= [.bx,.fz (.int most),.fz (.int n),.fz (.list (ms.map PyData.int)),.fz (.int th),.ow (.list (ps.map aJ)),a,b]/\vg ms ps/\ps.length<=8 * i)
  (env:=[.bx,.fz (.int most),.fz (.int n),.fz (.list (ms.map PyData.int)),.fz (.int th),.ow (.list []),.no,.no]) (β:=β3) ⟨[],.no,.no,rfl,fun p hp=>(by cases hp),by simp⟩ (by
   rintro i d env β hi ⟨ps,a,b,rfl,hal,hpl⟩
   obtain⟨hin,rfl⟩:=dI hi
   refine⟨[.bx,.fz (.int most),.fz (.int n),.fz (.list (ms.map PyData.int)),.fz (.int th),.ow (.list (ps.map aJ)),.fz (.int (0 + (i:Int))),b],rfl,?_⟩
   have er:qQ (f2 (gv 6) (cst (.int 1)) cD) (gv 2) [Nv.bx,.da (.int most),.da (.int n),.da (.list (ms.map PyData.int)),.da (.int th),.da (.list (ps.map aJ)),.da (.int (0 + (i:Int))),b.val] β=.ok (b7 (0 + (i:Int) + 1) ((n:Int) - (0 + (i:Int) + 1)).toNat) β:=B4 rfl rfl ⟨by omega,by omega⟩ ⟨by omega,by omega⟩
   rw[dO (env:=[.bx,.fz (.int most),.fz (.int n),.fz (.list (ms.map PyData.int)),.fz (.int th),.ow (.list (ps.map aJ)),.fz (.int (0 + (i:Int))),b]) er]
   obtain⟨env',β',ef,qs,b,rfl,hal2,hql⟩:=cW (t:=.nm 7) (m:=jH (([4] ++ []) ++ []) (cc (f2 (jA 0 bI (aa (gv 4) ag)) (cst (.int 0)) (c5 false)))
     (kx 5 (([] ++ []) ++ (([] ++ []) ++ [])) (bG (aa (f2 (gv 3) (gv 6) cv) (aa (f2 (gv 3) (gv 7) cv) ag)))) lq) (ds:=b7 (0 + (i:Int) + 1) ((n:Int) - (0 + (i:Int) + 1)).toNat) (k:=0)
    (fun k env β=>∃(qs:List Pr) (b:Sl),env= [.bx,.fz (.int most),.fz (.int n),.fz (.list (ms.map PyData.int)),.fz (.int th),.ow (.list (qs.map aJ)),.fz (.int (0 + (i:Int))),b]/\vg ms qs/\qs.length<=8 * i + k)
    (env:=[.bx,.fz (.int most),.fz (.int n),.fz (.list (ms.map PyData.int)),.fz (.int th),.ow (.list (ps.map aJ)),.fz (.int (0 + (i:Int))),b]) (β:=β) ⟨ps,b,rfl,hal,by omega⟩ (by
     rintro k d env β hk ⟨qs,b,rfl,hal,hql⟩
     obtain⟨hkn,rfl⟩:=dI hk
     have hkn:i + 1 + k < n:=by omega
     refine⟨[.bx,.fz (.int most),.fz (.int n),.fz (.list (ms.map PyData.int)),.fz (.int th),.ow (.list (qs.map aJ)),.fz (.int (0 + (i:Int))),.fz (.int (0 + (i:Int) + 1 + (k:Int)))],rfl,?_⟩
     obtain⟨z,hz,ez⟩:=dU hthv.1 (by omega) β
     have et:cc (f2 (jA 0 bI (aa (gv 4) ag)) (cst (.int 0)) (c5 false)) [Nv.bx,.da (.int most),.da (.int n),.da (.list (ms.map PyData.int)),.da (.int th),.da (.list (qs.map aJ)),.da (.int (0 + (i:Int))),.da (.int (0 + (i:Int) + 1 + (k:Int)))] β=.ok (decide ((z:Int)=0)) (β / th):=fm (neg:=false) (di (ds:=[.int th]) (by rfl) rfl ez) rfl
     by_cases c:(z:Int)=0
     ·rw[decide_eq_true c] at et
      have h1:i < ms.length:=by omega
      have h2:i + 1 + k < ms.length:=by omega
      refine⟨[.bx,.fz (.int most),.fz (.int n),.fz (.list (ms.map PyData.int)),.fz (.int th),.ow (.list ((qs ++ [(ms[i],ms[i + 1 + k])]).map aJ)),.fz (.int (0 + (i:Int))),.fz (.int (0 + (i:Int) + 1 + (k:Int)))],β / th,?_,qs ++ [(ms[i],ms[i + 1 + k])],_,rfl,?_,?_⟩
      ·rw[fQ et]
       have ep:bG (aa (f2 (gv 3) (gv 6) cv) (aa (f2 (gv 3) (gv 7) cv) ag)) [Nv.bx,.da (.int most),.da (.int n),.da (.list (ms.map PyData.int)),.da (.int th),.da (.list (qs.map aJ)),.da (.int (0 + (i:Int))),.da (.int (0 + (i:Int) + 1 + (k:Int)))] (β / th)=.ok (aJ (ms[i],ms[i + 1 + k])) (β / th):=by
        refine km (ds:=[.int ms[i],.int ms[i + 1 + k]]) ?_ (by simp)
        have a1:f2 (gv 3) (gv 6) cv [Nv.bx,.da (.int most),.da (.int n),.da (.list (ms.map PyData.int)),.da (.int th),.da (.list (qs.map aJ)),.da (.int (0 + (i:Int))),.da (.int (0 + (i:Int) + 1 + (k:Int)))] (β / th)=.ok (.int ms[i]) (β / th):=by
         refine aE rfl rfl ?_
         show jI (ms.map PyData.int) (0 + (i:Int))=_
         rw[Int.zero_add,fX,rZ h1];rfl
        have a2:f2 (gv 3) (gv 7) cv [Nv.bx,.da (.int most),.da (.int n),.da (.list (ms.map PyData.int)),.da (.int th),.da (.list (qs.map aJ)),.da (.int (0 + (i:Int))),.da (.int (0 + (i:Int) + 1 + (k:Int)))] (β / th)=.ok (.int ms[i + 1 + k]) (β / th):=by
         refine aE rfl rfl ?_
         show jI (ms.map PyData.int) (0 + (i:Int) + 1 + (k:Int))=_
         rw[show (0 + (i:Int) + 1 + (k:Int))=((i + 1 + k:Nat):Int) by omega,fX,rZ h2];rfl
        rw[cj,a1]
        dsimp only[R.bnd]
        rw[cj,a2];rfl
       have:=nJ (i:=5) (L:=([] ++ []) ++ (([] ++ []) ++ [])) (env:=[.bx,.fz (.int most),.fz (.int n),.fz (.list (ms.map PyData.int)),.fz (.int th),.ow (.list (qs.map aJ)),.fz (.int (0 + (i:Int))),.fz (.int (0 + (i:Int) + 1 + (k:Int)))]) (ds:=qs.map aJ) (by rfl) ep (by rfl) (by rw[List.length_map];omega)
       rw[List.map_append]
       exact this
      ·intro p hp
       rcases List.mem_append.mp hp with hp |hp
       ·exact hal p hp
       ·have:p=(ms[i],ms[i + 1 + k]):=by simpa using hp
        subst this
        exact⟨i,i + 1 + k,by omega,List.getElem?_eq_getElem h1,List.getElem?_eq_getElem h2⟩
      ·rw[List.length_append];simp;omega
     ·rw[decide_eq_false c] at et
      refine⟨_,_,by rw[gK et];rfl,qs,_,rfl,hal,by omega⟩)
   have hlen:(b7 (0 + (i:Int) + 1) ((n:Int) - (0 + (i:Int) + 1)).toNat).length<=7:=by rw[cH];omega
   exact⟨_,_,ef,qs,_,b,rfl,hal2,by omega⟩)
 rw[az (env':=[.bx,.fz (.int most),.fz (.int n),.fz (.list (ms.map PyData.int)),.fz (.int th),.ow (.list (ps.map aJ)),a,b]) (β':=β') ?g5]
 case g5=>
  rw[dO (env:=[.bx,.fz (.int most),.fz (.int n),.fz (.list (ms.map PyData.int)),.fz (.int th),.ow (.list []),.no,.no]) (cV (n:=n) rfl (by omega))]
  exact ef
 obtain⟨w,ir,O⟩:=zT n1 n8 hp hal
 refine⟨n,OM.bV n (OM.Tr (OM.Mem ps)),β',?_,O,by omega⟩
 have e9:bG (aa (gv 2) (aa (aI iK (aa (gv 5) ag)) ag)) [Nv.bx,.da (.int most),.da (.int n),.da (.list (ms.map PyData.int)),.da (.int th),.da (.list (ps.map aJ)),a.val,b.val] β'=.ok (aB n (OM.bV n (OM.Tr (OM.Mem ps)))) β':=by
  refine km (ds:=[.int n,.tuple ((OM.bV n (OM.Tr (OM.Mem ps))).map aJ)]) ?_ (by simp)
  have a1:aI iK (aa (gv 5) ag) [Nv.bx,.da (.int most),.da (.int n),.da (.list (ms.map PyData.int)),.da (.int th),.da (.list (ps.map aJ)),a.val,b.val] β'=.ok (.tuple ((OM.bV n (OM.Tr (OM.Mem ps))).map aJ)) β':=aM rfl (zN n1 n8 w ir)
  rw[cj]
  show (R.ok (PyData.int n) β').bnd _=_
  dsimp only[R.bnd]
  rw[cj,a1];rfl
 show vV (toS (bG (aa (gv 2) (aa (aI iK (aa (gv 5) ag)) ag)) [Nv.bx,.da (.int most),.da (.int n),.da (.list (ms.map PyData.int)),.da (.int th),.da (.list (ps.map aJ)),a.val,b.val] β') _)=_
 rw[e9];rfl
end RM

end

section
namespace RM
open PySem L2
theorem C2 (neg:Bool)(i j:Int):c5 neg (.int i) (.int j)=some (.bool (if neg then !decide (i=j) else decide (i=j))):=rfl
theorem pA {fa fb:VF D}{vs:List Nv}{β:Int}{a b:Int}(h:fa vs β=.ok (.int a) β)(h':fb vs β=.ok (.int b) β):bG (aa fa (aa fb ag)) vs β=.ok (aJ (a,b)) β:=by
 refine km (ds:=[.int a,.int b]) ?_ (by simp)
 rw[cj,h]
 dsimp only[R.bnd]
 rw[cj,h'];rfl
theorem KR {n:Nat}{l:List Pr}{fa:VF D}{vs:List Nv}{β:Int}(h:fa vs β=.ok (aB n l) β):f2 fa (cst (.int 1)) cv vs β=.ok (.tuple (l.map aJ)) β:=aE h rfl rfl
theorem CM {n:Nat}{l:List Pr}{fa:VF D}{vs:List Nv}{β:Int}(h:fa vs β=.ok (aB n l) β):f2 fa (cst (.int 0)) cv vs β=.ok (.int n) β:=aE h rfl rfl
def tx:List D->FR:=ba 1 1 gk
theorem Dd {n:Nat}(h1:1<=n)(h8:n<=8):tx [.int n]=.ok (.list ((OM.bR n).map aJ)) true:=by
 have hm:n * n<=64:=Nat.mul_le_mul h8 h8
 have e:aN 1 [0] (.nm 0) (dz (f2 (gv 0) (gv 0) dJ)) lN (bG (aa (f2 (gv 0) (gv 1) Ac) (aa (f2 (gv 0) (gv 1) kL) ag))) [.da (.int n)] 0=.ok (.list ((OM.bR n).map aJ)) 0:=by
  have hi:dz (f2 (gv 0) (gv 0) dJ) [.da (.int n)] 0=.ok ((List.range (n * n)).map fun (k:Nat)=>PyData.int (0 + (k:Int))) 0:=by
   refine cV (n:=n * n) (aE (x:=.int n) (y:=.int n) rfl rfl ?_) (by omega)
   rw[mH ⟨by omega,by omega⟩];rfl
  rw[eJ (l:=List.range (n * n)) (e:=fun (k:Nat)=>PyData.int (0 + (k:Int))) (fun k=>aJ (((k / n:Nat):Int),((k % n:Nat):Int))) hi (by rw[List.length_range];omega) fun k hk=>⟨_,rfl,?_⟩]
  ·unfold OM.bR;rw[List.map_map];rfl
  ·refine pA (aE (x:=.int (0 + (k:Int))) (y:=.int n) rfl rfl ?_) (aE (x:=.int (0 + (k:Int))) (y:=.int n) rfl rfl ?_)
   ·rw[yi (by omega) (by omega),Int.zero_add];rfl
   ·rw[mB (by omega),Int.zero_add];rfl
 show fin (gk [.fz (.int n)] 0)=_
 unfold gk
 rw[Bj,show vl [Sl.fz (.int n)]= [.da (.int n)] from rfl,e];rfl
theorem fI (n:Nat):(OM.bR n).length=n * n:=by unfold OM.bR;simp
theorem jC {fa:VF D}{vs:List Nv}{β:Int}{c:Bool}(h:fa vs β=.ok (.bool c) β):nr fa vs β=.ok c β:=by rw[sE,h];rfl
end RM

end

section
namespace RM
open PySem L2
theorem BZ {c:Nat}:∀(ts:List Str) (k:Nat) (acc:Str),(∀t∈ts,t.length + 2<=c)->(textFrom k acc ts).length<=acc.length + c * ts.length
 | [],k,acc,_=>by show acc.length<=_;omega
 |t :: r,k,acc,h=>by
  have ih:=BZ r (k + 1) (acc ++ (if k > 0 then ", " else "":String) ++ t) fun u hu=>h u (List.mem_cons_of_mem _ hu)
  have e:(acc ++ (if k > 0 then ", " else "":String) ++ t).length=acc.length + (if k > 0 then 2 else 0) + t.length:=by
   rw[strLen_append,strLen_append]
   split <;> rfl
  rw[e] at ih
  have ht:=h t (List.mem_cons_self ..)
  show (textFrom (k + 1) _ r).length<=_
  have e2:c * (t :: r).length=c * r.length + c:=by rw[List.length_cons,Nat.mul_succ]
  rw[e2]
  have:(if k > 0 then 2 else 0:Nat)<=2:=by split <;> omega
  omega
end RM

end

section
namespace L2
open PySem PySem.Spec PyProof.Rows
section
variable {X:Cx}{pins:List (Addr×Obj)}{σ:St}{H:Hp}{s:Shared}
theorem Inv.turnedL {t':Nat}{ch:List Addr}{h':Heap}(I:Inv X pins σ H s)(k:∀b o,b∉ch->s.heap.get? b=some o->h'.get? b=some o)(hf:∀b∈ch,ny X pins H b):Inv X pins σ H {s with heap:=h',toks:=t'}:=by
 have nit:∀b u,H b=some u->b∉ch:=fun b u e z=>by rw[(hf b z).1] at e;cases e
 have nL:X.env.locals∉ch:=fun z=>(hf _ z).2.1 rfl
 refine I.step (g':=s.gens) (d':=s.drawn) (ch:=ch) (fun b hb=>?_) (fun b o _ _ hc e _=>k b o hc e) (fun b o _ _ hc e _=>⟨o.slots,k b o hc e⟩) (fun _ _ _ _ n=>n)
  (fun b o hc e=>⟨o,k b o hc e⟩) (fun _ _ e=>e) (fun _ _ _ e=>e) (fun b ps e=>⟨#[],by rw[e];simp⟩) (fun m hm=>?_) (fun b u e=>?_) I.bare
 ·obtain⟨f0,f1,f2,f3,f4,f5⟩:=hf b hb
  exact⟨f3,f1,f4,f5⟩
 ·obtain⟨o,es,ep,ho,r⟩:=hm
  exact⟨o,es,ep,k _ o nL ho,r⟩
 ·refine (I.hok b u e).stay (fun c v hc q=>k c v ?_ q) (fun _ q=>q) fun _ _ q=>q
  rcases hc with z |z
  ·rw[z];exact nit b u e
  ·exact nit c _ z
end
theorem Kg {n:Nat}(i j:Nat)(h:(i == j)=false):(n + i:Nat)≠n + j:=by
 have:i≠j:=by simpa using h
 omega
end L2

end

section

end

section
namespace L2
open PySem PySem.Spec PyProof.Rows
section
variable {κ:Type}[DecidableEq κ]
def Es (kvs:List (κ×V))(k:κ):Option V:=(kvs.find? fun kv=>decide (kv.1=k)).map (·.2)
def putK (kvs:List (κ×V))(k:κ)(v:V):List (κ×V):=
 if (kvs.any fun kv=>decide (kv.1=k))=true then kvs.map (fun kv=>if kv.1=k then (kv.1,v) else kv) else kvs ++ [(k,v)]
theorem tK (kvs:List (κ×V))(k:κ)(v:V):(putK kvs k v).length<=kvs.length + 1:=by
 unfold putK
 split
 ·rw[List.length_map];omega
 ·rw[List.length_append,List.length_cons,List.length_nil];omega
theorem KV.any {kvs:List (κ×V)}{vs:List (κ×Value)}(r:KV kvs vs)(k:κ):(kvs.any fun kv=>decide (kv.1=k))=vs.any fun kv=>decide (kv.1=k):=by
 unfold KV at r
 induction r with
 |nil=>rfl
 |cons h t ih=>rw[List.any_cons,List.any_cons,ih,h.1]
theorem KV.repl {kvs:List (κ×V)}{vs:List (κ×Value)}(r:KV kvs vs)(k:κ){y:V}{u:Value}(ry:RelV y u) :
  KV (kvs.map fun kv=>if kv.1=k then (kv.1,y) else kv) (vs.map fun kv=>if kv.1=k then (kv.1,u) else kv):=by
 unfold KV at r ⊢
 induction r with
 |nil=>exact .nil
 | @cons p q ps qs h t ih=>
  rw[List.map_cons,List.map_cons]
  refine .cons ?_ ih
  obtain⟨h1,h2⟩:=h
  by_cases e:p.1=k
  ·rw[if_pos e,if_pos (h1.symm.trans e)];exact⟨h1,ry⟩
  ·rw[if_neg e,if_neg (fun z=>e (h1.trans z))];exact⟨h1,h2⟩
theorem KV.put {kvs:List (κ×V)}{vs:List (κ×Value)}(r:KV kvs vs)(k:κ){y:V}{u:Value}(ry:RelV y u):KV (putK kvs k y) (stored vs k u):=by
 unfold putK stored
 rw[r.any k]
 by_cases e:(vs.any fun kv=>decide (kv.1=k))=true
 ·rw[if_pos e,if_pos e];exact r.repl k ry
 ·rw[if_neg e,if_neg e];exact Paired.snoc r ⟨rfl,ry⟩
end
theorem Js {P:Program}{w:World}{k:Key}{u:Value}(r:RelV (kV k) u):(c4 P w).is k u=true:=by
 cases k with
 |inl i=>obtain⟨t,e⟩:=(show ∃t,u=Value.int i t from r);subst e;exact tW P w i t
 |inr x=>obtain⟨t,e⟩:=(show ∃t,u=Value.str x t from r);subst e;exact tO P w x t
section
variable {P:Program}{w:World}{H:Hp}{h:Heap}{a:Addr}
theorem Ij {u:HO}(ok:kf P w H h)(e:Rd H a u):bw P w H h a u:=e.ok ok
theorem Iv {kvs:List (Key×V)}(ok:kf P w H h)(e:Rd H a (.dK kvs)):kvs.length<=sizeLine/\(a == sysModules)=false/\∃vs,KV kvs vs/\h.DictOf (c4 P w) a vs:=
 show bw P w H h a (.dK kvs) from Ij ok e
theorem EV {kvs:List (Key×V)}(ok:kf P w H h)(e:H a=some (.dK kvs)):kvs.length<=sizeLine/\(a == sysModules)=false/\∃vs,KV kvs vs/\h.DictOf (c4 P w) a vs:=Iv ok (.inl e)
end
def DM (H:Hp)(a:Addr)(y:V)(r:Option V):Prop:=
 (∃kvs k,Rd H a (.dK kvs)/\y=kV k/\r=Es kvs k)\/∃kvs k b,Rd H a (.dT kvs)/\y=.ref b/\H b=some (.tup (k.map kV))/\r=Es kvs k
def D5 (H:Hp)(a:Addr)(y v:V)(H':Hp):Prop:=
 (∃kvs k,H a=some (.dK kvs)/\y=kV k/\kvs.length < sizeLine/\H'=upd H a (.dK (putK kvs k v)))\/
 ∃kvs k b,H a=some (.dT kvs)/\y=.ref b/\H b=some (.tup (k.map kV))/\kvs.length < sizeLine/\H'=upd H a (.dT (putK kvs k v))
theorem DM.k {H:Hp}{a:Addr}{kvs:List (Key×V)}{k:Key}(e:H a=some (.dK kvs)):DM H a (kV k) (Es kvs k):=.inl ⟨kvs,k,.inl e,rfl,rfl⟩
theorem DM.t {H:Hp}{a b:Addr}{kvs:List (List Key×V)}{k:List Key}(e:H a=some (.dT kvs))(eb:H b=some (.tup (k.map kV))):DM H a (.ref b) (Es kvs k):=.inr ⟨kvs,k,b,.inl e,rfl,eb,rfl⟩
theorem D5.k {H:Hp}{a:Addr}{kvs:List (Key×V)}{k:Key}{v:V}(e:H a=some (.dK kvs))(hl:kvs.length < sizeLine):D5 H a (kV k) v (upd H a (.dK (putK kvs k v))):=.inl ⟨kvs,k,e,rfl,hl,rfl⟩
theorem D5.t {H:Hp}{a b:Addr}{kvs:List (List Key×V)}{k:List Key}{v:V}(e:H a=some (.dT kvs))(eb:H b=some (.tup (k.map kV)))(hl:kvs.length < sizeLine) :
  D5 H a (.ref b) v (upd H a (.dT (putK kvs k v))):=.inr ⟨kvs,k,b,e,rfl,eb,hl,rfl⟩
section
variable {X:Cx}{pins:List (Addr×Obj)}{σ:St}{H:Hp}{s:Shared}{a:Addr}{y v:V}{u r:Value}{o:Option V}{A:Around}{E:Value->Shared->Prop}
theorem Inv.big (I:Inv X pins σ H s):sysModules < s.heap.objs.size:=by
 have h:mainGlobals < s.heap.objs.size:=(I.mod.glob.keeps I.bk).lt
 exact Nat.lt_trans (by decide) h
theorem C3 {h':Heap}{t':Nat}{ob:HO}(I:Inv X pins σ H s)(mu:IH (H a))(hs:Heap.SameBut a s.heap h')(he:∃q,h'.get? a=some q)(new:bw X.prog X.w (upd H a ob) h' a ob) :
  Inv X pins σ (upd H a ob) {s with heap:=h',toks:=t'}:=
 I.write (x:=a) (e:=a) mu (.inl rfl) (fun b q hb z=>(hs.2 b hb).trans z) he new
theorem He {P:Program}{w:World}{H':Hp}{h':Heap}{kvs:List (Key×V)}{vs:List (Key×Value)}(z:kvs.length<=sizeLine)(hd:(a == sysModules)=false)(rel:KV kvs vs)(dd:h'.DictOf (c4 P w) a vs) :
  bw P w H' h' a (.dK kvs):=⟨z,hd,vs,rel,dd⟩
end
theorem Ce {P:Program}{w:World}{H:Hp}(h:Heap)(hb:sysModules < h.objs.size):bw P w H (h.push {cls:=.type "dict",data:=.dict #[]}) h.objs.size (.dK []):=
 ⟨Nat.zero_le _,beq_eq_false_iff_ne.mpr (Ne.symm (Nat.ne_of_lt hb)),[],.nil,Heap.DictOf.new h⟩
def xg:List (TE×TE)->St->Hp->(List (V×V)->Hp->Prop)->Prop
 | [],_,H,Q=>Q [] H
 | (tk,tv) :: r,σ,H,Q=>tk σ H fun x H1=>tv σ H1 fun y H2=>xg r σ H2 fun ps H3=>Q ((x,y) :: ps) H3
abbrev VV:List (V×V)->List (Value×Value)->Prop:=Paired fun p q=>RelV p.1 q.1/\RelV p.2 q.2
def Jw (X:Cx)(pos:Pos)(keys:List (Option Expr))(values:List Expr)(trs:List (TE×TE)):Prop:=
 ∀(pins:List (Addr×Obj)) (s:Shared) (σ:St) (H:Hp) (Q:List (V×V)->Hp->Prop),Inv X pins σ H s->xg trs σ H Q->
  wpAny (model X.prog X.w) X.A (evalPairs (pairTrees keys values X.env pos)) (fun vs s'=>∃ps H',Inv X pins σ H' s'/\VV ps vs/\Q ps H') X.xe s
theorem EI {X:Cx}{pos:Pos}:Jw X pos [] [] []:=fun pins s σ H Q I h=>pairTrees_nil_walk ⟨[],H,I,.nil,h⟩
theorem AN {X:Cx}{pos:Pos}{k v:Expr}{ks:List (Option Expr)}{vs:List Expr}{tk tv:TE}{trs:List (TE×TE)}(hk:PE X k tk)(hv:PE X v tv)(hr:Jw X pos ks vs trs) :
  Jw X pos (some k :: ks) (v :: vs) ((tk,tv) :: trs):=fun pins s σ H Q I h=>
 pairTrees_cons_walk (bW (hk pins s σ H _ I h) fun u s1 ⟨x,H1,I1,rx,q1⟩=>bW (hv pins s1 σ H1 _ I1 q1) fun w2 s2 ⟨y,H2,I2,ry,q2⟩=>
  bW (hr pins s2 σ H2 _ I2 q2) fun ws s3 ⟨ps,H3,I3,rel,q3⟩=>⟨(x,y) :: ps,H3,I3,.cons ⟨rx,ry⟩ rel,q3⟩)
def oH (kvs more:List (Key×V)):List (Key×V):=more.foldl (fun acc kv=>putK acc kv.1 kv.2) kvs
theorem KV.merge:∀{more:List (Key×V)} {rs:List (Key×Value)} {kvs:List (Key×V)} {vs:List (Key×Value)},KV more rs->KV kvs vs->KV (oH kvs more) (merged vs rs):=by
 intro more rs kvs vs r
 unfold KV at r
 induction r generalizing kvs vs with
 |nil=>intro q;exact q
 | @cons p q ps qs h t ih=>
  intro r0
  have e:KV (putK kvs p.1 p.2) (stored vs q.1 q.2):=by
   have:=r0.put p.1 h.2
   rw[<-h.1];exact this
  exact ih e
theorem kF:∀(more kvs:List (Key×V)),(oH kvs more).length<=kvs.length + more.length
 | [],kvs=>by show kvs.length<=kvs.length + 0;omega
 |p :: r,kvs=>by
  have h1:=kF r (putK kvs p.1 p.2)
  have h2:=tK kvs p.1 p.2
  show (oH (putK kvs p.1 p.2) r).length<=_
  rw[List.length_cons];omega
theorem oO {P:Program}{w:World}:∀{kvs:List (Key×V)} {ws:List (Value×Value)},VV (kvs.map fun kv=>(kV kv.1,kv.2)) ws->∃rs,Carries (c4 P w) ws rs/\KV kvs rs
 | [],_,r=>by rw[List.map_nil] at r;cases r;exact⟨[],True.intro,.nil⟩
 |p :: kvs,_,r=>by
  rw[List.map_cons] at r
  cases r with
  | @cons a b as bs h t=>
   obtain⟨rs,c,q⟩:=oO (P:=P) (w:=w) t
   obtain⟨b1,b2⟩:=b
   exact⟨(p.1,b2) :: rs,⟨Js h.1,rfl,c⟩,.cons ⟨rfl,h.2⟩ q⟩
def IU (trs:List (TE×TE)):TE:=fun σ H Q=>∀p,H p=none->xg trs σ (upd H p (.dK [])) fun ps H2=>H2 p=some (.dK [])/\∃kvs:List (Key×V),ps=kvs.map (fun kv=>(kV kv.1,kv.2))/\kvs.length<=15/\Q (.ref p) (upd H2 p (.dK (oH [] kvs)))
theorem CS {X:Cx}{pos:Pos}{keys:List (Option Expr)}{values:List Expr}{trs:List (TE×TE)}(h:Jw X pos keys values trs)(hall:keys.all (·.isSome)=true)(hl:keys.length=values.length)(h0:keys≠ [])
  (h15:keys.length<=15):PE X (.Dict keys values pos) (IU trs):=by
 intro pins s σ H Q I q
 have hn:=I.hok.fresh (Nat.le_refl s.heap.objs.size)
 have I1:=I.laid (a:=s.heap.objs.size) (o:=.dK []) (h':=s.heap.push {cls:=.type "dict",data:=.dict #[]}) (t':=s.toks) (fun _ _ q=>Heap.get?_push_of_some _ q) (Nat.le_refl _) (Ce s.heap I.big)
 refine wpAny_Dict_walk (knd:=c4 X.prog X.w) hall hl h0 h15 (bW (h pins _ σ _ _ I1 (q _ hn)) fun ws s2 ⟨ps,H2,I2,rel,e,kvs,ep,lk,q2⟩=>?_)
 subst ep
 obtain⟨rs,c,rk⟩:=oO (P:=X.prog) (w:=X.w) rel
 obtain⟨z,hd,vs0,r0,dd⟩:=EV I2.hok e
 cases r0
 refine⟨rs,c,dd,fun h' dd' hs=>⟨.ref s.heap.objs.size,_,?_,rfl,q2⟩⟩
 have hz:(oH [] kvs).length<=sizeLine:=by
  have h1:=kF kvs []
  rw[List.length_nil] at h1
  rw[sizeLine_eq];omega
 have he:∃q,h'.get? s.heap.objs.size=some q:=let ⟨q,_,_,hq,_⟩:=dd';⟨q,hq⟩
 exact C3 I2 (by rw[e];exact True.intro) hs he (He hz hd (rk.merge .nil) dd')
end L2

end

section
namespace L2
open PySem PySem.Spec PyProof.Rows
section
variable {X:Cx}{Γ:Fx}{E:XK}{pos:Pos}
theorem C4 {k:Str}{i:Int}{j j'}{p p':Pos}:SE X Γ E (.Dict [some (.Constant (.str k) j p)] [.Constant (.int i) j' p'] pos) (cst (.dict [(.str k,.int i)])) [] .v:=by
 refine PE.post' (CS (AN As mO EI) rfl rfl (by simp) (by simp)) ?_
 rintro σ H Q ⟨env,G,B,β,I,o⟩ p hp
 have o:∀v G' H',SR Γ B G' H' σ (a7 [] env) β->ao G G'->hV B H H'->Rp Γ.K G' v (.dict [(.str k,.int i)])->Q v H':=o
 refine⟨aq,[(.inr k,.int i)],rfl,by simp,?_⟩
 rw[DW]
 have xn:=Ext.new I.sub (o:=.dK [((.inr k:Key),V.int i)]) hp
 exact o _ _ _ (I.ext xn) xn.gg (xn.hh.mov B) (.dK (kvs:=[((.inr k:Key),V.int i)]) aq (.cons (.int i) .nil))
end
mutual
def xF:D->Bool
 | .list ds=>wD ds
 | .tuple ds=>wD ds
 | .dict kvs=> !kvs.isEmpty && kvs.all fun kv=>match kv.1,kv.2 with
  | .str _,.int _=>true
  |_,_=>false
 |_=>true
def wD:List D->Bool
 | []=>true
 |d :: ds=>xF d && wD ds
end
section
variable {X:Cx}{pins:List (Addr×Obj)}{σ:St}{H:Hp}{s:Shared}
theorem uG {P:Program}{w:World}{K:PySem.W.Frag}{h:Heap}:∀{kvs:List (Key×V)} {ds:List (D×D)} {vs:List (Key×Value)} {es:List DictEntry},zR K H kvs ds->KV kvs vs->Pairs (c4 P w) es vs->
  (ds.all fun kv=>match kv.1,kv.2 with
   | .str _,.int _=>true
   |_,_=>false)=true->ReadsAll h (es.map (·.key)) (ds.map (·.1)) []/\ReadsAll h (es.map (·.val)) (ds.map (·.2)) []
 | [],_,_,_,.nil,kv,ps,_=>by
  cases kv
  cases ps
  exact⟨.nil,.nil⟩
 | (k,x) :: kvs,_,_,_,.cons r rk,kv,ps,hd=>by
  cases kv with
  |cons h1 h2=>
   cases ps with
   |cons q1 q2 q3=>
    rw[List.all_cons,Bool.and_eq_true] at hd
    obtain⟨i1,i2⟩:=uG (P:=P) (w:=w) (h:=h) rk h2 q3 hd.2
    obtain⟨hd1,_⟩:=hd
    obtain⟨e1,rv⟩:=h1
    cases k with
    |inl i=>cases hd1
    |inr y=>
     rw[<-e1] at q1
     have q1:oq (Sum.inr y) _=true:=q1
     rcases bC q1 with⟨i,t,e,_⟩ | ⟨z,t,e,ek⟩
     ·cases e
     ·cases e
      cases r with
      |int i=>
       obtain⟨t',ev⟩:=rv
       refine⟨?_,?_⟩
       ·show ReadsAll h (_ :: _) (PyData.str y :: _) ([] ++ [])
        dsimp only
        rw[ek]
        exact .cons (.str y t) i1
       ·show ReadsAll h (_ :: _) (PyData.int i :: _) ([] ++ [])
        dsimp only
        rw[q2,ev]
        exact .cons (.int i t') i2
      |_=>cases hd1
theorem Inv.notSys (I:Inv X pins σ H s){a:Addr}{u:HO}(h:Rd H a u):a≠sysModules:=fun e=>by
 obtain⟨mm,o,es,ep,ho,_⟩:=I.mod.sys
 have:=(I.bs _ o ho).2
 rw[<-e] at this
 rcases h with h | ⟨_,h⟩ <;> (rw[h] at this;cases this)
mutual
theorem Rp.readsL (I:Inv X pins σ H s):∀{x:V} {d:D} {u:Value},Rp X.K H x d->RelV x u->xF d=true->∃as,Reads s.heap u d as/\sysModules∉as
 |_,_,_,.non,r,_=>by cases r;exact⟨_,.none,by simp⟩
 |_,_,_,.bl b,r,_=>by cases r;exact⟨_,.bool b,by simp⟩
 |_,_,_,.int i,r,_=>by obtain⟨t,rfl⟩:=r;exact⟨_,.int i t,by simp⟩
 |_,_,_,.str x,r,_=>by obtain⟨t,rfl⟩:=r;exact⟨_,.str x t,by simp⟩
 |_,_,_,.tup h hs,r,n=>by
  cases r
  obtain⟨its,rv,⟨o,ho,hc,k,hd⟩,_⟩:=I.tuple h
  obtain⟨as,q,m⟩:=bE.readsL I hs rv n
  exact⟨_,.tuple ho hc hd (by simpa using q),m⟩
 |_,_,_,.lst (a:=a) h hs,r,n=>by
  cases r
  obtain⟨_,its,k,rv,_,ho⟩:=I.lstR (.inl h)
  obtain⟨as,q,m⟩:=bE.readsL I hs rv n
  refine⟨_,.list ho rfl rfl (by simpa using q),fun z=>?_⟩
  rcases List.mem_cons.mp z with e |z
  ·exact I.notSys (.inl h) e.symm
  ·exact m z
 |_,_,_,.scr h,r,n=>by cases n
 |_,_,_,.dK (a:=a) h hs,r,n=>by
  cases r
  obtain⟨_,hsy,vs,kv,o,es,ep,ho,hex,hdt,_,hp,_⟩:=EV I.hok h
  obtain⟨q1,q2⟩:=uG (h:=s.heap) hs kv hp (by
   have n:(!_ && _)=true:=n
   rw[Bool.and_eq_true] at n
   exact n.2)
  refine⟨_,.dict ho hex.1 hdt q1 q2,?_⟩
  have:a≠sysModules:=fun z=>by rw[z] at hsy;simp at hsy
  simp only[List.append_nil,List.mem_singleton]
  exact fun z=>this z.symm
 |_,_,_,.dT h hs,r,n=>by
  cases hs with
  |nil=>cases n
  |cons _ _=>
   simp[xF] at n
theorem bE.readsL (I:Inv X pins σ H s):∀{xs:List V} {ds:List D} {us:List Value},bE X.K H xs ds->Vals xs us->wD ds=true->∃as,ReadsAll s.heap us ds as/\sysModules∉as
 |_,_,_,.nil,r,_=>by cases r;exact⟨_,.nil,by simp⟩
 |_,_,_,.cons h hs,r,n=>by
  have n:(xF _ && wD _)=true:=n
  rw[Bool.and_eq_true] at n
  cases r with
  |cons r1 r2=>
   obtain⟨as,q,m⟩:=Rp.readsL I h r1 n.1
   obtain⟨bs,q',m'⟩:=bE.readsL I hs r2 n.2
   exact⟨_,.cons q q',fun z=>(List.mem_append.mp z).elim m m'⟩
end
end
def CB (d:D):Bool:=d.showable && decide (d.depth<=64) && decide (d.shown.length<=sizeLine) && ((Af d && !d.hasDict) || xF d)
def oM (d:D):Option D:=if CB d=true then some (.str d.shown) else none
def Cd (K:PySem.W.Frag):List V->Hp->VK->Prop:=fun xs H Q=>∃x d,xs= [x]/\Rp K H x d/\CB d=true/\Q (.str d.shown) H
section
variable {X:Cx}
theorem oK (hg:X.A.guards=some [])(hu:X.A.units + 100 < cLine):b8 X (.builtin "repr") (Cd X.K):=by
 intro pins s σ H xs us Q I r h
 obtain⟨x,d,rfl,hd,ok,q⟩:=h
 obtain⟨u,rfl,rx⟩:=vals1 r
 unfold CB at ok
 simp only[Bool.and_eq_true,Bool.or_eq_true,decide_eq_true_eq] at ok
 obtain⟨⟨⟨h1,h2⟩,h3⟩,h4⟩:=ok
 have key:∀{a:Addr},u=.ref a->wpAny (model X.prog X.w) X.A (call (.builtin "repr") [u]) (EP X pins σ Q) X.xe s:=fun {a} e=>by
  subst e
  rcases h4 with h4 |h4
  ·obtain⟨as,rd⟩:=(hd.rep h4.1).reads I rx
   exact repr_of_reads' rd h1 (PyData.noDict_hsm (by simpa using h4.2)) hg (by omega) (fun b o e=>e) (fun h' u tk k=>⟨.str _,H,I.kept (t':=tk) k,⟨u,rfl⟩,q⟩) h3
  ·obtain⟨as,rd,m⟩:=hd.readsL I rx h4
   exact repr_of_reads' rd h1 (fun _=>m) hg (by omega) (fun b o e=>e) (fun h' u tk k=>⟨.str _,H,I.kept (t':=tk) k,⟨u,rfl⟩,q⟩) h3
 cases hd with
 |non=>cases rx;exact P.repr_of_none ⟨.str _,H,I.tok _,⟨_,rfl⟩,q⟩
 |bl b=>cases rx;exact P.repr_of_bool ⟨.str _,H,I.tok _,⟨_,rfl⟩,q⟩
 |int i=>obtain⟨t,rfl⟩:=rx;exact P.repr_of_int (by simpa[PyData.showable] using h1) ⟨.str _,H,I.tok _,⟨_,rfl⟩,q⟩
 |str y=>obtain⟨t,rfl⟩:=rx;exact P.repr_of_str ⟨.str _,H,I.tok _,⟨_,rfl⟩,q⟩ h3
 |tup _ _=>cases rx;exact key rfl
 |lst _ _=>cases rx;exact key rfl
 |scr _=>cases rx;exact key rfl
 |dK _ _=>cases rx;exact key rfl
 |dT _ _=>cases rx;exact key rfl
end
theorem xW {K:PySem.W.Frag}:Ad K (fun x=>Cd K [x]) oM .v:=by
 intro B G H x dx d Q s hB bx e k
 unfold oM at e
 split at e
 ·rename_i hh
  cases e
  exact⟨x,dx,rfl,bx.rpH s,hh,k _ G H (Ext.refl s) (.str _)⟩
 ·cases e
end L2

end

section
namespace L2
open PySem PySem.Spec PyProof.Rows
section
variable {prog:Program}{w:World}{A:Around}{E:Value->Shared->Prop}{s:Shared}{it t:Addr}{i:Nat}{xs:Array Value}{Q:Value->Shared->Prop}
theorem JT (hi:s.heap.IsTupleIter it t i)(ht:s.heap.IsTuple t xs)
  (k1:∀x,xs[i]? =some x->∀h',h'.IsTupleIter it t (i + 1)->Heap.SameBut it s.heap h'->Q x {s with heap:=h'})
  (k2:xs[i]? =none->A.handled=none/\∀h' e,Heap.ExtBut it s.heap h'->(∃o,h'.get? e=some o/\o.cls=.type "StopIteration")->E (.ref e) {s with heap:=h'}) :
  wpAny (model prog w) A (Builtin.SmallTypes.nextOf (.ref it)) Q E s:=by
 obtain⟨o,ho,hc,hd⟩:=id hi
 obtain⟨ol,hol, -,nl,hdl⟩:=ht
 refine wpAny_bind (wpAny_callSpecial?_slot (name:=Str.ofString "__next__") hi.typeIs F.slot_tuple_iterator_next (wpAny_call_entry F.slot_tuple_iterator_next hi.typeIs F.entry_tuple_iterator_next ?_ (F.args_tuple_iterator_next_1 _)))
 refine (show wpAny _ _ (field (.ref it) 0 >>= _) _ _ s from wpAny_bind (wpAny_field ho hd (x:=.ref t) rfl ?_))
 refine (show wpAny _ _ (if (Value.ref t == Value.none)=true then _ else _) _ _ s from ?_)
 rw[if_neg (by exact Bool.false_ne_true)]
 refine (show wpAny _ _ (field (.ref it) 1 >>= _) _ _ s from wpAny_bind (wpAny_field ho hd (x:=.int i 0) rfl ?_))
 refine (show wpAny _ _ (seqItems? (.ref t) >>= _) _ _ s from wpAny_bind (wpAny_seqItems hol hdl ?_))
 cases hx:xs[i]? with
 |some x=>
  simp only[Int.toNat_natCast,hx]
  refine wpAny_bind (wpAny_setField ho hd (by simp) (wpAny_pure ⟨x,rfl,wpAny_pure (k1 x hx _ ?_ (Heap.SameBut.update ..))⟩))
  refine⟨_,Heap.get?_update_self _ ho (Obj.isFreed_of_fields (Obj.data_mapFields hd _)),(Obj.cls_mapFields ..).trans hc,?_⟩
  rw[Obj.data_mapFields hd]
  simp[rawInt]
 |none=>
  obtain⟨hh,hE⟩:=k2 hx
  simp only[Int.toNat_natCast,hx]
  refine wpAny_bind (wpAny_rule (wpAny_bind (wpAny_setField ho hd (by simp) (show wpAny _ _ (newExc (.type "StopIteration") [] >>= _) _ _ _ from wpAny_bind ?_))))
  simp only[newExc,newTuple]
  refine wpAny_bind (wpAny_newObj_type (wpAny_bind (m:=firstArgMember _ _) (wpAny_of_eq (a:=Value.none) (by first |rfl | (simp only[firstArgMember];rfl)) (wpAny_newObj_type ?_ (by size_fits)))) (by size_fits))
  simp only[raiseNew]
  refine wpAny_bind (wpAny_handled ?_)
  have hh':A.in1.handled=none:=hh
  first |rw[hh'] |rw[hh]
  exact wpAny_bind (wpAny_pure (wpAny_throw (hE _ _ (((Heap.SameBut.update ..).extBut.push _).push _) ⟨_,Heap.get?_push_size _ rfl,rfl⟩)))
theorem Ga (hh:A.handled=none)(hne:t≠it)(xs:Array Value):Draws prog w A it [it,t] xs.size (fun i v=>xs[i]? =some v) (fun i h=>h.IsTupleIter it t i/\h.IsTuple t xs) where
 live:=fun _ _ st=>let ⟨o,ho,_⟩:=st.1;⟨o,ho⟩
 frame:=fun _ _ _ st hk=>⟨st.1.at fun o e=>hk it (by simp) o e,st.2.at fun o e=>hk t (by simp) o e⟩
 item:=fun i s Q E hi st k=>JT st.1 st.2 (fun x hx h' q1 q2=>k x h' s.toks hx ⟨q1,st.2.extBut q2.extBut hne⟩ q2) fun z=>by simp at z;omega
 done:=fun s Q E st k=>JT st.1 st.2 (fun x hx=>by simp at hx) fun _=>⟨hh,k⟩
end
abbrev Hb (t:Addr):Obj:={cls:=.type "tuple_iterator",data:=.fields #[.ref t,.int 0 0]}
abbrev JA (it:Addr):Obj:={cls:=.type "enumerate",data:=.fields #[.none,.bool false,.ref it,rawInt 0,.none,.none]}
theorem AE (t:Addr)(xs:Array Value)(n:Nat)(dc:Option Addr)(sl:Array (Option Value)) :
  Meets (Builtin.«enumerate.__new__» ⟨[.type "enumerate",.ref t],[]⟩) (fun _ R s=>s.heap.get? t=some ⟨.type "tuple",dc,.seq xs n,sl⟩/\
   R (.ok (.ret (.ref (s.heap.push (Hb t)).objs.size))) {s with heap:=(s.heap.push (Hb t)).push (JA s.heap.objs.size)}):=by
 refine .of_wp fun prog w A R s h=>?_
 obtain⟨hp,g,d,tk,os⟩:=s
 obtain⟨hl,h⟩:=h
 have sb:=sub_enumerate
 have hT:Heap.IsTuple (Shared.heap ⟨hp,g,d,tk,os⟩) t xs:=⟨_,hl,rfl,n,rfl⟩
 wp_walk using AutoSeq1.wpAny_loadPart' hl
 refine wpAny_stack_any fun st=>wpAny_pure ?_
 split
 ·rename_i c _ _ _ _ _
  cases (c == Value.type "enumerate") <;> (wp_walk using AutoSeq1.wpAny_loadPart' hl,wpAny_pyIter_tuple hT;exact⟨_,rfl,h⟩)
 ·wp_walk using AutoSeq1.wpAny_loadPart' hl,wpAny_pyIter_tuple hT
  exact⟨_,rfl,h⟩
section
variable {prog:Program}{w:World}{A:Around}{E:Value->Shared->Prop}{s:Shared}
theorem vQ {t:Addr}{xs:Array Value}{Q:Value->Shared->Prop}(hT:s.heap.IsTuple t xs)
  (k:∀h',IsEnum h' (s.heap.objs.size + 1) s.heap.objs.size 0 .none->h'.IsTupleIter s.heap.objs.size t 0->(∀b o,s.heap.get? b=some o->h'.get? b=some o)->Q (.ref (s.heap.objs.size + 1)) {s with heap:=h'}) :
  wpAny (model prog w) A (call (.type "enumerate") [.ref t]) Q E s:=by
 obtain⟨⟨c,dc,dt,sl⟩,hl,hc,n,hd⟩:=hT
 have hc:c=.type "tuple":=hc
 have hd:dt=.seq xs n:=hd
 subst hc hd
 refine callType_new F.called_enumerate (by decide) (F.typeCall_enumerate_1 _) (F.newCall_enumerate_1 _) (fun ob=>F.args_object_init_2 ob _) F.entry_enumerate_new (AE t xs n dc sl) ⟨hl,?_⟩
 have hz:(s.heap.push (Hb t)).objs.size=s.heap.objs.size + 1:=Heap.size_push ..
 have g2:((s.heap.push (Hb t)).push (JA s.heap.objs.size)).get? (s.heap.push (Hb t)).objs.size=some (JA s.heap.objs.size):=Heap.get?_push_size _ rfl
 have g1:((s.heap.push (Hb t)).push (JA s.heap.objs.size)).get? s.heap.objs.size=some (Hb t):=Heap.get?_push_of_some _ (Heap.get?_push_size _ rfl)
 rw[hz] at g2
 show _/\_
 rw[hz]
 exact⟨⟨_,g2,rfl⟩,k _ g2 ⟨_,g1,rfl,rfl⟩ fun b o e=>Heap.get?_push_of_some _ (Heap.get?_push_of_some _ e)⟩
end
end L2

end

section
namespace L2
open PySem PySem.Spec PyProof.Rows
theorem G8 {prog:Program}{w:World}{A:Around}{it t:Addr}{xs:Array Value}(hh:A.handled=none)(i:Nat)(hx:xs[i]? =none):Draws prog w A it [it,t] i (fun _ _=>False) (fun j h=>j=i/\h.IsTupleIter it t i/\h.IsTuple t xs) where
 live:=fun _ _ st=>let ⟨o,ho,_⟩:=st.2.1;⟨o,ho⟩
 frame:=fun _ _ _ st hk=>⟨st.1,st.2.1.at fun o e=>hk it (by simp) o e,st.2.2.at fun o e=>hk t (by simp) o e⟩
 item:=fun j s Q E hi st k=>absurd st.1 (by omega)
 done:=fun s Q E st k=>JT st.2.1 st.2.2 (fun x h=>by rw[hx] at h;cases h) fun _=>⟨hh,k⟩
def Kx (K:PySem.W.Frag)(a:Addr):It:=
 ⟨fun i H=>∃xs x,c7 K H a xs/\xs[i]? =some x,
  fun i H v H'=>∃x t,H t=none/\(∀xs,c7 K H a xs->xs[i]? =some x)/\v=.ref t/\H'=upd H t (.tup [.int i,x]),
  fun i H=>∃xs,c7 K H a xs/\xs.length<=i⟩
abbrev CL (n:Nat):List Nat:=[n + 1,n]
theorem za {h:Heap}{a n:Addr}{i:Nat}{its:Array Value}{b:Addr}(p:h.IsTuple a its)(q:h.IsTupleIter n b i):a≠n:=fun z=>by
 subst z
 obtain⟨o,e,c,_⟩:=p
 obtain⟨o',e',c',_⟩:=q
 rw[e] at e';cases e'
 rw[c] at c'
 simp at c'
theorem zg {h:Heap}{a n it:Addr}{i:Int}{its:Array Value}{old:Value}(p:h.IsTuple a its)(q:IsEnum h n it i old):n≠a:=fun z=>by
 subst z
 obtain⟨o,e,c,_⟩:=p
 rw[q] at e;cases e
 simp at c
theorem vH {P:Program}{w:World}{K:PySem.W.Frag}{elts:List Expr}{x1}{pos:Pos}(a:Addr)(n:Nat):Turn P w K (.Tuple elts x1 pos) (Kx K a) (CL n) (n + 1)
  (fun i h=>(∃old,IsEnum h (n + 1) n i old)/\h.IsTupleIter n a i) where
 mem:=by simp
 obj:=fun i h st c hc=>by
  obtain⟨⟨old,z1⟩,⟨o2,z2,_,d2⟩⟩:=st
  simp only[CL,List.mem_cons,List.not_mem_nil,or_false] at hc
  rcases hc with rfl |rfl
  ·exact⟨_,z1,fun v z=>by
    have z':Data.fields _=Data.cell v:=z
    cases z'⟩
  ·exact⟨o2,z2,fun v z=>by rw[d2] at z;cases z⟩
 keep:=fun i h h' st k=>by
  obtain⟨⟨old,z1⟩,z2⟩:=st
  exact⟨⟨old,k _ (by simp) _ z1⟩,z2.at fun o e=>k _ (by simp) o e⟩
 item:=by
  intro X hP hw hK hc i pins s σ H E I hf st hg
  subst hP hw hK
  obtain⟨xs,x,ha,hx⟩:=hg
  obtain⟨its,rv,p,hz⟩:=I.tuple ha
  have p:s.heap.IsTuple a its.toArray:=p
  obtain⟨u0,hu0,ru0⟩:=rv.get hx
  obtain⟨⟨old,z1⟩,z2⟩:=st
  have hh:X.A.in1.handled=none:=I.ok.hd hc
  have hlt:i < its.toArray.size:=by
   have:=List.getElem?_eq_some_iff.mp hu0
   simpa using this.1
  refine wpAny_pyNext_enum_itemD (Ga hh (za p z2) its.toArray) z1 ⟨z2,p⟩ hlt (Kg 1 0 rfl) (by
   simp only[List.mem_cons,List.not_mem_nil,or_false,not_or]
   exact⟨Kg 1 0 rfl,zg p z1⟩) fun u h' tk hu q1 q2 q3 q4 q5=>?_
  have eu:u0=u:=by
   have hu:its.toArray[i]? =some u:=hu
   rw[List.getElem?_toArray,hu0] at hu
   exact Option.some.inj hu
  subst eu
  refine⟨_,rfl,wpAny_letOwnedTupleGo_enum (s:={s with heap:=h',toks:=tk + 1}) q1 fun h2 r1 r2=>?_⟩
  have r2:∀c,c≠n + 1->h2.get? c=h'.get? c:=r2.2
  have lz:n + 1 < s.heap.objs.size:=Heap.lt_size z1
  have hT:H s.heap.objs.size=none:=I.hok.fresh (Nat.le_refl _)
  have I1:Inv X pins σ (upd H s.heap.objs.size (.tup [.int i,x])) {s with heap:=s.heap.push {cls:=.type "tuple",data:=.seq #[.int i tk,u0]},toks:=s.toks}:=
   I.laid (fun b o e=>Heap.get?_push_of_some _ e) (Nat.le_refl _) ⟨by show 2<=sizeLine;rw[sizeLine_eq];omega,[.int i tk,u0],.cons ⟨tk,rfl⟩ (.cons ru0 .nil),nE.new _ _⟩
  have hf':∀c∈CL n,ny X pins (upd H s.heap.objs.size (.tup [.int i,x])) c:=fun c hc=>⟨by
   rw[ay (fun z=>?_)]
   ·exact (hf c hc).1
   ·subst z
    simp only[CL,List.mem_cons,List.not_mem_nil,or_false] at hc
    omega,(hf c hc).2⟩
  have I2:Inv X pins σ (upd H s.heap.objs.size (.tup [.int i,x])) {s with heap:=h2,toks:=tk + 1}:=by
   refine I1.turnedL (ch:=CL n) (fun c o hc e=>?_) hf'
   have e:(s.heap.push {cls:=.type "tuple",data:=.seq #[.int i tk,u0]}).get? c=some o:=e
   simp only[CL,List.mem_cons,List.not_mem_nil,or_false,not_or] at hc
   rw[r2 c hc.1]
   by_cases z:c=s.heap.objs.size
   ·subst z
    rw[Heap.get?_push_size _ rfl] at e
    rw[<-e];exact q3
   ·refine q5 c o hc.1 hc.2 ?_
    rw[Heap.get?_push_ne _ _ _ z] at e
    exact e
  refine⟨.ref s.heap.objs.size,_,I2,rfl,⟨x,_,hT,fun xs' h'=>?_,rfl,rfl⟩,⟨⟨u0,r1⟩,q2.1.at fun o e=>(r2 _ (Kg 0 1 rfl)).trans e⟩,fun c hc=>(hf' c hc).1⟩
  rw[I.tuple_inj h' ha];exact hx
 done:=by
  intro X hP hw hK hc i pins s σ H E I hf st hg
  subst hP hw hK
  obtain⟨xs,ha,hl⟩:=hg
  obtain⟨its,rv,p,hz⟩:=I.tuple ha
  obtain⟨⟨old,z1⟩,z2⟩:=st
  have hh:X.A.in1.handled=none:=I.ok.hd hc
  have l1:=rv.length
  refine wpAny_pyNext_enum_endD (G8 hh i (xs:=its.toArray) (by simp;omega)) z1 ⟨rfl,z2,p⟩ fun h' q=>⟨rfl,?_⟩
  refine I.turnedL (t':=s.toks) (ch:=CL n) (fun c o hc e=>?_) hf
  simp only[CL,List.mem_cons,List.not_mem_nil,or_false,not_or] at hc
  exact q c o hc.2 e
 self:=fun _ _ _ _ _ st h=>by
  obtain⟨⟨old,z1⟩,_⟩:=st
  exact wpAny_pyIter_enum z1 h
def Lj (K:PySem.W.Frag)(ta:TA):TI:=fun σ H R=>ta σ H fun vs H2=>∃a xs,vs= [.ref a]/\c7 K H2 a xs/\R (Kx K a) H2
theorem zU:bootBuiltins "enumerate"=some (.type "enumerate"):=by decide +kernel
section
variable {X:Cx}
theorem Hm {a:Expr}{ta:TA}{p pos pt:Pos}{elts:List Expr}{x1}(hg:Gl X "enumerate")(hm:X.mg "enumerate"=none)(ha:PA X [a] ta)(hs:starEach [a] X.env= [(false,eval a X.env)]:=by rfl) :
  PI X (.Tuple elts x1 pt) (.Call (.Name "enumerate" p) [a] [] pos) (Lj X.K ta):=by
 intro pins s σ H R I h
 refine Call_ (mM I hg hm zU (PyProof.Rows.callWith_type1 (bW (ha pos pins s σ H _ I h) fun us s1 ⟨vs,H1,I1,r1,q1⟩=>?_) hs rfl))
 obtain⟨a,xs,e,h1,q⟩:=q1
 subst e
 cases r1 with
 |cons r rr=>
  cases rr
  cases r
  obtain⟨its,rv,p1,hz⟩:=I1.tuple h1
  refine vQ (show s1.heap.IsTuple a its.toArray from p1) fun h' z1 z2 z3=>?_
  refine wpAny_pyIter_enum z1 ⟨_,CL s1.heap.objs.size,_,_,H1,rfl,I1.kept (t':=s1.toks) z3,vH a s1.heap.objs.size,⟨⟨_,z1⟩,z2⟩,fun c hc=>?_,q⟩
  have:s1.heap.objs.size<=c:=by
   simp only[CL,List.mem_cons,List.not_mem_nil,or_false] at hc
   rcases hc with rfl |rfl <;> first |exact Nat.le_refl _ |exact Nat.le_add_right _ _
  exact I1.fpOk this (I1.hok.fresh this)
end
section
variable {X:Cx}{Γ:Fx}{E:XK}{e a b c:Expr}{f fa fb:VF D}{L La Lb:List Nat}{md ma mb:Md}{pos:Pos}
def kE (ds:List D):List D:=ds.mapIdx fun i d=>.tuple [.int i,d]
def Cq (fa:VF D):VF (List D):=fun vs β=>(fa vs β).bnd fun x β1=>match x with
 | .tuple ds=>.ok (kE ds) β1
 |_=>.bad
theorem Cm {K:PySem.W.Frag}{B:Option Addr}{G H1:Hp}{p:Addr}{xs:List V}{ds:List D}(hp:c7 K G p xs)(r:bE K G xs ds):Walk K B G H1 (kE ds) (Kx K p):=fun Gc H i s1 s2 m=>by
 have hp':=hp.grow (s1.trans s2).grow
 have l1:=r.len
 have lz:(kE ds).length=ds.length:=by unfold kE;rw[List.length_mapIdx]
 refine⟨fun hi=>⟨?_,fun x H' y=>?_⟩,fun hi=>⟨xs,hp',by omega⟩⟩
 ·have h1:i < xs.length:=by omega
  exact⟨xs,xs[i],hp',by simp[h1]⟩
 ·obtain⟨x,t,ht,hx,rfl,rfl⟩:=y
  obtain⟨d,ed,rd⟩:=r.at' (hx xs hp')
  have xn:=Ext.new s2 (o:=.tup [.int i,x]) ht
  refine⟨upd Gc t (.tup [.int i,x]),.tuple [.int i,d],xn,?_,.tup (.inl (.inl aq)) (.cons (.int i) (.cons (rd.mono (s1.trans xn.gg)) .nil))⟩
  unfold kE
  rw[List.getElem?_mapIdx,ed];rfl
theorem Bw {p pt:Pos}{elts:List Expr}{x1}(hK:X.K=Γ.K)(hg:Gl X "enumerate")(hm:X.mg "enumerate"=none)(ha:SE X Γ E a fa La ma)(hs:starEach [a] X.env= [(false,eval a X.env)]:=by rfl)(hs':starEach [a] X.env=(false,eval a X.env) :: starEach [] X.env:=by rfl) :
  SI X Γ E (.Tuple elts x1 pt) (.Call (.Name "enumerate" p) [a] [] pos) (Cq fa) La md:=by
 refine PI.post (Hm hg hm (aK ha bg hs') hs) ?_
 rintro σ H Q ⟨env,G,B,β,I,o⟩
 refine⟨env,G,B,β,I,o.bnd.imp fun d1 β1 h x G1 H1 I1 s1 m1 vx=>?_⟩
 have vx:=vx.brw I.boxThere
 rw[hK]
 cases d1 with
 |tuple ds=>
  rcases vx with vx | ⟨p,rfl,hb,q⟩
  ·cases vx with
   | @tup p xs _ hq r=>exact⟨p,xs,rfl,hq.grow I1.sub.grow,h _ G1 H1 I1 s1 m1 (Cm hq r)⟩
  ·exact q.elim
 |_=>exact h.elim
end
end L2

end

section
namespace L2
open PySem PySem.Spec PyProof.Rows PySem.MeetsSeq PySem.MeetsSeq2 PySem.MeetsSeq3
def E4 (K:PySem.W.Frag):R2:=fun x y H Q=>∃a b xs ys,x=.ref a/\y=.ref b/\c7 K H a xs/\c7 K H b ys/\xs.length + ys.length<=sizeLine/\
 (xs= []->Q (.ref b) H)/\(xs≠ []->ys= []->Q (.ref a) H)/\(xs≠ []->ys≠ []->∀p,H p=none->Q (.ref p) (upd H p (.tup (xs ++ ys))))
section
variable {X:Cx}
theorem ot:k9 X (binaryOp .Add) (E4 X.K):=by
 intro pins s σ H x y v u Q I rx ry h
 obtain⟨a,b,xs,ys,rfl,rfl,ha,hb,hz,q0,q1,q2⟩:=h
 by_cases hx:xs= []
 ·cases rx
  cases ry
  obtain⟨its,r1,p1,_⟩:=I.tuple ha
  obtain⟨its2,r2,p2,_⟩:=I.tuple hb
  obtain⟨⟨cls,dd,data,sl⟩,ho,hc,n,hd⟩:=id p1
  obtain⟨⟨cls2,dd2,data2,sl2⟩,ho2,hc2,n2,hd2⟩:=id p2
  simp only at hc hd hc2 hd2
  subst hc hd hc2 hd2
  have he:its= []:=r1.nil_iff.mpr hx
  exact concat_meets ⟨_,ho,rfl⟩ ⟨_,ho2,rfl⟩ noFill_tuple_add seq_tuple_add PySem.F.slot_tuple_add PySem.F.entry_tuple_add (PySem.F.args_tuple_add_2 _ _)
   (tuple_addW0 a b its.toArray its2.toArray n n2 dd dd2 sl sl2 (by simp[he])) ⟨ho,ho2,.ref b,H,I,rfl,q0 hx⟩
 ·exact DC pins s σ H _ _ v u Q I rx ry ⟨a,b,xs,ys,rfl,rfl,ha,hb,hx,hz,q1 hx,q2 hx⟩
end
def ly:D->D->Option D
 | .tuple a,.tuple b=>if a.length + b.length<=sizeLine then some (.tuple (a ++ b)) else none
 |_,_=>none
theorem wB {K:PySem.W.Frag}:mf K (E4 K) ly .v:=by
 intro B G H x y dx dy d Q s hB bx by' e k
 cases dx <;> cases dy <;> first | (cases e;done) |skip
 rename_i a b
 simp only[ly] at e
 split at e
 ·rename_i hz
  cases e
  rcases bx with bx | ⟨_,_,_,q⟩
  case inr=>exact q.elim
  rcases by' with by' | ⟨_,_,_,q⟩
  case inr=>exact q.elim
  cases bx with
  | @tup p xs _ hp r1=>
   cases by' with
   | @tup q ys _ hq r2=>
    refine⟨p,q,xs,ys,rfl,rfl,hp.grow s.grow,hq.grow s.grow,by rw[r1.len,r2.len];exact hz,fun z=>?_,fun z z'=>?_,fun _ _ l hl=>?_⟩
    ·subst z
     cases r1
     exact k _ G H (Ext.refl s) (.tup hq r2)
    ·subst z'
     cases r2
     rw[List.append_nil] at k
     exact k _ G H (Ext.refl s) (.tup hp r1)
    ·have xn:=Ext.new s (o:=.tup (xs ++ ys)) hl
     exact k _ _ _ xn (.tup (.inl (.inl aq)) ((r1.append r2).mono xn.gg))
 ·cases e
end L2

end

section
namespace L2
open PySem PySem.Spec PyProof.Rows
def isStar:Expr->Bool
 | .Starred _ _=>true
 |_=>false
theorem zX {a:Expr}{es:List Expr}{env:Env}(h:isStar a=false):starEach (a :: es) env=(false,eval a env) :: starEach es env:=by
 cases a <;> first |rfl |cases h
end L2

end

section
namespace L2
open PySem PySem.Spec PyProof.Rows
def FG (sc:Scope)(x:Str):Bool:=match sc.names.lookup x with
 |some .local=>true
 |some .cell=>true
 |some .free=>true
 |_=>false
theorem C0 {sc:Scope}{x:Str}(h:FG sc x=true):v7 sc x:=by
 unfold FG at h
 unfold v7
 split at h
 ·exact .inl (by assumption)
 ·exact .inr (.inl (by assumption))
 ·exact .inr (.inr (by assumption))
 ·cases h
def wH (N:List Str)(sc:Scope):List (Str×Nat)->Bool
 | []=>true
 | (x,i) :: r=>decide (N[i]? =some x) && (FG sc x && ((!(x == ("__debug__":Str))) && ((!(x == ("__classdict__":Str))) && wH N sc r)))
theorem yM {N:List Str}{sc:Scope}:∀{l:List (Str×Nat)} {x:Str} {i:Nat},wH N sc l=true->l.lookup x=some i->N[i]? =some x/\v7 sc x/\(x == ("__debug__":Str))=false/\(x == ("__classdict__":Str))=false
 | [],_,_,_,h=>by cases h
 | (y,j) :: r,x,i,h,e=>by
  simp only[wH,Bool.and_eq_true,decide_eq_true_eq,Bool.not_eq_true'] at h
  obtain⟨h1,h2,h3,h4,h5⟩:=h
  rw[List.lookup_cons] at e
  split at e
  ·rename_i q
   have q:x=y:=by simpa using q
   subst q
   cases e
   exact⟨h1,C0 h2,h3,h4⟩
  ·exact yM h5 e
def zk:Expr->Option Int
 | .Constant (.int i) _ _=>some i
 |_=>none
theorem nQ {e:Expr}{i:Int}(h:zk e=some i):∃j p,e=.Constant (.int i) j p:=by
 cases e with
 |Constant c j p=>cases c <;> first | (cases h;exact⟨_,_,rfl⟩) |cases h
 |_=>cases h
def Kd (op:UnaryOp)(e:Expr):Option Int:=match op with
 | .USub=>zk e
 |_=>none
def ES:Operator->Bool
 | .Pow=>true
 |_=>false
theorem Bo {o:Operator}(h:ES o=true):o=.Pow:=by cases o <;> first |rfl |cases h
def FA (ks:List (Option Expr))(vs:List Expr):Option (Str×Int):=match ks,vs with
 | [some (.Constant (.str k) _ _)],[v]=>(zk v).map fun i=>(k,i)
 |_,_=>none
theorem CW {ks:List (Option Expr)}{vs:List Expr}{r:Str×Int}(h:FA ks vs=some r):∃j p j' p',ks= [some (.Constant (.str r.1) j p)]/\vs= [.Constant (.int r.2) j' p']:=by
 unfold FA at h
 split at h
 ·rename_i k j p v
  cases q:zk v with
  |none=>rw[q] at h;cases h
  |some i=>
   rw[q] at h
   cases h
   obtain⟨j',p',rfl⟩:=nQ q
   exact⟨_,_,_,_,rfl,rfl⟩
 ·cases h
def J6:Const->Option D
 | .int i=>some (.int i)
 | .bool b=>some (.bool b)
 | .none=>some .none
 | .str x=>some (.str x)
 |_=>none
mutual
def rD (nm:List (Str×Nat)):Expr->Option (VF D×List Nat)
 | .Name x _=>(nm.lookup x).map fun i=>(gv i,[i])
 | .Constant c _ _=>(J6 c).map fun d=>(cst d,[])
 | .UnaryOp op a _=>(Kd op a).map fun i=>(cst (.int (-i)),[])
 | .BinOp a o b _=>if ES o=true then (zk a).bind fun i=>(zk b).map fun j=>(f2 (cst (.int i)) (cst (.int j)) Cp,[]) else none
 | .Dict ks vs _=>(FA ks vs).map fun r=>(cst (.dict [(.str r.1,.int r.2)]),[])
 | .Tuple es _ _=>(EN nm es).map fun r=>(bG r.1,r.2)
 | .List es _=>(EN nm es).map fun r=>(aW r.1,r.2)
 | .BoolOp ..=>none
 | .NamedExpr ..=>none
 | .Lambda ..=>none
 | .IfExp ..=>none
 | .Set ..=>none
 | .ListComp ..=>none
 | .SetComp ..=>none
 | .DictComp ..=>none
 | .GeneratorExp ..=>none
 | .Await ..=>none
 | .Yield ..=>none
 | .YieldFrom ..=>none
 | .Compare ..=>none
 | .Call ..=>none
 | .FormattedValue ..=>none
 | .JoinedStr ..=>none
 | .Attribute ..=>none
 | .Subscript ..=>none
 | .Starred ..=>none
 | .Slice ..=>none
def EN (nm:List (Str×Nat)):List Expr->Option (VF (List D)×List Nat)
 | []=>some (ag,[])
 |e :: es=>(rD nm e).bind fun r=>(EN nm es).map fun q=>(aa r.1 q.1,r.2 ++ q.2)
end
section
variable {X:Cx}{Γ:Fx}{E:XK}{nm:List (Str×Nat)}
theorem jP {α β:Type}{o:Option α}{f:α->β}{b:β}(h:o.map f=some b):∃a,o=some a/\f a=b:=by
 cases o with
 |none=>cases h
 |some a=>exact⟨a,rfl,Option.some.inj h⟩
theorem xN {α β:Type}{o:Option α}{f:α->Option β}{b:β}(h:o.bind f=some b):∃a,o=some a/\f a=some b:=by
 cases o with
 |none=>cases h
 |some a=>exact⟨a,rfl,h⟩
mutual
theorem IX (hc:wH X.N X.env.scope nm=true)(hb:∀i,Γ.br i=false):∀{e:Expr} {f:VF D} {L:List Nat},rD nm e=some (f,L)->SE X Γ E e f L .v/\isStar e=false
 | .Name x p,f,L,h=>by
  rw[rD] at h
  obtain⟨i,q,e⟩:=jP h
  cases e
  obtain⟨h1,h2,h3,h4⟩:=yM hc q
  exact⟨aC i (hb i) h1 h2 h3 h4,rfl⟩
 | .Constant c j p,f,L,h=>by
  rw[rD] at h
  obtain⟨d,q,e⟩:=jP h
  cases e
  cases c <;> first | (cases q;first |exact⟨aw,rfl⟩ |exact⟨iL,rfl⟩ |exact⟨FL,rfl⟩ |exact⟨BG,rfl⟩) |cases q
 | .UnaryOp op a p,f,L,h=>by
  rw[rD] at h
  obtain⟨i,q,e⟩:=jP h
  cases e
  cases op <;> first | (cases q;done) |skip
  obtain⟨j,p,rfl⟩:=nQ q
  exact⟨E8 si Fh aw,rfl⟩
 | .BinOp a op b p,f,L,h=>by
  rw[rD] at h
  split at h
  ·rename_i ho
   obtain rfl:=Bo ho
   obtain⟨i,q,h⟩:=xN h
   obtain⟨j,q2,e⟩:=jP h
   cases e
   obtain⟨j1,p1,rfl⟩:=nQ q
   obtain⟨j2,p2,rfl⟩:=nQ q2
   exact⟨bo Ha HP aw aw,rfl⟩
  ·cases h
 | .Dict ks vs p,f,L,h=>by
  rw[rD] at h
  obtain⟨r,q,e⟩:=jP h
  cases e
  obtain⟨_,_,_,_,rfl,rfl⟩:=CW q
  exact⟨C4,rfl⟩
 | .Tuple es c p,f,L,h=>by
  rw[rD] at h
  obtain⟨r,q,e⟩:=jP h
  cases e
  exact⟨gz (rR hc hb q),rfl⟩
 | .List es p,f,L,h=>by
  rw[rD] at h
  obtain⟨r,q,e⟩:=jP h
  cases e
  exact⟨SE.wv (aV (rR hc hb q)),rfl⟩
 | .BoolOp ..,_,_,h=>by rw[rD] at h;cases h
 | .NamedExpr ..,_,_,h=>by rw[rD] at h;cases h
 | .Lambda ..,_,_,h=>by rw[rD] at h;cases h
 | .IfExp ..,_,_,h=>by rw[rD] at h;cases h
 | .Set ..,_,_,h=>by rw[rD] at h;cases h
 | .ListComp ..,_,_,h=>by rw[rD] at h;cases h
 | .SetComp ..,_,_,h=>by rw[rD] at h;cases h
 | .DictComp ..,_,_,h=>by rw[rD] at h;cases h
 | .GeneratorExp ..,_,_,h=>by rw[rD] at h;cases h
 | .Await ..,_,_,h=>by rw[rD] at h;cases h
 | .Yield ..,_,_,h=>by rw[rD] at h;cases h
 | .YieldFrom ..,_,_,h=>by rw[rD] at h;cases h
 | .Compare ..,_,_,h=>by rw[rD] at h;cases h
 | .Call ..,_,_,h=>by rw[rD] at h;cases h
 | .FormattedValue ..,_,_,h=>by rw[rD] at h;cases h
 | .JoinedStr ..,_,_,h=>by rw[rD] at h;cases h
 | .Attribute ..,_,_,h=>by rw[rD] at h;cases h
 | .Subscript ..,_,_,h=>by rw[rD] at h;cases h
 | .Starred ..,_,_,h=>by rw[rD] at h;cases h
 | .Slice ..,_,_,h=>by rw[rD] at h;cases h
theorem rR (hc:wH X.N X.env.scope nm=true)(hb:∀i,Γ.br i=false):∀{es:List Expr} {f:VF (List D)} {L:List Nat},EN nm es=some (f,L)->SA X Γ E es f L
 | [],f,L,h=>by rw[EN] at h;cases h;exact ah
 |e :: es,f,L,h=>by
  rw[EN] at h
  obtain⟨r,q,h⟩:=xN h
  obtain⟨r2,q2,e⟩:=jP h
  cases e
  obtain⟨a,b⟩:=IX hc hb q
  exact ae a (rR hc hb q2) (zX b)
end
theorem D9 {es:List Expr}{p:Pos}{t:Option Expr}{l:Nat}{env:Env}:swapsWith (.List es p) t l env=pure false:=rfl
theorem E5 {es:List Expr}{f:VF (List D)}{L:List Nat}{pos:Pos}(nm:List (Str×Nat))(hc:wH X.N X.env.scope nm=true)(hb:∀i,Γ.br i=false)(h:EN nm es=some (f,L)):SE X Γ E (.List es pos) (aW f) L .w:=aV (rR hc hb h)
theorem Ir {i:Nat}{x:Str}{es:List Expr}{f:VF (List D)}{L:List Nat}{pos' p pos:Pos}(nm:List (Str×Nat))(hc:wH X.N X.env.scope nm=true)(hb:∀i,Γ.br i=false)(h:EN nm es=some (f,L))(hN:X.N.Nodup)(hi:X.N[i]? =some x)(hx:Loc X.env.scope x)(hf:X.fn x=true\/X.env.scope.names.lookup x=some .local) :
  SS X Γ E (.Assign [.Name x pos'] (.List es p) pos) (bb i L (aW f)):=aS (SE.wv (E5 nm hc hb h)) hN hi hx D9 hf
end
end L2

end

section
namespace HT
open PySem PyProof.Rows PySem.Builtin PyProof
theorem pI {α β:Type}{f g:α->Option β}:∀{l:List α},(∀m,m∈l->f m=g m)->l.filterMap f=l.filterMap g
 | [],_=>rfl
 |x :: l,h=>by rw[List.filterMap_cons,List.filterMap_cons,h x (List.mem_cons_self ..),pI fun m hm=>h m (List.mem_cons_of_mem _ hm)]
theorem rq {α:Type}(xs:Array α):((List.range xs.size).filterMap fun (m:Nat)=>xs[(((xs.size:Int) - 1) + (m:Int) * (-1)).toNat]?)=xs.toList.reverse:=by
 have e:∀m,m∈List.range xs.size->xs[(((xs.size:Int) - 1) + (m:Int) * (-1)).toNat]? =xs.toList.reverse[m]?:=fun m hm=>by
  have hm:=List.mem_range.mp hm
  rw[List.getElem?_reverse (by simpa using hm)]
  have:(((xs.size:Int) - 1) + (m:Int) * (-1)).toNat=xs.toList.length - 1 - m:=by simp;omega
  rw[this]
  simp
 have e2:((List.range xs.size).filterMap fun (m:Nat)=>xs[(((xs.size:Int) - 1) + (m:Int) * (-1)).toNat]?)=(List.range xs.toList.reverse.length).filterMap fun m=>xs.toList.reverse[m]?:=by
  rw[List.length_reverse,Array.length_toList]
  exact pI e
 rw[e2]
 generalize xs.toList.reverse=l
 clear e e2
 apply List.ext_getElem?
 intro i
 have key:∀n,n<=l.length->(List.range n).filterMap (fun m=>l[m]?)=l.take n:=by
  intro n
  induction n with
  |zero=>intro _;simp
  |succ n ih=>
   intro hn
   rw[List.range_succ,List.filterMap_append,ih (by omega),List.take_succ,List.getElem?_eq_getElem (by omega)]
   simp[List.getElem?_eq_getElem (show n < l.length by omega)]
 rw[key l.length (Nat.le_refl _),List.take_length]
section
variable {prog:Program}{w:World}{A:Around}{E:Value->Shared->Prop}{s:Shared}
theorem sM {sl:Addr}{vs:Value}{n:Nat}{Q:Int×Int×Nat->Shared->Prop}(hs:s.heap.IsSliceOf sl .none .none vs)(ps:IsPart vs (some (-1)))(h:Q (((n:Int) - 1), -1,n) s):wpAny (model prog w) A (Builtin.Slice.sliceApplied (.ref sl) (pure (n:Int))) Q E s:=by
 obtain⟨os,hos,hcs,hds⟩:=id hs
 unfold Builtin.Slice.sliceApplied Builtin.Slice.sliceFields
 refine wpAny_bind (wpAny_bind (wpAny_field hos hds (x:=.none) rfl (wpAny_bind (wpAny_field hos hds (x:=.none) rfl (wpAny_bind (wpAny_field hos hds (x:=vs) rfl (wpAny_pure ?_)))))))
 refine wpAny_bind (kT ps ?_)
 show wpAny _ _ (if ((-1:Int) == 0)=true then _ else _) _ _ s
 rw[if_neg (by decide)]
 refine wpAny_bind (slicePart_none (wpAny_bind (slicePart_none (wpAny_bind (wpAny_pure ?_)))))
 show wpAny _ _ (pure (((n:Int) - 1),(-1:Int),Builtin.Slice.slicePlaces ((n:Int) - 1) (-1) (-1))) _ _ s
 have e:Builtin.Slice.slicePlaces ((n:Int) - 1) (-1) (-1)=n:=by
  unfold Builtin.Slice.slicePlaces
  have h1:¬((-1:Int) > 0):=by omega
  simp only[h1,if_false]
  rw[show (- (-1:Int))=1 by rfl,Int.ediv_one]
  split <;> omega
 rw[e]
 exact wpAny_pure h
theorem kK {t sl:Addr}{items:Array Value}{vs:Value}{Q:Value->Shared->Prop}(ht:IsTup s.heap t items)(hs:s.heap.IsSliceOf sl .none .none vs)(ps:IsPart vs (some (-1)))
  (h:Q (.ref s.heap.objs.size) {s with heap:=s.heap.push {cls:=.type "tuple",data:=.seq items.toList.reverse.toArray}})
  (hsz:items.size<=sizeLine):wpAny (model prog w) A (getItem (.ref t) (.ref sl)) Q E s:=by
 have htake:sizeOk (.seq items.toList.reverse.toArray):=by
  show items.toList.reverse.toArray.size<=sizeLine
  simpa using hsz
 obtain⟨os,hos,hcs,hds⟩:=id hs
 have hTs:s.TypeIs (.ref sl) "slice":=⟨os,hos,hcs⟩
 unfold getItem
 try with_reducible refine wpAny_holding ?_
 first |refine wpAny_bind (wpAny_pure ?_) |skip
 refine wpAny_bind (wpAny_sequenceKey ht.typeIs (by decide) ?_)
 refine wpAny_bind (wpAny_callSpecial?_slot (name:=Str.ofString "__getitem__") ht.typeIs PyProof.Rows.slot_tuple_getitem
  (wpAny_call_entry PyProof.Rows.slot_tuple_getitem ht.typeIs entry_tuple_getitem ?_ (args_tuple_getitem _ _)))
 show wpAny _ _ (Builtin.Tuple.tupleItemsOf (.ref t) >>= _) _ _ s
 refine wpAny_bind (tupleItemsOf_ ht ?_)
 refine wpAny_bind (wpAny_typeOf hTs ?_)
 rw[if_pos (by decide)]
 refine wpAny_bind (sM hs ps ?_)
 have hno:¬(((((items.size:Nat):Int) - 1) == 0 && (-1:Int) == 1 && items.size == items.size)=true):=by
  intro q
  rw[Bool.and_eq_true,Bool.and_eq_true] at q
  exact absurd q.1.2 (by decide)
 show wpAny _ _ (if ((((items.size:Nat):Int) - 1) == 0 && (-1:Int) == 1 && items.size == items.size)=true then _ else _) _ _ s
 rw[if_neg hno,rq]
 first
  |exact wpAny_bind (m:=Builtin.Tuple.tupleExact _) (wpAny_newObj_type (wpAny_pure ⟨_,rfl,wpAny_pure h⟩) htake)
  |exact wpAny_bind (m:=Builtin.Tuple.tupleExact _) (wpAny_newObj_type (wpAny_bind (wpAny_pure (wpAny_pure ⟨_,rfl,wpAny_pure h⟩))) htake)
  |exact wpAny_bind (wpAny_bind (m:=Builtin.Tuple.tupleExact _) (wpAny_newObj_type (wpAny_pure (wpAny_pure ⟨_,rfl,wpAny_pure h⟩)) htake))
  |exact wpAny_bind (wpAny_bind (m:=Builtin.Tuple.tupleExact _) (wpAny_newObj_type (wpAny_pure ⟨_,rfl,wpAny_pure h⟩) htake))
end
end HT
namespace L2
open PySem PySem.Spec PyProof.Rows
section
variable {X:Cx}{Γ:Fx}{E:XK}{e a:Expr}{te:TE}{fa:VF D}{La:List Nat}{ma:Md}{pos p2 p3 p4:Pos}{j:Nat}
theorem EH (he:PE X e te):PE X (.Subscript e (.Slice none none (some (.UnaryOp .USub (.Constant (.int 1) j p3) p4)) p2) pos) (fun σ H Q=>te σ H fun x H1=>∃a xs,x=.ref a/\c7 X.K H1 a xs/\∀l,H1 l=none->Q (.ref l) (upd H1 l (.tup xs.reverse))):=by
 intro pins s σ H Q I h
 refine Subscript_ (bW (he pins s σ H _ I h) fun v s1 ⟨x,H1,I1,r1,q1⟩=>?_)
 obtain⟨a,xs,rfl,hx,q⟩:=q1
 cases r1
 refine wpAny_Slice ?_
 rw[evalPart_none]
 refine wpAny_pure (wpAny_pure ?_)
 refine bW (sP (BQ si mO) pins s1 σ H1 (fun o H2=>o=some (-1)/\H2=H1) I1 ⟨1,rfl, -1,rfl,rfl,rfl⟩) fun vs s2 ⟨o,H2,I2,ps,q2,q3⟩=>?_
 subst q2 q3
 have I3:Inv X pins σ H2 {s2 with heap:=s2.heap.push {cls:=.type "slice",data:=.fields #[.none,.none,vs]}}:=I2.kept (t':=s2.toks) fun b ob q=>Heap.get?_push_of_some _ q
 obtain⟨its,r,ht,hz⟩:=I3.tuple hx
 have hlen:its.toArray.size=xs.length:=by rw[List.size_toArray];exact r.length.symm
 show wpAny (model X.prog X.w) X.A (subscriptTail e (.Slice none none (some (.UnaryOp .USub (.Constant (.int 1) j p3) p4)) p2) (.ref a) (.ref s2.heap.objs.size)) (EP X pins σ Q) X.xe {s2 with heap:=s2.heap.push {cls:=.type "slice",data:=.fields #[.none,.none,vs]}}
 refine tail_any (ops:=[.ref a,.ref s2.heap.objs.size]) ht.typeIs PyProof.Rows.slot_tuple_getitem.lookup ?_ (by with_unfolding_all rfl)
 refine HT.kK ht (Heap.IsSliceOf.new ..) ps ?_ (by rw[hlen];exact hz)
 refine⟨.ref _,_,I3.laid (t':=s2.toks) (o:=.tup xs.reverse) (fun b ob q=>Heap.get?_push_of_some _ q) (Nat.le_refl _) ?_,rfl,q _ (I3.hok.fresh (Nat.le_refl _))⟩
 exact⟨by rw[List.length_reverse];exact hz,_,r.reverse,nE.new _ _⟩
theorem bE.reverse {K:PySem.W.Frag}{G:Hp}:∀{xs:List V} {ds:List D},bE K G xs ds->bE K G xs.reverse ds.reverse
 |_,_,.nil=>.nil
 |_,_,.cons h hs=>by rw[List.reverse_cons,List.reverse_cons];exact (bE.reverse hs).snoc h
def Gx:D->Option D
 | .tuple ds=>some (.tuple ds.reverse)
 |_=>none
theorem yp (hK:X.K=Γ.K)(ha:SE X Γ E a fa La ma):SE X Γ E (.Subscript a (.Slice none none (some (.UnaryOp .USub (.Constant (.int 1) j p3) p4)) p2) pos) (f1 fa Gx) La .v:=by
 refine PE.post' (EH ha) ?_
 rintro σ H Q ⟨env,G,B,β,I,o⟩
 refine⟨env,G,B,β,I,o.bnd.imp fun d1 β1 h x G1 H1 I1 s1 m1 vx=>?_⟩
 have bx:=vx.brw I.boxThere
 obtain⟨d,e,k⟩:=h.of
 cases d1 with
 |tuple ds=>
  cases e
  obtain⟨p,xs,rfl,hq,r⟩:=bx.tuple I1.sub
  rw[hK]
  refine⟨p,xs,rfl,hq,fun l hl=>?_⟩
  have x:=Ext.new I1.sub (o:=.tup xs.reverse) hl
  exact k _ _ _ (I1.ext x) (s1.trans x.gg) (m1.trans (x.hh.mov B)) (.tup (.inl (.inl aq)) ((r.reverse).mono x.gg))
 |_=>cases e
end
end L2

end

section
namespace L2
open PySem PySem.Spec PyProof.Rows
theorem AM (items:Array Value):slicePick items none none (some (-1))=items.toList.reverse.toArray:=by
 have e:slicePick items none none (some (-1))=(((List.range (if ((items.size:Int) - 1) > -1 then (((items.size:Int) - 1) - (-1) - (-1) - 1) / (-(-1)) else 0).toNat).map fun (k:Nat)=>(((items.size:Int) - 1) + (-1) * (k:Int)).toNat).filterMap (items[·]?)).toArray:=rfl
 rw[e]
 have ec:(if ((items.size:Int) - 1) > -1 then (((items.size:Int) - 1) - (-1) - (-1) - 1) / (-(-1)) else 0).toNat=items.size:=by
  rw[show (-(-1:Int))=1 by rfl,Int.ediv_one]
  split <;> omega
 rw[ec,List.filterMap_map]
 congr 1
 rw[<-HT.rq]
 refine HT.pI fun m _=>?_
 show items[(((items.size:Int) - 1) + (-1) * (m:Int)).toNat]? =items[(((items.size:Int) - 1) + (m:Int) * (-1)).toNat]?
 rw[Int.mul_comm]
section
variable {X:Cx}{Γ:Fx}{E:XK}{e a:Expr}{te:TE}{fa:VF D}{La:List Nat}{ma:Md}{pos p2 p3 p4:Pos}{j:Nat}
theorem By (he:PE X e te):PE X (.Subscript e (.Slice none none (some (.UnaryOp .USub (.Constant (.int 1) j p3) p4)) p2) pos) (fun σ H Q=>te σ H fun x H1=>∃a xs,x=.ref a/\fR X.K H1 a xs/\∀l,H1 l=none->Q (.ref l) (upd H1 l (.lst xs.reverse))):=by
 intro pins s σ H Q I h
 refine Subscript_ (bW (he pins s σ H _ I h) fun v s1 ⟨x,H1,I1,r1,q1⟩=>?_)
 obtain⟨a,xs,rfl,hx,q⟩:=q1
 cases r1
 refine wpAny_Slice ?_
 rw[evalPart_none]
 refine wpAny_pure (wpAny_pure ?_)
 refine bW (sP (BQ si mO) pins s1 σ H1 (fun o H2=>o=some (-1)/\H2=H1) I1 ⟨1,rfl, -1,rfl,rfl,rfl⟩) fun vs s2 ⟨o,H2,I2,ps,q2,q3⟩=>?_
 subst q2 q3
 have I3:Inv X pins σ H2 {s2 with heap:=s2.heap.push {cls:=.type "slice",data:=.fields #[.none,.none,vs]}}:=I2.kept (t':=s2.toks) fun b ob q=>Heap.get?_push_of_some _ q
 obtain⟨its,r,ht,hz⟩:=I3.list hx
 have hlen:=r.length
 show wpAny (model X.prog X.w) X.A (subscriptTail e (.Slice none none (some (.UnaryOp .USub (.Constant (.int 1) j p3) p4)) p2) (.ref a) (.ref s2.heap.objs.size)) (EP X pins σ Q) X.xe {s2 with heap:=s2.heap.push {cls:=.type "slice",data:=.fields #[.none,.none,vs]}}
 refine tail_any (ops:=[.ref a,.ref s2.heap.objs.size]) ht.isList.typeIs slot_list_getitem.lookup ?_ (by with_unfolding_all rfl)
 refine wpAny_getItem_list_slice ht.isList (Heap.IsSliceOf.new ..) .none .none ps (by simp) ?_ (by rw[List.size_toArray] <;> omega)
 rw[AM]
 refine⟨.ref _,_,I3.laid (t':=s2.toks) (o:=.lst xs.reverse) (fun b ob q=>Heap.get?_push_of_some _ q) (Nat.le_refl _) ?_,rfl,q _ (I3.hok.fresh (Nat.le_refl _))⟩
 exact⟨by rw[List.length_reverse];exact hz,_,0,r.reverse,Heap.get?_push_size _ rfl⟩
def E1:D->Option D
 | .list ds=>some (.list ds.reverse)
 |_=>none
theorem CG (hK:X.K=Γ.K)(ha:SE X Γ E a fa La ma):SE X Γ E (.Subscript a (.Slice none none (some (.UnaryOp .USub (.Constant (.int 1) j p3) p4)) p2) pos) (f1 fa E1) La .w:=by
 refine PE.post' (By ha) ?_
 rintro σ H Q ⟨env,G,B,β,I,o⟩
 refine⟨env,G,B,β,I,o.bnd.imp fun d1 β1 h x G1 H1 I1 s1 m1 vx=>?_⟩
 have bx:=vx.brw I.boxThere
 obtain⟨d,e,k⟩:=h.of
 cases d1 with
 |list ds=>
  cases e
  obtain⟨p,xs,rfl,hq,r⟩:=bx.list I1.sub
  rw[hK]
  refine⟨p,xs,rfl,.inl hq,fun l hl=>?_⟩
  have x:=Ext.own I1.sub (o:=.lst xs.reverse) hl
  exact k _ _ _ (I1.ext x) s1 (m1.trans (x.hh.mov B)) ⟨l,rfl,du m1 I1.boxThere hl,I1.sub.free hl,xs.reverse,aq,r.reverse⟩
 |_=>cases e
end
end L2

end

section
namespace L2
open PySem PySem.Spec PyProof.Rows
def Je (K:PySem.W.Frag):R2:=fun x y H Q=>∃a b xs,x=.ref a/\y=.ref b/\fR K H a xs/\fR K H b []/\Q (.bl xs.isEmpty) H
theorem An {X:Cx}(hu:X.A.units + 64 < cLine):k9 X (compareOp .Eq) (Je X.K):=by
 intro pins s σ H x y v u Q I rx ry h
 obtain⟨a,b,xs,rfl,rfl,ha,hb,q⟩:=h
 cases rx
 cases ry
 obtain⟨its,r,ht,hz⟩:=I.list ha
 obtain⟨its2,r2,ht2,hz2⟩:=I.list hb
 cases r2
 cases r with
 |nil=>exact PySem.SeqAt.eq_listAt (e:=fun _=>true) ht.isList ht2.isList rfl (by omega) (fun j h1 _=>absurd h1 (by simp)) ⟨.bl true,H,I,rfl,q⟩
 |cons _ _=>exact PySem.SeqAt.eq_list_lengthsAt ht.isList ht2.isList (by simp) (by omega) ⟨.bl false,H,I,rfl,q⟩
def vY:D->D->Option D
 | .list ds,.list []=>some (.bool ds.isEmpty)
 |_,_=>none
theorem C8 {K:PySem.W.Frag}:mf K (Je K) vY .v:=by
 intro B G H x y dx dy d Q s hB bx by' e k
 cases dx with
 |list ds=>
  cases dy with
  |list es=>
   cases es with
   |nil=>
    cases e
    obtain⟨p,xs,rfl,hq,r⟩:=bx.list s
    obtain⟨p2,ys,rfl,hq2,r2⟩:=by'.list s
    cases r2
    refine⟨p,p2,xs,rfl,rfl,.inl hq,.inl hq2,?_⟩
    have:xs.isEmpty=ds.isEmpty:=by cases r <;> rfl
    rw[this]
    exact k _ G H (Ext.refl s) (.bl _)
   |cons _ _=>cases e
  |_=>cases e
 |_=>cases e
end L2

end

section
namespace L2.ST
open PySem PySem.SetTable
section
variable {prog:Program}{w:World}{A:Around}{E:Value->Shared->Prop}{s:Shared}
set_option maxHeartbeats 3200000 in
theorem qi {l:Addr}{vs:List Value}{ns:List Int}{T:String}{itO:Obj}{St:Addr->Nat->Heap->Prop}{Q:Value->Shared->Prop}(X:Src prog w s.heap l vs T itO St)(hh:A.handled=none)(hi:PyProof.Rows.IntsAre vs ns)(hb:vs.length + 1 < scanBound)
  (h:∀(h':Heap) (tk:Nat),h'.SetOf (intKind prog w) s.heap.objs.size (fun k'=>(PyProof.Rows.firstMet (fun i=>ns.getD i 0) vs.length).any (· == k')) (PyProof.Rows.firstMet (fun i=>ns.getD i 0) vs.length).length->(∀b o,s.heap.get? b=some o->h'.get? b=some o)->Q (.ref s.heap.objs.size) {s with heap:=h',toks:=tk}) :
  wpAny (model prog w) A (call (.type "set") [.ref l]) Q E s:=by
 obtain⟨c0,tl0,hmro0⟩:=F.called_set.mro
 have hmade0:=F.called_set.made
 have hsub0:=F.called_set.sub
 refine wpAny_call (codeAny_of_tree ?_)
 show wpAny _ _ (callAny (.type "set") ⟨[.ref l],[]⟩) _ _ _
 refine wpAny_pure ⟨Code.quiet_builtin _ (by decide +kernel),codeAny_builtin F.entry_type_call ?_⟩
 (rw[Around.under_plain (weight_type_call_type "set" [.ref l] []) rfl])
 have g1:=F.called_set.notType
 have g2:=F.called_set.canCreate
 have g3:=F.typeCall_set_1 (.ref l)
 repeat (any_goals (first |assumption |wp_step))
 refine codeAny_mono (nj (.ref l) (E:=E) (Q1:=fun obj s1=>obj=.ref s.heap.objs.size/\s1={s with heap:=s.heap.push {cls:=.type "set",dict:=none,data:=.set #[] 0 (.fresh 0 0 (fH w))}}) ⟨rfl,rfl⟩) fun r s1 hr=>?_
 cases r with
 |error e=>exact hr
 |ok fl=>
  cases fl with
  |ret obj=>
   obtain⟨rfl,rfl⟩:=hr
   generalize hO:({cls:=.type "set",dict:=none,data:=.set #[] 0 (.fresh 0 0 (fH w))}:Obj)=O
   have hS0:(s.heap.push O).get? s.heap.objs.size=some O:=Heap.get?_push_size _ (by rw[<-hO];rfl)
   have hT0:Shared.TypeIs {s with heap:=s.heap.push O} (.ref s.heap.objs.size) "set":=⟨_,hS0,by rw[<-hO]⟩
   have g4:=F.called_set.init.lookup
   have g5:=F.called_set.init.bind (.ref s.heap.objs.size)
   repeat (any_goals (first |assumption |wp_step))
   refine codeAny_mono (codeAny_call_builtin (R:=wants (fun r s2=>r=.none/\∃h' tk,s2={s with heap:=h',toks:=tk}/\h'.SetOf (intKind prog w) s.heap.objs.size (fun k'=>(PyProof.Rows.firstMet (fun i=>ns.getD i 0) vs.length).any (· == k')) (PyProof.Rows.firstMet (fun i=>ns.getD i 0) vs.length).length/\(∀b o,s.heap.get? b=some o->h'.get? b=some o)) E)
    F.called_set.init.plain F.entry_set_init (check_set_init_1 hT0 ?_)) fun r2 s2 hr2=>?_
   ·obtain⟨ol,hol,hcl⟩:=X.ty
    have hol':(s.heap.push O).get? l=some ol:=Heap.get?_push_of_some _ hol
    have e1:=X.ns
    have e2:=X.nf
    have e3:=X.nd
    have hTl:Shared.TypeIs {s with heap:=s.heap.push O} (.ref l) T:=⟨ol,hol',hcl⟩
    have hdat:O.data=.set #[] 0 (.fresh 0 0 (fH w)):=by rw[<-hO]
    (unfold Builtin.«set.__init__» noKeywords Builtin.Frozenset.updateFrom)
    subst hO
    obtain⟨oc,od,odt,osl⟩:=ol
    simp only at hcl
    subst hcl
    (generalize hPI0:pyIter=PI0)
    wp_walk
    subst hPI0
    have kp:∀b o,s.heap.get? b=some o->(s.heap.push {cls:=.type "set",dict:=none,data:=.set #[] 0 (.fresh 0 0 (fH w))}).get? b=some o:=fun b o e=>Heap.get?_push_of_some _ e
    refine X.it _ _ _ _ kp ?_
    refine wpAny_bind (wpAny_runValue ?_)
    have hlS:l < s.heap.objs.size:=Heap.lt_size hol
    have hh3:A.in1.in1.in1.handled=none:=by simp[hh]
    have hneI:l≠(s.heap.push {cls:=.type "set",dict:=none,data:=.set #[] 0 (.fresh 0 0 (fH w))}).objs.size:=by
     rw[Heap.size_push];exact Nat.ne_of_lt (Nat.lt_succ_of_lt hlS)
    have hSf:s.heap.objs.size∉ [(s.heap.push {cls:=.type "set",dict:=none,data:=.set #[] 0 (.fresh 0 0 (fH w))}).objs.size,l]:=by
     rw[Heap.size_push]
     intro z
     rcases List.mem_cons.mp z with e |z
     ·exact absurd e (Nat.ne_of_lt (Nat.lt_succ_self _))
     ·exact absurd (List.mem_singleton.mp z) (Nat.ne_of_gt hlS)
    refine PyProof.Rows.codeAny_set_update_loopS ((X.wk _ _ hh3 hneI).toS) s.heap.objs.size hSf (fun i=>ns.getD i 0) (fun i v e=>PyProof.Rows.IntsAre.int_at hi i v e) hb (vs.length - 0) 0 _ (by omega) (Nat.zero_le _) (X.st _ kp) ?_ ?_
    ·exact PyProof.Rows.SetOf_congr ((PyProof.Rows.setObjOf_fresh (knd:=intKind prog w) (fH w)).setOf (Heap.get?_push_of_some _ hS0) (by unfold scanBound;omega)) (fun _=>rfl) rfl
    ·intro s' hm F'
     obtain⟨h',g',d',tk,os'⟩:=s'
     have eg:g'=s.gens:=hm.gens
     have ed:d'=s.drawn:=hm.drawn
     have eo:os'=s.os:=hm.os
     subst eg;subst ed;subst eo
     show wpAny _ _ _ _ _ _
     refine wpAny_pure ?_
     show wpAny _ _ (ret Value.none) _ _ _
     refine wpAny_pure ⟨rfl,h',tk,rfl,F',fun b o e=>hm.heap b o (fun z=>?_) (Heap.get?_push_of_some _ (kp b o e))⟩
     have hlt:=Heap.lt_size e
     rw[Heap.size_push] at z
     rcases List.mem_cons.mp z with z |z
     ·exact absurd hlt (by rw[z];exact Nat.lt_irrefl _)
     ·rw[List.mem_singleton.mp z] at hlt
      exact absurd hlt (Nat.not_lt.mpr (Nat.le_succ _))
   ·cases r2 with
    |error e=>exact hr2
    |ok fl2=>
     cases fl2 with
     |ret r=>
      obtain⟨rfl,h',tk,rfl,hF,hk⟩:=hr2
      repeat (any_goals (first |assumption |wp_step))
      exact h _ _ hF hk
     |_=>exact hr2.elim
  |_=>exact hr.elim
end
end L2.ST

end

section
namespace L2
open PySem PyProof.Rows
section
variable {X:Cx}{K:PySem.W.Frag}{pins:List V}{σ:St}{H:Hp}{s:Shared}{E:XK}
def HX (ns:List Int)(k:Int):Bool:=(firstMet (fun i=>ns.getD i 0) ns.length).any (· == k)
def qm (ns:List Int):Nat:=(firstMet (fun i=>ns.getD i 0) ns.length).length
def EZ (K:PySem.W.Frag):List V->Hp->VK->Prop:=fun xs H Q=>∃a ns,xs= [.ref a]/\(fR K H a (ns.map V.int)\/c7 K H a (ns.map V.int))/\ns.length<=1000/\∀S,H S=none->Q (.ref S) (upd H S (.set (HX ns) (qm ns)))
theorem ze (hc:X.calm=true):b8 X (.type "set") (EZ X.K):=by
 intro pins s σ H xs us Q I r h
 obtain⟨a,ns,rfl,hq,hz,q⟩:=h
 obtain⟨u,rfl,rx⟩:=vals1 r
 cases rx
 have hh:=I.ok.hd hc
 have core:∀{its:List Value} {T:String} {itO:Obj} {St:Addr->Nat->Heap->Prop},Vals (ns.map V.int) its->L2.ST.Src X.prog X.w s.heap a its T itO St->wpAny (model X.prog X.w) X.A (call (.type "set") [.ref a]) (EP X pins σ Q) X.xe s:=fun {its T itO St} rv src=>by
  have hl:its.length=ns.length:=by rw[<-rv.length,List.length_map]
  refine L2.ST.qi src hh (intsAre_of rv) (by unfold scanBound;omega) fun h' tk F k=>?_
  rw[hl] at F
  exact⟨.ref _,_,I.laid (t':=tk) (o:=.set (HX ns) (qm ns)) k (Nat.le_refl _) F,rfl,q _ (I.hok.fresh (Nat.le_refl _))⟩
 rcases hq with hq |hq
 ·obtain⟨its,rv,pl,hz⟩:=I.list hq
  exact core rv (L2.ST.Src.list pl.isList)
 ·obtain⟨its,rv,pl,hz⟩:=I.tuple hq
  exact core rv (L2.ST.Src.tuple pl)
theorem zZ:b8 X (.builtin "len") (fun xs H Q=>∃S f n,xs= [.ref S]/\H S=some (.set f n)/\Q (.int n) H):=by
 intro pins s σ H xs us Q I r h
 obtain⟨S,f,n,rfl,hS,q⟩:=h
 obtain⟨u,rfl,rx⟩:=vals1 r
 cases rx
 obtain⟨o,es,ep,t,ho,hex,hd,_,_,hb,hf,e⟩:s.heap.SetOf (intKind X.prog X.w) S f n:=I.hok _ _ hS
 refine call_len_set ho hex hd hf (by unfold scanBound at hb;omega) ⟨.int n,H,I.tok _,⟨_,by rw[e]⟩,q⟩
def nK (d:D):Option D:=match jD d with
 |some ds=>(match gC ds with
  |some ns=>if ns.length<=1000 then some (.int (qm ns)) else none
  |none=>none)
 |none=>none
theorem bE.intsB {G:Hp}:∀{ns:List Int} {xs:List V},bE K G xs (ns.map PyData.int)->xs=ns.map V.int
 | [],_,.nil=>rfl
 |n :: ns,_,.cons r t=>by cases r;rw[bE.intsB t];rfl
variable {Γ:Fx}{e a b c:Expr}{f fa fb fc:VF D}{L La Lb:List Nat}{md ma mb mc:Md}{pos:Pos}
theorem zj {p1 p2 pos2:Pos}(hc:X.calm=true)(hK:X.K=Γ.K)(hg:Gl X "len")(hm:X.mg "len"=none)(hg2:Gl X "set")(hm2:X.mg "set"=none)(ha:SE X Γ E a fa La ma)
  (he:starEach [a] X.env=(false,eval a X.env) :: starEach [] X.env:=by rfl)
  (he2:starEach [.Call (.Name "set" p2) [a] [] pos2] X.env=(false,eval (.Call (.Name "set" p2) [a] [] pos2) X.env) :: starEach [] X.env:=by rfl) :
  SE X Γ E (.Call (.Name "len" p1) [.Call (.Name "set" p2) [a] [] pos2] [] pos) (f1 fa nK) La .v:=by
 refine PE.post' (iR zZ hg hm (by decide +kernel) (aK (dr (ze hc) hg2 hm2 (by decide +kernel) (aK ha bg he) (by decide) (by decide) he) bg he2) (by decide) (by decide) he2) fun σ H Q ⟨env,G,B,β,I,o⟩=>?_
 refine fU (r:=fun x H1 Q=>EZ X.K [x] H1 fun y H2=>∃S f n,[y]= [V.ref S]/\H2 S=some (.set f n)/\Q (.int n) H2) ?_ I o
 intro B G H x dx d Q s hB bx e k
 rw[hK]
 unfold nK at e
 cases q:jD dx with
 |none=>rw[q] at e;cases e
 |some ds=>
  rw[q] at e
  dsimp only at e
  cases q2:gC ds with
  |none=>rw[q2] at e;cases e
  |some ns=>
   rw[q2] at e
   dsimp only at e
   split at e
   ·rename_i hz
    cases e
    obtain⟨p,xs,rfl,hq,r⟩:=bx.seq q s
    rw[lx q2] at r
    have r:=r.intsB
    subst r
    exact⟨p,ns,rfl,hq,hz,fun S hS=>⟨S,_,_,rfl,aq,k _ _ _ (Ext.own s hS) (.int _)⟩⟩
   ·cases e
def sortI (ns:List Int):List Int:=ns.mergeSort fun a b=>decide (a<=b)
theorem sortI_perm (ns:List Int):(sortI ns).Perm ns:=List.mergeSort_perm ..
theorem Cb (ns:List Int):(sortI ns).Pairwise (· <= ·):=by
 have:=List.pairwise_mergeSort (le:=fun a b:Int=>decide (a<=b)) (fun a b c h1 h2=>by simp only[decide_eq_true_eq] at *;omega) (fun a b=>by simp only[Bool.or_eq_true,decide_eq_true_eq];omega) ns
 exact this.imp fun h=>by simpa using h
theorem kR {ns ms:List Int}(h:ms.Perm ns)(h2:ms.Pairwise (· <= ·)):ms=sortI ns:=
 List.Perm.eq_of_pairwise (le:=(· <= ·)) (fun a b _ _ h1 h2=>by omega) h2 (Cb ns) (h.trans (sortI_perm ns).symm)
def Fy (K:PySem.W.Frag):List V->Hp->VK->Prop:=fun xs H Q=>∃a ns,xs= [.ref a]/\fR K H a (ns.map V.int)/\ns.length < 64/\∀l,H l=none->Q (.ref l) (upd H l (.lst ((sortI ns).map V.int)))
theorem sD:∀{us:List Value} {ns:List Int},IntsAre us ns->Vals (ns.map V.int) us
 |_,_,.nil=>.nil
 |_,_,.cons n t hr=>.cons ⟨t,rfl⟩ (sD hr)
theorem xo:b8 X (.builtin "sorted") (Fy X.K):=by
 intro pins s σ H xs us Q I r h
 obtain⟨a,ns,rfl,hq,hl,q⟩:=h
 obtain⟨u,rfl,rx⟩:=vals1 r
 cases rx
 obtain⟨its,rv,pl,hz⟩:=I.list hq
 have hil:its.length=ns.length:=by rw[<-rv.length,List.length_map]
 refine sorted_ints pl.isList (intsAre_of rv) (by omega) fun out ns' a1 a2 a3=>?_
 obtain rfl:=kR a2 a3
 obtain⟨c,he⟩:=sortedAll_at s.heap its out
 have hf:H (s.heap.objs.size + 1)=none:=I.hok.fresh (Nat.le_succ _)
 have hz':((sortI ns).map V.int).length<=sizeLine:=by
  have:=a2.length_eq
  rw[List.length_map,sizeLine_eq];omega
 have I2:Inv X pins σ (upd H (s.heap.objs.size + 1) (.lst ((sortI ns).map V.int))) {s with heap:=sortedAll s.heap its out,toks:=s.toks}:=I.laid (t':=s.toks) (fun _ _=>sortedAll_old) (Nat.le_succ _) (show bw X.prog X.w _ _ _ (.lst ((sortI ns).map V.int)) from⟨hz',out.toList,c,sD a1,he⟩)
 exact⟨.ref _,_,I2,rfl,q _ hf⟩
end
end L2

end

section

end

section

end

section
namespace L2
open PySem
section
variable {K:PySem.W.Frag}{h:Heap}{mg:Str->Option Value}
theorem Ah {α:Type}{P:List α->Prop}(q:∀a,P [a]):∀us:List α,us.length=1->P us
 | [a],_=>q a
theorem ln2 {α:Type}{P:List α->Prop}(q:∀a b,P [a,b]):∀us:List α,us.length=2->P us
 | [a,b],_=>q a b
theorem Lm {α:Type}{P:List α->Prop}(q:∀a b c,P [a,b,c]):∀us:List α,us.length=3->P us
 | [a,b,c],_=>q a b c
theorem Lp {α:Type}{P:List α->Prop}(q:∀a b c d,P [a,b,c,d]):∀us:List α,us.length=4->P us
 | [a,b,c,d],_=>q a b c d
def aY (x:Str)(st:Stmt)(ps:List Str):Prop:=∀(kV doc pm:Value) (an:Option Addr) (cdv ct:Value) (us:List Value),us.length=ps.length->bindArgs (PySem.W.fnOf x x (gQ st) (cx st) (au st) .none kV doc pm an cdv ct) ⟨us,[]⟩=pure (ps.zip us)
structure Fo (K:PySem.W.Frag)(mg:Str->Option Value)(x:Str)(st:Stmt)(ps:List Str):Prop where
 ex:∃f fd,jw K mg x st ps f fd
theorem bz {x:Str}{st:Stmt}{ps:List Str}{f:Addr}{oc:Value}{od an:Option Addr}{sl:Array (Option Value)}{kV doc pm cdv ct:Value}(X:K.In h)(G:h.Ns mainGlobals mg)(b:aY x st ps)(a:PySem.W.nsIn K mainGlobals x=some (some (.ref f)))
  (l:K.lookup f=some ⟨oc,od,.func (PySem.W.fnOf x x (gQ st) (cx st) (au st) .none kV doc pm an cdv ct),sl⟩) (c:PySem.W.codeIn K cdv x=true) (k:PySem.W.keepIn K (.ref f)=true):Fo K mg x st ps:=
 ⟨⟨f,_,PySem.W.mg_of X G a,xi l c k,(xi l c k).binds b⟩⟩
def Kf:List Str:=["len","range","enumerate","zip","min","max","sum","abs","sorted","reversed","int","str","bool","list","tuple","dict","set","isinstance","repr","any","all","divmod"]
def JS (K:PySem.W.Frag):Bool:=Kf.all fun x=>match PySem.W.nsIn K mainGlobals x with
 |some none=>true
 |_=>false
theorem Ft (q:JS K=true){x:Str}(hx:x∈Kf):PySem.W.nsIn K mainGlobals x=some none:=by
 have:=List.all_eq_true.mp q x hx
 split at this
 ·assumption
 ·cases this
theorem Iq (X:K.In h)(G:h.Ns mainGlobals mg)(q:JS K=true):jF mg:=by
 have key:∀{x:Str},x∈Kf->mg x=none:=fun hx=>PySem.W.mg_none_of X G (Ft q hx)
 constructor <;> exact key (by decide)
end
end L2

end

section

end

section

end

section

end

section

end

section

end

section
namespace HT
open PySem PySem.Spec PyProof.Rows
section
variable {prog:Program}{w:World}{A:Around}{E:Value->Shared->Prop}{s:Shared}
theorem ku {t sl:Addr}{items:Array Value}{vl vu:Value}{lo hi:Option Int}{Q:Value->Shared->Prop}(ht:IsTup s.heap t items)(hs:s.heap.IsSliceOf sl vl vu .none)(pl:IsPart vl lo)(pu:IsPart vu hi)
  (hw:cS items.size 0 lo=0/\cS items.size items.size hi=items.size) (h:Q (.ref t) s):wpAny (model prog w) A (getItem (.ref t) (.ref sl)) Q E s:=by
 obtain⟨os,hos,hcs,hds⟩:=id hs
 have hTs:s.TypeIs (.ref sl) "slice":=⟨os,hos,hcs⟩
 unfold getItem
 try with_reducible refine wpAny_holding ?_
 first |refine wpAny_bind (wpAny_pure ?_) |skip
 refine wpAny_bind (wpAny_sequenceKey ht.typeIs (by decide) ?_)
 refine wpAny_bind (wpAny_callSpecial?_slot (name:=Str.ofString "__getitem__") ht.typeIs PyProof.Rows.slot_tuple_getitem
  (wpAny_call_entry PyProof.Rows.slot_tuple_getitem ht.typeIs entry_tuple_getitem ?_ (args_tuple_getitem _ _)))
 show wpAny _ _ (Builtin.Tuple.tupleItemsOf (.ref t) >>= _) _ _ s
 refine wpAny_bind (tupleItemsOf_ ht ?_)
 refine wpAny_bind (wpAny_typeOf hTs ?_)
 rw[if_pos (by decide)]
 refine wpAny_bind (iE hs pl pu ?_)
 rw[hw.1,hw.2]
 show wpAny _ _ (if (((0:Nat):Int) == 0 && (1:Int) == 1 && (items.size - 0) == items.size)=true then _ else _) _ _ s
 rw[if_pos (by simp)]
 refine wpAny_bind ?_
 unfold Builtin.Tuple.tupleIsExact
 first
  |refine wpAny_bind (wpAny_typeOf ht.typeIs (wpAny_pure ?_))
  |refine wpAny_bind (wpAny_typeOf ht.typeIs ?_)
 first |rw[if_pos (by decide)] |skip
 first
  |exact wpAny_bind (wpAny_rule (wpAny_pure ⟨_,rfl,wpAny_pure h⟩))
  |exact wpAny_bind (wpAny_bind (wpAny_rule (wpAny_pure ⟨_,rfl,wpAny_pure h⟩)))
end
end HT
namespace L2
open PySem PySem.Spec PyProof.Rows
section
variable {X:Cx}{Γ:Fx}{E:XK}{e a b c:Expr}{f fa fb fc:VF D}{L La Lb:List Nat}{md ma mb mc:Md}{pos:Pos}
def J1 (K:PySem.W.Frag):V->Option Int->Option Int->Hp->VK->Prop:=fun x lo hi H Q=>∃a xs,x=.ref a/\c7 K H a xs/\
 ((HT.cS xs.length 0 lo=0/\HT.cS xs.length xs.length hi=xs.length)->Q (.ref a) H)/\
 (¬(HT.cS xs.length 0 lo=0/\HT.cS xs.length xs.length hi=xs.length)->∀p,H p=none->Q (.ref p) (upd H p (.tup (oA xs lo hi))))
theorem EB:Jz X (J1 X.K):=by
 intro pins s σ H x v vl vu lo hi sl Q I rx hs pl pu h
 obtain⟨a,xs,rfl,hx,hw,q⟩:=h
 by_cases z:HT.cS xs.length 0 lo=0/\HT.cS xs.length xs.length hi=xs.length
 ·have hw:=hw z
  cases rx
  obtain⟨its,r,ht,hz⟩:=I.tuple hx
  have hlen:its.toArray.size=xs.length:=by rw[List.size_toArray];exact r.length.symm
  refine⟨"tuple",_,PyProof.Rows.slot_tuple_getitem.lookup,ht.typeIs,?_⟩
  exact HT.ku ht hs pl pu (by rw[hlen];exact z) ⟨.ref a,H,I,rfl,hw⟩
 ·exact GG pins s σ H (.ref a) v vl vu lo hi sl Q I rx hs pl pu ⟨a,xs,rfl,hx,z,q z⟩
def pV (fa:VF D)(fl fh:VF (Option Int)):VF D:=fun vs β=>(fa vs β).bnd fun x β1=>(fl vs β1).bnd fun l β2=>(fh vs β2).bnd fun h β3=>match x with
 | .tuple ds=>.ok (.tuple (cutD ds l h)) β3
 |_=>.bad
theorem xC {ds:List D}{lo hi:Option Int}(h:HT.cS ds.length 0 lo=0/\HT.cS ds.length ds.length hi=ds.length):cutD ds lo hi=ds:=by
 unfold cutD;rw[h.1,h.2];simp
theorem mz {lo hi:Option Expr}{fl fh:VF (Option Int)}{Ll Lh:List Nat}{p2:Pos}(hK:X.K=Γ.K)(ha:SE X Γ E a fa La ma)(hl:HA X Γ E lo fl Ll)(hh:HA X Γ E hi fh Lh):SE X Γ E (.Subscript a (.Slice lo hi none p2) pos) (pV fa fl fh) (La ++ Ll ++ Lh) .v:=by
 refine PE.post' (vv EB ha hl hh) ?_
 rintro σ H Q ⟨env,G,B,β,I,o⟩
 refine⟨env,G,B,β,I,o.bnd.imp fun d1 β1 h x G1 H1 I1 s1 m1 vx=>⟨a7 La env,G1,B,β1,I1,?_⟩⟩
 rw[df]
 refine h.bnd.imp fun l β2 h G2 H2 I2 s2 m2=>⟨a7 Ll (a7 La env),G2,B,β2,I2,?_⟩
 rw[df,df]
 refine h.bnd.imp fun u β3 h G3 H3 I3 s3 m3=>?_
 rw[<-bP,<-bP,<-List.append_assoc] at I3
 have bx:=((vx.brw I.boxThere).mono s2 m2).mono s3 m3
 cases d1 with
 |tuple ds=>
  obtain⟨p,xs,rfl,hq,r⟩:=bx.tuple I3.sub
  rw[hK]
  dsimp only at h
  refine⟨p,xs,rfl,hq,fun z=>?_,fun hw q hn=>?_⟩
  ·rw[r.len] at z
   rw[xC z] at h
   refine h _ _ _ I3 ((s1.trans s2).trans s3) ((m1.trans m2).trans m3) ?_
   rcases bx with bx | ⟨_,_,_,bx⟩
   ·exact bx
   ·exact bx.elim
  ·have x:=Ext.new I3.sub (o:=.tup (oA xs l u)) hn
   exact h _ _ _ (I3.ext x) (((s1.trans s2).trans s3).trans x.gg) (((m1.trans m2).trans m3).trans (x.mov B)) (.tup (.inl (.inl aq)) ((yL r l u).mono x.gg))
 |_=>exact h.elim
end
end L2

end

section

end

section
namespace PyProof.Rows
open PySem PySem.Spec PySem.Calls
section
variable {prog:Program}{w:World}{A:Around}{E:Value->Shared->Prop}{s:Shared}
theorem pj {l:Addr}{vs:List Value}{Q:List Value->Shared->Prop}(hl:s.heap.IsTuple l vs.toArray)
  (h:Q vs {s with heap:=(s.heap.push (seqObj "list" #[] 0)).update s.heap.objs.size (Obj.mapSeq (· ++ vs.toArray))}) (hsz:vs.length<=sizeLine) :
  wpAny (model prog w) A (collect (.ref l)) Q E s:=by
 obtain⟨o,ho,hc,n,hd⟩:=id hl
 unfold collect
 refine wpAny_bind (wpAny_runValue (codeAny_builtin entry_proto_collect' ?_))
 show wpAny _ _ (do again (.builtin "list.__iadd__" ⟨[<-newList [],.ref l],[]⟩)) _ _ s
 refine wpAny_bind (wpAny_newList (wpAny_pure ⟨Code.quiet_builtin _ (by decide +kernel),codeAny_builtin entry_list_iadd' ?_⟩))
 show wpAny _ _ (Builtin.List.listExtendWith (.ref s.heap.objs.size) (.ref l) (.ref s.heap.objs.size)) _ _ {s with heap:=s.heap.push (seqObj "list" #[] 0)}
 unfold Builtin.List.listExtendWith
 have ho':(s.heap.push (seqObj "list" #[] 0)).get? l=some o:=Heap.get?_push_of_some _ ho
 refine wpAny_bind (wpAny_typeOf (T:="tuple") ⟨o,ho',hc⟩ ?_)
 have ht:(Value.type "tuple" == Value.type "tuple")=true:=by rfl
 rw[if_pos (by rw[ht,Bool.or_true])]
 refine wpAny_bind (listItems_at ho' hd ?_)
 refine wpAny_bind (listItems_at (xs:=#[]) (n:=0) (Heap.get?_push_size _ rfl) rfl ?_)
 rw[if_neg (by simp)]
 refine wpAny_bind (listUpdate_at (xs:=#[]) (n:=0) (Heap.get?_push_size _ rfl) rfl ?_ (Nat.zero_le _) (by show (#[] ++ vs.toArray).size<=sizeLine + 1;simp only[Array.size_append,List.size_toArray,List.length_nil];omega))
 refine wpAny_pure ?_
 show wpAny (model prog w) A (do
   let o <-load s.heap.objs.size
   match o.data with
   | .seq xs _=>pure xs.toList
   |_=>unsupported "internal:collect") Q E {s with heap:=(s.heap.push (seqObj "list" #[] 0)).update s.heap.objs.size (Obj.mapSeq (· ++ vs.toArray))}
 refine wpAny_bind (wpAny_load (get?_update_seq (Heap.get?_push_size _ rfl) _) ?_)
 show wpAny _ _ (pure ((#[]:Array Value) ++ vs.toArray).toList) Q E _
 rw[show ((#[]:Array Value) ++ vs.toArray).toList=vs by simp]
 exact wpAny_pure h
theorem so {l:Addr}{vs:List Value}{ns:List Int}{Q:Value->Shared->Prop}(hl:s.heap.IsTuple l vs.toArray)(hI:IntsAre vs ns)(h64:vs.length < 64)
  (h:∀(out:Array Value) (ns':List Int),IntsAre out.toList ns'->ns'.Perm ns->ns'.Pairwise (· <= ·)->Q (.ref (s.heap.objs.size + 1)) {s with heap:=sortedAll s.heap vs out}) :
  wpAny (model prog w) A (call (.builtin "sorted") [.ref l]) Q E s:=by
 refine Calls.call_function_entry kind_sorted plain_sorted entry_sorted (args_sorted1 _) ?_
 unfold Builtin.«sorted»
 refine wpAny_bind (m:=checkCount "sorted" 1 1 _) (wpAny_pure ?_)
 refine wpAny_bind (pj hl ?_ (by rw[sizeLine_eq];omega))
 refine wpAny_bind (wpAny_newList ?_)
 have hsz:((s.heap.push (seqObj "list" #[] 0)).update s.heap.objs.size (Obj.mapSeq (· ++ vs.toArray))).objs.size=s.heap.objs.size + 1:=by
  rw[Heap.size_update,size_push']
 have hoL:(((s.heap.push (seqObj "list" #[] 0)).update s.heap.objs.size (Obj.mapSeq (· ++ vs.toArray))).push (seqObj "list" vs.toArray 0)).get? (s.heap.objs.size + 1)=some (seqObj "list" vs.toArray 0):=by
  rw[<-hsz];exact Heap.get?_push_size _ rfl
 show wpAny _ _ _ _ _ {s with heap:=((s.heap.push (seqObj "list" #[] 0)).update s.heap.objs.size (Obj.mapSeq (· ++ vs.toArray))).push (seqObj "list" vs.toArray 0)}
 rw[hsz]
 refine wpAny_bind (wpAny_holding (wpAny_call_entry slot_list_sort ⟨_,hoL,rfl⟩ entry_list_sort (list_sort_tree hoL hI h64 fun out ns' a1 a2 a3=>⟨_,rfl,?_⟩) (args_list_sort _)))
 exact wpAny_pure ⟨_,rfl,h out ns' a1 a2 a3⟩
end
end PyProof.Rows
namespace L2
open PySem PyProof.Rows
section
variable {X:Cx}{K:PySem.W.Frag}{pins:List V}{σ:St}{H:Hp}{s:Shared}{E:XK}
def AU (K:PySem.W.Frag):List V->Hp->VK->Prop:=fun xs H Q=>∃a ns,xs= [.ref a]/\(fR K H a (ns.map V.int)\/c7 K H a (ns.map V.int))/\ns.length < 64/\∀l,H l=none->Q (.ref l) (upd H l (.lst ((sortI ns).map V.int)))
theorem wR:b8 X (.builtin "sorted") (AU X.K):=by
 intro pins s σ H xs us Q I r h
 obtain⟨a,ns,rfl,hq,hl,q⟩:=h
 rcases hq with hq |hq
 ·exact xo pins s σ H [.ref a] us Q I r ⟨a,ns,rfl,hq,hl,q⟩
 obtain⟨u,rfl,rx⟩:=vals1 r
 cases rx
 obtain⟨its,rv,pl,hz⟩:=I.tuple hq
 have hil:its.length=ns.length:=by rw[<-rv.length,List.length_map]
 refine so pl (intsAre_of rv) (by omega) fun out ns' a1 a2 a3=>?_
 obtain rfl:=kR a2 a3
 obtain⟨c,he⟩:=sortedAll_at s.heap its out
 have hf:H (s.heap.objs.size + 1)=none:=I.hok.fresh (Nat.le_succ _)
 have hz':((sortI ns).map V.int).length<=sizeLine:=by
  have:=a2.length_eq
  rw[List.length_map,sizeLine_eq];omega
 have I2:Inv X pins σ (upd H (s.heap.objs.size + 1) (.lst ((sortI ns).map V.int))) {s with heap:=sortedAll s.heap its out,toks:=s.toks}:=I.laid (t':=s.toks) (fun _ _=>sortedAll_old) (Nat.le_succ _) (show bw X.prog X.w _ _ _ (.lst ((sortI ns).map V.int)) from⟨hz',out.toList,c,sD a1,he⟩)
 exact⟨.ref _,_,I2,rfl,q _ hf⟩
def oI (d:D):Option D:=match jD d with
 |some ds=>(match gC ds with
  |some ns=>if ns.length < 64 then some (.list ((sortI ns).map PyData.int)) else none
  |none=>none)
 |_=>none
theorem DX:Ad K (fun x=>AU K [x]) oI .w:=by
 intro B G H x dx d Q s hB bx e k
 unfold oI at e
 cases q:jD dx with
 |none=>rw[q] at e;cases e
 |some ds=>
  rw[q] at e
  dsimp only at e
  cases q2:gC ds with
  |none=>rw[q2] at e;cases e
  |some ns=>
   rw[q2] at e
   dsimp only at e
   split at e
   ·rename_i hz
    cases e
    obtain⟨p,xs,rfl,hq,r⟩:=bx.seq q s
    rw[lx q2] at r
    have r:=r.intsB
    subst r
    refine⟨p,ns,rfl,hq,hz,fun l hl=>?_⟩
    have hh:ao H (upd H l (.lst ((sortI ns).map V.int))):=ao.new hl
    refine k _ _ _ (Ext.tups s hh) ⟨l,rfl,hl,?_,_,aq,bE.ints _⟩
    unfold lL
    rw[s.free hl,aq]
    exact if_neg fun y=>y
   ·cases e
end
end L2

end

section
namespace RM
open PySem L2
def lH:SF:=(bA (fT (f1 (gv 0) (fB "int")) (f1 (f1 (gv 0) (fB "bool")) yV)))
def lW:SF:=(bA (fT (f1 (gv 0) (fB "bool")) (f2 (gv 0) (gv 1) (c5 false))))
def jn (av:List D->Int->FB):SF:=(aA (bb 1 ([] ++ ([] ++ ([] ++ ([] ++ ([] ++ ([] ++ ([] ++ ([] ++ ([] ++ ([] ++ (([] ++ []) ++ (([] ++ ([] ++ [])) ++ (([] ++ []) ++ []))))))))))))) (aW (aa (cst .none) (aa (cst (.bool true)) (aa (cst (.bool false)) (aa (cst (.int (-1))) (aa (cst (.int 0)) (aa (cst (.int 1)) (aa (cst (.str "")) (aa (cst (.str "1")) (aa (bG ag) (aa (aW ag) (aa (bG (aa (cst (.int 0)) ag)) (aa (bG (aa (cst (.int 1)) (aa (bG ag) ag))) (aa (aW (aa (cst (.int 0)) ag)) ag)))))))))))))))
 (aA (bb 1 ([] ++ ([] ++ (([] ++ ([] ++ [])) ++ ([] ++ ((([] ++ ([] ++ [])) ++ []) ++ ([] ++ [])))))) (f2 (gv 1) (aW (aa (cst (.dict [(.str "a",.int 1)])) (aa (bG (aa (cst (.int 0)) (aa (cst (.int 1)) ag))) (aa (f2 (cst (.int 10)) (cst (.int 39)) Cp) (aa (bG (aa (bG (aa (cst (.int 0)) (aa (cst (.int 1)) ag))) ag)) (aa (cst (.str "a")) ag)))))) iO))
 (bA (f2 (gv 1) (jA 0 av (aa (cst (.int 18)) ag)) cv))))
def kc (bu:List D->FR):SF:=(aA (jH ([] ++ ([] ++ [])) (kN (qg (nr (f1 (gv 0) (fB "tuple")))) (cc (f2 (f1 (gv 0) cz) (gv 1) (c5 true))))
 (bA (cst (.bool false)))
 lq)
 (bA (fT (f1 (aN 1 [1] (.nm 0) (bF (gv 0)) lN (aI bu (aa (gv 0) (aa (gv 1) ag)))) (b9 fun bs=>bs.all id)) (f2 (f1 (gv 0) nK) (gv 1) (c5 false)))))
def lV:SF:=(aA (iI 1 (([] ++ []) ++ []) (f2 (aW (aa (cst (.int 0)) ag)) (f1 (gv 0) cz) BJ))
 (aA (cm (.two 2 3) [] (Cq (gv 0))
 (uf 1 [2] [] (gv 2) (gv 3)))
 (qZ 1)))
def fw (gy cE:List D->FR):SF:=(aA (jH ([0] ++ (([] ++ []) ++ [])) (qg (nr (aI gy (aa (gv 0) (aa (f2 (gv 1) (cst (.int 0)) cv) ag)))))
 (bA (cst (.bool false)))
 lq)
 (aA (bb 2 ([0] ++ []) (aI cE (aa (gv 0) ag)))
 (bA (f1 (aN 2 [2] (.two 0 1) (bF (f2 (gv 1) (cst (.int 1)) cv)) lN (f2 (f2 (gv 2) (gv 0) cv) (f2 (gv 2) (gv 1) cv) rX)) (b9 fun bs=>bs.all id)))))
def dQ:SF:=(bA (f1 (aN 1 [1,2] (.nm 0) (bF (gv 0)) lN (f2 (f2 (gv 0) (gv 1) cv) (f2 (gv 0) (gv 2) cv) rX)) (b9 fun bs=>bs.all id)))
def dR (cE cg bX:List D->FR):SF:=(aA (bb 2 ([] ++ []) (aN 1 [] (.nm 0) (bF (gv 1)) lN (aI cE (aa (gv 0) ag))))
 (bA (f1 (aN 2 [2] (.two 0 1) (bF (aI cg (aa (gv 0) ag))) (nr (aI bX (aa (gv 2) (aa (gv 0) (aa (gv 1) ag))))) (bG (aa (gv 0) (aa (gv 1) ag)))) mK)))
def jv (cu:List D->FR):SF:=(aA (jH ([] ++ ([] ++ [])) (kN (qg (nr (f1 (gv 0) (fB "list")))) (cc (f2 (f1 (gv 0) cz) (cst (.int 0)) (c5 false))))
 (bA (cst (.bool false)))
 lq)
 (bA (f1 (aN 1 [1] (.nm 0) (bF (gv 0)) lN (aI cu (aa (gv 0) (aa (gv 1) ag)))) (b9 fun bs=>bs.all id))))
def hJ:SF:=(bA (f2 (aN 2 [1] (.two 0 1) (bF (f2 (gv 0) (cst (.int 1)) cv)) (cc (f2 (jT (gv 2) (gv 0)) (jT (gv 2) (gv 1)) CV)) (cst (.int 1))) (aW ag) (c5 false)))
noncomputable def fo (cJ:List D->FR):SF:=(aA (jH ([] ++ (([] ++ []) ++ ([] ++ []))) (kN (qg (nr (f1 (gv 0) (fB "tuple")))) (kN (cc (f2 (f1 (gv 0) cz) (gv 1) (c5 true))) (qg (nr (f1 (aN 1 [] (.nm 0) (bF (gv 0)) lN (aI cJ (aa (gv 0) ag))) (b9 fun bs=>bs.all id))))))
 (bA (cst (.bool false)))
 lq)
 (bA (f2 (f1 (gv 0) oI) (f1 (gv 1) fD) (c5 false))))
def jh (av:List D->Int->FB):SF:=(aA (bb 2 [] (bG ag))
 (aA (ip ([] ++ ([] ++ [])) (cc (f2 (f1 (gv 2) cz) (f2 (gv 1) (cst (.int 0)) cv) rX))
 (aA (iI 3 [] (aW ag))
 (aA (cm (.nm 4) ([] ++ []) (dz (f2 (gv 1) (cst (.int 0)) cv))
 (aA (bb 5 (([] ++ []) ++ []) (aN 2 [4,2] (.two 0 1) (bF (f2 (gv 1) (cst (.int 1)) cv)) (sS (cc (f2 (gv 1) (gv 2) (c5 false))) (cc (f2 (gv 0) (gv 3) (zw true)))) (gv 0)))
 (jH (([] ++ []) ++ ([] ++ [])) (sS (cc (f2 (gv 4) (gv 2) (zw true))) (cc (f2 (gv 5) (aW ag) (c5 false))))
 (kx 3 [4] (gv 4))
 lq)))
 (bb 2 ([] ++ (([] ++ ([] ++ [])) ++ [])) (f2 (gv 2) (bG (aa (f2 (gv 3) (jA 0 av (aa (f1 (gv 3) cz) ag)) cv) ag)) ly)))) 1000)
 (qZ 2)))
def wK (cN eY bZ:List D->FR):SF:=(aA (uv ([1] ++ []) (aI cN (aa (gv 1) ag)))
 (bA (fT (aI eY (aa (gv 0) (aa (gv 1) ag))) (f2 (aI bZ (aa (f2 (gv 1) (cst (.int 0)) cv) (aa (gv 0) ag))) (f2 (gv 1) (cst (.int 1)) cv) (c5 false)))))
end RM

end

section

end

section

end

section

end

section

end

section

end

section
namespace PySem
open Sem (wp)
open AutoSeq1 (wpAny_loadPart')
section
variable {prog:Program}{w:World}{A:Around}{E:Value->Shared->Prop}{s:Shared}
theorem lP {Q:List Value->Shared->Prop}{r:Addr}{a b c:Int}{t u v:Tok}{n:Nat}(hh:A.handled=none)(hr:IsRange s.heap r a b c t u v)(hsmall:Builtin.Range.small a b c=true)
  (hn:Builtin.Range.rangeSize a b c=n) (hlen:n<=2 ^ 24)
  (hQ:∀h' tk (acc:Array Value),(∀b o',s.heap.get? b=some o'->h'.get? b=some o')->ItemsOf (fun i v=>∃t,v=.int (a + i * c) t) acc n->Q acc.toList {s with heap:=h',toks:=tk}) :
  wpAny (model prog w) A (collect (.ref r)) Q E s:=by
 unfold collect
 refine wpAny_bind (wpAny_runValue (codeAny_builtin F.entry_proto_collect ?_))
 rw[Around.under_plainId F.plain_proto_collect _]
 show wpAny _ A.in1 (newList [] >>= fun l=>again (.builtin "list.__iadd__" ⟨[l,.ref r],[]⟩)) _ _ s
 refine wpAny_bind (wpAny_newObj_type ?_)
 refine wpAny_pure ⟨plainId_quiet F.plain_list_iadd _,codeAny_builtin F.entry_list_iadd ?_⟩
 rw[Around.under_plainId F.plain_list_iadd _]
 show wpAny _ A.in1 (Builtin.List.listExtendWith (.ref s.heap.objs.size) (.ref r) (.ref s.heap.objs.size)) _ _ _
 have hS:(s.heap.push {cls:=.type "list",data:=.seq ([]:List Value).toArray}).get? s.heap.objs.size=some {cls:=.type "list",data:=.seq #[] 0}:=Heap.get?_push_size _ rfl
 have fin':∀h' tk (acc':Array Value) (c':Nat),(∀b o,b≠s.heap.objs.size->(s.heap.push {cls:=.type "list",data:=.seq ([]:List Value).toArray}).get? b=some o->h'.get? b=some o)->h'.get? s.heap.objs.size=some {cls:=.type "list",dict:=none,data:=.seq acc' c',slots:=#[]}->ItemsOf (fun i v=>∃t,v=.int (a + i * c) t) acc' n->
  wpAny (model prog w) A (match Value.ref s.heap.objs.size with
   |Value.ref a=>do
    match (<-load a).data with
     |Data.seq xs _=>pure xs.toList
     |_=>unsupported "internal:collect"
   |_=>unsupported "internal:collect") Q E {s with heap:=h',toks:=tk}:=by
  intro h' tk acc' c' hk hS' hacc
  show wpAny _ A (load s.heap.objs.size >>= _) _ _ _
  refine wpAny_bind (wpAny_load hS' ?_)
  refine wpAny_pure ?_
  exact hQ h' tk acc' (fun b o' hb=>hk b o' (Nat.ne_of_lt (Heap.lt_size hb)) (Heap.get?_push_of_some _ hb)) hacc
 refine wpAny_mono (wpAny_extend_range (A:=A) (R:=fun r s'=>r=.ok (.ret (.ref s.heap.objs.size))/\wpAny (model prog w) A (match Value.ref s.heap.objs.size with
   |Value.ref a=>do
    match (<-load a).data with
     |Data.seq xs _=>pure xs.toList
     |_=>unsupported "internal:collect"
   |_=>unsupported "internal:collect") Q E s')
  (s:={s with heap:=s.heap.push {cls:=.type "list",data:=.seq ([]:List Value).toArray}}) hh (Heap.get?_push_of_some _ hr) hsmall hn hlen _ _ 0 hS fun h' tk acc' c' hk hS' hacc=>⟨rfl,fin' h' tk acc' c' hk hS' hacc⟩) (fun fin s' h=>?_) (fun e s' h=>?_)
 ·cases fin with
  |done f=>
   obtain⟨e,h⟩:=h
   cases e
   exact h
  |again c'=>exact⟨h.1,codeAny_mono h.2 fun r s'' hr=>by obtain⟨rfl,h⟩:=hr;exact h⟩
 ·exact absurd h.1 (by simp)
end
theorem kz (r:Addr)(a b c:Int)(t u v:Tok)(n:Nat)(hsmall:Builtin.Range.small a b c=true)(hn:Builtin.Range.rangeSize a b c=n)(hlen:n<=2 ^ 24) :
  Meets (Builtin.«tuple.__new__» ⟨[.type "tuple",.ref r],[]⟩)
   (fun A R s=>A.handled=none/\IsRange s.heap r a b c t u v/\∀(h':Heap) tk (acc:Array Value),(∀b o',s.heap.get? b=some o'->h'.get? b=some o')->ItemsOf (fun i v=>∃t,v=.int (a + i * c) t) acc n->R (.ok (.ret (.ref h'.objs.size))) {s with heap:=h'.push {cls:=.type "tuple",data:=.seq acc},toks:=tk}):=
 .of_wp fun prog w A R s h=>by
  obtain⟨hp,g,d,tk,os⟩:=s;obtain⟨hh,hr,h⟩:=h
  have hsub:=sub_tuple_self
  have hinit:=init_tuple_lookup
  have hmh:=madeHere_tuple
  have hh1:A.in1.handled=none:=hh
  have hT:Shared.TypeIs ⟨hp,g,d,tk,os⟩ (.ref r) "range":=⟨_,hr,rfl⟩
  wp_walk using wpAny_loadPart' hr,wpAny_typeOf hT,lP hh1 hr hsmall hn hlen
  intro h' tk acc hk hacc
  show wpAny _ _ (Builtin.Tuple.tupleExact acc.toList.toArray >>= fun v=>ret v) _ _ _
  unfold Builtin.Tuple.tupleExact
  refine wpAny_bind (wpAny_newObj_type ?_ (by show acc.toList.toArray.size<=sizeLine;simp only[Array.toArray_toList];rw[hacc.1,sizeLine_eq];omega))
  refine wpAny_pure ⟨_,rfl,?_⟩
  have e:acc.toList.toArray=acc:=by simp
  rw[e]
  exact h h' tk acc hk hacc
section
variable {prog:Program}{w:World}{A:Around}{E:Value->Shared->Prop}{s:Shared}
theorem pe {r:Addr}{a b c:Int}{t u v:Tok}{n:Nat}{Q:Value->Shared->Prop}(hh:A.handled=none)(hr:IsRange s.heap r a b c t u v)(hsmall:Builtin.Range.small a b c=true)(hn:Builtin.Range.rangeSize a b c=n)(hlen:n<=2 ^ 24)
  (h:∀(h':Heap) tk (acc:Array Value),(∀b o',s.heap.get? b=some o'->h'.get? b=some o')->ItemsOf (fun i v=>∃t,v=.int (a + i * c) t) acc n->Q (.ref h'.objs.size) {s with heap:=h'.push {cls:=.type "tuple",data:=.seq acc},toks:=tk}) :
  wpAny (model prog w) A (call (.type "tuple") [.ref r]) Q E s:=
 callType_new F.called_tuple (by decide) (F.typeCall_tuple_1 _) (F.newCall_tuple_1 _) (fun obj=>F.args_object_init_2 obj _) F.entry_tuple_new
  (kz r a b c t u v n hsmall hn hlen) ⟨hh,hr,fun h' tk acc hk hacc=>⟨⟨_,Heap.get?_push_size _ rfl,rfl⟩,h h' tk acc hk hacc⟩⟩
end
end PySem
namespace L2
open PySem PySem.Spec PyProof.Rows
section
variable {K:PySem.W.Frag}{X:Cx}{G H:Hp}{Γ:Fx}{E:XK}{e a b c:Expr}{f fa fb fc:VF D}{L La Lb:List Nat}{md ma mb mc:Md}{pos apos cpos np:Pos}
theorem sH (hc:X.calm=true):b8 X (.type "tuple") (fun xs H Q=>∃p n,xs= [.ref p]/\H p=some (.cA 0 n)/\0<=n/\n<=1000/\∀l,H l=none->Q (.ref l) (upd H l (.tup ((List.range n.toNat).map fun (i:Nat)=>V.int (i:Int))))):=by
 intro pins s σ H xs us Q I r h
 obtain⟨p,n,rfl,hp,h0,h1,q⟩:=h
 obtain⟨u,rfl,rx⟩:=vals1 r
 cases rx
 obtain⟨t,u,v,hr⟩:∃t u v,s.heap.get? p=some {cls:=.type "range",data:=.fields #[.int 0 t,.int n u,.int 1 v]}:=I.hok p _ hp
 have hsz:Builtin.Range.rangeSize 0 n 1=(n.toNat:Int):=by rw[rangeSize_one];split <;> omega
 refine pe (I.ok.hd hc) hr (small_one (by omega) (by omega) (by omega) (by omega)) hsz (by omega) fun h' tk acc kp hacc=>?_
 have key:∀(m:Nat) (us:List Value) (j:Nat),us.length=m->(∀(i:Nat) (v:Value),us[i]? =some v->∃t,v=Value.int ((j + i:Nat):Int) t)->Vals ((List.range' j m).map fun (i:Nat)=>V.int (i:Int)) us:=by
  intro m
  induction m with
  |zero=>intro us j hl _;cases us with
   |nil=>exact .nil
   |cons a b=>simp at hl
  |succ m ih=>
   intro us j hl hh
   cases us with
   |nil=>simp at hl
   |cons u us=>
    rw[List.range'_succ,List.map_cons]
    refine .cons (by have:=hh 0 u rfl;simp at this;exact this) (ih us (j + 1) (by simpa using hl) fun i v hi=>?_)
    obtain⟨t,e⟩:=hh (i + 1) v (by simpa using hi)
    exact⟨t,by rw[e];congr 2;omega⟩
 have hv:Vals ((List.range n.toNat).map fun (i:Nat)=>V.int (i:Int)) acc.toList:=by
  have:=key n.toNat acc.toList 0 (by simpa using hacc.1) fun i v hi=>by
   obtain⟨t,e⟩:=hacc.2 i v (by simpa using hi)
   exact⟨t,by rw[e];simp⟩
  rw[List.range_eq_range'];exact this
 have I1:Inv X pins σ H {s with heap:=h',toks:=tk}:=I.kept (t':=tk) kp
 have I2:Inv X pins σ (upd H h'.objs.size (.tup ((List.range n.toNat).map fun (i:Nat)=>V.int (i:Int)))) {s with heap:=h'.push {cls:=.type "tuple",data:=.seq acc},toks:=tk}:=
  I1.laid (t':=tk) (fun b o e=>Heap.get?_push_of_some _ e) (Nat.le_refl _) (show bw X.prog X.w _ _ _ (.tup _) from⟨by simp;rw[sizeLine_eq];omega,acc.toList,hv,by simpa using nE.new _ _⟩)
 exact⟨.ref h'.objs.size,_,I2,rfl,q _ (I1.hok.fresh (Nat.le_refl _))⟩
def lU:D->Option D
 | .int n=>if 0<=n/\n<=1000 then some (.tuple (b7 0 n.toNat)) else none
 |_=>none
theorem zP {p1 p2 pos2:Pos}(hc:X.calm=true)(hg:Gl X "tuple")(hm:X.mg "tuple"=none)(hg2:Gl X "range")(hm2:X.mg "range"=none)(ha:SE X Γ E a fa La ma)
  (he:starEach [a] X.env=(false,eval a X.env) :: starEach [] X.env:=by rfl)
  (he2:starEach [.Call (.Name "range" p2) [a] [] pos2] X.env=(false,eval (.Call (.Name "range" p2) [a] [] pos2) X.env) :: starEach [] X.env:=by rfl) :
  SE X Γ E (.Call (.Name "tuple" p1) [.Call (.Name "range" p2) [a] [] pos2] [] pos) (f1 fa lU) La .v:=by
 refine PE.post' (dr (sH hc) hg hm (by decide +kernel) (aK (dr uX hg2 hm2 (by decide +kernel) (aK ha bg he) (by decide) (by decide) he) bg he2) (by decide) (by decide) he2) fun σ H Q ⟨env,G,B,β,I,o⟩=>?_
 refine fU (r:=fun x H1 Q=>∃n:Int,[x]= [.int n]/\∀p,H1 p=none->(fun (y:V) (H2:Hp)=>∃(p:Addr) (n:Int),[y]= [V.ref p]/\H2 p=some (.cA 0 n)/\0<=n/\n<=1000/\∀l,H2 l=none->Q (.ref l) (upd H2 l (.tup ((List.range n.toNat).map fun (i:Nat)=>V.int (i:Int))))) (V.ref p) (upd H1 p (.cA 0 n))) ?_ I o
 intro B G H x dx d Q s hB bx e k
 cases dx with
 |int n=>
  obtain rfl:=bx.int
  simp only[lU] at e
  split at e
  ·rename_i hh
   cases e
   refine⟨n,rfl,fun p hp=>⟨p,n,rfl,aq,hh.1,hh.2,fun l hl=>?_⟩⟩
   have hlp:l≠p:=fun z=>by subst z;rw[aq] at hl;cases hl
   have x1:=Ext.own s (o:=.cA 0 n) hp
   have x2:=Ext.new x1.gh (o:=.tup ((List.range n.toNat).map fun (i:Nat)=>V.int (i:Int))) hl
   exact k _ _ _ (x1.trans x2) (.tup (.inl (.inl aq)) (qX _))
  ·cases e
 |_=>cases e
end
end L2

end

section
namespace RM
open PySem L2
def fk:SF:=(aA (iI 2 [] (aW ag))
 (aA (cm (.nm 3) [] (dz (gv 0))
 (cm (.nm 4) [] (dz (gv 0))
 (aA (bb 5 ([] ++ []) (aN 1 [3,4] (.nm 0) (bF (gv 1)) (cc (f2 (jT (gv 0) (gv 1)) (jT (gv 0) (gv 2)) CV)) (cst (.int 1))))
 (jH (([] ++ []) ++ ([] ++ [])) (sS (cc (f2 (gv 3) (gv 4) (c5 true))) (cc (f2 (gv 5) (aW ag) (c5 false))))
 (kx 2 ([3] ++ ([4] ++ [])) (bG (aa (gv 3) (aa (gv 4) ag))))
 lq))))
 (bA (f1 (gv 2) mK))))
def fG:SF:=(aA (bb 1 ([] ++ []) (aW (aa (bG ag) ag)))
 (aA (cm (.nm 2) ([] ++ []) (dz (f2 (gv 0) (cst (.int 0)) cv))
 (aA (iI 3 [] (aW ag))
 (aA (cm (.nm 4) [1] (bF (gv 1))
 (cm (.nm 5) ([] ++ []) (dz (f2 (gv 0) (cst (.int 0)) cv))
 (aA (bb 6 (([] ++ []) ++ []) (aN 2 [5,4] (.two 0 1) (bF (f2 (gv 0) (cst (.int 1)) cv)) (sS (cc (f2 (gv 1) (gv 2) (c5 false))) (cc (f2 (gv 0) (gv 3) (zw true)))) (gv 0)))
 (jH (([] ++ []) ++ ([] ++ [])) (sS (cc (f2 (gv 5) (gv 4) (zw true))) (cc (f2 (gv 6) (aW ag) (c5 false))))
 (kx 3 ([] ++ ([5] ++ [])) (f2 (gv 4) (bG (aa (gv 5) ag)) ly))
 lq))))
 (bb 1 [3] (gv 3)))))
 (qZ 1)))
end RM

end

section
namespace RM
open PySem L2
def gZ (cq dk dD:List D->FR):SF:=(aA (jH ([] ++ ([] ++ [])) (kN (qg (nr (f1 (gv 0) (fB "list")))) (cc (f2 (gv 0) (aW ag) vY)))
 (bA (cst (.bool false)))
 lq)
 (aA (cm (.nm 2) [0] (bF (gv 0))
 (jH (([2] ++ (([] ++ []) ++ [])) ++ ([1] ++ ([2] ++ []))) (kN (qg (nr (aI cq (aa (gv 2) (aa (f2 (gv 1) (cst (.int 0)) cv) ag))))) (qg (nr (aI dk (aa (gv 1) (aa (gv 2) ag))))))
 (bA (cst (.bool false)))
 lq))
 (bA (f2 (aI dD (aa (f2 (gv 1) (cst (.int 0)) cv) (aa (gv 0) ag))) (f2 (gv 1) (cst (.int 1)) cv) (c5 false)))))
def gS (av:List D->Int->FB):SF:=(aA (bb 4 ([] ++ []) (jA 0 av (aa (f1 (gv 1) cz) ag)))
 (aA (bb 5 ([] ++ []) (f2 (gv 1) (gv 4) cv))
 (aA (bb 6 ([] ++ (([5] ++ ([5] ++ [])) ++ (([] ++ []) ++ (([3] ++ []) ++ (([] ++ []) ++ []))))) (aW (aa (aW ag) (aa (aW (aa (gv 5) (aa (gv 5) ag))) (aa (aW (aa (f1 (gv 5) Ax) ag)) (aa (aW (aa (gv 3) ag)) (aa (aW (aa (f1 (gv 5) Gx) ag)) ag)))))))
 (aA (bb 6 ([] ++ ((((([] ++ []) ++ []) ++ (([] ++ []) ++ [])) ++ []) ++ (((([] ++ []) ++ []) ++ []) ++ (([] ++ []) ++ [])))) (f2 (gv 6) (aW (aa (aW (aa (f2 (pV (gv 5) (vE (cst (.int 1))) (fun _ β=>.ok none β)) (pV (gv 5) (fun _ β=>.ok none β) (vE (cst (.int 1)))) ly) ag)) (aa (aW (aa (pV (gv 5) (vE (cst (.int 1))) (fun _ β=>.ok none β)) ag)) (aa (aW (aa (f1 (gv 2) lU) ag)) ag)))) iO))
 (aA (bb 7 ([] ++ []) (jA 0 av (aa (cst (.int 10)) ag)))
 (aA (jH ([] ++ []) (cc (f2 (gv 7) (cst (.int 8)) rX))
 (m8 (f2 (f2 (G9 (gv 1) (fun _ β=>.ok none β) (vE (gv 4))) (f2 (gv 6) (gv 7) cv) iO) (G9 (gv 1) (vE (f2 (gv 4) (cst (.int 1)) cD)) (fun _ β=>.ok none β)) iO))
 lq)
 (bA (f2 (aW (aa (f1 (gv 1) mK) (aa (f1 (gv 1) E1) ag))) (f2 (gv 7) (cst (.int 8)) Bq) cv))))))))
def xX (eH dq dA cM mG:List D->FR)(cI av eR eO dm:List D->Int->FB):SF:=(aA (cm (.nm 1) ([] ++ ([] ++ [])) (dz (f2 (cst (.int 1)) (f2 (f1 (gv 0) cz) (cst (.int 3)) (wa fun i j=>.int (if j < i then j else i))) (wa fun i j=>.int (if j > i then j else i))))
 (aA (xE 2 ([0] ++ ([1] ++ [])) (vk eH (aa (gv 0) (aa (gv 1) ag))))
 (aA (bb 3 ([] ++ []) (jA 2 cI (aa (cst (.int 6)) ag)))
 (aA (bb 4 (([] ++ ([] ++ [])) ++ [3]) (aN 1 [2,3] (.nm 0) (dz (f2 (cst (.int 1)) (jA 2 av (aa (cst (.int 5)) ag)) cD)) lN (jA 1 eR (aa (gv 2) ag))))
 (aA (jH ((([] ++ []) ++ []) ++ (([] ++ []) ++ [])) (sS (cc (f2 (f2 (gv 3) (cst (.int 0)) cv) (cst (.int 5)) rX)) (cc (f2 (jA 2 av (aa (cst (.int 3)) ag)) (cst (.int 0)) CV)))
 (bb 4 ([3] ++ []) (aI dq (aa (gv 3) ag)))
 lq)
 (aA (bb 5 [] (jA 2 eO ag))
 (aA (bb 6 ([] ++ []) (f2 (gv 4) (cst (.int 0)) cv))
 (aA (iI 7 ([4] ++ ([5] ++ ([] ++ (([6] ++ []) ++ [])))) (aW (aa (gv 4) (aa (gv 5) (aa (aW ag) (aa (aW (aa (gv 6) ag)) ag))))))
 (aA (kx 7 ([] ++ ([] ++ [])) (f2 (gv 4) (aW (aa (f1 (gv 6) Gx) ag)) iO))
 (aA (cm (.nm 8) [] (dz (cst (.int 4)))
 (kx 7 ([4] ++ (([] ++ []) ++ ([5] ++ []))) (jA 2 dm (aa (gv 4) (aa (f2 (gv 3) (cst (.int 0)) cv) (aa (gv 5) ag))))))
 (cm (.nm 9) [7] (bF (gv 7))
 (aA (bb 10 [] (f1 (gv 9) oM))
 (aA (bb 11 ([9] ++ ([3] ++ [])) (aI dA (aa (gv 9) (aa (gv 3) ag))))
 (jH ((([9] ++ ([3] ++ [])) ++ ([11] ++ [])) ++ ([] ++ [])) (kN (qg (nr (aI cM (aa (aI mG (aa (gv 9) (aa (gv 3) ag))) (aa (gv 11) ag))))) (cc (f2 (f1 (gv 9) oM) (gv 10) (Hn true))))
 (bA (cst (.bool false)))
 lq))))))))))))))
 (bA (cst (.bool true))))
end RM

end

section
namespace RQ
open PySem L2 RM
def top (i:Nat):Stmt:=PySem.Challenge.pw_rowsorder_k12_rows_that_tell.main.body.getD i (.Pass ⟨0,0,0,0⟩)
section
variable {P:Program}{w:World}{K:PySem.W.Frag}{mg:Str->Option Value}{base:Heap}{ca:Str->Addr}
abbrev iY:Stmt:=top 2
theorem uM:aF ["thing"] ["thing"] (au iY):=⟨rfl,rfl,rfl,by decide +kernel,rfl,by decide +kernel,by decide +kernel⟩
theorem rA {f:Addr}{fd:FuncData}(F:jw K mg "is_whole" iY ["thing"] f fd)(B:jF mg):dB P w K mg base ca "is_whole" ["thing"] 1 (ba 1 1 (oP)):=
 ⟨⟨f,fd,F.mg,F.F.kp,F.b,aZ (N:=["thing"]) (k:=0) F.F uM fun cdv A outer s H G E hr=>
  (@ax _ _ _ _ _ (aR (iZ (fM "int" (by decide) rfl rfl B.isinstance rfl B.int (by decide +kernel) (af 0)) (i8 (wm (fM "bool" (by decide) rfl rfl B.isinstance rfl B.bool (by decide +kernel) (af 0)))) (fun _ _=>rfl))))⟩,fun ds h=>aO ds h⟩
abbrev js:Stmt:=top 3
theorem uV:aF ["thing","bound"] ["thing","bound"] (au js):=⟨rfl,rfl,rfl,by decide +kernel,rfl,by decide +kernel,by decide +kernel⟩
theorem tf {f:Addr}{fd:FuncData}{bH:List D->FR}(F:jw K mg "is_below" js ["thing","bound"] f fd)(B:jF mg)(eN:dB P w K mg base ca "is_whole" ["thing"] 1 bH):dB P w K mg base ca "is_below" ["thing","bound"] 2 (ba 2 2 (o9 bH)):=
 ⟨⟨f,fd,F.mg,F.F.kp,F.b,aZ (N:=["thing","bound"]) (k:=1) F.F uV fun cdv A outer s H G E hr=>
  (@ax _ _ _ _ _ (aR (iZ (aQ eN (hr.mono (by decide)) bc rfl rfl (ae (aC 0 rfl) ah)) (i8 (ud CD oU Hq wo aw (af 0) (af 1))) (fun _ _=>rfl))))⟩,fun ds h=>aO ds h⟩
abbrev ki:Stmt:=top 4
theorem wq:aF ["thing"] ["thing"] (au ki):=⟨rfl,rfl,rfl,by decide +kernel,rfl,by decide +kernel,by decide +kernel⟩
theorem uP {f:Addr}{fd:FuncData}{bH:List D->FR}(F:jw K mg "is_many" ki ["thing"] f fd)(B:jF mg)(eN:dB P w K mg base ca "is_whole" ["thing"] 1 bH){qe:Tok}(iz:mg "MOST_THINGS"=some (.int 8 qe)):dB P w K mg base ca "is_many" ["thing"] 2 (ba 1 1 (qy bH)):=
 ⟨⟨f,fd,F.mg,F.F.kp,F.b,aZ (N:=["thing"]) (k:=1) F.F wq fun cdv A outer s H G E hr=>
  (@ax _ _ _ _ _ (aR (iZ (aQ eN (hr.mono (by decide)) bc rfl rfl (ae (aC 0 rfl) ah)) (i8 (ud CD CD Hq Hq aw (af 0) (C9 (by rfl) iz))) (fun _ _=>rfl))))⟩,fun ds h=>aO ds h⟩
abbrev ke:Stmt:=top 5
theorem wX:aF ["thing","many"] ["thing","many"] (au ke):=⟨rfl,rfl,rfl,by decide +kernel,rfl,by decide +kernel,by decide +kernel⟩
theorem uZ {f:Addr}{fd:FuncData}{bu:List D->FR}(F:jw K mg "is_pair" ke ["thing","many"] f fd)(B:jF mg)(dg:dB P w K mg base ca "is_below" ["thing","bound"] 2 bu):dB P w K mg base ca "is_pair" ["thing","many"] 3 (ba 2 2 (qJ bu)):=
 ⟨⟨f,fd,F.mg,F.F.kp,F.b,aZ (N:=["thing","many"]) (k:=2) F.F wX fun cdv A outer s H G E hr=>
  (@ak _ _ _ _ _ _ _ (dw (pO.t (kJ (c8 (cP rfl (fM "tuple" (by decide) rfl rfl B.isinstance rfl B.tuple (by decide +kernel) (af 0)))) (ja (bh (kX hr.units) fV (aP bN gV rfl B.len PySem.boot_len (af 0)) aw (aX _))) (fun _ _=>rfl)))
  (@ax _ _ _ _ _ (aR iL))
  bY)
  (@ax _ _ _ _ _ (aR (iZ (aQ dg (hr.mono (by decide)) bc rfl rfl (ae (bt aU cC (af 0) aw (fun _ _=>rfl)) (ae (aC 1 rfl) ah))) (i8 (aQ dg (hr.mono (by decide)) bc rfl rfl (ae (bt aU cC (af 0) aw (fun _ _=>rfl)) (ae (aC 1 rfl) ah)))) (fun _ _=>rfl)))))⟩,fun ds h=>aO ds h⟩
abbrev kj:Stmt:=top 6
theorem vK:aF ["thing","many"] ["thing","many"] (au kj):=⟨rfl,rfl,rfl,by decide +kernel,rfl,by decide +kernel,by decide +kernel⟩
theorem uy {f:Addr}{fd:FuncData}{bu:List D->FR}(F:jw K mg "is_line" kj ["thing","many"] f fd)(B:jF mg)(dg:dB P w K mg base ca "is_below" ["thing","bound"] 2 bu):dB P w K mg base ca "is_line" ["thing","many"] 3 (ba 2 2 (kc bu)):=
 ⟨⟨f,fd,F.mg,F.F.kp,F.b,aZ (N:=["thing","many"]) (k:=2) F.F vK fun cdv A outer s H G E hr=>
  (@ak _ _ _ _ _ _ _ (dw (pO.t (kJ (c8 (cP rfl (fM "tuple" (by decide) rfl rfl B.isinstance rfl B.tuple (by decide +kernel) (af 0)))) (ja (bh (kX hr.units) fV (aP bN gV rfl B.len PySem.boot_len (af 0)) (af 1) (aX _))) (fun _ _=>rfl)))
  (@ax _ _ _ _ _ (aR iL))
  bY)
  (@ax _ _ _ _ _ (aR (iZ (aP (iC rfl) jo rfl B.all (by decide +kernel) (cY (NB:=["one","many"]) (own:=1) (ixs:=[1]) [1] rfl (cR (by kernel_rfl)) (fun _ _=>rfl) (lr rfl (af 0)) (fun H0 G0 par br bx C ex s3 H3 pn=>(cO (i:=0) (show (["one","many"]:List Str).Nodup by decide +kernel))) (fun H0 G0 par br bx C ex s3 H3 pn hB1=>fq) (fun H0 G0 par br bx C ex s3 H3 pn hB1=>(aQ dg (hr.mono (by decide)) pz rfl rfl (ae (aC 0 (hB1 0 (by decide))) (ae (aC 1 (hB1 1 (by decide))) ah)))))) (i8 (il (cB hr.units) fV (zj rfl rfl rfl B.len rfl B.set (af 0)) (af 1) (aX _))) (fun _ _=>rfl)))))⟩,fun ds h=>aO ds h⟩
abbrev dF:Stmt:=top 7
theorem qp:aF ["many"] ["many"] (au dF):=⟨rfl,rfl,rfl,by decide +kernel,rfl,by decide +kernel,by decide +kernel⟩
theorem n6 {f:Addr}{fd:FuncData}(F:jw K mg "every_pair" dF ["many"] f fd)(B:jF mg):dB P w K mg base ca "every_pair" ["many"] 1 (ba 1 1 (gk)):=
 ⟨⟨f,fd,F.mg,F.F.kp,F.b,aZ (N:=["many"]) (k:=0) F.F qp fun cdv A outer s H G E hr=>
  (@ax _ _ _ _ _ (nW (cY (NB:=["number","many"]) (own:=1) (ixs:=[0]) [] rfl (cR (by kernel_rfl)) (fun _ _=>rfl) (j8 rfl B.range (bo jR kM (af 0) (af 0))) (fun H0 G0 par br bx C ex s3 H3 pn=>(cO (i:=0) (show (["number","many"]:List Str).Nodup by decide +kernel))) (fun H0 G0 par br bx C ex s3 H3 pn hB1=>fq) (fun H0 G0 par br bx C ex s3 H3 pn hB1=>(gz (ae (bo lE De (af 0) (af 1)) (ae (bo ll rg (af 0) (af 1)) ah)))))))⟩,fun ds h=>aO ds h⟩
abbrev jj:Stmt:=top 14
theorem tJ:aF ["pairs"] ["pairs"] (au jj):=⟨rfl,rfl,rfl,by decide +kernel,rfl,by decide +kernel,by decide +kernel⟩
theorem rO {f:Addr}{fd:FuncData}(F:jw K mg "has_ring" jj ["pairs"] f fd)(B:jF mg):dB P w K mg base ca "has_ring" ["pairs"] 1 (ba 1 1 (oF)):=
 ⟨⟨f,fd,F.mg,F.F.kp,F.b,aZ (N:=["pairs"]) (k:=0) F.F tJ fun cdv A outer s H G E hr=>
  (@ax _ _ _ _ _ (aR (aP (AG rfl) jo rfl B.any (by decide +kernel) (cY (NB:=["a","b"]) (own:=2) (ixs:=[]) [] rfl (cR (by kernel_rfl)) (fun _ _=>rfl) (lr rfl (af 0)) (fun H0 G0 par br bx C ex s3 H3 pn=>(jf (i:=0) (j:=1) (show (["a","b"]:List Str).Nodup by decide +kernel))) (fun H0 G0 par br bx C ex s3 H3 pn hB1=>fq) (fun H0 G0 par br bx C ex s3 H3 pn hB1=>(il (cB hr.units) fV (af 0) (af 1) (aX _)))))))⟩,fun ds h=>aO ds h⟩
abbrev i9:Stmt:=top 12
theorem jQ:aF ["thing","many","pairs"] ["thing"] (au i9):=⟨rfl,rfl,rfl,by decide +kernel,rfl,by decide +kernel,by decide +kernel⟩
theorem rV {f:Addr}{fd:FuncData}{gp gq iG eG:List D->FR}(F:jw K mg "is_order" i9 ["thing"] f fd)(B:jF mg)(mE:dB P w K mg base ca "is_many" ["thing"] 2 gp)(mR:dB P w K mg base ca "is_pair" ["thing","many"] 3 gq)(oC:dB P w K mg base ca "closed" ["many","pairs"] 3 iG)(k8:dB P w K mg base ca "has_ring" ["pairs"] 1 eG):dB P w K mg base ca "is_order" ["thing"] 4 (ba 3 1 (gJ gp gq iG eG)):=
 ⟨⟨f,fd,F.mg,F.F.kp,F.b,aZ (N:=["thing","many","pairs"]) (k:=3) F.F jQ fun cdv A outer s H G E hr=>
  (@ak _ _ _ _ _ _ _ (dw (pO.t (kJ (c8 (cP rfl (fM "tuple" (by decide) rfl rfl B.isinstance rfl B.tuple (by decide +kernel) (af 0)))) (ja (bh (kX hr.units) fV (aP bN gV rfl B.len PySem.boot_len (af 0)) aw (aX _))) (fun _ _=>rfl)))
  (@ax _ _ _ _ _ (aR iL))
  bY)
  (@ak _ _ _ _ _ _ _ (aS (i:=1) (bt aU cC (af 0) aw (fun _ _=>rfl)) jQ.nd)
  (@ak _ _ _ _ _ _ _ (aS (i:=2) (bt aU cC (af 0) aw (fun _ _=>rfl)) jQ.nd)
  (@ak _ _ _ _ _ _ _ (dw (pO.t (kJ (c8 (cP rfl (aQ mE (hr.mono (by decide)) bc rfl rfl (ae (aC 1 rfl) ah)))) (ja (c8 (cP rfl (fM "tuple" (by decide) rfl rfl B.isinstance rfl B.tuple (by decide +kernel) (af 2))))) (fun _ _=>rfl)))
  (@ax _ _ _ _ _ (aR iL))
  bY)
  (@ak _ _ _ _ _ _ _ (dw (c8 (cP rfl (aP (iC rfl) jo rfl B.all (by decide +kernel) (cY (NB:=["pair","many"]) (own:=1) (ixs:=[1]) [1] rfl (cR (by kernel_rfl)) (fun _ _=>rfl) (lr rfl (af 2)) (fun H0 G0 par br bx C ex s3 H3 pn=>(cO (i:=0) (show (["pair","many"]:List Str).Nodup by decide +kernel))) (fun H0 G0 par br bx C ex s3 H3 pn hB1=>fq) (fun H0 G0 par br bx C ex s3 H3 pn hB1=>(aQ mR (hr.mono (by decide)) pz rfl rfl (ae (aC 0 (hB1 0 (by decide))) (ae (aC 1 (hB1 1 (by decide))) ah))))))))
  (@ax _ _ _ _ _ (aR iL))
  bY)
  (@ax _ _ _ _ _ (aR (iZ (il (cB hr.units) fV (af 2) (aQ oC (hr.mono (by decide)) bc rfl rfl (ae (aC 1 rfl) (ae (aC 2 rfl) ah))) (aX _)) (i8 (wm (aQ k8 (hr.mono (by decide)) bc rfl rfl (ae (aC 2 rfl) ah)))) (fun _ _=>rfl)))))))))⟩,fun ds h=>aO ds h⟩
abbrev gi:Stmt:=top 15
theorem pS:aF ["thing"] ["thing"] (au gi):=⟨rfl,rfl,rfl,by decide +kernel,rfl,by decide +kernel,by decide +kernel⟩
theorem pK {f:Addr}{fd:FuncData}{eM:List D->FR}(F:jw K mg "need_order" gi ["thing"] f fd)(B:jF mg)(k6:dB P w K mg base ca "is_order" ["thing"] 4 eM)(iQ:Exc K mg ca "NoOrder"):dB P w K mg base ca "need_order" ["thing"] 5 (ba 1 1 (gm eM)):=
 ⟨⟨f,fd,F.mg,F.F.kp,F.b,aZ (N:=["thing"]) (k:=4) F.F pS fun cdv A outer s H G E hr=>
  (@ax _ _ _ _ _ (dw (c8 (cP rfl (aQ k6 (hr.mono (by decide)) bc rfl rfl (ae (aC 0 rfl) ah))))
  (@ax _ _ _ _ _ (AH iQ.ex iQ.ca rfl iQ.mg (ae BG ah)))
  bY))⟩,fun ds h=>aO ds h⟩
abbrev l7:Stmt:=top 18
theorem mr:aF ["row","found","place","thing"] ["row"] (au l7):=⟨rfl,rfl,rfl,by decide +kernel,rfl,by decide +kernel,by decide +kernel⟩
theorem vP {f:Addr}{fd:FuncData}(F:jw K mg "places" l7 ["row"] f fd)(B:jF mg):dB P w K mg base ca "places" ["row"] 1 (ba 4 1 (lV)):=
 ⟨⟨f,fd,F.mg,F.F.kp,F.b,aZ (N:=["row","found","place","thing"]) (k:=0) F.F mr fun cdv A outer s H G E hr=>
  (@ak _ _ _ _ _ _ _ (ic (i:=1) (Fq (aV (ae aw ah)) (aP bN gV rfl B.len PySem.boot_len (af 0))) mr.nd)
  (@ak _ _ _ _ _ _ _ (c9 PassesOwn.leaving rfl (Bw rfl rfl B.enumerate (af 0)) (jf (i:=2) (j:=3) mr.nd)
  (@ax _ _ _ _ _ (DF 1 (fun _=>rfl) (aC 2 rfl) (af 3))))
  (@ax _ _ _ _ _ (nN 1))))⟩,fun ds h=>aO ds h⟩
abbrev fg:Stmt:=top 17
theorem jW:aF ["thing","order","place"] ["thing","order"] (au fg):=⟨rfl,rfl,rfl,by decide +kernel,rfl,by decide +kernel,by decide +kernel⟩
theorem nA {f:Addr}{fd:FuncData}{gy cE:List D->FR}(F:jw K mg "keeps_order" fg ["thing","order"] f fd)(B:jF mg)(mj:dB P w K mg base ca "is_line" ["thing","many"] 3 gy)(iM:dB P w K mg base ca "places" ["row"] 1 cE):dB P w K mg base ca "keeps_order" ["thing","order"] 4 (ba 3 2 (fw gy cE)):=
 ⟨⟨f,fd,F.mg,F.F.kp,F.b,aZ (N:=["thing","order","place"]) (k:=3) F.F jW fun cdv A outer s H G E hr=>
  (@ak _ _ _ _ _ _ _ (dw (c8 (cP rfl (aQ mj (hr.mono (by decide)) bc rfl rfl (ae (aC 0 rfl) (ae (bt aU cC (af 1) aw (fun _ _=>rfl)) ah)))))
  (@ax _ _ _ _ _ (aR iL))
  bY)
  (@ak _ _ _ _ _ _ _ (aS (i:=2) (aQ iM (hr.mono (by decide)) bc rfl rfl (ae (aC 0 rfl) ah)) jW.nd)
  (@ax _ _ _ _ _ (aR (aP (iC rfl) jo rfl B.all (by decide +kernel) (cY (NB:=["a","b","place"]) (own:=2) (ixs:=[2]) [] rfl (cR (by kernel_rfl)) (fun _ _=>rfl) (lr rfl (bt aU cC (af 1) aw (fun _ _=>rfl))) (fun H0 G0 par br bx C ex s3 H3 pn=>(jf (i:=0) (j:=1) (show (["a","b","place"]:List Str).Nodup by decide +kernel))) (fun H0 G0 par br bx C ex s3 H3 pn hB1=>fq) (fun H0 G0 par br bx C ex s3 H3 pn hB1=>(il oU wo (bt aU cC (af 2) (af 0) (fun _ _=>rfl)) (bt aU cC (af 2) (af 1) (fun _ _=>rfl)) (aX _)))))))))⟩,fun ds h=>aO ds h⟩
abbrev dM:Stmt:=top 20
theorem nz:aF ["tables","a","b"] ["tables","a","b"] (au dM):=⟨rfl,rfl,rfl,by decide +kernel,rfl,by decide +kernel,by decide +kernel⟩
theorem my {f:Addr}{fd:FuncData}(F:jw K mg "stands_ahead" dM ["tables","a","b"] f fd)(B:jF mg):dB P w K mg base ca "stands_ahead" ["tables","a","b"] 1 (ba 3 3 (dQ)):=
 ⟨⟨f,fd,F.mg,F.F.kp,F.b,aZ (N:=["tables","a","b"]) (k:=0) F.F nz fun cdv A outer s H G E hr=>
  (@ax _ _ _ _ _ (aR (aP (iC rfl) jo rfl B.all (by decide +kernel) (cY (NB:=["place","a","b"]) (own:=1) (ixs:=[1,2]) [] rfl (cR (by kernel_rfl)) (fun _ _=>rfl) (lr rfl (af 0)) (fun H0 G0 par br bx C ex s3 H3 pn=>(cO (i:=0) (show (["place","a","b"]:List Str).Nodup by decide +kernel))) (fun H0 G0 par br bx C ex s3 H3 pn hB1=>fq) (fun H0 G0 par br bx C ex s3 H3 pn hB1=>(il oU wo (bt aU cC (af 0) (af 1) (fun _ _=>rfl)) (bt aU cC (af 0) (af 2) (fun _ _=>rfl)) (aX _)))))))⟩,fun ds h=>aO ds h⟩
abbrev dN:Stmt:=top 19
theorem jz:aF ["many","rows","tables"] ["many","rows"] (au dN):=⟨rfl,rfl,rfl,by decide +kernel,rfl,by decide +kernel,by decide +kernel⟩
theorem mP {f:Addr}{fd:FuncData}{cE cg bX:List D->FR}(F:jw K mg "shared_pairs" dN ["many","rows"] f fd)(B:jF mg)(iM:dB P w K mg base ca "places" ["row"] 1 cE)(jt:dB P w K mg base ca "every_pair" ["many"] 1 cg)(gH:dB P w K mg base ca "stands_ahead" ["tables","a","b"] 1 bX):dB P w K mg base ca "shared_pairs" ["many","rows"] 2 (ba 3 2 (dR cE cg bX)):=
 ⟨⟨f,fd,F.mg,F.F.kp,F.b,aZ (N:=["many","rows","tables"]) (k:=1) F.F jz fun cdv A outer s H G E hr=>
  (@ak _ _ _ _ _ _ _ (aS (i:=2) (@SE.wv _ _ _ _ _ _ (cY (NB:=["row"]) (own:=1) (ixs:=[]) [] rfl (cR (by kernel_rfl)) (fun _ _=>rfl) (lr rfl (af 1)) (fun H0 G0 par br bx C ex s3 H3 pn=>(cO (i:=0) (show (["row"]:List Str).Nodup by decide +kernel))) (fun H0 G0 par br bx C ex s3 H3 pn hB1=>fq) (fun H0 G0 par br bx C ex s3 H3 pn hB1=>(aQ iM (hr.mono (by decide)) pz rfl rfl (ae (aC 0 (hB1 0 (by decide))) ah))))) jz.nd)
  (@ax _ _ _ _ _ (aR (iP cX nO rfl B.tuple (by decide +kernel) (cY (NB:=["a","b","tables"]) (own:=2) (ixs:=[2]) [2] rfl (cR (by kernel_rfl)) (fun _ _=>rfl) (lr rfl (aQ jt (hr.mono (by decide)) bc rfl rfl (ae (aC 0 rfl) ah))) (fun H0 G0 par br bx C ex s3 H3 pn=>(jf (i:=0) (j:=1) (show (["a","b","tables"]:List Str).Nodup by decide +kernel))) (fun H0 G0 par br bx C ex s3 H3 pn hB2=>(j9 (cP rfl (aQ gH (hr.mono (by decide)) pz rfl rfl (ae (aC 2 (hB2 2 (by decide))) (ae (aC 0 (hB2 0 (by decide))) (ae (aC 1 (hB2 1 (by decide))) ah))))))) (fun H0 G0 par br bx C ex s3 H3 pn hB2=>(gz (ae (aC 0 (hB2 0 (by decide))) (ae (aC 1 (hB2 1 (by decide))) ah)))))))))⟩,fun ds h=>aO ds h⟩
abbrev jb:Stmt:=top 21
theorem vd:aF ["thing","order"] ["thing","order"] (au jb):=⟨rfl,rfl,rfl,by decide +kernel,rfl,by decide +kernel,by decide +kernel⟩
theorem td {f:Addr}{fd:FuncData}{cu:List D->FR}(F:jw K mg "are_rows" jb ["thing","order"] f fd)(B:jF mg)(iu:dB P w K mg base ca "keeps_order" ["thing","order"] 4 cu):dB P w K mg base ca "are_rows" ["thing","order"] 5 (ba 2 2 (jv cu)):=
 ⟨⟨f,fd,F.mg,F.F.kp,F.b,aZ (N:=["thing","order"]) (k:=4) F.F vd fun cdv A outer s H G E hr=>
  (@ak _ _ _ _ _ _ _ (dw (pO.t (kJ (c8 (cP rfl (fM "list" (by decide) rfl rfl B.isinstance rfl B.list (by decide +kernel) (af 0)))) (ja (bh (cB hr.units) fV (aP bN gV rfl B.len PySem.boot_len (af 0)) aw (aX _))) (fun _ _=>rfl)))
  (@ax _ _ _ _ _ (aR iL))
  bY)
  (@ax _ _ _ _ _ (aR (aP (iC rfl) jo rfl B.all (by decide +kernel) (cY (NB:=["row","order"]) (own:=1) (ixs:=[1]) [1] rfl (cR (by kernel_rfl)) (fun _ _=>rfl) (lr rfl (af 0)) (fun H0 G0 par br bx C ex s3 H3 pn=>(cO (i:=0) (show (["row","order"]:List Str).Nodup by decide +kernel))) (fun H0 G0 par br bx C ex s3 H3 pn hB1=>fq) (fun H0 G0 par br bx C ex s3 H3 pn hB1=>(aQ iu (hr.mono (by decide)) pz rfl rfl (ae (aC 0 (hB1 0 (by decide))) (ae (aC 1 (hB1 1 (by decide))) ah)))))))))⟩,fun ds h=>aO ds h⟩
abbrev sg:Stmt:=top 22
theorem DH:aF ["thing","order"] ["thing","order"] (au sg):=⟨rfl,rfl,rfl,by decide +kernel,rfl,by decide +kernel,by decide +kernel⟩
theorem A5 {f:Addr}{fd:FuncData}{cN eY bZ:List D->FR}(F:jw K mg "tell" sg ["thing","order"] f fd)(B:jF mg)(iX:dB P w K mg base ca "need_order" ["thing"] 5 cN)(kS:dB P w K mg base ca "are_rows" ["thing","order"] 5 eY)(gB:dB P w K mg base ca "shared_pairs" ["many","rows"] 2 bZ):dB P w K mg base ca "tell" ["thing","order"] 6 (ba 2 2 (wK cN eY bZ)):=
 ⟨⟨f,fd,F.mg,F.F.kp,F.b,aZ (N:=["thing","order"]) (k:=5) F.F DH fun cdv A outer s H G E hr=>
  (@ak _ _ _ _ _ _ _ (Dw (aQ iX (hr.mono (by decide)) bc rfl rfl (ae (aC 1 rfl) ah)))
  (@ax _ _ _ _ _ (aR (iZ (aQ kS (hr.mono (by decide)) bc rfl rfl (ae (aC 0 rfl) (ae (aC 1 rfl) ah))) (i8 (il (cB hr.units) fV (aQ gB (hr.mono (by decide)) bc rfl rfl (ae (bt aU cC (af 1) aw (fun _ _=>rfl)) (ae (aC 0 rfl) ah))) (bt aU cC (af 1) aw (fun _ _=>rfl)) (aX _))) (fun _ _=>rfl)))))⟩,fun ds h=>aO ds h⟩
abbrev hX:Stmt:=top 24
theorem sQ:aF ["script","k"] ["script","k"] (au hX):=⟨rfl,rfl,rfl,by decide +kernel,rfl,by decide +kernel,by decide +kernel⟩
theorem p6 {f:Addr}{fd:FuncData}(F:jw K mg "_law_cell" hX ["script","k"] f fd)(B:jF mg):dB P w K mg base ca "_law_cell" ["script","k"] 1 (ba 2 2 (fF)):=
 ⟨⟨f,fd,F.mg,F.F.kp,F.b,aZ (N:=["script","k"]) (k:=0) F.F sQ fun cdv A outer s H G E hr=>
  (@ak _ _ _ _ _ _ _ (dw (bh oU wo (af 1) (aP bN gV rfl B.len PySem.boot_len (af 0)) (aX _))
  (@ax _ _ _ _ _ (aR (bt aU cC (af 0) (af 1) (fun _ _=>rfl))))
  bY)
  (@ax _ _ _ _ _ (aR aw)))⟩,fun ds h=>aO ds h⟩
abbrev eS:Stmt:=top 25
theorem gO:aF ["cell","k","some","stir"] ["cell","k"] (au eS):=⟨rfl,rfl,rfl,by decide +kernel,rfl,by decide +kernel,by decide +kernel⟩
theorem rS:∃(es:List Expr) (p1 p2 p3:Pos),cx eS=.Assign [.Name "some" p1] (.List es p2) p3 :: (cx eS).drop 1/\constsOf es=some [48271,69621,16807,39373,30269,40014,40692,50021,61687,71993,83869,95561,30307]:=⟨_,_,_,_,rfl,by kernel_rfl⟩
theorem tj {f:Addr}{fd:FuncData}(F:jw K mg "_law_mix" eS ["cell","k"] f fd)(B:jF mg):dB P w K mg base ca "_law_mix" ["cell","k"] 1 (ba 4 2 (i6)):=by
 obtain⟨es,p1,p2,p3,hb,hes⟩:=rS
 refine⟨⟨f,fd,F.mg,F.F.kp,F.b,aZ (N:=["cell","k","some","stir"]) (k:=0) F.F gO fun cdv A outer s H G E hr=>?_⟩,fun ds h=>aO ds h⟩
 rw[hb]
 exact (ak (aS (i:=2) (SE.wv (aV (qB hes))) gO.nd) (@ak _ _ _ _ _ _ _ (aS (i:=3) (bo ji iW (bo ji iW (bo jR kM (bo ji iW (bo ll rg (af 0) aw) aw) (bt aU cC (af 2) (bo ll rg (af 1) aw) (fun _ _=>rfl))) (bo jR kM aw (af 1))) (bo jR kM aw (bo lE De (af 1) aw))) gO.nd)
  (@ak _ _ _ _ _ _ _ (aS (i:=3) (bo ll rg (af 3) aw) gO.nd)
  (@ax _ _ _ _ _ (aR (bo lE De (bo ll rg (bo ji iW (bo jR kM (af 3) (af 3)) (bo jR kM aw (af 1))) aw) aw))))))
abbrev i5:Stmt:=top 26
theorem fL:aF ["script","k","cell","number","j"] ["script","k"] (au i5):=⟨rfl,rfl,rfl,by decide +kernel,rfl,by decide +kernel,by decide +kernel⟩
theorem sW {f:Addr}{fd:FuncData}{dv dY:List D->FR}(F:jw K mg "_law_box" i5 ["script","k"] f fd)(B:jF mg)(jJ:dB P w K mg base ca "_law_cell" ["script","k"] 1 dv)(kP:dB P w K mg base ca "_law_mix" ["cell","k"] 1 dY):dB P w K mg base ca "_law_box" ["script","k"] 2 (ba 5 2 (iU dv dY)):=
 ⟨⟨f,fd,F.mg,F.F.kp,F.b,aZ (N:=["script","k","cell","number","j"]) (k:=1) F.F fL fun cdv A outer s H G E hr=>
  (@ak _ _ _ _ _ _ _ (aS (i:=2) (aQ jJ (hr.mono (by decide)) bc rfl rfl (ae (aC 0 rfl) (ae (aC 1 rfl) ah))) fL.nd)
  (@ak _ _ _ _ _ _ _ (dw (bh (cB hr.units) fV (bo ll rg (af 2) aw) aw (aX _))
  (@ax _ _ _ _ _ (nW (aV (ae (bo lE De (aP AF HW rfl B.abs (by decide +kernel) (af 2)) aw) ah))))
  bY)
  (@ak _ _ _ _ _ _ _ (aS (i:=3) aw fL.nd)
  (@ak _ _ _ _ _ _ _ (c9 PassesOwn.leaving rfl (j8 rfl B.range aw) (cO (i:=4) fL.nd)
  (@ax _ _ _ _ _ (aS (i:=3) (bo ji iW (bo jR kM (af 3) aw) (aQ kP (hr.mono (by decide)) bc rfl rfl (ae (aC 2 rfl) (ae (aC 4 rfl) ah)))) fL.nd)))
  (@ax _ _ _ _ _ (nW (aV (ae (aC 3 rfl) ah))))))))⟩,fun ds h=>aO ds h⟩
abbrev gY:Stmt:=top 27
theorem lQ:aF ["box","many","left","digit"] ["box","many"] (au gY):=⟨rfl,rfl,rfl,by decide +kernel,rfl,by decide +kernel,by decide +kernel⟩
theorem qt {f:Addr}{fd:FuncData}(F:jw K mg "_law_take" gY ["box","many"] f fd)(B:jF mg):jG P w K mg base "_law_take" ["box","many"] 1 bI:=by
 refine⟨⟨f,fd,F.mg,F.F.kp,F.b,?_⟩,fun ds β h=>?_⟩
 ·refine F.F.Ai lQ (fun vs H Q E h=>?_) (fun cdv A outer s H vs Q E hr h=>?_)
  ·obtain⟨b,rest,G,ds,β,rfl,hb,gb,sG,hl,r,_⟩:=h
   rw[List.length_cons,r.len,hl];rfl
  ·obtain⟨b,rest,G,ds,β,rfl,hb,gb,sG,hl,r,h⟩:=h
   obtain⟨m,rfl,h0,h1⟩:=yj (fun z=>by rw[z] at h;exact h)
   rw[rQ h0 h1] at h
   have kk:∀v G' H',hV (some b) H H'->H' b=some (.lst [.int (β / m)])->ao G G'->ao G' H'->(∀c,Mx H c->G c=none->G' c=none)->FV K H G' H' false (.int (β % m)) v->Q v H':=h
   cases r with
   |cons r1 r2=>
    cases r1
    cases r2
    refine⟨_,gG (pk (iR vb rfl B.divmod (by decide +kernel) (aK (kB gf (pv 0) mO (fun _ _=>rfl)) (aK (pv 1) bg))) (C7 (i:=2) (j:=3) lQ.nd rfl rfl rfl rfl rfl))
     (gG (pk (pv 2) (tq (pv 0) mO set_list)) (gP (mD (pv 3)))),?_⟩
    refine⟨_,rfl,b,_,0,.int β,rfl,rfl,.inl (.inl hb),rfl,_,rfl,β,m,rfl,⟨h0,h1⟩,fun p hp=>⟨p,_,rfl,.inl (.inl aq),rfl,_,_,rfl,_,_,rfl,rfl,?_⟩⟩
    have hbp:b≠p:=aG hb hp
    exact⟨_,rfl,_,rfl,b,[.int β],0,0,rfl,rfl,by rw[ay hbp];exact hb,rfl,_,rfl,BL hb sG hp kk gb⟩
 ·obtain⟨m,rfl,_⟩:=yj h
  rfl
abbrev fZ:Stmt:=top 28
theorem pR:aF ["thing"] ["thing"] (au fZ):=⟨rfl,rfl,rfl,by decide +kernel,rfl,by decide +kernel,by decide +kernel⟩
theorem ph {f:Addr}{fd:FuncData}(F:jw K mg "_law_whole" fZ ["thing"] f fd)(B:jF mg):dB P w K mg base ca "_law_whole" ["thing"] 1 (ba 1 1 (lH)):=
 ⟨⟨f,fd,F.mg,F.F.kp,F.b,aZ (N:=["thing"]) (k:=0) F.F pR fun cdv A outer s H G E hr=>
  (@ax _ _ _ _ _ (aR (iZ (fM "int" (by decide) rfl rfl B.isinstance rfl B.int (by decide +kernel) (af 0)) (i8 (wm (fM "bool" (by decide) rfl rfl B.isinstance rfl B.bool (by decide +kernel) (af 0)))) (fun _ _=>rfl))))⟩,fun ds h=>aO ds h⟩
abbrev fW:Stmt:=top 29
theorem p9:aF ["found","due"] ["found","due"] (au fW):=⟨rfl,rfl,rfl,by decide +kernel,rfl,by decide +kernel,by decide +kernel⟩
theorem oo {f:Addr}{fd:FuncData}(F:jw K mg "_law_truth" fW ["found","due"] f fd)(B:jF mg):dB P w K mg base ca "_law_truth" ["found","due"] 1 (ba 2 2 (lW)):=
 ⟨⟨f,fd,F.mg,F.F.kp,F.b,aZ (N:=["found","due"]) (k:=0) F.F p9 fun cdv A outer s H G E hr=>
  (@ax _ _ _ _ _ (aR (iZ (fM "bool" (by decide) rfl rfl B.isinstance rfl B.bool (by decide +kernel) (af 0)) (i8 (il (cB hr.units) fV (af 0) (af 1) (aX _))) (fun _ _=>rfl))))⟩,fun ds h=>aO ds h⟩
abbrev i7:Stmt:=top 30
theorem j6:aF ["box","some"] ["box"] (au i7):=⟨rfl,rfl,rfl,by decide +kernel,rfl,by decide +kernel,by decide +kernel⟩
theorem sr {f:Addr}{fd:FuncData}{av:List D->Int->FB}(F:jw K mg "_law_odd" i7 ["box"] f fd)(B:jF mg)(aH:jG P w K mg base "_law_take" ["box","many"] 1 av):jG P w K mg base "_law_odd" ["box"] 2 (me 2 0 (jn av)):=
 ⟨⟨f,fd,F.mg,F.F.kp,F.b,jM (ca:=fun _=>0) (N:=["box","some"]) (k:=1) F.F j6 (by decide) fun cdv A outer s H G b E hr=>
  (@ak _ _ _ _ _ _ _ (@Ir _ _ _ 1 _ _ (aa (cst .none) (aa (cst (.bool true)) (aa (cst (.bool false)) (aa (cst (.int (-1))) (aa (cst (.int 0)) (aa (cst (.int 1)) (aa (cst (.str "")) (aa (cst (.str "1")) (aa (bG ag) (aa (aW ag) (aa (bG (aa (cst (.int 0)) ag)) (aa (bG (aa (cst (.int 1)) (aa (bG ag) ag))) (aa (aW (aa (cst (.int 0)) ag)) ag))))))))))))) ([] ++ ([] ++ ([] ++ ([] ++ ([] ++ ([] ++ ([] ++ ([] ++ ([] ++ ([] ++ (([] ++ []) ++ (([] ++ ([] ++ [])) ++ (([] ++ []) ++ []))))))))))))) _ _ _ [] (by kernel_rfl) (fun _=>rfl) (by kernel_rfl) j6.nd rfl (by first |exact Or.inl rfl |exact Or.inr rfl) (by first |exact .inl rfl |exact .inr rfl))
  (@ak _ _ _ _ _ _ _ (aS (i:=1) (@SE.wv _ _ _ _ _ _ (bo jg n0 (af 1) (@E5 _ _ _ _ (aa (cst (.dict [(.str "a",.int 1)])) (aa (bG (aa (cst (.int 0)) (aa (cst (.int 1)) ag))) (aa (f2 (cst (.int 10)) (cst (.int 39)) Cp) (aa (bG (aa (bG (aa (cst (.int 0)) (aa (cst (.int 1)) ag))) ag)) (aa (cst (.str "a")) ag))))) ([] ++ (([] ++ ([] ++ [])) ++ ([] ++ ((([] ++ ([] ++ [])) ++ []) ++ ([] ++ []))))) _ [] (by kernel_rfl) (fun _=>rfl) (by kernel_rfl)))) j6.nd)
  (@ax _ _ _ _ _ (aR (bt aU cC (af 1) (gL 0 aH (hr.mono (by decide)) bc rfl rfl (ae aw ah)) (fun _ _=>rfl))))))⟩,fun ds β h=>jX ds β h⟩
abbrev c3:Stmt:=top 31
theorem dZ:aF ["box","some","left","found"] ["box","some"] (au c3):=⟨rfl,rfl,rfl,by decide +kernel,rfl,by decide +kernel,by decide +kernel⟩
theorem lF {f:Addr}{fd:FuncData}{av:List D->Int->FB}(F:jw K mg "_law_mixed_up" c3 ["box","some"] f fd)(B:jF mg)(aH:jG P w K mg base "_law_take" ["box","many"] 1 av):jG P w K mg base "_law_mixed_up" ["box","some"] 2 (me 4 1 (cZ av)):=
 ⟨⟨f,fd,F.mg,F.F.kp,F.b,jM (ca:=fun _=>0) (N:=["box","some","left","found"]) (k:=1) F.F dZ (by decide) fun cdv A outer s H G b E hr=>
  (@ak _ _ _ _ _ _ _ (ic (i:=2) (iP l5 Ao rfl B.list (by decide +kernel) (af 1)) dZ.nd)
  (@ak _ _ _ _ _ _ _ (ic (i:=3) (aV ah) dZ.nd)
  (@ak _ _ _ _ _ _ _ (pH 1000 PassesOwn.leaving (bh (kX hr.units) fV (af 2) (aV ah) (aX _))
  (@ax _ _ _ _ _ (zA 3 2 (fun _=>rfl) (gL 0 aH (hr.mono (by decide)) bc rfl rfl (ae (aP bN gV rfl B.len PySem.boot_len (af 2)) ah)))))
  (@ax _ _ _ _ _ (nN 3)))))⟩,fun ds β h=>jX ds β h⟩
abbrev fu:Stmt:=top 32
theorem bq:aF ["pairs","found","size","more","a","b"] ["pairs"] (au fu):=⟨rfl,rfl,rfl,by decide +kernel,rfl,by decide +kernel,by decide +kernel⟩
theorem nv {f:Addr}{fd:FuncData}(F:jw K mg "_law_closed" fu ["pairs"] f fd)(B:jF mg):dB P w K mg base ca "_law_closed" ["pairs"] 1 (ba 6 1 (eZ)):=
 ⟨⟨f,fd,F.mg,F.F.kp,F.b,aZ (N:=["pairs","found","size","more","a","b"]) (k:=0) F.F bq fun cdv A outer s H G E hr=>
  (@ak _ _ _ _ _ _ _ (aS (i:=1) (@SE.wv _ _ _ _ _ _ (oG rfl hr.units rfl rfl B.sorted rfl B.set (af 0))) bq.nd)
  (@ak _ _ _ _ _ _ _ (aS (i:=2) (E8 si Fh aw) bq.nd)
  (@ak _ _ _ _ _ _ _ (pH 1000 PassesOwn.leaving (bh (kX hr.units) fV (af 2) (aP bN gV rfl B.len PySem.boot_len (af 1)) (aX _))
  (@ak _ _ _ _ _ _ _ (aS (i:=2) (aP bN gV rfl B.len PySem.boot_len (af 1)) bq.nd)
  (@ak _ _ _ _ _ _ _ (aS (i:=3) (@SE.wv _ _ _ _ _ _ (aV ah)) bq.nd)
  (@ak _ _ _ _ _ _ _ (c9 PassesOwn.leaving rfl (Ej rfl (aC 1 rfl)) (jf (i:=4) (j:=5) bq.nd)
  (@ax _ _ _ _ _ (aS (i:=3) (@SE.wv _ _ _ _ _ _ (bo jg n0 (af 3) (cY (NB:=["c","d","b","a"]) (own:=2) (ixs:=[5,4]) [4] rfl (cR (by kernel_rfl)) (fun _ _=>rfl) (lr rfl (af 1)) (fun H0 G0 par br bx C ex s3 H3 pn=>(jf (i:=0) (j:=1) (show (["c","d","b","a"]:List Str).Nodup by decide +kernel))) (fun H0 G0 par br bx C ex s3 H3 pn hB1=>(j9 (bh (cB hr.units) fV (af 0) (af 2) (aX _)))) (fun H0 G0 par br bx C ex s3 H3 pn hB1=>(gz (ae (aC 3 (hB1 3 (by decide))) (ae (aC 1 (hB1 1 (by decide))) ah))))))) bq.nd)))
  (@ax _ _ _ _ _ (aS (i:=1) (@SE.wv _ _ _ _ _ _ (oG rfl hr.units rfl rfl B.sorted rfl B.set (bo jg n0 (af 1) (af 3)))) bq.nd))))))
  (@ax _ _ _ _ _ (aR (iP cX nO rfl B.tuple (by decide +kernel) (af 1)))))))⟩,fun ds h=>aO ds h⟩
abbrev gj:Stmt:=top 33
theorem bS:aF ["box","most","many","names","thin","pairs","i","j"] ["box","most"] (au gj):=⟨rfl,rfl,rfl,by decide +kernel,rfl,by decide +kernel,by decide +kernel⟩
theorem oB {f:Addr}{fd:FuncData}{cp:List D->FR}{av bL:List D->Int->FB}(F:jw K mg "_law_order" gj ["box","most"] f fd)(B:jF mg)(iw:dB P w K mg base ca "_law_closed" ["pairs"] 1 cp)(aH:jG P w K mg base "_law_take" ["box","many"] 1 av)(fO:jG P w K mg base "_law_mixed_up" ["box","some"] 2 bL):jG P w K mg base "_law_order" ["box","most"] 3 (me 8 1 (gc cp av bL)):=
 ⟨⟨f,fd,F.mg,F.F.kp,F.b,jM (ca:=ca) (N:=["box","most","many","names","thin","pairs","i","j"]) (k:=2) F.F bS (by decide) fun cdv A outer s H G b E hr=>
  (@ak _ _ _ _ _ _ _ (aS (i:=2) (bo ji iW aw (gL 0 aH (hr.mono (by decide)) bc rfl rfl (ae (aC 1 rfl) ah))) bS.nd)
  (@ak _ _ _ _ _ _ _ (aS (i:=3) (gL 0 fO (hr.mono (by decide)) bc rfl rfl (ae (@SE.wv _ _ _ _ _ _ (oE rfl rfl B.list rfl B.range (af 2))) ah)) bS.nd)
  (@ak _ _ _ _ _ _ _ (aS (i:=4) (bt aU cC (aV (ae aw (ae aw (ae aw (ae aw ah))))) (gL 0 aH (hr.mono (by decide)) bc rfl rfl (ae aw ah)) (fun _ _=>rfl)) bS.nd)
  (@ak _ _ _ _ _ _ _ (ic (i:=5) (aV ah) bS.nd)
  (@ak _ _ _ _ _ _ _ (c9 PassesOwn.leaving rfl (j8 rfl B.range (af 2)) (cO (i:=6) bS.nd)
  (@ax _ _ _ _ _ (c9 PassesOwn.leaving rfl (IL rfl B.range (bo ji iW (af 6) aw) (af 2)) (cO (i:=7) bS.nd)
  (@ax _ _ _ _ _ (dw (bh (cB hr.units) fV (gL 0 aH (hr.mono (by decide)) bc rfl rfl (ae (aC 4 rfl) ah)) aw (aX _))
  (@ax _ _ _ _ _ (gr 5 (fun _=>rfl) (gz (ae (bt aU cC (af 3) (af 6) (fun _ _=>rfl)) (ae (bt aU cC (af 3) (af 7) (fun _ _=>rfl)) ah)))))
  bY)))))
  (@ax _ _ _ _ _ (aR (gz (ae (aC 2 rfl) (ae (aQ iw (hr.mono (by decide)) bc rfl rfl (ae (aC 5 rfl) ah)) ah))))))))))⟩,fun ds β h=>jX ds β h⟩
abbrev hU:Stmt:=top 34
theorem rM:aF ["order","row"] ["order","row"] (au hU):=⟨rfl,rfl,rfl,by decide +kernel,rfl,by decide +kernel,by decide +kernel⟩
theorem pZ {f:Addr}{fd:FuncData}(F:jw K mg "_law_fits" hU ["order","row"] f fd)(B:jF mg):dB P w K mg base ca "_law_fits" ["order","row"] 1 (ba 2 2 (hJ)):=
 ⟨⟨f,fd,F.mg,F.F.kp,F.b,aZ (N:=["order","row"]) (k:=0) F.F rM fun cdv A outer s H G E hr=>
  (@ax _ _ _ _ _ (aR (il (cB hr.units) fV (cY (NB:=["a","b","row"]) (own:=2) (ixs:=[1]) [] rfl (cR (by kernel_rfl)) (fun _ _=>rfl) (lr rfl (bt aU cC (af 0) aw (fun _ _=>rfl))) (fun H0 G0 par br bx C ex s3 H3 pn=>(jf (i:=0) (j:=1) (show (["a","b","row"]:List Str).Nodup by decide +kernel))) (fun H0 G0 par br bx C ex s3 H3 pn hB1=>(j9 (bh A9 Gg (lK rfl (af 2) (af 0)) (lK rfl (af 2) (af 1)) (aX _)))) (fun H0 G0 par br bx C ex s3 H3 pn hB1=>aw)) (aV ah) (aX _))))⟩,fun ds h=>aO ds h⟩
abbrev g8:Stmt:=top 35
theorem bQ:aF ["order","found","turn","more","row","thing","left"] ["order"] (au g8):=⟨rfl,rfl,rfl,by decide +kernel,rfl,by decide +kernel,by decide +kernel⟩
theorem p8 {f:Addr}{fd:FuncData}(F:jw K mg "_law_rows" g8 ["order"] f fd)(B:jF mg):dB P w K mg base ca "_law_rows" ["order"] 1 (ba 7 1 (fG)):=
 ⟨⟨f,fd,F.mg,F.F.kp,F.b,aZ (N:=["order","found","turn","more","row","thing","left"]) (k:=0) F.F bQ fun cdv A outer s H G E hr=>
  (@ak _ _ _ _ _ _ _ (aS (i:=1) (@SE.wv _ _ _ _ _ _ (aV (ae (gz ah) ah))) bQ.nd)
  (@ak _ _ _ _ _ _ _ (c9 PassesOwn.leaving rfl (j8 rfl B.range (bt aU cC (af 0) aw (fun _ _=>rfl))) (cO (i:=2) bQ.nd)
  (@ak _ _ _ _ _ _ _ (ic (i:=3) (aV ah) bQ.nd)
  (@ak _ _ _ _ _ _ _ (c9 PassesOwn.leaving rfl (Ej rfl (aC 1 rfl)) (cO (i:=4) bQ.nd)
  (@ax _ _ _ _ _ (c9 PassesOwn.leaving rfl (j8 rfl B.range (bt aU cC (af 0) aw (fun _ _=>rfl))) (cO (i:=5) bQ.nd)
  (@ak _ _ _ _ _ _ _ (nP (i:=6) (NB:=["a","b","thing","row"]) (own:=2) (ixs:=[5,4]) [] rfl (cR (by kernel_rfl)) (fun _ _=>rfl) (lr rfl (bt aU cC (af 0) aw (fun _ _=>rfl))) (fun H0 G0 par br bx C ex s3 H3 pn=>(jf (i:=0) (j:=1) (show (["a","b","thing","row"]:List Str).Nodup by decide +kernel))) (fun H0 G0 par br bx C ex s3 H3 pn hB1=>(j9 (pO.t (mS (bh (cB hr.units) fV (af 1) (af 2) (aX _)) (kn (bh (kg hr.u1) Et (af 0) (af 3) (by with_unfolding_all rfl))) (fun i hi=>hB1 i (by revert i hi;decide)))))) (fun H0 G0 par br bx C ex s3 H3 pn hB1=>(aC 0 (hB1 0 (by decide)))) bQ.nd)
  (@ax _ _ _ _ _ (dw (pO.t (mS (bh (kg hr.u1) Et (af 5) (af 4) (by with_unfolding_all rfl)) (kn (bh (cB hr.units) fV (af 6) (aV ah) (aX _))) (fun _ _=>rfl)))
  (@ax _ _ _ _ _ (gr 3 (fun _=>rfl) (bo ot wB (af 4) (gz (ae (aC 5 rfl) ah)))))
  bY))))))
  (@ax _ _ _ _ _ (aS (i:=1) (aC 3 rfl) bQ.nd)))))
  (@ax _ _ _ _ _ (nN 1))))⟩,fun ds h=>aO ds h⟩
abbrev jr:Stmt:=top 36
theorem dC:aF ["box","order","row","free","thing","left"] ["box","order"] (au jr):=⟨rfl,rfl,rfl,by decide +kernel,rfl,by decide +kernel,by decide +kernel⟩
theorem sV {f:Addr}{fd:FuncData}{av:List D->Int->FB}(F:jw K mg "_law_row" jr ["box","order"] f fd)(B:jF mg)(aH:jG P w K mg base "_law_take" ["box","many"] 1 av):jG P w K mg base "_law_row" ["box","order"] 2 (me 6 1 (jh av)):=
 ⟨⟨f,fd,F.mg,F.F.kp,F.b,jM (ca:=fun _=>0) (N:=["box","order","row","free","thing","left"]) (k:=1) F.F dC (by decide) fun cdv A outer s H G b E hr=>
  (@ak _ _ _ _ _ _ _ (aS (i:=2) (gz ah) dC.nd)
  (@ak _ _ _ _ _ _ _ (pH 1000 PassesOwn.leaving (bh oU wo (aP bN gV rfl B.len PySem.boot_len (af 2)) (bt aU cC (af 1) aw (fun _ _=>rfl)) (aX _))
  (@ak _ _ _ _ _ _ _ (ic (i:=3) (aV ah) dC.nd)
  (@ak _ _ _ _ _ _ _ (c9 PassesOwn.leaving rfl (j8 rfl B.range (bt aU cC (af 1) aw (fun _ _=>rfl))) (cO (i:=4) dC.nd)
  (@ak _ _ _ _ _ _ _ (nP (i:=5) (NB:=["a","b","thing","row"]) (own:=2) (ixs:=[4,2]) [] rfl (cR (by kernel_rfl)) (fun _ _=>rfl) (lr rfl (bt aU cC (af 1) aw (fun _ _=>rfl))) (fun H0 G0 par br bx C ex s3 H3 pn=>(jf (i:=0) (j:=1) (show (["a","b","thing","row"]:List Str).Nodup by decide +kernel))) (fun H0 G0 par br bx C ex s3 H3 pn hB1=>(j9 (pO.t (mS (bh (cB hr.units) fV (af 1) (af 2) (aX _)) (kn (bh (kg hr.u1) Et (af 0) (af 3) (by with_unfolding_all rfl))) (fun i hi=>hB1 i (by revert i hi;decide)))))) (fun H0 G0 par br bx C ex s3 H3 pn hB1=>(aC 0 (hB1 0 (by decide)))) dC.nd)
  (@ax _ _ _ _ _ (dw (pO.t (mS (bh (kg hr.u1) Et (af 4) (af 2) (by with_unfolding_all rfl)) (kn (bh (cB hr.units) fV (af 5) (aV ah) (aX _))) (fun _ _=>rfl)))
  (@ax _ _ _ _ _ (gr 3 (fun _=>rfl) (aC 4 rfl)))
  bY))))
  (@ax _ _ _ _ _ (aS (i:=2) (bo ot wB (af 2) (gz (ae (bt aU cC (af 3) (gL 0 aH (hr.mono (by decide)) bc rfl rfl (ae (aP bN gV rfl B.len PySem.boot_len (af 3)) ah)) (fun _ _=>rfl)) ah))) dC.nd)))))
  (@ax _ _ _ _ _ (nN 2))))⟩,fun ds β h=>jX ds β h⟩
abbrev fj:Stmt:=top 37
theorem oX:aF ["thing","many"] ["thing","many"] (au fj):=⟨rfl,rfl,rfl,by decide +kernel,rfl,by decide +kernel,by decide +kernel⟩
theorem nG {f:Addr}{fd:FuncData}{cJ:List D->FR}(F:jw K mg "_law_is_row" fj ["thing","many"] f fd)(B:jF mg)(iV:dB P w K mg base ca "_law_whole" ["thing"] 1 cJ):dB P w K mg base ca "_law_is_row" ["thing","many"] 2 (ba 2 2 (fo cJ)):=
 ⟨⟨f,fd,F.mg,F.F.kp,F.b,aZ (N:=["thing","many"]) (k:=1) F.F oX fun cdv A outer s H G E hr=>
  (@ak _ _ _ _ _ _ _ (dw (pO.t (kJ (c8 (cP rfl (fM "tuple" (by decide) rfl rfl B.isinstance rfl B.tuple (by decide +kernel) (af 0)))) (kJ (bh (kX hr.units) fV (aP bN gV rfl B.len PySem.boot_len (af 0)) (af 1) (aX _)) (ja (c8 (cP rfl (aP (iC rfl) jo rfl B.all (by decide +kernel) (cY (NB:=["one"]) (own:=1) (ixs:=[]) [] rfl (cR (by kernel_rfl)) (fun _ _=>rfl) (lr rfl (af 0)) (fun H0 G0 par br bx C ex s3 H3 pn=>(cO (i:=0) (show (["one"]:List Str).Nodup by decide +kernel))) (fun H0 G0 par br bx C ex s3 H3 pn hB1=>fq) (fun H0 G0 par br bx C ex s3 H3 pn hB1=>(aQ iV (hr.mono (by decide)) pz rfl rfl (ae (aC 0 (hB1 0 (by decide))) ah)))))))) (fun _ _=>rfl)) (fun _ _=>rfl)))
  (@ax _ _ _ _ _ (aR iL))
  bY)
  (@ax _ _ _ _ _ (aR (il (cB hr.units) fV (aP wR DX rfl B.sorted (by decide +kernel) (af 0)) (oE rfl rfl B.list rfl B.range (af 1)) (aX _)))))⟩,fun ds h=>aO ds h⟩
abbrev ie:Stmt:=top 38
theorem dP:aF ["many","rows","found","a","b","left"] ["many","rows"] (au ie):=⟨rfl,rfl,rfl,by decide +kernel,rfl,by decide +kernel,by decide +kernel⟩
theorem qu {f:Addr}{fd:FuncData}(F:jw K mg "_law_told" ie ["many","rows"] f fd)(B:jF mg):dB P w K mg base ca "_law_told" ["many","rows"] 1 (ba 6 2 (fk)):=
 ⟨⟨f,fd,F.mg,F.F.kp,F.b,aZ (N:=["many","rows","found","a","b","left"]) (k:=0) F.F dP fun cdv A outer s H G E hr=>
  (@ak _ _ _ _ _ _ _ (ic (i:=2) (aV ah) dP.nd)
  (@ak _ _ _ _ _ _ _ (c9 PassesOwn.leaving rfl (j8 rfl B.range (af 0)) (cO (i:=3) dP.nd)
  (@ax _ _ _ _ _ (c9 PassesOwn.leaving rfl (j8 rfl B.range (af 0)) (cO (i:=4) dP.nd)
  (@ak _ _ _ _ _ _ _ (nP (i:=5) (NB:=["one","a","b"]) (own:=1) (ixs:=[3,4]) [] rfl (cR (by kernel_rfl)) (fun _ _=>rfl) (lr rfl (af 1)) (fun H0 G0 par br bx C ex s3 H3 pn=>(cO (i:=0) (show (["one","a","b"]:List Str).Nodup by decide +kernel))) (fun H0 G0 par br bx C ex s3 H3 pn hB1=>(j9 (bh A9 Gg (lK rfl (af 0) (af 1)) (lK rfl (af 0) (af 2)) (aX _)))) (fun H0 G0 par br bx C ex s3 H3 pn hB1=>aw) dP.nd)
  (@ax _ _ _ _ _ (dw (pO.t (mS (bh (kX hr.units) fV (af 3) (af 4) (aX _)) (kn (bh (cB hr.units) fV (af 5) (aV ah) (aX _))) (fun _ _=>rfl)))
  (@ax _ _ _ _ _ (gr 2 (fun _=>rfl) (gz (ae (aC 3 rfl) (ae (aC 4 rfl) ah)))))
  bY))))))
  (@ax _ _ _ _ _ (aR (iP cX nO rfl B.tuple (by decide +kernel) (af 2))))))⟩,fun ds h=>aO ds h⟩
abbrev hW:Stmt:=top 39
theorem lZ:aF ["thing","order","row"] ["thing","order"] (au hW):=⟨rfl,rfl,rfl,by decide +kernel,rfl,by decide +kernel,by decide +kernel⟩
theorem ql {f:Addr}{fd:FuncData}{cq dk dD:List D->FR}(F:jw K mg "_law_tell" hW ["thing","order"] f fd)(B:jF mg)(iA:dB P w K mg base ca "_law_is_row" ["thing","many"] 2 cq)(jO:dB P w K mg base ca "_law_fits" ["order","row"] 1 dk)(jY:dB P w K mg base ca "_law_told" ["many","rows"] 1 dD):dB P w K mg base ca "_law_tell" ["thing","order"] 3 (ba 3 2 (gZ cq dk dD)):=
 ⟨⟨f,fd,F.mg,F.F.kp,F.b,aZ (N:=["thing","order","row"]) (k:=2) F.F lZ fun cdv A outer s H G E hr=>
  (@ak _ _ _ _ _ _ _ (dw (pO.t (kJ (c8 (cP rfl (fM "list" (by decide) rfl rfl B.isinstance rfl B.list (by decide +kernel) (af 0)))) (ja (bh (An hr.units) C8 (af 0) (aV ah) (aX _))) (fun _ _=>rfl)))
  (@ax _ _ _ _ _ (aR iL))
  bY)
  (@ak _ _ _ _ _ _ _ (c9 PassesOwn.leaving rfl (Ej rfl (aC 0 rfl)) (cO (i:=2) lZ.nd)
  (@ax _ _ _ _ _ (dw (pO.t (kJ (c8 (cP rfl (aQ iA (hr.mono (by decide)) bc rfl rfl (ae (aC 2 rfl) (ae (bt aU cC (af 1) aw (fun _ _=>rfl)) ah))))) (ja (c8 (cP rfl (aQ jO (hr.mono (by decide)) bc rfl rfl (ae (aC 1 rfl) (ae (aC 2 rfl) ah)))))) (fun _ _=>rfl)))
  (@ax _ _ _ _ _ (aR iL))
  bY)))
  (@ax _ _ _ _ _ (aR (il (cB hr.units) fV (aQ jY (hr.mono (by decide)) bc rfl rfl (ae (bt aU cC (af 1) aw (fun _ _=>rfl)) (ae (aC 0 rfl) ah))) (bt aU cC (af 1) aw (fun _ _=>rfl)) (aX _))))))⟩,fun ds h=>aO ds h⟩
abbrev hG:Stmt:=top 40
theorem cK:aF ["box","rows","many","odd","at","row","news","kind"] ["box","rows","many","odd"] (au hG):=⟨rfl,rfl,rfl,by decide +kernel,rfl,by decide +kernel,by decide +kernel⟩
theorem p0 {f:Addr}{fd:FuncData}{av:List D->Int->FB}(F:jw K mg "_law_bent" hG ["box","rows","many","odd"] f fd)(B:jF mg)(aH:jG P w K mg base "_law_take" ["box","many"] 1 av):jG P w K mg base "_law_bent" ["box","rows","many","odd"] 2 (me 8 3 (gS av)):=
 ⟨⟨f,fd,F.mg,F.F.kp,F.b,jM (ca:=fun _=>0) (N:=["box","rows","many","odd","at","row","news","kind"]) (k:=1) F.F cK (by decide) fun cdv A outer s H G b E hr=>
  (@ak _ _ _ _ _ _ _ (aS (i:=4) (gL 0 aH (hr.mono (by decide)) bc rfl rfl (ae (aP bN gV rfl B.len PySem.boot_len (af 1)) ah)) cK.nd)
  (@ak _ _ _ _ _ _ _ (aS (i:=5) (bt aU cC (af 1) (af 4) (fun _ _=>rfl)) cK.nd)
  (@ak _ _ _ _ _ _ _ (aS (i:=6) (@SE.wv _ _ _ _ _ _ (aV (ae (@SE.wv _ _ _ _ _ _ (aV ah)) (ae (@SE.wv _ _ _ _ _ _ (aV (ae (aC 5 rfl) (ae (aC 5 rfl) ah)))) (ae (@SE.wv _ _ _ _ _ _ (aV (ae (@SE.wv _ _ _ _ _ _ (iP l5 Ao rfl B.list (by decide +kernel) (af 5))) ah))) (ae (@SE.wv _ _ _ _ _ _ (aV (ae (aC 3 rfl) ah))) (ae (@SE.wv _ _ _ _ _ _ (aV (ae (yp rfl (af 5)) ah))) ah))))))) cK.nd)
  (@ak _ _ _ _ _ _ _ (aS (i:=6) (@SE.wv _ _ _ _ _ _ (bo jg n0 (af 6) (aV (ae (@SE.wv _ _ _ _ _ _ (aV (ae (bo ot wB (mz rfl (af 5) (lu aw) lT) (mz rfl (af 5) lT (lu aw))) ah))) (ae (@SE.wv _ _ _ _ _ _ (aV (ae (mz rfl (af 5) (lu aw) lT) ah))) (ae (@SE.wv _ _ _ _ _ _ (aV (ae (zP rfl rfl B.tuple rfl B.range (af 2)) ah))) ah)))))) cK.nd)
  (@ak _ _ _ _ _ _ _ (aS (i:=7) (gL 0 aH (hr.mono (by decide)) bc rfl rfl (ae aw ah)) cK.nd)
  (@ak _ _ _ _ _ _ _ (dw (bh oU wo (af 7) aw (aX _))
  (@ax _ _ _ _ _ (nW (bo jg n0 (bo jg n0 (uT rfl (af 1) lT (lu (af 4))) (bt aU cC (af 6) (af 7) (fun _ _=>rfl))) (uT rfl (af 1) (lu (bo ji iW (af 4) aw)) lT))))
  bY)
  (@ax _ _ _ _ _ (aR (bt aU cC (aV (ae (iP cX nO rfl B.tuple (by decide +kernel) (af 1)) (ae (@SE.wv _ _ _ _ _ _ (CG rfl (af 1))) ah))) (bo GC Jd (af 7) aw) (fun _ _=>rfl))))))))))⟩,fun ds β h=>jX ds β h⟩
abbrev kC:Stmt:=top 41
theorem eV:aF ["script","k","box","order","rows","odd","first","things","turn","thing","kept","due"] ["script"] (au kC):=⟨rfl,rfl,rfl,by decide +kernel,rfl,by decide +kernel,by decide +kernel⟩
theorem Dy {f:Addr}{fd:FuncData}{eH dq dA cM mG:List D->FR}{cI av eR eO dm:List D->Int->FB}(F:jw K mg "law" kC ["script"] f fd)(B:jF mg)(kQ:dB P w K mg base ca "_law_box" ["script","k"] 2 eH)(jN:dB P w K mg base ca "_law_rows" ["order"] 1 dq)(j4:dB P w K mg base ca "_law_tell" ["thing","order"] 3 dA)(jm:dB P w K mg base ca "_law_truth" ["found","due"] 1 cM)(wC:dB P w K mg base ca "tell" ["thing","order"] 6 mG)(jc:jG P w K mg base "_law_order" ["box","most"] 3 cI)(aH:jG P w K mg base "_law_take" ["box","many"] 1 av)(kW:jG P w K mg base "_law_row" ["box","order"] 2 eR)(kY:jG P w K mg base "_law_odd" ["box"] 2 eO)(j7:jG P w K mg base "_law_bent" ["box","rows","many","odd"] 2 dm):fy P w K mg base (nF P w) 7 f fd ["script"] (CO K ca 1 (ba 12 1 (xX eH dq dA cM mG cI av eR eO dm))):=
 aZ (N:=["script","k","box","order","rows","odd","first","things","turn","thing","kept","due"]) (k:=6) F.F eV fun cdv A outer s H G E hr=>
  (@ak _ _ _ _ _ _ _ (c9 PassesOwn.leaving rfl (j8 rfl B.range (vn (zz rfl) Hk rfl B.max (by decide +kernel) aw (vn (zc rfl) Fv rfl B.min (by decide +kernel) (aP bN gV rfl B.len PySem.boot_len (af 0)) aw))) (cO (i:=1) eV.nd)
  (@ak _ _ _ _ _ _ _ (DA (i:=2) rfl (BK kQ (hr.mono (by decide)) bc rfl rfl (ae (aC 0 rfl) (ae (aC 1 rfl) ah))) eV.nd)
  (@ak _ _ _ _ _ _ _ (aS (i:=3) (gL 2 jc (hr.mono (by decide)) bc rfl rfl (ae aw ah)) eV.nd)
  (@ak _ _ _ _ _ _ _ (nP (i:=4) (NB:=["turn","box","order"]) (own:=1) (ixs:=[2,3]) [3] rfl (cR (by kernel_rfl)) (fun _ _=>rfl) (j8 rfl B.range (bo ji iW aw (gL 2 aH (hr.mono (by decide)) bc rfl rfl (ae aw ah)))) (fun H0 G0 par br bx C ex s3 H3 pn=>(cO (i:=0) (show (["turn","box","order"]:List Str).Nodup by decide +kernel))) (fun H0 G0 par br bx C ex s3 H3 pn hB1=>fq) (fun H0 G0 par br bx C ex s3 H3 pn hB1=>(gL 1 kW (hr.mono (by decide)) pz rfl rfl (ae (aC 2 (hB1 2 (by decide))) ah))) eV.nd)
  (@ak _ _ _ _ _ _ _ (dw (pO.t (mS (bh oU wo (bt aU cC (af 3) aw (fun _ _=>rfl)) aw (aX _)) (kn (bh A9 Gg (gL 2 aH (hr.mono (by decide)) bc rfl rfl (ae aw ah)) aw (aX _))) (fun _ _=>rfl)))
  (@ax _ _ _ _ _ (aS (i:=4) (aQ jN (hr.mono (by decide)) bc rfl rfl (ae (aC 3 rfl) ah)) eV.nd))
  bY)
  (@ak _ _ _ _ _ _ _ (aS (i:=5) (gL 2 kY (hr.mono (by decide)) bc rfl rfl ah) eV.nd)
  (@ak _ _ _ _ _ _ _ (aS (i:=6) (bt aU cC (af 4) aw (fun _ _=>rfl)) eV.nd)
  (@ak _ _ _ _ _ _ _ (ic (i:=7) (aV (ae (aC 4 rfl) (ae (aC 5 rfl) (ae (@SE.wv _ _ _ _ _ _ (aV ah)) (ae (@SE.wv _ _ _ _ _ _ (aV (ae (aC 6 rfl) ah))) ah))))) eV.nd)
  (@ak _ _ _ _ _ _ _ (gr 7 (fun _=>rfl) (@SE.wv _ _ _ _ _ _ (bo jg n0 (af 4) (aV (ae (yp rfl (af 6)) ah)))))
  (@ak _ _ _ _ _ _ _ (c9 PassesOwn.leaving rfl (j8 rfl B.range aw) (cO (i:=8) eV.nd)
  (@ax _ _ _ _ _ (gr 7 (fun _=>rfl) (gL 2 j7 (hr.mono (by decide)) bc rfl rfl (ae (aC 4 rfl) (ae (bt aU cC (af 3) aw (fun _ _=>rfl)) (ae (aC 5 rfl) ah)))))))
  (@ax _ _ _ _ _ (c9 PassesOwn.leaving rfl (Ej rfl (aC 7 rfl)) (cO (i:=9) eV.nd)
  (@ak _ _ _ _ _ _ _ (aS (i:=10) (aP (oK hr.gd hr.u1) xW rfl B.repr (by decide +kernel) (af 9)) eV.nd)
  (@ak _ _ _ _ _ _ _ (aS (i:=11) (aQ j4 (hr.mono (by decide)) bc rfl rfl (ae (aC 9 rfl) (ae (aC 3 rfl) ah))) eV.nd)
  (@ax _ _ _ _ _ (dw (pO.t (kJ (c8 (cP rfl (aQ jm (hr.mono (by decide)) bc rfl rfl (ae (aQ wC (hr.mono (by decide)) bc rfl rfl (ae (aC 9 rfl) (ae (aC 3 rfl) ah))) (ae (aC 11 rfl) ah))))) (ja (bh Ie HH (aP (oK hr.gd hr.u1) xW rfl B.repr (by decide +kernel) (af 9)) (af 10) (aX _))) (fun _ _=>rfl)))
  (@ax _ _ _ _ _ (aR iL))
  bY))))))))))))))))
  (@ax _ _ _ _ _ (aR iL)))
end
end RQ

end

section
namespace RM
open PySem L2
theorem pd {t u:VF Bool}{vs:List Nv}{β:Int}{a b:Bool}(h:t vs β=.ok a β)(h':u vs β=.ok b β):sS t u vs β=.ok (a && b) β:=by
 rw[wJ,h];dsimp only[R.bnd]
 cases a with
 |true=>rw[if_pos rfl,h'];rfl
 |false=>rfl
theorem b4 {t:VF Bool}{vs:List Nv}{β:Int}{a:Bool}(h:t vs β=.ok a β):qg t vs β=.ok (!a) β:=by rw[sO,h];rfl
theorem Hw (n:Nat):(cA n).Pairwise (· < ·):=by
 unfold cA
 rw[List.pairwise_map]
 exact List.pairwise_lt_range.imp fun {a b} h=>by omega
theorem G7 {fa:VF D}{vs:List Nv}{β:Int}{l:List Pr}{f:Pr->Bool}(h:fa vs β=.ok (.list (l.map fun q=>PyData.bool (f q))) β):f1 fa (b9 fun bs=>bs.all id) vs β=.ok (.bool (l.all f)) β:=by
 refine bM h ?_
 simp only[b9]
 rw[gn]
 simp[List.all_map]
def upTo (n:Nat)(f:Pr->Bool)(i k:Nat):List Pr:=(OM.bR n).filter fun p=>(decide (p.1 < i) || (decide (p.1=i) && decide (p.2 < k))) && f p
theorem AW {n:Nat}(f:Pr->Bool)(i k:Nat)(h8:n<=8):(upTo n f i k).length<=64:=by
 have h1:(upTo n f i k).length<=(OM.bR n).length:=List.length_filter_le _ _
 rw[fI] at h1
 have:n * n<=64:=Nat.mul_le_mul h8 h8
 omega
theorem yX (n:Nat)(f:Pr->Bool):upTo n f 0 0= []:=by
 unfold upTo
 rw[List.filter_eq_nil_iff]
 intro p hp
 have:=OM.bO.mp hp
 rw[decide_eq_false (by omega),decide_eq_false (p:=p.2 < ((0:Nat):Int)) (by omega)];simp
theorem Ct (n:Nat)(f:Pr->Bool):upTo n f n 0=(OM.bR n).filter f:=by
 unfold upTo
 refine List.filter_congr fun p hp=>?_
 have:=(OM.bO.mp hp).1.2
 rw[decide_eq_true this];simp
theorem Cn (n:Nat)(f:Pr->Bool)(i:Nat):upTo n f i n=upTo n f (i + 1) 0:=by
 unfold upTo
 refine List.filter_congr fun p hp=>?_
 have h:=OM.bO.mp hp
 congr 1
 rw[Bool.eq_iff_iff]
 simp only[Bool.or_eq_true,Bool.and_eq_true,decide_eq_true_eq]
 omega
theorem qI {n i k:Nat}(f:Pr->Bool)(hi:i < n)(hk:k < n):upTo n f i (k + 1)=upTo n f i k ++ if f ((i:Int),(k:Int))=true then [((i:Int),(k:Int))] else []:=by
 refine OM.gX (OM.kO _ (OM.lO n)) ?_ fun x=>?_
 ·show List.Pairwise OM.D0 _
  rw[List.pairwise_append]
  refine⟨OM.kO _ (OM.lO n),?_,fun p hp q hq=>?_⟩
  ·split <;> simp
  ·unfold upTo at hp
   have h1:=(List.mem_filter.mp hp).2
   simp only[Bool.or_eq_true,Bool.and_eq_true,decide_eq_true_eq] at h1
   split at hq
   ·have:q=((i:Int),(k:Int)):=by simpa using hq
    subst this
    show p.1 < (i:Int)\/(p.1=(i:Int)/\p.2 < (k:Int))
    exact h1.1
   ·cases hq
 ·rw[List.mem_append]
  unfold upTo
  rw[List.mem_filter,List.mem_filter,OM.bO]
  simp only[Bool.or_eq_true,Bool.and_eq_true,decide_eq_true_eq]
  constructor
  ·rintro⟨h1,h2,h3⟩
   by_cases z:x.1=i/\x.2=k
   ·obtain⟨xa,xb⟩:=x
    simp only at z h3
    obtain⟨rfl,rfl⟩:=z
    rw[if_pos h3]
    exact .inr (List.mem_singleton.mpr rfl)
   ·exact .inl ⟨h1,by omega,h3⟩
  ·rintro (⟨h1,h2,h3⟩ |h)
   ·exact⟨h1,by omega,h3⟩
   ·split at h
    ·rename_i hf
     have:x=((i:Int),(k:Int)):=by simpa using h
     subst this
     exact⟨⟨⟨by show (0:Int)<=(i:Int);omega,by show (i:Int) < n;omega⟩,by show (0:Int)<=(k:Int);omega,by show (k:Int) < n;omega⟩,.inr ⟨rfl,by show (k:Int) < ((k + 1:Nat):Int);omega⟩,hf⟩
    ·cases h
def tupI (r:List Int):D:=.tuple (r.map PyData.int)
theorem nM {fa fb:VF D}{vs:List Nv}{β:Int}{r:List Int}{k:Int}(h:fa vs β=.ok (tupI r) β)(h':fb vs β=.ok (.int k) β)(hk:k∈r):jT fa fb vs β=.ok (.int (r.idxOf k:Nat)) β:=by
 unfold jT
 rw[h]
 dsimp only[R.bnd]
 rw[if_pos (by rfl),h']
 dsimp only[R.bnd,DS,tupI]
 rw[gx]
 dsimp only
 rw[if_pos hk];rfl
theorem Eu {r:List Int}{a b:Int}(ha:a∈r)(hb:b∈r)(h:r.idxOf a=r.idxOf b):a=b:=by
 have h1:=List.getElem_idxOf (List.idxOf_lt_length_iff.mpr ha)
 have h2:=List.getElem_idxOf (List.idxOf_lt_length_iff.mpr hb)
 rw[<-h1,<-h2]
 congr 1
end RM

end

section
namespace RM
open PySem L2
theorem oN {α:Type}{t:Tg}{fe:VF D}{vs:List Nv}(e:α->D)(P:α->Prop):∀{ds:List D} {β:Int},(∀d,d∈ds->∃vs1,kH t d vs=some vs1/\∀β,∃a β',fe vs1 β=.ok (e a) β'/\P a)->
  ∃(as:List α) (β':Int),fE t lN fe vs ds β=.ok (as.map e) β'/\as.length=ds.length/\∀a,a∈as->P a
 | [],β,_=>⟨[],β,rfl,rfl,fun a h=>(by cases h)⟩
 |d :: ds,β,h=>by
  obtain⟨vs1,hb,hf⟩:=h d (List.mem_cons_self ..)
  obtain⟨a,β1,ef,pa⟩:=hf β
  obtain⟨as,β2,ec,hl,hP⟩:=oN e P (ds:=ds) (β:=β1) fun d' hd=>h d' (List.mem_cons_of_mem _ hd)
  refine⟨a :: as,β2,?_,by rw[List.length_cons,List.length_cons,hl],fun x hx=>?_⟩
  ·unfold fE
   rw[hb]
   dsimp only[lN,R.okb]
   rw[if_pos rfl,ef]
   dsimp only
   rw[ec];rfl
  ·rcases List.mem_cons.mp hx with z |z
   ·rw[z];exact pa
   ·exact hP x z
end RM

end

section

end

section
namespace RM
open PySem L2
def Cy:D->Bool
 | .tuple _=>true
 |_=>false
theorem xM {d:D}(h:Cy d=true):∃ds,d=.tuple ds:=by
 cases d with
 |tuple ds=>exact⟨ds,rfl⟩
 |_=>cases h
theorem AV {d:D}(h:b5 d=false):fB "tuple" d=some (.bool (Cy d)):=by
 unfold fB;rw[h];cases d <;> rfl
section
variable {fa fb:VF D}{vs:List Nv}{β:Int}
theorem ET {d:D}(ha:fa vs β=.ok d β)(h:b5 d=false):nr (f1 fa (fB "tuple")) vs β=.ok (Cy d) β:=jC (bM ha (AV h))
theorem sJ {l:List D}{f:D->Bool}(h:fa vs β=.ok (.list (l.map fun q=>PyData.bool (f q))) β):f1 fa (b9 fun bs=>bs.all id) vs β=.ok (.bool (l.all f)) β:=by
 refine bM h ?_
 simp only[b9]
 rw[gn]
 simp[List.all_map]
theorem Be {ds:List D}(ha:fa vs β=.ok (.tuple ds) β):f1 fa cz vs β=.ok (.int ds.length) β:=bM ha rfl
theorem rj {t u:VF Bool}(h:t vs β=.ok true β):kN t u vs β=.ok true β:=by rw[sR,h];rfl
theorem g9 {t u:VF Bool}{c:Bool}(h:t vs β=.ok false β)(h':u vs β=.ok c β):kN t u vs β=.ok c β:=by rw[sR,h];exact h'
theorem EO (h:fa vs β=.ok (.bool false) β):fT fa fb vs β=.ok (.bool false) β:=by unfold fT;rw[h];rfl
theorem E3 {d:D}(h:fa vs β=.ok (.bool true) β)(h':fb vs β=.ok d β):fT fa fb vs β=.ok d β:=by unfold fT;rw[h];exact h'
end
def Sq (c k:Nat)(d:D):Prop:=d.showable=true/\d.depth<=k/\d.shown.length<=c
theorem Sq.mono {c k c' k':Nat}{d:D}(h:Sq c k d)(h1:c<=c')(h2:k<=k'):Sq c' k' d:=⟨h.1,Nat.le_trans h.2.1 h2,Nat.le_trans h.2.2 h1⟩
theorem wL {c k:Nat}:∀{ds:List D},(∀d,d∈ds->Sq c k d)->PyData.showableAll ds=true/\PyData.depthAll ds<=k/\(∀t,t∈PyData.shownAll ds->t.length<=c)/\(PyData.shownAll ds).length=ds.length
 | [],_=>⟨by simp[PyData.showableAll],by simp[PyData.depthAll],fun t h=>by simp[PyData.shownAll] at h,by simp[PyData.shownAll]⟩
 |d :: ds,h=>by
  obtain⟨h1,h2,h3,h4⟩:=wL fun x hx=>h x (List.mem_cons_of_mem _ hx)
  obtain⟨q1,q2,q3⟩:=h d (List.mem_cons_self ..)
  refine⟨?_,?_,fun t ht=>?_,?_⟩
  ·rw[PyData.showableAll,q1,h1];rfl
  ·rw[PyData.depthAll];omega
  ·rw[PyData.shownAll] at ht
   rcases List.mem_cons.mp ht with rfl |ht
   ·exact q3
   ·exact h3 t ht
  ·rw[PyData.shownAll,List.length_cons,List.length_cons,h4]
theorem ua {c:Nat}:∀{ts:List Str},(∀t,t∈ts->t.length<=c)->(Str.join ", " ts).length<=(c + 2) * ts.length
 | [],_=>by show (Str.join ", " []).length<=_;exact Nat.zero_le _
 | [x],h=>by
  have:=h x (List.mem_cons_self ..)
  show x.length<=(c + 2) * 1
  omega
 |x :: y :: r,h=>by
  have ih:=ua (ts:=y :: r) fun t ht=>h t (List.mem_cons_of_mem _ ht)
  have:=h x (List.mem_cons_self ..)
  show (x ++ ", " ++ Str.join ", " (y :: r)).length<=_
  rw[strLen_append,strLen_append]
  have e2:((", ":String):Str).length=2:=rfl
  rw[e2]
  have e:(c + 2) * (x :: y :: r).length=(c + 2) * (y :: r).length + (c + 2):=by rw[List.length_cons,Nat.mul_succ]
  omega
theorem sy {c k:Nat}{ds:List D}(h:∀d,d∈ds->Sq c k d):Sq (3 + (c + 2) * ds.length) (k + 1) (.tuple ds):=by
 obtain⟨h1,h2,h3,h4⟩:=wL h
 refine⟨by rw[PyData.showable];exact h1,by rw[PyData.depth];omega,?_⟩
 rw[PyData.shown]
 unfold tupleText
 rw[strLen_append,strLen_append]
 have j:=ua h3
 rw[h4] at j
 have e1:((("(":String):Str)).length=1:=rfl
 have e3:((if (PyData.shownAll ds).length == 1 then ",)" else ")":String):Str).length<=2:=by split <;> exact by decide
 rw[e1]
 omega
theorem B5 {c k:Nat}{ds:List D}(h:∀d,d∈ds->Sq c k d):Sq (2 + (c + 2) * ds.length) (k + 1) (.list ds):=by
 obtain⟨h1,h2,h3,h4⟩:=wL h
 refine⟨by rw[PyData.showable];exact h1,by rw[PyData.depth];omega,?_⟩
 rw[PyData.shown]
 unfold listText
 rw[strLen_append]
 have:=BZ (c:=c + 2) (PyData.shownAll ds) 0 "[" fun t ht=>by have:=h3 t ht;omega
 rw[h4] at this
 have e1:((("[":String):Str)).length=1:=rfl
 have e2:((("]":String):Str)).length=1:=rfl
 rw[e1] at this
 rw[e2];omega
def Bf (d:D):Prop:=xF d=true
theorem wy:∀{ds:List D},(∀d,d∈ds->Bf d)->wD ds=true
 | [],_=>rfl
 |d :: ds,h=>by
  have h1:=wy fun x hx=>h x (List.mem_cons_of_mem _ hx)
  have q1:xF d=true:=h d (List.mem_cons_self ..)
  rw[wD,q1,h1];rfl
theorem tm {ds:List D}(h:∀d,d∈ds->Bf d):Bf (.tuple ds):=by show xF (.tuple ds)=true;rw[xF];exact wy h
theorem Av {ds:List D}(h:∀d,d∈ds->Bf d):Bf (.list ds):=by show xF (.list ds)=true;rw[xF];exact wy h
theorem Jq {c k:Nat}{d:D}(h:Sq c k d)(hc:c<=100000)(hk:k<=64)(hf:Bf d):CB d=true:=by
 unfold CB
 have h1:d.depth<=64:=Nat.le_trans h.2.1 hk
 have h2:d.shown.length<=sizeLine:=Nat.le_trans (Nat.le_trans h.2.2 hc) (by rw[sizeLine_eq];omega)
 rw[h.1,decide_eq_true h1,decide_eq_true h2]
 have b:xF d=true:=hf
 rw[b,Bool.or_true];rfl
def KI:List Int:=[-1,0,1,2,3,4,5,6,7,8,9]
theorem Cs:∀i∈KI,(PyData.int i).showable=true/\(PyData.int i).shown.length<=20:=by decide +kernel
theorem yK {i:Int}(h: -1<=i/\i<=9):i∈KI:=by
 simp only[KI,List.mem_cons,List.not_mem_nil,or_false]
 omega
def yz (d:D):Prop:=d=.none\/(∃b,d=.bool b)\/∃i:Int,d=.int i/\ -1<=i/\i<=9
theorem yz.sq {d:D}(h:yz d):Sq 20 0 d:=by
 rcases h with rfl | ⟨b,rfl⟩ | ⟨i,rfl,h⟩
 ·exact⟨by simp[PyData.showable],by simp[PyData.depth],by rw[PyData.shown];decide⟩
 ·exact⟨by simp[PyData.showable],by simp[PyData.depth],by rw[PyData.shown];cases b <;> decide⟩
 ·exact⟨(Cs i (yK h)).1,by simp[PyData.depth],(Cs i (yK h)).2⟩
theorem yz.bf {d:D}(h:yz d):Bf d:=by
 rcases h with rfl | ⟨b,rfl⟩ | ⟨i,rfl,h⟩ <;> exact by simp[Bf,xF]
theorem yz.scr {d:D}(h:yz d):b5 d=false:=by
 rcases h with rfl | ⟨b,rfl⟩ | ⟨i,rfl,h⟩ <;> rfl
section
variable {vs:List Nv}{β β1 β2:Int}{fa:VF D}{fr:VF (List D)}{d:D}{ds:List D}
theorem ac {fa:VF D}{fr:VF (List D)}(h:fa vs β=.ok d β)(h':fr vs β=.ok ds β):aa fa fr vs β=.ok (d :: ds) β:=by rw[cj,h];dsimp only[R.bnd];rw[h']
theorem an:ag vs β=.ok [] β:=rfl
theorem tp (h:fr vs β=.ok ds β)(hz:ds.length<=1000:=by simp):bG fr vs β=.ok (.tuple ds) β:=km h hz
theorem lp (h:fr vs β=.ok ds β)(hz:ds.length<=1000:=by simp):aW fr vs β=.ok (.list ds) β:=fx h hz
theorem ck (d:D):cst d vs β=.ok d β:=rfl
end
theorem IA {vs:List Nv}{β:Int}:f2 (cst (.int 10)) (cst (.int 39)) Cp vs β=.ok (.int 1000000000000000000000000000000000000000) β:=aE (x:=.int 10) (y:=.int 39) rfl rfl (by rfl)
theorem sf {i:Int}(h: -1<=i/\i<=9):yz (.int i):=.inr (.inr ⟨i,rfl,h⟩)
theorem AI {d:D}(h:b5 d=false):fB "list" d=some (.bool (match d with | .list _=>true |_=>false)):=by
 unfold fB;rw[h];cases d <;> rfl
def DY:D->Bool
 | .list _=>true
 |_=>false
theorem yC {d:D}(h:DY d=true):∃ds,d=.list ds:=by
 cases d with
 |list ds=>exact⟨ds,rfl⟩
 |_=>cases h
theorem Fb {fa:VF D}{vs:List Nv}{β:Int}{d:D}(ha:fa vs β=.ok d β)(h:b5 d=false):f1 fa (fB "list") vs β=.ok (.bool (DY d)) β:=bM ha (by rw[AI h];cases d <;> rfl)
theorem BA {fa:VF D}{vs:List Nv}{β:Int}{ds:List D}(ha:fa vs β=.ok (.list ds) β):f1 fa cz vs β=.ok (.int ds.length) β:=bM ha rfl
end RM

end

section
namespace RM
open PySem L2
def Ge (e:D):Prop:=b5 e=false/\∀es,e=.tuple es->es.length<=100/\∀x,x∈es->b5 x=false
def Lr (n:Int):D->Bool
 | .tuple [x,y]=>iy x n && iy y n
 |_=>false
def Jy:List D->FR:=ba 1 1 lH
theorem JZ {d:D}(h:b5 d=false):Jy [d]=.ok (.bool (uQ d)) false:=by
 have:=yB [d] (by rw[lY h];exact fun z=>by cases z)
 rw[lY h] at this
 exact this
def Sp (p:Pr):Prop:=(0<=p.1/\p.1<=8)/\(0<=p.2/\p.2<=8)
def El (e:D):Prop:=Ge e/\Sq 100 8 e/\Bf e
theorem Cf {es:List D}(hl:es.length<=100)(h:∀x,x∈es->b5 x=false):Ge (.tuple es):=⟨rfl,fun es' e=>by cases e;exact⟨hl,h⟩⟩
def JQ:D->Bool
 | .tuple es=>decide (es.length<=100) && es.all fun x=> !b5 x
 |_=>true
def iq:List D:=[.none,.bool true,.bool false,.int (-1),.int 0,.int 1,.str "",.str "1",.tuple [],.list [],.tuple [.int 0],.tuple [.int 1,.tuple []],.list [.int 0],.dict [(.str "a",.int 1)],.tuple [.int 0,.int 1],.int 1000000000000000000000000000000000000000,.tuple [.tuple [.int 0,.int 1]],.str "a"]
theorem Ec:∀x∈iq,(x.showable=true/\x.depth<=5/\x.shown.length<=60)/\xF x=true/\b5 x=false/\JQ x=true:=by decide +kernel
theorem oS {o:D}(h:o∈iq):El o:=by
 obtain⟨h1,h2,h3,h4⟩:=Ec o h
 refine⟨⟨h3,fun es e=>?_⟩,Sq.mono (c:=60) (k:=5) h1 (by omega) (by omega),h2⟩
 subst e
 have hb:(decide (es.length<=100) && es.all fun x=> !b5 x)=true:=h4
 rw[Bool.and_eq_true,decide_eq_true_eq,List.all_eq_true] at hb
 exact⟨hb.1,fun x hx=>by have:=hb.2 x hx;rwa [Bool.not_eq_true'] at this⟩
theorem Df {fa fb:VF D}{vs:List Nv}{β:Int}{ds:List D}{i:Nat}(ha:fa vs β=.ok (.list ds) β)(hb:fb vs β=.ok (.int ((i:Nat):Int)) β):G9 fa (vE fb) (fun _ β=>.ok none β) vs β=.ok (.list (ds.drop i)) β:=by
 unfold G9 vE
 rw[ha];dsimp only[R.bnd]
 rw[hb];dsimp only[R.bnd]
 congr 2
 unfold cutD
 rw[HT.l0,HT.nS]
 by_cases h:i<=ds.length
 ·rw[Nat.min_eq_left h];exact List.take_of_length_le (by rw[List.length_drop];omega)
 ·rw[Nat.min_eq_right (by omega),List.drop_length,List.drop_of_length_le (by omega)];simp
theorem Bh {fa fb:VF D}{vs:List Nv}{β:Int}{ds:List D}{i:Nat}(ha:fa vs β=.ok (.list ds) β)(hb:fb vs β=.ok (.int ((i:Nat):Int)) β):G9 fa (fun _ β=>.ok none β) (vE fb) vs β=.ok (.list (ds.take i)) β:=by
 unfold G9 vE
 rw[ha];dsimp only[R.bnd]
 rw[hb];dsimp only[R.bnd]
 congr 2
 unfold cutD
 rw[HT.l0,HT.nS]
 by_cases h:i<=ds.length
 ·rw[Nat.min_eq_left h];rfl
 ·rw[Nat.min_eq_right (by omega),List.take_of_length_le (show ds.length<=i by omega)];simp
noncomputable def Gq:List D->Int->FB:=me 2 0 (jn bI)
theorem Iu (β:Int):∃o β',Gq [] β=.ok o false β'/\o∈iq:=by
 show ∃o β',vV (jn bI [.bx,.no] β)=.ok o false β'/\o∈iq
 unfold jn
 rw[az (env':=[.bx,.fz (.list (iq.take 13))]) (β':=β) ?a]
 case a=>
  rw[gR,lp (ds:=iq.take 13) (ac (ck _) (ac (ck _) (ac (ck _) (ac (ck _) (ac (ck _) (ac (ck _) (ac (ck _) (ac (ck _) (ac (tp an) (ac (lp an) (ac (tp (ac (ck _) an)) (ac (tp (ac (ck _) (ac (tp an) an))) (ac (lp (ac (ck _) an)) an))))))))))))) (by show (13:Nat)<=1000;omega)]
  rfl
 rw[az (env':=[.bx,.fz (.list iq)]) (β':=β) ?b]
 case b=>
  rw[gR,aE (x:=.list (iq.take 13)) (y:=.list (iq.drop 13)) (d:=.list iq) (β1:=β) (β2:=β) rfl (lp (ds:=iq.drop 13) (ac (ck _) (ac (tp (ac (ck _) (ac (ck _) an))) (ac IA (ac (tp (ac (tp (ac (ck _) (ac (ck _) an))) an)) (ac (ck _) an))))) (by show (5:Nat)<=1000;omega)) ?c]
  ·rfl
  case c=>rw[nV (by show (13 + 5:Nat)<=10000;omega)];rfl
 obtain⟨j,hj,ej⟩:=dU (m:=18) (by omega) (by omega) β
 have hlen:iq.length=18:=rfl
 obtain⟨o,ho⟩:∃o,iq[j]? =some o:=⟨_,List.getElem?_eq_getElem (by omega)⟩
 have e:f2 (gv 1) (jA 0 bI (aa (cst (.int 18)) ag)) cv (vl [.bx,.fz (.list iq)]) β=.ok o (β / ((18:Nat):Int)):=aE (x:=.list iq) (y:=.int j) rfl (di (ds:=[.int 18]) (by rfl) rfl ej) (show jI iq (j:Int)=some o from gW ho)
 rw[fY,e]
 exact⟨o,_,rfl,List.mem_of_getElem? ho⟩
noncomputable def Hh:List D->FR:=ba 2 2 lW
theorem IJ (b:Bool):Hh [.bool b,.bool b]=.ok (.bool true) false:=by cases b <;> rfl
end RM

end

section
namespace RM
open PySem PySem.Spec L2 PyProof.Rows
theorem pG:∀(ns acc:List Int),acc.Nodup->(ns.foldl step_dedup acc).length<=acc.length + ns.length/\((ns.foldl step_dedup acc).length=acc.length + ns.length↔(ns.Nodup/\∀x,x∈ns->x∉acc))
 | [],acc,_=>by simp
 |n :: ns,acc,hn=>by
  rw[List.foldl_cons]
  by_cases h:n∈acc
  ·have e:step_dedup acc n=acc:=by unfold step_dedup;rw[if_pos (by simpa using h)]
   rw[e]
   obtain⟨h1,h2⟩:=pG ns acc hn
   refine⟨by rw[List.length_cons];omega,⟨fun z=>?_,fun z=>absurd h (z.2 n (List.mem_cons_self ..))⟩⟩
   rw[List.length_cons] at z;omega
  ·have e:step_dedup acc n=acc ++ [n]:=by unfold step_dedup;rw[if_neg (by simpa using h)]
   have hn':(acc ++ [n]).Nodup:=by
    rw[List.nodup_append]
    refine⟨hn,List.nodup_cons.mpr ⟨by simp,List.nodup_nil⟩,fun a ha b hb=>?_⟩
    rw[List.mem_singleton] at hb
    subst hb
    exact fun q=>h (q▸ha)
   rw[e]
   obtain⟨h1,h2⟩:=pG ns (acc ++ [n]) hn'
   rw[List.length_append,List.length_singleton] at h1 h2
   refine⟨by rw[List.length_cons];omega,?_⟩
   rw[List.length_cons,show acc.length + (ns.length + 1)=acc.length + 1 + ns.length by omega,h2,List.nodup_cons]
   constructor
   ·rintro⟨z1,z2⟩
    refine⟨⟨fun q=>z2 n q (by simp),z1⟩,fun x hx=>?_⟩
    rcases List.mem_cons.mp hx with rfl |hx
    ·exact h
    ·exact fun q=>z2 x hx (List.mem_append_left _ q)
   ·rintro⟨⟨z1,z2⟩,z3⟩
    refine⟨z2,fun x hx q=>?_⟩
    rcases List.mem_append.mp q with q |q
    ·exact z3 x (List.mem_cons_of_mem _ hx) q
    ·rw[List.mem_singleton] at q;subst q;exact z1 hx
theorem uI (ns:List Int):qm ns=ns.length↔ns.Nodup:=by
 have e:firstMet (fun i=>ns.getD i 0) ns.length=ns.foldl step_dedup []:=by
  unfold firstMet
  congr 1
  refine List.ext_getElem (by simp) fun i h1 h2=>?_
  simp[List.getD_eq_getElem?_getD,h2]
 unfold qm
 rw[e]
 have:=(pG ns [] List.nodup_nil).2
 simpa using this
theorem mZ:∀{l m:List Int},l.Nodup->(∀x,x∈l->x∈m)->m.length<=l.length->l.Perm m
 | [],m,_,_,h=>by
  have:m= []:=List.length_eq_zero_iff.mp (by simpa using h)
  rw[this]
 |x :: l,m,nd,hs,h=>by
  obtain⟨h1,h2⟩:=List.nodup_cons.mp nd
  have hx:x∈m:=hs x (List.mem_cons_self ..)
  have pm:m.Perm (x :: m.erase x):=List.perm_cons_erase hx
  refine (List.Perm.cons x (mZ (m:=m.erase x) h2 (fun y hy=>?_) ?_)).trans pm.symm
  ·have hy':=pm.mem_iff.mp (hs y (List.mem_cons_of_mem _ hy))
   rcases List.mem_cons.mp hy' with rfl |q
   ·exact absurd hy h1
   ·exact q
  ·have:=pm.length_eq
   rw[List.length_cons] at this h
   omega
theorem u7 {n:Nat}{r:List Int}(hl:r.length=n)(hb:∀x,x∈r->0<=x/\x < n)(nd:r.Nodup):r.Perm (cA n):=mZ nd (fun x hx=>a9.mpr (hb x hx)) (by rw[cw];omega)
noncomputable def pN (n:Nat)(d:D):Bool:=@decide (∃r:List Int,d=tupI r/\r.Perm (cA n)) (Classical.propDecidable _)
theorem GO {n:Nat}{d:D}(h:pN n d=true):∃r:List Int,d=tupI r/\r.Perm (cA n):=@of_decide_eq_true _ (Classical.propDecidable _) h
theorem um {n:Nat}{r:List Int}(h:r.Perm (cA n)):pN n (tupI r)=true:=@decide_eq_true _ (Classical.propDecidable _) ⟨r,rfl,h⟩
theorem sh {n:Nat}{d:D}(h:∀r:List Int,d=tupI r->¬r.Perm (cA n)):pN n d=false:=@decide_eq_false _ (Classical.propDecidable _) fun⟨r,e,p⟩=>h r e p
theorem jV {r q:List Int}(h:tupI r=tupI q):r=q:=by
 unfold tupI at h
 have h:=PyData.tuple.inj h
 exact List.map_inj_right (fun a b e=>PyData.int.inj e) |>.mp h
theorem zK {d:D}{n:Int}(h:iy d n=true):∃i:Int,d=.int i/\0<=i/\i < n:=by
 cases d with
 |int i=>exact⟨i,rfl,of_decide_eq_true h⟩
 |_=>cases h
theorem ra {n:Int}:∀{ds:List D},(ds.all fun e=>iy e n)=true->∃r:List Int,ds=r.map PyData.int/\∀x,x∈r->0<=x/\x < n
 | [],_=>⟨[],rfl,fun x hx=>by cases hx⟩
 |d :: ds,h=>by
  rw[List.all_cons,Bool.and_eq_true] at h
  obtain⟨i,rfl,hi⟩:=zK h.1
  obtain⟨r,rfl,hr⟩:=ra h.2
  refine⟨i :: r,rfl,fun x hx=>?_⟩
  rcases List.mem_cons.mp hx with rfl |hx
  ·exact hi
  ·exact hr x hx
theorem yQ {n:Nat}{r:List Int}(h:∀x,x∈r->0<=x/\x < (n:Int)):((r.map PyData.int).all fun e=>iy e n)=true:=by
 rw[List.all_map,List.all_eq_true]
 intro x hx
 exact decide_eq_true (h x hx)
theorem gx:∀r:List Int,gC (r.map PyData.int)=some r
 | []=>rfl
 |x :: r=>by
  have:=gx r
  simp only[List.map_cons,gC,this]
  try rfl
def xG:List D->FR:=ba 2 2 (kc fN)
theorem FP {n:Nat}{d:D}(h8:n<=100)(h:Ge d):xG [d,.int n]=.ok (.bool (pN n d)) false:=by
 show fin (kc fN [.fz d,.fz (.int n)] 0)=_
 unfold kc
 have g0:gv 0 (vl [.fz d,.fz (.int n)]) 0=.ok d 0:=rfl
 have t1:=ET g0 h.1
 cases hy:Cy d with
 |false=>
  rw[hy] at t1
  rw[dH (d:=.bool false) (b:=false) (β':=0) (by rw[fQ (rj (b4 t1))];rfl),sh]
  ·rfl
  ·intro r e;subst e;cases hy
 |true=>
  obtain⟨es,rfl⟩:=xM hy
  rw[hy] at t1
  have t2:cc (f2 (f1 (gv 0) cz) (gv 1) (c5 true)) (vl [.fz (.tuple es),.fz (.int n)]) 0=.ok (!decide ((es.length:Int)=n)) 0:=fm (neg:=true) (Be g0) rfl
  by_cases hl:es.length=n
  ·rw[decide_eq_true (show (es.length:Int)=n by omega)] at t2
   rw[az (env':=[.fz (.tuple es),.fz (.int n)]) (β':=0) (by rw[gK (g9 (b4 t1) t2)];rfl)]
   have hs:=(h.2 _ rfl).2
   have ec:aN 1 [1] (.nm 0) (bF (gv 0)) lN (aI fN (aa (gv 0) (aa (gv 1) ag))) (vl [.fz (.tuple es),.fz (.int n)]) 0=.ok (.list (es.map fun e=>PyData.bool (iy e n))) 0:=
    mT (fun e=>PyData.bool (iy e n)) rfl (by omega) fun e he=>⟨_,rfl,aM (ds:=[e,.int n]) rfl (yu (hs e he))⟩
   have ea:=sJ ec
   rw[fY]
   cases hb:(es.all fun e=>iy e n) with
   |false=>
    rw[hb] at ea
    rw[EO ea,sh]
    ·rfl
    ·intro r e pm
     have e:=PyData.tuple.inj e
     subst e
     rw[yQ fun x hx=>a9.mp (pm.mem_iff.mp hx)] at hb
     cases hb
   |true=>
    rw[hb] at ea
    obtain⟨r,rfl,hr⟩:=ra hb
    have hrl:r.length=n:=by rw[List.length_map] at hl;exact hl
    have es:f1 (gv 0) nK (vl [.fz (.tuple (r.map PyData.int)),.fz (.int n)]) 0=.ok (.int (qm r)) 0:=by
     refine bM g0 ?_
     show (match gC (r.map PyData.int) with |some ns=>if ns.length<=1000 then some (PyData.int (qm ns)) else none |none=>none)=_
     rw[gx]
     exact if_pos (by omega)
    rw[E3 ea (aE es rfl (C2 false (qm r) n))]
    show FR.ok (.bool (decide ((qm r:Int)=(n:Int)))) false=_
    by_cases nd:r.Nodup
    ·have:=(uI r).mpr nd
     rw[decide_eq_true (by omega),show pN n (.tuple (r.map PyData.int))=true from um (u7 hrl hr nd)]
    ·have:qm r≠r.length:=fun q=>nd ((uI r).mp q)
     rw[decide_eq_false (by omega),sh]
     intro q e pm
     have e:=jV (r:=r) e
     subst e
     exact nd (pm.nodup_iff.mpr (iF n))
  ·rw[decide_eq_false (show ¬(es.length:Int)=n by omega)] at t2
   rw[dH (d:=.bool false) (b:=false) (β':=0) (by rw[fQ (g9 (b4 t1) t2)];rfl),sh]
   ·rfl
   ·intro r e pm
    have e:=PyData.tuple.inj e
    subst e
    have:=pm.length_eq
    rw[cw] at this
    rw[List.length_map] at hl
    exact hl this
end RM

end

section
namespace RM
open PySem L2
def pY (r:List Int):List Int:=(List.range r.length).map fun (a:Nat)=>((r.idxOf (a:Int):Nat):Int)
def fA (r:List Int)(k:Nat):List Int:=(List.range r.length).map fun (a:Nat)=>if r.idxOf (a:Int) < k then ((r.idxOf (a:Int):Nat):Int) else 0
theorem z0 {n:Nat}{r:List Int}(h:r.Perm (cA n)):fA r r.length=pY r:=by
 unfold fA pY
 refine List.map_congr_left fun a ha=>?_
 have hl:=h.length_eq
 rw[cw] at hl
 have:=List.mem_range.mp ha
 rw[if_pos (List.idxOf_lt_length_iff.mpr (h.mem_iff.mpr (a9.mpr ⟨by omega,by omega⟩)))]
theorem wG (r:List Int):fA r 0=List.replicate r.length 0:=by
 unfold fA
 refine List.ext_getElem (by simp) fun i h1 h2=>by simp
theorem wY {n:Nat}{r:List Int}(h:r.Perm (cA n)){k:Nat}{x:Int}(hk:r[k]? =some x):(fA r k).set x.toNat (k:Int)=fA r (k + 1):=by
 have hl:=h.length_eq
 rw[cw] at hl
 have hx:=a9.mp (h.mem_iff.mp (List.mem_of_getElem? hk))
 have nd:r.Nodup:=h.nodup_iff.mpr (iF n)
 obtain⟨hkl,hke⟩:=List.getElem?_eq_some_iff.mp hk
 have hix:r.idxOf x=k:=by rw[<-hke];exact nd.idxOf_getElem k hkl
 unfold fA
 refine List.ext_getElem (by simp) fun i h1 h2=>?_
 have hi:i < r.length:=by simpa using h2
 rw[List.getElem_set]
 simp only[List.getElem_map,List.getElem_range]
 by_cases e:x.toNat=i
 ·rw[if_pos e]
  have ex:(i:Int)=x:=by omega
  rw[ex,hix,if_pos (by omega)]
 ·rw[if_neg e]
  have:r.idxOf (i:Int)≠k:=fun q=>by
   have hm:(i:Int)∈r:=h.mem_iff.mpr (a9.mpr ⟨by omega,by omega⟩)
   have h3:=List.getElem_idxOf (List.idxOf_lt_length_iff.mpr hm)
   simp only[q] at h3
   rw[hke] at h3
   omega
  by_cases z:r.idxOf (i:Int) < k
  ·rw[if_pos z,if_pos (by omega)]
  ·rw[if_neg z,if_neg (by omega)]
theorem Bg {n:Nat}{r:List Int}(h:r.Perm (cA n)){a:Int}(ha:0<=a/\a < n):jI (pY r) a=some ((r.idxOf a:Nat):Int):=by
 have hl:=h.length_eq
 rw[cw] at hl
 have e:(a.toNat:Int)=a:=by omega
 have:=gW (xs:=pY r) (j:=a.toNat) (v:=((r.idxOf a:Nat):Int)) (by
  unfold pY
  rw[List.getElem?_map,List.getElem?_range (by omega)]
  simp only[Option.map_some,e])
 rw[e] at this
 exact this
def HC:List D->FR:=ba 4 1 lV
theorem IC {n:Nat}{r:List Int}(h100:n<=100)(h:r.Perm (cA n)):HC [tupI r]=.ok (.list ((pY r).map PyData.int)) true:=by
 have hl:=h.length_eq
 rw[cw] at hl
 show fin (lV [.fz (tupI r),.no,.no,.no] 0)=_
 unfold lV
 rw[az (env':=[.fz (tupI r),.ow (.list ((fA r 0).map PyData.int)),.no,.no]) (β':=0) ?a]
 case a=>
  have e:f2 (aW (aa (cst (.int 0)) ag)) (f1 (gv 0) cz) BJ (vl [.fz (tupI r),.no,.no,.no]) 0=.ok (.list ((fA r 0).map PyData.int)) 0:=by
   refine aE (lp (ac (ck _) an)) (Be (ds:=r.map PyData.int) rfl) ?_
   rw[List.length_map,wG,List.map_replicate]
   simp only[BJ]
   rw[if_pos ?q]
   ·congr 2
    rw[Int.toNat_natCast]
    induction r.length with
    |zero=>rfl
    |succ m ih=>first |rw[List.replicate_succ,List.replicate_succ,List.flatten_cons,ih];rfl | (simp[List.replicate_succ] at ih ⊢;try exact ih)
   case q=>first | (constructor <;> first |omega | (show _<=_;simp;try omega)) | (rw[sizeLine_eq];simp;omega)
  rw[o8,e];rfl
 have ee:Cq (gv 0) (vl [.fz (tupI r),.ow (.list ((fA r 0).map PyData.int)),.no,.no]) 0=.ok (kE (r.map PyData.int)) 0:=rfl
 obtain⟨env',β',ef,s,t,rfl,rfl⟩:=cW (t:=.two 2 3) (m:=uf 1 [2] [] (gv 2) (gv 3)) (ds:=kE (r.map PyData.int)) (k:=0)
  (fun k env β=>∃s t:Sl,env= [.fz (tupI r),.ow (.list ((fA r k).map PyData.int)),s,t]/\β=0)
  (env:=[.fz (tupI r),.ow (.list ((fA r 0).map PyData.int)),.no,.no]) (β:=0) ⟨.no,.no,rfl,rfl⟩ (by
   rintro k d env β hk ⟨s,t,rfl,rfl⟩
   unfold kE at hk
   rw[List.getElem?_mapIdx,List.getElem?_map] at hk
   cases hx:r[k]? with
   |none=>rw[hx] at hk;cases hk
   |some x=>
    rw[hx] at hk
    cases hk
    have hxm:=a9.mp (h.mem_iff.mp (List.mem_of_getElem? hx))
    refine⟨[.fz (tupI r),.ow (.list ((fA r (0 + k)).map PyData.int)),.fz (.int k),.fz (.int x)],rfl,?_⟩
    rw[Nat.zero_add]
    refine⟨[.fz (tupI r),.ow (.list ((fA r (k + 1)).map PyData.int)),.fz (.int k),.fz (.int x)],0,?_,_,_,rfl,rfl⟩
    rw[B9 (ds:=(fA r k).map PyData.int) (d:=.int k) (k:=x) (n:=x.toNat) (β1:=0) (β2:=0) rfl (by rfl) rfl (by rfl) ?b]
    ·rw[<-wY h hx,List.map_set];rfl
    case b=>
     unfold vD
     rw[if_pos hxm.1,if_pos (by rw[List.length_map];unfold fA;simp;omega)])
 have hle:(kE (r.map PyData.int)).length=r.length:=by unfold kE;simp
 rw[Nat.zero_add,hle,z0 h] at ef
 rw[az (env':=[.fz (tupI r),.ow (.list ((pY r).map PyData.int)),s,t]) (β':=0) (by
  rw[dO (env:=[.fz (tupI r),.ow (.list ((fA r 0).map PyData.int)),.no,.no]) ee]
  exact ef)]
 rfl
def vS (l:List Pr)(r:List Int):Bool:=l.all fun p=>decide (r.idxOf p.1 < r.idxOf p.2)
def Row (n:Nat)(l:List Pr)(r:List Int):Prop:=r.Perm (cA n)/\vS l r=true
noncomputable def nD (n:Nat)(l:List Pr)(d:D):Bool:=@decide (∃r:List Int,d=tupI r/\Row n l r) (Classical.propDecidable _)
theorem IE {n:Nat}{l:List Pr}{d:D}(h:nD n l d=true):∃r:List Int,d=tupI r/\Row n l r:=@of_decide_eq_true _ (Classical.propDecidable _) h
theorem nR {n:Nat}{l:List Pr}{r:List Int}(h:Row n l r):nD n l (tupI r)=true:=@decide_eq_true _ (Classical.propDecidable _) ⟨r,rfl,h⟩
theorem yH {n:Nat}{l:List Pr}{d:D}(h:∀r:List Int,d=tupI r->¬Row n l r):nD n l d=false:=@decide_eq_false _ (Classical.propDecidable _) fun⟨r,e,p⟩=>h r e p
noncomputable def JB:List D->FR:=ba 3 2 (fw xG HC)
theorem A4 {n:Nat}{r:List Int}(h:r.Perm (cA n)){a b:Int}(ha:0<=a/\a < n)(hb:0<=b/\b < n){fp fa fb:VF D}{vs:List Nv}{β:Int}(hp:fp vs β=.ok (.list ((pY r).map PyData.int)) β)(h1:fa vs β=.ok (.int a) β)(h2:fb vs β=.ok (.int b) β) :
  f2 (f2 fp fa cv) (f2 fp fb cv) rX vs β=.ok (.bool (decide (r.idxOf a < r.idxOf b))) β:=by
 refine aE (aE hp h1 (show jI ((pY r).map PyData.int) a=_ by rw[fX,Bg h ha];rfl)) (aE hp h2 (show jI ((pY r).map PyData.int) b=_ by rw[fX,Bg h hb];rfl)) ?_
 show some (PyData.bool (decide (((r.idxOf a:Nat):Int) < ((r.idxOf b:Nat):Int))))=_
 congr 2
 rw[Bool.eq_iff_iff,decide_eq_true_eq,decide_eq_true_eq]
 omega
theorem Kh {n:Nat}{l:List Pr}{d:D}(O:OM.Ord n l)(h:Ge d):JB [d,aB n l]=.ok (.bool (nD n l d)) false:=by
 have h8:=O.hi
 show fin (fw xG HC [.fz d,.fz (aB n l),.no] 0)=_
 unfold fw
 have t:nr (aI xG (aa (gv 0) (aa (f2 (gv 1) (cst (.int 0)) cv) ag))) (vl [.fz d,.fz (aB n l),.no]) 0=.ok (pN n d) 0:=jC (aM (ds:=[d,.int n]) (ac rfl (ac (CM (n:=n) (l:=l) rfl) an)) (FP (by omega) h))
 cases q:pN n d with
 |false=>
  rw[q] at t
  rw[dH (d:=.bool false) (b:=false) (β':=0) (by rw[fQ (b4 t)];rfl),yH]
  ·rfl
  ·rintro r rfl hr
   rw[um hr.1] at q;cases q
 |true=>
  rw[q] at t
  obtain⟨r,rfl,pm⟩:=GO q
  rw[az (env':=[.fz (tupI r),.fz (aB n l),.no]) (β':=0) (by rw[gK (b4 t)];rfl)]
  rw[az (env':=[.fz (tupI r),.fz (aB n l),.fz (.list ((pY r).map PyData.int))]) (β':=0) (by rw[gR,aM (ds:=[tupI r]) (β1:=0) rfl (IC (by omega) pm)];rfl)]
  have ec:aN 2 [2] (.two 0 1) (bF (f2 (gv 1) (cst (.int 1)) cv)) lN (f2 (f2 (gv 2) (gv 0) cv) (f2 (gv 2) (gv 1) cv) rX) (vl [.fz (tupI r),.fz (aB n l),.fz (.list ((pY r).map PyData.int))]) 0=.ok (.list (l.map fun p=>PyData.bool (decide (r.idxOf p.1 < r.idxOf p.2)))) 0:=by
   refine eJ (l:=l) (e:=aJ) (fun p=>PyData.bool (decide (r.idxOf p.1 < r.idxOf p.2))) rfl (by have:=lM O;omega) fun p hp=>⟨_,rfl,?_⟩
   have hw:=O.wn p hp
   exact A4 pm hw.1 hw.2 rfl rfl rfl
  rw[fY,G7 (f:=fun p=>decide (r.idxOf p.1 < r.idxOf p.2)) ec]
  show FR.ok (.bool (vS l r)) false=_
  cases qf:vS l r with
  |true=>rw[nR ⟨pm,qf⟩]
  |false=>
   rw[yH]
   rintro r' e hr
   have e:=jV e
   subst e
   rw[hr.2] at qf;cases qf
def Gt (d:D):Prop:=b5 d=false/\∀ds,d=.list ds->ds.length<=100/\∀e,e∈ds->Ge e
noncomputable def tP (n:Nat)(l:List Pr)(d:D):Bool:=@decide (∃rs:List (List Int),d=.list (rs.map tupI)/\rs≠ []/\∀r,r∈rs->Row n l r) (Classical.propDecidable _)
theorem GV {n:Nat}{l:List Pr}{d:D}(h:tP n l d=true):∃rs:List (List Int),d=.list (rs.map tupI)/\rs≠ []/\∀r,r∈rs->Row n l r:=@of_decide_eq_true _ (Classical.propDecidable _) h
theorem rb {n:Nat}{l:List Pr}{rs:List (List Int)}(h1:rs≠ [])(h:∀r,r∈rs->Row n l r):tP n l (.list (rs.map tupI))=true:=@decide_eq_true _ (Classical.propDecidable _) ⟨rs,rfl,h1,h⟩
theorem vU {n:Nat}{l:List Pr}{d:D}(h:∀rs:List (List Int),d=.list (rs.map tupI)->rs≠ []->∃r,r∈rs/\¬Row n l r):tP n l d=false:=@decide_eq_false _ (Classical.propDecidable _) fun⟨r,e,h1,h2⟩=>by
 obtain⟨x,hx,hn⟩:=h r e h1
 exact hn (h2 x hx)
theorem all_rows {n:Nat}{l:List Pr}:∀{ds:List D},ds.all (nD n l)=true->∃rs:List (List Int),ds=rs.map tupI/\∀r,r∈rs->Row n l r
 | [],_=>⟨[],rfl,fun r hr=>by cases hr⟩
 |d :: ds,h=>by
  rw[List.all_cons,Bool.and_eq_true] at h
  obtain⟨r,rfl,hr⟩:=IE h.1
  obtain⟨rs,rfl,hrs⟩:=all_rows h.2
  refine⟨r :: rs,rfl,fun x hx=>?_⟩
  rcases List.mem_cons.mp hx with rfl |hx
  ·exact hr
  ·exact hrs x hx
noncomputable def Kr:List D->FR:=ba 2 2 (jv JB)
theorem J8 {n:Nat}{l:List Pr}{d:D}(O:OM.Ord n l)(h:Gt d):Kr [d,aB n l]=.ok (.bool (tP n l d)) false:=by
 show fin (jv JB [.fz d,.fz (aB n l)] 0)=_
 unfold jv
 have e1:=Fb (fa:=gv 0) (vs:=vl [.fz d,.fz (aB n l)]) (β:=0) rfl h.1
 cases q:DY d with
 |false=>
  rw[q] at e1
  rw[dH (d:=.bool false) (b:=false) (β':=0) (by rw[fQ (rj (b4 (jC e1)))];rfl),vU]
  ·rfl
  ·rintro rs rfl;cases q
 |true=>
  rw[q] at e1
  obtain⟨ds,rfl⟩:=yC q
  have hd:=h.2 ds rfl
  have t2:cc (f2 (f1 (gv 0) cz) (cst (.int 0)) (c5 false)) (vl [.fz (.list ds),.fz (aB n l)]) 0=.ok (decide ((ds.length:Int)=0)) 0:=fm (neg:=false) (BA rfl) rfl
  cases ds with
  |nil=>
   rw[dH (d:=.bool false) (b:=false) (β':=0) (by rw[fQ (g9 (b4 (jC e1)) t2)];rfl),vU]
   ·rfl
   ·intro rs e hne
    have e:=PyData.list.inj e
    cases rs with
    |nil=>exact absurd rfl hne
    |cons=>cases e
  |cons x ds=>
   rw[decide_eq_false (by simp;omega)] at t2
   rw[az (env':=[.fz (.list (x :: ds)),.fz (aB n l)]) (β':=0) (by rw[gK (g9 (b4 (jC e1)) t2)];rfl)]
   have ec:aN 1 [1] (.nm 0) (bF (gv 0)) lN (aI JB (aa (gv 0) (aa (gv 1) ag))) (vl [.fz (.list (x :: ds)),.fz (aB n l)]) 0=.ok (.list ((x :: ds).map fun e=>PyData.bool (nD n l e))) 0:=
    mT (fun e=>PyData.bool (nD n l e)) rfl (by omega) fun e he=>⟨_,rfl,aM (ds:=[e,aB n l]) rfl (Kh O (hd.2 e he))⟩
   rw[fY,sJ (f:=nD n l) ec]
   cases qa:(x :: ds).all (nD n l) with
   |true=>
    obtain⟨rs,e,hrs⟩:=all_rows qa
    rw[e,rb (by rintro rfl;cases e) hrs];rfl
   |false=>
    rw[vU]
    ·rfl
    ·intro rs e hne
     have e:=PyData.list.inj e
     rw[e,List.all_map,List.all_eq_false] at qa
     obtain⟨r,hr,hx⟩:=qa
     exact⟨r,hr,fun z=>hx (nR z)⟩
def Em (rs:List (List Int))(p:Pr):Bool:=rs.all fun r=>decide (r.idxOf p.1 < r.idxOf p.2)
def JK:List D->FR:=ba 3 3 dQ
theorem CT {α:Type}{fa:VF D}{vs:List Nv}{β:Int}{l:List α}{f:α->Bool}(h:fa vs β=.ok (.list (l.map fun q=>PyData.bool (f q))) β):f1 fa (b9 fun bs=>bs.all id) vs β=.ok (.bool (l.all f)) β:=by
 refine bM h ?_
 simp only[b9]
 rw[gn]
 simp[List.all_map,Function.comp_def]
theorem Kt {n:Nat}{rs:List (List Int)}(hz:rs.length<=100)(hp:∀r,r∈rs->r.Perm (cA n)){a b:Int}(ha:0<=a/\a < n)(hb:0<=b/\b < n):JK [.list (rs.map fun r=>.list ((pY r).map PyData.int)),.int a,.int b]=.ok (.bool (Em rs (a,b))) false:=by
 show fin (dQ [.fz (.list (rs.map fun r=>.list ((pY r).map PyData.int))),.fz (.int a),.fz (.int b)] 0)=_
 unfold dQ
 have ec:aN 1 [1,2] (.nm 0) (bF (gv 0)) lN (f2 (f2 (gv 0) (gv 1) cv) (f2 (gv 0) (gv 2) cv) rX) (vl [.fz (.list (rs.map fun r=>.list ((pY r).map PyData.int))),.fz (.int a),.fz (.int b)]) 0=.ok (.list (rs.map fun r=>PyData.bool (decide (r.idxOf a < r.idxOf b)))) 0:=
  eJ (l:=rs) (e:=fun r=>.list ((pY r).map PyData.int)) (fun r=>PyData.bool (decide (r.idxOf a < r.idxOf b))) rfl (by omega) fun r hr=>⟨_,rfl,A4 (hp r hr) ha hb rfl rfl rfl⟩
 rw[fY,CT ec];rfl
noncomputable def Kn:List D->FR:=ba 3 2 (dR HC tx JK)
theorem ID {n:Nat}{rs:List (List Int)}(h1:1<=n)(h8:n<=8)(hz:rs.length<=100)(hp:∀r,r∈rs->r.Perm (cA n)):Kn [.int n,.list (rs.map tupI)]=.ok (.tuple (((OM.bR n).filter (Em rs)).map aJ)) false:=by
 show fin (dR HC tx JK [.fz (.int n),.fz (.list (rs.map tupI)),.no] 0)=_
 unfold dR
 have e1:aN 1 [] (.nm 0) (bF (gv 1)) lN (aI HC (aa (gv 0) ag)) (vl [.fz (.int n),.fz (.list (rs.map tupI)),.no]) 0=.ok (.list (rs.map fun r=>.list ((pY r).map PyData.int))) 0:=
  eJ (l:=rs) (e:=tupI) (fun r=>.list ((pY r).map PyData.int)) rfl (by omega) fun r hr=>⟨_,rfl,aM (ds:=[tupI r]) rfl (IC (by omega) (hp r hr))⟩
 rw[az (env':=[.fz (.int n),.fz (.list (rs.map tupI)),.fz (.list (rs.map fun r=>.list ((pY r).map PyData.int)))]) (β':=0) (by rw[gR,e1];rfl)]
 have hg:(OM.bR n).length<=64:=by rw[fI];exact Nat.mul_le_mul h8 h8
 have e2:aN 2 [2] (.two 0 1) (bF (aI tx (aa (gv 0) ag))) (nr (aI JK (aa (gv 2) (aa (gv 0) (aa (gv 1) ag))))) (bG (aa (gv 0) (aa (gv 1) ag))) (vl [.fz (.int n),.fz (.list (rs.map tupI)),.fz (.list (rs.map fun r=>.list ((pY r).map PyData.int)))]) 0=.ok (.list (((OM.bR n).filter (Em rs)).map aJ)) 0:=by
  refine eQ (l:=OM.bR n) (e:=aJ) (Em rs) aJ ?_ (by omega) fun p hp'=>⟨_,rfl,?_,fun _=>pA rfl rfl⟩
  ·unfold bF
   rw[aM (ds:=[.int n]) (β1:=0) rfl (Dd h1 h8)];rfl
  ·have:=OM.bO.mp hp'
   exact jC (aM (ds:=[.list (rs.map fun r=>.list ((pY r).map PyData.int)),.int p.1,.int p.2]) rfl (Kt hz hp this.1 this.2))
 rw[fY,bM (g:=mK) e2 rfl];rfl
end RM

end

section
namespace RM
open PySem L2
theorem any_ints (a:Int):∀s:List Int,((s.map PyData.int).any fun e=>PyData.eqv e (.int a))=decide (a∈s)
 | []=>rfl
 |b :: s=>by
  rw[List.map_cons,List.any_cons,any_ints a s]
  show ((b == a) || _)=_
  rw[Bool.eq_iff_iff]
  simp only[Bool.or_eq_true,beq_iff_eq,decide_eq_true_eq,List.mem_cons]
  exact⟨fun h=>h.imp Eq.symm id,fun h=>h.imp Eq.symm id⟩
theorem zu (s:List Int):(s.map PyData.int).all SeqAt.shaped=true:=by
 rw[List.all_eq_true]
 intro d hd
 obtain⟨p,_,rfl⟩:=List.mem_map.mp hd
 rfl
theorem nY (neg:Bool)(a:Int)(s:List Int):zw neg (.int a) (tupI s)=some (.bool (if neg then !decide (a∈s) else decide (a∈s))):=by
 unfold zw tupI
 simp only[jD,zu,any_ints]
 rfl
theorem uR {a b:List D}(h:a.length + b.length<=1000):ly (.tuple a) (.tuple b)=some (.tuple (a ++ b)):=if_pos (by rw[sizeLine_eq];omega)
theorem Ih {fa fb:VF D}{vs:List Nv}{β β1 β2:Int}{r q:List Int}(h1:fa vs β=.ok (tupI r) β1)(h2:fb vs β1=.ok (tupI q) β2)(hz:r.length + q.length<=1000):f2 fa fb ly vs β=.ok (tupI (r ++ q)) β2:=
 aE h1 h2 (by unfold tupI;rw[uR (by simpa using hz),<-List.map_append])
def nk (l:List Pr)(r:List Int)(x:Int):List Int:=(l.filter fun p=>decide (p.2=x) && !decide (p.1∈r)).map (·.1)
theorem lA {l:List Pr}{r:List Int}{x a:Int}:a∈nk l r x↔(a,x)∈l/\a∉r:=by
 unfold nk
 rw[List.mem_map]
 constructor
 ·rintro⟨p,hp,rfl⟩
  have:=List.mem_filter.mp hp
  simp only[Bool.and_eq_true,decide_eq_true_eq,Bool.not_eq_true',decide_eq_false_iff_not] at this
  obtain⟨pa,pb⟩:=p
  obtain⟨h1,h2,h3⟩:=this
  simp only at h2 h3
  subst h2
  exact⟨h1,h3⟩
 ·rintro⟨h1,h2⟩
  exact⟨(a,x),List.mem_filter.mpr ⟨h1,by simp[h2]⟩,rfl⟩
theorem zF {n:Nat}{l:List Pr}(O:OM.Ord n l)(r:List Int)(x:Int):(nk l r x).Nodup:=by
 unfold nk
 rw[List.nodup_iff_pairwise_ne,List.pairwise_map]
 refine List.Pairwise.imp_of_mem (fun {a b} ha hb h e=>h ?_) (List.nodup_iff_pairwise_ne.mp ((OM.gu O.ris).filter _))
 have h1:=(List.mem_filter.mp ha).2
 have h2:=(List.mem_filter.mp hb).2
 simp only[Bool.and_eq_true,decide_eq_true_eq] at h1 h2
 exact Prod.ext e (h1.1.trans h2.1.symm)
theorem least {n:Nat}{l:List Pr}(O:OM.Ord n l)(r:List Int):∀(k:Nat) (x:Int),(0<=x/\x < n)->x∉r->(nk l r x).length<=k->∃y:Int,(0<=y/\y < n)/\y∉r/\nk l r y= []
 | 0,x,hx,hr,hk=>⟨x,hx,hr,List.length_eq_zero_iff.mp (by omega)⟩
 |k + 1,x,hx,hr,hk=>by
  by_cases he:nk l r x= []
  ·exact⟨x,hx,hr,he⟩
  ·obtain⟨a,ha⟩:=List.exists_mem_of_ne_nil _ he
   obtain⟨h1,h2⟩:=lA.mp ha
   refine least O r k a (O.wn _ h1).1 h2 ?_
   have nd:(a :: nk l r a).Nodup:=List.nodup_cons.mpr ⟨fun q=>O.irr a (lA.mp q).1,zF O r a⟩
   have:=L2.ST.bp nd (m:=nk l r x) fun y hy=>by
    rcases List.mem_cons.mp hy with rfl |hy
    ·exact ha
    ·obtain⟨q1,q2⟩:=lA.mp hy
     exact lA.mpr ⟨O.tr _ _ _ q1 h1,q2⟩
   rw[List.length_cons] at this
   omega
structure Ag (n:Nat)(l:List Pr)(r:List Int):Prop where
 nd:r.Nodup
 inn:∀x,x∈r->0<=x/\x < (n:Int)
 fit:∀p,p∈l->p.2∈r->p.1∈r/\r.idxOf p.1 < r.idxOf p.2
theorem Ag.len {n:Nat}{l:List Pr}{r:List Int}(B:Ag n l r):r.length<=n:=by
 have:=L2.ST.bp B.nd (m:=cA n) fun x hx=>a9.mpr (B.inn x hx)
 rwa [cw] at this
theorem Ag.row {n:Nat}{l:List Pr}{r:List Int}(O:OM.Ord n l)(B:Ag n l r)(h:n<=r.length):Row n l r:=by
 have pm:=u7 (Nat.le_antisymm B.len h) B.inn B.nd
 refine⟨pm,List.all_eq_true.mpr fun p hp=>decide_eq_true ?_⟩
 exact (B.fit p hp (pm.mem_iff.mpr (a9.mpr (O.wn p hp).2))).2
def gN (l:List Pr)(r:List Int)(x:Int):Bool:= !decide (x∈r) && decide (nk l r x= [])
theorem Ag.more {n:Nat}{l:List Pr}{r:List Int}{x:Int}(B:Ag n l r)(hx:0<=x/\x < (n:Int))(hf:gN l r x=true):Ag n l (r ++ [x]):=by
 unfold gN at hf
 rw[Bool.and_eq_true,Bool.not_eq_true',decide_eq_false_iff_not,decide_eq_true_eq] at hf
 obtain⟨h1,h2⟩:=hf
 refine⟨?_,fun y hy=>?_,fun p hp hm=>?_⟩
 ·rw[List.nodup_append]
  refine⟨B.nd,List.nodup_cons.mpr ⟨by simp,List.nodup_nil⟩,fun a ha b hb=>?_⟩
  rw[List.mem_singleton] at hb
  subst hb
  exact fun q=>h1 (q▸ha)
 ·rcases List.mem_append.mp hy with hy |hy
  ·exact B.inn y hy
  ·rw[List.mem_singleton] at hy;subst hy;exact hx
 ·rcases List.mem_append.mp hm with hm |hm
  ·obtain⟨q1,q2⟩:=B.fit p hp hm
   refine⟨List.mem_append_left _ q1,?_⟩
   rw[List.idxOf_append,List.idxOf_append,if_pos q1,if_pos hm]
   exact q2
  ·rw[List.mem_singleton] at hm
   have hp1:p.1∈r:=by
    by_cases z:p.1∈r
    ·exact z
    ·have:p.1∈nk l r x:=lA.mpr ⟨by rw[<-hm];exact hp,z⟩
     rw[h2] at this;cases this
   refine⟨List.mem_append_left _ hp1,?_⟩
   rw[List.idxOf_append,List.idxOf_append,if_pos hp1,if_neg (by rw[hm];exact h1)]
   have:=List.idxOf_lt_length_iff.mpr hp1
   omega
theorem Ag.free {n:Nat}{l:List Pr}{r:List Int}(O:OM.Ord n l)(B:Ag n l r)(h:r.length < n):(cA n).filter (gN l r)≠ []:=by
 have:∃x,x∈cA n/\x∉r:=by
  apply Classical.byContradiction
  intro z
  have:=L2.ST.bp (iF n) (m:=r) fun x hx=>Classical.byContradiction fun q=>z ⟨x,hx,q⟩
  rw[cw] at this
  omega
 obtain⟨x,hx,hr⟩:=this
 obtain⟨y,hy,hyr,hp⟩:=least O r _ x (a9.mp hx) hr (Nat.le_refl _)
 intro q
 have:y∈(cA n).filter (gN l r):=List.mem_filter.mpr ⟨a9.mpr hy,by unfold gN;simp[hyr,hp]⟩
 rw[q] at this
 cases this
noncomputable def yg:List D->Int->FB:=me 6 1 (jh bI)
def bD (l:List Pr)(r:List Int)(i:Nat):List Int:=(cA i).filter (gN l r)
theorem Cz (i:Nat):cA (i + 1)=cA i ++ [(i:Int)]:=by unfold cA;rw[List.range_succ,List.map_append];rfl
theorem qG (l:List Pr)(r:List Int)(i:Nat):bD l r (i + 1)=bD l r i ++ if gN l r (i:Int)=true then [(i:Int)] else []:=by
 unfold bD
 rw[Cz,List.filter_append]
 congr 1
 by_cases h:gN l r (i:Int)=true
 ·rw[if_pos h];simp[h]
 ·rw[if_neg h];simp[h]
theorem oy (l:List Pr)(r:List Int)(i:Nat):(bD l r i).length<=i:=by
 have:(bD l r i).length<=(cA i).length:=List.length_filter_le _ _
 rwa [cw] at this
abbrev x9:SF:=aA (bb 5 (([] ++ []) ++ []) (aN 2 [4,2] (.two 0 1) (bF (f2 (gv 1) (cst (.int 1)) cv)) (sS (cc (f2 (gv 1) (gv 2) (c5 false))) (cc (f2 (gv 0) (gv 3) (zw true)))) (gv 0)))
 (jH (([] ++ []) ++ ([] ++ [])) (sS (cc (f2 (gv 4) (gv 2) (zw true))) (cc (f2 (gv 5) (aW ag) (c5 false))))
 (kx 3 [4] (gv 4))
 lq)
theorem Dc {n:Nat}{l:List Pr}{r:List Int}{i:Nat}(O:OM.Ord n l)(hi:i < n)(s5:Sl)(β:Int):∃s5',x9 [.bx,.fz (aB n l),.fz (tupI r),.ow (.list ((bD l r i).map PyData.int)),.fz (.int i),s5] β=.nx [.bx,.fz (aB n l),.fz (tupI r),.ow (.list ((bD l r (i + 1)).map PyData.int)),.fz (.int i),s5'] β:=by
 have h8:=O.hi
 have hl:=lM O
 have ec:aN 2 [4,2] (.two 0 1) (bF (f2 (gv 1) (cst (.int 1)) cv)) (sS (cc (f2 (gv 1) (gv 2) (c5 false))) (cc (f2 (gv 0) (gv 3) (zw true)))) (gv 0) (vl [.bx,.fz (aB n l),.fz (tupI r),.ow (.list ((bD l r i).map PyData.int)),.fz (.int i),s5]) β=.ok (.list ((nk l r i).map PyData.int)) β:=by
  unfold nk
  rw[List.map_map]
  refine eQ (l:=l) (e:=aJ) (fun p=>decide (p.2=(i:Int)) && !decide (p.1∈r)) (fun p=>PyData.int p.1) rfl (by omega) fun p hp=>⟨_,rfl,?_,fun _=>rfl⟩
  refine pd (fm (neg:=false) (i:=p.2) (j:=i) rfl rfl) ?_
  exact cQ _ _ _ _ (aE (x:=.int p.1) (y:=tupI r) rfl rfl (nY true p.1 r))
 unfold x9
 rw[az (env':=[.bx,.fz (aB n l),.fz (tupI r),.ow (.list ((bD l r i).map PyData.int)),.fz (.int i),.fz (.list ((nk l r i).map PyData.int))]) (β':=β) (by rw[gR,ec];rfl)]
 have et:sS (cc (f2 (gv 4) (gv 2) (zw true))) (cc (f2 (gv 5) (aW ag) (c5 false))) (vl [.bx,.fz (aB n l),.fz (tupI r),.ow (.list ((bD l r i).map PyData.int)),.fz (.int i),.fz (.list ((nk l r i).map PyData.int))]) β=.ok (gN l r i) β:=
  pd (cQ _ _ _ _ (aE (x:=.int i) (y:=tupI r) rfl rfl (nY true i r))) (cQ _ _ _ _ (aE (x:=.list ((nk l r i).map PyData.int)) (y:=.list (([]:List Int).map PyData.int)) rfl (lp (ds:=[]) an) (iD false _ _)))
 rw[qG]
 cases c:gN l r (i:Int) with
 |true=>
  rw[c] at et
  rw[fQ et]
  refine⟨.fz (.list ((nk l r i).map PyData.int)),?_⟩
  have hz:=oy l r i
  rw[show a7 (([] ++ []) ++ ([] ++ [])) [Sl.bx,.fz (aB n l),.fz (tupI r),.ow (.list ((bD l r i).map PyData.int)),.fz (.int i),.fz (.list ((nk l r i).map PyData.int))]= [Sl.bx,.fz (aB n l),.fz (tupI r),.ow (.list ((bD l r i).map PyData.int)),.fz (.int i),.fz (.list ((nk l r i).map PyData.int))] from rfl]
  rw[nJ (i:=3) (ds:=(bD l r i).map PyData.int) (d:=.int i) (β':=β) (by rfl) rfl (by rfl) (by rw[List.length_map];omega),if_pos rfl,List.map_append]
  rfl
 |false=>
  rw[c] at et
  rw[gK et]
  exact⟨.fz (.list ((nk l r i).map PyData.int)),by rw[show bD l r i ++ (if false=true then [(i:Int)] else [])=bD l r i by simp];rfl⟩
theorem G6 {n:Nat}{l:List Pr}(O:OM.Ord n l)(β:Int):∃r β',yg [aB n l] β=.ok (tupI r) false β'/\Row n l r:=by
 have h8:=O.hi
 show ∃r β',vV (jh bI [.bx,.fz (aB n l),.no,.no,.no,.no] β)=.ok (tupI r) false β'/\Row n l r
 unfold jh
 rw[az (env':=[.bx,.fz (aB n l),.fz (tupI []),.no,.no,.no]) (β':=β) (by rw[gR,tp (ds:=[]) an];rfl)]
 obtain⟨env',β',ew,r,s3,s4,s5,rfl,hr⟩:=je (L:=[] ++ ([] ++ [])) (t:=cc (f2 (f1 (gv 2) cz) (f2 (gv 1) (cst (.int 0)) cv) rX))
  (m:=aA (iI 3 [] (aW ag))
   (aA (cm (.nm 4) ([] ++ []) (dz (f2 (gv 1) (cst (.int 0)) cv)) x9)
   (bb 2 ([] ++ (([] ++ ([] ++ [])) ++ [])) (f2 (gv 2) (bG (aa (f2 (gv 3) (jA 0 bI (aa (f1 (gv 3) cz) ag)) cv) ag)) ly))))
  (fun k env _=>∃r s3 s4 s5,env= [.bx,.fz (aB n l),.fz (tupI r),s3,s4,s5]/\Ag n l r/\k=n - r.length)
  (fun env _=>∃r s3 s4 s5,env= [.bx,.fz (aB n l),.fz (tupI r),s3,s4,s5]/\Row n l r)
  (n:=1000) (k:=n) (env:=[.bx,.fz (aB n l),.fz (tupI []),.no,.no,.no]) (β:=β) (by omega) ⟨[],.no,.no,.no,rfl,⟨List.nodup_nil,(fun x hx=>by cases hx),(fun p _ h=>by cases h)⟩,by simp⟩ (by
   rintro k env β ⟨r,s3,s4,s5,rfl,B,rfl⟩
   have hrl:=B.len
   have et:cc (f2 (f1 (gv 2) cz) (f2 (gv 1) (cst (.int 0)) cv) rX) (vl [.bx,.fz (aB n l),.fz (tupI r),s3,s4,s5]) β=.ok (decide ((r.length:Int) < n)) β:=by
    refine cQ _ _ _ _ (aE (x:=.int r.length) (y:=.int n) ?_ (CM (n:=n) (l:=l) rfl) rfl)
    rw[Be (ds:=r.map PyData.int) rfl,List.length_map]
   refine⟨_,_,et,?_⟩
   by_cases hlt:r.length < n
   ·refine .inr ⟨decide_eq_true (by omega),?_⟩
    show ∃env2 β2 k',aA _ _ [.bx,.fz (aB n l),.fz (tupI r),s3,s4,s5] β=.nx env2 β2/\k' < n - r.length/\_
    rw[az (env':=[.bx,.fz (aB n l),.fz (tupI r),.ow (.list ((bD l r 0).map PyData.int)),s4,s5]) (β':=β) (by rw[o8,lp (ds:=[]) an];rfl)]
    obtain⟨env',β',ef,u4,u5,rfl,rfl⟩:=cW (t:=.nm 4) (m:=x9) (ds:=b7 0 n) (k:=0)
     (fun i env b=>∃u4 u5,env= [.bx,.fz (aB n l),.fz (tupI r),.ow (.list ((bD l r i).map PyData.int)),u4,u5]/\b=β)
     (env:=[.bx,.fz (aB n l),.fz (tupI r),.ow (.list ((bD l r 0).map PyData.int)),s4,s5]) (β:=β) ⟨s4,s5,rfl,rfl⟩ (by
      rintro i d env b hi ⟨u4,u5,rfl,rfl⟩
      obtain⟨hin,rfl⟩:=dI hi
      obtain⟨v5,e⟩:=Dc (r:=r) O hin u5 b
      refine⟨[.bx,.fz (aB n l),.fz (tupI r),.ow (.list ((bD l r (0 + i)).map PyData.int)),.fz (.int (0 + (i:Int))),u5],rfl,?_⟩
      rw[Nat.zero_add,Int.zero_add]
      exact⟨_,_,e,_,_,rfl,rfl⟩)
    rw[cH,Nat.zero_add] at ef
    rw[az (env':=[.bx,.fz (aB n l),.fz (tupI r),.ow (.list ((bD l r n).map PyData.int)),u4,u5]) (β':=β') (by
     rw[dO (env:=[.bx,.fz (aB n l),.fz (tupI r),.ow (.list ((bD l r 0).map PyData.int)),s4,s5]) (cV (n:=n) (CM (n:=n) (l:=l) rfl) (by omega))]
     exact ef)]
    have hne:bD l r n≠ []:=B.free O hlt
    have hpos:1<=(bD l r n).length:=List.length_pos_iff.mpr hne
    have hz:=oy l r n
    obtain⟨j,hj,ej⟩:=dU (m:=(bD l r n).length) hpos (by omega) β'
    have hx:(bD l r n)[j]? =some (bD l r n)[j]:=List.getElem?_eq_getElem hj
    have hm:(bD l r n)[j]∈bD l r n:=List.getElem_mem hj
    generalize (bD l r n)[j]=x at hx hm
    obtain⟨hm1,hm2⟩:=List.mem_filter.mp hm
    have B':=B.more (a9.mp hm1) hm2
    have e1:bG (aa (f2 (gv 3) (jA 0 bI (aa (f1 (gv 3) cz) ag)) cv) ag) (vl [.bx,.fz (aB n l),.fz (tupI r),.ow (.list ((bD l r n).map PyData.int)),u4,u5]) β'=.ok (tupI [x]) (β' / ((bD l r n).length:Int)):=by
     refine km (ds:=[.int x]) ?_ (by simp)
     rw[cj,aE (x:=.list ((bD l r n).map PyData.int)) (y:=.int j) (d:=.int x) (β1:=β') (β2:=β' / ((bD l r n).length:Int)) rfl (di (ds:=[.int (bD l r n).length]) (β1:=β') (by rfl) (ac (by rw[BA (ds:=(bD l r n).map PyData.int) rfl,List.length_map]) an) ej) (show jI ((bD l r n).map PyData.int) (j:Int)=_ by rw[fX,gW hx];rfl)]
     rfl
    refine⟨[.bx,.fz (aB n l),.fz (tupI (r ++ [x])),.ow (.list ((bD l r n).map PyData.int)),u4,u5],β' / ((bD l r n).length:Int),n - (r ++ [x]).length,?_,by rw[List.length_append,List.length_singleton];omega,_,_,_,_,rfl,B',rfl⟩
    rw[gR,Ih (r:=r) (q:=[x]) (β1:=β') rfl e1 (by simp;omega)];rfl
   ·refine .inl ⟨decide_eq_false (by omega),r,s3,s4,s5,rfl,B.row O (by omega)⟩)
 rw[az (env':=[.bx,.fz (aB n l),.fz (tupI r),s3,s4,s5]) (β':=β') ew]
 exact⟨r,β',rfl,hr⟩
end RM

end

section
namespace RM
open PySem L2
theorem BX {fa fb:VF D}{vs:List Nv}{β:Int}{ds:List D}{i:Nat}(ha:fa vs β=.ok (.tuple ds) β)(hb:fb vs β=.ok (.int ((i:Nat):Int)) β):pV fa (vE fb) (fun _ β=>.ok none β) vs β=.ok (.tuple (ds.drop i)) β:=by
 unfold pV vE
 rw[ha];dsimp only[R.bnd]
 rw[hb];dsimp only[R.bnd]
 congr 2
 unfold cutD
 rw[HT.l0,HT.nS]
 by_cases h:i<=ds.length
 ·rw[Nat.min_eq_left h];exact List.take_of_length_le (by rw[List.length_drop];omega)
 ·rw[Nat.min_eq_right (by omega),List.drop_length,List.drop_of_length_le (by omega)];simp
theorem Ak {fa fb:VF D}{vs:List Nv}{β:Int}{ds:List D}{i:Nat}(ha:fa vs β=.ok (.tuple ds) β)(hb:fb vs β=.ok (.int ((i:Nat):Int)) β):pV fa (fun _ β=>.ok none β) (vE fb) vs β=.ok (.tuple (ds.take i)) β:=by
 unfold pV vE
 rw[ha];dsimp only[R.bnd]
 rw[hb];dsimp only[R.bnd]
 congr 2
 unfold cutD
 rw[HT.l0,HT.nS]
 by_cases h:i<=ds.length
 ·rw[Nat.min_eq_left h];rfl
 ·rw[Nat.min_eq_right (by omega),List.take_of_length_le (show ds.length<=i by omega)];simp
end RM

end

section
namespace RM
open PySem L2
structure WP (r:SO)(Q:SO->Prop):Prop where
 out:Q r
section
variable {m m' m1 m2:SF}{env env1:En}{β β1 β2 z:Int}{Q:SO->Prop}{f fa fb:VF D}{t:VF Bool}{d e:D}{L La Lb:List Nat}{i j:Nat}{c:Bool}
theorem wp_at (env1:En)(e:env=env1)(k:WP (m env1 β) Q):WP (m env β) Q:=by rw[e];exact k
theorem wp_seq (h:m env β=.nx env1 β1)(k:WP (m' env1 β1) Q):WP (aA m m' env β) Q:=by rw[az h];exact k
theorem k7 (h:WP (aA m lq env β) Q):WP (m env β) Q:=by
 obtain⟨h⟩:=h
 unfold aA at h
 cases e:m env β with
 |_=>rw[e] at h;exact⟨h⟩
theorem jS (q:Q (.nx env β)):WP (lq env β) Q:=⟨q⟩
theorem dh (h:f (vl env) β=.ok d β1)(k:WP (m' ((a7 L env).set i (.fz d)) β1) Q):WP (aA (bb i L f) m' env β) Q:=wp_seq (by unfold bb;rw[h];rfl) k
theorem yk (h:f (vl env) β=.ok d β1)(k:WP (m' ((a7 L env).set i (.ow d)) β1) Q):WP (aA (iI i L f) m' env β) Q:=wp_seq (by unfold iI;rw[h];rfl) k
theorem DQ (h:f (vl env) β=.ok (.list [.int z]) β1)(k:WP (m' ((qr (a7 L env)).set i .bx) z) Q):WP (aA (xE i L f) m' env β) Q:=wp_seq (by unfold xE;rw[h];rfl) k
theorem C1 (h:f (vl env) β=.ok d β1)(k:WP (m' (a7 L env) β1) Q):WP (aA (uv L f) m' env β) Q:=wp_seq (by unfold uv;rw[h];rfl) k
theorem vI {ds:List D}(hi:env[i]? =some (.ow (.list ds)))(h:f (vl env) β=.ok d β1)(hL:(a7 L env)[i]? =some (.ow (.list ds)))(hz:ds.length<=1000)(k:WP (m' ((a7 L env).set i (.ow (.list (ds ++ [d])))) β1) Q):WP (aA (kx i L f) m' env β) Q:=wp_seq (nJ hi h hL hz) k
theorem sv (h:t (vl env) β=.ok false β1)(k:WP (m' (a7 L env) β1) Q):WP (aA (jH L t m1 lq) m' env β) Q:=wp_seq (by rw[gK h];rfl) k
theorem rW (h:t (vl env) β=.ok true β1)(k:WP (aA m1 m' (a7 L env) β1) Q):WP (aA (jH L t m1 m2) m' env β) Q:=by
 have:aA (jH L t m1 m2) m' env β=aA m1 m' (a7 L env) β1:=by unfold aA;rw[fQ h]
 rw[this];exact k
theorem Fl (h:t (vl env) β=.ok true β1)(k:WP (m1 (a7 L env) β1) Q):WP (jH L t m1 m2 env β) Q:=by rw[fQ h];exact k
theorem Il (h:t (vl env) β=.ok false β1)(k:WP (m2 (a7 L env) β1) Q):WP (jH L t m1 m2 env β) Q:=by rw[gK h];exact k
theorem la (h:f (vl env) β=.ok d β1)(q:Q (.rt d false β1)):WP (bA f env β) Q:=⟨by unfold bA;rw[h];exact q⟩
theorem yw (h:f (vl env) β=.ok d β1)(q:Q (.rt d false β1)):WP (aA (bA f) m' env β) Q:=⟨by unfold aA bA;rw[h];exact q⟩
theorem DR (h:f (vl env) β=.ok d β1)(q:Q (.rt d true β1)):WP (m8 f env β) Q:=⟨by unfold m8;rw[h];exact q⟩
theorem vT {R:FR}(h:WP (m env β) fun r=>fin r=R):fin (m env β)=R:=h.out
theorem mF {t:Tg}{fi:VF (List D)}{ds:List D}(I:Nat->En->Int->Prop)(hi:fi (vl env) β=.ok ds β1)(h0:I 0 (a7 L env) β1)
  (hs:∀i d env β,ds[i]? =some d->I i env β->∃env1,fS t d env=some env1/\WP (m env1 β) fun r=>∃env2 β2,r=.nx env2 β2/\I (i + 1) env2 β2)
  (k:∀env β,I ds.length env β->WP (m' env β) Q):WP (aA (cm t L fi m) m' env β) Q:=by
 obtain⟨env',β',e,h⟩:=cW (t:=t) (m:=m) I (ds:=ds) (k:=0) h0 fun i d env β hd h=>by
  rw[Nat.zero_add] at h
  obtain⟨env1,e1,⟨env2,β2,e2,h2⟩⟩:=hs i d env β hd h
  exact⟨env1,e1,env2,β2,e2,by rw[Nat.zero_add];exact h2⟩
 rw[Nat.zero_add] at h
 exact wp_seq ((dO hi).trans e) (k _ _ h)
end
theorem A1 (c:Int)(hc:0<=c/\c<=100)(ns:List Int)(vs:List Nv)(β:Int)(h:gv 0 vs β=.ok (b6 ns) β):∃m:Nat,m<=101/\dz (f2 (cst (.int 1)) (f2 (f1 (gv 0) cz) (cst (.int c)) (wa fun i j=>.int (if j < i then j else i))) (wa fun i j=>.int (if j > i then j else i))) vs β=.ok (b7 0 m) β:=by
 have e1:f2 (cst (.int 1)) (f2 (f1 (gv 0) cz) (cst (.int c)) (wa fun i j=>.int (if j < i then j else i))) (wa fun i j=>.int (if j > i then j else i)) vs β=.ok (.int (if (if c < ((ns.map PyData.int).length:Int) then c else ((ns.map PyData.int).length:Int)) > 1 then (if c < ((ns.map PyData.int).length:Int) then c else ((ns.map PyData.int).length:Int)) else 1)) β:=
  aE (x:=.int 1) rfl (aE (x:=.int (ns.map PyData.int).length) (y:=.int c) (bM h rfl) rfl rfl) rfl
 generalize ((ns.map PyData.int).length:Nat)=k at e1
 refine⟨(if (if c < (k:Int) then c else (k:Int)) > 1 then (if c < (k:Int) then c else (k:Int)) else 1).toNat,?_,cV (e1.trans ?_) ?_⟩
 ·split <;> split <;> omega
 ·congr 2
  split <;> split <;> omega
 ·split <;> split <;> omega
end RM

end

section
namespace RM
open PySem L2
theorem ub {n:Nat}{r:List Int}:(sortI r=cA n)↔r.Perm (cA n):=by
 constructor
 ·intro h;rw[<-h];exact (sortI_perm r).symm
 ·intro h;exact (kR h.symm ((Hw n).imp fun h=>Int.le_of_lt h)).symm
noncomputable def HB (n:Nat)(d:D):Bool:=@decide (∃r:List Int,d=tupI r/\r.Perm (cA n)) (Classical.propDecidable _)
theorem JX {n:Nat}{d:D}(h:HB n d=true):∃r:List Int,d=tupI r/\r.Perm (cA n):=@of_decide_eq_true _ (Classical.propDecidable _) h
theorem D4 {n:Nat}{d:D}(h:∀r:List Int,d=tupI r->¬r.Perm (cA n)):HB n d=false:=@decide_eq_false _ (Classical.propDecidable _) fun⟨r,e,p⟩=>h r e p
theorem Ci {n:Nat}{r:List Int}(h:r.Perm (cA n)):HB n (tupI r)=true:=@decide_eq_true _ (Classical.propDecidable _) ⟨r,rfl,h⟩
theorem xR:∀{es:List D},es.all uQ=true->∃r:List Int,es=r.map PyData.int
 | [],_=>⟨[],rfl⟩
 |d :: es,h=>by
  rw[List.all_cons,Bool.and_eq_true] at h
  obtain⟨r,rfl⟩:=xR h.2
  cases d with
  |int a=>exact⟨a :: r,rfl⟩
  |_=>cases h.1
noncomputable def JJ:List D->FR:=ba 2 2 (fo Jy)
theorem HG {n:Nat}{d:D}(h8:n<=8)(h:Ge d):JJ [d,.int n]=.ok (.bool (HB n d)) false:=by
 show fin (fo Jy [.fz d,.fz (.int n)] 0)=_
 unfold fo
 have g0:gv 0 (vl [.fz d,.fz (.int n)]) 0=.ok d 0:=rfl
 have t1:=ET g0 h.1
 cases hy:Cy d with
 |false=>
  rw[hy] at t1
  rw[D4 (n:=n) (d:=d) (fun r e=>by rw[e] at hy;cases hy),dH (d:=.bool false) (b:=false) (β':=0) (by rw[fQ (rj (b4 t1))];rfl)];rfl
 |true=>
  obtain⟨es,rfl⟩:=xM hy
  rw[hy] at t1
  have t2:cc (f2 (f1 (gv 0) cz) (gv 1) (c5 true)) (vl [.fz (.tuple es),.fz (.int n)]) 0=.ok (!decide ((es.length:Int)=(n:Int))) 0:=fm (neg:=true) (bM (x:=.tuple es) rfl rfl) rfl
  by_cases c:(es.length:Int)=(n:Int)
  ·rw[decide_eq_true c] at t2
   have hs:=(h.2 _ rfl).2
   have ec:aN 1 [] (.nm 0) (bF (gv 0)) lN (aI Jy (aa (gv 0) ag)) (vl [.fz (.tuple es),.fz (.int n)]) 0=.ok (.list (es.map fun e=>PyData.bool (uQ e))) 0:=
    mT (fun e=>PyData.bool (uQ e)) rfl (by omega) fun e he=>⟨_,rfl,aM (ds:=[e]) rfl (JZ (hs e he))⟩
   have ea:=sJ ec
   cases hw:es.all uQ with
   |false=>
    rw[hw] at ea
    rw[D4 (n:=n) (d:=.tuple es) (fun r e=>by
     have e:=PyData.tuple.inj e
     rw[e] at hw
     have:(r.map PyData.int).all uQ=true:=by
      rw[List.all_eq_true]
      intro d hd
      obtain⟨x,_,rfl⟩:=List.mem_map.mp hd
      rfl
     rw[this] at hw;cases hw),dH (d:=.bool false) (b:=false) (β':=0) (by rw[fQ (g9 (b4 t1) (g9 t2 (b4 (jC ea))))];rfl)];rfl
   |true=>
    rw[hw] at ea
    rw[az (env':=[.fz (.tuple es),.fz (.int n)]) (β':=0) (by rw[gK (g9 (b4 t1) (g9 t2 (b4 (jC ea))))];rfl)]
    obtain⟨r,rfl⟩:=xR hw
    have hz:r.length < 64:=by rw[List.length_map] at c;omega
    have es:oI (.tuple (r.map PyData.int))=some (.list ((sortI r).map PyData.int)):=by
     unfold oI
     dsimp only[jD]
     rw[gx]
     dsimp only
     rw[if_pos hz]
    rw[fY,aE (x:=.list ((sortI r).map PyData.int)) (y:=.list ((cA n).map PyData.int)) (β1:=0) (β2:=0) (bM (x:=.tuple (r.map PyData.int)) rfl es) (bM (x:=.int n) rfl (mX (by omega))) (iD false _ _)]
    rw[if_neg Bool.false_ne_true]
    by_cases p:r.Perm (cA n)
    ·rw[decide_eq_true (ub.mpr p),show HB n (.tuple (r.map PyData.int))=true from Ci p];rfl
    ·rw[decide_eq_false (fun e=>p (ub.mp e)),D4 (n:=n) (d:=.tuple (r.map PyData.int)) (fun q e=>by
      have:=jV (r:=r) (q:=q) e
      subst this
      exact p)];rfl
  ·rw[decide_eq_false c] at t2
   rw[D4 (n:=n) (d:=.tuple es) (fun r e pr=>by
    have e:=PyData.tuple.inj e
    rw[e,List.length_map,pr.length_eq,cw] at c
    exact c rfl),dH (d:=.bool false) (b:=false) (β':=0) (by rw[fQ (g9 (b4 t1) (rj t2))];rfl)];rfl
def JC:List D->FR:=ba 2 2 hJ
theorem IK {n:Nat}{l:List Pr}{r:List Int}(O:OM.Ord n l)(hp:r.Perm (cA n)):JC [aB n l,tupI r]=.ok (.bool (vS l r)) false:=by
 have hz:l.length<=1000:=by
  have:=OM.mi (OM.gu O.ris) (m:=OM.bR n) fun x hx=>OM.bO.mpr (O.wn x hx)
  rw[fI] at this
  have h3:n * n<=8 * 8:=Nat.mul_le_mul O.hi O.hi
  omega
 show fin (hJ [.fz (aB n l),.fz (tupI r)] 0)=_
 unfold hJ
 have ec:aN 2 [1] (.two 0 1) (bF (f2 (gv 0) (cst (.int 1)) cv)) (cc (f2 (jT (gv 2) (gv 0)) (jT (gv 2) (gv 1)) CV)) (cst (.int 1)) (vl [.fz (aB n l),.fz (tupI r)]) 0=.ok (.list ((l.filter fun p=>decide (r.idxOf p.1 > r.idxOf p.2)).map fun _=>PyData.int 1)) 0:=by
  refine eQ (l:=l) (e:=aJ) (fun p=>decide (r.idxOf p.1 > r.idxOf p.2)) (fun _=>PyData.int 1) rfl hz fun p hp'=>⟨[.da (.int p.1),.da (.int p.2),.da (tupI r)],rfl,?_,fun _=>rfl⟩
  refine cQ _ _ _ _ (aE (nM rfl rfl (hp.mem_iff.mpr (a9.mpr (O.wn p hp').1))) (nM rfl rfl (hp.mem_iff.mpr (a9.mpr (O.wn p hp').2))) ?_)
  show some (PyData.bool (decide (((r.idxOf p.1:Nat):Int) > ((r.idxOf p.2:Nat):Int))))=_
  congr 2
  rw[Bool.eq_iff_iff,decide_eq_true_eq,decide_eq_true_eq]
  omega
 generalize hL:(l.filter fun p=>decide (r.idxOf p.1 > r.idxOf p.2))=L at ec
 have e9:(L.map fun _=>PyData.int 1)=(L.map fun _=>(1:Int)).map PyData.int:=by rw[List.map_map];rfl
 rw[fY,aE (x:=.list (L.map fun _=>PyData.int 1)) (y:=.list []) (d:=.bool L.isEmpty) (β1:=0) (β2:=0) ec (lp (ds:=[]) an) (by
  rw[e9,show ([]:List D)=([]:List Int).map PyData.int from rfl,iD]
  congr 2
  cases L <;> simp)]
 have:L.isEmpty=vS l r:=by
  rw[<-hL,Bool.eq_iff_iff,List.isEmpty_iff,List.filter_eq_nil_iff]
  unfold vS
  rw[List.all_eq_true]
  constructor
  ·intro h p hp'
   have h1:=h p hp'
   rw[decide_eq_true_eq] at h1 ⊢
   have hne:r.idxOf p.1≠r.idxOf p.2:=fun e=>by
    have l1:=List.idxOf_lt_length_iff.mpr (hp.mem_iff.mpr (a9.mpr (O.wn p hp').1))
    have l2:=List.idxOf_lt_length_iff.mpr (hp.mem_iff.mpr (a9.mpr (O.wn p hp').2))
    have e1:r[r.idxOf p.1]? =some p.1:=by rw[List.getElem?_eq_getElem l1,List.getElem_idxOf l1]
    have e2:r[r.idxOf p.2]? =some p.2:=by rw[List.getElem?_eq_getElem l2,List.getElem_idxOf l2]
    rw[e] at e1
    have:p.1=p.2:=Option.some.inj (e1.symm.trans e2)
    exact O.irr p.1 (by have h9:(p.1,p.2)∈l:=hp';rw[<-this] at h9;exact h9)
   omega
  ·intro h p hp'
   have h1:=of_decide_eq_true (h p hp')
   rw[decide_eq_true_eq];omega
 rw[this];rfl
end RM

end

section
namespace RM
open PySem L2
def It (d:D):Prop:=b5 d=false/\Sq 400 8 d/\Bf d
def Th (d:D):Prop:=Ge d/\Sq 10000 9 d/\Bf d
def Ap (P:D->Prop)(k:Nat)(es:List D):Prop:=es.length<=k/\∀x,x∈es->P x
abbrev Al:Nat->List D->Prop:=Ap It
theorem yz.it {d:D}(h:yz d):It d:=⟨h.scr,h.sq.mono (by omega) (by omega),h.bf⟩
theorem Gf {i:Int}(h: -1<=i/\i<=9):It (.int i):=(sf h).it
theorem Ap.mono {P:D->Prop}{k j:Nat}{a:List D}(h:Ap P k a)(hj:k<=j):Ap P j a:=⟨Nat.le_trans h.1 hj,h.2⟩
theorem Ap.app {P:D->Prop}{k j:Nat}{a b:List D}(h:Ap P k a)(h':Ap P j b):Ap P (k + j) (a ++ b):=⟨by have:=h.1;have:=h'.1;rw[List.length_append];omega,fun x hx=>(List.mem_append.mp hx).elim (h.2 x) (h'.2 x)⟩
theorem Ap.take {P:D->Prop}{k:Nat}{a:List D}(h:Ap P k a)(n:Nat):Ap P k (a.take n):=⟨by have:=h.1;rw[List.length_take];omega,fun x hx=>h.2 x (List.mem_of_mem_take hx)⟩
theorem Ap.drop {P:D->Prop}{k:Nat}{a:List D}(h:Ap P k a)(n:Nat):Ap P k (a.drop n):=⟨by have:=h.1;rw[List.length_drop];omega,fun x hx=>h.2 x (List.mem_of_mem_drop hx)⟩
theorem Ap.rev {P:D->Prop}{k:Nat}{a:List D}(h:Ap P k a):Ap P k a.reverse:=⟨by rw[List.length_reverse];exact h.1,fun x hx=>h.2 x (List.mem_reverse.mp hx)⟩
theorem ik {P:D->Prop}{d:D}(h:P d):Ap P 1 [d]:=⟨Nat.le_refl _,fun x hx=>by rw[List.mem_singleton] at hx;exact hx▸h⟩
theorem Cc {P:D->Prop}:Ap P 0 []:=⟨Nat.le_refl _,fun x hx=>by cases hx⟩
theorem Dj {k:Nat}{r:List Int}(hl:r.length<=k)(h:∀x,x∈r->0<=x/\x < 9):Al k (r.map PyData.int):=⟨by rw[List.length_map];exact hl,fun x hx=>by
 obtain⟨y,hy,rfl⟩:=List.mem_map.mp hx
 exact Gf (by have:=h y hy;omega)⟩
theorem Ap.tup {k:Nat}{a:List D}(h:Al k a)(hk:k<=24):Th (.tuple a):=by
 have:=h.1
 refine⟨Cf (by omega) fun x hx=>(h.2 x hx).1,(sy (c:=400) (k:=8) fun d hd=>(h.2 d hd).2.1).mono ?_ (by omega),tm fun d hd=>(h.2 d hd).2.2⟩
 have:(400 + 2) * a.length<=402 * 24:=Nat.mul_le_mul (by omega) (by omega)
 omega
theorem Gb {r:List Int}(hl:r.length<=9)(h:∀x,x∈r->0<=x/\x < 9):It (tupI r):=by
 have sm:∀d,d∈r.map PyData.int->yz d:=fun d hd=>by
  obtain⟨y,hy,rfl⟩:=List.mem_map.mp hd
  exact sf (by have:=h y hy;omega)
 refine⟨rfl,(sy (c:=20) (k:=0) fun d hd=>(sm d hd).sq).mono ?_ (by omega),tm fun d hd=>(sm d hd).bf⟩
 rw[List.length_map]
 have:(20 + 2) * r.length<=22 * 9:=Nat.mul_le_mul (by omega) hl
 omega
theorem tV {n:Nat}{r:List Int}(h8:n<=8)(hp:r.Perm (cA n)):r.length=n/\∀x,x∈r->0<=x/\x < 9:=⟨by rw[hp.length_eq,cw],fun x hx=>by have:=a9.mp (hp.mem_iff.mp hx);omega⟩
theorem xl {n:Nat}(h:n<=1000):lU (.int n)=some (tupI (cA n)):=by
 unfold lU tupI
 dsimp only
 rw[if_pos ⟨by omega,by omega⟩,Int.toNat_natCast,qH]
theorem rE {ds:List D}{k:Nat}(h:k < ds.length):∃d,ds[k]? =some d/\d∈ds/\jI ds (k:Int)=some d:=⟨ds[k],List.getElem?_eq_getElem h,List.getElem_mem h,gW (List.getElem?_eq_getElem h)⟩
theorem Ip {fa fb:VF D}{vs:List Nv}{β:Int}{ds:List D}{i:Nat}(ha:fa vs β=.ok (.tuple ds) β)(hb:fb vs β=.ok (.int (i:Nat)) β):pV fa (fun _ β=>.ok none β) (vE fb) vs β=.ok (.tuple (ds.take i)) β:=Ak ha hb
theorem Fc {fa fb:VF D}{vs:List Nv}{β:Int}{ds:List D}{i:Nat}(ha:fa vs β=.ok (.tuple ds) β)(hb:fb vs β=.ok (.int (i:Nat)) β):pV fa (vE fb) (fun _ β=>.ok none β) vs β=.ok (.tuple (ds.drop i)) β:=BX ha hb
theorem HJ {fa fb:VF D}{vs:List Nv}{β β1 β2:Int}{a b:List D}(h1:fa vs β=.ok (.tuple a) β1)(h2:fb vs β1=.ok (.tuple b) β2)(hz:a.length + b.length<=1000):f2 fa fb ly vs β=.ok (.tuple (a ++ b)) β2:=aE h1 h2 (uR hz)
theorem yf {fa fb:VF D}{vs:List Nv}{β β1 β2:Int}{a b:List D}(h1:fa vs β=.ok (.list a) β1)(h2:fb vs β1=.ok (.list b) β2)(hz:a.length + b.length<=1000):f2 fa fb iO vs β=.ok (.list (a ++ b)) β2:=aE h1 h2 (nV (by omega))
theorem Lf {fa:VF D}{vs:List Nv}{β:Int}{i:Nat}(h:fa vs β=.ok (.int (i:Nat)) β):f2 fa (cst (.int 1)) cD vs β=.ok (.int ((i + 1:Nat):Int)) β:=aE h rfl (by show some (PyData.int ((i:Int) + 1))=_;rw[show ((i + 1:Nat):Int)=(i:Int) + 1 by omega])
end RM

end

section
namespace RM
open PySem L2
def ext (n:Nat)(l:List Pr)(r:List Int):List (List Int):=(bD l r n).map fun x=>r ++ [x]
def lvl (n:Nat)(l:List Pr):Nat->List (List Int)
 | 0=>[[]]
 |k + 1=>(lvl n l k).flatMap (ext n l)
theorem Eh {n:Nat}{l:List Pr}{r q:List Int}(h:q∈ext n l r):∃x,x∈bD l r n/\q=r ++ [x]:=let ⟨x,h1,h2⟩:=List.mem_map.mp h;⟨x,h1,h2.symm⟩
theorem kl {n:Nat}{l:List Pr}:∀{k:Nat} {r:List Int},r∈lvl n l k->Ag n l r/\r.length=k
 | 0,r,h=>by
  rw[lvl,List.mem_singleton] at h
  subst h
  exact⟨⟨List.nodup_nil,(fun x hx=>by cases hx),(fun p _ h=>by cases h)⟩,rfl⟩
 |k + 1,r,h=>by
  rw[lvl,List.mem_flatMap] at h
  obtain⟨q,hq,hr⟩:=h
  obtain⟨x,hx,rfl⟩:=Eh hr
  obtain⟨B,hk⟩:=kl hq
  exact⟨B.more (a9.mp (List.mem_filter.mp hx).1) (List.mem_filter.mp hx).2,by rw[List.length_append,hk];rfl⟩
theorem F0 {n:Nat}{l:List Pr}{r:List Int}(B:Ag n l r):(bD l r n).length<=n - r.length:=by
 have nd:(bD l r n ++ r).Nodup:=by
  rw[List.nodup_append]
  refine⟨(iF n).sublist List.filter_sublist,B.nd,fun a ha b hb e=>?_⟩
  subst e
  have:=(List.mem_filter.mp ha).2
  unfold gN at this
  rw[Bool.and_eq_true,Bool.not_eq_true',decide_eq_false_iff_not] at this
  exact this.1 hb
 have:=L2.ST.bp nd (m:=cA n) fun x hx=>(List.mem_append.mp hx).elim (fun h=>(List.mem_filter.mp h).1) fun h=>a9.mpr (B.inn x h)
 rw[List.length_append,cw] at this
 omega
def HY (n:Nat):Nat->Nat
 | 0=>1
 |k + 1=>HY n k * (n - k)
theorem tR {n:Nat}{l:List Pr}{c:Nat}:∀{L:List (List Int)},(∀r,r∈L->(ext n l r).length<=c)->(L.flatMap (ext n l)).length<=L.length * c
 | [],_=>by simp
 |r :: L,h=>by
  rw[List.flatMap_cons,List.length_append,List.length_cons,Nat.succ_mul]
  have h1:=h r (List.mem_cons_self ..)
  have h2:=tR (L:=L) fun q hq=>h q (List.mem_cons_of_mem _ hq)
  omega
theorem DN {n:Nat}{l:List Pr}{k:Nat}{r:List Int}(h:r∈lvl n l k):(ext n l r).length<=n - k:=by
 obtain⟨B,hk⟩:=kl h
 unfold ext
 rw[List.length_map,<-hk]
 exact F0 B
theorem sd {n:Nat}{l:List Pr}:∀k,(lvl n l k).length<=HY n k
 | 0=>Nat.le_refl _
 |k + 1=>by
  rw[lvl,HY]
  exact Nat.le_trans (tR (c:=n - k) fun r hr=>DN hr) (Nat.mul_le_mul_right _ (sd k))
theorem Ic:∀n,n < 7->∀k,k < 8->HY n k<=720:=by decide +kernel
theorem A6 {n:Nat}{l:List Pr}(O:OM.Ord n l):∀k,k<=n->lvl n l k≠ []
 | 0,_=>by rw[lvl];simp
 |k + 1,hk=>by
  have h:=A6 O k (by omega)
  cases e:lvl n l k with
  |nil=>exact absurd e h
  |cons r L=>
   have hr:r∈lvl n l k:=by rw[e];exact List.mem_cons_self ..
   obtain⟨B,hb⟩:=kl hr
   have f:=B.free O (by omega)
   intro z
   rw[lvl,e,List.flatMap_cons,List.append_eq_nil_iff] at z
   exact f (List.map_eq_nil_iff.mp z.1)
theorem DE {n:Nat}{l:List Pr}(O:OM.Ord n l){r:List Int}(h:r∈lvl n l n):Row n l r:=(kl h).1.row O (by rw[(kl h).2];exact Nat.le_refl _)
noncomputable def wb:List D->FR:=ba 7 1 fG
theorem zy {n:Nat}{l:List Pr}{L:List (List Int)}{j:Nat}{r:List Int}(h:L[j]? =some r):(L.take (j + 1)).flatMap (ext n l)=(L.take j).flatMap (ext n l) ++ ext n l r:=by
 rw[List.take_add_one,h]
 simp
theorem zi {n:Nat}{l:List Pr}(L:List (List Int))(j:Nat):((L.take j).flatMap (ext n l)).length<=(L.flatMap (ext n l)).length:=by
 have:L.flatMap (ext n l)=(L.take j).flatMap (ext n l) ++ (L.drop j).flatMap (ext n l):=by rw[<-List.flatMap_append,List.take_append_drop]
 rw[this,List.length_append]
 omega
theorem EJ {n:Nat}{l:List Pr}(O:OM.Ord n l)(h6:n<=6):∃b,wb [aB n l]=.ok (.list ((lvl n l n).map tupI)) b:=by
 show ∃b,fin (fG [.fz (aB n l),.no,.no,.no,.no,.no,.no] 0)=_
 have hl:=lM O
 have bd:∀k,k<=n->(lvl n l k).length<=720:=fun k hk=>Nat.le_trans (sd k) (Ic n (by omega) k (by omega))
 suffices h:WP (fG [.fz (aB n l),.no,.no,.no,.no,.no,.no] 0) fun s=>∃b,fin s=.ok (.list ((lvl n l n).map tupI)) b from h.out
 unfold fG
 refine dh (lp (ds:=[tupI []]) (ac (tp an) an)) ?_
 refine mF (fun k env _=>∃s2 s3 s4 s5 s6,env= [.fz (aB n l),.fz (.list ((lvl n l k).map tupI)),s2,s3,s4,s5,s6]) (cV (n:=n) (CM (n:=n) (l:=l) rfl) (by omega)) ⟨_,_,_,_,_,rfl⟩ ?_ ?_
 ·rintro k d env β hk ⟨s2,s3,s4,s5,s6,rfl⟩
  obtain⟨hkn,rfl⟩:=dI hk
  refine⟨[.fz (aB n l),.fz (.list ((lvl n l k).map tupI)),.fz (.int (0 + k)),s3,s4,s5,s6],rfl,?_⟩
  refine yk (lp (ds:=[]) an) ?_
  generalize Sl.fz (PyData.int (0 + (k:Int)))=u2
  refine mF (ds:=(lvl n l k).map tupI) (fun j env _=>∃s4 s5 s6,env= [.fz (aB n l),.fz (.list ((lvl n l k).map tupI)),u2,.ow (.list ((((lvl n l k).take j).flatMap (ext n l)).map tupI)),s4,s5,s6]) rfl ⟨s4,s5,s6,rfl⟩ ?_ ?_
  ·rintro j d env β hj ⟨s4,s5,s6,rfl⟩
   rw[List.getElem?_map] at hj
   cases hr:(lvl n l k)[j]? with
   |none=>rw[hr] at hj;cases hj
   |some r=>
    rw[hr] at hj
    cases hj
    have hm:=List.mem_of_getElem? hr
    obtain⟨B,hb⟩:=kl hm
    have hA:(((lvl n l k).take j).flatMap (ext n l)).length<=720:=Nat.le_trans (zi _ _) (bd (k + 1) (by omega))
    rw[zy hr]
    generalize ((lvl n l k).take j).flatMap (ext n l)=A at hA
    refine⟨[.fz (aB n l),.fz (.list ((lvl n l k).map tupI)),u2,.ow (.list (A.map tupI)),.fz (tupI r),s5,s6],rfl,?_⟩
    refine k7 (mF (fun t env _=>∃s5 s6,env= [.fz (aB n l),.fz (.list ((lvl n l k).map tupI)),u2,.ow (.list ((A ++ (bD l r t).map fun x=>r ++ [x]).map tupI)),.fz (tupI r),s5,s6]) (cV (n:=n) (CM (n:=n) (l:=l) rfl) (by omega)) ⟨s5,s6,by have e0:A ++ (bD l r 0).map (fun x=>r ++ [x])=A:=List.append_nil A;rw[e0];rfl⟩ ?_ ?_)
    ·rintro t d env β ht ⟨s5,s6,rfl⟩
     obtain⟨htn,rfl⟩:=dI ht
     rw[Int.zero_add]
     have hz:=oy l r t
     have hzA:(A ++ (bD l r t).map fun x=>r ++ [x]).length<=800:=by rw[List.length_append,List.length_map];omega
     have es:A ++ (bD l r (t + 1)).map (fun x=>r ++ [x])=(A ++ (bD l r t).map fun x=>r ++ [x]) ++ if gN l r (t:Int)=true then [r ++ [(t:Int)]] else []:=by
      rw[qG,List.map_append,<-List.append_assoc]
      congr 1
      split <;> rfl
     rw[es]
     generalize (A ++ (bD l r t).map fun x=>r ++ [x])=A' at hzA
     refine⟨[.fz (aB n l),.fz (.list ((lvl n l k).map tupI)),u2,.ow (.list (A'.map tupI)),.fz (tupI r),.fz (.int t),s6],rfl,?_⟩
     refine dh (d:=.list ((nk l r t).map PyData.int)) (β1:=β) ?_ ?_
     ·unfold nk
      rw[List.map_map]
      refine eQ (l:=l) (e:=aJ) (fun p=>decide (p.2=(t:Int)) && !decide (p.1∈r)) (fun p=>PyData.int p.1) rfl (by omega) fun p hp=>⟨_,rfl,?_,fun _=>rfl⟩
      refine pd (fm (neg:=false) (i:=p.2) (j:=t) rfl rfl) ?_
      exact cQ _ _ _ _ (aE (x:=.int p.1) (y:=tupI r) rfl rfl (nY true p.1 r))
     have et:sS (cc (f2 (gv 5) (gv 4) (zw true))) (cc (f2 (gv 6) (aW ag) (c5 false))) (vl [.fz (aB n l),.fz (.list ((lvl n l k).map tupI)),u2,.ow (.list (A'.map tupI)),.fz (tupI r),.fz (.int t),.fz (.list ((nk l r t).map PyData.int))]) β=.ok (gN l r t) β:=
      pd (cQ _ _ _ _ (aE (x:=.int t) (y:=tupI r) rfl rfl (nY true t r))) (cQ _ _ _ _ (aE (x:=.list ((nk l r t).map PyData.int)) (y:=.list (([]:List Int).map PyData.int)) rfl (lp (ds:=[]) an) (iD false _ _)))
     cases c:gN l r (t:Int) with
     |true=>
      rw[c] at et
      have hrl:=B.len
      refine Fl et (k7 (vI (ds:=A'.map tupI) (d:=tupI (r ++ [(t:Int)])) (β1:=β) rfl ?_ rfl (by rw[List.length_map];omega) (jS ⟨_,_,rfl,.fz (.int t),.fz (.list ((nk l r t).map PyData.int)),?_⟩)))
      ·exact Ih (r:=r) (q:=[(t:Int)]) rfl (tp (ds:=[.int t]) (ac rfl an)) (by simp;omega)
      ·rw[if_pos rfl,List.map_append];rfl
     |false=>
      rw[c] at et
      refine Il et (jS ⟨_,_,rfl,.fz (.int t),.fz (.list ((nk l r t).map PyData.int)),?_⟩)
      rw[if_neg (by simp),List.append_nil A'];rfl
    ·rintro env β ⟨s5,s6,rfl⟩
     rw[cH]
     exact jS ⟨_,_,rfl,_,_,_,rfl⟩
  ·rintro env β ⟨s4,s5,s6,rfl⟩
   refine k7 (dh (d:=.list ((lvl n l (k + 1)).map tupI)) (β1:=β) ?_ (jS ⟨_,_,rfl,_,_,_,_,_,rfl⟩))
   rw[List.length_map,List.take_length]
   rfl
 ·rintro env β ⟨s2,s3,s4,s5,s6,rfl⟩
  rw[cH]
  exact⟨⟨_,rfl⟩⟩
end RM

end

section
namespace RM
open PySem L2
def l4 (rows:List (List Int))(p:Pr):Bool:= !decide (p.1=p.2) && (rows.filter fun r=>decide (r.idxOf p.1 > r.idxOf p.2)).isEmpty
def BS:List D->FR:=ba 6 2 fk
theorem Hr {n:Nat}{rows:List (List Int)}(h8:n<=8)(hr:rows.length<=100)(hp:∀r,r∈rows->r.Perm (cA n)):BS [.int n,.list (rows.map tupI)]=.ok (.tuple (((OM.bR n).filter (l4 rows)).map aJ)) false:=by
 show fin (fk [.fz (.int n),.fz (.list (rows.map tupI)),.no,.no,.no,.no] 0)=_
 unfold fk
 rw[az (env':=[.fz (.int n),.fz (.list (rows.map tupI)),.ow (.list []),.no,.no,.no]) (β':=0) ?g1]
 case g1=>rw[o8,fx (ds:=[]) rfl (by simp)];rfl
 obtain⟨env',β',ef,s,t,u,rfl,rfl⟩:=cW (t:=.nm 3) (m:=cm (.nm 4) [] (dz (gv 0))
   (aA (bb 5 ([] ++ []) (aN 1 [3,4] (.nm 0) (bF (gv 1)) (cc (f2 (jT (gv 0) (gv 1)) (jT (gv 0) (gv 2)) CV)) (cst (.int 1))))
   (jH (([] ++ []) ++ ([] ++ [])) (sS (cc (f2 (gv 3) (gv 4) (c5 true))) (cc (f2 (gv 5) (aW ag) (c5 false))))
   (kx 2 ([3] ++ ([4] ++ [])) (bG (aa (gv 3) (aa (gv 4) ag))))
   lq))) (ds:=b7 0 n) (k:=0)
  (fun i env β=>∃s t u:Sl,env= [.fz (.int n),.fz (.list (rows.map tupI)),.ow (.list ((upTo n (l4 rows) i 0).map aJ)),s,t,u]/\β=0)
  (env:=[.fz (.int n),.fz (.list (rows.map tupI)),.ow (.list []),.no,.no,.no]) (β:=0) ⟨.no,.no,.no,by rw[yX];rfl,rfl⟩ (by
   rintro i d env β hi ⟨s,t,u,rfl,rfl⟩
   obtain⟨hin,rfl⟩:=dI hi
   refine⟨[.fz (.int n),.fz (.list (rows.map tupI)),.ow (.list ((upTo n (l4 rows) (0 + i) 0).map aJ)),.fz (.int (0 + (i:Int))),t,u],rfl,?_⟩
   rw[Nat.zero_add,Int.zero_add]
   obtain⟨env',β',ef,t2,u2,rfl,rfl⟩:=cW (t:=.nm 4) (m:=aA (bb 5 ([] ++ []) (aN 1 [3,4] (.nm 0) (bF (gv 1)) (cc (f2 (jT (gv 0) (gv 1)) (jT (gv 0) (gv 2)) CV)) (cst (.int 1))))
     (jH (([] ++ []) ++ ([] ++ [])) (sS (cc (f2 (gv 3) (gv 4) (c5 true))) (cc (f2 (gv 5) (aW ag) (c5 false))))
     (kx 2 ([3] ++ ([4] ++ [])) (bG (aa (gv 3) (aa (gv 4) ag))))
     lq)) (ds:=b7 0 n) (k:=0)
    (fun k env β=>∃t u:Sl,env= [.fz (.int n),.fz (.list (rows.map tupI)),.ow (.list ((upTo n (l4 rows) i k).map aJ)),.fz (.int i),t,u]/\β=0)
    (env:=[.fz (.int n),.fz (.list (rows.map tupI)),.ow (.list ((upTo n (l4 rows) i 0).map aJ)),.fz (.int i),t,u]) (β:=0) ⟨t,u,rfl,rfl⟩ (by
     rintro k d env β hk ⟨t,u,rfl,rfl⟩
     obtain⟨hkn,rfl⟩:=dI hk
     refine⟨[.fz (.int n),.fz (.list (rows.map tupI)),.ow (.list ((upTo n (l4 rows) i (0 + k)).map aJ)),.fz (.int i),.fz (.int (0 + (k:Int))),u],rfl,?_⟩
     rw[Nat.zero_add,Int.zero_add]
     have ec:aN 1 [3,4] (.nm 0) (bF (gv 1)) (cc (f2 (jT (gv 0) (gv 1)) (jT (gv 0) (gv 2)) CV)) (cst (.int 1)) [.da (.int n),.da (.list (rows.map tupI)),.da (.list ((upTo n (l4 rows) i k).map aJ)),.da (.int i),.da (.int k),u.val] 0=.ok (.list ((rows.filter fun r=>decide (r.idxOf (i:Int) > r.idxOf (k:Int))).map fun _=>PyData.int 1)) 0:=by
      refine eQ (l:=rows) (e:=tupI) (fun r=>decide (r.idxOf (i:Int) > r.idxOf (k:Int))) (fun _=>PyData.int 1) rfl (by omega) fun r hr=>⟨_,rfl,?_,fun _=>rfl⟩
      have hp:=hp r hr
      refine cQ _ _ _ _ (aE (nM (r:=r) (k:=i) rfl rfl (hp.mem_iff.mpr (a9.mpr ⟨by omega,by omega⟩))) (nM (r:=r) (k:=k) rfl rfl (hp.mem_iff.mpr (a9.mpr ⟨by omega,by omega⟩))) ?_)
      show some (PyData.bool (decide (((r.idxOf (i:Int):Nat):Int) > ((r.idxOf (k:Int):Nat):Int))))=_
      congr 2
      rw[Bool.eq_iff_iff,decide_eq_true_eq,decide_eq_true_eq]
      omega
     rw[az (env':=[.fz (.int n),.fz (.list (rows.map tupI)),.ow (.list ((upTo n (l4 rows) i k).map aJ)),.fz (.int i),.fz (.int k),.fz (.list ((rows.filter fun r=>decide (r.idxOf (i:Int) > r.idxOf (k:Int))).map fun _=>PyData.int 1))]) (β':=0) ?g]
     case g=>
      rw[gR]
      show toS (aN 1 [3,4] (.nm 0) (bF (gv 1)) (cc (f2 (jT (gv 0) (gv 1)) (jT (gv 0) (gv 2)) CV)) (cst (.int 1)) [.da (.int n),.da (.list (rows.map tupI)),.da (.list ((upTo n (l4 rows) i k).map aJ)),.da (.int i),.da (.int k),u.val] 0) _=_
      rw[ec];rfl
     generalize hL:(rows.filter fun r=>decide (r.idxOf (i:Int) > r.idxOf (k:Int)))=L
     have et:sS (cc (f2 (gv 3) (gv 4) (c5 true))) (cc (f2 (gv 5) (aW ag) (c5 false))) (vl [.fz (.int n),.fz (.list (rows.map tupI)),.ow (.list ((upTo n (l4 rows) i k).map aJ)),.fz (.int i),.fz (.int k),.fz (.list (L.map fun _=>PyData.int 1))]) 0=.ok (l4 rows ((i:Int),(k:Int))) 0:=by
      have h1:cc (f2 (gv 5) (aW ag) (c5 false)) (vl [.fz (.int n),.fz (.list (rows.map tupI)),.ow (.list ((upTo n (l4 rows) i k).map aJ)),.fz (.int i),.fz (.int k),.fz (.list (L.map fun _=>PyData.int 1))]) 0=.ok L.isEmpty 0:=by
       refine cQ _ _ _ _ (aE (x:=.list (L.map fun _=>PyData.int 1)) (y:=.list []) rfl (fx (ds:=[]) rfl (by simp)) ?_)
       have e9:(L.map fun _=>PyData.int 1)=(L.map fun _=>(1:Int)).map PyData.int:=by rw[List.map_map];rfl
       rw[e9,show ([]:List D)=([]:List Int).map PyData.int from rfl,iD]
       congr 2
       cases L <;> simp
      have:=pd (fm (neg:=true) (fa:=gv 3) (fb:=gv 4) (vs:=vl [.fz (.int n),.fz (.list (rows.map tupI)),.ow (.list ((upTo n (l4 rows) i k).map aJ)),.fz (.int i),.fz (.int k),.fz (.list (L.map fun _=>PyData.int 1))]) (β:=0) (i:=i) (j:=k) rfl rfl) h1
      rw[this]
      unfold l4
      rw[hL];rfl
     cases c:l4 rows ((i:Int),(k:Int)) with
     |true=>
      rw[c] at et
      refine⟨[.fz (.int n),.fz (.list (rows.map tupI)),.ow (.list ((upTo n (l4 rows) i (k + 1)).map aJ)),.fz (.int i),.fz (.int k),.fz (.list (L.map fun _=>PyData.int 1))],0,?_,_,_,rfl,rfl⟩
      rw[fQ et]
      have:=nJ (i:=2) (L:=[3] ++ ([4] ++ [])) (env:=[.fz (.int n),.fz (.list (rows.map tupI)),.ow (.list ((upTo n (l4 rows) i k).map aJ)),.fz (.int i),.fz (.int k),.fz (.list (L.map fun _=>PyData.int 1))]) (ds:=(upTo n (l4 rows) i k).map aJ) (β:=0) (by rfl) (pA (fa:=gv 3) (fb:=gv 4) (a:=i) (b:=k) rfl rfl) (by rfl) (by rw[List.length_map];have:=AW (l4 rows) i k h8;omega)
      rw[qI _ hin hkn,if_pos c,List.map_append]
      exact this
     |false=>
      rw[c] at et
      refine⟨[.fz (.int n),.fz (.list (rows.map tupI)),.ow (.list ((upTo n (l4 rows) i (k + 1)).map aJ)),.fz (.int i),.fz (.int k),.fz (.list (L.map fun _=>PyData.int 1))],0,?_,_,_,rfl,rfl⟩
      have e8:=qI (l4 rows) hin hkn
      rw[if_neg (by rw[c];exact Bool.false_ne_true),List.append_nil] at e8
      rw[gK et,e8];rfl)
   rw[cH,Nat.zero_add,Cn] at ef
   refine⟨[.fz (.int n),.fz (.list (rows.map tupI)),.ow (.list ((upTo n (l4 rows) (i + 1) 0).map aJ)),.fz (.int i),t2,u2],0,?_,_,_,_,rfl,rfl⟩
   rw[dO (env:=[.fz (.int n),.fz (.list (rows.map tupI)),.ow (.list ((upTo n (l4 rows) i 0).map aJ)),.fz (.int i),t,u]) (cV (n:=n) rfl (by omega))]
   exact ef)
 rw[cH,Nat.zero_add,Ct] at ef
 rw[az (env':=[.fz (.int n),.fz (.list (rows.map tupI)),.ow (.list (((OM.bR n).filter (l4 rows)).map aJ)),s,t,u]) (β':=0) ?g2]
 case g2=>
  rw[dO (env:=[.fz (.int n),.fz (.list (rows.map tupI)),.ow (.list []),.no,.no,.no]) (cV (n:=n) rfl (by omega))]
  exact ef
 rw[fY,bM (x:=.list (((OM.bR n).filter (l4 rows)).map aJ)) (d:=.tuple (((OM.bR n).filter (l4 rows)).map aJ)) (β1:=0) rfl ?g3]
 case g3=>rfl
 rfl
theorem C5 {rows:List (List Int)}{p:Pr}:l4 rows p=true↔p.1≠p.2/\∀r,r∈rows->r.idxOf p.1<=r.idxOf p.2:=by
 unfold l4
 rw[Bool.and_eq_true,Bool.not_eq_true',decide_eq_false_iff_not,List.isEmpty_iff,List.filter_eq_nil_iff]
 simp only[decide_eq_true_eq,Nat.not_lt,gt_iff_lt]
end RM

end

section
namespace RM
open PySem L2
section
variable {m m' m1 m2:SF}{env env1:En}{β β1 β2 z:Int}{Q:SO->Prop}{f fa fb:VF D}{t:VF Bool}{d e:D}{L La Lb:List Nat}{i j:Nat}{c:Bool}
theorem EA (h:WP (m env β) fun r=>(∀a b,r≠.nx a b)/\Q r):WP (aA m m' env β) Q:=by
 obtain⟨h1,h2⟩:=h.out
 refine⟨?_⟩
 unfold aA
 cases e:m env β with
 |nx a b=>exact absurd e (h1 a b)
 |_=>rw[e] at h2;exact h2
theorem FZ (J:En->Int->Prop)(h:∃c β1,t (vl env) β=.ok c β1/\(c=true->WP (m1 (a7 L env) β1) fun s=>∃env2 β2,s=.nx env2 β2/\J env2 β2)/\(c=false->WP (m2 (a7 L env) β1) fun s=>∃env2 β2,s=.nx env2 β2/\J env2 β2))(k:∀env β,J env β->WP (m' env β) Q):WP (aA (jH L t m1 m2) m' env β) Q:=by
 obtain⟨c,β1,e,h1,h2⟩:=h
 cases c with
 |true=>obtain⟨env2,β2,e2,hj⟩:=(h1 rfl).out;exact wp_seq ((fQ e).trans e2) (k _ _ hj)
 |false=>obtain⟨env2,β2,e2,hj⟩:=(h2 rfl).out;exact wp_seq ((gK e).trans e2) (k _ _ hj)
theorem C6 {t:Tg}{fi:VF (List D)}{ds:List D}(g:D->Bool)(r:D)(I:En->Int->Prop)(hi:fi (vl env) β=.ok ds β1)(h0:I (a7 L env) β1)
  (hs:∀d,d∈ds->∀env β,I env β->∃env1,fS t d env=some env1/\WP (m env1 β) fun s=>(g d=true/\∃β2,s=.rt r false β2)\/(g d=false/\∃env2 β2,s=.nx env2 β2/\I env2 β2))
  (kr:∀d β,d∈ds->g d=true->Q (.rt r false β)) (k:(∀d,d∈ds->g d=false)->∀env β,I env β->WP (m' env β) Q):WP (aA (cm t L fi m) m' env β) Q:=by
 have key:∀(es:List D),(∀d,d∈es->d∈ds)->∀env β,I env β->(∃d β2,d∈es/\g d=true/\lg t m es env β=.rt r false β2)\/((∀d,d∈es->g d=false)/\∃env2 β2,lg t m es env β=.nx env2 β2/\I env2 β2):=by
  intro es
  induction es with
  |nil=>exact fun _ env β h=>.inr ⟨(fun d hd=>by cases hd),env,β,rfl,h⟩
  |cons d es ih=>
   intro hd env β h
   obtain⟨env1,e1,⟨h1⟩⟩:=hs d (hd d (List.mem_cons_self ..)) env β h
   rcases h1 with⟨hg,β2,e2⟩ | ⟨hg,env2,β2,e2,h2⟩
   ·exact .inl ⟨d,β2,List.mem_cons_self ..,hg,by unfold lg;rw[e1];dsimp only;rw[e2]⟩
   ·have e3:lg t m (d :: es) env β=lg t m es env2 β2:=by conv=>lhs;unfold lg;rw[e1];dsimp only;rw[e2]
    rw[e3]
    rcases ih (fun d h=>hd d (List.mem_cons_of_mem _ h)) env2 β2 h2 with⟨d',β3,hm,hg',e4⟩ | ⟨hn,env3,β3,e4,h3⟩
    ·exact .inl ⟨d',β3,List.mem_cons_of_mem _ hm,hg',e4⟩
    ·exact .inr ⟨fun d' hd'=>(List.mem_cons.mp hd').elim (fun e=>e▸hg) (hn d'),env3,β3,e4,h3⟩
 rcases key ds (fun _ h=>h) _ _ h0 with⟨d,β2,hm,hg,e⟩ | ⟨hn,env2,β2,e,h2⟩
 ·exact⟨by rw[dH ((dO hi).trans e)];exact kr d β2 hm hg⟩
 ·exact wp_seq ((dO hi).trans e) (k hn _ _ h2)
end
theorem zE {α:Type}{own:Nat}{ixs:List Nat}{t:Tg}{fi:VF (List D)}{fe:VF D}{vs:List Nv}{β β1:Int}{ds:List D}(e:α->D)(P:α->Prop)(hi:fi vs β=.ok ds β1)(hz:ds.length<=1000)
  (h:∀d,d∈ds->∃vs1,kH t d (dW own ixs vs)=some vs1/\∀β,∃a β',fe vs1 β=.ok (e a) β'/\P a):∃(as:List α) (β':Int),aN own ixs t fi lN fe vs β=.ok (.list (as.map e)) β'/\as.length=ds.length/\∀a,a∈as->P a:=by
 obtain⟨as,β',ec,hl,hP⟩:=oN (t:=t) (fe:=fe) (vs:=dW own ixs vs) e P (ds:=ds) (β:=β1) h
 refine⟨as,β',?_,hl,hP⟩
 unfold aN
 rw[hi]
 dsimp only[R.bnd]
 rw[if_pos (sz _ hz),ec];rfl
def Ig (d:D):Prop:=Ge d/\Sq 400 8 d/\Bf d
def Tl (d:D):Prop:=Gt d/\Sq 30000 9 d/\Bf d
theorem Tl.rp {d:D}(h:Tl d):oM d=some (.str d.shown):=if_pos (Jq h.2.1 (by omega) (by omega) h.2.2)
theorem GP {o:D}(h:o∈iq):Ig o:=⟨(oS h).1,(oS h).2.1.mono (by omega) (by omega),(oS h).2.2⟩
theorem r6 {r:List Int}(hl:r.length<=9)(h:∀x,x∈r->0<=x/\x < 9):Ig (tupI r):=⟨(Dj (k:=9) hl h).tup (by omega) |>.1,(Gb hl h).2⟩
theorem Ap.tl {k:Nat}{a:List D}(h:Ap Ig k a)(hk:k<=60):Tl (.list a):=by
 have:=h.1
 refine⟨⟨rfl,fun es e=>by cases e;exact⟨by omega,fun x hx=>(h.2 x hx).1⟩⟩,(B5 (c:=400) (k:=8) fun d hd=>(h.2 d hd).2.1).mono ?_ (by omega),Av fun d hd=>(h.2 d hd).2.2⟩
 have:(400 + 2) * a.length<=402 * 60:=Nat.mul_le_mul (by omega) (by omega)
 omega
theorem Ap.tlT {k:Nat}{a:List D}(h:Ap Ig k a)(hk:k<=60):Tl (.tuple a):=by
 have:=h.1
 refine⟨⟨rfl,fun es e=>by cases e⟩,(sy (c:=400) (k:=8) fun d hd=>(h.2 d hd).2.1).mono ?_ (by omega),tm fun d hd=>(h.2 d hd).2.2⟩
 have:(400 + 2) * a.length<=402 * 60:=Nat.mul_le_mul (by omega) (by omega)
 omega
theorem Ap.igT {k:Nat}{a:List D}(h:Ap yz k a)(hk:k<=18):Ig (.tuple a):=by
 have:=h.1
 refine⟨Cf (by omega) fun x hx=>(h.2 x hx).scr,(sy (c:=20) (k:=0) fun d hd=>(h.2 d hd).sq).mono ?_ (by omega),tm fun d hd=>(h.2 d hd).bf⟩
 have:(20 + 2) * a.length<=22 * 18:=Nat.mul_le_mul (by omega) (by omega)
 omega
theorem Ap.igL {k:Nat}{a:List D}(h:Ap yz k a)(hk:k<=18):Ig (.list a):=by
 have:=h.1
 refine⟨⟨rfl,fun es' e=>by cases e⟩,(B5 (c:=20) (k:=0) fun d hd=>(h.2 d hd).sq).mono ?_ (by omega),Av fun d hd=>(h.2 d hd).bf⟩
 have:(20 + 2) * a.length<=22 * 18:=Nat.mul_le_mul (by omega) (by omega)
 omega
theorem yb {k:Nat}{r:List Int}(hl:r.length<=k)(h:∀x,x∈r->0<=x/\x < 9):Ap yz k (r.map PyData.int):=⟨by rw[List.length_map];exact hl,fun x hx=>by
 obtain⟨y,hy,rfl⟩:=List.mem_map.mp hx
 exact sf (by have:=h y hy;omega)⟩
theorem FF:∀o,o∈iq->Gt o:=by
 intro o ho
 have key:∀o∈iq,b5 o=false/\(match o with | .list ds=>decide (ds.length<=100) && ds.all JQ && ds.all (fun x=> !b5 x) |_=>true)=true:=by decide +kernel
 obtain⟨h1,h2⟩:=key o ho
 refine⟨h1,fun ds e=>?_⟩
 subst e
 dsimp only at h2
 rw[Bool.and_eq_true,Bool.and_eq_true,List.all_eq_true,List.all_eq_true] at h2
 refine⟨of_decide_eq_true h2.1.1,fun x hx=>⟨by simpa using h2.2 x hx,fun es e=>?_⟩⟩
 have:=h2.1.2 x hx
 subst e
 unfold JQ at this
 rw[Bool.and_eq_true,List.all_eq_true] at this
 exact⟨of_decide_eq_true this.1,fun y hy=>by simpa using this.2 y hy⟩
theorem Gw {o:D}(h:o∈iq):Tl o:=⟨FF o h,(oS h).2.1.mono (by omega) (by omega),(oS h).2.2⟩
end RM

end

section
namespace RM
open PySem L2
def Tells (n:Nat)(l:List Pr)(d:D):Prop:=∃rs:List (List Int),d=.list (rs.map tupI)/\rs≠ []/\(∀r,r∈rs->Row n l r)/\(OM.bR n).filter (Em rs)=l
noncomputable def pJ (n:Nat)(l:List Pr)(d:D):Bool:=@decide (Tells n l d) (Classical.propDecidable _)
theorem Hs {n:Nat}{l:List Pr}{d:D}(h:Tells n l d):pJ n l d=true:=@decide_eq_true _ (Classical.propDecidable _) h
theorem pE {n:Nat}{l:List Pr}{d:D}(h:¬Tells n l d):pJ n l d=false:=@decide_eq_false _ (Classical.propDecidable _) h
theorem tS:∀{rs qs:List (List Int)},rs.map tupI=qs.map tupI->rs=qs
 | [],[],_=>rfl
 | [],_ :: _,h=>by cases h
 |_ :: _,[],h=>by cases h
 |r :: rs,q :: qs,h=>by
  rw[List.map_cons,List.map_cons,List.cons.injEq] at h
  rw[jV h.1,tS h.2]
theorem qV {n:Nat}{l:List Pr}{rs:List (List Int)}(h1:rs≠ [])(h:∀r,r∈rs->Row n l r):pJ n l (.list (rs.map tupI))=decide ((OM.bR n).filter (Em rs)=l):=by
 by_cases c:(OM.bR n).filter (Em rs)=l
 ·rw[decide_eq_true c];exact Hs ⟨rs,rfl,h1,h,c⟩
 ·rw[decide_eq_false c]
  refine pE fun⟨qs,e,_,_,c'⟩=>c ?_
  have:=tS (PyData.list.inj e)
  rw[this];exact c'
noncomputable def BB:List D->FR:=ba 2 2 (wK n5 Kr Kn)
theorem GU {n:Nat}{l:List Pr}{d:D}(O:OM.Ord n l)(h:Gt d):BB [d,aB n l]=.ok (.bool (pJ n l d)) false:=by
 show fin (wK n5 Kr Kn [.fz d,.fz (aB n l)] 0)=_
 refine vT (C1 (aM (ds:=[aB n l]) rfl (AD O)) ?_)
 have ea:=J8 O h
 cases c:tP n l d with
 |false=>
  rw[c] at ea
  rw[pE fun⟨rs,e,h1,h2,_⟩=>by rw[e,rb h1 h2] at c;cases c]
  exact la (EO (aM (ds:=[d,aB n l]) rfl ea)) rfl
 |true=>
  rw[c] at ea
  obtain⟨rs,rfl,h1,h2⟩:=GV c
  rw[qV h1 h2]
  have hz:rs.length<=100:=by have:=(h.2 _ rfl).1;rw[List.length_map] at this;exact this
  exact la (E3 (aM (ds:=[.list (rs.map tupI),aB n l]) rfl ea) (aE (aM (ds:=[.int n,.list (rs.map tupI)]) (ac (CM (n:=n) (l:=l) rfl) (ac rfl an)) (ID O.lo O.hi hz fun r hr=>(h2 r hr).1)) (KR (n:=n) (l:=l) rfl) (oD false _ _))) rfl
theorem IV {n:Nat}{rs:List (List Int)}(h1:rs≠ [])(hp:∀r,r∈rs->r.Perm (cA n)):(OM.bR n).filter (l4 rs)=(OM.bR n).filter (Em rs):=by
 refine List.filter_congr fun p hm=>?_
 have hg:=OM.bO.mp hm
 rw[Bool.eq_iff_iff,C5]
 unfold Em
 rw[List.all_eq_true]
 constructor
 ·rintro⟨ne,h⟩ r hr
  rw[decide_eq_true_eq]
  refine Nat.lt_of_le_of_ne (h r hr) fun e=>ne ?_
  exact Eu ((hp r hr).mem_iff.mpr (a9.mpr hg.1)) ((hp r hr).mem_iff.mpr (a9.mpr hg.2)) e
 ·intro h
  refine⟨fun e=>?_,fun r hr=>Nat.le_of_lt (of_decide_eq_true (h r hr))⟩
  cases rs with
  |nil=>exact h1 rfl
  |cons r rs=>
   have:=of_decide_eq_true (h r (List.mem_cons_self ..))
   rw[e] at this
   omega
noncomputable def xA:List D->FR:=ba 3 2 (gZ JJ JC BS)
theorem DP {n:Nat}{l:List Pr}{d:D}(O:OM.Ord n l)(h:Gt d):xA [d,aB n l]=.ok (.bool (pJ n l d)) false:=by
 show fin (gZ JJ JC BS [.fz d,.fz (aB n l),.no] 0)=_
 have h8:=O.hi
 refine vT ?_
 unfold gZ
 have t1:=jC (Fb (fa:=gv 0) (vs:=vl [.fz d,.fz (aB n l),.no]) (β:=0) rfl h.1)
 cases hy:DY d with
 |false=>
  rw[hy] at t1
  rw[pE fun⟨rs,e,_⟩=>by rw[e] at hy;cases hy]
  exact rW (rj (b4 t1)) (yw (d:=.bool false) rfl rfl)
 |true=>
  rw[hy] at t1
  obtain⟨ds,rfl⟩:=yC hy
  have t2:cc (f2 (gv 0) (aW ag) vY) (vl [.fz (.list ds),.fz (aB n l),.no]) 0=.ok ds.isEmpty 0:=cQ _ _ _ _ (aE (x:=.list ds) (y:=.list []) rfl (lp (ds:=[]) an) rfl)
  cases ds with
  |nil=>
   rw[pE fun⟨rs,e,h1,_⟩=>by cases rs with
    |nil=>exact h1 rfl
    |cons a b=>cases e]
   exact rW (g9 (b4 t1) t2) (yw (d:=.bool false) rfl rfl)
  |cons d0 ds0=>
   obtain⟨hz,hge⟩:=h.2 _ rfl
   refine sv (g9 (b4 t1) t2) ?_
   have hne:d0 :: ds0≠ []:=by simp
   generalize d0 :: ds0=ds at hz hge hne
   refine C6 (ds:=ds) (fun e=> !nD n l e) (.bool false) (fun env _=>∃s,env= [.fz (.list ds),.fz (aB n l),s]) rfl ⟨_,rfl⟩ ?_ ?_ ?_
   ·rintro e he env β ⟨s,rfl⟩
    refine⟨[.fz (.list ds),.fz (aB n l),.fz e],rfl,?_⟩
    have t3:=b4 (jC (aM (F:=JJ) (fr:=aa (gv 2) (aa (f2 (gv 1) (cst (.int 0)) cv) ag)) (vs:=vl [.fz (.list ds),.fz (aB n l),.fz e]) (β:=β) (ds:=[e,.int n]) (ac rfl (ac (CM (n:=n) (l:=l) rfl) an)) (HG h8 (hge e he))))
    cases c:HB n e with
    |false=>
     rw[c] at t3
     have hr:nD n l e=false:=yH fun r er hR=>by rw[er,Ci hR.1] at c;cases c
     exact Fl (rj t3) (la (d:=.bool false) rfl (.inl ⟨by rw[hr];rfl,_,rfl⟩))
    |true=>
     rw[c] at t3
     obtain⟨r,rfl,hp⟩:=JX c
     have t4:=b4 (jC (aM (F:=JC) (fr:=aa (gv 1) (aa (gv 2) ag)) (vs:=vl [.fz (.list ds),.fz (aB n l),.fz (tupI r)]) (β:=β) (ds:=[aB n l,tupI r]) rfl (IK O hp)))
     cases c2:vS l r with
     |true=>
      rw[c2] at t4
      exact Il (g9 t3 t4) (jS (.inr ⟨by rw[nR ⟨hp,c2⟩];rfl,_,_,rfl,_,rfl⟩))
     |false=>
      rw[c2] at t4
      have hr:nD n l (tupI r)=false:=yH fun q er hR=>by rw[<-jV er] at hR;rw[hR.2] at c2;cases c2
      exact Fl (g9 t3 t4) (la (d:=.bool false) rfl (.inl ⟨by rw[hr];rfl,_,rfl⟩))
   ·intro e β he hg
    rw[pE fun⟨rs,er,h1,h2,_⟩=>by
     have er:=PyData.list.inj er
     rw[er] at he
     obtain⟨r,hr,rfl⟩:=List.mem_map.mp he
     rw[nR (h2 r hr)] at hg;cases hg]
    rfl
   ·rintro hall env β ⟨s,rfl⟩
    obtain⟨rs,rfl,h2⟩:=all_rows (n:=n) (l:=l) (ds:=ds) (by rw[List.all_eq_true];exact fun e he=>by have:=hall e he;simpa using this)
    have h1:rs≠ []:=fun e=>hne (by rw[e];rfl)
    rw[qV h1 h2,<-IV h1 fun r hr=>(h2 r hr).1]
    rw[List.length_map] at hz
    exact la (aE (aM (ds:=[.int n,.list (rs.map tupI)]) (ac (CM (n:=n) (l:=l) rfl) (ac rfl an)) (Hr h8 hz fun r hr=>(h2 r hr).1)) (KR (n:=n) (l:=l) rfl) (oD false _ _)) rfl
end RM

end

section
namespace RM
open PySem L2
noncomputable def AS:List D->Int->FB:=me 8 3 (gS bI)
theorem Hf {n:Nat}{l:List Pr}{rs:List (List Int)}{o:D}(h8:n<=8)(hz:rs.length<=24)(h1:rs≠ [])(hR:∀r,r∈rs->Row n l r)(ho:o∈iq)(β:Int):∃d b β',AS [.list (rs.map tupI),.int n,o] β=.ok d b β'/\Tl d:=by
 have hp:1<=rs.length:=List.length_pos_iff.mpr h1
 obtain⟨a,ha,ea⟩:=dU (m:=rs.length) hp (by omega) β
 generalize β / (rs.length:Int)=β1 at ea
 obtain⟨c,hc,ec⟩:=dU (m:=10) (by omega) (by omega) β1
 generalize β1 / ((10:Nat):Int)=β2 at ec
 obtain⟨r,hr,hra⟩:∃r,r∈rs/\jI (rs.map tupI) (a:Int)=some (tupI r):=⟨rs[a],List.getElem_mem ha,by rw[fX,gW (List.getElem?_eq_getElem ha)];rfl⟩
 obtain⟨hl,hrb⟩:=tV h8 (hR r hr).1
 have ar:=yb (k:=8) (r:=r) (by omega) hrb
 have ig:=fun k q (h:Ap yz k q) (hk:k<=18)=>h.igT hk
 have AR:Ap Ig 24 (rs.map tupI):=⟨by rw[List.length_map];exact hz,fun x hx=>by
  obtain⟨q,hq,rfl⟩:=List.mem_map.mp hx
  obtain⟨hl,hrb⟩:=tV h8 (hR q hq).1
  exact r6 (by omega) hrb⟩
 have hRl:(rs.map tupI).length=rs.length:=List.length_map _
 generalize hRR:rs.map tupI=R at AR hra hRl
 have er:tupI r=.tuple (r.map PyData.int):=rfl
 rw[er] at hra
 have hdl:(r.map PyData.int).length=n:=by rw[List.length_map,hl]
 generalize r.map PyData.int=d at ar hra hdl
 suffices h:WP (gS bI [.bx,.fz (.list R),.fz (.int n),.fz o,.no,.no,.no,.no] β) fun s=>∃d b β',vV s=.ok d b β'/\Tl d from h.out
 unfold gS
 refine dh (di (ds:=[.int rs.length]) rfl (ac (bM (x:=.list R) rfl (by show some (PyData.int R.length)=_;rw[hRl])) an) ea) (dh (aE (x:=.list R) (y:=.int a) rfl rfl hra) ?_)
 refine dh (lp (ds:=[.list [],.list [.tuple d,.tuple d],.list [.list d],.list [o],.list [.tuple d.reverse]]) (ac (lp an) (ac (lp (ac rfl (ac rfl an))) (ac (lp (ac (bM (x:=.tuple d) rfl rfl) an)) (ac (lp (ac rfl an)) (ac (lp (ac (bM (x:=.tuple d) rfl rfl) an)) an)))))) ?_
 have ld:∀k,(d.drop k).length<=8:=fun k=>(ar.drop k).1
 have lt:∀k,(d.take k).length<=8:=fun k=>(ar.take k).1
 refine dh (yf (a:=[.list [],.list [.tuple d,.tuple d],.list [.list d],.list [o],.list [.tuple d.reverse]]) rfl (lp (ds:=[.list [.tuple (d.drop 1 ++ d.take 1)],.list [.tuple (d.drop 1)],.list [tupI (cA n)]]) (ac (lp (ac (HJ (Fc (i:=1) rfl rfl) (Ip (i:=1) rfl rfl) (by have:=lt 1;have:=ld 1;omega)) an)) (ac (lp (ac (Fc (i:=1) rfl rfl) an)) (ac (lp (ac (bM (x:=.int n) rfl (xl (by omega))) an)) an)))) (by simp)) ?_
 have news:∀x,x∈ [PyData.list [],.list [.tuple d,.tuple d],.list [.list d],.list [o],.list [.tuple d.reverse]] ++ [.list [.tuple (d.drop 1 ++ d.take 1)],.list [.tuple (d.drop 1)],.list [tupI (cA n)]]->∃es,x=.list es/\Ap Ig 2 es:=by
  intro x hx
  simp only[List.cons_append,List.nil_append,List.mem_cons,List.not_mem_nil,or_false] at hx
  rcases hx with rfl |rfl |rfl |rfl |rfl |rfl |rfl |rfl
  ·exact⟨_,rfl,Cc.mono (by omega)⟩
  ·exact⟨_,rfl,(ik (ar.igT (by omega))).app (ik (ar.igT (by omega)))⟩
  ·exact⟨_,rfl,(ik (ar.igL (by omega))).mono (by omega)⟩
  ·exact⟨_,rfl,(ik (GP ho)).mono (by omega)⟩
  ·exact⟨_,rfl,(ik (ar.rev.igT (by omega))).mono (by omega)⟩
  ·exact⟨_,rfl,(ik (((ar.drop 1).app (ar.take 1)).igT (by omega))).mono (by omega)⟩
  ·exact⟨_,rfl,(ik ((ar.drop 1).igT (by omega))).mono (by omega)⟩
  ·obtain⟨hl3,hr3⟩:=tV h8 (List.Perm.refl (cA n))
   exact⟨_,rfl,(ik (r6 (by omega) hr3)).mono (by omega)⟩
 refine dh (di (ds:=[.int 10]) rfl rfl ec) ?_
 refine wp_at [.bx,.fz (.list R),.fz (.int n),.fz o,.fz (.int a),.fz (.tuple d),.fz (.list ([PyData.list [],.list [.tuple d,.tuple d],.list [.list d],.list [o],.list [.tuple d.reverse]] ++ [.list [.tuple (d.drop 1 ++ d.take 1)],.list [.tuple (d.drop 1)],.list [tupI (cA n)]])),.fz (.int c)] rfl ?_
 have hN:([PyData.list [],.list [.tuple d,.tuple d],.list [.list d],.list [o],.list [.tuple d.reverse]] ++ [PyData.list [.tuple (d.drop 1 ++ d.take 1)],.list [.tuple (d.drop 1)],.list [tupI (cA n)]]).length=8:=rfl
 generalize ([PyData.list [],.list [.tuple d,.tuple d],.list [.list d],.list [o],.list [.tuple d.reverse]] ++ [PyData.list [.tuple (d.drop 1 ++ d.take 1)],.list [.tuple (d.drop 1)],.list [tupI (cA n)]])=N at news hN
 have t1:cc (f2 (gv 7) (cst (.int 8)) rX) (vl [.bx,.fz (.list R),.fz (.int n),.fz o,.fz (.int a),.fz (.tuple d),.fz (.list N),.fz (.int c)]) β2=.ok (decide ((c:Int) < 8)) β2:=wF rfl rfl
 by_cases h8':(c:Int) < 8
 ·rw[decide_eq_true h8'] at t1
  obtain⟨x,_,hx2,hx3⟩:=rE (ds:=N) (k:=c) (by omega)
  obtain⟨es,rfl,he⟩:=news x hx2
  have a1:=AR.take a
  have a2:=AR.drop (a + 1)
  have:=a1.1
  have:=a2.1
  have:=he.1
  refine rW t1 (EA (DR (yf (yf (Bh (i:=a) rfl rfl) (aE (x:=.list N) (y:=.int c) rfl rfl hx3) (by omega)) (Df (i:=a + 1) rfl (Lf rfl)) (by rw[List.length_append];omega)) ⟨(fun _ _ e=>by cases e),_,_,_,rfl,((a1.app he).app a2).tl (by omega)⟩))
 ·rw[decide_eq_false h8'] at t1
  refine sv t1 ?_
  have e2:f2 (gv 7) (cst (.int 8)) Bq (vl (a7 ([] ++ []) [.bx,.fz (.list R),.fz (.int n),.fz o,.fz (.int a),.fz (.tuple d),.fz (.list N),.fz (.int c)])) β2=.ok (.int ((c - 8:Nat):Int)) β2:=aE (x:=.int c) (y:=.int 8) rfl rfl (by show some (PyData.int ((c:Int) - 8))=_;rw[show ((c - 8:Nat):Int)=(c:Int) - 8 by omega])
  obtain⟨x,_,hx2,hx3⟩:=rE (ds:=[.tuple R,.list R.reverse]) (k:=c - 8) (by simp only[List.length_cons,List.length_nil];omega)
  refine la (aE (x:=.list [.tuple R,.list R.reverse]) (lp (ac (bM (x:=.list R) rfl rfl) (ac (bM (x:=.list R) rfl rfl) an))) e2 hx3) ⟨_,_,_,rfl,?_⟩
  simp only[List.mem_cons,List.not_mem_nil,or_false] at hx2
  rcases hx2 with rfl |rfl
  ·exact AR.tlT (by omega)
  ·exact AR.rev.tl (by omega)
noncomputable def GZ:List D->FR:=ba 12 1 (xX FH wb xA Hh BB rJ bI yg Gq AS)
end RM

end

section
namespace RM
open PySem L2
theorem IZ {t u:VF Bool}{vs:List Nv}{β β1 β2:Int}{c:Bool}(h:t vs β=.ok true β1)(h':u vs β1=.ok c β2):sS t u vs β=.ok c β2:=by rw[wJ,h];exact h'
theorem Jv {t u:VF Bool}{vs:List Nv}{β β1:Int}(h:t vs β=.ok false β1):sS t u vs β=.ok false β1:=by rw[wJ,h];rfl
theorem IQ (ns:List Int):GZ [b6 ns]=.ok (.bool true) false:=by
 show fin (xX FH wb xA Hh BB rJ bI yg Gq AS [.fz (b6 ns),.no,.no,.no,.no,.no,.no,.no,.no,.no,.no,.no] 0)=_
 refine vT ?_
 obtain⟨m,hm,em⟩:=A1 3 (by omega) ns (vl [.fz (b6 ns),.no,.no,.no,.no,.no,.no,.no,.no,.no,.no,.no]) 0 rfl
 unfold xX
 refine mF (fun _ env _=>∃s1 s2 s3 s4 s5 s6 s7 s8 s9 s10 s11,env= [.fz (b6 ns),s1,s2,s3,s4,s5,s6,s7,s8,s9,s10,s11]) em ⟨_,_,_,_,_,_,_,_,_,_,_,rfl⟩ ?_ fun env β ⟨s1,s2,s3,s4,s5,s6,s7,s8,s9,s10,s11,e⟩=>la (d:=.bool true) rfl rfl
 rintro i d env β hi ⟨s1,s2,s3,s4,s5,s6,s7,s8,s9,s10,s11,rfl⟩
 obtain⟨_,rfl⟩:=dI hi
 rw[Int.zero_add]
 refine⟨[.fz (b6 ns),.fz (.int i),s2,s3,s4,s5,s6,s7,s8,s9,s10,s11],rfl,?_⟩
 obtain⟨z,ez⟩:=II ns i
 obtain⟨n,l,β1,eo,O,hn6⟩:=A2 (most:=6) (by omega) (by omega) z
 have h1:=O.lo
 have h8:=O.hi
 obtain⟨j,hj,ej⟩:=dU (m:=5) (by omega) (by omega) β1
 generalize β1 / ((5:Nat):Int)=β2 at ej
 obtain⟨t3,t4,t5,t6,t7,t8,t9,t10,t11,hcl⟩:∃t3 t4 t5 t6 t7 t8 t9 t10 t11:Sl,(qr (a7 ([0] ++ ([1] ++ [])) [.fz (b6 ns),.fz (.int i),s2,s3,s4,s5,s6,s7,s8,s9,s10,s11])).set 2 .bx= [.fz (b6 ns),.fz (.int i),.bx,t3,t4,t5,t6,t7,t8,t9,t10,t11]:=⟨_,_,_,_,_,_,_,_,_,rfl⟩
 refine DQ (Bv (ds:=[b6 ns,.int i]) rfl ez) (wp_at _ hcl ?_)
 refine dh (di (ds:=[.int 6]) rfl rfl eo) (wp_at [.fz (b6 ns),.fz (.int i),.bx,.fz (aB n l),t4,t5,t6,t7,t8,t9,t10,t11] rfl ?_)
 have ei:dz (f2 (cst (.int 1)) (jA 2 bI (aa (cst (.int 5)) ag)) cD) (vl [.fz (b6 ns),.fz (.int i),.bx,.fz (aB n l),t4,t5,t6,t7,t8,t9,t10,t11]) β1=.ok (b7 0 (1 + j)) β2:=
  cV (aE (x:=.int 1) (y:=.int j) rfl (di (ds:=[.int 5]) rfl rfl ej) (by show some (PyData.int (1 + (j:Int)))=_;rw[show ((1 + j:Nat):Int)=1 + (j:Int) by omega])) (by omega)
 obtain⟨rs0,β3,ec,hl0,hR0⟩:=zE (own:=1) (ixs:=[2,3]) (t:=.nm 0) (fe:=jA 1 yg (aa (gv 2) ag)) tupI (fun r=>Row n l r) ei (by rw[cH];omega) fun d hd=>⟨[.da d,.bx,.da (aB n l)],rfl,fun b=>by
  obtain⟨r,b',er,hr⟩:=G6 O b
  exact⟨r,b',di (ds:=[aB n l]) rfl rfl er,hr⟩⟩
 rw[cH] at hl0
 refine dh ec ?_
 refine FZ (fun env _=>∃rs:List (List Int),env= [.fz (b6 ns),.fz (.int i),.bx,.fz (aB n l),.fz (.list (rs.map tupI)),t5,t6,t7,t8,t9,t10,t11]/\rs≠ []/\rs.length<=24/\∀r,r∈rs->Row n l r) ?_ ?_
 ·have k0:rs0≠ []/\rs0.length<=24/\∀r,r∈rs0->Row n l r:=⟨fun e=>by rw[e] at hl0;simp at hl0;omega,by omega,hR0⟩
  have t1:cc (f2 (f2 (gv 3) (cst (.int 0)) cv) (cst (.int 5)) rX) (vl (((a7 (([] ++ ([] ++ [])) ++ [3]) [.fz (b6 ns),.fz (.int i),.bx,.fz (aB n l),t4,t5,t6,t7,t8,t9,t10,t11])).set 4 (.fz (.list (rs0.map tupI))))) β3=.ok (decide ((n:Int) < 5)) β3:=wF (CM (n:=n) (l:=l) rfl) rfl
  by_cases h5:(n:Int) < 5
  ·rw[decide_eq_true h5] at t1
   obtain⟨q,hq,eq⟩:=dU (m:=3) (by omega) (by omega) β3
   refine⟨decide ((q:Int) > 0),_,IZ t1 (cQ _ _ _ _ (aE (x:=.int q) (y:=.int 0) (di (ds:=[.int 3]) rfl rfl eq) rfl rfl)),fun _=>?_,fun _=>jS ⟨_,_,rfl,rs0,rfl,k0⟩⟩
   obtain⟨b,er⟩:=EJ O (by omega)
   refine k7 (dh (aM (ds:=[aB n l]) rfl er) (jS ⟨_,_,rfl,lvl n l n,rfl,A6 O n (by omega),Nat.le_trans (sd n) ?_,fun r hr=>DE O hr⟩))
   have:∀n,n < 5->HY n n<=24:=by decide
   exact this n (by omega)
  ·rw[decide_eq_false h5] at t1
   exact⟨false,_,Jv t1,(fun e=>by cases e),fun _=>jS ⟨_,_,rfl,rs0,rfl,k0⟩⟩
 rintro env β ⟨rs,rfl,hne,hz,hR⟩
 obtain⟨o,β4,eod,ho⟩:=Iu β
 obtain⟨r,rs',rfl⟩:∃r rs',rs=r :: rs':=by
  cases rs with
  |nil=>exact absurd rfl hne
  |cons r rs'=>exact⟨r,rs',rfl⟩
 have hr:=hR r (List.mem_cons_self ..)
 obtain⟨hl,hrb⟩:=tV h8 hr.1
 have ar:=yb (k:=8) (r:=r) (by omega) hrb
 have AR:Ap Ig 24 ((r :: rs').map tupI):=⟨by rw[List.length_map];exact hz,fun x hx=>by
  obtain⟨q,hq,rfl⟩:=List.mem_map.mp hx
  obtain⟨hl,hrb⟩:=tV h8 (hR q hq).1
  exact r6 (by omega) hrb⟩
 have hat:jI ((r :: rs').map tupI) 0=some (tupI r):=gW (j:=0) rfl
 have hb:=fun β=>Hf h8 hz hne hR ho β
 generalize (r :: rs').map tupI=R at AR hat hb
 refine dh (di (ds:=[]) rfl rfl eod) (dh (aE (x:=.list R) (y:=.int 0) rfl rfl hat) ?_)
 refine yk (lp (ds:=[.list R,o,.list [],.list [tupI r]]) (ac rfl (ac rfl (ac (lp an) (ac (lp (ac rfl an)) an))))) ?_
 have hz:=AR.1
 refine vI (ds:=[.list R,o,.list [],.list [tupI r]]) (d:=.list (R ++ [.tuple (r.map PyData.int).reverse])) rfl (yf (a:=R) rfl (lp (ac (bM (x:=tupI r) rfl rfl) an)) (by simp only[List.length_singleton];omega)) rfl (by simp) ?_
 refine wp_at [.fz (b6 ns),.fz (.int i),.bx,.fz (aB n l),.fz (.list R),.fz o,.fz (tupI r),.ow (.list ([.list R,o,.list [],.list [tupI r]] ++ [.list (R ++ [.tuple (r.map PyData.int).reverse])])),t8,t9,t10,t11] rfl ?_
 have k0:∀x,x∈ [.list R,o,.list [],.list [tupI r]] ++ [.list (R ++ [.tuple (r.map PyData.int).reverse])]->Tl x:=by
  intro x hx
  simp only[List.cons_append,List.nil_append,List.mem_cons,List.not_mem_nil,or_false] at hx
  rcases hx with rfl |rfl |rfl |rfl |rfl
  ·exact AR.tl (by omega)
  ·exact Gw ho
  ·exact Cc.tl (by omega)
  ·exact (ik (r6 (by omega) hrb)).tl (by omega)
  ·exact (AR.app (ik (ar.rev.igT (by omega)))).tl (by omega)
 refine mF (fun k env _=>∃(s8:Sl) (ts:List D),env= [.fz (b6 ns),.fz (.int i),.bx,.fz (aB n l),.fz (.list R),.fz o,.fz (tupI r),.ow (.list ts),s8,t9,t10,t11]/\ts.length=5 + k/\∀x,x∈ts->Tl x) (cV (n:=4) rfl (by omega)) ⟨t8,_,rfl,rfl,k0⟩ ?_ ?_
 ·rintro k d env β hk ⟨s8,ts,rfl,hts,h⟩
  have hk4:k < 4:=(dI hk).1
  obtain⟨b,q,β',eb,hb⟩:=hb β
  refine⟨[.fz (b6 ns),.fz (.int i),.bx,.fz (aB n l),.fz (.list R),.fz o,.fz (tupI r),.ow (.list ts),.fz d,t9,t10,t11],rfl,k7 (vI (ds:=ts) rfl (di (ds:=[.list R,.int n,o]) rfl (ac rfl (ac (CM (n:=n) (l:=l) rfl) (ac rfl an))) eb) rfl (by omega) (jS ⟨_,_,rfl,.fz d,ts ++ [b],rfl,by rw[List.length_append,List.length_singleton];omega,fun x hx=>?_⟩))⟩
  rcases List.mem_append.mp hx with hx |hx
  ·exact h x hx
  ·rw[List.mem_singleton] at hx;exact hx▸hb
 rintro env β ⟨s8,ts,rfl,hts,h⟩
 refine k7 (mF (fun _ env _=>∃s9 s10 s11,env= [.fz (b6 ns),.fz (.int i),.bx,.fz (aB n l),.fz (.list R),.fz o,.fz (tupI r),.fz (.list ts),s8,s9,s10,s11]) (ds:=ts) rfl ⟨_,_,_,rfl⟩ ?_ fun env β ⟨s9,s10,s11,e⟩=>jS ⟨_,_,rfl,_,_,_,_,_,_,_,_,_,_,_,e⟩)
 rintro k d env β hk ⟨s9,s10,s11,rfl⟩
 have hd:=h d (List.mem_of_getElem? hk)
 refine⟨[.fz (b6 ns),.fz (.int i),.bx,.fz (aB n l),.fz (.list R),.fz o,.fz (tupI r),.fz (.list ts),s8,.fz d,s10,s11],rfl,?_⟩
 refine dh (bM (x:=d) rfl hd.rp) (dh (aM (ds:=[d,aB n l]) rfl (DP O hd.1)) ?_)
 refine k7 (sv (g9 (c:=false) (b4 (jC (aM (ds:=[.bool (pJ n l d),.bool (pJ n l d)]) (ac (aM (ds:=[d,aB n l]) rfl (GU O hd.1)) (ac rfl an)) (IJ _)))) (cQ _ _ _ _ (aE (x:=.str d.shown) (y:=.str d.shown) (bM (x:=d) rfl hd.rp) rfl (by simp[Hn])))) (jS ⟨_,_,rfl,_,_,_,rfl⟩))
end RM

end

section
namespace RO
open PySem L2
abbrev i3:Stmt:=RQ.dF
abbrev l8:Stmt:=RQ.top 13
abbrev Fn (K:PySem.W.Frag)(mg:Str->Option Value)(x:Str)(st:Stmt)(ps:List Str)(f:Addr)(fd:FuncData):Prop:=jw K mg x st ps f fd
abbrev Bt (mg:Str->Option Value):Prop:=jF mg
end RO

end

section
namespace L2
open PySem PySem.Spec PyProof.Rows
section
variable {K:PySem.W.Frag}{H H':Hp}{a:Addr}
theorem aL.snoc {x y:Int}(q:c7 K H a [.int x,.int y]):∀{vs:List V} {ps:List (Int×Int)},aL K H vs ps->aL K H (vs ++ [.ref a]) (ps ++ [(x,y)])
 |_,_,.nil=>.cons ⟨a,rfl,q⟩ .nil
 |_,_,.cons r t=>.cons r (aL.snoc q t)
theorem aL.len {vs:List V}{ps:List (Int×Int)}(h:aL K H vs ps):vs.length=ps.length:=Paired.length h
theorem aL.same {vs:List V}{ps:List (Int×Int)}(h:aL K H vs ps)(s:ao H H'):aL K H' vs ps:=h.grow s.grow
theorem aL.at {vs:List V}{ps:List (Int×Int)}{i:Nat}{v:V}(h:aL K H vs ps)(e:vs[i]? =some v):∃p:Int×Int,ps[i]? =some p/\∃b,v=.ref b/\c7 K H b [.int p.1,.int p.2]:=Paired.getP h e
theorem ao.put {o:HO}(s:ao H H')(h:H a=none):ao H (L2.upd H' a o):=fun b u e=>by rw[ay (aG e h)];exact s b u e
end
end L2
namespace RO
open PySem L2
def Ba (N:List Str)(sc:Scope)(NB:List Str)(own:Nat)(ixs:List Nat)(scope:Scope):Bool:=
 decide (scope.kind=.function) && (scope.names.all fun y=>decide (y.2≠.cell)) && (scope.names.all fun y=>decide (scope.names.lookup y.1=some y.2)) &&
 (scope.names.all fun y=>decide (y.2=.free->(sc.names.lookup y.1=some .cell\/sc.names.lookup y.1=some .free))) && decide NB.Nodup && decide (NB.length=own + ixs.length) &&
 ((List.range ixs.length).all fun k=>decide (NB[own + k]? =N[ixs.getD k 0]?) && (match NB[own + k]? with |some x=>decide ((x,NameKind.free)∈scope.names) |none=>true))
theorem ml {X:Cx}{NB:List Str}{own:Nat}{ixs:List Nat}{scope:Scope}(h:Ba X.N X.env.scope NB own ixs scope=true):cG X NB own ixs scope:=by
 unfold Ba at h
 simp only[Bool.and_eq_true,List.all_eq_true,decide_eq_true_eq,List.mem_range] at h
 obtain⟨⟨⟨⟨⟨⟨h1,h2⟩,h3⟩,h4⟩,h5⟩,h6⟩,h7⟩:=h
 refine⟨h1,h2,h3,h4,h5,h6,fun k hk=>⟨(h7 k hk).1,fun x hx=>?_⟩⟩
 have:=(h7 k hk).2
 rw[hx] at this
 simpa using this
section
variable {X:Cx}{tg l:Expr}{tl:TE}{K:PySem.W.Frag}{H H1:Hp}{a:Addr}{xs:List V}{σ:St}
def JW (K:PySem.W.Frag)(tl:TE):TI:=fun σ H R=>tl σ H fun x H1=>∃a xs,x=.ref a/\((fR K H1 a xs/\R (zb K a) H1)\/(c7 K H1 a xs/\R (EW K a) H1))
end
theorem K5 (K:PySem.W.Frag){X:Cx}(h:X.K=K:=by rfl):AJ X (Hd K):=by subst h;exact gf
theorem FQ (K:PySem.W.Frag)(i j:Nat){X:Cx}{x y:Str}{px py pos:Pos}{k:Nat}(hN:X.N.Nodup)(hi:X.N[i]? =some x)(hj:X.N[j]? =some y)(hx:X.env.scope.names.lookup x=some .local)(hy:X.env.scope.names.lookup y=some .local)(hc:X.calm=true)(hK:X.K=K) :
  PG X (.Tuple [.Name x px,.Name y py] k pos) (Dv K 2 (o7 (kI i) (o7 (kI j) Dp))):=by
 subst hK
 exact o4 hc (cU (cy hN hi (Or.inl hx) (Or.inr hx)) (cU (cy hN hj (Or.inl hy) (Or.inr hy)) lX))
section
open PySem.Spec PyProof.Rows
variable {X:Cx}{tg l:Expr}{tl:TE}
theorem Hg (hl:PE X l tl):PI X tg l (JW X.K tl):=by
 intro pins s σ H R I h
 refine bW (hl pins s σ H _ I h) fun v s1 ⟨x,H1,I1,r1,q1⟩=>?_
 obtain⟨a,xs,e,q⟩:=q1
 subst e
 cases r1
 rcases q with⟨hq,q⟩ | ⟨hq,q⟩
 ·obtain⟨its,rv,p,hz⟩:=I1.list hq
  refine wpAny_pyIter_list p.isList ?_
  refine⟨s1.heap.objs.size,[s1.heap.objs.size],_,_,H1,rfl,I1.kept (t':=s1.toks) fun b o e=>Heap.get?_push_of_some _ e,mQ a _,⟨_,Heap.get?_push_size _ rfl,rfl,rfl⟩,fun b hb=>?_,q⟩
  have e:b=s1.heap.objs.size:=by simpa using hb
  subst e
  exact I1.fpOk (Nat.le_refl _) (I1.hok.fresh (Nat.le_refl _))
 ·obtain⟨its,rv,p,hz⟩:=I1.tuple hq
  refine wpAny_pyIter_tuple (show s1.heap.IsTuple a its.toArray from p) ?_
  refine⟨s1.heap.objs.size,[s1.heap.objs.size],_,_,H1,rfl,I1.kept (t':=s1.toks) fun b o e=>Heap.get?_push_of_some _ e,pM a _,⟨_,Heap.get?_push_size _ rfl,rfl,rfl⟩,fun b hb=>?_,q⟩
  have e:b=s1.heap.objs.size:=by simpa using hb
  subst e
  exact I1.fpOk (Nat.le_refl _) (I1.hok.fresh (Nat.le_refl _))
end
section
variable {K:PySem.W.Frag}{H H1 H':Hp}{a:Addr}{xs:List V}{σ:St}
abbrev Jk (J:It)(g:TG)(tb:TS)(D:Ends)(σ:St)(H:Hp):Prop:=∃W:Nat->Nat->St->Hp->Prop,(∃m,W 0 m σ H)/\∀i m σ H,W i m σ H->
   (J.stop i H/\D.nx σ H)\/(J.go i H/\∃N:St->Hp->Prop,(∀σ' H',N σ' H'->∃m',m' < m/\W (i + 1) m' σ' H')/\∀x H',J.yld i H x H'->g x σ H' fun σ2 H2=>tb {D with nx:=N,ct:=N,bk:=D.nx} σ2 H2)
theorem Du (s:ao H1 H')(hq:fR K H1 a xs\/c7 K H1 a xs):fR K H' a xs\/c7 K H' a xs:=hq.elim (fun q=>.inl (s.seq q)) fun q=>.inr (q.grow s.grow)
theorem Ee {g:TG}{tb:TS}{D:Ends}(hq:fR K H1 a xs\/c7 K H1 a xs)(Pv:Nat->St->Hp->Prop)(h0:Pv 0 σ H)(hl:∀i σ H',Pv i σ H'->ao H1 H')
  (hs:∀i x σ H,xs[i]? =some x->Pv i σ H->g x σ H fun σ2 H2=>tb {D with nx:=Pv (i + 1),ct:=Pv (i + 1),bk:=D.nx} σ2 H2) (hd:∀σ H,Pv xs.length σ H->D.nx σ H) :
  (fR K H a xs/\Jk (zb K a) g tb D σ H)\/(c7 K H a xs/\Jk (EW K a) g tb D σ H):=
 hq.elim (fun q=>.inl ⟨(hl _ _ _ h0).seq q,uz Pv h0 (fun i σ H' _ p=>(hl i σ H' p).seq q) hs hd⟩) fun q=>.inr ⟨q.grow (hl _ _ _ h0).grow,D6 Pv h0 (fun i σ H' _ p=>q.grow (hl i σ H' p).grow) hs hd⟩
def xP (J:It)(own:Nat)(ixs:List Nat)(g:TG)(tt:TT)(te:TE)(Q:VK)(D:Addr)(σ:St)(H:Hp):Prop:=∃W:Nat->Nat->St->Hp->Prop,(∃m,W 0 m (rG own ixs σ) (upd H D (.lst [])))/\∀i m σ' H',W i m σ' H'->
   (J.stop i H'/\(∃acc,H' D=some (.lst acc))/\Q (.ref D) H')\/
   (J.go i H'/\∃N:St->Hp->Prop,(∀σ2 H2,N σ2 H2->∃m',m' < m/\W (i + 1) m' σ2 H2)/\∀x H2,J.yld i H' x H2->dG g tt te D x σ' H2 N)
structure tI (own:Nat)(ixs:List Nat)(wi:TI)(g:TG)(tt:TT)(te:TE)(σ:St)(H:Hp)(Q:VK):Prop where
 out:wi σ H fun J H1=>∀D,H1 D=none->xP J own ixs g tt te Q D σ H1
theorem wW {own:Nat}{ixs:List Nat}{wi:TI}{g:TG}{tt:TT}{te:TE}{Q:VK}(h:wi σ H fun J H1=>∀D,H1 D=none->xP J own ixs g tt te Q D σ H1):tI own ixs wi g tt te σ H Q:=⟨h⟩
theorem sZ {X:Cx}{NB:List Str}{own:Nat}{ixs:List Nat}{scope:Scope}{tg iter elt:Expr}{ifs:List Expr}{wi:TI}{g:TG}{tt:TT}{te:TE}{pos:Pos}(hc:X.calm=true)(S:cG X NB own ixs scope)(hi:PI X tg iter wi)
  (hg:∀C ex s3 H3 pn,PG (ij X NB scope C ex s3 H3 pn) tg g) (ht:∀C ex s3 H3 pn,A8 (ij X NB scope C ex s3 H3 pn) ifs tt) (he:∀C ex s3 H3 pn,PE (ij X NB scope C ex s3 H3 pn) elt te)
  (hs:∀x,foldedSetIterable iter X.env x=pure x:=by intro _;rfl):PE X (.ListComp elt [⟨tg,iter,ifs,0⟩] scope pos) (tI own ixs wi g tt te):=
 fun pins s σ H Q I h=>ue hc S hi hg ht he hs pins s σ H Q I h.out
section
variable {own:Nat}{ixs:List Nat}{g:TG}{tt:TT}{te:TE}{Q:VK}{D:Addr}
theorem D7 (Pv:Nat->St->Hp->Prop)(h0:Pv 0 (rG own ixs σ) (upd H D (.lst [])))(hl:∀i σ H,i<=xs.length->Pv i σ H->fR K H a xs)
  (hs:∀i x σ H,xs[i]? =some x->Pv i σ H->dG g tt te D x σ H (Pv (i + 1))) (hd:∀σ H,Pv xs.length σ H->(∃acc,H D=some (.lst acc))/\Q (.ref D) H):xP (zb K a) own ixs g tt te Q D σ H:=yW Pv h0 hl hs hd
theorem uw {lo:Int}{n:Nat}(Pv:Nat->St->Hp->Prop)(h0:Pv 0 (rG own ixs σ) (upd H D (.lst [])))
  (hs:∀i σ H,i < n->Pv i σ H->dG g tt te D (.int (lo + i)) σ H (Pv (i + 1))) (hd:∀σ H,Pv n σ H->(∃acc,H D=some (.lst acc))/\Q (.ref D) H):xP (y9 lo n) own ixs g tt te Q D σ H:=wU Pv h0 hs hd
end
theorem uF {i:Nat}{te:TE}{D:Addr}{x:V}{N:St->Hp->Prop}(h:te (σ.set i (some x)) H fun v H5=>∃acc,H5 D=some (.lst acc)/\acc.length < sizeLine/\N (σ.set i (some x)) (upd H5 D (.lst (acc ++ [v])))):dG (kI i) Hu te D x σ H N:=by
 unfold dG kI Hu
 exact vm h
theorem A0 {i j:Nat}{x y:V}{Q:St->Hp->Prop}(h:c7 K H a [x,y])(q:Q ((σ.set i (some x)).set j (some y)) H):Dv K 2 (o7 (kI i) (o7 (kI j) Dp)) (.ref a) σ H Q:=⟨a,_,rfl,h,rfl,x,_,rfl,y,_,rfl,rfl,q⟩
theorem J9 {c A B:Prop}[Decidable c](h:c)(a:A):if c then A else B:=by rw[if_pos h];exact a
theorem KA {c A B:Prop}[Decidable c](h:¬c)(b:B):if c then A else B:=by rw[if_neg h];exact b
theorem take_snoc {α:Type}{l:List α}{i:Nat}{x:α}(h:l[i]? =some x):l.take (i + 1)=l.take i ++ [x]:=by
 rw[List.take_add_one,h];rfl
theorem take_all {α:Type}(l:List α):l.take l.length=l:=List.take_of_length_le (Nat.le_refl _)
end
theorem fI (n:Nat):(OM.bR n).length=n * n:=by unfold OM.bR;simp
theorem DT {n i:Nat}(h:i < n * n):(OM.bR n)[i]? =some (((i / n:Nat):Int),((i % n:Nat):Int)):=by
 unfold OM.bR
 rw[List.getElem?_map,List.getElem?_range h];rfl
theorem K4 {n:Nat}(h:n<=8):n * n<=64:=Nat.mul_le_mul h h
section
variable {P:Program}{w:World}{K:PySem.W.Frag}{mg:Str->Option Value}{base:Heap}
def xK (K:PySem.W.Frag):Sp:=fun vs H Q _=>∃n:Nat,vs= [.int n]/\1<=n/\n<=8/\∀H' l ws,ao H H'->H l=none->H' l=some (.lst ws)->aL K H' ws (OM.bR n)->Q (.ref l) H'
theorem DG:aF ["many"] ["many"] (au i3):=⟨rfl,rfl,rfl,by decide +kernel,rfl,by decide +kernel,by decide +kernel⟩
theorem Jb:(["number","many"]:List Str).Nodup:=by decide +kernel
theorem BU {f:Addr}{fd:FuncData}(F:Fn K mg "every_pair" i3 ["many"] f fd)(B:Bt mg):fy P w K mg base GQ 1 f fd ["many"] (xK K):=by
 refine F.F.ok DG (fun vs H Q E h=>?_) (fun cdv A outer s H vs Q E hr h=>?_)
 ·obtain⟨n,rfl,_⟩:=h;rfl
 ·obtain⟨n,rfl,h1,h8,k⟩:=h
  refine⟨_,gP (mD (sZ (NB:=["number","many"]) (own:=1) (ixs:=[0]) rfl (ml (by kernel_rfl)) (kh rfl B.range (aK (qA jR (pv 0) (pv 0)) bg))
   (fun C ex s3 H3 pn=>cy (i:=0) Jb rfl (Or.inl rfl) (hf:=Or.inr rfl)) (fun C ex s3 H3 pn=>rH)
   (fun C ex s3 H3 pn=>wO (aK (qA lE (pv 0) (pv 1)) (aK (qA ll (pv 0) (pv 1)) bg))))),?_⟩
  have hn:=K4 h8
  have e0:((n:Int) * (n:Int))=((n * n:Nat):Int):=by rw[Int.natCast_mul]
  refine wW ⟨_,rfl,_,rfl,_,_,rfl,rfl,.inl ⟨by omega,by omega⟩,_,rfl,by rw[e0];omega,by rw[e0];omega,fun D hD=>?_⟩
  rw[e0,Int.toNat_natCast]
  refine uw (fun i σ' H'=>(∃v,σ'= [v,some (.int n)])/\ao H H'/\∃vs,H' D=some (.lst vs)/\aL K H' vs ((OM.bR n).take i)) ⟨⟨none,rfl⟩,(ao.refl H).put hD,[],aq,.nil⟩ ?_ ?_
  ·rintro i σ' H' hi ⟨⟨v,rfl⟩,s1,vs,hv,hp⟩
   have hn0:(0:Int) < (n:Int):=by omega
   refine uF ⟨_,rfl,_,rfl,_,_,rfl,rfl,⟨hn0,by omega⟩,_,rfl,_,rfl,_,_,rfl,rfl,hn0,by show 2<=sizeLine;rw[sizeLine_eq];omega,fun p hp0=>?_⟩
   have hpD:D≠p:=aG hv hp0
   have hl:=hp.len
   refine⟨vs,by rw[ay hpD];exact hv,?_,⟨_,rfl⟩,?_,vs ++ [.ref p],aq,?_⟩
   ·rw[hl,List.length_take,sizeLine_eq];rw[fI];omega
   ·exact (s1.put (s1.free hp0)).put hD
   ·rw[take_snoc (DT hi)]
    have g1:gM H' (upd H' p (.tup [.int ((0 + (i:Int)) / n),.int ((0 + (i:Int)) % n)])):=gM.new hp0
    have g2:∀o,gM (upd H' p (.tup [.int ((0 + (i:Int)) / n),.int ((0 + (i:Int)) % n)])) (upd (upd H' p (.tup [.int ((0 + (i:Int)) / n),.int ((0 + (i:Int)) % n)])) D o):=fun o=>gM.list (by rw[ay hpD];exact hv)
    refine aL.snoc ?_ (hp.grow (g1.trans (g2 _)))
    refine (c7.grow ?_ (g2 _))
    refine .inl (.inl ?_)
    rw[aq,Int.zero_add];rfl
  ·rintro σ' H' ⟨_,s1,vs,hv,hp⟩
   refine⟨⟨_,hv⟩,k H' D vs s1 hD hv ?_⟩
   rw[<-fI n,take_all] at hp
   exact hp
end
end RO

end

section
namespace RO
open PySem L2
structure TabAt (n:Nat)(M:OM.Tb)(L:Addr)(r:Nat->Addr)(H:Hp):Prop where
 top:H L=some (.lst ((List.range n).map fun i=>V.ref (r i)))
 row:∀i,i < n->H (r i)=some (.lst ((List.range n).map fun j=>V.bl (M i j)))
 inj:∀i j,i < n->j < n->r i=r j->i=j
 ne:∀i,i < n->r i≠L
theorem yD {n x:Nat}(h:x < n):vD n (x:Int)=some x:=by
 unfold vD;rw[if_pos (by omega),if_pos (by omega)];simp
theorem rE {α:Type}{xs:List α}{x:Nat}(h:x < xs.length):jI xs (x:Int)=xs[x]?:=by
 unfold jI;rw[yD h];rfl
theorem fC {f:Nat->V}{n x:Nat}(h:x < n):jI ((List.range n).map f) (x:Int)=some (f x):=by
 rw[rE (by simpa using h),List.getElem?_map,List.getElem?_range h];rfl
theorem qD {f:Nat->V}{n x:Nat}(h:x < n):vD ((List.range n).map f).length (x:Int)=some x:=by
 rw[List.length_map,List.length_range];exact yD h
theorem zI {f:Nat->V}{n y:Nat}{v:V}:((List.range n).map f).set y v=(List.range n).map fun j=>if j=y then v else f j:=by
 apply List.ext_getElem?
 intro i
 by_cases hi:i < n
 ·by_cases e:y=i
  ·subst e;simp[List.getElem?_set,hi]
  ·have e':¬i=y:=fun z=>e z.symm
   simp[List.getElem?_set,hi,e,e']
 ·rw[List.getElem?_eq_none (by simp;omega),List.getElem?_eq_none (by simp;omega)]
section
variable {n:Nat}{M:OM.Tb}{L:Addr}{r:Nat->Addr}{H H':Hp}
theorem TabAt.set (T:TabAt n M L r H){x y:Nat}(hx:x < n):TabAt n (M.set x y) L r (upd H (r x) (.lst (((List.range n).map fun j=>V.bl (M x j)).set y (.bl true)))):=by
 refine⟨by rw[ay (T.ne x hx).symm];exact T.top,fun i hi=>?_,T.inj,T.ne⟩
 by_cases e:i=x
 ·subst e
  rw[aq,zI]
  refine congrArg _ (congrArg _ (List.map_congr_left fun j _=>?_))
  unfold OM.Tb.set
  by_cases c:j=y
  ·simp[c]
  ·simp[c]
 ·rw[ay (fun z=>e (T.inj i x hi hx z)),T.row i hi]
  refine congrArg _ (congrArg _ (List.map_congr_left fun j _=>?_))
  unfold OM.Tb.set;simp[e]
theorem TabAt.same (T:TabAt n M L r H)(s:ao H H'):TabAt n M L r H':=⟨s _ _ T.top,fun i hi=>s _ _ (T.row i hi),T.inj,T.ne⟩
end
theorem sU {n:Nat}{ps:List (Int×Int)}(w:OM.Wn n ps){p:Int×Int}(h:p∈ps):∃u v:Nat,p=((u:Int),(v:Int))/\u < n/\v < n:=by
 obtain⟨x,y⟩:=p
 have q:=w _ h
 simp only at q
 exact⟨x.toNat,y.toNat,by rw[Int.toNat_of_nonneg q.1.1,Int.toNat_of_nonneg q.2.1],by omega,by omega⟩
theorem hZ {M0 M:OM.Tb}{m:Nat}{D D':Nat->Nat->Prop}(P:OM.Phase M0 M m D)(h:∀a b,D a b↔D' a b):OM.Phase M0 M m D':=fun a b=>by rw[P a b,h a b]
theorem ko {l:List (Int×Int)}{u v a b:Nat}:(((a:Int),(b:Int))∈l\/(a=u/\b=v))↔((a:Int),(b:Int))∈l ++ [((u:Int),(v:Int))]:=by
 rw[List.mem_append,List.mem_singleton,Prod.mk.injEq]
 constructor
 ·rintro (h | ⟨h1,h2⟩)
  ·exact .inl h
  ·exact .inr ⟨by omega,by omega⟩
 ·rintro (h | ⟨h1,h2⟩)
  ·exact .inl h
  ·exact .inr ⟨by omega,by omega⟩
theorem Ek {M:OM.Tb}{u v a b:Nat}:M.set u v a b=true↔M a b=true\/(a=u/\b=v):=by
 unfold OM.Tb.set
 by_cases c:a=u/\b=v
 ·simp[c]
 ·rw[if_neg c];exact⟨.inl,fun h=>h.resolve_right c⟩
theorem HZ (n:Nat)(x:V):(List.replicate n [x]).flatten=(List.range n).map fun _=>x:=by
 rw[List.flatten_replicate_singleton,List.map_const',List.length_range]
section
variable {P:Program}{w:World}{K:PySem.W.Frag}{mg:Str->Option Value}{base:Heap}
def Aq (K:PySem.W.Frag):Sp:=fun vs H Q _=>∃(n:Nat) (a:Addr) (xs:List V) (ps:List (Int×Int)),vs= [.int n,.ref a]/\1<=n/\n<=8/\(fR K H a xs\/c7 K H a xs)/\aL K H xs ps/\OM.Wn n ps/\
 ∀H' t ws,ao H H'->H t=none->H' t=some (.tup ws)->aL K H' ws (OM.bV n (OM.Tr (OM.Mem ps)))->Q (.ref t) H'
theorem fJ:aF ["many","pairs","corners","leads","a","b","middle"] ["many","pairs"] (au l8):=⟨rfl,rfl,rfl,by decide +kernel,rfl,by decide +kernel,by decide +kernel⟩
theorem HI:(["start","many"]:List Str).Nodup:=by decide +kernel
theorem Hj:(["a","b","leads"]:List Str).Nodup:=by decide +kernel
set_option maxHeartbeats 1000000 in
theorem zm {f g:Addr}{fd gd:FuncData}(F:Fn K mg "closed" l8 ["many","pairs"] f fd)(G:Fn K mg "every_pair" i3 ["many"] g gd)(GE:fy P w K mg base GQ 1 g gd ["many"] (xK K))(B:Bt mg):fy P w K mg base GQ 2 f fd ["many","pairs"] (Aq K):=by
 refine F.F.ok fJ (fun vs H Q E h=>?_) (fun cdv A outer s H vs Q E hr h=>?_)
 ·obtain⟨n,a,xs,ps,rfl,_⟩:=h;rfl
 ·obtain⟨n,a,xs,ps,rfl,h1,h8,hq,hp,wn,k⟩:=h
  refine⟨_,gG (o6 (i:=2) fJ.nd rfl (Or.inl rfl) (nX GE hr rfl G.mg G.F.kp G.b .nil Jt (aK (pv 0) bg)))
   (gG (o6 (i:=3) fJ.nd rfl (Or.inr rfl) (sZ (NB:=["start","many"]) (own:=1) (ixs:=[0]) rfl (ml (by kernel_rfl)) (kh rfl B.range (aK (pv 0) bg))
    (fun C ex s3 H3 pn=>cy (i:=0) HI rfl (Or.inl rfl) (hf:=Or.inr rfl)) (fun C ex s3 H3 pn=>rH) (fun C ex s3 H3 pn=>qA CJ (Az (aK ya bg)) (pv 1))))
   (gG (rz PassesOwn.never rfl (Hg (pv 1)) (o4 rfl (cU (cy (i:=4) fJ.nd rfl (Or.inl rfl)) (cU (cy (i:=5) fJ.nd rfl (Or.inl rfl)) lX)))
    (gP (pk ya (tq (kB gf (pv 3) (pv 4) (fun _ _=>rfl)) (pv 5) set_list))))
   (gG (rz PassesOwn.never rfl (kh rfl B.range (aK (pv 0) bg)) (cy (i:=6) fJ.nd rfl (Or.inl rfl))
    (gP (rz PassesOwn.never rfl (yd (pv 2)) (o4 rfl (cU (cy (i:=4) fJ.nd rfl (Or.inl rfl)) (cU (cy (i:=5) fJ.nd rfl (Or.inl rfl)) lX)))
     (gP (EU (PW.pt (Bb (v9 (kB gf (kB gf (pv 3) (pv 4) (fun _ _=>rfl)) (pv 6) (fun _ _=>rfl))) (yv (v9 (kB gf (kB gf (pv 3) (pv 6) (fun _ _=>rfl)) (pv 5) (fun _ _=>rfl))))))
      (gP (pk ya (tq (kB gf (pv 3) (pv 4) (fun _ _=>rfl)) (pv 5) set_list))) ym)))))
   (gP (mD (dr cX rfl B.tuple (by decide +kernel) (aK (sZ (NB:=["a","b","leads"]) (own:=2) (ixs:=[3]) rfl (ml (by kernel_rfl)) (yd (pv 2))
    (fun C ex s3 H3 pn=>FQ K 0 1 Hj rfl rfl rfl rfl rfl rfl)
    (fun C ex s3 H3 pn=>xQ (v9 (kB (K5 K) (kB (K5 K) (pv 2) (pv 0) (fun _ _=>rfl)) (pv 1) (fun _ _=>rfl)))) (fun C ex s3 H3 pn=>wO (aK (pv 0) (aK (pv 1) bg)))) bg))))))),?_⟩
  have hn:=K4 h8
  have hn0:(0:Int)<=(n:Int):=by omega
  refine⟨_,rfl,n,rfl,h1,h8,fun H1 c ws s1 hc0 hc hw=>?_⟩
  have hwl:ws.length=n * n:=by rw[hw.len,fI]
  have gw:OM.Wn n (OM.bR n):=fun p hp=>OM.bO.mp hp
  refine wW ?_
  refine⟨_,rfl,n,rfl,by omega,by omega,fun D hD=>?_⟩
  rw[Int.toNat_natCast]
  refine uw (fun i σ' H'=>(∃v,σ'= [v,some (.int n)])/\ao H1 H'/\∃r:Nat->Addr,H' D=some (.lst ((List.range i).map fun k=>V.ref (r k)))/\
   (∀k,k < i->H' (r k)=some (.lst ((List.range n).map fun _=>V.bl false))/\H1 (r k)=none/\r k≠D)/\∀j k,j < i->k < i->r j=r k->j=k)
   ?_ ?_ ?_
  ·exact⟨⟨none,rfl⟩,(ao.refl H1).put hD,fun _=>0,aq,fun k hk=>absurd hk (Nat.not_lt_zero _),fun j k hj=>absurd hj (Nat.not_lt_zero _)⟩
  ·rintro i σ' H' hi ⟨⟨v,rfl⟩,s2,r,hr0,hr1,hr2⟩
   refine uF ⟨by show 1<=sizeLine;rw[sizeLine_eq];omega,fun p hp0=>⟨_,rfl,p,n,[.bl false],rfl,rfl,aq,by omega,by omega,by show 1 * (n:Int).toNat<=sizeLine;rw[sizeLine_eq];omega,fun q hq0=>?_⟩⟩
   have hqp:q≠p:=by intro e;subst e;rw[aq] at hq0;cases hq0
   have hq1:H' q=none:=by rw[ay hqp] at hq0;exact hq0
   have hDp:D≠p:=aG hr0 hp0
   have hDq:D≠q:=aG hr0 hq1
   rw[Int.toNat_natCast,HZ]
   refine⟨_,by rw[ay hDq,ay hDp];exact hr0,by rw[List.length_map,List.length_range,sizeLine_eq];omega,⟨_,rfl⟩,((s2.put (s2.free hp0)).put (s2.free hq1)).put hD,fun k=>if k=i then q else r k,?_,fun k hk=>?_,fun j k hj hk e=>?_⟩
   ·have e:(List.range i).map (fun k=>V.ref (r k))=(List.range i).map (fun k=>V.ref (if k=i then q else r k)):=List.map_congr_left fun k hk=>by
     have:=List.mem_range.mp hk
     rw[if_neg (by omega)]
    rw[aq,List.range_succ,List.map_append,e]
    simp
   ·dsimp only
    by_cases e:k=i
    ·rw[if_pos e]
     exact⟨by rw[ay hDq.symm,aq],s2.free hq1,hDq.symm⟩
    ·rw[if_neg e]
     obtain⟨a1,a2,a3⟩:=hr1 k (by omega)
     exact⟨by rw[ay a3,ay (aG a1 hq1),ay (aG a1 hp0)];exact a1,a2,a3⟩
   ·dsimp only at e
    by_cases ej:j=i
    ·by_cases ek:k=i
     ·omega
     ·rw[if_pos ej,if_neg ek] at e
      exact absurd e.symm (aG (hr1 k (by omega)).1 hq1)
    ·by_cases ek:k=i
     ·rw[if_neg ej,if_pos ek] at e
      exact absurd e (aG (hr1 j (by omega)).1 hq1)
     ·rw[if_neg ej,if_neg ek] at e
      exact hr2 j k (by omega) (by omega) e
  rintro σ2 H2 ⟨_,s2,r,hr0,hr1,hr2⟩
  refine⟨⟨_,hr0⟩,?_⟩
  have sep:∀i,i < n->H1 (r i)=none:=fun i hi=>(hr1 i hi).2.1
  have T0:TabAt n (fun _ _=>false) D r H2:=⟨hr0,fun i hi=>(hr1 i hi).1,hr2,fun i hi=>(hr1 i hi).2.2⟩
  refine⟨_,rfl,a,xs,rfl,Ee (H1:=H1) (Du s1 hq) (fun i σ' H'=>(∃x y,σ'= [some (.int n),some (.ref a),some (.ref c),some (.ref D),x,y,none])/\ao H1 H'/\∃M,TabAt n M D r H'/\∀u v:Nat,M u v=true↔((u:Int),(v:Int))∈ps.take i)
   ⟨⟨none,none,rfl⟩,s2,_,T0,fun u v=>by simp⟩ (fun i σ' H' q=>q.2.1) ?_ ?_⟩
  ·rintro i x σ' H' hx ⟨⟨_,_,rfl⟩,s3,M,T,hM⟩
   obtain⟨p,hpi,b,rfl,hb⟩:=(hp.same (s1.trans s3)).at hx
   obtain⟨u,v,rfl,hu,hv⟩:=sU wn (List.mem_of_getElem? hpi)
   refine A0 hb ?_
   refine⟨_,rfl,_,rfl,D,_,u,_,rfl,rfl,.inl (.inl T.top),fC hu,_,rfl,r u,_,v,v,rfl,rfl,T.row u hu,qD hv,⟨_,_,rfl⟩,s3.put (sep u hu),_,T.set hu,fun x y=>?_⟩
   rw[take_snoc hpi,<-ko,Ek,hM]
  rintro σ3 H3 ⟨⟨x3,y3,rfl⟩,s3,M3,T3,hM3⟩
  rw[hp.len,take_all] at hM3
  refine⟨_,rfl,n,rfl,by omega,by omega,?_⟩
  rw[Int.toNat_natCast]
  refine zl (fun m σ' H'=>(∃x y z,σ'= [some (.int n),some (.ref a),some (.ref c),some (.ref D),x,y,z])/\ao H1 H'/\∃M,TabAt n M D r H'/\OM.Tab n ps M/\OM.CY M m)
   ⟨⟨_,_,_,rfl⟩,s3,M3,T3,⟨fun a b h=>by have:=wn _ ((hM3 a b).mp h);simp only at this;omega,fun a b h=>(hM3 a b).mpr h,fun a b h=>.one ((hM3 a b).mp h)⟩,fun k a b hk=>absurd hk (Nat.not_lt_zero _)⟩ ?_ ?_
  ·rintro m σ' H' hm ⟨⟨_,_,_,rfl⟩,s4,M,T,TT,Th⟩
   rw[Int.zero_add]
   refine⟨_,rfl,c,rfl,⟨ws,.inl (.inl (s4 _ _ hc))⟩,uz (xs:=ws) (fun i σ' H'=>(∃x y,σ'= [some (.int n),some (.ref a),some (.ref c),some (.ref D),x,y,some (.int m)])/\ao H1 H'/\∃M',TabAt n M' D r H'/\OM.Phase M M' m fun u v=>((u:Int),(v:Int))∈(OM.bR n).take i)
    ⟨⟨_,_,rfl⟩,s4,M,T,hZ (OM.Phase.start M m) fun a b=>by simp⟩ (fun i σ' H' _ q=>.inl (.inl (q.2.1 _ _ hc))) ?_ ?_⟩
   ·rintro i x σ' H' hx ⟨⟨_,_,rfl⟩,s5,M',T',Ph⟩
    obtain⟨p,hpi,b,rfl,hb⟩:=(hw.same s5).at hx
    obtain⟨u,v,rfl,hu,hv⟩:=sU gw (List.mem_of_getElem? hpi)
    refine A0 hb ?_
    have st:=Ph.step u v
    refine⟨_,rfl,_,rfl,D,_,u,_,rfl,rfl,.inl (.inl T'.top),fC hu,_,rfl,r u,_,m,_,rfl,rfl,.inl (.inl (T'.row u hu)),fC hm,_,rfl,?_⟩
    by_cases c1:M' u m=true
    ·refine J9 c1 ?_
     refine⟨_,rfl,_,rfl,D,_,m,_,rfl,rfl,.inl (.inl T'.top),fC hm,_,rfl,r m,_,v,_,rfl,rfl,.inl (.inl (T'.row m hm)),fC hv,_,rfl,?_⟩
     by_cases c2:M' m v=true
     ·refine J9 c2 ?_
      rw[if_pos ⟨c1,c2⟩] at st
      refine⟨_,rfl,_,rfl,D,_,u,_,rfl,rfl,.inl (.inl T'.top),fC hu,_,rfl,r u,_,v,v,rfl,rfl,T'.row u hu,qD hv,⟨_,_,rfl⟩,s5.put (sep u hu),_,T'.set hu,hZ st fun a b=>?_⟩
      rw[take_snoc hpi];exact ko
     ·refine KA c2 ?_
      rw[if_neg fun z=>c2 z.2] at st
      refine⟨⟨_,_,rfl⟩,s5,_,T',hZ st fun a b=>?_⟩
      rw[take_snoc hpi];exact ko
    ·refine KA c1 ?_
     rw[if_neg fun z=>c1 z.1] at st
     refine vp ⟨⟨_,_,rfl⟩,s5,_,T',hZ st fun a b=>?_⟩
     rw[take_snoc hpi];exact ko
   ·rintro σ' H' ⟨⟨_,_,rfl⟩,s5,M',T',Ph⟩
    rw[hw.len,take_all] at Ph
    have dn:=Ph.done (n:=n) (fun a b ha hb=>OM.bO.mpr ⟨⟨by simp,by simp;omega⟩,by simp,by simp;omega⟩) TT.inn Th
    exact⟨⟨_,_,_,rfl⟩,s5,M',T',TT.phase Ph,dn.1⟩
  rintro σ4 H4 ⟨⟨x4,y4,z4,rfl⟩,s4,M,T,TT,Th⟩
  refine wW ⟨_,rfl,c,rfl,⟨ws,.inl (.inl (s4 _ _ hc))⟩,fun D' hD'=>D7 (xs:=ws) (fun i σ' H'=>(∃x y,σ'= [x,y,some (.ref D)])/\ao H4 H'/\∃vs,H' D'=some (.lst vs)/\aL K H' vs (((OM.bR n).take i).filter fun p=>M p.1.toNat p.2.toNat))
   ⟨⟨_,_,rfl⟩,(ao.refl H4).put hD',[],aq,.nil⟩ (fun i σ' H' _ q=>.inl (.inl (q.2.1 _ _ (s4 _ _ hc)))) ?_ ?_⟩
  ·rintro i x σ' H' hx ⟨⟨_,_,rfl⟩,s5,vs,hv,hpv⟩
   obtain⟨p,hpi,b,rfl,hb⟩:=(hw.same (s4.trans s5)).at hx
   obtain⟨u,v,rfl,hu,hv'⟩:=sU gw (List.mem_of_getElem? hpi)
   refine A0 hb ?_
   have T':=T.same s5
   refine⟨_,rfl,_,rfl,D,_,u,_,rfl,rfl,.inl (.inl T'.top),fC hu,_,rfl,r u,_,v,_,rfl,rfl,.inl (.inl (T'.row u hu)),fC hv',_,rfl,?_⟩
   by_cases c1:M u v=true
   ·refine J9 c1 ?_
    refine⟨_,rfl,_,rfl,by show 2<=sizeLine;rw[sizeLine_eq];omega,fun p hp0=>?_⟩
    have hpD:D'≠p:=aG hv hp0
    refine⟨vs,by rw[ay hpD];exact hv,?_,⟨_,_,rfl⟩,(s5.put (s5.free hp0)).put hD',_,aq,?_⟩
    ·rw[hpv.len]
     refine Nat.lt_of_le_of_lt (List.length_filter_le ..) ?_
     rw[List.length_take,fI,sizeLine_eq];omega
    ·rw[take_snoc hpi,List.filter_append,List.filter_cons_of_pos (by simpa using c1),List.filter_nil]
     have g1:gM H' (upd H' p (.tup [.int u,.int v])):=gM.new hp0
     have g2:∀o,gM (upd H' p (.tup [.int u,.int v])) (upd (upd H' p (.tup [.int u,.int v])) D' o):=fun o=>gM.list (by rw[ay hpD];exact hv)
     refine aL.snoc ?_ (hpv.grow (g1.trans (g2 _)))
     exact c7.grow (.inl (.inl aq)) (g2 _)
   ·refine KA c1 ?_
    refine⟨⟨_,_,rfl⟩,s5,vs,hv,?_⟩
    rw[take_snoc hpi,List.filter_append,List.filter_cons_of_neg (by simpa using c1),List.filter_nil,List.append_nil]
    exact hpv
  ·rintro σ' H' ⟨_,s5,vs,hv,hpv⟩
   rw[hw.len,take_all] at hpv
   refine⟨⟨_,hv⟩,D',vs,rfl,.inl ⟨.inl (.inl hv),fun t ht=>?_⟩⟩
   have sA:ao H H':=(s1.trans s4).trans s5
   refine k _ t vs (sA.put (sA.free ht)) (sA.free ht) aq ?_
   have e:((OM.bR n).filter fun p=>M p.1.toNat p.2.toNat)=OM.bV n (OM.Tr (OM.Mem ps)):=by
    unfold OM.bV
    refine List.filter_congr fun p hp=>?_
    obtain⟨u,v,rfl,hu,hv⟩:=sU gw hp
    have:=TT.all wn Th u v
    simp only[Int.toNat_natCast]
    rw[Bool.eq_iff_iff,this]
    simp
   rw[e] at hpv
   exact hpv.grow (gM.new ht)
end
end RO

end

section
namespace RO
open PySem L2 RM
section
variable {P:Program}{w:World}{K:PySem.W.Frag}{mg:Str->Option Value}{base:Heap}{ca:Str->Addr}
theorem K8 {k:Nat}{f:Addr}{fd:FuncData}{ps:List Str}{sp:Sp}(F:fy P w K mg base GQ k f fd ps sp):fy P w K mg base (nF P w) k f fd ps sp:=
 ⟨F.len,fun A outer s H args us vs Q E hr he hb hv hs=>codeAny_mono (F.run A outer s H args us vs Q E hr he hb hv hs) fun r s' h=>by
  cases r with
  |ok x=>cases x <;> exact h
  |error e=>exact h.elim⟩
theorem xt {G H:Hp}(s:ao G H){ws:List V}{ps:List Pr}(h:aL K H ws ps):aL K (lL G H) ws ps:=Paired.mapP h fun v p ⟨a,e,q⟩=>⟨a,e,pP s q⟩
theorem pD {ds:List D}(h:cL ds≠.bad):∃(n:Nat) (d:D) (ps:List Pr),ds= [.int n,d]/\jD d=some (ps.map aJ)/\1<=n/\n<=8/\OM.Wn n ps/\cL ds=.ok (.tuple ((OM.bV n (OM.Tr (OM.Mem ps))).map aJ)) false:=by
 unfold cL at h
 split at h
 ·rename_i n d
  cases q:jD d with
  |none=>rw[q] at h;exact absurd rfl h
  |some es=>
   rw[q] at h
   dsimp only at h
   cases q2:fP es with
   |none=>rw[q2] at h;exact absurd rfl h
   |some ps=>
    rw[q2] at h
    dsimp only at h
    by_cases c:1<=n/\n<=8/\OM.Wn n.toNat ps
    ·have e:((n.toNat:Nat):Int)=n:=by omega
     refine⟨n.toNat,d,ps,by rw[e],by rw[q,kq q2],by omega,by omega,c.2.2,?_⟩
     unfold cL
     dsimp only
     rw[q]
     dsimp only
     rw[q2]
     dsimp only
     rw[if_pos c]
    ·rw[if_neg c] at h;exact absurd rfl h
 ·exact absurd rfl h
theorem wZ {f g:Addr}{fd gd:FuncData}(F:jw K mg "closed" l8 ["many","pairs"] f fd)(E:jw K mg "every_pair" i3 ["many"] g gd)(B:jF mg):dB P w K mg base ca "closed" ["many","pairs"] 3 cL:=by
 refine⟨⟨f,fd,F.mg,F.F.kp,F.b,((K8 (zm F E (BU E B) B)).mono (by decide)).imp ?_⟩,fun ds h=>?_⟩
 ·rintro vs H Q X ⟨G,ds,s,hl,r,h⟩
  have hb:cL ds≠.bad:=fun z=>by rw[z] at h;exact h
  obtain⟨n,d,ps,rfl,hd,h1,h8,wn,e⟩:=pD hb
  rw[e] at h
  cases r with
  |cons r1 r=>
   cases r with
   |cons r2 r=>
    cases r
    cases r1
    obtain⟨a,xs,rfl,hq,hr⟩:=(kU.seq (B:=none) (G:=G) (H:=G) (.inl r2) hd (ao.refl _))
    refine⟨n,a,xs,ps,rfl,h1,h8,hq.elim (fun q=>.inl (s.seq q)) (fun q=>.inr (q.grow s.grow)),(hr.pairs).grow s.grow,wn,fun H' t ws hh ht ht' hp=>?_⟩
    have s2:=s.trans hh
    refine h (.ref t) (lL G H') H' hh rn (u9 s2) (fun b m hb=>by rw[x6 hh m];exact hb) ?_
    exact .tup (pP s2 (.inl (.inl ht'))) (aL.rps (xt s2 hp))
 ·obtain⟨n,d,ps,rfl,_⟩:=pD h
  rfl
end
end RO

end

section
namespace HD
open PySem PySem.W
noncomputable abbrev A3:=@PySem.W.Fast.tw10156331382660048174
noncomputable abbrev Fs:=@PySem.W.Fast.tw11892475500146522536
noncomputable abbrev KC:=@PySem.W.Fast.tw6613529449190102663
noncomputable abbrev Hi:=@PySem.W.Fast.tw14364793385576792824
noncomputable abbrev Fd:=@PySem.W.Fast.tw17154629097778926822
noncomputable abbrev BM:=@PySem.W.Fast.tw12822647523644345616
noncomputable def B3 (p:Program):Thread:=
 ⟨do
  let code <-Fd p.main
  let frame <-BM code mainNs mainNs
  let _ <-run (.body (behindTheImports p) {scope:=p.main.scope,locals:=mainNs,globals:=mainNs,cells:=[],code,frame:=some frame})
  ret .none,
  .builtin "claim.caller" {},default,[]⟩
theorem Am (p:Program):topStub p=B3 p:=by
 unfold topStub B3 Fd BM
 rw[<-PySem.W.Fast.te17154629097778926822,<-PySem.W.Fast.te12822647523644345616]
noncomputable def nI (p:Program)(w:World)(n₀:Nat)(ann:Option Value):Nat->SharedT->Thread->Option SharedT
 | 0,_,_=>none
 |n + 1,s,t=>match through t with
  |true=>some s
  |false=>match KC n₀ ann t with
   |false=>none
   |true=>match A3 (Fs Hi) p w s t with
    |some (s',t')=>nI p w n₀ ann n s' t'
    |none=>none
theorem qP {p:Program}{w:World}{n₀:Nat}{ann:Option Value}:∀{n:Nat} {s s':SharedT} {t:Thread},nI p w n₀ ann n s t=some s'->topRun treeTable p w n₀ ann n s.abs t=some s'.abs
 | 0,_,_,_,h=>by cases h
 |n + 1,s,s',t,h=>by
  unfold nI at h
  unfold topRun
  cases ht:through t with
  |true=>rw[ht] at h;cases h;rfl
  |false=>
   rw[ht] at h
   have hq:KC n₀ ann t=stepOk n₀ ann t:=by unfold KC;rw[<-PySem.W.Fast.te6613529449190102663]
   dsimp only at h
   rw[hq] at h
   cases hk:stepOk n₀ ann t with
   |false=>rw[hk] at h;cases h
   |true=>
    rw[hk] at h
    have hq:A3 (Fs Hi) p w s t=stepT (denote treeTable) p w s t:=by unfold A3 Fs Hi;rw[<-PySem.W.Fast.te10156331382660048174,<-PySem.W.Fast.te11892475500146522536,<-PySem.W.Fast.te14364793385576792824]
    dsimp only at h
    rw[hq] at h
    cases hs:stepT (denote treeTable) p w s t with
    |none=>rw[hs] at h;cases h
    |some r=>obtain⟨s₂,t₂⟩:=r;rw[hs] at h;rw[stepT_spec hs];exact qP h
def treeOf (l:List Obj):BT:=(l.foldl (fun (x:BT×Nat) o=>(x.1.ins x.2 o,x.2 + 1)) (.nil,0)).1
noncomputable def Bd (P:Params):BT:=treeOf (boot_heap P).objs.toList
abbrev ux:Nat:=11
abbrev CF:Life:={}
theorem boot_abs (P:Params):absHeap (Bd P) ux CF=boot_heap P:=by kernel_rfl
theorem zQ (w:World):((boot_heap w.params).isNs mainGlobals && (Array.mk ([]:List GenState)).size == 0,(boot_heap w.params).objs.size,(boot_heap w.params).nsMap mainGlobals "__annotations__")=(true,ux,some (.ref 6)):=by kernel_rfl
noncomputable def BH (w:World)(os:OsState):SharedT:=⟨Bd w.params,ux,CF,Array.mk [],boot_drawn,boot_toks,os⟩
noncomputable def EX (p:Program)(w:World)(s:Shared):Bool:=staticsOk (importedModules p.main.body) (boot_heap w.params) s.heap && namesBound p s.heap && gensDone s && laidKept (boot_heap w.params) s.heap
theorem Eg {p q:Program}{loose:List Str}{Xt:Shared->Bool}{α:Type}{Yf:Shared->α}{Ya:World->α}{N:Nat}{g0:Bool}
  (e:opening p=plainProg p.main.scope.names) (hN:Nat.ble 600 N=true) (f:∀s,fenceModules? p s=some s)
  (run:∀(w:World) (os:OsState),(nI p w ux (some (.ref 6)) N (BH w os) (B3 p)).map (fun s=>(EX p w s.abs,openSeen q loose (importedModules p.main.body) Xt g0 s.abs,Yf s.abs))=some (true,openGood q loose,Ya w)):LeftO p q loose Xt Yf Ya N g0:=fun w=>by
 obtain⟨⟨h,gs,d,k,os⟩,e,e'⟩:=Option.map_eq_some_iff.mp (boot_open e hN f w)
 obtain⟨rfl,rfl,rfl,rfl⟩:h=boot_heap w.params/\gs=Array.mk []/\d=boot_drawn/\k=boot_toks:=by simpa using e'
 obtain⟨z1,z2,z3⟩:_/\_/\_:=by simpa only [Prod.mk.injEq] using zQ w
 obtain⟨s',r,ls⟩:=Option.map_eq_some_iff.mp (run w os)
 obtain⟨l1,l2,l3⟩:_/\_/\_:=by simpa only [Prod.mk.injEq] using ls
 have r:=qP r
 have ha:(BH w os).abs=⟨boot_heap w.params,Array.mk [],boot_drawn,boot_toks,os⟩:=by
  show Shared.mk (absHeap (Bd w.params) ux CF) _ _ _ _=_
  rw[boot_abs]
  rfl
 rw[ha,<-Am] at r
 have t:topFrom treeTable p w N ⟨boot_heap w.params,Array.mk [],boot_drawn,boot_toks,os⟩=some s'.abs:=by
  unfold topFrom
  dsimp only
  rw[z1,z2,z3,r]
  show (match EX p w s'.abs with |true=>_ |false=>_)=_
  rw[l1]
 unfold openEnds
 rw[e]
 show (topFrom treeTable p w N _).map _=_
 rw[t]
 exact congrArg some (Prod.ext l2 l3)
end HD

end

section
namespace RO
open PySem L2 RM
def yG (K:PySem.W.Frag):Sp:=fun vs H Q _=>∃(a:Addr) (ns:List Int),vs= [.ref a]/\fR K H a (ns.map V.int)/\∀H',ao H H'->Q (.bl true) H'
theorem GL {K:PySem.W.Frag}{ca:Str->Addr}(vs:List V)(H:Hp)(Q:VK)(E:XK)(h:yG K vs H Q E):CO K ca 1 GZ vs H Q E:=by
 obtain⟨a,ns,rfl,hS,q⟩:=h
 refine⟨H,[b6 ns],ao.refl _,rfl,.cons (.scr hS) .nil,?_⟩
 rw[IQ]
 intro v G' H' s1 s2 s3 s4 fv
 have fv:Rp K G' v (.bool true):=fv
 cases fv
 exact q H' s1
theorem xc:aY "is_whole" RQ.iY ["thing"]:=fun _ _ _ _ _ _=>Ah fun _=>rfl
theorem xf:aY "is_below" RQ.js ["thing","bound"]:=fun _ _ _ _ _ _=>ln2 fun _ _=>rfl
theorem yP:aY "is_many" RQ.ki ["thing"]:=fun _ _ _ _ _ _=>Ah fun _=>rfl
theorem zr:aY "is_pair" RQ.ke ["thing","many"]:=fun _ _ _ _ _ _=>ln2 fun _ _=>rfl
theorem zM:aY "is_line" RQ.kj ["thing","many"]:=fun _ _ _ _ _ _=>ln2 fun _ _=>rfl
theorem sY:aY "every_pair" RQ.dF ["many"]:=fun _ _ _ _ _ _=>Ah fun _=>rfl
theorem CH:aY "closed" l8 ["many","pairs"]:=fun _ _ _ _ _ _=>ln2 fun _ _=>rfl
theorem v3:aY "has_ring" RQ.jj ["pairs"]:=fun _ _ _ _ _ _=>Ah fun _=>rfl
theorem wj:aY "is_order" RQ.i9 ["thing"]:=fun _ _ _ _ _ _=>Ah fun _=>rfl
theorem su:aY "need_order" RQ.gi ["thing"]:=fun _ _ _ _ _ _=>Ah fun _=>rfl
theorem CK:aY "places" RQ.l7 ["row"]:=fun _ _ _ _ _ _=>Ah fun _=>rfl
theorem qk:aY "keeps_order" RQ.fg ["thing","order"]:=fun _ _ _ _ _ _=>ln2 fun _ _=>rfl
theorem oZ:aY "stands_ahead" RQ.dM ["tables","a","b"]:=fun _ _ _ _ _ _=>Lm fun _ _ _=>rfl
theorem pf:aY "shared_pairs" RQ.dN ["many","rows"]:=fun _ _ _ _ _ _=>ln2 fun _ _=>rfl
theorem vL:aY "are_rows" RQ.jb ["thing","order"]:=fun _ _ _ _ _ _=>ln2 fun _ _=>rfl
theorem Hy:aY "tell" RQ.sg ["thing","order"]:=fun _ _ _ _ _ _=>ln2 fun _ _=>rfl
theorem uW:aY "_law_cell" RQ.hX ["script","k"]:=fun _ _ _ _ _ _=>ln2 fun _ _=>rfl
theorem wg:aY "_law_mix" RQ.eS ["cell","k"]:=fun _ _ _ _ _ _=>ln2 fun _ _=>rfl
theorem wA:aY "_law_box" RQ.i5 ["script","k"]:=fun _ _ _ _ _ _=>ln2 fun _ _=>rfl
theorem uK:aY "_law_take" RQ.gY ["box","many"]:=fun _ _ _ _ _ _=>ln2 fun _ _=>rfl
theorem sI:aY "_law_whole" RQ.fZ ["thing"]:=fun _ _ _ _ _ _=>Ah fun _=>rfl
theorem tw:aY "_law_truth" RQ.fW ["found","due"]:=fun _ _ _ _ _ _=>ln2 fun _ _=>rfl
theorem vZ:aY "_law_odd" RQ.i7 ["box"]:=fun _ _ _ _ _ _=>Ah fun _=>rfl
theorem nC:aY "_law_mixed_up" RQ.c3 ["box","some"]:=fun _ _ _ _ _ _=>ln2 fun _ _=>rfl
theorem pW:aY "_law_closed" RQ.fu ["pairs"]:=fun _ _ _ _ _ _=>Ah fun _=>rfl
theorem rB:aY "_law_order" RQ.gj ["box","most"]:=fun _ _ _ _ _ _=>ln2 fun _ _=>rfl
theorem tY:aY "_law_fits" RQ.hU ["order","row"]:=fun _ _ _ _ _ _=>ln2 fun _ _=>rfl
theorem uJ:aY "_law_rows" RQ.g8 ["order"]:=fun _ _ _ _ _ _=>Ah fun _=>rfl
theorem wt:aY "_law_row" RQ.jr ["box","order"]:=fun _ _ _ _ _ _=>ln2 fun _ _=>rfl
theorem qc:aY "_law_is_row" RQ.fj ["thing","many"]:=fun _ _ _ _ _ _=>ln2 fun _ _=>rfl
theorem tM:aY "_law_told" RQ.ie ["many","rows"]:=fun _ _ _ _ _ _=>ln2 fun _ _=>rfl
theorem tQ:aY "_law_tell" RQ.hW ["thing","order"]:=fun _ _ _ _ _ _=>ln2 fun _ _=>rfl
theorem va:aY "_law_bent" RQ.hG ["box","rows","many","odd"]:=fun _ _ _ _ _ _=>Lp fun _ _ _ _=>rfl
theorem all_mk {l:PySem.W.OpenLaw}{w:World}{K:PySem.W.Frag}{h:Heap}{mg:Str->Option Value}{fa f34 x0:Addr}(X:K.In h)(G:h.Ns mainGlobals mg)(hfa:mg "law"=some (.ref fa))
  {od34 an34:Option Addr} {sl34:Array (Option Value)} {oc34 kV34 dc34 pm34 cd34 ct34:Value} {tMOST_THINGS:Tok}
  (F1:Fo K mg "is_whole" RQ.iY ["thing"])
  (F2:Fo K mg "is_below" RQ.js ["thing","bound"])
  (F3:Fo K mg "is_many" RQ.ki ["thing"])
  (F4:Fo K mg "is_pair" RQ.ke ["thing","many"])
  (F5:Fo K mg "is_line" RQ.kj ["thing","many"])
  (F6:Fo K mg "every_pair" RQ.dF ["many"])
  (F7:Fo K mg "closed" l8 ["many","pairs"])
  (F8:Fo K mg "has_ring" RQ.jj ["pairs"])
  (F9:Fo K mg "is_order" RQ.i9 ["thing"])
  (F10:Fo K mg "need_order" RQ.gi ["thing"])
  (F11:Fo K mg "places" RQ.l7 ["row"])
  (F12:Fo K mg "keeps_order" RQ.fg ["thing","order"])
  (F13:Fo K mg "stands_ahead" RQ.dM ["tables","a","b"])
  (F14:Fo K mg "shared_pairs" RQ.dN ["many","rows"])
  (F15:Fo K mg "are_rows" RQ.jb ["thing","order"])
  (F16:Fo K mg "tell" RQ.sg ["thing","order"])
  (F17:Fo K mg "_law_cell" RQ.hX ["script","k"])
  (F18:Fo K mg "_law_mix" RQ.eS ["cell","k"])
  (F19:Fo K mg "_law_box" RQ.i5 ["script","k"])
  (F20:Fo K mg "_law_take" RQ.gY ["box","many"])
  (F21:Fo K mg "_law_whole" RQ.fZ ["thing"])
  (F22:Fo K mg "_law_truth" RQ.fW ["found","due"])
  (F23:Fo K mg "_law_odd" RQ.i7 ["box"])
  (F24:Fo K mg "_law_mixed_up" RQ.c3 ["box","some"])
  (F25:Fo K mg "_law_closed" RQ.fu ["pairs"])
  (F26:Fo K mg "_law_order" RQ.gj ["box","most"])
  (F27:Fo K mg "_law_fits" RQ.hU ["order","row"])
  (F28:Fo K mg "_law_rows" RQ.g8 ["order"])
  (F29:Fo K mg "_law_row" RQ.jr ["box","order"])
  (F30:Fo K mg "_law_is_row" RQ.fj ["thing","many"])
  (F31:Fo K mg "_law_told" RQ.ie ["many","rows"])
  (F32:Fo K mg "_law_tell" RQ.hW ["thing","order"])
  (F33:Fo K mg "_law_bent" RQ.hG ["box","rows","many","odd"])
  (a34:PySem.W.nsIn K mainGlobals "law"=some (some (.ref f34))) (l34:K.lookup f34=some ⟨oc34,od34,.func (PySem.W.fnOf "law" "law" (gQ RQ.kC) (cx RQ.kC) (au RQ.kC) .none kV34 dc34 pm34 an34 cd34 ct34),sl34⟩) (c34:PySem.W.codeIn K cd34 "law"=true) (k34:PySem.W.keepIn K (.ref f34)=true)
  (zB:JS K=true)
  (yMOST_THINGS:PySem.W.nsIn K mainGlobals "MOST_THINGS"=some (some (.int 8 tMOST_THINGS)))
  (m0:PySem.W.nsIn K mainGlobals "NoOrder"=some (some (.ref x0)))
  (e0:PySem.W.excIn K x0 [.type "ValueError",.type "Exception",.type "BaseException",.type "object"] "ValueError.__new__"=true)
  :∃fd:FuncData,(∀(s:Shared) (v:Value),BindsTo s fd ⟨[v],[]⟩ [("script",v)])/\∀base:Heap,K.In base->base.Ns mainGlobals mg->fy l.prog w K mg base (nF l.prog w) 7 fa fd ["script"] (yG K):=by
 have e:=hfa.symm.trans (PySem.W.mg_of X G a34)
 cases e
 have B:jF mg:=Iq X G zB
 have iz:=PySem.W.mg_of X G yMOST_THINGS
 obtain⟨f1,d1,bH⟩:=F1.ex
 obtain⟨f2,d2,bu⟩:=F2.ex
 obtain⟨f3,d3,gp⟩:=F3.ex
 obtain⟨f4,d4,gq⟩:=F4.ex
 obtain⟨f5,d5,gy⟩:=F5.ex
 obtain⟨f6,d6,cg⟩:=F6.ex
 obtain⟨f7,d7,iG⟩:=F7.ex
 obtain⟨f8,d8,eG⟩:=F8.ex
 obtain⟨f9,d9,eM⟩:=F9.ex
 obtain⟨f10,d10,cN⟩:=F10.ex
 obtain⟨f11,d11,cE⟩:=F11.ex
 obtain⟨f12,d12,cu⟩:=F12.ex
 obtain⟨f13,d13,bX⟩:=F13.ex
 obtain⟨f14,d14,bZ⟩:=F14.ex
 obtain⟨f15,d15,eY⟩:=F15.ex
 obtain⟨f16,d16,mG⟩:=F16.ex
 obtain⟨f17,d17,dv⟩:=F17.ex
 obtain⟨f18,d18,dY⟩:=F18.ex
 obtain⟨f19,d19,eH⟩:=F19.ex
 obtain⟨f20,d20,av⟩:=F20.ex
 obtain⟨f21,d21,cJ⟩:=F21.ex
 obtain⟨f22,d22,cM⟩:=F22.ex
 obtain⟨f23,d23,eO⟩:=F23.ex
 obtain⟨f24,d24,bL⟩:=F24.ex
 obtain⟨f25,d25,cp⟩:=F25.ex
 obtain⟨f26,d26,cI⟩:=F26.ex
 obtain⟨f27,d27,dk⟩:=F27.ex
 obtain⟨f28,d28,dq⟩:=F28.ex
 obtain⟨f29,d29,eR⟩:=F29.ex
 obtain⟨f30,d30,cq⟩:=F30.ex
 obtain⟨f31,d31,dD⟩:=F31.ex
 obtain⟨f32,d32,dA⟩:=F32.ex
 obtain⟨f33,d33,dm⟩:=F33.ex
 have U34:=xi (st:=RQ.kC) l34 c34 k34
 have HQ:jw K mg "law" RQ.kC ["script"] fa _:=⟨PySem.W.mg_of X G a34,U34,U34.binds (ps:=["script"]) fun _ _ _ _ _ _=>Ah fun _=>rfl⟩
 obtain⟨ca,hca⟩:∃ca:Str->Addr,ca "NoOrder"=x0:=⟨fun _=>x0,by first |rfl |decide |simp⟩
 have iQ:Exc K mg ca "NoOrder":=⟨by rw[hca];exact PySem.W.mg_of X G m0,by rw[hca];exact e0⟩
 refine⟨PySem.W.fnOf "law" "law" (gQ RQ.kC) (cx RQ.kC) (au RQ.kC) .none kV34 dc34 pm34 an34 cd34 ct34,fun s v=>.of_eq rfl,fun base _ _=>?_⟩
 have eN:=(RQ.rA (P:=l.prog) (w:=w) (base:=base) (ca:=ca) bH B).imp yB
 have dg:=(RQ.tf (P:=l.prog) (w:=w) (base:=base) (ca:=ca) bu B eN).imp D3
 have mE:=(RQ.uP (P:=l.prog) (w:=w) (base:=base) (ca:=ca) gp B eN iz).imp FI
 have mR:=(RQ.uZ (P:=l.prog) (w:=w) (base:=base) (ca:=ca) gq B dg).imp FU
 have mj:=RQ.uy (P:=l.prog) (w:=w) (base:=base) (ca:=ca) gy B dg
 have jt:=RQ.n6 (P:=l.prog) (w:=w) (base:=base) (ca:=ca) cg B
 have oC:=wZ (P:=l.prog) (w:=w) (base:=base) (ca:=ca) iG cg B
 have k8:=(RQ.rO (P:=l.prog) (w:=w) (base:=base) (ca:=ca) eG B).imp Gi
 have k6:=(RQ.rV (P:=l.prog) (w:=w) (base:=base) (ca:=ca) eM B mE mR oC k8).imp xr
 have iX:=(RQ.pK (P:=l.prog) (w:=w) (base:=base) (ca:=ca) cN B k6 iQ).imp EG
 have iM:=RQ.vP (P:=l.prog) (w:=w) (base:=base) (ca:=ca) cE B
 have iu:=RQ.nA (P:=l.prog) (w:=w) (base:=base) (ca:=ca) cu B mj iM
 have gH:=RQ.my (P:=l.prog) (w:=w) (base:=base) (ca:=ca) bX B
 have gB:=RQ.mP (P:=l.prog) (w:=w) (base:=base) (ca:=ca) bZ B iM jt gH
 have kS:=RQ.td (P:=l.prog) (w:=w) (base:=base) (ca:=ca) eY B iu
 have wC:=RQ.A5 (P:=l.prog) (w:=w) (base:=base) (ca:=ca) mG B iX kS gB
 have jJ:=RQ.p6 (P:=l.prog) (w:=w) (base:=base) (ca:=ca) dv B
 have kP:=RQ.tj (P:=l.prog) (w:=w) (base:=base) (ca:=ca) dY B
 have kQ:=RQ.sW (P:=l.prog) (w:=w) (base:=base) (ca:=ca) eH B jJ kP
 have aH:=RQ.qt (P:=l.prog) (w:=w) (base:=base) av B
 have iV:=RQ.ph (P:=l.prog) (w:=w) (base:=base) (ca:=ca) cJ B
 have jm:=RQ.oo (P:=l.prog) (w:=w) (base:=base) (ca:=ca) cM B
 have kY:=RQ.sr (P:=l.prog) (w:=w) (base:=base) eO B aH
 have fO:=RQ.lF (P:=l.prog) (w:=w) (base:=base) bL B aH
 have iw:=RQ.nv (P:=l.prog) (w:=w) (base:=base) (ca:=ca) cp B
 have jc:=RQ.oB (P:=l.prog) (w:=w) (base:=base) (ca:=ca) cI B iw aH fO
 have jO:=RQ.pZ (P:=l.prog) (w:=w) (base:=base) (ca:=ca) dk B
 have jN:=RQ.p8 (P:=l.prog) (w:=w) (base:=base) (ca:=ca) dq B
 have kW:=RQ.sV (P:=l.prog) (w:=w) (base:=base) eR B aH
 have iA:=RQ.nG (P:=l.prog) (w:=w) (base:=base) (ca:=ca) cq B iV
 have jY:=RQ.qu (P:=l.prog) (w:=w) (base:=base) (ca:=ca) dD B
 have j4:=RQ.ql (P:=l.prog) (w:=w) (base:=base) (ca:=ca) dA B iA jO jY
 have j7:=RQ.p0 (P:=l.prog) (w:=w) (base:=base) dm B aH
 have IM:=RQ.Dy (P:=l.prog) (w:=w) (base:=base) (ca:=ca) HQ B kQ jN j4 jm wC jc aH kW kY j7
 exact fy.imp (sp:=CO K ca 1 GZ) IM GL
theorem walk {l:PySem.W.OpenLaw}{q:Program}{loose:List Str}{XP:(Str->Option Value)->Heap->Prop}{YP:World->Heap->Prop}{d:DefRec}{K:Params->PySem.W.Frag}(hn:l.most=some 63)(hdf:d.params.defaults= [])(hi:PyProof.Rows.importsNone q=true)
  (hY:∀(w:World) (h:Heap),YP w h->(K w.params).In h)
  (F:∀(w:World) (mg:Str->Option Value) (fa:Addr) (h:Heap),(K w.params).In h->h.Ns mainGlobals mg->mg d.name=some (.ref fa)->
   ∃fd:FuncData,(∀(s:Shared) (u:Value),BindsTo s fd ⟨[u],[]⟩ [("script",u)])/\∀base:Heap,(K w.params).In base->base.Ns mainGlobals mg->fy l.prog w (K w.params) mg base (nF l.prog w) 7 fa fd ["script"] (yG (K w.params))) :
  PySem.W.WalkO q loose XP YP l.row.toRowW d [] (fun f vs=>PySem.call f vs):=
 L2.Dr (n:=63) (k:=7) (x:="script") (CX:=fun w=>nF l.prog w) (sp:=fun w=>yG (K w.params)) hn (by decide) hdf hi ⟨rfl,by decide,by decide,rfl⟩ hY F (fun _ _ a ns hl _ hS=>⟨a,ns,rfl,hS,fun _ _=>rfl⟩) fun _ _ _ _ _ z=>by
  obtain⟨_,_,_,_,_,_,_,_,_,z⟩:=z
  exact z
end RO
namespace HD
noncomputable def vw:PySem.Program:=PySem.W.view PySem.Challenge.pw_rowsorder_k12_rows_that_tell [1,2,3,4,5,6,7,9,10,12,13,14,15,17,18,19,20,21,22,24,25,26,27,28,29,30,31,32,33,34,35,36,37,38,39,40,41]
theorem I0:PySem.Challenge.rw_rowsorder_k12_rows_that_tell.wellSaid=true:=by kernel_rfl
end HD
local macro_rules | `(tactic|o_head $H)=>`(tactic| (
 refine PySem.W.holds_open (q:=HD.vw) (loose:=[]) (Xt:=fun s=>PySem.W.xlAt HD.vw [] s && PySem.W.recOk (PySem.W.RowW.records _) s) (XP:=PySem.W.XL HD.vw []) (Yf:=PySem.W.Hook.obs $H) (Ya:=PySem.W.Hook.val $H) (YP:=PySem.W.Hook.says $H) (N:=2984) ?hl (PySem.W.Hook.of $H) (PySem.W.Hook.keeps $H) (fun s e=>PySem.W.xl_of s (Bool.and_eq_true_iff.mp e).1) PySem.W.XL.keeps (by rfl) (by rfl) (by rfl) (fun s e=>PySem.W.recFacts_of (Bool.and_eq_true_iff.mp e).2) (by rfl) (by first |assumption |decide +kernel) (by decide +kernel) ⟨rfl,rfl,rfl,rfl,rfl,by decide +kernel⟩ ?hw ?hc
 case hl=>exact HD.Eg (by kernel_rfl) (by kernel_rfl) (fun s=>by kernel_rfl) (fun w os=>by kernel_rfl)))
open PySem PySem.W PyProof.Rows L2
set_option maxRecDepth 100000 in
set_option maxHeartbeats 0 in
theorem PySem.Challenge.cw_rowsorder_k12_rows_that_tell_holds : PySem.Challenge.rw_rowsorder_k12_rows_that_tell.Holds := by
 w_on;(refine holds_law HD.I0 fun I0=>?_);k_head;(case hw=>w_witness2)
 k_fill
 refine RO.walk (l:=PySem.Challenge.rw_rowsorder_k12_rows_that_tell) rfl rfl ?hi (fun w h Y=>PySem.W.kIn_of Y) ?F
 case hi=>kernel_rfl
 case F=>
  intro w mg fa h KX G hmg
  refine' RO.all_mk KX G hmg ?F1 ?F2 ?F3 ?F4 ?F5 ?F6 ?F7 ?F8 ?F9 ?F10 ?F11 ?F12 ?F13 ?F14 ?F15 ?F16 ?F17 ?F18 ?F19 ?F20 ?F21 ?F22 ?F23 ?F24 ?F25 ?F26 ?F27 ?F28 ?F29 ?F30 ?F31 ?F32 ?F33 ?a34 ?l34 ?c34 ?k34 ?zB ?yMOST_THINGS ?m0 ?e0
  case F1=>refine' bz KX G RO.xc ?a ?l ?c ?k;(case a=>k_is);(case l=>k_is);(case c=>k_is);(case k=>k_is)
  case F2=>refine' bz KX G RO.xf ?a ?l ?c ?k;(case a=>k_is);(case l=>k_is);(case c=>k_is);(case k=>k_is)
  case F3=>refine' bz KX G RO.yP ?a ?l ?c ?k;(case a=>k_is);(case l=>k_is);(case c=>k_is);(case k=>k_is)
  case F4=>refine' bz KX G RO.zr ?a ?l ?c ?k;(case a=>k_is);(case l=>k_is);(case c=>k_is);(case k=>k_is)
  case F5=>refine' bz KX G RO.zM ?a ?l ?c ?k;(case a=>k_is);(case l=>k_is);(case c=>k_is);(case k=>k_is)
  case F6=>refine' bz KX G RO.sY ?a ?l ?c ?k;(case a=>k_is);(case l=>k_is);(case c=>k_is);(case k=>k_is)
  case F7=>refine' bz KX G RO.CH ?a ?l ?c ?k;(case a=>k_is);(case l=>k_is);(case c=>k_is);(case k=>k_is)
  case F8=>refine' bz KX G RO.v3 ?a ?l ?c ?k;(case a=>k_is);(case l=>k_is);(case c=>k_is);(case k=>k_is)
  case F9=>refine' bz KX G RO.wj ?a ?l ?c ?k;(case a=>k_is);(case l=>k_is);(case c=>k_is);(case k=>k_is)
  case F10=>refine' bz KX G RO.su ?a ?l ?c ?k;(case a=>k_is);(case l=>k_is);(case c=>k_is);(case k=>k_is)
  case F11=>refine' bz KX G RO.CK ?a ?l ?c ?k;(case a=>k_is);(case l=>k_is);(case c=>k_is);(case k=>k_is)
  case F12=>refine' bz KX G RO.qk ?a ?l ?c ?k;(case a=>k_is);(case l=>k_is);(case c=>k_is);(case k=>k_is)
  case F13=>refine' bz KX G RO.oZ ?a ?l ?c ?k;(case a=>k_is);(case l=>k_is);(case c=>k_is);(case k=>k_is)
  case F14=>refine' bz KX G RO.pf ?a ?l ?c ?k;(case a=>k_is);(case l=>k_is);(case c=>k_is);(case k=>k_is)
  case F15=>refine' bz KX G RO.vL ?a ?l ?c ?k;(case a=>k_is);(case l=>k_is);(case c=>k_is);(case k=>k_is)
  case F16=>refine' bz KX G RO.Hy ?a ?l ?c ?k;(case a=>k_is);(case l=>k_is);(case c=>k_is);(case k=>k_is)
  case F17=>refine' bz KX G RO.uW ?a ?l ?c ?k;(case a=>k_is);(case l=>k_is);(case c=>k_is);(case k=>k_is)
  case F18=>refine' bz KX G RO.wg ?a ?l ?c ?k;(case a=>k_is);(case l=>k_is);(case c=>k_is);(case k=>k_is)
  case F19=>refine' bz KX G RO.wA ?a ?l ?c ?k;(case a=>k_is);(case l=>k_is);(case c=>k_is);(case k=>k_is)
  case F20=>refine' bz KX G RO.uK ?a ?l ?c ?k;(case a=>k_is);(case l=>k_is);(case c=>k_is);(case k=>k_is)
  case F21=>refine' bz KX G RO.sI ?a ?l ?c ?k;(case a=>k_is);(case l=>k_is);(case c=>k_is);(case k=>k_is)
  case F22=>refine' bz KX G RO.tw ?a ?l ?c ?k;(case a=>k_is);(case l=>k_is);(case c=>k_is);(case k=>k_is)
  case F23=>refine' bz KX G RO.vZ ?a ?l ?c ?k;(case a=>k_is);(case l=>k_is);(case c=>k_is);(case k=>k_is)
  case F24=>refine' bz KX G RO.nC ?a ?l ?c ?k;(case a=>k_is);(case l=>k_is);(case c=>k_is);(case k=>k_is)
  case F25=>refine' bz KX G RO.pW ?a ?l ?c ?k;(case a=>k_is);(case l=>k_is);(case c=>k_is);(case k=>k_is)
  case F26=>refine' bz KX G RO.rB ?a ?l ?c ?k;(case a=>k_is);(case l=>k_is);(case c=>k_is);(case k=>k_is)
  case F27=>refine' bz KX G RO.tY ?a ?l ?c ?k;(case a=>k_is);(case l=>k_is);(case c=>k_is);(case k=>k_is)
  case F28=>refine' bz KX G RO.uJ ?a ?l ?c ?k;(case a=>k_is);(case l=>k_is);(case c=>k_is);(case k=>k_is)
  case F29=>refine' bz KX G RO.wt ?a ?l ?c ?k;(case a=>k_is);(case l=>k_is);(case c=>k_is);(case k=>k_is)
  case F30=>refine' bz KX G RO.qc ?a ?l ?c ?k;(case a=>k_is);(case l=>k_is);(case c=>k_is);(case k=>k_is)
  case F31=>refine' bz KX G RO.tM ?a ?l ?c ?k;(case a=>k_is);(case l=>k_is);(case c=>k_is);(case k=>k_is)
  case F32=>refine' bz KX G RO.tQ ?a ?l ?c ?k;(case a=>k_is);(case l=>k_is);(case c=>k_is);(case k=>k_is)
  case F33=>refine' bz KX G RO.va ?a ?l ?c ?k;(case a=>k_is);(case l=>k_is);(case c=>k_is);(case k=>k_is)
  case a34=>k_is
  case l34=>k_is
  case c34=>k_is
  case k34=>k_is
  case zB=>kernel_rfl
  case yMOST_THINGS=>k_is
  case m0=>k_is
  case e0=>kernel_rfl

end
