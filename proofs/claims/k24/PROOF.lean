import PyProof.Rows.All
import Wide.All
import OpenK.AllK
import Wide.FinOn
import Lean
import PyProof.EqAt
import PyProof.EqKinds
import PyProof.TupleCall
import PySem.SetOps
import PyProof.SetKind
import PyProof.TupleKey
import PyProof.DictKinds
import PyProof.Rows.SetFrom
import PyProof.WalksMore
import PyProof.SetRoads
import KE.KSortTup
import PyProof.CollectWalk
import PyProof.Rows.FStr
import PyProof.Rows.StrWeight2
import PyProof.Rows.StrNews
import PyProof.StrLawsTight
import PyProof.ExcArgsOwn
import PyProof.Rows.CountFlat
import PyProof.Rows.SeqMore2
import PyProof.ExcBaseAll.ValueError
import PyProof.ZipIter
import PyProof.CallFns
import PyProof.Draws
import PyProof.EnumMake
import PyProof.Rows.SortWalk
import PySem.Challenge.RW_rowsorder_k24_rings_looked_at
set_option Elab.async false
set_option linter.all false
set_option maxRecDepth 100000
set_option maxHeartbeats 1000000
section
set_option Elab.async false
namespace L2
open PySem PySem.Spec PyProof.Rows
abbrev Key:=Sum Int Str
def keyIs:Key->Value->Bool
 | .inl k,v=>Value.isInt k v
 | .inr x,v=>Value.isStrOf x v
def keyH (w:World):Key->Int
 | .inl k=>hashInt k
 | .inr x=>hashStr w x
theorem keyIs_shape:∀{k:Key} {v:Value},keyIs k v=true->(∃i t,k=Sum.inl i/\v=Value.int i t)\/(∃x t,k=Sum.inr x/\v=Value.str x t)
 | .inl i,v,h=>by
  obtain⟨t,e⟩:=Value.isInt_shape (k:=i) (v:=v) h
  exact .inl ⟨i,t,rfl,e⟩
 | .inr x,v,h=>by
  obtain⟨t,e⟩:=Value.isStrOf_shape (x:=x) (v:=v) h
  exact .inr ⟨x,t,rfl,e⟩
theorem keyIs_int (i:Int)(t:Tok):keyIs (.inl i) (.int i t)=true:=by simp [keyIs,Value.isInt]
theorem keyIs_str (x:Str)(t:Tok):keyIs (.inr x) (.str x t)=true:=by simp [keyIs,Value.isStrOf]
theorem key_ll (a b:Int):decide ((Sum.inl a:Key)=Sum.inl b)=(a == b):=by
 by_cases e:a=b
 ·subst e;simp
 ·have h:¬(Sum.inl a:Key)=Sum.inl b:=fun q=>e (Sum.inl.inj q)
  rw [decide_eq_false h]
  exact (beq_eq_false_iff_ne.mpr e).symm
theorem key_rr (a b:Str):decide ((Sum.inr a:Key)=Sum.inr b)=decide (a=b):=by
 by_cases e:a=b
 ·subst e;simp
 ·have h:¬(Sum.inr a:Key)=Sum.inr b:=fun q=>e (Sum.inr.inj q)
  rw [decide_eq_false h,decide_eq_false e]
theorem key_lr (a:Int)(b:Str):decide ((Sum.inl a:Key)=Sum.inr b)=false:=decide_eq_false (fun q=>nomatch q)
theorem key_rl (a:Str)(b:Int):decide ((Sum.inr a:Key)=Sum.inl b)=false:=decide_eq_false (fun q=>nomatch q)
def mixKind (prog:Program)(w:World):PySem.KeyKind prog w Key where
 is:=keyIs
 hash:=keyH w
 inj:=fun v a b ha hb=>by
  rcases keyIs_shape ha with⟨i,t,rfl,rfl⟩ | ⟨x,t,rfl,rfl⟩
  ·rcases keyIs_shape hb with⟨j,u,rfl,e⟩ | ⟨y,u,rfl,e⟩
   ·injection e with e1 _;rw [e1]
   ·exact nomatch e
  ·rcases keyIs_shape hb with⟨j,u,rfl,e⟩ | ⟨y,u,rfl,e⟩
   ·exact nomatch e
   ·injection e with e1 _;rw [e1]
 byValue:=fun k v h=>by
  rcases keyIs_shape h with⟨i,t,rfl,rfl⟩ | ⟨x,t,rfl,rfl⟩ <;> rfl
 pyHash:=fun hv h=>by
  rcases keyIs_shape hv with⟨i,t,rfl,rfl⟩ | ⟨x,t,rfl,rfl⟩
  ·exact wpAny_pyHash_int h
  ·exact wpAny_pyHash_str h
 eqBool:=fun hu hv h=>by
  rcases keyIs_shape hu with⟨i,t,rfl,rfl⟩ | ⟨x,t,rfl,rfl⟩
  ·rcases keyIs_shape hv with⟨j,u,rfl,rfl⟩ | ⟨y,u,rfl,rfl⟩
   ·rw [key_ll] at h;exact wpAny_eqBool_int h
   ·rw [key_lr] at h;exact SeqAt.EqAt.int_str i t y u _ _ _ _ h
  ·rcases keyIs_shape hv with⟨j,u,rfl,rfl⟩ | ⟨y,u,rfl,rfl⟩
   ·rw [key_rl] at h;exact SeqAt.EqAt.str_int x t j u _ _ _ _ h
   ·rw [key_rr] at h;exact wpAny_eqBool_str h
 «strs»:=fun k x t v h=>by
  rcases keyIs_shape h with⟨i,u,rfl,e⟩ | ⟨y,u,rfl,e⟩
  ·exact nomatch e
  ·injection e with e1 _
   subst e1
   cases v <;> rfl
theorem mixKind_int (prog:Program)(w:World)(i:Int)(t:Tok):(mixKind prog w).is (.inl i) (.int i t)=true:=keyIs_int i t
theorem mixKind_str (prog:Program)(w:World)(x:Str)(t:Tok):(mixKind prog w).is (.inr x) (.str x t)=true:=keyIs_str x t
end L2
namespace L2
open PySem PySem.Spec PyProof.Rows
inductive V where
 |non |bl (b:Bool) |int (i:Int) |str (x:Str) |byt (b:Array UInt8) |flt (b:UInt64) |ref (a:Addr) |ty (n:String)
 deriving DecidableEq
def RelV:V->Value->Prop
 | .non,u=>u=Value.none
 | .bl b,u=>u=Value.bool b
 | .int i,u=>∃t,u=Value.int i t
 | .str x,u=>∃t,u=Value.str x t
 | .byt b,u=>∃t,u=Value.bytes b t
 | .flt b,u=>∃t,u=Value.float b t
 | .ref a,u=>u=Value.ref a
 | .ty n,u=>u=Value.type n
abbrev Vals:List V->List Value->Prop:=Paired RelV
theorem Vals.length {xs:List V}{us:List Value}(r:Vals xs us):xs.length=us.length:=Paired.length r
theorem Vals.get:∀{xs:List V} {us:List Value} {i:Nat} {x:V},Vals xs us->xs[i]? =some x->∃u,us[i]? =some u/\RelV x u
 |_,_,_,_,.nil,e=>by simp at e
 |_,_,0,_,.cons r _,e=>by simp at e;subst e;exact⟨_,rfl,r⟩
 |_,_,i + 1,x,.cons _ t,e=>by
  obtain⟨u,h1,h2⟩:=Vals.get (i:=i) (x:=x) t (by simpa using e)
  exact⟨u,by simpa using h1,h2⟩
theorem Vals.set {x:V}{u:Value}(r:RelV x u):∀{xs:List V} {us:List Value} (i:Nat),Vals xs us->Vals (xs.set i x) (us.set i u)
 |_,_,_,.nil=>.nil
 |_,_,0,.cons _ t=>.cons r t
 |_,_,i + 1,.cons q t=>.cons q (Vals.set r i t)
theorem Vals.append:∀{xs ys:List V} {us ws:List Value},Vals xs us->Vals ys ws->Vals (xs ++ ys) (us ++ ws)
 |_,_,_,_,.nil,s=>s
 |_,_,_,_,.cons r t,s=>.cons r (Vals.append t s)
theorem Vals.take:∀{xs:List V} {us:List Value} (n:Nat),Vals xs us->Vals (xs.take n) (us.take n)
 |_,_,0,_=>.nil
 |_,_,_ + 1,.nil=>.nil
 |_,_,n + 1,.cons r t=>.cons r (Vals.take n t)
theorem Vals.drop:∀{xs:List V} {us:List Value} (n:Nat),Vals xs us->Vals (xs.drop n) (us.drop n)
 |_,_,0,r=>r
 |_,_,_ + 1,.nil=>.nil
 |_,_,n + 1,.cons _ t=>Vals.drop n t
def RelO:Option V->Option Value->Prop
 |some v,some u=>RelV v u
 |none,none=>True
 |_,_=>False
def KV {κ:Type}:List (κ×V)->List (κ×Value)->Prop:=Paired fun (p:κ×V) (q:κ×Value)=>p.1=q.1/\RelV p.2 q.2
def kV:Key->V
 | .inl i=>.int i
 | .inr x=>.str x
inductive HO where
 |lst (xs:List V)
 |tup (xs:List V)
 |dK (kvs:List (Key×V)) |dT (kvs:List (List Key×V))
 |set (S:Int->Bool) (n:Nat)
 |ins (C dx:Addr) (fs:List (Str×V))
 |own (x:Addr)
 |xd (fs:List (Str×V))
 |met (f x:Addr)
 |rng (lo hi:Int)
 |frz (o:Obj) (u:HO)
 |tbl (ps:Array Value)
 |ext (φ:Heap->Prop)
abbrev Hp:=Addr->Option HO
def upd (H:Hp)(a:Addr)(o:HO):Hp:=fun b=>if b=a then some o else H b
theorem upd_same {H:Hp}{a:Addr}{o:HO}:upd H a o a=some o:=by unfold upd;rw [if_pos rfl]
theorem upd_ne {H:Hp}{a b:Addr}{o:HO}(h:b≠a):upd H a o b=H b:=by unfold upd;rw [if_neg h]
theorem upd_upd {H:Hp}{a:Addr}{o u:HO}:upd (upd H a o) a u=upd H a u:=by
 funext b;unfold upd;split <;> rfl
theorem ne_of {H:Hp}{a b:Addr}{o u:HO}(h:H a=some o)(h':H b=some u)(d:o≠u):a≠b:=by
 intro e;subst e;rw [h] at h';exact d (Option.some.inj h')
theorem ne_of_none {H:Hp}{a b:Addr}{o:HO}(h:H a=some o)(h':H b=none):a≠b:=by
 intro e;subst e;rw [h] at h';cases h'
section
variable (P:Program)(w:World)
def TupP (h:Heap)(a:Addr)(items:Array Value):Prop:=∃o,h.get? a=some o/\o.cls=.type "tuple"/\∃n,o.data=.seq items n/\o.dict=none
theorem TupP.isTup {h:Heap}{a:Addr}{items:Array Value}(x:TupP h a items):IsTup h a items:=let ⟨o,e,c,n,d,_⟩:=x;⟨o,e,c,n,d⟩
theorem TupP.new (h:Heap)(items:Array Value):TupP (h.push {cls:=.type "tuple",data:=.seq items}) h.objs.size items:=⟨_,Heap.get?_push_size _ rfl,rfl,_,rfl,rfl⟩
def ObjOk (H:Hp)(h:Heap)(a:Addr):HO->Prop
 | .lst xs=>xs.length<=sizeLine/\∃(its:List Value) (n:Nat),Vals xs its/\h.get? a=some {cls:=.type "list",data:=.seq its.toArray n}
 | .tup xs=>xs.length<=sizeLine/\∃its:List Value,Vals xs its/\TupP h a its.toArray
 | .dK kvs=>kvs.length<=sizeLine/\(a == sysModules)=false/\∃vs,KV kvs vs/\h.DictOf (mixKind P w) a vs
 | .dT kvs=>kvs.length<=sizeLine/\(a == sysModules)=false/\∃xs:List (List Key×Addr×Value),
   Paired (fun (p:List Key×V) (q:List Key×Addr×Value)=>p.1=q.1/\H q.2.1=some (.tup (p.1.map kV))/\RelV p.2 q.2.2) kvs xs/\
   ∃o es ep,h.get? a=some o/\o.ExactDict/\o.data=.dict es ep/\es.toList=xs.map (entryOfKey (tupleKind (mixKind P w)))/\(xs.map (·.1)).Nodup
 | .set S n=>h.SetOf (intKind P w) a S n
 | .ins C dx fs=>H dx=some (.own a)/\fs.length<=1000/\dx≠a/\h.get? a=some (PySem.W.instObj C dx)/\
   ∃mA,h.Ns1 dx mA/\(∀f,RelO (fs.lookup f) (mA f))/\PySem.Within mA (fs.map (·.1))
 | .own _=>∃o,h.get? a=some o
 | .xd fs=>∃mA,h.Ns1 a mA/\∀f,RelO (fs.lookup f) (mA f)
 | .rng lo hi=>∃t u v,h.get? a=some {cls:=.type "range",data:=.fields #[.int lo t,.int hi u,.int 1 v]}
 | .frz o u=>h.get? a=some o/\ObjOk H h a u
 | .tbl ps=>h.get? a=some {cls:=.none,data:=.fields ps}
 | .met f x=>h.get? a=some (PySem.W.methodObj (.ref f) (.ref x))
 | .ext φ=>φ h/\(∃o,h.get? a=some o)/\∀h1 h2:Heap,φ h1->(∀o,h1.get? a=some o->h2.get? a=some o)->φ h2
def HOk (H:Hp)(h:Heap):Prop:=∀a o,H a=some o->ObjOk P w H h a o
end
section
variable {P:Program}{w:World}{H H':Hp}{h h':Heap}{a:Addr}{o:HO}
theorem ObjOk.lt (x:ObjOk P w H h a o):a < h.objs.size:=by
 cases o with
 |lst xs=>obtain⟨_,_,_,_,e⟩:=x;exact Heap.lt_size e
 |tup xs=>obtain⟨_,_,_,p⟩:=x;exact p.isTup.lt
 |dK kvs=>obtain⟨_,_,_,_,o,_,_,e,_⟩:=x;exact Heap.lt_size e
 |dT kvs=>obtain⟨_,_,_,_,o,_,_,e,_⟩:=x;exact Heap.lt_size e
 |set S n=>obtain⟨o,_,_,_,e,_⟩:=x;exact Heap.lt_size e
 |ins C dx fs=>obtain⟨_,_,_,e,_⟩:=x;exact Heap.lt_size e
 |own y=>obtain⟨_,e⟩:=x;exact Heap.lt_size e
 |xd fs=>obtain⟨_,⟨_,_,_,e,_⟩,_⟩:=x;exact Heap.lt_size e
 |rng lo hi=>obtain⟨_,_,_,e⟩:=x;exact Heap.lt_size e
 |frz ob u=>obtain⟨e,_⟩:=x;exact Heap.lt_size e
 |tbl ps=>exact Heap.lt_size (show h.get? a=some _ from x)
 |met f y=>exact Heap.lt_size (show h.get? a=some _ from x)
 |ext φ=>obtain⟨_,⟨_,e⟩,_⟩:=x;exact Heap.lt_size e
theorem Paired.mapP {α β:Type}{F G:α->β->Prop}:∀{l₁:List α} {l₂:List β},Paired F l₁ l₂->(∀a b,F a b->G a b)->Paired G l₁ l₂
 |_,_,.nil,_=>.nil
 |_,_,.cons r t,f=>.cons (f _ _ r) (Paired.mapP t f)
theorem ObjOk.stay (x:ObjOk P w H h a o)(k:∀b u,(b=a\/H b=some (.own a))->h.get? b=some u->h'.get? b=some u)
  (ho:∀b,H b=some (.own a)->H' b=some (.own a)) (ht:∀b xs,H b=some (.tup xs)->H' b=some (.tup xs)):ObjOk P w H' h' a o:=by
 induction o with
 |lst xs=>obtain⟨z,its,n,r,e⟩:=x;exact⟨z,its,n,r,k _ _ (.inl rfl) e⟩
 |tup xs=>obtain⟨z,its,r,ob,e,c⟩:=x;exact⟨z,its,r,ob,k _ _ (.inl rfl) e,c⟩
 |dK kvs=>obtain⟨z,y,vs,r,ob,es,ep,e,c⟩:=x;exact⟨z,y,vs,r,ob,es,ep,k _ _ (.inl rfl) e,c⟩
 |dT kvs=>
  obtain⟨z,y,xs,r,ob,es,ep,e,c⟩:=x
  exact⟨z,y,xs,Paired.mapP r fun p q z=>⟨z.1,ht _ _ z.2.1,z.2.2⟩,ob,es,ep,k _ _ (.inl rfl) e,c⟩
 |set S n=>obtain⟨ob,es,ep,t,e,c⟩:=x;exact⟨ob,es,ep,t,k _ _ (.inl rfl) e,c⟩
 |ins C dx fs=>
  obtain⟨d,z,ne,e,mA,⟨od,es,ep,e2,c⟩,r⟩:=x
  exact⟨ho _ d,z,ne,k _ _ (.inl rfl) e,mA,⟨od,es,ep,k _ _ (.inr d) e2,c⟩,r⟩
 |own y=>obtain⟨ob,e⟩:=x;exact⟨ob,k _ _ (.inl rfl) e⟩
 |xd fs=>obtain⟨mA,⟨od,es,ep,e,c⟩,r⟩:=x;exact⟨mA,⟨od,es,ep,k _ _ (.inl rfl) e,c⟩,r⟩
 |rng lo hi=>obtain⟨t,u,v,e⟩:=x;exact⟨t,u,v,k _ _ (.inl rfl) e⟩
 |frz ob u ih=>obtain⟨e,q⟩:=x;exact⟨k _ _ (.inl rfl) e,ih q⟩
 |tbl ps=>
  have e:h.get? a=some {cls:=.none,data:=.fields ps}:=x
  show h'.get? a=some {cls:=.none,data:=.fields ps}
  exact k a _ (.inl rfl) e
 |met f y=>
  have e:h.get? a=some (PySem.W.methodObj (.ref f) (.ref y)):=x
  show h'.get? a=some (PySem.W.methodObj (.ref f) (.ref y))
  exact k a _ (.inl rfl) e
 |ext φ=>obtain⟨p,⟨o,e⟩,st⟩:=x;exact⟨st _ _ p fun o q=>k _ _ (.inl rfl) q,⟨o,k _ _ (.inl rfl) e⟩,st⟩
theorem HOk.lt (x:HOk P w H h)(e:H a=some o):a < h.objs.size:=(x a o e).lt
theorem HOk.fresh (x:HOk P w H h)(e:h.objs.size<=a):H a=none:=by
 cases q:H a with
 |none=>rfl
 |some u=>exact absurd (Nat.lt_of_lt_of_le (x.lt q) e) (Nat.lt_irrefl _)
theorem HOk.kept (x:HOk P w H h)(k:∀b u,h.get? b=some u->h'.get? b=some u):HOk P w H h':=fun a o e=>
 (x a o e).stay (fun b u _ q=>k b u q) (fun _ q=>q) fun _ _ q=>q
theorem HOk.laid (x:HOk P w H h)(k:∀b u,h.get? b=some u->h'.get? b=some u)(hp:h.objs.size<=a)(new:ObjOk P w (upd H a o) h' a o):HOk P w (upd H a o) h':=fun b u e=>by
 have hn:=x.fresh hp
 by_cases hb:b=a
 ·subst hb;rw [upd_same] at e;cases e;exact new
 ·rw [upd_ne hb] at e
  exact (x b u e).stay (fun c v _ q=>k c v q) (fun c q=>by rw [upd_ne (ne_of_none q hn)];exact q) fun c xs q=>by rw [upd_ne (ne_of_none q hn)];exact q
end
def Rd (H:Hp)(a:Addr)(u:HO):Prop:=H a=some u\/∃o,H a=some (.frz o u)
theorem Rd.ok {P:Program}{w:World}{H:Hp}{h:Heap}{a:Addr}{u:HO}(r:Rd H a u)(x:HOk P w H h):ObjOk P w H h a u:=by
 rcases r with r | ⟨o,r⟩
 ·exact x a u r
 ·obtain⟨_,q⟩:=x a _ r
  exact q
def Mut:Option HO->Prop
 |some (.lst _)=>True
 |some (.dK _)=>True
 |some (.dT _)=>True
 |some (.set _ _)=>True
 |some (.ins _ _ _)=>True
 |some (.ext _)=>True
 |_=>False
section
variable {P:Program}{w:World}{H:Hp}{h h':Heap}{x e:Addr}{o':HO}
theorem HOk.write (ok:HOk P w H h)(mu:Mut (H x))(he:e=x\/H e=some (.own x))(k:∀b u,b≠e->h.get? b=some u->h'.get? b=some u)(heo:∃u,h'.get? e=some u)
  (new:ObjOk P w (upd H x o') h' x o'):HOk P w (upd H x o') h':=fun b u q=>by
 have nown:∀c y,H c=some (.own y)->c≠x:=fun c y r z=>by subst z;rw [r] at mu;exact mu
 have ntup:∀c xs,H c=some (.tup xs)->c≠x:=fun c xs r z=>by subst z;rw [r] at mu;exact mu
 by_cases hb:b=x
 ·subst hb;rw [upd_same] at q;cases q;exact new
 ·rw [upd_ne hb] at q
  by_cases hbe:b=e
  ·have q':H b=some (.own x):=by
    rcases he with z |z
    ·exact absurd (hbe.trans z) hb
    ·rw [hbe];exact z
   rw [q] at q';cases q'
   obtain⟨v,hv⟩:=heo
   exact⟨v,by rw [hbe];exact hv⟩
  ·refine (ok b u q).stay (fun c v hc r=>k c v ?_ r) (fun c r=>by rw [upd_ne (nown c b r)];exact r) fun c xs r=>by rw [upd_ne (ntup c xs r)];exact r
   rcases hc with rfl |hc
   ·exact hbe
   ·rintro rfl
    rcases he with z |z
    ·exact nown c b hc z
    ·rw [hc] at z;cases z;exact hb rfl
end
structure Un (fs ex:List Addr)(H H':Hp)(h h':Heap):Prop where
 keep:∀b o,h.get? b=some o->H b=none->b∉fs->b∉ex->h'.get? b=some o
 slot:∀b o,h.get? b=some o->H b=none->b∈fs->b∉ex->∃sl,h'.get? b=some {o with slots:=sl}
 free:∀b o,h.get? b=some o->H b=none->b∉ex->H' b=none
 there:∀b o,h.get? b=some o->b∉ex->∃o',h'.get? b=some o'
 tups:∀b xs,H b=some (.tup xs)->H' b=some (.tup xs)
 frzs:∀b o u,H b=some (.frz o u)->H' b=some (.frz o u)
 tbls:∀b ps,H b=some (.tbl ps)->∃more,H' b=some (.tbl (ps ++ more))
section
variable {fs fs' ex ex':List Addr}{H H1 H2:Hp}{h h1 h2 h':Heap}{a x e:Addr}{o:HO}
theorem Un.any (u:Un fs ex H H1 h h1){b:Addr}{ob:Obj}(q:h.get? b=some ob)(n:H b=none)(hx:b∉ex):∃sl,h1.get? b=some {ob with slots:=sl}:=by
 by_cases hb:b∈fs
 ·exact u.slot b ob q n hb hx
 ·exact⟨ob.slots,u.keep b ob q n hb hx⟩
theorem Un.kept (k:∀b u,h.get? b=some u->h'.get? b=some u):Un fs ex H H h h':=
 ⟨fun b ob q _ _ _=>k b ob q,fun b ob q _ _ _=>⟨ob.slots,k b ob q⟩,fun _ _ _ n _=>n,fun b ob q _=>⟨ob,k b ob q⟩,fun _ _ q=>q,fun _ _ _ q=>q,fun _ ps q=>⟨#[],by rw [q];simp⟩⟩
theorem Un.refl:Un fs ex H H h h:=Un.kept fun _ _ q=>q
theorem Un.laid (k:∀b u,h.get? b=some u->h'.get? b=some u)(hp:h.objs.size<=a)(hn:H a=none):Un fs ex H (upd H a o) h h' where
 keep:=fun b u q _ _ _=>k b u q
 slot:=fun b u q _ _ _=>⟨u.slots,k b u q⟩
 free:=fun b u q n _=>by rw [upd_ne (Nat.ne_of_lt (Nat.lt_of_lt_of_le (Heap.lt_size q) hp))];exact n
 there:=fun b u q _=>⟨u,k b u q⟩
 tups:=fun b xs q=>by rw [upd_ne (ne_of_none q hn)];exact q
 frzs:=fun b u xs q=>by rw [upd_ne (ne_of_none q hn)];exact q
 tbls:=fun b ps q=>⟨#[],by rw [upd_ne (ne_of_none q hn),q];simp⟩
theorem Un.write (mu:Mut (H x))(he:e=x\/H e=some (.own x))(k:∀b u,b≠e->h.get? b=some u->h'.get? b=some u)(heo:∃u,h'.get? e=some u):Un fs ex H (upd H x o) h h':=by
 have hx:∀b,H b=none->b≠x:=fun b n z=>by subst z;rw [n] at mu;exact mu
 have hb:∀b,H b=none->b≠e:=fun b n z=>by
  subst z
  rcases he with r |r
  ·exact hx b n r
  ·rw [n] at r;cases r
 have hm:∀b u,H b=some u->¬Mut (some u)->b≠x:=fun b u q nm z=>by subst z;rw [q] at mu;exact nm mu
 refine⟨fun b u q n _ _=>k b u (hb b n) q,fun b u q n _ _=>⟨u.slots,k b u (hb b n) q⟩,fun b u q n _=>by rw [upd_ne (hx b n)];exact n,fun b u q _=>?_,
  fun b xs q=>by rw [upd_ne (hm b _ q fun z=>z)];exact q,fun b u xs q=>by rw [upd_ne (hm b _ q fun z=>z)];exact q,fun b ps q=>⟨#[],by rw [upd_ne (hm b _ q fun z=>z),q];simp⟩⟩
 by_cases hbe:b=e
 ·subst hbe;exact heo
 ·exact⟨u,k b u hbe q⟩
end
def trk (h:Heap)(H:Hp):List Addr:=(List.range h.objs.size).filter fun a=>(H a).isSome
def hidT (h:Heap)(H:Hp):Heap:=PySem.W.hideAll h (trk h H)
theorem hidT_size (h:Heap)(H:Hp):(hidT h H).objs.size=h.objs.size:=PySem.W.hideAll_size _ _
theorem hidT_get {h:Heap}{H:Hp}{b:Addr}{o:Obj}(e:h.get? b=some o)(n:H b=none):(hidT h H).get? b=some o:=
 PySem.W.hideAll_get _ e fun hm=>by
  have q:(H b).isSome=true:=(List.mem_filter.mp hm).2
  rw [n] at q;simp at q
theorem of_hidT {h:Heap}{H:Hp}{b:Addr}{o:Obj}(e:(hidT h H).get? b=some o):h.get? b=some o/\H b=none:=by
 have e':h.get? b=some o:=PySem.W.of_hideAll (trk h H) e
 refine⟨e',?_⟩
 cases q:H b with
 |none=>rfl
 |some x=>
  have hm:b∈trk h H:=List.mem_filter.mpr ⟨List.mem_range.mpr (Heap.lt_size e'),by simp [q]⟩
  have z:(hidT h H).get? b=none:=PySem.W.hideAll_none (trk h H) hm
  rw [z] at e;cases e
def allNews (g h:Heap)(L:Addr):List (Addr×Obj):=(List.range h.objs.size).filterMap fun a=>if a=L\/(g.get? a).isSome=true then none else (h.get? a).map fun o=>(a,o)
def rest (g h:Heap)(L d:Addr):List (Addr×Obj):=(allNews g h L).filter fun p=>decide (p.1≠d)
end L2
namespace L2
open PySem PySem.Spec PyProof.Rows
structure Mod (K:PySem.W.Frag)(mg:Str->Option Value)(base:Heap):Prop where
 kin:K.In base
 glob:base.Ns mainGlobals mg
 blt:∃mb,base.Ns builtinsNs mb/\∀x:Str,x≠"__name__"->mb x=bootBuiltins x
 nolimit:base.NoLimit
 sys:∃mm,base.Ns sysModules mm
structure Cx where
 prog:Program
 w:World
 K:PySem.W.Frag
 mg:Str->Option Value
 base:Heap
 A:Around
 N:List Str
 s₀:Shared
 H₀:Hp
 env:Env
 outer:List Env
 stack:List Env
 ex:List Addr
 fn:Str->Bool
 calm:Bool
 pn:List (Addr×Obj)
 xe:Value->Shared->Prop
def frs (l:List Env):List Addr:=l.filterMap (·.frame)
abbrev Cx.fs (X:Cx):List Addr:=frs X.outer
def Vis (sc:Scope)(x:Str):Prop:=sc.names.lookup x=some .local\/sc.names.lookup x=some .cell\/sc.names.lookup x=some .free
def Loc (sc:Scope)(x:Str):Prop:=sc.names.lookup x=some .local\/sc.names.lookup x=some .cell
def Look (env:Env)(h:Heap)(m:Str->Option Value)(x:Str)(u:Value):Prop:=
 (env.kindOf x=some .local/\m x=some u)\/((env.kindOf x=some .cell\/env.kindOf x=some .free)/\∃c,env.cells.lookup x=some c/\h.IsCell c (some u))
structure Cx.Ok (X:Cx):Prop where
 mod:Mod X.K X.mg X.base
 kind:X.env.scope.kind=.function
 glob:X.env.globals=mainGlobals
 blt:X.env.builtins=builtinsNs
 above:X.s₀.heap.objs.size<=X.env.locals
 inj:∀x y c,X.env.cells.lookup x=some c->X.env.cells.lookup y=some c->x=y
 has:∀x,(X.env.kindOf x=some .cell\/X.env.kindOf x=some .free)->∃c,X.env.cells.lookup x=some c
 cab:∀x c,X.fn x=true->X.env.cells.lookup x=some c->X.s₀.heap.objs.size<=c
 hd:X.calm=true->X.A.handled=none
 frames:X.A.frames=some X.stack
 stk:X.stack=X.outer\/(X.stack=X.env :: X.outer/\X.env.frame=some X.env.locals)
 exf:∀b∈X.ex,b≠X.env.locals/\∀x c,X.env.cells.lookup x=some c->c≠b
 bs:∀b o,X.base.get? b=some o->X.s₀.heap.get? b=some o/\X.H₀ b=none
 bsz:X.base.objs.size<=X.s₀.heap.objs.size
 noex:∀b o,X.base.get? b=some o->b∉X.ex
 exfs:∀b∈X.ex,b∉X.fs
 funs:X.s₀.heap.FunFrames X.base X.outer
 frf:∀b∈X.fs,X.H₀ b=none
structure Inv (X:Cx)(pins:List (Addr×Obj))(σ:List (Option V))(H:Hp)(s:Shared):Prop where
 ok:X.Ok
 os:s.os=X.s₀.os
 bare:AllBare s.gens
 base:Un X.fs X.ex X.H₀ H X.s₀.heap s.heap
 loc:∃m,s.heap.Ns X.env.locals m/\∀(i:Nat) (x:Str) (v:V),X.N[i]? =some x->σ[i]? =some (some v)->Vis X.env.scope x->∃u,RelV v u/\Look X.env s.heap m x u
 cell:∀x c,X.env.cells.lookup x=some c->∃v,s.heap.IsCell c v
 free:H X.env.locals=none
 freeC:∀x c,X.env.cells.lookup x=some c->H c=none
 pin:∀p∈X.pn ++ pins,s.heap.get? p.1=some p.2/\H p.1=none/\p.1≠X.env.locals/\p.1∉X.fs/\∀v,p.2.data≠.cell v
 hok:HOk X.prog X.w H s.heap
 len:σ.length=X.N.length
section
variable {X:Cx}{pins:List (Addr×Obj)}{σ:List (Option V)}{H H':Hp}{s:Shared}{h':Heap}
theorem Cx.Ok.nofr (ok:X.Ok){b:Addr}{o:Obj}(e:X.base.get? b=some o):b∉X.fs:=fun hb=>by
 have:=(ok.funs.mem hb).1
 rw [e] at this;cases this
theorem Inv.bs (I:Inv X pins σ H s):∀b o,X.base.get? b=some o->s.heap.get? b=some o/\H b=none:=fun b o e=>
 ⟨I.base.keep b o (I.ok.bs b o e).1 (I.ok.bs b o e).2 (I.ok.nofr e) (I.ok.noex b o e),I.base.free b o (I.ok.bs b o e).1 (I.ok.bs b o e).2 (I.ok.noex b o e)⟩
theorem Inv.bk (I:Inv X pins σ H s):∀b o,X.base.get? b=some o->s.heap.get? b=some o:=fun b o e=>(I.bs b o e).1
theorem Inv.mod (I:Inv X pins σ H s):Mod X.K X.mg X.base:=I.ok.mod
theorem Inv.kIn (I:Inv X pins σ H s):X.K.In s.heap:=I.ok.mod.kin.keeps I.bk
theorem Inv.lt (I:Inv X pins σ H s):X.env.locals < s.heap.objs.size:=let ⟨_,hn,_⟩:=I.loc;hn.lt
theorem Inv.sz (I:Inv X pins σ H s):X.s₀.heap.objs.size<=s.heap.objs.size:=Nat.le_trans I.ok.above (Nat.le_of_lt I.lt)
theorem Inv.nofs (I:Inv X pins σ H s){a:Addr}(h:s.heap.objs.size<=a):a∉X.fs:=fun hb=>by
 obtain⟨_,o,ho,_⟩:=I.ok.funs.mem hb
 exact absurd (Nat.lt_of_lt_of_le (Heap.lt_size ho) (Nat.le_trans I.sz h)) (Nat.lt_irrefl _)
theorem Inv.cne (I:Inv X pins σ H s):∀x c,X.env.cells.lookup x=some c->c≠X.env.locals:=fun x c e z=>by
 obtain⟨v,o,ho,hd⟩:=I.cell x c e
 obtain⟨m,⟨o',es,ep,ho',hd',_⟩,_⟩:=I.loc
 rw [z,ho'] at ho;cases ho;rw [hd'] at hd;cases hd
theorem Inv.funs (I:Inv X pins σ H s):s.heap.FunFrames X.base X.outer:=by
 have all:∀(l:List Env),(∀b∈frs l,b∈X.fs)->X.s₀.heap.FunFrames X.base l->s.heap.FunFrames X.base l:=by
  intro l
  induction l with
  |nil=>intro _ _;trivial
  |cons env r ih=>
   intro hs hl
   obtain⟨hk,⟨L,o,hf,hn,ho,hd⟩,hr⟩:=hl
   have hL:L∈X.fs:=hs L (by unfold frs;rw [List.filterMap_cons,hf];exact List.mem_cons_self)
   obtain⟨sl,e⟩:=I.base.slot L o ho (I.ok.frf L hL) hL fun z=>I.ok.exfs L z hL
   exact⟨hk,⟨L,_,hf,hn,e,hd⟩,ih (fun b hb=>hs b (by unfold frs;rw [List.filterMap_cons,hf];exact List.mem_cons_of_mem _ hb)) hr⟩
 exact all X.outer (fun _ hb=>hb) I.ok.funs
theorem Inv.stack (I:Inv X pins σ H s):s.heap.FunFrames X.base X.stack:=by
 rcases I.ok.stk with e | ⟨e,hf⟩
 ·rw [e];exact I.funs
 ·rw [e]
  obtain⟨m,hn,_⟩:=I.loc
  refine .cons (by rw [I.ok.kind];decide) hf hn ?_ I.funs
  exact Heap.get?_none_of_le (Nat.le_trans I.ok.bsz I.ok.above)
theorem Inv.stkSub (I:Inv X pins σ H s):∀b∈frs X.stack,b∈X.env.locals :: X.fs:=fun b hb=>by
 rcases I.ok.stk with e | ⟨e,hf⟩
 ·rw [e] at hb;exact List.mem_cons_of_mem _ hb
 ·rw [e] at hb
  unfold frs at hb
  rw [List.filterMap_cons,hf] at hb
  exact hb
theorem Inv.stkFree (I:Inv X pins σ H s):∀b∈frs X.stack,H b=none:=fun b hb=>by
 rcases List.mem_cons.mp (I.stkSub b hb) with e |hb
 ·rw [e];exact I.free
 ·obtain⟨_,o,ho,_⟩:=I.ok.funs.mem hb
  exact I.base.free b o ho (I.ok.frf b hb) fun z=>I.ok.exfs b z hb
theorem Inv.step {g':Array GenState}{t':Nat}{d':Drawn}{ch:List Addr}(I:Inv X pins σ H s)
  (hch:∀b∈ch,(b∈X.ex\/X.s₀.heap.objs.size<=b)/\b≠X.env.locals/\(∀x c,X.env.cells.lookup x=some c->c≠b)/\∀p∈X.pn ++ pins,p.1≠b)
  (keep:∀b o,b≠X.env.locals->b∉X.fs->b∉ch->s.heap.get? b=some o->H b=none->h'.get? b=some o)
  (slot:∀b o,b≠X.env.locals->b∈X.fs->b∉ch->s.heap.get? b=some o->H b=none->∃sl,h'.get? b=some {o with slots:=sl}) (free:∀b o,b∉ch->s.heap.get? b=some o->H b=none->H' b=none)
  (there:∀b o,b∉ch->s.heap.get? b=some o->∃o',h'.get? b=some o')
  (tups:∀b xs,H b=some (.tup xs)->H' b=some (.tup xs)) (frzs:∀b o u,H b=some (.frz o u)->H' b=some (.frz o u)) (tbls:∀b ps,H b=some (.tbl ps)->∃more,H' b=some (.tbl (ps ++ more)))
  (ns:∀m,s.heap.Ns X.env.locals m->h'.Ns X.env.locals m) (hok:HOk X.prog X.w H' h') (hg:AllBare g') :
  Inv X pins σ H' {s with heap:=h',gens:=g',drawn:=d',toks:=t'}:=by
 have neL:∀b o,X.s₀.heap.get? b=some o->b≠X.env.locals:=fun b o e=>Nat.ne_of_lt (Nat.lt_of_lt_of_le (Heap.lt_size e) I.ok.above)
 have neC:∀b o,X.s₀.heap.get? b=some o->b∉X.ex->b∉ch:=fun b o e hx hb=>by
  rcases (hch b hb).1 with z |z
  ·exact hx z
  ·exact absurd (Nat.lt_of_lt_of_le (Heap.lt_size e) z) (Nat.lt_irrefl _)
 have cellK:∀x c,X.env.cells.lookup x=some c->∀v,s.heap.IsCell c v->h'.IsCell c v:=fun x c e v ⟨o,ho,hd⟩=>by
  have nch:c∉ch:=fun z=>(hch c z).2.2.1 x c e rfl
  by_cases hc:c∈X.fs
  ·obtain⟨sl,q⟩:=slot c o (I.cne x c e) hc nch ho (I.freeC x c e)
   exact⟨_,q,hd⟩
  ·exact⟨o,keep c o (I.cne x c e) hc nch ho (I.freeC x c e),hd⟩
 refine⟨I.ok,I.os,hg,⟨fun b o e n hb hx=>?_,fun b o e n hb hx=>?_,fun b o e n hx=>?_,fun b o e hx=>?_,fun b xs e=>tups b xs (I.base.tups b xs e),fun b o xs e=>frzs b o xs (I.base.frzs b o xs e),fun b ps e=>?_⟩,?_,fun x c e=>?_,?_,fun x c e=>?_,fun p hp=>?_,hok,I.len⟩
 ·exact keep b o (neL b o e) hb (neC b o e hx) (I.base.keep b o e n hb hx) (I.base.free b o e n hx)
 ·obtain⟨sl,e1⟩:=I.base.slot b o e n hb hx
  obtain⟨sl',e2⟩:=slot b _ (neL b o e) hb (neC b o e hx) e1 (I.base.free b o e n hx)
  exact⟨sl',e2⟩
 ·obtain⟨o',e1⟩:=I.base.there b o e hx
  exact free b o' (neC b o e hx) e1 (I.base.free b o e n hx)
 ·obtain⟨o',e1⟩:=I.base.there b o e hx
  exact there b o' (neC b o e hx) e1
 ·obtain⟨m1,e1⟩:=I.base.tbls b ps e
  obtain⟨m2,e2⟩:=tbls b _ e1
  exact⟨m1 ++ m2,by rw [e2,Array.append_assoc]⟩
 ·obtain⟨m,hn,hl⟩:=I.loc
  refine⟨m,ns m hn,fun i x v e1 e2 e3=>?_⟩
  obtain⟨u,r,l⟩:=hl i x v e1 e2 e3
  refine⟨u,r,?_⟩
  rcases l with l | ⟨k,c,e,z⟩
  ·exact .inl l
  ·exact .inr ⟨k,c,e,cellK x c e _ z⟩
 ·obtain⟨v,z⟩:=I.cell x c e
  exact⟨v,cellK x c e v z⟩
 ·obtain⟨m,⟨o,_,_,ho,_⟩,_⟩:=I.loc
  exact free _ o (fun z=>(hch _ z).2.1 rfl) ho I.free
 ·obtain⟨v,o,ho,hd⟩:=I.cell x c e
  exact free c o (fun z=>(hch c z).2.2.1 x c e rfl) ho (I.freeC x c e)
 ·obtain⟨e,n,ne,nf,d⟩:=I.pin p hp
  have nch:p.1∉ch:=fun z=>(hch p.1 z).2.2.2 p hp rfl
  exact⟨keep p.1 p.2 ne nf nch e n,free p.1 p.2 nch e n,ne,nf,d⟩
theorem Inv.un {t':Nat}(I:Inv X pins σ H s)(u:Un X.fs [] H H' s.heap h')(hok:HOk X.prog X.w H' h'):Inv X pins σ H' {s with heap:=h',toks:=t'}:=by
 obtain⟨m,⟨o,es,ep,ho,r⟩,_⟩:=id I.loc
 obtain⟨sl,hL⟩:=u.any ho I.free (by simp)
 exact I.step (g':=s.gens) (d':=s.drawn) (ch:=[]) (fun _ z=>nomatch z) (fun b o _ hb _ e n=>u.keep b o e n hb (by simp)) (fun b o _ hb _ e n=>u.slot b o e n hb (by simp)) (fun b o _ e n=>u.free b o e n (by simp)) (fun b o _ e=>u.there b o e (by simp)) u.tups u.frzs u.tbls (fun m' hm=>by
  obtain⟨o',es',ep',ho',r'⟩:=hm
  rw [ho] at ho';cases ho'
  exact⟨_,es',ep',hL,r'⟩) hok I.bare
theorem Inv.call {g':Array GenState}{t':Nat}{d':Drawn}{ch:List Addr}(I:Inv X pins σ H s)(u:Un (frs X.stack) ch H H' s.heap h')(hok:HOk X.prog X.w H' h')(hg:AllBare g')
  (hch:∀b∈ch,(b∈X.ex\/X.s₀.heap.objs.size<=b)/\b≠X.env.locals/\(∀x c,X.env.cells.lookup x=some c->c≠b)/\∀p∈X.pn ++ pins,p.1≠b) :
  Inv X pins σ H' {s with heap:=h',gens:=g',drawn:=d',toks:=t'}:=by
 obtain⟨m,⟨o,es,ep,ho,r⟩,_⟩:=id I.loc
 obtain⟨sl,hL⟩:=u.any ho I.free fun z=>(hch _ z).2.1 rfl
 exact I.step (ch:=ch) hch (fun b o hL hb hc e n=>u.keep b o e n (fun z=>(List.mem_cons.mp (I.stkSub b z)).elim hL hb) hc) (fun b o _ _ hc e n=>u.any e n hc) (fun b o hc e n=>u.free b o e n hc) (fun b o hc e=>u.there b o e hc) u.tups u.frzs u.tbls (fun m' hm=>by
  obtain⟨o',es',ep',ho',r'⟩:=hm
  rw [ho] at ho';cases ho'
  exact⟨_,es',ep',hL,r'⟩) hok hg
theorem Inv.turned {t':Nat}{it:Addr}(I:Inv X pins σ H s)(k:∀b o,b≠it->s.heap.get? b=some o->h'.get? b=some o)(hn:H it=none)(hL:it≠X.env.locals)
  (h1:it∈X.ex\/X.s₀.heap.objs.size<=it) (h2:∀x c,X.env.cells.lookup x=some c->c≠it) (h3:∀p∈X.pn ++ pins,p.1≠it):Inv X pins σ H {s with heap:=h',toks:=t'}:=by
 have nit:∀b u,H b=some u->b≠it:=fun b u e z=>by rw [z,hn] at e;cases e
 refine I.step (g':=s.gens) (d':=s.drawn) (ch:=[it]) (fun b hb=>?_) (fun b o _ _ hc e _=>k b o (fun z=>hc (by simp [z])) e) (fun b o _ _ hc e _=>⟨o.slots,k b o (fun z=>hc (by simp [z])) e⟩) (fun _ _ _ _ n=>n)
  (fun b o hc e=>⟨o,k b o (fun z=>hc (by simp [z])) e⟩) (fun _ _ e=>e) (fun _ _ _ e=>e) (fun b ps e=>⟨#[],by rw [e];simp⟩) (fun m hm=>?_) (fun b u e=>?_) I.bare
 ·have e:b=it:=by simpa using hb
  subst e
  exact⟨h1,hL,h2,h3⟩
 ·obtain⟨o,es,ep,ho,r⟩:=hm
  exact⟨o,es,ep,k _ o (Ne.symm hL) ho,r⟩
 ·refine (I.hok b u e).stay (fun c v hc q=>k c v ?_ q) (fun _ q=>q) fun _ _ q=>q
  rcases hc with z |z
  ·rw [z];exact nit b u e
  ·exact nit c _ z
theorem Inv.tok (I:Inv X pins σ H s)(t:Nat):Inv X pins σ H {s with toks:=t}:=I.un (h':=s.heap) (t':=t) Un.refl I.hok
theorem Inv.kept {t':Nat}(I:Inv X pins σ H s)(k:∀b u,s.heap.get? b=some u->h'.get? b=some u):Inv X pins σ H {s with heap:=h',toks:=t'}:=I.un (Un.kept k) (I.hok.kept k)
theorem Inv.laid {a:Addr}{o:HO}{t':Nat}(I:Inv X pins σ H s)(k:∀b u,s.heap.get? b=some u->h'.get? b=some u)(hp:s.heap.objs.size<=a)(new:ObjOk X.prog X.w (upd H a o) h' a o) :
  Inv X pins σ (upd H a o) {s with heap:=h',toks:=t'}:=I.un (Un.laid k hp (I.hok.fresh hp)) (I.hok.laid k hp new)
theorem Inv.write {x e:Addr}{o:HO}{t':Nat}(I:Inv X pins σ H s)(mu:Mut (H x))(he:e=x\/H e=some (.own x))(k:∀b u,b≠e->s.heap.get? b=some u->h'.get? b=some u)(heo:∃u,h'.get? e=some u)
  (new:ObjOk X.prog X.w (upd H x o) h' x o):Inv X pins σ (upd H x o) {s with heap:=h',toks:=t'}:=I.un (Un.write mu he k heo) (I.hok.write mu he k heo new)
theorem Inv.pins_of {pins':List (Addr×Obj)}(I:Inv X pins σ H s)(h:∀p∈pins',s.heap.get? p.1=some p.2/\H p.1=none/\p.1≠X.env.locals/\p.1∉X.fs/\∀v,p.2.data≠.cell v):Inv X pins' σ H s:=
 ⟨I.ok,I.os,I.bare,I.base,I.loc,I.cell,I.free,I.freeC,fun p hp=>(List.mem_append.mp hp).elim (fun z=>I.pin p (List.mem_append_left _ z)) (h p),I.hok,I.len⟩
theorem nodup_ix {N:List Str}(hN:N.Nodup){i j:Nat}{x:Str}(a:N[i]? =some x)(b:N[j]? =some x):i=j:=by
 obtain⟨h1,e1⟩:=List.getElem?_eq_some_iff.mp a
 obtain⟨h2,e2⟩:=List.getElem?_eq_some_iff.mp b
 exact (List.getElem_inj hN).mp (e1.trans e2.symm)
theorem store_ok2 {M:Model}{A:Around}{E:Value->Shared->Prop}{i:Nat}{x:Str}{v:V}{u:Value}{Q:Unit->Shared->Prop}(I:Inv X pins σ H s)(hN:X.N.Nodup)(hi:X.N[i]? =some x)(hx:Loc X.env.scope x)(r:RelV v u)
  (h:∀s',Inv X pins (σ.set i (some v)) H s'->(∃a,Heap.SameBut a s.heap s'.heap/\(a=X.env.locals\/X.env.cells.lookup x=some a))->Q () s') (hf:X.fn x=true\/X.env.scope.names.lookup x=some .local:=by first |exact .inl rfl |exact .inr rfl |assumption):wpAny M A (storeName X.env x u) Q E s:=by
 obtain⟨m,hn,hl⟩:=id I.loc
 have hcls:(X.env.scope.kind == .class || (X.env.scope.kind == .module && X.env.locals != X.env.globals))=false:=by rw [I.ok.kind];rfl
 have hiσ:i < σ.length:=by rw [I.len];exact (List.getElem?_eq_some_iff.mp hi).1
 have cne:=I.cne
 have tracked:∀{a:Addr} {h':Heap},(∃o,s.heap.get? a=some o/\H a=none)->Heap.SameBut a s.heap h'->HOk X.prog X.w H h':=fun {a h'} ha hs b ob e=>by
  obtain⟨_,_,hfree⟩:=ha
  refine (I.hok b ob e).stay (fun c w' hc q=>(hs.2 c ?_).trans q) (fun _ q=>q) fun _ _ q=>q
  rintro rfl
  rcases hc with rfl |hc
  ·rw [hfree] at e;cases e
  ·rw [hfree] at hc;cases hc
 rcases hx with hk |hk
 ·refine wpAny_storeName_local hk hn (fun h' hn' hs=>?_) hcls
  obtain⟨oL,_,_,hoL,_⟩:=id hn
  refine h _ ⟨I.ok,I.os,I.bare,⟨fun b o e n hb hx=>?_,fun b o e n hb hx=>?_,I.base.free,fun b o e hx=>?_,I.base.tups,I.base.frzs,I.base.tbls⟩,⟨_,hn',fun j y v' e1 e2 e3=>?_⟩,fun y c e=>?_,I.free,I.freeC,fun p hp=>?_,tracked ⟨oL,hoL,I.free⟩ hs,by simpa using I.len⟩ ⟨_,hs,.inl rfl⟩
  ·exact (hs.2 b (Nat.ne_of_lt (Nat.lt_of_lt_of_le (Heap.lt_size e) I.ok.above))).trans (I.base.keep b o e n hb hx)
  ·obtain⟨sl,e1⟩:=I.base.slot b o e n hb hx
   exact⟨sl,(hs.2 b (Nat.ne_of_lt (Nat.lt_of_lt_of_le (Heap.lt_size e) I.ok.above))).trans e1⟩
  ·obtain⟨o',e1⟩:=I.base.there b o e hx
   exact⟨o',(hs.2 b (Nat.ne_of_lt (Nat.lt_of_lt_of_le (Heap.lt_size e) I.ok.above))).trans e1⟩
  ·by_cases hj:j=i
   ·subst hj
    rw [hi] at e1;cases e1
    rw [List.getElem?_set_self hiσ] at e2
    cases e2
    exact⟨u,r,.inl ⟨hk,by simp⟩⟩
   ·rw [List.getElem?_set_ne (Ne.symm hj)] at e2
    obtain⟨u',r',q⟩:=hl j y v' e1 e2 e3
    refine⟨u',r',?_⟩
    rcases q with⟨k,e⟩ | ⟨k,c,e,z⟩
    ·refine .inl ⟨k,?_⟩
     have:y≠x:=fun e=>hj (nodup_ix hN e1 (e▸hi))
     simp [this,e]
    ·exact .inr ⟨k,c,e,z.sameBut hs (cne y c e)⟩
  ·obtain⟨w',z⟩:=I.cell y c e
   exact⟨w',z.sameBut hs (cne y c e)⟩
  ·obtain⟨e,n,ne,nf,d⟩:=I.pin p hp
   exact⟨(hs.2 p.1 ne).trans e,n,ne,nf,d⟩
 ·have hfn:X.fn x=true:=by
   rcases hf with z |z
   ·exact z
   ·rw [z] at hk;cases hk
  obtain⟨c,hc⟩:=I.ok.has x (.inl hk)
  obtain⟨w',z⟩:=I.cell x c hc
  refine wpAny_storeName_cell I.ok.kind hk hc z (fun h' hc' hs=>?_)
  obtain⟨oc,hoc,hocd⟩:=id z
  refine h {s with heap:=h'} ⟨I.ok,I.os,I.bare,⟨fun b o e n hb hx=>?_,fun b o e n hb hx=>?_,I.base.free,fun b o e hx=>?_,I.base.tups,I.base.frzs,I.base.tbls⟩,⟨m,hn.sameBut hs (Ne.symm (cne x c hc)),fun j y v' e1 e2 e3=>?_⟩,fun y c' e=>?_,I.free,I.freeC,fun p hp=>?_,tracked ⟨oc,hoc,I.freeC x c hc⟩ hs,by simpa using I.len⟩ ⟨c,hs,.inr hc⟩
  ·exact (hs.2 b (Nat.ne_of_lt (Nat.lt_of_lt_of_le (Heap.lt_size e) (I.ok.cab x c hfn hc)))).trans (I.base.keep b o e n hb hx)
  ·obtain⟨sl,e1⟩:=I.base.slot b o e n hb hx
   exact⟨sl,(hs.2 b (Nat.ne_of_lt (Nat.lt_of_lt_of_le (Heap.lt_size e) (I.ok.cab x c hfn hc)))).trans e1⟩
  ·obtain⟨o',e1⟩:=I.base.there b o e hx
   exact⟨o',(hs.2 b (Nat.ne_of_lt (Nat.lt_of_lt_of_le (Heap.lt_size e) (I.ok.cab x c hfn hc)))).trans e1⟩
  ·by_cases hj:j=i
   ·subst hj
    rw [hi] at e1;cases e1
    rw [List.getElem?_set_self hiσ] at e2
    cases e2
    exact⟨u,r,.inr ⟨.inl hk,c,hc,hc'⟩⟩
   ·rw [List.getElem?_set_ne (Ne.symm hj)] at e2
    obtain⟨u',r',q⟩:=hl j y v' e1 e2 e3
    refine⟨u',r',?_⟩
    rcases q with q | ⟨k,c',e,z'⟩
    ·exact .inl q
    ·refine .inr ⟨k,c',e,z'.sameBut hs ?_⟩
     rintro rfl
     exact hj (nodup_ix hN e1 (I.ok.inj _ _ _ e hc▸hi))
  ·by_cases hcc:c'=c
   ·subst hcc;exact⟨_,hc'⟩
   ·obtain⟨w2,z2⟩:=I.cell y c' e
    exact⟨w2,z2.sameBut hs hcc⟩
  ·obtain⟨e,n,ne,nf,d⟩:=I.pin p hp
   refine⟨(hs.2 p.1 ?_).trans e,n,ne,nf,d⟩
   intro q
   rw [q,hoc] at e
   have q':oc=p.2:=Option.some.inj e
   exact d w' (by rw [<-q'];exact hocd)
theorem store_ok {M:Model}{A:Around}{E:Value->Shared->Prop}{i:Nat}{x:Str}{v:V}{u:Value}{Q:Unit->Shared->Prop}(I:Inv X pins σ H s)(hN:X.N.Nodup)(hi:X.N[i]? =some x)(hx:Loc X.env.scope x)(r:RelV v u)
  (h:∀s',Inv X pins (σ.set i (some v)) H s'->Q () s') (hf:X.fn x=true\/X.env.scope.names.lookup x=some .local:=by first |exact .inl rfl |exact .inr rfl |assumption):wpAny M A (storeName X.env x u) Q E s:=
 store_ok2 I hN hi hx r (fun s' I' _=>h s' I') hf
theorem Inv.call' {s':Shared}{ch:List Addr}(I:Inv X pins σ H s)(ho:s'.os=s.os)(u:Un (frs X.stack) ch H H' s.heap s'.heap)(hok:HOk X.prog X.w H' s'.heap)(hg:AllBare s'.gens)
  (hch:∀b∈ch,(b∈X.ex\/X.s₀.heap.objs.size<=b)/\b≠X.env.locals/\(∀x c,X.env.cells.lookup x=some c->c≠b)/\∀p∈X.pn ++ pins,p.1≠b):Inv X pins σ H' s':=by
 obtain⟨h',g',d',t',o'⟩:=s'
 have e:o'=s.os:=ho
 subst e
 exact I.call (g':=g') (t':=t') (d':=d') u hok hg hch
end
abbrev XK:=Value->Option Addr->Hp->Prop
abbrev St:=List (Option V)
abbrev VK:=V->Hp->Prop
abbrev TE:=St->Hp->VK->Prop
abbrev TT:=St->Hp->(Bool->Hp->Prop)->Prop
abbrev TA:=St->Hp->(List V->Hp->Prop)->Prop
structure Ends where
 nx:St->Hp->Prop
 rt:VK
 bk:St->Hp->Prop:=fun _ _=>False
 ct:St->Hp->Prop:=fun _ _=>False
abbrev TS:=Ends->St->Hp->Prop
def EP (X:Cx)(pins:List (Addr×Obj))(σ:St)(Q:VK)(u:Value)(s':Shared):Prop:=∃v H',Inv X pins σ H' s'/\RelV v u/\Q v H'
def TP (X:Cx)(pins:List (Addr×Obj))(σ:St)(Q:Bool->Hp->Prop)(b:Bool)(s':Shared):Prop:=∃H',Inv X pins σ H' s'/\Q b H'
def AP (X:Cx)(pins:List (Addr×Obj))(σ:St)(Q:List V->Hp->Prop)(us:List Value)(s':Shared):Prop:=∃vs H',Inv X pins σ H' s'/\Vals vs us/\Q vs H'
def SP (X:Cx)(pins:List (Addr×Obj))(D:Ends)(f:Flow)(s':Shared):Prop:=
 match f with
 | .next=>∃σ' H',Inv X pins σ' H' s'/\D.nx σ' H'
 | .brk=>∃σ' H',Inv X pins σ' H' s'/\D.bk σ' H'
 | .cont=>∃σ' H',Inv X pins σ' H' s'/\D.ct σ' H'
 | .ret u=>∃v σ' H',Inv X pins σ' H' s'/\RelV v u/\D.rt v H'
def PE (X:Cx)(e:Expr)(t:TE):Prop:=
 ∀(pins:List (Addr×Obj)) (s:Shared) (σ:St) (H:Hp) (Q:VK),Inv X pins σ H s->t σ H Q->wpAny (model X.prog X.w) X.A (eval e X.env) (EP X pins σ Q) X.xe s
def PT (X:Cx)(e:Expr)(t:TT):Prop:=
 ∀(pins:List (Addr×Obj)) (s:Shared) (σ:St) (H:Hp) (Q:Bool->Hp->Prop),Inv X pins σ H s->t σ H Q->wpAny (model X.prog X.w) X.A (isTrue e X.env (eval e X.env)) (TP X pins σ Q) X.xe s
def PW (X:Cx)(e:Expr)(t:TT):Prop:=
 ∀(whole:Sem Value) (pins:List (Addr×Obj)) (s:Shared) (σ:St) (H:Hp) (Q:Bool->Hp->Prop),Inv X pins σ H s->t σ H Q->wpAny (model X.prog X.w) X.A (isTrue e X.env whole) (TP X pins σ Q) X.xe s
theorem PW.pt {X:Cx}{e:Expr}{t:TT}(h:PW X e t):PT X e t:=h _
def PA (X:Cx)(es:List Expr)(t:TA):Prop:=
 ∀(pos:Pos) (pins:List (Addr×Obj)) (s:Shared) (σ:St) (H:Hp) (Q:List V->Hp->Prop),Inv X pins σ H s->t σ H Q->wpAny (model X.prog X.w) X.A (spliced (backTo pos (starEach es X.env))) (AP X pins σ Q) X.xe s
def PS (X:Cx)(st:Stmt)(t:TS):Prop:=
 ∀(pins:List (Addr×Obj)) (s:Shared) (σ:St) (H:Hp) (D:Ends),Inv X pins σ H s->t D σ H->wpAny (model X.prog X.w) X.A (exec st X.env) (SP X pins D) X.xe s
def PSs (X:Cx)(st:List Stmt)(t:TS):Prop:=
 ∀(pins:List (Addr×Obj)) (s:Shared) (σ:St) (H:Hp) (D:Ends),Inv X pins σ H s->t D σ H->wpAny (model X.prog X.w) X.A (execs st X.env) (SP X pins D) X.xe s
theorem thn {α:Type}{t:Sem α}{Q Q':α->Shared->Prop}{M:Model}{A:Around}{E:Value->Shared->Prop}{s:Shared}(h:wpAny M A t Q E s)(hQ:∀a s,Q a s->Q' a s):wpAny M A t Q' E s:=wpAny_mono h hQ fun _ _ x=>x
end L2
namespace L2
open PySem PySem.Spec PyProof.Rows
section
variable {X:Cx}
theorem bin {a b:Expr}{ta tb:TE}(ha:PE X a ta)(hb:PE X b tb){pins:List (Addr×Obj)}{s:Shared}{σ:St}{H:Hp}{R:V->V->Hp->Prop}(I:Inv X pins σ H s)(h:ta σ H fun x H1=>tb σ H1 fun y H2=>R x y H2)
  {α:Type} {Q:α->Shared->Prop} {f:Value->Value->Sem α}
  (hf:∀v u s2 x y H2,Inv X pins σ H2 s2->RelV x v->RelV y u->R x y H2->wpAny (model X.prog X.w) X.A (f v u) Q X.xe s2) :
  wpAny (model X.prog X.w) X.A (eval a X.env) (fun v s₁=>wpAny (model X.prog X.w) X.A (eval b X.env) (fun u s₂=>wpAny (model X.prog X.w) X.A (f v u) Q X.xe s₂) X.xe s₁) X.xe s:=by
 refine thn (ha pins s σ H _ I h) fun v s1 ⟨x,H1,I1,r1,q1⟩=>?_
 refine thn (hb pins s1 σ H1 _ I1 q1) fun u s2 ⟨y,H2,I2,r2,q2⟩=>?_
 exact hf v u s2 x y H2 I2 r1 r2 q2
def tVar (i:Nat):TE:=fun σ H Q=>∃v,σ[i]? =some (some v)/\Q v H
def tC (v:V):TE:=fun _ H Q=>Q v H
theorem pe_var {i:Nat}{x:Str}{pos:Pos}(hN:X.N[i]? =some x)(hv:Vis X.env.scope x)(hd:(x == ("__debug__":Str))=false:=by decide)(hcd:(x == ("__classdict__":Str))=false:=by decide):PE X (.Name x pos) (tVar i):=by
 intro pins s σ H Q I h
 obtain⟨v,e,h⟩:=h
 obtain⟨m,hn,hl⟩:=I.loc
 obtain⟨u,r,l⟩:=hl i x v hN e hv
 have fin:EP X pins σ Q u s:=⟨v,H,I,r,h⟩
 rcases l with⟨hk,hm⟩ | ⟨hk,c,hc,hcell⟩
 ·exact wpAny_Name (wpAny_loadName_local I.ok.kind hk hn hm fin) hd
 ·rcases hk with hk |hk
  ·exact wpAny_Name (wpAny_loadName_cell I.ok.kind hk hc hcell fin) hd
  ·exact wpAny_Name (wpAny_loadName_free I.ok.kind hk hc hcell fin hcd) hd
theorem pe_int {i j pos}:PE X (.Constant (.int i) j pos) (tC (.int i)):=fun _ _ _ H _ I h=>wpAny_Constant_int ⟨.int i,H,I.tok _,⟨_,rfl⟩,h⟩
theorem pe_bl {b j pos}:PE X (.Constant (.bool b) j pos) (tC (.bl b)):=fun _ _ _ H _ I h=>Constant_bool ⟨.bl b,H,I,rfl,h⟩
theorem pe_non {j pos}:PE X (.Constant .none j pos) (tC .non):=fun _ _ _ H _ I h=>Constant_none ⟨.non,H,I,rfl,h⟩
theorem pe_str {x j pos}:PE X (.Constant (.str x) j pos) (tC (.str x)):=fun _ _ _ H _ I h=>Calls.Constant_str ⟨.str x,H,I.tok _,⟨_,rfl⟩,h⟩
def Gl (X:Cx)(x:Str):Prop:=X.env.kindOf x=some .globalImplicit
theorem ld_glob {E:Value->Shared->Prop}{pins:List (Addr×Obj)}{s:Shared}{σ:St}{H:Hp}{x:Str}{u:Value}{pos:Pos}{Q:Value->Shared->Prop}(I:Inv X pins σ H s)(hg:Gl X x)(hm:X.mg x=some u)(h:Q u s)
  (hd:(x == ("__debug__":Str))=false:=by decide):wpAny (model X.prog X.w) X.A (eval (.Name x pos) X.env) Q E s:=
 Calls.Name_function_global I.ok.kind hg (Calls.loadGlobal_global (by rw [I.ok.glob];exact I.mod.glob.keeps I.bk) hm h) hd
theorem ld_blt {E:Value->Shared->Prop}{pins:List (Addr×Obj)}{s:Shared}{σ:St}{H:Hp}{x:Str}{u:Value}{pos:Pos}{Q:Value->Shared->Prop}(I:Inv X pins σ H s)(hg:Gl X x)(hm:X.mg x=none)(hv:bootBuiltins x=some u)(h:Q u s)
  (hn:x≠"__name__":=by decide) (hd:(x == ("__debug__":Str))=false:=by decide):wpAny (model X.prog X.w) X.A (eval (.Name x pos) X.env) Q E s:=by
 obtain⟨mb,h1,h2⟩:=I.mod.blt
 exact Calls.Name_function_global I.ok.kind hg (Calls.loadGlobal_builtin (by rw [I.ok.glob];exact I.mod.glob.keeps I.bk) hm (by rw [I.ok.blt];exact h1.keeps I.bk) ((h2 x hn).trans hv) h) hd
theorem pe_glob {x:Str}{v:V}{u:Value}{pos:Pos}(hg:Gl X x)(hm:X.mg x=some u)(r:RelV v u)(hd:(x == ("__debug__":Str))=false:=by decide):PE X (.Name x pos) (tC v):=
 fun _ _ _ H _ I h=>ld_glob I hg hm ⟨v,H,I,r,h⟩ hd
theorem pe_bltn {x:Str}{v:V}{u:Value}{pos:Pos}(hg:Gl X x)(hm:X.mg x=none)(hv:bootBuiltins x=some u)(r:RelV v u)(hn:x≠"__name__":=by decide)(hd:(x == ("__debug__":Str))=false:=by decide):PE X (.Name x pos) (tC v):=
 fun _ _ _ H _ I h=>ld_blt I hg hm hv ⟨v,H,I,r,h⟩ hn hd
variable {a b:Expr}{ta tb:TE}{pos:Pos}
def PC (X:Cx)(op:CmpOp)(a b:Expr)(t:TE):Prop:=
 ∀(pins:List (Addr×Obj)) (s:Shared) (σ:St) (H:Hp) (Q:VK),Inv X pins σ H s->t σ H Q->
  wpAny (model X.prog X.w) X.A (eval a X.env) (fun v s₁=>wpAny (model X.prog X.w) X.A (eval b X.env) (fun u s₂=>wpAny (model X.prog X.w) X.A (compareOp op v u) (EP X pins σ Q) X.xe s₂) X.xe s₁) X.xe s
theorem nobehind (b:Expr){op:CmpOp}(h:op≠.In)(h2:op≠.NotIn):behindInMarks op b=false:=by
 have e1:(op == CmpOp.In)=false:=by cases op <;> first |rfl |exact absurd rfl h
 have e2:(op == CmpOp.NotIn)=false:=by cases op <;> first |rfl |exact absurd rfl h2
 cases b <;> simp [behindInMarks,e1,e2]
def tB (t:TE):TT:=fun σ H Q=>t σ H fun x H1=>∃c,x=.bl c/\Q c H1
theorem pt_cmp {op:CmpOp}{t:TE}(h:PC X op a b t)(h1:behindInMarks op b=false:=by first |exact nobehind _ (by decide) (by decide) |rfl):PT X (.Compare a [op] [b] pos) (tB t):=by
 intro pins s σ H Q I hw
 refine wpAny_isTrue_Compare1 (thn (h pins s σ H _ I hw) fun v s1 h1=>thn h1 fun u s2 h2=>thn h2 fun c s3 ⟨x,H1,I1,r1,q1⟩=>?_) h1
 obtain⟨d,rfl,q⟩:=q1
 cases r1
 exact wpAny_truthy_bool ⟨H1,I1,q⟩
theorem pt_val {e:Expr}{t:TE}(h:PE X e t)(he:∀whole,isTrue e X.env whole=(do let v <-whole;standAt e.pos;holding [v] (truthy v)):=by intro _;rfl):PT X e (tB t):=by
 intro pins s σ H Q I hw
 refine isTrue_plain (thn (h pins s σ H _ I hw) fun v s1 ⟨x,H1,I1,r1,q1⟩=>?_) (he _)
 obtain⟨d,rfl,q⟩:=q1
 cases r1
 exact wpAny_truthy_bool ⟨H1,I1,q⟩
variable {tA tB':TT}{rest:List Expr}
def tAnd (t u:TT):TT:=fun σ H Q=>t σ H fun c H1=>if c=true then u σ H1 Q else Q false H1
def tOr (t u:TT):TT:=fun σ H Q=>t σ H fun c H1=>if c=true then Q true H1 else u σ H1 Q
def tNot (t:TT):TT:=fun σ H Q=>t σ H fun c H1=>Q (!c) H1
theorem pw_and1 (ha:PT X a tA):PW X (.BoolOp .And [a] pos) tA:=by
 intro wh pins s σ H Q I h
 refine isTrue_and (thn (ha pins s σ H Q I h) fun c s1 e=>?_)
 cases c with
 |true=>exact isTrue_and_nil e
 |false=>exact e
theorem pw_or1 (ha:PT X a tA):PW X (.BoolOp .Or [a] pos) tA:=by
 intro wh pins s σ H Q I h
 refine isTrue_or (thn (ha pins s σ H Q I h) fun c s1 e=>?_)
 cases c with
 |false=>exact isTrue_or_nil e
 |true=>exact e
theorem pw_and (ha:PT X a tA)(hb:PW X (.BoolOp .And (b :: rest) pos) tB'):PW X (.BoolOp .And (a :: b :: rest) pos) (tAnd tA tB'):=by
 intro wh pins s σ H Q I h
 refine isTrue_and (thn (ha pins s σ H _ I h) fun c s1 ⟨H1,I1,q1⟩=>?_)
 cases c with
 |true=>exact hb wh pins s1 σ H1 Q I1 q1
 |false=>exact⟨H1,I1,q1⟩
theorem pw_or (ha:PT X a tA)(hb:PW X (.BoolOp .Or (b :: rest) pos) tB'):PW X (.BoolOp .Or (a :: b :: rest) pos) (tOr tA tB'):=by
 intro wh pins s σ H Q I h
 refine isTrue_or (thn (ha pins s σ H _ I h) fun c s1 ⟨H1,I1,q1⟩=>?_)
 cases c with
 |true=>exact⟨H1,I1,q1⟩
 |false=>exact hb wh pins s1 σ H1 Q I1 q1
theorem pt_not (ha:PT X a tA):PT X (.UnaryOp .Not a pos) (tNot tA):=by
 intro pins s σ H Q I h
 exact isTrue_not (ha pins s σ H (fun c H1=>Q (!c) H1) I h)
def tAndV (ta tb:TE):TE:=fun σ H Q=>ta σ H fun x H1=>∃c,x=.bl c/\if c=true then tb σ H1 Q else Q (.bl false) H1
def tOrV (ta tb:TE):TE:=fun σ H Q=>ta σ H fun x H1=>∃c,x=.bl c/\if c=true then Q (.bl true) H1 else tb σ H1 Q
def tNotV (ta:TE):TE:=fun σ H Q=>ta σ H fun x H1=>∃c,x=.bl c/\Q (.bl (!c)) H1
theorem pe_one {op}{t:TE}(h:PE X a t):PE X (.BoolOp op [a] pos) t:=fun pins s σ H Q I hw=>BoolOp_one (h pins s σ H Q I hw)
theorem pe_and (ha:PE X a ta)(hb:PE X (.BoolOp .And (b :: rest) pos) tb):PE X (.BoolOp .And (a :: b :: rest) pos) (tAndV ta tb):=by
 intro pins s σ H Q I h
 refine BoolOp_and (thn (ha pins s σ H _ I h) fun v s1 ⟨x,H1,I1,r1,q1⟩=>?_)
 obtain⟨c,rfl,q1⟩:=q1
 cases r1
 refine wpAny_truthy_bool ?_
 cases c with
 |true=>exact hb pins s1 σ H1 Q I1 q1
 |false=>exact⟨.bl false,H1,I1,rfl,q1⟩
theorem pe_or (ha:PE X a ta)(hb:PE X (.BoolOp .Or (b :: rest) pos) tb):PE X (.BoolOp .Or (a :: b :: rest) pos) (tOrV ta tb):=by
 intro pins s σ H Q I h
 refine BoolOp_or (thn (ha pins s σ H _ I h) fun v s1 ⟨x,H1,I1,r1,q1⟩=>?_)
 obtain⟨c,rfl,q1⟩:=q1
 cases r1
 refine wpAny_truthy_bool ?_
 cases c with
 |false=>exact hb pins s1 σ H1 Q I1 q1
 |true=>exact⟨.bl true,H1,I1,rfl,q1⟩
theorem pe_not (ha:PE X a ta):PE X (.UnaryOp .Not a pos) (tNotV ta):=by
 intro pins s σ H Q I h
 refine UnaryOp_ (thn (ha pins s σ H _ I h) fun v s1 ⟨x,H1,I1,r1,q1⟩=>?_)
 obtain⟨c,rfl,q1⟩:=q1
 cases r1
 exact not_of (wpAny_truthy_bool ⟨.bl (!c),H1,I1,rfl,q1⟩)
end
end L2
namespace L2
open PySem PySem.Spec PyProof.Rows
def SqL (K:PySem.W.Frag)(H:Hp)(a:Addr)(xs:List V):Prop:=
 Rd H a (.lst xs)\/
  ∃(o:Obj) (its:Array Value) (n:Nat),K.lookup a=some o/\o.cls=.type "list"/\o.dict=none/\o.data=.seq its n/\its.size<=sizeLine/\Vals xs its.toList
def SqT (K:PySem.W.Frag)(H:Hp)(a:Addr)(xs:List V):Prop:=
 Rd H a (.tup xs)\/
  ∃(o:Obj) (its:Array Value) (n:Nat),K.lookup a=some o/\o.cls=.type "tuple"/\o.data=.seq its n/\its.size<=sizeLine/\Vals xs its.toList/\o.dict=none
def absV:Value->Option V
 | .none=>some .non
 | .bool b=>some (.bl b)
 | .int i _=>some (.int i)
 | .str x _=>some (.str x)
 | .bytes b _=>some (.byt b)
 | .float b _=>some (.flt b)
 | .ref a=>some (.ref a)
 | .type n=>some (.ty n)
 |_=>none
theorem RelV.abs {x:V}{u:Value}(r:RelV x u):absV u=some x:=by
 cases x with
 |non=>cases r;rfl
 |bl _=>cases r;rfl
 |int _=>obtain⟨t,rfl⟩:=r;rfl
 |str _=>obtain⟨t,rfl⟩:=r;rfl
 |byt _=>obtain⟨t,rfl⟩:=r;rfl
 |flt _=>obtain⟨t,rfl⟩:=r;rfl
 |ref _=>cases r;rfl
 |ty _=>cases r;rfl
theorem RelV.inj {x y:V}{u:Value}(r:RelV x u)(q:RelV y u):x=y:=Option.some.inj (r.abs.symm.trans q.abs)
theorem Vals.inj:∀{xs ys:List V} {us:List Value},Vals xs us->Vals ys us->xs=ys
 |_,_,_,.nil,.nil=>rfl
 |_,_,_,.cons r t,.cons r' t'=>by rw [r.inj r',Vals.inj t t']
section
variable {X:Cx}{pins:List (Addr×Obj)}{σ:St}{H:Hp}{s:Shared}{a:Addr}{xs ys:List V}
theorem Inv.list (I:Inv X pins σ H s)(h:SqL X.K H a xs):∃its:List Value,Vals xs its/\PlainL s.heap a its.toArray/\xs.length<=sizeLine:=by
 rcases h with h | ⟨o,its,n,hk,hc,hd,hs,hz,r⟩
 ·obtain⟨z,its,n,r,e⟩:=h.ok I.hok
  exact⟨its,r,⟨_,n,e,rfl,rfl,rfl⟩,z⟩
 ·refine⟨its.toList,r,⟨o,n,I.kIn a o hk,hc,hd,by simpa using hs⟩,?_⟩
  have e:=r.length
  simp only [Array.length_toList] at e
  omega
theorem Inv.tuple (I:Inv X pins σ H s)(h:SqT X.K H a xs):∃its:List Value,Vals xs its/\IsTup s.heap a its.toArray/\xs.length<=sizeLine:=by
 rcases h with h | ⟨o,its,n,hk,hc,hs,hz,r,_⟩
 ·obtain⟨z,its,r,p⟩:=h.ok I.hok
  exact⟨its,r,p.isTup,z⟩
 ·refine⟨its.toList,r,⟨o,I.kIn a o hk,hc,n,by simpa using hs⟩,?_⟩
  have e:=r.length
  simp only [Array.length_toList] at e
  omega
theorem Inv.list_inj (I:Inv X pins σ H s)(h:SqL X.K H a xs)(h':SqL X.K H a ys):xs=ys:=by
 obtain⟨its,r,⟨o,n,e,_,_,d⟩,_⟩:=I.list h
 obtain⟨its',r',⟨o',n',e',_,_,d'⟩,_⟩:=I.list h'
 rw [e] at e';cases e'
 rw [d] at d'
 injection d' with d1 _
 have:its=its':=by simpa using congrArg Array.toList d1
 subst this
 exact r.inj r'
theorem Inv.tuple_inj (I:Inv X pins σ H s)(h:SqT X.K H a xs)(h':SqT X.K H a ys):xs=ys:=by
 obtain⟨its,r,⟨o,e,_,n,d⟩,_⟩:=I.tuple h
 obtain⟨its',r',⟨o',e',_,n',d'⟩,_⟩:=I.tuple h'
 rw [e] at e';cases e'
 rw [d] at d'
 injection d' with d1 _
 have:its=its':=by simpa using congrArg Array.toList d1
 subst this
 exact r.inj r'
end
abbrev Cx.wish (X:Cx)(E:Value->Shared->Prop):Cx:={X with xe:=E}
abbrev Cx.nox (X:Cx):Cx:=X.wish fun _ _=>False
theorem Cx.Ok.wish {X:Cx}(ok:X.Ok)(E:Value->Shared->Prop):(X.wish E).Ok:=
 ⟨ok.mod,ok.kind,ok.glob,ok.blt,ok.above,ok.inj,ok.has,ok.cab,ok.hd,ok.frames,ok.stk,ok.exf,ok.bs,ok.bsz,ok.noex,ok.exfs,ok.funs,ok.frf⟩
theorem Cx.Ok.unwish {X:Cx}{E:Value->Shared->Prop}(ok:(X.wish E).Ok):X.Ok:=
 ⟨ok.mod,ok.kind,ok.glob,ok.blt,ok.above,ok.inj,ok.has,ok.cab,ok.hd,ok.frames,ok.stk,ok.exf,ok.bs,ok.bsz,ok.noex,ok.exfs,ok.funs,ok.frf⟩
section
variable {X:Cx}{pins:List (Addr×Obj)}{σ:St}{H:Hp}{s:Shared}{E:Value->Shared->Prop}
theorem Inv.wish (I:Inv X pins σ H s)(E:Value->Shared->Prop):Inv (X.wish E) pins σ H s:=⟨I.ok.wish E,I.os,I.bare,I.base,I.loc,I.cell,I.free,I.freeC,I.pin,I.hok,I.len⟩
theorem Inv.unwish (I:Inv (X.wish E) pins σ H s):Inv X pins σ H s:=⟨I.ok.unwish,I.os,I.bare,I.base,I.loc,I.cell,I.free,I.freeC,I.pin,I.hok,I.len⟩
theorem SP.unwish {D:Ends}{f:Flow}{s':Shared}(h:SP (X.wish E) pins D f s'):SP X pins D f s':=by
 cases f with
 |next=>obtain⟨σ',H',I,q⟩:=h;exact⟨σ',H',I.unwish,q⟩
 |brk=>obtain⟨σ',H',I,q⟩:=h;exact⟨σ',H',I.unwish,q⟩
 |cont=>obtain⟨σ',H',I,q⟩:=h;exact⟨σ',H',I.unwish,q⟩
 |ret u=>obtain⟨v,σ',H',I,r,q⟩:=h;exact⟨v,σ',H',I.unwish,r,q⟩
theorem PSs.nox {st:List Stmt}{t:TS}(h:PSs X.nox st t):PSs X st t:=fun pins s σ H D I hw=>
 wpAny_mono (h pins s σ H D (I.wish _) hw) (fun _ _ q=>q.unwish) fun _ _ z=>False.elim z
end
section
variable {X:Cx}{st:Stmt}{rest:List Stmt}{t u:TS}{e:Expr}{te:TE}{pos:Pos}
def tNext:TS:=fun D σ H=>D.nx σ H
def tSeq (t u:TS):TS:=fun D σ H=>t {D with nx:=u D} σ H
theorem pss_nil:PSs X [] tNext:=fun _ _ σ H _ I h=>wpAny_execs_nil ⟨σ,H,I,h⟩
theorem pss_cons (h1:PS X st t)(h2:PSs X rest u):PSs X (st :: rest) (tSeq t u):=by
 intro pins s σ H D I h
 refine wpAny_execs_cons (thn (h1 pins s σ H {D with nx:=u D} I h) fun f s1 q=>?_)
 cases f with
 |next=>
  obtain⟨σ',H',I',q⟩:=q
  exact h2 pins s1 σ' H' D I' q
 |ret v=>exact q
 |brk=>exact q
 |cont=>exact q
theorem pss_one (h1:PS X st t):PSs X [st] t:=by
 intro pins s σ H D I h
 refine wpAny_execs_cons (thn (h1 pins s σ H D I h) fun f s1 q=>?_)
 cases f with
 |next=>exact wpAny_execs_nil q
 |ret v=>exact q
 |brk=>exact q
 |cont=>exact q
theorem Inv.quiet {pins:List (Addr×Obj)}{σ:St}{H:Hp}{s:Shared}(I:Inv X pins σ H s):interactive X.env=false:=by simp [interactive,I.ok.kind]
def tDrop (te:TE):TS:=fun D σ H=>te σ H fun _ H1=>D.nx σ H1
theorem ps_expr (he:PE X e te)(hs:swapsWith e none pos.line X.env=pure false:=by rfl):PS X (.Expr e pos) (tDrop te):=by
 intro pins s σ H D I h
 exact wpAny_Expr_any (thn (he pins s σ H _ I h) fun v s1 ⟨x,H1,I1,r1,q1⟩=>⟨σ,H1,I1,q1⟩) I.quiet hs
def tRet (te:TE):TS:=fun D σ H=>te σ H D.rt
theorem ps_ret (he:PE X e te):PS X (.Return (some e) pos) (tRet te):=by
 intro pins s σ H D I h
 exact wpAny_Return_some (thn (he pins s σ H _ I h) fun v s1 ⟨x,H1,I1,r1,q1⟩=>⟨x,σ,H1,I1,r1,q1⟩)
def tIfS (c:TT)(t u:TS):TS:=fun D σ H=>c σ H fun b H1=>if b=true then t D σ H1 else u D σ H1
theorem ps_if {c:Expr}{a b:List Stmt}{tc:TT}(hc:PT X c tc)(ha:PSs X a t)(hb:PSs X b u):PS X (.If c a b pos) (tIfS tc t u):=by
 intro pins s σ H D I h
 refine wpAny_If (thn (hc pins s σ H _ I h) fun d s1 ⟨H1,I1,q1⟩=>?_)
 cases d with
 |true=>exact ha pins s1 σ H1 D I1 q1
 |false=>exact hb pins s1 σ H1 D I1 q1
end
abbrev TG:=V->St->Hp->(St->Hp->Prop)->Prop
abbrev TGs:=List V->St->Hp->(St->Hp->Prop)->Prop
def PG (X:Cx)(target:Expr)(t:TG):Prop:=
 ∀(pins:List (Addr×Obj)) (s:Shared) (σ:St) (H:Hp) (v:V) (u:Value) (Q:St->Hp->Prop),Inv X pins σ H s->RelV v u->t v σ H Q->
  wpAny (model X.prog X.w) X.A (assign target X.env u) (fun _ s'=>∃σ' H',Inv X pins σ' H' s'/\Q σ' H') X.xe s
def PGs (X:Cx)(ts:List Expr)(t:TGs):Prop:=
 ∀(pins:List (Addr×Obj)) (s:Shared) (σ:St) (H:Hp) (vs:List V) (us:List Value) (Q:St->Hp->Prop),Inv X pins σ H s->Vals vs us->t vs σ H Q->
  wpAny (model X.prog X.w) X.A (assignInOrder ((assignEach ts X.env).map (·.2)) us) (fun _ s'=>∃σ' H',Inv X pins σ' H' s'/\Q σ' H') X.xe s
abbrev TSet:=V->V->V->Hp->(Hp->Prop)->Prop
def PSet (X:Cx)(t:TSet):Prop:=
 ∀(pins:List (Addr×Obj)) (s:Shared) (σ:St) (H:Hp) (o i v:V) (ov iv u:Value) (Q:Hp->Prop),Inv X pins σ H s->RelV o ov->RelV i iv->RelV v u->t o i v H Q->
  wpAny (model X.prog X.w) X.A (setItem ov iv u) (fun _ s'=>∃H',Inv X pins σ H' s'/\Q H') X.xe s
section
variable {X:Cx}{pos:Pos}
def gName (i:Nat):TG:=fun v σ H Q=>Q (σ.set i (some v)) H
theorem pg_name {i:Nat}{x:Str}(hN:X.N.Nodup)(hi:X.N[i]? =some x)(hx:Loc X.env.scope x)(hf:X.fn x=true\/X.env.scope.names.lookup x=some .local:=by first |exact .inl rfl |exact .inr rfl |assumption):PG X (.Name x pos) (gName i):=by
 intro pins s σ H v u Q I r h
 exact wpAny_assign_Name (store_ok I hN hi hx r (fun s' I'=>⟨_,H,I',h⟩) hf)
def gNil:TGs:=fun vs σ H Q=>vs= []/\Q σ H
def gCons (t:TG)(u:TGs):TGs:=fun vs σ H Q=>∃v r,vs=v :: r/\t v σ H fun σ' H'=>u r σ' H' Q
theorem pgs_nil:PGs X [] gNil:=by
 intro pins s σ H vs us Q I r h
 obtain⟨e,h⟩:=h
 subst e
 cases r
 exact assignInOrder_nil ⟨σ,H,I,h⟩
theorem pgs_cons {e:Expr}{es:List Expr}{t:TG}{u:TGs}(h1:PG X e t)(h2:PGs X es u)
  (hs:(assignEach (e :: es) X.env).map (·.2)=assign e X.env :: (assignEach es X.env).map (·.2):=by rfl):PGs X (e :: es) (gCons t u):=by
 intro pins s σ H vs us Q I r h
 obtain⟨v,vr,e1,h⟩:=h
 subst e1
 cases r with
 |cons r rr=>
  rw [hs]
  refine assignInOrder_cons (thn (h1 pins s σ H _ _ _ I r h) fun _ s1 ⟨σ1,H1,I1,q1⟩=>?_)
  exact h2 pins s1 σ1 H1 _ _ Q I1 rr q1
def gTup (K:PySem.W.Frag)(n:Nat)(t:TGs):TG:=fun v σ H Q=>∃a xs,v=.ref a/\SqT K H a xs/\xs.length=n/\t xs σ H Q
theorem pg_tup {es:List Expr}{k:Nat}{t:TGs}{n:Nat}(hc:X.calm=true)(h:PGs X es t)
  (hn:(assignEach es X.env).length=n:=by rfl) (hst:(assignEach es X.env).findIdx? (·.1)=none:=by rfl):PG X (.Tuple es k pos) (gTup X.K n t):=by
 intro pins s σ H v u Q I r hw
 obtain⟨a,xs,e1,hq,hl,hw⟩:=hw
 subst e1
 cases r
 obtain⟨its,rv,ht,hz⟩:=I.tuple hq
 refine assign_Tuple_tuple (I.ok.hd hc) ht (by simp [hn,<-hl,rv.length]) hst fun h' hx=>?_
 have I1:Inv X pins σ H {s with heap:=h'}:=I.kept (t':=s.toks) fun b o e=>hx b o (Nat.ne_of_lt (Heap.lt_size e)) e
 exact h pins _ σ H xs _ Q I1 (by simpa using rv) hw
def gSub (to ti:TE)(t:TSet):TG:=fun v σ H Q=>to σ H fun o H1=>ti σ H1 fun i H2=>t o i v H2 fun H3=>Q σ H3
theorem pg_sub {o i:Expr}{to ti:TE}{t:TSet}(ho:PE X o to)(hi:PE X i ti)(hs:PSet X t)
  (ha:∀v,assign (.Subscript o i pos) X.env v=(do
   let ov <-holding [v] (eval o X.env)
   let iv <-holding [v,ov] (eval i X.env)
   standAt pos
   holding [v,ov,iv] (setItem ov iv v)
   release [v,ov,iv] []):=by intro _;rfl):PG X (.Subscript o i pos) (gSub to ti t):=by
 intro pins s σ H v u Q I r h
 rw [ha]
 refine wpAny_bind (wpAny_holding (thn (ho pins s σ H _ I h) fun ov s1 ⟨x,H1,I1,r1,q1⟩=>?_))
 refine wpAny_bind (wpAny_holding (thn (hi pins s1 σ H1 _ I1 q1) fun iv s2 ⟨y,H2,I2,r2,q2⟩=>?_))
 refine wpAny_bind (wpAny_standAt (wpAny_bind (wpAny_holding (thn (hs pins s2 σ H2 x y v ov iv u _ I2 r1 r2 r q2) fun _ s3 ⟨H3,I3,q3⟩=>?_))))
 exact wpAny_release ⟨σ,H3,I3,q3⟩
def tAsg (te:TE)(g:TG):TS:=fun D σ H=>te σ H fun x H1=>g x σ H1 D.nx
theorem ps_asg {tg e:Expr}{te:TE}{g:TG}(he:PE X e te)(hg:PG X tg g)(hs:swapsWithSole [tg] e pos.line X.env=pure false:=by rfl)(hw:swappedStores [tg] e X.env=pure none:=by rfl)
  (h1:(assignEach [tg] X.env).map (·.2)= [assign tg X.env]:=by rfl):PS X (.Assign [tg] e pos) (tAsg te g):=by
 intro pins s σ H D I h
 refine wpAny_Assign_stores (thn (he pins s σ H _ I h) fun v s1 ⟨x,H1,I1,r1,q1⟩=>?_) hs hw
 rw [h1]
 exact thn (hg pins s1 σ H1 x v _ I1 r1 q1) fun _ s2 q=>q
theorem ps_set {i:Nat}{x:Str}{e:Expr}{te:TE}{pos':Pos}(hN:X.N.Nodup)(hi:X.N[i]? =some x)(hx:Loc X.env.scope x)(he:PE X e te)(hs:swapsWith e (some (.Name x pos')) pos.line X.env=pure false:=by rfl)(hf:X.fn x=true\/X.env.scope.names.lookup x=some .local:=by first |exact .inl rfl |exact .inr rfl |assumption) :
  PS X (.Assign [.Name x pos'] e pos) (tAsg te (gName i)):=by
 intro pins s σ H D I h
 refine wpAny_Assign_Name (thn (he pins s σ H _ I h) fun v s1 ⟨y,H1,I1,r1,q1⟩=>?_) hs
 exact store_ok I1 hN hi hx r1 (fun s2 I2=>⟨_,H1,I2,q1⟩) hf
end
section
variable {X:Cx}{pos:Pos}
def tWhile (c:TT)(tb:TS):TS:=fun D σ H=>∃W:Nat->St->Hp->Prop,(∃m,W m σ H)/\∀m σ H,W m σ H->
 c σ H fun b H1=>if b=true then ∃N:St->Hp->Prop,(∀σ' H',N σ' H'->∃m',m' < m/\W m' σ' H')/\tb {D with nx:=N,ct:=N,bk:=D.nx} σ H1 else D.nx σ H1
theorem ps_while {c:Expr}{body:List Stmt}{tc:TT}{tb:TS}(hp:PassesOwn (model X.prog X.w) X.A X.env X.xe)(hc:PT X c tc)(hb:PSs X body tb):PS X (.While c body [] pos) (tWhile tc tb):=by
 intro pins s σ H D I h
 obtain⟨W,⟨m0,w0⟩,turn⟩:=h
 refine wpAny_While (codeAny_whileLoop (fun n s'=>∃σ' H',Inv X pins σ' H' s'/\W n σ' H') ?_ m0 ⟨σ,H,I,w0⟩)
 rintro n s1 ⟨σ1,H1,I1,w1⟩
 refine wpAny_passesOwn hp (thn (hc pins s1 σ1 H1 _ I1 (turn n σ1 H1 w1)) fun b s2 ⟨H2,I2,q2⟩=>?_)
 cases b with
 |true=>
  obtain⟨N,hN,q2⟩:=q2
  rw [if_pos rfl]
  refine wpAny_passesOwn hp (thn (hb pins s2 σ1 H2 _ I2 q2) fun f s3 q3=>?_)
  cases f with
  |next=>
   obtain⟨σ3,H3,I3,n3⟩:=q3
   obtain⟨m',hm,w3⟩:=hN σ3 H3 n3
   exact⟨m',hm,σ3,H3,I3,w3⟩
  |cont=>
   obtain⟨σ3,H3,I3,n3⟩:=q3
   obtain⟨m',hm,w3⟩:=hN σ3 H3 n3
   exact⟨m',hm,σ3,H3,I3,w3⟩
  |brk=>exact q3
  |ret v=>exact q3
 |false=>
  rw [if_neg Bool.false_ne_true]
  exact wpAny_execs_nil ⟨σ1,H2,I2,q2⟩
end
structure It where
 go:Nat->Hp->Prop
 yld:Nat->Hp->V->Hp->Prop
 stop:Nat->Hp->Prop
def FpOk (X:Cx)(pins:List (Addr×Obj))(H:Hp)(b:Addr):Prop:=
 H b=none/\b≠X.env.locals/\b∉X.fs/\(b∈X.ex\/X.s₀.heap.objs.size<=b)/\(∀x c,X.env.cells.lookup x=some c->c≠b)/\∀p∈X.pn ++ pins,p.1≠b
theorem Inv.fpOk {X:Cx}{pins:List (Addr×Obj)}{σ:St}{H H':Hp}{s:Shared}{b:Addr}(I:Inv X pins σ H s)(hb:s.heap.objs.size<=b)(hn:H' b=none):FpOk X pins H' b:=by
 refine⟨hn,Nat.ne_of_gt (Nat.lt_of_lt_of_le I.lt hb),I.nofs hb,.inr (Nat.le_trans I.sz hb),fun x c e z=>?_,fun p hp z=>?_⟩
 ·obtain⟨v,q⟩:=I.cell x c e
  exact absurd (Nat.lt_of_lt_of_le q.lt (by rw [z];exact hb)) (Nat.lt_irrefl _)
 ·exact absurd (Nat.lt_of_lt_of_le (Heap.lt_size (I.pin p hp).1) (by rw [z];exact hb)) (Nat.lt_irrefl _)
structure Turn (P:Program)(w:World)(K:PySem.W.Frag)(tg:Expr)(J:It)(fp:List Addr)(it:Addr)(tn:Nat->Heap->Prop):Prop where
 mem:it∈fp
 obj:∀i h,tn i h->∀b∈fp,∃o,h.get? b=some o/\∀v,o.data≠.cell v
 keep:∀i h h',tn i h->(∀b∈fp,∀o,h.get? b=some o->h'.get? b=some o)->tn i h'
 item:∀(X:Cx),X.prog=P->X.w=w->X.K=K->X.calm=true->∀(i:Nat) (pins:List (Addr×Obj)) (s:Shared) (σ:St) (H:Hp) (E:Value->Shared->Prop),Inv X pins σ H s->(∀b∈fp,FpOk X pins H b)->tn i s.heap->J.go i H->
  wpAny (model P w) X.A (pyNext (.ref it)) (fun r s1=>∃u,r=some u/\
   wpAny (model P w) X.A (letOwnedTupleGo tg (.ref it) u) (fun _ s2=>∃x H',Inv X pins σ H' s2/\RelV x u/\J.yld i H x H'/\tn (i + 1) s2.heap/\∀b∈fp,H' b=none) E s1) E s
 done:∀(X:Cx),X.prog=P->X.w=w->X.K=K->X.calm=true->∀(i:Nat) (pins:List (Addr×Obj)) (s:Shared) (σ:St) (H:Hp) (E:Value->Shared->Prop),Inv X pins σ H s->(∀b∈fp,FpOk X pins H b)->tn i s.heap->J.stop i H->
  wpAny (model P w) X.A (pyNext (.ref it)) (fun r s1=>r=none/\Inv X pins σ H s1) E s
 self:∀(A:Around) (i:Nat) (s:Shared) (Q:Value->Shared->Prop) (E:Value->Shared->Prop),tn i s.heap->Q (.ref it) s->wpAny (model P w) A (pyIter (.ref it)) Q E s
abbrev TI:=St->Hp->(It->Hp->Prop)->Prop
def PIE (X:Cx)(pins:List (Addr×Obj))(σ:St)(tg:Expr)(R:It->Hp->Prop)(itv:Value)(s2:Shared):Prop:=
 ∃(it:Addr) (fp:List Addr) (tn:Nat->Heap->Prop) (J:It) (H':Hp),itv=.ref it/\Inv X pins σ H' s2/\Turn X.prog X.w X.K tg J fp it tn/\tn 0 s2.heap/\(∀b∈fp,FpOk X pins H' b)/\R J H'
def PI (X:Cx)(tg iter:Expr)(wi:TI):Prop:=
 ∀(pins:List (Addr×Obj)) (s:Shared) (σ:St) (H:Hp) (R:It->Hp->Prop),Inv X pins σ H s->wi σ H R->
  wpAny (model X.prog X.w) X.A (eval iter X.env) (fun v s1=>wpAny (model X.prog X.w) X.A (pyIter v) (PIE X pins σ tg R) X.xe s1) X.xe s
theorem go_of {M:Model}{A:Around}{E:Value->Shared->Prop}{s:Shared}{tg:Expr}{it:Addr}{u:Value}{o:Obj}{n:String}{vs:Array Value}{Q:Unit->Shared->Prop}(ho:s.heap.get? it=some o)(hc:o.cls=.type n)(hd:o.data=.fields vs)
  (hn: ["enumerate","zip","dict_itemiterator","dict_reverseitemiterator","odict_iterator","itertools.zip_longest","itertools.pairwise"].contains n=false) (hQ:Q () s):wpAny M A (letOwnedTupleGo tg (.ref it) u) Q E s:=by
 unfold letOwnedTupleGo
 cases tg <;> first
  |exact wpAny_pure hQ
  | (cases u <;> first
    |exact wpAny_pure hQ
    | (refine wpAny_bind (wpAny_load ho ?_)
       rw [hc,hd]
       show wpAny M A (if (["enumerate","zip","dict_itemiterator","dict_reverseitemiterator","odict_iterator","itertools.zip_longest","itertools.pairwise"].contains n && vs[0]? == some (rawInt _))=true then _ else _) Q E s
       rw [if_neg (by intro h;rw [hn,Bool.false_and] at h;cases h)]
       exact wpAny_pure hQ))
def Itl (K:PySem.W.Frag)(a:Addr):It:=
 ⟨fun i H=>∃xs x,SqL K H a xs/\xs[i]? =some x,fun i H x H'=>H'=H/\∀xs,SqL K H a xs->xs[i]? =some x,fun i H=>∃xs,SqL K H a xs/\xs.length<=i⟩
def Itt (K:PySem.W.Frag)(a:Addr):It:=
 ⟨fun i H=>∃xs x,SqT K H a xs/\xs[i]? =some x,fun i H x H'=>H'=H/\∀xs,SqT K H a xs->xs[i]? =some x,fun i H=>∃xs,SqT K H a xs/\xs.length<=i⟩
def Itr (lo:Int)(n:Nat):It:=⟨fun i _=>i < n,fun i H x H'=>H'=H/\x=.int (lo + i),fun i _=>n<=i⟩
theorem turn_list {P:Program}{w:World}{K:PySem.W.Frag}{tg:Expr}(a it:Addr):Turn P w K tg (Itl K a) [it] it (fun i h=>h.IsListIter it a i) where
 mem:=by simp
 obj:=fun i h st b hb=>by
  have e:b=it:=by simpa using hb
  subst e
  obtain⟨o,e,c,d⟩:=st
  exact⟨o,e,fun v z=>by rw [d] at z;cases z⟩
 keep:=fun i h h' st k=>st.at fun o e=>k it (by simp) o e
 item:=by
  intro X hP hw hK hc i pins s σ H E I hf st hg
  subst hP hw hK
  obtain⟨xs,x,hq,hx⟩:=hg
  obtain⟨its,rv,p,hz⟩:=I.list hq
  obtain⟨u,hu,ru⟩:=rv.get hx
  obtain⟨f0,f1,f2,f3,f4,f5⟩:=hf it (by simp)
  refine wpAny_pyNext_list_item st p.isList (x:=u) (by simpa using hu) fun h' st' sb=>?_
  have I1:Inv X pins σ H {s with heap:=h'}:=I.turned (t':=s.toks) (fun b o hb e=>(sb.2 b hb).trans e) f0 f1 f3 f4 f5
  obtain⟨o,e,c,d⟩:=id st'
  exact⟨u,rfl,go_of (s:={s with heap:=h'}) e c d (by decide) ⟨x,H,I1,ru,⟨rfl,fun ys hy=>by rw [I.list_inj hy hq];exact hx⟩,st',fun b hb=>(hf b hb).1⟩⟩
 done:=by
  intro X hP hw hK hc i pins s σ H E I hf st hg
  subst hP hw hK
  obtain⟨xs,hq,hx⟩:=hg
  obtain⟨its,rv,p,hz⟩:=I.list hq
  obtain⟨f0,f1,f2,f3,f4,f5⟩:=hf it (by simp)
  have hl:=rv.length
  exact wpAny_pyNext_list_end (I.ok.hd hc) st p.isList (by simp;omega) fun h' eb=>⟨rfl,I.turned (t':=s.toks) (fun b o hb e=>eb b o hb e) f0 f1 f3 f4 f5⟩
 self:=fun _ _ _ _ _ st h=>wpAny_pyIter_listiter st h
theorem turn_tuple {P:Program}{w:World}{K:PySem.W.Frag}{tg:Expr}(a it:Addr):Turn P w K tg (Itt K a) [it] it (fun i h=>h.IsTupleIter it a i) where
 mem:=by simp
 obj:=fun i h st b hb=>by
  have e:b=it:=by simpa using hb
  subst e
  obtain⟨o,e,c,d⟩:=st
  exact⟨o,e,fun v z=>by rw [d] at z;cases z⟩
 keep:=fun i h h' st k=>st.at fun o e=>k it (by simp) o e
 item:=by
  intro X hP hw hK hc i pins s σ H E I hf st hg
  subst hP hw hK
  obtain⟨xs,x,hq,hx⟩:=hg
  obtain⟨its,rv,p,hz⟩:=I.tuple hq
  obtain⟨u,hu,ru⟩:=rv.get hx
  obtain⟨f0,f1,f2,f3,f4,f5⟩:=hf it (by simp)
  refine wpAny_pyNext_tuple_item st (show s.heap.IsTuple a its.toArray from p) (x:=u) (by simpa using hu) fun h' st' sb=>?_
  have I1:Inv X pins σ H {s with heap:=h'}:=I.turned (t':=s.toks) (fun b o hb e=>(sb.2 b hb).trans e) f0 f1 f3 f4 f5
  obtain⟨o,e,c,d⟩:=id st'
  exact⟨u,rfl,go_of (s:={s with heap:=h'}) e c d (by decide) ⟨x,H,I1,ru,⟨rfl,fun ys hy=>by rw [I.tuple_inj hy hq];exact hx⟩,st',fun b hb=>(hf b hb).1⟩⟩
 done:=by
  intro X hP hw hK hc i pins s σ H E I hf st hg
  subst hP hw hK
  obtain⟨xs,hq,hx⟩:=hg
  obtain⟨its,rv,p,hz⟩:=I.tuple hq
  obtain⟨f0,f1,f2,f3,f4,f5⟩:=hf it (by simp)
  have hl:=rv.length
  exact wpAny_pyNext_tuple_end (I.ok.hd hc) st (show s.heap.IsTuple a its.toArray from p) (by simp;omega) fun h' eb=>⟨rfl,I.turned (t':=s.toks) (fun b o hb e=>eb b o hb e) f0 f1 f3 f4 f5⟩
 self:=fun _ _ _ _ _ st h=>wpAny_pyIter_tupleiter st h
theorem turn_range {P:Program}{w:World}{K:PySem.W.Frag}{tg:Expr}(it:Addr)(lo:Int)(n:Nat):Turn P w K tg (Itr lo n) [it] it (fun i h=>IsRangeIter h it (lo + (i:Nat) * 1) ((n:Int) - (i:Nat)) 1) where
 mem:=by simp
 obj:=fun i h st b hb=>by
  have e:b=it:=by simpa using hb
  subst e
  exact⟨_,st,fun v z=>by
   have z':Data.fields _=Data.cell v:=z
   cases z'⟩
 keep:=fun i h h' st k=>k it (by simp) _ st
 item:=by
  intro X hP hw hK hc i pins s σ H E I hf st hg
  subst hP hw hK
  obtain⟨f0,f1,f2,f3,f4,f5⟩:=hf it (by simp)
  have W:=Walks.range (prog:=X.prog) (w:=X.w) (I.ok.hd hc) it lo 1 n
  refine W.item i s _ _ hg st fun v h' tk hv st' kk=>?_
  obtain⟨t,rfl⟩:=hv
  have I1:Inv X pins σ H {s with heap:=h',toks:=tk}:=I.turned (fun b o hb e=>kk b o (by simpa using hb) e) f0 f1 f3 f4 f5
  refine⟨_,rfl,go_of (s:={s with heap:=h',toks:=tk}) (n:="range_iterator") st' rfl rfl (by decide) ⟨.int (lo + i),H,I1,⟨t,?_⟩,⟨rfl,rfl⟩,st',fun b hb=>(hf b hb).1⟩⟩
  rw [Int.mul_one]
 done:=by
  intro X hP hw hK hc i pins s σ H E I hf st hg
  subst hP hw hK
  obtain⟨f0,f1,f2,f3,f4,f5⟩:=hf it (by simp)
  exact wpAny_pyNext_range_end (I.ok.hd hc) st (by have:n<=i:=hg;omega) fun h' eb=>⟨rfl,I.turned (t':=s.toks) (fun b o hb e=>eb b o hb e) f0 f1 f3 f4 f5⟩
 self:=fun _ _ _ _ _ st h=>wpAny_pyIter_rangeiter st h
end L2
namespace L2
open PySem PySem.Spec PyProof.Rows
section
variable {X:Cx}{tg:Expr}
def iList (K:PySem.W.Frag)(tl:TE):TI:=fun σ H R=>tl σ H fun x H1=>∃a,x=.ref a/\(∃xs,SqL K H1 a xs)/\R (Itl K a) H1
theorem pi_list {l:Expr}{tl:TE}(hl:PE X l tl):PI X tg l (iList X.K tl):=by
 intro pins s σ H R I h
 refine thn (hl pins s σ H _ I h) fun v s1 ⟨x,H1,I1,r1,q1⟩=>?_
 obtain⟨a,e,⟨xs,hq⟩,q⟩:=q1
 subst e
 cases r1
 obtain⟨its,rv,p,hz⟩:=I1.list hq
 refine wpAny_pyIter_list p.isList ?_
 refine⟨s1.heap.objs.size,[s1.heap.objs.size],_,_,H1,rfl,I1.kept (t':=s1.toks) fun b o e=>Heap.get?_push_of_some _ e,turn_list a _,⟨_,Heap.get?_push_size _ rfl,rfl,rfl⟩,fun b hb=>?_,q⟩
 have e:b=s1.heap.objs.size:=by simpa using hb
 subst e
 exact I1.fpOk (Nat.le_refl _) (I1.hok.fresh (Nat.le_refl _))
theorem range_it {pins:List (Addr×Obj)}{σ:St}{H:Hp}{s:Shared}{R:It->Hp->Prop}{E:Value->Shared->Prop}{lo hi:Int}{t u v:Tok}{tk:Nat}(I:Inv X pins σ H s)(h1: -(2 ^ 62)<=lo)(h2:lo < 2 ^ 62)(h3: -(2 ^ 62)<=hi)(h4:hi < 2 ^ 62)
  (q:R (Itr lo (hi - lo).toNat) H):wpAny (model X.prog X.w) X.A (pyIter (.ref s.heap.objs.size)) (PIE X pins σ tg R) E {s with heap:=s.heap.push {cls:=.type "range",data:=.fields #[.int lo t,.int hi u,.int 1 v]},toks:=tk}:=by
 refine wpAny_pyIter_range (IsRange.new ..) (small_one h1 h2 h3 h4) ?_
 have I1:Inv X pins σ H {s with heap:=s.heap.push {cls:=.type "range",data:=.fields #[.int lo t,.int hi u,.int 1 v]},toks:=tk}:=I.kept fun b o e=>Heap.get?_push_of_some _ e
 refine⟨(s.heap.push {cls:=.type "range",data:=.fields #[.int lo t,.int hi u,.int 1 v]}).objs.size,[(s.heap.push {cls:=.type "range",data:=.fields #[.int lo t,.int hi u,.int 1 v]}).objs.size],_,_,H,rfl,
  I1.kept (t':=tk) fun b o e=>Heap.get?_push_of_some _ e,turn_range _ lo (hi - lo).toNat,?_,fun b hb=>?_,q⟩
 ·have e1:lo + ((0:Nat):Int) * 1=lo:=by simp
  have e2:(((hi - lo).toNat:Nat):Int) - ((0:Nat):Int)=Builtin.Range.rangeSize lo hi 1:=by rw [rangeSize_one];split <;> omega
  show IsRangeIter _ _ (lo + ((0:Nat):Int) * 1) ((((hi - lo).toNat:Nat):Int) - ((0:Nat):Int)) 1
  rw [e1,e2]
  exact Heap.get?_push_size _ rfl
 ·have e:b=(s.heap.push {cls:=.type "range",data:=.fields #[.int lo t,.int hi u,.int 1 v]}).objs.size:=by simpa using hb
  subst e
  exact I1.fpOk (Nat.le_refl _) (I1.hok.fresh (Nat.le_refl _))
def iRng1 (ta:TA):TI:=fun σ H R=>ta σ H fun vs H1=>∃j:Int,vs= [.int j]/\ -(2 ^ 62)<=j/\j < 2 ^ 62/\R (Itr 0 j.toNat) H1
def iRng2 (ta:TA):TI:=fun σ H R=>ta σ H fun vs H1=>∃i j:Int,vs= [.int i,.int j]/\(-(2 ^ 62)<=i/\i < 2 ^ 62/\ -(2 ^ 62)<=j/\j < 2 ^ 62)/\R (Itr i (j - i).toNat) H1
theorem pi_range1 {a:Expr}{ta:TA}{p pos:Pos}(hg:Gl X "range")(hm:X.mg "range"=none)(ha:PA X [a] ta)(hs:starEach [a] X.env= [(false,eval a X.env)]:=by rfl):PI X tg (.Call (.Name "range" p) [a] [] pos) (iRng1 ta):=by
 intro pins s σ H R I h
 refine Call_ (ld_blt I hg hm boot_range (PyProof.Rows.callWith_type1 (thn (ha pos pins s σ H _ I h) fun us s1 ⟨vs,H1,I1,r1,q1⟩=>?_) hs rfl))
 obtain⟨j,e,q1,q2,q⟩:=q1
 subst e
 cases r1 with
 |cons r rr=>
  cases rr
  obtain⟨t,rfl⟩:=r
  exact call_range_1 (range_it I1 (by omega) (by omega) q1 q2 (by simpa using q))
theorem pi_range2 {a b:Expr}{ta:TA}{p pos:Pos}(hg:Gl X "range")(hm:X.mg "range"=none)(ha:PA X [a,b] ta)(hs:starEach [a,b] X.env= [(false,eval a X.env),(false,eval b X.env)]:=by rfl)(hs2:starEach [b] X.env= [(false,eval b X.env)]:=by rfl) :
  PI X tg (.Call (.Name "range" p) [a,b] [] pos) (iRng2 ta):=by
 intro pins s σ H R I h
 refine Call_ (ld_blt I hg hm boot_range (PyProof.Rows.callWith_type1 (thn (ha pos pins s σ H _ I h) fun us s1 ⟨vs,H1,I1,r1,q1⟩=>?_) (by rw [hs,hs2]) (by rw [hs2];rfl)))
 obtain⟨i,j,e,⟨q1,q2,q3,q4⟩,q⟩:=q1
 subst e
 cases r1 with
 |cons r rr=>
  cases rr with
  |cons r' rr=>
   cases rr
   obtain⟨t,rfl⟩:=r
   obtain⟨t',rfl⟩:=r'
   exact call_range_2 (range_it I1 q1 q2 q3 q4 q)
def tFor (wi:TI)(g:TG)(tb:TS):TS:=fun D σ H=>wi σ H fun J H1=>∃W:Nat->Nat->St->Hp->Prop,(∃m,W 0 m σ H1)/\∀i m σ H,W i m σ H->
 (J.stop i H/\D.nx σ H)\/(J.go i H/\∃N:St->Hp->Prop,(∀σ' H',N σ' H'->∃m',m' < m/\W (i + 1) m' σ' H')/\∀x H',J.yld i H x H'->g x σ H' fun σ2 H2=>tb {D with nx:=N,ct:=N,bk:=D.nx} σ2 H2)
def pinsAt (fp:List Addr)(h:Heap):List (Addr×Obj):=fp.filterMap fun b=>(h.get? b).map fun o=>(b,o)
theorem mem_pinsAt {fp:List Addr}{h:Heap}{b:Addr}{o:Obj}(hb:b∈fp)(e:h.get? b=some o):(b,o)∈pinsAt fp h:=List.mem_filterMap.mpr ⟨b,hb,by rw [e];rfl⟩
theorem of_pinsAt {fp:List Addr}{h:Heap}{p:Addr×Obj}(hp:p∈pinsAt fp h):p.1∈fp/\h.get? p.1=some p.2:=by
 obtain⟨b,hb,e⟩:=List.mem_filterMap.mp hp
 cases q:h.get? b with
 |none=>rw [q] at e;cases e
 |some o=>
  rw [q] at e
  have e':(b,o)=p:=Option.some.inj e
  subst e'
  exact⟨hb,q⟩
theorem Inv.pinned {pins:List (Addr×Obj)}{σ:St}{H:Hp}{s:Shared}{fp:List Addr}(I:Inv X pins σ H s)(hf:∀b∈fp,FpOk X pins H b)(ho:∀b∈fp,∃o,s.heap.get? b=some o/\∀v,o.data≠.cell v):Inv X (pins ++ pinsAt fp s.heap) σ H s:=
 I.pins_of fun p hp=>(List.mem_append.mp hp).elim (fun z=>I.pin p (List.mem_append_right _ z)) fun z=>by
  obtain⟨hb,e⟩:=of_pinsAt z
  obtain⟨f0,f1,f2,_⟩:=hf p.1 hb
  obtain⟨o,e',d⟩:=ho p.1 hb
  rw [e] at e';cases e'
  exact⟨e,f0,f1,f2,d⟩
theorem Inv.unpinned {pins pl:List (Addr×Obj)}{σ:St}{H:Hp}{s:Shared}(I:Inv X (pins ++ pl) σ H s):Inv X pins σ H s:=I.pins_of fun p hp=>I.pin p (List.mem_append_right _ (List.mem_append_left _ hp))
theorem ps_for {iter:Expr}{body:List Stmt}{wi:TI}{g:TG}{tb:TS}{pos:Pos}(hp:PassesOwn (model X.prog X.w) X.A X.env X.xe)(hc:X.calm=true)(hi:PI X tg iter wi)(hg:PG X tg g)(hb:PSs X body tb)
  (hs:∀x,foldedSetIterable iter X.env x=pure x:=by intro _;rfl):PS X (.For tg iter body [] pos) (tFor wi g tb):=by
 intro pins s σ H D I h
 refine wpAny_For (thn (hi pins s σ H _ I h) fun v s1 h1=>thn h1 fun itv s2 h2=>?_) hs
 obtain⟨it,fp,tn,J,H2,e,I2,T,st2,f2,W,⟨m0,w0⟩,turn⟩:=h2
 subst e
 have stat:∀{H':Hp},(∀b∈fp,H' b=none)->∀b∈fp,FpOk X pins H' b:=fun hn b hb=>⟨hn b hb,(f2 b hb).2⟩
 refine codeAny_forLoop_any (fun n s'=>∃i σ' H',Inv X pins σ' H' s'/\tn i s'.heap/\(∀b∈fp,H' b=none)/\W i n σ' H') ?_ m0 ⟨0,σ,H2,I2,st2,fun b hb=>(f2 b hb).1,w0⟩
 rintro n s3 ⟨i,σ3,H3,I3,st3,fr3,w3⟩
 rcases turn i n σ3 H3 w3 with⟨stop,qn⟩ | ⟨go,N,hN,step⟩
 ·refine wpAny_passesOwn hp (thn (T.done X rfl rfl rfl hc i pins s3 σ3 H3 X.xe I3 (stat fr3) st3 stop) fun r s4 ⟨hr,I4⟩=>?_)
  subst hr
  exact wpAny_execs_nil ⟨σ3,H3,I4,qn⟩
 ·refine wpAny_passesOwn hp (thn (T.item X rfl rfl rfl hc i pins s3 σ3 H3 X.xe I3 (stat fr3) st3 go) fun r s4 ⟨u,hr,h4⟩=>?_)
  subst hr
  refine wpAny_passesOwn hp (thn h4 fun _ s5 ⟨x,H5,I5,r5,y5,st5,fr5⟩=>?_)
  have I5':=I5.pinned (stat fr5) (T.obj _ _ st5)
  refine wpAny_passesOwn hp (thn (hg _ s5 σ3 H5 x u _ I5' r5 (step x H5 y5)) fun _ s6 ⟨σ6,H6,I6,q6⟩=>?_)
  refine wpAny_passesOwn hp (thn (hb _ s6 σ6 H6 _ I6 q6) fun f s7 q7=>?_)
  have again:∀{σ7:St} {H7:Hp},Inv X (pins ++ pinsAt fp s5.heap) σ7 H7 s7->N σ7 H7->∃m,m < n/\∃i σ' H',Inv X pins σ' H' s7/\tn i s7.heap/\(∀b∈fp,H' b=none)/\W i m σ' H':=fun {σ7 H7} I7 n7=>by
   obtain⟨m',hm,w7⟩:=hN σ7 H7 n7
   refine⟨m',hm,i + 1,σ7,H7,I7.unpinned,T.keep _ _ _ st5 fun b hb o e=>(I7.pin (b,o) (List.mem_append_right _ (List.mem_append_right _ (mem_pinsAt hb e)))).1,fun b hb=>?_,w7⟩
   obtain⟨o,e,d⟩:=T.obj _ _ st5 b hb
   exact (I7.pin (b,o) (List.mem_append_right _ (List.mem_append_right _ (mem_pinsAt hb e)))).2.1
  cases f with
  |next=>obtain⟨σ7,H7,I7,n7⟩:=q7;exact again I7 n7
  |cont=>obtain⟨σ7,H7,I7,n7⟩:=q7;exact again I7 n7
  |brk=>obtain⟨σ7,H7,I7,q7⟩:=q7;exact⟨σ7,H7,I7.unpinned,q7⟩
  |ret v=>obtain⟨x7,σ7,H7,I7,r7,q7⟩:=q7;exact⟨x7,σ7,H7,I7.unpinned,r7,q7⟩
end
theorem for_list {K:PySem.W.Frag}{a:Addr}{xs:List V}{g:TG}{tb:TS}{D:Ends}{σ:St}{H:Hp}(Pv:Nat->St->Hp->Prop)(h0:Pv 0 σ H)(hl:∀i σ H,i<=xs.length->Pv i σ H->SqL K H a xs)
  (hs:∀i x σ H,xs[i]? =some x->Pv i σ H->g x σ H fun σ2 H2=>tb {D with nx:=Pv (i + 1),ct:=Pv (i + 1),bk:=D.nx} σ2 H2) (hd:∀σ H,Pv xs.length σ H->D.nx σ H) :
  ∃W:Nat->Nat->St->Hp->Prop,(∃m,W 0 m σ H)/\∀i m σ H,W i m σ H->
   ((Itl K a).stop i H/\D.nx σ H)\/((Itl K a).go i H/\∃N:St->Hp->Prop,(∀σ' H',N σ' H'->∃m',m' < m/\W (i + 1) m' σ' H')/\∀x H',(Itl K a).yld i H x H'->g x σ H' fun σ2 H2=>tb {D with nx:=N,ct:=N,bk:=D.nx} σ2 H2):=by
 refine⟨fun i m σ H=>m=xs.length - i/\i<=xs.length/\Pv i σ H,⟨xs.length,by simp,Nat.zero_le _,h0⟩,?_⟩
 rintro i m σ H ⟨rfl,hi,p⟩
 have q:=hl i σ H hi p
 by_cases hlt:i < xs.length
 ·refine .inr ⟨⟨xs,xs[i],q,by simp [hlt]⟩,Pv (i + 1),fun σ' H' p'=>⟨xs.length - (i + 1),by omega,rfl,hlt,p'⟩,fun x H' y=>?_⟩
  obtain⟨e,y⟩:=y
  subst e
  exact hs i x σ _ (y xs q) p
 ·have e:i=xs.length:=by omega
  subst e
  exact .inl ⟨⟨xs,q,Nat.le_refl _⟩,hd σ H p⟩
theorem for_tup {K:PySem.W.Frag}{a:Addr}{xs:List V}{g:TG}{tb:TS}{D:Ends}{σ:St}{H:Hp}(Pv:Nat->St->Hp->Prop)(h0:Pv 0 σ H)(hl:∀i σ H,i<=xs.length->Pv i σ H->SqT K H a xs)
  (hs:∀i x σ H,xs[i]? =some x->Pv i σ H->g x σ H fun σ2 H2=>tb {D with nx:=Pv (i + 1),ct:=Pv (i + 1),bk:=D.nx} σ2 H2) (hd:∀σ H,Pv xs.length σ H->D.nx σ H) :
  ∃W:Nat->Nat->St->Hp->Prop,(∃m,W 0 m σ H)/\∀i m σ H,W i m σ H->
   ((Itt K a).stop i H/\D.nx σ H)\/((Itt K a).go i H/\∃N:St->Hp->Prop,(∀σ' H',N σ' H'->∃m',m' < m/\W (i + 1) m' σ' H')/\∀x H',(Itt K a).yld i H x H'->g x σ H' fun σ2 H2=>tb {D with nx:=N,ct:=N,bk:=D.nx} σ2 H2):=by
 refine⟨fun i m σ H=>m=xs.length - i/\i<=xs.length/\Pv i σ H,⟨xs.length,by simp,Nat.zero_le _,h0⟩,?_⟩
 rintro i m σ H ⟨rfl,hi,p⟩
 have q:=hl i σ H hi p
 by_cases hlt:i < xs.length
 ·refine .inr ⟨⟨xs,xs[i],q,by simp [hlt]⟩,Pv (i + 1),fun σ' H' p'=>⟨xs.length - (i + 1),by omega,rfl,hlt,p'⟩,fun x H' y=>?_⟩
  obtain⟨e,y⟩:=y
  subst e
  exact hs i x σ _ (y xs q) p
 ·have e:i=xs.length:=by omega
  subst e
  exact .inl ⟨⟨xs,q,Nat.le_refl _⟩,hd σ H p⟩
theorem for_range {lo:Int}{n:Nat}{g:TG}{tb:TS}{D:Ends}{σ:St}{H:Hp}(Pv:Nat->St->Hp->Prop)(h0:Pv 0 σ H)
  (hs:∀i σ H,i < n->Pv i σ H->g (.int (lo + i)) σ H fun σ2 H2=>tb {D with nx:=Pv (i + 1),ct:=Pv (i + 1),bk:=D.nx} σ2 H2) (hd:∀σ H,Pv n σ H->D.nx σ H) :
  ∃W:Nat->Nat->St->Hp->Prop,(∃m,W 0 m σ H)/\∀i m σ H,W i m σ H->
   ((Itr lo n).stop i H/\D.nx σ H)\/((Itr lo n).go i H/\∃N:St->Hp->Prop,(∀σ' H',N σ' H'->∃m',m' < m/\W (i + 1) m' σ' H')/\∀x H',(Itr lo n).yld i H x H'->g x σ H' fun σ2 H2=>tb {D with nx:=N,ct:=N,bk:=D.nx} σ2 H2):=by
 refine⟨fun i m σ H=>m=n - i/\i<=n/\Pv i σ H,⟨n,by simp,Nat.zero_le _,h0⟩,?_⟩
 rintro i m σ H ⟨rfl,hi,p⟩
 by_cases hlt:i < n
 ·refine .inr ⟨hlt,Pv (i + 1),fun σ' H' p'=>⟨n - (i + 1),by omega,rfl,hlt,p'⟩,fun x H' y=>?_⟩
  obtain⟨e,y⟩:=y
  subst e y
  exact hs i σ _ hlt p
 ·have e:i=n:=by omega
  subst e
  exact .inl ⟨Nat.le_refl _,hd σ H p⟩
end L2
namespace L2
open PySem PySem.Spec PyProof.Rows
abbrev R2:=V->V->Hp->VK->Prop
def OpR (X:Cx)(f:Value->Value->Sem Value)(r:R2):Prop:=
 ∀(pins:List (Addr×Obj)) (s:Shared) (σ:St) (H:Hp) (x y:V) (v u:Value) (Q:VK),Inv X pins σ H s->RelV x v->RelV y u->r x y H Q->
  wpAny (model X.prog X.w) X.A (f v u) (EP X pins σ Q) X.xe s
def UnR (X:Cx)(f:Value->Sem Value)(r:V->Hp->VK->Prop):Prop:=
 ∀(pins:List (Addr×Obj)) (s:Shared) (σ:St) (H:Hp) (x:V) (v:Value) (Q:VK),Inv X pins σ H s->RelV x v->r x H Q->
  wpAny (model X.prog X.w) X.A (f v) (EP X pins σ Q) X.xe s
def CallR (X:Cx)(f:Value)(r:List V->Hp->VK->Prop):Prop:=
 ∀(pins:List (Addr×Obj)) (s:Shared) (σ:St) (H:Hp) (xs:List V) (us:List Value) (Q:VK),Inv X pins σ H s->Vals xs us->r xs H Q->
  wpAny (model X.prog X.w) X.A (call f us) (EP X pins σ Q) X.xe s
def TruR (X:Cx)(r:V->Hp->(Bool->Hp->Prop)->Prop):Prop:=
 ∀(pins:List (Addr×Obj)) (s:Shared) (σ:St) (H:Hp) (x:V) (v:Value) (Q:Bool->Hp->Prop),Inv X pins σ H s->RelV x v->r x H Q->
  wpAny (model X.prog X.w) X.A (truthy v) (TP X pins σ Q) X.xe s
def tOp (r:R2)(ta tb:TE):TE:=fun σ H Q=>ta σ H fun x H1=>tb σ H1 fun y H2=>r x y H2 Q
def tUn (r:V->Hp->VK->Prop)(ta:TE):TE:=fun σ H Q=>ta σ H fun x H1=>r x H1 Q
def rI (C:Int->Int->Prop)(g:Int->Int->V):R2:=fun x y H Q=>∃i j,x=.int i/\y=.int j/\C i j/\Q (g i j) H
def rI0 (g:Int->Int->V):R2:=fun x y H Q=>∃i j,x=.int i/\y=.int j/\Q (g i j) H
def rU (g:Int->V):V->Hp->VK->Prop:=fun x H Q=>∃i,x=.int i/\Q (g i) H
section
variable {X:Cx}{a b c:Expr}{ta tb tc:TE}{pos:Pos}
theorem binT (ha:PE X a ta)(hb:PE X b tb){pins:List (Addr×Obj)}{s:Shared}{σ:St}{H:Hp}{R:V->V->Hp->Prop}(I:Inv X pins σ H s)
  (h:ta σ H fun x H1=>tb σ H1 fun y H2=>R x y H2) {Q:Value->Shared->Prop} {f:Value->Value->Sem Value}
  (hf:∀v u s2 x y H2,Inv X pins σ H2 s2->RelV x v->RelV y u->R x y H2->wpAny (model X.prog X.w) X.A (f v u) Q X.xe s2) :
  wpAny (model X.prog X.w) X.A (eval a X.env) (fun v s₁=>wpAny (model X.prog X.w) X.A (eval b X.env) (fun u s₂=>wpAny (model X.prog X.w) X.A (f v u) Q X.xe s₂) X.xe s₁) X.xe s:=by
 refine thn (ha pins s σ H _ I h) fun v s1 ⟨x,H1,I1,r1,q1⟩=>?_
 refine thn (hb pins s1 σ H1 _ I1 q1) fun u s2 ⟨y,H2,I2,r2,q2⟩=>?_
 exact hf v u s2 x y H2 I2 r1 r2 q2
theorem pe_op {op:Operator}{r:R2}(ho:OpR X (binaryOp op) r)(ha:PE X a ta)(hb:PE X b tb):PE X (.BinOp a op b pos) (tOp r ta tb):=by
 intro pins s σ H Q I h
 exact wpAny_BinOp (binT ha hb I h fun v u s2 x y H2 I2 rx ry q=>ho pins s2 σ H2 x y v u Q I2 rx ry q)
theorem pe_un {op:UnaryOp}{r:V->Hp->VK->Prop}(ho:UnR X (unaryOp op) r)(ha:PE X a ta):PE X (.UnaryOp op a pos) (tUn r ta):=by
 intro pins s σ H Q I h
 exact UnaryOp_ (thn (ha pins s σ H _ I h) fun v s1 ⟨x,H1,I1,r1,q1⟩=>ho pins s1 σ H1 x v Q I1 r1 q1)
theorem opI {f:Value->Value->Sem Value}{C:Int->Int->Prop}{g:Int->Int->Int}
  (rule:∀(i j:Int) (t u:Tok) (s:Shared) (Q:Value->Shared->Prop) (E:Value->Shared->Prop),C i j->Q (.int (g i j) s.toks) {s with toks:=s.toks + 1}->wpAny (model X.prog X.w) X.A (f (.int i t) (.int j u)) Q E s) :
  OpR X f (rI C fun i j=>.int (g i j)):=by
 intro pins s σ H x y v u Q I rx ry h
 obtain⟨i,j,rfl,rfl,hc,q⟩:=h
 obtain⟨t,rfl⟩:=rx
 obtain⟨t',rfl⟩:=ry
 exact rule i j t t' s _ _ hc ⟨.int (g i j),H,I.tok _,⟨_,rfl⟩,q⟩
theorem opI0 {f:Value->Value->Sem Value}{g:Int->Int->Int}
  (rule:∀(i j:Int) (t u:Tok) (s:Shared) (Q:Value->Shared->Prop) (E:Value->Shared->Prop),Q (.int (g i j) s.toks) {s with toks:=s.toks + 1}->wpAny (model X.prog X.w) X.A (f (.int i t) (.int j u)) Q E s) :
  OpR X f (rI0 fun i j=>.int (g i j)):=by
 intro pins s σ H x y v u Q I rx ry h
 obtain⟨i,j,rfl,rfl,q⟩:=h
 obtain⟨t,rfl⟩:=rx
 obtain⟨t',rfl⟩:=ry
 exact rule i j t t' s _ _ ⟨.int (g i j),H,I.tok _,⟨_,rfl⟩,q⟩
theorem opB0 {f:Value->Value->Sem Value}{g:Int->Int->Bool}
  (rule:∀(i j:Int) (t u:Tok) (s:Shared) (Q:Value->Shared->Prop) (E:Value->Shared->Prop),Q (.bool (g i j)) s->wpAny (model X.prog X.w) X.A (f (.int i t) (.int j u)) Q E s) :
  OpR X f (rI0 fun i j=>.bl (g i j)):=by
 intro pins s σ H x y v u Q I rx ry h
 obtain⟨i,j,rfl,rfl,q⟩:=h
 obtain⟨t,rfl⟩:=rx
 obtain⟨t',rfl⟩:=ry
 exact rule i j t t' s _ _ ⟨.bl (g i j),H,I,rfl,q⟩
def CDiv (i j:Int):Prop:=0 < j/\j < 1073741824
def CPow (i j:Int):Prop:=0<=j/\j<=1000000/\i.natAbs < 2 ^ 64
def CMul (i j:Int):Prop:=(-(2 ^ 64) < i/\i < 2 ^ 64)\/(-(2 ^ 64) < j/\j < 2 ^ 64)
theorem CMul.ok {i j:Int}(h:CMul i j):IntMulOk i j:=by
 rcases h with⟨h1,h2⟩ | ⟨h1,h2⟩
 ·exact .of_left (intBits_le_64 h1 h2)
 ·exact .of_right (intBits_le_64 h1 h2)
theorem op_add:OpR X (binaryOp .Add) (rI0 fun i j=>.int (i + j)):=opI0 fun _ _ _ _ _ _ _ q=>add_int q
theorem op_sub:OpR X (binaryOp .Sub) (rI0 fun i j=>.int (i - j)):=opI0 fun _ _ _ _ _ _ _ q=>sub_int q
theorem op_mul:OpR X (binaryOp .Mult) (rI CMul fun i j=>.int (i * j)):=opI fun _ _ _ _ _ _ _ hc q=>mul_int q hc.ok
theorem op_fdiv:OpR X (binaryOp .FloorDiv) (rI CDiv fun i j=>.int (i / j)):=opI fun i j _ _ _ _ _ hc q=>by
 have h1:(0:Int) < j:=hc.1
 have h2:j < 1073741824:=hc.2
 exact floordiv_int (by omega) (by rw [Int.fdiv_eq_ediv_of_nonneg i (by omega)];exact q) (.inl (PyProof.noPylong_small (by omega)))
theorem op_mod:OpR X (binaryOp .Mod) (rI (fun _ j=>0 < j) fun i j=>.int (i % j)):=opI fun i j _ _ _ _ _ hc q=>by
 have h1:(0:Int) < j:=hc
 exact mod_int' (by omega) (by rw [Int.fmod_eq_emod_of_nonneg i (by omega)];exact q)
theorem op_pow:OpR X (binaryOp .Pow) (rI CPow fun i j=>.int (i ^ j.toNat)):=opI fun _ _ _ _ _ _ _ hc q=>pow_int_small hc.1 hc.2.1 hc.2.2 q
theorem unI {f:Value->Sem Value}{g:Int->Int}
  (rule:∀(i:Int) (t:Tok) (s:Shared) (Q:Value->Shared->Prop) (E:Value->Shared->Prop),Q (.int (g i) s.toks) {s with toks:=s.toks + 1}->wpAny (model X.prog X.w) X.A (f (.int i t)) Q E s) :
  UnR X f (rU fun i=>.int (g i)):=by
 intro pins s σ H x v Q I rx h
 obtain⟨i,rfl,q⟩:=h
 obtain⟨t,rfl⟩:=rx
 exact rule i t s _ _ ⟨.int (g i),H,I.tok _,⟨_,rfl⟩,q⟩
theorem un_neg:UnR X (unaryOp .USub) (rU fun i=>.int (-i)):=unI fun _ _ _ _ _ q=>neg_int q
end
def scal:V->V->Bool
 | .non,.non=>true | .non,.int _=>true | .int _,.non=>true | .non,.bl _=>true | .bl _,.non=>true | .non,.str _=>true | .str _,.non=>true
 | .int _,.int _=>true | .bl _,.bl _=>true | .str _,.str _=>true | .byt _,.byt _=>true
 | .int _,.str _=>true | .str _,.int _=>true | .bl _,.str _=>true | .str _,.bl _=>true
 |_,_=>false
def rNe:R2:=fun x y H Q=>scal x y=true/\Q (.bl (!decide (x=y))) H
theorem dec_int {i j:Int}:decide (V.int i=V.int j)=(i == j):=by
 rw [Bool.eq_iff_iff]
 simp
theorem dec_bl {i j:Bool}:decide (V.bl i=V.bl j)=(i == j):=by
 rw [Bool.eq_iff_iff]
 simp
theorem dec_str {i j:Str}:decide (V.str i=V.str j)=(i == j):=by
 rw [Bool.eq_iff_iff]
 simp
theorem dec_byt {i j:Array UInt8}:decide (V.byt i=V.byt j)=(i.toList == j.toList):=by
 rw [Bool.eq_iff_iff]
 cases i
 cases j
 simp
section
variable {X:Cx}{a b c:Expr}{ta tb tc:TE}{pos:Pos}
theorem fin_bl {pins:List (Addr×Obj)}{σ:St}{H:Hp}{s:Shared}{Q:VK}{k k':Bool}(I:Inv X pins σ H s)(q:Q (.bl k) H)(e:k=k'):EP X pins σ Q (.bool k') s:=by
 subst e
 exact⟨.bl k,H,I,rfl,q⟩
theorem op_ne:OpR X (compareOp .NotEq) rNe:=by
 intro pins s σ H x y v u Q I rx ry h
 obtain⟨hs,q⟩:=h
 cases x with
 |non=>
  cases rx
  cases y with
  |non=>cases ry;exact PySem.EqNone.ne_none_none (fin_bl I q (by simp))
  |bl j=>cases ry;exact PySem.EqNone.ne_none_bool (fin_bl I q (by simp))
  |int j=>obtain⟨t',rfl⟩:=ry;exact PySem.EqNone.ne_none_int (fin_bl I q (by simp))
  |str j=>obtain⟨t',rfl⟩:=ry;exact PySem.EqNone.ne_none_str (fin_bl I q (by simp))
  |_=>exact absurd (show false=true from hs) Bool.false_ne_true
 |bl i=>
  cases rx
  cases y with
  |non=>cases ry;exact PySem.EqNone.ne_bool_none (fin_bl I q (by simp))
  |bl j=>cases ry;exact ne_bool (fin_bl I q (congrArg not dec_bl))
  |str j=>obtain⟨t',rfl⟩:=ry;exact PySem.EqMixed.ne_bool_str (fin_bl I q (by simp))
  |_=>exact absurd (show false=true from hs) Bool.false_ne_true
 |int i=>
  obtain⟨t,rfl⟩:=rx
  cases y with
  |non=>cases ry;exact PySem.EqNone.ne_int_none (fin_bl I q (by simp))
  |int j=>obtain⟨t',rfl⟩:=ry;exact ne_int (fin_bl I q (congrArg not dec_int))
  |str j=>obtain⟨t',rfl⟩:=ry;exact PySem.EqMixed.ne_int_str (fin_bl I q (by simp))
  |_=>exact absurd (show false=true from hs) Bool.false_ne_true
 |str i=>
  obtain⟨t,rfl⟩:=rx
  cases y with
  |non=>cases ry;exact PySem.EqNone.ne_str_none (fin_bl I q (by simp))
  |bl j=>cases ry;exact PySem.EqMixed.ne_str_bool (fin_bl I q (by simp))
  |int j=>obtain⟨t',rfl⟩:=ry;exact PySem.EqMixed.ne_str_int (fin_bl I q (by simp))
  |str j=>obtain⟨t',rfl⟩:=ry;exact ne_str (fin_bl I q (congrArg not dec_str))
  |_=>exact absurd (show false=true from hs) Bool.false_ne_true
 |byt i=>
  obtain⟨t,rfl⟩:=rx
  cases y with
  |byt j=>obtain⟨t',rfl⟩:=ry;exact PySem.W.ne_bytes (fin_bl I q (congrArg not dec_byt))
  |_=>exact absurd (show false=true from hs) Bool.false_ne_true
 |_=>cases y <;> exact absurd (show false=true from hs) Bool.false_ne_true
theorem op_lt:OpR X (compareOp .Lt) (rI0 fun i j=>.bl (decide (i < j))):=opB0 fun _ _ _ _ _ _ _ q=>lt_int q
theorem op_le:OpR X (compareOp .LtE) (rI0 fun i j=>.bl (decide (i<=j))):=opB0 fun _ _ _ _ _ _ _ q=>le_int q
theorem op_gt:OpR X (compareOp .Gt) (rI0 fun i j=>.bl (decide (j < i))):=opB0 fun _ _ _ _ _ _ _ q=>gt_int q
theorem nomark (b:Expr){op:CmpOp}(h:op≠.In:=by decide)(h2:op≠.NotIn:=by decide):behindInMarks op b=false:=by
 have e1:(op == CmpOp.In)=false:=by cases op <;> first |rfl |exact absurd rfl h
 have e2:(op == CmpOp.NotIn)=false:=by cases op <;> first |rfl |exact absurd rfl h2
 cases b <;> simp [behindInMarks,e1,e2]
theorem pe_cmpR {op:CmpOp}{r:R2}(ho:OpR X (compareOp op) r)(ha:PE X a ta)(hb:PE X b tb)(hm:behindInMarks op b=false):PE X (.Compare a [op] [b] pos) (tOp r ta tb):=by
 intro pins s σ H Q I h
 exact wpAny_Compare1 (binT ha hb I h fun v u s2 x y H2 I2 rx ry q=>ho pins s2 σ H2 x y v u Q I2 rx ry q) hm
def tTest (t:TE):TT:=fun σ H Q=>t σ H fun x H'=>∃k,x=.bl k/\Q k H'
theorem pt_cmpR {op:CmpOp}{r:R2}(ho:OpR X (compareOp op) r)(ha:PE X a ta)(hb:PE X b tb)(hm:behindInMarks op b=false):PT X (.Compare a [op] [b] pos) (tTest (tOp r ta tb)):=by
 intro pins s σ H Q I h
 refine wpAny_isTrue_Compare1 (thn (ha pins s σ H _ I h) fun v s1 ⟨x,H1,I1,r1,q1⟩=>thn (hb pins s1 σ H1 _ I1 q1) fun u s2 ⟨y,H2,I2,r2,q2⟩=>
  thn (ho pins s2 σ H2 x y v u _ I2 r1 r2 q2) fun c s3 ⟨z,H3,I3,r3,k,e,q3⟩=>?_) hm
 subst e
 cases r3
 exact wpAny_truthy_bool ⟨H3,I3,q3⟩
def tChain (r r':R2)(ta tb tc:TE):TE:=fun σ H Q=>ta σ H fun x H1=>tb σ H1 fun y H2=>r x y H2 fun z H3=>∃k,z=.bl k/\
 (if k=true then tc σ H3 fun w' H4=>r' y w' H4 Q else Q (.bl false) H3)
theorem pe_chain {op op':CmpOp}{r r':R2}(ho:OpR X (compareOp op) r)(ho':OpR X (compareOp op') r')(ha:PE X a ta)(hb:PE X b tb)(hc:PE X c tc)
  (hm:lastMarks [op,op'] [b,c]=false:=by with_unfolding_all rfl):PE X (.Compare a [op,op'] [b,c] pos) (tChain r r' ta tb tc):=by
 intro pins s σ H Q I h
 refine Compare_chain (thn (ha pins s σ H _ I h) fun v s1 ⟨x,H1,I1,r1,q1⟩=>chain_link (thn (hb pins s1 σ H1 _ I1 q1) fun u s2 ⟨y,H2,I2,r2,q2⟩=>
  thn (ho pins s2 σ H2 x y v u _ I2 r1 r2 q2) fun d s3 ⟨z,H3,I3,r3,k,e,q3⟩=>?_)) hm
 subst e
 cases r3
 refine wpAny_truthy_bool ?_
 cases k with
 |false=>exact ite_ff ⟨.bl false,H3,I3,rfl,q3⟩
 |true=>exact ite_tt (chain_last (thn (hc pins s3 σ H3 _ I3 q3) fun w' s4 ⟨z',H4,I4,r4,q4⟩=>ho' pins s4 σ H4 y z' u w' Q I4 r2 r4 q4))
def TruV (K:PySem.W.Frag)(x:V)(H:Hp)(k:Bool):Prop:=
 match x with
 | .non=>k=false
 | .bl b=>k=b
 | .int i=>k=(i != 0)
 | .str y=>y.length<=sizeLine/\k=((y.length:Int) != 0)
 | .byt y=>y.size<=sizeLine/\k=((y.size:Int) != 0)
 | .ref p=>(∃xs,SqL K H p xs/\k= !xs.isEmpty)\/(∃xs,SqT K H p xs/\k= !xs.isEmpty)\/∃kvs,H p=some (.dK kvs)/\k= !kvs.isEmpty
 |_=>False
theorem isEmpty_kv {κ:Type}{kvs:List (κ×V)}{vs:List (κ×Value)}(r:KV kvs vs):(!vs.isEmpty)= !kvs.isEmpty:=by
 cases r <;> rfl
theorem isEmpty_of {xs:List V}{its:List Value}(r:Vals xs its):(!its.toArray.isEmpty)= !xs.isEmpty:=by
 cases r <;> simp
theorem line63:(sizeLine:Nat) < 2 ^ 63:=by rw [sizeLine_eq];decide
theorem tru_ok:TruR X (fun x H Q=>∃k,TruV X.K x H k/\Q k H):=by
 intro pins s σ H x v Q I rx h
 obtain⟨k,e,q⟩:=h
 have hl:=line63
 have hs:sizeLine=16777216:=sizeLine_eq
 cases x with
 |non=>
  cases rx
  have e':k=false:=e
  subst e'
  exact truthy_none ⟨H,I,q⟩
 |bl b=>
  cases rx
  have e':k=b:=e
  subst e'
  exact wpAny_truthy_bool ⟨H,I,q⟩
 |int i=>
  obtain⟨t,rfl⟩:=rx
  have e':k=(i != 0):=e
  subst e'
  exact PySem.P.truthy_int ⟨H,I,q⟩
 |str y=>
  obtain⟨t,rfl⟩:=rx
  obtain⟨hy,e'⟩:y.length<=sizeLine/\k=((y.length:Int) != 0):=e
  subst e'
  exact PySem.P.truthy_str (by omega) ⟨H,I.tok _,q⟩
 |byt y=>
  obtain⟨t,rfl⟩:=rx
  obtain⟨hy,e'⟩:y.size<=sizeLine/\k=((y.size:Int) != 0):=e
  subst e'
  exact PySem.W.truthy_bytes (by omega) ⟨H,I.tok _,q⟩
 |ref p=>
  cases rx
  have e':(∃xs,SqL X.K H p xs/\k= !xs.isEmpty)\/(∃xs,SqT X.K H p xs/\k= !xs.isEmpty)\/∃kvs,H p=some (.dK kvs)/\k= !kvs.isEmpty:=e
  rcases e' with⟨xs,hx,e'⟩ | ⟨xs,hx,e'⟩ | ⟨kvs,hx,e'⟩
  ·subst e'
   obtain⟨its,r,pl,hz⟩:=I.list hx
   have hlen:=r.length
   exact wpAny_truthy_list pl.isList (by simp only [List.size_toArray];omega) ⟨H,I.tok _,by rw [isEmpty_of r];exact q⟩
  ·subst e'
   obtain⟨its,r,pl,hz⟩:=I.tuple hx
   have hlen:=r.length
   exact truthy_tuple pl (by simp only [List.size_toArray];omega) ⟨H,I.tok _,by rw [isEmpty_of r];exact q⟩
  ·subst e'
   obtain⟨hz,hS,vs,r,m⟩:kvs.length<=sizeLine/\(p == sysModules)=false/\∃vs,KV kvs vs/\s.heap.DictOf (mixKind X.prog X.w) p vs:=I.hok p _ hx
   have hlen:kvs.length=vs.length:=Paired.length r
   exact wpAny_truthy_dict hS m (by omega) ⟨H,I.tok _,by rw [isEmpty_kv r];exact q⟩
 |_=>exact (show False from e).elim
theorem pt_truth (ha:PE X a ta)(he:∀whole,isTrue a X.env whole=(do let v <-whole;standAt a.pos;holding [v] (truthy v))) :
  PT X a (fun σ H Q=>ta σ H fun x H'=>∃k,TruV X.K x H' k/\Q k H'):=by
 intro pins s σ H Q I h
 exact isTrue_plain (thn (ha pins s σ H _ I h) fun v s1 ⟨x,H1,I1,r1,q1⟩=>tru_ok pins s1 σ H1 x v Q I1 r1 q1) (he _)
theorem vals1 {x:V}{us:List Value}(r:Vals [x] us):∃u,us= [u]/\RelV x u:=by
 cases r with
 |cons r1 r2=>cases r2;exact⟨_,rfl,r1⟩
theorem vals2 {x y:V}{us:List Value}(r:Vals [x,y] us):∃u w',us= [u,w']/\RelV x u/\RelV y w':=by
 cases r with
 |cons r1 r2=>
  cases r2 with
  |cons r3 r4=>cases r4;exact⟨_,_,rfl,r1,r3⟩
theorem call_abs:CallR X (.builtin "abs") (fun xs H Q=>∃i,xs= [.int i]/\Q (.int (if i < 0 then -i else i)) H):=by
 intro pins s σ H xs us Q I r h
 obtain⟨i,rfl,q⟩:=h
 obtain⟨u,rfl,t,rfl⟩:=vals1 r
 exact call_abs_int fun u tk=>⟨.int (if i < 0 then -i else i),H,I.tok _,⟨_,rfl⟩,q⟩
theorem call_max2 (hc:X.calm=true):CallR X (.builtin "max") (fun xs H Q=>∃i j,xs= [.int i,.int j]/\Q (.int (if j > i then j else i)) H):=by
 intro pins s σ H xs us Q I r h
 obtain⟨i,j,rfl,q⟩:=h
 obtain⟨u,w',rfl,⟨t,rfl⟩,⟨t',rfl⟩⟩:=vals2 r
 refine max_two_ints (I.ok.hd hc) fun h' tk k=>⟨_,H,I.kept k,?_,q⟩
 by_cases hj:j > i
 ·rw [if_pos hj,if_pos hj];exact⟨_,rfl⟩
 ·rw [if_neg hj,if_neg hj];exact⟨_,rfl⟩
theorem call_min2 (hc:X.calm=true):CallR X (.builtin "min") (fun xs H Q=>∃i j,xs= [.int i,.int j]/\Q (.int (if j < i then j else i)) H):=by
 intro pins s σ H xs us Q I r h
 obtain⟨i,j,rfl,q⟩:=h
 obtain⟨u,w',rfl,⟨t,rfl⟩,⟨t',rfl⟩⟩:=vals2 r
 refine min_two_ints (I.ok.hd hc) fun h' tk k=>⟨_,H,I.kept k,?_,q⟩
 by_cases hj:j < i
 ·rw [if_pos hj,if_pos hj];exact⟨_,rfl⟩
 ·rw [if_neg hj,if_neg hj];exact⟨_,rfl⟩
def LenV (K:PySem.W.Frag)(x:V)(H:Hp)(n:Nat):Prop:=
 match x with
 | .str y=>y.length<=sizeLine/\n=y.length
 | .byt y=>y.size<=sizeLine/\n=y.size
 | .ref p=>(∃xs,SqL K H p xs/\n=xs.length)\/∃xs,SqT K H p xs/\n=xs.length
 |_=>False
theorem call_len:CallR X (.builtin "len") (fun xs H Q=>∃x n,xs= [x]/\LenV X.K x H n/\Q (.int n) H):=by
 intro pins s σ H xs us Q I r h
 obtain⟨x,n,rfl,e,q⟩:=h
 obtain⟨u,rfl,rx⟩:=vals1 r
 have hl:=line63
 have hs:sizeLine=16777216:=sizeLine_eq
 cases x with
 |str y=>
  obtain⟨t,rfl⟩:=rx
  obtain⟨hy,e'⟩:y.length<=sizeLine/\n=y.length:=e
  subst e'
  exact len_str (by omega) ⟨.int _,H,I.tok _,⟨_,rfl⟩,q⟩
 |byt y=>
  obtain⟨t,rfl⟩:=rx
  obtain⟨hy,e'⟩:y.size<=sizeLine/\n=y.size:=e
  subst e'
  exact PySem.W.len_bytes (by omega) ⟨.int _,H,I.tok _,⟨_,rfl⟩,q⟩
 |ref p=>
  cases rx
  have e':(∃xs,SqL X.K H p xs/\n=xs.length)\/∃xs,SqT X.K H p xs/\n=xs.length:=e
  rcases e' with⟨xs,hx,e'⟩ | ⟨xs,hx,e'⟩
  ·subst e'
   obtain⟨its,r',pl,hz⟩:=I.list hx
   have hlen:=r'.length
   exact Calls.call_len_list pl.isList (by simp only [List.size_toArray];omega) ⟨.int xs.length,H,I.tok _,⟨_,by simp only [List.size_toArray];rw [hlen]⟩,q⟩
  ·subst e'
   obtain⟨its,r',pl,hz⟩:=I.tuple hx
   have hlen:=r'.length
   exact len_tuple pl (by simp only [List.size_toArray];omega) ⟨.int xs.length,H,I.tok _,⟨_,by simp only [List.size_toArray];rw [hlen]⟩,q⟩
 |_=>exact (show False from e).elim
theorem call_divmod:CallR X (.builtin "divmod") (fun xs H Q=>∃i j,xs= [.int i,.int j]/\CDiv i j/\∀p,H p=none->Q (.ref p) (upd H p (.tup [.int (i / j),.int (i % j)]))):=by
 intro pins s σ H xs us Q I r h
 obtain⟨i,j,rfl,⟨h1,h2⟩,q⟩:=h
 obtain⟨u,w',rfl,⟨t,rfl⟩,⟨t',rfl⟩⟩:=vals2 r
 refine divmod_int (by omega) ?_ (.inl (PyProof.noPylong_small (by omega)))
 rw [Int.fdiv_eq_ediv_of_nonneg i (by omega),Int.fmod_eq_emod_of_nonneg i (by omega)]
 have hn:H s.heap.objs.size=none:=I.hok.fresh (Nat.le_refl _)
 refine⟨.ref s.heap.objs.size,_,?_,rfl,q _ hn⟩
 refine I.laid (fun b o e=>Heap.get?_push_of_some _ e) (Nat.le_refl _) ⟨by simp only [List.length_cons,List.length_nil];rw [sizeLine_eq];decide,[.int (i / j) s.toks,.int (i % j) (s.toks + 1)],.cons ⟨_,rfl⟩ (.cons ⟨_,rfl⟩ .nil),?_⟩
 exact⟨_,Heap.get?_push_size s.heap rfl,rfl,0,rfl,rfl⟩
end
end L2
namespace L2
open PySem PySem.Spec PyProof.Rows
structure ObjM (h:Heap)(x dx C:Addr)(mA:Str->Option Value):Prop where
 obj:h.get? x=some (PySem.W.instObj C dx)
 ns:h.Ns1 dx mA
 ne:dx≠x
theorem lookIn_ns {h:Heap}{dx:Addr}{mA:Str->Option Value}(n:h.Ns1 dx mA):∃od,h.get? dx=some od/\∀name,PySem.W.lookIn name od=some (mA name):=by
 obtain⟨o,es,ep,ho,hd,hk,_,hm⟩:=n
 refine⟨o,ho,fun name=>?_⟩
 have e:=hm name
 unfold nsFind findBy at e
 rw [<-Array.find?_toList] at e
 unfold PySem.W.lookIn
 rw [hd]
 dsimp only
 split
 ·rename_i y q
  rw [q] at e
  exact congrArg some e
 ·rename_i q
  rw [q] at e
  have a:es.toList.any (·.refKey)=false:=by
   rw [List.any_eq_false]
   intro y hy
   obtain⟨z,t,hkey⟩:=hk y (Array.mem_toList_iff.mp hy)
   simp [DictEntry.refKey,hkey]
  have a':¬es.toList.any (·.refKey)=true:=by rw [a];exact Bool.false_ne_true
  rw [if_neg a']
  exact congrArg some e
theorem ObjM.look {h:Heap}{x dx C:Addr}{mA:Str->Option Value}(I:ObjM h x dx C mA):∃od,PySem.W.InstAt h x (PySem.W.instObj C dx) C (some od)/\∀name,PySem.W.lookIn name od=some (mA name):=
 let ⟨od,ho,hl⟩:=lookIn_ns I.ns
 ⟨od,⟨I.obj,rfl,rfl,ho⟩,hl⟩
section
variable {P:Program}{w:World}{H H':Hp}{h h':Heap}{a C dx:Addr}{fs fs':List (Str×V)}
theorem ins_get (hok:HOk P w H h)(e:H a=some (.ins C dx fs)):∃mA,ObjM h a dx C mA/\(∀f,RelO (fs.lookup f) (mA f))/\PySem.Within mA (fs.map (·.1))/\fs.length<=1000/\H dx=some (.own a):=by
 obtain⟨d,z,ne,ob,mA,n,r,q⟩:=(show ObjOk P w H h a (.ins C dx fs) from hok a _ e)
 exact⟨mA,⟨ob,n,ne⟩,r,q,z,d⟩
end
structure Cls (K:PySem.W.Frag)(C:Addr):Prop where
 pg:PySem.W.plainGet K C Str.empty=true
 hd:PySem.W.hasDictIn K C=true
 po:PySem.W.plainOver K C=true
 sa:PySem.W.findIn K (.ref C) "__setattr__"=some (some (.builtin "object.__setattr__"))
theorem Cls.get {K:PySem.W.Frag}{C:Addr}(c:Cls K C)(f:Str):PySem.W.plainGet K C f=true:=c.pg
section
variable {X:Cx}{pins:List (Addr×Obj)}{σ:St}{H:Hp}{s:Shared}{A:Around}{E:Value->Shared->Prop}{Q:Value->Shared->Prop}{c:Value}{b:Bool}
inductive TyOf (K:PySem.W.Frag)(H:Hp):V->Value->Prop where
 |non:TyOf K H .non (.type "NoneType")
 |bl (x:Bool):TyOf K H (.bl x) (.type "bool")
 |int (i:Int):TyOf K H (.int i) (.type "int")
 |str (x:Str):TyOf K H (.str x) (.type "str")
 |flt (x:UInt64):TyOf K H (.flt x) (.type "float")
 |lst {a:Addr} {xs:List V} (e:H a=some (.lst xs)):TyOf K H (.ref a) (.type "list")
 |frz {a:Addr} {o:Obj} {xs:List V} (e:H a=some (.frz o (.lst xs))):TyOf K H (.ref a) (.type "list")
 |tup {a:Addr} {xs:List V} (e:H a=some (.tup xs)):TyOf K H (.ref a) (.type "tuple")
 |dK {a:Addr} {kvs:List (Key×V)} (e:H a=some (.dK kvs)):TyOf K H (.ref a) (.type "dict")
 |dT {a:Addr} {kvs:List (List Key×V)} (e:H a=some (.dT kvs)):TyOf K H (.ref a) (.type "dict")
 |ins {a C dx:Addr} {fs:List (Str×V)} (e:H a=some (.ins C dx fs)) (cl:Cls K C) (ha:PySem.W.findIn K (.ref C) "__class__"=some (some (.builtin "object.__class__")))
   (hn:PySem.W.specialIn K (.builtin "object.__class__") "__get__"=some (some (.builtin "getset_descriptor.__get__"))) (htk:PySem.W.takesIn K (.builtin "object.__class__")=some true)
   (hm:PySem.W.mroIn K C (.type "object")=some true):TyOf K H (.ref a) (.ref C)
theorem isinst_ok {x:V}{u t:Value}(I:Inv X pins σ H s)(rx:RelV x u)(ty:TyOf X.K H x t)(e:PySem.W.kitOne X.K t c=some b)(h:∀tk,Q (.bool b) {s with toks:=tk}) :
  wpAny (model X.prog X.w) A (call (.builtin "isinstance") [u,c]) Q E s:=by
 cases ty with
 |non=>cases (show u=Value.none from rx);exact PySem.W.kia_one PySem.W.kitx_none I.kIn True.intro e (fun z=>nomatch z) h
 |bl y=>cases (show u=Value.bool y from rx);exact PySem.W.kia_one PySem.W.kitx_bool I.kIn True.intro e (fun z=>nomatch z) h
 |int i=>obtain⟨t,q⟩:=(show ∃t,u=Value.int i t from rx);cases q;exact PySem.W.kia_one PySem.W.kitx_int I.kIn True.intro e (fun z=>nomatch z) h
 |str y=>obtain⟨t,q⟩:=(show ∃t,u=Value.str y t from rx);cases q;exact PySem.W.kia_one PySem.W.kitx_str I.kIn True.intro e (fun z=>nomatch z) h
 |flt y=>obtain⟨t,q⟩:=(show ∃t,u=Value.float y t from rx);cases q;exact PySem.W.kia_one PySem.W.kitx_float I.kIn True.intro e (fun z=>nomatch z) h
 | @lst a xs ea=>
  cases (show u=Value.ref a from rx)
  obtain⟨_,_,n,_,h1⟩:=(show ObjOk X.prog X.w H s.heap a (.lst xs) from I.hok a _ ea)
  exact PySem.W.kia_one PySem.W.kitx_list I.kIn ⟨_,h1,rfl⟩ e (fun z=>nomatch z) h
 | @frz a ob xs ea=>
  cases (show u=Value.ref a from rx)
  obtain⟨_,_,_,n,_,h1⟩:=(show ObjOk X.prog X.w H s.heap a (.frz ob (.lst xs)) from I.hok a _ ea)
  exact PySem.W.kia_one PySem.W.kitx_list I.kIn ⟨_,h1,rfl⟩ e (fun z=>nomatch z) h
 | @tup a xs ea=>
  cases (show u=Value.ref a from rx)
  obtain⟨_,_,_,p⟩:=(show ObjOk X.prog X.w H s.heap a (.tup xs) from I.hok a _ ea)
  obtain⟨o,h1,h2,_⟩:=p
  exact PySem.W.kia_one PySem.W.kitx_tuple I.kIn ⟨o,h1,h2⟩ e (fun z=>nomatch z) h
 | @dK a kvs ea=>
  cases (show u=Value.ref a from rx)
  obtain⟨_,_,vs,_,p⟩:=(show ObjOk X.prog X.w H s.heap a (.dK kvs) from I.hok a _ ea)
  obtain⟨o,es,ep,h1,h2,_⟩:=p
  exact PySem.W.kia_one PySem.W.kitx_dict I.kIn ⟨o,h1,h2.1⟩ e (fun z=>nomatch z) h
 | @dT a kvs ea=>
  cases (show u=Value.ref a from rx)
  obtain⟨_,_,xs,_,o,es,ep,h1,h2,_⟩:=(show ObjOk X.prog X.w H s.heap a (.dT kvs) from I.hok a _ ea)
  exact PySem.W.kia_one PySem.W.kitx_dict I.kIn ⟨o,h1,h2.1⟩ e (fun z=>nomatch z) h
 | @ins a C dx fs ea cl ha hn htk hm=>
  cases (show u=Value.ref a from rx)
  obtain⟨mA,O,_⟩:=ins_get I.hok ea
  obtain⟨od,J,_⟩:=O.look
  exact PySem.W.kia_one (PySem.W.kitx_own (cl.get _) cl.hd ha hn htk hm) I.kIn J e (fun z=>nomatch z) h
end
end L2
namespace L2
open PySem PySem.Spec PyProof.Rows
structure Room (k:Nat)(A:Around):Prop where
 hd:A.handled=none
 dp:A.depth + 3 * k + 5 < recursionLimit
 un:A.units + 16 * k + 200 < cLine
 gd:A.guards=some []
theorem Room.mono {j k:Nat}{A:Around}(r:Room k A)(h:j<=k):Room j A:=⟨r.hd,by have:=r.dp;omega,by have:=r.un;omega,r.gd⟩
theorem Room.deeper {k:Nat}{A:Around}(r:Room (k + 1) A)(env:Env):Room k (A.deeper env):=
 ⟨r.hd,by have:=r.dp;show A.depth + 1 + 3 * k + 5 < _;omega,by have:=r.un;show A.units + 3 + 16 * k + 200 < _;omega,r.gd⟩
theorem Room.depth {k:Nat}{A:Around}(r:Room k A):A.depth < recursionLimit:=by have:=r.dp;omega
theorem Room.units {k:Nat}{A:Around}(r:Room k A):A.units + 64 < cLine:=by have:=r.un;omega
def tNil:TA:=fun _ H Q=>Q [] H
def tCons (ta:TE)(tr:TA):TA:=fun σ H Q=>ta σ H fun x H1=>tr σ H1 fun xs H2=>Q (x :: xs) H2
section
variable {X:Cx}{e:Expr}{es:List Expr}{te:TE}{t:TA}{pos:Pos}
theorem pa_nil:PA X [] tNil:=fun _ _ _ _ H Q I h=>Calls.spliced_nil ⟨[],H,I,.nil,h⟩
theorem pa_cons (ha:PE X e te)(hr:PA X es t)(hs:starEach (e :: es) X.env=(false,eval e X.env) :: starEach es X.env:=by rfl):PA X (e :: es) (tCons te t):=by
 intro pos pins s σ H Q I h
 rw [hs]
 show wpAny _ _ (spliced ((false,eval e X.env) :: backTo pos (starEach es X.env))) _ _ s
 refine Calls.spliced_cons (thn (ha pins s σ H _ I h) fun u s1 ⟨x,H1,I1,r1,q1⟩=>?_)
 exact thn (hr pos pins s1 σ H1 _ I1 q1) fun us s2 ⟨xs,H2,I2,r2,q2⟩=>⟨x :: xs,H2,I2,.cons r1 r2,q2⟩
def tTup (t:TA):TE:=fun σ H Q=>t σ H fun xs H1=>xs.length<=sizeLine/\∀p,H1 p=none->Q (.ref p) (upd H1 p (.tup xs))
def tLst (t:TA):TE:=fun σ H Q=>t σ H fun xs H1=>xs.length<=sizeLine/\∀p,H1 p=none->Q (.ref p) (upd H1 p (.lst xs))
theorem pe_tup {x1}(h:PA X es t):PE X (.Tuple es x1 pos) (tTup t):=by
 intro pins s σ H Q I hq
 refine wpAny_Tuple_spliced (thn (h pos pins s σ H _ I hq) fun us s1 ⟨xs,H1,I1,r,z,q⟩=>⟨by rw [<-r.length];exact z,?_⟩)
 have hf:H1 s1.heap.objs.size=none:=I1.hok.fresh (Nat.le_refl _)
 refine⟨.ref s1.heap.objs.size,upd H1 s1.heap.objs.size (.tup xs),I1.laid (t':=s1.toks) (fun b u e=>Heap.get?_push_of_some _ e) (Nat.le_refl _) ?_,rfl,q _ hf⟩
 exact⟨z,us,r,TupP.new _ _⟩
theorem pe_lst (h:PA X es t):PE X (.List es pos) (tLst t):=by
 intro pins s σ H Q I hq
 refine wpAny_List_spliced (thn (h pos pins s σ H _ I hq) fun us s1 ⟨xs,H1,I1,r,z,q⟩=>⟨by rw [<-r.length];exact z,?_⟩)
 have hf:H1 s1.heap.objs.size=none:=I1.hok.fresh (Nat.le_refl _)
 refine⟨.ref s1.heap.objs.size,upd H1 s1.heap.objs.size (.lst xs),I1.laid (t':=s1.toks) (fun b u e=>Heap.get?_push_of_some _ e) (Nat.le_refl _) ?_,rfl,q _ hf⟩
 exact⟨z,us,0,r,Heap.get?_push_size _ rfl⟩
end
abbrev Sp:=List V->Hp->VK->XK->Prop
abbrev CXT:=List Env->Hp->Shared->XK->Value->Shared->Prop
structure Env0 (P:Program)(w:World)(K:PySem.W.Frag)(mg:Str->Option Value)(base:Heap)(A:Around)(outer:List Env)(s:Shared)(H:Hp):Prop where
 frames:A.frames=some outer
 mod:Mod K mg base
 bs:∀b o,base.get? b=some o->s.heap.get? b=some o/\H b=none
 bsz:base.objs.size<=s.heap.objs.size
 funs:s.heap.FunFrames base outer
 frf:∀b∈frs outer,H b=none
 hok:HOk P w H s.heap
 bare:AllBare s.gens
def CE (outer:List Env)(P:Program)(w:World)(H:Hp)(s:Shared)(Q:VK)(u:Value)(s':Shared):Prop:=
 ∃v H',s'.os=s.os/\AllBare s'.gens/\Un (frs outer) [] H H' s.heap s'.heap/\HOk P w H' s'.heap/\RelV v u/\Q v H'
def CR (CX:CXT)(outer:List Env)(P:Program)(w:World)(H:Hp)(s:Shared)(Q:VK)(E:XK)(r:Result)(s':Shared):Prop:=
 match r with
 | .ok (.ret u)=>CE outer P w H s Q u s'
 | .ok _=>False
 | .error e=>CX outer H s E e s'
structure FnOk (P:Program)(w:World)(K:PySem.W.Frag)(mg:Str->Option Value)(base:Heap)(CX:CXT)(k:Nat)(f:Addr)(fd:FuncData)(ps:List Str)(sp:Sp):Prop where
 len:∀vs H Q E,sp vs H Q E->vs.length=ps.length
 run:∀(A:Around) (outer:List Env) (s:Shared) (H:Hp) (args:Args) (us:List Value) (vs:List V) (Q:VK) (E:XK),Room k A->Env0 P w K mg base A outer s H->BindsTo s fd args (ps.zip us)->Vals vs us->sp vs H Q E->
  codeAny (model P w) A (.call (.ref f) args) (CR CX outer P w H s Q E) s
theorem FnOk.mono {P:Program}{w:World}{K:PySem.W.Frag}{mg:Str->Option Value}{base:Heap}{CX:CXT}{j k:Nat}{f:Addr}{fd:FuncData}{ps:List Str}{sp:Sp}(F:FnOk P w K mg base CX j f fd ps sp)(h:j<=k) :
  FnOk P w K mg base CX k f fd ps sp:=⟨F.len,fun A outer s H args us vs Q E hr=>F.run A outer s H args us vs Q E (hr.mono h)⟩
theorem FnOk.imp {P:Program}{w:World}{K:PySem.W.Frag}{mg:Str->Option Value}{base:Heap}{CX:CXT}{k:Nat}{f:Addr}{fd:FuncData}{ps:List Str}{sp sp':Sp}(F:FnOk P w K mg base CX k f fd ps sp)
  (h:∀vs H Q E,sp' vs H Q E->sp vs H Q E):FnOk P w K mg base CX k f fd ps sp':=
 ⟨fun vs H Q E q=>F.len vs H Q E (h _ _ _ _ q),fun A outer s H args us vs Q E hr he hb hv hs=>F.run A outer s H args us vs Q E hr he hb hv (h _ _ _ _ hs)⟩
section
variable {X:Cx}{pins:List (Addr×Obj)}{σ:St}{H:Hp}{s s':Shared}
theorem Inv.env0 (I:Inv X pins σ H s):Env0 X.prog X.w X.K X.mg X.base X.A X.stack s H:=
 ⟨I.ok.frames,I.ok.mod,I.bs,Nat.le_trans I.ok.bsz I.sz,I.stack,I.stkFree,I.hok,I.bare⟩
theorem Inv.after {Q:VK}{u:Value}(I:Inv X pins σ H s)(h:CE X.stack X.prog X.w H s Q u s'):EP X pins σ Q u s':=by
 obtain⟨v,H',os,bare,un,hok,r,q⟩:=h
 obtain⟨hh,g,d,t,os'⟩:=s'
 obtain rfl:os'=s.os:=os
 exact⟨v,H',I.call (h':=hh) (g':=g) (d':=d) (t':=t) (ch:=[]) un hok bare (fun b z=>absurd z (by simp)),r,q⟩
end
def tCall (sp:Sp)(dvs:List V)(E:XK)(t:TA):TE:=fun σ H Q=>t σ H fun vs H1=>sp (vs ++ dvs) H1 Q E
def Binds (K:PySem.W.Frag)(fd:FuncData)(ps:List Str)(ds:List Value):Prop:=
 ∀(s:Shared) (us:List Value),K.In s.heap->(us ++ ds).length=ps.length->BindsTo s fd ⟨us,[]⟩ (ps.zip (us ++ ds))
theorem Binds.all {K:PySem.W.Frag}{fd:FuncData}{ps:List Str}(h:∀us:List Value,us.length=ps.length->bindArgs fd ⟨us,[]⟩=pure (ps.zip us)):Binds K fd ps []:=fun s us _ hl=>by
 rw [List.append_nil] at hl ⊢
 exact .of_eq (h us hl)
def Passes (CX:CXT)(X:Cx)(E:XK):Prop:=∀(pins:List (Addr×Obj)) (σ:St) (H:Hp) (s:Shared) (e:Value) (s':Shared),Inv X pins σ H s->CX X.stack H s E e s'->X.xe e s'
section
variable {X:Cx}{CX:CXT}{k:Nat}{f C:Addr}{fd:FuncData}{ps:List Str}{sp:Sp}{dvs:List V}{ds:List Value}{E:XK}{x m:Str}{p pos apos:Pos}{e o:Expr}{es:List Expr}{ta:TE}{t:TA}
theorem run_fn {pins:List (Addr×Obj)}{σ:St}{H:Hp}{s:Shared}{Q:VK}{us:List Value}{vs:List V}(F:FnOk X.prog X.w X.K X.mg X.base CX k f fd ps sp)(hr:Room k X.A)(hb:Binds X.K fd ps ds)(hd:Vals dvs ds)(hx:Passes CX X E)
  (I:Inv X pins σ H s) (r:Vals vs us) (h:sp (vs ++ dvs) H Q E):wpAny (model X.prog X.w) X.A (call (.ref f) us) (EP X pins σ Q) X.xe s:=by
 have r2:Vals (vs ++ dvs) (us ++ ds):=r.append hd
 have hl:(us ++ ds).length=ps.length:=by rw [<-r2.length];exact F.len _ _ _ _ h
 refine wpAny_call (codeAny_mono (F.run X.A X.stack s H ⟨us,[]⟩ (us ++ ds) (vs ++ dvs) Q E hr I.env0 (hb s us I.kIn hl) r2 h) fun r s' hq=>?_)
 cases r with
 |error e=>exact hx pins σ H s e s' I hq
 |ok fl=>
  cases fl with
  |ret u=>exact I.after hq
  |next=>exact False.elim hq
  |brk=>exact False.elim hq
  |cont=>exact False.elim hq
theorem pe_call (F:FnOk X.prog X.w X.K X.mg X.base CX k f fd ps sp)(hr:Room k X.A)(hg:Gl X x)(hm:X.mg x=some (.ref f))(hk:PySem.W.keepIn X.K (.ref f)=true)(hb:Binds X.K fd ps ds)(hd:Vals dvs ds)(hx:Passes CX X E)
  (ha:PA X (e :: es) t) (hdb:(x == ("__debug__":Str))=false:=by decide) (he:starEach (e :: es) X.env=(false,eval e X.env) :: starEach es X.env:=by rfl) (hpl:(backTo pos (starEach es X.env)).any (·.1)=false:=by rfl) :
  PE X (.Call (.Name x p) (e :: es) [] pos) (tCall sp dvs E t):=by
 intro pins s σ H Q I h
 refine wpAny_Call_Name_kw (ld_glob I hg hm ?_ hdb)
 refine PySem.W.callWith_K (h₀:=X.base) I.ok.mod.kin hk (thn (ha pos pins s σ H _ I h) fun us s1 ⟨vs,H1,I1,r,q⟩=>⟨I1.kIn,?_⟩) he hpl
 exact run_fn F hr hb hd hx I1 r q
end
structure FnScope (N P:List Str)(sc:Scope):Prop where
 kind:sc.kind=.function
 co:sc.isCoroutine=false
 gen:sc.isGenerator=false
 nd:N.Nodup
 pre:N.take P.length=P
 par:∀x∈P,sc.names.lookup x=some .local\/sc.names.lookup x=some .cell
 nofree:∀y∈sc.names,y.2≠.free
theorem bindL_out {kindOf:Str->Option NameKind}{x:Str}:∀{binds:List (Str×Value)} {m:Str->Option Value},(∀v,(x,v)∉binds)->bindL kindOf binds m x=m x
 | [],_,_=>rfl
 | (n,v) :: r,m,h=>by
  unfold bindL
  rw [bindL_out fun w hw=>h w (List.mem_cons_of_mem _ hw)]
  split
  ·have:x≠n:=by rintro rfl;exact h v List.mem_cons_self
   simp [this]
  ·rfl
theorem bindC_out {kindOf:Str->Option NameKind}{x:Str}:∀{binds:List (Str×Value)} {m:Str->Option Value},(∀v,(x,v)∉binds)->bindC kindOf binds m x=m x
 | [],_,_=>rfl
 | (n,v) :: r,m,h=>by
  unfold bindC
  rw [bindC_out fun w hw=>h w (List.mem_cons_of_mem _ hw)]
  split
  ·rfl
  ·have:x≠n:=by rintro rfl;exact h v List.mem_cons_self
   simp [this]
theorem bindL_get {kindOf:Str->Option NameKind}{x:Str}{v:Value}:∀{P:List Str} {vs:List Value} {i:Nat} {m:Str->Option Value},P.Nodup->P[i]? =some x->vs[i]? =some v->kindOf x=some .local->
  bindL kindOf (P.zip vs) m x=some v
 | [],_,_,_,_,h,_,_=>by simp at h
 |_ :: _,[],_,_,_,_,h,_=>by simp at h
 |p :: P,w :: vs,0,m,nd,h1,h2,hk=>by
  simp at h1 h2;subst h1;subst h2
  show bindL kindOf ((p,w) :: P.zip vs) m p=_
  unfold bindL
  rw [bindL_out fun v hv=>(List.nodup_cons.mp nd).1 (List.of_mem_zip hv).1,if_pos hk]
  simp
 |p :: P,w :: vs,i + 1,m,nd,h1,h2,hk=>by
  show bindL kindOf ((p,w) :: P.zip vs) m x=_
  unfold bindL
  exact bindL_get (i:=i) (List.nodup_cons.mp nd).2 (by simpa using h1) (by simpa using h2) hk
theorem bindC_get {kindOf:Str->Option NameKind}{x:Str}{v:Value}:∀{P:List Str} {vs:List Value} {i:Nat} {m:Str->Option Value},P.Nodup->P[i]? =some x->vs[i]? =some v->kindOf x≠some .local->
  bindC kindOf (P.zip vs) m x=some v
 | [],_,_,_,_,h,_,_=>by simp at h
 |_ :: _,[],_,_,_,_,h,_=>by simp at h
 |p :: P,w :: vs,0,m,nd,h1,h2,hk=>by
  simp at h1 h2;subst h1;subst h2
  show bindC kindOf ((p,w) :: P.zip vs) m p=_
  unfold bindC
  rw [bindC_out fun v hv=>(List.nodup_cons.mp nd).1 (List.of_mem_zip hv).1,if_neg hk]
  simp
 |p :: P,w :: vs,i + 1,m,nd,h1,h2,hk=>by
  show bindC kindOf ((p,w) :: P.zip vs) m x=_
  unfold bindC
  exact bindC_get (i:=i) (List.nodup_cons.mp nd).2 (by simpa using h1) (by simpa using h2) hk
def start (N:List Str)(vs:List V):St:=vs.map some ++ List.replicate (N.length - vs.length) none
def cxOf (CX:CXT)(P:Program)(w:World)(K:PySem.W.Frag)(mg:Str->Option Value)(base:Heap)(N:List Str)(qual:Str)(scope:Scope)(f:Addr)(cd:Value)(A:Around)(outer:List Env)(s:Shared)(H:Hp)(E:XK):Cx where
 prog:=P
 w:=w
 K:=K
 mg:=mg
 base:=base
 A:=A.deeper (envOfC qual scope s.heap.objs.size f cd)
 N:=N
 s₀:=s
 H₀:=H
 env:=envOfC qual scope s.heap.objs.size f cd
 outer:=outer
 stack:=envOfC qual scope s.heap.objs.size f cd :: outer
 ex:=[]
 calm:=true
 fn:=fun _=>true
 pn:=[]
 xe:=fun e s'=>wpAny (model P w) (A.deeper (envOfC qual scope s.heap.objs.size f cd)) (leaving (envOfC qual scope s.heap.objs.size f cd) e) (fun _ s''=>CX outer H s E e s'') (fun e' s''=>CX outer H s E e' s'') s'
theorem cell_has {sc:Scope}{n:Nat}{x:Str}(h:sc.names.lookup x=some .cell):∃c,(cellsFrom n sc.names []).lookup x=some c:=by
 have q:=PySem.W.cellsFrom_some sc.names n [] (.inl h)
 exact Option.isSome_iff_exists.mp q
theorem inv_start {CX:CXT}{P:Program}{w:World}{K:PySem.W.Frag}{mg:Str->Option Value}{base:Heap}{N ps:List Str}{qual:Str}{scope:Scope}{f:Addr}{cd:Value}{A:Around}{outer:List Env}{s s1:Shared}{H:Hp}{E:XK}{us:List Value}{vs:List V}
  (S:FnScope N ps scope) (hd:A.handled=none) (e0:Env0 P w K mg base A outer s H) (hl:vs.length=ps.length) (r:Vals vs us)
  (x:InCallC s s.heap.objs.size (bindL (envOfC qual scope s.heap.objs.size f cd).kindOf (ps.zip us) fun _=>none) (cellsFrom (s.heap.objs.size + 1) scope.names []) (bindC (envOfC qual scope s.heap.objs.size f cd).kindOf (ps.zip us) fun _=>none) s1) :
  Inv (cxOf CX P w K mg base N qual scope f cd A outer s H E) [] (start N vs) H s1:=by
 have hpl:ps.length<=N.length:=by have:=congrArg List.length S.pre;rw [List.length_take] at this;omega
 obtain⟨h1,tk,rfl,hk⟩:=x.done
 have noA:∀b:Addr,b∉(cxOf CX P w K mg base N qual scope f cd A outer s H E).ex:=fun b z=>absurd (show b∈([]:List Addr) from z) (by simp)
 refine⟨⟨e0.mod,S.kind,rfl,rfl,Nat.le_refl _,fun y z c h1 h2=>?_,fun y hy=>?_,fun y c _ h=>?_,fun _=>hd,Around.frames_deeper e0.frames,.inr ⟨rfl,rfl⟩,fun b z=>absurd z (noA b),e0.bs,e0.bsz,fun b _ _=>noA b,fun b z=>absurd z (noA b),e0.funs,e0.frf⟩,
  rfl,e0.bare,Un.kept hk,⟨_,x.toInCall.ns,fun i y v h1 h2 h3=>?_⟩,fun y c h=>⟨_,x.cell y c h⟩,e0.hok.fresh (Nat.le_refl _),fun y c h=>?_,fun p hp=>absurd (show p∈([]:List (Addr×Obj)) from hp) (by simp),e0.hok.kept hk,?_⟩
 ·exact name_of_addr x.apart (PySem.mem_of_lookup h1) (PySem.mem_of_lookup h2)
 ·have hy:scope.names.lookup y=some .cell\/scope.names.lookup y=some .free:=hy
  rcases hy with hy |hy
  ·exact cell_has hy
  ·exact absurd rfl (S.nofree _ (PySem.mem_of_lookup hy))
 ·exact Nat.le_of_lt (x.above y c (PySem.mem_of_lookup h))
 ·have hi:i < vs.length:=by
   unfold start at h2
   by_cases hi:i < vs.length
   ·exact hi
   ·rw [List.getElem?_append_right (by simpa using hi)] at h2
    rw [List.getElem?_replicate] at h2
    split at h2 <;> cases h2
  have ha:vs[i]? =some v:=by
   unfold start at h2
   rw [List.getElem?_append_left (by simpa using hi),List.getElem?_map] at h2
   cases e:vs[i]? with
   |none=>rw [e] at h2;cases h2
   |some a=>rw [e] at h2;cases h2;rfl
  obtain⟨u,hu,rv⟩:=r.get ha
  have hp:ps[i]? =some y:=by
   rw [<-S.pre,List.getElem?_take_of_lt (by omega)];exact h1
  have ndP:ps.Nodup:=by rw [<-S.pre];exact S.nd.sublist (List.take_sublist _ _)
  refine⟨u,rv,?_⟩
  rcases S.par y (List.mem_of_getElem? hp) with k |k
  ·exact .inl ⟨k,bindL_get ndP hp hu k⟩
  ·obtain⟨c,e⟩:=cell_has (n:=s.heap.objs.size + 1) k
   refine .inr ⟨.inl k,c,e,?_⟩
   have q:=x.cell y c e
   rw [bindC_get ndP hp hu (by show scope.names.lookup y≠_;rw [k];decide)] at q
   exact q
 ·exact e0.hok.fresh (Nat.le_of_lt (x.above y c (PySem.mem_of_lookup h)))
 ·unfold start
  show _=N.length
  rw [List.length_append,List.length_map,List.length_replicate]
  omega
theorem fn_of {CX:CXT}{P:Program}{w:World}{K:PySem.W.Frag}{mg:Str->Option Value}{base:Heap}{k:Nat}{f:Addr}{name qual:Str}{params:Arguments}{body:List Stmt}{scope:Scope}{dV kV doc pm cdv ct oc:Value}{an od:Option Addr}
  {osl:Array (Option Value)} {N ps:List Str} {sp:Sp} (lk:K.lookup f=some ⟨oc,od,.func (PySem.W.fnOf name qual params body scope dV kV doc pm an cdv ct),osl⟩) (hcd:PySem.W.codeIn K cdv qual=true) (S:FnScope N ps scope)
  (len:∀vs H Q E,sp vs H Q E->vs.length=ps.length)
  (hbody:∀(A:Around) (outer:List Env) (s:Shared) (H:Hp) (vs:List V) (Q:VK) (E:XK),Room k (A.deeper (envOfC qual scope s.heap.objs.size f cdv))->sp vs H Q E->
   ∃t,PSs (cxOf CX P w K mg base N qual scope f cdv A outer s H E) body t/\t {nx:=fun _ H'=>Q .non H',rt:=Q} (start N vs) H) :
  FnOk P w K mg base CX (k + 1) f (PySem.W.fnOf name qual params body scope dV kV doc pm an cdv ct) ps sp:=by
 refine⟨len,fun A outer s H args us vs Q E hr e0 hb r hsp=>?_⟩
 have hl:=len _ _ _ _ hsp
 have KX:K.In s.heap:=e0.mod.kin.keeps fun b o e=>(e0.bs b o e).1
 have lim:s.heap.NoLimit:=e0.mod.nolimit.keeps fun b o e=>(e0.bs b o e).1
 have hkind:∀y∈ps.zip us,scope.names.lookup y.1=some .local\/(scope.names.lookup y.1=some .cell/\((cellsFrom (s.heap.objs.size + 1) scope.names []).lookup y.1).isSome=true):=fun⟨n,v⟩ hy=>by
  rcases S.par n (List.of_mem_zip hy).1 with q |q
  ·exact .inl q
  ·exact .inr ⟨q,PySem.W.cellsFrom_some _ _ _ (.inl q)⟩
 refine codeAny_call_function hr.depth (KX _ _ lk) rfl S.co S.gen rfl (PySem.W.codeRec_of KX hcd) (hb _ _ _ _ ?_)
 refine wpAny_newFunctionEnv_cells S.kind hkind fun env he s1 x=>?_
 subst he
 refine⟨lim.keeps x.toInCall.keep,codeAny_func ?_⟩
 obtain⟨t,ht,hq⟩:=hbody A outer s H vs Q E (hr.deeper _) hsp
 have I:Inv (cxOf CX P w K mg base N qual scope f cdv A outer s H E) [] (start N vs) H s1:=inv_start S hr.hd e0 hl r x
 refine wpAny_mono (ht [] s1 (start N vs) H _ I hq) (fun fl s' hs=>?_) fun e s' hs=>hs
 have fin:∀{σ':St} {H':Hp} {v:V} {u:Value},Inv (cxOf CX P w K mg base N qual scope f cdv A outer s H E) [] σ' H' s'->RelV v u->Q v H'->CE outer P w H s Q u s':=
  fun {σ' H' v u} J rv q=>⟨v,H',J.os,J.bare,J.base,J.hok,rv,q⟩
 cases fl with
 |ret u=>
  obtain⟨v,σ',H',J,rv,q⟩:=hs
  exact fin J rv q
 |next=>
  obtain⟨σ',H',J,q⟩:=hs
  exact fin (v:=V.non) (u:=Value.none) J rfl q
 |brk=>
  obtain⟨_,_,_,q⟩:=hs
  exact False.elim q
 |cont=>
  obtain⟨_,_,_,q⟩:=hs
  exact False.elim q
end L2
namespace L2
open PySem PySem.Spec PyProof.Rows
section
variable {X:Cx}{x:Str}{p pos:Pos}{e:Expr}{es:List Expr}{t:TA}{id T:String}{r:List V->Hp->VK->Prop}
def tCB (r:List V->Hp->VK->Prop)(t:TA):TE:=fun σ H Q=>t σ H fun vs H1=>r vs H1 Q
theorem pe_callB (hc:CallR X (.builtin id) r)(hg:Gl X x)(hm:X.mg x=none)(hv:bootBuiltins x=some (.builtin id))(ha:PA X (e :: es) t)(hn:x≠"__name__":=by decide)(hdb:(x == ("__debug__":Str))=false:=by decide)
  (he:starEach (e :: es) X.env=(false,eval e X.env) :: starEach es X.env:=by rfl) (hpl:(backTo pos (starEach es X.env)).any (·.1)=false:=by rfl):PE X (.Call (.Name x p) (e :: es) [] pos) (tCB r t):=by
 intro pins s σ H Q I h
 refine wpAny_Call_Name_kw (ld_blt I hg hm hv ?_ hn hdb)
 exact PyProof.Rows.callWith_builtin1 (thn (ha pos pins s σ H _ I h) fun us s1 ⟨vs,H1,I1,r1,q1⟩=>hc pins s1 σ H1 vs us Q I1 r1 q1) he hpl
theorem pe_callTy (hc:CallR X (.type T) r)(hg:Gl X x)(hm:X.mg x=none)(hv:bootBuiltins x=some (.type T))(ha:PA X (e :: es) t)(hn:x≠"__name__":=by decide)(hdb:(x == ("__debug__":Str))=false:=by decide)
  (he:starEach (e :: es) X.env=(false,eval e X.env) :: starEach es X.env:=by rfl) (hpl:(backTo pos (starEach es X.env)).any (·.1)=false:=by rfl):PE X (.Call (.Name x p) (e :: es) [] pos) (tCB r t):=by
 intro pins s σ H Q I h
 refine wpAny_Call_Name_kw (ld_blt I hg hm hv ?_ hn hdb)
 exact PyProof.Rows.callWith_type1 (thn (ha pos pins s σ H _ I h) fun us s1 ⟨vs,H1,I1,r1,q1⟩=>hc pins s1 σ H1 vs us Q I1 r1 q1) he hpl
end
end L2
namespace HT
open PySem PyProof.Rows
section
open PySem.SeqAt
open PySem.AutoSeq1 (wpAny_loadPart')
open PySem.MeetsSeq PySem.MeetsSeq2 PySem.MeetsSeq3
end
section
variable {prog:Program}{w:World}{A:Around}{E:Value->Shared->Prop}{s:Shared}
def sIx (n d:Nat):Option Int->Nat
 |none=>d
 |some v=>if v < 0 then (v + (n:Int)).toNat else min v.toNat n
theorem sIx_none (n d:Nat):sIx n d none=d:=rfl
theorem sIx_nat (n d k:Nat):sIx n d (some (k:Int))=min k n:=by
 show (if (k:Int) < 0 then ((k:Int) + (n:Int)).toNat else min (k:Int).toNat n)=min k n
 rw [if_neg (by omega),Int.toNat_natCast]
end
end HT
namespace L2
open PySem PySem.Spec PyProof.Rows
abbrev TO:=St->Hp->(Option Int->Hp->Prop)->Prop
def PO (X:Cx)(e:Option Expr)(t:TO):Prop:=
 ∀(pins:List (Addr×Obj)) (s:Shared) (σ:St) (H:Hp) (Q:Option Int->Hp->Prop),Inv X pins σ H s->t σ H Q->
  wpAny (model X.prog X.w) X.A (evalPart e X.env) (fun u s'=>∃o H',Inv X pins σ H' s'/\IsPart u o/\Q o H') X.xe s
def tNoPart:TO:=fun _ H Q=>Q none H
def tPart (t:TE):TO:=fun σ H Q=>t σ H fun x H1=>∃i,x=.int i/\Q (some i) H1
section
variable {X:Cx}{e:Expr}{te:TE}{lo hi:Option Expr}{tl th:TO}{pos p2:Pos}
theorem po_none:PO X none tNoPart:=by
 intro pins s σ H Q I h
 rw [evalPart_none]
 exact wpAny_pure ⟨none,H,I,.none,h⟩
theorem po_some (h:PE X e te):PO X (some e) (tPart te):=by
 intro pins s σ H Q I hw
 rw [evalPart_some]
 refine thn (h pins s σ H _ I hw) fun u s1 ⟨x,H1,I1,r1,q1⟩=>?_
 obtain⟨i,rfl,q⟩:=q1
 obtain⟨t,rfl⟩:=r1
 exact⟨some i,H1,I1,.int i t,q⟩
def SlR (X:Cx)(r:V->Option Int->Option Int->Hp->VK->Prop):Prop:=
 ∀(pins:List (Addr×Obj)) (s:Shared) (σ:St) (H:Hp) (x:V) (v vl vu:Value) (lo hi:Option Int) (sl:Addr) (Q:VK),Inv X pins σ H s->RelV x v->s.heap.IsSliceOf sl vl vu .none->IsPart vl lo->IsPart vu hi->r x lo hi H Q->
  ∃T id,typeLookup (.type T) "__getitem__"=pure (some (.builtin id))/\s.TypeIs v T/\wpAny (model X.prog X.w) X.A (getItem v (.ref sl)) (EP X pins σ Q) X.xe s
def tSl (r:V->Option Int->Option Int->Hp->VK->Prop)(te:TE)(tl th:TO):TE:=fun σ H Q=>te σ H fun x H1=>tl σ H1 fun l H2=>th σ H2 fun u H3=>r x l u H3 Q
theorem pe_slice {r:V->Option Int->Option Int->Hp->VK->Prop}(hr:SlR X r)(he:PE X e te)(hl:PO X lo tl)(hu:PO X hi th):PE X (.Subscript e (.Slice lo hi none p2) pos) (tSl r te tl th):=by
 intro pins s σ H Q I h
 refine Subscript_ (thn (he pins s σ H _ I h) fun v s1 ⟨x,H1,I1,r1,q1⟩=>?_)
 refine wpAny_Slice (thn (hl pins s1 σ H1 _ I1 q1) fun vl s2 ⟨l,H2,I2,pl,q2⟩=>thn (hu pins s2 σ H2 _ I2 q2) fun vu s3 ⟨u,H3,I3,pu,q3⟩=>?_)
 rw [evalPart_none]
 refine wpAny_pure ?_
 have I4:Inv X pins σ H3 {s3 with heap:=s3.heap.push {cls:=.type "slice",data:=.fields #[vl,vu,.none]}}:=I3.kept (t':=s3.toks) fun b ob q=>Heap.get?_push_of_some _ q
 obtain⟨T,id,hT,ht,hg⟩:=hr pins {s3 with heap:=s3.heap.push {cls:=.type "slice",data:=.fields #[vl,vu,.none]}} σ H3 x v vl vu l u s3.heap.objs.size Q I4 r1 (Heap.IsSliceOf.new ..) pl pu q3
 show wpAny (model X.prog X.w) X.A (subscriptTail e (.Slice lo hi none p2) v (.ref s3.heap.objs.size)) (EP X pins σ Q) X.xe {s3 with heap:=s3.heap.push {cls:=.type "slice",data:=.fields #[vl,vu,.none]}}
 exact tail_any (ops:=[.ref s3.heap.objs.size,v]) ht hT hg (by with_unfolding_all rfl)
def cutV (xs:List V)(lo hi:Option Int):List V:=(xs.drop (HT.sIx xs.length 0 lo)).take (HT.sIx xs.length xs.length hi - HT.sIx xs.length 0 lo)
theorem cutV_length (xs:List V)(lo hi:Option Int):(cutV xs lo hi).length<=xs.length:=by
 unfold cutV
 rw [List.length_take,List.length_drop]
 omega
end
end L2
namespace L2
open PySem PySem.Spec PyProof.Rows
def ixN (n:Nat)(i:Int):Option Nat:=if 0<=i then (if i < n then some i.toNat else none) else if -(n:Int)<=i then some (i + n).toNat else none
def atI {α:Type}(xs:List α)(i:Int):Option α:=(ixN xs.length i).bind fun j=>xs[j]?
theorem ixN_seq {n:Nat}{i:Int}{j:Nat}(h:ixN n i=some j):seqIndex? i n=some j/\j < n/\ -(n:Int)<=i/\i < n:=by
 unfold ixN at h
 by_cases h0:0<=i
 ·rw [if_pos h0] at h
  by_cases h1:i < n
  ·rw [if_pos h1] at h
   have e:i.toNat=j:=Option.some.inj h
   exact⟨by rw [seqIndex_of h0 h1,e],by omega,by omega,h1⟩
  ·rw [if_neg h1] at h;cases h
 ·rw [if_neg h0] at h
  by_cases h1: -(n:Int)<=i
  ·rw [if_pos h1] at h
   have e:(i + n).toNat=j:=Option.some.inj h
   exact⟨by rw [seqIndex_neg (by omega) h1,e],by omega,h1,by omega⟩
  ·rw [if_neg h1] at h;cases h
theorem atI_get {α:Type}{xs:List α}{i:Int}{v:α}(h:atI xs i=some v):∃j,seqIndex? i xs.length=some j/\xs[j]? =some v/\j < xs.length/\ -(xs.length:Int)<=i/\i < xs.length:=by
 unfold atI at h
 cases e:ixN xs.length i with
 |none=>rw [e] at h;cases h
 |some j=>
  rw [e] at h
  obtain⟨h1,h2,h3,h4⟩:=ixN_seq e
  exact⟨j,h1,h,h2,h3,h4⟩
theorem atI_nat {α:Type}{xs:List α}{j:Nat}{v:α}(h:xs[j]? =some v):atI xs (j:Int)=some v:=by
 have hj:j < xs.length:=(List.getElem?_eq_some_iff.mp h).1
 have e:ixN xs.length (j:Int)=some j:=by
  unfold ixN
  rw [if_pos (by omega),if_pos (by omega)];simp
 unfold atI;rw [e];exact h
def PlainIx (b:Expr):Prop:=∀o i,subscripted b false o i=operate [o,i] (getItem o i)
def IxR (X:Cx)(r:R2):Prop:=
 ∀(value slice:Expr) (pins:List (Addr×Obj)) (s:Shared) (σ:St) (H:Hp) (x y:V) (v u:Value) (Q:VK),Inv X pins σ H s->RelV x v->RelV y u->r x y H Q->
  subscripted slice false v u=operate [v,u] (getItem v u)->wpAny (model X.prog X.w) X.A (subscriptTail value slice v u) (EP X pins σ Q) X.xe s
def MtR (X:Cx)(id:String)(r:V->List V->Hp->VK->Prop):Prop:=
 ∀(pins:List (Addr×Obj)) (s:Shared) (σ:St) (H:Hp) (x:V) (xs:List V) (v:Value) (us:List Value) (Q:VK),Inv X pins σ H s->RelV x v->Vals xs us->r x xs H Q->
  wpAny (model X.prog X.w) X.A (call (.builtin id) (v :: us)) (EP X pins σ Q) X.xe s
section
variable {X:Cx}{a b:Expr}{ta tb:TE}{pos:Pos}
theorem IxR.or {r r':R2}(h:IxR X r)(h':IxR X r'):IxR X (fun x y H Q=>r x y H Q\/r' x y H Q):=by
 intro value slice pins s σ H x y v u Q I rx ry q hs
 rcases q with q |q
 ·exact h value slice pins s σ H x y v u Q I rx ry q hs
 ·exact h' value slice pins s σ H x y v u Q I rx ry q hs
theorem pe_ix {r:R2}(hr:IxR X r)(ha:PE X a ta)(hb:PE X b tb)(hs:PlainIx b):PE X (.Subscript a b pos) (tOp r ta tb):=by
 intro pins s σ H Q I h
 exact Subscript_ (binT ha hb I h fun v u s2 x y H2 I2 rx ry q=>hr a b pins s2 σ H2 x y v u Q I2 rx ry q (hs _ _))
def rIxL (K:PySem.W.Frag):R2:=fun x y H Q=>∃p xs i v,x=.ref p/\y=.int i/\SqL K H p xs/\atI xs i=some v/\Q v H
def rIxT (K:PySem.W.Frag):R2:=fun x y H Q=>∃p xs i v,x=.ref p/\y=.int i/\SqT K H p xs/\atI xs i=some v/\Q v H
def rIxS:R2:=fun x y H Q=>∃z i c,x=.str z/\y=.int i/\z.length<=sizeLine/\atI z.cps.toList i=some c/\Q (.str ⟨#[c]⟩) H
theorem ix_list:IxR X (rIxL X.K):=by
 intro value slice pins s σ H x y v u Q I rx ry h hs
 obtain⟨p,xs,i,z,rfl,rfl,hq,he,q⟩:=h
 cases rx
 obtain⟨t,rfl⟩:=ry
 obtain⟨its,r,pl,hz⟩:=I.list hq
 obtain⟨j,h1,h2,h3,h4,h5⟩:=atI_get he
 obtain⟨w,ew,rw'⟩:=r.get h2
 have hl:=r.length
 have hn:=line63
 have fin:EP X pins σ Q w s:=⟨z,H,I,rw',q⟩
 by_cases h0:0<=i
 ·have hj:i.toNat=j:=by
   rw [seqIndex_of h0 h5] at h1
   exact Option.some.inj h1
  exact item_listR pl.isList h0 (by omega) (by rw [hj];simpa using ew) fin hs
 ·have hj:(i + (its.toArray.size:Int)).toNat=j:=by
   rw [seqIndex_neg (by omega) h4] at h1
   rw [List.size_toArray,<-hl]
   exact Option.some.inj h1
  exact subscriptTail_builtinR (x:=w) pl.isList.typeIs slot_list_getitem.lookup
   (wpAny_getItem_list_neg (Q:=fun r s'=>r=w/\EP X pins σ Q r s') pl.isList (by omega) (by rw [List.size_toArray] <;> omega) (by omega) (by rw [hj];simpa using ew) ⟨rfl,fin⟩) hs
theorem ix_tup:IxR X (rIxT X.K):=by
 intro value slice pins s σ H x y v u Q I rx ry h hs
 obtain⟨p,xs,i,z,rfl,rfl,hq,he,q⟩:=h
 cases rx
 obtain⟨t,rfl⟩:=ry
 obtain⟨its,r,pl,hz⟩:=I.tuple hq
 obtain⟨j,h1,h2,h3,h4,h5⟩:=atI_get he
 obtain⟨w,ew,rw'⟩:=r.get h2
 have hl:=r.length
 have hn:=line63
 have fin:EP X pins σ Q w s:=⟨z,H,I,rw',q⟩
 exact subscriptTail_builtinR (x:=w) pl.typeIs slot_tuple_getitem.lookup
  (getItem_tuple (j:=j) (Q:=fun r s'=>r=w/\EP X pins σ Q r s') pl (by omega) (by omega) (by rw [List.size_toArray,<-hl];exact h1) (by simpa using ew) ⟨rfl,fin⟩) hs
theorem ix_str:IxR X rIxS:=by
 intro value slice pins s σ H x y v u Q I rx ry h hs
 obtain⟨z,i,c,rfl,rfl,hz,he,q⟩:=h
 obtain⟨t,rfl⟩:=rx
 obtain⟨t',rfl⟩:=ry
 obtain⟨j,h1,h2,h3,h4,h5⟩:=atI_get he
 have hl:z.cps.toList.length=z.length:=by simp [Str.length]
 rw [hl] at h1 h4 h5
 have hn:=line63
 exact tail_any (typeIs_str s z t) slot_str_getitem.lookup (getItem_str (c:=c) (by
  have e1:decide (i < -(2 ^ 63:Int))=false:=decide_eq_false (by omega)
  have e2:decide (i>=2 ^ 63)=false:=decide_eq_false (by omega)
  rw [e1,e2,Bool.or_false]) (by rw [h1];simpa using h2) ⟨.str ⟨#[c]⟩,H,I.tok _,⟨_,rfl⟩,q⟩) hs
def rIx (K:PySem.W.Frag):R2:=fun x y H Q=>rIxL K x y H Q\/rIxT K x y H Q\/rIxS x y H Q
theorem ix_seq:IxR X (rIx X.K):=ix_list.or (ix_tup.or ix_str)
theorem mapSeq_set (its:List Value)(n j:Nat)(u:Value):Obj.mapSeq (·.setIfInBounds j u) {cls:=.type "list",data:=.seq its.toArray n}={cls:=.type "list",data:=.seq (its.set j u).toArray n}:=by
 simp [Obj.mapSeq]
theorem Inv.lst {pins:List (Addr×Obj)}{σ:St}{H:Hp}{s:Shared}{p:Addr}{xs:List V}(I:Inv X pins σ H s)(h:H p=some (.lst xs)) :
  ∃(its:List Value) (n:Nat),Vals xs its/\s.heap.get? p=some {cls:=.type "list",data:=.seq its.toArray n}/\xs.length<=sizeLine:=by
 obtain⟨z,its,n,r,e⟩:=I.hok p _ h
 exact⟨its,n,r,e,z⟩
theorem Inv.lstUpd {pins:List (Addr×Obj)}{σ:St}{H:Hp}{s:Shared}{p:Addr}{xs ys:List V}{its its':List Value}{n n':Nat}{f:Obj->Obj}(I:Inv X pins σ H s)(h:H p=some (.lst xs))
  (ho:s.heap.get? p=some {cls:=.type "list",data:=.seq its.toArray n}) (hf:f {cls:=.type "list",data:=.seq its.toArray n}={cls:=.type "list",data:=.seq its'.toArray n'}) (r:Vals ys its') (hz:ys.length<=sizeLine) (t:Nat) :
  Inv X pins σ (upd H p (.lst ys)) {s with heap:=s.heap.update p f,toks:=t}:=by
 have e:(s.heap.update p f).get? p=some {cls:=.type "list",data:=.seq its'.toArray n'}:=by
  rw [Heap.get?_update_self f ho (by rw [hf] <;> rfl),hf]
 refine I.write (x:=p) (e:=p) (by rw [h];trivial) (.inl rfl) (fun b u hb q=>(Heap.get?_update_other _ _ (Ne.symm hb)).trans q) ⟨_,e⟩ ?_
 exact⟨hz,its',n',r,e⟩
def rSetL:V->V->V->Hp->(Hp->Prop)->Prop:=fun o i v H Q=>∃p xs k j,o=.ref p/\i=.int k/\H p=some (.lst xs)/\ixN xs.length k=some j/\Q (upd H p (.lst (xs.set j v)))
theorem set_list:PSet X rSetL:=by
 intro pins s σ H o i v ov iv u Q I ro ri rv h
 obtain⟨p,xs,k,j,rfl,rfl,hp,hj,q⟩:=h
 cases ro
 obtain⟨t,rfl⟩:=ri
 obtain⟨its,n,r,ho,hz⟩:=I.lst hp
 obtain⟨h1,h2,h3,h4⟩:=ixN_seq hj
 have hl:=r.length
 have hn:=line63
 have I':Inv X pins σ (upd H p (.lst (xs.set j v))) {s with heap:=s.heap.update p (Obj.mapSeq (·.setIfInBounds j u))}:=
  I.lstUpd hp ho (mapSeq_set its n j u) (r.set rv j) (by rw [List.length_set];exact hz) s.toks
 by_cases h0:0<=k
 ·have hk:k.toNat=j:=by
   rw [seqIndex_of h0 h4] at h1
   exact Option.some.inj h1
  exact PySem.W.ki_setAt ho h0 (by omega) (by rw [List.size_toArray,<-hl];exact h4) (by rw [hk];exact⟨_,I',q⟩)
 ·have hk:(k + (its.toArray.size:Int)).toNat=j:=by
   rw [seqIndex_neg (by omega) h3] at h1
   rw [List.size_toArray,<-hl]
   exact Option.some.inj h1
  exact PySem.W.ki_setBack ho (by omega) (by rw [List.size_toArray,<-hl];exact h3) (by omega) (by rw [hk];exact⟨_,I',q⟩)
theorem slice_bounds (lo hi:Option Int)(n:Nat):(sliceBounds lo hi none n).1=((HT.sIx n 0 lo:Nat):Int)/\(sliceBounds lo hi none n).2.1=((HT.sIx n n hi:Nat):Int)/\(sliceBounds lo hi none n).2.2=1:=by
 refine⟨?_,?_,rfl⟩
 ·cases lo with
  |none=>simp [sliceBounds,HT.sIx]
  |some i=>
   simp only [sliceBounds,HT.sIx,Option.getD_none,show (1:Int) > 0 by decide,if_true]
   by_cases h:i < 0
   ·simp only [h,if_true] <;> omega
   ·simp only [h,if_false] <;> omega
 ·cases hi with
  |none=>simp [sliceBounds,HT.sIx]
  |some i=>
   simp only [sliceBounds,HT.sIx,Option.getD_none,show (1:Int) > 0 by decide,if_true]
   by_cases h:i < 0
   ·simp only [h,if_true] <;> omega
   ·simp only [h,if_false] <;> omega
theorem slicePick_cut (its:List Value)(lo hi:Option Int):slicePick its.toArray lo hi none=((its.drop (HT.sIx its.length 0 lo)).take (HT.sIx its.length its.length hi - HT.sIx its.length 0 lo)).toArray:=by
 obtain⟨h1,h2,h3⟩:=slice_bounds lo hi its.toArray.size
 unfold slicePick
 rw [h1,h2,h3]
 simp only [sliceRange_one,pick_run,List.size_toArray] <;> rfl
def rSlL (K:PySem.W.Frag):V->Option Int->Option Int->Hp->VK->Prop:=fun x lo hi H Q=>∃a xs,x=.ref a/\SqL K H a xs/\∀p,H p=none->Q (.ref p) (upd H p (.lst (cutV xs lo hi)))
theorem sl_list:SlR X (rSlL X.K):=by
 intro pins s σ H x v vl vu lo hi sl Q I rx hs pl pu h
 obtain⟨a,xs,rfl,hx,q⟩:=h
 cases rx
 obtain⟨its,r,ht,hz⟩:=I.list hx
 have hlen:=r.length
 refine⟨"list",_,slot_list_getitem.lookup,ht.isList.typeIs,?_⟩
 refine wpAny_getItem_list_slice ht.isList hs pl pu .none (by simp) ?_ (by rw [List.size_toArray] <;> omega)
 rw [slicePick_cut,<-hlen]
 refine⟨.ref s.heap.objs.size,_,I.laid (t':=s.toks) (o:=.lst (cutV xs lo hi)) (fun b ob q=>Heap.get?_push_of_some _ q) (Nat.le_refl _) ?_,rfl,q _ (I.hok.fresh (Nat.le_refl _))⟩
 exact⟨Nat.le_trans (cutV_length xs lo hi) hz,_,0,(r.drop (HT.sIx xs.length 0 lo)).take (HT.sIx xs.length xs.length hi - HT.sIx xs.length 0 lo),Heap.get?_push_size _ rfl⟩
theorem call_list_of:CallR X (.type "list") (fun xs H Q=>∃p ys,xs= [.ref p]/\(SqL X.K H p ys\/SqT X.K H p ys)/\∀l,H l=none->Q (.ref l) (upd H l (.lst ys))):=by
 intro pins s σ H xs us Q I r h
 obtain⟨p,ys,rfl,hq,q⟩:=h
 obtain⟨u,rfl,rx⟩:=vals1 r
 cases rx
 have fin:∀(its:List Value),Vals ys its->ys.length<=sizeLine->∀(h':Heap) (c':Nat),(∀b o',s.heap.get? b=some o'->h'.get? b=some o')->
   h'.get? s.heap.objs.size=some {cls:=.type "list",dict:=none,data:=.seq its.toArray c',slots:=#[]}->EP X pins σ Q (.ref s.heap.objs.size) {s with heap:=h'}:=fun its r' hz h' c' kp e=>
  ⟨.ref s.heap.objs.size,_,I.laid (t':=s.toks) kp (Nat.le_refl _) (show ObjOk X.prog X.w _ h' _ (.lst ys) from⟨hz,its,c',r',e⟩),rfl,q _ (I.hok.fresh (Nat.le_refl _))⟩
 rcases hq with hq |hq
 ·obtain⟨its,r',pl,hz⟩:=I.list hq
  have hlen:=r'.length
  obtain⟨o,ho,hc,n,hd⟩:=pl.isList
  exact call_list_seq p (.inl rfl) ho hc hd (fun h' c' kp e=>fin its r' hz h' c' kp e) (by simp only [List.size_toArray] <;> omega)
 ·obtain⟨its,r',pl,hz⟩:=I.tuple hq
  have hlen:=r'.length
  obtain⟨o,ho,hc,n,hd⟩:=pl
  exact call_list_seq p (.inr rfl) ho hc hd (fun h' c' kp e=>fin its r' hz h' c' kp e) (by simp only [List.size_toArray] <;> omega)
theorem call_tuple_of:CallR X (.type "tuple") (fun xs H Q=>∃p ys,xs= [.ref p]/\((SqL X.K H p ys/\∀l,H l=none->Q (.ref l) (upd H l (.tup ys)))\/(SqT X.K H p ys/\Q (.ref p) H))):=by
 intro pins s σ H xs us Q I r h
 obtain⟨p,ys,rfl,h⟩:=h
 obtain⟨u,rfl,rx⟩:=vals1 r
 cases rx
 rcases h with⟨hq,q⟩ | ⟨hq,q⟩
 ·obtain⟨its,r',pl,hz⟩:=I.list hq
  have hlen:=r'.length
  refine call_tuple_list pl.isList (fun h' kp=>?_) (by simp only [List.size_toArray] <;> omega)
  have I1:Inv X pins σ H {s with heap:=h'}:=I.kept (t':=s.toks) kp
  have I2:Inv X pins σ (upd H h'.objs.size (.tup ys)) {s with heap:=h'.push {cls:=.type "tuple",data:=.seq its.toArray}}:=
   I1.laid (t':=s.toks) (fun b o e=>Heap.get?_push_of_some _ e) (Nat.le_refl _) (show ObjOk X.prog X.w _ _ _ (.tup ys) from⟨hz,its,r',TupP.new _ _⟩)
  exact⟨.ref h'.objs.size,_,I2,rfl,q _ (I1.hok.fresh (Nat.le_refl _))⟩
 ·obtain⟨its,r',pl,hz⟩:=I.tuple hq
  exact call_tuple_same pl ⟨.ref p,H,I,rfl,q⟩
def tyV (K:PySem.W.Frag)(T:String)(x:V)(H:Hp):Prop:=match x with
 | .str _=>T="str"
 | .int _=>T="int"
 | .ref p=>(T="list"/\∃xs,SqL K H p xs)\/(T="tuple"/\∃o,K.lookup p=some o/\o.cls=.type "tuple"/\o.dict=none)\/
   (T="dict"/\((∃kvs,H p=some (.dK kvs))\/∃kvs,H p=some (.dT kvs)))\/(T="set"/\∃S n,H p=some (.set S n))
 |_=>False
theorem tyV_is {pins:List (Addr×Obj)}{σ:St}{H:Hp}{s:Shared}{T:String}{x:V}{v:Value}(I:Inv X pins σ H s)(r:RelV x v)(ty:tyV X.K T x H) :
  s.TypeIs v T/\∀a,v=.ref a->∃ob,s.heap.get? a=some ob/\ob.dict=none:=by
 cases x with
 |str z=>
  obtain⟨t,rfl⟩:=r
  cases (show T="str" from ty)
  exact⟨typeIs_str s z t,fun _ e=>nomatch e⟩
 |int i=>
  obtain⟨t,rfl⟩:=r
  cases (show T="int" from ty)
  exact⟨typeIs_int s i t,fun _ e=>nomatch e⟩
 |ref p=>
  cases r
  rcases ty with⟨rfl,xs,hq⟩ | ⟨rfl,o,hk,hc,hd⟩ | ⟨rfl,hk⟩ | ⟨rfl,S,n,hk⟩
  ·obtain⟨its,_,pl,_⟩:=I.list hq
   refine⟨pl.isList.typeIs,fun a e=>?_⟩
   cases e
   obtain⟨o,n,e,c,hd,_⟩:=pl
   exact⟨o,e,hd⟩
  ·refine⟨⟨o,I.kIn p o hk,hc⟩,fun a e=>?_⟩
   cases e
   exact⟨o,I.kIn _ o hk,hd⟩
  ·have z:∃o,s.heap.get? p=some o/\o.ExactDict:=by
    rcases hk with⟨kvs,hk⟩ | ⟨kvs,hk⟩
    ·obtain⟨_,_,_,_,o,_,_,e,ex,_⟩:=I.hok p _ hk
     exact⟨o,e,ex⟩
    ·obtain⟨_,_,_,_,o,_,_,e,ex,_⟩:=I.hok p _ hk
     exact⟨o,e,ex⟩
   obtain⟨o,e,ex⟩:=z
   refine⟨⟨o,e,ex.1⟩,fun a e2=>?_⟩
   cases e2
   exact⟨o,e,ex.2.1⟩
  ·obtain⟨o,_,_,_,e,ex,_⟩:=I.hok p _ hk
   refine⟨⟨o,e,ex.1⟩,fun a e2=>?_⟩
   cases e2
   exact⟨o,e,ex.2.1⟩
 |_=>exact False.elim ty
def tBM (K:PySem.W.Frag)(T:String)(r:V->List V->Hp->VK->Prop)(to:TE)(t:TA):TE:=fun σ H Q=>to σ H fun x H1=>tyV K T x H1/\t σ H1 fun xs H2=>r x xs H2 Q
variable {o e:Expr}{es:List Expr}{to:TE}{t:TA}{name:Str}{apos cpos:Pos}{T id:String}{r:V->List V->Hp->VK->Prop}
theorem pe_bm (pa:PlainAttrs T)(slot:Slot T name id)(hty:typeOf (.builtin id)=pure (.type "method_descriptor"))(hm:MtR X id r)(ho:PE X o to)(ha:PA X (e :: es) t)
  (hbase:attributeBase o name X.env (eval o X.env)=eval o X.env:=by rfl)
  (hfew:((backTo cpos (starEach (e :: es) X.env)).all (fun x=> !x.1) && (backToKw cpos (keywordEach [] X.env)).all (fun x=>x.1.isSome)
   && decide ((e :: es).length + ([]:List Keyword).length + (if ([]:List Keyword).isEmpty then 0 else 1) < 30))=true:=by rfl)
  (hline:(apos.endLine == cpos.line)=true:=by rfl) (hs:starEach (e :: es) X.env=(false,eval e X.env) :: starEach es X.env:=by rfl) (hplain:(backTo cpos (starEach es X.env)).any (·.1)=false:=by rfl) :
  PE X (.Call (.Attribute o name apos) (e :: es) [] cpos) (tBM X.K T r to t):=by
 intro pins s σ H Q I h
 refine wpAny_Call_method_late hbase hfew hline rfl (thn (ho pins s σ H _ I h) fun v s1 ⟨x,H1,I1,r1,ty,q1⟩=>?_)
 obtain⟨h1,h2⟩:=tyV_is I1 r1 ty
 refine⟨T,id,pa,slot,hty,h1,h2,?_⟩
 have hA:=ha cpos pins s1 σ H1 _ I1 q1
 rw [hs] at hA ⊢
 refine Calls.callWith_builtin (by show (false || (backTo cpos (starEach es X.env)).any (·.1))=false;rw [hplain] <;> rfl) (Calls.evalArgs_plain ?_)
 exact thn hA fun us s2 ⟨vs,H2,I2,r2,q2⟩=>hm pins s2 σ H2 x vs v us Q I2 r1 r2 q2
end
end L2
namespace L2
open PySem PySem.Spec PyProof.Rows
def MtM (X:Cx)(id:String)(r:V->List V->Hp->VK->Prop):Prop:=
 ∀(pins:List (Addr×Obj)) (s:Shared) (σ:St) (H:Hp) (x:V) (xs:List V) (v:Value) (us:List Value) (Q:VK),Inv X pins σ H s->RelV x v->Vals xs us->r x xs H Q->
  wpAny (model X.prog X.w) X.A (call (.builtin id) (v :: us)) (EP X pins σ Q) X.xe s
theorem Vals.one:∀{x:V} {us:List Value},Vals [x] us->∃u,us= [u]/\RelV x u
 |_,_,.cons r .nil=>⟨_,rfl,r⟩
theorem Vals.eraseIdx:∀{xs:List V} {us:List Value} (i:Nat),Vals xs us->Vals (xs.eraseIdx i) (us.eraseIdx i)
 |_,_,_,.nil=>.nil
 |_,_,0,.cons _ t=>t
 |_,_,i + 1,.cons r t=>.cons r (Vals.eraseIdx i t)
theorem Vals.reverse {xs:List V}{us:List Value}(h:Vals xs us):Vals xs.reverse us.reverse:=by
 induction h with
 |nil=>exact .nil
 |cons r t ih=>rw [List.reverse_cons,List.reverse_cons];exact Vals.append ih (.cons r .nil)
theorem Vals.rep {xs:List V}{us:List Value}(h:Vals xs us):∀k:Nat,Vals (List.replicate k xs).flatten (List.replicate k us).flatten
 | 0=>.nil
 |k + 1=>by
  rw [List.replicate_succ,List.replicate_succ,List.flatten_cons,List.flatten_cons]
  exact Vals.append h (Vals.rep h k)
theorem len_erase {α:Type}:∀(l:List α) (i:Nat),(l.eraseIdx i).length<=l.length
 | [],_=>Nat.le_refl _
 |_ :: _,0=>Nat.le_succ _
 |_ :: r,i + 1=>Nat.succ_le_succ (len_erase r i)
theorem foldl_rep (its:List Value):∀(k:Nat) (acc:List Value),
  List.foldl (fun x1 x2=>x1 ++ x2) acc.toArray (List.replicate k its.toArray)=(acc ++ (List.replicate k its).flatten).toArray
 | 0,acc=>by simp
 |k + 1,acc=>by
  have e:acc.toArray ++ its.toArray=(acc ++ its).toArray:=by simp
  have e2:(acc ++ its) ++ (List.replicate k its).flatten=acc ++ (List.replicate (k + 1) its).flatten:=by
   rw [List.replicate_succ,List.flatten_cons,List.append_assoc]
  rw [<-e2,<-foldl_rep its k (acc ++ its),<-e,List.replicate_succ,List.foldl_cons]
section
variable {X:Cx}{pins:List (Addr×Obj)}{σ:St}{H:Hp}{s:Shared}{l b:Addr}{xs ys zs:List V}
theorem Inv.lset {its its':List Value}{n:Nat}{f:Array Value->Array Value}{t':Nat}(I:Inv X pins σ H s)(hH:H l=some (.lst xs))
  (e:s.heap.get? l=some {cls:=.type "list",data:=.seq its.toArray n}) (hf:f its.toArray=its'.toArray) (hv:Vals ys its') (hz:ys.length<=sizeLine) :
  Inv X pins σ (upd H l (.lst ys)) {s with heap:=s.heap.update l (Obj.mapSeq f),toks:=t'}:=by
 have q:=PySem.IsL.update e f
 rw [hf] at q
 refine I.write (x:=l) (e:=l) (by rw [hH];exact trivial) (.inl rfl) (fun b' u hb hu=>(Heap.get?_update_other s.heap (Obj.mapSeq f) (Ne.symm hb)).trans hu) ⟨_,q⟩ ?_
 exact⟨hz,its',_,hv,q⟩
theorem Inv.lnew {its:List Value}{t':Nat}(I:Inv X pins σ H s)(hv:Vals ys its)(hz:ys.length<=sizeLine) :
  Inv X pins σ (upd H s.heap.objs.size (.lst ys)) {s with heap:=s.heap.push {cls:=.type "list",data:=.seq its.toArray},toks:=t'}:=
 I.laid (fun _ _ q=>Heap.get?_push_of_some _ q) (Nat.le_refl _) ⟨hz,its,0,hv,Heap.get?_push_size _ rfl⟩
theorem Inv.fresh (I:Inv X pins σ H s):H s.heap.objs.size=none:=I.hok.fresh (Nat.le_refl _)
theorem Inv.lstM (I:Inv X pins σ H s)(hH:H l=some (.lst xs)):xs.length<=sizeLine/\∃(its:List Value) (n:Nat),Vals xs its/\xs.length=its.length/\s.heap.get? l=some {cls:=.type "list",data:=.seq its.toArray n}:=by
 obtain⟨z,its,n,r,e⟩:=I.hok l _ hH
 exact⟨z,its,n,r,r.length,e⟩
theorem notLongL {n:Nat}(h:n<=sizeLine):Builtin.List.listTooLong n=false:=by
 unfold Builtin.List.listTooLong
 exact decide_eq_false (by omega)
end
section
variable {X:Cx}
def rAppend:V->List V->Hp->VK->Prop:=fun x vs H Q=>∃l xs y,x=.ref l/\vs= [y]/\H l=some (.lst xs)/\xs.length < sizeLine/\Q .non (upd H l (.lst (xs ++ [y])))
theorem mt_append:MtM X "list.append" rAppend:=by
 intro pins s σ H x vs v us Q I rx rv h
 obtain⟨l,xs,y,rfl,rfl,hH,hz,q⟩:=h
 cases rx
 obtain⟨u,rfl,ru⟩:=rv.one
 obtain⟨z,its,n,r,hl,e⟩:=I.lstM hH
 refine call_meets F.slot_list_append ⟨_,e,rfl⟩ F.entry_list_append (F.args_list_append_2 _ _) (PySem.list_append l its.toArray n u (by rw [List.size_toArray];omega)) ⟨e,?_⟩
 refine⟨.non,_,I.lset (its':=its ++ [u]) hH e (by simp) (r.append (.cons ru .nil)) ?_,rfl,q⟩
 rw [List.length_append,List.length_singleton]
 omega
def rPopAt:V->List V->Hp->VK->Prop:=fun x vs H Q=>∃l xs i k y,x=.ref l/\vs= [.int i]/\H l=some (.lst xs)/\ -(2 ^ 63)<=i/\i < 2 ^ 63/\seqIndex? i xs.length=some k/\xs[k]? =some y/\Q y (upd H l (.lst (xs.eraseIdx k)))
theorem mt_popAt:MtM X "list.pop" rPopAt:=by
 intro pins s σ H x vs v us Q I rx rv h
 obtain⟨l,xs,i,k,y,rfl,rfl,hH,h1,h2,hk,hy,q⟩:=h
 cases rx
 obtain⟨u,rfl,ru⟩:=rv.one
 obtain⟨t,rfl⟩:=ru
 obtain⟨z,its,n,r,hl,e⟩:=I.lstM hH
 obtain⟨w,hw,rw'⟩:=r.get hy
 refine call_meets F.slot_list_pop ⟨_,e,rfl⟩ F.entry_list_pop (F.args_list_pop_2 _ _)
  (MeetsSeq.list_pop_at l its.toArray n i t k w (fitsIndex_both h1 h2) (by rw [List.size_toArray,<-hl];exact hk) (by rw [<-Array.getElem?_toList];exact hw) (by rw [List.size_toArray];omega)) ⟨e,?_⟩
 refine⟨y,_,I.lset (its':=its.eraseIdx k) hH e ?_ (r.eraseIdx k) ?_,rw',q⟩
 ·show its.toArray.eraseIdxIfInBounds k=(its.eraseIdx k).toArray
  rw [List.eraseIdxIfInBounds_toArray]
 ·have:=len_erase xs k
  omega
def rRep:R2:=fun x y H Q=>∃l k xs,x=.ref l/\y=.int k/\H l=some (.lst xs)/\ -(2 ^ 63)<=k/\k < 2 ^ 63/\xs.length * k.toNat<=sizeLine/\
 ∀p,H p=none->Q (.ref p) (upd H p (.lst (List.replicate k.toNat xs).flatten))
theorem len_rep {α:Type}(xs:List α)(k:Nat):(List.replicate k xs).flatten.length=k * xs.length:=by
 induction k with
 |zero=>simp
 |succ k ih=>rw [List.replicate_succ,List.flatten_cons,List.length_append,ih,Nat.succ_mul,Nat.add_comm]
theorem op_rep:OpR X (binaryOp .Mult) rRep:=by
 intro pins s σ H x y v u Q I rx ry h
 obtain⟨l,k,xs,rfl,rfl,hH,h1,h2,hz,q⟩:=h
 cases rx
 obtain⟨t,rfl⟩:=ry
 obtain⟨z,its,n,r,hl,e⟩:=I.lstM hH
 have hlen:its.toArray.size * k.toNat<=sizeLine:=by rw [List.size_toArray,<-hl];exact hz
 have hcap:¬its.toArray.size * k.toNat > (2 ^ 63 - 1) / 8:=by
  have:(sizeLine:Nat)<=(2 ^ 63 - 1) / 8:=by decide
  omega
 have hfit:¬(!Builtin.List.listFitsIndex k)=true:=by
  rw [fitsIndex_both h1 h2]
  exact Bool.false_ne_true
 have hlong:¬Builtin.List.listTooLong (its.toArray.size * k.toNat)=true:=by
  rw [notLongL hlen]
  exact Bool.false_ne_true
 have hnew:List.foldl (fun x1 x2=>x1 ++ x2) #[] (List.replicate (if its.toArray.isEmpty=true then 0 else k.toNat) its.toArray)=(List.replicate k.toNat its).flatten.toArray:=by
  have f0:∀m:Nat,List.foldl (fun x1 x2=>x1 ++ x2) #[] (List.replicate m its.toArray)=(List.replicate m its).flatten.toArray:=fun m=>by
   have:=foldl_rep its m []
   rw [List.nil_append] at this
   exact this
  rw [f0]
  cases its with
  |nil=>simp
  |cons a r'=>rw [if_neg (by simp)]
 refine wpAny_binaryOp_repeat_ref (T:="list") (U:="int") (by decide) ⟨_,e,rfl⟩ (fun s'=>typeIs_int s' k t) noFill_list_mul F.fills_int_mul F.slot_int_rmul repeat_list F.slot_int_index.lookup
  (call_meets F.slot_int_rmul (typeIs_int s k t) F.entry_int_rmul (F.args_int_rmul_2 _ _) (int___rmul___int_list k t l its.toArray n)
   ⟨e,rfl,⟨_,e,rfl⟩,call_meets F.slot_list_mul ⟨_,e,rfl⟩ F.entry_list_mul (F.args_list_mul_2 _ _) (AutoListH.list___mul___list_int_3 l its.toArray n k t hfit hcap hlong) ⟨e,?_⟩⟩)
 rw [hnew]
 exact⟨.ref _,_,I.lnew (t':=s.toks) (r.rep k.toNat) (by rw [len_rep,Nat.mul_comm];exact hz),rfl,q _ I.fresh⟩
end
end L2
namespace Att
open PySem PySem.W PySem.Calls PyProof.Rows
theorem ints_of_wellAll {P:Params}{h:Heap}:∀(ns:List Int) (vs:List Value),WellAll P h vs (ns.map WData.int)->IntsAre vs ns:=by
 intro ns
 induction ns with
 |nil=>
  intro vs w
  rw [List.map_nil] at w
  cases w
  exact .nil
 |cons n ns ih=>
  intro vs w
  rw [List.map_cons] at w
  cases w with
  |cons a b=>
   cases a
   exact .cons _ _ (ih _ b)
theorem script_of {l:OpenLaw}{n:Nat}(hn:l.most=some n){P:Params}{h:Heap}{args:List WData}{vals:List Value}
  (hpre:l.row.toRowW.claim.pre args=true) (hwl:WellAll P h vals args) :
  ∃a vs ns,vals= [Value.ref a]/\args= [WData.list (ns.map WData.int)]/\h.get? a=some {cls:=.type "list",data:=.seq vs.toArray}/\IntsAre vs ns/\ns.length<=n:=by
 have hsh:WShape.hasAll [] args [.list .int]=true:=(pre_splitW hpre).1
 have hc:l.pre.holds [] {args:=args}=true:=(pre_splitW hpre).2
 obtain⟨d,r,rfl,h1,h2⟩:=hasAllW_cons hsh
 obtain rfl:=hasAllW_nil h2
 obtain⟨xs,rfl,h3⟩:=hasW_list h1
 obtain⟨ns,rfl⟩:=items_int h3
 have hlen:ns.length<=n:=by
  unfold OpenLaw.pre at hc
  have h4:(WTm.not (.lt (.lit (.int (n:Int))) (.len (.arg 0)))).holds [] {args:=[.list (ns.map .int)]}=true:=by
   have h4:=(holds_andW hc).1
   rw [hn] at h4
   exact h4
  have h5:=condW_of h4 (w_not (w_lt w_lit (w_len_list (w_arg rfl))))
  rw [List.length_map] at h5
  refine Nat.le_of_not_lt fun q=>?_
  have q':(n:Int) < ((ns.length:Nat):Int):=by omega
  first
   | (rw [decide_eq_true q'] at h5;exact absurd h5 (by decide))
   | (simp at h5;omega)
 cases hwl with
 |cons w1 w2=>
  cases w2
  cases w1 with
  |list ho hall=>exact⟨_,_,ns,rfl,rfl,ho,ints_of_wellAll ns _ hall,hlen⟩
theorem post_true (l:OpenLaw)(args:List WData):l.row.toRowW.claim.post args (.bool true) args=true:=
 postW_of (r:=l.row.toRowW) (X:=(true == true))
  (show WShape.has [] (.bool true) .bool=true by first |rfl |decide |simp [WShape.has,WShape.arms,WShape.armsAll])
  (show (WTm.eq .res (.lit (.bool true))).value [] {args:=args,res:=some (.bool true),after:=args}=some (.bool (true == true)) from w_eq_bool (w_res rfl) w_lit) rfl
theorem attach_call {l:OpenLaw}{n:Nat}{q:Program}{loose:List Str}{XP:(Str->Option Value)->Heap->Prop}{YP:World->Heap->Prop}{d:DefRec}
  (hn:l.most=some n) (hdf:d.params.defaults= [])
  (call:∀(w:World) (s₀ s₁:Shared) (mg mb:Str->Option Value) (fa:Addr) (o:Obj) (pm cd doc:Value) (a:Addr) (vs:List Value) (ns:List Int),
   Ground q loose [] XP w s₀ mg mb s₁.heap->YP w s₁.heap->
   s₁.heap.get? fa=some o->o.data=.func (docDef d.name d.params d.body d.scope pm cd doc)->s₁.heap.CodeRec cd d.name->mg d.name=some (.ref fa)->
   s₁.heap.get? a=some {cls:=.type "list",data:=.seq vs.toArray}->IntsAre vs ns->ns.length<=n->s₁.gens=#[]->
   codeAny (model l.prog w) callerA (.call (.ref fa) ⟨[.ref a],[]⟩) (fun r s'=>r=.ok (.ret (.bool true))/\OldK s₁.heap s'.heap/\s'.os=s₁.os/\AllBare s'.gens) s₁) :
  WalkO q loose XP YP l.row.toRowW d [] (fun f vs=>PySem.call f vs):=by
 intro w s₀ s₁ mg mb G Y fa o pm cd doc dV kV ho hd hcd hD hmg hg args vals as hpre hlay hrd hwl hlo
 obtain rfl:dV=.none:=Dflts.none hD hdf
 obtain rfl:kV=.none:=Dflts.noKw hD
 obtain⟨a,vs,ns,rfl,rfl,hobj,hints,hlen⟩:=script_of hn hpre hwl
 refine enter_call (codeAny_mono (call w s₀ s₁ mg mb fa o pm cd doc a vs ns G Y ho (fd_plain hd) hcd hmg hobj hints hlen hg) fun r s' hq=>?_)
 obtain⟨rfl,h2,h3,h4⟩:=hq
 exact⟨.inl ⟨.bool true,.bool true,[],rfl,fun _=>rfl,.bool true,post_true l _,fun _=>⟨List.Pairwise.nil,fun _ hm=>(nomatch hm)⟩⟩,h2,h3,h4⟩
end Att
namespace L2
open PySem PySem.Spec PyProof.Rows
theorem vals_ints:∀{vs:List Value} {ns:List Int},IntsAre vs ns->Vals (ns.map V.int) vs
 |_,_,.nil=>.nil
 |_,_,.cons n t h=>.cons ⟨t,rfl⟩ (vals_ints h)
def Only (H:Hp):Prop:=∀b,H b=none\/∃o xs,H b=some (.frz o (.lst xs))
theorem law_call {P:Program}{w:World}{K:PySem.W.Frag}{mg mb:Str->Option Value}{CX:CXT}{k:Nat}{fa a:Addr}{fd:FuncData}{x:Str}{sp:Sp}{s₁:Shared}{vs:List Value}{ns:List Int}
  (KX:K.In s₁.heap) (hns:s₁.heap.Ns mainGlobals mg) (hb:s₁.heap.Ns builtinsNs mb) (hbb:∀x:Str,x≠"__name__"->mb x=bootBuiltins x) (hlim:s₁.heap.NoLimit) (hsys:∃mm,s₁.heap.Ns sysModules mm) (hg:s₁.gens=#[])
  (ha:s₁.heap.get? a=some {cls:=.type "list",data:=.seq vs.toArray}) (hi:IntsAre vs ns) (hl:ns.length<=sizeLine) (hr:Room k callerA)
  (F:∀base:Heap,K.In base->base.Ns mainGlobals mg->FnOk P w K mg base CX k fa fd [x] sp) (hbind:∀(s:Shared) (u:Value),BindsTo s fd ⟨[u],[]⟩ [(x,u)])
  (hsp:∀H:Hp,Only H->SqL K H a (ns.map V.int)->sp [.ref a] H (fun v _=>v=.bl true) fun _ _ _=>False)
  (hCX:∀H e s',CX [] H s₁ (fun _ _ _=>False) e s'->False) :
  codeAny (model P w) callerA (.call (.ref fa) ⟨[.ref a],[]⟩) (fun r s'=>r=.ok (.ret (.bool true))/\OldK s₁.heap s'.heap/\s'.os=s₁.os/\AllBare s'.gens) s₁:=by
 have rv:=vals_ints hi
 have lenV:=hi.length
 have core:∀H:Hp,Only H->SqL K H a (ns.map V.int)->HOk P w H s₁.heap->(∀b,H b≠none->b=a)->(H a≠none->K.lookup a=none)->
   codeAny (model P w) callerA (.call (.ref fa) ⟨[.ref a],[]⟩) (fun r s'=>r=.ok (.ret (.bool true))/\OldK s₁.heap s'.heap/\s'.os=s₁.os/\AllBare s'.gens) s₁:=by
  intro H hO hS hok hA hK
  have base_of:∀{b:Addr} {o:Obj},s₁.heap.get? b=some o->H b=none->(hidT s₁.heap H).get? b=some o:=fun e n=>hidT_get e n
  have noA:∀{b:Addr} {o:Obj} {es:Array DictEntry} {ep:Nat},s₁.heap.get? b=some o->o.data=.dict es ep->H b=none:=fun {b o es ep} e d=>by
   cases q:H b with
   |none=>rfl
   |some u=>
    have e':b=a:=hA b (by rw [q];simp)
    subst e'
    rw [ha] at e;cases e
    have d':Data.seq vs.toArray _=Data.dict es ep:=d
    cases d'
  have nsK:∀{b:Addr} {m:Str->Option Value},s₁.heap.Ns b m->(hidT s₁.heap H).Ns b m:=fun {b m} ⟨o,es,ep,e,d,r⟩=>⟨o,es,ep,base_of e (noA e d),d,r⟩
  have hKb:K.In (hidT s₁.heap H):=fun b o e=>base_of (KX b o e) (by
   cases q:H b with
   |none=>rfl
   |some u=>
    have e':b=a:=hA b (by rw [q];simp)
    subst e'
    rw [hK (by rw [q];simp)] at e;cases e)
  have hM:Mod K mg (hidT s₁.heap H):=⟨hKb,nsK hns,⟨mb,nsK hb,hbb⟩,let ⟨mc,h1,h2⟩:=hlim;⟨mc,nsK h1,h2⟩,let ⟨mm,h1⟩:=hsys;⟨mm,nsK h1⟩⟩
  have e0:Env0 P w K mg (hidT s₁.heap H) callerA [] s₁ H:=⟨rfl,hM,fun b o e=>of_hidT e,Nat.le_of_eq (hidT_size _ _),trivial,fun b hb=>absurd (show b∈([]:List Addr) from hb) (by simp),hok,.of_eq hg⟩
  refine codeAny_mono ((F _ hKb (nsK hns)).run callerA [] s₁ H ⟨[.ref a],[]⟩ [.ref a] [.ref a] _ _ hr e0 (hbind s₁ (.ref a)) (.cons rfl .nil) (hsp H hO hS)) fun r s' h=>?_
  cases r with
  |error e=>exact (hCX H e s' h).elim
  |ok fl=>
   cases fl with
   |next=>exact False.elim h
   |brk=>exact False.elim h
   |cont=>exact False.elim h
   |ret u=>
    obtain⟨v,H',os,bare,un,hok',r',q⟩:=h
    have q':v=.bl true:=q
    subst q'
    obtain rfl:u=Value.bool true:=r'
    refine⟨rfl,OldK.of_keep fun b o e=>?_,os,bare⟩
    cases q:H b with
    |none=>exact un.keep b o e q (by intro z;exact absurd (show b∈([]:List Addr) from z) (by simp)) (by simp)
    |some u=>
     rcases hO b with z | ⟨ob,xs,z⟩
     ·rw [q] at z;cases z
     ·have z2:=un.frzs b ob _ z
      obtain⟨e1,_⟩:=hok b _ z
      obtain⟨e2,_⟩:=hok' b _ z2
      rw [e] at e1;cases e1
      exact e2
 cases hk:K.lookup a with
 |some o=>
  have e:=KX a o hk
  rw [ha] at e
  cases e
  refine core (fun _=>none) (fun _=>.inl rfl) (.inr ⟨_,vs.toArray,_,hk,rfl,rfl,rfl,by rw [List.size_toArray,lenV];exact hl,by simpa using rv⟩) (fun b u z=>by have z':(none:Option HO)=some u:=z;cases z') (fun b z=>absurd rfl z) fun z=>absurd rfl z
 |none=>
  refine core (fun b=>if b=a then some (.frz {cls:=.type "list",data:=.seq vs.toArray} (.lst (ns.map V.int))) else none) (fun b=>?_) (.inl (.inr ⟨{cls:=.type "list",data:=.seq vs.toArray},if_pos rfl⟩)) (fun b u z=>?_) (fun b z=>?_) fun _=>hk
  ·by_cases hb:b=a
   ·exact .inr ⟨_,_,if_pos hb⟩
   ·exact .inl (if_neg hb)
  ·by_cases hb:b=a
   ·have z':=(if_pos hb).symm.trans z
    cases z'
    subst hb
    exact⟨ha,by rw [List.length_map];exact hl,vs,_,rv,ha⟩
   ·have z':=(if_neg hb).symm.trans z
    cases z'
  ·by_cases hb:b=a
   ·exact hb
   ·exact absurd (if_neg hb) z
end L2
namespace L2
open PySem PySem.Spec PyProof.Rows
theorem walk_of {l:PySem.W.OpenLaw}{n k:Nat}{q:Program}{loose:List Str}{XP:(Str->Option Value)->Heap->Prop}{YP:World->Heap->Prop}{d:DefRec}{K:Params->PySem.W.Frag}{CX:World->CXT}{sp:World->Sp}{x:Str}
  (hn:l.most=some n) (hn2:n<=sizeLine) (hdf:d.params.defaults= []) (hi:PyProof.Rows.importsNone q=true) (hr:Room k callerA)
  (hY:∀(w:World) (h:Heap),YP w h->(K w.params).In h)
  (F:∀(w:World) (mg:Str->Option Value) (fa:Addr) (h:Heap),(K w.params).In h->h.Ns mainGlobals mg->mg d.name=some (.ref fa)->
   ∃fd:FuncData,(∀(s:Shared) (u:Value),BindsTo s fd ⟨[u],[]⟩ [(x,u)])/\
    ∀base:Heap,(K w.params).In base->base.Ns mainGlobals mg->FnOk l.prog w (K w.params) mg base (CX w) k fa fd [x] (sp w))
  (hsp:∀(w:World) (H:Hp) (a:Addr) (ns:List Int),ns.length<=n->Only H->SqL (K w.params) H a (ns.map V.int)->sp w [.ref a] H (fun v _=>v=.bl true) fun _ _ _=>False)
  (hCX:∀(w:World) (H:Hp) (s:Shared) (e:Value) (s':Shared),CX w [] H s (fun _ _ _=>False) e s'->False) :
  PySem.W.WalkO q loose XP YP l.row.toRowW d [] (fun f vs=>PySem.call f vs):=by
 refine Att.attach_call hn hdf fun w s₀ s₁ mg mb fa o pm cd doc a vs ns G Y ho hd hcd hmg hobj hints hlen hg=>?_
 have KX:=hY w _ Y
 obtain⟨fd,hb,hF⟩:=F w mg fa _ KX G.T.g hmg
 exact law_call KX G.T.g G.T.b G.T.builtins G.T.nolimit (let ⟨mm,h1,_⟩:=(G.T.seer hi).mods;⟨mm,h1⟩) hg hobj hints (Nat.le_trans hlen hn2) hr hF hb (fun H hO hS=>hsp w H a ns hlen hO hS) fun H e s'=>hCX w H s₁ e s'
end L2
namespace L2
open PySem PySem.Spec PyProof.Rows
def defArgs (s:Stmt):Arguments:=match s with
 | .FunctionDef _ a _ _ _ _ _ _ _ _=>a
 |_=>{posonlyargs:=[],args:=[],vararg:=none,kwonlyargs:=[],kw_defaults:=[],kwarg:=none,defaults:=[]}
def defBody (s:Stmt):List Stmt:=match s with
 | .FunctionDef _ _ b _ _ _ _ _ _ _=>b
 |_=>[]
def defScope (s:Stmt):Scope:=match s with
 | .FunctionDef _ _ _ _ _ _ sc _ _ _=>sc
 |_=>{kind:=.function,names:=[],isGenerator:=false,isCoroutine:=false}
abbrev CX0:CXT:=fun _ _ _ _ _ _=>False
abbrev E0:XK:=fun _ _ _=>False
theorem pass0 {X:Cx}:Passes CX0 X E0:=fun _ _ _ _ _ _ _ h=>h.elim
structure Fun (K:PySem.W.Frag)(x qual:Str)(st:Stmt)(f:Addr)(fd:FuncData):Prop where
 ex:∃(oc:Value) (od:Option Addr) (kV doc pm:Value) (an:Option Addr) (cdv ct:Value) (osl:Array (Option Value)),
  fd=PySem.W.fnOf x qual (defArgs st) (defBody st) (defScope st) .none kV doc pm an cdv ct/\K.lookup f=some ⟨oc,od,.func fd,osl⟩/\PySem.W.codeIn K cdv qual=true
 kp:PySem.W.keepIn K (.ref f)=true
section
variable {P:Program}{w:World}{K:PySem.W.Frag}{mg:Str->Option Value}{base:Heap}
theorem Fun.ok {x qual:Str}{st:Stmt}{f:Addr}{fd:FuncData}{N ps:List Str}{k:Nat}{sp:Sp}(F:Fun K x qual st f fd)(S:FnScope N ps (defScope st))(len:∀vs H Q E,sp vs H Q E->vs.length=ps.length)
  (hbody:∀(cdv:Value) (A:Around) (outer:List Env) (s:Shared) (H:Hp) (vs:List V) (Q:VK) (E:XK),Room k (A.deeper (envOfC qual (defScope st) s.heap.objs.size f cdv))->sp vs H Q E->
   ∃t,PSs (cxOf CX0 P w K mg base N qual (defScope st) f cdv A outer s H E).nox (defBody st) t/\t {nx:=fun _ H'=>Q .non H',rt:=Q} (start N vs) H):FnOk P w K mg base CX0 (k + 1) f fd ps sp:=by
 obtain⟨oc,od,kV,doc,pm,an,cdv,ct,osl,rfl,lk,hcd⟩:=F.ex
 refine fn_of lk hcd S len fun A outer s H vs Q E hr hsp=>?_
 obtain⟨t,h,q⟩:=hbody cdv A outer s H vs Q E hr hsp
 exact⟨t,h.nox,q⟩
theorem Fun.binds {x qual:Str}{st:Stmt}{f:Addr}{fd:FuncData}{ps:List Str}(F:Fun K x qual st f fd)
  (h:∀(kV doc pm:Value) (an:Option Addr) (cdv ct:Value) (us:List Value),us.length=ps.length->bindArgs (PySem.W.fnOf x qual (defArgs st) (defBody st) (defScope st) .none kV doc pm an cdv ct) ⟨us,[]⟩=pure (ps.zip us)):Binds K fd ps []:=by
 obtain⟨oc,od,kV,doc,pm,an,cdv,ct,osl,rfl,lk,hcd⟩:=F.ex
 exact .all (h kV doc pm an cdv ct)
theorem fun_mk {x qual:Str}{st:Stmt}{f:Addr}{oc:Value}{od an:Option Addr}{osl:Array (Option Value)}{kV doc pm cdv ct:Value}(l:K.lookup f=some ⟨oc,od,.func (PySem.W.fnOf x qual (defArgs st) (defBody st) (defScope st) .none kV doc pm an cdv ct),osl⟩)
  (c:PySem.W.codeIn K cdv qual=true) (k:PySem.W.keepIn K (.ref f)=true):Fun K x qual st f (PySem.W.fnOf x qual (defArgs st) (defBody st) (defScope st) .none kV doc pm an cdv ct):=⟨⟨oc,od,kV,doc,pm,an,cdv,ct,osl,rfl,l,c⟩,k⟩
end
section
variable {X:Cx}
theorem pv (i:Nat){x:Str}{pos:Pos}(hN:X.N[i]? =some x:=by rfl)(hv:Vis X.env.scope x:=by first |exact Or.inl rfl |exact Or.inr (Or.inl rfl) |exact Or.inr (Or.inr rfl))(hd:(x == ("__debug__":Str))=false:=by decide)
  (hcd:(x == ("__classdict__":Str))=false:=by decide):PE X (.Name x pos) (tVar i):=pe_var hN hv hd hcd
end
theorem iteF {A B:Prop}(h:B):if false=true then A else B:=by
 rw [if_neg Bool.false_ne_true]
 exact h
theorem iteT {A B:Prop}(h:A):if true=true then A else B:=by
 rw [if_pos rfl]
 exact h
def Same (H H':Hp):Prop:=∀b o,H b=some o->H' b=some o
theorem Same.refl (H:Hp):Same H H:=fun _ _ h=>h
theorem Same.trans {H H1 H2:Hp}(a:Same H H1)(b:Same H1 H2):Same H H2:=fun c o h=>b c o (a c o h)
theorem Same.free {H H':Hp}(e:Same H H'){l:Addr}(h:H' l=Option.none):H l=Option.none:=by
 cases q:H l with
 |none=>rfl
 |some o=>
  rw [e l o q] at h
  cases h
theorem Same.seq {K:PySem.W.Frag}{H H':Hp}{a:Addr}{xs:List V}(e:Same H H')(h:SqL K H a xs):SqL K H' a xs:=by
 rcases h with (h | ⟨o,h⟩) |h
 ·exact .inl (.inl (e _ _ h))
 ·exact .inl (.inr ⟨o,e _ _ h⟩)
 ·exact .inr h
end L2

end

section
namespace L2.ST
open PySem PySem.SetTable
abbrev Rising (xs:Array Nat):Prop:=xs.toList.Pairwise (· < ·)
theorem rising_getD {xs:Array Nat}(h:Rising xs){i k d:Nat}(hik:i < k)(hk:k < xs.size):xs.getD i d < xs.getD k d:=by
 have hi:i < xs.size:=Nat.lt_trans hik hk
 have:=List.pairwise_iff_getElem.mp h i k (by simpa using hi) (by simpa using hk) hik
 simpa [Array.getD,hi,hk] using this
theorem below_go {xs:Array Nat}{j:Nat}(h:Rising xs):∀(fuel lo hi:Nat),lo<=hi->hi<=xs.size->hi - lo<=fuel->
  (∀i,i < lo->xs.getD i j < j)->(∀i,hi<=i->i < xs.size->j<=xs.getD i j)->
  below.go xs j fuel lo hi<=xs.size/\(∀i,i < below.go xs j fuel lo hi->xs.getD i j < j)/\(∀i,below.go xs j fuel lo hi<=i->i < xs.size->j<=xs.getD i j):=by
 intro fuel
 induction fuel with
 |zero=>
  intro lo hi h1 h2 h3 h4 h5
  have:lo=hi:=by omega
  subst this
  exact⟨h2,h4,h5⟩
 |succ fuel ih=>
  intro lo hi h1 h2 h3 h4 h5
  unfold below.go
  by_cases hlt:lo < hi
  ·rw [if_pos hlt]
   dsimp only
   by_cases hm:xs.getD ((lo + hi) / 2) j < j
   ·rw [if_pos hm]
    refine ih _ _ (by omega) h2 (by omega) (fun i hi'=>?_) h5
    by_cases e:i=(lo + hi) / 2
    ·rw [e];exact hm
    ·exact Nat.lt_trans (rising_getD h (show i < (lo + hi) / 2 by omega) (by omega)) hm
   ·rw [if_neg hm]
    refine ih _ _ (by omega) (by omega) (by omega) h4 (fun i hi' hs=>?_)
    by_cases e:i=(lo + hi) / 2
    ·rw [e];omega
    ·have:=rising_getD (d:=j) h (show (lo + hi) / 2 < i by omega) hs
     omega
  ·rw [if_neg hlt]
   have:lo=hi:=by omega
   subst this
   exact⟨h2,h4,h5⟩
theorem below_spec {xs:Array Nat}(h:Rising xs)(j:Nat) :
  below xs j<=xs.size/\(∀i,i < below xs j->xs.getD i j < j)/\(∀i,below xs j<=i->i < xs.size->j<=xs.getD i j):=
 below_go h xs.size 0 xs.size (Nat.zero_le _) (Nat.le_refl _) (by omega) (fun i hi=>by omega) (fun i h1 h2=>by omega)
theorem below_mem {xs:Array Nat}(h:Rising xs){i j:Nat}(hi:xs[i]? =some j):below xs j=i:=by
 obtain⟨b1,b2,b3⟩:=below_spec h j
 have hs:i < xs.size:=(Array.getElem?_eq_some_iff.mp hi).1
 have hv:xs.getD i j=j:=by rw [Array.getD_eq_getD_getElem?,hi];rfl
 rcases Nat.lt_trichotomy i (below xs j) with c |c |c
 ·have:=b2 i c;omega
 ·exact c.symm
 ·have hb:below xs j < xs.size:=by omega
  have q:=b3 (below xs j) (Nat.le_refl _) hb
  have:=rising_getD (d:=j) h c hs
  omega
theorem has_nil (j:Nat):has #[] j=false:=by
 unfold has
 simp
theorem slot_live {t:SetTable}(h:Rising t.place){i j:Nat}(hi:t.place[i]? =some j):t.slot j=.live i:=by
 unfold slot
 dsimp only
 rw [below_mem h hi,if_pos (by simp [hi])]
theorem slot_empty {t:SetTable}(hd:t.dummies=#[]){j:Nat}(hj:j∉t.place):t.slot j=.empty:=by
 unfold slot
 dsimp only
 have:¬(t.place[below t.place j]? == some j)=true:=by
  intro e
  have e':t.place[below t.place j]? =some j:=by simpa using e
  obtain⟨h1,h2⟩:=Array.getElem?_eq_some_iff.mp e'
  exact hj (Array.mem_iff_getElem.mpr ⟨_,h1,h2⟩)
 rw [if_neg this,hd,has_nil]
 rfl
def adv (mask:Nat)(p:Probe):Probe:=
 if p.more > 0 then {p with j:=p.j + 1,more:=p.more - 1} else
 {p with j:=(leap mask p.i p.perturb).1,more:=runEnd mask (leap mask p.i p.perturb).1 - (leap mask p.i p.perturb).1,i:=(leap mask p.i p.perturb).1,perturb:=(leap mask p.i p.perturb).2}
def at0 (mask i perturb:Nat):Probe:={j:=i,more:=runEnd mask i - i,i,perturb,dummy:=none}
def st (mask:Nat)(h:Int):Probe:=at0 mask (bits h % (mask + 1)) (bits h)
theorem adv_eq (t:SetTable)(p:Probe):t.advance p=adv t.mask p:=rfl
theorem st_eq (t:SetTable)(h:Int):t.probeStart h=st t.mask h:=rfl
def advN (mask:Nat):Nat->Probe->Probe
 | 0,p=>p
 |n + 1,p=>advN mask n (adv mask p)
theorem advN_add (mask:Nat):∀(n m:Nat) (p:Probe),advN mask (n + m) p=advN mask m (advN mask n p)
 | 0,m,p=>by rw [Nat.zero_add];rfl
 |n + 1,m,p=>by rw [Nat.add_right_comm];exact advN_add mask n m (adv mask p)
theorem adv_none {mask:Nat}{p:Probe}(h:p.dummy=none):(adv mask p).dummy=none:=by
 unfold adv;split <;> exact h
theorem runEnd_le {mask i:Nat}(h:i<=mask):i<=runEnd mask i/\runEnd mask i<=mask/\runEnd mask i - i<=9:=by
 unfold runEnd;split <;> omega
def In (mask:Nat)(p:Probe):Prop:=p.j + p.more<=mask/\p.more<=9
theorem at0_in {mask i q:Nat}(h:i<=mask):In mask (at0 mask i q):=by
 have:=runEnd_le h
 unfold In at0;dsimp only;omega
theorem leap_le (mask i q:Nat):(leap mask i q).1<=mask:=by
 unfold leap;exact Nat.lt_succ_iff.mp (Nat.mod_lt _ (Nat.succ_pos _))
theorem adv_in {mask:Nat}{p:Probe}(h:In mask p):In mask (adv mask p):=by
 unfold adv
 by_cases hm:p.more > 0
 ·rw [if_pos hm];unfold In at *;dsimp only;omega
 ·rw [if_neg hm]
  have:=runEnd_le (leap_le mask p.i p.perturb)
  unfold In;dsimp only;omega
theorem advN_in {mask:Nat}:∀(n:Nat) {p:Probe},In mask p->In mask (advN mask n p)
 | 0,_,h=>h
 |n + 1,_,h=>advN_in n (adv_in h)
theorem st_in (mask:Nat)(h:Int):In mask (st mask h):=at0_in (Nat.lt_succ_iff.mp (Nat.mod_lt _ (Nat.succ_pos _)))
theorem advN_run (mask:Nat):∀(k:Nat) (p:Probe),p.more=k->advN mask (k + 1) p={p with j:=(leap mask p.i p.perturb).1,more:=runEnd mask (leap mask p.i p.perturb).1 - (leap mask p.i p.perturb).1,i:=(leap mask p.i p.perturb).1,perturb:=(leap mask p.i p.perturb).2}
 | 0,p,h=>by
  show adv mask p=_
  unfold adv
  rw [if_neg (by omega)]
 |k + 1,p,h=>by
  have e:adv mask p={p with j:=p.j + 1,more:=p.more - 1}:=by unfold adv;rw [if_pos (by omega)]
  show advN mask (k + 1) (adv mask p)=_
  rw [e,advN_run mask k _ (by dsimp only;omega)]
theorem advN_leap (mask i q:Nat):advN mask (runEnd mask i - i + 1) (at0 mask i q)=at0 mask (leap mask i q).1 (leap mask i q).2:=by
 exact advN_run mask _ (at0 mask i q) rfl
theorem advN_inrun (mask i q:Nat):∀(k:Nat),k<=runEnd mask i - i->(advN mask k (at0 mask i q))={at0 mask i q with j:=i + k,more:=runEnd mask i - i - k}
 | 0,_=>rfl
 |k + 1,h=>by
  rw [advN_add mask k 1,advN_inrun mask i q k (by omega)]
  show adv mask _=_
  unfold adv
  rw [if_pos (by dsimp only;omega)]
  simp only [Probe.mk.injEq]
  refine⟨by omega,by omega,?_⟩
  trivial
def leapN (mask:Nat):Nat->Nat×Nat->Nat×Nat
 | 0,x=>x
 |k + 1,x=>leapN mask k (leap mask x.1 x.2)
theorem reach_leaps (mask:Nat):∀(k i q:Nat),i<=mask->∃n,n<=10 * k/\advN mask n (at0 mask i q)=at0 mask (leapN mask k (i,q)).1 (leapN mask k (i,q)).2
 | 0,i,q,_=>⟨0,Nat.le_refl _,rfl⟩
 |k + 1,i,q,h=>by
  obtain⟨n,hn,e⟩:=reach_leaps mask k (leap mask i q).1 (leap mask i q).2 (leap_le _ _ _)
  have:=runEnd_le h
  refine⟨(runEnd mask i - i + 1) + n,by omega,?_⟩
  rw [advN_add,advN_leap,e]
  rfl
theorem leapN_add (mask:Nat):∀(a b:Nat) (x:Nat×Nat),leapN mask (a + b) x=leapN mask b (leapN mask a x)
 | 0,b,x=>by rw [Nat.zero_add];rfl
 |a + 1,b,x=>by rw [Nat.add_right_comm];exact leapN_add mask a b (leap mask x.1 x.2)
theorem leapN_le (mask:Nat):∀(k:Nat) (x:Nat×Nat),x.1<=mask->(leapN mask k x).1<=mask
 | 0,_,h=>h
 |k + 1,x,_=>leapN_le mask k _ (leap_le mask x.1 x.2)
theorem leapN_perturb (mask:Nat):∀(k:Nat) (x:Nat×Nat),(leapN mask k x).2=x.2 / 32 ^ k
 | 0,x=>by simp [leapN]
 |k + 1,x=>by
  show (leapN mask k (leap mask x.1 x.2)).2=_
  rw [leapN_perturb mask k,Nat.pow_succ,Nat.mul_comm,<-Nat.div_div_eq_div_mul]
  rfl
def nx (mask i:Nat):Nat:=(i * 5 + 1) % (mask + 1)
def nxN (mask:Nat):Nat->Nat->Nat
 | 0,i=>i
 |k + 1,i=>nxN mask k (nx mask i)
theorem nxN_add (mask:Nat):∀(a b i:Nat),nxN mask (a + b) i=nxN mask b (nxN mask a i)
 | 0,b,i=>by rw [Nat.zero_add];rfl
 |a + 1,b,i=>by rw [Nat.add_right_comm];exact nxN_add mask a b (nx mask i)
theorem leapN_zero (mask:Nat):∀(k i:Nat),leapN mask k (i,0)=(nxN mask k i,0)
 | 0,_=>rfl
 |k + 1,i=>by
  show leapN mask k (leap mask i 0)=_
  have:leap mask i 0=(nx mask i,0):=by simp [leap,nx]
  rw [this,leapN_zero mask k]
  rfl
def Mk3 (mask:Nat):Prop:=mask=7\/mask=31\/mask=127
theorem orbit (mask:Nat)(hm:Mk3 mask):nxN mask (mask + 1) 0=0/\∀j,j<=mask->∃k,k<=mask/\nxN mask k 0=j:=by
 have h7:∀j:Nat,j < 8->∃k,k < 8/\nxN 7 k 0=j:=by decide +kernel
 have h31:∀j:Nat,j < 32->∃k,k < 32/\nxN 31 k 0=j:=by decide +kernel
 have h127:∀j:Nat,j < 128->∃k,k < 128/\nxN 127 k 0=j:=by decide +kernel
 rcases hm with rfl |rfl |rfl
 ·exact⟨by decide +kernel,fun j hj=>let ⟨k,a,b⟩:=h7 j (by omega);⟨k,by omega,b⟩⟩
 ·exact⟨by decide +kernel,fun j hj=>let ⟨k,a,b⟩:=h31 j (by omega);⟨k,by omega,b⟩⟩
 ·exact⟨by decide +kernel,fun j hj=>let ⟨k,a,b⟩:=h127 j (by omega);⟨k,by omega,b⟩⟩
theorem cycle {mask:Nat}(hm:Mk3 mask){i j:Nat}(hi:i<=mask)(hj:j<=mask):∃k,k<=mask/\nxN mask k i=j:=by
 obtain⟨z,o⟩:=orbit mask hm
 obtain⟨a,ha,ea⟩:=o i hi
 obtain⟨b,hb,eb⟩:=o j hj
 have back:nxN mask (mask + 1 - a) i=0:=by
  rw [<-ea,<-nxN_add,show a + (mask + 1 - a)=mask + 1 by omega];exact z
 by_cases hab:a<=b
 ·refine⟨b - a,by omega,?_⟩
  rw [<-ea,<-nxN_add,show a + (b - a)=b by omega];exact eb
 ·refine⟨mask + 1 - a + b,by omega,?_⟩
  rw [nxN_add,back];exact eb
theorem leaps_meet {mask:Nat}(hm:Mk3 mask){i q j:Nat}(hi:i<=mask)(hq:q < 2 ^ 64)(hj:j<=mask):∃k,k<=mask + 13/\(leapN mask k (i,q)).1=j:=by
 have hz:(leapN mask 13 (i,q)).2=0:=by
  rw [leapN_perturb]
  exact Nat.div_eq_of_lt (Nat.lt_of_lt_of_le hq (by decide))
 obtain⟨k,hk,e⟩:=cycle hm (leapN_le mask 13 (i,q) hi) hj
 refine⟨13 + k,by omega,?_⟩
 rw [leapN_add]
 have:leapN mask 13 (i,q)=((leapN mask 13 (i,q)).1,0):=Prod.ext rfl hz
 rw [this,leapN_zero]
 exact e
theorem bits_lt (h:Int):bits h < 2 ^ 64:=by
 unfold bits
 have:=Int.emod_lt_of_pos h (show (0:Int) < 2 ^ 64 by decide)
 have:=Int.emod_nonneg h (show (2 ^ 64:Int)≠0 by decide)
 omega
theorem st_meets {mask:Nat}(hm:Mk3 mask)(h:Int){j:Nat}(hj:j<=mask):∃n,n < 10 * turns mask/\(advN mask n (st mask h)).j=j:=by
 have hi:bits h % (mask + 1)<=mask:=Nat.lt_succ_iff.mp (Nat.mod_lt _ (Nat.succ_pos _))
 obtain⟨k,hk,e⟩:=leaps_meet hm hi (bits_lt h) hj
 obtain⟨n,hn,q⟩:=reach_leaps mask k (bits h % (mask + 1)) (bits h) hi
 refine⟨n,by unfold turns;omega,?_⟩
 show (advN mask n (at0 mask _ _)).j=j
 rw [q];exact e
end L2.ST

end

section
namespace L2.ST
open PySem PySem.SetTable
theorem go_empty {t:SetTable}{hashAt:Nat->Int}{h:Int}:∀(n fuel:Nat) (p:Probe),n < fuel->p.dummy=none->
  (∀m,m < n->∃i,t.slot (advN t.mask m p).j=.live i/\hashAt i≠h)->t.slot (advN t.mask n p).j=.empty->
  probe.go t hashAt h fuel p=some (.empty (advN t.mask n p).j none):=by
 intro n
 induction n with
 |zero=>
  intro fuel p hf hd _ he
  obtain⟨f,rfl⟩:∃f,fuel=f + 1:=⟨fuel - 1,by omega⟩
  unfold probe.go
  have he':t.slot p.j=.empty:=he
  rw [he',hd]
  rfl
 |succ n ih=>
  intro fuel p hf hd hl he
  obtain⟨f,rfl⟩:∃f,fuel=f + 1:=⟨fuel - 1,by omega⟩
  unfold probe.go
  obtain⟨i,e,ne⟩:=hl 0 (by omega)
  have e':t.slot p.j=.live i:=e
  rw [e']
  dsimp only
  rw [if_neg (by simpa using ne),adv_eq]
  exact ih f (adv t.mask p) (by omega) (adv_none hd) (fun m hm=>hl (m + 1) (by omega)) he
theorem go_found {t:SetTable}{hashAt:Nat->Int}{h:Int}:∀(n fuel:Nat) (p:Probe),n < fuel->
  (∀m,m<=n->∃i,t.slot (advN t.mask m p).j=.live i)->(∃i,t.slot (advN t.mask n p).j=.live i/\hashAt i=h)->
  ∃j i next,probe.go t hashAt h fuel p=some (.candidate j i next)/\t.slot j=.live i/\hashAt i=h:=by
 intro n
 induction n with
 |zero=>
  intro fuel p hf _ he
  obtain⟨f,rfl⟩:∃f,fuel=f + 1:=⟨fuel - 1,by omega⟩
  obtain⟨i,e,eh⟩:=he
  have e':t.slot p.j=.live i:=e
  unfold probe.go
  rw [e']
  dsimp only
  rw [if_pos (by simpa using eh)]
  exact⟨p.j,i,_,rfl,e',eh⟩
 |succ n ih=>
  intro fuel p hf hl he
  obtain⟨f,rfl⟩:∃f,fuel=f + 1:=⟨fuel - 1,by omega⟩
  obtain⟨i,e⟩:=hl 0 (by omega)
  have e':t.slot p.j=.live i:=e
  unfold probe.go
  rw [e']
  dsimp only
  by_cases hh:hashAt i=h
  ·rw [if_pos (by simpa using hh)]
   exact⟨p.j,i,_,rfl,e',hh⟩
  ·rw [if_neg (by simpa using hh),adv_eq]
   exact ih f (adv t.mask p) (by omega) (fun m hm=>hl (m + 1) (by omega)) he
def Reach (mask:Nat)(L:Nat->Prop)(h:Int)(j:Nat):Prop:=∃n,n < 10 * turns mask/\(advN mask n (st mask h)).j=j/\∀m,m < n->L (advN mask m (st mask h)).j
theorem Reach.mono {mask:Nat}{L L':Nat->Prop}{h:Int}{j:Nat}(r:Reach mask L h j)(k:∀x,L x->L' x):Reach mask L' h j:=
 let ⟨n,a,b,c⟩:=r;⟨n,a,b,fun m hm=>k _ (c m hm)⟩
structure Tab (t:SetTable)(hs:List Int):Prop where
 mask:Mk3 t.mask
 dum:t.dummies=#[]
 rise:Rising t.place
 le:∀j,j∈t.place->j<=t.mask
 size:t.place.size=hs.length
 load:t.place.size * 5 < t.mask * 3
 reach:∀(i j:Nat) (h:Int),t.place[i]? =some j->hs[i]? =some h->Reach t.mask (· ∈t.place) h j
 plain:t.plain=true
theorem nodup_len {α:Type}[DecidableEq α]:∀{l m:List α},l.Nodup->(∀x,x∈l->x∈m)->l.length<=m.length
 | [],_,_,_=>Nat.zero_le _
 |a :: l,m,hn,hs=>by
  have ha:=hs a (List.mem_cons_self ..)
  have hl:=List.nodup_cons.mp hn
  have:=nodup_len (l:=l) (m:=m.erase a) hl.2 fun x hx=>by
   refine (List.mem_erase_of_ne ?_).mpr (hs x (List.mem_cons_of_mem _ hx))
   rintro rfl;exact hl.1 hx
  rw [List.length_erase_of_mem ha] at this
  have:0 < m.length:=List.length_pos_of_mem ha
  simp only [List.length_cons];omega
theorem empty_slot {mask:Nat}{xs:Array Nat}(hl:xs.size<=mask):∃j,j<=mask/\j∉xs:=by
 refine Classical.byContradiction fun hc=>?_
 have all:∀j,j∈List.range (mask + 1)->j∈xs.toList:=fun j hj=>by
  have:=List.mem_range.mp hj
  refine Classical.byContradiction fun hn=>hc ⟨j,by omega,fun z=>hn (by simpa using z)⟩
 have:=nodup_len List.nodup_range all
 simp at this
 omega
theorem exists_first {P:Nat->Prop}(h:∃n,P n):∃n,P n/\∀m,m < n->¬P m:=by
 obtain⟨n,hn⟩:=h
 induction n using Nat.strongRecOn with
 |_ n ih=>
  by_cases hc:∃m,m < n/\P m
  ·obtain⟨m,hm,hp⟩:=hc
   exact ih m hm hp
  ·exact⟨n,hn,fun m hm hp=>hc ⟨m,hm,hp⟩⟩
section
variable {t:SetTable}{hs:List Int}
theorem Tab.load' (T:Tab t hs):t.place.size<=t.mask:=by have:=T.load;omega
theorem Tab.slotL (T:Tab t hs){j:Nat}(hj:j∈t.place):∃i,t.slot j=.live i/\t.place[i]? =some j:=by
 obtain⟨i,hi,e⟩:=Array.mem_iff_getElem.mp hj
 have q:t.place[i]? =some j:=by rw [Array.getElem?_eq_getElem hi,e]
 exact⟨i,slot_live T.rise q,q⟩
theorem Tab.slotE (T:Tab t hs){j:Nat}(hj:j∉t.place):t.slot j=.empty:=slot_empty T.dum hj
theorem Tab.first (T:Tab t hs)(h:Int):∃n,n < 10 * turns t.mask/\(advN t.mask n (st t.mask h)).j∉t.place/\∀m,m < n->(advN t.mask m (st t.mask h)).j∈t.place:=by
 obtain⟨j,hj,hn⟩:=empty_slot T.load'
 obtain⟨n,h1,h2⟩:=st_meets T.mask h hj
 obtain⟨k,hk,hlt⟩:=exists_first (P:=fun n=>(advN t.mask n (st t.mask h)).j∉t.place) ⟨n,by rw [h2];exact hn⟩
 refine⟨k,?_,hk,fun m hm=>Classical.byContradiction fun z=>hlt m hm z⟩
 rcases Nat.lt_or_ge n k with c |c
 ·exact absurd (show (advN t.mask n (st t.mask h)).j∉t.place by rw [h2];exact hn) (hlt n c)
 ·omega
theorem Tab.absent (T:Tab t hs){hashAt:Nat->Int}(ha:∀i,i < hs.length->some (hashAt i)=hs[i]?){h:Int}(hn:h∉hs) :
  ∃j,t.probe hashAt h (t.probeStart h)=some (.empty j none)/\j∉t.place/\j<=t.mask/\Reach t.mask (· ∈t.place) h j:=by
 obtain⟨n,h1,h2,h3⟩:=T.first h
 refine⟨(advN t.mask n (st t.mask h)).j,?_,h2,?_,⟨n,h1,rfl,h3⟩⟩
 ·unfold probe
  rw [st_eq]
  refine go_empty n _ _ h1 rfl (fun m hm=>?_) (T.slotE h2)
  obtain⟨i,e,q⟩:=T.slotL (h3 m hm)
  refine⟨i,e,fun z=>hn ?_⟩
  have hi:i < hs.length:=by rw [<-T.size];exact (Array.getElem?_eq_some_iff.mp q).1
  have:=ha i hi
  rw [z] at this
  exact List.mem_of_getElem? this.symm
 ·have:=advN_in n (st_in t.mask h)
  unfold In at this;omega
theorem Tab.present (T:Tab t hs){hashAt:Nat->Int}(ha:∀i,i < hs.length->some (hashAt i)=hs[i]?){h:Int}(hm:h∈hs) :
  ∃j i next,t.probe hashAt h (t.probeStart h)=some (.candidate j i next)/\t.slot j=.live i/\i < hs.length/\hs[i]? =some h:=by
 obtain⟨i,hi,e⟩:=List.mem_iff_getElem.mp hm
 have hi':hs[i]? =some h:=by rw [List.getElem?_eq_getElem hi,e]
 have hp:i < t.place.size:=by rw [T.size];exact hi
 obtain⟨n,h1,h2,h3⟩:=T.reach i t.place[i] h (Array.getElem?_eq_getElem hp) hi'
 have hj:(advN t.mask n (st t.mask h)).j∈t.place:=by rw [h2];exact Array.getElem_mem hp
 obtain⟨j',i',nx,g1,g2,g3⟩:=go_found (t:=t) (hashAt:=hashAt) (h:=h) n (10 * turns t.mask) (st t.mask h) h1 (fun m hm=>by
   rcases Nat.lt_or_ge m n with c |c
   ·obtain⟨i,e,_⟩:=T.slotL (h3 m c);exact⟨i,e⟩
   ·have:m=n:=by omega
    subst this
    obtain⟨i,e,_⟩:=T.slotL hj;exact⟨i,e⟩)
  ⟨i,by rw [h2];exact slot_live T.rise (Array.getElem?_eq_getElem hp),by
   have:=ha i hi
   rw [hi'] at this
   exact Option.some.inj this⟩
 have hi2:i' < t.place.size:=by
  unfold slot at g2
  dsimp only at g2
  split at g2
  ·rename_i c
   have c':t.place[below t.place j']? =some j':=by simpa using c
   cases g2
   exact (Array.getElem?_eq_some_iff.mp c').1
  ·split at g2 <;> cases g2
 refine⟨j',i',nx,by unfold probe;rw [st_eq];exact g1,g2,by rw [<-T.size];exact hi2,?_⟩
 have:=ha i' (by rw [<-T.size];exact hi2)
 rw [g3] at this
 exact this.symm
end
theorem insertAt_toList {α:Type}(xs:Array α)(p:Nat)(x:α)(_:p<=xs.size):(insertAt xs p x).toList=xs.toList.take p ++ x :: xs.toList.drop p:=by
 unfold insertAt
 simp [Array.toList_extract,List.extract_eq_take_drop]
 rw [List.take_of_length_le (by simp)]
theorem put_place (t:SetTable)(j:Nat)(hd:t.dummies=#[]):(t.put j).1={t with place:=insertAt t.place (below t.place j) j}/\(t.put j).2=below t.place j:=by
 unfold put
 dsimp only
 rw [hd,has_nil]
 exact⟨by simp,rfl⟩
section
variable {t:SetTable}{hs:List Int}
theorem mem_insertAt {α:Type}{xs:Array α}{p:Nat}{x y:α}(hp:p<=xs.size):y∈insertAt xs p x↔y∈xs\/y=x:=by
 rw [<-Array.mem_toList_iff,insertAt_toList xs p x hp,List.mem_append,List.mem_cons,<-Array.mem_toList_iff]
 have:y∈xs.toList↔y∈xs.toList.take p\/y∈xs.toList.drop p:=by
  conv=>lhs;rw [<-List.take_append_drop p xs.toList]
  exact List.mem_append
 rw [this]
 constructor
 ·rintro (a |a |a)
  ·exact .inl (.inl a)
  ·exact .inr a
  ·exact .inl (.inr a)
 ·rintro ((a |a) |a)
  ·exact .inl a
  ·exact .inr (.inr a)
  ·exact .inr (.inl a)
theorem rising_insert {xs:Array Nat}(h:Rising xs){j:Nat}(hj:j∉xs):Rising (insertAt xs (below xs j) j):=by
 obtain⟨b1,b2,b3⟩:=below_spec h j
 unfold Rising
 rw [insertAt_toList _ _ _ b1]
 have hl:∀y,y∈xs.toList.take (below xs j)->y < j:=fun y hy=>by
  obtain⟨i,hi,e⟩:=List.mem_iff_getElem.mp hy
  have hi1:i < below xs j:=by simp at hi;omega
  have hi2:i < xs.size:=by omega
  have:=b2 i hi1
  rw [Array.getD_eq_getD_getElem?,Array.getElem?_eq_getElem hi2] at this
  simp at e this
  omega
 have hr:∀y,y∈xs.toList.drop (below xs j)->j < y:=fun y hy=>by
  obtain⟨i,hi,e⟩:=List.mem_iff_getElem.mp hy
  have hi2:below xs j + i < xs.size:=by simp at hi;omega
  have:=b3 (below xs j + i) (by omega) hi2
  rw [Array.getD_eq_getD_getElem?,Array.getElem?_eq_getElem hi2] at this
  simp at e this
  rcases Nat.lt_or_ge j y with c |c
  ·exact c
  ·have:j=y:=by omega
   exact absurd (by rw [this,<-e];exact Array.getElem_mem _) hj
 refine List.pairwise_append.mpr ⟨List.Pairwise.sublist (List.take_sublist ..) h,List.pairwise_cons.mpr ⟨fun y hy=>hr y hy,List.Pairwise.sublist (List.drop_sublist ..) h⟩,fun a ha b hb=>?_⟩
 rcases List.mem_cons.mp hb with rfl |hb
 ·exact hl a ha
 ·exact Nat.lt_trans (hl a ha) (hr b hb)
theorem insL_get {α:Type}(l:List α)(p:Nat)(x:α)(hp:p<=l.length)(i:Nat):(l.take p ++ x :: l.drop p)[i]? =if i < p then l[i]? else if i=p then some x else l[i - 1]?:=by
 rcases Nat.lt_trichotomy i p with c |c |c
 ·rw [if_pos c,List.getElem?_append_left (by simp;omega),List.getElem?_take_of_lt c]
 ·subst c
  rw [if_neg (Nat.lt_irrefl _),if_pos rfl,List.getElem?_append_right (by simp;omega),List.length_take,Nat.min_eq_left hp,Nat.sub_self]
  rfl
 ·rw [if_neg (by omega),if_neg (by omega),List.getElem?_append_right (by simp;omega),List.length_take,Nat.min_eq_left hp]
  obtain⟨k,rfl⟩:∃k,i=p + 1 + k:=⟨i - (p + 1),by omega⟩
  rw [show p + 1 + k - p=k + 1 by omega,List.getElem?_cons_succ,List.getElem?_drop]
  congr 1
  omega
theorem Tab.put (T:Tab t hs){j:Nat}{h:Int}(hj:j∉t.place)(hm:j<=t.mask)(r:Reach t.mask (· ∈t.place) h j)(hf:(t.place.size + 1) * 5 < t.mask * 3) :
  Tab (t.put j).1 (hs.take (t.put j).2 ++ h :: hs.drop (t.put j).2)/\(t.put j).2<=hs.length:=by
 obtain⟨e1,e2⟩:=put_place t j T.dum
 obtain⟨b1,b2,b3⟩:=below_spec T.rise j
 have hsz:(insertAt t.place (below t.place j) j).size=t.place.size + 1:=by
  rw [<-Array.length_toList,insertAt_toList _ _ _ b1]
  simp;omega
 have hl:below t.place j<=hs.length:=by rw [<-T.size];exact b1
 rw [e1,e2]
 refine⟨⟨T.mask,T.dum,rising_insert T.rise hj,fun y hy=>?_,?_,?_,fun i y g hy hg=>?_,T.plain⟩,hl⟩
 ·rcases (mem_insertAt b1).mp hy with z |z
  ·exact T.le y z
  ·rw [z];exact hm
 ·show (insertAt t.place _ j).size=_
  rw [hsz,T.size];simp;omega
 ·show (insertAt t.place _ j).size * 5 < t.mask * 3
  rw [hsz];exact hf
 ·show Reach t.mask (· ∈insertAt t.place (below t.place j) j) g y
  have hy':(t.place.toList.take (below t.place j) ++ j :: t.place.toList.drop (below t.place j))[i]? =some y:=by
   rw [<-insertAt_toList _ _ _ b1,Array.getElem?_toList];exact hy
  rw [insL_get _ _ _ (by simpa using b1)] at hy'
  rw [insL_get _ _ _ hl] at hg
  have old:∀{g y},Reach t.mask (· ∈t.place) g y->Reach t.mask (· ∈insertAt t.place (below t.place j) j) g y:=fun r=>r.mono fun x hx=>(mem_insertAt b1).mpr (.inl hx)
  split at hy'
  ·rename_i c
   rw [if_pos c] at hg
   exact old (T.reach i y g (by simpa using hy') hg)
  ·rename_i c
   rw [if_neg c] at hg
   split at hy'
   ·rename_i c2
    rw [if_pos c2] at hg
    cases hg;cases hy'
    exact old r
   ·rename_i c2
    rw [if_neg c2] at hg
    exact old (T.reach (i - 1) y g (by simpa using hy') hg)
end
end L2.ST

end

section
namespace L2.ST
open PySem PySem.SetTable
abbrev own (o:Array (Option Nat))(j:Nat):Option Nat:=o.getD j none
theorem free_spec {mask:Nat}{o:Array (Option Nat)}(hsz:o.size=mask + 1):∀(fuel i q:Nat) (j:Nat),i<=mask->layClean.free mask o fuel i q=some j->
  ∃n,n < 10 * fuel/\(advN mask n (at0 mask i q)).j=j/\(∀m,m < n->(own o (advN mask m (at0 mask i q)).j).isSome=true)/\own o j=none/\j<=mask:=by
 intro fuel
 induction fuel with
 |zero=>intro i q j _ h;unfold layClean.free at h;cases h
 |succ fuel ih=>
  intro i q j hi h
  unfold layClean.free at h
  have hr:=runEnd_le hi
  have ind:∀k,k<=runEnd mask i - i->o.getD (i + k) (some 0)=own o (i + k):=fun k hk=>by
   have:i + k < o.size:=by omega
   simp [own,Array.getD,this]
  cases hf:(List.range (runEnd mask i + 1 - i)).find? fun k=>(o.getD (i + k) (some 0)).isNone with
  |some k=>
   rw [hf] at h
   dsimp only at h
   have hk:=List.find?_eq_some_iff_getElem.mp hf
   obtain⟨hn,ix,hix,eix,hbef⟩:=hk
   have ek:ix=k:=by simpa using eix
   subst ek
   have hix':ix < runEnd mask i + 1 - i:=by simpa using hix
   cases h
   refine⟨ix,by omega,?_,fun m hm=>?_,?_,by omega⟩
   ·rw [advN_inrun mask i q ix (by omega)]
   ·rw [advN_inrun mask i q m (by omega)]
    have:=hbef m hm
    simp only [List.getElem_range] at this
    rw [ind m (by omega)] at this
    dsimp only
    cases e:own o (i + m) with
    |none=>rw [e] at this;simp at this
    |some _=>rfl
   ·rw [ind ix (by omega)] at hn
    cases e:own o (i + ix) with
    |none=>rfl
    |some _=>rw [e] at hn;simp at hn
  |none=>
   rw [hf] at h
   dsimp only at h
   obtain⟨n,h1,h2,h3,h4,h5⟩:=ih _ _ j (leap_le mask i q) h
   have hnone:=List.find?_eq_none.mp hf
   refine⟨(runEnd mask i - i + 1) + n,by omega,?_,fun m hm=>?_,h4,h5⟩
   ·rw [advN_add,advN_leap];exact h2
   ·rcases Nat.lt_or_ge m (runEnd mask i - i + 1) with c |c
    ·rw [advN_inrun mask i q m (by omega)]
     have:=hnone m (List.mem_range.mpr (by omega))
     rw [ind m (by omega)] at this
     dsimp only
     cases e:own o (i + m) with
     |none=>rw [e] at this;simp at this
     |some _=>rfl
    ·obtain⟨k,rfl⟩:∃k,m=(runEnd mask i - i + 1) + k:=⟨m - (runEnd mask i - i + 1),by omega⟩
     rw [advN_add,advN_leap]
     exact h3 k (by omega)
theorem free_some {mask:Nat}{o:Array (Option Nat)}(hsz:o.size=mask + 1):∀(fuel i q k:Nat),i<=mask->k < fuel->own o (leapN mask k (i,q)).1=none->∃j,layClean.free mask o fuel i q=some j:=by
 intro fuel
 induction fuel with
 |zero=>intro i q k _ hk;omega
 |succ fuel ih=>
  intro i q k hi hk hn
  unfold layClean.free
  cases hf:(List.range (runEnd mask i + 1 - i)).find? fun k=>(o.getD (i + k) (some 0)).isNone with
  |some k=>exact⟨_,rfl⟩
  |none=>
   dsimp only
   cases k with
   |zero=>
    have hr:=runEnd_le hi
    have:=List.find?_eq_none.mp hf 0 (List.mem_range.mpr (by omega))
    have e:own o i=none:=hn
    have hi2:i < o.size:=by omega
    simp [own,Array.getD,hi2] at e this
    rw [e] at this;simp at this
   |succ k=>exact ih _ _ k (leap_le mask i q) (by omega) hn
structure Lay (mask:Nat)(o:Array (Option Nat))(hs:List Int):Prop where
 size:o.size=mask + 1
 all:∀k h,hs[k]? =some h->∃j,own o j=some k/\Reach mask (fun x=>(own o x).isSome=true) h j
 one:∀j j' k,own o j=some k->own o j'=some k->j=j'
 le:∀j k,own o j=some k->j<=mask/\k < hs.length
theorem own_set {o:Array (Option Nat)}{j x k:Nat}(hj:j < o.size):own (o.setIfInBounds j (some k)) x=if x=j then some k else own o x:=by
 unfold own
 rw [Array.getD_eq_getD_getElem?,Array.getD_eq_getD_getElem?,Array.getElem?_setIfInBounds]
 by_cases e:x=j
 ·subst e;simp [hj]
 ·rw [if_neg e,if_neg (fun z=>e z.symm)]
theorem lay_step {mask:Nat}(hm:Mk3 mask){o:Array (Option Nat)}{hs:List Int}(L:Lay mask o hs)(h:Int)(hl:hs.length<=mask) :
  ∃j,layClean.free mask o (turns mask) (bits h % (mask + 1)) (bits h)=some j/\Lay mask (o.setIfInBounds j (some hs.length)) (hs ++ [h]):=by
 have hi:bits h % (mask + 1)<=mask:=Nat.lt_succ_iff.mp (Nat.mod_lt _ (Nat.succ_pos _))
 have hfree:∃j,j<=mask/\own o j=none:=by
  refine Classical.byContradiction fun hc=>?_
  have hall:∀j,j<=mask->∃k,own o j=some k:=fun j hj=>by
   cases e:own o j with
   |none=>exact absurd ⟨j,hj,e⟩ hc
   |some k=>exact⟨k,rfl⟩
  have nd:((List.range (mask + 1)).map fun j=>(own o j).getD 0).Nodup:=by
   refine List.pairwise_map.mpr ?_
   refine List.Pairwise.imp_of_mem ?_ List.nodup_range
   intro a b ha hb hab e
   obtain⟨ka,ea⟩:=hall a (by have:=List.mem_range.mp ha;omega)
   obtain⟨kb,eb⟩:=hall b (by have:=List.mem_range.mp hb;omega)
   rw [ea,eb] at e
   simp at e
   subst e
   exact hab (L.one a b ka ea eb)
  have:=nodup_len (m:=List.range hs.length) nd fun x hx=>by
   obtain⟨j,hj,rfl⟩:=List.mem_map.mp hx
   obtain⟨k,e⟩:=hall j (by have:=List.mem_range.mp hj;omega)
   rw [e]
   exact List.mem_range.mpr (L.le j k e).2
  simp at this
  omega
 obtain⟨j0,hj0,hn0⟩:=hfree
 obtain⟨k,hk,ek⟩:=leaps_meet hm hi (bits_lt h) hj0
 obtain⟨j,hj⟩:=free_some L.size (turns mask) _ (bits h) k hi (by unfold turns;omega) (by rw [ek];exact hn0)
 refine⟨j,hj,?_⟩
 obtain⟨n,h1,h2,h3,h4,h5⟩:=free_spec L.size _ _ _ _ hi hj
 have hjs:j < o.size:=by rw [L.size];omega
 have grow:∀x,(own o x).isSome=true->(own (o.setIfInBounds j (some hs.length)) x).isSome=true:=fun x hx=>by
  rw [own_set hjs];split
  ·rfl
  ·exact hx
 refine⟨by rw [Array.size_setIfInBounds];exact L.size,fun k g hg=>?_,fun a b c ea eb=>?_,fun a c ea=>?_⟩
 ·rcases Nat.lt_or_ge k hs.length with c |c
  ·rw [List.getElem?_append_left c] at hg
   obtain⟨x,ex,rx⟩:=L.all k g hg
   refine⟨x,?_,rx.mono grow⟩
   rw [own_set hjs,if_neg (fun z=>?_)]
   ·exact ex
   ·subst z;rw [ex] at h4;cases h4
  ·rw [List.getElem?_append_right c] at hg
   have:k=hs.length:=by
    have:=(List.getElem?_eq_some_iff.mp hg).1
    simp at this;omega
   subst this
   simp at hg
   subst hg
   exact⟨j,by rw [own_set hjs,if_pos rfl],n,h1,h2,fun m hm=>grow _ (h3 m hm)⟩
 ·rw [own_set hjs] at ea eb
  split at ea
  ·cases ea
   split at eb
   ·omega
   ·have:=(L.le _ _ eb).2;omega
  ·split at eb
   ·cases eb
    have:=(L.le _ _ ea).2;omega
   ·exact L.one _ _ _ ea eb
 ·rw [own_set hjs] at ea
  rw [List.length_append]
  split at ea
  ·cases ea;simp;omega
  ·have:=L.le _ _ ea;simp;omega
theorem lay_all {mask:Nat}(hm:Mk3 mask):∀(rest hs:List Int) (o:Array (Option Nat)),Lay mask o hs->hs.length + rest.length<=mask->
  ∃o',rest.foldl (init:=some (o,hs.length)) (fun acc h=>do
   let (owner,k) <-acc
   let j <-layClean.free mask owner (turns mask) (bits h % (mask + 1)) (bits h)
   pure (owner.setIfInBounds j (some k),k + 1))=some (o',hs.length + rest.length)/\Lay mask o' (hs ++ rest)
 | [],hs,o,L,_=>⟨o,rfl,by rw [List.append_nil];exact L⟩
 |h :: rest,hs,o,L,hl=>by
  simp only [List.length_cons] at hl
  obtain⟨j,e,L'⟩:=lay_step hm L h (by omega)
  obtain⟨o',e',L2⟩:=lay_all hm rest (hs ++ [h]) _ L' (by simp;omega)
  refine⟨o',?_,by rw [List.append_assoc] at L2;exact L2⟩
  rw [List.foldl_cons]
  simp only [Option.bind_eq_bind,Option.bind_some,e,Option.pure_def]
  have el:(hs ++ [h]).length=hs.length + 1:=by simp
  rw [el] at e'
  simp only [Option.bind_eq_bind,Option.pure_def] at e'
  rw [e']
  simp;omega
theorem own_rep (n j:Nat):own (Array.replicate n none) j=none:=by
 unfold own
 rw [Array.getD_eq_getD_getElem?,Array.getElem?_replicate]
 split <;> rfl
theorem lay_nil (mask:Nat):Lay mask (Array.replicate (mask + 1) none) []:=
 ⟨by simp,fun k h e=>by simp at e,fun j j' k e _=>by (rw [own_rep] at e;cases e),fun j k e=>by (rw [own_rep] at e;cases e)⟩
theorem laid_spec {mask:Nat}(hm:Mk3 mask)(hs:Array Int)(hl:hs.size * 5 < mask * 3)(finger moves:Nat)(led:Bool) :
  ∃t order,laid mask finger moves led true hs=some (t,order)/\t.led=led/\t.mask=mask/\order.toList.Nodup/\(∀k,k∈order.toList↔k < hs.size)/\
   Tab t (order.toList.map fun k=>hs.toList.getD k 0):=by
 obtain⟨o,e,L⟩:=lay_all hm hs.toList [] _ (lay_nil mask) (by simp;omega)
 simp only [List.nil_append] at L
 have ec:layClean mask hs=some o:=by
  unfold layClean
  rw [<-Array.foldl_toList]
  simp only [List.length_nil] at e
  rw [e];rfl
 have hlive:∀j k,(j,k)∈((List.range (mask + 1)).filterMap fun j=>(o.getD j none).map (j, ·))↔own o j=some k:=fun j k=>by
  rw [List.mem_filterMap]
  constructor
  ·rintro⟨x,_,q⟩
   cases ex:o.getD x none with
   |none=>rw [ex] at q;cases q
   |some y=>rw [ex] at q;simp at q;rw [<-q.1,<-q.2];exact ex
  ·intro q
   refine⟨j,List.mem_range.mpr (by have:=(L.le j k q).1;omega),?_⟩
   have:o.getD j none=some k:=q
   rw [this];rfl
 have hpw:((List.range (mask + 1)).filterMap fun j=>(o.getD j none).map (j, ·)).Pairwise (fun a b=>a.1 < b.1):=by
  refine List.pairwise_filterMap.mpr ?_
  refine List.Pairwise.imp ?_ List.pairwise_lt_range
  intro a b hab x hx y hy
  cases ea:o.getD a none with
  |none=>rw [ea] at hx;cases hx
  |some u=>
   cases eb:o.getD b none with
   |none=>rw [eb] at hy;cases hy
   |some v=>
    rw [ea] at hx;rw [eb] at hy
    simp at hx hy
    rw [<-hx,<-hy];exact hab
 generalize hlv:((List.range (mask + 1)).filterMap fun j=>(o.getD j none).map (j, ·))=live at hlive hpw
 refine⟨{mask,place:=(live.map (·.1)).toArray,dummies:=#[],finger,led,moves,plain:=true},(live.map (·.2)).toArray,?_,rfl,rfl,?_,fun k=>?_,?_⟩
 ·unfold laid
  rw [ec]
  simp only [Option.bind_eq_bind,Option.bind_some,Option.pure_def,hlv]
 ·have:(live.map (·.2)).Nodup:=by
   refine List.pairwise_map.mpr (List.Pairwise.imp_of_mem ?_ hpw)
   intro a b ha hb hab ee
   have h1:=(hlive a.1 a.2).mp ha
   have h2:=(hlive b.1 b.2).mp hb
   rw [ee] at h1
   have:=L.one _ _ _ h1 h2
   omega
  simpa using this
 ·rw [List.mem_map]
  constructor
  ·rintro⟨x,hx,rfl⟩
   have:=(L.le x.1 x.2 ((hlive x.1 x.2).mp hx)).2
   simpa using this
  ·intro hk
   have hk':k < hs.toList.length:=by simpa using hk
   obtain⟨j,ej,_⟩:=L.all k _ (List.getElem?_eq_getElem hk')
   exact⟨(j,k),(hlive j k).mpr ej,rfl⟩
 ·have hord:live.length=hs.size:=by
   have a1:(live.map (·.2)).Nodup:=by
    refine List.pairwise_map.mpr (List.Pairwise.imp_of_mem ?_ hpw)
    intro a b ha hb hab ee
    have h1:=(hlive a.1 a.2).mp ha
    have h2:=(hlive b.1 b.2).mp hb
    rw [ee] at h1
    have:=L.one _ _ _ h1 h2
    omega
   have b1:=nodup_len (m:=List.range hs.size) a1 fun x hx=>by
    obtain⟨y,hy,rfl⟩:=List.mem_map.mp hx
    have:=(L.le y.1 y.2 ((hlive y.1 y.2).mp hy)).2
    exact List.mem_range.mpr (by simpa using this)
   have b2:=nodup_len (l:=List.range hs.size) (m:=live.map (·.2)) List.nodup_range fun x hx=>by
    have hk':x < hs.toList.length:=by simpa using List.mem_range.mp hx
    obtain⟨j,ej,_⟩:=L.all x _ (List.getElem?_eq_getElem hk')
    exact List.mem_map.mpr ⟨(j,x),(hlive j x).mpr ej,rfl⟩
   simp at b1 b2
   omega
  refine⟨hm,rfl,?_,fun j hj=>?_,?_,?_,fun i j h hi hh=>?_,rfl⟩
  ·show (live.map (·.1)).toArray.toList.Pairwise _
   rw [List.toList_toArray]
   exact List.pairwise_map.mpr hpw
  ·have:j∈live.map (·.1):=by simpa using hj
   obtain⟨x,hx,rfl⟩:=List.mem_map.mp this
   exact (L.le x.1 x.2 ((hlive x.1 x.2).mp hx)).1
  ·simp
  ·show (live.map (·.1)).toArray.size * 5 < mask * 3
   simp [hord];exact hl
  ·have hi':(live.map (·.1))[i]? =some j:=by simpa using hi
   have hh':((live.map (·.2)).map fun k=>hs.toList.getD k 0)[i]? =some h:=by simpa using hh
   rw [List.getElem?_map] at hi'
   rw [List.getElem?_map,List.getElem?_map] at hh'
   cases ex:live[i]? with
   |none=>rw [ex] at hi';cases hi'
   |some x=>
    rw [ex] at hi' hh'
    simp at hi' hh'
    have hxl:=(hlive x.1 x.2).mp (List.mem_of_getElem? ex)
    have hk:=(L.le _ _ hxl).2
    have hk2:x.2 < hs.size:=by simpa using hk
    obtain⟨j2,ej2,r⟩:=L.all x.2 h (by
     rw [List.getElem?_eq_getElem hk]
     simp [hk2] at hh'
     simpa using hh')
    have:j2=j:=by rw [<-hi'];exact L.one _ _ _ ej2 hxl
    subst this
    refine r.mono fun y hy=>?_
    show y∈(live.map (·.1)).toArray
    cases ey:own o y with
    |none=>rw [ey] at hy;cases hy
    |some k=>
     have:y∈live.map (·.1):=List.mem_map.mpr ⟨(y,k),(hlive y k).mpr ey,rfl⟩
     simpa using this
end L2.ST

end

section
namespace L2.ST
open PySem PySem.SetTable
abbrev Pr:=Int×Int
def hp (p:Pr):Int:=reduceHash (Builtin.Tuple.tupleHashOf [hashInt p.1,hashInt p.2])
def Sm (p:Pr):Prop:=(0<=p.1/\p.1 < 8)/\(0<=p.2/\p.2 < 8)
def smalls:List Pr:=(List.range 64).map fun k=>(((k / 8:Nat):Int),((k % 8:Nat):Int))
theorem mem_smalls {p:Pr}(h:Sm p):p∈smalls:=by
 unfold smalls
 obtain⟨⟨a,b⟩,c,d⟩:=h
 refine List.mem_map.mpr ⟨p.1.toNat * 8 + p.2.toNat,List.mem_range.mpr (by omega),?_⟩
 refine Prod.ext ?_ ?_ <;> dsimp only <;> omega
theorem hp_nodup:(smalls.map hp).Nodup:=by decide +kernel
theorem inj_of_nodup {α β:Type}{f:α->β}:∀{l:List α},(l.map f).Nodup->∀a b,a∈l->b∈l->f a=f b->a=b
 | [],_,_,_,h,_,_=>by cases h
 |x :: l,hn,a,b,ha,hb,e=>by
  have hn':=List.nodup_cons.mp hn
  rcases List.mem_cons.mp ha with ea |ha
  ·rcases List.mem_cons.mp hb with eb |hb
   ·rw [ea,eb]
   ·exact absurd (List.mem_map.mpr ⟨b,hb,by rw [<-e,ea]⟩) hn'.1
  ·rcases List.mem_cons.mp hb with eb |hb
   ·exact absurd (List.mem_map.mpr ⟨a,ha,by rw [e,eb]⟩) hn'.1
   ·exact inj_of_nodup hn'.2 a b ha hb e
theorem hp_inj {p q:Pr}(hp1:Sm p)(hq:Sm q)(e:hp p=hp q):p=q:=inj_of_nodup hp_nodup p q (mem_smalls hp1) (mem_smalls hq) e
theorem smalls_len {l:List Pr}(hn:l.Nodup)(h:∀p,p∈l->Sm p):l.length<=64:=by
 have:=nodup_len (m:=smalls) hn fun x hx=>mem_smalls (h x hx)
 simpa [smalls] using this
section
variable {prog:Program}{w:World}{A:Around}{E:Value->Shared->Prop}{s:Shared}
abbrev PairAt (prog:Program)(w:World)(h:Heap)(p:Pr)(a:Addr):Prop:=IsTupleKey (intKind prog w) h [p.1,p.2] a
theorem PairAt.inj {h:Heap}{p q:Pr}{a:Addr}(x:PairAt prog w h p a)(y:PairAt prog w h q a):p=q:=by
 have:=IsTupleKey.inj x y
 simp at this
 exact Prod.ext this.1 this.2
structure PSet (f:Pr->Int)(prog:Program)(w:World)(led:Bool)(h:Heap)(S:Addr)(ps:List (Addr×Pr)):Prop where
 ex:∃o ep t,h.get? S=some o/\o.ExactSet/\o.data=.set (ps.map fun q=>(f q.2,Value.ref q.1)).toArray ep t/\Tab t (ps.map fun q=>f q.2)/\t.led=led
 at':∀q,q∈ps->PairAt prog w h q.2 q.1/\Sm q.2
 nd:(ps.map (·.2)).Nodup
theorem fits_tab {t:SetTable}{hs:List Int}(T:Tab t hs){n:Nat}(e:n=hs.length):t.fits n=true:=by
 unfold SetTable.fits SetTable.fill
 have:=T.load'
 simp [T.size,T.dum,e]
 rw [T.size] at this;exact this
theorem relay_eq (a:Addr)(wanted:Nat):setRelay a wanted=(do
  let (es,_,t) <-setState a
  if SetTable.sizeAbove wanted > sizeLine then unsupported "set:memory"
  let (es,t) <-(do
   let some (t,order):=t.relaid (es.map (·.1)) wanted |unsupported "internal:set-table-without-room"
   let es':=order.filterMap (es[·]?)
   if es'.size != es.size then unsupported "internal:set-table-lost-an-element"
   pure (es',t))
  storeSet a es t):=rfl
theorem search_eq (a:Addr)(x:Value)(h:Int)(fuel:Nat):setSearchFrom a x h true (fuel + 1) none=(do
  let (es,_,t) <-setState a
  if t.gaveWay then unsupported "set:on-a-table-that-gave-way"
  let some met:=t.probe (fun i=>(es[i]?.map (·.1)).getD 0) h (t.probeStart h) |unsupported "internal:set-table-without-an-empty-slot"
  match met with
  | .empty j dummy=>
   match dummy with
   |none=>return .free j false
   |some d=>
    if true && t.slot d != .dummy then rule "set.search.the-dummy-was-taken";return <-setSearchFrom a x h true fuel none
    return .free d true
  | .candidate j i next=>
   if !t.led then
    if <-searchCouldBeSeen x ((es.filter (·.1 == h)).toList.map (·.2)) then unsupported "set:the-search-would-show-the-table"
   let some (_,y):=es[i]? |unsupported "internal:set-entry"
   let equal <-holding [y] (eqBool y x)
   let (es',_,t') <-setState a
   if true && equal then return .there none
   let some same:=t'.sameMemory t.moves t.mask |unsupported "set.changed-during-lookup:is-the-new-block-at-the-old-address"
   let still <-match (if same then t'.slot j else .empty) with
    | .live i'=>match es'[i']? with
     |some (_,y')=>do pure (if <-isSame y' y then some i' else none)
     |none=>pure none
    |_=>pure none
   match still with
   |none=>rule "set.search.anew";setSearchFrom a x h true fuel none
   |some i'=>if equal then return .there (some i') else setSearchFrom a x h true fuel (some next)):=rfl
theorem ofClass_int (n:Nat){v:Value}(h:carriedByValue v=true):ofAClassStatement n v=pure false:=by
 cases v with
 |ref a=>simp [carriedByValue] at h
 |_=>first |rfl | (unfold ofAClassStatement;rfl)
theorem hashBy_int (n:Nat){v:Value}{k:Int}(h:(intKind prog w).is k v=true):hashByValue n v=pure true:=by
 obtain⟨t,rfl⟩:=Value.isInt_shape h
 cases n <;> rfl
theorem ofClass_pair {p:Pr}{a:Addr}{Q:Bool->Shared->Prop}(hk:PairAt prog w s.heap p a)(h:Q false s):wpAny (model prog w) A (ofAClassStatement 8 (.ref a)) Q E s:=by
 have hT:=hk.typeIs
 obtain⟨o,items,n,ho,hc,hd,hi⟩:=hk
 unfold ofAClassStatement
 refine wpAny_bind (wpAny_typeOf hT ?_)
 dsimp only
 rw [if_pos (by decide)]
 refine wpAny_bind (wpAny_pure ?_)
 simp only [Bool.not_true,Bool.false_eq_true,if_false]
 refine wpAny_bind (wpAny_seqItems ho hd ?_)
 dsimp only
 refine wpAny_bind ?_
 rw [<-Array.forIn_toList]
 refine wpAny_forIn_list _ (fun rest r s'=>r.1=none/\s'=s/\∀v∈rest,carriedByValue v=true) _ ?_ ?_ _ _ ⟨rfl,rfl,hi.byValue⟩
 ·rintro v rest r s' ⟨hr,rfl,hall⟩
  rw [ofClass_int _ (hall v List.mem_cons_self)]
  refine wpAny_bind (wpAny_pure ?_)
  simp only [Bool.false_eq_true,if_false]
  exact wpAny_pure ⟨rfl,rfl,fun u hu'=>hall u (List.mem_cons_of_mem _ hu')⟩
 ·rintro⟨r1,r2⟩ s' ⟨hr,rfl,_⟩
  simp only at hr
  subst hr
  exact wpAny_pure h
theorem hashBy_pair {p:Pr}{a:Addr}{Q:Bool->Shared->Prop}(hk:PairAt prog w s.heap p a)(h:Q true s):wpAny (model prog w) A (hashByValue 8 (.ref a)) Q E s:=by
 have hT:=hk.typeIs
 obtain⟨o,items,n,ho,hc,hd,hi⟩:=hk
 unfold hashByValue
 refine wpAny_bind (wpAny_specialOf hT F.slot_tuple_hash.lookup ?_)
 dsimp only
 refine wpAny_bind (wpAny_seqItems ho hd ?_)
 simp only [Option.getD_some]
 refine wpAny_bind ?_
 rw [<-Array.forIn_toList]
 refine wpAny_forIn_list _ (fun rest r s'=>r.1=none/\s'=s/\∀v∈rest,∃k,(intKind prog w).is k v=true) _ ?_ ?_ _ _ ⟨rfl,rfl,fun v hv=>?_⟩
 ·rintro v rest r s' ⟨hr,rfl,hall⟩
  obtain⟨k,hk⟩:=hall v List.mem_cons_self
  rw [hashBy_int _ hk]
  refine wpAny_bind (wpAny_pure ?_)
  simp only [Bool.not_true,Bool.false_eq_true,if_false]
  exact wpAny_pure ⟨rfl,rfl,fun u hu'=>hall u (List.mem_cons_of_mem _ hu')⟩
 ·rintro⟨r1,r2⟩ s' ⟨hr,rfl,_⟩
  simp only at hr
  subst hr
  exact wpAny_pure h
 ·generalize items.toList=l at *
  cases hi with
  |cons h1 hi=>
   cases hi with
   |cons h2 hi=>
    cases hi
    rcases List.mem_cons.mp hv with rfl |hv
    ·exact⟨_,h1⟩
    ·rcases List.mem_cons.mp hv with rfl |hv
     ·exact⟨_,h2⟩
     ·cases hv
theorem seen_pairs {p:Pr}{a:Addr}(hk:PairAt prog w s.heap p a):∀(l:List Value) {Q:Bool->Shared->Prop},(∀v∈l,∃q b,v=.ref b/\PairAt prog w s.heap q b)->Q false s->wpAny (model prog w) A (searchCouldBeSeen (.ref a) l) Q E s:=by
 intro l Q hl h
 unfold searchCouldBeSeen
 refine wpAny_bind ?_
 refine wpAny_forIn_list _ (fun rest r s'=>r.1=none/\s'=s/\∀v∈rest,∃q b,v=.ref b/\PairAt prog w s.heap q b) _ ?_ ?_ _ _ ⟨rfl,rfl,hl⟩
 ·rintro v rest r s' ⟨hr,rfl,hall⟩
  obtain⟨q,b,rfl,hb⟩:=hall v List.mem_cons_self
  have hrest:=fun u hu'=>hall u (List.mem_cons_of_mem _ hu')
  dsimp only
  split
  ·exact wpAny_pure ⟨rfl,rfl,hrest⟩
  ·refine wpAny_bind (wpAny_eqIsQuiet_tuple hk ?_)
   simp only [Bool.not_true,Bool.false_eq_true,if_false]
   refine wpAny_bind (wpAny_eqIsQuiet_tuple hb ?_)
   simp only [Bool.not_true,Bool.false_eq_true,if_false]
   refine wpAny_bind (ofClass_pair hk ?_)
   simp only [Bool.false_eq_true,if_false]
   refine wpAny_bind (ofClass_pair hb ?_)
   simp only [Bool.false_eq_true,if_false]
   exact wpAny_pure ⟨rfl,rfl,hrest⟩
 ·rintro⟨r1,r2⟩ s' ⟨hr,rfl,_⟩
  simp only at hr
  subst hr
  exact wpAny_pure h
end
end L2.ST

end

section
namespace L2.ST
open PySem PySem.SetTable
section
variable {prog:Program}{w:World}{A:Around}{E:Value->Shared->Prop}{s:Shared}
theorem relaid_mask (t:SetTable)(hs:Array Int)(wanted:Nat)(hp:t.plain=true):t.relaid hs wanted=laid (sizeAbove wanted - 1) t.finger (t.movedTo (sizeAbove wanted - 1)) t.led true hs:=by
 unfold relaid;rw [hp]
theorem sizes:sizeAbove (grown 5)=32/\sizeAbove (grown 19)=128:=by decide +kernel
theorem filterMap_get {α:Type}(es:Array α):∀(order:List Nat),(∀k,k∈order->k < es.size)->∃l:List α,order.filterMap (fun i=>es[i]?)=l/\l.length=order.length/\(∀(i k:Nat),order[i]? =some k->l[i]? =es[k]?)/\∀x,x∈l->∃k,k∈order/\es[k]? =some x
 | [],_=>⟨[],rfl,rfl,fun i k h=>by simp at h,fun x hx=>by cases hx⟩
 |k :: r,h=>by
  obtain⟨l,e1,e2,e3,e4⟩:=filterMap_get es r fun x hx=>h x (List.mem_cons_of_mem _ hx)
  have hk:=h k (List.mem_cons_self ..)
  refine⟨es[k] :: l,by rw [List.filterMap_cons,Array.getElem?_eq_getElem hk,e1],by simp [e2],fun i x hi=>?_,fun x hx=>?_⟩
  ·cases i with
   |zero=>simp at hi;subst hi;simp [hk]
   |succ i=>simp at hi;simpa using e3 i x hi
  ·rcases List.mem_cons.mp hx with rfl |hx
   ·exact⟨k,List.mem_cons_self ..,by simp [hk]⟩
   ·obtain⟨y,hy,q⟩:=e4 x hx
    exact⟨y,List.mem_cons_of_mem _ hy,q⟩
abbrev entf (f:Pr->Int)(q:Addr×Pr):Int×Value:=(f q.2,Value.ref q.1)
theorem relay_pairsF (f:Pr->Int){mask:Nat}(hm:Mk3 mask){ps:List (Addr×Pr)}(hl:ps.length * 5 < mask * 3)(finger moves:Nat)(led:Bool) :
  ∃(t:SetTable) (order:Array Nat) (ps':List (Addr×Pr)),laid mask finger moves led true ((ps.map (entf f)).toArray.map (·.1))=some (t,order)/\order.filterMap (fun i=>(ps.map (entf f)).toArray[i]?)=(ps'.map (entf f)).toArray/\ps'.length=ps.length/\
   (∀q,q∈ps'↔q∈ps)/\Tab t (ps'.map fun q=>f q.2)/\t.led=led:=by
 obtain⟨t,order,e,el,em,nd,mem,T⟩:=laid_spec hm ((ps.map (entf f)).toArray.map (·.1)) (by simpa using hl) finger moves led
 have hsz:((ps.map (entf f)).toArray.map (·.1)).size=ps.length:=by simp
 obtain⟨ps',f1,f2,f3,f4⟩:=filterMap_get ps.toArray order.toList fun k hk=>by
  have:=(mem k).mp hk;rw [hsz] at this;simpa using this
 have hlen:order.toList.length=ps.length:=by
  have a1:=nodup_len (m:=List.range ps.length) nd fun x hx=>List.mem_range.mpr (by have:=(mem x).mp hx;rwa [hsz] at this)
  have a2:=nodup_len (l:=List.range ps.length) (m:=order.toList) List.nodup_range fun x hx=>(mem x).mpr (by rw [hsz];exact List.mem_range.mp hx)
  simp at a1 a2 ⊢;omega
 refine⟨t,order,ps',e,?_,by omega,fun q=>⟨fun hq=>?_,fun hq=>?_⟩,?_,el⟩
 ·apply Array.toList_inj.mp
  rw [Array.toList_filterMap,<-f1]
  simp only [List.toList_toArray]
  rw [List.map_filterMap]
  congr 1
  funext i
  simp
 ·obtain⟨k,_,q2⟩:=f4 q hq
  rw [List.getElem?_toArray] at q2
  exact List.mem_of_getElem? q2
 ·obtain⟨k,hk,q2⟩:=List.mem_iff_getElem.mp hq
  have hko:k∈order.toList:=(mem k).mpr (by rw [hsz];exact hk)
  obtain⟨i,hi,e2⟩:=List.mem_iff_getElem.mp hko
  have:=f3 i k (by rw [List.getElem?_eq_getElem hi,e2])
  rw [List.getElem?_toArray,List.getElem?_eq_getElem hk,q2] at this
  exact List.mem_of_getElem? this
 ·have:(order.toList.map fun k=>((ps.map (entf f)).toArray.map (·.1)).toList.getD k 0)=ps'.map fun q=>f q.2:=by
   apply List.ext_getElem?
   intro i
   rw [List.getElem?_map,List.getElem?_map]
   cases hi:order.toList[i]? with
   |none=>
    have:ps'[i]? =none:=List.getElem?_eq_none_iff.mpr (by rw [f2];exact List.getElem?_eq_none_iff.mp hi)
    rw [this];rfl
   |some k=>
    have hk:k < ps.length:=by have:=(mem k).mp (List.mem_of_getElem? hi);rwa [hsz] at this
    have:=f3 i k hi
    rw [List.getElem?_toArray,List.getElem?_eq_getElem hk] at this
    rw [this]
    simp [hk]
  rw [<-this];exact T
theorem nodup_cover:∀{l m:List Int},m.Nodup->(∀x,x∈m->x∈l)->l.length<=m.length->l.Nodup
 | [],_,_,_,_=>List.nodup_nil
 |a :: l,m,hn,hs,hl=>by
  by_cases ha:a∈m
  ·have hnot:a∉l:=fun z=>by
    have:=nodup_len (m:=l) hn fun x hx=>by
     rcases List.mem_cons.mp (hs x hx) with e |e
     ·rw [e];exact z
     ·exact e
    simp only [List.length_cons] at hl;omega
   refine List.nodup_cons.mpr ⟨hnot,nodup_cover (m:=m.erase a) (hn.erase a) (fun x hx=>?_) ?_⟩
   ·have:=(hn.mem_erase_iff).mp hx
    rcases List.mem_cons.mp (hs x this.2) with e |e
    ·exact absurd e this.1
    ·exact e
   ·rw [List.length_erase_of_mem ha];simp only [List.length_cons] at hl;omega
  ·have:=nodup_len (m:=l) hn fun x hx=>by
    rcases List.mem_cons.mp (hs x hx) with e |e
    ·exact absurd (e▸hx) ha
    ·exact e
   simp only [List.length_cons] at hl;omega
theorem set_scan_ref (a:Addr)(es:Array (Int×Value)):byScan (.ref a) es=false:=by unfold byScan Value.scannable;simp
theorem gaveWay_of {t:SetTable}(h:Mk3 t.mask):t.gaveWay=false:=by
 unfold SetTable.gaveWay
 rcases h with e |e |e <;> rw [e] <;> decide
theorem PSet.add {f:Pr->Int}(hinj:∀p q,Sm p->Sm q->f p=f q->p=q){led:Bool}{S a:Addr}{ps:List (Addr×Pr)}{p:Pr}{Q:Bool->Shared->Prop}(P:PSet f prog w led s.heap S ps)(hk:PairAt prog w s.heap p a)(hs:Sm p)(hu:A.units < cLine)
  (h:∀(b:Bool) (h':Heap) (ps':List (Addr×Pr)),Heap.SameBut S s.heap h'->PSet f prog w led h' S ps'->(∀q,q∈ps'->q∈ps\/q=(a,p))->(∀q,q∈ps->q∈ps')->(∃q,q∈ps'/\q.2=p)->Q b {s with heap:=h'}) :
  wpAny (model prog w) A (setAddHashed S (.ref a) (f p)) Q E s:=by
 obtain⟨o,ep,t,ho,hex,hd,T,hled⟩:=P.ex
 have hfit:t.fits (ps.map (entf f)).toArray.size=true:=fits_tab T (by simp)
 have ha:∀i,i < (ps.map fun q=>f q.2).length->some ((((ps.map (entf f)).toArray)[i]?.map (·.1)).getD 0)=(ps.map fun q=>f q.2)[i]?:=fun i hi=>by
  have hi':i < ps.length:=by simpa using hi
  simp [hi']
 unfold setAddHashed
 refine wpAny_holding ?_
 unfold setAddHashedIn
 refine wpAny_bind (wpAny_setState_of ho hd hfit ?_)
 dsimp only
 rw [set_scan_ref]
 simp only [Bool.false_eq_true,if_false]
 unfold setSearch
 rw [search_eq]
 refine wpAny_bind (wpAny_bind (wpAny_setState_of ho hd hfit ?_))
 dsimp only
 rw [gaveWay_of T.mask]
 simp only [Bool.false_eq_true,if_false]
 by_cases hm:f p∈ps.map fun q=>f q.2
 ·
  obtain⟨j,i,nx,e1,e2,e3,e4⟩:=T.present ha hm
  rw [e1]
  dsimp only
  have hi:i < ps.length:=by simpa using e3
  have e5:f (ps[i].2)=f p:=by
   rw [List.getElem?_map,List.getElem?_eq_getElem hi] at e4
   simpa using e4
  have hq:=P.at' ps[i] (List.getElem_mem hi)
  have e6:ps[i].2=p:=hinj _ _ hq.2 hs e5
  have hget:((ps.map (entf f)).toArray)[i]? =some (f ps[i].2,.ref ps[i].1):=by simp [hi]
  have rest:wpAny (model prog w) A (do
    let some (_,y):=((ps.map (entf f)).toArray)[i]? |unsupported "internal:set-entry"
    let equal <-holding [y] (eqBool y (.ref a))
    let (es',_,t') <-setState S
    if true && equal then return SetFound.there none
    let some same:=t'.sameMemory t.moves t.mask |unsupported "set.changed-during-lookup:is-the-new-block-at-the-old-address"
    let still <-match (if same then t'.slot j else .empty) with
     | .live i'=>match es'[i']? with
      |some (_,y')=>do pure (if <-isSame y' y then some i' else none)
      |none=>pure none
     |_=>pure none
    match still with
    |none=>rule "set.search.anew";setSearchFrom S (.ref a) (f p) true 99999 none
    |some i'=>if equal then return .there (some i') else setSearchFrom S (.ref a) (f p) true 99999 (some nx))
    (fun r s'=>s'=s/\r=.there none) E s:=by
   rw [hget]
   dsimp only
   refine wpAny_bind (wpAny_holding (wpAny_eqBool_tuple hu hq.1 hk ?_))
   rw [decide_eq_true (by rw [e6])]
   refine wpAny_bind (wpAny_setState_of ho hd hfit ?_)
   dsimp only
   simp only [Bool.and_self,if_true]
   exact wpAny_pure ⟨rfl,rfl⟩
  have fin:∀r s',s'=s/\r=SetFound.there none->wpAny (model prog w) A (match r with
    | .free slot wasDummy=>(do
     let (es,_,t) <-setState S
     let (t,p'):=t.put slot
     let byValue <-if t.plain then hashByValue 8 (.ref a) else pure true
     let t:=if byValue then t else {t with plain:=false}
     storeSet S (SetTable.insertAt es p' (f p,.ref a)) t
     if !wasDummy && t.tooFull then setRelay S (SetTable.grown (es.size + 1))
     return true)
    |_=>pure false) Q E s':=by
   rintro r s' ⟨rfl,rfl⟩
   exact wpAny_pure (h false s'.heap ps (Heap.SameBut.refl ..) P (fun q hq=>.inl hq) (fun q hq=>hq) ⟨ps[i],List.getElem_mem hi,e6⟩)
  cases hl:led with
  |true=>
   rw [hled,hl]
   simp only [Bool.not_true,Bool.false_eq_true,if_false]
   exact wpAny_mono rest (fun r s' hr=>fin r s' hr) fun _ _ x=>x
  |false=>
   rw [hled,hl]
   simp only [Bool.not_false,if_true]
   refine wpAny_bind (seen_pairs hk _ (fun v hv=>?_) ?_)
   ·obtain⟨x,hx,rfl⟩:=List.mem_map.mp hv
    have hx':x∈(ps.map (entf f)).toArray:=(Array.mem_filter.mp (Array.mem_toList_iff.mp hx)).1
    have hx2:x∈ps.map (entf f):=by simpa using hx'
    obtain⟨q,hq,rfl⟩:=List.mem_map.mp hx2
    exact⟨q.2,q.1,rfl,(P.at' q hq).1⟩
   ·simp only [Bool.false_eq_true,if_false]
    exact wpAny_mono rest (fun r s' hr=>fin r s' hr) fun _ _ x=>x
 ·
  obtain⟨j,e1,e2,e3,e4⟩:=T.absent ha hm
  rw [e1]
  dsimp only
  refine wpAny_pure ?_
  dsimp only
  refine wpAny_bind (wpAny_setState_of ho hd hfit ?_)
  dsimp only
  obtain⟨q1,q2⟩:=put_place t j T.dum
  have hpl:(t.put j).1.plain=true:=by rw [q1];exact T.plain
  rw [hpl]
  simp only [if_true]
  refine wpAny_bind (hashBy_pair hk ?_)
  simp only [if_true]
  have hb:(t.put j).2<=ps.length:=by
   rw [q2]
   have:=(below_spec T.rise j).1
   rw [T.size] at this;simpa using this
  have hins:insertAt (ps.map (entf f)).toArray (t.put j).2 (f p,Value.ref a)=((ps.take (t.put j).2 ++ (a,p) :: ps.drop (t.put j).2).map (entf f)).toArray:=by
   apply Array.toList_inj.mp
   rw [insertAt_toList _ _ _ (by simpa using hb)]
   simp [List.map_take,List.map_drop]
  rw [hins]
  generalize hps':ps.take (t.put j).2 ++ (a,p) :: ps.drop (t.put j).2=ps1
  have mem1:∀q,q∈ps1↔q∈ps\/q=(a,p):=fun q=>by
   rw [<-hps',List.mem_append,List.mem_cons]
   conv=>rhs;rw [<-List.take_append_drop (t.put j).2 ps,List.mem_append]
   constructor
   ·rintro (z |z |z)
    ·exact .inl (.inl z)
    ·exact .inr z
    ·exact .inl (.inr z)
   ·rintro ((z |z) |z)
    ·exact .inl z
    ·exact .inr (.inr z)
    ·exact .inr (.inl z)
  have len1:ps1.length=ps.length + 1:=by rw [<-hps'];simp;omega
  have nd1:(ps1.map (·.2)).Nodup:=by
   have hnot:p∉ps.map (·.2):=fun z=>by
    obtain⟨q,hq,e⟩:=List.mem_map.mp z
    exact hm (List.mem_map.mpr ⟨q,hq,by rw [e]⟩)
   have perm:(ps1.map (·.2)).Perm (p :: ps.map (·.2)):=by
    rw [<-hps']
    have:(ps.take (t.put j).2 ++ (a,p) :: ps.drop (t.put j).2).Perm ((a,p) :: ps):=by
     refine List.perm_middle.trans ?_
     rw [List.take_append_drop]
    exact this.map (·.2)
   exact perm.nodup_iff.mpr (List.nodup_cons.mpr ⟨hnot,P.nd⟩)
  have ne:∀b q,PairAt prog w s.heap q b->b≠S:=fun b q ⟨o',_,_,ho',_,hd',_⟩ e=>by
   subst e
   rw [ho] at ho';cases ho'
   rw [hd] at hd';cases hd'
  have at1:∀{h':Heap},Heap.SameBut S s.heap h'->∀q,q∈ps1->PairAt prog w h' q.2 q.1/\Sm q.2:=fun {h'} hsb q hq=>by
   have key:∀{b:Addr} {q:Pr},PairAt prog w s.heap q b->PairAt prog w h' q b:=fun {b q} hb=>by
    have hne:=ne b q hb
    obtain⟨o',i',n',ho',r'⟩:=hb
    exact⟨o',i',n',(hsb.2 b hne).trans ho',r'⟩
   rcases (mem1 q).mp hq with z |z
   ·exact⟨key (P.at' q z).1,(P.at' q z).2⟩
   ·subst z;exact⟨key hk,hs⟩
  have hlen64:ps1.length<=64:=by
   have:=smalls_len nd1 fun x hx=>by
    obtain⟨q,hq,rfl⟩:=List.mem_map.mp hx
    exact (at1 (Heap.SameBut.refl ..) q hq).2
   simpa using this
  have hsize:((ps1.map (entf f)).toArray).size<=sizeLine:=by rw [sizeLine_eq];simp;omega
  refine wpAny_bind (wpAny_storeSet_of ho hd ?_ hsize)
  have ho1:(s.heap.update S (Obj.putSet (ps1.map (entf f)).toArray (t.put j).1)).get? S=some {o with data:=.set (ps1.map (entf f)).toArray (ep + 1) (t.put j).1}:=by
   have:=Heap.get?_update_self (Obj.putSet (ps1.map (entf f)).toArray (t.put j).1) ho (by rw [putSet_of _ _ hd];rfl)
   rw [putSet_of _ _ hd] at this;exact this
  have sb1:=Heap.SameBut.update s.heap S (Obj.putSet (ps1.map (entf f)).toArray (t.put j).1)
  have hex1:({o with data:=.set (ps1.map (entf f)).toArray (ep + 1) (t.put j).1}:Obj).ExactSet:=hex
  have psz:(t.put j).1.place.size=ps.length + 1:=by
   rw [q1]
   show (insertAt t.place (below t.place j) j).size=_
   rw [<-Array.length_toList,insertAt_toList _ _ _ (below_spec T.rise j).1]
   have:=T.size
   simp at this ⊢
   have:=(below_spec T.rise j).1
   omega
  have dum1:(t.put j).1.dummies=#[]:=by rw [q1];exact T.dum
  have mask1:(t.put j).1.mask=t.mask:=by rw [q1]
  have tsz:t.place.size=ps.length:=by simpa using T.size
  simp only [Bool.not_false,Bool.true_and]
  cases htf:(t.put j).1.tooFull with
  |false=>
   simp only [Bool.false_eq_true,if_false]
   have hload:(t.place.size + 1) * 5 < t.mask * 3:=by
    unfold SetTable.tooFull SetTable.fill at htf
    rw [psz,dum1,mask1] at htf
    simp at htf
    rw [tsz];exact htf
   obtain⟨T1,_⟩:=T.put e2 e3 e4 hload
   refine wpAny_bind (wpAny_pure (wpAny_pure (h true _ ps1 sb1 ⟨⟨_,ep + 1,_,ho1,hex1,rfl,?_,?_⟩,at1 sb1,nd1⟩ (fun q hq=>(mem1 q).mp hq) (fun q hq=>(mem1 q).mpr (.inl hq)) ⟨(a,p),(mem1 _).mpr (.inr rfl),rfl⟩)))
   ·rw [<-hps']
    simpa [List.map_take,List.map_drop] using T1
   ·rw [q1];exact hled
  |true=>
   simp only [if_true]
   have hfull:t.mask * 3<=(ps.length + 1) * 5:=by
    unfold SetTable.tooFull SetTable.fill at htf
    rw [psz,dum1,mask1] at htf
    simpa using htf
   have hload:=T.load
   rw [tsz] at hload
   have hcase:∃mask',Mk3 mask'/\sizeAbove (grown (ps.length + 1)) - 1=mask'/\sizeAbove (grown (ps.length + 1))<=sizeLine/\(ps.length + 1) * 5 < mask' * 3:=by
    rcases T.mask with e |e |e
    ·have:ps.length + 1=5:=by rw [e] at hfull hload;omega
     rw [this,sizes.1]
     exact⟨31,.inr (.inl rfl),rfl,by rw [sizeLine_eq];decide,by decide⟩
    ·have:ps.length + 1=19:=by rw [e] at hfull hload;omega
     rw [this,sizes.2]
     exact⟨127,.inr (.inr rfl),rfl,by rw [sizeLine_eq];decide,by decide⟩
    ·rw [e] at hfull;omega
   obtain⟨mask',hm3,em,hline,hl2⟩:=hcase
   have hes:(ps.map (entf f)).toArray.size + 1=ps.length + 1:=by simp
   rw [hes,relay_eq]
   have hfit1:(t.put j).1.fits ((ps1.map (entf f)).toArray).size=true:=by
    unfold SetTable.fits SetTable.fill
    have hpl2:ps.length + 1<=t.mask:=by
     rcases T.mask with e |e |e <;> rw [e] at hload ⊢ <;> omega
    rw [psz,dum1,mask1]
    simp [len1,hpl2]
   refine wpAny_bind (wpAny_bind (wpAny_setState_of ho1 rfl hfit1 ?_))
   dsimp only
   rw [if_neg (by omega)]
   rw [relaid_mask _ _ _ hpl,em]
   obtain⟨t2,order,ps2,g1,g2,g3,g4,g5,g6⟩:=relay_pairsF f hm3 (ps:=ps1) (by rw [len1];exact hl2) (t.put j).1.finger ((t.put j).1.movedTo mask') (t.put j).1.led
   rw [g1]
   simp only [bind_pure_comp,pure_bind]
   rw [g2]
   have hne:((ps2.map (entf f)).toArray.size != (ps1.map (entf f)).toArray.size)=false:=by simp [g3]
   rw [hne]
   simp only [Bool.false_eq_true,if_false]
   have hsize2:((ps2.map (entf f)).toArray).size<=sizeLine:=by rw [sizeLine_eq];simp;omega
   refine wpAny_bind (wpAny_pure ?_)
   refine wpAny_storeSet_of ho1 rfl ?_ hsize2
   have ho2:((s.heap.update S (Obj.putSet (ps1.map (entf f)).toArray (t.put j).1)).update S (Obj.putSet (ps2.map (entf f)).toArray t2)).get? S=some {o with data:=.set (ps2.map (entf f)).toArray (ep + 1 + 1) t2}:=by
    have:=Heap.get?_update_self (Obj.putSet (ps2.map (entf f)).toArray t2) ho1 (by rw [putSet_of (ep:=ep + 1) _ _ rfl];rfl)
    rw [putSet_of (ep:=ep + 1) _ _ rfl] at this;exact this
   have sb2:=sb1.trans (Heap.SameBut.update _ S (Obj.putSet (ps2.map (entf f)).toArray t2))
   have nd2:(ps2.map (·.2)).Nodup:=by
    have hmem:∀q,q∈ps2.map (·.2)↔q∈ps1.map (·.2):=fun q=>by
     rw [List.mem_map,List.mem_map]
     exact⟨fun⟨x,hx,e⟩=>⟨x,(g4 x).mp hx,e⟩,fun⟨x,hx,e⟩=>⟨x,(g4 x).mpr hx,e⟩⟩
    have hnd:(ps2.map fun q=>f q.2).Nodup:=by
     refine nodup_cover (m:=ps1.map fun q=>f q.2) ?_ (fun x hx=>?_) (by simp [g3])
     ·have:(ps1.map fun q=>f q.2)=(ps1.map (·.2)).map f:=by simp
      rw [this]
      refine List.pairwise_map.mpr (List.Pairwise.imp_of_mem ?_ nd1)
      intro x y hx hy hxy e
      obtain⟨q,hq,rfl⟩:=List.mem_map.mp hx
      obtain⟨r,hr,rfl⟩:=List.mem_map.mp hy
      exact hxy (hinj _ _ (at1 sb1 q hq).2 (at1 sb1 r hr).2 e)
     ·obtain⟨q,hq,rfl⟩:=List.mem_map.mp hx
      exact List.mem_map.mpr ⟨q,(g4 q).mpr hq,rfl⟩
    have:(ps2.map fun q=>f q.2)=(ps2.map (·.2)).map f:=by simp
    rw [this] at hnd
    exact (List.pairwise_map.mp hnd).imp fun hxy e=>hxy (by rw [e])
   refine wpAny_pure (h true _ ps2 sb2 ⟨⟨_,ep + 1 + 1,t2,ho2,hex,rfl,g5,?_⟩,fun q hq=>at1 sb2 q ((g4 q).mp hq),nd2⟩ (fun q hq=>(mem1 q).mp ((g4 q).mp hq)) (fun q hq=>(g4 q).mpr ((mem1 q).mpr (.inl hq))) ⟨(a,p),(g4 _).mpr ((mem1 _).mpr (.inr rfl)),rfl⟩)
   rw [g6,q1];exact hled
end
end L2.ST

end

section
namespace L2.ST
open PySem PySem.SetTable
def ledW (w:World):Bool:= !(w.params.followText "set-order")
def hpK (prog:Program)(w:World)(p:Pr):Int:=tupleKeyHash (intKind prog w) [p.1,p.2]
theorem hpK_inj (prog:Program)(w:World):∀p q,Sm p->Sm q->hpK prog w p=hpK prog w q->p=q:=fun p q h1 h2 e=>hp_inj h1 h2 e
section
variable {prog:Program}{w:World}{A:Around}{E:Value->Shared->Prop}{s:Shared}{R:Result->Shared->Prop}{I:Addr}{fp wr:List Addr}{n:Nat}{P:Nat->Value->Prop}{St:Nat->Heap->Prop}
def PairsAt (prog:Program)(w:World)(h:Heap)(vs:List Value)(ps:List Pr):Prop:=vs.length=ps.length/\∀(i:Nat) (v:Value) (p:Pr),vs[i]? =some v->ps[i]? =some p->∃a,v=.ref a/\PairAt prog w h p a/\Sm p
abbrev FullSet (prog:Program)(w:World)(h:Heap)(S:Addr)(vs:List Value)(ps:List Pr)(k:Nat):Prop:=∃qs:List (Addr×Pr),PSet (hpK prog w) prog w (ledW w) h S qs/\
 (∀q,q∈qs->Value.ref q.1∈vs.take k/\q.2∈ps.take k)/\∀p,p∈ps.take k->p∈qs.map (·.2)
theorem update_loop_pairs (W:Walks prog w A.in1 I fp wr n P St)(S:Addr)(hSf:S∉fp){vs:List Value}{ps:List Pr}(hn:vs.length=n)(hP:∀i v,P i v->vs[i]? =some v)(hu:A.in1.units < cLine)(h₀:Heap)
  (hps:PairsAt prog w h₀ vs ps) (hwr:∀b o,b∈S :: wr->h₀.get? b=some o->False):∀(k i:Nat) (s:Shared),n - i=k->i<=n->St i s.heap->(∀b o,h₀.get? b=some o->s.heap.get? b=some o)->FullSet prog w s.heap S vs ps i->
   (∀h' tk,(∀b o,b∉S :: wr->s.heap.get? b=some o->h'.get? b=some o)->FullSet prog w h' S vs ps n->R (.ok (.ret .none)) {s with heap:=h',toks:=tk})->
   codeAny (model prog w) A (.builtin "set.update.loop" ⟨[.ref S,.ref I],[]⟩) R s:=by
 have nw:S∉wr:=fun h=>hSf (W.sub _ h)
 intro k
 induction k with
 |zero=>
  intro i s hk hi hst hk0 hF hR
  obtain rfl:i=n:=by omega
  refine codeAny_builtin PyProof.Rows.F.entry_set_update_loop ?_
  rw [Around.under_plainId PyProof.Rows.F.plain_set_update_loop _]
  show wpAny _ A.in1 (pyNext (.ref I) >>= fun r=>_) _ _ s
  refine wpAny_bind (W.done s _ _ hst fun h' tk hm=>?_)
  show wpAny _ A.in1 (ret Value.none) _ _ _
  refine wpAny_pure (hR h' tk (fun b o hb e=>hm b o (fun z=>hb (List.mem_cons_of_mem _ z)) e) ?_)
  obtain⟨qs,Q1,Q2,Q3⟩:=hF
  obtain⟨o,ep,t,ho,r⟩:=Q1.ex
  refine⟨qs,⟨⟨o,ep,t,hm S o nw ho,r⟩,fun q hq=>⟨?_,(Q1.at' q hq).2⟩,Q1.nd⟩,Q2,Q3⟩
  obtain⟨m,hm1,hm2⟩:=List.mem_iff_getElem.mp (List.mem_of_mem_take (Q2 q hq).1)
  have hm1':m < ps.length:=by rw [<-hps.1];exact hm1
  obtain⟨a,ea,ha,_⟩:=hps.2 m vs[m] ps[m] (List.getElem?_eq_getElem hm1) (List.getElem?_eq_getElem hm1')
  rw [hm2] at ea
  cases ea
  obtain⟨o',it',n',ho',r'⟩:=(Q1.at' q hq).1
  obtain⟨o2,it2,n2,ho2,r2⟩:=ha
  have:o'=o2:=Option.some.inj (ho'.symm.trans (hk0 _ _ ho2))
  subst this
  exact⟨o',it',n',hm _ _ (fun z=>hwr _ _ (List.mem_cons_of_mem _ z) ho2) ho',r'⟩
 |succ k ih=>
  intro i s hk hi hst hk0 hF hR
  have hlt:i < n:=by omega
  refine codeAny_builtin PyProof.Rows.F.entry_set_update_loop ?_
  rw [Around.under_plainId PyProof.Rows.F.plain_set_update_loop _]
  show wpAny _ A.in1 (pyNext (.ref I) >>= fun r=>_) _ _ s
  refine wpAny_bind (W.item i s _ _ hlt hst fun v h1 tk1 hv hst1 hm=>?_)
  have hvi:=hP i v hv
  have hip:i < ps.length:=by rw [<-hps.1,hn];exact hlt
  obtain⟨a,rfl,ha,hsm⟩:=hps.2 i v ps[i] hvi (List.getElem?_eq_getElem hip)
  have k1:∀b o,h₀.get? b=some o->h1.get? b=some o:=fun b o e=>hm b o (fun z=>hwr b o (List.mem_cons_of_mem _ z) e) (hk0 b o e)
  obtain⟨qs,Q1,Q2,Q3⟩:=hF
  have old:∀{q:Addr×Pr} {h:Heap},q∈qs->(∀b o,h₀.get? b=some o->h.get? b=some o)->PairAt prog w h q.2 q.1:=fun {q h} hq kk=>by
   obtain⟨m,hm1,hm2⟩:=List.mem_iff_getElem.mp (List.mem_of_mem_take (Q2 q hq).1)
   have hm1':m < ps.length:=by rw [<-hps.1];exact hm1
   obtain⟨a,ea,ha,_⟩:=hps.2 m vs[m] ps[m] (List.getElem?_eq_getElem hm1) (List.getElem?_eq_getElem hm1')
   rw [hm2] at ea
   cases ea
   obtain⟨o',it',n',ho',r'⟩:=(Q1.at' q hq).1
   obtain⟨o2,it2,n2,ho2,r2⟩:=ha
   have:o'=o2:=Option.some.inj (ho'.symm.trans (hk0 _ _ ho2))
   subst this
   exact⟨o',it',n',kk _ _ ho2,r'⟩
  have P1:PSet (hpK prog w) prog w (ledW w) h1 S qs:=by
   obtain⟨o,ep,t,ho,r⟩:=Q1.ex
   exact⟨⟨o,ep,t,hm S o nw ho,r⟩,fun q hq=>⟨old hq k1,(Q1.at' q hq).2⟩,Q1.nd⟩
  have ha1:PairAt prog w h1 ps[i] a:=by
   obtain⟨o',it',n',ho',r'⟩:=ha
   exact⟨o',it',n',k1 _ _ ho',r'⟩
  show wpAny _ A.in1 (holding [Value.ref a] (setAdd S (.ref a)) >>= fun _=>_) _ _ _
  refine wpAny_bind (wpAny_holding ?_)
  unfold setAdd
  refine wpAny_holding (wpAny_bind (wpAny_pyHash_tuple hu ha1 ?_))
  refine PSet.add (hpK_inj prog w) (s:={s with heap:=h1,toks:=tk1 + ([ps[i].1,ps[i].2].length + 1)}) P1 ha1 hsm hu fun b h2 qs' sb P2 m1 m2 m3=>?_
  have sbS:∀b o,h₀.get? b=some o->h2.get? b=some o:=fun b o e=>(sb.2 b (fun z=>hwr b o (by rw [z];exact List.mem_cons_self) e)).trans (k1 b o e)
  refine wpAny_pure ⟨plainId_quiet PyProof.Rows.F.plain_set_update_loop _,ih (i + 1) _ (by omega) hlt (W.frame _ _ _ hst1 fun b hb o e=>?_) sbS ⟨qs',P2,fun q hq=>?_,fun p hp=>?_⟩ fun h' tk hm' F'=>?_⟩
  ·rw [sb.2 b fun z=>hSf (by rw [<-z];exact hb)];exact e
  ·have htk:∀{α:Type} {l:List α} {x:α},x∈l.take i->x∈l.take (i + 1):=fun {α l x} hx=>by
    rw [List.take_add_one];exact List.mem_append_left _ hx
   rcases m1 q hq with z |z
   ·exact⟨htk (Q2 q z).1,htk (Q2 q z).2⟩
   ·subst z
    refine⟨?_,?_⟩
    ·rw [List.take_add_one,hvi];exact List.mem_append_right _ (by simp)
    ·rw [List.take_add_one,List.getElem?_eq_getElem hip];exact List.mem_append_right _ (by simp)
  ·rw [List.take_add_one,List.getElem?_eq_getElem hip] at hp
   rcases List.mem_append.mp hp with z |z
   ·obtain⟨q,hq,rfl⟩:=List.mem_map.mp (Q3 p z)
    exact List.mem_map.mpr ⟨q,m2 q hq,rfl⟩
   ·have:p=ps[i]:=by simpa using z
    obtain⟨q,hq,e⟩:=m3
    exact List.mem_map.mpr ⟨q,hq,by rw [e,this]⟩
  ·refine hR h' tk (fun b o hb e=>hm' b o hb ?_) F'
   show h2.get? b=some o
   rw [sb.2 b fun z=>hb (by rw [z];exact List.mem_cons_self)]
   exact hm b o (fun z=>hb (List.mem_cons_of_mem _ z)) e
theorem set_new_led (a:Value){Q1:Value->Shared->Prop}
  (h:Q1 (.ref s.heap.objs.size) {s with heap:=s.heap.push {cls:=.type "set",dict:=none,data:=.set #[] 0 (.fresh 0 0 (ledW w))}}) :
  codeAny (model prog w) A (.call (.builtin "set.__new__") ⟨[.type "set",a],[]⟩) (wants Q1 E) s:=by
 refine codeAny_of_tree ?_
 show wpAny _ A.in1 (do (checkBuiltinCall "set.__new__" ⟨[.type "set",a],[]⟩);again (.builtin "set.__new__" ⟨[.type "set",a],[]⟩)) _ _ s
 refine wpAny_bind (wpAny_of_eq (F.newCall_set_1 a) (wpAny_pure ⟨plainId_quiet F.plain_set_new _,codeAny_builtin F.entry_set_new ?_⟩))
 rw [Around.under_plainId F.plain_set_new _]
 (unfold Builtin.«set.__new__» Builtin.Frozenset.newClass)
 have hsub0:=sub_set_self
 obtain⟨hp0,g0,d0,tk0,os0⟩:=s
 dsimp only
 wp_walk
 (refine wpAny_askSetting (wpAny_pure ?_))
 dsimp only
 simp only [newObj]
 (refine wpAny_bind (wpAny_alloc (wpAny_pure ?_)))
 exact wpAny_pure h
theorem tab_fresh (led:Bool):Tab (.fresh 0 0 led) []:=
 ⟨.inl rfl,rfl,List.Pairwise.nil,fun j h=>(by cases (Array.mem_toList_iff.mpr h)),rfl,(by show (0:Nat) * 5 < 7 * 3;decide),fun i j h e=>(by simp [SetTable.fresh] at e),rfl⟩
structure Src (prog:Program)(w:World)(h:Heap)(l:Addr)(vs:List Value)(T:String)(itO:Obj)(St:Addr->Nat->Heap->Prop):Prop where
 ty:∃o,h.get? l=some o/\o.cls=.type T
 ns:isSubtype (.type T) (.type "set")=pure false
 nf:isSubtype (.type T) (.type "frozenset")=pure false
 nd:(Value.type T == Value.type "dict")=false
 it:∀(A:Around) (s1:Shared) (Q:Value->Shared->Prop) (E:Value->Shared->Prop),(∀b o,h.get? b=some o->s1.heap.get? b=some o)->Q (.ref s1.heap.objs.size) {s1 with heap:=s1.heap.push itO}->wpAny (model prog w) A (pyIter (.ref l)) Q E s1
 st:∀(h1:Heap),(∀b o,h.get? b=some o->h1.get? b=some o)->St h1.objs.size 0 (h1.push itO)
 wk:∀(A:Around) (I:Addr),A.handled=none->l≠I->Walks prog w A I [I,l] [I] vs.length (fun i v=>vs[i]? =some v) (St I)
theorem Src.list {h:Heap}{l:Addr}{vs:List Value}(hl:h.IsList l vs.toArray):Src prog w h l vs "list" {cls:=.type "list_iterator",data:=.fields #[.ref l,.int 0 0]} (fun I i h'=>h'.IsListIter I l i/\h'.IsList l vs.toArray):=by
 obtain⟨o,ho,hc,n,hd⟩:=id hl
 refine⟨⟨o,ho,hc⟩,F.sub_list_set,F.sub_list_frozenset,by decide,fun A s1 Q E k hQ=>wpAny_pyIter_list ⟨o,k _ _ ho,hc,n,hd⟩ hQ,fun h1 k=>⟨⟨_,Heap.get?_push_size _ rfl,rfl,rfl⟩,⟨o,Heap.get?_push_of_some _ (k _ _ ho),hc,n,hd⟩⟩,fun A I hh hne=>?_⟩
 have:=Walks.list (prog:=prog) (w:=w) hh I l hne vs.toArray
 simpa using this
theorem sub_tuple_set:isSubtype (.type "tuple") (.type "set")=pure false:=by rw [isSubtype_type];kernel_rfl
theorem sub_tuple_frozenset:isSubtype (.type "tuple") (.type "frozenset")=pure false:=by rw [isSubtype_type];kernel_rfl
theorem Src.tuple {h:Heap}{l:Addr}{vs:List Value}(hl:h.IsTuple l vs.toArray):Src prog w h l vs "tuple" {cls:=.type "tuple_iterator",data:=.fields #[.ref l,.int 0 0]} (fun I i h'=>h'.IsTupleIter I l i/\h'.IsTuple l vs.toArray):=by
 obtain⟨o,ho,hc,n,hd⟩:=id hl
 refine⟨⟨o,ho,hc⟩,sub_tuple_set,sub_tuple_frozenset,by decide,fun A s1 Q E k hQ=>wpAny_pyIter_tuple ⟨o,k _ _ ho,hc,n,hd⟩ hQ,fun h1 k=>⟨⟨_,Heap.get?_push_size _ rfl,rfl,rfl⟩,⟨o,Heap.get?_push_of_some _ (k _ _ ho),hc,n,hd⟩⟩,fun A I hh hne=>?_⟩
 have:=Walks.tuple (prog:=prog) (w:=w) hh I l hne vs.toArray
 simpa using this
set_option maxHeartbeats 3200000 in
theorem call_set_pairs {l:Addr}{vs:List Value}{ps:List Pr}{T:String}{itO:Obj}{St:Addr->Nat->Heap->Prop}{Q:Value->Shared->Prop}(X:Src prog w s.heap l vs T itO St)(hh:A.handled=none)(hu:A.units + 64 < cLine)(hps:PairsAt prog w s.heap vs ps)
  (h:∀(h':Heap) (tk:Nat),FullSet prog w h' s.heap.objs.size vs ps vs.length->(∀b o,s.heap.get? b=some o->h'.get? b=some o)->Q (.ref s.heap.objs.size) {s with heap:=h',toks:=tk}) :
  wpAny (model prog w) A (call (.type "set") [.ref l]) Q E s:=by
 obtain⟨c0,tl0,hmro0⟩:=F.called_set.mro
 have hmade0:=F.called_set.made
 have hsub0:=F.called_set.sub
 refine wpAny_call (codeAny_of_tree ?_)
 show wpAny _ _ (callAny (.type "set") ⟨[.ref l],[]⟩) _ _ _
 refine wpAny_pure ⟨Code.quiet_builtin _ (by decide +kernel),codeAny_builtin F.entry_type_call ?_⟩
 (rw [Around.under_plain (weight_type_call_type "set" [.ref l] []) rfl])
 have g1:=F.called_set.notType
 have g2:=F.called_set.canCreate
 have g3:=F.typeCall_set_1 (.ref l)
 repeat (any_goals (first |assumption |wp_step))
 refine codeAny_mono (set_new_led (.ref l) (E:=E) (Q1:=fun obj s1=>obj=.ref s.heap.objs.size/\s1={s with heap:=s.heap.push {cls:=.type "set",dict:=none,data:=.set #[] 0 (.fresh 0 0 (ledW w))}}) ⟨rfl,rfl⟩) fun r s1 hr=>?_
 cases r with
 |error e=>exact hr
 |ok fl=>
  cases fl with
  |ret obj=>
   obtain⟨rfl,rfl⟩:=hr
   generalize hO:({cls:=.type "set",dict:=none,data:=.set #[] 0 (.fresh 0 0 (ledW w))}:Obj)=O
   have hS0:(s.heap.push O).get? s.heap.objs.size=some O:=Heap.get?_push_size _ (by rw [<-hO];rfl)
   have hT0:Shared.TypeIs {s with heap:=s.heap.push O} (.ref s.heap.objs.size) "set":=⟨_,hS0,by rw [<-hO]⟩
   have g4:=F.called_set.init.lookup
   have g5:=F.called_set.init.bind (.ref s.heap.objs.size)
   repeat (any_goals (first |assumption |wp_step))
   refine codeAny_mono (codeAny_call_builtin (R:=wants (fun r s2=>r=.none/\∃h' tk,s2={s with heap:=h',toks:=tk}/\FullSet prog w h' s.heap.objs.size vs ps vs.length/\(∀b o,s.heap.get? b=some o->h'.get? b=some o)) E)
    F.called_set.init.plain F.entry_set_init (check_set_init_1 hT0 ?_)) fun r2 s2 hr2=>?_
   ·obtain⟨ol,hol,hcl⟩:=X.ty
    have hol':(s.heap.push O).get? l=some ol:=Heap.get?_push_of_some _ hol
    have e1:=X.ns
    have e2:=X.nf
    have e3:=X.nd
    have hTl:Shared.TypeIs {s with heap:=s.heap.push O} (.ref l) T:=⟨ol,hol',hcl⟩
    have hdat:O.data=.set #[] 0 (.fresh 0 0 (ledW w)):=by rw [<-hO]
    (unfold Builtin.«set.__init__» noKeywords Builtin.Frozenset.updateFrom)
    subst hO
    obtain⟨oc,od,odt,osl⟩:=ol
    simp only at hcl
    subst hcl
    (generalize hPI0:pyIter=PI0)
    wp_walk
    subst hPI0
    have kp:∀b o,s.heap.get? b=some o->(s.heap.push {cls:=.type "set",dict:=none,data:=.set #[] 0 (.fresh 0 0 (ledW w))}).get? b=some o:=fun b o e=>Heap.get?_push_of_some _ e
    refine X.it _ _ _ _ kp ?_
    refine wpAny_bind (wpAny_runValue ?_)
    have hlS:l < s.heap.objs.size:=Heap.lt_size hol
    have hh3:A.in1.in1.in1.handled=none:=by simp [hh]
    have hneI:l≠(s.heap.push {cls:=.type "set",dict:=none,data:=.set #[] 0 (.fresh 0 0 (ledW w))}).objs.size:=by
     rw [Heap.size_push];exact Nat.ne_of_lt (Nat.lt_succ_of_lt hlS)
    have hSf:s.heap.objs.size∉ [(s.heap.push {cls:=.type "set",dict:=none,data:=.set #[] 0 (.fresh 0 0 (ledW w))}).objs.size,l]:=by
     rw [Heap.size_push]
     intro z
     rcases List.mem_cons.mp z with e |z
     ·exact absurd e (Nat.ne_of_lt (Nat.lt_succ_self _))
     ·exact absurd (List.mem_singleton.mp z) (Nat.ne_of_gt hlS)
    refine update_loop_pairs (X.wk _ _ hh3 hneI) s.heap.objs.size hSf rfl (fun i v e=>e) (by simp;omega) s.heap hps (fun b o hb e=>?_) (vs.length - 0) 0 _ (by omega) (Nat.zero_le _) (X.st _ kp) (fun b o e=>Heap.get?_push_of_some _ (kp b o e)) ?_ ?_
    ·have hlt:=Heap.lt_size e
     rw [Heap.size_push] at hb
     rcases List.mem_cons.mp hb with z |z
     ·exact absurd hlt (by rw [z];exact Nat.lt_irrefl _)
     ·rw [List.mem_singleton.mp z] at hlt
      exact absurd hlt (Nat.not_lt.mpr (Nat.le_succ _))
    ·refine⟨[],⟨⟨_,0,_,Heap.get?_push_of_some _ hS0,⟨rfl,rfl,rfl⟩,rfl,tab_fresh _,rfl⟩,fun q hq=>(by cases hq),List.nodup_nil⟩,fun q hq=>(by cases hq),fun p hp=>(by simp at hp)⟩
    ·intro h' tk hm F'
     show wpAny _ _ _ _ _ _
     refine wpAny_pure ?_
     show wpAny _ _ (ret Value.none) _ _ _
     refine wpAny_pure ⟨rfl,h',tk,rfl,F',fun b o e=>hm b o (fun z=>?_) (Heap.get?_push_of_some _ (kp b o e))⟩
     have hlt:=Heap.lt_size e
     rw [Heap.size_push] at z
     rcases List.mem_cons.mp z with z |z
     ·exact absurd hlt (by rw [z];exact Nat.lt_irrefl _)
     ·rw [List.mem_singleton.mp z] at hlt
      exact absurd hlt (Nat.not_lt.mpr (Nat.le_succ _))
   ·cases r2 with
    |error e=>exact hr2
    |ok fl2=>
     cases fl2 with
     |ret r=>
      obtain⟨rfl,h',tk,rfl,hF,hk⟩:=hr2
      repeat (any_goals (first |assumption |wp_step))
      exact h _ _ hF hk
     |_=>exact hr2.elim
  |_=>exact hr.elim
end
end L2.ST

end

section

end

section
namespace L2.SO
open PySem PySem.W PyProof.Rows
def runT {α:Type}(lt:Nat->Nat->Bool):KasT α->α
 | .ret a=>a
 | .ask i j k=>runT lt (k (lt i j))
theorem runT_bind {α β:Type}(lt:Nat->Nat->Bool)(f:α->KasT β):∀t:KasT α,runT lt (t.bind f)=runT lt (f (runT lt t))
 | .ret _=>rfl
 | .ask i j k=>runT_bind lt f (k (lt i j))
def okT {α:Type}(n:Nat)(lt:Nat->Nat->Bool):KasT α->Prop
 | .ret _=>True
 | .ask i j k=>i < n/\j < n/\okT n lt (k (lt i j))
theorem okT_bind {α β:Type}{n:Nat}{lt:Nat->Nat->Bool}{f:α->KasT β}:∀{t:KasT α},okT n lt t->okT n lt (f (runT lt t))->okT n lt (t.bind f)
 | .ret _,_,h=>h
 | .ask i j k,h,h'=>⟨h.1,h.2.1,okT_bind h.2.2 h'⟩
section
variable {n:Nat}{key:Nat->Int}
abbrev ltK (key:Nat->Int)(i j:Nat):Bool:=decide (key i < key j)
abbrev Kp (key:Nat->Int)(p:Array Nat)(k:Nat):Int:=key (p.getD k 0)
structure Pm (n:Nat)(p:Array Nat):Prop where
 sz:p.size=n
 nd:p.toList.Nodup
 lt:∀x,x∈p->x < n
theorem Pm.at {p:Array Nat}(P:Pm n p){k:Nat}(hk:k < n):p.getD k 0 < n:=by
 have h:k < p.size:=by rw [P.sz];exact hk
 simp only [Array.getD,h,dif_pos]
 exact P.lt _ (Array.getElem_mem h)
theorem Pm.ne {p:Array Nat}(P:Pm n p){i k:Nat}(hi:i < n)(hk:k < n)(hne:i≠k):p.getD i 0≠p.getD k 0:=by
 have h1:i < p.toList.length:=by simpa using (by rw [P.sz];exact hi:i < p.size)
 have h2:k < p.toList.length:=by simpa using (by rw [P.sz];exact hk:k < p.size)
 have h1':i < p.size:=by rw [P.sz];exact hi
 have h2':k < p.size:=by rw [P.sz];exact hk
 have a1:p.getD i 0=p.toList[i]:=by simp [Array.getD,h1']
 have a2:p.getD k 0=p.toList[k]:=by simp [Array.getD,h2']
 rw [a1,a2]
 have q:=List.pairwise_iff_getElem.mp P.nd
 rcases Nat.lt_or_ge i k with c |c
 ·exact q i k h1 h2 c
 ·exact (q k i h2 h1 (by omega)).symm
theorem Pm.perm {p q:Array Nat}(P:Pm n p)(h:q.Perm p):Pm n q:=by
 have h':=Array.perm_iff_toList_perm.mp h
 exact⟨by rw [h.size_eq];exact P.sz,h'.nodup_iff.mpr P.nd,fun x hx=>P.lt x (by simpa using h'.mem_iff.mp (by simpa using hx))⟩
theorem pm_range (n:Nat):Pm n (List.toArray (List.range n)):=⟨by simp,by simpa using List.nodup_range,fun x hx=>by simpa using hx⟩
def Inj (n:Nat)(key:Nat->Int):Prop:=∀i j,i < n->j < n->key i=key j->i=j
theorem Pm.tri {p:Array Nat}(P:Pm n p)(hi:Inj n key){i k:Nat}(h1:i < n)(h2:k < n)(hne:i≠k):Kp key p i < Kp key p k\/Kp key p k < Kp key p i:=by
 have:Kp key p i≠Kp key p k:=fun e=>P.ne h1 h2 hne (hi _ _ (P.at h1) (P.at h2) e)
 omega
def Up (key:Nat->Int)(p:Array Nat)(m:Nat):Prop:=∀i j,i < j->j < m->Kp key p i < Kp key p j
def Dn (key:Nat->Int)(p:Array Nat)(m:Nat):Prop:=∀i j,i < j->j < m->Kp key p j < Kp key p i
theorem Up.snoc {p:Array Nat}{m:Nat}(U:Up key p m)(h1:1<=m)(h:Kp key p (m - 1) < Kp key p m):Up key p (m + 1):=fun i j hij hj=>by
 rcases Nat.lt_or_ge j m with c |c
 ·exact U i j hij c
 ·have:j=m:=by omega
  subst this
  rcases Nat.lt_or_ge i (j - 1) with d |d
  ·exact Int.lt_trans (U i (j - 1) d (by omega)) h
  ·have:i=j - 1:=by omega
   rw [this];exact h
theorem Dn.snoc {p:Array Nat}{m:Nat}(U:Dn key p m)(h1:1<=m)(h:Kp key p m < Kp key p (m - 1)):Dn key p (m + 1):=fun i j hij hj=>by
 rcases Nat.lt_or_ge j m with c |c
 ·exact U i j hij c
 ·have:j=m:=by omega
  subst this
  rcases Nat.lt_or_ge i (j - 1) with d |d
  ·exact Int.lt_trans h (U i (j - 1) d (by omega))
  ·have:i=j - 1:=by omega
   rw [this];exact h
theorem asc_spec {p:Array Nat}(P:Pm n p)(hi:Inj n key):∀(f m:Nat),1<=m->m + f<=n->Up key p m->
  ∃r,(runT (ltK key) (kas_asc p f m)=r/\okT n (ltK key) (kas_asc p f m))/\m<=r/\r<=m + f/\Up key p r/\(r < m + f->Kp key p r < Kp key p (r - 1))
 | 0,m,_,_,U=>⟨m,⟨rfl,trivial⟩,Nat.le_refl _,Nat.le_refl _,U,fun h=>absurd h (Nat.lt_irrefl _)⟩
 |f + 1,m,h1,hn,U=>by
  have b1:p.getD m 0 < n:=P.at (by omega)
  have b2:p.getD (m - 1) 0 < n:=P.at (by omega)
  unfold kas_asc runT okT
  by_cases c:Kp key p m < Kp key p (m - 1)
  ·rw [show ltK key (p.getD m 0) (p.getD (m - 1) 0)=true from decide_eq_true c]
   simp only [if_true]
   exact⟨m,⟨rfl,b1,b2,trivial⟩,Nat.le_refl _,by omega,U,fun _=>c⟩
  ·rw [show ltK key (p.getD m 0) (p.getD (m - 1) 0)=false from decide_eq_false c]
   simp only [Bool.false_eq_true,if_false]
   have up:Kp key p (m - 1) < Kp key p m:=(P.tri hi (by omega) (by omega) (by omega)).resolve_right c
   obtain⟨r,⟨e,o⟩,a,b,u,d⟩:=asc_spec P hi f (m + 1) (by omega) (by omega) (U.snoc h1 up)
   exact⟨r,⟨e,b1,b2,o⟩,by omega,by omega,u,fun h=>d (by omega)⟩
theorem desc_spec {p:Array Nat}(P:Pm n p)(hi:Inj n key):∀(f m:Nat),1<=m->m + f<=n->Dn key p m->
  ∃r,(runT (ltK key) (kas_desc f p m 0)=(p,r,0)/\okT n (ltK key) (kas_desc f p m 0))/\m<=r/\r<=m + f/\Dn key p r
 | 0,m,_,_,U=>⟨m,⟨rfl,trivial⟩,Nat.le_refl _,Nat.le_refl _,U⟩
 |f + 1,m,h1,hn,U=>by
  have b1:p.getD m 0 < n:=P.at (by omega)
  have b2:p.getD (m - 1) 0 < n:=P.at (by omega)
  unfold kas_desc runT okT
  by_cases c:Kp key p m < Kp key p (m - 1)
  ·rw [show ltK key (p.getD m 0) (p.getD (m - 1) 0)=true from decide_eq_true c]
   simp only [if_true,Nat.lt_irrefl,gt_iff_lt,if_false]
   obtain⟨r,⟨e,o⟩,a,b,u⟩:=desc_spec P hi f (m + 1) (by omega) (by omega) (U.snoc h1 c)
   exact⟨r,⟨e,b1,b2,o⟩,by omega,by omega,u⟩
  ·rw [show ltK key (p.getD m 0) (p.getD (m - 1) 0)=false from decide_eq_false c]
   simp only [Bool.false_eq_true,if_false]
   unfold runT okT
   have up:Kp key p (m - 1) < Kp key p m:=(P.tri hi (by omega) (by omega) (by omega)).resolve_right c
   rw [show ltK key (p.getD (m - 1) 0) (p.getD m 0)=true from decide_eq_true up]
   simp only [if_true]
   exact⟨m,⟨rfl,b1,b2,b2,b1,trivial⟩,Nat.le_refl _,by omega,U⟩
theorem rev_at {p:Array Nat}{j k:Nat}(hj:j<=p.size)(hk:k < j):(kas_rev p 0 j).getD k 0=p.getD (j - 1 - k) 0:=by
 unfold kas_rev
 rw [Array.getD_eq_getD_getElem?,getElem?_mirror_all hj k,if_pos ⟨Nat.zero_le _,hk⟩,Array.getD_eq_getD_getElem?]
 congr 2
 omega
theorem rev_up {p:Array Nat}{m:Nat}(hm:m<=p.size)(D:Dn key p m):Up key (kas_rev p 0 m) m:=fun i j hij hj=>by
 unfold Kp
 rw [rev_at hm (by omega),rev_at hm hj]
 exact D (m - 1 - j) (m - 1 - i) (by omega) (by omega)
theorem Pm.rev {p:Array Nat}(P:Pm n p)(j:Nat):Pm n (kas_rev p 0 j):=P.perm (mirror_perm ..)
theorem count_spec {p:Array Nat}(P:Pm n p)(hi:Inj n key)(h1:1<=n) :
  ∃m q,(runT (ltK key) (kas_count n p)=(m,q)/\okT n (ltK key) (kas_count n p))/\Pm n q/\1<=m/\m<=n/\Up key q m:=by
 obtain⟨r,⟨e,o⟩,a,b,u,d⟩:=asc_spec P hi (n - 1) 1 (Nat.le_refl _) (by omega) (fun i j hij hj=>by omega)
 have rest:∃m q,(runT (ltK key) (if (r == n)=true then KasT.ret (r,p) else if r > 1 then .ask (p.getD 0 0) (p.getD (r - 1) 0) fun c=>if c=true then .ret (r,p) else kas_descPart r n (kas_rev p 0 r) else kas_descPart r n p)=(m,q)/\
   okT n (ltK key) (if (r == n)=true then KasT.ret (r,p) else if r > 1 then .ask (p.getD 0 0) (p.getD (r - 1) 0) fun c=>if c=true then .ret (r,p) else kas_descPart r n (kas_rev p 0 r) else kas_descPart r n p))/\Pm n q/\1<=m/\m<=n/\Up key q m:=by
  by_cases c:(r == n)=true
  ·rw [if_pos c]
   exact⟨r,p,⟨rfl,trivial⟩,P,a,by omega,u⟩
  ·rw [if_neg c]
   have hrn:r≠n:=by simpa using c
   have dd:=d (by omega)
   by_cases c2:r > 1
   ·rw [if_pos c2]
    unfold runT okT
    rw [show ltK key (p.getD 0 0) (p.getD (r - 1) 0)=true from decide_eq_true (u 0 (r - 1) (by omega) (by omega))]
    simp only [if_true]
    exact⟨r,p,⟨rfl,P.at (by omega),P.at (by omega),trivial⟩,P,a,by omega,u⟩
   ·rw [if_neg c2]
    have hr1:r=1:=by omega
    subst hr1
    unfold kas_descPart
    rw [runT_bind]
    have D2:Dn key p 2:=fun i j hij hj=>by
     have e1:i=0:=by omega
     have e2:j=1:=by omega
     rw [e1,e2];exact dd
    obtain⟨x,⟨e2,o2⟩,a2,b2,u2⟩:=desc_spec P hi (n - 2) 2 (by omega) (by omega) D2
    obtain⟨y,⟨e3,o3⟩,a3,b3,u3,_⟩:=asc_spec (P.rev x) hi (n - x) x (by omega) (by omega) (rev_up (by rw [P.sz];omega) u2)
    rw [show n - (1 + 1)=n - 2 from rfl,show (1 + 1:Nat)=2 from rfl]
    have t3:okT n (ltK key) (kas_tail3 x n p):=by
     unfold kas_tail3
     exact okT_bind o3 trivial
    refine⟨y,kas_rev p 0 x,⟨?_,okT_bind o2 ?_⟩,P.rev x,by omega,by omega,u3⟩
    ·rw [e2]
     simp only [Nat.lt_irrefl,gt_iff_lt,if_false]
     unfold kas_tail3
     rw [runT_bind,e3]
     rfl
    ·rw [e2]
     simp only [Nat.lt_irrefl,gt_iff_lt,if_false]
     exact t3
 obtain⟨m,q,⟨f1,f2⟩,f3⟩:=rest
 refine⟨m,q,⟨?_,?_⟩,f3⟩
 ·unfold kas_count
  rw [runT_bind,e]
  exact f1
 ·unfold kas_count
  refine okT_bind o ?_
  rw [e]
  exact f2
theorem place_spec {p:Array Nat}{k:Nat}(P:Pm n p)(hi:Inj n key)(hk:k < n)(U:Up key p k):∀(f l r:Nat),l<=r->r<=k->r - l<=f->(∀i,i < l->Kp key p i < Kp key p k)->(∀i,r<=i->i < k->Kp key p k < Kp key p i)->
  ∃x,(runT (ltK key) (kas_place p k f l r)=x/\okT n (ltK key) (kas_place p k f l r))/\x<=k/\(∀i,i < x->Kp key p i < Kp key p k)/\(∀i,x<=i->i < k->Kp key p k < Kp key p i)
 | 0,l,r,h1,h2,h3,a,b=>⟨l,⟨rfl,trivial⟩,by omega,a,fun i hi=>b i (by omega)⟩
 |f + 1,l,r,h1,h2,h3,a,b=>by
  unfold kas_place
  by_cases c:l>=r
  ·rw [if_pos c]
   exact⟨l,⟨rfl,trivial⟩,by omega,a,fun i hi=>b i (by omega)⟩
  ·rw [if_neg c]
   have b1:p.getD k 0 < n:=P.at hk
   have b2:p.getD ((l + r) / 2) 0 < n:=P.at (by omega)
   unfold runT okT
   by_cases d:Kp key p k < Kp key p ((l + r) / 2)
   ·rw [show ltK key (p.getD k 0) (p.getD ((l + r) / 2) 0)=true from decide_eq_true d]
    simp only [if_true]
    have side:∀i,(l + r) / 2<=i->i < k->Kp key p k < Kp key p i:=fun i h1 h2=>by
     rcases Nat.lt_or_ge ((l + r) / 2) i with z |z
     ·exact Int.lt_trans d (U _ _ z h2)
     ·have:i=(l + r) / 2:=by omega
      rw [this];exact d
    obtain⟨x,⟨e1,e2⟩,e3⟩:=place_spec P hi hk U f l ((l + r) / 2) (by omega) (by omega) (by omega) a side
    exact⟨x,⟨e1,b1,b2,e2⟩,e3⟩
   ·rw [show ltK key (p.getD k 0) (p.getD ((l + r) / 2) 0)=false from decide_eq_false d]
    simp only [Bool.false_eq_true,if_false]
    have d':Kp key p ((l + r) / 2) < Kp key p k:=(P.tri hi (by omega) hk (by omega)).resolve_right d
    have side:∀i,i < (l + r) / 2 + 1->Kp key p i < Kp key p k:=fun i h=>by
     rcases Nat.lt_or_ge i ((l + r) / 2) with z |z
     ·exact Int.lt_trans (U _ _ z (by omega)) d'
     ·have:i=(l + r) / 2:=by omega
      rw [this];exact d'
    obtain⟨x,⟨e1,e2⟩,e3⟩:=place_spec P hi hk U f ((l + r) / 2 + 1) r (by omega) h2 (by omega) side b
    exact⟨x,⟨e1,b1,b2,e2⟩,e3⟩
theorem bub_at {p:Array Nat}{k l j:Nat}(hk:k < p.size)(hl:l<=k):(bubble p k (k - l)).getD j 0=if j=l then p.getD k 0 else if l < j/\j<=k then p.getD (j - 1) 0 else p.getD j 0:=by
 rw [Array.getD_eq_getD_getElem?,getElem?_bubble hk (k - l) (by omega) j,show k - (k - l)=l by omega]
 simp only [Array.getD_eq_getD_getElem?]
 split
 ·rfl
 ·split <;> rfl
theorem bin_spec (hi:Inj n key):∀(f k:Nat) (p:Array Nat),Pm n p->1<=k->k + f=n->Up key p k->∃q,(runT (ltK key) (kas_bin f p k)=q/\okT n (ltK key) (kas_bin f p k))/\Pm n q/\Up key q n
 | 0,k,p,P,_,e,U=>⟨p,⟨rfl,trivial⟩,P,by rw [<-e];exact U⟩
 |f + 1,k,p,P,h1,e,U=>by
  have hk:k < n:=by omega
  obtain⟨l,⟨el,ol⟩,hl,a,b⟩:=place_spec P hi hk U k 0 k (Nat.zero_le _) (Nat.le_refl _) (by omega) (fun i h=>by omega) (fun i h h'=>by omega)
  have side:Up key (bubble p k (k - l)) (k + 1):=fun i j hij hj=>by
   have hks:k < p.size:=by rw [P.sz];exact hk
   unfold Kp
   rw [bub_at hks hl,bub_at hks hl]
   by_cases i1:i=l
   ·rw [if_pos i1,if_neg (by omega)]
    by_cases j2:l < j/\j<=k
    ·rw [if_pos j2];exact b _ (by omega) (by omega)
    ·omega
   ·rw [if_neg i1]
    by_cases i2:l < i/\i<=k
    ·rw [if_pos i2,if_neg (by omega),if_pos (by omega)]
     exact U _ _ (by omega) (by omega)
    ·rw [if_neg i2]
     by_cases j1:j=l
     ·rw [if_pos j1];exact a _ (by omega)
     ·rw [if_neg j1]
      by_cases j2:l < j/\j<=k
      ·rw [if_pos j2]
       rcases Nat.lt_or_ge i (j - 1) with z |z
       ·exact U _ _ z (by omega)
       ·omega
      ·rw [if_neg j2];exact U _ _ hij (by omega)
  obtain⟨q,⟨q1,q2⟩,q3⟩:=bin_spec hi f (k + 1) (bubble p k (k - l)) (P.perm (bubble_perm ..)) (by omega) (by omega) side
  refine⟨q,⟨?_,?_⟩,q3⟩
  ·unfold kas_bin;rw [runT_bind,el];exact q1
  ·unfold kas_bin;refine okT_bind ol ?_;rw [el];exact q2
theorem sort_spec (hi:Inj n key)(h2:2<=n):∃q,(runT (ltK key) (kas_sort n)=q/\okT n (ltK key) (kas_sort n))/\Pm n q/\Up key q n:=by
 obtain⟨m,q,⟨e,o⟩,P,a,b,u⟩:=count_spec (pm_range n) hi (by omega)
 by_cases c:m < n
 ·obtain⟨q',⟨e1,o1⟩,r⟩:=bin_spec hi (n - m) m q P a (by omega) u
  refine⟨q',⟨?_,?_⟩,r⟩
  ·unfold kas_sort;rw [runT_bind,e];dsimp only;rw [if_pos c,Nat.max_eq_left a];exact e1
  ·unfold kas_sort;refine okT_bind o ?_;rw [e];dsimp only;rw [if_pos c,Nat.max_eq_left a];exact o1
 ·refine⟨q,⟨?_,?_⟩,P,fun i j hij hj=>u i j hij (by omega)⟩
  ·unfold kas_sort;rw [runT_bind,e];dsimp only;rw [if_neg c];rfl
  ·unfold kas_sort;refine okT_bind o ?_;rw [e];dsimp only;rw [if_neg c];trivial
theorem wp_run {α:Type}{n:Nat}{lt:Nat->Nat->Bool}{cmp:Nat->Nat->(Bool->Shared->Prop)->Shared->Prop}{Q:α->Shared->Prop}{s:Shared} :
  ∀(t:KasT α),(∀i j C,i < n->j < n->C (lt i j) s->cmp i j C s)->okT n lt t->Q (runT lt t) s->t.kasWp cmp Q s
 | .ret a,_,_,h=>h
 | .ask i j k,hc,ho,h=>hc i j _ ho.1 ho.2.1 (wp_run (k (lt i j)) hc ho.2.2 h)
end
end L2.SO

end

section
namespace L2.ST
open PySem PySem.SetTable PySem.W PyProof.Rows
def code (p:Pr):Int:=p.1 * 8 + p.2
theorem code_lt {p q:Pr}(h1:Sm p)(h2:Sm q):code p < code q↔p.1 < q.1\/(p.1=q.1/\p.2 < q.2):=by
 unfold code Sm at *;omega
theorem code_inj {p q:Pr}(h1:Sm p)(h2:Sm q)(e:code p=code q):p=q:=by
 unfold code Sm at *
 refine Prod.ext ?_ ?_ <;> omega
section
variable {prog:Program}{w:World}{A:Around}{E:Value->Shared->Prop}{s:Shared}
abbrev keyP (ps:List Pr)(i:Nat):Int:=code (ps.getD i (0,0))
theorem keyP_inj {ps:List Pr}(nd:ps.Nodup)(hs:∀p,p∈ps->Sm p):L2.SO.Inj ps.length (keyP ps):=fun i j hi hj e=>by
 have a1:ps.getD i (0,0)=ps[i]:=by simp [hi]
 have a2:ps.getD j (0,0)=ps[j]:=by simp [hj]
 unfold keyP at e
 rw [a1,a2] at e
 have e':=code_inj (hs _ (List.getElem_mem hi)) (hs _ (List.getElem_mem hj)) e
 have q:=List.pairwise_iff_getElem.mp nd
 rcases Nat.lt_trichotomy i j with c |c |c
 ·exact absurd e' (q i j hi hj c)
 ·exact c
 ·exact absurd e'.symm (q j i hj hi c)
theorem pair_lt {a b:Addr}{p q:Pr}{Q:Bool->Shared->Prop}(ha:PairAt prog w s.heap p a)(hb:PairAt prog w s.heap q b)(hp:Sm p)(hq:Sm q)(h:Q (decide (code p < code q)) s) :
  wpAny (model prog w) A (keyLt' (tuples' true) (.ref a) (.ref b)) Q E s:=by
 obtain⟨oa,ia,na,hoa,hca,hda,hia⟩:=ha
 obtain⟨ob,ib,nb,hob,hcb,hdb,hib⟩:=hb
 obtain⟨l1,rfl⟩:∃l,ia=List.toArray l:=⟨ia.toList,by simp⟩
 obtain⟨l2,rfl⟩:∃l,ib=List.toArray l:=⟨ib.toList,by simp⟩
 simp only [List.toList_toArray] at hia hib
 cases hia with
 | @cons _ v1 _ _ h1 hia=>
  cases hia with
  | @cons _ v2 _ _ h2 hia=>
   cases hia
   cases hib with
   | @cons _ u1 _ _ g1 hib=>
    cases hib with
    | @cons _ u2 _ _ g2 hib=>
     cases hib
     obtain⟨t1,rfl⟩:=Value.isInt_shape h1
     obtain⟨t2,rfl⟩:=Value.isInt_shape h2
     obtain⟨t3,rfl⟩:=Value.isInt_shape g1
     obtain⟨t4,rfl⟩:=Value.isInt_shape g2
     refine kat_lt hoa hda hob hdb ?_
     have hc:=code_lt hp hq
     refine kat_cons (wpAny_eqBool_int ?_)
     by_cases e1:p.1=q.1
     ·rw [show (p.1 == q.1)=true by simpa using e1]
      refine kat_yes (kat_cons (wpAny_eqBool_int ?_))
      by_cases e2:p.2=q.2
      ·rw [show (p.2 == q.2)=true by simpa using e2]
       refine kat_yes (kat_nil ?_)
       have:decide (code p < code q)=false:=decide_eq_false (by rw [hc];omega)
       rw [this] at h
       simpa using h
      ·rw [show (p.2 == q.2)=false by simpa using e2]
       refine kat_no ?_
       show wpAny _ _ (oneLt' false _ _) _ _ _
       refine kat_one _ _ (lt_int ?_)
       have:decide (code p < code q)=decide (p.2 < q.2):=by
        by_cases z:p.2 < q.2
        ·rw [decide_eq_true z];exact decide_eq_true (hc.mpr (.inr ⟨e1,z⟩))
        ·rw [decide_eq_false z];exact decide_eq_false (by rw [hc];omega)
       rw [this] at h;exact h
     ·rw [show (p.1 == q.1)=false by simpa using e1]
      refine kat_no ?_
      show wpAny _ _ (oneLt' true _ _) _ _ _
      refine oneLt_int ?_
      have:decide (code p < code q)=decide (p.1 < q.1):=by
       by_cases z:p.1 < q.1
       ·rw [decide_eq_true z];exact decide_eq_true (hc.mpr (.inl z))
       ·rw [decide_eq_false z];exact decide_eq_false (by rw [hc];omega)
      rw [this] at h;exact h
theorem tups_of:∀{vs:List Value} {ps:List Pr},PairsAt prog w s.heap vs ps->∃fs,KatTups s.heap vs fs/\fs.length=vs.length/\∀v∈fs,∃(i:Int) (t:Tok),v=.int i t
 | [],ps,_=>⟨[],KatTups.nil,rfl,fun v hv=>by cases hv⟩
 |v :: vs,[],h=>by have:=h.1;simp at this
 |v :: vs,p :: ps,h=>by
  obtain⟨a,rfl,⟨o,items,n,ho,hc,hd,hi⟩,_⟩:=h.2 0 v p rfl rfl
  obtain⟨fs,k,e,f⟩:=tups_of (vs:=vs) (ps:=ps) ⟨by simpa using h.1,fun i v p h1 h2=>h.2 (i + 1) v p (by simpa using h1) (by simpa using h2)⟩
  obtain⟨l1,rfl⟩:∃l,items=List.toArray l:=⟨items.toList,by simp⟩
  simp only [List.toList_toArray] at hi
  cases hi with
  | @cons _ v1 _ _ h1 hi=>
   obtain⟨t1,rfl⟩:=Value.isInt_shape h1
   exact⟨_ :: fs,KatTups.cons ho hc hd rfl k,by simp [e],fun v hv=>by
    rcases List.mem_cons.mp hv with z |z
    ·exact⟨_,_,z⟩
    ·exact f v z⟩
theorem lsort_pairs {a:Addr}{vs:List Value}{ps:List Pr}{n:Nat}{P:PySem.Fin->Shared->Prop}(ho:s.heap.get? a=some (seqObj "list" vs.toArray n))(hps:PairsAt prog w s.heap vs ps)(nd:ps.Nodup)(h64:vs.length < 64)
  (h:∀(h':Heap) (c:Nat) (ix:Array Nat),L2.SO.Pm vs.length ix->L2.SO.Up (keyP ps) ix vs.length->(∀b o,b≠a->s.heap.get? b=some o->h'.get? b=some o)->
   h'.get? a=some (seqObj "list" (ix.toList.map fun i=>vs.getD i Value.none).toArray c)->P (.done (.ret .none)) {s with heap:=h'}) :
  wpAny (model prog w) A (Builtin.«list.sort» ⟨[.ref a],[]⟩) P E s:=by
 have ha:a < s.heap.objs.size:=Heap.lt_size ho
 obtain⟨e1,ho1⟩:∃e1,(s.heap.update a (Obj.mapSeq fun _=>(#[]:Array Value))).get? a=some (seqObj "list" #[] e1):=⟨_,get?_update_seq ho fun _=>#[]⟩
 generalize hH1:(s.heap.update a (Obj.mapSeq fun _=>(#[]:Array Value)))=H1 at ho1
 have sb1:Heap.SameBut a s.heap H1:=by rw [<-hH1];exact Heap.SameBut.update ..
 have kp2:∀b o,H1.get? b=some o->((H1.push (seqObj "tuple" vs.toArray 0)).push (seqObj "list" #[] 0)).get? b=some o:=fun b o e=>Heap.get?_push_of_some _ (Heap.get?_push_of_some _ e)
 generalize hH2:((H1.push (seqObj "tuple" vs.toArray 0)).push (seqObj "list" #[] 0))=H2 at kp2
 have kp:∀b o,b≠a->s.heap.get? b=some o->H2.get? b=some o:=fun b o hb e=>kp2 b o ((sb1.2 b hb).trans e)
 have ho2:=kp2 _ _ ho1
 have hps2:PairsAt prog w H2 vs ps:=⟨hps.1,fun i v p h1 h2=>by
  obtain⟨b,e,⟨o,it,m,hb,hc,hd,r⟩,hs⟩:=hps.2 i v p h1 h2
  refine⟨b,e,⟨o,it,m,kp b o (fun z=>?_) hb,hc,hd,r⟩,hs⟩
  subst z
  rw [ho] at hb;cases hb
  exact absurd hc (by simp [seqObj])⟩
 have hz:vs.length<=sizeLine:=by rw [sizeLine_eq];omega
 rw [list_sort_plain]
 refine wpAny_bind (listItems_at ho rfl (wpAny_bind (listUpdate_at ho rfl ?_ (by simpa using hz) (Nat.zero_le _))))
 rw [hH1]
 refine wpAny_bind (seqEpoch_at (s:={s with heap:=H1}) ho1 rfl (wpAny_bind (wpAny_newTuple ?_ (by simpa using hz))))
 refine wpAny_bind (wpAny_newList ?_ (Nat.zero_le _))
 refine wpAny_holding ?_
 show wpAny (model prog w) A _ P E {s with heap:=(H1.push (seqObj "tuple" vs.toArray 0)).push (seqObj "list" #[] 0)}
 rw [hH2]
 have fin:∀(ix:Array Nat) (st:SortSt),L2.SO.Pm vs.length ix->L2.SO.Up (keyP ps) ix vs.length->(arrOf st).map (·.2)=List.toArray (ix.toList.map fun i=>vs.getD i Value.none)->failedOf st=none->
   wpAny (model prog w) A (do
    let sorted:=(arrOf st).map (·.2)
    let touched:=(<-seqEpoch a) != e1
    Builtin.List.listUpdate (.ref a) fun _=>sorted
    if let some e:=failedOf st then rule "list.sort.comparison-raised";throw e
    if touched then rule "list.sort.modified";raiseError "ValueError" "list modified during sort"
    ret .none) P E {s with heap:=H2}:=fun ix st P1 U1 hout hf=>by
  dsimp only
  rw [hout]
  have hsz:(List.toArray (ix.toList.map fun i=>vs.getD i Value.none)).size=vs.length:=by simp [P1.sz]
  refine wpAny_bind (seqEpoch_at (s:={s with heap:=H2}) ho2 rfl ?_)
  refine wpAny_bind (listUpdate_at (s:={s with heap:=H2}) ho2 rfl ?_ (Nat.zero_le _) (Nat.le_trans (Nat.le_of_eq hsz) (Nat.le_succ_of_le hz)))
  rw [hf]
  simp only [bne_self_eq_false,Bool.false_eq_true,if_false]
  obtain⟨c2,hc2⟩:∃c2,(H2.update a (Obj.mapSeq fun _=>List.toArray (ix.toList.map fun i=>vs.getD i Value.none))).get? a=some (seqObj "list" (List.toArray (ix.toList.map fun i=>vs.getD i Value.none)) c2):=⟨_,get?_update_seq ho2 fun _=>List.toArray (ix.toList.map fun i=>vs.getD i Value.none)⟩
  exact wpAny_pure (h _ c2 ix P1 U1 (fun b o hb e=>((Heap.SameBut.update H2 a _).2 b hb).trans (kp b o hb e)) hc2)
 by_cases h2:vs.length < 2
 ·have h2':vs.toArray.size < 2:=by simpa using h2
  dsimp only
  rw [if_pos h2',if_pos h2']
  refine wpAny_bind (wpAny_pure ?_)
  rw [StateT.run_pure]
  refine wpAny_bind (wpAny_pure ?_)
  refine fin (List.toArray (List.range vs.length)) (SortSt.mk' general' (vs.toArray.zip vs.toArray) #[] 7 none) (L2.SO.pm_range _) (fun i j hij hj=>by omega) ?_ rfl
  have:∀{l:List Value},l.length < 2->((l.toArray.zip l.toArray).map (·.2))=List.toArray ((List.range l.length).map fun i=>l.getD i Value.none):=fun {l} hl=>by
   match l,hl with
   | [],_=>simp
   | [x],_=>simp
  exact (this h2).trans (by simp)
 ·have h2':¬vs.toArray.size < 2:=by simpa using h2
  dsimp only
  rw [if_neg h2',if_neg h2']
  obtain⟨fs,kt,fl,ff⟩:=tups_of (s:={s with heap:=H2}) hps2
  refine wpAny_bind (kat_kind (s:={s with heap:=H2}) (T:=.type "int") kt (by omega) (fun v hv=>?_) (by decide) ?_)
  ·obtain⟨i,t,rfl⟩:=ff v hv
   exact .now
  ·rw [show ((Value.type "int" != Value.type "tuple"):Bool)=true by decide]
   have hinj:L2.SO.Inj vs.length (keyP ps):=by
    rw [hps.1]
    refine keyP_inj nd fun p hp=>?_
    obtain⟨i,hi,e⟩:=List.mem_iff_getElem.mp hp
    have hi':i < vs.length:=by rw [hps.1];exact hi
    obtain⟨_,_,_,hs⟩:=hps.2 i vs[i] p (List.getElem?_eq_getElem hi') (by rw [List.getElem?_eq_getElem hi,e])
    exact hs
   obtain⟨ix,⟨er,ok⟩,P1,U1⟩:=L2.SO.sort_spec hinj (by omega)
   refine wpAny_bind (wpAny_mono (kat_run (s:={s with heap:=H2}) (κ:=tuples' true) (ks:=vs) (Q:=fun st s'=>s'={s with heap:=H2}/\arrOf st=ix.map (kas_item (vs.toArray.zip vs.toArray))/\failedOf st=none)
    (G:=fun p s'=>p=ix/\s'={s with heap:=H2}) rfl (by omega) h64 (fun p st s' a1 a2 a3 a4=>?_) (L2.SO.wp_run (n:=vs.length) (lt:=L2.SO.ltK (keyP ps)) _ (fun i j C hi hj hC=>?_) ok ⟨er,rfl⟩)) ?_ fun _ _ x=>x)
   ·obtain⟨rfl,rfl⟩:=a4
    exact⟨rfl,a2,a3⟩
   ·unfold kas_ask
    have hi':i < ps.length:=by rw [<-hps.1];exact hi
    have hj':j < ps.length:=by rw [<-hps.1];exact hj
    obtain⟨b1,eb1,hb1,s1⟩:=hps2.2 i vs[i] ps[i] (List.getElem?_eq_getElem hi) (List.getElem?_eq_getElem hi')
    obtain⟨b2,eb2,hb2,s2⟩:=hps2.2 j vs[j] ps[j] (List.getElem?_eq_getElem hj) (List.getElem?_eq_getElem hj')
    have e1:vs.getD i Value.none=.ref b1:=by rw [<-eb1];simp [hi]
    have e2:vs.getD j Value.none=.ref b2:=by rw [<-eb2];simp [hj]
    rw [e1,e2]
    refine pair_lt (s:={s with heap:=H2}) hb1 hb2 s1 s2 ?_
    have:L2.SO.ltK (keyP ps) i j=decide (code ps[i] < code ps[j]):=by
     unfold L2.SO.ltK keyP;simp [hi',hj']
    rw [<-this];exact hC
   ·rintro⟨⟨⟩,st⟩ s' ⟨rfl,har,hf⟩
    exact fin ix st P1 U1 (kat_snds rfl har) hf
end
end L2.ST

end

section
namespace L2.ST
open PySem PySem.SetTable PySem.W PyProof.Rows
theorem slot_setit_next:Slot "set_iterator" "__next__" "set_iterator.__next__":=
 Slot.of (owner:="set_iterator") (n:="__next__") (by rw [typeLookup_type,builtinLookup_eq_fast];kernel_rfl) (by decide +kernel) (by decide +kernel) (by decide +kernel) (by first |exact .inl (by decide +kernel) |exact .inr (by decide +kernel)) (by rw [isSubtype_type];kernel_rfl)
theorem entry_setit_next:entryFor table "set_iterator.__next__"=some Builtin.«set_iterator.__next__»:=entryFor_of_tree (by kernel_rfl)
theorem args_setit_next (a:Value):argsOk "set_iterator.__next__" ⟨[a],[]⟩:=by unfold argsOk;kernel_rfl
theorem entry_set_iter:entryFor table "set.__iter__"=some Builtin.«frozenset.__iter__»:=entryFor_alias (id':="frozenset.__iter__") (by kernel_rfl) rfl (by decide +kernel) (by kernel_rfl)
theorem slot_setit_iter:Slot "set_iterator" "__iter__" "set_iterator.__iter__":=
 Slot.of (owner:="set_iterator") (n:="__iter__") (by rw [typeLookup_type,builtinLookup_eq_fast];kernel_rfl) (by decide +kernel) (by decide +kernel) (by decide +kernel) (by first |exact .inl (by decide +kernel) |exact .inr (by decide +kernel)) (by rw [isSubtype_type];kernel_rfl)
theorem entry_setit_iter:entryFor table "set_iterator.__iter__"=some Builtin.«dict_keyiterator.__iter__»:=entryFor_alias (id':="dict_keyiterator.__iter__") (by kernel_rfl) rfl (by decide +kernel) (by kernel_rfl)
theorem args_setit_iter (a:Value):argsOk "set_iterator.__iter__" ⟨[a],[]⟩:=by unfold argsOk;kernel_rfl
theorem next_eq (a:Addr)(slot given ep0:Nat):setNext a slot given ep0=(do
  let (es,epoch,t) <-setState a
  if (<-ask).params.followText "set-order" then
   if epoch != ep0 then unsupported "set_iterator.__next__:elements-changed"
   return ((<-setWalk a)[given]?).map fun e=>(e.2,slot)
  if !t.plain && es.size > 1 then unsupported "set_iterator.__next__:the-table-is-plain-no-more"
  let u:Unit <-(show Sem Unit from do if !t.led && !es.isEmpty then unsupported "set:maker-not-led")
  let i:=SetTable.below t.place slot
  return match es[i]?,t.place[i]? with
   |some (_,x),some j=>some (x,j + 1)
   |_,_=>none):=by
 unfold setNext setsByText
 simp only [bind_assoc,pure_bind]
 rfl
theorem walk_eq (a:Addr):setWalk a=(do
  let (es,epoch,t) <-setState a
  if (<-ask).params.followText "set-order" then return pickOrder ((<-ask).params.setOrder a epoch) es
  if !t.plain && es.size > 1 then return (<-drawOrder es.size es.toList).toArray
  let u:Unit <-(show Sem Unit from do if !t.led && es.size > 1 then unsupported "set:maker-not-led")
  return es):=by
 unfold setWalk setsByText
 simp only [bind_assoc,pure_bind]
 rfl
theorem drawn_eq (a:Addr):setDrawn a=(do
  let (es,_,t) <-setState a
  let byText <-(do return (<-ask).params.followText "set-order")
  return !byText && (!t.plain && es.size > 1)):=rfl
theorem erase_perm {α:Type}:∀(l:List α) (i:Nat) (h:i < l.length),(l[i] :: l.eraseIdx i).Perm l
 |a :: l,0,_=>List.Perm.refl _
 |a :: l,i + 1,h=>by
  have hi:i < l.length:=by simpa using h
  show (l[i] :: a :: l.eraseIdx i).Perm (a :: l)
  exact (List.Perm.swap ..).trans ((erase_perm l i hi).cons a)
theorem pick_perm {α:Type}(next:Nat->Nat):∀(fuel k:Nat) (left:List α) (out:Array α),left.length=fuel->(pickOrder.go next fuel k left out).toList.Perm (out.toList ++ left)
 | 0,k,left,out,h=>by
  have:left= []:=List.length_eq_zero_iff.mp h
  subst this
  unfold pickOrder.go
  simp
 |fuel + 1,k,left,out,h=>by
  unfold pickOrder.go
  have hlt:next k % left.length < left.length:=Nat.mod_lt _ (by omega)
  rw [List.getElem?_eq_getElem hlt]
  dsimp only
  refine (pick_perm next fuel (k + 1) _ _ (by rw [List.length_eraseIdx_of_lt hlt];omega)).trans ?_
  rw [Array.toList_push,List.append_assoc]
  refine List.Perm.append_left _ ?_
  exact erase_perm left _ hlt
theorem pickOrder_perm {α:Type}(next:Nat->Nat)(xs:Array α):(pickOrder next xs).toList.Perm xs.toList:=by
 have:=pick_perm next xs.size 0 xs.toList #[] (by simp)
 simpa [pickOrder] using this
section
variable {prog:Program}{w:World}{A:Around}{E:Value->Shared->Prop}{s:Shared}
def told (w:World)(S:Addr)(ep:Nat)(es:Array (Int×Value)):Array (Int×Value):=if w.params.followText "set-order" then pickOrder (w.params.setOrder S ep) es else es
theorem told_perm (w:World)(S:Addr)(ep:Nat)(es:Array (Int×Value)):(told w S ep es).toList.Perm es.toList:=by
 unfold told;split
 ·exact pickOrder_perm _ _
 ·exact List.Perm.refl _
abbrev setIt (S:Addr)(slot k n ep:Nat):Obj:={cls:=.type "set_iterator",data:=.fields #[.int (slot:Int) 0,.int (k:Int) 0,.ref S,.int (n:Int) 0,.int (ep:Int) 0]}
structure SetWalk (w:World)(S:Addr)(o:Obj)(es:Array (Int×Value))(ep:Nat)(t:SetTable)(I:Addr)(k:Nat)(h:Heap):Prop where
 set:h.get? S=some o
 data:o.data=.set es ep t
 cls:o.cls=.type "set"
 tab:Tab t (es.toList.map (·.1))
 led:t.led=ledW w
 it:∃slot,h.get? I=some (setIt S slot k es.size ep)/\(ledW w=true->slot=if k=0 then 0 else t.place.getD (k - 1) 0 + 1)
theorem SetWalk.fits {S I:Addr}{o:Obj}{es:Array (Int×Value)}{ep k:Nat}{t:SetTable}{h:Heap}(X:SetWalk w S o es ep t I k h):t.fits es.size=true:=fits_tab X.tab (by simp)
theorem next_wp {S I:Addr}{o:Obj}{es:Array (Int×Value)}{ep k slot:Nat}{t:SetTable}{Q:Option (Value×Nat)->Shared->Prop}(X:SetWalk w S o es ep t I k s.heap)(hk:k<=es.size)(hs:ledW w=true->slot=if k=0 then 0 else t.place.getD (k - 1) 0 + 1)
  (h:∀(r:Option (Value×Nat)),(k < es.size->∃x nx,r=some (x,nx)/\(told w S ep es)[k]?.map (·.2)=some x/\(ledW w=true->nx=t.place.getD k 0 + 1))->(k=es.size->r=none)->Q r s) :
  wpAny (model prog w) A (setNext S slot k ep) Q E s:=by
 rw [next_eq]
 refine wpAny_bind (wpAny_setState_of X.set X.data X.fits ?_)
 dsimp only
 refine wpAny_bind (wpAny_askSetting ?_)
 dsimp only
 cases hb:w.params.followText "set-order" with
 |true=>
  rw [if_pos (show (model prog w).w.params.followText "set-order"=true from hb)]
  simp only [bne_self_eq_false,Bool.false_eq_true,if_false]
  rw [walk_eq]
  refine wpAny_bind (wpAny_bind (wpAny_setState_of X.set X.data X.fits ?_))
  dsimp only
  refine wpAny_bind (wpAny_askSetting ?_)
  dsimp only
  rw [if_pos (show (model prog w).w.params.followText "set-order"=true from hb)]
  refine wpAny_bind (wpAny_askSetting (wpAny_pure (wpAny_pure ?_)))
  have et:told w S ep es=pickOrder (w.params.setOrder S ep) es:=by unfold told;rw [if_pos hb]
  have hsz:(pickOrder (w.params.setOrder S ep) es).size=es.size:=by
   have:=(pickOrder_perm (w.params.setOrder S ep) es).length_eq;simpa using this
  refine h _ (fun hlt=>?_) (fun e=>?_)
  ·have hlt':k < (pickOrder (w.params.setOrder S ep) es).size:=by rw [hsz];exact hlt
   refine⟨(pickOrder (w.params.setOrder S ep) es)[k].2,slot,?_,?_,fun z=>?_⟩
   ·show Option.map _ (pickOrder (w.params.setOrder S ep) es)[k]? =_
    rw [Array.getElem?_eq_getElem hlt'];rfl
   ·rw [et,Array.getElem?_eq_getElem hlt'];rfl
   ·unfold ledW at z;rw [hb] at z;cases z
  ·show Option.map _ (pickOrder (w.params.setOrder S ep) es)[k]? =_
   rw [Array.getElem?_eq_none (by rw [hsz];omega)];rfl
 |false=>
  rw [if_neg (show ¬(model prog w).w.params.followText "set-order"=true by intro z;rw [show (model prog w).w.params.followText "set-order"=false from hb] at z;cases z)]
  have hl:ledW w=true:=by unfold ledW;rw [hb];rfl
  rw [X.tab.plain,X.led,hl]
  simp only [Bool.not_true,Bool.false_and,Bool.false_eq_true,if_false]
  have et:told w S ep es=es:=by unfold told;rw [hb];simp
  have hps:t.place.size=es.size:=by simpa using X.tab.size
  have hbl:below t.place slot=k:=by
   rw [hs hl]
   obtain⟨b1,b2,b3⟩:=below_spec X.tab.rise (if k=0 then 0 else t.place.getD (k - 1) 0 + 1)
   by_cases k0:k=0
   ·subst k0
    simp only [if_true] at b1 b2 b3 ⊢
    rcases Nat.eq_zero_or_pos (below t.place 0) with z |z
    ·exact z
    ·have:=b2 0 z;omega
   ·rw [if_neg k0] at b1 b2 b3 ⊢
    have hk1:k - 1 < t.place.size:=by omega
    rcases Nat.lt_trichotomy (below t.place (t.place.getD (k - 1) 0 + 1)) k with z |z |z
    ·have q:=b3 (k - 1) (by omega) hk1
     have e:t.place.getD (k - 1) (t.place.getD (k - 1) 0 + 1)=t.place.getD (k - 1) 0:=by simp [Array.getD,hk1]
     omega
    ·exact z
    ·have hks:k < t.place.size:=by omega
     have q:=b2 k z
     have e:t.place.getD k (t.place.getD (k - 1) 0 + 1)=t.place.getD k 0:=by simp [Array.getD,hks]
     have:=rising_getD (d:=0) X.tab.rise (show k - 1 < k by omega) hks
     omega
  refine wpAny_pure ?_
  rw [hbl]
  refine h _ (fun hlt=>?_) (fun e=>?_)
  ·have hlt2:k < t.place.size:=by omega
   refine⟨es[k].2,t.place[k] + 1,?_,?_,fun _=>?_⟩
   ·rw [Array.getElem?_eq_getElem hlt,Array.getElem?_eq_getElem hlt2]
   ·rw [et,Array.getElem?_eq_getElem hlt];rfl
   ·simp [Array.getD,hlt2]
  ·rw [Array.getElem?_eq_none (by omega)]
theorem walks_set {S I:Addr}{o:Obj}{es:Array (Int×Value)}{ep:Nat}{t:SetTable}(hh:A.handled=none)(hne:S≠I) :
  Walks prog w A I [I,S] [I] es.size (fun i v=>(told w S ep es)[i]?.map (·.2)=some v) (fun i h=>SetWalk w S o es ep t I i h) where
 sub:=fun b hb=>List.mem_cons.mpr (.inl (List.mem_singleton.mp hb))
 frame:=fun i h h' X k=>by
  obtain⟨slot,e,r⟩:=X.it
  exact⟨k S (by simp) _ X.set,X.data,X.cls,X.tab,X.led,slot,k I (by simp) _ e,r⟩
 item:=fun i s Q E hi X hQ=>by
  obtain⟨slot,e,r⟩:=X.it
  have hT:s.TypeIs (.ref I) "set_iterator":=⟨_,e,rfl⟩
  unfold pyNext
  refine wpAny_bind (wpAny_attempt (wpAny_callSpecial?_slot (name:=Str.ofString "__next__") hT slot_setit_next (wpAny_call_entry slot_setit_next hT entry_setit_next ?_ (args_setit_next _))))
  unfold Builtin.«set_iterator.__next__»
  refine wpAny_bind (m:=slotArgs "__next__" 0 _) (wpAny_pure ?_)
  dsimp only
  unfold fieldsOf
  refine wpAny_bind (wpAny_bind (wpAny_load e (wpAny_pure ?_)))
  dsimp only
  unfold setEntries
  refine wpAny_bind (wpAny_bind (wpAny_setState_of X.set X.data X.fits (wpAny_pure ?_)))
  dsimp only
  rw [if_neg (by simp)]
  refine wpAny_bind ?_
  simp only [Int.toNat_natCast]
  refine next_wp X (Nat.le_of_lt hi) r fun rr h1 _=>?_
  obtain⟨x,nx,rfl,h2,h3⟩:=h1 hi
  dsimp only
  refine wpAny_bind (wpAny_setField e rfl (by simp) ?_)
  have e2:=Heap.get?_update_self (Obj.mapFields fun vs=>vs.setIfInBounds 0 (rawInt (nx:Int))) e rfl
  refine wpAny_bind (wpAny_setField e2 rfl (by simp) ?_)
  refine wpAny_pure ⟨x,rfl,wpAny_pure ?_⟩
  have sb:=(Heap.SameBut.update s.heap I (Obj.mapFields fun vs=>vs.setIfInBounds 0 (rawInt (nx:Int)))).trans (Heap.SameBut.update _ I (Obj.mapFields fun vs=>vs.setIfInBounds 1 (rawInt ((i:Int) + 1))))
  refine hQ x _ _ h2 ⟨(sb.2 S hne).trans X.set,X.data,X.cls,X.tab,X.led,nx,?_,fun z=>?_⟩ fun b o hb eb=>(sb.2 b (by simpa using hb)).trans eb
  ·exact Heap.get?_update_self (Obj.mapFields fun vs=>vs.setIfInBounds 1 (rawInt ((i:Int) + 1))) e2 rfl
  ·rw [if_neg (by omega)];exact h3 z
 done:=fun s Q E X hQ=>by
  obtain⟨slot,e,r⟩:=X.it
  have hT:s.TypeIs (.ref I) "set_iterator":=⟨_,e,rfl⟩
  unfold pyNext
  refine wpAny_bind (wpAny_attempt (wpAny_callSpecial?_slot (name:=Str.ofString "__next__") hT slot_setit_next (wpAny_call_entry slot_setit_next hT entry_setit_next ?_ (args_setit_next _))))
  unfold Builtin.«set_iterator.__next__»
  refine wpAny_bind (m:=slotArgs "__next__" 0 _) (wpAny_pure ?_)
  dsimp only
  unfold fieldsOf
  refine wpAny_bind (wpAny_bind (wpAny_load e (wpAny_pure ?_)))
  dsimp only
  unfold setEntries
  refine wpAny_bind (wpAny_bind (wpAny_setState_of X.set X.data X.fits (wpAny_pure ?_)))
  dsimp only
  rw [if_neg (by simp)]
  refine wpAny_bind ?_
  simp only [Int.toNat_natCast]
  refine next_wp X (Nat.le_refl _) r fun rr _ h1=>?_
  rw [h1 rfl]
  dsimp only
  refine wpAny_bind (wpAny_setField e rfl (by simp) ?_)
  (show wpAny _ _ (newExc (.type "StopIteration") [] >>= fun x=>raiseNew x) _ _ _)
  refine wpAny_bind ?_
  simp only [newExc,newTuple]
  (refine wpAny_bind (wpAny_newObj_type ?_ (by size_fits)))
  (refine wpAny_bind (m:=firstArgMember _ _) (wpAny_of_eq (a:=Value.none) (by first |rfl | (simp only [firstArgMember];rfl)) ?_))
  (refine wpAny_newObj_type ?_ (by size_fits))
  simp only [raiseNew]
  refine wpAny_bind (wpAny_handled ?_)
  (rw [show A.in1.handled=none from hh])
  refine wpAny_bind (wpAny_pure (wpAny_throw ?_))
  refine wpAny_bind (wpAny_isInstance (T:="StopIteration") (b:=true) ⟨_,Heap.get?_push_size _ rfl,rfl⟩ isSubtype_stop (wpAny_pure (hQ _ _ fun b o hb eb=>?_)))
  exact Heap.get?_push_of_some _ (Heap.get?_push_of_some _ (((Heap.SameBut.update ..).2 b (by simpa using hb)).trans eb))
 self:=fun i s Q E X hQ=>by
  obtain⟨slot,e,r⟩:=X.it
  have hT:s.TypeIs (.ref I) "set_iterator":=⟨_,e,rfl⟩
  refine wpAny_pyIter_slot hT slot_setit_iter (wpAny_call_entry slot_setit_iter hT entry_setit_iter ?_ (args_setit_iter _))
  show wpAny _ _ (ret (.ref I)) _ _ s
  exact wpAny_pure ⟨_,rfl,"set_iterator",_,hT,slot_setit_next.lookup,hQ⟩
theorem iter_set {S:Addr}{o:Obj}{es:Array (Int×Value)}{ep:Nat}{t:SetTable}{Q:Value->Shared->Prop}(ho:s.heap.get? S=some o)(hd:o.data=.set es ep t)(hc:o.cls=.type "set")(T:Tab t (es.toList.map (·.1)))(hl:t.led=ledW w)
  (h:Q (.ref s.heap.objs.size) {s with heap:=s.heap.push (setIt S 0 0 es.size ep)}):wpAny (model prog w) A (pyIter (.ref S)) Q E s:=by
 have hT:s.TypeIs (.ref S) "set":=⟨o,ho,hc⟩
 have hf:t.fits es.size=true:=fits_tab T (by simp)
 refine wpAny_pyIter_slot hT F.slot_set_iter (wpAny_call_entry F.slot_set_iter hT entry_set_iter ?_ (F.args_set_iter_1 _))
 unfold Builtin.«frozenset.__iter__» Builtin.Frozenset.slot0
 refine wpAny_bind (wpAny_bind (m:=slotArgs "__iter__" 0 _) (wpAny_pure (wpAny_pure ?_)))
 unfold Builtin.Frozenset.sizeOf setEntries
 refine wpAny_bind (wpAny_bind (wpAny_bind (wpAny_setState_of ho hd hf (wpAny_pure (wpAny_pure ?_)))))
 rw [drawn_eq]
 refine wpAny_bind (wpAny_bind (wpAny_setState_of ho hd hf ?_))
 dsimp only
 refine wpAny_bind (wpAny_bind (wpAny_askSetting (wpAny_pure (wpAny_pure ?_))))
 rw [T.plain]
 simp only [Bool.not_true,Bool.false_and,Bool.and_false,Bool.false_eq_true,if_false]
 refine wpAny_bind (wpAny_pure ?_)
 unfold setEpoch
 refine wpAny_bind (wpAny_bind (wpAny_setState_of ho hd hf (wpAny_pure ?_)))
 refine wpAny_bind (wpAny_newObj_type (wpAny_pure ⟨_,rfl,"set_iterator",_,⟨_,Heap.get?_push_size _ rfl,rfl⟩,slot_setit_next.lookup,h⟩))
theorem collect_set {S:Addr}{o:Obj}{es:Array (Int×Value)}{ep:Nat}{t:SetTable}{Q:List Value->Shared->Prop}(hh:A.handled=none)(ho:s.heap.get? S=some o)(hd:o.data=.set es ep t)(hc:o.cls=.type "set")(T:Tab t (es.toList.map (·.1)))(hl:t.led=ledW w)
  (hn:es.size<=64) (h:∀h' tk vs,vs=(told w S ep es).toList.map (·.2)->(∀b o,s.heap.get? b=some o->h'.get? b=some o)->Q vs {s with heap:=h',toks:=tk}):wpAny (model prog w) A (collect (.ref S)) Q E s:=by
 have hz:es.size<=sizeLine:=by rw [sizeLine_eq];omega
 unfold collect
 (refine wpAny_bind (wpAny_runValue (codeAny_builtin F.entry_proto_collect ?_)))
 (rw [Around.under_plainId F.plain_proto_collect _])
 show wpAny _ A.in1 (newList [] >>= fun l=>again (.builtin "list.__iadd__" ⟨[l,.ref S],[]⟩)) _ _ s
 refine wpAny_bind (wpAny_newObj_type ?_)
 (refine wpAny_pure ⟨plainId_quiet F.plain_list_iadd _,codeAny_builtin F.entry_list_iadd ?_⟩)
 (rw [Around.under_plainId F.plain_list_iadd _])
 show wpAny _ A.in1 (Builtin.List.listExtendWith (.ref s.heap.objs.size) (.ref S) (.ref s.heap.objs.size)) _ _ {s with heap:=s.heap.push (seqObj "list" #[] 0)}
 generalize hH:s.heap.push (seqObj "list" #[] 0)=H1
 have kp1:∀b o,s.heap.get? b=some o->H1.get? b=some o:=fun b o e=>by rw [<-hH];exact Heap.get?_push_of_some _ e
 have hD:H1.get? s.heap.objs.size=some (seqObj "list" #[] 0):=by rw [<-hH];exact Heap.get?_push_size _ rfl
 have hHs:H1.objs.size=s.heap.objs.size + 1:=by rw [<-hH];exact Heap.size_push ..
 have hSD:S≠s.heap.objs.size:=Nat.ne_of_lt (Heap.lt_size ho)
 have hT:Shared.TypeIs {s with heap:=H1} (.ref S) "set":=⟨o,kp1 _ _ ho,hc⟩
 unfold Builtin.List.listExtendWith
 refine wpAny_bind (wpAny_typeOf hT ?_)
 have h1:Builtin.List.listSameRef (.ref s.heap.objs.size) (.ref S)=false:=by simp [Builtin.List.listSameRef,Ne.symm hSD]
 have h2:(Value.type "set" == Value.type "list")=false:=by decide
 have h3:(Value.type "set" == Value.type "tuple")=false:=by decide
 rw [h1,h2,h3]
 simp only [Bool.or_false,Bool.false_eq_true,if_false]
 refine wpAny_bind (iter_set (s:={s with heap:=H1}) (kp1 _ _ ho) hd hc T hl ?_)
 refine wpAny_bind (wpAny_holding ?_)
 unfold Builtin.List.listLengthHint
 have hT2:Shared.TypeIs {s with heap:=H1.push (setIt S 0 0 es.size ep)} (.ref S) "set":=⟨o,Heap.get?_push_of_some _ (kp1 _ _ ho),hc⟩
 refine wpAny_bind (wpAny_specialOf hT2 F.slot_set_len.lookup ?_)
 wp_delta
 refine wpAny_bind (wpAny_isInstance hT2 (b:=true) (by rw [isSubtype_type];kernel_rfl) ?_)
 show wpAny _ A.in1 (typeOf (Value.ref S) >>= fun _=>_) _ _ _
 refine wpAny_bind (wpAny_typeOf hT2 ?_)
 refine wpAny_pure ?_
 show wpAny _ A.in1 (rule "list.extend.makes-room" >>= fun _=>Builtin.List.listTouch (.ref s.heap.objs.size) >>= fun _=>again (.builtin "list.extend.loop" ⟨[.ref s.heap.objs.size,.ref H1.objs.size,.ref s.heap.objs.size],[]⟩)) _ _ _
 refine wpAny_bind (wpAny_rule (wpAny_bind ?_))
 generalize hH2:H1.push (setIt S 0 0 es.size ep)=H2
 have kp2:∀b o,H1.get? b=some o->H2.get? b=some o:=fun b o e=>by rw [<-hH2];exact Heap.get?_push_of_some _ e
 have hI:H2.get? H1.objs.size=some (setIt S 0 0 es.size ep):=by rw [<-hH2];exact Heap.get?_push_size _ rfl
 have hS0:=kp2 _ _ hD
 show wpAny _ A.in1 (updateSeq s.heap.objs.size (·.push .none) >>= fun _=>updateSeq s.heap.objs.size (·.pop)) _ _ _
 refine wpAny_bind (wpAny_updateSeq (s:={s with heap:=H2}) hS0 rfl ?_)
 have hS2:=Heap.get?_update_self (Obj.mapSeq (·.push Value.none)) hS0 rfl
 refine wpAny_updateSeq (hz:=by seq_fits) hS2 rfl ?_
 have hS3:=Heap.get?_update_self (Obj.mapSeq (·.pop)) hS2 rfl
 have oth:∀b o,b≠s.heap.objs.size->H2.get? b=some o->((H2.update s.heap.objs.size (Obj.mapSeq (·.push Value.none))).update s.heap.objs.size (Obj.mapSeq (·.pop))).get? b=some o:=fun b o hb e=>
  ((Heap.SameBut.update _ s.heap.objs.size (Obj.mapSeq (·.pop))).2 b hb).trans (((Heap.SameBut.update H2 s.heap.objs.size (Obj.mapSeq (·.push Value.none))).2 b hb).trans e)
 have hIS:S≠H1.objs.size:=by rw [hHs];exact Nat.ne_of_lt (Nat.lt_succ_of_lt (Heap.lt_size ho))
 have hID:H1.objs.size≠s.heap.objs.size:=by rw [hHs];exact Nat.succ_ne_self _
 have hDf:s.heap.objs.size∉ [H1.objs.size,S]:=fun z=>by
  rcases List.mem_cons.mp z with e |z
  ·exact hID e.symm
  ·exact hSD (List.mem_singleton.mp z).symm
 have X0:SetWalk w S o es ep t H1.objs.size 0 ((H2.update s.heap.objs.size (Obj.mapSeq (·.push Value.none))).update s.heap.objs.size (Obj.mapSeq (·.pop))):=
  ⟨oth _ _ hSD (kp2 _ _ (kp1 _ _ ho)),hd,hc,T,hl,0,oth _ _ hID hI,fun _=>rfl⟩
 refine wpAny_pure ⟨plainId_quiet F.plain_extend_loop _,codeAny_extend_loopS (walks_set (A:=A.in1) (o:=o) (t:=t) hh hIS).toS hz _ hDf _ es.size 0 _ _ _ rfl (Nat.zero_le _) X0 hS3 (ItemsOf.nil _) fun s' acc' c' hm hS' hacc=>?_⟩
 show wpAny _ A (load s.heap.objs.size >>= fun _=>_) _ _ s'
 refine wpAny_bind (wpAny_load hS' (wpAny_pure ?_))
 obtain⟨h',g',d',tk',os'⟩:=s'
 have eg:g'=s.gens:=hm.gens
 have ed:d'=s.drawn:=hm.drawn
 have eo:os'=s.os:=hm.os
 subst eg ed eo
 refine h h' tk' acc'.toList ?_ fun b ob e=>hm.heap b ob (fun hb=>?_) (oth b ob (Nat.ne_of_lt (Heap.lt_size e)) (kp2 _ _ (kp1 _ _ e)))
 ·have hts:(told w S ep es).size=es.size:=by have:=(told_perm w S ep es).length_eq;simpa using this
  apply List.ext_getElem?
  intro i
  rw [List.getElem?_map]
  by_cases hi:i < es.size
  ·have hi1:i < acc'.size:=by rw [hacc.1];exact hi
   have q:=hacc.2 i acc'[i] (Array.getElem?_eq_getElem hi1)
   rw [Array.getElem?_toList,Array.getElem?_toList,Array.getElem?_eq_getElem hi1]
   exact q.symm
  ·rw [Array.getElem?_toList,Array.getElem?_toList,Array.getElem?_eq_none (by rw [hacc.1];omega),Array.getElem?_eq_none (by omega)];rfl
 ·have hlt:=Heap.lt_size e
  rcases List.mem_cons.mp hb with z |z
  ·rw [z] at hlt;exact Nat.lt_irrefl _ hlt
  ·rw [List.mem_singleton.mp z,hHs] at hlt;exact absurd hlt (Nat.not_lt.mpr (Nat.le_succ _))
end
end L2.ST

end

section
namespace OM
abbrev Pr:=Int×Int
def plt (p q:Pr):Prop:=p.1 < q.1\/(p.1=q.1/\p.2 < q.2)
theorem plt_irrefl (p:Pr):¬plt p p:=by unfold plt;omega
theorem plt_trans {p q r:Pr}(a:plt p q)(b:plt q r):plt p r:=by unfold plt at *;omega
abbrev Ris (l:List Pr):Prop:=l.Pairwise plt
theorem ris_ext:∀{l m:List Pr},Ris l->Ris m->(∀x,x∈l↔x∈m)->l=m
 | [],[],_,_,_=>rfl
 | [],b :: m,_,_,h=>absurd ((h b).mpr (List.mem_cons_self ..)) (by simp)
 |a :: l,[],_,_,h=>absurd ((h a).mp (List.mem_cons_self ..)) (by simp)
 |a :: l,b :: m,hl,hm,h=>by
  have hl':=List.pairwise_cons.mp hl
  have hm':=List.pairwise_cons.mp hm
  have e:a=b:=by
   rcases List.mem_cons.mp ((h a).mp (List.mem_cons_self ..)) with e |e
   ·exact e
   ·rcases List.mem_cons.mp ((h b).mpr (List.mem_cons_self ..)) with e' |e'
    ·exact e'.symm
    ·exact absurd (plt_trans (hm'.1 a e) (hl'.1 b e')) (plt_irrefl _)
  subst e
  congr 1
  refine ris_ext hl'.2 hm'.2 fun x=>⟨fun hx=>?_,fun hx=>?_⟩
  ·rcases List.mem_cons.mp ((h x).mp (List.mem_cons_of_mem _ hx)) with e |e
   ·subst e;exact absurd (hl'.1 x hx) (plt_irrefl _)
   ·exact e
  ·rcases List.mem_cons.mp ((h x).mpr (List.mem_cons_of_mem _ hx)) with e |e
   ·subst e;exact absurd (hm'.1 x hx) (plt_irrefl _)
   ·exact e
theorem ris_nodup {l:List Pr}(h:Ris l):l.Nodup:=h.imp fun {a b} hab e=>by subst e;exact plt_irrefl _ hab
theorem ris_filter {l:List Pr}(p:Pr->Bool)(h:Ris l):Ris (l.filter p):=h.sublist List.filter_sublist
def grid (n:Nat):List Pr:=(List.range (n * n)).map fun k=>(((k / n:Nat):Int),((k % n:Nat):Int))
theorem mem_grid {n:Nat}{p:Pr}:p∈grid n↔(0<=p.1/\p.1 < n)/\(0<=p.2/\p.2 < n):=by
 unfold grid
 rw [List.mem_map]
 constructor
 ·rintro⟨k,hk,rfl⟩
  have hk:=List.mem_range.mp hk
  have hn:0 < n:=by
   rcases Nat.eq_zero_or_pos n with e |e
   ·subst e;omega
   ·exact e
  have h1:k / n < n:=Nat.div_lt_of_lt_mul hk
  have h2:k % n < n:=Nat.mod_lt _ hn
  generalize k / n=q at h1
  generalize k % n=r at h2
  exact⟨⟨Int.natCast_nonneg _,by dsimp only;omega⟩,⟨Int.natCast_nonneg _,by dsimp only;omega⟩⟩
 ·rintro⟨⟨a0,a1⟩,⟨b0,b1⟩⟩
  have hn:0 < n:=by omega
  refine⟨p.1.toNat * n + p.2.toNat,List.mem_range.mpr ?_,?_⟩
  ·have h1:p.1.toNat + 1<=n:=by omega
   have h2:p.2.toNat < n:=by omega
   have:=Nat.mul_le_mul_right n h1
   rw [Nat.add_mul] at this
   omega
  ·have h2:p.2.toNat < n:=by omega
   have e1:(p.1.toNat * n + p.2.toNat) / n=p.1.toNat:=by
    rw [Nat.mul_comm,Nat.mul_add_div hn,Nat.div_eq_of_lt h2];rfl
   have e2:(p.1.toNat * n + p.2.toNat) % n=p.2.toNat:=by
    rw [Nat.mul_comm,Nat.mul_add_mod,Nat.mod_eq_of_lt h2]
   rw [e1,e2]
   refine Prod.ext ?_ ?_ <;> dsimp only <;> omega
theorem ris_grid (n:Nat):Ris (grid n):=by
 unfold grid
 refine List.pairwise_map.mpr (List.Pairwise.imp_of_mem ?_ List.pairwise_lt_range)
 intro a b ha hb hab
 have ha:=List.mem_range.mp ha
 have hb:=List.mem_range.mp hb
 have hn:0 < n:=by
  rcases Nat.eq_zero_or_pos n with e |e
  ·subst e;omega
  ·exact e
 have h1:a / n<=b / n:=Nat.div_le_div_right (Nat.le_of_lt hab)
 have e1:=Nat.div_add_mod a n
 have e2:=Nat.div_add_mod b n
 unfold plt
 dsimp only
 rcases Nat.lt_or_ge (a / n) (b / n) with c |c
 ·left;omega
 ·right
  have e:a / n=b / n:=by omega
  rw [e] at e1
  omega
open Classical in
noncomputable def filt (n:Nat)(R:Int->Int->Prop):List Pr:=(grid n).filter fun p=>decide (R p.1 p.2)
theorem mem_filt {n:Nat}{R:Int->Int->Prop}{p:Pr}:p∈filt n R↔((0<=p.1/\p.1 < n)/\(0<=p.2/\p.2 < n))/\R p.1 p.2:=by
 unfold filt
 rw [List.mem_filter,mem_grid]
 simp
theorem ris_filt (n:Nat)(R:Int->Int->Prop):Ris (filt n R):=ris_filter _ (ris_grid n)
theorem filt_congr {n:Nat}{R S:Int->Int->Prop}(h:∀a b:Int,0<=a->a < n->0<=b->b < n->(R a b↔S a b)):filt n R=filt n S:=by
 refine ris_ext (ris_filt n R) (ris_filt n S) fun x=>?_
 rw [mem_filt,mem_filt]
 constructor
 ·rintro⟨⟨⟨a,b⟩,c,d⟩,r⟩;exact⟨⟨⟨a,b⟩,c,d⟩,(h _ _ a b c d).mp r⟩
 ·rintro⟨⟨⟨a,b⟩,c,d⟩,r⟩;exact⟨⟨⟨a,b⟩,c,d⟩,(h _ _ a b c d).mpr r⟩
def Wn (n:Nat)(l:List Pr):Prop:=∀p,p∈l->(0<=p.1/\p.1 < n)/\(0<=p.2/\p.2 < n)
abbrev Mem (l:List Pr)(a b:Int):Prop:=(a,b)∈l
theorem filt_self {n:Nat}{l:List Pr}(w:Wn n l)(r:Ris l):filt n (Mem l)=l:=by
 refine ris_ext (ris_filt n _) r fun x=>?_
 rw [mem_filt]
 exact⟨fun h=>h.2,fun h=>⟨w x h,h⟩⟩
theorem filt_wn (n:Nat)(R:Int->Int->Prop):Wn n (filt n R):=fun _ h=>(mem_filt.mp h).1
theorem filt_len (n:Nat)(R:Int->Int->Prop):(filt n R).length<=n * n:=by
 unfold filt
 refine Nat.le_trans (List.length_filter_le ..) ?_
 unfold grid;simp
inductive Tr (R:Int->Int->Prop):Int->Int->Prop
 |one {a b}:R a b->Tr R a b
 |more {a b c}:R a b->Tr R b c->Tr R a c
theorem Tr.trans {R:Int->Int->Prop}{a b c:Int}(h:Tr R a b)(k:Tr R b c):Tr R a c:=by
 induction h with
 |one r=>exact .more r k
 |more r _ ih=>exact .more r (ih k)
theorem Tr.least {R S:Int->Int->Prop}(f:∀a b,R a b->S a b)(t:∀a b c,S a b->S b c->S a c){a b:Int}(h:Tr R a b):S a b:=by
 induction h with
 |one r=>exact f _ _ r
 |more r _ ih=>exact t _ _ _ (f _ _ r) ih
structure Ord (n:Nat)(l:List Pr):Prop where
 lo:1<=n
 hi:n<=8
 wn:Wn n l
 ris:Ris l
 irr:∀a,(a,a)∉l
 tr:∀a b c,(a,b)∈l->(b,c)∈l->(a,c)∈l
theorem Ord.tr_mem {n:Nat}{l:List Pr}(O:Ord n l){a b:Int}:Tr (Mem l) a b↔(a,b)∈l:=
 ⟨fun h=>h.least (fun _ _ r=>r) fun a b c=>O.tr a b c,fun h=>.one h⟩
theorem Ord.closed {n:Nat}{l:List Pr}(O:Ord n l):filt n (Tr (Mem l))=l:=by
 rw [filt_congr (S:=Mem l) fun a b _ _ _ _=>O.tr_mem,filt_self O.wn O.ris]
theorem ord_of {n:Nat}{l:List Pr}(h1:1<=n)(h8:n<=8)(w:Wn n l)(hr:∀a,¬Tr (Mem l) a a):Ord n (filt n (Tr (Mem l))):=
 ⟨h1,h8,filt_wn n _,ris_filt n _,fun a h=>hr a (mem_filt.mp h).2,fun a b c h k=>mem_filt.mpr ⟨⟨(mem_filt.mp h).1.1,(mem_filt.mp k).1.2⟩,(mem_filt.mp h).2.trans (mem_filt.mp k).2⟩⟩
theorem len_le {l m:List Pr}(hl:l.Nodup)(h:∀x,x∈l->x∈m):l.length<=m.length:=by
 induction l generalizing m with
 |nil=>exact Nat.zero_le _
 |cons a l ih=>
  have ha:=h a (List.mem_cons_self ..)
  have hl':=List.nodup_cons.mp hl
  have:=ih (m:=m.erase a) hl'.2 fun x hx=>by
   refine (List.mem_erase_of_ne ?_).mpr (h x (List.mem_cons_of_mem _ hx))
   rintro rfl;exact hl'.1 hx
  rw [List.length_erase_of_mem ha] at this
  have:0 < m.length:=List.length_pos_of_mem ha
  simp only [List.length_cons];omega
theorem sub_eq {l m:List Pr}(hl:Ris l)(hm:Ris m)(h:∀x,x∈l->x∈m)(e:l.length=m.length):l=m:=by
 refine ris_ext hl hm fun x=>⟨h x,fun hx=>Classical.byContradiction fun hn=>?_⟩
 have:=len_le (l:=x :: l) (m:=m) (List.nodup_cons.mpr ⟨hn,ris_nodup hl⟩) fun y hy=>by
  rcases List.mem_cons.mp hy with e |e
  ·subst e;exact hx
  ·exact h y e
 simp only [List.length_cons] at this
 omega
def more (l:List Pr):List Pr:=l.flatMap fun p=>(l.filter fun q=>decide (q.1=p.2)).map fun q=>(p.1,q.2)
theorem mem_more {l:List Pr}{x:Pr}:x∈more l↔∃b,(x.1,b)∈l/\(b,x.2)∈l:=by
 unfold more
 rw [List.mem_flatMap]
 constructor
 ·rintro⟨p,hp,hx⟩
  obtain⟨q,hq,rfl⟩:=List.mem_map.mp hx
  obtain⟨hq,e⟩:=List.mem_filter.mp hq
  have e:q.1=p.2:=by simpa using e
  exact⟨p.2,hp,by rw [<-e];exact hq⟩
 ·rintro⟨b,h1,h2⟩
  exact⟨(x.1,b),h1,List.mem_map.mpr ⟨(b,x.2),List.mem_filter.mpr ⟨h2,by simp⟩,rfl⟩⟩
noncomputable def stepC (n:Nat)(l:List Pr):List Pr:=filt n (Mem (l ++ more l))
structure Btw (n:Nat)(ps l:List Pr):Prop where
 wn:Wn n l
 ris:Ris l
 sub:∀x,x∈ps->x∈l
 sup:∀x,x∈l->Tr (Mem ps) x.1 x.2
theorem btw_start {n:Nat}{ps:List Pr}(w:Wn n ps):Btw n ps (filt n (Mem ps)):=
 ⟨filt_wn n _,ris_filt n _,fun x hx=>mem_filt.mpr ⟨w x hx,hx⟩,fun _ hx=>.one (mem_filt.mp hx).2⟩
theorem btw_more {n:Nat}{ps l:List Pr}(B:Btw n ps l):Wn n (l ++ more l):=fun x hx=>by
 rcases List.mem_append.mp hx with h |h
 ·exact B.wn x h
 ·obtain⟨b,h1,h2⟩:=mem_more.mp h
  exact⟨(B.wn _ h1).1,(B.wn _ h2).2⟩
theorem btw_step {n:Nat}{ps l:List Pr}(B:Btw n ps l):Btw n ps (stepC n l)/\∀x,x∈l->x∈stepC n l:=by
 have hs:∀x,x∈l->x∈stepC n l:=fun x hx=>mem_filt.mpr ⟨B.wn x hx,List.mem_append_left _ hx⟩
 refine⟨⟨filt_wn n _,ris_filt n _,fun x hx=>hs x (B.sub x hx),fun x hx=>?_⟩,hs⟩
 rcases List.mem_append.mp (mem_filt.mp hx).2 with h |h
 ·exact B.sup _ h
 ·obtain⟨b,h1,h2⟩:=mem_more.mp h
  exact (B.sup _ h1).trans (B.sup _ h2)
theorem btw_done {n:Nat}{ps l:List Pr}(B:Btw n ps l)(e:(stepC n l).length=l.length):stepC n l=filt n (Tr (Mem ps)):=by
 obtain⟨B2,hs⟩:=btw_step B
 have q:l=stepC n l:=sub_eq B.ris B2.ris hs e.symm
 refine ris_ext B2.ris (ris_filt n _) fun x=>⟨fun h=>mem_filt.mpr ⟨B2.wn x h,B2.sup x h⟩,fun h=>?_⟩
 rw [<-q]
 have tr:∀a b c:Int,(a,b)∈l->(b,c)∈l->(a,c)∈l:=fun a b c h1 h2=>by
  rw [q]
  exact mem_filt.mpr ⟨⟨(B.wn _ h1).1,(B.wn _ h2).2⟩,List.mem_append_right _ (mem_more.mpr ⟨b,h1,h2⟩)⟩
 exact (mem_filt.mp h).2.least (S:=Mem l) (fun a b r=>B.sub _ r) tr
abbrev Tb:=Nat->Nat->Bool
def Tb.set (M:Tb)(a b:Nat):Tb:=fun x y=>if x=a/\y=b then true else M x y
def Thru (M:Tb)(m:Nat):Prop:=∀k a b,k < m->M a k=true->M k b=true->M a b=true
def Phase (M0 M:Tb)(m:Nat)(D:Nat->Nat->Prop):Prop:=∀a b,M a b=true↔M0 a b=true\/(D a b/\M0 a m=true/\M0 m b=true)
theorem Phase.start (M:Tb)(m:Nat):Phase M M m fun _ _=>False:=fun a b=>by simp
theorem Phase.row {M0 M:Tb}{m:Nat}{D:Nat->Nat->Prop}(P:Phase M0 M m D)(a:Nat):M a m=true↔M0 a m=true:=by
 rw [P]
 exact⟨fun h=>h.elim id fun h=>h.2.1,.inl⟩
theorem Phase.col {M0 M:Tb}{m:Nat}{D:Nat->Nat->Prop}(P:Phase M0 M m D)(b:Nat):M m b=true↔M0 m b=true:=by
 rw [P]
 exact⟨fun h=>h.elim id fun h=>h.2.2,.inl⟩
theorem Phase.step {M0 M:Tb}{m:Nat}{D:Nat->Nat->Prop}(P:Phase M0 M m D)(x y:Nat) :
  Phase M0 (if M x m=true/\M m y=true then M.set x y else M) m (fun a b=>D a b\/(a=x/\b=y)):=fun a b=>by
 have r:=P.row x
 have c:=P.col y
 by_cases h:M x m=true/\M m y=true
 ·rw [if_pos h]
  unfold Tb.set
  by_cases e:a=x/\b=y
  ·rw [if_pos e]
   obtain⟨rfl,rfl⟩:=e
   simp only [true_iff]
   exact .inr ⟨.inr (by simp),r.mp h.1,c.mp h.2⟩
  ·rw [if_neg e,P]
   constructor
   ·rintro (q | ⟨d,q⟩)
    ·exact .inl q
    ·exact .inr ⟨.inl d,q⟩
   ·rintro (q | ⟨d |d,q⟩)
    ·exact .inl q
    ·exact .inr ⟨d,q⟩
    ·exact absurd d e
 ·rw [if_neg h,P]
  constructor
  ·rintro (q | ⟨d,q⟩)
   ·exact .inl q
   ·exact .inr ⟨.inl d,q⟩
  ·rintro (q | ⟨d | ⟨rfl,rfl⟩,q1,q2⟩)
   ·exact .inl q
   ·exact .inr ⟨d,q1,q2⟩
   ·exact absurd ⟨r.mpr q1,c.mpr q2⟩ h
theorem Phase.done {M0 M:Tb}{m n:Nat}{D:Nat->Nat->Prop}(P:Phase M0 M m D)(hD:∀a b,a < n->b < n->D a b)(hM:∀a b,M0 a b=true->a < n/\b < n)(T:Thru M0 m) :
  Thru M (m + 1)/\∀a b,M a b=true->a < n/\b < n:=by
 have hM':∀a b,M a b=true->a < n/\b < n:=fun a b h=>by
  rcases (P a b).mp h with q | ⟨_,q1,q2⟩
  ·exact hM a b q
  ·exact⟨(hM _ _ q1).1,(hM _ _ q2).2⟩
 have put:∀a b,M0 a m=true->M0 m b=true->M a b=true:=fun a b h1 h2=>(P a b).mpr (.inr ⟨hD a b (hM _ _ h1).1 (hM _ _ h2).2,h1,h2⟩)
 refine⟨fun k a b hk h1 h2=>?_,hM'⟩
 rcases Nat.lt_or_ge k m with c |c
 ·rcases (P a k).mp h1 with q1 | ⟨_,q1,q1'⟩
  ·rcases (P k b).mp h2 with q2 | ⟨_,q2,q2'⟩
   ·exact (P a b).mpr (.inl (T k a b c q1 q2))
   ·exact put a b (T k a m c q1 q2) q2'
  ·rcases (P k b).mp h2 with q2 | ⟨_,q2,q2'⟩
   ·exact put a b q1 (T k m b c q1' q2)
   ·exact put a b q1 q2'
 ·have e:k=m:=by omega
  subst e
  exact put a b ((P.row a).mp h1) ((P.col b).mp h2)
structure Tab (n:Nat)(ps:List Pr)(M:Tb):Prop where
 inn:∀a b,M a b=true->a < n/\b < n
 sub:∀a b:Nat,((a:Int),(b:Int))∈ps->M a b=true
 sup:∀a b:Nat,M a b=true->Tr (Mem ps) a b
theorem Tab.phase {n:Nat}{ps:List Pr}{M0 M:Tb}{m:Nat}{D:Nat->Nat->Prop}(T:Tab n ps M0)(P:Phase M0 M m D):Tab n ps M:=
 ⟨fun a b h=>by
  rcases (P a b).mp h with q | ⟨_,q1,q2⟩
  ·exact T.inn a b q
  ·exact⟨(T.inn _ _ q1).1,(T.inn _ _ q2).2⟩,
  fun a b h=>(P a b).mpr (.inl (T.sub a b h)),
  fun a b h=>by
  rcases (P a b).mp h with q | ⟨_,q1,q2⟩
  ·exact T.sup a b q
  ·exact (T.sup _ _ q1).trans (T.sup _ _ q2)⟩
theorem Tab.all {n:Nat}{ps:List Pr}{M:Tb}(w:Wn n ps)(T:Tab n ps M)(H:Thru M n)(a b:Nat):M a b=true↔Tr (Mem ps) a b:=by
 refine⟨T.sup a b,fun h=>?_⟩
 have key:∀{x y:Int},Tr (Mem ps) x y->M x.toNat y.toNat=true:=fun {x y} h=>by
  induction h with
  | @one x y r=>
   have:=w _ r
   refine T.sub _ _ ?_
   have e1:((x.toNat:Nat):Int)=x:=by simp only at this;omega
   have e2:((y.toNat:Nat):Int)=y:=by simp only at this;omega
   rw [e1,e2];exact r
  | @more x y z r _ ih=>
   have:=w _ r
   have e1:((x.toNat:Nat):Int)=x:=by simp only at this;omega
   have e2:((y.toNat:Nat):Int)=y:=by simp only at this;omega
   have q:M x.toNat y.toNat=true:=T.sub _ _ (by rw [e1,e2];exact r)
   exact H y.toNat _ _ (T.inn _ _ q).2 q ih
 have:=key h
 simpa using this
end OM

end

section
namespace L2.ST
open PySem PySem.SetTable PySem.W PyProof.Rows
section
variable {prog:Program}{w:World}{A:Around}{E:Value->Shared->Prop}{s:Shared}
theorem up_ris {ps:List Pr}(hs:∀p,p∈ps->Sm p){ix:Array Nat}(P:L2.SO.Pm ps.length ix)(U:L2.SO.Up (keyP ps) ix ps.length):OM.Ris (ix.toList.map fun i=>ps.getD i (0,0)):=by
 refine List.pairwise_map.mpr (List.pairwise_iff_getElem.mpr fun i j hi hj hij=>?_)
 have hi':i < ix.size:=by simpa using hi
 have hj':j < ix.size:=by simpa using hj
 have q:=U i j hij (by rw [<-P.sz];exact hj')
 unfold L2.SO.Kp keyP at q
 have ei:ix.getD i 0=ix.toList[i]:=by simp [Array.getD,hi']
 have ej:ix.getD j 0=ix.toList[j]:=by simp [Array.getD,hj']
 rw [ei,ej] at q
 have ai:ix.toList[i] < ps.length:=P.lt _ (by simp)
 have aj:ix.toList[j] < ps.length:=P.lt _ (by simp)
 have bi:Sm (ps.getD ix.toList[i] (0,0)):=by rw [List.getD_eq_getElem?_getD,List.getElem?_eq_getElem ai];exact hs _ (List.getElem_mem ai)
 have bj:Sm (ps.getD ix.toList[j] (0,0)):=by rw [List.getD_eq_getElem?_getD,List.getElem?_eq_getElem aj];exact hs _ (List.getElem_mem aj)
 exact (code_lt bi bj).mp q
theorem pm_mem {n:Nat}{ix:Array Nat}(P:L2.SO.Pm n ix){k:Nat}(hk:k < n):k∈ix.toList:=by
 refine Classical.byContradiction fun hn=>?_
 have:=nodup_len (l:=k :: ix.toList) (m:=List.range n) (List.nodup_cons.mpr ⟨hn,P.nd⟩) fun x hx=>by
  rcases List.mem_cons.mp hx with e |e
  ·rw [e];exact List.mem_range.mpr hk
  ·exact List.mem_range.mpr (P.lt x (by simpa using e))
 simp [P.sz] at this
 omega
theorem by_ix {h:Heap}{vs:List Value}{ps:List Pr}(hps:PairsAt prog w h vs ps){ix:Array Nat}(P:L2.SO.Pm vs.length ix) :
  PairsAt prog w h (ix.toList.map fun i=>vs.getD i Value.none) (ix.toList.map fun i=>ps.getD i (0,0)):=by
 refine⟨by simp,fun i v p h1 h2=>?_⟩
 rw [List.getElem?_map] at h1 h2
 cases e:ix.toList[i]? with
 |none=>rw [e] at h1;cases h1
 |some k=>
  rw [e] at h1 h2
  have hk:k < vs.length:=P.lt k (by simpa using List.mem_of_getElem? e)
  have hk':k < ps.length:=by rw [<-hps.1];exact hk
  simp [hk,hk'] at h1 h2
  exact hps.2 k v p (by rw [List.getElem?_eq_getElem hk,h1]) (by rw [List.getElem?_eq_getElem hk',h2])
theorem sorted_of {v:Value}{vs:List Value}{ps:List Pr}{Q:Value->Shared->Prop}(hps:PairsAt prog w s.heap vs ps)(nd:ps.Nodup)(h64:vs.length < 64)
  (hcol:∀(Q':List Value->Shared->Prop),(∀h' tk,(∀b o,s.heap.get? b=some o->h'.get? b=some o)->Q' vs {s with heap:=h',toks:=tk})->wpAny (model prog w) A.in1 (collect v) Q' (fun e s'=>E e s') s)
  (h:∀(h1 h':Heap) (tk:Nat) (D:Addr) (out:List Value) (qs:List Pr) (c:Nat),(∀b o,s.heap.get? b=some o->h1.get? b=some o)->D=h1.objs.size->(∀b o,h1.get? b=some o->h'.get? b=some o)->h'.get? D=some (seqObj "list" out.toArray c)->PairsAt prog w h' out qs->(∀u,u∈out->u∈vs)->OM.Ris qs->(∀p,p∈qs↔p∈ps)->
   Q (.ref D) {s with heap:=h',toks:=tk}):wpAny (model prog w) A (call (.builtin "sorted") [v]) Q E s:=by
 have hsm:∀p,p∈ps->Sm p:=fun p hp=>by
  obtain⟨i,hi,e⟩:=List.mem_iff_getElem.mp hp
  have hi':i < vs.length:=by rw [hps.1];exact hi
  obtain⟨_,_,_,hs⟩:=hps.2 i vs[i] p (List.getElem?_eq_getElem hi') (by rw [List.getElem?_eq_getElem hi,e])
  exact hs
 (refine Calls.call_function_entry kind_sorted plain_sorted entry_sorted (args_sorted1 _) ?_)
 unfold Builtin.«sorted»
 refine wpAny_bind (m:=checkCount "sorted" 1 1 ([v]:List Value).length) (wpAny_pure ?_)
 refine wpAny_bind (hcol _ fun h1 tk1 k1=>?_)
 have hz:vs.length<=sizeLine:=by rw [sizeLine_eq];omega
 refine wpAny_bind (wpAny_newList ?_ hz)
 show wpAny _ _ _ _ _ {s with heap:=h1.push (seqObj "list" vs.toArray 0),toks:=tk1}
 have hoL:(h1.push (seqObj "list" vs.toArray 0)).get? h1.objs.size=some (seqObj "list" vs.toArray 0):=Heap.get?_push_size _ rfl
 have kp:∀b o,s.heap.get? b=some o->(h1.push (seqObj "list" vs.toArray 0)).get? b=some o:=fun b o e=>Heap.get?_push_of_some _ (k1 b o e)
 have hp1:PairsAt prog w (h1.push (seqObj "list" vs.toArray 0)) vs ps:=⟨hps.1,fun i v p a b=>by
  obtain⟨c,e,⟨o,it,n,ho,r⟩,hs⟩:=hps.2 i v p a b
  exact⟨c,e,⟨o,it,n,kp _ _ ho,r⟩,hs⟩⟩
 have hne:∀b o,s.heap.get? b=some o->b≠h1.objs.size:=fun b o e=>Nat.ne_of_lt (Heap.lt_size (k1 b o e))
 refine wpAny_bind (wpAny_holding (wpAny_call_entry slot_list_sort ⟨_,hoL,rfl⟩ entry_list_sort ?_ (args_list_sort _)))
 refine lsort_pairs (s:={s with heap:=h1.push (seqObj "list" vs.toArray 0),toks:=tk1}) hoL hp1 nd h64 fun h' c ix P U hk ho=>?_
 refine⟨_,rfl,wpAny_pure ⟨_,rfl,?_⟩⟩
 have kk:∀b o,s.heap.get? b=some o->h'.get? b=some o:=fun b o e=>hk b o (hne b o e) (kp b o e)
 have P':L2.SO.Pm ps.length ix:=by rw [<-hps.1];exact P
 have k2:∀b o,h1.get? b=some o->h'.get? b=some o:=fun b o e=>hk b o (Nat.ne_of_lt (Heap.lt_size e)) (Heap.get?_push_of_some _ e)
 refine h h1 h' tk1 h1.objs.size _ (ix.toList.map fun i=>ps.getD i (0,0)) c k1 rfl k2 ho (by_ix ⟨hps.1,fun i v p a b=>?_⟩ P) (fun u hu=>?_) (up_ris hsm P' (by rw [<-hps.1];exact U)) fun p=>⟨fun hp=>?_,fun hp=>?_⟩
 ·obtain⟨c,e,⟨o,it,n,ho,r⟩,hs⟩:=hps.2 i v p a b
  exact⟨c,e,⟨o,it,n,kk _ _ ho,r⟩,hs⟩
 ·obtain⟨i,hi,rfl⟩:=List.mem_map.mp hu
  have:i < vs.length:=P.lt i (by simpa using hi)
  rw [List.getD_eq_getElem?_getD,List.getElem?_eq_getElem this]
  exact List.getElem_mem this
 ·obtain⟨i,hi,rfl⟩:=List.mem_map.mp hp
  have:i < ps.length:=P'.lt i (by simpa using hi)
  rw [List.getD_eq_getElem?_getD,List.getElem?_eq_getElem this]
  exact List.getElem_mem this
 ·obtain⟨i,hi,e⟩:=List.mem_iff_getElem.mp hp
  refine List.mem_map.mpr ⟨i,pm_mem P' hi,?_⟩
  rw [List.getD_eq_getElem?_getD,List.getElem?_eq_getElem hi,e];rfl
end
end L2.ST

end

section
namespace L2
open PySem PySem.Spec PyProof.Rows
abbrev Pr:=Int×Int
abbrev Sm:=L2.ST.Sm
section
variable {X:Cx}{pins:List (Addr×Obj)}{σ:St}{H H':Hp}{s:Shared}
def Grow (H H':Hp):Prop:=(∀b xs,H b=some (.tup xs)->H' b=some (.tup xs))/\∀b o u,H b=some (.frz o u)->H' b=some (.frz o u)
theorem Grow.trans {H H1 H2:Hp}(a:Grow H H1)(b:Grow H1 H2):Grow H H2:=⟨fun c xs h=>b.1 c xs (a.1 c xs h),fun c o u h=>b.2 c o u (a.2 c o u h)⟩
theorem Same.grow {H H':Hp}(e:Same H H'):Grow H H':=⟨fun b xs h=>e b _ h,fun b o u h=>e b _ h⟩
theorem Grow.new {H:Hp}{l:Addr}{o:HO}(h:H l=none):Grow H (upd H l o):=⟨fun b xs e=>by rw [upd_ne (ne_of_none e h)];exact e,fun b o' u e=>by rw [upd_ne (ne_of_none e h)];exact e⟩
theorem Same.new {H:Hp}{l:Addr}{o:HO}(h:H l=none):Same H (upd H l o):=fun b u e=>by rw [upd_ne (ne_of_none e h)];exact e
theorem SqT.grow {K:PySem.W.Frag}{a:Addr}{xs:List V}(h:SqT K H a xs)(g:Grow H H'):SqT K H' a xs:=by
 rcases h with (h | ⟨o,h⟩) |h
 ·exact .inl (.inl (g.1 _ _ h))
 ·exact .inl (.inr ⟨o,g.2 _ _ _ h⟩)
 ·exact .inr h
theorem Grow.list {a:Addr}{ys:List V}{o:HO}(h:H a=some (.lst ys)):Grow H (upd H a o):=
 ⟨fun b xs e=>by rw [upd_ne (ne_of e h (by intro z;cases z))];exact e,fun b o' u e=>by rw [upd_ne (ne_of e h (by intro z;cases z))];exact e⟩
theorem perm_map_back {α β:Type}{f:α->β}:∀{l:List α} {m:List β},m.Perm (l.map f)->∃l':List α,m=l'.map f/\l'.Perm l:=by
 intro l m h
 generalize hk:l.map f=k at h
 induction h generalizing l with
 |nil=>
  have:l= []:=by simpa using hk
  exact⟨[],rfl,by rw [this]⟩
 | @cons x m1 m2 _ ih=>
  cases l with
  |nil=>cases hk
  |cons a l=>
   simp only [List.map_cons,List.cons.injEq] at hk
   obtain⟨l',e,p⟩:=ih hk.2
   exact⟨a :: l',by rw [List.map_cons,hk.1,e],p.cons a⟩
 |swap x y m1=>
  cases l with
  |nil=>cases hk
  |cons a l=>
   cases l with
   |nil=>simp at hk
   |cons b l=>
    simp only [List.map_cons,List.cons.injEq] at hk
    exact⟨b :: a :: l,by rw [List.map_cons,List.map_cons,hk.1,hk.2.1,hk.2.2],List.Perm.swap ..⟩
 |trans _ _ ih1 ih2=>
  obtain⟨l1,e1,p1⟩:=ih2 hk
  obtain⟨l2,e2,p2⟩:=ih1 e1.symm
  exact⟨l2,e2,p2.trans p1⟩
def PairsV (K:PySem.W.Frag)(H:Hp):List V->List Pr->Prop:=Paired fun v p=>∃a,v=.ref a/\SqT K H a [.int p.1,.int p.2]
theorem PairsV.grow {K:PySem.W.Frag}{vs:List V}{ps:List Pr}(h:PairsV K H vs ps)(g:Grow H H'):PairsV K H' vs ps:=Paired.mapP h fun v p ⟨a,e,q⟩=>⟨a,e,q.grow g⟩
theorem Paired.getP {α β:Type}{F:α->β->Prop}:∀{l:List α} {m:List β} {i:Nat} {x:α},Paired F l m->l[i]? =some x->∃y,m[i]? =some y/\F x y
 |_,_,_,_,.nil,e=>by simp at e
 |_,_,0,_,.cons r _,e=>by simp at e;subst e;exact⟨_,rfl,r⟩
 |_,_,i + 1,x,.cons _ t,e=>by
  obtain⟨u,h1,h2⟩:=Paired.getP (i:=i) (x:=x) t (by simpa using e)
  exact⟨u,by simpa using h1,h2⟩
theorem Paired.getQ {α β:Type}{F:α->β->Prop}:∀{l:List α} {m:List β} {i:Nat} {y:β},Paired F l m->m[i]? =some y->∃x,l[i]? =some x/\F x y
 |_,_,_,_,.nil,e=>by simp at e
 |_,_,0,_,.cons r _,e=>by simp at e;subst e;exact⟨_,rfl,r⟩
 |_,_,i + 1,x,.cons _ t,e=>by
  obtain⟨u,h1,h2⟩:=Paired.getQ (i:=i) (y:=x) t (by simpa using e)
  exact⟨u,by simpa using h1,h2⟩
theorem pair_at (I:Inv X pins σ H s){a:Addr}{p:Pr}(h:SqT X.K H a [.int p.1,.int p.2]):L2.ST.PairAt X.prog X.w s.heap p a:=by
 obtain⟨its,r,⟨o,ho,hc,n,hd⟩,_⟩:=I.tuple h
 cases r with
 |cons r1 r=>
  cases r with
  |cons r2 r=>
   cases r
   obtain⟨t1,rfl⟩:=r1
   obtain⟨t2,rfl⟩:=r2
   exact⟨o,_,n,ho,hc,hd,.cons (intKind_is ..) (.cons (intKind_is ..) .nil)⟩
theorem pairs_at (I:Inv X pins σ H s){vs:List V}{us:List Value}{ps:List Pr}(hv:Vals vs us)(h:PairsV X.K H vs ps)(hs:∀p,p∈ps->Sm p):L2.ST.PairsAt X.prog X.w s.heap us ps:=by
 refine⟨by rw [<-hv.length];exact Paired.length h,fun i u p e1 e2=>?_⟩
 obtain⟨v,ev,a,rfl,q⟩:=Paired.getQ h e2
 obtain⟨u',eu,ru⟩:=hv.get ev
 rw [e1] at eu;cases eu
 cases ru
 exact⟨a,rfl,pair_at I q,hs p (List.mem_of_getElem? e2)⟩
theorem pairs_back (I:Inv X pins σ H s){vs:List V}{us:List Value}{ps:List Pr}(hv:Vals vs us)(h:PairsV X.K H vs ps){h':Heap}(k:∀b o,s.heap.get? b=some o->h'.get? b=some o):∀{out:List Value} {qs:List Pr},
  (∀u,u∈out->u∈us)->L2.ST.PairsAt X.prog X.w h' out qs->∃ws,Vals ws out/\PairsV X.K H ws qs
 | [],[],_,_=>⟨[],.nil,.nil⟩
 | [],_ :: _,_,hp=>by have:=hp.1;simp at this
 |_ :: _,[],_,hp=>by have:=hp.1;simp at this
 |u :: out,q :: qs,hm,hp=>by
  obtain⟨ws,a1,a2⟩:=pairs_back I hv h k (out:=out) (qs:=qs) (fun x hx=>hm x (List.mem_cons_of_mem _ hx)) ⟨by have:=hp.1;simpa using this,fun i v p e1 e2=>hp.2 (i + 1) v p (by simpa using e1) (by simpa using e2)⟩
  obtain⟨i,hi,e⟩:=List.mem_iff_getElem.mp (hm u (List.mem_cons_self ..))
  have hi':i < vs.length:=by rw [hv.length];exact hi
  obtain⟨u',eu,ru⟩:=hv.get (List.getElem?_eq_getElem hi')
  rw [List.getElem?_eq_getElem hi,e] at eu
  cases eu
  obtain⟨p,ep,a,ea,qa⟩:=Paired.getP h (List.getElem?_eq_getElem hi')
  rw [ea] at ru
  cases ru
  obtain⟨b,eb,hb,_⟩:=hp.2 0 (.ref a) q rfl rfl
  cases eb
  have pa:L2.ST.PairAt X.prog X.w h' p a:=by
   obtain⟨o,it,n,ho,r⟩:=pair_at I qa
   exact⟨o,it,n,k _ _ ho,r⟩
  have:p=q:=L2.ST.PairAt.inj pa hb
  subst this
  exact⟨.ref a :: ws,.cons rfl a1,.cons ⟨a,rfl,qa⟩ a2⟩
def rSorted (K:PySem.W.Frag):List V->Hp->VK->Prop:=fun xs H Q=>∃a vs ps,xs= [.ref a]/\SqL K H a vs/\PairsV K H vs ps/\(∀p,p∈ps->Sm p)/\ps.Nodup/\ps.length < 64/\
 ∀l ws qs,H l=none->PairsV K H ws qs->OM.Ris qs->(∀p,p∈qs↔p∈ps)->Q (.ref l) (upd H l (.lst ws))
theorem sorted_end (I:Inv X pins σ H s){vs:List V}{us:List Value}{ps:List Pr}(hv:Vals vs us)(hp:PairsV X.K H vs ps)(hlen:ps.length < 64){Q:VK}
  (q:∀l ws qs,H l=none->PairsV X.K H ws qs->OM.Ris qs->(∀p,p∈qs↔p∈ps)->Q (.ref l) (upd H l (.lst ws)))
  {h1 h':Heap} {tk:Nat} {D:Addr} {out:List Value} {qs:List Pr} {c:Nat} (k1:∀b o,s.heap.get? b=some o->h1.get? b=some o) (eD:D=h1.objs.size) (k2:∀b o,h1.get? b=some o->h'.get? b=some o)
  (ho:h'.get? D=some (seqObj "list" out.toArray c)) (hpq:L2.ST.PairsAt X.prog X.w h' out qs) (hm:∀u,u∈out->u∈us) (hr:OM.Ris qs) (hmem:∀p,p∈qs↔p∈ps):EP X pins σ Q (.ref D) {s with heap:=h',toks:=tk}:=by
 obtain⟨ws,r1,r2⟩:=pairs_back I hv hp (fun b o e=>k2 b o (k1 b o e)) hm hpq
 have I1:Inv X pins σ H {s with heap:=h1,toks:=tk}:=I.kept k1
 have hf:H D=none:=by rw [eD];exact I1.hok.fresh (Nat.le_refl _)
 have hz:ws.length<=sizeLine:=by
  have e1:=r1.length
  have e2:out.length=qs.length:=hpq.1
  have e3:=OM.len_le (OM.ris_nodup hr) fun x hx=>(hmem x).mp hx
  rw [sizeLine_eq];omega
 have I2:Inv X pins σ (upd H D (.lst ws)) {s with heap:=h',toks:=tk}:=I1.laid (t':=tk) k2 (by rw [eD];exact Nat.le_refl _) (show ObjOk X.prog X.w _ h' _ (.lst ws) from⟨hz,out,c,r1,ho⟩)
 exact⟨.ref D,_,I2,rfl,q D ws qs hf r2 hr hmem⟩
theorem call_sorted:CallR X (.builtin "sorted") (rSorted X.K):=by
 intro pins s σ H xs us Q I r h
 obtain⟨a,vs,ps,rfl,hq,hp,hs,nd,hl,q⟩:=h
 obtain⟨u,rfl,rx⟩:=vals1 r
 cases rx
 obtain⟨its,rv,pl,hz⟩:=I.list hq
 have hpa:=pairs_at I rv hp hs
 have h64:its.length < 64:=by rw [hpa.1];exact hl
 refine L2.ST.sorted_of (v:=.ref a) hpa nd h64 (fun Q' hQ'=>collect_list pl.isList ?_ (by rw [sizeLine_eq];omega)) fun h1 h' tk D out qs c k1 eD k2 ho hpq hm hr hmem=>?_
 ·exact hQ' _ s.toks fun b o e=>by
   rw [Heap.get?_update_ne _ _ _ _ (Nat.ne_of_lt (Heap.lt_size e)),Heap.get?_push_ne _ _ _ (Nat.ne_of_lt (Heap.lt_size e))];exact e
 ·exact sorted_end I rv hp hl q k1 eD k2 ho hpq hm hr hmem
abbrev vq (qs:List (Addr×Pr)):List V:=qs.map fun q=>V.ref q.1
abbrev pq (qs:List (Addr×Pr)):List Pr:=qs.map (·.2)
def SetIs (prog:Program)(w:World)(S:Addr)(qs:List (Addr×Pr))(h:Heap):Prop:=∃o ep t,h.get? S=some o/\o.ExactSet/\o.data=.set (qs.map fun q=>(L2.ST.hpK prog w q.2,Value.ref q.1)).toArray ep t/\L2.ST.Tab t (qs.map fun q=>L2.ST.hpK prog w q.2)/\t.led=L2.ST.ledW w
def SetO (prog:Program)(w:World)(S:Addr)(qs:List (Addr×Pr)):HO:=.ext (SetIs prog w S qs)
def rSet (P:Program)(w:World)(K:PySem.W.Frag):List V->Hp->VK->Prop:=fun xs H Q=>∃a vs ps,xs= [.ref a]/\(SqL K H a vs\/SqT K H a vs)/\PairsV K H vs ps/\(∀p,p∈ps->Sm p)/\
 ∀S qs,H S=none->PairsV K H (vq qs) (pq qs)->(pq qs).Nodup->(∀p,p∈pq qs↔p∈ps)->Q (.ref S) (upd H S (SetO P w S qs))
theorem call_set (hc:X.calm=true)(hu:X.A.units + 64 < cLine):CallR X (.type "set") (rSet X.prog X.w X.K):=by
 intro pins s σ H xs us Q I r h
 obtain⟨a,vs,ps,rfl,hq,hp,hs,q⟩:=h
 obtain⟨u,rfl,rx⟩:=vals1 r
 cases rx
 have hh:=I.ok.hd hc
 have core:∀{its:List Value} {T:String} {itO:Obj} {St:Addr->Nat->Heap->Prop},Vals vs its->L2.ST.Src X.prog X.w s.heap a its T itO St->wpAny (model X.prog X.w) X.A (call (.type "set") [.ref a]) (EP X pins σ Q) X.xe s:=fun {its T itO St} rv src=>by
  refine L2.ST.call_set_pairs src hh hu (pairs_at I rv hp hs) fun h' tk F k=>?_
  obtain⟨qs,P1,P2,P3⟩:=F
  have hlen:its.length=vs.length:=rv.length.symm
  have back:∀qv:Addr×Pr,qv∈qs->∃b,b=qv.1/\SqT X.K H b [.int qv.2.1,.int qv.2.2]:=fun qv hqv=>by
   obtain⟨i,hi,e⟩:=List.mem_iff_getElem.mp (List.mem_of_mem_take (P2 qv hqv).1)
   have hi':i < vs.length:=by rw [<-hlen];exact hi
   obtain⟨u',eu,ru⟩:=rv.get (List.getElem?_eq_getElem hi')
   rw [List.getElem?_eq_getElem hi,e] at eu
   cases eu
   obtain⟨p,ep,b,eb,qb⟩:=Paired.getP hp (List.getElem?_eq_getElem hi')
   rw [eb] at ru
   cases ru
   have pa:L2.ST.PairAt X.prog X.w h' p qv.1:=by
    obtain⟨o,it,n,ho,r⟩:=pair_at I qb
    exact⟨o,it,n,k _ _ ho,r⟩
   have:p=qv.2:=L2.ST.PairAt.inj pa (P1.at' qv hqv).1
   subst this
   exact⟨_,rfl,qb⟩
  have hpv:∀{l:List (Addr×Pr)},(∀x,x∈l->x∈qs)->PairsV X.K H (vq l) (pq l):=fun {l}=>by
   induction l with
   |nil=>intro _;exact .nil
   |cons y l ih=>
    intro hl
    obtain⟨b,eb,qb⟩:=back y (hl y (List.mem_cons_self ..))
    subst eb
    exact .cons ⟨_,rfl,qb⟩ (ih fun x hx=>hl x (List.mem_cons_of_mem _ hx))
  have hmem:∀p,p∈pq qs↔p∈ps:=fun p=>by
   have hpl:ps.length=its.length:=by rw [hlen];exact (Paired.length hp).symm
   constructor
   ·intro hx
    obtain⟨qv,hqv,rfl⟩:=List.mem_map.mp hx
    exact List.mem_of_mem_take (P2 qv hqv).2
   ·intro hx
    exact P3 p (by rw [<-hpl,List.take_of_length_le (Nat.le_refl _)];exact hx)
  have hf:H s.heap.objs.size=none:=I.hok.fresh (Nat.le_refl _)
  obtain⟨o,ep,t,ho,r1⟩:=P1.ex
  have new:ObjOk X.prog X.w (upd H s.heap.objs.size (SetO X.prog X.w s.heap.objs.size qs)) h' s.heap.objs.size (SetO X.prog X.w s.heap.objs.size qs):=
   ⟨⟨o,ep,t,ho,r1⟩,⟨o,ho⟩,fun h1 h2 ⟨o1,ep1,t1,g1,g2⟩ kk=>⟨o1,ep1,t1,kk _ g1,g2⟩⟩
  exact⟨.ref _,_,I.laid (t':=tk) k (Nat.le_refl _) new,rfl,q _ qs hf (hpv fun x hx=>hx) P1.nd hmem⟩
 rcases hq with hq |hq
 ·obtain⟨its,rv,pl,hz⟩:=I.list hq
  exact core rv (L2.ST.Src.list pl.isList)
 ·obtain⟨its,rv,pl,hz⟩:=I.tuple hq
  exact core rv (L2.ST.Src.tuple pl)
def rSortSet (P:Program)(w:World)(K:PySem.W.Frag):List V->Hp->VK->Prop:=fun xs H Q=>∃S qs,xs= [.ref S]/\H S=some (SetO P w S qs)/\PairsV K H (vq qs) (pq qs)/\(∀p,p∈pq qs->Sm p)/\(pq qs).Nodup/\qs.length < 64/\
 ∀l ws rs,H l=none->PairsV K H ws rs->OM.Ris rs->(∀p,p∈rs↔p∈pq qs)->Q (.ref l) (upd H l (.lst ws))
theorem call_sortset (hc:X.calm=true):CallR X (.builtin "sorted") (rSortSet X.prog X.w X.K):=by
 intro pins s σ H xs us Q I r h
 obtain⟨S,qs,rfl,hS,hp,hs,nd,hl,q⟩:=h
 obtain⟨u,rfl,rx⟩:=vals1 r
 cases rx
 have hh:=I.ok.hd hc
 obtain⟨⟨o,ep,t,ho,hex,hd,T,hled⟩,_,_⟩:SetIs X.prog X.w S qs s.heap/\_:=I.hok S _ hS
 have T':L2.ST.Tab t ((qs.map fun q=>(L2.ST.hpK X.prog X.w q.2,Value.ref q.1)).toArray.toList.map (·.1)):=by
  rw [List.toList_toArray,List.map_map];exact T
 have htp:=L2.ST.told_perm X.w S ep (qs.map fun q=>(L2.ST.hpK X.prog X.w q.2,Value.ref q.1)).toArray
 have hmem:∀x,x∈(L2.ST.told X.w S ep (qs.map fun q=>(L2.ST.hpK X.prog X.w q.2,Value.ref q.1)).toArray).toList->∃q,q∈qs/\x=(L2.ST.hpK X.prog X.w q.2,Value.ref q.1):=fun x hx=>by
  have:=htp.mem_iff.mp hx
  simp only [List.toList_toArray] at this
  obtain⟨q,hq,e⟩:=List.mem_map.mp this
  exact⟨q,hq,e.symm⟩
 obtain⟨q2,e2,p2⟩:∃q2:List (Addr×Pr),(L2.ST.told X.w S ep (qs.map fun q=>(L2.ST.hpK X.prog X.w q.2,Value.ref q.1)).toArray).toList=q2.map (fun q=>(L2.ST.hpK X.prog X.w q.2,Value.ref q.1))/\q2.Perm qs:=by
  have:=htp
  simp only [List.toList_toArray] at this
  exact perm_map_back this
 have hp2:PairsV X.K H (vq q2) (pq q2):=by
  have key:∀{l:List (Addr×Pr)},(∀x,x∈l->x∈qs)->PairsV X.K H (vq l) (pq l):=fun {l}=>by
   induction l with
   |nil=>intro _;exact .nil
   |cons y l ih=>
    intro hl
    obtain⟨i,hi,e⟩:=List.mem_iff_getElem.mp (hl y (List.mem_cons_self ..))
    obtain⟨p,ep',a,ea,qa⟩:=Paired.getP (l:=vq qs) (m:=pq qs) (i:=i) (x:=.ref y.1) hp (by simp [hi,e])
    have:p=y.2:=by simp [hi,e] at ep';exact ep'.symm
    subst this
    exact .cons ⟨a,ea,qa⟩ (ih fun x hx=>hl x (List.mem_cons_of_mem _ hx))
  exact key fun x hx=>p2.mem_iff.mp hx
 have hv2:Vals (vq q2) (q2.map fun q=>Value.ref q.1):=by
  induction q2 with
  |nil=>exact .nil
  |cons y l ih=>exact .cons rfl (by
    clear ih e2 p2 hp2
    induction l with
    |nil=>exact .nil
    |cons z l ih2=>exact .cons rfl ih2)
 have hm2:∀p,p∈pq q2↔p∈pq qs:=fun p=>(p2.map (·.2)).mem_iff
 have hpa:=pairs_at I hv2 hp2 fun p hpp=>hs p ((hm2 p).mp hpp)
 have hl2:q2.length < 64:=by rw [p2.length_eq];exact hl
 refine L2.ST.sorted_of (v:=.ref S) hpa ((p2.map (·.2)).nodup_iff.mpr nd) (by simpa using hl2) (fun Q' hQ'=>L2.ST.collect_set (by simpa using hh) ho hd hex.1 T' hled (by simp;omega) fun h' tk vs ev k=>?_) fun h1 h' tk D out qs' c k1 eD k2 ho' hpq hm hr hmem'=>?_
 ·rw [ev,e2]
  rw [List.map_map]
  exact hQ' h' tk k
 ·exact sorted_end I hv2 hp2 (by simpa using hl2) (fun l ws rs a1 a2 a3 a4=>q l ws rs a1 a2 a3 fun p=>(a4 p).trans (hm2 p)) k1 eD k2 ho' hpq hm hr hmem'
end
end L2

end

section
namespace L2
open PySem PySem.Spec PyProof.Rows
def clOf (cells:List (Str×Addr)):List (Str×NameKind)->List (Str×Addr)->List (Str×Addr)
 | [],cs=>cs
 | (n,k) :: r,cs=>clOf cells r (if k == .free then (n,(cells.lookup n).getD 0) :: cs else cs)
theorem closure_eq {scope:Scope}{env:Env}(h:∀y∈scope.names,y.2=.free->∃c,env.cells.lookup y.1=some c):closureFor scope env=pure (clOf env.cells scope.names []):=by
 unfold closureFor
 have key:∀(l:List (Str×NameKind)) (cs:List (Str×Addr)),(∀y∈l,y.2=.free->∃c,env.cells.lookup y.1=some c)->
   (forIn l cs (fun (x:Str×NameKind) (r:List (Str×Addr))=>if (x.2 == NameKind.free)=true then (do let a <-cellOf env x.1;pure (ForInStep.yield ((x.1,a) :: r)):Sem _) else pure (ForInStep.yield r)):Sem (List (Str×Addr)))=pure (clOf env.cells l cs):=by
  intro l
  induction l with
  |nil=>intro cs _;rfl
  |cons y l ih=>
   intro cs hy
   obtain⟨n,k⟩:=y
   rw [List.forIn_cons]
   unfold clOf
   by_cases hk:(k == NameKind.free)=true
   ·have hk':k=.free:=by simpa using hk
    obtain⟨c,hc⟩:=hy (n,k) (List.mem_cons_self ..) hk'
    have hce:cellOf env n=pure c:=by unfold cellOf;rw [hc]
    simp only [hk,if_true]
    have hc':env.cells.lookup n=some c:=hc
    rw [hce,hc']
    simp only [pure_bind,Option.getD_some]
    exact ih _ fun z hz=>hy z (List.mem_cons_of_mem _ hz)
   ·simp only [hk,if_false,Bool.false_eq_true]
    simp only [pure_bind]
    exact ih _ fun z hz=>hy z (List.mem_cons_of_mem _ hz)
 have:=key scope.names [] h
 simp only [bind_pure_comp] at this ⊢
 first
  |exact this
  | (rw [this];rfl)
  | (simpa using this)
theorem clOf_some {cells:List (Str×Addr)}{x:Str}:∀{l:List (Str×NameKind)} {cs:List (Str×Addr)},((x,NameKind.free)∈l\/cs.lookup x=some ((cells.lookup x).getD 0))->(clOf cells l cs).lookup x=some ((cells.lookup x).getD 0)
 | [],cs,h=>by
  rcases h with h |h
  ·cases h
  ·exact h
 | (n,k) :: r,cs,h=>by
  unfold clOf
  refine clOf_some ?_
  by_cases hk:(k == NameKind.free)=true
  ·rw [if_pos hk]
   by_cases hx:x=n
   ·subst hx;right;simp
   ·rcases h with h |h
    ·rcases List.mem_cons.mp h with e |e
     ·injection e with e1 _;exact absurd e1 hx
     ·exact .inl e
    ·right
     rw [List.lookup_cons,show (x == n)=false by simpa using hx]
     exact h
  ·rw [if_neg hk]
   rcases h with h |h
   ·rcases List.mem_cons.mp h with e |e
    ·injection e with _ e2;exact absurd (by rw [<-e2];rfl) hk
    ·exact .inl e
   ·exact .inr h
theorem clOf_back {cells:List (Str×Addr)}{x:Str}{c:Addr}:∀{l:List (Str×NameKind)} {cs:List (Str×Addr)},(clOf cells l cs).lookup x=some c->((x,NameKind.free)∈l/\c=(cells.lookup x).getD 0)\/cs.lookup x=some c
 | [],cs,h=>.inr h
 | (n,k) :: r,cs,h=>by
  unfold clOf at h
  rcases clOf_back h with⟨a,b⟩ |a
  ·exact .inl ⟨List.mem_cons_of_mem _ a,b⟩
  ·by_cases hk:(k == NameKind.free)=true
   ·rw [if_pos hk,List.lookup_cons] at a
    by_cases hx:x=n
    ·subst hx
     simp at a
     have:k=.free:=by simpa using hk
     subst this
     exact .inl ⟨List.mem_cons_self ..,a.symm⟩
    ·rw [show (x == n)=false by simpa using hx] at a
     exact .inr a
   ·rw [if_neg hk] at a
    exact .inr a
theorem lookup_mapK {f:Str->NameKind->NameKind}{x:Str}:∀(l:List (Str×NameKind)),(l.map fun y=>(y.1,f y.1 y.2)).lookup x=(l.lookup x).map (f x)
 | []=>rfl
 | (n,k) :: l=>by
  rw [List.map_cons,List.lookup_cons,List.lookup_cons]
  by_cases hx:x=n
  ·subst hx;simp
  ·have hb:(x == n)=false:=by simpa using hx
   simp only [hb]
   exact lookup_mapK l
theorem relabel_lookup (scope:Scope)(env:Env)(x:Str):(relabel scope env).names.lookup x=(scope.names.lookup x).map fun k=>if (k == .free && env.scope.kind == .function && env.kindOf x == some .cell) then .cell else k:=by
 have e:(relabel scope env).names=scope.names.map fun y=>(y.1,if (y.2 == .free && env.scope.kind == .function && env.kindOf y.1 == some .cell) then .cell else y.2):=by
  unfold relabel
  dsimp only
  refine List.map_congr_left fun y _=>?_
  obtain⟨n,k⟩:=y
  dsimp only
  split <;> rfl
 rw [e]
 exact lookup_mapK (f:=fun n k=>if (k == .free && env.scope.kind == .function && env.kindOf n == some .cell) then .cell else k) scope.names
def blk (X:Cx)(NB:List Str)(scope:Scope)(C:Addr)(ex:List Addr)(s3:Shared)(H3:Hp)(pn:List (Addr×Obj)):Cx:=
 {X with N:=NB,s₀:=s3,H₀:=H3,env:=compEnvC scope (clOf X.env.cells scope.names []) C X.env,outer:=X.stack,ex:=ex,fn:=fun _=>false,pn:=pn,xe:=fun _ _=>False}
def stB (own:Nat)(ixs:List Nat)(σ:St):St:=List.replicate own none ++ ixs.map fun i=>(σ[i]?).join
structure CompScope (X:Cx)(NB:List Str)(own:Nat)(ixs:List Nat)(scope:Scope):Prop where
 kind:scope.kind=.function
 nocell:∀y∈scope.names,y.2≠.cell
 names:∀y∈scope.names,scope.names.lookup y.1=some y.2
 frees:∀y∈scope.names,y.2=.free->X.env.kindOf y.1=some .cell\/X.env.kindOf y.1=some .free
 nd:NB.Nodup
 len:NB.length=own + ixs.length
 at':∀k,k < ixs.length->NB[own + k]? =X.N[ixs.getD k 0]?/\∀x,NB[own + k]? =some x->(x,NameKind.free)∈scope.names
section
variable {X:Cx}{NB:List Str}{own:Nat}{ixs:List Nat}{scope:Scope}{pins:List (Addr×Obj)}{σ:St}{H:Hp}{s:Shared}
theorem blk_start (S:CompScope X NB own ixs scope)(I:Inv X pins σ H s){fp:List Addr}(hfp:∀b∈fp,FpOk X pins H b)(hob:∀b∈fp,∃o,s.heap.get? b=some o){h1:Heap}{tk:Nat}
  (hn:h1.Ns s.heap.objs.size (fun _=>none)) (hk:∀b o,s.heap.get? b=some o->h1.get? b=some o) :
  Inv (blk X NB scope s.heap.objs.size fp s H (X.pn ++ pins)) [] (stB own ixs σ) H {s with heap:=h1,toks:=tk}:=by
 have stk:=I.stack
 have frees:∀{x:Str},(x,NameKind.free)∈scope.names->∃c,X.env.cells.lookup x=some c:=fun {x} hx=>I.ok.has x (S.frees _ hx rfl)
 have clE:∀{x:Str} {c:Addr},(clOf X.env.cells scope.names []).lookup x=some c->(x,NameKind.free)∈scope.names/\X.env.cells.lookup x=some c:=fun {x c} h=>by
  rcases clOf_back h with⟨a,b⟩ |a
  ·obtain⟨c',e⟩:=frees a
   rw [e] at b
   exact⟨a,by rw [e,b];rfl⟩
  ·simp at a
 have kindB:∀x,(blk X NB scope s.heap.objs.size fp s H (X.pn ++ pins)).env.kindOf x=(scope.names.lookup x).map fun k=>if (k == .free && X.env.scope.kind == .function && X.env.kindOf x == some .cell) then .cell else k:=fun x=>relabel_lookup scope X.env x
 have isFree:∀{x:Str},((blk X NB scope s.heap.objs.size fp s H (X.pn ++ pins)).env.kindOf x=some .cell\/(blk X NB scope s.heap.objs.size fp s H (X.pn ++ pins)).env.kindOf x=some .free)->(x,NameKind.free)∈scope.names:=fun {x} h=>by
  rw [kindB] at h
  cases e:scope.names.lookup x with
  |none=>rw [e] at h;simp at h
  |some k=>
   have hm:=PySem.mem_of_lookup e
   cases k with
   |free=>exact hm
   |cell=>exact absurd rfl (S.nocell _ hm)
   |_=>rw [e] at h;simp at h
 have neN:∀b o,s.heap.get? b=some o->b≠s.heap.objs.size:=fun b o e=>Nat.ne_of_lt (Heap.lt_size e)
 have cellN:∀{x:Str} {c:Addr},X.env.cells.lookup x=some c->c < s.heap.objs.size:=fun {x c} e=>by
  obtain⟨v,o,ho,_⟩:=I.cell x c e
  exact Heap.lt_size ho
 have ok:(blk X NB scope s.heap.objs.size fp s H (X.pn ++ pins)).Ok:=by
  refine⟨I.ok.mod,S.kind,I.ok.glob,I.ok.blt,Nat.le_refl _,fun x y c h1 h2=>I.ok.inj x y c (clE h1).2 (clE h2).2,fun x hx=>?_,fun x c h=>(by cases h),I.ok.hd,I.ok.frames,.inl rfl,fun b hb=>?_,I.bs,Nat.le_trans I.ok.bsz I.sz,fun b o e hb=>?_,fun b hb hs=>?_,stk,I.stkFree⟩
  ·have hm:=isFree hx
   exact⟨_,clOf_some (.inl hm)⟩
  ·obtain⟨_,f1,f2,f3,f4,f5⟩:=hfp b hb
   refine⟨?_,fun x c h z=>f4 x c (clE h).2 z⟩
   obtain⟨o,ho⟩:=hob b hb
   exact neN b o ho
  ·obtain⟨_,f1,f2,f3,f4,f5⟩:=hfp b hb
   rcases f3 with f3 |f3
   ·exact I.ok.noex b o e f3
   ·exact absurd (Nat.lt_of_lt_of_le (Heap.lt_size e) (Nat.le_trans I.ok.bsz f3)) (Nat.lt_irrefl _)
  ·obtain⟨_,f1,f2,f3,f4,f5⟩:=hfp b hb
   rcases List.mem_cons.mp (I.stkSub b hs) with z |z
   ·exact f1 z
   ·exact f2 z
 refine⟨ok,rfl,I.bare,Un.kept hk,⟨_,hn,fun i x v h1' h2' h3'=>?_⟩,fun x c h=>?_,I.hok.fresh (Nat.le_refl _),fun x c h=>I.freeC x c (clE h).2,fun p hp=>?_,I.hok.kept hk,?_⟩
 ·
  have h1':NB[i]? =some x:=h1'
  have hown:own<=i:=by
   refine Classical.byContradiction fun hc=>?_
   have hlt:i < own:=Nat.lt_of_not_le hc
   unfold stB at h2'
   rw [List.getElem?_append_left (by simpa using hlt),List.getElem?_replicate,if_pos hlt] at h2'
   cases h2'
  obtain⟨k,rfl⟩:∃k,i=own + k:=⟨i - own,by omega⟩
  have hk':k < ixs.length:=by
   have:=(List.getElem?_eq_some_iff.mp h1').1
   rw [S.len] at this;omega
  obtain⟨e1,e2⟩:=S.at' k hk'
  have hm:=e2 x h1'
  unfold stB at h2'
  rw [List.getElem?_append_right (by simp),List.length_replicate,Nat.add_sub_cancel_left,List.getElem?_map,List.getElem?_eq_getElem hk'] at h2'
  simp only [Option.map_some,Option.some.injEq] at h2'
  have hix:ixs.getD k 0=ixs[k]:=by simp [hk']
  have hσ:σ[ixs[k]]? =some (some v):=by
   cases e:σ[ixs[k]]? with
   |none=>rw [e] at h2';cases h2'
   |some o=>rw [e] at h2';simp at h2';rw [h2']
  rw [e1,hix] at h1'
  have hkind:=S.frees _ hm rfl
  have hvis:Vis X.env.scope x:=hkind.elim (fun z=>.inr (.inl z)) (fun z=>.inr (.inr z))
  obtain⟨m,hm',hl⟩:=I.loc
  obtain⟨u,r,look⟩:=hl _ x v h1' hσ hvis
  refine⟨u,r,.inr ⟨?_,?_⟩⟩
  ·rw [kindB]
   have hfr:scope.names.lookup x=some .free:=S.names _ hm
   rw [hfr]
   simp only [Option.map_some]
   split
   ·exact .inl rfl
   ·exact .inr rfl
  ·rcases look with⟨z,_⟩ | ⟨_,c,hc,hcell⟩
   ·rcases hkind with q |q
    ·rw [q] at z;cases z
    ·rw [q] at z;cases z
   ·refine⟨c,?_,?_⟩
    ·have:=clOf_some (cells:=X.env.cells) (cs:=[]) (.inl hm)
     rw [hc] at this
     exact this
    ·obtain⟨o,ho,hd⟩:=hcell
     exact⟨o,hk _ _ ho,hd⟩
 ·obtain⟨v,o,ho,hd⟩:=I.cell x c (clE h).2
  exact⟨v,o,hk _ _ ho,hd⟩
 ·have hp':p∈X.pn ++ pins:=by
   rcases List.mem_append.mp hp with z |z
   ·exact z
   ·cases z
  obtain⟨e,n,ne,nf,d⟩:=I.pin p hp'
  refine⟨hk _ _ e,n,neN _ _ e,fun z=>?_,d⟩
  rcases List.mem_cons.mp (I.stkSub _ z) with q |q
  ·exact ne q
  ·exact nf q
 ·show (stB own ixs σ).length=NB.length
  unfold stB
  rw [S.len];simp
end
end L2

end

section
namespace L2
open PySem PySem.Spec PyProof.Rows
abbrev testsOf (ifs:List Expr)(env:Env):Sem Bool:=forIn ifs true fun c r=>if r=true then do let ok <-isTrue c env (eval c env);pure (ForInStep.yield ok) else pure (ForInStep.yield r)
theorem comp_loop {prog:Program}{w:World}{A:Around}{R:Result->Shared->Prop}{s:Shared}{elt target iter:Expr}{ifs:List Expr}{scope:Scope}{pos:Pos}{it acc:Value}{env:Env}(I:Nat->Shared->Prop)
  (turn:∀n s,I n s->wpAny (model prog w) A (pyNext it) (fun r s1=>match r with
   |none=>R (.ok .next) s1
   |some v=>wpAny (model prog w) A (letOwnedTupleGo target it v) (fun _ s1'=>wpAny (model prog w) A (assign target env v) (fun _ s2=>
     wpAny (model prog w) A (testsOf ifs env) (fun ok s3=>
      if ok=true then wpAny (model prog w) A (eval elt env) (fun x s4=>wpAny (model prog w) A (call (.builtin "list.append") [acc,x]) (fun _ s5=>∃m,m < n/\I m s5) (fun _ _=>False) s4) (fun _ _=>False) s3
      else ∃m,m < n/\I m s3) (fun _ _=>False) s2) (fun _ _=>False) s1') (fun _ _=>False) s1) (fun _ _=>False) s)
  (n:Nat) (h:I n s):codeAny (model prog w) A (.compLoop (.ListComp elt [⟨target,iter,ifs,0⟩] scope pos) 0 it acc env) R s:=by
 refine codeAny_loop rfl I (fun n s hI=>?_) n h
 (show wpAny _ A ((compTurn (.ListComp elt [⟨target,iter,ifs,0⟩] scope pos) 0 it acc env).onRaise (fun x=>do (noteFrame x env);theTreesLotGoes x)) _ _ s)
 refine wpAny_noted ?_
 rw [compTurn_list]
 refine wpAny_bind (wpAny_standAt (wpAny_bind (wpAny_mono (turn n s hI) (fun r s1 h1=>?_) fun _ _ z=>z.elim)))
 cases r with
 |none=>exact wpAny_pure h1
 |some v=>
  refine wpAny_bind (wpAny_mono h1 (fun _ s1' h1'=>?_) fun _ _ z=>z.elim)
  refine wpAny_bind (wpAny_mono h1' (fun _ s2 h2=>wpAny_bind (wpAny_mono h2 (fun ok s3 h3=>?_) fun _ _ z=>z.elim)) fun _ _ z=>z.elim)
  cases ok with
  |false=>exact wpAny_pure ⟨rfl,h3⟩
  |true=>exact wpAny_bind (wpAny_bind (wpAny_mono h3 (fun x s4 h4=>wpAny_bind (wpAny_mono h4 (fun _ s5 h5=>wpAny_pure (wpAny_pure ⟨rfl,h5⟩)) fun _ _ z=>z.elim)) fun _ _ z=>z.elim))
def PTs (X:Cx)(ifs:List Expr)(t:TT):Prop:=
 ∀(pins:List (Addr×Obj)) (s:Shared) (σ:St) (H:Hp) (Q:Bool->Hp->Prop),Inv X pins σ H s->t σ H Q->wpAny (model X.prog X.w) X.A (testsOf ifs X.env) (TP X pins σ Q) X.xe s
def tYes:TT:=fun _ H Q=>Q true H
theorem pts_nil {X:Cx}:PTs X [] tYes:=fun pins s σ H Q I h=>wpAny_pure ⟨H,I,h⟩
theorem pts_one {X:Cx}{c:Expr}{t:TT}(h:PT X c t):PTs X [c] t:=fun pins s σ H Q I q=>wpAny_tests_one (h pins s σ H Q I q)
def tCompW (own:Nat)(ixs:List Nat)(wi:TI)(g:TG)(tt:TT)(te:TE)(σ:St)(H:Hp)(Q:VK):Prop:=wi σ H fun J H1=>∀D,H1 D=none->∃W:Nat->Nat->St->Hp->Prop,(∃m,W 0 m (stB own ixs σ) (upd H1 D (.lst [])))/\∀i m σ' H',W i m σ' H'->
 (J.stop i H'/\(∃acc,H' D=some (.lst acc))/\Q (.ref D) H')\/
 (J.go i H'/\∃N:St->Hp->Prop,(∀σ2 H2,N σ2 H2->∃m',m' < m/\W (i + 1) m' σ2 H2)/\∀x H2,J.yld i H' x H2->g x σ' H2 fun σ3 H3=>tt σ3 H3 fun b H4=>
  if b=true then te σ3 H4 fun v H5=>∃acc,H5 D=some (.lst acc)/\acc.length < sizeLine/\N σ3 (upd H5 D (.lst (acc ++ [v]))) else N σ3 H4)
section
variable {X:Cx}{NB:List Str}{own:Nat}{ixs:List Nat}{scope:Scope}{elt tg iter:Expr}{ifs:List Expr}{pos:Pos}{wi:TI}{g:TG}{tt:TT}{te:TE}
theorem comp_core (hc:X.calm=true)(S:CompScope X NB own ixs scope)
  (hg:∀C ex s3 H3 pn,PG (blk X NB scope C ex s3 H3 pn) tg g) (ht:∀C ex s3 H3 pn,PTs (blk X NB scope C ex s3 H3 pn) ifs tt) (he:∀C ex s3 H3 pn,PE (blk X NB scope C ex s3 H3 pn) elt te)
  {pins:List (Addr×Obj)} {σ:St} {H1:Hp} {s2:Shared} {it:Addr} {fp:List Addr} {tn:Nat->Heap->Prop} {J:It} {Q:VK} (I2:Inv X pins σ H1 s2) (T:Turn X.prog X.w X.K tg J fp it tn) (st2:tn 0 s2.heap) (f2:∀b∈fp,FpOk X pins H1 b)
  (hQ:∀D,H1 D=none->∃W:Nat->Nat->St->Hp->Prop,(∃m,W 0 m (stB own ixs σ) (upd H1 D (.lst [])))/\∀i m σ' H',W i m σ' H'->
   (J.stop i H'/\(∃acc,H' D=some (.lst acc))/\Q (.ref D) H')\/
   (J.go i H'/\∃N:St->Hp->Prop,(∀σ2 H2,N σ2 H2->∃m',m' < m/\W (i + 1) m' σ2 H2)/\∀x H2,J.yld i H' x H2->g x σ' H2 fun σ3 H3=>tt σ3 H3 fun b H4=>
    if b=true then te σ3 H4 fun v H5=>∃acc,H5 D=some (.lst acc)/\acc.length < sizeLine/\N σ3 (upd H5 D (.lst (acc ++ [v]))) else N σ3 H4))
  {E:Value->Shared->Prop} {RR:Value->Addr->Result->Shared->Prop}
  (fin:∀D C H' s' m,Inv X pins σ H' s'->Q (.ref D) H'->s'.heap.Ns C m->H' C=none->C≠X.env.locals->(∀x c,X.env.cells.lookup x=some c->c≠C)->X.s₀.heap.objs.size<=C->(∀p∈X.pn ++ pins,p.1≠C)->RR (.ref D) C (.ok .next) s') :
  wpAny (model X.prog X.w) X.A (newList []) (fun acc s3=>wpAny (model X.prog X.w) X.A (newFunctionEnv scope X.env.globals (clOf X.env.cells scope.names []) [] X.env.qual none .none (some X.env)) (fun cenv s4=>
   codeAny (model X.prog X.w) X.A (.compStart (.ListComp elt [⟨tg,iter,ifs,0⟩] scope pos) 0 (.ref it) acc {cenv with scope:=relabel scope X.env}) (RR acc cenv.locals) s4) E s3) E s2:=by
 refine wpAny_newList ?_ (Nat.zero_le _)
 have hD:H1 s2.heap.objs.size=none:=I2.hok.fresh (Nat.le_refl _)
 obtain⟨W,⟨m0,w0⟩,turn⟩:=hQ s2.heap.objs.size hD
 generalize hs3:({s2 with heap:=s2.heap.push (seqObj "list" ([]:List Value).toArray 0)}:Shared)=s3
 have I3:Inv X pins σ (upd H1 s2.heap.objs.size (.lst [])) s3:=by
  rw [<-hs3]
  exact I2.lnew (ys:=[]) (its:=[]) (t':=s2.toks) .nil (Nat.zero_le _)
 have k3:∀b o,s2.heap.get? b=some o->s3.heap.get? b=some o:=fun b o e=>by rw [<-hs3];exact Heap.get?_push_of_some _ e
 have sz3:s3.heap.objs.size=s2.heap.objs.size + 1:=by rw [<-hs3];exact Heap.size_push ..
 have ob2:∀b∈fp,∃o,s2.heap.get? b=some o:=fun b hb=>let ⟨o,e,_⟩:=T.obj 0 _ st2 b hb;⟨o,e⟩
 have neD:∀b∈fp,b≠s2.heap.objs.size:=fun b hb=>let ⟨o,e⟩:=ob2 b hb;Nat.ne_of_lt (Heap.lt_size e)
 have f3:∀b∈fp,FpOk X pins (upd H1 s2.heap.objs.size (.lst [])) b:=fun b hb=>by
  obtain⟨a1,a2⟩:=f2 b hb
  exact⟨by rw [upd_ne (neD b hb)];exact a1,a2⟩
 have st3:tn 0 s3.heap:=T.keep _ _ _ st2 fun b _ o e=>k3 b o e
 refine wpAny_newFunctionEnv S.nocell (fun y hy=>by simp at hy) (fun h4 hn4 sb4=>?_) S.kind
 have k4:∀b o,s3.heap.get? b=some o->h4.get? b=some o:=fun b o e=>sb4.extBut b o (Nat.ne_of_lt (Heap.lt_size e)) (Heap.get?_push_of_some _ e)
 have I4:Inv (blk X NB scope s3.heap.objs.size fp s3 (upd H1 s2.heap.objs.size (.lst [])) (X.pn ++ pins)) [] (stB own ixs σ) (upd H1 s2.heap.objs.size (.lst [])) {s3 with heap:=h4,toks:=s3.toks + ([]:List (Str×Value)).length}:=
  blk_start S I3 f3 (fun b hb=>let ⟨o,e⟩:=ob2 b hb;⟨o,k3 _ _ e⟩) (by simpa using hn4) k4
 have st4:tn 0 h4:=T.keep _ _ _ st3 fun b _ o e=>k4 b o e
 generalize hB:blk X NB scope s3.heap.objs.size fp s3 (upd H1 s2.heap.objs.size (.lst [])) (X.pn ++ pins)=B at I4
 have hgB:PG B tg g:=by rw [<-hB];exact hg _ _ _ _ _
 have htB:PTs B ifs tt:=by rw [<-hB];exact ht _ _ _ _ _
 have heB:PE B elt te:=by rw [<-hB];exact he _ _ _ _ _
 have eP:B.prog=X.prog:=by rw [<-hB];rfl
 have eW:B.w=X.w:=by rw [<-hB];rfl
 have eK:B.K=X.K:=by rw [<-hB];rfl
 have eA:B.A=X.A:=by rw [<-hB];rfl
 have eC:B.calm=true:=by rw [<-hB];exact hc
 have eX:B.xe=fun _ _=>False:=by rw [<-hB];rfl
 have eE:B.env=compEnvC scope (clOf X.env.cells scope.names []) s3.heap.objs.size X.env:=by rw [<-hB];rfl
 have ex:B.ex=fp:=by rw [<-hB];rfl
 have eL:B.env.locals=s3.heap.objs.size:=by rw [eE];rfl
 have stat:∀{H':Hp},(∀b∈fp,H' b=none)->∀b∈fp,FpOk B [] H' b:=fun {H'} hn b hb=>by
  obtain⟨a1,a2,a3,a4,a5,a6⟩:=f3 b hb
  obtain⟨o,eo⟩:=ob2 b hb
  refine⟨hn b hb,?_,fun z=>?_,.inl (by rw [ex];exact hb),fun x c e z=>?_,fun p hp z=>?_⟩
  ·rw [eL];exact Nat.ne_of_lt (Heap.lt_size (k3 _ _ eo))
  ·have hz:b∈frs X.stack:=by rw [<-hB] at z;exact z
   rcases List.mem_cons.mp (I3.stkSub b hz) with q |q
   ·exact a2 q
   ·exact a3 q
  ·rw [eE] at e
   rcases clOf_back e with⟨m1,m2⟩ |m1
   ·obtain⟨c',e'⟩:=I3.ok.has x (S.frees _ m1 rfl)
    rw [e'] at m2
    exact a5 x c' e' (by rw [<-z,m2];rfl)
   ·simp at m1
  ·have hp':p∈X.pn ++ pins:=by
    rw [<-hB] at hp
    rcases List.mem_append.mp hp with q |q
    ·exact q
    ·cases q
   exact a6 p hp' z
 have back:∀{σ':St} {H':Hp} {s':Shared},Inv B [] σ' H' s'->Inv X pins σ H' s':=fun {σ' H' s'} J'=>by
  have u:=J'.base
  have os:=J'.os
  have bare:=J'.bare
  have hok:=J'.hok
  subst hB
  exact I3.call' (ch:=fp) os u hok bare fun b hb=>by
   obtain⟨a1,a2,a3,a4,a5,a6⟩:=f3 b hb
   exact⟨a4,a2,a5,a6⟩
 have loop:∀s5:Shared,s5={s3 with heap:=h4,toks:=s3.toks + ([]:List (Str×Value)).length}->
   codeAny (model X.prog X.w) X.A (.compLoop (.ListComp elt [⟨tg,iter,ifs,0⟩] scope pos) 0 (.ref it) (.ref s2.heap.objs.size) (compEnvC scope (clOf X.env.cells scope.names []) s3.heap.objs.size X.env)) (RR (.ref s2.heap.objs.size) s3.heap.objs.size) s5:=by
  rintro s5 rfl
  refine comp_loop (fun n s'=>∃i σ' H',Inv B [] σ' H' s'/\tn i s'.heap/\(∀b∈fp,H' b=none)/\W i n σ' H') ?_ m0 ⟨0,_,_,I4,st4,fun b hb=>(f3 b hb).1,w0⟩
  rintro n s6 ⟨i,σ6,H6,I6,st6,fr6,w6⟩
  rcases turn i n σ6 H6 w6 with⟨stop,⟨acc,hacc⟩,qn⟩ | ⟨go,N,hN,step⟩
  ·have:=T.done B eP eW eK eC i [] s6 σ6 H6 (fun _ _=>False) I6 (stat fr6) st6 stop
   rw [eA] at this
   refine thn this fun r s7 ⟨hr,I7⟩=>?_
   subst hr
   obtain⟨m7,hn7,_⟩:=I7.loc
   rw [eL] at hn7
   have J7:=back I7
   refine fin _ _ H6 s7 m7 J7 qn hn7 (by rw [<-eL];exact I7.free) (fun z=>?_) (fun x c e z=>?_) ?_ fun p hp z=>?_
   ·have:=I3.lt
    rw [<-z] at this
    exact Nat.lt_irrefl _ this
   ·obtain⟨v,o,ho,_⟩:=I3.cell x c e
    exact absurd (Heap.lt_size ho) (by rw [z];exact Nat.lt_irrefl _)
   ·exact I3.sz
   ·have:=Heap.lt_size (I3.pin p hp).1
    rw [z] at this
    exact Nat.lt_irrefl _ this
  ·have hitem:=T.item B eP eW eK eC i [] s6 σ6 H6 (fun _ _=>False) I6 (stat fr6) st6 go
   rw [eA] at hitem
   refine thn hitem fun r s7 ⟨u,hr,h7⟩=>?_
   subst hr
   refine thn h7 fun _ s8 ⟨x,H8,I8,r8,y8,st8,fr8⟩=>?_
   have I8':=I8.pinned (stat fr8) (T.obj _ _ st8)
   have ha:=hgB _ s8 σ6 H8 x u _ I8' r8 (step x H8 y8)
   rw [eP,eW,eA,eE,eX] at ha
   refine thn ha fun _ s9 ⟨σ9,H9,I9,q9⟩=>?_
   have hb:=htB _ s9 σ9 H9 _ I9 q9
   rw [eP,eW,eA,eE,eX] at hb
   refine thn hb fun ok s10 ⟨H10,I10,q10⟩=>?_
   have again:∀{σ7:St} {H7:Hp} {s7:Shared},Inv B ([] ++ pinsAt fp s8.heap) σ7 H7 s7->N σ7 H7->∃m,m < n/\∃i σ' H',Inv B [] σ' H' s7/\tn i s7.heap/\(∀b∈fp,H' b=none)/\W i m σ' H':=fun {σ7 H7 s7} I7 n7=>by
    obtain⟨m',hm,w7⟩:=hN σ7 H7 n7
    refine⟨m',hm,i + 1,σ7,H7,I7.unpinned,T.keep _ _ _ st8 fun b hb o e=>(I7.pin (b,o) (List.mem_append_right _ (List.mem_append_right _ (mem_pinsAt hb e)))).1,fun b hb=>?_,w7⟩
    obtain⟨o,e,d⟩:=T.obj _ _ st8 b hb
    exact (I7.pin (b,o) (List.mem_append_right _ (List.mem_append_right _ (mem_pinsAt hb e)))).2.1
   cases ok with
   |false=>
    simp only [Bool.false_eq_true,if_false] at q10 ⊢
    exact again I10 q10
   |true=>
    simp only [if_true] at q10 ⊢
    have hv:=heB _ s10 σ9 H10 _ I10 q10
    rw [eP,eW,eA,eE,eX] at hv
    refine thn hv fun y s11 ⟨v,H11,I11,r11,acc,hacc,hz,q11⟩=>?_
    have hap:=mt_append (X:=B) _ s11 σ9 H11 (.ref s2.heap.objs.size) [v] (.ref s2.heap.objs.size) [y] (fun z H'=>z=.non/\N σ9 H') I11 rfl (.cons r11 .nil) ⟨_,acc,v,rfl,rfl,hacc,hz,rfl,q11⟩
    rw [eP,eW,eA,eX] at hap
    exact thn hap fun _ s12 ⟨_,H12,I12,_,_,q12⟩=>again I12 q12
 exact codeAny_compStart_list (loop _ rfl) (T.self X.A 0 _ _ _ st4 (loop _ rfl))
theorem pe_lcomp (hc:X.calm=true)(S:CompScope X NB own ixs scope)(hi:PI X tg iter wi)
  (hg:∀C ex s3 H3 pn,PG (blk X NB scope C ex s3 H3 pn) tg g) (ht:∀C ex s3 H3 pn,PTs (blk X NB scope C ex s3 H3 pn) ifs tt) (he:∀C ex s3 H3 pn,PE (blk X NB scope C ex s3 H3 pn) elt te)
  (hs:∀x,foldedSetIterable iter X.env x=pure x:=by intro _;rfl) :
  PE X (.ListComp elt [⟨tg,iter,ifs,0⟩] scope pos) (tCompW own ixs wi g tt te):=by
 intro pins s σ H Q I h
 rw [eval_ListComp]
 refine wpAny_comprehension_free (use:=none) rfl hs (closure_eq fun y hy e=>I.ok.has _ (S.frees y hy e)) S.kind (fun y hy e=>by rw [S.names y hy,e]) ?_
 refine thn (hi pins s σ H _ I h) fun v s1 h1=>thn h1 fun itv s2 h2=>?_
 obtain⟨it,fp,tn,J,H2,e,I2,T,st2,f2,q2⟩:=h2
 subst e
 refine comp_core hc S hg ht he I2 T st2 f2 q2 (RR:=fun acc C=>compPost (model X.prog X.w) X.A X.xe none (EP X pins σ Q) acc C) fun D C H' s' m J' q hn hC n1 n2 n3 n4=>?_
 refine⟨m,hn,fun h'' sb=>⟨.ref D,H',?_,rfl,q⟩⟩
 exact J'.turned (t':=s'.toks) (it:=C) (fun b o hb e=>sb.extBut b o hb e) hC n1 (.inr n3) n2 n4
theorem ps_lcomp {i:Nat}{y:Str}{py spos:Pos}(hc:X.calm=true)(S:CompScope X NB own ixs scope)(hi:PI X tg iter wi)
  (hg:∀C ex s3 H3 pn,PG (blk X NB scope C ex s3 H3 pn) tg g) (ht:∀C ex s3 H3 pn,PTs (blk X NB scope C ex s3 H3 pn) ifs tt) (he:∀C ex s3 H3 pn,PE (blk X NB scope C ex s3 H3 pn) elt te)
  (hN:X.N.Nodup) (hy:X.N[i]? =some y) (hl:X.env.scope.names.lookup y=some .local)
  (hsw:swapsWith (.ListComp elt [⟨tg,iter,ifs,0⟩] scope pos) (some (.Name y py)) spos.line X.env=pure true)
  (hs:∀x,foldedSetIterable iter X.env x=pure x:=by intro _;rfl) :
  PS X (.Assign [.Name y py] (.ListComp elt [⟨tg,iter,ifs,0⟩] scope pos) spos) (fun D σ H=>tCompW own ixs wi g tt te σ H fun v H'=>D.nx (σ.set i (some v)) H'):=by
 intro pins s σ H D I h
 rw [exec_Assign_Name_used _ _ _ _ hsw]
 refine wpAny_bind (wpAny_standAt (wpAny_bind ?_))
 show wpAny _ X.A (comprehension (.ListComp elt [⟨tg,iter,ifs,0⟩] scope pos) scope X.env _ (newList []) false (eval iter X.env) (some (assign (.Name y py) X.env)) >>= fun _=>pure ()) _ _ s
 refine wpAny_bind (wpAny_mono (wpAny_comprehension_free (use:=some (assign (.Name y py) X.env)) (Q:=fun _ s'=>SP X pins D .next s') rfl hs (closure_eq fun y hy e=>I.ok.has _ (S.frees y hy e)) S.kind (fun y hy e=>by rw [S.names y hy,e]) ?_)
  (fun _ s' hq=>wpAny_pure (wpAny_pure hq)) fun _ _ e=>e)
 refine thn (hi pins s σ H _ I h) fun v s1 h1=>thn h1 fun itv s2 h2=>?_
 obtain⟨it,fp,tn,J,H2,e,I2,T,st2,f2,q2⟩:=h2
 subst e
 refine comp_core hc S hg ht he I2 T st2 f2 q2 (Q:=fun v H'=>D.nx (σ.set i (some v)) H') (RR:=fun acc C=>compPost (model X.prog X.w) X.A X.xe (some (assign (.Name y py) X.env)) (fun _ s'=>SP X pins D .next s') acc C) fun D' C H' s' m J' q hn hC n1 n2 n3 n4=>?_
 show wpAny _ X.A (assign (.Name y py) X.env (.ref D')) _ _ s'
 refine wpAny_assign_Name (store_ok2 J' hN hy (.inl hl) (v:=.ref D') rfl (fun s'' I'' ⟨a,sb,ha⟩=>?_) (.inr hl))
 have hCa:C≠a:=by
  rcases ha with z |z
  ·rw [z];exact n1
  ·exact (n2 _ _ z).symm
 refine⟨m,hn.sameBut sb hCa,fun h3 sb3=>⟨_,H',?_,q⟩⟩
 exact I''.turned (t':=s''.toks) (it:=C) (fun b o hb e=>sb3.extBut b o hb e) hC n1 (.inr n3) n2 n4
end
section
variable {own:Nat}{ixs:List Nat}{g:TG}{tt:TT}{te:TE}{σ:St}{H:Hp}{Q:VK}{K:PySem.W.Frag}{D a:Addr}{xs:List V}
abbrev CompTurn (g:TG)(tt:TT)(te:TE)(D:Addr)(x:V)(σ:St)(H:Hp)(N:St->Hp->Prop):Prop:=g x σ H fun σ3 H3=>tt σ3 H3 fun b H4=>
  if b=true then te σ3 H4 fun v H5=>∃acc,H5 D=some (.lst acc)/\acc.length < sizeLine/\N σ3 (upd H5 D (.lst (acc ++ [v]))) else N σ3 H4
theorem comp_list (Pv:Nat->St->Hp->Prop)(h0:Pv 0 (stB own ixs σ) (upd H D (.lst [])))(hl:∀i σ H,i<=xs.length->Pv i σ H->SqL K H a xs)
  (hs:∀i x σ H,xs[i]? =some x->Pv i σ H->CompTurn g tt te D x σ H (Pv (i + 1))) (hd:∀σ H,Pv xs.length σ H->(∃acc,H D=some (.lst acc))/\Q (.ref D) H) :
  ∃W:Nat->Nat->St->Hp->Prop,(∃m,W 0 m (stB own ixs σ) (upd H D (.lst [])))/\∀i m σ' H',W i m σ' H'->
   ((Itl K a).stop i H'/\(∃acc,H' D=some (.lst acc))/\Q (.ref D) H')\/
   ((Itl K a).go i H'/\∃N:St->Hp->Prop,(∀σ2 H2,N σ2 H2->∃m',m' < m/\W (i + 1) m' σ2 H2)/\∀x H2,(Itl K a).yld i H' x H2->CompTurn g tt te D x σ' H2 N):=by
 refine⟨fun i m σ H=>m=xs.length - i/\i<=xs.length/\Pv i σ H,⟨xs.length,by simp,Nat.zero_le _,h0⟩,?_⟩
 rintro i m σ H ⟨rfl,hi,p⟩
 have q:=hl i σ H hi p
 by_cases hlt:i < xs.length
 ·refine .inr ⟨⟨xs,xs[i],q,by simp [hlt]⟩,Pv (i + 1),fun σ' H' p'=>⟨xs.length - (i + 1),by omega,rfl,hlt,p'⟩,fun x H' y=>?_⟩
  obtain⟨e,y⟩:=y
  subst e
  exact hs i x σ _ (y xs q) p
 ·have e:i=xs.length:=by omega
  subst e
  exact .inl ⟨⟨xs,q,Nat.le_refl _⟩,hd σ H p⟩
theorem comp_range {lo:Int}{n:Nat}(Pv:Nat->St->Hp->Prop)(h0:Pv 0 (stB own ixs σ) (upd H D (.lst [])))
  (hs:∀i σ H,i < n->Pv i σ H->CompTurn g tt te D (.int (lo + i)) σ H (Pv (i + 1))) (hd:∀σ H,Pv n σ H->(∃acc,H D=some (.lst acc))/\Q (.ref D) H) :
  ∃W:Nat->Nat->St->Hp->Prop,(∃m,W 0 m (stB own ixs σ) (upd H D (.lst [])))/\∀i m σ' H',W i m σ' H'->
   ((Itr lo n).stop i H'/\(∃acc,H' D=some (.lst acc))/\Q (.ref D) H')\/
   ((Itr lo n).go i H'/\∃N:St->Hp->Prop,(∀σ2 H2,N σ2 H2->∃m',m' < m/\W (i + 1) m' σ2 H2)/\∀x H2,(Itr lo n).yld i H' x H2->CompTurn g tt te D x σ' H2 N):=by
 refine⟨fun i m σ H=>m=n - i/\i<=n/\Pv i σ H,⟨n,by simp,Nat.zero_le _,h0⟩,?_⟩
 rintro i m σ H ⟨rfl,hi,p⟩
 by_cases hlt:i < n
 ·refine .inr ⟨hlt,Pv (i + 1),fun σ' H' p'=>⟨n - (i + 1),by omega,rfl,hlt,p'⟩,fun x H' y=>?_⟩
  obtain⟨e,y⟩:=y
  subst e y
  exact hs i σ _ hlt p
 ·have e:i=n:=by omega
  subst e
  exact .inl ⟨Nat.le_refl _,hd σ H p⟩
end
end L2

end

section
namespace L2
open PySem PySem.Spec PyProof.Rows
mutual
inductive Rep (K:PySem.W.Frag)(H:Hp):V->PyData->Prop
 |non:Rep K H .non .none
 |bl (b:Bool):Rep K H (.bl b) (.bool b)
 |int (i:Int):Rep K H (.int i) (.int i)
 |str (x:Str):Rep K H (.str x) (.str x)
 |tup {a:Addr} {xs:List V} {ds:List PyData}:SqT K H a xs->Reps K H xs ds->Rep K H (.ref a) (.tuple ds)
 |lst {a:Addr} {xs:List V} {ds:List PyData}:SqL K H a xs->Reps K H xs ds->Rep K H (.ref a) (.list ds)
inductive Reps (K:PySem.W.Frag)(H:Hp):List V->List PyData->Prop
 |nil:Reps K H [] []
 |cons {x:V} {xs:List V} {d:PyData} {ds:List PyData}:Rep K H x d->Reps K H xs ds->Reps K H (x :: xs) (d :: ds)
end
section
variable {X:Cx}{pins:List (Addr×Obj)}{σ:St}{H H':Hp}{s:Shared}
mutual
theorem Rep.reads (I:Inv X pins σ H s):∀{x:V} {d:PyData} {u:Value},Rep X.K H x d->RelV x u->∃as,Reads s.heap u d as
 |_,_,_,.non,r=>by cases r;exact⟨_,.none⟩
 |_,_,_,.bl b,r=>by cases r;exact⟨_,.bool b⟩
 |_,_,_,.int i,r=>by obtain⟨t,rfl⟩:=r;exact⟨_,.int i t⟩
 |_,_,_,.str x,r=>by obtain⟨t,rfl⟩:=r;exact⟨_,.str x t⟩
 |_,_,_,.tup h hs,r=>by
  cases r
  obtain⟨its,rv,⟨o,ho,hc,n,hd⟩,_⟩:=I.tuple h
  obtain⟨as,q⟩:=Reps.reads I hs rv
  exact⟨_,.tuple ho hc hd (by simpa using q)⟩
 |_,_,_,.lst h hs,r=>by
  cases r
  obtain⟨its,rv,pl,_⟩:=I.list h
  obtain⟨o,ho,hc,n,hd⟩:=pl.isList
  obtain⟨as,q⟩:=Reps.reads I hs rv
  exact⟨_,.list ho hc hd (by simpa using q)⟩
theorem Reps.reads (I:Inv X pins σ H s):∀{xs:List V} {ds:List PyData} {us:List Value},Reps X.K H xs ds->Vals xs us->∃as,ReadsAll s.heap us ds as
 |_,_,_,.nil,r=>by cases r;exact⟨_,.nil⟩
 |_,_,_,.cons h hs,r=>by
  cases r with
  |cons r1 r2=>
   obtain⟨as,q⟩:=Rep.reads I h r1
   obtain⟨bs,q'⟩:=Reps.reads I hs r2
   exact⟨_,.cons q q'⟩
end
def rEqD (K:PySem.W.Frag)(neg:Bool):R2:=fun x y H Q=>∃d e,Rep K H x d/\Rep K H y e/\SeqAt.shaped d=true/\SeqAt.shaped e=true/\Q (.bl (if neg then !PyData.eqv d e else PyData.eqv d e)) H
theorem op_eqD (hu:X.A.units + 64 < cLine):OpR X (compareOp .Eq) (rEqD X.K false):=by
 intro pins s σ H x y v u Q I rx ry h
 obtain⟨d,e,h1,h2,s1,s2,q⟩:=h
 obtain⟨as,r1⟩:=h1.reads I rx
 obtain⟨bs,r2⟩:=h2.reads I ry
 exact SeqAt.compareEq_shaped r1 r2 s1 s2 hu ⟨.bl _,H,I,rfl,q⟩
theorem op_neD (hu:X.A.units + 64 < cLine):OpR X (compareOp .NotEq) (rEqD X.K true):=by
 intro pins s σ H x y v u Q I rx ry h
 obtain⟨d,e,h1,h2,s1,s2,q⟩:=h
 obtain⟨as,r1⟩:=h1.reads I rx
 obtain⟨bs,r2⟩:=h2.reads I ry
 exact SeqAt.compareNe_shaped r1 r2 s1 s2 hu ⟨.bl _,H,I,rfl,q⟩
def rInD (K:PySem.W.Frag)(neg:Bool):R2:=fun x y H Q=>∃p xs d ds,y=.ref p/\(SqL K H p xs\/SqT K H p xs)/\Reps K H xs ds/\Rep K H x d/\SeqAt.shaped d=true/\(∀e,e∈ds->SeqAt.shaped e=true)/\
 Q (.bl (if neg then !(ds.any fun e=>PyData.eqv e d) else ds.any fun e=>PyData.eqv e d)) H
theorem Reps.at' {K:PySem.W.Frag}:∀{xs:List V} {ds:List PyData} {i:Nat} {x:V},Reps K H xs ds->xs[i]? =some x->∃d,ds[i]? =some d/\Rep K H x d
 |_,_,_,_,.nil,e=>by simp at e
 |_,_,0,_,.cons r _,e=>by simp at e;subst e;exact⟨_,rfl,r⟩
 |_,_,i + 1,x,.cons _ t,e=>by
  obtain⟨u,h1,h2⟩:=Reps.at' (i:=i) (x:=x) t (by simpa using e)
  exact⟨u,by simpa using h1,h2⟩
open Classical in
theorem any_data (I:Inv X pins σ H s)(d:PyData):∀{xs:List V} {us:List Value} {ds:List PyData},Vals xs us->Reps X.K H xs ds->(∀e,e∈ds->SeqAt.shaped e=true)->∃f:Value->Bool,us.any f=(ds.any fun e=>PyData.eqv e d)/\∀u,u∈us->∃e as,e∈ds/\Reads s.heap u e as/\f u=PyData.eqv e d:=by
 intro xs us ds hv hr hs
 let f:Value->Bool:=fun u=>if h:∃e as,SeqAt.shaped e=true/\Reads s.heap u e as then PyData.eqv (Classical.choose h) d else false
 have hf:∀{u:Value} {e:PyData} {as:List Addr},SeqAt.shaped e=true->Reads s.heap u e as->f u=PyData.eqv e d:=fun {u e as} h1 h2=>by
  have hx:∃e as,SeqAt.shaped e=true/\Reads s.heap u e as:=⟨e,as,h1,h2⟩
  show (if h:∃e as,SeqAt.shaped e=true/\Reads s.heap u e as then PyData.eqv (Classical.choose h) d else false)=_
  rw [dif_pos hx]
  obtain⟨bs,q1,q2⟩:=Classical.choose_spec hx
  rw [SeqAt.Reads.unique _ _ _ _ _ (SeqAt.canLay_of_shaped q1) q2 h2]
 refine⟨f,?_,?_⟩
 ·induction hv generalizing ds with
  |nil=>cases hr;rfl
  | @cons x u xs us r1 r2 ih=>
   cases hr with
   | @cons _ _ e es h1 h2=>
    obtain⟨as,q⟩:=h1.reads I r1
    rw [List.any_cons,List.any_cons,hf (hs e (List.mem_cons_self ..)) q,ih h2 fun z hz=>hs z (List.mem_cons_of_mem _ hz)]
 ·intro u hu
  obtain⟨i,hi,e0⟩:=List.mem_iff_getElem.mp hu
  have hi':i < xs.length:=by rw [hv.length];exact hi
  obtain⟨u',eu,ru⟩:=hv.get (List.getElem?_eq_getElem hi')
  rw [List.getElem?_eq_getElem hi,e0] at eu
  cases eu
  obtain⟨e,ee,re⟩:=Reps.at' hr (List.getElem?_eq_getElem hi')
  obtain⟨as,q⟩:=re.reads I ru
  have hm:=List.mem_of_getElem? ee
  exact⟨e,as,hm,q,hf (hs e hm) q⟩
theorem op_inD (hu:X.A.units + 100 < cLine):OpR X (compareOp .In) (rInD X.K false):=by
 intro pins s σ H x y v u Q I rx ry h
 obtain⟨p,xs,d,ds,rfl,hq,hs,hx,s1,s2,q⟩:=h
 cases ry
 obtain⟨bs,r2⟩:=hx.reads I rx
 have key:∀{e:PyData} {as:List Addr} {u:Value},SeqAt.shaped e=true->Reads s.heap u e as->SeqAt.EqAt X.A.in1 s u v (PyData.eqv e d):=fun {e as u} h1 h2=>by
  refine SeqAt.eqAt_reads _ _ _ _ _ _ _ _ h2 r2 (SeqAt.canLay_of_shaped h1) (SeqAt.canLay_of_shaped s1) ?_
  have:=SeqAt.depth_of_shaped h1
  show X.A.units + 1 + _ < _
  omega
 rcases hq with hq |hq
 ·obtain⟨its,r,pl,hz⟩:=I.list hq
  obtain⟨f,e1,e2⟩:=any_data I d r hs s2
  refine SeqAt.in_listAt f pl.isList (fun w hw=>?_) ⟨.bl _,H,I,rfl,?_⟩
  ·obtain⟨e,as,hm,rd,ef⟩:=e2 w (by simpa using hw)
   rw [ef];exact key (s2 e hm) rd
  ·rw [show its.toArray.any f=its.any f by simp,e1];exact q
 ·obtain⟨its,r,pl,hz⟩:=I.tuple hq
  obtain⟨f,e1,e2⟩:=any_data I d r hs s2
  refine SeqAt.in_tupleAt f pl (fun w hw=>?_) ⟨.bl _,H,I,rfl,?_⟩
  ·obtain⟨e,as,hm,rd,ef⟩:=e2 w (by simpa using hw)
   rw [ef];exact key (s2 e hm) rd
  ·rw [show its.toArray.any f=its.any f by simp,e1];exact q
inductive TyD (K:PySem.W.Frag)(H:Hp):V->String->Prop
 |non:TyD K H .non "NoneType"
 |bl (b:Bool):TyD K H (.bl b) "bool"
 |int (i:Int):TyD K H (.int i) "int"
 |str (x:Str):TyD K H (.str x) "str"
 |tup {a:Addr} {xs:List V}:SqT K H a xs->TyD K H (.ref a) "tuple"
 |lst {a:Addr} {xs:List V}:SqL K H a xs->TyD K H (.ref a) "list"
 |dic {a:Addr} {kvs:List (Key×V)}:H a=some (.dK kvs)->TyD K H (.ref a) "dict"
def rIsi (K:PySem.W.Frag):List V->Hp->VK->Prop:=fun xs H Q=>∃x T t b,xs= [x,.ty T]/\TyD K H x t/\PySem.W.kitOne K (.type t) (.type T)=some b/\Q (.bl b) H
theorem call_isi:CallR X (.builtin "isinstance") (rIsi X.K):=by
 intro pins s σ H xs us Q I r h
 obtain⟨x,T,t,b,rfl,ty,e,q⟩:=h
 obtain⟨u,c,rfl,rx,rc⟩:=vals2 r
 cases rc
 have fin:∀tk,EP X pins σ Q (.bool b) {s with toks:=tk}:=fun tk=>⟨.bl b,H,I.tok tk,rfl,q⟩
 cases ty with
 |non=>exact isinst_ok I rx .non e fin
 |bl b=>exact isinst_ok I rx (.bl b) e fin
 |int i=>exact isinst_ok I rx (.int i) e fin
 |str z=>exact isinst_ok I rx (.str z) e fin
 |dic hk=>exact isinst_ok I rx (.dK hk) e fin
 |tup hq=>
  cases rx
  obtain⟨its,rv,⟨o,h1,h2,_⟩,_⟩:=I.tuple hq
  exact PySem.W.kia_one PySem.W.kitx_tuple I.kIn ⟨o,h1,h2⟩ e (fun z=>nomatch z) fin
 |lst hq=>
  cases rx
  obtain⟨its,rv,pl,_⟩:=I.list hq
  obtain⟨o,h1,h2,_⟩:=pl.isList
  exact PySem.W.kia_one PySem.W.kitx_list I.kIn ⟨o,h1,h2⟩ e (fun z=>nomatch z) fin
theorem truth_bools {A:Around}{its:List Value}{bs:List Bool}(hv:Vals (bs.map V.bl) its):TruthOf X.prog X.w A (fun i v=>its[i]? =some v) (fun i=>bs.getD i false):=fun i v s Q E hi hq=>by
 have hl:=hv.length
 have hi2:i < bs.length:=by
  have:=(List.getElem?_eq_some_iff.mp hi).1
  rw [<-hl] at this;simpa using this
 obtain⟨u,eu,ru⟩:=hv.get (i:=i) (x:=.bl bs[i]) (by simp [hi2])
 rw [hi] at eu;cases eu
 cases ru
 refine wpAny_truthy_bool ?_
 have:bs.getD i false=bs[i]:=by simp [hi2]
 rw [<-this];exact hq
theorem range_all (bs:List Bool):(List.range bs.length).all (fun i=>bs.getD i false)=bs.all id:=by
 induction bs with
 |nil=>rfl
 |cons b bs ih=>
  rw [List.length_cons,List.range_succ_eq_map,List.all_cons,List.all_map,List.all_cons,<-ih]
  rfl
theorem range_any (bs:List Bool):(List.range bs.length).any (fun i=>bs.getD i false)=bs.any id:=by
 induction bs with
 |nil=>rfl
 |cons b bs ih=>
  rw [List.length_cons,List.range_succ_eq_map,List.any_cons,List.any_map,List.any_cons,<-ih]
  rfl
def rBools (K:PySem.W.Frag)(f:List Bool->Bool):List V->Hp->VK->Prop:=fun xs H Q=>∃a bs,xs= [.ref a]/\SqL K H a (bs.map V.bl)/\Q (.bl (f bs)) H
theorem bools_core (hc:X.calm=true){a:Addr}{bs:List Bool}{Q:VK}(I:Inv X pins σ H s)(hq:SqL X.K H a (bs.map V.bl)){f:List Bool->Bool}{g:(Nat->Bool)->Nat->Bool}(hfg:g (fun i=>bs.getD i false) bs.length=f bs)(q:Q (.bl (f bs)) H) :
  wpAny (model X.prog X.w) X.A.in1 (pyIter (.ref a)) (fun it s2=>∃Ii fp wr n P St tr,it=.ref Ii/\Walks X.prog X.w X.A.in1 Ii fp wr n P St/\St 0 s2.heap/\TruthOf X.prog X.w X.A.in1 P tr/\
   ∀h' tk,(∀b o,b∉wr->s2.heap.get? b=some o->h'.get? b=some o)->EP X pins σ Q (.bool (g tr n)) {s2 with heap:=h',toks:=tk}) X.xe s:=by
 obtain⟨its,rv,pl,hz⟩:=I.list hq
 have hh:X.A.in1.handled=none:=I.ok.hd hc
 have hlen:its.length=bs.length:=by rw [<-rv.length];simp
 obtain⟨o,ho,_⟩:=id pl.isList
 refine wpAny_pyIter_list pl.isList ?_
 have W:=Walks.list (prog:=X.prog) (w:=X.w) hh s.heap.objs.size a (Nat.ne_of_lt (Heap.lt_size ho)) its.toArray
 refine⟨s.heap.objs.size,_,_,_,_,_,fun i=>bs.getD i false,rfl,W,⟨⟨_,Heap.get?_push_size _ rfl,rfl,rfl⟩,pl.isList.push _⟩,?_,fun h' tk k=>?_⟩
 ·have:=truth_bools (X:=X) (A:=X.A.in1) rv
  simpa using this
 ·have e:its.toArray.size=bs.length:=by simpa using hlen
  rw [e,hfg]
  have I1:Inv X pins σ H {s with heap:=s.heap.push {cls:=.type "list_iterator",data:=.fields #[.ref a,.int 0 0]}}:=I.kept (t':=s.toks) fun b o e=>Heap.get?_push_of_some _ e
  have hf:H s.heap.objs.size=none:=I.hok.fresh (Nat.le_refl _)
  have fp:=I.fpOk (H':=H) (b:=s.heap.objs.size) (Nat.le_refl _) hf
  refine⟨.bl _,H,I1.turned (it:=s.heap.objs.size) (t':=tk) (fun b o hb e=>k b o (by simpa using hb) e) hf fp.2.1 fp.2.2.2.1 fp.2.2.2.2.1 fp.2.2.2.2.2,rfl,q⟩
theorem call_all (hc:X.calm=true):CallR X (.builtin "all") (rBools X.K fun bs=>bs.all id):=by
 intro pins s σ H xs us Q I r h
 obtain⟨a,bs,rfl,hq,q⟩:=h
 obtain⟨u,rfl,rx⟩:=vals1 r
 cases rx
 exact call_all_walk (bools_core hc I hq (f:=fun bs=>bs.all id) (g:=fun tr n=>(List.range n).all tr) (range_all bs) q)
theorem call_any (hc:X.calm=true):CallR X (.builtin "any") (rBools X.K fun bs=>bs.any id):=by
 intro pins s σ H xs us Q I r h
 obtain⟨a,bs,rfl,hq,q⟩:=h
 obtain⟨u,rfl,rx⟩:=vals1 r
 cases rx
 exact call_any_walk (bools_core hc I hq (f:=fun bs=>bs.any id) (g:=fun tr n=>(List.range n).any tr) (range_any bs) q)
theorem call_rng:CallR X (.type "range") (fun xs H Q=>∃n:Int,xs= [.int n]/\∀p,H p=none->Q (.ref p) (upd H p (.rng 0 n))):=by
 intro pins s σ H xs us Q I r h
 obtain⟨n,rfl,q⟩:=h
 obtain⟨u,rfl,rx⟩:=vals1 r
 obtain⟨t,rfl⟩:=rx
 refine call_range_1 ⟨.ref s.heap.objs.size,upd H s.heap.objs.size (.rng 0 n),?_,rfl,q _ (I.hok.fresh (Nat.le_refl _))⟩
 exact I.laid (fun b o e=>Heap.get?_push_of_some _ e) (Nat.le_refl _) ⟨_,_,_,Heap.get?_push_size _ rfl⟩
theorem call_list_rng (hc:X.calm=true):CallR X (.type "list") (fun xs H Q=>∃p n,xs= [.ref p]/\H p=some (.rng 0 n)/\0<=n/\n<=1000/\∀l,H l=none->Q (.ref l) (upd H l (.lst ((List.range n.toNat).map fun (i:Nat)=>V.int (i:Int))))):=by
 intro pins s σ H xs us Q I r h
 obtain⟨p,n,rfl,hp,h0,h1,q⟩:=h
 obtain⟨u,rfl,rx⟩:=vals1 r
 cases rx
 obtain⟨t,u,v,hr⟩:∃t u v,s.heap.get? p=some {cls:=.type "range",data:=.fields #[.int 0 t,.int n u,.int 1 v]}:=I.hok p _ hp
 have hsz:Builtin.Range.rangeSize 0 n 1=(n.toNat:Int):=by rw [rangeSize_one];split <;> omega
 refine call_list_range (I.ok.hd hc) hr (small_one (by omega) (by omega) (by omega) (by omega)) hsz (by omega) fun h' tk acc c k hS hacc=>?_
 have hv:Vals ((List.range n.toNat).map fun (i:Nat)=>V.int (i:Int)) acc.toList:=by
  have key:∀(m:Nat) (us:List Value) (j:Nat),us.length=m->(∀(i:Nat) (v:Value),us[i]? =some v->∃t,v=Value.int ((j + i:Nat):Int) t)->Vals ((List.range' j m).map fun (i:Nat)=>V.int (i:Int)) us:=by
   intro m
   induction m with
   |zero=>intro us j hl _;cases us with
    |nil=>exact .nil
    |cons a b=>simp at hl
   |succ m ih=>
    intro us j hl hh
    cases us with
    |nil=>simp at hl
    |cons u us=>
     rw [List.range'_succ,List.map_cons]
     refine .cons (by have:=hh 0 u rfl;simp at this;exact this) (ih us (j + 1) (by simpa using hl) fun i v hi=>?_)
     obtain⟨t,e⟩:=hh (i + 1) v (by simpa using hi)
     exact⟨t,by rw [e];congr 2;omega⟩
  have:=key n.toNat acc.toList 0 (by simpa using hacc.1) fun i v hi=>by
   obtain⟨t,e⟩:=hacc.2 i v (by simpa using hi)
   exact⟨t,by rw [e];simp⟩
  rw [List.range_eq_range'];exact this
 refine⟨.ref s.heap.objs.size,_,I.laid (t':=tk) k (Nat.le_refl _) (show ObjOk X.prog X.w _ h' _ (.lst _) from⟨by simp;rw [sizeLine_eq];omega,acc.toList,c,hv,by simpa using hS⟩),rfl,q _ (I.hok.fresh (Nat.le_refl _))⟩
end
end L2

end

section

end

section

end

section
namespace L2
open PySem PySem.Spec PyProof.Rows
def Rc (h:Heap)(e:Addr)(cls:Value)(T:Addr)(fl:Value):Prop:=∃oe vs oT ts,h.get? e=some oe/\oe.cls=cls/\oe.dict=none/\oe.data=.fields vs/\vs[1]? =some (.ref T)/\T≠e/\h.get? T=some oT/\oT.data=.fields ts/\ts[3]? =some fl
abbrev Keeps (F:List Addr)(ch:List Addr)(h h':Heap):Prop:=∀b o,h.get? b=some o->b∉F->b∉ch->h'.get? b=some o
abbrev Slots (F:List Addr)(h h':Heap):Prop:=∀b o,h.get? b=some o->b∈F->∃sl,h'.get? b=some {o with slots:=sl}
section
variable {M:Model}{A:Around}{E:Value->Shared->Prop}{s:Shared}{base:Heap}{env:Env}{outer:List Env}{L e:Addr}{cls:Value}{Q:Unit->Shared->Prop}
theorem entryD {oe:Obj}{vs:Array Value}{head:Value}{hadNext:Bool}(hfr:A.frames=some (env :: outer))(hl:s.heap.FunFrames base (env :: outer))(hf:env.frame=some L)(he:s.heap.get? e=some oe)(hc:oe.cls=cls)(hdd:oe.dict=none)(hd:oe.data=.fields vs)(hsz:1 < vs.size)
  (h:∀h' T,Keeps (frs (env :: outer)) [e] s.heap h'->Slots (frs (env :: outer)) s.heap h'->s.heap.get? T=none->Rc h' e cls T (rawInt L)->Q () {s with heap:=h'}) :
  wpAny M A (do let a <-frameOf env;let pl <-entryPlaceOf L hadNext;let b <-EntryCells.newEntry head a .none (rawInt L) .none pl;setField (.ref e) 1 b) Q E s:=by
 have eF:e∉frs (env :: outer):=fun z=>by
  obtain⟨_,o,q,n⟩:=hl.mem z
  rw [he] at q;cases q;exact n _ hd
 refine wpAny_bind (wpAny_frameOf_fun hfr hl hf fun h1 s1=>?_)
 refine wpAny_bind (wpAny_entryPlaceOf fun pl hpl=>?_)
 unfold EntryCells.newEntry newFields
 refine wpAny_bind (wpAny_newObj_type ?_ (hpl.sizeOk5 _ _ _ _ _))
 have e1:h1.get? e=some oe:=(s1.2.1 e eF).trans he
 have e2:=Heap.get?_push_of_some (h:=h1) {cls:=.type "traceback",dict:=none,data:=.fields ([head,.ref L,.none,rawInt L,.none] ++ (if pl.isEmpty then List.replicate 6 Value.none else pl)).toArray} e1
 have tn:h1.objs.size≠e:=Nat.ne_of_gt (Heap.lt_size e1)
 refine wpAny_setField e2 hd hsz (h _ h1.objs.size (fun b o q hb hn=>?_) (fun b o q hb=>?_) ?_ ?_)
 ·have hbe:b≠e:=by simpa using hn
  have q1:h1.get? b=some o:=(s1.2.1 b hb).trans q
  rw [Heap.get?_update_other _ _ (Ne.symm hbe)]
  exact Heap.get?_push_of_some _ q1
 ·obtain⟨sl,q1⟩:=s1.2.2 b o q
  have hbe:b≠e:=fun z=>eF (z▸hb)
  refine⟨sl,?_⟩
  rw [Heap.get?_update_other _ _ (Ne.symm hbe)]
  exact Heap.get?_push_of_some _ q1
 ·cases q:s.heap.get? h1.objs.size with
  |none=>rfl
  |some o=>obtain⟨sl,q1⟩:=s1.2.2 _ o q;exact absurd (Heap.lt_size q1) (Nat.lt_irrefl _)
 ·have d3:=Obj.data_mapFields hd (·.setIfInBounds 1 (Value.ref h1.objs.size))
  have e3:=Heap.get?_update_self (Obj.mapFields (·.setIfInBounds 1 (Value.ref h1.objs.size))) e2 (Obj.isFreed_of_fields d3)
  refine⟨_,_,_,_,e3,(Obj.cls_mapFields _ _).trans hc,?_,d3,by simp [hsz],tn,(Heap.get?_update_other _ _ (Ne.symm tn)).trans (Heap.get?_push_size h1 rfl),rfl,?_⟩
  ·unfold Obj.mapFields
   split <;> exact hdd
  ·rcases hpl with rfl | ⟨_,_,_,_,_,_,_,rfl⟩ <;> simp
theorem note_first {oe:Obj}{vs:Array Value}(hfr:A.frames=some (env :: outer))(hl:s.heap.FunFrames base (env :: outer))(hf:env.frame=some L)(he:s.heap.get? e=some oe)(hc:oe.cls=cls)(hdd:oe.dict=none)(hd:oe.data=.fields vs)(h1:vs[1]? =some .none)
  (h:∀h' T,Keeps (frs (env :: outer)) [e] s.heap h'->Slots (frs (env :: outer)) s.heap h'->s.heap.get? T=none->Rc h' e cls T (rawInt L)->Q () {s with heap:=h'}):wpAny M A (noteFrame (.ref e) env) Q E s:=by
 unfold noteFrame
 simp only [hf]
 refine wpAny_bind (wpAny_field he hd h1 ?_)
 rw [if_neg (by decide)]
 exact entryD hfr hl hf he hc hdd hd (Array.getElem?_eq_some_iff.mp h1).1 h
theorem note_next {T0:Addr}(hfr:A.frames=some (env :: outer))(hl:s.heap.FunFrames base (env :: outer))(hf:env.frame=some L)(r:Rc s.heap e cls T0 .none)
  (h:∀h' T,Keeps (frs (env :: outer)) [e,T0] s.heap h'->Slots (frs (env :: outer)) s.heap h'->(s.heap.get? T=none\/T=T0)->Rc h' e cls T (rawInt L)->Q () {s with heap:=h'}):wpAny M A (noteFrame (.ref e) env) Q E s:=by
 obtain⟨oe,vs,oT,ts,he,hc,hdd,hd,h1,hTe,hT,hdT,h3⟩:=r
 have tF:T0∉frs (env :: outer):=fun z=>by
  obtain⟨_,o,q,n⟩:=hl.mem z
  rw [hT] at q;cases q;exact n _ hdT
 unfold noteFrame
 simp only [hf]
 refine wpAny_bind (wpAny_field he hd h1 ?_)
 rw [if_pos (show (Value.ref T0 != Value.none)=true from by simp)]
 refine wpAny_bind (wpAny_field hT hdT h3 ?_)
 rw [if_neg (show ¬((Value.none == rawInt L)=true) from by simp [rawInt])]
 refine wpAny_bind (wpAny_setField hT hdT (Array.getElem?_eq_some_iff.mp h3).1 ?_)
 have oth:∀b,b≠T0->(s.heap.update T0 (Obj.mapFields (·.setIfInBounds 3 Value.none))).get? b=s.heap.get? b:=fun b hb=>Heap.get?_update_other _ _ (Ne.symm hb)
 have nf:∀b o,s.heap.get? b=some o->(∀ws,o.data≠.fields ws)->b≠T0:=fun b o q n z=>by
  rw [z,hT] at q;cases q;exact n _ hdT
 refine entryD (base:=base) hfr (hl.of_keeps fun b o q n=>⟨o,(oth b (nf b o q n)).trans q,rfl⟩) hf ((oth e (Ne.symm hTe)).trans he) hc hdd hd (Array.getElem?_eq_some_iff.mp h1).1 fun h' T kp sl tn rc=>?_
 refine h h' T (fun b o q hb hn=>?_) (fun b o q hb=>?_) ?_ rc
 ·simp only [List.mem_cons,List.not_mem_nil,or_false,not_or] at hn
  exact kp b o ((oth b hn.2).trans q) hb (by simp [hn.1])
 ·exact sl b o ((oth b fun z=>tF (z▸hb)).trans q) hb
 ·by_cases z:T=T0
  ·exact .inr z
  ·exact .inl ((oth T z).symm.trans tn)
theorem flightD {T:Addr}{fl:Value}(r:Rc s.heap e cls T fl)(h:∀h',Keeps [] [T] s.heap h'->Rc h' e cls T .none->Q () {s with heap:=h'}):wpAny M A (setFlight (.ref e) none) Q E s:=by
 obtain⟨oe,vs,oT,ts,he,hc,hdd,hd,h1,hTe,hT,hdT,h3⟩:=r
 have sz:3 < ts.size:=(Array.getElem?_eq_some_iff.mp h3).1
 unfold setFlight
 refine wpAny_bind (wpAny_field he hd h1 ?_)
 rw [if_pos (show (Value.ref T != Value.none)=true from by simp)]
 refine wpAny_setField hT hdT sz (h _ (fun b o q _ hn=>?_) ?_)
 ·have hb:b≠T:=by simpa using hn
  exact (Heap.get?_update_other _ _ (Ne.symm hb)).trans q
 ·have d3:=Obj.data_mapFields hdT (·.setIfInBounds 3 ((none:Option Addr).elim Value.none fun f=>rawInt f))
  exact⟨oe,vs,_,_,(Heap.get?_update_other _ _ hTe).trans he,hc,hdd,hd,h1,hTe,Heap.get?_update_self _ hT (Obj.isFreed_of_fields d3),d3,by simp [sz]⟩
end
end L2

end

section
namespace L2
open PySem PySem.Spec PyProof.Rows
section
variable {P:Program}{w:World}
theorem ObjOk.there {H:Hp}{h:Heap}{a:Addr}{o:HO}(x:ObjOk P w H h a o):∃u,h.get? a=some u:=by
 cases o with
 |lst xs=>obtain⟨_,_,_,_,e⟩:=x;exact⟨_,e⟩
 |tup xs=>obtain⟨_,_,_,u,e,_⟩:=x;exact⟨u,e⟩
 |dK kvs=>obtain⟨_,_,_,_,o,_,_,e,_⟩:=x;exact⟨_,e⟩
 |dT kvs=>obtain⟨_,_,_,_,o,_,_,e,_⟩:=x;exact⟨_,e⟩
 |set S n=>obtain⟨o,_,_,_,e,_⟩:=x;exact⟨_,e⟩
 |ins C dx fs=>obtain⟨_,_,_,e,_⟩:=x;exact⟨_,e⟩
 |own y=>obtain⟨_,e⟩:=x;exact⟨_,e⟩
 |xd fs=>obtain⟨_,⟨_,_,_,e,_⟩,_⟩:=x;exact⟨_,e⟩
 |rng lo hi=>obtain⟨_,_,_,e⟩:=x;exact⟨_,e⟩
 |frz ob u=>obtain⟨e,_⟩:=x;exact⟨_,e⟩
 |tbl ps=>exact⟨_,show h.get? a=some _ from x⟩
 |met f y=>exact⟨_,show h.get? a=some _ from x⟩
 |ext φ=>obtain⟨_,⟨_,e⟩,_⟩:=x;exact⟨_,e⟩
end
structure Lies (h₀:Heap)(H:Hp)(h:Heap)(e:Addr)(cls:Value):Prop where
 free:H e=none
 new:h₀.get? e=none
 ob:∃T,Rc h e cls T .none/\H T=none/\h₀.get? T=none
def CXr (P:Program)(w:World):CXT:=fun outer H s E e s'=>∃ea cls H',e=.ref ea/\s'.os=s.os/\AllBare s'.gens/\Un (frs outer) [] H H' s.heap s'.heap/\HOk P w H' s'.heap/\Lies s.heap H' s'.heap ea cls/\E cls none H'
section
variable {P:Program}{w:World}{M:Model}{A:Around}{E':Value->Shared->Prop}{s:Shared}{env:Env}{outer:List Env}{L e:Addr}{cls:Value}{base h₀:Heap}{H:Hp}{Q:Unit->Shared->Prop}
theorem hok_kept {h h':Heap}(hok:HOk P w H h)(k:∀b o,h.get? b=some o->(∃u,H b=some u)->h'.get? b=some o):HOk P w H h':=fun a o ha=>
 (hok a o ha).stay (fun b u hb q=>k b u q (hb.elim (fun z=>⟨o,by rw [z];exact ha⟩) fun z=>⟨_,z⟩)) (fun _ q=>q) fun _ _ q=>q
theorem leave_on (hfr:A.frames=some (env :: outer))(hf:env.frame=some L)(hfn:s.heap.FunFrames base (env :: outer))(hok:HOk P w H s.heap)(hff:∀b∈frs (env :: outer),H b=none)(Ly:Lies h₀ H s.heap e cls)(hex:∀b o,h₀.get? b=some o->∃o',s.heap.get? b=some o')
  (hQ:∀h',(∀b o,s.heap.get? b=some o->b∉frs (env :: outer)->((∃o0,h₀.get? b=some o0)\/∃u,H b=some u)->h'.get? b=some o)->(∀b o,s.heap.get? b=some o->b∈frs (env :: outer)->∃sl,h'.get? b=some {o with slots:=sl})->Lies h₀ H h' e cls->HOk P w H h'->Q () {s with heap:=h'}) :
  wpAny M A (leaving env (.ref e)) Q E' s:=by
 obtain⟨fr,nw,T0,rc,hHT,hnT⟩:=Ly
 obtain⟨oe,vs,oT,ts,he,hc,hdd,hd,h1,hTe,hT,hdT,h3⟩:=id rc
 have tF:T0∉frs (env :: outer):=fun z=>by
  obtain⟨_,o,q,n⟩:=hfn.mem z
  rw [hT] at q;cases q;exact n _ hdT
 unfold leaving
 refine wpAny_bind (note_next hfr hfn hf rc fun h4 T kp sl tn rc4=>flightD rc4 fun h5 kp5 rc5=>?_)
 have nT:∀b o,s.heap.get? b=some o->b≠T0->b≠T:=fun b o q n z=>by
  rcases tn with tn |tn
  ·rw [z,tn] at q;cases q
  ·exact n (z.trans tn)
 have kept:∀b o,s.heap.get? b=some o->b∉frs (env :: outer)->((∃o0,h₀.get? b=some o0)\/∃u,H b=some u)->h5.get? b=some o:=fun b o q hb hor=>by
  have be:b≠e:=fun z=>by subst z;rcases hor with⟨_,z⟩ | ⟨_,z⟩ <;> simp_all
  have bT:b≠T0:=fun z=>by subst z;rcases hor with⟨_,z⟩ | ⟨_,z⟩ <;> simp_all
  exact kp5 b o (kp b o q hb (by simp [be,bT])) (by simp) (by simp [nT b o q bT])
 have slot:∀b o,s.heap.get? b=some o->b∈frs (env :: outer)->∃sl,h5.get? b=some {o with slots:=sl}:=fun b o q hb=>by
  obtain⟨x,q4⟩:=sl b o q hb
  exact⟨x,kp5 b _ q4 (by simp) (by simp [nT b o q fun z=>tF (z▸hb)])⟩
 have fresh:H T=none/\h₀.get? T=none:=by
  rcases tn with tn |tn
  ·refine⟨?_,?_⟩
   ·cases q:H T with
    |none=>rfl
    |some u=>obtain⟨o,qo⟩:=(hok T u q).there;rw [tn] at qo;cases qo
   ·cases q:h₀.get? T with
    |none=>rfl
    |some u=>obtain⟨o,qo⟩:=hex T u q;rw [tn] at qo;cases qo
  ·rw [tn];exact⟨hHT,hnT⟩
 refine hQ h5 kept slot ⟨fr,nw,T,rc5,fresh.1,fresh.2⟩ (hok_kept hok fun b o q hu=>kept b o q (fun z=>?_) (.inr hu))
 obtain⟨u,hu⟩:=hu
 rw [hff b z] at hu;cases hu
theorem leave_made {h:Heap}{args:List Value}(hfr:A.frames=some (env :: outer))(hf:env.frame=some L)(hfn:h.FunFrames base (env :: outer))(hok:HOk P w H h)(hff:∀b∈frs (env :: outer),H b=none)(hex:∀b o,h₀.get? b=some o->∃o',h.get? b=some o')(hx:Heap.MadeExcOf h s.heap e cls args)
  (hQ:∀h',(∀b o,h.get? b=some o->b∉frs (env :: outer)->h'.get? b=some o)->(∀b o,h.get? b=some o->b∈frs (env :: outer)->∃sl,h'.get? b=some {o with slots:=sl})->Lies h₀ H h' e cls->HOk P w H h'->Q () {s with heap:=h'}) :
  wpAny M A (leaving env (.ref e)) Q E' s:=by
 obtain⟨t,he,_,_⟩:=hx.there
 unfold leaving
 refine wpAny_bind (note_first (cls:=cls) hfr (hfn.of_keeps fun b o q _=>⟨o,hx.keeps b o q,rfl⟩) hf he rfl rfl rfl rfl fun h4 T kp sl tn rc4=>flightD rc4 fun h5 kp5 rc5=>?_)
 have ne:∀b o,h.get? b=some o->b≠e:=fun b o q z=>by rw [z,hx.new] at q;cases q
 have nT:∀b o,h.get? b=some o->b≠T:=fun b o q z=>by
  have:=hx.keeps b o q
  rw [z,tn] at this;cases this
 have kept:∀b o,h.get? b=some o->b∉frs (env :: outer)->h5.get? b=some o:=fun b o q hb=>kp5 b o (kp b o (hx.keeps b o q) hb (by simp [ne b o q])) (by simp) (by simp [nT b o q])
 have slot:∀b o,h.get? b=some o->b∈frs (env :: outer)->∃sl,h5.get? b=some {o with slots:=sl}:=fun b o q hb=>by
  obtain⟨x,q4⟩:=sl b o (hx.keeps b o q) hb
  exact⟨x,kp5 b _ q4 (by simp) (by simp [nT b o q])⟩
 have fresh:∀{b:Addr},h.get? b=none->H b=none/\h₀.get? b=none:=fun {b} hb=>by
  refine⟨?_,?_⟩
  ·cases q:H b with
   |none=>rfl
   |some u=>obtain⟨o,qo⟩:=(hok b u q).there;rw [hb] at qo;cases qo
  ·cases q:h₀.get? b with
   |none=>rfl
   |some u=>obtain⟨o,qo⟩:=hex b u q;rw [hb] at qo;cases qo
 have no:h.get? T=none:=by
  cases q:h.get? T with
  |none=>rfl
  |some o=>exact absurd rfl (nT T o q)
 obtain⟨f1,f2⟩:=fresh hx.new
 obtain⟨g1,g2⟩:=fresh no
 refine hQ h5 kept slot ⟨f1,f2,T,rc5,g1,g2⟩ (hok_kept hok fun b o q hu=>kept b o q fun z=>?_)
 obtain⟨u,hu⟩:=hu
 rw [hff b z] at hu;cases hu
end
section
variable {P:Program}{w:World}{K:PySem.W.Frag}{mg:Str->Option Value}{base:Heap}{N:List Str}{qual:Str}{scope:Scope}{f:Addr}{cd:Value}{A:Around}{outer:List Env}{s0:Shared}{H0:Hp}{E:XK}
theorem passR:Passes (CXr P w) (cxOf (CXr P w) P w K mg base N qual scope f cd A outer s0 H0 E) E:=by
 intro pins σ H s e s' I hcx
 obtain⟨ea,cls,H',rfl,os,bare,un,hok,Ly,q⟩:=hcx
 have I':=I.call' os un hok bare (fun b hb=>absurd hb (by simp))
 have old:∀{b:Addr},s.heap.get? b=none->s0.heap.get? b=none:=fun {b} hb=>by
  cases z:s0.heap.get? b with
  |none=>rfl
  |some o=>obtain⟨o',z'⟩:=I.base.there b o z (show b∉([]:List Addr) by simp);rw [hb] at z';cases z'
 have Ly0:Lies s0.heap H' s'.heap ea cls:=by
  obtain⟨fr,nw,T,rc,hHT,hnT⟩:=Ly
  exact⟨fr,old nw,T,rc,hHT,old hnT⟩
 have above:s0.heap.objs.size<=(envOfC qual scope s0.heap.objs.size f cd).locals:=I.ok.above
 refine leave_on (base:=base) (h₀:=s0.heap) I'.ok.frames rfl I'.stack I'.hok I'.stkFree Ly0 (fun b o z=>I'.base.there b o z (show b∉([]:List Addr) by simp)) fun h' kept slot Ly' hok'=>?_
 have nL:∀{b:Addr} {o:Obj},s0.heap.get? b=some o->b∉frs outer->b∉frs (envOfC qual scope s0.heap.objs.size f cd :: outer):=fun {b o} z hb hm=>by
  rcases List.mem_cons.mp (I'.stkSub b hm) with e |e
  ·have:=Heap.lt_size z
   rw [e] at this
   exact absurd (Nat.lt_of_lt_of_le this above) (Nat.lt_irrefl _)
  ·exact hb e
 have inn:∀{b:Addr},b∈frs outer->b∈frs (envOfC qual scope s0.heap.objs.size f cd :: outer):=fun {b} hb=>by
  obtain⟨en,h1,h2⟩:=List.mem_filterMap.mp hb
  exact List.mem_filterMap.mpr ⟨en,List.mem_cons_of_mem _ h1,h2⟩
 refine⟨ea,cls,H',rfl,os.trans I.os,bare,⟨fun b o z n hb _=>?_,fun b o z n hb _=>?_,fun b o z n _=>I'.base.free b o z n (show b∉([]:List Addr) by simp),fun b o z _=>?_,I'.base.tups,I'.base.frzs,I'.base.tbls⟩,hok',Ly',q⟩
 ·exact kept b o (I'.base.keep b o z n hb (show b∉([]:List Addr) by simp)) (nL z hb) (.inl ⟨o,z⟩)
 ·obtain⟨sl,z1⟩:=I'.base.slot b o z n hb (show b∉([]:List Addr) by simp)
  obtain⟨sl2,z2⟩:=slot b _ z1 (inn hb)
  exact⟨sl2,z2⟩
 ·obtain⟨o',z1⟩:=I'.base.there b o z (show b∉([]:List Addr) by simp)
  by_cases hb:b∈frs (envOfC qual scope s0.heap.objs.size f cd :: outer)
  ·obtain⟨sl,z2⟩:=slot b o' z1 hb
   exact⟨_,z2⟩
  ·exact⟨o',kept b o' z1 hb (.inl ⟨o,z⟩)⟩
def tRaise (C:Addr)(E:XK)(t:TA):TS:=fun _ σ H=>t σ H fun vs H1=>vs.length<=sizeLine/\E (.ref C) none H1
theorem ps_raise {x:Str}{C:Addr}{np cpos pos:Pos}{e0:Expr}{es:List Expr}{t:TA}{Bn newId initId:String}{bmB:List Value}(FB:ExcBaseFacts Bn newId initId bmB)(hbb:bmB.contains (.type "BaseException")=true)(q:PySem.W.excIn K C bmB newId=true)
  (hg:Gl (cxOf (CXr P w) P w K mg base N qual scope f cd A outer s0 H0 E) x) (hm:mg x=some (.ref C)) (ha:PA (cxOf (CXr P w) P w K mg base N qual scope f cd A outer s0 H0 E) (e0 :: es) t)
  (he:starEach (e0 :: es) (envOfC qual scope s0.heap.objs.size f cd)=(false,eval e0 (envOfC qual scope s0.heap.objs.size f cd)) :: starEach es (envOfC qual scope s0.heap.objs.size f cd):=by rfl)
  (hpl:(backTo cpos (starEach es (envOfC qual scope s0.heap.objs.size f cd))).any (·.1)=false:=by rfl) (hdb:(x == ("__debug__":Str))=false:=by decide) :
  PS (cxOf (CXr P w) P w K mg base N qual scope f cd A outer s0 H0 E) (.Raise (some (.Call (.Name x np) (e0 :: es) [] cpos)) none pos) (tRaise C E t):=by
 intro pins s σ H D I h
 have own:∀{hh:Heap},K.In hh->∃bm Nn nm qn bs hdct sn sub ab col dd k0 k1 k2 k3 k5 mN,hh.get? C=some (excClassObj nm qn C Nn bs bm hdct sn sub ab col dd k0 k1 k2 k3 k5 newId)/\hh.Ns Nn mN/\mN "__init__"=none/\OwnTail hh bmB bm:=fun {hh} X=>by
  have q:=q
  unfold PySem.W.excIn at q
  split at q
  ·rename_i dd cdd sl ho
   split at q
   ·rename_i C' bm k0 k1 k2 k3 n k5 hm hs
    simp only [Bool.and_eq_true,beq_iff_eq,Bool.not_eq_true'] at q
    obtain⟨⟨⟨⟨⟨rfl,rfl⟩,hdel⟩,ht⟩,hok⟩,hni⟩:=q
    obtain⟨nm,bs,mro,ns,qn,hd,sn,sub,ab,col,del⟩:=cdd
    dsimp only at hm hdel hok hni
    subst hm hdel
    have hsl:sl=#[k0,k1,k2,k3,some (.builtin n),k5]:=by
     obtain⟨l⟩:=sl
     simp only at hs
     rw [hs]
    subst hsl
    exact⟨bm,ns,nm,qn,bs,hd,sn,sub,ab,col,dd,k0,k1,k2,k3,k5,_,X _ _ ho,.of_isNs (PySem.W.isNs_of_in X hok),PySem.W.nsMap_none_of_in X hok hni,PySem.W.tail_of_in X ht⟩
   ·cases q
  ·cases q
 obtain⟨bm,Nn,nm,qn,bs,hdct,sn,sub,ab,col,dd,k0,k1,k2,k3,k5,mN,hC,hN,hni,TL⟩:=own I.ok.mod.kin
 have hA:=ha cpos pins s σ H _ I h
 refine wpAny_Raise_call_subT (C:=C) (nm:=nm) (q:=qn) (N:=Nn) (bs:=bs) (bm:=bm) (hdct:=hdct) (sn:=sn) (sub:=sub) (ab:=ab) (col:=col) (dd:=dd) (k0:=k0) (k1:=k1) (k2:=k2) (k3:=k3) (k5:=k5) FB (mN:=mN) (TL.hasType hbb) (I.ok.hd rfl) ?_ hni (ld_glob I hg hm ⟨rfl,?_⟩ hdb)
 ·show (backTo cpos (starEach (e0 :: es) (envOfC qual scope s0.heap.objs.size f cd))).any (·.1)=false
  rw [he]
  show (false || (backTo cpos (starEach es (envOfC qual scope s0.heap.objs.size f cd))).any (·.1))=false
  rw [hpl];rfl
 have hA:wpAny _ _ (spliced (backTo cpos (starEach (e0 :: es) (envOfC qual scope s0.heap.objs.size f cd)))) _ _ s:=hA
 show wpAny _ _ (evalArgs (.ref C) true (backTo cpos (starEach (e0 :: es) (envOfC qual scope s0.heap.objs.size f cd))) []) _ _ s
 rw [he] at hA ⊢
 refine Calls.evalArgs_plain (thn hA fun us s2 ⟨vs,H2,I2,r2,hl2,q2⟩=>⟨rfl,by show us.length<=_;rw [<-r2.length];exact hl2,I2.bk _ _ hC,hN.keeps I2.bk,TL.keeps I2.bk,fun h' e hx=>?_⟩)
 have above:s0.heap.objs.size<=(envOfC qual scope s0.heap.objs.size f cd).locals:=I2.ok.above
 have nil:∀b:Addr,b∉([]:List Addr):=fun b=>by simp
 refine leave_made (s:={s2 with heap:=h'}) (h:=s2.heap) (base:=base) (h₀:=s0.heap) I2.ok.frames rfl I2.stack I2.hok I2.stkFree (fun b o z=>I2.base.there b o z (nil b)) hx fun h2 kept slot Ly hok=>?_
 have nL:∀{b:Addr} {o:Obj},s0.heap.get? b=some o->b∉frs outer->b∉frs (envOfC qual scope s0.heap.objs.size f cd :: outer):=fun {b o} z hb hm=>by
  rcases List.mem_cons.mp (I2.stkSub b hm) with e |e
  ·have:=Heap.lt_size z
   rw [e] at this
   exact absurd (Nat.lt_of_lt_of_le this above) (Nat.lt_irrefl _)
  ·exact hb e
 have inn:∀{b:Addr},b∈frs outer->b∈frs (envOfC qual scope s0.heap.objs.size f cd :: outer):=fun {b} hb=>by
  obtain⟨en,h1,h2⟩:=List.mem_filterMap.mp hb
  exact List.mem_filterMap.mpr ⟨en,List.mem_cons_of_mem _ h1,h2⟩
 refine⟨e,.ref C,H2,rfl,I2.os,I2.bare,⟨fun b o z n hb _=>?_,fun b o z n hb _=>?_,fun b o z n _=>I2.base.free b o z n (nil b),fun b o z _=>?_,I2.base.tups,I2.base.frzs,I2.base.tbls⟩,hok,Ly,q2⟩
 ·exact kept b o (I2.base.keep b o z n hb (nil b)) (nL z hb)
 ·obtain⟨sl,z1⟩:=I2.base.slot b o z n hb (nil b)
  obtain⟨sl2,z2⟩:=slot b _ z1 (inn hb)
  exact⟨sl2,z2⟩
 ·obtain⟨o',z1⟩:=I2.base.there b o z (nil b)
  by_cases hb:b∈frs (envOfC qual scope s0.heap.objs.size f cd :: outer)
  ·obtain⟨sl,z2⟩:=slot b o' z1 hb
   exact⟨_,z2⟩
  ·exact⟨o',kept b o' z1 hb⟩
end
end L2

end

section

end

section
namespace L2
open PySem PySem.Spec PyProof.Rows
def mroIn (K:PySem.W.Frag)(C:Addr):List Value:=match K.lookup C with
 |some ⟨_,_,.cls cd,_⟩=>cd.mro
 |_=>[]
end L2

end

section
namespace L2
open PySem PySem.Spec PyProof.Rows
structure RoomH (k:Nat)(A:Around):Prop where
 dp:A.depth + 3 * k + 5 < recursionLimit
 un:A.units + 16 * k + 200 < cLine
 gd:A.guards=some []
theorem Room.h {k:Nat}{A:Around}(r:Room k A):RoomH k A:=⟨r.dp,r.un,r.gd⟩
theorem RoomH.units {k:Nat}{A:Around}(r:RoomH k A):A.units + 64 < cLine:=by have:=r.un;omega
section
variable {P:Program}{w:World}{K:PySem.W.Frag}{mg:Str->Option Value}{base:Heap}
theorem Fun.okR {x qual:Str}{st:Stmt}{f:Addr}{fd:FuncData}{N ps:List Str}{k:Nat}{sp:Sp}(F:Fun K x qual st f fd)(S:FnScope N ps (defScope st))(len:∀vs H Q E,sp vs H Q E->vs.length=ps.length)
  (hbody:∀(cdv:Value) (A:Around) (outer:List Env) (s:Shared) (H:Hp) (vs:List V) (Q:VK) (E:XK),Room k (A.deeper (envOfC qual (defScope st) s.heap.objs.size f cdv))->sp vs H Q E->
   ∃t,PSs (cxOf (CXr P w) P w K mg base N qual (defScope st) f cdv A outer s H E) (defBody st) t/\t {nx:=fun _ H'=>Q .non H',rt:=Q} (start N vs) H):FnOk P w K mg base (CXr P w) (k + 1) f fd ps sp:=by
 obtain⟨oc,od,kV,doc,pm,an,cdv,ct,osl,rfl,lk,hcd⟩:=F.ex
 exact fn_of lk hcd S len fun A outer s H vs Q E hr hsp=>hbody cdv A outer s H vs Q E hr hsp
end
end L2

end

section

end

section

end

section
namespace L2
open PySem PySem.Spec PyProof.Rows
section
variable {X:Cx}
theorem op_notInD (hu:X.A.units + 100 < cLine):OpR X (compareOp .NotIn) (rInD X.K true):=by
 intro pins s σ H x y v u Q I rx ry h
 obtain⟨p,xs,d,ds,rfl,hq,hs,hx,s1,s2,q⟩:=h
 cases ry
 obtain⟨bs,r2⟩:=hx.reads I rx
 have key:∀{e:PyData} {as:List Addr} {u:Value},SeqAt.shaped e=true->Reads s.heap u e as->SeqAt.EqAt X.A.in1 s u v (PyData.eqv e d):=fun {e as u} h1 h2=>by
  refine SeqAt.eqAt_reads _ _ _ _ _ _ _ _ h2 r2 (SeqAt.canLay_of_shaped h1) (SeqAt.canLay_of_shaped s1) ?_
  have:=SeqAt.depth_of_shaped h1
  show X.A.units + 1 + _ < _
  omega
 rcases hq with hq |hq
 ·obtain⟨its,r,pl,hz⟩:=I.list hq
  obtain⟨f,e1,e2⟩:=any_data I d r hs s2
  refine SeqAt.notIn_listAt f pl.isList (fun w hw=>?_) ⟨.bl _,H,I,rfl,?_⟩
  ·obtain⟨e,as,hm,rd,ef⟩:=e2 w (by simpa using hw)
   rw [ef];exact key (s2 e hm) rd
  ·rw [show its.toArray.any f=its.any f by simp,e1];exact q
 ·obtain⟨its,r,pl,hz⟩:=I.tuple hq
  obtain⟨f,e1,e2⟩:=any_data I d r hs s2
  refine SeqAt.notIn_tupleAt f pl (fun w hw=>?_) ⟨.bl _,H,I,rfl,?_⟩
  ·obtain⟨e,as,hm,rd,ef⟩:=e2 w (by simpa using hw)
   rw [ef];exact key (s2 e hm) rd
  ·rw [show its.toArray.any f=its.any f by simp,e1];exact q
end
end L2

end

section
namespace L2
open PySem PySem.Spec PyProof.Rows
abbrev D:=PyData
def kD:Key->D
 | .inl i=>.int i
 | .inr x=>.str x
mutual
inductive Rp (K:PySem.W.Frag)(G:Hp):V->D->Prop
 |non:Rp K G .non .none
 |bl (b:Bool):Rp K G (.bl b) (.bool b)
 |int (i:Int):Rp K G (.int i) (.int i)
 |str (x:Str):Rp K G (.str x) (.str x)
 |tup {a:Addr} {xs:List V} {ds:List D}:SqT K G a xs->Rps K G xs ds->Rp K G (.ref a) (.tuple ds)
 |lst {a:Addr} {xs:List V} {ds:List D}:G a=some (.lst xs)->Rps K G xs ds->Rp K G (.ref a) (.list ds)
 |scr {a:Addr} {ns:List Int}:SqL K G a (ns.map V.int)->Rp K G (.ref a) (.dict [(.none,.list (ns.map PyData.int))])
 |dK {a:Addr} {kvs:List (Key×V)} {ds:List (D×D)}:G a=some (.dK kvs)->RpK K G kvs ds->Rp K G (.ref a) (.dict ds)
 |dT {a:Addr} {kvs:List (List Key×V)} {ds:List (D×D)}:G a=some (.dT kvs)->RpT K G kvs ds->Rp K G (.ref a) (.dict ds)
inductive Rps (K:PySem.W.Frag)(G:Hp):List V->List D->Prop
 |nil:Rps K G [] []
 |cons {x:V} {xs:List V} {d:D} {ds:List D}:Rp K G x d->Rps K G xs ds->Rps K G (x :: xs) (d :: ds)
inductive RpK (K:PySem.W.Frag)(G:Hp):List (Key×V)->List (D×D)->Prop
 |nil:RpK K G [] []
 |cons {k:Key} {x:V} {xs:List (Key×V)} {d:D} {ds:List (D×D)}:Rp K G x d->RpK K G xs ds->RpK K G ((k,x) :: xs) ((kD k,d) :: ds)
inductive RpT (K:PySem.W.Frag)(G:Hp):List (List Key×V)->List (D×D)->Prop
 |nil:RpT K G [] []
 |cons {k:List Key} {x:V} {xs:List (List Key×V)} {d:D} {ds:List (D×D)}:Rp K G x d->RpT K G xs ds->RpT K G ((k,x) :: xs) ((.tuple (k.map kD),d) :: ds)
end
section
variable {K:PySem.W.Frag}{G G' H H':Hp}
theorem Rd.mono {a:Addr}{u:HO}(h:Rd G a u)(s:Same G G'):Rd G' a u:=h.elim (fun e=>.inl (s _ _ e)) fun⟨o,e⟩=>.inr ⟨o,s _ _ e⟩
mutual
theorem Rp.mono (s:Same G G'):∀{x:V} {d:D},Rp K G x d->Rp K G' x d
 |_,_,.non=>.non
 |_,_,.bl b=>.bl b
 |_,_,.int i=>.int i
 |_,_,.str x=>.str x
 |_,_,.tup h hs=>.tup (h.grow s.grow) (Rps.mono s hs)
 |_,_,.lst h hs=>.lst (s _ _ h) (Rps.mono s hs)
 |_,_,.scr h=>.scr (s.seq h)
 |_,_,.dK h hs=>.dK (s _ _ h) (RpK.mono s hs)
 |_,_,.dT h hs=>.dT (s _ _ h) (RpT.mono s hs)
theorem Rps.mono (s:Same G G'):∀{xs:List V} {ds:List D},Rps K G xs ds->Rps K G' xs ds
 |_,_,.nil=>.nil
 |_,_,.cons h hs=>.cons (Rp.mono s h) (Rps.mono s hs)
theorem RpK.mono (s:Same G G'):∀{xs:List (Key×V)} {ds:List (D×D)},RpK K G xs ds->RpK K G' xs ds
 |_,_,.nil=>.nil
 |_,_,.cons h hs=>.cons (Rp.mono s h) (RpK.mono s hs)
theorem RpT.mono (s:Same G G'):∀{xs:List (List Key×V)} {ds:List (D×D)},RpT K G xs ds->RpT K G' xs ds
 |_,_,.nil=>.nil
 |_,_,.cons h hs=>.cons (Rp.mono s h) (RpT.mono s hs)
end
theorem Rps.len:∀{xs:List V} {ds:List D},Rps K G xs ds->xs.length=ds.length
 |_,_,.nil=>rfl
 |_,_,.cons _ t=>by simp [Rps.len t]
theorem Rps.at:∀{xs:List V} {ds:List D} {i:Nat} {d:D},Rps K G xs ds->ds[i]? =some d->∃x,xs[i]? =some x/\Rp K G x d
 |_,_,_,_,.nil,e=>by simp at e
 |_,_,0,_,.cons r _,e=>by simp at e;subst e;exact⟨_,rfl,r⟩
 |_,_,i + 1,x,.cons _ t,e=>by
  obtain⟨u,h1,h2⟩:=Rps.at (i:=i) (d:=x) t (by simpa using e)
  exact⟨u,by simpa using h1,h2⟩
theorem Rps.at':∀{xs:List V} {ds:List D} {i:Nat} {x:V},Rps K G xs ds->xs[i]? =some x->∃d,ds[i]? =some d/\Rp K G x d
 |_,_,_,_,.nil,e=>by simp at e
 |_,_,0,_,.cons r _,e=>by simp at e;subst e;exact⟨_,rfl,r⟩
 |_,_,i + 1,x,.cons _ t,e=>by
  obtain⟨u,h1,h2⟩:=Rps.at' (i:=i) (x:=x) t (by simpa using e)
  exact⟨u,by simpa using h1,h2⟩
theorem Rps.append:∀{xs ys:List V} {ds es:List D},Rps K G xs ds->Rps K G ys es->Rps K G (xs ++ ys) (ds ++ es)
 |_,_,_,_,.nil,s=>s
 |_,_,_,_,.cons r t,s=>.cons r (Rps.append t s)
theorem Rps.snoc {xs:List V}{ds:List D}{x:V}{d:D}(h:Rps K G xs ds)(q:Rp K G x d):Rps K G (xs ++ [x]) (ds ++ [d]):=h.append (.cons q .nil)
theorem Rps.take:∀{xs:List V} {ds:List D} (n:Nat),Rps K G xs ds->Rps K G (xs.take n) (ds.take n)
 |_,_,0,_=>.nil
 |_,_,_ + 1,.nil=>.nil
 |_,_,n + 1,.cons r t=>.cons r (Rps.take n t)
theorem Rps.drop:∀{xs:List V} {ds:List D} (n:Nat),Rps K G xs ds->Rps K G (xs.drop n) (ds.drop n)
 |_,_,0,r=>r
 |_,_,_ + 1,.nil=>.nil
 |_,_,n + 1,.cons _ t=>Rps.drop n t
mutual
def noD:D->Bool
 | .dict _=>false
 | .list ds=>noDs ds
 | .tuple ds=>noDs ds
 |_=>true
def noDs:List D->Bool
 | []=>true
 |d :: ds=>noD d && noDs ds
end
mutual
theorem Rp.rep:∀{x:V} {d:D},Rp K G x d->noD d=true->Rep K G x d
 |_,_,.non,_=>.non
 |_,_,.bl b,_=>.bl b
 |_,_,.int i,_=>.int i
 |_,_,.str x,_=>.str x
 |_,_,.tup h hs,e=>.tup h (Rps.reps hs (by simpa [noD] using e))
 |_,_,.lst h hs,e=>.lst (.inl (.inl h)) (Rps.reps hs (by simpa [noD] using e))
 |_,_,.scr _,e=>by simp [noD] at e
 |_,_,.dK _ _,e=>by simp [noD] at e
 |_,_,.dT _ _,e=>by simp [noD] at e
theorem Rps.reps:∀{xs:List V} {ds:List D},Rps K G xs ds->noDs ds=true->Reps K G xs ds
 |_,_,.nil,_=>.nil
 |_,_,.cons h hs,e=>.cons (Rp.rep h (by simp [noDs] at e;exact e.1)) (Rps.reps hs (by simp [noDs] at e;exact e.2))
end
def Own (K:PySem.W.Frag)(G H:Hp)(a:Addr):D->Prop
 | .list ds=>∃xs,H a=some (.lst xs)/\Rps K G xs ds
 | .dict ds=>(∃kvs,H a=some (.dK kvs)/\RpK K G kvs ds)\/∃kvs,H a=some (.dT kvs)/\RpT K G kvs ds
 |_=>False
theorem Own.obj {a:Addr}{d:D}(h:Own K G H a d):∃o,H a=some o:=by
 cases d <;> first |exact h.elim |skip
 ·obtain⟨xs,e,_⟩:=h;exact⟨_,e⟩
 ·rcases h with⟨_,e,_⟩ | ⟨_,e,_⟩ <;> exact⟨_,e⟩
theorem Own.mono {a:Addr}{d:D}(h:Own K G H a d)(s:Same G G')(m:∀o,H a=some o->H' a=some o):Own K G' H' a d:=by
 cases d <;> first |exact h.elim |skip
 ·obtain⟨xs,e,r⟩:=h;exact⟨xs,m _ e,r.mono s⟩
 ·rcases h with⟨k,e,r⟩ | ⟨k,e,r⟩
  ·exact .inl ⟨k,m _ e,r.mono s⟩
  ·exact .inr ⟨k,m _ e,r.mono s⟩
theorem Own.rp {a:Addr}{d:D}(h:Own K G H a d)(n:G a=none){G':Hp}(s:Same G G')(e:∀o,H a=some o->G' a=some o):Rp K G' (.ref a) d:=by
 cases d <;> first |exact h.elim |skip
 ·obtain⟨xs,q,r⟩:=h;exact .lst (e _ q) (r.mono s)
 ·rcases h with⟨k,q,r⟩ | ⟨k,q,r⟩
  ·exact .dK (e _ q) (r.mono s)
  ·exact .dT (e _ q) (r.mono s)
def Brw (K:PySem.W.Frag)(B:Option Addr)(G H:Hp)(v:V)(d:D):Prop:=Rp K G v d\/∃a,v=.ref a/\B≠some a/\Own K G H a d
def Mov (B:Option Addr)(H H':Hp):Prop:=∀b o,H b=some o->B≠some b->H' b=some o
theorem Mov.refl (B:Option Addr)(H:Hp):Mov B H H:=fun _ _ h _=>h
theorem Mov.trans {B:Option Addr}{H1:Hp}(x:Mov B H H1)(y:Mov B H1 H'):Mov B H H':=fun b o h n=>y b o (x b o h n) n
theorem Same.mov (s:Same H H')(B:Option Addr):Mov B H H':=fun b o h _=>s b o h
theorem Brw.mono {B:Option Addr}{v:V}{d:D}(h:Brw K B G H v d)(s:Same G G')(m:Mov B H H'):Brw K B G' H' v d:=by
 rcases h with h | ⟨a,e,n,h⟩
 ·exact .inl (h.mono s)
 ·exact .inr ⟨a,e,n,h.mono s fun o q=>m a o q n⟩
theorem Brw.rpH {B:Option Addr}{v:V}{d:D}(h:Brw K B G H v d)(s:Same G H):Rp K H v d:=by
 rcases h with h | ⟨a,rfl,n,h⟩
 ·exact h.mono s
 ·cases d <;> first |exact h.elim |skip
  ·obtain⟨xs,q,r⟩:=h;exact .lst q (r.mono s)
  ·rcases h with⟨k,q,r⟩ | ⟨k,q,r⟩
   ·exact .dK q (r.mono s)
   ·exact .dT q (r.mono s)
theorem Brw.list {B:Option Addr}{v:V}{ds:List D}(h:Brw K B G H v (.list ds))(s:Same G H):∃a xs,v=.ref a/\Rd H a (.lst xs)/\Rps K G xs ds:=by
 rcases h with h | ⟨a,rfl,n,xs,q,r⟩
 ·cases h with
  |lst h r=>exact⟨_,_,rfl,.inl (s _ _ h),r⟩
 ·exact⟨a,xs,rfl,.inl q,r⟩
theorem Brw.tuple {B:Option Addr}{v:V}{ds:List D}(h:Brw K B G H v (.tuple ds))(s:Same G H):∃a xs,v=.ref a/\SqT K H a xs/\Rps K G xs ds:=by
 rcases h with h | ⟨a,rfl,n,h⟩
 ·cases h with
  |tup h r=>exact⟨_,_,rfl,h.grow s.grow,r⟩
 ·exact h.elim
theorem Brw.int {B:Option Addr}{v:V}{i:Int}(h:Brw K B G H v (.int i)):v=.int i:=by
 rcases h with h | ⟨a,rfl,n,h⟩
 ·cases h;rfl
 ·exact h.elim
theorem Brw.bool {B:Option Addr}{v:V}{b:Bool}(h:Brw K B G H v (.bool b)):v=.bl b:=by
 rcases h with h | ⟨a,rfl,n,h⟩
 ·cases h;rfl
 ·exact h.elim
theorem Brw.str {B:Option Addr}{v:V}{x:Str}(h:Brw K B G H v (.str x)):v=.str x:=by
 rcases h with h | ⟨a,rfl,n,h⟩
 ·cases h;rfl
 ·exact h.elim
theorem Brw.none {B:Option Addr}{v:V}(h:Brw K B G H v .none):v=.non:=by
 rcases h with h | ⟨a,rfl,n,h⟩
 ·cases h;rfl
 ·exact h.elim
end
def Fz:HO->Prop
 | .tup _=>True
 | .frz _ _=>True
 |_=>False
def Mx (H:Hp)(b:Addr):Prop:=H b≠none/\∀o,H b=some o->¬Fz o
theorem Mx.lst {H:Hp}{b:Addr}{xs:List V}(h:H b=some (.lst xs)):Mx H b:=⟨by rw [h];simp,fun ys z=>by rw [h] at z;cases z;exact fun y=>y⟩
theorem Mx.same {H H':Hp}{b:Addr}(h:Mx H b)(m:∀o,H b=some o->H' b=some o):Mx H' b:=by
 obtain⟨h1,h2⟩:=h
 cases e:H b with
 |none=>exact absurd e h1
 |some o=>
  refine⟨by rw [m o e];simp,fun xs z=>?_⟩
  rw [m o e] at z
  cases z
  exact h2 o e
theorem Own.mx {K:PySem.W.Frag}{G H:Hp}{a:Addr}{d:D}(h:Own K G H a d):Mx H a:=by
 cases d <;> first |exact h.elim |skip
 ·obtain⟨xs,e,_⟩:=h;exact Mx.lst e
 ·rcases h with⟨k,e,_⟩ | ⟨k,e,_⟩ <;> exact⟨by rw [e];simp,fun ys z=>by rw [e] at z;cases z;exact fun y=>y⟩
open Classical in
noncomputable def tupG (G H:Hp):Hp:=fun b=>match G b with
 |some o=>some o
 |none=>match H b with
  |some o=>if Fz o then some o else none
  |none=>none
theorem tupG_same {G H:Hp}:Same G (tupG G H):=fun b o e=>by unfold tupG;rw [e]
theorem tupG_fz {G H:Hp}(s:Same G H){b:Addr}{o:HO}(e:H b=some o)(f:Fz o):tupG G H b=some o:=by
 unfold tupG
 cases q:G b with
 |some u=>have:=s b u q;rw [e] at this;cases this;rfl
 |none=>simp only [e];rw [if_pos f]
theorem tupG_sub {G H:Hp}(s:Same G H):Same (tupG G H) H:=fun b o e=>by
 unfold tupG at e
 cases q:G b with
 |some u=>rw [q] at e;cases e;exact s b _ q
 |none=>
  rw [q] at e
  cases q2:H b with
  |none=>rw [q2] at e;cases e
  |some u=>
   rw [q2] at e
   dsimp only at e
   split at e
   ·cases e;rfl
   ·cases e
theorem tupG_on {G H H':Hp}(hh:Same H H'){b:Addr}(m:Mx H b):tupG G H' b=G b:=by
 unfold tupG
 cases q:G b with
 |some u=>rfl
 |none=>
  obtain⟨h1,h2⟩:=m
  cases e:H b with
  |none=>exact absurd e h1
  |some o=>
   simp only [hh b o e]
   rw [if_neg (h2 o e)]
theorem tupG_sqT {K:PySem.W.Frag}{G H:Hp}(s:Same G H){a:Addr}{xs:List V}(h:SqT K H a xs):SqT K (tupG G H) a xs:=by
 rcases h with (h | ⟨o,h⟩) |h
 ·exact .inl (.inl (tupG_fz s h trivial))
 ·exact .inl (.inr ⟨o,tupG_fz s h trivial⟩)
 ·exact .inr h
structure Fx where
 K:PySem.W.Frag
 H0:Hp
 G0:Hp
 par:List Addr
 ca:Str->Addr
 br:Nat->Bool
 bx:Option Addr
inductive Sl where
 |no |fz (d:D) |ow (d:D) |bx |br (d:D)
abbrev En:=List Sl
inductive Nv where
 |no |da (d:D) |bx
def Sl.val:Sl->Nv
 | .no=>.no
 | .fz d=>.da d
 | .ow d=>.da d
 | .br d=>.da d
 | .bx=>.bx
def vl (env:En):List Nv:=env.map Sl.val
def SlOk (Γ:Fx)(B:Option Addr)(G H:Hp)(i:Nat)(o:Option (Option V)):Sl->Prop
 | .no=>True
 | .fz d=>∃v,o=some (some v)/\Rp Γ.K G v d
 | .ow d=>∃a,o=some (some (.ref a))/\Γ.H0 a=none/\G a=none/\B≠some a/\Own Γ.K G H a d
 | .bx=>∃a,o=some (some (.ref a))/\B=some a
 | .br d=>Γ.br i=true/\∃a,o=some (some (.ref a))/\B≠some a/\a∉Γ.par/\Own Γ.K G H a d
structure SR (Γ:Fx)(B:Option Addr)(G H:Hp)(σ:St)(env:En)(β:Int):Prop where
 sub:Same G H
 old:Same Γ.G0 G
 new:∀b,Mx Γ.H0 b->Γ.G0 b=none->G b=none
 keep:∀b o,Γ.H0 b=some o->b∉Γ.par->H b=some o
 pin:∀b,b∈Γ.par->Mx H b
 fix:∀b,Γ.bx=some b->B=some b
 box:∀b,B=some b->H b=some (.lst [.int β])/\G b=none/\(b∈Γ.par\/Γ.H0 b=none)
 len:σ.length=env.length
 slot:∀(i:Nat) (s:Sl),env[i]? =some s->SlOk Γ B G H i (σ[i]?) s
 sep:∀(i j:Nat) (a:Addr) (d e:D),env[i]? =some (.ow d)->env[j]? =some (.ow e)->σ[i]? =some (some (.ref a))->σ[j]? =some (some (.ref a))->i=j
structure Ext (G H G' H':Hp):Prop where
 hh:Same H H'
 gg:Same G G'
 gh:Same G' H'
 on:∀b,Mx H b->G' b=G b
theorem Ext.refl {G H:Hp}(s:Same G H):Ext G H G H:=⟨Same.refl _,Same.refl _,s,fun _ _=>rfl⟩
theorem Ext.tups {G H H':Hp}(s:Same G H)(hh:Same H H'):Ext G H (tupG G H') H':=⟨hh,tupG_same,tupG_sub (s.trans hh),fun _ m=>tupG_on hh m⟩
theorem Ext.new {G H:Hp}(s:Same G H){p:Addr}{o:HO}(h:H p=none):Ext G H (upd G p o) (upd H p o):=by
 refine⟨Same.new h,Same.new (s.free h),fun b u e=>?_,fun b hb=>?_⟩
 ·by_cases z:b=p
  ·subst z;rw [upd_same] at e ⊢;exact e
  ·rw [upd_ne z] at e ⊢;exact s b u e
 ·exact upd_ne (fun z=>hb.1 (by rw [z];exact h))
theorem Ext.own {G H:Hp}(s:Same G H){p:Addr}{o:HO}(h:H p=none):Ext G H G (upd H p o):=
 ⟨Same.new h,Same.refl _,s.trans (Same.new h),fun _ _=>rfl⟩
theorem Ext.trans {G H G1 H1 G2 H2:Hp}(x:Ext G H G1 H1)(y:Ext G1 H1 G2 H2):Ext G H G2 H2:=by
 refine⟨x.hh.trans y.hh,x.gg.trans y.gg,y.gh,fun b hb=>?_⟩
 rw [y.on b (hb.same fun o e=>x.hh b o e),x.on b hb]
section
variable {Γ:Fx}{B:Option Addr}{G H G' H':Hp}{σ:St}{env:En}{β:Int}
theorem SR.there (I:SR Γ B G H σ env β){b:Addr}(h:Γ.H0 b≠none):H b≠none:=by
 by_cases hp:b∈Γ.par
 ·exact (I.pin b hp).1
 ·cases e:Γ.H0 b with
  |none=>exact absurd e h
  |some o=>rw [I.keep b o e hp];simp
theorem SR.thereM (I:SR Γ B G H σ env β){b:Addr}(h:Mx Γ.H0 b):Mx H b:=by
 by_cases hp:b∈Γ.par
 ·exact I.pin b hp
 ·exact h.same fun o e=>I.keep b o e hp
theorem SR.ext (I:SR Γ B G H σ env β)(x:Ext G H G' H'):SR Γ B G' H' σ env β:=by
 refine⟨x.gh,I.old.trans x.gg,fun b h1 h2=>?_,fun b o h1 h2=>x.hh b o (I.keep b o h1 h2),fun b hb=>?_,I.fix,fun b e=>?_,I.len,fun i s e=>?_,I.sep⟩
 ·rw [x.on b (I.thereM h1)];exact I.new b h1 h2
 ·exact (I.pin b hb).same fun o e=>x.hh b o e
 ·obtain⟨h1,h2,h3⟩:=I.box b e
  exact⟨x.hh b _ h1,by rw [x.on b (Mx.lst h1)];exact h2,h3⟩
 ·have q:=I.slot i s e
  cases s with
  |no=>trivial
  |fz d=>obtain⟨v,h1,h2⟩:=q;exact⟨v,h1,h2.mono x.gg⟩
  |ow d=>
   obtain⟨a,h1,h2,h3,h4,h5⟩:=q
   exact⟨a,h1,h2,by rw [x.on a h5.mx];exact h3,h4,h5.mono x.gg fun o q=>x.hh a o q⟩
  |bx=>exact q
  |br d=>obtain⟨b1,a,h1,h4,hp,h5⟩:=q;exact⟨b1,a,h1,h4,hp,h5.mono x.gg fun o q=>x.hh a o q⟩
def frz1 (env:En)(i:Nat):En:=match env[i]? with
 |some (.ow d)=>env.set i (.fz d)
 |_=>env
def frz (L:List Nat)(env:En):En:=L.foldl frz1 env
theorem frz_app (L M:List Nat)(env:En):frz (L ++ M) env=frz M (frz L env):=by unfold frz;rw [List.foldl_append]
theorem vl_set_val (env:En)(i:Nat)(s:Sl)(h:∀t,env[i]? =some t->t.val=s.val):vl (env.set i s)=vl env:=by
 unfold vl
 apply List.ext_getElem?
 intro j
 rw [List.getElem?_map,List.getElem?_map,List.getElem?_set]
 by_cases e:i=j
 ·subst e
  by_cases hi:i < env.length
  ·simp only [if_true,hi]
   have:=h _ (List.getElem?_eq_getElem hi)
   simp [List.getElem?_eq_getElem hi,this]
  ·simp only [if_true,hi,if_false]
   rw [List.getElem?_eq_none (by omega)]
 ·simp [e]
theorem vl_frz1 (env:En)(i:Nat):vl (frz1 env i)=vl env:=by
 unfold frz1
 split
 ·rename_i d e
  exact vl_set_val _ _ _ fun t ht=>by rw [e] at ht;cases ht;rfl
 ·rfl
theorem vl_frz (L:List Nat)(env:En):vl (frz L env)=vl env:=by
 unfold frz
 induction L generalizing env with
 |nil=>rfl
 |cons i L ih=>rw [List.foldl_cons,ih,vl_frz1]
theorem vl_at {i:Nat}{d:D}(h:(vl env)[i]? =some (.da d)):env[i]? =some (.fz d)\/env[i]? =some (.ow d)\/env[i]? =some (.br d):=by
 unfold vl at h
 rw [List.getElem?_map] at h
 cases e:env[i]? with
 |none=>rw [e] at h;simp at h
 |some s=>
  rw [e] at h
  cases s with
  |no=>simp [Sl.val] at h
  |fz d'=>simp [Sl.val] at h;subst h;exact .inl rfl
  |ow d'=>simp [Sl.val] at h;subst h;exact .inr (.inl rfl)
  |bx=>simp [Sl.val] at h
  |br d'=>simp [Sl.val] at h;subst h;exact .inr (.inr rfl)
theorem vl_bx {i:Nat}(h:(vl env)[i]? =some .bx):env[i]? =some .bx:=by
 unfold vl at h
 rw [List.getElem?_map] at h
 cases e:env[i]? with
 |none=>rw [e] at h;simp at h
 |some s=>
  rw [e] at h
  cases s with
  |bx=>rfl
  |_=>simp [Sl.val] at h
theorem SR.freeze (I:SR Γ B G H σ env β)(i:Nat)(hb:Γ.br i=false){d:D}(h:(vl env)[i]? =some (.da d)):∃G' v,SR Γ B G' H σ (frz1 env i) β/\Same G G'/\σ[i]? =some (some v)/\Rp Γ.K G' v d:=by
 rcases vl_at h with e |e |e
 ·obtain⟨v,h1,h2⟩:=I.slot i _ e
  exact⟨G,v,by unfold frz1;rw [e];exact I,Same.refl _,h1,h2⟩
 rotate_left
 ·obtain⟨z,_⟩:=I.slot i _ e
  rw [hb] at z;cases z
 ·obtain⟨a,h1,h2,h3,h4,h5⟩:=I.slot i _ e
  obtain⟨o,ho⟩:=h5.obj
  have sG:Same G (upd G a o):=Same.new h3
  have hi:i < env.length:=(List.getElem?_eq_some_iff.mp e).1
  have hr:Rp Γ.K (upd G a o) (.ref a) d:=h5.rp h3 sG fun o' q=>by rw [ho] at q;cases q;exact upd_same
  refine⟨upd G a o,.ref a,?_,sG,h1,hr⟩
  unfold frz1
  rw [e]
  refine⟨fun b u q=>?_,I.old.trans sG,fun b n1 n2=>?_,I.keep,I.pin,I.fix,fun b q=>?_,by rw [List.length_set];exact I.len,fun j s q=>?_,fun j k c d1 d2 q1 q2 q3 q4=>?_⟩
  ·by_cases z:b=a
   ·subst z;rw [upd_same] at q;cases q;exact ho
   ·rw [upd_ne z] at q;exact I.sub b u q
  ·rw [upd_ne (fun z=>n1.1 (by rw [z];exact h2))];exact I.new b n1 n2
  ·obtain⟨k1,k2,k3⟩:=I.box b q
   exact⟨k1,by rw [upd_ne (fun z=>h4 (by rw [<-z];exact q))];exact k2,k3⟩
  ·by_cases z:j=i
   ·subst z
    rw [List.getElem?_set_self hi] at q
    cases q
    exact⟨.ref a,h1,hr⟩
   ·rw [List.getElem?_set_ne (Ne.symm z)] at q
    have w:=I.slot j s q
    cases s with
    |no=>trivial
    |fz d'=>obtain⟨v,w1,w2⟩:=w;exact⟨v,w1,w2.mono sG⟩
    |ow d'=>
     obtain⟨c,w1,w2,w3,w4,w5⟩:=w
     have ca:c≠a:=fun z2=>z (I.sep j i c d' d q e w1 (by rw [z2];exact h1))
     exact⟨c,w1,w2,by rw [upd_ne ca];exact w3,w4,w5.mono sG fun o q=>q⟩
    |bx=>exact w
    |br d'=>obtain⟨b1,c,w1,w4,wp,w5⟩:=w;exact⟨b1,c,w1,w4,wp,w5.mono sG fun o q=>q⟩
  ·have ne:∀{j:Nat} {d':D},(env.set i (Sl.fz d))[j]? =some (.ow d')->env[j]? =some (.ow d'):=fun {j d'} q=>by
    by_cases z:j=i
    ·subst z;rw [List.getElem?_set_self hi] at q;cases q
    ·rw [List.getElem?_set_ne (Ne.symm z)] at q;exact q
   exact I.sep j k c d1 d2 (ne q1) (ne q2) q3 q4
theorem SR.frz (I:SR Γ B G H σ env β)(L:List Nat)(hb:∀i,i∈L->Γ.br i=false):∃G',SR Γ B G' H σ (frz L env) β/\Same G G':=by
 induction L generalizing env G with
 |nil=>exact⟨G,I,Same.refl _⟩
 |cons i L ih=>
  show ∃G',SR Γ B G' H σ (L2.frz L (frz1 env i)) β/\Same G G'
  have key:∃G1,SR Γ B G1 H σ (frz1 env i) β/\Same G G1:=by
   cases e:env[i]? with
   |none=>exact⟨G,by unfold frz1;rw [e];exact I,Same.refl _⟩
   |some s=>
    cases s with
    |ow d=>
     obtain⟨G1,v,h1,h2,_⟩:=I.freeze i (hb i (List.mem_cons_self ..)) (d:=d) (by unfold vl;rw [List.getElem?_map,e];rfl)
     exact⟨G1,h1,h2⟩
    |_=>exact⟨G,by unfold frz1;rw [e];exact I,Same.refl _⟩
  obtain⟨G1,I1,s1⟩:=key
  obtain⟨G2,I2,s2⟩:=ih I1 fun j hj=>hb j (List.mem_cons_of_mem _ hj)
  exact⟨G2,I2,s1.trans s2⟩
theorem SR.set (I:SR Γ B G H σ env β){i:Nat}(hi:i < env.length){v:V}{d:D}(h:Rp Γ.K G v d):SR Γ B G H (σ.set i (some v)) (env.set i (.fz d)) β:=by
 have hs:i < σ.length:=by rw [I.len];exact hi
 refine⟨I.sub,I.old,I.new,I.keep,I.pin,I.fix,I.box,by rw [List.length_set,List.length_set];exact I.len,fun j s q=>?_,fun j k c d1 d2 q1 q2 q3 q4=>?_⟩
 ·by_cases z:j=i
  ·subst z
   rw [List.getElem?_set_self hi] at q
   cases q
   exact⟨v,by rw [List.getElem?_set_self hs],h⟩
  ·rw [List.getElem?_set_ne (Ne.symm z)] at q ⊢
   exact I.slot j s q
 ·have ne:∀{j:Nat} {d':D},(env.set i (Sl.fz d))[j]? =some (.ow d')->j≠i/\env[j]? =some (.ow d'):=fun {j d'} q=>by
   by_cases z:j=i
   ·subst z;rw [List.getElem?_set_self hi] at q;cases q
   ·rw [List.getElem?_set_ne (Ne.symm z)] at q;exact⟨z,q⟩
  obtain⟨n1,e1⟩:=ne q1
  obtain⟨n2,e2⟩:=ne q2
  rw [List.getElem?_set_ne (Ne.symm n1)] at q3
  rw [List.getElem?_set_ne (Ne.symm n2)] at q4
  exact I.sep j k c d1 d2 e1 e2 q3 q4
theorem SR.setOw (I:SR Γ B G H σ env β){i:Nat}(hi:i < env.length){a:Addr}{d:D}(h0:Γ.H0 a=none)(hg:G a=none)(hb:B≠some a)(h:Own Γ.K G H a d)(hn:∀(j:Nat) (d':D),env[j]? =some (.ow d')->j≠i->σ[j]?≠some (some (.ref a))):SR Γ B G H (σ.set i (some (.ref a))) (env.set i (.ow d)) β:=by
 have hs:i < σ.length:=by rw [I.len];exact hi
 refine⟨I.sub,I.old,I.new,I.keep,I.pin,I.fix,I.box,by rw [List.length_set,List.length_set];exact I.len,fun j s q=>?_,fun j k c d1 d2 q1 q2 q3 q4=>?_⟩
 ·by_cases z:j=i
  ·subst z
   rw [List.getElem?_set_self hi] at q
   cases q
   exact⟨a,by rw [List.getElem?_set_self hs],h0,hg,hb,h⟩
  ·rw [List.getElem?_set_ne (Ne.symm z)] at q ⊢
   exact I.slot j s q
 ·by_cases z1:j=i
  ·by_cases z2:k=i
   ·rw [z1,z2]
   ·subst z1
    rw [List.getElem?_set_ne (Ne.symm z2)] at q2 q4
    rw [List.getElem?_set_self hs] at q3
    cases q3
    exact absurd q4 (hn k d2 q2 z2)
  ·by_cases z2:k=i
   ·subst z2
    rw [List.getElem?_set_ne (Ne.symm z1)] at q1 q3
    rw [List.getElem?_set_self hs] at q4
    cases q4
    exact absurd q3 (hn j d1 q1 z1)
   ·rw [List.getElem?_set_ne (Ne.symm z1)] at q1 q3
    rw [List.getElem?_set_ne (Ne.symm z2)] at q2 q4
    exact I.sep j k c d1 d2 q1 q2 q3 q4
theorem SR.fresh (I:SR Γ B G H σ env β){a:Addr}(h:H a=none):Γ.H0 a=none/\G a=none/\B≠some a/\∀(j:Nat) (d:D),env[j]? =some (.ow d)->σ[j]?≠some (some (.ref a)):=by
 have hB:B≠some a:=fun z=>by rw [(I.box a z).1] at h;cases h
 refine⟨?_,I.sub.free h,hB,fun j d e z=>?_⟩
 ·cases e:Γ.H0 a with
  |none=>rfl
  |some o=>exact absurd h (I.there (by rw [e];simp))
 ·obtain⟨c,h1,_,_,_,h5⟩:=I.slot j _ e
  rw [z] at h1
  cases h1
  obtain⟨o,ho⟩:=h5.obj
  rw [h] at ho;cases ho
theorem SR.write (I:SR Γ B G H σ env β)(hb:∀j,Γ.br j=false){i:Nat}{a:Addr}{d d':D}{o:HO}(e:env[i]? =some (.ow d))(ea:σ[i]? =some (some (.ref a)))(h:∀H',H' a=some o->Same G H'->Own Γ.K G H' a d'):SR Γ B G (upd H a o) σ (env.set i (.ow d')) β:=by
 obtain⟨a',h1,h2,h3,h4,h5⟩:=I.slot i _ e
 rw [ea] at h1;cases h1
 have hi:i < env.length:=(List.getElem?_eq_some_iff.mp e).1
 have sub:Same G (upd H a o):=fun b u q=>by rw [upd_ne (fun z=>by rw [z,h3] at q;cases q)];exact I.sub b u q
 refine⟨sub,I.old,I.new,fun b u q n=>?_,fun b q=>?_,I.fix,fun b q=>?_,by rw [List.length_set];exact I.len,fun j s q=>?_,fun j k c d1 d2 q1 q2 q3 q4=>?_⟩
 ·rw [upd_ne (fun z=>by rw [z,h2] at q;cases q)];exact I.keep b u q n
 ·by_cases z:b=a
  ·subst z;exact (h _ upd_same sub).mx
  ·exact (I.pin b q).same fun o e=>by rw [upd_ne z];exact e
 ·obtain⟨k1,k2,k3⟩:=I.box b q
  exact⟨by rw [upd_ne (fun z=>h4 (by rw [<-z];exact q))];exact k1,k2,k3⟩
 ·by_cases z:j=i
  ·subst z
   rw [List.getElem?_set_self hi] at q
   cases q
   exact⟨a,ea,h2,h3,h4,h _ upd_same sub⟩
  ·rw [List.getElem?_set_ne (Ne.symm z)] at q
   have w:=I.slot j s q
   cases s with
   |no=>trivial
   |fz d1=>exact w
   |ow d1=>
    obtain⟨c,w1,w2,w3,w4,w5⟩:=w
    have ca:c≠a:=fun z2=>z (I.sep j i c d1 d q e w1 (by rw [z2];exact ea))
    exact⟨c,w1,w2,w3,w4,w5.mono (Same.refl _) fun o q=>by rw [upd_ne ca];exact q⟩
   |bx=>exact w
   |br d1=>obtain⟨b1,_⟩:=w;rw [hb j] at b1;cases b1
 ·have back:∀{j:Nat} {d1:D},(env.set i (Sl.ow d'))[j]? =some (.ow d1)->∃d2,env[j]? =some (.ow d2):=fun {j d1} q=>by
   by_cases z:j=i
   ·subst z;exact⟨d,e⟩
   ·rw [List.getElem?_set_ne (Ne.symm z)] at q;exact⟨d1,q⟩
  obtain⟨_,b1⟩:=back q1
  obtain⟨_,b2⟩:=back q2
  exact I.sep j k c _ _ b1 b2 q3 q4
end
end L2

end

section
namespace L2
open PySem PySem.Spec PyProof.Rows
inductive R (α:Type) where
 |ok (a:α) (β:Int)
 |exc (c:Str)
 |bad
def R.bnd {α γ:Type}(r:R α)(k:α->Int->R γ):R γ:=match r with
 | .ok a β=>k a β
 | .exc c=>.exc c
 | .bad=>.bad
def R.of {α:Type}(o:Option α)(β:Int):R α:=match o with
 |some a=>.ok a β
 |none=>.bad
abbrev VF (α:Type):=List Nv->Int->R α
def Kp (Γ:Fx)(H':Hp):Prop:=∀b o,Γ.H0 b=some o->b∉Γ.par->H' b=some o
def Out {α:Type}(Γ:Fx)(E:XK)(r:R α)(P:α->Int->Prop):Prop:=match r with
 | .ok a β=>P a β
 | .exc c=>∀H',Kp Γ H'->E (.ref (Γ.ca c)) none H'
 | .bad=>False
section
variable {α γ:Type}{Γ:Fx}{E:XK}
theorem Out.bnd {r:R α}{k:α->Int->R γ}{P:γ->Int->Prop}(h:Out Γ E (r.bnd k) P):Out Γ E r fun a β=>Out Γ E (k a β) P:=by
 cases r with
 |ok a β=>exact h
 |exc c=>exact h
 |bad=>exact h
theorem Out.imp {r:R α}{P P':α->Int->Prop}(h:Out Γ E r P)(i:∀a β,P a β->P' a β):Out Γ E r P':=by
 cases r with
 |ok a β=>exact i a β h
 |exc c=>exact h
 |bad=>exact h
theorem Out.of {o:Option α}{β:Int}{P:α->Int->Prop}(h:Out Γ E (R.of o β) P):∃a,o=some a/\P a β:=by
 cases o with
 |none=>exact h.elim
 |some a=>exact⟨a,rfl,h⟩
end
inductive Md where
 |b |v |w
def VO (K:PySem.W.Frag)(B:Option Addr)(H G' H':Hp):Md->D->V->Prop
 | .b,d,v=>Brw K B G' H' v d
 | .v,d,v=>Rp K G' v d
 | .w,d,v=>∃a,v=.ref a/\H a=none/\G' a=none/\Own K G' H' a d
def pT (Γ:Fx)(E:XK)(f:VF D)(L:List Nat)(md:Md):TE:=fun σ H Q=>∃env G B β,SR Γ B G H σ env β/\
 Out Γ E (f (vl env) β) fun d β'=>∀v G' H',SR Γ B G' H' σ (frz L env) β'->Same G G'->Mov B H H'->VO Γ.K B H G' H' md d v->Q v H'
def SE (X:Cx)(Γ:Fx)(E:XK)(e:Expr)(f:VF D)(L:List Nat)(md:Md):Prop:=PE X e (pT Γ E f L md)
def qT (Γ:Fx)(E:XK)(f:VF Bool)(L:List Nat):TT:=fun σ H Q=>∃env G B β,SR Γ B G H σ env β/\
 Out Γ E (f (vl env) β) fun c β'=>∀G' H',SR Γ B G' H' σ (frz L env) β'->Same G G'->Mov B H H'->Q c H'
def STt (X:Cx)(Γ:Fx)(E:XK)(e:Expr)(f:VF Bool)(L:List Nat):Prop:=PT X e (qT Γ E f L)
def STw (X:Cx)(Γ:Fx)(E:XK)(e:Expr)(f:VF Bool)(L:List Nat):Prop:=PW X e (qT Γ E f L)
def aT (Γ:Fx)(E:XK)(f:VF (List D))(L:List Nat):TA:=fun σ H Q=>∃env G B β,SR Γ B G H σ env β/\
 Out Γ E (f (vl env) β) fun ds β'=>∀vs G' H',SR Γ B G' H' σ (frz L env) β'->Same G G'->Mov B H H'->Rps Γ.K G' vs ds->Q vs H'
def SA (X:Cx)(Γ:Fx)(E:XK)(es:List Expr)(f:VF (List D))(L:List Nat):Prop:=PA X es (aT Γ E f L)
theorem PE.post' {X:Cx}{e:Expr}{t u:TE}(h:PE X e t)(m:∀σ H Q,u σ H Q->t σ H Q):PE X e u:=fun pins s σ H Q I q=>h pins s σ H Q I (m σ H Q q)
theorem PT.post {X:Cx}{e:Expr}{t u:TT}(h:PT X e t)(m:∀σ H Q,u σ H Q->t σ H Q):PT X e u:=fun pins s σ H Q I q=>h pins s σ H Q I (m σ H Q q)
theorem PW.post {X:Cx}{e:Expr}{t u:TT}(h:PW X e t)(m:∀σ H Q,u σ H Q->t σ H Q):PW X e u:=fun wh pins s σ H Q I q=>h wh pins s σ H Q I (m σ H Q q)
theorem PA.post {X:Cx}{es:List Expr}{t u:TA}(h:PA X es t)(m:∀σ H Q,u σ H Q->t σ H Q):PA X es u:=fun pos pins s σ H Q I q=>h pos pins s σ H Q I (m σ H Q q)
theorem PS.post {X:Cx}{st:Stmt}{t u:TS}(h:PS X st t)(m:∀D σ H,u D σ H->t D σ H):PS X st u:=fun pins s σ H D I q=>h pins s σ H D I (m D σ H q)
def dat:Option Nv->Option D
 |some (.da d)=>some d
 |_=>none
def gv (i:Nat):VF D:=fun vs β=>R.of (dat vs[i]?) β
def cst (d:D):VF D:=fun _ β=>.ok d β
section
variable {X:Cx}{Γ:Fx}{E:XK}{e a b c:Expr}{f fa fb fc:VF D}{L La Lb Lc:List Nat}{md ma mb mc:Md}{pos:Pos}
theorem join_some {o:Option Nv}{d:D}(h:dat o=some d):o=some (.da d):=by
 cases o with
 |none=>cases h
 |some o=>cases o with
  |da x=>cases h;rfl
  |_=>cases h
theorem SR.letIn {B:Option Addr}{G H:Hp}{σ:St}{env:En}{β:Int}(I:SR Γ B G H σ env β){p:Addr}{d:D}(h0:Γ.H0 p=none)(hg:G p=none)(hb:B≠some p)(hn:∀(j:Nat) (d':D),env[j]? =some (.ow d')->σ[j]?≠some (some (.ref p)))(h:Own Γ.K G H p d) :
  ∃G',SR Γ B G' H σ env β/\Same G G'/\Rp Γ.K G' (.ref p) d:=by
 obtain⟨o,ho⟩:=h.obj
 have sG:Same G (upd G p o):=Same.new hg
 refine⟨upd G p o,⟨fun b u q=>?_,I.old.trans sG,fun b n1 n2=>?_,I.keep,I.pin,I.fix,fun b q=>?_,I.len,fun j s q=>?_,I.sep⟩,sG,h.rp hg sG fun o' q=>by rw [ho] at q;cases q;exact upd_same⟩
 ·by_cases z:b=p
  ·subst z;rw [upd_same] at q;cases q;exact ho
  ·rw [upd_ne z] at q;exact I.sub b u q
 ·rw [upd_ne (fun z=>n1.1 (by rw [z];exact h0))];exact I.new b n1 n2
 ·obtain⟨k1,k2,k3⟩:=I.box b q
  exact⟨k1,by rw [upd_ne (fun z=>hb (by rw [<-z];exact q))];exact k2,k3⟩
 ·have w:=I.slot j s q
  cases s with
  |no=>trivial
  |fz d'=>obtain⟨v,w1,w2⟩:=w;exact⟨v,w1,w2.mono sG⟩
  |ow d'=>
   obtain⟨c,w1,w2,w3,w4,w5⟩:=w
   have ca:c≠p:=fun z2=>hn j d' q (by rw [<-z2];exact w1)
   exact⟨c,w1,w2,by rw [upd_ne ca];exact w3,w4,w5.mono sG fun o q=>q⟩
  |bx=>exact w
  |br d'=>obtain⟨b1,c,w1,w4,wp,w5⟩:=w;exact⟨b1,c,w1,w4,wp,w5.mono sG fun o q=>q⟩
theorem ow_frz1 {env:En}{i j:Nat}{d:D}(h:(frz1 env i)[j]? =some (.ow d)):env[j]? =some (.ow d):=by
 unfold frz1 at h
 split at h
 ·rename_i d' e
  by_cases z:i=j
  ·subst z
   rw [List.getElem?_set_self (List.getElem?_eq_some_iff.mp e).1] at h;cases h
  ·rw [List.getElem?_set_ne z] at h;exact h
 ·exact h
theorem ow_frz {L:List Nat}{env:En}{j:Nat}{d:D}(h:(frz L env)[j]? =some (.ow d)):env[j]? =some (.ow d):=by
 unfold frz at h
 induction L generalizing env with
 |nil=>exact h
 |cons i L ih=>exact ow_frz1 (ih h)
theorem SR.letW {B:Option Addr}{G H G' H':Hp}{σ:St}{env:En}{β β':Int}{L:List Nat}{d:D}{v:V}(I:SR Γ B G H σ env β)(I':SR Γ B G' H' σ (L2.frz L env) β')(h:VO Γ.K B H G' H' .w d v):∃G2,SR Γ B G2 H' σ (L2.frz L env) β'/\Same G' G2/\Rp Γ.K G2 v d:=by
 obtain⟨p,rfl,h1,h2,h3⟩:=h
 obtain⟨q1,q2,q3,q4⟩:=I.fresh h1
 exact I'.letIn q1 h2 q3 (fun j d' e=>q4 j d' (ow_frz e)) h3
theorem SE.wv (h:SE X Γ E e f L .w):SE X Γ E e f L .v:=by
 refine PE.post' h fun σ H Q ⟨env,G,B,β,I,o⟩=>⟨env,G,B,β,I,o.imp fun d β' k v G' H' I' s m vo=>?_⟩
 obtain⟨G2,I2,s2,r⟩:=I.letW I' vo
 exact k v G2 H' I2 (s.trans s2) m r
theorem VO.brw {B:Option Addr}{H G' H':Hp}{d:D}{v:V}{K:PySem.W.Frag}(h:VO K B H G' H' md d v)(hB:∀x,B=some x->H x≠none):Brw K B G' H' v d:=by
 cases md with
 |b=>exact h
 |v=>exact .inl h
 |w=>
  obtain⟨p,rfl,h1,h2,h3⟩:=h
  exact .inr ⟨p,rfl,fun z=>hB p z h1,h3⟩
theorem SR.boxThere {B:Option Addr}{G H:Hp}{σ:St}{env:En}{β:Int}(I:SR Γ B G H σ env β):∀x,B=some x->H x≠none:=fun x e=>by rw [(I.box x e).1];simp
theorem se_nb (i:Nat){x:Str}(hN:X.N[i]? =some x:=by rfl)(hv:Vis X.env.scope x:=by first |exact Or.inl rfl |exact Or.inr (Or.inl rfl) |exact Or.inr (Or.inr rfl))(hd:(x == ("__debug__":Str))=false:=by decide)
  (hcd:(x == ("__classdict__":Str))=false:=by decide):SE X Γ E (.Name x pos) (gv i) [] .b:=by
 refine PE.post' (pe_var hN hv hd hcd) fun σ H Q ⟨env,G,B,β,I,o⟩=>?_
 obtain⟨d,e,k⟩:=o.of
 have e:=join_some e
 rcases vl_at e with q |q |q
 ·obtain⟨v,h1,h2⟩:=I.slot i _ q
  exact⟨v,h1,k v G H I (Same.refl _) (Mov.refl _ _) (.inl h2)⟩
 ·obtain⟨p,h1,h2,h3,h4,h5⟩:=I.slot i _ q
  exact⟨.ref p,h1,k _ G H I (Same.refl _) (Mov.refl _ _) (.inr ⟨p,rfl,h4,h5⟩)⟩
 ·obtain⟨_,p,h1,h4,_,h5⟩:=I.slot i _ q
  exact⟨.ref p,h1,k _ G H I (Same.refl _) (Mov.refl _ _) (.inr ⟨p,rfl,h4,h5⟩)⟩
theorem se_nv (i:Nat)(hb:Γ.br i=false){x:Str}(hN:X.N[i]? =some x:=by rfl)(hv:Vis X.env.scope x:=by first |exact Or.inl rfl |exact Or.inr (Or.inl rfl) |exact Or.inr (Or.inr rfl))(hd:(x == ("__debug__":Str))=false:=by decide)
  (hcd:(x == ("__classdict__":Str))=false:=by decide):SE X Γ E (.Name x pos) (gv i) [i] .v:=by
 refine PE.post' (pe_var hN hv hd hcd) fun σ H Q ⟨env,G,B,β,I,o⟩=>?_
 obtain⟨d,e,k⟩:=o.of
 obtain⟨G',v,I',s,h1,h2⟩:=I.freeze i hb (join_some e)
 exact⟨v,h1,k v G' H I' s (Mov.refl _ _) h2⟩
theorem se_c {v:V}{d:D}(h:PE X e (tC v))(r:∀G,Rp Γ.K G v d):SE X Γ E e (cst d) [] .v:=by
 refine PE.post' h fun σ H Q ⟨env,G,B,β,I,o⟩=>?_
 exact o v G H I (Same.refl _) (Mov.refl _ _) (r G)
theorem se_int {i:Int}{j}:SE X Γ E (.Constant (.int i) j pos) (cst (.int i)) [] .v:=se_c pe_int fun _=>.int i
theorem se_bl {i:Bool}{j}:SE X Γ E (.Constant (.bool i) j pos) (cst (.bool i)) [] .v:=se_c pe_bl fun _=>.bl i
theorem se_non {j}:SE X Γ E (.Constant .none j pos) (cst .none) [] .v:=se_c pe_non fun _=>.non
theorem se_str {x:Str}{j}:SE X Γ E (.Constant (.str x) j pos) (cst (.str x)) [] .v:=se_c pe_str fun _=>.str x
theorem se_gint {x:Str}{i:Int}{t:Tok}(hg:Gl X x)(hm:X.mg x=some (.int i t))(hd:(x == ("__debug__":Str))=false:=by decide):SE X Γ E (.Name x pos) (cst (.int i)) [] .v:=se_c (pe_glob hg hm (show RelV (.int i) _ from⟨_,rfl⟩) hd) fun _=>.int i
theorem two {W:V->V->Hp->Prop}{B:Option Addr}{G H:Hp}{σ:St}{env:En}{β:Int}(I:SR Γ B G H σ env β)
  (h:Out Γ E (fa (vl env) β) fun d1 β1=>Out Γ E (fb (vl env) β1) fun d2 β2=>∀x y G2 H2,SR Γ B G2 H2 σ (frz (La ++ Lb) env) β2->Same G G2->Mov B H H2->Brw Γ.K B G2 H2 x d1->Brw Γ.K B G2 H2 y d2->W x y H2) :
  pT Γ E fa La ma σ H fun x H1=>pT Γ E fb Lb mb σ H1 fun y H2=>W x y H2:=by
 refine⟨env,G,B,β,I,h.imp fun d1 β1 h x G1 H1 I1 s1 m1 vx=>⟨frz La env,G1,B,β1,I1,?_⟩⟩
 rw [vl_frz]
 refine h.imp fun d2 β2 k y G2 H2 I2 s2 m2 vy=>?_
 refine k x y G2 H2 (by rw [frz_app];exact I2) (s1.trans s2) (m1.trans m2) ((vx.brw I.boxThere).mono s2 m2) (vy.brw I1.boxThere)
def Pr2 (K:PySem.W.Frag)(r:R2)(g:D->D->Option D)(md:Md):Prop:=∀(B:Option Addr) (G H:Hp) (x y:V) (dx dy d:D) (Q:VK),Same G H->(∀x,B=some x->H x≠none)->Brw K B G H x dx->Brw K B G H y dy->g dx dy=some d->
 (∀v G' H',Ext G H G' H'->VO K B H G' H' md d v->Q v H')->r x y H Q
def f2 (fa fb:VF D)(g:D->D->Option D):VF D:=fun vs β=>(fa vs β).bnd fun x β1=>(fb vs β1).bnd fun y β2=>R.of (g x y) β2
theorem back_none {B:Option Addr}{H H2:Hp}(m:Mov B H H2)(hB:∀x,B=some x->H2 x≠none){p:Addr}(h:H2 p=none):H p=none:=by
 cases e:H p with
 |none=>rfl
 |some o=>rw [m p o e fun z=>hB p z h] at h;cases h
theorem VO.back {K:PySem.W.Frag}{B:Option Addr}{H H2 G' H':Hp}{d:D}{v:V}(h:VO K B H2 G' H' md d v)(m:Mov B H H2)(hB:∀x,B=some x->H2 x≠none):VO K B H G' H' md d v:=by
 cases md with
 |b=>exact h
 |v=>exact h
 |w=>obtain⟨p,e,h1,h2,h3⟩:=h;exact⟨p,e,back_none m hB h1,h2,h3⟩
theorem pr2_run {r:R2}{g:D->D->Option D}{Q:VK}(pr:Pr2 Γ.K r g md){B:Option Addr}{G H:Hp}{σ:St}{env:En}{β:Int}(I:SR Γ B G H σ env β)
  (h:Out Γ E (f2 fa fb g (vl env) β) fun d β'=>∀v G' H',SR Γ B G' H' σ (frz (La ++ Lb) env) β'->Same G G'->Mov B H H'->VO Γ.K B H G' H' md d v->Q v H') :
  pT Γ E fa La ma σ H fun x H1=>pT Γ E fb Lb mb σ H1 fun y H2=>r x y H2 Q:=by
 refine two I (h.bnd.imp fun d1 β1 h=>h.bnd.imp fun d2 β2 h x y G2 H2 I2 s2 m2 bx by'=>?_)
 obtain⟨d,e,k⟩:=h.of
 refine pr B G2 H2 x y d1 d2 d Q I2.sub I2.boxThere bx by' e fun v G' H' x' vo=>?_
 exact k v G' H' (I2.ext x') (s2.trans x'.gg) (m2.trans (x'.hh.mov B)) (vo.back m2 I2.boxThere)
theorem se_op {op:Operator}{r:R2}{g:D->D->Option D}(ho:OpR X (binaryOp op) r)(pr:Pr2 Γ.K r g md)(ha:SE X Γ E a fa La ma)(hb:SE X Γ E b fb Lb mb):SE X Γ E (.BinOp a op b pos) (f2 fa fb g) (La ++ Lb) md:=
 PE.post' (pe_op ho ha hb) fun σ H Q ⟨env,G,B,β,I,o⟩=>pr2_run pr I o
theorem se_cmp {op:CmpOp}{r:R2}{g:D->D->Option D}(ho:OpR X (compareOp op) r)(pr:Pr2 Γ.K r g md)(ha:SE X Γ E a fa La ma)(hb:SE X Γ E b fb Lb mb)(hm:behindInMarks op b=false):SE X Γ E (.Compare a [op] [b] pos) (f2 fa fb g) (La ++ Lb) md:=
 PE.post' (pe_cmpR ho ha hb hm) fun σ H Q ⟨env,G,B,β,I,o⟩=>pr2_run pr I o
theorem se_ix {r:R2}{g:D->D->Option D}(hr:IxR X r)(pr:Pr2 Γ.K r g md)(ha:SE X Γ E a fa La ma)(hb:SE X Γ E b fb Lb mb)(hs:PlainIx b):SE X Γ E (.Subscript a b pos) (f2 fa fb g) (La ++ Lb) md:=
 PE.post' (pe_ix hr ha hb hs) fun σ H Q ⟨env,G,B,β,I,o⟩=>pr2_run pr I o
def Pr1 (K:PySem.W.Frag)(r:V->Hp->VK->Prop)(g:D->Option D)(md:Md):Prop:=∀(B:Option Addr) (G H:Hp) (x:V) (dx d:D) (Q:VK),Same G H->(∀x,B=some x->H x≠none)->Brw K B G H x dx->g dx=some d->
 (∀v G' H',Ext G H G' H'->VO K B H G' H' md d v->Q v H')->r x H Q
def f1 (fa:VF D)(g:D->Option D):VF D:=fun vs β=>(fa vs β).bnd fun x β1=>R.of (g x) β1
theorem pr1_run {r:V->Hp->VK->Prop}{g:D->Option D}{Q:VK}(pr:Pr1 Γ.K r g md){B:Option Addr}{G H:Hp}{σ:St}{env:En}{β:Int}(I:SR Γ B G H σ env β)
  (h:Out Γ E (f1 fa g (vl env) β) fun d β'=>∀v G' H',SR Γ B G' H' σ (frz La env) β'->Same G G'->Mov B H H'->VO Γ.K B H G' H' md d v->Q v H') :
  pT Γ E fa La ma σ H fun x H1=>r x H1 Q:=by
 refine⟨env,G,B,β,I,h.bnd.imp fun d1 β1 h x G1 H1 I1 s1 m1 vx=>?_⟩
 obtain⟨d,e,k⟩:=h.of
 refine pr B G1 H1 x d1 d Q I1.sub I1.boxThere (vx.brw I.boxThere) e fun v G' H' x' vo=>?_
 exact k v G' H' (I1.ext x') (s1.trans x'.gg) (m1.trans (x'.hh.mov B)) (vo.back m1 I1.boxThere)
theorem se_un {op:UnaryOp}{r:V->Hp->VK->Prop}{g:D->Option D}(ho:UnR X (unaryOp op) r)(pr:Pr1 Γ.K r g md)(ha:SE X Γ E a fa La ma):SE X Γ E (.UnaryOp op a pos) (f1 fa g) La md:=
 PE.post' (pe_un ho ha) fun σ H Q ⟨env,G,B,β,I,o⟩=>pr1_run pr I o
theorem se_call1 {id:String}{r:List V->Hp->VK->Prop}{g:D->Option D}{x:Str}{p:Pos}(hc:CallR X (.builtin id) r)(pr:Pr1 Γ.K (fun x=>r [x]) g md)(hg:Gl X x)(hm:X.mg x=none)(hv:bootBuiltins x=some (.builtin id))(ha:SE X Γ E a fa La ma)(hn:x≠"__name__":=by decide)(hdb:(x == ("__debug__":Str))=false:=by decide)
  (he:starEach [a] X.env=(false,eval a X.env) :: starEach [] X.env:=by rfl):SE X Γ E (.Call (.Name x p) [a] [] pos) (f1 fa g) La md:=
 PE.post' (pe_callB hc hg hm hv (pa_cons ha pa_nil he) hn hdb he) fun σ H Q ⟨env,G,B,β,I,o⟩=>pr1_run (r:=fun x=>r [x]) pr I o
theorem se_type1 {id:String}{r:List V->Hp->VK->Prop}{g:D->Option D}{x:Str}{p:Pos}(hc:CallR X (.type id) r)(pr:Pr1 Γ.K (fun x=>r [x]) g md)(hg:Gl X x)(hm:X.mg x=none)(hv:bootBuiltins x=some (.type id))(ha:SE X Γ E a fa La ma)(hn:x≠"__name__":=by decide)(hdb:(x == ("__debug__":Str))=false:=by decide)
  (he:starEach [a] X.env=(false,eval a X.env) :: starEach [] X.env:=by rfl):SE X Γ E (.Call (.Name x p) [a] [] pos) (f1 fa g) La md:=
 PE.post' (pe_callTy hc hg hm hv (pa_cons ha pa_nil he) hn hdb he) fun σ H Q ⟨env,G,B,β,I,o⟩=>pr1_run (r:=fun x=>r [x]) pr I o
theorem se_call2 {id:String}{r:List V->Hp->VK->Prop}{g:D->D->Option D}{x:Str}{p:Pos}(hc:CallR X (.builtin id) r)(pr:Pr2 Γ.K (fun x y=>r [x,y]) g md)(hg:Gl X x)(hm:X.mg x=none)(hv:bootBuiltins x=some (.builtin id))(ha:SE X Γ E a fa La ma)(hb:SE X Γ E b fb Lb mb)(hn:x≠"__name__":=by decide)(hdb:(x == ("__debug__":Str))=false:=by decide)
  (he:starEach [a,b] X.env=(false,eval a X.env) :: starEach [b] X.env:=by rfl) (he2:starEach [b] X.env=(false,eval b X.env) :: starEach [] X.env:=by rfl) (hpl:(backTo pos (starEach [b] X.env)).any (·.1)=false:=by rfl):SE X Γ E (.Call (.Name x p) [a,b] [] pos) (f2 fa fb g) (La ++ Lb) md:=
 PE.post' (pe_callB hc hg hm hv (pa_cons ha (pa_cons hb pa_nil he2) he) hn hdb he hpl) fun σ H Q ⟨env,G,B,β,I,o⟩=>pr2_run (r:=fun x y=>r [x,y]) pr I o
def fAnd (fa fb:VF D):VF D:=fun vs β=>(fa vs β).bnd fun x β1=>match x with
 | .bool true=>fb vs β1
 | .bool false=>.ok (.bool false) β1
 |_=>.bad
def fOr (fa fb:VF D):VF D:=fun vs β=>(fa vs β).bnd fun x β1=>match x with
 | .bool false=>fb vs β1
 | .bool true=>.ok (.bool true) β1
 |_=>.bad
theorem se_one {op}(h:SE X Γ E a fa La md):SE X Γ E (.BoolOp op [a] pos) fa La md:=pe_one h
theorem se_and {rest:List Expr}(ha:SE X Γ E a fa La ma)(hb:SE X Γ E (.BoolOp .And (b :: rest) pos) fb Lb .v)(hbr:∀i,i∈Lb->Γ.br i=false):SE X Γ E (.BoolOp .And (a :: b :: rest) pos) (fAnd fa fb) (La ++ Lb) .v:=by
 refine PE.post' (pe_and ha hb) fun σ H Q ⟨env,G,B,β,I,o⟩=>?_
 refine⟨env,G,B,β,I,o.bnd.imp fun d1 β1 h x G1 H1 I1 s1 m1 vx=>?_⟩
 have bx:=vx.brw I.boxThere
 cases d1 with
 |bool c=>
  obtain rfl:=bx.bool
  refine⟨c,rfl,?_⟩
  cases c with
  |true=>exact iteT ⟨_,G1,B,β1,I1,by rw [vl_frz];exact h.imp fun d β' k v G' H' I' s' m' vo=>k v G' H' (by rw [frz_app];exact I') (s1.trans s') (m1.trans m') vo⟩
  |false=>
   obtain⟨G2,I2,s2⟩:=I1.frz Lb hbr
   exact iteF (h _ G2 H1 (by rw [frz_app];exact I2) (s1.trans s2) m1 (.bl false))
 |_=>exact h.elim
theorem se_or {rest:List Expr}(ha:SE X Γ E a fa La ma)(hb:SE X Γ E (.BoolOp .Or (b :: rest) pos) fb Lb .v)(hbr:∀i,i∈Lb->Γ.br i=false):SE X Γ E (.BoolOp .Or (a :: b :: rest) pos) (fOr fa fb) (La ++ Lb) .v:=by
 refine PE.post' (pe_or ha hb) fun σ H Q ⟨env,G,B,β,I,o⟩=>?_
 refine⟨env,G,B,β,I,o.bnd.imp fun d1 β1 h x G1 H1 I1 s1 m1 vx=>?_⟩
 have bx:=vx.brw I.boxThere
 cases d1 with
 |bool c=>
  obtain rfl:=bx.bool
  refine⟨c,rfl,?_⟩
  cases c with
  |true=>
   obtain⟨G2,I2,s2⟩:=I1.frz Lb hbr
   exact iteT (h _ G2 H1 (by rw [frz_app];exact I2) (s1.trans s2) m1 (.bl true))
  |false=>exact iteF ⟨_,G1,B,β1,I1,by rw [vl_frz];exact h.imp fun d β' k v G' H' I' s' m' vo=>k v G' H' (by rw [frz_app];exact I') (s1.trans s') (m1.trans m') vo⟩
 |_=>exact h.elim
def gNot:D->Option D
 | .bool c=>some (.bool (!c))
 |_=>none
theorem se_not (ha:SE X Γ E a fa La ma):SE X Γ E (.UnaryOp .Not a pos) (f1 fa gNot) La .v:=by
 refine PE.post' (pe_not ha) fun σ H Q ⟨env,G,B,β,I,o⟩=>?_
 refine pr1_run (r:=fun x H1 Q=>∃c,x=.bl c/\Q (.bl (!c)) H1) ?_ I o
 intro B G H x dx d Q s hB bx e k
 cases dx with
 |bool c=>
  obtain rfl:=bx.bool
  cases e
  exact⟨c,rfl,k _ G H (Ext.refl s) (.bl _)⟩
 |_=>cases e
def truD:D->Option Bool
 | .none=>some false
 | .bool b=>some b
 | .int i=>some (i != 0)
 | .str y=>if y.length<=sizeLine then some ((y.length:Int) != 0) else none
 | .list ds=>some (!ds.isEmpty)
 | .tuple ds=>some (!ds.isEmpty)
 | .dict _=>none
def tTr (fa:VF D):VF Bool:=fun vs β=>(fa vs β).bnd fun x β1=>R.of (truD x) β1
theorem isEmpty_rps {K:PySem.W.Frag}{G:Hp}{xs:List V}{ds:List D}(r:Rps K G xs ds):(!ds.isEmpty)= !xs.isEmpty:=by cases r <;> rfl
theorem st_val (hK:X.K=Γ.K)(ha:SE X Γ E a fa La ma)(he:∀whole,isTrue a X.env whole=(do let v <-whole;standAt a.pos;holding [v] (truthy v)):=by intro _;rfl):STt X Γ E a (tTr fa) La:=by
 refine PT.post (pt_truth ha he) fun σ H Q ⟨env,G,B,β,I,o⟩=>?_
 refine⟨env,G,B,β,I,o.bnd.imp fun d1 β1 h x G1 H1 I1 s1 m1 vx=>?_⟩
 obtain⟨c,e,k⟩:=h.of
 have bx:=vx.brw I.boxThere
 refine⟨c,?_,k G1 H1 I1 s1 m1⟩
 rw [hK]
 cases d1 with
 |none=>obtain rfl:=bx.none;cases e;rfl
 |bool b=>obtain rfl:=bx.bool;cases e;rfl
 |int i=>obtain rfl:=bx.int;cases e;rfl
 |str y=>
  obtain rfl:=bx.str
  simp only [truD] at e
  split at e
  ·cases e;exact⟨by assumption,rfl⟩
  ·cases e
 |list ds=>obtain⟨p,xs,rfl,hq,r⟩:=bx.list I1.sub;cases e;exact .inl ⟨xs,.inl hq,isEmpty_rps r⟩
 |tuple ds=>obtain⟨p,xs,rfl,hq,r⟩:=bx.tuple I1.sub;cases e;exact .inr (.inl ⟨xs,hq,isEmpty_rps r⟩)
 |dict ds=>cases e
def tBl (fa:VF D):VF Bool:=fun vs β=>(fa vs β).bnd fun x β1=>match x with
 | .bool c=>.ok c β1
 |_=>.bad
theorem st_cmp {op:CmpOp}{r:R2}{g:D->D->Option D}(ho:OpR X (compareOp op) r)(pr:Pr2 Γ.K r g .v)(ha:SE X Γ E a fa La ma)(hb:SE X Γ E b fb Lb mb)(hm:behindInMarks op b=false):STt X Γ E (.Compare a [op] [b] pos) (tBl (f2 fa fb g)) (La ++ Lb):=by
 refine PT.post (pt_cmpR ho ha hb hm) fun σ H Q ⟨env,G,B,β,I,o⟩=>?_
 refine pr2_run pr I (o.bnd.imp fun d β' h v G' H' I' s' m' vo=>?_)
 cases d with
 |bool c=>cases vo;exact⟨c,rfl,h G' H' I' s' m'⟩
 |_=>exact h.elim
def tNt (t:VF Bool):VF Bool:=fun vs β=>(t vs β).bnd fun c β1=>.ok (!c) β1
def tAn (t u:VF Bool):VF Bool:=fun vs β=>(t vs β).bnd fun c β1=>if c=true then u vs β1 else .ok false β1
def tOrr (t u:VF Bool):VF Bool:=fun vs β=>(t vs β).bnd fun c β1=>if c=true then .ok true β1 else u vs β1
variable {ta tb tc:VF Bool}
theorem st_not (ha:STt X Γ E a ta La):STt X Γ E (.UnaryOp .Not a pos) (tNt ta) La:=by
 refine PT.post (pt_not ha) fun σ H Q ⟨env,G,B,β,I,o⟩=>?_
 exact⟨env,G,B,β,I,o.bnd.imp fun c β1 h=>h⟩
theorem STw.t (h:STw X Γ E e ta La):STt X Γ E e ta La:=PW.pt h
theorem sw_and1 (ha:STt X Γ E a ta La):STw X Γ E (.BoolOp .And [a] pos) ta La:=pw_and1 ha
theorem sw_or1 (ha:STt X Γ E a ta La):STw X Γ E (.BoolOp .Or [a] pos) ta La:=pw_or1 ha
theorem sw_and {rest:List Expr}(ha:STt X Γ E a ta La)(hb:STw X Γ E (.BoolOp .And (b :: rest) pos) tb Lb)(hbr:∀i,i∈Lb->Γ.br i=false):STw X Γ E (.BoolOp .And (a :: b :: rest) pos) (tAn ta tb) (La ++ Lb):=by
 refine PW.post (pw_and ha hb) fun σ H Q ⟨env,G,B,β,I,o⟩=>?_
 refine⟨env,G,B,β,I,o.bnd.imp fun c β1 h G1 H1 I1 s1 m1=>?_⟩
 cases c with
 |true=>exact iteT ⟨_,G1,B,β1,I1,by rw [vl_frz];exact Out.imp h fun d β' k G' H' I' s' m'=>k G' H' (by rw [frz_app];exact I') (s1.trans s') (m1.trans m')⟩
 |false=>
  obtain⟨G2,I2,s2⟩:=I1.frz Lb hbr
  exact iteF (h G2 H1 (by rw [frz_app];exact I2) (s1.trans s2) m1)
theorem sw_or {rest:List Expr}(ha:STt X Γ E a ta La)(hb:STw X Γ E (.BoolOp .Or (b :: rest) pos) tb Lb)(hbr:∀i,i∈Lb->Γ.br i=false):STw X Γ E (.BoolOp .Or (a :: b :: rest) pos) (tOrr ta tb) (La ++ Lb):=by
 refine PW.post (pw_or ha hb) fun σ H Q ⟨env,G,B,β,I,o⟩=>?_
 refine⟨env,G,B,β,I,o.bnd.imp fun c β1 h G1 H1 I1 s1 m1=>?_⟩
 cases c with
 |true=>
  obtain⟨G2,I2,s2⟩:=I1.frz Lb hbr
  exact iteT (h G2 H1 (by rw [frz_app];exact I2) (s1.trans s2) m1)
 |false=>exact iteF ⟨_,G1,B,β1,I1,by rw [vl_frz];exact Out.imp h fun d β' k G' H' I' s' m'=>k G' H' (by rw [frz_app];exact I') (s1.trans s') (m1.trans m')⟩
def fIf (t:VF Bool)(fa fb:VF D):VF D:=fun vs β=>(t vs β).bnd fun c β1=>if c=true then fa vs β1 else fb vs β1
def aNil:VF (List D):=fun _ β=>.ok [] β
def aCons (fa:VF D)(fr:VF (List D)):VF (List D):=fun vs β=>(fa vs β).bnd fun x β1=>(fr vs β1).bnd fun xs β2=>.ok (x :: xs) β2
variable {fr:VF (List D)}{es:List Expr}
theorem sa_nil:SA X Γ E [] aNil []:=PA.post pa_nil fun σ H Q ⟨env,G,B,β,I,o⟩=>o [] G H I (Same.refl _) (Mov.refl _ _) .nil
theorem sa_cons (ha:SE X Γ E a fa La .v)(hr:SA X Γ E es fr Lb)(hs:starEach (a :: es) X.env=(false,eval a X.env) :: starEach es X.env:=by rfl):SA X Γ E (a :: es) (aCons fa fr) (La ++ Lb):=by
 refine PA.post (pa_cons ha hr hs) fun σ H Q ⟨env,G,B,β,I,o⟩=>?_
 refine⟨env,G,B,β,I,o.bnd.imp fun d1 β1 h x G1 H1 I1 s1 m1 vx=>⟨frz La env,G1,B,β1,I1,?_⟩⟩
 rw [vl_frz]
 refine h.bnd.imp fun ds β2 k xs G2 H2 I2 s2 m2 r=>?_
 exact k (x :: xs) G2 H2 (by rw [frz_app];exact I2) (s1.trans s2) (m1.trans m2) (.cons (vx.mono s2) r)
def fTup (fr:VF (List D)):VF D:=fun vs β=>(fr vs β).bnd fun ds β1=>if ds.length<=sizeLine then .ok (.tuple ds) β1 else .bad
def fLst (fr:VF (List D)):VF D:=fun vs β=>(fr vs β).bnd fun ds β1=>if ds.length<=sizeLine then .ok (.list ds) β1 else .bad
theorem se_tup {x1}(h:SA X Γ E es fr L):SE X Γ E (.Tuple es x1 pos) (fTup fr) L .v:=by
 refine PE.post' (pe_tup h) fun σ H Q ⟨env,G,B,β,I,o⟩=>?_
 refine⟨env,G,B,β,I,o.bnd.imp fun ds β1 k xs G1 H1 I1 s1 m1 r=>?_⟩
 by_cases hz:ds.length<=sizeLine
 ·rw [if_pos hz] at k
  refine⟨by rw [r.len];exact hz,fun p hp=>?_⟩
  have x:=Ext.new I1.sub (o:=.tup xs) hp
  exact k _ _ _ (I1.ext x) (s1.trans x.gg) (m1.trans (x.hh.mov B)) (.tup (.inl (.inl upd_same)) (r.mono x.gg))
 ·rw [if_neg hz] at k;exact k.elim
theorem se_lst (h:SA X Γ E es fr L):SE X Γ E (.List es pos) (fLst fr) L .w:=by
 refine PE.post' (pe_lst h) fun σ H Q ⟨env,G,B,β,I,o⟩=>?_
 refine⟨env,G,B,β,I,o.bnd.imp fun ds β1 k xs G1 H1 I1 s1 m1 r=>?_⟩
 by_cases hz:ds.length<=sizeLine
 ·rw [if_pos hz] at k
  refine⟨by rw [r.len];exact hz,fun p hp=>?_⟩
  have x:=Ext.own I1.sub (o:=.lst xs) hp
  exact k _ _ _ (I1.ext x) s1 (m1.trans (x.hh.mov B)) ⟨p,rfl,back_none m1 I1.boxThere hp,I1.sub.free hp,xs,upd_same,r⟩
 ·rw [if_neg hz] at k;exact k.elim
inductive FR where
 |ok (d:D) (fresh:Bool)
 |exc (c:Str)
 |bad
def FV (K:PySem.W.Frag)(H G' H':Hp)(fr:Bool)(d:D)(v:V):Prop:=if fr=true then ∃a,v=.ref a/\H a=none/\G' a=none/\Own K G' H' a d else Rp K G' v d
def spP (K:PySem.W.Frag)(ca:Str->Addr)(n:Nat)(F:List D->FR):Sp:=fun vs H Q E=>∃G ds,Same G H/\ds.length=n/\Rps K G vs ds/\match F ds with
 | .ok d fr=>∀v G' H',Same H H'->Same G G'->Same G' H'->(∀b,Mx H b->G b=none->G' b=none)->FV K H G' H' fr d v->Q v H'
 | .exc c=>∀H',Same H H'->E (.ref (ca c)) none H'
 | .bad=>False
structure Has (P:Program)(w:World)(K:PySem.W.Frag)(mg:Str->Option Value)(base:Heap)(ca:Str->Addr)(x:Str)(ps:List Str)(k:Nat)(F:List D->FR):Prop where
 ex:∃f fd,mg x=some (.ref f)/\PySem.W.keepIn K (.ref f)=true/\Binds K fd ps []/\FnOk P w K mg base (CXr P w) k f fd ps (spP K ca ps.length F)
 len:∀ds,F ds≠.bad->ds.length=ps.length
def callV (F:List D->FR)(fr:VF (List D)):VF D:=fun vs β=>(fr vs β).bnd fun ds β1=>match F ds with
 | .ok d _=>.ok d β1
 | .exc c=>.exc c
 | .bad=>.bad
def callW (F:List D->FR)(fr:VF (List D)):VF D:=fun vs β=>(fr vs β).bnd fun ds β1=>match F ds with
 | .ok d true=>.ok d β1
 | .ok _ false=>.bad
 | .exc c=>.exc c
 | .bad=>.bad
theorem SR.called {B:Option Addr}{G1 H1 G2 H2:Hp}{σ:St}{env:En}{β:Int}(I1:SR Γ B G1 H1 σ env β)(h:Same H1 H2)(g:Same G1 G2)(s:Same G2 H2)(n:∀b,Mx H1 b->G1 b=none->G2 b=none):SR Γ B G2 H2 σ env β/\Mov B H1 H2:=by
 refine⟨⟨s,I1.old.trans g,fun b n1 n2=>?_,fun b o e np=>h b o (I1.keep b o e np),fun b hb=>?_,I1.fix,fun b e=>?_,I1.len,fun i t e=>?_,I1.sep⟩,h.mov B⟩
 ·exact n b (I1.thereM n1) (I1.new b n1 n2)
 ·exact (I1.pin b hb).same fun o e=>h b o e
 ·obtain⟨h1,h2,h3⟩:=I1.box b e
  exact⟨h b _ h1,n b (Mx.lst h1) h2,h3⟩
 ·have q:=I1.slot i t e
  cases t with
  |no=>trivial
  |fz d=>obtain⟨v,h1,h2⟩:=q;exact⟨v,h1,h2.mono g⟩
  |ow d=>
   obtain⟨p,h1,h2,h3,h4,h5⟩:=q
   exact⟨p,h1,h2,n p h5.mx h3,h4,h5.mono g fun o q=>h p o q⟩
  |bx=>exact q
  |br d=>obtain⟨b1,p,h1,h4,hp,h5⟩:=q;exact⟨b1,p,h1,h4,hp,h5.mono g fun o q=>h p o q⟩
theorem SR.kp {B:Option Addr}{G H H':Hp}{σ:St}{env:En}{β:Int}(I:SR Γ B G H σ env β)(h:Same H H'):Kp Γ H':=fun b o e n=>h b o (I.keep b o e n)
theorem call_core {F:List D->FR}{ps:List Str}{Q:VK}{B:Option Addr}{G H:Hp}{σ:St}{env:En}{β:Int}(I:SR Γ B G H σ env β)(hK:X.K=Γ.K){wv:Bool}
  (h:Out Γ E (if wv=true then callW F fr (vl env) β else callV F fr (vl env) β) fun d β'=>∀v G' H',SR Γ B G' H' σ (frz L env) β'->Same G G'->Mov B H H'->VO Γ.K B H G' H' (if wv=true then .w else .v) d v->Q v H') (hl:∀ds,F ds≠.bad->ds.length=ps.length) :
  aT Γ E fr L σ H fun vs H1=>spP X.K Γ.ca ps.length F vs H1 Q E:=by
 refine⟨env,G,B,β,I,?_⟩
 have h:Out Γ E (fr (vl env) β) fun ds β1=>Out Γ E (match F ds with
   | .ok d true=>.ok d β1
   | .ok d false=>if wv=true then .bad else .ok d β1
   | .exc c=>.exc c
   | .bad=>.bad) fun d β'=>∀v G' H',SR Γ B G' H' σ (frz L env) β'->Same G G'->Mov B H H'->VO Γ.K B H G' H' (if wv=true then .w else .v) d v->Q v H':=by
  cases wv with
  |true=>
   simp only [if_true] at h ⊢
   refine h.bnd.imp fun ds β1 h=>?_
   cases q:F ds with
   |ok d b=>rw [q] at h;cases b <;> exact h
   |exc c=>rw [q] at h;exact h
   |bad=>rw [q] at h;exact h
  |false=>
   simp only [Bool.false_eq_true,if_false] at h ⊢
   refine h.bnd.imp fun ds β1 h=>?_
   cases q:F ds with
   |ok d b=>rw [q] at h;cases b <;> exact h
   |exc c=>rw [q] at h;exact h
   |bad=>rw [q] at h;exact h
 refine h.imp fun ds β1 k vs G1 H1 I1 s1 m1 r=>?_
 refine⟨G1,ds,I1.sub,?_,by rw [hK];exact r,?_⟩
 ·exact hl ds fun z=>by rw [z] at k;exact k
 cases q:F ds with
 |bad=>rw [q] at k;exact k
 |exc c=>rw [q] at k;exact fun H' s=>k H' (I1.kp s)
 |ok d b=>
  rw [q] at k
  intro v G' H' hh hg hs hn fv
  obtain⟨I2,m2⟩:=I1.called hh hg hs hn
  cases b with
  |true=>
   obtain⟨p,rfl,p1,p2,p3⟩:∃a,v=.ref a/\H1 a=none/\G' a=none/\Own X.K G' H' a d:=fv
   rw [hK] at p3
   have hp:=back_none m1 I1.boxThere p1
   cases wv with
   |true=>exact k _ G' H' I2 (s1.trans hg) (m1.trans m2) ⟨p,rfl,hp,p2,p3⟩
   |false=>
    obtain⟨q1,q2,q3,q4⟩:=I1.fresh p1
    obtain⟨G3,I3,s3,r3⟩:=I2.letIn q1 p2 q3 q4 p3
    exact k _ G3 H' I3 ((s1.trans hg).trans s3) (m1.trans m2) r3
  |false=>
   cases wv with
   |true=>exact k.elim
   |false=>
    have fv:Rp X.K G' v d:=fv
    rw [hK] at fv
    exact k _ G' H' I2 (s1.trans hg) (m1.trans m2) fv
theorem se_call {x:Str}{ps:List Str}{k:Nat}{F:List D->FR}{p:Pos}(hf:Has X.prog X.w X.K X.mg X.base Γ.ca x ps k F)(hr:Room k X.A)(hx:Passes (CXr X.prog X.w) X E)(hK:X.K=Γ.K)(hg:Gl X x)(ha:SA X Γ E (a :: es) fr L)(hdb:(x == ("__debug__":Str))=false:=by decide)
  (he:starEach (a :: es) X.env=(false,eval a X.env) :: starEach es X.env:=by rfl) (hpl:(backTo pos (starEach es X.env)).any (·.1)=false:=by rfl):SE X Γ E (.Call (.Name x p) (a :: es) [] pos) (callV F fr) L .v:=by
 obtain⟨f,fd,hm,hk,hb,hF⟩:=hf.ex
 refine PE.post' (pe_call (dvs:=[]) hF hr hg hm hk hb .nil hx ha hdb he hpl) fun σ H Q ⟨env,G,B,β,I,o⟩=>?_
 show aT Γ E fr L σ H fun vs H1=>spP X.K Γ.ca ps.length F (vs ++ []) H1 Q E
 have:=call_core (Q:=Q) (wv:=false) (ps:=ps) I hK o hf.len
 simpa using this
theorem se_callW {x:Str}{ps:List Str}{k:Nat}{F:List D->FR}{p:Pos}(hf:Has X.prog X.w X.K X.mg X.base Γ.ca x ps k F)(hr:Room k X.A)(hx:Passes (CXr X.prog X.w) X E)(hK:X.K=Γ.K)(hg:Gl X x)(ha:SA X Γ E (a :: es) fr L)(hdb:(x == ("__debug__":Str))=false:=by decide)
  (he:starEach (a :: es) X.env=(false,eval a X.env) :: starEach es X.env:=by rfl) (hpl:(backTo pos (starEach es X.env)).any (·.1)=false:=by rfl):SE X Γ E (.Call (.Name x p) (a :: es) [] pos) (callW F fr) L .w:=by
 obtain⟨f,fd,hm,hk,hb,hF⟩:=hf.ex
 refine PE.post' (pe_call (dvs:=[]) hF hr hg hm hk hb .nil hx ha hdb he hpl) fun σ H Q ⟨env,G,B,β,I,o⟩=>?_
 show aT Γ E fr L σ H fun vs H1=>spP X.K Γ.ca ps.length F (vs ++ []) H1 Q E
 have:=call_core (Q:=Q) (wv:=true) (ps:=ps) I hK o hf.len
 simpa using this
end
end L2

end

section
namespace L2
open PySem PySem.Spec PyProof.Rows
inductive SO where
 |nx (env:En) (β:Int)
 |bk (env:En) (β:Int)
 |ct (env:En) (β:Int)
 |rt (d:D) (fr:Bool) (β:Int)
 |exc (c:Str)
 |bad
abbrev SF:=En->Int->SO
def RV (Γ:Fx)(G' H':Hp)(fr:Bool)(d:D)(v:V):Prop:=if fr=true then ∃a,v=.ref a/\Γ.H0 a=none/\G' a=none/\Own Γ.K G' H' a d else Rp Γ.K G' v d
def SOk (Γ:Fx)(E:XK)(G:Hp)(N:Ends):SO->Prop
 | .nx env β=>∀B G' H' σ,SR Γ B G' H' σ env β->Same G G'->N.nx σ H'
 | .bk env β=>∀B G' H' σ,SR Γ B G' H' σ env β->Same G G'->N.bk σ H'
 | .ct env β=>∀B G' H' σ,SR Γ B G' H' σ env β->Same G G'->N.ct σ H'
 | .rt d fr β=>∀B G' H' σ env v,SR Γ B G' H' σ env β->Same G G'->RV Γ G' H' fr d v->N.rt v H'
 | .exc c=>∀H',Kp Γ H'->E (.ref (Γ.ca c)) none H'
 | .bad=>False
def sT (Γ:Fx)(E:XK)(m:SF):TS:=fun N σ H=>∃env G B β,SR Γ B G H σ env β/\SOk Γ E G N (m env β)
def SS (X:Cx)(Γ:Fx)(E:XK)(st:Stmt)(m:SF):Prop:=PS X st (sT Γ E m)
def SSs (X:Cx)(Γ:Fx)(E:XK)(st:List Stmt)(m:SF):Prop:=PSs X st (sT Γ E m)
theorem PSs.post {X:Cx}{st:List Stmt}{t u:TS}(h:PSs X st t)(m:∀D σ H,u D σ H->t D σ H):PSs X st u:=fun pins s σ H D I q=>h pins s σ H D I (m D σ H q)
def mSeq (m m':SF):SF:=fun env β=>match m env β with
 | .nx env' β'=>m' env' β'
 |r=>r
def mNx:SF:=fun env β=>.nx env β
section
variable {X:Cx}{Γ:Fx}{E:XK}{e a b c:Expr}{f fa fb:VF D}{L La Lb:List Nat}{md ma mb:Md}{pos:Pos}{st:Stmt}{sts:List Stmt}{m m':SF}{ta:VF Bool}
theorem SOk.weak {G G1:Hp}{N:Ends}{r:SO}(h:SOk Γ E G N r)(s:Same G G1):SOk Γ E G1 N r:=by
 cases r with
 |nx env β=>exact fun B G' H' σ I s'=>h B G' H' σ I (s.trans s')
 |bk env β=>exact fun B G' H' σ I s'=>h B G' H' σ I (s.trans s')
 |ct env β=>exact fun B G' H' σ I s'=>h B G' H' σ I (s.trans s')
 |rt d fr β=>exact fun B G' H' σ env v I s'=>h B G' H' σ env v I (s.trans s')
 |exc c=>exact h
 |bad=>exact h
theorem ss_nil:SSs X Γ E [] mNx:=PSs.post pss_nil fun N σ H ⟨env,G,B,β,I,o⟩=>o B G H σ I (Same.refl _)
theorem ss_cons (h:SS X Γ E st m)(h':SSs X Γ E sts m'):SSs X Γ E (st :: sts) (mSeq m m'):=by
 refine PSs.post (pss_cons h h') fun N σ H ⟨env,G,B,β,I,o⟩=>?_
 refine⟨env,G,B,β,I,?_⟩
 unfold mSeq at o
 cases q:m env β with
 |nx env' β'=>rw [q] at o;exact fun B' G' H' σ' I' s'=>⟨env',G',B',β',I',o.weak s'⟩
 |bk env' β'=>rw [q] at o;exact o
 |ct env' β'=>rw [q] at o;exact o
 |rt d fr β'=>rw [q] at o;exact o
 |exc c=>rw [q] at o;exact o
 |bad=>rw [q] at o;exact o
theorem ss_one (h:SS X Γ E st m):SSs X Γ E [st] m:=pss_one h
def toS {α:Type}(r:R α)(k:α->Int->SO):SO:=match r with
 | .ok x β=>k x β
 | .exc c=>.exc c
 | .bad=>.bad
theorem toS_out {α:Type}{G:Hp}{N:Ends}{r:R α}{k:α->Int->SO}{P:α->Int->Prop}(h:SOk Γ E G N (toS r k))(i:∀x β,SOk Γ E G N (k x β)->P x β):Out Γ E r P:=by
 cases r with
 |ok x β=>exact i x β h
 |exc c=>exact h
 |bad=>exact h
theorem SR.set' {B:Option Addr}{G H:Hp}{σ:St}{env:En}{β:Int}(I:SR Γ B G H σ env β)(i:Nat){v:V}{d:D}(h:Rp Γ.K G v d):SR Γ B G H (σ.set i (some v)) (env.set i (.fz d)) β:=by
 by_cases hi:i < env.length
 ·exact I.set hi h
 ·have h1:env.set i (.fz d)=env:=List.set_eq_of_length_le (by omega)
  have h2:σ.set i (some v)=σ:=List.set_eq_of_length_le (by rw [I.len];omega)
  rw [h1,h2];exact I
theorem SR.setOw' {B:Option Addr}{G H:Hp}{σ:St}{env:En}{β:Int}(I:SR Γ B G H σ env β)(i:Nat){a:Addr}{d:D}(h0:Γ.H0 a=none)(hg:G a=none)(hb:B≠some a)(h:Own Γ.K G H a d)(hn:∀(j:Nat) (d':D),env[j]? =some (.ow d')->σ[j]?≠some (some (.ref a))):SR Γ B G H (σ.set i (some (.ref a))) (env.set i (.ow d)) β:=by
 by_cases hi:i < env.length
 ·exact I.setOw hi h0 hg hb h fun j d' e _=>hn j d' e
 ·have h1:env.set i (.ow d)=env:=List.set_eq_of_length_le (by omega)
  have h2:σ.set i (some (.ref a))=σ:=List.set_eq_of_length_le (by rw [I.len];omega)
  rw [h1,h2];exact I
def mSet (i:Nat)(L:List Nat)(f:VF D):SF:=fun env β=>toS (f (vl env) β) fun d β'=>.nx ((frz L env).set i (.fz d)) β'
theorem ss_set {i:Nat}{x:Str}{pos':Pos}(he:SE X Γ E e f L .v)(hN:X.N.Nodup)(hi:X.N[i]? =some x:=by rfl)(hx:Loc X.env.scope x:=by first |exact Or.inl rfl |exact Or.inr rfl)(hs:swapsWith e (some (.Name x pos')) pos.line X.env=pure false:=by rfl)(hf:X.fn x=true\/X.env.scope.names.lookup x=some .local:=by first |exact .inl rfl |exact .inr rfl |assumption) :
  SS X Γ E (.Assign [.Name x pos'] e pos) (mSet i L f):=by
 refine PS.post (ps_set hN hi hx he hs hf) fun N σ H ⟨env,G,B,β,I,o⟩=>?_
 refine⟨env,G,B,β,I,toS_out o fun d β' k v G' H' I' s' m' vo=>?_⟩
 exact k B G' H' _ (I'.set' i vo) s'
def mSetO (i:Nat)(L:List Nat)(f:VF D):SF:=fun env β=>toS (f (vl env) β) fun d β'=>.nx ((frz L env).set i (.ow d)) β'
theorem ss_setO {i:Nat}{x:Str}{pos':Pos}(he:SE X Γ E e f L .w)(hN:X.N.Nodup)(hi:X.N[i]? =some x:=by rfl)(hx:Loc X.env.scope x:=by first |exact Or.inl rfl |exact Or.inr rfl)(hs:swapsWith e (some (.Name x pos')) pos.line X.env=pure false:=by rfl)(hf:X.fn x=true\/X.env.scope.names.lookup x=some .local:=by first |exact .inl rfl |exact .inr rfl |assumption) :
  SS X Γ E (.Assign [.Name x pos'] e pos) (mSetO i L f):=by
 refine PS.post (ps_set hN hi hx he hs hf) fun N σ H ⟨env,G,B,β,I,o⟩=>?_
 refine⟨env,G,B,β,I,toS_out o fun d β' k v G' H' I' s' m' vo=>?_⟩
 obtain⟨p,rfl,h1,h2,h3⟩:=vo
 obtain⟨q1,q2,q3,q4⟩:=I.fresh h1
 exact k B G' H' _ (I'.setOw' i q1 h2 q3 h3 fun j d' z=>q4 j d' (ow_frz z)) s'
def mExpr (L:List Nat)(f:VF D):SF:=fun env β=>toS (f (vl env) β) fun _ β'=>.nx (frz L env) β'
theorem ss_expr (he:SE X Γ E e f L md)(hs:swapsWith e none pos.line X.env=pure false:=by rfl):SS X Γ E (.Expr e pos) (mExpr L f):=by
 refine PS.post (ps_expr he hs) fun N σ H ⟨env,G,B,β,I,o⟩=>?_
 exact⟨env,G,B,β,I,toS_out o fun d β' k v G' H' I' s' m' vo=>k B G' H' _ I' s'⟩
def mRet (f:VF D):SF:=fun env β=>toS (f (vl env) β) fun d β'=>.rt d false β'
theorem ss_ret (he:SE X Γ E e f L .v):SS X Γ E (.Return (some e) pos) (mRet f):=by
 refine PS.post (ps_ret he) fun N σ H ⟨env,G,B,β,I,o⟩=>?_
 exact⟨env,G,B,β,I,toS_out o fun d β' k v G' H' I' s' m' vo=>k B G' H' σ _ v I' s' vo⟩
def mRetW (f:VF D):SF:=fun env β=>toS (f (vl env) β) fun d β'=>.rt d true β'
theorem ss_retW (he:SE X Γ E e f L .w):SS X Γ E (.Return (some e) pos) (mRetW f):=by
 refine PS.post (ps_ret he) fun N σ H ⟨env,G,B,β,I,o⟩=>?_
 refine⟨env,G,B,β,I,toS_out o fun d β' k v G' H' I' s' m' vo=>?_⟩
 obtain⟨p,rfl,h1,h2,h3⟩:=vo
 obtain⟨q1,_⟩:=I.fresh h1
 exact k B G' H' σ _ _ I' s' ⟨p,rfl,q1,h2,h3⟩
def mRetN (i:Nat):SF:=fun env β=>match env[i]? with
 |some (.fz d)=>.rt d false β
 |some (.ow d)=>.rt d true β
 |_=>.bad
theorem ss_retN (i:Nat){x:Str}{p:Pos}(hN:X.N[i]? =some x:=by rfl)(hv:Vis X.env.scope x:=by first |exact Or.inl rfl |exact Or.inr (Or.inl rfl) |exact Or.inr (Or.inr rfl))(hd:(x == ("__debug__":Str))=false:=by decide)
  (hcd:(x == ("__classdict__":Str))=false:=by decide):SS X Γ E (.Return (some (.Name x p)) pos) (mRetN i):=by
 refine PS.post (ps_ret (pe_var hN hv hd hcd)) fun N σ H ⟨env,G,B,β,I,o⟩=>?_
 unfold mRetN at o
 cases q:env[i]? with
 |none=>rw [q] at o;exact o.elim
 |some s=>
  rw [q] at o
  cases s with
  |no=>exact o.elim
  |bx=>exact o.elim
  |br d=>exact o.elim
  |fz d=>
   obtain⟨v,h1,h2⟩:=I.slot i _ q
   exact⟨v,h1,o B G H σ env v I (Same.refl _) h2⟩
  |ow d=>
   obtain⟨p,h1,h2,h3,h4,h5⟩:=I.slot i _ q
   exact⟨_,h1,o B G H σ env _ I (Same.refl _) ⟨p,rfl,h2,h3,h5⟩⟩
def mIf (L:List Nat)(t:VF Bool)(m m':SF):SF:=fun env β=>toS (t (vl env) β) fun c β'=>if c=true then m (frz L env) β' else m' (frz L env) β'
theorem ss_if {x y:List Stmt}(hc:STt X Γ E c ta L)(ha:SSs X Γ E x m)(hb:SSs X Γ E y m'):SS X Γ E (.If c x y pos) (mIf L ta m m'):=by
 refine PS.post (ps_if hc ha hb) fun N σ H ⟨env,G,B,β,I,o⟩=>?_
 refine⟨env,G,B,β,I,toS_out o fun d β' k G' H' I' s' m'=>?_⟩
 cases d with
 |true=>exact iteT ⟨_,G',B,β',I',SOk.weak k s'⟩
 |false=>exact iteF ⟨_,G',B,β',I',SOk.weak k s'⟩
def mWhile (L:List Nat)(t:VF Bool)(m:SF):Nat->SF
 | 0=>fun _ _=>.bad
 |n + 1=>fun env β=>toS (t (vl env) β) fun c β'=>if c=true then (match m (frz L env) β' with
   | .nx env2 β2=>mWhile L t m n env2 β2
   | .ct env2 β2=>mWhile L t m n env2 β2
   | .bk env2 β2=>.nx env2 β2
   |r=>r) else .nx (frz L env) β'
theorem ss_while {x:List Stmt}(n:Nat)(hp:PassesOwn (model X.prog X.w) X.A X.env X.xe)(hc:STt X Γ E c ta L)(hb:SSs X Γ E x m):SS X Γ E (.While c x [] pos) (mWhile L ta m n):=by
 refine PS.post (ps_while hp hc hb) fun N σ H ⟨env,G,B,β,I,o⟩=>?_
 refine⟨fun k σ H=>∃env G1 B β,SR Γ B G1 H σ env β/\Same G G1/\SOk Γ E G1 N (mWhile L ta m k env β),⟨n,env,G,B,β,I,Same.refl _,o⟩,?_⟩
 rintro k σ H ⟨env,G1,B,β,I,sG,o⟩
 cases k with
 |zero=>exact o.elim
 |succ k=>
  refine⟨env,G1,B,β,I,toS_out o fun d β' q G' H' I' s' m'=>?_⟩
  cases d with
  |false=>exact iteF (q B G' H' σ I' s')
  |true=>
   refine iteT ⟨fun σ H=>∃env G1 B β,SR Γ B G1 H σ env β/\Same G G1/\SOk Γ E G1 N (mWhile L ta m k env β),fun σ' H' h=>⟨k,Nat.lt_succ_self k,h⟩,frz L env,G',B,β',I',?_⟩
   rw [if_pos rfl] at q
   cases r:m (frz L env) β' with
   |nx env2 β2=>rw [r] at q;exact fun B2 G2 H2 σ2 I2 s2=>⟨env2,G2,B2,β2,I2,(sG.trans s').trans s2,SOk.weak q (s'.trans s2)⟩
   |ct env2 β2=>rw [r] at q;exact fun B2 G2 H2 σ2 I2 s2=>⟨env2,G2,B2,β2,I2,(sG.trans s').trans s2,SOk.weak q (s'.trans s2)⟩
   |bk env2 β2=>rw [r] at q;exact fun B2 G2 H2 σ2 I2 s2=>q B2 G2 H2 σ2 I2 (s'.trans s2)
   |rt d fr β2=>rw [r] at q;exact SOk.weak q s'
   |exc c=>rw [r] at q;exact q
   |bad=>rw [r] at q;exact q
def Walk (K:PySem.W.Frag)(B:Option Addr)(G H1:Hp)(ds:List D)(J:It):Prop:=∀Gc H (i:Nat),Same G Gc->Same Gc H->Mov B H1 H->
 (i < ds.length->J.go i H/\∀x H',J.yld i H x H'->∃G' d,Ext Gc H G' H'/\ds[i]? =some d/\Rp K G' x d)/\(ds.length<=i->J.stop i H)
def iT (Γ:Fx)(E:XK)(f:VF (List D))(L:List Nat)(md:Md):TI:=fun σ H Rr=>∃env G B β,SR Γ B G H σ env β/\
 Out Γ E (f (vl env) β) fun ds β'=>∀J G' H',SR Γ B G' H' σ (frz L env) β'->Same G G'->Mov B H H'->Walk Γ.K B G' (match md with | .b=>H' |_=>fun _=>none) ds J->Rr J H'
def SI (X:Cx)(Γ:Fx)(E:XK)(tg e:Expr)(f:VF (List D))(L:List Nat)(md:Md):Prop:=PI X tg e (iT Γ E f L md)
theorem PI.post {X:Cx}{tg e:Expr}{t u:TI}(h:PI X tg e t)(m:∀σ H Q,u σ H Q->t σ H Q):PI X tg e u:=fun pins s σ H Q I q=>h pins s σ H Q I (m σ H Q q)
variable {tg:Expr}
def seqD:D->Option (List D)
 | .list ds=>some ds
 | .tuple ds=>some ds
 |_=>none
def fSeq (fa:VF D):VF (List D):=fun vs β=>(fa vs β).bnd fun x β1=>R.of (seqD x) β1
end
end L2

end

section
namespace L2
open PySem PySem.Spec PyProof.Rows
def iSq (K:PySem.W.Frag)(tl:TE):TI:=fun σ H R=>tl σ H fun x H1=>∃a xs,x=.ref a/\((SqL K H1 a xs/\R (Itl K a) H1)\/(SqT K H1 a xs/\R (Itt K a) H1))
section
variable {X:Cx}{tg l:Expr}{tl:TE}
theorem pi_sq (hl:PE X l tl):PI X tg l (iSq X.K tl):=by
 intro pins s σ H R I h
 refine thn (hl pins s σ H _ I h) fun v s1 ⟨x,H1,I1,r1,q1⟩=>?_
 obtain⟨a,xs,e,q⟩:=q1
 subst e
 cases r1
 rcases q with⟨hq,q⟩ | ⟨hq,q⟩
 ·obtain⟨its,rv,p,hz⟩:=I1.list hq
  refine wpAny_pyIter_list p.isList ?_
  refine⟨s1.heap.objs.size,[s1.heap.objs.size],_,_,H1,rfl,I1.kept (t':=s1.toks) fun b o e=>Heap.get?_push_of_some _ e,turn_list a _,⟨_,Heap.get?_push_size _ rfl,rfl,rfl⟩,fun b hb=>?_,q⟩
  have e:b=s1.heap.objs.size:=by simpa using hb
  subst e
  exact I1.fpOk (Nat.le_refl _) (I1.hok.fresh (Nat.le_refl _))
 ·obtain⟨its,rv,p,hz⟩:=I1.tuple hq
  refine wpAny_pyIter_tuple (show s1.heap.IsTuple a its.toArray from p) ?_
  refine⟨s1.heap.objs.size,[s1.heap.objs.size],_,_,H1,rfl,I1.kept (t':=s1.toks) fun b o e=>Heap.get?_push_of_some _ e,turn_tuple a _,⟨_,Heap.get?_push_size _ rfl,rfl,rfl⟩,fun b hb=>?_,q⟩
  have e:b=s1.heap.objs.size:=by simpa using hb
  subst e
  exact I1.fpOk (Nat.le_refl _) (I1.hok.fresh (Nat.le_refl _))
end
section
variable {X:Cx}{Γ:Fx}{E:XK}{e a b c:Expr}{f fa fb:VF D}{L La Lb:List Nat}{md ma mb:Md}{pos:Pos}{st:Stmt}{sts:List Stmt}{m m':SF}{ta:VF Bool}{tg:Expr}
theorem walk_list {K:PySem.W.Frag}{B:Option Addr}{G H1:Hp}{p:Addr}{xs:List V}{ds:List D}(h:∀Gc H,Same G Gc->Same Gc H->Mov B H1 H->SqL K H p xs)(r:Rps K G xs ds):Walk K B G H1 ds (Itl K p):=fun Gc H i s1 s2 m=>by
 have hq:=h Gc H s1 s2 m
 refine⟨fun hi=>⟨?_,fun x H' y=>?_⟩,fun hi=>⟨xs,hq,by rw [r.len];exact hi⟩⟩
 ·have hi':i < xs.length:=by rw [r.len];exact hi
  exact⟨xs,xs[i],hq,by simp [hi']⟩
 ·obtain⟨rfl,y⟩:=y
  obtain⟨d,e,q⟩:=r.at' (y xs hq)
  exact⟨Gc,d,Ext.refl s2,e,q.mono s1⟩
theorem walk_tup {K:PySem.W.Frag}{B:Option Addr}{G H1:Hp}{p:Addr}{xs:List V}{ds:List D}(h:∀Gc H,Same G Gc->Same Gc H->Mov B H1 H->SqT K H p xs)(r:Rps K G xs ds):Walk K B G H1 ds (Itt K p):=fun Gc H i s1 s2 m=>by
 have hq:=h Gc H s1 s2 m
 refine⟨fun hi=>⟨?_,fun x H' y=>?_⟩,fun hi=>⟨xs,hq,by rw [r.len];exact hi⟩⟩
 ·have hi':i < xs.length:=by rw [r.len];exact hi
  exact⟨xs,xs[i],hq,by simp [hi']⟩
 ·obtain⟨rfl,y⟩:=y
  obtain⟨d,e,q⟩:=r.at' (y xs hq)
  exact⟨Gc,d,Ext.refl s2,e,q.mono s1⟩
theorem si_v (hK:X.K=Γ.K)(ha:SE X Γ E a fa La .v):SI X Γ E tg a (fSeq fa) La .v:=by
 refine PI.post (pi_sq ha) fun σ H Q ⟨env,G,B,β,I,o⟩=>?_
 refine⟨env,G,B,β,I,o.bnd.imp fun d1 β1 h x G1 H1 I1 s1 m1 vx=>?_⟩
 obtain⟨ds,e,k⟩:=h.of
 rw [hK]
 have vx:Rp Γ.K G1 x d1:=vx
 cases d1 with
 |list l=>
  cases e
  cases vx with
  | @lst p xs _ hq r=>exact⟨p,xs,rfl,.inl ⟨.inl (Rd.mono (.inl hq) I1.sub),k _ G1 H1 I1 s1 m1 (walk_list (fun Gc H t1 t2 _=>.inl (Rd.mono (.inl hq) (t1.trans t2))) r)⟩⟩
 |tuple l=>
  cases e
  cases vx with
  | @tup p xs _ hq r=>exact⟨p,xs,rfl,.inr ⟨hq.grow I1.sub.grow,k _ G1 H1 I1 s1 m1 (walk_tup (fun Gc H t1 t2 _=>hq.grow (t1.trans t2).grow) r)⟩⟩
 |_=>cases e
theorem si_b (hK:X.K=Γ.K)(ha:SE X Γ E a fa La ma):SI X Γ E tg a (fSeq fa) La .b:=by
 refine PI.post (pi_sq ha) fun σ H Q ⟨env,G,B,β,I,o⟩=>?_
 refine⟨env,G,B,β,I,o.bnd.imp fun d1 β1 h x G1 H1 I1 s1 m1 vx=>?_⟩
 obtain⟨ds,e,k⟩:=h.of
 rw [hK]
 have vx:=vx.brw I.boxThere
 cases d1 with
 |list l=>
  cases e
  rcases vx with vx | ⟨p,rfl,hb,xs,q,r⟩
  ·cases vx with
   | @lst p xs _ hq r=>exact⟨p,xs,rfl,.inl ⟨.inl (Rd.mono (.inl hq) I1.sub),k _ G1 H1 I1 s1 m1 (walk_list (fun Gc H t1 t2 _=>.inl (Rd.mono (.inl hq) (t1.trans t2))) r)⟩⟩
  ·exact⟨p,xs,rfl,.inl ⟨.inl (.inl q),k _ G1 H1 I1 s1 m1 (walk_list (fun Gc H t1 t2 mv=>.inl (.inl (mv p _ q hb))) r)⟩⟩
 |tuple l=>
  cases e
  rcases vx with vx | ⟨p,rfl,hb,q⟩
  ·cases vx with
   | @tup p xs _ hq r=>exact⟨p,xs,rfl,.inr ⟨hq.grow I1.sub.grow,k _ G1 H1 I1 s1 m1 (walk_tup (fun Gc H t1 t2 _=>hq.grow (t1.trans t2).grow) r)⟩⟩
  ·exact q.elim
 |_=>cases e
def intsD (lo:Int)(n:Nat):List D:=(List.range n).map fun (k:Nat)=>PyData.int (lo + k)
theorem intsD_len (lo:Int)(n:Nat):(intsD lo n).length=n:=by unfold intsD;simp
theorem walk_rng {K:PySem.W.Frag}{B:Option Addr}{G H1:Hp}(lo:Int)(n:Nat):Walk K B G H1 (intsD lo n) (Itr lo n):=fun Gc H i s1 s2 m=>by
 rw [intsD_len]
 refine⟨fun hi=>⟨hi,fun x H' y=>?_⟩,fun hi=>hi⟩
 obtain⟨rfl,rfl⟩:=y
 refine⟨Gc,.int (lo + i),Ext.refl s2,?_,.int _⟩
 unfold intsD
 rw [List.getElem?_map,List.getElem?_range hi];rfl
def okR (j:Int):Bool:=Nat.ble j.natAbs 1000000
theorem okR_eq {j:Int}(h:okR j=true): -(2 ^ 62)<=j/\j < 2 ^ 62:=by
 have:=Nat.le_of_ble_eq_true h
 omega
theorem okR_small {j:Int}(h: -1000<=j)(h2:j<=10000):okR j=true:=Nat.ble_eq_true_of_le (by omega)
def fRng1 (fa:VF D):VF (List D):=fun vs β=>(fa vs β).bnd fun x β1=>match x with
 | .int j=>if okR j=true then .ok (intsD 0 j.toNat) β1 else .bad
 |_=>.bad
def fRng2 (fa fb:VF D):VF (List D):=fun vs β=>(fa vs β).bnd fun x β1=>(fb vs β1).bnd fun y β2=>match x,y with
 | .int i,.int j=>if (okR i && okR j)=true then .ok (intsD i (j - i).toNat) β2 else .bad
 |_,_=>.bad
theorem si_r1 {p:Pos}(hg:Gl X "range")(hm:X.mg "range"=none)(ha:SE X Γ E a fa La ma)(hs:starEach [a] X.env= [(false,eval a X.env)]:=by rfl)(hs':starEach [a] X.env=(false,eval a X.env) :: starEach [] X.env:=by rfl):SI X Γ E tg (.Call (.Name "range" p) [a] [] pos) (fRng1 fa) La md:=by
 refine PI.post (pi_range1 hg hm (pa_cons ha pa_nil hs') hs) fun σ H Q ⟨env,G,B,β,I,o⟩=>?_
 refine⟨env,G,B,β,I,o.bnd.imp fun d1 β1 h x G1 H1 I1 s1 m1 vx=>?_⟩
 have vx:=vx.brw I.boxThere
 cases d1 with
 |int j=>
  obtain rfl:=vx.int
  dsimp only at h
  by_cases hj:okR j=true
  ·rw [if_pos hj] at h
   exact⟨j,rfl,(okR_eq hj).1,(okR_eq hj).2,h _ G1 H1 I1 s1 m1 (walk_rng 0 _)⟩
  ·rw [if_neg hj] at h;exact h.elim
 |_=>exact h.elim
theorem si_r2 {p:Pos}(hg:Gl X "range")(hm:X.mg "range"=none)(ha:SE X Γ E a fa La ma)(hb:SE X Γ E b fb Lb mb)(hs:starEach [a,b] X.env= [(false,eval a X.env),(false,eval b X.env)]:=by rfl)(hs2:starEach [b] X.env= [(false,eval b X.env)]:=by rfl)(hs':starEach [a,b] X.env=(false,eval a X.env) :: starEach [b] X.env:=by rfl)(hs3:starEach [b] X.env=(false,eval b X.env) :: starEach [] X.env:=by rfl):SI X Γ E tg (.Call (.Name "range" p) [a,b] [] pos) (fRng2 fa fb) (La ++ Lb) md:=by
 refine PI.post (pi_range2 hg hm (pa_cons ha (pa_cons hb pa_nil hs3) hs') hs hs2) fun σ H Q ⟨env,G,B,β,I,o⟩=>?_
 refine two (W:=fun x y H2=>∃i j:Int,[x,y]= [.int i,.int j]/\(-(2 ^ 62)<=i/\i < 2 ^ 62/\ -(2 ^ 62)<=j/\j < 2 ^ 62)/\Q (Itr i (j - i).toNat) H2) I (o.bnd.imp fun d1 β1 h=>h.bnd.imp fun d2 β2 h x y G2 H2 I2 s2 m2 bx by'=>?_)
 obtain⟨i,j,rfl,rfl⟩:∃i j,d1=.int i/\d2=.int j:=by
  cases d1 <;> cases d2 <;> first |exact h.elim |exact⟨_,_,rfl,rfl⟩
 obtain rfl:=bx.int
 obtain rfl:=by'.int
 dsimp only at h
 by_cases hj:(okR i && okR j)=true
 ·rw [if_pos hj] at h
  rw [Bool.and_eq_true] at hj
  exact⟨i,j,rfl,⟨(okR_eq hj.1).1,(okR_eq hj.1).2,(okR_eq hj.2).1,(okR_eq hj.2).2⟩,h _ G2 H2 I2 s2 m2 (walk_rng i _)⟩
 ·rw [if_neg hj] at h;exact h.elim
inductive Tg where
 |nm (i:Nat)
 |two (i j:Nat)
def pairD:D->Option (D×D)
 | .tuple [x,y]=>some (x,y)
 |_=>none
theorem pairD_eq {d x y:D}(h:pairD d=some (x,y)):d=.tuple [x,y]:=by
 unfold pairD at h
 split at h
 ·cases h;rfl
 ·cases h
def bindE:Tg->D->En->Option En
 | .nm i,d,env=>some (env.set i (.fz d))
 | .two i j,d,env=>(pairD d).map fun p=>(env.set i (.fz p.1)).set j (.fz p.2)
def bindV:Tg->D->List Nv->Option (List Nv)
 | .nm i,d,vs=>some (vs.set i (.da d))
 | .two i j,d,vs=>(pairD d).map fun p=>(vs.set i (.da p.1)).set j (.da p.2)
theorem vl_set (env:En)(i:Nat)(s:Sl):vl (env.set i s)=(vl env).set i s.val:=by unfold vl;rw [List.map_set]
theorem bind_vl (t:Tg)(d:D)(env:En):(bindE t d env).map vl=bindV t d (vl env):=by
 cases t with
 |nm i=>show some (vl _)=some _;rw [vl_set];rfl
 |two i j=>
  show ((pairD d).map _).map vl=(pairD d).map _
  cases pairD d with
  |none=>rfl
  |some p=>show some (vl _)=some _;rw [vl_set,vl_set];rfl
def gT (Γ:Fx)(t:Tg):TG:=fun v σ H Q=>∃env G B β d env',SR Γ B G H σ env β/\Rp Γ.K G v d/\bindE t d env=some env'/\∀σ',SR Γ B G H σ' env' β->Q σ' H
def SG (X:Cx)(Γ:Fx)(tg:Expr)(t:Tg):Prop:=PG X tg (gT Γ t)
theorem PG.post {X:Cx}{tg:Expr}{t u:TG}(h:PG X tg t)(m:∀v σ H Q,u v σ H Q->t v σ H Q):PG X tg u:=fun pins s σ H v uu Q I r q=>h pins s σ H v uu Q I r (m v σ H Q q)
theorem sg_nm {i:Nat}{x:Str}(hN:X.N.Nodup)(hi:X.N[i]? =some x:=by rfl)(hx:Loc X.env.scope x:=by first |exact Or.inl rfl |exact Or.inr rfl)(hf:X.fn x=true\/X.env.scope.names.lookup x=some .local:=by first |exact .inl rfl |exact .inr rfl |assumption):SG X Γ (.Name x pos) (.nm i):=by
 refine PG.post (pg_name hN hi hx hf) fun v σ H Q ⟨env,G,B,β,d,env',I,r,e,k⟩=>?_
 cases e
 exact k _ (I.set' i r)
theorem sg_two {i j:Nat}{x y:Str}{px py:Pos}{n:Nat}(hN:X.N.Nodup)(hc:X.calm=true:=by rfl)(hK:X.K=Γ.K:=by rfl)(hi:X.N[i]? =some x:=by rfl)(hj:X.N[j]? =some y:=by rfl)(hx:Loc X.env.scope x:=by first |exact Or.inl rfl |exact Or.inr rfl)(hy:Loc X.env.scope y:=by first |exact Or.inl rfl |exact Or.inr rfl)
  (hf:X.fn x=true\/X.env.scope.names.lookup x=some .local:=by first |exact .inl rfl |exact .inr rfl |assumption) (hf':X.fn y=true\/X.env.scope.names.lookup y=some .local:=by first |exact .inl rfl |exact .inr rfl |assumption):SG X Γ (.Tuple [.Name x px,.Name y py] n pos) (.two i j):=by
 refine PG.post (pg_tup (n:=2) hc (pgs_cons (pg_name hN hi hx hf) (pgs_cons (pg_name hN hj hy hf') pgs_nil))) fun v σ H Q ⟨env,G,B,β,d,env',I,r,e,k⟩=>?_
 rw [hK]
 have e:(pairD d).map (fun p=>(env.set i (.fz p.1)).set j (.fz p.2))=some env':=e
 cases q:pairD d with
 |none=>rw [q] at e;cases e
 |some p=>
  obtain⟨dx,dy⟩:=p
  rw [q] at e
  cases e
  obtain rfl:=pairD_eq q
  cases r with
  | @tup p xs _ hq r=>
   cases r with
   |cons r1 r=>
    cases r with
    |cons r2 r=>
     cases r
     exact⟨p,_,rfl,hq.grow I.sub.grow,rfl,_,_,rfl,_,_,rfl,rfl,k _ ((I.set' i r1).set' j r2)⟩
def mFor (t:Tg)(m:SF):List D->SF
 | []=>fun env β=>.nx env β
 |d :: ds=>fun env β=>match bindE t d env with
  |none=>.bad
  |some env1=>match m env1 β with
   | .nx env2 β2=>mFor t m ds env2 β2
   | .ct env2 β2=>mFor t m ds env2 β2
   | .bk env2 β2=>.nx env2 β2
   |r=>r
def mForS (t:Tg)(L:List Nat)(fi:VF (List D))(m:SF):SF:=fun env β=>toS (fi (vl env) β) fun ds β'=>mFor t m ds (frz L env) β'
theorem ss_for {t:Tg}{fi:VF (List D)}{x:List Stmt}(hp:PassesOwn (model X.prog X.w) X.A X.env X.xe)(hc:X.calm=true)(hi:SI X Γ E tg e fi L .v)(hg:SG X Γ tg t)(hb:SSs X Γ E x m)(hs:∀x,foldedSetIterable e X.env x=pure x:=by intro _;rfl):SS X Γ E (.For tg e x [] pos) (mForS t L fi m):=by
 refine PS.post (ps_for hp hc hi hg hb hs) fun N σ H ⟨env,G,B,β,I,o⟩=>?_
 refine⟨env,G,B,β,I,toS_out o fun ds β' q J G' H' I' s' m' w=>?_⟩
 have w:Walk Γ.K B G' (fun _=>none) ds J:=w
 refine⟨fun i n σ H=>n=ds.length - i/\i<=ds.length/\∃env G1 B β,SR Γ B G1 H σ env β/\Same G' G1/\SOk Γ E G1 N (mFor t m (ds.drop i) env β),⟨ds.length,by simp,Nat.zero_le _,frz L env,G',B,β',I',Same.refl _,by rw [List.drop_zero];exact SOk.weak q s'⟩,?_⟩
 rintro i n σ H ⟨rfl,hi,env,G1,B1,β1,I1,s1,q⟩
 obtain⟨w1,w2⟩:=w G1 H i s1 I1.sub fun b o e=>by cases e
 by_cases hlt:i < ds.length
 ·obtain⟨go,yl⟩:=w1 hlt
  refine .inr ⟨go,fun σ H=>∃env G2 B β,SR Γ B G2 H σ env β/\Same G' G2/\SOk Γ E G2 N (mFor t m (ds.drop (i + 1)) env β),fun σ2 H2 h=>⟨ds.length - (i + 1),by omega,rfl,hlt,h⟩,fun x H2 y=>?_⟩
  obtain⟨G2,d,x2,ed,rd⟩:=yl x H2 y
  have I2:=I1.ext x2
  have q:=SOk.weak q x2.gg
  rw [List.drop_eq_getElem_cons hlt] at q
  have ed':ds[i]=d:=by rw [List.getElem?_eq_getElem hlt] at ed;exact Option.some.inj ed
  rw [ed'] at q
  unfold mFor at q
  cases eb:bindE t d env with
  |none=>rw [eb] at q;exact q.elim
  |some env1=>
   rw [eb] at q
   refine⟨env,G2,B1,β1,d,env1,I2,rd,eb,fun σ3 I3=>⟨env1,G2,B1,β1,I3,?_⟩⟩
   have s2:=s1.trans x2.gg
   dsimp only at q
   cases r:m env1 β1 with
   |nx env2 β2=>rw [r] at q;exact fun B2 G3 H3 σ2 I2 s3=>⟨env2,G3,B2,β2,I2,s2.trans s3,SOk.weak q s3⟩
   |ct env2 β2=>rw [r] at q;exact fun B2 G3 H3 σ2 I2 s3=>⟨env2,G3,B2,β2,I2,s2.trans s3,SOk.weak q s3⟩
   |bk env2 β2=>rw [r] at q;exact fun B2 G3 H3 σ2 I2 s3=>q B2 G3 H3 σ2 I2 s3
   |rt d fr β2=>rw [r] at q;exact q
   |exc c=>rw [r] at q;exact q
   |bad=>rw [r] at q;exact q
 ·have e:i=ds.length:=by omega
  subst e
  rw [List.drop_length] at q
  exact .inl ⟨w2 (Nat.le_refl _),q B1 G1 H σ I1 (Same.refl _)⟩
end
end L2

end

section
namespace L2
open PySem PySem.Spec PyProof.Rows
abbrev Fx.blk (Γ:Fx)(H0 G0:Hp)(par:List Addr)(br:Nat->Bool)(bx:Option Addr):Fx:=⟨Γ.K,H0,G0,par,Γ.ca,br,bx⟩
def bvals (own:Nat)(ixs:List Nat)(vs:List Nv):List Nv:=List.replicate own .no ++ ixs.map fun i=>(vs[i]?).getD .no
def slB:Option Sl->Sl
 |some (.ow d)=>.br d
 |some s=>s
 |none=>.no
def benv (own:Nat)(ixs:List Nat)(env:En):En:=List.replicate own .no ++ ixs.map fun i=>slB env[i]?
theorem slB_val (o:Option Sl):(slB o).val=(o.map Sl.val).getD .no:=by
 cases o with
 |none=>rfl
 |some s=>cases s <;> rfl
theorem vl_benv (own:Nat)(ixs:List Nat)(env:En):vl (benv own ixs env)=bvals own ixs (vl env):=by
 unfold vl benv bvals
 rw [List.map_append,List.map_replicate,List.map_map]
 congr 1
 refine List.map_congr_left fun i _=>?_
 show (slB env[i]?).val=_
 rw [slB_val,List.getElem?_map]
def NoOw (env:En):Prop:=∀(i:Nat) (d:D),env[i]?≠some (.ow d)
theorem frz_noOw {env:En}(h:NoOw env)(L:List Nat):frz L env=env:=by
 unfold frz
 induction L with
 |nil=>rfl
 |cons i L ih=>
  rw [List.foldl_cons]
  have:frz1 env i=env:=by
   unfold frz1
   split
   ·rename_i d e;exact absurd e (h i d)
   ·rfl
  rw [this];exact ih
theorem noOw_benv (own:Nat)(ixs:List Nat)(env:En):NoOw (benv own ixs env):=fun i d e=>by
 unfold benv at e
 have hm:=List.mem_of_getElem? e
 rcases List.mem_append.mp hm with h |h
 ·have:=List.eq_of_mem_replicate h;cases this
 ·obtain⟨k,_,hk⟩:=List.mem_map.mp h
  cases q:env[k]? with
  |none=>rw [q] at hk;cases hk
  |some s=>rw [q] at hk;cases s <;> cases hk
theorem noOw_set {env:En}(h:NoOw env)(i:Nat)(d:D):NoOw (env.set i (.fz d)):=fun j d' e=>by
 by_cases z:i=j
 ·subst z
  by_cases hi:i < env.length
  ·rw [List.getElem?_set_self hi] at e;cases e
  ·rw [List.set_eq_of_length_le (by omega)] at e;exact h _ _ e
 ·rw [List.getElem?_set_ne z] at e;exact h _ _ e
theorem noOw_bind {env env1:En}{t:Tg}{d:D}(h:NoOw env)(e:bindE t d env=some env1):NoOw env1:=by
 cases t with
 |nm i=>cases e;exact noOw_set h i d
 |two i j=>
  have e:(pairD d).map _=some env1:=e
  cases q:pairD d with
  |none=>rw [q] at e;cases e
  |some p=>rw [q] at e;cases e;exact noOw_set (noOw_set h _ _) _ _
theorem bind_bind {env env1:En}{t:Tg}{d:D}(e:bindE t d env=some env1)(d':D):bindE t d' env1=bindE t d' env:=by
 cases t with
 |nm i=>cases e;show some _=some _;rw [List.set_set]
 |two i j=>
  have e:(pairD d).map _=some env1:=e
  cases q:pairD d with
  |none=>rw [q] at e;cases e
  |some p=>
   rw [q] at e;cases e
   show (pairD d').map _=(pairD d').map _
   cases pairD d' with
   |none=>rfl
   |some p'=>
    show some _=some _
    congr 1
    dsimp only
    by_cases z:i=j
    ·subst z;simp [List.set_set]
    ·rw [List.set_comm _ _ (Ne.symm z),List.set_set,List.set_set]
theorem Ext.mov {G H G' H':Hp}(x:Ext G H G' H')(B:Option Addr):Mov B H H':=x.hh.mov B
section
variable {Γ:Fx}{B:Option Addr}{G H G1 H1 Gc Hc:Hp}{σ σ':St}{env envb:En}{β β':Int}{own:Nat}{ixs:List Nat}{Da:Addr}{acc:List V}
def brOf (envb:En):Nat->Bool:=fun j=>match envb[j]? with
 |some (.br _)=>true
 |_=>false
theorem SR.block (I:SR Γ B G H σ env β)(own:Nat)(ixs:List Nat)(hD:H Da=none):SR (Γ.blk (upd H Da (.lst [])) G (Da :: B.toList) (brOf (benv own ixs env)) B) B G (upd H Da (.lst [])) (stB own ixs σ) (benv own ixs env) β:=by
 obtain⟨q1,q2,q3,q4⟩:=I.fresh hD
 have nB:∀b,B=some b->b≠Da:=fun b e z=>q3 (by rw [<-z];exact e)
 refine⟨I.sub.trans (Same.new hD),Same.refl _,fun b _ h=>h,fun b o h _=>h,fun b hb=>?_,fun b e=>e,fun b e=>?_,?_,fun i s e=>?_,fun i j c d d' e=>absurd e (noOw_benv own ixs env i d)⟩
 ·rcases List.mem_cons.mp hb with z |z
  ·subst z;exact Mx.lst upd_same
  ·have z':B=some b:=by simpa using z
   exact Mx.lst (by rw [upd_ne (nB b z')];exact (I.box b z').1)
 ·obtain⟨h1,h2,_⟩:=I.box b e
  exact⟨by rw [upd_ne (nB b e)];exact h1,h2,.inl (List.mem_cons_of_mem _ (by simpa using e))⟩
 ·unfold stB benv;simp
 ·by_cases hi:i < own
  ·unfold benv at e
   rw [List.getElem?_append_left (by simpa using hi),List.getElem?_replicate,if_pos hi] at e
   cases e;trivial
  ·have e0:=e
   unfold benv at e
   rw [List.getElem?_append_right (by simpa using hi),List.length_replicate,List.getElem?_map] at e
   cases ek:ixs[i - own]? with
   |none=>rw [ek] at e;cases e
   |some k=>
    rw [ek] at e
    have e:slB env[k]? =s:=Option.some.inj e
    have es:(stB own ixs σ)[i]? =some ((σ[k]?).join):=by
     unfold stB
     rw [List.getElem?_append_right (by simpa using hi),List.length_replicate,List.getElem?_map,ek];rfl
    rw [es]
    cases q:env[k]? with
    |none=>rw [q] at e;subst e;trivial
    |some t=>
     rw [q] at e
     have w:=I.slot k t q
     cases t with
     |no=>subst e;trivial
     |fz d=>subst e;obtain⟨v,h1,h2⟩:=w;exact⟨v,by rw [h1];rfl,h2⟩
     |bx=>subst e;obtain⟨a,h1,h2⟩:=w;exact⟨a,by rw [h1];rfl,h2⟩
     |ow d=>
      subst e
      obtain⟨a,h1,h2,h3,h4,h5⟩:=w
      obtain⟨o,ho⟩:=h5.obj
      have aD:a≠Da:=ne_of_none ho hD
      refine⟨by show brOf _ i=true;unfold brOf;rw [e0];rfl,a,by rw [h1];rfl,h4,?_,h5.mono (Same.refl _) fun o q=>by rw [upd_ne aD];exact q⟩
      intro hm
      rcases List.mem_cons.mp hm with z |z
      ·exact aD z
      ·exact h4 (by simpa using z)
     |br d=>
      subst e
      obtain⟨b1,a,h1,h4,hp,h5⟩:=w
      obtain⟨o,ho⟩:=h5.obj
      have aD:a≠Da:=ne_of_none ho hD
      refine⟨by show brOf _ i=true;unfold brOf;rw [e0];rfl,a,by rw [h1];rfl,h4,?_,h5.mono (Same.refl _) fun o q=>by rw [upd_ne aD];exact q⟩
      intro hm
      rcases List.mem_cons.mp hm with z |z
      ·exact aD z
      ·exact h4 (by simpa using z)
theorem SR.unblock (I:SR Γ B G H σ env β){br:Nat->Bool}(hD:H Da=none)(J:SR (Γ.blk (upd H Da (.lst [])) G (Da :: B.toList) br B) B Gc Hc σ' envb β'):SR Γ B Gc Hc σ env β'/\Mov B H Hc/\Gc Da=none:=by
 obtain⟨q1,q2,q3,q4⟩:=I.fresh hD
 have up:∀{b:Addr},Mx H b->Mx (upd H Da (.lst [])) b:=fun {b} h=>h.same fun o e=>by rw [upd_ne (ne_of_none e hD)];exact e
 have mv:Mov B H Hc:=fun b o e n=>J.keep b o (show upd H Da (.lst []) b=some o by rw [upd_ne (ne_of_none e hD)];exact e) fun hm=>by
  rcases List.mem_cons.mp hm with z |z
  ·rw [z,hD] at e;cases e
  ·exact n (by simpa using z)
 refine⟨⟨J.sub,I.old.trans J.old,fun b h1 h2=>J.new b (up (I.thereM h1)) (I.new b h1 h2),fun b o h1 h2=>mv b o (I.keep b o h1 h2) fun z=>?_,fun b hb=>J.thereM (up (I.pin b hb)),I.fix,fun b e=>?_,I.len,fun i s e=>?_,I.sep⟩,mv,J.new Da (Mx.lst (show upd H Da (.lst []) Da=some (.lst []) from upd_same)) q2⟩
 ·obtain⟨_,_,h3⟩:=I.box b z
  rcases h3 with h3 |h3
  ·exact h2 h3
  ·rw [h1] at h3;cases h3
 ·obtain⟨j1,j2,_⟩:=J.box b e
  exact⟨j1,j2,(I.box b e).2.2⟩
 ·have w:=I.slot i s e
  cases s with
  |no=>trivial
  |fz d=>obtain⟨v,h1,h2⟩:=w;exact⟨v,h1,h2.mono J.old⟩
  |bx=>exact w
  |ow d=>
   obtain⟨a,h1,h2,h3,h4,h5⟩:=w
   exact⟨a,h1,h2,J.new a (up h5.mx) h3,h4,h5.mono J.old fun o q=>mv a o q h4⟩
  |br d=>
   obtain⟨b1,a,h1,h4,hp,h5⟩:=w
   exact⟨b1,a,h1,h4,hp,h5.mono J.old fun o q=>mv a o q h4⟩
theorem SR.updD {ys:List V}(J:SR Γ B G H σ env β)(hp:Da∈Γ.par)(h0:Mx Γ.H0 Da)(g0:Γ.G0 Da=none)(hB:B≠some Da):SR Γ B G (upd H Da (.lst ys)) σ env β:=by
 have gD:=J.new Da h0 g0
 refine⟨fun b u q=>by rw [upd_ne (fun z=>by rw [z,gD] at q;cases q)];exact J.sub b u q,J.old,J.new,fun b u q n=>by rw [upd_ne (fun z=>n (by rw [z];exact hp))];exact J.keep b u q n,fun b hb=>?_,J.fix,fun b e=>?_,J.len,fun i s e=>?_,J.sep⟩
 ·by_cases z:b=Da
  ·subst z;exact Mx.lst upd_same
  ·exact (J.pin b hb).same fun o e=>by rw [upd_ne z];exact e
 ·obtain⟨h1,h2⟩:=J.box b e
  exact⟨by rw [upd_ne (fun z=>hB (by rw [<-z];exact e))];exact h1,h2⟩
 ·have w:=J.slot i s e
  cases s with
  |no=>trivial
  |fz d=>exact w
  |bx=>exact w
  |ow d=>
   obtain⟨a,h1,h2,h3,h4,h5⟩:=w
   have aD:a≠Da:=fun z=>h0.1 (by rw [<-z];exact h2)
   exact⟨a,h1,h2,h3,h4,h5.mono (Same.refl _) fun o q=>by rw [upd_ne aD];exact q⟩
  |br d=>
   obtain⟨b1,a,h1,h4,hpa,h5⟩:=w
   have aD:a≠Da:=fun z=>hpa (by rw [z];exact hp)
   exact⟨b1,a,h1,h4,hpa,h5.mono (Same.refl _) fun o q=>by rw [upd_ne aD];exact q⟩
end
def R.okb {α γ:Type}(r:R α)(k:α->Int->R γ):R γ:=match r with
 | .ok a β=>k a β
 |_=>.bad
def compL (t:Tg)(ft:VF Bool)(fe:VF D)(vs:List Nv):List D->Int->R (List D)
 | [],β=>.ok [] β
 |d :: ds,β=>match bindV t d vs with
  |none=>.bad
  |some vs1=>(ft vs1 β).okb fun c β1=>if c=true then (fe vs1 β1).okb fun x β2=>(compL t ft fe vs ds β2).okb fun xs β3=>.ok (x :: xs) β3 else compL t ft fe vs ds β1
def fComp (own:Nat)(ixs:List Nat)(t:Tg)(fi:VF (List D))(ft:VF Bool)(fe:VF D):VF D:=fun vs β=>(fi vs β).bnd fun ds β1=>if ds.length<=sizeLine then (compL t ft fe (bvals own ixs vs) ds β1).okb fun xs β2=>.ok (.list xs) β2 else .bad
def tYs:VF Bool:=fun _ β=>.ok true β
def bOk (own:Nat)(ixs Lc:List Nat)(j:Nat):Bool:=decide (j < own) || (match ixs[j - own]? with
 |some i=>Lc.contains i
 |none=>false)
theorem okb_out {α γ:Type}{Γ:Fx}{E:XK}{r:R α}{k:α->Int->R γ}{P:γ->Int->Prop}(h:Out Γ E (r.okb k) P):∃a β,r=.ok a β/\Out Γ E (k a β) P:=by
 cases r with
 |ok a β=>exact⟨a,β,rfl,h⟩
 |exc c=>exact h.elim
 |bad=>exact h.elim
section
variable {X:Cx}{Γ:Fx}{E:XK}{tg iter elt:Expr}{ifs:List Expr}{scope:Scope}{NB:List Str}{own:Nat}{ixs Li Lc Lt Le:List Nat}{t:Tg}{fi:VF (List D)}{ft:VF Bool}{fe:VF D}{pos:Pos}
theorem sts_nil {X:Cx}{Γ:Fx}{E:XK}:PTs X [] (qT Γ E tYs []):=fun pins s σ H Q I ⟨env,G,B,β,J,o⟩=>pts_nil pins s σ H Q I (o G H J (Same.refl _) (Mov.refl _ _))
theorem sts_one {X:Cx}{Γ:Fx}{E:XK}{c:Expr}{ta:VF Bool}{L:List Nat}(h:STt X Γ E c ta L):PTs X [c] (qT Γ E ta L):=pts_one h
theorem passB {NB:List Str}{scope:Scope}{C:Addr}{ex:List Addr}{s3:Shared}{H3:Hp}{pn:List (Addr×Obj)}{P:Program}{w:World}:Passes (CXr P w) (blk X NB scope C ex s3 H3 pn) E0:=fun pins σ H s e s' I h=>by
 obtain⟨_,_,_,_,_,_,_,_,_,q⟩:=h
 exact q.elim
abbrev gU (Γ:Fx)(t:Tg):TG:=fun v σ H Q=>∃H0 G0 par br bx,gT (Γ.blk H0 G0 par br bx) t v σ H Q
abbrev tU (Γ:Fx)(own:Nat)(ixs Lc:List Nat)(ft:VF Bool)(Lt:List Nat):TT:=fun σ H Q=>∃H0 G0 par br bx,(∀j,bOk own ixs Lc j=true->br j=false)/\qT (Γ.blk H0 G0 par br bx) E0 ft Lt σ H Q
abbrev eU (Γ:Fx)(own:Nat)(ixs Lc:List Nat)(fe:VF D)(Le:List Nat):TE:=fun σ H Q=>∃H0 G0 par br bx,(∀j,bOk own ixs Lc j=true->br j=false)/\pT (Γ.blk H0 G0 par br bx) E0 fe Le .v σ H Q
theorem tcomp {σ:St}{H:Hp}{Q:VK}(hLc:∀i,i∈Lc->Γ.br i=false)(h:pT Γ E (fComp own ixs t fi ft fe) (Li ++ Lc) .w σ H Q):tCompW own ixs (iT Γ E fi Li .b) (gU Γ t) (tU Γ own ixs Lc ft Lt) (eU Γ own ixs Lc fe Le) σ H Q:=by
 obtain⟨env,G,B,β,I,o⟩:=h
 refine⟨env,G,B,β,I,o.bnd.imp fun ds β1 h J G1 H1 I1 s1 m1 wk Da hD=>?_⟩
 have wk:Walk Γ.K B G1 H1 ds J:=wk
 by_cases hz:ds.length<=sizeLine
 case neg=>rw [if_neg hz] at h;exact h.elim
 rw [if_pos hz] at h
 obtain⟨xs0,β0,e0,h⟩:=okb_out h
 have h:∀v G' H',SR Γ B G' H' σ (frz (Li ++ Lc) env) β0->Same G G'->Mov B H H'->VO Γ.K B H G' H' .w (.list xs0) v->Q v H':=h
 obtain⟨G2,I2,s2⟩:=I1.frz Lc hLc
 rw [<-frz_app] at I2
 obtain⟨q1,q2,q3,q4⟩:=I2.fresh hD
 have Ib0:=I2.block own ixs hD
 generalize hbr:brOf (benv own ixs (frz (Li ++ Lc) env))=br at Ib0
 have hbo:∀j,bOk own ixs Lc j=true->br j=false:=by
  intro j hj
  rw [<-hbr]
  unfold brOf
  split
  ·rename_i d e
   exfalso
   unfold benv at e
   by_cases hjo:j < own
   ·rw [List.getElem?_append_left (by simpa using hjo),List.getElem?_replicate,if_pos hjo] at e;cases e
   ·rw [List.getElem?_append_right (by simpa using hjo),List.length_replicate,List.getElem?_map] at e
    unfold bOk at hj
    rw [decide_eq_false hjo,Bool.false_or] at hj
    cases ek:ixs[j - own]? with
    |none=>rw [ek] at hj;cases hj
    |some k=>
     rw [ek] at hj e
     have hk:k∈Lc:=by simpa using hj
     have e:slB (frz (Li ++ Lc) env)[k]? =.br d:=Option.some.inj e
     cases q:(frz (Li ++ Lc) env)[k]? with
     |none=>rw [q] at e;cases e
     |some s=>
      rw [q] at e
      cases s with
      |no=>cases e
      |fz _=>cases e
      |bx=>cases e
      |br d'=>
       obtain⟨b1,_⟩:=I2.slot k _ q
       rw [hLc k hk] at b1;cases b1
      |ow d'=>
       rw [frz_app] at q
       have key:∀(M:List Nat) (en:En),k∈M->∀d',(frz M en)[k]?≠some (.ow d'):=by
        intro M
        induction M with
        |nil=>intro en hm;cases hm
        |cons i M ih=>
         intro en hm d' z
         rcases List.mem_cons.mp hm with y |y
         ·subst y
          have z1:(frz1 en k)[k]? =some (.ow d'):=ow_frz (L:=M) z
          have z2:=ow_frz1 z1
          unfold frz1 at z1
          rw [z2] at z1
          dsimp only at z1
          rw [List.getElem?_set_self (List.getElem?_eq_some_iff.mp z2).1] at z1;cases z1
         ·exact ih (frz1 en i) y d' z
       exact key Lc _ hk d' q
  ·rfl
 have evb:vl (benv own ixs (frz (Li ++ Lc) env))=bvals own ixs (vl env):=by rw [vl_benv,vl_frz]
 refine⟨fun i n σ' H'=>n=ds.length - i/\i<=ds.length/\∃envb Gc β' acc accd,SR (Γ.blk (upd H1 Da (.lst [])) G2 (Da :: B.toList) br B) B Gc H' σ' envb β'/\(envb=benv own ixs (frz (Li ++ Lc) env)\/∃d,bindE t d (benv own ixs (frz (Li ++ Lc) env))=some envb)/\
   H' Da=some (.lst acc)/\Rps Γ.K Gc acc accd/\accd.length<=i/\∃xs,compL t ft fe (bvals own ixs (vl env)) (ds.drop i) β'=.ok xs β0/\accd ++ xs=xs0,
  ⟨ds.length,by simp,Nat.zero_le _,_,G2,β1,[],[],Ib0,.inl rfl,upd_same,.nil,Nat.zero_le _,xs0,by rw [List.drop_zero];exact e0,rfl⟩,?_⟩
 rintro i n σ' H' ⟨rfl,hi',envb,Gc,β',acc,accd,Ib,eb,hacc,racc,lacc,xs,ec,exs⟩
 obtain⟨Io,mv,gD⟩:=I2.unblock hD Ib
 obtain⟨w1,w2⟩:=wk Gc H' i (s2.trans Ib.old) Ib.sub mv
 by_cases hlt:i < ds.length
 ·obtain⟨go,yl⟩:=w1 hlt
  refine .inr ⟨go,fun σ' H'=>∃envb Gc β' acc accd,SR (Γ.blk (upd H1 Da (.lst [])) G2 (Da :: B.toList) br B) B Gc H' σ' envb β'/\(envb=benv own ixs (frz (Li ++ Lc) env)\/∃d,bindE t d (benv own ixs (frz (Li ++ Lc) env))=some envb)/\
   H' Da=some (.lst acc)/\Rps Γ.K Gc acc accd/\accd.length<=i + 1/\∃xs,compL t ft fe (bvals own ixs (vl env)) (ds.drop (i + 1)) β'=.ok xs β0/\accd ++ xs=xs0,fun σ2 H2 hh=>⟨ds.length - (i + 1),by omega,rfl,hlt,hh⟩,fun x H2 y=>?_⟩
  obtain⟨G3,d,x3,ed,rd⟩:=yl x H2 y
  have I3:=Ib.ext x3
  have ed':ds[i]=d:=by rw [List.getElem?_eq_getElem hlt] at ed;exact Option.some.inj ed
  rw [List.drop_eq_getElem_cons hlt,ed'] at ec
  unfold compL at ec
  cases ebv:bindV t d (bvals own ixs (vl env)) with
  |none=>rw [ebv] at ec;cases ec
  |some vs1=>
   rw [ebv] at ec
   dsimp only at ec
   obtain⟨env1,eb1,ev1⟩:∃env1,bindE t d (benv own ixs (frz (Li ++ Lc) env))=some env1/\vl env1=vs1:=by
    have:=bind_vl t d (benv own ixs (frz (Li ++ Lc) env))
    rw [evb,ebv] at this
    cases q:bindE t d (benv own ixs (frz (Li ++ Lc) env)) with
    |none=>rw [q] at this;cases this
    |some env1=>rw [q] at this;exact⟨env1,rfl,Option.some.inj this⟩
   have eb2:bindE t d envb=some env1:=by
    rcases eb with rfl | ⟨d0,eb⟩
    ·exact eb1
    ·rw [bind_bind eb];exact eb1
   have no1:NoOw env1:=noOw_bind (noOw_benv _ _ _) eb1
   have a2:H2 Da=some (.lst acc):=x3.hh _ _ hacc
   refine⟨_,_,_,_,_,envb,G3,B,β',d,env1,I3,rd,eb2,fun σ3 I4=>?_⟩
   refine⟨_,_,_,_,_,hbo,env1,G3,B,β',I4,?_⟩
   rw [ev1]
   cases et:ft vs1 β' with
   |exc c=>rw [et] at ec;cases ec
   |bad=>rw [et] at ec;cases ec
   |ok c β2=>
    rw [et] at ec
    intro G4 H4 I5 s4 m4
    rw [frz_noOw no1] at I5
    have a4:H4 Da=some (.lst acc):=m4 _ _ a2 q3
    cases c with
    |false=>
     refine iteF ⟨env1,G4,β2,acc,accd,I5,.inr ⟨d,eb1⟩,a4,racc.mono (x3.gg.trans s4),by omega,xs,?_,exs⟩
     exact ec
    |true=>
     refine iteT ⟨_,_,_,_,_,hbo,env1,G4,B,β2,I5,?_⟩
     rw [ev1]
     have ec:((fe vs1 β2).okb fun x β3=>(compL t ft fe (bvals own ixs (vl env)) (ds.drop (i + 1)) β3).okb fun xs β4=>R.ok (x :: xs) β4)=R.ok xs β0:=ec
     cases ee:fe vs1 β2 with
     |exc c=>rw [ee] at ec;cases ec
     |bad=>rw [ee] at ec;cases ec
     |ok dx β3=>
      rw [ee] at ec
      intro v G5 H5 I6 s5 m5 vo
      rw [frz_noOw no1] at I6
      have a5:H5 Da=some (.lst acc):=m5 _ _ a4 q3
      have ec:((compL t ft fe (bvals own ixs (vl env)) (ds.drop (i + 1)) β3).okb fun xs β4=>R.ok (dx :: xs) β4)=R.ok xs β0:=ec
      cases er:compL t ft fe (bvals own ixs (vl env)) (ds.drop (i + 1)) β3 with
      |exc c=>rw [er] at ec;cases ec
      |bad=>rw [er] at ec;cases ec
      |ok ys β4=>
       rw [er] at ec
       cases ec
       refine⟨acc,a5,by rw [racc.len];omega,env1,G5,β3,acc ++ [v],accd ++ [dx],?_,.inr ⟨d,eb1⟩,upd_same,(racc.mono ((x3.gg.trans s4).trans s5)).snoc vo,by rw [List.length_append];simp;omega,ys,er,by rw [<-exs,List.append_assoc];rfl⟩
       refine I6.updD (List.mem_cons_self ..) (Mx.lst (show upd H1 Da (.lst []) Da=some (.lst []) from upd_same)) (I2.sub.free hD) q3
 ·have e:i=ds.length:=by omega
  subst e
  rw [List.drop_length] at ec
  cases ec
  rw [List.append_nil] at exs
  subst exs
  refine .inl ⟨w2 (Nat.le_refl _),⟨acc,hacc⟩,h _ Gc H' Io ((s1.trans s2).trans Ib.old) (m1.trans mv) ⟨Da,rfl,back_none m1 I1.boxThere hD,gD,acc,hacc,racc⟩⟩
theorem bU (hg:∀H0 G0 par br bx C ex s3 H3 pn,SG (blk X NB scope C ex s3 H3 pn) (Γ.blk H0 G0 par br bx) tg t)(C:Addr)(ex:List Addr)(s3:Shared)(H3:Hp)(pn:List (Addr×Obj)):PG (blk X NB scope C ex s3 H3 pn) tg (gU Γ t):=by
 rintro pins s σ H v u Q I r ⟨H0,G0,par,br,bx,q⟩
 exact hg H0 G0 par br bx C ex s3 H3 pn pins s σ H v u Q I r q
theorem se_comp (Lc:List Nat)(hc:X.calm=true)(S:CompScope X NB own ixs scope)(hLc:∀i,i∈Lc->Γ.br i=false)(hi:SI X Γ E tg iter fi Li .b)
  (hg:∀H0 G0 par br bx C ex s3 H3 pn,SG (blk X NB scope C ex s3 H3 pn) (Γ.blk H0 G0 par br bx) tg t)
  (ht:∀H0 G0 par br bx C ex s3 H3 pn,(∀j,bOk own ixs Lc j=true->br j=false)->PTs (blk X NB scope C ex s3 H3 pn) ifs (qT (Γ.blk H0 G0 par br bx) E0 ft Lt))
  (he:∀H0 G0 par br bx C ex s3 H3 pn,(∀j,bOk own ixs Lc j=true->br j=false)->SE (blk X NB scope C ex s3 H3 pn) (Γ.blk H0 G0 par br bx) E0 elt fe Le .v)
  (hs:∀x,foldedSetIterable iter X.env x=pure x:=by intro _;rfl) :
  SE X Γ E (.ListComp elt [⟨tg,iter,ifs,0⟩] scope pos) (fComp own ixs t fi ft fe) (Li ++ Lc) .w:=by
 refine PE.post' (pe_lcomp (g:=gU Γ t) (tt:=tU Γ own ixs Lc ft Lt) (te:=eU Γ own ixs Lc fe Le) hc S hi (bU hg) (fun C ex s3 H3 pn=>?_) (fun C ex s3 H3 pn=>?_) hs) fun σ H Q h=>tcomp hLc h
 ·rintro pins s σ H Q I ⟨H0,G0,par,br,bx,b,q⟩
  exact ht H0 G0 par br bx C ex s3 H3 pn b pins s σ H Q I q
 ·rintro pins s σ H Q I ⟨H0,G0,par,br,bx,b,q⟩
  exact he H0 G0 par br bx C ex s3 H3 pn b pins s σ H Q I q
theorem ss_comp {i:Nat}{y:Str}{py spos:Pos}(Lc:List Nat)(hc:X.calm=true)(S:CompScope X NB own ixs scope)(hLc:∀i,i∈Lc->Γ.br i=false)(hi:SI X Γ E tg iter fi Li .b)
  (hg:∀H0 G0 par br bx C ex s3 H3 pn,SG (blk X NB scope C ex s3 H3 pn) (Γ.blk H0 G0 par br bx) tg t)
  (ht:∀H0 G0 par br bx C ex s3 H3 pn,(∀j,bOk own ixs Lc j=true->br j=false)->PTs (blk X NB scope C ex s3 H3 pn) ifs (qT (Γ.blk H0 G0 par br bx) E0 ft Lt))
  (he:∀H0 G0 par br bx C ex s3 H3 pn,(∀j,bOk own ixs Lc j=true->br j=false)->SE (blk X NB scope C ex s3 H3 pn) (Γ.blk H0 G0 par br bx) E0 elt fe Le .v)
  (hN:X.N.Nodup) (hy:X.N[i]? =some y:=by rfl) (hl:X.env.scope.names.lookup y=some .local:=by rfl)
  (hsw:swapsWith (.ListComp elt [⟨tg,iter,ifs,0⟩] scope pos) (some (.Name y py)) spos.line X.env=pure true:=by rfl)
  (hs:∀x,foldedSetIterable iter X.env x=pure x:=by intro _;rfl) :
  SS X Γ E (.Assign [.Name y py] (.ListComp elt [⟨tg,iter,ifs,0⟩] scope pos) spos) (mSet i (Li ++ Lc) (fComp own ixs t fi ft fe)):=by
 refine PS.post (ps_lcomp (g:=gU Γ t) (tt:=tU Γ own ixs Lc ft Lt) (te:=eU Γ own ixs Lc fe Le) hc S hi (bU hg) (fun C ex s3 H3 pn=>?_) (fun C ex s3 H3 pn=>?_) hN hy hl hsw hs) fun N σ H ⟨env,G,B,β,I,o⟩=>?_
 ·rintro pins s σ H Q I ⟨H0,G0,par,br,bx,b,q⟩
  exact ht H0 G0 par br bx C ex s3 H3 pn b pins s σ H Q I q
 ·rintro pins s σ H Q I ⟨H0,G0,par,br,bx,b,q⟩
  exact he H0 G0 par br bx C ex s3 H3 pn b pins s σ H Q I q
 refine tcomp hLc ⟨env,G,B,β,I,toS_out o fun d β' k v G' H' I' s' m' vo=>?_⟩
 obtain⟨G2,I2,s2,r⟩:=I.letW I' vo
 exact k B G2 H' _ (I2.set' i r) (s'.trans s2)
end
end L2

end

section
namespace L2
open PySem PySem.Spec PyProof.Rows
def fin:SO->FR
 | .nx _ _=>.ok .none false
 | .rt d fr _=>.ok d fr
 | .exc c=>.exc c
 |_=>.bad
def argE (n:Nat)(ds:List D):En:=ds.map Sl.fz ++ List.replicate (n - ds.length) .no
def runF (n p:Nat)(m:SF):List D->FR:=fun ds=>if ds.length=p then fin (m (argE n ds) 0) else .bad
abbrev Fx.fn (K:PySem.W.Frag)(H G:Hp)(ca:Str->Addr):Fx:=⟨K,H,G,[],ca,fun _=>false,none⟩
theorem SR.start {K:PySem.W.Frag}{H G:Hp}{ca:Str->Addr}{N:List Str}{vs:List V}{ds:List D}(s:Same G H)(r:Rps K G vs ds)(hn:ds.length<=N.length):SR (Fx.fn K H G ca) none G H (start N vs) (argE N.length ds) 0:=by
 have hl:=r.len
 refine⟨s,Same.refl _,fun b _ h=>h,fun b o h _=>h,fun b h=>(by cases h),fun b h=>(by cases h),fun b h=>(by cases h),?_,fun i t e=>?_,fun i j a d e h=>?_⟩
 ·unfold L2.start argE;simp;omega
 ·unfold argE at e
  by_cases hi:i < ds.length
  ·rw [List.getElem?_append_left (by simpa using hi),List.getElem?_map,List.getElem?_eq_getElem hi] at e
   cases e
   obtain⟨x,hx,rx⟩:=r.at (List.getElem?_eq_getElem hi)
   refine⟨x,?_,rx⟩
   unfold L2.start
   rw [List.getElem?_append_left (by simpa [hl] using hi),List.getElem?_map,hx];rfl
  ·rw [List.getElem?_append_right (by simpa using hi),List.getElem?_replicate] at e
   split at e
   ·cases e;trivial
   ·cases e
 ·unfold argE at h
  have hm:=List.mem_of_getElem? h
  rcases List.mem_append.mp hm with z |z
  ·obtain⟨_,_,z⟩:=List.mem_map.mp z;cases z
  ·have:=List.eq_of_mem_replicate z;cases this
section
variable {P:Program}{w:World}{K:PySem.W.Frag}{mg:Str->Option Value}{base:Heap}{ca:Str->Addr}
theorem fn_pure {x qual:Str}{st:Stmt}{f:Addr}{fd:FuncData}{N ps:List Str}{k:Nat}{m:SF}(F:Fun K x qual st f fd)(S:FnScope N ps (defScope st))
  (hbody:∀(cdv:Value) (A:Around) (outer:List Env) (s:Shared) (H G:Hp) (E:XK),Room k (A.deeper (envOfC qual (defScope st) s.heap.objs.size f cdv))->SSs (cxOf (CXr P w) P w K mg base N qual (defScope st) f cdv A outer s H E) (Fx.fn K H G ca) E (defBody st) m) :
  FnOk P w K mg base (CXr P w) (k + 1) f fd ps (spP K ca ps.length (runF N.length ps.length m)):=by
 have hpn:ps.length<=N.length:=by have:=congrArg List.length S.pre;rw [List.length_take] at this;omega
 refine F.okR S (fun vs H Q E h=>?_) (fun cdv A outer s H vs Q E hr h=>?_)
 ·obtain⟨G,ds,sG,hl,r,_⟩:=h
  rw [r.len];exact hl
 ·obtain⟨G,ds,sG,hl,r,h⟩:=h
  refine⟨_,hbody cdv A outer s H G E hr,?_⟩
  have I:=SR.start (ca:=ca) (N:=N) sG r (by omega)
  refine⟨_,G,none,0,I,?_⟩
  unfold runF at h
  rw [if_pos hl] at h
  have fin':∀{B G' H' σ env β},SR (Fx.fn K H G ca) B G' H' σ env β->Same H H':=fun J b o e=>J.keep b o e (fun z=>by cases z)
  cases q:m (argE N.length ds) 0 with
  |nx env β=>rw [q] at h;exact fun B G' H' σ J s'=>h .non G' H' (fin' J) s' J.sub (fun b h1 h2=>J.new b h1 h2) Rp.non
  |bk env β=>rw [q] at h;exact h.elim
  |ct env β=>rw [q] at h;exact h.elim
  |rt d fr β=>
   rw [q] at h
   refine fun B G' H' σ env v J s' rv=>h v G' H' (fin' J) s' J.sub (fun b h1 h2=>J.new b h1 h2) ?_
   cases fr with
   |true=>exact rv
   |false=>exact rv
  |exc c=>rw [q] at h;exact fun H' kp=>h H' fun b o e=>kp b o e (fun z=>by cases z)
  |bad=>rw [q] at h;exact h.elim
theorem spP_imp {n:Nat}{F F':List D->FR}(h:∀ds,ds.length=n->F' ds≠.bad->F ds=F' ds){vs:List V}{H:Hp}{Q:VK}{E:XK}(q:spP K ca n F' vs H Q E):spP K ca n F vs H Q E:=by
 obtain⟨G,ds,s,hl,r,q⟩:=q
 refine⟨G,ds,s,hl,r,?_⟩
 by_cases hb:F' ds=.bad
 ·rw [hb] at q;exact q.elim
 ·rw [h ds hl hb];exact q
theorem Has.imp {x:Str}{ps:List Str}{k:Nat}{F F':List D->FR}(h:Has P w K mg base ca x ps k F)(i:∀ds,F' ds≠.bad->F ds=F' ds):Has P w K mg base ca x ps k F':=by
 obtain⟨f,fd,a,b,c,d⟩:=h.ex
 exact⟨⟨f,fd,a,b,c,d.imp fun vs H Q E q=>spP_imp (fun ds _=>i ds) q⟩,fun ds hn=>h.len ds (by rw [i ds hn];exact hn)⟩
theorem runF_len {n p:Nat}{m:SF}(ds:List D)(h:runF n p m ds≠.bad):ds.length=p:=by
 unfold runF at h
 by_cases hl:ds.length=p
 ·exact hl
 ·rw [if_neg hl] at h;exact absurd rfl h
theorem ss_raise {N:List Str}{qual:Str}{scope:Scope}{f:Addr}{cd:Value}{A:Around}{outer:List Env}{s0:Shared}{H0:Hp}{E:XK}{Γ:Fx}{x:Str}{C:Addr}{np cpos pos:Pos}{e0:Expr}{es:List Expr}{fr:VF (List D)}{L:List Nat}(q:PySem.W.excIn K C [.type "ValueError",.type "Exception",.type "BaseException",.type "object"] "ValueError.__new__"=true)(hca:Γ.ca x=C)
  (hg:Gl (cxOf (CXr P w) P w K mg base N qual scope f cd A outer s0 H0 E) x) (hm:mg x=some (.ref C)) (ha:SA (cxOf (CXr P w) P w K mg base N qual scope f cd A outer s0 H0 E) Γ E (e0 :: es) fr L)
  (he:starEach (e0 :: es) (envOfC qual scope s0.heap.objs.size f cd)=(false,eval e0 (envOfC qual scope s0.heap.objs.size f cd)) :: starEach es (envOfC qual scope s0.heap.objs.size f cd):=by rfl)
  (hpl:(backTo cpos (starEach es (envOfC qual scope s0.heap.objs.size f cd))).any (·.1)=false:=by rfl) (hdb:(x == ("__debug__":Str))=false:=by decide) :
  SS (cxOf (CXr P w) P w K mg base N qual scope f cd A outer s0 H0 E) Γ E (.Raise (some (.Call (.Name x np) (e0 :: es) [] cpos)) none pos) (fun env β=>toS (fr (vl env) β) fun ds _=>if ds.length<=sizeLine then .exc x else .bad):=by
 refine PS.post (ps_raise PySem.F.excBase_ValueError (by decide +kernel) q hg hm ha he hpl hdb) fun D σ H ⟨env,G,B,β,I,o⟩=>?_
 refine⟨env,G,B,β,I,toS_out o fun ds β' k vs G' H' I' s' m' r=>?_⟩
 by_cases hz:ds.length<=sizeLine
 ·rw [if_pos hz] at k
  refine⟨by rw [r.len];exact hz,?_⟩
  have:=k H' (I'.kp (Same.refl _))
  rw [hca] at this
  exact this
 ·rw [if_neg hz] at k;exact k.elim
end
section
variable {X:Cx}{Γ:Fx}{E:XK}{e a b c:Expr}{f fa fb:VF D}{L La Lb:List Nat}{md ma mb:Md}{pos apos cpos np:Pos}
def isOL:Option Sl->Bool
 |some (.ow (.list _))=>true
 |_=>false
theorem isOL_eq {o:Option Sl}(h:isOL o=true):∃ds,o=some (.ow (.list ds)):=by
 cases o with
 |none=>cases h
 |some s=>
  cases s with
  |ow d=>cases d with
   |list ds=>exact⟨ds,rfl⟩
   |_=>cases h
  |_=>cases h
def onL (i:Nat)(env:En)(β:Int)(g:List D->Option (List D)):SO:=match env[i]? with
 |some (.ow (.list ds))=>(match g ds with
  |some es=>.nx (env.set i (.ow (.list es))) β
  |none=>.bad)
 |_=>.bad
def mApp (i:Nat)(L:List Nat)(f:VF D):SF:=fun env β=>if isOL env[i]? =true then toS (f (vl env) β) fun d β'=>onL i (frz L env) β' fun ds=>if ds.length < sizeLine then some (ds ++ [d]) else none else .bad
theorem onL_out {Γ:Fx}{E:XK}{G:Hp}{N:Ends}{i:Nat}{env:En}{β:Int}{g:List D->Option (List D)}(h:SOk Γ E G N (onL i env β g)):∃ds es,env[i]? =some (.ow (.list ds))/\g ds=some es/\SOk Γ E G N (.nx (env.set i (.ow (.list es))) β):=by
 unfold onL at h
 split at h
 ·rename_i ds q
  cases e:g ds with
  |none=>rw [e] at h;exact h.elim
  |some es=>rw [e] at h;exact⟨ds,es,q,e,h⟩
 ·exact h.elim
theorem ss_append (i:Nat){x:Str}(hb:∀j,Γ.br j=false)(he:SE X Γ E e f L .v)(hN:X.N[i]? =some x:=by rfl)(hv:Vis X.env.scope x:=by first |exact Or.inl rfl |exact Or.inr (Or.inl rfl) |exact Or.inr (Or.inr rfl))(hd:(x == ("__debug__":Str))=false:=by decide)
  (hcd:(x == ("__classdict__":Str))=false:=by decide)
  (hbase:attributeBase (.Name x np) "append" X.env (eval (.Name x np) X.env)=eval (.Name x np) X.env:=by rfl)
  (hfew:((backTo cpos (starEach [e] X.env)).all (fun x=> !x.1) && (backToKw cpos (keywordEach [] X.env)).all (fun x=>x.1.isSome)
   && decide ([e].length + ([]:List Keyword).length + (if ([]:List Keyword).isEmpty then 0 else 1) < 30))=true:=by rfl)
  (hline:(apos.endLine == cpos.line)=true:=by rfl) (hs:starEach [e] X.env=(false,eval e X.env) :: starEach [] X.env:=by rfl)
  (hsw:swapsWith (.Call (.Attribute (.Name x np) "append" apos) [e] [] cpos) none pos.line X.env=pure false:=by rfl) :
  SS X Γ E (.Expr (.Call (.Attribute (.Name x np) "append" apos) [e] [] cpos) pos) (mApp i L f):=by
 refine PS.post (ps_expr (pe_bm PySem.F.plainAttrs_list PySem.F.slot_list_append PySem.F.type_list_append mt_append (pe_var hN hv hd hcd) (pa_cons he pa_nil hs) hbase hfew hline hs rfl) hsw) fun N σ H ⟨env,G,B,β,I,o⟩=>?_
 unfold mApp at o
 by_cases hO:isOL env[i]? =true
 case neg=>rw [if_neg hO] at o;exact o.elim
 rw [if_pos hO] at o
 obtain⟨ds0,q0⟩:=isOL_eq hO
 obtain⟨p,h1,_,_,_,xs,h5,_⟩:=I.slot i _ q0
 refine⟨_,h1,.inl ⟨rfl,xs,.inl (.inl h5)⟩,?_⟩
 refine⟨env,G,B,β,I,toS_out o fun d β' k v G' H' I' s' m' vo=>?_⟩
 obtain⟨ds,es,q,eg,k⟩:=onL_out k
 by_cases hz:ds.length < sizeLine
 case neg=>rw [if_neg hz] at eg;cases eg
 rw [if_pos hz] at eg
 cases eg
 obtain⟨p',g1,_,_,_,ys,g5,g6⟩:=I'.slot i _ q
 rw [h1] at g1;cases g1
 refine⟨p,ys,v,rfl,rfl,g5,by rw [g6.len];exact hz,?_⟩
 exact k B G' _ σ (I'.write hb q h1 fun H2 e2 s2=>⟨_,e2,g6.snoc vo⟩) s'
theorem Inv.lstR {pins:List (Addr×Obj)}{σ:St}{H:Hp}{s:Shared}{l:Addr}{xs:List V}(I:Inv X pins σ H s)(hH:Rd H l (.lst xs)):xs.length<=sizeLine/\∃(its:List Value) (n:Nat),Vals xs its/\xs.length=its.length/\s.heap.get? l=some {cls:=.type "list",data:=.seq its.toArray n}:=by
 obtain⟨z,its,n,r,e⟩:=hH.ok I.hok
 exact⟨z,its,n,r,r.length,e⟩
end
end L2

end

section
namespace L2
open PySem PySem.Spec PyProof.Rows
section
variable {K:PySem.W.Frag}{X:Cx}
theorem pr_i0 {g:Int->Int->V}{gd:D->D->Option D}(h:∀dx dy d,gd dx dy=some d->∃i j,dx=.int i/\dy=.int j/\∀G,Rp K G (g i j) d):Pr2 K (rI0 g) gd .v:=by
 intro B G H x y dx dy d Q s hB bx by' e k
 obtain⟨i,j,rfl,rfl,r⟩:=h _ _ _ e
 obtain rfl:=bx.int
 obtain rfl:=by'.int
 exact⟨i,j,rfl,rfl,k _ G H (Ext.refl s) (r G)⟩
theorem pr_iC {C:Int->Int->Prop}{g:Int->Int->V}{gd:D->D->Option D}(h:∀dx dy d,gd dx dy=some d->∃i j,dx=.int i/\dy=.int j/\C i j/\∀G,Rp K G (g i j) d):Pr2 K (rI C g) gd .v:=by
 intro B G H x y dx dy d Q s hB bx by' e k
 obtain⟨i,j,rfl,rfl,c,r⟩:=h _ _ _ e
 obtain rfl:=bx.int
 obtain rfl:=by'.int
 exact⟨i,j,rfl,rfl,c,k _ G H (Ext.refl s) (r G)⟩
def gI (c:Int->Int->Bool)(g:Int->Int->D):D->D->Option D
 | .int i,.int j=>if c i j=true then some (g i j) else none
 |_,_=>none
def gI0 (g:Int->Int->D):D->D->Option D
 | .int i,.int j=>some (g i j)
 |_,_=>none
theorem gI_eq {c:Int->Int->Bool}{g:Int->Int->D}{dx dy d:D}(h:gI c g dx dy=some d):∃i j,dx=.int i/\dy=.int j/\c i j=true/\d=g i j:=by
 unfold gI at h
 split at h
 ·split at h
  ·cases h;exact⟨_,_,rfl,rfl,by assumption,rfl⟩
  ·cases h
 ·cases h
theorem gI0_eq {g:Int->Int->D}{dx dy d:D}(h:gI0 g dx dy=some d):∃i j,dx=.int i/\dy=.int j/\d=g i j:=by
 unfold gI0 at h
 split at h
 ·cases h;exact⟨_,_,rfl,rfl,rfl⟩
 ·cases h
def gSubI:D->D->Option D:=gI0 fun i j=>.int (i - j)
theorem p_sub:Pr2 K (rI0 fun i j=>.int (i - j)) gSubI .v:=pr_i0 fun dx dy d h=>by obtain⟨i,j,rfl,rfl,rfl⟩:=gI0_eq h;exact⟨i,j,rfl,rfl,fun _=>.int _⟩
def gFd:D->D->Option D:=gI (fun _ j=>decide (0 < j) && decide (j < 1073741824)) fun i j=>.int (i / j)
theorem p_fd:Pr2 K (rI CDiv fun i j=>.int (i / j)) gFd .v:=pr_iC fun dx dy d h=>by obtain⟨i,j,rfl,rfl,c,rfl⟩:=gI_eq h;exact⟨i,j,rfl,rfl,by simpa [CDiv] using c,fun _=>.int _⟩
def gMod:D->D->Option D:=gI (fun _ j=>decide (0 < j)) fun i j=>.int (i % j)
theorem p_mod:Pr2 K (rI (fun _ j=>0 < j) fun i j=>.int (i % j)) gMod .v:=pr_iC fun dx dy d h=>by obtain⟨i,j,rfl,rfl,c,rfl⟩:=gI_eq h;exact⟨i,j,rfl,rfl,by simpa using c,fun _=>.int _⟩
def cPow (i j:Int):Bool:=decide (0<=j) && decide (j<=1000000) && decide (i.natAbs < 2 ^ 64)
def gPow:D->D->Option D:=gI cPow fun i j=>.int (i ^ j.toNat)
theorem cPow_eq {i j:Int}(h:cPow i j=true):CPow i j:=by
 unfold cPow at h
 simp only [Bool.and_eq_true,decide_eq_true_eq] at h
 exact⟨h.1.1,h.1.2,h.2⟩
theorem p_pow:Pr2 K (rI CPow fun i j=>.int (i ^ j.toNat)) gPow .v:=pr_iC fun dx dy d h=>by obtain⟨i,j,rfl,rfl,c,rfl⟩:=gI_eq h;exact⟨i,j,rfl,rfl,cPow_eq c,fun _=>.int _⟩
def gLt:D->D->Option D:=gI0 fun i j=>.bool (decide (i < j))
def gLe:D->D->Option D:=gI0 fun i j=>.bool (decide (i<=j))
def gGt:D->D->Option D:=gI0 fun i j=>.bool (decide (j < i))
theorem p_lt:Pr2 K (rI0 fun i j=>.bl (decide (i < j))) gLt .v:=pr_i0 fun dx dy d h=>by obtain⟨i,j,rfl,rfl,rfl⟩:=gI0_eq h;exact⟨i,j,rfl,rfl,fun _=>.bl _⟩
theorem p_le:Pr2 K (rI0 fun i j=>.bl (decide (i<=j))) gLe .v:=pr_i0 fun dx dy d h=>by obtain⟨i,j,rfl,rfl,rfl⟩:=gI0_eq h;exact⟨i,j,rfl,rfl,fun _=>.bl _⟩
theorem p_gt:Pr2 K (rI0 fun i j=>.bl (decide (j < i))) gGt .v:=pr_i0 fun dx dy d h=>by obtain⟨i,j,rfl,rfl,rfl⟩:=gI0_eq h;exact⟨i,j,rfl,rfl,fun _=>.bl _⟩
mutual
theorem noD_lay:∀d:D,d.canLay0=true->noD d=true
 | .none,_=>rfl
 | .bool _,_=>rfl
 | .int _,_=>rfl
 | .str _,_=>rfl
 | .list ds,h=>by simp only [PyData.canLay0] at h;simp only [noD];exact noDs_lay ds h
 | .tuple ds,h=>by simp only [PyData.canLay0] at h;simp only [noD];exact noDs_lay ds h
 | .dict _,h=>by simp [PyData.canLay0] at h
theorem noDs_lay:∀ds:List D,PyData.canLayAll0 ds=true->noDs ds=true
 | [],_=>rfl
 |d :: ds,h=>by
  simp only [PyData.canLayAll0,Bool.and_eq_true] at h
  simp only [noDs,Bool.and_eq_true]
  exact⟨noD_lay d h.1,noDs_lay ds h.2⟩
end
theorem noD_sh {d:D}(h:SeqAt.shaped d=true):noD d=true:=noD_lay d (SeqAt.canLay_of_shaped h)
theorem noDs_sh:∀{ds:List D},(ds.all SeqAt.shaped)=true->noDs ds=true
 | [],_=>rfl
 |d :: ds,h=>by
  rw [List.all_cons,Bool.and_eq_true] at h
  simp only [noDs,Bool.and_eq_true]
  exact⟨noD_sh h.1,noDs_sh h.2⟩
def gEq (neg:Bool)(x y:D):Option D:=if (SeqAt.shaped x && SeqAt.shaped y)=true then some (.bool (if neg then !PyData.eqv x y else PyData.eqv x y)) else none
theorem p_eq {neg:Bool}:Pr2 K (rEqD K neg) (gEq neg) .v:=by
 intro B G H x y dx dy d Q s hB bx by' e k
 unfold gEq at e
 split at e
 ·rename_i h
  rw [Bool.and_eq_true] at h
  cases e
  exact⟨dx,dy,(bx.rpH s).rep (noD_sh h.1),(by'.rpH s).rep (noD_sh h.2),h.1,h.2,k _ G H (Ext.refl s) (.bl _)⟩
 ·cases e
def gIn (neg:Bool)(x y:D):Option D:=match seqD y with
 |some ds=>if (SeqAt.shaped x && ds.all SeqAt.shaped)=true then some (.bool (if neg then !(ds.any fun e=>PyData.eqv e x) else ds.any fun e=>PyData.eqv e x)) else none
 |none=>none
theorem Brw.seq {B:Option Addr}{G H:Hp}{v:V}{d:D}{ds:List D}(h:Brw K B G H v d)(e:seqD d=some ds)(s:Same G H):∃a xs,v=.ref a/\(SqL K H a xs\/SqT K H a xs)/\Rps K G xs ds:=by
 cases d with
 |list l=>cases e;obtain⟨a,xs,e,q,r⟩:=h.list s;exact⟨a,xs,e,.inl (.inl q),r⟩
 |tuple l=>cases e;obtain⟨a,xs,e,q,r⟩:=h.tuple s;exact⟨a,xs,e,.inr q,r⟩
 |_=>cases e
theorem p_in {neg:Bool}:Pr2 K (rInD K neg) (gIn neg) .v:=by
 intro B G H x y dx dy d Q s hB bx by' e k
 unfold gIn at e
 cases q:seqD dy with
 |none=>rw [q] at e;cases e
 |some ds=>
  rw [q] at e
  dsimp only at e
  split at e
  ·rename_i h
   rw [Bool.and_eq_true] at h
   cases e
   obtain⟨a,xs,rfl,hq,r⟩:=by'.seq q s
   refine⟨a,xs,dx,ds,rfl,hq,(r.mono s).reps (noDs_sh h.2),(bx.rpH s).rep (noD_sh h.1),h.1,fun e he=>List.all_eq_true.mp h.2 e he,k _ G H (Ext.refl s) (.bl _)⟩
  ·cases e
def isNn:D->Bool
 | .none=>true
 |_=>false
theorem Rps.ints {G:Hp}:∀ns:List Int,Rps K G (ns.map V.int) (ns.map PyData.int)
 | []=>.nil
 |n :: ns=>.cons (.int n) (Rps.ints ns)
theorem RpK.noNone {G:Hp}{kvs:List (Key×V)}{d:D}{r:List (D×D)}(h:RpK K G kvs ((.none,d) :: r)):False:=by
 generalize e:(PyData.none,d) :: r=l at h
 cases h with
 |nil=>cases e
 | @cons k x xs d' ds _ _=>
  injection e with e1 _
  injection e1 with e2 _
  cases k <;> cases e2
theorem RpT.noNone {G:Hp}{kvs:List (List Key×V)}{d:D}{r:List (D×D)}(h:RpT K G kvs ((.none,d) :: r)):False:=by
 generalize e:(PyData.none,d) :: r=l at h
 cases h with
 |nil=>cases e
 | @cons k x xs d' ds _ _=>
  injection e with e1 _
  injection e1 with e2 _
  cases e2
theorem Brw.scr {B:Option Addr}{G H:Hp}{v:V}{ds:List D}(h:Brw K B G H v (.dict [(.none,.list ds)]))(s:Same G H):∃a xs,v=.ref a/\SqL K H a xs/\Rps K G xs ds:=by
 rcases h with h | ⟨a,rfl,n,h⟩
 ·cases h with
  | @scr a ns q=>exact⟨a,_,rfl,s.seq q,Rps.ints ns⟩
  |dK _ r=>exact r.noNone.elim
  |dT _ r=>exact r.noNone.elim
 ·rcases h with⟨_,_,r⟩ | ⟨_,_,r⟩
  ·exact r.noNone.elim
  ·exact r.noNone.elim
def gIx:D->D->Option D
 | .list ds,.int i=>atI ds i
 | .tuple ds,.int i=>atI ds i
 | .str z,.int i=>if z.length<=sizeLine then (atI z.cps.toList i).map fun c=>.str ⟨#[c]⟩ else none
 | .dict [(.none,.list ds)],.int i=>atI ds i
 |_,_=>none
theorem atI_rps {G:Hp}{xs:List V}{ds:List D}{i:Int}{d:D}(r:Rps K G xs ds)(h:atI ds i=some d):∃x,atI xs i=some x/\Rp K G x d:=by
 unfold atI at h ⊢
 rw [r.len]
 cases e:ixN ds.length i with
 |none=>rw [e] at h;cases h
 |some j=>rw [e] at h;exact r.at h
theorem p_ix:Pr2 K (rIx K) gIx .v:=by
 intro B G H x y dx dy d Q s hB bx by' e k
 cases dx with
 |list ds=>
  cases dy with
  |int i=>
   obtain rfl:=by'.int
   obtain⟨a,xs,rfl,q,r⟩:=bx.list s
   obtain⟨v,ev,rv⟩:=atI_rps r e
   exact .inl ⟨a,xs,i,v,rfl,rfl,.inl q,ev,k _ G H (Ext.refl s) rv⟩
  |_=>cases e
 |tuple ds=>
  cases dy with
  |int i=>
   obtain rfl:=by'.int
   obtain⟨a,xs,rfl,q,r⟩:=bx.tuple s
   obtain⟨v,ev,rv⟩:=atI_rps r e
   exact .inr (.inl ⟨a,xs,i,v,rfl,rfl,q,ev,k _ G H (Ext.refl s) rv⟩)
  |_=>cases e
 |str z=>
  cases dy with
  |int i=>
   obtain rfl:=by'.int
   obtain rfl:=bx.str
   simp only [gIx] at e
   split at e
   ·rename_i hz
    cases q:atI z.cps.toList i with
    |none=>rw [q] at e;cases e
    |some c=>rw [q] at e;cases e;exact .inr (.inr ⟨z,i,c,rfl,rfl,hz,q,k _ G H (Ext.refl s) (.str _)⟩)
   ·cases e
  |_=>cases e
 |none=>cases dy <;> cases e
 |bool b=>cases dy <;> cases e
 |int b=>cases dy <;> cases e
 |dict b=>
  obtain⟨ds,i,rfl,rfl,e⟩:∃ds i,b= [(.none,.list ds)]/\dy=.int i/\atI ds i=some d:=by
   unfold gIx at e
   split at e
   ·contradiction
   ·contradiction
   ·contradiction
   ·rename_i h;cases h;exact⟨_,_,rfl,rfl,e⟩
   ·cases e
  obtain rfl:=by'.int
  obtain⟨a,xs,rfl,q,r⟩:=bx.scr s
  obtain⟨v,ev,rv⟩:=atI_rps r e
  exact .inl ⟨a,xs,i,v,rfl,rfl,q,ev,k _ G H (Ext.refl s) rv⟩
def gLen:D->Option D
 | .list ds=>some (.int ds.length)
 | .tuple ds=>some (.int ds.length)
 | .str z=>if z.length<=sizeLine then some (.int z.length) else none
 | .dict [(.none,.list ds)]=>some (.int ds.length)
 |_=>none
def rLen (K:PySem.W.Frag):List V->Hp->VK->Prop:=fun xs H Q=>∃x n,xs= [x]/\LenV K x H n/\Q (.int n) H
theorem p_len:Pr1 K (fun x=>rLen K [x]) gLen .v:=by
 intro B G H x dx d Q s hB bx e k
 unfold gLen at e
 split at e
 ·cases e;obtain⟨a,xs,rfl,q,r⟩:=bx.list s;exact⟨_,_,rfl,.inl ⟨xs,.inl q,r.len.symm⟩,k _ G H (Ext.refl s) (.int _)⟩
 ·cases e;obtain⟨a,xs,rfl,q,r⟩:=bx.tuple s;exact⟨_,_,rfl,.inr ⟨xs,q,r.len.symm⟩,k _ G H (Ext.refl s) (.int _)⟩
 ·obtain rfl:=bx.str
  split at e
  ·rename_i hz;cases e;exact⟨_,_,rfl,⟨hz,rfl⟩,k _ G H (Ext.refl s) (.int _)⟩
  ·cases e
 ·cases e;obtain⟨a,xs,rfl,q,r⟩:=bx.scr s;exact⟨_,_,rfl,.inl ⟨xs,q,r.len.symm⟩,k _ G H (Ext.refl s) (.int _)⟩
 ·cases e
def gTuple:D->Option D
 | .list ds=>some (.tuple ds)
 | .tuple ds=>some (.tuple ds)
 |_=>none
theorem p_tuple:Pr1 K (fun x H Q=>∃p ys,[x]= [.ref p]/\((SqL K H p ys/\∀l,H l=none->Q (.ref l) (upd H l (.tup ys)))\/(SqT K H p ys/\Q (.ref p) H))) gTuple .v:=by
 intro B G H x dx d Q s hB bx e k
 cases dx with
 |list ds=>
  cases e
  obtain⟨a,xs,rfl,q,r⟩:=bx.list s
  refine⟨a,xs,rfl,.inl ⟨.inl q,fun l hl=>?_⟩⟩
  have x:=Ext.new s (o:=.tup xs) hl
  exact k _ _ _ x (.tup (.inl (.inl upd_same)) (r.mono x.gg))
 |tuple ds=>
  cases e
  rcases bx with bx | ⟨_,_,_,z⟩
  ·cases bx with
   | @tup a xs _ hq r=>exact⟨a,xs,rfl,.inr ⟨hq.grow s.grow,k _ G H (Ext.refl s) (.tup hq r)⟩⟩
  ·exact z.elim
 |_=>cases e
def gList:D->Option D
 | .list ds=>some (.list ds)
 | .tuple ds=>some (.list ds)
 |_=>none
theorem p_list:Pr1 K (fun x H Q=>∃p ys,[x]= [.ref p]/\(SqL K H p ys\/SqT K H p ys)/\∀l,H l=none->Q (.ref l) (upd H l (.lst ys))) gList .w:=by
 intro B G H x dx d Q s hB bx e k
 obtain⟨ds,e1,rfl⟩:∃ds,seqD dx=some ds/\d=.list ds:=by
  cases dx <;> cases e <;> exact⟨_,rfl,rfl⟩
 obtain⟨a,xs,rfl,hq,r⟩:=bx.seq e1 s
 refine⟨a,xs,rfl,hq,fun l hl=>?_⟩
 exact k _ _ _ (Ext.own s (o:=.lst xs) hl) ⟨l,rfl,hl,s.free hl,xs,upd_same,r⟩
def boolsD:List D->Option (List Bool)
 | []=>some []
 | .bool b :: ds=>(boolsD ds).map (b :: ·)
 |_=>none
theorem bools_rps {G:Hp}:∀{ds:List D} {bs:List Bool} {xs:List V},boolsD ds=some bs->Rps K G xs ds->xs=bs.map V.bl
 | [],bs,xs,e,r=>by cases e;cases r;rfl
 | .bool b :: ds,bs,xs,e,r=>by
  cases r with
  |cons r1 r2=>
   cases r1
   simp only [boolsD] at e
   cases q:boolsD ds with
   |none=>rw [q] at e;cases e
   |some cs=>rw [q] at e;cases e;rw [bools_rps q r2];rfl
 | .none :: _,_,_,e,_=>by cases e
 | .int _ :: _,_,_,e,_=>by cases e
 | .str _ :: _,_,_,e,_=>by cases e
 | .list _ :: _,_,_,e,_=>by cases e
 | .tuple _ :: _,_,_,e,_=>by cases e
 | .dict _ :: _,_,_,e,_=>by cases e
def gBools (f:List Bool->Bool):D->Option D
 | .list ds=>(boolsD ds).map fun bs=>.bool (f bs)
 |_=>none
theorem p_bools {f:List Bool->Bool}:Pr1 K (fun x=>rBools K f [x]) (gBools f) .v:=by
 intro B G H x dx d Q s hB bx e k
 cases dx with
 |list ds=>
  simp only [gBools] at e
  cases q:boolsD ds with
  |none=>rw [q] at e;cases e
  |some bs=>
   rw [q] at e
   cases e
   obtain⟨a,xs,rfl,hq,r⟩:=bx.list s
   obtain rfl:=bools_rps q r
   exact⟨a,bs,rfl,.inl hq,k _ G H (Ext.refl s) (.bl _)⟩
 |_=>cases e
def rCatR:R2:=fun x y H Q=>∃l b xs zs,x=.ref l/\y=.ref b/\Rd H l (.lst xs)/\Rd H b (.lst zs)/\xs.length + zs.length<=sizeLine/\∀p,H p=none->Q (.ref p) (upd H p (.lst (xs ++ zs)))
theorem op_catR:OpR X (binaryOp .Add) rCatR:=by
 intro pins s σ H x y v u Q I rx ry h
 obtain⟨l,b,xs,zs,rfl,rfl,hH,hB,hz,q⟩:=h
 cases rx
 cases ry
 obtain⟨z,its,n,r,hl,e⟩:=I.lstR hH
 obtain⟨z2,its2,n2,r2,hl2,e2⟩:=I.lstR hB
 refine PySem.P.add_list e e2 ?_ (by rw [List.size_toArray,List.size_toArray];omega)
 have ea:its.toArray ++ its2.toArray=(its ++ its2).toArray:=by simp
 rw [ea]
 exact⟨.ref _,_,I.lnew (t':=s.toks) (r.append r2) (by rw [List.length_append];omega),rfl,q _ I.fresh⟩
def gCat:D->D->Option D
 | .list a,.list b=>if a.length + b.length<=sizeLine then some (.list (a ++ b)) else none
 |_,_=>none
theorem p_cat:Pr2 K rCatR gCat .w:=by
 intro B G H x y dx dy d Q s hB bx by' e k
 cases dx <;> cases dy <;> first | (cases e;done) |skip
 rename_i a b
 simp only [gCat] at e
 split at e
 ·rename_i hz
  cases e
  obtain⟨p,xs,rfl,q1,r1⟩:=bx.list s
  obtain⟨p2,ys,rfl,q2,r2⟩:=by'.list s
  refine⟨p,p2,xs,ys,rfl,rfl,q1,q2,by rw [r1.len,r2.len];exact hz,fun l hl=>?_⟩
  exact k _ _ _ (Ext.own s (o:=.lst (xs ++ ys)) hl) ⟨l,rfl,hl,s.free hl,_,upd_same,r1.append r2⟩
 ·cases e
def gAddI:D->D->Option D:=gI0 fun i j=>.int (i + j)
theorem p_addI:Pr2 K (rI0 fun i j=>.int (i + j)) gAddI .v:=pr_i0 fun dx dy d h=>by obtain⟨i,j,rfl,rfl,rfl⟩:=gI0_eq h;exact⟨i,j,rfl,rfl,fun _=>.int _⟩
def gMulI:D->D->Option D:=gI (fun i j=>(decide (-(2 ^ 64) < i) && decide (i < 2 ^ 64)) || (decide (-(2 ^ 64) < j) && decide (j < 2 ^ 64))) fun i j=>.int (i * j)
theorem p_mulI:Pr2 K (rI CMul fun i j=>.int (i * j)) gMulI .v:=pr_iC fun dx dy d h=>by obtain⟨i,j,rfl,rfl,c,rfl⟩:=gI_eq h;exact⟨i,j,rfl,rfl,by simpa [CMul] using c,fun _=>.int _⟩
def gNeg:D->Option D
 | .int i=>some (.int (-i))
 |_=>none
theorem p_neg:Pr1 K (rU fun i=>.int (-i)) gNeg .v:=by
 intro B G H x dx d Q s hB bx e k
 cases dx with
 |int i=>cases e;obtain rfl:=bx.int;exact⟨i,rfl,k _ G H (Ext.refl s) (.int _)⟩
 |_=>cases e
def tyD:D->String
 | .none=>"NoneType"
 | .bool _=>"bool"
 | .int _=>"int"
 | .str _=>"str"
 | .list _=>"list"
 | .tuple _=>"tuple"
 | .dict _=>"dict"
def isiB (d:D)(T:String):Bool:=tyD d == T || (T == "int" && tyD d == "bool")
def isScr:D->Bool
 | .dict ((.none,_) :: _)=>true
 |_=>false
def gIsi (T:String)(d:D):Option D:=if isScr d=true then none else some (.bool (isiB d T))
def TyE (K:PySem.W.Frag)(H:Hp)(x:V)(t:String):Prop:=TyD K H x t\/(t="dict"/\∃a kvs,x=.ref a/\H a=some (.dT kvs))
def rIsE (K:PySem.W.Frag):List V->Hp->VK->Prop:=fun xs H Q=>∃x T t b,xs= [x,.ty T]/\TyE K H x t/\PySem.W.kitOne K (.type t) (.type T)=some b/\Q (.bl b) H
theorem call_isE:CallR X (.builtin "isinstance") (rIsE X.K):=by
 intro pins s σ H xs us Q I r h
 obtain⟨x,T,t,b,rfl,ty,e,q⟩:=h
 rcases ty with ty | ⟨rfl,a,kvs,rfl,hk⟩
 ·exact call_isi pins s σ H _ us Q I r ⟨x,T,t,b,rfl,ty,e,q⟩
 ·obtain⟨u,c,rfl,rx,rc⟩:=vals2 r
  cases rc
  cases rx
  obtain⟨_,_,_,_,o,_,_,e2,ex,_⟩:=I.hok a _ hk
  exact PySem.W.kia_one PySem.W.kitx_dict I.kIn ⟨o,e2,ex.1⟩ e (fun z=>nomatch z) fun tk=>⟨.bl b,H,I.tok tk,rfl,q⟩
theorem Brw.ty {B:Option Addr}{G H:Hp}{v:V}{d:D}(h:Brw K B G H v d)(s:Same G H)(n:isScr d=false):TyE K H v (tyD d):=by
 cases d with
 |none=>obtain rfl:=h.none;exact .inl .non
 |bool b=>obtain rfl:=h.bool;exact .inl (.bl b)
 |int b=>obtain rfl:=h.int;exact .inl (.int b)
 |str b=>obtain rfl:=h.str;exact .inl (.str b)
 |list b=>obtain⟨a,xs,rfl,q,_⟩:=h.list s;exact .inl (.lst (.inl q))
 |tuple b=>obtain⟨a,xs,rfl,q,_⟩:=h.tuple s;exact .inl (.tup q)
 |dict b=>
  rcases h with h | ⟨a,rfl,_,h⟩
  ·cases h with
   |scr _=>cases n
   |dK q _=>exact .inl (.dic (s _ _ q))
   |dT q _=>exact .inr ⟨rfl,_,_,rfl,s _ _ q⟩
  ·rcases h with⟨_,q,_⟩ | ⟨_,q,_⟩
   ·exact .inl (.dic q)
   ·exact .inr ⟨rfl,_,_,rfl,q⟩
theorem kit_T {d:D}{T:String}(hT:T∈ ["int","bool","str","list","tuple","dict"]):PySem.W.kitOne K (.type (tyD d)) (.type T)=some (isiB d T):=by
 simp only [List.mem_cons,List.not_mem_nil,or_false] at hT
 cases d with
 |dict l=>rcases hT with rfl |rfl |rfl |rfl |rfl |rfl <;> rfl
 |none=>rcases hT with rfl |rfl |rfl |rfl |rfl |rfl <;> rfl
 |bool _=>rcases hT with rfl |rfl |rfl |rfl |rfl |rfl <;> rfl
 |int _=>rcases hT with rfl |rfl |rfl |rfl |rfl |rfl <;> rfl
 |str _=>rcases hT with rfl |rfl |rfl |rfl |rfl |rfl <;> rfl
 |list _=>rcases hT with rfl |rfl |rfl |rfl |rfl |rfl <;> rfl
 |tuple _=>rcases hT with rfl |rfl |rfl |rfl |rfl |rfl <;> rfl
theorem se_isi {a:Expr}{fa:VF D}{La:List Nat}{ma:Md}{Γ:Fx}{E:XK}{pos p p2:Pos}(T:String){y:Str}(hT:T∈ ["int","bool","str","list","tuple","dict"])(hK:X.K=Γ.K)(hg:Gl X "isinstance")(hm:X.mg "isinstance"=none)(hgT:Gl X y)(hmT:X.mg y=none)(hvT:bootBuiltins y=some (.type T))(ha:SE X Γ E a fa La ma)
  (hnT:y≠"__name__":=by decide) (hdT:(y == ("__debug__":Str))=false:=by decide)
  (he:starEach [a,.Name y p2] X.env=(false,eval a X.env) :: starEach [.Name y p2] X.env:=by rfl) (he2:starEach [.Name y p2] X.env=(false,eval (.Name y p2) X.env) :: starEach [] X.env:=by rfl) (hpl:(backTo pos (starEach [.Name y p2] X.env)).any (·.1)=false:=by rfl) :
  SE X Γ E (.Call (.Name "isinstance" p) [a,.Name y p2] [] pos) (f1 fa (gIsi T)) La .v:=by
 refine PE.post' (pe_callB call_isE hg hm (by decide +kernel) (pa_cons ha (pa_cons (pe_bltn hgT hmT hvT (show RelV (.ty T) _ from rfl) hnT hdT) pa_nil he2) he) (by decide) (by decide) he hpl) fun σ H Q ⟨env,G,B,β,I,o⟩=>?_
 refine pr1_run (r:=fun x H1 Q=>rIsE X.K [x,.ty T] H1 Q) ?_ I o
 intro B G H x dx d Q s hB bx e k
 unfold gIsi at e
 split at e
 ·cases e
 ·rename_i hn
  cases e
  rw [hK]
  exact⟨x,T,tyD dx,isiB dx T,rfl,bx.ty s (by simpa using hn),kit_T hT,k _ G H (Ext.refl s) (.bl _)⟩
def fChain (fa fb fc:VF D)(g g':D->D->Option D):VF D:=fun vs β=>(fa vs β).bnd fun x β1=>(fb vs β1).bnd fun y β2=>match g x y with
 |some (.bool true)=>(fc vs β2).bnd fun z β3=>R.of (g' y z) β3
 |some (.bool false)=>.ok (.bool false) β2
 |_=>.bad
theorem se_chain {a b c:Expr}{fa fb fc:VF D}{ma mb mc:Md}{Γ:Fx}{E:XK}{pos:Pos}{op op':CmpOp}{r r':R2}{g g':D->D->Option D}(ho:OpR X (compareOp op) r)(ho':OpR X (compareOp op') r')(pr:Pr2 Γ.K r g .v)(pr':Pr2 Γ.K r' g' .v)(ha:SE X Γ E a fa [] ma)(hb:SE X Γ E b fb [] mb)(hc:SE X Γ E c fc [] mc)
  (hm:lastMarks [op,op'] [b,c]=false:=by with_unfolding_all rfl):SE X Γ E (.Compare a [op,op'] [b,c] pos) (fChain fa fb fc g g') [] .v:=by
 refine PE.post' (pe_chain ho ho' ha hb hc hm) fun σ H Q ⟨env,G,B,β,I,o⟩=>?_
 refine two (W:=fun x y H2=>r x y H2 fun z H3=>∃k,z=.bl k/\(if k=true then pT Γ E fc [] mc σ H3 fun w' H4=>r' y w' H4 Q else Q (.bl false) H3)) I (o.bnd.imp fun d1 β1 h=>h.bnd.imp fun d2 β2 h x y G2 H2 I2 s2 m2 bx by'=>?_)
 obtain⟨cb,ec,h⟩:∃cb,g d1 d2=some (.bool cb)/\Out Γ E (if cb=true then (fc (vl env) β2).bnd fun z β3=>R.of (g' d2 z) β3 else .ok (.bool false) β2) fun d β'=>∀v G' H',SR Γ B G' H' σ (frz [] env) β'->Same G G'->Mov B H H'->VO Γ.K B H G' H' .v d v->Q v H':=by
  split at h
  ·rename_i q;exact⟨true,q,by rw [if_pos rfl];exact h⟩
  ·rename_i q;exact⟨false,q,by rw [if_neg Bool.false_ne_true];exact h⟩
  ·exact h.elim
 refine pr B G2 H2 x y d1 d2 _ _ I2.sub I2.boxThere bx by' ec fun v G' H' x' vo=>?_
 cases vo
 refine⟨cb,rfl,?_⟩
 have I3:=I2.ext x'
 cases cb with
 |false=>rw [if_neg Bool.false_ne_true] at h;exact iteF (h _ G' H' I3 (s2.trans x'.gg) (m2.trans (x'.mov B)) (.bl false))
 |true=>
  rw [if_pos rfl] at h
  refine iteT ⟨env,G',B,β2,I3,h.bnd.imp fun d3 β3 h z G4 H4 I4 s4 m4 vz=>?_⟩
  obtain⟨d,e,k⟩:=h.of
  refine pr' B G4 H4 y z d2 d3 d Q I4.sub I4.boxThere (by'.mono (x'.gg.trans s4) ((x'.mov B).trans m4)) (vz.brw I3.boxThere) e fun v G5 H5 x5 vo=>?_
  exact k v G5 H5 (I4.ext x5) (((s2.trans x'.gg).trans s4).trans x5.gg) (((m2.trans (x'.mov B)).trans m4).trans (x5.mov B)) vo
end
end L2

end

section
namespace L2
open PySem PySem.Spec PyProof.Rows
theorem Room.u1 {k:Nat}{A:Around}(r:Room k A):A.units + 100 < cLine:=by have:=r.un;omega
def cOk (N:List Str)(sc:Scope)(NB:List Str)(own:Nat)(ixs:List Nat)(scope:Scope):Bool:=
 decide (scope.kind=.function) && (scope.names.all fun y=>decide (y.2≠.cell)) && (scope.names.all fun y=>decide (scope.names.lookup y.1=some y.2)) &&
 (scope.names.all fun y=>decide (y.2=.free->(sc.names.lookup y.1=some .cell\/sc.names.lookup y.1=some .free))) && decide NB.Nodup && decide (NB.length=own + ixs.length) &&
 ((List.range ixs.length).all fun k=>decide (NB[own + k]? =N[ixs.getD k 0]?) && (match NB[own + k]? with |some x=>decide ((x,NameKind.free)∈scope.names) |none=>true))
theorem cScope {X:Cx}{NB:List Str}{own:Nat}{ixs:List Nat}{scope:Scope}(h:cOk X.N X.env.scope NB own ixs scope=true):CompScope X NB own ixs scope:=by
 unfold cOk at h
 simp only [Bool.and_eq_true,List.all_eq_true,decide_eq_true_eq,List.mem_range] at h
 obtain⟨⟨⟨⟨⟨⟨h1,h2⟩,h3⟩,h4⟩,h5⟩,h6⟩,h7⟩:=h
 refine⟨h1,h2,h3,h4,h5,h6,fun k hk=>⟨(h7 k hk).1,fun x hx=>?_⟩⟩
 have:=(h7 k hk).2
 rw [hx] at this
 simpa using this
section
variable {X:Cx}{Γ:Fx}{E:XK}{e a b c:Expr}{f fa fb fc:VF D}{L La Lb:List Nat}{md ma mb mc:Md}{pos:Pos}{K:PySem.W.Frag}
def tN (fa:VF D)(neg:Bool):VF Bool:=fun vs β=>(fa vs β).bnd fun x β1=>.ok (if neg then !isNn x else isNn x) β1
def oT (Γ:Fx)(E:XK)(f:VF (Option Int))(L:List Nat):TO:=fun σ H Q=>∃env G B β,SR Γ B G H σ env β/\
 Out Γ E (f (vl env) β) fun d β'=>∀G' H',SR Γ B G' H' σ (frz L env) β'->Same G G'->Mov B H H'->Q d H'
def SOp (X:Cx)(Γ:Fx)(E:XK)(e:Option Expr)(f:VF (Option Int))(L:List Nat):Prop:=PO X e (oT Γ E f L)
theorem so_none:SOp X Γ E none (fun _ β=>.ok none β) []:=fun pins s σ H Q I ⟨env,G,B,β,J,o⟩=>po_none pins s σ H Q I (o G H J (Same.refl _) (Mov.refl _ _))
def oSm (fa:VF D):VF (Option Int):=fun vs β=>(fa vs β).bnd fun x β1=>match x with
 | .int i=>.ok (some i) β1
 |_=>.bad
theorem so_some (ha:SE X Γ E a fa La ma):SOp X Γ E (some a) (oSm fa) La:=fun pins s σ H Q I ⟨env,G,B,β,J,o⟩=>by
 refine po_some ha pins s σ H Q I ⟨env,G,B,β,J,o.bnd.imp fun d1 β1 h x G1 H1 I1 s1 m1 vx=>?_⟩
 cases d1 with
 |int i=>exact⟨i,(vx.brw J.boxThere).int,h G1 H1 I1 s1 m1⟩
 |_=>exact h.elim
def cutD (xs:List D)(lo hi:Option Int):List D:=(xs.drop (HT.sIx xs.length 0 lo)).take (HT.sIx xs.length xs.length hi - HT.sIx xs.length 0 lo)
theorem cut_rps {G:Hp}{xs:List V}{ds:List D}(r:Rps K G xs ds)(lo hi:Option Int):Rps K G (cutV xs lo hi) (cutD ds lo hi):=by
 unfold cutV cutD
 rw [r.len]
 exact (r.drop _).take _
def fSl (fa:VF D)(fl fh:VF (Option Int)):VF D:=fun vs β=>(fa vs β).bnd fun x β1=>(fl vs β1).bnd fun l β2=>(fh vs β2).bnd fun h β3=>match x with
 | .list ds=>.ok (.list (cutD ds l h)) β3
 |_=>.bad
theorem se_slice {lo hi:Option Expr}{fl fh:VF (Option Int)}{Ll Lh:List Nat}{p2:Pos}(hK:X.K=Γ.K)(ha:SE X Γ E a fa La ma)(hl:SOp X Γ E lo fl Ll)(hh:SOp X Γ E hi fh Lh):SE X Γ E (.Subscript a (.Slice lo hi none p2) pos) (fSl fa fl fh) (La ++ Ll ++ Lh) .w:=by
 refine PE.post' (pe_slice sl_list ha hl hh) fun σ H Q ⟨env,G,B,β,I,o⟩=>?_
 refine⟨env,G,B,β,I,o.bnd.imp fun d1 β1 h x G1 H1 I1 s1 m1 vx=>⟨frz La env,G1,B,β1,I1,?_⟩⟩
 rw [vl_frz]
 refine h.bnd.imp fun l β2 h G2 H2 I2 s2 m2=>⟨frz Ll (frz La env),G2,B,β2,I2,?_⟩
 rw [vl_frz,vl_frz]
 refine h.bnd.imp fun u β3 h G3 H3 I3 s3 m3=>?_
 rw [<-frz_app,<-frz_app,<-List.append_assoc] at I3
 have bx:=((vx.brw I.boxThere).mono s2 m2).mono s3 m3
 cases d1 with
 |list ds=>
  obtain⟨p,xs,rfl,hq,r⟩:=bx.list I3.sub
  rw [hK]
  refine⟨p,xs,rfl,.inl hq,fun q hn=>?_⟩
  have x:=Ext.own I3.sub (o:=.lst (cutV xs l u)) hn
  exact h _ _ _ (I3.ext x) ((s1.trans s2).trans s3) (((m1.trans m2).trans m3).trans (x.mov B)) ⟨q,rfl,back_none ((m1.trans m2).trans m3) I3.boxThere hn,I3.sub.free hn,_,upd_same,cut_rps r l u⟩
 |_=>exact h.elim
theorem p_max2:Pr2 K (fun x y H Q=>∃i j,[x,y]= [.int i,.int j]/\Q (.int (if j > i then j else i)) H) (gI0 fun i j=>.int (if j > i then j else i)) .v:=by
 intro B G H x y dx dy d Q s hB bx by' e k
 obtain⟨i,j,rfl,rfl,rfl⟩:=gI0_eq e
 obtain rfl:=bx.int
 obtain rfl:=by'.int
 exact⟨i,j,rfl,k _ G H (Ext.refl s) (.int _)⟩
theorem p_min2:Pr2 K (fun x y H Q=>∃i j,[x,y]= [.int i,.int j]/\Q (.int (if j < i then j else i)) H) (gI0 fun i j=>.int (if j < i then j else i)) .v:=by
 intro B G H x y dx dy d Q s hB bx by' e k
 obtain⟨i,j,rfl,rfl,rfl⟩:=gI0_eq e
 obtain rfl:=bx.int
 obtain rfl:=by'.int
 exact⟨i,j,rfl,k _ G H (Ext.refl s) (.int _)⟩
end
end L2

end

section
namespace L2
open PySem PySem.Spec PyProof.Rows
structure FnK (K:PySem.W.Frag)(mg:Str->Option Value)(x:Str)(st:Stmt)(ps:List Str)(f:Addr)(fd:FuncData):Prop where
 mg:mg x=some (.ref f)
 F:Fun K x x st f fd
 b:Binds K fd ps []
structure Exc (K:PySem.W.Frag)(mg:Str->Option Value)(ca:Str->Addr)(x:Str):Prop where
 mg:mg x=some (.ref (ca x))
 ex:PySem.W.excIn K (ca x) [.type "ValueError",.type "Exception",.type "BaseException",.type "object"] "ValueError.__new__"=true
theorem Exc.ca {K:PySem.W.Frag}{mg:Str->Option Value}{ca:Str->Addr}{x:Str}(h:Exc K mg ca x):ca x=ca x:=rfl
structure BtK (mg:Str->Option Value):Prop where
 len:mg "len"=none
 range:mg "range"=none
 enumerate:mg "enumerate"=none
 zip:mg "zip"=none
 min:mg "min"=none
 max:mg "max"=none
 sum:mg "sum"=none
 abs:mg "abs"=none
 sorted:mg "sorted"=none
 reversed:mg "reversed"=none
 int:mg "int"=none
 str:mg "str"=none
 bool:mg "bool"=none
 list:mg "list"=none
 tuple:mg "tuple"=none
 dict:mg "dict"=none
 set:mg "set"=none
 isinstance:mg "isinstance"=none
 repr:mg "repr"=none
 any:mg "any"=none
 all:mg "all"=none
 divmod:mg "divmod"=none
end L2

end

section
namespace L2
open PySem PySem.Spec PyProof.Rows
inductive FB where
 |ok (d:D) (fresh:Bool) (β:Int)
 |bad
def spB (K:PySem.W.Frag)(n:Nat)(F:List D->Int->FB):Sp:=fun vs H Q _=>∃b rest G ds β,vs=.ref b :: rest/\H b=some (.lst [.int β])/\G b=none/\Same G H/\ds.length=n/\Rps K G rest ds/\match F ds β with
 | .ok d fr β'=>∀v G' H',Mov (some b) H H'->H' b=some (.lst [.int β'])->Same G G'->Same G' H'->(∀c,Mx H c->G c=none->G' c=none)->FV K H G' H' fr d v->Q v H'
 | .bad=>False
structure HasB (P:Program)(w:World)(K:PySem.W.Frag)(mg:Str->Option Value)(base:Heap)(x:Str)(ps:List Str)(k:Nat)(F:List D->Int->FB):Prop where
 ex:∃f fd,mg x=some (.ref f)/\PySem.W.keepIn K (.ref f)=true/\Binds K fd ps []/\FnOk P w K mg base (CXr P w) k f fd ps (spB K (ps.length - 1) F)
 len:∀ds β,F ds β≠.bad->ds.length=ps.length - 1
def isBx (vs:List Nv)(i:Nat):Bool:=match vs[i]? with
 |some .bx=>true
 |_=>false
def cbV (i:Nat)(F:List D->Int->FB)(fr:VF (List D)):VF D:=fun vs β=>if isBx vs i=true then (fr vs β).bnd fun ds β1=>match F ds β1 with
 | .ok d _ β2=>.ok d β2
 | .bad=>.bad else .bad
def cbW (i:Nat)(F:List D->Int->FB)(fr:VF (List D)):VF D:=fun vs β=>if isBx vs i=true then (fr vs β).bnd fun ds β1=>match F ds β1 with
 | .ok d true β2=>.ok d β2
 |_=>.bad else .bad
section
variable {X:Cx}{Γ:Fx}{E:XK}{e a b c:Expr}{f fa fb fc:VF D}{L La Lb:List Nat}{md ma mb mc:Md}{pos:Pos}{K:PySem.W.Frag}{es:List Expr}{fr:VF (List D)}
theorem isBx_eq {env:En}{i:Nat}(h:isBx (vl env) i=true):env[i]? =some .bx:=by
 unfold isBx at h
 split at h
 ·exact vl_bx (by assumption)
 ·cases h
theorem br_frz1 {env:En}{i j:Nat}{d:D}(h:(frz1 env i)[j]? =some (.br d)):env[j]? =some (.br d):=by
 unfold frz1 at h
 split at h
 ·rename_i d' e
  by_cases z:i=j
  ·subst z
   rw [List.getElem?_set_self (List.getElem?_eq_some_iff.mp e).1] at h;cases h
  ·rw [List.getElem?_set_ne z] at h;exact h
 ·exact h
theorem br_frz {L:List Nat}{env:En}{j:Nat}{d:D}(h:(frz L env)[j]? =some (.br d)):env[j]? =some (.br d):=by
 unfold frz at h
 induction L generalizing env with
 |nil=>exact h
 |cons i L ih=>exact br_frz1 (ih h)
theorem SR.calledB {p:Addr}{β β':Int}{G1 H1 G2 H2:Hp}{σ:St}{env:En}(I1:SR Γ (some p) G1 H1 σ env β)(h:Mov (some p) H1 H2)(hp:H2 p=some (.lst [.int β']))(g:Same G1 G2)(s:Same G2 H2)(n:∀b,Mx H1 b->G1 b=none->G2 b=none):SR Γ (some p) G2 H2 σ env β':=by
 obtain⟨b1,b2,b3⟩:=I1.box p rfl
 refine⟨s,I1.old.trans g,fun b n1 n2=>n b (I1.thereM n1) (I1.new b n1 n2),fun b o e np=>h b o (I1.keep b o e np) fun z=>?_,fun b hb=>?_,I1.fix,fun b e=>?_,I1.len,fun i t e=>?_,I1.sep⟩
 ·cases z
  rcases b3 with b3 |b3
  ·exact np b3
  ·rw [e] at b3;cases b3
 ·by_cases z:p=b
  ·subst z;exact Mx.lst hp
  ·exact (I1.pin b hb).same fun o q=>h b o q fun y=>z (Option.some.inj y)
 ·cases e
  exact⟨hp,n p (Mx.lst b1) b2,b3⟩
 ·have q:=I1.slot i t e
  cases t with
  |no=>trivial
  |fz d=>obtain⟨v,h1,h2⟩:=q;exact⟨v,h1,h2.mono g⟩
  |ow d=>
   obtain⟨c,h1,h2,h3,h4,h5⟩:=q
   exact⟨c,h1,h2,n c h5.mx h3,h4,h5.mono g fun o q=>h c o q h4⟩
  |bx=>exact q
  |br d=>obtain⟨b1,c,h1,h4,hpp,h5⟩:=q;exact⟨b1,c,h1,h4,hpp,h5.mono g fun o q=>h c o q h4⟩
theorem cb_core {F:List D->Int->FB}{ps:List Str}{Q:VK}{B:Option Addr}{G H:Hp}{σ:St}{env:En}{β:Int}{i:Nat}{p:Addr}(I:SR Γ B G H σ env β)(hK:X.K=Γ.K)(hp:B=some p){wv:Bool}
  (h:Out Γ E (fr (vl env) β) fun ds β1=>Out Γ E (match F ds β1 with
   | .ok d true β2=>.ok d β2
   | .ok d false β2=>if wv=true then .bad else .ok d β2
   | .bad=>.bad) fun d β'=>∀v G' H',SR Γ B G' H' σ (frz L env) β'->Same G G'->Mov B H H'->VO Γ.K B H G' H' (if wv=true then .w else .v) d v->Q v H') (hl:∀ds β,F ds β≠.bad->ds.length=ps.length - 1) :
  aT Γ E fr L σ H fun vs H1=>spB X.K (ps.length - 1) F (.ref p :: vs) H1 Q E:=by
 subst hp
 refine⟨env,G,_,β,I,h.imp fun ds β1 k vs G1 H1 I1 s1 m1 r=>?_⟩
 obtain⟨b1,b2,b3⟩:=I1.box p rfl
 refine⟨p,vs,G1,ds,β1,rfl,b1,b2,I1.sub,hl ds β1 fun z=>by rw [z] at k;exact k,by rw [hK];exact r,?_⟩
 cases q:F ds β1 with
 |bad=>rw [q] at k;exact k
 |ok d fr' β2=>
  rw [q] at k
  intro v G' H' hh hb hg hs hn fv
  have I2:=I1.calledB hh hb hg hs hn
  cases fr' with
  |true=>
   obtain⟨c,rfl,p1,p2,p3⟩:∃a,v=.ref a/\H1 a=none/\G' a=none/\Own X.K G' H' a d:=fv
   rw [hK] at p3
   have hp:=back_none m1 I1.boxThere p1
   cases wv with
   |true=>exact k _ G' H' I2 (s1.trans hg) (m1.trans hh) ⟨c,rfl,hp,p2,p3⟩
   |false=>
    obtain⟨q1,q2,q3,q4⟩:=I1.fresh p1
    obtain⟨G3,I3,s3,r3⟩:=I2.letIn q1 p2 q3 q4 p3
    exact k _ G3 H' I3 ((s1.trans hg).trans s3) (m1.trans hh) r3
  |false=>
   cases wv with
   |true=>exact k.elim
   |false=>
    have fv:Rp X.K G' v d:=fv
    rw [hK] at fv
    exact k _ G' H' I2 (s1.trans hg) (m1.trans hh) fv
theorem cb_env {F:List D->Int->FB}{ps:List Str}{Q:VK}{i:Nat}{σ:St}{H:Hp}(hK:X.K=Γ.K){wv:Bool}(hl:∀ds β,F ds β≠.bad->ds.length=ps.length - 1)(h:pT Γ E (if wv=true then cbW i F fr else cbV i F fr) L (if wv=true then .w else .v) σ H Q) :
  tVar i σ H fun x H1=>aT Γ E fr L σ H1 fun vs H2=>spB X.K (ps.length - 1) F (x :: vs) H2 Q E:=by
 obtain⟨env,G,B,β,I,o⟩:=h
 have hi:isBx (vl env) i=true:=by
  by_cases hi:isBx (vl env) i=true
  ·exact hi
  ·exfalso
   cases wv with
   |true=>simp only [if_true] at o;unfold cbW at o;rw [if_neg hi] at o;exact o
   |false=>simp only [Bool.false_eq_true,if_false] at o;unfold cbV at o;rw [if_neg hi] at o;exact o
 obtain⟨p,e1,e2⟩:=I.slot i _ (isBx_eq hi)
 refine⟨.ref p,e1,cb_core (i:=i) (ps:=ps) I hK e2 (wv:=wv) ?_ hl⟩
 cases wv with
 |true=>
  simp only [if_true] at o ⊢
  unfold cbW at o
  rw [if_pos hi] at o
  refine o.bnd.imp fun ds β1 h=>?_
  cases q:F ds β1 with
  |bad=>rw [q] at h;exact h
  |ok d b β2=>rw [q] at h;cases b <;> exact h
 |false=>
  simp only [Bool.false_eq_true,if_false] at o ⊢
  unfold cbV at o
  rw [if_pos hi] at o
  refine o.bnd.imp fun ds β1 h=>?_
  cases q:F ds β1 with
  |bad=>rw [q] at h;exact h
  |ok d b β2=>rw [q] at h;cases b <;> exact h
theorem se_cb {x y:Str}{ps:List Str}{k:Nat}{F:List D->Int->FB}{p np:Pos}(i:Nat)(hf:HasB X.prog X.w X.K X.mg X.base x ps k F)(hr:Room k X.A)(hx:Passes (CXr X.prog X.w) X E)(hK:X.K=Γ.K)(hg:Gl X x)(ha:SA X Γ E es fr L)(hN:X.N[i]? =some y:=by rfl)(hv:Vis X.env.scope y:=by first |exact Or.inl rfl |exact Or.inr (Or.inl rfl) |exact Or.inr (Or.inr rfl))(hd:(y == ("__debug__":Str))=false:=by decide)
  (hcd:(y == ("__classdict__":Str))=false:=by decide) (hdb:(x == ("__debug__":Str))=false:=by decide)
  (he:starEach (.Name y np :: es) X.env=(false,eval (.Name y np) X.env) :: starEach es X.env:=by rfl) (hpl:(backTo pos (starEach es X.env)).any (·.1)=false:=by rfl):SE X Γ E (.Call (.Name x p) (.Name y np :: es) [] pos) (cbV i F fr) L .v:=by
 obtain⟨f,fd,hm,hk,hb,hF⟩:=hf.ex
 refine PE.post' (pe_call (dvs:=[]) hF hr hg hm hk hb .nil hx (pa_cons (pe_var hN hv hd hcd) ha he) hdb he hpl) fun σ H Q h=>?_
 have:=cb_env (Q:=Q) (wv:=false) (ps:=ps) hK hf.len (by simpa using h)
 show tVar i σ H fun x H1=>aT Γ E fr L σ H1 fun vs H2=>spB X.K (ps.length - 1) F ((x :: vs) ++ []) H2 Q E
 simpa using this
def boxZ:D->Option Int
 | .list [.int z]=>some z
 |_=>none
theorem boxZ_eq {d:D}{z:Int}(h:boxZ d=some z):d=.list [.int z]:=by
 unfold boxZ at h
 split at h
 ·cases h;rfl
 ·cases h
def ctV (f0:VF D)(F:List D->Int->FB)(n:Int):VF D:=fun vs β=>(f0 vs β).bnd fun d0 β1=>match boxZ d0 with
 |some z=>(match F [.int n] z with
  | .ok d _ _=>.ok d β1
  | .bad=>.bad)
 |none=>.bad
def clrB (env:En):En:=env.map fun s=>match s with
 | .bx=>.no
 |s=>s
theorem clr_at {env:En}{i:Nat}{s:Sl}(h:(clrB env)[i]? =some s)(n:s≠.no):env[i]? =some s/\s≠.bx:=by
 unfold clrB at h
 rw [List.getElem?_map] at h
 cases e:env[i]? with
 |none=>rw [e] at h;cases h
 |some t=>
  rw [e] at h
  have h:=Option.some.inj h
  cases t with
  |bx=>exact absurd h.symm n
  |no=>exact absurd h.symm n
  |fz d=>subst h;exact⟨rfl,fun z=>by cases z⟩
  |ow d=>subst h;exact⟨rfl,fun z=>by cases z⟩
  |br d=>subst h;exact⟨rfl,fun z=>by cases z⟩
def mSetB (i:Nat)(L:List Nat)(f:VF D):SF:=fun env β=>toS (f (vl env) β) fun d _=>match boxZ d with
 |some z=>.nx ((clrB (frz L env)).set i .bx) z
 |none=>.bad
theorem ss_setB {i:Nat}{x:Str}{pos':Pos}(hbx:Γ.bx=none)(he:SE X Γ E e f L .w)(hN:X.N.Nodup)(hi:X.N[i]? =some x:=by rfl)(hx:Loc X.env.scope x:=by first |exact Or.inl rfl |exact Or.inr rfl)(hs:swapsWith e (some (.Name x pos')) pos.line X.env=pure false:=by rfl)(hf:X.fn x=true\/X.env.scope.names.lookup x=some .local:=by first |exact .inl rfl |exact .inr rfl |assumption) :
  SS X Γ E (.Assign [.Name x pos'] e pos) (mSetB i L f):=by
 refine PS.post (ps_set hN hi hx he hs hf) fun N σ H ⟨env,G,B,β,I,o⟩=>?_
 refine⟨env,G,B,β,I,toS_out o fun d β' k v G' H' I' s' m' vo=>?_⟩
 cases q:boxZ d with
 |none=>rw [q] at k;exact k.elim
 |some z=>
  rw [q] at k
  obtain rfl:=boxZ_eq q
  obtain⟨p,rfl,h1,h2,xs,h3,r⟩:=vo
  have hx2:H' p=some (.lst [.int z]):=by
   cases r with
   |cons r1 r2=>
    cases r1
    cases r2
    exact h3
  obtain⟨q1,q2,q3,q4⟩:=I.fresh h1
  refine k (some p) G' H' _ ⟨I'.sub,I'.old,I'.new,I'.keep,I'.pin,fun b e=>(by rw [hbx] at e;cases e),fun b e=>?_,?_,fun j t e=>?_,fun j j' c d1 d2 e1 e2 e3 e4=>?_⟩ s'
  ·cases e;exact⟨hx2,h2,.inr q1⟩
  ·rw [List.length_set,List.length_set];unfold clrB;rw [List.length_map];exact I'.len
  ·by_cases hj:j=i
   ·subst hj
    by_cases hl:j < (clrB (frz L env)).length
    ·rw [List.getElem?_set_self hl] at e
     cases e
     refine⟨p,?_,rfl⟩
     rw [List.getElem?_set_self]
     rw [I'.len];unfold clrB at hl;simpa using hl
    ·rw [List.getElem?_eq_none (by rw [List.length_set];omega)] at e;cases e
   ·rw [List.getElem?_set_ne (Ne.symm hj)] at e ⊢
    by_cases hn:t=.no
    ·subst hn;trivial
    ·obtain⟨e1,nb⟩:=clr_at e hn
     have w:=I'.slot j t e1
     cases t with
     |no=>trivial
     |fz d=>exact w
     |bx=>exact absurd rfl nb
     |ow d=>
      obtain⟨a',g1,g2,g3,g4,g5⟩:=w
      exact⟨a',g1,g2,g3,fun y=>q4 j d (ow_frz e1) (by cases y;exact g1),g5⟩
     |br d=>
      obtain⟨b1,a',g1,g4,hpp,g5⟩:=w
      have e0:env[j]? =some (.br d):=br_frz e1
      obtain⟨_,a2,f1,_,_,f5⟩:=I.slot j _ e0
      rw [g1] at f1;cases f1
      obtain⟨o,ho⟩:=f5.obj
      exact⟨b1,a',g1,fun y=>(by cases y;rw [h1] at ho;cases ho),hpp,g5⟩
  ·have back:∀{j:Nat} {d1:D},((clrB (frz L env)).set i Sl.bx)[j]? =some (.ow d1)->j≠i/\(frz L env)[j]? =some (.ow d1):=fun {j d1} e=>by
    by_cases hj:j=i
    ·subst hj
     by_cases hl:j < (clrB (frz L env)).length
     ·rw [List.getElem?_set_self hl] at e;cases e
     ·rw [List.getElem?_eq_none (by rw [List.length_set];omega)] at e;cases e
    ·rw [List.getElem?_set_ne (Ne.symm hj)] at e
     exact⟨hj,(clr_at e (fun y=>by cases y)).1⟩
   obtain⟨n1,w1⟩:=back e1
   obtain⟨n2,w2⟩:=back e2
   rw [List.getElem?_set_ne (Ne.symm n1)] at e3
   rw [List.getElem?_set_ne (Ne.symm n2)] at e4
   exact I'.sep j j' c d1 d2 w1 w2 e3 e4
end
section
variable {P:Program}{w:World}{K:PySem.W.Frag}{mg:Str->Option Value}{base:Heap}{ca:Str->Addr}
def finB:SO->FB
 | .nx _ β=>.ok .none false β
 | .rt d fr β=>.ok d fr β
 |_=>.bad
def argB (n:Nat)(ds:List D):En:=.bx :: ds.map Sl.fz ++ List.replicate (n - 1 - ds.length) .no
def runB (n p:Nat)(m:SF):List D->Int->FB:=fun ds β=>if ds.length=p then finB (m (argB n ds) β) else .bad
abbrev Fx.fb (K:PySem.W.Frag)(H G:Hp)(ca:Str->Addr)(b:Addr):Fx:=⟨K,H,G,[b],ca,fun _=>false,some b⟩
theorem SR.startB {H G:Hp}{N:List Str}{b:Addr}{vs:List V}{ds:List D}{β:Int}(s:Same G H)(hb:H b=some (.lst [.int β]))(gb:G b=none)(r:Rps K G vs ds)(hn:ds.length + 1<=N.length):SR (Fx.fb K H G ca b) (some b) G H (L2.start N (.ref b :: vs)) (argB N.length ds) β:=by
 have hl:=r.len
 refine⟨s,Same.refl _,fun c _ h=>h,fun c o h _=>h,fun c h=>?_,fun c h=>h,fun c h=>?_,?_,fun i t e=>?_,fun i j a d e h=>?_⟩
 ·have:c=b:=by simpa using h
  subst this;exact Mx.lst hb
 ·cases h;exact⟨hb,gb,.inl (by simp)⟩
 ·unfold L2.start argB;simp;omega
 ·cases i with
  |zero=>
   unfold argB at e
   cases e
   exact⟨b,rfl,rfl⟩
  |succ i=>
   unfold argB at e
   have e:(ds.map Sl.fz ++ List.replicate (N.length - 1 - ds.length) Sl.no)[i]? =some t:=by simpa using e
   by_cases hi:i < ds.length
   ·rw [List.getElem?_append_left (by simpa using hi),List.getElem?_map,List.getElem?_eq_getElem hi] at e
    cases e
    obtain⟨x,hx,rx⟩:=r.at (List.getElem?_eq_getElem hi)
    refine⟨x,?_,rx⟩
    unfold L2.start
    have hi':i < vs.length:=by rw [hl];exact hi
    rw [List.getElem?_append_left (by simp;exact hi'),List.getElem?_map,List.getElem?_cons_succ,hx];rfl
   ·rw [List.getElem?_append_right (by simpa using hi),List.getElem?_replicate] at e
    split at e
    ·cases e;trivial
    ·cases e
 ·unfold argB at h
  have hm:=List.mem_of_getElem? h
  rcases List.mem_cons.mp hm with z |hm
  ·cases z
  rcases List.mem_append.mp hm with z |z
  ·obtain⟨_,_,z⟩:=List.mem_map.mp z;cases z
  ·have:=List.eq_of_mem_replicate z;cases this
theorem fnB_pure {x qual:Str}{st:Stmt}{f:Addr}{fd:FuncData}{N:List Str}{ps:List Str}{k:Nat}{m:SF}(F:Fun K x qual st f fd)(S:FnScope N ps (defScope st))(hp:1<=ps.length)
  (hbody:∀(cdv:Value) (A:Around) (outer:List Env) (s:Shared) (H G:Hp) (b:Addr) (E:XK),Room k (A.deeper (envOfC qual (defScope st) s.heap.objs.size f cdv))->SSs (cxOf (CXr P w) P w K mg base N qual (defScope st) f cdv A outer s H E) (Fx.fb K H G ca b) E (defBody st) m) :
  FnOk P w K mg base (CXr P w) (k + 1) f fd ps (spB K (ps.length - 1) (runB N.length (ps.length - 1) m)):=by
 have hpn:ps.length<=N.length:=by have:=congrArg List.length S.pre;rw [List.length_take] at this;omega
 refine F.okR S (fun vs H Q E h=>?_) (fun cdv A outer s H vs Q E hr h=>?_)
 ·obtain⟨b,rest,G,ds,β,rfl,hb,gb,sG,hl,r,_⟩:=h
  rw [List.length_cons,r.len];omega
 ·obtain⟨b,rest,G,ds,β,rfl,hb,gb,sG,hl,r,h⟩:=h
  refine⟨_,hbody cdv A outer s H G b E hr,?_⟩
  have I:=SR.startB (ca:=ca) (N:=N) sG hb gb r (by omega)
  refine⟨_,G,some b,β,I,?_⟩
  unfold runB at h
  rw [if_pos hl] at h
  have fin':∀{B G' H' σ env β},SR (Fx.fb K H G ca b) B G' H' σ env β->Mov (some b) H H'/\H' b=some (.lst [.int β]):=fun J=>by
   have e:=J.fix b rfl
   refine⟨fun c o ec n=>J.keep c o ec fun z=>n ?_,(J.box b e).1⟩
   have:c=b:=by simpa using z
   rw [this]
  cases q:m (argB N.length ds) β with
  |nx env β'=>rw [q] at h;exact fun B G' H' σ J s'=>h .non G' H' (fin' J).1 (fin' J).2 s' J.sub (fun c h1 h2=>J.new c h1 h2) Rp.non
  |bk env β'=>rw [q] at h;exact h.elim
  |ct env β'=>rw [q] at h;exact h.elim
  |rt d fr β'=>
   rw [q] at h
   refine fun B G' H' σ env v J s' rv=>h v G' H' (fin' J).1 (fin' J).2 s' J.sub (fun c h1 h2=>J.new c h1 h2) ?_
   cases fr with
   |true=>exact rv
   |false=>exact rv
  |exc c=>rw [q] at h;exact h.elim
  |bad=>rw [q] at h;exact h.elim
theorem runB_len {n p:Nat}{m:SF}(ds:List D)(β:Int)(h:runB n p m ds β≠.bad):ds.length=p:=by
 unfold runB at h
 by_cases hl:ds.length=p
 ·exact hl
 ·rw [if_neg hl] at h;exact absurd rfl h
end
end L2

end

section
namespace L2
open PySem PySem.Spec PyProof.Rows
def prD (p:Pr):D:=.tuple [.int p.1,.int p.2]
def pairP:D->Option Pr
 | .tuple [.int a,.int b]=>some (a,b)
 |_=>none
theorem pairP_eq {d:D}{p:Pr}(h:pairP d=some p):d=prD p:=by
 unfold pairP at h
 split at h
 ·cases h;rfl
 ·cases h
theorem pairP_prD (p:Pr):pairP (prD p)=some p:=rfl
def pairsP:List D->Option (List Pr)
 | []=>some []
 |d :: ds=>match pairP d,pairsP ds with
  |some p,some ps=>some (p :: ps)
  |_,_=>none
theorem pairsP_eq:∀{ds:List D} {ps:List Pr},pairsP ds=some ps->ds=ps.map prD
 | [],ps,h=>by cases h;rfl
 |d :: ds,ps,h=>by
  unfold pairsP at h
  split at h
  ·rename_i p qs h1 h2;cases h;rw [pairP_eq h1,pairsP_eq h2];rfl
  ·cases h
theorem pairsP_map:∀ps:List Pr,pairsP (ps.map prD)=some ps
 | []=>rfl
 |p :: ps=>by
  show (match pairP (prD p),pairsP (ps.map prD) with
   |some p,some ps=>some (p :: ps)
   |_,_=>none)=_
  rw [pairP_prD,pairsP_map ps]
section
variable {K:PySem.W.Frag}{X:Cx}{G H:Hp}
theorem Rps.pairs:∀{ps:List Pr} {xs:List V},Rps K G xs (ps.map prD)->PairsV K G xs ps
 | [],_,.nil=>.nil
 |p :: ps,_,.cons r t=>by
  cases r with
  |tup hq r=>
   cases r with
   |cons r1 r=>
    cases r with
    |cons r2 r=>cases r;cases r1;cases r2;exact .cons ⟨_,rfl,hq⟩ (Rps.pairs t)
theorem PairsV.rps:∀{ps:List Pr} {xs:List V},PairsV K G xs ps->Rps K G xs (ps.map prD)
 | [],_,.nil=>.nil
 |p :: ps,_,.cons r t=>by
  obtain⟨a,rfl,q⟩:=r
  exact .cons (.tup q (.cons (.int _) (.cons (.int _) .nil))) (PairsV.rps t)
def smB (p:Pr):Bool:=decide (0<=p.1) && decide (p.1 < 8) && decide (0<=p.2) && decide (p.2 < 8)
theorem smB_eq {p:Pr}(h:smB p=true):Sm p:=by
 unfold smB at h
 simp only [Bool.and_eq_true,decide_eq_true_eq] at h
 exact⟨⟨h.1.1.1,h.1.1.2⟩,h.1.2,h.2⟩
noncomputable def gSortSet (d:D):Option D:=match seqD d with
 |some ds=>(match pairsP ds with
  |some ps=>if ps.all smB=true/\(OM.filt 8 (OM.Mem ps)).length < 64 then some (.list ((OM.filt 8 (OM.Mem ps)).map prD)) else none
  |none=>none)
 |none=>none
variable {Γ:Fx}{E:XK}{e a b c:Expr}{f fa fb fc:VF D}{L La Lb:List Nat}{md ma mb mc:Md}{pos:Pos}
theorem se_sortset {p1 p2 pos2:Pos}(hc:X.calm=true)(hu:X.A.units + 64 < cLine)(hK:X.K=Γ.K)(hg:Gl X "sorted")(hm:X.mg "sorted"=none)(hg2:Gl X "set")(hm2:X.mg "set"=none)(ha:SE X Γ E a fa La ma)
  (he:starEach [a] X.env=(false,eval a X.env) :: starEach [] X.env:=by rfl)
  (he2:starEach [.Call (.Name "set" p2) [a] [] pos2] X.env=(false,eval (.Call (.Name "set" p2) [a] [] pos2) X.env) :: starEach [] X.env:=by rfl) :
  SE X Γ E (.Call (.Name "sorted" p1) [.Call (.Name "set" p2) [a] [] pos2] [] pos) (f1 fa gSortSet) La .w:=by
 refine PE.post' (pe_callB (call_sortset hc) hg hm (by decide +kernel) (pa_cons (pe_callTy (call_set hc hu) hg2 hm2 (by decide +kernel) (pa_cons ha pa_nil he) (by decide) (by decide) he) pa_nil he2) (by decide) (by decide) he2) fun σ H Q ⟨env,G,B,β,I,o⟩=>?_
 refine pr1_run (r:=fun x H1 Q=>rSet X.prog X.w X.K [x] H1 fun y H2=>rSortSet X.prog X.w X.K [y] H2 Q) ?_ I o
 intro B G H x dx d Q s hB bx e k
 rw [hK]
 unfold gSortSet at e
 cases q:seqD dx with
 |none=>rw [q] at e;cases e
 |some ds=>
  rw [q] at e
  dsimp only at e
  cases q2:pairsP ds with
  |none=>rw [q2] at e;cases e
  |some ps=>
   rw [q2] at e
   dsimp only at e
   split at e
   ·rename_i hh
    obtain⟨h1,h2⟩:=hh
    cases e
    obtain⟨p,xs,rfl,hq,r⟩:=bx.seq q s
    rw [pairsP_eq q2] at r
    have pv:=(r.mono s).pairs
    have sm:∀p,p∈ps->Sm p:=fun p hp=>smB_eq (List.all_eq_true.mp h1 p hp)
    refine⟨p,xs,ps,rfl,hq,pv,sm,fun S qs hS hpv nd hm=>?_⟩
    have qsl:qs.length < 64:=by
     have:(pq qs).length<=(OM.filt 8 (OM.Mem ps)).length:=OM.len_le nd fun x hx=>by
      have hx':=(hm x).mp hx
      have hs:=sm x hx'
      exact OM.mem_filt.mpr ⟨⟨⟨hs.1.1,hs.1.2⟩,hs.2.1,hs.2.2⟩,hx'⟩
     simp only [List.length_map] at this
     omega
    have xS:=Ext.own s (o:=SetO X.prog X.w S qs) hS
    refine⟨S,qs,rfl,upd_same,hpv.grow (Grow.new hS),fun p hp=>sm p ((hm p).mp hp),nd,qsl,fun l ws rs hl hpw hr hmem=>?_⟩
    have ers:rs=OM.filt 8 (OM.Mem ps):=OM.ris_ext hr (OM.ris_filt _ _) fun x=>by
     rw [hmem x,hm x,OM.mem_filt]
     constructor
     ·intro hx;have hs:=sm x hx;exact⟨⟨⟨hs.1.1,hs.1.2⟩,hs.2.1,hs.2.2⟩,hx⟩
     ·intro hx;exact hx.2
    subst ers
    have hlH:H l=none:=by
     by_cases z:l=S
     ·subst z;exact hS
     ·rw [upd_ne z] at hl;exact hl
    have lS:l≠S:=fun z=>by subst z;rw [upd_same] at hl;cases hl
    have hh:Same H (upd (upd H S (SetO X.prog X.w S qs)) l (.lst ws)):=(Same.new hS).trans (Same.new hl)
    have xx:=Ext.tups s hh
    refine k _ _ _ xx ⟨l,rfl,hlH,?_,ws,upd_same,?_⟩
    ·unfold tupG
     rw [s.free hlH,upd_same]
     exact if_neg fun y=>y
    ·refine PairsV.rps (Paired.mapP hpw fun v p ⟨a,ea,qa⟩=>⟨a,ea,tupG_sqT (s.trans hh) ?_⟩)
     exact qa.grow (Grow.new hl)
   ·cases e
end
end L2

end

section
namespace L2
open PySem PySem.Spec PyProof.Rows
section
variable {K:PySem.W.Frag}{X:Cx}{G H:Hp}{Γ:Fx}{E:XK}{e a b c:Expr}{f fa fb fc:VF D}{L La Lb:List Nat}{md ma mb mc:Md}{pos apos cpos np:Pos}
def gListRng:D->Option D
 | .int n=>if 0<=n/\n<=1000 then some (.list (intsD 0 n.toNat)) else none
 |_=>none
theorem rps_intsD (n:Nat):Rps K G ((List.range n).map fun (i:Nat)=>V.int (i:Int)) (intsD 0 n):=by
 have key:∀l:List Nat,Rps K G (l.map fun (i:Nat)=>V.int (i:Int)) (l.map fun (k:Nat)=>PyData.int (0 + k)):=by
  intro l
  induction l with
  |nil=>exact .nil
  |cons x l ih=>exact .cons (by show Rp K G (.int (x:Int)) (.int (0 + (x:Int)));rw [Int.zero_add];exact .int _) ih
 exact key _
theorem se_listrng {p1 p2 pos2:Pos}(hc:X.calm=true)(hg:Gl X "list")(hm:X.mg "list"=none)(hg2:Gl X "range")(hm2:X.mg "range"=none)(ha:SE X Γ E a fa La ma)
  (he:starEach [a] X.env=(false,eval a X.env) :: starEach [] X.env:=by rfl)
  (he2:starEach [.Call (.Name "range" p2) [a] [] pos2] X.env=(false,eval (.Call (.Name "range" p2) [a] [] pos2) X.env) :: starEach [] X.env:=by rfl) :
  SE X Γ E (.Call (.Name "list" p1) [.Call (.Name "range" p2) [a] [] pos2] [] pos) (f1 fa gListRng) La .w:=by
 refine PE.post' (pe_callTy (call_list_rng hc) hg hm (by decide +kernel) (pa_cons (pe_callTy call_rng hg2 hm2 (by decide +kernel) (pa_cons ha pa_nil he) (by decide) (by decide) he) pa_nil he2) (by decide) (by decide) he2) fun σ H Q ⟨env,G,B,β,I,o⟩=>?_
 refine pr1_run (r:=fun x H1 Q=>∃n:Int,[x]= [.int n]/\∀p,H1 p=none->(fun (y:V) (H2:Hp)=>∃(p:Addr) (n:Int),[y]= [V.ref p]/\H2 p=some (.rng 0 n)/\0<=n/\n<=1000/\∀l,H2 l=none->Q (.ref l) (upd H2 l (.lst ((List.range n.toNat).map fun (i:Nat)=>V.int (i:Int))))) (V.ref p) (upd H1 p (.rng 0 n))) ?_ I o
 intro B G H x dx d Q s hB bx e k
 cases dx with
 |int n=>
  obtain rfl:=bx.int
  simp only [gListRng] at e
  split at e
  ·rename_i hh
   cases e
   refine⟨n,rfl,fun p hp=>⟨p,n,rfl,upd_same,hh.1,hh.2,fun l hl=>?_⟩⟩
   have hlp:l≠p:=fun z=>by subst z;rw [upd_same] at hl;cases hl
   have hlH:H l=none:=by rw [upd_ne hlp] at hl;exact hl
   have x1:=Ext.own s (o:=.rng 0 n) hp
   have x2:=Ext.own x1.gh (o:=.lst ((List.range n.toNat).map fun (i:Nat)=>V.int (i:Int))) hl
   exact k _ _ _ (x1.trans x2) ⟨l,rfl,hlH,s.free hlH,_,upd_same,rps_intsD _⟩
  ·cases e
 |_=>cases e
def gAbs:D->Option D
 | .int i=>some (.int (if i < 0 then -i else i))
 |_=>none
theorem p_abs:Pr1 K (fun x H Q=>∃i,[x]= [.int i]/\Q (.int (if i < 0 then -i else i)) H) gAbs .v:=by
 intro B G H x dx d Q s hB bx e k
 cases dx with
 |int i=>cases e;obtain rfl:=bx.int;exact⟨i,rfl,k _ G H (Ext.refl s) (.int _)⟩
 |_=>cases e
noncomputable def gSortP (d:D):Option D:=match d with
 | .list ds=>(match pairsP ds with
  |some ps=>if ps.all smB=true/\ps.Nodup/\ps.length < 64 then some (.list ((OM.filt 8 (OM.Mem ps)).map prD)) else none
  |none=>none)
 |_=>none
theorem p_sortP:Pr1 K (fun x=>rSorted K [x]) gSortP .w:=by
 intro B G H x dx d Q s hB bx e k
 cases dx with
 |list ds=>
  simp only [gSortP] at e
  cases q2:pairsP ds with
  |none=>rw [q2] at e;cases e
  |some ps=>
   rw [q2] at e
   dsimp only at e
   split at e
   ·rename_i hh
    obtain⟨h1,h2,h3⟩:=hh
    cases e
    obtain⟨p,xs,rfl,hq,r⟩:=bx.list s
    rw [pairsP_eq q2] at r
    have pv:=(r.mono s).pairs
    have sm:∀p,p∈ps->Sm p:=fun p hp=>smB_eq (List.all_eq_true.mp h1 p hp)
    refine⟨p,xs,ps,rfl,.inl hq,pv,sm,h2,h3,fun l ws rs hl hpw hr hmem=>?_⟩
    have ers:rs=OM.filt 8 (OM.Mem ps):=OM.ris_ext hr (OM.ris_filt _ _) fun x=>by
     rw [hmem x,OM.mem_filt]
     constructor
     ·intro hx;have hs:=sm x hx;exact⟨⟨⟨hs.1.1,hs.1.2⟩,hs.2.1,hs.2.2⟩,hx⟩
     ·intro hx;exact hx.2
    subst ers
    have hh:Same H (upd H l (.lst ws)):=Same.new hl
    refine k _ _ _ (Ext.tups s hh) ⟨l,rfl,hl,?_,ws,upd_same,?_⟩
    ·unfold tupG
     rw [s.free hl,upd_same]
     exact if_neg fun y=>y
    ·refine PairsV.rps (Paired.mapP hpw fun v p ⟨a,ea,qa⟩=>⟨a,ea,tupG_sqT (s.trans hh) ?_⟩)
     exact qa.grow (Grow.new hl)
   ·cases e
 |_=>cases e
def popD (ds:List D)(k:D):Option (D×List D):=match k with
 | .int i=>if -(2 ^ 63)<=i/\i < 2 ^ 63 then (match seqIndex? i ds.length with
  |some n=>(match ds[n]? with
   |some d=>some (d,ds.eraseIdx n)
   |none=>none)
  |none=>none) else none
 |_=>none
def mAppPop (i j:Nat)(L:List Nat)(f:VF D):SF:=fun env β=>if isOL env[i]? =true/\isOL env[j]? =true/\i≠j then toS (f (vl env) β) fun k β'=>match (frz L env)[j]? with
 |some (.ow (.list es))=>(match popD es k with
  |some (d,es')=>onL i ((frz L env).set j (.ow (.list es'))) β' fun ds=>if ds.length < sizeLine then some (ds ++ [d]) else none
  |none=>.bad)
 |_=>.bad else .bad
theorem Rps.eraseIdx:∀{xs:List V} {ds:List D} (i:Nat),Rps K G xs ds->Rps K G (xs.eraseIdx i) (ds.eraseIdx i)
 |_,_,_,.nil=>.nil
 |_,_,0,.cons _ t=>t
 |_,_,i + 1,.cons r t=>.cons r (Rps.eraseIdx i t)
theorem ss_appPop (i j:Nat){x y:Str}{np2 apos2 cpos2:Pos}(hb:∀j,Γ.br j=false)(he:SE X Γ E e f L md)(hN:X.N[i]? =some x:=by rfl)(hv:Vis X.env.scope x:=by first |exact Or.inl rfl |exact Or.inr (Or.inl rfl) |exact Or.inr (Or.inr rfl))(hd:(x == ("__debug__":Str))=false:=by decide)
  (hcd:(x == ("__classdict__":Str))=false:=by decide)
  (hN2:X.N[j]? =some y:=by rfl) (hv2:Vis X.env.scope y:=by first |exact Or.inl rfl |exact Or.inr (Or.inl rfl) |exact Or.inr (Or.inr rfl)) (hd2:(y == ("__debug__":Str))=false:=by decide)
  (hcd2:(y == ("__classdict__":Str))=false:=by decide)
  (hbase:attributeBase (.Name x np) "append" X.env (eval (.Name x np) X.env)=eval (.Name x np) X.env:=by rfl)
  (hfew:((backTo cpos (starEach [.Call (.Attribute (.Name y np2) "pop" apos2) [e] [] cpos2] X.env)).all (fun x=> !x.1) && (backToKw cpos (keywordEach [] X.env)).all (fun x=>x.1.isSome)
   && decide ([Expr.Call (.Attribute (.Name y np2) "pop" apos2) [e] [] cpos2].length + ([]:List Keyword).length + (if ([]:List Keyword).isEmpty then 0 else 1) < 30))=true:=by rfl)
  (hline:(apos.endLine == cpos.line)=true:=by rfl) (hs:starEach [.Call (.Attribute (.Name y np2) "pop" apos2) [e] [] cpos2] X.env=(false,eval (.Call (.Attribute (.Name y np2) "pop" apos2) [e] [] cpos2) X.env) :: starEach [] X.env:=by rfl)
  (hbase2:attributeBase (.Name y np2) "pop" X.env (eval (.Name y np2) X.env)=eval (.Name y np2) X.env:=by rfl)
  (hfew2:((backTo cpos2 (starEach [e] X.env)).all (fun x=> !x.1) && (backToKw cpos2 (keywordEach [] X.env)).all (fun x=>x.1.isSome)
   && decide ([e].length + ([]:List Keyword).length + (if ([]:List Keyword).isEmpty then 0 else 1) < 30))=true:=by rfl)
  (hline2:(apos2.endLine == cpos2.line)=true:=by rfl) (hs2:starEach [e] X.env=(false,eval e X.env) :: starEach [] X.env:=by rfl)
  (hsw:swapsWith (.Call (.Attribute (.Name x np) "append" apos) [.Call (.Attribute (.Name y np2) "pop" apos2) [e] [] cpos2] [] cpos) none pos.line X.env=pure false:=by rfl) :
  SS X Γ E (.Expr (.Call (.Attribute (.Name x np) "append" apos) [.Call (.Attribute (.Name y np2) "pop" apos2) [e] [] cpos2] [] cpos) pos) (mAppPop i j L f):=by
 refine PS.post (ps_expr (pe_bm PySem.F.plainAttrs_list PySem.F.slot_list_append PySem.F.type_list_append mt_append (pe_var hN hv hd hcd)
  (pa_cons (pe_bm PySem.F.plainAttrs_list PySem.F.slot_list_pop PySem.F.type_list_pop mt_popAt (pe_var hN2 hv2 hd2 hcd2) (pa_cons he pa_nil hs2) hbase2 hfew2 hline2 hs2 rfl) pa_nil hs) hbase hfew hline hs rfl) hsw) fun N σ H ⟨env,G,B,β,I,o⟩=>?_
 unfold mAppPop at o
 by_cases hO:isOL env[i]? =true/\isOL env[j]? =true/\i≠j
 case neg=>rw [if_neg hO] at o;exact o.elim
 rw [if_pos hO] at o
 obtain⟨hO1,hO2,hij⟩:=hO
 obtain⟨ds0,q0⟩:=isOL_eq hO1
 obtain⟨es0,w0⟩:=isOL_eq hO2
 obtain⟨p,h1,_,_,_,xs,h5,_⟩:=I.slot i _ q0
 obtain⟨q,k1,_,_,_,ys,k5,_⟩:=I.slot j _ w0
 refine⟨_,h1,.inl ⟨rfl,xs,.inl (.inl h5)⟩,?_⟩
 refine⟨_,k1,.inl ⟨rfl,ys,.inl (.inl k5)⟩,?_⟩
 refine⟨env,G,B,β,I,toS_out o fun kd β' k v G' H' I' s' m' vo=>?_⟩
 cases ej:(frz L env)[j]? with
 |none=>rw [ej] at k;exact k.elim
 |some sj=>
  rw [ej] at k
  cases sj with
  |ow dj=>
   cases dj with
   |list es=>
    dsimp only at k
    cases ep:popD es kd with
    |none=>rw [ep] at k;exact k.elim
    |some pr=>
     obtain⟨d,es'⟩:=pr
     rw [ep] at k
     dsimp only at k
     unfold popD at ep
     cases kd <;> first | (cases ep;done) |skip
     rename_i ii
     dsimp only at ep
     split at ep
     ·rename_i hr
      cases eI:seqIndex? ii es.length with
      |none=>rw [eI] at ep;cases ep
      |some n=>
       rw [eI] at ep
       dsimp only at ep
       cases eD:es[n]? with
       |none=>rw [eD] at ep;cases ep
       |some d0=>
        rw [eD] at ep
        cases ep
        obtain rfl:=(vo.brw I.boxThere).int
        obtain⟨q',g1,_,_,_,zs,g5,g6⟩:=I'.slot j _ ej
        rw [k1] at g1;cases g1
        obtain⟨xv,ex,rx⟩:=g6.at eD
        refine⟨q,zs,ii,n,xv,rfl,rfl,g5,hr.1,hr.2,by rw [g6.len];exact eI,ex,?_⟩
        have I2:=I'.write hb ej k1 (o:=.lst (zs.eraseIdx n)) (d':=.list (es.eraseIdx n)) fun H2 e2 s2=>⟨_,e2,g6.eraseIdx n⟩
        obtain⟨ds,fs,eq,eg,k⟩:=onL_out k
        by_cases hz:ds.length < sizeLine
        case neg=>rw [if_neg hz] at eg;cases eg
        rw [if_pos hz] at eg
        cases eg
        obtain⟨p',f1,_,_,_,us,f5,f6⟩:=I2.slot i _ eq
        rw [h1] at f1;cases f1
        refine⟨p,us,xv,rfl,rfl,f5,by rw [f6.len];exact hz,?_⟩
        exact k B G' _ σ (I2.write hb eq h1 fun H2 e2 s2=>⟨_,e2,f6.snoc rx⟩) s'
     ·cases ep
   |_=>exact k.elim
  |_=>exact k.elim
end
def takeF:List D->Int->FB
 | [.int m],β=>if 0 < m/\m < 1073741824 then .ok (.int (β % m)) false (β / m) else .bad
 |_,_=>.bad
theorem take_ok {ds:List D}{β:Int}(h:takeF ds β≠.bad):∃m,ds= [.int m]/\0 < m/\m < 1073741824:=by
 unfold takeF at h
 split at h
 ·rename_i m
  by_cases hh:0 < m/\m < 1073741824
  ·exact⟨m,rfl,hh.1,hh.2⟩
  ·rw [if_neg hh] at h;exact absurd rfl h
 ·exact absurd rfl h
theorem take_eq {m β:Int}(h0:0 < m)(h1:m < 1073741824):takeF [.int m] β=.ok (.int (β % m)) false (β / m):=if_pos ⟨h0,h1⟩
def constsOf:List Expr->Option (List Int)
 | []=>some []
 | .Constant (.int i) _ _ :: es=>(constsOf es).map fun r=>i :: r
 |_=>none
def cns (ns:List Int):VF (List D):=fun _ β=>.ok (ns.map PyData.int) β
theorem sa_consts {X:Cx}{Γ:Fx}{E:XK}:∀{es:List Expr} {ns:List Int},constsOf es=some ns->SA X Γ E es (cns ns) []
 | [],ns,h=>by
  have e:ns= []:=by unfold constsOf at h;exact (Option.some.inj h).symm
  subst e
  exact sa_nil
 |e :: es,ns,h=>by
  unfold constsOf at h
  split at h
  ·cases ‹_ :: _= []›
  ·next i a b es' heq=>
   cases heq
   cases q:constsOf es with
   |none=>rw [q] at h;cases h
   |some r=>
    rw [q] at h
    have e2:i :: r=ns:=Option.some.inj h
    subst e2
    exact sa_cons se_int (sa_consts q) rfl
  ·cases h
section
variable {P:Program}{w:World}{K:PySem.W.Frag}{mg:Str->Option Value}{base:Heap}
theorem pg_pair {X:Cx}{i j:Nat}{x y:Str}{px py pos:Pos}{k:Nat}(hN:X.N.Nodup)(hi:X.N[i]? =some x)(hj:X.N[j]? =some y)(hx:X.env.scope.names.lookup x=some .local)(hy:X.env.scope.names.lookup y=some .local)(hc:X.calm=true) :
  PG X (.Tuple [.Name x px,.Name y py] k pos) (gTup X.K 2 (gCons (gName i) (gCons (gName j) gNil))):=
 pg_tup hc (pgs_cons (pg_name hN hi (Or.inl hx) (Or.inr hx)) (pgs_cons (pg_name hN hj (Or.inl hy) (Or.inr hy)) pgs_nil))
theorem take_end {b:Addr}{β m:Int}{H:Hp}{Q:VK}{G:Hp}(hb:H b=some (.lst [.int β]))(s:Same G H){p:Addr}(hp:H p=none)
  (kk:∀v G' H',Mov (some b) H H'->H' b=some (.lst [.int (β / m)])->Same G G'->Same G' H'->(∀c,Mx H c->G c=none->G' c=none)->FV K H G' H' false (.int (β % m)) v->Q v H') (gb:G b=none) :
  Q (.int (β % m)) (upd (upd H p (.tup [.int (β / m),.int (β % m)])) b (.lst [.int (β / m)])):=by
 have hbp:b≠p:=ne_of_none hb hp
 refine kk _ G _ (fun c o e n=>?_) upd_same (Same.refl _) (fun c o e=>?_) (fun c _ h=>h) (.int _)
 ·rw [upd_ne (fun z=>n (by rw [z])),upd_ne (ne_of_none e hp)];exact e
 ·rw [upd_ne (fun z=>by rw [z,gb] at e;cases e),upd_ne (ne_of_none (s c o e) hp)];exact s c o e
end
end L2

end

section
namespace L2
open PySem PySem.SeqAt PySem.Spec PyProof.Rows
theorem wpAny_forRng {M:Model}{A:Around}{E:Value->Shared->Prop}{s:Shared}{β:Type}{b:Nat}(f:Nat->β->Sem (ForInStep β))(I:List Nat->β->Shared->Prop)(Q:β->Shared->Prop)
  (turn:∀x rest b s,I (x :: rest) b s->wpAny M A (f x b) (fun r s'=>match r with | .yield b'=>I rest b' s' | .done b'=>Q b' s') E s)
  (fin:∀b s,I [] b s->Q b s) (c:β) (h:I (List.range' 0 b) c s):wpAny M A (forIn [0:b] c f) Q E s:=by
 rw [Std.Legacy.Range.forIn_eq_forIn_range']
 simp only [Std.Legacy.Range.size,Nat.sub_zero,Nat.add_sub_cancel,Nat.div_one]
 exact wpAny_forIn_list f I Q turn fin _ c h
theorem tuple_indexAt (l:Addr)(items:Array Value)(n:Nat)(dd:Option Addr)(sl:Array (Option Value))(x:Value)(e:Value->Bool)(j:Nat)(hj:j < items.size)
  (hit:e items[j]=true) (hno:∀m (hm:m < items.size),m < j->e items[m]=false) :
  Meets (Builtin.«tuple.index» ⟨[.ref l,x],[]⟩)
   (fun A R s=>s.heap.get? l=some {cls:=.type "tuple",dict:=dd,data:=.seq items n,slots:=sl}/\(∀y,y∈items->EqAt A.in1 s y x (e y))/\R (.ok (.ret (.int j s.toks))) {s with toks:=s.toks + 1}):=
 .of_wp fun prog w A R s h=>by
  obtain⟨hp,g,d,tk,os⟩:=s;obtain⟨hl,he,h⟩:=h
  wp_walk using wpAny_loadPart' hl,wpAny_forRng _ (fun rest b s'=>b.1=none/\s'=⟨hp,g,d,tk,os⟩/\∃i,i<=j/\rest=List.range' i (items.size - i)) _
  case turn=>
   rintro y rest b s' ⟨hb,rfl,i,hi,hr⟩
   obtain⟨m,hm⟩:∃m,items.size - i=m + 1:=⟨items.size - i - 1,by omega⟩
   rw [hm,List.range'_succ] at hr
   obtain⟨rfl,rfl⟩:=List.cons.inj hr
   have hlt:y < items.size:=by omega
   have e1:items[y]? =some items[y]:=by simp [hlt]
   simp only [e1]
   refine wpAny_bind (he _ (Array.getElem_mem hlt) prog w _ _ ?_)
   by_cases z:y=j
   ·subst z
    rw [hit]
    wp_walk
    exact⟨_,rfl,h⟩
   ·rw [hno y hlt (by omega)]
    wp_walk
    exact⟨rfl,rfl,y + 1,by omega,by congr 1;omega⟩
  case fin=>
   rintro b s' ⟨hb,rfl,i,hi,hr⟩
   obtain⟨m,hm⟩:∃m,items.size - i=m + 1:=⟨items.size - i - 1,by omega⟩
   rw [hm,List.range'_succ] at hr
   cases hr
  case h=>
   exact⟨rfl,rfl,0,Nat.zero_le _,by rw [Nat.min_self];rfl⟩
section
variable {K:PySem.W.Frag}{X:Cx}{G H:Hp}{Γ:Fx}{E:XK}{e a b c:Expr}{f fa fb fc:VF D}{L La Lb:List Nat}{md ma mb mc:Md}{pos apos cpos np:Pos}
def isIntV (k:Int):Value->Bool
 | .int i _=>i == k
 |_=>false
theorem vals_ints' {k:Int}:∀{ns:List Int} {us:List Value} (i:Nat) (h:i < us.length) (h2:i < ns.length),Vals (ns.map V.int) us->isIntV k us[i]=(ns[i] == k)
 | [],_,_,_,h2,_=>absurd h2 (Nat.not_lt_zero _)
 |n :: ns,_,0,_,_,.cons r _=>by obtain⟨t,rfl⟩:=r;rfl
 |n :: ns,_,i + 1,h,h2,.cons _ rs=>vals_ints' i (Nat.lt_of_succ_lt_succ h) (Nat.lt_of_succ_lt_succ h2) rs
theorem eq_ints' {k:Int}{t:Tok}(A:Around)(s:Shared):∀{ns:List Int} {us:List Value},Vals (ns.map V.int) us->∀y∈us,EqAt A s y (.int k t) (isIntV k y)
 | [],_,.nil,y,hy=>by cases hy
 |n :: ns,_,.cons r rs,y,hy=>by
  rcases List.mem_cons.mp hy with z |z
  ·subst z;obtain⟨t',rfl⟩:=r;exact EqAt.int_int n t' k t
  ·exact eq_ints' A s rs y z
def rIndexT (K:PySem.W.Frag):V->List V->Hp->VK->Prop:=fun x vs H Q=>∃(a:Addr) (ns:List Int) (k:Int),x=.ref a/\vs= [.int k]/\SqT K H a (ns.map V.int)/\k∈ns/\Q (.int (ns.idxOf k:Nat)) H
theorem mt_indexT:MtM X "tuple.index" (rIndexT X.K):=by
 intro pins s σ H x vs v us Q I rx rv h
 obtain⟨a,ns,k,rfl,rfl,hq,hk,q⟩:=h
 cases rx
 obtain⟨u,rfl,ru⟩:=vals1 rv
 obtain⟨t,rfl⟩:=ru
 obtain⟨its,rs,pl,hz⟩:=I.tuple hq
 obtain⟨⟨cls,dd,data,sl⟩,ho,hc,n,hd⟩:=id pl
 simp only at hc hd
 subst hc hd
 have hj:ns.idxOf k < ns.length:=List.idxOf_lt_length_iff.mpr hk
 have hlen:its.length=ns.length:=by rw [<-rs.length,List.length_map]
 refine call_meets PySem.F.slot_tuple_index ⟨_,ho,rfl⟩ PySem.F.entry_tuple_index (PySem.F.args_tuple_index_2 _ _)
  (tuple_indexAt a its.toArray n dd sl (.int k t) (isIntV k) (ns.idxOf k) (by simpa [hlen] using hj) ?_ ?_) ⟨ho,fun y hy=>eq_ints' _ _ rs y (by simpa using hy),?_⟩
 ·have:=vals_ints' (k:=k) (ns.idxOf k) (by omega) hj rs
  simpa [List.getElem_idxOf hj] using this
 ·intro m hm hlt
  have hm':m < ns.length:=by simpa [hlen] using hm
  have hne:ns[m]≠k:=fun z=>by
   have:=List.not_of_lt_findIdx (p:=(· == k)) hlt
   simp [z] at this
  have:=vals_ints' (k:=k) m (by omega) hm' rs
  rw [beq_eq_false_iff_ne.mpr hne] at this;simpa using this
 ·exact⟨.int (ns.idxOf k:Nat),H,I.tok _,⟨_,rfl⟩,q⟩
theorem Inv.tupleP {pins:List (Addr×Obj)}{σ:St}{s:Shared}{p:Addr}{xs:List V}(I:Inv X pins σ H s)(h:SqT X.K H p xs):s.TypeIs (.ref p) "tuple"/\∀a,Value.ref p=.ref a->∃ob,s.heap.get? a=some ob/\ob.dict=none:=by
 rcases h with h | ⟨o,its,n,hk,hc,hs,hz,r,hd⟩
 ·obtain⟨_,_,_,o,e,c,n,d,hd⟩:=h.ok I.hok
  exact⟨⟨o,e,c⟩,fun a z=>by cases z;exact⟨o,e,hd⟩⟩
 ·exact⟨⟨o,I.kIn p o hk,hc⟩,fun a z=>by cases z;exact⟨o,I.kIn p o hk,hd⟩⟩
def tBMT (K:PySem.W.Frag)(r:V->List V->Hp->VK->Prop)(to:TE)(t:TA):TE:=fun σ H Q=>to σ H fun x H1=>(∃p xs,x=.ref p/\SqT K H1 p xs)/\t σ H1 fun xs H2=>r x xs H2 Q
theorem pe_bmT {o e:Expr}{es:List Expr}{to:TE}{t:TA}{name:Str}{apos cpos:Pos}{id:String}{r:V->List V->Hp->VK->Prop}(slot:Slot "tuple" name id)(hty:typeOf (.builtin id)=pure (.type "method_descriptor"))(hm:MtM X id r)(ho:PE X o to)(ha:PA X (e :: es) t)
  (hbase:attributeBase o name X.env (eval o X.env)=eval o X.env:=by rfl)
  (hfew:((backTo cpos (starEach (e :: es) X.env)).all (fun x=> !x.1) && (backToKw cpos (keywordEach [] X.env)).all (fun x=>x.1.isSome)
   && decide ((e :: es).length + ([]:List Keyword).length + (if ([]:List Keyword).isEmpty then 0 else 1) < 30))=true:=by rfl)
  (hline:(apos.endLine == cpos.line)=true:=by rfl) (hs:starEach (e :: es) X.env=(false,eval e X.env) :: starEach es X.env:=by rfl) (hplain:(backTo cpos (starEach es X.env)).any (·.1)=false:=by rfl) :
  PE X (.Call (.Attribute o name apos) (e :: es) [] cpos) (tBMT X.K r to t):=by
 intro pins s σ H Q I h
 refine wpAny_Call_method_late hbase hfew hline rfl (thn (ho pins s σ H _ I h) fun v s1 ⟨x,H1,I1,r1,⟨p,ys,ex,hr⟩,q1⟩=>?_)
 subst ex
 cases r1
 obtain⟨h1,h2⟩:=I1.tupleP hr
 refine⟨"tuple",id,PySem.F.plainAttrs_tuple,slot,hty,h1,h2,?_⟩
 have hA:=ha cpos pins s1 σ H1 _ I1 q1
 rw [hs] at hA ⊢
 refine Calls.callWith_builtin (by show (false || (backTo cpos (starEach es X.env)).any (·.1))=false;rw [hplain] <;> rfl) (Calls.evalArgs_plain ?_)
 exact thn hA fun us s2 ⟨vs,H2,I2,r2,q2⟩=>hm pins s2 σ H2 (.ref p) vs (.ref p) us Q I2 rfl r2 q2
def intsP:List D->Option (List Int)
 | []=>some []
 | .int i :: ds=>(intsP ds).map (i :: ·)
 |_=>none
theorem intsP_eq:∀{ds:List D} {ns:List Int},intsP ds=some ns->ds=ns.map PyData.int
 | [],ns,h=>by cases h;rfl
 | .int i :: ds,ns,h=>by
  unfold intsP at h
  cases q:intsP ds with
  |none=>rw [q] at h;cases h
  |some ms=>rw [q] at h;cases h;rw [intsP_eq q];rfl
 | .none :: _,_,h=>by cases h
 | .bool _ :: _,_,h=>by cases h
 | .str _ :: _,_,h=>by cases h
 | .list _ :: _,_,h=>by cases h
 | .tuple _ :: _,_,h=>by cases h
 | .dict _ :: _,_,h=>by cases h
theorem intsP_map:∀ns:List Int,intsP (ns.map PyData.int)=some ns
 | []=>rfl
 |n :: ns=>by show (intsP (ns.map PyData.int)).map (n :: ·)=_;rw [intsP_map ns];rfl
theorem rps_ints:∀{ns:List Int} {xs:List V},Rps K G xs (ns.map PyData.int)->xs=ns.map V.int
 | [],_,.nil=>rfl
 |n :: ns,_,.cons r t=>by cases r;rw [rps_ints t];rfl
def ixOf (d y:D):Option D:=match d,y with
 | .tuple ds,.int k=>(match intsP ds with
  |some ns=>if k∈ns then some (.int (ns.idxOf k:Nat)) else none
  |none=>none)
 |_,_=>none
def isMadeT:D->Bool
 | .tuple _=>true
 |_=>false
def fIdx (fa fb:VF D):VF D:=fun vs β=>(fa vs β).bnd fun x β1=>if isMadeT x=true then (fb vs β1).bnd fun y β2=>R.of (ixOf x y) β2 else .bad
theorem se_index (hK:X.K=Γ.K)(ha:SE X Γ E a fa La ma)(hb:SE X Γ E b fb Lb mb)
  (hbase:attributeBase a "index" X.env (eval a X.env)=eval a X.env:=by rfl)
  (hfew:((backTo cpos (starEach [b] X.env)).all (fun x=> !x.1) && (backToKw cpos (keywordEach [] X.env)).all (fun x=>x.1.isSome)
   && decide ([b].length + ([]:List Keyword).length + (if ([]:List Keyword).isEmpty then 0 else 1) < 30))=true:=by rfl)
  (hline:(apos.endLine == cpos.line)=true:=by rfl) (hs:starEach [b] X.env=(false,eval b X.env) :: starEach [] X.env:=by rfl) :
  SE X Γ E (.Call (.Attribute a "index" apos) [b] [] cpos) (fIdx fa fb) (La ++ Lb) .v:=by
 refine PE.post' (pe_bmT PySem.F.slot_tuple_index PySem.F.type_tuple_index mt_indexT ha (pa_cons hb pa_nil hs) hbase hfew hline hs rfl) fun σ H Q ⟨env,G,B,β,I,o⟩=>?_
 refine⟨env,G,B,β,I,o.bnd.imp fun d1 β1 h x G1 H1 I1 s1 m1 vx=>?_⟩
 have vx:=vx.brw I.boxThere
 cases d1 with
 |tuple ds=>
  rw [if_pos (show isMadeT (.tuple ds)=true from rfl)] at h
  obtain⟨p,xs,rfl,hq,r⟩:=vx.tuple I1.sub
  refine⟨⟨p,xs,rfl,by rw [hK];exact hq⟩,?_⟩
  refine⟨frz La env,G1,B,β1,I1,?_⟩
  rw [vl_frz]
  refine h.bnd.imp fun d2 β2 h y G2 H2 I2 s2 m2 vy=>?_
  obtain⟨d,e,k⟩:=h.of
  have vy:=vy.brw I1.boxThere
  cases d2 with
  |int kk=>
   obtain rfl:=vy.int
   simp only [ixOf] at e
   cases q:intsP ds with
   |none=>rw [q] at e;cases e
   |some ns=>
    rw [q] at e
    dsimp only at e
    split at e
    ·rename_i hk
     cases e
     have eds:=intsP_eq q
     subst eds
     have exs:=rps_ints r
     subst exs
     have hq2:SqT X.K H2 p (ns.map V.int):=by
      rw [hK]
      rcases hq with hq |hq
      ·rcases vx with vx | ⟨_,_,_,vx⟩
       ·cases vx with
        |tup g1 r9=>have z9:=rps_ints r9;subst z9;exact (g1.grow (s2.trans I2.sub).grow)
       ·exact vx.elim
      ·exact .inr hq
     exact⟨p,ns,kk,rfl,rfl,hq2,hk,k _ G2 H2 (by rw [frz_app];exact I2) (s1.trans s2) (m1.trans m2) (.int _)⟩
    ·cases e
  |_=>simp only [ixOf] at e;cases e
 |_=>exact h.elim
def mBind (t:Tg)(L:List Nat)(f:VF D):SF:=fun env β=>toS (f (vl env) β) fun d β'=>match bindE t d (frz L env) with
 |some env'=>.nx env' β'
 |none=>.bad
theorem ss_asg {t:Tg}{tg:Expr}(he:SE X Γ E e f L .v)(hg:SG X Γ tg t)(hs:swapsWithSole [tg] e pos.line X.env=pure false:=by rfl)(hw:swappedStores [tg] e X.env=pure none:=by rfl)
  (h1:(assignEach [tg] X.env).map (·.2)= [assign tg X.env]:=by rfl):SS X Γ E (.Assign [tg] e pos) (mBind t L f):=by
 refine PS.post (ps_asg he hg hs hw h1) fun N σ H ⟨env,G,B,β,I,o⟩=>?_
 refine⟨env,G,B,β,I,toS_out o fun d β' k v G' H' I' s' m' vo=>?_⟩
 cases q:bindE t d (frz L env) with
 |none=>rw [q] at k;exact k.elim
 |some env'=>
  rw [q] at k
  exact⟨_,G',B,β',d,env',I',vo,q,fun σ' J=>k B G' H' σ' J s'⟩
abbrev Fx.at (Γ:Fx)(H0:Hp):Fx:=⟨Γ.K,H0,Γ.G0,Γ.par,Γ.ca,Γ.br,Γ.bx⟩
end
end L2

end

section
namespace L2
open PySem PySem.Spec PyProof.Rows
section
variable {K:PySem.W.Frag}{X:Cx}{G H:Hp}
def gEqS (neg:Bool):D->D->Option D
 | .str x,.str y=>some (.bool (if neg then !decide (x=y) else decide (x=y)))
 |_,_=>none
theorem dec_strV (x y:Str):decide (V.str x=V.str y)=decide (x=y):=by
 rw [Bool.eq_iff_iff];simp
theorem p_neS:Pr2 K rNe (gEqS true) .v:=by
 intro B G H x y dx dy d Q s hB bx by' e k
 cases dx <;> cases dy <;> first | (cases e;done) |skip
 cases e
 obtain rfl:=bx.str
 obtain rfl:=by'.str
 refine⟨rfl,?_⟩
 rw [dec_strV]
 exact k _ G H (Ext.refl s) (.bl _)
end
end L2

end

section

end

section

end

section

end

section
namespace L2
open PySem PySem.Spec PyProof.Rows
section
variable {κ:Type}[DecidableEq κ]
def valV (kvs:List (κ×V))(k:κ):Option V:=(kvs.find? fun kv=>decide (kv.1=k)).map (·.2)
def putK (kvs:List (κ×V))(k:κ)(v:V):List (κ×V):=
 if (kvs.any fun kv=>decide (kv.1=k))=true then kvs.map (fun kv=>if kv.1=k then (kv.1,v) else kv) else kvs ++ [(k,v)]
theorem length_putK (kvs:List (κ×V))(k:κ)(v:V):(putK kvs k v).length<=kvs.length + 1:=by
 unfold putK
 split
 ·rw [List.length_map];omega
 ·rw [List.length_append,List.length_cons,List.length_nil];omega
theorem KV.any {kvs:List (κ×V)}{vs:List (κ×Value)}(r:KV kvs vs)(k:κ):(kvs.any fun kv=>decide (kv.1=k))=vs.any fun kv=>decide (kv.1=k):=by
 unfold KV at r
 induction r with
 |nil=>rfl
 |cons h t ih=>rw [List.any_cons,List.any_cons,ih,h.1]
theorem KV.repl {kvs:List (κ×V)}{vs:List (κ×Value)}(r:KV kvs vs)(k:κ){y:V}{u:Value}(ry:RelV y u) :
  KV (kvs.map fun kv=>if kv.1=k then (kv.1,y) else kv) (vs.map fun kv=>if kv.1=k then (kv.1,u) else kv):=by
 unfold KV at r ⊢
 induction r with
 |nil=>exact .nil
 | @cons p q ps qs h t ih=>
  rw [List.map_cons,List.map_cons]
  refine .cons ?_ ih
  obtain⟨h1,h2⟩:=h
  by_cases e:p.1=k
  ·rw [if_pos e,if_pos (h1.symm.trans e)];exact⟨h1,ry⟩
  ·rw [if_neg e,if_neg (fun z=>e (h1.trans z))];exact⟨h1,h2⟩
theorem KV.put {kvs:List (κ×V)}{vs:List (κ×Value)}(r:KV kvs vs)(k:κ){y:V}{u:Value}(ry:RelV y u):KV (putK kvs k y) (stored vs k u):=by
 unfold putK stored
 rw [r.any k]
 by_cases e:(vs.any fun kv=>decide (kv.1=k))=true
 ·rw [if_pos e,if_pos e];exact r.repl k ry
 ·rw [if_neg e,if_neg e];exact Paired.snoc r ⟨rfl,ry⟩
end
theorem kV_is {P:Program}{w:World}{k:Key}{u:Value}(r:RelV (kV k) u):(mixKind P w).is k u=true:=by
 cases k with
 |inl i=>obtain⟨t,e⟩:=(show ∃t,u=Value.int i t from r);subst e;exact mixKind_int P w i t
 |inr x=>obtain⟨t,e⟩:=(show ∃t,u=Value.str x t from r);subst e;exact mixKind_str P w x t
section
variable {P:Program}{w:World}{H:Hp}{h:Heap}{a:Addr}
theorem rd_of {u:HO}(ok:HOk P w H h)(e:Rd H a u):ObjOk P w H h a u:=e.ok ok
theorem dk_rd {kvs:List (Key×V)}(ok:HOk P w H h)(e:Rd H a (.dK kvs)):kvs.length<=sizeLine/\(a == sysModules)=false/\∃vs,KV kvs vs/\h.DictOf (mixKind P w) a vs:=
 show ObjOk P w H h a (.dK kvs) from rd_of ok e
theorem dk_of {kvs:List (Key×V)}(ok:HOk P w H h)(e:H a=some (.dK kvs)):kvs.length<=sizeLine/\(a == sysModules)=false/\∃vs,KV kvs vs/\h.DictOf (mixKind P w) a vs:=dk_rd ok (.inl e)
end
def DGet (H:Hp)(a:Addr)(y:V)(r:Option V):Prop:=
 (∃kvs k,Rd H a (.dK kvs)/\y=kV k/\r=valV kvs k)\/∃kvs k b,Rd H a (.dT kvs)/\y=.ref b/\H b=some (.tup (k.map kV))/\r=valV kvs k
def DPut (H:Hp)(a:Addr)(y v:V)(H':Hp):Prop:=
 (∃kvs k,H a=some (.dK kvs)/\y=kV k/\kvs.length < sizeLine/\H'=upd H a (.dK (putK kvs k v)))\/
 ∃kvs k b,H a=some (.dT kvs)/\y=.ref b/\H b=some (.tup (k.map kV))/\kvs.length < sizeLine/\H'=upd H a (.dT (putK kvs k v))
theorem DGet.k {H:Hp}{a:Addr}{kvs:List (Key×V)}{k:Key}(e:H a=some (.dK kvs)):DGet H a (kV k) (valV kvs k):=.inl ⟨kvs,k,.inl e,rfl,rfl⟩
theorem DGet.t {H:Hp}{a b:Addr}{kvs:List (List Key×V)}{k:List Key}(e:H a=some (.dT kvs))(eb:H b=some (.tup (k.map kV))):DGet H a (.ref b) (valV kvs k):=.inr ⟨kvs,k,b,.inl e,rfl,eb,rfl⟩
theorem DPut.k {H:Hp}{a:Addr}{kvs:List (Key×V)}{k:Key}{v:V}(e:H a=some (.dK kvs))(hl:kvs.length < sizeLine):DPut H a (kV k) v (upd H a (.dK (putK kvs k v))):=.inl ⟨kvs,k,e,rfl,hl,rfl⟩
theorem DPut.t {H:Hp}{a b:Addr}{kvs:List (List Key×V)}{k:List Key}{v:V}(e:H a=some (.dT kvs))(eb:H b=some (.tup (k.map kV)))(hl:kvs.length < sizeLine) :
  DPut H a (.ref b) v (upd H a (.dT (putK kvs k v))):=.inr ⟨kvs,k,b,e,rfl,eb,hl,rfl⟩
section
variable {X:Cx}{pins:List (Addr×Obj)}{σ:St}{H:Hp}{s:Shared}{a:Addr}{y v:V}{u r:Value}{o:Option V}{A:Around}{E:Value->Shared->Prop}
theorem Inv.big (I:Inv X pins σ H s):sysModules < s.heap.objs.size:=by
 have h:mainGlobals < s.heap.objs.size:=(I.mod.glob.keeps I.bk).lt
 exact Nat.lt_trans (by decide) h
theorem d_write {h':Heap}{t':Nat}{ob:HO}(I:Inv X pins σ H s)(mu:Mut (H a))(hs:Heap.SameBut a s.heap h')(he:∃q,h'.get? a=some q)(new:ObjOk X.prog X.w (upd H a ob) h' a ob) :
  Inv X pins σ (upd H a ob) {s with heap:=h',toks:=t'}:=
 I.write (x:=a) (e:=a) mu (.inl rfl) (fun b q hb z=>(hs.2 b hb).trans z) he new
theorem dk_new {P:Program}{w:World}{H':Hp}{h':Heap}{kvs:List (Key×V)}{vs:List (Key×Value)}(z:kvs.length<=sizeLine)(hd:(a == sysModules)=false)(rel:KV kvs vs)(dd:h'.DictOf (mixKind P w) a vs) :
  ObjOk P w H' h' a (.dK kvs):=⟨z,hd,vs,rel,dd⟩
end
theorem dk_empty {P:Program}{w:World}{H:Hp}(h:Heap)(hb:sysModules < h.objs.size):ObjOk P w H (h.push {cls:=.type "dict",data:=.dict #[]}) h.objs.size (.dK []):=
 ⟨Nat.zero_le _,beq_eq_false_iff_ne.mpr (Ne.symm (Nat.ne_of_lt hb)),[],.nil,Heap.DictOf.new h⟩
def tPairs:List (TE×TE)->St->Hp->(List (V×V)->Hp->Prop)->Prop
 | [],_,H,Q=>Q [] H
 | (tk,tv) :: r,σ,H,Q=>tk σ H fun x H1=>tv σ H1 fun y H2=>tPairs r σ H2 fun ps H3=>Q ((x,y) :: ps) H3
abbrev VV:List (V×V)->List (Value×Value)->Prop:=Paired fun p q=>RelV p.1 q.1/\RelV p.2 q.2
def PPs (X:Cx)(pos:Pos)(keys:List (Option Expr))(values:List Expr)(trs:List (TE×TE)):Prop:=
 ∀(pins:List (Addr×Obj)) (s:Shared) (σ:St) (H:Hp) (Q:List (V×V)->Hp->Prop),Inv X pins σ H s->tPairs trs σ H Q->
  wpAny (model X.prog X.w) X.A (evalPairs (pairTrees keys values X.env pos)) (fun vs s'=>∃ps H',Inv X pins σ H' s'/\VV ps vs/\Q ps H') X.xe s
theorem pps_nil {X:Cx}{pos:Pos}:PPs X pos [] [] []:=fun pins s σ H Q I h=>pairTrees_nil_walk ⟨[],H,I,.nil,h⟩
theorem pps_cons {X:Cx}{pos:Pos}{k v:Expr}{ks:List (Option Expr)}{vs:List Expr}{tk tv:TE}{trs:List (TE×TE)}(hk:PE X k tk)(hv:PE X v tv)(hr:PPs X pos ks vs trs) :
  PPs X pos (some k :: ks) (v :: vs) ((tk,tv) :: trs):=fun pins s σ H Q I h=>
 pairTrees_cons_walk (thn (hk pins s σ H _ I h) fun u s1 ⟨x,H1,I1,rx,q1⟩=>thn (hv pins s1 σ H1 _ I1 q1) fun w2 s2 ⟨y,H2,I2,ry,q2⟩=>
  thn (hr pins s2 σ H2 _ I2 q2) fun ws s3 ⟨ps,H3,I3,rel,q3⟩=>⟨(x,y) :: ps,H3,I3,.cons ⟨rx,ry⟩ rel,q3⟩)
def mergeK (kvs more:List (Key×V)):List (Key×V):=more.foldl (fun acc kv=>putK acc kv.1 kv.2) kvs
theorem KV.merge:∀{more:List (Key×V)} {rs:List (Key×Value)} {kvs:List (Key×V)} {vs:List (Key×Value)},KV more rs->KV kvs vs->KV (mergeK kvs more) (merged vs rs):=by
 intro more rs kvs vs r
 unfold KV at r
 induction r generalizing kvs vs with
 |nil=>intro q;exact q
 | @cons p q ps qs h t ih=>
  intro r0
  have e:KV (putK kvs p.1 p.2) (stored vs q.1 q.2):=by
   have:=r0.put p.1 h.2
   rw [<-h.1];exact this
  exact ih e
theorem length_mergeK:∀(more kvs:List (Key×V)),(mergeK kvs more).length<=kvs.length + more.length
 | [],kvs=>by show kvs.length<=kvs.length + 0;omega
 |p :: r,kvs=>by
  have h1:=length_mergeK r (putK kvs p.1 p.2)
  have h2:=length_putK kvs p.1 p.2
  show (mergeK (putK kvs p.1 p.2) r).length<=_
  rw [List.length_cons];omega
theorem carries_of {P:Program}{w:World}:∀{kvs:List (Key×V)} {ws:List (Value×Value)},VV (kvs.map fun kv=>(kV kv.1,kv.2)) ws->∃rs,Carries (mixKind P w) ws rs/\KV kvs rs
 | [],_,r=>by rw [List.map_nil] at r;cases r;exact⟨[],True.intro,.nil⟩
 |p :: kvs,_,r=>by
  rw [List.map_cons] at r
  cases r with
  | @cons a b as bs h t=>
   obtain⟨rs,c,q⟩:=carries_of (P:=P) (w:=w) t
   obtain⟨b1,b2⟩:=b
   exact⟨(p.1,b2) :: rs,⟨kV_is h.1,rfl,c⟩,.cons ⟨rfl,h.2⟩ q⟩
def tDisp (trs:List (TE×TE)):TE:=fun σ H Q=>∀p,H p=none->tPairs trs σ (upd H p (.dK [])) fun ps H2=>H2 p=some (.dK [])/\∃kvs:List (Key×V),ps=kvs.map (fun kv=>(kV kv.1,kv.2))/\kvs.length<=15/\Q (.ref p) (upd H2 p (.dK (mergeK [] kvs)))
theorem pe_disp {X:Cx}{pos:Pos}{keys:List (Option Expr)}{values:List Expr}{trs:List (TE×TE)}(h:PPs X pos keys values trs)(hall:keys.all (·.isSome)=true)(hl:keys.length=values.length)(h0:keys≠ [])
  (h15:keys.length<=15):PE X (.Dict keys values pos) (tDisp trs):=by
 intro pins s σ H Q I q
 have hn:=I.hok.fresh (Nat.le_refl s.heap.objs.size)
 have I1:=I.laid (a:=s.heap.objs.size) (o:=.dK []) (h':=s.heap.push {cls:=.type "dict",data:=.dict #[]}) (t':=s.toks) (fun _ _ q=>Heap.get?_push_of_some _ q) (Nat.le_refl _) (dk_empty s.heap I.big)
 refine wpAny_Dict_walk (knd:=mixKind X.prog X.w) hall hl h0 h15 (thn (h pins _ σ _ _ I1 (q _ hn)) fun ws s2 ⟨ps,H2,I2,rel,e,kvs,ep,lk,q2⟩=>?_)
 subst ep
 obtain⟨rs,c,rk⟩:=carries_of (P:=X.prog) (w:=X.w) rel
 obtain⟨z,hd,vs0,r0,dd⟩:=dk_of I2.hok e
 cases r0
 refine⟨rs,c,dd,fun h' dd' hs=>⟨.ref s.heap.objs.size,_,?_,rfl,q2⟩⟩
 have hz:(mergeK [] kvs).length<=sizeLine:=by
  have h1:=length_mergeK kvs []
  rw [List.length_nil] at h1
  rw [sizeLine_eq];omega
 have he:∃q,h'.get? s.heap.objs.size=some q:=let ⟨q,_,_,hq,_⟩:=dd';⟨q,hq⟩
 exact d_write I2 (by rw [e];exact True.intro) hs he (dk_new hz hd (rk.merge .nil) dd')
end L2

end

section
namespace L2
open PySem PySem.Spec PyProof.Rows
section
variable {X:Cx}{Γ:Fx}{E:XK}{pos:Pos}
theorem se_dic1 {k:Str}{i:Int}{j j'}{p p':Pos}:SE X Γ E (.Dict [some (.Constant (.str k) j p)] [.Constant (.int i) j' p'] pos) (cst (.dict [(.str k,.int i)])) [] .v:=by
 refine PE.post' (pe_disp (pps_cons pe_str pe_int pps_nil) rfl rfl (by simp) (by simp)) ?_
 rintro σ H Q ⟨env,G,B,β,I,o⟩ p hp
 have o:∀v G' H',SR Γ B G' H' σ (frz [] env) β->Same G G'->Mov B H H'->Rp Γ.K G' v (.dict [(.str k,.int i)])->Q v H':=o
 refine⟨upd_same,[(.inr k,.int i)],rfl,by simp,?_⟩
 rw [upd_upd]
 have xn:=Ext.new I.sub (o:=.dK [((.inr k:Key),V.int i)]) hp
 exact o _ _ _ (I.ext xn) xn.gg (xn.hh.mov B) (.dK (kvs:=[((.inr k:Key),V.int i)]) upd_same (.cons (.int i) .nil))
end
mutual
def noL:D->Bool
 | .list ds=>noLs ds
 | .tuple ds=>noLs ds
 | .dict kvs=> !kvs.isEmpty && kvs.all fun kv=>match kv.1,kv.2 with
  | .str _,.int _=>true
  |_,_=>false
 |_=>true
def noLs:List D->Bool
 | []=>true
 |d :: ds=>noL d && noLs ds
end
section
variable {X:Cx}{pins:List (Addr×Obj)}{σ:St}{H:Hp}{s:Shared}
theorem reads_dk {P:Program}{w:World}{K:PySem.W.Frag}{h:Heap}:∀{kvs:List (Key×V)} {ds:List (D×D)} {vs:List (Key×Value)} {es:List DictEntry},RpK K H kvs ds->KV kvs vs->Pairs (mixKind P w) es vs->
  (ds.all fun kv=>match kv.1,kv.2 with
   | .str _,.int _=>true
   |_,_=>false)=true->ReadsAll h (es.map (·.key)) (ds.map (·.1)) []/\ReadsAll h (es.map (·.val)) (ds.map (·.2)) []
 | [],_,_,_,.nil,kv,ps,_=>by
  cases kv
  cases ps
  exact⟨.nil,.nil⟩
 | (k,x) :: kvs,_,_,_,.cons r rk,kv,ps,hd=>by
  cases kv with
  |cons h1 h2=>
   cases ps with
   |cons q1 q2 q3=>
    rw [List.all_cons,Bool.and_eq_true] at hd
    obtain⟨i1,i2⟩:=reads_dk (P:=P) (w:=w) (h:=h) rk h2 q3 hd.2
    obtain⟨hd1,_⟩:=hd
    obtain⟨e1,rv⟩:=h1
    cases k with
    |inl i=>cases hd1
    |inr y=>
     rw [<-e1] at q1
     have q1:keyIs (Sum.inr y) _=true:=q1
     rcases keyIs_shape q1 with⟨i,t,e,_⟩ | ⟨z,t,e,ek⟩
     ·cases e
     ·cases e
      cases r with
      |int i=>
       obtain⟨t',ev⟩:=rv
       refine⟨?_,?_⟩
       ·show ReadsAll h (_ :: _) (PyData.str y :: _) ([] ++ [])
        dsimp only
        rw [ek]
        exact .cons (.str y t) i1
       ·show ReadsAll h (_ :: _) (PyData.int i :: _) ([] ++ [])
        dsimp only
        rw [q2,ev]
        exact .cons (.int i t') i2
      |_=>cases hd1
theorem Inv.notSys (I:Inv X pins σ H s){a:Addr}{u:HO}(h:Rd H a u):a≠sysModules:=fun e=>by
 obtain⟨mm,o,es,ep,ho,_⟩:=I.mod.sys
 have:=(I.bs _ o ho).2
 rw [<-e] at this
 rcases h with h | ⟨_,h⟩ <;> (rw [h] at this;cases this)
mutual
theorem Rp.readsL (I:Inv X pins σ H s):∀{x:V} {d:D} {u:Value},Rp X.K H x d->RelV x u->noL d=true->∃as,Reads s.heap u d as/\sysModules∉as
 |_,_,_,.non,r,_=>by cases r;exact⟨_,.none,by simp⟩
 |_,_,_,.bl b,r,_=>by cases r;exact⟨_,.bool b,by simp⟩
 |_,_,_,.int i,r,_=>by obtain⟨t,rfl⟩:=r;exact⟨_,.int i t,by simp⟩
 |_,_,_,.str x,r,_=>by obtain⟨t,rfl⟩:=r;exact⟨_,.str x t,by simp⟩
 |_,_,_,.tup h hs,r,n=>by
  cases r
  obtain⟨its,rv,⟨o,ho,hc,k,hd⟩,_⟩:=I.tuple h
  obtain⟨as,q,m⟩:=Rps.readsL I hs rv n
  exact⟨_,.tuple ho hc hd (by simpa using q),m⟩
 |_,_,_,.lst (a:=a) h hs,r,n=>by
  cases r
  obtain⟨_,its,k,rv,_,ho⟩:=I.lstR (.inl h)
  obtain⟨as,q,m⟩:=Rps.readsL I hs rv n
  refine⟨_,.list ho rfl rfl (by simpa using q),fun z=>?_⟩
  rcases List.mem_cons.mp z with e |z
  ·exact I.notSys (.inl h) e.symm
  ·exact m z
 |_,_,_,.scr h,r,n=>by cases n
 |_,_,_,.dK (a:=a) h hs,r,n=>by
  cases r
  obtain⟨_,hsy,vs,kv,o,es,ep,ho,hex,hdt,_,hp,_⟩:=dk_of I.hok h
  obtain⟨q1,q2⟩:=reads_dk (h:=s.heap) hs kv hp (by
   have n:(!_ && _)=true:=n
   rw [Bool.and_eq_true] at n
   exact n.2)
  refine⟨_,.dict ho hex.1 hdt q1 q2,?_⟩
  have:a≠sysModules:=fun z=>by rw [z] at hsy;simp at hsy
  simp only [List.append_nil,List.mem_singleton]
  exact fun z=>this z.symm
 |_,_,_,.dT h hs,r,n=>by
  cases hs with
  |nil=>cases n
  |cons _ _=>
   simp [noL] at n
theorem Rps.readsL (I:Inv X pins σ H s):∀{xs:List V} {ds:List D} {us:List Value},Rps X.K H xs ds->Vals xs us->noLs ds=true->∃as,ReadsAll s.heap us ds as/\sysModules∉as
 |_,_,_,.nil,r,_=>by cases r;exact⟨_,.nil,by simp⟩
 |_,_,_,.cons h hs,r,n=>by
  have n:(noL _ && noLs _)=true:=n
  rw [Bool.and_eq_true] at n
  cases r with
  |cons r1 r2=>
   obtain⟨as,q,m⟩:=Rp.readsL I h r1 n.1
   obtain⟨bs,q',m'⟩:=Rps.readsL I hs r2 n.2
   exact⟨_,.cons q q',fun z=>(List.mem_append.mp z).elim m m'⟩
end
end
def rpOk (d:D):Bool:=d.showable && decide (d.depth<=64) && decide (d.shown.length<=sizeLine) && ((noD d && !d.hasDict) || noL d)
def gReprA (d:D):Option D:=if rpOk d=true then some (.str d.shown) else none
def rReprA (K:PySem.W.Frag):List V->Hp->VK->Prop:=fun xs H Q=>∃x d,xs= [x]/\Rp K H x d/\rpOk d=true/\Q (.str d.shown) H
section
variable {X:Cx}
theorem call_reprA (hg:X.A.guards=some [])(hu:X.A.units + 100 < cLine):CallR X (.builtin "repr") (rReprA X.K):=by
 intro pins s σ H xs us Q I r h
 obtain⟨x,d,rfl,hd,ok,q⟩:=h
 obtain⟨u,rfl,rx⟩:=vals1 r
 unfold rpOk at ok
 simp only [Bool.and_eq_true,Bool.or_eq_true,decide_eq_true_eq] at ok
 obtain⟨⟨⟨h1,h2⟩,h3⟩,h4⟩:=ok
 have key:∀{a:Addr},u=.ref a->wpAny (model X.prog X.w) X.A (call (.builtin "repr") [u]) (EP X pins σ Q) X.xe s:=fun {a} e=>by
  subst e
  rcases h4 with h4 |h4
  ·obtain⟨as,rd⟩:=(hd.rep h4.1).reads I rx
   exact repr_of_reads' rd h1 (PyData.noDict_hsm (by simpa using h4.2)) hg (by omega) (fun b o e=>e) (fun h' u tk k=>⟨.str _,H,I.kept (t':=tk) k,⟨u,rfl⟩,q⟩) h3
  ·obtain⟨as,rd,m⟩:=hd.readsL I rx h4
   exact repr_of_reads' rd h1 (fun _=>m) hg (by omega) (fun b o e=>e) (fun h' u tk k=>⟨.str _,H,I.kept (t':=tk) k,⟨u,rfl⟩,q⟩) h3
 cases hd with
 |non=>cases rx;exact P.repr_of_none ⟨.str _,H,I.tok _,⟨_,rfl⟩,q⟩
 |bl b=>cases rx;exact P.repr_of_bool ⟨.str _,H,I.tok _,⟨_,rfl⟩,q⟩
 |int i=>obtain⟨t,rfl⟩:=rx;exact P.repr_of_int (by simpa [PyData.showable] using h1) ⟨.str _,H,I.tok _,⟨_,rfl⟩,q⟩
 |str y=>obtain⟨t,rfl⟩:=rx;exact P.repr_of_str ⟨.str _,H,I.tok _,⟨_,rfl⟩,q⟩ h3
 |tup _ _=>cases rx;exact key rfl
 |lst _ _=>cases rx;exact key rfl
 |scr _=>cases rx;exact key rfl
 |dK _ _=>cases rx;exact key rfl
 |dT _ _=>cases rx;exact key rfl
end
theorem p_reprA {K:PySem.W.Frag}:Pr1 K (fun x=>rReprA K [x]) gReprA .v:=by
 intro B G H x dx d Q s hB bx e k
 unfold gReprA at e
 split at e
 ·rename_i hh
  cases e
  exact⟨x,dx,rfl,bx.rpH s,hh,k _ G H (Ext.refl s) (.str _)⟩
 ·cases e
end L2

end

section

end

section

end

section

end

section
namespace L2
open PySem PySem.Spec PyProof.Rows
def isStar:Expr->Bool
 | .Starred _ _=>true
 |_=>false
theorem star_cons {a:Expr}{es:List Expr}{env:Env}(h:isStar a=false):starEach (a :: es) env=(false,eval a env) :: starEach es env:=by
 cases a <;> first |rfl |cases h
end L2

end

section
namespace L2
open PySem PySem.Spec PyProof.Rows
def visB (sc:Scope)(x:Str):Bool:=match sc.names.lookup x with
 |some .local=>true
 |some .cell=>true
 |some .free=>true
 |_=>false
theorem visB_ok {sc:Scope}{x:Str}(h:visB sc x=true):Vis sc x:=by
 unfold visB at h
 unfold Vis
 split at h
 ·exact .inl (by assumption)
 ·exact .inr (.inl (by assumption))
 ·exact .inr (.inr (by assumption))
 ·cases h
def nmOk (N:List Str)(sc:Scope):List (Str×Nat)->Bool
 | []=>true
 | (x,i) :: r=>decide (N[i]? =some x) && (visB sc x && ((!(x == ("__debug__":Str))) && ((!(x == ("__classdict__":Str))) && nmOk N sc r)))
theorem nmOk_at {N:List Str}{sc:Scope}:∀{l:List (Str×Nat)} {x:Str} {i:Nat},nmOk N sc l=true->l.lookup x=some i->N[i]? =some x/\Vis sc x/\(x == ("__debug__":Str))=false/\(x == ("__classdict__":Str))=false
 | [],_,_,_,h=>by cases h
 | (y,j) :: r,x,i,h,e=>by
  simp only [nmOk,Bool.and_eq_true,decide_eq_true_eq,Bool.not_eq_true'] at h
  obtain⟨h1,h2,h3,h4,h5⟩:=h
  rw [List.lookup_cons] at e
  split at e
  ·rename_i q
   have q:x=y:=by simpa using q
   subst q
   cases e
   exact⟨h1,visB_ok h2,h3,h4⟩
  ·exact nmOk_at h5 e
def intK:Expr->Option Int
 | .Constant (.int i) _ _=>some i
 |_=>none
theorem intK_ok {e:Expr}{i:Int}(h:intK e=some i):∃j p,e=.Constant (.int i) j p:=by
 cases e with
 |Constant c j p=>cases c <;> first | (cases h;exact⟨_,_,rfl⟩) |cases h
 |_=>cases h
def negK (op:UnaryOp)(e:Expr):Option Int:=match op with
 | .USub=>intK e
 |_=>none
def isPow:Operator->Bool
 | .Pow=>true
 |_=>false
theorem isPow_ok {o:Operator}(h:isPow o=true):o=.Pow:=by cases o <;> first |rfl |cases h
def dicK (ks:List (Option Expr))(vs:List Expr):Option (Str×Int):=match ks,vs with
 | [some (.Constant (.str k) _ _)],[v]=>(intK v).map fun i=>(k,i)
 |_,_=>none
theorem dicK_ok {ks:List (Option Expr)}{vs:List Expr}{r:Str×Int}(h:dicK ks vs=some r):∃j p j' p',ks= [some (.Constant (.str r.1) j p)]/\vs= [.Constant (.int r.2) j' p']:=by
 unfold dicK at h
 split at h
 ·rename_i k j p v
  cases q:intK v with
  |none=>rw [q] at h;cases h
  |some i=>
   rw [q] at h
   cases h
   obtain⟨j',p',rfl⟩:=intK_ok q
   exact⟨_,_,_,_,rfl,rfl⟩
 ·cases h
def cstK:Const->Option D
 | .int i=>some (.int i)
 | .bool b=>some (.bool b)
 | .none=>some .none
 | .str x=>some (.str x)
 |_=>none
mutual
def rD (nm:List (Str×Nat)):Expr->Option (VF D×List Nat)
 | .Name x _=>(nm.lookup x).map fun i=>(gv i,[i])
 | .Constant c _ _=>(cstK c).map fun d=>(cst d,[])
 | .UnaryOp op a _=>(negK op a).map fun i=>(cst (.int (-i)),[])
 | .BinOp a o b _=>if isPow o=true then (intK a).bind fun i=>(intK b).map fun j=>(f2 (cst (.int i)) (cst (.int j)) gPow,[]) else none
 | .Dict ks vs _=>(dicK ks vs).map fun r=>(cst (.dict [(.str r.1,.int r.2)]),[])
 | .Tuple es _ _=>(rDs nm es).map fun r=>(fTup r.1,r.2)
 | .List es _=>(rDs nm es).map fun r=>(fLst r.1,r.2)
 | .BoolOp ..=>none
 | .NamedExpr ..=>none
 | .Lambda ..=>none
 | .IfExp ..=>none
 | .Set ..=>none
 | .ListComp ..=>none
 | .SetComp ..=>none
 | .DictComp ..=>none
 | .GeneratorExp ..=>none
 | .Await ..=>none
 | .Yield ..=>none
 | .YieldFrom ..=>none
 | .Compare ..=>none
 | .Call ..=>none
 | .FormattedValue ..=>none
 | .JoinedStr ..=>none
 | .Attribute ..=>none
 | .Subscript ..=>none
 | .Starred ..=>none
 | .Slice ..=>none
def rDs (nm:List (Str×Nat)):List Expr->Option (VF (List D)×List Nat)
 | []=>some (aNil,[])
 |e :: es=>(rD nm e).bind fun r=>(rDs nm es).map fun q=>(aCons r.1 q.1,r.2 ++ q.2)
end
section
variable {X:Cx}{Γ:Fx}{E:XK}{nm:List (Str×Nat)}
theorem map_so {α β:Type}{o:Option α}{f:α->β}{b:β}(h:o.map f=some b):∃a,o=some a/\f a=b:=by
 cases o with
 |none=>cases h
 |some a=>exact⟨a,rfl,Option.some.inj h⟩
theorem bind_so {α β:Type}{o:Option α}{f:α->Option β}{b:β}(h:o.bind f=some b):∃a,o=some a/\f a=some b:=by
 cases o with
 |none=>cases h
 |some a=>exact⟨a,rfl,h⟩
mutual
theorem rD_ok (hc:nmOk X.N X.env.scope nm=true)(hb:∀i,Γ.br i=false):∀{e:Expr} {f:VF D} {L:List Nat},rD nm e=some (f,L)->SE X Γ E e f L .v/\isStar e=false
 | .Name x p,f,L,h=>by
  rw [rD] at h
  obtain⟨i,q,e⟩:=map_so h
  cases e
  obtain⟨h1,h2,h3,h4⟩:=nmOk_at hc q
  exact⟨se_nv i (hb i) h1 h2 h3 h4,rfl⟩
 | .Constant c j p,f,L,h=>by
  rw [rD] at h
  obtain⟨d,q,e⟩:=map_so h
  cases e
  cases c <;> first | (cases q;first |exact⟨se_int,rfl⟩ |exact⟨se_bl,rfl⟩ |exact⟨se_non,rfl⟩ |exact⟨se_str,rfl⟩) |cases q
 | .UnaryOp op a p,f,L,h=>by
  rw [rD] at h
  obtain⟨i,q,e⟩:=map_so h
  cases e
  cases op <;> first | (cases q;done) |skip
  obtain⟨j,p,rfl⟩:=intK_ok q
  exact⟨se_un un_neg p_neg se_int,rfl⟩
 | .BinOp a op b p,f,L,h=>by
  rw [rD] at h
  split at h
  ·rename_i ho
   obtain rfl:=isPow_ok ho
   obtain⟨i,q,h⟩:=bind_so h
   obtain⟨j,q2,e⟩:=map_so h
   cases e
   obtain⟨j1,p1,rfl⟩:=intK_ok q
   obtain⟨j2,p2,rfl⟩:=intK_ok q2
   exact⟨se_op op_pow p_pow se_int se_int,rfl⟩
  ·cases h
 | .Dict ks vs p,f,L,h=>by
  rw [rD] at h
  obtain⟨r,q,e⟩:=map_so h
  cases e
  obtain⟨_,_,_,_,rfl,rfl⟩:=dicK_ok q
  exact⟨se_dic1,rfl⟩
 | .Tuple es c p,f,L,h=>by
  rw [rD] at h
  obtain⟨r,q,e⟩:=map_so h
  cases e
  exact⟨se_tup (rDs_ok hc hb q),rfl⟩
 | .List es p,f,L,h=>by
  rw [rD] at h
  obtain⟨r,q,e⟩:=map_so h
  cases e
  exact⟨SE.wv (se_lst (rDs_ok hc hb q)),rfl⟩
 | .BoolOp ..,_,_,h=>by rw [rD] at h;cases h
 | .NamedExpr ..,_,_,h=>by rw [rD] at h;cases h
 | .Lambda ..,_,_,h=>by rw [rD] at h;cases h
 | .IfExp ..,_,_,h=>by rw [rD] at h;cases h
 | .Set ..,_,_,h=>by rw [rD] at h;cases h
 | .ListComp ..,_,_,h=>by rw [rD] at h;cases h
 | .SetComp ..,_,_,h=>by rw [rD] at h;cases h
 | .DictComp ..,_,_,h=>by rw [rD] at h;cases h
 | .GeneratorExp ..,_,_,h=>by rw [rD] at h;cases h
 | .Await ..,_,_,h=>by rw [rD] at h;cases h
 | .Yield ..,_,_,h=>by rw [rD] at h;cases h
 | .YieldFrom ..,_,_,h=>by rw [rD] at h;cases h
 | .Compare ..,_,_,h=>by rw [rD] at h;cases h
 | .Call ..,_,_,h=>by rw [rD] at h;cases h
 | .FormattedValue ..,_,_,h=>by rw [rD] at h;cases h
 | .JoinedStr ..,_,_,h=>by rw [rD] at h;cases h
 | .Attribute ..,_,_,h=>by rw [rD] at h;cases h
 | .Subscript ..,_,_,h=>by rw [rD] at h;cases h
 | .Starred ..,_,_,h=>by rw [rD] at h;cases h
 | .Slice ..,_,_,h=>by rw [rD] at h;cases h
theorem rDs_ok (hc:nmOk X.N X.env.scope nm=true)(hb:∀i,Γ.br i=false):∀{es:List Expr} {f:VF (List D)} {L:List Nat},rDs nm es=some (f,L)->SA X Γ E es f L
 | [],f,L,h=>by rw [rDs] at h;cases h;exact sa_nil
 |e :: es,f,L,h=>by
  rw [rDs] at h
  obtain⟨r,q,h⟩:=bind_so h
  obtain⟨r2,q2,e⟩:=map_so h
  cases e
  obtain⟨a,b⟩:=rD_ok hc hb q
  exact sa_cons a (rDs_ok hc hb q2) (star_cons b)
end
theorem sw_list {es:List Expr}{p:Pos}{t:Option Expr}{l:Nat}{env:Env}:swapsWith (.List es p) t l env=pure false:=rfl
theorem se_rL {es:List Expr}{f:VF (List D)}{L:List Nat}{pos:Pos}(nm:List (Str×Nat))(hc:nmOk X.N X.env.scope nm=true)(hb:∀i,Γ.br i=false)(h:rDs nm es=some (f,L)):SE X Γ E (.List es pos) (fLst f) L .w:=se_lst (rDs_ok hc hb h)
theorem ss_rL {i:Nat}{x:Str}{es:List Expr}{f:VF (List D)}{L:List Nat}{pos' p pos:Pos}(nm:List (Str×Nat))(hc:nmOk X.N X.env.scope nm=true)(hb:∀i,Γ.br i=false)(h:rDs nm es=some (f,L))(hN:X.N.Nodup)(hi:X.N[i]? =some x)(hx:Loc X.env.scope x)(hf:X.fn x=true\/X.env.scope.names.lookup x=some .local) :
  SS X Γ E (.Assign [.Name x pos'] (.List es p) pos) (mSet i L (fLst f)):=ss_set (SE.wv (se_rL nm hc hb h)) hN hi hx sw_list hf
end
end L2

end

section
namespace HT
open PySem PyProof.Rows PySem.Builtin PyProof
theorem fm_congr {α β:Type}{f g:α->Option β}:∀{l:List α},(∀m,m∈l->f m=g m)->l.filterMap f=l.filterMap g
 | [],_=>rfl
 |x :: l,h=>by rw [List.filterMap_cons,List.filterMap_cons,h x (List.mem_cons_self ..),fm_congr fun m hm=>h m (List.mem_cons_of_mem _ hm)]
theorem pick_back {α:Type}(xs:Array α):((List.range xs.size).filterMap fun (m:Nat)=>xs[(((xs.size:Int) - 1) + (m:Int) * (-1)).toNat]?)=xs.toList.reverse:=by
 have e:∀m,m∈List.range xs.size->xs[(((xs.size:Int) - 1) + (m:Int) * (-1)).toNat]? =xs.toList.reverse[m]?:=fun m hm=>by
  have hm:=List.mem_range.mp hm
  rw [List.getElem?_reverse (by simpa using hm)]
  have:(((xs.size:Int) - 1) + (m:Int) * (-1)).toNat=xs.toList.length - 1 - m:=by simp;omega
  rw [this]
  simp
 have e2:((List.range xs.size).filterMap fun (m:Nat)=>xs[(((xs.size:Int) - 1) + (m:Int) * (-1)).toNat]?)=(List.range xs.toList.reverse.length).filterMap fun m=>xs.toList.reverse[m]?:=by
  rw [List.length_reverse,Array.length_toList]
  exact fm_congr e
 rw [e2]
 generalize xs.toList.reverse=l
 clear e e2
 apply List.ext_getElem?
 intro i
 have key:∀n,n<=l.length->(List.range n).filterMap (fun m=>l[m]?)=l.take n:=by
  intro n
  induction n with
  |zero=>intro _;simp
  |succ n ih=>
   intro hn
   rw [List.range_succ,List.filterMap_append,ih (by omega),List.take_succ,List.getElem?_eq_getElem (by omega)]
   simp [List.getElem?_eq_getElem (show n < l.length by omega)]
 rw [key l.length (Nat.le_refl _),List.take_length]
end HT
namespace L2
open PySem PySem.Spec PyProof.Rows
section
variable {X:Cx}{Γ:Fx}{E:XK}{e a:Expr}{te:TE}{fa:VF D}{La:List Nat}{ma:Md}{pos p2 p3 p4:Pos}{j:Nat}
theorem Rps.reverse {K:PySem.W.Frag}{G:Hp}:∀{xs:List V} {ds:List D},Rps K G xs ds->Rps K G xs.reverse ds.reverse
 |_,_,.nil=>.nil
 |_,_,.cons h hs=>by rw [List.reverse_cons,List.reverse_cons];exact (Rps.reverse hs).snoc h
end
end L2

end

section
namespace L2
open PySem PySem.Spec PyProof.Rows
theorem pick_rev (items:Array Value):slicePick items none none (some (-1))=items.toList.reverse.toArray:=by
 have e:slicePick items none none (some (-1))=(((List.range (if ((items.size:Int) - 1) > -1 then (((items.size:Int) - 1) - (-1) - (-1) - 1) / (-(-1)) else 0).toNat).map fun (k:Nat)=>(((items.size:Int) - 1) + (-1) * (k:Int)).toNat).filterMap (items[·]?)).toArray:=rfl
 rw [e]
 have ec:(if ((items.size:Int) - 1) > -1 then (((items.size:Int) - 1) - (-1) - (-1) - 1) / (-(-1)) else 0).toNat=items.size:=by
  rw [show (-(-1:Int))=1 by rfl,Int.ediv_one]
  split <;> omega
 rw [ec,List.filterMap_map]
 congr 1
 rw [<-HT.pick_back]
 refine HT.fm_congr fun m _=>?_
 show items[(((items.size:Int) - 1) + (-1) * (m:Int)).toNat]? =items[(((items.size:Int) - 1) + (m:Int) * (-1)).toNat]?
 rw [Int.mul_comm]
section
variable {X:Cx}{Γ:Fx}{E:XK}{e a:Expr}{te:TE}{fa:VF D}{La:List Nat}{ma:Md}{pos p2 p3 p4:Pos}{j:Nat}
theorem pe_backL (he:PE X e te):PE X (.Subscript e (.Slice none none (some (.UnaryOp .USub (.Constant (.int 1) j p3) p4)) p2) pos) (fun σ H Q=>te σ H fun x H1=>∃a xs,x=.ref a/\SqL X.K H1 a xs/\∀l,H1 l=none->Q (.ref l) (upd H1 l (.lst xs.reverse))):=by
 intro pins s σ H Q I h
 refine Subscript_ (thn (he pins s σ H _ I h) fun v s1 ⟨x,H1,I1,r1,q1⟩=>?_)
 obtain⟨a,xs,rfl,hx,q⟩:=q1
 cases r1
 refine wpAny_Slice ?_
 rw [evalPart_none]
 refine wpAny_pure (wpAny_pure ?_)
 refine thn (po_some (pe_un un_neg pe_int) pins s1 σ H1 (fun o H2=>o=some (-1)/\H2=H1) I1 ⟨1,rfl, -1,rfl,rfl,rfl⟩) fun vs s2 ⟨o,H2,I2,ps,q2,q3⟩=>?_
 subst q2 q3
 have I3:Inv X pins σ H2 {s2 with heap:=s2.heap.push {cls:=.type "slice",data:=.fields #[.none,.none,vs]}}:=I2.kept (t':=s2.toks) fun b ob q=>Heap.get?_push_of_some _ q
 obtain⟨its,r,ht,hz⟩:=I3.list hx
 have hlen:=r.length
 show wpAny (model X.prog X.w) X.A (subscriptTail e (.Slice none none (some (.UnaryOp .USub (.Constant (.int 1) j p3) p4)) p2) (.ref a) (.ref s2.heap.objs.size)) (EP X pins σ Q) X.xe {s2 with heap:=s2.heap.push {cls:=.type "slice",data:=.fields #[.none,.none,vs]}}
 refine tail_any (ops:=[.ref a,.ref s2.heap.objs.size]) ht.isList.typeIs slot_list_getitem.lookup ?_ (by with_unfolding_all rfl)
 refine wpAny_getItem_list_slice ht.isList (Heap.IsSliceOf.new ..) .none .none ps (by simp) ?_ (by rw [List.size_toArray] <;> omega)
 rw [pick_rev]
 refine⟨.ref _,_,I3.laid (t':=s2.toks) (o:=.lst xs.reverse) (fun b ob q=>Heap.get?_push_of_some _ q) (Nat.le_refl _) ?_,rfl,q _ (I3.hok.fresh (Nat.le_refl _))⟩
 exact⟨by rw [List.length_reverse];exact hz,_,0,r.reverse,Heap.get?_push_size _ rfl⟩
def gRevL:D->Option D
 | .list ds=>some (.list ds.reverse)
 |_=>none
theorem se_backL (hK:X.K=Γ.K)(ha:SE X Γ E a fa La ma):SE X Γ E (.Subscript a (.Slice none none (some (.UnaryOp .USub (.Constant (.int 1) j p3) p4)) p2) pos) (f1 fa gRevL) La .w:=by
 refine PE.post' (pe_backL ha) ?_
 rintro σ H Q ⟨env,G,B,β,I,o⟩
 refine⟨env,G,B,β,I,o.bnd.imp fun d1 β1 h x G1 H1 I1 s1 m1 vx=>?_⟩
 have bx:=vx.brw I.boxThere
 obtain⟨d,e,k⟩:=h.of
 cases d1 with
 |list ds=>
  cases e
  obtain⟨p,xs,rfl,hq,r⟩:=bx.list I1.sub
  rw [hK]
  refine⟨p,xs,rfl,.inl hq,fun l hl=>?_⟩
  have x:=Ext.own I1.sub (o:=.lst xs.reverse) hl
  exact k _ _ _ (I1.ext x) s1 (m1.trans (x.hh.mov B)) ⟨l,rfl,back_none m1 I1.boxThere hl,I1.sub.free hl,xs.reverse,upd_same,r.reverse⟩
 |_=>cases e
end
end L2

end

section
namespace L2
open PySem PySem.Spec PyProof.Rows
def rNil (K:PySem.W.Frag):R2:=fun x y H Q=>∃a b xs,x=.ref a/\y=.ref b/\SqL K H a xs/\SqL K H b []/\Q (.bl xs.isEmpty) H
theorem op_eqNil {X:Cx}(hu:X.A.units + 64 < cLine):OpR X (compareOp .Eq) (rNil X.K):=by
 intro pins s σ H x y v u Q I rx ry h
 obtain⟨a,b,xs,rfl,rfl,ha,hb,q⟩:=h
 cases rx
 cases ry
 obtain⟨its,r,ht,hz⟩:=I.list ha
 obtain⟨its2,r2,ht2,hz2⟩:=I.list hb
 cases r2
 cases r with
 |nil=>exact PySem.SeqAt.eq_listAt (e:=fun _=>true) ht.isList ht2.isList rfl (by omega) (fun j h1 _=>absurd h1 (by simp)) ⟨.bl true,H,I,rfl,q⟩
 |cons _ _=>exact PySem.SeqAt.eq_list_lengthsAt ht.isList ht2.isList (by simp) (by omega) ⟨.bl false,H,I,rfl,q⟩
def gEqNil:D->D->Option D
 | .list ds,.list []=>some (.bool ds.isEmpty)
 |_,_=>none
theorem p_eqNil {K:PySem.W.Frag}:Pr2 K (rNil K) gEqNil .v:=by
 intro B G H x y dx dy d Q s hB bx by' e k
 cases dx with
 |list ds=>
  cases dy with
  |list es=>
   cases es with
   |nil=>
    cases e
    obtain⟨p,xs,rfl,hq,r⟩:=bx.list s
    obtain⟨p2,ys,rfl,hq2,r2⟩:=by'.list s
    cases r2
    refine⟨p,p2,xs,rfl,rfl,.inl hq,.inl hq2,?_⟩
    have:xs.isEmpty=ds.isEmpty:=by cases r <;> rfl
    rw [this]
    exact k _ G H (Ext.refl s) (.bl _)
   |cons _ _=>cases e
  |_=>cases e
 |_=>cases e
end L2

end

section

end

section

end

section

end

section
namespace L2
open PySem
section
variable {K:PySem.W.Frag}{h:Heap}{mg:Str->Option Value}
theorem ln1 {α:Type}{P:List α->Prop}(q:∀a,P [a]):∀us:List α,us.length=1->P us
 | [a],_=>q a
theorem ln2 {α:Type}{P:List α->Prop}(q:∀a b,P [a,b]):∀us:List α,us.length=2->P us
 | [a,b],_=>q a b
theorem ln3 {α:Type}{P:List α->Prop}(q:∀a b c,P [a,b,c]):∀us:List α,us.length=3->P us
 | [a,b,c],_=>q a b c
theorem ln4 {α:Type}{P:List α->Prop}(q:∀a b c d,P [a,b,c,d]):∀us:List α,us.length=4->P us
 | [a,b,c,d],_=>q a b c d
def BindOk (x:Str)(st:Stmt)(ps:List Str):Prop:=∀(kV doc pm:Value) (an:Option Addr) (cdv ct:Value) (us:List Value),us.length=ps.length->bindArgs (PySem.W.fnOf x x (defArgs st) (defBody st) (defScope st) .none kV doc pm an cdv ct) ⟨us,[]⟩=pure (ps.zip us)
structure Fo (K:PySem.W.Frag)(mg:Str->Option Value)(x:Str)(st:Stmt)(ps:List Str):Prop where
 ex:∃f fd,FnK K mg x st ps f fd
theorem fo_mk {x:Str}{st:Stmt}{ps:List Str}{f:Addr}{oc:Value}{od an:Option Addr}{sl:Array (Option Value)}{kV doc pm cdv ct:Value}(X:K.In h)(G:h.Ns mainGlobals mg)(b:BindOk x st ps)(a:PySem.W.nsIn K mainGlobals x=some (some (.ref f)))
  (l:K.lookup f=some ⟨oc,od,.func (PySem.W.fnOf x x (defArgs st) (defBody st) (defScope st) .none kV doc pm an cdv ct),sl⟩) (c:PySem.W.codeIn K cdv x=true) (k:PySem.W.keepIn K (.ref f)=true):Fo K mg x st ps:=
 ⟨⟨f,_,PySem.W.mg_of X G a,fun_mk l c k,(fun_mk l c k).binds b⟩⟩
def btl:List Str:=["len","range","enumerate","zip","min","max","sum","abs","sorted","reversed","int","str","bool","list","tuple","dict","set","isinstance","repr","any","all","divmod"]
def btB (K:PySem.W.Frag):Bool:=btl.all fun x=>match PySem.W.nsIn K mainGlobals x with
 |some none=>true
 |_=>false
theorem btB_at (q:btB K=true){x:Str}(hx:x∈btl):PySem.W.nsIn K mainGlobals x=some none:=by
 have:=List.all_eq_true.mp q x hx
 split at this
 ·assumption
 ·cases this
theorem bt_mk (X:K.In h)(G:h.Ns mainGlobals mg)(q:btB K=true):BtK mg:=by
 have key:∀{x:Str},x∈btl->mg x=none:=fun hx=>PySem.W.mg_none_of X G (btB_at q hx)
 constructor <;> exact key (by decide)
end
end L2

end

section

end

section

end

section

end

section

end

section
namespace HD
open PySem PySem.W
noncomputable abbrev stepQ:=@PySem.W.Fast.tw10156331382660048174
noncomputable abbrev denQ:=@PySem.W.Fast.tw11892475500146522536
noncomputable abbrev okQ:=@PySem.W.Fast.tw6613529449190102663
noncomputable abbrev tabQ:=@PySem.W.Fast.tw14364793385576792824
noncomputable abbrev codeQ:=@PySem.W.Fast.tw17154629097778926822
noncomputable abbrev frameQ:=@PySem.W.Fast.tw12822647523644345616
noncomputable def stubQ (p:Program):Thread:=
 ⟨do
  let code <-codeQ p.main
  let frame <-frameQ code mainNs mainNs
  let _ <-run (.body (behindTheImports p) {scope:=p.main.scope,locals:=mainNs,globals:=mainNs,cells:=[],code,frame:=some frame})
  ret .none,
  .builtin "claim.caller" {},default,[]⟩
theorem stubQ_eq (p:Program):topStub p=stubQ p:=by
 unfold topStub stubQ codeQ frameQ
 rw [<-PySem.W.Fast.te17154629097778926822,<-PySem.W.Fast.te12822647523644345616]
noncomputable def topRunQ (p:Program)(w:World)(n₀:Nat)(ann:Option Value):Nat->SharedT->Thread->Option SharedT
 | 0,_,_=>none
 |n + 1,s,t=>match through t with
  |true=>some s
  |false=>match okQ n₀ ann t with
   |false=>none
   |true=>match stepQ (denQ tabQ) p w s t with
    |some (s',t')=>topRunQ p w n₀ ann n s' t'
    |none=>none
theorem topRun_of {p:Program}{w:World}{n₀:Nat}{ann:Option Value}:∀{n:Nat} {s s':SharedT} {t:Thread},topRunQ p w n₀ ann n s t=some s'->topRun treeTable p w n₀ ann n s.abs t=some s'.abs
 | 0,_,_,_,h=>by cases h
 |n + 1,s,s',t,h=>by
  unfold topRunQ at h
  unfold topRun
  cases ht:through t with
  |true=>rw [ht] at h;cases h;rfl
  |false=>
   rw [ht] at h
   have hq:okQ n₀ ann t=stepOk n₀ ann t:=by unfold okQ;rw [<-PySem.W.Fast.te6613529449190102663]
   dsimp only at h
   rw [hq] at h
   cases hk:stepOk n₀ ann t with
   |false=>rw [hk] at h;cases h
   |true=>
    rw [hk] at h
    have hq:stepQ (denQ tabQ) p w s t=stepT (denote treeTable) p w s t:=by unfold stepQ denQ tabQ;rw [<-PySem.W.Fast.te10156331382660048174,<-PySem.W.Fast.te11892475500146522536,<-PySem.W.Fast.te14364793385576792824]
    dsimp only at h
    rw [hq] at h
    cases hs:stepT (denote treeTable) p w s t with
    |none=>rw [hs] at h;cases h
    |some r=>obtain⟨s₂,t₂⟩:=r;rw [hs] at h;rw [stepT_spec hs];exact topRun_of h
def treeOf (l:List Obj):BT:=(l.foldl (fun (x:BT×Nat) o=>(x.1.ins x.2 o,x.2 + 1)) (.nil,0)).1
noncomputable def bootT (P:Params):BT:=treeOf (boot_heap P).objs.toList
abbrev bootN:Nat:=11
abbrev bootL:Life:={}
theorem boot_abs (P:Params):absHeap (bootT P) bootN bootL=boot_heap P:=by kernel_rfl
theorem boot_size (w:World):((boot_heap w.params).isNs mainGlobals && (Array.mk ([]:List GenState)).size == 0,(boot_heap w.params).objs.size,(boot_heap w.params).nsMap mainGlobals "__annotations__")=(true,bootN,some (.ref 6)):=by kernel_rfl
noncomputable def start0 (w:World)(os:OsState):SharedT:=⟨bootT w.params,bootN,bootL,Array.mk [],boot_drawn,boot_toks,os⟩
noncomputable def looks (p:Program)(w:World)(s:Shared):Bool:=staticsOk (importedModules p.main.body) (boot_heap w.params) s.heap && namesBound p s.heap && gensDone s && laidKept (boot_heap w.params) s.heap
theorem left_of {p q:Program}{loose:List Str}{Xt:Shared->Bool}{α:Type}{Yf:Shared->α}{Ya:World->α}{N:Nat}{g0:Bool}
  (e:opening p=plainProg p.main.scope.names) (hN:Nat.ble 600 N=true) (f:∀s,fenceModules? p s=some s)
  (run:∀(w:World) (os:OsState),(topRunQ p w bootN (some (.ref 6)) N (start0 w os) (stubQ p)).map (fun s=>(looks p w s.abs,openSeen q loose (importedModules p.main.body) Xt g0 s.abs,Yf s.abs))=some (true,openGood q loose,Ya w)):LeftO p q loose Xt Yf Ya N g0:=fun w=>by
 obtain⟨⟨h,gs,d,k,os⟩,e,e'⟩:=Option.map_eq_some_iff.mp (boot_open e hN f w)
 obtain⟨rfl,rfl,rfl,rfl⟩:h=boot_heap w.params/\gs=Array.mk []/\d=boot_drawn/\k=boot_toks:=by simpa using e'
 obtain⟨z1,z2,z3⟩:_/\_/\_:=by simpa only [Prod.mk.injEq] using boot_size w
 obtain⟨s',r,ls⟩:=Option.map_eq_some_iff.mp (run w os)
 obtain⟨l1,l2,l3⟩:_/\_/\_:=by simpa only [Prod.mk.injEq] using ls
 have r:=topRun_of r
 have ha:(start0 w os).abs=⟨boot_heap w.params,Array.mk [],boot_drawn,boot_toks,os⟩:=by
  show Shared.mk (absHeap (bootT w.params) bootN bootL) _ _ _ _=_
  rw [boot_abs]
  rfl
 rw [ha,<-stubQ_eq] at r
 have t:topFrom treeTable p w N ⟨boot_heap w.params,Array.mk [],boot_drawn,boot_toks,os⟩=some s'.abs:=by
  unfold topFrom
  dsimp only
  rw [z1,z2,z3,r]
  show (match looks p w s'.abs with |true=>_ |false=>_)=_
  rw [l1]
 unfold openEnds
 rw [e]
 show (topFrom treeTable p w N _).map _=_
 rw [t]
 exact congrArg some (Prod.ext l2 l3)
end HD

end

section
namespace L2
open PySem
section
variable {α γ:Type}
@[simp] theorem bnd_ok (a:α)(β:Int)(k:α->Int->R γ):(R.ok a β).bnd k=k a β:=rfl
@[simp] theorem bnd_exc (c:Str)(k:α->Int->R γ):(R.exc c:R α).bnd k=.exc c:=rfl
@[simp] theorem bnd_bad (k:α->Int->R γ):(R.bad:R α).bnd k=.bad:=rfl
@[simp] theorem okb_ok (a:α)(β:Int)(k:α->Int->R γ):(R.ok a β).okb k=k a β:=rfl
@[simp] theorem of_some (a:α)(β:Int):R.of (some a) β=.ok a β:=rfl
@[simp] theorem of_none (β:Int):(R.of none β:R α)=.bad:=rfl
@[simp] theorem toS_ok (a:α)(β:Int)(k:α->Int->SO):toS (.ok a β) k=k a β:=rfl
@[simp] theorem toS_exc (c:Str)(k:α->Int->SO):toS (.exc c:R α) k=.exc c:=rfl
@[simp] theorem toS_bad (k:α->Int->SO):toS (.bad:R α) k=.bad:=rfl
end
section
variable (f fa fb fc:VF D)(t u:VF Bool)(m m':SF)(vs:List Nv)(β:Int)(env:En)(i j:Nat)(L:List Nat)
@[simp] theorem gv_eq:gv i vs β=R.of (dat vs[i]?) β:=rfl
@[simp] theorem dat_da (d:D):dat (some (.da d))=some d:=rfl
@[simp] theorem cst_eq (d:D):cst d vs β=.ok d β:=rfl
@[simp] theorem f1_eq (g:D->Option D):f1 fa g vs β=(fa vs β).bnd fun x β1=>R.of (g x) β1:=rfl
@[simp] theorem f2_eq (g:D->D->Option D):f2 fa fb g vs β=(fa vs β).bnd fun x β1=>(fb vs β1).bnd fun y β2=>R.of (g x y) β2:=rfl
@[simp] theorem aNil_eq:aNil vs β=.ok [] β:=rfl
@[simp] theorem aCons_eq (fr:VF (List D)):aCons fa fr vs β=(fa vs β).bnd fun x β1=>(fr vs β1).bnd fun xs β2=>.ok (x :: xs) β2:=rfl
@[simp] theorem tTr_eq:tTr fa vs β=(fa vs β).bnd fun x β1=>R.of (truD x) β1:=rfl
@[simp] theorem tNt_eq:tNt t vs β=(t vs β).bnd fun c β1=>.ok (!c) β1:=rfl
@[simp] theorem tAn_eq:tAn t u vs β=(t vs β).bnd fun c β1=>if c=true then u vs β1 else .ok false β1:=rfl
@[simp] theorem tOrr_eq:tOrr t u vs β=(t vs β).bnd fun c β1=>if c=true then .ok true β1 else u vs β1:=rfl
@[simp] theorem tN_eq (n:Bool):tN fa n vs β=(fa vs β).bnd fun x β1=>.ok (if n then !isNn x else isNn x) β1:=rfl
@[simp] theorem fIf_eq:fIf t fa fb vs β=(t vs β).bnd fun c β1=>if c=true then fa vs β1 else fb vs β1:=rfl
@[simp] theorem tBl_ok (c:Bool){β1:Int}(h:fa vs β=.ok (.bool c) β1):tBl fa vs β=.ok c β1:=by unfold tBl;rw [h];rfl
@[simp] theorem vl_nil:vl []= []:=rfl
@[simp] theorem vl_cons (s:Sl):vl (s :: env)=s.val :: vl env:=rfl
@[simp] theorem val_fz (d:D):(Sl.fz d).val=.da d:=rfl
@[simp] theorem val_ow (d:D):(Sl.ow d).val=.da d:=rfl
@[simp] theorem val_no:Sl.no.val=.no:=rfl
@[simp] theorem val_bx:Sl.bx.val=.bx:=rfl
@[simp] theorem frz_nil:frz [] env=env:=rfl
@[simp] theorem frz_cons:frz (i :: L) env=frz L (frz1 env i):=rfl
@[simp] theorem mSeq_eq:mSeq m m' env β=(match m env β with
 | .nx env' β'=>m' env' β'
 |r=>r):=rfl
@[simp] theorem mIf_eq:mIf L t m m' env β=toS (t (vl env) β) fun c β'=>if c=true then m (frz L env) β' else m' (frz L env) β':=rfl
@[simp] theorem mRet_eq:mRet f env β=toS (f (vl env) β) fun d β'=>.rt d false β':=rfl
@[simp] theorem mRetW_eq:mRetW f env β=toS (f (vl env) β) fun d β'=>.rt d true β':=rfl
@[simp] theorem mNx_eq:mNx env β=.nx env β:=rfl
@[simp] theorem mSet_eq:mSet i L f env β=toS (f (vl env) β) fun d β'=>.nx ((frz L env).set i (.fz d)) β':=rfl
@[simp] theorem mSetO_eq:mSetO i L f env β=toS (f (vl env) β) fun d β'=>.nx ((frz L env).set i (.ow d)) β':=rfl
@[simp] theorem mExpr_eq:mExpr L f env β=toS (f (vl env) β) fun _ β'=>.nx (frz L env) β':=rfl
end
theorem mSeq_nx {m m':SF}{env env':En}{β β':Int}(h:m env β=.nx env' β'):mSeq m m' env β=m' env' β':=by unfold mSeq;rw [h]
theorem mSeq_rt {m m':SF}{env:En}{β β':Int}{d:D}{b:Bool}(h:m env β=.rt d b β'):mSeq m m' env β=.rt d b β':=by unfold mSeq;rw [h]
theorem mIf_t {L:List Nat}{t:VF Bool}{m m':SF}{env:En}{β β':Int}(h:t (vl env) β=.ok true β'):mIf L t m m' env β=m (frz L env) β':=by unfold mIf;rw [h];rfl
theorem mIf_f {L:List Nat}{t:VF Bool}{m m':SF}{env:En}{β β':Int}(h:t (vl env) β=.ok false β'):mIf L t m m' env β=m' (frz L env) β':=by unfold mIf;rw [h];rfl
theorem callV_ok {F:List D->FR}{fr:VF (List D)}{vs:List Nv}{β β1:Int}{ds:List D}{d:D}{b:Bool}(h:fr vs β=.ok ds β1)(e:F ds=.ok d b):callV F fr vs β=.ok d β1:=by unfold callV;rw [h];dsimp only [R.bnd];rw [e]
theorem callW_ok {F:List D->FR}{fr:VF (List D)}{vs:List Nv}{β β1:Int}{ds:List D}{d:D}(h:fr vs β=.ok ds β1)(e:F ds=.ok d true):callW F fr vs β=.ok d β1:=by unfold callW;rw [h];dsimp only [R.bnd];rw [e]
theorem f1_ok {fa:VF D}{g:D->Option D}{vs:List Nv}{β β1:Int}{x d:D}(h:fa vs β=.ok x β1)(e:g x=some d):f1 fa g vs β=.ok d β1:=by unfold f1;rw [h];dsimp only [R.bnd];rw [e];rfl
theorem f2_ok {fa fb:VF D}{g:D->D->Option D}{vs:List Nv}{β β1 β2:Int}{x y d:D}(h:fa vs β=.ok x β1)(h':fb vs β1=.ok y β2)(e:g x y=some d):f2 fa fb g vs β=.ok d β2:=by unfold f2;rw [h];dsimp only [R.bnd];rw [h'];dsimp only [R.bnd];rw [e];rfl
theorem cbV_ok {i:Nat}{F:List D->Int->FB}{fr:VF (List D)}{vs:List Nv}{β β1 β2:Int}{ds:List D}{d:D}{b:Bool}(hi:isBx vs i=true)(h:fr vs β=.ok ds β1)(e:F ds β1=.ok d b β2):cbV i F fr vs β=.ok d β2:=by unfold cbV;rw [if_pos hi,h];dsimp only [R.bnd];rw [e]
theorem sz (n:Nat)(h:n<=1000):n<=sizeLine:=by rw [sizeLine_eq];omega
theorem szlt (n:Nat)(h:n<=1000):n < sizeLine:=by rw [sizeLine_eq];omega
theorem fTup_ok {fr:VF (List D)}{vs:List Nv}{β β1:Int}{ds:List D}(h:fr vs β=.ok ds β1)(hz:ds.length<=1000):fTup fr vs β=.ok (.tuple ds) β1:=by unfold fTup;rw [h];exact if_pos (sz _ hz)
theorem fLst_ok {fr:VF (List D)}{vs:List Nv}{β β1:Int}{ds:List D}(h:fr vs β=.ok ds β1)(hz:ds.length<=1000):fLst fr vs β=.ok (.list ds) β1:=by unfold fLst;rw [h];exact if_pos (sz _ hz)
theorem onL_ok {i:Nat}{env:En}{β:Int}{g:List D->Option (List D)}{ds es:List D}(h:env[i]? =some (.ow (.list ds)))(e:g ds=some es):onL i env β g=.nx (env.set i (.ow (.list es))) β:=by unfold onL;rw [h];dsimp only;rw [e]
theorem mApp_ok {i:Nat}{L:List Nat}{f:VF D}{env:En}{β β':Int}{ds:List D}{d:D}(hi:env[i]? =some (.ow (.list ds)))(hf:f (vl env) β=.ok d β')(hL:(frz L env)[i]? =some (.ow (.list ds)))(hz:ds.length<=1000):mApp i L f env β=.nx ((frz L env).set i (.ow (.list (ds ++ [d])))) β':=by
 unfold mApp
 rw [if_pos (by rw [hi];rfl),hf]
 exact onL_ok hL (if_pos (szlt _ hz))
theorem mAppPop_ok {i j:Nat}{L:List Nat}{f:VF D}{env:En}{β β':Int}{ds es es':List D}{k d:D}(hi:env[i]? =some (.ow (.list ds)))(hj:env[j]? =some (.ow (.list es)))(hij:i≠j)(hf:f (vl env) β=.ok k β')(hL:frz L env=env)(hp:popD es k=some (d,es'))(hz:ds.length<=1000):mAppPop i j L f env β=.nx ((env.set j (.ow (.list es'))).set i (.ow (.list (ds ++ [d])))) β':=by
 unfold mAppPop
 rw [if_pos ⟨by rw [hi];rfl,by rw [hj];rfl,hij⟩,hf,hL]
 dsimp only [toS]
 rw [hj]
 dsimp only
 rw [hp]
 exact onL_ok (by rw [List.getElem?_set_ne (Ne.symm hij)];exact hi) (if_pos (szlt _ hz))
theorem compL_pure {t:Tg}{ft:VF Bool}{fe:VF D}{vs:List Nv}(g:D->Bool)(h:D->D):∀{ds:List D} {β:Int},(∀d,d∈ds->∃vs1,bindV t d vs=some vs1/\ft vs1 β=.ok (g d) β/\(g d=true->fe vs1 β=.ok (h d) β))->compL t ft fe vs ds β=.ok ((ds.filter g).map h) β
 | [],β,_=>rfl
 |d :: ds,β,hh=>by
  obtain⟨vs1,e1,e2,e3⟩:=hh d (List.mem_cons_self ..)
  have ih:=compL_pure (t:=t) (ft:=ft) (fe:=fe) (vs:=vs) g h (ds:=ds) (β:=β) fun d' hd=>hh d' (List.mem_cons_of_mem _ hd)
  unfold compL
  rw [e1]
  dsimp only
  rw [e2]
  dsimp only [R.okb]
  cases q:g d with
  |true=>
   rw [if_pos rfl,e3 q]
   dsimp only
   rw [ih,List.filter_cons_of_pos q];rfl
  |false=>
   rw [if_neg Bool.false_ne_true,ih,List.filter_cons_of_neg (by rw [q];exact Bool.false_ne_true)]
theorem fComp_pure {own:Nat}{ixs:List Nat}{t:Tg}{fi:VF (List D)}{ft:VF Bool}{fe:VF D}{vs:List Nv}{β β1:Int}{ds:List D}(g:D->Bool)(h:D->D)(hi:fi vs β=.ok ds β1)(hz:ds.length<=1000)
  (hh:∀d,d∈ds->∃vs1,bindV t d (bvals own ixs vs)=some vs1/\ft vs1 β1=.ok (g d) β1/\(g d=true->fe vs1 β1=.ok (h d) β1)):fComp own ixs t fi ft fe vs β=.ok (.list ((ds.filter g).map h)) β1:=by
 unfold fComp
 rw [hi]
 dsimp only [R.bnd]
 rw [if_pos (sz _ hz),compL_pure g h hh];rfl
theorem fComp_map {own:Nat}{ixs:List Nat}{t:Tg}{fi:VF (List D)}{fe:VF D}{vs:List Nv}{β β1:Int}{ds:List D}(h:D->D)(hi:fi vs β=.ok ds β1)(hz:ds.length<=1000)
  (hh:∀d,d∈ds->∃vs1,bindV t d (bvals own ixs vs)=some vs1/\fe vs1 β1=.ok (h d) β1):fComp own ixs t fi tYs fe vs β=.ok (.list (ds.map h)) β1:=by
 rw [fComp_pure (ft:=tYs) (fun _=>true) h hi hz fun d hd=>let ⟨vs1,e1,e2⟩:=hh d hd;⟨vs1,e1,rfl,fun _=>e2⟩]
 rw [List.filter_eq_self.mpr (fun _ _=>rfl)]
theorem fComp_mapO {α:Type}{own:Nat}{ixs:List Nat}{t:Tg}{fi:VF (List D)}{fe:VF D}{vs:List Nv}{β β1:Int}{l:List α}{e:α->D}(h:α->D)(hi:fi vs β=.ok (l.map e) β1)(hz:l.length<=1000)
  (hh:∀x,x∈l->∃vs1,bindV t (e x) (bvals own ixs vs)=some vs1/\fe vs1 β1=.ok (h x) β1):fComp own ixs t fi tYs fe vs β=.ok (.list (l.map h)) β1:=by
 unfold fComp
 rw [hi]
 dsimp only [R.bnd]
 rw [if_pos (sz _ (by rw [List.length_map];exact hz))]
 have key:∀m:List α,(∀x,x∈m->x∈l)->compL t tYs fe (bvals own ixs vs) (m.map e) β1=.ok (m.map h) β1:=by
  intro m
  induction m with
  |nil=>intro _;rfl
  |cons x m ih=>
   intro hm
   obtain⟨vs1,e1,e2⟩:=hh x (hm x (List.mem_cons_self ..))
   rw [List.map_cons]
   unfold compL
   rw [e1]
   dsimp only
   show (R.ok true β1).okb _=_
   dsimp only [R.okb]
   rw [if_pos rfl,e2]
   dsimp only
   rw [ih fun y hy=>hm y (List.mem_cons_of_mem _ hy)];rfl
 rw [key l fun _ h=>h];rfl
theorem fComp_filO {α:Type}{own:Nat}{ixs:List Nat}{t:Tg}{fi:VF (List D)}{ft:VF Bool}{fe:VF D}{vs:List Nv}{β β1:Int}{l:List α}{e:α->D}(g:α->Bool)(h:α->D)(hi:fi vs β=.ok (l.map e) β1)(hz:l.length<=1000)
  (hh:∀x,x∈l->∃vs1,bindV t (e x) (bvals own ixs vs)=some vs1/\ft vs1 β1=.ok (g x) β1/\(g x=true->fe vs1 β1=.ok (h x) β1)):fComp own ixs t fi ft fe vs β=.ok (.list ((l.filter g).map h)) β1:=by
 unfold fComp
 rw [hi]
 dsimp only [R.bnd]
 rw [if_pos (sz _ (by rw [List.length_map];exact hz))]
 have key:∀m:List α,(∀x,x∈m->x∈l)->compL t ft fe (bvals own ixs vs) (m.map e) β1=.ok ((m.filter g).map h) β1:=by
  intro m
  induction m with
  |nil=>intro _;rfl
  |cons x m ih=>
   intro hm
   obtain⟨vs1,e1,e2,e3⟩:=hh x (hm x (List.mem_cons_self ..))
   have ih:=ih fun y hy=>hm y (List.mem_cons_of_mem _ hy)
   rw [List.map_cons]
   unfold compL
   rw [e1]
   dsimp only
   rw [e2]
   dsimp only [R.okb]
   cases q:g x with
   |true=>
    rw [if_pos rfl,e3 q]
    dsimp only
    rw [ih,List.filter_cons_of_pos q];rfl
   |false=>
    rw [if_neg Bool.false_ne_true,ih,List.filter_cons_of_neg (by rw [q];exact Bool.false_ne_true)]
 rw [key l fun _ h=>h];rfl
theorem mFor_inv {t:Tg}{m:SF}(Pv:Nat->En->Int->Prop):∀{ds:List D} {k:Nat} {env:En} {β:Int},Pv k env β->
  (∀i d env β,ds[i]? =some d->Pv (k + i) env β->∃env1,bindE t d env=some env1/\∃env2 β2,m env1 β=.nx env2 β2/\Pv (k + i + 1) env2 β2)->∃env' β',mFor t m ds env β=.nx env' β'/\Pv (k + ds.length) env' β'
 | [],k,env,β,h0,_=>⟨env,β,rfl,h0⟩
 |d :: ds,k,env,β,h0,hs=>by
  obtain⟨env1,e1,env2,β2,e2,h1⟩:=hs 0 d env β rfl h0
  obtain⟨env',β',e3,h2⟩:=mFor_inv Pv (t:=t) (m:=m) (ds:=ds) (k:=k + 1) h1 fun i d' en be hi hp=>by
   have:=hs (i + 1) d' en be (by simpa using hi) (by rw [show k + (i + 1)=k + 1 + i by omega];exact hp)
   rw [show k + (i + 1) + 1=k + 1 + i + 1 by omega] at this
   exact this
  refine⟨env',β',?_,by rw [List.length_cons,show k + (ds.length + 1)=k + 1 + ds.length by omega];exact h2⟩
  unfold mFor
  rw [e1]
  dsimp only
  rw [e2]
  exact e3
theorem mWhile_inv {L:List Nat}{t:VF Bool}{m:SF}(Pv:Nat->En->Int->Prop)(Dn:En->Int->Prop):∀{n k:Nat} {env:En} {β:Int},k < n->Pv k env β->
  (∀k env β,Pv k env β->∃c β1,t (vl env) β=.ok c β1/\((c=false/\Dn (frz L env) β1)\/(c=true/\∃env2 β2 k',m (frz L env) β1=.nx env2 β2/\k' < k/\Pv k' env2 β2)))->∃env' β',mWhile L t m n env β=.nx env' β'/\Dn env' β'
 | 0,k,env,β,hk,_,_=>by omega
 |n + 1,k,env,β,hk,h0,hs=>by
  obtain⟨c,β1,e1,hc⟩:=hs k env β h0
  unfold mWhile
  rw [e1]
  dsimp only [toS]
  rcases hc with⟨rfl,hd⟩ | ⟨rfl,env2,β2,k',e2,hl,h1⟩
  ·exact⟨_,_,rfl,hd⟩
  ·rw [if_pos rfl,e2]
   exact mWhile_inv Pv Dn (n:=n) (k:=k') (by omega) h1 hs
end L2

end

section
namespace RM
open PySem L2
def m_is_whole:SF:=(mRet (fAnd (f1 (gv 0) (gIsi "int")) (f1 (f1 (gv 0) (gIsi "bool")) gNot)))
def m_is_below (F_is_whole:List D->FR):SF:=(mRet (fAnd (callV F_is_whole (aCons (gv 0) aNil)) (fChain (cst (.int 0)) (gv 0) (gv 1) gLe gLt)))
def m_is_many (F_is_whole:List D->FR):SF:=(mRet (fAnd (callV F_is_whole (aCons (gv 0) aNil)) (fChain (cst (.int 1)) (gv 0) (cst (.int 8)) gLe gLe)))
def m_is_pair (F_is_below:List D->FR):SF:=(mSeq (mIf ([] ++ ([] ++ [])) (tOrr (tNt (tTr (f1 (gv 0) (gIsi "tuple")))) (tBl (f2 (f1 (gv 0) gLen) (cst (.int 2)) (gEq true))))
 (mRet (cst (.bool false)))
 mNx)
 (mRet (fAnd (callV F_is_below (aCons (f2 (gv 0) (cst (.int 0)) gIx) (aCons (gv 1) aNil))) (callV F_is_below (aCons (f2 (gv 0) (cst (.int 1)) gIx) (aCons (gv 1) aNil))))))
def m_every_pair:SF:=(mRetW (fComp 1 [0] (.nm 0) (fRng1 (f2 (gv 0) (gv 0) gMulI)) tYs (fTup (aCons (f2 (gv 0) (gv 1) gFd) (aCons (f2 (gv 0) (gv 1) gMod) aNil)))))
def m_has_ring:SF:=(mRet (f1 (fComp 2 [] (.two 0 1) (fSeq (gv 0)) tYs (f2 (gv 0) (gv 1) (gEq false))) (gBools fun bs=>bs.any id)))
def m_is_order (F_is_many F_is_pair F_closed F_has_ring:List D->FR):SF:=(mSeq (mIf ([] ++ ([] ++ [])) (tOrr (tNt (tTr (f1 (gv 0) (gIsi "tuple")))) (tBl (f2 (f1 (gv 0) gLen) (cst (.int 2)) (gEq true))))
 (mRet (cst (.bool false)))
 mNx)
 (mSeq (mSet 1 ([] ++ []) (f2 (gv 0) (cst (.int 0)) gIx))
 (mSeq (mSet 2 ([] ++ []) (f2 (gv 0) (cst (.int 1)) gIx))
 (mSeq (mIf (([1] ++ []) ++ []) (tOrr (tNt (tTr (callV F_is_many (aCons (gv 1) aNil)))) (tNt (tTr (f1 (gv 2) (gIsi "tuple")))))
 (mRet (cst (.bool false)))
 mNx)
 (mSeq (mIf ([] ++ [1]) (tNt (tTr (f1 (fComp 1 [1] (.nm 0) (fSeq (gv 2)) tYs (callV F_is_pair (aCons (gv 0) (aCons (gv 1) aNil)))) (gBools fun bs=>bs.all id))))
 (mRet (cst (.bool false)))
 mNx)
 (mRet (fAnd (f2 (gv 2) (callV F_closed (aCons (gv 1) (aCons (gv 2) aNil))) (gEq false)) (f1 (callV F_has_ring (aCons (gv 2) aNil)) gNot))))))))
def m_need_order (F_is_order:List D->FR):SF:=(mIf ([0] ++ []) (tNt (tTr (callV F_is_order (aCons (gv 0) aNil))))
 (fun env β=>toS ((aCons (cst (.str "this is no order")) aNil) (vl env) β) fun ds _=>if ds.length<=sizeLine then .exc "NoOrder" else .bad)
 mNx)
def m_are_apart:SF:=(mRet (fAnd (f2 (gv 1) (gv 2) (gEq true)) (fAnd (f2 (fTup (aCons (gv 1) (aCons (gv 2) aNil))) (f2 (gv 0) (cst (.int 1)) gIx) (gIn true)) (f2 (fTup (aCons (gv 2) (aCons (gv 1) aNil))) (f2 (gv 0) (cst (.int 1)) gIx) (gIn true)))))
def m__law_cell:SF:=(mSeq (mIf ([] ++ []) (tBl (f2 (gv 1) (f1 (gv 0) gLen) gLt))
 (mRet (f2 (gv 0) (gv 1) gIx))
 mNx)
 (mRet (cst (.int 0))))
def m__law_mix:SF:=(mSeq (mSet 2 [] (fLst (cns [48271,69621,16807,39373,30269,40014,40692,50021,61687,71993,83869,95561,30307]))) (mSeq (mSet 3 ((((([] ++ []) ++ []) ++ ([] ++ ([] ++ []))) ++ ([] ++ [])) ++ ([] ++ ([] ++ []))) (f2 (f2 (f2 (f2 (f2 (gv 0) (cst (.int 2147483647)) gMod) (cst (.int 12345)) gAddI) (f2 (gv 2) (f2 (gv 1) (cst (.int 13)) gMod) gIx) gMulI) (f2 (cst (.int 977)) (gv 1) gMulI) gAddI) (f2 (cst (.int 7919)) (f2 (gv 1) (cst (.int 13)) gFd) gMulI) gAddI))
 (mSeq (mSet 3 ([] ++ []) (f2 (gv 3) (cst (.int 1000000007)) gMod))
 (mRet (f2 (f2 (f2 (f2 (gv 3) (gv 3) gMulI) (f2 (cst (.int 48271)) (gv 1) gMulI) gAddI) (cst (.int 1000000007)) gMod) (cst (.int 7)) gFd)))))
def m__law_box (F__law_cell F__law_mix:List D->FR):SF:=(mSeq (mSet 2 ([0] ++ ([1] ++ [])) (callV F__law_cell (aCons (gv 0) (aCons (gv 1) aNil))))
 (mSeq (mIf (([] ++ []) ++ []) (tBl (f2 (f2 (gv 2) (cst (.int 2)) gMod) (cst (.int 0)) (gEq false)))
 (mRetW (fLst (aCons (f2 (f1 (gv 2) gAbs) (cst (.int 2)) gFd) aNil)))
 mNx)
 (mSeq (mSet 3 [] (cst (.int 0)))
 (mSeq (mForS (.nm 4) [] (fRng1 (cst (.int 40)))
 (mSet 3 (([] ++ []) ++ ([2] ++ ([4] ++ []))) (f2 (f2 (gv 3) (cst (.int 142857143)) gMulI) (callV F__law_mix (aCons (gv 2) (aCons (gv 4) aNil))) gAddI)))
 (mRetW (fLst (aCons (gv 3) aNil)))))))
def m__law_mixed_up (F__law_take:List D->Int->FB):SF:=(mSeq (mSetO 2 [] (f1 (gv 1) gList))
 (mSeq (mSetO 3 [] (fLst aNil))
 (mSeq (mWhile ([] ++ []) (tBl (f2 (gv 2) (fLst aNil) (gEq true)))
 (mAppPop 3 2 ([] ++ []) (cbV 0 F__law_take (aCons (f1 (gv 2) gLen) aNil))) 1000)
 (mRetN 3))))
noncomputable def m__law_closed:SF:=(mSeq (mSet 1 [] (f1 (gv 0) gSortSet))
 (mSeq (mSet 2 [] (f1 (cst (.int 1)) gNeg))
 (mSeq (mWhile ([] ++ []) (tBl (f2 (gv 2) (f1 (gv 1) gLen) (gEq true)))
 (mSeq (mSet 2 [] (f1 (gv 1) gLen))
 (mSeq (mSet 3 [] (fLst aNil))
 (mSeq (mForS (.two 4 5) [1] (fSeq (gv 1))
 (mSet 3 ([] ++ ([] ++ [4])) (f2 (gv 3) (fComp 2 [5,4] (.two 0 1) (fSeq (gv 1)) (tBl (f2 (gv 0) (gv 2) (gEq false))) (fTup (aCons (gv 3) (aCons (gv 1) aNil)))) gCat)))
 (mSet 1 ([] ++ []) (f1 (f2 (gv 1) (gv 3) gCat) gSortSet))))) 1000)
 (mRet (f1 (gv 1) gTuple)))))
def m__law_order (F__law_closed:List D->FR)(F__law_take F__law_mixed_up:List D->Int->FB):SF:=(mSeq (mSet 2 ([] ++ ([1] ++ [])) (f2 (cst (.int 1)) (cbV 0 F__law_take (aCons (gv 1) aNil)) gAddI))
 (mSeq (mSet 3 ([] ++ []) (cbV 0 F__law_mixed_up (aCons (f1 (gv 2) gListRng) aNil)))
 (mSeq (mSet 4 (([] ++ ([] ++ ([] ++ ([] ++ [])))) ++ ([] ++ [])) (f2 (fLst (aCons (cst (.int 2)) (aCons (cst (.int 3)) (aCons (cst (.int 4)) (aCons (cst (.int 7)) aNil))))) (cbV 0 F__law_take (aCons (cst (.int 4)) aNil)) gIx))
 (mSeq (mSetO 5 [] (fLst aNil))
 (mSeq (mForS (.nm 6) [] (fRng1 (gv 2))
 (mForS (.nm 7) (([] ++ []) ++ []) (fRng2 (f2 (gv 6) (cst (.int 1)) gAddI) (gv 2))
 (mIf (([4] ++ []) ++ []) (tBl (f2 (cbV 0 F__law_take (aCons (gv 4) aNil)) (cst (.int 0)) (gEq false)))
 (mApp 5 (([] ++ []) ++ (([] ++ []) ++ [])) (fTup (aCons (f2 (gv 3) (gv 6) gIx) (aCons (f2 (gv 3) (gv 7) gIx) aNil))))
 mNx)))
 (mRet (fTup (aCons (gv 2) (aCons (callV F__law_closed (aCons (gv 5) aNil)) aNil)))))))))
def m__law_apart:SF:=(mRet (fAnd (f2 (gv 1) (gv 2) (gEq true)) (fAnd (f2 (fTup (aCons (gv 1) (aCons (gv 2) aNil))) (f2 (gv 0) (cst (.int 1)) gIx) (gIn true)) (f2 (fTup (aCons (gv 2) (aCons (gv 1) aNil))) (f2 (gv 0) (cst (.int 1)) gIx) (gIn true)))))
end RM

end

section
namespace RM
open PySem L2
def isWh:D->Bool
 | .int _=>true
 |_=>false
def wholeF:List D->FR
 | [d]=>if isScr d=true then .bad else .ok (.bool (isWh d)) false
 |_=>.bad
theorem e_whole {d:D}(h:isScr d=false):wholeF [d]=.ok (.bool (isWh d)) false:=if_neg (by rw [h];exact Bool.false_ne_true)
theorem r_whole (ds:List D)(h:wholeF ds≠.bad):runF 1 1 m_is_whole ds=wholeF ds:=by
 unfold wholeF at h
 split at h
 ·rename_i d
  cases q:isScr d with
  |true=>rw [q] at h;exact absurd rfl h
  |false=>
   rw [e_whole q]
   have e1:gIsi "int" d=some (.bool (isiB d "int")):=by unfold gIsi;rw [q];rfl
   have e2:gIsi "bool" d=some (.bool (isiB d "bool")):=by unfold gIsi;rw [q];rfl
   show fin (mRet (fAnd (f1 (gv 0) (gIsi "int")) (f1 (f1 (gv 0) (gIsi "bool")) gNot)) [.fz d] 0)=_
   unfold mRet fAnd f1 gv
   simp only [vl_cons,vl_nil,val_fz,List.getElem?_cons_zero,dat_da,of_some,bnd_ok,e1,e2]
   cases d <;> rfl
 ·exact absurd rfl h
def belowB (d:D)(n:Int):Bool:=match d with
 | .int i=>decide (0<=i/\i < n)
 |_=>false
def belowF:List D->FR
 | [d,.int n]=>if isScr d=true then .bad else .ok (.bool (belowB d n)) false
 |_=>.bad
theorem e_below {d:D}{n:Int}(h:isScr d=false):belowF [d,.int n]=.ok (.bool (belowB d n)) false:=if_neg (by rw [h];exact Bool.false_ne_true)
theorem chain_ii {i lo n:Int}{vs:List Nv}{β:Int}{fa fb fc:VF D}{g':D->D->Option D}{q:Bool}(ha:fa vs β=.ok (.int lo) β)(hb:fb vs β=.ok (.int i) β)(hc:fc vs β=.ok (.int n) β)(hq:g' (.int i) (.int n)=some (.bool q)):fChain fa fb fc gLe g' vs β=.ok (.bool (decide (lo<=i) && q)) β:=by
 unfold fChain
 rw [ha];dsimp only [R.bnd];rw [hb];dsimp only [R.bnd]
 show (match (some (PyData.bool (decide (lo<=i))):Option D) with
  |some (.bool true)=>_
  |some (.bool false)=>_
  |_=>_)=_
 by_cases h:lo<=i
 ·rw [decide_eq_true h]
  dsimp only
  rw [hc]
  dsimp only [R.bnd]
  rw [hq];rfl
 ·rw [decide_eq_false h];rfl
theorem r_below (ds:List D)(h:belowF ds≠.bad):runF 2 2 (m_is_below wholeF) ds=belowF ds:=by
 unfold belowF at h
 split at h
 ·rename_i d n
  cases q:isScr d with
  |true=>rw [q] at h;exact absurd rfl h
  |false=>
   rw [e_below q]
   show fin (mRet (fAnd (callV wholeF (aCons (gv 0) aNil)) (fChain (cst (.int 0)) (gv 0) (gv 1) gLe gLt)) [.fz d,.fz (.int n)] 0)=_
   unfold mRet fAnd callV
   simp only [vl_cons,vl_nil,val_fz,aCons_eq,aNil_eq,gv_eq,List.getElem?_cons_zero,dat_da,of_some,bnd_ok,e_whole q]
   cases d with
   |int i=>
    show fin (toS (fChain (cst (.int 0)) (gv 0) (gv 1) gLe gLt [.da (.int i),.da (.int n)] 0) _)=_
    rw [chain_ii (lo:=0) (i:=i) (n:=n) rfl rfl rfl rfl]
    show FR.ok (.bool (decide (0<=i) && decide (i < n))) false=.ok (.bool (decide (0<=i/\i < n))) false
    rw [Bool.decide_and]
   |_=>rfl
 ·exact absurd rfl h
def manyB (d:D):Bool:=match d with
 | .int i=>decide (1<=i/\i<=8)
 |_=>false
def manyF:List D->FR
 | [d]=>if isScr d=true then .bad else .ok (.bool (manyB d)) false
 |_=>.bad
theorem e_many {d:D}(h:isScr d=false):manyF [d]=.ok (.bool (manyB d)) false:=if_neg (by rw [h];exact Bool.false_ne_true)
theorem r_many (ds:List D)(h:manyF ds≠.bad):runF 1 1 (m_is_many wholeF) ds=manyF ds:=by
 unfold manyF at h
 split at h
 ·rename_i d
  cases q:isScr d with
  |true=>rw [q] at h;exact absurd rfl h
  |false=>
   rw [e_many q]
   show fin (mRet (fAnd (callV wholeF (aCons (gv 0) aNil)) (fChain (cst (.int 1)) (gv 0) (cst (.int 8)) gLe gLe)) [.fz d] 0)=_
   unfold mRet fAnd callV
   simp only [vl_cons,vl_nil,val_fz,aCons_eq,aNil_eq,gv_eq,List.getElem?_cons_zero,dat_da,of_some,bnd_ok,e_whole q]
   cases d with
   |int i=>
    show fin (toS (fChain (cst (.int 1)) (gv 0) (cst (.int 8)) gLe gLe [.da (.int i)] 0) _)=_
    rw [chain_ii (lo:=1) (i:=i) (n:=8) rfl rfl rfl rfl]
    show FR.ok (.bool (decide (1<=i) && decide (i<=8))) false=.ok (.bool (decide (1<=i/\i<=8))) false
    rw [Bool.decide_and]
   |_=>rfl
 ·exact absurd rfl h
def pairF:List D->FR
 | [d,.int n]=>(match pairP d with
  |some p=>.ok (.bool (decide ((0<=p.1/\p.1 < n)/\(0<=p.2/\p.2 < n)))) false
  |none=>.bad)
 |_=>.bad
theorem e_pair (p:Pr)(n:Int):pairF [prD p,.int n]=.ok (.bool (decide ((0<=p.1/\p.1 < n)/\(0<=p.2/\p.2 < n)))) false:=rfl
theorem r_pair (ds:List D)(h:pairF ds≠.bad):runF 2 2 (m_is_pair belowF) ds=pairF ds:=by
 unfold pairF at h
 split at h
 ·rename_i d n
  cases q:pairP d with
  |none=>rw [q] at h;exact absurd rfl h
  |some p=>
   obtain rfl:=pairP_eq q
   rw [e_pair]
   obtain⟨a,b⟩:=p
   show fin (toS (fAnd (callV belowF (aCons (f2 (gv 0) (cst (.int 0)) gIx) (aCons (gv 1) aNil))) (callV belowF (aCons (f2 (gv 0) (cst (.int 1)) gIx) (aCons (gv 1) aNil))) [.da (.tuple [.int a,.int b]),.da (.int n)] 0) fun d β'=>.rt d false β')=_
   have e1:callV belowF (aCons (f2 (gv 0) (cst (.int 0)) gIx) (aCons (gv 1) aNil)) [.da (.tuple [.int a,.int b]),.da (.int n)] 0=.ok (.bool (decide (0<=a/\a < n))) 0:=rfl
   have e2:callV belowF (aCons (f2 (gv 0) (cst (.int 1)) gIx) (aCons (gv 1) aNil)) [.da (.tuple [.int a,.int b]),.da (.int n)] 0=.ok (.bool (decide (0<=b/\b < n))) 0:=rfl
   unfold fAnd
   rw [e1]
   dsimp only [R.bnd]
   by_cases c:0<=a/\a < n
   ·rw [decide_eq_true c,e2]
    show FR.ok (.bool (decide (0<=b/\b < n))) false=.ok (.bool (decide ((0<=a/\a < n)/\(0<=b/\b < n)))) false
    simp [c]
   ·rw [decide_eq_false c]
    show FR.ok (.bool false) false=.ok (.bool (decide ((0<=a/\a < n)/\(0<=b/\b < n)))) false
    simp [c]
 ·exact absurd rfl h
def ordD (n:Nat)(l:List Pr):D:=.tuple [.int n,.tuple (l.map prD)]
open Classical in
noncomputable def onOrd (f:Nat->List Pr->FR):D->FR:=fun d=>if h:∃nl:Nat×List Pr,d=ordD nl.1 nl.2/\OM.Ord nl.1 nl.2 then f (Classical.choose h).1 (Classical.choose h).2 else .bad
theorem prD_inj {p q:Pr}(h:prD p=prD q):p=q:=by
 obtain⟨a,b⟩:=p
 obtain⟨c,d⟩:=q
 unfold prD at h
 simp at h
 rw [h.1,h.2]
theorem map_prD_inj:∀{l m:List Pr},l.map prD=m.map prD->l=m
 | [],[],_=>rfl
 | [],_ :: _,h=>by cases h
 |_ :: _,[],h=>by cases h
 |p :: l,q :: m,h=>by
  simp only [List.map_cons,List.cons.injEq] at h
  rw [prD_inj h.1,map_prD_inj h.2]
theorem ordD_inj {n m:Nat}{l k:List Pr}(h:ordD n l=ordD m k):n=m/\l=k:=by
 unfold ordD at h
 simp only [PyData.tuple.injEq,List.cons.injEq,PyData.int.injEq,and_true] at h
 exact⟨by omega,map_prD_inj h.2⟩
theorem onOrd_eq {f:Nat->List Pr->FR}{n:Nat}{l:List Pr}(O:OM.Ord n l):onOrd f (ordD n l)=f n l:=by
 unfold onOrd
 have h:∃nl:Nat×List Pr,ordD n l=ordD nl.1 nl.2/\OM.Ord nl.1 nl.2:=⟨(n,l),rfl,O⟩
 rw [dif_pos h]
 obtain⟨e,_⟩:=Classical.choose_spec h
 obtain⟨e1,e2⟩:=ordD_inj e
 rw [<-e1,<-e2]
theorem onOrd_ok {f:Nat->List Pr->FR}{d:D}(h:onOrd f d≠.bad):∃n l,d=ordD n l/\OM.Ord n l:=by
 unfold onOrd at h
 by_cases q:∃nl:Nat×List Pr,d=ordD nl.1 nl.2/\OM.Ord nl.1 nl.2
 ·obtain⟨nl,e,O⟩:=q;exact⟨nl.1,nl.2,e,O⟩
 ·rw [dif_neg q] at h;exact absurd rfl h
noncomputable def closedF:List D->FR
 | [.int n,d]=>(match seqD d with
  |some ds=>(match pairsP ds with
   |some ps=>(open Classical in if 1<=n/\n<=8/\OM.Wn n.toNat ps then .ok (.tuple ((OM.filt n.toNat (OM.Tr (OM.Mem ps))).map prD)) false else .bad)
   |none=>.bad)
  |none=>.bad)
 |_=>.bad
theorem e_closed {n:Nat}{ps:List Pr}(h1:1<=n)(h8:n<=8)(w:OM.Wn n ps):closedF [.int n,.tuple (ps.map prD)]=.ok (.tuple ((OM.filt n (OM.Tr (OM.Mem ps))).map prD)) false:=by
 unfold closedF
 simp only [seqD,pairsP_map]
 rw [if_pos ⟨by omega,by omega,by rw [Int.toNat_natCast];exact w⟩,Int.toNat_natCast]
def ringF:List D->FR
 | [.tuple ds]=>(match pairsP ds with
  |some ps=>if ps.length<=1000 then .ok (.bool (ps.any fun p=>decide (p.1=p.2))) false else .bad
  |none=>.bad)
 |_=>.bad
theorem bools_map {α:Type}(f:α->Bool):∀l:List α,boolsD (l.map fun x=>PyData.bool (f x))=some (l.map f)
 | []=>rfl
 |x :: l=>by
  show (boolsD (l.map fun x=>PyData.bool (f x))).map (f x :: ·)=_
  rw [bools_map f l];rfl
theorem r_ring (ds:List D)(h:ringF ds≠.bad):runF 1 1 m_has_ring ds=ringF ds:=by
 unfold ringF at h
 split at h
 ·rename_i ds
  cases q:pairsP ds with
  |none=>rw [q] at h;exact absurd rfl h
  |some ps=>
   rw [q] at h
   dsimp only at h
   by_cases hz:ps.length<=1000
   case neg=>rw [if_neg hz] at h;exact absurd rfl h
   obtain rfl:=pairsP_eq q
   have e:ringF [.tuple (ps.map prD)]=.ok (.bool (ps.any fun p=>decide (p.1=p.2))) false:=by
    unfold ringF;simp only [pairsP_map];rw [if_pos hz]
   rw [e]
   have ec:fComp 2 [] (.two 0 1) (fSeq (gv 0)) tYs (f2 (gv 0) (gv 1) (gEq false)) [.da (.tuple (ps.map prD))] 0=.ok (.list (ps.map fun p=>PyData.bool (decide (p.1=p.2)))) 0:=by
    exact fComp_mapO (l:=ps) (e:=prD) (fun p=>PyData.bool (decide (p.1=p.2))) rfl hz fun p hp=>⟨_,rfl,rfl⟩
   show fin (toS ((fComp 2 [] (.two 0 1) (fSeq (gv 0)) tYs (f2 (gv 0) (gv 1) (gEq false)) [.da (.tuple (ps.map prD))] 0).bnd fun x β1=>R.of (gBools (fun bs=>bs.any id) x) β1) fun d β'=>.rt d false β')=_
   rw [ec]
   simp only [bnd_ok,gBools]
   rw [bools_map]
   simp [fin,List.any_map]
 ·exact absurd rfl h
theorem shaped_pr (p:Pr):SeqAt.shaped (prD p)=true:=rfl
theorem lay_prs:∀l:List Pr,PyData.canLayAll0 (l.map prD)=true
 | []=>rfl
 |p :: l=>by
  show ((prD p).canLay0 && PyData.canLayAll0 (l.map prD))=true
  rw [lay_prs l];rfl
theorem dep_prs:∀l:List Pr,PyData.depthAll (l.map prD)<=1
 | []=>by show (0:Nat)<=1;omega
 |p :: l=>by
  show max (prD p).depth (PyData.depthAll (l.map prD))<=1
  have h1:(prD p).depth=1:=by simp [prD,PyData.depth,PyData.depthAll]
  have h2:=dep_prs l
  omega
theorem shaped_tup (l:List Pr):SeqAt.shaped (.tuple (l.map prD))=true:=by
 unfold SeqAt.shaped
 have h1:(PyData.tuple (l.map prD)).canLay0=true:=by simp only [PyData.canLay0];exact lay_prs l
 have h2:(PyData.tuple (l.map prD)).depth<=64:=by simp only [PyData.depth];have:=dep_prs l;omega
 rw [h1,decide_eq_true h2];rfl
theorem shaped_lst (l:List Pr):SeqAt.shaped (.list (l.map prD))=true:=by
 unfold SeqAt.shaped
 have h1:(PyData.list (l.map prD)).canLay0=true:=by simp only [PyData.canLay0];exact lay_prs l
 have h2:(PyData.list (l.map prD)).depth<=64:=by simp only [PyData.depth];have:=dep_prs l;omega
 rw [h1,decide_eq_true h2];rfl
theorem eqv_pr (p q:Pr):PyData.eqv (prD p) (prD q)=decide (p=q):=by
 obtain⟨a,b⟩:=p
 obtain⟨c,d⟩:=q
 simp only [prD,PyData.eqv,PyData.eqvAll,Bool.and_true]
 rw [Bool.eq_iff_iff]
 simp
theorem eqv_prs:∀l m:List Pr,PyData.eqvAll (l.map prD) (m.map prD)=decide (l=m)
 | [],[]=>rfl
 | [],_ :: _=>rfl
 |_ :: _,[]=>rfl
 |p :: l,q :: m=>by
  show (PyData.eqv (prD p) (prD q) && PyData.eqvAll (l.map prD) (m.map prD))=_
  rw [eqv_pr,eqv_prs l m,Bool.eq_iff_iff]
  simp
theorem ord_len {n:Nat}{l:List Pr}(O:OM.Ord n l):l.length < 64:=by
 have h8:=O.hi
 have e:=O.closed
 by_cases h:l.length < 64
 ·exact h
 ·exfalso
  have h1:l.length<=n * n:=by rw [<-e];exact OM.filt_len _ _
  have h2:n * n<=64:=Nat.mul_le_mul h8 h8
  have hn:n=8:=by
   by_cases h7:n<=7
   ·have:n * n<=7 * 7:=Nat.mul_le_mul h7 h7
    omega
   ·omega
  have hlen:l.length=n * n:=by subst hn;omega
  have hg:l=OM.grid n:=by
   refine OM.sub_eq O.ris (OM.ris_grid n) (fun x hx=>OM.mem_grid.mpr (O.wn x hx)) ?_
   rw [hlen];unfold OM.grid;simp
  have:((0:Int),(0:Int))∈l:=by rw [hg];exact OM.mem_grid.mpr ⟨⟨by omega,by omega⟩,by omega,by omega⟩
  exact O.irr 0 this
theorem many_nat {n:Nat}(h1:1<=n)(h8:n<=8):manyF [.int n]=.ok (.bool true) false:=by
 rw [e_many rfl]
 show FR.ok (.bool (decide (1<=(n:Int)/\(n:Int)<=8))) false=_
 rw [decide_eq_true (by omega)]
theorem gEq_tups (neg:Bool)(l m:List Pr):gEq neg (.tuple (l.map prD)) (.tuple (m.map prD))=some (.bool (if neg then !decide (l=m) else decide (l=m))):=by
 unfold gEq
 rw [shaped_tup,shaped_tup]
 simp only [Bool.and_self,if_true,PyData.eqv,eqv_prs]
theorem gEq_lsts (neg:Bool)(l m:List Pr):gEq neg (.list (l.map prD)) (.list (m.map prD))=some (.bool (if neg then !decide (l=m) else decide (l=m))):=by
 unfold gEq
 rw [shaped_lst,shaped_lst]
 simp only [Bool.and_self,if_true,PyData.eqv,eqv_prs]
theorem ring_no {n:Nat}{l:List Pr}(O:OM.Ord n l):ringF [.tuple (l.map prD)]=.ok (.bool false) false:=by
 have hl:=ord_len O
 unfold ringF
 simp only [pairsP_map]
 rw [if_pos (by omega)]
 have:(l.any fun p=>decide (p.1=p.2))=false:=by
  rw [List.any_eq_false]
  intro p hp
  simp only [decide_eq_true_eq]
  intro e
  obtain⟨a,b⟩:=p
  simp only at e
  subst e
  exact O.irr a hp
 rw [this]
theorem r_isOrder {n:Nat}{l:List Pr}(O:OM.Ord n l):runF 3 1 (m_is_order manyF pairF closedF ringF) [ordD n l]=.ok (.bool true) false:=by
 have hl:=ord_len O
 show fin (m_is_order manyF pairF closedF ringF [.fz (ordD n l),.no,.no] 0)=_
 unfold m_is_order
 rw [mSeq_nx (env':=[.fz (ordD n l),.no,.no]) (β':=0) (by rfl)]
 rw [mSeq_nx (env':=[.fz (ordD n l),.fz (.int n),.no]) (β':=0) (by rfl)]
 rw [mSeq_nx (env':=[.fz (ordD n l),.fz (.int n),.fz (.tuple (l.map prD))]) (β':=0) (by rfl)]
 have e4:callV manyF (aCons (gv 1) aNil) [.da (ordD n l),.da (.int n),.da (.tuple (l.map prD))] 0=.ok (.bool true) 0:=callV_ok rfl (many_nat O.lo O.hi)
 rw [mSeq_nx (env':=[.fz (ordD n l),.fz (.int n),.fz (.tuple (l.map prD))]) (β':=0) ?h4]
 case h4=>
  refine mIf_f ?_
  show tOrr (tNt (tTr (callV manyF (aCons (gv 1) aNil)))) _ [.da (ordD n l),.da (.int n),.da (.tuple (l.map prD))] 0=_
  rw [tOrr_eq,tNt_eq,tTr_eq,e4]
  rfl
 have e5:fComp 1 [1] (.nm 0) (fSeq (gv 2)) tYs (callV pairF (aCons (gv 0) (aCons (gv 1) aNil))) [.da (ordD n l),.da (.int n),.da (.tuple (l.map prD))] 0=.ok (.list (l.map fun _=>PyData.bool true)) 0:=by
  refine fComp_mapO (l:=l) (e:=prD) (fun _=>PyData.bool true) rfl (by omega) fun p hp=>⟨_,rfl,?_⟩
  refine callV_ok (b:=false) (ds:=[prD p,.int n]) rfl ?_
  rw [e_pair,decide_eq_true (by have:=O.wn p hp;exact this)]
 rw [mSeq_nx (env':=[.fz (ordD n l),.fz (.int n),.fz (.tuple (l.map prD))]) (β':=0) ?h5]
 case h5=>
  refine mIf_f ?_
  show tNt (tTr (f1 (fComp 1 [1] (.nm 0) (fSeq (gv 2)) tYs (callV pairF (aCons (gv 0) (aCons (gv 1) aNil)))) (gBools fun bs=>bs.all id))) [.da (ordD n l),.da (.int n),.da (.tuple (l.map prD))] 0=_
  rw [tNt_eq,tTr_eq,f1_ok (d:=.bool true) e5 (by simp only [gBools];rw [bools_map];simp)]
  rfl
 have e6:callV closedF (aCons (gv 1) (aCons (gv 2) aNil)) [.da (ordD n l),.da (.int n),.da (.tuple (l.map prD))] 0=.ok (.tuple (l.map prD)) 0:=callV_ok rfl (by rw [e_closed O.lo O.hi O.wn,O.closed])
 have e7:callV ringF (aCons (gv 2) aNil) [.da (ordD n l),.da (.int n),.da (.tuple (l.map prD))] 0=.ok (.bool false) 0:=callV_ok rfl (ring_no O)
 show fin (toS (fAnd (f2 (gv 2) (callV closedF (aCons (gv 1) (aCons (gv 2) aNil))) (gEq false)) (f1 (callV ringF (aCons (gv 2) aNil)) gNot) [.da (ordD n l),.da (.int n),.da (.tuple (l.map prD))] 0) _)=_
 unfold fAnd
 rw [f2_ok (d:=.bool true) (x:=.tuple (l.map prD)) rfl e6 (by rw [gEq_tups];simp)]
 dsimp only [R.bnd]
 rw [f1_ok (d:=.bool true) e7 rfl]
 rfl
noncomputable def isOrderF:List D->FR
 | [d]=>onOrd (fun _ _=>.ok (.bool true) false) d
 |_=>.bad
theorem e_isOrder {n:Nat}{l:List Pr}(O:OM.Ord n l):isOrderF [ordD n l]=.ok (.bool true) false:=by simp only [isOrderF];exact onOrd_eq O
theorem rr_isOrder (ds:List D)(h:isOrderF ds≠.bad):runF 3 1 (m_is_order manyF pairF closedF ringF) ds=isOrderF ds:=by
 unfold isOrderF at h
 split at h
 ·obtain⟨n,l,rfl,O⟩:=onOrd_ok h
  rw [r_isOrder O,e_isOrder O]
 ·exact absurd rfl h
noncomputable def needF:List D->FR
 | [d]=>onOrd (fun _ _=>.ok .none false) d
 |_=>.bad
theorem e_need {n:Nat}{l:List Pr}(O:OM.Ord n l):needF [ordD n l]=.ok .none false:=by simp only [needF];exact onOrd_eq O
theorem rr_need (ds:List D)(h:needF ds≠.bad):runF 1 1 (m_need_order isOrderF) ds=needF ds:=by
 unfold needF at h
 split at h
 ·obtain⟨n,l,rfl,O⟩:=onOrd_ok h
  rw [e_need O]
  have e:callV isOrderF (aCons (gv 0) aNil) [.da (ordD n l)] 0=.ok (.bool true) 0:=callV_ok (ds:=[ordD n l]) rfl (e_isOrder O)
  show fin (m_need_order isOrderF [.fz (ordD n l)] 0)=_
  unfold m_need_order
  rw [mIf_f (β':=0)]
  ·rfl
  ·show tNt (tTr (callV isOrderF (aCons (gv 0) aNil))) [.da (ordD n l)] 0=_
   rw [tNt_eq,tTr_eq,e];rfl
 ·exact absurd rfl h
end RM

end

section
namespace RM
open PySem L2
abbrev scrD (ns:List Int):D:=.dict [(.none,.list (ns.map PyData.int))]
theorem gMul_l {i j:Int}(h: -(2 ^ 64) < i/\i < 2 ^ 64):gMulI (.int i) (.int j)=some (.int (i * j)):=if_pos (by dsimp only;rw [decide_eq_true h.1,decide_eq_true h.2];rfl)
theorem gMul_r {i j:Int}(h: -(2 ^ 64) < j/\j < 2 ^ 64):gMulI (.int i) (.int j)=some (.int (i * j)):=if_pos (by dsimp only;rw [decide_eq_true h.1,decide_eq_true h.2,Bool.and_self,Bool.or_true])
theorem gMod_p {i j:Int}(h:0 < j):gMod (.int i) (.int j)=some (.int (i % j)):=if_pos (decide_eq_true h)
theorem gFd_p {i j:Int}(h:0 < j)(h2:j < 1073741824):gFd (.int i) (.int j)=some (.int (i / j)):=if_pos (by dsimp only;rw [decide_eq_true h,decide_eq_true h2];rfl)
theorem atI_map {α β:Type}(f:α->β)(l:List α)(i:Int):atI (l.map f) i=(atI l i).map f:=by
 unfold atI
 rw [List.length_map]
 cases ixN l.length i with
 |none=>rfl
 |some j=>simp
theorem atI_lt {α:Type}{l:List α}{k:Nat}(h:k < l.length):atI l (k:Int)=some l[k]:=atI_nat (List.getElem?_eq_getElem h)
theorem tBl_lt {fa fb:VF D}{vs:List Nv}{β β1 β2:Int}{i j:Int}(h:fa vs β=.ok (.int i) β1)(h':fb vs β1=.ok (.int j) β2):tBl (f2 fa fb gLt) vs β=.ok (decide (i < j)) β2:=tBl_ok _ _ _ _ (f2_ok h h' rfl)
theorem tBl_eqI {neg:Bool}{fa fb:VF D}{vs:List Nv}{β β1 β2:Int}{i j:Int}(h:fa vs β=.ok (.int i) β1)(h':fb vs β1=.ok (.int j) β2):tBl (f2 fa fb (gEq neg)) vs β=.ok (if neg then !decide (i=j) else decide (i=j)) β2:=by
 refine tBl_ok _ _ _ _ (f2_ok h h' ?_)
 cases neg <;> rfl
theorem r_cell (ns:List Int)(k:Nat):∃z,runF 2 2 m__law_cell [scrD ns,.int k]=.ok (.int z) false:=by
 show ∃z,fin (m__law_cell [.fz (scrD ns),.fz (.int k)] 0)=.ok (.int z) false
 unfold m__law_cell
 have e:tBl (f2 (gv 1) (f1 (gv 0) gLen) gLt) [.da (scrD ns),.da (.int k)] 0=.ok (decide ((k:Int) < (ns.map PyData.int).length)) 0:=tBl_lt rfl rfl
 by_cases h:k < ns.length
 ·refine⟨ns[k],?_⟩
  rw [decide_eq_true (by simp;exact h)] at e
  rw [mSeq_rt (d:=.int ns[k]) (b:=false) (β':=0)]
  ·rfl
  ·rw [mIf_t e]
   show toS (f2 (gv 0) (gv 1) gIx [.da (scrD ns),.da (.int k)] 0) _=_
   rw [f2_ok (x:=scrD ns) (y:=.int k) (d:=.int ns[k]) (β1:=0) (β2:=0) rfl rfl]
   ·rfl
   ·show atI (ns.map PyData.int) (k:Int)=_
    rw [atI_map,atI_lt h];rfl
 ·refine⟨0,?_⟩
  rw [decide_eq_false (by simp;omega)] at e
  rw [mSeq_nx (env':=[.fz (scrD ns),.fz (.int k)]) (β':=0)]
  ·rfl
  ·rw [mIf_f e];rfl
noncomputable def cellF:List D->FR:=runF 2 2 m__law_cell
noncomputable def mixF:List D->FR:=runF 4 2 m__law_mix
abbrev c13:List Int:=[48271,69621,16807,39373,30269,40014,40692,50021,61687,71993,83869,95561,30307]
theorem r_mix (c k:Int):∃z,mixF [.int c,.int k]=.ok (.int z) false:=by
 show ∃z,fin (m__law_mix [.fz (.int c),.fz (.int k),.no,.no] 0)=.ok (.int z) false
 unfold m__law_mix
 rw [mSeq_nx (env':=[.fz (.int c),.fz (.int k),.fz (.list (c13.map PyData.int)),.no]) (β':=0) (by rfl)]
 obtain⟨j,hj⟩:∃j:Nat,k % 13=j:=⟨(k % 13).toNat,by omega⟩
 have hj13:j < c13.length:=by show j < 13;omega
 have e1:f2 (f2 (f2 (f2 (f2 (gv 0) (cst (.int 2147483647)) gMod) (cst (.int 12345)) gAddI) (f2 (gv 2) (f2 (gv 1) (cst (.int 13)) gMod) gIx) gMulI) (f2 (cst (.int 977)) (gv 1) gMulI) gAddI) (f2 (cst (.int 7919)) (f2 (gv 1) (cst (.int 13)) gFd) gMulI) gAddI [.da (.int c),.da (.int k),.da (.list (c13.map PyData.int)),.no] 0
   =.ok (.int ((c % 2147483647 + 12345) * c13[j] + 977 * k + 7919 * (k / 13))) 0:=by
  refine f2_ok (f2_ok (f2_ok (f2_ok (f2_ok (x:=.int c) (y:=.int 2147483647) rfl rfl (gMod_p (by omega))) rfl rfl) (f2_ok (x:=.list (c13.map PyData.int)) rfl (f2_ok (x:=.int k) (y:=.int 13) rfl rfl (gMod_p (by omega))) (d:=.int c13[j]) ?_) (gMul_l ⟨by omega,by omega⟩)) (f2_ok (x:=.int 977) (y:=.int k) rfl rfl (gMul_l ⟨by omega,by omega⟩)) rfl) (f2_ok (x:=.int 7919) rfl (f2_ok (x:=.int k) (y:=.int 13) rfl rfl (gFd_p (by omega) (by omega))) (gMul_l ⟨by omega,by omega⟩)) rfl
  show atI (c13.map PyData.int) (k % 13)=_
  rw [hj,atI_map,atI_lt hj13];rfl
 generalize ((c % 2147483647 + 12345) * c13[j] + 977 * k + 7919 * (k / 13))=st at e1
 rw [mSeq_nx (env':=[.fz (.int c),.fz (.int k),.fz (.list (c13.map PyData.int)),.fz (.int st)]) (β':=0) ?h]
 case h=>
  show toS (f2 _ _ gAddI [.da (.int c),.da (.int k),.da (.list (c13.map PyData.int)),.no] 0) _=_
  rw [e1];rfl
 have e2:f2 (gv 3) (cst (.int 1000000007)) gMod [.da (.int c),.da (.int k),.da (.list (c13.map PyData.int)),.da (.int st)] 0=.ok (.int (st % 1000000007)) 0:=f2_ok rfl rfl (gMod_p (by omega))
 rw [mSeq_nx (env':=[.fz (.int c),.fz (.int k),.fz (.list (c13.map PyData.int)),.fz (.int (st % 1000000007))]) (β':=0) ?h2]
 case h2=>
  show toS (f2 (gv 3) (cst (.int 1000000007)) gMod [.da (.int c),.da (.int k),.da (.list (c13.map PyData.int)),.da (.int st)] 0) _=_
  rw [e2];rfl
 have hb: -(2 ^ 64) < st % 1000000007/\st % 1000000007 < 2 ^ 64:=⟨by omega,by omega⟩
 generalize st % 1000000007=u at hb
 have e3:f2 (f2 (f2 (f2 (gv 3) (gv 3) gMulI) (f2 (cst (.int 48271)) (gv 1) gMulI) gAddI) (cst (.int 1000000007)) gMod) (cst (.int 7)) gFd [.da (.int c),.da (.int k),.da (.list (c13.map PyData.int)),.da (.int u)] 0=.ok (.int ((u * u + 48271 * k) % 1000000007 / 7)) 0:=
  f2_ok (f2_ok (f2_ok (f2_ok (x:=.int u) (y:=.int u) rfl rfl (gMul_l hb)) (f2_ok (x:=.int 48271) (y:=.int k) rfl rfl (gMul_l ⟨by omega,by omega⟩)) rfl) rfl (gMod_p (by omega))) rfl (gFd_p (by omega) (by omega))
 refine⟨(u * u + 48271 * k) % 1000000007 / 7,?_⟩
 show fin (toS (f2 _ (cst (.int 7)) gFd [.da (.int c),.da (.int k),.da (.list (c13.map PyData.int)),.da (.int u)] 0) _)=_
 rw [e3];rfl
noncomputable def boxF:List D->FR:=runF 5 2 (m__law_box cellF mixF)
theorem r_box (ns:List Int)(k:Nat):∃z,boxF [scrD ns,.int k]=.ok (.list [.int z]) true:=by
 obtain⟨c,hc⟩:=r_cell ns k
 show ∃z,fin (m__law_box cellF mixF [.fz (scrD ns),.fz (.int k),.no,.no,.no] 0)=.ok (.list [.int z]) true
 unfold m__law_box
 have e0:callV cellF (aCons (gv 0) (aCons (gv 1) aNil)) [.da (scrD ns),.da (.int k),.no,.no,.no] 0=.ok (.int c) 0:=callV_ok rfl hc
 rw [mSeq_nx (env':=[.fz (scrD ns),.fz (.int k),.fz (.int c),.no,.no]) (β':=0) ?h]
 case h=>
  show toS (callV cellF _ [.da (scrD ns),.da (.int k),.no,.no,.no] 0) _=_
  rw [e0];rfl
 have e1:tBl (f2 (f2 (gv 2) (cst (.int 2)) gMod) (cst (.int 0)) (gEq false)) [.da (scrD ns),.da (.int k),.da (.int c),.no,.no] 0=.ok (decide (c % 2=0)) 0:=tBl_eqI (neg:=false) (f2_ok rfl rfl (gMod_p (by omega))) rfl
 by_cases h:c % 2=0
 ·rw [decide_eq_true h] at e1
  refine⟨(if c < 0 then -c else c) / 2,?_⟩
  rw [mSeq_rt (d:=.list [.int ((if c < 0 then -c else c) / 2)]) (b:=true) (β':=0)]
  ·rfl
  ·rw [mIf_t e1]
   show toS (fLst (aCons (f2 (f1 (gv 2) gAbs) (cst (.int 2)) gFd) aNil) [.da (scrD ns),.da (.int k),.da (.int c),.no,.no] 0) _=_
   rw [fLst_ok (ds:=[.int ((if c < 0 then -c else c) / 2)]) (β1:=0)]
   ·rfl
   ·have e2:f2 (f1 (gv 2) gAbs) (cst (.int 2)) gFd [.da (scrD ns),.da (.int k),.da (.int c),.no,.no] 0=.ok (.int ((if c < 0 then -c else c) / 2)) 0:=f2_ok (f1_ok (x:=.int c) rfl rfl) rfl (gFd_p (by omega) (by omega))
    rw [aCons_eq,e2];rfl
   ·simp
 ·rw [decide_eq_false h] at e1
  rw [mSeq_nx (env':=[.fz (scrD ns),.fz (.int k),.fz (.int c),.no,.no]) (β':=0) (by rw [mIf_f e1];rfl)]
  rw [mSeq_nx (env':=[.fz (scrD ns),.fz (.int k),.fz (.int c),.fz (.int 0),.no]) (β':=0) (by rfl)]
  obtain⟨env',β',el,z,x,rfl,rfl⟩:=mFor_inv (t:=.nm 4) (m:=mSet 3 (([] ++ []) ++ ([2] ++ ([4] ++ []))) (f2 (f2 (gv 3) (cst (.int 142857143)) gMulI) (callV mixF (aCons (gv 2) (aCons (gv 4) aNil))) gAddI)) (ds:=intsD 0 40) (k:=0)
   (fun _ env β=>∃(z:Int) (x:Sl),env= [.fz (scrD ns),.fz (.int k),.fz (.int c),.fz (.int z),x]/\β=0) (env:=[.fz (scrD ns),.fz (.int k),.fz (.int c),.fz (.int 0),.no]) (β:=0) ⟨0,.no,rfl,rfl⟩ (by
    rintro i d env β hi ⟨z,x,rfl,rfl⟩
    obtain⟨j,rfl⟩:∃j:Int,d=.int j:=by
     unfold intsD at hi
     rw [List.getElem?_map] at hi
     cases q:(List.range 40)[i]? with
     |none=>rw [q] at hi;cases hi
     |some j=>rw [q] at hi;cases hi;exact⟨_,rfl⟩
    obtain⟨y,hy⟩:=r_mix c j
    refine⟨_,rfl,_,_,?_,z * 142857143 + y,.fz (.int j),rfl,rfl⟩
    show toS (f2 (f2 (gv 3) (cst (.int 142857143)) gMulI) (callV mixF (aCons (gv 2) (aCons (gv 4) aNil))) gAddI [.da (scrD ns),.da (.int k),.da (.int c),.da (.int z),.da (.int j)] 0) _=_
    rw [f2_ok (d:=.int (z * 142857143 + y)) (f2_ok (x:=.int z) (y:=.int 142857143) (β1:=0) (β2:=0) rfl rfl (gMul_r ⟨by omega,by omega⟩)) (callV_ok (ds:=[.int c,.int j]) (β1:=0) rfl hy) rfl]
    rfl)
  refine⟨z,?_⟩
  rw [mSeq_nx (env':=[.fz (scrD ns),.fz (.int k),.fz (.int c),.fz (.int z),x]) (β':=0) ?h2]
  case h2=>exact el
  show fin (toS (fLst (aCons (gv 3) aNil) [.da (scrD ns),.da (.int k),.da (.int c),.da (.int z),x.val] 0) _)=_
  rw [fLst_ok (ds:=[.int z]) (β1:=0) rfl (by simp)]
  rfl
noncomputable def mixedF:List D->Int->FB:=runB 4 1 (m__law_mixed_up takeF)
theorem lay_ints:∀ns:List Int,PyData.canLayAll0 (ns.map PyData.int)=true
 | []=>rfl
 |n :: ns=>by
  show ((PyData.int n).canLay0 && PyData.canLayAll0 (ns.map PyData.int))=true
  rw [lay_ints ns];rfl
theorem dep_ints:∀ns:List Int,PyData.depthAll (ns.map PyData.int)=0
 | []=>rfl
 |n :: ns=>by
  show max (PyData.int n).depth (PyData.depthAll (ns.map PyData.int))=0
  rw [dep_ints ns];rfl
theorem shaped_ints (ns:List Int):SeqAt.shaped (.list (ns.map PyData.int))=true:=by
 unfold SeqAt.shaped
 have h1:(PyData.list (ns.map PyData.int)).canLay0=true:=by simp only [PyData.canLay0];exact lay_ints ns
 have h2:(PyData.list (ns.map PyData.int)).depth<=64:=by simp only [PyData.depth];rw [dep_ints];omega
 rw [h1,decide_eq_true h2];rfl
theorem eqv_ints:∀l m:List Int,PyData.eqvAll (l.map PyData.int) (m.map PyData.int)=decide (l=m)
 | [],[]=>rfl
 | [],_ :: _=>rfl
 |_ :: _,[]=>rfl
 |p :: l,q :: m=>by
  show ((p == q) && PyData.eqvAll (l.map PyData.int) (m.map PyData.int))=_
  rw [eqv_ints l m,Bool.eq_iff_iff]
  simp
theorem gEq_ints (neg:Bool)(l m:List Int):gEq neg (.list (l.map PyData.int)) (.list (m.map PyData.int))=some (.bool (if neg then !decide (l=m) else decide (l=m))):=by
 unfold gEq
 rw [shaped_ints,shaped_ints]
 simp only [Bool.and_self,if_true,PyData.eqv,eqv_ints]
theorem erase_perm {α:Type}:∀{l:List α} {k:Nat} {x:α},l[k]? =some x->(x :: l.eraseIdx k).Perm l
 | [],_,_,h=>by simp at h
 |y :: l,0,x,h=>by simp at h;subst h;exact List.Perm.refl _
 |y :: l,k + 1,x,h=>by
  have h:l[k]? =some x:=by simpa using h
  have ih:=erase_perm h
  show (x :: y :: l.eraseIdx k).Perm (y :: l)
  exact (List.Perm.swap y x _).trans (ih.cons y)
theorem erase_map {α β:Type}(f:α->β):∀(l:List α) (k:Nat),(l.map f).eraseIdx k=(l.eraseIdx k).map f
 | [],_=>rfl
 |_ :: _,0=>rfl
 |x :: l,k + 1=>by simp [erase_map f l k]
theorem r_mixed (ns:List Int)(hz:ns.length<=100)(β:Int):∃(ms:List Int) (β':Int),mixedF [.list (ns.map PyData.int)] β=.ok (.list (ms.map PyData.int)) true β'/\ms.Perm ns:=by
 show ∃(ms:List Int) (β':Int),finB (m__law_mixed_up takeF [.bx,.fz (.list (ns.map PyData.int)),.no,.no] β)=.ok (.list (ms.map PyData.int)) true β'/\ms.Perm ns
 unfold m__law_mixed_up
 rw [mSeq_nx (env':=[.bx,.fz (.list (ns.map PyData.int)),.ow (.list (ns.map PyData.int)),.no]) (β':=β) (by rfl)]
 have ez:fLst aNil [Nv.bx,.da (.list (ns.map PyData.int)),.da (.list (ns.map PyData.int)),.no] β=.ok (.list []) β:=fLst_ok rfl (by simp)
 rw [mSeq_nx (env':=[.bx,.fz (.list (ns.map PyData.int)),.ow (.list (ns.map PyData.int)),.ow (.list [])]) (β':=β) ?h]
 case h=>
  show toS (fLst aNil [Nv.bx,.da (.list (ns.map PyData.int)),.da (.list (ns.map PyData.int)),.no] β) _=_
  rw [ez];rfl
 obtain⟨env',β',ew,ms,rfl,hp⟩:=mWhile_inv (L:=[] ++ []) (t:=tBl (f2 (gv 2) (fLst aNil) (gEq true))) (m:=mAppPop 3 2 ([] ++ []) (cbV 0 takeF (aCons (f1 (gv 2) gLen) aNil)))
  (fun k env β=>∃ls ms:List Int,env= [.bx,.fz (.list (ns.map PyData.int)),.ow (.list (ls.map PyData.int)),.ow (.list (ms.map PyData.int))]/\(ms ++ ls).Perm ns/\k=ls.length)
  (fun env β=>∃ms:List Int,env= [.bx,.fz (.list (ns.map PyData.int)),.ow (.list []),.ow (.list (ms.map PyData.int))]/\ms.Perm ns) (n:=1000) (k:=ns.length) (env:=[.bx,.fz (.list (ns.map PyData.int)),.ow (.list (ns.map PyData.int)),.ow (.list [])]) (β:=β) (by omega) ⟨ns,[],rfl,by simp,rfl⟩ (by
   rintro k env β ⟨ls,ms,rfl,hp,rfl⟩
   have e1:fLst aNil [Nv.bx,.da (.list (ns.map PyData.int)),.da (.list (ls.map PyData.int)),.da (.list (ms.map PyData.int))] β=.ok (.list (([]:List Int).map PyData.int)) β:=fLst_ok rfl (by simp)
   have et:tBl (f2 (gv 2) (fLst aNil) (gEq true)) [Nv.bx,.da (.list (ns.map PyData.int)),.da (.list (ls.map PyData.int)),.da (.list (ms.map PyData.int))] β=.ok (!decide (ls= [])) β:=
    tBl_ok _ _ _ _ (f2_ok (x:=.list (ls.map PyData.int)) rfl e1 (by rw [gEq_ints];rfl))
   refine⟨_,_,et,?_⟩
   have hlen:=hp.length_eq
   rw [List.length_append] at hlen
   cases ls with
   |nil=>exact .inl ⟨rfl,ms,rfl,by simpa using hp⟩
   |cons y ys=>
    refine .inr ⟨rfl,?_⟩
    have hm:(0:Int) < ((y :: ys).length:Nat)/\(((y :: ys).length:Nat):Int) < 1073741824:=by
     have:(y :: ys).length<=100:=by omega
     constructor
     ·simp
     ·omega
    obtain⟨j,hj⟩:∃j:Nat,β % (((y :: ys).length:Nat):Int)=j:=⟨(β % (((y :: ys).length:Nat):Int)).toNat,by have:=Int.emod_nonneg β (b:=(((y :: ys).length:Nat):Int)) (by omega);omega⟩
    have hj2:j < (y :: ys).length:=by have:=Int.emod_lt_of_pos β hm.1;omega
    have ef:cbV 0 takeF (aCons (f1 (gv 2) gLen) aNil) [Nv.bx,.da (.list (ns.map PyData.int)),.da (.list ((y :: ys).map PyData.int)),.da (.list (ms.map PyData.int))] β=.ok (.int (j:Int)) (β / (((y :: ys).length:Nat):Int)):=by
     refine cbV_ok (ds:=[.int (((y :: ys).length:Nat):Int)]) (b:=false) (by rfl) ?_ (by rw [take_eq hm.1 hm.2,hj])
     show R.ok [PyData.int ((((y :: ys).map PyData.int).length:Nat):Int)] β=_
     rw [List.length_map]
    have hpop:popD ((y :: ys).map PyData.int) (.int (j:Int))=some (.int (y :: ys)[j],((y :: ys).eraseIdx j).map PyData.int):=by
     unfold popD
     dsimp only
     rw [if_pos ⟨by omega,by omega⟩]
     have es:seqIndex? (j:Int) ((y :: ys).map PyData.int).length=some j:=by
      rw [List.length_map]
      exact PySem.StrLaws.seqIndex_nonneg (by omega) (by omega)
     rw [es]
     dsimp only
     rw [List.getElem?_map,List.getElem?_eq_getElem hj2,erase_map];rfl
    refine⟨[.bx,.fz (.list (ns.map PyData.int)),.ow (.list (((y :: ys).eraseIdx j).map PyData.int)),.ow (.list ((ms ++ [(y :: ys)[j]]).map PyData.int))],β / (((y :: ys).length:Nat):Int),((y :: ys).eraseIdx j).length,?_,?_,(y :: ys).eraseIdx j,ms ++ [(y :: ys)[j]],rfl,?_,rfl⟩
    ·show mAppPop 3 2 ([] ++ []) (cbV 0 takeF (aCons (f1 (gv 2) gLen) aNil)) [.bx,.fz (.list (ns.map PyData.int)),.ow (.list ((y :: ys).map PyData.int)),.ow (.list (ms.map PyData.int))] β=_
     rw [mAppPop_ok (ds:=ms.map PyData.int) (es:=(y :: ys).map PyData.int) (by rfl) (by rfl) (by decide) ef (by rfl) hpop (by rw [List.length_map];omega),List.map_append]
     rfl
    ·rw [List.length_eraseIdx]
     rw [if_pos hj2]
     show (y :: ys).length - 1 < (y :: ys).length
     simp
    ·rw [List.append_assoc]
     exact (List.Perm.append_left ms (erase_perm (List.getElem?_eq_getElem hj2))).trans hp)
 refine⟨ms,β',?_,hp⟩
 rw [mSeq_nx ew]
 rfl
end RM

end

section
namespace RM
open PySem L2
theorem filt8 {n:Nat}{l:List Pr}(h8:n<=8)(w:OM.Wn n l):OM.filt 8 (OM.Mem l)=OM.filt n (OM.Mem l):=by
 refine OM.ris_ext (OM.ris_filt _ _) (OM.ris_filt _ _) fun x=>?_
 rw [OM.mem_filt,OM.mem_filt]
 constructor
 ·rintro⟨_,h⟩;exact⟨w x h,h⟩
 ·rintro⟨h1,h⟩;exact⟨⟨⟨h1.1.1,by omega⟩,h1.2.1,by omega⟩,h⟩
theorem irr_len {n:Nat}{l:List Pr}(h1:1<=n)(h8:n<=8)(w:OM.Wn n l)(nd:l.Nodup)(irr:∀a,(a,a)∉l):l.length < 64:=by
 have:=OM.len_le (l:=(0,0) :: l) (m:=OM.grid n) (List.nodup_cons.mpr ⟨irr 0,nd⟩) (fun x hx=>by
  rcases List.mem_cons.mp hx with e |e
  ·subst e;exact OM.mem_grid.mpr ⟨⟨by simp,by simp;omega⟩,by simp,by simp;omega⟩
  ·exact OM.mem_grid.mpr (w x e))
 have hg:(OM.grid n).length=n * n:=by unfold OM.grid;simp
 have hn:n * n<=64:=Nat.mul_le_mul h8 h8
 rw [hg,List.length_cons] at this
 omega
theorem wn_smB {n:Nat}{l:List Pr}(h8:n<=8)(w:OM.Wn n l):l.all smB=true:=by
 rw [List.all_eq_true]
 intro p hp
 have:=w p hp
 unfold smB
 rw [decide_eq_true this.1.1,decide_eq_true (by omega:p.1 < 8),decide_eq_true this.2.1,decide_eq_true (by omega:p.2 < 8)];rfl
theorem gSortSet_ok {n:Nat}{l:List Pr}{d:D}(h8:n<=8)(w:OM.Wn n l)(hl:(OM.filt n (OM.Mem l)).length < 64)(hd:seqD d=some (l.map prD)):gSortSet d=some (.list ((OM.filt n (OM.Mem l)).map prD)):=by
 unfold gSortSet
 rw [hd]
 simp only [pairsP_map]
 rw [filt8 h8 w,if_pos ⟨wn_smB h8 w,hl⟩]
def mo1 (l:List Pr)(p:Pr):List Pr:=(l.filter fun q=>decide (q.1=p.2)).map fun q=>(p.1,q.2)
theorem mo1_len (l:List Pr)(p:Pr):(mo1 l p).length<=l.length:=by unfold mo1;rw [List.length_map];exact List.length_filter_le ..
theorem flat_len (l m:List Pr):(m.flatMap (mo1 l)).length<=m.length * l.length:=by
 induction m with
 |nil=>simp
 |cons p m ih=>
  rw [List.flatMap_cons,List.length_append,List.length_cons,Nat.succ_mul]
  have:=mo1_len l p
  omega
theorem gCat_ok {a b:List D}(h:a.length + b.length<=10000):gCat (.list a) (.list b)=some (.list (a ++ b)):=if_pos (by rw [sizeLine_eq];omega)
noncomputable def closedLF:List D->FR:=runF 6 1 m__law_closed
theorem r_lclosed {n:Nat}{ps:List Pr}(h1:1<=n)(h8:n<=8)(w:OM.Wn n ps)(irr:∀a,¬OM.Tr (OM.Mem ps) a a):closedLF [.list (ps.map prD)]=.ok (.tuple ((OM.filt n (OM.Tr (OM.Mem ps))).map prD)) false:=by
 have blen:∀{l:List Pr},OM.Btw n ps l->l.length < 64:=fun {l} B=>irr_len h1 h8 B.wn (OM.ris_nodup B.ris) fun a ha=>irr a (B.sup _ ha)
 show fin (m__law_closed [.fz (.list (ps.map prD)),.no,.no,.no,.no,.no] 0)=_
 unfold m__law_closed
 have B0:=OM.btw_start (ps:=ps) w
 have e0:f1 (gv 0) gSortSet [.da (.list (ps.map prD)),.no,.no,.no,.no,.no] 0=.ok (.list ((OM.filt n (OM.Mem ps)).map prD)) 0:=f1_ok rfl (gSortSet_ok h8 w (blen B0) rfl)
 rw [mSeq_nx (env':=[.fz (.list (ps.map prD)),.fz (.list ((OM.filt n (OM.Mem ps)).map prD)),.no,.no,.no,.no]) (β':=0) ?h0]
 case h0=>
  show toS (f1 (gv 0) gSortSet [.da (.list (ps.map prD)),.no,.no,.no,.no,.no] 0) _=_
  rw [e0];rfl
 rw [mSeq_nx (env':=[.fz (.list (ps.map prD)),.fz (.list ((OM.filt n (OM.Mem ps)).map prD)),.fz (.int (-1)),.no,.no,.no]) (β':=0) (by rfl)]
 obtain⟨env',β',ew,rfl,x,sz,a,b,rfl⟩:=mWhile_inv (L:=[] ++ []) (t:=tBl (f2 (gv 2) (f1 (gv 1) gLen) (gEq true)))
  (m:=mSeq (mSet 2 [] (f1 (gv 1) gLen)) (mSeq (mSet 3 [] (fLst aNil)) (mSeq (mForS (.two 4 5) [1] (fSeq (gv 1)) (mSet 3 ([] ++ ([] ++ [4])) (f2 (gv 3) (fComp 2 [5,4] (.two 0 1) (fSeq (gv 1)) (tBl (f2 (gv 0) (gv 2) (gEq false))) (fTup (aCons (gv 3) (aCons (gv 1) aNil)))) gCat))) (mSet 1 ([] ++ []) (f1 (f2 (gv 1) (gv 3) gCat) gSortSet)))))
  (fun k env β=>β=0/\∃(l:List Pr) (sz:Int) (x a b:Sl),env= [.fz (.list (ps.map prD)),.fz (.list (l.map prD)),.fz (.int sz),x,a,b]/\OM.Btw n ps l/\(sz= -1\/∃lp,OM.Btw n ps lp/\l=OM.stepC n lp/\sz=lp.length)/\k=2 * (64 - l.length) + (if sz=l.length then 0 else 1))
  (fun env β=>β=0/\∃(x sz a b:Sl),env= [.fz (.list (ps.map prD)),.fz (.list ((OM.filt n (OM.Tr (OM.Mem ps))).map prD)),sz,x,a,b])
  (n:=1000) (k:=2 * (64 - (OM.filt n (OM.Mem ps)).length) + (if (-1:Int)=(OM.filt n (OM.Mem ps)).length then 0 else 1)) (env:=[.fz (.list (ps.map prD)),.fz (.list ((OM.filt n (OM.Mem ps)).map prD)),.fz (.int (-1)),.no,.no,.no]) (β:=0)
  (by split <;> omega) ⟨rfl,_,_,_,_,_,rfl,B0,.inl rfl,rfl⟩ (by
   rintro k env β ⟨rfl,l,sz,x,a,b,rfl,B,hsz,rfl⟩
   have hl:=blen B
   have et:tBl (f2 (gv 2) (f1 (gv 1) gLen) (gEq true)) [.da (.list (ps.map prD)),.da (.list (l.map prD)),.da (.int sz),x.val,a.val,b.val] 0=.ok (!decide (sz=((l.map prD).length:Nat))) 0:=tBl_eqI (neg:=true) rfl rfl
   rw [List.length_map] at et
   refine⟨_,_,et,?_⟩
   by_cases c:sz=(l.length:Nat)
   ·refine .inl ⟨by rw [decide_eq_true c];rfl,rfl,x,.fz (.int sz),a,b,?_⟩
    rcases hsz with h | ⟨lp,Bp,rfl,h⟩
    ·omega
    ·show [Sl.fz (.list (ps.map prD)),.fz (.list ((OM.stepC n lp).map prD)),.fz (.int sz),x,a,b]=_
     rw [OM.btw_done Bp (by omega)]
   ·refine .inr ⟨by rw [decide_eq_false c];rfl,?_⟩
    obtain⟨B2,hs⟩:=OM.btw_step B
    have hl2:=blen B2
    have hge:l.length<=(OM.stepC n l).length:=OM.len_le (OM.ris_nodup B.ris) hs
    have eturn:∃x' a' b':Sl,mSeq (mSet 2 [] (f1 (gv 1) gLen)) (mSeq (mSet 3 [] (fLst aNil)) (mSeq (mForS (.two 4 5) [1] (fSeq (gv 1)) (mSet 3 ([] ++ ([] ++ [4])) (f2 (gv 3) (fComp 2 [5,4] (.two 0 1) (fSeq (gv 1)) (tBl (f2 (gv 0) (gv 2) (gEq false))) (fTup (aCons (gv 3) (aCons (gv 1) aNil)))) gCat))) (mSet 1 ([] ++ []) (f1 (f2 (gv 1) (gv 3) gCat) gSortSet)))) [.fz (.list (ps.map prD)),.fz (.list (l.map prD)),.fz (.int sz),x,a,b] 0
      =.nx [.fz (.list (ps.map prD)),.fz (.list ((OM.stepC n l).map prD)),.fz (.int (l.length:Nat)),x',a',b'] 0:=by
     rw [mSeq_nx (env':=[.fz (.list (ps.map prD)),.fz (.list (l.map prD)),.fz (.int (l.length:Nat)),x,a,b]) (β':=0) ?g1]
     case g1=>
      show SO.nx [.fz (.list (ps.map prD)),.fz (.list (l.map prD)),.fz (.int ((l.map prD).length:Nat)),x,a,b] 0=_
      rw [List.length_map]
     have e3:fLst aNil [.da (.list (ps.map prD)),.da (.list (l.map prD)),.da (.int (l.length:Nat)),x.val,a.val,b.val] 0=.ok (.list []) 0:=fLst_ok rfl (by simp)
     rw [mSeq_nx (env':=[.fz (.list (ps.map prD)),.fz (.list (l.map prD)),.fz (.int (l.length:Nat)),.fz (.list []),a,b]) (β':=0) ?g2]
     case g2=>
      show toS (fLst aNil [.da (.list (ps.map prD)),.da (.list (l.map prD)),.da (.int (l.length:Nat)),x.val,a.val,b.val] 0) _=_
      rw [e3];rfl
     obtain⟨env2,β2,ef,rfl,a2,b2,rfl⟩:=mFor_inv (t:=.two 4 5) (m:=mSet 3 ([] ++ ([] ++ [4])) (f2 (gv 3) (fComp 2 [5,4] (.two 0 1) (fSeq (gv 1)) (tBl (f2 (gv 0) (gv 2) (gEq false))) (fTup (aCons (gv 3) (aCons (gv 1) aNil)))) gCat)) (ds:=l.map prD) (k:=0)
      (fun i env β=>β=0/\∃a b:Sl,env= [.fz (.list (ps.map prD)),.fz (.list (l.map prD)),.fz (.int (l.length:Nat)),.fz (.list (((l.take i).flatMap (mo1 l)).map prD)),a,b]) (env:=[.fz (.list (ps.map prD)),.fz (.list (l.map prD)),.fz (.int (l.length:Nat)),.fz (.list []),a,b]) (β:=0) ⟨rfl,a,b,rfl⟩ (by
       rintro i d env β hi ⟨rfl,a,b,rfl⟩
       rw [List.getElem?_map] at hi
       cases q:l[i]? with
       |none=>rw [q] at hi;cases hi
       |some p=>
        rw [q] at hi
        cases hi
        have hil:i < l.length:=(List.getElem?_eq_some_iff.mp q).1
        refine⟨[.fz (.list (ps.map prD)),.fz (.list (l.map prD)),.fz (.int (l.length:Nat)),.fz (.list (((l.take (0 + i)).flatMap (mo1 l)).map prD)),.fz (.int p.1),.fz (.int p.2)],rfl,[.fz (.list (ps.map prD)),.fz (.list (l.map prD)),.fz (.int (l.length:Nat)),.fz (.list (((l.take (0 + i + 1)).flatMap (mo1 l)).map prD)),.fz (.int p.1),.fz (.int p.2)],0,?_,rfl,_,_,rfl⟩
        have ec:fComp 2 [5,4] (.two 0 1) (fSeq (gv 1)) (tBl (f2 (gv 0) (gv 2) (gEq false))) (fTup (aCons (gv 3) (aCons (gv 1) aNil))) [.da (.list (ps.map prD)),.da (.list (l.map prD)),.da (.int (l.length:Nat)),.da (.list (((l.take (0 + i)).flatMap (mo1 l)).map prD)),.da (.int p.1),.da (.int p.2)] 0=.ok (.list ((mo1 l p).map prD)) 0:=by
         rw [fComp_filO (l:=l) (e:=prD) (fun q=>decide (q.1=p.2)) (fun q=>prD (p.1,q.2)) rfl (by omega) (β1:=0)]
         ·unfold mo1;rw [List.map_map];rfl
         ·intro q hq
          refine⟨_,rfl,tBl_eqI (neg:=false) (i:=q.1) (j:=p.2) rfl rfl,fun _=>?_⟩
          exact fTup_ok (ds:=[.int p.1,.int q.2]) rfl (by simp)
        have hk:(l.take (0 + i)).length<=63:=by rw [List.length_take];omega
        have hfl:=flat_len l (l.take (0 + i))
        have hfl2:(l.take (0 + i)).length * l.length<=63 * 63:=Nat.mul_le_mul hk (by omega)
        have hm1:=mo1_len l p
        have e5:f2 (gv 3) (fComp 2 [5,4] (.two 0 1) (fSeq (gv 1)) (tBl (f2 (gv 0) (gv 2) (gEq false))) (fTup (aCons (gv 3) (aCons (gv 1) aNil)))) gCat [.da (.list (ps.map prD)),.da (.list (l.map prD)),.da (.int (l.length:Nat)),.da (.list (((l.take (0 + i)).flatMap (mo1 l)).map prD)),.da (.int p.1),.da (.int p.2)] 0=.ok (.list (((l.take (0 + i + 1)).flatMap (mo1 l)).map prD)) 0:=by
         refine f2_ok rfl ec ?_
         rw [gCat_ok (by rw [List.length_map,List.length_map];omega),<-List.map_append]
         have:l.take (0 + i + 1)=l.take (0 + i) ++ [p]:=by rw [Nat.zero_add,List.take_add_one,q];rfl
         rw [this,List.flatMap_append,List.flatMap_cons,List.flatMap_nil,List.append_nil]
        show toS (f2 (gv 3) (fComp 2 [5,4] (.two 0 1) (fSeq (gv 1)) (tBl (f2 (gv 0) (gv 2) (gEq false))) (fTup (aCons (gv 3) (aCons (gv 1) aNil)))) gCat [.da (.list (ps.map prD)),.da (.list (l.map prD)),.da (.int (l.length:Nat)),.da (.list (((l.take (0 + i)).flatMap (mo1 l)).map prD)),.da (.int p.1),.da (.int p.2)] 0) _=_
        rw [e5];rfl)
     rw [Nat.zero_add,List.length_map,List.take_of_length_le (Nat.le_refl _)] at ef
     rw [mSeq_nx (env':=[.fz (.list (ps.map prD)),.fz (.list (l.map prD)),.fz (.int (l.length:Nat)),.fz (.list ((l.flatMap (mo1 l)).map prD)),a2,b2]) (β':=0) ?g3]
     case g3=>exact ef
     have hfl:=flat_len l l
     have hfl2:l.length * l.length<=63 * 63:=Nat.mul_le_mul (by omega) (by omega)
     have e6:f1 (f2 (gv 1) (gv 3) gCat) gSortSet [.da (.list (ps.map prD)),.da (.list (l.map prD)),.da (.int (l.length:Nat)),.da (.list ((l.flatMap (mo1 l)).map prD)),a2.val,b2.val] 0=.ok (.list ((OM.stepC n l).map prD)) 0:=by
      refine f1_ok (x:=.list ((l ++ OM.more l).map prD)) (f2_ok rfl rfl ?_) (gSortSet_ok h8 (OM.btw_more B) hl2 rfl)
      rw [gCat_ok (by rw [List.length_map,List.length_map];omega),<-List.map_append];rfl
     refine⟨.fz (.list ((l.flatMap (mo1 l)).map prD)),a2,b2,?_⟩
     show toS (f1 (f2 (gv 1) (gv 3) gCat) gSortSet [.da (.list (ps.map prD)),.da (.list (l.map prD)),.da (.int (l.length:Nat)),.da (.list ((l.flatMap (mo1 l)).map prD)),a2.val,b2.val] 0) _=_
     rw [e6];rfl
    obtain⟨x',a',b',et2⟩:=eturn
    refine⟨_,_,_,et2,?_,rfl,_,_,_,_,_,rfl,B2,.inr ⟨l,B,rfl,rfl⟩,rfl⟩
    rw [if_neg c]
    split <;> omega)
 rw [mSeq_nx ew]
 rfl
end RM

end

section
namespace RM
open PySem L2
def Along (ms:List Int)(ps:List Pr):Prop:=∀p,p∈ps->∃i j:Nat,i < j/\ms[i]? =some p.1/\ms[j]? =some p.2
theorem nodup_at {α:Type}:∀{l:List α} {i j:Nat} {x:α},l.Nodup->l[i]? =some x->l[j]? =some x->i=j
 | [],_,_,_,_,h,_=>by simp at h
 |y :: l,0,0,_,_,_,_=>rfl
 |y :: l,0,j + 1,x,nd,h1,h2=>by
  simp at h1
  subst h1
  exact absurd (List.mem_of_getElem? (by simpa using h2)) (List.nodup_cons.mp nd).1
 |y :: l,i + 1,0,x,nd,h1,h2=>by
  simp at h2
  subst h2
  exact absurd (List.mem_of_getElem? (by simpa using h1)) (List.nodup_cons.mp nd).1
 |y :: l,i + 1,j + 1,x,nd,h1,h2=>by
  rw [nodup_at (l:=l) (i:=i) (j:=j) (List.nodup_cons.mp nd).2 (by simpa using h1) (by simpa using h2)]
theorem along_tr {ms:List Int}{ps:List Pr}(nd:ms.Nodup)(h:Along ms ps){a b:Int}(t:OM.Tr (OM.Mem ps) a b):∃i j:Nat,i < j/\ms[i]? =some a/\ms[j]? =some b:=by
 refine t.least (S:=fun a b=>∃i j:Nat,i < j/\ms[i]? =some a/\ms[j]? =some b) (fun a b r=>h _ r) ?_
 rintro a b c ⟨i,j,hij,h1,h2⟩ ⟨k,l,hkl,h3,h4⟩
 have:=nodup_at nd h2 h3
 exact⟨i,l,by omega,h1,h4⟩
theorem along_irr {ms:List Int}{ps:List Pr}(nd:ms.Nodup)(h:Along ms ps)(a:Int):¬OM.Tr (OM.Mem ps) a a:=fun t=>by
 obtain⟨i,j,hij,h1,h2⟩:=along_tr nd h t
 have:=nodup_at nd h1 h2
 omega
def rng (n:Nat):List Int:=(List.range n).map fun (k:Nat)=>(k:Int)
theorem rng_len (n:Nat):(rng n).length=n:=by unfold rng;simp
theorem mem_rng {n:Nat}{x:Int}:x∈rng n↔0<=x/\x < n:=by
 unfold rng
 rw [List.mem_map]
 constructor
 ·rintro⟨k,hk,rfl⟩
  have:=List.mem_range.mp hk
  omega
 ·intro h
  exact⟨x.toNat,List.mem_range.mpr (by omega),by omega⟩
theorem rng_nodup (n:Nat):(rng n).Nodup:=by
 unfold rng
 rw [List.nodup_iff_pairwise_ne,List.pairwise_map]
 exact (List.nodup_iff_pairwise_ne.mp List.nodup_range).imp fun {a b} h e=>h (by omega)
theorem intsD_rng (n:Nat):intsD 0 n=(rng n).map PyData.int:=by
 unfold intsD rng
 rw [List.map_map]
 refine List.map_congr_left fun k _=>?_
 show PyData.int (0 + (k:Int))=_
 rw [Int.zero_add];rfl
theorem intsD_at {lo:Int}{n i:Nat}{d:D}(h:(intsD lo n)[i]? =some d):i < n/\d=.int (lo + i):=by
 unfold intsD at h
 rw [List.getElem?_map] at h
 cases q:(List.range n)[i]? with
 |none=>rw [q] at h;cases h
 |some j=>
  rw [q] at h
  cases h
  obtain⟨hi,ej⟩:=List.getElem?_eq_some_iff.mp q
  rw [List.length_range] at hi
  rw [List.getElem_range] at ej
  subst ej
  exact⟨hi,rfl⟩
theorem gListRng_ok {n:Nat}(h:n<=1000):gListRng (.int n)=some (.list ((rng n).map PyData.int)):=by
 unfold gListRng
 dsimp only
 rw [if_pos ⟨by omega,by omega⟩,Int.toNat_natCast,intsD_rng]
theorem fRng1_ok {fa:VF D}{vs:List Nv}{β β1:Int}{n:Nat}(h:fa vs β=.ok (.int n) β1)(hn:n<=1000):fRng1 fa vs β=.ok (intsD 0 n) β1:=by
 unfold fRng1
 rw [h]
 simp only [bnd_ok]
 rw [if_pos (okR_small (by omega) (by omega)),Int.toNat_natCast]
theorem fRng2_ok {fa fb:VF D}{vs:List Nv}{β β1 β2:Int}{i j:Int}(h:fa vs β=.ok (.int i) β1)(h':fb vs β1=.ok (.int j) β2)(hi:0<=i/\i<=1000)(hj:0<=j/\j<=1000):fRng2 fa fb vs β=.ok (intsD i (j - i).toNat) β2:=by
 unfold fRng2
 rw [h]
 simp only [bnd_ok]
 rw [h']
 simp only [bnd_ok]
 rw [if_pos (by rw [okR_small (by omega) (by omega),okR_small (by omega) (by omega)];rfl)]
theorem mForS_ok {t:Tg}{L:List Nat}{fi:VF (List D)}{m:SF}{env:En}{β β1:Int}{ds:List D}(h:fi (vl env) β=.ok ds β1):mForS t L fi m env β=mFor t m ds (frz L env) β1:=by unfold mForS;rw [h];rfl
noncomputable def lorderF:List D->Int->FB:=runB 8 1 (m__law_order closedLF takeF mixedF)
theorem ord_along {n:Nat}{ms:List Int}{ps:List Pr}(h1:1<=n)(h8:n<=8)(hp:ms.Perm (rng n))(ha:Along ms ps):OM.Wn n ps/\(∀a,¬OM.Tr (OM.Mem ps) a a)/\OM.Ord n (OM.filt n (OM.Tr (OM.Mem ps))):=by
 have nd:ms.Nodup:=hp.nodup_iff.mpr (rng_nodup n)
 have w:OM.Wn n ps:=fun p hm=>by
  obtain⟨i,j,_,e1,e2⟩:=ha p hm
  have m1:=mem_rng.mp (hp.mem_iff.mp (List.mem_of_getElem? e1))
  have m2:=mem_rng.mp (hp.mem_iff.mp (List.mem_of_getElem? e2))
  exact⟨m1,m2⟩
 have ir:=fun a=>along_irr nd ha a
 exact⟨w,ir,OM.ord_of h1 h8 w ir⟩
theorem take_nat {m:Nat}(h:1<=m)(h2:m<=1000)(β:Int):∃j:Nat,j < m/\takeF [.int m] β=.ok (.int (j:Int)) false (β / m):=by
 refine⟨(β % m).toNat,?_,?_⟩
 ·have h0:=Int.emod_nonneg β (b:=(m:Int)) (by omega)
  have h3:=Int.emod_lt_of_pos β (b:=(m:Int)) (by omega)
  omega
 ·rw [take_eq (by omega) (by omega)]
  have h0:=Int.emod_nonneg β (b:=(m:Int)) (by omega)
  rw [show ((β % m).toNat:Int)=β % m by omega]
theorem r_lorder {most:Nat}(hm1:1<=most)(hm8:most<=8)(β:Int):∃(n:Nat) (l:List Pr) (β':Int),lorderF [.int most] β=.ok (ordD n l) false β'/\OM.Ord n l/\n<=most:=by
 obtain⟨j,hj,ej⟩:=take_nat hm1 (by omega) β
 show ∃(n:Nat) (l:List Pr) (β':Int),finB (m__law_order closedLF takeF mixedF [.bx,.fz (.int most),.no,.no,.no,.no,.no,.no] β)=.ok (ordD n l) false β'/\OM.Ord n l/\n<=most
 unfold m__law_order
 generalize hβ1:β / (most:Int)=β1 at ej
 have n8:1 + j<=8:=by omega
 have e1:f2 (cst (.int 1)) (cbV 0 takeF (aCons (gv 1) aNil)) gAddI [Nv.bx,.da (.int most),.no,.no,.no,.no,.no,.no] β=.ok (.int ((1 + j:Nat):Int)) β1:=by
  refine f2_ok (x:=.int 1) rfl (cbV_ok (by rfl) rfl ej) ?_
  show some (PyData.int (1 + (j:Int)))=_
  rw [show ((1 + j:Nat):Int)=1 + (j:Int) by omega]
 rw [mSeq_nx (env':=[.bx,.fz (.int most),.fz (.int ((1 + j:Nat):Int)),.no,.no,.no,.no,.no]) (β':=β1) ?g1]
 case g1=>
  show toS (f2 (cst (.int 1)) (cbV 0 takeF (aCons (gv 1) aNil)) gAddI [Nv.bx,.da (.int most),.no,.no,.no,.no,.no,.no] β) _=_
  rw [e1];rfl
 generalize hn:1 + j=n at n8
 have n1:1<=n:=by omega
 obtain⟨ms,β2,em,hp⟩:=r_mixed (rng n) (by rw [rng_len];omega) β1
 have hml:ms.length=n:=by rw [hp.length_eq,rng_len]
 have e2:cbV 0 mixedF (aCons (f1 (gv 2) gListRng) aNil) [Nv.bx,.da (.int most),.da (.int n),.no,.no,.no,.no,.no] β1=.ok (.list (ms.map PyData.int)) β2:=by
  refine cbV_ok (ds:=[.list ((rng n).map PyData.int)]) (b:=true) (β1:=β1) (by rfl) ?_ em
  rw [aCons_eq,f1_ok (x:=.int n) (d:=.list ((rng n).map PyData.int)) (β1:=β1) rfl (gListRng_ok (by omega))];rfl
 rw [mSeq_nx (env':=[.bx,.fz (.int most),.fz (.int n),.fz (.list (ms.map PyData.int)),.no,.no,.no,.no]) (β':=β2) ?g2]
 case g2=>
  show toS (cbV 0 mixedF (aCons (f1 (gv 2) gListRng) aNil) [Nv.bx,.da (.int most),.da (.int n),.no,.no,.no,.no,.no] β1) _=_
  rw [e2];rfl
 obtain⟨q,hq,eq⟩:=take_nat (m:=4) (by omega) (by omega) β2
 obtain⟨th,hth,hthv⟩:∃th:Nat,([2,3,4,7]:List Nat)[q]? =some th/\1<=th/\th<=7:=by
  rcases (show q=0\/q=1\/q=2\/q=3 by omega) with rfl |rfl |rfl |rfl
  ·exact⟨2,rfl,by omega,by omega⟩
  ·exact⟨3,rfl,by omega,by omega⟩
  ·exact⟨4,rfl,by omega,by omega⟩
  ·exact⟨7,rfl,by omega,by omega⟩
 generalize hβ3:β2 / ((4:Nat):Int)=β3 at eq
 have e3:f2 (fLst (aCons (cst (.int 2)) (aCons (cst (.int 3)) (aCons (cst (.int 4)) (aCons (cst (.int 7)) aNil))))) (cbV 0 takeF (aCons (cst (.int 4)) aNil)) gIx [Nv.bx,.da (.int most),.da (.int n),.da (.list (ms.map PyData.int)),.no,.no,.no,.no] β2=.ok (.int th) β3:=by
  refine f2_ok (x:=.list (([2,3,4,7]:List Nat).map fun (k:Nat)=>PyData.int (k:Int))) (y:=.int q) (fLst_ok rfl (by simp)) (cbV_ok (ds:=[.int 4]) (by rfl) rfl eq) ?_
  show atI (([2,3,4,7]:List Nat).map fun (k:Nat)=>PyData.int (k:Int)) (q:Int)=_
  rw [atI_map,atI_nat hth];rfl
 rw [mSeq_nx (env':=[.bx,.fz (.int most),.fz (.int n),.fz (.list (ms.map PyData.int)),.fz (.int th),.no,.no,.no]) (β':=β3) ?g3]
 case g3=>
  show toS (f2 (fLst (aCons (cst (.int 2)) (aCons (cst (.int 3)) (aCons (cst (.int 4)) (aCons (cst (.int 7)) aNil))))) (cbV 0 takeF (aCons (cst (.int 4)) aNil)) gIx [Nv.bx,.da (.int most),.da (.int n),.da (.list (ms.map PyData.int)),.no,.no,.no,.no] β2) _=_
  rw [e3];rfl
 have e4:fLst aNil [Nv.bx,.da (.int most),.da (.int n),.da (.list (ms.map PyData.int)),.da (.int th),.no,.no,.no] β3=.ok (.list []) β3:=fLst_ok rfl (by simp)
 rw [mSeq_nx (env':=[.bx,.fz (.int most),.fz (.int n),.fz (.list (ms.map PyData.int)),.fz (.int th),.ow (.list []),.no,.no]) (β':=β3) ?g4]
 case g4=>
  show toS (fLst aNil [Nv.bx,.da (.int most),.da (.int n),.da (.list (ms.map PyData.int)),.da (.int th),.no,.no,.no] β3) _=_
  rw [e4];rfl
 obtain⟨env',β',ef,ps,a,b,rfl,hal,hpl⟩:=mFor_inv (t:=.nm 6) (m:=mForS (.nm 7) (([] ++ []) ++ []) (fRng2 (f2 (gv 6) (cst (.int 1)) gAddI) (gv 2))
   (mIf (([4] ++ []) ++ []) (tBl (f2 (cbV 0 takeF (aCons (gv 4) aNil)) (cst (.int 0)) (gEq false)))
   (mApp 5 (([] ++ []) ++ (([] ++ []) ++ [])) (fTup (aCons (f2 (gv 3) (gv 6) gIx) (aCons (f2 (gv 3) (gv 7) gIx) aNil)))) mNx)) (ds:=intsD 0 n) (k:=0)
  (fun i env β=>∃(ps:List Pr) (a b:Sl),env= [.bx,.fz (.int most),.fz (.int n),.fz (.list (ms.map PyData.int)),.fz (.int th),.ow (.list (ps.map prD)),a,b]/\Along ms ps/\ps.length<=8 * i)
  (env:=[.bx,.fz (.int most),.fz (.int n),.fz (.list (ms.map PyData.int)),.fz (.int th),.ow (.list []),.no,.no]) (β:=β3) ⟨[],.no,.no,rfl,fun p hp=>(by cases hp),by simp⟩ (by
   rintro i d env β hi ⟨ps,a,b,rfl,hal,hpl⟩
   obtain⟨hin,rfl⟩:=intsD_at hi
   refine⟨[.bx,.fz (.int most),.fz (.int n),.fz (.list (ms.map PyData.int)),.fz (.int th),.ow (.list (ps.map prD)),.fz (.int (0 + (i:Int))),b],rfl,?_⟩
   have er:fRng2 (f2 (gv 6) (cst (.int 1)) gAddI) (gv 2) [Nv.bx,.da (.int most),.da (.int n),.da (.list (ms.map PyData.int)),.da (.int th),.da (.list (ps.map prD)),.da (.int (0 + (i:Int))),b.val] β=.ok (intsD (0 + (i:Int) + 1) ((n:Int) - (0 + (i:Int) + 1)).toNat) β:=fRng2_ok rfl rfl ⟨by omega,by omega⟩ ⟨by omega,by omega⟩
   rw [mForS_ok (env:=[.bx,.fz (.int most),.fz (.int n),.fz (.list (ms.map PyData.int)),.fz (.int th),.ow (.list (ps.map prD)),.fz (.int (0 + (i:Int))),b]) er]
   obtain⟨env',β',ef,qs,b,rfl,hal2,hql⟩:=mFor_inv (t:=.nm 7) (m:=mIf (([4] ++ []) ++ []) (tBl (f2 (cbV 0 takeF (aCons (gv 4) aNil)) (cst (.int 0)) (gEq false)))
     (mApp 5 (([] ++ []) ++ (([] ++ []) ++ [])) (fTup (aCons (f2 (gv 3) (gv 6) gIx) (aCons (f2 (gv 3) (gv 7) gIx) aNil)))) mNx) (ds:=intsD (0 + (i:Int) + 1) ((n:Int) - (0 + (i:Int) + 1)).toNat) (k:=0)
    (fun k env β=>∃(qs:List Pr) (b:Sl),env= [.bx,.fz (.int most),.fz (.int n),.fz (.list (ms.map PyData.int)),.fz (.int th),.ow (.list (qs.map prD)),.fz (.int (0 + (i:Int))),b]/\Along ms qs/\qs.length<=8 * i + k)
    (env:=[.bx,.fz (.int most),.fz (.int n),.fz (.list (ms.map PyData.int)),.fz (.int th),.ow (.list (ps.map prD)),.fz (.int (0 + (i:Int))),b]) (β:=β) ⟨ps,b,rfl,hal,by omega⟩ (by
     rintro k d env β hk ⟨qs,b,rfl,hal,hql⟩
     obtain⟨hkn,rfl⟩:=intsD_at hk
     have hkn:i + 1 + k < n:=by omega
     refine⟨[.bx,.fz (.int most),.fz (.int n),.fz (.list (ms.map PyData.int)),.fz (.int th),.ow (.list (qs.map prD)),.fz (.int (0 + (i:Int))),.fz (.int (0 + (i:Int) + 1 + (k:Int)))],rfl,?_⟩
     obtain⟨z,hz,ez⟩:=take_nat hthv.1 (by omega) β
     have et:tBl (f2 (cbV 0 takeF (aCons (gv 4) aNil)) (cst (.int 0)) (gEq false)) [Nv.bx,.da (.int most),.da (.int n),.da (.list (ms.map PyData.int)),.da (.int th),.da (.list (qs.map prD)),.da (.int (0 + (i:Int))),.da (.int (0 + (i:Int) + 1 + (k:Int)))] β=.ok (decide ((z:Int)=0)) (β / th):=tBl_eqI (neg:=false) (cbV_ok (ds:=[.int th]) (by rfl) rfl ez) rfl
     by_cases c:(z:Int)=0
     ·rw [decide_eq_true c] at et
      have h1:i < ms.length:=by omega
      have h2:i + 1 + k < ms.length:=by omega
      refine⟨[.bx,.fz (.int most),.fz (.int n),.fz (.list (ms.map PyData.int)),.fz (.int th),.ow (.list ((qs ++ [(ms[i],ms[i + 1 + k])]).map prD)),.fz (.int (0 + (i:Int))),.fz (.int (0 + (i:Int) + 1 + (k:Int)))],β / th,?_,qs ++ [(ms[i],ms[i + 1 + k])],_,rfl,?_,?_⟩
      ·rw [mIf_t et]
       have ep:fTup (aCons (f2 (gv 3) (gv 6) gIx) (aCons (f2 (gv 3) (gv 7) gIx) aNil)) [Nv.bx,.da (.int most),.da (.int n),.da (.list (ms.map PyData.int)),.da (.int th),.da (.list (qs.map prD)),.da (.int (0 + (i:Int))),.da (.int (0 + (i:Int) + 1 + (k:Int)))] (β / th)=.ok (prD (ms[i],ms[i + 1 + k])) (β / th):=by
        refine fTup_ok (ds:=[.int ms[i],.int ms[i + 1 + k]]) ?_ (by simp)
        have a1:f2 (gv 3) (gv 6) gIx [Nv.bx,.da (.int most),.da (.int n),.da (.list (ms.map PyData.int)),.da (.int th),.da (.list (qs.map prD)),.da (.int (0 + (i:Int))),.da (.int (0 + (i:Int) + 1 + (k:Int)))] (β / th)=.ok (.int ms[i]) (β / th):=by
         refine f2_ok rfl rfl ?_
         show atI (ms.map PyData.int) (0 + (i:Int))=_
         rw [Int.zero_add,atI_map,atI_lt h1];rfl
        have a2:f2 (gv 3) (gv 7) gIx [Nv.bx,.da (.int most),.da (.int n),.da (.list (ms.map PyData.int)),.da (.int th),.da (.list (qs.map prD)),.da (.int (0 + (i:Int))),.da (.int (0 + (i:Int) + 1 + (k:Int)))] (β / th)=.ok (.int ms[i + 1 + k]) (β / th):=by
         refine f2_ok rfl rfl ?_
         show atI (ms.map PyData.int) (0 + (i:Int) + 1 + (k:Int))=_
         rw [show (0 + (i:Int) + 1 + (k:Int))=((i + 1 + k:Nat):Int) by omega,atI_map,atI_lt h2];rfl
        rw [aCons_eq,a1]
        dsimp only [R.bnd]
        rw [aCons_eq,a2];rfl
       have:=mApp_ok (i:=5) (L:=([] ++ []) ++ (([] ++ []) ++ [])) (env:=[.bx,.fz (.int most),.fz (.int n),.fz (.list (ms.map PyData.int)),.fz (.int th),.ow (.list (qs.map prD)),.fz (.int (0 + (i:Int))),.fz (.int (0 + (i:Int) + 1 + (k:Int)))]) (ds:=qs.map prD) (by rfl) ep (by rfl) (by rw [List.length_map];omega)
       rw [List.map_append]
       exact this
      ·intro p hp
       rcases List.mem_append.mp hp with hp |hp
       ·exact hal p hp
       ·have:p=(ms[i],ms[i + 1 + k]):=by simpa using hp
        subst this
        exact⟨i,i + 1 + k,by omega,List.getElem?_eq_getElem h1,List.getElem?_eq_getElem h2⟩
      ·rw [List.length_append];simp;omega
     ·rw [decide_eq_false c] at et
      refine⟨_,_,by rw [mIf_f et];rfl,qs,_,rfl,hal,by omega⟩)
   have hlen:(intsD (0 + (i:Int) + 1) ((n:Int) - (0 + (i:Int) + 1)).toNat).length<=7:=by rw [intsD_len];omega
   exact⟨_,_,ef,qs,_,b,rfl,hal2,by omega⟩)
 rw [mSeq_nx (env':=[.bx,.fz (.int most),.fz (.int n),.fz (.list (ms.map PyData.int)),.fz (.int th),.ow (.list (ps.map prD)),a,b]) (β':=β') ?g5]
 case g5=>
  rw [mForS_ok (env:=[.bx,.fz (.int most),.fz (.int n),.fz (.list (ms.map PyData.int)),.fz (.int th),.ow (.list []),.no,.no]) (fRng1_ok (n:=n) rfl (by omega))]
  exact ef
 obtain⟨w,ir,O⟩:=ord_along n1 n8 hp hal
 refine⟨n,OM.filt n (OM.Tr (OM.Mem ps)),β',?_,O,by omega⟩
 have e9:fTup (aCons (gv 2) (aCons (callV closedLF (aCons (gv 5) aNil)) aNil)) [Nv.bx,.da (.int most),.da (.int n),.da (.list (ms.map PyData.int)),.da (.int th),.da (.list (ps.map prD)),a.val,b.val] β'=.ok (ordD n (OM.filt n (OM.Tr (OM.Mem ps)))) β':=by
  refine fTup_ok (ds:=[.int n,.tuple ((OM.filt n (OM.Tr (OM.Mem ps))).map prD)]) ?_ (by simp)
  have a1:callV closedLF (aCons (gv 5) aNil) [Nv.bx,.da (.int most),.da (.int n),.da (.list (ms.map PyData.int)),.da (.int th),.da (.list (ps.map prD)),a.val,b.val] β'=.ok (.tuple ((OM.filt n (OM.Tr (OM.Mem ps))).map prD)) β':=callV_ok rfl (r_lclosed n1 n8 w ir)
  rw [aCons_eq]
  show (R.ok (PyData.int n) β').bnd _=_
  dsimp only [R.bnd]
  rw [aCons_eq,a1];rfl
 show finB (toS (fTup (aCons (gv 2) (aCons (callV closedLF (aCons (gv 5) aNil)) aNil)) [Nv.bx,.da (.int most),.da (.int n),.da (.list (ms.map PyData.int)),.da (.int th),.da (.list (ps.map prD)),a.val,b.val] β') _)=_
 rw [e9];rfl
end RM

end

section
namespace RM
open PySem L2
theorem any_prs (p:Pr):∀l:List Pr,((l.map prD).any fun e=>PyData.eqv e (prD p))=decide (p∈l)
 | []=>rfl
 |q :: l=>by
  rw [List.map_cons,List.any_cons,any_prs p l,eqv_pr,Bool.eq_iff_iff]
  simp only [Bool.or_eq_true,decide_eq_true_eq,List.mem_cons]
  exact⟨fun h=>h.imp Eq.symm id,fun h=>h.imp Eq.symm id⟩
theorem all_prs (l:List Pr):(l.map prD).all SeqAt.shaped=true:=by
 rw [List.all_eq_true]
 intro d hd
 obtain⟨p,_,rfl⟩:=List.mem_map.mp hd
 exact shaped_pr p
theorem gIn_tup (neg:Bool)(p:Pr)(l:List Pr):gIn neg (prD p) (.tuple (l.map prD))=some (.bool (if neg then !decide (p∈l) else decide (p∈l))):=by
 unfold gIn
 simp only [seqD,shaped_pr,all_prs,Bool.and_self,if_true,any_prs]
theorem gIn_lst (neg:Bool)(p:Pr)(l:List Pr):gIn neg (prD p) (.list (l.map prD))=some (.bool (if neg then !decide (p∈l) else decide (p∈l))):=by
 unfold gIn
 simp only [seqD,shaped_pr,all_prs,Bool.and_self,if_true,any_prs]
theorem gEq_int (neg:Bool)(i j:Int):gEq neg (.int i) (.int j)=some (.bool (if neg then !decide (i=j) else decide (i=j))):=rfl
theorem fAnd_ok {fa fb:VF D}{vs:List Nv}{β:Int}{a b:Bool}(h:fa vs β=.ok (.bool a) β)(h':fb vs β=.ok (.bool b) β):fAnd fa fb vs β=.ok (.bool (a && b)) β:=by
 unfold fAnd
 rw [h]
 dsimp only [R.bnd]
 cases a with
 |true=>exact h'
 |false=>rfl
theorem fPair_ok {fa fb:VF D}{vs:List Nv}{β:Int}{a b:Int}(h:fa vs β=.ok (.int a) β)(h':fb vs β=.ok (.int b) β):fTup (aCons fa (aCons fb aNil)) vs β=.ok (prD (a,b)) β:=by
 refine fTup_ok (ds:=[.int a,.int b]) ?_ (by simp)
 rw [aCons_eq,h]
 dsimp only [R.bnd]
 rw [aCons_eq,h'];rfl
def apB (l:List Pr)(p:Pr):Bool:= !decide (p.1=p.2) && (!decide ((p.1,p.2)∈l) && !decide ((p.2,p.1)∈l))
theorem ix1 {n:Nat}{l:List Pr}{fa:VF D}{vs:List Nv}{β:Int}(h:fa vs β=.ok (ordD n l) β):f2 fa (cst (.int 1)) gIx vs β=.ok (.tuple (l.map prD)) β:=f2_ok h rfl rfl
theorem ix0 {n:Nat}{l:List Pr}{fa:VF D}{vs:List Nv}{β:Int}(h:fa vs β=.ok (ordD n l) β):f2 fa (cst (.int 0)) gIx vs β=.ok (.int n) β:=f2_ok h rfl rfl
def apF:List D->FR:=runF 3 3 m_are_apart
def lapF:List D->FR:=runF 3 3 m__law_apart
theorem r_ap (n:Nat)(l:List Pr)(a b:Int):apF [ordD n l,.int a,.int b]=.ok (.bool (apB l (a,b))) false:=by
 show fin (toS (fAnd (f2 (gv 1) (gv 2) (gEq true)) (fAnd (f2 (fTup (aCons (gv 1) (aCons (gv 2) aNil))) (f2 (gv 0) (cst (.int 1)) gIx) (gIn true)) (f2 (fTup (aCons (gv 2) (aCons (gv 1) aNil))) (f2 (gv 0) (cst (.int 1)) gIx) (gIn true))) [.da (ordD n l),.da (.int a),.da (.int b)] 0) _)=_
 rw [fAnd_ok (f2_ok (x:=.int a) (y:=.int b) rfl rfl (gEq_int true a b)) (fAnd_ok (f2_ok (fPair_ok (a:=a) (b:=b) rfl rfl) (ix1 (n:=n) (l:=l) rfl) (gIn_tup true (a,b) l)) (f2_ok (fPair_ok (a:=b) (b:=a) rfl rfl) (ix1 (n:=n) (l:=l) rfl) (gIn_tup true (b,a) l)))]
 rfl
theorem r_lap (n:Nat)(l:List Pr)(a b:Int):lapF [ordD n l,.int a,.int b]=.ok (.bool (apB l (a,b))) false:=r_ap n l a b
def trn (n:Nat)(l:List Pr):List Pr:=(OM.grid n).filter (apB l)
theorem grid_len (n:Nat):(OM.grid n).length=n * n:=by unfold OM.grid;simp
theorem trn_len {n:Nat}{l:List Pr}(h8:n<=8):(trn n l).length<=64:=by
 have h1:(trn n l).length<=(OM.grid n).length:=List.length_filter_le _ _
 rw [grid_len] at h1
 have:n * n<=64:=Nat.mul_le_mul h8 h8
 omega
theorem mem_trn {n:Nat}{l:List Pr}{p:Pr}:p∈trn n l↔((0<=p.1/\p.1 < n)/\(0<=p.2/\p.2 < n))/\apB l p=true:=by
 unfold trn;rw [List.mem_filter,OM.mem_grid]
theorem tTr_b {fa:VF D}{vs:List Nv}{β:Int}{c:Bool}(h:fa vs β=.ok (.bool c) β):tTr fa vs β=.ok c β:=by rw [tTr_eq,h];rfl
end RM

end

section
namespace RM
open PySem L2
theorem tf_len {c:Nat}:∀(ts:List Str) (k:Nat) (acc:Str),(∀t∈ts,t.length + 2<=c)->(textFrom k acc ts).length<=acc.length + c * ts.length
 | [],k,acc,_=>by show acc.length<=_;omega
 |t :: r,k,acc,h=>by
  have ih:=tf_len r (k + 1) (acc ++ (if k > 0 then ", " else "":String) ++ t) fun u hu=>h u (List.mem_cons_of_mem _ hu)
  have e:(acc ++ (if k > 0 then ", " else "":String) ++ t).length=acc.length + (if k > 0 then 2 else 0) + t.length:=by
   rw [strLen_append,strLen_append]
   split <;> rfl
  rw [e] at ih
  have ht:=h t (List.mem_cons_self ..)
  show (textFrom (k + 1) _ r).length<=_
  have e2:c * (t :: r).length=c * r.length + c:=by rw [List.length_cons,Nat.mul_succ]
  rw [e2]
  have:(if k > 0 then 2 else 0:Nat)<=2:=by split <;> omega
  omega
end RM

end

section
namespace RM
open PySem L2
theorem tAn_ok {t u:VF Bool}{vs:List Nv}{β:Int}{a b:Bool}(h:t vs β=.ok a β)(h':u vs β=.ok b β):tAn t u vs β=.ok (a && b) β:=by
 rw [tAn_eq,h];dsimp only [R.bnd]
 cases a with
 |true=>rw [if_pos rfl,h'];rfl
 |false=>rfl
theorem tNt_ok {t:VF Bool}{vs:List Nv}{β:Int}{a:Bool}(h:t vs β=.ok a β):tNt t vs β=.ok (!a) β:=by rw [tNt_eq,h];rfl
theorem rng_pw (n:Nat):(rng n).Pairwise (· < ·):=by
 unfold rng
 rw [List.pairwise_map]
 exact List.pairwise_lt_range.imp fun {a b} h=>by omega
def upTo (n:Nat)(f:Pr->Bool)(i k:Nat):List Pr:=(OM.grid n).filter fun p=>(decide (p.1 < i) || (decide (p.1=i) && decide (p.2 < k))) && f p
theorem upTo_len {n:Nat}(f:Pr->Bool)(i k:Nat)(h8:n<=8):(upTo n f i k).length<=64:=by
 have h1:(upTo n f i k).length<=(OM.grid n).length:=List.length_filter_le _ _
 rw [grid_len] at h1
 have:n * n<=64:=Nat.mul_le_mul h8 h8
 omega
theorem upTo_zero (n:Nat)(f:Pr->Bool):upTo n f 0 0= []:=by
 unfold upTo
 rw [List.filter_eq_nil_iff]
 intro p hp
 have:=OM.mem_grid.mp hp
 rw [decide_eq_false (by omega),decide_eq_false (p:=p.2 < ((0:Nat):Int)) (by omega)];simp
theorem upTo_all (n:Nat)(f:Pr->Bool):upTo n f n 0=(OM.grid n).filter f:=by
 unfold upTo
 refine List.filter_congr fun p hp=>?_
 have:=(OM.mem_grid.mp hp).1.2
 rw [decide_eq_true this];simp
theorem upTo_row (n:Nat)(f:Pr->Bool)(i:Nat):upTo n f i n=upTo n f (i + 1) 0:=by
 unfold upTo
 refine List.filter_congr fun p hp=>?_
 have h:=OM.mem_grid.mp hp
 congr 1
 rw [Bool.eq_iff_iff]
 simp only [Bool.or_eq_true,Bool.and_eq_true,decide_eq_true_eq]
 omega
theorem upTo_step {n i k:Nat}(f:Pr->Bool)(hi:i < n)(hk:k < n):upTo n f i (k + 1)=upTo n f i k ++ if f ((i:Int),(k:Int))=true then [((i:Int),(k:Int))] else []:=by
 refine OM.ris_ext (OM.ris_filter _ (OM.ris_grid n)) ?_ fun x=>?_
 ·show List.Pairwise OM.plt _
  rw [List.pairwise_append]
  refine⟨OM.ris_filter _ (OM.ris_grid n),?_,fun p hp q hq=>?_⟩
  ·split <;> simp
  ·unfold upTo at hp
   have h1:=(List.mem_filter.mp hp).2
   simp only [Bool.or_eq_true,Bool.and_eq_true,decide_eq_true_eq] at h1
   split at hq
   ·have:q=((i:Int),(k:Int)):=by simpa using hq
    subst this
    show p.1 < (i:Int)\/(p.1=(i:Int)/\p.2 < (k:Int))
    exact h1.1
   ·cases hq
 ·rw [List.mem_append]
  unfold upTo
  rw [List.mem_filter,List.mem_filter,OM.mem_grid]
  simp only [Bool.or_eq_true,Bool.and_eq_true,decide_eq_true_eq]
  constructor
  ·rintro⟨h1,h2,h3⟩
   by_cases z:x.1=i/\x.2=k
   ·obtain⟨xa,xb⟩:=x
    simp only at z h3
    obtain⟨rfl,rfl⟩:=z
    rw [if_pos h3]
    exact .inr (List.mem_singleton.mpr rfl)
   ·exact .inl ⟨h1,by omega,h3⟩
  ·rintro (⟨h1,h2,h3⟩ |h)
   ·exact⟨h1,by omega,h3⟩
   ·split at h
    ·rename_i hf
     have:x=((i:Int),(k:Int)):=by simpa using h
     subst this
     exact⟨⟨⟨by show (0:Int)<=(i:Int);omega,by show (i:Int) < n;omega⟩,by show (0:Int)<=(k:Int);omega,by show (k:Int) < n;omega⟩,.inr ⟨rfl,by show (k:Int) < ((k + 1:Nat):Int);omega⟩,hf⟩
    ·cases h
def tupI (r:List Int):D:=.tuple (r.map PyData.int)
theorem fIdx_ok {fa fb:VF D}{vs:List Nv}{β:Int}{r:List Int}{k:Int}(h:fa vs β=.ok (tupI r) β)(h':fb vs β=.ok (.int k) β)(hk:k∈r):fIdx fa fb vs β=.ok (.int (r.idxOf k:Nat)) β:=by
 unfold fIdx
 rw [h]
 dsimp only [R.bnd]
 rw [if_pos (by rfl),h']
 dsimp only [R.bnd,ixOf,tupI]
 rw [intsP_map]
 dsimp only
 rw [if_pos hk];rfl
theorem idx_inj {r:List Int}{a b:Int}(ha:a∈r)(hb:b∈r)(h:r.idxOf a=r.idxOf b):a=b:=by
 have h1:=List.getElem_idxOf (List.idxOf_lt_length_iff.mpr ha)
 have h2:=List.getElem_idxOf (List.idxOf_lt_length_iff.mpr hb)
 rw [<-h1,<-h2]
 congr 1
end RM

end

section

end

section

end

section

end

section
namespace RM
open PySem L2
def isTu:D->Bool
 | .tuple _=>true
 |_=>false
theorem isTu_eq {d:D}(h:isTu d=true):∃ds,d=.tuple ds:=by
 cases d with
 |tuple ds=>exact⟨ds,rfl⟩
 |_=>cases h
theorem gIsi_tup {d:D}(h:isScr d=false):gIsi "tuple" d=some (.bool (isTu d)):=by
 unfold gIsi;rw [h];cases d <;> rfl
section
variable {fa fb:VF D}{vs:List Nv}{β:Int}
theorem tup_t {d:D}(ha:fa vs β=.ok d β)(h:isScr d=false):tTr (f1 fa (gIsi "tuple")) vs β=.ok (isTu d) β:=tTr_b (f1_ok ha (gIsi_tup h))
theorem all_okD {l:List D}{f:D->Bool}(h:fa vs β=.ok (.list (l.map fun q=>PyData.bool (f q))) β):f1 fa (gBools fun bs=>bs.all id) vs β=.ok (.bool (l.all f)) β:=by
 refine f1_ok h ?_
 simp only [gBools]
 rw [bools_map]
 simp [List.all_map]
theorem len_t {ds:List D}(ha:fa vs β=.ok (.tuple ds) β):f1 fa gLen vs β=.ok (.int ds.length) β:=f1_ok ha rfl
theorem len_ne {ds:List D}{k:Int}(ha:fa vs β=.ok (.tuple ds) β):tBl (f2 (f1 fa gLen) (cst (.int k)) (gEq true)) vs β=.ok (!decide ((ds.length:Int)=k)) β:=tBl_eqI (neg:=true) (len_t ha) rfl
theorem orr_t {t u:VF Bool}(h:t vs β=.ok true β):tOrr t u vs β=.ok true β:=by rw [tOrr_eq,h];rfl
theorem orr_f {t u:VF Bool}{c:Bool}(h:t vs β=.ok false β)(h':u vs β=.ok c β):tOrr t u vs β=.ok c β:=by rw [tOrr_eq,h];exact h'
theorem and_f (h:fa vs β=.ok (.bool false) β):fAnd fa fb vs β=.ok (.bool false) β:=by unfold fAnd;rw [h];rfl
theorem and_t {d:D}(h:fa vs β=.ok (.bool true) β)(h':fb vs β=.ok d β):fAnd fa fb vs β=.ok d β:=by unfold fAnd;rw [h];exact h'
theorem or_t (h:fa vs β=.ok (.bool true) β):fOr fa fb vs β=.ok (.bool true) β:=by unfold fOr;rw [h];rfl
theorem or_f {d:D}(h:fa vs β=.ok (.bool false) β)(h':fb vs β=.ok d β):fOr fa fb vs β=.ok d β:=by unfold fOr;rw [h];exact h'
end
def Sq (c k:Nat)(d:D):Prop:=d.showable=true/\d.depth<=k/\d.shown.length<=c
theorem Sq.mono {c k c' k':Nat}{d:D}(h:Sq c k d)(h1:c<=c')(h2:k<=k'):Sq c' k' d:=⟨h.1,Nat.le_trans h.2.1 h2,Nat.le_trans h.2.2 h1⟩
theorem sq_all {c k:Nat}:∀{ds:List D},(∀d,d∈ds->Sq c k d)->PyData.showableAll ds=true/\PyData.depthAll ds<=k/\(∀t,t∈PyData.shownAll ds->t.length<=c)/\(PyData.shownAll ds).length=ds.length
 | [],_=>⟨by simp [PyData.showableAll],by simp [PyData.depthAll],fun t h=>by simp [PyData.shownAll] at h,by simp [PyData.shownAll]⟩
 |d :: ds,h=>by
  obtain⟨h1,h2,h3,h4⟩:=sq_all fun x hx=>h x (List.mem_cons_of_mem _ hx)
  obtain⟨q1,q2,q3⟩:=h d (List.mem_cons_self ..)
  refine⟨?_,?_,fun t ht=>?_,?_⟩
  ·rw [PyData.showableAll,q1,h1];rfl
  ·rw [PyData.depthAll];omega
  ·rw [PyData.shownAll] at ht
   rcases List.mem_cons.mp ht with rfl |ht
   ·exact q3
   ·exact h3 t ht
  ·rw [PyData.shownAll,List.length_cons,List.length_cons,h4]
theorem join_len {c:Nat}:∀{ts:List Str},(∀t,t∈ts->t.length<=c)->(Str.join ", " ts).length<=(c + 2) * ts.length
 | [],_=>by show (Str.join ", " []).length<=_;exact Nat.zero_le _
 | [x],h=>by
  have:=h x (List.mem_cons_self ..)
  show x.length<=(c + 2) * 1
  omega
 |x :: y :: r,h=>by
  have ih:=join_len (ts:=y :: r) fun t ht=>h t (List.mem_cons_of_mem _ ht)
  have:=h x (List.mem_cons_self ..)
  show (x ++ ", " ++ Str.join ", " (y :: r)).length<=_
  rw [strLen_append,strLen_append]
  have e2:((", ":String):Str).length=2:=rfl
  rw [e2]
  have e:(c + 2) * (x :: y :: r).length=(c + 2) * (y :: r).length + (c + 2):=by rw [List.length_cons,Nat.mul_succ]
  omega
theorem sq_tup {c k:Nat}{ds:List D}(h:∀d,d∈ds->Sq c k d):Sq (3 + (c + 2) * ds.length) (k + 1) (.tuple ds):=by
 obtain⟨h1,h2,h3,h4⟩:=sq_all h
 refine⟨by rw [PyData.showable];exact h1,by rw [PyData.depth];omega,?_⟩
 rw [PyData.shown]
 unfold tupleText
 rw [strLen_append,strLen_append]
 have j:=join_len h3
 rw [h4] at j
 have e1:((("(":String):Str)).length=1:=rfl
 have e3:((if (PyData.shownAll ds).length == 1 then ",)" else ")":String):Str).length<=2:=by split <;> exact by decide
 rw [e1]
 omega
theorem sq_lst {c k:Nat}{ds:List D}(h:∀d,d∈ds->Sq c k d):Sq (2 + (c + 2) * ds.length) (k + 1) (.list ds):=by
 obtain⟨h1,h2,h3,h4⟩:=sq_all h
 refine⟨by rw [PyData.showable];exact h1,by rw [PyData.depth];omega,?_⟩
 rw [PyData.shown]
 unfold listText
 rw [strLen_append]
 have:=tf_len (c:=c + 2) (PyData.shownAll ds) 0 "[" fun t ht=>by have:=h3 t ht;omega
 rw [h4] at this
 have e1:((("[":String):Str)).length=1:=rfl
 have e2:((("]":String):Str)).length=1:=rfl
 rw [e1] at this
 rw [e2];omega
def Bf (d:D):Prop:=noL d=true
theorem bf_all:∀{ds:List D},(∀d,d∈ds->Bf d)->noLs ds=true
 | [],_=>rfl
 |d :: ds,h=>by
  have h1:=bf_all fun x hx=>h x (List.mem_cons_of_mem _ hx)
  have q1:noL d=true:=h d (List.mem_cons_self ..)
  rw [noLs,q1,h1];rfl
theorem bf_tup {ds:List D}(h:∀d,d∈ds->Bf d):Bf (.tuple ds):=by show noL (.tuple ds)=true;rw [noL];exact bf_all h
theorem bf_lst {ds:List D}(h:∀d,d∈ds->Bf d):Bf (.list ds):=by show noL (.list ds)=true;rw [noL];exact bf_all h
theorem rp_of {c k:Nat}{d:D}(h:Sq c k d)(hc:c<=100000)(hk:k<=64)(hf:Bf d):rpOk d=true:=by
 unfold rpOk
 have h1:d.depth<=64:=Nat.le_trans h.2.1 hk
 have h2:d.shown.length<=sizeLine:=Nat.le_trans (Nat.le_trans h.2.2 hc) (by rw [sizeLine_eq];omega)
 rw [h.1,decide_eq_true h1,decide_eq_true h2]
 have b:noL d=true:=hf
 rw [b,Bool.or_true];rfl
def smN:List Int:=[-1,0,1,2,3,4,5,6,7,8,9]
theorem smN_ok:∀i∈smN,(PyData.int i).showable=true/\(PyData.int i).shown.length<=20:=by decide +kernel
theorem mem_smN {i:Int}(h: -1<=i/\i<=9):i∈smN:=by
 simp only [smN,List.mem_cons,List.not_mem_nil,or_false]
 omega
def Smi (d:D):Prop:=d=.none\/(∃b,d=.bool b)\/∃i:Int,d=.int i/\ -1<=i/\i<=9
theorem Smi.sq {d:D}(h:Smi d):Sq 20 0 d:=by
 rcases h with rfl | ⟨b,rfl⟩ | ⟨i,rfl,h⟩
 ·exact⟨by simp [PyData.showable],by simp [PyData.depth],by rw [PyData.shown];decide⟩
 ·exact⟨by simp [PyData.showable],by simp [PyData.depth],by rw [PyData.shown];cases b <;> decide⟩
 ·exact⟨(smN_ok i (mem_smN h)).1,by simp [PyData.depth],(smN_ok i (mem_smN h)).2⟩
theorem Smi.bf {d:D}(h:Smi d):Bf d:=by
 rcases h with rfl | ⟨b,rfl⟩ | ⟨i,rfl,h⟩ <;> exact by simp [Bf,noL]
theorem Smi.scr {d:D}(h:Smi d):isScr d=false:=by
 rcases h with rfl | ⟨b,rfl⟩ | ⟨i,rfl,h⟩ <;> rfl
section
variable {vs:List Nv}{β β1 β2:Int}{fa:VF D}{fr:VF (List D)}{d:D}{ds:List D}
theorem ac {fa:VF D}{fr:VF (List D)}(h:fa vs β=.ok d β)(h':fr vs β=.ok ds β):aCons fa fr vs β=.ok (d :: ds) β:=by rw [aCons_eq,h];dsimp only [R.bnd];rw [h']
theorem an:aNil vs β=.ok [] β:=rfl
theorem tp (h:fr vs β=.ok ds β)(hz:ds.length<=1000:=by simp):fTup fr vs β=.ok (.tuple ds) β:=fTup_ok h hz
theorem lp (h:fr vs β=.ok ds β)(hz:ds.length<=1000:=by simp):fLst fr vs β=.ok (.list ds) β:=fLst_ok h hz
theorem ck (d:D):cst d vs β=.ok d β:=rfl
end
theorem pow39 {vs:List Nv}{β:Int}:f2 (cst (.int 10)) (cst (.int 39)) gPow vs β=.ok (.int 1000000000000000000000000000000000000000) β:=f2_ok (x:=.int 10) (y:=.int 39) rfl rfl (by rfl)
theorem two_all {P:D->Prop}{x y:D}(hx:P x)(hy:P y):∀d,d∈ [x,y]->P d:=fun d hd=>by
 rcases List.mem_cons.mp hd with rfl |hd
 ·exact hx
 ·rw [List.mem_singleton] at hd;subst hd;exact hy
theorem smi_int {i:Int}(h: -1<=i/\i<=9):Smi (.int i):=.inr (.inr ⟨i,rfl,h⟩)
theorem gIsi_lst {d:D}(h:isScr d=false):gIsi "list" d=some (.bool (match d with | .list _=>true |_=>false)):=by
 unfold gIsi;rw [h];cases d <;> rfl
def isLs:D->Bool
 | .list _=>true
 |_=>false
theorem isLs_eq {d:D}(h:isLs d=true):∃ds,d=.list ds:=by
 cases d with
 |list ds=>exact⟨ds,rfl⟩
 |_=>cases h
theorem lst_f {fa:VF D}{vs:List Nv}{β:Int}{d:D}(ha:fa vs β=.ok d β)(h:isScr d=false):f1 fa (gIsi "list") vs β=.ok (.bool (isLs d)) β:=f1_ok ha (by rw [gIsi_lst h];cases d <;> rfl)
theorem lenL_t {fa:VF D}{vs:List Nv}{β:Int}{ds:List D}(ha:fa vs β=.ok (.list ds) β):f1 fa gLen vs β=.ok (.int ds.length) β:=f1_ok ha rfl
end RM

end

section
namespace RM
open PySem L2
def m_is_turn (F_is_pair F_are_apart:List D->FR):SF:=(mRet (fAnd (callV F_is_pair (aCons (gv 0) (aCons (f2 (gv 1) (cst (.int 0)) gIx) aNil))) (callV F_are_apart (aCons (gv 1) (aCons (f2 (gv 0) (cst (.int 0)) gIx) (aCons (f2 (gv 0) (cst (.int 1)) gIx) aNil))))))
def m_are_turns (F_is_turn:List D->FR):SF:=(mRet (fAnd (f1 (gv 0) (gIsi "list")) (f1 (fComp 1 [1] (.nm 0) (fSeq (gv 0)) tYs (callV F_is_turn (aCons (gv 0) (aCons (gv 1) aNil)))) (gBools fun bs=>bs.all id))))
def m_leads_on:SF:=(mRet (fOr (f2 (f2 (gv 1) (cst (.int 0)) gIx) (f2 (gv 2) (cst (.int 1)) gIx) (gEq false)) (f2 (fTup (aCons (f2 (gv 1) (cst (.int 0)) gIx) (aCons (f2 (gv 2) (cst (.int 1)) gIx) aNil))) (f2 (gv 0) (cst (.int 1)) gIx) (gIn false))))
def m_goes_round (F_are_turns F_leads_on:List D->FR):SF:=(mSeq (mIf (([0] ++ ([1] ++ [])) ++ ([] ++ [])) (tOrr (tNt (tTr (callV F_are_turns (aCons (gv 0) (aCons (gv 1) aNil))))) (tBl (f2 (f1 (gv 0) gLen) (cst (.int 0)) (gEq false))))
 (mRet (cst (.bool false)))
 mNx)
 (mRet (f1 (fComp 1 [1,0] (.nm 0) (fRng1 (f1 (gv 0) gLen)) tYs (callV F_leads_on (aCons (gv 1) (aCons (f2 (gv 2) (f2 (gv 0) (cst (.int 1)) gSubI) gIx) (aCons (f2 (gv 2) (gv 0) gIx) aNil))))) (gBools fun bs=>bs.all id))))
def m_is_ring (F_need_order F_goes_round:List D->FR):SF:=(mSeq (mExpr ([1] ++ []) (callV F_need_order (aCons (gv 1) aNil)))
 (mRet (callV F_goes_round (aCons (gv 0) (aCons (gv 1) aNil)))))
def m__law_whole:SF:=(mRet (fAnd (f1 (gv 0) (gIsi "int")) (f1 (f1 (gv 0) (gIsi "bool")) gNot)))
def m__law_truth:SF:=(mRet (fAnd (f1 (gv 0) (gIsi "bool")) (f2 (gv 0) (gv 1) (gEq false))))
def m__law_odd (F__law_take:List D->Int->FB):SF:=(mSeq (mSet 1 ([] ++ ([] ++ ([] ++ ([] ++ ([] ++ ([] ++ ([] ++ ([] ++ ([] ++ ([] ++ (([] ++ []) ++ (([] ++ ([] ++ [])) ++ (([] ++ []) ++ []))))))))))))) (fLst (aCons (cst .none) (aCons (cst (.bool true)) (aCons (cst (.bool false)) (aCons (cst (.int (-1))) (aCons (cst (.int 0)) (aCons (cst (.int 1)) (aCons (cst (.str "")) (aCons (cst (.str "1")) (aCons (fTup aNil) (aCons (fLst aNil) (aCons (fTup (aCons (cst (.int 0)) aNil)) (aCons (fTup (aCons (cst (.int 1)) (aCons (fTup aNil) aNil))) (aCons (fLst (aCons (cst (.int 0)) aNil)) aNil)))))))))))))))
 (mSeq (mSet 1 ([] ++ ([] ++ (([] ++ ([] ++ [])) ++ ([] ++ ((([] ++ ([] ++ [])) ++ []) ++ ([] ++ [])))))) (f2 (gv 1) (fLst (aCons (cst (.dict [(.str "a",.int 1)])) (aCons (fTup (aCons (cst (.int 0)) (aCons (cst (.int 1)) aNil))) (aCons (f2 (cst (.int 10)) (cst (.int 39)) gPow) (aCons (fTup (aCons (fTup (aCons (cst (.int 0)) (aCons (cst (.int 1)) aNil))) aNil)) (aCons (cst (.str "a")) aNil)))))) gCat))
 (mRet (f2 (gv 1) (cbV 0 F__law_take (aCons (cst (.int 18)) aNil)) gIx))))
def m__law_turns (F__law_apart:List D->FR):SF:=(mSeq (mSet 1 [] (fLst aNil))
 (mSeq (mForS (.nm 2) ([] ++ []) (fRng1 (f2 (gv 0) (cst (.int 0)) gIx))
 (mSet 1 ([] ++ (([] ++ []) ++ [0,2])) (f2 (gv 1) (fComp 1 [0,2] (.nm 0) (fRng1 (f2 (gv 0) (cst (.int 0)) gIx)) (tTr (callV F__law_apart (aCons (gv 1) (aCons (gv 2) (aCons (gv 0) aNil))))) (fTup (aCons (gv 2) (aCons (gv 0) aNil)))) gCat)))
 (mRetN 1)))
def m__law_told_24:SF:=(mSeq (mSetO 2 [] (fLst aNil))
 (mSeq (mForS (.nm 3) [] (fRng1 (gv 0))
 (mForS (.nm 4) [] (fRng1 (gv 0))
 (mSeq (mSet 5 ([] ++ []) (fComp 1 [3,4] (.nm 0) (fSeq (gv 1)) (tBl (f2 (fIdx (gv 0) (gv 1)) (fIdx (gv 0) (gv 2)) gGt)) (cst (.int 1))))
 (mIf (([] ++ []) ++ ([] ++ [])) (tAn (tBl (f2 (gv 3) (gv 4) (gEq true))) (tBl (f2 (gv 5) (fLst aNil) (gEq false))))
 (mApp 2 ([3] ++ ([4] ++ [])) (fTup (aCons (gv 3) (aCons (gv 4) aNil))))
 mNx))))
 (mRet (f1 (gv 2) gTuple))))
def m__law_is_turn (F__law_whole F__law_turns:List D->FR):SF:=(mSeq (mIf ([] ++ (([] ++ []) ++ ([] ++ []))) (tOrr (tNt (tTr (f1 (gv 1) (gIsi "tuple")))) (tOrr (tBl (f2 (f1 (gv 1) gLen) (cst (.int 2)) (gEq true))) (tNt (tTr (f1 (fComp 1 [] (.nm 0) (fSeq (gv 1)) tYs (callV F__law_whole (aCons (gv 0) aNil))) (gBools fun bs=>bs.all id))))))
 (mRet (cst (.bool false)))
 mNx)
 (mRet (f2 (gv 1) (callV F__law_turns (aCons (gv 0) aNil)) (gIn false))))
def m__law_leads:SF:=(mRet (fOr (f2 (f2 (gv 1) (cst (.int 0)) gIx) (f2 (gv 2) (cst (.int 1)) gIx) (gEq false)) (f2 (fTup (aCons (f2 (gv 1) (cst (.int 0)) gIx) (aCons (f2 (gv 2) (cst (.int 1)) gIx) aNil))) (f2 (gv 0) (cst (.int 1)) gIx) (gIn false))))
def m__law_is_ring (F__law_is_turn F__law_leads:List D->FR):SF:=(mSeq (mIf ([] ++ (([] ++ []) ++ ([] ++ [1]))) (tOrr (tNt (tTr (f1 (gv 0) (gIsi "list")))) (tOrr (tBl (f2 (gv 0) (fLst aNil) gEqNil)) (tNt (tTr (f1 (fComp 1 [1] (.nm 0) (fSeq (gv 0)) tYs (callV F__law_is_turn (aCons (gv 1) (aCons (gv 0) aNil)))) (gBools fun bs=>bs.all id))))))
 (mRet (cst (.bool false)))
 mNx)
 (mRet (f1 (fComp 1 [1,0] (.nm 0) (fRng1 (f1 (gv 0) gLen)) tYs (callV F__law_leads (aCons (gv 1) (aCons (f2 (gv 2) (f2 (gv 0) (cst (.int 1)) gSubI) gIx) (aCons (f2 (gv 2) (gv 0) gIx) aNil))))) (gBools fun bs=>bs.all id))))
noncomputable def m__law_crown (F__law_take F__law_mixed_up:List D->Int->FB):SF:=(mSeq (mSet 1 ([] ++ ([] ++ [])) (f2 (cst (.int 3)) (cbV 0 F__law_take (aCons (cst (.int 2)) aNil)) gAddI))
 (mSeq (mSet 2 (([] ++ []) ++ []) (cbV 0 F__law_mixed_up (aCons (f1 (f2 (cst (.int 2)) (gv 1) gMulI) gListRng) aNil)))
 (mSeq (mSet 3 [] (fLst aNil))
 (mSeq (mForS (.nm 4) [] (fRng1 (gv 1))
 (mSeq (mSet 5 ([] ++ []) (fComp 1 [4,2,1] (.nm 0) (fRng1 (gv 1)) (tBl (f2 (gv 0) (gv 1) (gEq true))) (f2 (gv 2) (f2 (gv 3) (gv 0) gAddI) gIx)))
 (mSet 3 ([] ++ ([] ++ [])) (f2 (gv 3) (fComp 1 [2,4] (.nm 0) (fSeq (gv 5)) tYs (fTup (aCons (f2 (gv 1) (gv 2) gIx) (aCons (gv 0) aNil)))) gCat))))
 (mRet (fTup (aCons (f2 (cst (.int 2)) (gv 1) gMulI) (aCons (f1 (f1 (gv 3) gSortP) gTuple) aNil))))))))
def m__law_any_order (F__law_told:List D->FR)(F__law_take F__law_crown F__law_mixed_up F__law_order:List D->Int->FB):SF:=(mSeq (mSet 2 ([] ++ []) (cbV 0 F__law_take (aCons (cst (.int 5)) aNil)))
 (mSeq (mIf ([] ++ []) (tBl (f2 (gv 2) (cst (.int 4)) (gEq false)))
 (mRet (cbV 0 F__law_crown aNil))
 mNx)
 (mSeq (mIf ([] ++ []) (tBl (f2 (gv 2) (cst (.int 3)) (gEq false)))
 (mSeq (mSet 3 ([] ++ ([1] ++ [])) (f2 (cst (.int 1)) (cbV 0 F__law_take (aCons (gv 1) aNil)) gAddI))
 (mSeq (mSet 4 ([] ++ []) (fComp 1 [0,3] (.nm 0) (fRng1 (cst (.int 2))) tYs (f1 (cbV 1 F__law_mixed_up (aCons (f1 (gv 2) gListRng) aNil)) gTuple)))
 (mRet (fTup (aCons (gv 3) (aCons (callV F__law_told (aCons (gv 3) (aCons (gv 4) aNil))) aNil))))))
 mNx)
 (mRet (cbV 0 F__law_order (aCons (gv 1) aNil))))))
def m__law_along (F__law_turns F__law_leads:List D->FR)(F__law_take:List D->Int->FB):SF:=(mSeq (mSet 2 ([1] ++ []) (callV F__law_turns (aCons (gv 1) aNil)))
 (mSeq (mIf ([] ++ []) (tBl (f2 (gv 2) (fLst aNil) (gEq false)))
 (mRetW (fLst aNil))
 mNx)
 (mSeq (mSetO 3 (([] ++ ([] ++ [])) ++ []) (fLst (aCons (f2 (gv 2) (cbV 0 F__law_take (aCons (f1 (gv 2) gLen) aNil)) gIx) aNil)))
 (mSeq (mForS (.nm 4) ([] ++ []) (fRng1 (cbV 0 F__law_take (aCons (cst (.int 6)) aNil)))
 (mSeq (mSet 5 ([] ++ [1]) (fComp 1 [1,3] (.nm 0) (fSeq (gv 2)) (tTr (callV F__law_leads (aCons (gv 1) (aCons (f2 (gv 2) (f1 (cst (.int 1)) gNeg) gIx) (aCons (gv 0) aNil))))) (gv 0)))
 (mSeq (mIf (([] ++ []) ++ (([1] ++ (([] ++ []) ++ (([] ++ []) ++ []))) ++ (([] ++ []) ++ []))) (tOrr (tBl (f2 (gv 5) (fLst aNil) (gEq false))) (tAn (tTr (callV F__law_leads (aCons (gv 1) (aCons (f2 (gv 3) (f1 (cst (.int 1)) gNeg) gIx) (aCons (f2 (gv 3) (cst (.int 0)) gIx) aNil))))) (tBl (f2 (cbV 0 F__law_take (aCons (cst (.int 3)) aNil)) (cst (.int 0)) gGt))))
 (mRetN 3)
 mNx)
 (mApp 3 ([] ++ ([] ++ [])) (f2 (gv 5) (cbV 0 F__law_take (aCons (f1 (gv 5) gLen) aNil)) gIx)))))
 (mRetN 3)))))
def m__law_bent (F__law_take:List D->Int->FB):SF:=(mSeq (mIf ([] ++ []) (tBl (f2 (gv 1) (fLst aNil) (gEq false)))
 (mRet (f2 (fLst (aCons (fLst (aCons (fTup (aCons (cst (.int 0)) (aCons (cst (.int 0)) aNil))) aNil)) (aCons (fLst (aCons (fTup (aCons (cst (.int 0)) (aCons (f2 (gv 2) (cst (.int 1)) gSubI) aNil))) aNil)) (aCons (fTup aNil) (aCons (fLst (aCons (gv 3) aNil)) (aCons (fLst (aCons (fLst aNil) aNil)) aNil)))))) (cbV 0 F__law_take (aCons (cst (.int 5)) aNil)) gIx))
 mNx)
 (mSeq (mSet 4 ([] ++ []) (cbV 0 F__law_take (aCons (f1 (gv 1) gLen) aNil)))
 (mSeq (mBind (.two 5 6) ([] ++ []) (f2 (gv 1) (gv 4) gIx))
 (mSeq (mSet 7 (([2] ++ []) ++ (([2] ++ []) ++ [])) (fTup (aCons (cbV 0 F__law_take (aCons (gv 2) aNil)) (aCons (cbV 0 F__law_take (aCons (gv 2) aNil)) aNil))))
 (mSeq (mSet 8 ([] ++ ((([5] ++ ([6] ++ [])) ++ (([5] ++ ([6] ++ [])) ++ [])) ++ ((([6] ++ ([5] ++ [])) ++ []) ++ (([7] ++ []) ++ ((([5] ++ ([6] ++ [])) ++ []) ++ ((([5] ++ (([] ++ []) ++ [])) ++ []) ++ (([3] ++ []) ++ ((([5] ++ ([6] ++ ([] ++ []))) ++ []) ++ [])))))))) (fLst (aCons (fLst aNil) (aCons (fLst (aCons (fTup (aCons (gv 5) (aCons (gv 6) aNil))) (aCons (fTup (aCons (gv 5) (aCons (gv 6) aNil))) aNil))) (aCons (fLst (aCons (fTup (aCons (gv 6) (aCons (gv 5) aNil))) aNil)) (aCons (fLst (aCons (gv 7) aNil)) (aCons (fLst (aCons (fLst (aCons (gv 5) (aCons (gv 6) aNil))) aNil)) (aCons (fLst (aCons (fTup (aCons (gv 5) (aCons (f2 (gv 6) (cst (.int 1)) (gEq false)) aNil))) aNil)) (aCons (fLst (aCons (gv 3) aNil)) (aCons (fLst (aCons (fTup (aCons (gv 5) (aCons (gv 6) (aCons (cst (.int 0)) aNil)))) aNil)) aNil))))))))))
 (mSeq (mSet 9 ([] ++ []) (cbV 0 F__law_take (aCons (cst (.int 11)) aNil)))
 (mSeq (mIf ([] ++ []) (tBl (f2 (gv 9) (cst (.int 8)) gLt))
 (mRetW (f2 (f2 (fSl (gv 1) (fun _ β=>.ok none β) (oSm (gv 4))) (f2 (gv 8) (gv 9) gIx) gCat) (fSl (gv 1) (oSm (f2 (gv 4) (cst (.int 1)) gAddI)) (fun _ β=>.ok none β)) gCat))
 mNx)
 (mRet (f2 (fLst (aCons (f1 (gv 1) gRevL) (aCons (f2 (fSl (gv 1) (oSm (gv 4)) (fun _ β=>.ok none β)) (fSl (gv 1) (fun _ β=>.ok none β) (oSm (gv 4))) gCat) (aCons (f1 (gv 1) gTuple) aNil)))) (f2 (gv 9) (cst (.int 8)) gSubI) gIx)))))))))
def m_law (F__law_box F__law_truth F_is_ring F__law_is_ring:List D->FR)(F__law_any_order F__law_odd F__law_along F__law_bent:List D->Int->FB):SF:=(mSeq (mForS (.nm 1) ([] ++ ([] ++ [])) (fRng1 (f2 (cst (.int 1)) (f2 (f1 (gv 0) gLen) (cst (.int 4)) (gI0 fun i j=>.int (if j < i then j else i))) (gI0 fun i j=>.int (if j > i then j else i))))
 (mSeq (mSetB 2 ([0] ++ ([1] ++ [])) (callW F__law_box (aCons (gv 0) (aCons (gv 1) aNil))))
 (mSeq (mSet 3 ([] ++ []) (cbV 2 F__law_any_order (aCons (cst (.int 8)) aNil)))
 (mSeq (mSet 4 [] (cbV 2 F__law_odd aNil))
 (mSeq (mSet 5 ([3] ++ []) (cbV 2 F__law_along (aCons (gv 3) aNil)))
 (mSeq (mSetO 6 ([5] ++ ([4] ++ ([] ++ (([3] ++ []) ++ (([] ++ []) ++ []))))) (fLst (aCons (gv 5) (aCons (gv 4) (aCons (fLst aNil) (aCons (cbV 2 F__law_along (aCons (gv 3) aNil)) (aCons (f2 (gv 5) (gv 5) gCat) aNil)))))))
 (mSeq (mForS (.nm 7) [] (fRng1 (cst (.int 4)))
 (mApp 6 ([5] ++ (([] ++ []) ++ ([4] ++ []))) (cbV 2 F__law_bent (aCons (gv 5) (aCons (f2 (gv 3) (cst (.int 0)) gIx) (aCons (gv 4) aNil))))))
 (mForS (.nm 8) [6] (fSeq (gv 6))
 (mSeq (mSet 9 [] (f1 (gv 8) gReprA))
 (mIf ((([8] ++ ([3] ++ [])) ++ (([8] ++ ([3] ++ [])) ++ [])) ++ ([] ++ [])) (tOrr (tNt (tTr (callV F__law_truth (aCons (callV F_is_ring (aCons (gv 8) (aCons (gv 3) aNil))) (aCons (callV F__law_is_ring (aCons (gv 8) (aCons (gv 3) aNil))) aNil))))) (tBl (f2 (f1 (gv 8) gReprA) (gv 9) (gEqS true))))
 (mRet (cst (.bool false)))
 mNx))))))))))
 (mRet (cst (.bool true))))
end RM

end

section
namespace RM
open PySem L2
def trnTo (n:Nat)(l:List Pr)(i:Nat):List Pr:=(OM.grid n).filter fun p=>decide (p.1 < i) && apB l p
theorem trnTo_all (n:Nat)(l:List Pr):trnTo n l n=trn n l:=by
 unfold trnTo trn
 refine List.filter_congr fun p hp=>?_
 have:=(OM.mem_grid.mp hp).1.2
 rw [decide_eq_true this,Bool.true_and]
theorem trn_step {n i:Nat}(l:List Pr)(hi:i < n):trnTo n l (i + 1)=trnTo n l i ++ ((rng n).filter fun b=>apB l ((i:Int),b)).map fun b=>((i:Int),b):=by
 refine OM.ris_ext (OM.ris_filter _ (OM.ris_grid n)) ?_ fun x=>?_
 ·show List.Pairwise OM.plt _
  rw [List.pairwise_append]
  refine⟨OM.ris_filter _ (OM.ris_grid n),?_,fun p hp q hq=>?_⟩
  ·rw [List.pairwise_map]
   exact ((rng_pw n).filter _).imp fun {a b} h=>.inr ⟨rfl,h⟩
  ·unfold trnTo at hp
   have h1:=(List.mem_filter.mp hp).2
   rw [Bool.and_eq_true,decide_eq_true_eq] at h1
   obtain⟨b,_,rfl⟩:=List.mem_map.mp hq
   exact .inl h1.1
 ·rw [List.mem_append]
  unfold trnTo
  rw [List.mem_filter,List.mem_filter,List.mem_map,OM.mem_grid]
  simp only [Bool.and_eq_true,decide_eq_true_eq]
  constructor
  ·rintro⟨h1,h2,h3⟩
   by_cases z:x.1 < i
   ·exact .inl ⟨h1,z,h3⟩
   ·have e:x.1=i:=by omega
    obtain⟨xa,xb⟩:=x
    simp only at e h1 h3
    subst e
    exact .inr ⟨xb,List.mem_filter.mpr ⟨mem_rng.mpr h1.2,h3⟩,rfl⟩
  ·rintro (⟨h1,h2,h3⟩ | ⟨b,hb,rfl⟩)
   ·exact⟨h1,by omega,h3⟩
   ·obtain⟨hb1,hb2⟩:=List.mem_filter.mp hb
    have:=mem_rng.mp hb1
    exact⟨⟨⟨by omega,by omega⟩,this⟩,by omega,hb2⟩
theorem trnTo_len {n:Nat}(l:List Pr)(i:Nat)(h8:n<=8):(trnTo n l i).length<=64:=by
 have h1:(trnTo n l i).length<=(OM.grid n).length:=List.length_filter_le _ _
 rw [grid_len] at h1
 have:n * n<=64:=Nat.mul_le_mul h8 h8
 omega
def lturnsF:List D->FR:=runF 3 1 (m__law_turns lapF)
theorem r_lturns {n:Nat}{l:List Pr}(O:OM.Ord n l):lturnsF [ordD n l]=.ok (.list ((trn n l).map prD)) false:=by
 have h8:=O.hi
 show fin (m__law_turns lapF [.fz (ordD n l),.no,.no] 0)=_
 unfold m__law_turns
 rw [mSeq_nx (env':=[.fz (ordD n l),.fz (.list []),.no]) (β':=0) ?g1]
 case g1=>rw [mSet_eq,fLst_ok (ds:=[]) rfl (by simp)];rfl
 have er:∀(s t:Sl),fRng1 (f2 (gv 0) (cst (.int 0)) gIx) [.da (ordD n l),s.val,t.val] 0=.ok (intsD 0 n) 0:=fun s t=>fRng1_ok (n:=n) (ix0 (n:=n) (l:=l) rfl) (by omega)
 obtain⟨env',β',ef,s,rfl,rfl⟩:=mFor_inv (t:=.nm 2) (m:=mSet 1 ([] ++ (([] ++ []) ++ [0,2])) (f2 (gv 1) (fComp 1 [0,2] (.nm 0) (fRng1 (f2 (gv 0) (cst (.int 0)) gIx)) (tTr (callV lapF (aCons (gv 1) (aCons (gv 2) (aCons (gv 0) aNil))))) (fTup (aCons (gv 2) (aCons (gv 0) aNil)))) gCat)) (ds:=intsD 0 n) (k:=0)
  (fun i env β=>∃s:Sl,env= [.fz (ordD n l),.fz (.list ((trnTo n l i).map prD)),s]/\β=0)
  (env:=[.fz (ordD n l),.fz (.list []),.no]) (β:=0) ⟨.no,by
   have:trnTo n l 0= []:=by
    unfold trnTo
    rw [List.filter_eq_nil_iff]
    intro p hp
    have:=(OM.mem_grid.mp hp).1.1
    rw [decide_eq_false (by omega)];simp
   rw [this];rfl,rfl⟩ (by
   rintro i d env β hi ⟨s,rfl,rfl⟩
   obtain⟨hin,rfl⟩:=intsD_at hi
   refine⟨[.fz (ordD n l),.fz (.list ((trnTo n l (0 + i)).map prD)),.fz (.int (0 + (i:Int)))],rfl,?_⟩
   rw [Nat.zero_add,Int.zero_add]
   have ec:fComp 1 [0,2] (.nm 0) (fRng1 (f2 (gv 0) (cst (.int 0)) gIx)) (tTr (callV lapF (aCons (gv 1) (aCons (gv 2) (aCons (gv 0) aNil))))) (fTup (aCons (gv 2) (aCons (gv 0) aNil))) [.da (ordD n l),.da (.list ((trnTo n l i).map prD)),.da (.int i)] 0=.ok (.list (((rng n).filter fun b=>apB l ((i:Int),b)).map fun b=>prD ((i:Int),b))) 0:=by
    refine fComp_filO (l:=rng n) (e:=PyData.int) (fun b=>apB l ((i:Int),b)) (fun b=>prD ((i:Int),b)) ?_ (by rw [rng_len];omega) fun b hb=>⟨_,rfl,tTr_b (callV_ok (ds:=[ordD n l,.int i,.int b]) rfl (r_lap n l i b)),fun _=>fPair_ok rfl rfl⟩
    rw [<-intsD_rng]
    exact er (.fz _) (.fz _)
   have ew:f2 (gv 1) (fComp 1 [0,2] (.nm 0) (fRng1 (f2 (gv 0) (cst (.int 0)) gIx)) (tTr (callV lapF (aCons (gv 1) (aCons (gv 2) (aCons (gv 0) aNil))))) (fTup (aCons (gv 2) (aCons (gv 0) aNil)))) gCat [.da (ordD n l),.da (.list ((trnTo n l i).map prD)),.da (.int i)] 0=.ok (.list ((trnTo n l (i + 1)).map prD)) 0:=by
    refine f2_ok (x:=.list ((trnTo n l i).map prD)) rfl ec ?_
    rw [gCat_ok]
    ·rw [trn_step l hin,List.map_append,List.map_map];rfl
    ·rw [List.length_map,List.length_map]
     have h1:=trnTo_len l i h8
     have h2:((rng n).filter fun b=>apB l ((i:Int),b)).length<=(rng n).length:=List.length_filter_le _ _
     rw [rng_len] at h2
     omega
   refine⟨[.fz (ordD n l),.fz (.list ((trnTo n l (i + 1)).map prD)),.fz (.int i)],0,?_,_,rfl,rfl⟩
   rw [mSet_eq]
   show toS (f2 (gv 1) (fComp 1 [0,2] (.nm 0) (fRng1 (f2 (gv 0) (cst (.int 0)) gIx)) (tTr (callV lapF (aCons (gv 1) (aCons (gv 2) (aCons (gv 0) aNil))))) (fTup (aCons (gv 2) (aCons (gv 0) aNil)))) gCat [.da (ordD n l),.da (.list ((trnTo n l i).map prD)),.da (.int i)] 0) _=_
   rw [ew];rfl)
 rw [intsD_len,Nat.zero_add,trnTo_all] at ef
 rw [mSeq_nx (env':=[.fz (ordD n l),.fz (.list ((trn n l).map prD)),s]) (β':=0) ?g2]
 case g2=>
  rw [mForS_ok (env:=[.fz (ordD n l),.fz (.list []),.no]) (er (.fz (.list [])) .no)]
  exact ef
 rfl
def tlB (rows:List (List Int))(p:Pr):Bool:= !decide (p.1=p.2) && (rows.filter fun r=>decide (r.idxOf p.1 > r.idxOf p.2)).isEmpty
def toldF:List D->FR:=runF 6 2 m__law_told_24
theorem r_told {n:Nat}{rows:List (List Int)}(h8:n<=8)(hr:rows.length<=100)(hp:∀r,r∈rows->r.Perm (rng n)):toldF [.int n,.list (rows.map tupI)]=.ok (.tuple (((OM.grid n).filter (tlB rows)).map prD)) false:=by
 show fin (m__law_told_24 [.fz (.int n),.fz (.list (rows.map tupI)),.no,.no,.no,.no] 0)=_
 unfold m__law_told_24
 rw [mSeq_nx (env':=[.fz (.int n),.fz (.list (rows.map tupI)),.ow (.list []),.no,.no,.no]) (β':=0) ?g1]
 case g1=>rw [mSetO_eq,fLst_ok (ds:=[]) rfl (by simp)];rfl
 obtain⟨env',β',ef,s,t,u,rfl,rfl⟩:=mFor_inv (t:=.nm 3) (m:=mForS (.nm 4) [] (fRng1 (gv 0))
   (mSeq (mSet 5 ([] ++ []) (fComp 1 [3,4] (.nm 0) (fSeq (gv 1)) (tBl (f2 (fIdx (gv 0) (gv 1)) (fIdx (gv 0) (gv 2)) gGt)) (cst (.int 1))))
   (mIf (([] ++ []) ++ ([] ++ [])) (tAn (tBl (f2 (gv 3) (gv 4) (gEq true))) (tBl (f2 (gv 5) (fLst aNil) (gEq false))))
   (mApp 2 ([3] ++ ([4] ++ [])) (fTup (aCons (gv 3) (aCons (gv 4) aNil))))
   mNx))) (ds:=intsD 0 n) (k:=0)
  (fun i env β=>∃s t u:Sl,env= [.fz (.int n),.fz (.list (rows.map tupI)),.ow (.list ((upTo n (tlB rows) i 0).map prD)),s,t,u]/\β=0)
  (env:=[.fz (.int n),.fz (.list (rows.map tupI)),.ow (.list []),.no,.no,.no]) (β:=0) ⟨.no,.no,.no,by rw [upTo_zero];rfl,rfl⟩ (by
   rintro i d env β hi ⟨s,t,u,rfl,rfl⟩
   obtain⟨hin,rfl⟩:=intsD_at hi
   refine⟨[.fz (.int n),.fz (.list (rows.map tupI)),.ow (.list ((upTo n (tlB rows) (0 + i) 0).map prD)),.fz (.int (0 + (i:Int))),t,u],rfl,?_⟩
   rw [Nat.zero_add,Int.zero_add]
   obtain⟨env',β',ef,t2,u2,rfl,rfl⟩:=mFor_inv (t:=.nm 4) (m:=mSeq (mSet 5 ([] ++ []) (fComp 1 [3,4] (.nm 0) (fSeq (gv 1)) (tBl (f2 (fIdx (gv 0) (gv 1)) (fIdx (gv 0) (gv 2)) gGt)) (cst (.int 1))))
     (mIf (([] ++ []) ++ ([] ++ [])) (tAn (tBl (f2 (gv 3) (gv 4) (gEq true))) (tBl (f2 (gv 5) (fLst aNil) (gEq false))))
     (mApp 2 ([3] ++ ([4] ++ [])) (fTup (aCons (gv 3) (aCons (gv 4) aNil))))
     mNx)) (ds:=intsD 0 n) (k:=0)
    (fun k env β=>∃t u:Sl,env= [.fz (.int n),.fz (.list (rows.map tupI)),.ow (.list ((upTo n (tlB rows) i k).map prD)),.fz (.int i),t,u]/\β=0)
    (env:=[.fz (.int n),.fz (.list (rows.map tupI)),.ow (.list ((upTo n (tlB rows) i 0).map prD)),.fz (.int i),t,u]) (β:=0) ⟨t,u,rfl,rfl⟩ (by
     rintro k d env β hk ⟨t,u,rfl,rfl⟩
     obtain⟨hkn,rfl⟩:=intsD_at hk
     refine⟨[.fz (.int n),.fz (.list (rows.map tupI)),.ow (.list ((upTo n (tlB rows) i (0 + k)).map prD)),.fz (.int i),.fz (.int (0 + (k:Int))),u],rfl,?_⟩
     rw [Nat.zero_add,Int.zero_add]
     have ec:fComp 1 [3,4] (.nm 0) (fSeq (gv 1)) (tBl (f2 (fIdx (gv 0) (gv 1)) (fIdx (gv 0) (gv 2)) gGt)) (cst (.int 1)) [.da (.int n),.da (.list (rows.map tupI)),.da (.list ((upTo n (tlB rows) i k).map prD)),.da (.int i),.da (.int k),u.val] 0=.ok (.list ((rows.filter fun r=>decide (r.idxOf (i:Int) > r.idxOf (k:Int))).map fun _=>PyData.int 1)) 0:=by
      refine fComp_filO (l:=rows) (e:=tupI) (fun r=>decide (r.idxOf (i:Int) > r.idxOf (k:Int))) (fun _=>PyData.int 1) rfl (by omega) fun r hr=>⟨_,rfl,?_,fun _=>rfl⟩
      have hp:=hp r hr
      refine tBl_ok _ _ _ _ (f2_ok (fIdx_ok (r:=r) (k:=i) rfl rfl (hp.mem_iff.mpr (mem_rng.mpr ⟨by omega,by omega⟩))) (fIdx_ok (r:=r) (k:=k) rfl rfl (hp.mem_iff.mpr (mem_rng.mpr ⟨by omega,by omega⟩))) ?_)
      show some (PyData.bool (decide (((r.idxOf (i:Int):Nat):Int) > ((r.idxOf (k:Int):Nat):Int))))=_
      congr 2
      rw [Bool.eq_iff_iff,decide_eq_true_eq,decide_eq_true_eq]
      omega
     rw [mSeq_nx (env':=[.fz (.int n),.fz (.list (rows.map tupI)),.ow (.list ((upTo n (tlB rows) i k).map prD)),.fz (.int i),.fz (.int k),.fz (.list ((rows.filter fun r=>decide (r.idxOf (i:Int) > r.idxOf (k:Int))).map fun _=>PyData.int 1))]) (β':=0) ?g]
     case g=>
      rw [mSet_eq]
      show toS (fComp 1 [3,4] (.nm 0) (fSeq (gv 1)) (tBl (f2 (fIdx (gv 0) (gv 1)) (fIdx (gv 0) (gv 2)) gGt)) (cst (.int 1)) [.da (.int n),.da (.list (rows.map tupI)),.da (.list ((upTo n (tlB rows) i k).map prD)),.da (.int i),.da (.int k),u.val] 0) _=_
      rw [ec];rfl
     generalize hL:(rows.filter fun r=>decide (r.idxOf (i:Int) > r.idxOf (k:Int)))=L
     have et:tAn (tBl (f2 (gv 3) (gv 4) (gEq true))) (tBl (f2 (gv 5) (fLst aNil) (gEq false))) (vl [.fz (.int n),.fz (.list (rows.map tupI)),.ow (.list ((upTo n (tlB rows) i k).map prD)),.fz (.int i),.fz (.int k),.fz (.list (L.map fun _=>PyData.int 1))]) 0=.ok (tlB rows ((i:Int),(k:Int))) 0:=by
      have h1:tBl (f2 (gv 5) (fLst aNil) (gEq false)) (vl [.fz (.int n),.fz (.list (rows.map tupI)),.ow (.list ((upTo n (tlB rows) i k).map prD)),.fz (.int i),.fz (.int k),.fz (.list (L.map fun _=>PyData.int 1))]) 0=.ok L.isEmpty 0:=by
       refine tBl_ok _ _ _ _ (f2_ok (x:=.list (L.map fun _=>PyData.int 1)) (y:=.list []) rfl (fLst_ok (ds:=[]) rfl (by simp)) ?_)
       have e9:(L.map fun _=>PyData.int 1)=(L.map fun _=>(1:Int)).map PyData.int:=by rw [List.map_map];rfl
       rw [e9,show ([]:List D)=([]:List Int).map PyData.int from rfl,gEq_ints]
       congr 2
       cases L <;> simp
      have:=tAn_ok (tBl_eqI (neg:=true) (fa:=gv 3) (fb:=gv 4) (vs:=vl [.fz (.int n),.fz (.list (rows.map tupI)),.ow (.list ((upTo n (tlB rows) i k).map prD)),.fz (.int i),.fz (.int k),.fz (.list (L.map fun _=>PyData.int 1))]) (β:=0) (i:=i) (j:=k) rfl rfl) h1
      rw [this]
      unfold tlB
      rw [hL];rfl
     cases c:tlB rows ((i:Int),(k:Int)) with
     |true=>
      rw [c] at et
      refine⟨[.fz (.int n),.fz (.list (rows.map tupI)),.ow (.list ((upTo n (tlB rows) i (k + 1)).map prD)),.fz (.int i),.fz (.int k),.fz (.list (L.map fun _=>PyData.int 1))],0,?_,_,_,rfl,rfl⟩
      rw [mIf_t et]
      have:=mApp_ok (i:=2) (L:=[3] ++ ([4] ++ [])) (env:=[.fz (.int n),.fz (.list (rows.map tupI)),.ow (.list ((upTo n (tlB rows) i k).map prD)),.fz (.int i),.fz (.int k),.fz (.list (L.map fun _=>PyData.int 1))]) (ds:=(upTo n (tlB rows) i k).map prD) (β:=0) (by rfl) (fPair_ok (fa:=gv 3) (fb:=gv 4) (a:=i) (b:=k) rfl rfl) (by rfl) (by rw [List.length_map];have:=upTo_len (tlB rows) i k h8;omega)
      rw [upTo_step _ hin hkn,if_pos c,List.map_append]
      exact this
     |false=>
      rw [c] at et
      refine⟨[.fz (.int n),.fz (.list (rows.map tupI)),.ow (.list ((upTo n (tlB rows) i (k + 1)).map prD)),.fz (.int i),.fz (.int k),.fz (.list (L.map fun _=>PyData.int 1))],0,?_,_,_,rfl,rfl⟩
      have e8:=upTo_step (tlB rows) hin hkn
      rw [if_neg (by rw [c];exact Bool.false_ne_true),List.append_nil] at e8
      rw [mIf_f et,e8];rfl)
   rw [intsD_len,Nat.zero_add,upTo_row] at ef
   refine⟨[.fz (.int n),.fz (.list (rows.map tupI)),.ow (.list ((upTo n (tlB rows) (i + 1) 0).map prD)),.fz (.int i),t2,u2],0,?_,_,_,_,rfl,rfl⟩
   rw [mForS_ok (env:=[.fz (.int n),.fz (.list (rows.map tupI)),.ow (.list ((upTo n (tlB rows) i 0).map prD)),.fz (.int i),t,u]) (fRng1_ok (n:=n) rfl (by omega))]
   exact ef)
 rw [intsD_len,Nat.zero_add,upTo_all] at ef
 rw [mSeq_nx (env':=[.fz (.int n),.fz (.list (rows.map tupI)),.ow (.list (((OM.grid n).filter (tlB rows)).map prD)),s,t,u]) (β':=0) ?g2]
 case g2=>
  rw [mForS_ok (env:=[.fz (.int n),.fz (.list (rows.map tupI)),.ow (.list []),.no,.no,.no]) (fRng1_ok (n:=n) rfl (by omega))]
  exact ef
 rw [mRet_eq,f1_ok (x:=.list (((OM.grid n).filter (tlB rows)).map prD)) (d:=.tuple (((OM.grid n).filter (tlB rows)).map prD)) (β1:=0) rfl ?g3]
 case g3=>rfl
 rfl
theorem tlB_iff {rows:List (List Int)}{p:Pr}:tlB rows p=true↔p.1≠p.2/\∀r,r∈rows->r.idxOf p.1<=r.idxOf p.2:=by
 unfold tlB
 rw [Bool.and_eq_true,Bool.not_eq_true',decide_eq_false_iff_not,List.isEmpty_iff,List.filter_eq_nil_iff]
 simp only [decide_eq_true_eq,Nat.not_lt,gt_iff_lt]
theorem ord_told {n:Nat}{rows:List (List Int)}(h1:1<=n)(h8:n<=8)(hne:rows≠ [])(hp:∀r,r∈rows->r.Perm (rng n)):OM.Ord n ((OM.grid n).filter (tlB rows)):=by
 refine⟨h1,h8,fun p hm=>OM.mem_grid.mp (List.mem_filter.mp hm).1,OM.ris_filter _ (OM.ris_grid n),fun a h=>?_,fun a b c hab hbc=>?_⟩
 ·exact (tlB_iff.mp (List.mem_filter.mp h).2).1 rfl
 ·obtain⟨g1,t1⟩:=List.mem_filter.mp hab
  obtain⟨g2,t2⟩:=List.mem_filter.mp hbc
  have g1:=OM.mem_grid.mp g1
  have g2:=OM.mem_grid.mp g2
  obtain⟨n1,q1⟩:=tlB_iff.mp t1
  obtain⟨n2,q2⟩:=tlB_iff.mp t2
  refine List.mem_filter.mpr ⟨OM.mem_grid.mpr ⟨g1.1,g2.2⟩,tlB_iff.mpr ⟨fun e=>?_,fun r hr=>Nat.le_trans (q1 r hr) (q2 r hr)⟩⟩
  simp only at e n1 q1 q2
  subst e
  cases rows with
  |nil=>exact hne rfl
  |cons r rest=>
   have hr:r∈r :: rest:=List.mem_cons_self ..
   have pm:=hp r hr
   exact n1 (idx_inj (pm.mem_iff.mpr (mem_rng.mpr g1.1)) (pm.mem_iff.mpr (mem_rng.mpr g1.2)) (Nat.le_antisymm (q1 r hr) (q2 r hr)))
noncomputable def crownF:List D->Int->FB:=runB 6 0 (m__law_crown takeF mixedF)
def Crn (ms:List Int)(m i:Nat)(ps:List Pr):Prop:=ps.Nodup/\ps.length<=4 * i/\∀p,p∈ps->∃i' j:Nat,i' < i/\j < m/\ms[i']? =some p.1/\ms[m + j]? =some p.2
theorem crn_ord {ms:List Int}{m i:Nat}{ps:List Pr}(h3:3<=m)(h4:m<=4)(hi:i<=m)(hp:ms.Perm (rng (2 * m)))(h:Crn ms m i ps):OM.Ord (2 * m) (OM.filt 8 (OM.Mem ps))/\ps.all smB=true/\ps.length < 64:=by
 obtain⟨nd,hl,hc⟩:=h
 have ndm:ms.Nodup:=hp.nodup_iff.mpr (rng_nodup _)
 have wn:OM.Wn (2 * m) ps:=fun p hm=>by
  obtain⟨i',j,_,_,e1,e2⟩:=hc p hm
  exact⟨mem_rng.mp (hp.mem_iff.mp (List.mem_of_getElem? e1)),mem_rng.mp (hp.mem_iff.mp (List.mem_of_getElem? e2))⟩
 rw [filt8 (by omega) wn]
 refine⟨⟨by omega,by omega,OM.filt_wn _ _,OM.ris_filt _ _,fun a h=>?_,fun a b c h k=>?_⟩,wn_smB (by omega) wn,by omega⟩
 ·obtain⟨i',j,hi',_,e1,e2⟩:=hc _ (OM.mem_filt.mp h).2
  have:=nodup_at ndm e1 e2
  omega
 ·obtain⟨i',j,hi',_,e1,e2⟩:=hc _ (OM.mem_filt.mp h).2
  obtain⟨i2,j2,hi2,_,e3,e4⟩:=hc _ (OM.mem_filt.mp k).2
  have:=nodup_at ndm e2 e3
  omega
theorem r_crown (β:Int):∃(n:Nat) (l:List Pr) (β':Int),crownF [] β=.ok (ordD n l) false β'/\OM.Ord n l:=by
 obtain⟨j,hj,ej⟩:=take_nat (m:=2) (by omega) (by omega) β
 show ∃(n:Nat) (l:List Pr) (β':Int),finB (m__law_crown takeF mixedF [.bx,.no,.no,.no,.no,.no] β)=.ok (ordD n l) false β'/\OM.Ord n l
 unfold m__law_crown
 generalize hβ1:β / ((2:Nat):Int)=β1 at ej
 have e1:f2 (cst (.int 3)) (cbV 0 takeF (aCons (cst (.int 2)) aNil)) gAddI [Nv.bx,.no,.no,.no,.no,.no] β=.ok (.int ((3 + j:Nat):Int)) β1:=by
  refine f2_ok (x:=.int 3) rfl (cbV_ok (by rfl) rfl ej) ?_
  show some (PyData.int (3 + (j:Int)))=_
  rw [show ((3 + j:Nat):Int)=3 + (j:Int) by omega]
 rw [mSeq_nx (env':=[.bx,.fz (.int ((3 + j:Nat):Int)),.no,.no,.no,.no]) (β':=β1) ?g1]
 case g1=>
  show toS (f2 (cst (.int 3)) (cbV 0 takeF (aCons (cst (.int 2)) aNil)) gAddI [Nv.bx,.no,.no,.no,.no,.no] β) _=_
  rw [e1];rfl
 have h3:3<=3 + j:=by omega
 have h4:3 + j<=4:=by omega
 generalize hm:3 + j=m at h3 h4
 obtain⟨ms,β2,em,hp⟩:=r_mixed (rng (2 * m)) (by rw [rng_len];omega) β1
 have hml:ms.length=2 * m:=by rw [hp.length_eq,rng_len]
 have g2:gMulI (.int 2) (.int m)=some (.int ((2 * m:Nat):Int)):=by rw [gMul_l ⟨by omega,by omega⟩];congr 2
 have e2:cbV 0 mixedF (aCons (f1 (f2 (cst (.int 2)) (gv 1) gMulI) gListRng) aNil) [Nv.bx,.da (.int m),.no,.no,.no,.no] β1=.ok (.list (ms.map PyData.int)) β2:=by
  refine cbV_ok (ds:=[.list ((rng (2 * m)).map PyData.int)]) (b:=true) (β1:=β1) (by rfl) ?_ em
  rw [aCons_eq,f1_ok (x:=.int ((2 * m:Nat):Int)) (d:=.list ((rng (2 * m)).map PyData.int)) (β1:=β1) (f2_ok rfl rfl g2) (gListRng_ok (by omega))];rfl
 rw [mSeq_nx (env':=[.bx,.fz (.int m),.fz (.list (ms.map PyData.int)),.no,.no,.no]) (β':=β2) ?g2]
 case g2=>
  show toS (cbV 0 mixedF (aCons (f1 (f2 (cst (.int 2)) (gv 1) gMulI) gListRng) aNil) [Nv.bx,.da (.int m),.no,.no,.no,.no] β1) _=_
  rw [e2];rfl
 rw [mSeq_nx (env':=[.bx,.fz (.int m),.fz (.list (ms.map PyData.int)),.fz (.list []),.no,.no]) (β':=β2) ?g3]
 case g3=>rw [mSet_eq,fLst_ok (ds:=[]) rfl (by simp)];rfl
 have ndm:ms.Nodup:=hp.nodup_iff.mpr (rng_nodup _)
 obtain⟨env',β',ef,ps,s,t,rfl,rfl,hC⟩:=mFor_inv (t:=.nm 4) (m:=mSeq (mSet 5 ([] ++ []) (fComp 1 [4,2,1] (.nm 0) (fRng1 (gv 1)) (tBl (f2 (gv 0) (gv 1) (gEq true))) (f2 (gv 2) (f2 (gv 3) (gv 0) gAddI) gIx)))
   (mSet 3 ([] ++ ([] ++ [])) (f2 (gv 3) (fComp 1 [2,4] (.nm 0) (fSeq (gv 5)) tYs (fTup (aCons (f2 (gv 1) (gv 2) gIx) (aCons (gv 0) aNil)))) gCat))) (ds:=intsD 0 m) (k:=0)
  (fun i env β=>∃(ps:List Pr) (s t:Sl),env= [.bx,.fz (.int m),.fz (.list (ms.map PyData.int)),.fz (.list (ps.map prD)),s,t]/\β=β2/\Crn ms m i ps)
  (env:=[.bx,.fz (.int m),.fz (.list (ms.map PyData.int)),.fz (.list []),.no,.no]) (β:=β2) ⟨[],.no,.no,rfl,rfl,List.nodup_nil,by simp,fun p hp=>by cases hp⟩ (by
   rintro i d env β hi ⟨ps,s,t,rfl,rfl,nd,hl,hc⟩
   obtain⟨hin,rfl⟩:=intsD_at hi
   refine⟨[.bx,.fz (.int m),.fz (.list (ms.map PyData.int)),.fz (.list (ps.map prD)),.fz (.int (0 + (i:Int))),t],rfl,?_⟩
   rw [Nat.zero_add,Int.zero_add]
   rw [Nat.zero_add] at hl hc
   have him:i < ms.length:=by omega
   have ec:fComp 1 [4,2,1] (.nm 0) (fRng1 (gv 1)) (tBl (f2 (gv 0) (gv 1) (gEq true))) (f2 (gv 2) (f2 (gv 3) (gv 0) gAddI) gIx) [.bx,.da (.int m),.da (.list (ms.map PyData.int)),.da (.list (ps.map prD)),.da (.int i),t.val] β=.ok (.list ((((List.range m).filter fun (j:Nat)=> !decide ((j:Int)=(i:Int))).map fun (j:Nat)=>ms.getD (m + j) 0).map PyData.int)) β:=by
    rw [List.map_map]
    refine fComp_filO (l:=List.range m) (e:=fun (k:Nat)=>PyData.int (0 + (k:Int))) (fun (j:Nat)=> !decide ((j:Int)=(i:Int))) (fun j=>PyData.int (ms.getD (m + j) 0)) (fRng1_ok (n:=m) rfl (by omega)) (by rw [List.length_range];omega) fun j hj=>⟨_,rfl,?_,fun _=>?_⟩
    ·rw [Int.zero_add];exact tBl_eqI (neg:=true) (i:=j) (j:=i) rfl rfl
    ·have hj:=List.mem_range.mp hj
     have hjm:m + j < ms.length:=by omega
     refine f2_ok (x:=.list (ms.map PyData.int)) (y:=.int ((m + j:Nat):Int)) rfl (f2_ok (x:=.int m) (y:=.int (0 + (j:Int))) rfl rfl ?_) ?_
     ·show some (PyData.int ((m:Int) + (0 + (j:Int))))=_
      congr 2;omega
     ·show atI (ms.map PyData.int) ((m + j:Nat):Int)=_
      rw [atI_map,atI_lt hjm,List.getD_eq_getElem?_getD,List.getElem?_eq_getElem hjm];rfl
   rw [mSeq_nx (env':=[.bx,.fz (.int m),.fz (.list (ms.map PyData.int)),.fz (.list (ps.map prD)),.fz (.int i),.fz (.list ((((List.range m).filter fun (j:Nat)=> !decide ((j:Int)=(i:Int))).map fun (j:Nat)=>ms.getD (m + j) 0).map PyData.int))]) (β':=β) ?g]
   case g=>
    rw [mSet_eq]
    show toS (fComp 1 [4,2,1] (.nm 0) (fRng1 (gv 1)) (tBl (f2 (gv 0) (gv 1) (gEq true))) (f2 (gv 2) (f2 (gv 3) (gv 0) gAddI) gIx) [.bx,.da (.int m),.da (.list (ms.map PyData.int)),.da (.list (ps.map prD)),.da (.int i),t.val] β) _=_
    rw [ec];rfl
   generalize hO:((List.range m).filter fun (j:Nat)=> !decide ((j:Int)=(i:Int)))=js
   have hjs:∀j,j∈js->j < m:=fun j hj=>by rw [<-hO] at hj;exact List.mem_range.mp (List.mem_filter.mp hj).1
   have hjn:js.Nodup:=by rw [<-hO];exact List.nodup_range.filter _
   have hjl:js.length<=m:=by rw [<-hO];have:=List.length_filter_le (fun (j:Nat)=> !decide ((j:Int)=(i:Int))) (List.range m);rw [List.length_range] at this;exact this
   have ed:fComp 1 [2,4] (.nm 0) (fSeq (gv 5)) tYs (fTup (aCons (f2 (gv 1) (gv 2) gIx) (aCons (gv 0) aNil))) [.bx,.da (.int m),.da (.list (ms.map PyData.int)),.da (.list (ps.map prD)),.da (.int i),.da (.list ((js.map fun (j:Nat)=>ms.getD (m + j) 0).map PyData.int))] β=.ok (.list ((js.map fun (j:Nat)=>((ms.getD i 0,ms.getD (m + j) 0):Pr)).map prD)) β:=by
    rw [List.map_map,List.map_map]
    refine fComp_mapO (l:=js) (e:=fun j=>PyData.int (ms.getD (m + j) 0)) (fun j=>prD (ms.getD i 0,ms.getD (m + j) 0)) rfl (by omega) fun j hj=>⟨_,rfl,?_⟩
    refine fPair_ok (f2_ok (x:=.list (ms.map PyData.int)) (y:=.int i) rfl rfl ?_) rfl
    show atI (ms.map PyData.int) (i:Int)=_
    rw [atI_map,atI_lt him,List.getD_eq_getElem?_getD,List.getElem?_eq_getElem him];rfl
   refine⟨[.bx,.fz (.int m),.fz (.list (ms.map PyData.int)),.fz (.list ((ps ++ js.map fun (j:Nat)=>((ms.getD i 0,ms.getD (m + j) 0):Pr)).map prD)),.fz (.int i),.fz (.list ((js.map fun (j:Nat)=>ms.getD (m + j) 0).map PyData.int))],β,?_,_,_,_,rfl,rfl,?_,?_,?_⟩
   ·rw [mSet_eq]
    show toS (f2 (gv 3) (fComp 1 [2,4] (.nm 0) (fSeq (gv 5)) tYs (fTup (aCons (f2 (gv 1) (gv 2) gIx) (aCons (gv 0) aNil)))) gCat [.bx,.da (.int m),.da (.list (ms.map PyData.int)),.da (.list (ps.map prD)),.da (.int i),.da (.list ((js.map fun (j:Nat)=>ms.getD (m + j) 0).map PyData.int))] β) _=_
    rw [f2_ok (x:=.list (ps.map prD)) rfl ed (gCat_ok (by rw [List.length_map,List.length_map,List.length_map];omega)),<-List.map_append];rfl
   ·have hd:∀j,j < m->ms[m + j]? =some (ms.getD (m + j) 0):=fun j hj=>by rw [List.getD_eq_getElem?_getD,List.getElem?_eq_getElem (by omega)];rfl
    have hdi:ms[i]? =some (ms.getD i 0):=by rw [List.getD_eq_getElem?_getD,List.getElem?_eq_getElem him];rfl
    refine List.nodup_append.mpr ⟨nd,?_,fun p hp q hq e=>?_⟩
    ·rw [List.nodup_iff_pairwise_ne,List.pairwise_map]
     refine List.Pairwise.imp_of_mem (fun {a b} ha hb h e=>?_) (List.nodup_iff_pairwise_ne.mp hjn)
     have e2:=(Prod.mk.inj e).2
     have:=nodup_at ndm (hd a (hjs a ha)) (by rw [e2];exact hd b (hjs b hb))
     omega
    ·subst e
     obtain⟨j,hj,rfl⟩:=List.mem_map.mp hq
     obtain⟨i',j',h1,h2,h3,h4⟩:=hc _ hp
     have:=nodup_at ndm h3 hdi
     omega
   ·rw [List.length_append,List.length_map];omega
   ·intro p hp
    rcases List.mem_append.mp hp with hp |hp
    ·obtain⟨i',j',h1,h2,h3,h4⟩:=hc _ hp
     exact⟨i',j',by omega,h2,h3,h4⟩
    ·obtain⟨j,hj,rfl⟩:=List.mem_map.mp hp
     refine⟨i,j,by omega,hjs j hj,?_,?_⟩
     ·show ms[i]? =some (ms.getD i 0)
      rw [List.getD_eq_getElem?_getD,List.getElem?_eq_getElem him];rfl
     ·have:=hjs j hj
      show ms[m + j]? =some (ms.getD (m + j) 0)
      rw [List.getD_eq_getElem?_getD,List.getElem?_eq_getElem (by omega)];rfl)
 rw [intsD_len,Nat.zero_add] at hC
 rw [mSeq_nx (env':=[.bx,.fz (.int m),.fz (.list (ms.map PyData.int)),.fz (.list (ps.map prD)),s,t]) (β':=β') ?g5]
 case g5=>
  rw [mForS_ok (env:=[.bx,.fz (.int m),.fz (.list (ms.map PyData.int)),.fz (.list []),.no,.no]) (fRng1_ok (n:=m) rfl (by omega))]
  exact ef
 obtain⟨O,hsm,hl⟩:=crn_ord h3 h4 (Nat.le_refl m) hp hC
 refine⟨2 * m,OM.filt 8 (OM.Mem ps),β',?_,O⟩
 have g9:gSortP (.list (ps.map prD))=some (.list ((OM.filt 8 (OM.Mem ps)).map prD)):=by
  unfold gSortP
  dsimp only
  rw [pairsP_map]
  dsimp only
  rw [if_pos ⟨hsm,hC.1,hl⟩]
 have e9:fTup (aCons (f2 (cst (.int 2)) (gv 1) gMulI) (aCons (f1 (f1 (gv 3) gSortP) gTuple) aNil)) [Nv.bx,.da (.int m),.da (.list (ms.map PyData.int)),.da (.list (ps.map prD)),s.val,t.val] β'=.ok (ordD (2 * m) (OM.filt 8 (OM.Mem ps))) β':=by
  refine fTup_ok (ds:=[.int ((2 * m:Nat):Int),.tuple ((OM.filt 8 (OM.Mem ps)).map prD)]) ?_ (by simp)
  rw [aCons_eq,f2_ok (x:=.int 2) (y:=.int m) rfl rfl g2]
  dsimp only [R.bnd]
  rw [aCons_eq,f1_ok (f1_ok (x:=.list (ps.map prD)) rfl g9) (by rfl)];rfl
 rw [mRet_eq]
 show finB (toS (fTup (aCons (f2 (cst (.int 2)) (gv 1) gMulI) (aCons (f1 (f1 (gv 3) gSortP) gTuple) aNil)) [Nv.bx,.da (.int m),.da (.list (ms.map PyData.int)),.da (.list (ps.map prD)),s.val,t.val] β') _)=_
 rw [e9];rfl
noncomputable def anyF:List D->Int->FB:=runB 5 1 (m__law_any_order toldF takeF crownF mixedF lorderF)
theorem compL_two {t:Tg}{fe:VF D}{vs vs0 vs1:List Nv}{d0 d1 x0 x1:D}{β β1 β2:Int}(h0:bindV t d0 vs=some vs0)(e0:fe vs0 β=.ok x0 β1)(h1:bindV t d1 vs=some vs1)(e1:fe vs1 β1=.ok x1 β2):compL t tYs fe vs [d0,d1] β=.ok [x0,x1] β2:=by
 have q1:compL t tYs fe vs [d1] β1=.ok [x1] β2:=by
  unfold compL
  rw [h1]
  dsimp only [tYs,R.okb]
  rw [if_pos rfl,e1];rfl
 unfold compL
 rw [h0]
 dsimp only [tYs,R.okb]
 rw [if_pos rfl,e0]
 dsimp only
 rw [q1]
theorem r_any (β:Int):∃(n:Nat) (l:List Pr) (β':Int),anyF [.int 8] β=.ok (ordD n l) false β'/\OM.Ord n l:=by
 obtain⟨j,hj,ej⟩:=take_nat (m:=5) (by omega) (by omega) β
 show ∃(n:Nat) (l:List Pr) (β':Int),finB (m__law_any_order toldF takeF crownF mixedF lorderF [.bx,.fz (.int 8),.no,.no,.no] β)=.ok (ordD n l) false β'/\OM.Ord n l
 unfold m__law_any_order
 generalize hβ1:β / ((5:Nat):Int)=β1 at ej
 have e1:cbV 0 takeF (aCons (cst (.int 5)) aNil) [Nv.bx,.da (.int 8),.no,.no,.no] β=.ok (.int j) β1:=cbV_ok (by rfl) rfl ej
 rw [mSeq_nx (env':=[.bx,.fz (.int 8),.fz (.int j),.no,.no]) (β':=β1) ?g1]
 case g1=>
  show toS (cbV 0 takeF (aCons (cst (.int 5)) aNil) [Nv.bx,.da (.int 8),.no,.no,.no] β) _=_
  rw [e1];rfl
 have t4:tBl (f2 (gv 2) (cst (.int 4)) (gEq false)) (vl [.bx,.fz (.int 8),.fz (.int j),.no,.no]) β1=.ok (decide ((j:Int)=4)) β1:=tBl_eqI (neg:=false) (i:=j) (j:=4) rfl rfl
 have t3:tBl (f2 (gv 2) (cst (.int 3)) (gEq false)) (vl [.bx,.fz (.int 8),.fz (.int j),.no,.no]) β1=.ok (decide ((j:Int)=3)) β1:=tBl_eqI (neg:=false) (i:=j) (j:=3) rfl rfl
 by_cases c4:(j:Int)=4
 ·rw [decide_eq_true c4] at t4
  obtain⟨n,l,β',ec,O⟩:=r_crown β1
  refine⟨n,l,β',?_,O⟩
  rw [mSeq_rt (d:=ordD n l) (b:=false) (β':=β') ?g]
  case g=>
   rw [mIf_t t4,mRet_eq]
   show toS (cbV 0 crownF aNil [Nv.bx,.da (.int 8),.da (.int j),.no,.no] β1) _=_
   rw [cbV_ok (by rfl) rfl ec];rfl
  rfl
 rw [decide_eq_false c4] at t4
 rw [mSeq_nx (env':=[.bx,.fz (.int 8),.fz (.int j),.no,.no]) (β':=β1) ?g2]
 case g2=>rw [mIf_f t4];rfl
 by_cases c3:(j:Int)=3
 ·rw [decide_eq_true c3] at t3
  obtain⟨q,hq,eq⟩:=take_nat (m:=8) (by omega) (by omega) β1
  generalize hβ2:β1 / ((8:Nat):Int)=β2 at eq
  have e2:f2 (cst (.int 1)) (cbV 0 takeF (aCons (gv 1) aNil)) gAddI [Nv.bx,.da (.int 8),.da (.int j),.no,.no] β1=.ok (.int ((1 + q:Nat):Int)) β2:=by
   refine f2_ok (x:=.int 1) rfl (cbV_ok (by rfl) rfl eq) ?_
   show some (PyData.int (1 + (q:Int)))=_
   rw [show ((1 + q:Nat):Int)=1 + (q:Int) by omega]
  have n1:1<=1 + q:=by omega
  have n8:1 + q<=8:=by omega
  generalize hn:1 + q=n at n1 n8 e2
  obtain⟨r0,β3,em0,hp0⟩:=r_mixed (rng n) (by rw [rng_len];omega) β2
  obtain⟨r1,β4,em1,hp1⟩:=r_mixed (rng n) (by rw [rng_len];omega) β3
  have hrow:∀(i:Int) (b b':Int) (r:List Int),mixedF [.list ((rng n).map PyData.int)] b=.ok (.list (r.map PyData.int)) true b'->f1 (cbV 1 mixedF (aCons (f1 (gv 2) gListRng) aNil)) gTuple [Nv.da (.int i),.bx,.da (.int n)] b=.ok (tupI r) b':=by
   intro i b b' r em
   refine f1_ok (x:=.list (r.map PyData.int)) (cbV_ok (ds:=[.list ((rng n).map PyData.int)]) (b:=true) (β1:=b) (by rfl) ?_ em) (by rfl)
   rw [aCons_eq,f1_ok (x:=.int n) (d:=.list ((rng n).map PyData.int)) (β1:=b) rfl (gListRng_ok (by omega))];rfl
  have ec:fComp 1 [0,3] (.nm 0) (fRng1 (cst (.int 2))) tYs (f1 (cbV 1 mixedF (aCons (f1 (gv 2) gListRng) aNil)) gTuple) [Nv.bx,.da (.int 8),.da (.int j),.da (.int n),.no] β2=.ok (.list ([r0,r1].map tupI)) β4:=by
   unfold fComp
   rw [fRng1_ok (n:=2) (β1:=β2) rfl (by omega)]
   dsimp only [R.bnd]
   rw [if_pos (sz _ (by rw [intsD_len];omega))]
   have q2:intsD 0 2= [.int 0,.int 1]:=rfl
   rw [q2,compL_two (vs0:=[.da (.int 0),.bx,.da (.int n)]) (vs1:=[.da (.int 1),.bx,.da (.int n)]) rfl (hrow 0 _ _ _ em0) rfl (hrow 1 _ _ _ em1)];rfl
  have hP:∀r,r∈ [r0,r1]->r.Perm (rng n):=fun r hr=>by
   rcases List.mem_cons.mp hr with z |z
   ·rw [z];exact hp0
   ·rw [List.mem_singleton.mp z];exact hp1
  refine⟨n,(OM.grid n).filter (tlB [r0,r1]),β4,?_,ord_told n1 n8 (by simp) hP⟩
  rw [mSeq_rt (d:=ordD n ((OM.grid n).filter (tlB [r0,r1]))) (b:=false) (β':=β4) ?g]
  case g=>
   rw [mIf_t t3]
   rw [mSeq_nx (env':=[.bx,.fz (.int 8),.fz (.int j),.fz (.int n),.no]) (β':=β2) ?k1]
   case k1=>
    rw [mSet_eq]
    show toS (f2 (cst (.int 1)) (cbV 0 takeF (aCons (gv 1) aNil)) gAddI [Nv.bx,.da (.int 8),.da (.int j),.no,.no] β1) _=_
    rw [e2];rfl
   rw [mSeq_nx (env':=[.bx,.fz (.int 8),.fz (.int j),.fz (.int n),.fz (.list ([r0,r1].map tupI))]) (β':=β4) ?k2]
   case k2=>
    rw [mSet_eq]
    show toS (fComp 1 [0,3] (.nm 0) (fRng1 (cst (.int 2))) tYs (f1 (cbV 1 mixedF (aCons (f1 (gv 2) gListRng) aNil)) gTuple) [Nv.bx,.da (.int 8),.da (.int j),.da (.int n),.no] β2) _=_
    rw [ec];rfl
   rw [mRet_eq]
   show toS (fTup (aCons (gv 3) (aCons (callV toldF (aCons (gv 3) (aCons (gv 4) aNil))) aNil)) [Nv.bx,.da (.int 8),.da (.int j),.da (.int n),.da (.list ([r0,r1].map tupI))] β4) _=_
   have a1:callV toldF (aCons (gv 3) (aCons (gv 4) aNil)) [Nv.bx,.da (.int 8),.da (.int j),.da (.int n),.da (.list ([r0,r1].map tupI))] β4=.ok (.tuple (((OM.grid n).filter (tlB [r0,r1])).map prD)) β4:=callV_ok rfl (r_told n8 (by simp) hP)
   rw [fTup_ok (ds:=[.int n,.tuple (((OM.grid n).filter (tlB [r0,r1])).map prD)]) (β1:=β4) ?k3 (by simp)]
   case k3=>
    rw [aCons_eq]
    show (R.ok (PyData.int n) β4).bnd _=_
    dsimp only [R.bnd]
    rw [aCons_eq,a1];rfl
   rfl
  rfl
 rw [decide_eq_false c3] at t3
 rw [mSeq_nx (env':=[.bx,.fz (.int 8),.fz (.int j),.no,.no]) (β':=β1) ?g3]
 case g3=>rw [mIf_f t3];rfl
 obtain⟨n,l,β',eo,O,_⟩:=r_lorder (most:=8) (by omega) (by omega) β1
 refine⟨n,l,β',?_,O⟩
 rw [mRet_eq]
 show finB (toS (cbV 0 lorderF (aCons (gv 1) aNil) [Nv.bx,.da (.int 8),.da (.int j),.no,.no] β1) _)=_
 rw [cbV_ok (by rfl) rfl eo];rfl
end RM

end

section
namespace RM
open PySem L2
def Ge (e:D):Prop:=isScr e=false/\∀es,e=.tuple es->es.length<=100/\∀x,x∈es->isScr x=false
def Gt (d:D):Prop:=isScr d=false/\∀ds,d=.list ds->ds.length<=100/\∀e,e∈ds->Ge e
def pgB (n:Int):D->Bool
 | .tuple [x,y]=>belowB x n && belowB y n
 |_=>false
theorem pg_pr {n:Int}{d:D}(h:pgB n d=true):∃p:Pr,d=prD p/\(0<=p.1/\p.1 < n)/\(0<=p.2/\p.2 < n):=by
 unfold pgB at h
 split at h
 ·rename_i x y
  rw [Bool.and_eq_true] at h
  cases x with
  |int a=>
   cases y with
   |int b=>exact⟨(a,b),rfl,of_decide_eq_true h.1,of_decide_eq_true h.2⟩
   |_=>cases h.2
  |_=>cases h.1
 ·cases h
def pgF:List D->FR:=runF 2 2 (m_is_pair belowF)
theorem len2_cases {es:List D}:(decide ((es.length:Int)=2)=false/\∀n,pgB n (.tuple es)=false)\/∃x y,es= [x,y]:=by
 match es with
 | []=>exact .inl ⟨rfl,fun _=>rfl⟩
 | [_]=>exact .inl ⟨rfl,fun _=>rfl⟩
 | [x,y]=>exact .inr ⟨x,y,rfl⟩
 |_ :: _ :: _ :: _=>exact .inl ⟨decide_eq_false (by simp;omega),fun _=>rfl⟩
theorem r_pg {d:D}{n:Int}(h:Ge d):pgF [d,.int n]=.ok (.bool (pgB n d)) false:=by
 show fin (m_is_pair belowF [.fz d,.fz (.int n)] 0)=_
 unfold m_is_pair
 have g0:gv 0 (vl [.fz d,.fz (.int n)]) 0=.ok d 0:=rfl
 have t1:=tup_t g0 h.1
 cases hy:isTu d with
 |false=>
  rw [hy] at t1
  rw [mSeq_rt (d:=.bool false) (b:=false) (β':=0) ?a]
  ·cases d <;> first |rfl |cases hy
  case a=>rw [mIf_t (orr_t (tNt_ok t1))];rfl
 |true=>
  obtain⟨es,rfl⟩:=isTu_eq hy
  rw [hy] at t1
  have t2:=len_ne (k:=2) g0
  rcases len2_cases (es:=es) with⟨q,z⟩ | ⟨x,y,rfl⟩
  ·rw [q] at t2
   rw [z n,mSeq_rt (d:=.bool false) (b:=false) (β':=0) (by rw [mIf_t (orr_f (tNt_ok t1) t2)];rfl)];rfl
  ·rw [mSeq_nx (env':=[.fz (.tuple [x,y]),.fz (.int n)]) (β':=0) (by rw [mIf_f (orr_f (tNt_ok t1) t2)];rfl)]
   have hx:=(h.2 _ rfl).2 x (List.mem_cons_self ..)
   have hy':=(h.2 _ rfl).2 y (List.mem_cons_of_mem _ (List.mem_cons_self ..))
   have e1:callV belowF (aCons (f2 (gv 0) (cst (.int 0)) gIx) (aCons (gv 1) aNil)) (vl [.fz (.tuple [x,y]),.fz (.int n)]) 0=.ok (.bool (belowB x n)) 0:=callV_ok (ds:=[x,.int n]) rfl (e_below hx)
   have e2:callV belowF (aCons (f2 (gv 0) (cst (.int 1)) gIx) (aCons (gv 1) aNil)) (vl [.fz (.tuple [x,y]),.fz (.int n)]) 0=.ok (.bool (belowB y n)) 0:=callV_ok (ds:=[y,.int n]) rfl (e_below hy')
   rw [mRet_eq,fAnd_ok e1 e2];rfl
def tuB (n:Int)(l:List Pr)(d:D):Bool:=pgB n d && match d with
 | .tuple [.int a,.int b]=>apB l (a,b)
 |_=>false
theorem tu_pr {n:Int}{l:List Pr}{p:Pr}(h:(0<=p.1/\p.1 < n)/\(0<=p.2/\p.2 < n)):tuB n l (prD p)=apB l p:=by
 show ((decide (0<=p.1/\p.1 < n) && decide (0<=p.2/\p.2 < n)) && apB l (p.1,p.2))=apB l p
 rw [decide_eq_true h.1,decide_eq_true h.2];rfl
noncomputable def itF:List D->FR:=runF 2 2 (m_is_turn pgF apF)
theorem r_it {n:Nat}{l:List Pr}{d:D}(h:Ge d):itF [d,ordD n l]=.ok (.bool (tuB n l d)) false:=by
 show fin (m_is_turn pgF apF [.fz d,.fz (ordD n l)] 0)=_
 unfold m_is_turn
 have e1:callV pgF (aCons (gv 0) (aCons (f2 (gv 1) (cst (.int 0)) gIx) aNil)) (vl [.fz d,.fz (ordD n l)]) 0=.ok (.bool (pgB n d)) 0:=callV_ok (ds:=[d,.int n]) rfl (r_pg h)
 rw [mRet_eq]
 cases q:pgB n d with
 |false=>rw [q] at e1;rw [and_f e1];unfold tuB;rw [q];rfl
 |true=>
  rw [q] at e1
  obtain⟨p,rfl,hp⟩:=pg_pr q
  rw [tu_pr hp,and_t e1 (callV_ok (ds:=[ordD n l,.int p.1,.int p.2]) rfl (r_ap n l p.1 p.2))];rfl
def tsB (n:Int)(l:List Pr):D->Bool
 | .list ds=>ds.all (tuB n l)
 |_=>false
noncomputable def atF:List D->FR:=runF 2 2 (m_are_turns itF)
theorem r_at {n:Nat}{l:List Pr}{d:D}(h:Gt d):atF [d,ordD n l]=.ok (.bool (tsB n l d)) false:=by
 show fin (m_are_turns itF [.fz d,.fz (ordD n l)] 0)=_
 unfold m_are_turns
 have e1:=lst_f (fa:=gv 0) (vs:=vl [.fz d,.fz (ordD n l)]) (β:=0) rfl h.1
 rw [mRet_eq]
 cases q:isLs d with
 |false=>rw [q] at e1;rw [and_f e1];cases d <;> first |rfl |cases q
 |true=>
  rw [q] at e1
  obtain⟨ds,rfl⟩:=isLs_eq q
  have hd:=h.2 ds rfl
  have ec:fComp 1 [1] (.nm 0) (fSeq (gv 0)) tYs (callV itF (aCons (gv 0) (aCons (gv 1) aNil))) (vl [.fz (.list ds),.fz (ordD n l)]) 0=.ok (.list (ds.map fun e=>PyData.bool (tuB n l e))) 0:=
   fComp_map (fun e=>PyData.bool (tuB n l e)) rfl (by omega) fun e he=>⟨_,rfl,callV_ok (ds:=[e,ordD n l]) rfl (r_it (hd.2 e he))⟩
  rw [and_t e1 (all_okD ec)];rfl
theorem ts_prs {n:Nat}{l:List Pr}:∀{ds:List D},ds.all (tuB n l)=true->∃ps:List Pr,ds=ps.map prD/\∀p,p∈ps->apB l p=true
 | [],_=>⟨[],rfl,fun p h=>by cases h⟩
 |d :: ds,h=>by
  rw [List.all_cons,Bool.and_eq_true] at h
  obtain⟨ps,rfl,hp⟩:=ts_prs h.2
  have h1:=h.1
  unfold tuB at h1
  rw [Bool.and_eq_true] at h1
  obtain⟨p,rfl,hb⟩:=pg_pr h1.1
  refine⟨p :: ps,rfl,fun q hq=>?_⟩
  rcases List.mem_cons.mp hq with rfl |hq
  ·exact h1.2
  ·exact hp q hq
def onB (l:List Pr)(p q:Pr):Bool:=decide (p.1=q.2) || decide ((p.1,q.2)∈l)
def loF:List D->FR:=runF 3 3 m_leads_on
theorem r_lo (n:Nat)(l:List Pr)(p q:Pr):loF [ordD n l,prD p,prD q]=.ok (.bool (onB l p q)) false:=by
 show fin (m_leads_on [.fz (ordD n l),.fz (prD p),.fz (prD q)] 0)=_
 unfold m_leads_on
 have i0:f2 (gv 1) (cst (.int 0)) gIx (vl [.fz (ordD n l),.fz (prD p),.fz (prD q)]) 0=.ok (.int p.1) 0:=f2_ok (x:=prD p) (y:=.int 0) rfl rfl rfl
 have i1:f2 (gv 2) (cst (.int 1)) gIx (vl [.fz (ordD n l),.fz (prD p),.fz (prD q)]) 0=.ok (.int q.2) 0:=f2_ok (x:=prD q) (y:=.int 1) rfl rfl rfl
 have e1:f2 (f2 (gv 1) (cst (.int 0)) gIx) (f2 (gv 2) (cst (.int 1)) gIx) (gEq false) (vl [.fz (ordD n l),.fz (prD p),.fz (prD q)]) 0=.ok (.bool (decide (p.1=q.2))) 0:=f2_ok i0 i1 (gEq_int false p.1 q.2)
 have e2:f2 (fTup (aCons (f2 (gv 1) (cst (.int 0)) gIx) (aCons (f2 (gv 2) (cst (.int 1)) gIx) aNil))) (f2 (gv 0) (cst (.int 1)) gIx) (gIn false) (vl [.fz (ordD n l),.fz (prD p),.fz (prD q)]) 0=.ok (.bool (decide ((p.1,q.2)∈l))) 0:=f2_ok (x:=prD (p.1,q.2)) (fPair_ok i0 i1) (ix1 (n:=n) (l:=l) rfl) (gIn_tup false (p.1,q.2) l)
 rw [mRet_eq]
 unfold onB
 cases c:decide (p.1=q.2) with
 |true=>rw [c] at e1;rw [or_t e1];rfl
 |false=>rw [c] at e1;rw [or_f e1 e2];rfl
def lwF:List D->FR:=runF 1 1 m__law_whole
theorem r_lw {d:D}(h:isScr d=false):lwF [d]=.ok (.bool (isWh d)) false:=by
 have:=r_whole [d] (by rw [e_whole h];exact fun z=>by cases z)
 rw [e_whole h] at this
 exact this
theorem tu_tup {n:Int}{l:List Pr}{x y:D}(h:(isWh x && isWh y)=false):tuB n l (.tuple [x,y])=false:=by
 unfold tuB pgB
 cases x with
 |int a=>
  cases y with
  |int b=>cases h
  |_=>simp [belowB]
 |_=>simp [belowB]
def rgB (l:List Pr)(ps:List Pr):Bool:=(List.range ps.length).all fun i=>onB l (ps.getD (if i=0 then ps.length - 1 else i - 1) (0,0)) (ps.getD i (0,0))
theorem at_prev {ps:List Pr}{i:Nat}(hi:i < ps.length):atI (ps.map prD) ((i:Int) - 1)=some (prD (ps.getD (if i=0 then ps.length - 1 else i - 1) (0,0))):=by
 have key:∀k:Nat,k < ps.length->atI (ps.map prD) (k:Int)=some (prD (ps.getD k (0,0))):=fun k hk=>by
  rw [atI_map,atI_lt hk,List.getD_eq_getElem?_getD,List.getElem?_eq_getElem hk];rfl
 by_cases h:i=0
 ·subst h
  rw [if_pos rfl,<-key _ (by omega)]
  have e1:ixN ps.length (((0:Nat):Int) - 1)=some (ps.length - 1):=by
   unfold ixN
   rw [if_neg (by omega),if_pos (by omega)]
   congr 1;omega
  have e2:ixN ps.length ((ps.length - 1:Nat):Int)=some (ps.length - 1):=by
   unfold ixN
   rw [if_pos (by omega),if_pos (by omega)]
   congr 1
  unfold atI
  rw [List.length_map,e1,e2]
 ·rw [if_neg h,<-key _ (by omega),show ((i - 1:Nat):Int)=(i:Int) - 1 by omega]
end RM

end

section
namespace RM
open PySem L2
theorem round_ok {F:List D->FR}{n:Nat}{l:List Pr}(hF:∀p q,F [ordD n l,prD p,prD q]=.ok (.bool (onB l p q)) false){ps:List Pr}(hz:ps.length<=100){vs:List Nv}(h0:vs[0]? =some (.da (.list (ps.map prD))))(h1:vs[1]? =some (.da (ordD n l))) :
  f1 (fComp 1 [1,0] (.nm 0) (fRng1 (f1 (gv 0) gLen)) tYs (callV F (aCons (gv 1) (aCons (f2 (gv 2) (f2 (gv 0) (cst (.int 1)) gSubI) gIx) (aCons (f2 (gv 2) (gv 0) gIx) aNil))))) (gBools fun bs=>bs.all id) vs 0=.ok (.bool (rgB l ps)) 0:=by
 have g0:gv 0 vs 0=.ok (.list (ps.map prD)) 0:=by rw [gv_eq,h0];rfl
 have hb:bvals 1 [1,0] vs= [.no,.da (ordD n l),.da (.list (ps.map prD))]:=by simp [bvals,h0,h1]
 have ec:fComp 1 [1,0] (.nm 0) (fRng1 (f1 (gv 0) gLen)) tYs (callV F (aCons (gv 1) (aCons (f2 (gv 2) (f2 (gv 0) (cst (.int 1)) gSubI) gIx) (aCons (f2 (gv 2) (gv 0) gIx) aNil)))) vs 0=.ok (.list ((List.range ps.length).map fun i=>PyData.bool (onB l (ps.getD (if i=0 then ps.length - 1 else i - 1) (0,0)) (ps.getD i (0,0))))) 0:=by
  refine fComp_mapO (l:=List.range ps.length) (e:=fun (k:Nat)=>PyData.int (0 + (k:Int))) (fun i=>PyData.bool (onB l (ps.getD (if i=0 then ps.length - 1 else i - 1) (0,0)) (ps.getD i (0,0)))) ?_ (by rw [List.length_range];omega) fun i hi=>⟨[.da (.int (0 + (i:Int))),.da (ordD n l),.da (.list (ps.map prD))],by rw [hb];rfl,?_⟩
  ·have:=fRng1_ok (fa:=f1 (gv 0) gLen) (vs:=vs) (β:=0) (β1:=0) (n:=ps.length) (by rw [lenL_t (ds:=ps.map prD) g0,List.length_map]) (by omega)
   rw [this];rfl
  ·have hi:=List.mem_range.mp hi
   rw [Int.zero_add]
   refine callV_ok (b:=false) (ds:=[ordD n l,prD (ps.getD (if i=0 then ps.length - 1 else i - 1) (0,0)),prD (ps.getD i (0,0))]) ?_ (hF _ _)
   have a1:f2 (gv 2) (f2 (gv 0) (cst (.int 1)) gSubI) gIx [.da (.int i),.da (ordD n l),.da (.list (ps.map prD))] 0=.ok (prD (ps.getD (if i=0 then ps.length - 1 else i - 1) (0,0))) 0:=f2_ok (x:=.list (ps.map prD)) (y:=.int ((i:Int) - 1)) rfl (f2_ok (x:=.int i) (y:=.int 1) rfl rfl rfl) (at_prev hi)
   have a2:f2 (gv 2) (gv 0) gIx [.da (.int i),.da (ordD n l),.da (.list (ps.map prD))] 0=.ok (prD (ps.getD i (0,0))) 0:=by
    refine f2_ok (x:=.list (ps.map prD)) (y:=.int i) rfl rfl ?_
    show atI (ps.map prD) (i:Int)=_
    rw [atI_map,atI_lt hi,List.getD_eq_getElem?_getD,List.getElem?_eq_getElem hi];rfl
   exact ac rfl (ac a1 (ac a2 an))
 exact f1_ok ec (by simp only [gBools];rw [bools_map];simp [List.all_map,rgB])
noncomputable def grF:List D->FR:=runF 2 2 (m_goes_round atF loF)
noncomputable def riF:List D->FR:=runF 2 2 (m_is_ring needF grF)
theorem r_riW {n:Nat}{l:List Pr}{d:D}{b:Bool}(O:OM.Ord n l)(h:grF [d,ordD n l]=.ok (.bool b) false):riF [d,ordD n l]=.ok (.bool b) false:=by
 show fin (m_is_ring needF grF [.fz d,.fz (ordD n l)] 0)=_
 unfold m_is_ring
 rw [mSeq_nx (env':=[.fz d,.fz (ordD n l)]) (β':=0) (by rw [mExpr_eq,callV_ok (ds:=[ordD n l]) (β1:=0) rfl (e_need O)];rfl)]
 rw [mRet_eq,callV_ok (ds:=[d,ordD n l]) (β1:=0) rfl h];rfl
theorem r_grF {n:Nat}{l:List Pr}{d:D}(h:Gt d)(hts:tsB n l d=false):grF [d,ordD n l]=.ok (.bool false) false:=by
 show fin (m_goes_round atF loF [.fz d,.fz (ordD n l)] 0)=_
 unfold m_goes_round
 have t:tTr (callV atF (aCons (gv 0) (aCons (gv 1) aNil))) (vl [.fz d,.fz (ordD n l)]) 0=.ok (tsB n l d) 0:=tTr_b (callV_ok (ds:=[d,ordD n l]) rfl (r_at h))
 rw [hts] at t
 rw [mSeq_rt (d:=.bool false) (b:=false) (β':=0) (by rw [mIf_t (orr_t (tNt_ok t))];rfl)];rfl
theorem r_grT {n:Nat}{l:List Pr}{ps:List Pr}(h:Gt (.list (ps.map prD)))(hts:tsB n l (.list (ps.map prD))=true):grF [.list (ps.map prD),ordD n l]=.ok (.bool (!ps.isEmpty && rgB l ps)) false:=by
 show fin (m_goes_round atF loF [.fz (.list (ps.map prD)),.fz (ordD n l)] 0)=_
 unfold m_goes_round
 have t:tTr (callV atF (aCons (gv 0) (aCons (gv 1) aNil))) (vl [.fz (.list (ps.map prD)),.fz (ordD n l)]) 0=.ok (tsB n l (.list (ps.map prD))) 0:=tTr_b (callV_ok (ds:=[.list (ps.map prD),ordD n l]) rfl (r_at h))
 rw [hts] at t
 have hz:ps.length<=100:=by have:=(h.2 _ rfl).1;rw [List.length_map] at this;exact this
 have t2:tBl (f2 (f1 (gv 0) gLen) (cst (.int 0)) (gEq false)) (vl [.fz (.list (ps.map prD)),.fz (ordD n l)]) 0=.ok (decide (((ps.map prD).length:Int)=0)) 0:=tBl_eqI (neg:=false) (lenL_t rfl) rfl
 cases ps with
 |nil=>rw [mSeq_rt (d:=.bool false) (b:=false) (β':=0) (by rw [mIf_t (orr_f (tNt_ok t) t2)];rfl)];rfl
 |cons p ps=>
  rw [decide_eq_false (by simp;omega)] at t2
  rw [mSeq_nx (env':=[.fz (.list ((p :: ps).map prD)),.fz (ordD n l)]) (β':=0) (by rw [mIf_f (orr_f (tNt_ok t) t2)];rfl)]
  rw [mRet_eq,round_ok (F:=loF) (n:=n) (l:=l) (r_lo n l) hz rfl rfl];rfl
noncomputable def liF:List D->FR:=runF 2 2 (m__law_is_turn lwF lturnsF)
theorem r_li {n:Nat}{l:List Pr}{d:D}(O:OM.Ord n l)(h:Ge d):liF [ordD n l,d]=.ok (.bool (tuB n l d)) false:=by
 show fin (m__law_is_turn lwF lturnsF [.fz (ordD n l),.fz d] 0)=_
 unfold m__law_is_turn
 have g1:gv 1 (vl [.fz (ordD n l),.fz d]) 0=.ok d 0:=rfl
 have t1:=tup_t g1 h.1
 cases hy:isTu d with
 |false=>
  rw [hy] at t1
  rw [mSeq_rt (d:=.bool false) (b:=false) (β':=0) ?a]
  ·cases d <;> first |rfl |cases hy
  case a=>rw [mIf_t (orr_t (tNt_ok t1))];rfl
 |true=>
  obtain⟨es,rfl⟩:=isTu_eq hy
  rw [hy] at t1
  have t2:=len_ne (k:=2) g1
  rcases len2_cases (es:=es) with⟨q,z⟩ | ⟨x,y,rfl⟩
  ·rw [q] at t2
   rw [show tuB n l (.tuple es)=false by unfold tuB;rw [z];rfl,mSeq_rt (d:=.bool false) (b:=false) (β':=0) (by rw [mIf_t (orr_f (tNt_ok t1) (orr_t t2))];rfl)];rfl
  ·have hs:=(h.2 _ rfl).2
   have ec:fComp 1 [] (.nm 0) (fSeq (gv 1)) tYs (callV lwF (aCons (gv 0) aNil)) (vl [.fz (ordD n l),.fz (.tuple [x,y])]) 0=.ok (.list ([x,y].map fun e=>PyData.bool (isWh e))) 0:=
    fComp_map (fun e=>PyData.bool (isWh e)) rfl (by simp) fun e he=>⟨_,rfl,callV_ok (ds:=[e]) rfl (r_lw (hs e he))⟩
   have ea:=all_okD ec
   have e2: [x,y].all isWh=(isWh x && isWh y):=by simp
   rw [e2] at ea
   cases hw:(isWh x && isWh y) with
   |false=>
    rw [hw] at ea
    rw [tu_tup hw,mSeq_rt (d:=.bool false) (b:=false) (β':=0) (by rw [mIf_t (orr_f (tNt_ok t1) (orr_f t2 (tNt_ok (tTr_b ea))))];rfl)];rfl
   |true=>
    rw [hw] at ea
    rw [Bool.and_eq_true] at hw
    cases x with
    |int a=>
     cases y with
     |int b=>
      rw [mSeq_nx (env':=[.fz (ordD n l),.fz (.tuple [.int a,.int b])]) (β':=0) (by rw [mIf_f (orr_f (tNt_ok t1) (orr_f t2 (tNt_ok (tTr_b ea))))];rfl)]
      have eg:f2 (gv 1) (callV lturnsF (aCons (gv 0) aNil)) (gIn false) (vl [.fz (ordD n l),.fz (.tuple [.int a,.int b])]) 0=.ok (.bool (decide (((a,b):Pr)∈trn n l))) 0:=f2_ok (x:=prD (a,b)) (y:=.list ((trn n l).map prD)) rfl (callV_ok (ds:=[ordD n l]) rfl (r_lturns O)) (gIn_lst false (a,b) (trn n l))
      rw [mRet_eq,eg]
      show FR.ok (.bool (decide (((a,b):Pr)∈trn n l))) false=.ok (.bool ((decide (0<=a/\a < (n:Int)) && decide (0<=b/\b < (n:Int))) && apB l (a,b))) false
      congr 2
      rw [Bool.eq_iff_iff,decide_eq_true_eq,mem_trn,Bool.and_eq_true,Bool.and_eq_true,decide_eq_true_eq,decide_eq_true_eq]
     |_=>cases hw.2
    |_=>cases hw.1
def leF:List D->FR:=runF 3 3 m__law_leads
theorem r_le (n:Nat)(l:List Pr)(p q:Pr):leF [ordD n l,prD p,prD q]=.ok (.bool (onB l p q)) false:=r_lo n l p q
noncomputable def lrF:List D->FR:=runF 2 2 (m__law_is_ring liF leF)
theorem nil_t {d:List D}{vs:List Nv}(h:gv 0 vs 0=.ok (.list d) 0):tBl (f2 (gv 0) (fLst aNil) gEqNil) vs 0=.ok d.isEmpty 0:=tBl_ok _ _ _ _ (f2_ok h (lp (ds:=[]) an) rfl)
theorem r_lrF {n:Nat}{l:List Pr}{d:D}(O:OM.Ord n l)(h:Gt d)(hts:tsB n l d=false):lrF [d,ordD n l]=.ok (.bool false) false:=by
 show fin (m__law_is_ring liF leF [.fz d,.fz (ordD n l)] 0)=_
 unfold m__law_is_ring
 have e1:=lst_f (fa:=gv 0) (vs:=vl [.fz d,.fz (ordD n l)]) (β:=0) rfl h.1
 rw [mSeq_rt (d:=.bool false) (b:=false) (β':=0) ?a]
 ·rfl
 case a=>
  cases q:isLs d with
  |false=>rw [q] at e1;rw [mIf_t (orr_t (tNt_ok (tTr_b e1)))];rfl
  |true=>
   rw [q] at e1
   obtain⟨ds,rfl⟩:=isLs_eq q
   have hd:=h.2 ds rfl
   have t2:=nil_t (d:=ds) (vs:=vl [.fz (.list ds),.fz (ordD n l)]) rfl
   have ec:fComp 1 [1] (.nm 0) (fSeq (gv 0)) tYs (callV liF (aCons (gv 1) (aCons (gv 0) aNil))) (vl [.fz (.list ds),.fz (ordD n l)]) 0=.ok (.list (ds.map fun e=>PyData.bool (tuB n l e))) 0:=
    fComp_map (fun e=>PyData.bool (tuB n l e)) rfl (by omega) fun e he=>⟨_,rfl,callV_ok (ds:=[ordD n l,e]) rfl (r_li O (hd.2 e he))⟩
   have ea:=all_okD ec
   have hts:ds.all (tuB n l)=false:=hts
   rw [hts] at ea
   cases ds with
   |nil=>cases hts
   |cons x ds=>rw [mIf_t (orr_f (tNt_ok (tTr_b e1)) (orr_f t2 (tNt_ok (tTr_b ea))))];rfl
theorem r_lrT {n:Nat}{l:List Pr}{ps:List Pr}(O:OM.Ord n l)(h:Gt (.list (ps.map prD)))(hts:tsB n l (.list (ps.map prD))=true):lrF [.list (ps.map prD),ordD n l]=.ok (.bool (!ps.isEmpty && rgB l ps)) false:=by
 show fin (m__law_is_ring liF leF [.fz (.list (ps.map prD)),.fz (ordD n l)] 0)=_
 unfold m__law_is_ring
 have e1:=lst_f (fa:=gv 0) (vs:=vl [.fz (.list (ps.map prD)),.fz (ordD n l)]) (β:=0) rfl h.1
 have hd:=h.2 _ rfl
 have hz:ps.length<=100:=by have:=hd.1;rw [List.length_map] at this;exact this
 have t2:=nil_t (d:=ps.map prD) (vs:=vl [.fz (.list (ps.map prD)),.fz (ordD n l)]) rfl
 have ec:fComp 1 [1] (.nm 0) (fSeq (gv 0)) tYs (callV liF (aCons (gv 1) (aCons (gv 0) aNil))) (vl [.fz (.list (ps.map prD)),.fz (ordD n l)]) 0=.ok (.list ((ps.map prD).map fun e=>PyData.bool (tuB n l e))) 0:=
  fComp_map (fun e=>PyData.bool (tuB n l e)) rfl (by omega) fun e he=>⟨_,rfl,callV_ok (ds:=[ordD n l,e]) rfl (r_li O (hd.2 e he))⟩
 have ea:=all_okD ec
 have hts:(ps.map prD).all (tuB n l)=true:=hts
 rw [hts] at ea
 cases ps with
 |nil=>rw [mSeq_rt (d:=.bool false) (b:=false) (β':=0) (by rw [mIf_t (orr_f (tNt_ok (tTr_b e1)) (orr_t t2))];rfl)];rfl
 |cons p ps=>
  rw [mSeq_nx (env':=[.fz (.list ((p :: ps).map prD)),.fz (ordD n l)]) (β':=0) (by rw [mIf_f (orr_f (tNt_ok (tTr_b e1)) (orr_f t2 (tNt_ok (tTr_b ea))))];rfl)]
  rw [mRet_eq,round_ok (F:=leF) (n:=n) (l:=l) (r_le n l) hz rfl rfl];rfl
theorem both_look {n:Nat}{l:List Pr}{d:D}(O:OM.Ord n l)(h:Gt d):∃b,riF [d,ordD n l]=.ok (.bool b) false/\lrF [d,ordD n l]=.ok (.bool b) false:=by
 cases q:tsB n l d with
 |false=>exact⟨false,r_riW O (r_grF h q),r_lrF O h q⟩
 |true=>
  cases d with
  |list ds=>
   obtain⟨ps,rfl,hp⟩:=ts_prs (n:=n) (l:=l) (ds:=ds) q
   exact⟨_,r_riW O (r_grT h q),r_lrT O h q⟩
  |_=>cases q
end RM

end

section
namespace RM
open PySem L2
def Sp (p:Pr):Prop:=(0<=p.1/\p.1<=8)/\(0<=p.2/\p.2<=8)
def El (e:D):Prop:=Ge e/\Sq 100 8 e/\Bf e
theorem ge_tup {es:List D}(hl:es.length<=100)(h:∀x,x∈es->isScr x=false):Ge (.tuple es):=⟨rfl,fun es' e=>by cases e;exact⟨hl,h⟩⟩
theorem el_tup {es:List D}(hl:es.length<=3)(h:∀x,x∈es->Smi x):El (.tuple es):=by
 refine⟨ge_tup (by omega) fun x hx=>(h x hx).scr,(sq_tup (c:=20) (k:=0) fun d hd=>(h d hd).sq).mono ?_ (by omega),bf_tup fun d hd=>(h d hd).bf⟩
 omega
theorem el_lst2 {es:List D}(hl:es.length<=3)(h:∀x,x∈es->Smi x):El (.list es):=by
 refine⟨⟨rfl,fun es' e=>by cases e⟩,(sq_lst (c:=20) (k:=0) fun d hd=>(h d hd).sq).mono ?_ (by omega),bf_lst fun d hd=>(h d hd).bf⟩
 omega
theorem el_pr {p:Pr}(h:Sp p):El (prD p):=el_tup (es:=[.int p.1,.int p.2]) (by simp) (two_all (smi_int (by have:=h.1;omega)) (smi_int (by have:=h.2;omega)))
def geB:D->Bool
 | .tuple es=>decide (es.length<=100) && es.all fun x=> !isScr x
 |_=>true
def oddM:List D:=[.none,.bool true,.bool false,.int (-1),.int 0,.int 1,.str "",.str "1",.tuple [],.list [],.tuple [.int 0],.tuple [.int 1,.tuple []],.list [.int 0],.dict [(.str "a",.int 1)],.tuple [.int 0,.int 1],.int 1000000000000000000000000000000000000000,.tuple [.tuple [.int 0,.int 1]],.str "a"]
theorem oddM_sq:∀x∈oddM,(x.showable=true/\x.depth<=5/\x.shown.length<=60)/\noL x=true/\isScr x=false/\geB x=true:=by decide +kernel
theorem el_odd {o:D}(h:o∈oddM):El o:=by
 obtain⟨h1,h2,h3,h4⟩:=oddM_sq o h
 refine⟨⟨h3,fun es e=>?_⟩,Sq.mono (c:=60) (k:=5) h1 (by omega) (by omega),h2⟩
 subst e
 have hb:(decide (es.length<=100) && es.all fun x=> !isScr x)=true:=h4
 rw [Bool.and_eq_true,decide_eq_true_eq,List.all_eq_true] at hb
 exact⟨hb.1,fun x hx=>by have:=hb.2 x hx;rwa [Bool.not_eq_true'] at this⟩
def Thg (d:D):Prop:=Gt d/\rpOk d=true
theorem thg_els {ds:List D}(hl:ds.length<=100)(h:∀e,e∈ds->El e):Thg (.list ds):=by
 refine⟨⟨rfl,fun es e=>by cases e;exact⟨hl,fun x hx=>(h x hx).1⟩⟩,rp_of (sq_lst (c:=100) (k:=8) fun d hd=>(h d hd).2.1) ?_ (by omega) (bf_lst fun d hd=>(h d hd).2.2)⟩
 have:(100 + 2) * ds.length<=102 * 100:=Nat.mul_le_mul_left _ hl
 omega
theorem thg_tup {ds:List D}(hl:ds.length<=100)(h:∀e,e∈ds->El e):Thg (.tuple ds):=by
 refine⟨⟨rfl,fun es e=>by cases e⟩,rp_of (sq_tup (c:=100) (k:=8) fun d hd=>(h d hd).2.1) ?_ (by omega) (bf_tup fun d hd=>(h d hd).2.2)⟩
 have:(100 + 2) * ds.length<=102 * 100:=Nat.mul_le_mul_left _ hl
 omega
theorem thg_odd {o:D}(h:o∈oddM):Thg o:=by
 obtain⟨h1,h2,h3,h4⟩:=oddM_sq o h
 refine⟨⟨h3,fun ds e=>?_⟩,rp_of (c:=60) (k:=5) h1 (by omega) (by omega) h2⟩
 subst e
 simp only [oddM,List.mem_cons,List.not_mem_nil,or_false,PyData.list.injEq,reduceCtorEq,false_or] at h
 rcases h with rfl |rfl
 ·exact⟨by simp,fun e he=>by cases he⟩
 ·exact⟨by simp,fun e he=>by rw [List.mem_singleton] at he;subst he;exact⟨rfl,fun es e=>by cases e⟩⟩
theorem sl_drop {fa fb:VF D}{vs:List Nv}{β:Int}{ds:List D}{i:Nat}(ha:fa vs β=.ok (.list ds) β)(hb:fb vs β=.ok (.int ((i:Nat):Int)) β):fSl fa (oSm fb) (fun _ β=>.ok none β) vs β=.ok (.list (ds.drop i)) β:=by
 unfold fSl oSm
 rw [ha];dsimp only [R.bnd]
 rw [hb];dsimp only [R.bnd]
 congr 2
 unfold cutD
 rw [HT.sIx_none,HT.sIx_nat]
 by_cases h:i<=ds.length
 ·rw [Nat.min_eq_left h];exact List.take_of_length_le (by rw [List.length_drop];omega)
 ·rw [Nat.min_eq_right (by omega),List.drop_length,List.drop_of_length_le (by omega)];simp
theorem sl_take' {fa fb:VF D}{vs:List Nv}{β:Int}{ds:List D}{i:Nat}(ha:fa vs β=.ok (.list ds) β)(hb:fb vs β=.ok (.int ((i:Nat):Int)) β):fSl fa (fun _ β=>.ok none β) (oSm fb) vs β=.ok (.list (ds.take i)) β:=by
 unfold fSl oSm
 rw [ha];dsimp only [R.bnd]
 rw [hb];dsimp only [R.bnd]
 congr 2
 unfold cutD
 rw [HT.sIx_none,HT.sIx_nat]
 by_cases h:i<=ds.length
 ·rw [Nat.min_eq_left h];rfl
 ·rw [Nat.min_eq_right (by omega),List.take_of_length_le (show ds.length<=i by omega)];simp
theorem thg_prs {ps:List Pr}(hl:ps.length<=100)(h:∀p,p∈ps->Sp p):Thg (.list (ps.map prD)):=thg_els (by rw [List.length_map];exact hl) fun e he=>by
 obtain⟨p,hp,rfl⟩:=List.mem_map.mp he
 exact el_pr (h p hp)
noncomputable def oddF:List D->Int->FB:=runB 2 0 (m__law_odd takeF)
theorem r_odd (β:Int):∃o β',oddF [] β=.ok o false β'/\o∈oddM:=by
 show ∃o β',finB (m__law_odd takeF [.bx,.no] β)=.ok o false β'/\o∈oddM
 unfold m__law_odd
 rw [mSeq_nx (env':=[.bx,.fz (.list (oddM.take 13))]) (β':=β) ?a]
 case a=>
  rw [mSet_eq,lp (ds:=oddM.take 13) (ac (ck _) (ac (ck _) (ac (ck _) (ac (ck _) (ac (ck _) (ac (ck _) (ac (ck _) (ac (ck _) (ac (tp an) (ac (lp an) (ac (tp (ac (ck _) an)) (ac (tp (ac (ck _) (ac (tp an) an))) (ac (lp (ac (ck _) an)) an))))))))))))) (by show (13:Nat)<=1000;omega)]
  rfl
 rw [mSeq_nx (env':=[.bx,.fz (.list oddM)]) (β':=β) ?b]
 case b=>
  rw [mSet_eq,f2_ok (x:=.list (oddM.take 13)) (y:=.list (oddM.drop 13)) (d:=.list oddM) (β1:=β) (β2:=β) rfl (lp (ds:=oddM.drop 13) (ac (ck _) (ac (tp (ac (ck _) (ac (ck _) an))) (ac pow39 (ac (tp (ac (tp (ac (ck _) (ac (ck _) an))) an)) (ac (ck _) an))))) (by show (5:Nat)<=1000;omega)) ?c]
  ·rfl
  case c=>rw [gCat_ok (by show (13 + 5:Nat)<=10000;omega)];rfl
 obtain⟨j,hj,ej⟩:=take_nat (m:=18) (by omega) (by omega) β
 have hlen:oddM.length=18:=rfl
 obtain⟨o,ho⟩:∃o,oddM[j]? =some o:=⟨_,List.getElem?_eq_getElem (by omega)⟩
 have e:f2 (gv 1) (cbV 0 takeF (aCons (cst (.int 18)) aNil)) gIx (vl [.bx,.fz (.list oddM)]) β=.ok o (β / ((18:Nat):Int)):=f2_ok (x:=.list oddM) (y:=.int j) rfl (cbV_ok (ds:=[.int 18]) (by rfl) rfl ej) (show atI oddM (j:Int)=some o from atI_nat ho)
 rw [mRet_eq,e]
 exact⟨o,_,rfl,List.mem_of_getElem? ho⟩
noncomputable def alF:List D->Int->FB:=runB 6 1 (m__law_along lturnsF leF takeF)
abbrev ae (n:Nat)(l:List Pr)(ts fs:List Pr)(s4 s5:Sl):En:=[.bx,.fz (ordD n l),.fz (.list (ts.map prD)),.ow (.list (fs.map prD)),s4,s5]
noncomputable abbrev bodyA:SF:=mSeq (mSet 5 ([] ++ [1]) (fComp 1 [1,3] (.nm 0) (fSeq (gv 2)) (tTr (callV leF (aCons (gv 1) (aCons (f2 (gv 2) (f1 (cst (.int 1)) gNeg) gIx) (aCons (gv 0) aNil))))) (gv 0)))
 (mSeq (mIf (([] ++ []) ++ (([1] ++ (([] ++ []) ++ (([] ++ []) ++ []))) ++ (([] ++ []) ++ []))) (tOrr (tBl (f2 (gv 5) (fLst aNil) (gEq false))) (tAn (tTr (callV leF (aCons (gv 1) (aCons (f2 (gv 3) (f1 (cst (.int 1)) gNeg) gIx) (aCons (f2 (gv 3) (cst (.int 0)) gIx) aNil))))) (tBl (f2 (cbV 0 takeF (aCons (cst (.int 3)) aNil)) (cst (.int 0)) gGt))))
 (mRetN 3)
 mNx)
 (mApp 3 ([] ++ ([] ++ [])) (f2 (gv 5) (cbV 0 takeF (aCons (f1 (gv 5) gLen) aNil)) gIx)))
theorem at_last {fs:List Pr}(h:fs≠ []):∃p,p∈fs/\atI (fs.map prD) (-1)=some (prD p):=by
 have hl:0 < fs.length:=List.length_pos_iff.mpr h
 have:=at_prev (ps:=fs) (i:=0) hl
 rw [if_pos rfl] at this
 refine⟨fs.getD (fs.length - 1) (0,0),?_,this⟩
 rw [List.getD_eq_getElem?_getD,List.getElem?_eq_getElem (by omega)]
 exact List.getElem_mem _
theorem r_bA {n:Nat}{l:List Pr}{ts fs:List Pr}{s4 s5:Sl}(hts:ts.length<=64)(hne:fs≠ [])(hfl:fs.length<=50)(hf:∀p,p∈fs->p∈ts)(β:Int):∃β',bodyA (ae n l ts fs s4 s5) β=.rt (.list (fs.map prD)) true β'\/∃(p:Pr) (s5':Sl),p∈ts/\bodyA (ae n l ts fs s4 s5) β=.nx (ae n l ts (fs ++ [p]) s4 s5') β':=by
 obtain⟨last,hlm,elast⟩:=at_last hne
 obtain⟨first,efirst⟩:∃p,gIx (.list (fs.map prD)) (.int 0)=some (prD p):=by
  cases fs with
  |nil=>exact absurd rfl hne
  |cons p fs=>exact⟨p,by show atI ((p :: fs).map prD) 0=_;exact atI_nat (j:=0) rfl⟩
 generalize hfit:ts.filter (fun q=>onB l last q)=fit
 have hfm:∀q,q∈fit->q∈ts:=fun q hq=>by rw [<-hfit] at hq;exact (List.mem_filter.mp hq).1
 have hfl':fit.length<=64:=by rw [<-hfit];exact Nat.le_trans (List.length_filter_le _ _) hts
 have ec:fComp 1 [1,3] (.nm 0) (fSeq (gv 2)) (tTr (callV leF (aCons (gv 1) (aCons (f2 (gv 2) (f1 (cst (.int 1)) gNeg) gIx) (aCons (gv 0) aNil))))) (gv 0) (vl (ae n l ts fs s4 s5)) β=.ok (.list (fit.map prD)) β:=by
  rw [<-hfit]
  refine fComp_filO (l:=ts) (e:=prD) (fun q=>onB l last q) prD rfl (by omega) fun q hq=>⟨_,rfl,tTr_b (callV_ok (ds:=[ordD n l,prD last,prD q]) (ac rfl (ac (f2_ok (x:=.list (fs.map prD)) (y:=.int (-1)) rfl rfl elast) (ac rfl an))) (r_le n l last q)),fun _=>rfl⟩
 unfold bodyA
 rw [mSeq_nx (env':=ae n l ts fs s4 (.fz (.list (fit.map prD)))) (β':=β) (by rw [mSet_eq,ec];rfl)]
 have t1:tBl (f2 (gv 5) (fLst aNil) (gEq false)) (vl (ae n l ts fs s4 (.fz (.list (fit.map prD))))) β=.ok (decide (fit= [])) β:=tBl_ok _ _ _ _ (f2_ok (x:=.list (fit.map prD)) (y:=.list (([]:List Pr).map prD)) rfl (lp (ds:=[]) an) (gEq_lsts false fit []))
 have t2:tTr (callV leF (aCons (gv 1) (aCons (f2 (gv 3) (f1 (cst (.int 1)) gNeg) gIx) (aCons (f2 (gv 3) (cst (.int 0)) gIx) aNil)))) (vl (ae n l ts fs s4 (.fz (.list (fit.map prD))))) β=.ok (onB l last first) β:=tTr_b (callV_ok (ds:=[ordD n l,prD last,prD first]) (ac rfl (ac (f2_ok (x:=.list (fs.map prD)) (y:=.int (-1)) rfl rfl elast) (ac (f2_ok (x:=.list (fs.map prD)) (y:=.int 0) rfl rfl efirst) an))) (r_le n l last first))
 obtain⟨j,hj,ej⟩:=take_nat (m:=3) (by omega) (by omega) β
 have t3:tBl (f2 (cbV 0 takeF (aCons (cst (.int 3)) aNil)) (cst (.int 0)) gGt) (vl (ae n l ts fs s4 (.fz (.list (fit.map prD))))) β=.ok (decide ((j:Int) > 0)) (β / ((3:Nat):Int)):=tBl_ok _ _ _ _ (f2_ok (x:=.int j) (y:=.int 0) (cbV_ok (ds:=[.int 3]) (by rfl) rfl ej) rfl rfl)
 have t:∃c β1,tOrr (tBl (f2 (gv 5) (fLst aNil) (gEq false))) (tAn (tTr (callV leF (aCons (gv 1) (aCons (f2 (gv 3) (f1 (cst (.int 1)) gNeg) gIx) (aCons (f2 (gv 3) (cst (.int 0)) gIx) aNil))))) (tBl (f2 (cbV 0 takeF (aCons (cst (.int 3)) aNil)) (cst (.int 0)) gGt))) (vl (ae n l ts fs s4 (.fz (.list (fit.map prD))))) β=.ok c β1/\(c=false->fit≠ []):=by
  by_cases q:fit= []
  ·rw [decide_eq_true q] at t1
   exact⟨true,β,orr_t t1,fun h=>by cases h⟩
  ·rw [decide_eq_false q] at t1
   rw [tOrr_eq,t1]
   show ∃c β1,tAn _ _ _ _=_/\_
   rw [tAn_eq,t2]
   cases onB l last first with
   |true=>exact⟨_,_,t3,fun _=>q⟩
   |false=>exact⟨false,β,rfl,fun _=>q⟩
 obtain⟨c,β1,t,hc⟩:=t
 cases c with
 |true=>
  refine⟨β1,.inl ?_⟩
  rw [mSeq_rt (d:=.list (fs.map prD)) (b:=true) (β':=β1) (by rw [mIf_t t];rfl)]
 |false=>
  have hfne:=hc rfl
  have hfp:1<=fit.length:=List.length_pos_iff.mpr hfne
  obtain⟨g,hg,eg⟩:=take_nat (m:=fit.length) hfp (by omega) β1
  have hgp:fit[g]? =some fit[g]:=List.getElem?_eq_getElem hg
  refine⟨β1 / (fit.length:Int),.inr ⟨fit[g],.fz (.list (fit.map prD)),hfm _ (List.getElem_mem hg),?_⟩⟩
  rw [mSeq_nx (env':=ae n l ts fs s4 (.fz (.list (fit.map prD)))) (β':=β1) (by rw [mIf_f t];rfl)]
  have e5:f2 (gv 5) (cbV 0 takeF (aCons (f1 (gv 5) gLen) aNil)) gIx (vl (ae n l ts fs s4 (.fz (.list (fit.map prD))))) β1=.ok (prD fit[g]) (β1 / (fit.length:Int)):=by
   refine f2_ok (x:=.list (fit.map prD)) (y:=.int g) (β1:=β1) rfl (cbV_ok (ds:=[.int fit.length]) (by rfl) ?_ eg) ?_
   ·refine ac ?_ an
    rw [lenL_t (ds:=fit.map prD) rfl,List.length_map]
   ·show atI (fit.map prD) (g:Int)=_
    rw [atI_map,atI_nat hgp];rfl
  rw [mApp_ok (i:=3) (ds:=fs.map prD) (d:=prD fit[g]) (β':=β1 / (fit.length:Int)) (by rfl) e5 (by rfl) (by rw [List.length_map];omega)]
  show SO.nx [.bx,.fz (ordD n l),.fz (.list (ts.map prD)),.ow (.list (fs.map prD ++ [prD fit[g]])),s4,.fz (.list (fit.map prD))] _=_
  rw [show fs.map prD ++ [prD fit[g]]=(fs ++ [fit[g]]).map prD by rw [List.map_append];rfl]
theorem r_loopA {n:Nat}{l:List Pr}{ts:List Pr}(hts:ts.length<=64):∀(ds:List D) (fs:List Pr) (s4 s5:Sl) (β:Int),fs≠ []->fs.length + ds.length<=50->(∀p,p∈fs->p∈ts)->∃(fs':List Pr) (β':Int),fs'.length<=fs.length + ds.length/\(∀p,p∈fs'->p∈ts)/\(mFor (.nm 4) bodyA ds (ae n l ts fs s4 s5) β=.rt (.list (fs'.map prD)) true β'\/∃s4' s5',mFor (.nm 4) bodyA ds (ae n l ts fs s4 s5) β=.nx (ae n l ts fs' s4' s5') β')
 | [],fs,s4,s5,β,_,_,hf=>⟨fs,β,by simp,hf,.inr ⟨s4,s5,rfl⟩⟩
 |d :: ds,fs,s4,s5,β,hne,hl,hf=>by
  rw [List.length_cons] at hl
  obtain⟨β1,h⟩:=r_bA (n:=n) (l:=l) (s4:=.fz d) (s5:=s5) hts hne (by omega) hf β
  rcases h with e | ⟨p,s5',hp,e⟩
  ·refine⟨fs,β1,by omega,hf,.inl ?_⟩
   unfold mFor
   rw [show bindE (.nm 4) d (ae n l ts fs s4 s5)=some (ae n l ts fs (.fz d) s5) from rfl]
   dsimp only
   rw [e]
  ·obtain⟨fs',β',h1,h2,h3⟩:=r_loopA hts ds (fs ++ [p]) (.fz d) s5' β1 (by simp) (by rw [List.length_append];simp;omega) (fun q hq=>by
    rcases List.mem_append.mp hq with hq |hq
    ·exact hf q hq
    ·rw [List.mem_singleton] at hq;subst hq;exact hp)
   rw [List.length_append] at h1
   simp only [List.length_cons,List.length_nil] at h1
   refine⟨fs',β',by rw [List.length_cons];omega,h2,?_⟩
   unfold mFor
   rw [show bindE (.nm 4) d (ae n l ts fs s4 s5)=some (ae n l ts fs (.fz d) s5) from rfl]
   dsimp only
   rw [e]
   exact h3
theorem r_along {n:Nat}{l:List Pr}(O:OM.Ord n l)(β:Int):∃(fs:List Pr) (β':Int),alF [ordD n l] β=.ok (.list (fs.map prD)) true β'/\fs.length<=10/\∀p,p∈fs->p∈trn n l:=by
 show ∃(fs:List Pr) (β':Int),finB (m__law_along lturnsF leF takeF [.bx,.fz (ordD n l),.no,.no,.no,.no] β)=.ok (.list (fs.map prD)) true β'/\fs.length<=10/\∀p,p∈fs->p∈trn n l
 unfold m__law_along
 have htl:=trn_len (n:=n) (l:=l) O.hi
 rw [mSeq_nx (env':=[.bx,.fz (ordD n l),.fz (.list ((trn n l).map prD)),.no,.no,.no]) (β':=β) (by rw [mSet_eq,callV_ok (ds:=[ordD n l]) (β1:=β) rfl (r_lturns O)];rfl)]
 generalize hts:trn n l=ts at htl
 have t1:tBl (f2 (gv 2) (fLst aNil) (gEq false)) (vl [.bx,.fz (ordD n l),.fz (.list (ts.map prD)),.no,.no,.no]) β=.ok (decide (ts= [])) β:=tBl_ok _ _ _ _ (f2_ok (x:=.list (ts.map prD)) (y:=.list (([]:List Pr).map prD)) rfl (lp (ds:=[]) an) (gEq_lsts false ts []))
 by_cases q:ts= []
 ·rw [decide_eq_true q] at t1
  refine⟨[],β,?_,by simp,fun p h=>by cases h⟩
  rw [mSeq_rt (d:=.list []) (b:=true) (β':=β) ?a]
  ·rfl
  case a=>
   rw [mIf_t t1,mRetW_eq]
   show toS (fLst aNil (vl [.bx,.fz (ordD n l),.fz (.list (ts.map prD)),.no,.no,.no]) β) _=_
   rw [lp (ds:=[]) an];rfl
 rw [decide_eq_false q] at t1
 rw [mSeq_nx (env':=[.bx,.fz (ordD n l),.fz (.list (ts.map prD)),.no,.no,.no]) (β':=β) (by rw [mIf_f t1];rfl)]
 have hp1:1<=ts.length:=List.length_pos_iff.mpr q
 obtain⟨g,hg,eg⟩:=take_nat (m:=ts.length) hp1 (by omega) β
 generalize hβ1:β / (ts.length:Int)=β1 at eg
 have hgp:ts[g]? =some ts[g]:=List.getElem?_eq_getElem hg
 have hgm:ts[g]∈ts:=List.getElem_mem hg
 generalize ts[g]=p0 at hgp hgm
 have e5:f2 (gv 2) (cbV 0 takeF (aCons (f1 (gv 2) gLen) aNil)) gIx (vl [.bx,.fz (ordD n l),.fz (.list (ts.map prD)),.no,.no,.no]) β=.ok (prD p0) β1:=by
  refine f2_ok (x:=.list (ts.map prD)) (y:=.int g) (β1:=β) rfl (cbV_ok (ds:=[.int ts.length]) (by rfl) ?_ eg) ?_
  ·refine ac ?_ an
   rw [lenL_t (ds:=ts.map prD) rfl,List.length_map]
  ·show atI (ts.map prD) (g:Int)=_
   rw [atI_map,atI_nat hgp];rfl
 rw [mSeq_nx (env':=ae n l ts [p0] .no .no) (β':=β1) ?b]
 case b=>
  rw [mSetO_eq,fLst_ok (ds:=[prD p0]) (β1:=β1) ?c (by simp)]
  ·rfl
  case c=>rw [aCons_eq,e5];rfl
 obtain⟨j,hj,ej⟩:=take_nat (m:=6) (by omega) (by omega) β1
 generalize hβ2:β1 / ((6:Nat):Int)=β2 at ej
 have er:fRng1 (cbV 0 takeF (aCons (cst (.int 6)) aNil)) (vl (ae n l ts [p0] .no .no)) β1=.ok (intsD 0 j) β2:=fRng1_ok (n:=j) (cbV_ok (ds:=[.int 6]) (by rfl) rfl ej) (by omega)
 obtain⟨fs',β',h1,h2,h3⟩:=r_loopA (n:=n) (l:=l) htl (intsD 0 j) [p0] .no .no β2 (by simp) (by rw [intsD_len];simp;omega) (fun p hp=>by rw [List.mem_singleton] at hp;subst hp;exact hgm)
 rw [intsD_len] at h1
 simp only [List.length_cons,List.length_nil] at h1
 refine⟨fs',β',?_,by omega,h2⟩
 have em:mForS (.nm 4) ([] ++ []) (fRng1 (cbV 0 takeF (aCons (cst (.int 6)) aNil))) bodyA (ae n l ts [p0] .no .no) β1=mFor (.nm 4) bodyA (intsD 0 j) (ae n l ts [p0] .no .no) β2:=mForS_ok (env:=ae n l ts [p0] .no .no) er
 rcases h3 with e | ⟨s4',s5',e⟩
 ·rw [mSeq_rt (em.trans e)];rfl
 ·rw [mSeq_nx (em.trans e)];rfl
end RM

end

section
namespace RM
open PySem L2
noncomputable def bentF:List D->Int->FB:=runB 10 3 (m__law_bent takeF)
abbrev be (fs:List Pr)(n:Nat)(o:D)(s4 s5 s6 s7 s8 s9:Sl):En:=[.bx,.fz (.list (fs.map prD)),.fz (.int n),.fz o,s4,s5,s6,s7,s8,s9]
def news (p q:Pr)(o:D):List (List D):=[[],[prD p,prD p],[.tuple [.int p.2,.int p.1]],[prD q],[.list [.int p.1,.int p.2]],[.tuple [.int p.1,.bool (decide (p.2=1))]],[o],[.tuple [.int p.1,.int p.2,.int 0]]]
theorem one_el {x:D}(h:El x):∀e,e∈ [x]->El e:=fun e he=>by rw [List.mem_singleton] at he;subst he;exact h
theorem news_el {p q:Pr}{o:D}(hp:Sp p)(hq:Sp q)(ho:o∈oddM):∀w,w∈news p q o->w.length<=2/\∀e,e∈w->El e:=by
 have a:=smi_int (i:=p.1) (by have:=hp.1;omega)
 have b:=smi_int (i:=p.2) (by have:=hp.2;omega)
 intro w hw
 simp only [news,List.mem_cons,List.not_mem_nil,or_false] at hw
 rcases hw with rfl |rfl |rfl |rfl |rfl |rfl |rfl |rfl
 ·exact⟨by simp,fun e he=>by cases he⟩
 ·exact⟨by simp,two_all (el_pr hp) (el_pr hp)⟩
 ·exact⟨by simp,one_el (el_tup (by simp) (two_all b a))⟩
 ·exact⟨by simp,one_el (el_pr hq)⟩
 ·exact⟨by simp,one_el (el_lst2 (by simp) (two_all a b))⟩
 ·exact⟨by simp,one_el (el_tup (by simp) (two_all a (.inr (.inl ⟨_,rfl⟩))))⟩
 ·exact⟨by simp,one_el (el_odd ho)⟩
 ·refine⟨by simp,one_el (el_tup (by simp) fun x hx=>?_)⟩
  rcases List.mem_cons.mp hx with rfl |hx
  ·exact a
  ·exact two_all b (smi_int (by omega)) x hx
def five (n:Nat)(o:D):List D:=[.list [.tuple [.int 0,.int 0]],.list [.tuple [.int 0,.int ((n:Int) - 1)]],.tuple [],.list [o],.list [.list []]]
theorem thg_five {n:Nat}{o:D}(hn:n<=8)(ho:o∈oddM):∀d,d∈five n o->Thg d:=by
 have z:=smi_int (i:=0) (by omega)
 intro d hd
 simp only [five,List.mem_cons,List.not_mem_nil,or_false] at hd
 rcases hd with rfl |rfl |rfl |rfl |rfl
 ·exact thg_els (by simp) (one_el (el_tup (by simp) (two_all z z)))
 ·exact thg_els (by simp) (one_el (el_tup (by simp) (two_all z (smi_int (by omega)))))
 ·exact thg_tup (by simp) fun e he=>by cases he
 ·exact thg_els (by simp) (one_el (el_odd ho))
 ·exact thg_els (by simp) (one_el (el_lst2 (by simp) fun e he=>by cases he))
def thr (ds:List D)(a:Nat):List D:=[.list ds.reverse,.list (ds.drop a ++ ds.take a),.tuple ds]
theorem thg_thr {ds:List D}{a:Nat}(hl:ds.length<=10)(h:∀e,e∈ds->El e):∀d,d∈thr ds a->Thg d:=by
 intro d hd
 simp only [thr,List.mem_cons,List.not_mem_nil,or_false] at hd
 rcases hd with rfl |rfl |rfl
 ·exact thg_els (by rw [List.length_reverse];omega) fun e he=>h e (List.mem_reverse.mp he)
 ·refine thg_els (by rw [List.length_append,List.length_drop,List.length_take];omega) fun e he=>?_
  rcases List.mem_append.mp he with he |he
  ·exact h e (List.mem_of_mem_drop he)
  ·exact h e (List.mem_of_mem_take he)
 ·exact thg_tup (by omega) h
theorem r_bent {fs:List Pr}{n:Nat}{o:D}(hn:n<=8)(hl:fs.length<=10)(hq:∀q,q∈fs->Sp q)(h1:fs≠ []->1<=n)(ho:o∈oddM)(β:Int):∃d b β',bentF [.list (fs.map prD),.int n,o] β=.ok d b β'/\Thg d:=by
 show ∃d b β',finB (m__law_bent takeF (be fs n o .no .no .no .no .no .no) β)=.ok d b β'/\Thg d
 unfold m__law_bent
 have t1:tBl (f2 (gv 1) (fLst aNil) (gEq false)) (vl (be fs n o .no .no .no .no .no .no)) β=.ok (decide (fs= [])) β:=tBl_ok _ _ _ _ (f2_ok (x:=.list (fs.map prD)) (y:=.list (([]:List Pr).map prD)) rfl (lp (ds:=[]) an) (gEq_lsts false fs []))
 by_cases q:fs= []
 ·rw [decide_eq_true q] at t1
  obtain⟨j,hj,ej⟩:=take_nat (m:=5) (by omega) (by omega) β
  have hlen:(five n o).length=5:=rfl
  obtain⟨d,hd⟩:∃d,(five n o)[j]? =some d:=⟨_,List.getElem?_eq_getElem (by omega)⟩
  refine⟨d,false,β / ((5:Nat):Int),?_,thg_five hn ho d (List.mem_of_getElem? hd)⟩
  rw [mSeq_rt (d:=d) (b:=false) (β':=β / ((5:Nat):Int)) ?aa]
  ·rfl
  case aa=>
   rw [mIf_t t1,mRet_eq]
   have g3:gv 3 (vl (be fs n o .no .no .no .no .no .no)) β=.ok o β:=rfl
   have sm:f2 (gv 2) (cst (.int 1)) gSubI (vl (be fs n o .no .no .no .no .no .no)) β=.ok (.int ((n:Int) - 1)) β:=f2_ok (x:=.int n) (y:=.int 1) rfl rfl rfl
   have e5:=lp (ds:=five n o) (ac (lp (ac (tp (ac (ck _) (ac (ck _) an))) an)) (ac (lp (ac (tp (ac (ck _) (ac sm an))) an)) (ac (tp an) (ac (lp (ac g3 an)) (ac (lp (ac (lp an) an)) an))))) (by show (5:Nat)<=1000;omega)
   show toS (f2 _ _ gIx (vl (be fs n o .no .no .no .no .no .no)) β) _=_
   rw [f2_ok (x:=.list (five n o)) (y:=.int j) (d:=d) (β1:=β) (β2:=β / ((5:Nat):Int)) e5 (cbV_ok (ds:=[.int 5]) (by rfl) rfl ej) (show atI (five n o) (j:Int)=some d from atI_nat hd)]
   rfl
 rw [decide_eq_false q] at t1
 rw [mSeq_nx (env':=be fs n o .no .no .no .no .no .no) (β':=β) (by rw [mIf_f t1];rfl)]
 have hp1:1<=fs.length:=List.length_pos_iff.mpr q
 obtain⟨a,ha,ea⟩:=take_nat (m:=fs.length) hp1 (by omega) β
 generalize hβ1:β / (fs.length:Int)=β1 at ea
 have hap:fs[a]? =some fs[a]:=List.getElem?_eq_getElem ha
 have ham:fs[a]∈fs:=List.getElem_mem ha
 generalize fs[a]=p at hap ham
 rw [mSeq_nx (env':=be fs n o (.fz (.int a)) .no .no .no .no .no) (β':=β1) ?bb]
 case bb=>
  rw [mSet_eq,cbV_ok (ds:=[.int fs.length]) (β1:=β) (by rfl) ?cc ea]
  ·rfl
  case cc=>
   refine ac ?_ an
   rw [lenL_t (ds:=fs.map prD) rfl,List.length_map]
 rw [mSeq_nx (env':=be fs n o (.fz (.int a)) (.fz (.int p.1)) (.fz (.int p.2)) .no .no .no) (β':=β1) ?dd]
 case dd=>
  have e:f2 (gv 1) (gv 4) gIx (vl (be fs n o (.fz (.int a)) .no .no .no .no .no)) β1=.ok (prD p) β1:=f2_ok (x:=.list (fs.map prD)) (y:=.int a) rfl rfl (by show atI (fs.map prD) (a:Int)=_;rw [atI_map,atI_nat hap];rfl)
  unfold mBind
  rw [e];rfl
 have hn1:=h1 q
 obtain⟨u,hu,eu⟩:=take_nat (m:=n) hn1 (by omega) β1
 generalize hβ2:β1 / (n:Int)=β2 at eu
 obtain⟨v,hv,ev⟩:=take_nat (m:=n) hn1 (by omega) β2
 generalize hβ3:β2 / (n:Int)=β3 at ev
 rw [mSeq_nx (env':=be fs n o (.fz (.int a)) (.fz (.int p.1)) (.fz (.int p.2)) (.fz (prD (u,v))) .no .no) (β':=β3) ?ee]
 case ee=>
  rw [mSet_eq,fTup_ok (ds:=[.int u,.int v]) (β1:=β3) ?ff (by simp)]
  ·rfl
  case ff=>
   rw [aCons_eq,cbV_ok (ds:=[.int n]) (β1:=β1) (by rfl) rfl eu]
   dsimp only [R.bnd]
   rw [aCons_eq,cbV_ok (ds:=[.int n]) (β1:=β2) (by rfl) rfl ev];rfl
 have hSq:Sp ((u:Int),(v:Int)):=⟨⟨by show (0:Int)<=u;omega,by show (u:Int)<=8;omega⟩,⟨by show (0:Int)<=v;omega,by show (v:Int)<=8;omega⟩⟩
 generalize ((u:Int),(v:Int))=r at hSq
 rw [mSeq_nx (env':=be fs n o (.fz (.int a)) (.fz (.int p.1)) (.fz (.int p.2)) (.fz (prD r)) (.fz (.list ((news p r o).map PyData.list))) .no) (β':=β3) ?gg]
 case gg=>
  have g3:gv 3 (vl (be fs n o (.fz (.int a)) (.fz (.int p.1)) (.fz (.int p.2)) (.fz (prD r)) .no .no)) β3=.ok o β3:=rfl
  have g5:gv 5 (vl (be fs n o (.fz (.int a)) (.fz (.int p.1)) (.fz (.int p.2)) (.fz (prD r)) .no .no)) β3=.ok (.int p.1) β3:=rfl
  have g6:gv 6 (vl (be fs n o (.fz (.int a)) (.fz (.int p.1)) (.fz (.int p.2)) (.fz (prD r)) .no .no)) β3=.ok (.int p.2) β3:=rfl
  have g7:gv 7 (vl (be fs n o (.fz (.int a)) (.fz (.int p.1)) (.fz (.int p.2)) (.fz (prD r)) .no .no)) β3=.ok (prD r) β3:=rfl
  rw [mSet_eq,lp (ds:=(news p r o).map PyData.list) (ac (lp an) (ac (lp (ac (tp (ac g5 (ac g6 an))) (ac (tp (ac g5 (ac g6 an))) an))) (ac (lp (ac (tp (ac g6 (ac g5 an))) an)) (ac (lp (ac g7 an)) (ac (lp (ac (lp (ac g5 (ac g6 an))) an)) (ac (lp (ac (tp (ac g5 (ac (f2_ok g6 (ck _) (gEq_int false p.2 1)) an))) an)) (ac (lp (ac g3 an)) (ac (lp (ac (tp (ac g5 (ac g6 (ac (ck _) an)))) an)) an)))))))) (by show (8:Nat)<=1000;omega)]
  show SO.nx ((frz _ (be fs n o (.fz (.int a)) (.fz (.int p.1)) (.fz (.int p.2)) (.fz (prD r)) .no .no)).set 8 _) β3=_
  rw [frz_noOw (fun i d h=>by
   rcases i with _ |_ |_ |_ |_ |_ |_ |_ |_ |_ |i <;> cases h)]
  rfl
 obtain⟨j,hj,ej⟩:=take_nat (m:=11) (by omega) (by omega) β3
 generalize hβ4:β3 / ((11:Nat):Int)=β4 at ej
 rw [mSeq_nx (env':=be fs n o (.fz (.int a)) (.fz (.int p.1)) (.fz (.int p.2)) (.fz (prD r)) (.fz (.list ((news p r o).map PyData.list))) (.fz (.int j))) (β':=β4) ?hh]
 case hh=>rw [mSet_eq,cbV_ok (ds:=[.int 11]) (β1:=β3) (by rfl) rfl ej];rfl
 generalize hen:be fs n o (.fz (.int a)) (.fz (.int p.1)) (.fz (.int p.2)) (.fz (prD r)) (.fz (.list ((news p r o).map PyData.list))) (.fz (.int j))=en
 have k1:gv 1 (vl en) β4=.ok (.list (fs.map prD)) β4:=by rw [<-hen];rfl
 have k4:gv 4 (vl en) β4=.ok (.int a) β4:=by rw [<-hen];rfl
 have k41:f2 (gv 4) (cst (.int 1)) gAddI (vl en) β4=.ok (.int ((a + 1:Nat):Int)) β4:=f2_ok (x:=.int a) (y:=.int 1) k4 rfl (by show some (PyData.int ((a:Int) + 1))=_;rw [show ((a + 1:Nat):Int)=(a:Int) + 1 by omega])
 have k8:gv 8 (vl en) β4=.ok (.list ((news p r o).map PyData.list)) β4:=by rw [<-hen];rfl
 have k9:gv 9 (vl en) β4=.ok (.int j) β4:=by rw [<-hen];rfl
 have hE:∀e,e∈fs.map prD->El e:=fun e he=>by
  obtain⟨q,h,rfl⟩:=List.mem_map.mp he
  exact el_pr (hq q h)
 have hl':(fs.map prD).length<=10:=by rw [List.length_map];exact hl
 have t2:tBl (f2 (gv 9) (cst (.int 8)) gLt) (vl en) β4=.ok (decide ((j:Int) < 8)) β4:=tBl_ok _ _ _ _ (f2_ok (x:=.int j) (y:=.int 8) k9 rfl rfl)
 have hfz:frz ([] ++ []) en=en:=rfl
 by_cases hj8:j < 8
 ·rw [decide_eq_true (show (j:Int) < 8 by omega)] at t2
  have hlen:(news p r o).length=8:=rfl
  have hw:(news p r o)[j]? =some (news p r o)[j]:=List.getElem?_eq_getElem (by omega)
  have hwm:(news p r o)[j]∈news p r o:=List.getElem_mem _
  generalize (news p r o)[j]=w at hw hwm
  obtain⟨h2,hE2⟩:=news_el (hq p ham) hSq ho w hwm
  refine⟨.list ((fs.map prD).take a ++ w ++ (fs.map prD).drop (a + 1)),true,β4,?_,thg_els ?_ ?_⟩
  ·rw [mSeq_rt (d:=.list ((fs.map prD).take a ++ w ++ (fs.map prD).drop (a + 1))) (b:=true) (β':=β4) ?ii]
   ·rfl
   case ii=>
    rw [mIf_t t2,mRetW_eq,hfz]
    have c1:=f2_ok (g:=gCat) (d:=.list ((fs.map prD).take a ++ w)) (sl_take' k1 k4) (f2_ok (g:=gIx) (d:=.list w) k8 k9 (by show atI ((news p r o).map PyData.list) (j:Int)=_;rw [atI_map,atI_nat hw];rfl)) (gCat_ok (by rw [List.length_take];omega))
    rw [f2_ok (g:=gCat) c1 (sl_drop k1 k41) (gCat_ok (by rw [List.length_append,List.length_take,List.length_drop];omega))];rfl
  ·rw [List.length_append,List.length_append,List.length_take,List.length_drop];omega
  ·intro e he
   rcases List.mem_append.mp he with he |he
   ·rcases List.mem_append.mp he with he |he
    ·exact hE e (List.mem_of_mem_take he)
    ·exact hE2 e he
   ·exact hE e (List.mem_of_mem_drop he)
 ·rw [decide_eq_false (show ¬(j:Int) < 8 by omega)] at t2
  rw [mSeq_nx (env':=en) (β':=β4) (by rw [mIf_f t2];rfl)]
  have hlen:(thr (fs.map prD) a).length=3:=rfl
  obtain⟨d,hd⟩:∃d,(thr (fs.map prD) a)[j - 8]? =some d:=⟨_,List.getElem?_eq_getElem (by omega)⟩
  refine⟨d,false,β4,?_,thg_thr hl' hE d (List.mem_of_getElem? hd)⟩
  rw [mRet_eq]
  have e3:=lp (ds:=thr (fs.map prD) a) (ac (f1_ok (g:=gRevL) k1 rfl) (ac (f2_ok (g:=gCat) (sl_drop k1 k4) (sl_take' k1 k4) (gCat_ok (by rw [List.length_drop,List.length_take];omega))) (ac (f1_ok (g:=gTuple) k1 rfl) an))) (by show (3:Nat)<=1000;omega)
  have e8:f2 (gv 9) (cst (.int 8)) gSubI (vl en) β4=.ok (.int ((j - 8:Nat):Int)) β4:=f2_ok (x:=.int j) (y:=.int 8) k9 rfl (by show some (PyData.int ((j:Int) - 8))=_;rw [show ((j - 8:Nat):Int)=(j:Int) - 8 by omega])
  rw [f2_ok (g:=gIx) e3 e8 (show atI (thr (fs.map prD) a) ((j - 8:Nat):Int)=some d from atI_nat hd)]
  rfl
end RM

end

section
namespace RM
open PySem L2
noncomputable def truF:List D->FR:=runF 2 2 m__law_truth
theorem r_tru (b:Bool):truF [.bool b,.bool b]=.ok (.bool true) false:=by cases b <;> rfl
noncomputable def lawF:List D->FR:=runF 10 1 (m_law boxF truF riF lrF anyF oddF alF bentF)
noncomputable abbrev bodyT:SF:=mSeq (mSet 9 [] (f1 (gv 8) gReprA))
 (mIf ((([8] ++ ([3] ++ [])) ++ (([8] ++ ([3] ++ [])) ++ [])) ++ ([] ++ [])) (tOrr (tNt (tTr (callV truF (aCons (callV riF (aCons (gv 8) (aCons (gv 3) aNil))) (aCons (callV lrF (aCons (gv 8) (aCons (gv 3) aNil))) aNil))))) (tBl (f2 (f1 (gv 8) gReprA) (gv 9) (gEqS true))))
 (mRet (cst (.bool false)))
 mNx)
abbrev te (ns:List Int)(k:Nat)(n:Nat)(l:List Pr)(o so:D)(s6 s7 s8 s9:Sl):En:=[.fz (scrD ns),.fz (.int k),.bx,.fz (ordD n l),.fz o,.fz so,s6,s7,s8,s9]
theorem r_bT {ns:List Int}{k n:Nat}{l:List Pr}{so o d:D}{s6 s7 s9:Sl}(O:OM.Ord n l)(h:Thg d)(β:Int):∃s9',bodyT (te ns k n l o so s6 s7 (.fz d) s9) β=.nx (te ns k n l o so s6 s7 (.fz d) s9') β:=by
 obtain⟨b,e1,e2⟩:=both_look O h.1
 have hr:gReprA d=some (.str d.shown):=if_pos h.2
 unfold bodyT
 rw [mSeq_nx (env':=te ns k n l o so s6 s7 (.fz d) (.fz (.str d.shown))) (β':=β) ?aa]
 case aa=>rw [mSet_eq,f1_ok (x:=d) (β1:=β) rfl hr];rfl
 have t1:tTr (callV truF (aCons (callV riF (aCons (gv 8) (aCons (gv 3) aNil))) (aCons (callV lrF (aCons (gv 8) (aCons (gv 3) aNil))) aNil))) (vl (te ns k n l o so s6 s7 (.fz d) (.fz (.str d.shown)))) β=.ok true β:=tTr_b (callV_ok (ds:=[.bool b,.bool b]) (ac (callV_ok (ds:=[d,ordD n l]) rfl e1) (ac (callV_ok (ds:=[d,ordD n l]) rfl e2) an)) (r_tru b))
 have t3:tBl (f2 (f1 (gv 8) gReprA) (gv 9) (gEqS true)) (vl (te ns k n l o so s6 s7 (.fz d) (.fz (.str d.shown)))) β=.ok false β:=tBl_ok _ _ _ _ (f2_ok (x:=.str d.shown) (y:=.str d.shown) (f1_ok (x:=d) rfl hr) rfl (by simp [gEqS]))
 rw [mIf_f (orr_f (tNt_ok t1) t3)]
 exact⟨_,rfl⟩
noncomputable abbrev bodyU:SF:=mApp 6 ([5] ++ (([] ++ []) ++ ([4] ++ []))) (cbV 2 bentF (aCons (gv 5) (aCons (f2 (gv 3) (cst (.int 0)) gIx) (aCons (gv 4) aNil))))
theorem r_bU {ns:List Int}{k n:Nat}{l fs:List Pr}{o:D}{ts:List D}{s7 s8 s9:Sl}(hn:n<=8)(hl:fs.length<=10)(hq:∀q,q∈fs->Sp q)(h1:fs≠ []->1<=n)(ho:o∈oddM)(ht:ts.length<=50)(β:Int):∃d β',bodyU (te ns k n l o (.list (fs.map prD)) (.ow (.list ts)) s7 s8 s9) β=.nx (te ns k n l o (.list (fs.map prD)) (.ow (.list (ts ++ [d]))) s7 s8 s9) β'/\Thg d:=by
 obtain⟨d,b,β',e,hd⟩:=r_bent hn hl hq h1 ho β
 refine⟨d,β',?_,hd⟩
 have i0:f2 (gv 3) (cst (.int 0)) gIx (vl (te ns k n l o (.list (fs.map prD)) (.ow (.list ts)) s7 s8 s9)) β=.ok (.int n) β:=f2_ok (x:=ordD n l) (y:=.int 0) rfl rfl rfl
 unfold bodyU
 rw [mApp_ok (i:=6) (ds:=ts) (d:=d) (β':=β') (by rfl) (cbV_ok (ds:=[.list (fs.map prD),.int n,o]) (β1:=β) (by rfl) (ac rfl (ac i0 (ac rfl an))) e) (by rfl) (by omega)]
 rfl
def l5 (fs gs:List Pr)(o:D):List D:=[.list (fs.map prD),o,.list [],.list (gs.map prD),.list (fs.map prD ++ fs.map prD)]
theorem thg_l5 {fs gs:List Pr}{o:D}(hl:fs.length<=10)(hq:∀q,q∈fs->Sp q)(hl':gs.length<=10)(hq':∀q,q∈gs->Sp q)(ho:o∈oddM):∀d,d∈l5 fs gs o->Thg d:=by
 have hE:∀e,e∈fs.map prD->El e:=fun e he=>by
  obtain⟨q,h,rfl⟩:=List.mem_map.mp he
  exact el_pr (hq q h)
 intro d hd
 simp only [l5,List.mem_cons,List.not_mem_nil,or_false] at hd
 rcases hd with rfl |rfl |rfl |rfl |rfl
 ·exact thg_prs (by omega) hq
 ·exact thg_odd ho
 ·exact thg_els (by simp) fun e he=>by cases he
 ·exact thg_prs (by omega) hq'
 ·refine thg_els (by rw [List.length_append,List.length_map];omega) fun e he=>?_
  rcases List.mem_append.mp he with he |he <;> exact hE e he
noncomputable abbrev bodyL:SF:=mSeq (mSetB 2 ([0] ++ ([1] ++ [])) (callW boxF (aCons (gv 0) (aCons (gv 1) aNil))))
 (mSeq (mSet 3 ([] ++ []) (cbV 2 anyF (aCons (cst (.int 8)) aNil)))
 (mSeq (mSet 4 [] (cbV 2 oddF aNil))
 (mSeq (mSet 5 ([3] ++ []) (cbV 2 alF (aCons (gv 3) aNil)))
 (mSeq (mSetO 6 ([5] ++ ([4] ++ ([] ++ (([3] ++ []) ++ (([] ++ []) ++ []))))) (fLst (aCons (gv 5) (aCons (gv 4) (aCons (fLst aNil) (aCons (cbV 2 alF (aCons (gv 3) aNil)) (aCons (f2 (gv 5) (gv 5) gCat) aNil)))))))
 (mSeq (mForS (.nm 7) [] (fRng1 (cst (.int 4))) bodyU)
 (mForS (.nm 8) [6] (fSeq (gv 6)) bodyT))))))
theorem r_bL (ns:List Int)(i:Nat)(s2 s3 s4 s5 s6 s7 s8 s9:Sl)(β:Int):∃t2 t3 t4 t5 t6 t7 t8 t9 β',bodyL [.fz (scrD ns),.fz (.int i),s2,s3,s4,s5,s6,s7,s8,s9] β=.nx [.fz (scrD ns),.fz (.int i),t2,t3,t4,t5,t6,t7,t8,t9] β':=by
 obtain⟨z,ez⟩:=r_box ns i
 obtain⟨t3,t4,t5,t6,t7,t8,t9,hcl⟩:∃t3 t4 t5 t6 t7 t8 t9:Sl,(clrB (frz ([0] ++ ([1] ++ [])) [.fz (scrD ns),.fz (.int i),s2,s3,s4,s5,s6,s7,s8,s9])).set 2 .bx= [.fz (scrD ns),.fz (.int i),.bx,t3,t4,t5,t6,t7,t8,t9]:=⟨_,_,_,_,_,_,_,rfl⟩
 unfold bodyL
 rw [mSeq_nx (env':=[.fz (scrD ns),.fz (.int i),.bx,t3,t4,t5,t6,t7,t8,t9]) (β':=z) ?g1]
 case g1=>
  unfold mSetB
  rw [callW_ok (ds:=[scrD ns,.int i]) (β1:=β) rfl ez]
  show SO.nx _ z=_
  rw [<-hcl]
 obtain⟨n,l,β1,eo,O⟩:=r_any z
 rw [mSeq_nx (env':=[.fz (scrD ns),.fz (.int i),.bx,.fz (ordD n l),t4,t5,t6,t7,t8,t9]) (β':=β1) ?g2]
 case g2=>rw [mSet_eq,cbV_ok (ds:=[.int 8]) (β1:=z) (by rfl) rfl eo];rfl
 obtain⟨o,β2,eod,ho⟩:=r_odd β1
 rw [mSeq_nx (env':=[.fz (scrD ns),.fz (.int i),.bx,.fz (ordD n l),.fz o,t5,t6,t7,t8,t9]) (β':=β2) ?g3]
 case g3=>rw [mSet_eq,cbV_ok (ds:=[]) (β1:=β1) (by rfl) rfl eod];rfl
 obtain⟨fs,β3,ea,hfl,hfm⟩:=r_along O β2
 obtain⟨gs,β4,eb,hgl,hgm⟩:=r_along O β3
 have hn8:=O.hi
 have toSp:∀q,q∈trn n l->Sp q:=fun q hq=>by
  have:=(mem_trn.mp hq).1
  exact⟨⟨this.1.1,by omega⟩,⟨this.2.1,by omega⟩⟩
 have hSf:∀q,q∈fs->Sp q:=fun q hq=>toSp q (hfm q hq)
 have hSg:∀q,q∈gs->Sp q:=fun q hq=>toSp q (hgm q hq)
 have h1:fs≠ []->1<=n:=fun h=>by
  obtain⟨q,hq⟩:=List.exists_mem_of_ne_nil fs h
  have:=(mem_trn.mp (hfm q hq)).1
  omega
 rw [mSeq_nx (env':=te ns i n l o (.list (fs.map prD)) t6 t7 t8 t9) (β':=β3) ?g4]
 case g4=>rw [mSet_eq,cbV_ok (ds:=[ordD n l]) (β1:=β2) (by rfl) rfl ea];rfl
 rw [mSeq_nx (env':=te ns i n l o (.list (fs.map prD)) (.ow (.list (l5 fs gs o))) t7 t8 t9) (β':=β4) ?g5]
 case g5=>
  have hcat:∀b:Int,f2 (gv 5) (gv 5) gCat (vl (te ns i n l o (.list (fs.map prD)) t6 t7 t8 t9)) b=.ok (.list (fs.map prD ++ fs.map prD)) b:=fun b=>f2_ok (x:=.list (fs.map prD)) (y:=.list (fs.map prD)) rfl rfl (gCat_ok (by rw [List.length_map];omega))
  rw [mSetO_eq,fLst_ok (ds:=l5 fs gs o) (β1:=β4) ?g6 (by show (5:Nat)<=1000;omega)]
  ·rfl
  case g6=>
   rw [aCons_eq,show gv 5 (vl (te ns i n l o (.list (fs.map prD)) t6 t7 t8 t9)) β3=.ok (.list (fs.map prD)) β3 from rfl]
   dsimp only [R.bnd]
   rw [aCons_eq,show gv 4 (vl (te ns i n l o (.list (fs.map prD)) t6 t7 t8 t9)) β3=.ok o β3 from rfl]
   dsimp only [R.bnd]
   rw [aCons_eq,lp (ds:=[]) an]
   dsimp only [R.bnd]
   rw [aCons_eq,cbV_ok (ds:=[ordD n l]) (β1:=β3) (by rfl) rfl eb]
   dsimp only [R.bnd]
   rw [ac (hcat β4) an]
   rfl
 have er:fRng1 (cst (.int 4)) (vl (te ns i n l o (.list (fs.map prD)) (.ow (.list (l5 fs gs o))) t7 t8 t9)) β4=.ok (intsD 0 4) β4:=fRng1_ok (n:=4) rfl (by omega)
 obtain⟨env',β5,ef,ts,u7,rfl,htl,htm⟩:=mFor_inv (t:=.nm 7) (m:=bodyU) (ds:=intsD 0 4) (k:=0)
  (fun j env _=>∃(ts:List D) (u7:Sl),env=te ns i n l o (.list (fs.map prD)) (.ow (.list ts)) u7 t8 t9/\ts.length<=5 + j/\∀d,d∈ts->Thg d)
  (env:=te ns i n l o (.list (fs.map prD)) (.ow (.list (l5 fs gs o))) t7 t8 t9) (β:=β4) ⟨l5 fs gs o,t7,rfl,by show (5:Nat)<=5 + 0;omega,thg_l5 hfl hSf hgl hSg ho⟩ (by
   rintro j d env β hj ⟨ts,u7,rfl,htl,htm⟩
   have hj4:j < 4:=by have:=(List.getElem?_eq_some_iff.mp hj).1;rwa [intsD_len] at this
   obtain⟨x,β',e,hx⟩:=r_bU (ns:=ns) (k:=i) (l:=l) (s7:=.fz d) (s8:=t8) (s9:=t9) hn8 hfl hSf h1 ho (show ts.length<=50 by omega) β
   refine⟨te ns i n l o (.list (fs.map prD)) (.ow (.list ts)) (.fz d) t8 t9,rfl,_,_,e,ts ++ [x],.fz d,rfl,by rw [List.length_append];simp;omega,fun y hy=>?_⟩
   rcases List.mem_append.mp hy with hy |hy
   ·exact htm y hy
   ·rw [List.mem_singleton] at hy;subst hy;exact hx)
 rw [mSeq_nx (env':=te ns i n l o (.list (fs.map prD)) (.ow (.list ts)) u7 t8 t9) (β':=β5) ?g7]
 case g7=>
  rw [mForS_ok (env:=te ns i n l o (.list (fs.map prD)) (.ow (.list (l5 fs gs o))) t7 t8 t9) (ds:=intsD 0 4) (β1:=β4) er]
  exact ef
 obtain⟨env',β',ef2,u8,u9,rfl⟩:=mFor_inv (t:=.nm 8) (m:=bodyT) (ds:=ts) (k:=0)
  (fun _ env _=>∃u8 u9:Sl,env=te ns i n l o (.list (fs.map prD)) (.fz (.list ts)) u7 u8 u9) (env:=te ns i n l o (.list (fs.map prD)) (.fz (.list ts)) u7 t8 t9) (β:=β5) ⟨t8,t9,rfl⟩ (by
   rintro j d env β hj ⟨u8,u9,rfl⟩
   obtain⟨v9,e⟩:=r_bT (ns:=ns) (k:=i) (so:=.list (fs.map prD)) (o:=o) (s6:=.fz (.list ts)) (s7:=u7) (s9:=u9) O (htm d (List.mem_of_getElem? hj)) β
   exact⟨te ns i n l o (.list (fs.map prD)) (.fz (.list ts)) u7 (.fz d) u9,rfl,_,_,e,_,_,rfl⟩)
 refine⟨.bx,.fz (ordD n l),.fz o,.fz (.list (fs.map prD)),.fz (.list ts),u7,u8,u9,β',?_⟩
 rw [mForS_ok (env:=te ns i n l o (.list (fs.map prD)) (.ow (.list ts)) u7 t8 t9) (ds:=ts) (β1:=β5) rfl]
 exact ef2
theorem r_law (ns:List Int):lawF [scrD ns]=.ok (.bool true) false:=by
 show fin (m_law boxF truF riF lrF anyF oddF alF bentF [.fz (scrD ns),.no,.no,.no,.no,.no,.no,.no,.no,.no] 0)=_
 unfold m_law
 obtain⟨m,hm4,em⟩:∃m:Nat,m<=4/\f2 (cst (.int 1)) (f2 (f1 (gv 0) gLen) (cst (.int 4)) (gI0 fun i j=>.int (if j < i then j else i))) (gI0 fun i j=>.int (if j > i then j else i)) (vl [.fz (scrD ns),.no,.no,.no,.no,.no,.no,.no,.no,.no]) 0=.ok (.int (m:Nat)) 0:=by
  have e1:f2 (cst (.int 1)) (f2 (f1 (gv 0) gLen) (cst (.int 4)) (gI0 fun i j=>.int (if j < i then j else i))) (gI0 fun i j=>.int (if j > i then j else i)) (vl [.fz (scrD ns),.no,.no,.no,.no,.no,.no,.no,.no,.no]) 0=.ok (.int (if (if (4:Int) < ((ns.map PyData.int).length:Int) then (4:Int) else ((ns.map PyData.int).length:Int)) > 1 then (if (4:Int) < ((ns.map PyData.int).length:Int) then (4:Int) else ((ns.map PyData.int).length:Int)) else 1)) 0:=rfl
  rw [e1]
  generalize ((ns.map PyData.int).length:Nat)=k
  refine⟨(if (if (4:Int) < (k:Int) then (4:Int) else (k:Int)) > 1 then (if (4:Int) < (k:Int) then (4:Int) else (k:Int)) else 1).toNat,?_,?_⟩
  ·split <;> split <;> omega
  ·congr 2
   split <;> split <;> omega
 obtain⟨env',β',ef,s1,s2,s3,s4,s5,s6,s7,s8,s9,rfl⟩:=mFor_inv (t:=.nm 1) (m:=bodyL) (ds:=intsD 0 m) (k:=0)
  (fun _ env _=>∃s1 s2 s3 s4 s5 s6 s7 s8 s9:Sl,env= [.fz (scrD ns),s1,s2,s3,s4,s5,s6,s7,s8,s9])
  (env:=[.fz (scrD ns),.no,.no,.no,.no,.no,.no,.no,.no,.no]) (β:=0) ⟨.no,.no,.no,.no,.no,.no,.no,.no,.no,rfl⟩ (by
   rintro i d env β hi ⟨s1,s2,s3,s4,s5,s6,s7,s8,s9,rfl⟩
   obtain⟨hin,rfl⟩:=intsD_at hi
   rw [Int.zero_add]
   refine⟨[.fz (scrD ns),.fz (.int i),s2,s3,s4,s5,s6,s7,s8,s9],rfl,?_⟩
   obtain⟨t2,t3,t4,t5,t6,t7,t8,t9,β',e⟩:=r_bL ns i s2 s3 s4 s5 s6 s7 s8 s9 β
   exact⟨_,_,e,_,_,_,_,_,_,_,_,_,rfl⟩)
 rw [mSeq_nx (env':=[.fz (scrD ns),s1,s2,s3,s4,s5,s6,s7,s8,s9]) (β':=β') ?z]
 ·rfl
 case z=>
  rw [mForS_ok (env:=[.fz (scrD ns),.no,.no,.no,.no,.no,.no,.no,.no,.no]) (ds:=intsD 0 m) (β1:=0) (fRng1_ok (n:=m) em (by omega))]
  exact ef
end RM

end

section
namespace RQ
open PySem L2 RM
def top (i:Nat):Stmt:=PySem.Challenge.pw_rowsorder_k24_rings_looked_at.main.body.getD i (.Pass ⟨0,0,0,0⟩)
section
variable {P:Program}{w:World}{K:PySem.W.Frag}{mg:Str->Option Value}{base:Heap}{ca:Str->Addr}
abbrev s_is_whole:Stmt:=top 2
theorem sc_is_whole:FnScope ["thing"] ["thing"] (defScope s_is_whole):=⟨rfl,rfl,rfl,by decide +kernel,rfl,by decide +kernel,by decide +kernel⟩
theorem has_is_whole {f:Addr}{fd:FuncData}(F:FnK K mg "is_whole" s_is_whole ["thing"] f fd)(B:BtK mg):Has P w K mg base ca "is_whole" ["thing"] 1 (runF 1 1 (m_is_whole)):=
 ⟨⟨f,fd,F.mg,F.F.kp,F.b,fn_pure (N:=["thing"]) (k:=0) F.F sc_is_whole fun cdv A outer s H G E hr=>
  (@ss_one _ _ _ _ _ (ss_ret (se_and (se_isi "int" (by decide) rfl rfl B.isinstance rfl B.int (by decide +kernel) (se_nb 0)) (se_one (se_not (se_isi "bool" (by decide) rfl rfl B.isinstance rfl B.bool (by decide +kernel) (se_nb 0)))) (fun _ _=>rfl))))⟩,fun ds h=>runF_len ds h⟩
abbrev s_is_below:Stmt:=top 3
theorem sc_is_below:FnScope ["thing","bound"] ["thing","bound"] (defScope s_is_below):=⟨rfl,rfl,rfl,by decide +kernel,rfl,by decide +kernel,by decide +kernel⟩
theorem has_is_below {f:Addr}{fd:FuncData}{F_is_whole:List D->FR}(F:FnK K mg "is_below" s_is_below ["thing","bound"] f fd)(B:BtK mg)(h_is_whole:Has P w K mg base ca "is_whole" ["thing"] 1 F_is_whole):Has P w K mg base ca "is_below" ["thing","bound"] 2 (runF 2 2 (m_is_below F_is_whole)):=
 ⟨⟨f,fd,F.mg,F.F.kp,F.b,fn_pure (N:=["thing","bound"]) (k:=1) F.F sc_is_below fun cdv A outer s H G E hr=>
  (@ss_one _ _ _ _ _ (ss_ret (se_and (se_call h_is_whole (hr.mono (by decide)) passR rfl rfl (sa_cons (se_nv 0 rfl) sa_nil)) (se_one (se_chain op_le op_lt p_le p_lt se_int (se_nb 0) (se_nb 1))) (fun _ _=>rfl))))⟩,fun ds h=>runF_len ds h⟩
abbrev s_is_many:Stmt:=top 4
theorem sc_is_many:FnScope ["thing"] ["thing"] (defScope s_is_many):=⟨rfl,rfl,rfl,by decide +kernel,rfl,by decide +kernel,by decide +kernel⟩
theorem has_is_many {f:Addr}{fd:FuncData}{F_is_whole:List D->FR}(F:FnK K mg "is_many" s_is_many ["thing"] f fd)(B:BtK mg)(h_is_whole:Has P w K mg base ca "is_whole" ["thing"] 1 F_is_whole){t_MOST_THINGS:Tok}(c_MOST_THINGS:mg "MOST_THINGS"=some (.int 8 t_MOST_THINGS)):Has P w K mg base ca "is_many" ["thing"] 2 (runF 1 1 (m_is_many F_is_whole)):=
 ⟨⟨f,fd,F.mg,F.F.kp,F.b,fn_pure (N:=["thing"]) (k:=1) F.F sc_is_many fun cdv A outer s H G E hr=>
  (@ss_one _ _ _ _ _ (ss_ret (se_and (se_call h_is_whole (hr.mono (by decide)) passR rfl rfl (sa_cons (se_nv 0 rfl) sa_nil)) (se_one (se_chain op_le op_le p_le p_le se_int (se_nb 0) (se_gint (by rfl) c_MOST_THINGS))) (fun _ _=>rfl))))⟩,fun ds h=>runF_len ds h⟩
abbrev s_is_pair:Stmt:=top 5
theorem sc_is_pair:FnScope ["thing","many"] ["thing","many"] (defScope s_is_pair):=⟨rfl,rfl,rfl,by decide +kernel,rfl,by decide +kernel,by decide +kernel⟩
theorem has_is_pair {f:Addr}{fd:FuncData}{F_is_below:List D->FR}(F:FnK K mg "is_pair" s_is_pair ["thing","many"] f fd)(B:BtK mg)(h_is_below:Has P w K mg base ca "is_below" ["thing","bound"] 2 F_is_below):Has P w K mg base ca "is_pair" ["thing","many"] 3 (runF 2 2 (m_is_pair F_is_below)):=
 ⟨⟨f,fd,F.mg,F.F.kp,F.b,fn_pure (N:=["thing","many"]) (k:=2) F.F sc_is_pair fun cdv A outer s H G E hr=>
  (@ss_cons _ _ _ _ _ _ _ (ss_if (STw.t (sw_or (st_not (st_val rfl (se_isi "tuple" (by decide) rfl rfl B.isinstance rfl B.tuple (by decide +kernel) (se_nb 0)))) (sw_or1 (st_cmp (op_neD hr.units) p_eq (se_call1 call_len p_len rfl B.len PySem.boot_len (se_nb 0)) se_int (nomark _))) (fun _ _=>rfl)))
  (@ss_one _ _ _ _ _ (ss_ret se_bl))
  ss_nil)
  (@ss_one _ _ _ _ _ (ss_ret (se_and (se_call h_is_below (hr.mono (by decide)) passR rfl rfl (sa_cons (se_ix ix_seq p_ix (se_nb 0) se_int (fun _ _=>rfl)) (sa_cons (se_nv 1 rfl) sa_nil))) (se_one (se_call h_is_below (hr.mono (by decide)) passR rfl rfl (sa_cons (se_ix ix_seq p_ix (se_nb 0) se_int (fun _ _=>rfl)) (sa_cons (se_nv 1 rfl) sa_nil)))) (fun _ _=>rfl)))))⟩,fun ds h=>runF_len ds h⟩
abbrev s_every_pair:Stmt:=top 6
theorem sc_every_pair:FnScope ["many"] ["many"] (defScope s_every_pair):=⟨rfl,rfl,rfl,by decide +kernel,rfl,by decide +kernel,by decide +kernel⟩
theorem has_every_pair {f:Addr}{fd:FuncData}(F:FnK K mg "every_pair" s_every_pair ["many"] f fd)(B:BtK mg):Has P w K mg base ca "every_pair" ["many"] 1 (runF 1 1 (m_every_pair)):=
 ⟨⟨f,fd,F.mg,F.F.kp,F.b,fn_pure (N:=["many"]) (k:=0) F.F sc_every_pair fun cdv A outer s H G E hr=>
  (@ss_one _ _ _ _ _ (ss_retW (se_comp (NB:=["number","many"]) (own:=1) (ixs:=[0]) [] rfl (cScope (by kernel_rfl)) (fun _ _=>rfl) (si_r1 rfl B.range (se_op op_mul p_mulI (se_nb 0) (se_nb 0))) (fun H0 G0 par br bx C ex s3 H3 pn=>(sg_nm (i:=0) (show (["number","many"]:List Str).Nodup by decide +kernel))) (fun H0 G0 par br bx C ex s3 H3 pn hB1=>sts_nil) (fun H0 G0 par br bx C ex s3 H3 pn hB1=>(se_tup (sa_cons (se_op op_fdiv p_fd (se_nb 0) (se_nb 1)) (sa_cons (se_op op_mod p_mod (se_nb 0) (se_nb 1)) sa_nil)))))))⟩,fun ds h=>runF_len ds h⟩
abbrev s_has_ring:Stmt:=top 13
theorem sc_has_ring:FnScope ["pairs"] ["pairs"] (defScope s_has_ring):=⟨rfl,rfl,rfl,by decide +kernel,rfl,by decide +kernel,by decide +kernel⟩
theorem has_has_ring {f:Addr}{fd:FuncData}(F:FnK K mg "has_ring" s_has_ring ["pairs"] f fd)(B:BtK mg):Has P w K mg base ca "has_ring" ["pairs"] 1 (runF 1 1 (m_has_ring)):=
 ⟨⟨f,fd,F.mg,F.F.kp,F.b,fn_pure (N:=["pairs"]) (k:=0) F.F sc_has_ring fun cdv A outer s H G E hr=>
  (@ss_one _ _ _ _ _ (ss_ret (se_call1 (call_any rfl) p_bools rfl B.any (by decide +kernel) (se_comp (NB:=["a","b"]) (own:=2) (ixs:=[]) [] rfl (cScope (by kernel_rfl)) (fun _ _=>rfl) (si_b rfl (se_nb 0)) (fun H0 G0 par br bx C ex s3 H3 pn=>(sg_two (i:=0) (j:=1) (show (["a","b"]:List Str).Nodup by decide +kernel))) (fun H0 G0 par br bx C ex s3 H3 pn hB1=>sts_nil) (fun H0 G0 par br bx C ex s3 H3 pn hB1=>(se_cmp (op_eqD hr.units) p_eq (se_nb 0) (se_nb 1) (nomark _)))))))⟩,fun ds h=>runF_len ds h⟩
abbrev s_is_order:Stmt:=top 11
theorem sc_is_order:FnScope ["thing","many","pairs"] ["thing"] (defScope s_is_order):=⟨rfl,rfl,rfl,by decide +kernel,rfl,by decide +kernel,by decide +kernel⟩
theorem has_is_order {f:Addr}{fd:FuncData}{F_is_many F_is_pair F_closed F_has_ring:List D->FR}(F:FnK K mg "is_order" s_is_order ["thing"] f fd)(B:BtK mg)(h_is_many:Has P w K mg base ca "is_many" ["thing"] 2 F_is_many)(h_is_pair:Has P w K mg base ca "is_pair" ["thing","many"] 3 F_is_pair)(h_closed:Has P w K mg base ca "closed" ["many","pairs"] 3 F_closed)(h_has_ring:Has P w K mg base ca "has_ring" ["pairs"] 1 F_has_ring):Has P w K mg base ca "is_order" ["thing"] 4 (runF 3 1 (m_is_order F_is_many F_is_pair F_closed F_has_ring)):=
 ⟨⟨f,fd,F.mg,F.F.kp,F.b,fn_pure (N:=["thing","many","pairs"]) (k:=3) F.F sc_is_order fun cdv A outer s H G E hr=>
  (@ss_cons _ _ _ _ _ _ _ (ss_if (STw.t (sw_or (st_not (st_val rfl (se_isi "tuple" (by decide) rfl rfl B.isinstance rfl B.tuple (by decide +kernel) (se_nb 0)))) (sw_or1 (st_cmp (op_neD hr.units) p_eq (se_call1 call_len p_len rfl B.len PySem.boot_len (se_nb 0)) se_int (nomark _))) (fun _ _=>rfl)))
  (@ss_one _ _ _ _ _ (ss_ret se_bl))
  ss_nil)
  (@ss_cons _ _ _ _ _ _ _ (ss_set (i:=1) (se_ix ix_seq p_ix (se_nb 0) se_int (fun _ _=>rfl)) sc_is_order.nd)
  (@ss_cons _ _ _ _ _ _ _ (ss_set (i:=2) (se_ix ix_seq p_ix (se_nb 0) se_int (fun _ _=>rfl)) sc_is_order.nd)
  (@ss_cons _ _ _ _ _ _ _ (ss_if (STw.t (sw_or (st_not (st_val rfl (se_call h_is_many (hr.mono (by decide)) passR rfl rfl (sa_cons (se_nv 1 rfl) sa_nil)))) (sw_or1 (st_not (st_val rfl (se_isi "tuple" (by decide) rfl rfl B.isinstance rfl B.tuple (by decide +kernel) (se_nb 2))))) (fun _ _=>rfl)))
  (@ss_one _ _ _ _ _ (ss_ret se_bl))
  ss_nil)
  (@ss_cons _ _ _ _ _ _ _ (ss_if (st_not (st_val rfl (se_call1 (call_all rfl) p_bools rfl B.all (by decide +kernel) (se_comp (NB:=["pair","many"]) (own:=1) (ixs:=[1]) [1] rfl (cScope (by kernel_rfl)) (fun _ _=>rfl) (si_b rfl (se_nb 2)) (fun H0 G0 par br bx C ex s3 H3 pn=>(sg_nm (i:=0) (show (["pair","many"]:List Str).Nodup by decide +kernel))) (fun H0 G0 par br bx C ex s3 H3 pn hB1=>sts_nil) (fun H0 G0 par br bx C ex s3 H3 pn hB1=>(se_call h_is_pair (hr.mono (by decide)) passB rfl rfl (sa_cons (se_nv 0 (hB1 0 (by decide))) (sa_cons (se_nv 1 (hB1 1 (by decide))) sa_nil))))))))
  (@ss_one _ _ _ _ _ (ss_ret se_bl))
  ss_nil)
  (@ss_one _ _ _ _ _ (ss_ret (se_and (se_cmp (op_eqD hr.units) p_eq (se_nb 2) (se_call h_closed (hr.mono (by decide)) passR rfl rfl (sa_cons (se_nv 1 rfl) (sa_cons (se_nv 2 rfl) sa_nil))) (nomark _)) (se_one (se_not (se_call h_has_ring (hr.mono (by decide)) passR rfl rfl (sa_cons (se_nv 2 rfl) sa_nil)))) (fun _ _=>rfl)))))))))⟩,fun ds h=>runF_len ds h⟩
abbrev s_need_order:Stmt:=top 14
theorem sc_need_order:FnScope ["thing"] ["thing"] (defScope s_need_order):=⟨rfl,rfl,rfl,by decide +kernel,rfl,by decide +kernel,by decide +kernel⟩
theorem has_need_order {f:Addr}{fd:FuncData}{F_is_order:List D->FR}(F:FnK K mg "need_order" s_need_order ["thing"] f fd)(B:BtK mg)(h_is_order:Has P w K mg base ca "is_order" ["thing"] 4 F_is_order)(e_NoOrder:Exc K mg ca "NoOrder"):Has P w K mg base ca "need_order" ["thing"] 5 (runF 1 1 (m_need_order F_is_order)):=
 ⟨⟨f,fd,F.mg,F.F.kp,F.b,fn_pure (N:=["thing"]) (k:=4) F.F sc_need_order fun cdv A outer s H G E hr=>
  (@ss_one _ _ _ _ _ (ss_if (st_not (st_val rfl (se_call h_is_order (hr.mono (by decide)) passR rfl rfl (sa_cons (se_nv 0 rfl) sa_nil))))
  (@ss_one _ _ _ _ _ (ss_raise e_NoOrder.ex e_NoOrder.ca rfl e_NoOrder.mg (sa_cons se_str sa_nil)))
  ss_nil))⟩,fun ds h=>runF_len ds h⟩
abbrev s_are_apart:Stmt:=top 15
theorem sc_are_apart:FnScope ["order","a","b"] ["order","a","b"] (defScope s_are_apart):=⟨rfl,rfl,rfl,by decide +kernel,rfl,by decide +kernel,by decide +kernel⟩
theorem has_are_apart {f:Addr}{fd:FuncData}(F:FnK K mg "are_apart" s_are_apart ["order","a","b"] f fd)(B:BtK mg):Has P w K mg base ca "are_apart" ["order","a","b"] 1 (runF 3 3 (m_are_apart)):=
 ⟨⟨f,fd,F.mg,F.F.kp,F.b,fn_pure (N:=["order","a","b"]) (k:=0) F.F sc_are_apart fun cdv A outer s H G E hr=>
  (@ss_one _ _ _ _ _ (ss_ret (se_and (se_cmp (op_neD hr.units) p_eq (se_nb 1) (se_nb 2) (nomark _)) (se_and (se_cmp (op_notInD hr.u1) p_in (se_tup (sa_cons (se_nv 1 rfl) (sa_cons (se_nv 2 rfl) sa_nil))) (se_ix ix_seq p_ix (se_nb 0) se_int (fun _ _=>rfl)) (by with_unfolding_all rfl)) (se_one (se_cmp (op_notInD hr.u1) p_in (se_tup (sa_cons (se_nv 2 rfl) (sa_cons (se_nv 1 rfl) sa_nil))) (se_ix ix_seq p_ix (se_nb 0) se_int (fun _ _=>rfl)) (by with_unfolding_all rfl))) (fun _ _=>rfl)) (fun _ _=>rfl))))⟩,fun ds h=>runF_len ds h⟩
abbrev s_is_turn:Stmt:=top 17
theorem sc_is_turn:FnScope ["thing","order"] ["thing","order"] (defScope s_is_turn):=⟨rfl,rfl,rfl,by decide +kernel,rfl,by decide +kernel,by decide +kernel⟩
theorem has_is_turn {f:Addr}{fd:FuncData}{F_is_pair F_are_apart:List D->FR}(F:FnK K mg "is_turn" s_is_turn ["thing","order"] f fd)(B:BtK mg)(h_is_pair:Has P w K mg base ca "is_pair" ["thing","many"] 3 F_is_pair)(h_are_apart:Has P w K mg base ca "are_apart" ["order","a","b"] 1 F_are_apart):Has P w K mg base ca "is_turn" ["thing","order"] 4 (runF 2 2 (m_is_turn F_is_pair F_are_apart)):=
 ⟨⟨f,fd,F.mg,F.F.kp,F.b,fn_pure (N:=["thing","order"]) (k:=3) F.F sc_is_turn fun cdv A outer s H G E hr=>
  (@ss_one _ _ _ _ _ (ss_ret (se_and (se_call h_is_pair (hr.mono (by decide)) passR rfl rfl (sa_cons (se_nv 0 rfl) (sa_cons (se_ix ix_seq p_ix (se_nb 1) se_int (fun _ _=>rfl)) sa_nil))) (se_one (se_call h_are_apart (hr.mono (by decide)) passR rfl rfl (sa_cons (se_nv 1 rfl) (sa_cons (se_ix ix_seq p_ix (se_nb 0) se_int (fun _ _=>rfl)) (sa_cons (se_ix ix_seq p_ix (se_nb 0) se_int (fun _ _=>rfl)) sa_nil))))) (fun _ _=>rfl))))⟩,fun ds h=>runF_len ds h⟩
abbrev s_are_turns:Stmt:=top 18
theorem sc_are_turns:FnScope ["thing","order"] ["thing","order"] (defScope s_are_turns):=⟨rfl,rfl,rfl,by decide +kernel,rfl,by decide +kernel,by decide +kernel⟩
theorem has_are_turns {f:Addr}{fd:FuncData}{F_is_turn:List D->FR}(F:FnK K mg "are_turns" s_are_turns ["thing","order"] f fd)(B:BtK mg)(h_is_turn:Has P w K mg base ca "is_turn" ["thing","order"] 4 F_is_turn):Has P w K mg base ca "are_turns" ["thing","order"] 5 (runF 2 2 (m_are_turns F_is_turn)):=
 ⟨⟨f,fd,F.mg,F.F.kp,F.b,fn_pure (N:=["thing","order"]) (k:=4) F.F sc_are_turns fun cdv A outer s H G E hr=>
  (@ss_one _ _ _ _ _ (ss_ret (se_and (se_isi "list" (by decide) rfl rfl B.isinstance rfl B.list (by decide +kernel) (se_nb 0)) (se_one (se_call1 (call_all rfl) p_bools rfl B.all (by decide +kernel) (se_comp (NB:=["turn","order"]) (own:=1) (ixs:=[1]) [1] rfl (cScope (by kernel_rfl)) (fun _ _=>rfl) (si_b rfl (se_nb 0)) (fun H0 G0 par br bx C ex s3 H3 pn=>(sg_nm (i:=0) (show (["turn","order"]:List Str).Nodup by decide +kernel))) (fun H0 G0 par br bx C ex s3 H3 pn hB1=>sts_nil) (fun H0 G0 par br bx C ex s3 H3 pn hB1=>(se_call h_is_turn (hr.mono (by decide)) passB rfl rfl (sa_cons (se_nv 0 (hB1 0 (by decide))) (sa_cons (se_nv 1 (hB1 1 (by decide))) sa_nil))))))) (fun _ _=>rfl))))⟩,fun ds h=>runF_len ds h⟩
abbrev s_leads_on:Stmt:=top 19
theorem sc_leads_on:FnScope ["order","turn","other"] ["order","turn","other"] (defScope s_leads_on):=⟨rfl,rfl,rfl,by decide +kernel,rfl,by decide +kernel,by decide +kernel⟩
theorem has_leads_on {f:Addr}{fd:FuncData}(F:FnK K mg "leads_on" s_leads_on ["order","turn","other"] f fd)(B:BtK mg):Has P w K mg base ca "leads_on" ["order","turn","other"] 1 (runF 3 3 (m_leads_on)):=
 ⟨⟨f,fd,F.mg,F.F.kp,F.b,fn_pure (N:=["order","turn","other"]) (k:=0) F.F sc_leads_on fun cdv A outer s H G E hr=>
  (@ss_one _ _ _ _ _ (ss_ret (se_or (se_cmp (op_eqD hr.units) p_eq (se_ix ix_seq p_ix (se_nb 1) se_int (fun _ _=>rfl)) (se_ix ix_seq p_ix (se_nb 2) se_int (fun _ _=>rfl)) (nomark _)) (se_one (se_cmp (op_inD hr.u1) p_in (se_tup (sa_cons (se_ix ix_seq p_ix (se_nb 1) se_int (fun _ _=>rfl)) (sa_cons (se_ix ix_seq p_ix (se_nb 2) se_int (fun _ _=>rfl)) sa_nil))) (se_ix ix_seq p_ix (se_nb 0) se_int (fun _ _=>rfl)) (by with_unfolding_all rfl))) (fun _ _=>rfl))))⟩,fun ds h=>runF_len ds h⟩
abbrev s_goes_round:Stmt:=top 21
theorem sc_goes_round:FnScope ["thing","order"] ["thing","order"] (defScope s_goes_round):=⟨rfl,rfl,rfl,by decide +kernel,rfl,by decide +kernel,by decide +kernel⟩
theorem has_goes_round {f:Addr}{fd:FuncData}{F_are_turns F_leads_on:List D->FR}(F:FnK K mg "goes_round" s_goes_round ["thing","order"] f fd)(B:BtK mg)(h_are_turns:Has P w K mg base ca "are_turns" ["thing","order"] 5 F_are_turns)(h_leads_on:Has P w K mg base ca "leads_on" ["order","turn","other"] 1 F_leads_on):Has P w K mg base ca "goes_round" ["thing","order"] 6 (runF 2 2 (m_goes_round F_are_turns F_leads_on)):=
 ⟨⟨f,fd,F.mg,F.F.kp,F.b,fn_pure (N:=["thing","order"]) (k:=5) F.F sc_goes_round fun cdv A outer s H G E hr=>
  (@ss_cons _ _ _ _ _ _ _ (ss_if (STw.t (sw_or (st_not (st_val rfl (se_call h_are_turns (hr.mono (by decide)) passR rfl rfl (sa_cons (se_nv 0 rfl) (sa_cons (se_nv 1 rfl) sa_nil))))) (sw_or1 (st_cmp (op_eqD hr.units) p_eq (se_call1 call_len p_len rfl B.len PySem.boot_len (se_nb 0)) se_int (nomark _))) (fun _ _=>rfl)))
  (@ss_one _ _ _ _ _ (ss_ret se_bl))
  ss_nil)
  (@ss_one _ _ _ _ _ (ss_ret (se_call1 (call_all rfl) p_bools rfl B.all (by decide +kernel) (se_comp (NB:=["at","order","thing"]) (own:=1) (ixs:=[1,0]) [1] rfl (cScope (by kernel_rfl)) (fun _ _=>rfl) (si_r1 rfl B.range (se_call1 call_len p_len rfl B.len PySem.boot_len (se_nb 0))) (fun H0 G0 par br bx C ex s3 H3 pn=>(sg_nm (i:=0) (show (["at","order","thing"]:List Str).Nodup by decide +kernel))) (fun H0 G0 par br bx C ex s3 H3 pn hB1=>sts_nil) (fun H0 G0 par br bx C ex s3 H3 pn hB1=>(se_call h_leads_on (hr.mono (by decide)) passB rfl rfl (sa_cons (se_nv 1 (hB1 1 (by decide))) (sa_cons (se_ix ix_seq p_ix (se_nb 2) (se_op op_sub p_sub (se_nb 0) se_int) (fun _ _=>rfl)) (sa_cons (se_ix ix_seq p_ix (se_nb 2) (se_nb 0) (fun _ _=>rfl)) sa_nil))))))))))⟩,fun ds h=>runF_len ds h⟩
abbrev s_is_ring:Stmt:=top 20
theorem sc_is_ring:FnScope ["thing","order"] ["thing","order"] (defScope s_is_ring):=⟨rfl,rfl,rfl,by decide +kernel,rfl,by decide +kernel,by decide +kernel⟩
theorem has_is_ring {f:Addr}{fd:FuncData}{F_need_order F_goes_round:List D->FR}(F:FnK K mg "is_ring" s_is_ring ["thing","order"] f fd)(B:BtK mg)(h_need_order:Has P w K mg base ca "need_order" ["thing"] 5 F_need_order)(h_goes_round:Has P w K mg base ca "goes_round" ["thing","order"] 6 F_goes_round):Has P w K mg base ca "is_ring" ["thing","order"] 7 (runF 2 2 (m_is_ring F_need_order F_goes_round)):=
 ⟨⟨f,fd,F.mg,F.F.kp,F.b,fn_pure (N:=["thing","order"]) (k:=6) F.F sc_is_ring fun cdv A outer s H G E hr=>
  (@ss_cons _ _ _ _ _ _ _ (ss_expr (se_call h_need_order (hr.mono (by decide)) passR rfl rfl (sa_cons (se_nv 1 rfl) sa_nil)))
  (@ss_one _ _ _ _ _ (ss_ret (se_call h_goes_round (hr.mono (by decide)) passR rfl rfl (sa_cons (se_nv 0 rfl) (sa_cons (se_nv 1 rfl) sa_nil))))))⟩,fun ds h=>runF_len ds h⟩
abbrev s__law_cell:Stmt:=top 23
theorem sc__law_cell:FnScope ["script","k"] ["script","k"] (defScope s__law_cell):=⟨rfl,rfl,rfl,by decide +kernel,rfl,by decide +kernel,by decide +kernel⟩
theorem has__law_cell {f:Addr}{fd:FuncData}(F:FnK K mg "_law_cell" s__law_cell ["script","k"] f fd)(B:BtK mg):Has P w K mg base ca "_law_cell" ["script","k"] 1 (runF 2 2 (m__law_cell)):=
 ⟨⟨f,fd,F.mg,F.F.kp,F.b,fn_pure (N:=["script","k"]) (k:=0) F.F sc__law_cell fun cdv A outer s H G E hr=>
  (@ss_cons _ _ _ _ _ _ _ (ss_if (st_cmp op_lt p_lt (se_nb 1) (se_call1 call_len p_len rfl B.len PySem.boot_len (se_nb 0)) (nomark _))
  (@ss_one _ _ _ _ _ (ss_ret (se_ix ix_seq p_ix (se_nb 0) (se_nb 1) (fun _ _=>rfl))))
  ss_nil)
  (@ss_one _ _ _ _ _ (ss_ret se_int)))⟩,fun ds h=>runF_len ds h⟩
abbrev s__law_mix:Stmt:=top 24
theorem sc__law_mix:FnScope ["cell","k","some","stir"] ["cell","k"] (defScope s__law_mix):=⟨rfl,rfl,rfl,by decide +kernel,rfl,by decide +kernel,by decide +kernel⟩
theorem spl__law_mix:∃(es:List Expr) (p1 p2 p3:Pos),defBody s__law_mix=.Assign [.Name "some" p1] (.List es p2) p3 :: (defBody s__law_mix).drop 1/\constsOf es=some [48271,69621,16807,39373,30269,40014,40692,50021,61687,71993,83869,95561,30307]:=⟨_,_,_,_,rfl,by kernel_rfl⟩
theorem has__law_mix {f:Addr}{fd:FuncData}(F:FnK K mg "_law_mix" s__law_mix ["cell","k"] f fd)(B:BtK mg):Has P w K mg base ca "_law_mix" ["cell","k"] 1 (runF 4 2 (m__law_mix)):=by
 obtain⟨es,p1,p2,p3,hb,hes⟩:=spl__law_mix
 refine⟨⟨f,fd,F.mg,F.F.kp,F.b,fn_pure (N:=["cell","k","some","stir"]) (k:=0) F.F sc__law_mix fun cdv A outer s H G E hr=>?_⟩,fun ds h=>runF_len ds h⟩
 rw [hb]
 exact (ss_cons (ss_set (i:=2) (SE.wv (se_lst (sa_consts hes))) sc__law_mix.nd) (@ss_cons _ _ _ _ _ _ _ (ss_set (i:=3) (se_op op_add p_addI (se_op op_add p_addI (se_op op_mul p_mulI (se_op op_add p_addI (se_op op_mod p_mod (se_nb 0) se_int) se_int) (se_ix ix_seq p_ix (se_nb 2) (se_op op_mod p_mod (se_nb 1) se_int) (fun _ _=>rfl))) (se_op op_mul p_mulI se_int (se_nb 1))) (se_op op_mul p_mulI se_int (se_op op_fdiv p_fd (se_nb 1) se_int))) sc__law_mix.nd)
  (@ss_cons _ _ _ _ _ _ _ (ss_set (i:=3) (se_op op_mod p_mod (se_nb 3) se_int) sc__law_mix.nd)
  (@ss_one _ _ _ _ _ (ss_ret (se_op op_fdiv p_fd (se_op op_mod p_mod (se_op op_add p_addI (se_op op_mul p_mulI (se_nb 3) (se_nb 3)) (se_op op_mul p_mulI se_int (se_nb 1))) se_int) se_int))))))
abbrev s__law_box:Stmt:=top 25
theorem sc__law_box:FnScope ["script","k","cell","number","j"] ["script","k"] (defScope s__law_box):=⟨rfl,rfl,rfl,by decide +kernel,rfl,by decide +kernel,by decide +kernel⟩
theorem has__law_box {f:Addr}{fd:FuncData}{F__law_cell F__law_mix:List D->FR}(F:FnK K mg "_law_box" s__law_box ["script","k"] f fd)(B:BtK mg)(h__law_cell:Has P w K mg base ca "_law_cell" ["script","k"] 1 F__law_cell)(h__law_mix:Has P w K mg base ca "_law_mix" ["cell","k"] 1 F__law_mix):Has P w K mg base ca "_law_box" ["script","k"] 2 (runF 5 2 (m__law_box F__law_cell F__law_mix)):=
 ⟨⟨f,fd,F.mg,F.F.kp,F.b,fn_pure (N:=["script","k","cell","number","j"]) (k:=1) F.F sc__law_box fun cdv A outer s H G E hr=>
  (@ss_cons _ _ _ _ _ _ _ (ss_set (i:=2) (se_call h__law_cell (hr.mono (by decide)) passR rfl rfl (sa_cons (se_nv 0 rfl) (sa_cons (se_nv 1 rfl) sa_nil))) sc__law_box.nd)
  (@ss_cons _ _ _ _ _ _ _ (ss_if (st_cmp (op_eqD hr.units) p_eq (se_op op_mod p_mod (se_nb 2) se_int) se_int (nomark _))
  (@ss_one _ _ _ _ _ (ss_retW (se_lst (sa_cons (se_op op_fdiv p_fd (se_call1 call_abs p_abs rfl B.abs (by decide +kernel) (se_nb 2)) se_int) sa_nil))))
  ss_nil)
  (@ss_cons _ _ _ _ _ _ _ (ss_set (i:=3) se_int sc__law_box.nd)
  (@ss_cons _ _ _ _ _ _ _ (ss_for PassesOwn.leaving rfl (si_r1 rfl B.range se_int) (sg_nm (i:=4) sc__law_box.nd)
  (@ss_one _ _ _ _ _ (ss_set (i:=3) (se_op op_add p_addI (se_op op_mul p_mulI (se_nb 3) se_int) (se_call h__law_mix (hr.mono (by decide)) passR rfl rfl (sa_cons (se_nv 2 rfl) (sa_cons (se_nv 4 rfl) sa_nil)))) sc__law_box.nd)))
  (@ss_one _ _ _ _ _ (ss_retW (se_lst (sa_cons (se_nv 3 rfl) sa_nil))))))))⟩,fun ds h=>runF_len ds h⟩
abbrev s__law_take:Stmt:=top 26
theorem sc__law_take:FnScope ["box","many","left","digit"] ["box","many"] (defScope s__law_take):=⟨rfl,rfl,rfl,by decide +kernel,rfl,by decide +kernel,by decide +kernel⟩
theorem has__law_take {f:Addr}{fd:FuncData}(F:FnK K mg "_law_take" s__law_take ["box","many"] f fd)(B:BtK mg):HasB P w K mg base "_law_take" ["box","many"] 1 takeF:=by
 refine⟨⟨f,fd,F.mg,F.F.kp,F.b,?_⟩,fun ds β h=>?_⟩
 ·refine F.F.okR sc__law_take (fun vs H Q E h=>?_) (fun cdv A outer s H vs Q E hr h=>?_)
  ·obtain⟨b,rest,G,ds,β,rfl,hb,gb,sG,hl,r,_⟩:=h
   rw [List.length_cons,r.len,hl];rfl
  ·obtain⟨b,rest,G,ds,β,rfl,hb,gb,sG,hl,r,h⟩:=h
   obtain⟨m,rfl,h0,h1⟩:=take_ok (fun z=>by rw [z] at h;exact h)
   rw [take_eq h0 h1] at h
   have kk:∀v G' H',Mov (some b) H H'->H' b=some (.lst [.int (β / m)])->Same G G'->Same G' H'->(∀c,Mx H c->G c=none->G' c=none)->FV K H G' H' false (.int (β % m)) v->Q v H':=h
   cases r with
   |cons r1 r2=>
    cases r1
    cases r2
    refine⟨_,pss_cons (ps_asg (pe_callB call_divmod rfl B.divmod (by decide +kernel) (pa_cons (pe_ix ix_list (pv 0) pe_int (fun _ _=>rfl)) (pa_cons (pv 1) pa_nil))) (pg_pair (i:=2) (j:=3) sc__law_take.nd rfl rfl rfl rfl rfl))
     (pss_cons (ps_asg (pv 2) (pg_sub (pv 0) pe_int set_list)) (pss_one (ps_ret (pv 3)))),?_⟩
    refine⟨_,rfl,b,_,0,.int β,rfl,rfl,.inl (.inl hb),rfl,_,rfl,β,m,rfl,⟨h0,h1⟩,fun p hp=>⟨p,_,rfl,.inl (.inl upd_same),rfl,_,_,rfl,_,_,rfl,rfl,?_⟩⟩
    have hbp:b≠p:=ne_of_none hb hp
    exact⟨_,rfl,_,rfl,b,[.int β],0,0,rfl,rfl,by rw [upd_ne hbp];exact hb,rfl,_,rfl,take_end hb sG hp kk gb⟩
 ·obtain⟨m,rfl,_⟩:=take_ok h
  rfl
abbrev s__law_whole:Stmt:=top 27
theorem sc__law_whole:FnScope ["thing"] ["thing"] (defScope s__law_whole):=⟨rfl,rfl,rfl,by decide +kernel,rfl,by decide +kernel,by decide +kernel⟩
theorem has__law_whole {f:Addr}{fd:FuncData}(F:FnK K mg "_law_whole" s__law_whole ["thing"] f fd)(B:BtK mg):Has P w K mg base ca "_law_whole" ["thing"] 1 (runF 1 1 (m__law_whole)):=
 ⟨⟨f,fd,F.mg,F.F.kp,F.b,fn_pure (N:=["thing"]) (k:=0) F.F sc__law_whole fun cdv A outer s H G E hr=>
  (@ss_one _ _ _ _ _ (ss_ret (se_and (se_isi "int" (by decide) rfl rfl B.isinstance rfl B.int (by decide +kernel) (se_nb 0)) (se_one (se_not (se_isi "bool" (by decide) rfl rfl B.isinstance rfl B.bool (by decide +kernel) (se_nb 0)))) (fun _ _=>rfl))))⟩,fun ds h=>runF_len ds h⟩
abbrev s__law_truth:Stmt:=top 28
theorem sc__law_truth:FnScope ["found","due"] ["found","due"] (defScope s__law_truth):=⟨rfl,rfl,rfl,by decide +kernel,rfl,by decide +kernel,by decide +kernel⟩
theorem has__law_truth {f:Addr}{fd:FuncData}(F:FnK K mg "_law_truth" s__law_truth ["found","due"] f fd)(B:BtK mg):Has P w K mg base ca "_law_truth" ["found","due"] 1 (runF 2 2 (m__law_truth)):=
 ⟨⟨f,fd,F.mg,F.F.kp,F.b,fn_pure (N:=["found","due"]) (k:=0) F.F sc__law_truth fun cdv A outer s H G E hr=>
  (@ss_one _ _ _ _ _ (ss_ret (se_and (se_isi "bool" (by decide) rfl rfl B.isinstance rfl B.bool (by decide +kernel) (se_nb 0)) (se_one (se_cmp (op_eqD hr.units) p_eq (se_nb 0) (se_nb 1) (nomark _))) (fun _ _=>rfl))))⟩,fun ds h=>runF_len ds h⟩
abbrev s__law_odd:Stmt:=top 29
theorem sc__law_odd:FnScope ["box","some"] ["box"] (defScope s__law_odd):=⟨rfl,rfl,rfl,by decide +kernel,rfl,by decide +kernel,by decide +kernel⟩
theorem has__law_odd {f:Addr}{fd:FuncData}{F__law_take:List D->Int->FB}(F:FnK K mg "_law_odd" s__law_odd ["box"] f fd)(B:BtK mg)(h__law_take:HasB P w K mg base "_law_take" ["box","many"] 1 F__law_take):HasB P w K mg base "_law_odd" ["box"] 2 (runB 2 0 (m__law_odd F__law_take)):=
 ⟨⟨f,fd,F.mg,F.F.kp,F.b,fnB_pure (ca:=fun _=>0) (N:=["box","some"]) (k:=1) F.F sc__law_odd (by decide) fun cdv A outer s H G b E hr=>
  (@ss_cons _ _ _ _ _ _ _ (@ss_rL _ _ _ 1 _ _ (aCons (cst .none) (aCons (cst (.bool true)) (aCons (cst (.bool false)) (aCons (cst (.int (-1))) (aCons (cst (.int 0)) (aCons (cst (.int 1)) (aCons (cst (.str "")) (aCons (cst (.str "1")) (aCons (fTup aNil) (aCons (fLst aNil) (aCons (fTup (aCons (cst (.int 0)) aNil)) (aCons (fTup (aCons (cst (.int 1)) (aCons (fTup aNil) aNil))) (aCons (fLst (aCons (cst (.int 0)) aNil)) aNil))))))))))))) ([] ++ ([] ++ ([] ++ ([] ++ ([] ++ ([] ++ ([] ++ ([] ++ ([] ++ ([] ++ (([] ++ []) ++ (([] ++ ([] ++ [])) ++ (([] ++ []) ++ []))))))))))))) _ _ _ [] (by kernel_rfl) (fun _=>rfl) (by kernel_rfl) sc__law_odd.nd rfl (by first |exact Or.inl rfl |exact Or.inr rfl) (by first |exact .inl rfl |exact .inr rfl))
  (@ss_cons _ _ _ _ _ _ _ (ss_set (i:=1) (@SE.wv _ _ _ _ _ _ (se_op op_catR p_cat (se_nb 1) (@se_rL _ _ _ _ (aCons (cst (.dict [(.str "a",.int 1)])) (aCons (fTup (aCons (cst (.int 0)) (aCons (cst (.int 1)) aNil))) (aCons (f2 (cst (.int 10)) (cst (.int 39)) gPow) (aCons (fTup (aCons (fTup (aCons (cst (.int 0)) (aCons (cst (.int 1)) aNil))) aNil)) (aCons (cst (.str "a")) aNil))))) ([] ++ (([] ++ ([] ++ [])) ++ ([] ++ ((([] ++ ([] ++ [])) ++ []) ++ ([] ++ []))))) _ [] (by kernel_rfl) (fun _=>rfl) (by kernel_rfl)))) sc__law_odd.nd)
  (@ss_one _ _ _ _ _ (ss_ret (se_ix ix_seq p_ix (se_nb 1) (se_cb 0 h__law_take (hr.mono (by decide)) passR rfl rfl (sa_cons se_int sa_nil)) (fun _ _=>rfl))))))⟩,fun ds β h=>runB_len ds β h⟩
abbrev s__law_mixed_up:Stmt:=top 30
theorem sc__law_mixed_up:FnScope ["box","some","left","found"] ["box","some"] (defScope s__law_mixed_up):=⟨rfl,rfl,rfl,by decide +kernel,rfl,by decide +kernel,by decide +kernel⟩
theorem has__law_mixed_up {f:Addr}{fd:FuncData}{F__law_take:List D->Int->FB}(F:FnK K mg "_law_mixed_up" s__law_mixed_up ["box","some"] f fd)(B:BtK mg)(h__law_take:HasB P w K mg base "_law_take" ["box","many"] 1 F__law_take):HasB P w K mg base "_law_mixed_up" ["box","some"] 2 (runB 4 1 (m__law_mixed_up F__law_take)):=
 ⟨⟨f,fd,F.mg,F.F.kp,F.b,fnB_pure (ca:=fun _=>0) (N:=["box","some","left","found"]) (k:=1) F.F sc__law_mixed_up (by decide) fun cdv A outer s H G b E hr=>
  (@ss_cons _ _ _ _ _ _ _ (ss_setO (i:=2) (se_type1 call_list_of p_list rfl B.list (by decide +kernel) (se_nb 1)) sc__law_mixed_up.nd)
  (@ss_cons _ _ _ _ _ _ _ (ss_setO (i:=3) (se_lst sa_nil) sc__law_mixed_up.nd)
  (@ss_cons _ _ _ _ _ _ _ (ss_while 1000 PassesOwn.leaving (st_cmp (op_neD hr.units) p_eq (se_nb 2) (se_lst sa_nil) (nomark _))
  (@ss_one _ _ _ _ _ (ss_appPop 3 2 (fun _=>rfl) (se_cb 0 h__law_take (hr.mono (by decide)) passR rfl rfl (sa_cons (se_call1 call_len p_len rfl B.len PySem.boot_len (se_nb 2)) sa_nil)))))
  (@ss_one _ _ _ _ _ (ss_retN 3)))))⟩,fun ds β h=>runB_len ds β h⟩
abbrev s__law_closed:Stmt:=top 31
theorem sc__law_closed:FnScope ["pairs","found","size","more","a","b"] ["pairs"] (defScope s__law_closed):=⟨rfl,rfl,rfl,by decide +kernel,rfl,by decide +kernel,by decide +kernel⟩
theorem has__law_closed {f:Addr}{fd:FuncData}(F:FnK K mg "_law_closed" s__law_closed ["pairs"] f fd)(B:BtK mg):Has P w K mg base ca "_law_closed" ["pairs"] 1 (runF 6 1 (m__law_closed)):=
 ⟨⟨f,fd,F.mg,F.F.kp,F.b,fn_pure (N:=["pairs","found","size","more","a","b"]) (k:=0) F.F sc__law_closed fun cdv A outer s H G E hr=>
  (@ss_cons _ _ _ _ _ _ _ (ss_set (i:=1) (@SE.wv _ _ _ _ _ _ (se_sortset rfl hr.units rfl rfl B.sorted rfl B.set (se_nb 0))) sc__law_closed.nd)
  (@ss_cons _ _ _ _ _ _ _ (ss_set (i:=2) (se_un un_neg p_neg se_int) sc__law_closed.nd)
  (@ss_cons _ _ _ _ _ _ _ (ss_while 1000 PassesOwn.leaving (st_cmp (op_neD hr.units) p_eq (se_nb 2) (se_call1 call_len p_len rfl B.len PySem.boot_len (se_nb 1)) (nomark _))
  (@ss_cons _ _ _ _ _ _ _ (ss_set (i:=2) (se_call1 call_len p_len rfl B.len PySem.boot_len (se_nb 1)) sc__law_closed.nd)
  (@ss_cons _ _ _ _ _ _ _ (ss_set (i:=3) (@SE.wv _ _ _ _ _ _ (se_lst sa_nil)) sc__law_closed.nd)
  (@ss_cons _ _ _ _ _ _ _ (ss_for PassesOwn.leaving rfl (si_v rfl (se_nv 1 rfl)) (sg_two (i:=4) (j:=5) sc__law_closed.nd)
  (@ss_one _ _ _ _ _ (ss_set (i:=3) (@SE.wv _ _ _ _ _ _ (se_op op_catR p_cat (se_nb 3) (se_comp (NB:=["c","d","b","a"]) (own:=2) (ixs:=[5,4]) [4] rfl (cScope (by kernel_rfl)) (fun _ _=>rfl) (si_b rfl (se_nb 1)) (fun H0 G0 par br bx C ex s3 H3 pn=>(sg_two (i:=0) (j:=1) (show (["c","d","b","a"]:List Str).Nodup by decide +kernel))) (fun H0 G0 par br bx C ex s3 H3 pn hB1=>(sts_one (st_cmp (op_eqD hr.units) p_eq (se_nb 0) (se_nb 2) (nomark _)))) (fun H0 G0 par br bx C ex s3 H3 pn hB1=>(se_tup (sa_cons (se_nv 3 (hB1 3 (by decide))) (sa_cons (se_nv 1 (hB1 1 (by decide))) sa_nil))))))) sc__law_closed.nd)))
  (@ss_one _ _ _ _ _ (ss_set (i:=1) (@SE.wv _ _ _ _ _ _ (se_sortset rfl hr.units rfl rfl B.sorted rfl B.set (se_op op_catR p_cat (se_nb 1) (se_nb 3)))) sc__law_closed.nd))))))
  (@ss_one _ _ _ _ _ (ss_ret (se_type1 call_tuple_of p_tuple rfl B.tuple (by decide +kernel) (se_nb 1)))))))⟩,fun ds h=>runF_len ds h⟩
abbrev s__law_order:Stmt:=top 32
theorem sc__law_order:FnScope ["box","most","many","names","thin","pairs","i","j"] ["box","most"] (defScope s__law_order):=⟨rfl,rfl,rfl,by decide +kernel,rfl,by decide +kernel,by decide +kernel⟩
theorem has__law_order {f:Addr}{fd:FuncData}{F__law_closed:List D->FR}{F__law_take F__law_mixed_up:List D->Int->FB}(F:FnK K mg "_law_order" s__law_order ["box","most"] f fd)(B:BtK mg)(h__law_closed:Has P w K mg base ca "_law_closed" ["pairs"] 1 F__law_closed)(h__law_take:HasB P w K mg base "_law_take" ["box","many"] 1 F__law_take)(h__law_mixed_up:HasB P w K mg base "_law_mixed_up" ["box","some"] 2 F__law_mixed_up):HasB P w K mg base "_law_order" ["box","most"] 3 (runB 8 1 (m__law_order F__law_closed F__law_take F__law_mixed_up)):=
 ⟨⟨f,fd,F.mg,F.F.kp,F.b,fnB_pure (ca:=ca) (N:=["box","most","many","names","thin","pairs","i","j"]) (k:=2) F.F sc__law_order (by decide) fun cdv A outer s H G b E hr=>
  (@ss_cons _ _ _ _ _ _ _ (ss_set (i:=2) (se_op op_add p_addI se_int (se_cb 0 h__law_take (hr.mono (by decide)) passR rfl rfl (sa_cons (se_nv 1 rfl) sa_nil))) sc__law_order.nd)
  (@ss_cons _ _ _ _ _ _ _ (ss_set (i:=3) (se_cb 0 h__law_mixed_up (hr.mono (by decide)) passR rfl rfl (sa_cons (@SE.wv _ _ _ _ _ _ (se_listrng rfl rfl B.list rfl B.range (se_nb 2))) sa_nil)) sc__law_order.nd)
  (@ss_cons _ _ _ _ _ _ _ (ss_set (i:=4) (se_ix ix_seq p_ix (se_lst (sa_cons se_int (sa_cons se_int (sa_cons se_int (sa_cons se_int sa_nil))))) (se_cb 0 h__law_take (hr.mono (by decide)) passR rfl rfl (sa_cons se_int sa_nil)) (fun _ _=>rfl)) sc__law_order.nd)
  (@ss_cons _ _ _ _ _ _ _ (ss_setO (i:=5) (se_lst sa_nil) sc__law_order.nd)
  (@ss_cons _ _ _ _ _ _ _ (ss_for PassesOwn.leaving rfl (si_r1 rfl B.range (se_nb 2)) (sg_nm (i:=6) sc__law_order.nd)
  (@ss_one _ _ _ _ _ (ss_for PassesOwn.leaving rfl (si_r2 rfl B.range (se_op op_add p_addI (se_nb 6) se_int) (se_nb 2)) (sg_nm (i:=7) sc__law_order.nd)
  (@ss_one _ _ _ _ _ (ss_if (st_cmp (op_eqD hr.units) p_eq (se_cb 0 h__law_take (hr.mono (by decide)) passR rfl rfl (sa_cons (se_nv 4 rfl) sa_nil)) se_int (nomark _))
  (@ss_one _ _ _ _ _ (ss_append 5 (fun _=>rfl) (se_tup (sa_cons (se_ix ix_seq p_ix (se_nb 3) (se_nb 6) (fun _ _=>rfl)) (sa_cons (se_ix ix_seq p_ix (se_nb 3) (se_nb 7) (fun _ _=>rfl)) sa_nil)))))
  ss_nil)))))
  (@ss_one _ _ _ _ _ (ss_ret (se_tup (sa_cons (se_nv 2 rfl) (sa_cons (se_call h__law_closed (hr.mono (by decide)) passR rfl rfl (sa_cons (se_nv 5 rfl) sa_nil)) sa_nil))))))))))⟩,fun ds β h=>runB_len ds β h⟩
abbrev s__law_apart:Stmt:=top 33
theorem sc__law_apart:FnScope ["order","a","b"] ["order","a","b"] (defScope s__law_apart):=⟨rfl,rfl,rfl,by decide +kernel,rfl,by decide +kernel,by decide +kernel⟩
theorem has__law_apart {f:Addr}{fd:FuncData}(F:FnK K mg "_law_apart" s__law_apart ["order","a","b"] f fd)(B:BtK mg):Has P w K mg base ca "_law_apart" ["order","a","b"] 1 (runF 3 3 (m__law_apart)):=
 ⟨⟨f,fd,F.mg,F.F.kp,F.b,fn_pure (N:=["order","a","b"]) (k:=0) F.F sc__law_apart fun cdv A outer s H G E hr=>
  (@ss_one _ _ _ _ _ (ss_ret (se_and (se_cmp (op_neD hr.units) p_eq (se_nb 1) (se_nb 2) (nomark _)) (se_and (se_cmp (op_notInD hr.u1) p_in (se_tup (sa_cons (se_nv 1 rfl) (sa_cons (se_nv 2 rfl) sa_nil))) (se_ix ix_seq p_ix (se_nb 0) se_int (fun _ _=>rfl)) (by with_unfolding_all rfl)) (se_one (se_cmp (op_notInD hr.u1) p_in (se_tup (sa_cons (se_nv 2 rfl) (sa_cons (se_nv 1 rfl) sa_nil))) (se_ix ix_seq p_ix (se_nb 0) se_int (fun _ _=>rfl)) (by with_unfolding_all rfl))) (fun _ _=>rfl)) (fun _ _=>rfl))))⟩,fun ds h=>runF_len ds h⟩
abbrev s__law_turns:Stmt:=top 34
theorem sc__law_turns:FnScope ["order","found","a"] ["order"] (defScope s__law_turns):=⟨rfl,rfl,rfl,by decide +kernel,rfl,by decide +kernel,by decide +kernel⟩
theorem has__law_turns {f:Addr}{fd:FuncData}{F__law_apart:List D->FR}(F:FnK K mg "_law_turns" s__law_turns ["order"] f fd)(B:BtK mg)(h__law_apart:Has P w K mg base ca "_law_apart" ["order","a","b"] 1 F__law_apart):Has P w K mg base ca "_law_turns" ["order"] 2 (runF 3 1 (m__law_turns F__law_apart)):=
 ⟨⟨f,fd,F.mg,F.F.kp,F.b,fn_pure (N:=["order","found","a"]) (k:=1) F.F sc__law_turns fun cdv A outer s H G E hr=>
  (@ss_cons _ _ _ _ _ _ _ (ss_set (i:=1) (@SE.wv _ _ _ _ _ _ (se_lst sa_nil)) sc__law_turns.nd)
  (@ss_cons _ _ _ _ _ _ _ (ss_for PassesOwn.leaving rfl (si_r1 rfl B.range (se_ix ix_seq p_ix (se_nb 0) se_int (fun _ _=>rfl))) (sg_nm (i:=2) sc__law_turns.nd)
  (@ss_one _ _ _ _ _ (ss_set (i:=1) (@SE.wv _ _ _ _ _ _ (se_op op_catR p_cat (se_nb 1) (se_comp (NB:=["b","order","a"]) (own:=1) (ixs:=[0,2]) [0,2] rfl (cScope (by kernel_rfl)) (fun _ _=>rfl) (si_r1 rfl B.range (se_ix ix_seq p_ix (se_nb 0) se_int (fun _ _=>rfl))) (fun H0 G0 par br bx C ex s3 H3 pn=>(sg_nm (i:=0) (show (["b","order","a"]:List Str).Nodup by decide +kernel))) (fun H0 G0 par br bx C ex s3 H3 pn hB1=>(sts_one (st_val rfl (se_call h__law_apart (hr.mono (by decide)) passB rfl rfl (sa_cons (se_nv 1 (hB1 1 (by decide))) (sa_cons (se_nv 2 (hB1 2 (by decide))) (sa_cons (se_nv 0 (hB1 0 (by decide))) sa_nil))))))) (fun H0 G0 par br bx C ex s3 H3 pn hB1=>(se_tup (sa_cons (se_nv 2 (hB1 2 (by decide))) (sa_cons (se_nv 0 (hB1 0 (by decide))) sa_nil))))))) sc__law_turns.nd)))
  (@ss_one _ _ _ _ _ (ss_retN 1))))⟩,fun ds h=>runF_len ds h⟩
abbrev s__law_told:Stmt:=top 35
theorem sc__law_told:FnScope ["many","rows","found","a","b","left"] ["many","rows"] (defScope s__law_told):=⟨rfl,rfl,rfl,by decide +kernel,rfl,by decide +kernel,by decide +kernel⟩
theorem has__law_told {f:Addr}{fd:FuncData}(F:FnK K mg "_law_told" s__law_told ["many","rows"] f fd)(B:BtK mg):Has P w K mg base ca "_law_told" ["many","rows"] 1 (runF 6 2 (m__law_told_24)):=
 ⟨⟨f,fd,F.mg,F.F.kp,F.b,fn_pure (N:=["many","rows","found","a","b","left"]) (k:=0) F.F sc__law_told fun cdv A outer s H G E hr=>
  (@ss_cons _ _ _ _ _ _ _ (ss_setO (i:=2) (se_lst sa_nil) sc__law_told.nd)
  (@ss_cons _ _ _ _ _ _ _ (ss_for PassesOwn.leaving rfl (si_r1 rfl B.range (se_nb 0)) (sg_nm (i:=3) sc__law_told.nd)
  (@ss_one _ _ _ _ _ (ss_for PassesOwn.leaving rfl (si_r1 rfl B.range (se_nb 0)) (sg_nm (i:=4) sc__law_told.nd)
  (@ss_cons _ _ _ _ _ _ _ (ss_comp (i:=5) (NB:=["one","a","b"]) (own:=1) (ixs:=[3,4]) [] rfl (cScope (by kernel_rfl)) (fun _ _=>rfl) (si_b rfl (se_nb 1)) (fun H0 G0 par br bx C ex s3 H3 pn=>(sg_nm (i:=0) (show (["one","a","b"]:List Str).Nodup by decide +kernel))) (fun H0 G0 par br bx C ex s3 H3 pn hB1=>(sts_one (st_cmp op_gt p_gt (se_index rfl (se_nb 0) (se_nb 1)) (se_index rfl (se_nb 0) (se_nb 2)) (nomark _)))) (fun H0 G0 par br bx C ex s3 H3 pn hB1=>se_int) sc__law_told.nd)
  (@ss_one _ _ _ _ _ (ss_if (STw.t (sw_and (st_cmp (op_neD hr.units) p_eq (se_nb 3) (se_nb 4) (nomark _)) (sw_and1 (st_cmp (op_eqD hr.units) p_eq (se_nb 5) (se_lst sa_nil) (nomark _))) (fun _ _=>rfl)))
  (@ss_one _ _ _ _ _ (ss_append 2 (fun _=>rfl) (se_tup (sa_cons (se_nv 3 rfl) (sa_cons (se_nv 4 rfl) sa_nil)))))
  ss_nil))))))
  (@ss_one _ _ _ _ _ (ss_ret (se_type1 call_tuple_of p_tuple rfl B.tuple (by decide +kernel) (se_nb 2))))))⟩,fun ds h=>runF_len ds h⟩
abbrev s__law_is_turn:Stmt:=top 36
theorem sc__law_is_turn:FnScope ["order","thing"] ["order","thing"] (defScope s__law_is_turn):=⟨rfl,rfl,rfl,by decide +kernel,rfl,by decide +kernel,by decide +kernel⟩
theorem has__law_is_turn {f:Addr}{fd:FuncData}{F__law_whole F__law_turns:List D->FR}(F:FnK K mg "_law_is_turn" s__law_is_turn ["order","thing"] f fd)(B:BtK mg)(h__law_whole:Has P w K mg base ca "_law_whole" ["thing"] 1 F__law_whole)(h__law_turns:Has P w K mg base ca "_law_turns" ["order"] 2 F__law_turns):Has P w K mg base ca "_law_is_turn" ["order","thing"] 3 (runF 2 2 (m__law_is_turn F__law_whole F__law_turns)):=
 ⟨⟨f,fd,F.mg,F.F.kp,F.b,fn_pure (N:=["order","thing"]) (k:=2) F.F sc__law_is_turn fun cdv A outer s H G E hr=>
  (@ss_cons _ _ _ _ _ _ _ (ss_if (STw.t (sw_or (st_not (st_val rfl (se_isi "tuple" (by decide) rfl rfl B.isinstance rfl B.tuple (by decide +kernel) (se_nb 1)))) (sw_or (st_cmp (op_neD hr.units) p_eq (se_call1 call_len p_len rfl B.len PySem.boot_len (se_nb 1)) se_int (nomark _)) (sw_or1 (st_not (st_val rfl (se_call1 (call_all rfl) p_bools rfl B.all (by decide +kernel) (se_comp (NB:=["one"]) (own:=1) (ixs:=[]) [] rfl (cScope (by kernel_rfl)) (fun _ _=>rfl) (si_b rfl (se_nb 1)) (fun H0 G0 par br bx C ex s3 H3 pn=>(sg_nm (i:=0) (show (["one"]:List Str).Nodup by decide +kernel))) (fun H0 G0 par br bx C ex s3 H3 pn hB1=>sts_nil) (fun H0 G0 par br bx C ex s3 H3 pn hB1=>(se_call h__law_whole (hr.mono (by decide)) passB rfl rfl (sa_cons (se_nv 0 (hB1 0 (by decide))) sa_nil)))))))) (fun _ _=>rfl)) (fun _ _=>rfl)))
  (@ss_one _ _ _ _ _ (ss_ret se_bl))
  ss_nil)
  (@ss_one _ _ _ _ _ (ss_ret (se_cmp (op_inD hr.u1) p_in (se_nb 1) (se_call h__law_turns (hr.mono (by decide)) passR rfl rfl (sa_cons (se_nv 0 rfl) sa_nil)) (by with_unfolding_all rfl)))))⟩,fun ds h=>runF_len ds h⟩
abbrev s__law_leads:Stmt:=top 37
theorem sc__law_leads:FnScope ["order","one","other"] ["order","one","other"] (defScope s__law_leads):=⟨rfl,rfl,rfl,by decide +kernel,rfl,by decide +kernel,by decide +kernel⟩
theorem has__law_leads {f:Addr}{fd:FuncData}(F:FnK K mg "_law_leads" s__law_leads ["order","one","other"] f fd)(B:BtK mg):Has P w K mg base ca "_law_leads" ["order","one","other"] 1 (runF 3 3 (m__law_leads)):=
 ⟨⟨f,fd,F.mg,F.F.kp,F.b,fn_pure (N:=["order","one","other"]) (k:=0) F.F sc__law_leads fun cdv A outer s H G E hr=>
  (@ss_one _ _ _ _ _ (ss_ret (se_or (se_cmp (op_eqD hr.units) p_eq (se_ix ix_seq p_ix (se_nb 1) se_int (fun _ _=>rfl)) (se_ix ix_seq p_ix (se_nb 2) se_int (fun _ _=>rfl)) (nomark _)) (se_one (se_cmp (op_inD hr.u1) p_in (se_tup (sa_cons (se_ix ix_seq p_ix (se_nb 1) se_int (fun _ _=>rfl)) (sa_cons (se_ix ix_seq p_ix (se_nb 2) se_int (fun _ _=>rfl)) sa_nil))) (se_ix ix_seq p_ix (se_nb 0) se_int (fun _ _=>rfl)) (by with_unfolding_all rfl))) (fun _ _=>rfl))))⟩,fun ds h=>runF_len ds h⟩
abbrev s__law_is_ring:Stmt:=top 38
theorem sc__law_is_ring:FnScope ["thing","order"] ["thing","order"] (defScope s__law_is_ring):=⟨rfl,rfl,rfl,by decide +kernel,rfl,by decide +kernel,by decide +kernel⟩
theorem has__law_is_ring {f:Addr}{fd:FuncData}{F__law_is_turn F__law_leads:List D->FR}(F:FnK K mg "_law_is_ring" s__law_is_ring ["thing","order"] f fd)(B:BtK mg)(h__law_is_turn:Has P w K mg base ca "_law_is_turn" ["order","thing"] 3 F__law_is_turn)(h__law_leads:Has P w K mg base ca "_law_leads" ["order","one","other"] 1 F__law_leads):Has P w K mg base ca "_law_is_ring" ["thing","order"] 4 (runF 2 2 (m__law_is_ring F__law_is_turn F__law_leads)):=
 ⟨⟨f,fd,F.mg,F.F.kp,F.b,fn_pure (N:=["thing","order"]) (k:=3) F.F sc__law_is_ring fun cdv A outer s H G E hr=>
  (@ss_cons _ _ _ _ _ _ _ (ss_if (STw.t (sw_or (st_not (st_val rfl (se_isi "list" (by decide) rfl rfl B.isinstance rfl B.list (by decide +kernel) (se_nb 0)))) (sw_or (st_cmp (op_eqNil hr.units) p_eqNil (se_nb 0) (se_lst sa_nil) (nomark _)) (sw_or1 (st_not (st_val rfl (se_call1 (call_all rfl) p_bools rfl B.all (by decide +kernel) (se_comp (NB:=["one","order"]) (own:=1) (ixs:=[1]) [1] rfl (cScope (by kernel_rfl)) (fun _ _=>rfl) (si_b rfl (se_nb 0)) (fun H0 G0 par br bx C ex s3 H3 pn=>(sg_nm (i:=0) (show (["one","order"]:List Str).Nodup by decide +kernel))) (fun H0 G0 par br bx C ex s3 H3 pn hB1=>sts_nil) (fun H0 G0 par br bx C ex s3 H3 pn hB1=>(se_call h__law_is_turn (hr.mono (by decide)) passB rfl rfl (sa_cons (se_nv 1 (hB1 1 (by decide))) (sa_cons (se_nv 0 (hB1 0 (by decide))) sa_nil))))))))) (fun _ _=>rfl)) (fun _ _=>rfl)))
  (@ss_one _ _ _ _ _ (ss_ret se_bl))
  ss_nil)
  (@ss_one _ _ _ _ _ (ss_ret (se_call1 (call_all rfl) p_bools rfl B.all (by decide +kernel) (se_comp (NB:=["at","order","thing"]) (own:=1) (ixs:=[1,0]) [1] rfl (cScope (by kernel_rfl)) (fun _ _=>rfl) (si_r1 rfl B.range (se_call1 call_len p_len rfl B.len PySem.boot_len (se_nb 0))) (fun H0 G0 par br bx C ex s3 H3 pn=>(sg_nm (i:=0) (show (["at","order","thing"]:List Str).Nodup by decide +kernel))) (fun H0 G0 par br bx C ex s3 H3 pn hB2=>sts_nil) (fun H0 G0 par br bx C ex s3 H3 pn hB2=>(se_call h__law_leads (hr.mono (by decide)) passB rfl rfl (sa_cons (se_nv 1 (hB2 1 (by decide))) (sa_cons (se_ix ix_seq p_ix (se_nb 2) (se_op op_sub p_sub (se_nb 0) se_int) (fun _ _=>rfl)) (sa_cons (se_ix ix_seq p_ix (se_nb 2) (se_nb 0) (fun _ _=>rfl)) sa_nil))))))))))⟩,fun ds h=>runF_len ds h⟩
abbrev s__law_crown:Stmt:=top 39
theorem sc__law_crown:FnScope ["box","many","names","pairs","i","others"] ["box"] (defScope s__law_crown):=⟨rfl,rfl,rfl,by decide +kernel,rfl,by decide +kernel,by decide +kernel⟩
theorem has__law_crown {f:Addr}{fd:FuncData}{F__law_take F__law_mixed_up:List D->Int->FB}(F:FnK K mg "_law_crown" s__law_crown ["box"] f fd)(B:BtK mg)(h__law_take:HasB P w K mg base "_law_take" ["box","many"] 1 F__law_take)(h__law_mixed_up:HasB P w K mg base "_law_mixed_up" ["box","some"] 2 F__law_mixed_up):HasB P w K mg base "_law_crown" ["box"] 3 (runB 6 0 (m__law_crown F__law_take F__law_mixed_up)):=
 ⟨⟨f,fd,F.mg,F.F.kp,F.b,fnB_pure (ca:=fun _=>0) (N:=["box","many","names","pairs","i","others"]) (k:=2) F.F sc__law_crown (by decide) fun cdv A outer s H G b E hr=>
  (@ss_cons _ _ _ _ _ _ _ (ss_set (i:=1) (se_op op_add p_addI se_int (se_cb 0 h__law_take (hr.mono (by decide)) passR rfl rfl (sa_cons se_int sa_nil))) sc__law_crown.nd)
  (@ss_cons _ _ _ _ _ _ _ (ss_set (i:=2) (se_cb 0 h__law_mixed_up (hr.mono (by decide)) passR rfl rfl (sa_cons (@SE.wv _ _ _ _ _ _ (se_listrng rfl rfl B.list rfl B.range (se_op op_mul p_mulI se_int (se_nb 1)))) sa_nil)) sc__law_crown.nd)
  (@ss_cons _ _ _ _ _ _ _ (ss_set (i:=3) (@SE.wv _ _ _ _ _ _ (se_lst sa_nil)) sc__law_crown.nd)
  (@ss_cons _ _ _ _ _ _ _ (ss_for PassesOwn.leaving rfl (si_r1 rfl B.range (se_nb 1)) (sg_nm (i:=4) sc__law_crown.nd)
  (@ss_cons _ _ _ _ _ _ _ (ss_comp (i:=5) (NB:=["j","i","names","many"]) (own:=1) (ixs:=[4,2,1]) [] rfl (cScope (by kernel_rfl)) (fun _ _=>rfl) (si_r1 rfl B.range (se_nb 1)) (fun H0 G0 par br bx C ex s3 H3 pn=>(sg_nm (i:=0) (show (["j","i","names","many"]:List Str).Nodup by decide +kernel))) (fun H0 G0 par br bx C ex s3 H3 pn hB1=>(sts_one (st_cmp (op_neD hr.units) p_eq (se_nb 0) (se_nb 1) (nomark _)))) (fun H0 G0 par br bx C ex s3 H3 pn hB1=>(se_ix ix_seq p_ix (se_nb 2) (se_op op_add p_addI (se_nb 3) (se_nb 0)) (fun _ _=>rfl))) sc__law_crown.nd)
  (@ss_one _ _ _ _ _ (ss_set (i:=3) (@SE.wv _ _ _ _ _ _ (se_op op_catR p_cat (se_nb 3) (se_comp (NB:=["other","names","i"]) (own:=1) (ixs:=[2,4]) [] rfl (cScope (by kernel_rfl)) (fun _ _=>rfl) (si_b rfl (se_nb 5)) (fun H0 G0 par br bx C ex s3 H3 pn=>(sg_nm (i:=0) (show (["other","names","i"]:List Str).Nodup by decide +kernel))) (fun H0 G0 par br bx C ex s3 H3 pn hB2=>sts_nil) (fun H0 G0 par br bx C ex s3 H3 pn hB2=>(se_tup (sa_cons (se_ix ix_seq p_ix (se_nb 1) (se_nb 2) (fun _ _=>rfl)) (sa_cons (se_nv 0 (hB2 0 (by decide))) sa_nil))))))) sc__law_crown.nd))))
  (@ss_one _ _ _ _ _ (ss_ret (se_tup (sa_cons (se_op op_mul p_mulI se_int (se_nb 1)) (sa_cons (se_type1 call_tuple_of p_tuple rfl B.tuple (by decide +kernel) (se_call1 call_sorted p_sortP rfl B.sorted (by decide +kernel) (se_nb 3))) sa_nil)))))))))⟩,fun ds β h=>runB_len ds β h⟩
abbrev s__law_any_order:Stmt:=top 40
theorem sc__law_any_order:FnScope ["box","most","kind","many","rows"] ["box","most"] (defScope s__law_any_order):=⟨rfl,rfl,rfl,by decide +kernel,rfl,by decide +kernel,by decide +kernel⟩
theorem has__law_any_order {f:Addr}{fd:FuncData}{F__law_told:List D->FR}{F__law_take F__law_crown F__law_mixed_up F__law_order:List D->Int->FB}(F:FnK K mg "_law_any_order" s__law_any_order ["box","most"] f fd)(B:BtK mg)(h__law_told:Has P w K mg base ca "_law_told" ["many","rows"] 1 F__law_told)(h__law_take:HasB P w K mg base "_law_take" ["box","many"] 1 F__law_take)(h__law_crown:HasB P w K mg base "_law_crown" ["box"] 3 F__law_crown)(h__law_mixed_up:HasB P w K mg base "_law_mixed_up" ["box","some"] 2 F__law_mixed_up)(h__law_order:HasB P w K mg base "_law_order" ["box","most"] 3 F__law_order):HasB P w K mg base "_law_any_order" ["box","most"] 4 (runB 5 1 (m__law_any_order F__law_told F__law_take F__law_crown F__law_mixed_up F__law_order)):=
 ⟨⟨f,fd,F.mg,F.F.kp,F.b,fnB_pure (ca:=ca) (N:=["box","most","kind","many","rows"]) (k:=3) F.F sc__law_any_order (by decide) fun cdv A outer s H G b E hr=>
  (@ss_cons _ _ _ _ _ _ _ (ss_set (i:=2) (se_cb 0 h__law_take (hr.mono (by decide)) passR rfl rfl (sa_cons se_int sa_nil)) sc__law_any_order.nd)
  (@ss_cons _ _ _ _ _ _ _ (ss_if (st_cmp (op_eqD hr.units) p_eq (se_nb 2) se_int (nomark _))
  (@ss_one _ _ _ _ _ (ss_ret (se_cb 0 h__law_crown (hr.mono (by decide)) passR rfl rfl sa_nil)))
  ss_nil)
  (@ss_cons _ _ _ _ _ _ _ (ss_if (st_cmp (op_eqD hr.units) p_eq (se_nb 2) se_int (nomark _))
  (@ss_cons _ _ _ _ _ _ _ (ss_set (i:=3) (se_op op_add p_addI se_int (se_cb 0 h__law_take (hr.mono (by decide)) passR rfl rfl (sa_cons (se_nv 1 rfl) sa_nil))) sc__law_any_order.nd)
  (@ss_cons _ _ _ _ _ _ _ (ss_comp (i:=4) (NB:=["side","box","many"]) (own:=1) (ixs:=[0,3]) [] rfl (cScope (by kernel_rfl)) (fun _ _=>rfl) (si_r1 rfl B.range se_int) (fun H0 G0 par br bx C ex s3 H3 pn=>(sg_nm (i:=0) (show (["side","box","many"]:List Str).Nodup by decide +kernel))) (fun H0 G0 par br bx C ex s3 H3 pn hB1=>sts_nil) (fun H0 G0 par br bx C ex s3 H3 pn hB1=>(se_type1 call_tuple_of p_tuple rfl B.tuple (by decide +kernel) (se_cb 1 h__law_mixed_up (hr.mono (by decide)) passB rfl rfl (sa_cons (@SE.wv _ _ _ _ _ _ (se_listrng rfl rfl B.list rfl B.range (se_nb 2))) sa_nil)))) sc__law_any_order.nd)
  (@ss_one _ _ _ _ _ (ss_ret (se_tup (sa_cons (se_nv 3 rfl) (sa_cons (se_call h__law_told (hr.mono (by decide)) passR rfl rfl (sa_cons (se_nv 3 rfl) (sa_cons (se_nv 4 rfl) sa_nil))) sa_nil)))))))
  ss_nil)
  (@ss_one _ _ _ _ _ (ss_ret (se_cb 0 h__law_order (hr.mono (by decide)) passR rfl rfl (sa_cons (se_nv 1 rfl) sa_nil)))))))⟩,fun ds β h=>runB_len ds β h⟩
abbrev s__law_along:Stmt:=top 41
theorem sc__law_along:FnScope ["box","order","some","found","turn","fit"] ["box","order"] (defScope s__law_along):=⟨rfl,rfl,rfl,by decide +kernel,rfl,by decide +kernel,by decide +kernel⟩
theorem has__law_along {f:Addr}{fd:FuncData}{F__law_turns F__law_leads:List D->FR}{F__law_take:List D->Int->FB}(F:FnK K mg "_law_along" s__law_along ["box","order"] f fd)(B:BtK mg)(h__law_turns:Has P w K mg base ca "_law_turns" ["order"] 2 F__law_turns)(h__law_leads:Has P w K mg base ca "_law_leads" ["order","one","other"] 1 F__law_leads)(h__law_take:HasB P w K mg base "_law_take" ["box","many"] 1 F__law_take):HasB P w K mg base "_law_along" ["box","order"] 3 (runB 6 1 (m__law_along F__law_turns F__law_leads F__law_take)):=
 ⟨⟨f,fd,F.mg,F.F.kp,F.b,fnB_pure (ca:=ca) (N:=["box","order","some","found","turn","fit"]) (k:=2) F.F sc__law_along (by decide) fun cdv A outer s H G b E hr=>
  (@ss_cons _ _ _ _ _ _ _ (ss_set (i:=2) (se_call h__law_turns (hr.mono (by decide)) passR rfl rfl (sa_cons (se_nv 1 rfl) sa_nil)) sc__law_along.nd)
  (@ss_cons _ _ _ _ _ _ _ (ss_if (st_cmp (op_eqD hr.units) p_eq (se_nb 2) (se_lst sa_nil) (nomark _))
  (@ss_one _ _ _ _ _ (ss_retW (se_lst sa_nil)))
  ss_nil)
  (@ss_cons _ _ _ _ _ _ _ (ss_setO (i:=3) (se_lst (sa_cons (se_ix ix_seq p_ix (se_nb 2) (se_cb 0 h__law_take (hr.mono (by decide)) passR rfl rfl (sa_cons (se_call1 call_len p_len rfl B.len PySem.boot_len (se_nb 2)) sa_nil)) (fun _ _=>rfl)) sa_nil)) sc__law_along.nd)
  (@ss_cons _ _ _ _ _ _ _ (ss_for PassesOwn.leaving rfl (si_r1 rfl B.range (se_cb 0 h__law_take (hr.mono (by decide)) passR rfl rfl (sa_cons se_int sa_nil))) (sg_nm (i:=4) sc__law_along.nd)
  (@ss_cons _ _ _ _ _ _ _ (ss_comp (i:=5) (NB:=["one","order","found"]) (own:=1) (ixs:=[1,3]) [1] rfl (cScope (by kernel_rfl)) (fun _ _=>rfl) (si_b rfl (se_nb 2)) (fun H0 G0 par br bx C ex s3 H3 pn=>(sg_nm (i:=0) (show (["one","order","found"]:List Str).Nodup by decide +kernel))) (fun H0 G0 par br bx C ex s3 H3 pn hB1=>(sts_one (st_val rfl (se_call h__law_leads (hr.mono (by decide)) passB rfl rfl (sa_cons (se_nv 1 (hB1 1 (by decide))) (sa_cons (se_ix ix_seq p_ix (se_nb 2) (se_un un_neg p_neg se_int) (fun _ _=>rfl)) (sa_cons (se_nv 0 (hB1 0 (by decide))) sa_nil))))))) (fun H0 G0 par br bx C ex s3 H3 pn hB1=>(se_nv 0 (hB1 0 (by decide)))) sc__law_along.nd)
  (@ss_cons _ _ _ _ _ _ _ (ss_if (STw.t (sw_or (st_cmp (op_eqD hr.units) p_eq (se_nb 5) (se_lst sa_nil) (nomark _)) (sw_or1 (STw.t (sw_and (st_val rfl (se_call h__law_leads (hr.mono (by decide)) passR rfl rfl (sa_cons (se_nv 1 rfl) (sa_cons (se_ix ix_seq p_ix (se_nb 3) (se_un un_neg p_neg se_int) (fun _ _=>rfl)) (sa_cons (se_ix ix_seq p_ix (se_nb 3) se_int (fun _ _=>rfl)) sa_nil))))) (sw_and1 (st_cmp op_gt p_gt (se_cb 0 h__law_take (hr.mono (by decide)) passR rfl rfl (sa_cons se_int sa_nil)) se_int (nomark _))) (fun _ _=>rfl)))) (fun _ _=>rfl)))
  (@ss_one _ _ _ _ _ (ss_retN 3))
  ss_nil)
  (@ss_one _ _ _ _ _ (ss_append 3 (fun _=>rfl) (se_ix ix_seq p_ix (se_nb 5) (se_cb 0 h__law_take (hr.mono (by decide)) passR rfl rfl (sa_cons (se_call1 call_len p_len rfl B.len PySem.boot_len (se_nb 5)) sa_nil)) (fun _ _=>rfl)))))))
  (@ss_one _ _ _ _ _ (ss_retN 3))))))⟩,fun ds β h=>runB_len ds β h⟩
abbrev s__law_bent:Stmt:=top 42
theorem sc__law_bent:FnScope ["box","some","many","odd","at","a","b","pair","news","kind"] ["box","some","many","odd"] (defScope s__law_bent):=⟨rfl,rfl,rfl,by decide +kernel,rfl,by decide +kernel,by decide +kernel⟩
theorem has__law_bent {f:Addr}{fd:FuncData}{F__law_take:List D->Int->FB}(F:FnK K mg "_law_bent" s__law_bent ["box","some","many","odd"] f fd)(B:BtK mg)(h__law_take:HasB P w K mg base "_law_take" ["box","many"] 1 F__law_take):HasB P w K mg base "_law_bent" ["box","some","many","odd"] 2 (runB 10 3 (m__law_bent F__law_take)):=
 ⟨⟨f,fd,F.mg,F.F.kp,F.b,fnB_pure (ca:=fun _=>0) (N:=["box","some","many","odd","at","a","b","pair","news","kind"]) (k:=1) F.F sc__law_bent (by decide) fun cdv A outer s H G b E hr=>
  (@ss_cons _ _ _ _ _ _ _ (ss_if (st_cmp (op_eqD hr.units) p_eq (se_nb 1) (se_lst sa_nil) (nomark _))
  (@ss_one _ _ _ _ _ (ss_ret (se_ix ix_seq p_ix (se_lst (sa_cons (@SE.wv _ _ _ _ _ _ (se_lst (sa_cons (se_tup (sa_cons se_int (sa_cons se_int sa_nil))) sa_nil))) (sa_cons (@SE.wv _ _ _ _ _ _ (se_lst (sa_cons (se_tup (sa_cons se_int (sa_cons (se_op op_sub p_sub (se_nb 2) se_int) sa_nil))) sa_nil))) (sa_cons (se_tup sa_nil) (sa_cons (@SE.wv _ _ _ _ _ _ (se_lst (sa_cons (se_nv 3 rfl) sa_nil))) (sa_cons (@SE.wv _ _ _ _ _ _ (se_lst (sa_cons (@SE.wv _ _ _ _ _ _ (se_lst sa_nil)) sa_nil))) sa_nil)))))) (se_cb 0 h__law_take (hr.mono (by decide)) passR rfl rfl (sa_cons se_int sa_nil)) (fun _ _=>rfl))))
  ss_nil)
  (@ss_cons _ _ _ _ _ _ _ (ss_set (i:=4) (se_cb 0 h__law_take (hr.mono (by decide)) passR rfl rfl (sa_cons (se_call1 call_len p_len rfl B.len PySem.boot_len (se_nb 1)) sa_nil)) sc__law_bent.nd)
  (@ss_cons _ _ _ _ _ _ _ (ss_asg (se_ix ix_seq p_ix (se_nb 1) (se_nb 4) (fun _ _=>rfl)) (sg_two (i:=5) (j:=6) sc__law_bent.nd))
  (@ss_cons _ _ _ _ _ _ _ (ss_set (i:=7) (se_tup (sa_cons (se_cb 0 h__law_take (hr.mono (by decide)) passR rfl rfl (sa_cons (se_nv 2 rfl) sa_nil)) (sa_cons (se_cb 0 h__law_take (hr.mono (by decide)) passR rfl rfl (sa_cons (se_nv 2 rfl) sa_nil)) sa_nil))) sc__law_bent.nd)
  (@ss_cons _ _ _ _ _ _ _ (ss_set (i:=8) (@SE.wv _ _ _ _ _ _ (se_lst (sa_cons (@SE.wv _ _ _ _ _ _ (se_lst sa_nil)) (sa_cons (@SE.wv _ _ _ _ _ _ (@se_rL _ _ _ _ (aCons (fTup (aCons (gv 5) (aCons (gv 6) aNil))) (aCons (fTup (aCons (gv 5) (aCons (gv 6) aNil))) aNil)) (([5] ++ ([6] ++ [])) ++ (([5] ++ ([6] ++ [])) ++ [])) _ [("a",5),("b",6)] (by kernel_rfl) (fun _=>rfl) (by kernel_rfl))) (sa_cons (@SE.wv _ _ _ _ _ _ (se_lst (sa_cons (se_tup (sa_cons (se_nv 6 rfl) (sa_cons (se_nv 5 rfl) sa_nil))) sa_nil))) (sa_cons (@SE.wv _ _ _ _ _ _ (se_lst (sa_cons (se_nv 7 rfl) sa_nil))) (sa_cons (@SE.wv _ _ _ _ _ _ (se_lst (sa_cons (@SE.wv _ _ _ _ _ _ (se_lst (sa_cons (se_nv 5 rfl) (sa_cons (se_nv 6 rfl) sa_nil)))) sa_nil))) (sa_cons (@SE.wv _ _ _ _ _ _ (se_lst (sa_cons (se_tup (sa_cons (se_nv 5 rfl) (sa_cons (se_cmp (op_eqD hr.units) p_eq (se_nb 6) se_int (nomark _)) sa_nil))) sa_nil))) (sa_cons (@SE.wv _ _ _ _ _ _ (se_lst (sa_cons (se_nv 3 rfl) sa_nil))) (sa_cons (@SE.wv _ _ _ _ _ _ (se_lst (sa_cons (se_tup (sa_cons (se_nv 5 rfl) (sa_cons (se_nv 6 rfl) (sa_cons se_int sa_nil)))) sa_nil))) sa_nil)))))))))) sc__law_bent.nd)
  (@ss_cons _ _ _ _ _ _ _ (ss_set (i:=9) (se_cb 0 h__law_take (hr.mono (by decide)) passR rfl rfl (sa_cons se_int sa_nil)) sc__law_bent.nd)
  (@ss_cons _ _ _ _ _ _ _ (ss_if (st_cmp op_lt p_lt (se_nb 9) se_int (nomark _))
  (@ss_one _ _ _ _ _ (ss_retW (se_op op_catR p_cat (se_op op_catR p_cat (se_slice rfl (se_nb 1) so_none (so_some (se_nb 4))) (se_ix ix_seq p_ix (se_nb 8) (se_nb 9) (fun _ _=>rfl))) (se_slice rfl (se_nb 1) (so_some (se_op op_add p_addI (se_nb 4) se_int)) so_none))))
  ss_nil)
  (@ss_one _ _ _ _ _ (ss_ret (se_ix ix_seq p_ix (se_lst (sa_cons (@SE.wv _ _ _ _ _ _ (se_backL rfl (se_nb 1))) (sa_cons (@SE.wv _ _ _ _ _ _ (se_op op_catR p_cat (se_slice rfl (se_nb 1) (so_some (se_nb 4)) so_none) (se_slice rfl (se_nb 1) so_none (so_some (se_nb 4))))) (sa_cons (se_type1 call_tuple_of p_tuple rfl B.tuple (by decide +kernel) (se_nb 1)) sa_nil)))) (se_op op_sub p_sub (se_nb 9) se_int) (fun _ _=>rfl)))))))))))⟩,fun ds β h=>runB_len ds β h⟩
abbrev s_law:Stmt:=top 43
theorem sc_law:FnScope ["script","k","box","order","odd","some","things","turn","thing","kept"] ["script"] (defScope s_law):=⟨rfl,rfl,rfl,by decide +kernel,rfl,by decide +kernel,by decide +kernel⟩
theorem has_law {f:Addr}{fd:FuncData}{F__law_box F__law_truth F_is_ring F__law_is_ring:List D->FR}{F__law_any_order F__law_odd F__law_along F__law_bent:List D->Int->FB}(F:FnK K mg "law" s_law ["script"] f fd)(B:BtK mg)(h__law_box:Has P w K mg base ca "_law_box" ["script","k"] 2 F__law_box)(h__law_truth:Has P w K mg base ca "_law_truth" ["found","due"] 1 F__law_truth)(h_is_ring:Has P w K mg base ca "is_ring" ["thing","order"] 7 F_is_ring)(h__law_is_ring:Has P w K mg base ca "_law_is_ring" ["thing","order"] 4 F__law_is_ring)(h__law_any_order:HasB P w K mg base "_law_any_order" ["box","most"] 4 F__law_any_order)(h__law_odd:HasB P w K mg base "_law_odd" ["box"] 2 F__law_odd)(h__law_along:HasB P w K mg base "_law_along" ["box","order"] 3 F__law_along)(h__law_bent:HasB P w K mg base "_law_bent" ["box","some","many","odd"] 2 F__law_bent):FnOk P w K mg base (CXr P w) 8 f fd ["script"] (spP K ca 1 (runF 10 1 (m_law F__law_box F__law_truth F_is_ring F__law_is_ring F__law_any_order F__law_odd F__law_along F__law_bent))):=
 fn_pure (N:=["script","k","box","order","odd","some","things","turn","thing","kept"]) (k:=7) F.F sc_law fun cdv A outer s H G E hr=>
  (@ss_cons _ _ _ _ _ _ _ (ss_for PassesOwn.leaving rfl (si_r1 rfl B.range (se_call2 (call_max2 rfl) p_max2 rfl B.max (by decide +kernel) se_int (se_call2 (call_min2 rfl) p_min2 rfl B.min (by decide +kernel) (se_call1 call_len p_len rfl B.len PySem.boot_len (se_nb 0)) se_int))) (sg_nm (i:=1) sc_law.nd)
  (@ss_cons _ _ _ _ _ _ _ (ss_setB (i:=2) rfl (se_callW h__law_box (hr.mono (by decide)) passR rfl rfl (sa_cons (se_nv 0 rfl) (sa_cons (se_nv 1 rfl) sa_nil))) sc_law.nd)
  (@ss_cons _ _ _ _ _ _ _ (ss_set (i:=3) (se_cb 2 h__law_any_order (hr.mono (by decide)) passR rfl rfl (sa_cons se_int sa_nil)) sc_law.nd)
  (@ss_cons _ _ _ _ _ _ _ (ss_set (i:=4) (se_cb 2 h__law_odd (hr.mono (by decide)) passR rfl rfl sa_nil) sc_law.nd)
  (@ss_cons _ _ _ _ _ _ _ (ss_set (i:=5) (se_cb 2 h__law_along (hr.mono (by decide)) passR rfl rfl (sa_cons (se_nv 3 rfl) sa_nil)) sc_law.nd)
  (@ss_cons _ _ _ _ _ _ _ (ss_setO (i:=6) (se_lst (sa_cons (se_nv 5 rfl) (sa_cons (se_nv 4 rfl) (sa_cons (@SE.wv _ _ _ _ _ _ (se_lst sa_nil)) (sa_cons (se_cb 2 h__law_along (hr.mono (by decide)) passR rfl rfl (sa_cons (se_nv 3 rfl) sa_nil)) (sa_cons (@SE.wv _ _ _ _ _ _ (se_op op_catR p_cat (se_nb 5) (se_nb 5))) sa_nil)))))) sc_law.nd)
  (@ss_cons _ _ _ _ _ _ _ (ss_for PassesOwn.leaving rfl (si_r1 rfl B.range se_int) (sg_nm (i:=7) sc_law.nd)
  (@ss_one _ _ _ _ _ (ss_append 6 (fun _=>rfl) (se_cb 2 h__law_bent (hr.mono (by decide)) passR rfl rfl (sa_cons (se_nv 5 rfl) (sa_cons (se_ix ix_seq p_ix (se_nb 3) se_int (fun _ _=>rfl)) (sa_cons (se_nv 4 rfl) sa_nil)))))))
  (@ss_one _ _ _ _ _ (ss_for PassesOwn.leaving rfl (si_v rfl (se_nv 6 rfl)) (sg_nm (i:=8) sc_law.nd)
  (@ss_cons _ _ _ _ _ _ _ (ss_set (i:=9) (se_call1 (call_reprA hr.gd hr.u1) p_reprA rfl B.repr (by decide +kernel) (se_nb 8)) sc_law.nd)
  (@ss_one _ _ _ _ _ (ss_if (STw.t (sw_or (st_not (st_val rfl (se_call h__law_truth (hr.mono (by decide)) passR rfl rfl (sa_cons (se_call h_is_ring (hr.mono (by decide)) passR rfl rfl (sa_cons (se_nv 8 rfl) (sa_cons (se_nv 3 rfl) sa_nil))) (sa_cons (se_call h__law_is_ring (hr.mono (by decide)) passR rfl rfl (sa_cons (se_nv 8 rfl) (sa_cons (se_nv 3 rfl) sa_nil))) sa_nil))))) (sw_or1 (st_cmp op_ne p_neS (se_call1 (call_reprA hr.gd hr.u1) p_reprA rfl B.repr (by decide +kernel) (se_nb 8)) (se_nb 9) (nomark _))) (fun _ _=>rfl)))
  (@ss_one _ _ _ _ _ (ss_ret se_bl))
  ss_nil))))))))))))
  (@ss_one _ _ _ _ _ (ss_ret se_bl)))
end
end RQ

end

section
namespace RO
open PySem L2
abbrev sEveryPair:Stmt:=RQ.s_every_pair
abbrev sClosed:Stmt:=RQ.top 12
abbrev Fn (K:PySem.W.Frag)(mg:Str->Option Value)(x:Str)(st:Stmt)(ps:List Str)(f:Addr)(fd:FuncData):Prop:=FnK K mg x st ps f fd
abbrev Bt (mg:Str->Option Value):Prop:=BtK mg
end RO

end

section
namespace L2
open PySem PySem.Spec PyProof.Rows
section
variable {K:PySem.W.Frag}{H H':Hp}{a:Addr}
theorem PairsV.snoc {x y:Int}(q:SqT K H a [.int x,.int y]):∀{vs:List V} {ps:List (Int×Int)},PairsV K H vs ps->PairsV K H (vs ++ [.ref a]) (ps ++ [(x,y)])
 |_,_,.nil=>.cons ⟨a,rfl,q⟩ .nil
 |_,_,.cons r t=>.cons r (PairsV.snoc q t)
theorem PairsV.len {vs:List V}{ps:List (Int×Int)}(h:PairsV K H vs ps):vs.length=ps.length:=Paired.length h
theorem PairsV.same {vs:List V}{ps:List (Int×Int)}(h:PairsV K H vs ps)(s:Same H H'):PairsV K H' vs ps:=h.grow s.grow
theorem PairsV.at {vs:List V}{ps:List (Int×Int)}{i:Nat}{v:V}(h:PairsV K H vs ps)(e:vs[i]? =some v):∃p:Int×Int,ps[i]? =some p/\∃b,v=.ref b/\SqT K H b [.int p.1,.int p.2]:=Paired.getP h e
theorem Same.put {o:HO}(s:Same H H')(h:H a=none):Same H (L2.upd H' a o):=fun b u e=>by rw [upd_ne (ne_of_none e h)];exact s b u e
end
end L2
namespace RO
open PySem L2
def compOk (N:List Str)(sc:Scope)(NB:List Str)(own:Nat)(ixs:List Nat)(scope:Scope):Bool:=
 decide (scope.kind=.function) && (scope.names.all fun y=>decide (y.2≠.cell)) && (scope.names.all fun y=>decide (scope.names.lookup y.1=some y.2)) &&
 (scope.names.all fun y=>decide (y.2=.free->(sc.names.lookup y.1=some .cell\/sc.names.lookup y.1=some .free))) && decide NB.Nodup && decide (NB.length=own + ixs.length) &&
 ((List.range ixs.length).all fun k=>decide (NB[own + k]? =N[ixs.getD k 0]?) && (match NB[own + k]? with |some x=>decide ((x,NameKind.free)∈scope.names) |none=>true))
theorem compScope {X:Cx}{NB:List Str}{own:Nat}{ixs:List Nat}{scope:Scope}(h:compOk X.N X.env.scope NB own ixs scope=true):CompScope X NB own ixs scope:=by
 unfold compOk at h
 simp only [Bool.and_eq_true,List.all_eq_true,decide_eq_true_eq,List.mem_range] at h
 obtain⟨⟨⟨⟨⟨⟨h1,h2⟩,h3⟩,h4⟩,h5⟩,h6⟩,h7⟩:=h
 refine⟨h1,h2,h3,h4,h5,h6,fun k hk=>⟨(h7 k hk).1,fun x hx=>?_⟩⟩
 have:=(h7 k hk).2
 rw [hx] at this
 simpa using this
section
variable {X:Cx}{tg l:Expr}{tl:TE}{K:PySem.W.Frag}{H H1:Hp}{a:Addr}{xs:List V}{σ:St}
def iSeq (K:PySem.W.Frag)(tl:TE):TI:=fun σ H R=>tl σ H fun x H1=>∃a xs,x=.ref a/\((SqL K H1 a xs/\R (Itl K a) H1)\/(SqT K H1 a xs/\R (Itt K a) H1))
end
theorem ixl (K:PySem.W.Frag){X:Cx}(h:X.K=K:=by rfl):IxR X (rIxL K):=by subst h;exact ix_list
theorem pg_two (K:PySem.W.Frag)(i j:Nat){X:Cx}{x y:Str}{px py pos:Pos}{k:Nat}(hN:X.N.Nodup)(hi:X.N[i]? =some x)(hj:X.N[j]? =some y)(hx:X.env.scope.names.lookup x=some .local)(hy:X.env.scope.names.lookup y=some .local)(hc:X.calm=true)(hK:X.K=K) :
  PG X (.Tuple [.Name x px,.Name y py] k pos) (gTup K 2 (gCons (gName i) (gCons (gName j) gNil))):=by
 subst hK
 exact pg_tup hc (pgs_cons (pg_name hN hi (Or.inl hx) (Or.inr hx)) (pgs_cons (pg_name hN hj (Or.inl hy) (Or.inr hy)) pgs_nil))
section
open PySem.Spec PyProof.Rows
variable {X:Cx}{tg l:Expr}{tl:TE}
theorem pi_seq (hl:PE X l tl):PI X tg l (iSeq X.K tl):=by
 intro pins s σ H R I h
 refine thn (hl pins s σ H _ I h) fun v s1 ⟨x,H1,I1,r1,q1⟩=>?_
 obtain⟨a,xs,e,q⟩:=q1
 subst e
 cases r1
 rcases q with⟨hq,q⟩ | ⟨hq,q⟩
 ·obtain⟨its,rv,p,hz⟩:=I1.list hq
  refine wpAny_pyIter_list p.isList ?_
  refine⟨s1.heap.objs.size,[s1.heap.objs.size],_,_,H1,rfl,I1.kept (t':=s1.toks) fun b o e=>Heap.get?_push_of_some _ e,turn_list a _,⟨_,Heap.get?_push_size _ rfl,rfl,rfl⟩,fun b hb=>?_,q⟩
  have e:b=s1.heap.objs.size:=by simpa using hb
  subst e
  exact I1.fpOk (Nat.le_refl _) (I1.hok.fresh (Nat.le_refl _))
 ·obtain⟨its,rv,p,hz⟩:=I1.tuple hq
  refine wpAny_pyIter_tuple (show s1.heap.IsTuple a its.toArray from p) ?_
  refine⟨s1.heap.objs.size,[s1.heap.objs.size],_,_,H1,rfl,I1.kept (t':=s1.toks) fun b o e=>Heap.get?_push_of_some _ e,turn_tuple a _,⟨_,Heap.get?_push_size _ rfl,rfl,rfl⟩,fun b hb=>?_,q⟩
  have e:b=s1.heap.objs.size:=by simpa using hb
  subst e
  exact I1.fpOk (Nat.le_refl _) (I1.hok.fresh (Nat.le_refl _))
end
section
variable {K:PySem.W.Frag}{H H1 H':Hp}{a:Addr}{xs:List V}{σ:St}
abbrev ForW (J:It)(g:TG)(tb:TS)(D:Ends)(σ:St)(H:Hp):Prop:=∃W:Nat->Nat->St->Hp->Prop,(∃m,W 0 m σ H)/\∀i m σ H,W i m σ H->
   (J.stop i H/\D.nx σ H)\/(J.go i H/\∃N:St->Hp->Prop,(∀σ' H',N σ' H'->∃m',m' < m/\W (i + 1) m' σ' H')/\∀x H',J.yld i H x H'->g x σ H' fun σ2 H2=>tb {D with nx:=N,ct:=N,bk:=D.nx} σ2 H2)
theorem sq_same (s:Same H1 H')(hq:SqL K H1 a xs\/SqT K H1 a xs):SqL K H' a xs\/SqT K H' a xs:=hq.elim (fun q=>.inl (s.seq q)) fun q=>.inr (q.grow s.grow)
theorem for_seq {g:TG}{tb:TS}{D:Ends}(hq:SqL K H1 a xs\/SqT K H1 a xs)(Pv:Nat->St->Hp->Prop)(h0:Pv 0 σ H)(hl:∀i σ H',Pv i σ H'->Same H1 H')
  (hs:∀i x σ H,xs[i]? =some x->Pv i σ H->g x σ H fun σ2 H2=>tb {D with nx:=Pv (i + 1),ct:=Pv (i + 1),bk:=D.nx} σ2 H2) (hd:∀σ H,Pv xs.length σ H->D.nx σ H) :
  (SqL K H a xs/\ForW (Itl K a) g tb D σ H)\/(SqT K H a xs/\ForW (Itt K a) g tb D σ H):=
 hq.elim (fun q=>.inl ⟨(hl _ _ _ h0).seq q,for_list Pv h0 (fun i σ H' _ p=>(hl i σ H' p).seq q) hs hd⟩) fun q=>.inr ⟨q.grow (hl _ _ _ h0).grow,for_tup Pv h0 (fun i σ H' _ p=>q.grow (hl i σ H' p).grow) hs hd⟩
def CompW (J:It)(own:Nat)(ixs:List Nat)(g:TG)(tt:TT)(te:TE)(Q:VK)(D:Addr)(σ:St)(H:Hp):Prop:=∃W:Nat->Nat->St->Hp->Prop,(∃m,W 0 m (stB own ixs σ) (upd H D (.lst [])))/\∀i m σ' H',W i m σ' H'->
   (J.stop i H'/\(∃acc,H' D=some (.lst acc))/\Q (.ref D) H')\/
   (J.go i H'/\∃N:St->Hp->Prop,(∀σ2 H2,N σ2 H2->∃m',m' < m/\W (i + 1) m' σ2 H2)/\∀x H2,J.yld i H' x H2->CompTurn g tt te D x σ' H2 N)
structure CompWant (own:Nat)(ixs:List Nat)(wi:TI)(g:TG)(tt:TT)(te:TE)(σ:St)(H:Hp)(Q:VK):Prop where
 out:wi σ H fun J H1=>∀D,H1 D=none->CompW J own ixs g tt te Q D σ H1
theorem t_comp {own:Nat}{ixs:List Nat}{wi:TI}{g:TG}{tt:TT}{te:TE}{Q:VK}(h:wi σ H fun J H1=>∀D,H1 D=none->CompW J own ixs g tt te Q D σ H1):CompWant own ixs wi g tt te σ H Q:=⟨h⟩
theorem pe_comp {X:Cx}{NB:List Str}{own:Nat}{ixs:List Nat}{scope:Scope}{tg iter elt:Expr}{ifs:List Expr}{wi:TI}{g:TG}{tt:TT}{te:TE}{pos:Pos}(hc:X.calm=true)(S:CompScope X NB own ixs scope)(hi:PI X tg iter wi)
  (hg:∀C ex s3 H3 pn,PG (blk X NB scope C ex s3 H3 pn) tg g) (ht:∀C ex s3 H3 pn,PTs (blk X NB scope C ex s3 H3 pn) ifs tt) (he:∀C ex s3 H3 pn,PE (blk X NB scope C ex s3 H3 pn) elt te)
  (hs:∀x,foldedSetIterable iter X.env x=pure x:=by intro _;rfl):PE X (.ListComp elt [⟨tg,iter,ifs,0⟩] scope pos) (CompWant own ixs wi g tt te):=
 fun pins s σ H Q I h=>pe_lcomp hc S hi hg ht he hs pins s σ H Q I h.out
section
variable {own:Nat}{ixs:List Nat}{g:TG}{tt:TT}{te:TE}{Q:VK}{D:Addr}
theorem cw_list (Pv:Nat->St->Hp->Prop)(h0:Pv 0 (stB own ixs σ) (upd H D (.lst [])))(hl:∀i σ H,i<=xs.length->Pv i σ H->SqL K H a xs)
  (hs:∀i x σ H,xs[i]? =some x->Pv i σ H->CompTurn g tt te D x σ H (Pv (i + 1))) (hd:∀σ H,Pv xs.length σ H->(∃acc,H D=some (.lst acc))/\Q (.ref D) H):CompW (Itl K a) own ixs g tt te Q D σ H:=comp_list Pv h0 hl hs hd
theorem cw_range {lo:Int}{n:Nat}(Pv:Nat->St->Hp->Prop)(h0:Pv 0 (stB own ixs σ) (upd H D (.lst [])))
  (hs:∀i σ H,i < n->Pv i σ H->CompTurn g tt te D (.int (lo + i)) σ H (Pv (i + 1))) (hd:∀σ H,Pv n σ H->(∃acc,H D=some (.lst acc))/\Q (.ref D) H):CompW (Itr lo n) own ixs g tt te Q D σ H:=comp_range Pv h0 hs hd
end
theorem ct_name1 {i:Nat}{te:TE}{D:Addr}{x:V}{N:St->Hp->Prop}(h:te (σ.set i (some x)) H fun v H5=>∃acc,H5 D=some (.lst acc)/\acc.length < sizeLine/\N (σ.set i (some x)) (upd H5 D (.lst (acc ++ [v])))):CompTurn (gName i) tYes te D x σ H N:=by
 unfold CompTurn gName tYes
 exact iteT h
theorem g_two {i j:Nat}{x y:V}{Q:St->Hp->Prop}(h:SqT K H a [x,y])(q:Q ((σ.set i (some x)).set j (some y)) H):gTup K 2 (gCons (gName i) (gCons (gName j) gNil)) (.ref a) σ H Q:=⟨a,_,rfl,h,rfl,x,_,rfl,y,_,rfl,rfl,q⟩
theorem ifT {c A B:Prop}[Decidable c](h:c)(a:A):if c then A else B:=by rw [if_pos h];exact a
theorem ifF {c A B:Prop}[Decidable c](h:¬c)(b:B):if c then A else B:=by rw [if_neg h];exact b
theorem take_snoc {α:Type}{l:List α}{i:Nat}{x:α}(h:l[i]? =some x):l.take (i + 1)=l.take i ++ [x]:=by
 rw [List.take_add_one,h];rfl
theorem take_all {α:Type}(l:List α):l.take l.length=l:=List.take_of_length_le (Nat.le_refl _)
end
theorem grid_len (n:Nat):(OM.grid n).length=n * n:=by unfold OM.grid;simp
theorem grid_at {n i:Nat}(h:i < n * n):(OM.grid n)[i]? =some (((i / n:Nat):Int),((i % n:Nat):Int)):=by
 unfold OM.grid
 rw [List.getElem?_map,List.getElem?_range h];rfl
theorem sq8 {n:Nat}(h:n<=8):n * n<=64:=Nat.mul_le_mul h h
section
variable {P:Program}{w:World}{K:PySem.W.Frag}{mg:Str->Option Value}{base:Heap}
def spEvery (K:PySem.W.Frag):Sp:=fun vs H Q _=>∃n:Nat,vs= [.int n]/\1<=n/\n<=8/\∀H' l ws,Same H H'->H l=none->H' l=some (.lst ws)->PairsV K H' ws (OM.grid n)->Q (.ref l) H'
theorem scEvery:FnScope ["many"] ["many"] (defScope sEveryPair):=⟨rfl,rfl,rfl,by decide +kernel,rfl,by decide +kernel,by decide +kernel⟩
theorem nd_nm:(["number","many"]:List Str).Nodup:=by decide +kernel
theorem ok_every {f:Addr}{fd:FuncData}(F:Fn K mg "every_pair" sEveryPair ["many"] f fd)(B:Bt mg):FnOk P w K mg base CX0 1 f fd ["many"] (spEvery K):=by
 refine F.F.ok scEvery (fun vs H Q E h=>?_) (fun cdv A outer s H vs Q E hr h=>?_)
 ·obtain⟨n,rfl,_⟩:=h;rfl
 ·obtain⟨n,rfl,h1,h8,k⟩:=h
  refine⟨_,pss_one (ps_ret (pe_comp (NB:=["number","many"]) (own:=1) (ixs:=[0]) rfl (compScope (by kernel_rfl)) (pi_range1 rfl B.range (pa_cons (pe_op op_mul (pv 0) (pv 0)) pa_nil))
   (fun C ex s3 H3 pn=>pg_name (i:=0) nd_nm rfl (Or.inl rfl) (hf:=Or.inr rfl)) (fun C ex s3 H3 pn=>pts_nil)
   (fun C ex s3 H3 pn=>pe_tup (pa_cons (pe_op op_fdiv (pv 0) (pv 1)) (pa_cons (pe_op op_mod (pv 0) (pv 1)) pa_nil))))),?_⟩
  have hn:=sq8 h8
  have e0:((n:Int) * (n:Int))=((n * n:Nat):Int):=by rw [Int.natCast_mul]
  refine t_comp ⟨_,rfl,_,rfl,_,_,rfl,rfl,.inl ⟨by omega,by omega⟩,_,rfl,by rw [e0];omega,by rw [e0];omega,fun D hD=>?_⟩
  rw [e0,Int.toNat_natCast]
  refine cw_range (fun i σ' H'=>(∃v,σ'= [v,some (.int n)])/\Same H H'/\∃vs,H' D=some (.lst vs)/\PairsV K H' vs ((OM.grid n).take i)) ⟨⟨none,rfl⟩,(Same.refl H).put hD,[],upd_same,.nil⟩ ?_ ?_
  ·rintro i σ' H' hi ⟨⟨v,rfl⟩,s1,vs,hv,hp⟩
   have hn0:(0:Int) < (n:Int):=by omega
   refine ct_name1 ⟨_,rfl,_,rfl,_,_,rfl,rfl,⟨hn0,by omega⟩,_,rfl,_,rfl,_,_,rfl,rfl,hn0,by show 2<=sizeLine;rw [sizeLine_eq];omega,fun p hp0=>?_⟩
   have hpD:D≠p:=ne_of_none hv hp0
   have hl:=hp.len
   refine⟨vs,by rw [upd_ne hpD];exact hv,?_,⟨_,rfl⟩,?_,vs ++ [.ref p],upd_same,?_⟩
   ·rw [hl,List.length_take,sizeLine_eq];rw [grid_len];omega
   ·exact (s1.put (s1.free hp0)).put hD
   ·rw [take_snoc (grid_at hi)]
    have g1:Grow H' (upd H' p (.tup [.int ((0 + (i:Int)) / n),.int ((0 + (i:Int)) % n)])):=Grow.new hp0
    have g2:∀o,Grow (upd H' p (.tup [.int ((0 + (i:Int)) / n),.int ((0 + (i:Int)) % n)])) (upd (upd H' p (.tup [.int ((0 + (i:Int)) / n),.int ((0 + (i:Int)) % n)])) D o):=fun o=>Grow.list (by rw [upd_ne hpD];exact hv)
    refine PairsV.snoc ?_ (hp.grow (g1.trans (g2 _)))
    refine (SqT.grow ?_ (g2 _))
    refine .inl (.inl ?_)
    rw [upd_same,Int.zero_add];rfl
  ·rintro σ' H' ⟨_,s1,vs,hv,hp⟩
   refine⟨⟨_,hv⟩,k H' D vs s1 hD hv ?_⟩
   rw [<-grid_len n,take_all] at hp
   exact hp
end
end RO

end

section
namespace RO
open PySem L2
structure TabAt (n:Nat)(M:OM.Tb)(L:Addr)(r:Nat->Addr)(H:Hp):Prop where
 top:H L=some (.lst ((List.range n).map fun i=>V.ref (r i)))
 row:∀i,i < n->H (r i)=some (.lst ((List.range n).map fun j=>V.bl (M i j)))
 inj:∀i j,i < n->j < n->r i=r j->i=j
 ne:∀i,i < n->r i≠L
theorem ixN_nat {n x:Nat}(h:x < n):ixN n (x:Int)=some x:=by
 unfold ixN;rw [if_pos (by omega),if_pos (by omega)];simp
theorem at_nat {α:Type}{xs:List α}{x:Nat}(h:x < xs.length):atI xs (x:Int)=xs[x]?:=by
 unfold atI;rw [ixN_nat h];rfl
theorem at_range {f:Nat->V}{n x:Nat}(h:x < n):atI ((List.range n).map f) (x:Int)=some (f x):=by
 rw [at_nat (by simpa using h),List.getElem?_map,List.getElem?_range h];rfl
theorem ixN_range {f:Nat->V}{n x:Nat}(h:x < n):ixN ((List.range n).map f).length (x:Int)=some x:=by
 rw [List.length_map,List.length_range];exact ixN_nat h
theorem range_set {f:Nat->V}{n y:Nat}{v:V}:((List.range n).map f).set y v=(List.range n).map fun j=>if j=y then v else f j:=by
 apply List.ext_getElem?
 intro i
 by_cases hi:i < n
 ·by_cases e:y=i
  ·subst e;simp [List.getElem?_set,hi]
  ·have e':¬i=y:=fun z=>e z.symm
   simp [List.getElem?_set,hi,e,e']
 ·rw [List.getElem?_eq_none (by simp;omega),List.getElem?_eq_none (by simp;omega)]
section
variable {n:Nat}{M:OM.Tb}{L:Addr}{r:Nat->Addr}{H H':Hp}
theorem TabAt.set (T:TabAt n M L r H){x y:Nat}(hx:x < n):TabAt n (M.set x y) L r (upd H (r x) (.lst (((List.range n).map fun j=>V.bl (M x j)).set y (.bl true)))):=by
 refine⟨by rw [upd_ne (T.ne x hx).symm];exact T.top,fun i hi=>?_,T.inj,T.ne⟩
 by_cases e:i=x
 ·subst e
  rw [upd_same,range_set]
  refine congrArg _ (congrArg _ (List.map_congr_left fun j _=>?_))
  unfold OM.Tb.set
  by_cases c:j=y
  ·simp [c]
  ·simp [c]
 ·rw [upd_ne (fun z=>e (T.inj i x hi hx z)),T.row i hi]
  refine congrArg _ (congrArg _ (List.map_congr_left fun j _=>?_))
  unfold OM.Tb.set;simp [e]
theorem TabAt.same (T:TabAt n M L r H)(s:Same H H'):TabAt n M L r H':=⟨s _ _ T.top,fun i hi=>s _ _ (T.row i hi),T.inj,T.ne⟩
end
theorem wn_nat {n:Nat}{ps:List (Int×Int)}(w:OM.Wn n ps){p:Int×Int}(h:p∈ps):∃u v:Nat,p=((u:Int),(v:Int))/\u < n/\v < n:=by
 obtain⟨x,y⟩:=p
 have q:=w _ h
 simp only at q
 exact⟨x.toNat,y.toNat,by rw [Int.toNat_of_nonneg q.1.1,Int.toNat_of_nonneg q.2.1],by omega,by omega⟩
theorem phase_congr {M0 M:OM.Tb}{m:Nat}{D D':Nat->Nat->Prop}(P:OM.Phase M0 M m D)(h:∀a b,D a b↔D' a b):OM.Phase M0 M m D':=fun a b=>by rw [P a b,h a b]
theorem mem_snoc2 {l:List (Int×Int)}{u v a b:Nat}:(((a:Int),(b:Int))∈l\/(a=u/\b=v))↔((a:Int),(b:Int))∈l ++ [((u:Int),(v:Int))]:=by
 rw [List.mem_append,List.mem_singleton,Prod.mk.injEq]
 constructor
 ·rintro (h | ⟨h1,h2⟩)
  ·exact .inl h
  ·exact .inr ⟨by omega,by omega⟩
 ·rintro (h | ⟨h1,h2⟩)
  ·exact .inl h
  ·exact .inr ⟨by omega,by omega⟩
theorem set_iff {M:OM.Tb}{u v a b:Nat}:M.set u v a b=true↔M a b=true\/(a=u/\b=v):=by
 unfold OM.Tb.set
 by_cases c:a=u/\b=v
 ·simp [c]
 ·rw [if_neg c];exact⟨.inl,fun h=>h.resolve_right c⟩
theorem flat1 (n:Nat)(x:V):(List.replicate n [x]).flatten=(List.range n).map fun _=>x:=by
 rw [List.flatten_replicate_singleton,List.map_const',List.length_range]
section
variable {P:Program}{w:World}{K:PySem.W.Frag}{mg:Str->Option Value}{base:Heap}
def spClosed (K:PySem.W.Frag):Sp:=fun vs H Q _=>∃(n:Nat) (a:Addr) (xs:List V) (ps:List (Int×Int)),vs= [.int n,.ref a]/\1<=n/\n<=8/\(SqL K H a xs\/SqT K H a xs)/\PairsV K H xs ps/\OM.Wn n ps/\
 ∀H' t ws,Same H H'->H t=none->H' t=some (.tup ws)->PairsV K H' ws (OM.filt n (OM.Tr (OM.Mem ps)))->Q (.ref t) H'
theorem scClosed:FnScope ["many","pairs","corners","leads","a","b","middle"] ["many","pairs"] (defScope sClosed):=⟨rfl,rfl,rfl,by decide +kernel,rfl,by decide +kernel,by decide +kernel⟩
theorem nd_sm:(["start","many"]:List Str).Nodup:=by decide +kernel
theorem nd_abl:(["a","b","leads"]:List Str).Nodup:=by decide +kernel
set_option maxHeartbeats 1000000 in
theorem ok_closed {f g:Addr}{fd gd:FuncData}(F:Fn K mg "closed" sClosed ["many","pairs"] f fd)(G:Fn K mg "every_pair" sEveryPair ["many"] g gd)(GE:FnOk P w K mg base CX0 1 g gd ["many"] (spEvery K))(B:Bt mg):FnOk P w K mg base CX0 2 f fd ["many","pairs"] (spClosed K):=by
 refine F.F.ok scClosed (fun vs H Q E h=>?_) (fun cdv A outer s H vs Q E hr h=>?_)
 ·obtain⟨n,a,xs,ps,rfl,_⟩:=h;rfl
 ·obtain⟨n,a,xs,ps,rfl,h1,h8,hq,hp,wn,k⟩:=h
  refine⟨_,pss_cons (ps_set (i:=2) scClosed.nd rfl (Or.inl rfl) (pe_call GE hr rfl G.mg G.F.kp G.b .nil pass0 (pa_cons (pv 0) pa_nil)))
   (pss_cons (ps_set (i:=3) scClosed.nd rfl (Or.inr rfl) (pe_comp (NB:=["start","many"]) (own:=1) (ixs:=[0]) rfl (compScope (by kernel_rfl)) (pi_range1 rfl B.range (pa_cons (pv 0) pa_nil))
    (fun C ex s3 H3 pn=>pg_name (i:=0) nd_sm rfl (Or.inl rfl) (hf:=Or.inr rfl)) (fun C ex s3 H3 pn=>pts_nil) (fun C ex s3 H3 pn=>pe_op op_rep (pe_lst (pa_cons pe_bl pa_nil)) (pv 1))))
   (pss_cons (ps_for PassesOwn.never rfl (pi_seq (pv 1)) (pg_tup rfl (pgs_cons (pg_name (i:=4) scClosed.nd rfl (Or.inl rfl)) (pgs_cons (pg_name (i:=5) scClosed.nd rfl (Or.inl rfl)) pgs_nil)))
    (pss_one (ps_asg pe_bl (pg_sub (pe_ix ix_list (pv 3) (pv 4) (fun _ _=>rfl)) (pv 5) set_list))))
   (pss_cons (ps_for PassesOwn.never rfl (pi_range1 rfl B.range (pa_cons (pv 0) pa_nil)) (pg_name (i:=6) scClosed.nd rfl (Or.inl rfl))
    (pss_one (ps_for PassesOwn.never rfl (pi_list (pv 2)) (pg_tup rfl (pgs_cons (pg_name (i:=4) scClosed.nd rfl (Or.inl rfl)) (pgs_cons (pg_name (i:=5) scClosed.nd rfl (Or.inl rfl)) pgs_nil)))
     (pss_one (ps_if (PW.pt (pw_and (pt_val (pe_ix ix_list (pe_ix ix_list (pv 3) (pv 4) (fun _ _=>rfl)) (pv 6) (fun _ _=>rfl))) (pw_and1 (pt_val (pe_ix ix_list (pe_ix ix_list (pv 3) (pv 6) (fun _ _=>rfl)) (pv 5) (fun _ _=>rfl))))))
      (pss_one (ps_asg pe_bl (pg_sub (pe_ix ix_list (pv 3) (pv 4) (fun _ _=>rfl)) (pv 5) set_list))) pss_nil)))))
   (pss_one (ps_ret (pe_callTy call_tuple_of rfl B.tuple (by decide +kernel) (pa_cons (pe_comp (NB:=["a","b","leads"]) (own:=2) (ixs:=[3]) rfl (compScope (by kernel_rfl)) (pi_list (pv 2))
    (fun C ex s3 H3 pn=>pg_two K 0 1 nd_abl rfl rfl rfl rfl rfl rfl)
    (fun C ex s3 H3 pn=>pts_one (pt_val (pe_ix (ixl K) (pe_ix (ixl K) (pv 2) (pv 0) (fun _ _=>rfl)) (pv 1) (fun _ _=>rfl)))) (fun C ex s3 H3 pn=>pe_tup (pa_cons (pv 0) (pa_cons (pv 1) pa_nil)))) pa_nil))))))),?_⟩
  have hn:=sq8 h8
  have hn0:(0:Int)<=(n:Int):=by omega
  refine⟨_,rfl,n,rfl,h1,h8,fun H1 c ws s1 hc0 hc hw=>?_⟩
  have hwl:ws.length=n * n:=by rw [hw.len,grid_len]
  have gw:OM.Wn n (OM.grid n):=fun p hp=>OM.mem_grid.mp hp
  refine t_comp ?_
  refine⟨_,rfl,n,rfl,by omega,by omega,fun D hD=>?_⟩
  rw [Int.toNat_natCast]
  refine cw_range (fun i σ' H'=>(∃v,σ'= [v,some (.int n)])/\Same H1 H'/\∃r:Nat->Addr,H' D=some (.lst ((List.range i).map fun k=>V.ref (r k)))/\
   (∀k,k < i->H' (r k)=some (.lst ((List.range n).map fun _=>V.bl false))/\H1 (r k)=none/\r k≠D)/\∀j k,j < i->k < i->r j=r k->j=k)
   ?_ ?_ ?_
  ·exact⟨⟨none,rfl⟩,(Same.refl H1).put hD,fun _=>0,upd_same,fun k hk=>absurd hk (Nat.not_lt_zero _),fun j k hj=>absurd hj (Nat.not_lt_zero _)⟩
  ·rintro i σ' H' hi ⟨⟨v,rfl⟩,s2,r,hr0,hr1,hr2⟩
   refine ct_name1 ⟨by show 1<=sizeLine;rw [sizeLine_eq];omega,fun p hp0=>⟨_,rfl,p,n,[.bl false],rfl,rfl,upd_same,by omega,by omega,by show 1 * (n:Int).toNat<=sizeLine;rw [sizeLine_eq];omega,fun q hq0=>?_⟩⟩
   have hqp:q≠p:=by intro e;subst e;rw [upd_same] at hq0;cases hq0
   have hq1:H' q=none:=by rw [upd_ne hqp] at hq0;exact hq0
   have hDp:D≠p:=ne_of_none hr0 hp0
   have hDq:D≠q:=ne_of_none hr0 hq1
   rw [Int.toNat_natCast,flat1]
   refine⟨_,by rw [upd_ne hDq,upd_ne hDp];exact hr0,by rw [List.length_map,List.length_range,sizeLine_eq];omega,⟨_,rfl⟩,((s2.put (s2.free hp0)).put (s2.free hq1)).put hD,fun k=>if k=i then q else r k,?_,fun k hk=>?_,fun j k hj hk e=>?_⟩
   ·have e:(List.range i).map (fun k=>V.ref (r k))=(List.range i).map (fun k=>V.ref (if k=i then q else r k)):=List.map_congr_left fun k hk=>by
     have:=List.mem_range.mp hk
     rw [if_neg (by omega)]
    rw [upd_same,List.range_succ,List.map_append,e]
    simp
   ·dsimp only
    by_cases e:k=i
    ·rw [if_pos e]
     exact⟨by rw [upd_ne hDq.symm,upd_same],s2.free hq1,hDq.symm⟩
    ·rw [if_neg e]
     obtain⟨a1,a2,a3⟩:=hr1 k (by omega)
     exact⟨by rw [upd_ne a3,upd_ne (ne_of_none a1 hq1),upd_ne (ne_of_none a1 hp0)];exact a1,a2,a3⟩
   ·dsimp only at e
    by_cases ej:j=i
    ·by_cases ek:k=i
     ·omega
     ·rw [if_pos ej,if_neg ek] at e
      exact absurd e.symm (ne_of_none (hr1 k (by omega)).1 hq1)
    ·by_cases ek:k=i
     ·rw [if_neg ej,if_pos ek] at e
      exact absurd e (ne_of_none (hr1 j (by omega)).1 hq1)
     ·rw [if_neg ej,if_neg ek] at e
      exact hr2 j k (by omega) (by omega) e
  rintro σ2 H2 ⟨_,s2,r,hr0,hr1,hr2⟩
  refine⟨⟨_,hr0⟩,?_⟩
  have sep:∀i,i < n->H1 (r i)=none:=fun i hi=>(hr1 i hi).2.1
  have T0:TabAt n (fun _ _=>false) D r H2:=⟨hr0,fun i hi=>(hr1 i hi).1,hr2,fun i hi=>(hr1 i hi).2.2⟩
  refine⟨_,rfl,a,xs,rfl,for_seq (H1:=H1) (sq_same s1 hq) (fun i σ' H'=>(∃x y,σ'= [some (.int n),some (.ref a),some (.ref c),some (.ref D),x,y,none])/\Same H1 H'/\∃M,TabAt n M D r H'/\∀u v:Nat,M u v=true↔((u:Int),(v:Int))∈ps.take i)
   ⟨⟨none,none,rfl⟩,s2,_,T0,fun u v=>by simp⟩ (fun i σ' H' q=>q.2.1) ?_ ?_⟩
  ·rintro i x σ' H' hx ⟨⟨_,_,rfl⟩,s3,M,T,hM⟩
   obtain⟨p,hpi,b,rfl,hb⟩:=(hp.same (s1.trans s3)).at hx
   obtain⟨u,v,rfl,hu,hv⟩:=wn_nat wn (List.mem_of_getElem? hpi)
   refine g_two hb ?_
   refine⟨_,rfl,_,rfl,D,_,u,_,rfl,rfl,.inl (.inl T.top),at_range hu,_,rfl,r u,_,v,v,rfl,rfl,T.row u hu,ixN_range hv,⟨_,_,rfl⟩,s3.put (sep u hu),_,T.set hu,fun x y=>?_⟩
   rw [take_snoc hpi,<-mem_snoc2,set_iff,hM]
  rintro σ3 H3 ⟨⟨x3,y3,rfl⟩,s3,M3,T3,hM3⟩
  rw [hp.len,take_all] at hM3
  refine⟨_,rfl,n,rfl,by omega,by omega,?_⟩
  rw [Int.toNat_natCast]
  refine for_range (fun m σ' H'=>(∃x y z,σ'= [some (.int n),some (.ref a),some (.ref c),some (.ref D),x,y,z])/\Same H1 H'/\∃M,TabAt n M D r H'/\OM.Tab n ps M/\OM.Thru M m)
   ⟨⟨_,_,_,rfl⟩,s3,M3,T3,⟨fun a b h=>by have:=wn _ ((hM3 a b).mp h);simp only at this;omega,fun a b h=>(hM3 a b).mpr h,fun a b h=>.one ((hM3 a b).mp h)⟩,fun k a b hk=>absurd hk (Nat.not_lt_zero _)⟩ ?_ ?_
  ·rintro m σ' H' hm ⟨⟨_,_,_,rfl⟩,s4,M,T,TT,Th⟩
   rw [Int.zero_add]
   refine⟨_,rfl,c,rfl,⟨ws,.inl (.inl (s4 _ _ hc))⟩,for_list (xs:=ws) (fun i σ' H'=>(∃x y,σ'= [some (.int n),some (.ref a),some (.ref c),some (.ref D),x,y,some (.int m)])/\Same H1 H'/\∃M',TabAt n M' D r H'/\OM.Phase M M' m fun u v=>((u:Int),(v:Int))∈(OM.grid n).take i)
    ⟨⟨_,_,rfl⟩,s4,M,T,phase_congr (OM.Phase.start M m) fun a b=>by simp⟩ (fun i σ' H' _ q=>.inl (.inl (q.2.1 _ _ hc))) ?_ ?_⟩
   ·rintro i x σ' H' hx ⟨⟨_,_,rfl⟩,s5,M',T',Ph⟩
    obtain⟨p,hpi,b,rfl,hb⟩:=(hw.same s5).at hx
    obtain⟨u,v,rfl,hu,hv⟩:=wn_nat gw (List.mem_of_getElem? hpi)
    refine g_two hb ?_
    have st:=Ph.step u v
    refine⟨_,rfl,_,rfl,D,_,u,_,rfl,rfl,.inl (.inl T'.top),at_range hu,_,rfl,r u,_,m,_,rfl,rfl,.inl (.inl (T'.row u hu)),at_range hm,_,rfl,?_⟩
    by_cases c1:M' u m=true
    ·refine ifT c1 ?_
     refine⟨_,rfl,_,rfl,D,_,m,_,rfl,rfl,.inl (.inl T'.top),at_range hm,_,rfl,r m,_,v,_,rfl,rfl,.inl (.inl (T'.row m hm)),at_range hv,_,rfl,?_⟩
     by_cases c2:M' m v=true
     ·refine ifT c2 ?_
      rw [if_pos ⟨c1,c2⟩] at st
      refine⟨_,rfl,_,rfl,D,_,u,_,rfl,rfl,.inl (.inl T'.top),at_range hu,_,rfl,r u,_,v,v,rfl,rfl,T'.row u hu,ixN_range hv,⟨_,_,rfl⟩,s5.put (sep u hu),_,T'.set hu,phase_congr st fun a b=>?_⟩
      rw [take_snoc hpi];exact mem_snoc2
     ·refine ifF c2 ?_
      rw [if_neg fun z=>c2 z.2] at st
      refine⟨⟨_,_,rfl⟩,s5,_,T',phase_congr st fun a b=>?_⟩
      rw [take_snoc hpi];exact mem_snoc2
    ·refine ifF c1 ?_
     rw [if_neg fun z=>c1 z.1] at st
     refine iteF ⟨⟨_,_,rfl⟩,s5,_,T',phase_congr st fun a b=>?_⟩
     rw [take_snoc hpi];exact mem_snoc2
   ·rintro σ' H' ⟨⟨_,_,rfl⟩,s5,M',T',Ph⟩
    rw [hw.len,take_all] at Ph
    have dn:=Ph.done (n:=n) (fun a b ha hb=>OM.mem_grid.mpr ⟨⟨by simp,by simp;omega⟩,by simp,by simp;omega⟩) TT.inn Th
    exact⟨⟨_,_,_,rfl⟩,s5,M',T',TT.phase Ph,dn.1⟩
  rintro σ4 H4 ⟨⟨x4,y4,z4,rfl⟩,s4,M,T,TT,Th⟩
  refine t_comp ⟨_,rfl,c,rfl,⟨ws,.inl (.inl (s4 _ _ hc))⟩,fun D' hD'=>cw_list (xs:=ws) (fun i σ' H'=>(∃x y,σ'= [x,y,some (.ref D)])/\Same H4 H'/\∃vs,H' D'=some (.lst vs)/\PairsV K H' vs (((OM.grid n).take i).filter fun p=>M p.1.toNat p.2.toNat))
   ⟨⟨_,_,rfl⟩,(Same.refl H4).put hD',[],upd_same,.nil⟩ (fun i σ' H' _ q=>.inl (.inl (q.2.1 _ _ (s4 _ _ hc)))) ?_ ?_⟩
  ·rintro i x σ' H' hx ⟨⟨_,_,rfl⟩,s5,vs,hv,hpv⟩
   obtain⟨p,hpi,b,rfl,hb⟩:=(hw.same (s4.trans s5)).at hx
   obtain⟨u,v,rfl,hu,hv'⟩:=wn_nat gw (List.mem_of_getElem? hpi)
   refine g_two hb ?_
   have T':=T.same s5
   refine⟨_,rfl,_,rfl,D,_,u,_,rfl,rfl,.inl (.inl T'.top),at_range hu,_,rfl,r u,_,v,_,rfl,rfl,.inl (.inl (T'.row u hu)),at_range hv',_,rfl,?_⟩
   by_cases c1:M u v=true
   ·refine ifT c1 ?_
    refine⟨_,rfl,_,rfl,by show 2<=sizeLine;rw [sizeLine_eq];omega,fun p hp0=>?_⟩
    have hpD:D'≠p:=ne_of_none hv hp0
    refine⟨vs,by rw [upd_ne hpD];exact hv,?_,⟨_,_,rfl⟩,(s5.put (s5.free hp0)).put hD',_,upd_same,?_⟩
    ·rw [hpv.len]
     refine Nat.lt_of_le_of_lt (List.length_filter_le ..) ?_
     rw [List.length_take,grid_len,sizeLine_eq];omega
    ·rw [take_snoc hpi,List.filter_append,List.filter_cons_of_pos (by simpa using c1),List.filter_nil]
     have g1:Grow H' (upd H' p (.tup [.int u,.int v])):=Grow.new hp0
     have g2:∀o,Grow (upd H' p (.tup [.int u,.int v])) (upd (upd H' p (.tup [.int u,.int v])) D' o):=fun o=>Grow.list (by rw [upd_ne hpD];exact hv)
     refine PairsV.snoc ?_ (hpv.grow (g1.trans (g2 _)))
     exact SqT.grow (.inl (.inl upd_same)) (g2 _)
   ·refine ifF c1 ?_
    refine⟨⟨_,_,rfl⟩,s5,vs,hv,?_⟩
    rw [take_snoc hpi,List.filter_append,List.filter_cons_of_neg (by simpa using c1),List.filter_nil,List.append_nil]
    exact hpv
  ·rintro σ' H' ⟨_,s5,vs,hv,hpv⟩
   rw [hw.len,take_all] at hpv
   refine⟨⟨_,hv⟩,D',vs,rfl,.inl ⟨.inl (.inl hv),fun t ht=>?_⟩⟩
   have sA:Same H H':=(s1.trans s4).trans s5
   refine k _ t vs (sA.put (sA.free ht)) (sA.free ht) upd_same ?_
   have e:((OM.grid n).filter fun p=>M p.1.toNat p.2.toNat)=OM.filt n (OM.Tr (OM.Mem ps)):=by
    unfold OM.filt
    refine List.filter_congr fun p hp=>?_
    obtain⟨u,v,rfl,hu,hv⟩:=wn_nat gw hp
    have:=TT.all wn Th u v
    simp only [Int.toNat_natCast]
    rw [Bool.eq_iff_iff,this]
    simp
   rw [e] at hpv
   exact hpv.grow (Grow.new ht)
end
end RO

end

section
namespace RO
open PySem L2 RM
section
variable {P:Program}{w:World}{K:PySem.W.Frag}{mg:Str->Option Value}{base:Heap}{ca:Str->Addr}
theorem fnR {k:Nat}{f:Addr}{fd:FuncData}{ps:List Str}{sp:Sp}(F:FnOk P w K mg base CX0 k f fd ps sp):FnOk P w K mg base (CXr P w) k f fd ps sp:=
 ⟨F.len,fun A outer s H args us vs Q E hr he hb hv hs=>codeAny_mono (F.run A outer s H args us vs Q E hr he hb hv hs) fun r s' h=>by
  cases r with
  |ok x=>cases x <;> exact h
  |error e=>exact h.elim⟩
theorem pairs_tupG {G H:Hp}(s:Same G H){ws:List V}{ps:List Pr}(h:PairsV K H ws ps):PairsV K (tupG G H) ws ps:=Paired.mapP h fun v p ⟨a,e,q⟩=>⟨a,e,tupG_sqT s q⟩
theorem closedF_ok {ds:List D}(h:closedF ds≠.bad):∃(n:Nat) (d:D) (ps:List Pr),ds= [.int n,d]/\seqD d=some (ps.map prD)/\1<=n/\n<=8/\OM.Wn n ps/\closedF ds=.ok (.tuple ((OM.filt n (OM.Tr (OM.Mem ps))).map prD)) false:=by
 unfold closedF at h
 split at h
 ·rename_i n d
  cases q:seqD d with
  |none=>rw [q] at h;exact absurd rfl h
  |some es=>
   rw [q] at h
   dsimp only at h
   cases q2:pairsP es with
   |none=>rw [q2] at h;exact absurd rfl h
   |some ps=>
    rw [q2] at h
    dsimp only at h
    by_cases c:1<=n/\n<=8/\OM.Wn n.toNat ps
    ·have e:((n.toNat:Nat):Int)=n:=by omega
     refine⟨n.toNat,d,ps,by rw [e],by rw [q,pairsP_eq q2],by omega,by omega,c.2.2,?_⟩
     unfold closedF
     dsimp only
     rw [q]
     dsimp only
     rw [q2]
     dsimp only
     rw [if_pos c]
    ·rw [if_neg c] at h;exact absurd rfl h
 ·exact absurd rfl h
theorem has_closed {f g:Addr}{fd gd:FuncData}(F:FnK K mg "closed" sClosed ["many","pairs"] f fd)(E:FnK K mg "every_pair" sEveryPair ["many"] g gd)(B:BtK mg):Has P w K mg base ca "closed" ["many","pairs"] 3 closedF:=by
 refine⟨⟨f,fd,F.mg,F.F.kp,F.b,((fnR (ok_closed F E (ok_every E B) B)).mono (by decide)).imp ?_⟩,fun ds h=>?_⟩
 ·rintro vs H Q X ⟨G,ds,s,hl,r,h⟩
  have hb:closedF ds≠.bad:=fun z=>by rw [z] at h;exact h
  obtain⟨n,d,ps,rfl,hd,h1,h8,wn,e⟩:=closedF_ok hb
  rw [e] at h
  cases r with
  |cons r1 r=>
   cases r with
   |cons r2 r=>
    cases r
    cases r1
    obtain⟨a,xs,rfl,hq,hr⟩:=(Brw.seq (B:=none) (G:=G) (H:=G) (.inl r2) hd (Same.refl _))
    refine⟨n,a,xs,ps,rfl,h1,h8,hq.elim (fun q=>.inl (s.seq q)) (fun q=>.inr (q.grow s.grow)),(hr.pairs).grow s.grow,wn,fun H' t ws hh ht ht' hp=>?_⟩
    have s2:=s.trans hh
    refine h (.ref t) (tupG G H') H' hh tupG_same (tupG_sub s2) (fun b m hb=>by rw [tupG_on hh m];exact hb) ?_
    exact .tup (tupG_sqT s2 (.inl (.inl ht'))) (PairsV.rps (pairs_tupG s2 hp))
 ·obtain⟨n,d,ps,rfl,_⟩:=closedF_ok h
  rfl
end
end RO

end

section
namespace RO
open PySem L2 RM
def spLaw (K:PySem.W.Frag):Sp:=fun vs H Q _=>∃(a:Addr) (ns:List Int),vs= [.ref a]/\SqL K H a (ns.map V.int)/\∀H',Same H H'->Q (.bl true) H'
theorem law_sp {K:PySem.W.Frag}{ca:Str->Addr}(vs:List V)(H:Hp)(Q:VK)(E:XK)(h:spLaw K vs H Q E):spP K ca 1 lawF vs H Q E:=by
 obtain⟨a,ns,rfl,hS,q⟩:=h
 refine⟨H,[scrD ns],Same.refl _,rfl,.cons (.scr hS) .nil,?_⟩
 rw [r_law]
 intro v G' H' s1 s2 s3 s4 fv
 have fv:Rp K G' v (.bool true):=fv
 cases fv
 exact q H' s1
theorem b_is_whole:BindOk "is_whole" RQ.s_is_whole ["thing"]:=fun _ _ _ _ _ _=>ln1 fun _=>rfl
theorem b_is_below:BindOk "is_below" RQ.s_is_below ["thing","bound"]:=fun _ _ _ _ _ _=>ln2 fun _ _=>rfl
theorem b_is_many:BindOk "is_many" RQ.s_is_many ["thing"]:=fun _ _ _ _ _ _=>ln1 fun _=>rfl
theorem b_is_pair:BindOk "is_pair" RQ.s_is_pair ["thing","many"]:=fun _ _ _ _ _ _=>ln2 fun _ _=>rfl
theorem b_every_pair:BindOk "every_pair" RQ.s_every_pair ["many"]:=fun _ _ _ _ _ _=>ln1 fun _=>rfl
theorem b_closed:BindOk "closed" sClosed ["many","pairs"]:=fun _ _ _ _ _ _=>ln2 fun _ _=>rfl
theorem b_has_ring:BindOk "has_ring" RQ.s_has_ring ["pairs"]:=fun _ _ _ _ _ _=>ln1 fun _=>rfl
theorem b_is_order:BindOk "is_order" RQ.s_is_order ["thing"]:=fun _ _ _ _ _ _=>ln1 fun _=>rfl
theorem b_need_order:BindOk "need_order" RQ.s_need_order ["thing"]:=fun _ _ _ _ _ _=>ln1 fun _=>rfl
theorem b_are_apart:BindOk "are_apart" RQ.s_are_apart ["order","a","b"]:=fun _ _ _ _ _ _=>ln3 fun _ _ _=>rfl
theorem b_is_turn:BindOk "is_turn" RQ.s_is_turn ["thing","order"]:=fun _ _ _ _ _ _=>ln2 fun _ _=>rfl
theorem b_are_turns:BindOk "are_turns" RQ.s_are_turns ["thing","order"]:=fun _ _ _ _ _ _=>ln2 fun _ _=>rfl
theorem b_leads_on:BindOk "leads_on" RQ.s_leads_on ["order","turn","other"]:=fun _ _ _ _ _ _=>ln3 fun _ _ _=>rfl
theorem b_goes_round:BindOk "goes_round" RQ.s_goes_round ["thing","order"]:=fun _ _ _ _ _ _=>ln2 fun _ _=>rfl
theorem b_is_ring:BindOk "is_ring" RQ.s_is_ring ["thing","order"]:=fun _ _ _ _ _ _=>ln2 fun _ _=>rfl
theorem b__law_cell:BindOk "_law_cell" RQ.s__law_cell ["script","k"]:=fun _ _ _ _ _ _=>ln2 fun _ _=>rfl
theorem b__law_mix:BindOk "_law_mix" RQ.s__law_mix ["cell","k"]:=fun _ _ _ _ _ _=>ln2 fun _ _=>rfl
theorem b__law_box:BindOk "_law_box" RQ.s__law_box ["script","k"]:=fun _ _ _ _ _ _=>ln2 fun _ _=>rfl
theorem b__law_take:BindOk "_law_take" RQ.s__law_take ["box","many"]:=fun _ _ _ _ _ _=>ln2 fun _ _=>rfl
theorem b__law_whole:BindOk "_law_whole" RQ.s__law_whole ["thing"]:=fun _ _ _ _ _ _=>ln1 fun _=>rfl
theorem b__law_truth:BindOk "_law_truth" RQ.s__law_truth ["found","due"]:=fun _ _ _ _ _ _=>ln2 fun _ _=>rfl
theorem b__law_odd:BindOk "_law_odd" RQ.s__law_odd ["box"]:=fun _ _ _ _ _ _=>ln1 fun _=>rfl
theorem b__law_mixed_up:BindOk "_law_mixed_up" RQ.s__law_mixed_up ["box","some"]:=fun _ _ _ _ _ _=>ln2 fun _ _=>rfl
theorem b__law_closed:BindOk "_law_closed" RQ.s__law_closed ["pairs"]:=fun _ _ _ _ _ _=>ln1 fun _=>rfl
theorem b__law_order:BindOk "_law_order" RQ.s__law_order ["box","most"]:=fun _ _ _ _ _ _=>ln2 fun _ _=>rfl
theorem b__law_apart:BindOk "_law_apart" RQ.s__law_apart ["order","a","b"]:=fun _ _ _ _ _ _=>ln3 fun _ _ _=>rfl
theorem b__law_turns:BindOk "_law_turns" RQ.s__law_turns ["order"]:=fun _ _ _ _ _ _=>ln1 fun _=>rfl
theorem b__law_told:BindOk "_law_told" RQ.s__law_told ["many","rows"]:=fun _ _ _ _ _ _=>ln2 fun _ _=>rfl
theorem b__law_is_turn:BindOk "_law_is_turn" RQ.s__law_is_turn ["order","thing"]:=fun _ _ _ _ _ _=>ln2 fun _ _=>rfl
theorem b__law_leads:BindOk "_law_leads" RQ.s__law_leads ["order","one","other"]:=fun _ _ _ _ _ _=>ln3 fun _ _ _=>rfl
theorem b__law_is_ring:BindOk "_law_is_ring" RQ.s__law_is_ring ["thing","order"]:=fun _ _ _ _ _ _=>ln2 fun _ _=>rfl
theorem b__law_crown:BindOk "_law_crown" RQ.s__law_crown ["box"]:=fun _ _ _ _ _ _=>ln1 fun _=>rfl
theorem b__law_any_order:BindOk "_law_any_order" RQ.s__law_any_order ["box","most"]:=fun _ _ _ _ _ _=>ln2 fun _ _=>rfl
theorem b__law_along:BindOk "_law_along" RQ.s__law_along ["box","order"]:=fun _ _ _ _ _ _=>ln2 fun _ _=>rfl
theorem b__law_bent:BindOk "_law_bent" RQ.s__law_bent ["box","some","many","odd"]:=fun _ _ _ _ _ _=>ln4 fun _ _ _ _=>rfl
theorem all_mk {l:PySem.W.OpenLaw}{w:World}{K:PySem.W.Frag}{h:Heap}{mg:Str->Option Value}{fa f36 x0:Addr}(X:K.In h)(G:h.Ns mainGlobals mg)(hfa:mg "law"=some (.ref fa))
  {od36 an36:Option Addr} {sl36:Array (Option Value)} {oc36 kV36 dc36 pm36 cd36 ct36:Value} {tMOST_THINGS:Tok}
  (F1:Fo K mg "is_whole" RQ.s_is_whole ["thing"])
  (F2:Fo K mg "is_below" RQ.s_is_below ["thing","bound"])
  (F3:Fo K mg "is_many" RQ.s_is_many ["thing"])
  (F4:Fo K mg "is_pair" RQ.s_is_pair ["thing","many"])
  (F5:Fo K mg "every_pair" RQ.s_every_pair ["many"])
  (F6:Fo K mg "closed" sClosed ["many","pairs"])
  (F7:Fo K mg "has_ring" RQ.s_has_ring ["pairs"])
  (F8:Fo K mg "is_order" RQ.s_is_order ["thing"])
  (F9:Fo K mg "need_order" RQ.s_need_order ["thing"])
  (F10:Fo K mg "are_apart" RQ.s_are_apart ["order","a","b"])
  (F11:Fo K mg "is_turn" RQ.s_is_turn ["thing","order"])
  (F12:Fo K mg "are_turns" RQ.s_are_turns ["thing","order"])
  (F13:Fo K mg "leads_on" RQ.s_leads_on ["order","turn","other"])
  (F14:Fo K mg "goes_round" RQ.s_goes_round ["thing","order"])
  (F15:Fo K mg "is_ring" RQ.s_is_ring ["thing","order"])
  (F16:Fo K mg "_law_cell" RQ.s__law_cell ["script","k"])
  (F17:Fo K mg "_law_mix" RQ.s__law_mix ["cell","k"])
  (F18:Fo K mg "_law_box" RQ.s__law_box ["script","k"])
  (F19:Fo K mg "_law_take" RQ.s__law_take ["box","many"])
  (F20:Fo K mg "_law_whole" RQ.s__law_whole ["thing"])
  (F21:Fo K mg "_law_truth" RQ.s__law_truth ["found","due"])
  (F22:Fo K mg "_law_odd" RQ.s__law_odd ["box"])
  (F23:Fo K mg "_law_mixed_up" RQ.s__law_mixed_up ["box","some"])
  (F24:Fo K mg "_law_closed" RQ.s__law_closed ["pairs"])
  (F25:Fo K mg "_law_order" RQ.s__law_order ["box","most"])
  (F26:Fo K mg "_law_apart" RQ.s__law_apart ["order","a","b"])
  (F27:Fo K mg "_law_turns" RQ.s__law_turns ["order"])
  (F28:Fo K mg "_law_told" RQ.s__law_told ["many","rows"])
  (F29:Fo K mg "_law_is_turn" RQ.s__law_is_turn ["order","thing"])
  (F30:Fo K mg "_law_leads" RQ.s__law_leads ["order","one","other"])
  (F31:Fo K mg "_law_is_ring" RQ.s__law_is_ring ["thing","order"])
  (F32:Fo K mg "_law_crown" RQ.s__law_crown ["box"])
  (F33:Fo K mg "_law_any_order" RQ.s__law_any_order ["box","most"])
  (F34:Fo K mg "_law_along" RQ.s__law_along ["box","order"])
  (F35:Fo K mg "_law_bent" RQ.s__law_bent ["box","some","many","odd"])
  (a36:PySem.W.nsIn K mainGlobals "law"=some (some (.ref f36))) (l36:K.lookup f36=some ⟨oc36,od36,.func (PySem.W.fnOf "law" "law" (defArgs RQ.s_law) (defBody RQ.s_law) (defScope RQ.s_law) .none kV36 dc36 pm36 an36 cd36 ct36),sl36⟩) (c36:PySem.W.codeIn K cd36 "law"=true) (k36:PySem.W.keepIn K (.ref f36)=true)
  (zB:btB K=true)
  (yMOST_THINGS:PySem.W.nsIn K mainGlobals "MOST_THINGS"=some (some (.int 8 tMOST_THINGS)))
  (m0:PySem.W.nsIn K mainGlobals "NoOrder"=some (some (.ref x0)))
  (e0:PySem.W.excIn K x0 [.type "ValueError",.type "Exception",.type "BaseException",.type "object"] "ValueError.__new__"=true)
  :∃fd:FuncData,(∀(s:Shared) (v:Value),BindsTo s fd ⟨[v],[]⟩ [("script",v)])/\∀base:Heap,K.In base->base.Ns mainGlobals mg->FnOk l.prog w K mg base (CXr l.prog w) 8 fa fd ["script"] (spLaw K):=by
 have e:=hfa.symm.trans (PySem.W.mg_of X G a36)
 cases e
 have B:BtK mg:=bt_mk X G zB
 have c_MOST_THINGS:=PySem.W.mg_of X G yMOST_THINGS
 obtain⟨f1,d1,F_is_whole⟩:=F1.ex
 obtain⟨f2,d2,F_is_below⟩:=F2.ex
 obtain⟨f3,d3,F_is_many⟩:=F3.ex
 obtain⟨f4,d4,F_is_pair⟩:=F4.ex
 obtain⟨f5,d5,F_every_pair⟩:=F5.ex
 obtain⟨f6,d6,F_closed⟩:=F6.ex
 obtain⟨f7,d7,F_has_ring⟩:=F7.ex
 obtain⟨f8,d8,F_is_order⟩:=F8.ex
 obtain⟨f9,d9,F_need_order⟩:=F9.ex
 obtain⟨f10,d10,F_are_apart⟩:=F10.ex
 obtain⟨f11,d11,F_is_turn⟩:=F11.ex
 obtain⟨f12,d12,F_are_turns⟩:=F12.ex
 obtain⟨f13,d13,F_leads_on⟩:=F13.ex
 obtain⟨f14,d14,F_goes_round⟩:=F14.ex
 obtain⟨f15,d15,F_is_ring⟩:=F15.ex
 obtain⟨f16,d16,F__law_cell⟩:=F16.ex
 obtain⟨f17,d17,F__law_mix⟩:=F17.ex
 obtain⟨f18,d18,F__law_box⟩:=F18.ex
 obtain⟨f19,d19,F__law_take⟩:=F19.ex
 obtain⟨f20,d20,F__law_whole⟩:=F20.ex
 obtain⟨f21,d21,F__law_truth⟩:=F21.ex
 obtain⟨f22,d22,F__law_odd⟩:=F22.ex
 obtain⟨f23,d23,F__law_mixed_up⟩:=F23.ex
 obtain⟨f24,d24,F__law_closed⟩:=F24.ex
 obtain⟨f25,d25,F__law_order⟩:=F25.ex
 obtain⟨f26,d26,F__law_apart⟩:=F26.ex
 obtain⟨f27,d27,F__law_turns⟩:=F27.ex
 obtain⟨f28,d28,F__law_told⟩:=F28.ex
 obtain⟨f29,d29,F__law_is_turn⟩:=F29.ex
 obtain⟨f30,d30,F__law_leads⟩:=F30.ex
 obtain⟨f31,d31,F__law_is_ring⟩:=F31.ex
 obtain⟨f32,d32,F__law_crown⟩:=F32.ex
 obtain⟨f33,d33,F__law_any_order⟩:=F33.ex
 obtain⟨f34,d34,F__law_along⟩:=F34.ex
 obtain⟨f35,d35,F__law_bent⟩:=F35.ex
 have U36:=fun_mk (st:=RQ.s_law) l36 c36 k36
 have F_law:FnK K mg "law" RQ.s_law ["script"] fa _:=⟨PySem.W.mg_of X G a36,U36,U36.binds (ps:=["script"]) fun _ _ _ _ _ _=>ln1 fun _=>rfl⟩
 obtain⟨ca,hca⟩:∃ca:Str->Addr,ca "NoOrder"=x0:=⟨fun _=>x0,by first |rfl |decide |simp⟩
 have e_NoOrder:Exc K mg ca "NoOrder":=⟨by rw [hca];exact PySem.W.mg_of X G m0,by rw [hca];exact e0⟩
 refine⟨PySem.W.fnOf "law" "law" (defArgs RQ.s_law) (defBody RQ.s_law) (defScope RQ.s_law) .none kV36 dc36 pm36 an36 cd36 ct36,fun s v=>.of_eq rfl,fun base _ _=>?_⟩
 have h_is_whole:=(RQ.has_is_whole (P:=l.prog) (w:=w) (base:=base) (ca:=ca) F_is_whole B).imp r_whole
 have h_is_below:=(RQ.has_is_below (P:=l.prog) (w:=w) (base:=base) (ca:=ca) F_is_below B h_is_whole).imp r_below
 have h_is_many:=(RQ.has_is_many (P:=l.prog) (w:=w) (base:=base) (ca:=ca) F_is_many B h_is_whole c_MOST_THINGS).imp r_many
 have h_is_pairG:=RQ.has_is_pair (P:=l.prog) (w:=w) (base:=base) (ca:=ca) F_is_pair B h_is_below
 have h_is_pair:=(RQ.has_is_pair (P:=l.prog) (w:=w) (base:=base) (ca:=ca) F_is_pair B h_is_below).imp r_pair
 have h_every_pair:=RQ.has_every_pair (P:=l.prog) (w:=w) (base:=base) (ca:=ca) F_every_pair B
 have h_closed:=has_closed (P:=l.prog) (w:=w) (base:=base) (ca:=ca) F_closed F_every_pair B
 have h_has_ring:=(RQ.has_has_ring (P:=l.prog) (w:=w) (base:=base) (ca:=ca) F_has_ring B).imp r_ring
 have h_is_order:=(RQ.has_is_order (P:=l.prog) (w:=w) (base:=base) (ca:=ca) F_is_order B h_is_many h_is_pair h_closed h_has_ring).imp rr_isOrder
 have h_need_order:=(RQ.has_need_order (P:=l.prog) (w:=w) (base:=base) (ca:=ca) F_need_order B h_is_order e_NoOrder).imp rr_need
 have h_are_apart:=RQ.has_are_apart (P:=l.prog) (w:=w) (base:=base) (ca:=ca) F_are_apart B
 have h_is_turn:=RQ.has_is_turn (P:=l.prog) (w:=w) (base:=base) (ca:=ca) F_is_turn B h_is_pairG h_are_apart
 have h_are_turns:=RQ.has_are_turns (P:=l.prog) (w:=w) (base:=base) (ca:=ca) F_are_turns B h_is_turn
 have h_leads_on:=RQ.has_leads_on (P:=l.prog) (w:=w) (base:=base) (ca:=ca) F_leads_on B
 have h_goes_round:=RQ.has_goes_round (P:=l.prog) (w:=w) (base:=base) (ca:=ca) F_goes_round B h_are_turns h_leads_on
 have h_is_ring:=RQ.has_is_ring (P:=l.prog) (w:=w) (base:=base) (ca:=ca) F_is_ring B h_need_order h_goes_round
 have h__law_cell:=RQ.has__law_cell (P:=l.prog) (w:=w) (base:=base) (ca:=ca) F__law_cell B
 have h__law_mix:=RQ.has__law_mix (P:=l.prog) (w:=w) (base:=base) (ca:=ca) F__law_mix B
 have h__law_box:=RQ.has__law_box (P:=l.prog) (w:=w) (base:=base) (ca:=ca) F__law_box B h__law_cell h__law_mix
 have h__law_take:=RQ.has__law_take (P:=l.prog) (w:=w) (base:=base) F__law_take B
 have h__law_whole:=RQ.has__law_whole (P:=l.prog) (w:=w) (base:=base) (ca:=ca) F__law_whole B
 have h__law_truth:=RQ.has__law_truth (P:=l.prog) (w:=w) (base:=base) (ca:=ca) F__law_truth B
 have h__law_odd:=RQ.has__law_odd (P:=l.prog) (w:=w) (base:=base) F__law_odd B h__law_take
 have h__law_mixed_up:=RQ.has__law_mixed_up (P:=l.prog) (w:=w) (base:=base) F__law_mixed_up B h__law_take
 have h__law_closed:=RQ.has__law_closed (P:=l.prog) (w:=w) (base:=base) (ca:=ca) F__law_closed B
 have h__law_order:=RQ.has__law_order (P:=l.prog) (w:=w) (base:=base) (ca:=ca) F__law_order B h__law_closed h__law_take h__law_mixed_up
 have h__law_apart:=RQ.has__law_apart (P:=l.prog) (w:=w) (base:=base) (ca:=ca) F__law_apart B
 have h__law_turns:=RQ.has__law_turns (P:=l.prog) (w:=w) (base:=base) (ca:=ca) F__law_turns B h__law_apart
 have h__law_told:=RQ.has__law_told (P:=l.prog) (w:=w) (base:=base) (ca:=ca) F__law_told B
 have h__law_is_turn:=RQ.has__law_is_turn (P:=l.prog) (w:=w) (base:=base) (ca:=ca) F__law_is_turn B h__law_whole h__law_turns
 have h__law_leads:=RQ.has__law_leads (P:=l.prog) (w:=w) (base:=base) (ca:=ca) F__law_leads B
 have h__law_is_ring:=RQ.has__law_is_ring (P:=l.prog) (w:=w) (base:=base) (ca:=ca) F__law_is_ring B h__law_is_turn h__law_leads
 have h__law_crown:=RQ.has__law_crown (P:=l.prog) (w:=w) (base:=base) F__law_crown B h__law_take h__law_mixed_up
 have h__law_any_order:=RQ.has__law_any_order (P:=l.prog) (w:=w) (base:=base) (ca:=ca) F__law_any_order B h__law_told h__law_take h__law_crown h__law_mixed_up h__law_order
 have h__law_along:=RQ.has__law_along (P:=l.prog) (w:=w) (base:=base) (ca:=ca) F__law_along B h__law_turns h__law_leads h__law_take
 have h__law_bent:=RQ.has__law_bent (P:=l.prog) (w:=w) (base:=base) F__law_bent B h__law_take
 have h_law:=RQ.has_law (P:=l.prog) (w:=w) (base:=base) (ca:=ca) F_law B h__law_box h__law_truth h_is_ring h__law_is_ring h__law_any_order h__law_odd h__law_along h__law_bent
 exact FnOk.imp (sp:=spP K ca 1 lawF) h_law law_sp
theorem walk {l:PySem.W.OpenLaw}{q:Program}{loose:List Str}{XP:(Str->Option Value)->Heap->Prop}{YP:World->Heap->Prop}{d:DefRec}{K:Params->PySem.W.Frag}(hn:l.most=some 63)(hdf:d.params.defaults= [])(hi:PyProof.Rows.importsNone q=true)
  (hY:∀(w:World) (h:Heap),YP w h->(K w.params).In h)
  (F:∀(w:World) (mg:Str->Option Value) (fa:Addr) (h:Heap),(K w.params).In h->h.Ns mainGlobals mg->mg d.name=some (.ref fa)->
   ∃fd:FuncData,(∀(s:Shared) (u:Value),BindsTo s fd ⟨[u],[]⟩ [("script",u)])/\∀base:Heap,(K w.params).In base->base.Ns mainGlobals mg->FnOk l.prog w (K w.params) mg base (CXr l.prog w) 8 fa fd ["script"] (spLaw (K w.params))) :
  PySem.W.WalkO q loose XP YP l.row.toRowW d [] (fun f vs=>PySem.call f vs):=
 L2.walk_of (n:=63) (k:=8) (x:="script") (CX:=fun w=>CXr l.prog w) (sp:=fun w=>spLaw (K w.params)) hn (by decide) hdf hi ⟨rfl,by decide,by decide,rfl⟩ hY F (fun _ _ a ns hl _ hS=>⟨a,ns,rfl,hS,fun _ _=>rfl⟩) fun _ _ _ _ _ z=>by
  obtain⟨_,_,_,_,_,_,_,_,_,z⟩:=z
  exact z
end RO
namespace HD
noncomputable def vw:PySem.Program:=PySem.W.view PySem.Challenge.pw_rowsorder_k24_rings_looked_at [1,2,3,4,5,6,8,9,11,12,13,14,15,17,18,19,20,21,23,24,25,26,27,28,29,30,31,32,33,34,35,36,37,38,39,40,41,42,43]
theorem said:PySem.Challenge.rw_rowsorder_k24_rings_looked_at.wellSaid=true:=by kernel_rfl
end HD
local macro_rules | `(tactic|o_head $H)=>`(tactic| (
 refine PySem.W.holds_open (q:=HD.vw) (loose:=[]) (Xt:=fun s=>PySem.W.xlAt HD.vw [] s && PySem.W.recOk (PySem.W.RowW.records _) s) (XP:=PySem.W.XL HD.vw []) (Yf:=PySem.W.Hook.obs $H) (Ya:=PySem.W.Hook.val $H) (YP:=PySem.W.Hook.says $H) (N:=3142) ?hl (PySem.W.Hook.of $H) (PySem.W.Hook.keeps $H) (fun s e=>PySem.W.xl_of s (Bool.and_eq_true_iff.mp e).1) PySem.W.XL.keeps (by rfl) (by rfl) (by rfl) (fun s e=>PySem.W.recFacts_of (Bool.and_eq_true_iff.mp e).2) (by rfl) (by first |assumption |decide +kernel) (by decide +kernel) ⟨rfl,rfl,rfl,rfl,rfl,by decide +kernel⟩ ?hw ?hc
 case hl=>exact HD.left_of (by kernel_rfl) (by kernel_rfl) (fun s=>by kernel_rfl) (fun w os=>by kernel_rfl)))
open PySem PySem.W PyProof.Rows L2
set_option maxRecDepth 100000 in
set_option maxHeartbeats 0 in
theorem PySem.Challenge.cw_rowsorder_k24_rings_looked_at_holds : PySem.Challenge.rw_rowsorder_k24_rings_looked_at.Holds := by
 w_on;(refine holds_law HD.said fun said=>?_);k_head;(case hw=>w_witness2)
 k_fill
 refine RO.walk (l:=PySem.Challenge.rw_rowsorder_k24_rings_looked_at) rfl rfl ?hi (fun w h Y=>PySem.W.kIn_of Y) ?F
 case hi=>kernel_rfl
 case F=>
  intro w mg fa h KX G hmg
  refine' RO.all_mk KX G hmg ?F1 ?F2 ?F3 ?F4 ?F5 ?F6 ?F7 ?F8 ?F9 ?F10 ?F11 ?F12 ?F13 ?F14 ?F15 ?F16 ?F17 ?F18 ?F19 ?F20 ?F21 ?F22 ?F23 ?F24 ?F25 ?F26 ?F27 ?F28 ?F29 ?F30 ?F31 ?F32 ?F33 ?F34 ?F35 ?a36 ?l36 ?c36 ?k36 ?zB ?yMOST_THINGS ?m0 ?e0
  case F1=>refine' fo_mk KX G RO.b_is_whole ?a ?l ?c ?k;(case a=>k_is);(case l=>k_is);(case c=>k_is);(case k=>k_is)
  case F2=>refine' fo_mk KX G RO.b_is_below ?a ?l ?c ?k;(case a=>k_is);(case l=>k_is);(case c=>k_is);(case k=>k_is)
  case F3=>refine' fo_mk KX G RO.b_is_many ?a ?l ?c ?k;(case a=>k_is);(case l=>k_is);(case c=>k_is);(case k=>k_is)
  case F4=>refine' fo_mk KX G RO.b_is_pair ?a ?l ?c ?k;(case a=>k_is);(case l=>k_is);(case c=>k_is);(case k=>k_is)
  case F5=>refine' fo_mk KX G RO.b_every_pair ?a ?l ?c ?k;(case a=>k_is);(case l=>k_is);(case c=>k_is);(case k=>k_is)
  case F6=>refine' fo_mk KX G RO.b_closed ?a ?l ?c ?k;(case a=>k_is);(case l=>k_is);(case c=>k_is);(case k=>k_is)
  case F7=>refine' fo_mk KX G RO.b_has_ring ?a ?l ?c ?k;(case a=>k_is);(case l=>k_is);(case c=>k_is);(case k=>k_is)
  case F8=>refine' fo_mk KX G RO.b_is_order ?a ?l ?c ?k;(case a=>k_is);(case l=>k_is);(case c=>k_is);(case k=>k_is)
  case F9=>refine' fo_mk KX G RO.b_need_order ?a ?l ?c ?k;(case a=>k_is);(case l=>k_is);(case c=>k_is);(case k=>k_is)
  case F10=>refine' fo_mk KX G RO.b_are_apart ?a ?l ?c ?k;(case a=>k_is);(case l=>k_is);(case c=>k_is);(case k=>k_is)
  case F11=>refine' fo_mk KX G RO.b_is_turn ?a ?l ?c ?k;(case a=>k_is);(case l=>k_is);(case c=>k_is);(case k=>k_is)
  case F12=>refine' fo_mk KX G RO.b_are_turns ?a ?l ?c ?k;(case a=>k_is);(case l=>k_is);(case c=>k_is);(case k=>k_is)
  case F13=>refine' fo_mk KX G RO.b_leads_on ?a ?l ?c ?k;(case a=>k_is);(case l=>k_is);(case c=>k_is);(case k=>k_is)
  case F14=>refine' fo_mk KX G RO.b_goes_round ?a ?l ?c ?k;(case a=>k_is);(case l=>k_is);(case c=>k_is);(case k=>k_is)
  case F15=>refine' fo_mk KX G RO.b_is_ring ?a ?l ?c ?k;(case a=>k_is);(case l=>k_is);(case c=>k_is);(case k=>k_is)
  case F16=>refine' fo_mk KX G RO.b__law_cell ?a ?l ?c ?k;(case a=>k_is);(case l=>k_is);(case c=>k_is);(case k=>k_is)
  case F17=>refine' fo_mk KX G RO.b__law_mix ?a ?l ?c ?k;(case a=>k_is);(case l=>k_is);(case c=>k_is);(case k=>k_is)
  case F18=>refine' fo_mk KX G RO.b__law_box ?a ?l ?c ?k;(case a=>k_is);(case l=>k_is);(case c=>k_is);(case k=>k_is)
  case F19=>refine' fo_mk KX G RO.b__law_take ?a ?l ?c ?k;(case a=>k_is);(case l=>k_is);(case c=>k_is);(case k=>k_is)
  case F20=>refine' fo_mk KX G RO.b__law_whole ?a ?l ?c ?k;(case a=>k_is);(case l=>k_is);(case c=>k_is);(case k=>k_is)
  case F21=>refine' fo_mk KX G RO.b__law_truth ?a ?l ?c ?k;(case a=>k_is);(case l=>k_is);(case c=>k_is);(case k=>k_is)
  case F22=>refine' fo_mk KX G RO.b__law_odd ?a ?l ?c ?k;(case a=>k_is);(case l=>k_is);(case c=>k_is);(case k=>k_is)
  case F23=>refine' fo_mk KX G RO.b__law_mixed_up ?a ?l ?c ?k;(case a=>k_is);(case l=>k_is);(case c=>k_is);(case k=>k_is)
  case F24=>refine' fo_mk KX G RO.b__law_closed ?a ?l ?c ?k;(case a=>k_is);(case l=>k_is);(case c=>k_is);(case k=>k_is)
  case F25=>refine' fo_mk KX G RO.b__law_order ?a ?l ?c ?k;(case a=>k_is);(case l=>k_is);(case c=>k_is);(case k=>k_is)
  case F26=>refine' fo_mk KX G RO.b__law_apart ?a ?l ?c ?k;(case a=>k_is);(case l=>k_is);(case c=>k_is);(case k=>k_is)
  case F27=>refine' fo_mk KX G RO.b__law_turns ?a ?l ?c ?k;(case a=>k_is);(case l=>k_is);(case c=>k_is);(case k=>k_is)
  case F28=>refine' fo_mk KX G RO.b__law_told ?a ?l ?c ?k;(case a=>k_is);(case l=>k_is);(case c=>k_is);(case k=>k_is)
  case F29=>refine' fo_mk KX G RO.b__law_is_turn ?a ?l ?c ?k;(case a=>k_is);(case l=>k_is);(case c=>k_is);(case k=>k_is)
  case F30=>refine' fo_mk KX G RO.b__law_leads ?a ?l ?c ?k;(case a=>k_is);(case l=>k_is);(case c=>k_is);(case k=>k_is)
  case F31=>refine' fo_mk KX G RO.b__law_is_ring ?a ?l ?c ?k;(case a=>k_is);(case l=>k_is);(case c=>k_is);(case k=>k_is)
  case F32=>refine' fo_mk KX G RO.b__law_crown ?a ?l ?c ?k;(case a=>k_is);(case l=>k_is);(case c=>k_is);(case k=>k_is)
  case F33=>refine' fo_mk KX G RO.b__law_any_order ?a ?l ?c ?k;(case a=>k_is);(case l=>k_is);(case c=>k_is);(case k=>k_is)
  case F34=>refine' fo_mk KX G RO.b__law_along ?a ?l ?c ?k;(case a=>k_is);(case l=>k_is);(case c=>k_is);(case k=>k_is)
  case F35=>refine' fo_mk KX G RO.b__law_bent ?a ?l ?c ?k;(case a=>k_is);(case l=>k_is);(case c=>k_is);(case k=>k_is)
  case a36=>k_is
  case l36=>k_is
  case c36=>k_is
  case k36=>k_is
  case zB=>kernel_rfl
  case yMOST_THINGS=>k_is
  case m0=>k_is
  case e0=>kernel_rfl

end
